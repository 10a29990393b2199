/-
  LogOrder: for every list of numbers the law returns true: records stand in the order in which they came, none lost, none twice, as long as there is room.
  Condition: none.
-/
import Derived.Test.YtohdgkmgkcoilaaLgl
import Derived.Test.YtohdgkmgkcoilaaLgd
import Derived.Test.YtohdgkmgkcoilaaRows
import Derived.ProofKit
import Derived.OpenShut
import Derived.Carry
import Derived.SizedLaws
import Derived.ChangeMaps5
set_option linter.unusedSimpArgs false
set_option linter.unusedVariables false
namespace Go.Proofs.Ytohdgkmgkcoilaa
open Go.RowKit Go.Ev
set_option linter.unusedVariables false
set_option maxRecDepth 100000
noncomputable section
def F67 (x0 x1 x2 x3 x4 x5 x6 x7 x8 x9 x10 x11 x12 x13 x14 x15 x16 x17 x18 x19 x20 x21 x22 x23 x24 x25 x26 x27 x28 x29 x30 x31 x32 x33 x34 x35 x36 x37 x38 x39 x40 x41 x42 x43 x44 x45 x46 x47 x48 x49 x50 x51 x52 x53 x54 x55 x56 x57 x58 x59 x60 x61 x62 x63 x64 x65 x66 : Value) : VT := ⟨67, (.node (.node (.node (.node (.node (.node (.node .nil x63 .nil) x31 .nil) x15 (.node .nil x47 .nil)) x7 (.node (.node .nil x39 .nil) x23 (.node .nil x55 .nil))) x3 (.node (.node (.node .nil x35 .nil) x19 (.node .nil x51 .nil)) x11 (.node (.node .nil x43 .nil) x27 (.node .nil x59 .nil)))) x1 (.node (.node (.node (.node (.node .nil x65 .nil) x33 .nil) x17 (.node .nil x49 .nil)) x9 (.node (.node .nil x41 .nil) x25 (.node .nil x57 .nil))) x5 (.node (.node (.node .nil x37 .nil) x21 (.node .nil x53 .nil)) x13 (.node (.node .nil x45 .nil) x29 (.node .nil x61 .nil))))) x0 (.node (.node (.node (.node (.node (.node .nil x64 .nil) x32 .nil) x16 (.node .nil x48 .nil)) x8 (.node (.node .nil x40 .nil) x24 (.node .nil x56 .nil))) x4 (.node (.node (.node .nil x36 .nil) x20 (.node .nil x52 .nil)) x12 (.node (.node .nil x44 .nil) x28 (.node .nil x60 .nil)))) x2 (.node (.node (.node (.node (.node .nil x66 .nil) x34 .nil) x18 (.node .nil x50 .nil)) x10 (.node (.node .nil x42 .nil) x26 (.node .nil x58 .nil))) x6 (.node (.node (.node .nil x38 .nil) x22 (.node .nil x54 .nil)) x14 (.node (.node .nil x46 .nil) x30 (.node .nil x62 .nil))))))⟩
theorem F67_arr (x0 x1 x2 x3 x4 x5 x6 x7 x8 x9 x10 x11 x12 x13 x14 x15 x16 x17 x18 x19 x20 x21 x22 x23 x24 x25 x26 x27 x28 x29 x30 x31 x32 x33 x34 x35 x36 x37 x38 x39 x40 x41 x42 x43 x44 x45 x46 x47 x48 x49 x50 x51 x52 x53 x54 x55 x56 x57 x58 x59 x60 x61 x62 x63 x64 x65 x66 : Value) : (F67 x0 x1 x2 x3 x4 x5 x6 x7 x8 x9 x10 x11 x12 x13 x14 x15 x16 x17 x18 x19 x20 x21 x22 x23 x24 x25 x26 x27 x28 x29 x30 x31 x32 x33 x34 x35 x36 x37 x38 x39 x40 x41 x42 x43 x44 x45 x46 x47 x48 x49 x50 x51 x52 x53 x54 x55 x56 x57 x58 x59 x60 x61 x62 x63 x64 x65 x66).arr = ⟨[x0, x1, x2, x3, x4, x5, x6, x7, x8, x9, x10, x11, x12, x13, x14, x15, x16, x17, x18, x19, x20, x21, x22, x23, x24, x25, x26, x27, x28, x29, x30, x31, x32, x33, x34, x35, x36, x37, x38, x39, x40, x41, x42, x43, x44, x45, x46, x47, x48, x49, x50, x51, x52, x53, x54, x55, x56, x57, x58, x59, x60, x61, x62, x63, x64, x65, x66]⟩ := by kernel_rfl
theorem F67_g2 (x0 x1 x2 x3 x4 x5 x6 x7 x8 x9 x10 x11 x12 x13 x14 x15 x16 x17 x18 x19 x20 x21 x22 x23 x24 x25 x26 x27 x28 x29 x30 x31 x32 x33 x34 x35 x36 x37 x38 x39 x40 x41 x42 x43 x44 x45 x46 x47 x48 x49 x50 x51 x52 x53 x54 x55 x56 x57 x58 x59 x60 x61 x62 x63 x64 x65 x66 : Value) : (F67 x0 x1 x2 x3 x4 x5 x6 x7 x8 x9 x10 x11 x12 x13 x14 x15 x16 x17 x18 x19 x20 x21 x22 x23 x24 x25 x26 x27 x28 x29 x30 x31 x32 x33 x34 x35 x36 x37 x38 x39 x40 x41 x42 x43 x44 x45 x46 x47 x48 x49 x50 x51 x52 x53 x54 x55 x56 x57 x58 x59 x60 x61 x62 x63 x64 x65 x66).get 2 = x2 := by kernel_rfl
attribute [push_cast] F67_g2
noncomputable def ir8_s0 : IR := (.seq (.seq (.ops [⟨(some 16), none, .take, (.move (.tmp 5)), 3⟩, ⟨(some 17), none, .take, (.move (.tmp 4)), 3⟩, ⟨(some 18), none, .take, (.binOp .lss 3 (.tmp 16) (.tmp 17) 3), 4⟩]) (.cond (.tmp 18) .skip (.exit 0))) (.seq (.block 1 (.seq (.ops [⟨(some 21), none, .take, (.move (.tmp 3)), 26⟩, ⟨(some 22), none, .take, (.move (.tmp 5)), 3⟩, ⟨(some 23), none, .take, (.convert 3 5 (.tmp 22)), 5⟩, ⟨(some 24), none, .eff, (.buildSlice 23 1 #[(0, (.tmp 23))]), 23⟩, ⟨(some 25), none, .take, (.move (.tmp 0)), 22⟩, ⟨(some 26), none, .take, (.move (.tmp 5)), 3⟩, ⟨(some 27), none, .take, (.indexAddr 22 (.tmp 25) (.tmp 26)), 0⟩, ⟨(some 28), none, .take, (.load 3 (.tmp 27)), 3⟩, ⟨(some 29), none, .call, (.call ⟨(.value (.func 14)), #[(.tmp 28), (.const (.int .i64 20))], #[3, 3]⟩), 3⟩, ⟨(some 30), none, .eff, (.call ⟨(.builtin .append), #[(.tmp 24), (.tmp 29)], #[23, 3]⟩), 23⟩, ⟨(some 31), none, .call, (.call ⟨(.value (.func 21)), #[(.tmp 21), (.tmp 30)], #[26, 23]⟩), 4⟩, ⟨(some 32), none, .take, (.unOp .not 4 (.tmp 31)), 4⟩]) (.cond (.tmp 32) (.seq (.ops [⟨(some 2), none, .take, (.assign (.const (.bool false))), 4⟩]) .ret) .skip))) (.ops [⟨(some 19), none, .take, (.move (.tmp 5)), 3⟩, ⟨(some 20), none, .take, (.binOp .add 3 (.tmp 19) (.const (.int .i64 1)) 3), 3⟩, ⟨(some 5), none, .take, (.assign (.tmp 20)), 3⟩])))
noncomputable def ir8_s1 : IR := (.seq (.ops [⟨(some 33), none, .take, (.move (.tmp 3)), 26⟩, ⟨(some 34), none, .call, (.call ⟨(.value (.func 23)), #[(.tmp 33)], #[26]⟩), 35⟩, ⟨(some 6), none, .take, (.assign (.tmp 34)), 35⟩]) (.seq (.seq (.ops [⟨(some 35), none, .take, (.move (.tmp 6)), 35⟩, ⟨(some 36), none, .take, (.call ⟨(.builtin .len), #[(.tmp 35)], #[35]⟩), 3⟩, ⟨(some 37), none, .take, (.move (.tmp 4)), 3⟩, ⟨(some 38), none, .take, (.binOp .neq 3 (.tmp 36) (.tmp 37) 3), 4⟩]) (.cond (.tmp 38) (.seq (.ops [⟨(some 2), none, .take, (.assign (.const (.bool false))), 4⟩]) .ret) .skip)) (.seq (.seq (.ops [⟨(some 7), none, .take, (.assign (.const (.int .i64 0))), 3⟩]) (.block 2 (.loop (.seq (.seq (.ops [⟨(some 39), none, .take, (.move (.tmp 7)), 3⟩, ⟨(some 40), none, .take, (.move (.tmp 4)), 3⟩, ⟨(some 41), none, .take, (.binOp .lss 3 (.tmp 39) (.tmp 40) 3), 4⟩]) (.cond (.tmp 41) .skip (.exit 2))) (.seq (.block 3 (.seq (.plan (.take 0 false ⟨(some 44), none, .take, (.move (.tmp 6)), 35⟩ (.take 1 false ⟨(some 45), none, .take, (.move (.tmp 7)), 3⟩ (.take 2 false ⟨(some 46), none, .take, (.indexAddr 35 (.tmp 44) (.tmp 45)), 0⟩ (.take 3 true ⟨(some 47), none, .take, (.load 23 (.tmp 46)), 23⟩ (.take 4 false ⟨(some 48), none, .take, (.call ⟨(.builtin .len), #[(.tmp 47)], #[23]⟩), 3⟩ (.take 5 false ⟨(some 49), none, .take, (.move (.tmp 0)), 22⟩ (.take 6 false ⟨(some 50), none, .take, (.move (.tmp 7)), 3⟩ (.take 7 false ⟨(some 51), none, .take, (.indexAddr 22 (.tmp 49) (.tmp 50)), 0⟩ (.take 8 true ⟨(some 52), none, .take, (.load 3 (.tmp 51)), 3⟩ (.eff 9 ⟨(some 53), none, .call, (.call ⟨(.value (.func 14)), #[(.tmp 52), (.const (.int .i64 20))], #[3, 3]⟩), 3⟩ [8] (.take 10 false ⟨(some 54), none, .take, (.binOp .add 3 (.const (.int .i64 1)) (.tmp 53) 3), 3⟩ (.take 11 false ⟨(some 55), none, .take, (.binOp .neq 3 (.tmp 48) (.tmp 54) 3), 4⟩ (.take 12 false ⟨(some 56), none, .take, (.move (.tmp 55)), 4⟩ (.take 13 false ⟨(some 57), (some (56, false)), .take, (.move (.tmp 6)), 35⟩ (.take 14 false ⟨(some 58), (some (56, false)), .take, (.move (.tmp 7)), 3⟩ (.take 15 false ⟨(some 59), (some (56, false)), .take, (.indexAddr 35 (.tmp 57) (.tmp 58)), 0⟩ (.take 16 true ⟨(some 60), (some (56, false)), .take, (.load 23 (.tmp 59)), 23⟩ (.take 17 false ⟨(some 61), (some (56, false)), .take, (.indexAddr 23 (.tmp 60) (.const (.int .i64 0))), 0⟩ (.take 18 true ⟨(some 62), (some (56, false)), .take, (.load 5 (.tmp 61)), 5⟩ (.take 19 false ⟨(some 63), (some (56, false)), .take, (.move (.tmp 7)), 3⟩ (.take 20 true ⟨(some 64), (some (56, false)), .take, (.convert 3 5 (.tmp 63)), 5⟩ (.take 21 false ⟨(some 65), (some (56, false)), .take, (.binOp .neq 5 (.tmp 62) (.tmp 64) 5), 4⟩ (.take 22 false ⟨(some 66), none, .take, (.pick (.tmp 56) (.const (.bool true)) (.tmp 65)), 4⟩ .fin))))))))))))) .no))))))))))) (.cond (.tmp 66) (.seq (.ops [⟨(some 2), none, .take, (.assign (.const (.bool false))), 4⟩]) .ret) .skip))) (.ops [⟨(some 42), none, .take, (.move (.tmp 7)), 3⟩, ⟨(some 43), none, .take, (.binOp .add 3 (.tmp 42) (.const (.int .i64 1)) 3), 3⟩, ⟨(some 7), none, .take, (.assign (.tmp 43)), 3⟩])))))) (.seq (.ops [⟨(some 2), none, .take, (.assign (.const (.bool true))), 4⟩]) .ret))))
noncomputable def ir8_s2 : IR := (.seq (.seq (.ops [⟨(some 39), none, .take, (.move (.tmp 7)), 3⟩, ⟨(some 40), none, .take, (.move (.tmp 4)), 3⟩, ⟨(some 41), none, .take, (.binOp .lss 3 (.tmp 39) (.tmp 40) 3), 4⟩]) (.cond (.tmp 41) .skip (.exit 2))) (.seq (.block 3 (.seq (.plan (.take 0 false ⟨(some 44), none, .take, (.move (.tmp 6)), 35⟩ (.take 1 false ⟨(some 45), none, .take, (.move (.tmp 7)), 3⟩ (.take 2 false ⟨(some 46), none, .take, (.indexAddr 35 (.tmp 44) (.tmp 45)), 0⟩ (.take 3 true ⟨(some 47), none, .take, (.load 23 (.tmp 46)), 23⟩ (.take 4 false ⟨(some 48), none, .take, (.call ⟨(.builtin .len), #[(.tmp 47)], #[23]⟩), 3⟩ (.take 5 false ⟨(some 49), none, .take, (.move (.tmp 0)), 22⟩ (.take 6 false ⟨(some 50), none, .take, (.move (.tmp 7)), 3⟩ (.take 7 false ⟨(some 51), none, .take, (.indexAddr 22 (.tmp 49) (.tmp 50)), 0⟩ (.take 8 true ⟨(some 52), none, .take, (.load 3 (.tmp 51)), 3⟩ (.eff 9 ⟨(some 53), none, .call, (.call ⟨(.value (.func 14)), #[(.tmp 52), (.const (.int .i64 20))], #[3, 3]⟩), 3⟩ [8] (.take 10 false ⟨(some 54), none, .take, (.binOp .add 3 (.const (.int .i64 1)) (.tmp 53) 3), 3⟩ (.take 11 false ⟨(some 55), none, .take, (.binOp .neq 3 (.tmp 48) (.tmp 54) 3), 4⟩ (.take 12 false ⟨(some 56), none, .take, (.move (.tmp 55)), 4⟩ (.take 13 false ⟨(some 57), (some (56, false)), .take, (.move (.tmp 6)), 35⟩ (.take 14 false ⟨(some 58), (some (56, false)), .take, (.move (.tmp 7)), 3⟩ (.take 15 false ⟨(some 59), (some (56, false)), .take, (.indexAddr 35 (.tmp 57) (.tmp 58)), 0⟩ (.take 16 true ⟨(some 60), (some (56, false)), .take, (.load 23 (.tmp 59)), 23⟩ (.take 17 false ⟨(some 61), (some (56, false)), .take, (.indexAddr 23 (.tmp 60) (.const (.int .i64 0))), 0⟩ (.take 18 true ⟨(some 62), (some (56, false)), .take, (.load 5 (.tmp 61)), 5⟩ (.take 19 false ⟨(some 63), (some (56, false)), .take, (.move (.tmp 7)), 3⟩ (.take 20 true ⟨(some 64), (some (56, false)), .take, (.convert 3 5 (.tmp 63)), 5⟩ (.take 21 false ⟨(some 65), (some (56, false)), .take, (.binOp .neq 5 (.tmp 62) (.tmp 64) 5), 4⟩ (.take 22 false ⟨(some 66), none, .take, (.pick (.tmp 56) (.const (.bool true)) (.tmp 65)), 4⟩ .fin))))))))))))) .no))))))))))) (.cond (.tmp 66) (.seq (.ops [⟨(some 2), none, .take, (.assign (.const (.bool false))), 4⟩]) .ret) .skip))) (.ops [⟨(some 42), none, .take, (.move (.tmp 7)), 3⟩, ⟨(some 43), none, .take, (.binOp .add 3 (.tmp 42) (.const (.int .i64 1)) 3), 3⟩, ⟨(some 7), none, .take, (.assign (.tmp 43)), 3⟩])))
noncomputable def ir8_s3 : IR := (.seq (.ops [⟨(some 2), none, .take, (.assign (.const (.bool true))), 4⟩]) .ret)
theorem sh_ir8 (G : Nat) (h : Heap) (a0 : Value) (R : Value → Heap → Prop) : vc3 (pp G) none ir8 ⟨(F67 a0 undef undef undef undef undef undef undef undef undef undef undef undef undef undef undef undef undef undef undef undef undef undef undef undef undef undef undef undef undef undef undef undef undef undef undef undef undef undef undef undef undef undef undef undef undef undef undef undef undef undef undef undef undef undef undef undef undef undef undef undef undef undef undef undef undef undef), [], h⟩ (finR Try.prog [(.tmp 2)] R) = (oT (some (.bool false)) none h (@kk ⟨(fun v1 h2 => CallV (pp G) (.func (.func 13) #[] #[]) [] h2 (@kk ⟨(fun v3 h4 => oT (unV Try.prog .not v3) none h4 (@kk ⟨(fun v5 h6 => vcond v5 (@kb ⟨(oT (some (.bool false)) none h6 (@kk ⟨(fun v7 h8 => R v7 h8)⟩))⟩) (@kb ⟨(CallV (pp G) (.func (.func 15) #[] #[]) [(.int .i64 100000)] h6 (@kk ⟨(fun v9 h10 => oT (some v9) none h10 (@kk ⟨(fun v11 h12 => oT (some v11) none h12 (@kk ⟨(fun v13 h14 => oT (binPure Try.prog .eql 26 (.tmp 11) (.const (.pointer none)) v13 (.pointer none)) none h14 (@kk ⟨(fun v15 h16 => vcond v15 (@kb ⟨(oT (some (.bool false)) none h16 (@kk ⟨(fun v17 h18 => R v17 h18)⟩))⟩) (@kb ⟨(oT (some a0) none h16 (@kk ⟨(fun v19 h20 => oT (lnB (lnT Try.prog 22) v19) none h20 (@kk ⟨(fun v21 h22 => oT (mnV Try.prog #[3, 3] 3 [v21, (.int .i64 30)]) none h22 (@kk ⟨(fun v23 h24 => oT (some v23) none h24 (@kk ⟨(fun v25 h26 => oT (some (.int .i64 0)) none h26 (@kk ⟨(fun v27 h28 => W (pp G) none (.loop ir8_s0) ⟨(F67 a0 undef v1 v11 v25 v27 undef undef v3 v5 v9 v13 v15 v19 v21 v23 undef undef undef undef undef undef undef undef undef undef undef undef undef undef undef undef undef undef undef undef undef undef undef undef undef undef undef undef undef undef undef undef undef undef undef undef undef undef undef undef undef undef undef undef undef undef undef undef undef undef undef), [], h28⟩ (@kR ⟨(outR3 0 (thenR3 (fun s1 => vc3 (pp G) none ir8_s1 s1 (@kR ⟨(finR Try.prog [(.tmp 2)] R)⟩)) (finR Try.prog [(.tmp 2)] R)))⟩))⟩))⟩))⟩))⟩))⟩))⟩))⟩))⟩))⟩))⟩))⟩))⟩))⟩))⟩)) := by kernel_rfl
theorem sh_ir8_s0 (G : Nat) (ro : Option Nat) (df : List Nat) (h : Heap) (x0 x1 x2 x3 x4 x5 x6 x7 x8 x9 x10 x11 x12 x13 x14 x15 x16 x17 x18 x19 x20 x21 x22 x23 x24 x25 x26 x27 x28 x29 x30 x31 x32 x33 x34 x35 x36 x37 x38 x39 x40 x41 x42 x43 x44 x45 x46 x47 x48 x49 x50 x51 x52 x53 x54 x55 x56 x57 x58 x59 x60 x61 x62 x63 x64 x65 x66 : Value) (R : XExit → S → Prop) : vc3 (pp G) ro ir8_s0 ⟨(F67 x0 x1 x2 x3 x4 x5 x6 x7 x8 x9 x10 x11 x12 x13 x14 x15 x16 x17 x18 x19 x20 x21 x22 x23 x24 x25 x26 x27 x28 x29 x30 x31 x32 x33 x34 x35 x36 x37 x38 x39 x40 x41 x42 x43 x44 x45 x46 x47 x48 x49 x50 x51 x52 x53 x54 x55 x56 x57 x58 x59 x60 x61 x62 x63 x64 x65 x66), df, h⟩ R = (oT (some x5) none h (@kk ⟨(fun v1 h2 => oT (some x4) none h2 (@kk ⟨(fun v3 h4 => oT (binPure Try.prog .lss 3 (.tmp 16) (.tmp 17) v1 v3) none h4 (@kk ⟨(fun v5 h6 => vcond v5 (@kb ⟨(oT (some x3) none h6 (@kk ⟨(fun v7 h8 => oT (some x5) none h8 (@kk ⟨(fun v9 h10 => oT (cvV Try.prog 3 5 v9 h10) none h10 (@kk ⟨(fun v11 h12 => oE (bsE (slT Try.prog 23) 1 [(0, v11)] h12) (@kk ⟨(fun v13 h14 => oT (some x0) none h14 (@kk ⟨(fun v15 h16 => oT (some x5) none h16 (@kk ⟨(fun v17 h18 => oT (iaV (esz Try.prog 22) v15 v17) none h18 (@kk ⟨(fun v19 h20 => oT (evLoad Try.prog 3 v19 h20) none h20 (@kk ⟨(fun v21 h22 => CallV (pp G) (.func (.func 14) #[] #[]) [v21, (.int .i64 20)] h22 (@kk ⟨(fun v23 h24 => oE (evAppend Try.prog 23 3 v13 v23 h24) (@kk ⟨(fun v25 h26 => CallV (pp G) (.func (.func 21) #[] #[]) [v7, v25] h26 (@kk ⟨(fun v27 h28 => oT (unV Try.prog .not v27) none h28 (@kk ⟨(fun v29 h30 => vcond v29 (@kb ⟨(oT (some (.bool false)) none h30 (@kk ⟨(fun v31 h32 => R .ret ⟨(F67 x0 x1 v31 x3 x4 x5 x6 x7 x8 x9 x10 x11 x12 x13 x14 x15 v1 v3 v5 x19 x20 v7 v9 v11 v13 v15 v17 v19 v21 v23 v25 v27 v29 x33 x34 x35 x36 x37 x38 x39 x40 x41 x42 x43 x44 x45 x46 x47 x48 x49 x50 x51 x52 x53 x54 x55 x56 x57 x58 x59 x60 x61 x62 x63 x64 x65 x66), df, h32⟩)⟩))⟩) (@kb ⟨(oT (some x5) none h30 (@kk ⟨(fun v33 h34 => oT (binPure Try.prog .add 3 (.tmp 19) (.const (.int .i64 1)) v33 (.int .i64 1)) none h34 (@kk ⟨(fun v35 h36 => oT (some v35) none h36 (@kk ⟨(fun v37 h38 => R .normal ⟨(F67 x0 x1 x2 x3 x4 v37 x6 x7 x8 x9 x10 x11 x12 x13 x14 x15 v1 v3 v5 v33 v35 v7 v9 v11 v13 v15 v17 v19 v21 v23 v25 v27 v29 x33 x34 x35 x36 x37 x38 x39 x40 x41 x42 x43 x44 x45 x46 x47 x48 x49 x50 x51 x52 x53 x54 x55 x56 x57 x58 x59 x60 x61 x62 x63 x64 x65 x66), df, h38⟩)⟩))⟩))⟩))⟩))⟩))⟩))⟩))⟩))⟩))⟩))⟩))⟩))⟩))⟩))⟩))⟩))⟩) (@kb ⟨(R (.exit 0) ⟨(F67 x0 x1 x2 x3 x4 x5 x6 x7 x8 x9 x10 x11 x12 x13 x14 x15 v1 v3 v5 x19 x20 x21 x22 x23 x24 x25 x26 x27 x28 x29 x30 x31 x32 x33 x34 x35 x36 x37 x38 x39 x40 x41 x42 x43 x44 x45 x46 x47 x48 x49 x50 x51 x52 x53 x54 x55 x56 x57 x58 x59 x60 x61 x62 x63 x64 x65 x66), df, h6⟩)⟩))⟩))⟩))⟩)) := by kernel_rfl
attribute [push_cast] sh_ir8_s0
theorem sh_ir8_s1 (G : Nat) (ro : Option Nat) (df : List Nat) (h : Heap) (x0 x1 x2 x3 x4 x5 x6 x7 x8 x9 x10 x11 x12 x13 x14 x15 x16 x17 x18 x19 x20 x21 x22 x23 x24 x25 x26 x27 x28 x29 x30 x31 x32 x33 x34 x35 x36 x37 x38 x39 x40 x41 x42 x43 x44 x45 x46 x47 x48 x49 x50 x51 x52 x53 x54 x55 x56 x57 x58 x59 x60 x61 x62 x63 x64 x65 x66 : Value) (R : XExit → S → Prop) : vc3 (pp G) ro ir8_s1 ⟨(F67 x0 x1 x2 x3 x4 x5 x6 x7 x8 x9 x10 x11 x12 x13 x14 x15 x16 x17 x18 x19 x20 x21 x22 x23 x24 x25 x26 x27 x28 x29 x30 x31 x32 x33 x34 x35 x36 x37 x38 x39 x40 x41 x42 x43 x44 x45 x46 x47 x48 x49 x50 x51 x52 x53 x54 x55 x56 x57 x58 x59 x60 x61 x62 x63 x64 x65 x66), df, h⟩ R = (oT (some x3) none h (@kk ⟨(fun v1 h2 => CallV (pp G) (.func (.func 23) #[] #[]) [v1] h2 (@kk ⟨(fun v3 h4 => oT (some v3) none h4 (@kk ⟨(fun v5 h6 => oT (some v5) none h6 (@kk ⟨(fun v7 h8 => oT (lnB (lnT Try.prog 35) v7) none h8 (@kk ⟨(fun v9 h10 => oT (some x4) none h10 (@kk ⟨(fun v11 h12 => oT (binPure Try.prog .neq 3 (.tmp 36) (.tmp 37) v9 v11) none h12 (@kk ⟨(fun v13 h14 => vcond v13 (@kb ⟨(oT (some (.bool false)) none h14 (@kk ⟨(fun v15 h16 => R .ret ⟨(F67 x0 x1 v15 x3 x4 x5 v5 x7 x8 x9 x10 x11 x12 x13 x14 x15 x16 x17 x18 x19 x20 x21 x22 x23 x24 x25 x26 x27 x28 x29 x30 x31 x32 v1 v3 v7 v9 v11 v13 x39 x40 x41 x42 x43 x44 x45 x46 x47 x48 x49 x50 x51 x52 x53 x54 x55 x56 x57 x58 x59 x60 x61 x62 x63 x64 x65 x66), df, h16⟩)⟩))⟩) (@kb ⟨(oT (some (.int .i64 0)) none h14 (@kk ⟨(fun v17 h18 => W (pp G) ro (.loop ir8_s2) ⟨(F67 x0 x1 x2 x3 x4 x5 v5 v17 x8 x9 x10 x11 x12 x13 x14 x15 x16 x17 x18 x19 x20 x21 x22 x23 x24 x25 x26 x27 x28 x29 x30 x31 x32 v1 v3 v7 v9 v11 v13 x39 x40 x41 x42 x43 x44 x45 x46 x47 x48 x49 x50 x51 x52 x53 x54 x55 x56 x57 x58 x59 x60 x61 x62 x63 x64 x65 x66), df, h18⟩ (@kR ⟨(outR3 2 (thenR3 (fun s1 => vc3 (pp G) ro ir8_s3 s1 (@kR ⟨R⟩)) R))⟩))⟩))⟩))⟩))⟩))⟩))⟩))⟩))⟩))⟩)) := by kernel_rfl
attribute [push_cast] sh_ir8_s1
theorem sh_ir8_s2 (G : Nat) (ro : Option Nat) (df : List Nat) (h : Heap) (x0 x1 x2 x3 x4 x5 x6 x7 x8 x9 x10 x11 x12 x13 x14 x15 x16 x17 x18 x19 x20 x21 x22 x23 x24 x25 x26 x27 x28 x29 x30 x31 x32 x33 x34 x35 x36 x37 x38 x39 x40 x41 x42 x43 x44 x45 x46 x47 x48 x49 x50 x51 x52 x53 x54 x55 x56 x57 x58 x59 x60 x61 x62 x63 x64 x65 x66 : Value) (R : XExit → S → Prop) : vc3 (pp G) ro ir8_s2 ⟨(F67 x0 x1 x2 x3 x4 x5 x6 x7 x8 x9 x10 x11 x12 x13 x14 x15 x16 x17 x18 x19 x20 x21 x22 x23 x24 x25 x26 x27 x28 x29 x30 x31 x32 x33 x34 x35 x36 x37 x38 x39 x40 x41 x42 x43 x44 x45 x46 x47 x48 x49 x50 x51 x52 x53 x54 x55 x56 x57 x58 x59 x60 x61 x62 x63 x64 x65 x66), df, h⟩ R = (oT (some x7) none h (@kk ⟨(fun v1 h2 => oT (some x4) none h2 (@kk ⟨(fun v3 h4 => oT (binPure Try.prog .lss 3 (.tmp 39) (.tmp 40) v1 v3) none h4 (@kk ⟨(fun v5 h6 => vcond v5 (@kb ⟨(oP (some x6) h6 (@kk ⟨(fun v7 _ => oP (some x7) h6 (@kk ⟨(fun v8 _ => oP (iaV (esz Try.prog 35) v7 v8) h6 (@kk ⟨(fun v9 _ => oP (evLoad Try.prog 23 v9 h6) h6 (@kk ⟨(fun v10 _ => oP (lnB (lnT Try.prog 23) v10) h6 (@kk ⟨(fun v12 _ => oP (some x0) h6 (@kk ⟨(fun v13 _ => oP (some x7) h6 (@kk ⟨(fun v14 _ => oP (iaV (esz Try.prog 22) v13 v14) h6 (@kk ⟨(fun v15 _ => oP (evLoad Try.prog 3 v15 h6) h6 (@kk ⟨(fun v16 _ => CallV (pp G) (.func (.func 14) #[] #[]) [v16, (.int .i64 20)] h6 (@kk ⟨(fun v18 h19 => keptK (keptP [8] h19 [(8, (fun h17 => (evLoad Try.prog 3 v15 h17)), v16), (3, (fun h11 => (evLoad Try.prog 23 v9 h11)), v10)]) (@kb ⟨(oP (binPure Try.prog .add 3 (.const (.int .i64 1)) (.tmp 53) (.int .i64 1) v18) h19 (@kk ⟨(fun v20 _ => oP (binPure Try.prog .neq 3 (.tmp 48) (.tmp 54) v12 v20) h19 (@kk ⟨(fun v21 _ => oP (some v21) h19 (@kk ⟨(fun v22 _ => gP v22 false (some x6) h19 (@kk ⟨(fun v23 _ => gP v22 false (some x7) h19 (@kk ⟨(fun v24 _ => gP v22 false (iaV (esz Try.prog 35) v23 v24) h19 (@kk ⟨(fun v25 _ => gRd v22 false (evLoad Try.prog 23 v25 h19) 16 (fun h27 => (evLoad Try.prog 23 v25 h27)) h19 (@ke ⟨(fun v26 e28 => gP v22 false (iaV (esz Try.prog 23) v26 (.int .i64 0)) h19 (@kk ⟨(fun v29 _ => gRd v22 false (evLoad Try.prog 5 v29 h19) 18 (fun h31 => (evLoad Try.prog 5 v29 h31)) h19 (@ke ⟨(fun v30 e32 => gP v22 false (some x7) h19 (@kk ⟨(fun v33 _ => gRd v22 false (cvV Try.prog 3 5 v33 h19) 20 (fun h35 => (cvV Try.prog 3 5 v33 h35)) h19 (@ke ⟨(fun v34 e36 => gP v22 false (binPure Try.prog .neq 5 (.tmp 62) (.tmp 64) v30 v34) h19 (@kk ⟨(fun v37 _ => oP (pickV v22 (.bool true) v37) h19 (@kk ⟨(fun v38 _ => vcond v38 (@kb ⟨(oT (some (.bool false)) none h19 (@kk ⟨(fun v39 h40 => R .ret ⟨(F67 x0 x1 v39 x3 x4 x5 x6 x7 x8 x9 x10 x11 x12 x13 x14 x15 x16 x17 x18 x19 x20 x21 x22 x23 x24 x25 x26 x27 x28 x29 x30 x31 x32 x33 x34 x35 x36 x37 x38 v1 v3 v5 x42 x43 v7 v8 v9 v10 v12 v13 v14 v15 v16 v18 v20 v21 v22 v23 v24 v25 v26 v29 v30 v33 v34 v37 v38), df, h40⟩)⟩))⟩) (@kb ⟨(oT (some x7) none h19 (@kk ⟨(fun v41 h42 => oT (binPure Try.prog .add 3 (.tmp 42) (.const (.int .i64 1)) v41 (.int .i64 1)) none h42 (@kk ⟨(fun v43 h44 => oT (some v43) none h44 (@kk ⟨(fun v45 h46 => R .normal ⟨(F67 x0 x1 x2 x3 x4 x5 x6 v45 x8 x9 x10 x11 x12 x13 x14 x15 x16 x17 x18 x19 x20 x21 x22 x23 x24 x25 x26 x27 x28 x29 x30 x31 x32 x33 x34 x35 x36 x37 x38 v1 v3 v5 v41 v43 v7 v8 v9 v10 v12 v13 v14 v15 v16 v18 v20 v21 v22 v23 v24 v25 v26 v29 v30 v33 v34 v37 v38), df, h46⟩)⟩))⟩))⟩))⟩))⟩))⟩))⟩))⟩))⟩))⟩))⟩))⟩))⟩))⟩))⟩))⟩))⟩))⟩))⟩))⟩))⟩))⟩))⟩))⟩))⟩))⟩))⟩))⟩))⟩) (@kb ⟨(R (.exit 2) ⟨(F67 x0 x1 x2 x3 x4 x5 x6 x7 x8 x9 x10 x11 x12 x13 x14 x15 x16 x17 x18 x19 x20 x21 x22 x23 x24 x25 x26 x27 x28 x29 x30 x31 x32 x33 x34 x35 x36 x37 x38 v1 v3 v5 x42 x43 x44 x45 x46 x47 x48 x49 x50 x51 x52 x53 x54 x55 x56 x57 x58 x59 x60 x61 x62 x63 x64 x65 x66), df, h6⟩)⟩))⟩))⟩))⟩)) := by kernel_rfl
attribute [push_cast] sh_ir8_s2
theorem sh_ir8_s3 (G : Nat) (ro : Option Nat) (df : List Nat) (h : Heap) (x0 x1 x2 x3 x4 x5 x6 x7 x8 x9 x10 x11 x12 x13 x14 x15 x16 x17 x18 x19 x20 x21 x22 x23 x24 x25 x26 x27 x28 x29 x30 x31 x32 x33 x34 x35 x36 x37 x38 x39 x40 x41 x42 x43 x44 x45 x46 x47 x48 x49 x50 x51 x52 x53 x54 x55 x56 x57 x58 x59 x60 x61 x62 x63 x64 x65 x66 : Value) (R : XExit → S → Prop) : vc3 (pp G) ro ir8_s3 ⟨(F67 x0 x1 x2 x3 x4 x5 x6 x7 x8 x9 x10 x11 x12 x13 x14 x15 x16 x17 x18 x19 x20 x21 x22 x23 x24 x25 x26 x27 x28 x29 x30 x31 x32 x33 x34 x35 x36 x37 x38 x39 x40 x41 x42 x43 x44 x45 x46 x47 x48 x49 x50 x51 x52 x53 x54 x55 x56 x57 x58 x59 x60 x61 x62 x63 x64 x65 x66), df, h⟩ R = (oT (some (.bool true)) none h (@kk ⟨(fun v1 h2 => R .ret ⟨(F67 x0 x1 v1 x3 x4 x5 x6 x7 x8 x9 x10 x11 x12 x13 x14 x15 x16 x17 x18 x19 x20 x21 x22 x23 x24 x25 x26 x27 x28 x29 x30 x31 x32 x33 x34 x35 x36 x37 x38 x39 x40 x41 x42 x43 x44 x45 x46 x47 x48 x49 x50 x51 x52 x53 x54 x55 x56 x57 x58 x59 x60 x61 x62 x63 x64 x65 x66), df, h2⟩)⟩)) := by kernel_rfl
attribute [push_cast] sh_ir8_s3
end
end Go.Proofs.Ytohdgkmgkcoilaa

namespace Go.Proofs.Ytohdgkmgkcoilaa
open Go Go.RowKit Go.Ev
noncomputable section
set_option linter.unusedSimpArgs false
set_option linter.unusedVariables false
variable (G : Nat) (h : Heap)

theorem u3 : Try.prog.underlying 3 = some (.int .i64) := by kernel_rfl
theorem z5 : (Try.prog.info? 5).bind (·.zero) = some (.int .u8 0) := by kernel_rfl
theorem n5 : (Try.prog.info? 5).map (fun i => (i.size, i.bytes)) = some (1, 1) := by kernel_rfl
theorem zeros5 (n : Nat) : (Builtin.zeroCells (Value.int IntKind.u8 0).cells n).toList = bv (List.replicate n 0) := by
  have e : (Value.int IntKind.u8 0).cells = #[.int .u8 0] := rfl
  rw [e]
  unfold Builtin.zeroCells bv
  simp [Nat.mod_one, List.map_const']
theorem bv_flat : ∀ l : List Int, flatL (bv l) = true
  | [] => rfl
  | x :: l => bv_flat l
theorem app_z (h : Heap) (b m : Nat) (x : Int) (hc : cells h b = some (bv [x], 5, false)) (hlo : h.lo ≤ b) (hlt : b < h.next) (hm : m < 1000) :
    ∃ a' c' h', evAppend Try.prog 23 3 (.slice (some ⟨b, 0, none⟩) 1 1) (.int .i64 m) h = some (.slice a' (1 + m) c', h') ∧ Sl h' a' (bv (x :: List.replicate m 0)) ∧ Gr h h' ∧ ∀ b', blk a' b' → b' = b ∨ h.next ≤ b' ∧ b' < h'.next := by
  obtain ⟨i, hi, hz⟩ := Option.bind_eq_some_iff.1 z5
  have hn := n5
  rw [hi] at hn
  simp only [Option.map_some, Option.some.injEq, Prod.mk.injEq] at hn
  obtain ⟨hs1, hb1⟩ := hn
  have hU : 1 < UC := by unfold UC; decide
  have hU2 : U = 100000000000000 := by unfold U; rfl
  have e : evAppend Try.prog 23 3 (.slice (some ⟨b, 0, none⟩) 1 1) (.int .i64 m) h = evAppZ Try.prog 5 (some ⟨b, 0, none⟩) 1 1 m h := by
    unfold evAppend
    simp only [u23, u3, lenV]
  have hsl : Sl h (some ⟨b, 0, none⟩) (bv [x]) := Sl.row hc hlo
  have hguard : (Nat.blt 1 UC && Nat.blt m 1000000 && Nat.blt i.bytes 1000 && Nat.beq (Value.int IntKind.u8 0).cells.size i.size && Nat.blt 0 i.size) = true := by
    rw [blt_t hU, blt_t (show m < 1000000 by omega), blt_t (show i.bytes < 1000 by omega), beq_t (show (Value.int IntKind.u8 0).cells.size = i.size by rw [hs1]; rfl), blt_t (show 0 < i.size by omega)]
    rfl
  rw [e]
  unfold evAppZ
  rw [hi]
  simp only [hz, hguard]
  cases m with
  | zero =>
    refine ⟨some ⟨b, 0, none⟩, 1, h, rfl, hsl, Gr.refl h, fun b' hb => by obtain ⟨o, s, e⟩ := hb; cases e; exact .inl rfl⟩
  | succ m =>
    have hcl : Nat.ble (1 + (m + 1)) 1 = false := by
      cases hx : Nat.ble (1 + (m + 1)) 1 with
      | false => rfl
      | true => rw [Nat.ble_eq] at hx; omega
    have hfl : flatL (Builtin.zeroCells (Value.int IntKind.u8 0).cells (m + 1)).toList = true := by rw [zeros5]; exact bv_flat _
    have hsrc : srcCells i.size 1 (.slice (some ⟨b, 0, none⟩) 1 1) h = some (bv [x]) := by
      rw [hs1]
      exact Sl.src hsl rfl (by decide)
    have hbn : Nat.blt ((1 + (m + 1)) * i.bytes + (1 + (m + 1))) U = true := blt_t (by rw [hb1, hU2]; omega)
    have hmk : mkRow h 5 (bv [x] ++ (Builtin.zeroCells (Value.int IntKind.u8 0).cells (m + 1)).toList) true = some (h.next, h.add (O (bv (x :: List.replicate (m + 1) 0)) 5 true)) := by
      rw [zeros5]
      exact mkRow_eq (bv_fone h (x :: List.replicate (m + 1) 0))
    simp only [hcl, hfl, hsrc, hbn, hmk]
    have hg : Gr h (h.add (O (bv (x :: List.replicate (m + 1) 0)) 5 true)) := (Gr.refl h).add' _
    refine ⟨some ⟨h.next, 0, none⟩, UC, h.add (O (bv (x :: List.replicate (m + 1) 0)) 5 true), rfl, Sl.row (cells_add_s _ _ _ _ rfl) (by rw [lo_add]; omega), hg, fun b' hb => by obtain ⟨o, s, e⟩ := hb; cases e; exact .inr ⟨Nat.le_refl _, by rw [next_add]; omega⟩⟩

theorem enc_le24 : ∀ (rs : List (List Int)), (∀ r ∈ rs, r.length ≤ 20) → (enc rs).length ≤ rs.length * 24
  | [], _ => Nat.zero_le _
  | r :: rs, hr => by
    have ih := enc_le24 rs fun x hx => hr x (List.mem_cons_of_mem _ hx)
    have h1 := hr r (List.mem_cons_self ..)
    rw [enc_cons, List.length_append, List.length_append, beL_len, List.length_cons, Nat.add_mul, Nat.one_mul]
    omega
theorem encO_snoc (rs : List (List Int)) (x : List Int) : enc (rs ++ [x]) = enc rs ++ beL x.length 4 ++ x := by
  unfold enc
  rw [List.map_append, List.flatten_append]
  simp [encR]
/-- the records that were handed in -/
def Rec (xs : List Int) (rs : List (List Int)) : Prop := ∀ (j : Nat) (r : List Int), rs[j]? = some r → ∃ w : Nat, Wi (xs.getD j 0) 20 = (w : Int) ∧ w < 20 ∧ r = IntKind.u8.wrap (j : Int) :: List.replicate w 0
inductive I8 (h0 : Heap) (xs : List Int) (ar : Option Addr) (cr n : Nat) (q : Nat) : Nat → S → Prop
  | mk (i : Nat) (iv : Int) (h : Heap) (a : Option Addr) (c : Nat) (rs : List (List Int)) {x1 x2 x6 x7 x8 x9 x10 x11 x12 x13 x14 x15 x16 x17 x18 x19 x20 x21 x22 x23 x24 x25 x26 x27 x28 x29 x30 x31 x32 x33 x34 x35 x36 x37 x38 x39 x40 x41 x42 x43 x44 x45 x46 x47 x48 x49 x50 x51 x52 x53 x54 x55 x56 x57 x58 x59 x60 x61 x62 x63 x64 x65 x66 : Value} (hiv : iv = (i : Int)) (hi : i ≤ n) (hrl : rs.length = i) (hr2 : Rec xs rs)
    (hl : LogP h q 100000 a c (enc rs) 0) (hg : Gr h0 h) (hb : ∀ b, LogB q a b → h0.next ≤ b) :
    I8 h0 xs ar cr n q (n - i) ⟨(F67 (.slice ar xs.length cr) x1 x2 (.pointer (some ⟨q, 0, none⟩)) (.int .i64 (n : Int)) (.int .i64 iv) x6 x7 x8 x9 x10 x11 x12 x13 x14 x15 x16 x17 x18 x19 x20 x21 x22 x23 x24 x25 x26 x27 x28 x29 x30 x31 x32 x33 x34 x35 x36 x37 x38 x39 x40 x41 x42 x43 x44 x45 x46 x47 x48 x49 x50 x51 x52 x53 x54 x55 x56 x57 x58 x59 x60 x61 x62 x63 x64 x65 x66), [], h⟩
inductive I8b (h : Heap) (xs : List Int) (ar : Option Addr) (cr n : Nat) (a6 : Option Addr) (c6 : Nat) : Nat → S → Prop
  | mk (j : Nat) (jv : Int) {x1 x2 x3 x5 x8 x9 x10 x11 x12 x13 x14 x15 x16 x17 x18 x19 x20 x21 x22 x23 x24 x25 x26 x27 x28 x29 x30 x31 x32 x33 x34 x35 x36 x37 x38 x39 x40 x41 x42 x43 x44 x45 x46 x47 x48 x49 x50 x51 x52 x53 x54 x55 x56 x57 x58 x59 x60 x61 x62 x63 x64 x65 x66 : Value} (hjv : jv = (j : Int)) (hj : j ≤ n) :
    I8b h xs ar cr n a6 c6 (n - j) ⟨(F67 (.slice ar xs.length cr) x1 x2 x3 (.int .i64 (n : Int)) x5 (.slice a6 n c6) (.int .i64 jv) x8 x9 x10 x11 x12 x13 x14 x15 x16 x17 x18 x19 x20 x21 x22 x23 x24 x25 x26 x27 x28 x29 x30 x31 x32 x33 x34 x35 x36 x37 x38 x39 x40 x41 x42 x43 x44 x45 x46 x47 x48 x49 x50 x51 x52 x53 x54 x55 x56 x57 x58 x59 x60 x61 x62 x63 x64 x65 x66), [], h⟩

theorem order_w (xs : List Int) (ar : Option Addr) (cr : Nat) (hs : Sl h ar (ivs xs)) (hb : ∀ b, blk ar b → b < h.next) :
    CallE (pp G) 8 [.slice ar xs.length cr] h (fun v h' => v = .bool true) := by
  refine CallE.fir4 (good G) fir8 rfl rfl (F67_arr ..) fun hlo => ?_
  rw [sh_ir8]
  simp (disch := first | omega | (refine id ?_; simp only [push_cast]; done) | (refine id ?_; simp only [push_cast]; omega)) only [push_cast, Nat.reduceAdd, Nat.reduceMul, Nat.reduceSub, Nat.reduceLT, Nat.reduceEqDiff, Nat.reduceLeDiff, Int.reduceToNat, reduceCtorEq, Int.reduceLT, Int.reduceLE, Int.reduceAdd, Int.reduceSub, Int.reduceMul, Int.reduceNeg, Int.reduceEq]
  refine CallE.to (known_w G _) ?_
  rintro _ _ ⟨rfl, e⟩
  rw [e]
  clear e
  simp (disch := first | omega | (refine id ?_; simp only [push_cast]; done) | (refine id ?_; simp only [push_cast]; omega)) only [push_cast, Nat.reduceAdd, Nat.reduceMul, Nat.reduceSub, Nat.reduceLT, Nat.reduceEqDiff, Nat.reduceLeDiff, Int.reduceToNat, reduceCtorEq, Int.reduceLT, Int.reduceLE, Int.reduceAdd, Int.reduceSub, Int.reduceMul, Int.reduceNeg, Int.reduceEq, Bool.not_true]
  refine CallE.to (new_w G _ 100000) ?_
  rintro _ h1 ⟨rfl, hl1, hg1, hn1⟩
  obtain ⟨n, hn, hn30, hnx⟩ : ∃ n : Nat, min (xs.length : Int) 30 = n ∧ n ≤ 30 ∧ n ≤ xs.length := ⟨min xs.length 30, by omega, by omega, by omega⟩
  simp (disch := first | omega | (refine id ?_; simp only [push_cast]; done) | (refine id ?_; simp only [push_cast]; omega)) only [push_cast, Nat.reduceAdd, Nat.reduceMul, Nat.reduceSub, Nat.reduceLT, Nat.reduceEqDiff, Nat.reduceLeDiff, Int.reduceToNat, reduceCtorEq, Int.reduceLT, Int.reduceLE, Int.reduceAdd, Int.reduceSub, Int.reduceMul, Int.reduceNeg, Int.reduceEq, mnV_int, hn]
  refine W.loop4 (good G) (I8 h xs ar cr n h.next) ?_ _ _ (I8.mk 0 0 h1 none 0 [] rfl (by omega) rfl (fun j r hr => by cases hr) hl1 hg1 (fun b hb => by
    rcases hb with rfl | ⟨o, s, hb⟩
    · exact Nat.le_refl _
    · cases hb))
  intro m s1 hI
  cases hI with | mk i iv h2 a2 c2 rs hiv hi hrl hr2 hl2 hg2 hb2 =>
  subst hiv
  rw [sh_ir8_s0]
  have hlo2 : h2.lo ≤ h2.next := by have := hg2.lo; have := hg2.next; omega
  have hn2 := hg2.next
  have hlen : ∀ r ∈ rs, r.length ≤ 20 := fun r hr => by
    obtain ⟨j, hj⟩ := List.getElem?_of_mem hr
    obtain ⟨w, _, h3, rfl⟩ := hr2 j r hj
    rw [List.length_cons, List.length_replicate]
    omega
  have hel := enc_le24 rs hlen
  by_cases hlt : (i : Int) < n
  · have hix : i < xs.length := by omega
    have hcv : ∀ (x : Int) h3, cvV Try.prog 3 5 (.int .i64 x) h3 = some (.int .u8 (IntKind.u8.wrap x)) := fun x h3 => by rw [cv_int T_cnvT_3_5]
    have hg3 : Gr h2 (h2.add (O [Value.int IntKind.u8 (IntKind.u8.wrap i)] 5 false)) := (Gr.refl h2).add' _
    have hg23 : Gr h (h2.add (O [Value.int IntKind.u8 (IntKind.u8.wrap i)] 5 false)) := hg2.tr hg3
    have hsl := hg2.slE hs hb
    obtain ⟨b, off, rfl, _⟩ := hsl.load T_knd_3 (ivs_get hix)
    have hld := Sl_ld hsl (ivs_get hix)
    have hbx : b ≠ h2.next := by have := hb b ⟨off, none, rfl⟩; omega
    have hc3 : cells (h2.add (O [Value.int IntKind.u8 (IntKind.u8.wrap i)] 5 false)) h2.next = some (bv [IntKind.u8.wrap i], 5, false) := cells_add_s _ _ _ _ rfl
    have hl3 := hl2.grew hg3 fun _ _ h => h
    have hn3 : (h2.add (O [Value.int IntKind.u8 (IntKind.u8.wrap i)] 5 false)).next = h2.next + 1 := next_add _
    have hlo3 : (h2.add (O [Value.int IntKind.u8 (IntKind.u8.wrap i)] 5 false)).lo ≤ h2.next := by rw [lo_add]; exact hlo2
    simp (disch := first | omega | (refine id ?_; simp only [push_cast]; done) | (refine id ?_; simp only [push_cast]; omega)) only [push_cast, Nat.reduceAdd, Nat.reduceMul, Nat.reduceSub, Nat.reduceLT, Nat.reduceEqDiff, Nat.reduceLeDiff, Int.reduceToNat, reduceCtorEq, Int.reduceLT, Int.reduceLE, Int.reduceAdd, Int.reduceSub, Int.reduceMul, Int.reduceNeg, Int.reduceEq, hlt, hcv, rg_get1, oneS, Int.toNat_natCast, hld]
    generalize h2.add (O [Value.int IntKind.u8 (IntKind.u8.wrap i)] 5 false) = h3 at hg3 hg23 hc3 hl3 hn3 hlo3 ⊢
    refine CallE.to (within_w G _ _ _ (by omega) (by omega)) ?_
    rintro _ _ ⟨rfl, e⟩
    rw [e]
    clear e
    have hW := Wi_range (xs.getD i 0) 20 (by omega)
    obtain ⟨w, hw⟩ : ∃ w : Nat, Wi (xs.getD i 0) 20 = w := ⟨(Wi (xs.getD i 0) 20).toNat, by omega⟩
    rw [hw] at hW ⊢
    obtain ⟨a4, c4, h4, ha4, hs4, hg4, hb4⟩ := app_z h3 h2.next w (IntKind.u8.wrap i) hc3 hlo3 (by omega) (by omega)
    have hl4 := hl3.grew hg4 fun _ _ h => h
    have hn4 := hg4.next
    have hrn : (IntKind.u8.wrap (i : Int) :: List.replicate w 0).length = 1 + w := by rw [List.length_cons, List.length_replicate]; omega
    simp (disch := first | omega | (refine id ?_; simp only [push_cast]; done) | (refine id ?_; simp only [push_cast]; omega)) only [push_cast, Nat.reduceAdd, Nat.reduceMul, Nat.reduceSub, Nat.reduceLT, Nat.reduceEqDiff, Nat.reduceLeDiff, Int.reduceToNat, reduceCtorEq, Int.reduceLT, Int.reduceLE, Int.reduceAdd, Int.reduceSub, Int.reduceMul, Int.reduceNeg, Int.reduceEq, ha4]
    have hcall := append_w G _ hl4 (by omega) (IntKind.u8.wrap (i : Int) :: List.replicate w 0) a4 c4 hs4 (by omega) fun b hb => ⟨by rcases hb4 b hb with h5 | h5 <;> omega, fun hx => by
      have := hl2.low b hx
      rcases hb4 b hb with h5 | h5 <;> omega⟩
    rw [hrn] at hcall
    refine CallE.to hcall ?_
    rintro v h5 ⟨yes5, _⟩
    obtain ⟨rfl, a5, c5, hl5, hg5, hb5⟩ := yes5 (by rw [hrn]; omega)
    clear yes5
    rw [← encO_snoc] at hl5
    have hg05 : Gr h h5 := (hg23.tr' hg4 fun _ _ h => h).tr' hg5 fun b hb hx => by have := hb2 b hx; omega
    simp (disch := first | omega | (refine id ?_; simp only [push_cast]; done) | (refine id ?_; simp only [push_cast]; omega)) only [push_cast, Nat.reduceAdd, Nat.reduceMul, Nat.reduceSub, Nat.reduceLT, Nat.reduceEqDiff, Nat.reduceLeDiff, Int.reduceToNat, reduceCtorEq, Int.reduceLT, Int.reduceLE, Int.reduceAdd, Int.reduceSub, Int.reduceMul, Int.reduceNeg, Int.reduceEq, Bool.not_true]
    refine ⟨_, by omega, I8.mk (i + 1) _ _ a5 c5 (rs ++ [IntKind.u8.wrap (i : Int) :: List.replicate w 0]) (by first | rfl | omega) (by omega) (by rw [List.length_append, hrl]; rfl) (fun j r hj => ?_) hl5 hg05 (fun b hb => ?_)⟩
    · by_cases hji : j < i
      · rw [List.getElem?_append_left (by omega)] at hj
        exact hr2 j r hj
      · have hji2 : j = i := by
          have := (List.getElem?_eq_some_iff.1 hj).1
          rw [List.length_append, hrl, List.length_singleton] at this
          omega
        subst hji2
        rw [List.getElem?_append_right (by omega), hrl, Nat.sub_self] at hj
        cases hj
        exact ⟨w, hw, by omega, rfl⟩
    · rcases hb with rfl | hb
      · exact Nat.le_refl _
      · rcases hb5 b hb with hx | hx
        · exact hb2 b (.inr hx)
        · omega
  · have hie : i = n := by omega
    subst hie
    have tor : Torn [] := .inl (by decide)
    simp (disch := first | omega | (refine id ?_; simp only [push_cast]; done) | (refine id ?_; simp only [push_cast]; omega)) only [push_cast, Nat.reduceAdd, Nat.reduceMul, Nat.reduceSub, Nat.reduceLT, Nat.reduceEqDiff, Nat.reduceLeDiff, Int.reduceToNat, reduceCtorEq, Int.reduceLT, Int.reduceLE, Int.reduceAdd, Int.reduceSub, Int.reduceMul, Int.reduceNeg, Int.reduceEq, hlt]
    refine CallE.to (records_w G _ hl2 (by omega) rs [] (List.append_nil _).symm tor) ?_
    rintro v h6 ⟨⟨a6, c6, rfl, hrow6⟩, hg6⟩
    rw [hrl]
    simp (disch := first | omega | (refine id ?_; simp only [push_cast]; done) | (refine id ?_; simp only [push_cast]; omega)) only [push_cast, Nat.reduceAdd, Nat.reduceMul, Nat.reduceSub, Nat.reduceLT, Nat.reduceEqDiff, Nat.reduceLeDiff, Int.reduceToNat, reduceCtorEq, Int.reduceLT, Int.reduceLE, Int.reduceAdd, Int.reduceSub, Int.reduceMul, Int.reduceNeg, Int.reduceEq]
    refine W.loop4 (good G) (I8b h6 xs ar cr i a6 c6) ?_ _ _ (I8b.mk 0 0 rfl (Nat.zero_le _))
    intro _ s9 hI
    cases hI with | mk j jv hjv hj =>
    subst hjv
    rw [sh_ir8_s2]
    by_cases hjm : (j : Int) < i
    · have hjx : j < xs.length := by omega
      have hg26 : Gr h h6 := hg2.tr hg6
      have hsl := hg26.slE hs hb
      obtain ⟨b, off, rfl, _⟩ := hsl.load T_knd_3 (ivs_get hjx)
      have hld := Sl_ld hsl (ivs_get hjx)
      obtain ⟨r, hrj⟩ : ∃ r, rs[j]? = some r := ⟨_, List.getElem?_eq_getElem (by omega)⟩
      obtain ⟨w, hw, hw20, rfl⟩ := hr2 j r hrj
      obtain ⟨⟨cs7, hown7, hrr7⟩, _⟩ := hrow6
      obtain ⟨aj7, cj7, p1, p2, _⟩ := hrr7 j _ hrj
      obtain ⟨b7, o7, rfl, hld7⟩ := hown7.sl.load T_knd_23 p1
      obtain ⟨b8, o8, rfl, hld8⟩ := p2.load T_knd_5 (i := 0) (v := .int .u8 (IntKind.u8.wrap (j : Int))) rfl
      rw [load_eq, T_knd_23] at hld7
      rw [load_eq, T_knd_5] at hld8
      rw [Nat.add_zero] at hld8
      have hrn : (IntKind.u8.wrap (j : Int) :: List.replicate w 0).length = 1 + w := by rw [List.length_cons, List.length_replicate]; omega
      rw [hrn] at hld7
      have hcv : ∀ (x : Int) h3, cvV Try.prog 3 5 (.int .i64 x) h3 = some (.int .u8 (IntKind.u8.wrap x)) := fun x h3 => by rw [cv_int T_cnvT_3_5]
      simp (disch := first | omega | (refine id ?_; simp only [push_cast]; done) | (refine id ?_; simp only [push_cast]; omega)) only [push_cast, Nat.reduceAdd, Nat.reduceMul, Nat.reduceSub, Nat.reduceLT, Nat.reduceEqDiff, Nat.reduceLeDiff, Int.reduceToNat, reduceCtorEq, Int.reduceLT, Int.reduceLE, Int.reduceAdd, Int.reduceSub, Int.reduceMul, Int.reduceNeg, Int.reduceEq, hjm, Int.toNat_natCast, hld, hld7]
      refine CallE.to (within_w G _ _ _ (by omega) (by omega)) ?_
      rintro _ _ ⟨rfl, e⟩
      rw [e, hw]
      clear e
      have hw1 : IntKind.i64.wrap (1 + (w : Int)) = 1 + w := wrap_i64 (by omega) (by omega)
      have hz1 : (((1 + w : Nat) : Int)) = 1 + w := by omega
      have hz2 : (0 : Int) < 1 + w := by omega
      simp (disch := first | omega | (refine id ?_; simp only [push_cast]; done) | (refine id ?_; simp only [push_cast]; omega)) only [push_cast, Nat.reduceAdd, Nat.reduceMul, Nat.reduceSub, Nat.reduceLT, Nat.reduceEqDiff, Nat.reduceLeDiff, Int.reduceToNat, reduceCtorEq, Int.reduceLT, Int.reduceLE, Int.reduceAdd, Int.reduceSub, Int.reduceMul, Int.reduceNeg, Int.reduceEq, hjm, Int.toNat_natCast, hld, hld7, hld8, hw1, hz1, hz2, hcv, beq_self_eq_true, Bool.not_true]
      exact ⟨_, by omega, I8b.mk (j + 1) _ (by first | rfl | omega) (by omega)⟩
    · simp (disch := first | omega | (refine id ?_; simp only [push_cast]; done) | (refine id ?_; simp only [push_cast]; omega)) only [push_cast, Nat.reduceAdd, Nat.reduceMul, Nat.reduceSub, Nat.reduceLT, Nat.reduceEqDiff, Nat.reduceLeDiff, Int.reduceToNat, reduceCtorEq, Int.reduceLT, Int.reduceLE, Int.reduceAdd, Int.reduceSub, Int.reduceMul, Int.reduceNeg, Int.reduceEq, hjm]
end
end Go.Proofs.Ytohdgkmgkcoilaa

namespace Go.Proofs.Ytohdgkmgkcoilaa.logOrder
open Go.ChangeShapes Go.WideShapes Go.ChangeAt Go.RowKit Go.Ev
set_option linter.unusedVariables false
set_option linter.unusedSimpArgs false
set_option maxRecDepth 100000

theorem own : ownKnob Try.prog.godebug = none := by kernel_rfl
theorem laid : laidOutB Try.prog = true := by kernel_rfl

theorem lifted (os : Os) (started : os.Started) (H : Type) (enc : TypeId × Value → H) :
    ReturnsInHanded {} Try.checked os 8 .any (Rows.logOrderSpec.pre6 enc Try.prog Try.f8 Rows.logOrderRow.domain false) (Rows.logOrderSpec.post enc Try.prog Try.f8 false true false false) := by
  refine returnsInHanded_of_change_sized (C := Try.checked) own started (by kernel_rfl) Try.func8
    (ChangeSpec.witness6 (enc := enc) (C := Try.checked) false ⟨#[], #[.slice none 0 0], []⟩ 8 (by kernel_rfl) (by kernel_rfl) (by kernel_rfl) (by kernel_rfl)) ?_
  intro W base args ds gs before hval0 hW hcnd hsz _
  have hval : ∀ (j : Nat) t v, Try.f8.params[j]? = some t → args[j]? = some v → Value.okWide Try.prog W .any base t v := hval0
  have hW' := hW
  have hlt := hW.lt
  obtain ⟨p, q, hA0, hV, rfl, hfz, hnd⟩ := hW
  have hA : DataW.TrodAll enc Try.prog W 0 (fun _ => true) true Try.f8.params.toList args.toList ds p := hA0
  rw [Try.params8] at hA hval
  obtain ⟨v0, vs0, d0, ds0, p0, q0, hargs, rfl, rfl, h0, r0⟩ := trodAll_cons hA
  obtain ⟨rfl, rfl, rfl⟩ := trodAll_nil r0
  obtain rfl : args = #[v0] := by cases args; simp_all
  obtain ⟨rfl, rfl⟩ := trodVars_none hV
  have h0' := h0
  obtain ⟨xs0, a0, c0, rfl, sl0, bl0, pl0, sc0⟩ := open_xs (hval 0 22 v0 rfl rfl) h0 (fun elems spare hd => sized_slice hsz (j := 0) (t := 22) (e := 3) (elems := elems) (spare := spare) rfl (by cases hd; rfl) Try.underlying22)
  have hrun : Calls Try.prog 8 #[.slice a0 xs0.length c0] W fun e W' => e = .returned (.bool true) ∧ Below W.heap.size W W' :=
    calls_of_callE (P := Try.prog) (NG := 0) (s := fun _ => 0) (t := fun _ => .empty) (Nat.zero_le _) (order_w W.heap.size (baseH W) xs0 a0 c0 sl0 bl0) (by simp only [plL, pl, pl0, Bool.and_true]) (by simp only [scL, sc, sc0, Bool.and_true]) rfl
  refine hrun.mono fun e W' ⟨he, bel⟩ => ?_
  subst he
  exact ⟨_, rfl, _, _, _, [], _, [], hW', trodAll_mk1 (shut_bool Try.underlying4 _), trodAll_cons_mk (Below.trod laid (by kernel_rfl) (of_decide_eq_true (by kernel_rfl)) h0' bel (fun x hx => hlt x (by simp [hx]))) (trodAll_mk0), rfl, bel.frame _, fun h => by cases h⟩

theorem over : Rows.logOrderRow.holds Try.pinned (OpenSpec.ofChange Rows.logOrderSpec) :=
  OpenClaim.holds_of_wide 8 Try.f8 rfl rfl rfl rfl rfl rfl rfl ⟨rfl, rfl, rfl, rfl, rfl⟩ rfl rfl rfl rfl rfl (by kernel_rfl) Try.func8 (by kernel_rfl)
    (of_decide_eq_true (by kernel_rfl)) (by unfold Func.isWrapper; first | (rw [if_pos (by decide +kernel)]; kernel_rfl) | (rw [if_neg (by decide +kernel)]; exact ⟨rfl, rfl⟩))
    (fun os started H enc _ => lifted os started H enc)

theorem proved : Rows.LogOrderSaid :=
  over
end Go.Proofs.Ytohdgkmgkcoilaa.logOrder
