/-
  A part of the proof: what the program's functions hand back, as theorems. No condition but those that each theorem names.
-/
import Derived.Test.YtohdgkmgkcoilaaLgb
import Derived.Test.YtohdgkmgkcoilaaLgk
set_option linter.unusedSimpArgs false
set_option linter.unusedVariables false
namespace Go.Proofs.Ytohdgkmgkcoilaa
open Go.RowKit Go.Ev
set_option linter.unusedVariables false
set_option maxRecDepth 100000
noncomputable section
def F78 (x0 x1 x2 x3 x4 x5 x6 x7 x8 x9 x10 x11 x12 x13 x14 x15 x16 x17 x18 x19 x20 x21 x22 x23 x24 x25 x26 x27 x28 x29 x30 x31 x32 x33 x34 x35 x36 x37 x38 x39 x40 x41 x42 x43 x44 x45 x46 x47 x48 x49 x50 x51 x52 x53 x54 x55 x56 x57 x58 x59 x60 x61 x62 x63 x64 x65 x66 x67 x68 x69 x70 x71 x72 x73 x74 x75 x76 x77 : Value) : VT := ⟨78, (.node (.node (.node (.node (.node (.node (.node .nil x63 .nil) x31 .nil) x15 (.node .nil x47 .nil)) x7 (.node (.node (.node .nil x71 .nil) x39 .nil) x23 (.node .nil x55 .nil))) x3 (.node (.node (.node (.node .nil x67 .nil) x35 .nil) x19 (.node .nil x51 .nil)) x11 (.node (.node (.node .nil x75 .nil) x43 .nil) x27 (.node .nil x59 .nil)))) x1 (.node (.node (.node (.node (.node .nil x65 .nil) x33 .nil) x17 (.node .nil x49 .nil)) x9 (.node (.node (.node .nil x73 .nil) x41 .nil) x25 (.node .nil x57 .nil))) x5 (.node (.node (.node (.node .nil x69 .nil) x37 .nil) x21 (.node .nil x53 .nil)) x13 (.node (.node (.node .nil x77 .nil) x45 .nil) x29 (.node .nil x61 .nil))))) x0 (.node (.node (.node (.node (.node (.node .nil x64 .nil) x32 .nil) x16 (.node .nil x48 .nil)) x8 (.node (.node (.node .nil x72 .nil) x40 .nil) x24 (.node .nil x56 .nil))) x4 (.node (.node (.node (.node .nil x68 .nil) x36 .nil) x20 (.node .nil x52 .nil)) x12 (.node (.node (.node .nil x76 .nil) x44 .nil) x28 (.node .nil x60 .nil)))) x2 (.node (.node (.node (.node (.node .nil x66 .nil) x34 .nil) x18 (.node .nil x50 .nil)) x10 (.node (.node (.node .nil x74 .nil) x42 .nil) x26 (.node .nil x58 .nil))) x6 (.node (.node (.node (.node .nil x70 .nil) x38 .nil) x22 (.node .nil x54 .nil)) x14 (.node (.node .nil x46 .nil) x30 (.node .nil x62 .nil))))))⟩
theorem F78_arr (x0 x1 x2 x3 x4 x5 x6 x7 x8 x9 x10 x11 x12 x13 x14 x15 x16 x17 x18 x19 x20 x21 x22 x23 x24 x25 x26 x27 x28 x29 x30 x31 x32 x33 x34 x35 x36 x37 x38 x39 x40 x41 x42 x43 x44 x45 x46 x47 x48 x49 x50 x51 x52 x53 x54 x55 x56 x57 x58 x59 x60 x61 x62 x63 x64 x65 x66 x67 x68 x69 x70 x71 x72 x73 x74 x75 x76 x77 : Value) : (F78 x0 x1 x2 x3 x4 x5 x6 x7 x8 x9 x10 x11 x12 x13 x14 x15 x16 x17 x18 x19 x20 x21 x22 x23 x24 x25 x26 x27 x28 x29 x30 x31 x32 x33 x34 x35 x36 x37 x38 x39 x40 x41 x42 x43 x44 x45 x46 x47 x48 x49 x50 x51 x52 x53 x54 x55 x56 x57 x58 x59 x60 x61 x62 x63 x64 x65 x66 x67 x68 x69 x70 x71 x72 x73 x74 x75 x76 x77).arr = ⟨[x0, x1, x2, x3, x4, x5, x6, x7, x8, x9, x10, x11, x12, x13, x14, x15, x16, x17, x18, x19, x20, x21, x22, x23, x24, x25, x26, x27, x28, x29, x30, x31, x32, x33, x34, x35, x36, x37, x38, x39, x40, x41, x42, x43, x44, x45, x46, x47, x48, x49, x50, x51, x52, x53, x54, x55, x56, x57, x58, x59, x60, x61, x62, x63, x64, x65, x66, x67, x68, x69, x70, x71, x72, x73, x74, x75, x76, x77]⟩ := by kernel_rfl
theorem F78_g4 (x0 x1 x2 x3 x4 x5 x6 x7 x8 x9 x10 x11 x12 x13 x14 x15 x16 x17 x18 x19 x20 x21 x22 x23 x24 x25 x26 x27 x28 x29 x30 x31 x32 x33 x34 x35 x36 x37 x38 x39 x40 x41 x42 x43 x44 x45 x46 x47 x48 x49 x50 x51 x52 x53 x54 x55 x56 x57 x58 x59 x60 x61 x62 x63 x64 x65 x66 x67 x68 x69 x70 x71 x72 x73 x74 x75 x76 x77 : Value) : (F78 x0 x1 x2 x3 x4 x5 x6 x7 x8 x9 x10 x11 x12 x13 x14 x15 x16 x17 x18 x19 x20 x21 x22 x23 x24 x25 x26 x27 x28 x29 x30 x31 x32 x33 x34 x35 x36 x37 x38 x39 x40 x41 x42 x43 x44 x45 x46 x47 x48 x49 x50 x51 x52 x53 x54 x55 x56 x57 x58 x59 x60 x61 x62 x63 x64 x65 x66 x67 x68 x69 x70 x71 x72 x73 x74 x75 x76 x77).get 4 = x4 := by kernel_rfl
attribute [push_cast] F78_g4
noncomputable def ir6_s0 : IR := (.seq (.seq (.ops [⟨(some 18), none, .take, (.move (.tmp 8)), 3⟩, ⟨(some 19), none, .take, (.move (.tmp 1)), 22⟩, ⟨(some 20), none, .take, (.call ⟨(.builtin .len), #[(.tmp 19)], #[22]⟩), 3⟩, ⟨(some 21), none, .take, (.binOp .lss 3 (.tmp 18) (.tmp 20) 3), 4⟩, ⟨(some 22), none, .take, (.move (.tmp 21)), 4⟩, ⟨(some 23), (some (22, true)), .take, (.move (.tmp 8)), 3⟩, ⟨(some 24), (some (22, true)), .take, (.binOp .lss 3 (.tmp 23) (.const (.int .i64 40)) 3), 4⟩, ⟨(some 25), none, .take, (.pick (.tmp 22) (.tmp 24) (.const (.bool false))), 4⟩]) (.cond (.tmp 25) .skip (.exit 0))) (.seq (.block 1 (.seq (.ops [⟨(some 28), none, .take, (.move (.tmp 1)), 22⟩, ⟨(some 29), none, .take, (.move (.tmp 8)), 3⟩, ⟨(some 30), none, .take, (.indexAddr 22 (.tmp 28) (.tmp 29)), 0⟩, ⟨(some 31), none, .take, (.load 3 (.tmp 30)), 3⟩, ⟨(some 32), none, .call, (.call ⟨(.value (.func 14)), #[(.tmp 31), (.const (.int .i64 30))], #[3, 3]⟩), 3⟩, ⟨(some 9), none, .take, (.assign (.tmp 32)), 3⟩]) (.seq (.seq (.ops [⟨(some 33), none, .take, (.move (.tmp 6)), 26⟩, ⟨(some 34), none, .take, (.move (.tmp 9)), 3⟩, ⟨(some 35), none, .eff, (.makeSlice 23 (.tmp 34) (.tmp 34)), 23⟩, ⟨(some 36), none, .call, (.call ⟨(.value (.func 21)), #[(.tmp 33), (.tmp 35)], #[26, 23]⟩), 4⟩, ⟨(some 37), none, .take, (.move (.tmp 7)), 3⟩, ⟨(some 38), none, .take, (.move (.tmp 9)), 3⟩, ⟨(some 39), none, .take, (.binOp .add 3 (.tmp 37) (.tmp 38) 3), 3⟩, ⟨(some 40), none, .take, (.binOp .add 3 (.tmp 39) (.const (.int .i64 4)) 3), 3⟩, ⟨(some 41), none, .take, (.move (.tmp 5)), 3⟩, ⟨(some 42), none, .take, (.binOp .leq 3 (.tmp 40) (.tmp 41) 3), 4⟩, ⟨(some 43), none, .take, (.binOp .neq 4 (.tmp 36) (.tmp 42) 4), 4⟩]) (.cond (.tmp 43) (.seq (.ops [⟨(some 4), none, .take, (.assign (.const (.bool false))), 4⟩]) .ret) .skip)) (.seq (.seq (.ops [⟨(some 44), none, .take, (.move (.tmp 7)), 3⟩, ⟨(some 45), none, .take, (.move (.tmp 9)), 3⟩, ⟨(some 46), none, .take, (.binOp .add 3 (.tmp 44) (.tmp 45) 3), 3⟩, ⟨(some 47), none, .take, (.binOp .add 3 (.tmp 46) (.const (.int .i64 4)) 3), 3⟩, ⟨(some 48), none, .take, (.move (.tmp 5)), 3⟩, ⟨(some 49), none, .take, (.binOp .leq 3 (.tmp 47) (.tmp 48) 3), 4⟩]) (.cond (.tmp 49) (.ops [⟨(some 50), none, .take, (.move (.tmp 7)), 3⟩, ⟨(some 51), none, .take, (.move (.tmp 9)), 3⟩, ⟨(some 52), none, .take, (.binOp .add 3 (.tmp 50) (.tmp 51) 3), 3⟩, ⟨(some 53), none, .take, (.binOp .add 3 (.tmp 52) (.const (.int .i64 4)) 3), 3⟩, ⟨(some 7), none, .take, (.assign (.tmp 53)), 3⟩]) .skip)) (.seq (.ops [⟨(some 54), none, .take, (.move (.tmp 6)), 26⟩, ⟨(some 55), none, .call, (.call ⟨(.value (.func 25)), #[(.tmp 54)], #[26]⟩), 3⟩, ⟨(some 56), none, .take, (.move (.tmp 7)), 3⟩, ⟨(some 57), none, .take, (.binOp .neq 3 (.tmp 55) (.tmp 56) 3), 4⟩]) (.cond (.tmp 57) (.seq (.ops [⟨(some 4), none, .take, (.assign (.const (.bool false))), 4⟩]) .ret) .skip)))))) (.ops [⟨(some 26), none, .take, (.move (.tmp 8)), 3⟩, ⟨(some 27), none, .take, (.binOp .add 3 (.tmp 26) (.const (.int .i64 1)) 3), 3⟩, ⟨(some 8), none, .take, (.assign (.tmp 27)), 3⟩])))
noncomputable def ir6_s1 : IR := (.seq (.ops [⟨(some 58), none, .take, (.move (.tmp 6)), 26⟩, ⟨(some 59), none, .call, (.call ⟨(.value (.func 22)), #[(.tmp 58)], #[26]⟩), 0⟩]) (.seq (.ops [⟨(some 60), none, .take, (.move (.tmp 6)), 26⟩, ⟨(some 61), none, .call, (.call ⟨(.value (.func 24)), #[(.tmp 60)], #[26]⟩), 3⟩, ⟨(some 62), none, .take, (.move (.tmp 7)), 3⟩, ⟨(some 63), none, .take, (.binOp .eql 3 (.tmp 61) (.tmp 62) 3), 4⟩, ⟨(some 64), none, .take, (.move (.tmp 63)), 4⟩, ⟨(some 65), (some (64, true)), .take, (.move (.tmp 6)), 26⟩, ⟨(some 66), (some (64, true)), .call, (.call ⟨(.value (.func 26)), #[(.tmp 65), (.const (.slice none 0 0))], #[26, 35]⟩), 4⟩, ⟨(some 67), none, .take, (.pick (.tmp 64) (.tmp 66) (.const (.bool false))), 4⟩, ⟨(some 68), none, .take, (.move (.tmp 67)), 4⟩, ⟨(some 69), (some (68, true)), .take, (.move (.tmp 6)), 26⟩, ⟨(some 70), (some (68, true)), .call, (.call ⟨(.value (.func 25)), #[(.tmp 69)], #[26]⟩), 3⟩, ⟨(some 71), (some (68, true)), .take, (.binOp .eql 3 (.tmp 70) (.const (.int .i64 0)) 3), 4⟩, ⟨(some 72), none, .take, (.pick (.tmp 68) (.tmp 71) (.const (.bool false))), 4⟩, ⟨(some 73), none, .take, (.move (.tmp 72)), 4⟩, ⟨(some 74), (some (73, true)), .take, (.move (.tmp 6)), 26⟩, ⟨(some 75), (some (73, true)), .call, (.call ⟨(.value (.func 24)), #[(.tmp 74)], #[26]⟩), 3⟩, ⟨(some 76), (some (73, true)), .take, (.binOp .eql 3 (.tmp 75) (.const (.int .i64 0)) 3), 4⟩, ⟨(some 77), none, .take, (.pick (.tmp 73) (.tmp 76) (.const (.bool false))), 4⟩, ⟨(some 4), none, .take, (.assign (.tmp 77)), 4⟩]) .ret))
noncomputable def ir6_s2 : IR := (.seq (.ops [⟨(some 54), none, .take, (.move (.tmp 6)), 26⟩, ⟨(some 55), none, .call, (.call ⟨(.value (.func 25)), #[(.tmp 54)], #[26]⟩), 3⟩, ⟨(some 56), none, .take, (.move (.tmp 7)), 3⟩, ⟨(some 57), none, .take, (.binOp .neq 3 (.tmp 55) (.tmp 56) 3), 4⟩]) (.cond (.tmp 57) (.seq (.ops [⟨(some 4), none, .take, (.assign (.const (.bool false))), 4⟩]) .ret) .skip))
noncomputable def ir6_s3 : IR := (.ops [⟨(some 26), none, .take, (.move (.tmp 8)), 3⟩, ⟨(some 27), none, .take, (.binOp .add 3 (.tmp 26) (.const (.int .i64 1)) 3), 3⟩, ⟨(some 8), none, .take, (.assign (.tmp 27)), 3⟩])
theorem sh_ir6 (G : Nat) (h : Heap) (a0 a1 : Value) (R : Value → Heap → Prop) : vc3 (pp G) none ir6 ⟨(F78 a0 a1 undef undef undef undef undef undef undef undef undef undef undef undef undef undef undef undef undef undef undef undef undef undef undef undef undef undef undef undef undef undef undef undef undef undef undef undef undef undef undef undef undef undef undef undef undef undef undef undef undef undef undef undef undef undef undef undef undef undef undef undef undef undef undef undef undef undef undef undef undef undef undef undef undef undef undef undef), [], h⟩ (finR Try.prog [(.tmp 4)] R) = (oT (some (.bool false)) none h (@kk ⟨(fun v1 h2 => CallV (pp G) (.func (.func 13) #[] #[]) [] h2 (@kk ⟨(fun v3 h4 => oT (unV Try.prog .not v3) none h4 (@kk ⟨(fun v5 h6 => vcond v5 (@kb ⟨(oT (some (.bool false)) none h6 (@kk ⟨(fun v7 h8 => R v7 h8)⟩))⟩) (@kb ⟨(oT (some a0) none h6 (@kk ⟨(fun v9 h10 => CallV (pp G) (.func (.func 14) #[] #[]) [v9, (.int .i64 120)] h10 (@kk ⟨(fun v11 h12 => oT (some v11) none h12 (@kk ⟨(fun v13 h14 => oT (some v13) none h14 (@kk ⟨(fun v15 h16 => CallV (pp G) (.func (.func 15) #[] #[]) [v15] h16 (@kk ⟨(fun v17 h18 => oT (some v17) none h18 (@kk ⟨(fun v19 h20 => oT (some v19) none h20 (@kk ⟨(fun v21 h22 => oT (binPure Try.prog .eql 26 (.tmp 16) (.const (.pointer none)) v21 (.pointer none)) none h22 (@kk ⟨(fun v23 h24 => vcond v23 (@kb ⟨(oT (some (.bool false)) none h24 (@kk ⟨(fun v25 h26 => R v25 h26)⟩))⟩) (@kb ⟨(oT (some (.int .i64 0)) none h24 (@kk ⟨(fun v27 h28 => oT (some (.int .i64 0)) none h28 (@kk ⟨(fun v29 h30 => W (pp G) none (.loop ir6_s0) ⟨(F78 a0 a1 undef undef v1 v13 v19 v27 v29 undef v3 v5 v9 v11 v15 v17 v21 v23 undef undef undef undef undef undef undef undef undef undef undef undef undef undef undef undef undef undef undef undef undef undef undef undef undef undef undef undef undef undef undef undef undef undef undef undef undef undef undef undef undef undef undef undef undef undef undef undef undef undef undef undef undef undef undef undef undef undef undef undef), [], h30⟩ (@kR ⟨(outR3 0 (thenR3 (fun s1 => vc3 (pp G) none ir6_s1 s1 (@kR ⟨(finR Try.prog [(.tmp 4)] R)⟩)) (finR Try.prog [(.tmp 4)] R)))⟩))⟩))⟩))⟩))⟩))⟩))⟩))⟩))⟩))⟩))⟩))⟩))⟩))⟩))⟩))⟩)) := by kernel_rfl
theorem sh_ir6_s0 (G : Nat) (ro : Option Nat) (df : List Nat) (h : Heap) (x0 x1 x2 x3 x4 x5 x6 x7 x8 x9 x10 x11 x12 x13 x14 x15 x16 x17 x18 x19 x20 x21 x22 x23 x24 x25 x26 x27 x28 x29 x30 x31 x32 x33 x34 x35 x36 x37 x38 x39 x40 x41 x42 x43 x44 x45 x46 x47 x48 x49 x50 x51 x52 x53 x54 x55 x56 x57 x58 x59 x60 x61 x62 x63 x64 x65 x66 x67 x68 x69 x70 x71 x72 x73 x74 x75 x76 x77 : Value) (R : XExit → S → Prop) : vc3 (pp G) ro ir6_s0 ⟨(F78 x0 x1 x2 x3 x4 x5 x6 x7 x8 x9 x10 x11 x12 x13 x14 x15 x16 x17 x18 x19 x20 x21 x22 x23 x24 x25 x26 x27 x28 x29 x30 x31 x32 x33 x34 x35 x36 x37 x38 x39 x40 x41 x42 x43 x44 x45 x46 x47 x48 x49 x50 x51 x52 x53 x54 x55 x56 x57 x58 x59 x60 x61 x62 x63 x64 x65 x66 x67 x68 x69 x70 x71 x72 x73 x74 x75 x76 x77), df, h⟩ R = (oT (some x8) none h (@kk ⟨(fun v1 h2 => oT (some x1) none h2 (@kk ⟨(fun v3 h4 => oT (lnB (lnT Try.prog 22) v3) none h4 (@kk ⟨(fun v5 h6 => oT (binPure Try.prog .lss 3 (.tmp 18) (.tmp 20) v1 v5) none h6 (@kk ⟨(fun v7 h8 => oT (some v7) none h8 (@kk ⟨(fun v9 h10 => gT v9 true (some x8) none h10 (@kk ⟨(fun v11 h12 => gT v9 true (binPure Try.prog .lss 3 (.tmp 23) (.const (.int .i64 40)) v11 (.int .i64 40)) none h12 (@kk ⟨(fun v13 h14 => oT (pickV v9 v13 (.bool false)) none h14 (@kk ⟨(fun v15 h16 => vcond v15 (@kb ⟨(oT (some x1) none h16 (@kk ⟨(fun v17 h18 => oT (some x8) none h18 (@kk ⟨(fun v19 h20 => oT (iaV (esz Try.prog 22) v17 v19) none h20 (@kk ⟨(fun v21 h22 => oT (evLoad Try.prog 3 v21 h22) none h22 (@kk ⟨(fun v23 h24 => CallV (pp G) (.func (.func 14) #[] #[]) [v23, (.int .i64 30)] h24 (@kk ⟨(fun v25 h26 => oT (some v25) none h26 (@kk ⟨(fun v27 h28 => oT (some x6) none h28 (@kk ⟨(fun v29 h30 => oT (some v27) none h30 (@kk ⟨(fun v31 h32 => oE (msE (mkT Try.prog 23) v31 v31 h32) (@kk ⟨(fun v33 h34 => CallV (pp G) (.func (.func 21) #[] #[]) [v29, v33] h34 (@kk ⟨(fun v35 h36 => oT (some x7) none h36 (@kk ⟨(fun v37 h38 => oT (some v27) none h38 (@kk ⟨(fun v39 h40 => oT (binPure Try.prog .add 3 (.tmp 37) (.tmp 38) v37 v39) none h40 (@kk ⟨(fun v41 h42 => oT (binPure Try.prog .add 3 (.tmp 39) (.const (.int .i64 4)) v41 (.int .i64 4)) none h42 (@kk ⟨(fun v43 h44 => oT (some x5) none h44 (@kk ⟨(fun v45 h46 => oT (binPure Try.prog .leq 3 (.tmp 40) (.tmp 41) v43 v45) none h46 (@kk ⟨(fun v47 h48 => oT (binPure Try.prog .neq 4 (.tmp 36) (.tmp 42) v35 v47) none h48 (@kk ⟨(fun v49 h50 => vcond v49 (@kb ⟨(oT (some (.bool false)) none h50 (@kk ⟨(fun v51 h52 => R .ret ⟨(F78 x0 x1 x2 x3 v51 x5 x6 x7 x8 v27 x10 x11 x12 x13 x14 x15 x16 x17 v1 v3 v5 v7 v9 v11 v13 v15 x26 x27 v17 v19 v21 v23 v25 v29 v31 v33 v35 v37 v39 v41 v43 v45 v47 v49 x44 x45 x46 x47 x48 x49 x50 x51 x52 x53 x54 x55 x56 x57 x58 x59 x60 x61 x62 x63 x64 x65 x66 x67 x68 x69 x70 x71 x72 x73 x74 x75 x76 x77), df, h52⟩)⟩))⟩) (@kb ⟨(oT (some x7) none h50 (@kk ⟨(fun v53 h54 => oT (some v27) none h54 (@kk ⟨(fun v55 h56 => oT (binPure Try.prog .add 3 (.tmp 44) (.tmp 45) v53 v55) none h56 (@kk ⟨(fun v57 h58 => oT (binPure Try.prog .add 3 (.tmp 46) (.const (.int .i64 4)) v57 (.int .i64 4)) none h58 (@kk ⟨(fun v59 h60 => oT (some x5) none h60 (@kk ⟨(fun v61 h62 => oT (binPure Try.prog .leq 3 (.tmp 47) (.tmp 48) v59 v61) none h62 (@kk ⟨(fun v63 h64 => vcond v63 (@kb ⟨(oT (some x7) none h64 (@kk ⟨(fun v65 h66 => oT (some v27) none h66 (@kk ⟨(fun v67 h68 => oT (binPure Try.prog .add 3 (.tmp 50) (.tmp 51) v65 v67) none h68 (@kk ⟨(fun v69 h70 => oT (binPure Try.prog .add 3 (.tmp 52) (.const (.int .i64 4)) v69 (.int .i64 4)) none h70 (@kk ⟨(fun v71 h72 => oT (some v71) none h72 (@kk ⟨(fun v73 h74 => vc3 (pp G) ro ir6_s2 ⟨(F78 x0 x1 x2 x3 x4 x5 x6 v73 x8 v27 x10 x11 x12 x13 x14 x15 x16 x17 v1 v3 v5 v7 v9 v11 v13 v15 x26 x27 v17 v19 v21 v23 v25 v29 v31 v33 v35 v37 v39 v41 v43 v45 v47 v49 v53 v55 v57 v59 v61 v63 v65 v67 v69 v71 x54 x55 x56 x57 x58 x59 x60 x61 x62 x63 x64 x65 x66 x67 x68 x69 x70 x71 x72 x73 x74 x75 x76 x77), df, h74⟩ (@kR ⟨(outR3 1 (thenR3 (fun s1 => vc3 (pp G) ro ir6_s3 s1 (@kR ⟨R⟩)) R))⟩))⟩))⟩))⟩))⟩))⟩))⟩) (@kb ⟨(vc3 (pp G) ro ir6_s2 ⟨(F78 x0 x1 x2 x3 x4 x5 x6 x7 x8 v27 x10 x11 x12 x13 x14 x15 x16 x17 v1 v3 v5 v7 v9 v11 v13 v15 x26 x27 v17 v19 v21 v23 v25 v29 v31 v33 v35 v37 v39 v41 v43 v45 v47 v49 v53 v55 v57 v59 v61 v63 x50 x51 x52 x53 x54 x55 x56 x57 x58 x59 x60 x61 x62 x63 x64 x65 x66 x67 x68 x69 x70 x71 x72 x73 x74 x75 x76 x77), df, h64⟩ (@kR ⟨(outR3 1 (thenR3 (fun s1 => vc3 (pp G) ro ir6_s3 s1 (@kR ⟨R⟩)) R))⟩))⟩))⟩))⟩))⟩))⟩))⟩))⟩))⟩))⟩))⟩))⟩))⟩))⟩))⟩))⟩))⟩))⟩))⟩))⟩))⟩))⟩))⟩))⟩))⟩))⟩))⟩) (@kb ⟨(R (.exit 0) ⟨(F78 x0 x1 x2 x3 x4 x5 x6 x7 x8 x9 x10 x11 x12 x13 x14 x15 x16 x17 v1 v3 v5 v7 v9 v11 v13 v15 x26 x27 x28 x29 x30 x31 x32 x33 x34 x35 x36 x37 x38 x39 x40 x41 x42 x43 x44 x45 x46 x47 x48 x49 x50 x51 x52 x53 x54 x55 x56 x57 x58 x59 x60 x61 x62 x63 x64 x65 x66 x67 x68 x69 x70 x71 x72 x73 x74 x75 x76 x77), df, h16⟩)⟩))⟩))⟩))⟩))⟩))⟩))⟩))⟩))⟩)) := by kernel_rfl
attribute [push_cast] sh_ir6_s0
theorem sh_ir6_s1 (G : Nat) (ro : Option Nat) (df : List Nat) (h : Heap) (x0 x1 x2 x3 x4 x5 x6 x7 x8 x9 x10 x11 x12 x13 x14 x15 x16 x17 x18 x19 x20 x21 x22 x23 x24 x25 x26 x27 x28 x29 x30 x31 x32 x33 x34 x35 x36 x37 x38 x39 x40 x41 x42 x43 x44 x45 x46 x47 x48 x49 x50 x51 x52 x53 x54 x55 x56 x57 x58 x59 x60 x61 x62 x63 x64 x65 x66 x67 x68 x69 x70 x71 x72 x73 x74 x75 x76 x77 : Value) (R : XExit → S → Prop) : vc3 (pp G) ro ir6_s1 ⟨(F78 x0 x1 x2 x3 x4 x5 x6 x7 x8 x9 x10 x11 x12 x13 x14 x15 x16 x17 x18 x19 x20 x21 x22 x23 x24 x25 x26 x27 x28 x29 x30 x31 x32 x33 x34 x35 x36 x37 x38 x39 x40 x41 x42 x43 x44 x45 x46 x47 x48 x49 x50 x51 x52 x53 x54 x55 x56 x57 x58 x59 x60 x61 x62 x63 x64 x65 x66 x67 x68 x69 x70 x71 x72 x73 x74 x75 x76 x77), df, h⟩ R = (oT (some x6) none h (@kk ⟨(fun v1 h2 => CallV (pp G) (.func (.func 22) #[] #[]) [v1] h2 (@kk ⟨(fun v3 h4 => oT (some x6) none h4 (@kk ⟨(fun v5 h6 => CallV (pp G) (.func (.func 24) #[] #[]) [v5] h6 (@kk ⟨(fun v7 h8 => oT (some x7) none h8 (@kk ⟨(fun v9 h10 => oT (binPure Try.prog .eql 3 (.tmp 61) (.tmp 62) v7 v9) none h10 (@kk ⟨(fun v11 h12 => oT (some v11) none h12 (@kk ⟨(fun v13 h14 => gT v13 true (some x6) none h14 (@kk ⟨(fun v15 h16 => gC (pp G) v13 true (.func (.func 26) #[] #[]) [v15, (.slice none 0 0)] h16 (@kk ⟨(fun v17 h18 => oT (pickV v13 v17 (.bool false)) none h18 (@kk ⟨(fun v19 h20 => oT (some v19) none h20 (@kk ⟨(fun v21 h22 => gT v21 true (some x6) none h22 (@kk ⟨(fun v23 h24 => gC (pp G) v21 true (.func (.func 25) #[] #[]) [v23] h24 (@kk ⟨(fun v25 h26 => gT v21 true (binPure Try.prog .eql 3 (.tmp 70) (.const (.int .i64 0)) v25 (.int .i64 0)) none h26 (@kk ⟨(fun v27 h28 => oT (pickV v21 v27 (.bool false)) none h28 (@kk ⟨(fun v29 h30 => oT (some v29) none h30 (@kk ⟨(fun v31 h32 => gT v31 true (some x6) none h32 (@kk ⟨(fun v33 h34 => gC (pp G) v31 true (.func (.func 24) #[] #[]) [v33] h34 (@kk ⟨(fun v35 h36 => gT v31 true (binPure Try.prog .eql 3 (.tmp 75) (.const (.int .i64 0)) v35 (.int .i64 0)) none h36 (@kk ⟨(fun v37 h38 => oT (pickV v31 v37 (.bool false)) none h38 (@kk ⟨(fun v39 h40 => oT (some v39) none h40 (@kk ⟨(fun v41 h42 => R .ret ⟨(F78 x0 x1 x2 x3 v41 x5 x6 x7 x8 x9 x10 x11 x12 x13 x14 x15 x16 x17 x18 x19 x20 x21 x22 x23 x24 x25 x26 x27 x28 x29 x30 x31 x32 x33 x34 x35 x36 x37 x38 x39 x40 x41 x42 x43 x44 x45 x46 x47 x48 x49 x50 x51 x52 x53 x54 x55 x56 x57 v1 v3 v5 v7 v9 v11 v13 v15 v17 v19 v21 v23 v25 v27 v29 v31 v33 v35 v37 v39), df, h42⟩)⟩))⟩))⟩))⟩))⟩))⟩))⟩))⟩))⟩))⟩))⟩))⟩))⟩))⟩))⟩))⟩))⟩))⟩))⟩))⟩))⟩)) := by kernel_rfl
attribute [push_cast] sh_ir6_s1
theorem sh_ir6_s2 (G : Nat) (ro : Option Nat) (df : List Nat) (h : Heap) (x0 x1 x2 x3 x4 x5 x6 x7 x8 x9 x10 x11 x12 x13 x14 x15 x16 x17 x18 x19 x20 x21 x22 x23 x24 x25 x26 x27 x28 x29 x30 x31 x32 x33 x34 x35 x36 x37 x38 x39 x40 x41 x42 x43 x44 x45 x46 x47 x48 x49 x50 x51 x52 x53 x54 x55 x56 x57 x58 x59 x60 x61 x62 x63 x64 x65 x66 x67 x68 x69 x70 x71 x72 x73 x74 x75 x76 x77 : Value) (R : XExit → S → Prop) : vc3 (pp G) ro ir6_s2 ⟨(F78 x0 x1 x2 x3 x4 x5 x6 x7 x8 x9 x10 x11 x12 x13 x14 x15 x16 x17 x18 x19 x20 x21 x22 x23 x24 x25 x26 x27 x28 x29 x30 x31 x32 x33 x34 x35 x36 x37 x38 x39 x40 x41 x42 x43 x44 x45 x46 x47 x48 x49 x50 x51 x52 x53 x54 x55 x56 x57 x58 x59 x60 x61 x62 x63 x64 x65 x66 x67 x68 x69 x70 x71 x72 x73 x74 x75 x76 x77), df, h⟩ R = (oT (some x6) none h (@kk ⟨(fun v1 h2 => CallV (pp G) (.func (.func 25) #[] #[]) [v1] h2 (@kk ⟨(fun v3 h4 => oT (some x7) none h4 (@kk ⟨(fun v5 h6 => oT (binPure Try.prog .neq 3 (.tmp 55) (.tmp 56) v3 v5) none h6 (@kk ⟨(fun v7 h8 => vcond v7 (@kb ⟨(oT (some (.bool false)) none h8 (@kk ⟨(fun v9 h10 => R .ret ⟨(F78 x0 x1 x2 x3 v9 x5 x6 x7 x8 x9 x10 x11 x12 x13 x14 x15 x16 x17 x18 x19 x20 x21 x22 x23 x24 x25 x26 x27 x28 x29 x30 x31 x32 x33 x34 x35 x36 x37 x38 x39 x40 x41 x42 x43 x44 x45 x46 x47 x48 x49 x50 x51 x52 x53 v1 v3 v5 v7 x58 x59 x60 x61 x62 x63 x64 x65 x66 x67 x68 x69 x70 x71 x72 x73 x74 x75 x76 x77), df, h10⟩)⟩))⟩) (@kb ⟨(R .normal ⟨(F78 x0 x1 x2 x3 x4 x5 x6 x7 x8 x9 x10 x11 x12 x13 x14 x15 x16 x17 x18 x19 x20 x21 x22 x23 x24 x25 x26 x27 x28 x29 x30 x31 x32 x33 x34 x35 x36 x37 x38 x39 x40 x41 x42 x43 x44 x45 x46 x47 x48 x49 x50 x51 x52 x53 v1 v3 v5 v7 x58 x59 x60 x61 x62 x63 x64 x65 x66 x67 x68 x69 x70 x71 x72 x73 x74 x75 x76 x77), df, h8⟩)⟩))⟩))⟩))⟩))⟩)) := by kernel_rfl
attribute [push_cast] sh_ir6_s2
theorem sh_ir6_s3 (G : Nat) (ro : Option Nat) (df : List Nat) (h : Heap) (x0 x1 x2 x3 x4 x5 x6 x7 x8 x9 x10 x11 x12 x13 x14 x15 x16 x17 x18 x19 x20 x21 x22 x23 x24 x25 x26 x27 x28 x29 x30 x31 x32 x33 x34 x35 x36 x37 x38 x39 x40 x41 x42 x43 x44 x45 x46 x47 x48 x49 x50 x51 x52 x53 x54 x55 x56 x57 x58 x59 x60 x61 x62 x63 x64 x65 x66 x67 x68 x69 x70 x71 x72 x73 x74 x75 x76 x77 : Value) (R : XExit → S → Prop) : vc3 (pp G) ro ir6_s3 ⟨(F78 x0 x1 x2 x3 x4 x5 x6 x7 x8 x9 x10 x11 x12 x13 x14 x15 x16 x17 x18 x19 x20 x21 x22 x23 x24 x25 x26 x27 x28 x29 x30 x31 x32 x33 x34 x35 x36 x37 x38 x39 x40 x41 x42 x43 x44 x45 x46 x47 x48 x49 x50 x51 x52 x53 x54 x55 x56 x57 x58 x59 x60 x61 x62 x63 x64 x65 x66 x67 x68 x69 x70 x71 x72 x73 x74 x75 x76 x77), df, h⟩ R = (oT (some x8) none h (@kk ⟨(fun v1 h2 => oT (binPure Try.prog .add 3 (.tmp 26) (.const (.int .i64 1)) v1 (.int .i64 1)) none h2 (@kk ⟨(fun v3 h4 => oT (some v3) none h4 (@kk ⟨(fun v5 h6 => R .normal ⟨(F78 x0 x1 x2 x3 x4 x5 x6 x7 v5 x9 x10 x11 x12 x13 x14 x15 x16 x17 x18 x19 x20 x21 x22 x23 x24 x25 v1 v3 x28 x29 x30 x31 x32 x33 x34 x35 x36 x37 x38 x39 x40 x41 x42 x43 x44 x45 x46 x47 x48 x49 x50 x51 x52 x53 x54 x55 x56 x57 x58 x59 x60 x61 x62 x63 x64 x65 x66 x67 x68 x69 x70 x71 x72 x73 x74 x75 x76 x77), df, h6⟩)⟩))⟩))⟩)) := by kernel_rfl
attribute [push_cast] sh_ir6_s3
end
end Go.Proofs.Ytohdgkmgkcoilaa

namespace Go.Proofs.Ytohdgkmgkcoilaa
open Go Go.RowKit Go.Ev
noncomputable section
set_option linter.unusedSimpArgs false
set_option linter.unusedVariables false
variable (G : Nat) (h : Heap)

/-- numbers as cells -/
def ivs (xs : List Int) : List Value := xs.map (Value.int .i64)
theorem ivs_get {xs : List Int} {i : Nat} (hi : i < xs.length) : (ivs xs)[i]? = some (.int .i64 (xs.getD i 0)) := by
  simp only [ivs, List.getElem?_map, List.getElem?_eq_getElem hi, Option.map_some, List.getD_eq_getElem?_getD, Option.getD_some]
theorem ivs_len (xs : List Int) : (ivs xs).length = xs.length := by simp [ivs]
theorem Sl_ld {h : Heap} {b off : Nat} {cs : List Value} (hs : Sl h (some ⟨b, off, none⟩) cs) {i : Nat} {v : Value} (hv : cs[i]? = some v) :
    ldC (some (false, 0)) (off + i) h.lo b (cells h b) = some v := by
  obtain ⟨b', off', e, hl⟩ := hs.load T_knd_3 hv
  cases e
  rw [load_eq, T_knd_3] at hl
  exact hl
theorem repl_flat (k : Nat) : (List.replicate k [Value.int .u8 0]).flatten = bv (List.replicate k 0) := by
  induction k with
  | zero => rfl
  | succ k ih => rw [List.replicate_succ, List.flatten_cons, ih, List.replicate_succ]; rfl

inductive I6 (h0 : Heap) (xs : List Int) (ar : Option Addr) (cr k q : Nat) : Nat → S → Prop
  | mk (i : Nat) (iv : Int) (h : Heap) (a : Option Addr) (c : Nat) (bs : List Int) {x0 x2 x3 x4 x9 x10 x11 x12 x13 x14 x15 x16 x17 x18 x19 x20 x21 x22 x23 x24 x25 x26 x27 x28 x29 x30 x31 x32 x33 x34 x35 x36 x37 x38 x39 x40 x41 x42 x43 x44 x45 x46 x47 x48 x49 x50 x51 x52 x53 x54 x55 x56 x57 x58 x59 x60 x61 x62 x63 x64 x65 x66 x67 x68 x69 x70 x71 x72 x73 x74 x75 x76 x77 : Value} (hiv : iv = (i : Int)) (hi : i ≤ 40)
    (hl : LogP h q k a c bs 0) (hg : Gr h0 h) (hb : ∀ b, LogB q a b → h0.next ≤ b) :
    I6 h0 xs ar cr k q (40 - i) ⟨(F78 x0 (.slice ar xs.length cr) x2 x3 x4 (.int .i64 (k : Int)) (.pointer (some ⟨q, 0, none⟩)) (.int .i64 bs.length) (.int .i64 iv) x9 x10 x11 x12 x13 x14 x15 x16 x17 x18 x19 x20 x21 x22 x23 x24 x25 x26 x27 x28 x29 x30 x31 x32 x33 x34 x35 x36 x37 x38 x39 x40 x41 x42 x43 x44 x45 x46 x47 x48 x49 x50 x51 x52 x53 x54 x55 x56 x57 x58 x59 x60 x61 x62 x63 x64 x65 x66 x67 x68 x69 x70 x71 x72 x73 x74 x75 x76 x77), [], h⟩

theorem full_w (lim : Int) (xs : List Int) (ar : Option Addr) (cr : Nat) (hs : Sl h ar (ivs xs)) (hb : ∀ b, blk ar b → b < h.next) :
    CallE (pp G) 6 [.int .i64 lim, .slice ar xs.length cr] h (fun v h' => v = .bool true) := by
  refine CallE.fir4 (good G) fir6 rfl rfl (F78_arr ..) fun hlo => ?_
  rw [sh_ir6]
  simp (disch := first | omega | (refine id ?_; simp only [push_cast]; done) | (refine id ?_; simp only [push_cast]; omega)) only [push_cast, Nat.reduceAdd, Nat.reduceMul, Nat.reduceSub, Nat.reduceLT, Nat.reduceEqDiff, Nat.reduceLeDiff, Int.reduceToNat, reduceCtorEq, Int.reduceLT, Int.reduceLE, Int.reduceAdd, Int.reduceSub, Int.reduceMul, Int.reduceNeg, Int.reduceEq]
  refine CallE.to (known_w G _) ?_
  rintro _ _ ⟨rfl, e⟩
  rw [e]
  clear e
  simp (disch := first | omega | (refine id ?_; simp only [push_cast]; done) | (refine id ?_; simp only [push_cast]; omega)) only [push_cast, Nat.reduceAdd, Nat.reduceMul, Nat.reduceSub, Nat.reduceLT, Nat.reduceEqDiff, Nat.reduceLeDiff, Int.reduceToNat, reduceCtorEq, Int.reduceLT, Int.reduceLE, Int.reduceAdd, Int.reduceSub, Int.reduceMul, Int.reduceNeg, Int.reduceEq, Bool.not_true]
  refine CallE.to (within_w G _ lim 120 (by omega) (by omega)) ?_
  rintro _ _ ⟨rfl, e⟩
  rw [e]
  clear e
  have hr := Wi_range lim 120 (by omega)
  obtain ⟨k, hk⟩ : ∃ k : Nat, Wi lim 120 = (k : Int) := ⟨(Wi lim 120).toNat, by omega⟩
  rw [hk]
  have hk1 : k < 120 := by omega
  simp (disch := first | omega | (refine id ?_; simp only [push_cast]; done) | (refine id ?_; simp only [push_cast]; omega)) only [push_cast, Nat.reduceAdd, Nat.reduceMul, Nat.reduceSub, Nat.reduceLT, Nat.reduceEqDiff, Nat.reduceLeDiff, Int.reduceToNat, reduceCtorEq, Int.reduceLT, Int.reduceLE, Int.reduceAdd, Int.reduceSub, Int.reduceMul, Int.reduceNeg, Int.reduceEq]
  refine CallE.to (new_w G _ k) ?_
  rintro _ h1 ⟨rfl, hl1, hg1, hn1⟩
  simp (disch := first | omega | (refine id ?_; simp only [push_cast]; done) | (refine id ?_; simp only [push_cast]; omega)) only [push_cast, Nat.reduceAdd, Nat.reduceMul, Nat.reduceSub, Nat.reduceLT, Nat.reduceEqDiff, Nat.reduceLeDiff, Int.reduceToNat, reduceCtorEq, Int.reduceLT, Int.reduceLE, Int.reduceAdd, Int.reduceSub, Int.reduceMul, Int.reduceNeg, Int.reduceEq]
  refine W.loop4 (good G) (I6 h xs ar cr k h.next) ?_ _ _ (I6.mk 0 0 h1 none 0 [] rfl (by omega) hl1 hg1 (fun b hb => by
    rcases hb with rfl | ⟨o, s, hb⟩
    · exact Nat.le_refl _
    · cases hb))
  intro m s1 hI
  cases hI with | mk i iv h2 a2 c2 bs hiv hi hl2 hg2 hb2 =>
  subst hiv
  rw [sh_ir6_s0]
  have hlo2 : h2.lo ≤ h2.next := by have := hg2.lo; have := hg2.next; omega
  have hfi := hl2.fits
  by_cases hlt : (i : Int) < xs.length ∧ (i : Int) < 40
  · obtain ⟨hlt1, hlt2⟩ := hlt
    have hix : i < xs.length := by omega
    have hsl := hg2.slE hs hb
    obtain ⟨b, off, rfl, _⟩ := hsl.load T_knd_3 (ivs_get hix)
    have hld := Sl_ld hsl (ivs_get hix)
    have hW := Wi_range (xs.getD i 0) 30 (by omega)
    obtain ⟨n, hn⟩ : ∃ n : Nat, Wi (xs.getD i 0) 30 = n := ⟨(Wi (xs.getD i 0) 30).toNat, by omega⟩
    have hn30 : n < 30 := by omega
    simp (disch := first | omega | (refine id ?_; simp only [push_cast]; done) | (refine id ?_; simp only [push_cast]; omega)) only [push_cast, Nat.reduceAdd, Nat.reduceMul, Nat.reduceSub, Nat.reduceLT, Nat.reduceEqDiff, Nat.reduceLeDiff, Int.reduceToNat, reduceCtorEq, Int.reduceLT, Int.reduceLE, Int.reduceAdd, Int.reduceSub, Int.reduceMul, Int.reduceNeg, Int.reduceEq, hlt1, hlt2, Int.toNat_natCast, hld]
    refine CallE.to (within_w G _ _ _ (by omega) (by omega)) ?_
    rintro _ _ ⟨rfl, e⟩
    rw [e, hn]
    clear e
    simp (disch := first | omega | (refine id ?_; simp only [push_cast]; done) | (refine id ?_; simp only [push_cast]; omega)) only [push_cast, Nat.reduceAdd, Nat.reduceMul, Nat.reduceSub, Nat.reduceLT, Nat.reduceEqDiff, Nat.reduceLeDiff, Int.reduceToNat, reduceCtorEq, Int.reduceLT, Int.reduceLE, Int.reduceAdd, Int.reduceSub, Int.reduceMul, Int.reduceNeg, Int.reduceEq, Int.toNat_natCast]
    rw [repl_flat]
    have hg3 : Gr h2 (h2.add (O (bv (List.replicate n 0)) 5 false)) := (Gr.refl h2).add' _
    have hl3 := hl2.grew hg3 fun _ _ h => h
    have hlow := hl2.low
    have hcall := append_w G _ hl3 (by omega) (List.replicate n 0) (some ⟨h2.next, 0, none⟩) n (Sl.row (cells_add_s _ _ _ _ rfl) (by rw [lo_add]; exact hlo2)) (by simp; omega) (fun b hb => by
      obtain ⟨o, s, e⟩ := hb
      cases e
      exact ⟨by rw [next_add]; omega, fun h0 => by have := hlow _ h0; omega⟩)
    rw [List.length_replicate] at hcall
    refine CallE.to hcall ?_
    rintro v h4 ⟨hy, hno⟩
    rw [List.length_replicate] at hy hno
    have hw1 : IntKind.i64.wrap ((bs.length : Int) + n) = bs.length + n := wrap_i64 (by omega) (by omega)
    have hw2 : IntKind.i64.wrap ((bs.length : Int) + n + 4) = bs.length + n + 4 := wrap_i64 (by omega) (by omega)
    by_cases hfit : bs.length + (4 + n) ≤ k
    · obtain ⟨rfl, a4, c4, hl4, hg4, hb4⟩ := hy hfit
      have hfit' : (bs.length : Int) + n + 4 ≤ k := by omega
      have hg4' : Gr h h4 := (((hg2.tr hg3).mono fun _ _ h => h.elim).trans hg4 fun b hb h0 => by have := hb2 b h0; omega)
      have hlen : (bs ++ beL n 4 ++ List.replicate n 0).length = bs.length + n + 4 := by simp only [List.length_append, beL_len, List.length_replicate]; omega
      have hb4' : ∀ b, LogB h.next a4 b → h.next ≤ b := fun b hb => by
        rcases hb with rfl | hb
        · exact Nat.le_refl _
        · rcases hb4 b hb with h6 | h6
          · exact hb2 b (.inr h6)
          · have := hg2.next; rw [next_add] at h6; omega
      simp (disch := first | omega | (refine id ?_; simp only [push_cast]; done) | (refine id ?_; simp only [push_cast]; omega)) only [push_cast, Nat.reduceAdd, Nat.reduceMul, Nat.reduceSub, Nat.reduceLT, Nat.reduceEqDiff, Nat.reduceLeDiff, Int.reduceToNat, reduceCtorEq, Int.reduceLT, Int.reduceLE, Int.reduceAdd, Int.reduceSub, Int.reduceMul, Int.reduceNeg, Int.reduceEq, hw1, hw2, hfit', beq_self_eq_true, Bool.not_true]
      refine CallE.to (len_w G _ hl4) ?_
      rintro _ _ ⟨rfl, e⟩
      rw [e]
      clear e
      have hz : ((bs ++ beL n 4 ++ List.replicate n 0).length : Int) = bs.length + n + 4 := by rw [hlen]; omega
      simp (disch := first | omega | (refine id ?_; simp only [push_cast]; done) | (refine id ?_; simp only [push_cast]; omega)) only [push_cast, Nat.reduceAdd, Nat.reduceMul, Nat.reduceSub, Nat.reduceLT, Nat.reduceEqDiff, Nat.reduceLeDiff, Int.reduceToNat, reduceCtorEq, Int.reduceLT, Int.reduceLE, Int.reduceAdd, Int.reduceSub, Int.reduceMul, Int.reduceNeg, Int.reduceEq, hz]
      refine ⟨40 - (i + 1), by omega, ?_⟩
      rw [← hz]
      exact I6.mk (i + 1) _ h4 a4 c4 _ (by first | rfl | omega) (by omega) hl4 hg4' hb4'
    · obtain ⟨rfl, rfl⟩ := hno hfit
      have hfit' : ¬ (bs.length : Int) + n + 4 ≤ k := by omega
      simp (disch := first | omega | (refine id ?_; simp only [push_cast]; done) | (refine id ?_; simp only [push_cast]; omega)) only [push_cast, Nat.reduceAdd, Nat.reduceMul, Nat.reduceSub, Nat.reduceLT, Nat.reduceEqDiff, Nat.reduceLeDiff, Int.reduceToNat, reduceCtorEq, Int.reduceLT, Int.reduceLE, Int.reduceAdd, Int.reduceSub, Int.reduceMul, Int.reduceNeg, Int.reduceEq, hw1, hw2, hfit', beq_self_eq_true, Bool.not_true]
      refine CallE.to (len_w G _ hl3) ?_
      rintro _ _ ⟨rfl, e⟩
      rw [e]
      clear e
      simp (disch := first | omega | (refine id ?_; simp only [push_cast]; done) | (refine id ?_; simp only [push_cast]; omega)) only [push_cast, Nat.reduceAdd, Nat.reduceMul, Nat.reduceSub, Nat.reduceLT, Nat.reduceEqDiff, Nat.reduceLeDiff, Int.reduceToNat, reduceCtorEq, Int.reduceLT, Int.reduceLE, Int.reduceAdd, Int.reduceSub, Int.reduceMul, Int.reduceNeg, Int.reduceEq]
      exact ⟨_, by omega, I6.mk (i + 1) _ _ a2 c2 _ (by first | rfl | omega) (by omega) hl3 (hg2.tr hg3) hb2⟩
  · have hor : ¬ (i : Int) < xs.length ∨ ((i : Int) < xs.length ∧ ¬ (i : Int) < 40) := by omega
    rcases hor with hA | hA <;> (first | (have hB := hA.2; have hA' := hA.1; simp (disch := first | omega | (refine id ?_; simp only [push_cast]; done) | (refine id ?_; simp only [push_cast]; omega)) only [push_cast, Nat.reduceAdd, Nat.reduceMul, Nat.reduceSub, Nat.reduceLT, Nat.reduceEqDiff, Nat.reduceLeDiff, Int.reduceToNat, reduceCtorEq, Int.reduceLT, Int.reduceLE, Int.reduceAdd, Int.reduceSub, Int.reduceMul, Int.reduceNeg, Int.reduceEq, hA', hB]) | simp (disch := first | omega | (refine id ?_; simp only [push_cast]; done) | (refine id ?_; simp only [push_cast]; omega)) only [push_cast, Nat.reduceAdd, Nat.reduceMul, Nat.reduceSub, Nat.reduceLT, Nat.reduceEqDiff, Nat.reduceLeDiff, Int.reduceToNat, reduceCtorEq, Int.reduceLT, Int.reduceLE, Int.reduceAdd, Int.reduceSub, Int.reduceMul, Int.reduceNeg, Int.reduceEq, hA])
    all_goals
      refine CallE.to (sync_w G _ hl2) ?_
      rintro _ h3 ⟨rfl, hl3, hg3, hn3⟩
      simp (disch := first | omega | (refine id ?_; simp only [push_cast]; done) | (refine id ?_; simp only [push_cast]; omega)) only [push_cast, Nat.reduceAdd, Nat.reduceMul, Nat.reduceSub, Nat.reduceLT, Nat.reduceEqDiff, Nat.reduceLeDiff, Int.reduceToNat, reduceCtorEq, Int.reduceLT, Int.reduceLE, Int.reduceAdd, Int.reduceSub, Int.reduceMul, Int.reduceNeg, Int.reduceEq]
      refine CallE.to (sure_w G _ hl3) ?_
      rintro _ _ ⟨rfl, e⟩
      rw [e]
      clear e
      simp (disch := first | omega | (refine id ?_; simp only [push_cast]; done) | (refine id ?_; simp only [push_cast]; omega)) only [push_cast, Nat.reduceAdd, Nat.reduceMul, Nat.reduceSub, Nat.reduceLT, Nat.reduceEqDiff, Nat.reduceLeDiff, Int.reduceToNat, reduceCtorEq, Int.reduceLT, Int.reduceLE, Int.reduceAdd, Int.reduceSub, Int.reduceMul, Int.reduceNeg, Int.reduceEq]
      have hrows : RowsP h3 none [] := ⟨⟨[], Sl.nil _ spotN_n, rfl, fun i r hr => by cases hr⟩, fun b hb => by obtain ⟨o, s, hb⟩ := hb; cases hb⟩
      refine CallE.to (compact_w G _ hl3 (by omega) [] none 0 hrows (fun r hr => by cases hr) (by decide)) ?_
      rintro v h4 ⟨hy, hno⟩
      obtain ⟨rfl, a4, c4, hl4, hg4, hb4⟩ := hy (Nat.zero_le _)
      simp (disch := first | omega | (refine id ?_; simp only [push_cast]; done) | (refine id ?_; simp only [push_cast]; omega)) only [push_cast, Nat.reduceAdd, Nat.reduceMul, Nat.reduceSub, Nat.reduceLT, Nat.reduceEqDiff, Nat.reduceLeDiff, Int.reduceToNat, reduceCtorEq, Int.reduceLT, Int.reduceLE, Int.reduceAdd, Int.reduceSub, Int.reduceMul, Int.reduceNeg, Int.reduceEq]
      refine CallE.to (len_w G _ hl4) ?_
      rintro _ _ ⟨rfl, e⟩
      rw [e]
      clear e
      have hz : ((enc []).length : Int) = 0 := rfl
      simp (disch := first | omega | (refine id ?_; simp only [push_cast]; done) | (refine id ?_; simp only [push_cast]; omega)) only [push_cast, Nat.reduceAdd, Nat.reduceMul, Nat.reduceSub, Nat.reduceLT, Nat.reduceEqDiff, Nat.reduceLeDiff, Int.reduceToNat, reduceCtorEq, Int.reduceLT, Int.reduceLE, Int.reduceAdd, Int.reduceSub, Int.reduceMul, Int.reduceNeg, Int.reduceEq, hz]
      refine CallE.to (sure_w G _ hl4) ?_
      rintro _ _ ⟨rfl, e⟩
      rw [e]
      clear e
      simp (disch := first | omega | (refine id ?_; simp only [push_cast]; done) | (refine id ?_; simp only [push_cast]; omega)) only [push_cast, Nat.reduceAdd, Nat.reduceMul, Nat.reduceSub, Nat.reduceLT, Nat.reduceEqDiff, Nat.reduceLeDiff, Int.reduceToNat, reduceCtorEq, Int.reduceLT, Int.reduceLE, Int.reduceAdd, Int.reduceSub, Int.reduceMul, Int.reduceNeg, Int.reduceEq, hz]
end
end Go.Proofs.Ytohdgkmgkcoilaa
