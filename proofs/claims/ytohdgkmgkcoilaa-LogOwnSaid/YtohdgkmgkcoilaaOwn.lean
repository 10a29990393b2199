/-
  LogOwn: for every row of bytes, every byte the law returns true: bytes that were handed in, or told, may be changed: records are not; two logs do not touch one another.
  Condition: none.
-/
import Derived.Test.YtohdgkmgkcoilaaLgd
import Derived.Test.YtohdgkmgkcoilaaLgk
import Derived.Test.YtohdgkmgkcoilaaLgl
import Derived.Test.YtohdgkmgkcoilaaRows
import Derived.ProofKit
import Derived.OpenShut
import Derived.Carry
import Derived.SizedLaws
import Derived.ChangeMaps5
set_option linter.unusedSimpArgs false
set_option linter.unusedVariables false
namespace Go.Proofs.Ytohdgkmgkcoilaa
open Go.RowKit Go.Ev
set_option linter.unusedVariables false
set_option maxRecDepth 100000
noncomputable section
def F97 (x0 x1 x2 x3 x4 x5 x6 x7 x8 x9 x10 x11 x12 x13 x14 x15 x16 x17 x18 x19 x20 x21 x22 x23 x24 x25 x26 x27 x28 x29 x30 x31 x32 x33 x34 x35 x36 x37 x38 x39 x40 x41 x42 x43 x44 x45 x46 x47 x48 x49 x50 x51 x52 x53 x54 x55 x56 x57 x58 x59 x60 x61 x62 x63 x64 x65 x66 x67 x68 x69 x70 x71 x72 x73 x74 x75 x76 x77 x78 x79 x80 x81 x82 x83 x84 x85 x86 x87 x88 x89 x90 x91 x92 x93 x94 x95 x96 : Value) : VT := ⟨97, (.node (.node (.node (.node (.node (.node (.node .nil x63 .nil) x31 (.node .nil x95 .nil)) x15 (.node (.node .nil x79 .nil) x47 .nil)) x7 (.node (.node (.node .nil x71 .nil) x39 .nil) x23 (.node (.node .nil x87 .nil) x55 .nil))) x3 (.node (.node (.node (.node .nil x67 .nil) x35 .nil) x19 (.node (.node .nil x83 .nil) x51 .nil)) x11 (.node (.node (.node .nil x75 .nil) x43 .nil) x27 (.node (.node .nil x91 .nil) x59 .nil)))) x1 (.node (.node (.node (.node (.node .nil x65 .nil) x33 .nil) x17 (.node (.node .nil x81 .nil) x49 .nil)) x9 (.node (.node (.node .nil x73 .nil) x41 .nil) x25 (.node (.node .nil x89 .nil) x57 .nil))) x5 (.node (.node (.node (.node .nil x69 .nil) x37 .nil) x21 (.node (.node .nil x85 .nil) x53 .nil)) x13 (.node (.node (.node .nil x77 .nil) x45 .nil) x29 (.node (.node .nil x93 .nil) x61 .nil))))) x0 (.node (.node (.node (.node (.node (.node .nil x64 .nil) x32 (.node .nil x96 .nil)) x16 (.node (.node .nil x80 .nil) x48 .nil)) x8 (.node (.node (.node .nil x72 .nil) x40 .nil) x24 (.node (.node .nil x88 .nil) x56 .nil))) x4 (.node (.node (.node (.node .nil x68 .nil) x36 .nil) x20 (.node (.node .nil x84 .nil) x52 .nil)) x12 (.node (.node (.node .nil x76 .nil) x44 .nil) x28 (.node (.node .nil x92 .nil) x60 .nil)))) x2 (.node (.node (.node (.node (.node .nil x66 .nil) x34 .nil) x18 (.node (.node .nil x82 .nil) x50 .nil)) x10 (.node (.node (.node .nil x74 .nil) x42 .nil) x26 (.node (.node .nil x90 .nil) x58 .nil))) x6 (.node (.node (.node (.node .nil x70 .nil) x38 .nil) x22 (.node (.node .nil x86 .nil) x54 .nil)) x14 (.node (.node (.node .nil x78 .nil) x46 .nil) x30 (.node (.node .nil x94 .nil) x62 .nil))))))⟩
theorem F97_arr (x0 x1 x2 x3 x4 x5 x6 x7 x8 x9 x10 x11 x12 x13 x14 x15 x16 x17 x18 x19 x20 x21 x22 x23 x24 x25 x26 x27 x28 x29 x30 x31 x32 x33 x34 x35 x36 x37 x38 x39 x40 x41 x42 x43 x44 x45 x46 x47 x48 x49 x50 x51 x52 x53 x54 x55 x56 x57 x58 x59 x60 x61 x62 x63 x64 x65 x66 x67 x68 x69 x70 x71 x72 x73 x74 x75 x76 x77 x78 x79 x80 x81 x82 x83 x84 x85 x86 x87 x88 x89 x90 x91 x92 x93 x94 x95 x96 : Value) : (F97 x0 x1 x2 x3 x4 x5 x6 x7 x8 x9 x10 x11 x12 x13 x14 x15 x16 x17 x18 x19 x20 x21 x22 x23 x24 x25 x26 x27 x28 x29 x30 x31 x32 x33 x34 x35 x36 x37 x38 x39 x40 x41 x42 x43 x44 x45 x46 x47 x48 x49 x50 x51 x52 x53 x54 x55 x56 x57 x58 x59 x60 x61 x62 x63 x64 x65 x66 x67 x68 x69 x70 x71 x72 x73 x74 x75 x76 x77 x78 x79 x80 x81 x82 x83 x84 x85 x86 x87 x88 x89 x90 x91 x92 x93 x94 x95 x96).arr = ⟨[x0, x1, x2, x3, x4, x5, x6, x7, x8, x9, x10, x11, x12, x13, x14, x15, x16, x17, x18, x19, x20, x21, x22, x23, x24, x25, x26, x27, x28, x29, x30, x31, x32, x33, x34, x35, x36, x37, x38, x39, x40, x41, x42, x43, x44, x45, x46, x47, x48, x49, x50, x51, x52, x53, x54, x55, x56, x57, x58, x59, x60, x61, x62, x63, x64, x65, x66, x67, x68, x69, x70, x71, x72, x73, x74, x75, x76, x77, x78, x79, x80, x81, x82, x83, x84, x85, x86, x87, x88, x89, x90, x91, x92, x93, x94, x95, x96]⟩ := by kernel_rfl
theorem F97_g4 (x0 x1 x2 x3 x4 x5 x6 x7 x8 x9 x10 x11 x12 x13 x14 x15 x16 x17 x18 x19 x20 x21 x22 x23 x24 x25 x26 x27 x28 x29 x30 x31 x32 x33 x34 x35 x36 x37 x38 x39 x40 x41 x42 x43 x44 x45 x46 x47 x48 x49 x50 x51 x52 x53 x54 x55 x56 x57 x58 x59 x60 x61 x62 x63 x64 x65 x66 x67 x68 x69 x70 x71 x72 x73 x74 x75 x76 x77 x78 x79 x80 x81 x82 x83 x84 x85 x86 x87 x88 x89 x90 x91 x92 x93 x94 x95 x96 : Value) : (F97 x0 x1 x2 x3 x4 x5 x6 x7 x8 x9 x10 x11 x12 x13 x14 x15 x16 x17 x18 x19 x20 x21 x22 x23 x24 x25 x26 x27 x28 x29 x30 x31 x32 x33 x34 x35 x36 x37 x38 x39 x40 x41 x42 x43 x44 x45 x46 x47 x48 x49 x50 x51 x52 x53 x54 x55 x56 x57 x58 x59 x60 x61 x62 x63 x64 x65 x66 x67 x68 x69 x70 x71 x72 x73 x74 x75 x76 x77 x78 x79 x80 x81 x82 x83 x84 x85 x86 x87 x88 x89 x90 x91 x92 x93 x94 x95 x96).get 4 = x4 := by kernel_rfl
attribute [push_cast] F97_g4
noncomputable def ir7_s0 : IR := (.seq (.seq (.ops [⟨(some 36), none, .take, (.move (.tmp 8)), 3⟩, ⟨(some 37), none, .take, (.move (.tmp 7)), 23⟩, ⟨(some 38), none, .take, (.call ⟨(.builtin .len), #[(.tmp 37)], #[23]⟩), 3⟩, ⟨(some 39), none, .take, (.binOp .lss 3 (.tmp 36) (.tmp 38) 3), 4⟩]) (.cond (.tmp 39) .skip (.exit 0))) (.seq (.block 1 (.ops [⟨(some 42), none, .take, (.move (.tmp 7)), 23⟩, ⟨(some 43), none, .take, (.move (.tmp 8)), 3⟩, ⟨(some 44), none, .take, (.indexAddr 23 (.tmp 42) (.tmp 43)), 0⟩, ⟨(some 45), none, .take, (.load 5 (.tmp 44)), 5⟩, ⟨(some 46), none, .take, (.move (.tmp 1)), 5⟩, ⟨(some 47), none, .take, (.binOp .add 5 (.tmp 45) (.tmp 46) 5), 5⟩, ⟨(some 48), none, .take, (.indexAddr 23 (.tmp 42) (.tmp 43)), 0⟩, ⟨none, none, .eff, (.store 5 (.tmp 48) (.tmp 47)), 0⟩])) (.ops [⟨(some 40), none, .take, (.move (.tmp 8)), 3⟩, ⟨(some 41), none, .take, (.binOp .add 3 (.tmp 40) (.const (.int .i64 1)) 3), 3⟩, ⟨(some 8), none, .take, (.assign (.tmp 41)), 3⟩])))
noncomputable def ir7_s1 : IR := (.seq (.ops [⟨(some 49), none, .take, (.move (.tmp 5)), 26⟩, ⟨(some 50), none, .call, (.call ⟨(.value (.func 23)), #[(.tmp 49)], #[26]⟩), 35⟩, ⟨(some 9), none, .take, (.assign (.tmp 50)), 35⟩]) (.seq (.seq (.ops [⟨(some 51), none, .take, (.move (.tmp 9)), 35⟩, ⟨(some 52), none, .take, (.call ⟨(.builtin .len), #[(.tmp 51)], #[35]⟩), 3⟩, ⟨(some 53), none, .take, (.binOp .neq 3 (.tmp 52) (.const (.int .i64 1)) 3), 4⟩]) (.cond (.tmp 53) (.seq (.ops [⟨(some 4), none, .take, (.assign (.const (.bool false))), 4⟩]) .ret) .skip)) (.seq (.seq (.ops [⟨(some 10), none, .take, (.assign (.const (.int .i64 0))), 3⟩]) (.block 2 (.loop (.seq (.seq (.ops [⟨(some 54), none, .take, (.move (.tmp 10)), 3⟩, ⟨(some 55), none, .take, (.move (.tmp 9)), 35⟩, ⟨(some 56), none, .take, (.indexAddr 35 (.tmp 55) (.const (.int .i64 0))), 0⟩, ⟨(some 57), none, .take, (.load 23 (.tmp 56)), 23⟩, ⟨(some 58), none, .take, (.call ⟨(.builtin .len), #[(.tmp 57)], #[23]⟩), 3⟩, ⟨(some 59), none, .take, (.binOp .lss 3 (.tmp 54) (.tmp 58) 3), 4⟩]) (.cond (.tmp 59) .skip (.exit 2))) (.seq (.block 3 (.ops [⟨(some 62), none, .take, (.move (.tmp 9)), 35⟩, ⟨(some 63), none, .take, (.indexAddr 35 (.tmp 62) (.const (.int .i64 0))), 0⟩, ⟨(some 64), none, .take, (.load 23 (.tmp 63)), 23⟩, ⟨(some 65), none, .take, (.move (.tmp 10)), 3⟩, ⟨(some 66), none, .take, (.indexAddr 23 (.tmp 64) (.tmp 65)), 0⟩, ⟨(some 67), none, .take, (.load 5 (.tmp 66)), 5⟩, ⟨(some 68), none, .take, (.move (.tmp 1)), 5⟩, ⟨(some 69), none, .take, (.binOp .add 5 (.tmp 67) (.tmp 68) 5), 5⟩, ⟨(some 70), none, .take, (.indexAddr 23 (.tmp 64) (.tmp 65)), 0⟩, ⟨none, none, .eff, (.store 5 (.tmp 70) (.tmp 69)), 0⟩])) (.ops [⟨(some 60), none, .take, (.move (.tmp 10)), 3⟩, ⟨(some 61), none, .take, (.binOp .add 3 (.tmp 60) (.const (.int .i64 1)) 3), 3⟩, ⟨(some 10), none, .take, (.assign (.tmp 61)), 3⟩])))))) (.seq (.ops [⟨(some 71), none, .take, (.move (.tmp 5)), 26⟩, ⟨(some 72), none, .call, (.call ⟨(.value (.func 19)), #[(.tmp 71), (.const (.int .i64 1000))], #[26, 3]⟩), 26⟩, ⟨(some 11), none, .take, (.assign (.tmp 72)), 26⟩]) (.seq (.seq (.ops [⟨(some 73), none, .take, (.move (.tmp 11)), 26⟩, ⟨(some 74), none, .take, (.binOp .eql 26 (.tmp 73) (.const (.pointer none)) 26), 4⟩]) (.cond (.tmp 74) (.seq (.ops [⟨(some 4), none, .take, (.assign (.const (.bool false))), 4⟩]) .ret) .skip)) (.seq (.ops [⟨(some 75), none, .take, (.move (.tmp 11)), 26⟩, ⟨(some 76), none, .eff, (.buildSlice 23 1 #[(0, (.const (.int .u8 1)))]), 23⟩, ⟨(some 77), none, .call, (.call ⟨(.value (.func 21)), #[(.tmp 75), (.tmp 76)], #[26, 23]⟩), 4⟩]) (.seq (.ops [⟨(some 78), none, .take, (.move (.tmp 5)), 26⟩, ⟨(some 79), none, .call, (.call ⟨(.value (.func 23)), #[(.tmp 78)], #[26]⟩), 35⟩, ⟨(some 12), none, .take, (.assign (.tmp 79)), 35⟩]) (.seq (.plan (.take 0 false ⟨(some 80), none, .take, (.move (.tmp 12)), 35⟩ (.take 1 false ⟨(some 81), none, .take, (.call ⟨(.builtin .len), #[(.tmp 80)], #[35]⟩), 3⟩ (.take 2 false ⟨(some 82), none, .take, (.binOp .eql 3 (.tmp 81) (.const (.int .i64 1)) 3), 4⟩ (.take 3 false ⟨(some 83), none, .take, (.move (.tmp 82)), 4⟩ (.take 4 false ⟨(some 84), (some (83, true)), .take, (.move (.tmp 12)), 35⟩ (.take 5 false ⟨(some 85), (some (83, true)), .take, (.indexAddr 35 (.tmp 84) (.const (.int .i64 0))), 0⟩ (.take 6 true ⟨(some 86), (some (83, true)), .take, (.load 23 (.tmp 85)), 23⟩ (.take 7 true ⟨(some 87), (some (83, true)), .take, (.convert 23 9 (.tmp 86)), 9⟩ (.take 8 false ⟨(some 88), (some (83, true)), .take, (.move (.tmp 0)), 23⟩ (.take 9 true ⟨(some 89), (some (83, true)), .take, (.convert 23 9 (.tmp 88)), 9⟩ (.take 10 false ⟨(some 90), (some (83, true)), .take, (.binOp .eql 9 (.tmp 87) (.tmp 89) 9), 4⟩ (.take 11 false ⟨(some 91), none, .take, (.pick (.tmp 83) (.tmp 90) (.const (.bool false))), 4⟩ (.take 12 false ⟨(some 92), none, .take, (.move (.tmp 91)), 4⟩ (.take 13 false ⟨(some 93), (some (92, true)), .take, (.move (.tmp 6)), 26⟩ (.eff 14 ⟨(some 94), (some (92, true)), .call, (.call ⟨(.value (.func 25)), #[(.tmp 93)], #[26]⟩), 3⟩ [13, 12, 12] (.take 15 false ⟨(some 95), (some (92, true)), .take, (.binOp .eql 3 (.tmp 94) (.const (.int .i64 9)) 3), 4⟩ (.take 16 false ⟨(some 96), none, .take, (.pick (.tmp 92) (.tmp 95) (.const (.bool false))), 4⟩ (.take 17 false ⟨(some 4), none, .take, (.assign (.tmp 96)), 4⟩ .fin))) .no)))))))))))))))) .ret))))))))
noncomputable def ir7_s2 : IR := (.seq (.seq (.ops [⟨(some 54), none, .take, (.move (.tmp 10)), 3⟩, ⟨(some 55), none, .take, (.move (.tmp 9)), 35⟩, ⟨(some 56), none, .take, (.indexAddr 35 (.tmp 55) (.const (.int .i64 0))), 0⟩, ⟨(some 57), none, .take, (.load 23 (.tmp 56)), 23⟩, ⟨(some 58), none, .take, (.call ⟨(.builtin .len), #[(.tmp 57)], #[23]⟩), 3⟩, ⟨(some 59), none, .take, (.binOp .lss 3 (.tmp 54) (.tmp 58) 3), 4⟩]) (.cond (.tmp 59) .skip (.exit 2))) (.seq (.block 3 (.ops [⟨(some 62), none, .take, (.move (.tmp 9)), 35⟩, ⟨(some 63), none, .take, (.indexAddr 35 (.tmp 62) (.const (.int .i64 0))), 0⟩, ⟨(some 64), none, .take, (.load 23 (.tmp 63)), 23⟩, ⟨(some 65), none, .take, (.move (.tmp 10)), 3⟩, ⟨(some 66), none, .take, (.indexAddr 23 (.tmp 64) (.tmp 65)), 0⟩, ⟨(some 67), none, .take, (.load 5 (.tmp 66)), 5⟩, ⟨(some 68), none, .take, (.move (.tmp 1)), 5⟩, ⟨(some 69), none, .take, (.binOp .add 5 (.tmp 67) (.tmp 68) 5), 5⟩, ⟨(some 70), none, .take, (.indexAddr 23 (.tmp 64) (.tmp 65)), 0⟩, ⟨none, none, .eff, (.store 5 (.tmp 70) (.tmp 69)), 0⟩])) (.ops [⟨(some 60), none, .take, (.move (.tmp 10)), 3⟩, ⟨(some 61), none, .take, (.binOp .add 3 (.tmp 60) (.const (.int .i64 1)) 3), 3⟩, ⟨(some 10), none, .take, (.assign (.tmp 61)), 3⟩])))
noncomputable def ir7_s3 : IR := (.seq (.ops [⟨(some 71), none, .take, (.move (.tmp 5)), 26⟩, ⟨(some 72), none, .call, (.call ⟨(.value (.func 19)), #[(.tmp 71), (.const (.int .i64 1000))], #[26, 3]⟩), 26⟩, ⟨(some 11), none, .take, (.assign (.tmp 72)), 26⟩]) (.seq (.seq (.ops [⟨(some 73), none, .take, (.move (.tmp 11)), 26⟩, ⟨(some 74), none, .take, (.binOp .eql 26 (.tmp 73) (.const (.pointer none)) 26), 4⟩]) (.cond (.tmp 74) (.seq (.ops [⟨(some 4), none, .take, (.assign (.const (.bool false))), 4⟩]) .ret) .skip)) (.seq (.ops [⟨(some 75), none, .take, (.move (.tmp 11)), 26⟩, ⟨(some 76), none, .eff, (.buildSlice 23 1 #[(0, (.const (.int .u8 1)))]), 23⟩, ⟨(some 77), none, .call, (.call ⟨(.value (.func 21)), #[(.tmp 75), (.tmp 76)], #[26, 23]⟩), 4⟩]) (.seq (.ops [⟨(some 78), none, .take, (.move (.tmp 5)), 26⟩, ⟨(some 79), none, .call, (.call ⟨(.value (.func 23)), #[(.tmp 78)], #[26]⟩), 35⟩, ⟨(some 12), none, .take, (.assign (.tmp 79)), 35⟩]) (.seq (.plan (.take 0 false ⟨(some 80), none, .take, (.move (.tmp 12)), 35⟩ (.take 1 false ⟨(some 81), none, .take, (.call ⟨(.builtin .len), #[(.tmp 80)], #[35]⟩), 3⟩ (.take 2 false ⟨(some 82), none, .take, (.binOp .eql 3 (.tmp 81) (.const (.int .i64 1)) 3), 4⟩ (.take 3 false ⟨(some 83), none, .take, (.move (.tmp 82)), 4⟩ (.take 4 false ⟨(some 84), (some (83, true)), .take, (.move (.tmp 12)), 35⟩ (.take 5 false ⟨(some 85), (some (83, true)), .take, (.indexAddr 35 (.tmp 84) (.const (.int .i64 0))), 0⟩ (.take 6 true ⟨(some 86), (some (83, true)), .take, (.load 23 (.tmp 85)), 23⟩ (.take 7 true ⟨(some 87), (some (83, true)), .take, (.convert 23 9 (.tmp 86)), 9⟩ (.take 8 false ⟨(some 88), (some (83, true)), .take, (.move (.tmp 0)), 23⟩ (.take 9 true ⟨(some 89), (some (83, true)), .take, (.convert 23 9 (.tmp 88)), 9⟩ (.take 10 false ⟨(some 90), (some (83, true)), .take, (.binOp .eql 9 (.tmp 87) (.tmp 89) 9), 4⟩ (.take 11 false ⟨(some 91), none, .take, (.pick (.tmp 83) (.tmp 90) (.const (.bool false))), 4⟩ (.take 12 false ⟨(some 92), none, .take, (.move (.tmp 91)), 4⟩ (.take 13 false ⟨(some 93), (some (92, true)), .take, (.move (.tmp 6)), 26⟩ (.eff 14 ⟨(some 94), (some (92, true)), .call, (.call ⟨(.value (.func 25)), #[(.tmp 93)], #[26]⟩), 3⟩ [13, 12, 12] (.take 15 false ⟨(some 95), (some (92, true)), .take, (.binOp .eql 3 (.tmp 94) (.const (.int .i64 9)) 3), 4⟩ (.take 16 false ⟨(some 96), none, .take, (.pick (.tmp 92) (.tmp 95) (.const (.bool false))), 4⟩ (.take 17 false ⟨(some 4), none, .take, (.assign (.tmp 96)), 4⟩ .fin))) .no)))))))))))))))) .ret)))))
theorem sh_ir7 (G : Nat) (h : Heap) (a0 a1 : Value) (R : Value → Heap → Prop) : vc3 (pp G) none ir7 ⟨(F97 a0 a1 undef undef undef undef undef undef undef undef undef undef undef undef undef undef undef undef undef undef undef undef undef undef undef undef undef undef undef undef undef undef undef undef undef undef undef undef undef undef undef undef undef undef undef undef undef undef undef undef undef undef undef undef undef undef undef undef undef undef undef undef undef undef undef undef undef undef undef undef undef undef undef undef undef undef undef undef undef undef undef undef undef undef undef undef undef undef undef undef undef undef undef undef undef undef undef), [], h⟩ (finR Try.prog [(.tmp 4)] R) = (oT (some (.bool false)) none h (@kk ⟨(fun v1 h2 => CallV (pp G) (.func (.func 13) #[] #[]) [] h2 (@kk ⟨(fun v3 h4 => oT (unV Try.prog .not v3) none h4 (@kk ⟨(fun v5 h6 => vcond v5 (@kb ⟨(oT (some (.bool false)) none h6 (@kk ⟨(fun v7 h8 => R v7 h8)⟩))⟩) (@kb ⟨(oT (some a0) none h6 (@kk ⟨(fun v9 h10 => oT (lnB (lnT Try.prog 23) v9) none h10 (@kk ⟨(fun v11 h12 => oT (binPure Try.prog .gtr 3 (.tmp 16) (.const (.int .i64 100)) v11 (.int .i64 100)) none h12 (@kk ⟨(fun v13 h14 => vcond v13 (@kb ⟨(oT (some (.bool true)) none h14 (@kk ⟨(fun v15 h16 => R v15 h16)⟩))⟩) (@kb ⟨(CallV (pp G) (.func (.func 15) #[] #[]) [(.int .i64 500)] h14 (@kk ⟨(fun v17 h18 => CallV (pp G) (.func (.func 15) #[] #[]) [(.int .i64 500)] h18 (@kk ⟨(fun v19 h20 => oT (some v17) none h20 (@kk ⟨(fun v21 h22 => oT (some v19) none h22 (@kk ⟨(fun v23 h24 => oT (some v21) none h24 (@kk ⟨(fun v25 h26 => oT (binPure Try.prog .eql 26 (.tmp 20) (.const (.pointer none)) v25 (.pointer none)) none h26 (@kk ⟨(fun v27 h28 => oT (some v27) none h28 (@kk ⟨(fun v29 h30 => gT v29 false (some v23) none h30 (@kk ⟨(fun v31 h32 => gT v29 false (binPure Try.prog .eql 26 (.tmp 23) (.const (.pointer none)) v31 (.pointer none)) none h32 (@kk ⟨(fun v33 h34 => oT (pickV v29 (.bool true) v33) none h34 (@kk ⟨(fun v35 h36 => vcond v35 (@kb ⟨(oT (some (.bool false)) none h36 (@kk ⟨(fun v37 h38 => R v37 h38)⟩))⟩) (@kb ⟨(oE (bsE (slT Try.prog 23) 0 [] h36) (@kk ⟨(fun v39 h40 => oT (some a0) none h40 (@kk ⟨(fun v41 h42 => oE (evAppend Try.prog 23 23 v39 v41 h42) (@kk ⟨(fun v43 h44 => oT (some v43) none h44 (@kk ⟨(fun v45 h46 => oT (some v21) none h46 (@kk ⟨(fun v47 h48 => oT (some v45) none h48 (@kk ⟨(fun v49 h50 => CallV (pp G) (.func (.func 21) #[] #[]) [v47, v49] h50 (@kk ⟨(fun v51 h52 => oT (some v23) none h52 (@kk ⟨(fun v53 h54 => oE (bsE (slT Try.prog 23) 5 [(0, (.int .u8 111)), (1, (.int .u8 116)), (2, (.int .u8 104)), (3, (.int .u8 101)), (4, (.int .u8 114))] h54) (@kk ⟨(fun v55 h56 => oE (cvE Try.prog 23 23 v55 h56) (@kk ⟨(fun v57 h58 => CallV (pp G) (.func (.func 21) #[] #[]) [v53, v57] h58 (@kk ⟨(fun v59 h60 => oT (some (.int .i64 0)) none h60 (@kk ⟨(fun v61 h62 => W (pp G) none (.loop ir7_s0) ⟨(F97 a0 a1 undef undef v1 v21 v23 v45 v61 undef undef undef undef v3 v5 v9 v11 v13 v17 v19 v25 v27 v29 v31 v33 v35 v39 v41 v43 v47 v49 v51 v53 v55 v57 v59 undef undef undef undef undef undef undef undef undef undef undef undef undef undef undef undef undef undef undef undef undef undef undef undef undef undef undef undef undef undef undef undef undef undef undef undef undef undef undef undef undef undef undef undef undef undef undef undef undef undef undef undef undef undef undef undef undef undef undef undef undef), [], h62⟩ (@kR ⟨(outR3 0 (thenR3 (fun s1 => vc3 (pp G) none ir7_s1 s1 (@kR ⟨(finR Try.prog [(.tmp 4)] R)⟩)) (finR Try.prog [(.tmp 4)] R)))⟩))⟩))⟩))⟩))⟩))⟩))⟩))⟩))⟩))⟩))⟩))⟩))⟩))⟩))⟩))⟩))⟩))⟩))⟩))⟩))⟩))⟩))⟩))⟩))⟩))⟩))⟩))⟩))⟩))⟩))⟩))⟩)) := by kernel_rfl
theorem sh_ir7_s0 (G : Nat) (ro : Option Nat) (df : List Nat) (h : Heap) (x0 x1 x2 x3 x4 x5 x6 x7 x8 x9 x10 x11 x12 x13 x14 x15 x16 x17 x18 x19 x20 x21 x22 x23 x24 x25 x26 x27 x28 x29 x30 x31 x32 x33 x34 x35 x36 x37 x38 x39 x40 x41 x42 x43 x44 x45 x46 x47 x48 x49 x50 x51 x52 x53 x54 x55 x56 x57 x58 x59 x60 x61 x62 x63 x64 x65 x66 x67 x68 x69 x70 x71 x72 x73 x74 x75 x76 x77 x78 x79 x80 x81 x82 x83 x84 x85 x86 x87 x88 x89 x90 x91 x92 x93 x94 x95 x96 : Value) (R : XExit → S → Prop) : vc3 (pp G) ro ir7_s0 ⟨(F97 x0 x1 x2 x3 x4 x5 x6 x7 x8 x9 x10 x11 x12 x13 x14 x15 x16 x17 x18 x19 x20 x21 x22 x23 x24 x25 x26 x27 x28 x29 x30 x31 x32 x33 x34 x35 x36 x37 x38 x39 x40 x41 x42 x43 x44 x45 x46 x47 x48 x49 x50 x51 x52 x53 x54 x55 x56 x57 x58 x59 x60 x61 x62 x63 x64 x65 x66 x67 x68 x69 x70 x71 x72 x73 x74 x75 x76 x77 x78 x79 x80 x81 x82 x83 x84 x85 x86 x87 x88 x89 x90 x91 x92 x93 x94 x95 x96), df, h⟩ R = (oT (some x8) none h (@kk ⟨(fun v1 h2 => oT (some x7) none h2 (@kk ⟨(fun v3 h4 => oT (lnB (lnT Try.prog 23) v3) none h4 (@kk ⟨(fun v5 h6 => oT (binPure Try.prog .lss 3 (.tmp 36) (.tmp 38) v1 v5) none h6 (@kk ⟨(fun v7 h8 => vcond v7 (@kb ⟨(oT (some x7) none h8 (@kk ⟨(fun v9 h10 => oT (some x8) none h10 (@kk ⟨(fun v11 h12 => oT (iaV (esz Try.prog 23) v9 v11) none h12 (@kk ⟨(fun v13 h14 => oT (evLoad Try.prog 5 v13 h14) none h14 (@kk ⟨(fun v15 h16 => oT (some x1) none h16 (@kk ⟨(fun v17 h18 => oT (binPure Try.prog .add 5 (.tmp 45) (.tmp 46) v15 v17) none h18 (@kk ⟨(fun v19 h20 => oT (iaV (esz Try.prog 23) v9 v11) none h20 (@kk ⟨(fun v21 h22 => oE (stE (szT Try.prog 5) v21 v19 h22) (@kk ⟨(fun v23 h24 => oT (some x8) none h24 (@kk ⟨(fun v25 h26 => oT (binPure Try.prog .add 3 (.tmp 40) (.const (.int .i64 1)) v25 (.int .i64 1)) none h26 (@kk ⟨(fun v27 h28 => oT (some v27) none h28 (@kk ⟨(fun v29 h30 => R .normal ⟨(F97 x0 x1 x2 x3 x4 x5 x6 x7 v29 x9 x10 x11 x12 x13 x14 x15 x16 x17 x18 x19 x20 x21 x22 x23 x24 x25 x26 x27 x28 x29 x30 x31 x32 x33 x34 x35 v1 v3 v5 v7 v25 v27 v9 v11 v13 v15 v17 v19 v21 x49 x50 x51 x52 x53 x54 x55 x56 x57 x58 x59 x60 x61 x62 x63 x64 x65 x66 x67 x68 x69 x70 x71 x72 x73 x74 x75 x76 x77 x78 x79 x80 x81 x82 x83 x84 x85 x86 x87 x88 x89 x90 x91 x92 x93 x94 x95 x96), df, h30⟩)⟩))⟩))⟩))⟩))⟩))⟩))⟩))⟩))⟩))⟩))⟩))⟩) (@kb ⟨(R (.exit 0) ⟨(F97 x0 x1 x2 x3 x4 x5 x6 x7 x8 x9 x10 x11 x12 x13 x14 x15 x16 x17 x18 x19 x20 x21 x22 x23 x24 x25 x26 x27 x28 x29 x30 x31 x32 x33 x34 x35 v1 v3 v5 v7 x40 x41 x42 x43 x44 x45 x46 x47 x48 x49 x50 x51 x52 x53 x54 x55 x56 x57 x58 x59 x60 x61 x62 x63 x64 x65 x66 x67 x68 x69 x70 x71 x72 x73 x74 x75 x76 x77 x78 x79 x80 x81 x82 x83 x84 x85 x86 x87 x88 x89 x90 x91 x92 x93 x94 x95 x96), df, h8⟩)⟩))⟩))⟩))⟩))⟩)) := by kernel_rfl
attribute [push_cast] sh_ir7_s0
theorem sh_ir7_s1 (G : Nat) (ro : Option Nat) (df : List Nat) (h : Heap) (x0 x1 x2 x3 x4 x5 x6 x7 x8 x9 x10 x11 x12 x13 x14 x15 x16 x17 x18 x19 x20 x21 x22 x23 x24 x25 x26 x27 x28 x29 x30 x31 x32 x33 x34 x35 x36 x37 x38 x39 x40 x41 x42 x43 x44 x45 x46 x47 x48 x49 x50 x51 x52 x53 x54 x55 x56 x57 x58 x59 x60 x61 x62 x63 x64 x65 x66 x67 x68 x69 x70 x71 x72 x73 x74 x75 x76 x77 x78 x79 x80 x81 x82 x83 x84 x85 x86 x87 x88 x89 x90 x91 x92 x93 x94 x95 x96 : Value) (R : XExit → S → Prop) : vc3 (pp G) ro ir7_s1 ⟨(F97 x0 x1 x2 x3 x4 x5 x6 x7 x8 x9 x10 x11 x12 x13 x14 x15 x16 x17 x18 x19 x20 x21 x22 x23 x24 x25 x26 x27 x28 x29 x30 x31 x32 x33 x34 x35 x36 x37 x38 x39 x40 x41 x42 x43 x44 x45 x46 x47 x48 x49 x50 x51 x52 x53 x54 x55 x56 x57 x58 x59 x60 x61 x62 x63 x64 x65 x66 x67 x68 x69 x70 x71 x72 x73 x74 x75 x76 x77 x78 x79 x80 x81 x82 x83 x84 x85 x86 x87 x88 x89 x90 x91 x92 x93 x94 x95 x96), df, h⟩ R = (oT (some x5) none h (@kk ⟨(fun v1 h2 => CallV (pp G) (.func (.func 23) #[] #[]) [v1] h2 (@kk ⟨(fun v3 h4 => oT (some v3) none h4 (@kk ⟨(fun v5 h6 => oT (some v5) none h6 (@kk ⟨(fun v7 h8 => oT (lnB (lnT Try.prog 35) v7) none h8 (@kk ⟨(fun v9 h10 => oT (binPure Try.prog .neq 3 (.tmp 52) (.const (.int .i64 1)) v9 (.int .i64 1)) none h10 (@kk ⟨(fun v11 h12 => vcond v11 (@kb ⟨(oT (some (.bool false)) none h12 (@kk ⟨(fun v13 h14 => R .ret ⟨(F97 x0 x1 x2 x3 v13 x5 x6 x7 x8 v5 x10 x11 x12 x13 x14 x15 x16 x17 x18 x19 x20 x21 x22 x23 x24 x25 x26 x27 x28 x29 x30 x31 x32 x33 x34 x35 x36 x37 x38 x39 x40 x41 x42 x43 x44 x45 x46 x47 x48 v1 v3 v7 v9 v11 x54 x55 x56 x57 x58 x59 x60 x61 x62 x63 x64 x65 x66 x67 x68 x69 x70 x71 x72 x73 x74 x75 x76 x77 x78 x79 x80 x81 x82 x83 x84 x85 x86 x87 x88 x89 x90 x91 x92 x93 x94 x95 x96), df, h14⟩)⟩))⟩) (@kb ⟨(oT (some (.int .i64 0)) none h12 (@kk ⟨(fun v15 h16 => W (pp G) ro (.loop ir7_s2) ⟨(F97 x0 x1 x2 x3 x4 x5 x6 x7 x8 v5 v15 x11 x12 x13 x14 x15 x16 x17 x18 x19 x20 x21 x22 x23 x24 x25 x26 x27 x28 x29 x30 x31 x32 x33 x34 x35 x36 x37 x38 x39 x40 x41 x42 x43 x44 x45 x46 x47 x48 v1 v3 v7 v9 v11 x54 x55 x56 x57 x58 x59 x60 x61 x62 x63 x64 x65 x66 x67 x68 x69 x70 x71 x72 x73 x74 x75 x76 x77 x78 x79 x80 x81 x82 x83 x84 x85 x86 x87 x88 x89 x90 x91 x92 x93 x94 x95 x96), df, h16⟩ (@kR ⟨(outR3 2 (thenR3 (fun s1 => vc3 (pp G) ro ir7_s3 s1 (@kR ⟨R⟩)) R))⟩))⟩))⟩))⟩))⟩))⟩))⟩))⟩))⟩)) := by kernel_rfl
attribute [push_cast] sh_ir7_s1
theorem sh_ir7_s2 (G : Nat) (ro : Option Nat) (df : List Nat) (h : Heap) (x0 x1 x2 x3 x4 x5 x6 x7 x8 x9 x10 x11 x12 x13 x14 x15 x16 x17 x18 x19 x20 x21 x22 x23 x24 x25 x26 x27 x28 x29 x30 x31 x32 x33 x34 x35 x36 x37 x38 x39 x40 x41 x42 x43 x44 x45 x46 x47 x48 x49 x50 x51 x52 x53 x54 x55 x56 x57 x58 x59 x60 x61 x62 x63 x64 x65 x66 x67 x68 x69 x70 x71 x72 x73 x74 x75 x76 x77 x78 x79 x80 x81 x82 x83 x84 x85 x86 x87 x88 x89 x90 x91 x92 x93 x94 x95 x96 : Value) (R : XExit → S → Prop) : vc3 (pp G) ro ir7_s2 ⟨(F97 x0 x1 x2 x3 x4 x5 x6 x7 x8 x9 x10 x11 x12 x13 x14 x15 x16 x17 x18 x19 x20 x21 x22 x23 x24 x25 x26 x27 x28 x29 x30 x31 x32 x33 x34 x35 x36 x37 x38 x39 x40 x41 x42 x43 x44 x45 x46 x47 x48 x49 x50 x51 x52 x53 x54 x55 x56 x57 x58 x59 x60 x61 x62 x63 x64 x65 x66 x67 x68 x69 x70 x71 x72 x73 x74 x75 x76 x77 x78 x79 x80 x81 x82 x83 x84 x85 x86 x87 x88 x89 x90 x91 x92 x93 x94 x95 x96), df, h⟩ R = (oT (some x10) none h (@kk ⟨(fun v1 h2 => oT (some x9) none h2 (@kk ⟨(fun v3 h4 => oT (iaV (esz Try.prog 35) v3 (.int .i64 0)) none h4 (@kk ⟨(fun v5 h6 => oT (evLoad Try.prog 23 v5 h6) none h6 (@kk ⟨(fun v7 h8 => oT (lnB (lnT Try.prog 23) v7) none h8 (@kk ⟨(fun v9 h10 => oT (binPure Try.prog .lss 3 (.tmp 54) (.tmp 58) v1 v9) none h10 (@kk ⟨(fun v11 h12 => vcond v11 (@kb ⟨(oT (some x9) none h12 (@kk ⟨(fun v13 h14 => oT (iaV (esz Try.prog 35) v13 (.int .i64 0)) none h14 (@kk ⟨(fun v15 h16 => oT (evLoad Try.prog 23 v15 h16) none h16 (@kk ⟨(fun v17 h18 => oT (some x10) none h18 (@kk ⟨(fun v19 h20 => oT (iaV (esz Try.prog 23) v17 v19) none h20 (@kk ⟨(fun v21 h22 => oT (evLoad Try.prog 5 v21 h22) none h22 (@kk ⟨(fun v23 h24 => oT (some x1) none h24 (@kk ⟨(fun v25 h26 => oT (binPure Try.prog .add 5 (.tmp 67) (.tmp 68) v23 v25) none h26 (@kk ⟨(fun v27 h28 => oT (iaV (esz Try.prog 23) v17 v19) none h28 (@kk ⟨(fun v29 h30 => oE (stE (szT Try.prog 5) v29 v27 h30) (@kk ⟨(fun v31 h32 => oT (some x10) none h32 (@kk ⟨(fun v33 h34 => oT (binPure Try.prog .add 3 (.tmp 60) (.const (.int .i64 1)) v33 (.int .i64 1)) none h34 (@kk ⟨(fun v35 h36 => oT (some v35) none h36 (@kk ⟨(fun v37 h38 => R .normal ⟨(F97 x0 x1 x2 x3 x4 x5 x6 x7 x8 x9 v37 x11 x12 x13 x14 x15 x16 x17 x18 x19 x20 x21 x22 x23 x24 x25 x26 x27 x28 x29 x30 x31 x32 x33 x34 x35 x36 x37 x38 x39 x40 x41 x42 x43 x44 x45 x46 x47 x48 x49 x50 x51 x52 x53 v1 v3 v5 v7 v9 v11 v33 v35 v13 v15 v17 v19 v21 v23 v25 v27 v29 x71 x72 x73 x74 x75 x76 x77 x78 x79 x80 x81 x82 x83 x84 x85 x86 x87 x88 x89 x90 x91 x92 x93 x94 x95 x96), df, h38⟩)⟩))⟩))⟩))⟩))⟩))⟩))⟩))⟩))⟩))⟩))⟩))⟩))⟩))⟩) (@kb ⟨(R (.exit 2) ⟨(F97 x0 x1 x2 x3 x4 x5 x6 x7 x8 x9 x10 x11 x12 x13 x14 x15 x16 x17 x18 x19 x20 x21 x22 x23 x24 x25 x26 x27 x28 x29 x30 x31 x32 x33 x34 x35 x36 x37 x38 x39 x40 x41 x42 x43 x44 x45 x46 x47 x48 x49 x50 x51 x52 x53 v1 v3 v5 v7 v9 v11 x60 x61 x62 x63 x64 x65 x66 x67 x68 x69 x70 x71 x72 x73 x74 x75 x76 x77 x78 x79 x80 x81 x82 x83 x84 x85 x86 x87 x88 x89 x90 x91 x92 x93 x94 x95 x96), df, h12⟩)⟩))⟩))⟩))⟩))⟩))⟩))⟩)) := by kernel_rfl
attribute [push_cast] sh_ir7_s2
theorem sh_ir7_s3 (G : Nat) (ro : Option Nat) (df : List Nat) (h : Heap) (x0 x1 x2 x3 x4 x5 x6 x7 x8 x9 x10 x11 x12 x13 x14 x15 x16 x17 x18 x19 x20 x21 x22 x23 x24 x25 x26 x27 x28 x29 x30 x31 x32 x33 x34 x35 x36 x37 x38 x39 x40 x41 x42 x43 x44 x45 x46 x47 x48 x49 x50 x51 x52 x53 x54 x55 x56 x57 x58 x59 x60 x61 x62 x63 x64 x65 x66 x67 x68 x69 x70 x71 x72 x73 x74 x75 x76 x77 x78 x79 x80 x81 x82 x83 x84 x85 x86 x87 x88 x89 x90 x91 x92 x93 x94 x95 x96 : Value) (R : XExit → S → Prop) : vc3 (pp G) ro ir7_s3 ⟨(F97 x0 x1 x2 x3 x4 x5 x6 x7 x8 x9 x10 x11 x12 x13 x14 x15 x16 x17 x18 x19 x20 x21 x22 x23 x24 x25 x26 x27 x28 x29 x30 x31 x32 x33 x34 x35 x36 x37 x38 x39 x40 x41 x42 x43 x44 x45 x46 x47 x48 x49 x50 x51 x52 x53 x54 x55 x56 x57 x58 x59 x60 x61 x62 x63 x64 x65 x66 x67 x68 x69 x70 x71 x72 x73 x74 x75 x76 x77 x78 x79 x80 x81 x82 x83 x84 x85 x86 x87 x88 x89 x90 x91 x92 x93 x94 x95 x96), df, h⟩ R = (oT (some x5) none h (@kk ⟨(fun v1 h2 => CallV (pp G) (.func (.func 19) #[] #[]) [v1, (.int .i64 1000)] h2 (@kk ⟨(fun v3 h4 => oT (some v3) none h4 (@kk ⟨(fun v5 h6 => oT (some v5) none h6 (@kk ⟨(fun v7 h8 => oT (binPure Try.prog .eql 26 (.tmp 73) (.const (.pointer none)) v7 (.pointer none)) none h8 (@kk ⟨(fun v9 h10 => vcond v9 (@kb ⟨(oT (some (.bool false)) none h10 (@kk ⟨(fun v11 h12 => R .ret ⟨(F97 x0 x1 x2 x3 v11 x5 x6 x7 x8 x9 x10 v5 x12 x13 x14 x15 x16 x17 x18 x19 x20 x21 x22 x23 x24 x25 x26 x27 x28 x29 x30 x31 x32 x33 x34 x35 x36 x37 x38 x39 x40 x41 x42 x43 x44 x45 x46 x47 x48 x49 x50 x51 x52 x53 x54 x55 x56 x57 x58 x59 x60 x61 x62 x63 x64 x65 x66 x67 x68 x69 x70 v1 v3 v7 v9 x75 x76 x77 x78 x79 x80 x81 x82 x83 x84 x85 x86 x87 x88 x89 x90 x91 x92 x93 x94 x95 x96), df, h12⟩)⟩))⟩) (@kb ⟨(oT (some v5) none h10 (@kk ⟨(fun v13 h14 => oE (bsE (slT Try.prog 23) 1 [(0, (.int .u8 1))] h14) (@kk ⟨(fun v15 h16 => CallV (pp G) (.func (.func 21) #[] #[]) [v13, v15] h16 (@kk ⟨(fun v17 h18 => oT (some x5) none h18 (@kk ⟨(fun v19 h20 => CallV (pp G) (.func (.func 23) #[] #[]) [v19] h20 (@kk ⟨(fun v21 h22 => oT (some v21) none h22 (@kk ⟨(fun v23 h24 => oP (some v23) h24 (@kk ⟨(fun v25 _ => oP (lnB (lnT Try.prog 35) v25) h24 (@kk ⟨(fun v26 _ => oP (binPure Try.prog .eql 3 (.tmp 81) (.const (.int .i64 1)) v26 (.int .i64 1)) h24 (@kk ⟨(fun v27 _ => oP (some v27) h24 (@kk ⟨(fun v28 _ => gP v28 true (some v23) h24 (@kk ⟨(fun v29 _ => gP v28 true (iaV (esz Try.prog 35) v29 (.int .i64 0)) h24 (@kk ⟨(fun v30 _ => gRd v28 true (evLoad Try.prog 23 v30 h24) 6 (fun h32 => (evLoad Try.prog 23 v30 h32)) h24 (@ke ⟨(fun v31 e33 => gRd v28 true (cvV Try.prog 23 9 v31 h24) 7 (fun h35 => (cvV Try.prog 23 9 v31 h35)) h24 (@ke ⟨(fun v34 e36 => gP v28 true (some x0) h24 (@kk ⟨(fun v37 _ => gRd v28 true (cvV Try.prog 23 9 v37 h24) 9 (fun h39 => (cvV Try.prog 23 9 v37 h39)) h24 (@ke ⟨(fun v38 e40 => gP v28 true (binPure Try.prog .eql 9 (.tmp 87) (.tmp 89) v34 v38) h24 (@kk ⟨(fun v41 _ => oP (pickV v28 v41 (.bool false)) h24 (@kk ⟨(fun v42 _ => oP (some v42) h24 (@kk ⟨(fun v43 _ => gP v43 true (some x6) h24 (@kk ⟨(fun v44 _ => gCk (pp G) v43 true (.func (.func 25) #[] #[]) [v44] [13, 12, 12] [e40, e36, e33] h24 (@kc ⟨(fun v45 h46 c47 => keptK c47 (@kb ⟨(gP v43 true (binPure Try.prog .eql 3 (.tmp 94) (.const (.int .i64 9)) v45 (.int .i64 9)) h46 (@kk ⟨(fun v48 _ => oP (pickV v43 v48 (.bool false)) h46 (@kk ⟨(fun v49 _ => oP (some v49) h46 (@kk ⟨(fun v50 _ => R .ret ⟨(F97 x0 x1 x2 x3 v50 x5 x6 x7 x8 x9 x10 v5 v23 x13 x14 x15 x16 x17 x18 x19 x20 x21 x22 x23 x24 x25 x26 x27 x28 x29 x30 x31 x32 x33 x34 x35 x36 x37 x38 x39 x40 x41 x42 x43 x44 x45 x46 x47 x48 x49 x50 x51 x52 x53 x54 x55 x56 x57 x58 x59 x60 x61 x62 x63 x64 x65 x66 x67 x68 x69 x70 v1 v3 v7 v9 v13 v15 v17 v19 v21 v25 v26 v27 v28 v29 v30 v31 v34 v37 v38 v41 v42 v43 v44 v45 v48 v49), df, h46⟩)⟩))⟩))⟩))⟩))⟩))⟩))⟩))⟩))⟩))⟩))⟩))⟩))⟩))⟩))⟩))⟩))⟩))⟩))⟩))⟩))⟩))⟩))⟩))⟩))⟩))⟩))⟩))⟩))⟩))⟩))⟩)) := by kernel_rfl
attribute [push_cast] sh_ir7_s3
end
end Go.Proofs.Ytohdgkmgkcoilaa

namespace Go.Proofs.Ytohdgkmgkcoilaa
open Go Go.RowKit Go.Ev
noncomputable section
set_option linter.unusedSimpArgs false
set_option linter.unusedVariables false
variable (G : Nat) (h : Heap)

theorem LogB_none {p b : Nat} (hb : LogB p none b) : b = p := by
  rcases hb with rfl | ⟨o, s, hx⟩
  · rfl
  · cases hx
def oth : List Int := [111, 116, 104, 101, 114]
theorem fiveS (h : Heap) : bsC 5 5 h (fillQ (List.map (fun i => (i, 1)) (List.range 5)) (List.replicate 5 [Value.int IntKind.u8 0]).flatten (Value.int IntKind.u8 111)
        [(1, Value.int IntKind.u8 116), (2, Value.int IntKind.u8 104), (3, Value.int IntKind.u8 101), (4, Value.int IntKind.u8 114)] (some (0, 1))) = some (.slice (some ⟨h.next, 0, none⟩) 5 5, h.add (O (bv oth) 5 false)) := by kernel_rfl
theorem Sl_store {h : Heap} {b off : Nat} {ds : List Int} (hs : Sl h (some ⟨b, off, none⟩) (bv ds)) (i : Nat) (x : Int) (hi : i < ds.length) (hlo : h.lo ≤ b) :
    ∃ h', stC 1 (off + i) (.int .u8 x) h b (cells h b) = some (undef, h') ∧ Sl h' (some ⟨b, off, none⟩) (bv (ds.set i x)) ∧ Grew h h' (fun k => k = b) := by
  rcases hs with ⟨h0, _⟩ | ⟨b', off', full, e, m, ha, hc, h1, h2, h3⟩
  · have := congrArg List.length h0
    rw [bv_len] at this
    rw [this] at hi
    cases hi
  · cases ha
    rw [bv_len] at h1 h2
    have hst := stC_s (h := h) 1 (off + i) (.int .u8 x) b full e m rfl rfl hlo (by omega)
    rw [← hc] at hst
    refine ⟨_, hst, .inr ⟨b, off, setFrom full (off + i) (Value.int .u8 x).cells.toList, e, m, rfl, cells_put_s _ _ _ _, ?_, ?_, .inl (by simp only [push_cast]; exact hlo)⟩, (Grew.refl h _).put'' _ _ fun _ => rfl⟩
    · have e1 : setFrom full (off + i) (Value.int .u8 x).cells.toList = full.set (off + i) (.int .u8 x) := by
        show full.take (off + i) ++ [Value.int .u8 x] ++ full.drop (off + i + 1) = _
        rw [List.set_eq_take_append_cons_drop, if_pos (by omega), List.append_assoc]
        rfl
      rw [e1, List.length_set, bv_len, List.length_set]
      exact h1
    · have e1 : setFrom full (off + i) (Value.int .u8 x).cells.toList = full.set (off + i) (.int .u8 x) := by
        show full.take (off + i) ++ [Value.int .u8 x] ++ full.drop (off + i + 1) = _
        rw [List.set_eq_take_append_cons_drop, if_pos (by omega), List.append_assoc]
        rfl
      rw [e1, bv_len, List.length_set, List.drop_set, if_neg (by omega), Nat.add_sub_cancel_left, List.take_set, h2]
      unfold bv
      rw [List.map_set]
inductive I7 (h0 : Heap) (xs : List Int) (aa : Option Addr) (ca : Nat) (w : Int) (p q : Nat) (a : Option Addr) (c4 : Nat) : Nat → S → Prop
  | mk (i : Nat) (iv : Int) (h : Heap) (ds : List Int) {x2 x3 x4 x9 x10 x11 x12 x13 x14 x15 x16 x17 x18 x19 x20 x21 x22 x23 x24 x25 x26 x27 x28 x29 x30 x31 x32 x33 x34 x35 x36 x37 x38 x39 x40 x41 x42 x43 x44 x45 x46 x47 x48 x49 x50 x51 x52 x53 x54 x55 x56 x57 x58 x59 x60 x61 x62 x63 x64 x65 x66 x67 x68 x69 x70 x71 x72 x73 x74 x75 x76 x77 x78 x79 x80 x81 x82 x83 x84 x85 x86 x87 x88 x89 x90 x91 x92 x93 x94 x95 x96 : Value} (hiv : iv = (i : Int)) (hi : i ≤ xs.length) (hds : ds.length = xs.length)
    (hs : Sl h a (bv ds)) (hg : Grew h0 h (blk a)) :
    I7 h0 xs aa ca w p q a c4 (xs.length - i) ⟨(F97 (.slice aa xs.length ca) (.int .u8 w) x2 x3 x4 (.pointer (some ⟨p, 0, none⟩)) (.pointer (some ⟨q, 0, none⟩)) (.slice a xs.length c4) (.int .i64 iv) x9 x10 x11 x12 x13 x14 x15 x16 x17 x18 x19 x20 x21 x22 x23 x24 x25 x26 x27 x28 x29 x30 x31 x32 x33 x34 x35 x36 x37 x38 x39 x40 x41 x42 x43 x44 x45 x46 x47 x48 x49 x50 x51 x52 x53 x54 x55 x56 x57 x58 x59 x60 x61 x62 x63 x64 x65 x66 x67 x68 x69 x70 x71 x72 x73 x74 x75 x76 x77 x78 x79 x80 x81 x82 x83 x84 x85 x86 x87 x88 x89 x90 x91 x92 x93 x94 x95 x96), [], h⟩
inductive I7b (h0 : Heap) (xs : List Int) (aa : Option Addr) (ca : Nat) (w : Int) (p q : Nat) (a ai : Option Addr) (c9 : Nat) : Nat → S → Prop
  | mk (i : Nat) (iv : Int) (h : Heap) (ds : List Int) {x2 x3 x4 x7 x8 x11 x12 x13 x14 x15 x16 x17 x18 x19 x20 x21 x22 x23 x24 x25 x26 x27 x28 x29 x30 x31 x32 x33 x34 x35 x36 x37 x38 x39 x40 x41 x42 x43 x44 x45 x46 x47 x48 x49 x50 x51 x52 x53 x54 x55 x56 x57 x58 x59 x60 x61 x62 x63 x64 x65 x66 x67 x68 x69 x70 x71 x72 x73 x74 x75 x76 x77 x78 x79 x80 x81 x82 x83 x84 x85 x86 x87 x88 x89 x90 x91 x92 x93 x94 x95 x96 : Value} (hiv : iv = (i : Int)) (hi : i ≤ xs.length) (hds : ds.length = xs.length)
    (hs : Sl h ai (bv ds)) (hg : Grew h0 h (blk ai)) :
    I7b h0 xs aa ca w p q a ai c9 (xs.length - i) ⟨(F97 (.slice aa xs.length ca) (.int .u8 w) x2 x3 x4 (.pointer (some ⟨p, 0, none⟩)) (.pointer (some ⟨q, 0, none⟩)) x7 x8 (.slice a 1 c9) (.int .i64 iv) x11 x12 x13 x14 x15 x16 x17 x18 x19 x20 x21 x22 x23 x24 x25 x26 x27 x28 x29 x30 x31 x32 x33 x34 x35 x36 x37 x38 x39 x40 x41 x42 x43 x44 x45 x46 x47 x48 x49 x50 x51 x52 x53 x54 x55 x56 x57 x58 x59 x60 x61 x62 x63 x64 x65 x66 x67 x68 x69 x70 x71 x72 x73 x74 x75 x76 x77 x78 x79 x80 x81 x82 x83 x84 x85 x86 x87 x88 x89 x90 x91 x92 x93 x94 x95 x96), [], h⟩
theorem own_law_w (xs : List Int) (aa : Option Addr) (ca : Nat) (hsa : Sl h aa (bv xs)) (hba : ∀ b, blk aa b → b < h.next) (w : Int) :
    CallE (pp G) 7 [.slice aa xs.length ca, .int .u8 w] h (fun v h' => v = .bool true) := by
  refine CallE.fir4 (good G) fir7 rfl rfl (F97_arr ..) fun hlo => ?_
  rw [sh_ir7]
  simp (disch := first | omega | (refine id ?_; simp only [push_cast]; done) | (refine id ?_; simp only [push_cast]; omega)) only [push_cast, Nat.reduceAdd, Nat.reduceMul, Nat.reduceSub, Nat.reduceLT, Nat.reduceEqDiff, Nat.reduceLeDiff, Int.reduceToNat, reduceCtorEq, Int.reduceLT, Int.reduceLE, Int.reduceAdd, Int.reduceSub, Int.reduceMul, Int.reduceNeg, Int.reduceEq]
  refine CallE.to (known_w G _) ?_
  rintro _ _ ⟨rfl, e⟩
  rw [e]
  clear e
  by_cases h1 : (100 : Int) < xs.length
  · simp (disch := first | omega | (refine id ?_; simp only [push_cast]; done) | (refine id ?_; simp only [push_cast]; omega)) only [push_cast, Nat.reduceAdd, Nat.reduceMul, Nat.reduceSub, Nat.reduceLT, Nat.reduceEqDiff, Nat.reduceLeDiff, Int.reduceToNat, reduceCtorEq, Int.reduceLT, Int.reduceLE, Int.reduceAdd, Int.reduceSub, Int.reduceMul, Int.reduceNeg, Int.reduceEq, Bool.not_true, h1]
  simp (disch := first | omega | (refine id ?_; simp only [push_cast]; done) | (refine id ?_; simp only [push_cast]; omega)) only [push_cast, Nat.reduceAdd, Nat.reduceMul, Nat.reduceSub, Nat.reduceLT, Nat.reduceEqDiff, Nat.reduceLeDiff, Int.reduceToNat, reduceCtorEq, Int.reduceLT, Int.reduceLE, Int.reduceAdd, Int.reduceSub, Int.reduceMul, Int.reduceNeg, Int.reduceEq, Bool.not_true, h1]
  refine CallE.to (new_w G _ 500) ?_
  rintro _ h1 ⟨rfl, hl1, hg1, hn1⟩
  simp (disch := first | omega | (refine id ?_; simp only [push_cast]; done) | (refine id ?_; simp only [push_cast]; omega)) only [push_cast, Nat.reduceAdd, Nat.reduceMul, Nat.reduceSub, Nat.reduceLT, Nat.reduceEqDiff, Nat.reduceLeDiff, Int.reduceToNat, reduceCtorEq, Int.reduceLT, Int.reduceLE, Int.reduceAdd, Int.reduceSub, Int.reduceMul, Int.reduceNeg, Int.reduceEq]
  refine CallE.to (new_w G _ 500) ?_
  rintro _ h2 ⟨rfl, ho2, hg2, hn2⟩
  have hl2 := hl1.grew hg2 fun _ _ h => h
  rw [hn1] at ho2
  have hlo2 : h2.lo = h.lo := by rw [hg2.lo, hg1.lo]
  have hbs : bsC 0 5 h2 (some (List.replicate 0 [Value.int IntKind.u8 0]).flatten) = some (.slice (some ⟨h2.next, 0, none⟩) 0 0, h2.add (O [] 5 false)) := bsC_s _ _ _ rfl
  have hg3 : Grew h2 (h2.add (O [] 5 false)) (fun _ => False) := Grew.add h2 _ _
  have hown : Own (h2.add (O [] 5 false)) 5 1 (some ⟨h2.next, 0, none⟩) 0 0 [] := ⟨rfl, rfl, .inr ⟨h2.next, false, rfl, by rw [lo_add]; omega, by rw [next_add]; omega, cells_add_s _ _ _ _ rfl, .inr ⟨rfl, rfl⟩⟩⟩
  have hsa2 : Sl h2 aa (bv xs) := Sl.grew (Sl.grew hsa hg1 fun b hb _ => ⟨hba b hb, fun h => h⟩) hg2 fun b hb _ => ⟨by have := hba b hb; omega, fun h => h⟩
  have hsa3 : Sl (h2.add (O [] 5 false)) aa (bv xs) := Sl.grew hsa2 hg3 fun b hb _ => ⟨by have := hba b hb; omega, fun h => h⟩
  obtain ⟨a4, c4, h4, ha4, hown4, hg4, hb4⟩ := own_append (P := Try.prog) T_appT_23_23 hown (by rw [lo_add, next_add]; omega) (x := .slice aa xs.length ca) (m := xs.length) (xs := bv xs) rfl
    (Sl.src hsa3 (by rw [bv_len]; omega) (by decide)) (by rw [bv_len]; omega) (bv_fone _ _) (by omega)
  rw [Nat.zero_add] at ha4 hown4
  rw [List.nil_append] at hown4
  simp (disch := first | omega | (refine id ?_; simp only [push_cast]; done) | (refine id ?_; simp only [push_cast]; omega)) only [push_cast, Nat.reduceAdd, Nat.reduceMul, Nat.reduceSub, Nat.reduceLT, Nat.reduceEqDiff, Nat.reduceLeDiff, Int.reduceToNat, reduceCtorEq, Int.reduceLT, Int.reduceLE, Int.reduceAdd, Int.reduceSub, Int.reduceMul, Int.reduceNeg, Int.reduceEq, hn1, hbs, ha4]
  have hn4 := hg4.next
  rw [next_add] at hn4
  have hb4' : ∀ b, blk a4 b → h.next + 2 ≤ b := fun b hb => by
    rcases hb4 b hb with ⟨o, s, e⟩ | hx
    · cases e; omega
    · rw [next_add] at hx; omega
  have g24 : Grew h2 h4 (fun b => b = h2.next) := (Grew.mono hg3 (T := fun b => b = h2.next) fun _ _ h => h.elim).tr' hg4 fun b _ hb => by obtain ⟨o, s, e⟩ := hb; cases e; rfl
  have hl4 := hl2.grew g24 fun b hb e => by have := LogB_none hb; omega
  have ho4 := ho2.grew g24 fun b hb e => by have := LogB_none hb; omega
  refine CallE.to (append_w G _ hl4 (by omega) xs a4 c4 hown4.sl (by omega) fun b hb => ⟨Own_lt hown4 b hb, fun hx => by have := LogB_none hx; have := hb4' b hb; omega⟩) ?_
  rintro v h5 ⟨yes5, _⟩
  obtain ⟨rfl, a5, c5, hl5, hg5, hb5⟩ := yes5 (by rw [List.length_nil]; omega)
  clear yes5
  rw [List.nil_append] at hl5
  have hn5 := hg5.next
  have hown5 := hown4.grew hg5 fun b hb _ hx => by have := LogB_none hx; have := hb4' b hb; omega
  have ho5 := ho4.grew hg5 fun b hb hx => by have := LogB_none hx; have := LogB_none hb; omega
  have hb5' : ∀ b, blk a5 b → h4.next ≤ b := fun b hb => by
    rcases hb5 b hb with ⟨o, s, e⟩ | hx
    · cases e
    · exact hx
  have hg6 : Grew h5 (h5.add (O (bv oth) 5 false)) (fun _ => False) := Grew.add h5 _ _
  have hc6 : cells (h5.add (O (bv oth) 5 false)) h5.next = some (bv oth, 5, false) := cells_add_s _ _ _ _ rfl
  have hl06 : h5.lo ≤ h5.next := by rw [hg5.lo, g24.lo]; omega
  have hl6' : (h5.add (O (bv oth) 5 false)).lo ≤ h5.next := by rw [lo_add]; exact hl06
  have hcv6 := cvE_mark (P := Try.prog) T_cnvT_23_23 (off := 0) (n := 5) (c := 5) (sp := none) hl6' hc6
  simp (disch := first | omega | (refine id ?_; simp only [push_cast]; done) | (refine id ?_; simp only [push_cast]; omega)) only [push_cast, Nat.reduceAdd, Nat.reduceMul, Nat.reduceSub, Nat.reduceLT, Nat.reduceEqDiff, Nat.reduceLeDiff, Int.reduceToNat, reduceCtorEq, Int.reduceLT, Int.reduceLE, Int.reduceAdd, Int.reduceSub, Int.reduceMul, Int.reduceNeg, Int.reduceEq, rg_get1, fiveS, hcv6]
  have hn6 : (h5.add (O (bv oth) 5 false)).next = h5.next + 1 := next_add _
  have hs6 : Sl (h5.add (O (bv oth) 5 false)) (some ⟨h5.next, 0, none⟩) (bv oth) := Sl.row hc6 hl6'
  have ho6 := ho5.grew hg6 fun _ _ h => h
  have hl6 := hl5.grew hg6 fun _ _ h => h
  have hown6 := hown5.grew hg6 fun _ _ _ h => h
  generalize h5.add (O (bv oth) 5 false) = h6 at hg6 hn6 hs6 ho6 hl6 hown6 ⊢
  clear hc6 hl6' hcv6
  refine CallE.to (append_w G _ ho6 (by omega) oth (some ⟨h5.next, 0, none⟩) 5 hs6 (by decide) fun b hb => by
    obtain ⟨o, s, e⟩ := hb
    cases e
    exact ⟨by omega, fun hx => by have := LogB_none hx; omega⟩) ?_
  rintro v h7 ⟨yes7, _⟩
  obtain ⟨rfl, a7, c7, ho7, hg7, hb7⟩ := yes7 (by show 0 + (4 + 5) ≤ 500; omega)
  clear yes7
  have hn7 := hg7.next
  have ho7l : (([] : List Int) ++ beL oth.length 4 ++ oth).length = 9 := by simp only [List.length_append, beL_len]; rfl
  have hb7' : ∀ b, LogB (h.next + 1) a7 b → b = h.next + 1 ∨ h6.next ≤ b := fun b hb => by
    rcases hb with rfl | hb
    · exact .inl rfl
    · rcases hb7 b hb with ⟨o, s, e⟩ | hx
      · cases e
      · exact .inr hx
  have hb5'' : ∀ b, LogB h.next a5 b → b = h.next ∨ (h4.next ≤ b ∧ b < h5.next) := fun b hb => by
    have hlt := hl5.low b hb
    rcases hb with rfl | hb
    · exact .inl rfl
    · exact .inr ⟨hb5' b hb, hlt⟩
  have hlt4 : ∀ b, blk a4 b → b < h4.next := Own_lt hown4
  have hl7 := hl6.grew hg7 fun b hb hx => by have := LogB_none hx; have := hb5'' b hb; omega
  have hown7 := hown6.grew hg7 fun b hb _ hx => by have := LogB_none hx; have := hb4' b hb; omega
  have hgall : Grew h h7 (fun b => h.next ≤ b) := (((((Grew.mono hg1 (T := fun b => h.next ≤ b) fun _ _ h => h.elim).tr' hg2 fun _ _ h => h.elim).tr' g24 fun i hi e => by omega).tr' hg5 fun i hi hx => by have := LogB_none hx; omega).tr' hg6 fun _ _ h => h.elim).tr' hg7 fun i hi hx => by have := LogB_none hx; omega
  have hsa7 : Sl h7 aa (bv xs) := Sl.grew hsa hgall fun b hb _ => ⟨hba b hb, fun hx => by have := hba b hb; omega⟩
  simp (disch := first | omega | (refine id ?_; simp only [push_cast]; done) | (refine id ?_; simp only [push_cast]; omega)) only [push_cast, Nat.reduceAdd, Nat.reduceMul, Nat.reduceSub, Nat.reduceLT, Nat.reduceEqDiff, Nat.reduceLeDiff, Int.reduceToNat, reduceCtorEq, Int.reduceLT, Int.reduceLE, Int.reduceAdd, Int.reduceSub, Int.reduceMul, Int.reduceNeg, Int.reduceEq]
  refine W.loop4 (good G) (I7 h7 xs aa ca w h.next (h.next + 1) a4 c4) ?_ _ _ (I7.mk 0 0 h7 xs rfl (Nat.zero_le _) rfl hown7.sl (Grew.refl _ _))
  intro _ s9 hI
  cases hI with | mk i iv h8 ds hiv hi hds hs8 hg8 =>
  subst hiv
  rw [sh_ir7_s0]
  have hlo8 : ∀ b, h.next ≤ b → h8.lo ≤ b := fun b hb => by rw [hg8.lo, hgall.lo]; omega
  by_cases hil : (i : Int) < xs.length
  · obtain ⟨x, hx⟩ : ∃ x, ds[i]? = some x := ⟨_, List.getElem?_eq_getElem (by omega)⟩
    obtain ⟨b4, o4, rfl, hld⟩ := hs8.load T_knd_5 (i := i) (v := .int .u8 x) (by rw [bv_get, hx]; rfl)
    rw [load_eq, T_knd_5] at hld
    have hb4n := hb4' b4 ⟨o4, none, rfl⟩
    obtain ⟨h9, hst, hs9, hg9⟩ := Sl_store hs8 i (IntKind.u8.wrap (x + w)) (by omega) (hlo8 b4 (by omega))
    simp (disch := first | omega | (refine id ?_; simp only [push_cast]; done) | (refine id ?_; simp only [push_cast]; omega)) only [push_cast, Nat.reduceAdd, Nat.reduceMul, Nat.reduceSub, Nat.reduceLT, Nat.reduceEqDiff, Nat.reduceLeDiff, Int.reduceToNat, reduceCtorEq, Int.reduceLT, Int.reduceLE, Int.reduceAdd, Int.reduceSub, Int.reduceMul, Int.reduceNeg, Int.reduceEq, hil, Int.toNat_natCast, hld, hst]
    exact ⟨_, by omega, I7.mk (i + 1) _ h9 (ds.set i (IntKind.u8.wrap (x + w))) (by first | rfl | omega) (by omega) (by rw [List.length_set]; exact hds) hs9 (hg8.tr' hg9 fun _ _ e => by subst e; exact ⟨o4, none, rfl⟩)⟩
  · clear hs8 hds
    have hl8 := hl7.grew hg8 fun b hb hx => by have := hb5'' b hb; have := hb4' b hx; have := hlt4 b hx; omega
    have ho8 := ho7.grew hg8 fun b hb hx => by have := hb7' b hb; have := hb4' b hx; have := hlt4 b hx; omega
    have hgal8 : Grew h h8 (fun b => h.next ≤ b) := hgall.tr' hg8 fun b _ hx => by have := hb4' b hx; omega
    have tor : Torn [] := .inl (by decide)
    have henc : beL xs.length 4 ++ xs = enc [xs] := by simp [enc, encR]
    rw [henc] at hl8
    simp (disch := first | omega | (refine id ?_; simp only [push_cast]; done) | (refine id ?_; simp only [push_cast]; omega)) only [push_cast, Nat.reduceAdd, Nat.reduceMul, Nat.reduceSub, Nat.reduceLT, Nat.reduceEqDiff, Nat.reduceLeDiff, Int.reduceToNat, reduceCtorEq, Int.reduceLT, Int.reduceLE, Int.reduceAdd, Int.reduceSub, Int.reduceMul, Int.reduceNeg, Int.reduceEq, hil]
    refine CallE.to (records_w G _ hl8 (by omega) [xs] [] (List.append_nil _).symm tor) ?_
    rintro v h9 ⟨⟨a9, c9, rfl, hrow9⟩, hg9⟩
    have hl9 := hl8.grew hg9 fun _ _ h => h
    have ho9 := ho8.grew hg9 fun _ _ h => h
    have hgal9 : Grew h h9 (fun b => h.next ≤ b) := hgal8.tr' hg9 fun _ _ h => h.elim
    obtain ⟨⟨cs, hown9, hrow9⟩, hlow9⟩ := hrow9
    obtain ⟨ai, ci, q1, q2, q3⟩ := hrow9 0 xs rfl
    clear hrow9
    simp (disch := first | omega | (refine id ?_; simp only [push_cast]; done) | (refine id ?_; simp only [push_cast]; omega)) only [push_cast, Nat.reduceAdd, Nat.reduceMul, Nat.reduceSub, Nat.reduceLT, Nat.reduceEqDiff, Nat.reduceLeDiff, Int.reduceToNat, reduceCtorEq, Int.reduceLT, Int.reduceLE, Int.reduceAdd, Int.reduceSub, Int.reduceMul, Int.reduceNeg, Int.reduceEq]
    refine W.loop4 (good G) (I7b h9 xs aa ca w h.next (h.next + 1) a9 ai c9) ?_ _ _ (I7b.mk 0 0 h9 xs rfl (Nat.zero_le _) rfl q2 (Grew.refl _ _))
    intro _ s9 hI
    cases hI with | mk j jv hA ds hjv hj hds hsA hgA =>
    subst hjv
    rw [sh_ir7_s2]
    have hn8 := hgal8.next
    have hloA : ∀ b, h.next ≤ b → hA.lo ≤ b := fun b hb => by rw [hgA.lo, hgal9.lo]; omega
    obtain ⟨b9, o9, rfl, hldr⟩ := (hown9.grew hgA fun b hb _ hx => (q3 b hx).2.2 hb).sl.load T_knd_23 q1
    rw [load_eq, T_knd_23, Nat.add_zero] at hldr
    by_cases hjl : (j : Int) < xs.length
    · obtain ⟨x, hx⟩ : ∃ x, ds[j]? = some x := ⟨_, List.getElem?_eq_getElem (by omega)⟩
      obtain ⟨bi, oi, rfl, hld⟩ := hsA.load T_knd_5 (i := j) (v := .int .u8 x) (by rw [bv_get, hx]; rfl)
      rw [load_eq, T_knd_5] at hld
      have hbin := (q3 bi ⟨oi, none, rfl⟩).1
      obtain ⟨hB, hst, hsB, hgB⟩ := Sl_store hsA j (IntKind.u8.wrap (x + w)) (by omega) (hloA bi (by omega))
      simp (disch := first | omega | (refine id ?_; simp only [push_cast]; done) | (refine id ?_; simp only [push_cast]; omega)) only [push_cast, Nat.reduceAdd, Nat.reduceMul, Nat.reduceSub, Nat.reduceLT, Nat.reduceEqDiff, Nat.reduceLeDiff, Int.reduceToNat, reduceCtorEq, Int.reduceLT, Int.reduceLE, Int.reduceAdd, Int.reduceSub, Int.reduceMul, Int.reduceNeg, Int.reduceEq, hjl, Int.toNat_natCast, hldr, hld, hst]
      exact ⟨_, by omega, I7b.mk (j + 1) _ hB (ds.set j (IntKind.u8.wrap (x + w))) (by first | rfl | omega) (by omega) (by rw [List.length_set]; exact hds) hsB (hgA.tr' hgB fun _ _ e => by subst e; exact ⟨oi, none, rfl⟩)⟩
    · simp (disch := first | omega | (refine id ?_; simp only [push_cast]; done) | (refine id ?_; simp only [push_cast]; omega)) only [push_cast, Nat.reduceAdd, Nat.reduceMul, Nat.reduceSub, Nat.reduceLT, Nat.reduceEqDiff, Nat.reduceLeDiff, Int.reduceToNat, reduceCtorEq, Int.reduceLT, Int.reduceLE, Int.reduceAdd, Int.reduceSub, Int.reduceMul, Int.reduceNeg, Int.reduceEq, hjl, hldr]
      have hn9 := hg9.next
      have hlt8 : ∀ b, LogB h.next a5 b → b < h8.next := fun b hb => hl8.low b hb
      have hlA := hl9.grew hgA fun b hb hx => by have := hlt8 b hb; have := (q3 b hx).1; omega
      have hoA := ho9.grew hgA fun b hb hx => by have := ho8.low b hb; have := (q3 b hx).1; omega
      have hgalA : Grew h hA (fun b => h.next ≤ b) := hgal9.tr' hgA fun b _ hx => by have := (q3 b hx).1; omega
      have hnA := hgA.next
      refine CallE.to (crash_w G _ hlA (by omega) 1000) ?_
      rintro v hC ⟨⟨q, aC, cC, rfl, hmC, hbC⟩, hgC⟩
      have hlC := hlA.grew hgC fun _ _ h => h
      have hoC := hoA.grew hgC fun _ _ h => h
      have hgalC : Grew h hC (fun b => h.next ≤ b) := hgalA.tr' hgC fun _ _ h => h.elim
      have hloC : hC.lo ≤ hC.next := by have := hgalC.lo; have := hgalC.next; omega
      have hgD : Grew hC (hC.add (O [.int .u8 1] 5 false)) (fun _ => False) := Grew.add hC _ _
      have hs1 : Sl (hC.add (O [.int .u8 1] 5 false)) (some ⟨hC.next, 0, none⟩) (bv [1]) := Sl.row (cells_add_s _ _ _ _ rfl) (by rw [lo_add]; omega)
      have hnD : (hC.add (O [.int .u8 1] 5 false)).next = hC.next + 1 := next_add _
      simp (disch := first | omega | (refine id ?_; simp only [push_cast]; done) | (refine id ?_; simp only [push_cast]; omega)) only [push_cast, Nat.reduceAdd, Nat.reduceMul, Nat.reduceSub, Nat.reduceLT, Nat.reduceEqDiff, Nat.reduceLeDiff, Int.reduceToNat, reduceCtorEq, Int.reduceLT, Int.reduceLE, Int.reduceAdd, Int.reduceSub, Int.reduceMul, Int.reduceNeg, Int.reduceEq, rg_get1, oneS]
      have hmD := hmC.grew hgD fun _ _ h => h
      have hlD := hlC.grew hgD fun _ _ h => h
      have hoD := hoC.grew hgD fun _ _ h => h
      have hgalD : Grew h (hC.add (O [.int .u8 1] 5 false)) (fun b => h.next ≤ b) := hgalC.tr' hgD fun _ _ h => h.elim
      generalize hC.add (O [.int .u8 1] 5 false) = hD at hgD hs1 hnD hmD hlD hoD hgalD ⊢
      refine CallE.to (append_w G _ hmD (by omega) [1] (some ⟨hC.next, 0, none⟩) 1 hs1 (by decide) fun b hb => by
        obtain ⟨o, s, e⟩ := hb
        cases e
        exact ⟨by omega, fun hx => by have := hmC.low _ hx; omega⟩) ?_
      rintro v hE hpE
      have hgE : Grew hD hE (LogB q aC) := by
        by_cases hfit : (enc (wholes (endN 0 (enc [xs]).length 1000) [xs])).length + (4 + [(1 : Int)].length) ≤ 500
        · obtain ⟨_, _, _, _, g, _⟩ := hpE.yes hfit
          exact g
        · obtain ⟨_, rfl⟩ := hpE.no hfit
          exact Grew.refl _ _
      have hltA : ∀ b, LogB h.next a5 b → b < hA.next := fun b hb => hlA.low b hb
      have hlE := hlD.grew hgE fun b hb hx => by have := hltA b hb; have := hbC b hx; omega
      have hoE := hoD.grew hgE fun b hb hx => by have := hoA.low b hb; have := hbC b hx; omega
      have hnA0 := hgalA.next
      have hgalE : Grew h hE (fun b => h.next ≤ b) := hgalD.tr' hgE fun b _ hx => by have := hbC b hx; omega
      simp (disch := first | omega | (refine id ?_; simp only [push_cast]; done) | (refine id ?_; simp only [push_cast]; omega)) only [push_cast, Nat.reduceAdd, Nat.reduceMul, Nat.reduceSub, Nat.reduceLT, Nat.reduceEqDiff, Nat.reduceLeDiff, Int.reduceToNat, reduceCtorEq, Int.reduceLT, Int.reduceLE, Int.reduceAdd, Int.reduceSub, Int.reduceMul, Int.reduceNeg, Int.reduceEq]
      refine CallE.to (records_w G _ hlE (by omega) [xs] [] (List.append_nil _).symm tor) ?_
      rintro v hF ⟨⟨aF, cF, rfl, ⟨⟨csF, hownF, hrowF⟩, hlowF⟩⟩, hgF⟩
      have hoF := hoE.grew hgF fun _ _ h => h
      have hgalF : Grew h hF (fun b => h.next ≤ b) := hgalE.tr' hgF fun _ _ h => h.elim
      have hsaF : Sl hF aa (bv xs) := Sl.grew hsa hgalF fun b hb _ => ⟨hba b hb, fun hx => by have := hba b hb; omega⟩
      obtain ⟨aiF, ciF, p1, p2, p3⟩ := hrowF 0 xs rfl
      obtain ⟨bF, oF, rfl, hldF⟩ := hownF.sl.load T_knd_23 p1
      rw [load_eq, T_knd_23, Nat.add_zero] at hldF
      have hcv1 := cv_text T_cnvT_23_9 p2 rfl (c := ciF)
      have hcv2 := cv_text T_cnvT_23_9 hsaF rfl (c := ca)
      simp (disch := first | omega | (refine id ?_; simp only [push_cast]; done) | (refine id ?_; simp only [push_cast]; omega)) only [push_cast, Nat.reduceAdd, Nat.reduceMul, Nat.reduceSub, Nat.reduceLT, Nat.reduceEqDiff, Nat.reduceLeDiff, Int.reduceToNat, reduceCtorEq, Int.reduceLT, Int.reduceLE, Int.reduceAdd, Int.reduceSub, Int.reduceMul, Int.reduceNeg, Int.reduceEq, hldF, hcv1, hcv2, b_eqls, beq_self_eq_true]
      refine CallE.to (len_w G _ hoF) ?_
      rintro _ _ ⟨rfl, e⟩
      rw [e, ho7l]
      clear e
      simp (disch := first | omega | (refine id ?_; simp only [push_cast]; done) | (refine id ?_; simp only [push_cast]; omega)) only [push_cast, Nat.reduceAdd, Nat.reduceMul, Nat.reduceSub, Nat.reduceLT, Nat.reduceEqDiff, Nat.reduceLeDiff, Int.reduceToNat, reduceCtorEq, Int.reduceLT, Int.reduceLE, Int.reduceAdd, Int.reduceSub, Int.reduceMul, Int.reduceNeg, Int.reduceEq, hldF, hcv1, hcv2]
end
end Go.Proofs.Ytohdgkmgkcoilaa

namespace Go.Proofs.Ytohdgkmgkcoilaa.logOwn
open Go.ChangeShapes Go.WideShapes Go.ChangeAt Go.RowKit Go.Ev
set_option linter.unusedVariables false
set_option linter.unusedSimpArgs false
set_option maxRecDepth 100000

theorem own : ownKnob Try.prog.godebug = none := by kernel_rfl
theorem laid : laidOutB Try.prog = true := by kernel_rfl

theorem lifted (os : Os) (started : os.Started) (H : Type) (enc : TypeId × Value → H) :
    ReturnsInHanded {} Try.checked os 7 .any (Rows.logOwnSpec.pre6 enc Try.prog Try.f7 Rows.logOwnRow.domain false) (Rows.logOwnSpec.post enc Try.prog Try.f7 false true false false) := by
  refine returnsInHanded_of_change_sized (C := Try.checked) own started (by kernel_rfl) Try.func7
    (ChangeSpec.witness6 (enc := enc) (C := Try.checked) false ⟨#[], #[.slice none 0 0, .int .u8 0], []⟩ 8 (by kernel_rfl) (by kernel_rfl) (by kernel_rfl) (by kernel_rfl)) ?_
  intro W base args ds gs before hval0 hW hcnd hsz _
  have hval : ∀ (j : Nat) t v, Try.f7.params[j]? = some t → args[j]? = some v → Value.okWide Try.prog W .any base t v := hval0
  have hW' := hW
  have hlt := hW.lt
  obtain ⟨p, q, hA0, hV, rfl, hfz, hnd⟩ := hW
  have hA : DataW.TrodAll enc Try.prog W 0 (fun _ => true) true Try.f7.params.toList args.toList ds p := hA0
  rw [Try.params7] at hA hval
  obtain ⟨v0, vs0, d0, ds0, p0, q0, hargs, rfl, rfl, h0, r0⟩ := trodAll_cons hA
  obtain ⟨v1, vs1, d1, ds1, p1, q1, rfl, rfl, rfl, h1, r1⟩ := trodAll_cons r0
  obtain ⟨rfl, rfl, rfl⟩ := trodAll_nil r1
  obtain rfl : args = #[v0, v1] := by cases args; simp_all
  obtain ⟨rfl, rfl⟩ := trodVars_none hV
  have h0' := h0
  have h1' := h1
  obtain ⟨xs0, a0, c0, rfl, sl0, bl0, pl0, sc0⟩ := open_bs (hval 0 23 v0 rfl rfl) h0 (fun elems spare hd => sized_slice hsz (j := 0) (t := 23) (e := 5) (elems := elems) (spare := spare) rfl (by cases hd; rfl) Try.underlying23)
  obtain ⟨n1, rfl, lo1, hi1, _⟩ := open_int Try.underlying5 (hval 1 5 v1 rfl rfl) h1
  have hrun : Calls Try.prog 7 #[.slice a0 xs0.length c0, .int .u8 n1] W fun e W' => e = .returned (.bool true) ∧ Below W.heap.size W W' :=
    calls_of_callE (P := Try.prog) (NG := 0) (s := fun _ => 0) (t := fun _ => .empty) (Nat.zero_le _) (own_law_w W.heap.size (baseH W) xs0 a0 c0 sl0 bl0 n1) (by simp only [plL, pl, pl0, Bool.and_true]) (by simp only [scL, sc, sc0, Bool.and_true]) rfl
  refine hrun.mono fun e W' ⟨he, bel⟩ => ?_
  subst he
  exact ⟨_, rfl, _, _, _, [], _, [], hW', trodAll_mk1 (shut_bool Try.underlying4 _), trodAll_cons_mk (Below.trod laid (by kernel_rfl) (of_decide_eq_true (by kernel_rfl)) h0' bel (fun x hx => hlt x (by simp [hx]))) (trodAll_cons_mk (Below.trod laid (by kernel_rfl) (of_decide_eq_true (by kernel_rfl)) h1' bel (fun x hx => hlt x (by simp [hx]))) (trodAll_mk0)), rfl, bel.frame _, fun h => by cases h⟩

theorem over : Rows.logOwnRow.holds Try.pinned (OpenSpec.ofChange Rows.logOwnSpec) :=
  OpenClaim.holds_of_wide 7 Try.f7 rfl rfl rfl rfl rfl rfl rfl ⟨rfl, rfl, rfl, rfl, rfl⟩ rfl rfl rfl rfl rfl (by kernel_rfl) Try.func7 (by kernel_rfl)
    (of_decide_eq_true (by kernel_rfl)) (by unfold Func.isWrapper; first | (rw [if_pos (by decide +kernel)]; kernel_rfl) | (rw [if_neg (by decide +kernel)]; exact ⟨rfl, rfl⟩))
    (fun os started H enc _ => lifted os started H enc)

theorem proved : Rows.LogOwnSaid :=
  over
end Go.Proofs.Ytohdgkmgkcoilaa.logOwn
