/-
  A part of the proof: what the program's functions hand back, as theorems. No condition but those that each theorem names.
-/
import Derived.Test.YtohdgkmgkcoilaaLgd
set_option linter.unusedSimpArgs false
set_option linter.unusedVariables false
namespace Go.Proofs.Ytohdgkmgkcoilaa
open Go.RowKit Go.Ev
set_option linter.unusedVariables false
set_option maxRecDepth 100000
noncomputable section
def F20 (x0 x1 x2 x3 x4 x5 x6 x7 x8 x9 x10 x11 x12 x13 x14 x15 x16 x17 x18 x19 : Value) : VT := ⟨20, (.node (.node (.node (.node (.node .nil x15 .nil) x7 .nil) x3 (.node (.node .nil x19 .nil) x11 .nil)) x1 (.node (.node (.node .nil x17 .nil) x9 .nil) x5 (.node .nil x13 .nil))) x0 (.node (.node (.node (.node .nil x16 .nil) x8 .nil) x4 (.node .nil x12 .nil)) x2 (.node (.node (.node .nil x18 .nil) x10 .nil) x6 (.node .nil x14 .nil))))⟩
theorem F20_arr (x0 x1 x2 x3 x4 x5 x6 x7 x8 x9 x10 x11 x12 x13 x14 x15 x16 x17 x18 x19 : Value) : (F20 x0 x1 x2 x3 x4 x5 x6 x7 x8 x9 x10 x11 x12 x13 x14 x15 x16 x17 x18 x19).arr = ⟨[x0, x1, x2, x3, x4, x5, x6, x7, x8, x9, x10, x11, x12, x13, x14, x15, x16, x17, x18, x19]⟩ := by kernel_rfl
def F27 (x0 x1 x2 x3 x4 x5 x6 x7 x8 x9 x10 x11 x12 x13 x14 x15 x16 x17 x18 x19 x20 x21 x22 x23 x24 x25 x26 : Value) : VT := ⟨27, (.node (.node (.node (.node (.node .nil x15 .nil) x7 (.node .nil x23 .nil)) x3 (.node (.node .nil x19 .nil) x11 .nil)) x1 (.node (.node (.node .nil x17 .nil) x9 (.node .nil x25 .nil)) x5 (.node (.node .nil x21 .nil) x13 .nil))) x0 (.node (.node (.node (.node .nil x16 .nil) x8 (.node .nil x24 .nil)) x4 (.node (.node .nil x20 .nil) x12 .nil)) x2 (.node (.node (.node .nil x18 .nil) x10 (.node .nil x26 .nil)) x6 (.node (.node .nil x22 .nil) x14 .nil))))⟩
theorem F27_arr (x0 x1 x2 x3 x4 x5 x6 x7 x8 x9 x10 x11 x12 x13 x14 x15 x16 x17 x18 x19 x20 x21 x22 x23 x24 x25 x26 : Value) : (F27 x0 x1 x2 x3 x4 x5 x6 x7 x8 x9 x10 x11 x12 x13 x14 x15 x16 x17 x18 x19 x20 x21 x22 x23 x24 x25 x26).arr = ⟨[x0, x1, x2, x3, x4, x5, x6, x7, x8, x9, x10, x11, x12, x13, x14, x15, x16, x17, x18, x19, x20, x21, x22, x23, x24, x25, x26]⟩ := by kernel_rfl
def F28 (x0 x1 x2 x3 x4 x5 x6 x7 x8 x9 x10 x11 x12 x13 x14 x15 x16 x17 x18 x19 x20 x21 x22 x23 x24 x25 x26 x27 : Value) : VT := ⟨28, (.node (.node (.node (.node (.node .nil x15 .nil) x7 (.node .nil x23 .nil)) x3 (.node (.node .nil x19 .nil) x11 (.node .nil x27 .nil))) x1 (.node (.node (.node .nil x17 .nil) x9 (.node .nil x25 .nil)) x5 (.node (.node .nil x21 .nil) x13 .nil))) x0 (.node (.node (.node (.node .nil x16 .nil) x8 (.node .nil x24 .nil)) x4 (.node (.node .nil x20 .nil) x12 .nil)) x2 (.node (.node (.node .nil x18 .nil) x10 (.node .nil x26 .nil)) x6 (.node (.node .nil x22 .nil) x14 .nil))))⟩
theorem F28_arr (x0 x1 x2 x3 x4 x5 x6 x7 x8 x9 x10 x11 x12 x13 x14 x15 x16 x17 x18 x19 x20 x21 x22 x23 x24 x25 x26 x27 : Value) : (F28 x0 x1 x2 x3 x4 x5 x6 x7 x8 x9 x10 x11 x12 x13 x14 x15 x16 x17 x18 x19 x20 x21 x22 x23 x24 x25 x26 x27).arr = ⟨[x0, x1, x2, x3, x4, x5, x6, x7, x8, x9, x10, x11, x12, x13, x14, x15, x16, x17, x18, x19, x20, x21, x22, x23, x24, x25, x26, x27]⟩ := by kernel_rfl
def F39 (x0 x1 x2 x3 x4 x5 x6 x7 x8 x9 x10 x11 x12 x13 x14 x15 x16 x17 x18 x19 x20 x21 x22 x23 x24 x25 x26 x27 x28 x29 x30 x31 x32 x33 x34 x35 x36 x37 x38 : Value) : VT := ⟨39, (.node (.node (.node (.node (.node (.node .nil x31 .nil) x15 .nil) x7 (.node .nil x23 .nil)) x3 (.node (.node (.node .nil x35 .nil) x19 .nil) x11 (.node .nil x27 .nil))) x1 (.node (.node (.node (.node .nil x33 .nil) x17 .nil) x9 (.node .nil x25 .nil)) x5 (.node (.node (.node .nil x37 .nil) x21 .nil) x13 (.node .nil x29 .nil)))) x0 (.node (.node (.node (.node (.node .nil x32 .nil) x16 .nil) x8 (.node .nil x24 .nil)) x4 (.node (.node (.node .nil x36 .nil) x20 .nil) x12 (.node .nil x28 .nil))) x2 (.node (.node (.node (.node .nil x34 .nil) x18 .nil) x10 (.node .nil x26 .nil)) x6 (.node (.node (.node .nil x38 .nil) x22 .nil) x14 (.node .nil x30 .nil)))))⟩
theorem F39_arr (x0 x1 x2 x3 x4 x5 x6 x7 x8 x9 x10 x11 x12 x13 x14 x15 x16 x17 x18 x19 x20 x21 x22 x23 x24 x25 x26 x27 x28 x29 x30 x31 x32 x33 x34 x35 x36 x37 x38 : Value) : (F39 x0 x1 x2 x3 x4 x5 x6 x7 x8 x9 x10 x11 x12 x13 x14 x15 x16 x17 x18 x19 x20 x21 x22 x23 x24 x25 x26 x27 x28 x29 x30 x31 x32 x33 x34 x35 x36 x37 x38).arr = ⟨[x0, x1, x2, x3, x4, x5, x6, x7, x8, x9, x10, x11, x12, x13, x14, x15, x16, x17, x18, x19, x20, x21, x22, x23, x24, x25, x26, x27, x28, x29, x30, x31, x32, x33, x34, x35, x36, x37, x38]⟩ := by kernel_rfl
def F73 (x0 x1 x2 x3 x4 x5 x6 x7 x8 x9 x10 x11 x12 x13 x14 x15 x16 x17 x18 x19 x20 x21 x22 x23 x24 x25 x26 x27 x28 x29 x30 x31 x32 x33 x34 x35 x36 x37 x38 x39 x40 x41 x42 x43 x44 x45 x46 x47 x48 x49 x50 x51 x52 x53 x54 x55 x56 x57 x58 x59 x60 x61 x62 x63 x64 x65 x66 x67 x68 x69 x70 x71 x72 : Value) : VT := ⟨73, (.node (.node (.node (.node (.node (.node (.node .nil x63 .nil) x31 .nil) x15 (.node .nil x47 .nil)) x7 (.node (.node (.node .nil x71 .nil) x39 .nil) x23 (.node .nil x55 .nil))) x3 (.node (.node (.node (.node .nil x67 .nil) x35 .nil) x19 (.node .nil x51 .nil)) x11 (.node (.node .nil x43 .nil) x27 (.node .nil x59 .nil)))) x1 (.node (.node (.node (.node (.node .nil x65 .nil) x33 .nil) x17 (.node .nil x49 .nil)) x9 (.node (.node .nil x41 .nil) x25 (.node .nil x57 .nil))) x5 (.node (.node (.node (.node .nil x69 .nil) x37 .nil) x21 (.node .nil x53 .nil)) x13 (.node (.node .nil x45 .nil) x29 (.node .nil x61 .nil))))) x0 (.node (.node (.node (.node (.node (.node .nil x64 .nil) x32 .nil) x16 (.node .nil x48 .nil)) x8 (.node (.node (.node .nil x72 .nil) x40 .nil) x24 (.node .nil x56 .nil))) x4 (.node (.node (.node (.node .nil x68 .nil) x36 .nil) x20 (.node .nil x52 .nil)) x12 (.node (.node .nil x44 .nil) x28 (.node .nil x60 .nil)))) x2 (.node (.node (.node (.node (.node .nil x66 .nil) x34 .nil) x18 (.node .nil x50 .nil)) x10 (.node (.node .nil x42 .nil) x26 (.node .nil x58 .nil))) x6 (.node (.node (.node (.node .nil x70 .nil) x38 .nil) x22 (.node .nil x54 .nil)) x14 (.node (.node .nil x46 .nil) x30 (.node .nil x62 .nil))))))⟩
theorem F73_arr (x0 x1 x2 x3 x4 x5 x6 x7 x8 x9 x10 x11 x12 x13 x14 x15 x16 x17 x18 x19 x20 x21 x22 x23 x24 x25 x26 x27 x28 x29 x30 x31 x32 x33 x34 x35 x36 x37 x38 x39 x40 x41 x42 x43 x44 x45 x46 x47 x48 x49 x50 x51 x52 x53 x54 x55 x56 x57 x58 x59 x60 x61 x62 x63 x64 x65 x66 x67 x68 x69 x70 x71 x72 : Value) : (F73 x0 x1 x2 x3 x4 x5 x6 x7 x8 x9 x10 x11 x12 x13 x14 x15 x16 x17 x18 x19 x20 x21 x22 x23 x24 x25 x26 x27 x28 x29 x30 x31 x32 x33 x34 x35 x36 x37 x38 x39 x40 x41 x42 x43 x44 x45 x46 x47 x48 x49 x50 x51 x52 x53 x54 x55 x56 x57 x58 x59 x60 x61 x62 x63 x64 x65 x66 x67 x68 x69 x70 x71 x72).arr = ⟨[x0, x1, x2, x3, x4, x5, x6, x7, x8, x9, x10, x11, x12, x13, x14, x15, x16, x17, x18, x19, x20, x21, x22, x23, x24, x25, x26, x27, x28, x29, x30, x31, x32, x33, x34, x35, x36, x37, x38, x39, x40, x41, x42, x43, x44, x45, x46, x47, x48, x49, x50, x51, x52, x53, x54, x55, x56, x57, x58, x59, x60, x61, x62, x63, x64, x65, x66, x67, x68, x69, x70, x71, x72]⟩ := by kernel_rfl
theorem F20_g2 (x0 x1 x2 x3 x4 x5 x6 x7 x8 x9 x10 x11 x12 x13 x14 x15 x16 x17 x18 x19 : Value) : (F20 x0 x1 x2 x3 x4 x5 x6 x7 x8 x9 x10 x11 x12 x13 x14 x15 x16 x17 x18 x19).get 2 = x2 := by kernel_rfl
attribute [push_cast] F20_g2
theorem F27_g2 (x0 x1 x2 x3 x4 x5 x6 x7 x8 x9 x10 x11 x12 x13 x14 x15 x16 x17 x18 x19 x20 x21 x22 x23 x24 x25 x26 : Value) : (F27 x0 x1 x2 x3 x4 x5 x6 x7 x8 x9 x10 x11 x12 x13 x14 x15 x16 x17 x18 x19 x20 x21 x22 x23 x24 x25 x26).get 2 = x2 := by kernel_rfl
attribute [push_cast] F27_g2
theorem F28_g4 (x0 x1 x2 x3 x4 x5 x6 x7 x8 x9 x10 x11 x12 x13 x14 x15 x16 x17 x18 x19 x20 x21 x22 x23 x24 x25 x26 x27 : Value) : (F28 x0 x1 x2 x3 x4 x5 x6 x7 x8 x9 x10 x11 x12 x13 x14 x15 x16 x17 x18 x19 x20 x21 x22 x23 x24 x25 x26 x27).get 4 = x4 := by kernel_rfl
attribute [push_cast] F28_g4
theorem F39_g4 (x0 x1 x2 x3 x4 x5 x6 x7 x8 x9 x10 x11 x12 x13 x14 x15 x16 x17 x18 x19 x20 x21 x22 x23 x24 x25 x26 x27 x28 x29 x30 x31 x32 x33 x34 x35 x36 x37 x38 : Value) : (F39 x0 x1 x2 x3 x4 x5 x6 x7 x8 x9 x10 x11 x12 x13 x14 x15 x16 x17 x18 x19 x20 x21 x22 x23 x24 x25 x26 x27 x28 x29 x30 x31 x32 x33 x34 x35 x36 x37 x38).get 4 = x4 := by kernel_rfl
attribute [push_cast] F39_g4
theorem F73_g4 (x0 x1 x2 x3 x4 x5 x6 x7 x8 x9 x10 x11 x12 x13 x14 x15 x16 x17 x18 x19 x20 x21 x22 x23 x24 x25 x26 x27 x28 x29 x30 x31 x32 x33 x34 x35 x36 x37 x38 x39 x40 x41 x42 x43 x44 x45 x46 x47 x48 x49 x50 x51 x52 x53 x54 x55 x56 x57 x58 x59 x60 x61 x62 x63 x64 x65 x66 x67 x68 x69 x70 x71 x72 : Value) : (F73 x0 x1 x2 x3 x4 x5 x6 x7 x8 x9 x10 x11 x12 x13 x14 x15 x16 x17 x18 x19 x20 x21 x22 x23 x24 x25 x26 x27 x28 x29 x30 x31 x32 x33 x34 x35 x36 x37 x38 x39 x40 x41 x42 x43 x44 x45 x46 x47 x48 x49 x50 x51 x52 x53 x54 x55 x56 x57 x58 x59 x60 x61 x62 x63 x64 x65 x66 x67 x68 x69 x70 x71 x72).get 4 = x4 := by kernel_rfl
attribute [push_cast] F73_g4
noncomputable def ir20_s0 : IR := (.seq (.seq (.ops [⟨(some 28), none, .take, (.move (.tmp 7)), 3⟩, ⟨(some 29), none, .take, (.move (.tmp 0)), 28⟩, ⟨(some 30), none, .take, (.nilCheck (.tmp 29)), 0⟩, ⟨(some 31), none, .take, (.fieldAddr 50 (.tmp 30) 2), 0⟩, ⟨(some 32), none, .take, (.load 35 (.tmp 31)), 35⟩, ⟨(some 33), none, .take, (.call ⟨(.builtin .len), #[(.tmp 32)], #[35]⟩), 3⟩, ⟨(some 34), none, .take, (.binOp .lss 3 (.tmp 28) (.tmp 33) 3), 4⟩, ⟨(some 35), none, .take, (.move (.tmp 34)), 4⟩, ⟨(some 36), (some (35, true)), .take, (.move (.tmp 0)), 28⟩, ⟨(some 37), (some (35, true)), .take, (.nilCheck (.tmp 36)), 0⟩, ⟨(some 38), (some (35, true)), .take, (.fieldAddr 50 (.tmp 37) 2), 0⟩, ⟨(some 39), (some (35, true)), .take, (.load 35 (.tmp 38)), 35⟩, ⟨(some 40), (some (35, true)), .take, (.move (.tmp 7)), 3⟩, ⟨(some 41), (some (35, true)), .take, (.indexAddr 35 (.tmp 39) (.tmp 40)), 0⟩, ⟨(some 42), (some (35, true)), .take, (.load 23 (.tmp 41)), 23⟩, ⟨(some 43), (some (35, true)), .take, (.call ⟨(.builtin .len), #[(.tmp 42)], #[23]⟩), 3⟩, ⟨(some 44), (some (35, true)), .take, (.binOp .add 3 (.tmp 43) (.const (.int .i64 4)) 3), 3⟩, ⟨(some 45), (some (35, true)), .take, (.move (.tmp 5)), 3⟩, ⟨(some 46), (some (35, true)), .take, (.binOp .leq 3 (.tmp 44) (.tmp 45) 3), 4⟩, ⟨(some 47), none, .take, (.pick (.tmp 35) (.tmp 46) (.const (.bool false))), 4⟩]) (.cond (.tmp 47) .skip (.exit 0))) (.seq (.block 1 (.seq (.ops [⟨(some 50), none, .take, (.move (.tmp 5)), 3⟩, ⟨(some 51), none, .take, (.move (.tmp 0)), 28⟩, ⟨(some 52), none, .take, (.nilCheck (.tmp 51)), 0⟩, ⟨(some 53), none, .take, (.fieldAddr 50 (.tmp 52) 2), 0⟩, ⟨(some 54), none, .take, (.load 35 (.tmp 53)), 35⟩, ⟨(some 55), none, .take, (.move (.tmp 7)), 3⟩, ⟨(some 56), none, .take, (.indexAddr 35 (.tmp 54) (.tmp 55)), 0⟩, ⟨(some 57), none, .take, (.load 23 (.tmp 56)), 23⟩, ⟨(some 58), none, .take, (.call ⟨(.builtin .len), #[(.tmp 57)], #[23]⟩), 3⟩, ⟨(some 59), none, .take, (.binOp .sub 3 (.tmp 50) (.tmp 58) 3), 3⟩, ⟨(some 60), none, .take, (.binOp .sub 3 (.tmp 59) (.const (.int .i64 4)) 3), 3⟩, ⟨(some 5), none, .take, (.assign (.tmp 60)), 3⟩]) (.ops [⟨(some 61), none, .take, (.move (.tmp 6)), 28⟩, ⟨(some 62), none, .take, (.move (.tmp 0)), 28⟩, ⟨(some 63), none, .take, (.nilCheck (.tmp 62)), 0⟩, ⟨(some 64), none, .take, (.fieldAddr 50 (.tmp 63) 2), 0⟩, ⟨(some 65), none, .take, (.load 35 (.tmp 64)), 35⟩, ⟨(some 66), none, .take, (.move (.tmp 7)), 3⟩, ⟨(some 67), none, .take, (.indexAddr 35 (.tmp 65) (.tmp 66)), 0⟩, ⟨(some 68), none, .take, (.load 23 (.tmp 67)), 23⟩, ⟨(some 69), none, .call, (.call ⟨(.value (.func 27)), #[(.tmp 61), (.tmp 68)], #[28, 23]⟩), 4⟩]))) (.ops [⟨(some 48), none, .take, (.move (.tmp 7)), 3⟩, ⟨(some 49), none, .take, (.binOp .add 3 (.tmp 48) (.const (.int .i64 1)) 3), 3⟩, ⟨(some 7), none, .take, (.assign (.tmp 49)), 3⟩])))
noncomputable def ir20_s1 : IR := (.seq (.ops [⟨(some 70), none, .take, (.move (.tmp 6)), 28⟩, ⟨(some 71), none, .call, (.call ⟨(.value (.func 28)), #[(.tmp 70)], #[28]⟩), 0⟩]) (.seq (.ops [⟨(some 72), none, .take, (.move (.tmp 6)), 28⟩, ⟨(some 4), none, .take, (.assign (.tmp 72)), 28⟩]) .ret))
noncomputable def ir29_s0 : IR := (.seq (.seq (.ops [⟨(some 16), none, .take, (.move (.tmp 5)), 3⟩, ⟨(some 17), none, .take, (.move (.tmp 1)), 35⟩, ⟨(some 18), none, .take, (.call ⟨(.builtin .len), #[(.tmp 17)], #[35]⟩), 3⟩, ⟨(some 19), none, .take, (.binOp .lss 3 (.tmp 16) (.tmp 18) 3), 4⟩]) (.cond (.tmp 19) .skip (.exit 0))) (.seq (.block 1 (.plan (.take 0 false ⟨(some 22), none, .take, (.move (.tmp 0)), 28⟩ (.take 1 false ⟨(some 23), none, .take, (.move (.tmp 0)), 28⟩ (.take 2 false ⟨(some 24), none, .take, (.nilCheck (.tmp 23)), 0⟩ (.take 3 false ⟨(some 25), none, .take, (.fieldAddr 50 (.tmp 24) 2), 0⟩ (.take 4 true ⟨(some 26), none, .take, (.load 35 (.tmp 25)), 35⟩ (.take 6 false ⟨(some 28), none, .take, (.move (.tmp 1)), 35⟩ (.take 7 false ⟨(some 29), none, .take, (.move (.tmp 5)), 3⟩ (.take 8 false ⟨(some 30), none, .take, (.indexAddr 35 (.tmp 28) (.tmp 29)), 0⟩ (.take 9 true ⟨(some 31), none, .take, (.load 23 (.tmp 30)), 23⟩ (.eff 5 ⟨(some 27), none, .eff, (.buildSlice 23 0 #[]), 23⟩ [] (.eff 10 ⟨(some 32), none, .eff, (.call ⟨(.builtin .append), #[(.tmp 27), (.tmp 31)], #[23, 23]⟩), 23⟩ [5, 9] (.eff 11 ⟨(some 33), none, .eff, (.buildSlice 35 1 #[(0, (.tmp 32))]), 35⟩ [10] (.eff 12 ⟨(some 34), none, .eff, (.call ⟨(.builtin .append), #[(.tmp 26), (.tmp 33)], #[35, 35]⟩), 35⟩ [4, 11, 10] (.take 13 false ⟨(some 35), none, .take, (.nilCheck (.tmp 22)), 0⟩ (.take 14 false ⟨(some 36), none, .take, (.fieldAddr 50 (.tmp 35) 2), 0⟩ (.eff 15 ⟨none, none, .eff, (.store 35 (.tmp 36) (.tmp 34)), 0⟩ [14, 12, 12, 0, 1, 2, 3, 4, 5, 6, 7, 8, 9, 10, 11, 12] .fin .no))) .no) .no) .no) .no)))))))))))) (.ops [⟨(some 20), none, .take, (.move (.tmp 5)), 3⟩, ⟨(some 21), none, .take, (.binOp .add 3 (.tmp 20) (.const (.int .i64 1)) 3), 3⟩, ⟨(some 5), none, .take, (.assign (.tmp 21)), 3⟩])))
noncomputable def ir29_s1 : IR := (.seq (.ops [⟨(some 37), none, .take, (.move (.tmp 0)), 28⟩, ⟨(some 38), none, .call, (.call ⟨(.value (.func 28)), #[(.tmp 37)], #[28]⟩), 0⟩]) (.seq (.ops [⟨(some 4), none, .take, (.assign (.const (.bool true))), 4⟩]) .ret))
noncomputable def ir30_s0 : IR := (.seq (.seq (.ops [⟨(some 5), none, .take, (.move (.tmp 4)), 3⟩, ⟨(some 6), none, .take, (.move (.tmp 0)), 28⟩, ⟨(some 7), none, .take, (.nilCheck (.tmp 6)), 0⟩, ⟨(some 8), none, .take, (.fieldAddr 50 (.tmp 7) 2), 0⟩, ⟨(some 9), none, .take, (.load 35 (.tmp 8)), 35⟩, ⟨(some 10), none, .take, (.call ⟨(.builtin .len), #[(.tmp 9)], #[35]⟩), 3⟩, ⟨(some 11), none, .take, (.binOp .lss 3 (.tmp 5) (.tmp 10) 3), 4⟩]) (.cond (.tmp 11) .skip (.exit 0))) (.seq (.block 1 (.ops [⟨(some 14), none, .take, (.move (.tmp 3)), 35⟩, ⟨(some 15), none, .eff, (.buildSlice 23 0 #[]), 23⟩, ⟨(some 16), none, .take, (.move (.tmp 0)), 28⟩, ⟨(some 17), none, .take, (.nilCheck (.tmp 16)), 0⟩, ⟨(some 18), none, .take, (.fieldAddr 50 (.tmp 17) 2), 0⟩, ⟨(some 19), none, .take, (.load 35 (.tmp 18)), 35⟩, ⟨(some 20), none, .take, (.move (.tmp 4)), 3⟩, ⟨(some 21), none, .take, (.indexAddr 35 (.tmp 19) (.tmp 20)), 0⟩, ⟨(some 22), none, .take, (.load 23 (.tmp 21)), 23⟩, ⟨(some 23), none, .eff, (.call ⟨(.builtin .append), #[(.tmp 15), (.tmp 22)], #[23, 23]⟩), 23⟩, ⟨(some 24), none, .eff, (.buildSlice 35 1 #[(0, (.tmp 23))]), 35⟩, ⟨(some 25), none, .eff, (.call ⟨(.builtin .append), #[(.tmp 14), (.tmp 24)], #[35, 35]⟩), 35⟩, ⟨(some 3), none, .take, (.assign (.tmp 25)), 35⟩])) (.ops [⟨(some 12), none, .take, (.move (.tmp 4)), 3⟩, ⟨(some 13), none, .take, (.binOp .add 3 (.tmp 12) (.const (.int .i64 1)) 3), 3⟩, ⟨(some 4), none, .take, (.assign (.tmp 13)), 3⟩])))
noncomputable def ir30_s1 : IR := (.seq (.ops [⟨(some 26), none, .take, (.move (.tmp 3)), 35⟩, ⟨(some 2), none, .take, (.assign (.tmp 26)), 35⟩]) .ret)
noncomputable def ir35_s0 : IR := (.seq (.seq (.ops [⟨(some 5), none, .take, (.move (.tmp 4)), 3⟩, ⟨(some 6), none, .take, (.move (.tmp 0)), 35⟩, ⟨(some 7), none, .take, (.call ⟨(.builtin .len), #[(.tmp 6)], #[35]⟩), 3⟩, ⟨(some 8), none, .take, (.binOp .lss 3 (.tmp 5) (.tmp 7) 3), 4⟩]) (.cond (.tmp 8) .skip (.exit 0))) (.seq (.block 1 (.ops [⟨(some 11), none, .take, (.move (.tmp 3)), 3⟩, ⟨(some 12), none, .take, (.move (.tmp 0)), 35⟩, ⟨(some 13), none, .take, (.move (.tmp 4)), 3⟩, ⟨(some 14), none, .take, (.indexAddr 35 (.tmp 12) (.tmp 13)), 0⟩, ⟨(some 15), none, .take, (.load 23 (.tmp 14)), 23⟩, ⟨(some 16), none, .take, (.call ⟨(.builtin .len), #[(.tmp 15)], #[23]⟩), 3⟩, ⟨(some 17), none, .take, (.binOp .add 3 (.tmp 11) (.tmp 16) 3), 3⟩, ⟨(some 18), none, .take, (.binOp .add 3 (.tmp 17) (.const (.int .i64 4)) 3), 3⟩, ⟨(some 3), none, .take, (.assign (.tmp 18)), 3⟩])) (.ops [⟨(some 9), none, .take, (.move (.tmp 4)), 3⟩, ⟨(some 10), none, .take, (.binOp .add 3 (.tmp 9) (.const (.int .i64 1)) 3), 3⟩, ⟨(some 4), none, .take, (.assign (.tmp 10)), 3⟩])))
noncomputable def ir35_s1 : IR := (.seq (.ops [⟨(some 19), none, .take, (.move (.tmp 3)), 3⟩, ⟨(some 2), none, .take, (.assign (.tmp 19)), 3⟩]) .ret)
theorem sh_ir16 (G : Nat) (h : Heap) (a0 : Value) (R : Value → Heap → Prop) : vc3 (pp G) none ir16 ⟨(F6 a0 undef undef undef undef undef), [], h⟩ (finR Try.prog [(.tmp 2)] R) = (oT (some (.pointer none)) none h (@kk ⟨(fun v1 h2 => oT (some a0) none h2 (@kk ⟨(fun v3 h4 => oT (bdV (plc Try.prog 50) [(0, v3)]) none h4 (@kk ⟨(fun v5 h6 => oE (bxE 50 v5 h6) (@kk ⟨(fun v7 h8 => oT (some v7) none h8 (@kk ⟨(fun v9 h10 => R v9 h10)⟩))⟩))⟩))⟩))⟩)) := by kernel_rfl
theorem sh_ir20 (G : Nat) (h : Heap) (a0 a1 : Value) (R : Value → Heap → Prop) : vc3 (pp G) none ir20 ⟨(F73 a0 a1 undef undef undef undef undef undef undef undef undef undef undef undef undef undef undef undef undef undef undef undef undef undef undef undef undef undef undef undef undef undef undef undef undef undef undef undef undef undef undef undef undef undef undef undef undef undef undef undef undef undef undef undef undef undef undef undef undef undef undef undef undef undef undef undef undef undef undef undef undef undef undef), [], h⟩ (finR Try.prog [(.tmp 4)] R) = (oT (some (.pointer none)) none h (@kk ⟨(fun v1 h2 => oP (some a0) h2 (@kk ⟨(fun v3 _ => oP (ncV v3) h2 (@kk ⟨(fun v4 _ => oP (faV (fld Try.prog 50 1) v4) h2 (@kk ⟨(fun v5 _ => oP (evLoad Try.prog 3 v5 h2) h2 (@kk ⟨(fun v6 _ => oP (some a1) h2 (@kk ⟨(fun v8 _ => oP (mxV Try.prog #[3, 3] 3 [v8, (.int .i64 0)]) h2 (@kk ⟨(fun v9 _ => oP (some a0) h2 (@kk ⟨(fun v10 _ => oP (some a0) h2 (@kk ⟨(fun v11 _ => oP (ncV v11) h2 (@kk ⟨(fun v12 _ => oP (faV (fld Try.prog 50 1) v12) h2 (@kk ⟨(fun v13 _ => oP (evLoad Try.prog 3 v13 h2) h2 (@kk ⟨(fun v14 _ => CallV (pp G) (.func (.func 31) #[] #[]) [v10] h2 (@kk ⟨(fun v16 h17 => keptK (keptP [6] h17 [(11, (fun h15 => (evLoad Try.prog 3 v13 h15)), v14), (3, (fun h7 => (evLoad Try.prog 3 v5 h7)), v6)]) (@kb ⟨(oP (binPure Try.prog .sub 3 (.tmp 15) (.tmp 19) v16 v14) h17 (@kk ⟨(fun v18 _ => oP (mnV Try.prog #[3, 3] 3 [v9, v18]) h17 (@kk ⟨(fun v19 _ => oP (binPure Try.prog .add 3 (.tmp 11) (.tmp 21) v6 v19) h17 (@kk ⟨(fun v20 _ => oP (some v20) h17 (@kk ⟨(fun v21 _ => oT (some a0) none h17 (@kk ⟨(fun v22 h23 => oT (ncV v22) none h23 (@kk ⟨(fun v24 h25 => oT (faV (fld Try.prog 50 0) v24) none h25 (@kk ⟨(fun v26 h27 => oT (evLoad Try.prog 3 v26 h27) none h27 (@kk ⟨(fun v28 h29 => CallV (pp G) (.func (.func 16) #[] #[]) [v28] h29 (@kk ⟨(fun v30 h31 => oT (some v30) none h31 (@kk ⟨(fun v32 h33 => oT (some (.int .i64 0)) none h33 (@kk ⟨(fun v34 h35 => W (pp G) none (.loop ir20_s0) ⟨(F73 a0 a1 undef undef v1 v21 v32 v34 v3 v4 v5 v6 v8 v9 v10 v16 v11 v12 v13 v14 v18 v19 v20 v22 v24 v26 v28 v30 undef undef undef undef undef undef undef undef undef undef undef undef undef undef undef undef undef undef undef undef undef undef undef undef undef undef undef undef undef undef undef undef undef undef undef undef undef undef undef undef undef undef undef undef undef), [], h35⟩ (@kR ⟨(outR3 0 (thenR3 (fun s1 => vc3 (pp G) none ir20_s1 s1 (@kR ⟨(finR Try.prog [(.tmp 4)] R)⟩)) (finR Try.prog [(.tmp 4)] R)))⟩))⟩))⟩))⟩))⟩))⟩))⟩))⟩))⟩))⟩))⟩))⟩))⟩))⟩))⟩))⟩))⟩))⟩))⟩))⟩))⟩))⟩))⟩))⟩))⟩))⟩)) := by kernel_rfl
theorem sh_ir27 (G : Nat) (h : Heap) (a0 a1 : Value) (R : Value → Heap → Prop) : vc3 (pp G) none ir27 ⟨(F28 a0 a1 undef undef undef undef undef undef undef undef undef undef undef undef undef undef undef undef undef undef undef undef undef undef undef undef undef undef), [], h⟩ (finR Try.prog [(.tmp 4)] R) = (oT (some (.bool false)) none h (@kk ⟨(fun v1 h2 => oP (some a0) h2 (@kk ⟨(fun v3 _ => oP (some a1) h2 (@kk ⟨(fun v4 _ => oP (lnB (lnT Try.prog 23) v4) h2 (@kk ⟨(fun v5 _ => oP (some a0) h2 (@kk ⟨(fun v6 _ => oP (ncV v6) h2 (@kk ⟨(fun v7 _ => oP (faV (fld Try.prog 50 0) v7) h2 (@kk ⟨(fun v8 _ => oP (evLoad Try.prog 3 v8 h2) h2 (@kk ⟨(fun v9 _ => CallV (pp G) (.func (.func 31) #[] #[]) [v3] h2 (@kk ⟨(fun v11 h12 => keptK (keptP [0] h12 [(9, (fun h10 => (evLoad Try.prog 3 v8 h10)), v9)]) (@kb ⟨(oP (binPure Try.prog .add 3 (.tmp 6) (.tmp 8) v11 v5) h12 (@kk ⟨(fun v13 _ => oP (binPure Try.prog .add 3 (.tmp 9) (.const (.int .i64 4)) v13 (.int .i64 4)) h12 (@kk ⟨(fun v14 _ => oP (binPure Try.prog .gtr 3 (.tmp 10) (.tmp 14) v14 v9) h12 (@kk ⟨(fun v15 _ => vcond v15 (@kb ⟨(oT (some (.bool false)) none h12 (@kk ⟨(fun v16 h17 => R v16 h17)⟩))⟩) (@kb ⟨(oP (some a0) h12 (@kk ⟨(fun v18 _ => oP (some a0) h12 (@kk ⟨(fun v19 _ => oP (ncV v19) h12 (@kk ⟨(fun v20 _ => oP (faV (fld Try.prog 50 2) v20) h12 (@kk ⟨(fun v21 _ => oP (evLoad Try.prog 35 v21 h12) h12 (@kk ⟨(fun v22 _ => oP (some a1) h12 (@kk ⟨(fun v24 _ => oE (bsE (slT Try.prog 23) 0 [] h12) (@kk ⟨(fun v25 h26 => keptK (keptP [] h26 [(4, (fun h23 => (evLoad Try.prog 35 v21 h23)), v22)]) (@kb ⟨(oE (evAppend Try.prog 23 23 v25 v24 h26) (@kk ⟨(fun v27 h28 => keptK (keptP [5, 6] h28 [(4, (fun h23 => (evLoad Try.prog 35 v21 h23)), v22)]) (@kb ⟨(oE (bsE (slT Try.prog 35) 1 [(0, v27)] h28) (@kk ⟨(fun v29 h30 => keptK (keptP [7] h30 [(4, (fun h23 => (evLoad Try.prog 35 v21 h23)), v22)]) (@kb ⟨(oE (evAppend Try.prog 35 35 v22 v29 h30) (@kk ⟨(fun v31 h32 => keptK (keptP [4, 8, 7] h32 [(4, (fun h23 => (evLoad Try.prog 35 v21 h23)), v22)]) (@kb ⟨(oP (ncV v18) h32 (@kk ⟨(fun v33 _ => oP (faV (fld Try.prog 50 2) v33) h32 (@kk ⟨(fun v34 _ => oE (stE (szT Try.prog 35) v34 v31 h32) (@kk ⟨(fun v35 h36 => keptK (keptP [11, 9, 9, 0, 1, 2, 3, 4, 5, 6, 7, 8, 9] h36 [(4, (fun h23 => (evLoad Try.prog 35 v21 h23)), v22)]) (@kb ⟨(oT (some (.bool true)) none h36 (@kk ⟨(fun v37 h38 => R v37 h38)⟩))⟩))⟩))⟩))⟩))⟩))⟩))⟩))⟩))⟩))⟩))⟩))⟩))⟩))⟩))⟩))⟩))⟩))⟩))⟩))⟩))⟩))⟩))⟩))⟩))⟩))⟩))⟩))⟩))⟩))⟩))⟩))⟩)) := by kernel_rfl
theorem sh_ir28 (G : Nat) (h : Heap) (a0 : Value) (R : Value → Heap → Prop) : vc3 (pp G) none ir28 ⟨(F7 a0 undef undef undef undef undef undef), [], h⟩ (finR Try.prog [] R) = (oT (some a0) none h (@kk ⟨(fun v1 h2 => oT (some a0) none h2 (@kk ⟨(fun v3 h4 => CallV (pp G) (.func (.func 31) #[] #[]) [v3] h4 (@kk ⟨(fun v5 h6 => oT (ncV v1) none h6 (@kk ⟨(fun v7 h8 => oT (faV (fld Try.prog 50 1) v7) none h8 (@kk ⟨(fun v9 h10 => oE (stE (szT Try.prog 3) v9 v5 h10) (@kk ⟨(fun v11 h12 => R (.tuple #[]) h12)⟩))⟩))⟩))⟩))⟩))⟩)) := by kernel_rfl
theorem sh_ir29 (G : Nat) (h : Heap) (a0 a1 : Value) (R : Value → Heap → Prop) : vc3 (pp G) none ir29 ⟨(F39 a0 a1 undef undef undef undef undef undef undef undef undef undef undef undef undef undef undef undef undef undef undef undef undef undef undef undef undef undef undef undef undef undef undef undef undef undef undef undef undef), [], h⟩ (finR Try.prog [(.tmp 4)] R) = (oT (some (.bool false)) none h (@kk ⟨(fun v1 h2 => oP (some a1) h2 (@kk ⟨(fun v3 _ => oP (some a0) h2 (@kk ⟨(fun v4 _ => oP (ncV v4) h2 (@kk ⟨(fun v5 _ => oP (faV (fld Try.prog 50 0) v5) h2 (@kk ⟨(fun v6 _ => oP (evLoad Try.prog 3 v6 h2) h2 (@kk ⟨(fun v7 _ => CallV (pp G) (.func (.func 35) #[] #[]) [v3] h2 (@kk ⟨(fun v9 h10 => keptK (keptP [0] h10 [(5, (fun h8 => (evLoad Try.prog 3 v6 h8)), v7)]) (@kb ⟨(oP (binPure Try.prog .gtr 3 (.tmp 7) (.tmp 11) v9 v7) h10 (@kk ⟨(fun v11 _ => vcond v11 (@kb ⟨(oT (some (.bool false)) none h10 (@kk ⟨(fun v12 h13 => R v12 h13)⟩))⟩) (@kb ⟨(oT (some a0) none h10 (@kk ⟨(fun v14 h15 => oT (ncV v14) none h15 (@kk ⟨(fun v16 h17 => oT (faV (fld Try.prog 50 2) v16) none h17 (@kk ⟨(fun v18 h19 => oE (stE (szT Try.prog 35) v18 (.slice none 0 0) h19) (@kk ⟨(fun v20 h21 => oT (some (.int .i64 0)) none h21 (@kk ⟨(fun v22 h23 => W (pp G) none (.loop ir29_s0) ⟨(F39 a0 a1 undef undef v1 v22 v3 v9 v4 v5 v6 v7 v11 v14 v16 v18 undef undef undef undef undef undef undef undef undef undef undef undef undef undef undef undef undef undef undef undef undef undef undef), [], h23⟩ (@kR ⟨(outR3 0 (thenR3 (fun s1 => vc3 (pp G) none ir29_s1 s1 (@kR ⟨(finR Try.prog [(.tmp 4)] R)⟩)) (finR Try.prog [(.tmp 4)] R)))⟩))⟩))⟩))⟩))⟩))⟩))⟩))⟩))⟩))⟩))⟩))⟩))⟩))⟩))⟩))⟩)) := by kernel_rfl
theorem sh_ir30 (G : Nat) (h : Heap) (a0 : Value) (R : Value → Heap → Prop) : vc3 (pp G) none ir30 ⟨(F27 a0 undef undef undef undef undef undef undef undef undef undef undef undef undef undef undef undef undef undef undef undef undef undef undef undef undef undef), [], h⟩ (finR Try.prog [(.tmp 2)] R) = (oT (some (.slice none 0 0)) none h (@kk ⟨(fun v1 h2 => oT (some (.slice none 0 0)) none h2 (@kk ⟨(fun v3 h4 => oT (some (.int .i64 0)) none h4 (@kk ⟨(fun v5 h6 => W (pp G) none (.loop ir30_s0) ⟨(F27 a0 undef v1 v3 v5 undef undef undef undef undef undef undef undef undef undef undef undef undef undef undef undef undef undef undef undef undef undef), [], h6⟩ (@kR ⟨(outR3 0 (thenR3 (fun s1 => vc3 (pp G) none ir30_s1 s1 (@kR ⟨(finR Try.prog [(.tmp 2)] R)⟩)) (finR Try.prog [(.tmp 2)] R)))⟩))⟩))⟩))⟩)) := by kernel_rfl
theorem sh_ir31 (G : Nat) (h : Heap) (a0 : Value) (R : Value → Heap → Prop) : vc3 (pp G) none ir31 ⟨(F8 a0 undef undef undef undef undef undef undef), [], h⟩ (finR Try.prog [(.tmp 2)] R) = (oT (some (.int .i64 0)) none h (@kk ⟨(fun v1 h2 => oT (some a0) none h2 (@kk ⟨(fun v3 h4 => oT (ncV v3) none h4 (@kk ⟨(fun v5 h6 => oT (faV (fld Try.prog 50 2) v5) none h6 (@kk ⟨(fun v7 h8 => oT (evLoad Try.prog 35 v7 h8) none h8 (@kk ⟨(fun v9 h10 => CallV (pp G) (.func (.func 35) #[] #[]) [v9] h10 (@kk ⟨(fun v11 h12 => oT (some v11) none h12 (@kk ⟨(fun v13 h14 => R v13 h14)⟩))⟩))⟩))⟩))⟩))⟩))⟩)) := by kernel_rfl
theorem sh_ir32 (G : Nat) (h : Heap) (a0 : Value) (R : Value → Heap → Prop) : vc3 (pp G) none ir32 ⟨(F7 a0 undef undef undef undef undef undef), [], h⟩ (finR Try.prog [(.tmp 2)] R) = (oT (some (.int .i64 0)) none h (@kk ⟨(fun v1 h2 => oT (some a0) none h2 (@kk ⟨(fun v3 h4 => oT (ncV v3) none h4 (@kk ⟨(fun v5 h6 => oT (faV (fld Try.prog 50 1) v5) none h6 (@kk ⟨(fun v7 h8 => oT (evLoad Try.prog 3 v7 h8) none h8 (@kk ⟨(fun v9 h10 => oT (some v9) none h10 (@kk ⟨(fun v11 h12 => R v11 h12)⟩))⟩))⟩))⟩))⟩))⟩)) := by kernel_rfl
theorem sh_ir35 (G : Nat) (h : Heap) (a0 : Value) (R : Value → Heap → Prop) : vc3 (pp G) none ir35 ⟨(F20 a0 undef undef undef undef undef undef undef undef undef undef undef undef undef undef undef undef undef undef undef), [], h⟩ (finR Try.prog [(.tmp 2)] R) = (oT (some (.int .i64 0)) none h (@kk ⟨(fun v1 h2 => oT (some (.int .i64 0)) none h2 (@kk ⟨(fun v3 h4 => oT (some (.int .i64 0)) none h4 (@kk ⟨(fun v5 h6 => W (pp G) none (.loop ir35_s0) ⟨(F20 a0 undef v1 v3 v5 undef undef undef undef undef undef undef undef undef undef undef undef undef undef undef), [], h6⟩ (@kR ⟨(outR3 0 (thenR3 (fun s1 => vc3 (pp G) none ir35_s1 s1 (@kR ⟨(finR Try.prog [(.tmp 2)] R)⟩)) (finR Try.prog [(.tmp 2)] R)))⟩))⟩))⟩))⟩)) := by kernel_rfl
theorem sh_ir20_s0 (G : Nat) (ro : Option Nat) (df : List Nat) (h : Heap) (x0 x1 x2 x3 x4 x5 x6 x7 x8 x9 x10 x11 x12 x13 x14 x15 x16 x17 x18 x19 x20 x21 x22 x23 x24 x25 x26 x27 x28 x29 x30 x31 x32 x33 x34 x35 x36 x37 x38 x39 x40 x41 x42 x43 x44 x45 x46 x47 x48 x49 x50 x51 x52 x53 x54 x55 x56 x57 x58 x59 x60 x61 x62 x63 x64 x65 x66 x67 x68 x69 x70 x71 x72 : Value) (R : XExit → S → Prop) : vc3 (pp G) ro ir20_s0 ⟨(F73 x0 x1 x2 x3 x4 x5 x6 x7 x8 x9 x10 x11 x12 x13 x14 x15 x16 x17 x18 x19 x20 x21 x22 x23 x24 x25 x26 x27 x28 x29 x30 x31 x32 x33 x34 x35 x36 x37 x38 x39 x40 x41 x42 x43 x44 x45 x46 x47 x48 x49 x50 x51 x52 x53 x54 x55 x56 x57 x58 x59 x60 x61 x62 x63 x64 x65 x66 x67 x68 x69 x70 x71 x72), df, h⟩ R = (oT (some x7) none h (@kk ⟨(fun v1 h2 => oT (some x0) none h2 (@kk ⟨(fun v3 h4 => oT (ncV v3) none h4 (@kk ⟨(fun v5 h6 => oT (faV (fld Try.prog 50 2) v5) none h6 (@kk ⟨(fun v7 h8 => oT (evLoad Try.prog 35 v7 h8) none h8 (@kk ⟨(fun v9 h10 => oT (lnB (lnT Try.prog 35) v9) none h10 (@kk ⟨(fun v11 h12 => oT (binPure Try.prog .lss 3 (.tmp 28) (.tmp 33) v1 v11) none h12 (@kk ⟨(fun v13 h14 => oT (some v13) none h14 (@kk ⟨(fun v15 h16 => gT v15 true (some x0) none h16 (@kk ⟨(fun v17 h18 => gT v15 true (ncV v17) none h18 (@kk ⟨(fun v19 h20 => gT v15 true (faV (fld Try.prog 50 2) v19) none h20 (@kk ⟨(fun v21 h22 => gT v15 true (evLoad Try.prog 35 v21 h22) none h22 (@kk ⟨(fun v23 h24 => gT v15 true (some x7) none h24 (@kk ⟨(fun v25 h26 => gT v15 true (iaV (esz Try.prog 35) v23 v25) none h26 (@kk ⟨(fun v27 h28 => gT v15 true (evLoad Try.prog 23 v27 h28) none h28 (@kk ⟨(fun v29 h30 => gT v15 true (lnB (lnT Try.prog 23) v29) none h30 (@kk ⟨(fun v31 h32 => gT v15 true (binPure Try.prog .add 3 (.tmp 43) (.const (.int .i64 4)) v31 (.int .i64 4)) none h32 (@kk ⟨(fun v33 h34 => gT v15 true (some x5) none h34 (@kk ⟨(fun v35 h36 => gT v15 true (binPure Try.prog .leq 3 (.tmp 44) (.tmp 45) v33 v35) none h36 (@kk ⟨(fun v37 h38 => oT (pickV v15 v37 (.bool false)) none h38 (@kk ⟨(fun v39 h40 => vcond v39 (@kb ⟨(oT (some x5) none h40 (@kk ⟨(fun v41 h42 => oT (some x0) none h42 (@kk ⟨(fun v43 h44 => oT (ncV v43) none h44 (@kk ⟨(fun v45 h46 => oT (faV (fld Try.prog 50 2) v45) none h46 (@kk ⟨(fun v47 h48 => oT (evLoad Try.prog 35 v47 h48) none h48 (@kk ⟨(fun v49 h50 => oT (some x7) none h50 (@kk ⟨(fun v51 h52 => oT (iaV (esz Try.prog 35) v49 v51) none h52 (@kk ⟨(fun v53 h54 => oT (evLoad Try.prog 23 v53 h54) none h54 (@kk ⟨(fun v55 h56 => oT (lnB (lnT Try.prog 23) v55) none h56 (@kk ⟨(fun v57 h58 => oT (binPure Try.prog .sub 3 (.tmp 50) (.tmp 58) v41 v57) none h58 (@kk ⟨(fun v59 h60 => oT (binPure Try.prog .sub 3 (.tmp 59) (.const (.int .i64 4)) v59 (.int .i64 4)) none h60 (@kk ⟨(fun v61 h62 => oT (some v61) none h62 (@kk ⟨(fun v63 h64 => oT (some x6) none h64 (@kk ⟨(fun v65 h66 => oT (some x0) none h66 (@kk ⟨(fun v67 h68 => oT (ncV v67) none h68 (@kk ⟨(fun v69 h70 => oT (faV (fld Try.prog 50 2) v69) none h70 (@kk ⟨(fun v71 h72 => oT (evLoad Try.prog 35 v71 h72) none h72 (@kk ⟨(fun v73 h74 => oT (some x7) none h74 (@kk ⟨(fun v75 h76 => oT (iaV (esz Try.prog 35) v73 v75) none h76 (@kk ⟨(fun v77 h78 => oT (evLoad Try.prog 23 v77 h78) none h78 (@kk ⟨(fun v79 h80 => CallV (pp G) (.func (.func 27) #[] #[]) [v65, v79] h80 (@kk ⟨(fun v81 h82 => oT (some x7) none h82 (@kk ⟨(fun v83 h84 => oT (binPure Try.prog .add 3 (.tmp 48) (.const (.int .i64 1)) v83 (.int .i64 1)) none h84 (@kk ⟨(fun v85 h86 => oT (some v85) none h86 (@kk ⟨(fun v87 h88 => R .normal ⟨(F73 x0 x1 x2 x3 x4 v63 x6 v87 x8 x9 x10 x11 x12 x13 x14 x15 x16 x17 x18 x19 x20 x21 x22 x23 x24 x25 x26 x27 v1 v3 v5 v7 v9 v11 v13 v15 v17 v19 v21 v23 v25 v27 v29 v31 v33 v35 v37 v39 v83 v85 v41 v43 v45 v47 v49 v51 v53 v55 v57 v59 v61 v65 v67 v69 v71 v73 v75 v77 v79 v81 x70 x71 x72), df, h88⟩)⟩))⟩))⟩))⟩))⟩))⟩))⟩))⟩))⟩))⟩))⟩))⟩))⟩))⟩))⟩))⟩))⟩))⟩))⟩))⟩))⟩))⟩))⟩))⟩))⟩) (@kb ⟨(R (.exit 0) ⟨(F73 x0 x1 x2 x3 x4 x5 x6 x7 x8 x9 x10 x11 x12 x13 x14 x15 x16 x17 x18 x19 x20 x21 x22 x23 x24 x25 x26 x27 v1 v3 v5 v7 v9 v11 v13 v15 v17 v19 v21 v23 v25 v27 v29 v31 v33 v35 v37 v39 x48 x49 x50 x51 x52 x53 x54 x55 x56 x57 x58 x59 x60 x61 x62 x63 x64 x65 x66 x67 x68 x69 x70 x71 x72), df, h40⟩)⟩))⟩))⟩))⟩))⟩))⟩))⟩))⟩))⟩))⟩))⟩))⟩))⟩))⟩))⟩))⟩))⟩))⟩))⟩))⟩))⟩)) := by kernel_rfl
attribute [push_cast] sh_ir20_s0
theorem sh_ir20_s1 (G : Nat) (ro : Option Nat) (df : List Nat) (h : Heap) (x0 x1 x2 x3 x4 x5 x6 x7 x8 x9 x10 x11 x12 x13 x14 x15 x16 x17 x18 x19 x20 x21 x22 x23 x24 x25 x26 x27 x28 x29 x30 x31 x32 x33 x34 x35 x36 x37 x38 x39 x40 x41 x42 x43 x44 x45 x46 x47 x48 x49 x50 x51 x52 x53 x54 x55 x56 x57 x58 x59 x60 x61 x62 x63 x64 x65 x66 x67 x68 x69 x70 x71 x72 : Value) (R : XExit → S → Prop) : vc3 (pp G) ro ir20_s1 ⟨(F73 x0 x1 x2 x3 x4 x5 x6 x7 x8 x9 x10 x11 x12 x13 x14 x15 x16 x17 x18 x19 x20 x21 x22 x23 x24 x25 x26 x27 x28 x29 x30 x31 x32 x33 x34 x35 x36 x37 x38 x39 x40 x41 x42 x43 x44 x45 x46 x47 x48 x49 x50 x51 x52 x53 x54 x55 x56 x57 x58 x59 x60 x61 x62 x63 x64 x65 x66 x67 x68 x69 x70 x71 x72), df, h⟩ R = (oT (some x6) none h (@kk ⟨(fun v1 h2 => CallV (pp G) (.func (.func 28) #[] #[]) [v1] h2 (@kk ⟨(fun v3 h4 => oT (some x6) none h4 (@kk ⟨(fun v5 h6 => oT (some v5) none h6 (@kk ⟨(fun v7 h8 => R .ret ⟨(F73 x0 x1 x2 x3 v7 x5 x6 x7 x8 x9 x10 x11 x12 x13 x14 x15 x16 x17 x18 x19 x20 x21 x22 x23 x24 x25 x26 x27 x28 x29 x30 x31 x32 x33 x34 x35 x36 x37 x38 x39 x40 x41 x42 x43 x44 x45 x46 x47 x48 x49 x50 x51 x52 x53 x54 x55 x56 x57 x58 x59 x60 x61 x62 x63 x64 x65 x66 x67 x68 x69 v1 v3 v5), df, h8⟩)⟩))⟩))⟩))⟩)) := by kernel_rfl
attribute [push_cast] sh_ir20_s1
theorem sh_ir29_s0 (G : Nat) (ro : Option Nat) (df : List Nat) (h : Heap) (x0 x1 x2 x3 x4 x5 x6 x7 x8 x9 x10 x11 x12 x13 x14 x15 x16 x17 x18 x19 x20 x21 x22 x23 x24 x25 x26 x27 x28 x29 x30 x31 x32 x33 x34 x35 x36 x37 x38 : Value) (R : XExit → S → Prop) : vc3 (pp G) ro ir29_s0 ⟨(F39 x0 x1 x2 x3 x4 x5 x6 x7 x8 x9 x10 x11 x12 x13 x14 x15 x16 x17 x18 x19 x20 x21 x22 x23 x24 x25 x26 x27 x28 x29 x30 x31 x32 x33 x34 x35 x36 x37 x38), df, h⟩ R = (oT (some x5) none h (@kk ⟨(fun v1 h2 => oT (some x1) none h2 (@kk ⟨(fun v3 h4 => oT (lnB (lnT Try.prog 35) v3) none h4 (@kk ⟨(fun v5 h6 => oT (binPure Try.prog .lss 3 (.tmp 16) (.tmp 18) v1 v5) none h6 (@kk ⟨(fun v7 h8 => vcond v7 (@kb ⟨(oP (some x0) h8 (@kk ⟨(fun v9 _ => oP (some x0) h8 (@kk ⟨(fun v10 _ => oP (ncV v10) h8 (@kk ⟨(fun v11 _ => oP (faV (fld Try.prog 50 2) v11) h8 (@kk ⟨(fun v12 _ => oP (evLoad Try.prog 35 v12 h8) h8 (@kk ⟨(fun v13 _ => oP (some x1) h8 (@kk ⟨(fun v15 _ => oP (some x5) h8 (@kk ⟨(fun v16 _ => oP (iaV (esz Try.prog 35) v15 v16) h8 (@kk ⟨(fun v17 _ => oP (evLoad Try.prog 23 v17 h8) h8 (@kk ⟨(fun v18 _ => oE (bsE (slT Try.prog 23) 0 [] h8) (@kk ⟨(fun v20 h21 => keptK (keptP [] h21 [(9, (fun h19 => (evLoad Try.prog 23 v17 h19)), v18), (4, (fun h14 => (evLoad Try.prog 35 v12 h14)), v13)]) (@kb ⟨(oE (evAppend Try.prog 23 23 v20 v18 h21) (@kk ⟨(fun v22 h23 => keptK (keptP [5, 9] h23 [(9, (fun h19 => (evLoad Try.prog 23 v17 h19)), v18), (4, (fun h14 => (evLoad Try.prog 35 v12 h14)), v13)]) (@kb ⟨(oE (bsE (slT Try.prog 35) 1 [(0, v22)] h23) (@kk ⟨(fun v24 h25 => keptK (keptP [10] h25 [(9, (fun h19 => (evLoad Try.prog 23 v17 h19)), v18), (4, (fun h14 => (evLoad Try.prog 35 v12 h14)), v13)]) (@kb ⟨(oE (evAppend Try.prog 35 35 v13 v24 h25) (@kk ⟨(fun v26 h27 => keptK (keptP [4, 11, 10] h27 [(9, (fun h19 => (evLoad Try.prog 23 v17 h19)), v18), (4, (fun h14 => (evLoad Try.prog 35 v12 h14)), v13)]) (@kb ⟨(oP (ncV v9) h27 (@kk ⟨(fun v28 _ => oP (faV (fld Try.prog 50 2) v28) h27 (@kk ⟨(fun v29 _ => oE (stE (szT Try.prog 35) v29 v26 h27) (@kk ⟨(fun v30 h31 => keptK (keptP [14, 12, 12, 0, 1, 2, 3, 4, 5, 6, 7, 8, 9, 10, 11, 12] h31 [(9, (fun h19 => (evLoad Try.prog 23 v17 h19)), v18), (4, (fun h14 => (evLoad Try.prog 35 v12 h14)), v13)]) (@kb ⟨(oT (some x5) none h31 (@kk ⟨(fun v32 h33 => oT (binPure Try.prog .add 3 (.tmp 20) (.const (.int .i64 1)) v32 (.int .i64 1)) none h33 (@kk ⟨(fun v34 h35 => oT (some v34) none h35 (@kk ⟨(fun v36 h37 => R .normal ⟨(F39 x0 x1 x2 x3 x4 v36 x6 x7 x8 x9 x10 x11 x12 x13 x14 x15 v1 v3 v5 v7 v32 v34 v9 v10 v11 v12 v13 v20 v15 v16 v17 v18 v22 v24 v26 v28 v29 x37 x38), df, h37⟩)⟩))⟩))⟩))⟩))⟩))⟩))⟩))⟩))⟩))⟩))⟩))⟩))⟩))⟩))⟩))⟩))⟩))⟩))⟩))⟩))⟩))⟩))⟩))⟩))⟩) (@kb ⟨(R (.exit 0) ⟨(F39 x0 x1 x2 x3 x4 x5 x6 x7 x8 x9 x10 x11 x12 x13 x14 x15 v1 v3 v5 v7 x20 x21 x22 x23 x24 x25 x26 x27 x28 x29 x30 x31 x32 x33 x34 x35 x36 x37 x38), df, h8⟩)⟩))⟩))⟩))⟩))⟩)) := by kernel_rfl
attribute [push_cast] sh_ir29_s0
theorem sh_ir29_s1 (G : Nat) (ro : Option Nat) (df : List Nat) (h : Heap) (x0 x1 x2 x3 x4 x5 x6 x7 x8 x9 x10 x11 x12 x13 x14 x15 x16 x17 x18 x19 x20 x21 x22 x23 x24 x25 x26 x27 x28 x29 x30 x31 x32 x33 x34 x35 x36 x37 x38 : Value) (R : XExit → S → Prop) : vc3 (pp G) ro ir29_s1 ⟨(F39 x0 x1 x2 x3 x4 x5 x6 x7 x8 x9 x10 x11 x12 x13 x14 x15 x16 x17 x18 x19 x20 x21 x22 x23 x24 x25 x26 x27 x28 x29 x30 x31 x32 x33 x34 x35 x36 x37 x38), df, h⟩ R = (oT (some x0) none h (@kk ⟨(fun v1 h2 => CallV (pp G) (.func (.func 28) #[] #[]) [v1] h2 (@kk ⟨(fun v3 h4 => oT (some (.bool true)) none h4 (@kk ⟨(fun v5 h6 => R .ret ⟨(F39 x0 x1 x2 x3 v5 x5 x6 x7 x8 x9 x10 x11 x12 x13 x14 x15 x16 x17 x18 x19 x20 x21 x22 x23 x24 x25 x26 x27 x28 x29 x30 x31 x32 x33 x34 x35 x36 v1 v3), df, h6⟩)⟩))⟩))⟩)) := by kernel_rfl
attribute [push_cast] sh_ir29_s1
theorem sh_ir30_s0 (G : Nat) (ro : Option Nat) (df : List Nat) (h : Heap) (x0 x1 x2 x3 x4 x5 x6 x7 x8 x9 x10 x11 x12 x13 x14 x15 x16 x17 x18 x19 x20 x21 x22 x23 x24 x25 x26 : Value) (R : XExit → S → Prop) : vc3 (pp G) ro ir30_s0 ⟨(F27 x0 x1 x2 x3 x4 x5 x6 x7 x8 x9 x10 x11 x12 x13 x14 x15 x16 x17 x18 x19 x20 x21 x22 x23 x24 x25 x26), df, h⟩ R = (oT (some x4) none h (@kk ⟨(fun v1 h2 => oT (some x0) none h2 (@kk ⟨(fun v3 h4 => oT (ncV v3) none h4 (@kk ⟨(fun v5 h6 => oT (faV (fld Try.prog 50 2) v5) none h6 (@kk ⟨(fun v7 h8 => oT (evLoad Try.prog 35 v7 h8) none h8 (@kk ⟨(fun v9 h10 => oT (lnB (lnT Try.prog 35) v9) none h10 (@kk ⟨(fun v11 h12 => oT (binPure Try.prog .lss 3 (.tmp 5) (.tmp 10) v1 v11) none h12 (@kk ⟨(fun v13 h14 => vcond v13 (@kb ⟨(oT (some x3) none h14 (@kk ⟨(fun v15 h16 => oE (bsE (slT Try.prog 23) 0 [] h16) (@kk ⟨(fun v17 h18 => oT (some x0) none h18 (@kk ⟨(fun v19 h20 => oT (ncV v19) none h20 (@kk ⟨(fun v21 h22 => oT (faV (fld Try.prog 50 2) v21) none h22 (@kk ⟨(fun v23 h24 => oT (evLoad Try.prog 35 v23 h24) none h24 (@kk ⟨(fun v25 h26 => oT (some x4) none h26 (@kk ⟨(fun v27 h28 => oT (iaV (esz Try.prog 35) v25 v27) none h28 (@kk ⟨(fun v29 h30 => oT (evLoad Try.prog 23 v29 h30) none h30 (@kk ⟨(fun v31 h32 => oE (evAppend Try.prog 23 23 v17 v31 h32) (@kk ⟨(fun v33 h34 => oE (bsE (slT Try.prog 35) 1 [(0, v33)] h34) (@kk ⟨(fun v35 h36 => oE (evAppend Try.prog 35 35 v15 v35 h36) (@kk ⟨(fun v37 h38 => oT (some v37) none h38 (@kk ⟨(fun v39 h40 => oT (some x4) none h40 (@kk ⟨(fun v41 h42 => oT (binPure Try.prog .add 3 (.tmp 12) (.const (.int .i64 1)) v41 (.int .i64 1)) none h42 (@kk ⟨(fun v43 h44 => oT (some v43) none h44 (@kk ⟨(fun v45 h46 => R .normal ⟨(F27 x0 x1 x2 v39 v45 v1 v3 v5 v7 v9 v11 v13 v41 v43 v15 v17 v19 v21 v23 v25 v27 v29 v31 v33 v35 v37 x26), df, h46⟩)⟩))⟩))⟩))⟩))⟩))⟩))⟩))⟩))⟩))⟩))⟩))⟩))⟩))⟩))⟩))⟩))⟩) (@kb ⟨(R (.exit 0) ⟨(F27 x0 x1 x2 x3 x4 v1 v3 v5 v7 v9 v11 v13 x12 x13 x14 x15 x16 x17 x18 x19 x20 x21 x22 x23 x24 x25 x26), df, h14⟩)⟩))⟩))⟩))⟩))⟩))⟩))⟩))⟩)) := by kernel_rfl
attribute [push_cast] sh_ir30_s0
theorem sh_ir30_s1 (G : Nat) (ro : Option Nat) (df : List Nat) (h : Heap) (x0 x1 x2 x3 x4 x5 x6 x7 x8 x9 x10 x11 x12 x13 x14 x15 x16 x17 x18 x19 x20 x21 x22 x23 x24 x25 x26 : Value) (R : XExit → S → Prop) : vc3 (pp G) ro ir30_s1 ⟨(F27 x0 x1 x2 x3 x4 x5 x6 x7 x8 x9 x10 x11 x12 x13 x14 x15 x16 x17 x18 x19 x20 x21 x22 x23 x24 x25 x26), df, h⟩ R = (oT (some x3) none h (@kk ⟨(fun v1 h2 => oT (some v1) none h2 (@kk ⟨(fun v3 h4 => R .ret ⟨(F27 x0 x1 v3 x3 x4 x5 x6 x7 x8 x9 x10 x11 x12 x13 x14 x15 x16 x17 x18 x19 x20 x21 x22 x23 x24 x25 v1), df, h4⟩)⟩))⟩)) := by kernel_rfl
attribute [push_cast] sh_ir30_s1
theorem sh_ir35_s0 (G : Nat) (ro : Option Nat) (df : List Nat) (h : Heap) (x0 x1 x2 x3 x4 x5 x6 x7 x8 x9 x10 x11 x12 x13 x14 x15 x16 x17 x18 x19 : Value) (R : XExit → S → Prop) : vc3 (pp G) ro ir35_s0 ⟨(F20 x0 x1 x2 x3 x4 x5 x6 x7 x8 x9 x10 x11 x12 x13 x14 x15 x16 x17 x18 x19), df, h⟩ R = (oT (some x4) none h (@kk ⟨(fun v1 h2 => oT (some x0) none h2 (@kk ⟨(fun v3 h4 => oT (lnB (lnT Try.prog 35) v3) none h4 (@kk ⟨(fun v5 h6 => oT (binPure Try.prog .lss 3 (.tmp 5) (.tmp 7) v1 v5) none h6 (@kk ⟨(fun v7 h8 => vcond v7 (@kb ⟨(oT (some x3) none h8 (@kk ⟨(fun v9 h10 => oT (some x0) none h10 (@kk ⟨(fun v11 h12 => oT (some x4) none h12 (@kk ⟨(fun v13 h14 => oT (iaV (esz Try.prog 35) v11 v13) none h14 (@kk ⟨(fun v15 h16 => oT (evLoad Try.prog 23 v15 h16) none h16 (@kk ⟨(fun v17 h18 => oT (lnB (lnT Try.prog 23) v17) none h18 (@kk ⟨(fun v19 h20 => oT (binPure Try.prog .add 3 (.tmp 11) (.tmp 16) v9 v19) none h20 (@kk ⟨(fun v21 h22 => oT (binPure Try.prog .add 3 (.tmp 17) (.const (.int .i64 4)) v21 (.int .i64 4)) none h22 (@kk ⟨(fun v23 h24 => oT (some v23) none h24 (@kk ⟨(fun v25 h26 => oT (some x4) none h26 (@kk ⟨(fun v27 h28 => oT (binPure Try.prog .add 3 (.tmp 9) (.const (.int .i64 1)) v27 (.int .i64 1)) none h28 (@kk ⟨(fun v29 h30 => oT (some v29) none h30 (@kk ⟨(fun v31 h32 => R .normal ⟨(F20 x0 x1 x2 v25 v31 v1 v3 v5 v7 v27 v29 v9 v11 v13 v15 v17 v19 v21 v23 x19), df, h32⟩)⟩))⟩))⟩))⟩))⟩))⟩))⟩))⟩))⟩))⟩))⟩))⟩))⟩) (@kb ⟨(R (.exit 0) ⟨(F20 x0 x1 x2 x3 x4 v1 v3 v5 v7 x9 x10 x11 x12 x13 x14 x15 x16 x17 x18 x19), df, h8⟩)⟩))⟩))⟩))⟩))⟩)) := by kernel_rfl
attribute [push_cast] sh_ir35_s0
theorem sh_ir35_s1 (G : Nat) (ro : Option Nat) (df : List Nat) (h : Heap) (x0 x1 x2 x3 x4 x5 x6 x7 x8 x9 x10 x11 x12 x13 x14 x15 x16 x17 x18 x19 : Value) (R : XExit → S → Prop) : vc3 (pp G) ro ir35_s1 ⟨(F20 x0 x1 x2 x3 x4 x5 x6 x7 x8 x9 x10 x11 x12 x13 x14 x15 x16 x17 x18 x19), df, h⟩ R = (oT (some x3) none h (@kk ⟨(fun v1 h2 => oT (some v1) none h2 (@kk ⟨(fun v3 h4 => R .ret ⟨(F20 x0 x1 v3 x3 x4 x5 x6 x7 x8 x9 x10 x11 x12 x13 x14 x15 x16 x17 x18 v1), df, h4⟩)⟩))⟩)) := by kernel_rfl
attribute [push_cast] sh_ir35_s1
end
end Go.Proofs.Ytohdgkmgkcoilaa

namespace Go.Proofs.Ytohdgkmgkcoilaa
open Go Go.RowKit Go.Ev
noncomputable section
set_option linter.unusedSimpArgs false
set_option linter.unusedVariables false
variable (G : Nat) (h : Heap)

/-- rows of bytes, as they lie: the row of the rows at a, all blocks in F -/
structure RowsF (h : Heap) (a : Option Addr) (c : Nat) (F : Nat → Prop) (recs : List (List Int)) : Prop where
  cells : ∃ cs : List Value, Own h 23 1 a recs.length c cs ∧ ∀ (i : Nat) (r : List Int), recs[i]? = some r → ∃ (ai : Option Addr) (ci : Nat), cs[i]? = some (Value.slice ai r.length ci) ∧ Sl h ai (bv r) ∧ ∀ b, blk ai b → F b ∧ b < h.next ∧ ¬ blk a b
  row : ∀ b, blk a b → F b
theorem RowsF.grew {h h' : Heap} {a : Option Addr} {c : Nat} {F : Nat → Prop} {recs : List (List Int)} {S : Nat → Prop} (r : RowsF h a c F recs) (g : Grew h h' S) (hS : ∀ b, F b → ¬ S b) : RowsF h' a c F recs := by
  obtain ⟨⟨cs, h1, h3⟩, h4⟩ := r
  refine ⟨⟨cs, h1.grew g fun b hb _ => hS b (h4 b hb), fun i r hr => ?_⟩, h4⟩
  obtain ⟨ai, ci, h5, h6, h7⟩ := h3 i r hr
  exact ⟨ai, ci, h5, Sl.grew h6 g fun b hb _ => ⟨(h7 b hb).2.1, hS b (h7 b hb).1⟩, fun b hb => ⟨(h7 b hb).1, Nat.lt_of_lt_of_le (h7 b hb).2.1 g.next, (h7 b hb).2.2⟩⟩
theorem RowsF.mono {h : Heap} {a : Option Addr} {c : Nat} {F F' : Nat → Prop} {recs : List (List Int)} (r : RowsF h a c F recs) (hF : ∀ b, F b → F' b) : RowsF h a c F' recs := by
  obtain ⟨⟨cs, h1, h3⟩, h4⟩ := r
  refine ⟨⟨cs, h1, fun i r hr => ?_⟩, fun b hb => hF b (h4 b hb)⟩
  obtain ⟨ai, ci, h5, h6, h7⟩ := h3 i r hr
  exact ⟨ai, ci, h5, h6, fun b hb => ⟨hF b (h7 b hb).1, (h7 b hb).2⟩⟩
/-- the document's log, in memory -/
structure RefP (h : Heap) (p lim ok : Nat) (F : Nat → Prop) (recs : List (List Int)) : Prop where
  cell : ∃ a c, cells h p = some ([.int .i64 lim, .int .i64 ok, .slice a recs.length c], 50, false) ∧ RowsF h a c (fun b => F b ∧ b ≠ p) recs
  self : F p
  low : ∀ b, F b → b < h.next
  lo : h.lo ≤ p
  fits : (enc recs).length ≤ lim
theorem RefP.grew {h h' : Heap} {p lim ok : Nat} {F : Nat → Prop} {recs : List (List Int)} {S : Nat → Prop} (l : RefP h p lim ok F recs) (g : Grew h h' S) (hS : ∀ b, F b → ¬ S b) : RefP h' p lim ok F recs := by
  obtain ⟨⟨a, c, h1, h2⟩, h3, h4, h5, h6⟩ := l
  exact ⟨⟨a, c, g.cellsE h1 (h4 p h3) (hS p h3), h2.grew g fun b hb => hS b hb.1⟩, h3, fun b hb => Nat.lt_of_lt_of_le (h4 b hb) g.next, by rw [g.lo]; exact h5, h6⟩

theorem refnew_w (lim : Nat) : CallE (pp G) 16 [.int .i64 lim] h (fun v h' => v = .pointer (some ⟨h.next, 0, none⟩) ∧ RefP h' h.next lim 0 (fun b => b = h.next) [] ∧ Gr h h' ∧ h'.next = h.next + 1) := by
  refine CallE.fir4 (good G) fir16 rfl rfl (F6_arr ..) fun hlo => ?_
  rw [sh_ir16]
  simp (disch := first | omega | (refine id ?_; simp only [push_cast]; done) | (refine id ?_; simp only [push_cast]; omega)) only [push_cast, Nat.reduceAdd, Nat.reduceMul, Nat.reduceSub, Nat.reduceLT, Nat.reduceEqDiff, Nat.reduceLeDiff, Int.reduceToNat, reduceCtorEq, Int.reduceLT, Int.reduceLE, Int.reduceAdd, Int.reduceSub, Int.reduceMul, Int.reduceNeg, Int.reduceEq]
  exact ⟨⟨⟨none, 0, cells_add_s _ _ _ _ rfl, ⟨⟨[], Own.nil _ _ _, fun i r hr => by cases hr⟩, fun b hb => by obtain ⟨o, s, e⟩ := hb; cases e⟩⟩, rfl, fun b hb => by rw [next_add]; omega, by rw [lo_add]; exact hlo, Nat.zero_le _⟩, (Gr.refl h).add' _⟩

theorem enc_ge : ∀ recs : List (List Int), recs.length ≤ (enc recs).length
  | [] => Nat.zero_le _
  | x :: xs => by
    have ih := enc_ge xs
    have e : enc (x :: xs) = beL x.length 4 ++ (x ++ enc xs) := by simp [enc, encR]
    rw [e, List.length_append, List.length_append, beL_len, List.length_cons]
    omega
theorem enc_take_le (recs : List (List Int)) (i : Nat) : (enc (recs.take i)).length ≤ (enc recs).length := by
  have : enc recs = enc (recs.take i) ++ enc (recs.drop i) := by
    unfold enc
    rw [← List.flatten_append, ← List.map_append, List.take_append_drop]
  rw [this, List.length_append]
  omega
theorem enc_take_succ {recs : List (List Int)} {i : Nat} {r : List Int} (hr : recs[i]? = some r) : (enc (recs.take (i + 1))).length = (enc (recs.take i)).length + r.length + 4 := by
  have hti : recs.take (i + 1) = recs.take i ++ [r] := by rw [List.take_add_one, hr]; rfl
  have het : enc (recs.take (i + 1)) = enc (recs.take i) ++ beL r.length 4 ++ r := by
    rw [hti]
    unfold enc
    rw [List.map_append, List.flatten_append]
    simp [encR]
  rw [het, List.length_append, List.length_append, beL_len]
  omega
inductive I35 (h : Heap) (recs : List (List Int)) (a : Option Addr) (c : Nat) : Nat → S → Prop
  | mk (i : Nat) (nv iv : Int) {x1 x2 x5 x6 x7 x8 x9 x10 x11 x12 x13 x14 x15 x16 x17 x18 x19 : Value} (hiv : iv = (i : Int)) (hnv : nv = ((enc (recs.take i)).length : Int)) (hi : i ≤ recs.length) :
    I35 h recs a c (recs.length - i) ⟨(F20 (.slice a recs.length c) x1 x2 (.int .i64 nv) (.int .i64 iv) x5 x6 x7 x8 x9 x10 x11 x12 x13 x14 x15 x16 x17 x18 x19), [], h⟩
theorem size_w (a : Option Addr) (c : Nat) (recs : List (List Int)) (cs : List Value) (hs : Sl h a cs) (hcs : ∀ (i : Nat) (r : List Int), recs[i]? = some r → ∃ (ai : Option Addr) (ci : Nat), cs[i]? = some (Value.slice ai r.length ci)) (hbig : (enc recs).length < 1000000000000) (hbg : recs.length < 1000000000000) :
    CallE (pp G) 35 [.slice a recs.length c] h (fun v h' => v = .int .i64 (enc recs).length ∧ h' = h) := by
  refine CallE.fir4 (good G) fir35 rfl rfl (F20_arr ..) fun hlo => ?_
  rw [sh_ir35]
  simp (disch := first | omega | (refine id ?_; simp only [push_cast]; done) | (refine id ?_; simp only [push_cast]; omega)) only [push_cast, Nat.reduceAdd, Nat.reduceMul, Nat.reduceSub, Nat.reduceLT, Nat.reduceEqDiff, Nat.reduceLeDiff, Int.reduceToNat, reduceCtorEq, Int.reduceLT, Int.reduceLE, Int.reduceAdd, Int.reduceSub, Int.reduceMul, Int.reduceNeg, Int.reduceEq]
  refine W.loop4 (good G) (I35 h recs a c) ?_ _ _ (I35.mk 0 0 0 rfl rfl (Nat.zero_le _))
  intro _ s1 hI
  cases hI with | mk i nv iv hiv hnv hi =>
  subst hiv
  rw [sh_ir35_s0]
  by_cases hil : (i : Int) < recs.length
  · obtain ⟨r, hr⟩ : ∃ r, recs[i]? = some r := ⟨_, List.getElem?_eq_getElem (by omega)⟩
    obtain ⟨ai, ci, hci⟩ := hcs i r hr
    obtain ⟨b, off, rfl, hld⟩ := hs.load T_knd_23 hci
    rw [load_eq, T_knd_23] at hld
    have hes := enc_take_succ hr
    have hle := enc_take_le recs (i + 1)
    subst hnv
    have hw1 : IntKind.i64.wrap (((enc (recs.take i)).length : Int) + r.length) = (enc (recs.take i)).length + r.length := wrap_i64 (by omega) (by omega)
    have hw2 : IntKind.i64.wrap (((enc (recs.take i)).length : Int) + r.length + 4) = (enc (recs.take (i + 1))).length := by rw [wrap_i64 (by omega) (by omega)]; omega
    simp (disch := first | omega | (refine id ?_; simp only [push_cast]; done) | (refine id ?_; simp only [push_cast]; omega)) only [push_cast, Nat.reduceAdd, Nat.reduceMul, Nat.reduceSub, Nat.reduceLT, Nat.reduceEqDiff, Nat.reduceLeDiff, Int.reduceToNat, reduceCtorEq, Int.reduceLT, Int.reduceLE, Int.reduceAdd, Int.reduceSub, Int.reduceMul, Int.reduceNeg, Int.reduceEq, hil, Int.toNat_natCast, hld, hw1, hw2]
    exact ⟨_, by omega, I35.mk (i + 1) _ _ (by first | rfl | omega) (by first | rfl | omega) (by omega)⟩
  · have hie : i = recs.length := by omega
    subst hie
    rw [List.take_length] at hnv
    subst hnv
    simp (disch := first | omega | (refine id ?_; simp only [push_cast]; done) | (refine id ?_; simp only [push_cast]; omega)) only [push_cast, Nat.reduceAdd, Nat.reduceMul, Nat.reduceSub, Nat.reduceLT, Nat.reduceEqDiff, Nat.reduceLeDiff, Int.reduceToNat, reduceCtorEq, Int.reduceLT, Int.reduceLE, Int.reduceAdd, Int.reduceSub, Int.reduceMul, Int.reduceNeg, Int.reduceEq, hil]
theorem reflen_w {p lim ok : Nat} {F : Nat → Prop} {recs : List (List Int)} (l : RefP h p lim ok F recs) (hlim : lim ≤ 1000000000) : CallE (pp G) 31 [.pointer (some ⟨p, 0, none⟩)] h (fun v h' => v = .int .i64 (enc recs).length ∧ h' = h) := by
  refine CallE.fir4 (good G) fir31 rfl rfl (F8_arr ..) fun hlo => ?_
  rw [sh_ir31]
  obtain ⟨⟨a, c, hc, ⟨⟨cs, hown, hrow⟩, _⟩⟩, _, _, hl, hfi⟩ := l
  simp (disch := first | omega | (refine id ?_; simp only [push_cast]; done) | (refine id ?_; simp only [push_cast]; omega)) only [push_cast, Nat.reduceAdd, Nat.reduceMul, Nat.reduceSub, Nat.reduceLT, Nat.reduceEqDiff, Nat.reduceLeDiff, Int.reduceToNat, reduceCtorEq, Int.reduceLT, Int.reduceLE, Int.reduceAdd, Int.reduceSub, Int.reduceMul, Int.reduceNeg, Int.reduceEq, hc, hl]
  have hlen := hown.hlen
  refine CallE.to (size_w G _ a c recs cs hown.sl (fun i r hr => by obtain ⟨ai, ci, q, _⟩ := hrow i r hr; exact ⟨ai, ci, q⟩) (by omega) (by have := enc_ge recs; omega)) ?_
  rintro _ _ ⟨rfl, e⟩
  rw [e]
  clear e
  simp (disch := first | omega | (refine id ?_; simp only [push_cast]; done) | (refine id ?_; simp only [push_cast]; omega)) only [push_cast, Nat.reduceAdd, Nat.reduceMul, Nat.reduceSub, Nat.reduceLT, Nat.reduceEqDiff, Nat.reduceLeDiff, Int.reduceToNat, reduceCtorEq, Int.reduceLT, Int.reduceLE, Int.reduceAdd, Int.reduceSub, Int.reduceMul, Int.reduceNeg, Int.reduceEq]
theorem refsure_w {p lim ok : Nat} {F : Nat → Prop} {recs : List (List Int)} (l : RefP h p lim ok F recs) : CallE (pp G) 32 [.pointer (some ⟨p, 0, none⟩)] h (fun v h' => v = .int .i64 ok ∧ h' = h) := by
  refine CallE.fir4 (good G) fir32 rfl rfl (F7_arr ..) fun hlo => ?_
  rw [sh_ir32]
  obtain ⟨⟨a, c, hc, _⟩, _, _, hl, _⟩ := l
  simp (disch := first | omega | (refine id ?_; simp only [push_cast]; done) | (refine id ?_; simp only [push_cast]; omega)) only [push_cast, Nat.reduceAdd, Nat.reduceMul, Nat.reduceSub, Nat.reduceLT, Nat.reduceEqDiff, Nat.reduceLeDiff, Int.reduceToNat, reduceCtorEq, Int.reduceLT, Int.reduceLE, Int.reduceAdd, Int.reduceSub, Int.reduceMul, Int.reduceNeg, Int.reduceEq, hc, hl]
theorem refsync_w {p lim ok : Nat} {F : Nat → Prop} {recs : List (List Int)} (l : RefP h p lim ok F recs) (hlim : lim ≤ 1000000000) : CallE (pp G) 28 [.pointer (some ⟨p, 0, none⟩)] h (fun v h' => v = .tuple #[] ∧ RefP h' p lim (enc recs).length F recs ∧ Grew h h' (fun b => b = p) ∧ h'.next = h.next) := by
  refine CallE.fir4 (good G) fir28 rfl rfl (F7_arr ..) fun hlo => ?_
  rw [sh_ir28]
  simp (disch := first | omega | (refine id ?_; simp only [push_cast]; done) | (refine id ?_; simp only [push_cast]; omega)) only [push_cast, Nat.reduceAdd, Nat.reduceMul, Nat.reduceSub, Nat.reduceLT, Nat.reduceEqDiff, Nat.reduceLeDiff, Int.reduceToNat, reduceCtorEq, Int.reduceLT, Int.reduceLE, Int.reduceAdd, Int.reduceSub, Int.reduceMul, Int.reduceNeg, Int.reduceEq]
  refine CallE.to (reflen_w G _ l hlim) ?_
  rintro _ _ ⟨rfl, e⟩
  rw [e]
  clear e
  obtain ⟨⟨a, c, hc, hrow⟩, hF, hlow, hl, hfi⟩ := l
  simp (disch := first | omega | (refine id ?_; simp only [push_cast]; done) | (refine id ?_; simp only [push_cast]; omega)) only [push_cast, Nat.reduceAdd, Nat.reduceMul, Nat.reduceSub, Nat.reduceLT, Nat.reduceEqDiff, Nat.reduceLeDiff, Int.reduceToNat, reduceCtorEq, Int.reduceLT, Int.reduceLE, Int.reduceAdd, Int.reduceSub, Int.reduceMul, Int.reduceNeg, Int.reduceEq, hc, hl]
  have hgp : Grew h (h.put p (O [Value.int IntKind.i64 ↑lim, Value.int IntKind.i64 ↑(enc recs).length, Value.slice a recs.length c] 50 false)) (fun b => b = p) := (Grew.refl h _).put'' _ _ fun _ => rfl
  exact ⟨⟨⟨a, c, cells_put_s _ _ _ _, hrow.grew hgp fun b hb e => hb.2 e⟩, hF, fun b hb => by simp only [push_cast]; exact hlow b hb, by simp only [push_cast]; exact hl, hfi⟩, hgp⟩

structure RefAppPost (h : Heap) (p lim ok : Nat) (F : Nat → Prop) (recs : List (List Int)) (bs : List Int) (v : Value) (h' : Heap) : Prop where
  yes : (enc recs).length + bs.length + 4 ≤ lim → v = .bool true ∧ ∃ F', RefP h' p lim ok F' (recs ++ [bs]) ∧ Grew h h' F ∧ ∀ b, F' b → F b ∨ h.next ≤ b
  no : ¬ (enc recs).length + bs.length + 4 ≤ lim → v = .bool false ∧ h' = h
/-- one more record: what is done in memory, step by step -/
structure Push (h : Heap) (p lim ok : Nat) (F : Nat → Prop) (recs : List (List Int)) (bs : List Int) (ab : Option Addr) (cb : Nat) (a : Option Addr) (c : Nat) (a2 : Option Addr) (c2 : Nat) (h2 : Heap) (a4 : Option Addr) (c4 : Nat) (h4 : Heap) : Prop where
  hc : cells h p = some ([.int .i64 lim, .int .i64 ok, .slice a recs.length c], 50, false)
  hbs1 : bsC 0 5 h (some (List.replicate 0 [Value.int IntKind.u8 0]).flatten) = some (.slice (some ⟨h.next, 0, none⟩) 0 0, h.add (O [] 5 false))
  hc1 : cells (h.add (O [] 5 false)) p = some ([.int .i64 lim, .int .i64 ok, .slice a recs.length c], 50, false)
  ha2 : evAppend Try.prog 23 23 (.slice (some ⟨h.next, 0, none⟩) 0 0) (.slice ab bs.length cb) (h.add (O [] 5 false)) = some (.slice a2 bs.length c2, h2)
  hc2 : cells h2 p = some ([.int .i64 lim, .int .i64 ok, .slice a recs.length c], 50, false)
  hbs3 : bsC 1 23 h2 (fillQ (List.map (fun i => (i, 1)) (List.range 1)) (List.replicate 1 [Value.slice none 0 0]).flatten (Value.slice a2 bs.length c2) [] (some (0, 1))) = some (.slice (some ⟨h2.next, 0, none⟩) 1 1, h2.add (O [.slice a2 bs.length c2] 23 false))
  hc3 : cells (h2.add (O [.slice a2 bs.length c2] 23 false)) p = some ([.int .i64 lim, .int .i64 ok, .slice a recs.length c], 50, false)
  ha4 : evAppend Try.prog 35 35 (.slice a recs.length c) (.slice (some ⟨h2.next, 0, none⟩) 1 1) (h2.add (O [.slice a2 bs.length c2] 23 false)) = some (.slice a4 (recs.length + 1) c4, h4)
  hc4 : cells h4 p = some ([.int .i64 lim, .int .i64 ok, .slice a recs.length c], 50, false)
  hst : stC 1 2 (.slice a4 (recs.length + 1) c4) h4 p (some ([.int .i64 lim, .int .i64 ok, .slice a recs.length c], 50, false)) = some (undef, h4.put p (O [Value.int IntKind.i64 ↑lim, Value.int IntKind.i64 ↑ok, Value.slice a4 (recs.length + 1) c4] 50 false))
  ref : RefP (h4.put p (O [Value.int IntKind.i64 ↑lim, Value.int IntKind.i64 ↑ok, Value.slice a4 (recs.length + 1) c4] 50 false)) p lim ok (fun b => F b ∨ (h.next ≤ b ∧ b < h4.next)) (recs ++ [bs])
  g1 : Grew h (h.add (O [] 5 false)) (fun _ => False)
  g2 : Grew h h2 (fun b => h.next ≤ b)
  g3 : Grew h (h2.add (O [.slice a2 bs.length c2] 23 false)) (fun b => h.next ≤ b)
  g4 : Grew h h4 F
  grew : Grew h (h4.put p (O [Value.int IntKind.i64 ↑lim, Value.int IntKind.i64 ↑ok, Value.slice a4 (recs.length + 1) c4] 50 false)) F
theorem push {h : Heap} {p lim ok : Nat} {F : Nat → Prop} {recs : List (List Int)} (hlo : h.lo ≤ h.next) (l : RefP h p lim ok F recs) (hlim : lim ≤ 1000000000) (bs : List Int) (ab : Option Addr) (cb : Nat) (hb : Sl h ab (bv bs)) (hbl : bs.length ≤ 1000000000) (hbb : ∀ b, blk ab b → b < h.next) (hfit0 : (enc recs).length + bs.length + 4 ≤ lim) :
    ∃ a c a2 c2 h2 a4 c4 h4, Push h p lim ok F recs bs ab cb a c a2 c2 h2 a4 c4 h4 := by
  obtain ⟨⟨a, c, hc, hrow⟩, hF, hlow, hl, hfi⟩ := l
  have hfit : ¬ (lim : Int) < (enc recs).length + bs.length + 4 := by omega
  have hbs1 : bsC 0 5 h (some (List.replicate 0 [Value.int IntKind.u8 0]).flatten) = some (.slice (some ⟨h.next, 0, none⟩) 0 0, h.add (O [] 5 false)) := bsC_s _ _ _ rfl
  have hg1 : Grew h (h.add (O [] 5 false)) (fun _ => False) := Grew.add h _ _
  have hc1 := hg1.cellsE hc (hlow p hF) fun h => h
  have hown1 : Own (h.add (O [] 5 false)) 5 1 (some ⟨h.next, 0, none⟩) 0 0 [] := ⟨rfl, rfl, .inr ⟨h.next, false, rfl, by rw [lo_add]; exact hlo, by rw [next_add]; omega, cells_add_s _ _ _ _ rfl, .inr ⟨rfl, rfl⟩⟩⟩
  have hb1 : Sl (h.add (O [] 5 false)) ab (bv bs) := Sl.grew hb hg1 fun b h1 _ => ⟨hbb b h1, fun h => h⟩
  obtain ⟨a2, c2, h2, ha2, hown2, hg2, hb2⟩ := own_append (P := Try.prog) T_appT_23_23 hown1 (by rw [lo_add, next_add]; omega) (x := .slice ab bs.length cb) (m := bs.length) (xs := bv bs) rfl
    (Sl.src hb1 (by rw [bv_len]; omega) (by decide)) (by rw [bv_len]; omega) (bv_fone _ _) (by omega)
  rw [Nat.zero_add] at ha2 hown2
  rw [List.nil_append] at hown2
  have hn2 := hg2.next
  rw [next_add] at hn2
  have hb2' : ∀ b, blk a2 b → h.next ≤ b ∧ b < h2.next := fun b hb => ⟨by
    rcases hb2 b hb with ⟨o, s, e⟩ | hx
    · cases e; omega
    · rw [next_add] at hx; omega, Own_lt hown2 b hb⟩
  have hgA : Grew h h2 (fun b => h.next ≤ b) := (Grew.mono hg1 (T := fun b => h.next ≤ b) fun _ _ h => h.elim).tr' hg2 fun b _ hb => by obtain ⟨o, s, e⟩ := hb; cases e; omega
  have hc2 := hgA.cellsE hc (hlow p hF) (by have := hlow p hF; omega)
  have hrow2 := hrow.grew hgA fun b hb => by have := hlow b hb.1; omega
  have hf2 : foneL h2.next [Value.slice a2 bs.length c2] = true := fone_sl (Sl_spot hown2.sl) fun b hb => (hb2' b hb).2
  have hbs3 : bsC 1 23 h2 (fillQ (List.map (fun i => (i, 1)) (List.range 1)) (List.replicate 1 [Value.slice none 0 0]).flatten (Value.slice a2 bs.length c2) [] (some (0, 1))) = some (.slice (some ⟨h2.next, 0, none⟩) 1 1, h2.add (O [.slice a2 bs.length c2] 23 false)) := bsC_s _ _ _ hf2
  have hg3 : Grew h2 (h2.add (O [.slice a2 bs.length c2] 23 false)) (fun _ => False) := Grew.add h2 _ _
  have hlo2 : h2.lo = h.lo := hgA.lo
  have hc3 := hg3.cellsE hc2 (by have := hlow p hF; omega) fun h => h
  have hrow3 := hrow2.grew hg3 fun _ _ h => h
  obtain ⟨⟨cs, ho3, hr3⟩, hrF⟩ := hrow3
  have hown3 : Sl (h2.add (O [.slice a2 bs.length c2] 23 false)) (some ⟨h2.next, 0, none⟩) [.slice a2 bs.length c2] := Sl.row (cells_add_s _ _ _ _ rfl) (by rw [lo_add]; omega)
  have hrl : recs.length ≤ (enc recs).length := enc_ge recs
  obtain ⟨a4, c4, h4, ha4, hown4, hg4, hb4⟩ := own_append (P := Try.prog) T_appT_35_35 ho3 (by rw [lo_add, next_add]; omega) (x := .slice (some ⟨h2.next, 0, none⟩) 1 1) (m := 1) (xs := [.slice a2 bs.length c2]) rfl
    (Sl.src hown3 rfl (by decide)) rfl (foneL_mono (by rw [next_add]; omega) hf2) (by omega)
  have hlo4 : h4.lo ≤ p := by rw [hg4.lo, lo_add, hlo2]; exact hl
  have hc4 := hg4.cellsE hc3 (by rw [next_add]; have := hlow p hF; omega) fun hb => (hrF p hb).2 rfl
  have hst := stC_s (h := h4) 1 2 (.slice a4 (recs.length + 1) c4) p [.int .i64 lim, .int .i64 ok, .slice a recs.length c] 50 false rfl (Own_fone hown4 _ _) hlo4 (by show 2 + 1 ≤ 3; omega)
  refine ⟨a, c, a2, c2, h2, a4, c4, h4, hc, hbs1, hc1, ha2, hc2, hbs3, hc3, ha4, hc4, hst, ?_, hg1, hgA, hgA.tr' hg3 fun _ _ h => h.elim, (((Grew.mono hgA (T := F) fun i hi hx => by omega).tr' hg3 fun _ _ h => h.elim).tr' hg4 fun b _ hb => (hrF b hb).1), ?_⟩
  · have hgp : Grew h4 (h4.put p (O [Value.int IntKind.i64 ↑lim, Value.int IntKind.i64 ↑ok, Value.slice a4 (recs.length + 1) c4] 50 false)) (fun b => b = p) := (Grew.refl h4 _).put'' _ _ fun _ => rfl
    have hln : (recs ++ [bs]).length = recs.length + 1 := by rw [List.length_append]; rfl
    have hcF : cells (h4.put p (O [Value.int IntKind.i64 ↑lim, Value.int IntKind.i64 ↑ok, Value.slice a4 (recs.length + 1) c4] 50 false)) p = some ([Value.int IntKind.i64 ↑lim, Value.int IntKind.i64 ↑ok, Value.slice a4 (recs.length + 1) c4], 50, false) := cells_put_s _ _ _ _
    have hnF : (h4.put p (O [Value.int IntKind.i64 ↑lim, Value.int IntKind.i64 ↑ok, Value.slice a4 (recs.length + 1) c4] 50 false)).next = h4.next := by simp only [push_cast]
    have hlF : (h4.put p (O [Value.int IntKind.i64 ↑lim, Value.int IntKind.i64 ↑ok, Value.slice a4 (recs.length + 1) c4] 50 false)).lo = h4.lo := by simp only [push_cast]
    generalize h4.put p (O [Value.int IntKind.i64 ↑lim, Value.int IntKind.i64 ↑ok, Value.slice a4 (recs.length + 1) c4] 50 false) = h6 at hgp hcF hnF hlF ⊢
    have hn4 := hg4.next
    rw [next_add] at hn4
    have hpl := hlow p hF
    have hrow5 : ∀ b, blk a4 b → (F b ∨ (h.next ≤ b ∧ b < h4.next)) ∧ b ≠ p := fun b hb => by
      have hlt := Own_lt hown4 b hb
      rcases hb4 b hb with hx | hx
      · exact ⟨.inl (hrF b hx).1, (hrF b hx).2⟩
      · rw [next_add] at hx
        exact ⟨.inr ⟨by omega, hlt⟩, by omega⟩
    have key : ∀ (aj : Option Addr) (rj : List Int), Sl (h2.add (O [.slice a2 bs.length c2] 23 false)) aj (bv rj) → (∀ b, blk aj b → ((F b ∨ (h.next ≤ b ∧ b < h4.next)) ∧ b ≠ p) ∧ b < h2.next + 1 ∧ ¬ blk a b) → Sl h6 aj (bv rj) ∧ ∀ b, blk aj b → ((F b ∨ (h.next ≤ b ∧ b < h4.next)) ∧ b ≠ p) ∧ b < h6.next ∧ ¬ blk a4 b := fun aj rj hs hb => by
      refine ⟨Sl.grew (Sl.grew hs hg4 fun b h1 _ => ⟨by rw [next_add]; exact (hb b h1).2.1, (hb b h1).2.2⟩) hgp fun b h1 _ => ⟨by have := (hb b h1).2.1; omega, (hb b h1).1.2⟩, fun b h1 => ?_⟩
      obtain ⟨q1, q2, q3⟩ := hb b h1
      refine ⟨q1, by omega, fun h2 => ?_⟩
      rcases hb4 b h2 with h4 | h4
      · exact q3 h4
      · rw [next_add] at h4; omega
    refine ⟨⟨a4, c4, by rw [hln]; exact hcF, ⟨⟨cs ++ [.slice a2 bs.length c2], ?_, ?_⟩, hrow5⟩⟩, .inl hF, fun b hb => by rcases hb with hb | hb; have := hlow b hb; omega; omega, by rw [hlF]; exact hlo4, ?_⟩
    · rw [hln]
      exact hown4.grew hgp fun b hb _ e => (hrow5 b hb).2 e
    · intro j rj hj
      have hcl : cs.length = recs.length := by have := ho3.hlen; omega
      by_cases hji : j < recs.length
      · rw [List.getElem?_append_left (by omega)] at hj ⊢
        obtain ⟨aj, cj, q1, q2, q3⟩ := hr3 j rj hj
        obtain ⟨k1, k2⟩ := key aj rj q2 fun b hb => ⟨⟨.inl (q3 b hb).1.1, (q3 b hb).1.2⟩, by have := (q3 b hb).2.1; rw [next_add] at this; exact this, (q3 b hb).2.2⟩
        exact ⟨aj, cj, q1, k1, k2⟩
      · have hji2 : j = recs.length := by
          have := (List.getElem?_eq_some_iff.1 hj).1
          omega
        subst hji2
        rw [List.getElem?_append_right (Nat.le_refl _), Nat.sub_self] at hj
        rw [List.getElem?_append_right (by omega), hcl, Nat.sub_self]
        cases hj
        obtain ⟨k1, k2⟩ := key a2 bs (Sl.grew hown2.sl hg3 fun b hb _ => ⟨(hb2' b hb).2, fun h => h⟩) fun b hb => by
          obtain ⟨q1, q2⟩ := hb2' b hb
          exact ⟨⟨.inr ⟨q1, by omega⟩, by omega⟩, by omega, fun h4 => by have := hlow b (hrF b h4).1; omega⟩
        exact ⟨a2, c2, rfl, k1, k2⟩
    · have := enc_take_succ (recs := recs ++ [bs]) (i := recs.length) (r := bs) (by rw [List.getElem?_append_right (Nat.le_refl _), Nat.sub_self]; rfl)
      rw [List.take_of_length_le (by rw [hln]; omega), List.take_left'  rfl] at this
      omega
  · exact (((Grew.mono hgA (T := F) fun i hi hx => by omega).tr' hg3 fun _ _ h => h.elim).tr' hg4 fun b _ hb => (hrF b hb).1).put'' _ _ fun _ => hF
theorem refappend_w {p lim ok : Nat} {F : Nat → Prop} {recs : List (List Int)} (l : RefP h p lim ok F recs) (hlim : lim ≤ 1000000000) (bs : List Int) (ab : Option Addr) (cb : Nat) (hb : Sl h ab (bv bs)) (hbl : bs.length ≤ 1000000000) (hbb : ∀ b, blk ab b → b < h.next) :
    CallE (pp G) 27 [.pointer (some ⟨p, 0, none⟩), .slice ab bs.length cb] h (RefAppPost h p lim ok F recs bs) := by
  refine CallE.fir4 (good G) fir27 rfl rfl (F28_arr ..) fun hlo => ?_
  rw [sh_ir27]
  have l0 := l
  obtain ⟨⟨a, c, hc, hrow⟩, hF, hlow, hl, hfi⟩ := l
  simp (disch := first | omega | (refine id ?_; simp only [push_cast]; done) | (refine id ?_; simp only [push_cast]; omega)) only [push_cast, Nat.reduceAdd, Nat.reduceMul, Nat.reduceSub, Nat.reduceLT, Nat.reduceEqDiff, Nat.reduceLeDiff, Int.reduceToNat, reduceCtorEq, Int.reduceLT, Int.reduceLE, Int.reduceAdd, Int.reduceSub, Int.reduceMul, Int.reduceNeg, Int.reduceEq, hc, hl]
  refine CallE.to (reflen_w G _ l0 hlim) ?_
  rintro _ _ ⟨rfl, e⟩
  rw [e]
  clear e
  have hw1 : IntKind.i64.wrap (((enc recs).length : Int) + bs.length) = (enc recs).length + bs.length := wrap_i64 (by omega) (by omega)
  have hw2 : IntKind.i64.wrap (((enc recs).length : Int) + bs.length + 4) = (enc recs).length + bs.length + 4 := wrap_i64 (by omega) (by omega)
  by_cases hfit : (lim : Int) < (enc recs).length + bs.length + 4
  · simp (disch := first | omega | (refine id ?_; simp only [push_cast]; done) | (refine id ?_; simp only [push_cast]; omega)) only [push_cast, Nat.reduceAdd, Nat.reduceMul, Nat.reduceSub, Nat.reduceLT, Nat.reduceEqDiff, Nat.reduceLeDiff, Int.reduceToNat, reduceCtorEq, Int.reduceLT, Int.reduceLE, Int.reduceAdd, Int.reduceSub, Int.reduceMul, Int.reduceNeg, Int.reduceEq, hc, hl, hw1, hw2, hfit]
    exact ⟨fun hx => by omega, fun _ => ⟨rfl, rfl⟩⟩
  · obtain ⟨a', c', a2, c2, h2, a4, c4, h4, P⟩ := push hlo l0 hlim bs ab cb hb hbl hbb (by omega)
    have hac : a' = a ∧ c' = c := by have := P.hc; rw [hc] at this; cases this; exact ⟨rfl, rfl⟩
    obtain ⟨rfl, rfl⟩ := hac
    have hlo2 : h2.lo = h.lo := P.g2.lo
    have hlo4 : h4.lo = h.lo := P.g4.lo
    simp (disch := first | omega | (refine id ?_; simp only [push_cast]; done) | (refine id ?_; simp only [push_cast]; omega)) only [push_cast, Nat.reduceAdd, Nat.reduceMul, Nat.reduceSub, Nat.reduceLT, Nat.reduceEqDiff, Nat.reduceLeDiff, Int.reduceToNat, reduceCtorEq, Int.reduceLT, Int.reduceLE, Int.reduceAdd, Int.reduceSub, Int.reduceMul, Int.reduceNeg, Int.reduceEq, hc, hl, hw1, hw2, hfit, P.hbs1, P.hc1, P.ha2, P.hc2, rg_get1, P.hbs3, P.hc3, P.ha4, P.hc4, P.hst]
    exact ⟨fun _ => ⟨rfl, _, P.ref, P.grew, fun b hb => hb.elim .inl fun h => .inr h.1⟩, fun hx => absurd (show (enc recs).length + bs.length + 4 ≤ lim by omega) hx⟩
end
end Go.Proofs.Ytohdgkmgkcoilaa

namespace Go.Proofs.Ytohdgkmgkcoilaa
open Go Go.RowKit Go.Ev
noncomputable section
set_option linter.unusedSimpArgs false
set_option linter.unusedVariables false
variable (G : Nat) (h : Heap)

/-- rows that are handed in, their blocks in Q -/
structure RowsQ (h : Heap) (a : Option Addr) (Q : Nat → Prop) (recs : List (List Int)) : Prop where
  cells : ∃ cs : List Value, Sl h a cs ∧ cs.length = recs.length ∧ ∀ (i : Nat) (r : List Int), recs[i]? = some r → ∃ (ai : Option Addr) (ci : Nat), cs[i]? = some (Value.slice ai r.length ci) ∧ Sl h ai (bv r) ∧ ∀ b, blk ai b → Q b
  row : ∀ b, blk a b → Q b
  low : ∀ b, Q b → b < h.next
theorem RowsQ.grew {h h' : Heap} {a : Option Addr} {Q : Nat → Prop} {recs : List (List Int)} {S : Nat → Prop} (r : RowsQ h a Q recs) (g : Grew h h' S) (hS : ∀ b, Q b → ¬ S b) : RowsQ h' a Q recs := by
  obtain ⟨⟨cs, h1, h2, h3⟩, h4, h5⟩ := r
  refine ⟨⟨cs, Sl.grew h1 g fun b hb _ => ⟨h5 b (h4 b hb), hS b (h4 b hb)⟩, h2, fun i r hr => ?_⟩, h4, fun b hb => Nat.lt_of_lt_of_le (h5 b hb) g.next⟩
  obtain ⟨ai, ci, h6, h7, h8⟩ := h3 i r hr
  exact ⟨ai, ci, h6, Sl.grew h7 g fun b hb _ => ⟨h5 b (h8 b hb), hS b (h8 b hb)⟩, h8⟩

inductive I29 (h0 : Heap) (p lim ok : Nat) (F Q : Nat → Prop) (news : List (List Int)) (ar : Option Addr) (cr : Nat) : Nat → S → Prop
  | mk (i : Nat) (iv : Int) (h : Heap) (F2 : Nat → Prop) {x2 x3 x4 x6 x7 x8 x9 x10 x11 x12 x13 x14 x15 x16 x17 x18 x19 x20 x21 x22 x23 x24 x25 x26 x27 x28 x29 x30 x31 x32 x33 x34 x35 x36 x37 x38 : Value} (hiv : iv = (i : Int)) (hi : i ≤ news.length) (hl : RefP h p lim ok F2 (news.take i)) (hg : Grew h0 h F) (hF2 : ∀ b, F2 b → F b ∨ h0.next ≤ b) (hq : RowsQ h ar Q news) :
    I29 h0 p lim ok F Q news ar cr (news.length - i) ⟨(F39 (.pointer (some ⟨p, 0, none⟩)) (.slice ar news.length cr) x2 x3 x4 (.int .i64 iv) x6 x7 x8 x9 x10 x11 x12 x13 x14 x15 x16 x17 x18 x19 x20 x21 x22 x23 x24 x25 x26 x27 x28 x29 x30 x31 x32 x33 x34 x35 x36 x37 x38), [], h⟩

structure RefCompPost (h : Heap) (p lim ok : Nat) (F : Nat → Prop) (news : List (List Int)) (v : Value) (h' : Heap) : Prop where
  yes : (enc news).length ≤ lim → v = .bool true ∧ ∃ F', RefP h' p lim (enc news).length F' news ∧ Grew h h' F ∧ ∀ b, F' b → F b ∨ h.next ≤ b
  no : ¬ (enc news).length ≤ lim → v = .bool false ∧ h' = h
theorem refcompact_w {p lim ok : Nat} {F Q : Nat → Prop} {recs : List (List Int)} (l : RefP h p lim ok F recs) (hlim : lim ≤ 1000000000) (news : List (List Int)) (ar : Option Addr) (cr : Nat) (hq : RowsQ h ar Q news) (hQF : ∀ b, Q b → ¬ F b) (hbig : (enc news).length < 1000000000) :
    CallE (pp G) 29 [.pointer (some ⟨p, 0, none⟩), .slice ar news.length cr] h (RefCompPost h p lim ok F news) := by
  refine CallE.fir4 (good G) fir29 rfl rfl (F39_arr ..) fun hlo => ?_
  rw [sh_ir29]
  have l0 := l
  have hq0 := hq
  obtain ⟨⟨a, c, hc, hrow⟩, hF, hlow, hl, hfi⟩ := l
  obtain ⟨⟨cs, hs, hcl, hrs⟩, hq2, hq3⟩ := hq
  have hnl := enc_ge news
  simp (disch := first | omega | (refine id ?_; simp only [push_cast]; done) | (refine id ?_; simp only [push_cast]; omega)) only [push_cast, Nat.reduceAdd, Nat.reduceMul, Nat.reduceSub, Nat.reduceLT, Nat.reduceEqDiff, Nat.reduceLeDiff, Int.reduceToNat, reduceCtorEq, Int.reduceLT, Int.reduceLE, Int.reduceAdd, Int.reduceSub, Int.reduceMul, Int.reduceNeg, Int.reduceEq, hc, hl]
  refine CallE.to (size_w G _ ar cr news cs hs (fun i r hr => by obtain ⟨ai, ci, q, _⟩ := hrs i r hr; exact ⟨ai, ci, q⟩) (by omega) (by omega)) ?_
  rintro _ _ ⟨rfl, e⟩
  rw [e]
  clear e
  by_cases hfit : (lim : Int) < (enc news).length
  · simp (disch := first | omega | (refine id ?_; simp only [push_cast]; done) | (refine id ?_; simp only [push_cast]; omega)) only [push_cast, Nat.reduceAdd, Nat.reduceMul, Nat.reduceSub, Nat.reduceLT, Nat.reduceEqDiff, Nat.reduceLeDiff, Int.reduceToNat, reduceCtorEq, Int.reduceLT, Int.reduceLE, Int.reduceAdd, Int.reduceSub, Int.reduceMul, Int.reduceNeg, Int.reduceEq, hc, hl, hfit]
    exact ⟨fun hx => by omega, fun _ => ⟨rfl, rfl⟩⟩
  · simp (disch := first | omega | (refine id ?_; simp only [push_cast]; done) | (refine id ?_; simp only [push_cast]; omega)) only [push_cast, Nat.reduceAdd, Nat.reduceMul, Nat.reduceSub, Nat.reduceLT, Nat.reduceEqDiff, Nat.reduceLeDiff, Int.reduceToNat, reduceCtorEq, Int.reduceLT, Int.reduceLE, Int.reduceAdd, Int.reduceSub, Int.reduceMul, Int.reduceNeg, Int.reduceEq, hc, hl, hfit]
    have hgp : Grew h (h.put p (O [.int .i64 lim, .int .i64 ok, .slice none 0 0] 50 false)) (fun b => b = p) := (Grew.refl h _).put'' _ _ fun _ => rfl
    have hc1 : cells (h.put p (O [.int .i64 lim, .int .i64 ok, .slice none 0 0] 50 false)) p = some ([.int .i64 lim, .int .i64 ok, .slice none 0 0], 50, false) := cells_put_s _ _ _ _
    have hl1 : RefP (h.put p (O [.int .i64 lim, .int .i64 ok, .slice none 0 0] 50 false)) p lim ok F (news.take 0) := ⟨⟨none, 0, hc1, ⟨⟨[], Own.nil _ _ _, fun i r hr => by cases hr⟩, fun b hb => by obtain ⟨o, s, e⟩ := hb; cases e⟩⟩, hF, fun b hb => by simp only [push_cast]; exact hlow b hb, by simp only [push_cast]; exact hl, Nat.zero_le _⟩
    refine W.loop4 (good G) (I29 h p lim ok F Q news ar cr) ?_ _ _ (I29.mk 0 0 _ F rfl (Nat.zero_le _) hl1 (hgp.mono fun b _ e => by rw [e]; exact hF) (fun b hb => .inl hb) (hq0.grew hgp fun b hb e => hQF b hb (by rw [e]; exact hF)))
    intro _ s1 hI
    cases hI with | mk i iv h2 F2 hiv hi hl2 hg2 hF2 hqq =>
    subst hiv
    rw [sh_ir29_s0]
    have hlo2 : h2.lo ≤ h2.next := by have := hg2.lo; have := hg2.next; omega
    by_cases hil : (i : Int) < news.length
    · have hqq0 := hqq
      have hn2 := hg2.next
      obtain ⟨⟨cs2, hs2, _, hr2⟩, hqr2, hql2⟩ := hqq
      obtain ⟨r, hr⟩ : ∃ r, news[i]? = some r := ⟨_, List.getElem?_eq_getElem (by omega)⟩
      obtain ⟨ai, ci, q1, q2, q3⟩ := hr2 i r hr
      have hes := enc_take_succ hr
      have hle := enc_take_le news (i + 1)
      have hdis : ∀ b, Q b → ¬ F2 b := fun b hb hx => by
        rcases hF2 b hx with h1 | h1
        · exact hQF b hb h1
        · have := hq3 b hb; omega
      have hti : (news.take i).length = i := by rw [List.length_take]; omega
      have htk : news.take i ++ [r] = news.take (i + 1) := by rw [List.take_add_one, hr]; rfl
      obtain ⟨a', c', a2, c2, h3, a4, c4, h4, P⟩ := push hlo2 hl2 hlim r ai ci q2 (by omega) (fun b hb => hql2 b (q3 b hb)) (by omega)
      obtain ⟨b, off, rfl, _⟩ := hs2.load T_knd_23 q1
      have hld : ∀ h5 (S : Nat → Prop), Grew h2 h5 S → (∀ b, Q b → ¬ S b) → ldC (some (false, 0)) (off + i) h5.lo b (cells h5 b) = some (.slice ai r.length ci) := fun h5 S g hS => by
        obtain ⟨b', off', e, hx⟩ := (Sl.grew hs2 g fun b hb _ => ⟨hql2 b (hqr2 b hb), hS b (hqr2 b hb)⟩).load T_knd_23 q1
        cases e
        rw [load_eq, T_knd_23] at hx
        exact hx
      have hld0 := hld h2 (fun _ => False) (Grew.refl _ _) fun _ _ h => h
      have hld1 := hld _ _ P.g1 fun _ _ h => h
      have hld2 := hld _ _ P.g2 fun b hb hx => by have := hql2 b hb; omega
      have hld3 := hld _ _ P.g3 fun b hb hx => by have := hql2 b hb; omega
      have hld4 := hld _ _ P.g4 hdis
      have hld5 := hld _ _ P.grew hdis
      have hl2' := hl2.lo
      have hlo3 : h3.lo = h2.lo := P.g2.lo
      have hlo4 : h4.lo = h2.lo := P.g4.lo
      have hP := P.ref
      have hPg := P.grew
      have hc0 := P.hc
      have p1 := P.hbs1
      have p2 := P.hc1
      have p3 := P.ha2
      have p4 := P.hc2
      have p5 := P.hbs3
      have p6 := P.hc3
      have p7 := P.ha4
      have p8 := P.hc4
      have p9 := P.hst
      rw [hti] at p2 p4 p6 p7 p8 p9 hP hPg hc0 hld5
      rw [htk] at hP
      rw [lo_add] at hld1
      rw [lo_add] at hld3
      rw [lo_put] at hld5
      simp (disch := first | omega | (refine id ?_; simp only [push_cast]; done) | (refine id ?_; simp only [push_cast]; omega)) only [push_cast, Nat.reduceAdd, Nat.reduceMul, Nat.reduceSub, Nat.reduceLT, Nat.reduceEqDiff, Nat.reduceLeDiff, Int.reduceToNat, reduceCtorEq, Int.reduceLT, Int.reduceLE, Int.reduceAdd, Int.reduceSub, Int.reduceMul, Int.reduceNeg, Int.reduceEq, hil, Int.toNat_natCast, hc0, hld0, hld1, hld2, hld3, hld4, hld5, p1, p2, p3, p4, rg_get1, p5, p6, p7, p8, p9]
      exact ⟨_, by omega, I29.mk (i + 1) _ _ _ (by first | rfl | omega) (by omega) hP (hg2.tr' hPg fun b hlt hx => (hF2 b hx).elim id fun h => by omega) (fun b hb => by
        rcases hb with hb | hb
        · exact hF2 b hb
        · right; omega) (hqq0.grew hPg hdis)⟩
    · have hie : i = news.length := by omega
      subst hie
      rw [List.take_length] at hl2
      simp (disch := first | omega | (refine id ?_; simp only [push_cast]; done) | (refine id ?_; simp only [push_cast]; omega)) only [push_cast, Nat.reduceAdd, Nat.reduceMul, Nat.reduceSub, Nat.reduceLT, Nat.reduceEqDiff, Nat.reduceLeDiff, Int.reduceToNat, reduceCtorEq, Int.reduceLT, Int.reduceLE, Int.reduceAdd, Int.reduceSub, Int.reduceMul, Int.reduceNeg, Int.reduceEq, hil]
      refine CallE.to (refsync_w G _ hl2 hlim) ?_
      rintro _ h3 ⟨rfl, hl3, hg3, _⟩
      simp (disch := first | omega | (refine id ?_; simp only [push_cast]; done) | (refine id ?_; simp only [push_cast]; omega)) only [push_cast, Nat.reduceAdd, Nat.reduceMul, Nat.reduceSub, Nat.reduceLT, Nat.reduceEqDiff, Nat.reduceLeDiff, Int.reduceToNat, reduceCtorEq, Int.reduceLT, Int.reduceLE, Int.reduceAdd, Int.reduceSub, Int.reduceMul, Int.reduceNeg, Int.reduceEq]
      exact ⟨fun _ => ⟨rfl, F2, hl3, hg2.tr' hg3 fun b _ e => by rw [e]; exact hF, hF2⟩, fun hx => absurd (show (enc news).length ≤ lim by omega) hx⟩
end
end Go.Proofs.Ytohdgkmgkcoilaa

namespace Go.Proofs.Ytohdgkmgkcoilaa
open Go Go.RowKit Go.Ev
noncomputable section
set_option linter.unusedSimpArgs false
set_option linter.unusedVariables false
variable (G : Nat) (h : Heap)

/-- one more row behind rows: what is done in memory, step by step -/
structure RPush (h : Heap) (lo : Nat) (recs : List (List Int)) (a : Option Addr) (c : Nat) (bs : List Int) (ab : Option Addr) (cb : Nat) (a2 : Option Addr) (c2 : Nat) (h2 : Heap) (a4 : Option Addr) (c4 : Nat) (h4 : Heap) : Prop where
  hbs1 : bsC 0 5 h (some (List.replicate 0 [Value.int IntKind.u8 0]).flatten) = some (.slice (some ⟨h.next, 0, none⟩) 0 0, h.add (O [] 5 false))
  ha2 : evAppend Try.prog 23 23 (.slice (some ⟨h.next, 0, none⟩) 0 0) (.slice ab bs.length cb) (h.add (O [] 5 false)) = some (.slice a2 bs.length c2, h2)
  hbs3 : bsC 1 23 h2 (fillQ (List.map (fun i => (i, 1)) (List.range 1)) (List.replicate 1 [Value.slice none 0 0]).flatten (Value.slice a2 bs.length c2) [] (some (0, 1))) = some (.slice (some ⟨h2.next, 0, none⟩) 1 1, h2.add (O [.slice a2 bs.length c2] 23 false))
  ha4 : evAppend Try.prog 35 35 (.slice a recs.length c) (.slice (some ⟨h2.next, 0, none⟩) 1 1) (h2.add (O [.slice a2 bs.length c2] 23 false)) = some (.slice a4 (recs.length + 1) c4, h4)
  rows : Rows h4 a4 c4 lo (recs ++ [bs])
  g1 : Grew h (h.add (O [] 5 false)) (fun b => lo ≤ b)
  g2 : Grew h h2 (fun b => lo ≤ b)
  g3 : Grew h (h2.add (O [.slice a2 bs.length c2] 23 false)) (fun b => lo ≤ b)
  g4 : Grew h h4 (fun b => lo ≤ b)
theorem rpush {h : Heap} {lo : Nat} {recs : List (List Int)} {a : Option Addr} {c : Nat} (hlo : h.lo ≤ h.next) (hl : lo ≤ h.next) (R : Rows h a c lo recs) (hn : recs.length ≤ 1000000000) (bs : List Int) (ab : Option Addr) (cb : Nat) (hb : Sl h ab (bv bs)) (hbl : bs.length ≤ 1000000000) (hbb : ∀ b, blk ab b → b < h.next) :
    ∃ a2 c2 h2 a4 c4 h4, RPush h lo recs a c bs ab cb a2 c2 h2 a4 c4 h4 := by
  have hbs1 : bsC 0 5 h (some (List.replicate 0 [Value.int IntKind.u8 0]).flatten) = some (.slice (some ⟨h.next, 0, none⟩) 0 0, h.add (O [] 5 false)) := bsC_s _ _ _ rfl
  have hg1 : Grew h (h.add (O [] 5 false)) (fun _ => False) := Grew.add h _ _
  have hown1 : Own (h.add (O [] 5 false)) 5 1 (some ⟨h.next, 0, none⟩) 0 0 [] := ⟨rfl, rfl, .inr ⟨h.next, false, rfl, by rw [lo_add]; exact hlo, by rw [next_add]; omega, cells_add_s _ _ _ _ rfl, .inr ⟨rfl, rfl⟩⟩⟩
  have hb1 : Sl (h.add (O [] 5 false)) ab (bv bs) := Sl.grew hb hg1 fun b h1 _ => ⟨hbb b h1, fun h => h⟩
  obtain ⟨a2, c2, h2, ha2, hown2, hg2, hb2⟩ := own_append (P := Try.prog) T_appT_23_23 hown1 (by rw [lo_add, next_add]; omega) (x := .slice ab bs.length cb) (m := bs.length) (xs := bv bs) rfl
    (Sl.src hb1 (by rw [bv_len]; omega) (by decide)) (by rw [bv_len]; omega) (bv_fone _ _) (by omega)
  rw [Nat.zero_add] at ha2 hown2
  rw [List.nil_append] at hown2
  have hn2 := hg2.next
  rw [next_add] at hn2
  have hb2' : ∀ b, blk a2 b → h.next ≤ b ∧ b < h2.next := fun b hb => ⟨by
    rcases hb2 b hb with ⟨o, s, e⟩ | hx
    · cases e; omega
    · rw [next_add] at hx; omega, Own_lt hown2 b hb⟩
  have hg1' : Grew h (h.add (O [] 5 false)) (fun b => lo ≤ b) := Grew.mono hg1 fun _ _ h => h.elim
  have hgA : Grew h h2 (fun b => lo ≤ b) := hg1'.tr' hg2 fun b _ hb => by obtain ⟨o, s, e⟩ := hb; cases e; omega
  have hgA2 : Grew h h2 (fun b => False) := hg1.tr' hg2 fun b hlt hb => by obtain ⟨o, s, e⟩ := hb; cases e; omega
  have hrow2 := R.grew hgA2 fun _ _ h => h
  have hf2 : foneL h2.next [Value.slice a2 bs.length c2] = true := fone_sl (Sl_spot hown2.sl) fun b hb => (hb2' b hb).2
  have hbs3 : bsC 1 23 h2 (fillQ (List.map (fun i => (i, 1)) (List.range 1)) (List.replicate 1 [Value.slice none 0 0]).flatten (Value.slice a2 bs.length c2) [] (some (0, 1))) = some (.slice (some ⟨h2.next, 0, none⟩) 1 1, h2.add (O [.slice a2 bs.length c2] 23 false)) := bsC_s _ _ _ hf2
  have hg3 : Grew h2 (h2.add (O [.slice a2 bs.length c2] 23 false)) (fun _ => False) := Grew.add h2 _ _
  have hlo2 : h2.lo = h.lo := hgA.lo
  have hrow3 := hrow2.grew hg3 fun _ _ h => h
  have hao : ∀ b, blk a b → b < h.next := by
    obtain ⟨⟨cs0, ho0, _⟩, _⟩ := R
    exact Own_lt ho0
  obtain ⟨⟨cs, ho3, hr3⟩, hrl⟩ := hrow3
  have hown3 : Sl (h2.add (O [.slice a2 bs.length c2] 23 false)) (some ⟨h2.next, 0, none⟩) [.slice a2 bs.length c2] := Sl.row (cells_add_s _ _ _ _ rfl) (by rw [lo_add]; omega)
  obtain ⟨a4, c4, h4, ha4, hown4, hg4, hb4⟩ := own_append (P := Try.prog) T_appT_35_35 ho3 (by rw [lo_add, next_add]; omega) (x := .slice (some ⟨h2.next, 0, none⟩) 1 1) (m := 1) (xs := [.slice a2 bs.length c2]) rfl
    (Sl.src hown3 rfl (by decide)) rfl (foneL_mono (by rw [next_add]; omega) hf2) (by omega)
  have hgB : Grew h (h2.add (O [.slice a2 bs.length c2] 23 false)) (fun b => lo ≤ b) := hgA.tr' hg3 fun _ _ h => h.elim
  have hgC : Grew h h4 (fun b => lo ≤ b) := hgB.tr' hg4 fun b _ hb => hrl b hb
  have hn4 := hg4.next
  rw [next_add] at hn4
  have hlow4 : ∀ b, blk a4 b → lo ≤ b := fun b hb => by
    rcases hb4 b hb with hx | hx
    · exact hrl b hx
    · rw [next_add] at hx; omega
  have hln : (recs ++ [bs]).length = recs.length + 1 := by rw [List.length_append]; rfl
  refine ⟨a2, c2, h2, a4, c4, h4, hbs1, ha2, hbs3, ha4, ⟨⟨cs ++ [.slice a2 bs.length c2], by rw [hln]; exact hown4, ?_⟩, hlow4⟩, hg1', hgA, hgB, hgC⟩
  have key : ∀ (aj : Option Addr) (rj : List Int), Sl (h2.add (O [.slice a2 bs.length c2] 23 false)) aj (bv rj) → (∀ b, blk aj b → lo ≤ b ∧ b < h2.next + 1 ∧ ¬ blk a b) → Sl h4 aj (bv rj) ∧ ∀ b, blk aj b → lo ≤ b ∧ b < h4.next ∧ ¬ blk a4 b := fun aj rj hs hb => by
    refine ⟨Sl.grew hs hg4 fun b h1 _ => ⟨by rw [next_add]; exact (hb b h1).2.1, (hb b h1).2.2⟩, fun b h1 => ?_⟩
    obtain ⟨q1, q2, q3⟩ := hb b h1
    refine ⟨q1, by omega, fun h2 => ?_⟩
    rcases hb4 b h2 with h4 | h4
    · exact q3 h4
    · rw [next_add] at h4; omega
  intro j rj hj
  have hcl : cs.length = recs.length := by have := ho3.hlen; omega
  by_cases hji : j < recs.length
  · rw [List.getElem?_append_left (by omega)] at hj ⊢
    obtain ⟨aj, cj, q1, q2, q3⟩ := hr3 j rj hj
    obtain ⟨k1, k2⟩ := key aj rj q2 fun b hb => by have := q3 b hb; rw [next_add] at this; exact this
    exact ⟨aj, cj, q1, k1, k2⟩
  · have hji2 : j = recs.length := by
      have := (List.getElem?_eq_some_iff.1 hj).1
      omega
    subst hji2
    rw [List.getElem?_append_right (Nat.le_refl _), Nat.sub_self] at hj
    rw [List.getElem?_append_right (by omega), hcl, Nat.sub_self]
    cases hj
    obtain ⟨k1, k2⟩ := key a2 bs (Sl.grew hown2.sl hg3 fun b hb _ => ⟨(hb2' b hb).2, fun h => h⟩) fun b hb => by
      obtain ⟨q1, q2⟩ := hb2' b hb
      exact ⟨by omega, by omega, fun h4 => by have := hao b h4; omega⟩
    exact ⟨a2, c2, rfl, k1, k2⟩
end
end Go.Proofs.Ytohdgkmgkcoilaa

namespace Go.Proofs.Ytohdgkmgkcoilaa
open Go Go.RowKit Go.Ev

theorem enc_cons_len (r : List Int) (rs : List (List Int)) : (enc (r :: rs)).length = 4 + r.length + (enc rs).length := by
  rw [enc_cons, List.length_append, List.length_append, beL_len]
theorem wholes_pre : ∀ (recs : List (List Int)) (e e' : Nat), e ≤ e' → ∃ t, wholes e' recs = wholes e recs ++ t
  | [], _, _, _ => ⟨[], rfl⟩
  | r :: rs, e, e', h => by
    simp only [wholes]
    by_cases h1 : 4 + r.length ≤ e
    · obtain ⟨t, ht⟩ := wholes_pre rs (e - (4 + r.length)) (e' - (4 + r.length)) (by omega)
      rw [if_pos h1, if_pos (by omega), ht]
      exact ⟨t, rfl⟩
    · rw [if_neg h1]
      exact ⟨_, rfl⟩
theorem wholes_len : ∀ (recs : List (List Int)) (e : Nat), (enc (wholes e recs)).length ≤ e
  | [], _ => Nat.zero_le _
  | r :: rs, e => by
    simp only [wholes]
    by_cases h1 : 4 + r.length ≤ e
    · have := wholes_len rs (e - (4 + r.length))
      rw [if_pos h1, enc_cons_len]
      omega
    · rw [if_neg h1]
      exact Nat.zero_le _
theorem wholes_ge : ∀ (recs : List (List Int)) (e i : Nat), (enc (recs.take i)).length ≤ e → (enc (recs.take i)).length ≤ (enc (wholes e recs)).length
  | [], e, i, _ => by rw [List.take_nil]; exact Nat.zero_le _
  | r :: rs, e, 0, _ => by rw [List.take_zero]; exact Nat.zero_le _
  | r :: rs, e, i + 1, h => by
    rw [List.take_succ_cons, enc_cons_len] at h ⊢
    have := wholes_ge rs (e - (4 + r.length)) i (by omega)
    simp only [wholes]
    rw [if_pos (by omega), enc_cons_len]
    omega
/-- what is whole is a front -/
theorem wholes_take (recs : List (List Int)) : ∀ (e : Nat), ∃ m, m ≤ recs.length ∧ wholes e recs = recs.take m := by
  induction recs with
  | nil => intro e; exact ⟨0, Nat.le_refl _, rfl⟩
  | cons r rs ih =>
    intro e
    simp only [wholes]
    by_cases h1 : 4 + r.length ≤ e
    · obtain ⟨m, hm, h2⟩ := ih (e - (4 + r.length))
      rw [if_pos h1, h2]
      exact ⟨m + 1, by rw [List.length_cons]; omega, rfl⟩
    · rw [if_neg h1]
      exact ⟨0, Nat.zero_le _, rfl⟩
end Go.Proofs.Ytohdgkmgkcoilaa

namespace Go.Proofs.Ytohdgkmgkcoilaa
open Go Go.RowKit Go.Ev
noncomputable section
set_option linter.unusedSimpArgs false
set_option linter.unusedVariables false
variable (G : Nat) (h : Heap)

inductive I30 (h0 : Heap) (p : Nat) (recs : List (List Int)) : Nat → S → Prop
  | mk (i : Nat) (iv : Int) (h : Heap) (a : Option Addr) (c : Nat) {x1 x2 x5 x6 x7 x8 x9 x10 x11 x12 x13 x14 x15 x16 x17 x18 x19 x20 x21 x22 x23 x24 x25 x26 : Value} (hiv : iv = (i : Int)) (hi : i ≤ recs.length) (hr : Rows h a c h0.next (recs.take i)) (hg : Gr h0 h) :
    I30 h0 p recs (recs.length - i) ⟨(F27 (.pointer (some ⟨p, 0, none⟩)) x1 x2 (.slice a i c) (.int .i64 iv) x5 x6 x7 x8 x9 x10 x11 x12 x13 x14 x15 x16 x17 x18 x19 x20 x21 x22 x23 x24 x25 x26), [], h⟩
theorem refrecords_w {p lim ok : Nat} {F : Nat → Prop} {recs : List (List Int)} (l : RefP h p lim ok F recs) (hlim : lim ≤ 1000000000) : CallE (pp G) 30 [.pointer (some ⟨p, 0, none⟩)] h (RecsPost h recs) := by
  refine CallE.fir4 (good G) fir30 rfl rfl (F27_arr ..) fun hlo => ?_
  rw [sh_ir30]
  simp (disch := first | omega | (refine id ?_; simp only [push_cast]; done) | (refine id ?_; simp only [push_cast]; omega)) only [push_cast, Nat.reduceAdd, Nat.reduceMul, Nat.reduceSub, Nat.reduceLT, Nat.reduceEqDiff, Nat.reduceLeDiff, Int.reduceToNat, reduceCtorEq, Int.reduceLT, Int.reduceLE, Int.reduceAdd, Int.reduceSub, Int.reduceMul, Int.reduceNeg, Int.reduceEq]
  have hge := enc_ge recs
  have hfit := l.fits
  have hplt := l.low p l.self
  have hFlow := l.low
  refine W.loop4 (good G) (I30 h p recs) ?_ _ _ (I30.mk 0 0 h none 0 rfl (Nat.zero_le _) ⟨⟨[], Own.nil _ _ _, fun i r hr => by rw [List.take_zero] at hr; cases hr⟩, fun b hb => by obtain ⟨o, s, e⟩ := hb; cases e⟩ (Gr.refl h))
  intro _ s1 hI
  cases hI with | mk i iv h2 a c hiv hi hr hg =>
  subst hiv
  rw [sh_ir30_s0]
  have l2 := l.grew hg fun _ _ h => h
  obtain ⟨⟨ar, cr, hc, ⟨⟨cs, hown, hrow⟩, hrF⟩⟩, hF, hlow, hl, hfi⟩ := l2
  have hn2 := hg.next
  by_cases hil : (i : Int) < recs.length
  · obtain ⟨r, hri⟩ : ∃ r, recs[i]? = some r := ⟨_, List.getElem?_eq_getElem (by omega)⟩
    obtain ⟨ai, ci, q1, q2, q3⟩ := hrow i r hri
    have hes := enc_take_succ hri
    have hle := enc_take_le recs (i + 1)
    have hti : (recs.take i).length = i := by rw [List.length_take]; omega
    have htk : recs.take i ++ [r] = recs.take (i + 1) := by rw [List.take_add_one, hri]; rfl
    obtain ⟨a2, c2, h3, a4, c4, h4, P⟩ := rpush (lo := h.next) (by have := hg.lo; omega) hn2 hr (by omega) r ai ci q2 (by omega) (fun b hb => (q3 b hb).2.1)
    have p1 := P.hbs1
    have p3 := P.ha2
    have p5 := P.hbs3
    have p7 := P.ha4
    have hP := P.rows
    have g1 := P.g1
    rw [hti] at p7
    rw [htk] at hP
    have hc1 := g1.cellsE hc (by omega) (by omega)
    have hl1 : (h2.add (O [] 5 false)).lo ≤ p := by rw [lo_add]; exact hl
    obtain ⟨b, off, rfl, hld⟩ := (Sl.grew hown.sl g1 fun b hb _ => ⟨hlow b (hrF b hb).1, fun hx => by have := hFlow b (hrF b hb).1; omega⟩).load T_knd_23 q1
    rw [load_eq, T_knd_23, lo_add] at hld
    have hlo3 : h3.lo = h2.lo := P.g2.lo
    have hlo4 : h4.lo = h2.lo := P.g4.lo
    simp (disch := first | omega | (refine id ?_; simp only [push_cast]; done) | (refine id ?_; simp only [push_cast]; omega)) only [push_cast, Nat.reduceAdd, Nat.reduceMul, Nat.reduceSub, Nat.reduceLT, Nat.reduceEqDiff, Nat.reduceLeDiff, Int.reduceToNat, reduceCtorEq, Int.reduceLT, Int.reduceLE, Int.reduceAdd, Int.reduceSub, Int.reduceMul, Int.reduceNeg, Int.reduceEq, hil, Int.toNat_natCast, hc, hl, hc1, hl1, hld, p1, p3, rg_get1, p5, p7]
    exact ⟨_, by omega, I30.mk (i + 1) _ _ _ _ (by first | rfl | omega) (by omega) hP (hg.tr' P.g4 fun b hlt hx => by omega)⟩
  · have hie : i = recs.length := by omega
    subst hie
    rw [List.take_length] at hr
    simp (disch := first | omega | (refine id ?_; simp only [push_cast]; done) | (refine id ?_; simp only [push_cast]; omega)) only [push_cast, Nat.reduceAdd, Nat.reduceMul, Nat.reduceSub, Nat.reduceLT, Nat.reduceEqDiff, Nat.reduceLeDiff, Int.reduceToNat, reduceCtorEq, Int.reduceLT, Int.reduceLE, Int.reduceAdd, Int.reduceSub, Int.reduceMul, Int.reduceNeg, Int.reduceEq, hil, hc, hl]
    exact ⟨⟨a, c, rfl, hr⟩, hg⟩

theorem drop_cons {recs : List (List Int)} {i : Nat} {r : List Int} (hr : recs[i]? = some r) : recs.drop i = r :: recs.drop (i + 1) := by
  obtain ⟨h1, h2⟩ := List.getElem?_eq_some_iff.1 hr
  rw [List.drop_eq_getElem_cons h1, h2]

structure RefCrashPost (h : Heap) (lim : Nat) (ws : List (List Int)) (v : Value) (h2 : Heap) : Prop where
  log : ∃ q F, v = .pointer (some ⟨q, 0, none⟩) ∧ RefP h2 q lim (enc ws).length F ws ∧ ∀ b, F b → h.next ≤ b
  gr : Gr h h2
inductive I20 (h0 : Heap) (p q lim : Nat) (recs : List (List Int)) (e : Nat) : Nat → S → Prop
  | mk (i left : Nat) (iv lv : Int) (h : Heap) (F2 : Nat → Prop) {x1 x2 x3 x4 x8 x9 x10 x11 x12 x13 x14 x15 x16 x17 x18 x19 x20 x21 x22 x23 x24 x25 x26 x27 x28 x29 x30 x31 x32 x33 x34 x35 x36 x37 x38 x39 x40 x41 x42 x43 x44 x45 x46 x47 x48 x49 x50 x51 x52 x53 x54 x55 x56 x57 x58 x59 x60 x61 x62 x63 x64 x65 x66 x67 x68 x69 x70 x71 x72 : Value} (hiv : iv = (i : Int)) (hlv : lv = (left : Int)) (hi : i ≤ recs.length) (hw : wholes e recs = recs.take i ++ wholes left (recs.drop i)) (hle : left ≤ e)
    (hr : RefP h q lim 0 F2 (recs.take i)) (hF2 : ∀ b, F2 b → h0.next ≤ b) (hg : Gr h0 h) :
    I20 h0 p q lim recs e (recs.length - i) ⟨(F73 (.pointer (some ⟨p, 0, none⟩)) x1 x2 x3 x4 (.int .i64 lv) (.pointer (some ⟨q, 0, none⟩)) (.int .i64 iv) x8 x9 x10 x11 x12 x13 x14 x15 x16 x17 x18 x19 x20 x21 x22 x23 x24 x25 x26 x27 x28 x29 x30 x31 x32 x33 x34 x35 x36 x37 x38 x39 x40 x41 x42 x43 x44 x45 x46 x47 x48 x49 x50 x51 x52 x53 x54 x55 x56 x57 x58 x59 x60 x61 x62 x63 x64 x65 x66 x67 x68 x69 x70 x71 x72), [], h⟩
theorem refcrash_w {p lim ok : Nat} {F : Nat → Prop} {recs : List (List Int)} (l : RefP h p lim ok F recs) (hlim : lim ≤ 1000000000) (hok : ok ≤ (enc recs).length) (keep : Int) :
    CallE (pp G) 20 [.pointer (some ⟨p, 0, none⟩), .int .i64 keep] h (RefCrashPost h lim (wholes (endN ok (enc recs).length keep) recs)) := by
  refine CallE.fir4 (good G) fir20 rfl rfl (F73_arr ..) fun hlo => ?_
  rw [sh_ir20]
  have l0 := l
  have hplt := l.low p l.self
  have hFlow := l.low
  obtain ⟨⟨a, c, hc, hrow⟩, hF, hlow, hl, hfi⟩ := l
  obtain ⟨e, he, hle⟩ : ∃ e : Nat, endN ok (enc recs).length keep = e ∧ e ≤ (enc recs).length := ⟨_, rfl, by unfold endN; omega⟩
  have hev : (ok : Int) + min (max keep 0) (((enc recs).length : Int) - ok) = e := by unfold endN at he; omega
  rw [he]
  have hw1 : IntKind.i64.wrap (((enc recs).length : Int) - ok) = (enc recs).length - ok := wrap_i64 (by omega) (by omega)
  have hw2 : IntKind.i64.wrap ((ok : Int) + min (max keep 0) (((enc recs).length : Int) - ok)) = (e : Int) := by rw [hev]; exact wrap_i64 (by omega) (by omega)
  simp (disch := first | omega | (refine id ?_; simp only [push_cast]; done) | (refine id ?_; simp only [push_cast]; omega)) only [push_cast, Nat.reduceAdd, Nat.reduceMul, Nat.reduceSub, Nat.reduceLT, Nat.reduceEqDiff, Nat.reduceLeDiff, Int.reduceToNat, reduceCtorEq, Int.reduceLT, Int.reduceLE, Int.reduceAdd, Int.reduceSub, Int.reduceMul, Int.reduceNeg, Int.reduceEq, hc, hl, mxV_int, mnV_int]
  refine CallE.to (reflen_w G _ l0 hlim) ?_
  rintro _ _ ⟨rfl, e1⟩
  rw [e1]
  clear e1
  simp (disch := first | omega | (refine id ?_; simp only [push_cast]; done) | (refine id ?_; simp only [push_cast]; omega)) only [push_cast, Nat.reduceAdd, Nat.reduceMul, Nat.reduceSub, Nat.reduceLT, Nat.reduceEqDiff, Nat.reduceLeDiff, Int.reduceToNat, reduceCtorEq, Int.reduceLT, Int.reduceLE, Int.reduceAdd, Int.reduceSub, Int.reduceMul, Int.reduceNeg, Int.reduceEq, hc, hl, mxV_int, mnV_int, hw1, hw2]
  refine CallE.to (refnew_w G _ lim) ?_
  rintro _ h1 ⟨rfl, r1, hg1, hn1⟩
  simp (disch := first | omega | (refine id ?_; simp only [push_cast]; done) | (refine id ?_; simp only [push_cast]; omega)) only [push_cast, Nat.reduceAdd, Nat.reduceMul, Nat.reduceSub, Nat.reduceLT, Nat.reduceEqDiff, Nat.reduceLeDiff, Int.reduceToNat, reduceCtorEq, Int.reduceLT, Int.reduceLE, Int.reduceAdd, Int.reduceSub, Int.reduceMul, Int.reduceNeg, Int.reduceEq]
  refine W.loop4 (good G) (I20 h p h.next lim recs e) ?_ _ _ (I20.mk 0 e 0 _ h1 (fun b => b = h.next) rfl rfl (Nat.zero_le _) rfl (Nat.le_refl _) r1 (fun b hb => by omega) hg1)
  intro _ s1 hI
  cases hI with | mk i left iv lv h2 F2 hiv hlv hi hw hll r2 hF2 hg2 =>
  subst hiv hlv
  rw [sh_ir20_s0]
  have l2 := l0.grew hg2 fun _ _ h => h
  obtain ⟨⟨ar, cr, hc2, ⟨⟨cs, hown, hrow2⟩, hrF⟩⟩, _, hlow2, hl2, _⟩ := l2
  have hn2 := hg2.next
  have hge := enc_ge recs
  by_cases hin : ∃ r, recs[i]? = some r ∧ (r.length : Int) + 4 ≤ left
  · obtain ⟨r, hri, hfit⟩ := hin
    have hil : (i : Int) < recs.length := by have := (List.getElem?_eq_some_iff.1 hri).1; omega
    obtain ⟨ai, ci, q1, q2, q3⟩ := hrow2 i r hri
    have hes := enc_take_succ hri
    have hlt := enc_take_le recs (i + 1)
    have htk : recs.take i ++ [r] = recs.take (i + 1) := by rw [List.take_add_one, hri]; rfl
    obtain ⟨b, off, rfl, hld⟩ := hown.sl.load T_knd_23 q1
    rw [load_eq, T_knd_23] at hld
    have hx1 : IntKind.i64.wrap ((r.length : Int) + 4) = r.length + 4 := wrap_i64 (by omega) (by omega)
    have hx2 : IntKind.i64.wrap ((left : Int) - r.length) = left - r.length := wrap_i64 (by omega) (by omega)
    have hx3 : IntKind.i64.wrap ((left : Int) - r.length - 4) = left - r.length - 4 := wrap_i64 (by omega) (by omega)
    simp (disch := first | omega | (refine id ?_; simp only [push_cast]; done) | (refine id ?_; simp only [push_cast]; omega)) only [push_cast, Nat.reduceAdd, Nat.reduceMul, Nat.reduceSub, Nat.reduceLT, Nat.reduceEqDiff, Nat.reduceLeDiff, Int.reduceToNat, reduceCtorEq, Int.reduceLT, Int.reduceLE, Int.reduceAdd, Int.reduceSub, Int.reduceMul, Int.reduceNeg, Int.reduceEq, hil, hfit, Int.toNat_natCast, hc2, hl2, hld, hx1, hx2, hx3]
    refine CallE.to (refappend_w G _ r2 hlim r ai ci q2 (by omega) fun b hb => (q3 b hb).2.1) ?_
    rintro v h3 ⟨yes3, _⟩
    obtain ⟨rfl, F3, r3, g3, hF3⟩ := yes3 (by omega)
    rw [htk] at r3
    simp (disch := first | omega | (refine id ?_; simp only [push_cast]; done) | (refine id ?_; simp only [push_cast]; omega)) only [push_cast, Nat.reduceAdd, Nat.reduceMul, Nat.reduceSub, Nat.reduceLT, Nat.reduceEqDiff, Nat.reduceLeDiff, Int.reduceToNat, reduceCtorEq, Int.reduceLT, Int.reduceLE, Int.reduceAdd, Int.reduceSub, Int.reduceMul, Int.reduceNeg, Int.reduceEq]
    refine ⟨_, by omega, I20.mk (i + 1) (left - (4 + r.length)) _ _ _ F3 (by first | rfl | omega) (by omega) (by omega) ?_ (by omega) r3 (fun b hb => ?_) (hg2.tr' g3 fun b hlt hx => by have := hF2 b hx; omega)⟩
    · rw [hw, drop_cons hri, wholes, if_pos (by omega), ← htk, List.append_assoc]
      rfl
    · rcases hF3 b hb with h4 | h4
      · exact hF2 b h4
      · omega
  · have hws : wholes e recs = recs.take i := by
      rw [hw]
      cases hd : recs[i]? with
      | none => rw [List.drop_eq_nil_of_le (List.getElem?_eq_none_iff.1 hd)]; simp [wholes]
      | some r =>
        have : ¬ 4 + r.length ≤ left := fun hx => hin ⟨r, hd, by omega⟩
        rw [drop_cons hd, wholes, if_neg this, List.append_nil]
    have hor : ¬ (i : Int) < recs.length ∨ ∃ r, recs[i]? = some r ∧ (i : Int) < recs.length ∧ ¬ (r.length : Int) + 4 ≤ left := by
      by_cases hil : (i : Int) < recs.length
      · obtain ⟨r, hri⟩ : ∃ r, recs[i]? = some r := ⟨_, List.getElem?_eq_getElem (by omega)⟩
        exact .inr ⟨r, hri, hil, fun hx => hin ⟨r, hri, hx⟩⟩
      · exact .inl hil
    rw [hws]
    rcases hor with hA | ⟨r, hri, hA, hB⟩
    · simp (disch := first | omega | (refine id ?_; simp only [push_cast]; done) | (refine id ?_; simp only [push_cast]; omega)) only [push_cast, Nat.reduceAdd, Nat.reduceMul, Nat.reduceSub, Nat.reduceLT, Nat.reduceEqDiff, Nat.reduceLeDiff, Int.reduceToNat, reduceCtorEq, Int.reduceLT, Int.reduceLE, Int.reduceAdd, Int.reduceSub, Int.reduceMul, Int.reduceNeg, Int.reduceEq, hA, hc2, hl2]
      refine CallE.to (refsync_w G _ r2 hlim) ?_
      rintro v h3 ⟨rfl, r3, g3, hn3⟩
      simp (disch := first | omega | (refine id ?_; simp only [push_cast]; done) | (refine id ?_; simp only [push_cast]; omega)) only [push_cast, Nat.reduceAdd, Nat.reduceMul, Nat.reduceSub, Nat.reduceLT, Nat.reduceEqDiff, Nat.reduceLeDiff, Int.reduceToNat, reduceCtorEq, Int.reduceLT, Int.reduceLE, Int.reduceAdd, Int.reduceSub, Int.reduceMul, Int.reduceNeg, Int.reduceEq]
      exact ⟨⟨h.next, F2, rfl, r3, hF2⟩, hg2.tr' g3 fun b hlt hx => by omega⟩
    · obtain ⟨ai, ci, q1, q2, q3⟩ := hrow2 i r hri
      have hes := enc_take_succ hri
      have hlt := enc_take_le recs (i + 1)
      obtain ⟨b, off, rfl, hld⟩ := hown.sl.load T_knd_23 q1
      rw [load_eq, T_knd_23] at hld
      have hx1 : IntKind.i64.wrap ((r.length : Int) + 4) = r.length + 4 := wrap_i64 (by omega) (by omega)
      simp (disch := first | omega | (refine id ?_; simp only [push_cast]; done) | (refine id ?_; simp only [push_cast]; omega)) only [push_cast, Nat.reduceAdd, Nat.reduceMul, Nat.reduceSub, Nat.reduceLT, Nat.reduceEqDiff, Nat.reduceLeDiff, Int.reduceToNat, reduceCtorEq, Int.reduceLT, Int.reduceLE, Int.reduceAdd, Int.reduceSub, Int.reduceMul, Int.reduceNeg, Int.reduceEq, hA, hB, Int.toNat_natCast, hc2, hl2, hld, hx1]
      refine CallE.to (refsync_w G _ r2 hlim) ?_
      rintro v h3 ⟨rfl, r3, g3, hn3⟩
      simp (disch := first | omega | (refine id ?_; simp only [push_cast]; done) | (refine id ?_; simp only [push_cast]; omega)) only [push_cast, Nat.reduceAdd, Nat.reduceMul, Nat.reduceSub, Nat.reduceLT, Nat.reduceEqDiff, Nat.reduceLeDiff, Int.reduceToNat, reduceCtorEq, Int.reduceLT, Int.reduceLE, Int.reduceAdd, Int.reduceSub, Int.reduceMul, Int.reduceNeg, Int.reduceEq]
      exact ⟨⟨h.next, F2, rfl, r3, hF2⟩, hg2.tr' g3 fun b hlt hx => by omega⟩
end
end Go.Proofs.Ytohdgkmgkcoilaa

namespace Go.Proofs.Ytohdgkmgkcoilaa
open Go.RowKit Go.Ev
set_option linter.unusedVariables false
set_option maxRecDepth 100000
noncomputable section
def F48 (x0 x1 x2 x3 x4 x5 x6 x7 x8 x9 x10 x11 x12 x13 x14 x15 x16 x17 x18 x19 x20 x21 x22 x23 x24 x25 x26 x27 x28 x29 x30 x31 x32 x33 x34 x35 x36 x37 x38 x39 x40 x41 x42 x43 x44 x45 x46 x47 : Value) : VT := ⟨48, (.node (.node (.node (.node (.node (.node .nil x31 .nil) x15 (.node .nil x47 .nil)) x7 (.node (.node .nil x39 .nil) x23 .nil)) x3 (.node (.node (.node .nil x35 .nil) x19 .nil) x11 (.node (.node .nil x43 .nil) x27 .nil))) x1 (.node (.node (.node (.node .nil x33 .nil) x17 .nil) x9 (.node (.node .nil x41 .nil) x25 .nil)) x5 (.node (.node (.node .nil x37 .nil) x21 .nil) x13 (.node (.node .nil x45 .nil) x29 .nil)))) x0 (.node (.node (.node (.node (.node .nil x32 .nil) x16 .nil) x8 (.node (.node .nil x40 .nil) x24 .nil)) x4 (.node (.node (.node .nil x36 .nil) x20 .nil) x12 (.node (.node .nil x44 .nil) x28 .nil))) x2 (.node (.node (.node (.node .nil x34 .nil) x18 .nil) x10 (.node (.node .nil x42 .nil) x26 .nil)) x6 (.node (.node (.node .nil x38 .nil) x22 .nil) x14 (.node (.node .nil x46 .nil) x30 .nil)))))⟩
theorem F48_arr (x0 x1 x2 x3 x4 x5 x6 x7 x8 x9 x10 x11 x12 x13 x14 x15 x16 x17 x18 x19 x20 x21 x22 x23 x24 x25 x26 x27 x28 x29 x30 x31 x32 x33 x34 x35 x36 x37 x38 x39 x40 x41 x42 x43 x44 x45 x46 x47 : Value) : (F48 x0 x1 x2 x3 x4 x5 x6 x7 x8 x9 x10 x11 x12 x13 x14 x15 x16 x17 x18 x19 x20 x21 x22 x23 x24 x25 x26 x27 x28 x29 x30 x31 x32 x33 x34 x35 x36 x37 x38 x39 x40 x41 x42 x43 x44 x45 x46 x47).arr = ⟨[x0, x1, x2, x3, x4, x5, x6, x7, x8, x9, x10, x11, x12, x13, x14, x15, x16, x17, x18, x19, x20, x21, x22, x23, x24, x25, x26, x27, x28, x29, x30, x31, x32, x33, x34, x35, x36, x37, x38, x39, x40, x41, x42, x43, x44, x45, x46, x47]⟩ := by kernel_rfl
def F49 (x0 x1 x2 x3 x4 x5 x6 x7 x8 x9 x10 x11 x12 x13 x14 x15 x16 x17 x18 x19 x20 x21 x22 x23 x24 x25 x26 x27 x28 x29 x30 x31 x32 x33 x34 x35 x36 x37 x38 x39 x40 x41 x42 x43 x44 x45 x46 x47 x48 : Value) : VT := ⟨49, (.node (.node (.node (.node (.node (.node .nil x31 .nil) x15 (.node .nil x47 .nil)) x7 (.node (.node .nil x39 .nil) x23 .nil)) x3 (.node (.node (.node .nil x35 .nil) x19 .nil) x11 (.node (.node .nil x43 .nil) x27 .nil))) x1 (.node (.node (.node (.node .nil x33 .nil) x17 .nil) x9 (.node (.node .nil x41 .nil) x25 .nil)) x5 (.node (.node (.node .nil x37 .nil) x21 .nil) x13 (.node (.node .nil x45 .nil) x29 .nil)))) x0 (.node (.node (.node (.node (.node .nil x32 .nil) x16 (.node .nil x48 .nil)) x8 (.node (.node .nil x40 .nil) x24 .nil)) x4 (.node (.node (.node .nil x36 .nil) x20 .nil) x12 (.node (.node .nil x44 .nil) x28 .nil))) x2 (.node (.node (.node (.node .nil x34 .nil) x18 .nil) x10 (.node (.node .nil x42 .nil) x26 .nil)) x6 (.node (.node (.node .nil x38 .nil) x22 .nil) x14 (.node (.node .nil x46 .nil) x30 .nil)))))⟩
theorem F49_arr (x0 x1 x2 x3 x4 x5 x6 x7 x8 x9 x10 x11 x12 x13 x14 x15 x16 x17 x18 x19 x20 x21 x22 x23 x24 x25 x26 x27 x28 x29 x30 x31 x32 x33 x34 x35 x36 x37 x38 x39 x40 x41 x42 x43 x44 x45 x46 x47 x48 : Value) : (F49 x0 x1 x2 x3 x4 x5 x6 x7 x8 x9 x10 x11 x12 x13 x14 x15 x16 x17 x18 x19 x20 x21 x22 x23 x24 x25 x26 x27 x28 x29 x30 x31 x32 x33 x34 x35 x36 x37 x38 x39 x40 x41 x42 x43 x44 x45 x46 x47 x48).arr = ⟨[x0, x1, x2, x3, x4, x5, x6, x7, x8, x9, x10, x11, x12, x13, x14, x15, x16, x17, x18, x19, x20, x21, x22, x23, x24, x25, x26, x27, x28, x29, x30, x31, x32, x33, x34, x35, x36, x37, x38, x39, x40, x41, x42, x43, x44, x45, x46, x47, x48]⟩ := by kernel_rfl
def F55 (x0 x1 x2 x3 x4 x5 x6 x7 x8 x9 x10 x11 x12 x13 x14 x15 x16 x17 x18 x19 x20 x21 x22 x23 x24 x25 x26 x27 x28 x29 x30 x31 x32 x33 x34 x35 x36 x37 x38 x39 x40 x41 x42 x43 x44 x45 x46 x47 x48 x49 x50 x51 x52 x53 x54 : Value) : VT := ⟨55, (.node (.node (.node (.node (.node (.node .nil x31 .nil) x15 (.node .nil x47 .nil)) x7 (.node (.node .nil x39 .nil) x23 .nil)) x3 (.node (.node (.node .nil x35 .nil) x19 (.node .nil x51 .nil)) x11 (.node (.node .nil x43 .nil) x27 .nil))) x1 (.node (.node (.node (.node .nil x33 .nil) x17 (.node .nil x49 .nil)) x9 (.node (.node .nil x41 .nil) x25 .nil)) x5 (.node (.node (.node .nil x37 .nil) x21 (.node .nil x53 .nil)) x13 (.node (.node .nil x45 .nil) x29 .nil)))) x0 (.node (.node (.node (.node (.node .nil x32 .nil) x16 (.node .nil x48 .nil)) x8 (.node (.node .nil x40 .nil) x24 .nil)) x4 (.node (.node (.node .nil x36 .nil) x20 (.node .nil x52 .nil)) x12 (.node (.node .nil x44 .nil) x28 .nil))) x2 (.node (.node (.node (.node .nil x34 .nil) x18 (.node .nil x50 .nil)) x10 (.node (.node .nil x42 .nil) x26 .nil)) x6 (.node (.node (.node .nil x38 .nil) x22 (.node .nil x54 .nil)) x14 (.node (.node .nil x46 .nil) x30 .nil)))))⟩
theorem F55_arr (x0 x1 x2 x3 x4 x5 x6 x7 x8 x9 x10 x11 x12 x13 x14 x15 x16 x17 x18 x19 x20 x21 x22 x23 x24 x25 x26 x27 x28 x29 x30 x31 x32 x33 x34 x35 x36 x37 x38 x39 x40 x41 x42 x43 x44 x45 x46 x47 x48 x49 x50 x51 x52 x53 x54 : Value) : (F55 x0 x1 x2 x3 x4 x5 x6 x7 x8 x9 x10 x11 x12 x13 x14 x15 x16 x17 x18 x19 x20 x21 x22 x23 x24 x25 x26 x27 x28 x29 x30 x31 x32 x33 x34 x35 x36 x37 x38 x39 x40 x41 x42 x43 x44 x45 x46 x47 x48 x49 x50 x51 x52 x53 x54).arr = ⟨[x0, x1, x2, x3, x4, x5, x6, x7, x8, x9, x10, x11, x12, x13, x14, x15, x16, x17, x18, x19, x20, x21, x22, x23, x24, x25, x26, x27, x28, x29, x30, x31, x32, x33, x34, x35, x36, x37, x38, x39, x40, x41, x42, x43, x44, x45, x46, x47, x48, x49, x50, x51, x52, x53, x54]⟩ := by kernel_rfl
theorem F48_g4 (x0 x1 x2 x3 x4 x5 x6 x7 x8 x9 x10 x11 x12 x13 x14 x15 x16 x17 x18 x19 x20 x21 x22 x23 x24 x25 x26 x27 x28 x29 x30 x31 x32 x33 x34 x35 x36 x37 x38 x39 x40 x41 x42 x43 x44 x45 x46 x47 : Value) : (F48 x0 x1 x2 x3 x4 x5 x6 x7 x8 x9 x10 x11 x12 x13 x14 x15 x16 x17 x18 x19 x20 x21 x22 x23 x24 x25 x26 x27 x28 x29 x30 x31 x32 x33 x34 x35 x36 x37 x38 x39 x40 x41 x42 x43 x44 x45 x46 x47).get 4 = x4 := by kernel_rfl
attribute [push_cast] F48_g4
theorem F49_g0 (x0 x1 x2 x3 x4 x5 x6 x7 x8 x9 x10 x11 x12 x13 x14 x15 x16 x17 x18 x19 x20 x21 x22 x23 x24 x25 x26 x27 x28 x29 x30 x31 x32 x33 x34 x35 x36 x37 x38 x39 x40 x41 x42 x43 x44 x45 x46 x47 x48 : Value) : (F49 x0 x1 x2 x3 x4 x5 x6 x7 x8 x9 x10 x11 x12 x13 x14 x15 x16 x17 x18 x19 x20 x21 x22 x23 x24 x25 x26 x27 x28 x29 x30 x31 x32 x33 x34 x35 x36 x37 x38 x39 x40 x41 x42 x43 x44 x45 x46 x47 x48).get 0 = x0 := by kernel_rfl
attribute [push_cast] F49_g0
theorem F49_g6 (x0 x1 x2 x3 x4 x5 x6 x7 x8 x9 x10 x11 x12 x13 x14 x15 x16 x17 x18 x19 x20 x21 x22 x23 x24 x25 x26 x27 x28 x29 x30 x31 x32 x33 x34 x35 x36 x37 x38 x39 x40 x41 x42 x43 x44 x45 x46 x47 x48 : Value) : (F49 x0 x1 x2 x3 x4 x5 x6 x7 x8 x9 x10 x11 x12 x13 x14 x15 x16 x17 x18 x19 x20 x21 x22 x23 x24 x25 x26 x27 x28 x29 x30 x31 x32 x33 x34 x35 x36 x37 x38 x39 x40 x41 x42 x43 x44 x45 x46 x47 x48).get 6 = x6 := by kernel_rfl
attribute [push_cast] F49_g6
theorem F55_g8 (x0 x1 x2 x3 x4 x5 x6 x7 x8 x9 x10 x11 x12 x13 x14 x15 x16 x17 x18 x19 x20 x21 x22 x23 x24 x25 x26 x27 x28 x29 x30 x31 x32 x33 x34 x35 x36 x37 x38 x39 x40 x41 x42 x43 x44 x45 x46 x47 x48 x49 x50 x51 x52 x53 x54 : Value) : (F55 x0 x1 x2 x3 x4 x5 x6 x7 x8 x9 x10 x11 x12 x13 x14 x15 x16 x17 x18 x19 x20 x21 x22 x23 x24 x25 x26 x27 x28 x29 x30 x31 x32 x33 x34 x35 x36 x37 x38 x39 x40 x41 x42 x43 x44 x45 x46 x47 x48 x49 x50 x51 x52 x53 x54).get 8 = x8 := by kernel_rfl
attribute [push_cast] F55_g8
noncomputable def ir17_s0 : IR := (.cond (.tmp 23) (.seq (.ops [⟨(some 27), none, .take, (.move (.tmp 0)), 26⟩, ⟨(some 28), none, .take, (.move (.tmp 10)), 23⟩, ⟨(some 29), none, .call, (.call ⟨(.value (.func 21)), #[(.tmp 27), (.tmp 28)], #[26, 23]⟩), 4⟩, ⟨(some 30), none, .take, (.move (.tmp 1)), 28⟩, ⟨(some 31), none, .take, (.move (.tmp 10)), 23⟩, ⟨(some 32), none, .call, (.call ⟨(.value (.func 27)), #[(.tmp 30), (.tmp 31)], #[28, 23]⟩), 4⟩, ⟨(some 33), none, .take, (.binOp .eql 4 (.tmp 29) (.tmp 32) 4), 4⟩, ⟨(some 8), none, .take, (.assign (.tmp 33)), 4⟩]) .ret) (.seq (.ops [⟨(some 35), none, .take, (.binOp .eql 3 (.tmp 22) (.const (.int .i64 3)) 3), 4⟩, ⟨(some 34), none, .take, (.assign (.tmp 35)), 4⟩]) (.cond (.tmp 34) (.seq (.ops [⟨(some 36), none, .take, (.move (.tmp 0)), 26⟩, ⟨(some 37), none, .call, (.call ⟨(.value (.func 22)), #[(.tmp 36)], #[26]⟩), 0⟩]) (.ops [⟨(some 38), none, .take, (.move (.tmp 1)), 28⟩, ⟨(some 39), none, .call, (.call ⟨(.value (.func 28)), #[(.tmp 38)], #[28]⟩), 0⟩])) (.seq (.ops [⟨(some 41), none, .take, (.binOp .eql 3 (.tmp 22) (.const (.int .i64 4)) 3), 4⟩, ⟨(some 40), none, .take, (.assign (.tmp 41)), 4⟩]) (.cond (.tmp 40) (.seq (.ops [⟨(some 42), none, .take, (.move (.tmp 10)), 23⟩, ⟨(some 43), none, .take, (.move (.tmp 3)), 23⟩, ⟨(some 44), none, .eff, (.buildSlice 35 3 #[(0, (.tmp 42)), (1, (.const (.slice none 0 0))), (2, (.tmp 43))]), 35⟩, ⟨(some 45), none, .take, (.move (.tmp 9)), 3⟩, ⟨(some 46), none, .call, (.call ⟨(.value (.func 14)), #[(.tmp 45), (.const (.int .i64 4))], #[3, 3]⟩), 3⟩, ⟨(some 47), none, .take, (.slice 35 (.tmp 44) none (some (.tmp 46)) none), 35⟩, ⟨(some 11), none, .take, (.assign (.tmp 47)), 35⟩]) (.seq (.ops [⟨(some 48), none, .take, (.move (.tmp 0)), 26⟩, ⟨(some 49), none, .take, (.move (.tmp 11)), 35⟩, ⟨(some 50), none, .call, (.call ⟨(.value (.func 26)), #[(.tmp 48), (.tmp 49)], #[26, 35]⟩), 4⟩, ⟨(some 51), none, .take, (.move (.tmp 1)), 28⟩, ⟨(some 52), none, .take, (.move (.tmp 11)), 35⟩, ⟨(some 53), none, .call, (.call ⟨(.value (.func 29)), #[(.tmp 51), (.tmp 52)], #[28, 35]⟩), 4⟩, ⟨(some 54), none, .take, (.binOp .eql 4 (.tmp 50) (.tmp 53) 4), 4⟩, ⟨(some 8), none, .take, (.assign (.tmp 54)), 4⟩]) .ret)) .skip)))))
noncomputable def ir17_s1 : IR := (.seq (.ops [⟨(some 8), none, .take, (.assign (.const (.bool true))), 4⟩]) .ret)
noncomputable def ir18_s0 : IR := (.seq (.seq (.ops [⟨(some 31), none, .take, (.move (.tmp 7)), 3⟩, ⟨(some 32), none, .take, (.move (.tmp 5)), 35⟩, ⟨(some 33), none, .take, (.call ⟨(.builtin .len), #[(.tmp 32)], #[35]⟩), 3⟩, ⟨(some 34), none, .take, (.binOp .lss 3 (.tmp 31) (.tmp 33) 3), 4⟩]) (.cond (.tmp 34) .skip (.exit 0))) (.seq (.block 1 (.seq (.plan (.take 0 false ⟨(some 37), none, .take, (.move (.tmp 5)), 35⟩ (.take 1 false ⟨(some 38), none, .take, (.move (.tmp 7)), 3⟩ (.take 2 false ⟨(some 39), none, .take, (.indexAddr 35 (.tmp 37) (.tmp 38)), 0⟩ (.take 3 true ⟨(some 40), none, .take, (.load 23 (.tmp 39)), 23⟩ (.take 4 true ⟨(some 41), none, .take, (.convert 23 9 (.tmp 40)), 9⟩ (.take 5 false ⟨(some 42), none, .take, (.move (.tmp 6)), 35⟩ (.take 6 false ⟨(some 43), none, .take, (.move (.tmp 7)), 3⟩ (.take 7 false ⟨(some 44), none, .take, (.indexAddr 35 (.tmp 42) (.tmp 43)), 0⟩ (.take 8 true ⟨(some 45), none, .take, (.load 23 (.tmp 44)), 23⟩ (.take 9 true ⟨(some 46), none, .take, (.convert 23 9 (.tmp 45)), 9⟩ (.take 10 false ⟨(some 47), none, .take, (.binOp .neq 9 (.tmp 41) (.tmp 46) 9), 4⟩ .fin)))))))))))) (.cond (.tmp 47) (.seq (.ops [⟨(some 4), none, .take, (.assign (.const (.bool false))), 4⟩]) .ret) .skip))) (.ops [⟨(some 35), none, .take, (.move (.tmp 7)), 3⟩, ⟨(some 36), none, .take, (.binOp .add 3 (.tmp 35) (.const (.int .i64 1)) 3), 3⟩, ⟨(some 7), none, .take, (.assign (.tmp 36)), 3⟩])))
noncomputable def ir18_s1 : IR := (.seq (.ops [⟨(some 4), none, .take, (.assign (.const (.bool true))), 4⟩]) .ret)
theorem sh_ir13 (G : Nat) (h : Heap) (R : Value → Heap → Prop) : vc3 (pp G) none ir13 ⟨(F49 undef undef undef undef undef undef undef undef undef undef undef undef undef undef undef undef undef undef undef undef undef undef undef undef undef undef undef undef undef undef undef undef undef undef undef undef undef undef undef undef undef undef undef undef undef undef undef undef undef), [], h⟩ (finR Try.prog [(.tmp 0)] R) = (oT (some (.bool false)) none h (@kk ⟨(fun v1 h2 => CallV (pp G) (.func (.func 15) #[] #[]) [(.int .i64 20)] h2 (@kk ⟨(fun v3 h4 => oT (some v3) none h4 (@kk ⟨(fun v5 h6 => oT (some v5) none h6 (@kk ⟨(fun v7 h8 => oT (binPure Try.prog .eql 26 (.tmp 6) (.const (.pointer none)) v7 (.pointer none)) none h8 (@kk ⟨(fun v9 h10 => oT (some v9) none h10 (@kk ⟨(fun v11 h12 => gT v11 false (some v5) none h12 (@kk ⟨(fun v13 h14 => gC (pp G) v11 false (.func (.func 25) #[] #[]) [v13] h14 (@kk ⟨(fun v15 h16 => gT v11 false (binPure Try.prog .neq 3 (.tmp 10) (.const (.int .i64 0)) v15 (.int .i64 0)) none h16 (@kk ⟨(fun v17 h18 => oT (pickV v11 (.bool true) v17) none h18 (@kk ⟨(fun v19 h20 => vcond v19 (@kb ⟨(oT (some (.bool false)) none h20 (@kk ⟨(fun v21 h22 => R v21 h22)⟩))⟩) (@kb ⟨(oP (some v5) h20 (@kk ⟨(fun v23 _ => oP (some v5) h20 (@kk ⟨(fun v24 _ => ((oE (bsE (slT Try.prog 23) 3 [(0, (.int .u8 97)), (1, (.int .u8 98)), (2, (.int .u8 99))] h20) (@kk ⟨(fun v25 h26 => keptK (keptP [] h26 []) (@kb ⟨(((oE (cvE Try.prog 23 23 v25 h26) (@kk ⟨(fun v27 h28 => keptK (keptP [1] h28 []) (@kb ⟨(((CallV (pp G) (.func (.func 21) #[] #[]) [v23, v27] h28 (@kk ⟨(fun v29 h30 => keptK (keptP [0, 2] h30 []) (@kb ⟨(oE (msE (mkT Try.prog 23) (.int .i64 10) (.int .i64 10) h30) (@kk ⟨(fun v31 h32 => keptK (keptP [] h32 []) (@kb ⟨(CallV (pp G) (.func (.func 21) #[] #[]) [v24, v31] h32 (@kk ⟨(fun v33 h34 => keptK (keptP [4, 5, 3] h34 []) (@kb ⟨(oP (some v29) h34 (@kk ⟨(fun v35 _ => oP (some v33) h34 (@kk ⟨(fun v36 _ => oT (some v5) none h34 (@kk ⟨(fun v37 h38 => CallV (pp G) (.func (.func 23) #[] #[]) [v37] h38 (@kk ⟨(fun v39 h40 => oT (some v39) none h40 (@kk ⟨(fun v41 h42 => oT (some v35) none h42 (@kk ⟨(fun v43 h44 => oT (some v43) none h44 (@kk ⟨(fun v45 h46 => gT v45 true (some v36) none h46 (@kk ⟨(fun v47 h48 => gT v45 true (unV Try.prog .not v47) none h48 (@kk ⟨(fun v49 h50 => oT (pickV v45 v49 (.bool false)) none h50 (@kk ⟨(fun v51 h52 => oT (some v51) none h52 (@kk ⟨(fun v53 h54 => gT v53 true (some v5) none h54 (@kk ⟨(fun v55 h56 => gC (pp G) v53 true (.func (.func 25) #[] #[]) [v55] h56 (@kk ⟨(fun v57 h58 => gT v53 true (binPure Try.prog .eql 3 (.tmp 29) (.const (.int .i64 7)) v57 (.int .i64 7)) none h58 (@kk ⟨(fun v59 h60 => oT (pickV v53 v59 (.bool false)) none h60 (@kk ⟨(fun v61 h62 => oT (some v61) none h62 (@kk ⟨(fun v63 h64 => gT v63 true (some v5) none h64 (@kk ⟨(fun v65 h66 => gC (pp G) v63 true (.func (.func 24) #[] #[]) [v65] h66 (@kk ⟨(fun v67 h68 => gT v63 true (binPure Try.prog .eql 3 (.tmp 34) (.const (.int .i64 0)) v67 (.int .i64 0)) none h68 (@kk ⟨(fun v69 h70 => oT (pickV v63 v69 (.bool false)) none h70 (@kk ⟨(fun v71 h72 => oT (some v71) none h72 (@kk ⟨(fun v73 h74 => gT v73 true (some v41) none h74 (@kk ⟨(fun v75 h76 => gT v73 true (lnB (lnT Try.prog 35) v75) none h76 (@kk ⟨(fun v77 h78 => gT v73 true (binPure Try.prog .eql 3 (.tmp 39) (.const (.int .i64 1)) v77 (.int .i64 1)) none h78 (@kk ⟨(fun v79 h80 => oT (pickV v73 v79 (.bool false)) none h80 (@kk ⟨(fun v81 h82 => oT (some v81) none h82 (@kk ⟨(fun v83 h84 => gT v83 true (some v41) none h84 (@kk ⟨(fun v85 h86 => gT v83 true (iaV (esz Try.prog 35) v85 (.int .i64 0)) none h86 (@kk ⟨(fun v87 h88 => gT v83 true (evLoad Try.prog 23 v87 h88) none h88 (@kk ⟨(fun v89 h90 => gT v83 true (cvV Try.prog 23 9 v89 h90) none h90 (@kk ⟨(fun v91 h92 => gT v83 true (binPure Try.prog .eql 9 (.tmp 46) (.const (.string (Tx [97, 98, 99]))) v91 (.string (Tx [97, 98, 99]))) none h92 (@kk ⟨(fun v93 h94 => oT (pickV v83 v93 (.bool false)) none h94 (@kk ⟨(fun v95 h96 => oT (some v95) none h96 (@kk ⟨(fun v97 h98 => R v97 h98)⟩))⟩))⟩))⟩))⟩))⟩))⟩))⟩))⟩))⟩))⟩))⟩))⟩))⟩))⟩))⟩))⟩))⟩))⟩))⟩))⟩))⟩))⟩))⟩))⟩))⟩))⟩))⟩))⟩))⟩))⟩))⟩))⟩))⟩))⟩))⟩))⟩))⟩))⟩)) ∧ (oE (msE (mkT Try.prog 23) (.int .i64 10) (.int .i64 10) h28) (@kk ⟨(fun v99 h100 => keptK (keptP [] h100 []) (@kb ⟨(CallV (pp G) (.func (.func 21) #[] #[]) [v23, v27] h100 (@kk ⟨(fun v101 h102 => keptK (keptP [0, 2] h102 []) (@kb ⟨(CallV (pp G) (.func (.func 21) #[] #[]) [v24, v99] h102 (@kk ⟨(fun v103 h104 => keptK (keptP [4, 5, 3] h104 []) (@kb ⟨(oP (some v101) h104 (@kk ⟨(fun v105 _ => oP (some v103) h104 (@kk ⟨(fun v106 _ => oT (some v5) none h104 (@kk ⟨(fun v107 h108 => CallV (pp G) (.func (.func 23) #[] #[]) [v107] h108 (@kk ⟨(fun v109 h110 => oT (some v109) none h110 (@kk ⟨(fun v111 h112 => oT (some v105) none h112 (@kk ⟨(fun v113 h114 => oT (some v113) none h114 (@kk ⟨(fun v115 h116 => gT v115 true (some v106) none h116 (@kk ⟨(fun v117 h118 => gT v115 true (unV Try.prog .not v117) none h118 (@kk ⟨(fun v119 h120 => oT (pickV v115 v119 (.bool false)) none h120 (@kk ⟨(fun v121 h122 => oT (some v121) none h122 (@kk ⟨(fun v123 h124 => gT v123 true (some v5) none h124 (@kk ⟨(fun v125 h126 => gC (pp G) v123 true (.func (.func 25) #[] #[]) [v125] h126 (@kk ⟨(fun v127 h128 => gT v123 true (binPure Try.prog .eql 3 (.tmp 29) (.const (.int .i64 7)) v127 (.int .i64 7)) none h128 (@kk ⟨(fun v129 h130 => oT (pickV v123 v129 (.bool false)) none h130 (@kk ⟨(fun v131 h132 => oT (some v131) none h132 (@kk ⟨(fun v133 h134 => gT v133 true (some v5) none h134 (@kk ⟨(fun v135 h136 => gC (pp G) v133 true (.func (.func 24) #[] #[]) [v135] h136 (@kk ⟨(fun v137 h138 => gT v133 true (binPure Try.prog .eql 3 (.tmp 34) (.const (.int .i64 0)) v137 (.int .i64 0)) none h138 (@kk ⟨(fun v139 h140 => oT (pickV v133 v139 (.bool false)) none h140 (@kk ⟨(fun v141 h142 => oT (some v141) none h142 (@kk ⟨(fun v143 h144 => gT v143 true (some v111) none h144 (@kk ⟨(fun v145 h146 => gT v143 true (lnB (lnT Try.prog 35) v145) none h146 (@kk ⟨(fun v147 h148 => gT v143 true (binPure Try.prog .eql 3 (.tmp 39) (.const (.int .i64 1)) v147 (.int .i64 1)) none h148 (@kk ⟨(fun v149 h150 => oT (pickV v143 v149 (.bool false)) none h150 (@kk ⟨(fun v151 h152 => oT (some v151) none h152 (@kk ⟨(fun v153 h154 => gT v153 true (some v111) none h154 (@kk ⟨(fun v155 h156 => gT v153 true (iaV (esz Try.prog 35) v155 (.int .i64 0)) none h156 (@kk ⟨(fun v157 h158 => gT v153 true (evLoad Try.prog 23 v157 h158) none h158 (@kk ⟨(fun v159 h160 => gT v153 true (cvV Try.prog 23 9 v159 h160) none h160 (@kk ⟨(fun v161 h162 => gT v153 true (binPure Try.prog .eql 9 (.tmp 46) (.const (.string (Tx [97, 98, 99]))) v161 (.string (Tx [97, 98, 99]))) none h162 (@kk ⟨(fun v163 h164 => oT (pickV v153 v163 (.bool false)) none h164 (@kk ⟨(fun v165 h166 => oT (some v165) none h166 (@kk ⟨(fun v167 h168 => R v167 h168)⟩))⟩))⟩))⟩))⟩))⟩))⟩))⟩))⟩))⟩))⟩))⟩))⟩))⟩))⟩))⟩))⟩))⟩))⟩))⟩))⟩))⟩))⟩))⟩))⟩))⟩))⟩))⟩))⟩))⟩))⟩))⟩))⟩))⟩))⟩))⟩))⟩))⟩))⟩))))⟩))⟩)) ∧ (oE (msE (mkT Try.prog 23) (.int .i64 10) (.int .i64 10) h26) (@kk ⟨(fun v169 h170 => keptK (keptP [] h170 []) (@kb ⟨(oE (cvE Try.prog 23 23 v25 h170) (@kk ⟨(fun v171 h172 => keptK (keptP [1] h172 []) (@kb ⟨(CallV (pp G) (.func (.func 21) #[] #[]) [v23, v171] h172 (@kk ⟨(fun v173 h174 => keptK (keptP [0, 2] h174 []) (@kb ⟨(CallV (pp G) (.func (.func 21) #[] #[]) [v24, v169] h174 (@kk ⟨(fun v175 h176 => keptK (keptP [4, 5, 3] h176 []) (@kb ⟨(oP (some v173) h176 (@kk ⟨(fun v177 _ => oP (some v175) h176 (@kk ⟨(fun v178 _ => oT (some v5) none h176 (@kk ⟨(fun v179 h180 => CallV (pp G) (.func (.func 23) #[] #[]) [v179] h180 (@kk ⟨(fun v181 h182 => oT (some v181) none h182 (@kk ⟨(fun v183 h184 => oT (some v177) none h184 (@kk ⟨(fun v185 h186 => oT (some v185) none h186 (@kk ⟨(fun v187 h188 => gT v187 true (some v178) none h188 (@kk ⟨(fun v189 h190 => gT v187 true (unV Try.prog .not v189) none h190 (@kk ⟨(fun v191 h192 => oT (pickV v187 v191 (.bool false)) none h192 (@kk ⟨(fun v193 h194 => oT (some v193) none h194 (@kk ⟨(fun v195 h196 => gT v195 true (some v5) none h196 (@kk ⟨(fun v197 h198 => gC (pp G) v195 true (.func (.func 25) #[] #[]) [v197] h198 (@kk ⟨(fun v199 h200 => gT v195 true (binPure Try.prog .eql 3 (.tmp 29) (.const (.int .i64 7)) v199 (.int .i64 7)) none h200 (@kk ⟨(fun v201 h202 => oT (pickV v195 v201 (.bool false)) none h202 (@kk ⟨(fun v203 h204 => oT (some v203) none h204 (@kk ⟨(fun v205 h206 => gT v205 true (some v5) none h206 (@kk ⟨(fun v207 h208 => gC (pp G) v205 true (.func (.func 24) #[] #[]) [v207] h208 (@kk ⟨(fun v209 h210 => gT v205 true (binPure Try.prog .eql 3 (.tmp 34) (.const (.int .i64 0)) v209 (.int .i64 0)) none h210 (@kk ⟨(fun v211 h212 => oT (pickV v205 v211 (.bool false)) none h212 (@kk ⟨(fun v213 h214 => oT (some v213) none h214 (@kk ⟨(fun v215 h216 => gT v215 true (some v183) none h216 (@kk ⟨(fun v217 h218 => gT v215 true (lnB (lnT Try.prog 35) v217) none h218 (@kk ⟨(fun v219 h220 => gT v215 true (binPure Try.prog .eql 3 (.tmp 39) (.const (.int .i64 1)) v219 (.int .i64 1)) none h220 (@kk ⟨(fun v221 h222 => oT (pickV v215 v221 (.bool false)) none h222 (@kk ⟨(fun v223 h224 => oT (some v223) none h224 (@kk ⟨(fun v225 h226 => gT v225 true (some v183) none h226 (@kk ⟨(fun v227 h228 => gT v225 true (iaV (esz Try.prog 35) v227 (.int .i64 0)) none h228 (@kk ⟨(fun v229 h230 => gT v225 true (evLoad Try.prog 23 v229 h230) none h230 (@kk ⟨(fun v231 h232 => gT v225 true (cvV Try.prog 23 9 v231 h232) none h232 (@kk ⟨(fun v233 h234 => gT v225 true (binPure Try.prog .eql 9 (.tmp 46) (.const (.string (Tx [97, 98, 99]))) v233 (.string (Tx [97, 98, 99]))) none h234 (@kk ⟨(fun v235 h236 => oT (pickV v225 v235 (.bool false)) none h236 (@kk ⟨(fun v237 h238 => oT (some v237) none h238 (@kk ⟨(fun v239 h240 => R v239 h240)⟩))⟩))⟩))⟩))⟩))⟩))⟩))⟩))⟩))⟩))⟩))⟩))⟩))⟩))⟩))⟩))⟩))⟩))⟩))⟩))⟩))⟩))⟩))⟩))⟩))⟩))⟩))⟩))⟩))⟩))⟩))⟩))⟩))⟩))⟩))⟩))⟩))⟩))⟩))⟩))⟩))))⟩))⟩)) ∧ (oE (msE (mkT Try.prog 23) (.int .i64 10) (.int .i64 10) h20) (@kk ⟨(fun v241 h242 => keptK (keptP [] h242 []) (@kb ⟨(oE (bsE (slT Try.prog 23) 3 [(0, (.int .u8 97)), (1, (.int .u8 98)), (2, (.int .u8 99))] h242) (@kk ⟨(fun v243 h244 => keptK (keptP [] h244 []) (@kb ⟨(oE (cvE Try.prog 23 23 v243 h244) (@kk ⟨(fun v245 h246 => keptK (keptP [1] h246 []) (@kb ⟨(CallV (pp G) (.func (.func 21) #[] #[]) [v23, v245] h246 (@kk ⟨(fun v247 h248 => keptK (keptP [0, 2] h248 []) (@kb ⟨(CallV (pp G) (.func (.func 21) #[] #[]) [v24, v241] h248 (@kk ⟨(fun v249 h250 => keptK (keptP [4, 5, 3] h250 []) (@kb ⟨(oP (some v247) h250 (@kk ⟨(fun v251 _ => oP (some v249) h250 (@kk ⟨(fun v252 _ => oT (some v5) none h250 (@kk ⟨(fun v253 h254 => CallV (pp G) (.func (.func 23) #[] #[]) [v253] h254 (@kk ⟨(fun v255 h256 => oT (some v255) none h256 (@kk ⟨(fun v257 h258 => oT (some v251) none h258 (@kk ⟨(fun v259 h260 => oT (some v259) none h260 (@kk ⟨(fun v261 h262 => gT v261 true (some v252) none h262 (@kk ⟨(fun v263 h264 => gT v261 true (unV Try.prog .not v263) none h264 (@kk ⟨(fun v265 h266 => oT (pickV v261 v265 (.bool false)) none h266 (@kk ⟨(fun v267 h268 => oT (some v267) none h268 (@kk ⟨(fun v269 h270 => gT v269 true (some v5) none h270 (@kk ⟨(fun v271 h272 => gC (pp G) v269 true (.func (.func 25) #[] #[]) [v271] h272 (@kk ⟨(fun v273 h274 => gT v269 true (binPure Try.prog .eql 3 (.tmp 29) (.const (.int .i64 7)) v273 (.int .i64 7)) none h274 (@kk ⟨(fun v275 h276 => oT (pickV v269 v275 (.bool false)) none h276 (@kk ⟨(fun v277 h278 => oT (some v277) none h278 (@kk ⟨(fun v279 h280 => gT v279 true (some v5) none h280 (@kk ⟨(fun v281 h282 => gC (pp G) v279 true (.func (.func 24) #[] #[]) [v281] h282 (@kk ⟨(fun v283 h284 => gT v279 true (binPure Try.prog .eql 3 (.tmp 34) (.const (.int .i64 0)) v283 (.int .i64 0)) none h284 (@kk ⟨(fun v285 h286 => oT (pickV v279 v285 (.bool false)) none h286 (@kk ⟨(fun v287 h288 => oT (some v287) none h288 (@kk ⟨(fun v289 h290 => gT v289 true (some v257) none h290 (@kk ⟨(fun v291 h292 => gT v289 true (lnB (lnT Try.prog 35) v291) none h292 (@kk ⟨(fun v293 h294 => gT v289 true (binPure Try.prog .eql 3 (.tmp 39) (.const (.int .i64 1)) v293 (.int .i64 1)) none h294 (@kk ⟨(fun v295 h296 => oT (pickV v289 v295 (.bool false)) none h296 (@kk ⟨(fun v297 h298 => oT (some v297) none h298 (@kk ⟨(fun v299 h300 => gT v299 true (some v257) none h300 (@kk ⟨(fun v301 h302 => gT v299 true (iaV (esz Try.prog 35) v301 (.int .i64 0)) none h302 (@kk ⟨(fun v303 h304 => gT v299 true (evLoad Try.prog 23 v303 h304) none h304 (@kk ⟨(fun v305 h306 => gT v299 true (cvV Try.prog 23 9 v305 h306) none h306 (@kk ⟨(fun v307 h308 => gT v299 true (binPure Try.prog .eql 9 (.tmp 46) (.const (.string (Tx [97, 98, 99]))) v307 (.string (Tx [97, 98, 99]))) none h308 (@kk ⟨(fun v309 h310 => oT (pickV v299 v309 (.bool false)) none h310 (@kk ⟨(fun v311 h312 => oT (some v311) none h312 (@kk ⟨(fun v313 h314 => R v313 h314)⟩))⟩))⟩))⟩))⟩))⟩))⟩))⟩))⟩))⟩))⟩))⟩))⟩))⟩))⟩))⟩))⟩))⟩))⟩))⟩))⟩))⟩))⟩))⟩))⟩))⟩))⟩))⟩))⟩))⟩))⟩))⟩))⟩))⟩))⟩))⟩))⟩))⟩))⟩))⟩))⟩))⟩))⟩))))⟩))⟩))⟩))⟩))⟩))⟩))⟩))⟩))⟩))⟩))⟩))⟩))⟩)) := by kernel_rfl
theorem sh_ir17 (G : Nat) (h : Heap) (a0 a1 a2 a3 : Value) (R : Value → Heap → Prop) : vc3 (pp G) none ir17 ⟨(F55 a0 a1 a2 a3 undef undef undef undef undef undef undef undef undef undef undef undef undef undef undef undef undef undef undef undef undef undef undef undef undef undef undef undef undef undef undef undef undef undef undef undef undef undef undef undef undef undef undef undef undef undef undef undef undef undef undef), [], h⟩ (finR Try.prog [(.tmp 8)] R) = (oT (some (.bool false)) none h (@kk ⟨(fun v1 h2 => oT (some a2) none h2 (@kk ⟨(fun v3 h4 => oT (binPure Try.prog .quo 3 (.tmp 12) (.const (.int .i64 6)) v3 (.int .i64 6)) none h4 (@kk ⟨(fun v5 h6 => oT (some v5) none h6 (@kk ⟨(fun v7 h8 => oT (some a3) none h8 (@kk ⟨(fun v9 h10 => oT (some v7) none h10 (@kk ⟨(fun v11 h12 => oT (some a3) none h12 (@kk ⟨(fun v13 h14 => oT (lnB (lnT Try.prog 23) v13) none h14 (@kk ⟨(fun v15 h16 => oT (binPure Try.prog .add 3 (.tmp 17) (.const (.int .i64 1)) v15 (.int .i64 1)) none h16 (@kk ⟨(fun v17 h18 => CallV (pp G) (.func (.func 14) #[] #[]) [v11, v17] h18 (@kk ⟨(fun v19 h20 => oT (slV Try.prog 23 v9 none (some v19) none h20) (tailV Try.prog 23 v9 none (some v19) none h20) h20 (@kk ⟨(fun v21 h22 => oT (some v21) none h22 (@kk ⟨(fun v23 h24 => oT (some a2) none h24 (@kk ⟨(fun v25 h26 => CallV (pp G) (.func (.func 14) #[] #[]) [v25, (.int .i64 6)] h26 (@kk ⟨(fun v27 h28 => oT (binPure Try.prog .eql 3 (.tmp 22) (.const (.int .i64 0)) v27 (.int .i64 0)) none h28 (@kk ⟨(fun v29 h30 => oT (some v29) none h30 (@kk ⟨(fun v31 h32 => vcond v31 (@kb ⟨(vc3 (pp G) none ir17_s0 ⟨(F55 a0 a1 a2 a3 undef undef undef undef v1 v7 v23 undef v3 v5 v9 v11 v13 v15 v17 v19 v21 v25 v27 v31 v29 undef undef undef undef undef undef undef undef undef undef undef undef undef undef undef undef undef undef undef undef undef undef undef undef undef undef undef undef undef undef), [], h32⟩ (@kR ⟨(outR3 0 (thenR3 (fun s1 => vc3 (pp G) none ir17_s1 s1 (@kR ⟨(finR Try.prog [(.tmp 8)] R)⟩)) (finR Try.prog [(.tmp 8)] R)))⟩))⟩) (@kb ⟨(oT (binPure Try.prog .eql 3 (.tmp 22) (.const (.int .i64 1)) v27 (.int .i64 1)) none h32 (@kk ⟨(fun v33 h34 => oT (some v33) none h34 (@kk ⟨(fun v35 h36 => vcond v35 (@kb ⟨(vc3 (pp G) none ir17_s0 ⟨(F55 a0 a1 a2 a3 undef undef undef undef v1 v7 v23 undef v3 v5 v9 v11 v13 v15 v17 v19 v21 v25 v27 v35 v29 v33 undef undef undef undef undef undef undef undef undef undef undef undef undef undef undef undef undef undef undef undef undef undef undef undef undef undef undef undef undef), [], h36⟩ (@kR ⟨(outR3 0 (thenR3 (fun s1 => vc3 (pp G) none ir17_s1 s1 (@kR ⟨(finR Try.prog [(.tmp 8)] R)⟩)) (finR Try.prog [(.tmp 8)] R)))⟩))⟩) (@kb ⟨(oT (binPure Try.prog .eql 3 (.tmp 22) (.const (.int .i64 2)) v27 (.int .i64 2)) none h36 (@kk ⟨(fun v37 h38 => oT (some v37) none h38 (@kk ⟨(fun v39 h40 => vc3 (pp G) none ir17_s0 ⟨(F55 a0 a1 a2 a3 undef undef undef undef v1 v7 v23 undef v3 v5 v9 v11 v13 v15 v17 v19 v21 v25 v27 v39 v29 v33 v37 undef undef undef undef undef undef undef undef undef undef undef undef undef undef undef undef undef undef undef undef undef undef undef undef undef undef undef undef), [], h40⟩ (@kR ⟨(outR3 0 (thenR3 (fun s1 => vc3 (pp G) none ir17_s1 s1 (@kR ⟨(finR Try.prog [(.tmp 8)] R)⟩)) (finR Try.prog [(.tmp 8)] R)))⟩))⟩))⟩))⟩))⟩))⟩))⟩))⟩))⟩))⟩))⟩))⟩))⟩))⟩))⟩))⟩))⟩))⟩))⟩))⟩))⟩))⟩))⟩)) := by kernel_rfl
theorem sh_ir18 (G : Nat) (h : Heap) (a0 a1 : Value) (R : Value → Heap → Prop) : vc3 (pp G) none ir18 ⟨(F48 a0 a1 undef undef undef undef undef undef undef undef undef undef undef undef undef undef undef undef undef undef undef undef undef undef undef undef undef undef undef undef undef undef undef undef undef undef undef undef undef undef undef undef undef undef undef undef undef undef), [], h⟩ (finR Try.prog [(.tmp 4)] R) = (oT (some (.bool false)) none h (@kk ⟨(fun v1 h2 => oT (some a0) none h2 (@kk ⟨(fun v3 h4 => CallV (pp G) (.func (.func 23) #[] #[]) [v3] h4 (@kk ⟨(fun v5 h6 => oT (some a1) none h6 (@kk ⟨(fun v7 h8 => CallV (pp G) (.func (.func 30) #[] #[]) [v7] h8 (@kk ⟨(fun v9 h10 => oT (some v5) none h10 (@kk ⟨(fun v11 h12 => oT (some v9) none h12 (@kk ⟨(fun v13 h14 => oT (some v11) none h14 (@kk ⟨(fun v15 h16 => oT (lnB (lnT Try.prog 35) v15) none h16 (@kk ⟨(fun v17 h18 => oT (some v13) none h18 (@kk ⟨(fun v19 h20 => oT (lnB (lnT Try.prog 35) v19) none h20 (@kk ⟨(fun v21 h22 => oT (binPure Try.prog .neq 3 (.tmp 13) (.tmp 15) v17 v21) none h22 (@kk ⟨(fun v23 h24 => oT (some v23) none h24 (@kk ⟨(fun v25 h26 => gT v25 false (some a0) none h26 (@kk ⟨(fun v27 h28 => gC (pp G) v25 false (.func (.func 25) #[] #[]) [v27] h28 (@kk ⟨(fun v29 h30 => gT v25 false (some a1) none h30 (@kk ⟨(fun v31 h32 => gC (pp G) v25 false (.func (.func 31) #[] #[]) [v31] h32 (@kk ⟨(fun v33 h34 => gT v25 false (binPure Try.prog .neq 3 (.tmp 19) (.tmp 21) v29 v33) none h34 (@kk ⟨(fun v35 h36 => oT (pickV v25 (.bool true) v35) none h36 (@kk ⟨(fun v37 h38 => oT (some v37) none h38 (@kk ⟨(fun v39 h40 => gT v39 false (some a0) none h40 (@kk ⟨(fun v41 h42 => gC (pp G) v39 false (.func (.func 24) #[] #[]) [v41] h42 (@kk ⟨(fun v43 h44 => gT v39 false (some a1) none h44 (@kk ⟨(fun v45 h46 => gC (pp G) v39 false (.func (.func 32) #[] #[]) [v45] h46 (@kk ⟨(fun v47 h48 => gT v39 false (binPure Try.prog .neq 3 (.tmp 26) (.tmp 28) v43 v47) none h48 (@kk ⟨(fun v49 h50 => oT (pickV v39 (.bool true) v49) none h50 (@kk ⟨(fun v51 h52 => vcond v51 (@kb ⟨(oT (some (.bool false)) none h52 (@kk ⟨(fun v53 h54 => R v53 h54)⟩))⟩) (@kb ⟨(oT (some (.int .i64 0)) none h52 (@kk ⟨(fun v55 h56 => W (pp G) none (.loop ir18_s0) ⟨(F48 a0 a1 undef undef v1 v11 v13 v55 v3 v5 v7 v9 v15 v17 v19 v21 v23 v25 v27 v29 v31 v33 v35 v37 v39 v41 v43 v45 v47 v49 v51 undef undef undef undef undef undef undef undef undef undef undef undef undef undef undef undef undef), [], h56⟩ (@kR ⟨(outR3 0 (thenR3 (fun s1 => vc3 (pp G) none ir18_s1 s1 (@kR ⟨(finR Try.prog [(.tmp 4)] R)⟩)) (finR Try.prog [(.tmp 4)] R)))⟩))⟩))⟩))⟩))⟩))⟩))⟩))⟩))⟩))⟩))⟩))⟩))⟩))⟩))⟩))⟩))⟩))⟩))⟩))⟩))⟩))⟩))⟩))⟩))⟩))⟩))⟩))⟩))⟩)) := by kernel_rfl
theorem sh_ir17_s0 (G : Nat) (ro : Option Nat) (df : List Nat) (h : Heap) (x0 x1 x2 x3 x4 x5 x6 x7 x8 x9 x10 x11 x12 x13 x14 x15 x16 x17 x18 x19 x20 x21 x22 x23 x24 x25 x26 x27 x28 x29 x30 x31 x32 x33 x34 x35 x36 x37 x38 x39 x40 x41 x42 x43 x44 x45 x46 x47 x48 x49 x50 x51 x52 x53 x54 : Value) (R : XExit → S → Prop) : vc3 (pp G) ro ir17_s0 ⟨(F55 x0 x1 x2 x3 x4 x5 x6 x7 x8 x9 x10 x11 x12 x13 x14 x15 x16 x17 x18 x19 x20 x21 x22 x23 x24 x25 x26 x27 x28 x29 x30 x31 x32 x33 x34 x35 x36 x37 x38 x39 x40 x41 x42 x43 x44 x45 x46 x47 x48 x49 x50 x51 x52 x53 x54), df, h⟩ R = (vcond x23 (@kb ⟨(oT (some x0) none h (@kk ⟨(fun v1 h2 => oT (some x10) none h2 (@kk ⟨(fun v3 h4 => CallV (pp G) (.func (.func 21) #[] #[]) [v1, v3] h4 (@kk ⟨(fun v5 h6 => oT (some x1) none h6 (@kk ⟨(fun v7 h8 => oT (some x10) none h8 (@kk ⟨(fun v9 h10 => CallV (pp G) (.func (.func 27) #[] #[]) [v7, v9] h10 (@kk ⟨(fun v11 h12 => oT (binPure Try.prog .eql 4 (.tmp 29) (.tmp 32) v5 v11) none h12 (@kk ⟨(fun v13 h14 => oT (some v13) none h14 (@kk ⟨(fun v15 h16 => R .ret ⟨(F55 x0 x1 x2 x3 x4 x5 x6 x7 v15 x9 x10 x11 x12 x13 x14 x15 x16 x17 x18 x19 x20 x21 x22 x23 x24 x25 x26 v1 v3 v5 v7 v9 v11 v13 x34 x35 x36 x37 x38 x39 x40 x41 x42 x43 x44 x45 x46 x47 x48 x49 x50 x51 x52 x53 x54), df, h16⟩)⟩))⟩))⟩))⟩))⟩))⟩))⟩))⟩))⟩) (@kb ⟨(oT (binPure Try.prog .eql 3 (.tmp 22) (.const (.int .i64 3)) x22 (.int .i64 3)) none h (@kk ⟨(fun v17 h18 => oT (some v17) none h18 (@kk ⟨(fun v19 h20 => vcond v19 (@kb ⟨(oT (some x0) none h20 (@kk ⟨(fun v21 h22 => CallV (pp G) (.func (.func 22) #[] #[]) [v21] h22 (@kk ⟨(fun v23 h24 => oT (some x1) none h24 (@kk ⟨(fun v25 h26 => CallV (pp G) (.func (.func 28) #[] #[]) [v25] h26 (@kk ⟨(fun v27 h28 => R .normal ⟨(F55 x0 x1 x2 x3 x4 x5 x6 x7 x8 x9 x10 x11 x12 x13 x14 x15 x16 x17 x18 x19 x20 x21 x22 x23 x24 x25 x26 x27 x28 x29 x30 x31 x32 x33 v19 v17 v21 v23 v25 v27 x40 x41 x42 x43 x44 x45 x46 x47 x48 x49 x50 x51 x52 x53 x54), df, h28⟩)⟩))⟩))⟩))⟩))⟩) (@kb ⟨(oT (binPure Try.prog .eql 3 (.tmp 22) (.const (.int .i64 4)) x22 (.int .i64 4)) none h20 (@kk ⟨(fun v29 h30 => oT (some v29) none h30 (@kk ⟨(fun v31 h32 => vcond v31 (@kb ⟨(oT (some x10) none h32 (@kk ⟨(fun v33 h34 => oT (some x3) none h34 (@kk ⟨(fun v35 h36 => oE (bsE (slT Try.prog 35) 3 [(0, v33), (1, (.slice none 0 0)), (2, v35)] h36) (@kk ⟨(fun v37 h38 => oT (some x9) none h38 (@kk ⟨(fun v39 h40 => CallV (pp G) (.func (.func 14) #[] #[]) [v39, (.int .i64 4)] h40 (@kk ⟨(fun v41 h42 => oT (slV Try.prog 35 v37 none (some v41) none h42) (tailV Try.prog 35 v37 none (some v41) none h42) h42 (@kk ⟨(fun v43 h44 => oT (some v43) none h44 (@kk ⟨(fun v45 h46 => oT (some x0) none h46 (@kk ⟨(fun v47 h48 => oT (some v45) none h48 (@kk ⟨(fun v49 h50 => CallV (pp G) (.func (.func 26) #[] #[]) [v47, v49] h50 (@kk ⟨(fun v51 h52 => oT (some x1) none h52 (@kk ⟨(fun v53 h54 => oT (some v45) none h54 (@kk ⟨(fun v55 h56 => CallV (pp G) (.func (.func 29) #[] #[]) [v53, v55] h56 (@kk ⟨(fun v57 h58 => oT (binPure Try.prog .eql 4 (.tmp 50) (.tmp 53) v51 v57) none h58 (@kk ⟨(fun v59 h60 => oT (some v59) none h60 (@kk ⟨(fun v61 h62 => R .ret ⟨(F55 x0 x1 x2 x3 x4 x5 x6 x7 v61 x9 x10 v45 x12 x13 x14 x15 x16 x17 x18 x19 x20 x21 x22 x23 x24 x25 x26 x27 x28 x29 x30 x31 x32 x33 v19 v17 x36 x37 x38 x39 v31 v29 v33 v35 v37 v39 v41 v43 v47 v49 v51 v53 v55 v57 v59), df, h62⟩)⟩))⟩))⟩))⟩))⟩))⟩))⟩))⟩))⟩))⟩))⟩))⟩))⟩))⟩))⟩))⟩) (@kb ⟨(R .normal ⟨(F55 x0 x1 x2 x3 x4 x5 x6 x7 x8 x9 x10 x11 x12 x13 x14 x15 x16 x17 x18 x19 x20 x21 x22 x23 x24 x25 x26 x27 x28 x29 x30 x31 x32 x33 v19 v17 x36 x37 x38 x39 v31 v29 x42 x43 x44 x45 x46 x47 x48 x49 x50 x51 x52 x53 x54), df, h32⟩)⟩))⟩))⟩))⟩))⟩))⟩))⟩)) := by kernel_rfl
attribute [push_cast] sh_ir17_s0
theorem sh_ir17_s1 (G : Nat) (ro : Option Nat) (df : List Nat) (h : Heap) (x0 x1 x2 x3 x4 x5 x6 x7 x8 x9 x10 x11 x12 x13 x14 x15 x16 x17 x18 x19 x20 x21 x22 x23 x24 x25 x26 x27 x28 x29 x30 x31 x32 x33 x34 x35 x36 x37 x38 x39 x40 x41 x42 x43 x44 x45 x46 x47 x48 x49 x50 x51 x52 x53 x54 : Value) (R : XExit → S → Prop) : vc3 (pp G) ro ir17_s1 ⟨(F55 x0 x1 x2 x3 x4 x5 x6 x7 x8 x9 x10 x11 x12 x13 x14 x15 x16 x17 x18 x19 x20 x21 x22 x23 x24 x25 x26 x27 x28 x29 x30 x31 x32 x33 x34 x35 x36 x37 x38 x39 x40 x41 x42 x43 x44 x45 x46 x47 x48 x49 x50 x51 x52 x53 x54), df, h⟩ R = (oT (some (.bool true)) none h (@kk ⟨(fun v1 h2 => R .ret ⟨(F55 x0 x1 x2 x3 x4 x5 x6 x7 v1 x9 x10 x11 x12 x13 x14 x15 x16 x17 x18 x19 x20 x21 x22 x23 x24 x25 x26 x27 x28 x29 x30 x31 x32 x33 x34 x35 x36 x37 x38 x39 x40 x41 x42 x43 x44 x45 x46 x47 x48 x49 x50 x51 x52 x53 x54), df, h2⟩)⟩)) := by kernel_rfl
attribute [push_cast] sh_ir17_s1
theorem sh_ir18_s0 (G : Nat) (ro : Option Nat) (df : List Nat) (h : Heap) (x0 x1 x2 x3 x4 x5 x6 x7 x8 x9 x10 x11 x12 x13 x14 x15 x16 x17 x18 x19 x20 x21 x22 x23 x24 x25 x26 x27 x28 x29 x30 x31 x32 x33 x34 x35 x36 x37 x38 x39 x40 x41 x42 x43 x44 x45 x46 x47 : Value) (R : XExit → S → Prop) : vc3 (pp G) ro ir18_s0 ⟨(F48 x0 x1 x2 x3 x4 x5 x6 x7 x8 x9 x10 x11 x12 x13 x14 x15 x16 x17 x18 x19 x20 x21 x22 x23 x24 x25 x26 x27 x28 x29 x30 x31 x32 x33 x34 x35 x36 x37 x38 x39 x40 x41 x42 x43 x44 x45 x46 x47), df, h⟩ R = (oT (some x7) none h (@kk ⟨(fun v1 h2 => oT (some x5) none h2 (@kk ⟨(fun v3 h4 => oT (lnB (lnT Try.prog 35) v3) none h4 (@kk ⟨(fun v5 h6 => oT (binPure Try.prog .lss 3 (.tmp 31) (.tmp 33) v1 v5) none h6 (@kk ⟨(fun v7 h8 => vcond v7 (@kb ⟨(oP (some x5) h8 (@kk ⟨(fun v9 _ => oP (some x7) h8 (@kk ⟨(fun v10 _ => oP (iaV (esz Try.prog 35) v9 v10) h8 (@kk ⟨(fun v11 _ => oP (evLoad Try.prog 23 v11 h8) h8 (@kk ⟨(fun v12 _ => oP (cvV Try.prog 23 9 v12 h8) h8 (@kk ⟨(fun v14 _ => oP (some x6) h8 (@kk ⟨(fun v16 _ => oP (some x7) h8 (@kk ⟨(fun v17 _ => oP (iaV (esz Try.prog 35) v16 v17) h8 (@kk ⟨(fun v18 _ => oP (evLoad Try.prog 23 v18 h8) h8 (@kk ⟨(fun v19 _ => oP (cvV Try.prog 23 9 v19 h8) h8 (@kk ⟨(fun v21 _ => oP (binPure Try.prog .neq 9 (.tmp 41) (.tmp 46) v14 v21) h8 (@kk ⟨(fun v23 _ => vcond v23 (@kb ⟨(oT (some (.bool false)) none h8 (@kk ⟨(fun v24 h25 => R .ret ⟨(F48 x0 x1 x2 x3 v24 x5 x6 x7 x8 x9 x10 x11 x12 x13 x14 x15 x16 x17 x18 x19 x20 x21 x22 x23 x24 x25 x26 x27 x28 x29 x30 v1 v3 v5 v7 x35 x36 v9 v10 v11 v12 v14 v16 v17 v18 v19 v21 v23), df, h25⟩)⟩))⟩) (@kb ⟨(oT (some x7) none h8 (@kk ⟨(fun v26 h27 => oT (binPure Try.prog .add 3 (.tmp 35) (.const (.int .i64 1)) v26 (.int .i64 1)) none h27 (@kk ⟨(fun v28 h29 => oT (some v28) none h29 (@kk ⟨(fun v30 h31 => R .normal ⟨(F48 x0 x1 x2 x3 x4 x5 x6 v30 x8 x9 x10 x11 x12 x13 x14 x15 x16 x17 x18 x19 x20 x21 x22 x23 x24 x25 x26 x27 x28 x29 x30 v1 v3 v5 v7 v26 v28 v9 v10 v11 v12 v14 v16 v17 v18 v19 v21 v23), df, h31⟩)⟩))⟩))⟩))⟩))⟩))⟩))⟩))⟩))⟩))⟩))⟩))⟩))⟩))⟩))⟩))⟩) (@kb ⟨(R (.exit 0) ⟨(F48 x0 x1 x2 x3 x4 x5 x6 x7 x8 x9 x10 x11 x12 x13 x14 x15 x16 x17 x18 x19 x20 x21 x22 x23 x24 x25 x26 x27 x28 x29 x30 v1 v3 v5 v7 x35 x36 x37 x38 x39 x40 x41 x42 x43 x44 x45 x46 x47), df, h8⟩)⟩))⟩))⟩))⟩))⟩)) := by kernel_rfl
attribute [push_cast] sh_ir18_s0
theorem sh_ir18_s1 (G : Nat) (ro : Option Nat) (df : List Nat) (h : Heap) (x0 x1 x2 x3 x4 x5 x6 x7 x8 x9 x10 x11 x12 x13 x14 x15 x16 x17 x18 x19 x20 x21 x22 x23 x24 x25 x26 x27 x28 x29 x30 x31 x32 x33 x34 x35 x36 x37 x38 x39 x40 x41 x42 x43 x44 x45 x46 x47 : Value) (R : XExit → S → Prop) : vc3 (pp G) ro ir18_s1 ⟨(F48 x0 x1 x2 x3 x4 x5 x6 x7 x8 x9 x10 x11 x12 x13 x14 x15 x16 x17 x18 x19 x20 x21 x22 x23 x24 x25 x26 x27 x28 x29 x30 x31 x32 x33 x34 x35 x36 x37 x38 x39 x40 x41 x42 x43 x44 x45 x46 x47), df, h⟩ R = (oT (some (.bool true)) none h (@kk ⟨(fun v1 h2 => R .ret ⟨(F48 x0 x1 x2 x3 v1 x5 x6 x7 x8 x9 x10 x11 x12 x13 x14 x15 x16 x17 x18 x19 x20 x21 x22 x23 x24 x25 x26 x27 x28 x29 x30 x31 x32 x33 x34 x35 x36 x37 x38 x39 x40 x41 x42 x43 x44 x45 x46 x47), df, h2⟩)⟩)) := by kernel_rfl
attribute [push_cast] sh_ir18_s1
end
end Go.Proofs.Ytohdgkmgkcoilaa

namespace Go.Proofs.Ytohdgkmgkcoilaa
open Go Go.RowKit Go.Ev
noncomputable section
set_option linter.unusedSimpArgs false
set_option linter.unusedVariables false
variable (G : Nat) (h : Heap)

/-- a log and the document's, alike; all their blocks from N on -/
structure Both (h : Heap) (N p q lim : Nat) (recs : List (List Int)) (sure : Nat) : Prop where
  logs : ∃ a c F, LogP h p lim a c (enc recs) sure ∧ RefP h q lim sure F recs ∧ (∀ b, LogB p a b → N ≤ b ∧ ¬ F b) ∧ ∀ b, F b → N ≤ b
  point : ∃ i, i ≤ recs.length ∧ sure = (enc (recs.take i)).length
theorem Both.grew {h h' : Heap} {S : Nat → Prop} {N p q lim : Nat} {recs : List (List Int)} {sure : Nat} (B : Both h N p q lim recs sure) (g : Grew h h' S) (hS : ∀ b, N ≤ b → b < h.next → ¬ S b) : Both h' N p q lim recs sure := by
  obtain ⟨⟨a, c, F, l, r, d, e⟩, f⟩ := B
  exact ⟨⟨a, c, F, l.grew g fun b hb => hS b (d b hb).1 (l.low b hb), r.grew g fun b hb => hS b (e b hb) (r.low b hb), d, e⟩, f⟩
theorem Both.mono {h : Heap} {N M p q lim : Nat} {recs : List (List Int)} {sure : Nat} (B : Both h N p q lim recs sure) (hM : M ≤ N) : Both h M p q lim recs sure := by
  obtain ⟨⟨a, c, F, l, r, d, e⟩, f⟩ := B
  exact ⟨⟨a, c, F, l, r, fun b hb => ⟨Nat.le_trans hM (d b hb).1, (d b hb).2⟩, fun b hb => Nat.le_trans hM (e b hb)⟩, f⟩

/-- the front of a row of bytes that came in -/
theorem sl_t {h : Heap} {a : Option Addr} {n c k : Nat} {bs : List Int} (hs : Sl h a (bv bs)) (hn : bs.length = n) (hc : c < UC) (hnc : n ≤ c) (h0 : a = none → c = 0) (hk : k ≤ n) :
    ∃ a', slV Try.prog 23 (.slice a n c) none (some (.int .i64 k)) none h = some (.slice a' k c) ∧ Sl h a' (bv (bs.take k)) ∧ ∀ b, blk a' b → blk a b := by
  cases a with
  | none =>
    obtain rfl := h0 rfl
    obtain rfl : n = 0 := by omega
    obtain rfl : k = 0 := by omega
    exact ⟨none, by kernel_rfl, by rw [List.take_zero]; exact Sl.nil _ spotN_n, fun b hb => hb⟩
  | some a =>
    have hsp := Sl_spot hs
    obtain ⟨b, off, sp⟩ := a
    obtain rfl : sp = none := by simpa [spotN] using hsp
    have hsub := Sl_sub hs 0 k (by rw [bv_len]; omega)
    rw [← bv_sub, List.drop_zero, Nat.add_zero] at hsub
    refine ⟨some ⟨b, off, none⟩, ?_, hsub, fun b hb => hb⟩
    have e : slicePure Try.prog 23 (some ⟨b, off, none⟩) n c none (some (.int .i64 k)) none = some (.slice (some ⟨b, off, none⟩) k c) := by
      unfold slicePure
      simp only [u23, s5, blt_t hc, bounds_h (len := n) (show k ≤ c by omega), Option.getD_none, Nat.sub_zero, add0]
      cases c.beq 0 <;> simp [Addr.add]
    simp only [slV, e]

theorem threeR (h : Heap) (a b : Option Addr) (n c m d : Nat) (h1 : foneL h.next [.slice a n c] = true) (h2 : foneL h.next [.slice b m d] = true) :
    bsC 3 23 h (fillQ (List.map (fun i => (i, 1)) (List.range 3)) (List.replicate 3 [Value.slice none 0 0]).flatten (Value.slice a n c) [(1, Value.slice none 0 0), (2, Value.slice b m d)] (some (0, 1))) = some (.slice (some ⟨h.next, 0, none⟩) 3 3, h.add (O [.slice a n c, .slice none 0 0, .slice b m d] 23 false)) := by
  have e : fillQ (List.map (fun i => (i, 1)) (List.range 3)) (List.replicate 3 [Value.slice none 0 0]).flatten (Value.slice a n c) [(1, Value.slice none 0 0), (2, Value.slice b m d)] (some (0, 1)) = some [.slice a n c, .slice none 0 0, .slice b m d] := by kernel_rfl
  rw [e]
  refine bsC_s _ _ _ (foneL_cons _ _ _ ?_ (foneL_cons _ _ _ rfl h2))
  rw [q_cons] at h1
  first | exact h1.1 | exact ((Bool.and_eq_true _ _).mp h1).1
theorem slR (x : Nat) (h : Heap) : ∀ m : Nat, m ≤ 3 → slV Try.prog 35 (.slice (some ⟨x, 0, none⟩) 3 3) none (some (.int .i64 m)) none h = some (.slice (some ⟨x, 0, none⟩) m 3)
  | 0, _ => by kernel_rfl
  | 1, _ => by kernel_rfl
  | 2, _ => by kernel_rfl
  | 3, _ => by kernel_rfl
  | n + 4, h => by omega
theorem Sl_take {h : Heap} {b : Nat} {cs : List Value} (hs : Sl h (some ⟨b, 0, none⟩) cs) (m : Nat) (hm : m ≤ cs.length) : Sl h (some ⟨b, 0, none⟩) (cs.take m) := by
  have := Sl_sub hs 0 m (by omega)
  rwa [List.drop_zero, Nat.add_zero] at this
theorem enc_le_sum : ∀ (rs : List (List Int)) (k : Nat), (∀ r ∈ rs, r.length ≤ k) → (enc rs).length ≤ rs.length * (k + 4)
  | [], _, _ => Nat.zero_le _
  | r :: rs, k, hr => by
    have ih := enc_le_sum rs k fun x hx => hr x (List.mem_cons_of_mem _ hx)
    have h1 := hr r (List.mem_cons_self ..)
    rw [enc_cons, List.length_append, List.length_append, beL_len, List.length_cons, Nat.add_mul, Nat.one_mul]
    omega
theorem enc_snoc (rs : List (List Int)) (x : List Int) : enc (rs ++ [x]) = enc rs ++ beL x.length 4 ++ x := by
  unfold enc
  rw [List.map_append, List.flatten_append]
  simp [encR]
theorem get_take {α : Type} {l : List α} {m i : Nat} {r : α} (h : (l.take m)[i]? = some r) : i < m ∧ l[i]? = some r := by
  rw [List.getElem?_take] at h
  split at h
  · exact ⟨by assumption, h⟩
  · cases h
theorem take_get {α : Type} {l : List α} {m i : Nat} (h : i < m) : (l.take m)[i]? = l[i]? := by
  rw [List.getElem?_take, if_pos h]

structure StepPost (h : Heap) (N p q lim : Nat) (v : Value) (h' : Heap) : Prop where
  val : v = .bool true
  both : ∃ recs sure, Both h' N p q lim recs sure
  grew : Grew h h' (fun b => N ≤ b)

theorem step_w {N p q lim : Nat} {recs : List (List Int)} {sure : Nat} (B : Both h N p q lim recs sure) (hlim : lim ≤ 1000000000) (n : Int) (bs : List Int) (ab : Option Addr) (cb : Nat) (hsb : Sl h ab (bv bs)) (hbb : ∀ b, blk ab b → b < N) (hN : N ≤ h.next) (hbl : bs.length ≤ 60) (hcb : cb < UC) (hcb2 : bs.length ≤ cb) (hcb0 : ab = none → cb = 0) :
    CallE (pp G) 17 [.pointer (some ⟨p, 0, none⟩), .pointer (some ⟨q, 0, none⟩), .int .i64 n, .slice ab bs.length cb] h (StepPost h N p q lim) := by
  refine CallE.fir4 (good G) fir17 rfl rfl (F55_arr ..) fun hlo => ?_
  rw [sh_ir17]
  obtain ⟨⟨a, c, F, l, r, hd, hF⟩, i, hi, hsu⟩ := B
  have hw1 : IntKind.i64.wrap ((bs.length : Int) + 1) = bs.length + 1 := wrap_i64 (by omega) (by omega)
  have hz : (6 : Int) ≠ 0 := by decide
  simp (disch := first | omega | (refine id ?_; simp only [push_cast]; done) | (refine id ?_; simp only [push_cast]; omega)) only [push_cast, Nat.reduceAdd, Nat.reduceMul, Nat.reduceSub, Nat.reduceLT, Nat.reduceEqDiff, Nat.reduceLeDiff, Int.reduceToNat, reduceCtorEq, Int.reduceLT, Int.reduceLE, Int.reduceAdd, Int.reduceSub, Int.reduceMul, Int.reduceNeg, Int.reduceEq, hw1, b_quo hz]
  generalize IntKind.i64.wrap (n.tdiv 6) = k
  refine CallE.to (within_w G _ k (bs.length + 1) (by omega) (by omega)) ?_
  rintro _ _ ⟨rfl, e⟩
  rw [e]
  clear e
  have hr := Wi_range k (bs.length + 1) (by omega)
  obtain ⟨t, ht⟩ : ∃ t : Nat, Wi k (bs.length + 1) = t := ⟨(Wi k (bs.length + 1)).toNat, by omega⟩
  rw [ht]
  obtain ⟨a', hsl, hst, hba⟩ := sl_t hsb rfl hcb hcb2 hcb0 (show t ≤ bs.length by omega)
  have htl : (bs.take t).length = t := by rw [List.length_take]; omega
  simp (disch := first | omega | (refine id ?_; simp only [push_cast]; done) | (refine id ?_; simp only [push_cast]; omega)) only [push_cast, Nat.reduceAdd, Nat.reduceMul, Nat.reduceSub, Nat.reduceLT, Nat.reduceEqDiff, Nat.reduceLeDiff, Int.reduceToNat, reduceCtorEq, Int.reduceLT, Int.reduceLE, Int.reduceAdd, Int.reduceSub, Int.reduceMul, Int.reduceNeg, Int.reduceEq, hsl]
  refine CallE.to (within_w G _ n 6 (by omega) (by omega)) ?_
  rintro _ _ ⟨rfl, e⟩
  rw [e]
  clear e
  have hr6 := Wi_range n 6 (by omega)
  generalize Wi n 6 = m at hr6 ⊢
  have hcase : (m = 0 ∨ m = 1 ∨ m = 2) ∨ m = 3 ∨ m = 4 ∨ m = 5 := by omega
  rcases hcase with h012 | rfl | rfl | rfl
  · rcases h012 with rfl | rfl | rfl <;> simp (disch := first | omega | (refine id ?_; simp only [push_cast]; done) | (refine id ?_; simp only [push_cast]; omega)) only [push_cast, Nat.reduceAdd, Nat.reduceMul, Nat.reduceSub, Nat.reduceLT, Nat.reduceEqDiff, Nat.reduceLeDiff, Int.reduceToNat, reduceCtorEq, Int.reduceLT, Int.reduceLE, Int.reduceAdd, Int.reduceSub, Int.reduceMul, Int.reduceNeg, Int.reduceEq]
    all_goals
      have hcall := append_w G _ l hlim (bs.take t) a' cb hst (by omega) fun b hb => ⟨by have := hbb b (hba b hb); omega, fun hx => by have := (hd b hx).1; have := hbb b (hba b hb); omega⟩
      rw [htl] at hcall
      refine CallE.to hcall ?_
      rintro v h1 ⟨yes1, no1⟩
      rw [htl] at yes1 no1
      by_cases hfit : (enc recs).length + t + 4 ≤ lim
      · obtain ⟨rfl, a1, c1, l1, g1, b1⟩ := yes1 (by omega)
        have r1 := r.grew g1 fun b hb hx => (hd b hx).2 hb
        have hst1 : Sl h1 a' (bv (bs.take t)) := Sl.grew hst g1 fun b hb _ => ⟨by have := hbb b (hba b hb); omega, fun hx => by have := (hd b hx).1; have := hbb b (hba b hb); omega⟩
        have hn1 := g1.next
        simp (disch := first | omega | (refine id ?_; simp only [push_cast]; done) | (refine id ?_; simp only [push_cast]; omega)) only [push_cast, Nat.reduceAdd, Nat.reduceMul, Nat.reduceSub, Nat.reduceLT, Nat.reduceEqDiff, Nat.reduceLeDiff, Int.reduceToNat, reduceCtorEq, Int.reduceLT, Int.reduceLE, Int.reduceAdd, Int.reduceSub, Int.reduceMul, Int.reduceNeg, Int.reduceEq]
        have hcall2 := refappend_w G _ r1 hlim (bs.take t) a' cb hst1 (by omega) fun b hb => by have := hbb b (hba b hb); omega
        rw [htl] at hcall2
        refine CallE.to hcall2 ?_
        rintro v h2 ⟨yes2, no2⟩
        rw [htl] at yes2
        obtain ⟨rfl, F2, r2, g2, hF2⟩ := yes2 (by omega)
        simp (disch := first | omega | (refine id ?_; simp only [push_cast]; done) | (refine id ?_; simp only [push_cast]; omega)) only [push_cast, Nat.reduceAdd, Nat.reduceMul, Nat.reduceSub, Nat.reduceLT, Nat.reduceEqDiff, Nat.reduceLeDiff, Int.reduceToNat, reduceCtorEq, Int.reduceLT, Int.reduceLE, Int.reduceAdd, Int.reduceSub, Int.reduceMul, Int.reduceNeg, Int.reduceEq, beq_self_eq_true]
        have e1 : enc recs ++ beL t 4 ++ bs.take t = enc (recs ++ [bs.take t]) := by rw [enc_snoc, htl]
        rw [e1] at l1
        have low1 : ∀ b, LogB p a1 b → (LogB p a b ∨ h.next ≤ b) ∧ b < h1.next := fun b hb => ⟨by
          rcases hb with hb | hb
          · exact .inl (.inl hb)
          · exact (b1 b hb).elim (fun h => .inl (.inr h)) .inr, l1.low b hb⟩
        refine ⟨rfl, ⟨recs ++ [bs.take t], sure, ⟨a1, c1, F2, l1.grew g2 fun b hb hx => ?_, r2, fun b hb => ⟨?_, fun hx => ?_⟩, fun b hb => ?_⟩, i, by rw [List.length_append]; omega, by rw [List.take_append_of_le_length hi]; exact hsu⟩, ?_⟩
        · rcases (low1 b hb).1 with h3 | h3
          · exact (hd b h3).2 hx
          · have := r.low b hx; omega
        · rcases (low1 b hb).1 with h3 | h3
          · exact (hd b h3).1
          · omega
        · rcases hF2 b hx with h4 | h4
          · rcases (low1 b hb).1 with h3 | h3
            · exact (hd b h3).2 h4
            · have := r.low b h4; omega
          · have := (low1 b hb).2; omega
        · rcases hF2 b hb with h4 | h4
          · exact hF b h4
          · omega
        · exact (Grew.mono g1 fun b _ hb => (hd b hb).1).tr' g2 fun b _ hb => hF b hb
      · obtain ⟨rfl, e1⟩ := no1 (by omega)
        rw [e1]
        clear e1
        simp (disch := first | omega | (refine id ?_; simp only [push_cast]; done) | (refine id ?_; simp only [push_cast]; omega)) only [push_cast, Nat.reduceAdd, Nat.reduceMul, Nat.reduceSub, Nat.reduceLT, Nat.reduceEqDiff, Nat.reduceLeDiff, Int.reduceToNat, reduceCtorEq, Int.reduceLT, Int.reduceLE, Int.reduceAdd, Int.reduceSub, Int.reduceMul, Int.reduceNeg, Int.reduceEq]
        have hcall2 := refappend_w G _ r hlim (bs.take t) a' cb hst (by omega) fun b hb => by have := hbb b (hba b hb); omega
        rw [htl] at hcall2
        refine CallE.to hcall2 ?_
        rintro v h2 ⟨yes2, no2⟩
        rw [htl] at no2
        obtain ⟨rfl, e2⟩ := no2 (by omega)
        rw [e2]
        clear e2
        simp (disch := first | omega | (refine id ?_; simp only [push_cast]; done) | (refine id ?_; simp only [push_cast]; omega)) only [push_cast, Nat.reduceAdd, Nat.reduceMul, Nat.reduceSub, Nat.reduceLT, Nat.reduceEqDiff, Nat.reduceLeDiff, Int.reduceToNat, reduceCtorEq, Int.reduceLT, Int.reduceLE, Int.reduceAdd, Int.reduceSub, Int.reduceMul, Int.reduceNeg, Int.reduceEq, beq_self_eq_true]
        exact ⟨rfl, ⟨recs, sure, ⟨a, c, F, l, r, hd, hF⟩, i, hi, hsu⟩, Grew.refl _ _⟩
  · simp (disch := first | omega | (refine id ?_; simp only [push_cast]; done) | (refine id ?_; simp only [push_cast]; omega)) only [push_cast, Nat.reduceAdd, Nat.reduceMul, Nat.reduceSub, Nat.reduceLT, Nat.reduceEqDiff, Nat.reduceLeDiff, Int.reduceToNat, reduceCtorEq, Int.reduceLT, Int.reduceLE, Int.reduceAdd, Int.reduceSub, Int.reduceMul, Int.reduceNeg, Int.reduceEq]
    refine CallE.to (sync_w G _ l) ?_
    rintro v h1 ⟨rfl, l1, g1, hn1⟩
    have r1 := r.grew g1 fun b hb hx => (hd b (.inl hx)).2 hb
    simp (disch := first | omega | (refine id ?_; simp only [push_cast]; done) | (refine id ?_; simp only [push_cast]; omega)) only [push_cast, Nat.reduceAdd, Nat.reduceMul, Nat.reduceSub, Nat.reduceLT, Nat.reduceEqDiff, Nat.reduceLeDiff, Int.reduceToNat, reduceCtorEq, Int.reduceLT, Int.reduceLE, Int.reduceAdd, Int.reduceSub, Int.reduceMul, Int.reduceNeg, Int.reduceEq]
    refine CallE.to (refsync_w G _ r1 hlim) ?_
    rintro v h2 ⟨rfl, r2, g2, hn2⟩
    simp (disch := first | omega | (refine id ?_; simp only [push_cast]; done) | (refine id ?_; simp only [push_cast]; omega)) only [push_cast, Nat.reduceAdd, Nat.reduceMul, Nat.reduceSub, Nat.reduceLT, Nat.reduceEqDiff, Nat.reduceLeDiff, Int.reduceToNat, reduceCtorEq, Int.reduceLT, Int.reduceLE, Int.reduceAdd, Int.reduceSub, Int.reduceMul, Int.reduceNeg, Int.reduceEq]
    refine ⟨rfl, ⟨recs, _, ⟨a, c, F, l1.grew g2 fun b hb hx => (hd b hb).2 (by rw [hx]; exact r.self), r2, hd, hF⟩, recs.length, Nat.le_refl _, by rw [List.take_length]⟩, ?_⟩
    exact (Grew.mono g1 fun b _ hb => (hd b (.inl hb)).1).tr' g2 fun b _ hb => by rw [hb]; exact hF q r.self
  · have hfa : foneL h.next [.slice a' t cb] = true := fone_sl (Sl_spot hst) fun b hb => by have := hbb b (hba b hb); omega
    have hfb : foneL h.next [.slice ab bs.length cb] = true := fone_sl (Sl_spot hsb) fun b hb => by have := hbb b hb; omega
    have hbs3 := threeR h a' ab t cb bs.length cb hfa hfb
    simp (disch := first | omega | (refine id ?_; simp only [push_cast]; done) | (refine id ?_; simp only [push_cast]; omega)) only [push_cast, Nat.reduceAdd, Nat.reduceMul, Nat.reduceSub, Nat.reduceLT, Nat.reduceEqDiff, Nat.reduceLeDiff, Int.reduceToNat, reduceCtorEq, Int.reduceLT, Int.reduceLE, Int.reduceAdd, Int.reduceSub, Int.reduceMul, Int.reduceNeg, Int.reduceEq, rg_get1, hbs3]
    have g0 : Grew h (h.add (O [.slice a' t cb, .slice none 0 0, .slice ab bs.length cb] 23 false)) (fun _ => False) := Grew.add h _ _
    have hs0 : Sl (h.add (O [.slice a' t cb, .slice none 0 0, .slice ab bs.length cb] 23 false)) (some ⟨h.next, 0, none⟩) [.slice a' t cb, .slice none 0 0, .slice ab bs.length cb] := Sl.row (cells_add_s _ _ _ _ rfl) (by rw [lo_add]; exact hlo)
    have hn0 : (h.add (O [.slice a' t cb, .slice none 0 0, .slice ab bs.length cb] 23 false)).next = h.next + 1 := next_add _
    generalize h.add (O [.slice a' t cb, .slice none 0 0, .slice ab bs.length cb] 23 false) = h1 at g0 hs0 hn0 ⊢
    refine CallE.to (within_w G _ k 4 (by omega) (by omega)) ?_
    rintro _ _ ⟨rfl, e⟩
    rw [e]
    clear e
    have hr4 := Wi_range k 4 (by omega)
    obtain ⟨m, hm⟩ : ∃ m : Nat, Wi k 4 = m := ⟨(Wi k 4).toNat, by omega⟩
    rw [hm] at hr4 ⊢
    have hm3 : m ≤ 3 := by omega
    simp (disch := first | omega | (refine id ?_; simp only [push_cast]; done) | (refine id ?_; simp only [push_cast]; omega)) only [push_cast, Nat.reduceAdd, Nat.reduceMul, Nat.reduceSub, Nat.reduceLT, Nat.reduceEqDiff, Nat.reduceLeDiff, Int.reduceToNat, reduceCtorEq, Int.reduceLT, Int.reduceLE, Int.reduceAdd, Int.reduceSub, Int.reduceMul, Int.reduceNeg, Int.reduceEq, slR _ _ m hm3]
    obtain ⟨news, hnews⟩ : ∃ news : List (List Int), news = ([bs.take t, [], bs] : List (List Int)).take m := ⟨_, rfl⟩
    have hnl : news.length = m := by rw [hnews, List.length_take]; show min m 3 = m; omega
    have hmem : ∀ r ∈ news, r.length ≤ 60 := fun r hr => by
      rw [hnews] at hr
      have hr := List.mem_of_mem_take hr
      simp only [List.mem_cons, List.not_mem_nil, or_false] at hr
      rcases hr with rfl | rfl | rfl
      · omega
      · exact Nat.zero_le _
      · exact hbl
    have hbig := enc_le_sum news 60 hmem
    have hrow : ∀ (j : Nat) (r : List Int), news[j]? = some r → ∃ (ai : Option Addr) (ci : Nat), (([.slice a' t cb, .slice none 0 0, .slice ab bs.length cb] : List Value).take m)[j]? = some (Value.slice ai r.length ci) ∧ Sl h1 ai (bv r) ∧ ∀ b, blk ai b → b < N := fun j r hj => by
      rw [hnews] at hj
      obtain ⟨hjm, hj⟩ := get_take hj
      rw [take_get hjm]
      match j, hj with
      | 0, hj => cases hj; exact ⟨a', cb, by rw [htl]; rfl, Sl.grew hst g0 fun b hb _ => ⟨by have := hbb b (hba b hb); omega, fun h => h⟩, fun b hb => hbb b (hba b hb)⟩
      | 1, hj => cases hj; exact ⟨none, 0, rfl, Sl.nil _ spotN_n, fun b hb => by obtain ⟨o, s, e⟩ := hb; cases e⟩
      | 2, hj => cases hj; exact ⟨ab, cb, rfl, Sl.grew hsb g0 fun b hb _ => ⟨by have := hbb b hb; omega, fun h => h⟩, hbb⟩
      | j + 3, hj => cases hj
    have hct : (([.slice a' t cb, .slice none 0 0, .slice ab bs.length cb] : List Value).take m).length = news.length := by rw [hnl, List.length_take]; show min m 3 = m; omega
    have hst1 := Sl_take hs0 m (by show m ≤ 3; omega)
    have hP : RowsP h1 (some ⟨h.next, 0, none⟩) news := ⟨⟨_, hst1, hct, fun j r hj => by
      obtain ⟨ai, ci, q1, q2, q3⟩ := hrow j r hj
      exact ⟨ai, ci, q1, q2, fun b hb => by have := q3 b hb; omega⟩⟩, fun b hb => by obtain ⟨o, s, e⟩ := hb; cases e; omega⟩
    have hQ : RowsQ h1 (some ⟨h.next, 0, none⟩) (fun b => b < N ∨ b = h.next) news := ⟨⟨_, hst1, hct, fun j r hj => by
      obtain ⟨ai, ci, q1, q2, q3⟩ := hrow j r hj
      exact ⟨ai, ci, q1, q2, fun b hb => .inl (q3 b hb)⟩⟩, fun b hb => by obtain ⟨o, s, e⟩ := hb; cases e; exact .inr rfl, fun b hb => by omega⟩
    have l1 := l.grew g0 fun _ _ h => h
    have r1 := r.grew g0 fun _ _ h => h
    have hcall := compact_w G _ l1 hlim news (some ⟨h.next, 0, none⟩) 3 hP (fun r hr => by have := hmem r hr; omega) (by omega)
    rw [hnl] at hcall
    refine CallE.to hcall ?_
    rintro v h2 ⟨yes2, no2⟩
    have hFlow := r.low
    have hLlow := l.low
    by_cases hfit : (enc news).length ≤ lim
    · obtain ⟨rfl, a2, c2, l2, g2, b2⟩ := yes2 hfit
      have hpN := (hd p (.inl rfl)).1
      have r2 := r1.grew g2 fun b hb hx => (hd b (.inl hx)).2 hb
      have hpx : p ≠ h.next := by have := hLlow p (.inl rfl); omega
      have hQ2 := hQ.grew g2 fun b hb hx => by omega
      have hn2 := g2.next
      simp (disch := first | omega | (refine id ?_; simp only [push_cast]; done) | (refine id ?_; simp only [push_cast]; omega)) only [push_cast, Nat.reduceAdd, Nat.reduceMul, Nat.reduceSub, Nat.reduceLT, Nat.reduceEqDiff, Nat.reduceLeDiff, Int.reduceToNat, reduceCtorEq, Int.reduceLT, Int.reduceLE, Int.reduceAdd, Int.reduceSub, Int.reduceMul, Int.reduceNeg, Int.reduceEq]
      have hcall2 := refcompact_w G _ r2 hlim news (some ⟨h.next, 0, none⟩) 3 hQ2 (fun b hb hx => by have := hF b hx; have := hFlow b hx; omega) (by omega)
      rw [hnl] at hcall2
      refine CallE.to hcall2 ?_
      rintro v h3 ⟨yes3, _⟩
      obtain ⟨rfl, F3, r3, g3, hF3⟩ := yes3 hfit
      simp (disch := first | omega | (refine id ?_; simp only [push_cast]; done) | (refine id ?_; simp only [push_cast]; omega)) only [push_cast, Nat.reduceAdd, Nat.reduceMul, Nat.reduceSub, Nat.reduceLT, Nat.reduceEqDiff, Nat.reduceLeDiff, Int.reduceToNat, reduceCtorEq, Int.reduceLT, Int.reduceLE, Int.reduceAdd, Int.reduceSub, Int.reduceMul, Int.reduceNeg, Int.reduceEq, beq_self_eq_true]
      have low2 : ∀ b, LogB p a2 b → (b = p ∨ h.next ≤ b) ∧ b < h2.next := fun b hb => ⟨by
        rcases hb with hb | hb
        · exact .inl hb
        · have := b2 b hb; omega, l2.low b hb⟩
      refine ⟨rfl, ⟨news, _, ⟨a2, c2, F3, l2.grew g3 fun b hb hx => ?_, r3, fun b hb => ⟨?_, fun hx => ?_⟩, fun b hb => ?_⟩, news.length, Nat.le_refl _, by rw [List.take_length]⟩, ?_⟩
      · rcases (low2 b hb).1 with h4 | h4
        · exact (hd b (.inl h4)).2 hx
        · have := hFlow b hx; omega
      · rcases (low2 b hb).1 with h4 | h4
        · rw [h4]; exact hpN
        · omega
      · rcases hF3 b hx with h5 | h5
        · rcases (low2 b hb).1 with h4 | h4
          · exact (hd b (.inl h4)).2 h5
          · have := hFlow b h5; omega
        · have := (low2 b hb).2; omega
      · rcases hF3 b hb with h5 | h5
        · exact hF b h5
        · omega
      · exact ((Grew.mono g0 fun _ _ h => h.elim).tr' g2 fun b _ hb => by rw [hb]; exact hpN).tr' g3 fun b _ hb => hF b hb
    · obtain ⟨rfl, g2⟩ := no2 hfit
      have l2 := l1.grew g2 fun _ _ h => h
      have r2 := r1.grew g2 fun _ _ h => h
      have hQ2 := hQ.grew g2 fun _ _ h => h
      simp (disch := first | omega | (refine id ?_; simp only [push_cast]; done) | (refine id ?_; simp only [push_cast]; omega)) only [push_cast, Nat.reduceAdd, Nat.reduceMul, Nat.reduceSub, Nat.reduceLT, Nat.reduceEqDiff, Nat.reduceLeDiff, Int.reduceToNat, reduceCtorEq, Int.reduceLT, Int.reduceLE, Int.reduceAdd, Int.reduceSub, Int.reduceMul, Int.reduceNeg, Int.reduceEq]
      have hcall2 := refcompact_w G _ r2 hlim news (some ⟨h.next, 0, none⟩) 3 hQ2 (fun b hb hx => by have := hF b hx; have := hFlow b hx; omega) (by omega)
      rw [hnl] at hcall2
      refine CallE.to hcall2 ?_
      rintro v h3 ⟨_, no3⟩
      obtain ⟨rfl, e3⟩ := no3 hfit
      rw [e3]
      clear e3
      simp (disch := first | omega | (refine id ?_; simp only [push_cast]; done) | (refine id ?_; simp only [push_cast]; omega)) only [push_cast, Nat.reduceAdd, Nat.reduceMul, Nat.reduceSub, Nat.reduceLT, Nat.reduceEqDiff, Nat.reduceLeDiff, Int.reduceToNat, reduceCtorEq, Int.reduceLT, Int.reduceLE, Int.reduceAdd, Int.reduceSub, Int.reduceMul, Int.reduceNeg, Int.reduceEq, beq_self_eq_true]
      exact ⟨rfl, ⟨recs, sure, ⟨a, c, F, l2, r2, hd, hF⟩, i, hi, hsu⟩, (Grew.mono g0 fun _ _ h => h.elim).tr' g2 fun _ _ h => h.elim⟩
  · simp (disch := first | omega | (refine id ?_; simp only [push_cast]; done) | (refine id ?_; simp only [push_cast]; omega)) only [push_cast, Nat.reduceAdd, Nat.reduceMul, Nat.reduceSub, Nat.reduceLT, Nat.reduceEqDiff, Nat.reduceLeDiff, Int.reduceToNat, reduceCtorEq, Int.reduceLT, Int.reduceLE, Int.reduceAdd, Int.reduceSub, Int.reduceMul, Int.reduceNeg, Int.reduceEq]
    exact ⟨rfl, ⟨recs, sure, ⟨a, c, F, l, r, hd, hF⟩, i, hi, hsu⟩, Grew.refl _ _⟩
end
end Go.Proofs.Ytohdgkmgkcoilaa

namespace Go.Proofs.Ytohdgkmgkcoilaa
open Go Go.RowKit Go.Ev
noncomputable section
set_option linter.unusedSimpArgs false
set_option linter.unusedVariables false
variable (G : Nat) (h : Heap)

inductive I18 (h : Heap) (n : Nat) (a1 a2 : Option Addr) (c1 c2 : Nat) : Nat → S → Prop
  | mk (j : Nat) (jv : Int) {x0 x1 x2 x3 x4 x8 x9 x10 x11 x12 x13 x14 x15 x16 x17 x18 x19 x20 x21 x22 x23 x24 x25 x26 x27 x28 x29 x30 x31 x32 x33 x34 x35 x36 x37 x38 x39 x40 x41 x42 x43 x44 x45 x46 x47 : Value} (hjv : jv = (j : Int)) (hj : j ≤ n) :
    I18 h n a1 a2 c1 c2 (n - j) ⟨(F48 x0 x1 x2 x3 x4 (.slice a1 n c1) (.slice a2 n c2) (.int .i64 jv) x8 x9 x10 x11 x12 x13 x14 x15 x16 x17 x18 x19 x20 x21 x22 x23 x24 x25 x26 x27 x28 x29 x30 x31 x32 x33 x34 x35 x36 x37 x38 x39 x40 x41 x42 x43 x44 x45 x46 x47), [], h⟩
theorem same_w {N p q lim : Nat} {recs : List (List Int)} {sure : Nat} (B : Both h N p q lim recs sure) (hlim : lim ≤ 1000000000) :
    CallE (pp G) 18 [.pointer (some ⟨p, 0, none⟩), .pointer (some ⟨q, 0, none⟩)] h (fun v h' => v = .bool true ∧ Gr h h') := by
  refine CallE.fir4 (good G) fir18 rfl rfl (F48_arr ..) fun hlo => ?_
  rw [sh_ir18]
  obtain ⟨⟨a, c, F, l, r, hd, hF⟩, _⟩ := B
  have tor : Torn [] := .inl (by decide)
  have hge := enc_ge recs
  have hfit := l.fits
  simp (disch := first | omega | (refine id ?_; simp only [push_cast]; done) | (refine id ?_; simp only [push_cast]; omega)) only [push_cast, Nat.reduceAdd, Nat.reduceMul, Nat.reduceSub, Nat.reduceLT, Nat.reduceEqDiff, Nat.reduceLeDiff, Int.reduceToNat, reduceCtorEq, Int.reduceLT, Int.reduceLE, Int.reduceAdd, Int.reduceSub, Int.reduceMul, Int.reduceNeg, Int.reduceEq]
  refine CallE.to (records_w G _ l hlim recs [] (List.append_nil _).symm tor) ?_
  rintro v h1 ⟨⟨a1, c1, rfl, hrow1⟩, hg1⟩
  have l1 := l.grew hg1 fun _ _ h => h
  have r1 := r.grew hg1 fun _ _ h => h
  simp (disch := first | omega | (refine id ?_; simp only [push_cast]; done) | (refine id ?_; simp only [push_cast]; omega)) only [push_cast, Nat.reduceAdd, Nat.reduceMul, Nat.reduceSub, Nat.reduceLT, Nat.reduceEqDiff, Nat.reduceLeDiff, Int.reduceToNat, reduceCtorEq, Int.reduceLT, Int.reduceLE, Int.reduceAdd, Int.reduceSub, Int.reduceMul, Int.reduceNeg, Int.reduceEq]
  refine CallE.to (refrecords_w G _ r1 hlim) ?_
  rintro v h2 ⟨⟨a2, c2, rfl, hrow2⟩, hg2⟩
  have l2 := l1.grew hg2 fun _ _ h => h
  have r2 := r1.grew hg2 fun _ _ h => h
  have hrow1 := hrow1.grew hg2 fun _ _ h => h
  have hg := hg1.tr' hg2 fun _ _ h => h
  simp (disch := first | omega | (refine id ?_; simp only [push_cast]; done) | (refine id ?_; simp only [push_cast]; omega)) only [push_cast, Nat.reduceAdd, Nat.reduceMul, Nat.reduceSub, Nat.reduceLT, Nat.reduceEqDiff, Nat.reduceLeDiff, Int.reduceToNat, reduceCtorEq, Int.reduceLT, Int.reduceLE, Int.reduceAdd, Int.reduceSub, Int.reduceMul, Int.reduceNeg, Int.reduceEq]
  refine CallE.to (len_w G _ l2) ?_
  rintro _ _ ⟨rfl, e⟩
  rw [e]
  clear e
  simp (disch := first | omega | (refine id ?_; simp only [push_cast]; done) | (refine id ?_; simp only [push_cast]; omega)) only [push_cast, Nat.reduceAdd, Nat.reduceMul, Nat.reduceSub, Nat.reduceLT, Nat.reduceEqDiff, Nat.reduceLeDiff, Int.reduceToNat, reduceCtorEq, Int.reduceLT, Int.reduceLE, Int.reduceAdd, Int.reduceSub, Int.reduceMul, Int.reduceNeg, Int.reduceEq]
  refine CallE.to (reflen_w G _ r2 hlim) ?_
  rintro _ _ ⟨rfl, e⟩
  rw [e]
  clear e
  simp (disch := first | omega | (refine id ?_; simp only [push_cast]; done) | (refine id ?_; simp only [push_cast]; omega)) only [push_cast, Nat.reduceAdd, Nat.reduceMul, Nat.reduceSub, Nat.reduceLT, Nat.reduceEqDiff, Nat.reduceLeDiff, Int.reduceToNat, reduceCtorEq, Int.reduceLT, Int.reduceLE, Int.reduceAdd, Int.reduceSub, Int.reduceMul, Int.reduceNeg, Int.reduceEq]
  refine CallE.to (sure_w G _ l2) ?_
  rintro _ _ ⟨rfl, e⟩
  rw [e]
  clear e
  simp (disch := first | omega | (refine id ?_; simp only [push_cast]; done) | (refine id ?_; simp only [push_cast]; omega)) only [push_cast, Nat.reduceAdd, Nat.reduceMul, Nat.reduceSub, Nat.reduceLT, Nat.reduceEqDiff, Nat.reduceLeDiff, Int.reduceToNat, reduceCtorEq, Int.reduceLT, Int.reduceLE, Int.reduceAdd, Int.reduceSub, Int.reduceMul, Int.reduceNeg, Int.reduceEq]
  refine CallE.to (refsure_w G _ r2) ?_
  rintro _ _ ⟨rfl, e⟩
  rw [e]
  clear e
  simp (disch := first | omega | (refine id ?_; simp only [push_cast]; done) | (refine id ?_; simp only [push_cast]; omega)) only [push_cast, Nat.reduceAdd, Nat.reduceMul, Nat.reduceSub, Nat.reduceLT, Nat.reduceEqDiff, Nat.reduceLeDiff, Int.reduceToNat, reduceCtorEq, Int.reduceLT, Int.reduceLE, Int.reduceAdd, Int.reduceSub, Int.reduceMul, Int.reduceNeg, Int.reduceEq]
  refine W.loop4 (good G) (I18 h2 recs.length a1 a2 c1 c2) ?_ _ _ (I18.mk 0 0 rfl (Nat.zero_le _))
  intro _ s9 hI
  cases hI with | mk j jv hjv hj =>
  subst hjv
  rw [sh_ir18_s0]
  by_cases hjm : (j : Int) < recs.length
  · obtain ⟨r, hrj⟩ : ∃ r, recs[j]? = some r := ⟨_, List.getElem?_eq_getElem (by omega)⟩
    obtain ⟨⟨cs7, hown7, hrr7⟩, _⟩ := hrow1
    obtain ⟨⟨cs8, hown8, hrr8⟩, _⟩ := hrow2
    obtain ⟨aj7, cj7, p1, p2, _⟩ := hrr7 j r hrj
    obtain ⟨aj8, cj8, p4, p5, _⟩ := hrr8 j r hrj
    obtain ⟨b7, o7, rfl, hld7⟩ := hown7.sl.load T_knd_23 p1
    obtain ⟨b8, o8, rfl, hld8⟩ := hown8.sl.load T_knd_23 p4
    rw [load_eq, T_knd_23] at hld7 hld8
    have hcv1 := cv_text T_cnvT_23_9 p2 rfl (c := cj7)
    have hcv2 := cv_text T_cnvT_23_9 p5 rfl (c := cj8)
    simp (disch := first | omega | (refine id ?_; simp only [push_cast]; done) | (refine id ?_; simp only [push_cast]; omega)) only [push_cast, Nat.reduceAdd, Nat.reduceMul, Nat.reduceSub, Nat.reduceLT, Nat.reduceEqDiff, Nat.reduceLeDiff, Int.reduceToNat, reduceCtorEq, Int.reduceLT, Int.reduceLE, Int.reduceAdd, Int.reduceSub, Int.reduceMul, Int.reduceNeg, Int.reduceEq, hjm, Int.toNat_natCast, hld7, hld8, hcv1, hcv2, b_neqs, beq_self_eq_true, Bool.not_true]
    exact ⟨_, by omega, I18.mk (j + 1) _ (by first | rfl | omega) (by omega)⟩
  · simp (disch := first | omega | (refine id ?_; simp only [push_cast]; done) | (refine id ?_; simp only [push_cast]; omega)) only [push_cast, Nat.reduceAdd, Nat.reduceMul, Nat.reduceSub, Nat.reduceLT, Nat.reduceEqDiff, Nat.reduceLeDiff, Int.reduceToNat, reduceCtorEq, Int.reduceLT, Int.reduceLE, Int.reduceAdd, Int.reduceSub, Int.reduceMul, Int.reduceNeg, Int.reduceEq, hjm]
    exact hg
end
end Go.Proofs.Ytohdgkmgkcoilaa
