/-
  A part of the proof: what the program's functions hand back, as theorems. No condition but those that each theorem names.
-/
import Derived.Test.YtohdgkmgkcoilaaLga
import Derived.Test.YtohdgkmgkcoilaaEvd
set_option linter.unusedSimpArgs false
set_option linter.unusedVariables false
namespace Go.Proofs.Ytohdgkmgkcoilaa
open Go.RowKit Go.Ev
set_option linter.unusedVariables false
set_option maxRecDepth 100000
noncomputable section
def F6 (x0 x1 x2 x3 x4 x5 : Value) : VT := ⟨6, (.node (.node (.node .nil x3 .nil) x1 (.node .nil x5 .nil)) x0 (.node (.node .nil x4 .nil) x2 .nil))⟩
theorem F6_arr (x0 x1 x2 x3 x4 x5 : Value) : (F6 x0 x1 x2 x3 x4 x5).arr = ⟨[x0, x1, x2, x3, x4, x5]⟩ := by kernel_rfl
def F7 (x0 x1 x2 x3 x4 x5 x6 : Value) : VT := ⟨7, (.node (.node (.node .nil x3 .nil) x1 (.node .nil x5 .nil)) x0 (.node (.node .nil x4 .nil) x2 (.node .nil x6 .nil)))⟩
theorem F7_arr (x0 x1 x2 x3 x4 x5 x6 : Value) : (F7 x0 x1 x2 x3 x4 x5 x6).arr = ⟨[x0, x1, x2, x3, x4, x5, x6]⟩ := by kernel_rfl
def F8 (x0 x1 x2 x3 x4 x5 x6 x7 : Value) : VT := ⟨8, (.node (.node (.node (.node .nil x7 .nil) x3 .nil) x1 (.node .nil x5 .nil)) x0 (.node (.node .nil x4 .nil) x2 (.node .nil x6 .nil)))⟩
theorem F8_arr (x0 x1 x2 x3 x4 x5 x6 x7 : Value) : (F8 x0 x1 x2 x3 x4 x5 x6 x7).arr = ⟨[x0, x1, x2, x3, x4, x5, x6, x7]⟩ := by kernel_rfl
def F10 (x0 x1 x2 x3 x4 x5 x6 x7 x8 x9 : Value) : VT := ⟨10, (.node (.node (.node (.node .nil x7 .nil) x3 .nil) x1 (.node (.node .nil x9 .nil) x5 .nil)) x0 (.node (.node (.node .nil x8 .nil) x4 .nil) x2 (.node .nil x6 .nil)))⟩
theorem F10_arr (x0 x1 x2 x3 x4 x5 x6 x7 x8 x9 : Value) : (F10 x0 x1 x2 x3 x4 x5 x6 x7 x8 x9).arr = ⟨[x0, x1, x2, x3, x4, x5, x6, x7, x8, x9]⟩ := by kernel_rfl
def F15 (x0 x1 x2 x3 x4 x5 x6 x7 x8 x9 x10 x11 x12 x13 x14 : Value) : VT := ⟨15, (.node (.node (.node (.node .nil x7 .nil) x3 (.node .nil x11 .nil)) x1 (.node (.node .nil x9 .nil) x5 (.node .nil x13 .nil))) x0 (.node (.node (.node .nil x8 .nil) x4 (.node .nil x12 .nil)) x2 (.node (.node .nil x10 .nil) x6 (.node .nil x14 .nil))))⟩
theorem F15_arr (x0 x1 x2 x3 x4 x5 x6 x7 x8 x9 x10 x11 x12 x13 x14 : Value) : (F15 x0 x1 x2 x3 x4 x5 x6 x7 x8 x9 x10 x11 x12 x13 x14).arr = ⟨[x0, x1, x2, x3, x4, x5, x6, x7, x8, x9, x10, x11, x12, x13, x14]⟩ := by kernel_rfl
def F31 (x0 x1 x2 x3 x4 x5 x6 x7 x8 x9 x10 x11 x12 x13 x14 x15 x16 x17 x18 x19 x20 x21 x22 x23 x24 x25 x26 x27 x28 x29 x30 : Value) : VT := ⟨31, (.node (.node (.node (.node (.node .nil x15 .nil) x7 (.node .nil x23 .nil)) x3 (.node (.node .nil x19 .nil) x11 (.node .nil x27 .nil))) x1 (.node (.node (.node .nil x17 .nil) x9 (.node .nil x25 .nil)) x5 (.node (.node .nil x21 .nil) x13 (.node .nil x29 .nil)))) x0 (.node (.node (.node (.node .nil x16 .nil) x8 (.node .nil x24 .nil)) x4 (.node (.node .nil x20 .nil) x12 (.node .nil x28 .nil))) x2 (.node (.node (.node .nil x18 .nil) x10 (.node .nil x26 .nil)) x6 (.node (.node .nil x22 .nil) x14 (.node .nil x30 .nil)))))⟩
theorem F31_arr (x0 x1 x2 x3 x4 x5 x6 x7 x8 x9 x10 x11 x12 x13 x14 x15 x16 x17 x18 x19 x20 x21 x22 x23 x24 x25 x26 x27 x28 x29 x30 : Value) : (F31 x0 x1 x2 x3 x4 x5 x6 x7 x8 x9 x10 x11 x12 x13 x14 x15 x16 x17 x18 x19 x20 x21 x22 x23 x24 x25 x26 x27 x28 x29 x30).arr = ⟨[x0, x1, x2, x3, x4, x5, x6, x7, x8, x9, x10, x11, x12, x13, x14, x15, x16, x17, x18, x19, x20, x21, x22, x23, x24, x25, x26, x27, x28, x29, x30]⟩ := by kernel_rfl
def F57 (x0 x1 x2 x3 x4 x5 x6 x7 x8 x9 x10 x11 x12 x13 x14 x15 x16 x17 x18 x19 x20 x21 x22 x23 x24 x25 x26 x27 x28 x29 x30 x31 x32 x33 x34 x35 x36 x37 x38 x39 x40 x41 x42 x43 x44 x45 x46 x47 x48 x49 x50 x51 x52 x53 x54 x55 x56 : Value) : VT := ⟨57, (.node (.node (.node (.node (.node (.node .nil x31 .nil) x15 (.node .nil x47 .nil)) x7 (.node (.node .nil x39 .nil) x23 (.node .nil x55 .nil))) x3 (.node (.node (.node .nil x35 .nil) x19 (.node .nil x51 .nil)) x11 (.node (.node .nil x43 .nil) x27 .nil))) x1 (.node (.node (.node (.node .nil x33 .nil) x17 (.node .nil x49 .nil)) x9 (.node (.node .nil x41 .nil) x25 .nil)) x5 (.node (.node (.node .nil x37 .nil) x21 (.node .nil x53 .nil)) x13 (.node (.node .nil x45 .nil) x29 .nil)))) x0 (.node (.node (.node (.node (.node .nil x32 .nil) x16 (.node .nil x48 .nil)) x8 (.node (.node .nil x40 .nil) x24 (.node .nil x56 .nil))) x4 (.node (.node (.node .nil x36 .nil) x20 (.node .nil x52 .nil)) x12 (.node (.node .nil x44 .nil) x28 .nil))) x2 (.node (.node (.node (.node .nil x34 .nil) x18 (.node .nil x50 .nil)) x10 (.node (.node .nil x42 .nil) x26 .nil)) x6 (.node (.node (.node .nil x38 .nil) x22 (.node .nil x54 .nil)) x14 (.node (.node .nil x46 .nil) x30 .nil)))))⟩
theorem F57_arr (x0 x1 x2 x3 x4 x5 x6 x7 x8 x9 x10 x11 x12 x13 x14 x15 x16 x17 x18 x19 x20 x21 x22 x23 x24 x25 x26 x27 x28 x29 x30 x31 x32 x33 x34 x35 x36 x37 x38 x39 x40 x41 x42 x43 x44 x45 x46 x47 x48 x49 x50 x51 x52 x53 x54 x55 x56 : Value) : (F57 x0 x1 x2 x3 x4 x5 x6 x7 x8 x9 x10 x11 x12 x13 x14 x15 x16 x17 x18 x19 x20 x21 x22 x23 x24 x25 x26 x27 x28 x29 x30 x31 x32 x33 x34 x35 x36 x37 x38 x39 x40 x41 x42 x43 x44 x45 x46 x47 x48 x49 x50 x51 x52 x53 x54 x55 x56).arr = ⟨[x0, x1, x2, x3, x4, x5, x6, x7, x8, x9, x10, x11, x12, x13, x14, x15, x16, x17, x18, x19, x20, x21, x22, x23, x24, x25, x26, x27, x28, x29, x30, x31, x32, x33, x34, x35, x36, x37, x38, x39, x40, x41, x42, x43, x44, x45, x46, x47, x48, x49, x50, x51, x52, x53, x54, x55, x56]⟩ := by kernel_rfl
theorem F6_g2 (x0 x1 x2 x3 x4 x5 : Value) : (F6 x0 x1 x2 x3 x4 x5).get 2 = x2 := by kernel_rfl
attribute [push_cast] F6_g2
theorem F7_g2 (x0 x1 x2 x3 x4 x5 x6 : Value) : (F7 x0 x1 x2 x3 x4 x5 x6).get 2 = x2 := by kernel_rfl
attribute [push_cast] F7_g2
theorem F8_g2 (x0 x1 x2 x3 x4 x5 x6 x7 : Value) : (F8 x0 x1 x2 x3 x4 x5 x6 x7).get 2 = x2 := by kernel_rfl
attribute [push_cast] F8_g2
theorem F15_g4 (x0 x1 x2 x3 x4 x5 x6 x7 x8 x9 x10 x11 x12 x13 x14 : Value) : (F15 x0 x1 x2 x3 x4 x5 x6 x7 x8 x9 x10 x11 x12 x13 x14).get 4 = x4 := by kernel_rfl
attribute [push_cast] F15_g4
theorem F31_g4 (x0 x1 x2 x3 x4 x5 x6 x7 x8 x9 x10 x11 x12 x13 x14 x15 x16 x17 x18 x19 x20 x21 x22 x23 x24 x25 x26 x27 x28 x29 x30 : Value) : (F31 x0 x1 x2 x3 x4 x5 x6 x7 x8 x9 x10 x11 x12 x13 x14 x15 x16 x17 x18 x19 x20 x21 x22 x23 x24 x25 x26 x27 x28 x29 x30).get 4 = x4 := by kernel_rfl
attribute [push_cast] F31_g4
theorem F57_g4 (x0 x1 x2 x3 x4 x5 x6 x7 x8 x9 x10 x11 x12 x13 x14 x15 x16 x17 x18 x19 x20 x21 x22 x23 x24 x25 x26 x27 x28 x29 x30 x31 x32 x33 x34 x35 x36 x37 x38 x39 x40 x41 x42 x43 x44 x45 x46 x47 x48 x49 x50 x51 x52 x53 x54 x55 x56 : Value) : (F57 x0 x1 x2 x3 x4 x5 x6 x7 x8 x9 x10 x11 x12 x13 x14 x15 x16 x17 x18 x19 x20 x21 x22 x23 x24 x25 x26 x27 x28 x29 x30 x31 x32 x33 x34 x35 x36 x37 x38 x39 x40 x41 x42 x43 x44 x45 x46 x47 x48 x49 x50 x51 x52 x53 x54 x55 x56).get 4 = x4 := by kernel_rfl
attribute [push_cast] F57_g4
noncomputable def ir21_s0 : IR := (.seq (.seq (.ops [⟨(some 30), none, .take, (.move (.tmp 6)), 3⟩, ⟨(some 31), none, .take, (.binOp .geq 3 (.tmp 30) (.const (.int .i64 0)) 3), 4⟩]) (.cond (.tmp 31) .skip (.exit 0))) (.seq (.block 1 (.plan (.take 0 false ⟨(some 34), none, .take, (.move (.tmp 0)), 26⟩ (.take 1 false ⟨(some 35), none, .take, (.move (.tmp 0)), 26⟩ (.take 2 false ⟨(some 36), none, .take, (.nilCheck (.tmp 35)), 0⟩ (.take 3 false ⟨(some 37), none, .take, (.fieldAddr 48 (.tmp 36) 1), 0⟩ (.take 4 true ⟨(some 38), none, .take, (.load 23 (.tmp 37)), 23⟩ (.take 5 false ⟨(some 39), none, .take, (.move (.tmp 1)), 23⟩ (.take 6 false ⟨(some 40), none, .take, (.call ⟨(.builtin .len), #[(.tmp 39)], #[23]⟩), 3⟩ (.take 7 false ⟨(some 41), none, .take, (.move (.tmp 6)), 3⟩ (.take 8 false ⟨(some 42), none, .take, (.binOp .shr 3 (.tmp 40) (.tmp 41) 3), 3⟩ (.take 9 true ⟨(some 43), none, .take, (.convert 3 5 (.tmp 42)), 5⟩ (.eff 10 ⟨(some 44), none, .eff, (.buildSlice 23 1 #[(0, (.tmp 43))]), 23⟩ [9] (.eff 11 ⟨(some 45), none, .eff, (.call ⟨(.builtin .append), #[(.tmp 38), (.tmp 44)], #[23, 23]⟩), 23⟩ [4, 10] (.take 12 false ⟨(some 46), none, .take, (.nilCheck (.tmp 34)), 0⟩ (.take 13 false ⟨(some 47), none, .take, (.fieldAddr 48 (.tmp 46) 1), 0⟩ (.eff 14 ⟨none, none, .eff, (.store 23 (.tmp 47) (.tmp 45)), 0⟩ [13, 11, 11, 0, 1, 2, 3, 4, 5, 6, 7, 8, 9, 10, 11] .fin .no))) .no) .no))))))))))))) (.ops [⟨(some 32), none, .take, (.move (.tmp 6)), 3⟩, ⟨(some 33), none, .take, (.binOp .sub 3 (.tmp 32) (.const (.int .i64 8)) 3), 3⟩, ⟨(some 6), none, .take, (.assign (.tmp 33)), 3⟩])))
noncomputable def ir21_s1 : IR := (.seq (.ops [⟨(some 48), none, .take, (.move (.tmp 0)), 26⟩, ⟨(some 49), none, .take, (.move (.tmp 0)), 26⟩, ⟨(some 50), none, .take, (.nilCheck (.tmp 49)), 0⟩, ⟨(some 51), none, .take, (.fieldAddr 48 (.tmp 50) 1), 0⟩, ⟨(some 52), none, .take, (.load 23 (.tmp 51)), 23⟩, ⟨(some 53), none, .take, (.move (.tmp 1)), 23⟩, ⟨(some 54), none, .eff, (.call ⟨(.builtin .append), #[(.tmp 52), (.tmp 53)], #[23, 23]⟩), 23⟩, ⟨(some 55), none, .take, (.nilCheck (.tmp 48)), 0⟩, ⟨(some 56), none, .take, (.fieldAddr 48 (.tmp 55) 1), 0⟩, ⟨none, none, .eff, (.store 23 (.tmp 56) (.tmp 54)), 0⟩]) (.seq (.ops [⟨(some 4), none, .take, (.assign (.const (.bool true))), 4⟩]) .ret))
noncomputable def ir26_s0 : IR := (.seq (.ops [⟨(some 16), none, .take, (.binOp .lss 3 (.tmp 15) (.tmp 14) 3), 0⟩]) (.seq (.cond (.tmp 16) .skip (.exit 0)) (.seq (.block 1 (.seq (.ops [⟨(some 17), none, .take, (.indexAddr 35 (.tmp 13) (.tmp 15)), 0⟩, ⟨(some 18), none, .take, (.load 23 (.tmp 17)), 23⟩, ⟨(some 7), none, .take, (.assign (.tmp 18)), 23⟩]) (.seq (.ops [⟨(some 19), none, .take, (.move (.tmp 5)), 26⟩, ⟨(some 20), none, .take, (.move (.tmp 7)), 23⟩, ⟨(some 21), none, .call, (.call ⟨(.value (.func 21)), #[(.tmp 19), (.tmp 20)], #[26, 23]⟩), 4⟩, ⟨(some 22), none, .take, (.unOp .not 4 (.tmp 21)), 4⟩]) (.cond (.tmp 22) (.seq (.ops [⟨(some 4), none, .take, (.assign (.const (.bool false))), 4⟩]) .ret) .skip)))) (.ops [⟨(some 23), none, .take, (.binOp .add 3 (.tmp 15) (.const (.int .i64 1)) 3), 3⟩, ⟨(some 15), none, .take, (.move (.tmp 23)), 3⟩]))))
noncomputable def ir26_s1 : IR := (.seq (.ops [⟨(some 24), none, .take, (.move (.tmp 5)), 26⟩, ⟨(some 25), none, .call, (.call ⟨(.value (.func 22)), #[(.tmp 24)], #[26]⟩), 0⟩]) (.seq (.ops [⟨(some 26), none, .take, (.move (.tmp 0)), 26⟩, ⟨(some 27), none, .take, (.move (.tmp 5)), 26⟩, ⟨(some 28), none, .take, (.nilCheck (.tmp 27)), 0⟩, ⟨(some 29), none, .take, (.load 48 (.tmp 28)), 48⟩, ⟨(some 30), none, .take, (.nilCheck (.tmp 26)), 0⟩, ⟨none, none, .eff, (.store 48 (.tmp 30) (.tmp 29)), 0⟩]) (.seq (.ops [⟨(some 4), none, .take, (.assign (.const (.bool true))), 4⟩]) .ret)))
theorem sh_ir14 (G : Nat) (h : Heap) (a0 a1 : Value) (R : Value → Heap → Prop) : vc3 (pp G) none ir14 ⟨(F15 a0 a1 undef undef undef undef undef undef undef undef undef undef undef undef undef), [], h⟩ (finR Try.prog [(.tmp 4)] R) = (oT (some (.int .i64 0)) none h (@kk ⟨(fun v1 h2 => oT (some a0) none h2 (@kk ⟨(fun v3 h4 => oT (some a1) none h4 (@kk ⟨(fun v5 h6 => oT (binPure Try.prog .rem 3 (.tmp 6) (.tmp 7) v3 v5) none h6 (@kk ⟨(fun v7 h8 => oT (some v7) none h8 (@kk ⟨(fun v9 h10 => oT (some v9) none h10 (@kk ⟨(fun v11 h12 => oT (binPure Try.prog .lss 3 (.tmp 9) (.const (.int .i64 0)) v11 (.int .i64 0)) none h12 (@kk ⟨(fun v13 h14 => vcond v13 (@kb ⟨(oT (some v9) none h14 (@kk ⟨(fun v15 h16 => oT (some a1) none h16 (@kk ⟨(fun v17 h18 => oT (binPure Try.prog .add 3 (.tmp 11) (.tmp 12) v15 v17) none h18 (@kk ⟨(fun v19 h20 => oT (some v19) none h20 (@kk ⟨(fun v21 h22 => oT (some v21) none h22 (@kk ⟨(fun v23 h24 => oT (some v23) none h24 (@kk ⟨(fun v25 h26 => R v25 h26)⟩))⟩))⟩))⟩))⟩))⟩))⟩) (@kb ⟨(oT (some v9) none h14 (@kk ⟨(fun v27 h28 => oT (some v27) none h28 (@kk ⟨(fun v29 h30 => R v29 h30)⟩))⟩))⟩))⟩))⟩))⟩))⟩))⟩))⟩))⟩)) := by kernel_rfl
theorem sh_ir15 (G : Nat) (h : Heap) (a0 : Value) (R : Value → Heap → Prop) : vc3 (pp G) none ir15 ⟨(F6 a0 undef undef undef undef undef), [], h⟩ (finR Try.prog [(.tmp 2)] R) = (oT (some (.pointer none)) none h (@kk ⟨(fun v1 h2 => oT (some a0) none h2 (@kk ⟨(fun v3 h4 => oT (bdV (plc Try.prog 48) [(0, v3)]) none h4 (@kk ⟨(fun v5 h6 => oE (bxE 48 v5 h6) (@kk ⟨(fun v7 h8 => oT (some v7) none h8 (@kk ⟨(fun v9 h10 => R v9 h10)⟩))⟩))⟩))⟩))⟩)) := by kernel_rfl
theorem sh_ir21 (G : Nat) (h : Heap) (a0 a1 : Value) (R : Value → Heap → Prop) : vc3 (pp G) none ir21 ⟨(F57 a0 a1 undef undef undef undef undef undef undef undef undef undef undef undef undef undef undef undef undef undef undef undef undef undef undef undef undef undef undef undef undef undef undef undef undef undef undef undef undef undef undef undef undef undef undef undef undef undef undef undef undef undef undef undef undef undef undef), [], h⟩ (finR Try.prog [(.tmp 4)] R) = (oT (some (.bool false)) none h (@kk ⟨(fun v1 h2 => oT (some a1) none h2 (@kk ⟨(fun v3 h4 => oT (lnB (lnT Try.prog 23) v3) none h4 (@kk ⟨(fun v5 h6 => oT (binPure Try.prog .add 3 (.const (.int .i64 4)) (.tmp 8) (.int .i64 4) v5) none h6 (@kk ⟨(fun v7 h8 => oT (some v7) none h8 (@kk ⟨(fun v9 h10 => oP (some v9) h10 (@kk ⟨(fun v11 _ => oP (some a0) h10 (@kk ⟨(fun v12 _ => oP (ncV v12) h10 (@kk ⟨(fun v13 _ => oP (faV (fld Try.prog 48 0) v13) h10 (@kk ⟨(fun v14 _ => oP (evLoad Try.prog 3 v14 h10) h10 (@kk ⟨(fun v15 _ => oP (binPure Try.prog .gtr 3 (.tmp 10) (.tmp 14) v11 v15) h10 (@kk ⟨(fun v17 _ => oP (some v17) h10 (@kk ⟨(fun v18 _ => gP v18 false (some a0) h10 (@kk ⟨(fun v19 _ => gP v18 false (ncV v19) h10 (@kk ⟨(fun v20 _ => gP v18 false (faV (fld Try.prog 48 1) v20) h10 (@kk ⟨(fun v21 _ => gRd v18 false (evLoad Try.prog 23 v21 h10) 10 (fun h23 => (evLoad Try.prog 23 v21 h23)) h10 (@ke ⟨(fun v22 e24 => gP v18 false (lnB (lnT Try.prog 23) v22) h10 (@kk ⟨(fun v25 _ => gP v18 false (some a0) h10 (@kk ⟨(fun v26 _ => gP v18 false (ncV v26) h10 (@kk ⟨(fun v27 _ => gP v18 false (faV (fld Try.prog 48 0) v27) h10 (@kk ⟨(fun v28 _ => gRd v18 false (evLoad Try.prog 3 v28 h10) 15 (fun h30 => (evLoad Try.prog 3 v28 h30)) h10 (@ke ⟨(fun v29 e31 => gP v18 false (some v9) h10 (@kk ⟨(fun v32 _ => gP v18 false (binPure Try.prog .sub 3 (.tmp 25) (.tmp 26) v29 v32) h10 (@kk ⟨(fun v33 _ => gP v18 false (binPure Try.prog .gtr 3 (.tmp 21) (.tmp 27) v25 v33) h10 (@kk ⟨(fun v34 _ => oP (pickV v18 (.bool true) v34) h10 (@kk ⟨(fun v35 _ => vcond v35 (@kb ⟨(oT (some (.bool false)) none h10 (@kk ⟨(fun v36 h37 => R v36 h37)⟩))⟩) (@kb ⟨(oT (some (.int .i64 24)) none h10 (@kk ⟨(fun v38 h39 => W (pp G) none (.loop ir21_s0) ⟨(F57 a0 a1 undef undef v1 v9 v38 v3 v5 v7 v11 v12 v13 v14 v15 v17 v18 v19 v20 v21 v22 v25 v26 v27 v28 v29 v32 v33 v34 v35 undef undef undef undef undef undef undef undef undef undef undef undef undef undef undef undef undef undef undef undef undef undef undef undef undef undef undef), [], h39⟩ (@kR ⟨(outR3 0 (thenR3 (fun s1 => vc3 (pp G) none ir21_s1 s1 (@kR ⟨(finR Try.prog [(.tmp 4)] R)⟩)) (finR Try.prog [(.tmp 4)] R)))⟩))⟩))⟩))⟩))⟩))⟩))⟩))⟩))⟩))⟩))⟩))⟩))⟩))⟩))⟩))⟩))⟩))⟩))⟩))⟩))⟩))⟩))⟩))⟩))⟩))⟩))⟩))⟩)) := by kernel_rfl
theorem sh_ir22 (G : Nat) (h : Heap) (a0 : Value) (R : Value → Heap → Prop) : vc3 (pp G) none ir22 ⟨(F10 a0 undef undef undef undef undef undef undef undef undef), [], h⟩ (finR Try.prog [] R) = (oT (some a0) none h (@kk ⟨(fun v1 h2 => oT (some a0) none h2 (@kk ⟨(fun v3 h4 => oT (ncV v3) none h4 (@kk ⟨(fun v5 h6 => oT (faV (fld Try.prog 48 1) v5) none h6 (@kk ⟨(fun v7 h8 => oT (evLoad Try.prog 23 v7 h8) none h8 (@kk ⟨(fun v9 h10 => oT (lnB (lnT Try.prog 23) v9) none h10 (@kk ⟨(fun v11 h12 => oT (ncV v1) none h12 (@kk ⟨(fun v13 h14 => oT (faV (fld Try.prog 48 2) v13) none h14 (@kk ⟨(fun v15 h16 => oE (stE (szT Try.prog 3) v15 v11 h16) (@kk ⟨(fun v17 h18 => R (.tuple #[]) h18)⟩))⟩))⟩))⟩))⟩))⟩))⟩))⟩))⟩)) := by kernel_rfl
theorem sh_ir24 (G : Nat) (h : Heap) (a0 : Value) (R : Value → Heap → Prop) : vc3 (pp G) none ir24 ⟨(F7 a0 undef undef undef undef undef undef), [], h⟩ (finR Try.prog [(.tmp 2)] R) = (oT (some (.int .i64 0)) none h (@kk ⟨(fun v1 h2 => oT (some a0) none h2 (@kk ⟨(fun v3 h4 => oT (ncV v3) none h4 (@kk ⟨(fun v5 h6 => oT (faV (fld Try.prog 48 2) v5) none h6 (@kk ⟨(fun v7 h8 => oT (evLoad Try.prog 3 v7 h8) none h8 (@kk ⟨(fun v9 h10 => oT (some v9) none h10 (@kk ⟨(fun v11 h12 => R v11 h12)⟩))⟩))⟩))⟩))⟩))⟩)) := by kernel_rfl
theorem sh_ir25 (G : Nat) (h : Heap) (a0 : Value) (R : Value → Heap → Prop) : vc3 (pp G) none ir25 ⟨(F8 a0 undef undef undef undef undef undef undef), [], h⟩ (finR Try.prog [(.tmp 2)] R) = (oT (some (.int .i64 0)) none h (@kk ⟨(fun v1 h2 => oT (some a0) none h2 (@kk ⟨(fun v3 h4 => oT (ncV v3) none h4 (@kk ⟨(fun v5 h6 => oT (faV (fld Try.prog 48 1) v5) none h6 (@kk ⟨(fun v7 h8 => oT (evLoad Try.prog 23 v7 h8) none h8 (@kk ⟨(fun v9 h10 => oT (lnB (lnT Try.prog 23) v9) none h10 (@kk ⟨(fun v11 h12 => oT (some v11) none h12 (@kk ⟨(fun v13 h14 => R v13 h14)⟩))⟩))⟩))⟩))⟩))⟩))⟩)) := by kernel_rfl
theorem sh_ir26 (G : Nat) (h : Heap) (a0 a1 : Value) (R : Value → Heap → Prop) : vc3 (pp G) none ir26 ⟨(F31 a0 a1 undef undef undef undef undef undef undef undef undef undef undef undef undef undef undef undef undef undef undef undef undef undef undef undef undef undef undef undef undef), [], h⟩ (finR Try.prog [(.tmp 4)] R) = (oT (some (.bool false)) none h (@kk ⟨(fun v1 h2 => oT (some a0) none h2 (@kk ⟨(fun v3 h4 => oT (ncV v3) none h4 (@kk ⟨(fun v5 h6 => oT (faV (fld Try.prog 48 0) v5) none h6 (@kk ⟨(fun v7 h8 => oT (evLoad Try.prog 3 v7 h8) none h8 (@kk ⟨(fun v9 h10 => CallV (pp G) (.func (.func 15) #[] #[]) [v9] h10 (@kk ⟨(fun v11 h12 => oT (some v11) none h12 (@kk ⟨(fun v13 h14 => oT (some a1) none h14 (@kk ⟨(fun v15 h16 => oT (lnB (lnT Try.prog 35) v15) none h16 (@kk ⟨(fun v17 h18 => oT (some (.int .i64 0)) none h18 (@kk ⟨(fun v19 h20 => W (pp G) none (.loop ir26_s0) ⟨(F31 a0 a1 undef undef v1 v13 undef undef v3 v5 v7 v9 v11 v15 v17 v19 undef undef undef undef undef undef undef undef undef undef undef undef undef undef undef), [], h20⟩ (@kR ⟨(outR3 0 (thenR3 (fun s1 => vc3 (pp G) none ir26_s1 s1 (@kR ⟨(finR Try.prog [(.tmp 4)] R)⟩)) (finR Try.prog [(.tmp 4)] R)))⟩))⟩))⟩))⟩))⟩))⟩))⟩))⟩))⟩))⟩))⟩)) := by kernel_rfl
theorem sh_ir21_s0 (G : Nat) (ro : Option Nat) (df : List Nat) (h : Heap) (x0 x1 x2 x3 x4 x5 x6 x7 x8 x9 x10 x11 x12 x13 x14 x15 x16 x17 x18 x19 x20 x21 x22 x23 x24 x25 x26 x27 x28 x29 x30 x31 x32 x33 x34 x35 x36 x37 x38 x39 x40 x41 x42 x43 x44 x45 x46 x47 x48 x49 x50 x51 x52 x53 x54 x55 x56 : Value) (R : XExit → S → Prop) : vc3 (pp G) ro ir21_s0 ⟨(F57 x0 x1 x2 x3 x4 x5 x6 x7 x8 x9 x10 x11 x12 x13 x14 x15 x16 x17 x18 x19 x20 x21 x22 x23 x24 x25 x26 x27 x28 x29 x30 x31 x32 x33 x34 x35 x36 x37 x38 x39 x40 x41 x42 x43 x44 x45 x46 x47 x48 x49 x50 x51 x52 x53 x54 x55 x56), df, h⟩ R = (oT (some x6) none h (@kk ⟨(fun v1 h2 => oT (binPure Try.prog .geq 3 (.tmp 30) (.const (.int .i64 0)) v1 (.int .i64 0)) none h2 (@kk ⟨(fun v3 h4 => vcond v3 (@kb ⟨(oP (some x0) h4 (@kk ⟨(fun v5 _ => oP (some x0) h4 (@kk ⟨(fun v6 _ => oP (ncV v6) h4 (@kk ⟨(fun v7 _ => oP (faV (fld Try.prog 48 1) v7) h4 (@kk ⟨(fun v8 _ => oP (evLoad Try.prog 23 v8 h4) h4 (@kk ⟨(fun v9 _ => oP (some x1) h4 (@kk ⟨(fun v11 _ => oP (lnB (lnT Try.prog 23) v11) h4 (@kk ⟨(fun v12 _ => oP (some x6) h4 (@kk ⟨(fun v13 _ => oP (binPure Try.prog .shr 3 (.tmp 40) (.tmp 41) v12 v13) h4 (@kk ⟨(fun v14 _ => oP (cvV Try.prog 3 5 v14 h4) h4 (@kk ⟨(fun v15 _ => oE (bsE (slT Try.prog 23) 1 [(0, v15)] h4) (@kk ⟨(fun v17 h18 => keptK (keptP [9] h18 [(9, (fun h16 => (cvV Try.prog 3 5 v14 h16)), v15), (4, (fun h10 => (evLoad Try.prog 23 v8 h10)), v9)]) (@kb ⟨(oE (evAppend Try.prog 23 23 v9 v17 h18) (@kk ⟨(fun v19 h20 => keptK (keptP [4, 10] h20 [(9, (fun h16 => (cvV Try.prog 3 5 v14 h16)), v15), (4, (fun h10 => (evLoad Try.prog 23 v8 h10)), v9)]) (@kb ⟨(oP (ncV v5) h20 (@kk ⟨(fun v21 _ => oP (faV (fld Try.prog 48 1) v21) h20 (@kk ⟨(fun v22 _ => oE (stE (szT Try.prog 23) v22 v19 h20) (@kk ⟨(fun v23 h24 => keptK (keptP [13, 11, 11, 0, 1, 2, 3, 4, 5, 6, 7, 8, 9, 10, 11] h24 [(9, (fun h16 => (cvV Try.prog 3 5 v14 h16)), v15), (4, (fun h10 => (evLoad Try.prog 23 v8 h10)), v9)]) (@kb ⟨(oT (some x6) none h24 (@kk ⟨(fun v25 h26 => oT (binPure Try.prog .sub 3 (.tmp 32) (.const (.int .i64 8)) v25 (.int .i64 8)) none h26 (@kk ⟨(fun v27 h28 => oT (some v27) none h28 (@kk ⟨(fun v29 h30 => R .normal ⟨(F57 x0 x1 x2 x3 x4 x5 v29 x7 x8 x9 x10 x11 x12 x13 x14 x15 x16 x17 x18 x19 x20 x21 x22 x23 x24 x25 x26 x27 x28 x29 v1 v3 v25 v27 v5 v6 v7 v8 v9 v11 v12 v13 v14 v15 v17 v19 v21 v22 x48 x49 x50 x51 x52 x53 x54 x55 x56), df, h30⟩)⟩))⟩))⟩))⟩))⟩))⟩))⟩))⟩))⟩))⟩))⟩))⟩))⟩))⟩))⟩))⟩))⟩))⟩))⟩))⟩))⟩))⟩) (@kb ⟨(R (.exit 0) ⟨(F57 x0 x1 x2 x3 x4 x5 x6 x7 x8 x9 x10 x11 x12 x13 x14 x15 x16 x17 x18 x19 x20 x21 x22 x23 x24 x25 x26 x27 x28 x29 v1 v3 x32 x33 x34 x35 x36 x37 x38 x39 x40 x41 x42 x43 x44 x45 x46 x47 x48 x49 x50 x51 x52 x53 x54 x55 x56), df, h4⟩)⟩))⟩))⟩)) := by kernel_rfl
attribute [push_cast] sh_ir21_s0
theorem sh_ir21_s1 (G : Nat) (ro : Option Nat) (df : List Nat) (h : Heap) (x0 x1 x2 x3 x4 x5 x6 x7 x8 x9 x10 x11 x12 x13 x14 x15 x16 x17 x18 x19 x20 x21 x22 x23 x24 x25 x26 x27 x28 x29 x30 x31 x32 x33 x34 x35 x36 x37 x38 x39 x40 x41 x42 x43 x44 x45 x46 x47 x48 x49 x50 x51 x52 x53 x54 x55 x56 : Value) (R : XExit → S → Prop) : vc3 (pp G) ro ir21_s1 ⟨(F57 x0 x1 x2 x3 x4 x5 x6 x7 x8 x9 x10 x11 x12 x13 x14 x15 x16 x17 x18 x19 x20 x21 x22 x23 x24 x25 x26 x27 x28 x29 x30 x31 x32 x33 x34 x35 x36 x37 x38 x39 x40 x41 x42 x43 x44 x45 x46 x47 x48 x49 x50 x51 x52 x53 x54 x55 x56), df, h⟩ R = (oT (some x0) none h (@kk ⟨(fun v1 h2 => oT (some x0) none h2 (@kk ⟨(fun v3 h4 => oT (ncV v3) none h4 (@kk ⟨(fun v5 h6 => oT (faV (fld Try.prog 48 1) v5) none h6 (@kk ⟨(fun v7 h8 => oT (evLoad Try.prog 23 v7 h8) none h8 (@kk ⟨(fun v9 h10 => oT (some x1) none h10 (@kk ⟨(fun v11 h12 => oE (evAppend Try.prog 23 23 v9 v11 h12) (@kk ⟨(fun v13 h14 => oT (ncV v1) none h14 (@kk ⟨(fun v15 h16 => oT (faV (fld Try.prog 48 1) v15) none h16 (@kk ⟨(fun v17 h18 => oE (stE (szT Try.prog 23) v17 v13 h18) (@kk ⟨(fun v19 h20 => oT (some (.bool true)) none h20 (@kk ⟨(fun v21 h22 => R .ret ⟨(F57 x0 x1 x2 x3 v21 x5 x6 x7 x8 x9 x10 x11 x12 x13 x14 x15 x16 x17 x18 x19 x20 x21 x22 x23 x24 x25 x26 x27 x28 x29 x30 x31 x32 x33 x34 x35 x36 x37 x38 x39 x40 x41 x42 x43 x44 x45 x46 x47 v1 v3 v5 v7 v9 v11 v13 v15 v17), df, h22⟩)⟩))⟩))⟩))⟩))⟩))⟩))⟩))⟩))⟩))⟩))⟩)) := by kernel_rfl
attribute [push_cast] sh_ir21_s1
theorem sh_ir26_s0 (G : Nat) (ro : Option Nat) (df : List Nat) (h : Heap) (x0 x1 x2 x3 x4 x5 x6 x7 x8 x9 x10 x11 x12 x13 x14 x15 x16 x17 x18 x19 x20 x21 x22 x23 x24 x25 x26 x27 x28 x29 x30 : Value) (R : XExit → S → Prop) : vc3 (pp G) ro ir26_s0 ⟨(F31 x0 x1 x2 x3 x4 x5 x6 x7 x8 x9 x10 x11 x12 x13 x14 x15 x16 x17 x18 x19 x20 x21 x22 x23 x24 x25 x26 x27 x28 x29 x30), df, h⟩ R = (oT (binPure Try.prog .lss 3 (.tmp 15) (.tmp 14) x15 x14) none h (@kk ⟨(fun v1 h2 => vcond v1 (@kb ⟨(oT (iaV (esz Try.prog 35) x13 x15) none h2 (@kk ⟨(fun v3 h4 => oT (evLoad Try.prog 23 v3 h4) none h4 (@kk ⟨(fun v5 h6 => oT (some v5) none h6 (@kk ⟨(fun v7 h8 => oT (some x5) none h8 (@kk ⟨(fun v9 h10 => oT (some v7) none h10 (@kk ⟨(fun v11 h12 => CallV (pp G) (.func (.func 21) #[] #[]) [v9, v11] h12 (@kk ⟨(fun v13 h14 => oT (unV Try.prog .not v13) none h14 (@kk ⟨(fun v15 h16 => vcond v15 (@kb ⟨(oT (some (.bool false)) none h16 (@kk ⟨(fun v17 h18 => R .ret ⟨(F31 x0 x1 x2 x3 v17 x5 x6 v7 x8 x9 x10 x11 x12 x13 x14 x15 v1 v3 v5 v9 v11 v13 v15 x23 x24 x25 x26 x27 x28 x29 x30), df, h18⟩)⟩))⟩) (@kb ⟨(oT (binPure Try.prog .add 3 (.tmp 15) (.const (.int .i64 1)) x15 (.int .i64 1)) none h16 (@kk ⟨(fun v19 h20 => oT (some v19) none h20 (@kk ⟨(fun v21 h22 => R .normal ⟨(F31 x0 x1 x2 x3 x4 x5 x6 v7 x8 x9 x10 x11 x12 x13 x14 v21 v1 v3 v5 v9 v11 v13 v15 v19 x24 x25 x26 x27 x28 x29 x30), df, h22⟩)⟩))⟩))⟩))⟩))⟩))⟩))⟩))⟩))⟩))⟩))⟩) (@kb ⟨(R (.exit 0) ⟨(F31 x0 x1 x2 x3 x4 x5 x6 x7 x8 x9 x10 x11 x12 x13 x14 x15 v1 x17 x18 x19 x20 x21 x22 x23 x24 x25 x26 x27 x28 x29 x30), df, h2⟩)⟩))⟩)) := by kernel_rfl
attribute [push_cast] sh_ir26_s0
theorem sh_ir26_s1 (G : Nat) (ro : Option Nat) (df : List Nat) (h : Heap) (x0 x1 x2 x3 x4 x5 x6 x7 x8 x9 x10 x11 x12 x13 x14 x15 x16 x17 x18 x19 x20 x21 x22 x23 x24 x25 x26 x27 x28 x29 x30 : Value) (R : XExit → S → Prop) : vc3 (pp G) ro ir26_s1 ⟨(F31 x0 x1 x2 x3 x4 x5 x6 x7 x8 x9 x10 x11 x12 x13 x14 x15 x16 x17 x18 x19 x20 x21 x22 x23 x24 x25 x26 x27 x28 x29 x30), df, h⟩ R = (oT (some x5) none h (@kk ⟨(fun v1 h2 => CallV (pp G) (.func (.func 22) #[] #[]) [v1] h2 (@kk ⟨(fun v3 h4 => oT (some x0) none h4 (@kk ⟨(fun v5 h6 => oT (some x5) none h6 (@kk ⟨(fun v7 h8 => oT (ncV v7) none h8 (@kk ⟨(fun v9 h10 => oT (evLoad Try.prog 48 v9 h10) none h10 (@kk ⟨(fun v11 h12 => oT (ncV v5) none h12 (@kk ⟨(fun v13 h14 => oE (stE (szT Try.prog 48) v13 v11 h14) (@kk ⟨(fun v15 h16 => oT (some (.bool true)) none h16 (@kk ⟨(fun v17 h18 => R .ret ⟨(F31 x0 x1 x2 x3 v17 x5 x6 x7 x8 x9 x10 x11 x12 x13 x14 x15 x16 x17 x18 x19 x20 x21 x22 x23 v1 v3 v5 v7 v9 v11 v13), df, h18⟩)⟩))⟩))⟩))⟩))⟩))⟩))⟩))⟩))⟩)) := by kernel_rfl
attribute [push_cast] sh_ir26_s1
end
end Go.Proofs.Ytohdgkmgkcoilaa

namespace Go.Proofs.Ytohdgkmgkcoilaa
open Go Go.RowKit Go.Ev
noncomputable section
set_option linter.unusedSimpArgs false
set_option linter.unusedVariables false
variable (G : Nat) (h : Heap)

theorem Own_lt {h : Heap} {e n : Nat} {a : Option Addr} {len c : Nat} {cs : List Value} (ho : Own h e n a len c cs) : ∀ b, blk a b → b < h.next := by
  intro b hb
  obtain ⟨o, s, rfl⟩ := hb
  rcases ho.hat with ⟨h0, _⟩ | ⟨b', m, ha, _, h2, _⟩
  · cases h0
  · cases ha; exact h2

def Wi (a m : Int) : Int := if a.tmod m < 0 then a.tmod m + m else a.tmod m
theorem Wi_range (a m : Int) (h1 : 1 ≤ m) : 0 ≤ Wi a m ∧ Wi a m < m := by
  have hlt := Int.tmod_lt_of_pos a (show 0 < m by omega)
  have hgt := Int.lt_tmod_of_pos a (show 0 < m by omega)
  unfold Wi
  split <;> omega
theorem within_w (a m : Int) (h1 : 1 ≤ m) (h2 : m ≤ 4611686018427387904) : CallE (pp G) 14 [.int .i64 a, .int .i64 m] h (fun v h' => v = .int .i64 (Wi a m) ∧ h' = h) := by
  have hlt := Int.tmod_lt_of_pos a (show 0 < m by omega)
  have hgt := Int.lt_tmod_of_pos a (show 0 < m by omega)
  have hm : m ≠ 0 := by omega
  refine CallE.fir4 (good G) fir14 rfl rfl (F15_arr ..) fun hlo => ?_
  rw [sh_ir14]
  unfold Wi
  by_cases h : a.tmod m < 0
  · simp (disch := first | omega | (refine id ?_; simp only [push_cast]; done) | (refine id ?_; simp only [push_cast]; omega)) only [push_cast, Nat.reduceAdd, Nat.reduceMul, Nat.reduceSub, Nat.reduceLT, Nat.reduceEqDiff, Nat.reduceLeDiff, Int.reduceToNat, reduceCtorEq, Int.reduceLT, Int.reduceLE, Int.reduceAdd, Int.reduceSub, Int.reduceMul, Int.reduceNeg, Int.reduceEq, h, hm]
  · simp (disch := first | omega | (refine id ?_; simp only [push_cast]; done) | (refine id ?_; simp only [push_cast]; omega)) only [push_cast, Nat.reduceAdd, Nat.reduceMul, Nat.reduceSub, Nat.reduceLT, Nat.reduceEqDiff, Nat.reduceLeDiff, Int.reduceToNat, reduceCtorEq, Int.reduceLT, Int.reduceLE, Int.reduceAdd, Int.reduceSub, Int.reduceMul, Int.reduceNeg, Int.reduceEq, h, hm]

/-- a log: where it lies, its limit, where its bytes lie, its bytes, how many are sure -/
structure LogP (h : Heap) (p : Nat) (lim : Nat) (a : Option Addr) (c : Nat) (bs : List Int) (sure : Nat) : Prop where
  cell : cells h p = some ([.int .i64 lim, .slice a bs.length c, .int .i64 sure], 48, false)
  own : Own h 5 1 a bs.length c (bv bs)
  ne : ∀ b, blk a b → b ≠ p
  lo : h.lo ≤ p
  lt : p < h.next
  fits : bs.length ≤ lim
  sure : sure ≤ bs.length
/-- the blocks that are a log's -/
def LogB (p : Nat) (a : Option Addr) (b : Nat) : Prop := b = p ∨ blk a b
theorem LogP.grew {h h' : Heap} {S : Nat → Prop} {p lim : Nat} {a : Option Addr} {c : Nat} {bs : List Int} {sure : Nat} (l : LogP h p lim a c bs sure) (g : Grew h h' S) (hS : ∀ b, LogB p a b → ¬ S b) : LogP h' p lim a c bs sure :=
  ⟨by rw [g.cellsE l.cell l.lt (hS p (.inl rfl))], l.own.grew g fun b hb _ => hS b (.inr hb), l.ne, by rw [g.lo]; exact l.lo, Nat.lt_of_lt_of_le l.lt g.next, l.fits, l.sure⟩
theorem LogP.low {h : Heap} {p lim : Nat} {a : Option Addr} {c : Nat} {bs : List Int} {sure : Nat} (l : LogP h p lim a c bs sure) : ∀ b, LogB p a b → b < h.next := fun b hb => by
  rcases hb with rfl | hb
  · exact l.lt
  · exact Own_lt l.own b hb

theorem new_w (lim : Nat) : CallE (pp G) 15 [.int .i64 lim] h (fun v h' => v = .pointer (some ⟨h.next, 0, none⟩) ∧ LogP h' h.next lim none 0 [] 0 ∧ Gr h h' ∧ h'.next = h.next + 1) := by
  refine CallE.fir4 (good G) fir15 rfl rfl (F6_arr ..) fun hlo => ?_
  rw [sh_ir15]
  simp (disch := first | omega | (refine id ?_; simp only [push_cast]; done) | (refine id ?_; simp only [push_cast]; omega)) only [push_cast, Nat.reduceAdd, Nat.reduceMul, Nat.reduceSub, Nat.reduceLT, Nat.reduceEqDiff, Nat.reduceLeDiff, Int.reduceToNat, reduceCtorEq, Int.reduceLT, Int.reduceLE, Int.reduceAdd, Int.reduceSub, Int.reduceMul, Int.reduceNeg, Int.reduceEq]
  exact ⟨⟨cells_add_s _ _ _ _ rfl, Own.nil _ _ _, (fun b hb => by obtain ⟨o, s, hb⟩ := hb; cases hb), by rw [lo_add]; exact hlo, by rw [next_add]; omega, Nat.zero_le _, Nat.zero_le _⟩, (Gr.refl h).add' _⟩
theorem len_w {p lim : Nat} {a : Option Addr} {c : Nat} {bs : List Int} {sure : Nat} (l : LogP h p lim a c bs sure) : CallE (pp G) 25 [.pointer (some ⟨p, 0, none⟩)] h (fun v h' => v = .int .i64 bs.length ∧ h' = h) := by
  refine CallE.fir4 (good G) fir25 rfl rfl (F8_arr ..) fun hlo => ?_
  rw [sh_ir25]
  have hc := l.cell
  have hl := l.lo
  simp (disch := first | omega | (refine id ?_; simp only [push_cast]; done) | (refine id ?_; simp only [push_cast]; omega)) only [push_cast, Nat.reduceAdd, Nat.reduceMul, Nat.reduceSub, Nat.reduceLT, Nat.reduceEqDiff, Nat.reduceLeDiff, Int.reduceToNat, reduceCtorEq, Int.reduceLT, Int.reduceLE, Int.reduceAdd, Int.reduceSub, Int.reduceMul, Int.reduceNeg, Int.reduceEq, hc, hl]
theorem sure_w {p lim : Nat} {a : Option Addr} {c : Nat} {bs : List Int} {sure : Nat} (l : LogP h p lim a c bs sure) : CallE (pp G) 24 [.pointer (some ⟨p, 0, none⟩)] h (fun v h' => v = .int .i64 sure ∧ h' = h) := by
  refine CallE.fir4 (good G) fir24 rfl rfl (F7_arr ..) fun hlo => ?_
  rw [sh_ir24]
  have hc := l.cell
  have hl := l.lo
  simp (disch := first | omega | (refine id ?_; simp only [push_cast]; done) | (refine id ?_; simp only [push_cast]; omega)) only [push_cast, Nat.reduceAdd, Nat.reduceMul, Nat.reduceSub, Nat.reduceLT, Nat.reduceEqDiff, Nat.reduceLeDiff, Int.reduceToNat, reduceCtorEq, Int.reduceLT, Int.reduceLE, Int.reduceAdd, Int.reduceSub, Int.reduceMul, Int.reduceNeg, Int.reduceEq, hc, hl]
theorem sync_w {p lim : Nat} {a : Option Addr} {c : Nat} {bs : List Int} {sure : Nat} (l : LogP h p lim a c bs sure) : CallE (pp G) 22 [.pointer (some ⟨p, 0, none⟩)] h (fun v h' => v = .tuple #[] ∧ LogP h' p lim a c bs bs.length ∧ Grew h h' (fun b => b = p) ∧ h'.next = h.next) := by
  refine CallE.fir4 (good G) fir22 rfl rfl (F10_arr ..) fun hlo => ?_
  rw [sh_ir22]
  have hc := l.cell
  have hl := l.lo
  have hlt := l.lt
  simp (disch := first | omega | (refine id ?_; simp only [push_cast]; done) | (refine id ?_; simp only [push_cast]; omega)) only [push_cast, Nat.reduceAdd, Nat.reduceMul, Nat.reduceSub, Nat.reduceLT, Nat.reduceEqDiff, Nat.reduceLeDiff, Int.reduceToNat, reduceCtorEq, Int.reduceLT, Int.reduceLE, Int.reduceAdd, Int.reduceSub, Int.reduceMul, Int.reduceNeg, Int.reduceEq, hc, hl]
  have hg : Grew h (h.put p (O [.int .i64 lim, .slice a bs.length c, .int .i64 bs.length] 48 false)) (fun b => b = p) := (Grew.refl h _).put'' _ _ fun _ => rfl
  refine ⟨⟨by rw [cells_put_s], l.own.grew hg fun b hb _ e => l.ne b hb e, l.ne, by simp only [push_cast]; exact hl, by simp only [push_cast]; exact hlt, l.fits, Nat.le_refl _⟩, hg⟩

theorem oneS (h : Heap) (x : Int) : bsC 1 5 h (fillQ (List.map (fun i => (i, 1)) (List.range 1)) (List.replicate 1 [Value.int IntKind.u8 0]).flatten (Value.int IntKind.u8 x) [] (some (0, 1))) = some (.slice (some ⟨h.next, 0, none⟩) 1 1, h.add (O [.int .u8 x] 5 false)) := by kernel_rfl
theorem rg_get1 (len n i : Nat) : (List.map (fun i => (i, n)) (List.range len))[i]? = if i < len then some (i, n) else none := by
  rw [List.getElem?_map]
  split
  · rename_i h; rw [List.getElem?_range h]; rfl
  · rename_i h; rw [List.getElem?_eq_none (by simp; omega)]; rfl
/-- how many bytes stand ahead of a record, as bytes -/
def be (n : Nat) (j : Nat) : Int := IntKind.u8.wrap ((n : Int).fdiv (2 ^ (24 - 8 * j)))
def beL (n : Nat) (k : Nat) : List Int := (List.range k).map (be n)
theorem beL_succ (n k : Nat) : beL n (k + 1) = beL n k ++ [be n k] := by unfold beL; rw [List.range_succ, List.map_append]; rfl
theorem beL_len (n k : Nat) : (beL n k).length = k := by unfold beL; simp
theorem Own_fone {h : Heap} {e n : Nat} {a : Option Addr} {len c : Nat} {cs : List Value} (ho : Own h e n a len c cs) (l2 c2 : Nat) : foneL h.next [.slice a l2 c2] = true := by
  rcases ho.hat with ⟨rfl, _⟩ | ⟨b, m, rfl, _, h2, _⟩
  · rfl
  · exact foneL_cons _ _ _ (fone_s _ _ _ _ _ h2) rfl
theorem bv_fone (h : Heap) (l : List Int) : foneL h.next (bv l) = true := by
  induction l with
  | nil => rfl
  | cons x l ih => exact foneL_cons _ _ _ rfl ih

inductive I21 (h0 : Heap) (p lim : Nat) (a0 : Option Addr) (bs : List Int) (sure : Nat) (ar : Option Addr) (cr n : Nat) : Nat → S → Prop
  | mk (j : Nat) (sv : Int) (h : Heap) (a : Option Addr) (c : Nat) {x2 x3 x4 x5 x7 x8 x9 x10 x11 x12 x13 x14 x15 x16 x17 x18 x19 x20 x21 x22 x23 x24 x25 x26 x27 x28 x29 x30 x31 x32 x33 x34 x35 x36 x37 x38 x39 x40 x41 x42 x43 x44 x45 x46 x47 x48 x49 x50 x51 x52 x53 x54 x55 x56 : Value} (hsv : sv = 24 - 8 * (j : Int)) (hj : j ≤ 4)
    (hl : LogP h p lim a c (bs ++ beL n j) sure) (hg : Grew h0 h (LogB p a0)) (hb : ∀ b, blk a b → blk a0 b ∨ h0.next ≤ b) :
    I21 h0 p lim a0 bs sure ar cr n (4 - j) ⟨(F57 (.pointer (some ⟨p, 0, none⟩)) (.slice ar n cr) x2 x3 x4 x5 (.int .i64 sv) x7 x8 x9 x10 x11 x12 x13 x14 x15 x16 x17 x18 x19 x20 x21 x22 x23 x24 x25 x26 x27 x28 x29 x30 x31 x32 x33 x34 x35 x36 x37 x38 x39 x40 x41 x42 x43 x44 x45 x46 x47 x48 x49 x50 x51 x52 x53 x54 x55 x56), [], h⟩

structure AppPost (h : Heap) (p lim : Nat) (a : Option Addr) (bs rec : List Int) (sure : Nat) (v : Value) (h' : Heap) : Prop where
  yes : bs.length + (4 + rec.length) ≤ lim → v = .bool true ∧ ∃ a' c', LogP h' p lim a' c' (bs ++ beL rec.length 4 ++ rec) sure ∧ Grew h h' (LogB p a) ∧ ∀ b, blk a' b → blk a b ∨ h.next ≤ b
  no : ¬ bs.length + (4 + rec.length) ≤ lim → v = .bool false ∧ h' = h

theorem append_w {p lim : Nat} {a : Option Addr} {c : Nat} {bs : List Int} {sure : Nat} (l : LogP h p lim a c bs sure) (hlim : lim ≤ 1000000000) (rec : List Int) (ar : Option Addr) (cr : Nat)
    (hr : Sl h ar (bv rec)) (hrl : rec.length ≤ 1000000000000) (hrb : ∀ b, blk ar b → b < h.next ∧ ¬ LogB p a b) :
    CallE (pp G) 21 [.pointer (some ⟨p, 0, none⟩), .slice ar rec.length cr] h (AppPost h p lim a bs rec sure) := by
  refine CallE.fir4 (good G) fir21 rfl rfl (F57_arr ..) fun hlo => ?_
  rw [sh_ir21]
  have hc := l.cell
  have hl := l.lo
  have hlt := l.lt
  have hfi := l.fits
  by_cases h1 : (lim : Int) < 4 + rec.length
  · simp (disch := first | omega | (refine id ?_; simp only [push_cast]; done) | (refine id ?_; simp only [push_cast]; omega)) only [push_cast, Nat.reduceAdd, Nat.reduceMul, Nat.reduceSub, Nat.reduceLT, Nat.reduceEqDiff, Nat.reduceLeDiff, Int.reduceToNat, reduceCtorEq, Int.reduceLT, Int.reduceLE, Int.reduceAdd, Int.reduceSub, Int.reduceMul, Int.reduceNeg, Int.reduceEq, hc, h1]
    exact ⟨fun h2 => by omega, fun _ => ⟨rfl, rfl⟩⟩
  by_cases h2 : (lim : Int) - (4 + rec.length) < bs.length
  · simp (disch := first | omega | (refine id ?_; simp only [push_cast]; done) | (refine id ?_; simp only [push_cast]; omega)) only [push_cast, Nat.reduceAdd, Nat.reduceMul, Nat.reduceSub, Nat.reduceLT, Nat.reduceEqDiff, Nat.reduceLeDiff, Int.reduceToNat, reduceCtorEq, Int.reduceLT, Int.reduceLE, Int.reduceAdd, Int.reduceSub, Int.reduceMul, Int.reduceNeg, Int.reduceEq, hc, h1, h2]
    exact ⟨fun h3 => by omega, fun _ => ⟨rfl, rfl⟩⟩
  simp (disch := first | omega | (refine id ?_; simp only [push_cast]; done) | (refine id ?_; simp only [push_cast]; omega)) only [push_cast, Nat.reduceAdd, Nat.reduceMul, Nat.reduceSub, Nat.reduceLT, Nat.reduceEqDiff, Nat.reduceLeDiff, Int.reduceToNat, reduceCtorEq, Int.reduceLT, Int.reduceLE, Int.reduceAdd, Int.reduceSub, Int.reduceMul, Int.reduceNeg, Int.reduceEq, hc, h1, h2]
  refine W.loop4 (good G) (I21 h p lim a bs sure ar cr rec.length) ?_ _ _ (I21.mk 0 _ h a c rfl (by omega) (by rw [show beL rec.length 0 = [] from rfl, List.append_nil]; exact l) (Grew.refl _ _) (fun b hb => .inl hb))
  intro k s1 hI
  cases hI with | mk j sv h2 a2 c2 hsv hj hl2 hg2 hb2 =>
  subst hsv
  rw [sh_ir21_s0]
  have hc2 := hl2.cell
  have hlo2 := hl2.lo
  have hlt2 := hl2.lt
  by_cases hj4 : (0 : Int) ≤ 24 - 8 * (j : Int)
  · have hsh : (24 - 8 * (j : Int)).toNat = 24 - 8 * j := by omega
    have hmin : min (24 - 8 * j) IntKind.i64.bits = 24 - 8 * j := by show min _ 64 = _; omega
    have hbe : IntKind.u8.wrap ((rec.length : Int).fdiv (2 ^ (24 - 8 * j))) = be rec.length j := rfl
    have hcv : ∀ h3, cvV Try.prog 3 5 (.int .i64 ((rec.length : Int).fdiv (2 ^ (24 - 8 * j)))) h3 = some (.int .u8 (be rec.length j)) := fun h3 => by rw [cv_int T_cnvT_3_5, hbe]
    have hc3 : cells (h2.add (O [.int .u8 (be rec.length j)] 5 false)) p = some ([.int .i64 lim, .slice a2 (bs ++ beL rec.length j).length c2, .int .i64 sure], 48, false) := by rw [cells_add_n _ _ (by omega)]; exact hc2
    have hg3 : Gr h2 (h2.add (O [.int .u8 (be rec.length j)] 5 false)) := (Gr.refl h2).add' _
    have hl3 := hl2.grew hg3 (fun _ _ h => h)
    have hlen : (bs ++ beL rec.length j).length = bs.length + j := by rw [List.length_append, beL_len]
    obtain ⟨a4, c4, h4, ha4, hown4, hg4, hb4⟩ := own_append (P := Try.prog) T_appT_23_23 hl3.own (by rw [lo_add, next_add]; omega) (x := .slice (some ⟨h2.next, 0, none⟩) 1 1) (m := 1) (xs := [.int .u8 (be rec.length j)]) rfl
      (Sl.src (Sl.row (cells_add_s _ _ _ _ rfl) (by rw [lo_add]; omega)) rfl (by decide)) rfl (by rw [next_add]; rfl) (by rw [hlen]; omega)
    simp (disch := first | omega | (refine id ?_; simp only [push_cast]; done) | (refine id ?_; simp only [push_cast]; omega)) only [push_cast, Nat.reduceAdd, Nat.reduceMul, Nat.reduceSub, Nat.reduceLT, Nat.reduceEqDiff, Nat.reduceLeDiff, Int.reduceToNat, reduceCtorEq, Int.reduceLT, Int.reduceLE, Int.reduceAdd, Int.reduceSub, Int.reduceMul, Int.reduceNeg, Int.reduceEq, hc2, hj4, hsh, hmin, hcv, oneS, rg_get1, hc3, ha4]
    have hlo4 : h4.lo ≤ p := by rw [hg4.lo, lo_add]; exact hlo2
    have hc4 : cells h4 p = some ([.int .i64 lim, .slice a2 (bs ++ beL rec.length j).length c2, .int .i64 sure], 48, false) := by
      rw [hg4.cellsE hc3 (by rw [next_add]; omega) (fun hb => hl2.ne p hb rfl)]
    have hst := stC_s (h := h4) 1 1 (.slice a4 ((bs ++ beL rec.length j).length + 1) c4) p [.int .i64 lim, .slice a2 (bs ++ beL rec.length j).length c2, .int .i64 sure] 48 false rfl (Own_fone hown4 _ _) hlo4 (by show 1 + 1 ≤ 3; omega)
    rw [← hc4] at hst
    have hbs : bs ++ beL rec.length j ++ [be rec.length j] = bs ++ beL rec.length (j + 1) := by rw [beL_succ, List.append_assoc]
    have hbv : bv (bs ++ beL rec.length j) ++ [.int .u8 (be rec.length j)] = bv (bs ++ beL rec.length (j + 1)) := by rw [← hbs, bv_app (bs ++ beL rec.length j)]; rfl
    have hln : (bs ++ beL rec.length j).length + 1 = (bs ++ beL rec.length (j + 1)).length := by rw [← hbs]; simp only [List.length_append, List.length_cons, List.length_nil]
    rw [hbv, hln] at hown4
    rw [hln] at hst
    have hp4 : p < h4.next := by have := hg4.next; rw [next_add] at this; omega
    have hw : IntKind.i64.wrap (24 - 8 * (j : Int) - 8) = 24 - 8 * (j : Int) - 8 := wrap_i64 (by omega) (by omega)
    have hpn : ∀ b, blk a4 b → b ≠ p := fun b hb e => by
      rcases hb4 b hb with h1 | h1
      · exact hl2.ne b h1 e
      · rw [next_add] at h1; omega
    have hgp : Grew h4 (h4.put p (O (setFrom [.int .i64 lim, .slice a2 (bs ++ beL rec.length j).length c2, .int .i64 sure] 1 (Value.slice a4 (bs ++ beL rec.length (j + 1)).length c4).cells.toList) 48 false)) (fun b => b = p) := (Grew.refl h4 _).put'' _ _ fun _ => rfl
    have hnew : LogP (h4.put p (O (setFrom [.int .i64 lim, .slice a2 (bs ++ beL rec.length j).length c2, .int .i64 sure] 1 (Value.slice a4 (bs ++ beL rec.length (j + 1)).length c4).cells.toList) 48 false)) p lim a4 c4 (bs ++ beL rec.length (j + 1)) sure :=
      ⟨by rw [cells_put_s]; rfl, hown4.grew hgp fun b hb _ e => hpn b hb e, hpn, by simp only [push_cast]; exact hlo4, by simp only [push_cast]; exact hp4, by rw [List.length_append, beL_len]; omega, by have := hl2.sure; rw [List.length_append, beL_len] at this ⊢; omega⟩
    generalize h4.put p (O (setFrom [.int .i64 lim, .slice a2 (bs ++ beL rec.length j).length c2, .int .i64 sure] 1 (Value.slice a4 (bs ++ beL rec.length (j + 1)).length c4).cells.toList) 48 false) = h5 at hst hgp hnew
    simp (disch := first | omega | (refine id ?_; simp only [push_cast]; done) | (refine id ?_; simp only [push_cast]; omega)) only [push_cast, Nat.reduceAdd, Nat.reduceMul, Nat.reduceSub, Nat.reduceLT, Nat.reduceEqDiff, Nat.reduceLeDiff, Int.reduceToNat, reduceCtorEq, Int.reduceLT, Int.reduceLE, Int.reduceAdd, Int.reduceSub, Int.reduceMul, Int.reduceNeg, Int.reduceEq, hln, hst, hw]
    have g3 : Grew h h5 (LogB p a) := ((hg2.tr hg3).tr' hg4 fun i hi ht => by
      rcases hb2 i ht with h6 | h6
      · exact .inr h6
      · omega).tr' hgp fun i _ e => .inl e
    refine ⟨_, by omega, I21.mk (j + 1) _ _ a4 c4 (by omega) (by omega) hnew g3 (fun b hb => ?_)⟩
    rcases hb4 b hb with h6 | h6
    · exact hb2 b h6
    · have := hg2.next; rw [next_add] at h6; exact .inr (by omega)
  · have hj4' : j = 4 := by omega
    subst hj4'
    have hsl : Sl h2 ar (bv rec) := Sl.grew hr hg2 fun b hb _ => hrb b hb
    have hlen : (bs ++ beL rec.length 4).length = bs.length + 4 := by rw [List.length_append, beL_len]
    obtain ⟨a4, c4, h4, ha4, hown4, hg4, hb4⟩ := own_append (P := Try.prog) T_appT_23_23 hl2.own (by omega) (x := .slice ar rec.length cr) (m := rec.length) (xs := bv rec) rfl
      (Sl.src hsl (by rw [bv_len]; omega) (by decide)) (by rw [bv_len]; omega) (bv_fone _ _) (by rw [hlen]; omega)
    have hlo4 : h4.lo ≤ p := by rw [hg4.lo]; exact hlo2
    have hc4 : cells h4 p = some ([.int .i64 lim, .slice a2 (bs ++ beL rec.length 4).length c2, .int .i64 sure], 48, false) := by
      rw [hg4.cellsE hc2 hlt2 (fun hb => hl2.ne p hb rfl)]
    have hst := stC_s (h := h4) 1 1 (.slice a4 ((bs ++ beL rec.length 4).length + rec.length) c4) p [.int .i64 lim, .slice a2 (bs ++ beL rec.length 4).length c2, .int .i64 sure] 48 false rfl (Own_fone hown4 _ _) hlo4 (by show 1 + 1 ≤ 3; omega)
    rw [← hc4] at hst
    have hbv : bv (bs ++ beL rec.length 4) ++ bv rec = bv (bs ++ beL rec.length 4 ++ rec) := by rw [bv_app (bs ++ beL rec.length 4)]
    have hln : (bs ++ beL rec.length 4).length + rec.length = (bs ++ beL rec.length 4 ++ rec).length := by simp only [List.length_append]
    rw [hbv, hln] at hown4
    rw [hln] at hst
    have hp4 : p < h4.next := by have := hg4.next; omega
    have hpn : ∀ b, blk a4 b → b ≠ p := fun b hb e => by
      rcases hb4 b hb with h1 | h1
      · exact hl2.ne b h1 e
      · omega
    have hgp : Grew h4 (h4.put p (O (setFrom [.int .i64 lim, .slice a2 (bs ++ beL rec.length 4).length c2, .int .i64 sure] 1 (Value.slice a4 (bs ++ beL rec.length 4 ++ rec).length c4).cells.toList) 48 false)) (fun b => b = p) := (Grew.refl h4 _).put'' _ _ fun _ => rfl
    have hnew : LogP (h4.put p (O (setFrom [.int .i64 lim, .slice a2 (bs ++ beL rec.length 4).length c2, .int .i64 sure] 1 (Value.slice a4 (bs ++ beL rec.length 4 ++ rec).length c4).cells.toList) 48 false)) p lim a4 c4 (bs ++ beL rec.length 4 ++ rec) sure :=
      ⟨by rw [cells_put_s]; rfl, hown4.grew hgp fun b hb _ e => hpn b hb e, hpn, by simp only [push_cast]; exact hlo4, by simp only [push_cast]; exact hp4, by rw [List.length_append, hlen]; omega, by have h9 := hl2.sure; rw [hlen] at h9; rw [List.length_append, hlen]; omega⟩
    generalize h4.put p (O (setFrom [.int .i64 lim, .slice a2 (bs ++ beL rec.length 4).length c2, .int .i64 sure] 1 (Value.slice a4 (bs ++ beL rec.length 4 ++ rec).length c4).cells.toList) 48 false) = h5 at hst hgp hnew
    have g3 : Grew h h5 (LogB p a) := (hg2.tr' hg4 fun i hi ht => by
      rcases hb2 i ht with h6 | h6
      · exact .inr h6
      · omega).tr' hgp fun i _ e => .inl e
    simp (disch := first | omega | (refine id ?_; simp only [push_cast]; done) | (refine id ?_; simp only [push_cast]; omega)) only [push_cast, Nat.reduceAdd, Nat.reduceMul, Nat.reduceSub, Nat.reduceLT, Nat.reduceEqDiff, Nat.reduceLeDiff, Int.reduceToNat, reduceCtorEq, Int.reduceLT, Int.reduceLE, Int.reduceAdd, Int.reduceSub, Int.reduceMul, Int.reduceNeg, Int.reduceEq, hj4, hc2, ha4, hln, hst]
    refine ⟨fun _ => ⟨rfl, a4, c4, hnew, g3, fun b hb => ?_⟩, fun h6 => absurd (by omega) h6⟩
    rcases hb4 b hb with h6 | h6
    · exact hb2 b h6
    · have := hg2.next; exact .inr (by omega)
end
end Go.Proofs.Ytohdgkmgkcoilaa

namespace Go.Proofs.Ytohdgkmgkcoilaa
open Go Go.RowKit Go.Ev
noncomputable section
set_option linter.unusedSimpArgs false
set_option linter.unusedVariables false
variable (G : Nat) (h : Heap)

/-- a row of rows of bytes that came in -/
structure RowsP (h : Heap) (a : Option Addr) (recs : List (List Int)) : Prop where
  cells : ∃ cs : List Value, Sl h a cs ∧ cs.length = recs.length ∧ ∀ (i : Nat) (r : List Int), recs[i]? = some r → ∃ (ai : Option Addr) (ci : Nat), cs[i]? = some (Value.slice ai r.length ci) ∧ Sl h ai (bv r) ∧ ∀ b, blk ai b → b < h.next
  low : ∀ b, blk a b → b < h.next
theorem RowsP.grew {h h' : Heap} {a : Option Addr} {recs : List (List Int)} (r : RowsP h a recs) (g : Gr h h') : RowsP h' a recs := by
  obtain ⟨⟨cs, h1, h2, h3⟩, h4⟩ := r
  refine ⟨⟨cs, g.slE h1 h4, h2, fun i r hr => ?_⟩, fun b hb => Nat.lt_of_lt_of_le (h4 b hb) g.next⟩
  obtain ⟨ai, ci, h5, h6, h7⟩ := h3 i r hr
  exact ⟨ai, ci, h5, g.slE h6 h7, fun b hb => Nat.lt_of_lt_of_le (h7 b hb) g.next⟩

def encR (r : List Int) : List Int := beL r.length 4 ++ r
def enc (recs : List (List Int)) : List Int := (recs.map encR).flatten
theorem enc_take {recs : List (List Int)} {i : Nat} {r : List Int} (hr : recs[i]? = some r) : enc (recs.take (i + 1)) = enc (recs.take i) ++ beL r.length 4 ++ r := by
  unfold enc
  rw [List.take_add_one, hr, List.map_append, List.flatten_append]
  simp [encR]
theorem enc_len_take (recs : List (List Int)) (i : Nat) : (enc (recs.take i)).length ≤ (enc recs).length := by
  have : enc recs = enc (recs.take i) ++ enc (recs.drop i) := by
    unfold enc
    rw [← List.flatten_append, ← List.map_append, List.take_append_drop]
  rw [this, List.length_append]; omega

theorem Sl_ldv {h : Heap} {a : Option Addr} {cs : List Value} (hs : Sl h a cs) {i : Nat} {v : Value} (hv : cs[i]? = some v) :
    ∃ b off, a = some ⟨b, off, none⟩ ∧ ldC (some (false, 0)) (off + i) h.lo b (Ev.cells h b) = some v := by
  obtain ⟨b', off', e, hl⟩ := hs.load T_knd_23 hv
  rw [load_eq, T_knd_23] at hl
  exact ⟨b', off', e, hl⟩

inductive I26 (h0 : Heap) (p lim : Nat) (ar : Option Addr) (cr : Nat) (recs : List (List Int)) (q : Nat) : Nat → S → Prop
  | mk (i : Nat) (iv : Int) (h : Heap) (a : Option Addr) (c : Nat) {x2 x3 x4 x6 x7 x8 x9 x10 x11 x12 x16 x17 x18 x19 x20 x21 x22 x23 x24 x25 x26 x27 x28 x29 x30 : Value} (hiv : iv = (i : Int)) (hi : i ≤ recs.length)
    (hl : LogP h q lim a c (enc (recs.take i)) 0) (hg : Gr h0 h) (hb : ∀ b, LogB q a b → h0.next ≤ b) :
    I26 h0 p lim ar cr recs q (recs.length - i) ⟨(F31 (.pointer (some ⟨p, 0, none⟩)) (.slice ar recs.length cr) x2 x3 x4 (.pointer (some ⟨q, 0, none⟩)) x6 x7 x8 x9 x10 x11 x12 (.slice ar recs.length cr) (.int .i64 recs.length) (.int .i64 iv) x16 x17 x18 x19 x20 x21 x22 x23 x24 x25 x26 x27 x28 x29 x30), [], h⟩

structure CompPost (h : Heap) (p lim : Nat) (a : Option Addr) (c : Nat) (bs : List Int) (sure : Nat) (recs : List (List Int)) (v : Value) (h' : Heap) : Prop where
  yes : (enc recs).length ≤ lim → v = .bool true ∧ ∃ a' c', LogP h' p lim a' c' (enc recs) (enc recs).length ∧ Grew h h' (fun b => b = p) ∧ ∀ b, blk a' b → h.next ≤ b
  no : ¬ (enc recs).length ≤ lim → v = .bool false ∧ Gr h h'

theorem compact_w {p lim : Nat} {a : Option Addr} {c : Nat} {bs : List Int} {sure : Nat} (l : LogP h p lim a c bs sure) (hlim : lim ≤ 1000000000) (recs : List (List Int)) (ar : Option Addr) (cr : Nat)
    (hr : RowsP h ar recs) (hrl : ∀ r ∈ recs, r.length ≤ 1000000000000) (hrn : recs.length < 4611686018427387904) :
    CallE (pp G) 26 [.pointer (some ⟨p, 0, none⟩), .slice ar recs.length cr] h (CompPost h p lim a c bs sure recs) := by
  refine CallE.fir4 (good G) fir26 rfl rfl (F31_arr ..) fun hlo => ?_
  rw [sh_ir26]
  have hc := l.cell
  have hl := l.lo
  have hlt := l.lt
  simp (disch := first | omega | (refine id ?_; simp only [push_cast]; done) | (refine id ?_; simp only [push_cast]; omega)) only [push_cast, Nat.reduceAdd, Nat.reduceMul, Nat.reduceSub, Nat.reduceLT, Nat.reduceEqDiff, Nat.reduceLeDiff, Int.reduceToNat, reduceCtorEq, Int.reduceLT, Int.reduceLE, Int.reduceAdd, Int.reduceSub, Int.reduceMul, Int.reduceNeg, Int.reduceEq, hc]
  refine CallE.to (new_w G _ lim) ?_
  rintro _ h1 ⟨rfl, hl1, hg1, hn1⟩
  simp (disch := first | omega | (refine id ?_; simp only [push_cast]; done) | (refine id ?_; simp only [push_cast]; omega)) only [push_cast, Nat.reduceAdd, Nat.reduceMul, Nat.reduceSub, Nat.reduceLT, Nat.reduceEqDiff, Nat.reduceLeDiff, Int.reduceToNat, reduceCtorEq, Int.reduceLT, Int.reduceLE, Int.reduceAdd, Int.reduceSub, Int.reduceMul, Int.reduceNeg, Int.reduceEq]
  refine W.loop4 (good G) (I26 h p lim ar cr recs h.next) ?_ _ _ (I26.mk 0 0 h1 none 0 rfl (Nat.zero_le _) hl1 hg1 (fun b hb => by
    rcases hb with rfl | ⟨o, s, hb⟩
    · exact Nat.le_refl _
    · cases hb))
  intro k s1 hI
  cases hI with | mk i iv h2 a2 c2 hiv hi hl2 hg2 hb2 =>
  subst hiv
  rw [sh_ir26_s0]
  by_cases hlt2 : (i : Int) < recs.length
  · obtain ⟨r, hri⟩ : ∃ r, recs[i]? = some r := ⟨_, List.getElem?_eq_getElem (by omega)⟩
    have hrm := hrl r (List.mem_of_getElem? hri)
    obtain ⟨⟨cs, f1, f2, f3⟩, f4⟩ := hr
    obtain ⟨ai, ci, e5, e6, e7⟩ := f3 i r hri
    obtain ⟨b, off, rfl, hld⟩ := Sl_ldv (hg2.slE f1 f4) e5
    have e6' := hg2.slE e6 e7
    simp (disch := first | omega | (refine id ?_; simp only [push_cast]; done) | (refine id ?_; simp only [push_cast]; omega)) only [push_cast, Nat.reduceAdd, Nat.reduceMul, Nat.reduceSub, Nat.reduceLT, Nat.reduceEqDiff, Nat.reduceLeDiff, Int.reduceToNat, reduceCtorEq, Int.reduceLT, Int.reduceLE, Int.reduceAdd, Int.reduceSub, Int.reduceMul, Int.reduceNeg, Int.reduceEq, hlt2, Int.toNat_natCast, hld]
    refine CallE.to (append_w G _ hl2 hlim r ai ci e6' hrm fun b hb => ⟨Nat.lt_of_lt_of_le (e7 b hb) hg2.next, fun h0 => by have := hb2 b h0; have := e7 b hb; omega⟩) ?_
    have het := enc_take hri
    rintro v h3 ⟨hy, hn⟩
    by_cases hfit : (enc (recs.take i)).length + (4 + r.length) ≤ lim
    · obtain ⟨rfl, a3, c3, hl3, hg3, hb3⟩ := hy hfit
      rw [← het] at hl3
      have hg3' : Gr h h3 := (hg2.mono fun _ _ h => h.elim).trans hg3 fun b hb h0 => by have := hb2 b h0; omega
      simp (disch := first | omega | (refine id ?_; simp only [push_cast]; done) | (refine id ?_; simp only [push_cast]; omega)) only [push_cast, Nat.reduceAdd, Nat.reduceMul, Nat.reduceSub, Nat.reduceLT, Nat.reduceEqDiff, Nat.reduceLeDiff, Int.reduceToNat, reduceCtorEq, Int.reduceLT, Int.reduceLE, Int.reduceAdd, Int.reduceSub, Int.reduceMul, Int.reduceNeg, Int.reduceEq, Bool.not_true]
      refine ⟨_, by omega, I26.mk (i + 1) _ h3 a3 c3 (by first | rfl | omega) (by omega) hl3 hg3' (fun b hb => ?_)⟩
      rcases hb with rfl | hb
      · exact Nat.le_refl _
      · rcases hb3 b hb with h6 | h6
        · exact hb2 b (.inr h6)
        · have := hg2.next; omega
    · obtain ⟨rfl, rfl⟩ := hn hfit
      have h9 := enc_len_take recs (i + 1)
      rw [het] at h9
      simp only [List.length_append, beL_len] at h9
      simp (disch := first | omega | (refine id ?_; simp only [push_cast]; done) | (refine id ?_; simp only [push_cast]; omega)) only [push_cast, Nat.reduceAdd, Nat.reduceMul, Nat.reduceSub, Nat.reduceLT, Nat.reduceEqDiff, Nat.reduceLeDiff, Int.reduceToNat, reduceCtorEq, Int.reduceLT, Int.reduceLE, Int.reduceAdd, Int.reduceSub, Int.reduceMul, Int.reduceNeg, Int.reduceEq, Bool.not_false]
      exact ⟨fun h0 => absurd h0 (by omega), fun _ => ⟨rfl, hg2⟩⟩
  · have hil : i = recs.length := by omega
    rw [hil, List.take_length] at hl2
    simp (disch := first | omega | (refine id ?_; simp only [push_cast]; done) | (refine id ?_; simp only [push_cast]; omega)) only [push_cast, Nat.reduceAdd, Nat.reduceMul, Nat.reduceSub, Nat.reduceLT, Nat.reduceEqDiff, Nat.reduceLeDiff, Int.reduceToNat, reduceCtorEq, Int.reduceLT, Int.reduceLE, Int.reduceAdd, Int.reduceSub, Int.reduceMul, Int.reduceNeg, Int.reduceEq, hlt2]
    refine CallE.to (sync_w G _ hl2) ?_
    rintro _ h3 ⟨rfl, hl3, hg3, hn3⟩
    have hc3 := hl3.cell
    have hlo3 := hl3.lo
    have hqp : ¬ p = h.next := by omega
    have hgp : Gr h h3 := (hg2.mono fun _ _ h => h.elim).trans hg3 fun b hb h0 => by omega
    have hcp : cells h3 p = some ([.int .i64 lim, .slice a bs.length c, .int .i64 sure], 48, false) := hgp.cells hc hlt
    have hlop : h3.lo ≤ p := by rw [hgp.lo]; exact hl
    have hff : foneL h3.next [.int .i64 lim, .slice a2 (enc recs).length c2, .int .i64 (enc recs).length] = true := foneL_cons _ _ _ rfl (foneL_cons _ _ _ (by have := Own_fone hl3.own (enc recs).length c2; rw [q_cons] at this; exact this.1) (foneL_cons _ _ _ rfl rfl))
    have hst := stC_s (h := h3) 3 0 (.agg ⟨[.int .i64 lim, .slice a2 (enc recs).length c2, .int .i64 (enc recs).length]⟩) p [.int .i64 lim, .slice a bs.length c, .int .i64 sure] 48 false rfl hff hlop (by show 0 + 3 ≤ 3; omega)
    rw [← hcp] at hst
    simp (disch := first | omega | (refine id ?_; simp only [push_cast]; done) | (refine id ?_; simp only [push_cast]; omega)) only [push_cast, Nat.reduceAdd, Nat.reduceMul, Nat.reduceSub, Nat.reduceLT, Nat.reduceEqDiff, Nat.reduceLeDiff, Int.reduceToNat, reduceCtorEq, Int.reduceLT, Int.reduceLE, Int.reduceAdd, Int.reduceSub, Int.reduceMul, Int.reduceNeg, Int.reduceEq, hc3, hst]
    have hap : ∀ b, blk a2 b → b ≠ p := fun b hb e => by have := hb2 b (.inr hb); omega
    have hgq : Grew h3 (h3.put p (O [.int .i64 lim, .slice a2 (enc recs).length c2, .int .i64 (enc recs).length] 48 false)) (fun b => b = p) := (Grew.refl h3 _).put'' _ _ fun _ => rfl
    have hp3 : p < h3.next := Nat.lt_of_lt_of_le hlt hgp.next
    have hnew : LogP (h3.put p (O [.int .i64 lim, .slice a2 (enc recs).length c2, .int .i64 (enc recs).length] 48 false)) p lim a2 c2 (enc recs) (enc recs).length :=
      ⟨by rw [cells_put_s], hl3.own.grew hgq fun b hb _ e => hap b hb e, hap, by simp only [push_cast]; exact hlop, by simp only [push_cast]; exact hp3, hl3.fits, Nat.le_refl _⟩
    exact ⟨fun _ => ⟨rfl, a2, c2, hnew, (hgp.mono fun _ _ h => h.elim).trans hgq fun _ _ h => h, fun b hb => hb2 b (.inr hb)⟩, fun h0 => absurd hl3.fits h0⟩
end
end Go.Proofs.Ytohdgkmgkcoilaa
