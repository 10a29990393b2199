/-
  A part of the proof: what the program's functions hand back, as theorems. No condition but those that each theorem names.
-/
import Derived.Test.YtohdgkmgkcoilaaLgb
set_option linter.unusedSimpArgs false
set_option linter.unusedVariables false
namespace Go.Proofs.Ytohdgkmgkcoilaa
open Go.RowKit Go.Ev
set_option linter.unusedVariables false
set_option maxRecDepth 100000
noncomputable section
def F4 (x0 x1 x2 x3 : Value) : VT := ⟨4, (.node (.node (.node .nil x3 .nil) x1 .nil) x0 (.node .nil x2 .nil))⟩
theorem F4_arr (x0 x1 x2 x3 : Value) : (F4 x0 x1 x2 x3).arr = ⟨[x0, x1, x2, x3]⟩ := by kernel_rfl
def F17 (x0 x1 x2 x3 x4 x5 x6 x7 x8 x9 x10 x11 x12 x13 x14 x15 x16 : Value) : VT := ⟨17, (.node (.node (.node (.node (.node .nil x15 .nil) x7 .nil) x3 (.node .nil x11 .nil)) x1 (.node (.node .nil x9 .nil) x5 (.node .nil x13 .nil))) x0 (.node (.node (.node (.node .nil x16 .nil) x8 .nil) x4 (.node .nil x12 .nil)) x2 (.node (.node .nil x10 .nil) x6 (.node .nil x14 .nil))))⟩
theorem F17_arr (x0 x1 x2 x3 x4 x5 x6 x7 x8 x9 x10 x11 x12 x13 x14 x15 x16 : Value) : (F17 x0 x1 x2 x3 x4 x5 x6 x7 x8 x9 x10 x11 x12 x13 x14 x15 x16).arr = ⟨[x0, x1, x2, x3, x4, x5, x6, x7, x8, x9, x10, x11, x12, x13, x14, x15, x16]⟩ := by kernel_rfl
def F42 (x0 x1 x2 x3 x4 x5 x6 x7 x8 x9 x10 x11 x12 x13 x14 x15 x16 x17 x18 x19 x20 x21 x22 x23 x24 x25 x26 x27 x28 x29 x30 x31 x32 x33 x34 x35 x36 x37 x38 x39 x40 x41 : Value) : VT := ⟨42, (.node (.node (.node (.node (.node (.node .nil x31 .nil) x15 .nil) x7 (.node (.node .nil x39 .nil) x23 .nil)) x3 (.node (.node (.node .nil x35 .nil) x19 .nil) x11 (.node .nil x27 .nil))) x1 (.node (.node (.node (.node .nil x33 .nil) x17 .nil) x9 (.node (.node .nil x41 .nil) x25 .nil)) x5 (.node (.node (.node .nil x37 .nil) x21 .nil) x13 (.node .nil x29 .nil)))) x0 (.node (.node (.node (.node (.node .nil x32 .nil) x16 .nil) x8 (.node (.node .nil x40 .nil) x24 .nil)) x4 (.node (.node (.node .nil x36 .nil) x20 .nil) x12 (.node .nil x28 .nil))) x2 (.node (.node (.node (.node .nil x34 .nil) x18 .nil) x10 (.node .nil x26 .nil)) x6 (.node (.node (.node .nil x38 .nil) x22 .nil) x14 (.node .nil x30 .nil)))))⟩
theorem F42_arr (x0 x1 x2 x3 x4 x5 x6 x7 x8 x9 x10 x11 x12 x13 x14 x15 x16 x17 x18 x19 x20 x21 x22 x23 x24 x25 x26 x27 x28 x29 x30 x31 x32 x33 x34 x35 x36 x37 x38 x39 x40 x41 : Value) : (F42 x0 x1 x2 x3 x4 x5 x6 x7 x8 x9 x10 x11 x12 x13 x14 x15 x16 x17 x18 x19 x20 x21 x22 x23 x24 x25 x26 x27 x28 x29 x30 x31 x32 x33 x34 x35 x36 x37 x38 x39 x40 x41).arr = ⟨[x0, x1, x2, x3, x4, x5, x6, x7, x8, x9, x10, x11, x12, x13, x14, x15, x16, x17, x18, x19, x20, x21, x22, x23, x24, x25, x26, x27, x28, x29, x30, x31, x32, x33, x34, x35, x36, x37, x38, x39, x40, x41]⟩ := by kernel_rfl
def F46 (x0 x1 x2 x3 x4 x5 x6 x7 x8 x9 x10 x11 x12 x13 x14 x15 x16 x17 x18 x19 x20 x21 x22 x23 x24 x25 x26 x27 x28 x29 x30 x31 x32 x33 x34 x35 x36 x37 x38 x39 x40 x41 x42 x43 x44 x45 : Value) : VT := ⟨46, (.node (.node (.node (.node (.node (.node .nil x31 .nil) x15 .nil) x7 (.node (.node .nil x39 .nil) x23 .nil)) x3 (.node (.node (.node .nil x35 .nil) x19 .nil) x11 (.node (.node .nil x43 .nil) x27 .nil))) x1 (.node (.node (.node (.node .nil x33 .nil) x17 .nil) x9 (.node (.node .nil x41 .nil) x25 .nil)) x5 (.node (.node (.node .nil x37 .nil) x21 .nil) x13 (.node (.node .nil x45 .nil) x29 .nil)))) x0 (.node (.node (.node (.node (.node .nil x32 .nil) x16 .nil) x8 (.node (.node .nil x40 .nil) x24 .nil)) x4 (.node (.node (.node .nil x36 .nil) x20 .nil) x12 (.node (.node .nil x44 .nil) x28 .nil))) x2 (.node (.node (.node (.node .nil x34 .nil) x18 .nil) x10 (.node (.node .nil x42 .nil) x26 .nil)) x6 (.node (.node (.node .nil x38 .nil) x22 .nil) x14 (.node .nil x30 .nil)))))⟩
theorem F46_arr (x0 x1 x2 x3 x4 x5 x6 x7 x8 x9 x10 x11 x12 x13 x14 x15 x16 x17 x18 x19 x20 x21 x22 x23 x24 x25 x26 x27 x28 x29 x30 x31 x32 x33 x34 x35 x36 x37 x38 x39 x40 x41 x42 x43 x44 x45 : Value) : (F46 x0 x1 x2 x3 x4 x5 x6 x7 x8 x9 x10 x11 x12 x13 x14 x15 x16 x17 x18 x19 x20 x21 x22 x23 x24 x25 x26 x27 x28 x29 x30 x31 x32 x33 x34 x35 x36 x37 x38 x39 x40 x41 x42 x43 x44 x45).arr = ⟨[x0, x1, x2, x3, x4, x5, x6, x7, x8, x9, x10, x11, x12, x13, x14, x15, x16, x17, x18, x19, x20, x21, x22, x23, x24, x25, x26, x27, x28, x29, x30, x31, x32, x33, x34, x35, x36, x37, x38, x39, x40, x41, x42, x43, x44, x45]⟩ := by kernel_rfl
theorem F4_g2 (x0 x1 x2 x3 : Value) : (F4 x0 x1 x2 x3).get 2 = x2 := by kernel_rfl
attribute [push_cast] F4_g2
theorem F17_g2 (x0 x1 x2 x3 x4 x5 x6 x7 x8 x9 x10 x11 x12 x13 x14 x15 x16 : Value) : (F17 x0 x1 x2 x3 x4 x5 x6 x7 x8 x9 x10 x11 x12 x13 x14 x15 x16).get 2 = x2 := by kernel_rfl
attribute [push_cast] F17_g2
theorem F46_g4 (x0 x1 x2 x3 x4 x5 x6 x7 x8 x9 x10 x11 x12 x13 x14 x15 x16 x17 x18 x19 x20 x21 x22 x23 x24 x25 x26 x27 x28 x29 x30 x31 x32 x33 x34 x35 x36 x37 x38 x39 x40 x41 x42 x43 x44 x45 : Value) : (F46 x0 x1 x2 x3 x4 x5 x6 x7 x8 x9 x10 x11 x12 x13 x14 x15 x16 x17 x18 x19 x20 x21 x22 x23 x24 x25 x26 x27 x28 x29 x30 x31 x32 x33 x34 x35 x36 x37 x38 x39 x40 x41 x42 x43 x44 x45).get 4 = x4 := by kernel_rfl
attribute [push_cast] F46_g4
noncomputable def ir19_s0 : IR := (.seq (.ops [⟨(some 43), none, .take, (.load 26 (.tmp 6)), 26⟩, ⟨(some 44), none, .call, (.call ⟨(.value (.func 22)), #[(.tmp 43)], #[26]⟩), 0⟩]) (.seq (.ops [⟨(some 45), none, .take, (.load 26 (.tmp 6)), 26⟩, ⟨(some 4), none, .take, (.assign (.tmp 45)), 26⟩]) .ret))
noncomputable def ir23_s0 : IR := (.seq (.ops [⟨(some 16), none, .take, (.load 35 (.tmp 3)), 35⟩, ⟨(some 2), none, .take, (.assign (.tmp 16)), 35⟩]) .ret)
noncomputable def ir36_s0 : IR := (.seq (.seq (.ops [⟨(some 6), none, .take, (.load 23 (.tmp 1)), 23⟩, ⟨(some 7), none, .take, (.call ⟨(.builtin .len), #[(.tmp 6)], #[23]⟩), 3⟩, ⟨(some 8), none, .take, (.binOp .geq 3 (.tmp 7) (.const (.int .i64 4)) 3), 4⟩]) (.cond (.tmp 8) .skip (.exit 0))) (.block 1 (.seq (.ops [⟨(some 3), none, .take, (.assign (.const (.int .i64 4))), 3⟩]) (.seq (.seq (.ops [⟨(some 9), none, .take, (.load 23 (.tmp 1)), 23⟩, ⟨(some 10), none, .take, (.slice 23 (.tmp 9) none (some (.const (.int .i64 4))) none), 23⟩, ⟨(some 11), none, .take, (.call ⟨(.builtin .len), #[(.tmp 10)], #[23]⟩), 3⟩, ⟨(some 12), none, .take, (.move (.const (.int .i64 0))), 3⟩]) (.block 2 (.loop (.seq (.ops [⟨(some 13), none, .take, (.binOp .lss 3 (.tmp 12) (.tmp 11) 3), 0⟩]) (.seq (.cond (.tmp 13) .skip (.exit 2)) (.seq (.block 3 (.seq (.ops [⟨(some 14), none, .take, (.move (.tmp 12)), 3⟩, ⟨(some 15), none, .take, (.indexAddr 23 (.tmp 10) (.tmp 12)), 0⟩, ⟨(some 16), none, .take, (.load 5 (.tmp 15)), 5⟩, ⟨(some 4), none, .take, (.assign (.tmp 14)), 3⟩, ⟨(some 5), none, .take, (.assign (.tmp 16)), 5⟩]) (.ops [⟨(some 17), none, .take, (.move (.tmp 3)), 3⟩, ⟨(some 18), none, .take, (.move (.tmp 5)), 5⟩, ⟨(some 19), none, .take, (.convert 5 3 (.tmp 18)), 3⟩, ⟨(some 20), none, .take, (.move (.tmp 4)), 3⟩, ⟨(some 21), none, .take, (.binOp .sub 3 (.const (.int .i64 3)) (.tmp 20) 3), 3⟩, ⟨(some 22), none, .take, (.binOp .mul 3 (.const (.int .i64 8)) (.tmp 21) 3), 3⟩, ⟨(some 23), none, .take, (.binOp .shl 3 (.tmp 19) (.tmp 22) 3), 3⟩, ⟨(some 24), none, .take, (.binOp .add 3 (.tmp 17) (.tmp 23) 3), 3⟩, ⟨(some 3), none, .take, (.assign (.tmp 24)), 3⟩]))) (.ops [⟨(some 25), none, .take, (.binOp .add 3 (.tmp 12) (.const (.int .i64 1)) 3), 3⟩, ⟨(some 12), none, .take, (.move (.tmp 25)), 3⟩]))))))) (.seq (.seq (.ops [⟨(some 26), none, .take, (.move (.tmp 3)), 3⟩, ⟨(some 27), none, .take, (.load 23 (.tmp 1)), 23⟩, ⟨(some 28), none, .take, (.call ⟨(.builtin .len), #[(.tmp 27)], #[23]⟩), 3⟩, ⟨(some 29), none, .take, (.binOp .gtr 3 (.tmp 26) (.tmp 28) 3), 4⟩, ⟨(some 30), none, .take, (.move (.tmp 29)), 4⟩, ⟨(some 31), (some (30, false)), .take, (.move (.tmp 0)), 34⟩, ⟨(some 32), (some (30, false)), .take, (.load 23 (.tmp 1)), 23⟩, ⟨(some 33), (some (30, false)), .take, (.move (.tmp 3)), 3⟩, ⟨(some 34), (some (30, false)), .take, (.move (.tmp 3)), 3⟩, ⟨(some 35), (some (30, false)), .take, (.slice 23 (.tmp 32) (some (.const (.int .i64 4))) (some (.tmp 33)) (some (.tmp 34))), 23⟩, ⟨(some 36), (some (30, false)), .call, (.call ⟨(.value (.tmp 31)), #[(.tmp 35)], #[23]⟩), 4⟩, ⟨(some 37), (some (30, false)), .take, (.unOp .not 4 (.tmp 36)), 4⟩, ⟨(some 38), none, .take, (.pick (.tmp 30) (.const (.bool true)) (.tmp 37)), 4⟩]) (.cond (.tmp 38) .ret .skip)) (.ops [⟨(some 39), none, .take, (.load 23 (.tmp 1)), 23⟩, ⟨(some 40), none, .take, (.move (.tmp 3)), 3⟩, ⟨(some 41), none, .take, (.slice 23 (.tmp 39) (some (.tmp 40)) none none), 23⟩, ⟨none, none, .eff, (.store 23 (.tmp 1) (.tmp 41)), 0⟩]))))))
noncomputable def ir36_s1 : IR := (.seq (.ops [⟨(some 13), none, .take, (.binOp .lss 3 (.tmp 12) (.tmp 11) 3), 0⟩]) (.seq (.cond (.tmp 13) .skip (.exit 2)) (.seq (.block 3 (.seq (.ops [⟨(some 14), none, .take, (.move (.tmp 12)), 3⟩, ⟨(some 15), none, .take, (.indexAddr 23 (.tmp 10) (.tmp 12)), 0⟩, ⟨(some 16), none, .take, (.load 5 (.tmp 15)), 5⟩, ⟨(some 4), none, .take, (.assign (.tmp 14)), 3⟩, ⟨(some 5), none, .take, (.assign (.tmp 16)), 5⟩]) (.ops [⟨(some 17), none, .take, (.move (.tmp 3)), 3⟩, ⟨(some 18), none, .take, (.move (.tmp 5)), 5⟩, ⟨(some 19), none, .take, (.convert 5 3 (.tmp 18)), 3⟩, ⟨(some 20), none, .take, (.move (.tmp 4)), 3⟩, ⟨(some 21), none, .take, (.binOp .sub 3 (.const (.int .i64 3)) (.tmp 20) 3), 3⟩, ⟨(some 22), none, .take, (.binOp .mul 3 (.const (.int .i64 8)) (.tmp 21) 3), 3⟩, ⟨(some 23), none, .take, (.binOp .shl 3 (.tmp 19) (.tmp 22) 3), 3⟩, ⟨(some 24), none, .take, (.binOp .add 3 (.tmp 17) (.tmp 23) 3), 3⟩, ⟨(some 3), none, .take, (.assign (.tmp 24)), 3⟩]))) (.ops [⟨(some 25), none, .take, (.binOp .add 3 (.tmp 12) (.const (.int .i64 1)) 3), 3⟩, ⟨(some 12), none, .take, (.move (.tmp 25)), 3⟩]))))
noncomputable def ir36_s2 : IR := (.seq (.seq (.ops [⟨(some 26), none, .take, (.move (.tmp 3)), 3⟩, ⟨(some 27), none, .take, (.load 23 (.tmp 1)), 23⟩, ⟨(some 28), none, .take, (.call ⟨(.builtin .len), #[(.tmp 27)], #[23]⟩), 3⟩, ⟨(some 29), none, .take, (.binOp .gtr 3 (.tmp 26) (.tmp 28) 3), 4⟩, ⟨(some 30), none, .take, (.move (.tmp 29)), 4⟩, ⟨(some 31), (some (30, false)), .take, (.move (.tmp 0)), 34⟩, ⟨(some 32), (some (30, false)), .take, (.load 23 (.tmp 1)), 23⟩, ⟨(some 33), (some (30, false)), .take, (.move (.tmp 3)), 3⟩, ⟨(some 34), (some (30, false)), .take, (.move (.tmp 3)), 3⟩, ⟨(some 35), (some (30, false)), .take, (.slice 23 (.tmp 32) (some (.const (.int .i64 4))) (some (.tmp 33)) (some (.tmp 34))), 23⟩, ⟨(some 36), (some (30, false)), .call, (.call ⟨(.value (.tmp 31)), #[(.tmp 35)], #[23]⟩), 4⟩, ⟨(some 37), (some (30, false)), .take, (.unOp .not 4 (.tmp 36)), 4⟩, ⟨(some 38), none, .take, (.pick (.tmp 30) (.const (.bool true)) (.tmp 37)), 4⟩]) (.cond (.tmp 38) .ret .skip)) (.ops [⟨(some 39), none, .take, (.load 23 (.tmp 1)), 23⟩, ⟨(some 40), none, .take, (.move (.tmp 3)), 3⟩, ⟨(some 41), none, .take, (.slice 23 (.tmp 39) (some (.tmp 40)) none none), 23⟩, ⟨none, none, .eff, (.store 23 (.tmp 1) (.tmp 41)), 0⟩]))
theorem sh_ir19 (G : Nat) (h : Heap) (a0 a1 : Value) (R : Value → Heap → Prop) : vc3 (pp G) none ir19 ⟨(F46 a0 a1 undef undef undef undef undef undef undef undef undef undef undef undef undef undef undef undef undef undef undef undef undef undef undef undef undef undef undef undef undef undef undef undef undef undef undef undef undef undef undef undef undef undef undef undef), [], h⟩ (finR Try.prog [(.tmp 4)] R) = (oT (some (.pointer none)) none h (@kk ⟨(fun v1 h2 => oP (some a0) h2 (@kk ⟨(fun v3 _ => oP (ncV v3) h2 (@kk ⟨(fun v4 _ => oP (faV (fld Try.prog 48 2) v4) h2 (@kk ⟨(fun v5 _ => oP (evLoad Try.prog 3 v5 h2) h2 (@kk ⟨(fun v6 _ => oP (some a1) h2 (@kk ⟨(fun v8 _ => oP (mxV Try.prog #[3, 3] 3 [v8, (.int .i64 0)]) h2 (@kk ⟨(fun v9 _ => oP (some a0) h2 (@kk ⟨(fun v10 _ => oP (ncV v10) h2 (@kk ⟨(fun v11 _ => oP (faV (fld Try.prog 48 1) v11) h2 (@kk ⟨(fun v12 _ => oP (evLoad Try.prog 23 v12 h2) h2 (@kk ⟨(fun v13 _ => oP (lnB (lnT Try.prog 23) v13) h2 (@kk ⟨(fun v15 _ => oP (some a0) h2 (@kk ⟨(fun v16 _ => oP (ncV v16) h2 (@kk ⟨(fun v17 _ => oP (faV (fld Try.prog 48 2) v17) h2 (@kk ⟨(fun v18 _ => oP (evLoad Try.prog 3 v18 h2) h2 (@kk ⟨(fun v19 _ => oP (binPure Try.prog .sub 3 (.tmp 18) (.tmp 22) v15 v19) h2 (@kk ⟨(fun v21 _ => oP (mnV Try.prog #[3, 3] 3 [v9, v21]) h2 (@kk ⟨(fun v22 _ => oP (binPure Try.prog .add 3 (.tmp 11) (.tmp 24) v6 v22) h2 (@kk ⟨(fun v23 _ => oP (some v23) h2 (@kk ⟨(fun v24 _ => oT (some a0) none h2 (@kk ⟨(fun v25 h26 => oT (ncV v25) none h26 (@kk ⟨(fun v27 h28 => oT (faV (fld Try.prog 48 0) v27) none h28 (@kk ⟨(fun v29 h30 => oT (evLoad Try.prog 3 v29 h30) none h30 (@kk ⟨(fun v31 h32 => CallV (pp G) (.func (.func 15) #[] #[]) [v31] h32 (@kk ⟨(fun v33 h34 => oE (alE (zro Try.prog 26) 26 h34) (@kk ⟨(fun v35 h36 => oE (stE (szT Try.prog 26) v35 v33 h36) (@kk ⟨(fun v37 h38 => oT (some a0) none h38 (@kk ⟨(fun v39 h40 => oT (ncV v39) none h40 (@kk ⟨(fun v41 h42 => oT (faV (fld Try.prog 48 1) v41) none h42 (@kk ⟨(fun v43 h44 => oT (evLoad Try.prog 23 v43 h44) none h44 (@kk ⟨(fun v45 h46 => oT (some v24) none h46 (@kk ⟨(fun v47 h48 => oT (some v24) none h48 (@kk ⟨(fun v49 h50 => oT (slV Try.prog 23 v45 none (some v47) (some v49) h50) (tailV Try.prog 23 v45 none (some v47) (some v49) h50) h50 (@kk ⟨(fun v51 h52 => CallV (pp G) (.func (.func 33) #[] #[]) [v51] h52 (@kk ⟨(fun v53 h54 => W (pp G) none (.range (.tmp 38) #[39] (subC Try.prog 19 0) (subC Try.prog 19 1)) ⟨(F46 a0 a1 undef undef v1 v24 v35 undef v3 v4 v5 v6 v8 v9 v10 v11 v12 v13 v15 v16 v17 v18 v19 v21 v22 v23 v25 v27 v29 v31 v33 v39 v41 v43 v45 v47 v49 v51 v53 undef undef undef undef undef undef undef), [], h54⟩ (@kR ⟨(outR3 0 (thenR3 (fun s1 => vc3 (pp G) none ir19_s0 s1 (@kR ⟨(finR Try.prog [(.tmp 4)] R)⟩)) (finR Try.prog [(.tmp 4)] R)))⟩))⟩))⟩))⟩))⟩))⟩))⟩))⟩))⟩))⟩))⟩))⟩))⟩))⟩))⟩))⟩))⟩))⟩))⟩))⟩))⟩))⟩))⟩))⟩))⟩))⟩))⟩))⟩))⟩))⟩))⟩))⟩))⟩))⟩))⟩))⟩)) := by kernel_rfl
theorem sh_ir19_0 (G : Nat) (ro : Option Nat) (df : List Nat) (h : Heap) (x0 x1 x2 x3 x4 x5 x6 x7 x8 x9 x10 x11 x12 x13 x14 x15 x16 x17 x18 x19 x20 x21 x22 x23 x24 x25 x26 x27 x28 x29 x30 x31 x32 x33 x34 x35 x36 x37 x38 x39 x40 x41 x42 x43 x44 x45 : Value) (R : XExit → S → Prop) : vc3 (pp G) ro ir19_0 ⟨(F46 x0 x1 x2 x3 x4 x5 x6 x7 x8 x9 x10 x11 x12 x13 x14 x15 x16 x17 x18 x19 x20 x21 x22 x23 x24 x25 x26 x27 x28 x29 x30 x31 x32 x33 x34 x35 x36 x37 x38 x39 x40 x41 x42 x43 x44 x45), df, h⟩ R = (oT (some x39) none h (@kk ⟨(fun v1 h2 => R .normal ⟨(F46 x0 x1 x2 x3 x4 x5 x6 v1 x8 x9 x10 x11 x12 x13 x14 x15 x16 x17 x18 x19 x20 x21 x22 x23 x24 x25 x26 x27 x28 x29 x30 x31 x32 x33 x34 x35 x36 x37 x38 x39 x40 x41 x42 x43 x44 x45), df, h2⟩)⟩)) := by kernel_rfl
attribute [push_cast] sh_ir19_0
theorem sh_ir19_1 (G : Nat) (ro : Option Nat) (df : List Nat) (h : Heap) (x0 x1 x2 x3 x4 x5 x6 x7 x8 x9 x10 x11 x12 x13 x14 x15 x16 x17 x18 x19 x20 x21 x22 x23 x24 x25 x26 x27 x28 x29 x30 x31 x32 x33 x34 x35 x36 x37 x38 x39 x40 x41 x42 x43 x44 x45 : Value) (R : XExit → S → Prop) : vc3 (pp G) ro ir19_1 ⟨(F46 x0 x1 x2 x3 x4 x5 x6 x7 x8 x9 x10 x11 x12 x13 x14 x15 x16 x17 x18 x19 x20 x21 x22 x23 x24 x25 x26 x27 x28 x29 x30 x31 x32 x33 x34 x35 x36 x37 x38 x39 x40 x41 x42 x43 x44 x45), df, h⟩ R = (oT (evLoad Try.prog 26 x6 h) none h (@kk ⟨(fun v1 h2 => oT (some x7) none h2 (@kk ⟨(fun v3 h4 => CallV (pp G) (.func (.func 21) #[] #[]) [v1, v3] h4 (@kk ⟨(fun v5 h6 => R .normal ⟨(F46 x0 x1 x2 x3 x4 x5 x6 x7 x8 x9 x10 x11 x12 x13 x14 x15 x16 x17 x18 x19 x20 x21 x22 x23 x24 x25 x26 x27 x28 x29 x30 x31 x32 x33 x34 x35 x36 x37 x38 x39 v1 v3 v5 x43 x44 x45), df, h6⟩)⟩))⟩))⟩)) := by kernel_rfl
attribute [push_cast] sh_ir19_1
theorem sh_ir23 (G : Nat) (h : Heap) (a0 : Value) (R : Value → Heap → Prop) : vc3 (pp G) none ir23 ⟨(F17 a0 undef undef undef undef undef undef undef undef undef undef undef undef undef undef undef undef), [], h⟩ (finR Try.prog [(.tmp 2)] R) = (oT (some (.slice none 0 0)) none h (@kk ⟨(fun v1 h2 => oE (alE (zro Try.prog 35) 35 h2) (@kk ⟨(fun v3 h4 => oT (some a0) none h4 (@kk ⟨(fun v5 h6 => oT (ncV v5) none h6 (@kk ⟨(fun v7 h8 => oT (faV (fld Try.prog 48 1) v7) none h8 (@kk ⟨(fun v9 h10 => oT (evLoad Try.prog 23 v9 h10) none h10 (@kk ⟨(fun v11 h12 => CallV (pp G) (.func (.func 33) #[] #[]) [v11] h12 (@kk ⟨(fun v13 h14 => W (pp G) none (.range (.tmp 9) #[10] (subC Try.prog 23 0) (subC Try.prog 23 1)) ⟨(F17 a0 undef v1 v3 undef v5 v7 v9 v11 v13 undef undef undef undef undef undef undef), [], h14⟩ (@kR ⟨(outR3 0 (thenR3 (fun s1 => vc3 (pp G) none ir23_s0 s1 (@kR ⟨(finR Try.prog [(.tmp 2)] R)⟩)) (finR Try.prog [(.tmp 2)] R)))⟩))⟩))⟩))⟩))⟩))⟩))⟩))⟩)) := by kernel_rfl
theorem sh_ir23_0 (G : Nat) (ro : Option Nat) (df : List Nat) (h : Heap) (x0 x1 x2 x3 x4 x5 x6 x7 x8 x9 x10 x11 x12 x13 x14 x15 x16 : Value) (R : XExit → S → Prop) : vc3 (pp G) ro ir23_0 ⟨(F17 x0 x1 x2 x3 x4 x5 x6 x7 x8 x9 x10 x11 x12 x13 x14 x15 x16), df, h⟩ R = (oT (some x10) none h (@kk ⟨(fun v1 h2 => R .normal ⟨(F17 x0 x1 x2 x3 v1 x5 x6 x7 x8 x9 x10 x11 x12 x13 x14 x15 x16), df, h2⟩)⟩)) := by kernel_rfl
attribute [push_cast] sh_ir23_0
theorem sh_ir23_1 (G : Nat) (ro : Option Nat) (df : List Nat) (h : Heap) (x0 x1 x2 x3 x4 x5 x6 x7 x8 x9 x10 x11 x12 x13 x14 x15 x16 : Value) (R : XExit → S → Prop) : vc3 (pp G) ro ir23_1 ⟨(F17 x0 x1 x2 x3 x4 x5 x6 x7 x8 x9 x10 x11 x12 x13 x14 x15 x16), df, h⟩ R = (oP (evLoad Try.prog 35 x3 h) h (@kk ⟨(fun v1 _ => oP (some x4) h (@kk ⟨(fun v3 _ => CallV (pp G) (.func (.func 34) #[] #[]) [v3] h (@kk ⟨(fun v4 h5 => keptK (keptP [1] h5 [(0, (fun h2 => (evLoad Try.prog 35 x3 h2)), v1)]) (@kb ⟨(oE (bsE (slT Try.prog 35) 1 [(0, v4)] h5) (@kk ⟨(fun v6 h7 => keptK (keptP [2] h7 [(0, (fun h2 => (evLoad Try.prog 35 x3 h2)), v1)]) (@kb ⟨(oE (evAppend Try.prog 35 35 v1 v6 h7) (@kk ⟨(fun v8 h9 => keptK (keptP [0, 3, 2] h9 [(0, (fun h2 => (evLoad Try.prog 35 x3 h2)), v1)]) (@kb ⟨(oE (stE (szT Try.prog 35) x3 v8 h9) (@kk ⟨(fun v10 h11 => keptK (keptP [4, 4, 0, 1, 2, 3, 4] h11 [(0, (fun h2 => (evLoad Try.prog 35 x3 h2)), v1)]) (@kb ⟨(R .normal ⟨(F17 x0 x1 x2 x3 x4 x5 x6 x7 x8 x9 x10 v1 v3 v4 v6 v8 x16), df, h11⟩)⟩))⟩))⟩))⟩))⟩))⟩))⟩))⟩))⟩))⟩)) := by kernel_rfl
attribute [push_cast] sh_ir23_1
theorem sh_ir33 (G : Nat) (h : Heap) (a0 : Value) (R : Value → Heap → Prop) : vc3 (pp G) none ir33 ⟨(F4 a0 undef undef undef), [], h⟩ (finR Try.prog [(.tmp 2)] R) = (oE (bxE 23 a0 h) (@kk ⟨(fun v1 h2 => oT (some .nilFunc) none h2 (@kk ⟨(fun v3 h4 => oT (some (.func (.func 36) ⟨[]⟩ ⟨[v1]⟩)) none h4 (@kk ⟨(fun v5 h6 => oT (some v5) none h6 (@kk ⟨(fun v7 h8 => R v7 h8)⟩))⟩))⟩))⟩)) := by kernel_rfl
theorem sh_ir34 (G : Nat) (h : Heap) (a0 : Value) (R : Value → Heap → Prop) : vc3 (pp G) none ir34 ⟨(F8 a0 undef undef undef undef undef undef undef), [], h⟩ (finR Try.prog [(.tmp 2)] R) = (oT (some (.slice none 0 0)) none h (@kk ⟨(fun v1 h2 => oT (some a0) none h2 (@kk ⟨(fun v3 h4 => oT (binPure Try.prog .eql 23 (.tmp 3) (.const (.slice none 0 0)) v3 (.slice none 0 0)) none h4 (@kk ⟨(fun v5 h6 => vcond v5 (@kb ⟨(oT (some (.slice none 0 0)) none h6 (@kk ⟨(fun v7 h8 => R v7 h8)⟩))⟩) (@kb ⟨(oE (bsE (slT Try.prog 23) 0 [] h6) (@kk ⟨(fun v9 h10 => oT (some a0) none h10 (@kk ⟨(fun v11 h12 => oE (evAppend Try.prog 23 23 v9 v11 h12) (@kk ⟨(fun v13 h14 => oT (some v13) none h14 (@kk ⟨(fun v15 h16 => R v15 h16)⟩))⟩))⟩))⟩))⟩))⟩))⟩))⟩)) := by kernel_rfl
theorem sh_ir36 (G : Nat) (h : Heap) (a0 a1 : Value) (R : Value → Heap → Prop) : vc3 (pp G) none ir36 ⟨(F42 a0 a1 undef undef undef undef undef undef undef undef undef undef undef undef undef undef undef undef undef undef undef undef undef undef undef undef undef undef undef undef undef undef undef undef undef undef undef undef undef undef undef undef), [], h⟩ (finR Try.prog [] R) = (W (pp G) none (.loop ir36_s0) ⟨(F42 a0 a1 undef undef undef undef undef undef undef undef undef undef undef undef undef undef undef undef undef undef undef undef undef undef undef undef undef undef undef undef undef undef undef undef undef undef undef undef undef undef undef undef), [], h⟩ (@kR ⟨(outR3 0 (finR Try.prog [] R))⟩)) := by kernel_rfl
theorem sh_ir19_s0 (G : Nat) (ro : Option Nat) (df : List Nat) (h : Heap) (x0 x1 x2 x3 x4 x5 x6 x7 x8 x9 x10 x11 x12 x13 x14 x15 x16 x17 x18 x19 x20 x21 x22 x23 x24 x25 x26 x27 x28 x29 x30 x31 x32 x33 x34 x35 x36 x37 x38 x39 x40 x41 x42 x43 x44 x45 : Value) (R : XExit → S → Prop) : vc3 (pp G) ro ir19_s0 ⟨(F46 x0 x1 x2 x3 x4 x5 x6 x7 x8 x9 x10 x11 x12 x13 x14 x15 x16 x17 x18 x19 x20 x21 x22 x23 x24 x25 x26 x27 x28 x29 x30 x31 x32 x33 x34 x35 x36 x37 x38 x39 x40 x41 x42 x43 x44 x45), df, h⟩ R = (oT (evLoad Try.prog 26 x6 h) none h (@kk ⟨(fun v1 h2 => CallV (pp G) (.func (.func 22) #[] #[]) [v1] h2 (@kk ⟨(fun v3 h4 => oT (evLoad Try.prog 26 x6 h4) none h4 (@kk ⟨(fun v5 h6 => oT (some v5) none h6 (@kk ⟨(fun v7 h8 => R .ret ⟨(F46 x0 x1 x2 x3 v7 x5 x6 x7 x8 x9 x10 x11 x12 x13 x14 x15 x16 x17 x18 x19 x20 x21 x22 x23 x24 x25 x26 x27 x28 x29 x30 x31 x32 x33 x34 x35 x36 x37 x38 x39 x40 x41 x42 v1 v3 v5), df, h8⟩)⟩))⟩))⟩))⟩)) := by kernel_rfl
attribute [push_cast] sh_ir19_s0
theorem sh_ir23_s0 (G : Nat) (ro : Option Nat) (df : List Nat) (h : Heap) (x0 x1 x2 x3 x4 x5 x6 x7 x8 x9 x10 x11 x12 x13 x14 x15 x16 : Value) (R : XExit → S → Prop) : vc3 (pp G) ro ir23_s0 ⟨(F17 x0 x1 x2 x3 x4 x5 x6 x7 x8 x9 x10 x11 x12 x13 x14 x15 x16), df, h⟩ R = (oT (evLoad Try.prog 35 x3 h) none h (@kk ⟨(fun v1 h2 => oT (some v1) none h2 (@kk ⟨(fun v3 h4 => R .ret ⟨(F17 x0 x1 v3 x3 x4 x5 x6 x7 x8 x9 x10 x11 x12 x13 x14 x15 v1), df, h4⟩)⟩))⟩)) := by kernel_rfl
attribute [push_cast] sh_ir23_s0
theorem sh_ir36_s0 (G : Nat) (ro : Option Nat) (df : List Nat) (h : Heap) (x0 x1 x2 x3 x4 x5 x6 x7 x8 x9 x10 x11 x12 x13 x14 x15 x16 x17 x18 x19 x20 x21 x22 x23 x24 x25 x26 x27 x28 x29 x30 x31 x32 x33 x34 x35 x36 x37 x38 x39 x40 x41 : Value) (R : XExit → S → Prop) : vc3 (pp G) ro ir36_s0 ⟨(F42 x0 x1 x2 x3 x4 x5 x6 x7 x8 x9 x10 x11 x12 x13 x14 x15 x16 x17 x18 x19 x20 x21 x22 x23 x24 x25 x26 x27 x28 x29 x30 x31 x32 x33 x34 x35 x36 x37 x38 x39 x40 x41), df, h⟩ R = (oT (evLoad Try.prog 23 x1 h) none h (@kk ⟨(fun v1 h2 => oT (lnB (lnT Try.prog 23) v1) none h2 (@kk ⟨(fun v3 h4 => oT (binPure Try.prog .geq 3 (.tmp 7) (.const (.int .i64 4)) v3 (.int .i64 4)) none h4 (@kk ⟨(fun v5 h6 => vcond v5 (@kb ⟨(oT (some (.int .i64 4)) none h6 (@kk ⟨(fun v7 h8 => oT (evLoad Try.prog 23 x1 h8) none h8 (@kk ⟨(fun v9 h10 => oT (slV Try.prog 23 v9 none (some (.int .i64 4)) none h10) (tailV Try.prog 23 v9 none (some (.int .i64 4)) none h10) h10 (@kk ⟨(fun v11 h12 => oT (lnB (lnT Try.prog 23) v11) none h12 (@kk ⟨(fun v13 h14 => oT (some (.int .i64 0)) none h14 (@kk ⟨(fun v15 h16 => W (pp G) ro (.loop ir36_s1) ⟨(F42 x0 x1 x2 v7 x4 x5 v1 v3 v5 v9 v11 v13 v15 x13 x14 x15 x16 x17 x18 x19 x20 x21 x22 x23 x24 x25 x26 x27 x28 x29 x30 x31 x32 x33 x34 x35 x36 x37 x38 x39 x40 x41), df, h16⟩ (@kR ⟨(outR3 2 (thenR3 (fun s1 => vc3 (pp G) ro ir36_s2 s1 (@kR ⟨(outR3 1 R)⟩)) (outR3 1 R)))⟩))⟩))⟩))⟩))⟩))⟩))⟩) (@kb ⟨(R (.exit 0) ⟨(F42 x0 x1 x2 x3 x4 x5 v1 v3 v5 x9 x10 x11 x12 x13 x14 x15 x16 x17 x18 x19 x20 x21 x22 x23 x24 x25 x26 x27 x28 x29 x30 x31 x32 x33 x34 x35 x36 x37 x38 x39 x40 x41), df, h6⟩)⟩))⟩))⟩))⟩)) := by kernel_rfl
attribute [push_cast] sh_ir36_s0
theorem sh_ir36_s1 (G : Nat) (ro : Option Nat) (df : List Nat) (h : Heap) (x0 x1 x2 x3 x4 x5 x6 x7 x8 x9 x10 x11 x12 x13 x14 x15 x16 x17 x18 x19 x20 x21 x22 x23 x24 x25 x26 x27 x28 x29 x30 x31 x32 x33 x34 x35 x36 x37 x38 x39 x40 x41 : Value) (R : XExit → S → Prop) : vc3 (pp G) ro ir36_s1 ⟨(F42 x0 x1 x2 x3 x4 x5 x6 x7 x8 x9 x10 x11 x12 x13 x14 x15 x16 x17 x18 x19 x20 x21 x22 x23 x24 x25 x26 x27 x28 x29 x30 x31 x32 x33 x34 x35 x36 x37 x38 x39 x40 x41), df, h⟩ R = (oT (binPure Try.prog .lss 3 (.tmp 12) (.tmp 11) x12 x11) none h (@kk ⟨(fun v1 h2 => vcond v1 (@kb ⟨(oT (some x12) none h2 (@kk ⟨(fun v3 h4 => oT (iaV (esz Try.prog 23) x10 x12) none h4 (@kk ⟨(fun v5 h6 => oT (evLoad Try.prog 5 v5 h6) none h6 (@kk ⟨(fun v7 h8 => oT (some v3) none h8 (@kk ⟨(fun v9 h10 => oT (some v7) none h10 (@kk ⟨(fun v11 h12 => oT (some x3) none h12 (@kk ⟨(fun v13 h14 => oT (some v11) none h14 (@kk ⟨(fun v15 h16 => oT (cvV Try.prog 5 3 v15 h16) none h16 (@kk ⟨(fun v17 h18 => oT (some v9) none h18 (@kk ⟨(fun v19 h20 => oT (binPure Try.prog .sub 3 (.const (.int .i64 3)) (.tmp 20) (.int .i64 3) v19) none h20 (@kk ⟨(fun v21 h22 => oT (binPure Try.prog .mul 3 (.const (.int .i64 8)) (.tmp 21) (.int .i64 8) v21) none h22 (@kk ⟨(fun v23 h24 => oT (binPure Try.prog .shl 3 (.tmp 19) (.tmp 22) v17 v23) none h24 (@kk ⟨(fun v25 h26 => oT (binPure Try.prog .add 3 (.tmp 17) (.tmp 23) v13 v25) none h26 (@kk ⟨(fun v27 h28 => oT (some v27) none h28 (@kk ⟨(fun v29 h30 => oT (binPure Try.prog .add 3 (.tmp 12) (.const (.int .i64 1)) x12 (.int .i64 1)) none h30 (@kk ⟨(fun v31 h32 => oT (some v31) none h32 (@kk ⟨(fun v33 h34 => R .normal ⟨(F42 x0 x1 x2 v29 v9 v11 x6 x7 x8 x9 x10 x11 v33 v1 v3 v5 v7 v13 v15 v17 v19 v21 v23 v25 v27 v31 x26 x27 x28 x29 x30 x31 x32 x33 x34 x35 x36 x37 x38 x39 x40 x41), df, h34⟩)⟩))⟩))⟩))⟩))⟩))⟩))⟩))⟩))⟩))⟩))⟩))⟩))⟩))⟩))⟩))⟩))⟩) (@kb ⟨(R (.exit 2) ⟨(F42 x0 x1 x2 x3 x4 x5 x6 x7 x8 x9 x10 x11 x12 v1 x14 x15 x16 x17 x18 x19 x20 x21 x22 x23 x24 x25 x26 x27 x28 x29 x30 x31 x32 x33 x34 x35 x36 x37 x38 x39 x40 x41), df, h2⟩)⟩))⟩)) := by kernel_rfl
attribute [push_cast] sh_ir36_s1
theorem sh_ir36_s2 (G : Nat) (ro : Option Nat) (df : List Nat) (h : Heap) (x0 x1 x2 x3 x4 x5 x6 x7 x8 x9 x10 x11 x12 x13 x14 x15 x16 x17 x18 x19 x20 x21 x22 x23 x24 x25 x26 x27 x28 x29 x30 x31 x32 x33 x34 x35 x36 x37 x38 x39 x40 x41 : Value) (R : XExit → S → Prop) : vc3 (pp G) ro ir36_s2 ⟨(F42 x0 x1 x2 x3 x4 x5 x6 x7 x8 x9 x10 x11 x12 x13 x14 x15 x16 x17 x18 x19 x20 x21 x22 x23 x24 x25 x26 x27 x28 x29 x30 x31 x32 x33 x34 x35 x36 x37 x38 x39 x40 x41), df, h⟩ R = (oT (some x3) none h (@kk ⟨(fun v1 h2 => oT (evLoad Try.prog 23 x1 h2) none h2 (@kk ⟨(fun v3 h4 => oT (lnB (lnT Try.prog 23) v3) none h4 (@kk ⟨(fun v5 h6 => oT (binPure Try.prog .gtr 3 (.tmp 26) (.tmp 28) v1 v5) none h6 (@kk ⟨(fun v7 h8 => oT (some v7) none h8 (@kk ⟨(fun v9 h10 => gT v9 false (some x0) none h10 (@kk ⟨(fun v11 h12 => gT v9 false (evLoad Try.prog 23 x1 h12) none h12 (@kk ⟨(fun v13 h14 => gT v9 false (some x3) none h14 (@kk ⟨(fun v15 h16 => gT v9 false (some x3) none h16 (@kk ⟨(fun v17 h18 => gT v9 false (slV Try.prog 23 v13 (some (.int .i64 4)) (some v15) (some v17) h18) (tailV Try.prog 23 v13 (some (.int .i64 4)) (some v15) (some v17) h18) h18 (@kk ⟨(fun v19 h20 => gC (pp G) v9 false v11 [v19] h20 (@kk ⟨(fun v21 h22 => gT v9 false (unV Try.prog .not v21) none h22 (@kk ⟨(fun v23 h24 => oT (pickV v9 (.bool true) v23) none h24 (@kk ⟨(fun v25 h26 => vcond v25 (@kb ⟨(R .ret ⟨(F42 x0 x1 x2 x3 x4 x5 x6 x7 x8 x9 x10 x11 x12 x13 x14 x15 x16 x17 x18 x19 x20 x21 x22 x23 x24 x25 v1 v3 v5 v7 v9 v11 v13 v15 v17 v19 v21 v23 v25 x39 x40 x41), df, h26⟩)⟩) (@kb ⟨(oT (evLoad Try.prog 23 x1 h26) none h26 (@kk ⟨(fun v27 h28 => oT (some x3) none h28 (@kk ⟨(fun v29 h30 => oT (slV Try.prog 23 v27 (some v29) none none h30) (tailV Try.prog 23 v27 (some v29) none none h30) h30 (@kk ⟨(fun v31 h32 => oE (stE (szT Try.prog 23) x1 v31 h32) (@kk ⟨(fun v33 h34 => R .normal ⟨(F42 x0 x1 x2 x3 x4 x5 x6 x7 x8 x9 x10 x11 x12 x13 x14 x15 x16 x17 x18 x19 x20 x21 x22 x23 x24 x25 v1 v3 v5 v7 v9 v11 v13 v15 v17 v19 v21 v23 v25 v27 v29 v31), df, h34⟩)⟩))⟩))⟩))⟩))⟩))⟩))⟩))⟩))⟩))⟩))⟩))⟩))⟩))⟩))⟩))⟩))⟩))⟩)) := by kernel_rfl
attribute [push_cast] sh_ir36_s2
end
end Go.Proofs.Ytohdgkmgkcoilaa

namespace Go.Proofs.Ytohdgkmgkcoilaa
open Go Go.RowKit Go.Ev
noncomputable section
set_option linter.unusedSimpArgs false
set_option linter.unusedVariables false
variable (G : Nat) (h : Heap)

/-! ### Slices of a row of bytes -/
theorem u23 : Try.prog.underlying 23 = some (.slice 5) := by kernel_rfl
theorem s5 : szT Try.prog 5 = some 1 := by kernel_rfl
def Cap (h : Heap) (a : Option Addr) (n c : Nat) : Prop :=
  (c < UC ∧ n ≤ c) ∨ ∃ b off full, a = some ⟨b, off, none⟩ ∧ cells h b = some (full, 5, true) ∧ UC ≤ c ∧ off = c - UC ∧ off + n ≤ full.length ∧ n < U
theorem blt_t {a b : Nat} (h : a < b) : Nat.blt a b = true := by rw [Nat.blt_eq]; exact h
theorem blt_f {a b : Nat} (h : ¬ a < b) : Nat.blt a b = false := by
  cases hx : Nat.blt a b with
  | false => rfl
  | true => rw [Nat.blt_eq] at hx; exact absurd hx h
theorem ble_t {a b : Nat} (h : a ≤ b) : Nat.ble a b = true := by rw [Nat.ble_eq]; exact h
theorem beq_t {a b : Nat} (h : a = b) : Nat.beq a b = true := by rw [Nat.beq_eq]; exact h
theorem beq_f {a b : Nat} (h : ¬ a = b) : Nat.beq a b = false := by
  cases hx : Nat.beq a b with
  | false => rfl
  | true => rw [Nat.beq_eq] at hx; exact absurd hx h
/-- the bounds of a slicing, as it is written -/
theorem bounds_lhm {len top l h m : Nat} (h1 : l ≤ h) (h2 : h ≤ m) (h3 : m ≤ top) : bounds len top (some (.int .i64 m)) (some (.int .i64 h)) (some (.int .i64 l)) = some (l, h, some m) := by
  show (match (match Nat.ble m top with | true => some (some m) | false => none : Option (Option Nat)) with
    | none => none
    | some q => match (match (some (.int .i64 h) : Option Value), q with
      | none, none => some len
      | none, some _ => none
      | some (.int _ (.ofNat h)), none => (match Nat.ble h top with | true => some h | false => none)
      | some (.int _ (.ofNat h)), some m => (match Nat.ble h m with | true => some h | false => none)
      | some _, _ => none : Option Nat) with
      | none => none
      | some h => match (match Nat.ble l h with | true => some l | false => none : Option Nat) with
        | none => none
        | some l => some (l, h, q)) = _
  rw [ble_t h3]
  show (match (match Nat.ble h m with | true => some h | false => none : Option Nat) with
      | none => none
      | some h => match (match Nat.ble l h with | true => some l | false => none : Option Nat) with
        | none => none
        | some l => some (l, h, some m)) = _
  rw [ble_t h2]
  show (match (match Nat.ble l h with | true => some l | false => none : Option Nat) with
        | none => none
        | some l => some (l, h, some m)) = _
  rw [ble_t h1]
theorem bounds_l {len top l : Nat} (h1 : l ≤ len) : bounds len top none none (some (.int .i64 l)) = some (l, len, none) := by
  show (match (match Nat.ble l len with | true => some l | false => none : Option Nat) with
        | none => none
        | some l => some (l, len, none)) = _
  rw [ble_t h1]
theorem bounds_h {len top h : Nat} (h1 : h ≤ top) : bounds len top none (some (.int .i64 h)) none = some (0, h, none) := by
  show (match (match Nat.ble h top with | true => some h | false => none : Option Nat) with
        | none => none
        | some h => some (0, h, none)) = _
  rw [ble_t h1]
theorem add0 (b off : Nat) : (⟨b, off, none⟩ : Addr).add (0 * 1) = ⟨b, off, none⟩ := by rw [addr_add]; simp

theorem sl_h {h : Heap} {a : Option Addr} {n c k : Nat} (hc : Cap h a n c) (hk : k ≤ n) (h0 : 0 < n) :
    slV Try.prog 23 (.slice a n c) none (some (.int .i64 k)) none h = some (.slice a k c) := by
  rcases hc with ⟨h1, h2⟩ | ⟨b, off, full, rfl, h2, h3, h4, h5, h6⟩
  · have e : slicePure Try.prog 23 a n c none (some (.int .i64 k)) none = some (.slice a k c) := by
      unfold slicePure
      simp only [u23, s5, blt_t h1, bounds_h (len := n) (show k ≤ c by omega), Option.getD_none, beq_f (show ¬ c = 0 by omega), Nat.sub_zero]
      cases a with
      | none => rfl
      | some a => obtain ⟨b, off, s⟩ := a; simp [Addr.add]
    simp only [slV, e]
  · have e : slicePure Try.prog 23 (some ⟨b, off, none⟩) n c none (some (.int .i64 k)) none = none := by
      unfold slicePure
      simp only [u23, s5, blt_f (show ¬ c < UC by omega)]
    have e2 : (Nat.beq 5 5 && Nat.ble UC c && Nat.beq off ((c - UC) * 1) && Nat.blt 0 1 && Nat.ble (off + n * 1) full.length && Nat.blt n U) = true := by
      rw [ble_t h3, beq_t (show off = (c - UC) * 1 by omega), ble_t (show off + n * 1 ≤ full.length by omega), blt_t h6]; rfl
    simp only [slV, e, sliceRead, u23, s5, h2, e2, bounds_h (len := n) hk, blt_t h0, add0, Nat.sub_zero, Nat.add_zero]

theorem foneL_iff (n : Nat) : ∀ l : List Value, foneL n l = true ↔ ∀ v ∈ l, fone n v = true
  | [] => ⟨fun _ v hv => (by cases hv), fun _ => rfl⟩
  | x :: l => by
    rw [q_cons, foneL_iff n l]
    simp
theorem Sl_spot {h : Heap} {a : Option Addr} {cs : List Value} (hs : Sl h a cs) : spotN a := by
  rcases hs with ⟨_, h1⟩ | ⟨b, off, full, e, m, rfl, _⟩
  · exact h1
  · exact spotN_s b off
theorem Sl_sub {h : Heap} {b off : Nat} {cs : List Value} (hs : Sl h (some ⟨b, off, none⟩) cs) (l m : Nat) (hl : l + m ≤ cs.length) : Sl h (some ⟨b, off + l, none⟩) ((cs.drop l).take m) := by
  rcases hs with ⟨rfl, _⟩ | ⟨b', off', full, e, mo, ha, hc, h1, h2, h3⟩
  · rw [List.drop_nil, List.take_nil]; exact Sl.nil _ (spotN_s _ _)
  · cases ha
    have hlen : ((cs.drop l).take m).length = m := by rw [List.length_take, List.length_drop]; omega
    right
    refine ⟨b, off + l, full, e, mo, rfl, hc, by omega, ?_, ?_⟩
    · rw [hlen, ← h2, List.drop_take, List.take_take, List.drop_drop]
      congr 1
      omega
    · rcases h3 with h3 | h3
      · exact .inl h3
      · right
        rw [foneL_iff] at h3 ⊢
        exact fun v hv => h3 v (List.mem_of_mem_drop (List.mem_of_mem_take hv))
theorem bv_sub (bs : List Int) (l m : Nat) : bv ((bs.drop l).take m) = ((bv bs).drop l).take m := by rw [bv_take, bv_drop]
theorem sl_lhm {h : Heap} {a : Option Addr} {n c l k : Nat} {bs : List Int} (hs : Sl h a (bv bs)) (hn : bs.length = n) (hc : Cap h a n c) (hl : l ≤ k) (hk : k ≤ n) (h0 : 0 < n) :
    ∃ a' c', slV Try.prog 23 (.slice a n c) (some (.int .i64 l)) (some (.int .i64 k)) (some (.int .i64 k)) h = some (.slice a' (k - l) c') ∧ Sl h a' (bv ((bs.drop l).take (k - l))) ∧ ∀ b, blk a' b → blk a b := by
  have hsp := Sl_spot hs
  obtain ⟨b, off, rfl⟩ : ∃ b off, a = some ⟨b, off, none⟩ := by
    rcases hs with ⟨h1, _⟩ | ⟨b, off, full, e, m, rfl, _⟩
    · have : bs.length = 0 := by have := congrArg List.length h1; rwa [bv_len] at this
      omega
    · exact ⟨b, off, rfl⟩
  have hsub := Sl_sub hs l (k - l) (by rw [bv_len]; omega)
  rw [← bv_sub] at hsub
  by_cases hkl : k = l
  · subst hkl
    refine ⟨some ⟨b, off, none⟩, 0, ?_, ?_, fun b h => h⟩
    · rcases hc with ⟨h1, h2⟩ | ⟨b', off', full, ha, h2, h3, h4, h5, h6⟩
      · have e : slicePure Try.prog 23 (some ⟨b, off, none⟩) n c (some (.int .i64 k)) (some (.int .i64 k)) (some (.int .i64 k)) = some (.slice (some ⟨b, off, none⟩) (k - k) 0) := by
          unfold slicePure
          simp only [u23, s5, blt_t h1, bounds_lhm (len := n) (Nat.le_refl k) (Nat.le_refl k) (show k ≤ c by omega), Option.getD_some, beq_t (rfl : k = k), Nat.sub_self]
        simp only [slV, e]
      · cases ha
        have e : slicePure Try.prog 23 (some ⟨b, off, none⟩) n c (some (.int .i64 k)) (some (.int .i64 k)) (some (.int .i64 k)) = none := by
          unfold slicePure
          simp only [u23, s5, blt_f (show ¬ c < UC by omega)]
        have e2 : (Nat.beq 5 5 && Nat.ble UC c && Nat.beq off ((c - UC) * 1) && Nat.blt 0 1 && Nat.ble (off + n * 1) full.length && Nat.blt n U) = true := by
          rw [ble_t h3, beq_t (show off = (c - UC) * 1 by omega), ble_t (show off + n * 1 ≤ full.length by omega), blt_t h6]; rfl
        simp only [slV, e, sliceRead, u23, s5, h2, e2, bounds_lhm (len := n) (Nat.le_refl k) (Nat.le_refl k) hk, beq_t (rfl : k = k), Nat.sub_self]
    · rw [Nat.sub_self, List.take_zero]; exact Sl.nil _ (spotN_s _ _)
  · refine ⟨some ⟨b, off + l, none⟩, k - l, ?_, hsub, fun b' hb => by obtain ⟨o, s, e⟩ := hb; cases e; exact ⟨off, none, rfl⟩⟩
    have ea : (⟨b, off, none⟩ : Addr).add (l * 1) = ⟨b, off + l, none⟩ := by rw [addr_add, Nat.mul_one]
    rcases hc with ⟨h1, h2⟩ | ⟨b', off', full, ha, h2, h3, h4, h5, h6⟩
    · have e : slicePure Try.prog 23 (some ⟨b, off, none⟩) n c (some (.int .i64 l)) (some (.int .i64 k)) (some (.int .i64 k)) = some (.slice (some ⟨b, off + l, none⟩) (k - l) (k - l)) := by
        unfold slicePure
        simp only [u23, s5, blt_t h1, bounds_lhm (len := n) hl (Nat.le_refl k) (show k ≤ c by omega), Option.getD_some, beq_f hkl, Option.map_some, ea]
      simp only [slV, e]
    · cases ha
      have e : slicePure Try.prog 23 (some ⟨b, off, none⟩) n c (some (.int .i64 l)) (some (.int .i64 k)) (some (.int .i64 k)) = none := by
        unfold slicePure
        simp only [u23, s5, blt_f (show ¬ c < UC by omega)]
      have e2 : (Nat.beq 5 5 && Nat.ble UC c && Nat.beq off ((c - UC) * 1) && Nat.blt 0 1 && Nat.ble (off + n * 1) full.length && Nat.blt n U) = true := by
        rw [ble_t h3, beq_t (show off = (c - UC) * 1 by omega), ble_t (show off + n * 1 ≤ full.length by omega), blt_t h6]; rfl
      simp only [slV, e, sliceRead, u23, s5, h2, e2, bounds_lhm (len := n) hl (Nat.le_refl k) hk, beq_f hkl, ea]
/-- what is behind a place: one row, or, at the end of a row whose capacity is not known, one of two -/
theorem sl_l {h : Heap} {a : Option Addr} {n c l : Nat} {bs : List Int} (hs : Sl h a (bv bs)) (hn : bs.length = n) (hc : Cap h a n c) (hl : l ≤ n) (h0 : 0 < n) (hl0 : 0 < l) :
    (∃ a' c', slV Try.prog 23 (.slice a n c) (some (.int .i64 l)) none none h = some (.slice a' (n - l) c') ∧ Sl h a' (bv (bs.drop l)) ∧ (∀ b, blk a' b → blk a b) ∧ (l < n → Cap h a' (n - l) c')) ∨
    (l = n ∧ slV Try.prog 23 (.slice a n c) (some (.int .i64 l)) none none h = none ∧ ∃ a1 c1 a2 c2, tailV Try.prog 23 (.slice a n c) (some (.int .i64 l)) none none h = some (.slice a1 0 c1, .slice a2 0 c2) ∧ spotN a1 ∧ spotN a2 ∧ (∀ b, blk a1 b → blk a b) ∧ ∀ b, blk a2 b → blk a b) := by
  have hsp := Sl_spot hs
  obtain ⟨b, off, rfl⟩ : ∃ b off, a = some ⟨b, off, none⟩ := by
    rcases hs with ⟨h1, _⟩ | ⟨b, off, full, e, m, rfl, _⟩
    · have : bs.length = 0 := by have := congrArg List.length h1; rwa [bv_len] at this
      omega
    · exact ⟨b, off, rfl⟩
  have hsub := Sl_sub hs l (n - l) (by rw [bv_len]; omega)
  rw [← bv_sub, List.take_of_length_le (by rw [List.length_drop]; omega)] at hsub
  have ea : (⟨b, off, none⟩ : Addr).add (l * 1) = ⟨b, off + l, none⟩ := by rw [addr_add, Nat.mul_one]
  have hblk : ∀ o b', blk (some ⟨b, o, none⟩) b' → blk (some ⟨b, off, none⟩) b' := fun o b' hb => by obtain ⟨o, s, e⟩ := hb; cases e; exact ⟨off, none, rfl⟩
  rcases hc with ⟨h1, h2⟩ | ⟨b', off', full, ha, h2, h3, h4, h5, h6⟩
  · left
    by_cases hcl : c = l
    · have hln : l = n := by omega
      have e : slicePure Try.prog 23 (some ⟨b, off, none⟩) n c (some (.int .i64 l)) none none = some (.slice (some ⟨b, off, none⟩) (n - l) (c - l)) := by
        unfold slicePure
        simp only [u23, s5, blt_t h1, bounds_l (top := c) hl, Option.getD_none, beq_t hcl]
      refine ⟨some ⟨b, off, none⟩, c - l, by simp only [slV, e], ?_, hblk _, fun h => by omega⟩
      rw [List.drop_eq_nil_of_le (by omega)]; exact Sl.nil _ hsp
    · have e : slicePure Try.prog 23 (some ⟨b, off, none⟩) n c (some (.int .i64 l)) none none = some (.slice (some ⟨b, off + l, none⟩) (n - l) (c - l)) := by
        unfold slicePure
        simp only [u23, s5, blt_t h1, bounds_l (top := c) hl, Option.getD_none, beq_f hcl, Option.map_some, ea]
      exact ⟨some ⟨b, off + l, none⟩, c - l, by simp only [slV, e], hsub, hblk _, fun h => .inl ⟨by omega, by omega⟩⟩
  · cases ha
    have e : slicePure Try.prog 23 (some ⟨b, off, none⟩) n c (some (.int .i64 l)) none none = none := by
      unfold slicePure
      simp only [u23, s5, blt_f (show ¬ c < UC by omega)]
    have e2 : (Nat.beq 5 5 && Nat.ble UC c && Nat.beq off ((c - UC) * 1) && Nat.blt 0 1 && Nat.ble (off + n * 1) full.length && Nat.blt n U) = true := by
      rw [ble_t h3, beq_t (show off = (c - UC) * 1 by omega), ble_t (show off + n * 1 ≤ full.length by omega), blt_t h6]; rfl
    by_cases hln : l < n
    · left
      refine ⟨some ⟨b, off + l, none⟩, c + l, by simp only [slV, e, sliceRead, u23, s5, h2, e2, bounds_l (top := n) hl, blt_t hln, ea], hsub, hblk _, fun _ => .inr ⟨b, off + l, full, rfl, h2, by omega, by omega, by omega, by omega⟩⟩
    · right
      have hln' : l = n := by omega
      subst hln'
      refine ⟨rfl, by simp only [slV, e, sliceRead, u23, s5, h2, e2, bounds_l (top := l) hl, blt_f hln], some ⟨b, off, none⟩, 0, some ⟨b, off + l * 1, none⟩, c + l, ?_, spotN_s _ _, spotN_s _ _, hblk _, hblk _⟩
      simp only [tailV, u23, s5, h2, bounds_l (top := l) hl]
      rw [if_pos ⟨trivial, h3, by omega, by omega, by omega, trivial, trivial, h6⟩]
end
end Go.Proofs.Ytohdgkmgkcoilaa

namespace Go.Proofs.Ytohdgkmgkcoilaa
open Go Go.RowKit Go.Ev
noncomputable section
set_option linter.unusedSimpArgs false
set_option linter.unusedVariables false
variable (G : Nat) (h : Heap)

theorem be_eq (n j : Nat) : be n j = ((n : Int).fdiv (2 ^ (24 - 8 * j))) % 256 := rfl
theorem be_range (n j : Nat) : 0 ≤ be n j ∧ be n j < 256 := by rw [be_eq]; omega
def hd (n : Nat) : Nat → Int
  | 0 => 4
  | j + 1 => hd n j + be n j * 2 ^ (24 - 8 * j)
theorem p0 : (2 : Int) ^ (24 - 8 * 0) = 16777216 := by decide
theorem p1 : (2 : Int) ^ (24 - 8 * 1) = 65536 := by decide
theorem p2 : (2 : Int) ^ (24 - 8 * 2) = 256 := by decide
theorem p3 : (2 : Int) ^ (24 - 8 * 3) = 1 := by decide
theorem hd4 {n : Nat} (h : n < 4294967296) : hd n 4 = 4 + n := by
  have e0 : be n 0 = (n : Int) / 16777216 % 256 := by rw [be_eq]; simp [Int.fdiv_eq_ediv_of_nonneg]
  have e1 : be n 1 = (n : Int) / 65536 % 256 := by rw [be_eq]; simp [Int.fdiv_eq_ediv_of_nonneg]
  have e2 : be n 2 = (n : Int) / 256 % 256 := by rw [be_eq]; simp [Int.fdiv_eq_ediv_of_nonneg]
  have e3 : be n 3 = (n : Int) % 256 := by rw [be_eq]; simp [Int.fdiv_eq_ediv_of_nonneg]
  simp only [hd, e0, e1, e2, e3, p0, p1, p2, p3]
  omega
theorem hd_range (n : Nat) : ∀ j, j ≤ 4 → 0 ≤ hd n j ∧ hd n j < 8589934592
  | 0, _ => by simp [hd]
  | 1, _ => by have := be_range n 0; simp only [hd, p0, p1, p2, p3]; omega
  | 2, _ => by have := be_range n 0; have := be_range n 1; simp only [hd, p0, p1, p2, p3]; omega
  | 3, _ => by have := be_range n 0; have := be_range n 1; have := be_range n 2; simp only [hd, p0, p1, p2, p3]; omega
  | 4, _ => by have := be_range n 0; have := be_range n 1; have := be_range n 2; have := be_range n 3; simp only [hd, p0, p1, p2, p3]; omega

inductive I36h (h : Heap) (n : Nat) (y p : Value) (a : Option Addr) (c : Nat) : Nat → S → Prop
  | mk (j : Nat) (ev jv : Int) {x2 x4 x5 x6 x7 x8 x9 x13 x14 x15 x16 x17 x18 x19 x20 x21 x22 x23 x24 x25 x26 x27 x28 x29 x30 x31 x32 x33 x34 x35 x36 x37 x38 x39 x40 x41 : Value} (hev : ev = hd n j) (hjv : jv = (j : Int)) (hj : j ≤ 4) :
    I36h h n y p a c (4 - j) ⟨(F42 y p x2 (.int .i64 ev) x4 x5 x6 x7 x8 x9 (.slice a 4 c) (.int .i64 4) (.int .i64 jv) x13 x14 x15 x16 x17 x18 x19 x20 x21 x22 x23 x24 x25 x26 x27 x28 x29 x30 x31 x32 x33 x34 x35 x36 x37 x38 x39 x40 x41), [], h⟩

/-- bytes that are no whole record -/
def Torn (t : List Int) : Prop := t.length < 4 ∨ ∃ n part, t = beL n 4 ++ part ∧ part.length < n ∧ n < 4294967296
/-- where bytes lie that are gone through -/
structure At (h : Heap) (q : Nat) (A : Nat → Prop) (bs : List Int) : Prop where
  cell : ∃ a c, cells h q = some ([.slice a bs.length c], 23, false) ∧ Sl h a (bv bs) ∧ (0 < bs.length → Cap h a bs.length c) ∧ ∀ b, blk a b → A b
  lo : h.lo ≤ q
  lt : q < h.next
theorem Cap.grew {h h' : Heap} {S : Nat → Prop} {a : Option Addr} {n c : Nat} (hc : Cap h a n c) (g : Grew h h' S) (hS : ∀ b, blk a b → b < h.next ∧ ¬ S b) : Cap h' a n c := by
  rcases hc with h1 | ⟨b, off, full, rfl, h2, h3⟩
  · exact .inl h1
  · obtain ⟨h4, h5⟩ := hS b ⟨off, none, rfl⟩
    exact .inr ⟨b, off, full, rfl, g.cellsE h2 h4 h5, h3⟩
theorem At.grew {h h' : Heap} {S : Nat → Prop} {q : Nat} {A : Nat → Prop} {bs : List Int} (l : At h q A bs) (g : Grew h h' S) (hq : ¬ S q) (hA : ∀ b, A b → b < h.next ∧ ¬ S b) : At h' q A bs := by
  obtain ⟨⟨a, c, h1, h2, h3, h4⟩, h5, h6⟩ := l
  exact ⟨⟨a, c, g.cellsE h1 h6 hq, Sl.grew h2 g fun b hb _ => hA b (h4 b hb), fun h0 => (h3 h0).grew g fun b hb => hA b (h4 b hb), h4⟩, by rw [g.lo]; exact h5, Nat.lt_of_lt_of_le h6 g.next⟩

def It (A Z : Nat → Prop) (recs : List (List Int)) (i : Nat) (h2 : Heap) (args : List Value) : Prop :=
  ∃ r ai ci, recs[i]? = some r ∧ args = [.slice ai r.length ci] ∧ Sl h2 ai (bv r) ∧ ∀ b, blk ai b → A b
theorem enc_drop {recs : List (List Int)} {i : Nat} {r : List Int} (hr : recs[i]? = some r) : enc (recs.drop i) = beL r.length 4 ++ (r ++ enc (recs.drop (i + 1))) := by
  have : recs.drop i = r :: recs.drop (i + 1) := by
    have hi := (List.getElem?_eq_some_iff.1 hr)
    obtain ⟨hi, e⟩ := hi
    rw [List.drop_eq_getElem_cons hi, e]
  rw [this]
  simp [enc, encR]

inductive I36 (h1 : Heap) (l q : Nat) (A Z : Nat → Prop) (recs : List (List Int)) (tail : List Int) (Y : Nat → Heap → Prop) : Nat → S → Prop
  | mk (i : Nat) (h : Heap) {x2 x3 x4 x5 x6 x7 x8 x9 x10 x11 x12 x13 x14 x15 x16 x17 x18 x19 x20 x21 x22 x23 x24 x25 x26 x27 x28 x29 x30 x31 x32 x33 x34 x35 x36 x37 x38 x39 x40 x41 : Value} (hi : i ≤ recs.length) (hat : At h q A (enc (recs.drop i) ++ tail)) (hY : Y i h) (hg : Grew h1 h (fun k => Z k ∨ k = q ∨ k = l)) :
    I36 h1 l q A Z recs tail Y (recs.length - i) ⟨(F42 (.func (.yield l) #[] #[]) (.pointer (some ⟨q, 0, none⟩)) x2 x3 x4 x5 x6 x7 x8 x9 x10 x11 x12 x13 x14 x15 x16 x17 x18 x19 x20 x21 x22 x23 x24 x25 x26 x27 x28 x29 x30 x31 x32 x33 x34 x35 x36 x37 x38 x39 x40 x41), [], h⟩

theorem iter_w (l q : Nat) (A Z : Nat → Prop) (recs : List (List Int)) (tail : List Int) (Y : Nat → Heap → Prop) (htail : Torn tail) (hrl : ∀ r ∈ recs, r.length < 2000000000) (htl : tail.length < 4000000000)
    (hat : At h q A (enc recs ++ tail)) (hA : ∀ b, A b → b < h.next ∧ ¬ Z b ∧ b ≠ q ∧ b ≠ l) (hSq : ¬ Z q) (hlq : l ≠ q) (hbig : (enc recs ++ tail).length < 1000000000000)
    (hY0 : Y 0 h)
    (hround : ∀ i h2 args, i < recs.length → Y i h2 → h.next ≤ h2.next → h2.lo = h.lo → It A Z recs i h2 args → YieldW (pp G) l args h2 (fun v h3 => v = .bool true ∧ Y (i + 1) h3 ∧ Grew h2 h3 (fun k => Z k ∨ k = l)))
    (hstab : ∀ i h2 h3, Y i h2 → Grew h2 h3 (fun k => k = q) → Y i h3) :
    CallE (pp G) 36 [.func (.yield l) #[] #[], .pointer (some ⟨q, 0, none⟩)] h (fun _ h2 => Y recs.length h2 ∧ Grew h h2 (fun k => Z k ∨ k = q ∨ k = l)) := by
  refine CallE.fir4 (good G) fir36 rfl rfl (F42_arr ..) fun hlo => ?_
  rw [sh_ir36]
  refine W.loop4 (good G) (I36 h l q A Z recs tail Y) ?_ _ _ (I36.mk 0 h (Nat.zero_le _) (by rw [List.drop_zero]; exact hat) hY0 (Grew.refl _ _))
  intro k s1 hI
  cases hI with | mk i h2 hi hat2 hY2 hg2 =>
  rw [sh_ir36_s0]
  obtain ⟨⟨a, c, hc, hsl, hcap, hbA⟩, hlo2, hlt2⟩ := hat2
  have hbig2 : (enc (recs.drop i) ++ tail).length < 1000000000000 := by
    have : enc recs = enc (recs.take i) ++ enc (recs.drop i) := by
      unfold enc
      rw [← List.flatten_append, ← List.map_append, List.take_append_drop]
    rw [this] at hbig
    simp only [List.length_append] at hbig ⊢
    omega
  generalize hD : enc (recs.drop i) ++ tail = D at hc hsl hcap hbig2
  by_cases h4 : (4 : Int) ≤ D.length
  · have hD0 : 0 < D.length := by omega
    have hs4 : slV Try.prog 23 (.slice a D.length c) none (some (.int .i64 4)) none h2 = some (.slice a 4 c) := sl_h (k := 4) (hcap hD0) (by omega) hD0
    -- what stands ahead: how many bytes
    obtain ⟨n, rest, hn, hDn, hcase⟩ : ∃ n rest, n < 4294967296 ∧ D = beL n 4 ++ rest ∧ ((∃ r, recs[i]? = some r ∧ n = r.length ∧ rest = r ++ (enc (recs.drop (i + 1)) ++ tail)) ∨ (i = recs.length ∧ rest.length < n)) := by
      by_cases hil : i < recs.length
      · obtain ⟨r, hr⟩ : ∃ r, recs[i]? = some r := ⟨_, List.getElem?_eq_getElem hil⟩
        have := hrl r (List.mem_of_getElem? hr)
        exact ⟨r.length, r ++ (enc (recs.drop (i + 1)) ++ tail), by omega, by rw [← hD, enc_drop hr]; simp, .inl ⟨r, hr, rfl, rfl⟩⟩
      · have : recs.drop i = [] := List.drop_eq_nil_of_le (by omega)
        rw [this] at hD
        have hDt : tail = D := by rw [← hD]; rfl
        rcases htail with ht | ⟨n, part, ht, hp, hn⟩
        · rw [hDt] at ht; omega
        · exact ⟨n, part, hn, by rw [← hDt]; exact ht, .inr ⟨by omega, hp⟩⟩
    have hDl : D.length = 4 + rest.length := by rw [hDn, List.length_append, beL_len]
    have hbyte : ∀ j, j < 4 → (bv D)[j]? = some (.int .u8 (be n j)) := fun j hj => by
      rw [bv_get, hDn, List.getElem?_append_left (by rw [beL_len]; exact hj)]
      unfold beL
      rw [List.getElem?_map, List.getElem?_range hj]
      rfl
    simp (disch := first | omega | (refine id ?_; simp only [push_cast]; done) | (refine id ?_; simp only [push_cast]; omega)) only [push_cast, Nat.reduceAdd, Nat.reduceMul, Nat.reduceSub, Nat.reduceLT, Nat.reduceEqDiff, Nat.reduceLeDiff, Int.reduceToNat, reduceCtorEq, Int.reduceLT, Int.reduceLE, Int.reduceAdd, Int.reduceSub, Int.reduceMul, Int.reduceNeg, Int.reduceEq, hc, h4, hs4]
    refine W.loop4 (good G) (I36h h2 n (.func (.yield l) #[] #[]) (.pointer (some ⟨q, 0, none⟩)) a c) ?_ _ _ (I36h.mk 0 4 0 rfl rfl (by omega))
    intro k s1 hI
    cases hI with | mk j ev jv hev hjv hj =>
    subst hjv
    rw [sh_ir36_s1]
    by_cases hj4 : (j : Int) < 4
    · have hbr := be_range n j
      have hhr := hd_range n j hj
      have hhr1 := hd_range n (j + 1) (by omega)
      obtain ⟨b0, o0, ha0, hld⟩ : ∃ b off, a = some ⟨b, off, none⟩ ∧ ldC (some (false, 0)) (off + j) h2.lo b (cells h2 b) = some (.int .u8 (be n j)) := by
        obtain ⟨b', off', e, hl⟩ := hsl.load T_knd_5 (hbyte j (by omega))
        rw [load_eq, T_knd_5] at hl
        exact ⟨b', off', e, hl⟩
      subst ha0
      have hcv : cvV Try.prog 5 3 (.int .u8 (be n j)) h2 = some (.int .i64 (be n j)) := by
        rw [cv_int T_cnvT_5_3, wrap_i64 (by omega) (by omega)]
      have hw1 : IntKind.i64.wrap (3 - (j : Int)) = 3 - j := wrap_i64 (by omega) (by omega)
      have hw2 : IntKind.i64.wrap (8 * (3 - (j : Int))) = 8 * (3 - j) := wrap_i64 (by omega) (by omega)
      have hnn : (0 : Int) ≤ 8 * (3 - j) := by omega
      have htn : (8 * (3 - (j : Int))).toNat = 24 - 8 * j := by omega
      have hmin : min (24 - 8 * j) IntKind.i64.bits = 24 - 8 * j := by show min _ 64 = _; omega
      have hpw : (2 : Int) ^ (24 - 8 * j) ≤ 16777216 ∧ 0 < (2 : Int) ^ (24 - 8 * j) := by
        match j, hj4 with
        | 0, _ => rw [p0]; omega
        | 1, _ => rw [p1]; omega
        | 2, _ => rw [p2]; omega
        | 3, _ => rw [p3]; omega
      have hsum : hd n j + be n j * 2 ^ (24 - 8 * j) = hd n (j + 1) := rfl
      have hw3 : IntKind.i64.wrap (be n j * 2 ^ (24 - 8 * j)) = be n j * 2 ^ (24 - 8 * j) := wrap_i64 (by omega) (by omega)
      have hw4 : IntKind.i64.wrap (hd n j + be n j * 2 ^ (24 - 8 * j)) = hd n (j + 1) := by rw [hsum]; exact wrap_i64 (by omega) (by omega)
      subst hev
      simp (disch := first | omega | (refine id ?_; simp only [push_cast]; done) | (refine id ?_; simp only [push_cast]; omega)) only [push_cast, Nat.reduceAdd, Nat.reduceMul, Nat.reduceSub, Nat.reduceLT, Nat.reduceEqDiff, Nat.reduceLeDiff, Int.reduceToNat, reduceCtorEq, Int.reduceLT, Int.reduceLE, Int.reduceAdd, Int.reduceSub, Int.reduceMul, Int.reduceNeg, Int.reduceEq, hj4, Int.toNat_natCast, hld, hcv, hw1, hw2, hnn, htn, hmin, hw3, hw4]
      exact ⟨_, by omega, I36h.mk (j + 1) _ _ rfl (by first | rfl | omega) (by omega)⟩
    · have hj4' : j = 4 := by omega
      subst hj4'
      rw [hd4 hn] at hev
      subst hev
      rcases hcase with ⟨r, hr, rfl, hrest⟩ | ⟨hil, hlt⟩
      · have hil : i < recs.length := (List.getElem?_eq_some_iff.1 hr).1
        have hrl2 : rest.length = r.length + (enc (recs.drop (i + 1)) ++ tail).length := by rw [hrest, List.length_append]
        have hgt : ¬ (D.length : Int) < 4 + r.length := by omega
        obtain ⟨a', c', e1, e2, e3⟩ := sl_lhm (l := 4) (k := 4 + r.length) hsl rfl (hcap hD0) (by omega) (by omega) hD0
        have hsub : 4 + r.length - 4 = r.length := by omega
        rw [hsub] at e1 e2
        have hdr : (D.drop 4).take r.length = r := by
          rw [hDn, hrest, List.drop_left' (beL_len _ _), List.take_left]
        rw [hdr] at e2
        rw [show ((4 + r.length : Nat) : Int) = 4 + (r.length : Int) by omega] at e1
        have e1' : slV Try.prog 23 (.slice a D.length c) (some (.int .i64 4)) (some (.int .i64 (4 + (r.length : Int)))) (some (.int .i64 (4 + (r.length : Int)))) h2 = some (.slice a' r.length c') := e1
        simp (disch := first | omega | (refine id ?_; simp only [push_cast]; done) | (refine id ?_; simp only [push_cast]; omega)) only [push_cast, Nat.reduceAdd, Nat.reduceMul, Nat.reduceSub, Nat.reduceLT, Nat.reduceEqDiff, Nat.reduceLeDiff, Int.reduceToNat, reduceCtorEq, Int.reduceLT, Int.reduceLE, Int.reduceAdd, Int.reduceSub, Int.reduceMul, Int.reduceNeg, Int.reduceEq, hj4, hc, hgt, e1']
        refine YieldW.mono (hround i h2 _ hil hY2 hg2.next hg2.lo ⟨r, a', c', hr, rfl, e2, fun b hb => hbA b (e3 b hb)⟩) ?_
        rintro v h3 ⟨rfl, hY3, hg3⟩
        have hq3 : ¬ (Z q ∨ q = l) := fun h0 => by
          rcases h0 with h0 | h0
          · exact hSq h0
          · exact hlq h0.symm
        have hA3 : ∀ b, A b → b < h2.next ∧ ¬ (Z b ∨ b = l) := fun b hb => by
          obtain ⟨q1, q2, q3, q4⟩ := hA b hb
          exact ⟨Nat.lt_of_lt_of_le q1 hg2.next, fun h0 => h0.elim q2 q4⟩
        have hc3 := hg3.cellsE hc hlt2 hq3
        have hsl3 := Sl.grew hsl hg3 fun b hb _ => hA3 b (hbA b hb)
        have hcap3 := (hcap hD0).grew hg3 fun b hb => hA3 b (hbA b hb)
        have hlo3 : h3.lo ≤ q := by rw [hg3.lo]; exact hlo2
        have hlt3 : q < h3.next := Nat.lt_of_lt_of_le hlt2 hg3.next
        have hdd : D.drop (4 + r.length) = enc (recs.drop (i + 1)) ++ tail := by
          rw [hDn, hrest, ← List.append_assoc, List.drop_left' (by rw [List.length_append, beL_len])]
        have hdl : D.length - (4 + r.length) = (enc (recs.drop (i + 1)) ++ tail).length := by omega
        have hpos : 4 + r.length ≤ D.length := by omega
        -- what is left is kept
        have hfin : ∀ (a2 : Option Addr) (n2 c2 : Nat), n2 = (enc (recs.drop (i + 1)) ++ tail).length → Sl h3 a2 (bv (enc (recs.drop (i + 1)) ++ tail)) → (∀ b, blk a2 b → blk a b) → (0 < n2 → Cap h3 a2 n2 c2) →
            stC 1 0 (.slice a2 n2 c2) h3 q (some ([.slice a D.length c], 23, false)) = some (undef, h3.put q (O [.slice a2 n2 c2] 23 false)) ∧
            At (h3.put q (O [.slice a2 n2 c2] 23 false)) q A (enc (recs.drop (i + 1)) ++ tail) ∧ Y (i + 1) (h3.put q (O [.slice a2 n2 c2] 23 false)) ∧ Grew h (h3.put q (O [.slice a2 n2 c2] 23 false)) (fun k => Z k ∨ k = q ∨ k = l) := by
          intro a2 n2 c2 hn2 hs2 hb2 hc2
          have hgp : Grew h3 (h3.put q (O [.slice a2 n2 c2] 23 false)) (fun k => k = q) := (Grew.refl h3 _).put'' _ _ fun _ => rfl
          have hA4 : ∀ b, blk a2 b → b < h3.next ∧ ¬ b = q := fun b hb => by
            obtain ⟨q1, q2, q3, q4⟩ := hA b (hbA b (hb2 b hb))
            exact ⟨Nat.lt_of_lt_of_le (Nat.lt_of_lt_of_le q1 hg2.next) hg3.next, q3⟩
          have hfo : foneL h3.next [.slice a2 n2 c2] = true := by
            rcases hs2 with ⟨_, hsp⟩ | ⟨b, off, full, e, m, rfl, _⟩
            · cases a2 with
              | none => rfl
              | some a2 =>
                obtain ⟨b, off, sp⟩ := a2
                obtain rfl : sp = none := by simpa [spotN] using hsp
                exact foneL_cons _ _ _ (fone_s _ _ _ _ _ (hA4 b ⟨off, none, rfl⟩).1) rfl
            · exact foneL_cons _ _ _ (fone_s _ _ _ _ _ (hA4 b ⟨off, none, rfl⟩).1) rfl
          refine ⟨?_, ⟨⟨a2, c2, by rw [cells_put_s, hn2], Sl.grew hs2 hgp fun b hb _ => hA4 b hb, fun h0 => by rw [← hn2] at h0 ⊢; exact (hc2 h0).grew hgp fun b hb => hA4 b hb, fun b hb => hbA b (hb2 b hb)⟩, by simp only [push_cast]; exact hlo3, by simp only [push_cast]; exact hlt3⟩, hstab _ _ _ hY3 hgp, ?_⟩
          · rw [stC_s 1 0 _ q _ 23 false rfl hfo hlo3 (by show 0 + 1 ≤ 1; omega)]; rfl
          · exact (hg2.trans (hg3.mono fun k _ h0 => by rcases h0 with h0 | h0; exact .inl h0; exact .inr (.inr h0)) fun _ _ h => h).trans (hgp.mono fun k _ h0 => .inr (.inl h0)) fun _ _ h => h
        have hsl4 := sl_l (l := 4 + r.length) hsl3 rfl (hcap3) hpos hD0 (by omega)
        rw [hdd, hdl, show ((4 + r.length : Nat) : Int) = 4 + (r.length : Int) by omega] at hsl4
        rcases hsl4 with ⟨a2, c2, e4, s4, b4, k4⟩ | ⟨hle, e4, a1, c1, a2, c2, e5, n1, n2, b1, b2⟩
        · obtain ⟨w1, w2, w3, w4⟩ := hfin a2 _ c2 rfl s4 b4 (fun h0 => k4 (by omega))
          simp (disch := first | omega | (refine id ?_; simp only [push_cast]; done) | (refine id ?_; simp only [push_cast]; omega)) only [push_cast, Nat.reduceAdd, Nat.reduceMul, Nat.reduceSub, Nat.reduceLT, Nat.reduceEqDiff, Nat.reduceLeDiff, Int.reduceToNat, reduceCtorEq, Int.reduceLT, Int.reduceLE, Int.reduceAdd, Int.reduceSub, Int.reduceMul, Int.reduceNeg, Int.reduceEq, hc3, e4, w1]
          exact ⟨_, by omega, I36.mk (i + 1) _ (by omega) w2 w3 w4⟩
        · have hnil : enc (recs.drop (i + 1)) ++ tail = [] := List.eq_nil_of_length_eq_zero (by omega)
          obtain ⟨w1, w2, w3, w4⟩ := hfin a1 0 c1 (by rw [hnil]; rfl) (by rw [hnil]; exact Sl.nil _ n1) b1 (fun h0 => by omega)
          obtain ⟨v1, v2, v3, v4⟩ := hfin a2 0 c2 (by rw [hnil]; rfl) (by rw [hnil]; exact Sl.nil _ n2) b2 (fun h0 => by omega)
          simp (disch := first | omega | (refine id ?_; simp only [push_cast]; done) | (refine id ?_; simp only [push_cast]; omega)) only [push_cast, Nat.reduceAdd, Nat.reduceMul, Nat.reduceSub, Nat.reduceLT, Nat.reduceEqDiff, Nat.reduceLeDiff, Int.reduceToNat, reduceCtorEq, Int.reduceLT, Int.reduceLE, Int.reduceAdd, Int.reduceSub, Int.reduceMul, Int.reduceNeg, Int.reduceEq, hc3, e4, e5, w1, v1]
          exact ⟨⟨_, by omega, I36.mk (i + 1) _ (by omega) w2 w3 w4⟩, ⟨_, by omega, I36.mk (i + 1) _ (by omega) v2 v3 v4⟩⟩
      · have hgt : (D.length : Int) < 4 + n := by omega
        subst hil
        simp (disch := first | omega | (refine id ?_; simp only [push_cast]; done) | (refine id ?_; simp only [push_cast]; omega)) only [push_cast, Nat.reduceAdd, Nat.reduceMul, Nat.reduceSub, Nat.reduceLT, Nat.reduceEqDiff, Nat.reduceLeDiff, Int.reduceToNat, reduceCtorEq, Int.reduceLT, Int.reduceLE, Int.reduceAdd, Int.reduceSub, Int.reduceMul, Int.reduceNeg, Int.reduceEq, hj4, hc, hgt]
        exact ⟨hY2, hg2⟩
  · have hie : i = recs.length := by
      refine Nat.le_antisymm hi (Nat.not_lt.1 fun hil => ?_)
      have hr : recs[i]? = some recs[i] := List.getElem?_eq_getElem hil
      rw [enc_drop hr] at hD
      have := congrArg List.length hD
      simp only [List.length_append, beL_len] at this
      omega
    subst hie
    simp (disch := first | omega | (refine id ?_; simp only [push_cast]; done) | (refine id ?_; simp only [push_cast]; omega)) only [push_cast, Nat.reduceAdd, Nat.reduceMul, Nat.reduceSub, Nat.reduceLT, Nat.reduceEqDiff, Nat.reduceLeDiff, Int.reduceToNat, reduceCtorEq, Int.reduceLT, Int.reduceLE, Int.reduceAdd, Int.reduceSub, Int.reduceMul, Int.reduceNeg, Int.reduceEq, hc, h4]
    exact ⟨hY2, hg2⟩
end
end Go.Proofs.Ytohdgkmgkcoilaa

namespace Go.Proofs.Ytohdgkmgkcoilaa
open Go Go.RowKit Go.Ev
noncomputable section
set_option linter.unusedSimpArgs false
set_option linter.unusedVariables false
variable (G : Nat) (h : Heap)

theorem fone_sl {n : Nat} {a : Option Addr} {l c : Nat} (hs : spotN a) (hb : ∀ b, blk a b → b < n) : foneL n [.slice a l c] = true := by
  cases a with
  | none => rfl
  | some a =>
    obtain ⟨b, off, sp⟩ := a
    obtain rfl : sp = none := by simpa [spotN] using hs
    exact foneL_cons _ _ _ (fone_s _ _ _ _ _ (hb b ⟨off, none, rfl⟩)) rfl
theorem recs_w (a : Option Addr) (n c : Nat) (hs : spotN a) (hb : ∀ b, blk a b → b < h.next) : CallE (pp G) 33 [.slice a n c] h (fun v h2 => v = .func (.func 36) #[] #[.pointer (some ⟨h.next, 0, none⟩)] ∧ h2 = h.add (O [.slice a n c] 23 false)) := by
  refine CallE.fir4 (good G) fir33 rfl rfl (F4_arr ..) fun hlo => ?_
  rw [sh_ir33]
  have hf : foneL h.next (Value.slice a n c).cells.toList = true := fone_sl hs hb
  rw [bxE_s _ _ hf]
  simp (disch := first | omega | (refine id ?_; simp only [push_cast]; done) | (refine id ?_; simp only [push_cast]; omega)) only [push_cast, Nat.reduceAdd, Nat.reduceMul, Nat.reduceSub, Nat.reduceLT, Nat.reduceEqDiff, Nat.reduceLeDiff, Int.reduceToNat, reduceCtorEq, Int.reduceLT, Int.reduceLE, Int.reduceAdd, Int.reduceSub, Int.reduceMul, Int.reduceNeg, Int.reduceEq]
theorem clone_w (a : Option Addr) (c : Nat) (r : List Int) (hs : Sl h a (bv r)) (hb : ∀ b, blk a b → b < h.next) (hl : r.length < 1000000000000) : CallE (pp G) 34 [.slice a r.length c] h (fun v h2 => (∃ a' c', v = .slice a' r.length c' ∧ Sl h2 a' (bv r) ∧ ∀ b, blk a' b → h.next ≤ b ∧ b < h2.next) ∧ Gr h h2) := by
  refine CallE.fir4 (good G) fir34 rfl rfl (F8_arr ..) fun hlo => ?_
  rw [sh_ir34]
  cases a with
  | none =>
    have hr0 : r = [] := by
      rcases hs with ⟨h0, hsp⟩ | ⟨b, off, full, e, m, ha, _⟩
      · have := congrArg List.length h0; rw [bv_len] at this; exact List.eq_nil_of_length_eq_zero this
      · cases ha
    subst hr0
    simp (disch := first | omega | (refine id ?_; simp only [push_cast]; done) | (refine id ?_; simp only [push_cast]; omega)) only [push_cast, Nat.reduceAdd, Nat.reduceMul, Nat.reduceSub, Nat.reduceLT, Nat.reduceEqDiff, Nat.reduceLeDiff, Int.reduceToNat, reduceCtorEq, Int.reduceLT, Int.reduceLE, Int.reduceAdd, Int.reduceSub, Int.reduceMul, Int.reduceNeg, Int.reduceEq]
    exact ⟨⟨none, 0, rfl, Sl.nil _ spotN_n, fun b hb => by obtain ⟨o, s, e⟩ := hb; cases e⟩, Gr.refl _⟩
  | some a =>
    have hbs : bsC 0 5 h (some (List.replicate 0 [Value.int IntKind.u8 0]).flatten) = some (.slice (some ⟨h.next, 0, none⟩) 0 0, h.add (O [] 5 false)) := bsC_s _ _ _ rfl
    have hg0 : Grew h (h.add (O [] 5 false)) (fun _ => False) := Grew.add h _ _
    have hown : Own (h.add (O [] 5 false)) 5 1 (some ⟨h.next, 0, none⟩) 0 0 [] := ⟨rfl, rfl, .inr ⟨h.next, false, rfl, by rw [lo_add]; exact hlo, by rw [next_add]; omega, cells_add_s _ _ _ _ rfl, .inr ⟨rfl, rfl⟩⟩⟩
    have hs1 : Sl (h.add (O [] 5 false)) (some a) (bv r) := Sl.grew hs hg0 fun b h1 _ => ⟨hb b h1, fun h => h⟩
    obtain ⟨a4, c4, h4, ha4, hown4, hg4, hb4⟩ := own_append (P := Try.prog) T_appT_23_23 hown (by rw [lo_add, next_add]; omega) (x := .slice (some a) r.length c) (m := r.length) (xs := bv r) rfl
      (Sl.src hs1 (by rw [bv_len]; omega) (by decide)) (by rw [bv_len]; omega) (bv_fone _ _) (by omega)
    rw [Nat.zero_add] at ha4 hown4
    rw [List.nil_append] at hown4
    simp (disch := first | omega | (refine id ?_; simp only [push_cast]; done) | (refine id ?_; simp only [push_cast]; omega)) only [push_cast, Nat.reduceAdd, Nat.reduceMul, Nat.reduceSub, Nat.reduceLT, Nat.reduceEqDiff, Nat.reduceLeDiff, Int.reduceToNat, reduceCtorEq, Int.reduceLT, Int.reduceLE, Int.reduceAdd, Int.reduceSub, Int.reduceMul, Int.reduceNeg, Int.reduceEq, hbs, ha4]
    have hg : Grew h h4 (fun _ => False) := hg0.tr' hg4 fun i hi ht => by obtain ⟨o, s, e⟩ := ht; cases e; exact absurd hi (Nat.lt_irrefl _)
    refine ⟨⟨a4, c4, rfl, hown4.sl, fun b hb => ⟨?_, Own_lt hown4 b hb⟩⟩, hg⟩
    rcases hb4 b hb with h6 | h6
    · obtain ⟨o, s, e⟩ := h6; cases e; exact Nat.le_refl _
    · rw [next_add] at h6; omega
end
end Go.Proofs.Ytohdgkmgkcoilaa

namespace Go.Proofs.Ytohdgkmgkcoilaa
open Go Go.RowKit Go.Ev
noncomputable section
set_option linter.unusedSimpArgs false
set_option linter.unusedVariables false
variable (G : Nat) (h : Heap)

/-- rows of bytes that lie behind a place -/
structure Rows (h : Heap) (a : Option Addr) (c lo : Nat) (recs : List (List Int)) : Prop where
  cells : ∃ cs : List Value, Own h 23 1 a recs.length c cs ∧ ∀ (i : Nat) (r : List Int), recs[i]? = some r → ∃ (ai : Option Addr) (ci : Nat), cs[i]? = some (Value.slice ai r.length ci) ∧ Sl h ai (bv r) ∧ ∀ b, blk ai b → lo ≤ b ∧ b < h.next ∧ ¬ blk a b
  low : ∀ b, blk a b → lo ≤ b
theorem Rows.grew {h h' : Heap} {a : Option Addr} {c lo : Nat} {recs : List (List Int)} {S : Nat → Prop} (r : Rows h a c lo recs) (g : Grew h h' S) (hS : ∀ b, lo ≤ b → ¬ S b) : Rows h' a c lo recs := by
  obtain ⟨⟨cs, h1, h3⟩, h4⟩ := r
  refine ⟨⟨cs, h1.grew g fun b hb _ => hS b (h4 b hb), fun i r hr => ?_⟩, h4⟩
  obtain ⟨ai, ci, h5, h6, h7⟩ := h3 i r hr
  exact ⟨ai, ci, h5, Sl.grew h6 g fun b hb _ => ⟨(h7 b hb).2.1, hS b (h7 b hb).1⟩, fun b hb => ⟨(h7 b hb).1, Nat.lt_of_lt_of_le (h7 b hb).2.1 g.next, (h7 b hb).2.2⟩⟩

structure RecsJ (h : Heap) (po lo : Nat) (recs : List (List Int)) (i : Nat) (h2 : Heap) : Prop where
  cell : ∃ a c, cells h2 po = some ([.slice a i c], 35, false) ∧ Rows h2 a c lo (recs.take i)
  lo : h2.lo ≤ po
  lt : po < h2.next
theorem RecsJ.grew {h : Heap} {po lo : Nat} {recs : List (List Int)} {i : Nat} {h2 h3 : Heap} {S : Nat → Prop} (r : RecsJ h po lo recs i h2) (g : Grew h2 h3 S) (hS : ∀ b, lo ≤ b ∨ b = po → ¬ S b) : RecsJ h po lo recs i h3 := by
  obtain ⟨⟨a, c, h1, h2⟩, h3, h4⟩ := r
  exact ⟨⟨a, c, g.cellsE h1 h4 (hS po (.inr rfl)), h2.grew g fun b hb => hS b (.inl hb)⟩, by rw [g.lo]; exact h3, Nat.lt_of_lt_of_le h4 g.next⟩

structure RecsPost (h : Heap) (recs : List (List Int)) (v : Value) (h2 : Heap) : Prop where
  rows : ∃ a c, v = .slice a recs.length c ∧ Rows h2 a c h.next recs
  gr : Gr h h2

theorem enc_mem {recs : List (List Int)} {r : List Int} (hr : r ∈ recs) : 4 + r.length ≤ (enc recs).length := by
  induction recs with
  | nil => cases hr
  | cons x xs ih =>
    have e : enc (x :: xs) = beL x.length 4 ++ (x ++ enc xs) := by simp [enc, encR]
    rw [e, List.length_append, List.length_append, beL_len]
    rcases List.mem_cons.1 hr with rfl | hr
    · omega
    · have := ih hr; omega
theorem Rows.mono {h : Heap} {a : Option Addr} {c lo lo' : Nat} {recs : List (List Int)} (r : Rows h a c lo recs) (hl : lo' ≤ lo) : Rows h a c lo' recs := by
  obtain ⟨⟨cs, h1, h3⟩, h4⟩ := r
  refine ⟨⟨cs, h1, fun i r hr => ?_⟩, fun b hb => Nat.le_trans hl (h4 b hb)⟩
  obtain ⟨ai, ci, h5, h6, h7⟩ := h3 i r hr
  exact ⟨ai, ci, h5, h6, fun b hb => ⟨Nat.le_trans hl (h7 b hb).1, (h7 b hb).2⟩⟩

theorem records_w {p lim : Nat} {a : Option Addr} {c : Nat} {bs : List Int} {sure : Nat} (l : LogP h p lim a c bs sure) (hlim : lim ≤ 1000000000) (recs : List (List Int)) (tail : List Int) (hbs : bs = enc recs ++ tail) (htail : Torn tail) :
    CallE (pp G) 23 [.pointer (some ⟨p, 0, none⟩)] h (RecsPost h recs) := by
  refine CallE.fir4 (good G) fir23 rfl rfl (F17_arr ..) fun hlo => ?_
  rw [sh_ir23]
  have hc := l.cell
  have hl := l.lo
  have hlt := l.lt
  have hcp : cells (h.add (O [.slice none 0 0] 35 false)) p = some ([.int .i64 lim, .slice a bs.length c, .int .i64 sure], 48, false) := by
    rw [(Grew.add h _ (fun _ => False)).cellsE hc hlt (fun h => h)]
  simp (disch := first | omega | (refine id ?_; simp only [push_cast]; done) | (refine id ?_; simp only [push_cast]; omega)) only [push_cast, Nat.reduceAdd, Nat.reduceMul, Nat.reduceSub, Nat.reduceLT, Nat.reduceEqDiff, Nat.reduceLeDiff, Int.reduceToNat, reduceCtorEq, Int.reduceLT, Int.reduceLE, Int.reduceAdd, Int.reduceSub, Int.reduceMul, Int.reduceNeg, Int.reduceEq, hcp, hl]
  have hab : ∀ b, blk a b → b < h.next := Own_lt l.own
  have hsp : spotN a := Sl_spot l.own.sl
  refine CallE.to (recs_w G _ a bs.length c hsp fun b hb => by rw [next_add]; have := hab b hb; omega) ?_
  rintro _ h1 ⟨rfl, e⟩
  have hn1 : h1.next = h.next + 2 := by rw [e]; simp only [push_cast]
  have hl1 : h1.lo = h.lo := by rw [e]; simp only [push_cast]
  have hg1 : Gr h h1 := by rw [e]; exact (Grew.add h _ _).add' _
  have hco : cells h1 h.next = some ([.slice none 0 0], 35, false) := by
    rw [e, cells_add_n _ _ (by rw [next_add]; omega)]; exact cells_add_s _ _ _ _ rfl
  have hcq : cells h1 (h.next + 1) = some ([.slice a bs.length c], 23, false) := by
    rw [e]; exact cells_add_s _ _ _ _ (by rw [next_add])
  clear e
  rw [next_add]
  have hdrop : ∀ b, blk a b → b < h.next := hab
  simp (disch := first | omega | (refine id ?_; simp only [push_cast]; done) | (refine id ?_; simp only [push_cast]; omega)) only [push_cast, Nat.reduceAdd, Nat.reduceMul, Nat.reduceSub, Nat.reduceLT, Nat.reduceEqDiff, Nat.reduceLeDiff, Int.reduceToNat, reduceCtorEq, Int.reduceLT, Int.reduceLE, Int.reduceAdd, Int.reduceSub, Int.reduceMul, Int.reduceNeg, Int.reduceEq]
  refine W.each (good G) comp23_0 comp23_1 (by show 17 < U; unfold U; omega) (f := 36) (captured := [.pointer (some ⟨h.next + 1, 0, none⟩)]) rfl (by rw [hn1, hl1]; omega)
    recs.length (RecsJ h h.next (h.next + 4) recs) (fun k => k = h.next ∨ h.next + 4 ≤ k) (fun k => k = h.next + 1) (It (blk a) (fun k => k = h.next ∨ h.next + 4 ≤ k) recs)
    (fun args => F17 (.pointer (some ⟨p, 0, none⟩)) undef (.slice none 0 0) (.pointer (some ⟨h.next, 0, none⟩)) (args.headD undef) (.pointer (some ⟨p, 0, none⟩)) (.pointer (some ⟨p, 0, none⟩)) (.pointer (some ⟨p, 1, none⟩)) (.slice a bs.length c) (.func (.func 36) #[] #[.pointer (some ⟨h.next + 1, 0, none⟩)]) (args.headD undef) undef undef undef undef undef undef)
    ?hST ?hJ0 ?hJ ?hlen ?hIt ?hA ?step ?iter ?hR
  case hST => rw [hn1]; omega
  case hJ0 => exact ⟨⟨none, 0, hco, ⟨[], Own.nil _ _ _, fun i r hr => by rw [List.take_zero] at hr; cases hr⟩, fun b hb => by obtain ⟨o, s, e⟩ := hb; cases e⟩, by rw [hl1]; exact hlo, by omega⟩
  case hJ => exact fun i h2 h3 hJ2 hn2 hl2 hg2 => hJ2.grew hg2 fun b hb hx => by omega
  case hlen => 
    rintro i h2 args ⟨r, ai, ci, _, rfl, _⟩
    rfl
  case hIt =>
    rintro i h2 h3 args ⟨r, ai, ci, e1, e2, e3, e4⟩ hn2 hl2 hg2
    exact ⟨r, ai, ci, e1, e2, Sl.grew e3 hg2 fun b hb _ => (by have := hab b (e4 b hb); omega), e4⟩
  case hA => 
    rintro i h2 args ⟨r, ai, ci, h3, rfl, h4⟩
    rw [← vc3_eq]
    show vc3 (pp G) _ ir23_0 ⟨F17 _ _ _ _ _ _ _ _ _ _ _ _ _ _ _ _ _, [], h2⟩ _
    rw [sh_ir23_0]
    simp (disch := first | omega | (refine id ?_; simp only [push_cast]; done) | (refine id ?_; simp only [push_cast]; omega)) only [push_cast, Nat.reduceAdd, Nat.reduceMul, Nat.reduceSub, Nat.reduceLT, Nat.reduceEqDiff, Nat.reduceLeDiff, Int.reduceToNat, reduceCtorEq, Int.reduceLT, Int.reduceLE, Int.reduceAdd, Int.reduceSub, Int.reduceMul, Int.reduceNeg, Int.reduceEq]
    rfl
  case step =>
    rintro i h2 args hi hJ2 hn2 hl2 ⟨r, ai, ci, e1, rfl, e3, e4⟩
    obtain ⟨⟨ao, co, hc2, hrows⟩, hlo2, hlt2⟩ := hJ2
    rw [← vc3_eq, sh_ir23_1]
    simp (disch := first | omega | (refine id ?_; simp only [push_cast]; done) | (refine id ?_; simp only [push_cast]; omega)) only [push_cast, Nat.reduceAdd, Nat.reduceMul, Nat.reduceSub, Nat.reduceLT, Nat.reduceEqDiff, Nat.reduceLeDiff, Int.reduceToNat, reduceCtorEq, Int.reduceLT, Int.reduceLE, Int.reduceAdd, Int.reduceSub, Int.reduceMul, Int.reduceNeg, Int.reduceEq, hc2, hlo2, List.headD_cons]
    have hab2 : ∀ b, blk ai b → b < h.next := fun b hb => hab b (e4 b hb)
    have hrlen : r.length < 1000000000000 := by
      have h8 := enc_mem (List.mem_of_getElem? e1)
      have h9 := l.fits
      rw [hbs, List.length_append] at h9
      omega
    refine CallE.to (clone_w G _ ai ci r e3 (fun b hb => by have := hab2 b hb; omega) hrlen) ?_
    rintro _ h3 ⟨⟨a3, c3, rfl, s3, b3⟩, g3⟩
    have hn3 := g3.next
    have hlo3 : h3.lo ≤ h.next := by rw [g3.lo]; exact hlo2
    have hc3 := Grew.cellsE g3 hc2 hlt2 (fun h => h)
    have hrows3 := hrows.grew g3 fun b hb h => h
    have hf3 : foneL h3.next [Value.slice a3 r.length c3] = true := fone_sl (Sl_spot s3) fun b hb => (b3 b hb).2
    have hbs3 : bsC 1 23 h3 (fillQ (List.map (fun i => (i, 1)) (List.range 1)) (List.replicate 1 [Value.slice none 0 0]).flatten (Value.slice a3 r.length c3) [] (some (0, 1))) = some (.slice (some ⟨h3.next, 0, none⟩) 1 1, h3.add (O [.slice a3 r.length c3] 23 false)) := bsC_s _ _ _ hf3
    have g4 : Grew h3 (h3.add (O [.slice a3 r.length c3] 23 false)) (fun _ => False) := Grew.add h3 _ _
    have hc4 : cells (h3.add (O [.slice a3 r.length c3] 23 false)) h.next = some ([.slice ao i co], 35, false) := g4.cellsE hc3 (by omega) fun h => h
    have hrows4 := hrows3.grew g4 fun b hb h => h
    have hti : (recs.take i).length = i := by rw [List.length_take]; omega
    have hil : recs.length ≤ 1000000000 := by
      have h9 := l.fits
      have h8 : ∀ rs : List (List Int), rs.length ≤ (enc rs).length := fun rs => by
        induction rs with
        | nil => exact Nat.zero_le _
        | cons x xs ih =>
          have e : enc (x :: xs) = beL x.length 4 ++ (x ++ enc xs) := by simp [enc, encR]
          rw [e, List.length_append, List.length_append, beL_len, List.length_cons]
          omega
      have := h8 recs
      rw [hbs, List.length_append] at h9
      omega
    obtain ⟨⟨cs, ho4, hr4⟩, hlow4⟩ := hrows4
    rw [hti] at ho4
    have hown1 : Sl (h3.add (O [.slice a3 r.length c3] 23 false)) (some ⟨h3.next, 0, none⟩) [.slice a3 r.length c3] := Sl.row (cells_add_s _ _ _ _ rfl) (by rw [lo_add]; omega)
    obtain ⟨a5, c5, h5, ha5, hown5, hg5, hb5⟩ := own_append (P := Try.prog) T_appT_35_35 ho4 (by rw [lo_add, next_add]; omega) (x := .slice (some ⟨h3.next, 0, none⟩) 1 1) (m := 1) (xs := [.slice a3 r.length c3]) rfl
      (Sl.src hown1 rfl (by decide)) rfl (foneL_mono (by rw [next_add]; omega) hf3) (by omega)
    have hn4 : (h3.add (O [.slice a3 r.length c3] 23 false)).next = h3.next + 1 := next_add _
    have hn5 := hg5.next
    have hla : ∀ b, blk ao b → h.next + 4 ≤ b := hlow4
    have hlo5 : h5.lo ≤ h.next := by rw [hg5.lo, lo_add]; exact hlo3
    have hc5 : cells h5 h.next = some ([.slice ao i co], 35, false) := hg5.cellsE hc4 (by omega) fun hb => by have := hla _ hb; omega
    have hst := stC_s (h := h5) 1 0 (.slice a5 (i + 1) c5) h.next [.slice ao i co] 35 false rfl (Own_fone hown5 _ _) hlo5 (by show 0 + 1 ≤ 1; omega)
    have hgp : Grew h5 (h5.put h.next (O (setFrom [.slice ao i co] 0 (Value.slice a5 (i + 1) c5).cells.toList) 35 false)) (fun b => b = h.next) := (Grew.refl h5 _).put'' _ _ fun _ => rfl
    have hcp6 : cells (h5.put h.next (O (setFrom [.slice ao i co] 0 (Value.slice a5 (i + 1) c5).cells.toList) 35 false)) h.next = some ([.slice a5 (i + 1) c5], 35, false) := by rw [cells_put_s]; rfl
    have hln6 : (h5.put h.next (O (setFrom [.slice ao i co] 0 (Value.slice a5 (i + 1) c5).cells.toList) 35 false)).next = h5.next := by simp only [push_cast]
    have hlo6 : (h5.put h.next (O (setFrom [.slice ao i co] 0 (Value.slice a5 (i + 1) c5).cells.toList) 35 false)).lo = h5.lo := by simp only [push_cast]
    generalize h5.put h.next (O (setFrom [.slice ao i co] 0 (Value.slice a5 (i + 1) c5).cells.toList) 35 false) = h6 at hst hgp hcp6 hln6 hlo6
    simp (disch := first | omega | (refine id ?_; simp only [push_cast]; done) | (refine id ?_; simp only [push_cast]; omega)) only [push_cast, Nat.reduceAdd, Nat.reduceMul, Nat.reduceSub, Nat.reduceLT, Nat.reduceEqDiff, Nat.reduceLeDiff, Int.reduceToNat, reduceCtorEq, Int.reduceLT, Int.reduceLE, Int.reduceAdd, Int.reduceSub, Int.reduceMul, Int.reduceNeg, Int.reduceEq, hc3, hlo3, hlo2, hc2, rg_get1, hbs3, hc4, ha5, hc5, hst, hcp6]
    have hao2 : ∀ b, blk ao b → b < h2.next := by
      obtain ⟨⟨cs0, ho0, _⟩, _⟩ := hrows
      exact Own_lt ho0
    have hgn : ∀ b, b = h.next → b < h.next + 4 := fun b e => by omega
    refine ⟨⟨⟨a5, c5, hcp6, ?_⟩, by omega, by omega⟩, (((Grew.mono g3 (T := fun k => k = h.next ∨ h.next + 4 ≤ k) fun _ _ h => h.elim).tr' g4 fun _ _ h => h.elim).tr' hg5 fun b _ hb => .inr (hla b hb)).tr' hgp fun b _ e => .inl e⟩
    have hti1 : recs.take (i + 1) = recs.take i ++ [r] := by
      rw [List.take_add_one, e1]; rfl
    have hln1 : (recs.take (i + 1)).length = i + 1 := by rw [hti1, List.length_append, hti]; rfl
    have hlow5 : ∀ b, blk a5 b → h.next + 4 ≤ b := fun b hb => by
      rcases hb5 b hb with h6 | h6
      · exact hla b h6
      · omega
    refine ⟨⟨cs ++ [.slice a3 r.length c3], ?_, ?_⟩, hlow5⟩
    · rw [hln1]
      exact hown5.grew hgp fun b hb _ e => by have := hlow5 b hb; omega
    · intro j rj hj
      have key : ∀ (aj : Option Addr) (rj : List Int), Sl (h3.add (O [.slice a3 r.length c3] 23 false)) aj (bv rj) → (∀ b, blk aj b → h.next + 4 ≤ b ∧ b < h3.next + 1 ∧ ¬ blk ao b) → Sl h6 aj (bv rj) ∧ ∀ b, blk aj b → h.next + 4 ≤ b ∧ b < h6.next ∧ ¬ blk a5 b := fun aj rj hs hb => by
        refine ⟨Sl.grew (Sl.grew hs hg5 fun b h1 _ => ⟨by have := (hb b h1).2.1; omega, (hb b h1).2.2⟩) hgp fun b h1 _ => ⟨by have := (hb b h1).2.1; omega, fun e => by have := (hb b h1).1; omega⟩, fun b h1 => ?_⟩
        obtain ⟨q1, q2, q3⟩ := hb b h1
        refine ⟨q1, by omega, fun h2 => ?_⟩
        rcases hb5 b h2 with h4 | h4
        · exact q3 h4
        · omega
      have hcl : cs.length = i := by have := ho4.hlen; omega
      rw [hti1] at hj
      by_cases hji : j < i
      · rw [List.getElem?_append_left (by omega)] at hj ⊢
        obtain ⟨aj, cj, q1, q2, q3⟩ := hr4 j rj hj
        obtain ⟨k1, k2⟩ := key aj rj q2 fun b hb => by rw [← hn4]; exact q3 b hb
        exact ⟨aj, cj, q1, k1, k2⟩
      · have hji2 : j = i := by
          have := (List.getElem?_eq_some_iff.1 hj).1
          rw [List.length_append, hti, List.length_singleton] at this
          omega
        subst hji2
        rw [List.getElem?_append_right (by omega), hti, Nat.sub_self] at hj
        rw [List.getElem?_append_right (by omega), hcl, Nat.sub_self]
        cases hj
        obtain ⟨k1, k2⟩ := key a3 r (Sl.grew s3 g4 fun b hb _ => ⟨(b3 b hb).2, fun h => h⟩) fun b hb => by
          obtain ⟨q1, q2⟩ := b3 b hb
          exact ⟨by omega, by omega, fun h4 => by have := hao2 b h4; omega⟩
        exact ⟨a3, c3, rfl, k1, k2⟩
  case iter =>
    intro h2 Y hg2 hn2 hY0 hround hstab
    have hln : bs.length ≤ 1000000000 := by have := l.fits; omega
    have hbl : bs.length = (enc recs).length + tail.length := by rw [hbs, List.length_append]
    refine iter_w G h2 (h1.next + 1) (h.next + 1) (blk a) (fun k => k = h.next ∨ h.next + 4 ≤ k) recs tail Y htail (fun r hr => by have := enc_mem hr; omega) (by omega) ?_ ?_ (by omega) (by omega) (by rw [← hbs]; omega) hY0 ?_ ?_
    · refine ⟨⟨a, c, ?_, ?_, ?_, fun b hb => hb⟩, by rw [hg2.lo, hl1]; omega, by omega⟩
      · rw [← hbs]; exact hg2.cellsE hcq (by omega) fun h => h
      · rw [← hbs]; exact Sl.grew (Sl.grew l.own.sl hg1 fun b hb _ => ⟨hab b hb, fun h => h⟩) hg2 fun b hb _ => ⟨by have := hab b hb; omega, fun h => h⟩
      · rw [← hbs]
        intro h0
        rcases (l.own.grew hg1 fun b _ _ h => h).grew hg2 (fun b _ _ h => h) with ⟨o1, o2, o3⟩
        rcases o3 with ⟨_, o4, _⟩ | ⟨b, m, rfl, o5, o6, o7, o8⟩
        · omega
        · have hUC : bs.length < U := by unfold U; omega
          have hU2 := U_UC
          rcases o8 with ⟨rfl, rfl⟩ | ⟨rfl, rfl⟩
          · exact .inr ⟨b, 0, _, rfl, o7, Nat.le_refl _, by omega, by rw [bv_len]; omega, hUC⟩
          · exact .inl ⟨by omega, Nat.le_refl _⟩
    · intro b hb
      have := hab b hb
      omega
    · intro i h3 args hi hY hn3 hl3 hIt3
      refine (hround i h3 args hi hY (by omega) (by rw [hl3, hg2.lo]) hIt3).mono fun v h4 hv => ?_
      exact hv
    · intro i h3 h4 hY hg4
      exact hstab i h3 h4 hY hg4
  case hR => 
    intro h2 hJ2 hg2 hn2 hd
    obtain ⟨⟨ao, co, hc2, hrows⟩, hlo2, hlt2⟩ := hJ2
    rw [List.take_length] at hrows
    have hm : h2.lo ≤ h1.next := by omega
    simp (disch := first | omega | (refine id ?_; simp only [push_cast]; done) | (refine id ?_; simp only [push_cast]; omega)) only [push_cast, Nat.reduceAdd, Nat.reduceMul, Nat.reduceSub, Nat.reduceLT, Nat.reduceEqDiff, Nat.reduceLeDiff, Int.reduceToNat, reduceCtorEq, Int.reduceLT, Int.reduceLE, Int.reduceAdd, Int.reduceSub, Int.reduceMul, Int.reduceNeg, Int.reduceEq, hc2, hlo2, evMarks_cons hd hm]
    have hgp : Grew h2 (h2.put h1.next ⟨.deferred none, false⟩) (fun k => k = h1.next) := (Grew.refl h2 _).put'' _ _ fun _ => rfl
    have hgf : Grew h h2 (fun _ => False) := hg1.tr' hg2 fun i hi ht => by omega
    exact ⟨⟨ao, co, rfl, (hrows.grew hgp fun b hb e => by omega).mono (by omega)⟩, hgf.tr' hgp fun i hi e => by omega⟩
end
end Go.Proofs.Ytohdgkmgkcoilaa

namespace Go.Proofs.Ytohdgkmgkcoilaa
open Go Go.RowKit Go.Ev
noncomputable section
set_option linter.unusedSimpArgs false
set_option linter.unusedVariables false
variable (G : Nat) (h : Heap)

/-- the records that are whole in so many bytes -/
def wholes : Nat → List (List Int) → List (List Int)
  | _, [] => []
  | e, r :: rs => if 4 + r.length ≤ e then r :: wholes (e - (4 + r.length)) rs else []
theorem enc_cons (r : List Int) (rs : List (List Int)) : enc (r :: rs) = (beL r.length 4 ++ r) ++ enc rs := by simp [enc, encR]
theorem wholes_spec : ∀ (recs : List (List Int)) (e : Nat), (∀ r ∈ recs, r.length < 4294967296) → ∃ tail, (enc recs).take e = enc (wholes e recs) ++ tail ∧ Torn tail
  | [], e, _ => ⟨[], by simp [wholes, enc], .inl (by simp)⟩
  | r :: rs, e, hr => by
    rw [enc_cons]
    have hl : (beL r.length 4 ++ r).length = 4 + r.length := by rw [List.length_append, beL_len]
    by_cases he : 4 + r.length ≤ e
    · obtain ⟨t, h1, h2⟩ := wholes_spec rs (e - (4 + r.length)) fun x hx => hr x (List.mem_cons_of_mem _ hx)
      refine ⟨t, ?_, h2⟩
      rw [List.take_append, hl, h1, List.take_of_length_le (by omega), wholes, if_pos he, enc_cons, List.append_assoc (beL r.length 4 ++ r)]
    · refine ⟨(beL r.length 4 ++ r).take e, ?_, ?_⟩
      · rw [List.take_append_of_le_length (by omega), wholes, if_neg he]
        simp [enc]
      · by_cases h4 : e < 4
        · left
          rw [List.length_take]
          omega
        · right
          refine ⟨r.length, r.take (e - 4), ?_, ?_, hr r (List.mem_cons_self ..)⟩
          · rw [List.take_append, beL_len, List.take_of_length_le (by rw [beL_len]; omega)]
          · rw [List.length_take]; omega
theorem wholes_le (recs : List (List Int)) : ∀ e, (enc (wholes e recs)).length ≤ (enc recs).length := by
  induction recs with
  | nil => intro e; simp [wholes]
  | cons r rs ih =>
    intro e
    rw [wholes]
    split
    · have := ih (e - (4 + r.length))
      simp only [enc_cons, List.length_append]
      omega
    · simp [enc]
theorem wholes_mem {recs : List (List Int)} {r : List Int} : ∀ {e}, r ∈ wholes e recs → r ∈ recs := by
  induction recs with
  | nil => intro e h; exact h
  | cons x xs ih =>
    intro e h
    rw [wholes] at h
    split at h
    · rcases List.mem_cons.1 h with rfl | h
      · exact List.mem_cons_self ..
      · exact List.mem_cons_of_mem _ (ih h)
    · cases h

theorem bounds_hm {len top h : Nat} (h1 : h ≤ top) : bounds len top (some (.int .i64 h)) (some (.int .i64 h)) none = some (0, h, some h) := by
  show (match (match Nat.ble h top with | true => some (some h) | false => none : Option (Option Nat)) with
    | none => none
    | some q => match (match (some (.int .i64 h) : Option Value), q with
      | none, none => some len
      | none, some _ => none
      | some (.int _ (.ofNat h)), none => (match Nat.ble h top with | true => some h | false => none)
      | some (.int _ (.ofNat h)), some m => (match Nat.ble h m with | true => some h | false => none)
      | some _, _ => none : Option Nat) with
      | none => none
      | some h => some (0, h, q)) = _
  rw [ble_t h1]
  show (match (match Nat.ble h h with | true => some h | false => none : Option Nat) with
      | none => none
      | some k => some (0, k, some h)) = _
  rw [ble_t (Nat.le_refl h)]
theorem Own_cap {h : Heap} {a : Option Addr} {n c : Nat} {cs : List Value} (ho : Own h 5 1 a n c cs) (hn : n < 1000000000000) : Cap h a n c ∧ (a = none → c = 0 ∧ n = 0) := by
  obtain ⟨o1, o2, o3⟩ := ho
  have hU2 := U_UC
  have hU3 : 1000000000000 < U := by unfold U; omega
  rcases o3 with ⟨ha, o4, o5⟩ | ⟨b, m, rfl, o5, o6, o7, o8⟩
  · exact ⟨.inl ⟨by omega, by omega⟩, fun _ => ⟨o5, o4⟩⟩
  · refine ⟨?_, fun h => by cases h⟩
    rcases o8 with ⟨rfl, rfl⟩ | ⟨rfl, rfl⟩
    · exact .inr ⟨b, 0, _, rfl, o7, Nat.le_refl _, by omega, by omega, by omega⟩
    · exact .inl ⟨by omega, Nat.le_refl _⟩
theorem sl_hm {h : Heap} {a : Option Addr} {n c k : Nat} {bs : List Int} (hs : Sl h a (bv bs)) (hn : bs.length = n) (hc : Cap h a n c) (h0 : a = none → c = 0 ∧ n = 0) (hk : k ≤ n) :
    ∃ a', slV Try.prog 23 (.slice a n c) none (some (.int .i64 k)) (some (.int .i64 k)) h = some (.slice a' k k) ∧ Sl h a' (bv (bs.take k)) ∧ spotN a' ∧ ∀ b, blk a' b → blk a b := by
  cases a with
  | none =>
    obtain ⟨rfl, rfl⟩ := h0 rfl
    obtain rfl : k = 0 := by omega
    exact ⟨none, by kernel_rfl, by rw [List.take_zero]; exact Sl.nil _ spotN_n, spotN_n, fun b hb => hb⟩
  | some a =>
    have hsp := Sl_spot hs
    obtain ⟨b, off, sp⟩ := a
    obtain rfl : sp = none := by simpa [spotN] using hsp
    have hsub := Sl_sub hs 0 k (by rw [bv_len]; omega)
    rw [← bv_sub, List.drop_zero, Nat.add_zero] at hsub
    refine ⟨some ⟨b, off, none⟩, ?_, hsub, hsp, fun b hb => hb⟩
    rcases hc with ⟨h1, h2⟩ | ⟨b', off', full, ha, h2, h3, h4, h5, h6⟩
    · have e : slicePure Try.prog 23 (some ⟨b, off, none⟩) n c none (some (.int .i64 k)) (some (.int .i64 k)) = some (.slice (some ⟨b, off, none⟩) k k) := by
        unfold slicePure
        simp only [u23, s5, blt_t h1, bounds_hm (len := n) (show k ≤ c by omega), Option.getD_some, Nat.sub_zero, Option.map_some, add0]
        cases k.beq 0 <;> rfl
      simp only [slV, e]
    · cases ha
      have e : slicePure Try.prog 23 (some ⟨b, off, none⟩) n c none (some (.int .i64 k)) (some (.int .i64 k)) = none := by
        unfold slicePure
        simp only [u23, s5, blt_f (show ¬ c < UC by omega)]
      have e2 : (Nat.beq 5 5 && Nat.ble UC c && Nat.beq off ((c - UC) * 1) && Nat.blt 0 1 && Nat.ble (off + n * 1) full.length && Nat.blt n U) = true := by
        rw [ble_t h3, beq_t (show off = (c - UC) * 1 by omega), ble_t (show off + n * 1 ≤ full.length by omega), blt_t h6]; rfl
      simp only [slV, e, sliceRead, u23, s5, h2, e2, bounds_hm (len := n) hk, Nat.sub_zero, add0]
      cases k.beq 0 <;> rfl

def endN (sure n : Nat) (keep : Int) : Nat := sure + (min (max keep 0) ((n : Int) - sure)).toNat
structure CrashPost (h : Heap) (lim : Nat) (recs : List (List Int)) (v : Value) (h2 : Heap) : Prop where
  log : ∃ q a c, v = .pointer (some ⟨q, 0, none⟩) ∧ LogP h2 q lim a c (enc recs) (enc recs).length ∧ ∀ b, LogB q a b → h.next ≤ b
  gr : Gr h h2

structure CrJ (N lim : Nat) (ws : List (List Int)) (i : Nat) (h2 : Heap) : Prop where
  log : ∃ aa cc, LogP h2 N lim aa cc (enc (ws.take i)) 0 ∧ ∀ b, blk aa b → N + 5 ≤ b
  cell : cells h2 (N + 1) = some ([.pointer (some ⟨N, 0, none⟩)], 26, false)

theorem crash_w {p lim : Nat} {a : Option Addr} {c : Nat} {recs : List (List Int)} {sure : Nat} (l : LogP h p lim a c (enc recs) sure) (hlim : lim ≤ 1000000000) (keep : Int) :
    CallE (pp G) 19 [.pointer (some ⟨p, 0, none⟩), .int .i64 keep] h (CrashPost h lim (wholes (endN sure (enc recs).length keep) recs)) := by
  refine CallE.fir4 (good G) fir19 rfl rfl (F46_arr ..) fun hlo => ?_
  rw [sh_ir19]
  have hc := l.cell
  have hl := l.lo
  have hlt := l.lt
  have hfi := l.fits
  have hsu := l.sure
  obtain ⟨e, he, hle⟩ : ∃ e : Nat, endN sure (enc recs).length keep = e ∧ e ≤ (enc recs).length := ⟨_, rfl, by unfold endN; omega⟩
  have hev : (sure : Int) + min (max keep 0) (((enc recs).length : Int) - sure) = e := by unfold endN at he; omega
  rw [he]
  have hw1 : IntKind.i64.wrap (((enc recs).length : Int) - sure) = (enc recs).length - sure := wrap_i64 (by omega) (by omega)
  have hw2 : IntKind.i64.wrap ((sure : Int) + min (max keep 0) (((enc recs).length : Int) - sure)) = (e : Int) := by rw [hev]; exact wrap_i64 (by omega) (by omega)
  obtain ⟨cap, cap0⟩ := Own_cap l.own (by omega)
  simp (disch := first | omega | (refine id ?_; simp only [push_cast]; done) | (refine id ?_; simp only [push_cast]; omega)) only [push_cast, Nat.reduceAdd, Nat.reduceMul, Nat.reduceSub, Nat.reduceLT, Nat.reduceEqDiff, Nat.reduceLeDiff, Int.reduceToNat, reduceCtorEq, Int.reduceLT, Int.reduceLE, Int.reduceAdd, Int.reduceSub, Int.reduceMul, Int.reduceNeg, Int.reduceEq, hc, hl, mxV_int, mnV_int, hw1, hw2]
  refine CallE.to (new_w G _ lim) ?_
  rintro _ h1 ⟨rfl, hl1, hg1, hn1⟩
  have hc1 := hg1.cellsE hc hlt (fun h => h)
  have hlo1 : h1.lo = h.lo := hg1.lo
  have hlt1 : p < h1.next := by omega
  have hsl1 : Sl h1 a (bv (enc recs)) := Sl.grew l.own.sl hg1 fun b hb _ => ⟨Own_lt l.own b hb, fun h => h⟩
  obtain ⟨cap1, _⟩ := Own_cap (l.own.grew hg1 fun b _ _ h => h) (by omega)
  have hs2 : ∀ h2, Grew h1 h2 (fun _ => False) → ∃ a', slV Try.prog 23 (.slice a (enc recs).length c) none (some (.int .i64 e)) (some (.int .i64 e)) h2 = some (.slice a' e e) ∧ Sl h2 a' (bv ((enc recs).take e)) ∧ spotN a' ∧ ∀ b, blk a' b → blk a b := fun h2 g => by
    have ho2 := (l.own.grew hg1 fun b _ _ h => h).grew g fun b _ _ h => h
    obtain ⟨q1, q2⟩ := Own_cap ho2 (by omega)
    exact sl_hm ho2.sl rfl q1 q2 hle
  have hg2 : Grew h1 ((h1.add (O [Value.pointer none] 26 false)).put h1.next (O [Value.pointer (some { block := h.next, off := 0 })] 26 false)) (fun _ => False) := ((Grew.refl h1 _).add' _).put'' _ _ fun hx => by omega
  obtain ⟨a', hsl2, hs3, hsp, hba⟩ := hs2 _ hg2
  have hcx : cells ((h1.add (O [Value.pointer none] 26 false)).put h1.next (O [Value.pointer (some { block := h.next, off := 0 })] 26 false)) h1.next = some ([.pointer (some ⟨h.next, 0, none⟩)], 26, false) := cells_put_s _ _ _ _
  have hn2 : ((h1.add (O [Value.pointer none] 26 false)).put h1.next (O [Value.pointer (some { block := h.next, off := 0 })] 26 false)).next = h1.next + 1 := by simp only [push_cast]
  simp (disch := first | omega | (refine id ?_; simp only [push_cast]; done) | (refine id ?_; simp only [push_cast]; omega)) only [push_cast, Nat.reduceAdd, Nat.reduceMul, Nat.reduceSub, Nat.reduceLT, Nat.reduceEqDiff, Nat.reduceLeDiff, Int.reduceToNat, reduceCtorEq, Int.reduceLT, Int.reduceLE, Int.reduceAdd, Int.reduceSub, Int.reduceMul, Int.reduceNeg, Int.reduceEq, hc1, hl]
  generalize ((h1.add (O [Value.pointer none] 26 false)).put h1.next (O [Value.pointer (some { block := h.next, off := 0 })] 26 false)) = h2 at hg2 hsl2 hs3 hcx hn2 ⊢
  simp (disch := first | omega | (refine id ?_; simp only [push_cast]; done) | (refine id ?_; simp only [push_cast]; omega)) only [push_cast, Nat.reduceAdd, Nat.reduceMul, Nat.reduceSub, Nat.reduceLT, Nat.reduceEqDiff, Nat.reduceLeDiff, Int.reduceToNat, reduceCtorEq, Int.reduceLT, Int.reduceLE, Int.reduceAdd, Int.reduceSub, Int.reduceMul, Int.reduceNeg, Int.reduceEq, hsl2]
  have hab : ∀ b, blk a' b → b < h.next := fun b hb => Own_lt l.own b (hba b hb)
  refine CallE.to (recs_w G _ a' e e hsp fun b hb => by have := hab b hb; omega) ?_
  rintro _ h3 ⟨rfl, ee⟩
  have hn3 : h3.next = h.next + 3 := by rw [ee, next_add]; omega
  have hg3 : Grew h2 h3 (fun _ => False) := by rw [ee]; exact Grew.add h2 _ _
  have hcq : cells h3 h2.next = some ([.slice a' e e], 23, false) := by rw [ee]; exact cells_add_s _ _ _ _ rfl
  clear ee
  simp (disch := first | omega | (refine id ?_; simp only [push_cast]; done) | (refine id ?_; simp only [push_cast]; omega)) only [push_cast, Nat.reduceAdd, Nat.reduceMul, Nat.reduceSub, Nat.reduceLT, Nat.reduceEqDiff, Nat.reduceLeDiff, Int.reduceToNat, reduceCtorEq, Int.reduceLT, Int.reduceLE, Int.reduceAdd, Int.reduceSub, Int.reduceMul, Int.reduceNeg, Int.reduceEq]
  obtain ⟨tail, htk, htail⟩ := wholes_spec recs e fun r hr => by have := enc_mem hr; omega
  have hwl := wholes_le recs e
  have hwm : ∀ r ∈ wholes e recs, r.length ≤ 1000000000 := fun r hr => by have := enc_mem (wholes_mem hr); omega
  generalize hws : wholes e recs = ws at htk hwl hwm ⊢
  have htl : (enc ws ++ tail).length = e := by rw [← htk, List.length_take]; omega
  refine W.each (good G) comp19_0 comp19_1 (by show 46 < U; unfold U; omega) (f := 36) (captured := [.pointer (some ⟨h2.next, 0, none⟩)]) rfl (by rw [hg3.lo, hg2.lo, hlo1]; omega)
    ws.length (CrJ h.next lim ws) (fun k => k = h.next ∨ h.next + 5 ≤ k) (fun k => k = h.next + 2) (It (blk a') (fun k => k = h.next ∨ h.next + 5 ≤ k) ws)
    (fun args => F46 (.pointer (some ⟨p, 0, none⟩)) (.int .i64 keep) undef undef (.pointer none) (.int .i64 (e : Int)) (.pointer (some ⟨h1.next, 0, none⟩)) (args.headD undef) (.pointer (some ⟨p, 0, none⟩)) (.pointer (some ⟨p, 0, none⟩)) (.pointer (some ⟨p, 2, none⟩)) (.int .i64 (sure : Int)) (.int .i64 keep) (.int .i64 (max keep 0)) (.pointer (some ⟨p, 0, none⟩)) (.pointer (some ⟨p, 0, none⟩)) (.pointer (some ⟨p, 1, none⟩)) (.slice a (enc recs).length c) (.int .i64 ((enc recs).length : Int)) (.pointer (some ⟨p, 0, none⟩)) (.pointer (some ⟨p, 0, none⟩)) (.pointer (some ⟨p, 2, none⟩)) (.int .i64 (sure : Int)) (.int .i64 (((enc recs).length : Int) - sure)) (.int .i64 (min (max keep 0) (((enc recs).length : Int) - sure))) (.int .i64 (e : Int)) (.pointer (some ⟨p, 0, none⟩)) (.pointer (some ⟨p, 0, none⟩)) (.pointer (some ⟨p, 0, none⟩)) (.int .i64 (lim : Int)) (.pointer (some ⟨h.next, 0, none⟩)) (.pointer (some ⟨p, 0, none⟩)) (.pointer (some ⟨p, 0, none⟩)) (.pointer (some ⟨p, 1, none⟩)) (.slice a (enc recs).length c) (.int .i64 (e : Int)) (.int .i64 (e : Int)) (.slice a' e e) (.func (.func 36) #[] #[.pointer (some ⟨h2.next, 0, none⟩)]) (args.headD undef) undef undef undef undef undef undef)
    ?hST ?hJ0 ?hJ ?hlen ?hIt ?hA ?step ?iter ?hR
  case hST => rw [hn3]; omega
  case hJ0 =>
    refine ⟨⟨none, 0, (hl1.grew (hg2.tr' hg3 fun _ _ h => h) fun _ _ h => h), fun b hb => by obtain ⟨o, s, e⟩ := hb; cases e⟩, ?_⟩
    rw [← hn1]; exact hg3.cellsE hcx (by omega) fun h => h
  case hJ =>
    rintro i x2 x3 ⟨⟨aa, cc, q1, q2⟩, q3⟩ xn xl xg
    have hlt9 := q1.lt
    refine ⟨⟨aa, cc, q1.grew xg fun b hb hx => ?_, q2⟩, xg.cellsE q3 (by omega) (by omega)⟩
    rcases hb with rfl | hb
    · omega
    · have := q2 b hb; omega
  case hlen =>
    rintro i h2 args ⟨r, ai, ci, _, rfl, _⟩
    rfl
  case hIt =>
    rintro i x2 x3 args ⟨r, ai, ci, e1, e2, e3, e4⟩ xn xl xg
    exact ⟨r, ai, ci, e1, e2, Sl.grew e3 xg fun b hb _ => (by have := hab b (e4 b hb); omega), e4⟩
  case hA =>
    rintro i h2 args ⟨r, ai, ci, h3, rfl, h4⟩
    rw [← vc3_eq]
    show vc3 (pp G) _ ir19_0 ⟨F46 _ _ _ _ _ _ _ _ _ _ _ _ _ _ _ _ _ _ _ _ _ _ _ _ _ _ _ _ _ _ _ _ _ _ _ _ _ _ _ _ _ _ _ _ _ _, [], h2⟩ _
    rw [sh_ir19_0]
    simp (disch := first | omega | (refine id ?_; simp only [push_cast]; done) | (refine id ?_; simp only [push_cast]; omega)) only [push_cast, Nat.reduceAdd, Nat.reduceMul, Nat.reduceSub, Nat.reduceLT, Nat.reduceEqDiff, Nat.reduceLeDiff, Int.reduceToNat, reduceCtorEq, Int.reduceLT, Int.reduceLE, Int.reduceAdd, Int.reduceSub, Int.reduceMul, Int.reduceNeg, Int.reduceEq]
    rfl
  case step =>
    rintro i x2 args hi ⟨⟨aa, cc, q1, q2⟩, q3⟩ xn xl ⟨r, ai, ci, e1, rfl, e3, e4⟩
    have hxl : x2.lo ≤ h.next + 1 := by rw [xl, hg3.lo, hg2.lo, hlo1]; omega
    rw [← vc3_eq, sh_ir19_1]
    simp (disch := first | omega | (refine id ?_; simp only [push_cast]; done) | (refine id ?_; simp only [push_cast]; omega)) only [push_cast, Nat.reduceAdd, Nat.reduceMul, Nat.reduceSub, Nat.reduceLT, Nat.reduceEqDiff, Nat.reduceLeDiff, Int.reduceToNat, reduceCtorEq, Int.reduceLT, Int.reduceLE, Int.reduceAdd, Int.reduceSub, Int.reduceMul, Int.reduceNeg, Int.reduceEq, hn1, q3, hxl, List.headD_cons]
    have hr9 := hwm r (List.mem_of_getElem? e1)
    have hti : ws.take (i + 1) = ws.take i ++ [r] := by rw [List.take_add_one, e1]; rfl
    have het : enc (ws.take (i + 1)) = enc (ws.take i) ++ beL r.length 4 ++ r := by
      rw [hti]
      unfold enc
      rw [List.map_append, List.flatten_append]
      simp [encR]
    have hpre : (enc (ws.take (i + 1))).length ≤ (enc ws).length := by
      have : enc ws = enc (ws.take (i + 1)) ++ enc (ws.drop (i + 1)) := by
        unfold enc
        rw [← List.flatten_append, ← List.map_append, List.take_append_drop]
      rw [this, List.length_append]
      omega
    have hlen9 : (enc (ws.take (i + 1))).length = (enc (ws.take i)).length + 4 + r.length := by rw [het, List.length_append, List.length_append, beL_len]
    refine CallE.to (append_w G _ q1 hlim r ai ci e3 (by omega) fun b hb => ?_) ?_
    · have h9 := hab b (e4 b hb)
      refine ⟨by omega, fun hx => ?_⟩
      rcases hx with rfl | hx
      · omega
      · have := q2 b hx; omega
    · rintro v x3 ⟨yes, _⟩
      obtain ⟨rfl, a9, c9, k1, k2, k3⟩ := yes (by omega)
      rw [← het] at k1
      have hq3 := q1.lt
      have q4 := k2.cellsE q3 (by omega) fun hx => by
        rcases hx with hx | hx
        · omega
        · have := q2 _ hx; omega
      simp (disch := first | omega | (refine id ?_; simp only [push_cast]; done) | (refine id ?_; simp only [push_cast]; omega)) only [push_cast, Nat.reduceAdd, Nat.reduceMul, Nat.reduceSub, Nat.reduceLT, Nat.reduceEqDiff, Nat.reduceLeDiff, Int.reduceToNat, reduceCtorEq, Int.reduceLT, Int.reduceLE, Int.reduceAdd, Int.reduceSub, Int.reduceMul, Int.reduceNeg, Int.reduceEq]
      refine ⟨⟨⟨a9, c9, k1, fun b hb => ?_⟩, q4⟩, k2.mono fun b _ hb => ?_⟩
      · rcases k3 b hb with h9 | h9
        · exact q2 b h9
        · omega
      · rcases hb with rfl | hb
        · exact .inl rfl
        · exact .inr (q2 b hb)
  case iter =>
    intro h4 Y hg4 hn4 hY0 hround hstab
    have e22 : h.next + 2 = h2.next := by omega
    rw [e22]
    refine iter_w G h4 (h3.next + 1) h2.next (blk a') (fun k => k = h.next ∨ h.next + 5 ≤ k) ws tail Y htail (fun r hr => by have := hwm r hr; omega) (by rw [List.length_append] at htl; omega) ?_ ?_ (by omega) (by omega) (by omega) hY0 ?_ ?_
    · refine ⟨⟨a', e, ?_, ?_, fun _ => .inl ⟨?_, Nat.le_of_eq htl⟩, fun b hb => hb⟩, by rw [hg4.lo, hg3.lo, hg2.lo, hlo1]; omega, by omega⟩
      · rw [htl]; exact hg4.cellsE hcq (by omega) fun h => h
      · rw [← htk]; exact Sl.grew (Sl.grew hs3 hg3 fun b hb _ => ⟨by have := hab b hb; omega, fun h => h⟩) hg4 fun b hb _ => ⟨by have := hab b hb; omega, fun h => h⟩
      · have := U_UC; unfold U at this; omega
    · intro b hb
      have := hab b hb
      omega
    · intro i x3 args hi hY xn xl hIt3
      exact (hround i x3 args hi hY (by omega) (by rw [xl, hg4.lo]) hIt3).mono fun v x4 hv => hv
    · intro i x3 x4 hY xg
      exact hstab i x3 x4 hY (xg.mono fun k _ e => by omega)
  case hR =>
    rintro x2 ⟨⟨aa, cc, q1, q2⟩, q3⟩ xg xn hd
    rw [List.take_length] at q1
    have hxl : x2.lo ≤ h.next + 1 := by rw [xg.lo, hg3.lo, hg2.lo, hlo1]; omega
    have hm : x2.lo ≤ h3.next := by omega
    simp (disch := first | omega | (refine id ?_; simp only [push_cast]; done) | (refine id ?_; simp only [push_cast]; omega)) only [push_cast, Nat.reduceAdd, Nat.reduceMul, Nat.reduceSub, Nat.reduceLT, Nat.reduceEqDiff, Nat.reduceLeDiff, Int.reduceToNat, reduceCtorEq, Int.reduceLT, Int.reduceLE, Int.reduceAdd, Int.reduceSub, Int.reduceMul, Int.reduceNeg, Int.reduceEq, hn1, q3, hxl]
    refine CallE.to (sync_w G _ q1) ?_
    rintro v x3 ⟨rfl, k1, k2, k3⟩
    have q4 := k2.cellsE q3 (by omega) (by omega)
    have hxl3 : x3.lo ≤ h.next + 1 := by rw [k2.lo]; exact hxl
    have hd3 : x3.get h3.next = some ⟨.deferred (some []), false⟩ := by rw [k2.get _ (by omega) (by omega)]; exact hd
    have hm3 : x3.lo ≤ h3.next := by omega
    simp (disch := first | omega | (refine id ?_; simp only [push_cast]; done) | (refine id ?_; simp only [push_cast]; omega)) only [push_cast, Nat.reduceAdd, Nat.reduceMul, Nat.reduceSub, Nat.reduceLT, Nat.reduceEqDiff, Nat.reduceLeDiff, Int.reduceToNat, reduceCtorEq, Int.reduceLT, Int.reduceLE, Int.reduceAdd, Int.reduceSub, Int.reduceMul, Int.reduceNeg, Int.reduceEq, hn1, q4, hxl3, evMarks_cons hd3 hm3]
    have hgp : Grew x3 (x3.put h3.next ⟨.deferred none, false⟩) (fun k => k = h3.next) := (Grew.refl x3 _).put'' _ _ fun _ => rfl
    have hgA : Grew h x2 (fun _ => False) := ((hg1.tr' hg2 fun _ _ h => h).tr' hg3 fun _ _ h => h).tr' xg fun i hi ht => by omega
    have hgB : Grew h x3 (fun _ => False) := hgA.tr' k2 fun i hi ht => by omega
    refine ⟨⟨h.next, aa, cc, rfl, k1.grew hgp fun b hb hx => ?_, fun b hb => ?_⟩, hgB.tr' hgp fun i hi ht => by omega⟩
    · rcases hb with rfl | hb
      · omega
      · have := q2 b hb; omega
    · rcases hb with rfl | hb
      · exact Nat.le_refl _
      · have := q2 b hb; omega
end
end Go.Proofs.Ytohdgkmgkcoilaa
