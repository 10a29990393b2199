/-
  LogTorn: for every two rows of bytes, every number the law returns true: a record that is not whole is gone, and all that is behind it.
  Condition: none.
-/
import Derived.Test.YtohdgkmgkcoilaaLgd
import Derived.Test.YtohdgkmgkcoilaaLgk
import Derived.Test.YtohdgkmgkcoilaaLgl
import Derived.Test.YtohdgkmgkcoilaaRows
import Derived.ProofKit
import Derived.OpenShut
import Derived.Carry
import Derived.SizedLaws
import Derived.ChangeMaps5
set_option linter.unusedSimpArgs false
set_option linter.unusedVariables false
namespace Go.Proofs.Ytohdgkmgkcoilaa
open Go.RowKit Go.Ev
set_option linter.unusedVariables false
set_option maxRecDepth 100000
noncomputable section
def F68 (x0 x1 x2 x3 x4 x5 x6 x7 x8 x9 x10 x11 x12 x13 x14 x15 x16 x17 x18 x19 x20 x21 x22 x23 x24 x25 x26 x27 x28 x29 x30 x31 x32 x33 x34 x35 x36 x37 x38 x39 x40 x41 x42 x43 x44 x45 x46 x47 x48 x49 x50 x51 x52 x53 x54 x55 x56 x57 x58 x59 x60 x61 x62 x63 x64 x65 x66 x67 : Value) : VT := ⟨68, (.node (.node (.node (.node (.node (.node (.node .nil x63 .nil) x31 .nil) x15 (.node .nil x47 .nil)) x7 (.node (.node .nil x39 .nil) x23 (.node .nil x55 .nil))) x3 (.node (.node (.node (.node .nil x67 .nil) x35 .nil) x19 (.node .nil x51 .nil)) x11 (.node (.node .nil x43 .nil) x27 (.node .nil x59 .nil)))) x1 (.node (.node (.node (.node (.node .nil x65 .nil) x33 .nil) x17 (.node .nil x49 .nil)) x9 (.node (.node .nil x41 .nil) x25 (.node .nil x57 .nil))) x5 (.node (.node (.node .nil x37 .nil) x21 (.node .nil x53 .nil)) x13 (.node (.node .nil x45 .nil) x29 (.node .nil x61 .nil))))) x0 (.node (.node (.node (.node (.node (.node .nil x64 .nil) x32 .nil) x16 (.node .nil x48 .nil)) x8 (.node (.node .nil x40 .nil) x24 (.node .nil x56 .nil))) x4 (.node (.node (.node .nil x36 .nil) x20 (.node .nil x52 .nil)) x12 (.node (.node .nil x44 .nil) x28 (.node .nil x60 .nil)))) x2 (.node (.node (.node (.node (.node .nil x66 .nil) x34 .nil) x18 (.node .nil x50 .nil)) x10 (.node (.node .nil x42 .nil) x26 (.node .nil x58 .nil))) x6 (.node (.node (.node .nil x38 .nil) x22 (.node .nil x54 .nil)) x14 (.node (.node .nil x46 .nil) x30 (.node .nil x62 .nil))))))⟩
theorem F68_arr (x0 x1 x2 x3 x4 x5 x6 x7 x8 x9 x10 x11 x12 x13 x14 x15 x16 x17 x18 x19 x20 x21 x22 x23 x24 x25 x26 x27 x28 x29 x30 x31 x32 x33 x34 x35 x36 x37 x38 x39 x40 x41 x42 x43 x44 x45 x46 x47 x48 x49 x50 x51 x52 x53 x54 x55 x56 x57 x58 x59 x60 x61 x62 x63 x64 x65 x66 x67 : Value) : (F68 x0 x1 x2 x3 x4 x5 x6 x7 x8 x9 x10 x11 x12 x13 x14 x15 x16 x17 x18 x19 x20 x21 x22 x23 x24 x25 x26 x27 x28 x29 x30 x31 x32 x33 x34 x35 x36 x37 x38 x39 x40 x41 x42 x43 x44 x45 x46 x47 x48 x49 x50 x51 x52 x53 x54 x55 x56 x57 x58 x59 x60 x61 x62 x63 x64 x65 x66 x67).arr = ⟨[x0, x1, x2, x3, x4, x5, x6, x7, x8, x9, x10, x11, x12, x13, x14, x15, x16, x17, x18, x19, x20, x21, x22, x23, x24, x25, x26, x27, x28, x29, x30, x31, x32, x33, x34, x35, x36, x37, x38, x39, x40, x41, x42, x43, x44, x45, x46, x47, x48, x49, x50, x51, x52, x53, x54, x55, x56, x57, x58, x59, x60, x61, x62, x63, x64, x65, x66, x67]⟩ := by kernel_rfl
theorem F68_g6 (x0 x1 x2 x3 x4 x5 x6 x7 x8 x9 x10 x11 x12 x13 x14 x15 x16 x17 x18 x19 x20 x21 x22 x23 x24 x25 x26 x27 x28 x29 x30 x31 x32 x33 x34 x35 x36 x37 x38 x39 x40 x41 x42 x43 x44 x45 x46 x47 x48 x49 x50 x51 x52 x53 x54 x55 x56 x57 x58 x59 x60 x61 x62 x63 x64 x65 x66 x67 : Value) : (F68 x0 x1 x2 x3 x4 x5 x6 x7 x8 x9 x10 x11 x12 x13 x14 x15 x16 x17 x18 x19 x20 x21 x22 x23 x24 x25 x26 x27 x28 x29 x30 x31 x32 x33 x34 x35 x36 x37 x38 x39 x40 x41 x42 x43 x44 x45 x46 x47 x48 x49 x50 x51 x52 x53 x54 x55 x56 x57 x58 x59 x60 x61 x62 x63 x64 x65 x66 x67).get 6 = x6 := by kernel_rfl
attribute [push_cast] F68_g6
noncomputable def ir12_s0 : IR := (.seq (.seq (.ops [⟨(some 48), none, .take, (.move (.tmp 8)), 3⟩, ⟨(some 49), none, .take, (.move (.tmp 0)), 23⟩, ⟨(some 50), none, .take, (.call ⟨(.builtin .len), #[(.tmp 49)], #[23]⟩), 3⟩, ⟨(some 51), none, .take, (.move (.tmp 1)), 23⟩, ⟨(some 52), none, .take, (.call ⟨(.builtin .len), #[(.tmp 51)], #[23]⟩), 3⟩, ⟨(some 53), none, .take, (.binOp .add 3 (.tmp 50) (.tmp 52) 3), 3⟩, ⟨(some 54), none, .take, (.binOp .add 3 (.tmp 53) (.const (.int .i64 8)) 3), 3⟩, ⟨(some 55), none, .take, (.binOp .geq 3 (.tmp 48) (.tmp 54) 3), 4⟩]) (.cond (.tmp 55) (.ops [⟨(some 10), none, .take, (.assign (.const (.int .i64 2))), 3⟩]) .skip)) (.seq (.ops [⟨(some 56), none, .take, (.move (.tmp 9)), 26⟩, ⟨(some 57), none, .call, (.call ⟨(.value (.func 23)), #[(.tmp 56)], #[26]⟩), 35⟩, ⟨(some 58), none, .take, (.call ⟨(.builtin .len), #[(.tmp 57)], #[35]⟩), 3⟩, ⟨(some 59), none, .take, (.move (.tmp 10)), 3⟩, ⟨(some 60), none, .take, (.binOp .eql 3 (.tmp 58) (.tmp 59) 3), 4⟩, ⟨(some 61), none, .take, (.move (.tmp 60)), 4⟩, ⟨(some 62), (some (61, true)), .take, (.move (.tmp 9)), 26⟩, ⟨(some 63), (some (61, true)), .call, (.call ⟨(.value (.func 24)), #[(.tmp 62)], #[26]⟩), 3⟩, ⟨(some 64), (some (61, true)), .take, (.move (.tmp 9)), 26⟩, ⟨(some 65), (some (61, true)), .call, (.call ⟨(.value (.func 25)), #[(.tmp 64)], #[26]⟩), 3⟩, ⟨(some 66), (some (61, true)), .take, (.binOp .eql 3 (.tmp 63) (.tmp 65) 3), 4⟩, ⟨(some 67), none, .take, (.pick (.tmp 61) (.tmp 66) (.const (.bool false))), 4⟩, ⟨(some 6), none, .take, (.assign (.tmp 67)), 4⟩]) .ret))
noncomputable def ir12_s1 : IR := (.seq (.ops [⟨(some 56), none, .take, (.move (.tmp 9)), 26⟩, ⟨(some 57), none, .call, (.call ⟨(.value (.func 23)), #[(.tmp 56)], #[26]⟩), 35⟩, ⟨(some 58), none, .take, (.call ⟨(.builtin .len), #[(.tmp 57)], #[35]⟩), 3⟩, ⟨(some 59), none, .take, (.move (.tmp 10)), 3⟩, ⟨(some 60), none, .take, (.binOp .eql 3 (.tmp 58) (.tmp 59) 3), 4⟩, ⟨(some 61), none, .take, (.move (.tmp 60)), 4⟩, ⟨(some 62), (some (61, true)), .take, (.move (.tmp 9)), 26⟩, ⟨(some 63), (some (61, true)), .call, (.call ⟨(.value (.func 24)), #[(.tmp 62)], #[26]⟩), 3⟩, ⟨(some 64), (some (61, true)), .take, (.move (.tmp 9)), 26⟩, ⟨(some 65), (some (61, true)), .call, (.call ⟨(.value (.func 25)), #[(.tmp 64)], #[26]⟩), 3⟩, ⟨(some 66), (some (61, true)), .take, (.binOp .eql 3 (.tmp 63) (.tmp 65) 3), 4⟩, ⟨(some 67), none, .take, (.pick (.tmp 61) (.tmp 66) (.const (.bool false))), 4⟩, ⟨(some 6), none, .take, (.assign (.tmp 67)), 4⟩]) .ret)
theorem sh_ir12 (G : Nat) (h : Heap) (a0 a1 a2 : Value) (R : Value → Heap → Prop) : vc3 (pp G) none ir12 ⟨(F68 a0 a1 a2 undef undef undef undef undef undef undef undef undef undef undef undef undef undef undef undef undef undef undef undef undef undef undef undef undef undef undef undef undef undef undef undef undef undef undef undef undef undef undef undef undef undef undef undef undef undef undef undef undef undef undef undef undef undef undef undef undef undef undef undef undef undef undef undef undef), [], h⟩ (finR Try.prog [(.tmp 6)] R) = (oT (some (.bool false)) none h (@kk ⟨(fun v1 h2 => CallV (pp G) (.func (.func 13) #[] #[]) [] h2 (@kk ⟨(fun v3 h4 => oT (unV Try.prog .not v3) none h4 (@kk ⟨(fun v5 h6 => vcond v5 (@kb ⟨(oT (some (.bool false)) none h6 (@kk ⟨(fun v7 h8 => R v7 h8)⟩))⟩) (@kb ⟨(oT (some a0) none h6 (@kk ⟨(fun v9 h10 => oT (lnB (lnT Try.prog 23) v9) none h10 (@kk ⟨(fun v11 h12 => oT (binPure Try.prog .gtr 3 (.tmp 14) (.const (.int .i64 60)) v11 (.int .i64 60)) none h12 (@kk ⟨(fun v13 h14 => oT (some v13) none h14 (@kk ⟨(fun v15 h16 => gT v15 false (some a1) none h16 (@kk ⟨(fun v17 h18 => gT v15 false (lnB (lnT Try.prog 23) v17) none h18 (@kk ⟨(fun v19 h20 => gT v15 false (binPure Try.prog .gtr 3 (.tmp 18) (.const (.int .i64 60)) v19 (.int .i64 60)) none h20 (@kk ⟨(fun v21 h22 => oT (pickV v15 (.bool true) v21) none h22 (@kk ⟨(fun v23 h24 => vcond v23 (@kb ⟨(oT (some (.bool true)) none h24 (@kk ⟨(fun v25 h26 => R v25 h26)⟩))⟩) (@kb ⟨(CallV (pp G) (.func (.func 15) #[] #[]) [(.int .i64 1000)] h24 (@kk ⟨(fun v27 h28 => oT (some v27) none h28 (@kk ⟨(fun v29 h30 => oT (some v29) none h30 (@kk ⟨(fun v31 h32 => oT (binPure Try.prog .eql 26 (.tmp 22) (.const (.pointer none)) v31 (.pointer none)) none h32 (@kk ⟨(fun v33 h34 => vcond v33 (@kb ⟨(oT (some (.bool false)) none h34 (@kk ⟨(fun v35 h36 => R v35 h36)⟩))⟩) (@kb ⟨(oT (some v29) none h34 (@kk ⟨(fun v37 h38 => oT (some a0) none h38 (@kk ⟨(fun v39 h40 => CallV (pp G) (.func (.func 21) #[] #[]) [v37, v39] h40 (@kk ⟨(fun v41 h42 => oT (some v29) none h42 (@kk ⟨(fun v43 h44 => oT (some a1) none h44 (@kk ⟨(fun v45 h46 => CallV (pp G) (.func (.func 21) #[] #[]) [v43, v45] h46 (@kk ⟨(fun v47 h48 => oT (some a2) none h48 (@kk ⟨(fun v49 h50 => oT (some a0) none h50 (@kk ⟨(fun v51 h52 => oT (lnB (lnT Try.prog 23) v51) none h52 (@kk ⟨(fun v53 h54 => oT (some a1) none h54 (@kk ⟨(fun v55 h56 => oT (lnB (lnT Try.prog 23) v55) none h56 (@kk ⟨(fun v57 h58 => oT (binPure Try.prog .add 3 (.tmp 32) (.tmp 34) v53 v57) none h58 (@kk ⟨(fun v59 h60 => oT (binPure Try.prog .add 3 (.tmp 35) (.const (.int .i64 12)) v59 (.int .i64 12)) none h60 (@kk ⟨(fun v61 h62 => CallV (pp G) (.func (.func 14) #[] #[]) [v49, v61] h62 (@kk ⟨(fun v63 h64 => oT (some v63) none h64 (@kk ⟨(fun v65 h66 => oT (some v29) none h66 (@kk ⟨(fun v67 h68 => oT (some v65) none h68 (@kk ⟨(fun v69 h70 => CallV (pp G) (.func (.func 19) #[] #[]) [v67, v69] h70 (@kk ⟨(fun v71 h72 => oT (some v71) none h72 (@kk ⟨(fun v73 h74 => oT (some v73) none h74 (@kk ⟨(fun v75 h76 => oT (binPure Try.prog .eql 26 (.tmp 41) (.const (.pointer none)) v75 (.pointer none)) none h76 (@kk ⟨(fun v77 h78 => vcond v77 (@kb ⟨(oT (some (.bool false)) none h78 (@kk ⟨(fun v79 h80 => R v79 h80)⟩))⟩) (@kb ⟨(oT (some (.int .i64 0)) none h78 (@kk ⟨(fun v81 h82 => oT (some v65) none h82 (@kk ⟨(fun v83 h84 => oT (some a0) none h84 (@kk ⟨(fun v85 h86 => oT (lnB (lnT Try.prog 23) v85) none h86 (@kk ⟨(fun v87 h88 => oT (binPure Try.prog .add 3 (.tmp 45) (.const (.int .i64 4)) v87 (.int .i64 4)) none h88 (@kk ⟨(fun v89 h90 => oT (binPure Try.prog .geq 3 (.tmp 43) (.tmp 46) v83 v89) none h90 (@kk ⟨(fun v91 h92 => vcond v91 (@kb ⟨(oT (some (.int .i64 1)) none h92 (@kk ⟨(fun v93 h94 => vc3 (pp G) none ir12_s0 ⟨(F68 a0 a1 a2 undef undef undef v1 v29 v65 v73 v93 v3 v5 v9 v11 v13 v15 v17 v19 v21 v23 v27 v31 v33 v37 v39 v41 v43 v45 v47 v49 v51 v53 v55 v57 v59 v61 v63 v67 v69 v71 v75 v77 v83 v85 v87 v89 v91 undef undef undef undef undef undef undef undef undef undef undef undef undef undef undef undef undef undef undef undef), [], h94⟩ (@kR ⟨(finR Try.prog [(.tmp 6)] R)⟩))⟩))⟩) (@kb ⟨(vc3 (pp G) none ir12_s0 ⟨(F68 a0 a1 a2 undef undef undef v1 v29 v65 v73 v81 v3 v5 v9 v11 v13 v15 v17 v19 v21 v23 v27 v31 v33 v37 v39 v41 v43 v45 v47 v49 v51 v53 v55 v57 v59 v61 v63 v67 v69 v71 v75 v77 v83 v85 v87 v89 v91 undef undef undef undef undef undef undef undef undef undef undef undef undef undef undef undef undef undef undef undef), [], h92⟩ (@kR ⟨(finR Try.prog [(.tmp 6)] R)⟩))⟩))⟩))⟩))⟩))⟩))⟩))⟩))⟩))⟩))⟩))⟩))⟩))⟩))⟩))⟩))⟩))⟩))⟩))⟩))⟩))⟩))⟩))⟩))⟩))⟩))⟩))⟩))⟩))⟩))⟩))⟩))⟩))⟩))⟩))⟩))⟩))⟩))⟩))⟩))⟩))⟩))⟩))⟩))⟩))⟩))⟩))⟩)) := by kernel_rfl
theorem sh_ir12_s0 (G : Nat) (ro : Option Nat) (df : List Nat) (h : Heap) (x0 x1 x2 x3 x4 x5 x6 x7 x8 x9 x10 x11 x12 x13 x14 x15 x16 x17 x18 x19 x20 x21 x22 x23 x24 x25 x26 x27 x28 x29 x30 x31 x32 x33 x34 x35 x36 x37 x38 x39 x40 x41 x42 x43 x44 x45 x46 x47 x48 x49 x50 x51 x52 x53 x54 x55 x56 x57 x58 x59 x60 x61 x62 x63 x64 x65 x66 x67 : Value) (R : XExit → S → Prop) : vc3 (pp G) ro ir12_s0 ⟨(F68 x0 x1 x2 x3 x4 x5 x6 x7 x8 x9 x10 x11 x12 x13 x14 x15 x16 x17 x18 x19 x20 x21 x22 x23 x24 x25 x26 x27 x28 x29 x30 x31 x32 x33 x34 x35 x36 x37 x38 x39 x40 x41 x42 x43 x44 x45 x46 x47 x48 x49 x50 x51 x52 x53 x54 x55 x56 x57 x58 x59 x60 x61 x62 x63 x64 x65 x66 x67), df, h⟩ R = (oT (some x8) none h (@kk ⟨(fun v1 h2 => oT (some x0) none h2 (@kk ⟨(fun v3 h4 => oT (lnB (lnT Try.prog 23) v3) none h4 (@kk ⟨(fun v5 h6 => oT (some x1) none h6 (@kk ⟨(fun v7 h8 => oT (lnB (lnT Try.prog 23) v7) none h8 (@kk ⟨(fun v9 h10 => oT (binPure Try.prog .add 3 (.tmp 50) (.tmp 52) v5 v9) none h10 (@kk ⟨(fun v11 h12 => oT (binPure Try.prog .add 3 (.tmp 53) (.const (.int .i64 8)) v11 (.int .i64 8)) none h12 (@kk ⟨(fun v13 h14 => oT (binPure Try.prog .geq 3 (.tmp 48) (.tmp 54) v1 v13) none h14 (@kk ⟨(fun v15 h16 => vcond v15 (@kb ⟨(oT (some (.int .i64 2)) none h16 (@kk ⟨(fun v17 h18 => vc3 (pp G) ro ir12_s1 ⟨(F68 x0 x1 x2 x3 x4 x5 x6 x7 x8 x9 v17 x11 x12 x13 x14 x15 x16 x17 x18 x19 x20 x21 x22 x23 x24 x25 x26 x27 x28 x29 x30 x31 x32 x33 x34 x35 x36 x37 x38 x39 x40 x41 x42 x43 x44 x45 x46 x47 v1 v3 v5 v7 v9 v11 v13 v15 x56 x57 x58 x59 x60 x61 x62 x63 x64 x65 x66 x67), df, h18⟩ (@kR ⟨R⟩))⟩))⟩) (@kb ⟨(vc3 (pp G) ro ir12_s1 ⟨(F68 x0 x1 x2 x3 x4 x5 x6 x7 x8 x9 x10 x11 x12 x13 x14 x15 x16 x17 x18 x19 x20 x21 x22 x23 x24 x25 x26 x27 x28 x29 x30 x31 x32 x33 x34 x35 x36 x37 x38 x39 x40 x41 x42 x43 x44 x45 x46 x47 v1 v3 v5 v7 v9 v11 v13 v15 x56 x57 x58 x59 x60 x61 x62 x63 x64 x65 x66 x67), df, h16⟩ (@kR ⟨R⟩))⟩))⟩))⟩))⟩))⟩))⟩))⟩))⟩))⟩)) := by kernel_rfl
attribute [push_cast] sh_ir12_s0
theorem sh_ir12_s1 (G : Nat) (ro : Option Nat) (df : List Nat) (h : Heap) (x0 x1 x2 x3 x4 x5 x6 x7 x8 x9 x10 x11 x12 x13 x14 x15 x16 x17 x18 x19 x20 x21 x22 x23 x24 x25 x26 x27 x28 x29 x30 x31 x32 x33 x34 x35 x36 x37 x38 x39 x40 x41 x42 x43 x44 x45 x46 x47 x48 x49 x50 x51 x52 x53 x54 x55 x56 x57 x58 x59 x60 x61 x62 x63 x64 x65 x66 x67 : Value) (R : XExit → S → Prop) : vc3 (pp G) ro ir12_s1 ⟨(F68 x0 x1 x2 x3 x4 x5 x6 x7 x8 x9 x10 x11 x12 x13 x14 x15 x16 x17 x18 x19 x20 x21 x22 x23 x24 x25 x26 x27 x28 x29 x30 x31 x32 x33 x34 x35 x36 x37 x38 x39 x40 x41 x42 x43 x44 x45 x46 x47 x48 x49 x50 x51 x52 x53 x54 x55 x56 x57 x58 x59 x60 x61 x62 x63 x64 x65 x66 x67), df, h⟩ R = (oT (some x9) none h (@kk ⟨(fun v1 h2 => CallV (pp G) (.func (.func 23) #[] #[]) [v1] h2 (@kk ⟨(fun v3 h4 => oT (lnB (lnT Try.prog 35) v3) none h4 (@kk ⟨(fun v5 h6 => oT (some x10) none h6 (@kk ⟨(fun v7 h8 => oT (binPure Try.prog .eql 3 (.tmp 58) (.tmp 59) v5 v7) none h8 (@kk ⟨(fun v9 h10 => oT (some v9) none h10 (@kk ⟨(fun v11 h12 => gT v11 true (some x9) none h12 (@kk ⟨(fun v13 h14 => gC (pp G) v11 true (.func (.func 24) #[] #[]) [v13] h14 (@kk ⟨(fun v15 h16 => gT v11 true (some x9) none h16 (@kk ⟨(fun v17 h18 => gC (pp G) v11 true (.func (.func 25) #[] #[]) [v17] h18 (@kk ⟨(fun v19 h20 => gT v11 true (binPure Try.prog .eql 3 (.tmp 63) (.tmp 65) v15 v19) none h20 (@kk ⟨(fun v21 h22 => oT (pickV v11 v21 (.bool false)) none h22 (@kk ⟨(fun v23 h24 => oT (some v23) none h24 (@kk ⟨(fun v25 h26 => R .ret ⟨(F68 x0 x1 x2 x3 x4 x5 v25 x7 x8 x9 x10 x11 x12 x13 x14 x15 x16 x17 x18 x19 x20 x21 x22 x23 x24 x25 x26 x27 x28 x29 x30 x31 x32 x33 x34 x35 x36 x37 x38 x39 x40 x41 x42 x43 x44 x45 x46 x47 x48 x49 x50 x51 x52 x53 x54 x55 v1 v3 v5 v7 v9 v11 v13 v15 v17 v19 v21 v23), df, h26⟩)⟩))⟩))⟩))⟩))⟩))⟩))⟩))⟩))⟩))⟩))⟩))⟩))⟩)) := by kernel_rfl
attribute [push_cast] sh_ir12_s1
end
end Go.Proofs.Ytohdgkmgkcoilaa

namespace Go.Proofs.Ytohdgkmgkcoilaa
open Go Go.RowKit Go.Ev
noncomputable section
set_option linter.unusedSimpArgs false
set_option linter.unusedVariables false
variable (G : Nat) (h : Heap)

theorem torn_w (xs : List Int) (aa : Option Addr) (ca : Nat) (hsa : Sl h aa (bv xs)) (hba : ∀ b, blk aa b → b < h.next) (bs : List Int) (ab : Option Addr) (cb : Nat) (hsb : Sl h ab (bv bs)) (hbb : ∀ b, blk ab b → b < h.next) (keep : Int) :
    CallE (pp G) 12 [.slice aa xs.length ca, .slice ab bs.length cb, .int .i64 keep] h (fun v h' => v = .bool true) := by
  refine CallE.fir4 (good G) fir12 rfl rfl (F68_arr ..) fun hlo => ?_
  rw [sh_ir12]
  simp (disch := first | omega | (refine id ?_; simp only [push_cast]; done) | (refine id ?_; simp only [push_cast]; omega)) only [push_cast, Nat.reduceAdd, Nat.reduceMul, Nat.reduceSub, Nat.reduceLT, Nat.reduceEqDiff, Nat.reduceLeDiff, Int.reduceToNat, reduceCtorEq, Int.reduceLT, Int.reduceLE, Int.reduceAdd, Int.reduceSub, Int.reduceMul, Int.reduceNeg, Int.reduceEq]
  refine CallE.to (known_w G _) ?_
  rintro _ _ ⟨rfl, e⟩
  rw [e]
  clear e
  by_cases h1 : (60 : Int) < xs.length
  · simp (disch := first | omega | (refine id ?_; simp only [push_cast]; done) | (refine id ?_; simp only [push_cast]; omega)) only [push_cast, Nat.reduceAdd, Nat.reduceMul, Nat.reduceSub, Nat.reduceLT, Nat.reduceEqDiff, Nat.reduceLeDiff, Int.reduceToNat, reduceCtorEq, Int.reduceLT, Int.reduceLE, Int.reduceAdd, Int.reduceSub, Int.reduceMul, Int.reduceNeg, Int.reduceEq, Bool.not_true, h1]
  by_cases h2 : (60 : Int) < bs.length
  · simp (disch := first | omega | (refine id ?_; simp only [push_cast]; done) | (refine id ?_; simp only [push_cast]; omega)) only [push_cast, Nat.reduceAdd, Nat.reduceMul, Nat.reduceSub, Nat.reduceLT, Nat.reduceEqDiff, Nat.reduceLeDiff, Int.reduceToNat, reduceCtorEq, Int.reduceLT, Int.reduceLE, Int.reduceAdd, Int.reduceSub, Int.reduceMul, Int.reduceNeg, Int.reduceEq, Bool.not_true, h1, h2]
  simp (disch := first | omega | (refine id ?_; simp only [push_cast]; done) | (refine id ?_; simp only [push_cast]; omega)) only [push_cast, Nat.reduceAdd, Nat.reduceMul, Nat.reduceSub, Nat.reduceLT, Nat.reduceEqDiff, Nat.reduceLeDiff, Int.reduceToNat, reduceCtorEq, Int.reduceLT, Int.reduceLE, Int.reduceAdd, Int.reduceSub, Int.reduceMul, Int.reduceNeg, Int.reduceEq, Bool.not_true, h1, h2]
  refine CallE.to (new_w G _ 1000) ?_
  rintro _ h3 ⟨rfl, hl3, hg3, hn3⟩
  simp (disch := first | omega | (refine id ?_; simp only [push_cast]; done) | (refine id ?_; simp only [push_cast]; omega)) only [push_cast, Nat.reduceAdd, Nat.reduceMul, Nat.reduceSub, Nat.reduceLT, Nat.reduceEqDiff, Nat.reduceLeDiff, Int.reduceToNat, reduceCtorEq, Int.reduceLT, Int.reduceLE, Int.reduceAdd, Int.reduceSub, Int.reduceMul, Int.reduceNeg, Int.reduceEq]
  have hsa3 := Sl.grew hsa hg3 fun b hb _ => ⟨hba b hb, fun h => h⟩
  refine CallE.to (append_w G _ hl3 (by omega) xs aa ca hsa3 (by omega) fun b hb => ?_) ?_
  · have := hba b hb
    refine ⟨by omega, fun hx => ?_⟩
    rcases hx with rfl | ⟨o, s, hx⟩
    · omega
    · cases hx
  rintro v h4 ⟨yes4, _⟩
  obtain ⟨rfl, a4, c4, hl4, hg4, hb4⟩ := yes4 (by rw [List.length_nil]; omega)
  clear yes4
  rw [List.nil_append] at hl4
  have hn4 := hg4.next
  have hlow3 : ∀ b, LogB h.next none b → h.next ≤ b := fun b hb => by
    rcases hb with rfl | ⟨o, s, hx⟩
    · exact Nat.le_refl _
    · cases hx
  have hsb4 := Sl.grew (Sl.grew hsb hg3 fun b hb _ => ⟨hbb b hb, fun h => h⟩) hg4 fun b hb _ => ⟨by have := hbb b hb; omega, fun hx => by have := hbb b hb; have := hlow3 b hx; omega⟩
  have hlow4 : ∀ b, LogB h.next a4 b → h.next ≤ b := fun b hb => by
    rcases hb with rfl | hb
    · exact Nat.le_refl _
    · rcases hb4 b hb with ⟨o, s, hx⟩ | hx
      · cases hx
      · omega
  have hlen4 : (beL xs.length 4 ++ xs).length = 4 + xs.length := by rw [List.length_append, beL_len]
  simp (disch := first | omega | (refine id ?_; simp only [push_cast]; done) | (refine id ?_; simp only [push_cast]; omega)) only [push_cast, Nat.reduceAdd, Nat.reduceMul, Nat.reduceSub, Nat.reduceLT, Nat.reduceEqDiff, Nat.reduceLeDiff, Int.reduceToNat, reduceCtorEq, Int.reduceLT, Int.reduceLE, Int.reduceAdd, Int.reduceSub, Int.reduceMul, Int.reduceNeg, Int.reduceEq]
  refine CallE.to (append_w G _ hl4 (by omega) bs ab cb hsb4 (by omega) fun b hb => ?_) ?_
  · have := hbb b hb
    exact ⟨by omega, fun hx => by have := hlow4 b hx; omega⟩
  rintro v h5 ⟨yes5, _⟩
  obtain ⟨rfl, a5, c5, hl5, hg5, hb5⟩ := yes5 (by rw [hlen4]; omega)
  clear yes5
  have hw1 : IntKind.i64.wrap ((xs.length : Int) + bs.length) = xs.length + bs.length := wrap_i64 (by omega) (by omega)
  have hw2 : IntKind.i64.wrap ((xs.length : Int) + bs.length + 12) = xs.length + bs.length + 12 := wrap_i64 (by omega) (by omega)
  simp (disch := first | omega | (refine id ?_; simp only [push_cast]; done) | (refine id ?_; simp only [push_cast]; omega)) only [push_cast, Nat.reduceAdd, Nat.reduceMul, Nat.reduceSub, Nat.reduceLT, Nat.reduceEqDiff, Nat.reduceLeDiff, Int.reduceToNat, reduceCtorEq, Int.reduceLT, Int.reduceLE, Int.reduceAdd, Int.reduceSub, Int.reduceMul, Int.reduceNeg, Int.reduceEq, hw1, hw2]
  refine CallE.to (within_w G _ keep ((xs.length : Int) + bs.length + 12) (by omega) (by omega)) ?_
  rintro _ _ ⟨rfl, e⟩
  rw [e]
  clear e
  have hr := Wi_range keep ((xs.length : Int) + bs.length + 12) (by omega)
  obtain ⟨k, hk⟩ : ∃ k : Nat, Wi keep ((xs.length : Int) + bs.length + 12) = (k : Int) := ⟨(Wi keep ((xs.length : Int) + bs.length + 12)).toNat, by omega⟩
  rw [hk] at hr ⊢
  have henc : beL xs.length 4 ++ xs ++ beL bs.length 4 ++ bs = enc [xs, bs] := by simp [enc, encR]
  rw [henc] at hl5
  have hel : (enc [xs, bs]).length = xs.length + bs.length + 8 := by
    rw [← henc]
    simp only [List.length_append, beL_len]
    omega
  simp (disch := first | omega | (refine id ?_; simp only [push_cast]; done) | (refine id ?_; simp only [push_cast]; omega)) only [push_cast, Nat.reduceAdd, Nat.reduceMul, Nat.reduceSub, Nat.reduceLT, Nat.reduceEqDiff, Nat.reduceLeDiff, Int.reduceToNat, reduceCtorEq, Int.reduceLT, Int.reduceLE, Int.reduceAdd, Int.reduceSub, Int.reduceMul, Int.reduceNeg, Int.reduceEq]
  refine CallE.to (crash_w G _ hl5 (by omega) k) ?_
  rintro v h6 ⟨⟨q, a6, c6, rfl, hl6, hb6⟩, hg6⟩
  obtain ⟨e, he⟩ : ∃ e, endN 0 (enc [xs, bs]).length k = e := ⟨_, rfl⟩
  have he2 : e = min k (xs.length + bs.length + 8) := by rw [← he, hel]; unfold endN; omega
  rw [he] at hl6
  -- how many are whole
  generalize hws : wholes e [xs, bs] = ws at hl6
  have hwl : (ws.length : Int) = if (xs.length : Int) + bs.length + 8 ≤ k then 2 else if (xs.length : Int) + 4 ≤ k then 1 else 0 := by
    rw [← hws]
    simp only [wholes]
    by_cases q1 : 4 + xs.length ≤ e
    · rw [if_pos q1]
      by_cases q2 : 4 + bs.length ≤ e - (4 + xs.length)
      · rw [if_pos q2, if_pos (by omega)]; rfl
      · rw [if_neg q2, if_neg (by omega), if_pos (by omega)]; rfl
    · rw [if_neg q1, if_neg (by omega), if_neg (by omega)]; rfl
  have hw3 : IntKind.i64.wrap ((xs.length : Int) + 4) = xs.length + 4 := wrap_i64 (by omega) (by omega)
  have hw4 : IntKind.i64.wrap ((xs.length : Int) + bs.length + 8) = xs.length + bs.length + 8 := wrap_i64 (by omega) (by omega)
  have tor : Torn [] := .inl (by decide)
  by_cases q1 : (xs.length : Int) + 4 ≤ k
  · by_cases q2 : (xs.length : Int) + bs.length + 8 ≤ k
    · rw [if_pos q2] at hwl
      simp (disch := first | omega | (refine id ?_; simp only [push_cast]; done) | (refine id ?_; simp only [push_cast]; omega)) only [push_cast, Nat.reduceAdd, Nat.reduceMul, Nat.reduceSub, Nat.reduceLT, Nat.reduceEqDiff, Nat.reduceLeDiff, Int.reduceToNat, reduceCtorEq, Int.reduceLT, Int.reduceLE, Int.reduceAdd, Int.reduceSub, Int.reduceMul, Int.reduceNeg, Int.reduceEq, hw1, hw3, hw4, q1, q2]
      refine CallE.to (records_w G _ hl6 (by omega) ws [] (List.append_nil _).symm tor) ?_
      rintro v h7 ⟨⟨a7, c7, rfl, _⟩, hg7⟩
      have hl7 := hl6.grew hg7 fun _ _ h => h
      simp (disch := first | omega | (refine id ?_; simp only [push_cast]; done) | (refine id ?_; simp only [push_cast]; omega)) only [push_cast, Nat.reduceAdd, Nat.reduceMul, Nat.reduceSub, Nat.reduceLT, Nat.reduceEqDiff, Nat.reduceLeDiff, Int.reduceToNat, reduceCtorEq, Int.reduceLT, Int.reduceLE, Int.reduceAdd, Int.reduceSub, Int.reduceMul, Int.reduceNeg, Int.reduceEq, hwl]
      refine CallE.to (sure_w G _ hl7) ?_
      rintro _ _ ⟨rfl, e⟩
      rw [e]
      clear e
      simp (disch := first | omega | (refine id ?_; simp only [push_cast]; done) | (refine id ?_; simp only [push_cast]; omega)) only [push_cast, Nat.reduceAdd, Nat.reduceMul, Nat.reduceSub, Nat.reduceLT, Nat.reduceEqDiff, Nat.reduceLeDiff, Int.reduceToNat, reduceCtorEq, Int.reduceLT, Int.reduceLE, Int.reduceAdd, Int.reduceSub, Int.reduceMul, Int.reduceNeg, Int.reduceEq, hwl]
      refine CallE.to (len_w G _ hl7) ?_
      rintro _ _ ⟨rfl, e⟩
      rw [e]
      clear e
      simp (disch := first | omega | (refine id ?_; simp only [push_cast]; done) | (refine id ?_; simp only [push_cast]; omega)) only [push_cast, Nat.reduceAdd, Nat.reduceMul, Nat.reduceSub, Nat.reduceLT, Nat.reduceEqDiff, Nat.reduceLeDiff, Int.reduceToNat, reduceCtorEq, Int.reduceLT, Int.reduceLE, Int.reduceAdd, Int.reduceSub, Int.reduceMul, Int.reduceNeg, Int.reduceEq, hwl]
    · rw [if_neg q2, if_pos q1] at hwl
      simp (disch := first | omega | (refine id ?_; simp only [push_cast]; done) | (refine id ?_; simp only [push_cast]; omega)) only [push_cast, Nat.reduceAdd, Nat.reduceMul, Nat.reduceSub, Nat.reduceLT, Nat.reduceEqDiff, Nat.reduceLeDiff, Int.reduceToNat, reduceCtorEq, Int.reduceLT, Int.reduceLE, Int.reduceAdd, Int.reduceSub, Int.reduceMul, Int.reduceNeg, Int.reduceEq, hw1, hw3, hw4, q1, q2]
      refine CallE.to (records_w G _ hl6 (by omega) ws [] (List.append_nil _).symm tor) ?_
      rintro v h7 ⟨⟨a7, c7, rfl, _⟩, hg7⟩
      have hl7 := hl6.grew hg7 fun _ _ h => h
      simp (disch := first | omega | (refine id ?_; simp only [push_cast]; done) | (refine id ?_; simp only [push_cast]; omega)) only [push_cast, Nat.reduceAdd, Nat.reduceMul, Nat.reduceSub, Nat.reduceLT, Nat.reduceEqDiff, Nat.reduceLeDiff, Int.reduceToNat, reduceCtorEq, Int.reduceLT, Int.reduceLE, Int.reduceAdd, Int.reduceSub, Int.reduceMul, Int.reduceNeg, Int.reduceEq, hwl]
      refine CallE.to (sure_w G _ hl7) ?_
      rintro _ _ ⟨rfl, e⟩
      rw [e]
      clear e
      simp (disch := first | omega | (refine id ?_; simp only [push_cast]; done) | (refine id ?_; simp only [push_cast]; omega)) only [push_cast, Nat.reduceAdd, Nat.reduceMul, Nat.reduceSub, Nat.reduceLT, Nat.reduceEqDiff, Nat.reduceLeDiff, Int.reduceToNat, reduceCtorEq, Int.reduceLT, Int.reduceLE, Int.reduceAdd, Int.reduceSub, Int.reduceMul, Int.reduceNeg, Int.reduceEq, hwl]
      refine CallE.to (len_w G _ hl7) ?_
      rintro _ _ ⟨rfl, e⟩
      rw [e]
      clear e
      simp (disch := first | omega | (refine id ?_; simp only [push_cast]; done) | (refine id ?_; simp only [push_cast]; omega)) only [push_cast, Nat.reduceAdd, Nat.reduceMul, Nat.reduceSub, Nat.reduceLT, Nat.reduceEqDiff, Nat.reduceLeDiff, Int.reduceToNat, reduceCtorEq, Int.reduceLT, Int.reduceLE, Int.reduceAdd, Int.reduceSub, Int.reduceMul, Int.reduceNeg, Int.reduceEq, hwl]
  · have q2 : ¬ (xs.length : Int) + bs.length + 8 ≤ k := by omega
    rw [if_neg q2, if_neg q1] at hwl
    simp (disch := first | omega | (refine id ?_; simp only [push_cast]; done) | (refine id ?_; simp only [push_cast]; omega)) only [push_cast, Nat.reduceAdd, Nat.reduceMul, Nat.reduceSub, Nat.reduceLT, Nat.reduceEqDiff, Nat.reduceLeDiff, Int.reduceToNat, reduceCtorEq, Int.reduceLT, Int.reduceLE, Int.reduceAdd, Int.reduceSub, Int.reduceMul, Int.reduceNeg, Int.reduceEq, hw1, hw3, hw4, q1, q2]
    refine CallE.to (records_w G _ hl6 (by omega) ws [] (List.append_nil _).symm tor) ?_
    rintro v h7 ⟨⟨a7, c7, rfl, _⟩, hg7⟩
    have hl7 := hl6.grew hg7 fun _ _ h => h
    simp (disch := first | omega | (refine id ?_; simp only [push_cast]; done) | (refine id ?_; simp only [push_cast]; omega)) only [push_cast, Nat.reduceAdd, Nat.reduceMul, Nat.reduceSub, Nat.reduceLT, Nat.reduceEqDiff, Nat.reduceLeDiff, Int.reduceToNat, reduceCtorEq, Int.reduceLT, Int.reduceLE, Int.reduceAdd, Int.reduceSub, Int.reduceMul, Int.reduceNeg, Int.reduceEq, hwl]
    refine CallE.to (sure_w G _ hl7) ?_
    rintro _ _ ⟨rfl, e⟩
    rw [e]
    clear e
    simp (disch := first | omega | (refine id ?_; simp only [push_cast]; done) | (refine id ?_; simp only [push_cast]; omega)) only [push_cast, Nat.reduceAdd, Nat.reduceMul, Nat.reduceSub, Nat.reduceLT, Nat.reduceEqDiff, Nat.reduceLeDiff, Int.reduceToNat, reduceCtorEq, Int.reduceLT, Int.reduceLE, Int.reduceAdd, Int.reduceSub, Int.reduceMul, Int.reduceNeg, Int.reduceEq, hwl]
    refine CallE.to (len_w G _ hl7) ?_
    rintro _ _ ⟨rfl, e⟩
    rw [e]
    clear e
    simp (disch := first | omega | (refine id ?_; simp only [push_cast]; done) | (refine id ?_; simp only [push_cast]; omega)) only [push_cast, Nat.reduceAdd, Nat.reduceMul, Nat.reduceSub, Nat.reduceLT, Nat.reduceEqDiff, Nat.reduceLeDiff, Int.reduceToNat, reduceCtorEq, Int.reduceLT, Int.reduceLE, Int.reduceAdd, Int.reduceSub, Int.reduceMul, Int.reduceNeg, Int.reduceEq, hwl]
end
end Go.Proofs.Ytohdgkmgkcoilaa

namespace Go.Proofs.Ytohdgkmgkcoilaa.logTorn
open Go.ChangeShapes Go.WideShapes Go.ChangeAt Go.RowKit Go.Ev
set_option linter.unusedVariables false
set_option maxRecDepth 100000

theorem own : ownKnob Try.prog.godebug = none := by kernel_rfl
theorem laid : laidOutB Try.prog = true := by kernel_rfl

theorem lifted (os : Os) (started : os.Started) (H : Type) (enc : TypeId × Value → H) :
    ReturnsInHanded {} Try.checked os 12 .any (Rows.logTornSpec.pre6 enc Try.prog Try.f12 Rows.logTornRow.domain false) (Rows.logTornSpec.post enc Try.prog Try.f12 false true false false) := by
  refine returnsInHanded_of_change_sized (C := Try.checked) own started (by kernel_rfl) Try.func12
    (ChangeSpec.witness6 (enc := enc) (C := Try.checked) false ⟨#[], #[.slice none 0 0, .slice none 0 0, .int .i64 0], []⟩ 8 (by kernel_rfl) (by kernel_rfl) (by kernel_rfl) (by kernel_rfl)) ?_
  intro W base args ds gs before hval0 hW hcnd hsz _
  have hval : ∀ (j : Nat) t v, Try.f12.params[j]? = some t → args[j]? = some v → Value.okWide Try.prog W .any base t v := hval0
  have hW' := hW
  have hlt := hW.lt
  obtain ⟨p, q, hA0, hV, rfl, hfz, hnd⟩ := hW
  have hA : DataW.TrodAll enc Try.prog W 0 (fun _ => true) true Try.f12.params.toList args.toList ds p := hA0
  rw [Try.params12] at hA hval
  obtain ⟨v0, vs0, d0, ds0, p0, q0, hargs, rfl, rfl, h0, r0⟩ := trodAll_cons hA
  obtain ⟨v1, vs1, d1, ds1, p1, q1, rfl, rfl, rfl, h1, r1⟩ := trodAll_cons r0
  obtain ⟨v2, vs2, d2, ds2, p2, q2, rfl, rfl, rfl, h2, r2⟩ := trodAll_cons r1
  obtain ⟨rfl, rfl, rfl⟩ := trodAll_nil r2
  obtain rfl : args = #[v0, v1, v2] := by cases args; simp_all
  obtain ⟨rfl, rfl⟩ := trodVars_none hV
  have h0' := h0
  have h1' := h1
  have h2' := h2
  obtain ⟨xs0, a0, c0, rfl, sl0, bl0, pl0, sc0⟩ := open_bs (hval 0 23 v0 rfl rfl) h0 (fun elems spare hd => sized_slice hsz (j := 0) (t := 23) (e := 5) (elems := elems) (spare := spare) rfl (by cases hd; rfl) Try.underlying23)
  obtain ⟨xs1, a1, c1, rfl, sl1, bl1, pl1, sc1⟩ := open_bs (hval 1 23 v1 rfl rfl) h1 (fun elems spare hd => sized_slice hsz (j := 1) (t := 23) (e := 5) (elems := elems) (spare := spare) rfl (by cases hd; rfl) Try.underlying23)
  obtain ⟨n2, rfl, lo2, hi2, _⟩ := open_int Try.underlying3 (hval 2 3 v2 rfl rfl) h2
  have hrun : Calls Try.prog 12 #[.slice a0 xs0.length c0, .slice a1 xs1.length c1, .int .i64 n2] W fun e W' => e = .returned (.bool true) ∧ Below W.heap.size W W' :=
    calls_of_callE (P := Try.prog) (NG := 0) (s := fun _ => 0) (t := fun _ => .empty) (Nat.zero_le _) (torn_w W.heap.size (baseH W) xs0 a0 c0 sl0 bl0 xs1 a1 c1 sl1 bl1 n2) (by simp only [plL, pl, pl0, pl1, Bool.and_true]) (by simp only [scL, sc, sc0, sc1, Bool.and_true]) rfl
  refine hrun.mono fun e W' ⟨he, bel⟩ => ?_
  subst he
  exact ⟨_, rfl, _, _, _, [], _, [], hW', trodAll_mk1 (shut_bool Try.underlying4 _), trodAll_cons_mk (Below.trod laid (by kernel_rfl) (of_decide_eq_true (by kernel_rfl)) h0' bel (fun x hx => hlt x (by simp [hx]))) (trodAll_cons_mk (Below.trod laid (by kernel_rfl) (of_decide_eq_true (by kernel_rfl)) h1' bel (fun x hx => hlt x (by simp [hx]))) (trodAll_cons_mk (Below.trod laid (by kernel_rfl) (of_decide_eq_true (by kernel_rfl)) h2' bel (fun x hx => hlt x (by simp [hx]))) (trodAll_mk0))), rfl, bel.frame _, fun h => by cases h⟩

theorem over : Rows.logTornRow.holds Try.pinned (OpenSpec.ofChange Rows.logTornSpec) :=
  OpenClaim.holds_of_wide 12 Try.f12 rfl rfl rfl rfl rfl rfl rfl ⟨rfl, rfl, rfl, rfl, rfl⟩ rfl rfl rfl rfl rfl (by kernel_rfl) Try.func12 (by kernel_rfl)
    (of_decide_eq_true (by kernel_rfl)) (by unfold Func.isWrapper; first | (rw [if_pos (by decide +kernel)]; kernel_rfl) | (rw [if_neg (by decide +kernel)]; exact ⟨rfl, rfl⟩))
    (fun os started H enc _ => lifted os started H enc)

theorem proved : Rows.LogTornSaid :=
  over
end Go.Proofs.Ytohdgkmgkcoilaa.logTorn
