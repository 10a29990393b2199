/-
  LogSyncs: for every two rows of bytes the law returns true: made sure twice is made sure once; what comes behind is not sure.
  Condition: none.
-/
import Derived.Test.YtohdgkmgkcoilaaLgd
import Derived.Test.YtohdgkmgkcoilaaLgk
import Derived.Test.YtohdgkmgkcoilaaLgl
import Derived.Test.YtohdgkmgkcoilaaRows
import Derived.ProofKit
import Derived.OpenShut
import Derived.Carry
import Derived.SizedLaws
import Derived.ChangeMaps5
set_option linter.unusedSimpArgs false
set_option linter.unusedVariables false
namespace Go.Proofs.Ytohdgkmgkcoilaa
open Go.RowKit Go.Ev
set_option linter.unusedVariables false
set_option maxRecDepth 100000
noncomputable section
def F75 (x0 x1 x2 x3 x4 x5 x6 x7 x8 x9 x10 x11 x12 x13 x14 x15 x16 x17 x18 x19 x20 x21 x22 x23 x24 x25 x26 x27 x28 x29 x30 x31 x32 x33 x34 x35 x36 x37 x38 x39 x40 x41 x42 x43 x44 x45 x46 x47 x48 x49 x50 x51 x52 x53 x54 x55 x56 x57 x58 x59 x60 x61 x62 x63 x64 x65 x66 x67 x68 x69 x70 x71 x72 x73 x74 : Value) : VT := ⟨75, (.node (.node (.node (.node (.node (.node (.node .nil x63 .nil) x31 .nil) x15 (.node .nil x47 .nil)) x7 (.node (.node (.node .nil x71 .nil) x39 .nil) x23 (.node .nil x55 .nil))) x3 (.node (.node (.node (.node .nil x67 .nil) x35 .nil) x19 (.node .nil x51 .nil)) x11 (.node (.node .nil x43 .nil) x27 (.node .nil x59 .nil)))) x1 (.node (.node (.node (.node (.node .nil x65 .nil) x33 .nil) x17 (.node .nil x49 .nil)) x9 (.node (.node (.node .nil x73 .nil) x41 .nil) x25 (.node .nil x57 .nil))) x5 (.node (.node (.node (.node .nil x69 .nil) x37 .nil) x21 (.node .nil x53 .nil)) x13 (.node (.node .nil x45 .nil) x29 (.node .nil x61 .nil))))) x0 (.node (.node (.node (.node (.node (.node .nil x64 .nil) x32 .nil) x16 (.node .nil x48 .nil)) x8 (.node (.node (.node .nil x72 .nil) x40 .nil) x24 (.node .nil x56 .nil))) x4 (.node (.node (.node (.node .nil x68 .nil) x36 .nil) x20 (.node .nil x52 .nil)) x12 (.node (.node .nil x44 .nil) x28 (.node .nil x60 .nil)))) x2 (.node (.node (.node (.node (.node .nil x66 .nil) x34 .nil) x18 (.node .nil x50 .nil)) x10 (.node (.node (.node .nil x74 .nil) x42 .nil) x26 (.node .nil x58 .nil))) x6 (.node (.node (.node (.node .nil x70 .nil) x38 .nil) x22 (.node .nil x54 .nil)) x14 (.node (.node .nil x46 .nil) x30 (.node .nil x62 .nil))))))⟩
theorem F75_arr (x0 x1 x2 x3 x4 x5 x6 x7 x8 x9 x10 x11 x12 x13 x14 x15 x16 x17 x18 x19 x20 x21 x22 x23 x24 x25 x26 x27 x28 x29 x30 x31 x32 x33 x34 x35 x36 x37 x38 x39 x40 x41 x42 x43 x44 x45 x46 x47 x48 x49 x50 x51 x52 x53 x54 x55 x56 x57 x58 x59 x60 x61 x62 x63 x64 x65 x66 x67 x68 x69 x70 x71 x72 x73 x74 : Value) : (F75 x0 x1 x2 x3 x4 x5 x6 x7 x8 x9 x10 x11 x12 x13 x14 x15 x16 x17 x18 x19 x20 x21 x22 x23 x24 x25 x26 x27 x28 x29 x30 x31 x32 x33 x34 x35 x36 x37 x38 x39 x40 x41 x42 x43 x44 x45 x46 x47 x48 x49 x50 x51 x52 x53 x54 x55 x56 x57 x58 x59 x60 x61 x62 x63 x64 x65 x66 x67 x68 x69 x70 x71 x72 x73 x74).arr = ⟨[x0, x1, x2, x3, x4, x5, x6, x7, x8, x9, x10, x11, x12, x13, x14, x15, x16, x17, x18, x19, x20, x21, x22, x23, x24, x25, x26, x27, x28, x29, x30, x31, x32, x33, x34, x35, x36, x37, x38, x39, x40, x41, x42, x43, x44, x45, x46, x47, x48, x49, x50, x51, x52, x53, x54, x55, x56, x57, x58, x59, x60, x61, x62, x63, x64, x65, x66, x67, x68, x69, x70, x71, x72, x73, x74]⟩ := by kernel_rfl
theorem F75_g4 (x0 x1 x2 x3 x4 x5 x6 x7 x8 x9 x10 x11 x12 x13 x14 x15 x16 x17 x18 x19 x20 x21 x22 x23 x24 x25 x26 x27 x28 x29 x30 x31 x32 x33 x34 x35 x36 x37 x38 x39 x40 x41 x42 x43 x44 x45 x46 x47 x48 x49 x50 x51 x52 x53 x54 x55 x56 x57 x58 x59 x60 x61 x62 x63 x64 x65 x66 x67 x68 x69 x70 x71 x72 x73 x74 : Value) : (F75 x0 x1 x2 x3 x4 x5 x6 x7 x8 x9 x10 x11 x12 x13 x14 x15 x16 x17 x18 x19 x20 x21 x22 x23 x24 x25 x26 x27 x28 x29 x30 x31 x32 x33 x34 x35 x36 x37 x38 x39 x40 x41 x42 x43 x44 x45 x46 x47 x48 x49 x50 x51 x52 x53 x54 x55 x56 x57 x58 x59 x60 x61 x62 x63 x64 x65 x66 x67 x68 x69 x70 x71 x72 x73 x74).get 4 = x4 := by kernel_rfl
attribute [push_cast] F75_g4
theorem sh_ir11 (G : Nat) (h : Heap) (a0 a1 : Value) (R : Value → Heap → Prop) : vc3 (pp G) none ir11 ⟨(F75 a0 a1 undef undef undef undef undef undef undef undef undef undef undef undef undef undef undef undef undef undef undef undef undef undef undef undef undef undef undef undef undef undef undef undef undef undef undef undef undef undef undef undef undef undef undef undef undef undef undef undef undef undef undef undef undef undef undef undef undef undef undef undef undef undef undef undef undef undef undef undef undef undef undef undef undef), [], h⟩ (finR Try.prog [(.tmp 4)] R) = (oT (some (.bool false)) none h (@kk ⟨(fun v1 h2 => CallV (pp G) (.func (.func 13) #[] #[]) [] h2 (@kk ⟨(fun v3 h4 => oT (unV Try.prog .not v3) none h4 (@kk ⟨(fun v5 h6 => vcond v5 (@kb ⟨(oT (some (.bool false)) none h6 (@kk ⟨(fun v7 h8 => R v7 h8)⟩))⟩) (@kb ⟨(oT (some a0) none h6 (@kk ⟨(fun v9 h10 => oT (lnB (lnT Try.prog 23) v9) none h10 (@kk ⟨(fun v11 h12 => oT (binPure Try.prog .gtr 3 (.tmp 12) (.const (.int .i64 100)) v11 (.int .i64 100)) none h12 (@kk ⟨(fun v13 h14 => oT (some v13) none h14 (@kk ⟨(fun v15 h16 => gT v15 false (some a1) none h16 (@kk ⟨(fun v17 h18 => gT v15 false (lnB (lnT Try.prog 23) v17) none h18 (@kk ⟨(fun v19 h20 => gT v15 false (binPure Try.prog .gtr 3 (.tmp 16) (.const (.int .i64 100)) v19 (.int .i64 100)) none h20 (@kk ⟨(fun v21 h22 => oT (pickV v15 (.bool true) v21) none h22 (@kk ⟨(fun v23 h24 => vcond v23 (@kb ⟨(oT (some (.bool true)) none h24 (@kk ⟨(fun v25 h26 => R v25 h26)⟩))⟩) (@kb ⟨(CallV (pp G) (.func (.func 15) #[] #[]) [(.int .i64 1000)] h24 (@kk ⟨(fun v27 h28 => oT (some v27) none h28 (@kk ⟨(fun v29 h30 => oT (some v29) none h30 (@kk ⟨(fun v31 h32 => oT (binPure Try.prog .eql 26 (.tmp 20) (.const (.pointer none)) v31 (.pointer none)) none h32 (@kk ⟨(fun v33 h34 => vcond v33 (@kb ⟨(oT (some (.bool false)) none h34 (@kk ⟨(fun v35 h36 => R v35 h36)⟩))⟩) (@kb ⟨(oT (some v29) none h34 (@kk ⟨(fun v37 h38 => oT (some a0) none h38 (@kk ⟨(fun v39 h40 => CallV (pp G) (.func (.func 21) #[] #[]) [v37, v39] h40 (@kk ⟨(fun v41 h42 => oT (some v29) none h42 (@kk ⟨(fun v43 h44 => CallV (pp G) (.func (.func 22) #[] #[]) [v43] h44 (@kk ⟨(fun v45 h46 => oT (some v29) none h46 (@kk ⟨(fun v47 h48 => CallV (pp G) (.func (.func 22) #[] #[]) [v47] h48 (@kk ⟨(fun v49 h50 => oT (some v29) none h50 (@kk ⟨(fun v51 h52 => CallV (pp G) (.func (.func 24) #[] #[]) [v51] h52 (@kk ⟨(fun v53 h54 => oT (some v53) none h54 (@kk ⟨(fun v55 h56 => oT (some v29) none h56 (@kk ⟨(fun v57 h58 => oT (some a1) none h58 (@kk ⟨(fun v59 h60 => CallV (pp G) (.func (.func 21) #[] #[]) [v57, v59] h60 (@kk ⟨(fun v61 h62 => oT (some v29) none h62 (@kk ⟨(fun v63 h64 => CallV (pp G) (.func (.func 19) #[] #[]) [v63, (.int .i64 0)] h64 (@kk ⟨(fun v65 h66 => oT (some v65) none h66 (@kk ⟨(fun v67 h68 => oT (some v67) none h68 (@kk ⟨(fun v69 h70 => oT (binPure Try.prog .eql 26 (.tmp 36) (.const (.pointer none)) v69 (.pointer none)) none h70 (@kk ⟨(fun v71 h72 => vcond v71 (@kb ⟨(oT (some (.bool false)) none h72 (@kk ⟨(fun v73 h74 => R v73 h74)⟩))⟩) (@kb ⟨(oT (some v67) none h72 (@kk ⟨(fun v75 h76 => CallV (pp G) (.func (.func 23) #[] #[]) [v75] h76 (@kk ⟨(fun v77 h78 => oT (some v77) none h78 (@kk ⟨(fun v79 h80 => oP (some v55) h80 (@kk ⟨(fun v81 _ => oP (some a0) h80 (@kk ⟨(fun v82 _ => oP (lnB (lnT Try.prog 23) v82) h80 (@kk ⟨(fun v83 _ => oP (binPure Try.prog .add 3 (.tmp 42) (.const (.int .i64 4)) v83 (.int .i64 4)) h80 (@kk ⟨(fun v84 _ => oP (binPure Try.prog .eql 3 (.tmp 40) (.tmp 43) v81 v84) h80 (@kk ⟨(fun v85 _ => oP (some v85) h80 (@kk ⟨(fun v86 _ => gP v86 true (some v29) h80 (@kk ⟨(fun v87 _ => gP v86 true (some v55) h80 (@kk ⟨(fun v88 _ => gCk (pp G) v86 true (.func (.func 24) #[] #[]) [v87] [6, 5, 5] [] h80 (@kc ⟨(fun v89 h90 c91 => keptK c91 (@kb ⟨(gP v86 true (binPure Try.prog .eql 3 (.tmp 47) (.tmp 48) v89 v88) h90 (@kk ⟨(fun v92 _ => oP (pickV v86 v92 (.bool false)) h90 (@kk ⟨(fun v93 _ => oP (some v93) h90 (@kk ⟨(fun v94 _ => gP v94 true (some v29) h90 (@kk ⟨(fun v95 _ => gP v94 true (some v55) h90 (@kk ⟨(fun v96 _ => gP v94 true (some a1) h90 (@kk ⟨(fun v97 _ => gP v94 true (lnB (lnT Try.prog 23) v97) h90 (@kk ⟨(fun v98 _ => gP v94 true (binPure Try.prog .add 3 (.tmp 54) (.tmp 56) v96 v98) h90 (@kk ⟨(fun v99 _ => gP v94 true (binPure Try.prog .add 3 (.tmp 57) (.const (.int .i64 4)) v99 (.int .i64 4)) h90 (@kk ⟨(fun v100 _ => gCk (pp G) v94 true (.func (.func 25) #[] #[]) [v95] [12, 11, 11] [] h90 (@kc ⟨(fun v101 h102 c103 => keptK c103 (@kb ⟨(gP v94 true (binPure Try.prog .eql 3 (.tmp 53) (.tmp 58) v101 v100) h102 (@kk ⟨(fun v104 _ => oP (pickV v94 v104 (.bool false)) h102 (@kk ⟨(fun v105 _ => oP (some v105) h102 (@kk ⟨(fun v106 _ => gP v106 true (some v79) h102 (@kk ⟨(fun v107 _ => gP v106 true (lnB (lnT Try.prog 35) v107) h102 (@kk ⟨(fun v108 _ => gP v106 true (binPure Try.prog .eql 3 (.tmp 63) (.const (.int .i64 1)) v108 (.int .i64 1)) h102 (@kk ⟨(fun v109 _ => oP (pickV v106 v109 (.bool false)) h102 (@kk ⟨(fun v110 _ => oP (some v110) h102 (@kk ⟨(fun v111 _ => gP v111 true (some v79) h102 (@kk ⟨(fun v112 _ => gP v111 true (iaV (esz Try.prog 35) v112 (.int .i64 0)) h102 (@kk ⟨(fun v113 _ => gRd v111 true (evLoad Try.prog 23 v113 h102) 29 (fun h115 => (evLoad Try.prog 23 v113 h115)) h102 (@ke ⟨(fun v114 e116 => gRd v111 true (cvV Try.prog 23 9 v114 h102) 30 (fun h118 => (cvV Try.prog 23 9 v114 h118)) h102 (@ke ⟨(fun v117 e119 => gP v111 true (some a0) h102 (@kk ⟨(fun v120 _ => gRd v111 true (cvV Try.prog 23 9 v120 h102) 32 (fun h122 => (cvV Try.prog 23 9 v120 h122)) h102 (@ke ⟨(fun v121 e123 => gP v111 true (binPure Try.prog .eql 9 (.tmp 70) (.tmp 72) v117 v121) h102 (@kk ⟨(fun v124 _ => oP (pickV v111 v124 (.bool false)) h102 (@kk ⟨(fun v125 _ => oP (some v125) h102 (@kk ⟨(fun v126 _ => R v126 h102)⟩))⟩))⟩))⟩))⟩))⟩))⟩))⟩))⟩))⟩))⟩))⟩))⟩))⟩))⟩))⟩))⟩))⟩))⟩))⟩))⟩))⟩))⟩))⟩))⟩))⟩))⟩))⟩))⟩))⟩))⟩))⟩))⟩))⟩))⟩))⟩))⟩))⟩))⟩))⟩))⟩))⟩))⟩))⟩))⟩))⟩))⟩))⟩))⟩))⟩))⟩))⟩))⟩))⟩))⟩))⟩))⟩))⟩))⟩))⟩))⟩))⟩))⟩))⟩))⟩))⟩))⟩))⟩))⟩))⟩))⟩))⟩))⟩))⟩))⟩))⟩))⟩))⟩)) := by kernel_rfl
end
end Go.Proofs.Ytohdgkmgkcoilaa

namespace Go.Proofs.Ytohdgkmgkcoilaa
open Go Go.RowKit Go.Ev
noncomputable section
set_option linter.unusedSimpArgs false
set_option linter.unusedVariables false
variable (G : Nat) (h : Heap)

theorem syncs_w (xs : List Int) (aa : Option Addr) (ca : Nat) (hsa : Sl h aa (bv xs)) (hba : ∀ b, blk aa b → b < h.next) (bs : List Int) (ab : Option Addr) (cb : Nat) (hsb : Sl h ab (bv bs)) (hbb : ∀ b, blk ab b → b < h.next) :
    CallE (pp G) 11 [.slice aa xs.length ca, .slice ab bs.length cb] h (fun v h' => v = .bool true) := by
  refine CallE.fir4 (good G) fir11 rfl rfl (F75_arr ..) fun hlo => ?_
  rw [sh_ir11]
  simp (disch := first | omega | (refine id ?_; simp only [push_cast]; done) | (refine id ?_; simp only [push_cast]; omega)) only [push_cast, Nat.reduceAdd, Nat.reduceMul, Nat.reduceSub, Nat.reduceLT, Nat.reduceEqDiff, Nat.reduceLeDiff, Int.reduceToNat, reduceCtorEq, Int.reduceLT, Int.reduceLE, Int.reduceAdd, Int.reduceSub, Int.reduceMul, Int.reduceNeg, Int.reduceEq]
  refine CallE.to (known_w G _) ?_
  rintro _ _ ⟨rfl, e⟩
  rw [e]
  clear e
  by_cases h1 : (100 : Int) < xs.length
  · simp (disch := first | omega | (refine id ?_; simp only [push_cast]; done) | (refine id ?_; simp only [push_cast]; omega)) only [push_cast, Nat.reduceAdd, Nat.reduceMul, Nat.reduceSub, Nat.reduceLT, Nat.reduceEqDiff, Nat.reduceLeDiff, Int.reduceToNat, reduceCtorEq, Int.reduceLT, Int.reduceLE, Int.reduceAdd, Int.reduceSub, Int.reduceMul, Int.reduceNeg, Int.reduceEq, Bool.not_true, h1]
  by_cases h2 : (100 : Int) < bs.length
  · simp (disch := first | omega | (refine id ?_; simp only [push_cast]; done) | (refine id ?_; simp only [push_cast]; omega)) only [push_cast, Nat.reduceAdd, Nat.reduceMul, Nat.reduceSub, Nat.reduceLT, Nat.reduceEqDiff, Nat.reduceLeDiff, Int.reduceToNat, reduceCtorEq, Int.reduceLT, Int.reduceLE, Int.reduceAdd, Int.reduceSub, Int.reduceMul, Int.reduceNeg, Int.reduceEq, Bool.not_true, h1, h2]
  simp (disch := first | omega | (refine id ?_; simp only [push_cast]; done) | (refine id ?_; simp only [push_cast]; omega)) only [push_cast, Nat.reduceAdd, Nat.reduceMul, Nat.reduceSub, Nat.reduceLT, Nat.reduceEqDiff, Nat.reduceLeDiff, Int.reduceToNat, reduceCtorEq, Int.reduceLT, Int.reduceLE, Int.reduceAdd, Int.reduceSub, Int.reduceMul, Int.reduceNeg, Int.reduceEq, Bool.not_true, h1, h2]
  refine CallE.to (new_w G _ 1000) ?_
  rintro _ h3 ⟨rfl, hl3, hg3, hn3⟩
  simp (disch := first | omega | (refine id ?_; simp only [push_cast]; done) | (refine id ?_; simp only [push_cast]; omega)) only [push_cast, Nat.reduceAdd, Nat.reduceMul, Nat.reduceSub, Nat.reduceLT, Nat.reduceEqDiff, Nat.reduceLeDiff, Int.reduceToNat, reduceCtorEq, Int.reduceLT, Int.reduceLE, Int.reduceAdd, Int.reduceSub, Int.reduceMul, Int.reduceNeg, Int.reduceEq]
  have hsa3 := Sl.grew hsa hg3 fun b hb _ => ⟨hba b hb, fun h => h⟩
  refine CallE.to (append_w G _ hl3 (by omega) xs aa ca hsa3 (by omega) fun b hb => ?_) ?_
  · have := hba b hb
    refine ⟨by omega, fun hx => ?_⟩
    rcases hx with rfl | ⟨o, s, hx⟩
    · omega
    · cases hx
  rintro v h4 ⟨yes4, _⟩
  obtain ⟨rfl, a4, c4, hl4, hg4, hb4⟩ := yes4 (by rw [List.length_nil]; omega)
  clear yes4
  rw [List.nil_append] at hl4
  have hn4 := hg4.next
  have hlow3 : ∀ b, LogB h.next none b → h.next ≤ b := fun b hb => by
    rcases hb with rfl | ⟨o, s, hx⟩
    · exact Nat.le_refl _
    · cases hx
  have hlow4 : ∀ b, LogB h.next a4 b → h.next ≤ b := fun b hb => by
    rcases hb with rfl | hb
    · exact Nat.le_refl _
    · rcases hb4 b hb with ⟨o, s, hx⟩ | hx
      · cases hx
      · omega
  have hlen4 : (beL xs.length 4 ++ xs).length = 4 + xs.length := by rw [List.length_append, beL_len]
  simp (disch := first | omega | (refine id ?_; simp only [push_cast]; done) | (refine id ?_; simp only [push_cast]; omega)) only [push_cast, Nat.reduceAdd, Nat.reduceMul, Nat.reduceSub, Nat.reduceLT, Nat.reduceEqDiff, Nat.reduceLeDiff, Int.reduceToNat, reduceCtorEq, Int.reduceLT, Int.reduceLE, Int.reduceAdd, Int.reduceSub, Int.reduceMul, Int.reduceNeg, Int.reduceEq]
  refine CallE.to (sync_w G _ hl4) ?_
  rintro v h5 ⟨rfl, hl5, hg5, hn5⟩
  simp (disch := first | omega | (refine id ?_; simp only [push_cast]; done) | (refine id ?_; simp only [push_cast]; omega)) only [push_cast, Nat.reduceAdd, Nat.reduceMul, Nat.reduceSub, Nat.reduceLT, Nat.reduceEqDiff, Nat.reduceLeDiff, Int.reduceToNat, reduceCtorEq, Int.reduceLT, Int.reduceLE, Int.reduceAdd, Int.reduceSub, Int.reduceMul, Int.reduceNeg, Int.reduceEq]
  refine CallE.to (sync_w G _ hl5) ?_
  rintro v h6 ⟨rfl, hl6, hg6, hn6⟩
  simp (disch := first | omega | (refine id ?_; simp only [push_cast]; done) | (refine id ?_; simp only [push_cast]; omega)) only [push_cast, Nat.reduceAdd, Nat.reduceMul, Nat.reduceSub, Nat.reduceLT, Nat.reduceEqDiff, Nat.reduceLeDiff, Int.reduceToNat, reduceCtorEq, Int.reduceLT, Int.reduceLE, Int.reduceAdd, Int.reduceSub, Int.reduceMul, Int.reduceNeg, Int.reduceEq]
  refine CallE.to (sure_w G _ hl6) ?_
  rintro _ _ ⟨rfl, e⟩
  rw [e]
  clear e
  -- all that was written is the log's alone
  have hgA : Grew h h6 (fun b => h.next ≤ b) := (((Grew.mono hg3 fun _ _ h => h.elim).tr' hg4 fun i hi hx => hlow3 i hx).tr' hg5 fun i hi e => by omega).tr' hg6 fun i hi e => by omega
  have hsa6 : Sl h6 aa (bv xs) := Sl.grew hsa hgA fun b hb _ => ⟨hba b hb, fun hx => by have := hba b hb; omega⟩
  have hsb6 : Sl h6 ab (bv bs) := Sl.grew hsb hgA fun b hb _ => ⟨hbb b hb, fun hx => by have := hbb b hb; omega⟩
  simp (disch := first | omega | (refine id ?_; simp only [push_cast]; done) | (refine id ?_; simp only [push_cast]; omega)) only [push_cast, Nat.reduceAdd, Nat.reduceMul, Nat.reduceSub, Nat.reduceLT, Nat.reduceEqDiff, Nat.reduceLeDiff, Int.reduceToNat, reduceCtorEq, Int.reduceLT, Int.reduceLE, Int.reduceAdd, Int.reduceSub, Int.reduceMul, Int.reduceNeg, Int.reduceEq]
  refine CallE.to (append_w G _ hl6 (by omega) bs ab cb hsb6 (by omega) fun b hb => ?_) ?_
  · have := hbb b hb
    exact ⟨by omega, fun hx => by have := hlow4 b hx; omega⟩
  rintro v h7 ⟨yes7, _⟩
  obtain ⟨rfl, a7, c7, hl7, hg7, hb7⟩ := yes7 (by rw [hlen4]; omega)
  clear yes7
  have henc : beL xs.length 4 ++ xs ++ beL bs.length 4 ++ bs = enc [xs, bs] := by simp [enc, encR]
  rw [henc, hlen4] at hl7
  have hel : (enc [xs, bs]).length = xs.length + bs.length + 8 := by
    rw [← henc]
    simp only [List.length_append, beL_len]
    omega
  simp (disch := first | omega | (refine id ?_; simp only [push_cast]; done) | (refine id ?_; simp only [push_cast]; omega)) only [push_cast, Nat.reduceAdd, Nat.reduceMul, Nat.reduceSub, Nat.reduceLT, Nat.reduceEqDiff, Nat.reduceLeDiff, Int.reduceToNat, reduceCtorEq, Int.reduceLT, Int.reduceLE, Int.reduceAdd, Int.reduceSub, Int.reduceMul, Int.reduceNeg, Int.reduceEq]
  refine CallE.to (crash_w G _ hl7 (by omega) 0) ?_
  rintro v h8 ⟨⟨q, a8, c8, rfl, hl8, hb8⟩, hg8⟩
  have he : endN (4 + xs.length) (enc [xs, bs]).length 0 = 4 + xs.length := by rw [hel]; unfold endN; omega
  have hws : wholes (4 + xs.length) [xs, bs] = [xs] := by
    simp only [wholes]
    rw [if_pos (by omega), if_neg (by omega)]
  rw [he, hws] at hl8
  have tor : Torn [] := .inl (by decide)
  simp (disch := first | omega | (refine id ?_; simp only [push_cast]; done) | (refine id ?_; simp only [push_cast]; omega)) only [push_cast, Nat.reduceAdd, Nat.reduceMul, Nat.reduceSub, Nat.reduceLT, Nat.reduceEqDiff, Nat.reduceLeDiff, Int.reduceToNat, reduceCtorEq, Int.reduceLT, Int.reduceLE, Int.reduceAdd, Int.reduceSub, Int.reduceMul, Int.reduceNeg, Int.reduceEq]
  refine CallE.to (records_w G _ hl8 (by omega) [xs] [] (List.append_nil _).symm tor) ?_
  rintro v h9 ⟨⟨a9, c9, rfl, ⟨⟨cs, hown9, hrow9⟩, hlow9⟩⟩, hg9⟩
  have hl9 := (hl7.grew hg8 fun _ _ h => h).grew hg9 fun _ _ h => h
  have hsa9 : Sl h9 aa (bv xs) := by
    have g7 : Grew h h7 (fun b => h.next ≤ b) := hgA.tr' hg7 fun i hi hx => hlow4 i hx
    have g9 : Grew h h9 (fun b => h.next ≤ b) := (g7.tr' hg8 fun _ _ h => h.elim).tr' hg9 fun _ _ h => h.elim
    exact Sl.grew hsa g9 fun b hb _ => ⟨hba b hb, fun hx => by have := hba b hb; omega⟩
  have hw3 : IntKind.i64.wrap ((xs.length : Int) + 4) = xs.length + 4 := wrap_i64 (by omega) (by omega)
  have hk : ((beL xs.length 4 ++ xs).length : Int) = xs.length + 4 := by rw [hlen4]; omega
  simp (disch := first | omega | (refine id ?_; simp only [push_cast]; done) | (refine id ?_; simp only [push_cast]; omega)) only [push_cast, Nat.reduceAdd, Nat.reduceMul, Nat.reduceSub, Nat.reduceLT, Nat.reduceEqDiff, Nat.reduceLeDiff, Int.reduceToNat, reduceCtorEq, Int.reduceLT, Int.reduceLE, Int.reduceAdd, Int.reduceSub, Int.reduceMul, Int.reduceNeg, Int.reduceEq, hw3, hk]
  have hk2 : ((4 + xs.length : Nat) : Int) = xs.length + 4 := by omega
  have hk3 : ((enc [xs, bs]).length : Int) = xs.length + bs.length + 8 := by rw [hel]; omega
  have hw5 : IntKind.i64.wrap ((xs.length : Int) + 4 + bs.length) = xs.length + 4 + bs.length := wrap_i64 (by omega) (by omega)
  have hw6 : IntKind.i64.wrap ((xs.length : Int) + 4 + bs.length + 4) = xs.length + bs.length + 8 := by rw [wrap_i64 (by omega) (by omega)]; omega
  refine CallE.to (sure_w G _ hl9) ?_
  rintro _ _ ⟨rfl, e⟩
  rw [e, hk2]
  clear e
  simp (disch := first | omega | (refine id ?_; simp only [push_cast]; done) | (refine id ?_; simp only [push_cast]; omega)) only [push_cast, Nat.reduceAdd, Nat.reduceMul, Nat.reduceSub, Nat.reduceLT, Nat.reduceEqDiff, Nat.reduceLeDiff, Int.reduceToNat, reduceCtorEq, Int.reduceLT, Int.reduceLE, Int.reduceAdd, Int.reduceSub, Int.reduceMul, Int.reduceNeg, Int.reduceEq, hw5, hw6]
  refine CallE.to (len_w G _ hl9) ?_
  rintro _ _ ⟨rfl, e⟩
  rw [e, hk3]
  clear e
  obtain ⟨ai, ci, q1, q2, q3⟩ := hrow9 0 xs rfl
  have hsl9 := hown9.sl
  obtain ⟨b9, o9, rfl, hld9⟩ := hsl9.load T_knd_23 q1
  have hcv1 := cv_text T_cnvT_23_9 q2 rfl (c := ci)
  have hcv2 := cv_text T_cnvT_23_9 hsa9 rfl (c := ca)
  rw [load_eq, T_knd_23, Nat.add_zero] at hld9
  have hq1 : (xs.length : Int) + bs.length + 8 = xs.length + 4 + bs.length + 4 := by omega
  simp (disch := first | omega | (refine id ?_; simp only [push_cast]; done) | (refine id ?_; simp only [push_cast]; omega)) only [push_cast, Nat.reduceAdd, Nat.reduceMul, Nat.reduceSub, Nat.reduceLT, Nat.reduceEqDiff, Nat.reduceLeDiff, Int.reduceToNat, reduceCtorEq, Int.reduceLT, Int.reduceLE, Int.reduceAdd, Int.reduceSub, Int.reduceMul, Int.reduceNeg, Int.reduceEq, hk, hq1, hcv1, hcv2, hld9, b_eqls, beq_self_eq_true]
end
end Go.Proofs.Ytohdgkmgkcoilaa

namespace Go.Proofs.Ytohdgkmgkcoilaa.logSyncs
open Go.ChangeShapes Go.WideShapes Go.ChangeAt Go.RowKit Go.Ev
set_option linter.unusedVariables false
set_option linter.unusedSimpArgs false
set_option maxRecDepth 100000

theorem own : ownKnob Try.prog.godebug = none := by kernel_rfl
theorem laid : laidOutB Try.prog = true := by kernel_rfl

theorem lifted (os : Os) (started : os.Started) (H : Type) (enc : TypeId × Value → H) :
    ReturnsInHanded {} Try.checked os 11 .any (Rows.logSyncsSpec.pre6 enc Try.prog Try.f11 Rows.logSyncsRow.domain false) (Rows.logSyncsSpec.post enc Try.prog Try.f11 false true false false) := by
  refine returnsInHanded_of_change_sized (C := Try.checked) own started (by kernel_rfl) Try.func11
    (ChangeSpec.witness6 (enc := enc) (C := Try.checked) false ⟨#[], #[.slice none 0 0, .slice none 0 0], []⟩ 8 (by kernel_rfl) (by kernel_rfl) (by kernel_rfl) (by kernel_rfl)) ?_
  intro W base args ds gs before hval0 hW hcnd hsz _
  have hval : ∀ (j : Nat) t v, Try.f11.params[j]? = some t → args[j]? = some v → Value.okWide Try.prog W .any base t v := hval0
  have hW' := hW
  have hlt := hW.lt
  obtain ⟨p, q, hA0, hV, rfl, hfz, hnd⟩ := hW
  have hA : DataW.TrodAll enc Try.prog W 0 (fun _ => true) true Try.f11.params.toList args.toList ds p := hA0
  rw [Try.params11] at hA hval
  obtain ⟨v0, vs0, d0, ds0, p0, q0, hargs, rfl, rfl, h0, r0⟩ := trodAll_cons hA
  obtain ⟨v1, vs1, d1, ds1, p1, q1, rfl, rfl, rfl, h1, r1⟩ := trodAll_cons r0
  obtain ⟨rfl, rfl, rfl⟩ := trodAll_nil r1
  obtain rfl : args = #[v0, v1] := by cases args; simp_all
  obtain ⟨rfl, rfl⟩ := trodVars_none hV
  have h0' := h0
  have h1' := h1
  obtain ⟨xs0, a0, c0, rfl, sl0, bl0, pl0, sc0⟩ := open_bs (hval 0 23 v0 rfl rfl) h0 (fun elems spare hd => sized_slice hsz (j := 0) (t := 23) (e := 5) (elems := elems) (spare := spare) rfl (by cases hd; rfl) Try.underlying23)
  obtain ⟨xs1, a1, c1, rfl, sl1, bl1, pl1, sc1⟩ := open_bs (hval 1 23 v1 rfl rfl) h1 (fun elems spare hd => sized_slice hsz (j := 1) (t := 23) (e := 5) (elems := elems) (spare := spare) rfl (by cases hd; rfl) Try.underlying23)
  have hrun : Calls Try.prog 11 #[.slice a0 xs0.length c0, .slice a1 xs1.length c1] W fun e W' => e = .returned (.bool true) ∧ Below W.heap.size W W' :=
    calls_of_callE (P := Try.prog) (NG := 0) (s := fun _ => 0) (t := fun _ => .empty) (Nat.zero_le _) (syncs_w W.heap.size (baseH W) xs0 a0 c0 sl0 bl0 xs1 a1 c1 sl1 bl1) (by simp only [plL, pl, pl0, pl1, Bool.and_true]) (by simp only [scL, sc, sc0, sc1, Bool.and_true]) rfl
  refine hrun.mono fun e W' ⟨he, bel⟩ => ?_
  subst he
  exact ⟨_, rfl, _, _, _, [], _, [], hW', trodAll_mk1 (shut_bool Try.underlying4 _), trodAll_cons_mk (Below.trod laid (by kernel_rfl) (of_decide_eq_true (by kernel_rfl)) h0' bel (fun x hx => hlt x (by simp [hx]))) (trodAll_cons_mk (Below.trod laid (by kernel_rfl) (of_decide_eq_true (by kernel_rfl)) h1' bel (fun x hx => hlt x (by simp [hx]))) (trodAll_mk0)), rfl, bel.frame _, fun h => by cases h⟩

theorem over : Rows.logSyncsRow.holds Try.pinned (OpenSpec.ofChange Rows.logSyncsSpec) :=
  OpenClaim.holds_of_wide 11 Try.f11 rfl rfl rfl rfl rfl rfl rfl ⟨rfl, rfl, rfl, rfl, rfl⟩ rfl rfl rfl rfl rfl (by kernel_rfl) Try.func11 (by kernel_rfl)
    (of_decide_eq_true (by kernel_rfl)) (by unfold Func.isWrapper; first | (rw [if_pos (by decide +kernel)]; kernel_rfl) | (rw [if_neg (by decide +kernel)]; exact ⟨rfl, rfl⟩))
    (fun os started H enc _ => lifted os started H enc)

theorem proved : Rows.LogSyncsSaid :=
  over
end Go.Proofs.Ytohdgkmgkcoilaa.logSyncs
