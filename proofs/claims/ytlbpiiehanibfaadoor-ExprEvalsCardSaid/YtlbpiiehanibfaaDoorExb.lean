/-
  A part of the proof: conditions over an abstract memory, and that they are enough for what the model's calls do. No condition of its own.
-/
import Derived.Test.YtlbpiiehanibfaaDoorExa
import Derived.IntWalk
set_option linter.unusedSimpArgs false
set_option linter.unusedVariables false
namespace Go.Proofs.YtlbpiiehanibfaaDoor
open Go Go.RowKit Go.Ev Go.Dv
noncomputable section
variable (G : Nat × Nat)
def t2 (x : Int × Int) : Value := .tuple #[.int .i64 x.1, .int .i64 x.2]
theorem t2_eq (x : Int × Int) : t2 x = .tuple ⟨[.int .i64 x.1, .int .i64 x.2]⟩ := rfl
attribute [push_cast] t2_eq
def W (a : Int) : Int := IntKind.i64.wrap a
def addF (a b : Int) : Int × Int := if decide (a < W (a + b)) == decide (0 < b) then (W (a + b), 0) else (0, 8)
def subF (a b : Int) : Int × Int := if decide (W (a - b) < a) == decide (0 < b) then (W (a - b), 0) else (0, 8)
def mulF (a b : Int) : Int × Int := if a ≠ 0 ∧ (W ((W (a * b)).tdiv a) ≠ b ∨ a = -1 ∧ b = -9223372036854775808) then (0, 8) else (W (a * b), 0)
def divF (a b : Int) : Int × Int := if b = 0 then (0, 9) else if a = -9223372036854775808 ∧ b = -1 then (0, 8) else (W (a.tdiv b), 0)
def remF (a b : Int) : Int × Int := if b = 0 then (0, 9) else if b = -1 then (0, 0) else (a.tmod b, 0)
def truthF (b : Bool) : Int := if b then 1 else 0
theorem truth_f (b : Bool) : CallF (pp G) H0 69 [.bool b] (.int .i64 (truthF b)) := by
  have hlo : H0.lo ≤ H0.next := Nat.le_refl _; refine CallF.cut (CallD.fir4 (q := qq) (good G) fir69 ok_ir69 rfl rfl (F4_arr ..) (Nat.le_refl _) ?_); rw [sd_ir69]
  cases b with
  | true => simp (disch:=first|omega|(refine id ?_;simp only[push_cast];first|done|omega)) only [push_cast,Int.reduceEq]; exact .id rfl
  | false => simp (disch:=first|omega|(refine id ?_;simp only[push_cast];first|done|omega)) only [push_cast,Int.reduceEq]; exact .id rfl
theorem add_f (a b : Int) : CallF (pp G) H0 74 [.int .i64 a, .int .i64 b] (t2 (addF a b)) := by
  have hlo : H0.lo ≤ H0.next := Nat.le_refl _; refine CallF.cut (CallD.fir4 (q := qq) (good G) fir74 ok_ir74 rfl rfl (F17_arr ..) (Nat.le_refl _) ?_); rw [sd_ir74]
  unfold addF W
  cases h : (decide (a < IntKind.i64.wrap (a + b)) == decide (0 < b)) with
  | true => simp (disch:=first|omega|(refine id ?_;simp only[push_cast];first|done|omega)) only [push_cast,Int.reduceEq,h]; exact .id rfl
  | false => simp (disch:=first|omega|(refine id ?_;simp only[push_cast];first|done|omega)) only [push_cast,Int.reduceEq,h]; exact .id rfl
theorem sub_f (a b : Int) : CallF (pp G) H0 70 [.int .i64 a, .int .i64 b] (t2 (subF a b)) := by
  have hlo : H0.lo ≤ H0.next := Nat.le_refl _; refine CallF.cut (CallD.fir4 (q := qq) (good G) fir70 ok_ir70 rfl rfl (F17_arr ..) (Nat.le_refl _) ?_); rw [sd_ir70]
  unfold subF W
  cases h : (decide (IntKind.i64.wrap (a - b) < a) == decide (0 < b)) with
  | true => simp (disch:=first|omega|(refine id ?_;simp only[push_cast];first|done|omega)) only [push_cast,Int.reduceEq,h]; exact .id rfl
  | false => simp (disch:=first|omega|(refine id ?_;simp only[push_cast];first|done|omega)) only [push_cast,Int.reduceEq,h]; exact .id rfl
theorem div_f (a b : Int) : CallF (pp G) H0 72 [.int .i64 a, .int .i64 b] (t2 (divF a b)) := by
  have hlo : H0.lo ≤ H0.next := Nat.le_refl _; refine CallF.cut (CallD.fir4 (q := qq) (good G) fir72 ok_ir72 rfl rfl (F19_arr ..) (Nat.le_refl _) ?_); rw [sd_ir72]
  unfold divF W
  by_cases h : b = 0
  · simp (disch:=first|omega|(refine id ?_;simp only[push_cast];first|done|omega)) only [push_cast,Int.reduceEq,h]; exact .id rfl
  by_cases h1 : a = -9223372036854775808
  · by_cases h2 : b = -1
    · simp (disch:=first|omega|(refine id ?_;simp only[push_cast];first|done|omega)) only [push_cast,Int.reduceEq,h,h1,h2]; exact .id rfl
    · simp (disch:=first|omega|(refine id ?_;simp only[push_cast];first|done|omega)) only [push_cast,Int.reduceEq,h,h1,h2]; exact .id rfl
  · simp (disch:=first|omega|(refine id ?_;simp only[push_cast];first|done|omega)) only [push_cast,Int.reduceEq,h,h1,false_and]; exact .id rfl
end
end Go.Proofs.YtlbpiiehanibfaaDoor
namespace Go.Proofs.YtlbpiiehanibfaaDoor
open Go Go.RowKit Go.Ev Go.Dv
noncomputable section
variable (G : Nat × Nat)
theorem rem_f (a b : Int) : CallF (pp G) H0 73 [.int .i64 a, .int .i64 b] (t2 (remF a b)) := by
  have hlo : H0.lo ≤ H0.next := Nat.le_refl _; refine CallF.cut (CallD.fir4 (q := qq) (good G) fir73 ok_ir73 rfl rfl (F14_arr ..) (Nat.le_refl _) ?_); rw [sd_ir73]
  unfold remF
  by_cases h : b = 0
  · simp (disch:=first|omega|(refine id ?_;simp only[push_cast];first|done|omega)) only [push_cast,Int.reduceMul,Int.reduceEq,h]; exact .id rfl
  by_cases h1 : b = -1
  · simp (disch:=first|omega|(refine id ?_;simp only[push_cast];first|done|omega)) only [push_cast,Int.reduceMul,Int.reduceEq,h,h1]; exact .id rfl
  · simp (disch:=first|omega|(refine id ?_;simp only[push_cast];first|done|omega)) only [push_cast,Int.reduceMul,Int.reduceEq,h,h1]; exact .id rfl
theorem mul_f (a b : Int) : CallF (pp G) H0 71 [.int .i64 a, .int .i64 b] (t2 (mulF a b)) := by
  have hlo : H0.lo ≤ H0.next := Nat.le_refl _; refine CallF.cut (CallD.fir4 (q := qq) (good G) fir71 ok_ir71 rfl rfl (F28_arr ..) (Nat.le_refl _) ?_); rw [sd_ir71]
  by_cases h : a = 0
  · rw [mulF, if_neg (fun hc => hc.1 h)]
    subst h
    unfold W
    simp (disch:=first|omega|(refine id ?_;simp only[push_cast];first|done|omega)) only [push_cast,Int.reduceMul,Int.reduceEq]; exact .id rfl
  by_cases h1 : IntKind.i64.wrap ((IntKind.i64.wrap (a * b)).tdiv a) = b
  · by_cases h2 : a = -1
    · by_cases h3 : b = -9223372036854775808
      · rw [mulF, if_pos ⟨h, .inr ⟨h2, h3⟩⟩]
        subst h2 h3
        have h4 : IntKind.i64.wrap ((IntKind.i64.wrap 9223372036854775808).tdiv (-1)) = -9223372036854775808 := by decide
        simp (disch:=first|omega|(refine id ?_;simp only[push_cast];first|done|omega)) only [push_cast,Int.reduceMul,Int.reduceEq,h4]; exact .id rfl
      · rw [mulF, if_neg (fun hc => hc.2.elim (fun hn => hn h1) fun hn => h3 hn.2)]
        subst h2
        simp (disch:=first|omega|(refine id ?_;simp only[push_cast];first|done|omega)) only [push_cast,Int.reduceMul,Int.reduceEq,h1,h3]; exact .id rfl
    · rw [mulF, if_neg (fun hc => hc.2.elim (fun hn => hn h1) fun hn => h2 hn.1)]
      simp (disch:=first|omega|(refine id ?_;simp only[push_cast];first|done|omega)) only [push_cast,Int.reduceMul,Int.reduceEq,h,h1,h2]; exact .id rfl
  · rw [mulF, if_pos ⟨h, .inl h1⟩]
    simp (disch:=first|omega|(refine id ?_;simp only[push_cast];first|done|omega)) only [push_cast,Int.reduceMul,Int.reduceEq,h,h1]; exact .id rfl
def oneF (k a : Int) : Int × Int := if k = 3 then (truthF (decide (a = 0)), 0) else subF 0 a
theorem one_f (k a : Int) : CallF (pp G) H0 59 [.int .i64 k, .int .i64 a] (t2 (oneF k a)) := by
  have hlo : H0.lo ≤ H0.next := Nat.le_refl _; refine CallF.cut (CallD.fir4 (q := qq) (good G) fir59 ok_ir59 rfl rfl (F15_arr ..) (Nat.le_refl _) ?_); rw [sd_ir59]
  by_cases h : k = 3
  · rw [oneF, if_pos h]
    simp (disch:=first|omega|(refine id ?_;simp only[push_cast];first|done|omega)) only [push_cast,Int.reduceMul,Int.reduceEq,h]
    refine CallVD.data (truth_f G (decide (a = 0))) (by first | exact FzL.ids rfl | (refine FzL.ids ?_; simp (disch:=first|omega|(refine id ?_;simp only[push_cast];first|done|omega)) only [push_cast])) (by first | rfl | (simp (disch:=first|omega|(refine id ?_;simp only[push_cast];first|done|omega)) only [push_cast])) (by first | rfl | (simp (disch:=first|omega|(refine id ?_;simp only[push_cast];first|done|omega)) only [push_cast])) ?_
    simp (disch:=first|omega|(refine id ?_;simp only[push_cast];first|done|omega)) only [push_cast,Int.reduceMul,Int.reduceEq]
    exact .id rfl
  · rw [oneF, if_neg h]
    simp (disch:=first|omega|(refine id ?_;simp only[push_cast];first|done|omega)) only [push_cast,Int.reduceMul,Int.reduceEq,h]
    refine CallVD.data (sub_f G 0 a) (by first | exact FzL.ids rfl | (refine FzL.ids ?_; simp (disch:=first|omega|(refine id ?_;simp only[push_cast];first|done|omega)) only [push_cast])) (by first | rfl | (simp (disch:=first|omega|(refine id ?_;simp only[push_cast];first|done|omega)) only [push_cast])) (by first | rfl | (simp (disch:=first|omega|(refine id ?_;simp only[push_cast];first|done|omega)) only [push_cast])) ?_
    simp (disch:=first|omega|(refine id ?_;simp only[push_cast];first|done|omega)) only [push_cast,Int.reduceMul,Int.reduceEq]
    exact .id rfl
def twoF (k a b : Int) : Int × Int :=
  if k = 5 then mulF a b else if k = 6 then divF a b else if k = 7 then remF a b else if k = 8 then addF a b else if k = 9 then subF a b
  else if k = 10 then (truthF (decide (a = b)), 0) else if k = 11 then (truthF (!decide (a = b)), 0) else if k = 12 then (truthF (decide (a < b)), 0) else if k = 13 then (truthF (decide (a ≤ b)), 0)
  else if k = 14 then (truthF (decide (b < a)), 0) else if k = 15 then (truthF (decide (b ≤ a)), 0) else (truthF (!decide (b = 0)), 0)
theorem two_f (k a b : Int) : CallF (pp G) H0 60 [.int .i64 k, .int .i64 a, .int .i64 b] (t2 (twoF k a b)) := by
  have hlo : H0.lo ≤ H0.next := Nat.le_refl _; refine CallF.cut (CallD.fir4 (q := qq) (good G) fir60 ok_ir60 rfl rfl (F83_arr ..) (Nat.le_refl _) ?_); rw [sd_ir60]
  by_cases h1 : k = 5
  · rw [twoF, if_pos h1]
    simp (disch:=first|omega|(refine id ?_;simp only[push_cast];first|done|omega)) only [push_cast,Int.reduceMul,Int.reduceEq,h1]; refine CallVD.data (mul_f G a b) (by first | exact FzL.ids rfl | (refine FzL.ids ?_; simp (disch:=first|omega|(refine id ?_;simp only[push_cast];first|done|omega)) only [push_cast])) (by first | rfl | (simp (disch:=first|omega|(refine id ?_;simp only[push_cast];first|done|omega)) only [push_cast])) (by first | rfl | (simp (disch:=first|omega|(refine id ?_;simp only[push_cast];first|done|omega)) only [push_cast])) ?_; simp (disch:=first|omega|(refine id ?_;simp only[push_cast];first|done|omega)) only [push_cast,Int.reduceMul,Int.reduceEq]; exact .id rfl
  by_cases h2 : k = 6
  · rw [twoF, if_neg h1, if_pos h2]
    simp (disch:=first|omega|(refine id ?_;simp only[push_cast];first|done|omega)) only [push_cast,Int.reduceMul,Int.reduceEq,h1,h2]; refine CallVD.data (div_f G a b) (by first | exact FzL.ids rfl | (refine FzL.ids ?_; simp (disch:=first|omega|(refine id ?_;simp only[push_cast];first|done|omega)) only [push_cast])) (by first | rfl | (simp (disch:=first|omega|(refine id ?_;simp only[push_cast];first|done|omega)) only [push_cast])) (by first | rfl | (simp (disch:=first|omega|(refine id ?_;simp only[push_cast];first|done|omega)) only [push_cast])) ?_; simp (disch:=first|omega|(refine id ?_;simp only[push_cast];first|done|omega)) only [push_cast,Int.reduceMul,Int.reduceEq]; exact .id rfl
  by_cases h3 : k = 7
  · rw [twoF, if_neg h1, if_neg h2, if_pos h3]
    simp (disch:=first|omega|(refine id ?_;simp only[push_cast];first|done|omega)) only [push_cast,Int.reduceMul,Int.reduceEq,h1,h2,h3]; refine CallVD.data (rem_f G a b) (by first | exact FzL.ids rfl | (refine FzL.ids ?_; simp (disch:=first|omega|(refine id ?_;simp only[push_cast];first|done|omega)) only [push_cast])) (by first | rfl | (simp (disch:=first|omega|(refine id ?_;simp only[push_cast];first|done|omega)) only [push_cast])) (by first | rfl | (simp (disch:=first|omega|(refine id ?_;simp only[push_cast];first|done|omega)) only [push_cast])) ?_; simp (disch:=first|omega|(refine id ?_;simp only[push_cast];first|done|omega)) only [push_cast,Int.reduceMul,Int.reduceEq]; exact .id rfl
  by_cases h4 : k = 8
  · rw [twoF, if_neg h1, if_neg h2, if_neg h3, if_pos h4]
    simp (disch:=first|omega|(refine id ?_;simp only[push_cast];first|done|omega)) only [push_cast,Int.reduceMul,Int.reduceEq,h1,h2,h3,h4]; refine CallVD.data (add_f G a b) (by first | exact FzL.ids rfl | (refine FzL.ids ?_; simp (disch:=first|omega|(refine id ?_;simp only[push_cast];first|done|omega)) only [push_cast])) (by first | rfl | (simp (disch:=first|omega|(refine id ?_;simp only[push_cast];first|done|omega)) only [push_cast])) (by first | rfl | (simp (disch:=first|omega|(refine id ?_;simp only[push_cast];first|done|omega)) only [push_cast])) ?_; simp (disch:=first|omega|(refine id ?_;simp only[push_cast];first|done|omega)) only [push_cast,Int.reduceMul,Int.reduceEq]; exact .id rfl
  by_cases h5 : k = 9
  · rw [twoF, if_neg h1, if_neg h2, if_neg h3, if_neg h4, if_pos h5]
    simp (disch:=first|omega|(refine id ?_;simp only[push_cast];first|done|omega)) only [push_cast,Int.reduceMul,Int.reduceEq,h1,h2,h3,h4,h5]; refine CallVD.data (sub_f G a b) (by first | exact FzL.ids rfl | (refine FzL.ids ?_; simp (disch:=first|omega|(refine id ?_;simp only[push_cast];first|done|omega)) only [push_cast])) (by first | rfl | (simp (disch:=first|omega|(refine id ?_;simp only[push_cast];first|done|omega)) only [push_cast])) (by first | rfl | (simp (disch:=first|omega|(refine id ?_;simp only[push_cast];first|done|omega)) only [push_cast])) ?_; simp (disch:=first|omega|(refine id ?_;simp only[push_cast];first|done|omega)) only [push_cast,Int.reduceMul,Int.reduceEq]; exact .id rfl
  by_cases h6 : k = 10
  · rw [twoF, if_neg h1, if_neg h2, if_neg h3, if_neg h4, if_neg h5, if_pos h6]
    simp (disch:=first|omega|(refine id ?_;simp only[push_cast];first|done|omega)) only [push_cast,Int.reduceMul,Int.reduceEq,h1,h2,h3,h4,h5,h6]; refine CallVD.data (truth_f G (decide (a = b))) (by first | exact FzL.ids rfl | (refine FzL.ids ?_; simp (disch:=first|omega|(refine id ?_;simp only[push_cast];first|done|omega)) only [push_cast])) (by first | rfl | (simp (disch:=first|omega|(refine id ?_;simp only[push_cast];first|done|omega)) only [push_cast])) (by first | rfl | (simp (disch:=first|omega|(refine id ?_;simp only[push_cast];first|done|omega)) only [push_cast])) ?_; simp (disch:=first|omega|(refine id ?_;simp only[push_cast];first|done|omega)) only [push_cast,Int.reduceMul,Int.reduceEq]; exact .id rfl
  by_cases h7 : k = 11
  · rw [twoF, if_neg h1, if_neg h2, if_neg h3, if_neg h4, if_neg h5, if_neg h6, if_pos h7]
    simp (disch:=first|omega|(refine id ?_;simp only[push_cast];first|done|omega)) only [push_cast,Int.reduceMul,Int.reduceEq,h1,h2,h3,h4,h5,h6,h7]; refine CallVD.data (truth_f G (!decide (a = b))) (by first | exact FzL.ids rfl | (refine FzL.ids ?_; simp (disch:=first|omega|(refine id ?_;simp only[push_cast];first|done|omega)) only [push_cast])) (by first | rfl | (simp (disch:=first|omega|(refine id ?_;simp only[push_cast];first|done|omega)) only [push_cast])) (by first | rfl | (simp (disch:=first|omega|(refine id ?_;simp only[push_cast];first|done|omega)) only [push_cast])) ?_; simp (disch:=first|omega|(refine id ?_;simp only[push_cast];first|done|omega)) only [push_cast,Int.reduceMul,Int.reduceEq]; exact .id rfl
  by_cases h8 : k = 12
  · rw [twoF, if_neg h1, if_neg h2, if_neg h3, if_neg h4, if_neg h5, if_neg h6, if_neg h7, if_pos h8]
    simp (disch:=first|omega|(refine id ?_;simp only[push_cast];first|done|omega)) only [push_cast,Int.reduceMul,Int.reduceEq,h1,h2,h3,h4,h5,h6,h7,h8]; refine CallVD.data (truth_f G (decide (a < b))) (by first | exact FzL.ids rfl | (refine FzL.ids ?_; simp (disch:=first|omega|(refine id ?_;simp only[push_cast];first|done|omega)) only [push_cast])) (by first | rfl | (simp (disch:=first|omega|(refine id ?_;simp only[push_cast];first|done|omega)) only [push_cast])) (by first | rfl | (simp (disch:=first|omega|(refine id ?_;simp only[push_cast];first|done|omega)) only [push_cast])) ?_; simp (disch:=first|omega|(refine id ?_;simp only[push_cast];first|done|omega)) only [push_cast,Int.reduceMul,Int.reduceEq]; exact .id rfl
  by_cases h9 : k = 13
  · rw [twoF, if_neg h1, if_neg h2, if_neg h3, if_neg h4, if_neg h5, if_neg h6, if_neg h7, if_neg h8, if_pos h9]
    simp (disch:=first|omega|(refine id ?_;simp only[push_cast];first|done|omega)) only [push_cast,Int.reduceMul,Int.reduceEq,h1,h2,h3,h4,h5,h6,h7,h8,h9]; refine CallVD.data (truth_f G (decide (a ≤ b))) (by first | exact FzL.ids rfl | (refine FzL.ids ?_; simp (disch:=first|omega|(refine id ?_;simp only[push_cast];first|done|omega)) only [push_cast])) (by first | rfl | (simp (disch:=first|omega|(refine id ?_;simp only[push_cast];first|done|omega)) only [push_cast])) (by first | rfl | (simp (disch:=first|omega|(refine id ?_;simp only[push_cast];first|done|omega)) only [push_cast])) ?_; simp (disch:=first|omega|(refine id ?_;simp only[push_cast];first|done|omega)) only [push_cast,Int.reduceMul,Int.reduceEq]; exact .id rfl
  by_cases h10 : k = 14
  · rw [twoF, if_neg h1, if_neg h2, if_neg h3, if_neg h4, if_neg h5, if_neg h6, if_neg h7, if_neg h8, if_neg h9, if_pos h10]
    simp (disch:=first|omega|(refine id ?_;simp only[push_cast];first|done|omega)) only [push_cast,Int.reduceMul,Int.reduceEq,h1,h2,h3,h4,h5,h6,h7,h8,h9,h10]; refine CallVD.data (truth_f G (decide (b < a))) (by first | exact FzL.ids rfl | (refine FzL.ids ?_; simp (disch:=first|omega|(refine id ?_;simp only[push_cast];first|done|omega)) only [push_cast])) (by first | rfl | (simp (disch:=first|omega|(refine id ?_;simp only[push_cast];first|done|omega)) only [push_cast])) (by first | rfl | (simp (disch:=first|omega|(refine id ?_;simp only[push_cast];first|done|omega)) only [push_cast])) ?_; simp (disch:=first|omega|(refine id ?_;simp only[push_cast];first|done|omega)) only [push_cast,Int.reduceMul,Int.reduceEq]; exact .id rfl
  by_cases h11 : k = 15
  · rw [twoF, if_neg h1, if_neg h2, if_neg h3, if_neg h4, if_neg h5, if_neg h6, if_neg h7, if_neg h8, if_neg h9, if_neg h10, if_pos h11]
    simp (disch:=first|omega|(refine id ?_;simp only[push_cast];first|done|omega)) only [push_cast,Int.reduceMul,Int.reduceEq,h1,h2,h3,h4,h5,h6,h7,h8,h9,h10,h11]; refine CallVD.data (truth_f G (decide (b ≤ a))) (by first | exact FzL.ids rfl | (refine FzL.ids ?_; simp (disch:=first|omega|(refine id ?_;simp only[push_cast];first|done|omega)) only [push_cast])) (by first | rfl | (simp (disch:=first|omega|(refine id ?_;simp only[push_cast];first|done|omega)) only [push_cast])) (by first | rfl | (simp (disch:=first|omega|(refine id ?_;simp only[push_cast];first|done|omega)) only [push_cast])) ?_; simp (disch:=first|omega|(refine id ?_;simp only[push_cast];first|done|omega)) only [push_cast,Int.reduceMul,Int.reduceEq]; exact .id rfl
  rw [twoF, if_neg h1, if_neg h2, if_neg h3, if_neg h4, if_neg h5, if_neg h6, if_neg h7, if_neg h8, if_neg h9, if_neg h10, if_neg h11]
  simp (disch:=first|omega|(refine id ?_;simp only[push_cast];first|done|omega)) only [push_cast,Int.reduceMul,Int.reduceEq,h1,h2,h3,h4,h5,h6,h7,h8,h9,h10,h11]; refine CallVD.data (truth_f G (!decide (b = 0))) (by first | exact FzL.ids rfl | (refine FzL.ids ?_; simp (disch:=first|omega|(refine id ?_;simp only[push_cast];first|done|omega)) only [push_cast])) (by first | rfl | (simp (disch:=first|omega|(refine id ?_;simp only[push_cast];first|done|omega)) only [push_cast])) (by first | rfl | (simp (disch:=first|omega|(refine id ?_;simp only[push_cast];first|done|omega)) only [push_cast])) ?_; simp (disch:=first|omega|(refine id ?_;simp only[push_cast];first|done|omega)) only [push_cast,Int.reduceMul,Int.reduceEq]; exact .id rfl
end
end Go.Proofs.YtlbpiiehanibfaaDoor
namespace Go.Proofs.YtlbpiiehanibfaaDoor
open Go Go.RowKit Go.Ev Go.Dv
noncomputable section
variable (G : Nat × Nat)
inductive Ex where
  | mk (k n : Int) (s : List UInt8) (l : List Ex)
def Ex.k : Ex → Int | .mk k _ _ _ => k
abbrev eE : Nat := 27
mutual
def exC : Ex → List Value
  | .mk k n s l => [.int .i64 k, .int .i64 n, .string (Tx s), Rw false eE l.length (exCs l)]
def exCs : List Ex → List Value
  | [] => []
  | x :: l => exC x ++ exCs l
end
def exV (x : Ex) : Value := .agg ⟨exC x⟩
theorem exC_len (x : Ex) : (exC x).length = 4 := by cases x; simp [exC]
theorem exCs_len : ∀ l : List Ex, (exCs l).length = l.length * 4
  | [] => rfl
  | x :: l => by rw [exCs, List.length_append, exC_len, exCs_len l, List.length_cons]; omega
mutual
theorem exC_one : ∀ x : Ex, (exC x).all one = true
  | .mk k n s l => by simp [exC, one, Rw]
theorem exCs_one : ∀ l : List Ex, (exCs l).all one = true
  | [] => rfl
  | x :: l => by rw [exCs, List.all_append, exC_one x, exCs_one l]; rfl
end
mutual
theorem exC_sc (n : Nat) (hn : 0 < n) : ∀ x : Ex, scL n (exC x) = true
  | .mk k m s l => by
    have := exCs_sc n hn l
    simp [exC, scL, sc, Rw, this, hn]
theorem exCs_sc (n : Nat) (hn : 0 < n) : ∀ l : List Ex, scL n (exCs l) = true
  | [] => rfl
  | x :: l => by
    rw [exCs]
    exact scL_of_all fun v hv => (List.mem_append.1 hv).elim (scL_all (exC_sc n hn x) v) (scL_all (exCs_sc n hn l) v)
end
theorem exV_sc (n : Nat) (hn : 0 < n) (x : Ex) : sc n (exV x) = true := exC_sc n hn x
theorem exCs_drop : ∀ (l : List Ex) (i : Nat), (exCs l).drop (i * 4) = exCs (l.drop i)
  | l, 0 => by simp
  | [], i + 1 => by simp [exCs]
  | x :: l, i + 1 => by
    rw [exCs, List.drop_succ_cons, ← exCs_drop l i, Nat.add_mul, Nat.one_mul, Nat.add_comm, ← List.drop_drop, List.drop_append_of_le_length (by rw [exC_len]; exact Nat.le_refl _), show (exC x).drop 4 = [] from List.drop_of_length_le (by rw [exC_len]; exact Nat.le_refl _), List.nil_append]
theorem exCs_part {l : List Ex} {i : Nat} {x : Ex} (h : l[i]? = some x) : partL true 4 (exCs l) (i * 4) = some (exV x) := by
  have hi : i < l.length := (List.getElem?_eq_some_iff.1 h).1
  have hd : l.drop i = x :: l.drop (i + 1) := by rw [List.drop_eq_getElem_cons hi]; congr 1; exact (List.getElem?_eq_some_iff.1 h).2
  have hle : i * 4 + 4 ≤ (exCs l).length := by rw [exCs_len]; omega
  simp only [partL, if_pos hle, exV]
  congr 3
  rw [exCs_drop, hd, exCs, List.take_append_of_le_length (by rw [exC_len]; exact Nat.le_refl _), List.take_of_length_le (by rw [exC_len]; exact Nat.le_refl _)]
mutual
def evalF (vars : List Int) : Ex → Int × Int
  | .mk k n s l => if k = 1 then (n, 0) else if k = 2 then (vars.getD n.toNat 0, 0) else
    match evalL vars l with
    | [] => (0, 0)
    | a :: r => if a.2 ≠ 0 then (0, a.2) else if l.length = 1 then oneF k a.1 else if k = 16 ∧ a.1 = 0 then (0, 0) else if k = 17 ∧ a.1 ≠ 0 then (1, 0) else
      match r with
      | [] => (0, 0)
      | b :: _ => if b.2 ≠ 0 then (0, b.2) else twoF k a.1 b.1
def evalL (vars : List Int) : List Ex → List (Int × Int)
  | [] => []
  | x :: l => evalF vars x :: evalL vars l
end
mutual
def rightF (v : Int) : Ex → Bool
  | .mk k n s l => (if k = 1 ∧ 0 ≤ n then decide (l.length = 0) else if k = 2 ∧ 0 ≤ n ∧ n < v then decide (l.length = 0) else if k = 3 ∨ k = 4 then decide (l.length = 1 ∧ n = 0) else if 5 ≤ k ∧ k ≤ 17 then decide (l.length = 2 ∧ n = 0) else false)
     && decide (s = []) && rightL v l
def rightL (v : Int) : List Ex → Bool
  | [] => true
  | x :: l => rightF v x && rightL v l
end
mutual
def smF : Ex → Bool
  | .mk k n s l => decide (l.length < 1000000000) && smL l
def smL : List Ex → Bool
  | [] => true
  | x :: l => smF x && smL l
end
theorem smL_all : ∀ {l : List Ex}, smL l = true → ∀ x ∈ l, smF x = true
  | [], _, x, hx => by cases hx
  | y :: l, h, x, hx => by
    simp only [smL, Bool.and_eq_true] at h
    rcases List.mem_cons.1 hx with rfl | hx
    · exact h.1
    · exact smL_all h.2 x hx
end
end Go.Proofs.YtlbpiiehanibfaaDoor
namespace Go.Proofs.YtlbpiiehanibfaaDoor
open Go Go.RowKit Go.Ev Go.Dv
noncomputable section
set_option maxRecDepth 100000
variable (G : Nat × Nat)
abbrev eI : Nat := 3
def ivs (l : List Int) : List Value := l.map (Value.int .i64)
def ivV (l : List Int) : Value := Rw false eI l.length (ivs l)
theorem ivs_len (l : List Int) : (ivs l).length = l.length := by simp [ivs]
theorem ivs_sc (n : Nat) : ∀ l : List Int, scL n (ivs l) = true
  | [] => rfl
  | x :: l => by
    have := ivs_sc n l
    simp only [ivs] at this
    simp [ivs, scL, sc, this]
theorem ivV_sc (n : Nat) (hn : 0 < n) (l : List Int) : sc n (ivV l) = true := by
  have := ivs_sc n l
  simp [ivV, sc, Rw, scL, this, hn]
theorem ivs_part {l : List Int} {i : Nat} (h : i < l.length) : partL false 0 (ivs l) (i * 1) = some (.int .i64 (l.getD i 0)) := by
  simp [partL, ivs, h]
theorem exCs_take {l : List Ex} {i : Nat} {x : Ex} (h : l[i]? = some x) : ((exCs l).drop (i * 4)).take 4 = exC x := by
  have := exCs_part h
  have hi : i < l.length := (List.getElem?_eq_some_iff.1 h).1
  have hle : i * 4 + 4 ≤ (exCs l).length := by rw [exCs_len]; omega
  simp only [partL, if_pos hle, exV, Option.some.injEq, Value.agg.injEq, Array.mk.injEq] at this
  exact this
theorem exCs_p0 (x : Ex) (l : List Ex) : (exCs (x :: l)).take 4 = exC x := exCs_take (l := x :: l) (i := 0) rfl
theorem exCs_p1 (x y : Ex) (l : List Ex) : ((exCs (x :: y :: l)).drop 4).take 4 = exC y := exCs_take (l := x :: y :: l) (i := 1) rfl
theorem exV_fold (x : Ex) : Value.agg ⟨exC x⟩ = exV x := rfl
attribute [push_cast] exCs_len ivs_len exCs_p0 exCs_p1 exV_fold Int.toNat_zero Int.toNat_one Int.natCast_one exCs_sc ivs_sc ivV_sc exV_sc exC_sc exCs_one exC_one H0_lo H0_next
theorem exV_cells (x : Ex) : (exV x).cells.toList = exC x := rfl
theorem exC_take (x : Ex) : (exC x).take 4 = exC x := List.take_of_length_le (by rw [exC_len]; exact Nat.le_refl _)
theorem exC_drop (x : Ex) : (exC x).drop 4 = [] := List.drop_of_length_le (by rw [exC_len]; exact Nat.le_refl _)
attribute [push_cast] exV_cells exC_take exC_drop exC_len
theorem rightL_all {v : Int} : ∀ {l : List Ex}, rightL v l = true → ∀ x ∈ l, rightF v x = true
  | [], _, x, hx => by cases hx
  | y :: l, h, x, hx => by
    simp only [rightL, Bool.and_eq_true] at h
    rcases List.mem_cons.1 hx with rfl | hx
    · exact h.1
    · exact rightL_all h.2 x hx
theorem evalF_1 {vars : List Int} {k n : Int} {s : List UInt8} {a : Ex} (h1 : ¬ k = 1) (h2 : ¬ k = 2) : evalF vars (.mk k n s [a]) = if (evalF vars a).2 = 0 then oneF k (evalF vars a).1 else (0, (evalF vars a).2) := by
  rw [evalF, if_neg h1, if_neg h2]
  simp only [evalL, List.length_cons, List.length_nil, if_true, ne_eq, ite_not]
theorem evalF_2 {vars : List Int} {k n : Int} {s : List UInt8} {a b : Ex} (h1 : ¬ k = 1) (h2 : ¬ k = 2) : evalF vars (.mk k n s [a, b]) = if (evalF vars a).2 = 0 then (if k = 16 ∧ (evalF vars a).1 = 0 then (0, 0) else if k = 17 ∧ (evalF vars a).1 ≠ 0 then (1, 0) else
      if (evalF vars b).2 = 0 then twoF k (evalF vars a).1 (evalF vars b).1 else (0, (evalF vars b).2)) else (0, (evalF vars a).2) := by
  rw [evalF, if_neg h1, if_neg h2]
  simp only [evalL, List.length_cons, List.length_nil, ne_eq, ite_not, Nat.reduceEqDiff, if_false]
theorem eval_f (vars : List Int) : ∀ x : Ex, rightF vars.length x = true → CallF (pp G) H0 44 [exV x, ivV vars] (t2 (evalF vars x))
  | .mk k n s l, hr => by
    have ih : ∀ x ∈ l, rightF vars.length x = true → CallF (pp G) H0 44 [exV x, ivV vars] (t2 (evalF vars x)) := fun x hx h => eval_f vars x h
    simp only [rightF, Bool.and_eq_true] at hr
    obtain ⟨⟨hr1, hr2⟩, hr3⟩ := hr
    have hall := rightL_all hr3
    have hlo : H0.lo ≤ H0.next := Nat.le_refl _; refine CallF.cut (CallD.fir4 (q := qq) (good G) fir44 ok_ir44 rfl rfl (F81_arr ..) (Nat.le_refl _) ?_); rw [sd_ir44]
    unfold exV exC
    by_cases h1 : k = 1
    · rw [evalF, if_pos h1]
      simp (disch:=first|omega|(refine id ?_;simp only[push_cast];first|done|omega)) only [push_cast,Nat.reduceMul,Nat.reduceEqDiff,Int.reduceAdd,Int.reduceEq,h1]
      exact .id rfl
    by_cases h2 : k = 2
    · rw [evalF, if_neg h1, if_pos h2]
      have hn : 0 ≤ n ∧ n < vars.length := by
        rw [if_neg (fun h => h1 h.1)] at hr1
        by_cases hx : k = 2 ∧ 0 ≤ n ∧ n < vars.length
        · exact hx.2
        · rw [if_neg hx, if_neg (by omega), if_neg (by omega)] at hr1
          cases hr1
      have hp := ivs_part (l := vars) (i := n.toNat) (by omega)
      rw [Nat.mul_one] at hp
      unfold ivV
      simp (disch:=first|omega|(refine id ?_;simp only[push_cast];first|done|omega)) only [push_cast,Nat.reduceMul,Nat.reduceEqDiff,Int.reduceAdd,Int.reduceEq,h1,h2,hp]
      exact .id rfl
    rw [if_neg (fun h => h1 h.1), if_neg (fun h => h2 h.1)] at hr1
    by_cases h3 : k = 3 ∨ k = 4
    · rw [if_pos h3, decide_eq_true_eq] at hr1
      obtain ⟨a, rfl⟩ : ∃ a, l = [a] := List.length_eq_one_iff.1 hr1.1
      have ha := ih a (by simp) (hall a (by simp))
      rw [evalF_1 h1 h2]
      simp (disch:=first|omega|(refine id ?_;simp only[push_cast];first|done|omega)) only [push_cast,Nat.reduceMul,Nat.reduceEqDiff,Int.reduceAdd,Int.reduceEq,h1,h2]
      refine CallVD.data (ha) (by first | exact FzL.ids rfl | (refine FzL.ids ?_; simp (disch:=first|omega|(refine id ?_;simp only[push_cast];first|done|omega)) only [push_cast])) (by first | rfl | (simp (disch:=first|omega|(refine id ?_;simp only[push_cast];first|done|omega)) only [push_cast])) (by first | rfl | (simp (disch:=first|omega|(refine id ?_;simp only[push_cast];first|done|omega)) only [push_cast])) ?_
      by_cases h4 : (evalF vars a).2 = 0
      · rw [if_pos h4]
        simp (disch:=first|omega|(refine id ?_;simp only[push_cast];first|done|omega)) only [push_cast,Nat.reduceMul,Nat.reduceEqDiff,Int.reduceAdd,Int.reduceEq,h4]
        refine CallVD.data (one_f G k (evalF vars a).1) (by first | exact FzL.ids rfl | (refine FzL.ids ?_; simp (disch:=first|omega|(refine id ?_;simp only[push_cast];first|done|omega)) only [push_cast])) (by first | rfl | (simp (disch:=first|omega|(refine id ?_;simp only[push_cast];first|done|omega)) only [push_cast])) (by first | rfl | (simp (disch:=first|omega|(refine id ?_;simp only[push_cast];first|done|omega)) only [push_cast])) ?_
        simp (disch:=first|omega|(refine id ?_;simp only[push_cast];first|done|omega)) only [push_cast,Nat.reduceMul,Nat.reduceEqDiff,Int.reduceAdd,Int.reduceEq]
        exact .id rfl
      · rw [if_neg h4]
        simp (disch:=first|omega|(refine id ?_;simp only[push_cast];first|done|omega)) only [push_cast,Nat.reduceMul,Nat.reduceEqDiff,Int.reduceAdd,Int.reduceEq,h4]
        exact .id rfl
    · have hbd : 5 ≤ k ∧ k ≤ 17 := by
        rw [if_neg h3] at hr1
        by_cases hx : 5 ≤ k ∧ k ≤ 17
        · exact hx
        · rw [if_neg hx] at hr1; cases hr1
      rw [if_neg h3, if_pos hbd, decide_eq_true_eq] at hr1
      obtain ⟨a, b, rfl⟩ : ∃ a b, l = [a, b] := by
        match l, hr1.1 with
        | [a, b], _ => exact ⟨a, b, rfl⟩
      have ha := ih a (by simp) (hall a (by simp))
      have hb := ih b (by simp) (hall b (by simp))
      rw [evalF_2 h1 h2]
      simp (disch:=first|omega|(refine id ?_;simp only[push_cast];first|done|omega)) only [push_cast,Nat.reduceMul,Nat.reduceEqDiff,Int.reduceAdd,Int.reduceEq,h1,h2]
      refine CallVD.data (ha) (by first | exact FzL.ids rfl | (refine FzL.ids ?_; simp (disch:=first|omega|(refine id ?_;simp only[push_cast];first|done|omega)) only [push_cast])) (by first | rfl | (simp (disch:=first|omega|(refine id ?_;simp only[push_cast];first|done|omega)) only [push_cast])) (by first | rfl | (simp (disch:=first|omega|(refine id ?_;simp only[push_cast];first|done|omega)) only [push_cast])) ?_
      by_cases h4 : (evalF vars a).2 = 0
      · rw [if_pos h4]
        by_cases h5 : k = 16 ∧ (evalF vars a).1 = 0
        · rw [if_pos h5]
          obtain ⟨h5, h6⟩ := h5
          simp (disch:=first|omega|(refine id ?_;simp only[push_cast];first|done|omega)) only [push_cast,Nat.reduceMul,Nat.reduceEqDiff,Int.reduceAdd,Int.reduceEq,h4,h5,h6]
          exact .id rfl
        rw [if_neg h5]
        by_cases h6 : k = 17 ∧ (evalF vars a).1 ≠ 0
        · rw [if_pos h6]
          obtain ⟨h6, h7⟩ := h6
          simp (disch:=first|omega|(refine id ?_;simp only[push_cast];first|done|omega)) only [push_cast,Nat.reduceMul,Nat.reduceEqDiff,Int.reduceAdd,Int.reduceEq,h4,h6,h7]
          exact .id rfl
        rw [if_neg h6]
        have key : ∀ (K : Value → Heap → Prop), True := fun _ => trivial
        by_cases h8 : k = 16
        · have h9 : ¬ (evalF vars a).1 = 0 := fun h => h5 ⟨h8, h⟩
          subst h8
          simp (disch:=first|omega|(refine id ?_;simp only[push_cast];first|done|omega)) only [push_cast,Nat.reduceMul,Nat.reduceEqDiff,Int.reduceAdd,Int.reduceEq,h4,h9]
          refine CallVD.data (hb) (by first | exact FzL.ids rfl | (refine FzL.ids ?_; simp (disch:=first|omega|(refine id ?_;simp only[push_cast];first|done|omega)) only [push_cast])) (by first | rfl | (simp (disch:=first|omega|(refine id ?_;simp only[push_cast];first|done|omega)) only [push_cast])) (by first | rfl | (simp (disch:=first|omega|(refine id ?_;simp only[push_cast];first|done|omega)) only [push_cast])) ?_
          by_cases h10 : (evalF vars b).2 = 0
          · rw [if_pos h10]; simp (disch:=first|omega|(refine id ?_;simp only[push_cast];first|done|omega)) only [push_cast,Nat.reduceMul,Nat.reduceEqDiff,Int.reduceAdd,Int.reduceEq,h10]; refine CallVD.data (two_f G 16 (evalF vars a).1 (evalF vars b).1) (by first | exact FzL.ids rfl | (refine FzL.ids ?_; simp (disch:=first|omega|(refine id ?_;simp only[push_cast];first|done|omega)) only [push_cast])) (by first | rfl | (simp (disch:=first|omega|(refine id ?_;simp only[push_cast];first|done|omega)) only [push_cast])) (by first | rfl | (simp (disch:=first|omega|(refine id ?_;simp only[push_cast];first|done|omega)) only [push_cast])) ?_; simp (disch:=first|omega|(refine id ?_;simp only[push_cast];first|done|omega)) only [push_cast,Nat.reduceMul,Nat.reduceEqDiff,Int.reduceAdd,Int.reduceEq]; exact .id rfl
          · rw [if_neg h10]; simp (disch:=first|omega|(refine id ?_;simp only[push_cast];first|done|omega)) only [push_cast,Nat.reduceMul,Nat.reduceEqDiff,Int.reduceAdd,Int.reduceEq,h10]; exact .id rfl
        by_cases h9 : k = 17
        · have h9' : (evalF vars a).1 = 0 := Classical.byContradiction fun h => h6 ⟨h9, h⟩
          subst h9
          simp (disch:=first|omega|(refine id ?_;simp only[push_cast];first|done|omega)) only [push_cast,Nat.reduceMul,Nat.reduceEqDiff,Int.reduceAdd,Int.reduceEq,h4,h9']
          refine CallVD.data (hb) (by first | exact FzL.ids rfl | (refine FzL.ids ?_; simp (disch:=first|omega|(refine id ?_;simp only[push_cast];first|done|omega)) only [push_cast])) (by first | rfl | (simp (disch:=first|omega|(refine id ?_;simp only[push_cast];first|done|omega)) only [push_cast])) (by first | rfl | (simp (disch:=first|omega|(refine id ?_;simp only[push_cast];first|done|omega)) only [push_cast])) ?_
          by_cases h10 : (evalF vars b).2 = 0
          · rw [if_pos h10]; simp (disch:=first|omega|(refine id ?_;simp only[push_cast];first|done|omega)) only [push_cast,Nat.reduceMul,Nat.reduceEqDiff,Int.reduceAdd,Int.reduceEq,h10]; refine CallVD.data (two_f G 17 0 (evalF vars b).1) (by first | exact FzL.ids rfl | (refine FzL.ids ?_; simp (disch:=first|omega|(refine id ?_;simp only[push_cast];first|done|omega)) only [push_cast])) (by first | rfl | (simp (disch:=first|omega|(refine id ?_;simp only[push_cast];first|done|omega)) only [push_cast])) (by first | rfl | (simp (disch:=first|omega|(refine id ?_;simp only[push_cast];first|done|omega)) only [push_cast])) ?_; simp (disch:=first|omega|(refine id ?_;simp only[push_cast];first|done|omega)) only [push_cast,Nat.reduceMul,Nat.reduceEqDiff,Int.reduceAdd,Int.reduceEq,h9']; exact .id rfl
          · rw [if_neg h10]; simp (disch:=first|omega|(refine id ?_;simp only[push_cast];first|done|omega)) only [push_cast,Nat.reduceMul,Nat.reduceEqDiff,Int.reduceAdd,Int.reduceEq,h10]; exact .id rfl
        simp (disch:=first|omega|(refine id ?_;simp only[push_cast];first|done|omega)) only [push_cast,Nat.reduceMul,Nat.reduceEqDiff,Int.reduceAdd,Int.reduceEq,h4,h8,h9]
        refine CallVD.data (hb) (by first | exact FzL.ids rfl | (refine FzL.ids ?_; simp (disch:=first|omega|(refine id ?_;simp only[push_cast];first|done|omega)) only [push_cast])) (by first | rfl | (simp (disch:=first|omega|(refine id ?_;simp only[push_cast];first|done|omega)) only [push_cast])) (by first | rfl | (simp (disch:=first|omega|(refine id ?_;simp only[push_cast];first|done|omega)) only [push_cast])) ?_
        by_cases h10 : (evalF vars b).2 = 0
        · rw [if_pos h10]; simp (disch:=first|omega|(refine id ?_;simp only[push_cast];first|done|omega)) only [push_cast,Nat.reduceMul,Nat.reduceEqDiff,Int.reduceAdd,Int.reduceEq,h10]; refine CallVD.data (two_f G k (evalF vars a).1 (evalF vars b).1) (by first | exact FzL.ids rfl | (refine FzL.ids ?_; simp (disch:=first|omega|(refine id ?_;simp only[push_cast];first|done|omega)) only [push_cast])) (by first | rfl | (simp (disch:=first|omega|(refine id ?_;simp only[push_cast];first|done|omega)) only [push_cast])) (by first | rfl | (simp (disch:=first|omega|(refine id ?_;simp only[push_cast];first|done|omega)) only [push_cast])) ?_; simp (disch:=first|omega|(refine id ?_;simp only[push_cast];first|done|omega)) only [push_cast,Nat.reduceMul,Nat.reduceEqDiff,Int.reduceAdd,Int.reduceEq]; exact .id rfl
        · rw [if_neg h10]; simp (disch:=first|omega|(refine id ?_;simp only[push_cast];first|done|omega)) only [push_cast,Nat.reduceMul,Nat.reduceEqDiff,Int.reduceAdd,Int.reduceEq,h10]; exact .id rfl
      · rw [if_neg h4]
        simp (disch:=first|omega|(refine id ?_;simp only[push_cast];first|done|omega)) only [push_cast,Nat.reduceMul,Nat.reduceEqDiff,Int.reduceAdd,Int.reduceEq,h4]
        exact .id rfl
  termination_by x => SizeOf.sizeOf x
end
end Go.Proofs.YtlbpiiehanibfaaDoor
namespace Go.Proofs.YtlbpiiehanibfaaDoor
open Go Go.RowKit Go.Ev Go.Dv
noncomputable section
set_option maxRecDepth 100000
variable (G : Nat × Nat)
theorem s_empty (s : List UInt8) : ((Tx s).data.toList == (Tx []).data.toList) = decide (s = []) := by
  cases s <;> simp [Tx]
attribute [push_cast] s_empty b_neqs b_eqls
theorem rightL_take {v : Int} {l : List Ex} {i : Nat} {x : Ex} (h : l[i]? = some x) : rightL v (l.take (i + 1)) = (rightL v (l.take i) && rightF v x) := by
  have hi := (List.getElem?_eq_some_iff.1 h).1
  have app : ∀ a b : List Ex, rightL v (a ++ b) = (rightL v a && rightL v b) := by
    intro a b
    induction a with
    | nil => simp [rightL]
    | cons x a ih => simp [rightL, ih, Bool.and_assoc]
  rw [List.take_add_one, h, app]
  simp [rightL]
theorem rightL_no {v : Int} {l : List Ex} {x : Ex} (h : x ∈ l) (hx : rightF v x = false) : rightL v l = false := by
  cases hc : rightL v l with
  | false => rfl
  | true => rw [rightL_all hc x h] at hx; cases hx
inductive I27 (v : Int) (l : List Ex) : Nat → S → Prop
  | mk (i : Nat) (iv : Int) (h : Heap) {x0 x2 x3 x4 x5 x6 x7 x8 x9 x10 x11 x12 x13 x14 x15 x16 x17 x18 x19 x20 x21 x22 x23 x24 x25 x26 x27 x28 x29 x30 x31 x32 x33 x34 x35 x36 x37 x38 x39 x40 x41 x42 x43 x44 x45 x46 x47 x48 x49 x50 x51 x52 x53 x54 x55 x56 x57 x58 x59 x60 x61 x62 x63 x64 x65 x66 x67 x68 x69 x73 x74 x75 x76 x77 x78 x79 x80 : Value} (hiv : iv = (i : Int)) (hi : i ≤ l.length) (hok : rightL v (l.take i) = true) (hl1 : h.lo = 6) (hl2 : 6 ≤ h.next) :
    I27 v l (l.length - i) ⟨(F81 x0 (.int .i64 v) x2 x3 x4 x5 x6 x7 x8 x9 x10 x11 x12 x13 x14 x15 x16 x17 x18 x19 x20 x21 x22 x23 x24 x25 x26 x27 x28 x29 x30 x31 x32 x33 x34 x35 x36 x37 x38 x39 x40 x41 x42 x43 x44 x45 x46 x47 x48 x49 x50 x51 x52 x53 x54 x55 x56 x57 x58 x59 x60 x61 x62 x63 x64 x65 x66 x67 x68 x69 (Rw false eE l.length (exCs l)) (.int .i64 l.length) (.int .i64 iv) x73 x74 x75 x76 x77 x78 x79 x80), [], h⟩
theorem right_s0 (v c k n : Int) (s : List UInt8) (l : List Ex) (hll : l.length < 1000000000) (ih : ∀ x ∈ l, CallF (pp G) H0 27 [exV x, .int .i64 v] (.bool (rightF v x))) {x0 x3 x4 x6 x7 x8 x9 x10 x11 x12 x13 x14 x15 x16 x17 x18 x19 x20 x21 x22 x23 x24 x25 x26 x27 x28 x29 x30 x31 x32 x33 x34 x35 x36 x37 x38 x39 x40 x41 x42 x43 x44 x45 x46 x47 x48 x49 x50 x51 x52 x53 x54 x55 x56 x57 x58 x59 x60 x61 x62 x63 x64 x65 x66 x67 x68 x69 x70 x71 x72 x73 x74 x75 x76 x77 x78 x79 x80 : Value} (b : Bool)
    (hb : b = (decide (s = []) && decide ((l.length : Int) = c) && decide (c = 0 ∨ n = 0) && rightL v l)) :
    dc3 (pp G) qq none ir27_s0 ⟨(F81 x0 (.int .i64 v) (.pointer (some ⟨6, 0, none⟩)) x3 x4 (.int .i64 c) x6 x7 x8 x9 x10 x11 x12 x13 x14 x15 x16 x17 x18 x19 x20 x21 x22 x23 x24 x25 x26 x27 x28 x29 x30 x31 x32 x33 x34 x35 x36 x37 x38 x39 x40 x41 x42 x43 x44 x45 x46 x47 x48 x49 x50 x51 x52 x53 x54 x55 x56 x57 x58 x59 x60 x61 x62 x63 x64 x65 x66 x67 x68 x69 x70 x71 x72 x73 x74 x75 x76 x77 x78 x79 x80), [], H0.add (O [.int .i64 k, .int .i64 n, .string (Tx s), Rw false eE l.length (exCs l)] 27 false)⟩ (@kR ⟨finR Tryd.prog [.tmp 4] (fun v' σ' => FzV Tryd.prog 6 σ' v' (.bool b))⟩) := by
  rw [sd_ir27_s0]
  have key : ∀ {x50 x51 x52 x53 x54 x55 x56 x57 x58 x59 x60 x61 x62 x63 x64 x65 x66 x67 x68 x69 : Value} (hb : b = rightL v l) (h : Heap) (hl1 : h.lo = 6) (hl2 : 6 ≤ h.next), WD (pp G) qq.H none (.loop ir27_s1) ⟨(F81 x0 (.int .i64 v) (.pointer (some ⟨6, 0, none⟩)) x3 x4 (.int .i64 c) x6 x7 x8 x9 x10 x11 x12 x13 x14 x15 x16 x17 x18 x19 x20 x21 x22 x23 x24 x25 x26 x27 x28 x29 x30 x31 x32 x33 x34 x35 x36 x37 x38 x39 x40 x41 x42 x43 x44 x45 x46 x47 x48 x49 x50 x51 x52 x53 x54 x55 x56 x57 x58 x59 x60 x61 x62 x63 x64 x65 x66 x67 x68 x69 (Rw false eE l.length (exCs l)) (.int .i64 l.length) (.int .i64 0) x73 x74 x75 x76 x77 x78 x79 x80), [], h⟩
      (@kR ⟨outR3 1 (thenR3 (fun s1 => dc3 (pp G) qq none ir27_s2 s1 (@kR ⟨@kR ⟨finR Tryd.prog [.tmp 4] (fun v' σ' => FzV Tryd.prog 6 σ' v' (.bool b))⟩⟩)) (@kR ⟨finR Tryd.prog [.tmp 4] (fun v' σ' => FzV Tryd.prog 6 σ' v' (.bool b))⟩))⟩) := by
    intro x50 x51 x52 x53 x54 x55 x56 x57 x58 x59 x60 x61 x62 x63 x64 x65 x66 x67 x68 x69 hb h hl1 hl2
    refine WD.loop4 (q := qq) (good G) ok_ir27_s1 (I27 v l) ?_ _ _ (I27.mk 0 0 h rfl (Nat.zero_le _) rfl hl1 hl2)
    intro m s1 hI
    cases hI with | mk i iv h hiv hi hok hl1 hl2 =>
    subst hiv
    rw [sd_ir27_s1]
    by_cases hil : (i : Int) < l.length
    · obtain ⟨x, hx⟩ : ∃ x, l[i]? = some x := ⟨_, List.getElem?_eq_getElem (by omega)⟩
      have hxm := List.mem_of_getElem? hx
      have hp := exCs_take hx
      have hle : i * 4 + 4 ≤ l.length * 4 := by omega
      simp (disch:=first|omega|(refine id ?_;simp only[push_cast];first|done|omega)) only [push_cast,Int.reduceLE,Int.reduceEq,hil,Int.toNat_natCast,hp,hle,hl1]
      refine CallVD.data (ih x hxm) (by first | exact FzL.ids rfl | (refine FzL.ids ?_; simp (disch:=first|omega|(refine id ?_;simp only[push_cast];first|done|omega)) only [push_cast])) (by first | rfl | (simp (disch:=first|omega|(refine id ?_;simp only[push_cast];first|done|omega)) only [push_cast])) (by first | rfl | (simp (disch:=first|omega|(refine id ?_;simp only[push_cast];first|done|omega)) only [push_cast])) ?_
      cases hr : rightF v x with
      | true =>
        simp (disch:=first|omega|(refine id ?_;simp only[push_cast];first|done|omega)) only [push_cast,Int.reduceLE,Int.reduceEq]
        exact ⟨_,by omega,I27.mk (i + 1) _ _ (by first | rfl | omega) (by omega) (by rw [rightL_take hx,hok,hr]; rfl) (by first | (simp (disch:=first|omega|(refine id ?_;simp only[push_cast];first|done|omega)) only [push_cast,Int.reduceLE,Int.reduceEq,hl1]; done) | (simp (disch:=first|omega|(refine id ?_;simp only[push_cast];first|done|omega)) only [push_cast,Int.reduceLE,Int.reduceEq]; omega)) (by first | (simp (disch:=first|omega|(refine id ?_;simp only[push_cast];first|done|omega)) only [push_cast,Int.reduceLE,Int.reduceEq]; done) | (simp (disch:=first|omega|(refine id ?_;simp only[push_cast];first|done|omega)) only [push_cast,Int.reduceLE,Int.reduceEq]; omega))⟩
      | false =>
        rw [rightL_no hxm hr] at hb
        subst hb
        simp (disch:=first|omega|(refine id ?_;simp only[push_cast];first|done|omega)) only [push_cast,Int.reduceLE,Int.reduceEq]
        exact .id rfl
    · have hie : i = l.length := by omega
      subst hie
      rw [List.take_length] at hok
      rw [hok] at hb
      subst hb
      simp (disch:=first|omega|(refine id ?_;simp only[push_cast];first|done|omega)) only [push_cast,Int.reduceLE,Int.reduceEq,hil]
      exact .id rfl
  by_cases h1 : s = []
  · by_cases h2 : (l.length : Int) = c
    · subst h2
      by_cases h3 : (0 : Int) < l.length
      · by_cases h4 : n = 0
        · simp (disch:=first|omega|(refine id ?_;simp only[push_cast];first|done|omega)) only [push_cast,Int.reduceLE,Int.reduceEq,h1,h3,h4,beq_self_eq_true]
          exact key (by rw [hb]; simp [h1,h4]) _ (by simp (disch:=first|omega|(refine id ?_;simp only[push_cast];first|done|omega)) only [push_cast,Int.reduceLE,Int.reduceEq]) (by first | (simp (disch:=first|omega|(refine id ?_;simp only[push_cast];first|done|omega)) only [push_cast,Int.reduceLE,Int.reduceEq]; done) | (simp (disch:=first|omega|(refine id ?_;simp only[push_cast];first|done|omega)) only [push_cast,Int.reduceLE,Int.reduceEq]; omega))
        · have hno : ¬ ((l.length : Int) = 0 ∨ n = 0) := by omega
          have : b = false := by rw [hb, decide_eq_false hno]; simp
          subst this
          simp (disch:=first|omega|(refine id ?_;simp only[push_cast];first|done|omega)) only [push_cast,Int.reduceLE,Int.reduceEq,h1,h3,h4,beq_self_eq_true]
          exact .id rfl
      · simp (disch:=first|omega|(refine id ?_;simp only[push_cast];first|done|omega)) only [push_cast,Int.reduceLE,Int.reduceEq,h1,h3,beq_self_eq_true]
        exact key (by rw [hb,decide_eq_true (show (l.length : Int) = 0 ∨ n = 0 by omega)]; simp [h1]) _ (by simp (disch:=first|omega|(refine id ?_;simp only[push_cast];first|done|omega)) only [push_cast,Int.reduceLE,Int.reduceEq]) (by first | (simp (disch:=first|omega|(refine id ?_;simp only[push_cast];first|done|omega)) only [push_cast,Int.reduceLE,Int.reduceEq]; done) | (simp (disch:=first|omega|(refine id ?_;simp only[push_cast];first|done|omega)) only [push_cast,Int.reduceLE,Int.reduceEq]; omega))
    · have : b = false := by rw [hb]; simp [h2]
      subst this
      simp (disch:=first|omega|(refine id ?_;simp only[push_cast];first|done|omega)) only [push_cast,Int.reduceLE,Int.reduceEq,h1,h2,beq_self_eq_true]
      exact .id rfl
  · have : b = false := by rw [hb]; simp [h1]
    subst this
    have hs : (s == []) = false := by simpa using h1
    simp (disch:=first|omega|(refine id ?_;simp only[push_cast];first|done|omega)) only [push_cast,Int.reduceLE,Int.reduceEq,hs]
    exact .id rfl
theorem right_f (v : Int) : ∀ x : Ex, smF x = true → CallF (pp G) H0 27 [exV x, .int .i64 v] (.bool (rightF v x))
  | .mk k n s l, hsm => by
    simp only [smF, Bool.and_eq_true, decide_eq_true_eq] at hsm
    have hall := smL_all hsm.2
    have ih : ∀ x ∈ l, CallF (pp G) H0 27 [exV x, .int .i64 v] (.bool (rightF v x)) := fun x hx => right_f v x (hall x hx)
    have hlo : H0.lo ≤ H0.next := Nat.le_refl _; refine CallF.cut (CallD.fir4 (q := qq) (good G) fir27 ok_ir27 rfl rfl (F81_arr ..) (Nat.le_refl _) ?_); rw [sd_ir27]
    unfold exV exC
    rw [rightF]
    have hq : ∀ (c : Int) (A : Bool), A = (decide ((l.length : Int) = c) && decide (c = 0 ∨ n = 0)) → (A && decide (s = []) && rightL v l) = (decide (s = []) && decide ((l.length : Int) = c) && decide (c = 0 ∨ n = 0) && rightL v l) := fun c A hA => by
      rw [hA]
      cases decide (s = []) <;> cases decide ((l.length : Int) = c) <;> cases decide (c = 0 ∨ n = 0) <;> rfl
    by_cases h1 : k = 1
    · by_cases h2 : 0 ≤ n
      · rw [if_pos ⟨h1, h2⟩]
        simp (disch:=first|omega|(refine id ?_;simp only[push_cast];first|done|omega)) only [push_cast,Int.reduceLE,Int.reduceEq,h1,h2]
        exact right_s0 G v 0 1 n s l hsm.1 ih _ (hq 0 (decide (l.length = 0)) (by rw [Bool.eq_iff_iff]; simp only [Bool.and_eq_true, decide_eq_true_eq]; constructor <;> intro hz <;> first | omega | exact ⟨by omega, by first | omega | exact .inl rfl⟩ | exact ⟨by omega, by simp⟩ | exact hz.1 | (simp at hz ⊢; omega)))
      · rw [if_neg (by omega), if_neg (by omega), if_neg (by omega), if_neg (by omega)]
        subst h1
        simp (disch:=first|omega|(refine id ?_;simp only[push_cast];first|done|omega)) only [push_cast,Int.reduceLE,Int.reduceEq,h2]
        exact .id rfl
    rw [if_neg (by omega)]
    by_cases h2 : k = 2
    · by_cases h3 : 0 ≤ n
      · by_cases h4 : n < v
        · rw [if_pos ⟨h2, h3, h4⟩]
          subst h2
          simp (disch:=first|omega|(refine id ?_;simp only[push_cast];first|done|omega)) only [push_cast,Int.reduceLE,Int.reduceEq,h3,h4]
          exact right_s0 G v 0 2 n s l hsm.1 ih _ (hq 0 (decide (l.length = 0)) (by rw [Bool.eq_iff_iff]; simp only [Bool.and_eq_true, decide_eq_true_eq]; constructor <;> intro hz <;> first | omega | exact ⟨by omega, by first | omega | exact .inl rfl⟩ | exact ⟨by omega, by simp⟩ | exact hz.1 | (simp at hz ⊢; omega)))
        · rw [if_neg (by omega), if_neg (by omega), if_neg (by omega)]
          subst h2
          simp (disch:=first|omega|(refine id ?_;simp only[push_cast];first|done|omega)) only [push_cast,Int.reduceLE,Int.reduceEq,h3,h4]
          exact .id rfl
      · rw [if_neg (by omega), if_neg (by omega), if_neg (by omega)]
        subst h2
        simp (disch:=first|omega|(refine id ?_;simp only[push_cast];first|done|omega)) only [push_cast,Int.reduceLE,Int.reduceEq,h3]
        exact .id rfl
    rw [if_neg (by omega)]
    by_cases h3 : k = 3
    · rw [if_pos (.inl h3)]
      subst h3
      simp (disch:=first|omega|(refine id ?_;simp only[push_cast];first|done|omega)) only [push_cast,Int.reduceLE,Int.reduceEq]
      exact right_s0 G v 1 3 n s l hsm.1 ih _ (hq 1 (decide (l.length = 1 ∧ n = 0)) (by rw [Bool.eq_iff_iff]; simp only [Bool.and_eq_true, decide_eq_true_eq]; constructor <;> intro hz <;> first | omega | exact ⟨by omega, by first | omega | exact .inl rfl⟩ | exact ⟨by omega, by simp⟩ | exact hz.1 | (simp at hz ⊢; omega)))
    by_cases h4 : k = 4
    · rw [if_pos (.inr h4)]
      subst h4
      simp (disch:=first|omega|(refine id ?_;simp only[push_cast];first|done|omega)) only [push_cast,Int.reduceLE,Int.reduceEq]
      exact right_s0 G v 1 4 n s l hsm.1 ih _ (hq 1 (decide (l.length = 1 ∧ n = 0)) (by rw [Bool.eq_iff_iff]; simp only [Bool.and_eq_true, decide_eq_true_eq]; constructor <;> intro hz <;> first | omega | exact ⟨by omega, by first | omega | exact .inl rfl⟩ | exact ⟨by omega, by simp⟩ | exact hz.1 | (simp at hz ⊢; omega)))
    rw [if_neg (by omega)]
    by_cases h5 : 5 ≤ k
    · by_cases h6 : k ≤ 17
      · rw [if_pos ⟨h5, h6⟩]
        simp (disch:=first|omega|(refine id ?_;simp only[push_cast];first|done|omega)) only [push_cast,Int.reduceLE,Int.reduceEq,h1,h2,h3,h4,h5,h6]
        exact right_s0 G v 2 k n s l hsm.1 ih _ (hq 2 (decide (l.length = 2 ∧ n = 0)) (by rw [Bool.eq_iff_iff]; simp only [Bool.and_eq_true, decide_eq_true_eq]; constructor <;> intro hz <;> first | omega | exact ⟨by omega, by first | omega | exact .inl rfl⟩ | exact ⟨by omega, by simp⟩ | exact hz.1 | (simp at hz ⊢; omega)))
      · rw [if_neg (by omega)]
        simp (disch:=first|omega|(refine id ?_;simp only[push_cast];first|done|omega)) only [push_cast,Int.reduceLE,Int.reduceEq,h1,h2,h3,h4,h5,h6]
        exact .id rfl
    · rw [if_neg (by omega)]
      simp (disch:=first|omega|(refine id ?_;simp only[push_cast];first|done|omega)) only [push_cast,Int.reduceLE,Int.reduceEq,h1,h2,h3,h4,h5]
      exact .id rfl
  termination_by x => SizeOf.sizeOf x
end
end Go.Proofs.YtlbpiiehanibfaaDoor
namespace Go.Proofs.YtlbpiiehanibfaaDoor
open Go Go.RowKit Go.Ev Go.Dv
noncomputable section
set_option maxRecDepth 100000
variable (G : Nat × Nat)
theorem bit_f (b : Bool) : CallF (pp G) H0 45 [.bool b] (t2 (truthF b, 0)) := by
  have hlo : H0.lo ≤ H0.next := Nat.le_refl _; refine CallF.cut (CallD.fir4 (q := qq) (good G) fir45 ok_ir45 rfl rfl (F5_arr ..) (Nat.le_refl _) ?_); rw [sd_ir45]
  cases b with
  | true => simp (disch:=first|omega|(refine id ?_;simp only[push_cast];first|done|omega)) only [push_cast,Int.reduceMul,Int.reduceEq]; exact .id rfl
  | false => simp (disch:=first|omega|(refine id ?_;simp only[push_cast];first|done|omega)) only [push_cast,Int.reduceMul,Int.reduceEq]; exact .id rfl
def compF (k a b : Int) : Int × Int :=
  (truthF (if k = 10 then decide (a = b) else if k = 11 then !decide (a = b) else if k = 12 then decide (a < b) else if k = 13 then decide (a ≤ b) else if k = 14 then decide (b < a) else decide (b ≤ a)), 0)
theorem comp_f (k a b : Int) : CallF (pp G) H0 46 [.int .i64 k, .int .i64 a, .int .i64 b] (t2 (compF k a b)) := by
  have hlo : H0.lo ≤ H0.next := Nat.le_refl _; refine CallF.cut (CallD.fir4 (q := qq) (good G) fir46 ok_ir46 rfl rfl (F55_arr ..) (Nat.le_refl _) ?_); rw [sd_ir46]
  by_cases h1 : k = 10
  · rw [compF,if_pos h1]; simp (disch:=first|omega|(refine id ?_;simp only[push_cast];first|done|omega)) only [push_cast,Int.reduceMul,Int.reduceEq,h1]; refine CallVD.data (bit_f G (decide (a = b))) (by first | exact FzL.ids rfl | (refine FzL.ids ?_; simp (disch:=first|omega|(refine id ?_;simp only[push_cast];first|done|omega)) only [push_cast])) (by first | rfl | (simp (disch:=first|omega|(refine id ?_;simp only[push_cast];first|done|omega)) only [push_cast])) (by first | rfl | (simp (disch:=first|omega|(refine id ?_;simp only[push_cast];first|done|omega)) only [push_cast])) ?_; simp (disch:=first|omega|(refine id ?_;simp only[push_cast];first|done|omega)) only [push_cast,Int.reduceMul,Int.reduceEq]; exact .id rfl
  by_cases h2 : k = 11
  · rw [compF,if_neg h1,if_pos h2]; simp (disch:=first|omega|(refine id ?_;simp only[push_cast];first|done|omega)) only [push_cast,Int.reduceMul,Int.reduceEq,h1,h2]; refine CallVD.data (bit_f G (!decide (a = b))) (by first | exact FzL.ids rfl | (refine FzL.ids ?_; simp (disch:=first|omega|(refine id ?_;simp only[push_cast];first|done|omega)) only [push_cast])) (by first | rfl | (simp (disch:=first|omega|(refine id ?_;simp only[push_cast];first|done|omega)) only [push_cast])) (by first | rfl | (simp (disch:=first|omega|(refine id ?_;simp only[push_cast];first|done|omega)) only [push_cast])) ?_; simp (disch:=first|omega|(refine id ?_;simp only[push_cast];first|done|omega)) only [push_cast,Int.reduceMul,Int.reduceEq]; exact .id rfl
  by_cases h3 : k = 12
  · rw [compF,if_neg h1,if_neg h2,if_pos h3]; simp (disch:=first|omega|(refine id ?_;simp only[push_cast];first|done|omega)) only [push_cast,Int.reduceMul,Int.reduceEq,h1,h2,h3]; refine CallVD.data (bit_f G (decide (a < b))) (by first | exact FzL.ids rfl | (refine FzL.ids ?_; simp (disch:=first|omega|(refine id ?_;simp only[push_cast];first|done|omega)) only [push_cast])) (by first | rfl | (simp (disch:=first|omega|(refine id ?_;simp only[push_cast];first|done|omega)) only [push_cast])) (by first | rfl | (simp (disch:=first|omega|(refine id ?_;simp only[push_cast];first|done|omega)) only [push_cast])) ?_; simp (disch:=first|omega|(refine id ?_;simp only[push_cast];first|done|omega)) only [push_cast,Int.reduceMul,Int.reduceEq]; exact .id rfl
  by_cases h4 : k = 13
  · rw [compF,if_neg h1,if_neg h2,if_neg h3,if_pos h4]; simp (disch:=first|omega|(refine id ?_;simp only[push_cast];first|done|omega)) only [push_cast,Int.reduceMul,Int.reduceEq,h1,h2,h3,h4]; refine CallVD.data (bit_f G (decide (a ≤ b))) (by first | exact FzL.ids rfl | (refine FzL.ids ?_; simp (disch:=first|omega|(refine id ?_;simp only[push_cast];first|done|omega)) only [push_cast])) (by first | rfl | (simp (disch:=first|omega|(refine id ?_;simp only[push_cast];first|done|omega)) only [push_cast])) (by first | rfl | (simp (disch:=first|omega|(refine id ?_;simp only[push_cast];first|done|omega)) only [push_cast])) ?_; simp (disch:=first|omega|(refine id ?_;simp only[push_cast];first|done|omega)) only [push_cast,Int.reduceMul,Int.reduceEq]; exact .id rfl
  by_cases h5 : k = 14
  · rw [compF,if_neg h1,if_neg h2,if_neg h3,if_neg h4,if_pos h5]; simp (disch:=first|omega|(refine id ?_;simp only[push_cast];first|done|omega)) only [push_cast,Int.reduceMul,Int.reduceEq,h1,h2,h3,h4,h5]; refine CallVD.data (bit_f G (decide (b < a))) (by first | exact FzL.ids rfl | (refine FzL.ids ?_; simp (disch:=first|omega|(refine id ?_;simp only[push_cast];first|done|omega)) only [push_cast])) (by first | rfl | (simp (disch:=first|omega|(refine id ?_;simp only[push_cast];first|done|omega)) only [push_cast])) (by first | rfl | (simp (disch:=first|omega|(refine id ?_;simp only[push_cast];first|done|omega)) only [push_cast])) ?_; simp (disch:=first|omega|(refine id ?_;simp only[push_cast];first|done|omega)) only [push_cast,Int.reduceMul,Int.reduceEq]; exact .id rfl
  · rw [compF,if_neg h1,if_neg h2,if_neg h3,if_neg h4,if_neg h5]; simp (disch:=first|omega|(refine id ?_;simp only[push_cast];first|done|omega)) only [push_cast,Int.reduceMul,Int.reduceEq,h1,h2,h3,h4,h5]; refine CallVD.data (bit_f G (decide (b ≤ a))) (by first | exact FzL.ids rfl | (refine FzL.ids ?_; simp (disch:=first|omega|(refine id ?_;simp only[push_cast];first|done|omega)) only [push_cast])) (by first | rfl | (simp (disch:=first|omega|(refine id ?_;simp only[push_cast];first|done|omega)) only [push_cast])) (by first | rfl | (simp (disch:=first|omega|(refine id ?_;simp only[push_cast];first|done|omega)) only [push_cast])) ?_; simp (disch:=first|omega|(refine id ?_;simp only[push_cast];first|done|omega)) only [push_cast,Int.reduceMul,Int.reduceEq]; exact .id rfl
def timesF (a b : Int) : Int × Int := if a = 0 ∨ b = 0 then (0, 0) else if W ((W (a * b)).tdiv b) ≠ a ∨ (a = -1 ∧ b = -9223372036854775808) ∨ (b = -1 ∧ a = -9223372036854775808) then (0, 8) else (W (a * b), 0)
theorem times_f (a b : Int) : CallF (pp G) H0 61 [.int .i64 a, .int .i64 b] (t2 (timesF a b)) := by
  have hlo : H0.lo ≤ H0.next := Nat.le_refl _; refine CallF.cut (CallD.fir4 (q := qq) (good G) fir61 ok_ir61 rfl rfl (F38_arr ..) (Nat.le_refl _) ?_); rw [sd_ir61]
  by_cases h1 : a = 0
  · rw [timesF,if_pos (.inl h1)]; simp (disch:=first|omega|(refine id ?_;simp only[push_cast];first|done|omega)) only [push_cast,Int.reduceMul,Int.reduceEq,h1]; exact .id rfl
  by_cases h2 : b = 0
  · rw [timesF,if_pos (.inr h2)]; simp (disch:=first|omega|(refine id ?_;simp only[push_cast];first|done|omega)) only [push_cast,Int.reduceMul,Int.reduceEq,h1,h2]; exact .id rfl
  rw [timesF, if_neg (by omega)]
  by_cases h3 : W ((W (a * b)).tdiv b) = a
  · have h3' := h3
    unfold W at h3'
    by_cases h4 : a = -1
    · by_cases h5 : b = -9223372036854775808
      · rw [if_pos (.inr (.inl ⟨h4, h5⟩))]
        subst h4 h5
        have h6 : IntKind.i64.wrap ((IntKind.i64.wrap 9223372036854775808).tdiv (-9223372036854775808)) = 1 := by decide
        simp (disch:=first|omega|(refine id ?_;simp only[push_cast];first|done|omega)) only [push_cast,Int.reduceMul,Int.reduceEq,h6]; exact .id rfl
      · by_cases h6 : b = -1
        · rw [if_neg (by omega)]
          subst h4 h6
          unfold W
          have h7 : IntKind.i64.wrap (Int.tdiv 1 (-1)) = -1 := by decide
          simp (disch:=first|omega|(refine id ?_;simp only[push_cast];first|done|omega)) only [push_cast,Int.reduceMul,Int.reduceEq,h7]
          exact .id rfl
        · rw [if_neg (by omega)]
          subst h4
          unfold W
          simp (disch:=first|omega|(refine id ?_;simp only[push_cast];first|done|omega)) only [push_cast,Int.reduceMul,Int.reduceEq,h3',h5,h6,h2]; exact .id rfl
    · by_cases h6 : b = -1
      · by_cases h7 : a = -9223372036854775808
        · rw [if_pos (.inr (.inr ⟨h6, h7⟩))]
          subst h6 h7
          have h6 : IntKind.i64.wrap ((IntKind.i64.wrap 9223372036854775808).tdiv (-1)) = -9223372036854775808 := by decide
          simp (disch:=first|omega|(refine id ?_;simp only[push_cast];first|done|omega)) only [push_cast,Int.reduceMul,Int.reduceEq,h6]; exact .id rfl
        · rw [if_neg (by omega)]
          subst h6
          unfold W
          simp (disch:=first|omega|(refine id ?_;simp only[push_cast];first|done|omega)) only [push_cast,Int.reduceMul,Int.reduceEq,h3',h4,h7,h1]; exact .id rfl
      · rw [if_neg (by omega)]
        unfold W
        simp (disch:=first|omega|(refine id ?_;simp only[push_cast];first|done|omega)) only [push_cast,Int.reduceMul,Int.reduceEq,h3',h4,h6,h1,h2]; exact .id rfl
  · rw [if_pos (.inl h3)]
    unfold W at h3
    simp (disch:=first|omega|(refine id ?_;simp only[push_cast];first|done|omega)) only [push_cast,Int.reduceMul,Int.reduceEq,h3,h1,h2]; exact .id rfl
def reckF (k a b : Int) : Int × Int :=
  if k = 8 then (if (decide (0 ≤ a) == decide (0 ≤ b)) && !(decide (0 ≤ W (a + b)) == decide (0 ≤ a)) then (0, 8) else (W (a + b), 0))
  else if k = 9 then (if !(decide (0 ≤ a) == decide (0 ≤ b)) && !(decide (0 ≤ W (a - b)) == decide (0 ≤ a)) then (0, 8) else (W (a - b), 0))
  else if k = 5 then timesF a b
  else if b = 0 then (0, 9) else if b = -1 ∧ k = 7 then (0, 0) else if b = -1 ∧ a = -9223372036854775808 then (0, 8) else if k = 7 then (a.tmod b, 0) else (W (a.tdiv b), 0)
theorem reck_f (k a b : Int) : CallF (pp G) H0 47 [.int .i64 k, .int .i64 a, .int .i64 b] (t2 (reckF k a b)) := by
  have hlo : H0.lo ≤ H0.next := Nat.le_refl _; refine CallF.cut (CallD.fir4 (q := qq) (good G) fir47 ok_ir47 rfl rfl (F80_arr ..) (Nat.le_refl _) ?_); rw [sd_ir47]
  by_cases h1 : k = 8
  · rw [reckF, if_pos h1]
    cases h2 : decide (0 ≤ a) == decide (0 ≤ b) with
    | true =>
      cases h3 : decide (0 ≤ W (a + b)) == decide (0 ≤ a) with
      | true => rw [if_neg (by simp)]; unfold W at h3; simp (disch:=first|omega|(refine id ?_;simp only[push_cast];first|done|omega)) only [push_cast,Int.reduceMul,Int.reduceEq,h1,h2,h3]; exact .id rfl
      | false => rw [if_pos (by simp)]; unfold W at h3; simp (disch:=first|omega|(refine id ?_;simp only[push_cast];first|done|omega)) only [push_cast,Int.reduceMul,Int.reduceEq,h1,h2,h3]; exact .id rfl
    | false => rw [if_neg (by simp)]; simp (disch:=first|omega|(refine id ?_;simp only[push_cast];first|done|omega)) only [push_cast,Int.reduceMul,Int.reduceEq,h1,h2]; exact .id rfl
  by_cases h0 : k = 9
  · rw [reckF, if_neg h1, if_pos h0]
    cases h2 : decide (0 ≤ a) == decide (0 ≤ b) with
    | false =>
      cases h3 : decide (0 ≤ W (a - b)) == decide (0 ≤ a) with
      | true => rw [if_neg (by simp)]; unfold W at h3; simp (disch:=first|omega|(refine id ?_;simp only[push_cast];first|done|omega)) only [push_cast,Int.reduceMul,Int.reduceEq,h0,h2,h3]; exact .id rfl
      | false => rw [if_pos (by simp)]; unfold W at h3; simp (disch:=first|omega|(refine id ?_;simp only[push_cast];first|done|omega)) only [push_cast,Int.reduceMul,Int.reduceEq,h0,h2,h3]; exact .id rfl
    | true => rw [if_neg (by simp)]; simp (disch:=first|omega|(refine id ?_;simp only[push_cast];first|done|omega)) only [push_cast,Int.reduceMul,Int.reduceEq,h0,h2]; exact .id rfl
  by_cases h2 : k = 5
  · rw [reckF,if_neg h1,if_neg h0,if_pos h2]; simp (disch:=first|omega|(refine id ?_;simp only[push_cast];first|done|omega)) only [push_cast,Int.reduceMul,Int.reduceEq,h2]; refine CallVD.data (times_f G a b) (by first | exact FzL.ids rfl | (refine FzL.ids ?_; simp (disch:=first|omega|(refine id ?_;simp only[push_cast];first|done|omega)) only [push_cast])) (by first | rfl | (simp (disch:=first|omega|(refine id ?_;simp only[push_cast];first|done|omega)) only [push_cast])) (by first | rfl | (simp (disch:=first|omega|(refine id ?_;simp only[push_cast];first|done|omega)) only [push_cast])) ?_; simp (disch:=first|omega|(refine id ?_;simp only[push_cast];first|done|omega)) only [push_cast,Int.reduceMul,Int.reduceEq]; exact .id rfl
  rw [reckF, if_neg h1, if_neg h0, if_neg h2]
  by_cases h3 : b = 0
  · rw [if_pos h3]; simp (disch:=first|omega|(refine id ?_;simp only[push_cast];first|done|omega)) only [push_cast,Int.reduceMul,Int.reduceEq,h1,h0,h2,h3]; exact .id rfl
  rw [if_neg h3]
  by_cases h4 : b = -1
  · by_cases h5 : k = 7
    · rw [if_pos ⟨h4,h5⟩]; simp (disch:=first|omega|(refine id ?_;simp only[push_cast];first|done|omega)) only [push_cast,Int.reduceMul,Int.reduceEq,h5,h4]; exact .id rfl
    · rw [if_neg (fun h => h5 h.2)]
      by_cases h6 : a = -9223372036854775808
      · rw [if_pos ⟨h4,h6⟩]; simp (disch:=first|omega|(refine id ?_;simp only[push_cast];first|done|omega)) only [push_cast,Int.reduceMul,Int.reduceEq,h1,h0,h2,h4,h5,h6]; exact .id rfl
      · rw [if_neg (fun h => h6 h.2),if_neg h5]; simp (disch:=first|omega|(refine id ?_;simp only[push_cast];first|done|omega)) only [push_cast,Int.reduceMul,Int.reduceEq,h1,h0,h2,h4,h5,h6]; exact .id rfl
  · rw [if_neg (fun h => h4 h.1), if_neg (fun h => h4 h.1)]
    by_cases h5 : k = 7
    · rw [if_pos h5]; simp (disch:=first|omega|(refine id ?_;simp only[push_cast];first|done|omega)) only [push_cast,Int.reduceMul,Int.reduceEq,h3,h4,h5]; exact .id rfl
    · rw [if_neg h5]; simp (disch:=first|omega|(refine id ?_;simp only[push_cast];first|done|omega)) only [push_cast,Int.reduceMul,Int.reduceEq,h1,h0,h2,h3,h4,h5]; exact .id rfl
end
end Go.Proofs.YtlbpiiehanibfaaDoor
namespace Go.Proofs.YtlbpiiehanibfaaDoor
open Go Go.RowKit Go.Ev Go.Dv
noncomputable section
set_option maxRecDepth 100000
variable (G : Nat × Nat)
mutual
def refF (vars : List Int) : Ex → Int × Int
  | .mk k n s l => if k = 1 then (n, 0) else if k = 2 then (vars.getD n.toNat 0, 0) else
    match refL vars l with
    | [] => (0, 0)
    | a :: r => if a.2 = 0 then (if k = 3 then (truthF (decide (a.1 = 0)), 0) else if k = 4 ∧ a.1 = -9223372036854775808 then (0, 8) else if k = 4 then (W (0 - a.1), 0)
        else if k = 16 ∧ a.1 = 0 then (0, 0) else if k = 17 ∧ a.1 ≠ 0 then (1, 0) else
        match r with
        | [] => (0, 0)
        | b :: _ => if b.2 = 0 then (if k = 16 ∨ k = 17 then (truthF (!decide (b.1 = 0)), 0) else if 10 ≤ k then compF k a.1 b.1 else reckF k a.1 b.1) else (0, b.2)) else (0, a.2)
def refL (vars : List Int) : List Ex → List (Int × Int)
  | [] => []
  | x :: l => refF vars x :: refL vars l
end
theorem refF_1 {vars : List Int} {k n : Int} {s : List UInt8} {a : Ex} (h1 : ¬ k = 1) (h2 : ¬ k = 2) : refF vars (.mk k n s [a]) = if (refF vars a).2 = 0 then (if k = 3 then (truthF (decide ((refF vars a).1 = 0)), 0) else if k = 4 ∧ (refF vars a).1 = -9223372036854775808 then (0, 8) else if k = 4 then (W (0 - (refF vars a).1), 0)
        else if k = 16 ∧ (refF vars a).1 = 0 then (0, 0) else if k = 17 ∧ (refF vars a).1 ≠ 0 then (1, 0) else (0, 0)) else (0, (refF vars a).2) := by
  rw [refF, if_neg h1, if_neg h2]
  simp only [refL]
theorem refF_2 {vars : List Int} {k n : Int} {s : List UInt8} {a b : Ex} (h1 : ¬ k = 1) (h2 : ¬ k = 2) : refF vars (.mk k n s [a, b]) = if (refF vars a).2 = 0 then (if k = 3 then (truthF (decide ((refF vars a).1 = 0)), 0) else if k = 4 ∧ (refF vars a).1 = -9223372036854775808 then (0, 8) else if k = 4 then (W (0 - (refF vars a).1), 0)
        else if k = 16 ∧ (refF vars a).1 = 0 then (0, 0) else if k = 17 ∧ (refF vars a).1 ≠ 0 then (1, 0) else
        if (refF vars b).2 = 0 then (if k = 16 ∨ k = 17 then (truthF (!decide ((refF vars b).1 = 0)), 0) else if 10 ≤ k then compF k (refF vars a).1 (refF vars b).1 else reckF k (refF vars a).1 (refF vars b).1) else (0, (refF vars b).2)) else (0, (refF vars a).2) := by
  rw [refF, if_neg h1, if_neg h2]
  simp only [refL]
inductive Rt (v : Int) : Ex → Prop
  | num {n : Int} (h : 0 ≤ n) : Rt v (.mk 1 n [] [])
  | var {n : Int} (h : 0 ≤ n) (h2 : n < v) : Rt v (.mk 2 n [] [])
  | one {k : Int} {a : Ex} (h : k = 3 ∨ k = 4) (ha : rightF v a = true) : Rt v (.mk k 0 [] [a])
  | two {k : Int} {a b : Ex} (h : 5 ≤ k ∧ k ≤ 17) (ha : rightF v a = true) (hb : rightF v b = true) : Rt v (.mk k 0 [] [a, b])
theorem Rt.of {v : Int} : ∀ {x : Ex}, rightF v x = true → Rt v x
  | .mk k n s l, hr => by
    simp only [rightF, Bool.and_eq_true, decide_eq_true_eq] at hr
    obtain ⟨⟨hr1, rfl⟩, hr3⟩ := hr
    by_cases h1 : k = 1 ∧ 0 ≤ n
    · rw [if_pos h1, decide_eq_true_eq] at hr1
      obtain rfl := List.length_eq_zero_iff.1 hr1
      obtain ⟨rfl, h⟩ := h1
      exact .num h
    rw [if_neg h1] at hr1
    by_cases h2 : k = 2 ∧ 0 ≤ n ∧ n < v
    · rw [if_pos h2, decide_eq_true_eq] at hr1
      obtain rfl := List.length_eq_zero_iff.1 hr1
      obtain ⟨rfl, h, h'⟩ := h2
      exact .var h h'
    rw [if_neg h2] at hr1
    by_cases h3 : k = 3 ∨ k = 4
    · rw [if_pos h3, decide_eq_true_eq] at hr1
      obtain ⟨h4, rfl⟩ := hr1
      obtain ⟨a, rfl⟩ := List.length_eq_one_iff.1 h4
      simp only [rightL, Bool.and_true] at hr3
      exact .one h3 hr3
    rw [if_neg h3] at hr1
    by_cases h4 : 5 ≤ k ∧ k ≤ 17
    · rw [if_pos h4, decide_eq_true_eq] at hr1
      obtain ⟨h5, rfl⟩ := hr1
      match l, h5, hr3 with
      | [a, b], _, hr3 =>
        simp only [rightL, Bool.and_true, Bool.and_eq_true] at hr3
        exact .two h4 hr3.1 hr3.2
    · rw [if_neg h4] at hr1; cases hr1
theorem ref_f (vars : List Int) : ∀ x : Ex, rightF vars.length x = true → CallF (pp G) H0 26 [exV x, ivV vars] (t2 (refF vars x))
  | .mk k n s l, hr => by
    have ih : ∀ x ∈ l, rightF vars.length x = true → CallF (pp G) H0 26 [exV x, ivV vars] (t2 (refF vars x)) := fun x hx h => ref_f vars x h
    cases Rt.of hr with
    | num h =>
      have hlo : H0.lo ≤ H0.next := Nat.le_refl _; refine CallF.cut (CallD.fir4 (q := qq) (good G) fir26 ok_ir26 rfl rfl (F120_arr ..) (Nat.le_refl _) ?_); rw [sd_ir26]
      unfold exV exC
      rw [refF, if_pos rfl]
      simp (disch:=first|omega|(refine id ?_;simp only[push_cast];first|done|omega)) only [push_cast,Nat.reduceMul,Int.reduceEq]
      exact .id rfl
    | var h h2 =>
      have hlo : H0.lo ≤ H0.next := Nat.le_refl _; refine CallF.cut (CallD.fir4 (q := qq) (good G) fir26 ok_ir26 rfl rfl (F120_arr ..) (Nat.le_refl _) ?_); rw [sd_ir26]
      unfold exV exC
      rw [refF, if_neg (by omega), if_pos rfl]
      have hp := ivs_part (l := vars) (i := n.toNat) (by omega)
      rw [Nat.mul_one] at hp
      unfold ivV
      simp (disch:=first|omega|(refine id ?_;simp only[push_cast];first|done|omega)) only [push_cast,Nat.reduceMul,Int.reduceEq,hp]
      exact .id rfl
    | @one _ a h ha =>
      have ia := ih a (by simp) ha
      have hlo : H0.lo ≤ H0.next := Nat.le_refl _; refine CallF.cut (CallD.fir4 (q := qq) (good G) fir26 ok_ir26 rfl rfl (F120_arr ..) (Nat.le_refl _) ?_); rw [sd_ir26]
      unfold exV exC
      have h1 : ¬ k = 1 := by omega
      have h2 : ¬ k = 2 := by omega
      rw [refF_1 h1 h2]
      simp (disch:=first|omega|(refine id ?_;simp only[push_cast];first|done|omega)) only [push_cast,Nat.reduceMul,Int.reduceEq,h1,h2]
      refine CallVD.data (ia) (by first | exact FzL.ids rfl | (refine FzL.ids ?_; simp (disch:=first|omega|(refine id ?_;simp only[push_cast];first|done|omega)) only [push_cast])) (by first | rfl | (simp (disch:=first|omega|(refine id ?_;simp only[push_cast];first|done|omega)) only [push_cast])) (by first | rfl | (simp (disch:=first|omega|(refine id ?_;simp only[push_cast];first|done|omega)) only [push_cast])) ?_
      by_cases h4 : (refF vars a).2 = 0
      · rw [if_pos h4]
        by_cases h5 : k = 3
        · rw [if_pos h5]
          simp (disch:=first|omega|(refine id ?_;simp only[push_cast];first|done|omega)) only [push_cast,Nat.reduceMul,Int.reduceEq,h4,h5]
          refine CallVD.data (bit_f G (decide ((refF vars a).1 = 0))) (by first | exact FzL.ids rfl | (refine FzL.ids ?_; simp (disch:=first|omega|(refine id ?_;simp only[push_cast];first|done|omega)) only [push_cast])) (by first | rfl | (simp (disch:=first|omega|(refine id ?_;simp only[push_cast];first|done|omega)) only [push_cast])) (by first | rfl | (simp (disch:=first|omega|(refine id ?_;simp only[push_cast];first|done|omega)) only [push_cast])) ?_
          simp (disch:=first|omega|(refine id ?_;simp only[push_cast];first|done|omega)) only [push_cast,Nat.reduceMul,Int.reduceEq]
          exact .id rfl
        · have h6 : k = 4 := by omega
          subst h6
          rw [if_neg h5]
          by_cases h7 : (refF vars a).1 = -9223372036854775808
          · rw [if_pos ⟨rfl, h7⟩]
            simp (disch:=first|omega|(refine id ?_;simp only[push_cast];first|done|omega)) only [push_cast,Nat.reduceMul,Int.reduceEq,h4,h7]
            exact .id rfl
          · rw [if_neg (fun h => h7 h.2), if_pos rfl]
            unfold W
            simp (disch:=first|omega|(refine id ?_;simp only[push_cast];first|done|omega)) only [push_cast,Nat.reduceMul,Int.reduceEq,h4,h7]
            exact .id rfl
      · rw [if_neg h4]
        simp (disch:=first|omega|(refine id ?_;simp only[push_cast];first|done|omega)) only [push_cast,Nat.reduceMul,Int.reduceEq,h4]
        exact .id rfl
    | @two _ a b h ha hb =>
      have ia := ih a (by simp) ha
      have ib := ih b (by simp) hb
      have hlo : H0.lo ≤ H0.next := Nat.le_refl _; refine CallF.cut (CallD.fir4 (q := qq) (good G) fir26 ok_ir26 rfl rfl (F120_arr ..) (Nat.le_refl _) ?_); rw [sd_ir26]
      unfold exV exC
      have h1 : ¬ k = 1 := by omega
      have h2 : ¬ k = 2 := by omega
      have h3 : ¬ k = 3 := by omega
      have h3' : ¬ k = 4 := by omega
      rw [refF_2 h1 h2]
      simp (disch:=first|omega|(refine id ?_;simp only[push_cast];first|done|omega)) only [push_cast,Nat.reduceMul,Int.reduceEq,h1,h2]
      refine CallVD.data (ia) (by first | exact FzL.ids rfl | (refine FzL.ids ?_; simp (disch:=first|omega|(refine id ?_;simp only[push_cast];first|done|omega)) only [push_cast])) (by first | rfl | (simp (disch:=first|omega|(refine id ?_;simp only[push_cast];first|done|omega)) only [push_cast])) (by first | rfl | (simp (disch:=first|omega|(refine id ?_;simp only[push_cast];first|done|omega)) only [push_cast])) ?_
      by_cases h4 : (refF vars a).2 = 0
      · rw [if_pos h4, if_neg h3, if_neg (fun h => h3' h.1), if_neg h3']
        by_cases h5 : k = 16
        · subst h5
          by_cases h6 : (refF vars a).1 = 0
          · rw [if_pos ⟨rfl, h6⟩]
            simp (disch:=first|omega|(refine id ?_;simp only[push_cast];first|done|omega)) only [push_cast,Nat.reduceMul,Int.reduceEq,h4,h6]
            exact .id rfl
          · rw [if_neg (fun h => h6 h.2), if_neg (by omega)]
            simp (disch:=first|omega|(refine id ?_;simp only[push_cast];first|done|omega)) only [push_cast,Nat.reduceMul,Int.reduceEq,h4,h6]
            refine CallVD.data (ib) (by first | exact FzL.ids rfl | (refine FzL.ids ?_; simp (disch:=first|omega|(refine id ?_;simp only[push_cast];first|done|omega)) only [push_cast])) (by first | rfl | (simp (disch:=first|omega|(refine id ?_;simp only[push_cast];first|done|omega)) only [push_cast])) (by first | rfl | (simp (disch:=first|omega|(refine id ?_;simp only[push_cast];first|done|omega)) only [push_cast])) ?_
            by_cases h7 : (refF vars b).2 = 0
            · rw [if_pos h7,if_pos (.inl rfl)]; simp (disch:=first|omega|(refine id ?_;simp only[push_cast];first|done|omega)) only [push_cast,Nat.reduceMul,Int.reduceEq,h7]; refine CallVD.data (bit_f G (!decide ((refF vars b).1 = 0))) (by first | exact FzL.ids rfl | (refine FzL.ids ?_; simp (disch:=first|omega|(refine id ?_;simp only[push_cast];first|done|omega)) only [push_cast])) (by first | rfl | (simp (disch:=first|omega|(refine id ?_;simp only[push_cast];first|done|omega)) only [push_cast])) (by first | rfl | (simp (disch:=first|omega|(refine id ?_;simp only[push_cast];first|done|omega)) only [push_cast])) ?_; simp (disch:=first|omega|(refine id ?_;simp only[push_cast];first|done|omega)) only [push_cast,Nat.reduceMul,Int.reduceEq]; exact .id rfl
            · rw [if_neg h7]; simp (disch:=first|omega|(refine id ?_;simp only[push_cast];first|done|omega)) only [push_cast,Nat.reduceMul,Int.reduceEq,h7]; exact .id rfl
        rw [if_neg (fun h => h5 h.1)]
        by_cases h6 : k = 17
        · subst h6
          by_cases h7 : (refF vars a).1 = 0
          · rw [if_neg (fun h => h.2 h7)]
            simp (disch:=first|omega|(refine id ?_;simp only[push_cast];first|done|omega)) only [push_cast,Nat.reduceMul,Int.reduceEq,h4,h7]
            refine CallVD.data (ib) (by first | exact FzL.ids rfl | (refine FzL.ids ?_; simp (disch:=first|omega|(refine id ?_;simp only[push_cast];first|done|omega)) only [push_cast])) (by first | rfl | (simp (disch:=first|omega|(refine id ?_;simp only[push_cast];first|done|omega)) only [push_cast])) (by first | rfl | (simp (disch:=first|omega|(refine id ?_;simp only[push_cast];first|done|omega)) only [push_cast])) ?_
            by_cases h8 : (refF vars b).2 = 0
            · rw [if_pos h8,if_pos (.inr rfl)]; simp (disch:=first|omega|(refine id ?_;simp only[push_cast];first|done|omega)) only [push_cast,Nat.reduceMul,Int.reduceEq,h8]; refine CallVD.data (bit_f G (!decide ((refF vars b).1 = 0))) (by first | exact FzL.ids rfl | (refine FzL.ids ?_; simp (disch:=first|omega|(refine id ?_;simp only[push_cast];first|done|omega)) only [push_cast])) (by first | rfl | (simp (disch:=first|omega|(refine id ?_;simp only[push_cast];first|done|omega)) only [push_cast])) (by first | rfl | (simp (disch:=first|omega|(refine id ?_;simp only[push_cast];first|done|omega)) only [push_cast])) ?_; simp (disch:=first|omega|(refine id ?_;simp only[push_cast];first|done|omega)) only [push_cast,Nat.reduceMul,Int.reduceEq]; exact .id rfl
            · rw [if_neg h8]; simp (disch:=first|omega|(refine id ?_;simp only[push_cast];first|done|omega)) only [push_cast,Nat.reduceMul,Int.reduceEq,h8]; exact .id rfl
          · rw [if_pos ⟨rfl, h7⟩]
            simp (disch:=first|omega|(refine id ?_;simp only[push_cast];first|done|omega)) only [push_cast,Nat.reduceMul,Int.reduceEq,h4,h7]
            exact .id rfl
        rw [if_neg (fun h => h6 h.1)]
        simp (disch:=first|omega|(refine id ?_;simp only[push_cast];first|done|omega)) only [push_cast,Nat.reduceMul,Int.reduceEq,h4,h3,h3',h5,h6]
        refine CallVD.data (ib) (by first | exact FzL.ids rfl | (refine FzL.ids ?_; simp (disch:=first|omega|(refine id ?_;simp only[push_cast];first|done|omega)) only [push_cast])) (by first | rfl | (simp (disch:=first|omega|(refine id ?_;simp only[push_cast];first|done|omega)) only [push_cast])) (by first | rfl | (simp (disch:=first|omega|(refine id ?_;simp only[push_cast];first|done|omega)) only [push_cast])) ?_
        by_cases h7 : (refF vars b).2 = 0
        · rw [if_pos h7, if_neg (fun h => h.elim h5 h6)]
          by_cases h8 : 10 ≤ k
          · rw [if_pos h8]; simp (disch:=first|omega|(refine id ?_;simp only[push_cast];first|done|omega)) only [push_cast,Nat.reduceMul,Int.reduceEq,h7,h5,h6,h8]; refine CallVD.data (comp_f G k (refF vars a).1 (refF vars b).1) (by first | exact FzL.ids rfl | (refine FzL.ids ?_; simp (disch:=first|omega|(refine id ?_;simp only[push_cast];first|done|omega)) only [push_cast])) (by first | rfl | (simp (disch:=first|omega|(refine id ?_;simp only[push_cast];first|done|omega)) only [push_cast])) (by first | rfl | (simp (disch:=first|omega|(refine id ?_;simp only[push_cast];first|done|omega)) only [push_cast])) ?_; simp (disch:=first|omega|(refine id ?_;simp only[push_cast];first|done|omega)) only [push_cast,Nat.reduceMul,Int.reduceEq]; exact .id rfl
          · rw [if_neg h8]; simp (disch:=first|omega|(refine id ?_;simp only[push_cast];first|done|omega)) only [push_cast,Nat.reduceMul,Int.reduceEq,h7,h5,h6,h8]; refine CallVD.data (reck_f G k (refF vars a).1 (refF vars b).1) (by first | exact FzL.ids rfl | (refine FzL.ids ?_; simp (disch:=first|omega|(refine id ?_;simp only[push_cast];first|done|omega)) only [push_cast])) (by first | rfl | (simp (disch:=first|omega|(refine id ?_;simp only[push_cast];first|done|omega)) only [push_cast])) (by first | rfl | (simp (disch:=first|omega|(refine id ?_;simp only[push_cast];first|done|omega)) only [push_cast])) ?_; simp (disch:=first|omega|(refine id ?_;simp only[push_cast];first|done|omega)) only [push_cast,Nat.reduceMul,Int.reduceEq]; exact .id rfl
        · rw [if_neg h7]; simp (disch:=first|omega|(refine id ?_;simp only[push_cast];first|done|omega)) only [push_cast,Nat.reduceMul,Int.reduceEq,h7]; exact .id rfl
      · rw [if_neg h4]
        simp (disch:=first|omega|(refine id ?_;simp only[push_cast];first|done|omega)) only [push_cast,Nat.reduceMul,Int.reduceEq,h4]
        exact .id rfl
  termination_by x => SizeOf.sizeOf x
end
end Go.Proofs.YtlbpiiehanibfaaDoor
namespace Go.Proofs.YtlbpiiehanibfaaDoor
open Go Go.RowKit Go.Ev Go.Dv
noncomputable section
def In (a : Int) : Prop := -9223372036854775808 ≤ a ∧ a ≤ 9223372036854775807
theorem W_in {a : Int} (h : In a) : W a = a := by
  unfold In at h
  unfold W; rw [IntKind.wrap_i64]; omega
theorem W_eq (a : Int) : ∃ q : Int, W a = a - q * 18446744073709551616 ∧ In (W a) := by
  refine ⟨(a + 9223372036854775808) / 18446744073709551616, ?_, ?_⟩
  · unfold W; rw [IntKind.wrap_i64]; omega
  · unfold W In; rw [IntKind.wrap_i64]; omega
theorem In_W (a : Int) : In (W a) := (W_eq a).elim fun _ h => h.2
theorem truth_in (b : Bool) : In (truthF b) := by cases b <;> simp [truthF, In]
theorem tdiv_bound (w a : Int) (ha : a ≠ 0) : (w - w.tdiv a * a).natAbs < a.natAbs := by
  have h : w - w.tdiv a * a = w.tmod a := by
    have := Int.mul_tdiv_add_tmod w a
    rw [Int.mul_comm] at this
    omega
  rw [h, Int.natAbs_tmod]
  exact Nat.mod_lt _ (by omega)
theorem tdiv_in {w a : Int} (hw : In w) (h : ¬ (w = -9223372036854775808 ∧ a = -1)) : In (w.tdiv a) := by
  unfold In at *
  have h1 : (w.tdiv a).natAbs = w.natAbs / a.natAbs := Int.natAbs_tdiv w a
  by_cases ha : a.natAbs ≤ 1
  · have : a = 0 ∨ a = 1 ∨ a = -1 := by omega
    rcases this with rfl | rfl | rfl
    · simp
    · simp; exact hw
    · rw [show (-1 : Int) = -(1 : Int) from rfl, Int.tdiv_neg, Int.tdiv_one]; omega
  · have h2 : w.natAbs / a.natAbs ≤ w.natAbs / 2 := Nat.div_le_div_left (by omega) (by omega)
    omega
theorem tmod_in {w a : Int} (hw : In w) : In (w.tmod a) := by
  unfold In at *
  have h1 : (w.tmod a).natAbs = w.natAbs % a.natAbs := Int.natAbs_tmod w a
  have h2 : w.natAbs % a.natAbs ≤ w.natAbs := Nat.mod_le _ _
  by_cases h : 0 ≤ w
  · have := Int.tmod_nonneg a h
    omega
  · have h3 := Int.tmod_nonneg (a := -w) a (by omega)
    rw [Int.neg_tmod] at h3
    omega
theorem mul_over {a b : Int} (ha : In a) (hb : In b) (h0 : a ≠ 0) (hx : ¬ (a = -1 ∧ b = -9223372036854775808)) (h : ¬ In (a * b)) : W ((W (a * b)).tdiv a) ≠ b := by
  intro he
  obtain ⟨q, h1, h2⟩ := W_eq (a * b)
  have hq : q ≠ 0 := by
    rintro rfl
    rw [Int.zero_mul, Int.sub_zero] at h1
    rw [h1] at h2
    exact h h2
  have h3 := tdiv_bound (W (a * b)) a h0
  by_cases hm : W (a * b) = -9223372036854775808 ∧ a = -1
  · have : b = -9223372036854775808 := by
      rw [← he, hm.1, hm.2]
      decide
    exact hx ⟨hm.2, this⟩
  · rw [W_in (tdiv_in h2 hm)] at he
    rw [he] at h3
    have h4 : b * a = a * b := Int.mul_comm b a
    rw [h4, h1] at h3
    unfold In at ha
    generalize a * b = ab at *
    omega
theorem mul_fits {a b : Int} (hb : In b) (h0 : a ≠ 0) (h : In (a * b)) : W ((W (a * b)).tdiv a) = b := by
  rw [W_in h, Int.mul_tdiv_cancel_left b h0, W_in hb]
def prodF (a b : Int) : Int × Int := open Classical in if In (a * b) then (a * b, 0) else (0, 8)
theorem mulF_eq {a b : Int} (ha : In a) (hb : In b) : mulF a b = prodF a b := by
  unfold mulF prodF
  by_cases h0 : a = 0
  · subst h0
    rw [if_neg (fun h => h.1 rfl), Int.zero_mul, if_pos (by unfold In; omega), W_in (by unfold In; omega)]
  by_cases h : In (a * b)
  · rw [if_pos h, if_neg, W_in h]
    rintro ⟨-, h1 | ⟨rfl, rfl⟩⟩
    · exact h1 (mul_fits hb h0 h)
    · unfold In at h; omega
  · rw [if_neg h, if_pos]
    refine ⟨h0, ?_⟩
    by_cases hx : a = -1 ∧ b = -9223372036854775808
    · exact .inr hx
    · exact .inl (mul_over ha hb h0 hx h)
theorem timesF_eq {a b : Int} (ha : In a) (hb : In b) : timesF a b = prodF a b := by
  unfold timesF prodF
  by_cases h0 : a = 0
  · subst h0
    rw [if_pos (.inl rfl), Int.zero_mul, if_pos (by unfold In; omega)]
  by_cases h1 : b = 0
  · subst h1
    rw [if_pos (.inr rfl), Int.mul_zero, if_pos (by unfold In; omega)]
  rw [if_neg (fun h => h.elim h0 h1)]
  have hc : a * b = b * a := Int.mul_comm a b
  by_cases h : In (a * b)
  · rw [if_pos h, if_neg, W_in h]
    rintro (h2 | ⟨rfl, rfl⟩ | ⟨rfl, rfl⟩)
    · rw [hc] at h2 h
      exact h2 (mul_fits ha h1 h)
    · unfold In at h; omega
    · unfold In at h; omega
  · rw [if_neg h, if_pos]
    by_cases hx : b = -1 ∧ a = -9223372036854775808
    · exact .inr (.inr hx)
    · rw [hc] at h ⊢
      exact .inl (mul_over hb ha h1 hx h)
theorem reck8 (a b : Int) : reckF 8 a b = if (decide (0 ≤ a) == decide (0 ≤ b)) && !(decide (0 ≤ W (a + b)) == decide (0 ≤ a)) then (0, 8) else (W (a + b), 0) := rfl
theorem reck9 (a b : Int) : reckF 9 a b = if !(decide (0 ≤ a) == decide (0 ≤ b)) && !(decide (0 ≤ W (a - b)) == decide (0 ≤ a)) then (0, 8) else (W (a - b), 0) := rfl
theorem reck6 (a b : Int) : reckF 6 a b = if b = 0 then (0, 9) else if b = -1 ∧ (6 : Int) = 7 then (0, 0) else if b = -1 ∧ a = -9223372036854775808 then (0, 8) else (W (a.tdiv b), 0) := rfl
theorem reck7 (a b : Int) : reckF 7 a b = if b = 0 then (0, 9) else if b = -1 ∧ (7 : Int) = 7 then (0, 0) else if b = -1 ∧ a = -9223372036854775808 then (0, 8) else (a.tmod b, 0) := rfl
theorem addF_eq {a b : Int} (ha : In a) (hb : In b) : addF a b = reckF 8 a b := by
  rw [reck8]
  unfold addF W
  rw [IntKind.wrap_i64]
  unfold In at *
  simp only [beq_iff_eq, decide_eq_decide, Bool.and_eq_true, Bool.not_eq_true', beq_eq_false_iff_ne, ne_eq]
  split <;> split <;> first | rfl | (exfalso; omega)
theorem subF_eq {a b : Int} (ha : In a) (hb : In b) : subF a b = reckF 9 a b := by
  rw [reck9]
  unfold subF W
  rw [IntKind.wrap_i64]
  unfold In at *
  simp only [beq_iff_eq, decide_eq_decide, Bool.and_eq_true, Bool.not_eq_true', beq_eq_false_iff_ne, ne_eq]
  split <;> split <;> first | rfl | (exfalso; omega)
theorem divF_eq (a b : Int) : divF a b = reckF 6 a b := by
  rw [reck6]
  unfold divF
  by_cases h1 : b = 0
  · rw [if_pos h1, if_pos h1]
  rw [if_neg h1, if_neg h1, if_neg (show ¬ (b = -1 ∧ (6 : Int) = 7) by omega)]
  by_cases h2 : a = -9223372036854775808 ∧ b = -1
  · rw [if_pos h2, if_pos ⟨h2.2, h2.1⟩]
  · rw [if_neg h2, if_neg (show ¬ (b = -1 ∧ a = -9223372036854775808) from fun h => h2 ⟨h.2, h.1⟩)]
theorem remF_eq (a b : Int) : remF a b = reckF 7 a b := by
  rw [reck7]
  unfold remF
  by_cases h1 : b = 0
  · rw [if_pos h1, if_pos h1]
  rw [if_neg h1, if_neg h1]
  by_cases h2 : b = -1
  · rw [if_pos h2, if_pos ⟨h2, rfl⟩]
  · rw [if_neg h2, if_neg (by omega), if_neg (by omega)]
theorem twoF_eq {k a b : Int} (hk : 5 ≤ k ∧ k ≤ 15) (ha : In a) (hb : In b) : twoF k a b = if 10 ≤ k then compF k a b else reckF k a b := by
  have : k = 5 ∨ k = 6 ∨ k = 7 ∨ k = 8 ∨ k = 9 ∨ k = 10 ∨ k = 11 ∨ k = 12 ∨ k = 13 ∨ k = 14 ∨ k = 15 := by omega
  rcases this with rfl | rfl | rfl | rfl | rfl | rfl | rfl | rfl | rfl | rfl | rfl
  · rw [twoF, if_pos rfl, if_neg (by decide), mulF_eq ha hb, reckF, if_neg (by decide), if_neg (by decide), if_pos rfl, timesF_eq ha hb]
  · rw [twoF, if_neg (by decide), if_pos rfl, if_neg (by decide), divF_eq]
  · rw [twoF, if_neg (by decide), if_neg (by decide), if_pos rfl, if_neg (by decide), remF_eq]
  · rw [twoF, if_neg (by decide), if_neg (by decide), if_neg (by decide), if_pos rfl, if_neg (by decide), addF_eq ha hb]
  · rw [twoF, if_neg (by decide), if_neg (by decide), if_neg (by decide), if_neg (by decide), if_pos rfl, if_neg (by decide), subF_eq ha hb]
  all_goals simp [twoF, compF]
theorem reckF_in {k a b : Int} (hk : k = 5 ∨ k = 6 ∨ k = 7 ∨ k = 8 ∨ k = 9) (ha : In a) (hb : In b) : In (reckF k a b).1 := by
  have h0 : In 0 := by unfold In; omega
  unfold reckF
  repeat' split
  all_goals first | exact h0 | exact In_W _ | exact tmod_in ha | skip
  rw [timesF_eq ha hb]
  unfold prodF
  split
  · assumption
  · exact h0
theorem twoF_in {k a b : Int} (hk : 5 ≤ k ∧ k ≤ 17) (ha : In a) (hb : In b) : In (twoF k a b).1 := by
  by_cases h : k ≤ 15
  · rw [twoF_eq ⟨hk.1, h⟩ ha hb]
    split
    · exact truth_in _
    · exact reckF_in (by omega) ha hb
  · have : k = 16 ∨ k = 17 := by omega
    rcases this with rfl | rfl <;> simp only [twoF, reduceIte, Int.reduceEq] <;> exact truth_in _
theorem oneF_in {k a : Int} : In (oneF k a).1 := by
  unfold oneF
  split
  · exact truth_in _
  · unfold subF
    split
    · exact In_W _
    · unfold In; omega
theorem oneF_eq {k a : Int} (hk : k = 3 ∨ k = 4) (ha : In a) : oneF k a = if k = 3 then (truthF (decide (a = 0)), 0) else if a = -9223372036854775808 then (0, 8) else (W (0 - a), 0) := by
  unfold oneF
  by_cases h : k = 3
  · rw [if_pos h, if_pos h]
  rw [if_neg h, if_neg h]
  unfold subF
  by_cases h1 : a = -9223372036854775808
  · subst h1; decide
  · rw [if_neg h1, W_in (by unfold In at *; omega), if_pos]
    by_cases h2 : 0 < a
    · simp only [h2, show 0 - a < 0 by omega, decide_true, beq_self_eq_true]
    · simp only [h2, show ¬ 0 - a < 0 by omega, decide_false, beq_self_eq_true]
mutual
def inF : Ex → Prop
  | .mk _ n _ l => In n ∧ inL l
def inL : List Ex → Prop
  | [] => True
  | x :: l => inF x ∧ inL l
end
theorem eval_is {vars : List Int} (hv : ∀ a ∈ vars, In a) : ∀ x : Ex, rightF vars.length x = true → inF x → evalF vars x = refF vars x ∧ In (evalF vars x).1
  | .mk k n s l, hr, hn => by
    have ih : ∀ x ∈ l, rightF vars.length x = true → inF x → evalF vars x = refF vars x ∧ In (evalF vars x).1 := fun x hx h h' => eval_is hv x h h'
    have h0 : In 0 := by unfold In; omega
    cases Rt.of hr with
    | num h => rw [refF, if_pos rfl, evalF, if_pos rfl]; exact ⟨rfl, hn.1⟩
    | var h h2 =>
      rw [refF, if_neg (by omega), if_pos rfl, evalF, if_neg (by omega), if_pos rfl]
      refine ⟨rfl, hv _ ?_⟩
      rw [List.getD_eq_getElem?_getD, List.getElem?_eq_getElem (by omega)]
      exact List.getElem_mem _
    | @one _ a h ha =>
      have ⟨ia, ja⟩ := ih a (by simp) ha hn.2.1
      have h1 : ¬ k = 1 := by omega
      have h2 : ¬ k = 2 := by omega
      have h3 : ¬ k = 16 := by omega
      have h4 : ¬ k = 17 := by omega
      rw [refF_1 h1 h2, evalF, if_neg h1, if_neg h2]
      simp only [evalL]
      rw [← ia]
      by_cases h5 : (evalF vars a).2 = 0
      · rw [if_neg (fun h => h h5), if_pos h5, if_pos (show [a].length = 1 from rfl), oneF_eq h ja]
        refine ⟨?_, ?_⟩
        · by_cases h6 : k = 3
          · rw [if_pos h6, if_pos h6]
          · have h7 : k = 4 := by omega
            subst h7
            rw [if_neg h6, if_neg h6]
            by_cases h7 : (evalF vars a).1 = -9223372036854775808
            · rw [if_pos h7, if_pos ⟨rfl, h7⟩]
            · rw [if_neg h7, if_neg (fun h => h7 h.2), if_pos rfl]
        · rw [← oneF_eq h ja]
          exact oneF_in
      · rw [if_pos h5, if_neg h5]
        exact ⟨rfl, h0⟩
    | @two _ a b h ha hb =>
      have ⟨ia, ja⟩ := ih a (by simp) ha hn.2.1
      have ⟨ib, jb⟩ := ih b (by simp) hb hn.2.2.1
      have h1 : ¬ k = 1 := by omega
      have h2 : ¬ k = 2 := by omega
      have h3 : ¬ k = 3 := by omega
      have h4 : ¬ k = 4 := by omega
      rw [refF_2 h1 h2, evalF, if_neg h1, if_neg h2]
      simp only [evalL]
      rw [← ia, ← ib]
      by_cases h5 : (evalF vars a).2 = 0
      · rw [if_neg (fun h => h h5), if_pos h5, if_neg (show ¬ [a, b].length = 1 by simp), if_neg h3, if_neg (show ¬ (k = 4 ∧ _) from fun h => h4 h.1), if_neg h4]
        by_cases h6 : k = 16 ∧ (evalF vars a).1 = 0
        · rw [if_pos h6, if_pos h6]; exact ⟨rfl, h0⟩
        rw [if_neg h6, if_neg h6]
        by_cases h7 : k = 17 ∧ (evalF vars a).1 ≠ 0
        · rw [if_pos h7, if_pos h7]; exact ⟨rfl, by unfold In; omega⟩
        rw [if_neg h7, if_neg h7]
        by_cases h8 : (evalF vars b).2 = 0
        · rw [if_neg (fun h => h h8), if_pos h8]
          refine ⟨?_, twoF_in h ja jb⟩
          by_cases h9 : k = 16 ∨ k = 17
          · rw [if_pos h9]
            rcases h9 with rfl | rfl <;> simp only [twoF, reduceIte, Int.reduceEq]
          · rw [if_neg h9, twoF_eq (by omega) ja jb]
        · rw [if_pos h8, if_neg h8]; exact ⟨rfl, h0⟩
      · rw [if_pos h5, if_neg h5]
        exact ⟨rfl, h0⟩
  termination_by x => SizeOf.sizeOf x
end
end Go.Proofs.YtlbpiiehanibfaaDoor
namespace Go.Proofs.YtlbpiiehanibfaaDoor
open Go Go.RowKit Go.Ev Go.Dv
noncomputable section
set_option maxRecDepth 100000
variable (G : Nat × Nat)
theorem ivR_sc (n : Nat) (hn : 0 < n) (l : List Int) : sc n (Rw false eI l.length (ivs l)) = true := ivV_sc n hn l
attribute [push_cast] ivR_sc
theorem eval_t (vars : List Int) (x : Ex) (hs : smF x = true) (hl : vars.length < 1000000000) (hr : rightF vars.length x = true) : CallF (pp G) H0 25 [exV x, ivV vars] (t2 (evalF vars x)) := by
  have hlo : H0.lo ≤ H0.next := Nat.le_refl _; refine CallF.cut (CallD.fir4 (q := qq) (good G) fir25 ok_ir25 rfl rfl (F16_arr ..) (Nat.le_refl _) ?_); rw [sd_ir25]
  unfold ivV
  simp (disch:=first|omega|(refine id ?_;simp only[push_cast];first|done|omega)) only [push_cast]
  refine CallVD.data (right_f G vars.length x hs) (by first | exact FzL.ids rfl | (refine FzL.ids ?_; simp (disch:=first|omega|(refine id ?_;simp only[push_cast];first|done|omega)) only [push_cast])) (by first | rfl | (simp (disch:=first|omega|(refine id ?_;simp only[push_cast];first|done|omega)) only [push_cast])) (by first | rfl | (simp (disch:=first|omega|(refine id ?_;simp only[push_cast];first|done|omega)) only [push_cast])) ?_
  simp (disch:=first|omega|(refine id ?_;simp only[push_cast];first|done|omega)) only [push_cast,hr]
  refine CallVD.data (eval_f G vars x hr) (by first | exact FzL.ids rfl | (refine FzL.ids ?_; simp (disch:=first|omega|(refine id ?_;simp only[push_cast];first|done|omega)) only [push_cast])) (by first | rfl | (simp (disch:=first|omega|(refine id ?_;simp only[push_cast];first|done|omega)) only [push_cast])) (by first | rfl | (simp (disch:=first|omega|(refine id ?_;simp only[push_cast];first|done|omega)) only [push_cast])) ?_
  simp (disch:=first|omega|(refine id ?_;simp only[push_cast];first|done|omega)) only [push_cast]
  exact .id rfl
end
end Go.Proofs.YtlbpiiehanibfaaDoor
namespace Go.Proofs.YtlbpiiehanibfaaDoor
open Go Go.RowKit Go.Ev Go.Dv
noncomputable section
set_option maxRecDepth 100000
variable (G : Nat × Nat)
theorem in_wf {a : Int} (h : (Lit.int .i64 a).wf = true) : In a := by
  simp only [Lit.wf, Bool.and_eq_true, decide_eq_true_eq] at h
  exact h
def withF (a n : Int) : Int := if a.tmod n < 0 then a.tmod n + n else a.tmod n
theorem withF_lt {a n : Int} (hn : 0 < n) : 0 ≤ withF a n ∧ withF a n < n := by
  have h1 : (a.tmod n).natAbs = a.natAbs % n.natAbs := Int.natAbs_tmod a n
  have h2 : a.natAbs % n.natAbs < n.natAbs := Nat.mod_lt _ (by omega)
  unfold withF
  split <;> omega
theorem within_f (a n : Int) (hn : 0 < n) (hn2 : n < 1000000000) : CallF (pp G) H0 31 [.int .i64 a, .int .i64 n] (.int .i64 (withF a n)) := by
  have hlo : H0.lo ≤ H0.next := Nat.le_refl _; refine CallF.cut (CallD.fir4 (q := qq) (good G) fir31 ok_ir31 rfl rfl (F15_arr ..) (Nat.le_refl _) ?_); rw [sd_ir31]
  have h0 : ¬ n = 0 := by omega
  have h1 : ¬ n = -1 := by omega
  have h2 := withF_lt (a := a) hn
  unfold withF at h2 ⊢
  by_cases h : a.tmod n < 0
  · rw [if_pos h]
    rw [if_pos h] at h2
    have h3 : IntKind.i64.wrap (a.tmod n + n) = a.tmod n + n := W_in (by unfold In; omega)
    simp (disch:=first|omega|(refine id ?_;simp only[push_cast];first|done|omega)) only [push_cast,h,h0,h1,h3]
    exact .id rfl
  · rw [if_neg h]
    rw [if_neg h] at h2
    simp (disch:=first|omega|(refine id ?_;simp only[push_cast];first|done|omega)) only [push_cast,h,h0,h1]
    exact .id rfl
end
end Go.Proofs.YtlbpiiehanibfaaDoor
