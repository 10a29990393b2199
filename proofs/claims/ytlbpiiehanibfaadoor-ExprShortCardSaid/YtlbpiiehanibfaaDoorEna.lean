/-
  A part of the proof: conditions over an abstract memory, and that they are enough for what the model's calls do. No condition of its own.
-/
import Derived.Test.YtlbpiiehanibfaaDoorExb
import Derived.IntWalk
set_option linter.unusedSimpArgs false
set_option linter.unusedVariables false
namespace Go.Proofs.YtlbpiiehanibfaaDoor
open Go Go.RowKit Go.Ev Go.Dv
noncomputable section
variable (G : Nat × Nat)
def t2 (x : Int × Int) : Value := .tuple #[.int .i64 x.1, .int .i64 x.2]
@[push_cast]theorem t2_eq (x : Int × Int) : t2 x = .tuple ⟨[.int .i64 x.1, .int .i64 x.2]⟩ := rfl
def W (a : Int) : Int := IntKind.i64.wrap a
def addF (a b : Int) : Int × Int := if decide (a < W (a + b)) == decide (0 < b) then (W (a + b), 0) else (0, 8)
def subF (a b : Int) : Int × Int := if decide (W (a - b) < a) == decide (0 < b) then (W (a - b), 0) else (0, 8)
def mulF (a b : Int) : Int × Int := if a ≠ 0 ∧ (W ((W (a * b)).tdiv a) ≠ b ∨ a = -1 ∧ b = -9223372036854775808) then (0, 8) else (W (a * b), 0)
def divF (a b : Int) : Int × Int := if b = 0 then (0, 9) else if a = -9223372036854775808 ∧ b = -1 then (0, 8) else (W (a.tdiv b), 0)
def remF (a b : Int) : Int × Int := if b = 0 then (0, 9) else if b = -1 then (0, 0) else (a.tmod b, 0)
def jR (b : Bool) : Int := if b then 1 else 0
theorem truth_f (b : Bool) : jC (pp G) H0 69 [.bool b] (.int .i64 (jR b)) := by
 have hlo : H0.lo ≤ H0.next := Nat.le_refl _; refine jC.cut (jV.fir4 (q := qq) (jO G) fir69 (by kernel_rfl) rfl rfl (F4_arr ..) (show NGG ≤ H0.lo by rw [qF]; decide) ?_); rw [sd_ir69]
 cases b with
 | true => simp (disch:=first|omega|(refine id ?_;simp only[push_cast];try omega)) only [push_cast,simprocAttr]; exact .id rfl
 | false => simp (disch:=first|omega|(refine id ?_;simp only[push_cast];try omega)) only [push_cast,simprocAttr]; exact .id rfl
theorem add_f (a b : Int) : jC (pp G) H0 74 [.int .i64 a, .int .i64 b] (t2 (addF a b)) := by
 have hlo : H0.lo ≤ H0.next := Nat.le_refl _; refine jC.cut (jV.fir4 (q := qq) (jO G) fir74 (by kernel_rfl) rfl rfl (F17_arr ..) (show NGG ≤ H0.lo by rw [qF]; decide) ?_); rw [sd_ir74]
 unfold addF W
 cases h : (decide (a < IntKind.i64.wrap (a + b)) == decide (0 < b)) with
 | true => simp (disch:=first|omega|(refine id ?_;simp only[push_cast];try omega)) only [push_cast,simprocAttr,h]; exact .id rfl
 | false => simp (disch:=first|omega|(refine id ?_;simp only[push_cast];try omega)) only [push_cast,simprocAttr,h]; exact .id rfl
theorem sub_f (a b : Int) : jC (pp G) H0 70 [.int .i64 a, .int .i64 b] (t2 (subF a b)) := by
 have hlo : H0.lo ≤ H0.next := Nat.le_refl _; refine jC.cut (jV.fir4 (q := qq) (jO G) fir70 (by kernel_rfl) rfl rfl (F17_arr ..) (show NGG ≤ H0.lo by rw [qF]; decide) ?_); rw [sd_ir70]
 unfold subF W
 cases h : (decide (IntKind.i64.wrap (a - b) < a) == decide (0 < b)) with
 | true => simp (disch:=first|omega|(refine id ?_;simp only[push_cast];try omega)) only [push_cast,simprocAttr,h]; exact .id rfl
 | false => simp (disch:=first|omega|(refine id ?_;simp only[push_cast];try omega)) only [push_cast,simprocAttr,h]; exact .id rfl
theorem div_f (a b : Int) : jC (pp G) H0 72 [.int .i64 a, .int .i64 b] (t2 (divF a b)) := by
 have hlo : H0.lo ≤ H0.next := Nat.le_refl _; refine jC.cut (jV.fir4 (q := qq) (jO G) fir72 (by kernel_rfl) rfl rfl (F19_arr ..) (show NGG ≤ H0.lo by rw [qF]; decide) ?_); rw [sd_ir72]
 unfold divF W
 by_cases h : b = 0
 ·simp (disch:=first|omega|(refine id ?_;simp only[push_cast];try omega)) only [push_cast,simprocAttr,h]; exact .id rfl
 by_cases h1 : a = -9223372036854775808
 ·by_cases h2 : b = -1
  ·simp (disch:=first|omega|(refine id ?_;simp only[push_cast];try omega)) only [push_cast,simprocAttr,h,h1,h2]; exact .id rfl
  ·simp (disch:=first|omega|(refine id ?_;simp only[push_cast];try omega)) only [push_cast,simprocAttr,h,h1,h2]; exact .id rfl
 ·simp (disch:=first|omega|(refine id ?_;simp only[push_cast];try omega)) only [push_cast,simprocAttr,h,h1,false_and]; exact .id rfl
theorem rem_f (a b : Int) : jC (pp G) H0 73 [.int .i64 a, .int .i64 b] (t2 (remF a b)) := by
 have hlo : H0.lo ≤ H0.next := Nat.le_refl _; refine jC.cut (jV.fir4 (q := qq) (jO G) fir73 (by kernel_rfl) rfl rfl (F14_arr ..) (show NGG ≤ H0.lo by rw [qF]; decide) ?_); rw [sd_ir73]
 unfold remF
 by_cases h : b = 0
 ·simp (disch:=first|omega|(refine id ?_;simp only[push_cast];try omega)) only [push_cast,simprocAttr,h]; exact .id rfl
 by_cases h1 : b = -1
 ·simp (disch:=first|omega|(refine id ?_;simp only[push_cast];try omega)) only [push_cast,simprocAttr,h,h1]; exact .id rfl
 ·simp (disch:=first|omega|(refine id ?_;simp only[push_cast];try omega)) only [push_cast,simprocAttr,h,h1]; exact .id rfl
theorem mul_f (a b : Int) : jC (pp G) H0 71 [.int .i64 a, .int .i64 b] (t2 (mulF a b)) := by
 have hlo : H0.lo ≤ H0.next := Nat.le_refl _; refine jC.cut (jV.fir4 (q := qq) (jO G) fir71 (by kernel_rfl) rfl rfl (F28_arr ..) (show NGG ≤ H0.lo by rw [qF]; decide) ?_); rw [sd_ir71]
 by_cases h : a = 0
 ·rw [mulF, if_neg (fun hc => hc.1 h)]
  subst h
  unfold W
  simp (disch:=first|omega|(refine id ?_;simp only[push_cast];try omega)) only [push_cast,simprocAttr]; exact .id rfl
 by_cases h1 : IntKind.i64.wrap ((IntKind.i64.wrap (a * b)).tdiv a) = b
 ·by_cases h2 : a = -1
  ·by_cases h3 : b = -9223372036854775808
   ·rw [mulF, if_pos ⟨h, .inr ⟨h2, h3⟩⟩]
    subst h2 h3
    have h4 : IntKind.i64.wrap ((IntKind.i64.wrap 9223372036854775808).tdiv (-1)) = -9223372036854775808 := by decide
    simp (disch:=first|omega|(refine id ?_;simp only[push_cast];try omega)) only [push_cast,simprocAttr,h4]; exact .id rfl
   ·rw [mulF, if_neg (fun hc => hc.2.elim (fun hn => hn h1) fun hn => h3 hn.2)]
    subst h2
    simp (disch:=first|omega|(refine id ?_;simp only[push_cast];try omega)) only [push_cast,simprocAttr,h1,h3]; exact .id rfl
  ·rw [mulF, if_neg (fun hc => hc.2.elim (fun hn => hn h1) fun hn => h2 hn.1)]
   simp (disch:=first|omega|(refine id ?_;simp only[push_cast];try omega)) only [push_cast,simprocAttr,h,h1,h2]; exact .id rfl
 ·rw [mulF, if_pos ⟨h, .inl h1⟩]
  simp (disch:=first|omega|(refine id ?_;simp only[push_cast];try omega)) only [push_cast,simprocAttr,h,h1]; exact .id rfl
def oneF (k a : Int) : Int × Int := if k = 3 then (jR (decide (a = 0)), 0) else subF 0 a
theorem one_f (k a : Int) : jC (pp G) H0 59 [.int .i64 k, .int .i64 a] (t2 (oneF k a)) := by
 have hlo : H0.lo ≤ H0.next := Nat.le_refl _; refine jC.cut (jV.fir4 (q := qq) (jO G) fir59 (by kernel_rfl) rfl rfl (F15_arr ..) (show NGG ≤ H0.lo by rw [qF]; decide) ?_); rw [sd_ir59]
 by_cases h : k = 3
 ·rw [oneF, if_pos h]
  simp (disch:=first|omega|(refine id ?_;simp only[push_cast];try omega)) only [push_cast,simprocAttr,h]
  refine jA.dataI (truth_f G (decide (a = 0))) (by and_intros <;> first | rfl | (simp (disch:=first|omega|(refine id ?_;simp only[push_cast];try omega)) only [push_cast])) ?_
  simp (disch:=first|omega|(refine id ?_;simp only[push_cast];try omega)) only [push_cast,simprocAttr]
  exact .id rfl
 ·rw [oneF, if_neg h]
  simp (disch:=first|omega|(refine id ?_;simp only[push_cast];try omega)) only [push_cast,simprocAttr,h]
  refine jA.dataI (sub_f G 0 a) (by and_intros <;> first | rfl | (simp (disch:=first|omega|(refine id ?_;simp only[push_cast];try omega)) only [push_cast])) ?_
  simp (disch:=first|omega|(refine id ?_;simp only[push_cast];try omega)) only [push_cast,simprocAttr]
  exact .id rfl
def twoF (k a b : Int) : Int × Int :=
 if k = 5 then mulF a b else if k = 6 then divF a b else if k = 7 then remF a b else if k = 8 then addF a b else if k = 9 then subF a b
 else if k = 10 then (jR (decide (a = b)), 0) else if k = 11 then (jR (!decide (a = b)), 0) else if k = 12 then (jR (decide (a < b)), 0) else if k = 13 then (jR (decide (a ≤ b)), 0)
 else if k = 14 then (jR (decide (b < a)), 0) else if k = 15 then (jR (decide (b ≤ a)), 0) else (jR (!decide (b = 0)), 0)
theorem two_f (k a b : Int) : jC (pp G) H0 60 [.int .i64 k, .int .i64 a, .int .i64 b] (t2 (twoF k a b)) := by
 have hlo : H0.lo ≤ H0.next := Nat.le_refl _; refine jC.cut (jV.fir4 (q := qq) (jO G) fir60 (by kernel_rfl) rfl rfl (F83_arr ..) (show NGG ≤ H0.lo by rw [qF]; decide) ?_); rw [sd_ir60]
 by_cases h1 : k = 5
 ·rw [twoF, if_pos h1]
  simp (disch:=first|omega|(refine id ?_;simp only[push_cast];try omega)) only [push_cast,simprocAttr,h1]; refine jA.dataI (mul_f G a b) (by and_intros <;> first | rfl | (simp (disch:=first|omega|(refine id ?_;simp only[push_cast];try omega)) only [push_cast])) ?_; simp (disch:=first|omega|(refine id ?_;simp only[push_cast];try omega)) only [push_cast,simprocAttr]; exact .id rfl
 by_cases h2 : k = 6
 ·rw [twoF, if_neg h1, if_pos h2]
  simp (disch:=first|omega|(refine id ?_;simp only[push_cast];try omega)) only [push_cast,simprocAttr,h1,h2]; refine jA.dataI (div_f G a b) (by and_intros <;> first | rfl | (simp (disch:=first|omega|(refine id ?_;simp only[push_cast];try omega)) only [push_cast])) ?_; simp (disch:=first|omega|(refine id ?_;simp only[push_cast];try omega)) only [push_cast,simprocAttr]; exact .id rfl
 by_cases h3 : k = 7
 ·rw [twoF, if_neg h1, if_neg h2, if_pos h3]
  simp (disch:=first|omega|(refine id ?_;simp only[push_cast];try omega)) only [push_cast,simprocAttr,h1,h2,h3]; refine jA.dataI (rem_f G a b) (by and_intros <;> first | rfl | (simp (disch:=first|omega|(refine id ?_;simp only[push_cast];try omega)) only [push_cast])) ?_; simp (disch:=first|omega|(refine id ?_;simp only[push_cast];try omega)) only [push_cast,simprocAttr]; exact .id rfl
 by_cases h4 : k = 8
 ·rw [twoF, if_neg h1, if_neg h2, if_neg h3, if_pos h4]
  simp (disch:=first|omega|(refine id ?_;simp only[push_cast];try omega)) only [push_cast,simprocAttr,h1,h2,h3,h4]; refine jA.dataI (add_f G a b) (by and_intros <;> first | rfl | (simp (disch:=first|omega|(refine id ?_;simp only[push_cast];try omega)) only [push_cast])) ?_; simp (disch:=first|omega|(refine id ?_;simp only[push_cast];try omega)) only [push_cast,simprocAttr]; exact .id rfl
 by_cases h5 : k = 9
 ·rw [twoF, if_neg h1, if_neg h2, if_neg h3, if_neg h4, if_pos h5]
  simp (disch:=first|omega|(refine id ?_;simp only[push_cast];try omega)) only [push_cast,simprocAttr,h1,h2,h3,h4,h5]; refine jA.dataI (sub_f G a b) (by and_intros <;> first | rfl | (simp (disch:=first|omega|(refine id ?_;simp only[push_cast];try omega)) only [push_cast])) ?_; simp (disch:=first|omega|(refine id ?_;simp only[push_cast];try omega)) only [push_cast,simprocAttr]; exact .id rfl
 by_cases h6 : k = 10
 ·rw [twoF, if_neg h1, if_neg h2, if_neg h3, if_neg h4, if_neg h5, if_pos h6]
  simp (disch:=first|omega|(refine id ?_;simp only[push_cast];try omega)) only [push_cast,simprocAttr,h1,h2,h3,h4,h5,h6]; refine jA.dataI (truth_f G (decide (a = b))) (by and_intros <;> first | rfl | (simp (disch:=first|omega|(refine id ?_;simp only[push_cast];try omega)) only [push_cast])) ?_; simp (disch:=first|omega|(refine id ?_;simp only[push_cast];try omega)) only [push_cast,simprocAttr]; exact .id rfl
 by_cases h7 : k = 11
 ·rw [twoF, if_neg h1, if_neg h2, if_neg h3, if_neg h4, if_neg h5, if_neg h6, if_pos h7]
  simp (disch:=first|omega|(refine id ?_;simp only[push_cast];try omega)) only [push_cast,simprocAttr,h1,h2,h3,h4,h5,h6,h7]; refine jA.dataI (truth_f G (!decide (a = b))) (by and_intros <;> first | rfl | (simp (disch:=first|omega|(refine id ?_;simp only[push_cast];try omega)) only [push_cast])) ?_; simp (disch:=first|omega|(refine id ?_;simp only[push_cast];try omega)) only [push_cast,simprocAttr]; exact .id rfl
 by_cases h8 : k = 12
 ·rw [twoF, if_neg h1, if_neg h2, if_neg h3, if_neg h4, if_neg h5, if_neg h6, if_neg h7, if_pos h8]
  simp (disch:=first|omega|(refine id ?_;simp only[push_cast];try omega)) only [push_cast,simprocAttr,h1,h2,h3,h4,h5,h6,h7,h8]; refine jA.dataI (truth_f G (decide (a < b))) (by and_intros <;> first | rfl | (simp (disch:=first|omega|(refine id ?_;simp only[push_cast];try omega)) only [push_cast])) ?_; simp (disch:=first|omega|(refine id ?_;simp only[push_cast];try omega)) only [push_cast,simprocAttr]; exact .id rfl
 by_cases h9 : k = 13
 ·rw [twoF, if_neg h1, if_neg h2, if_neg h3, if_neg h4, if_neg h5, if_neg h6, if_neg h7, if_neg h8, if_pos h9]
  simp (disch:=first|omega|(refine id ?_;simp only[push_cast];try omega)) only [push_cast,simprocAttr,h1,h2,h3,h4,h5,h6,h7,h8,h9]; refine jA.dataI (truth_f G (decide (a ≤ b))) (by and_intros <;> first | rfl | (simp (disch:=first|omega|(refine id ?_;simp only[push_cast];try omega)) only [push_cast])) ?_; simp (disch:=first|omega|(refine id ?_;simp only[push_cast];try omega)) only [push_cast,simprocAttr]; exact .id rfl
 by_cases h10 : k = 14
 ·rw [twoF, if_neg h1, if_neg h2, if_neg h3, if_neg h4, if_neg h5, if_neg h6, if_neg h7, if_neg h8, if_neg h9, if_pos h10]
  simp (disch:=first|omega|(refine id ?_;simp only[push_cast];try omega)) only [push_cast,simprocAttr,h1,h2,h3,h4,h5,h6,h7,h8,h9,h10]; refine jA.dataI (truth_f G (decide (b < a))) (by and_intros <;> first | rfl | (simp (disch:=first|omega|(refine id ?_;simp only[push_cast];try omega)) only [push_cast])) ?_; simp (disch:=first|omega|(refine id ?_;simp only[push_cast];try omega)) only [push_cast,simprocAttr]; exact .id rfl
 by_cases h11 : k = 15
 ·rw [twoF, if_neg h1, if_neg h2, if_neg h3, if_neg h4, if_neg h5, if_neg h6, if_neg h7, if_neg h8, if_neg h9, if_neg h10, if_pos h11]
  simp (disch:=first|omega|(refine id ?_;simp only[push_cast];try omega)) only [push_cast,simprocAttr,h1,h2,h3,h4,h5,h6,h7,h8,h9,h10,h11]; refine jA.dataI (truth_f G (decide (b ≤ a))) (by and_intros <;> first | rfl | (simp (disch:=first|omega|(refine id ?_;simp only[push_cast];try omega)) only [push_cast])) ?_; simp (disch:=first|omega|(refine id ?_;simp only[push_cast];try omega)) only [push_cast,simprocAttr]; exact .id rfl
 rw [twoF, if_neg h1, if_neg h2, if_neg h3, if_neg h4, if_neg h5, if_neg h6, if_neg h7, if_neg h8, if_neg h9, if_neg h10, if_neg h11]
 simp (disch:=first|omega|(refine id ?_;simp only[push_cast];try omega)) only [push_cast,simprocAttr,h1,h2,h3,h4,h5,h6,h7,h8,h9,h10,h11]; refine jA.dataI (truth_f G (!decide (b = 0))) (by and_intros <;> first | rfl | (simp (disch:=first|omega|(refine id ?_;simp only[push_cast];try omega)) only [push_cast])) ?_; simp (disch:=first|omega|(refine id ?_;simp only[push_cast];try omega)) only [push_cast,simprocAttr]; exact .id rfl
inductive Ex where
 | mk (k n : Int) (s : List UInt8) (l : List Ex)
def Ex.k : Ex → Int | .mk k _ _ _ => k
abbrev eE : Nat := 27
mutual
def exC : Ex → List Value
 | .mk k n s l => [.int .i64 k, .int .i64 n, .string (Tx s), Rw false eE l.length (qW l)]
def qW : List Ex → List Value
 | [] => []
 | x :: l => exC x ++ qW l
end
def exV (x : Ex) : Value := .agg ⟨exC x⟩
theorem exC_len (x : Ex) : (exC x).length = 4 := by cases x; simp [exC]
theorem exCs_len : ∀ l : List Ex, (qW l).length = l.length * 4
 | [] => rfl
 | x :: l => by rw [qW, List.length_append, exC_len, exCs_len l, List.length_cons]; omega
mutual
theorem exC_one : ∀ x : Ex, (exC x).all one = true
 | .mk k n s l => by simp [exC, one, Rw]
theorem exCs_one : ∀ l : List Ex, (qW l).all one = true
 | [] => rfl
 | x :: l => by rw [qW, List.all_append, exC_one x, exCs_one l]; rfl
end
mutual
theorem exC_sc (n : Nat) (hn : 0 < n) : ∀ x : Ex, scL n (exC x) = true
 | .mk k m s l => by
  have := exCs_sc n hn l
  simp [exC, scL, sc, Rw, this, hn]
theorem exCs_sc (n : Nat) (hn : 0 < n) : ∀ l : List Ex, scL n (qW l) = true
 | [] => rfl
 | x :: l => by
  rw [qW]
  exact jF fun v hv => (List.mem_append.1 hv).elim (scL_all (exC_sc n hn x) v) (scL_all (exCs_sc n hn l) v)
end
theorem exV_sc (n : Nat) (hn : 0 < n) (x : Ex) : sc n (exV x) = true := exC_sc n hn x
theorem exCs_drop : ∀ (l : List Ex) (i : Nat), (qW l).drop (i * 4) = qW (l.drop i)
 | l, 0 => by simp
 | [], i + 1 => by simp [qW]
 | x :: l, i + 1 => by
  rw [qW, List.drop_succ_cons, ← exCs_drop l i, Nat.add_mul, Nat.one_mul, Nat.add_comm, ← List.drop_drop, List.drop_append_of_le_length (by rw [exC_len]; exact Nat.le_refl _), show (exC x).drop 4 = [] from List.drop_of_length_le (by rw [exC_len]; exact Nat.le_refl _), List.nil_append]
theorem exCs_part {l : List Ex} {i : Nat} {x : Ex} (h : l[i]? = some x) : jY true 4 (qW l) (i * 4) = some (exV x) := by
 have hi : i < l.length := (List.getElem?_eq_some_iff.1 h).1
 have hd : l.drop i = x :: l.drop (i + 1) := by rw [List.drop_eq_getElem_cons hi]; congr 1; exact (List.getElem?_eq_some_iff.1 h).2
 have hle : i * 4 + 4 ≤ (qW l).length := by rw [exCs_len]; omega
 simp only [jY, if_pos hle, exV]
 congr 3
 rw [exCs_drop, hd, qW, List.take_append_of_le_length (by rw [exC_len]; exact Nat.le_refl _), List.take_of_length_le (by rw [exC_len]; exact Nat.le_refl _)]
mutual
def jD (vars : List Int) : Ex → Int × Int
 | .mk k n s l => if k = 1 then (n, 0) else if k = 2 then (vars.getD n.toNat 0, 0) else
  match evalL vars l with
  | [] => (0, 0)
  | a :: r => if a.2 ≠ 0 then (0, a.2) else if l.length = 1 then oneF k a.1 else if k = 16 ∧ a.1 = 0 then (0, 0) else if k = 17 ∧ a.1 ≠ 0 then (1, 0) else
   match r with
   | [] => (0, 0)
   | b :: _ => if b.2 ≠ 0 then (0, b.2) else twoF k a.1 b.1
def evalL (vars : List Int) : List Ex → List (Int × Int)
 | [] => []
 | x :: l => jD vars x :: evalL vars l
end
mutual
def jG (v : Int) : Ex → Bool
 | .mk k n s l => (if k = 1 ∧ 0 ≤ n then decide (l.length = 0) else if k = 2 ∧ 0 ≤ n ∧ n < v then decide (l.length = 0) else if k = 3 ∨ k = 4 then decide (l.length = 1 ∧ n = 0) else if 5 ≤ k ∧ k ≤ 17 then decide (l.length = 2 ∧ n = 0) else false)
   && decide (s = []) && jK v l
def jK (v : Int) : List Ex → Bool
 | [] => true
 | x :: l => jG v x && jK v l
end
mutual
def smF : Ex → Bool
 | .mk k n s l => decide (l.length < 1000000000) && smL l
def smL : List Ex → Bool
 | [] => true
 | x :: l => smF x && smL l
end
theorem smL_all : ∀ {l : List Ex}, smL l = true → ∀ x ∈ l, smF x = true
 | [], _, x, hx => by cases hx
 | y :: l, h, x, hx => by
  simp only [smL, Bool.and_eq_true] at h
  rcases List.mem_cons.1 hx with rfl | hx
  ·exact h.1
  ·exact smL_all h.2 x hx
end
end Go.Proofs.YtlbpiiehanibfaaDoor
namespace Go.Proofs.YtlbpiiehanibfaaDoor
open Go Go.RowKit Go.Ev Go.Dv
noncomputable section
set_option maxRecDepth 100000
variable (G : Nat × Nat)
abbrev eI : Nat := 3
def ivs (l : List Int) : List Value := l.map (Value.int .i64)
def ivV (l : List Int) : Value := Rw false eI l.length (ivs l)
theorem ivs_len (l : List Int) : (ivs l).length = l.length := by simp [ivs]
theorem ivs_sc (n : Nat) : ∀ l : List Int, scL n (ivs l) = true
 | [] => rfl
 | x :: l => by
  have := ivs_sc n l
  simp only [ivs] at this
  simp [ivs, scL, sc, this]
theorem ivV_sc (n : Nat) (hn : 0 < n) (l : List Int) : sc n (ivV l) = true := by
 have := ivs_sc n l
 simp [ivV, sc, Rw, scL, this, hn]
theorem ivs_part {l : List Int} {i : Nat} (h : i < l.length) : jY false 0 (ivs l) (i * 1) = some (.int .i64 (l.getD i 0)) := by
 simp [jY, ivs, h]
theorem exCs_take {l : List Ex} {i : Nat} {x : Ex} (h : l[i]? = some x) : ((qW l).drop (i * 4)).take 4 = exC x := by
 have := exCs_part h
 have hi : i < l.length := (List.getElem?_eq_some_iff.1 h).1
 have hle : i * 4 + 4 ≤ (qW l).length := by rw [exCs_len]; omega
 simp only [jY, if_pos hle, exV, Option.some.injEq, Value.agg.injEq, Array.mk.injEq] at this
 exact this
theorem exCs_p0 (x : Ex) (l : List Ex) : (qW (x :: l)).take 4 = exC x := exCs_take (l := x :: l) (i := 0) rfl
theorem exCs_p1 (x y : Ex) (l : List Ex) : ((qW (x :: y :: l)).drop 4).take 4 = exC y := exCs_take (l := x :: y :: l) (i := 1) rfl
theorem exV_fold (x : Ex) : Value.agg ⟨exC x⟩ = exV x := rfl
attribute [push_cast] exCs_len ivs_len exCs_p0 exCs_p1 exV_fold Int.toNat_zero Int.toNat_one Int.natCast_one exCs_sc ivs_sc ivV_sc exV_sc exC_sc exCs_one exC_one qF H0_next
theorem exV_cells (x : Ex) : (exV x).cells.toList = exC x := rfl
theorem exC_take (x : Ex) : (exC x).take 4 = exC x := List.take_of_length_le (by rw [exC_len]; exact Nat.le_refl _)
attribute [push_cast] exV_cells exC_take exC_len
theorem rightL_all {v : Int} : ∀ {l : List Ex}, jK v l = true → ∀ x ∈ l, jG v x = true
 | [], _, x, hx => by cases hx
 | y :: l, h, x, hx => by
  simp only [jK, Bool.and_eq_true] at h
  rcases List.mem_cons.1 hx with rfl | hx
  ·exact h.1
  ·exact rightL_all h.2 x hx
theorem evalF_1 {vars : List Int} {k n : Int} {s : List UInt8} {a : Ex} (h1 : ¬ k = 1) (h2 : ¬ k = 2) : jD vars (.mk k n s [a]) = if (jD vars a).2 = 0 then oneF k (jD vars a).1 else (0, (jD vars a).2) := by
 rw [jD, if_neg h1, if_neg h2]
 simp only [evalL, List.length_cons, List.length_nil, if_true, ne_eq, ite_not]
theorem evalF_2 {vars : List Int} {k n : Int} {s : List UInt8} {a b : Ex} (h1 : ¬ k = 1) (h2 : ¬ k = 2) : jD vars (.mk k n s [a, b]) = if (jD vars a).2 = 0 then (if k = 16 ∧ (jD vars a).1 = 0 then (0, 0) else if k = 17 ∧ (jD vars a).1 ≠ 0 then (1, 0) else
   if (jD vars b).2 = 0 then twoF k (jD vars a).1 (jD vars b).1 else (0, (jD vars b).2)) else (0, (jD vars a).2) := by
 rw [jD, if_neg h1, if_neg h2]
 simp only [evalL, List.length_cons, List.length_nil, ne_eq, ite_not, Nat.reduceAdd, Nat.reduceEqDiff, if_false]
theorem eval_f (vars : List Int) : ∀ x : Ex, jG vars.length x = true → jC (pp G) H0 44 [exV x, ivV vars] (t2 (jD vars x))
 | .mk k n s l, hr => by
  have ih : ∀ x ∈ l, jG vars.length x = true → jC (pp G) H0 44 [exV x, ivV vars] (t2 (jD vars x)) := fun x hx h => eval_f vars x h
  simp only [jG, Bool.and_eq_true] at hr
  obtain ⟨⟨hr1, hr2⟩, hr3⟩ := hr
  have hall := rightL_all hr3
  have hlo : H0.lo ≤ H0.next := Nat.le_refl _; refine jC.cut (jV.fir4 (q := qq) (jO G) fir44 (by kernel_rfl) rfl rfl (F81_arr ..) (show NGG ≤ H0.lo by rw [qF]; decide) ?_); rw [sd_ir44]
  unfold exV exC
  by_cases h1 : k = 1
  ·rw [jD, if_pos h1]
   simp (disch:=first|omega|(refine id ?_;simp only[push_cast];try omega)) only [push_cast,simprocAttr,h1]
   exact .id rfl
  by_cases h2 : k = 2
  ·rw [jD, if_neg h1, if_pos h2]
   have hn : 0 ≤ n ∧ n < vars.length := by
    rw [if_neg (fun h => h1 h.1)] at hr1
    by_cases hx : k = 2 ∧ 0 ≤ n ∧ n < vars.length
    ·exact hx.2
    ·rw [if_neg hx, if_neg (by omega), if_neg (by omega)] at hr1
     cases hr1
   have hp := ivs_part (l := vars) (i := n.toNat) (by omega)
   rw [Nat.mul_one] at hp
   unfold ivV
   simp (disch:=first|omega|(refine id ?_;simp only[push_cast];try omega)) only [push_cast,simprocAttr,h1,h2,hp]
   exact .id rfl
  rw [if_neg (fun h => h1 h.1), if_neg (fun h => h2 h.1)] at hr1
  by_cases h3 : k = 3 ∨ k = 4
  ·rw [if_pos h3, decide_eq_true_eq] at hr1
   obtain ⟨a, rfl⟩ : ∃ a, l = [a] := List.length_eq_one_iff.1 hr1.1
   have ha := ih a (by simp) (hall a (by simp))
   rw [evalF_1 h1 h2]
   simp (disch:=first|omega|(refine id ?_;simp only[push_cast];try omega)) only [push_cast,simprocAttr,h1,h2]
   refine jA.dataI (ha) (by and_intros <;> first | rfl | (simp (disch:=first|omega|(refine id ?_;simp only[push_cast];try omega)) only [push_cast])) ?_
   by_cases h4 : (jD vars a).2 = 0
   ·rw [if_pos h4]
    simp (disch:=first|omega|(refine id ?_;simp only[push_cast];try omega)) only [push_cast,simprocAttr,h4]
    refine jA.dataI (one_f G k (jD vars a).1) (by and_intros <;> first | rfl | (simp (disch:=first|omega|(refine id ?_;simp only[push_cast];try omega)) only [push_cast])) ?_
    simp (disch:=first|omega|(refine id ?_;simp only[push_cast];try omega)) only [push_cast,simprocAttr]
    exact .id rfl
   ·rw [if_neg h4]
    simp (disch:=first|omega|(refine id ?_;simp only[push_cast];try omega)) only [push_cast,simprocAttr,h4]
    exact .id rfl
  ·have hbd : 5 ≤ k ∧ k ≤ 17 := by
    rw [if_neg h3] at hr1
    by_cases hx : 5 ≤ k ∧ k ≤ 17
    ·exact hx
    ·rw [if_neg hx] at hr1; cases hr1
   rw [if_neg h3, if_pos hbd, decide_eq_true_eq] at hr1
   obtain ⟨a, b, rfl⟩ : ∃ a b, l = [a, b] := by
    match l, hr1.1 with
    | [a, b], _ => exact ⟨a, b, rfl⟩
   have ha := ih a (by simp) (hall a (by simp))
   have hb := ih b (by simp) (hall b (by simp))
   rw [evalF_2 h1 h2]
   simp (disch:=first|omega|(refine id ?_;simp only[push_cast];try omega)) only [push_cast,simprocAttr,h1,h2]
   refine jA.dataI (ha) (by and_intros <;> first | rfl | (simp (disch:=first|omega|(refine id ?_;simp only[push_cast];try omega)) only [push_cast])) ?_
   by_cases h4 : (jD vars a).2 = 0
   ·rw [if_pos h4]
    by_cases h5 : k = 16 ∧ (jD vars a).1 = 0
    ·rw [if_pos h5]
     obtain ⟨h5, h6⟩ := h5
     simp (disch:=first|omega|(refine id ?_;simp only[push_cast];try omega)) only [push_cast,simprocAttr,h4,h5,h6]
     exact .id rfl
    rw [if_neg h5]
    by_cases h6 : k = 17 ∧ (jD vars a).1 ≠ 0
    ·rw [if_pos h6]
     obtain ⟨h6, h7⟩ := h6
     simp (disch:=first|omega|(refine id ?_;simp only[push_cast];try omega)) only [push_cast,simprocAttr,h4,h6,h7]
     exact .id rfl
    rw [if_neg h6]
    have key : ∀ (K : Value → Heap → Prop), True := fun _ => trivial
    by_cases h8 : k = 16
    ·have h9 : ¬ (jD vars a).1 = 0 := fun h => h5 ⟨h8, h⟩
     subst h8
     simp (disch:=first|omega|(refine id ?_;simp only[push_cast];try omega)) only [push_cast,simprocAttr,h4,h9]
     refine jA.dataI (hb) (by and_intros <;> first | rfl | (simp (disch:=first|omega|(refine id ?_;simp only[push_cast];try omega)) only [push_cast])) ?_
     by_cases h10 : (jD vars b).2 = 0
     ·rw [if_pos h10]; simp (disch:=first|omega|(refine id ?_;simp only[push_cast];try omega)) only [push_cast,simprocAttr,h10]; refine jA.dataI (two_f G 16 (jD vars a).1 (jD vars b).1) (by and_intros <;> first | rfl | (simp (disch:=first|omega|(refine id ?_;simp only[push_cast];try omega)) only [push_cast])) ?_; simp (disch:=first|omega|(refine id ?_;simp only[push_cast];try omega)) only [push_cast,simprocAttr]; exact .id rfl
     ·rw [if_neg h10]; simp (disch:=first|omega|(refine id ?_;simp only[push_cast];try omega)) only [push_cast,simprocAttr,h10]; exact .id rfl
    by_cases h9 : k = 17
    ·have h9' : (jD vars a).1 = 0 := Classical.byContradiction fun h => h6 ⟨h9, h⟩
     subst h9
     simp (disch:=first|omega|(refine id ?_;simp only[push_cast];try omega)) only [push_cast,simprocAttr,h4,h9']
     refine jA.dataI (hb) (by and_intros <;> first | rfl | (simp (disch:=first|omega|(refine id ?_;simp only[push_cast];try omega)) only [push_cast])) ?_
     by_cases h10 : (jD vars b).2 = 0
     ·rw [if_pos h10]; simp (disch:=first|omega|(refine id ?_;simp only[push_cast];try omega)) only [push_cast,simprocAttr,h10]; refine jA.dataI (two_f G 17 0 (jD vars b).1) (by and_intros <;> first | rfl | (simp (disch:=first|omega|(refine id ?_;simp only[push_cast];try omega)) only [push_cast])) ?_; simp (disch:=first|omega|(refine id ?_;simp only[push_cast];try omega)) only [push_cast,simprocAttr,h9']; exact .id rfl
     ·rw [if_neg h10]; simp (disch:=first|omega|(refine id ?_;simp only[push_cast];try omega)) only [push_cast,simprocAttr,h10]; exact .id rfl
    simp (disch:=first|omega|(refine id ?_;simp only[push_cast];try omega)) only [push_cast,simprocAttr,h4,h8,h9]
    refine jA.dataI (hb) (by and_intros <;> first | rfl | (simp (disch:=first|omega|(refine id ?_;simp only[push_cast];try omega)) only [push_cast])) ?_
    by_cases h10 : (jD vars b).2 = 0
    ·rw [if_pos h10]; simp (disch:=first|omega|(refine id ?_;simp only[push_cast];try omega)) only [push_cast,simprocAttr,h10]; refine jA.dataI (two_f G k (jD vars a).1 (jD vars b).1) (by and_intros <;> first | rfl | (simp (disch:=first|omega|(refine id ?_;simp only[push_cast];try omega)) only [push_cast])) ?_; simp (disch:=first|omega|(refine id ?_;simp only[push_cast];try omega)) only [push_cast,simprocAttr]; exact .id rfl
    ·rw [if_neg h10]; simp (disch:=first|omega|(refine id ?_;simp only[push_cast];try omega)) only [push_cast,simprocAttr,h10]; exact .id rfl
   ·rw [if_neg h4]
    simp (disch:=first|omega|(refine id ?_;simp only[push_cast];try omega)) only [push_cast,simprocAttr,h4]
    exact .id rfl
 termination_by x => SizeOf.sizeOf x
attribute [push_cast] b_neqs
theorem rightL_take {v : Int} {l : List Ex} {i : Nat} {x : Ex} (h : l[i]? = some x) : jK v (l.take (i + 1)) = (jK v (l.take i) && jG v x) := by
 have hi := (List.getElem?_eq_some_iff.1 h).1
 have app : ∀ a b : List Ex, jK v (a ++ b) = (jK v a && jK v b) := by
  intro a b
  induction a with
  | nil => simp [jK]
  | cons x a ih => simp [jK, ih, Bool.and_assoc]
 rw [List.take_add_one, h, app]
 simp [jK]
theorem rightL_no {v : Int} {l : List Ex} {x : Ex} (h : x ∈ l) (hx : jG v x = false) : jK v l = false := by
 cases hc : jK v l with
 | false => rfl
 | true => rw [rightL_all hc x h] at hx; cases hx
inductive I27 (v : Int) (l : List Ex) : Nat → S → Prop
 | mk (i : Nat) (iv : Int) (h : Heap) {x0 x2 x3 x4 x5 x6 x7 x8 x9 x10 x11 x12 x13 x14 x15 x16 x17 x18 x19 x20 x21 x22 x23 x24 x25 x26 x27 x28 x29 x30 x31 x32 x33 x34 x35 x36 x37 x38 x39 x40 x41 x42 x43 x44 x45 x46 x47 x48 x49 x50 x51 x52 x53 x54 x55 x56 x57 x58 x59 x60 x61 x62 x63 x64 x65 x66 x67 x68 x69 x73 x74 x75 x76 x77 x78 x79 x80 : Value} (hiv : iv = (i : Int)) (hi : i ≤ l.length) (hok : jK v (l.take i) = true) (hl1 : h.lo = 6) (hl2 : 6 ≤ h.next) :
  I27 v l (l.length - i) ⟨(F81 x0 (.int .i64 v) x2 x3 x4 x5 x6 x7 x8 x9 x10 x11 x12 x13 x14 x15 x16 x17 x18 x19 x20 x21 x22 x23 x24 x25 x26 x27 x28 x29 x30 x31 x32 x33 x34 x35 x36 x37 x38 x39 x40 x41 x42 x43 x44 x45 x46 x47 x48 x49 x50 x51 x52 x53 x54 x55 x56 x57 x58 x59 x60 x61 x62 x63 x64 x65 x66 x67 x68 x69 (Rw false eE l.length (qW l)) (.int .i64 l.length) (.int .i64 iv) x73 x74 x75 x76 x77 x78 x79 x80), [], h⟩
theorem right_s0 (v c k n : Int) (s : List UInt8) (l : List Ex) (hll : l.length < 1000000000) (ih : ∀ x ∈ l, jC (pp G) H0 27 [exV x, .int .i64 v] (.bool (jG v x))) {x0 x3 x4 x6 x7 x8 x9 x10 x11 x12 x13 x14 x15 x16 x17 x18 x19 x20 x21 x22 x23 x24 x25 x26 x27 x28 x29 x30 x31 x32 x33 x34 x35 x36 x37 x38 x39 x40 x41 x42 x43 x44 x45 x46 x47 x48 x49 x50 x51 x52 x53 x54 x55 x56 x57 x58 x59 x60 x61 x62 x63 x64 x65 x66 x67 x68 x69 x70 x71 x72 x73 x74 x75 x76 x77 x78 x79 x80 : Value} (b : Bool)
  (hb : b = (decide (s = []) && decide ((l.length : Int) = c) && decide (c = 0 ∨ n = 0) && jK v l)) :
  dc3 (pp G) qq none ir27_s0 ⟨(F81 x0 (.int .i64 v) (.pointer (some ⟨6, 0, none⟩)) x3 x4 (.int .i64 c) x6 x7 x8 x9 x10 x11 x12 x13 x14 x15 x16 x17 x18 x19 x20 x21 x22 x23 x24 x25 x26 x27 x28 x29 x30 x31 x32 x33 x34 x35 x36 x37 x38 x39 x40 x41 x42 x43 x44 x45 x46 x47 x48 x49 x50 x51 x52 x53 x54 x55 x56 x57 x58 x59 x60 x61 x62 x63 x64 x65 x66 x67 x68 x69 x70 x71 x72 x73 x74 x75 x76 x77 x78 x79 x80), [], H0.add (O [.int .i64 k, .int .i64 n, .string (Tx s), Rw false eE l.length (qW l)] 27 false)⟩ (@kR ⟨qH Tryd.prog [.tmp 4] (fun v' σ' => FzV Tryd.prog 6 σ' v' (.bool b))⟩) := by
 rw [sd_ir27_s0]
 have key : ∀ {x50 x51 x52 x53 x54 x55 x56 x57 x58 x59 x60 x61 x62 x63 x64 x65 x66 x67 x68 x69 : Value} (hb : b = jK v l) (h : Heap) (hl1 : h.lo = 6) (hl2 : 6 ≤ h.next), WD (pp G) qq.H none (.loop ir27_s1) ⟨(F81 x0 (.int .i64 v) (.pointer (some ⟨6, 0, none⟩)) x3 x4 (.int .i64 c) x6 x7 x8 x9 x10 x11 x12 x13 x14 x15 x16 x17 x18 x19 x20 x21 x22 x23 x24 x25 x26 x27 x28 x29 x30 x31 x32 x33 x34 x35 x36 x37 x38 x39 x40 x41 x42 x43 x44 x45 x46 x47 x48 x49 x50 x51 x52 x53 x54 x55 x56 x57 x58 x59 x60 x61 x62 x63 x64 x65 x66 x67 x68 x69 (Rw false eE l.length (qW l)) (.int .i64 l.length) (.int .i64 0) x73 x74 x75 x76 x77 x78 x79 x80), [], h⟩
   (@kR ⟨outR3 1 (thenR3 (fun s1 => dc3 (pp G) qq none ir27_s2 s1 (@kR ⟨@kR ⟨qH Tryd.prog [.tmp 4] (fun v' σ' => FzV Tryd.prog 6 σ' v' (.bool b))⟩⟩)) (@kR ⟨qH Tryd.prog [.tmp 4] (fun v' σ' => FzV Tryd.prog 6 σ' v' (.bool b))⟩))⟩) := by
  intro x50 x51 x52 x53 x54 x55 x56 x57 x58 x59 x60 x61 x62 x63 x64 x65 x66 x67 x68 x69 hb h hl1 hl2
  refine WD.loop4 (q := qq) (jO G) (by kernel_rfl) (I27 v l) ?_ _ _ (I27.mk 0 0 h rfl (Nat.zero_le _) rfl hl1 hl2)
  intro m s1 hI
  cases hI with | mk i iv h hiv hi hok hl1 hl2 =>
  subst hiv
  rw [sd_ir27_s1]
  by_cases hil : (i : Int) < l.length
  ·obtain ⟨x, hx⟩ : ∃ x, l[i]? = some x := ⟨_, List.getElem?_eq_getElem (by omega)⟩
   have hxm := List.mem_of_getElem? hx
   have hp := exCs_take hx
   have hle : i * 4 + 4 ≤ l.length * 4 := by omega
   simp (disch:=first|omega|(refine id ?_;simp only[push_cast];try omega)) only [push_cast,simprocAttr,hil,Int.toNat_natCast,hp,hle,hl1]
   refine jA.dataI (ih x hxm) (by and_intros <;> first | rfl | (simp (disch:=first|omega|(refine id ?_;simp only[push_cast];try omega)) only [push_cast])) ?_
   cases hr : jG v x with
   | true =>
    simp (disch:=first|omega|(refine id ?_;simp only[push_cast];try omega)) only [push_cast,simprocAttr]
    exact ⟨_,by omega,I27.mk (i + 1) _ _ (by first | rfl | omega) (by omega) (by rw [rightL_take hx,hok,hr]; rfl) (by first | (simp (disch:=first|omega|(refine id ?_;simp only[push_cast];try omega)) only [push_cast,simprocAttr,hl1]; done) | (simp (disch:=first|omega|(refine id ?_;simp only[push_cast];try omega)) only [push_cast,simprocAttr]; omega)) (by first | (simp (disch:=first|omega|(refine id ?_;simp only[push_cast];try omega)) only [push_cast,simprocAttr]; done) | (simp (disch:=first|omega|(refine id ?_;simp only[push_cast];try omega)) only [push_cast,simprocAttr]; omega))⟩
   | false =>
    rw [rightL_no hxm hr] at hb
    subst hb
    simp (disch:=first|omega|(refine id ?_;simp only[push_cast];try omega)) only [push_cast,simprocAttr]
    exact .id rfl
  ·have hie : i = l.length := by omega
   subst hie
   rw [List.take_length] at hok
   rw [hok] at hb
   subst hb
   simp (disch:=first|omega|(refine id ?_;simp only[push_cast];try omega)) only [push_cast,simprocAttr,hil]
   exact .id rfl
 by_cases h1 : s = []
 ·by_cases h2 : (l.length : Int) = c
  ·subst h2
   by_cases h3 : (0 : Int) < l.length
   ·by_cases h4 : n = 0
    ·simp (disch:=first|omega|(refine id ?_;simp only[push_cast];try omega)) only [push_cast,simprocAttr,h1,h3,h4,beq_self_eq_true]
     exact key (by rw [hb]; simp [h1,h4]) _ (by simp (disch:=first|omega|(refine id ?_;simp only[push_cast];try omega)) only [push_cast,simprocAttr]) (by first | (simp (disch:=first|omega|(refine id ?_;simp only[push_cast];try omega)) only [push_cast,simprocAttr]; done) | (simp (disch:=first|omega|(refine id ?_;simp only[push_cast];try omega)) only [push_cast,simprocAttr]; omega))
    ·have hno : ¬ ((l.length : Int) = 0 ∨ n = 0) := by omega
     have : b = false := by rw [hb, decide_eq_false hno]; simp
     subst this
     simp (disch:=first|omega|(refine id ?_;simp only[push_cast];try omega)) only [push_cast,simprocAttr,h1,h3,h4,beq_self_eq_true]
     exact .id rfl
   ·simp (disch:=first|omega|(refine id ?_;simp only[push_cast];try omega)) only [push_cast,simprocAttr,h1,h3,beq_self_eq_true]
    exact key (by rw [hb,decide_eq_true (show (l.length : Int) = 0 ∨ n = 0 by omega)]; simp [h1]) _ (by simp (disch:=first|omega|(refine id ?_;simp only[push_cast];try omega)) only [push_cast,simprocAttr]) (by first | (simp (disch:=first|omega|(refine id ?_;simp only[push_cast];try omega)) only [push_cast,simprocAttr]; done) | (simp (disch:=first|omega|(refine id ?_;simp only[push_cast];try omega)) only [push_cast,simprocAttr]; omega))
  ·have : b = false := by rw [hb]; simp [h2]
   subst this
   simp (disch:=first|omega|(refine id ?_;simp only[push_cast];try omega)) only [push_cast,simprocAttr,h1,h2,beq_self_eq_true]
   exact .id rfl
 ·have : b = false := by rw [hb]; simp [h1]
  subst this
  have hs : (s == []) = false := by simpa using h1
  simp (disch:=first|omega|(refine id ?_;simp only[push_cast];try omega)) only [push_cast,simprocAttr,hs]
  exact .id rfl
theorem right_f (v : Int) : ∀ x : Ex, smF x = true → jC (pp G) H0 27 [exV x, .int .i64 v] (.bool (jG v x))
 | .mk k n s l, hsm => by
  simp only [smF, Bool.and_eq_true, decide_eq_true_eq] at hsm
  have hall := smL_all hsm.2
  have ih : ∀ x ∈ l, jC (pp G) H0 27 [exV x, .int .i64 v] (.bool (jG v x)) := fun x hx => right_f v x (hall x hx)
  have hlo : H0.lo ≤ H0.next := Nat.le_refl _; refine jC.cut (jV.fir4 (q := qq) (jO G) fir27 (by kernel_rfl) rfl rfl (F81_arr ..) (show NGG ≤ H0.lo by rw [qF]; decide) ?_); rw [sd_ir27]
  unfold exV exC
  rw [jG]
  have hq : ∀ (c : Int) (A : Bool), A = (decide ((l.length : Int) = c) && decide (c = 0 ∨ n = 0)) → (A && decide (s = []) && jK v l) = (decide (s = []) && decide ((l.length : Int) = c) && decide (c = 0 ∨ n = 0) && jK v l) := fun c A hA => by
   rw [hA]
   cases decide (s = []) <;> cases decide ((l.length : Int) = c) <;> cases decide (c = 0 ∨ n = 0) <;> rfl
  by_cases h1 : k = 1
  ·by_cases h2 : 0 ≤ n
   ·rw [if_pos ⟨h1, h2⟩]
    simp (disch:=first|omega|(refine id ?_;simp only[push_cast];try omega)) only [push_cast,simprocAttr,h1,h2]
    exact right_s0 G v 0 1 n s l hsm.1 ih _ (hq 0 (decide (l.length = 0)) (by rw [Bool.eq_iff_iff]; simp only [Bool.and_eq_true, decide_eq_true_eq]; constructor <;> intro hz <;> first | omega | exact ⟨by omega, by first | omega | exact .inl rfl⟩ | exact ⟨by omega, by simp⟩ | exact hz.1 | (simp at hz ⊢; omega)))
   ·rw [if_neg (by omega), if_neg (by omega), if_neg (by omega), if_neg (by omega)]
    subst h1
    simp (disch:=first|omega|(refine id ?_;simp only[push_cast];try omega)) only [push_cast,simprocAttr,h2]
    exact .id rfl
  rw [if_neg (by omega)]
  by_cases h2 : k = 2
  ·by_cases h3 : 0 ≤ n
   ·by_cases h4 : n < v
    ·rw [if_pos ⟨h2, h3, h4⟩]
     subst h2
     simp (disch:=first|omega|(refine id ?_;simp only[push_cast];try omega)) only [push_cast,simprocAttr,h3,h4]
     exact right_s0 G v 0 2 n s l hsm.1 ih _ (hq 0 (decide (l.length = 0)) (by rw [Bool.eq_iff_iff]; simp only [Bool.and_eq_true, decide_eq_true_eq]; constructor <;> intro hz <;> first | omega | exact ⟨by omega, by first | omega | exact .inl rfl⟩ | exact ⟨by omega, by simp⟩ | exact hz.1 | (simp at hz ⊢; omega)))
    ·rw [if_neg (by omega), if_neg (by omega), if_neg (by omega)]
     subst h2
     simp (disch:=first|omega|(refine id ?_;simp only[push_cast];try omega)) only [push_cast,simprocAttr,h3,h4]
     exact .id rfl
   ·rw [if_neg (by omega), if_neg (by omega), if_neg (by omega)]
    subst h2
    simp (disch:=first|omega|(refine id ?_;simp only[push_cast];try omega)) only [push_cast,simprocAttr,h3]
    exact .id rfl
  rw [if_neg (by omega)]
  by_cases h3 : k = 3
  ·rw [if_pos (.inl h3)]
   subst h3
   simp (disch:=first|omega|(refine id ?_;simp only[push_cast];try omega)) only [push_cast,simprocAttr]
   exact right_s0 G v 1 3 n s l hsm.1 ih _ (hq 1 (decide (l.length = 1 ∧ n = 0)) (by rw [Bool.eq_iff_iff]; simp only [Bool.and_eq_true, decide_eq_true_eq]; constructor <;> intro hz <;> first | omega | exact ⟨by omega, by first | omega | exact .inl rfl⟩ | exact ⟨by omega, by simp⟩ | exact hz.1 | (simp at hz ⊢; omega)))
  by_cases h4 : k = 4
  ·rw [if_pos (.inr h4)]
   subst h4
   simp (disch:=first|omega|(refine id ?_;simp only[push_cast];try omega)) only [push_cast,simprocAttr]
   exact right_s0 G v 1 4 n s l hsm.1 ih _ (hq 1 (decide (l.length = 1 ∧ n = 0)) (by rw [Bool.eq_iff_iff]; simp only [Bool.and_eq_true, decide_eq_true_eq]; constructor <;> intro hz <;> first | omega | exact ⟨by omega, by first | omega | exact .inl rfl⟩ | exact ⟨by omega, by simp⟩ | exact hz.1 | (simp at hz ⊢; omega)))
  rw [if_neg (by omega)]
  by_cases h5 : 5 ≤ k
  ·by_cases h6 : k ≤ 17
   ·rw [if_pos ⟨h5, h6⟩]
    simp (disch:=first|omega|(refine id ?_;simp only[push_cast];try omega)) only [push_cast,simprocAttr,h1,h2,h3,h4,h5,h6]
    exact right_s0 G v 2 k n s l hsm.1 ih _ (hq 2 (decide (l.length = 2 ∧ n = 0)) (by rw [Bool.eq_iff_iff]; simp only [Bool.and_eq_true, decide_eq_true_eq]; constructor <;> intro hz <;> first | omega | exact ⟨by omega, by first | omega | exact .inl rfl⟩ | exact ⟨by omega, by simp⟩ | exact hz.1 | (simp at hz ⊢; omega)))
   ·rw [if_neg (by omega)]
    simp (disch:=first|omega|(refine id ?_;simp only[push_cast];try omega)) only [push_cast,simprocAttr,h1,h2,h3,h4,h5,h6]
    exact .id rfl
  ·rw [if_neg (by omega)]
   simp (disch:=first|omega|(refine id ?_;simp only[push_cast];try omega)) only [push_cast,simprocAttr,h1,h2,h3,h4,h5]
   exact .id rfl
 termination_by x => SizeOf.sizeOf x
theorem bit_f (b : Bool) : jC (pp G) H0 45 [.bool b] (t2 (jR b, 0)) := by
 have hlo : H0.lo ≤ H0.next := Nat.le_refl _; refine jC.cut (jV.fir4 (q := qq) (jO G) fir45 (by kernel_rfl) rfl rfl (F5_arr ..) (show NGG ≤ H0.lo by rw [qF]; decide) ?_); rw [sd_ir45]
 cases b with
 | true => simp (disch:=first|omega|(refine id ?_;simp only[push_cast];try omega)) only [push_cast,simprocAttr]; exact .id rfl
 | false => simp (disch:=first|omega|(refine id ?_;simp only[push_cast];try omega)) only [push_cast,simprocAttr]; exact .id rfl
def compF (k a b : Int) : Int × Int :=
 (jR (if k = 10 then decide (a = b) else if k = 11 then !decide (a = b) else if k = 12 then decide (a < b) else if k = 13 then decide (a ≤ b) else if k = 14 then decide (b < a) else decide (b ≤ a)), 0)
theorem comp_f (k a b : Int) : jC (pp G) H0 46 [.int .i64 k, .int .i64 a, .int .i64 b] (t2 (compF k a b)) := by
 have hlo : H0.lo ≤ H0.next := Nat.le_refl _; refine jC.cut (jV.fir4 (q := qq) (jO G) fir46 (by kernel_rfl) rfl rfl (F55_arr ..) (show NGG ≤ H0.lo by rw [qF]; decide) ?_); rw [sd_ir46]
 by_cases h1 : k = 10
 ·rw [compF,if_pos h1]; simp (disch:=first|omega|(refine id ?_;simp only[push_cast];try omega)) only [push_cast,simprocAttr,h1]; refine jA.dataI (bit_f G (decide (a = b))) (by and_intros <;> first | rfl | (simp (disch:=first|omega|(refine id ?_;simp only[push_cast];try omega)) only [push_cast])) ?_; simp (disch:=first|omega|(refine id ?_;simp only[push_cast];try omega)) only [push_cast,simprocAttr]; exact .id rfl
 by_cases h2 : k = 11
 ·rw [compF,if_neg h1,if_pos h2]; simp (disch:=first|omega|(refine id ?_;simp only[push_cast];try omega)) only [push_cast,simprocAttr,h1,h2]; refine jA.dataI (bit_f G (!decide (a = b))) (by and_intros <;> first | rfl | (simp (disch:=first|omega|(refine id ?_;simp only[push_cast];try omega)) only [push_cast])) ?_; simp (disch:=first|omega|(refine id ?_;simp only[push_cast];try omega)) only [push_cast,simprocAttr]; exact .id rfl
 by_cases h3 : k = 12
 ·rw [compF,if_neg h1,if_neg h2,if_pos h3]; simp (disch:=first|omega|(refine id ?_;simp only[push_cast];try omega)) only [push_cast,simprocAttr,h1,h2,h3]; refine jA.dataI (bit_f G (decide (a < b))) (by and_intros <;> first | rfl | (simp (disch:=first|omega|(refine id ?_;simp only[push_cast];try omega)) only [push_cast])) ?_; simp (disch:=first|omega|(refine id ?_;simp only[push_cast];try omega)) only [push_cast,simprocAttr]; exact .id rfl
 by_cases h4 : k = 13
 ·rw [compF,if_neg h1,if_neg h2,if_neg h3,if_pos h4]; simp (disch:=first|omega|(refine id ?_;simp only[push_cast];try omega)) only [push_cast,simprocAttr,h1,h2,h3,h4]; refine jA.dataI (bit_f G (decide (a ≤ b))) (by and_intros <;> first | rfl | (simp (disch:=first|omega|(refine id ?_;simp only[push_cast];try omega)) only [push_cast])) ?_; simp (disch:=first|omega|(refine id ?_;simp only[push_cast];try omega)) only [push_cast,simprocAttr]; exact .id rfl
 by_cases h5 : k = 14
 ·rw [compF,if_neg h1,if_neg h2,if_neg h3,if_neg h4,if_pos h5]; simp (disch:=first|omega|(refine id ?_;simp only[push_cast];try omega)) only [push_cast,simprocAttr,h1,h2,h3,h4,h5]; refine jA.dataI (bit_f G (decide (b < a))) (by and_intros <;> first | rfl | (simp (disch:=first|omega|(refine id ?_;simp only[push_cast];try omega)) only [push_cast])) ?_; simp (disch:=first|omega|(refine id ?_;simp only[push_cast];try omega)) only [push_cast,simprocAttr]; exact .id rfl
 ·rw [compF,if_neg h1,if_neg h2,if_neg h3,if_neg h4,if_neg h5]; simp (disch:=first|omega|(refine id ?_;simp only[push_cast];try omega)) only [push_cast,simprocAttr,h1,h2,h3,h4,h5]; refine jA.dataI (bit_f G (decide (b ≤ a))) (by and_intros <;> first | rfl | (simp (disch:=first|omega|(refine id ?_;simp only[push_cast];try omega)) only [push_cast])) ?_; simp (disch:=first|omega|(refine id ?_;simp only[push_cast];try omega)) only [push_cast,simprocAttr]; exact .id rfl
def timesF (a b : Int) : Int × Int := if a = 0 ∨ b = 0 then (0, 0) else if W ((W (a * b)).tdiv b) ≠ a ∨ (a = -1 ∧ b = -9223372036854775808) ∨ (b = -1 ∧ a = -9223372036854775808) then (0, 8) else (W (a * b), 0)
theorem times_f (a b : Int) : jC (pp G) H0 61 [.int .i64 a, .int .i64 b] (t2 (timesF a b)) := by
 have hlo : H0.lo ≤ H0.next := Nat.le_refl _; refine jC.cut (jV.fir4 (q := qq) (jO G) fir61 (by kernel_rfl) rfl rfl (F38_arr ..) (show NGG ≤ H0.lo by rw [qF]; decide) ?_); rw [sd_ir61]
 by_cases h1 : a = 0
 ·rw [timesF,if_pos (.inl h1)]; simp (disch:=first|omega|(refine id ?_;simp only[push_cast];try omega)) only [push_cast,simprocAttr,h1]; exact .id rfl
 by_cases h2 : b = 0
 ·rw [timesF,if_pos (.inr h2)]; simp (disch:=first|omega|(refine id ?_;simp only[push_cast];try omega)) only [push_cast,simprocAttr,h1,h2]; exact .id rfl
 rw [timesF, if_neg (by omega)]
 by_cases h3 : W ((W (a * b)).tdiv b) = a
 ·have h3' := h3
  unfold W at h3'
  by_cases h4 : a = -1
  ·by_cases h5 : b = -9223372036854775808
   ·rw [if_pos (.inr (.inl ⟨h4, h5⟩))]
    subst h4 h5
    have h6 : IntKind.i64.wrap ((IntKind.i64.wrap 9223372036854775808).tdiv (-9223372036854775808)) = 1 := by decide
    simp (disch:=first|omega|(refine id ?_;simp only[push_cast];try omega)) only [push_cast,simprocAttr,h6]; exact .id rfl
   ·by_cases h6 : b = -1
    ·rw [if_neg (by omega)]
     subst h4 h6
     unfold W
     have h7 : IntKind.i64.wrap (Int.tdiv 1 (-1)) = -1 := by decide
     simp (disch:=first|omega|(refine id ?_;simp only[push_cast];try omega)) only [push_cast,simprocAttr,h7]
     exact .id rfl
    ·rw [if_neg (by omega)]
     subst h4
     unfold W
     simp (disch:=first|omega|(refine id ?_;simp only[push_cast];try omega)) only [push_cast,simprocAttr,h3',h5,h6,h2]; exact .id rfl
  ·by_cases h6 : b = -1
   ·by_cases h7 : a = -9223372036854775808
    ·rw [if_pos (.inr (.inr ⟨h6, h7⟩))]
     subst h6 h7
     have h6 : IntKind.i64.wrap ((IntKind.i64.wrap 9223372036854775808).tdiv (-1)) = -9223372036854775808 := by decide
     simp (disch:=first|omega|(refine id ?_;simp only[push_cast];try omega)) only [push_cast,simprocAttr,h6]; exact .id rfl
    ·rw [if_neg (by omega)]
     subst h6
     unfold W
     simp (disch:=first|omega|(refine id ?_;simp only[push_cast];try omega)) only [push_cast,simprocAttr,h3',h4,h7,h1]; exact .id rfl
   ·rw [if_neg (by omega)]
    unfold W
    simp (disch:=first|omega|(refine id ?_;simp only[push_cast];try omega)) only [push_cast,simprocAttr,h3',h4,h6,h1,h2]; exact .id rfl
 ·rw [if_pos (.inl h3)]
  unfold W at h3
  simp (disch:=first|omega|(refine id ?_;simp only[push_cast];try omega)) only [push_cast,simprocAttr,h3,h1,h2]; exact .id rfl
def qY (k a b : Int) : Int × Int :=
 if k = 8 then (if (decide (0 ≤ a) == decide (0 ≤ b)) && !(decide (0 ≤ W (a + b)) == decide (0 ≤ a)) then (0, 8) else (W (a + b), 0))
 else if k = 9 then (if !(decide (0 ≤ a) == decide (0 ≤ b)) && !(decide (0 ≤ W (a - b)) == decide (0 ≤ a)) then (0, 8) else (W (a - b), 0))
 else if k = 5 then timesF a b
 else if b = 0 then (0, 9) else if b = -1 ∧ k = 7 then (0, 0) else if b = -1 ∧ a = -9223372036854775808 then (0, 8) else if k = 7 then (a.tmod b, 0) else (W (a.tdiv b), 0)
theorem reck_f (k a b : Int) : jC (pp G) H0 47 [.int .i64 k, .int .i64 a, .int .i64 b] (t2 (qY k a b)) := by
 have hlo : H0.lo ≤ H0.next := Nat.le_refl _; refine jC.cut (jV.fir4 (q := qq) (jO G) fir47 (by kernel_rfl) rfl rfl (F80_arr ..) (show NGG ≤ H0.lo by rw [qF]; decide) ?_); rw [sd_ir47]
 by_cases h1 : k = 8
 ·rw [qY, if_pos h1]
  cases h2 : decide (0 ≤ a) == decide (0 ≤ b) with
  | true =>
   cases h3 : decide (0 ≤ W (a + b)) == decide (0 ≤ a) with
   | true => rw [if_neg (by simp)]; unfold W at h3; simp (disch:=first|omega|(refine id ?_;simp only[push_cast];try omega)) only [push_cast,simprocAttr,h1,h2,h3]; exact .id rfl
   | false => rw [if_pos (by simp)]; unfold W at h3; simp (disch:=first|omega|(refine id ?_;simp only[push_cast];try omega)) only [push_cast,simprocAttr,h1,h2,h3]; exact .id rfl
  | false => rw [if_neg (by simp)]; simp (disch:=first|omega|(refine id ?_;simp only[push_cast];try omega)) only [push_cast,simprocAttr,h1,h2]; exact .id rfl
 by_cases h0 : k = 9
 ·rw [qY, if_neg h1, if_pos h0]
  cases h2 : decide (0 ≤ a) == decide (0 ≤ b) with
  | false =>
   cases h3 : decide (0 ≤ W (a - b)) == decide (0 ≤ a) with
   | true => rw [if_neg (by simp)]; unfold W at h3; simp (disch:=first|omega|(refine id ?_;simp only[push_cast];try omega)) only [push_cast,simprocAttr,h0,h2,h3]; exact .id rfl
   | false => rw [if_pos (by simp)]; unfold W at h3; simp (disch:=first|omega|(refine id ?_;simp only[push_cast];try omega)) only [push_cast,simprocAttr,h0,h2,h3]; exact .id rfl
  | true => rw [if_neg (by simp)]; simp (disch:=first|omega|(refine id ?_;simp only[push_cast];try omega)) only [push_cast,simprocAttr,h0,h2]; exact .id rfl
 by_cases h2 : k = 5
 ·rw [qY,if_neg h1,if_neg h0,if_pos h2]; simp (disch:=first|omega|(refine id ?_;simp only[push_cast];try omega)) only [push_cast,simprocAttr,h2]; refine jA.dataI (times_f G a b) (by and_intros <;> first | rfl | (simp (disch:=first|omega|(refine id ?_;simp only[push_cast];try omega)) only [push_cast])) ?_; simp (disch:=first|omega|(refine id ?_;simp only[push_cast];try omega)) only [push_cast,simprocAttr]; exact .id rfl
 rw [qY, if_neg h1, if_neg h0, if_neg h2]
 by_cases h3 : b = 0
 ·rw [if_pos h3]; simp (disch:=first|omega|(refine id ?_;simp only[push_cast];try omega)) only [push_cast,simprocAttr,h1,h0,h2,h3]; exact .id rfl
 rw [if_neg h3]
 by_cases h4 : b = -1
 ·by_cases h5 : k = 7
  ·rw [if_pos ⟨h4,h5⟩]; simp (disch:=first|omega|(refine id ?_;simp only[push_cast];try omega)) only [push_cast,simprocAttr,h5,h4]; exact .id rfl
  ·rw [if_neg (fun h => h5 h.2)]
   by_cases h6 : a = -9223372036854775808
   ·rw [if_pos ⟨h4,h6⟩]; simp (disch:=first|omega|(refine id ?_;simp only[push_cast];try omega)) only [push_cast,simprocAttr,h1,h0,h2,h4,h5,h6]; exact .id rfl
   ·rw [if_neg (fun h => h6 h.2),if_neg h5]; simp (disch:=first|omega|(refine id ?_;simp only[push_cast];try omega)) only [push_cast,simprocAttr,h1,h0,h2,h4,h5,h6]; exact .id rfl
 ·rw [if_neg (fun h => h4 h.1), if_neg (fun h => h4 h.1)]
  by_cases h5 : k = 7
  ·rw [if_pos h5]; simp (disch:=first|omega|(refine id ?_;simp only[push_cast];try omega)) only [push_cast,simprocAttr,h3,h4,h5]; exact .id rfl
  ·rw [if_neg h5]; simp (disch:=first|omega|(refine id ?_;simp only[push_cast];try omega)) only [push_cast,simprocAttr,h1,h0,h2,h3,h4,h5]; exact .id rfl
mutual
def jT (vars : List Int) : Ex → Int × Int
 | .mk k n s l => if k = 1 then (n, 0) else if k = 2 then (vars.getD n.toNat 0, 0) else
  match refL vars l with
  | [] => (0, 0)
  | a :: r => if a.2 = 0 then (if k = 3 then (jR (decide (a.1 = 0)), 0) else if k = 4 ∧ a.1 = -9223372036854775808 then (0, 8) else if k = 4 then (W (0 - a.1), 0)
    else if k = 16 ∧ a.1 = 0 then (0, 0) else if k = 17 ∧ a.1 ≠ 0 then (1, 0) else
    match r with
    | [] => (0, 0)
    | b :: _ => if b.2 = 0 then (if k = 16 ∨ k = 17 then (jR (!decide (b.1 = 0)), 0) else if 10 ≤ k then compF k a.1 b.1 else qY k a.1 b.1) else (0, b.2)) else (0, a.2)
def refL (vars : List Int) : List Ex → List (Int × Int)
 | [] => []
 | x :: l => jT vars x :: refL vars l
end
theorem refF_1 {vars : List Int} {k n : Int} {s : List UInt8} {a : Ex} (h1 : ¬ k = 1) (h2 : ¬ k = 2) : jT vars (.mk k n s [a]) = if (jT vars a).2 = 0 then (if k = 3 then (jR (decide ((jT vars a).1 = 0)), 0) else if k = 4 ∧ (jT vars a).1 = -9223372036854775808 then (0, 8) else if k = 4 then (W (0 - (jT vars a).1), 0)
    else if k = 16 ∧ (jT vars a).1 = 0 then (0, 0) else if k = 17 ∧ (jT vars a).1 ≠ 0 then (1, 0) else (0, 0)) else (0, (jT vars a).2) := by
 rw [jT, if_neg h1, if_neg h2]
 simp only [refL]
theorem refF_2 {vars : List Int} {k n : Int} {s : List UInt8} {a b : Ex} (h1 : ¬ k = 1) (h2 : ¬ k = 2) : jT vars (.mk k n s [a, b]) = if (jT vars a).2 = 0 then (if k = 3 then (jR (decide ((jT vars a).1 = 0)), 0) else if k = 4 ∧ (jT vars a).1 = -9223372036854775808 then (0, 8) else if k = 4 then (W (0 - (jT vars a).1), 0)
    else if k = 16 ∧ (jT vars a).1 = 0 then (0, 0) else if k = 17 ∧ (jT vars a).1 ≠ 0 then (1, 0) else
    if (jT vars b).2 = 0 then (if k = 16 ∨ k = 17 then (jR (!decide ((jT vars b).1 = 0)), 0) else if 10 ≤ k then compF k (jT vars a).1 (jT vars b).1 else qY k (jT vars a).1 (jT vars b).1) else (0, (jT vars b).2)) else (0, (jT vars a).2) := by
 rw [jT, if_neg h1, if_neg h2]
 simp only [refL]
inductive Rt (v : Int) : Ex → Prop
 | num {n : Int} (h : 0 ≤ n) : Rt v (.mk 1 n [] [])
 | var {n : Int} (h : 0 ≤ n) (h2 : n < v) : Rt v (.mk 2 n [] [])
 | one {k : Int} {a : Ex} (h : k = 3 ∨ k = 4) (ha : jG v a = true) : Rt v (.mk k 0 [] [a])
 | two {k : Int} {a b : Ex} (h : 5 ≤ k ∧ k ≤ 17) (ha : jG v a = true) (hb : jG v b = true) : Rt v (.mk k 0 [] [a, b])
theorem Rt.of {v : Int} : ∀ {x : Ex}, jG v x = true → Rt v x
 | .mk k n s l, hr => by
  simp only [jG, Bool.and_eq_true, decide_eq_true_eq] at hr
  obtain ⟨⟨hr1, rfl⟩, hr3⟩ := hr
  by_cases h1 : k = 1 ∧ 0 ≤ n
  ·rw [if_pos h1, decide_eq_true_eq] at hr1
   obtain rfl := List.length_eq_zero_iff.1 hr1
   obtain ⟨rfl, h⟩ := h1
   exact .num h
  rw [if_neg h1] at hr1
  by_cases h2 : k = 2 ∧ 0 ≤ n ∧ n < v
  ·rw [if_pos h2, decide_eq_true_eq] at hr1
   obtain rfl := List.length_eq_zero_iff.1 hr1
   obtain ⟨rfl, h, h'⟩ := h2
   exact .var h h'
  rw [if_neg h2] at hr1
  by_cases h3 : k = 3 ∨ k = 4
  ·rw [if_pos h3, decide_eq_true_eq] at hr1
   obtain ⟨h4, rfl⟩ := hr1
   obtain ⟨a, rfl⟩ := List.length_eq_one_iff.1 h4
   simp only [jK, Bool.and_true] at hr3
   exact .one h3 hr3
  rw [if_neg h3] at hr1
  by_cases h4 : 5 ≤ k ∧ k ≤ 17
  ·rw [if_pos h4, decide_eq_true_eq] at hr1
   obtain ⟨h5, rfl⟩ := hr1
   match l, h5, hr3 with
   | [a, b], _, hr3 =>
    simp only [jK, Bool.and_true, Bool.and_eq_true] at hr3
    exact .two h4 hr3.1 hr3.2
  ·rw [if_neg h4] at hr1; cases hr1
theorem ref_f (vars : List Int) : ∀ x : Ex, jG vars.length x = true → jC (pp G) H0 26 [exV x, ivV vars] (t2 (jT vars x))
 | .mk k n s l, hr => by
  have ih : ∀ x ∈ l, jG vars.length x = true → jC (pp G) H0 26 [exV x, ivV vars] (t2 (jT vars x)) := fun x hx h => ref_f vars x h
  cases Rt.of hr with
  | num h =>
   have hlo : H0.lo ≤ H0.next := Nat.le_refl _; refine jC.cut (jV.fir4 (q := qq) (jO G) fir26 (by kernel_rfl) rfl rfl (F120_arr ..) (show NGG ≤ H0.lo by rw [qF]; decide) ?_); rw [sd_ir26]
   unfold exV exC
   rw [jT, if_pos rfl]
   simp (disch:=first|omega|(refine id ?_;simp only[push_cast];try omega)) only [push_cast,simprocAttr]
   exact .id rfl
  | var h h2 =>
   have hlo : H0.lo ≤ H0.next := Nat.le_refl _; refine jC.cut (jV.fir4 (q := qq) (jO G) fir26 (by kernel_rfl) rfl rfl (F120_arr ..) (show NGG ≤ H0.lo by rw [qF]; decide) ?_); rw [sd_ir26]
   unfold exV exC
   rw [jT, if_neg (by omega), if_pos rfl]
   have hp := ivs_part (l := vars) (i := n.toNat) (by omega)
   rw [Nat.mul_one] at hp
   unfold ivV
   simp (disch:=first|omega|(refine id ?_;simp only[push_cast];try omega)) only [push_cast,simprocAttr,hp]
   exact .id rfl
  | @one _ a h ha =>
   have ia := ih a (by simp) ha
   have hlo : H0.lo ≤ H0.next := Nat.le_refl _; refine jC.cut (jV.fir4 (q := qq) (jO G) fir26 (by kernel_rfl) rfl rfl (F120_arr ..) (show NGG ≤ H0.lo by rw [qF]; decide) ?_); rw [sd_ir26]
   unfold exV exC
   have h1 : ¬ k = 1 := by omega
   have h2 : ¬ k = 2 := by omega
   rw [refF_1 h1 h2]
   simp (disch:=first|omega|(refine id ?_;simp only[push_cast];try omega)) only [push_cast,simprocAttr,h1,h2]
   refine jA.dataI (ia) (by and_intros <;> first | rfl | (simp (disch:=first|omega|(refine id ?_;simp only[push_cast];try omega)) only [push_cast])) ?_
   by_cases h4 : (jT vars a).2 = 0
   ·rw [if_pos h4]
    by_cases h5 : k = 3
    ·rw [if_pos h5]
     simp (disch:=first|omega|(refine id ?_;simp only[push_cast];try omega)) only [push_cast,simprocAttr,h4,h5]
     refine jA.dataI (bit_f G (decide ((jT vars a).1 = 0))) (by and_intros <;> first | rfl | (simp (disch:=first|omega|(refine id ?_;simp only[push_cast];try omega)) only [push_cast])) ?_
     simp (disch:=first|omega|(refine id ?_;simp only[push_cast];try omega)) only [push_cast,simprocAttr]
     exact .id rfl
    ·have h6 : k = 4 := by omega
     subst h6
     rw [if_neg h5]
     by_cases h7 : (jT vars a).1 = -9223372036854775808
     ·rw [if_pos ⟨rfl, h7⟩]
      simp (disch:=first|omega|(refine id ?_;simp only[push_cast];try omega)) only [push_cast,simprocAttr,h4,h7]
      exact .id rfl
     ·rw [if_neg (fun h => h7 h.2), if_pos rfl]
      unfold W
      simp (disch:=first|omega|(refine id ?_;simp only[push_cast];try omega)) only [push_cast,simprocAttr,h4,h7]
      exact .id rfl
   ·rw [if_neg h4]
    simp (disch:=first|omega|(refine id ?_;simp only[push_cast];try omega)) only [push_cast,simprocAttr,h4]
    exact .id rfl
  | @two _ a b h ha hb =>
   have ia := ih a (by simp) ha
   have ib := ih b (by simp) hb
   have hlo : H0.lo ≤ H0.next := Nat.le_refl _; refine jC.cut (jV.fir4 (q := qq) (jO G) fir26 (by kernel_rfl) rfl rfl (F120_arr ..) (show NGG ≤ H0.lo by rw [qF]; decide) ?_); rw [sd_ir26]
   unfold exV exC
   have h1 : ¬ k = 1 := by omega
   have h2 : ¬ k = 2 := by omega
   have h3 : ¬ k = 3 := by omega
   have h3' : ¬ k = 4 := by omega
   rw [refF_2 h1 h2]
   simp (disch:=first|omega|(refine id ?_;simp only[push_cast];try omega)) only [push_cast,simprocAttr,h1,h2]
   refine jA.dataI (ia) (by and_intros <;> first | rfl | (simp (disch:=first|omega|(refine id ?_;simp only[push_cast];try omega)) only [push_cast])) ?_
   by_cases h4 : (jT vars a).2 = 0
   ·rw [if_pos h4, if_neg h3, if_neg (fun h => h3' h.1), if_neg h3']
    by_cases h5 : k = 16
    ·subst h5
     by_cases h6 : (jT vars a).1 = 0
     ·rw [if_pos ⟨rfl, h6⟩]
      simp (disch:=first|omega|(refine id ?_;simp only[push_cast];try omega)) only [push_cast,simprocAttr,h4,h6]
      exact .id rfl
     ·rw [if_neg (fun h => h6 h.2), if_neg (by omega)]
      simp (disch:=first|omega|(refine id ?_;simp only[push_cast];try omega)) only [push_cast,simprocAttr,h4,h6]
      refine jA.dataI (ib) (by and_intros <;> first | rfl | (simp (disch:=first|omega|(refine id ?_;simp only[push_cast];try omega)) only [push_cast])) ?_
      by_cases h7 : (jT vars b).2 = 0
      ·rw [if_pos h7,if_pos (.inl rfl)]; simp (disch:=first|omega|(refine id ?_;simp only[push_cast];try omega)) only [push_cast,simprocAttr,h7]; refine jA.dataI (bit_f G (!decide ((jT vars b).1 = 0))) (by and_intros <;> first | rfl | (simp (disch:=first|omega|(refine id ?_;simp only[push_cast];try omega)) only [push_cast])) ?_; simp (disch:=first|omega|(refine id ?_;simp only[push_cast];try omega)) only [push_cast,simprocAttr]; exact .id rfl
      ·rw [if_neg h7]; simp (disch:=first|omega|(refine id ?_;simp only[push_cast];try omega)) only [push_cast,simprocAttr,h7]; exact .id rfl
    rw [if_neg (fun h => h5 h.1)]
    by_cases h6 : k = 17
    ·subst h6
     by_cases h7 : (jT vars a).1 = 0
     ·rw [if_neg (fun h => h.2 h7)]
      simp (disch:=first|omega|(refine id ?_;simp only[push_cast];try omega)) only [push_cast,simprocAttr,h4,h7]
      refine jA.dataI (ib) (by and_intros <;> first | rfl | (simp (disch:=first|omega|(refine id ?_;simp only[push_cast];try omega)) only [push_cast])) ?_
      by_cases h8 : (jT vars b).2 = 0
      ·rw [if_pos h8,if_pos (.inr rfl)]; simp (disch:=first|omega|(refine id ?_;simp only[push_cast];try omega)) only [push_cast,simprocAttr,h8]; refine jA.dataI (bit_f G (!decide ((jT vars b).1 = 0))) (by and_intros <;> first | rfl | (simp (disch:=first|omega|(refine id ?_;simp only[push_cast];try omega)) only [push_cast])) ?_; simp (disch:=first|omega|(refine id ?_;simp only[push_cast];try omega)) only [push_cast,simprocAttr]; exact .id rfl
      ·rw [if_neg h8]; simp (disch:=first|omega|(refine id ?_;simp only[push_cast];try omega)) only [push_cast,simprocAttr,h8]; exact .id rfl
     ·rw [if_pos ⟨rfl, h7⟩]
      simp (disch:=first|omega|(refine id ?_;simp only[push_cast];try omega)) only [push_cast,simprocAttr,h4,h7]
      exact .id rfl
    rw [if_neg (fun h => h6 h.1)]
    simp (disch:=first|omega|(refine id ?_;simp only[push_cast];try omega)) only [push_cast,simprocAttr,h4,h3,h3',h5,h6]
    refine jA.dataI (ib) (by and_intros <;> first | rfl | (simp (disch:=first|omega|(refine id ?_;simp only[push_cast];try omega)) only [push_cast])) ?_
    by_cases h7 : (jT vars b).2 = 0
    ·rw [if_pos h7, if_neg (fun h => h.elim h5 h6)]
     by_cases h8 : 10 ≤ k
     ·rw [if_pos h8]; simp (disch:=first|omega|(refine id ?_;simp only[push_cast];try omega)) only [push_cast,simprocAttr,h7,h5,h6,h8]; refine jA.dataI (comp_f G k (jT vars a).1 (jT vars b).1) (by and_intros <;> first | rfl | (simp (disch:=first|omega|(refine id ?_;simp only[push_cast];try omega)) only [push_cast])) ?_; simp (disch:=first|omega|(refine id ?_;simp only[push_cast];try omega)) only [push_cast,simprocAttr]; exact .id rfl
     ·rw [if_neg h8]; simp (disch:=first|omega|(refine id ?_;simp only[push_cast];try omega)) only [push_cast,simprocAttr,h7,h5,h6,h8]; refine jA.dataI (reck_f G k (jT vars a).1 (jT vars b).1) (by and_intros <;> first | rfl | (simp (disch:=first|omega|(refine id ?_;simp only[push_cast];try omega)) only [push_cast])) ?_; simp (disch:=first|omega|(refine id ?_;simp only[push_cast];try omega)) only [push_cast,simprocAttr]; exact .id rfl
    ·rw [if_neg h7]; simp (disch:=first|omega|(refine id ?_;simp only[push_cast];try omega)) only [push_cast,simprocAttr,h7]; exact .id rfl
   ·rw [if_neg h4]
    simp (disch:=first|omega|(refine id ?_;simp only[push_cast];try omega)) only [push_cast,simprocAttr,h4]
    exact .id rfl
 termination_by x => SizeOf.sizeOf x
end
end Go.Proofs.YtlbpiiehanibfaaDoor
namespace Go.Proofs.YtlbpiiehanibfaaDoor
open Go Go.RowKit Go.Ev Go.Dv
noncomputable section
def In (a : Int) : Prop := -9223372036854775808 ≤ a ∧ a ≤ 9223372036854775807
theorem W_in {a : Int} (h : In a) : W a = a := by
 unfold In at h
 unfold W; rw [IntKind.wrap_i64]; omega
theorem W_eq (a : Int) : ∃ q : Int, W a = a - q * 18446744073709551616 ∧ In (W a) := by
 refine ⟨(a + 9223372036854775808) / 18446744073709551616, ?_, ?_⟩
 ·unfold W; rw [IntKind.wrap_i64]; omega
 ·unfold W In; rw [IntKind.wrap_i64]; omega
theorem In_W (a : Int) : In (W a) := (W_eq a).elim fun _ h => h.2
theorem truth_in (b : Bool) : In (jR b) := by cases b <;> simp [jR, In]
theorem tdiv_bound (w a : Int) (ha : a ≠ 0) : (w - w.tdiv a * a).natAbs < a.natAbs := by
 have h : w - w.tdiv a * a = w.tmod a := by
  have := Int.mul_tdiv_add_tmod w a
  rw [Int.mul_comm] at this
  omega
 rw [h, Int.natAbs_tmod]
 exact Nat.mod_lt _ (by omega)
theorem tdiv_in {w a : Int} (hw : In w) (h : ¬ (w = -9223372036854775808 ∧ a = -1)) : In (w.tdiv a) := by
 unfold In at *
 have h1 : (w.tdiv a).natAbs = w.natAbs / a.natAbs := Int.natAbs_tdiv w a
 by_cases ha : a.natAbs ≤ 1
 ·have : a = 0 ∨ a = 1 ∨ a = -1 := by omega
  rcases this with rfl | rfl | rfl
  ·simp
  ·simp; exact hw
  ·rw [show (-1 : Int) = -(1 : Int) from rfl, Int.tdiv_neg, Int.tdiv_one]; omega
 ·have h2 : w.natAbs / a.natAbs ≤ w.natAbs / 2 := Nat.div_le_div_left (by omega) (by omega)
  omega
theorem tmod_in {w a : Int} (hw : In w) : In (w.tmod a) := by
 unfold In at *
 have h1 : (w.tmod a).natAbs = w.natAbs % a.natAbs := Int.natAbs_tmod w a
 have h2 : w.natAbs % a.natAbs ≤ w.natAbs := Nat.mod_le _ _
 by_cases h : 0 ≤ w
 ·have := Int.tmod_nonneg a h
  omega
 ·have h3 := Int.tmod_nonneg (a := -w) a (by omega)
  rw [Int.neg_tmod] at h3
  omega
theorem mul_over {a b : Int} (ha : In a) (hb : In b) (h0 : a ≠ 0) (hx : ¬ (a = -1 ∧ b = -9223372036854775808)) (h : ¬ In (a * b)) : W ((W (a * b)).tdiv a) ≠ b := by
 intro he
 obtain ⟨q, h1, h2⟩ := W_eq (a * b)
 have hq : q ≠ 0 := by
  rintro rfl
  rw [Int.zero_mul, Int.sub_zero] at h1
  rw [h1] at h2
  exact h h2
 have h3 := tdiv_bound (W (a * b)) a h0
 by_cases hm : W (a * b) = -9223372036854775808 ∧ a = -1
 ·have : b = -9223372036854775808 := by
   rw [← he, hm.1, hm.2]
   decide
  exact hx ⟨hm.2, this⟩
 ·rw [W_in (tdiv_in h2 hm)] at he
  rw [he] at h3
  have h4 : b * a = a * b := Int.mul_comm b a
  rw [h4, h1] at h3
  unfold In at ha
  generalize a * b = ab at *
  omega
theorem mul_fits {a b : Int} (hb : In b) (h0 : a ≠ 0) (h : In (a * b)) : W ((W (a * b)).tdiv a) = b := by
 rw [W_in h, Int.mul_tdiv_cancel_left b h0, W_in hb]
def prodF (a b : Int) : Int × Int := open Classical in if In (a * b) then (a * b, 0) else (0, 8)
theorem mulF_eq {a b : Int} (ha : In a) (hb : In b) : mulF a b = prodF a b := by
 unfold mulF prodF
 by_cases h0 : a = 0
 ·subst h0
  rw [if_neg (fun h => h.1 rfl), Int.zero_mul, if_pos (by unfold In; omega), W_in (by unfold In; omega)]
 by_cases h : In (a * b)
 ·rw [if_pos h, if_neg, W_in h]
  rintro ⟨-, h1 | ⟨rfl, rfl⟩⟩
  ·exact h1 (mul_fits hb h0 h)
  ·unfold In at h; omega
 ·rw [if_neg h, if_pos]
  refine ⟨h0, ?_⟩
  by_cases hx : a = -1 ∧ b = -9223372036854775808
  ·exact .inr hx
  ·exact .inl (mul_over ha hb h0 hx h)
theorem timesF_eq {a b : Int} (ha : In a) (hb : In b) : timesF a b = prodF a b := by
 unfold timesF prodF
 by_cases h0 : a = 0
 ·subst h0
  rw [if_pos (.inl rfl), Int.zero_mul, if_pos (by unfold In; omega)]
 by_cases h1 : b = 0
 ·subst h1
  rw [if_pos (.inr rfl), Int.mul_zero, if_pos (by unfold In; omega)]
 rw [if_neg (fun h => h.elim h0 h1)]
 have hc : a * b = b * a := Int.mul_comm a b
 by_cases h : In (a * b)
 ·rw [if_pos h, if_neg, W_in h]
  rintro (h2 | ⟨rfl, rfl⟩ | ⟨rfl, rfl⟩)
  ·rw [hc] at h2 h
   exact h2 (mul_fits ha h1 h)
  ·unfold In at h; omega
  ·unfold In at h; omega
 ·rw [if_neg h, if_pos]
  by_cases hx : b = -1 ∧ a = -9223372036854775808
  ·exact .inr (.inr hx)
  ·rw [hc] at h ⊢
   exact .inl (mul_over hb ha h1 hx h)
theorem reck8 (a b : Int) : qY 8 a b = if (decide (0 ≤ a) == decide (0 ≤ b)) && !(decide (0 ≤ W (a + b)) == decide (0 ≤ a)) then (0, 8) else (W (a + b), 0) := rfl
theorem reck9 (a b : Int) : qY 9 a b = if !(decide (0 ≤ a) == decide (0 ≤ b)) && !(decide (0 ≤ W (a - b)) == decide (0 ≤ a)) then (0, 8) else (W (a - b), 0) := rfl
theorem reck6 (a b : Int) : qY 6 a b = if b = 0 then (0, 9) else if b = -1 ∧ (6 : Int) = 7 then (0, 0) else if b = -1 ∧ a = -9223372036854775808 then (0, 8) else (W (a.tdiv b), 0) := rfl
theorem reck7 (a b : Int) : qY 7 a b = if b = 0 then (0, 9) else if b = -1 ∧ (7 : Int) = 7 then (0, 0) else if b = -1 ∧ a = -9223372036854775808 then (0, 8) else (a.tmod b, 0) := rfl
theorem addF_eq {a b : Int} (ha : In a) (hb : In b) : addF a b = qY 8 a b := by
 rw [reck8]
 unfold addF W
 rw [IntKind.wrap_i64]
 unfold In at *
 simp only [beq_iff_eq, decide_eq_decide, Bool.and_eq_true, Bool.not_eq_true', beq_eq_false_iff_ne, ne_eq]
 split <;> split <;> first | rfl | (exfalso; omega)
theorem subF_eq {a b : Int} (ha : In a) (hb : In b) : subF a b = qY 9 a b := by
 rw [reck9]
 unfold subF W
 rw [IntKind.wrap_i64]
 unfold In at *
 simp only [beq_iff_eq, decide_eq_decide, Bool.and_eq_true, Bool.not_eq_true', beq_eq_false_iff_ne, ne_eq]
 split <;> split <;> first | rfl | (exfalso; omega)
theorem divF_eq (a b : Int) : divF a b = qY 6 a b := by
 rw [reck6]
 unfold divF
 by_cases h1 : b = 0
 ·rw [if_pos h1, if_pos h1]
 rw [if_neg h1, if_neg h1, if_neg (show ¬ (b = -1 ∧ (6 : Int) = 7) by omega)]
 by_cases h2 : a = -9223372036854775808 ∧ b = -1
 ·rw [if_pos h2, if_pos ⟨h2.2, h2.1⟩]
 ·rw [if_neg h2, if_neg (show ¬ (b = -1 ∧ a = -9223372036854775808) from fun h => h2 ⟨h.2, h.1⟩)]
theorem remF_eq (a b : Int) : remF a b = qY 7 a b := by
 rw [reck7]
 unfold remF
 by_cases h1 : b = 0
 ·rw [if_pos h1, if_pos h1]
 rw [if_neg h1, if_neg h1]
 by_cases h2 : b = -1
 ·rw [if_pos h2, if_pos ⟨h2, rfl⟩]
 ·rw [if_neg h2, if_neg (by omega), if_neg (by omega)]
theorem twoF_eq {k a b : Int} (hk : 5 ≤ k ∧ k ≤ 15) (ha : In a) (hb : In b) : twoF k a b = if 10 ≤ k then compF k a b else qY k a b := by
 have : k = 5 ∨ k = 6 ∨ k = 7 ∨ k = 8 ∨ k = 9 ∨ k = 10 ∨ k = 11 ∨ k = 12 ∨ k = 13 ∨ k = 14 ∨ k = 15 := by omega
 rcases this with rfl | rfl | rfl | rfl | rfl | rfl | rfl | rfl | rfl | rfl | rfl
 ·rw [twoF, if_pos rfl, if_neg (by decide), mulF_eq ha hb, qY, if_neg (by decide), if_neg (by decide), if_pos rfl, timesF_eq ha hb]
 ·rw [twoF, if_neg (by decide), if_pos rfl, if_neg (by decide), divF_eq]
 ·rw [twoF, if_neg (by decide), if_neg (by decide), if_pos rfl, if_neg (by decide), remF_eq]
 ·rw [twoF, if_neg (by decide), if_neg (by decide), if_neg (by decide), if_pos rfl, if_neg (by decide), addF_eq ha hb]
 ·rw [twoF, if_neg (by decide), if_neg (by decide), if_neg (by decide), if_neg (by decide), if_pos rfl, if_neg (by decide), subF_eq ha hb]
 all_goals simp [twoF, compF]
theorem reckF_in {k a b : Int} (hk : k = 5 ∨ k = 6 ∨ k = 7 ∨ k = 8 ∨ k = 9) (ha : In a) (hb : In b) : In (qY k a b).1 := by
 have h0 : In 0 := by unfold In; omega
 unfold qY
 repeat' split
 all_goals first | exact h0 | exact In_W _ | exact tmod_in ha | skip
 rw [timesF_eq ha hb]
 unfold prodF
 split
 ·assumption
 ·exact h0
theorem twoF_in {k a b : Int} (hk : 5 ≤ k ∧ k ≤ 17) (ha : In a) (hb : In b) : In (twoF k a b).1 := by
 by_cases h : k ≤ 15
 ·rw [twoF_eq ⟨hk.1, h⟩ ha hb]
  split
  ·exact truth_in _
  ·exact reckF_in (by omega) ha hb
 ·have : k = 16 ∨ k = 17 := by omega
  rcases this with rfl | rfl <;> simp only [twoF, reduceIte, Int.reduceEq] <;> exact truth_in _
theorem oneF_in {k a : Int} : In (oneF k a).1 := by
 unfold oneF
 split
 ·exact truth_in _
 ·unfold subF
  split
  ·exact In_W _
  ·unfold In; omega
theorem oneF_eq {k a : Int} (hk : k = 3 ∨ k = 4) (ha : In a) : oneF k a = if k = 3 then (jR (decide (a = 0)), 0) else if a = -9223372036854775808 then (0, 8) else (W (0 - a), 0) := by
 unfold oneF
 by_cases h : k = 3
 ·rw [if_pos h, if_pos h]
 rw [if_neg h, if_neg h]
 unfold subF
 by_cases h1 : a = -9223372036854775808
 ·subst h1; decide
 ·rw [if_neg h1, W_in (by unfold In at *; omega), if_pos]
  by_cases h2 : 0 < a
  ·simp only [h2, show 0 - a < 0 by omega, decide_true, beq_self_eq_true]
  ·simp only [h2, show ¬ 0 - a < 0 by omega, decide_false, beq_self_eq_true]
mutual
def inF : Ex → Prop
 | .mk _ n _ l => In n ∧ inL l
def inL : List Ex → Prop
 | [] => True
 | x :: l => inF x ∧ inL l
end
theorem eval_is {vars : List Int} (hv : ∀ a ∈ vars, In a) : ∀ x : Ex, jG vars.length x = true → inF x → jD vars x = jT vars x ∧ In (jD vars x).1
 | .mk k n s l, hr, hn => by
  have ih : ∀ x ∈ l, jG vars.length x = true → inF x → jD vars x = jT vars x ∧ In (jD vars x).1 := fun x hx h h' => eval_is hv x h h'
  have h0 : In 0 := by unfold In; omega
  cases Rt.of hr with
  | num h => rw [jT, if_pos rfl, jD, if_pos rfl]; exact ⟨rfl, hn.1⟩
  | var h h2 =>
   rw [jT, if_neg (by omega), if_pos rfl, jD, if_neg (by omega), if_pos rfl]
   refine ⟨rfl, hv _ ?_⟩
   rw [List.getD_eq_getElem?_getD, List.getElem?_eq_getElem (by omega)]
   exact List.getElem_mem _
  | @one _ a h ha =>
   have ⟨ia, ja⟩ := ih a (by simp) ha hn.2.1
   have h1 : ¬ k = 1 := by omega
   have h2 : ¬ k = 2 := by omega
   have h3 : ¬ k = 16 := by omega
   have h4 : ¬ k = 17 := by omega
   rw [refF_1 h1 h2, jD, if_neg h1, if_neg h2]
   simp only [evalL]
   rw [← ia]
   by_cases h5 : (jD vars a).2 = 0
   ·rw [if_neg (fun h => h h5), if_pos h5, if_pos (show [a].length = 1 from rfl), oneF_eq h ja]
    refine ⟨?_, ?_⟩
    ·by_cases h6 : k = 3
     ·rw [if_pos h6, if_pos h6]
     ·have h7 : k = 4 := by omega
      subst h7
      rw [if_neg h6, if_neg h6]
      by_cases h7 : (jD vars a).1 = -9223372036854775808
      ·rw [if_pos h7, if_pos ⟨rfl, h7⟩]
      ·rw [if_neg h7, if_neg (fun h => h7 h.2), if_pos rfl]
    ·rw [← oneF_eq h ja]
     exact oneF_in
   ·rw [if_pos h5, if_neg h5]
    exact ⟨rfl, h0⟩
  | @two _ a b h ha hb =>
   have ⟨ia, ja⟩ := ih a (by simp) ha hn.2.1
   have ⟨ib, jb⟩ := ih b (by simp) hb hn.2.2.1
   have h1 : ¬ k = 1 := by omega
   have h2 : ¬ k = 2 := by omega
   have h3 : ¬ k = 3 := by omega
   have h4 : ¬ k = 4 := by omega
   rw [refF_2 h1 h2, jD, if_neg h1, if_neg h2]
   simp only [evalL]
   rw [← ia, ← ib]
   by_cases h5 : (jD vars a).2 = 0
   ·rw [if_neg (fun h => h h5), if_pos h5, if_neg (show ¬ [a, b].length = 1 by simp), if_neg h3, if_neg (show ¬ (k = 4 ∧ _) from fun h => h4 h.1), if_neg h4]
    by_cases h6 : k = 16 ∧ (jD vars a).1 = 0
    ·rw [if_pos h6, if_pos h6]; exact ⟨rfl, h0⟩
    rw [if_neg h6, if_neg h6]
    by_cases h7 : k = 17 ∧ (jD vars a).1 ≠ 0
    ·rw [if_pos h7, if_pos h7]; exact ⟨rfl, by unfold In; omega⟩
    rw [if_neg h7, if_neg h7]
    by_cases h8 : (jD vars b).2 = 0
    ·rw [if_neg (fun h => h h8), if_pos h8]
     refine ⟨?_, twoF_in h ja jb⟩
     by_cases h9 : k = 16 ∨ k = 17
     ·rw [if_pos h9]
      rcases h9 with rfl | rfl <;> simp only [twoF, reduceIte, Int.reduceEq]
     ·rw [if_neg h9, twoF_eq (by omega) ja jb]
    ·rw [if_pos h8, if_neg h8]; exact ⟨rfl, h0⟩
   ·rw [if_pos h5, if_neg h5]
    exact ⟨rfl, h0⟩
 termination_by x => SizeOf.sizeOf x
end
end Go.Proofs.YtlbpiiehanibfaaDoor
namespace Go.Proofs.YtlbpiiehanibfaaDoor
open Go Go.RowKit Go.Ev Go.Dv
noncomputable section
set_option maxRecDepth 100000
variable (G : Nat × Nat)
@[push_cast]theorem ivR_sc (n : Nat) (hn : 0 < n) (l : List Int) : sc n (Rw false eI l.length (ivs l)) = true := ivV_sc n hn l
theorem eval_t (vars : List Int) (x : Ex) (hs : smF x = true) (hl : vars.length < 1000000000) (hr : jG vars.length x = true) : jC (pp G) H0 25 [exV x, ivV vars] (t2 (jD vars x)) := by
 have hlo : H0.lo ≤ H0.next := Nat.le_refl _; refine jC.cut (jV.fir4 (q := qq) (jO G) fir25 (by kernel_rfl) rfl rfl (F16_arr ..) (show NGG ≤ H0.lo by rw [qF]; decide) ?_); rw [sd_ir25]
 unfold ivV
 simp (disch:=first|omega|(refine id ?_;simp only[push_cast];try omega)) only [push_cast,simprocAttr]
 refine jA.dataI (right_f G vars.length x hs) (by and_intros <;> first | rfl | (simp (disch:=first|omega|(refine id ?_;simp only[push_cast];try omega)) only [push_cast])) ?_
 simp (disch:=first|omega|(refine id ?_;simp only[push_cast];try omega)) only [push_cast,simprocAttr,hr]
 refine jA.dataI (eval_f G vars x hr) (by and_intros <;> first | rfl | (simp (disch:=first|omega|(refine id ?_;simp only[push_cast];try omega)) only [push_cast])) ?_
 simp (disch:=first|omega|(refine id ?_;simp only[push_cast];try omega)) only [push_cast,simprocAttr]
 exact .id rfl
theorem in_wf {a : Int} (h : (Lit.int .i64 a).wf = true) : In a := by
 simp only [Lit.wf, Bool.and_eq_true, decide_eq_true_eq] at h
 exact h
def qD (a n : Int) : Int := if a.tmod n < 0 then a.tmod n + n else a.tmod n
theorem withF_lt {a n : Int} (hn : 0 < n) : 0 ≤ qD a n ∧ qD a n < n := by
 have h1 : (a.tmod n).natAbs = a.natAbs % n.natAbs := Int.natAbs_tmod a n
 have h2 : a.natAbs % n.natAbs < n.natAbs := Nat.mod_lt _ (by omega)
 unfold qD
 split <;> omega
theorem within_f (a n : Int) (hn : 0 < n) (hn2 : n < 1000000000) : jC (pp G) H0 31 [.int .i64 a, .int .i64 n] (.int .i64 (qD a n)) := by
 have hlo : H0.lo ≤ H0.next := Nat.le_refl _; refine jC.cut (jV.fir4 (q := qq) (jO G) fir31 (by kernel_rfl) rfl rfl (F15_arr ..) (show NGG ≤ H0.lo by rw [qF]; decide) ?_); rw [sd_ir31]
 have h0 : ¬ n = 0 := by omega
 have h1 : ¬ n = -1 := by omega
 have h2 := withF_lt (a := a) hn
 unfold qD at h2 ⊢
 by_cases h : a.tmod n < 0
 ·rw [if_pos h]
  rw [if_pos h] at h2
  have h3 : IntKind.i64.wrap (a.tmod n + n) = a.tmod n + n := W_in (by unfold In; omega)
  simp (disch:=first|omega|(refine id ?_;simp only[push_cast];try omega)) only [push_cast,simprocAttr,h,h0,h1,h3]
  exact .id rfl
 ·rw [if_neg h]
  rw [if_neg h] at h2
  simp (disch:=first|omega|(refine id ?_;simp only[push_cast];try omega)) only [push_cast,simprocAttr,h,h0,h1]
  exact .id rfl
inductive Ra where
 | mk (k n : Int) (l : List Ra)
abbrev eR : Nat := 63
mutual
def raC : Ra → List Value
 | .mk k n l => [.int .i64 k, .int .i64 n, Rw false eR l.length (raCs l)]
def raCs : List Ra → List Value
 | [] => []
 | x :: l => raC x ++ raCs l
end
def raV (x : Ra) : Value := .agg ⟨raC x⟩
def rasV (l : List Ra) : Value := Rw false eR l.length (raCs l)
theorem raC_len (x : Ra) : (raC x).length = 3 := by cases x; simp [raC]
theorem raCs_len : ∀ l : List Ra, (raCs l).length = l.length * 3
 | [] => rfl
 | x :: l => by rw [raCs, List.length_append, raC_len, raCs_len l, List.length_cons]; omega
mutual
theorem raC_one : ∀ x : Ra, (raC x).all one = true
 | .mk k n l => by simp [raC, one, Rw]
theorem raCs_one : ∀ l : List Ra, (raCs l).all one = true
 | [] => rfl
 | x :: l => by rw [raCs, List.all_append, raC_one x, raCs_one l]; rfl
end
mutual
theorem raC_sc (n : Nat) (hn : 0 < n) : ∀ x : Ra, scL n (raC x) = true
 | .mk k m l => by
  have := raCs_sc n hn l
  simp [raC, scL, sc, Rw, this, hn]
theorem raCs_sc (n : Nat) (hn : 0 < n) : ∀ l : List Ra, scL n (raCs l) = true
 | [] => rfl
 | x :: l => by
  rw [raCs]
  exact jF fun v hv => (List.mem_append.1 hv).elim (scL_all (raC_sc n hn x) v) (scL_all (raCs_sc n hn l) v)
end
theorem raV_sc (n : Nat) (hn : 0 < n) (x : Ra) : sc n (raV x) = true := raC_sc n hn x
theorem rasR_sc (n : Nat) (hn : 0 < n) (l : List Ra) : sc n (Rw false eR l.length (raCs l)) = true := by
 have := raCs_sc n hn l
 simp [sc, Rw, scL, this, hn]
theorem rasV_sc (n : Nat) (hn : 0 < n) (l : List Ra) : sc n (rasV l) = true := rasR_sc n hn l
theorem raCs_drop : ∀ (l : List Ra) (i : Nat), (raCs l).drop (i * 3) = raCs (l.drop i)
 | l, 0 => by simp
 | [], i + 1 => by simp [raCs]
 | x :: l, i + 1 => by
  rw [raCs, List.drop_succ_cons, ← raCs_drop l i, Nat.add_mul, Nat.one_mul, Nat.add_comm, ← List.drop_drop, List.drop_append_of_le_length (by rw [raC_len]; exact Nat.le_refl _), show (raC x).drop 3 = [] from List.drop_of_length_le (by rw [raC_len]; exact Nat.le_refl _), List.nil_append]
theorem raCs_take {l : List Ra} {i : Nat} {x : Ra} (h : l[i]? = some x) : ((raCs l).drop (i * 3)).take 3 = raC x := by
 have hi : i < l.length := (List.getElem?_eq_some_iff.1 h).1
 have hd : l.drop i = x :: l.drop (i + 1) := by rw [List.drop_eq_getElem_cons hi]; congr 1; exact (List.getElem?_eq_some_iff.1 h).2
 rw [raCs_drop, hd, raCs, List.take_append_of_le_length (by rw [raC_len]; exact Nat.le_refl _), List.take_of_length_le (by rw [raC_len]; exact Nat.le_refl _)]
theorem raCs_get {l : List Ra} {i k n : Nat} {a b : Int} {l' : List Ra} (h : l[i]? = some (.mk a b l')) : (raCs l)[i * 3 + 2]? = some (Rw false eR l'.length (raCs l')) := by
 have h1 := raCs_take h
 have h2 : (((raCs l).drop (i * 3)).take 3)[2]? = some (Rw false eR l'.length (raCs l')) := by rw [h1]; rfl
 rw [List.getElem?_take_of_lt (by omega), List.getElem?_drop] at h2
 exact h2
theorem raV_fold (x : Ra) : Value.agg ⟨raC x⟩ = raV x := rfl
theorem raV_cells (x : Ra) : (raV x).cells.toList = raC x := rfl
attribute [push_cast] raCs_len raV_fold raCs_sc raV_sc rasV_sc rasR_sc raC_sc raCs_one raC_one raV_cells raC_len
mutual
def smR : Ra → Bool
 | .mk _ _ l => decide (l.length < 1000000000000000) && smRs l
def smRs : List Ra → Bool
 | [] => true
 | x :: l => smR x && smRs l
end
theorem smRs_all : ∀ {l : List Ra}, smRs l = true → ∀ x ∈ l, smR x = true
 | [], _, x, hx => by cases hx
 | y :: l, h, x, hx => by
  simp only [smRs, Bool.and_eq_true] at h
  rcases List.mem_cons.1 hx with rfl | hx
  ·exact h.1
  ·exact smRs_all h.2 x hx
mutual
def szR (d : Nat) : Ra → Int
 | .mk _ _ l => if 8 < d then 1000 else szL d 0 l
def szL (d : Nat) (n : Int) : List Ra → Int
 | [] => n
 | x :: l => if n ≤ 20 then szL d (n + 1 + szR (d + 1) x) l else n
end
def sizeF (l : List Ra) (d : Nat) : Int := if 8 < d then 1000 else szL d 0 l
mutual
theorem szR_le (d : Nat) : ∀ x : Ra, 0 ≤ szR d x ∧ szR d x ≤ 1000 + 21 * ((9 - d : Nat) : Int)
 | .mk k n l => by
  rw [szR]
  split
  ·omega
  ·exact szL_le d (by omega) l 0 (by omega) (by omega)
theorem szL_le (d : Nat) (hd : d ≤ 8) : ∀ (l : List Ra) (n : Int), 0 ≤ n → n ≤ 1000 + 21 * ((9 - d : Nat) : Int) → 0 ≤ szL d n l ∧ szL d n l ≤ 1000 + 21 * ((9 - d : Nat) : Int)
 | [], n, h, h' => by rw [szL]; exact ⟨h, h'⟩
 | x :: l, n, h, h' => by
  rw [szL]
  have := szR_le (d + 1) x
  split
  ·exact szL_le d hd l _ (by omega) (by omega)
  ·exact ⟨h, h'⟩
end
inductive I33 (d : Nat) (l : List Ra) : Nat → S → Prop
 | mk (i : Nat) (iv n : Int) (h : Heap) {x2 x3 x4 x7 x8 x9 x10 x11 x12 x13 x14 x15 x16 x17 x18 x19 x20 x21 x22 x23 x24 x25 x26 x27 x28 x29 x30 : Value} (hiv : iv = (i : Int)) (hi : i ≤ l.length) (hn : 0 ≤ n ∧ n ≤ 2000) (hok : szL d n (l.drop i) = szL d 0 l) (hl1 : h.lo = 6) (hl2 : 6 ≤ h.next) :
  I33 d l (l.length - i) ⟨(F31 (Rw false eR l.length (raCs l)) (.int .i64 d) x2 x3 x4 (.int .i64 n) (.int .i64 iv) x7 x8 x9 x10 x11 x12 x13 x14 x15 x16 x17 x18 x19 x20 x21 x22 x23 x24 x25 x26 x27 x28 x29 x30), [], h⟩
theorem size_f : ∀ (l : List Ra) (d : Nat), d ≤ 9 → l.length < 1000000000000000 → smRs l = true → jC (pp G) H0 33 [rasV l, .int .i64 d] (.int .i64 (sizeF l d))
 | l, d, hd, hll, hsm => by
  have ih : ∀ k n l', .mk k n l' ∈ l → d ≤ 8 → jC (pp G) H0 33 [rasV l', .int .i64 ((d + 1 : Nat) : Int)] (.int .i64 (sizeF l' (d + 1))) := fun k n l' hm hd' => by
   have := smRs_all hsm _ hm
   simp only [smR, Bool.and_eq_true, decide_eq_true_eq] at this
   exact size_f l' (d + 1) (by omega) this.1 this.2
  have hlo : H0.lo ≤ H0.next := Nat.le_refl _; refine jC.cut (jV.fir4 (q := qq) (jO G) fir33 (by kernel_rfl) rfl rfl (F31_arr ..) (show NGG ≤ H0.lo by rw [qF]; decide) ?_); rw [sd_ir33]
  unfold rasV sizeF
  by_cases h8 : 8 < d
  ·rw [if_pos h8]
   have h8' : (8 : Int) < d := by omega
   simp (disch:=first|omega|(refine id ?_;simp only[push_cast];try omega)) only [push_cast,simprocAttr,h8']
   exact .id rfl
  rw [if_neg h8]
  have h8' : ¬ (8 : Int) < d := by omega
  simp (disch:=first|omega|(refine id ?_;simp only[push_cast];try omega)) only [push_cast,simprocAttr,h8']
  refine WD.loop4 (q := qq) (jO G) (by kernel_rfl) (I33 d l) ?_ _ _ (I33.mk 0 0 0 _ rfl (Nat.zero_le _) (by omega) rfl rfl (Nat.le_refl _))
  intro m s1 hI
  cases hI with | mk i iv n h hiv hi hn hok hl1 hl2 =>
  subst hiv
  rw [sd_ir33_s0]
  by_cases hil : (i : Int) < l.length
  ·obtain ⟨x, hx⟩ : ∃ x, l[i]? = some x := ⟨_, List.getElem?_eq_getElem (by omega)⟩
   have hxm := List.mem_of_getElem? hx
   have hdr : l.drop i = x :: l.drop (i + 1) := by rw [List.drop_eq_getElem_cons (by omega)]; congr 1; exact (List.getElem?_eq_some_iff.1 hx).2
   rw [hdr, szL] at hok
   by_cases hn2 : n ≤ 20
   ·rw [if_pos hn2] at hok
    obtain ⟨k', n', l'⟩ := x
    have hp := raCs_get (k := 0) (n := 0) hx
    have hle : i * 3 + 3 ≤ l.length * 3 := by omega
    have e1 : IntKind.i64.wrap (n + 1) = n + 1 := W_in (by unfold In; omega)
    have e2 : IntKind.i64.wrap ((d : Int) + 1) = ((d + 1 : Nat) : Int) := W_in (by unfold In; omega)
    have hb := szR_le (d + 1) (.mk k' n' l')
    have e4 : szR (d + 1) (.mk k' n' l') = sizeF l' (d + 1) := by rw [szR, sizeF]
    rw [e4] at hb hok
    have e3 : IntKind.i64.wrap (n + 1 + sizeF l' (d + 1)) = n + 1 + sizeF l' (d + 1) := W_in (by unfold In; omega)
    simp (disch:=first|omega|(refine id ?_;simp only[push_cast];try omega)) only [push_cast,simprocAttr,hil,hn2,Int.toNat_natCast,hp,hle,hl1,e1,e2]
    refine jA.dataI (ih k' n' l' hxm (by omega)) (by and_intros <;> first | rfl | (simp (disch:=first|omega|(refine id ?_;simp only[push_cast];try omega)) only [push_cast])) ?_
    simp (disch:=first|omega|(refine id ?_;simp only[push_cast];try omega)) only [push_cast,simprocAttr,e3]
    exact ⟨_,by omega,I33.mk (i + 1) _ _ _ (by first | rfl | omega) (by omega) (by omega) hok (by first | exact hl1 | (simp (disch:=first|omega|(refine id ?_;simp only[push_cast];try omega)) only [push_cast,simprocAttr,hl1]; done) | (simp (disch:=first|omega|(refine id ?_;simp only[push_cast];try omega)) only [push_cast,simprocAttr]; omega)) (by first | exact hl2 | (simp (disch:=first|omega|(refine id ?_;simp only[push_cast];try omega)) only [push_cast,simprocAttr]; done) | (simp (disch:=first|omega|(refine id ?_;simp only[push_cast];try omega)) only [push_cast,simprocAttr]; omega))⟩
   ·rw [if_neg hn2] at hok
    simp (disch:=first|omega|(refine id ?_;simp only[push_cast];try omega)) only [push_cast,simprocAttr,hil,hn2]
    rw [sd_ir33_s1]
    simp (disch:=first|omega|(refine id ?_;simp only[push_cast];try omega)) only [push_cast,simprocAttr]
    rw [hok]
    exact .id rfl
  ·have hie : i = l.length := by omega
   subst hie
   rw [List.drop_length, szL] at hok
   simp (disch:=first|omega|(refine id ?_;simp only[push_cast];try omega)) only [push_cast,simprocAttr,hil]
   rw [sd_ir33_s1]
   simp (disch:=first|omega|(refine id ?_;simp only[push_cast];try omega)) only [push_cast,simprocAttr]
   rw [hok]
   exact .id rfl
 termination_by l => SizeOf.sizeOf l
 decreasing_by
  have := List.sizeOf_lt_of_mem hm
  simp at this
  omega
theorem few_f (l : List Ra) (hll : l.length < 1000000000000000) (hs : smRs l = true) : jC (pp G) H0 14 [rasV l] (.bool (decide (sizeF l 0 ≤ 20))) := by
 have hlo : H0.lo ≤ H0.next := Nat.le_refl _; refine jC.cut (jV.fir4 (q := qq) (jO G) fir14 (by kernel_rfl) rfl rfl (F6_arr ..) (show NGG ≤ H0.lo by rw [qF]; decide) ?_); rw [sd_ir14]
 simp (disch:=first|omega|(refine id ?_;simp only[push_cast];try omega)) only [push_cast,simprocAttr]
 refine jA.dataI (size_f G l 0 (by omega) hll hs) (by and_intros <;> first | rfl | (simp (disch:=first|omega|(refine id ?_;simp only[push_cast];try omega)) only [push_cast])) ?_
 simp (disch:=first|omega|(refine id ?_;simp only[push_cast];try omega)) only [push_cast,simprocAttr]
 exact .id rfl
abbrev eS : Nat := 9
def nss (l : List (List UInt8)) : List Value := l.map fun s => Value.string (Tx s)
def nsV (l : List (List UInt8)) : Value := Rw false eS l.length (nss l)
theorem nss_len (l : List (List UInt8)) : (nss l).length = l.length := by simp [nss]
theorem nss_sc (n : Nat) : ∀ l : List (List UInt8), scL n (nss l) = true
 | [] => rfl
 | x :: l => by
  have := nss_sc n l
  simp only [nss] at this
  simp [nss, scL, sc, this]
theorem nsV_sc (n : Nat) (hn : 0 < n) (l : List (List UInt8)) : sc n (nsV l) = true := by
 have := nss_sc n l
 simp [nsV, sc, Rw, scL, this, hn]
theorem ivs_get' {l : List Int} {i : Nat} (h : i < l.length) : (ivs l)[i]? = some (.int .i64 (l.getD i 0)) := by simp [ivs, h]
theorem nss_get {l : List (List UInt8)} {i : Nat} (h : i < l.length) : (nss l)[i]? = some (.string (Tx (l.getD i []))) := by simp [nss, h]
attribute [push_cast] nss_len nss_sc nsV_sc
def numsF : List Int := [0, 1, 2, 7, 99, 999999999999999999, 5, 3]
def partF (n : Int) (l : List Ex) (i : Nat) : Ex := l.getD i (.mk 1 (qD (W (n + i)) 5) [] [])
mutual
def mkF (ns : List (List UInt8)) : Ra → Ex
 | .mk k n l => if qD k 24 < 4 then .mk 1 (numsF.getD (qD n 8).toNat 0) [] []
  else if qD k 24 < 9 ∧ 0 < ns.length then .mk 2 0 (ns.getD (qD n ns.length).toNat []) []
  else if qD k 24 < 9 then .mk 2 (qD n 3) [] []
  else if qD k 24 = 9 then .mk 3 0 [] [partF n (mkL ns l) 0]
  else if qD k 24 = 10 then .mk 4 0 [] [partF n (mkL ns l) 0]
  else .mk (5 + qD k 24 - 11) 0 [] [partF n (mkL ns l) 0, partF n (mkL ns l) 1]
def mkL (ns : List (List UInt8)) : List Ra → List Ex
 | [] => []
 | x :: l => mkF ns x :: mkL ns l
end
theorem mkL_map (ns : List (List UInt8)) : ∀ l : List Ra, mkL ns l = l.map (mkF ns)
 | [] => rfl
 | x :: l => by rw [mkL, mkL_map ns l]; rfl
@[push_cast]theorem raA_sc (m : Nat) (hm : 0 < m) (k n : Int) (l : List Ra) : sc m (.agg ⟨[.int .i64 k, .int .i64 n, Rw false eR l.length (raCs l)]⟩) = true := raV_sc m hm (.mk k n l)
theorem fz_leaf {P : Program} {m : Nat} {σ : Heap} (hs : szT P eE = some 4) (k n : Int) (s : List UInt8) : FzV P m σ (.agg ⟨[.int .i64 k, .int .i64 n, .string (Tx s), .slice none 0 0]⟩) (exV (.mk k n s [])) := by
 refine .agg (.cons (.id rfl) (.cons (.id rfl) (.cons (.id rfl) (.cons ?_ .nil))))
 exact .nil hs (by omega)
theorem fz_of {P : Program} {m : Nat} (hm : 0 < m) {σ : Heap} (k n : Int) (s : List UInt8) (l : List Ex) : FzV P m σ (.agg ⟨[.int .i64 k, .int .i64 n, .string (Tx s), Rw true eE l.length (qW l)]⟩) (exV (.mk k n s l)) := by
 refine .agg (.cons (.id rfl) (.cons (.id rfl) (.cons (.id rfl) (.cons ?_ .nil))))
 exact .row (.ids (exCs_sc m hm l))
theorem rowE1 (x : Ex) (σ : Heap) : bsD (qq.m 25) (slT Tryd.prog 25) 1 [(0, exV x)] σ = some (Rw true eE 1 (qW [x]), σ) := by
 cases x; kernel_rfl
theorem rowE2 (x y : Ex) (σ : Heap) : bsD (qq.m 25) (slT Tryd.prog 25) 2 [(0, exV x), (1, exV y)] σ = some (Rw true eE 2 (qW [x, y]), σ) := by
 cases x; cases y; kernel_rfl
theorem row8 (σ : Heap) : bsD (qq.m 41) (slT Tryd.prog 41) 8 [(0, (.int .i64 0)), (1, (.int .i64 1)), (2, (.int .i64 2)), (3, (.int .i64 7)), (4, (.int .i64 99)), (5, (.int .i64 999999999999999999)), (6, (.int .i64 5)), (7, (.int .i64 3))] σ = some (Rw true eI 8 (ivs numsF), σ) := by kernel_rfl
theorem part_f (ns : List (List UInt8)) (k n : Int) (l : List Ra) (i : Nat) (hi : i < 2) (hll : l.length < 1000000000000000) (ih : ∀ x ∈ l, jC (pp G) H0 34 [raV x, nsV ns] (exV (mkF ns x))) :
  jC (pp G) H0 48 [raV (.mk k n l), .int .i64 i, nsV ns] (exV (partF n (mkL ns l) i)) := by
 have he : partF n (mkL ns l) i = (match l[i]? with | some x => mkF ns x | none => .mk 1 (qD (W (n + i)) 5) [] []) := by
  rw [partF, mkL_map, List.getD_eq_getElem?_getD, List.getElem?_map]
  cases l[i]? <;> rfl
 rw [he]
 have hlo : H0.lo ≤ H0.next := Nat.le_refl _; refine jC.cut (jV.fir4 (q := qq) (jO G) fir48 (by kernel_rfl) rfl rfl (F25_arr ..) (show NGG ≤ H0.lo by rw [qF]; decide) ?_); rw [sd_ir48]
 unfold raV raC
 by_cases h : (i : Int) < l.length
 ·obtain ⟨x, hx⟩ : ∃ x, l[i]? = some x := ⟨_, List.getElem?_eq_getElem (by omega)⟩
  have hp := raCs_take hx
  have hle : i * 3 + 3 ≤ l.length * 3 := by omega
  rw [hx]
  simp (disch:=first|omega|(refine id ?_;simp only[push_cast];try omega)) only [push_cast,simprocAttr,h,hp,hle,Int.toNat_natCast]
  refine jA.dataI (ih x (List.mem_of_getElem? hx)) (by and_intros <;> first | rfl | (simp (disch:=first|omega|(refine id ?_;simp only[push_cast];try omega)) only [push_cast])) ?_
  simp (disch:=first|omega|(refine id ?_;simp only[push_cast];try omega)) only [push_cast,simprocAttr]
  exact .id (by simp [exV_sc])
 ·have hx : l[i]? = none := List.getElem?_eq_none (by omega)
  rw [hx]
  have hw : IntKind.i64.wrap (n + i) = W (n + i) := rfl
  simp (disch:=first|omega|(refine id ?_;simp only[push_cast];try omega)) only [push_cast,simprocAttr,h,hw]
  refine jA.dataI (within_f G (W (n + i)) 5 (by omega) (by omega)) (by and_intros <;> first | rfl | (simp (disch:=first|omega|(refine id ?_;simp only[push_cast];try omega)) only [push_cast])) ?_
  simp (disch:=first|omega|(refine id ?_;simp only[push_cast];try omega)) only [push_cast,simprocAttr]
  exact fz_leaf rfl _ _ _
theorem make_f (ns : List (List UInt8)) (hns : ns.length < 1000000000) : ∀ x : Ra, smR x = true → jC (pp G) H0 34 [raV x, nsV ns] (exV (mkF ns x))
 | .mk k n l, hsm => by
  simp only [smR, Bool.and_eq_true, decide_eq_true_eq] at hsm
  have hall := smRs_all hsm.2
  have ih : ∀ x ∈ l, jC (pp G) H0 34 [raV x, nsV ns] (exV (mkF ns x)) := fun x hx => make_f ns hns x (hall x hx)
  have p0 : jC (pp G) H0 48 [raV (.mk k n l), .int .i64 0, nsV ns] (exV (partF n (mkL ns l) 0)) := part_f G ns k n l 0 (by omega) hsm.1 ih
  have p1 : jC (pp G) H0 48 [raV (.mk k n l), .int .i64 1, nsV ns] (exV (partF n (mkL ns l) 1)) := part_f G ns k n l 1 (by omega) hsm.1 ih
  have hlo : H0.lo ≤ H0.next := Nat.le_refl _; refine jC.cut (jV.fir4 (q := qq) (jO G) fir34 (by kernel_rfl) rfl rfl (F70_arr ..) (show NGG ≤ H0.lo by rw [qF]; decide) ?_); rw [sd_ir34]
  unfold raV raC
  rw [mkF]
  simp (disch:=first|omega|(refine id ?_;simp only[push_cast];try omega)) only [push_cast,simprocAttr]
  refine jA.dataI (within_f G k 24 (by omega) (by omega)) (by and_intros <;> first | rfl | (simp (disch:=first|omega|(refine id ?_;simp only[push_cast];try omega)) only [push_cast])) ?_
  have hk := withF_lt (a := k) (n := 24) (by omega)
  generalize qD k 24 = w at hk ⊢
  by_cases h4 : w < 4
  ·rw [if_pos h4]
   have hw := withF_lt (a := n) (n := 8) (by omega)
   have hg := ivs_get' (l := numsF) (i := (qD n 8).toNat) (by show (qD n 8).toNat < 8; omega)
   have hc : ((qD n 8).toNat : Int) = qD n 8 := Int.toNat_of_nonneg hw.1
   have hl8 : (ivs numsF).length = 8 := rfl
   simp (disch:=first|omega|(refine id ?_;simp only[push_cast];try omega)) only [push_cast,simprocAttr,h4,↓row8]
   refine jA.dataI (within_f G n 8 (by omega) (by omega)) (by and_intros <;> first | rfl | (simp (disch:=first|omega|(refine id ?_;simp only[push_cast];try omega)) only [push_cast])) ?_
   simp (disch:=first|omega|(refine id ?_;simp only[push_cast];try omega)) only [push_cast,simprocAttr,hg,hc,hl8]
   exact fz_leaf rfl _ _ _
  rw [if_neg h4]
  by_cases h9 : w < 9
  ·by_cases h0 : 0 < ns.length
   ·rw [if_pos ⟨h9, h0⟩]
    unfold nsV
    have h0' : (0 : Int) < ns.length := by omega
    have hw := withF_lt (a := n) (n := (ns.length : Int)) (by omega)
    have hg := nss_get (l := ns) (i := (qD n ns.length).toNat) (by omega)
    have hc : ((qD n ns.length).toNat : Int) = qD n ns.length := Int.toNat_of_nonneg hw.1
    have hlt : (qD n ns.length).toNat < ns.length := by omega
    simp (disch:=first|omega|(refine id ?_;simp only[push_cast];try omega)) only [push_cast,simprocAttr,h4,h9,h0']
    refine jA.dataI (within_f G n ns.length (by omega) (by omega)) (by and_intros <;> first | rfl | (simp (disch:=first|omega|(refine id ?_;simp only[push_cast];try omega)) only [push_cast])) ?_
    simp (disch:=first|omega|(refine id ?_;simp only[push_cast];try omega)) only [push_cast,simprocAttr,hg,hc,hlt]
    exact fz_leaf rfl _ _ _
   ·rw [if_neg (fun h => h0 h.2), if_pos h9]
    unfold nsV
    have h0' : ¬ (0 : Int) < ns.length := by omega
    simp (disch:=first|omega|(refine id ?_;simp only[push_cast];try omega)) only [push_cast,simprocAttr,h4,h9,h0']
    refine jA.dataI (within_f G n 3 (by omega) (by omega)) (by and_intros <;> first | rfl | (simp (disch:=first|omega|(refine id ?_;simp only[push_cast];try omega)) only [push_cast])) ?_
    simp (disch:=first|omega|(refine id ?_;simp only[push_cast];try omega)) only [push_cast,simprocAttr]
    exact fz_leaf rfl _ _ _
  rw [if_neg (fun h => h9 h.1), if_neg h9]
  by_cases h9' : w = 9
  ·rw [if_pos h9']
   subst h9'
   simp (disch:=first|omega|(refine id ?_;simp only[push_cast];try omega)) only [push_cast,simprocAttr]
   refine jA.dataI (p0) (by and_intros <;> first | rfl | (simp (disch:=first|omega|(refine id ?_;simp only[push_cast];try omega)) only [push_cast])) ?_
   simp (disch:=first|omega|(refine id ?_;simp only[push_cast];try omega)) only [push_cast,simprocAttr,↓rowE1]
   exact fz_of (m := 6) (by decide) 3 0 [] [_]
  rw [if_neg h9']
  by_cases h10 : w = 10
  ·rw [if_pos h10]
   subst h10
   simp (disch:=first|omega|(refine id ?_;simp only[push_cast];try omega)) only [push_cast,simprocAttr]
   refine jA.dataI (p0) (by and_intros <;> first | rfl | (simp (disch:=first|omega|(refine id ?_;simp only[push_cast];try omega)) only [push_cast])) ?_
   simp (disch:=first|omega|(refine id ?_;simp only[push_cast];try omega)) only [push_cast,simprocAttr,↓rowE1]
   exact fz_of (m := 6) (by decide) 4 0 [] [_]
  rw [if_neg h10]
  have e1 : IntKind.i64.wrap (5 + w) = 5 + w := W_in (by unfold In; omega)
  have e2 : IntKind.i64.wrap (5 + w - 11) = 5 + w - 11 := W_in (by unfold In; omega)
  simp (disch:=first|omega|(refine id ?_;simp only[push_cast];try omega)) only [push_cast,simprocAttr,h4,h9,h9',h10,e1,e2]
  refine jA.dataI (p0) (by and_intros <;> first | rfl | (simp (disch:=first|omega|(refine id ?_;simp only[push_cast];try omega)) only [push_cast])) ?_
  simp (disch:=first|omega|(refine id ?_;simp only[push_cast];try omega)) only [push_cast,simprocAttr]
  refine jA.dataI (p1) (by and_intros <;> first | rfl | (simp (disch:=first|omega|(refine id ?_;simp only[push_cast];try omega)) only [push_cast])) ?_
  simp (disch:=first|omega|(refine id ?_;simp only[push_cast];try omega)) only [push_cast,simprocAttr,↓rowE2]
  exact fz_of (m := 6) (by decide) (5 + w - 11) 0 [] [_, _]
 termination_by x => SizeOf.sizeOf x
def firstF (ns : List (List UInt8)) : List Ra → Ex
 | [] => .mk 1 1 [] []
 | x :: _ => mkF ns x
theorem oneR_f (ns : List (List UInt8)) (hns : ns.length < 1000000000) (l : List Ra) (hsm : smRs l = true) (hll : l.length < 1000000000000000) :
  jC (pp G) H0 15 [rasV l, nsV ns] (exV (firstF ns l)) := by
 have hlo : H0.lo ≤ H0.next := Nat.le_refl _; refine jC.cut (jV.fir4 (q := qq) (jO G) fir15 (by kernel_rfl) rfl rfl (F14_arr ..) (show NGG ≤ H0.lo by rw [qF]; decide) ?_); rw [sd_ir15]
 cases l with
 | nil =>
  rw [firstF]
  unfold rasV
  simp (disch:=first|omega|(refine id ?_;simp only[push_cast];try omega)) only [push_cast,simprocAttr]
  exact fz_leaf rfl _ _ _
 | cons x l =>
  rw [firstF]
  have hx := smRs_all hsm x (by simp)
  have hp := raCs_take (l := x :: l) (i := 0) rfl
  rw [Nat.zero_mul, List.drop_zero] at hp
  have h0 : ¬ (l.length : Int) + 1 = 0 := by omega
  have h1 : 3 ≤ (l.length + 1) * 3 := by omega
  have h2 : 0 < (x :: l).length := by simp
  unfold rasV
  simp (disch:=first|omega|(refine id ?_;simp only[push_cast];try omega)) only [push_cast,simprocAttr,h0,h1,h2,hp]
  refine jA.dataI (make_f G ns hns x hx) (by and_intros <;> first | rfl | (simp (disch:=first|omega|(refine id ?_;simp only[push_cast];try omega)) only [push_cast])) ?_
  simp (disch:=first|omega|(refine id ?_;simp only[push_cast];try omega)) only [push_cast,simprocAttr]
  exact .id (by simp [exV_sc])
end
end Go.Proofs.YtlbpiiehanibfaaDoor
