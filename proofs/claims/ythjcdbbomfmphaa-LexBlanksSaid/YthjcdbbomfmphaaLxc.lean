/-
  A part of the proof: what the program's functions hand back, as theorems. No condition but those that each theorem names.
-/
import Derived.Test.YthjcdbbomfmphaaLxb
import Derived.Lib.Bytealg
import Derived.Laws.RangeAny
set_option linter.unusedSimpArgs false
set_option linter.unusedVariables false
namespace Go.Proofs.Ythjcdbbomfmphaa
open Go.RowKit Go.Ev Go.Lx
noncomputable section
set_option linter.unusedSimpArgs false
set_option linter.unusedVariables false
variable (G : Nat) (h : Heap)

def qblank (r : Int) : Bool := decide (r = 32 ∨ r = 9 ∨ r = 10 ∨ r = 13)
def qsmall (r : Int) : Bool := decide (97 ≤ r ∧ r ≤ 122)
def qdigit (r : Int) : Bool := decide (48 ≤ r ∧ r ≤ 57)
def qwordy (r : Int) : Bool := qsmall r || qdigit r || decide (r = 95)

theorem blank_w (r : Int) : CallE (pp G) 24 [.int .i32 r] h (fun v h' => v = .bool (qblank r) ∧ h' = h) := by
  refine CallE.fir4 (good G) fir24 rfl rfl (F17_arr ..) fun hlo => ?_
  rw [sh_ir24]
  unfold qblank
  by_cases h1 : r = 32
  · simp (disch := first | omega | (refine id ?_; simp only [push_cast]; done) | (refine id ?_; simp only [push_cast]; omega)) only [push_cast, Nat.reduceAdd, Nat.reduceMul, Nat.reduceSub, Nat.reduceLT, Nat.reduceEqDiff, Nat.reduceLeDiff, Int.reduceToNat, reduceCtorEq, Int.reduceLT, Int.reduceLE, Int.reduceAdd, Int.reduceSub, Int.reduceMul, Int.reduceNeg, Int.reduceEq, h1]
  by_cases h2 : r = 9
  · simp (disch := first | omega | (refine id ?_; simp only [push_cast]; done) | (refine id ?_; simp only [push_cast]; omega)) only [push_cast, Nat.reduceAdd, Nat.reduceMul, Nat.reduceSub, Nat.reduceLT, Nat.reduceEqDiff, Nat.reduceLeDiff, Int.reduceToNat, reduceCtorEq, Int.reduceLT, Int.reduceLE, Int.reduceAdd, Int.reduceSub, Int.reduceMul, Int.reduceNeg, Int.reduceEq, h1, h2]
  by_cases h3 : r = 10
  · simp (disch := first | omega | (refine id ?_; simp only [push_cast]; done) | (refine id ?_; simp only [push_cast]; omega)) only [push_cast, Nat.reduceAdd, Nat.reduceMul, Nat.reduceSub, Nat.reduceLT, Nat.reduceEqDiff, Nat.reduceLeDiff, Int.reduceToNat, reduceCtorEq, Int.reduceLT, Int.reduceLE, Int.reduceAdd, Int.reduceSub, Int.reduceMul, Int.reduceNeg, Int.reduceEq, h1, h2, h3]
  by_cases h4 : r = 13
  · simp (disch := first | omega | (refine id ?_; simp only [push_cast]; done) | (refine id ?_; simp only [push_cast]; omega)) only [push_cast, Nat.reduceAdd, Nat.reduceMul, Nat.reduceSub, Nat.reduceLT, Nat.reduceEqDiff, Nat.reduceLeDiff, Int.reduceToNat, reduceCtorEq, Int.reduceLT, Int.reduceLE, Int.reduceAdd, Int.reduceSub, Int.reduceMul, Int.reduceNeg, Int.reduceEq, h1, h2, h3, h4]
  · simp (disch := first | omega | (refine id ?_; simp only [push_cast]; done) | (refine id ?_; simp only [push_cast]; omega)) only [push_cast, Nat.reduceAdd, Nat.reduceMul, Nat.reduceSub, Nat.reduceLT, Nat.reduceEqDiff, Nat.reduceLeDiff, Int.reduceToNat, reduceCtorEq, Int.reduceLT, Int.reduceLE, Int.reduceAdd, Int.reduceSub, Int.reduceMul, Int.reduceNeg, Int.reduceEq, h1, h2, h3, h4]
theorem small_w (r : Int) : CallE (pp G) 29 [.int .i32 r] h (fun v h' => v = .bool (qsmall r) ∧ h' = h) := by
  refine CallE.fir4 (good G) fir29 rfl rfl (F9_arr ..) fun hlo => ?_
  rw [sh_ir29]
  unfold qsmall
  by_cases h1 : 97 ≤ r
  · simp (disch := first | omega | (refine id ?_; simp only [push_cast]; done) | (refine id ?_; simp only [push_cast]; omega)) only [push_cast, Nat.reduceAdd, Nat.reduceMul, Nat.reduceSub, Nat.reduceLT, Nat.reduceEqDiff, Nat.reduceLeDiff, Int.reduceToNat, reduceCtorEq, Int.reduceLT, Int.reduceLE, Int.reduceAdd, Int.reduceSub, Int.reduceMul, Int.reduceNeg, Int.reduceEq, h1]
  · simp (disch := first | omega | (refine id ?_; simp only [push_cast]; done) | (refine id ?_; simp only [push_cast]; omega)) only [push_cast, Nat.reduceAdd, Nat.reduceMul, Nat.reduceSub, Nat.reduceLT, Nat.reduceEqDiff, Nat.reduceLeDiff, Int.reduceToNat, reduceCtorEq, Int.reduceLT, Int.reduceLE, Int.reduceAdd, Int.reduceSub, Int.reduceMul, Int.reduceNeg, Int.reduceEq, h1, false_and]
theorem digit_w (r : Int) : CallE (pp G) 35 [.int .i32 r] h (fun v h' => v = .bool (qdigit r) ∧ h' = h) := by
  refine CallE.fir4 (good G) fir35 rfl rfl (F9_arr ..) fun hlo => ?_
  rw [sh_ir35]
  unfold qdigit
  by_cases h1 : 48 ≤ r
  · simp (disch := first | omega | (refine id ?_; simp only [push_cast]; done) | (refine id ?_; simp only [push_cast]; omega)) only [push_cast, Nat.reduceAdd, Nat.reduceMul, Nat.reduceSub, Nat.reduceLT, Nat.reduceEqDiff, Nat.reduceLeDiff, Int.reduceToNat, reduceCtorEq, Int.reduceLT, Int.reduceLE, Int.reduceAdd, Int.reduceSub, Int.reduceMul, Int.reduceNeg, Int.reduceEq, h1]
  · simp (disch := first | omega | (refine id ?_; simp only [push_cast]; done) | (refine id ?_; simp only [push_cast]; omega)) only [push_cast, Nat.reduceAdd, Nat.reduceMul, Nat.reduceSub, Nat.reduceLT, Nat.reduceEqDiff, Nat.reduceLeDiff, Int.reduceToNat, reduceCtorEq, Int.reduceLT, Int.reduceLE, Int.reduceAdd, Int.reduceSub, Int.reduceMul, Int.reduceNeg, Int.reduceEq, h1, false_and]
theorem wordy_w (r : Int) : CallE (pp G) 31 [.int .i32 r] h (fun v h' => v = .bool (qwordy r) ∧ h' = h) := by
  refine CallE.fir4 (good G) fir31 rfl rfl (F13_arr ..) fun hlo => ?_
  rw [sh_ir31]
  unfold qwordy
  simp (disch := first | omega | (refine id ?_; simp only [push_cast]; done) | (refine id ?_; simp only [push_cast]; omega)) only [push_cast, Nat.reduceAdd, Nat.reduceMul, Nat.reduceSub, Nat.reduceLT, Nat.reduceEqDiff, Nat.reduceLeDiff, Int.reduceToNat, reduceCtorEq, Int.reduceLT, Int.reduceLE, Int.reduceAdd, Int.reduceSub, Int.reduceMul, Int.reduceNeg, Int.reduceEq]
  refine CallE.to (small_w G _ _) ?_; rintro _ _ ⟨rfl, rfl⟩
  cases h1 : qsmall r with
  | true =>
    simp (disch := first | omega | (refine id ?_; simp only [push_cast]; done) | (refine id ?_; simp only [push_cast]; omega)) only [push_cast, Nat.reduceAdd, Nat.reduceMul, Nat.reduceSub, Nat.reduceLT, Nat.reduceEqDiff, Nat.reduceLeDiff, Int.reduceToNat, reduceCtorEq, Int.reduceLT, Int.reduceLE, Int.reduceAdd, Int.reduceSub, Int.reduceMul, Int.reduceNeg, Int.reduceEq, Bool.true_or]
  | false =>
    simp (disch := first | omega | (refine id ?_; simp only [push_cast]; done) | (refine id ?_; simp only [push_cast]; omega)) only [push_cast, Nat.reduceAdd, Nat.reduceMul, Nat.reduceSub, Nat.reduceLT, Nat.reduceEqDiff, Nat.reduceLeDiff, Int.reduceToNat, reduceCtorEq, Int.reduceLT, Int.reduceLE, Int.reduceAdd, Int.reduceSub, Int.reduceMul, Int.reduceNeg, Int.reduceEq, Bool.false_or]
    refine CallE.to (digit_w G _ _) ?_; rintro _ _ ⟨rfl, rfl⟩
    cases h2 : qdigit r with
    | true =>
      simp (disch := first | omega | (refine id ?_; simp only [push_cast]; done) | (refine id ?_; simp only [push_cast]; omega)) only [push_cast, Nat.reduceAdd, Nat.reduceMul, Nat.reduceSub, Nat.reduceLT, Nat.reduceEqDiff, Nat.reduceLeDiff, Int.reduceToNat, reduceCtorEq, Int.reduceLT, Int.reduceLE, Int.reduceAdd, Int.reduceSub, Int.reduceMul, Int.reduceNeg, Int.reduceEq, Bool.true_or]
    | false =>
      simp (disch := first | omega | (refine id ?_; simp only [push_cast]; done) | (refine id ?_; simp only [push_cast]; omega)) only [push_cast, Nat.reduceAdd, Nat.reduceMul, Nat.reduceSub, Nat.reduceLT, Nat.reduceEqDiff, Nat.reduceLeDiff, Int.reduceToNat, reduceCtorEq, Int.reduceLT, Int.reduceLE, Int.reduceAdd, Int.reduceSub, Int.reduceMul, Int.reduceNeg, Int.reduceEq, Bool.false_or]

/-- a text's byte, read as a rune -/
theorem dec_lo {L : B} {pos : Nat} (hp : pos < L.length) (ha : (L.getD pos 0).toNat < 128) : Utf8.decode (Tx L) pos = ((L.getD pos 0).toNat, 1) := by
  have e : (Tx L)[pos]'hp = L.getD pos 0 := by
    rw [List.getD_eq_getElem?_getD, List.getElem?_eq_getElem hp]; rfl
  have := decode_ascii (Tx L) pos hp (by rw [e]; exact ha)
  rw [e] at this
  exact this
theorem dec_hi {L : B} {pos : Nat} (hp : pos < L.length) (ha : 128 ≤ (L.getD pos 0).toNat) : 128 ≤ (Utf8.decode (Tx L) pos).1 ∧ 1 ≤ (Utf8.decode (Tx L) pos).2 := by
  have e : (Tx L)[pos]'hp = L.getD pos 0 := by
    rw [List.getD_eq_getElem?_getD, List.getElem?_eq_getElem hp]; rfl
  exact decode_high (Tx L) pos hp (by rw [e]; exact ha)

/-- a kind of rune is a kind of byte -/
structure Kind (q : Int → Bool) (p : UInt8 → Bool) : Prop where
  eq : ∀ c : UInt8, q (c.toNat : Int) = p c
  hi : ∀ r : Int, 128 ≤ r → q r = false
theorem kind_small : Kind qsmall small := ⟨fun c => by unfold qsmall small; congr 1; simp only [eq_iff_iff]; omega, fun r h => by unfold qsmall; simp only [decide_eq_false_iff_not]; omega⟩
theorem kind_digit : Kind qdigit digit := ⟨fun c => by unfold qdigit digit; congr 1; simp only [eq_iff_iff]; omega, fun r h => by unfold qdigit; simp only [decide_eq_false_iff_not]; omega⟩
theorem kind_blank : Kind qblank blankC := ⟨fun c => by unfold qblank blankC; congr 1; simp only [eq_iff_iff]; omega, fun r h => by unfold qblank; simp only [decide_eq_false_iff_not]; omega⟩
theorem kind_wordy : Kind qwordy wordy := ⟨fun c => by
    unfold qwordy wordy; rw [kind_small.eq, kind_digit.eq]; congr 2; simp only [eq_iff_iff]; omega,
  fun r h => by
    unfold qwordy; rw [kind_small.hi r h, kind_digit.hi r h]; simp; omega⟩

def I30 (h : Heap) (L : B) (g : Nat) (p : UInt8 → Bool) (k : Nat) (s : S) : Prop := ∃ pos h1 x2 x3 x4 x5 x6 x7 x9 x10 x11 x12 x13 x14 x15 x16 x17 x18 x19, s = ⟨(F20 (.string (Tx L)) (.func (.func g) #[] #[]) x2 x3 x4 x5 x6 x7 (.pointer (some ⟨h.next, 0, none⟩)) x9 x10 x11 x12 x13 x14 x15 x16 x17 x18 x19), [], h1⟩ ∧
  h1.get h.next = some (itO (Tx L) pos) ∧ Grew h h1 (fun _ => False) ∧ pos ≤ front p L ∧ k = L.length - pos

theorem front_w (L : B) (g : Nat) {q : Int → Bool} {p : UInt8 → Bool} (hk : Kind q p) (hq : ∀ (r : Int) (h : Heap), CallE (pp G) g [.int .i32 r] h (fun v h' => v = .bool (q r) ∧ h' = h)) :
    CallE (pp G) 30 [.string (Tx L), .func (.func g) #[] #[]] h (fun v h' => v = .int .i64 (front p L) ∧ Grew h h' (fun _ => False)) := by
  refine CallE.fir4 (good G) fir30 rfl rfl (F20_arr ..) fun hlo => ?_
  rw [sh_ir30]
  simp (disch := first | omega | (refine id ?_; simp only [push_cast]; done) | (refine id ?_; simp only [push_cast]; omega)) only [push_cast, Nat.reduceAdd, Nat.reduceMul, Nat.reduceSub, Nat.reduceLT, Nat.reduceEqDiff, Nat.reduceLeDiff, Int.reduceToNat, reduceCtorEq, Int.reduceLT, Int.reduceLE, Int.reduceAdd, Int.reduceSub, Int.reduceMul, Int.reduceNeg, Int.reduceEq]
  refine W.loop4 (good G) (I30 h L g p) ?_ _ _ ⟨0, _, _, _, _, _, _, _, _, _, _, _, _, _, _, _, _, _, _, rfl, get_add_s _ _ rfl, (Gr.refl h).add' _, Nat.zero_le _, rfl⟩
  rintro k _ ⟨pos, h1, x2, x3, x4, x5, x6, x7, x9, x10, x11, x12, x13, x14, x15, x16, x17, x18, x19, rfl, hg, hgr, hpos, rfl⟩
  rw [sh_ir30_s0]
  have hl1 : h1.lo ≤ h.next := by rw [hgr.lo]; exact hlo
  have hnx := hgr.next
  have hfl := front_le p L
  by_cases hp : pos < L.length
  · simp (disch := first | omega | (refine id ?_; simp only [push_cast]; done) | (refine id ?_; simp only [push_cast]; omega)) only [push_cast, Nat.reduceAdd, Nat.reduceMul, Nat.reduceSub, Nat.reduceLT, Nat.reduceEqDiff, Nat.reduceLeDiff, Int.reduceToNat, reduceCtorEq, Int.reduceLT, Int.reduceLE, Int.reduceAdd, Int.reduceSub, Int.reduceMul, Int.reduceNeg, Int.reduceEq, nxE_t _ pos L hg hl1 hp]
    refine CallE.to (hq _ _) ?_
    rintro _ _ ⟨rfl, rfl⟩
    by_cases ha : (L.getD pos 0).toNat < 128
    · rw [dec_lo hp ha]
      have e := hk.eq (L.getD pos 0)
      dsimp only
      cases hc : p (L.getD pos 0) with
      | true =>
        rw [hc] at e
        simp (disch := first | omega | (refine id ?_; simp only [push_cast]; done) | (refine id ?_; simp only [push_cast]; omega)) only [push_cast, Nat.reduceAdd, Nat.reduceMul, Nat.reduceSub, Nat.reduceLT, Nat.reduceEqDiff, Nat.reduceLeDiff, Int.reduceToNat, reduceCtorEq, Int.reduceLT, Int.reduceLE, Int.reduceAdd, Int.reduceSub, Int.reduceMul, Int.reduceNeg, Int.reduceEq, e]
        have hlt : pos < front p L := by
          rcases Nat.lt_or_ge pos (front p L) with h2 | h2
          · exact h2
          · have h3 : front p L = pos := by omega
            have := front_end p L (by omega)
            rw [h3, hc] at this; cases this
        exact ⟨L.length - (pos + 1), by omega, pos + 1, _, _, _, _, _, _, _, _, _, _, _, _, _, _, _, _, _, _, rfl, get_put_s _ _, hgr.put' _ _ (Nat.le_refl _), by omega, rfl⟩
      | false =>
        rw [hc] at e
        simp (disch := first | omega | (refine id ?_; simp only [push_cast]; done) | (refine id ?_; simp only [push_cast]; omega)) only [push_cast, Nat.reduceAdd, Nat.reduceMul, Nat.reduceSub, Nat.reduceLT, Nat.reduceEqDiff, Nat.reduceLeDiff, Int.reduceToNat, reduceCtorEq, Int.reduceLT, Int.reduceLE, Int.reduceAdd, Int.reduceSub, Int.reduceMul, Int.reduceNeg, Int.reduceEq, e, Bool.not_false]
        have h3 : front p L = pos := by
          rcases Nat.lt_or_ge pos (front p L) with h2 | h2
          · have := front_all p L pos h2
            rw [hc] at this; cases this
          · omega
        exact ⟨by rw [h3], hgr.put' _ _ (Nat.le_refl _)⟩
    · have hh := dec_hi hp (by omega)
      have e := hk.hi ((Utf8.decode (Tx L) pos).1 : Int) (by omega)
      simp (disch := first | omega | (refine id ?_; simp only [push_cast]; done) | (refine id ?_; simp only [push_cast]; omega)) only [push_cast, Nat.reduceAdd, Nat.reduceMul, Nat.reduceSub, Nat.reduceLT, Nat.reduceEqDiff, Nat.reduceLeDiff, Int.reduceToNat, reduceCtorEq, Int.reduceLT, Int.reduceLE, Int.reduceAdd, Int.reduceSub, Int.reduceMul, Int.reduceNeg, Int.reduceEq, e, Bool.not_false]
      have h3 : front p L = pos := by
        rcases Nat.lt_or_ge pos (front p L) with h2 | h2
        · have h4 := front_all p L pos h2
          rw [← hk.eq, hk.hi _ (by omega)] at h4; cases h4
        · omega
      exact ⟨by rw [h3], hgr.put' _ _ (Nat.le_refl _)⟩
  · simp (disch := first | omega | (refine id ?_; simp only [push_cast]; done) | (refine id ?_; simp only [push_cast]; omega)) only [push_cast, Nat.reduceAdd, Nat.reduceMul, Nat.reduceSub, Nat.reduceLT, Nat.reduceEqDiff, Nat.reduceLeDiff, Int.reduceToNat, reduceCtorEq, Int.reduceLT, Int.reduceLE, Int.reduceAdd, Int.reduceSub, Int.reduceMul, Int.reduceNeg, Int.reduceEq, nxE_f _ pos L hg hl1 (by omega), sh_ir30_s1]
    have h3 : front p L = L.length := by omega
    exact ⟨by rw [h3], hgr⟩
end
end Go.Proofs.Ythjcdbbomfmphaa

namespace Go.Proofs.Ythjcdbbomfmphaa
open Go.RowKit Go.Ev Go.Lx
noncomputable section
set_option linter.unusedSimpArgs false
set_option linter.unusedVariables false
variable (G : Nat) (h : Heap)

/-- a sign's value -/
abbrev sgV (k : Nat) (t : B) (p : Nat) : Value := .agg ⟨[.int .i64 k, .string (Tx t), .int .i64 p]⟩
def firstV (l : B) : One → Value
  | .bad e => .tuple #[sgV 0 [] 0, .int .i64 e]
  | .ok k n => .tuple #[sgV k (l.take n) 0, .int .i64 0]

def oneWord (l : B) : One := if 20 < l.length then .bad 3 else .ok 1 l.length
def oneNumber (l : B) : One := if 18 < l.length then .bad 3 else if 1 < l.length ∧ (l.getD 0 0).toNat = 48 then .bad 1 else .ok 2 l.length
def oneMark (l : B) : One := if markN l = 0 then .bad 1 else .ok 3 (markN l)

theorem word_w (l : B) : CallE (pp G) 34 [.string (Tx l)] h (fun v h' => v = firstV l (oneWord l) ∧ Gr h h') := by
  refine CallE.fir4 (good G) fir34 rfl rfl (F10_arr ..) fun hlo => ?_
  rw [sh_ir34]
  unfold oneWord
  simp (disch := first | omega | (refine id ?_; simp only [push_cast]; done) | (refine id ?_; simp only [push_cast]; omega)) only [push_cast, Nat.reduceAdd, Nat.reduceMul, Nat.reduceSub, Nat.reduceLT, Nat.reduceEqDiff, Nat.reduceLeDiff, Int.reduceToNat, reduceCtorEq, Int.reduceLT, Int.reduceLE, Int.reduceAdd, Int.reduceSub, Int.reduceMul, Int.reduceNeg, Int.reduceEq]
  (refine vcond_d (fun hc => ?_) (fun hc => ?_)) <;> (try (simp (disch := first | omega | (refine id ?_; simp only [push_cast]; done) | (refine id ?_; simp only [push_cast]; omega)) only [push_cast, Nat.reduceAdd, Nat.reduceMul, Nat.reduceSub, Nat.reduceLT, Nat.reduceEqDiff, Nat.reduceLeDiff, Int.reduceToNat, reduceCtorEq, Int.reduceLT, Int.reduceLE, Int.reduceAdd, Int.reduceSub, Int.reduceMul, Int.reduceNeg, Int.reduceEq]))
  · rw [if_pos (by omega)]; exact ⟨rfl, by (repeat (first | exact Gr.refl _ | assumption | (refine Grew.put' ?_ _ _ (by first | omega | (simp only [push_cast]; omega))) | (refine Grew.add' ?_ _)))⟩
  · rw [if_neg (by omega)]; exact ⟨by simp only [firstV, List.take_length]; rfl, by (repeat (first | exact Gr.refl _ | assumption | (refine Grew.put' ?_ _ _ (by first | omega | (simp only [push_cast]; omega))) | (refine Grew.add' ?_ _)))⟩

theorem number_w (l : B) : CallE (pp G) 36 [.string (Tx l)] h (fun v h' => v = firstV l (oneNumber l) ∧ Gr h h') := by
  refine CallE.fir4 (good G) fir36 rfl rfl (F21_arr ..) fun hlo => ?_
  rw [sh_ir36]
  unfold oneNumber
  simp (disch := first | omega | (refine id ?_; simp only [push_cast]; done) | (refine id ?_; simp only [push_cast]; omega)) only [push_cast, Nat.reduceAdd, Nat.reduceMul, Nat.reduceSub, Nat.reduceLT, Nat.reduceEqDiff, Nat.reduceLeDiff, Int.reduceToNat, reduceCtorEq, Int.reduceLT, Int.reduceLE, Int.reduceAdd, Int.reduceSub, Int.reduceMul, Int.reduceNeg, Int.reduceEq]
  (refine vcond_d (fun hc => ?_) (fun hc => ?_)) <;> (try (simp (disch := first | omega | (refine id ?_; simp only [push_cast]; done) | (refine id ?_; simp only [push_cast]; omega)) only [push_cast, Nat.reduceAdd, Nat.reduceMul, Nat.reduceSub, Nat.reduceLT, Nat.reduceEqDiff, Nat.reduceLeDiff, Int.reduceToNat, reduceCtorEq, Int.reduceLT, Int.reduceLE, Int.reduceAdd, Int.reduceSub, Int.reduceMul, Int.reduceNeg, Int.reduceEq]))
  · rw [if_pos (by omega)]; exact ⟨rfl, by (repeat (first | exact Gr.refl _ | assumption | (refine Grew.put' ?_ _ _ (by first | omega | (simp only [push_cast]; omega))) | (refine Grew.add' ?_ _)))⟩
  · rw [if_neg (by omega)]
    by_cases h1 : 1 < (l.length : Int)
    · simp (disch := first | omega | (refine id ?_; simp only [push_cast]; done) | (refine id ?_; simp only [push_cast]; omega)) only [push_cast, Nat.reduceAdd, Nat.reduceMul, Nat.reduceSub, Nat.reduceLT, Nat.reduceEqDiff, Nat.reduceLeDiff, Int.reduceToNat, reduceCtorEq, Int.reduceLT, Int.reduceLE, Int.reduceAdd, Int.reduceSub, Int.reduceMul, Int.reduceNeg, Int.reduceEq, h1]
      by_cases h2 : bt l 0 = 48
      · simp (disch := first | omega | (refine id ?_; simp only [push_cast]; done) | (refine id ?_; simp only [push_cast]; omega)) only [push_cast, Nat.reduceAdd, Nat.reduceMul, Nat.reduceSub, Nat.reduceLT, Nat.reduceEqDiff, Nat.reduceLeDiff, Int.reduceToNat, reduceCtorEq, Int.reduceLT, Int.reduceLE, Int.reduceAdd, Int.reduceSub, Int.reduceMul, Int.reduceNeg, Int.reduceEq, h2]
        rw [if_pos ⟨by omega, by unfold bt at h2; omega⟩]; exact ⟨rfl, by (repeat (first | exact Gr.refl _ | assumption | (refine Grew.put' ?_ _ _ (by first | omega | (simp only [push_cast]; omega))) | (refine Grew.add' ?_ _)))⟩
      · simp (disch := first | omega | (refine id ?_; simp only [push_cast]; done) | (refine id ?_; simp only [push_cast]; omega)) only [push_cast, Nat.reduceAdd, Nat.reduceMul, Nat.reduceSub, Nat.reduceLT, Nat.reduceEqDiff, Nat.reduceLeDiff, Int.reduceToNat, reduceCtorEq, Int.reduceLT, Int.reduceLE, Int.reduceAdd, Int.reduceSub, Int.reduceMul, Int.reduceNeg, Int.reduceEq, h2]
        rw [if_neg (by unfold bt at h2; omega)]; exact ⟨by simp only [firstV, List.take_length]; rfl, by (repeat (first | exact Gr.refl _ | assumption | (refine Grew.put' ?_ _ _ (by first | omega | (simp only [push_cast]; omega))) | (refine Grew.add' ?_ _)))⟩
    · simp (disch := first | omega | (refine id ?_; simp only [push_cast]; done) | (refine id ?_; simp only [push_cast]; omega)) only [push_cast, Nat.reduceAdd, Nat.reduceMul, Nat.reduceSub, Nat.reduceLT, Nat.reduceEqDiff, Nat.reduceLeDiff, Int.reduceToNat, reduceCtorEq, Int.reduceLT, Int.reduceLE, Int.reduceAdd, Int.reduceSub, Int.reduceMul, Int.reduceNeg, Int.reduceEq, h1]
      rw [if_neg (by omega)]; exact ⟨by simp only [firstV, List.take_length]; rfl, by (repeat (first | exact Gr.refl _ | assumption | (refine Grew.put' ?_ _ _ (by first | omega | (simp only [push_cast]; omega))) | (refine Grew.add' ?_ _)))⟩

/-- the native function -/
theorem index_run (s : ByteArray) (c : Int) (w : World) :
    (callFunc 39 #[.string s, .int .u8 c]).run Try.prog w = .ok (.value (.int .i64 (Lib.indexByte s.data.toList c.toNat.toUInt8))) w := by
  have hf : Try.prog.funcs[39]? = some Try.f39 := rfl
  have hname0 : (Try.f39.name == "runtime.NumGoroutine") = false := by kernel_rfl
  have hname : ¬ Try.f39.name = "runtime.NumGoroutine" := by simpa using hname0
  have hb : Try.f39.body = none := by kernel_rfl
  have hn : Extern.findNext Try.f39 = none := by kernel_rfl
  have he : Extern.find Try.f39 = some Extern.BytealgIndexByte.indexByte := by kernel_rfl
  have hr := Lib.run_indexByteString (P := Try.prog) s c w
  simp [callFunc, hf, hname, hb, hn, he, hr]
theorem index_n (l : B) (c : Int) {k : Value → Heap → Prop} (hk : k (.int .i64 (Lib.indexByte l c.toNat.toUInt8)) h) : CallW (pp G) 39 [.string (Tx l), .int .u8 c] h k := by
  intro Γ w hr hsc o F hF n a K Q hK
  have e : (⟨[Value.string (Tx l), .int .u8 c].map (con Γ)⟩ : Array Value) = #[.string (Tx l), .int .u8 c] := rfl
  rw [e, index_run]
  exact hK _ h Γ w hk (Ag.refl _ _) (Nat.le_refl _) (Below.refl _ _) hr rfl
theorem index33_w (l : B) (c : Int) : CallE (pp G) 33 [.string (Tx l), .int .u8 c] h (fun v h' => v = .int .i64 (Lib.indexByte l c.toNat.toUInt8) ∧ h' = h) := by
  refine CallE.fir4 (good G) fir33 rfl rfl (F8_arr ..) fun hlo => ?_
  rw [sh_ir33]
  simp (disch := first | omega | (refine id ?_; simp only [push_cast]; done) | (refine id ?_; simp only [push_cast]; omega)) only [push_cast, Nat.reduceAdd, Nat.reduceMul, Nat.reduceSub, Nat.reduceLT, Nat.reduceEqDiff, Nat.reduceLeDiff, Int.reduceToNat, reduceCtorEq, Int.reduceLT, Int.reduceLE, Int.reduceAdd, Int.reduceSub, Int.reduceMul, Int.reduceNeg, Int.reduceEq]
  refine index_n G _ _ _ ?_
  simp (disch := first | omega | (refine id ?_; simp only [push_cast]; done) | (refine id ?_; simp only [push_cast]; omega)) only [push_cast, Nat.reduceAdd, Nat.reduceMul, Nat.reduceSub, Nat.reduceLT, Nat.reduceEqDiff, Nat.reduceLeDiff, Int.reduceToNat, reduceCtorEq, Int.reduceLT, Int.reduceLE, Int.reduceAdd, Int.reduceSub, Int.reduceMul, Int.reduceNeg, Int.reduceEq]
theorem index_w (l : B) (c : Int) : CallE (pp G) 25 [.string (Tx l), .int .u8 c] h (fun v h' => v = .int .i64 (Lib.indexByte l c.toNat.toUInt8) ∧ h' = h) := by
  refine CallE.fir4 (good G) fir25 rfl rfl (F8_arr ..) fun hlo => ?_
  rw [sh_ir25]
  simp (disch := first | omega | (refine id ?_; simp only [push_cast]; done) | (refine id ?_; simp only [push_cast]; omega)) only [push_cast, Nat.reduceAdd, Nat.reduceMul, Nat.reduceSub, Nat.reduceLT, Nat.reduceEqDiff, Nat.reduceLeDiff, Int.reduceToNat, reduceCtorEq, Int.reduceLT, Int.reduceLE, Int.reduceAdd, Int.reduceSub, Int.reduceMul, Int.reduceNeg, Int.reduceEq]
  refine CallE.to (index33_w G _ _ _) ?_; rintro _ _ ⟨rfl, rfl⟩
  simp (disch := first | omega | (refine id ?_; simp only [push_cast]; done) | (refine id ?_; simp only [push_cast]; omega)) only [push_cast, Nat.reduceAdd, Nat.reduceMul, Nat.reduceSub, Nat.reduceLT, Nat.reduceEqDiff, Nat.reduceLeDiff, Int.reduceToNat, reduceCtorEq, Int.reduceLT, Int.reduceLE, Int.reduceAdd, Int.reduceSub, Int.reduceMul, Int.reduceNeg, Int.reduceEq]

theorem index_neg (c : UInt8) : ∀ l : B, Lib.indexByte l c = -1 ↔ c ∉ l
  | [] => by simp [Lib.indexByte]
  | b :: l => by
    have ih := index_neg c l
    have hge := Lib.indexByte_ge l c
    simp only [Lib.indexByte]
    by_cases h : b = c
    · subst h; simp
    · have h' : ¬ c = b := fun e => h e.symm
      have hb : (b == c) = false := by simpa using h
      simp only [hb, Bool.false_eq_true, if_false, List.mem_cons, h', false_or]
      by_cases h2 : Lib.indexByte l c = -1
      · simp only [h2, beq_self_eq_true, if_true, true_iff]; exact ih.1 h2
      · have hb2 : (Lib.indexByte l c == -1) = false := by simpa using h2
        simp only [hb2, Bool.false_eq_true, if_false]
        constructor
        · intro h3; omega
        · intro h3; exact absurd (ih.2 h3) h2
theorem bt_u8 (l : B) (i : Nat) : (bt l i).toNat.toUInt8 = l.getD i 0 := by
  show (((l.getD i 0).toNat : Int).toNat).toUInt8 = _
  rw [Int.toNat_natCast]
  exact UInt8.ofNat_toNat
theorem getD_take {l : B} {n i : Nat} (h : i < n) : (l.take n).getD i 0 = l.getD i 0 := by
  simp only [List.getD_eq_getElem?_getD, List.getElem?_take, if_pos h]

theorem mark_w (l : B) (hl : 0 < l.length) : CallE (pp G) 37 [.string (Tx l)] h (fun v h' => v = firstV l (oneMark l) ∧ Gr h h') := by
  refine CallE.fir4 (good G) fir37 rfl rfl (F29_arr ..) fun hlo => ?_
  rw [sh_ir37]
  unfold oneMark
  have fin (hd : ¬ (1 < l.length ∧ l.take 2 ∈ doubles)) : (markN l = 0 ↔ Lib.indexByte singles (l.getD 0 0) < 0) ∧ (¬ markN l = 0 → markN l = 1) := by
    have hge := Lib.indexByte_ge singles (l.getD 0 0)
    have hi := index_neg (l.getD 0 0) singles
    unfold markN
    rw [if_neg hd]
    by_cases h1 : l.getD 0 0 ∈ singles
    · rw [if_pos h1]
      refine ⟨⟨fun h => by omega, fun h => ?_⟩, fun _ => rfl⟩
      exact absurd h1 (hi.1 (by omega))
    · rw [if_neg h1]
      exact ⟨⟨fun _ => by rw [hi.2 h1]; omega, fun _ => rfl⟩, fun h => absurd rfl h⟩
  by_cases h1 : 1 < (l.length : Int)
  · by_cases hd : l.take 2 ∈ doubles
    · have hm : markN l = 2 := by unfold markN; rw [if_pos ⟨by omega, hd⟩]
      rw [hm]
      simp only [doubles, List.mem_cons, List.not_mem_nil, or_false] at hd
      rcases hd with e | e | e | e | e | e | e | e <;>
      · simp +decide (disch := first | omega | (refine id ?_; simp only [push_cast]; done) | (refine id ?_; simp only [push_cast]; omega)) only [push_cast, Nat.reduceAdd, Nat.reduceMul, Nat.reduceSub, Nat.reduceLT, Nat.reduceEqDiff, Nat.reduceLeDiff, Int.reduceToNat, reduceCtorEq, Int.reduceLT, Int.reduceLE, Int.reduceAdd, Int.reduceSub, Int.reduceMul, Int.reduceNeg, Int.reduceEq, h1, e]
        exact ⟨by simp only [firstV, e]; rfl, by (repeat (first | exact Gr.refl _ | assumption | (refine Grew.put' ?_ _ _ (by first | omega | (simp only [push_cast]; omega))) | (refine Grew.add' ?_ _)))⟩
    · have hd' := hd
      simp only [doubles, List.mem_cons, List.not_mem_nil, or_false, not_or] at hd'
      obtain ⟨e1, e2, e3, e4, e5, e6, e7, e8⟩ := hd'
      obtain ⟨f1, f2⟩ := fin (fun h => hd h.2)
      simp (disch := first | omega | (refine id ?_; simp only [push_cast]; done) | (refine id ?_; simp only [push_cast]; omega)) only [push_cast, Nat.reduceAdd, Nat.reduceMul, Nat.reduceSub, Nat.reduceLT, Nat.reduceEqDiff, Nat.reduceLeDiff, Int.reduceToNat, reduceCtorEq, Int.reduceLT, Int.reduceLE, Int.reduceAdd, Int.reduceSub, Int.reduceMul, Int.reduceNeg, Int.reduceEq, h1, e1, e2, e3, e4, e5, e6, e7, e8]
      refine CallE.to (index_w G _ _ _) ?_; rintro _ _ ⟨rfl, rfl⟩
      simp (disch := first | omega | (refine id ?_; simp only [push_cast]; done) | (refine id ?_; simp only [push_cast]; omega)) only [push_cast, Nat.reduceAdd, Nat.reduceMul, Nat.reduceSub, Nat.reduceLT, Nat.reduceEqDiff, Nat.reduceLeDiff, Int.reduceToNat, reduceCtorEq, Int.reduceLT, Int.reduceLE, Int.reduceAdd, Int.reduceSub, Int.reduceMul, Int.reduceNeg, Int.reduceEq, bt_u8]
      (refine vcond_d (fun hc => ?_) (fun hc => ?_)) <;> (try (simp (disch := first | omega | (refine id ?_; simp only [push_cast]; done) | (refine id ?_; simp only [push_cast]; omega)) only [push_cast, Nat.reduceAdd, Nat.reduceMul, Nat.reduceSub, Nat.reduceLT, Nat.reduceEqDiff, Nat.reduceLeDiff, Int.reduceToNat, reduceCtorEq, Int.reduceLT, Int.reduceLE, Int.reduceAdd, Int.reduceSub, Int.reduceMul, Int.reduceNeg, Int.reduceEq]))
      · rw [if_pos (f1.2 hc)]; exact ⟨rfl, by (repeat (first | exact Gr.refl _ | assumption | (refine Grew.put' ?_ _ _ (by first | omega | (simp only [push_cast]; omega))) | (refine Grew.add' ?_ _)))⟩
      · have hm : ¬ markN l = 0 := fun e => hc (f1.1 e)
        rw [if_neg hm, f2 hm]; exact ⟨rfl, by (repeat (first | exact Gr.refl _ | assumption | (refine Grew.put' ?_ _ _ (by first | omega | (simp only [push_cast]; omega))) | (refine Grew.add' ?_ _)))⟩
  · obtain ⟨f1, f2⟩ := fin (fun h => by omega)
    simp (disch := first | omega | (refine id ?_; simp only [push_cast]; done) | (refine id ?_; simp only [push_cast]; omega)) only [push_cast, Nat.reduceAdd, Nat.reduceMul, Nat.reduceSub, Nat.reduceLT, Nat.reduceEqDiff, Nat.reduceLeDiff, Int.reduceToNat, reduceCtorEq, Int.reduceLT, Int.reduceLE, Int.reduceAdd, Int.reduceSub, Int.reduceMul, Int.reduceNeg, Int.reduceEq, h1]
    refine CallE.to (index_w G _ _ _) ?_; rintro _ _ ⟨rfl, rfl⟩
    simp (disch := first | omega | (refine id ?_; simp only [push_cast]; done) | (refine id ?_; simp only [push_cast]; omega)) only [push_cast, Nat.reduceAdd, Nat.reduceMul, Nat.reduceSub, Nat.reduceLT, Nat.reduceEqDiff, Nat.reduceLeDiff, Int.reduceToNat, reduceCtorEq, Int.reduceLT, Int.reduceLE, Int.reduceAdd, Int.reduceSub, Int.reduceMul, Int.reduceNeg, Int.reduceEq, bt_u8]
    (refine vcond_d (fun hc => ?_) (fun hc => ?_)) <;> (try (simp (disch := first | omega | (refine id ?_; simp only [push_cast]; done) | (refine id ?_; simp only [push_cast]; omega)) only [push_cast, Nat.reduceAdd, Nat.reduceMul, Nat.reduceSub, Nat.reduceLT, Nat.reduceEqDiff, Nat.reduceLeDiff, Int.reduceToNat, reduceCtorEq, Int.reduceLT, Int.reduceLE, Int.reduceAdd, Int.reduceSub, Int.reduceMul, Int.reduceNeg, Int.reduceEq]))
    · rw [if_pos (f1.2 hc)]; exact ⟨rfl, by (repeat (first | exact Gr.refl _ | assumption | (refine Grew.put' ?_ _ _ (by first | omega | (simp only [push_cast]; omega))) | (refine Grew.add' ?_ _)))⟩
    · have hm : ¬ markN l = 0 := fun e => hc (f1.1 e)
      rw [if_neg hm, f2 hm]; exact ⟨rfl, by (repeat (first | exact Gr.refl _ | assumption | (refine Grew.put' ?_ _ _ (by first | omega | (simp only [push_cast]; omega))) | (refine Grew.add' ?_ _)))⟩

theorem firstV_take {l : B} {n : Nat} (hn : n ≤ l.length) (k : Nat) : firstV (l.take n) (.ok k n) = firstV l (.ok k n) := by simp only [firstV, List.take_take, Nat.min_self]

theorem first_w (l : B) (hl : 0 < l.length) : CallE (pp G) 26 [.string (Tx l)] h (fun v h' => v = firstV l (Lx.one l) ∧ Gr h h') := by
  refine CallE.fir4 (good G) fir26 rfl rfl (F32_arr ..) fun hlo => ?_
  rw [sh_ir26]
  unfold Lx.one
  have hw : IntKind.i32.wrap (bt l 0) = bt l 0 := by
    have : (l.getD 0 0).toNat < 256 := UInt8.toNat_lt _
    exact IntWalk.i32_in _ (by unfold bt; omega)
  simp (disch := first | omega | (refine id ?_; simp only [push_cast]; done) | (refine id ?_; simp only [push_cast]; omega)) only [push_cast, Nat.reduceAdd, Nat.reduceMul, Nat.reduceSub, Nat.reduceLT, Nat.reduceEqDiff, Nat.reduceLeDiff, Int.reduceToNat, reduceCtorEq, Int.reduceLT, Int.reduceLE, Int.reduceAdd, Int.reduceSub, Int.reduceMul, Int.reduceNeg, Int.reduceEq, hw]
  refine CallE.to (small_w G _ _) ?_; rintro _ _ ⟨rfl, rfl⟩
  rw [hw, kind_small.eq]
  cases h1 : small (l.getD 0 0) with
  | true =>
    simp (disch := first | omega | (refine id ?_; simp only [push_cast]; done) | (refine id ?_; simp only [push_cast]; omega)) only [push_cast, Nat.reduceAdd, Nat.reduceMul, Nat.reduceSub, Nat.reduceLT, Nat.reduceEqDiff, Nat.reduceLeDiff, Int.reduceToNat, reduceCtorEq, Int.reduceLT, Int.reduceLE, Int.reduceAdd, Int.reduceSub, Int.reduceMul, Int.reduceNeg, Int.reduceEq]
    refine CallE.to (front_w G _ l 31 kind_wordy (fun r h => wordy_w G h r)) ?_
    rintro _ h1 ⟨rfl, hg1⟩
    have hf := front_le wordy l
    have hn1 := hg1.next
    rw [next_add] at hn1
    simp (disch := first | omega | (refine id ?_; simp only [push_cast]; done) | (refine id ?_; simp only [push_cast]; omega)) only [push_cast, Nat.reduceAdd, Nat.reduceMul, Nat.reduceSub, Nat.reduceLT, Nat.reduceEqDiff, Nat.reduceLeDiff, Int.reduceToNat, reduceCtorEq, Int.reduceLT, Int.reduceLE, Int.reduceAdd, Int.reduceSub, Int.reduceMul, Int.reduceNeg, Int.reduceEq]
    refine CallE.to (word_w G _ _) ?_
    rintro _ h2 ⟨rfl, hg2⟩
    have hlen : (l.take (front wordy l)).length = front wordy l := by rw [List.length_take]; omega
    have hn2 := hg2.next
    have hlo2 : h2.lo = h.lo := by rw [hg2.lo, hg1.lo, lo_add]
    have hc2 : cells h2 h.next = some ([.int .i64 0, .string (Tx []), .int .i64 0], 39, false) := Gr.cells hg2 (Gr.cells hg1 (cells_add_s _ _ _ _ rfl) (by rw [next_add]; omega)) (by omega)
    have hgr : Gr h h2 := (Grew.tr (Grew.tr ((Gr.refl h).add' _) hg1) hg2)
    simp only [Int.toNat_natCast, oneWord, hlen]
    by_cases hb : 20 < front wordy l
    · simp only [if_pos hb, firstV]
      simp (disch := first | omega | (refine id ?_; simp only [push_cast]; done) | (refine id ?_; simp only [push_cast]; omega)) only [push_cast, Nat.reduceAdd, Nat.reduceMul, Nat.reduceSub, Nat.reduceLT, Nat.reduceEqDiff, Nat.reduceLeDiff, Int.reduceToNat, reduceCtorEq, Int.reduceLT, Int.reduceLE, Int.reduceAdd, Int.reduceSub, Int.reduceMul, Int.reduceNeg, Int.reduceEq, hc2, hlo2]
      exact ⟨by rw [if_pos hb]; simp only [firstV, List.take_take, Nat.min_self]; try rfl, by (repeat (first | exact Gr.refl _ | assumption | (refine Grew.put' ?_ _ _ (by first | omega | (simp only [push_cast]; omega))) | (refine Grew.add' ?_ _)))⟩
    · simp only [if_neg hb, firstV]
      simp (disch := first | omega | (refine id ?_; simp only [push_cast]; done) | (refine id ?_; simp only [push_cast]; omega)) only [push_cast, Nat.reduceAdd, Nat.reduceMul, Nat.reduceSub, Nat.reduceLT, Nat.reduceEqDiff, Nat.reduceLeDiff, Int.reduceToNat, reduceCtorEq, Int.reduceLT, Int.reduceLE, Int.reduceAdd, Int.reduceSub, Int.reduceMul, Int.reduceNeg, Int.reduceEq, hc2, hlo2]
      exact ⟨by rw [if_neg hb]; simp only [firstV, List.take_take, Nat.min_self]; try rfl, by (repeat (first | exact Gr.refl _ | assumption | (refine Grew.put' ?_ _ _ (by first | omega | (simp only [push_cast]; omega))) | (refine Grew.add' ?_ _)))⟩
  | false =>
    simp (disch := first | omega | (refine id ?_; simp only [push_cast]; done) | (refine id ?_; simp only [push_cast]; omega)) only [push_cast, Nat.reduceAdd, Nat.reduceMul, Nat.reduceSub, Nat.reduceLT, Nat.reduceEqDiff, Nat.reduceLeDiff, Int.reduceToNat, reduceCtorEq, Int.reduceLT, Int.reduceLE, Int.reduceAdd, Int.reduceSub, Int.reduceMul, Int.reduceNeg, Int.reduceEq]
    refine CallE.to (digit_w G _ _) ?_; rintro _ _ ⟨rfl, rfl⟩
    rw [kind_digit.eq]
    cases h2 : digit (l.getD 0 0) with
    | true =>
      simp (disch := first | omega | (refine id ?_; simp only [push_cast]; done) | (refine id ?_; simp only [push_cast]; omega)) only [push_cast, Nat.reduceAdd, Nat.reduceMul, Nat.reduceSub, Nat.reduceLT, Nat.reduceEqDiff, Nat.reduceLeDiff, Int.reduceToNat, reduceCtorEq, Int.reduceLT, Int.reduceLE, Int.reduceAdd, Int.reduceSub, Int.reduceMul, Int.reduceNeg, Int.reduceEq]
      refine CallE.to (front_w G _ l 35 kind_digit (fun r h => digit_w G h r)) ?_
      rintro _ h1 ⟨rfl, hg1⟩
      have hf := front_le digit l
      have hn1 := hg1.next
      rw [next_add] at hn1
      simp (disch := first | omega | (refine id ?_; simp only [push_cast]; done) | (refine id ?_; simp only [push_cast]; omega)) only [push_cast, Nat.reduceAdd, Nat.reduceMul, Nat.reduceSub, Nat.reduceLT, Nat.reduceEqDiff, Nat.reduceLeDiff, Int.reduceToNat, reduceCtorEq, Int.reduceLT, Int.reduceLE, Int.reduceAdd, Int.reduceSub, Int.reduceMul, Int.reduceNeg, Int.reduceEq]
      refine CallE.to (number_w G _ _) ?_
      rintro _ h2 ⟨rfl, hg2⟩
      have hlen : (l.take (front digit l)).length = front digit l := by rw [List.length_take]; omega
      have hn2 := hg2.next
      have hlo2 : h2.lo = h.lo := by rw [hg2.lo, hg1.lo, lo_add]
      have hc2 : cells h2 h.next = some ([.int .i64 0, .string (Tx []), .int .i64 0], 39, false) := Gr.cells hg2 (Gr.cells hg1 (cells_add_s _ _ _ _ rfl) (by rw [next_add]; omega)) (by omega)
      have hgr : Gr h h2 := (Grew.tr (Grew.tr ((Gr.refl h).add' _) hg1) hg2)
      simp only [Int.toNat_natCast, oneNumber, hlen]
      by_cases hb : 18 < front digit l
      · simp only [if_pos hb, firstV]
        simp (disch := first | omega | (refine id ?_; simp only [push_cast]; done) | (refine id ?_; simp only [push_cast]; omega)) only [push_cast, Nat.reduceAdd, Nat.reduceMul, Nat.reduceSub, Nat.reduceLT, Nat.reduceEqDiff, Nat.reduceLeDiff, Int.reduceToNat, reduceCtorEq, Int.reduceLT, Int.reduceLE, Int.reduceAdd, Int.reduceSub, Int.reduceMul, Int.reduceNeg, Int.reduceEq, hc2, hlo2]
        exact ⟨by rw [if_pos hb]; simp only [firstV, List.take_take, Nat.min_self]; try rfl, by (repeat (first | exact Gr.refl _ | assumption | (refine Grew.put' ?_ _ _ (by first | omega | (simp only [push_cast]; omega))) | (refine Grew.add' ?_ _)))⟩
      · simp only [if_neg hb]
        by_cases hb2 : 1 < front digit l ∧ (l.getD 0 0).toNat = 48
        · have hb3 : 1 < front digit l ∧ ((l.take (front digit l)).getD 0 0).toNat = 48 := by rw [getD_take (by omega)]; exact hb2
          simp only [if_pos hb2, if_pos hb3, firstV]
          simp (disch := first | omega | (refine id ?_; simp only [push_cast]; done) | (refine id ?_; simp only [push_cast]; omega)) only [push_cast, Nat.reduceAdd, Nat.reduceMul, Nat.reduceSub, Nat.reduceLT, Nat.reduceEqDiff, Nat.reduceLeDiff, Int.reduceToNat, reduceCtorEq, Int.reduceLT, Int.reduceLE, Int.reduceAdd, Int.reduceSub, Int.reduceMul, Int.reduceNeg, Int.reduceEq, hc2, hlo2]
          exact ⟨by rw [if_neg hb, if_pos hb2]; simp only [firstV, List.take_take, Nat.min_self]; try rfl, by (repeat (first | exact Gr.refl _ | assumption | (refine Grew.put' ?_ _ _ (by first | omega | (simp only [push_cast]; omega))) | (refine Grew.add' ?_ _)))⟩
        · have hb3 : ¬ (1 < front digit l ∧ ((l.take (front digit l)).getD 0 0).toNat = 48) := fun hh => hb2 ⟨hh.1, by rw [getD_take (by omega)] at hh; exact hh.2⟩
          simp only [if_neg hb2, if_neg hb3, firstV]
          simp (disch := first | omega | (refine id ?_; simp only [push_cast]; done) | (refine id ?_; simp only [push_cast]; omega)) only [push_cast, Nat.reduceAdd, Nat.reduceMul, Nat.reduceSub, Nat.reduceLT, Nat.reduceEqDiff, Nat.reduceLeDiff, Int.reduceToNat, reduceCtorEq, Int.reduceLT, Int.reduceLE, Int.reduceAdd, Int.reduceSub, Int.reduceMul, Int.reduceNeg, Int.reduceEq, hc2, hlo2]
          exact ⟨by rw [if_neg hb, if_neg hb2]; simp only [firstV, List.take_take, Nat.min_self]; try rfl, by (repeat (first | exact Gr.refl _ | assumption | (refine Grew.put' ?_ _ _ (by first | omega | (simp only [push_cast]; omega))) | (refine Grew.add' ?_ _)))⟩
    | false =>
      simp (disch := first | omega | (refine id ?_; simp only [push_cast]; done) | (refine id ?_; simp only [push_cast]; omega)) only [push_cast, Nat.reduceAdd, Nat.reduceMul, Nat.reduceSub, Nat.reduceLT, Nat.reduceEqDiff, Nat.reduceLeDiff, Int.reduceToNat, reduceCtorEq, Int.reduceLT, Int.reduceLE, Int.reduceAdd, Int.reduceSub, Int.reduceMul, Int.reduceNeg, Int.reduceEq]
      refine CallE.to (mark_w G _ l hl) ?_
      rintro _ h2 ⟨rfl, hg2⟩
      have hn2 := hg2.next
      rw [next_add] at hn2
      have hlo2 : h2.lo = h.lo := by rw [hg2.lo, lo_add]
      have hc2 : cells h2 h.next = some ([.int .i64 0, .string (Tx []), .int .i64 0], 39, false) := Gr.cells hg2 (cells_add_s _ _ _ _ rfl) (by rw [next_add]; omega)
      have hgr : Gr h h2 := (Grew.tr ((Gr.refl h).add' _) hg2)
      unfold oneMark
      by_cases hb : markN l = 0
      · simp only [if_pos hb, firstV]
        simp (disch := first | omega | (refine id ?_; simp only [push_cast]; done) | (refine id ?_; simp only [push_cast]; omega)) only [push_cast, Nat.reduceAdd, Nat.reduceMul, Nat.reduceSub, Nat.reduceLT, Nat.reduceEqDiff, Nat.reduceLeDiff, Int.reduceToNat, reduceCtorEq, Int.reduceLT, Int.reduceLE, Int.reduceAdd, Int.reduceSub, Int.reduceMul, Int.reduceNeg, Int.reduceEq, hc2, hlo2]
        exact ⟨by rw [if_pos hb]; simp only [firstV, List.take_take, Nat.min_self]; try rfl, by (repeat (first | exact Gr.refl _ | assumption | (refine Grew.put' ?_ _ _ (by first | omega | (simp only [push_cast]; omega))) | (refine Grew.add' ?_ _)))⟩
      · simp only [if_neg hb, firstV]
        simp (disch := first | omega | (refine id ?_; simp only [push_cast]; done) | (refine id ?_; simp only [push_cast]; omega)) only [push_cast, Nat.reduceAdd, Nat.reduceMul, Nat.reduceSub, Nat.reduceLT, Nat.reduceEqDiff, Nat.reduceLeDiff, Int.reduceToNat, reduceCtorEq, Int.reduceLT, Int.reduceLE, Int.reduceAdd, Int.reduceSub, Int.reduceMul, Int.reduceNeg, Int.reduceEq, hc2, hlo2]
        exact ⟨by rw [if_neg hb]; simp only [firstV, List.take_take, Nat.min_self]; try rfl, by (repeat (first | exact Gr.refl _ | assumption | (refine Grew.put' ?_ _ _ (by first | omega | (simp only [push_cast]; omega))) | (refine Grew.add' ?_ _)))⟩
end
end Go.Proofs.Ythjcdbbomfmphaa

namespace Go.Proofs.Ythjcdbbomfmphaa
open Go.RowKit Go.Ev Go.Lx
noncomputable section
set_option linter.unusedSimpArgs false
set_option linter.unusedVariables false
variable (G : Nat) (h : Heap)

/-- how far a rune goes -/
theorem dec_width {L : B} {pos : Nat} (hp : pos < L.length) : ∀ k, 1 ≤ k → k < (Utf8.decode (Tx L) pos).2 → pos + k < L.length ∧ 128 ≤ (L.getD (pos + k) 0).toNat := by
  have get : ∀ k, pos + k < L.length → ((Tx L).get! (pos + k)) = L.getD (pos + k) 0 := fun k hk => by
    show (Tx L).data[pos + k]! = _
    simp [List.getD_eq_getElem?_getD, List.getElem?_eq_getElem hk, getElem!_pos, hk]
  have cont : ∀ k, (pos + k < (Tx L).size ∧ ((Tx L).get! (pos + k)).toNat / 64 = 2) → pos + k < L.length ∧ 128 ≤ (L.getD (pos + k) 0).toNat := fun k hk => by
    have h1 : pos + k < L.length := hk.1
    rw [get k h1] at hk
    exact ⟨h1, by omega⟩
  intro k h1 hk
  unfold Utf8.decode at hk
  dsimp only at hk
  split at hk
  · dsimp only at hk; omega
  · split at hk
    · rename_i hc
      simp only [Bool.and_eq_true, decide_eq_true_eq, beq_iff_eq] at hc
      have := cont 1 hc.2
      split at hk
      · dsimp only at hk
        have : k = 1 := by omega
        subst this; assumption
      · dsimp only at hk; omega
    · split at hk
      · rename_i hc
        simp only [Bool.and_eq_true, decide_eq_true_eq, beq_iff_eq] at hc
        have c1 := cont 1 hc.1.2
        have c2 := cont 2 hc.2
        split at hk
        · dsimp only at hk
          rcases (show k = 1 ∨ k = 2 by omega) with rfl | rfl
          · exact c1
          · exact c2
        · dsimp only at hk; omega
      · split at hk
        · rename_i hc
          simp only [Bool.and_eq_true, decide_eq_true_eq, beq_iff_eq] at hc
          have c1 := cont 1 hc.1.1.2
          have c2 := cont 2 hc.1.2
          have c3 := cont 3 hc.2
          split at hk
          · dsimp only at hk
            rcases (show k = 1 ∨ k = 2 ∨ k = 3 by omega) with rfl | rfl | rfl
            · exact c1
            · exact c2
            · exact c3
          · dsimp only at hk; omega
        · dsimp only at hk; omega
theorem dec_pos {L : B} {pos : Nat} (hp : pos < L.length) : 1 ≤ (Utf8.decode (Tx L) pos).2 := by
  rcases Nat.lt_or_ge (L.getD pos 0).toNat 128 with h1 | h1
  · rw [dec_lo hp h1]; exact Nat.le_refl _
  · exact (dec_hi hp h1).2
theorem dec_end {L : B} {pos : Nat} (hp : pos < L.length) : pos + (Utf8.decode (Tx L) pos).2 ≤ L.length := by
  have h1 := dec_pos hp
  rcases Nat.lt_or_ge 1 (Utf8.decode (Tx L) pos).2 with h2 | h2
  · have := (dec_width hp ((Utf8.decode (Tx L) pos).2 - 1) (by omega) (by omega)).1
    omega
  · omega

/-- the cells of signs -/
def sgC : List Sgn → List Value
  | [] => []
  | x :: l => .int .i64 x.k :: .string (Tx x.t) :: .int .i64 x.at_ :: sgC l
theorem sgC_app : ∀ a b, sgC (a ++ b) = sgC a ++ sgC b
  | [], b => rfl
  | x :: a, b => by simp only [List.cons_append, sgC, sgC_app a b]
theorem sgC_len : ∀ a, (sgC a).length = a.length * 3
  | [] => rfl
  | x :: a => by simp only [sgC, List.length_cons, sgC_len a]; omega

def SignsPost (h : Heap) (r : Res) (v : Value) (h' : Heap) : Prop := Gr h h' ∧ match r with
  | .bad p e => v = .tuple #[.slice none 0 0, .int .i64 p, .int .i64 e]
  | .ok l => ∃ a c, v = .tuple #[.slice a l.length c, .int .i64 0, .int .i64 0] ∧ Own h' 39 3 a l.length c (sgC l) ∧ ∀ b, blk a b → h.next ≤ b

theorem sg_at {L : B} {p : Nat} (hp : p < L.length) : L.drop p = L.getD p 0 :: L.drop (p + 1) := by
  rw [List.drop_eq_getElem_cons hp, List.getD_eq_getElem?_getD, List.getElem?_eq_getElem hp]; rfl

theorem index_front : ∀ l : B, (Lib.indexByte l 10 = -1 ∧ front notNl l = l.length) ∨ (Lib.indexByte l 10 = (front notNl l : Int) ∧ front notNl l < l.length ∧ (l.getD (front notNl l) 0).toNat = 10)
  | [] => .inl ⟨rfl, rfl⟩
  | c :: l => by
    have ih := index_front l
    have hge := Lib.indexByte_ge l 10
    simp only [Lib.indexByte, front_cons]
    by_cases hc : c = 10
    · subst hc; right; simp [notNl]
    · have hb : (c == 10) = false := by simpa using hc
      have hn : notNl c = true := by
        unfold notNl
        simp only [ne_eq, decide_eq_true_eq]
        intro e; exact hc (UInt8.toNat_inj.1 e)
      simp only [hb, hn, Bool.false_eq_true, if_false, if_true, List.length_cons]
      rcases ih with ⟨h1, h2⟩ | ⟨h1, h2, h3⟩
      · left; rw [h1]; exact ⟨rfl, by omega⟩
      · right
        have hb2 : (Lib.indexByte l 10 == -1) = false := by simp; omega
        rw [hb2]
        simp only [Bool.false_eq_true, if_false, List.getD_cons_succ]
        exact ⟨by omega, by omega, h3⟩

theorem one_bad {l : B} {e : Nat} (h : Lx.one l = .bad e) : e ≠ 0 := by
  unfold Lx.one at h
  repeat' (split at h)
  all_goals first | (cases h; omega) | (cases h)

theorem rg_get (len n i : Nat) : (List.map (fun i => (i * n, n)) (List.range len))[i]? = if i < len then some (i * n, n) else none := by
  rw [List.getElem?_map]
  split
  · rename_i h; rw [List.getElem?_range h]; rfl
  · rename_i h; rw [List.getElem?_eq_none (by simp; omega)]; rfl
theorem rep_1 (zs : List Value) : (List.replicate 1 zs).flatten = zs := by simp

theorem one_ascii {l : B} {k n : Nat} (h : Lx.one l = .ok k n) : ∀ i, i < n → (l.getD i 0).toNat < 128 := by
  unfold Lx.one at h
  split at h
  · split at h <;> cases h
    intro i hi
    have := front_all wordy l i hi
    simp only [wordy, small, digit, Bool.or_eq_true, decide_eq_true_eq] at this
    omega
  · split at h
    · split at h
      · cases h
      · split at h <;> cases h
        intro i hi
        have := front_all digit l i hi
        simp only [digit, decide_eq_true_eq] at this
        omega
    · split at h <;> cases h
      intro i hi
      unfold markN at hi
      split at hi
      · rename_i hd
        obtain ⟨h1, hd⟩ := hd
        have hg : ∀ i, i < 2 → l.getD i 0 = (l.take 2).getD i 0 := fun i hi => (getD_take hi).symm
        rw [hg i hi]
        simp only [doubles, List.mem_cons, List.not_mem_nil, or_false] at hd
        rcases (show i = 0 ∨ i = 1 by omega) with rfl | rfl <;> rcases hd with e | e | e | e | e | e | e | e <;> rw [e] <;> decide
      · split at hi
        · rename_i hs
          have : i = 0 := by omega
          subst this
          simp only [singles, List.mem_cons, List.not_mem_nil, or_false] at hs
          rcases hs with e | e | e | e | e | e | e | e | e | e | e | e | e <;> rw [e] <;> decide
        · omega

inductive I16 (h : Heap) (L : B) : Nat → S → Prop
  | mk (pos en : Nat) (ev : Int) (nn : Nat) (acc : List Sgn) (a : Option Addr) (c : Nat) (h1 : Heap) {x1 x3 x4 x6 x7 x8 x9 x10 x11 x12 x13 x14 x16 x17 x18 x19 x20 x21 x22 x23 x24 x25 x26 x27 x28 x29 x30 x31 x32 x33 x34 x35 x36 x37 x38 x39 x40 x41 x42 x43 x44 x45 x46 x47 x48 x49 x50 x51 x52 x53 x54 x55 x56 x57 x58 x59 x60 x61 x62 : Value} (hev : ev = (en : Int)) (hnn : nn = acc.length) (hg : h1.get h.next = some (itO (Tx L) pos)) (hgr : Gr h h1) (hnx : h.next < h1.next) (hpos : pos ≤ L.length) (hen : en ≤ L.length) (hacc : acc.length ≤ en)
    (hown : Own h1 39 3 a acc.length c (sgC acc)) (hblk : ∀ b, blk a b → h.next < b)
    (hsg : sg 0 L = (sg (max pos en) (L.drop (max pos en))).on acc)
    (hgd : pos < en → (∀ k, pos ≤ k → k < en → (L.getD k 0).toNat < 128) ∨ (en < L.length ∧ (L.getD en 0).toNat = 10)) :
    I16 h L (L.length - pos) ⟨(F63 (.string (Tx L)) x1 (.slice a nn c) x3 x4 (.int .i64 ev) x6 x7 x8 x9 x10 x11 x12 x13 x14 (.pointer (some ⟨h.next, 0, none⟩)) x16 x17 x18 x19 x20 x21 x22 x23 x24 x25 x26 x27 x28 x29 x30 x31 x32 x33 x34 x35 x36 x37 x38 x39 x40 x41 x42 x43 x44 x45 x46 x47 x48 x49 x50 x51 x52 x53 x54 x55 x56 x57 x58 x59 x60 x61 x62), [], h1⟩

theorem signs_w (L : B) (hL : L.length < 4611686018427387904) : CallE (pp G) 16 [.string (Tx L)] h (SignsPost h (signs L)) := by
  refine CallE.fir4 (good G) fir16 rfl rfl (F63_arr ..) fun hlo => ?_
  rw [sh_ir16]
  simp (disch := first | omega | (refine id ?_; simp only [push_cast]; done) | (refine id ?_; simp only [push_cast]; omega)) only [push_cast, Nat.reduceAdd, Nat.reduceMul, Nat.reduceSub, Nat.reduceLT, Nat.reduceEqDiff, Nat.reduceLeDiff, Int.reduceToNat, reduceCtorEq, Int.reduceLT, Int.reduceLE, Int.reduceAdd, Int.reduceSub, Int.reduceMul, Int.reduceNeg, Int.reduceEq]
  refine vc3_scope (good G) comp16_0 ?_
  simp (disch := first | omega | (refine id ?_; simp only [push_cast]; done) | (refine id ?_; simp only [push_cast]; omega)) only [push_cast, Nat.reduceAdd, Nat.reduceMul, Nat.reduceSub, Nat.reduceLT, Nat.reduceEqDiff, Nat.reduceLeDiff, Int.reduceToNat, reduceCtorEq, Int.reduceLT, Int.reduceLE, Int.reduceAdd, Int.reduceSub, Int.reduceMul, Int.reduceNeg, Int.reduceEq]
  unfold signs
  (refine vcond_d (fun hc => ?_) (fun hc => ?_)) <;> (try (simp (disch := first | omega | (refine id ?_; simp only [push_cast]; done) | (refine id ?_; simp only [push_cast]; omega)) only [push_cast, Nat.reduceAdd, Nat.reduceMul, Nat.reduceSub, Nat.reduceLT, Nat.reduceEqDiff, Nat.reduceLeDiff, Int.reduceToNat, reduceCtorEq, Int.reduceLT, Int.reduceLE, Int.reduceAdd, Int.reduceSub, Int.reduceMul, Int.reduceNeg, Int.reduceEq]))
  · rw [if_pos (by omega)]
    exact ⟨Gr.refl h, rfl⟩
  rw [if_neg (by omega)]
  refine W.loop4 (good G) (I16 h L) ?_ _ _ (I16.mk 0 0 0 0 [] none 0 _ rfl rfl (get_add_s _ _ rfl) ((Gr.refl h).add' _) (by rw [next_add]; omega) (Nat.zero_le _) (Nat.zero_le _) (Nat.zero_le _) (Own.nil _ _ _) (fun b hb => by obtain ⟨o, s, hb⟩ := hb; cases hb) (by rw [Nat.max_self, List.drop_zero, Res.on_nil]) (fun hh => by omega))
  intro k s1 hI
  cases hI with | mk pos en ev nn acc a c h1 hev hnn hg hgr hnx hpos hen hacc hown hblk hsg hgd
  subst hev hnn
  rw [sh_ir16_s0]
  have hl1 : h1.lo ≤ h.next := by rw [hgr.lo]; exact hlo
  by_cases hp : pos < L.length
  · simp (disch := first | omega | (refine id ?_; simp only [push_cast]; done) | (refine id ?_; simp only [push_cast]; omega)) only [push_cast, Nat.reduceAdd, Nat.reduceMul, Nat.reduceSub, Nat.reduceLT, Nat.reduceEqDiff, Nat.reduceLeDiff, Int.reduceToNat, reduceCtorEq, Int.reduceLT, Int.reduceLE, Int.reduceAdd, Int.reduceSub, Int.reduceMul, Int.reduceNeg, Int.reduceEq, nxE_t _ pos L hg hl1 hp]
    have hw1 := dec_pos hp
    have hw2 := dec_end hp
    by_cases hlt : (pos : Int) < en
    · simp (disch := first | omega | (refine id ?_; simp only [push_cast]; done) | (refine id ?_; simp only [push_cast]; omega)) only [push_cast, Nat.reduceAdd, Nat.reduceMul, Nat.reduceSub, Nat.reduceLT, Nat.reduceEqDiff, Nat.reduceLeDiff, Int.reduceToNat, reduceCtorEq, Int.reduceLT, Int.reduceLE, Int.reduceAdd, Int.reduceSub, Int.reduceMul, Int.reduceNeg, Int.reduceEq, hlt]
      have hen2 : pos + (Utf8.decode (Tx L) pos).2 ≤ en := by
        rcases hgd (by omega) with h2 | ⟨h2, h3⟩
        · rw [dec_lo hp (h2 pos (Nat.le_refl _) (by omega))]; dsimp only; omega
        · rcases Nat.lt_or_ge en (pos + (Utf8.decode (Tx L) pos).2) with h4 | h4
          · have := (dec_width hp (en - pos) (by omega) (by omega)).2
            rw [show pos + (en - pos) = en by omega] at this
            omega
          · exact h4
      refine ⟨_, ?_, I16.mk (pos + (Utf8.decode (Tx L) pos).2) en en acc.length acc a c _ rfl rfl (get_put_s _ _) (hgr.put' _ _ (Nat.le_refl _)) hnx (by omega) hen hacc (hown.grew (Grew.put'' (S := fun b => b = h.next) (Grew.refl _ _) _ _ fun _ => rfl) fun b hb _ e => ?_) hblk ?_ ?_⟩
      · omega
      · have := hblk b hb; omega
      · rw [show max (pos + (Utf8.decode (Tx L) pos).2) en = max pos en by omega]; exact hsg
      · intro h2
        rcases hgd (by omega) with h3 | h3
        · exact .inl fun k hk1 hk2 => h3 k (by omega) hk2
        · exact .inr h3
    · simp (disch := first | omega | (refine id ?_; simp only [push_cast]; done) | (refine id ?_; simp only [push_cast]; omega)) only [push_cast, Nat.reduceAdd, Nat.reduceMul, Nat.reduceSub, Nat.reduceLT, Nat.reduceEqDiff, Nat.reduceLeDiff, Int.reduceToNat, reduceCtorEq, Int.reduceLT, Int.reduceLE, Int.reduceAdd, Int.reduceSub, Int.reduceMul, Int.reduceNeg, Int.reduceEq, hlt]
      have hmx : max pos en = pos := by omega
      rw [hmx] at hsg
      have hq : qblank ((Utf8.decode (Tx L) pos).1 : Int) = blankC (L.getD pos 0) ∧ (((Utf8.decode (Tx L) pos).1 : Int) = 35 ↔ (L.getD pos 0).toNat = 35) ∧ ((L.getD pos 0).toNat < 128 → (Utf8.decode (Tx L) pos).2 = 1) := by
        rcases Nat.lt_or_ge (L.getD pos 0).toNat 128 with h2 | h2
        · rw [dec_lo hp h2]
          exact ⟨kind_blank.eq _, by dsimp only; omega, fun _ => rfl⟩
        · have h3 := (dec_hi hp h2).1
          refine ⟨?_, by omega, fun h4 => by omega⟩
          rw [kind_blank.hi _ (by omega), ← kind_blank.eq, kind_blank.hi _ (by omega)]
      obtain ⟨q1, q2, q3⟩ := hq
      have hown2 : ∀ x, Own (h1.put h.next x) 39 3 a acc.length c (sgC acc) := fun x => hown.grew (Grew.put'' (S := fun b => b = h.next) (Grew.refl _ _) _ _ fun _ => rfl) fun b hb _ e => by have := hblk b hb; omega
      refine CallE.to (blank_w G _ _) ?_; rintro _ _ ⟨rfl, rfl⟩
      rw [q1]
      rw [sg_at hp, sg_cons] at hsg
      cases hbl : blankC (L.getD pos 0) with
      | true =>
        rw [hbl, if_pos rfl] at hsg
        simp (disch := first | omega | (refine id ?_; simp only [push_cast]; done) | (refine id ?_; simp only [push_cast]; omega)) only [push_cast, Nat.reduceAdd, Nat.reduceMul, Nat.reduceSub, Nat.reduceLT, Nat.reduceEqDiff, Nat.reduceLeDiff, Int.reduceToNat, reduceCtorEq, Int.reduceLT, Int.reduceLE, Int.reduceAdd, Int.reduceSub, Int.reduceMul, Int.reduceNeg, Int.reduceEq, hlt]
        have h128 : (L.getD pos 0).toNat < 128 := by unfold blankC at hbl; simp only [decide_eq_true_eq] at hbl; omega
        have hw := q3 h128
        refine ⟨_, ?_, I16.mk (pos + (Utf8.decode (Tx L) pos).2) en en acc.length acc a c _ rfl rfl (get_put_s _ _) (hgr.put' _ _ (Nat.le_refl _)) hnx (by omega) hen hacc (hown2 _) hblk ?_ (fun h2 => by omega)⟩
        · omega
        · rw [hw, show max (pos + 1) en = pos + 1 by omega]; exact hsg
      | false =>
        rw [hbl, if_neg (by simp)] at hsg
        simp (disch := first | omega | (refine id ?_; simp only [push_cast]; done) | (refine id ?_; simp only [push_cast]; omega)) only [push_cast, Nat.reduceAdd, Nat.reduceMul, Nat.reduceSub, Nat.reduceLT, Nat.reduceEqDiff, Nat.reduceLeDiff, Int.reduceToNat, reduceCtorEq, Int.reduceLT, Int.reduceLE, Int.reduceAdd, Int.reduceSub, Int.reduceMul, Int.reduceNeg, Int.reduceEq, hlt]
        by_cases h35 : (L.getD pos 0).toNat = 35
        · rw [if_pos h35] at hsg
          have hw := q3 (by omega)
          simp (disch := first | omega | (refine id ?_; simp only [push_cast]; done) | (refine id ?_; simp only [push_cast]; omega)) only [push_cast, Nat.reduceAdd, Nat.reduceMul, Nat.reduceSub, Nat.reduceLT, Nat.reduceEqDiff, Nat.reduceLeDiff, Int.reduceToNat, reduceCtorEq, Int.reduceLT, Int.reduceLE, Int.reduceAdd, Int.reduceSub, Int.reduceMul, Int.reduceNeg, Int.reduceEq, q2.2 h35]
          refine CallE.to (index_w G _ _ _) ?_; rintro _ _ ⟨rfl, rfl⟩
          have hif := index_front (L.drop pos)
          rw [sg_at hp] at hif
          have hn : notNl (L.getD pos 0) = true := by unfold notNl; simp only [decide_eq_true_eq]; omega
          rw [front_cons, if_pos hn] at hif
          have e10 : (10 : Int).toNat.toUInt8 = 10 := rfl
          rw [Int.toNat_natCast, e10, sg_at hp]
          have hle := front_le notNl (L.drop (pos + 1))
          rw [List.length_drop] at hle
          rcases hif with ⟨i1, i2⟩ | ⟨i1, i2, i3⟩
          · simp (disch := first | omega | (refine id ?_; simp only [push_cast]; done) | (refine id ?_; simp only [push_cast]; omega)) only [push_cast, Nat.reduceAdd, Nat.reduceMul, Nat.reduceSub, Nat.reduceLT, Nat.reduceEqDiff, Nat.reduceLeDiff, Int.reduceToNat, reduceCtorEq, Int.reduceLT, Int.reduceLE, Int.reduceAdd, Int.reduceSub, Int.reduceMul, Int.reduceNeg, Int.reduceEq, i1]
            have h0 : (L.drop (pos + 1)).drop (front notNl (L.drop (pos + 1))) = [] := List.drop_eq_nil_of_le (by simp only [List.length_cons] at i2; omega)
            rw [h0, sg_nil] at hsg
            refine ⟨hgr.put' _ _ (Nat.le_refl _), ?_⟩
            rw [hsg]
            refine ⟨a, c, ?_, ?_, fun b hb => Nat.le_of_lt (hblk b hb)⟩
            · simp [List.append_nil]
            · simpa [List.append_nil] using hown2 _
          · have hi1 : Lib.indexByte (L.getD pos 0 :: L.drop (pos + 1)) 10 = ((front notNl (L.drop (pos + 1)) + 1 : Nat) : Int) := i1
            simp only [List.length_cons, List.length_drop] at i2
            rw [hi1]
            have hx : (L.getD (pos + (front notNl (L.drop (pos + 1)) + 1)) 0).toNat = 10 := by
              rw [← sg_at hp] at i3
              rw [List.getD_eq_getElem?_getD, List.getElem?_drop, ← List.getD_eq_getElem?_getD] at i3
              exact i3
            rw [List.drop_drop] at hsg
            generalize front notNl (L.drop (pos + 1)) = F at *
            have hneg : ¬ ((F : Int) + 1 < 0) := by omega
            simp (disch := first | omega | (refine id ?_; simp only [push_cast]; done) | (refine id ?_; simp only [push_cast]; omega)) only [push_cast, Nat.reduceAdd, Nat.reduceMul, Nat.reduceSub, Nat.reduceLT, Nat.reduceEqDiff, Nat.reduceLeDiff, Int.reduceToNat, reduceCtorEq, Int.reduceLT, Int.reduceLE, Int.reduceAdd, Int.reduceSub, Int.reduceMul, Int.reduceNeg, Int.reduceEq, hneg]
            refine ⟨_, ?_, I16.mk (pos + (Utf8.decode (Tx L) pos).2) (pos + (F + 1)) _ acc.length acc a c _ ?_ rfl (get_put_s _ _) (hgr.put' _ _ (Nat.le_refl _)) hnx (by omega) (by omega) (by omega) (hown2 _) hblk ?_ ?_⟩
            · omega
            · first | rfl | (rw [wrap_i64 (by omega) (by omega)]; omega) | omega
            · rw [hw, show max (pos + 1) (pos + (F + 1)) = pos + 1 + F by omega]; exact hsg
            · intro _; exact .inr ⟨by omega, hx⟩
        · rw [if_neg h35] at hsg
          have h35' : ¬ (((Utf8.decode (Tx L) pos).1 : Int) = 35) := fun e => h35 (q2.1 e)
          simp (disch := first | omega | (refine id ?_; simp only [push_cast]; done) | (refine id ?_; simp only [push_cast]; omega)) only [push_cast, Nat.reduceAdd, Nat.reduceMul, Nat.reduceSub, Nat.reduceLT, Nat.reduceEqDiff, Nat.reduceLeDiff, Int.reduceToNat, reduceCtorEq, Int.reduceLT, Int.reduceLE, Int.reduceAdd, Int.reduceSub, Int.reduceMul, Int.reduceNeg, Int.reduceEq, h35']
          refine CallE.to (first_w G _ _ (by rw [List.length_drop]; omega)) ?_
          rintro _ h2 ⟨rfl, hg2⟩
          have hn2 := hg2.next
          rw [next_put] at hn2
          have hlo2 : h2.lo = h.lo := by rw [hg2.lo, lo_put, hgr.lo]
          rw [Int.toNat_natCast, sg_at hp]
          cases hone : Lx.one (L.getD pos 0 :: L.drop (pos + 1)) with
          | bad e =>
            rw [hone] at hsg
            have he0 : ¬ ((e : Int) = 0) := by have := one_bad hone; omega
            simp only [firstV]
            simp (disch := first | omega | (refine id ?_; simp only [push_cast]; done) | (refine id ?_; simp only [push_cast]; omega)) only [push_cast, Nat.reduceAdd, Nat.reduceMul, Nat.reduceSub, Nat.reduceLT, Nat.reduceEqDiff, Nat.reduceLeDiff, Int.reduceToNat, reduceCtorEq, Int.reduceLT, Int.reduceLE, Int.reduceAdd, Int.reduceSub, Int.reduceMul, Int.reduceNeg, Int.reduceEq, hlo2, he0]
            refine ⟨?_, ?_⟩
            · exact ((hgr.put' _ _ (Nat.le_refl _)).tr hg2).add' _ |>.put' _ _ (by omega)
            · rw [hsg]; rfl
          | ok kd n =>
            rw [hone] at hsg
            have hlen := one_len hone (by simp)
            simp only [List.length_cons, List.length_drop] at hlen
            simp only [firstV]
            simp (disch := first | omega | (refine id ?_; simp only [push_cast]; done) | (refine id ?_; simp only [push_cast]; omega)) only [push_cast, Nat.reduceAdd, Nat.reduceMul, Nat.reduceSub, Nat.reduceLT, Nat.reduceEqDiff, Nat.reduceLeDiff, Int.reduceToNat, reduceCtorEq, Int.reduceLT, Int.reduceLE, Int.reduceAdd, Int.reduceSub, Int.reduceMul, Int.reduceNeg, Int.reduceEq, hlo2, rg_get, rep_1]
            simp only [Res.on_more] at hsg
            rw [List.drop_drop, show pos + 1 + (n - 1) = pos + n by omega] at hsg
            have hTl : (List.take n (L.getD pos 0 :: L.drop (pos + 1))).length = n := by simp only [List.length_take, List.length_cons, List.length_drop]; omega
            generalize hT : List.take n (L.getD pos 0 :: L.drop (pos + 1)) = T at *
            generalize hH : (((h2.add (O [.int .i64 0, .string (Tx []), .int .i64 0] 39 false)).put h2.next (O [.int .i64 kd, .string (Tx T), .int .i64 0] 39 false)).put h2.next (O [.int .i64 kd, .string (Tx T), .int .i64 pos] 39 false)).add (O [.int .i64 kd, .string (Tx T), .int .i64 pos] 39 false) = H
            have hGH : Grew h1 H (fun b => b = h.next) := by
              rw [← hH]
              exact (((((Grew.put'' (S := fun b => b = h.next) (Grew.refl _ _) _ _ fun _ => rfl).tr hg2).add' _).put' _ _ (by omega)).put' _ _ (by omega)).add' _
            have hcx : cells H h2.next = some ([.int .i64 kd, .string (Tx T), .int .i64 pos], 39, false) := by
              rw [← hH, cells_add_n _ _ (by simp only [push_cast]; omega), cells_put_s]
            have hcs : cells H (h2.next + 1) = some ([.int .i64 kd, .string (Tx T), .int .i64 pos], 39, false) := by
              rw [← hH, cells_add_s _ _ _ _ (by simp only [push_cast])]
            have hnH : H.next = h2.next + 1 + 1 := by rw [← hH]; simp only [push_cast]
            have hlH : H.lo = h.lo := by rw [← hH]; simp only [push_cast]; exact hlo2
            have hownH : Own H 39 3 a acc.length c (sgC acc) := hown.grew hGH fun b hb _ e => by have := hblk b hb; omega
            obtain ⟨a', c', H', he, hown', hgrow, hblk'⟩ := own_append T_appT_28_28 hownH (by omega) (x := .slice (some ⟨h2.next + 1, 0, none⟩) 1 1) (m := 1) (xs := [.int .i64 kd, .string (Tx T), .int .i64 pos]) rfl
              ((Sl.row hcs (by omega)).src rfl (by decide)) rfl rfl (by omega)
            rw [he]
            have hltb : ∀ b, blk a b → b < h1.next := fun b hb => by
              rcases hown.hat with ⟨h0, _, _⟩ | ⟨b', m, ha, _, h3, _⟩
              · rw [h0] at hb; obtain ⟨o, s, hb⟩ := hb; cases hb
              · rw [ha] at hb; obtain ⟨o, s, hb⟩ := hb; cases hb; exact h3
            have hcx' : cells H' h2.next = some ([.int .i64 kd, .string (Tx T), .int .i64 pos], 39, false) := by
              rw [hgrow.cells (by omega) (fun hb => by have := hltb _ hb; omega)]; exact hcx
            have hn' := hgrow.next
            have hlo' : H'.lo = h.lo := by rw [hgrow.lo, hlH]
            simp (disch := first | omega | (refine id ?_; simp only [push_cast]; done) | (refine id ?_; simp only [push_cast]; omega)) only [push_cast, Nat.reduceAdd, Nat.reduceMul, Nat.reduceSub, Nat.reduceLT, Nat.reduceEqDiff, Nat.reduceLeDiff, Int.reduceToNat, reduceCtorEq, Int.reduceLT, Int.reduceLE, Int.reduceAdd, Int.reduceSub, Int.reduceMul, Int.reduceNeg, Int.reduceEq, hcx', hlo']
            have hasc := one_ascii hone
            have hw := q3 (hasc 0 (by omega))
            have hgH : H.get h.next = some (itO (Tx L) (pos + (Utf8.decode (Tx L) pos).2)) := by
              rw [← hH, get_add_n _ _ (by simp only [push_cast]; omega), get_put_n _ _ _ (by omega), get_put_n _ _ _ (by omega), get_add_n _ _ (by omega)]
              exact Gr.getE hg2 (get_put_s _ _) (by rw [next_put]; omega)
            have hgrH : Gr h H := by
              rw [← hH]
              exact ((((((hgr.put' _ _ (Nat.le_refl _)).tr hg2).add' _).put' _ _ (by omega)).put' _ _ (by omega)).add' _)
            refine ⟨_, ?_, I16.mk (pos + (Utf8.decode (Tx L) pos).2) (pos + n) _ _ (acc ++ [⟨kd, T, pos⟩]) a' c' _ ?_ ?_ ((hgrow.get _ (by omega) (fun hb => by have := hblk _ hb; omega)).trans hgH) (hgrH.tr' hgrow fun i hi hb => by have := hblk _ hb; omega) (by omega) (by omega) (by omega) ?_ ?_ (fun b hb => ?_) ?_ ?_⟩
            · omega
            · rw [hTl]; first | rfl | (rw [wrap_i64 (by omega) (by omega)]; omega) | omega
            · simp
            · simp only [List.length_append, List.length_cons, List.length_nil]; omega
            · simp only [List.length_append, List.length_cons, List.length_nil, sgC_app, sgC]; exact hown'
            · rcases hblk' b hb with h3 | h3
              · exact hblk b h3
              · omega
            · rw [hw, show max (pos + 1) (pos + n) = pos + n by omega]; exact hsg
            · intro h3
              refine .inl fun k hk1 hk2 => ?_
              have h4 := hasc (k - pos) (by omega)
              rw [← sg_at hp, List.getD_eq_getElem?_getD, List.getElem?_drop, ← List.getD_eq_getElem?_getD, show pos + (k - pos) = k by omega] at h4
              exact h4
  · simp (disch := first | omega | (refine id ?_; simp only [push_cast]; done) | (refine id ?_; simp only [push_cast]; omega)) only [push_cast, Nat.reduceAdd, Nat.reduceMul, Nat.reduceSub, Nat.reduceLT, Nat.reduceEqDiff, Nat.reduceLeDiff, Int.reduceToNat, reduceCtorEq, Int.reduceLT, Int.reduceLE, Int.reduceAdd, Int.reduceSub, Int.reduceMul, Int.reduceNeg, Int.reduceEq, nxE_f _ pos L hg hl1 (by omega)]
    have hmx : L.drop (max pos en) = [] := List.drop_eq_nil_of_le (by omega)
    rw [hmx, sg_nil] at hsg
    refine ⟨hgr, ?_⟩
    rw [hsg]
    refine ⟨a, c, ?_, ?_, fun b hb => Nat.le_of_lt (hblk b hb)⟩
    · simp [List.append_nil]
    · simpa [List.append_nil] using hown
end
end Go.Proofs.Ythjcdbbomfmphaa

namespace Go.Proofs.Ythjcdbbomfmphaa
open Go.RowKit Go.Ev Go.Lx
noncomputable section
set_option linter.unusedSimpArgs false
set_option linter.unusedVariables false
variable (G : Nat) (h : Heap)

def Wi (a m : Int) : Int := if a.tmod m < 0 then a.tmod m + m else a.tmod m
theorem Wi_range (a m : Int) (h1 : 1 ≤ m) : 0 ≤ Wi a m ∧ Wi a m < m := by
  have hlt := Int.tmod_lt_of_pos a (show 0 < m by omega)
  have hgt := Int.lt_tmod_of_pos a (show 0 < m by omega)
  unfold Wi
  split <;> omega
theorem within_w (a m : Int) (h1 : 1 ≤ m) (h2 : m ≤ 4611686018427387904) : CallE (pp G) 15 [.int .i64 a, .int .i64 m] h (fun v h' => v = .int .i64 (Wi a m) ∧ h' = h) := by
  have hlt := Int.tmod_lt_of_pos a (show 0 < m by omega)
  have hgt := Int.lt_tmod_of_pos a (show 0 < m by omega)
  have hm : m ≠ 0 := by omega
  refine CallE.fir4 (good G) fir15 rfl rfl (F15_arr ..) fun hlo => ?_
  rw [sh_ir15]
  unfold Wi
  simp (disch := first | omega | (refine id ?_; simp only [push_cast]; done) | (refine id ?_; simp only [push_cast]; omega)) only [push_cast, Nat.reduceAdd, Nat.reduceMul, Nat.reduceSub, Nat.reduceLT, Nat.reduceEqDiff, Nat.reduceLeDiff, Int.reduceToNat, reduceCtorEq, Int.reduceLT, Int.reduceLE, Int.reduceAdd, Int.reduceSub, Int.reduceMul, Int.reduceNeg, Int.reduceEq, hm]
  (refine vcond_d (fun hc => ?_) (fun hc => ?_)) <;> (try (simp (disch := first | omega | (refine id ?_; simp only [push_cast]; done) | (refine id ?_; simp only [push_cast]; omega)) only [push_cast, Nat.reduceAdd, Nat.reduceMul, Nat.reduceSub, Nat.reduceLT, Nat.reduceEqDiff, Nat.reduceLeDiff, Int.reduceToNat, reduceCtorEq, Int.reduceLT, Int.reduceLE, Int.reduceAdd, Int.reduceSub, Int.reduceMul, Int.reduceNeg, Int.reduceEq]))
  · rw [if_pos hc]; first | rfl | (rw [wrap_i64 (by omega) (by omega)]) | skip
  · rw [if_neg hc]; first | rfl | (rw [wrap_i64 (by omega) (by omega)]) | skip

/-- is a text gone past whole? -/
def goneB : B → Bool
  | [] => true
  | c :: r => if c.toNat = 35 then goneB (r.drop (front notNl r + 1)) else if blankC c then goneB r else false
termination_by l => l.length
decreasing_by all_goals (simp; try omega)
theorem goneB_nil : goneB [] = true := by rw [goneB]
theorem goneB_cons (c : UInt8) (r : B) : goneB (c :: r) = if c.toNat = 35 then goneB (r.drop (front notNl r + 1)) else if blankC c then goneB r else false := by rw [goneB]

inductive I23 (h : Heap) (L : B) : Nat → S → Prop
  | mk (i : Nat) (iv : Int) {x1 x2 x4 x5 x6 x7 x8 x9 x10 x11 x12 x13 x14 x15 x16 x17 x18 x19 x20 x21 x22 x23 x24 x25 x26 x27 x28 x29 x30 x31 x32 x33 x34 x35 x36 x37 x38 x39 x40 x41 x42 x43 x44 x45 x46 x47 : Value} (hiv : iv = (i : Int)) (hi : i ≤ L.length + 1) (hg : goneB L = goneB (L.drop i)) :
    I23 h L (L.length + 1 - i) ⟨(F48 (.string (Tx L)) x1 x2 (.int .i64 iv) x4 x5 x6 x7 x8 x9 x10 x11 x12 x13 x14 x15 x16 x17 x18 x19 x20 x21 x22 x23 x24 x25 x26 x27 x28 x29 x30 x31 x32 x33 x34 x35 x36 x37 x38 x39 x40 x41 x42 x43 x44 x45 x46 x47), [], h⟩
inductive J23 (h : Heap) (L : B) (i0 : Nat) : Nat → S → Prop
  | mk (i : Nat) (iv : Int) {x1 x2 x4 x5 x6 x7 x8 x9 x10 x11 x12 x13 x14 x15 x16 x17 x18 x19 x20 x21 x22 x23 x24 x25 x26 x27 x28 x29 x30 x31 x32 x33 x34 x35 x36 x37 x38 x39 x40 x41 x42 x43 x44 x45 x46 x47 : Value} (hiv : iv = (i : Int)) (hi : i ≤ i0 + front notNl (L.drop i0)) (hi0 : i0 ≤ i) :
    J23 h L i0 (L.length - i) ⟨(F48 (.string (Tx L)) x1 x2 (.int .i64 iv) x4 x5 x6 x7 x8 x9 x10 x11 x12 x13 x14 x15 x16 x17 x18 x19 x20 x21 x22 x23 x24 x25 x26 x27 x28 x29 x30 x31 x32 x33 x34 x35 x36 x37 x38 x39 x40 x41 x42 x43 x44 x45 x46 x47), [], h⟩
theorem bt_eq (L : B) (i n : Nat) : (bt L i = (n : Int)) ↔ (L.getD i 0).toNat = n := by unfold bt; omega

theorem gone_w (L : B) (hL : L.length < 4611686018427387904) : CallE (pp G) 23 [.string (Tx L)] h (fun v h' => v = .bool (goneB L) ∧ h' = h) := by
  refine CallE.fir4 (good G) fir23 rfl rfl (F48_arr ..) fun hlo => ?_
  rw [sh_ir23]
  simp (disch := first | omega | (refine id ?_; simp only [push_cast]; done) | (refine id ?_; simp only [push_cast]; omega)) only [push_cast, Nat.reduceAdd, Nat.reduceMul, Nat.reduceSub, Nat.reduceLT, Nat.reduceEqDiff, Nat.reduceLeDiff, Int.reduceToNat, reduceCtorEq, Int.reduceLT, Int.reduceLE, Int.reduceAdd, Int.reduceSub, Int.reduceMul, Int.reduceNeg, Int.reduceEq]
  refine W.loop4 (good G) (I23 h L) ?_ _ _ (I23.mk 0 0 rfl (Nat.zero_le _) (by rw [List.drop_zero]))
  intro k s1 hI
  cases hI with | mk i iv hiv hi hg
  subst hiv
  rw [sh_ir23_s0]
  simp (disch := first | omega | (refine id ?_; simp only [push_cast]; done) | (refine id ?_; simp only [push_cast]; omega)) only [push_cast, Nat.reduceAdd, Nat.reduceMul, Nat.reduceSub, Nat.reduceLT, Nat.reduceEqDiff, Nat.reduceLeDiff, Int.reduceToNat, reduceCtorEq, Int.reduceLT, Int.reduceLE, Int.reduceAdd, Int.reduceSub, Int.reduceMul, Int.reduceNeg, Int.reduceEq]
  (refine vcond_d (fun hc => ?_) (fun hc => ?_)) <;> (try (simp (disch := first | omega | (refine id ?_; simp only [push_cast]; done) | (refine id ?_; simp only [push_cast]; omega)) only [push_cast, Nat.reduceAdd, Nat.reduceMul, Nat.reduceSub, Nat.reduceLT, Nat.reduceEqDiff, Nat.reduceLeDiff, Int.reduceToNat, reduceCtorEq, Int.reduceLT, Int.reduceLE, Int.reduceAdd, Int.reduceSub, Int.reduceMul, Int.reduceNeg, Int.reduceEq]))
  · have hp : i < L.length := by omega
    rw [sg_at hp, goneB_cons] at hg
    (refine vcond_d (fun hc => ?_) (fun hc => ?_)) <;> (try (simp (disch := first | omega | (refine id ?_; simp only [push_cast]; done) | (refine id ?_; simp only [push_cast]; omega)) only [push_cast, Nat.reduceAdd, Nat.reduceMul, Nat.reduceSub, Nat.reduceLT, Nat.reduceEqDiff, Nat.reduceLeDiff, Int.reduceToNat, reduceCtorEq, Int.reduceLT, Int.reduceLE, Int.reduceAdd, Int.reduceSub, Int.reduceMul, Int.reduceNeg, Int.reduceEq]))
    · have h35 : (L.getD i 0).toNat = 35 := (bt_eq _ _ 35).1 hc
      rw [if_pos h35] at hg
      refine W.loop4 (good G) (J23 h L i) ?_ _ _ (J23.mk i i rfl (by omega) (Nat.le_refl _))
      intro k s2 hJ
      cases hJ with | mk j jv hjv hj hij
      subst hjv
      rw [sh_ir23_s2]
      have hF : front notNl (L.drop i) = front notNl (L.drop (i + 1)) + 1 := by
        rw [sg_at hp, front_cons, if_pos]
        unfold notNl; simp only [decide_eq_true_eq]; omega
      have hfl := front_le notNl (L.drop i)
      rw [List.length_drop] at hfl
      rw [List.drop_drop] at hg
      have gd : ∀ m, (L.drop i).getD m 0 = L.getD (i + m) 0 := fun m => by simp only [List.getD_eq_getElem?_getD, List.getElem?_drop]
      have fin : j = i + front notNl (L.drop i) → goneB L = goneB (L.drop (j + 1)) := fun e => by
        rw [hg, show i + 1 + (front notNl (L.drop (i + 1)) + 1) = j + 1 by omega]
      by_cases h1 : (j : Int) < L.length
      · by_cases h2 : bt L j = 10
        · simp (disch := first | omega | (refine id ?_; simp only [push_cast]; done) | (refine id ?_; simp only [push_cast]; omega)) only [push_cast, Nat.reduceAdd, Nat.reduceMul, Nat.reduceSub, Nat.reduceLT, Nat.reduceEqDiff, Nat.reduceLeDiff, Int.reduceToNat, reduceCtorEq, Int.reduceLT, Int.reduceLE, Int.reduceAdd, Int.reduceSub, Int.reduceMul, Int.reduceNeg, Int.reduceEq, Int.toNat_natCast, h1, h2]
          have he : j = i + front notNl (L.drop i) := by
            rcases Nat.lt_or_ge j (i + front notNl (L.drop i)) with h3 | h3
            · have := front_all notNl (L.drop i) (j - i) (by omega)
              rw [gd, show i + (j - i) = j by omega] at this
              have h4 := (bt_eq L j 10).1 h2
              unfold notNl at this
              simp only [decide_eq_true_eq] at this
              exact absurd h4 this
            · omega
          exact ⟨_, by omega, I23.mk (j + 1) _ (by first | rfl | omega) (by omega) (fin he)⟩
        · simp (disch := first | omega | (refine id ?_; simp only [push_cast]; done) | (refine id ?_; simp only [push_cast]; omega)) only [push_cast, Nat.reduceAdd, Nat.reduceMul, Nat.reduceSub, Nat.reduceLT, Nat.reduceEqDiff, Nat.reduceLeDiff, Int.reduceToNat, reduceCtorEq, Int.reduceLT, Int.reduceLE, Int.reduceAdd, Int.reduceSub, Int.reduceMul, Int.reduceNeg, Int.reduceEq, Int.toNat_natCast, h1, h2]
          refine ⟨_, ?_, J23.mk (j + 1) _ (by first | rfl | omega) ?_ (by omega)⟩
          · omega
          · rcases Nat.lt_or_ge j (i + front notNl (L.drop i)) with h3 | h3
            · omega
            · exfalso
              have h5 : front notNl (L.drop i) = j - i := by omega
              have := front_end notNl (L.drop i) (by rw [List.length_drop]; omega)
              rw [gd, h5, show i + (j - i) = j by omega] at this
              unfold notNl at this
              simp only [decide_eq_false_iff_not] at this
              exact h2 ((bt_eq L j 10).2 (by omega))
      · simp (disch := first | omega | (refine id ?_; simp only [push_cast]; done) | (refine id ?_; simp only [push_cast]; omega)) only [push_cast, Nat.reduceAdd, Nat.reduceMul, Nat.reduceSub, Nat.reduceLT, Nat.reduceEqDiff, Nat.reduceLeDiff, Int.reduceToNat, reduceCtorEq, Int.reduceLT, Int.reduceLE, Int.reduceAdd, Int.reduceSub, Int.reduceMul, Int.reduceNeg, Int.reduceEq, Int.toNat_natCast, h1]
        have he : j = i + front notNl (L.drop i) := by omega
        exact ⟨_, by omega, I23.mk (j + 1) _ (by first | rfl | omega) (by omega) (fin he)⟩
    · have h35 : ¬ (L.getD i 0).toNat = 35 := fun e => hc ((bt_eq _ _ 35).2 e)
      rw [if_neg h35] at hg
      have b32 := bt_eq L i 32
      have b9 := bt_eq L i 9
      have b10 := bt_eq L i 10
      have b13 := bt_eq L i 13
      cases hb : blankC (L.getD i 0) with
      | true =>
        rw [hb, if_pos rfl] at hg
        unfold blankC at hb
        simp only [decide_eq_true_eq] at hb
        by_cases c32 : bt L i = 32
        · simp (disch := first | omega | (refine id ?_; simp only [push_cast]; done) | (refine id ?_; simp only [push_cast]; omega)) only [push_cast, Nat.reduceAdd, Nat.reduceMul, Nat.reduceSub, Nat.reduceLT, Nat.reduceEqDiff, Nat.reduceLeDiff, Int.reduceToNat, reduceCtorEq, Int.reduceLT, Int.reduceLE, Int.reduceAdd, Int.reduceSub, Int.reduceMul, Int.reduceNeg, Int.reduceEq, Int.toNat_natCast, c32]
          exact ⟨_, by omega, I23.mk (i + 1) _ (by first | rfl | omega) (by omega) hg⟩
        by_cases c9 : bt L i = 9
        · simp (disch := first | omega | (refine id ?_; simp only [push_cast]; done) | (refine id ?_; simp only [push_cast]; omega)) only [push_cast, Nat.reduceAdd, Nat.reduceMul, Nat.reduceSub, Nat.reduceLT, Nat.reduceEqDiff, Nat.reduceLeDiff, Int.reduceToNat, reduceCtorEq, Int.reduceLT, Int.reduceLE, Int.reduceAdd, Int.reduceSub, Int.reduceMul, Int.reduceNeg, Int.reduceEq, Int.toNat_natCast, c32, c9]
          exact ⟨_, by omega, I23.mk (i + 1) _ (by first | rfl | omega) (by omega) hg⟩
        by_cases c10 : bt L i = 10
        · simp (disch := first | omega | (refine id ?_; simp only [push_cast]; done) | (refine id ?_; simp only [push_cast]; omega)) only [push_cast, Nat.reduceAdd, Nat.reduceMul, Nat.reduceSub, Nat.reduceLT, Nat.reduceEqDiff, Nat.reduceLeDiff, Int.reduceToNat, reduceCtorEq, Int.reduceLT, Int.reduceLE, Int.reduceAdd, Int.reduceSub, Int.reduceMul, Int.reduceNeg, Int.reduceEq, Int.toNat_natCast, c32, c9, c10]
          exact ⟨_, by omega, I23.mk (i + 1) _ (by first | rfl | omega) (by omega) hg⟩
        · have c13 : bt L i = 13 := b13.2 (by rcases hb with e | e | e | e; exact absurd (b32.2 e) c32; exact absurd (b9.2 e) c9; exact absurd (b10.2 e) c10; exact e)
          simp (disch := first | omega | (refine id ?_; simp only [push_cast]; done) | (refine id ?_; simp only [push_cast]; omega)) only [push_cast, Nat.reduceAdd, Nat.reduceMul, Nat.reduceSub, Nat.reduceLT, Nat.reduceEqDiff, Nat.reduceLeDiff, Int.reduceToNat, reduceCtorEq, Int.reduceLT, Int.reduceLE, Int.reduceAdd, Int.reduceSub, Int.reduceMul, Int.reduceNeg, Int.reduceEq, Int.toNat_natCast, c32, c9, c10, c13]
          exact ⟨_, by omega, I23.mk (i + 1) _ (by first | rfl | omega) (by omega) hg⟩
      | false =>
        rw [hb, if_neg (by simp)] at hg
        unfold blankC at hb
        simp only [decide_eq_false_iff_not, not_or] at hb
        obtain ⟨e1, e2, e3, e4⟩ := hb
        have c32 : ¬ bt L i = 32 := fun e => e1 (b32.1 e)
        have c9 : ¬ bt L i = 9 := fun e => e2 (b9.1 e)
        have c10 : ¬ bt L i = 10 := fun e => e3 (b10.1 e)
        have c13 : ¬ bt L i = 13 := fun e => e4 (b13.1 e)
        simp (disch := first | omega | (refine id ?_; simp only [push_cast]; done) | (refine id ?_; simp only [push_cast]; omega)) only [push_cast, Nat.reduceAdd, Nat.reduceMul, Nat.reduceSub, Nat.reduceLT, Nat.reduceEqDiff, Nat.reduceLeDiff, Int.reduceToNat, reduceCtorEq, Int.reduceLT, Int.reduceLE, Int.reduceAdd, Int.reduceSub, Int.reduceMul, Int.reduceNeg, Int.reduceEq, Int.toNat_natCast, c32, c9, c10, c13, hg]
  · have hp : L.drop i = [] := List.drop_eq_nil_of_le (by omega)
    rw [hp, goneB_nil] at hg
    simp (disch := first | omega | (refine id ?_; simp only [push_cast]; done) | (refine id ?_; simp only [push_cast]; omega)) only [push_cast, Nat.reduceAdd, Nat.reduceMul, Nat.reduceSub, Nat.reduceLT, Nat.reduceEqDiff, Nat.reduceLeDiff, Int.reduceToNat, reduceCtorEq, Int.reduceLT, Int.reduceLE, Int.reduceAdd, Int.reduceSub, Int.reduceMul, Int.reduceNeg, Int.reduceEq, Int.toNat_natCast, hg]
end
end Go.Proofs.Ythjcdbbomfmphaa
