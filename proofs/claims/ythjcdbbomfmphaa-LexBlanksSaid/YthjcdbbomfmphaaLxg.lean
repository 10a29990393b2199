/-
  A part of the proof: what the program's functions hand back, as theorems. No condition but those that each theorem names.
-/
import Derived.Test.YthjcdbbomfmphaaLxh
import Derived.Test.YthjcdbbomfmphaaLxe
set_option linter.unusedSimpArgs false
set_option linter.unusedVariables false
namespace Go.Proofs.Ythjcdbbomfmphaa
open Go.RowKit Go.Ev Go.Lx
noncomputable section
set_option linter.unusedSimpArgs false
set_option linter.unusedVariables false
variable (G : Nat) (h : Heap)

/-! The document's text of chapter 1, by itself -/
theorem rword_w (c : UInt8) (f : Bool) : CallE (pp G) 32 [.int .u8 c.toNat, .bool f] h (fun v h' => v = .bool (if f then small c else wordy c) ∧ h' = h) := by
  refine CallE.fir4 (good G) fir32 rfl rfl (F27_arr ..) fun hlo => ?_
  rw [sh_ir32]
  unfold wordy small digit
  by_cases h1 : 97 ≤ (c.toNat : Int)
  · by_cases h2 : (c.toNat : Int) ≤ 122
    · simp (disch := first | omega | (refine id ?_; simp only [push_cast]; done) | (refine id ?_; simp only [push_cast]; omega)) only [push_cast, Nat.reduceAdd, Nat.reduceMul, Nat.reduceSub, Nat.reduceLT, Nat.reduceEqDiff, Nat.reduceLeDiff, Int.reduceToNat, reduceCtorEq, Int.reduceLT, Int.reduceLE, Int.reduceAdd, Int.reduceSub, Int.reduceMul, Int.reduceNeg, Int.reduceEq, h1, h2]
      have e : (97 ≤ c.toNat ∧ c.toNat ≤ 122) := by omega
      cases f <;> simp [e]
    · have e : ¬ (97 ≤ c.toNat ∧ c.toNat ≤ 122) := by omega
      have e2 : ¬ (48 ≤ c.toNat ∧ c.toNat ≤ 57) := by omega
      have e3 : ¬ c.toNat = 95 := by omega
      have h3 : 48 ≤ (c.toNat : Int) := by omega
      have h4 : ¬ (c.toNat : Int) ≤ 57 := by omega
      have h5 : ¬ (c.toNat : Int) = 95 := by omega
      cases f
      · simp (disch := first | omega | (refine id ?_; simp only [push_cast]; done) | (refine id ?_; simp only [push_cast]; omega)) only [push_cast, Nat.reduceAdd, Nat.reduceMul, Nat.reduceSub, Nat.reduceLT, Nat.reduceEqDiff, Nat.reduceLeDiff, Int.reduceToNat, reduceCtorEq, Int.reduceLT, Int.reduceLE, Int.reduceAdd, Int.reduceSub, Int.reduceMul, Int.reduceNeg, Int.reduceEq, h1, h2, h3, h4, h5]
        simp [e, e2, e3]
      · simp (disch := first | omega | (refine id ?_; simp only [push_cast]; done) | (refine id ?_; simp only [push_cast]; omega)) only [push_cast, Nat.reduceAdd, Nat.reduceMul, Nat.reduceSub, Nat.reduceLT, Nat.reduceEqDiff, Nat.reduceLeDiff, Int.reduceToNat, reduceCtorEq, Int.reduceLT, Int.reduceLE, Int.reduceAdd, Int.reduceSub, Int.reduceMul, Int.reduceNeg, Int.reduceEq, h1, h2, h3, h4, h5, Bool.not_true]
        simp [e]
  · have e : ¬ (97 ≤ c.toNat ∧ c.toNat ≤ 122) := by omega
    cases f
    · by_cases h3 : 48 ≤ (c.toNat : Int)
      · by_cases h4 : (c.toNat : Int) ≤ 57
        · simp (disch := first | omega | (refine id ?_; simp only [push_cast]; done) | (refine id ?_; simp only [push_cast]; omega)) only [push_cast, Nat.reduceAdd, Nat.reduceMul, Nat.reduceSub, Nat.reduceLT, Nat.reduceEqDiff, Nat.reduceLeDiff, Int.reduceToNat, reduceCtorEq, Int.reduceLT, Int.reduceLE, Int.reduceAdd, Int.reduceSub, Int.reduceMul, Int.reduceNeg, Int.reduceEq, h1, h3, h4]
          have e2 : (48 ≤ c.toNat ∧ c.toNat ≤ 57) := by omega
          simp [e2]
        · have e2 : ¬ (48 ≤ c.toNat ∧ c.toNat ≤ 57) := by omega
          simp (disch := first | omega | (refine id ?_; simp only [push_cast]; done) | (refine id ?_; simp only [push_cast]; omega)) only [push_cast, Nat.reduceAdd, Nat.reduceMul, Nat.reduceSub, Nat.reduceLT, Nat.reduceEqDiff, Nat.reduceLeDiff, Int.reduceToNat, reduceCtorEq, Int.reduceLT, Int.reduceLE, Int.reduceAdd, Int.reduceSub, Int.reduceMul, Int.reduceNeg, Int.reduceEq, h1, h3, h4]
          simp only [e, e2, decide_false, Bool.false_or, Bool.false_eq_true, if_false]
          congr 1; rw [Bool.eq_iff_iff]; simp; omega
      · have e2 : ¬ (48 ≤ c.toNat ∧ c.toNat ≤ 57) := by omega
        simp (disch := first | omega | (refine id ?_; simp only [push_cast]; done) | (refine id ?_; simp only [push_cast]; omega)) only [push_cast, Nat.reduceAdd, Nat.reduceMul, Nat.reduceSub, Nat.reduceLT, Nat.reduceEqDiff, Nat.reduceLeDiff, Int.reduceToNat, reduceCtorEq, Int.reduceLT, Int.reduceLE, Int.reduceAdd, Int.reduceSub, Int.reduceMul, Int.reduceNeg, Int.reduceEq, h1, h3]
        simp only [e, e2, decide_false, Bool.false_or, Bool.false_eq_true, if_false]
        congr 1; rw [Bool.eq_iff_iff]; simp; omega
    · simp (disch := first | omega | (refine id ?_; simp only [push_cast]; done) | (refine id ?_; simp only [push_cast]; omega)) only [push_cast, Nat.reduceAdd, Nat.reduceMul, Nat.reduceSub, Nat.reduceLT, Nat.reduceEqDiff, Nat.reduceLeDiff, Int.reduceToNat, reduceCtorEq, Int.reduceLT, Int.reduceLE, Int.reduceAdd, Int.reduceSub, Int.reduceMul, Int.reduceNeg, Int.reduceEq, h1, Bool.not_true]
      simp [e]

/-- how many bytes are gone past -/
def past : B → Nat
  | [] => 0
  | c :: r => if blankC c then past r + 1 else if c.toNat = 35 then 1 + front notNl r + past (r.drop (front notNl r)) else 0
termination_by l => l.length
decreasing_by all_goals (simp; try omega)
theorem past_nil : past [] = 0 := by rw [past]
theorem past_cons (c : UInt8) (r : B) : past (c :: r) = if blankC c then past r + 1 else if c.toNat = 35 then 1 + front notNl r + past (r.drop (front notNl r)) else 0 := by rw [past]

inductive I27 (h : Heap) (L : B) (at0 : Nat) : Nat → S → Prop
  | mk (i : Nat) (iv : Int) {x2 x3 x4 x5 x6 x7 x8 x9 x10 x11 x12 x13 x14 x15 x16 x17 x18 x19 x20 x21 x22 x23 x24 x25 x26 x27 x28 x29 x30 x31 x32 x33 x34 x35 x36 x37 x38 x39 x40 x41 x42 x43 x44 x45 x46 : Value} (hiv : iv = (i : Int)) (hi : i ≤ L.length) (hg : at0 + past (L.drop at0) = i + past (L.drop i)) :
    I27 h L at0 (L.length - i) ⟨(F47 (.string (Tx L)) (.int .i64 iv) x2 x3 x4 x5 x6 x7 x8 x9 x10 x11 x12 x13 x14 x15 x16 x17 x18 x19 x20 x21 x22 x23 x24 x25 x26 x27 x28 x29 x30 x31 x32 x33 x34 x35 x36 x37 x38 x39 x40 x41 x42 x43 x44 x45 x46), [], h⟩
inductive J27 (h : Heap) (L : B) (i0 : Nat) : Nat → S → Prop
  | mk (i : Nat) (iv : Int) {x2 x3 x4 x5 x6 x7 x8 x9 x10 x11 x12 x13 x14 x15 x16 x17 x18 x19 x20 x21 x22 x23 x24 x25 x26 x27 x28 x29 x30 x31 x32 x33 x34 x35 x36 x37 x38 x39 x40 x41 x42 x43 x44 x45 x46 : Value} (hiv : iv = (i : Int)) (hi : i ≤ i0 + front notNl (L.drop i0)) (hi0 : i0 ≤ i) :
    J27 h L i0 (L.length - i) ⟨(F47 (.string (Tx L)) (.int .i64 iv) x2 x3 x4 x5 x6 x7 x8 x9 x10 x11 x12 x13 x14 x15 x16 x17 x18 x19 x20 x21 x22 x23 x24 x25 x26 x27 x28 x29 x30 x31 x32 x33 x34 x35 x36 x37 x38 x39 x40 x41 x42 x43 x44 x45 x46), [], h⟩

theorem past_w (L : B) (at0 : Nat) (hat : at0 ≤ L.length) (hL : L.length < 4611686018427387904) :
    CallE (pp G) 27 [.string (Tx L), .int .i64 at0] h (fun v h' => v = .int .i64 ((at0 + past (L.drop at0) : Nat) : Int) ∧ h' = h) := by
  refine CallE.fir4 (good G) fir27 rfl rfl (F47_arr ..) fun hlo => ?_
  rw [sh_ir27]
  simp (disch := first | omega | (refine id ?_; simp only [push_cast]; done) | (refine id ?_; simp only [push_cast]; omega)) only [push_cast, Nat.reduceAdd, Nat.reduceMul, Nat.reduceSub, Nat.reduceLT, Nat.reduceEqDiff, Nat.reduceLeDiff, Int.reduceToNat, reduceCtorEq, Int.reduceLT, Int.reduceLE, Int.reduceAdd, Int.reduceSub, Int.reduceMul, Int.reduceNeg, Int.reduceEq]
  refine W.loop4 (good G) (I27 h L at0) ?_ _ _ (I27.mk at0 at0 rfl hat rfl)
  intro k s1 hI
  cases hI with | mk i iv hiv hi hg
  subst hiv
  rw [sh_ir27_s0]
  simp (disch := first | omega | (refine id ?_; simp only [push_cast]; done) | (refine id ?_; simp only [push_cast]; omega)) only [push_cast, Nat.reduceAdd, Nat.reduceMul, Nat.reduceSub, Nat.reduceLT, Nat.reduceEqDiff, Nat.reduceLeDiff, Int.reduceToNat, reduceCtorEq, Int.reduceLT, Int.reduceLE, Int.reduceAdd, Int.reduceSub, Int.reduceMul, Int.reduceNeg, Int.reduceEq]
  (refine vcond_d (fun hc => ?_) (fun hc => ?_)) <;> (try (simp (disch := first | omega | (refine id ?_; simp only [push_cast]; done) | (refine id ?_; simp only [push_cast]; omega)) only [push_cast, Nat.reduceAdd, Nat.reduceMul, Nat.reduceSub, Nat.reduceLT, Nat.reduceEqDiff, Nat.reduceLeDiff, Int.reduceToNat, reduceCtorEq, Int.reduceLT, Int.reduceLE, Int.reduceAdd, Int.reduceSub, Int.reduceMul, Int.reduceNeg, Int.reduceEq]))
  · have hp : i < L.length := by omega
    rw [sg_at hp, past_cons] at hg
    have b32 := bt_eq L i 32
    have b9 := bt_eq L i 9
    have b10 := bt_eq L i 10
    have b13 := bt_eq L i 13
    cases hb : blankC (L.getD i 0) with
    | true =>
      rw [hb, if_pos rfl] at hg
      unfold blankC at hb
      simp only [decide_eq_true_eq] at hb
      by_cases c32 : bt L i = 32
      · simp (disch := first | omega | (refine id ?_; simp only [push_cast]; done) | (refine id ?_; simp only [push_cast]; omega)) only [push_cast, Nat.reduceAdd, Nat.reduceMul, Nat.reduceSub, Nat.reduceLT, Nat.reduceEqDiff, Nat.reduceLeDiff, Int.reduceToNat, reduceCtorEq, Int.reduceLT, Int.reduceLE, Int.reduceAdd, Int.reduceSub, Int.reduceMul, Int.reduceNeg, Int.reduceEq, Int.toNat_natCast, c32]
        exact ⟨_, by omega, I27.mk (i + 1) _ (by first | rfl | omega) (by omega) (by omega)⟩
      by_cases c9 : bt L i = 9
      · simp (disch := first | omega | (refine id ?_; simp only [push_cast]; done) | (refine id ?_; simp only [push_cast]; omega)) only [push_cast, Nat.reduceAdd, Nat.reduceMul, Nat.reduceSub, Nat.reduceLT, Nat.reduceEqDiff, Nat.reduceLeDiff, Int.reduceToNat, reduceCtorEq, Int.reduceLT, Int.reduceLE, Int.reduceAdd, Int.reduceSub, Int.reduceMul, Int.reduceNeg, Int.reduceEq, Int.toNat_natCast, c32, c9]
        exact ⟨_, by omega, I27.mk (i + 1) _ (by first | rfl | omega) (by omega) (by omega)⟩
      by_cases c10 : bt L i = 10
      · simp (disch := first | omega | (refine id ?_; simp only [push_cast]; done) | (refine id ?_; simp only [push_cast]; omega)) only [push_cast, Nat.reduceAdd, Nat.reduceMul, Nat.reduceSub, Nat.reduceLT, Nat.reduceEqDiff, Nat.reduceLeDiff, Int.reduceToNat, reduceCtorEq, Int.reduceLT, Int.reduceLE, Int.reduceAdd, Int.reduceSub, Int.reduceMul, Int.reduceNeg, Int.reduceEq, Int.toNat_natCast, c32, c9, c10]
        exact ⟨_, by omega, I27.mk (i + 1) _ (by first | rfl | omega) (by omega) (by omega)⟩
      · have c13 : bt L i = 13 := b13.2 (by rcases hb with e | e | e | e; exact absurd (b32.2 e) c32; exact absurd (b9.2 e) c9; exact absurd (b10.2 e) c10; exact e)
        simp (disch := first | omega | (refine id ?_; simp only [push_cast]; done) | (refine id ?_; simp only [push_cast]; omega)) only [push_cast, Nat.reduceAdd, Nat.reduceMul, Nat.reduceSub, Nat.reduceLT, Nat.reduceEqDiff, Nat.reduceLeDiff, Int.reduceToNat, reduceCtorEq, Int.reduceLT, Int.reduceLE, Int.reduceAdd, Int.reduceSub, Int.reduceMul, Int.reduceNeg, Int.reduceEq, Int.toNat_natCast, c32, c9, c10, c13]
        exact ⟨_, by omega, I27.mk (i + 1) _ (by first | rfl | omega) (by omega) (by omega)⟩
    | false =>
      rw [hb, if_neg (by simp)] at hg
      unfold blankC at hb
      simp only [decide_eq_false_iff_not, not_or] at hb
      obtain ⟨e1, e2, e3, e4⟩ := hb
      have c32 : ¬ bt L i = 32 := fun e => e1 (b32.1 e)
      have c9 : ¬ bt L i = 9 := fun e => e2 (b9.1 e)
      have c10 : ¬ bt L i = 10 := fun e => e3 (b10.1 e)
      have c13 : ¬ bt L i = 13 := fun e => e4 (b13.1 e)
      by_cases c35 : bt L i = 35
      · have h35 : (L.getD i 0).toNat = 35 := (bt_eq L i 35).1 c35
        rw [if_pos h35] at hg
        simp (disch := first | omega | (refine id ?_; simp only [push_cast]; done) | (refine id ?_; simp only [push_cast]; omega)) only [push_cast, Nat.reduceAdd, Nat.reduceMul, Nat.reduceSub, Nat.reduceLT, Nat.reduceEqDiff, Nat.reduceLeDiff, Int.reduceToNat, reduceCtorEq, Int.reduceLT, Int.reduceLE, Int.reduceAdd, Int.reduceSub, Int.reduceMul, Int.reduceNeg, Int.reduceEq, Int.toNat_natCast, c32, c9, c10, c13, c35]
        refine W.loop4 (good G) (J27 h L i) ?_ _ _ (J27.mk i i rfl (by omega) (Nat.le_refl _))
        intro k s2 hJ
        cases hJ with | mk j jv hjv hj hij
        subst hjv
        rw [sh_ir27_s2]
        have hF : front notNl (L.drop i) = front notNl (L.drop (i + 1)) + 1 := by
          rw [sg_at hp, front_cons, if_pos]
          unfold notNl; simp only [decide_eq_true_eq]; omega
        have hfl := front_le notNl (L.drop i)
        rw [List.length_drop] at hfl
        rw [List.drop_drop] at hg
        have gd : ∀ m, (L.drop i).getD m 0 = L.getD (i + m) 0 := fun m => by simp only [List.getD_eq_getElem?_getD, List.getElem?_drop]
        have fin : j = i + front notNl (L.drop i) → at0 + past (L.drop at0) = j + past (L.drop j) := fun e => by
          rw [hg, show i + 1 + front notNl (L.drop (i + 1)) = j by omega]; omega
        by_cases h1 : (j : Int) < L.length
        · by_cases h2 : bt L j = 10
          · simp (disch := first | omega | (refine id ?_; simp only [push_cast]; done) | (refine id ?_; simp only [push_cast]; omega)) only [push_cast, Nat.reduceAdd, Nat.reduceMul, Nat.reduceSub, Nat.reduceLT, Nat.reduceEqDiff, Nat.reduceLeDiff, Int.reduceToNat, reduceCtorEq, Int.reduceLT, Int.reduceLE, Int.reduceAdd, Int.reduceSub, Int.reduceMul, Int.reduceNeg, Int.reduceEq, Int.toNat_natCast, h1, h2]
            have he : j = i + front notNl (L.drop i) := by
              rcases Nat.lt_or_ge j (i + front notNl (L.drop i)) with h3 | h3
              · have := front_all notNl (L.drop i) (j - i) (by omega)
                rw [gd, show i + (j - i) = j by omega] at this
                have h4 := (bt_eq L j 10).1 h2
                unfold notNl at this
                simp only [decide_eq_true_eq] at this
                exact absurd h4 this
              · omega
            exact ⟨_, by omega, I27.mk j _ (by first | rfl | omega) (by omega) (fin he)⟩
          · simp (disch := first | omega | (refine id ?_; simp only [push_cast]; done) | (refine id ?_; simp only [push_cast]; omega)) only [push_cast, Nat.reduceAdd, Nat.reduceMul, Nat.reduceSub, Nat.reduceLT, Nat.reduceEqDiff, Nat.reduceLeDiff, Int.reduceToNat, reduceCtorEq, Int.reduceLT, Int.reduceLE, Int.reduceAdd, Int.reduceSub, Int.reduceMul, Int.reduceNeg, Int.reduceEq, Int.toNat_natCast, h1, h2]
            refine ⟨_, ?_, J27.mk (j + 1) _ (by first | rfl | omega) ?_ (by omega)⟩
            · omega
            · rcases Nat.lt_or_ge j (i + front notNl (L.drop i)) with h3 | h3
              · omega
              · exfalso
                have h5 : front notNl (L.drop i) = j - i := by omega
                have := front_end notNl (L.drop i) (by rw [List.length_drop]; omega)
                rw [gd, h5, show i + (j - i) = j by omega] at this
                unfold notNl at this
                simp only [decide_eq_false_iff_not] at this
                exact h2 ((bt_eq L j 10).2 (by omega))
        · simp (disch := first | omega | (refine id ?_; simp only [push_cast]; done) | (refine id ?_; simp only [push_cast]; omega)) only [push_cast, Nat.reduceAdd, Nat.reduceMul, Nat.reduceSub, Nat.reduceLT, Nat.reduceEqDiff, Nat.reduceLeDiff, Int.reduceToNat, reduceCtorEq, Int.reduceLT, Int.reduceLE, Int.reduceAdd, Int.reduceSub, Int.reduceMul, Int.reduceNeg, Int.reduceEq, Int.toNat_natCast, h1]
          have he : j = i + front notNl (L.drop i) := by omega
          exact ⟨_, by omega, I27.mk j _ (by first | rfl | omega) (by omega) (fin he)⟩
      · have h35 : ¬ (L.getD i 0).toNat = 35 := fun e => c35 ((bt_eq L i 35).2 e)
        rw [if_neg h35] at hg
        simp (disch := first | omega | (refine id ?_; simp only [push_cast]; done) | (refine id ?_; simp only [push_cast]; omega)) only [push_cast, Nat.reduceAdd, Nat.reduceMul, Nat.reduceSub, Nat.reduceLT, Nat.reduceEqDiff, Nat.reduceLeDiff, Int.reduceToNat, reduceCtorEq, Int.reduceLT, Int.reduceLE, Int.reduceAdd, Int.reduceSub, Int.reduceMul, Int.reduceNeg, Int.reduceEq, Int.toNat_natCast, c32, c9, c10, c13, c35]
        congr 1; omega
  · have hp : L.drop i = [] := List.drop_eq_nil_of_le (by omega)
    rw [hp, past_nil] at hg
    congr 1; omega
end
end Go.Proofs.Ythjcdbbomfmphaa

namespace Go.Proofs.Ythjcdbbomfmphaa
open Go.RowKit Go.Ev Go.Lx
noncomputable section
set_option linter.unusedSimpArgs false
set_option linter.unusedVariables false
variable (G : Nat) (h : Heap)

inductive I38 (h : Heap) (L : B) (at0 : Nat) : Nat → S → Prop
  | mk (k i : Nat) (iv : Int) {x2 x3 x4 x6 x7 x8 x9 x10 x11 x12 x13 x14 x15 x16 x17 x18 x19 x20 x21 x22 x23 x24 x25 x26 x27 x28 x29 x30 x31 x32 x33 x34 x35 x36 x37 : Value} (hiv : iv = (i : Int)) (hi : i = 2 * k) (hk : k ≤ 8) (hn : ∀ j, j < k → (L.drop at0).take 2 ≠ doubles.getD j []) :
    I38 h L at0 (8 - k) ⟨(F38 (.string (Tx L)) (.int .i64 at0) x2 x3 x4 (.int .i64 iv) x6 x7 x8 x9 x10 x11 x12 x13 x14 x15 x16 x17 x18 x19 x20 x21 x22 x23 x24 x25 x26 x27 x28 x29 x30 x31 x32 x33 x34 x35 x36 x37), [], h⟩
inductive J38 (h : Heap) (L : B) (at0 : Nat) : Nat → S → Prop
  | mk (k : Nat) (iv : Int) {x2 x3 x4 x5 x7 x8 x9 x10 x11 x12 x13 x14 x15 x16 x17 x18 x19 x20 x21 x22 x23 x24 x25 x26 x27 x28 x29 x30 x31 x32 x33 x34 x35 x36 x37 : Value} (hiv : iv = (k : Int)) (hk : k ≤ 13) (hn : ∀ j, j < k → L.getD at0 0 ≠ singles.getD j 0) :
    J38 h L at0 (13 - k) ⟨(F38 (.string (Tx L)) (.int .i64 at0) x2 x3 x4 x5 (.int .i64 iv) x7 x8 x9 x10 x11 x12 x13 x14 x15 x16 x17 x18 x19 x20 x21 x22 x23 x24 x25 x26 x27 x28 x29 x30 x31 x32 x33 x34 x35 x36 x37), [], h⟩

theorem mem_getD {α : Type} [DecidableEq α] {l : List α} {d x : α} (h : x ∈ l) : ∃ j, j < l.length ∧ x = l.getD j d := by
  obtain ⟨j, hj⟩ := List.getElem?_of_mem h
  have := (List.getElem?_eq_some_iff.1 hj).1
  exact ⟨j, this, by rw [List.getD_eq_getElem?_getD, hj]; rfl⟩

theorem rmark_w (L : B) (at0 : Nat) (hat : at0 < L.length) (hL : L.length < 4611686018427387904) :
    CallE (pp G) 38 [.string (Tx L), .int .i64 at0] h (fun v h' => v = .int .i64 (markN (L.drop at0)) ∧ h' = h) := by
  refine CallE.fir4 (good G) fir38 rfl rfl (F38_arr ..) fun hlo => ?_
  rw [sh_ir38]
  have g0 : (L.drop at0).getD 0 0 = L.getD at0 0 := by simp only [List.getD_eq_getElem?_getD, List.getElem?_drop, Nat.add_zero]
  have hlen : (L.drop at0).length = L.length - at0 := List.length_drop
  simp (disch := first | omega | (refine id ?_; simp only [push_cast]; done) | (refine id ?_; simp only [push_cast]; omega)) only [push_cast, Nat.reduceAdd, Nat.reduceMul, Nat.reduceSub, Nat.reduceLT, Nat.reduceEqDiff, Nat.reduceLeDiff, Int.reduceToNat, reduceCtorEq, Int.reduceLT, Int.reduceLE, Int.reduceAdd, Int.reduceSub, Int.reduceMul, Int.reduceNeg, Int.reduceEq]
  refine W.loop4 (good G) (I38 h L at0) ?_ _ _ (I38.mk 0 0 0 rfl rfl (by omega) (fun j hj => by omega))
  intro k s1 hI
  cases hI with | mk k i iv hiv hi hk hn
  subst hiv
  rw [sh_ir38_s0]
  by_cases h16 : (i : Int) < 16
  · by_cases hl2 : (at0 : Int) + 2 ≤ L.length
    · have hk8 : k < 8 := by omega
      have t1 : ((at0 : Int) + 2).toNat = at0 + 2 := by omega
      have t2 : ((i : Int) + 2).toNat = i + 2 := by omega
      have t3 : at0 + 2 - at0 = 2 := by omega
      have hd : List.take (i + 2 - i) (List.drop i [58, 61, 45, 62, 61, 61, 33, 61, 60, 61, 62, 61, 38, 38, 124, 124]) = doubles.getD k [] := by
        subst hi
        have : ∀ k, k < 8 → List.take (2 * k + 2 - 2 * k) (List.drop (2 * k) [58, 61, 45, 62, 61, 61, 33, 61, 60, 61, 62, 61, 38, 38, 124, 124]) = doubles.getD k [] := by decide
        exact this k hk8
      by_cases he : (L.drop at0).take 2 = doubles.getD k []
      · simp (disch := first | omega | (refine id ?_; simp only [push_cast]; done) | (refine id ?_; simp only [push_cast]; omega)) only [push_cast, Nat.reduceAdd, Nat.reduceMul, Nat.reduceSub, Nat.reduceLT, Nat.reduceEqDiff, Nat.reduceLeDiff, Int.reduceToNat, reduceCtorEq, Int.reduceLT, Int.reduceLE, Int.reduceAdd, Int.reduceSub, Int.reduceMul, Int.reduceNeg, Int.reduceEq, Int.toNat_natCast, h16, hl2, t1, t2, t3, hd, he]
        have hm : markN (L.drop at0) = 2 := by
          unfold markN
          rw [if_pos]
          refine ⟨by omega, ?_⟩
          rw [he, List.getD_eq_getElem?_getD, List.getElem?_eq_getElem (show k < doubles.length by show k < 8; omega)]
          exact List.getElem_mem _
        rw [hm]; rfl
      · simp (disch := first | omega | (refine id ?_; simp only [push_cast]; done) | (refine id ?_; simp only [push_cast]; omega)) only [push_cast, Nat.reduceAdd, Nat.reduceMul, Nat.reduceSub, Nat.reduceLT, Nat.reduceEqDiff, Nat.reduceLeDiff, Int.reduceToNat, reduceCtorEq, Int.reduceLT, Int.reduceLE, Int.reduceAdd, Int.reduceSub, Int.reduceMul, Int.reduceNeg, Int.reduceEq, Int.toNat_natCast, h16, hl2, t1, t2, t3, hd, he]
        refine ⟨_, by omega, I38.mk (k + 1) (i + 2) _ (by first | rfl | omega) (by omega) (by omega) fun j hj e => ?_⟩
        rcases Nat.lt_or_ge j k with h3 | h3
        · exact hn j h3 e
        · have : j = k := by omega
          subst this
          exact he e
    · have hnd : ¬ (1 < (L.drop at0).length ∧ (L.drop at0).take 2 ∈ doubles) := fun hh => by omega
      simp (disch := first | omega | (refine id ?_; simp only [push_cast]; done) | (refine id ?_; simp only [push_cast]; omega)) only [push_cast, Nat.reduceAdd, Nat.reduceMul, Nat.reduceSub, Nat.reduceLT, Nat.reduceEqDiff, Nat.reduceLeDiff, Int.reduceToNat, reduceCtorEq, Int.reduceLT, Int.reduceLE, Int.reduceAdd, Int.reduceSub, Int.reduceMul, Int.reduceNeg, Int.reduceEq, h16, hl2]
      refine W.loop4 (good G) (J38 h L at0) ?_ _ _ (J38.mk 0 0 rfl (by omega) (fun j hj => by omega))
      intro k2 s2 hJ
      cases hJ with | mk k2 iv2 hiv2 hk2 hn2
      subst hiv2
      rw [sh_ir38_s2]
      by_cases h13 : (k2 : Int) < 13
      · by_cases he : bt L at0 = bt [123, 125, 40, 41, 59, 43, 45, 42, 47, 37, 60, 62, 33] k2
        · simp (disch := first | omega | (refine id ?_; simp only [push_cast]; done) | (refine id ?_; simp only [push_cast]; omega)) only [push_cast, Nat.reduceAdd, Nat.reduceMul, Nat.reduceSub, Nat.reduceLT, Nat.reduceEqDiff, Nat.reduceLeDiff, Int.reduceToNat, reduceCtorEq, Int.reduceLT, Int.reduceLE, Int.reduceAdd, Int.reduceSub, Int.reduceMul, Int.reduceNeg, Int.reduceEq, Int.toNat_natCast, h13, he]
          have e2 : L.getD at0 0 = singles.getD k2 0 := by
            unfold bt at he
            exact UInt8.toNat_inj.1 (Int.ofNat.inj he)
          have hm : markN (L.drop at0) = 1 := by
            unfold markN
            rw [if_neg hnd, g0, if_pos]
            rw [e2, List.getD_eq_getElem?_getD, List.getElem?_eq_getElem (show k2 < singles.length by show k2 < 13; omega)]
            exact List.getElem_mem _
          rw [hm]; rfl
        · simp (disch := first | omega | (refine id ?_; simp only [push_cast]; done) | (refine id ?_; simp only [push_cast]; omega)) only [push_cast, Nat.reduceAdd, Nat.reduceMul, Nat.reduceSub, Nat.reduceLT, Nat.reduceEqDiff, Nat.reduceLeDiff, Int.reduceToNat, reduceCtorEq, Int.reduceLT, Int.reduceLE, Int.reduceAdd, Int.reduceSub, Int.reduceMul, Int.reduceNeg, Int.reduceEq, Int.toNat_natCast, h13, he]
          refine ⟨_, by omega, J38.mk (k2 + 1) _ (by first | rfl | omega) (by omega) fun j hj e => ?_⟩
          rcases Nat.lt_or_ge j k2 with h3 | h3
          · exact hn2 j h3 e
          · have : j = k2 := by omega
            subst this
            exact he (by unfold bt; rw [e]; rfl)
      · simp (disch := first | omega | (refine id ?_; simp only [push_cast]; done) | (refine id ?_; simp only [push_cast]; omega)) only [push_cast, Nat.reduceAdd, Nat.reduceMul, Nat.reduceSub, Nat.reduceLT, Nat.reduceEqDiff, Nat.reduceLeDiff, Int.reduceToNat, reduceCtorEq, Int.reduceLT, Int.reduceLE, Int.reduceAdd, Int.reduceSub, Int.reduceMul, Int.reduceNeg, Int.reduceEq, h13]
        have hm : markN (L.drop at0) = 0 := by
          unfold markN
          rw [if_neg hnd, g0, if_neg]
          intro hmem
          obtain ⟨j, hj, e⟩ := mem_getD (d := 0) hmem
          exact hn2 j (by have : singles.length = 13 := rfl; omega) e
        rw [hm]; rfl
  · have hnd : ¬ (1 < (L.drop at0).length ∧ (L.drop at0).take 2 ∈ doubles) := fun hh => by
      obtain ⟨j, hj, e⟩ := mem_getD (d := []) hh.2
      exact hn j (by have : doubles.length = 8 := rfl; omega) e
    simp (disch := first | omega | (refine id ?_; simp only [push_cast]; done) | (refine id ?_; simp only [push_cast]; omega)) only [push_cast, Nat.reduceAdd, Nat.reduceMul, Nat.reduceSub, Nat.reduceLT, Nat.reduceEqDiff, Nat.reduceLeDiff, Int.reduceToNat, reduceCtorEq, Int.reduceLT, Int.reduceLE, Int.reduceAdd, Int.reduceSub, Int.reduceMul, Int.reduceNeg, Int.reduceEq, h16]
    refine W.loop4 (good G) (J38 h L at0) ?_ _ _ (J38.mk 0 0 rfl (by omega) (fun j hj => by omega))
    intro k2 s2 hJ
    cases hJ with | mk k2 iv2 hiv2 hk2 hn2
    subst hiv2
    rw [sh_ir38_s2]
    by_cases h13 : (k2 : Int) < 13
    · by_cases he : bt L at0 = bt [123, 125, 40, 41, 59, 43, 45, 42, 47, 37, 60, 62, 33] k2
      · simp (disch := first | omega | (refine id ?_; simp only [push_cast]; done) | (refine id ?_; simp only [push_cast]; omega)) only [push_cast, Nat.reduceAdd, Nat.reduceMul, Nat.reduceSub, Nat.reduceLT, Nat.reduceEqDiff, Nat.reduceLeDiff, Int.reduceToNat, reduceCtorEq, Int.reduceLT, Int.reduceLE, Int.reduceAdd, Int.reduceSub, Int.reduceMul, Int.reduceNeg, Int.reduceEq, Int.toNat_natCast, h13, he]
        have e2 : L.getD at0 0 = singles.getD k2 0 := by
          unfold bt at he
          exact UInt8.toNat_inj.1 (Int.ofNat.inj he)
        have hm : markN (L.drop at0) = 1 := by
          unfold markN
          rw [if_neg hnd, g0, if_pos]
          rw [e2, List.getD_eq_getElem?_getD, List.getElem?_eq_getElem (show k2 < singles.length by show k2 < 13; omega)]
          exact List.getElem_mem _
        rw [hm]; rfl
      · simp (disch := first | omega | (refine id ?_; simp only [push_cast]; done) | (refine id ?_; simp only [push_cast]; omega)) only [push_cast, Nat.reduceAdd, Nat.reduceMul, Nat.reduceSub, Nat.reduceLT, Nat.reduceEqDiff, Nat.reduceLeDiff, Int.reduceToNat, reduceCtorEq, Int.reduceLT, Int.reduceLE, Int.reduceAdd, Int.reduceSub, Int.reduceMul, Int.reduceNeg, Int.reduceEq, Int.toNat_natCast, h13, he]
        refine ⟨_, by omega, J38.mk (k2 + 1) _ (by first | rfl | omega) (by omega) fun j hj e => ?_⟩
        rcases Nat.lt_or_ge j k2 with h3 | h3
        · exact hn2 j h3 e
        · have : j = k2 := by omega
          subst this
          exact he (by unfold bt; rw [e]; rfl)
    · simp (disch := first | omega | (refine id ?_; simp only [push_cast]; done) | (refine id ?_; simp only [push_cast]; omega)) only [push_cast, Nat.reduceAdd, Nat.reduceMul, Nat.reduceSub, Nat.reduceLT, Nat.reduceEqDiff, Nat.reduceLeDiff, Int.reduceToNat, reduceCtorEq, Int.reduceLT, Int.reduceLE, Int.reduceAdd, Int.reduceSub, Int.reduceMul, Int.reduceNeg, Int.reduceEq, h13]
      have hm : markN (L.drop at0) = 0 := by
        unfold markN
        rw [if_neg hnd, g0, if_neg]
        intro hmem
        obtain ⟨j, hj, e⟩ := mem_getD (d := 0) hmem
        exact hn2 j (by have : singles.length = 13 := rfl; omega) e
      rw [hm]; rfl
end
end Go.Proofs.Ythjcdbbomfmphaa

namespace Go.Proofs.Ythjcdbbomfmphaa
open Go.RowKit Go.Ev Go.Lx
noncomputable section
set_option linter.unusedSimpArgs false
set_option linter.unusedVariables false
variable (G : Nat) (h : Heap)

def roneV (L : B) (p : Nat) : One → Value
  | .bad e => .tuple #[sgV 0 [] 0, .int .i64 e]
  | .ok k n => .tuple #[sgV k ((L.drop p).take n) p, .int .i64 0]
abbrev zsg : AObj := O [.int .i64 0, .string (Tx []), .int .i64 0] 39 false

inductive I28 (h : Heap) (L : B) (p : Nat) (q : UInt8 → Bool) : Nat → S → Prop
  | mk (t : Nat) (tv : Int) {x2 x3 x5 x8 x9 x10 x11 x12 x13 x14 x15 x16 x17 x18 x19 x20 x21 x22 x23 x24 x25 x26 x27 x28 x29 x30 x31 x32 x33 x34 x35 x36 x37 x38 x39 x40 x41 x42 x43 x44 x45 x46 x47 x48 x49 x50 x51 x52 x53 x54 x55 x56 x57 x58 x59 x60 x61 x62 x63 x64 x65 x66 x67 x68 x69 x70 x71 x72 x73 x74 x75 x76 x77 x78 x79 x80 x81 x82 x83 x84 x85 x86 x87 x88 x89 x90 x91 x92 x93 x94 x95 x96 x97 : Value} (htv : tv = (t : Int)) (h1 : p ≤ t) (h2 : t ≤ p + front q (L.drop p)) :
    I28 h L p q (L.length - t) ⟨(F98 (.string (Tx L)) (.int .i64 p) x2 x3 (.pointer (some ⟨h.next, 0, none⟩)) x5 (.int .i64 tv) (.int .u8 (bt L p)) x8 x9 x10 x11 x12 x13 x14 x15 x16 x17 x18 x19 x20 x21 x22 x23 x24 x25 x26 x27 x28 x29 x30 x31 x32 x33 x34 x35 x36 x37 x38 x39 x40 x41 x42 x43 x44 x45 x46 x47 x48 x49 x50 x51 x52 x53 x54 x55 x56 x57 x58 x59 x60 x61 x62 x63 x64 x65 x66 x67 x68 x69 x70 x71 x72 x73 x74 x75 x76 x77 x78 x79 x80 x81 x82 x83 x84 x85 x86 x87 x88 x89 x90 x91 x92 x93 x94 x95 x96 x97), [], h.add zsg⟩

theorem front_at {q : UInt8 → Bool} {L : B} {p t : Nat} (h1 : p ≤ t) (h2 : t ≤ p + front q (L.drop p)) (ht : t < L.length) : (q (L.getD t 0) = true ↔ t < p + front q (L.drop p)) := by
  have gd : ∀ m, (L.drop p).getD m 0 = L.getD (p + m) 0 := fun m => by simp only [List.getD_eq_getElem?_getD, List.getElem?_drop]
  constructor
  · intro hq
    rcases Nat.lt_or_ge t (p + front q (L.drop p)) with h3 | h3
    · exact h3
    · have := front_end q (L.drop p) (by rw [List.length_drop]; omega)
      rw [gd, show p + front q (L.drop p) = t by omega, hq] at this
      cases this
  · intro h3
    have := front_all q (L.drop p) (t - p) (by omega)
    rw [gd, show p + (t - p) = t by omega] at this
    exact this

theorem rone_w (L : B) (p : Nat) (hp : p < L.length) (hL : L.length < 4611686018427387904) :
    CallE (pp G) 28 [.string (Tx L), .int .i64 p] h (fun v h' => v = roneV L p (Lx.one (L.drop p)) ∧ Gr h h') := by
  refine CallE.fir4 (good G) fir28 rfl rfl (F98_arr ..) fun hlo => ?_
  rw [sh_ir28]
  have g0 : (L.drop p).getD 0 0 = L.getD p 0 := by simp only [List.getD_eq_getElem?_getD, List.getElem?_drop, Nat.add_zero]
  have hfw := front_le wordy (L.drop p)
  have hfd := front_le digit (L.drop p)
  rw [List.length_drop] at hfw hfd
  simp (disch := first | omega | (refine id ?_; simp only [push_cast]; done) | (refine id ?_; simp only [push_cast]; omega)) only [push_cast, Nat.reduceAdd, Nat.reduceMul, Nat.reduceSub, Nat.reduceLT, Nat.reduceEqDiff, Nat.reduceLeDiff, Int.reduceToNat, reduceCtorEq, Int.reduceLT, Int.reduceLE, Int.reduceAdd, Int.reduceSub, Int.reduceMul, Int.reduceNeg, Int.reduceEq, Int.toNat_natCast]
  refine CallE.to (rword_w G _ (L.getD p 0) true) ?_
  rintro _ h1 ⟨rfl, rfl⟩
  unfold Lx.one
  rw [g0, if_pos rfl]
  cases hs : small (L.getD p 0) with
  | true =>
    simp (disch := first | omega | (refine id ?_; simp only [push_cast]; done) | (refine id ?_; simp only [push_cast]; omega)) only [push_cast, Nat.reduceAdd, Nat.reduceMul, Nat.reduceSub, Nat.reduceLT, Nat.reduceEqDiff, Nat.reduceLeDiff, Int.reduceToNat, reduceCtorEq, Int.reduceLT, Int.reduceLE, Int.reduceAdd, Int.reduceSub, Int.reduceMul, Int.reduceNeg, Int.reduceEq]
    refine W.loop4 (good G) (I28 h L p wordy) ?_ _ _ (I28.mk p p rfl (Nat.le_refl _) (by omega))
    intro k s1 hI
    cases hI with | mk t tv htv ht1 ht2
    subst htv
    rw [sh_ir28_s0]
    by_cases hlt : (t : Int) < L.length
    · simp (disch := first | omega | (refine id ?_; simp only [push_cast]; done) | (refine id ?_; simp only [push_cast]; omega)) only [push_cast, Nat.reduceAdd, Nat.reduceMul, Nat.reduceSub, Nat.reduceLT, Nat.reduceEqDiff, Nat.reduceLeDiff, Int.reduceToNat, reduceCtorEq, Int.reduceLT, Int.reduceLE, Int.reduceAdd, Int.reduceSub, Int.reduceMul, Int.reduceNeg, Int.reduceEq, Int.toNat_natCast, hlt]
      refine CallE.to (rword_w G _ (L.getD t 0) false) ?_
      rintro _ h1 ⟨rfl, rfl⟩
      have hfa := front_at ht1 ht2 (by omega)
      simp only [Bool.false_eq_true, if_false]
      cases hw : wordy (L.getD t 0) with
      | true =>
        simp (disch := first | omega | (refine id ?_; simp only [push_cast]; done) | (refine id ?_; simp only [push_cast]; omega)) only [push_cast, Nat.reduceAdd, Nat.reduceMul, Nat.reduceSub, Nat.reduceLT, Nat.reduceEqDiff, Nat.reduceLeDiff, Int.reduceToNat, reduceCtorEq, Int.reduceLT, Int.reduceLE, Int.reduceAdd, Int.reduceSub, Int.reduceMul, Int.reduceNeg, Int.reduceEq, hlt]
        exact ⟨_, by omega, I28.mk (t + 1) _ (by first | rfl | omega) (by omega) (by have := hfa.1 hw; omega)⟩
      | false =>
        have ht : t = p + front wordy (L.drop p) := by
          rcases Nat.lt_or_ge t (p + front wordy (L.drop p)) with h3 | h3
          · rw [hfa.2 h3] at hw; cases hw
          · omega
        simp (disch := first | omega | (refine id ?_; simp only [push_cast]; done) | (refine id ?_; simp only [push_cast]; omega)) only [push_cast, Nat.reduceAdd, Nat.reduceMul, Nat.reduceSub, Nat.reduceLT, Nat.reduceEqDiff, Nat.reduceLeDiff, Int.reduceToNat, reduceCtorEq, Int.reduceLT, Int.reduceLE, Int.reduceAdd, Int.reduceSub, Int.reduceMul, Int.reduceNeg, Int.reduceEq, hlt]
        have htp : t - p = front wordy (L.drop p) := by omega
        (refine vcond_d (fun hc => ?_) (fun hc => ?_)) <;> (try (simp (disch := first | omega | (refine id ?_; simp only [push_cast]; done) | (refine id ?_; simp only [push_cast]; omega)) only [push_cast, Nat.reduceAdd, Nat.reduceMul, Nat.reduceSub, Nat.reduceLT, Nat.reduceEqDiff, Nat.reduceLeDiff, Int.reduceToNat, reduceCtorEq, Int.reduceLT, Int.reduceLE, Int.reduceAdd, Int.reduceSub, Int.reduceMul, Int.reduceNeg, Int.reduceEq]))
        · have hb : 20 < front wordy (L.drop p) := by omega
          rw [if_pos hb]; exact ⟨rfl, by (repeat (first | exact Gr.refl _ | assumption | (refine Grew.put' ?_ _ _ (by first | omega | (simp only [push_cast]; omega))) | (refine Grew.add' ?_ _)))⟩
        · have hb : ¬ 20 < front wordy (L.drop p) := by omega
          simp (disch := first | omega | (refine id ?_; simp only [push_cast]; done) | (refine id ?_; simp only [push_cast]; omega)) only [push_cast, Nat.reduceAdd, Nat.reduceMul, Nat.reduceSub, Nat.reduceLT, Nat.reduceEqDiff, Nat.reduceLeDiff, Int.reduceToNat, reduceCtorEq, Int.reduceLT, Int.reduceLE, Int.reduceAdd, Int.reduceSub, Int.reduceMul, Int.reduceNeg, Int.reduceEq, Int.toNat_natCast, htp]
          rw [if_neg hb]
          exact ⟨rfl, by (repeat (first | exact Gr.refl _ | assumption | (refine Grew.put' ?_ _ _ (by first | omega | (simp only [push_cast]; omega))) | (refine Grew.add' ?_ _)))⟩
    · have ht : t = p + front wordy (L.drop p) := by omega
      simp (disch := first | omega | (refine id ?_; simp only [push_cast]; done) | (refine id ?_; simp only [push_cast]; omega)) only [push_cast, Nat.reduceAdd, Nat.reduceMul, Nat.reduceSub, Nat.reduceLT, Nat.reduceEqDiff, Nat.reduceLeDiff, Int.reduceToNat, reduceCtorEq, Int.reduceLT, Int.reduceLE, Int.reduceAdd, Int.reduceSub, Int.reduceMul, Int.reduceNeg, Int.reduceEq, hlt]
      have htp : t - p = front wordy (L.drop p) := by omega
      (refine vcond_d (fun hc => ?_) (fun hc => ?_)) <;> (try (simp (disch := first | omega | (refine id ?_; simp only [push_cast]; done) | (refine id ?_; simp only [push_cast]; omega)) only [push_cast, Nat.reduceAdd, Nat.reduceMul, Nat.reduceSub, Nat.reduceLT, Nat.reduceEqDiff, Nat.reduceLeDiff, Int.reduceToNat, reduceCtorEq, Int.reduceLT, Int.reduceLE, Int.reduceAdd, Int.reduceSub, Int.reduceMul, Int.reduceNeg, Int.reduceEq]))
      · have hb : 20 < front wordy (L.drop p) := by omega
        rw [if_pos hb]; exact ⟨rfl, by (repeat (first | exact Gr.refl _ | assumption | (refine Grew.put' ?_ _ _ (by first | omega | (simp only [push_cast]; omega))) | (refine Grew.add' ?_ _)))⟩
      · have hb : ¬ 20 < front wordy (L.drop p) := by omega
        simp (disch := first | omega | (refine id ?_; simp only [push_cast]; done) | (refine id ?_; simp only [push_cast]; omega)) only [push_cast, Nat.reduceAdd, Nat.reduceMul, Nat.reduceSub, Nat.reduceLT, Nat.reduceEqDiff, Nat.reduceLeDiff, Int.reduceToNat, reduceCtorEq, Int.reduceLT, Int.reduceLE, Int.reduceAdd, Int.reduceSub, Int.reduceMul, Int.reduceNeg, Int.reduceEq, Int.toNat_natCast, htp]
        rw [if_neg hb]
        exact ⟨rfl, by (repeat (first | exact Gr.refl _ | assumption | (refine Grew.put' ?_ _ _ (by first | omega | (simp only [push_cast]; omega))) | (refine Grew.add' ?_ _)))⟩
  | false =>
    rw [if_neg (by simp)]
    by_cases h48 : 48 ≤ bt L p
    · by_cases h57 : bt L p ≤ 57
      · have hd : digit (L.getD p 0) = true := by unfold digit; unfold bt at h48 h57; simp only [decide_eq_true_eq]; omega
        rw [if_pos hd]
        simp (disch := first | omega | (refine id ?_; simp only [push_cast]; done) | (refine id ?_; simp only [push_cast]; omega)) only [push_cast, Nat.reduceAdd, Nat.reduceMul, Nat.reduceSub, Nat.reduceLT, Nat.reduceEqDiff, Nat.reduceLeDiff, Int.reduceToNat, reduceCtorEq, Int.reduceLT, Int.reduceLE, Int.reduceAdd, Int.reduceSub, Int.reduceMul, Int.reduceNeg, Int.reduceEq, h48, h57]
        refine W.loop4 (good G) (I28 h L p digit) ?_ _ _ (I28.mk p p rfl (Nat.le_refl _) (by omega))
        intro k s1 hI
        cases hI with | mk t tv htv ht1 ht2
        subst htv
        rw [sh_ir28_s3]
        by_cases hlt : (t : Int) < L.length
        · have hfa := front_at ht1 ht2 (by omega)
          have hdt : digit (L.getD t 0) = true ↔ (48 ≤ bt L t ∧ bt L t ≤ 57) := by unfold digit bt; simp only [decide_eq_true_eq]; omega
          by_cases e1 : 48 ≤ bt L t
          · by_cases e2 : bt L t ≤ 57
            · simp (disch := first | omega | (refine id ?_; simp only [push_cast]; done) | (refine id ?_; simp only [push_cast]; omega)) only [push_cast, Nat.reduceAdd, Nat.reduceMul, Nat.reduceSub, Nat.reduceLT, Nat.reduceEqDiff, Nat.reduceLeDiff, Int.reduceToNat, reduceCtorEq, Int.reduceLT, Int.reduceLE, Int.reduceAdd, Int.reduceSub, Int.reduceMul, Int.reduceNeg, Int.reduceEq, Int.toNat_natCast, hlt, e1, e2]
              exact ⟨_, by omega, I28.mk (t + 1) _ (by first | rfl | omega) (by omega) (by have := hfa.1 (hdt.2 ⟨e1, e2⟩); omega)⟩
            · have ht : t = p + front digit (L.drop p) := by
                rcases Nat.lt_or_ge t (p + front digit (L.drop p)) with h3 | h3
                · exact absurd (hdt.1 (hfa.2 h3)).2 e2
                · omega
              have htp : t - p = front digit (L.drop p) := by omega
              simp (disch := first | omega | (refine id ?_; simp only [push_cast]; done) | (refine id ?_; simp only [push_cast]; omega)) only [push_cast, Nat.reduceAdd, Nat.reduceMul, Nat.reduceSub, Nat.reduceLT, Nat.reduceEqDiff, Nat.reduceLeDiff, Int.reduceToNat, reduceCtorEq, Int.reduceLT, Int.reduceLE, Int.reduceAdd, Int.reduceSub, Int.reduceMul, Int.reduceNeg, Int.reduceEq, Int.toNat_natCast, hlt, e1, e2]
              (refine vcond_d (fun hc => ?_) (fun hc => ?_)) <;> (try (simp (disch := first | omega | (refine id ?_; simp only [push_cast]; done) | (refine id ?_; simp only [push_cast]; omega)) only [push_cast, Nat.reduceAdd, Nat.reduceMul, Nat.reduceSub, Nat.reduceLT, Nat.reduceEqDiff, Nat.reduceLeDiff, Int.reduceToNat, reduceCtorEq, Int.reduceLT, Int.reduceLE, Int.reduceAdd, Int.reduceSub, Int.reduceMul, Int.reduceNeg, Int.reduceEq]))
              · have hb : 18 < front digit (L.drop p) := by omega
                rw [if_pos hb]; exact ⟨rfl, by (repeat (first | exact Gr.refl _ | assumption | (refine Grew.put' ?_ _ _ (by first | omega | (simp only [push_cast]; omega))) | (refine Grew.add' ?_ _)))⟩
              · have hb : ¬ 18 < front digit (L.drop p) := by omega
                rw [if_neg hb]
                by_cases h1 : 1 < (t : Int) - p
                · by_cases hz : bt L p = 48
                  · simp (disch := first | omega | (refine id ?_; simp only [push_cast]; done) | (refine id ?_; simp only [push_cast]; omega)) only [push_cast, Nat.reduceAdd, Nat.reduceMul, Nat.reduceSub, Nat.reduceLT, Nat.reduceEqDiff, Nat.reduceLeDiff, Int.reduceToNat, reduceCtorEq, Int.reduceLT, Int.reduceLE, Int.reduceAdd, Int.reduceSub, Int.reduceMul, Int.reduceNeg, Int.reduceEq, h1, hz]
                    rw [if_pos ⟨by omega, by unfold bt at hz; omega⟩]; exact ⟨rfl, by (repeat (first | exact Gr.refl _ | assumption | (refine Grew.put' ?_ _ _ (by first | omega | (simp only [push_cast]; omega))) | (refine Grew.add' ?_ _)))⟩
                  · simp (disch := first | omega | (refine id ?_; simp only [push_cast]; done) | (refine id ?_; simp only [push_cast]; omega)) only [push_cast, Nat.reduceAdd, Nat.reduceMul, Nat.reduceSub, Nat.reduceLT, Nat.reduceEqDiff, Nat.reduceLeDiff, Int.reduceToNat, reduceCtorEq, Int.reduceLT, Int.reduceLE, Int.reduceAdd, Int.reduceSub, Int.reduceMul, Int.reduceNeg, Int.reduceEq, Int.toNat_natCast, htp, h1, hz]
                    rw [if_neg (fun hh => hz (by unfold bt; omega))]; exact ⟨rfl, by (repeat (first | exact Gr.refl _ | assumption | (refine Grew.put' ?_ _ _ (by first | omega | (simp only [push_cast]; omega))) | (refine Grew.add' ?_ _)))⟩
                · simp (disch := first | omega | (refine id ?_; simp only [push_cast]; done) | (refine id ?_; simp only [push_cast]; omega)) only [push_cast, Nat.reduceAdd, Nat.reduceMul, Nat.reduceSub, Nat.reduceLT, Nat.reduceEqDiff, Nat.reduceLeDiff, Int.reduceToNat, reduceCtorEq, Int.reduceLT, Int.reduceLE, Int.reduceAdd, Int.reduceSub, Int.reduceMul, Int.reduceNeg, Int.reduceEq, Int.toNat_natCast, htp, h1]
                  rw [if_neg (fun hh => by omega)]; exact ⟨rfl, by (repeat (first | exact Gr.refl _ | assumption | (refine Grew.put' ?_ _ _ (by first | omega | (simp only [push_cast]; omega))) | (refine Grew.add' ?_ _)))⟩
          · have ht : t = p + front digit (L.drop p) := by
              rcases Nat.lt_or_ge t (p + front digit (L.drop p)) with h3 | h3
              · exact absurd (hdt.1 (hfa.2 h3)).1 e1
              · omega
            have htp : t - p = front digit (L.drop p) := by omega
            simp (disch := first | omega | (refine id ?_; simp only [push_cast]; done) | (refine id ?_; simp only [push_cast]; omega)) only [push_cast, Nat.reduceAdd, Nat.reduceMul, Nat.reduceSub, Nat.reduceLT, Nat.reduceEqDiff, Nat.reduceLeDiff, Int.reduceToNat, reduceCtorEq, Int.reduceLT, Int.reduceLE, Int.reduceAdd, Int.reduceSub, Int.reduceMul, Int.reduceNeg, Int.reduceEq, Int.toNat_natCast, hlt, e1]
            (refine vcond_d (fun hc => ?_) (fun hc => ?_)) <;> (try (simp (disch := first | omega | (refine id ?_; simp only [push_cast]; done) | (refine id ?_; simp only [push_cast]; omega)) only [push_cast, Nat.reduceAdd, Nat.reduceMul, Nat.reduceSub, Nat.reduceLT, Nat.reduceEqDiff, Nat.reduceLeDiff, Int.reduceToNat, reduceCtorEq, Int.reduceLT, Int.reduceLE, Int.reduceAdd, Int.reduceSub, Int.reduceMul, Int.reduceNeg, Int.reduceEq]))
            · have hb : 18 < front digit (L.drop p) := by omega
              rw [if_pos hb]; exact ⟨rfl, by (repeat (first | exact Gr.refl _ | assumption | (refine Grew.put' ?_ _ _ (by first | omega | (simp only [push_cast]; omega))) | (refine Grew.add' ?_ _)))⟩
            · have hb : ¬ 18 < front digit (L.drop p) := by omega
              rw [if_neg hb]
              by_cases h1 : 1 < (t : Int) - p
              · by_cases hz : bt L p = 48
                · simp (disch := first | omega | (refine id ?_; simp only [push_cast]; done) | (refine id ?_; simp only [push_cast]; omega)) only [push_cast, Nat.reduceAdd, Nat.reduceMul, Nat.reduceSub, Nat.reduceLT, Nat.reduceEqDiff, Nat.reduceLeDiff, Int.reduceToNat, reduceCtorEq, Int.reduceLT, Int.reduceLE, Int.reduceAdd, Int.reduceSub, Int.reduceMul, Int.reduceNeg, Int.reduceEq, h1, hz]
                  rw [if_pos ⟨by omega, by unfold bt at hz; omega⟩]; exact ⟨rfl, by (repeat (first | exact Gr.refl _ | assumption | (refine Grew.put' ?_ _ _ (by first | omega | (simp only [push_cast]; omega))) | (refine Grew.add' ?_ _)))⟩
                · simp (disch := first | omega | (refine id ?_; simp only [push_cast]; done) | (refine id ?_; simp only [push_cast]; omega)) only [push_cast, Nat.reduceAdd, Nat.reduceMul, Nat.reduceSub, Nat.reduceLT, Nat.reduceEqDiff, Nat.reduceLeDiff, Int.reduceToNat, reduceCtorEq, Int.reduceLT, Int.reduceLE, Int.reduceAdd, Int.reduceSub, Int.reduceMul, Int.reduceNeg, Int.reduceEq, Int.toNat_natCast, htp, h1, hz]
                  rw [if_neg (fun hh => hz (by unfold bt; omega))]; exact ⟨rfl, by (repeat (first | exact Gr.refl _ | assumption | (refine Grew.put' ?_ _ _ (by first | omega | (simp only [push_cast]; omega))) | (refine Grew.add' ?_ _)))⟩
              · simp (disch := first | omega | (refine id ?_; simp only [push_cast]; done) | (refine id ?_; simp only [push_cast]; omega)) only [push_cast, Nat.reduceAdd, Nat.reduceMul, Nat.reduceSub, Nat.reduceLT, Nat.reduceEqDiff, Nat.reduceLeDiff, Int.reduceToNat, reduceCtorEq, Int.reduceLT, Int.reduceLE, Int.reduceAdd, Int.reduceSub, Int.reduceMul, Int.reduceNeg, Int.reduceEq, Int.toNat_natCast, htp, h1]
                rw [if_neg (fun hh => by omega)]; exact ⟨rfl, by (repeat (first | exact Gr.refl _ | assumption | (refine Grew.put' ?_ _ _ (by first | omega | (simp only [push_cast]; omega))) | (refine Grew.add' ?_ _)))⟩
        · have ht : t = p + front digit (L.drop p) := by omega
          have htp : t - p = front digit (L.drop p) := by omega
          simp (disch := first | omega | (refine id ?_; simp only [push_cast]; done) | (refine id ?_; simp only [push_cast]; omega)) only [push_cast, Nat.reduceAdd, Nat.reduceMul, Nat.reduceSub, Nat.reduceLT, Nat.reduceEqDiff, Nat.reduceLeDiff, Int.reduceToNat, reduceCtorEq, Int.reduceLT, Int.reduceLE, Int.reduceAdd, Int.reduceSub, Int.reduceMul, Int.reduceNeg, Int.reduceEq, hlt]
          (refine vcond_d (fun hc => ?_) (fun hc => ?_)) <;> (try (simp (disch := first | omega | (refine id ?_; simp only [push_cast]; done) | (refine id ?_; simp only [push_cast]; omega)) only [push_cast, Nat.reduceAdd, Nat.reduceMul, Nat.reduceSub, Nat.reduceLT, Nat.reduceEqDiff, Nat.reduceLeDiff, Int.reduceToNat, reduceCtorEq, Int.reduceLT, Int.reduceLE, Int.reduceAdd, Int.reduceSub, Int.reduceMul, Int.reduceNeg, Int.reduceEq]))
          · have hb : 18 < front digit (L.drop p) := by omega
            rw [if_pos hb]; exact ⟨rfl, by (repeat (first | exact Gr.refl _ | assumption | (refine Grew.put' ?_ _ _ (by first | omega | (simp only [push_cast]; omega))) | (refine Grew.add' ?_ _)))⟩
          · have hb : ¬ 18 < front digit (L.drop p) := by omega
            rw [if_neg hb]
            by_cases h1 : 1 < (t : Int) - p
            · by_cases hz : bt L p = 48
              · simp (disch := first | omega | (refine id ?_; simp only [push_cast]; done) | (refine id ?_; simp only [push_cast]; omega)) only [push_cast, Nat.reduceAdd, Nat.reduceMul, Nat.reduceSub, Nat.reduceLT, Nat.reduceEqDiff, Nat.reduceLeDiff, Int.reduceToNat, reduceCtorEq, Int.reduceLT, Int.reduceLE, Int.reduceAdd, Int.reduceSub, Int.reduceMul, Int.reduceNeg, Int.reduceEq, h1, hz]
                rw [if_pos ⟨by omega, by unfold bt at hz; omega⟩]; exact ⟨rfl, by (repeat (first | exact Gr.refl _ | assumption | (refine Grew.put' ?_ _ _ (by first | omega | (simp only [push_cast]; omega))) | (refine Grew.add' ?_ _)))⟩
              · simp (disch := first | omega | (refine id ?_; simp only [push_cast]; done) | (refine id ?_; simp only [push_cast]; omega)) only [push_cast, Nat.reduceAdd, Nat.reduceMul, Nat.reduceSub, Nat.reduceLT, Nat.reduceEqDiff, Nat.reduceLeDiff, Int.reduceToNat, reduceCtorEq, Int.reduceLT, Int.reduceLE, Int.reduceAdd, Int.reduceSub, Int.reduceMul, Int.reduceNeg, Int.reduceEq, Int.toNat_natCast, htp, h1, hz]
                rw [if_neg (fun hh => hz (by unfold bt; omega))]; exact ⟨rfl, by (repeat (first | exact Gr.refl _ | assumption | (refine Grew.put' ?_ _ _ (by first | omega | (simp only [push_cast]; omega))) | (refine Grew.add' ?_ _)))⟩
            · simp (disch := first | omega | (refine id ?_; simp only [push_cast]; done) | (refine id ?_; simp only [push_cast]; omega)) only [push_cast, Nat.reduceAdd, Nat.reduceMul, Nat.reduceSub, Nat.reduceLT, Nat.reduceEqDiff, Nat.reduceLeDiff, Int.reduceToNat, reduceCtorEq, Int.reduceLT, Int.reduceLE, Int.reduceAdd, Int.reduceSub, Int.reduceMul, Int.reduceNeg, Int.reduceEq, Int.toNat_natCast, htp, h1]
              rw [if_neg (fun hh => by omega)]; exact ⟨rfl, by (repeat (first | exact Gr.refl _ | assumption | (refine Grew.put' ?_ _ _ (by first | omega | (simp only [push_cast]; omega))) | (refine Grew.add' ?_ _)))⟩
      · have hd : ¬ digit (L.getD p 0) = true := by unfold digit; unfold bt at h48 h57; simp only [decide_eq_true_eq]; omega
        rw [if_neg hd]
        simp (disch := first | omega | (refine id ?_; simp only [push_cast]; done) | (refine id ?_; simp only [push_cast]; omega)) only [push_cast, Nat.reduceAdd, Nat.reduceMul, Nat.reduceSub, Nat.reduceLT, Nat.reduceEqDiff, Nat.reduceLeDiff, Int.reduceToNat, reduceCtorEq, Int.reduceLT, Int.reduceLE, Int.reduceAdd, Int.reduceSub, Int.reduceMul, Int.reduceNeg, Int.reduceEq, h48, h57]
        refine CallE.to (rmark_w G _ L p hp hL) ?_
        rintro _ h1 ⟨rfl, rfl⟩
        have hml := markN_len (L.drop p)
        rw [List.length_drop] at hml
        simp (disch := first | omega | (refine id ?_; simp only [push_cast]; done) | (refine id ?_; simp only [push_cast]; omega)) only [push_cast, Nat.reduceAdd, Nat.reduceMul, Nat.reduceSub, Nat.reduceLT, Nat.reduceEqDiff, Nat.reduceLeDiff, Int.reduceToNat, reduceCtorEq, Int.reduceLT, Int.reduceLE, Int.reduceAdd, Int.reduceSub, Int.reduceMul, Int.reduceNeg, Int.reduceEq]
        (refine vcond_d (fun hc => ?_) (fun hc => ?_)) <;> (try (simp (disch := first | omega | (refine id ?_; simp only [push_cast]; done) | (refine id ?_; simp only [push_cast]; omega)) only [push_cast, Nat.reduceAdd, Nat.reduceMul, Nat.reduceSub, Nat.reduceLT, Nat.reduceEqDiff, Nat.reduceLeDiff, Int.reduceToNat, reduceCtorEq, Int.reduceLT, Int.reduceLE, Int.reduceAdd, Int.reduceSub, Int.reduceMul, Int.reduceNeg, Int.reduceEq]))
        · rw [if_pos (by omega)]; exact ⟨rfl, by (repeat (first | exact Gr.refl _ | assumption | (refine Grew.put' ?_ _ _ (by first | omega | (simp only [push_cast]; omega))) | (refine Grew.add' ?_ _)))⟩
        · have tm : ((p : Int) + (markN (L.drop p) : Int)).toNat = p + markN (L.drop p) := by omega
          have tm2 : p + markN (L.drop p) - p = markN (L.drop p) := by omega
          simp (disch := first | omega | (refine id ?_; simp only [push_cast]; done) | (refine id ?_; simp only [push_cast]; omega)) only [push_cast, Nat.reduceAdd, Nat.reduceMul, Nat.reduceSub, Nat.reduceLT, Nat.reduceEqDiff, Nat.reduceLeDiff, Int.reduceToNat, reduceCtorEq, Int.reduceLT, Int.reduceLE, Int.reduceAdd, Int.reduceSub, Int.reduceMul, Int.reduceNeg, Int.reduceEq, Int.toNat_natCast, tm, tm2]
          rw [if_neg (by omega)]
          exact ⟨rfl, by (repeat (first | exact Gr.refl _ | assumption | (refine Grew.put' ?_ _ _ (by first | omega | (simp only [push_cast]; omega))) | (refine Grew.add' ?_ _)))⟩
    · have hd : ¬ digit (L.getD p 0) = true := by unfold digit; unfold bt at h48; simp only [decide_eq_true_eq]; omega
      rw [if_neg hd]
      simp (disch := first | omega | (refine id ?_; simp only [push_cast]; done) | (refine id ?_; simp only [push_cast]; omega)) only [push_cast, Nat.reduceAdd, Nat.reduceMul, Nat.reduceSub, Nat.reduceLT, Nat.reduceEqDiff, Nat.reduceLeDiff, Int.reduceToNat, reduceCtorEq, Int.reduceLT, Int.reduceLE, Int.reduceAdd, Int.reduceSub, Int.reduceMul, Int.reduceNeg, Int.reduceEq, h48]
      refine CallE.to (rmark_w G _ L p hp hL) ?_
      rintro _ h1 ⟨rfl, rfl⟩
      have hml := markN_len (L.drop p)
      rw [List.length_drop] at hml
      simp (disch := first | omega | (refine id ?_; simp only [push_cast]; done) | (refine id ?_; simp only [push_cast]; omega)) only [push_cast, Nat.reduceAdd, Nat.reduceMul, Nat.reduceSub, Nat.reduceLT, Nat.reduceEqDiff, Nat.reduceLeDiff, Int.reduceToNat, reduceCtorEq, Int.reduceLT, Int.reduceLE, Int.reduceAdd, Int.reduceSub, Int.reduceMul, Int.reduceNeg, Int.reduceEq]
      (refine vcond_d (fun hc => ?_) (fun hc => ?_)) <;> (try (simp (disch := first | omega | (refine id ?_; simp only [push_cast]; done) | (refine id ?_; simp only [push_cast]; omega)) only [push_cast, Nat.reduceAdd, Nat.reduceMul, Nat.reduceSub, Nat.reduceLT, Nat.reduceEqDiff, Nat.reduceLeDiff, Int.reduceToNat, reduceCtorEq, Int.reduceLT, Int.reduceLE, Int.reduceAdd, Int.reduceSub, Int.reduceMul, Int.reduceNeg, Int.reduceEq]))
      · rw [if_pos (by omega)]; exact ⟨rfl, by (repeat (first | exact Gr.refl _ | assumption | (refine Grew.put' ?_ _ _ (by first | omega | (simp only [push_cast]; omega))) | (refine Grew.add' ?_ _)))⟩
      · have tm : ((p : Int) + (markN (L.drop p) : Int)).toNat = p + markN (L.drop p) := by omega
        have tm2 : p + markN (L.drop p) - p = markN (L.drop p) := by omega
        simp (disch := first | omega | (refine id ?_; simp only [push_cast]; done) | (refine id ?_; simp only [push_cast]; omega)) only [push_cast, Nat.reduceAdd, Nat.reduceMul, Nat.reduceSub, Nat.reduceLT, Nat.reduceEqDiff, Nat.reduceLeDiff, Int.reduceToNat, reduceCtorEq, Int.reduceLT, Int.reduceLE, Int.reduceAdd, Int.reduceSub, Int.reduceMul, Int.reduceNeg, Int.reduceEq, Int.toNat_natCast, tm, tm2]
        rw [if_neg (by omega)]
        exact ⟨rfl, by (repeat (first | exact Gr.refl _ | assumption | (refine Grew.put' ?_ _ _ (by first | omega | (simp only [push_cast]; omega))) | (refine Grew.add' ?_ _)))⟩
end
end Go.Proofs.Ythjcdbbomfmphaa

namespace Go.Proofs.Ythjcdbbomfmphaa
open Go.RowKit Go.Ev Go.Lx
noncomputable section
set_option linter.unusedSimpArgs false
set_option linter.unusedVariables false
variable (G : Nat) (h : Heap)

theorem past_spec : ∀ (n : Nat) (l : B), l.length ≤ n → past l ≤ l.length ∧ past (l.drop (past l)) = 0 ∧ ∀ p, sg p l = sg (p + past l) (l.drop (past l)) := by
  intro n
  induction n with
  | zero =>
    intro l hl
    have : l = [] := List.length_eq_zero_iff.1 (by omega)
    subst this
    simp [past_nil]
  | succ n ih =>
    intro l hl
    cases l with
    | nil => simp [past_nil]
    | cons c r =>
      simp only [List.length_cons] at hl
      rw [past_cons]
      by_cases hb : blankC c = true
      · rw [if_pos hb]
        obtain ⟨h1, h2, h3⟩ := ih r (by omega)
        refine ⟨by simp only [List.length_cons]; omega, by rw [List.drop_succ_cons]; exact h2, fun p => ?_⟩
        rw [sg_cons, if_pos hb, List.drop_succ_cons, h3, show p + 1 + past r = p + (past r + 1) by omega]
      · rw [if_neg hb]
        by_cases h35 : c.toNat = 35
        · rw [if_pos h35]
          have hF := front_le notNl r
          obtain ⟨h1, h2, h3⟩ := ih (r.drop (front notNl r)) (by rw [List.length_drop]; omega)
          rw [List.length_drop] at h1
          have e : (c :: r).drop (1 + front notNl r + past (r.drop (front notNl r))) = (r.drop (front notNl r)).drop (past (r.drop (front notNl r))) := by
            rw [show 1 + front notNl r + past (r.drop (front notNl r)) = (front notNl r + past (r.drop (front notNl r))) + 1 by omega, List.drop_succ_cons, List.drop_drop]
          refine ⟨by simp only [List.length_cons]; omega, by rw [e]; exact h2, fun p => ?_⟩
          rw [sg_cons, if_neg hb, if_pos h35, e, h3, show p + 1 + front notNl r + past (r.drop (front notNl r)) = p + (1 + front notNl r + past (r.drop (front notNl r))) by omega]
        · rw [if_neg h35]
          refine ⟨Nat.zero_le _, by rw [List.drop_zero, past_cons, if_neg hb, if_neg h35], fun p => by rw [List.drop_zero, Nat.add_zero]⟩

inductive I17 (h : Heap) (L : B) : Nat → S → Prop
  | mk (p : Nat) (pv : Int) (nn : Nat) (acc : List Sgn) (a : Option Addr) (c : Nat) (h1 : Heap) {x1 x2 x3 x4 x7 x8 x9 x10 x11 x12 x13 x14 x15 x16 x17 x18 x19 x20 x21 x22 x23 x24 x25 x26 x27 x28 x29 x30 x31 x32 x33 x34 x35 x36 x37 x38 x39 : Value} (hpv : pv = (p : Int)) (hnn : nn = acc.length) (hgr : Gr h h1) (hpos : p ≤ L.length) (hacc : acc.length ≤ p)
    (hown : Own h1 39 3 a acc.length c (sgC acc)) (hblk : ∀ b, blk a b → h.next ≤ b) (hsg : sg 0 L = (sg p (L.drop p)).on acc) (hpast : past (L.drop p) = 0) :
    I17 h L (L.length - p) ⟨(F40 (.string (Tx L)) x1 x2 x3 x4 (.slice a nn c) (.int .i64 pv) x7 x8 x9 x10 x11 x12 x13 x14 x15 x16 x17 x18 x19 x20 x21 x22 x23 x24 x25 x26 x27 x28 x29 x30 x31 x32 x33 x34 x35 x36 x37 x38 x39), [], h1⟩

theorem rsigns_w (L : B) (hL : L.length < 4611686018427387904) :
    CallE (pp G) 17 [.string (Tx L)] h (fun v h' => ∃ w, SignsPost h (signs L) w h' ∧ v = w) := by
  refine CallE.fir4 (good G) fir17 rfl rfl (F40_arr ..) fun hlo => ?_
  rw [sh_ir17]
  simp (disch := first | omega | (refine id ?_; simp only [push_cast]; done) | (refine id ?_; simp only [push_cast]; omega)) only [push_cast, Nat.reduceAdd, Nat.reduceMul, Nat.reduceSub, Nat.reduceLT, Nat.reduceEqDiff, Nat.reduceLeDiff, Int.reduceToNat, reduceCtorEq, Int.reduceLT, Int.reduceLE, Int.reduceAdd, Int.reduceSub, Int.reduceMul, Int.reduceNeg, Int.reduceEq]
  unfold signs
  (refine vcond_d (fun hc => ?_) (fun hc => ?_)) <;> (try (simp (disch := first | omega | (refine id ?_; simp only [push_cast]; done) | (refine id ?_; simp only [push_cast]; omega)) only [push_cast, Nat.reduceAdd, Nat.reduceMul, Nat.reduceSub, Nat.reduceLT, Nat.reduceEqDiff, Nat.reduceLeDiff, Int.reduceToNat, reduceCtorEq, Int.reduceLT, Int.reduceLE, Int.reduceAdd, Int.reduceSub, Int.reduceMul, Int.reduceNeg, Int.reduceEq]))
  · rw [if_pos (by omega)]
    exact ⟨_, ⟨Gr.refl h, rfl⟩, rfl⟩
  rw [if_neg (by omega)]
  obtain ⟨q1, q2, q3⟩ := past_spec _ L (Nat.le_refl _)
  refine CallE.to (past_w G _ L 0 (Nat.zero_le _) hL) ?_
  rintro _ h1 ⟨rfl, rfl⟩
  rw [List.drop_zero, Nat.zero_add]
  simp (disch := first | omega | (refine id ?_; simp only [push_cast]; done) | (refine id ?_; simp only [push_cast]; omega)) only [push_cast, Nat.reduceAdd, Nat.reduceMul, Nat.reduceSub, Nat.reduceLT, Nat.reduceEqDiff, Nat.reduceLeDiff, Int.reduceToNat, reduceCtorEq, Int.reduceLT, Int.reduceLE, Int.reduceAdd, Int.reduceSub, Int.reduceMul, Int.reduceNeg, Int.reduceEq]
  refine W.loop4 (good G) (I17 h1 L) ?_ _ _ (I17.mk (past L) _ 0 [] none 0 _ rfl rfl (Gr.refl _) q1 (Nat.zero_le _) (Own.nil _ _ _) (fun b hb => by obtain ⟨o, s, hb⟩ := hb; cases hb) (by rw [Res.on_nil, q3 0, Nat.zero_add]) q2)
  intro k s1 hI
  cases hI with | mk p pv nn acc a c h2 hpv hnn hgr hpos hacc hown hblk hsg hpast
  subst hpv hnn
  rw [sh_ir17_s0]
  by_cases hlt : (p : Int) < L.length
  · have hp : p < L.length := by omega
    have hn2 := hgr.next
    have hl2 := hgr.lo
    rw [sg_at hp, past_cons] at hpast
    have hb : ¬ blankC (L.getD p 0) = true := fun e => by rw [if_pos e] at hpast; omega
    rw [if_neg hb] at hpast
    have h35 : ¬ (L.getD p 0).toNat = 35 := fun e => by rw [if_pos e] at hpast; omega
    rw [sg_at hp, sg_cons, if_neg hb, if_neg h35] at hsg
    simp (disch := first | omega | (refine id ?_; simp only [push_cast]; done) | (refine id ?_; simp only [push_cast]; omega)) only [push_cast, Nat.reduceAdd, Nat.reduceMul, Nat.reduceSub, Nat.reduceLT, Nat.reduceEqDiff, Nat.reduceLeDiff, Int.reduceToNat, reduceCtorEq, Int.reduceLT, Int.reduceLE, Int.reduceAdd, Int.reduceSub, Int.reduceMul, Int.reduceNeg, Int.reduceEq, hlt]
    refine CallE.to (rone_w G _ L p hp hL) ?_
    rintro _ h3 ⟨rfl, hg3⟩
    have hn3 := hg3.next
    have hl3 := hg3.lo
    rw [sg_at hp]
    cases hone : Lx.one (L.getD p 0 :: L.drop (p + 1)) with
    | bad e =>
      rw [hone] at hsg
      have he0 : ¬ ((e : Int) = 0) := by have := one_bad hone; omega
      simp only [roneV]
      simp (disch := first | omega | (refine id ?_; simp only [push_cast]; done) | (refine id ?_; simp only [push_cast]; omega)) only [push_cast, Nat.reduceAdd, Nat.reduceMul, Nat.reduceSub, Nat.reduceLT, Nat.reduceEqDiff, Nat.reduceLeDiff, Int.reduceToNat, reduceCtorEq, Int.reduceLT, Int.reduceLE, Int.reduceAdd, Int.reduceSub, Int.reduceMul, Int.reduceNeg, Int.reduceEq, he0]
      refine ⟨_, ⟨?_, ?_⟩, rfl⟩
      · exact ((hgr.tr hg3).add' _).put' _ _ (by omega)
      · rw [hsg]; rfl
    | ok kd n =>
      rw [hone] at hsg
      have hlen := one_len hone (by simp)
      simp only [List.length_cons, List.length_drop] at hlen
      simp only [roneV]
      rw [sg_at hp]
      simp only [Res.on_more] at hsg
      rw [List.drop_drop, show p + 1 + (n - 1) = p + n by omega] at hsg
      have hTl : (List.take n (L.getD p 0 :: L.drop (p + 1))).length = n := by simp only [List.length_take, List.length_cons, List.length_drop]; omega
      generalize hT : List.take n (L.getD p 0 :: L.drop (p + 1)) = T at *
      simp (disch := first | omega | (refine id ?_; simp only [push_cast]; done) | (refine id ?_; simp only [push_cast]; omega)) only [push_cast, Nat.reduceAdd, Nat.reduceMul, Nat.reduceSub, Nat.reduceLT, Nat.reduceEqDiff, Nat.reduceLeDiff, Int.reduceToNat, reduceCtorEq, Int.reduceLT, Int.reduceLE, Int.reduceAdd, Int.reduceSub, Int.reduceMul, Int.reduceNeg, Int.reduceEq, rg_get, rep_1]
      generalize hH : ((h3.add (O [.int .i64 0, .string (Tx []), .int .i64 0] 39 false)).put h3.next (O [.int .i64 kd, .string (Tx T), .int .i64 p] 39 false)).add (O [.int .i64 kd, .string (Tx T), .int .i64 p] 39 false) = H
      have hGH : Gr h2 H := by
        rw [← hH]
        exact (((hg3.add' _).put' _ _ (by omega)).add' _)
      have hcx : cells H h3.next = some ([.int .i64 kd, .string (Tx T), .int .i64 p], 39, false) := by
        rw [← hH, cells_add_n _ _ (by simp only [push_cast]; omega), cells_put_s]
      have hcs : cells H (h3.next + 1) = some ([.int .i64 kd, .string (Tx T), .int .i64 p], 39, false) := by
        rw [← hH, cells_add_s _ _ _ _ (by simp only [push_cast])]
      have hnH : H.next = h3.next + 1 + 1 := by rw [← hH]; simp only [push_cast]
      have hlH : H.lo = h1.lo := by rw [← hH]; simp only [push_cast]; omega
      have hownH : Own H 39 3 a acc.length c (sgC acc) := Gr.ownE hGH hown
      obtain ⟨a', c', H', he, hown', hgrow, hblk'⟩ := own_append T_appT_28_28 hownH (by omega) (x := .slice (some ⟨h3.next + 1, 0, none⟩) 1 1) (m := 1) (xs := [.int .i64 kd, .string (Tx T), .int .i64 p]) rfl
        ((Sl.row hcs (by omega)).src rfl (by decide)) rfl rfl (by omega)
      rw [he]
      have hltb : ∀ b, blk a b → b < h2.next := fun b hb => by
        rcases hown.hat with ⟨h0, _, _⟩ | ⟨b', m, ha, _, h3, _⟩
        · rw [h0] at hb; obtain ⟨o, s, hb⟩ := hb; cases hb
        · rw [ha] at hb; obtain ⟨o, s, hb⟩ := hb; cases hb; exact h3
      have hcx' : cells H' h3.next = some ([.int .i64 kd, .string (Tx T), .int .i64 p], 39, false) := by
        rw [hgrow.cells (by omega) (fun hb => by have := hltb _ hb; omega)]; exact hcx
      have hn' := hgrow.next
      have hlo' : H'.lo = h1.lo := by rw [hgrow.lo, hlH]
      have hwr : IntKind.i64.wrap ((p : Int) + n) = ((p + n : Nat) : Int) := by rw [wrap_i64 (by omega) (by omega)]; omega
      simp (disch := first | omega | (refine id ?_; simp only [push_cast]; done) | (refine id ?_; simp only [push_cast]; omega)) only [push_cast, Nat.reduceAdd, Nat.reduceMul, Nat.reduceSub, Nat.reduceLT, Nat.reduceEqDiff, Nat.reduceLeDiff, Int.reduceToNat, reduceCtorEq, Int.reduceLT, Int.reduceLE, Int.reduceAdd, Int.reduceSub, Int.reduceMul, Int.reduceNeg, Int.reduceEq, hcx', hlo', hTl]
      obtain ⟨r1, r2, r3⟩ := past_spec _ (L.drop (p + n)) (Nat.le_refl _)
      rw [List.length_drop] at r1
      rw [List.drop_drop] at r2
      have hpw := past_w G H' L (p + n) (by omega) hL
      have hpc : ((p + n : Nat) : Int) = (p : Int) + n := by omega
      rw [hpc] at hpw
      refine CallE.to hpw ?_
      rintro _ h5 ⟨rfl, rfl⟩
      simp (disch := first | omega | (refine id ?_; simp only [push_cast]; done) | (refine id ?_; simp only [push_cast]; omega)) only [push_cast, Nat.reduceAdd, Nat.reduceMul, Nat.reduceSub, Nat.reduceLT, Nat.reduceEqDiff, Nat.reduceLeDiff, Int.reduceToNat, reduceCtorEq, Int.reduceLT, Int.reduceLE, Int.reduceAdd, Int.reduceSub, Int.reduceMul, Int.reduceNeg, Int.reduceEq]
      refine ⟨_, ?_, I17.mk (p + n + past (L.drop (p + n))) _ _ (acc ++ [⟨kd, T, p⟩]) a' c' _ ?_ ?_ ((hgr.tr hGH).tr' hgrow fun i hi hb => by have := hblk i hb; omega) (by omega) ?_ ?_ (fun b hb => ?_) ?_ r2⟩
      · omega
      · first | rfl | omega
      · simp
      · simp only [List.length_append, List.length_cons, List.length_nil]; omega
      · simp only [List.length_append, List.length_cons, List.length_nil, sgC_app, sgC]; exact hown'
      · rcases hblk' b hb with h4 | h4
        · exact hblk b h4
        · omega
      · rw [hsg, r3, List.drop_drop]
  · have hd : L.drop p = [] := List.drop_eq_nil_of_le (by omega)
    rw [hd, sg_nil] at hsg
    simp (disch := first | omega | (refine id ?_; simp only [push_cast]; done) | (refine id ?_; simp only [push_cast]; omega)) only [push_cast, Nat.reduceAdd, Nat.reduceMul, Nat.reduceSub, Nat.reduceLT, Nat.reduceEqDiff, Nat.reduceLeDiff, Int.reduceToNat, reduceCtorEq, Int.reduceLT, Int.reduceLE, Int.reduceAdd, Int.reduceSub, Int.reduceMul, Int.reduceNeg, Int.reduceEq, hlt]
    refine ⟨_, ⟨hgr, ?_⟩, rfl⟩
    rw [hsg]
    refine ⟨a, c, ?_, ?_, hblk⟩
    · simp [List.append_nil]
    · simpa [List.append_nil] using hown
end
end Go.Proofs.Ythjcdbbomfmphaa

namespace Go.Proofs.Ythjcdbbomfmphaa
open Go.RowKit Go.Ev Go.Lx
noncomputable section
set_option linter.unusedSimpArgs false
set_option linter.unusedVariables false
variable (G : Nat) (h : Heap)

theorem rg_get1 (len n i : Nat) : (List.map (fun i => (i, n)) (List.range len))[i]? = if i < len then some (i, n) else none := by
  rw [List.getElem?_map]
  split
  · rename_i h; rw [List.getElem?_range h]; rfl
  · rename_i h; rw [List.getElem?_eq_none (by simp; omega)]; rfl
def rat : Res → Nat | .bad p _ => p | .ok _ => 0
def rer : Res → Nat | .bad _ e => e | .ok _ => 0
def rle : Res → Nat | .bad _ _ => 0 | .ok l => l.length
theorem SignsPost.form {h h' : Heap} {r : Res} {v : Value} (hp : SignsPost h r v h') : Gr h h' ∧ ∃ a c, v = .tuple #[.slice a (rle r) c, .int .i64 (rat r), .int .i64 (rer r)] := by
  obtain ⟨h1, h2⟩ := hp
  cases r with
  | bad p e => exact ⟨h1, none, 0, h2⟩
  | ok l => obtain ⟨a, c, h3, _⟩ := h2; exact ⟨h1, a, c, h3⟩
theorem signs_f (L : B) (hL : L.length < 4611686018427387904) : CallE (pp G) 16 [.string (Tx L)] h (fun v h' => Gr h h' ∧ ∃ a c, v = .tuple #[.slice a (rle (signs L)) c, .int .i64 (rat (signs L)), .int .i64 (rer (signs L))]) :=
  (signs_w G h L hL).mono fun v h' hp => hp.form
theorem rsigns_f (L : B) (hL : L.length < 4611686018427387904) : CallE (pp G) 17 [.string (Tx L)] h (fun v h' => Gr h h' ∧ ∃ a c, v = .tuple #[.slice a (rle (signs L)) c, .int .i64 (rat (signs L)), .int .i64 (rer (signs L))]) :=
  (rsigns_w G h L hL).mono fun v h' hp => by obtain ⟨w, h1, rfl⟩ := hp; exact h1.form

end
end Go.Proofs.Ythjcdbbomfmphaa

namespace Go.Proofs.Ythjcdbbomfmphaa
open Go Go.RowKit Go.Ev Go.Lx
noncomputable section
set_option linter.unusedSimpArgs false
set_option linter.unusedVariables false
theorem held39 : Try.prog.stoodInHeld 39 = false := by kernel_rfl
theorem guard39 : Try.prog.eqGuardType Try.prog.depth 39 = false := by kernel_rfl
theorem pv_prog (P : Program) : pv P program = some P := rfl
theorem part39_0 (a p : Int) (s : ByteArray) : pv Try.prog (part 3 ⟨[.int .i64 a, .string s, .int .i64 p]⟩ 0) = some (.int .i64 a) := by kernel_rfl
theorem part39_1 (a p : Int) (s : ByteArray) : pv Try.prog (part 9 ⟨[.int .i64 a, .string s, .int .i64 p]⟩ 1) = some (.string s) := by kernel_rfl
theorem part39_2 (a p : Int) (s : ByteArray) : pv Try.prog (part 3 ⟨[.int .i64 a, .string s, .int .i64 p]⟩ 2) = some (.int .i64 p) := by kernel_rfl
theorem eq3 (d : Nat) (a b : Int) : pv Try.prog (Op.equalIn (d+1) 3 (.int .i64 a) (.int .i64 b)) = some (a == b) := by kernel_rfl
theorem eq9 (d : Nat) (a b : ByteArray) : pv Try.prog (Op.equalIn (d+1) 9 (.string a) (.string b)) = some (a == b) := by kernel_rfl
theorem pv_if {α : Type} (P : Program) (c : Prop) [Decidable c] (x y : Sem α) : pv P (if c then x else y) = if c then pv P x else pv P y := by split <;> rfl
theorem pv_eqS (d : Nat) (a b p q : Int) (s t : ByteArray) : pv Try.prog (Op.equalIn (d+2) 39 (.agg ⟨[.int .i64 a, .string s, .int .i64 p]⟩) (.agg ⟨[.int .i64 b, .string t, .int .i64 q]⟩)) = some (a == b && s == t && p == q) := by
  rw [Op.equalIn]
  simp only [pv_bind, pv_under Try.underlying39, Option.bind_some, pv_prog, held39, Bool.false_eq_true, if_false]
  rw [← Array.forIn_toList]
  simp only [List.forIn_cons, List.forIn_nil, pv_bind, pv_if, part39_0, part39_1, part39_2, eq3, eq9, Option.bind_some]
  cases h1 : (a == b) <;> cases h2 : (s == t) <;> cases h3 : (p == q) <;> simp [pv_pure, pv_bind, pv_if, part39_0, part39_1, part39_2, eq3, eq9, h1, h2, h3]
theorem pv_eqS' (a b p q : Int) (s t : ByteArray) : pv Try.prog (Op.equal 39 (.agg ⟨[.int .i64 a, .string s, .int .i64 p]⟩) (.agg ⟨[.int .i64 b, .string t, .int .i64 q]⟩)) = some (a == b && s == t && p == q) := pv_eqS 9998 a b p q s t
theorem b_neq39 {x y : Operand} {a b p q : Int} {s t : B} : binPure Try.prog .neq 39 x y (.agg ⟨[.int .i64 a, .string (Tx s), .int .i64 p]⟩) (.agg ⟨[.int .i64 b, .string (Tx t), .int .i64 q]⟩) = some (.bool (!decide (a = b ∧ s = t ∧ p = q))) := by
  have hg : pv Try.prog (eqGuard .neq 39 x y (.agg ⟨[.int .i64 a, .string (Tx s), .int .i64 p]⟩) (.agg ⟨[.int .i64 b, .string (Tx t), .int .i64 q]⟩)) = some () := by
    simp only [eqGuard, pv_if, pv_bind, pv_prog, Option.bind_some, guard39, Bool.not_true, Bool.not_false, Bool.false_eq_true, if_false, if_true, pv_pure]
  have hb : pv Try.prog (binOp .neq 39 (.agg ⟨[.int .i64 a, .string (Tx s), .int .i64 p]⟩) (.agg ⟨[.int .i64 b, .string (Tx t), .int .i64 q]⟩)) = some (.bool (!(a == b && Tx s == Tx t && p == q))) := by
    simp only [binOp, pv_map, pv_bind, pv_eqS', Option.map_some, Option.bind_some, pv_pure]
  have hbe : (Tx s == Tx t) = decide (s = t) := by
    have h1 : (Tx s == Tx t) = ((⟨s⟩ : Array UInt8) == ⟨t⟩) := rfl
    rw [h1, Bool.eq_iff_iff]
    simp
  have e : (a == b && Tx s == Tx t && p == q) = decide (a = b ∧ s = t ∧ p = q) := by
    rw [hbe, Bool.eq_iff_iff]
    simp [and_assoc]
  rw [← e]
  simp only [binPure, pvF, flat, flatL, Bool.and_self, pv_bind, hg, hb, Option.bind_some]
end
end Go.Proofs.Ythjcdbbomfmphaa

namespace Go.Proofs.Ythjcdbbomfmphaa
open Go Go.RowKit Go.Ev Go.Lx
noncomputable section
set_option linter.unusedSimpArgs false
set_option linter.unusedVariables false
variable (G : Nat) (h : Heap)

theorem sg_ld {h : Heap} {a : Option Addr} {l : List Sgn} (hs : Sl h a (sgC l)) {i : Nat} {x : Sgn} {r : List Sgn} (hx : l.drop i = x :: r) :
    ∃ b off, a = some ⟨b, off, none⟩ ∧ ldC (some (true, 3)) (off + i * 3) h.lo b (cells h b) = some (.agg ⟨[.int .i64 x.k, .string (Tx x.t), .int .i64 x.at_]⟩) := by
  obtain ⟨h1, h2⟩ := sgC_at l i x r hx
  obtain ⟨b, off, ha, hl⟩ := hs.loadA T_knd_39 (i := i) (by decide) h1
  rw [load_eq, T_knd_39, h2] at hl
  exact ⟨b, off, ha, hl⟩

structure SamePost (h : Heap) (l1 l2 : List Sgn) (v : Value) (h' : Heap) : Prop where
  yes : l1 = l2 → v = .bool true
  no : l1 ≠ l2 → v = .bool false
  hp : h' = h

inductive I18 (h : Heap) (l1 l2 : List Sgn) (a1 a2 : Option Addr) (n1 c1 n2 c2 : Nat) : Nat → S → Prop
  | mk (i : Nat) (iv : Int) {x2 x3 x4 x6 x7 x8 x9 x10 x11 x12 x13 x14 x15 x16 x17 x18 x19 x20 x21 x22 x23 x24 x25 : Value} (hiv : iv = (i : Int)) (hi : i ≤ n1) (hq : l1.take i = l2.take i) :
    I18 h l1 l2 a1 a2 n1 c1 n2 c2 (n1 - i) ⟨(F26 (.slice a1 n1 c1) (.slice a2 n2 c2) x2 x3 x4 (.int .i64 iv) x6 x7 x8 x9 x10 x11 x12 x13 x14 x15 x16 x17 x18 x19 x20 x21 x22 x23 x24 x25), [], h⟩

theorem same_w (l1 l2 : List Sgn) (a1 a2 : Option Addr) (c1 c2 : Nat) (h1 : Sl h a1 (sgC l1)) (h2 : Sl h a2 (sgC l2)) (hL : l1.length < 4611686018427387904) :
    CallE (pp G) 18 [.slice a1 l1.length c1, .slice a2 l2.length c2] h (fun v h' => SamePost h l1 l2 v h') := by
  refine CallE.fir4 (good G) fir18 rfl rfl (F26_arr ..) fun hlo => ?_
  rw [sh_ir18]
  simp (disch := first | omega | (refine id ?_; simp only [push_cast]; done) | (refine id ?_; simp only [push_cast]; omega)) only [push_cast, Nat.reduceAdd, Nat.reduceMul, Nat.reduceSub, Nat.reduceLT, Nat.reduceEqDiff, Nat.reduceLeDiff, Int.reduceToNat, reduceCtorEq, Int.reduceLT, Int.reduceLE, Int.reduceAdd, Int.reduceSub, Int.reduceMul, Int.reduceNeg, Int.reduceEq]
  refine vcond_nd (fun hc => ?_) (fun hc => ?_)
  · simp (disch := first | omega | (refine id ?_; simp only [push_cast]; done) | (refine id ?_; simp only [push_cast]; omega)) only [push_cast, Nat.reduceAdd, Nat.reduceMul, Nat.reduceSub, Nat.reduceLT, Nat.reduceEqDiff, Nat.reduceLeDiff, Int.reduceToNat, reduceCtorEq, Int.reduceLT, Int.reduceLE, Int.reduceAdd, Int.reduceSub, Int.reduceMul, Int.reduceNeg, Int.reduceEq]
    exact ⟨fun e => absurd (by rw [e]) hc, fun _ => rfl, rfl⟩
  have hln : l1.length = l2.length := by omega
  simp (disch := first | omega | (refine id ?_; simp only [push_cast]; done) | (refine id ?_; simp only [push_cast]; omega)) only [push_cast, Nat.reduceAdd, Nat.reduceMul, Nat.reduceSub, Nat.reduceLT, Nat.reduceEqDiff, Nat.reduceLeDiff, Int.reduceToNat, reduceCtorEq, Int.reduceLT, Int.reduceLE, Int.reduceAdd, Int.reduceSub, Int.reduceMul, Int.reduceNeg, Int.reduceEq]
  refine W.loop4 (good G) (I18 h l1 l2 a1 a2 l1.length c1 l2.length c2) ?_ _ _ (I18.mk 0 0 rfl (Nat.zero_le _) rfl)
  intro k s1 hI
  cases hI with | mk i iv hiv hi hq
  subst hiv
  rw [sh_ir18_s0]
  by_cases hlt : (i : Int) < l1.length
  · obtain ⟨x, r, hx⟩ : ∃ x r, l1.drop i = x :: r := by
      cases hd : l1.drop i with
      | nil => have := List.drop_eq_nil_iff.1 hd; omega
      | cons x r => exact ⟨x, r, rfl⟩
    obtain ⟨y, r2, hy⟩ : ∃ x r, l2.drop i = x :: r := by
      cases hd : l2.drop i with
      | nil => have := List.drop_eq_nil_iff.1 hd; omega
      | cons x r => exact ⟨x, r, rfl⟩
    obtain ⟨b1, o1, rfl, e1⟩ := sg_ld h1 hx
    obtain ⟨b2, o2, rfl, e2⟩ := sg_ld h2 hy
    have hlt2 : (i : Int) < l2.length := by omega
    have tx : l1.take (i + 1) = l1.take i ++ [x] := by rw [List.take_add_one, ← List.head?_drop, hx]; rfl
    have ty : l2.take (i + 1) = l2.take i ++ [y] := by rw [List.take_add_one, ← List.head?_drop, hy]; rfl
    simp (disch := first | omega | (refine id ?_; simp only [push_cast]; done) | (refine id ?_; simp only [push_cast]; omega)) only [push_cast, Nat.reduceAdd, Nat.reduceMul, Nat.reduceSub, Nat.reduceLT, Nat.reduceEqDiff, Nat.reduceLeDiff, Int.reduceToNat, reduceCtorEq, Int.reduceLT, Int.reduceLE, Int.reduceAdd, Int.reduceSub, Int.reduceMul, Int.reduceNeg, Int.reduceEq, hlt, hlt2, Int.toNat_natCast, e1, e2, b_neq39]
    refine vcond_nd (fun hne => ?_) (fun he => ?_)
    · simp (disch := first | omega | (refine id ?_; simp only [push_cast]; done) | (refine id ?_; simp only [push_cast]; omega)) only [push_cast, Nat.reduceAdd, Nat.reduceMul, Nat.reduceSub, Nat.reduceLT, Nat.reduceEqDiff, Nat.reduceLeDiff, Int.reduceToNat, reduceCtorEq, Int.reduceLT, Int.reduceLE, Int.reduceAdd, Int.reduceSub, Int.reduceMul, Int.reduceNeg, Int.reduceEq]
      refine ⟨fun e => ?_, fun _ => rfl, rfl⟩
      exfalso
      subst e
      rw [hx] at hy
      cases hy
      exact hne ⟨rfl, rfl, rfl⟩
    · simp (disch := first | omega | (refine id ?_; simp only [push_cast]; done) | (refine id ?_; simp only [push_cast]; omega)) only [push_cast, Nat.reduceAdd, Nat.reduceMul, Nat.reduceSub, Nat.reduceLT, Nat.reduceEqDiff, Nat.reduceLeDiff, Int.reduceToNat, reduceCtorEq, Int.reduceLT, Int.reduceLE, Int.reduceAdd, Int.reduceSub, Int.reduceMul, Int.reduceNeg, Int.reduceEq]
      refine ⟨_, by omega, I18.mk (i + 1) _ (by first | rfl | omega) (by omega) ?_⟩
      have hxy : x = y := by
        obtain ⟨k1, t1, p1⟩ := x
        obtain ⟨k2, t2, p2⟩ := y
        obtain ⟨q1, q2, q3⟩ := he
        dsimp only at q1 q2 q3
        simp only [Sgn.mk.injEq]
        exact ⟨by omega, q2, by omega⟩
      rw [tx, ty, hq, hxy]
  · simp (disch := first | omega | (refine id ?_; simp only [push_cast]; done) | (refine id ?_; simp only [push_cast]; omega)) only [push_cast, Nat.reduceAdd, Nat.reduceMul, Nat.reduceSub, Nat.reduceLT, Nat.reduceEqDiff, Nat.reduceLeDiff, Int.reduceToNat, reduceCtorEq, Int.reduceLT, Int.reduceLE, Int.reduceAdd, Int.reduceSub, Int.reduceMul, Int.reduceNeg, Int.reduceEq, hlt]
    have e : l1 = l2 := by
      have h3 : i = l1.length := by omega
      rw [h3, List.take_length, hln, List.take_length] at hq
      exact hq
    exact ⟨fun _ => rfl, fun hne => absurd e hne, rfl⟩
end
end Go.Proofs.Ythjcdbbomfmphaa
