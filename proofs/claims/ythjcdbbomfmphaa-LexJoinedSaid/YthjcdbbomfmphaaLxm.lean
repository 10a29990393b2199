/-
  A part of the proof: what the program's functions hand back, as theorems. No condition but those that each theorem names.
-/
import Derived.Test.YthjcdbbomfmphaaLxa
set_option linter.unusedSimpArgs false
set_option linter.unusedVariables false
namespace Go.Lx
/-! What chapter 1 says of texts one behind the other, and of texts that are cut. -/
def Sgn.sh (d : Nat) (x : Sgn) : Sgn := ⟨x.k, x.t, x.at_ + d⟩
def Res.sh (d : Nat) : Res → Res
  | .bad p e => .bad (p + d) e
  | .ok l => .ok (l.map (Sgn.sh d))
theorem Res.sh_more (d : Nat) (x : Sgn) (r : Res) : (r.more x).sh d = (r.sh d).more (x.sh d) := by cases r <;> rfl
theorem sg_shift (d : Nat) : ∀ (n p : Nat) (l : B), l.length ≤ n → sg (p + d) l = (sg p l).sh d := by
  intro n
  induction n with
  | zero =>
    intro p l hl
    have : l = [] := List.length_eq_zero_iff.1 (by omega)
    subst this
    rw [sg_nil, sg_nil]; rfl
  | succ n ih =>
    intro p l hl
    cases l with
    | nil => rw [sg_nil, sg_nil]; rfl
    | cons c r =>
      simp only [List.length_cons] at hl
      rw [sg_cons, sg_cons]
      split
      · rw [show p + d + 1 = p + 1 + d by omega]; exact ih _ _ (by omega)
      · split
        · rw [show p + d + 1 + front notNl r = p + 1 + front notNl r + d by omega]
          exact ih _ _ (by rw [List.length_drop]; omega)
        · split
          · rfl
          · rename_i k n' _
            rw [show p + d + n' = p + n' + d by omega, ih _ _ (by rw [List.length_drop]; omega), Res.sh_more]
            rfl

/-- a byte that ends each sign -/
def Sep (x : UInt8) : Prop := wordy x = false ∧ x.toNat ≠ 61 ∧ x.toNat ≠ 62 ∧ x.toNat ≠ 38 ∧ x.toNat ≠ 124
theorem front_sep (p : UInt8 → Bool) {x : UInt8} (hp : p x = false) (t : B) : ∀ l : B, front p (l ++ x :: t) = front p l
  | [] => by rw [List.nil_append, front_cons, hp]; rfl
  | c :: l => by
    rw [List.cons_append, front_cons, front_cons, front_sep p hp t l]
theorem Sep.digit {x : UInt8} (h : Sep x) : digit x = false := by
  have := h.1
  simp only [wordy, Bool.or_eq_false_iff] at this
  exact this.1.2
theorem dbl_sep {x : UInt8} (h : Sep x) (c : UInt8) : [c, x] ∉ doubles := by
  obtain ⟨_, h1, h2, h3, h4⟩ := h
  simp only [doubles, List.mem_cons, List.not_mem_nil, or_false, List.cons.injEq, and_true, not_or]
  refine ⟨?_, ?_, ?_, ?_, ?_, ?_, ?_, ?_⟩ <;> (rintro ⟨_, rfl⟩; first | exact h1 (by decide) | exact h2 (by decide) | exact h3 (by decide) | exact h4 (by decide))
theorem markN_sep {x : UInt8} (h : Sep x) (t : B) : ∀ l : B, l ≠ [] → markN (l ++ x :: t) = markN l
  | [], hl => absurd rfl hl
  | [c], _ => by
    unfold markN
    have e : (([c] ++ x :: t).take 2) = [c, x] := rfl
    have e1 : ¬ (1 < [c].length ∧ [c].take 2 ∈ doubles) := fun hh => by have := hh.1; simp at this
    rw [e, if_neg (fun hh => dbl_sep h c hh.2), if_neg e1]
    rfl
  | c :: d :: l, _ => by
    unfold markN
    have e : ((c :: d :: l ++ x :: t).take 2) = (c :: d :: l).take 2 := rfl
    rw [e]
    have e2 : (c :: d :: l ++ x :: t).getD 0 0 = (c :: d :: l).getD 0 0 := rfl
    rw [e2]
    simp
theorem one_sep {x : UInt8} (h : Sep x) (t : B) (l : B) (hl : l ≠ []) : one (l ++ x :: t) = one l := by
  unfold one
  have e : (l ++ x :: t).getD 0 0 = l.getD 0 0 := by cases l with
    | nil => exact absurd rfl hl
    | cons c l => rfl
  rw [e, front_sep wordy h.1, front_sep digit h.digit, markN_sep h t l hl]
/-- texts one behind the other, a line between -/
theorem sg_join (t : B) : ∀ (n p : Nat) (s : B), s.length ≤ n → sg p (s ++ 10 :: t) = match sg p s with
    | .bad q e => .bad q e
    | .ok a => (sg (p + s.length + 1) t).on a := by
  have h10 : Sep 10 := by refine ⟨?_, ?_, ?_, ?_, ?_⟩ <;> decide
  intro n
  induction n with
  | zero =>
    intro p s hl
    have : s = [] := List.length_eq_zero_iff.1 (by omega)
    subst this
    rw [sg_nil, List.nil_append, sg_cons, if_pos (by decide)]
    simp only [List.length_nil, Nat.add_zero, Res.on_nil]
  | succ n ih =>
    intro p s hl
    cases s with
    | nil =>
      rw [sg_nil, List.nil_append, sg_cons, if_pos (by decide)]
      simp only [List.length_nil, Nat.add_zero, Res.on_nil]
    | cons c r =>
      simp only [List.length_cons] at hl
      rw [List.cons_append, sg_cons, sg_cons p c r]
      by_cases hb : blankC c = true
      · rw [if_pos hb, if_pos hb, ih (p + 1) r (by omega)]
        cases sg (p + 1) r with
        | bad q e => rfl
        | ok a => simp only [List.length_cons]; rw [show p + 1 + r.length + 1 = p + (r.length + 1) + 1 by omega]
      · rw [if_neg hb, if_neg hb]
        by_cases hc : c.toNat = 35
        · rw [if_pos hc, if_pos hc, front_sep notNl (by decide)]
          have hfl := front_le notNl r
          rw [List.drop_append_of_le_length hfl, ih _ _ (by rw [List.length_drop]; omega)]
          cases sg (p + 1 + front notNl r) (r.drop (front notNl r)) with
          | bad q e => rfl
          | ok a => simp only [List.length_cons, List.length_drop]; rw [show p + 1 + front notNl r + (r.length - front notNl r) + 1 = p + (r.length + 1) + 1 by omega]
        · rw [if_neg hc, if_neg hc]
          have hone := one_sep h10 t (c :: r) (by simp)
          rw [List.cons_append] at hone
          rw [hone]
          cases ho : one (c :: r) with
          | bad e => rfl
          | ok k n' =>
            obtain ⟨h1, h2⟩ := one_len ho (by simp)
            simp only [List.length_cons] at h2
            dsimp only
            rw [List.drop_append_of_le_length (by omega), ih _ _ (by rw [List.length_drop]; omega)]
            have htk : (c :: (r ++ 10 :: t)).take n' = (c :: r).take n' := by
              rw [← List.cons_append, List.take_append_of_le_length (by simp only [List.length_cons]; omega)]
            rw [htk]
            cases sg (p + n') (r.drop (n' - 1)) with
            | bad q e => rfl
            | ok a =>
              simp only [Res.more, List.length_cons, List.length_drop]
              rw [show p + n' + (r.length - (n' - 1)) + 1 = p + (r.length + 1) + 1 by omega]
              cases sg (p + (r.length + 1) + 1) t <;> rfl
end Go.Lx
