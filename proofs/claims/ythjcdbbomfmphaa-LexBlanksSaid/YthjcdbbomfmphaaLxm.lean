/-
  A part of the proof: what the program's functions hand back, as theorems. No condition but those that each theorem names.
-/
import Derived.Test.YthjcdbbomfmphaaLxa
set_option linter.unusedSimpArgs false
set_option linter.unusedVariables false
namespace Go.Lx
/-! What chapter 1 says of texts one behind the other, and of texts that are cut. -/
def Sgn.sh (d : Nat) (x : Sgn) : Sgn := ⟨x.k, x.t, x.at_ + d⟩
def Res.sh (d : Nat) : Res → Res
  | .bad p e => .bad (p + d) e
  | .ok l => .ok (l.map (Sgn.sh d))
theorem Res.sh_more (d : Nat) (x : Sgn) (r : Res) : (r.more x).sh d = (r.sh d).more (x.sh d) := by cases r <;> rfl
theorem sg_shift (d : Nat) : ∀ (n p : Nat) (l : B), l.length ≤ n → sg (p + d) l = (sg p l).sh d := by
  intro n
  induction n with
  | zero =>
    intro p l hl
    have : l = [] := List.length_eq_zero_iff.1 (by omega)
    subst this
    rw [sg_nil, sg_nil]; rfl
  | succ n ih =>
    intro p l hl
    cases l with
    | nil => rw [sg_nil, sg_nil]; rfl
    | cons c r =>
      simp only [List.length_cons] at hl
      rw [sg_cons, sg_cons]
      split
      · rw [show p + d + 1 = p + 1 + d by omega]; exact ih _ _ (by omega)
      · split
        · rw [show p + d + 1 + front notNl r = p + 1 + front notNl r + d by omega]
          exact ih _ _ (by rw [List.length_drop]; omega)
        · split
          · rfl
          · rename_i k n' _
            rw [show p + d + n' = p + n' + d by omega, ih _ _ (by rw [List.length_drop]; omega), Res.sh_more]
            rfl

/-- a byte that ends each sign -/
def Sep (x : UInt8) : Prop := wordy x = false ∧ x.toNat ≠ 61 ∧ x.toNat ≠ 62 ∧ x.toNat ≠ 38 ∧ x.toNat ≠ 124
theorem front_sep (p : UInt8 → Bool) {x : UInt8} (hp : p x = false) (t : B) : ∀ l : B, front p (l ++ x :: t) = front p l
  | [] => by rw [List.nil_append, front_cons, hp]; rfl
  | c :: l => by
    rw [List.cons_append, front_cons, front_cons, front_sep p hp t l]
theorem Sep.digit {x : UInt8} (h : Sep x) : digit x = false := by
  have := h.1
  simp only [wordy, Bool.or_eq_false_iff] at this
  exact this.1.2
theorem dbl_sep {x : UInt8} (h : Sep x) (c : UInt8) : [c, x] ∉ doubles := by
  obtain ⟨_, h1, h2, h3, h4⟩ := h
  simp only [doubles, List.mem_cons, List.not_mem_nil, or_false, List.cons.injEq, and_true, not_or]
  refine ⟨?_, ?_, ?_, ?_, ?_, ?_, ?_, ?_⟩ <;> (rintro ⟨_, rfl⟩; first | exact h1 (by decide) | exact h2 (by decide) | exact h3 (by decide) | exact h4 (by decide))
theorem markN_sep {x : UInt8} (h : Sep x) (t : B) : ∀ l : B, l ≠ [] → markN (l ++ x :: t) = markN l
  | [], hl => absurd rfl hl
  | [c], _ => by
    unfold markN
    have e : (([c] ++ x :: t).take 2) = [c, x] := rfl
    have e1 : ¬ (1 < [c].length ∧ [c].take 2 ∈ doubles) := fun hh => by have := hh.1; simp at this
    rw [e, if_neg (fun hh => dbl_sep h c hh.2), if_neg e1]
    rfl
  | c :: d :: l, _ => by
    unfold markN
    have e : ((c :: d :: l ++ x :: t).take 2) = (c :: d :: l).take 2 := rfl
    rw [e]
    have e2 : (c :: d :: l ++ x :: t).getD 0 0 = (c :: d :: l).getD 0 0 := rfl
    rw [e2]
    simp
theorem one_sep {x : UInt8} (h : Sep x) (t : B) (l : B) (hl : l ≠ []) : one (l ++ x :: t) = one l := by
  unfold one
  have e : (l ++ x :: t).getD 0 0 = l.getD 0 0 := by cases l with
    | nil => exact absurd rfl hl
    | cons c l => rfl
  rw [e, front_sep wordy h.1, front_sep digit h.digit, markN_sep h t l hl]
/-- texts one behind the other, a line between -/
theorem sg_join (t : B) : ∀ (n p : Nat) (s : B), s.length ≤ n → sg p (s ++ 10 :: t) = match sg p s with
    | .bad q e => .bad q e
    | .ok a => (sg (p + s.length + 1) t).on a := by
  have h10 : Sep 10 := by refine ⟨?_, ?_, ?_, ?_, ?_⟩ <;> decide
  intro n
  induction n with
  | zero =>
    intro p s hl
    have : s = [] := List.length_eq_zero_iff.1 (by omega)
    subst this
    rw [sg_nil, List.nil_append, sg_cons, if_pos (by decide)]
    simp only [List.length_nil, Nat.add_zero, Res.on_nil]
  | succ n ih =>
    intro p s hl
    cases s with
    | nil =>
      rw [sg_nil, List.nil_append, sg_cons, if_pos (by decide)]
      simp only [List.length_nil, Nat.add_zero, Res.on_nil]
    | cons c r =>
      simp only [List.length_cons] at hl
      rw [List.cons_append, sg_cons, sg_cons p c r]
      by_cases hb : blankC c = true
      · rw [if_pos hb, if_pos hb, ih (p + 1) r (by omega)]
        cases sg (p + 1) r with
        | bad q e => rfl
        | ok a => simp only [List.length_cons]; rw [show p + 1 + r.length + 1 = p + (r.length + 1) + 1 by omega]
      · rw [if_neg hb, if_neg hb]
        by_cases hc : c.toNat = 35
        · rw [if_pos hc, if_pos hc, front_sep notNl (by decide)]
          have hfl := front_le notNl r
          rw [List.drop_append_of_le_length hfl, ih _ _ (by rw [List.length_drop]; omega)]
          cases sg (p + 1 + front notNl r) (r.drop (front notNl r)) with
          | bad q e => rfl
          | ok a => simp only [List.length_cons, List.length_drop]; rw [show p + 1 + front notNl r + (r.length - front notNl r) + 1 = p + (r.length + 1) + 1 by omega]
        · rw [if_neg hc, if_neg hc]
          have hone := one_sep h10 t (c :: r) (by simp)
          rw [List.cons_append] at hone
          rw [hone]
          cases ho : one (c :: r) with
          | bad e => rfl
          | ok k n' =>
            obtain ⟨h1, h2⟩ := one_len ho (by simp)
            simp only [List.length_cons] at h2
            dsimp only
            rw [List.drop_append_of_le_length (by omega), ih _ _ (by rw [List.length_drop]; omega)]
            have htk : (c :: (r ++ 10 :: t)).take n' = (c :: r).take n' := by
              rw [← List.cons_append, List.take_append_of_le_length (by simp only [List.length_cons]; omega)]
            rw [htk]
            cases sg (p + n') (r.drop (n' - 1)) with
            | bad q e => rfl
            | ok a =>
              simp only [Res.more, List.length_cons, List.length_drop]
              rw [show p + n' + (r.length - (n' - 1)) + 1 = p + (r.length + 1) + 1 by omega]
              cases sg (p + (r.length + 1) + 1) t <;> rfl
end Go.Lx

namespace Go.Lx
/-! Texts that are cut at a sign's end. -/
theorem front_min (p : UInt8 → Bool) : ∀ (m : Nat) (l : B), front p (l.take m) = min m (front p l)
  | 0, l => by simp [front_nil]
  | m + 1, [] => by simp [front_nil]
  | m + 1, c :: l => by
    rw [List.take_succ_cons, front_cons, front_cons, front_min p m l]
    split <;> omega
theorem markN_take {l : B} {m : Nat} (h1 : markN l ≤ m) (h0 : markN l ≠ 0) : markN (l.take m) = markN l := by
  obtain ⟨q, rfl⟩ : ∃ q, m = q + 1 := ⟨m - 1, by omega⟩
  cases l with
  | nil => rw [List.take_nil]
  | cons c r =>
    unfold markN at h1 h0 ⊢
    rw [List.take_succ_cons]
    simp only [List.getD_cons_zero, List.length_cons, List.length_take] at h1 h0 ⊢
    by_cases hd : 1 < r.length + 1 ∧ List.take 2 (c :: r) ∈ doubles
    · rw [if_pos hd] at h1 h0 ⊢
      have e : List.take 2 (c :: List.take q r) = List.take 2 (c :: r) := by
        simp only [List.take_succ_cons, List.take_take]
        rw [show min 1 q = 1 by omega]
      rw [e, if_pos ⟨by omega, hd.2⟩]
    · rw [if_neg hd] at h1 h0 ⊢
      by_cases hd2 : 1 < min q r.length + 1 ∧ List.take 2 (c :: List.take q r) ∈ doubles
      · exfalso
        apply hd
        refine ⟨by omega, ?_⟩
        have e : List.take 2 (c :: List.take q r) = List.take 2 (c :: r) := by
          simp only [List.take_succ_cons, List.take_take]
          rw [show min 1 q = 1 by omega]
        rw [← e]; exact hd2.2
      · rw [if_neg hd2]
theorem one_take {l : B} {k n m : Nat} (h : one l = .ok k n) (hl : l ≠ []) (hm : n ≤ m) : one (l.take m) = .ok k n := by
  have hlen : 0 < l.length := List.length_pos_iff.2 hl
  obtain ⟨h1, h2⟩ := one_len h hlen
  have e : (l.take m).getD 0 0 = l.getD 0 0 := by
    obtain ⟨q, rfl⟩ : ∃ q, m = q + 1 := ⟨m - 1, by omega⟩
    cases l with
    | nil => rfl
    | cons c r => rfl
  unfold one at h ⊢
  rw [e, front_min, front_min]
  split at h
  · rename_i hs
    rw [if_pos hs]
    split at h <;> cases h
    rw [Nat.min_eq_right hm]
    rw [if_neg (by assumption)]
  · rename_i hs
    rw [if_neg hs]
    split at h
    · rename_i hd
      rw [if_pos hd]
      split at h
      · cases h
      · split at h <;> cases h
        rw [Nat.min_eq_right hm]
        rw [if_neg (by assumption), if_neg (by assumption)]
    · rename_i hd
      rw [if_neg hd]
      split at h <;> cases h
      rename_i hmk
      rw [markN_take hm hmk, if_neg hmk]
theorem sg_ge : ∀ (n p : Nat) (l : B) (acc : List Sgn), l.length ≤ n → sg p l = .ok acc → ∀ x ∈ acc, p ≤ x.at_ := by
  intro n
  induction n with
  | zero =>
    intro p l acc hl h x hx
    have : l = [] := List.length_eq_zero_iff.1 (by omega)
    subst this
    rw [sg_nil] at h; cases h; cases hx
  | succ n ih =>
    intro p l acc hl h x hx
    cases l with
    | nil => rw [sg_nil] at h; cases h; cases hx
    | cons c r =>
      simp only [List.length_cons] at hl
      rw [sg_cons] at h
      split at h
      · have := ih _ _ _ (by omega) h x hx; omega
      · split at h
        · have := ih _ _ _ (by rw [List.length_drop]; omega) h x hx; omega
        · split at h
          · cases h
          · rename_i k n' ho
            cases hs : sg (p + n') (r.drop (n' - 1)) with
            | bad q e => rw [hs] at h; cases h
            | ok a =>
              rw [hs] at h
              cases h
              rcases List.mem_cons.1 hx with rfl | hx
              · exact Nat.le_refl _
              · have := ih _ _ _ (by rw [List.length_drop]; omega) hs x hx; omega
theorem sg_cut : ∀ (n p : Nat) (l : B) (acc : List Sgn), l.length ≤ n → sg p l = .ok acc → ∀ (k : Nat) (x : Sgn), acc[k]? = some x → sg p (l.take (x.at_ + x.t.length - p)) = .ok (acc.take (k + 1)) := by
  intro n
  induction n with
  | zero =>
    intro p l acc hl h k x hx
    have : l = [] := List.length_eq_zero_iff.1 (by omega)
    subst this
    rw [sg_nil] at h; cases h; simp at hx
  | succ n ih =>
    intro p l acc hl h k x hx
    cases l with
    | nil => rw [sg_nil] at h; cases h; simp at hx
    | cons c r =>
      simp only [List.length_cons] at hl
      have h0 := h
      rw [sg_cons] at h
      by_cases hb : blankC c = true
      · rw [if_pos hb] at h
        have hge := sg_ge _ _ _ _ (Nat.le_refl _) h x (List.mem_of_getElem? hx)
        have := ih _ _ _ (by omega) h k x hx
        rw [show x.at_ + x.t.length - p = x.at_ + x.t.length - (p + 1) + 1 by omega, List.take_succ_cons, sg_cons, if_pos hb]
        exact this
      · rw [if_neg hb] at h
        by_cases hc : c.toNat = 35
        · rw [if_pos hc] at h
          have hge := sg_ge _ _ _ _ (Nat.le_refl _) h x (List.mem_of_getElem? hx)
          have := ih _ _ _ (by rw [List.length_drop]; omega) h k x hx
          rw [show x.at_ + x.t.length - p = x.at_ + x.t.length - (p + 1) + 1 by omega, List.take_succ_cons, sg_cons, if_neg hb, if_pos hc, front_min, Nat.min_eq_right (by omega), List.drop_take]
          rw [show x.at_ + x.t.length - (p + 1) - front notNl r = x.at_ + x.t.length - (p + 1 + front notNl r) by omega]
          exact this
        · rw [if_neg hc] at h
          cases ho : one (c :: r) with
          | bad e => rw [ho] at h; cases h
          | ok kk n' =>
            rw [ho] at h
            obtain ⟨h1, h2⟩ := one_len ho (by simp)
            simp only [List.length_cons] at h2
            dsimp only at h
            cases hs : sg (p + n') (r.drop (n' - 1)) with
            | bad q e => rw [hs] at h; cases h
            | ok a =>
              rw [hs] at h
              cases h
              have key : ∀ m, n' ≤ m → ∀ w, sg (p + n') ((r.drop (n' - 1)).take (m - n')) = .ok w → sg p ((c :: r).take m) = .ok (⟨kk, (c :: r).take n', p⟩ :: w) := by
                intro m hm w hw
                have e1 := one_take ho (by simp) hm
                obtain ⟨q, rfl⟩ : ∃ q, m = q + 1 := ⟨m - 1, by omega⟩
                rw [List.take_succ_cons] at e1 ⊢
                rw [sg_cons, if_neg hb, if_neg hc, e1]
                dsimp only
                rw [List.drop_take, show q - (n' - 1) = q + 1 - n' by omega, hw]
                have e2 : (c :: r.take q).take n' = (c :: r).take n' := by
                  rw [← List.take_succ_cons, List.take_take, Nat.min_eq_left hm]
                rw [e2]
                rfl
              cases k with
              | zero =>
                simp only [List.getElem?_cons_zero, Option.some.injEq] at hx
                subst hx
                have e3 : p + ((c :: r).take n').length - p = n' := by rw [List.length_take, List.length_cons]; omega
                dsimp only
                rw [e3, key n' (Nat.le_refl _) [] (by rw [Nat.sub_self, List.take_zero, sg_nil])]
                simp
              | succ k =>
                simp only [List.getElem?_cons_succ] at hx
                have hge := sg_ge _ _ _ _ (Nat.le_refl _) hs x (List.mem_of_getElem? hx)
                have := ih _ _ _ (by rw [List.length_drop]; omega) hs k x hx
                rw [key _ (by omega) (a.take (k + 1)) (by rw [show x.at_ + x.t.length - p - n' = x.at_ + x.t.length - (p + n') by omega]; exact this)]
                rw [List.take_succ_cons]
end Go.Lx

namespace Go.Lx
/-! Signs with gaps between. -/
theorem sg_tok : ∀ (n p : Nat) (l : B) (acc : List Sgn), l.length ≤ n → sg p l = .ok acc → ∀ x ∈ acc, ∃ c r, x.t = c :: r ∧ ¬ blankC c = true ∧ ¬ c.toNat = 35 ∧ one x.t = .ok x.k x.t.length := by
  intro n
  induction n with
  | zero =>
    intro p l acc hl h x hx
    have : l = [] := List.length_eq_zero_iff.1 (by omega)
    subst this
    rw [sg_nil] at h; cases h; cases hx
  | succ n ih =>
    intro p l acc hl h x hx
    cases l with
    | nil => rw [sg_nil] at h; cases h; cases hx
    | cons c r =>
      simp only [List.length_cons] at hl
      rw [sg_cons] at h
      by_cases hb : blankC c = true
      · rw [if_pos hb] at h; exact ih _ _ _ (by omega) h x hx
      · rw [if_neg hb] at h
        by_cases hc : c.toNat = 35
        · rw [if_pos hc] at h; exact ih _ _ _ (by rw [List.length_drop]; omega) h x hx
        · rw [if_neg hc] at h
          cases ho : one (c :: r) with
          | bad e => rw [ho] at h; cases h
          | ok kk n' =>
            rw [ho] at h
            dsimp only at h
            cases hs : sg (p + n') (r.drop (n' - 1)) with
            | bad q e => rw [hs] at h; cases h
            | ok a =>
              rw [hs] at h
              cases h
              rcases List.mem_cons.1 hx with rfl | hx
              · obtain ⟨h1, h2⟩ := one_len ho (by simp)
                have hl : ((c :: r).take n').length = n' := by rw [List.length_take]; omega
                obtain ⟨q, rfl⟩ : ∃ q, n' = q + 1 := ⟨n' - 1, by omega⟩
                refine ⟨c, r.take q, rfl, hb, hc, ?_⟩
                dsimp only
                rw [hl]
                exact one_take ho (by simp) (Nat.le_refl _)
              · exact ih _ _ _ (by rw [List.length_drop]; omega) hs x hx
/-- what stands between signs -/
structure Gap (g : B) : Prop where
  pass : ∀ p rest, sg p (g ++ rest) = sg (p + g.length) rest
  sep : ∃ c r, g = c :: r ∧ Sep c
theorem front_nl (l rest : B) (h : ∀ x ∈ l, notNl x = true) : front notNl (l ++ 10 :: rest) = l.length := by
  induction l with
  | nil => rw [List.nil_append, front_cons, if_neg (by decide)]; rfl
  | cons c l ih => rw [List.cons_append, front_cons, if_pos (h c (by simp)), ih (fun x hx => h x (by simp [hx]))]; rfl
theorem sg_bl {c : UInt8} (hb : blankC c = true) (p : Nat) (r : B) : sg p (c :: r) = sg (p + 1) r := by rw [sg_cons, if_pos hb]
theorem sg_rem (l rest : B) (h : ∀ x ∈ l, notNl x = true) (p : Nat) : sg p (35 :: (l ++ 10 :: rest)) = sg (p + 1 + l.length + 1) rest := by
  rw [sg_cons, if_neg (by decide), if_pos (by decide), front_nl l rest h, List.drop_left, sg_bl (by decide)]
def gapsT : List B := [[32], [10], [32, 32], [9, 13], [32, 35, 32, 100, 111, 10], [35, 10, 10]]
theorem sepD {c : UInt8} (h : wordy c = false ∧ c.toNat ≠ 61 ∧ c.toNat ≠ 62 ∧ c.toNat ≠ 38 ∧ c.toNat ≠ 124) : Sep c := h
theorem gap_ok : ∀ g ∈ gapsT, Gap g ∧ g.length ≤ 6 := by
  have hd : ∀ c : UInt8, c = 32 ∨ c = 10 ∨ c = 9 ∨ c = 35 → Sep c := by
    intro c hc
    rcases hc with rfl | rfl | rfl | rfl <;> (refine ⟨?_, ?_, ?_, ?_, ?_⟩ <;> decide)
  intro g hg
  simp only [gapsT, List.mem_cons, List.not_mem_nil, or_false] at hg
  rcases hg with rfl | rfl | rfl | rfl | rfl | rfl
  · exact ⟨⟨fun p rest => sg_bl (by decide) p rest, _, _, rfl, hd _ (by simp)⟩, by decide⟩
  · exact ⟨⟨fun p rest => sg_bl (by decide) p rest, _, _, rfl, hd _ (by simp)⟩, by decide⟩
  · exact ⟨⟨fun p rest => (sg_bl (by decide) p _).trans (sg_bl (by decide) _ rest), _, _, rfl, hd _ (by simp)⟩, by decide⟩
  · exact ⟨⟨fun p rest => (sg_bl (by decide) p _).trans (sg_bl (by decide) _ rest), _, _, rfl, hd _ (by simp)⟩, by decide⟩
  · exact ⟨⟨fun p rest => (sg_bl (by decide) p _).trans (sg_rem [32, 100, 111] rest (by decide) _), _, _, rfl, hd _ (by simp)⟩, by decide⟩
  · exact ⟨⟨fun p rest => (sg_rem [] (10 :: rest) (by decide) p).trans (sg_bl (by decide) _ rest), _, _, rfl, hd _ (by simp)⟩, by decide⟩
def kt (x : Sgn) : Nat × B := (x.k, x.t)
/-- a text of so many signs, gaps between -/
def Spread (s : B) (ks : List (Nat × B)) : Prop := ∀ p rest, ∃ m : List Sgn, m.map kt = ks ∧ sg p (s ++ rest) = (sg (p + s.length) rest).on m
theorem Spread.nil : Spread [] [] := fun p rest => ⟨[], rfl, by rw [Res.on_nil]; rfl⟩
theorem Spread.step {s : B} {ks : List (Nat × B)} (h : Spread s ks) {x : Sgn} (hx : ∃ c r, x.t = c :: r ∧ ¬ blankC c = true ∧ ¬ c.toNat = 35 ∧ one x.t = .ok x.k x.t.length) {g : B} (hg : Gap g) :
    Spread (s ++ x.t ++ g) (ks ++ [kt x]) := by
  intro p rest
  obtain ⟨c, r, e, hb, hc, ho⟩ := hx
  obtain ⟨gc, gr, eg, hsep⟩ := hg.sep
  obtain ⟨m, hm, h1⟩ := h p (x.t ++ (g ++ rest))
  refine ⟨m ++ [⟨x.k, x.t, p + s.length⟩], by rw [List.map_append, hm]; rfl, ?_⟩
  have h2 : sg (p + s.length) (x.t ++ (g ++ rest)) = (sg (p + s.length + x.t.length) (g ++ rest)).more ⟨x.k, x.t, p + s.length⟩ := by
    have ho2 : one (x.t ++ (g ++ rest)) = .ok x.k x.t.length := by
      rw [eg, List.cons_append, one_sep hsep _ _ (by rw [e]; simp)]; exact ho
    have hd : (x.t ++ (g ++ rest)) = c :: (r ++ (g ++ rest)) := by rw [e]; rfl
    have hlen : x.t.length = r.length + 1 := by rw [e]; rfl
    rw [hd] at ho2
    rw [hd, sg_cons, if_neg hb, if_neg hc, ho2]
    dsimp only
    have e1 : (r ++ (g ++ rest)).drop (x.t.length - 1) = g ++ rest := by rw [hlen, Nat.add_sub_cancel, List.drop_left]
    have e2 : (c :: (r ++ (g ++ rest))).take x.t.length = x.t := by rw [← hd, List.take_left]
    rw [e1, e2]
  have e3 : s ++ x.t ++ g ++ rest = s ++ (x.t ++ (g ++ rest)) := by simp
  rw [e3, h1, h2, hg.pass, Res.on_more]
  simp only [List.length_append, Nat.add_assoc]
theorem Spread.done {s : B} {ks : List (Nat × B)} (h : Spread s ks) : ∃ m, sg 0 s = .ok m ∧ m.map kt = ks := by
  obtain ⟨m, hm, h1⟩ := h 0 []
  rw [List.append_nil, sg_nil] at h1
  exact ⟨m, by rw [h1]; simp [Res.on], hm⟩
end Go.Lx
