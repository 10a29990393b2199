/-
  A part of the proof: what the program's functions hand back, as theorems. No condition but those that each theorem names.
-/
import Derived.Test.YthjcdbbomfmphaaLxa
set_option linter.unusedSimpArgs false
set_option linter.unusedVariables false
namespace Go.Lx
/-! What chapter 1 says of texts one behind the other, and of texts that are cut. -/
def Sgn.sh (d : Nat) (x : Sgn) : Sgn := ⟨x.k, x.t, x.at_ + d⟩
def Res.sh (d : Nat) : Res → Res
  | .bad p e => .bad (p + d) e
  | .ok l => .ok (l.map (Sgn.sh d))
theorem Res.sh_more (d : Nat) (x : Sgn) (r : Res) : (r.more x).sh d = (r.sh d).more (x.sh d) := by cases r <;> rfl
theorem sg_shift (d : Nat) : ∀ (n p : Nat) (l : B), l.length ≤ n → sg (p + d) l = (sg p l).sh d := by
  intro n
  induction n with
  | zero =>
    intro p l hl
    have : l = [] := List.length_eq_zero_iff.1 (by omega)
    subst this
    rw [sg_nil, sg_nil]; rfl
  | succ n ih =>
    intro p l hl
    cases l with
    | nil => rw [sg_nil, sg_nil]; rfl
    | cons c r =>
      simp only [List.length_cons] at hl
      rw [sg_cons, sg_cons]
      split
      · rw [show p + d + 1 = p + 1 + d by omega]; exact ih _ _ (by omega)
      · split
        · rw [show p + d + 1 + front notNl r = p + 1 + front notNl r + d by omega]
          exact ih _ _ (by rw [List.length_drop]; omega)
        · split
          · rfl
          · rename_i k n' _
            rw [show p + d + n' = p + n' + d by omega, ih _ _ (by rw [List.length_drop]; omega), Res.sh_more]
            rfl

/-- a byte that ends each sign -/
def Sep (x : UInt8) : Prop := wordy x = false ∧ x.toNat ≠ 61 ∧ x.toNat ≠ 62 ∧ x.toNat ≠ 38 ∧ x.toNat ≠ 124
theorem front_sep (p : UInt8 → Bool) {x : UInt8} (hp : p x = false) (t : B) : ∀ l : B, front p (l ++ x :: t) = front p l
  | [] => by rw [List.nil_append, front_cons, hp]; rfl
  | c :: l => by
    rw [List.cons_append, front_cons, front_cons, front_sep p hp t l]
theorem Sep.digit {x : UInt8} (h : Sep x) : digit x = false := by
  have := h.1
  simp only [wordy, Bool.or_eq_false_iff] at this
  exact this.1.2
theorem dbl_sep {x : UInt8} (h : Sep x) (c : UInt8) : [c, x] ∉ doubles := by
  obtain ⟨_, h1, h2, h3, h4⟩ := h
  simp only [doubles, List.mem_cons, List.not_mem_nil, or_false, List.cons.injEq, and_true, not_or]
  refine ⟨?_, ?_, ?_, ?_, ?_, ?_, ?_, ?_⟩ <;> (rintro ⟨_, rfl⟩; first | exact h1 (by decide) | exact h2 (by decide) | exact h3 (by decide) | exact h4 (by decide))
theorem markN_sep {x : UInt8} (h : Sep x) (t : B) : ∀ l : B, l ≠ [] → markN (l ++ x :: t) = markN l
  | [], hl => absurd rfl hl
  | [c], _ => by
    unfold markN
    have e : (([c] ++ x :: t).take 2) = [c, x] := rfl
    have e1 : ¬ (1 < [c].length ∧ [c].take 2 ∈ doubles) := fun hh => by have := hh.1; simp at this
    rw [e, if_neg (fun hh => dbl_sep h c hh.2), if_neg e1]
    rfl
  | c :: d :: l, _ => by
    unfold markN
    have e : ((c :: d :: l ++ x :: t).take 2) = (c :: d :: l).take 2 := rfl
    rw [e]
    have e2 : (c :: d :: l ++ x :: t).getD 0 0 = (c :: d :: l).getD 0 0 := rfl
    rw [e2]
    simp
theorem one_sep {x : UInt8} (h : Sep x) (t : B) (l : B) (hl : l ≠ []) : one (l ++ x :: t) = one l := by
  unfold one
  have e : (l ++ x :: t).getD 0 0 = l.getD 0 0 := by cases l with
    | nil => exact absurd rfl hl
    | cons c l => rfl
  rw [e, front_sep wordy h.1, front_sep digit h.digit, markN_sep h t l hl]
/-- texts one behind the other, a line between -/
theorem sg_join (t : B) : ∀ (n p : Nat) (s : B), s.length ≤ n → sg p (s ++ 10 :: t) = match sg p s with
    | .bad q e => .bad q e
    | .ok a => (sg (p + s.length + 1) t).on a := by
  have h10 : Sep 10 := by refine ⟨?_, ?_, ?_, ?_, ?_⟩ <;> decide
  intro n
  induction n with
  | zero =>
    intro p s hl
    have : s = [] := List.length_eq_zero_iff.1 (by omega)
    subst this
    rw [sg_nil, List.nil_append, sg_cons, if_pos (by decide)]
    simp only [List.length_nil, Nat.add_zero, Res.on_nil]
  | succ n ih =>
    intro p s hl
    cases s with
    | nil =>
      rw [sg_nil, List.nil_append, sg_cons, if_pos (by decide)]
      simp only [List.length_nil, Nat.add_zero, Res.on_nil]
    | cons c r =>
      simp only [List.length_cons] at hl
      rw [List.cons_append, sg_cons, sg_cons p c r]
      by_cases hb : blankC c = true
      · rw [if_pos hb, if_pos hb, ih (p + 1) r (by omega)]
        cases sg (p + 1) r with
        | bad q e => rfl
        | ok a => simp only [List.length_cons]; rw [show p + 1 + r.length + 1 = p + (r.length + 1) + 1 by omega]
      · rw [if_neg hb, if_neg hb]
        by_cases hc : c.toNat = 35
        · rw [if_pos hc, if_pos hc, front_sep notNl (by decide)]
          have hfl := front_le notNl r
          rw [List.drop_append_of_le_length hfl, ih _ _ (by rw [List.length_drop]; omega)]
          cases sg (p + 1 + front notNl r) (r.drop (front notNl r)) with
          | bad q e => rfl
          | ok a => simp only [List.length_cons, List.length_drop]; rw [show p + 1 + front notNl r + (r.length - front notNl r) + 1 = p + (r.length + 1) + 1 by omega]
        · rw [if_neg hc, if_neg hc]
          have hone := one_sep h10 t (c :: r) (by simp)
          rw [List.cons_append] at hone
          rw [hone]
          cases ho : one (c :: r) with
          | bad e => rfl
          | ok k n' =>
            obtain ⟨h1, h2⟩ := one_len ho (by simp)
            simp only [List.length_cons] at h2
            dsimp only
            rw [List.drop_append_of_le_length (by omega), ih _ _ (by rw [List.length_drop]; omega)]
            have htk : (c :: (r ++ 10 :: t)).take n' = (c :: r).take n' := by
              rw [← List.cons_append, List.take_append_of_le_length (by simp only [List.length_cons]; omega)]
            rw [htk]
            cases sg (p + n') (r.drop (n' - 1)) with
            | bad q e => rfl
            | ok a =>
              simp only [Res.more, List.length_cons, List.length_drop]
              rw [show p + n' + (r.length - (n' - 1)) + 1 = p + (r.length + 1) + 1 by omega]
              cases sg (p + (r.length + 1) + 1) t <;> rfl
end Go.Lx

namespace Go.Lx
/-! Texts that are cut at a sign's end. -/
theorem front_min (p : UInt8 → Bool) : ∀ (m : Nat) (l : B), front p (l.take m) = min m (front p l)
  | 0, l => by simp [front_nil]
  | m + 1, [] => by simp [front_nil]
  | m + 1, c :: l => by
    rw [List.take_succ_cons, front_cons, front_cons, front_min p m l]
    split <;> omega
theorem markN_take {l : B} {m : Nat} (h1 : markN l ≤ m) (h0 : markN l ≠ 0) : markN (l.take m) = markN l := by
  obtain ⟨q, rfl⟩ : ∃ q, m = q + 1 := ⟨m - 1, by omega⟩
  cases l with
  | nil => rw [List.take_nil]
  | cons c r =>
    unfold markN at h1 h0 ⊢
    rw [List.take_succ_cons]
    simp only [List.getD_cons_zero, List.length_cons, List.length_take] at h1 h0 ⊢
    by_cases hd : 1 < r.length + 1 ∧ List.take 2 (c :: r) ∈ doubles
    · rw [if_pos hd] at h1 h0 ⊢
      have e : List.take 2 (c :: List.take q r) = List.take 2 (c :: r) := by
        simp only [List.take_succ_cons, List.take_take]
        rw [show min 1 q = 1 by omega]
      rw [e, if_pos ⟨by omega, hd.2⟩]
    · rw [if_neg hd] at h1 h0 ⊢
      by_cases hd2 : 1 < min q r.length + 1 ∧ List.take 2 (c :: List.take q r) ∈ doubles
      · exfalso
        apply hd
        refine ⟨by omega, ?_⟩
        have e : List.take 2 (c :: List.take q r) = List.take 2 (c :: r) := by
          simp only [List.take_succ_cons, List.take_take]
          rw [show min 1 q = 1 by omega]
        rw [← e]; exact hd2.2
      · rw [if_neg hd2]
theorem one_take {l : B} {k n m : Nat} (h : one l = .ok k n) (hl : l ≠ []) (hm : n ≤ m) : one (l.take m) = .ok k n := by
  have hlen : 0 < l.length := List.length_pos_iff.2 hl
  obtain ⟨h1, h2⟩ := one_len h hlen
  have e : (l.take m).getD 0 0 = l.getD 0 0 := by
    obtain ⟨q, rfl⟩ : ∃ q, m = q + 1 := ⟨m - 1, by omega⟩
    cases l with
    | nil => rfl
    | cons c r => rfl
  unfold one at h ⊢
  rw [e, front_min, front_min]
  split at h
  · rename_i hs
    rw [if_pos hs]
    split at h <;> cases h
    rw [Nat.min_eq_right hm]
    rw [if_neg (by assumption)]
  · rename_i hs
    rw [if_neg hs]
    split at h
    · rename_i hd
      rw [if_pos hd]
      split at h
      · cases h
      · split at h <;> cases h
        rw [Nat.min_eq_right hm]
        rw [if_neg (by assumption), if_neg (by assumption)]
    · rename_i hd
      rw [if_neg hd]
      split at h <;> cases h
      rename_i hmk
      rw [markN_take hm hmk, if_neg hmk]
theorem sg_ge : ∀ (n p : Nat) (l : B) (acc : List Sgn), l.length ≤ n → sg p l = .ok acc → ∀ x ∈ acc, p ≤ x.at_ := by
  intro n
  induction n with
  | zero =>
    intro p l acc hl h x hx
    have : l = [] := List.length_eq_zero_iff.1 (by omega)
    subst this
    rw [sg_nil] at h; cases h; cases hx
  | succ n ih =>
    intro p l acc hl h x hx
    cases l with
    | nil => rw [sg_nil] at h; cases h; cases hx
    | cons c r =>
      simp only [List.length_cons] at hl
      rw [sg_cons] at h
      split at h
      · have := ih _ _ _ (by omega) h x hx; omega
      · split at h
        · have := ih _ _ _ (by rw [List.length_drop]; omega) h x hx; omega
        · split at h
          · cases h
          · rename_i k n' ho
            cases hs : sg (p + n') (r.drop (n' - 1)) with
            | bad q e => rw [hs] at h; cases h
            | ok a =>
              rw [hs] at h
              cases h
              rcases List.mem_cons.1 hx with rfl | hx
              · exact Nat.le_refl _
              · have := ih _ _ _ (by rw [List.length_drop]; omega) hs x hx; omega
theorem sg_cut : ∀ (n p : Nat) (l : B) (acc : List Sgn), l.length ≤ n → sg p l = .ok acc → ∀ (k : Nat) (x : Sgn), acc[k]? = some x → sg p (l.take (x.at_ + x.t.length - p)) = .ok (acc.take (k + 1)) := by
  intro n
  induction n with
  | zero =>
    intro p l acc hl h k x hx
    have : l = [] := List.length_eq_zero_iff.1 (by omega)
    subst this
    rw [sg_nil] at h; cases h; simp at hx
  | succ n ih =>
    intro p l acc hl h k x hx
    cases l with
    | nil => rw [sg_nil] at h; cases h; simp at hx
    | cons c r =>
      simp only [List.length_cons] at hl
      have h0 := h
      rw [sg_cons] at h
      by_cases hb : blankC c = true
      · rw [if_pos hb] at h
        have hge := sg_ge _ _ _ _ (Nat.le_refl _) h x (List.mem_of_getElem? hx)
        have := ih _ _ _ (by omega) h k x hx
        rw [show x.at_ + x.t.length - p = x.at_ + x.t.length - (p + 1) + 1 by omega, List.take_succ_cons, sg_cons, if_pos hb]
        exact this
      · rw [if_neg hb] at h
        by_cases hc : c.toNat = 35
        · rw [if_pos hc] at h
          have hge := sg_ge _ _ _ _ (Nat.le_refl _) h x (List.mem_of_getElem? hx)
          have := ih _ _ _ (by rw [List.length_drop]; omega) h k x hx
          rw [show x.at_ + x.t.length - p = x.at_ + x.t.length - (p + 1) + 1 by omega, List.take_succ_cons, sg_cons, if_neg hb, if_pos hc, front_min, Nat.min_eq_right (by omega), List.drop_take]
          rw [show x.at_ + x.t.length - (p + 1) - front notNl r = x.at_ + x.t.length - (p + 1 + front notNl r) by omega]
          exact this
        · rw [if_neg hc] at h
          cases ho : one (c :: r) with
          | bad e => rw [ho] at h; cases h
          | ok kk n' =>
            rw [ho] at h
            obtain ⟨h1, h2⟩ := one_len ho (by simp)
            simp only [List.length_cons] at h2
            dsimp only at h
            cases hs : sg (p + n') (r.drop (n' - 1)) with
            | bad q e => rw [hs] at h; cases h
            | ok a =>
              rw [hs] at h
              cases h
              have key : ∀ m, n' ≤ m → ∀ w, sg (p + n') ((r.drop (n' - 1)).take (m - n')) = .ok w → sg p ((c :: r).take m) = .ok (⟨kk, (c :: r).take n', p⟩ :: w) := by
                intro m hm w hw
                have e1 := one_take ho (by simp) hm
                obtain ⟨q, rfl⟩ : ∃ q, m = q + 1 := ⟨m - 1, by omega⟩
                rw [List.take_succ_cons] at e1 ⊢
                rw [sg_cons, if_neg hb, if_neg hc, e1]
                dsimp only
                rw [List.drop_take, show q - (n' - 1) = q + 1 - n' by omega, hw]
                have e2 : (c :: r.take q).take n' = (c :: r).take n' := by
                  rw [← List.take_succ_cons, List.take_take, Nat.min_eq_left hm]
                rw [e2]
                rfl
              cases k with
              | zero =>
                simp only [List.getElem?_cons_zero, Option.some.injEq] at hx
                subst hx
                have e3 : p + ((c :: r).take n').length - p = n' := by rw [List.length_take, List.length_cons]; omega
                dsimp only
                rw [e3, key n' (Nat.le_refl _) [] (by rw [Nat.sub_self, List.take_zero, sg_nil])]
                simp
              | succ k =>
                simp only [List.getElem?_cons_succ] at hx
                have hge := sg_ge _ _ _ _ (Nat.le_refl _) hs x (List.mem_of_getElem? hx)
                have := ih _ _ _ (by rw [List.length_drop]; omega) hs k x hx
                rw [key _ (by omega) (a.take (k + 1)) (by rw [show x.at_ + x.t.length - p - n' = x.at_ + x.t.length - (p + n') by omega]; exact this)]
                rw [List.take_succ_cons]
end Go.Lx

namespace Go.Lx
/-! Key words and names. -/
abbrev KT : B := [32, 118, 97, 114, 32, 115, 116, 97, 99, 107, 32, 112, 114, 111, 99, 32, 115, 107, 105, 112, 32, 100, 111, 32, 112, 117, 115, 104, 32, 114, 101, 118, 101, 114, 115, 101, 32, 97, 99, 99, 101, 112, 116, 32, 109, 101, 114, 103, 101, 32, 98, 108, 111, 99, 107, 32, 101, 120, 105, 116, 32, 105, 102, 32, 101, 108, 115, 101, 32, 99, 104, 111, 111, 115, 101, 32, 112, 97, 114, 32, 99, 97, 108, 108, 32]
abbrev KU : B := [118, 97, 114, 32, 115, 116, 97, 99, 107, 32, 112, 114, 111, 99, 32, 115, 107, 105, 112, 32, 100, 111, 32, 112, 117, 115, 104, 32, 114, 101, 118, 101, 114, 115, 101, 32, 97, 99, 99, 101, 112, 116, 32, 109, 101, 114, 103, 101, 32, 98, 108, 111, 99, 107, 32, 101, 120, 105, 116, 32, 105, 102, 32, 101, 108, 115, 101, 32, 99, 104, 111, 111, 115, 101, 32, 112, 97, 114, 32, 99, 97, 108, 108, 32]
def keysL : List B := [[118, 97, 114], [115, 116, 97, 99, 107], [112, 114, 111, 99], [115, 107, 105, 112], [100, 111], [112, 117, 115, 104], [114, 101, 118, 101, 114, 115, 101], [97, 99, 99, 101, 112, 116], [109, 101, 114, 103, 101], [98, 108, 111, 99, 107], [101, 120, 105, 116], [105, 102], [101, 108, 115, 101], [99, 104, 111, 111, 115, 101], [112, 97, 114], [99, 97, 108, 108]]
/-- a text stands at a place of the key words' text, blanks about it -/
def KM (l : B) (i : Nat) : Prop := i + l.length + 2 ≤ 85 ∧ KT.getD i 0 = 32 ∧ KT.getD (i + l.length + 1) 0 = 32 ∧ (KT.drop (i + 1)).take l.length = l
theorem keys_no32 {l : B} (h : l ∈ keysL) : (32 : UInt8) ∉ l := by
  have : ∀ w ∈ keysL, (32 : UInt8) ∉ w := by decide
  exact this l h
theorem keys_len {l : B} (h : l ∈ keysL) : 0 < l.length := by
  have : ∀ w ∈ keysL, 0 < w.length := by decide
  exact this l h
theorem keys_at {l : B} (h : l ∈ keysL) : ∃ i, KM l i := by
  have : ∀ w ∈ keysL, ∃ i ∈ List.range 85, i + w.length + 2 ≤ 85 ∧ KT.getD i 0 = 32 ∧ KT.getD (i + w.length + 1) 0 = 32 ∧ (KT.drop (i + 1)).take w.length = w := by decide +kernel
  obtain ⟨i, _, h2⟩ := this l h
  exact ⟨i, h2⟩
theorem keys_of : ∀ i ∈ List.range 85, ∀ n ∈ List.range 85, i + n + 2 ≤ 85 → 0 < n → KT.getD i 0 = 32 → KT.getD (i + n + 1) 0 = 32 → (32 : UInt8) ∉ (KT.drop (i + 1)).take n → (KT.drop (i + 1)).take n ∈ keysL := by decide +kernel
theorem keys_in {l : B} {i : Nat} (h : KM l i) (h0 : 0 < l.length) (h32 : (32 : UInt8) ∉ l) : l ∈ keysL := by
  obtain ⟨h1, h2, h3, h4⟩ := h
  have := keys_of i (List.mem_range.2 (by omega)) l.length (List.mem_range.2 (by omega)) h1 h0 h2 h3 (by rw [h4]; exact h32)
  rwa [h4] at this
def nameB (l : B) : Bool := decide (l ≠ [] ∧ l.length ≤ 20 ∧ l ∉ keysL) && (small (l.getD 0 0) && decide (front wordy l = l.length))
end Go.Lx
