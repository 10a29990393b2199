/-
  A part of the proof: what the program's functions hand back, as theorems. No condition but those that each theorem names.
-/
import Derived.Test.YthjcdbbomfmphaaLxg
import Derived.Test.YthjcdbbomfmphaaLxh
import Derived.Test.YthjcdbbomfmphaaLxm
set_option linter.unusedSimpArgs false
set_option linter.unusedVariables false
namespace Go.Proofs.Ythjcdbbomfmphaa
open Go Go.RowKit Go.Ev Go.Lx
noncomputable section
set_option linter.unusedSimpArgs false
set_option linter.unusedVariables false
variable (G : Nat) (h : Heap)

theorem signs_sg {L : B} (h : L.length ≤ 4000) : signs L = sg 0 L := by unfold signs; rw [if_neg (by omega)]
theorem bad_ne {L : B} {p e : Nat} (h : sg 0 L = .bad p e) : ¬ ((e : Int) = 0) := by
  have := sg_bad_ne _ _ _ _ _ (Nat.le_refl _) h; omega
theorem sg_fit : ∀ (acc : List Sgn) (p : Nat) (l : B), sg p l = .ok acc → ∀ x ∈ acc, p ≤ x.at_ ∧ x.at_ + x.t.length ≤ p + l.length
  | [], _, _, _, x, hx => by cases hx
  | y :: r, p, l, h, x, hx => by
    have hst := sg_step _ p l (Nat.le_refl _)
    unfold Step at hst
    rw [h] at hst
    obtain ⟨g1, g2, g3, g4, g5, g6⟩ := hst
    rcases List.mem_cons.1 hx with rfl | hx
    · omega
    · have := sg_fit r _ _ g6 x hx
      rw [List.length_drop] at this
      omega
theorem bounds_h {len top : Nat} {k : Int} (h0 : 0 ≤ k) (h1 : k ≤ top) : bounds len top none (some (.int .i64 k)) none = some (0, k.toNat, none) := by
  obtain ⟨n, rfl⟩ : ∃ n : Nat, k = n := ⟨k.toNat, by omega⟩
  have e : Nat.ble n top = true := by rw [Nat.ble_eq]; omega
  show (match (match Nat.ble n top with | true => some n | false => none : Option Nat) with | none => none | some h => some (0, h, none)) = _
  rw [e]
  rfl
theorem slV_own_h {P : Program} {h : Heap} {t e n : Nat} {a : Option Addr} {len c : Nat} {cs : List Value} (hu : P.underlying t = some (.slice e)) (hs : szT P e = some n) (hn : 0 < n) (ho : Own h e n a len c cs) (hl : len < 4611686018427387904 / 100000) {k : Int} (h0 : 0 ≤ k) (h1 : k ≤ len) (hp : 0 < len) :
    slV P t (.slice a len c) none (some (.int .i64 k)) none h = some (.slice a k.toNat c) := by
  have hlU : len < U := by unfold U; omega
  have hUC : len < UC := by have := U_UC; omega
  rcases ho.hat with ⟨_, h2, _⟩ | ⟨b, m, rfl, hb1, hb2, hc, hm⟩
  · omega
  · have ea : (⟨b, 0, none⟩ : Addr).add (0 * n) = ⟨b, 0, none⟩ := by rw [addr_add]; simp
    rcases hm with ⟨rfl, rfl⟩ | ⟨rfl, rfl⟩
    · have e1 : Nat.blt UC UC = false := by
        cases hx : Nat.blt UC UC with
        | false => rfl
        | true => rw [Nat.blt_eq] at hx; omega
      have e2 : (Nat.beq e e && Nat.ble UC UC && Nat.beq 0 ((UC - UC) * n) && Nat.blt 0 n && Nat.ble (0 + len * n) cs.length && Nat.blt len U) = true := by
        simp only [Bool.and_eq_true, Nat.beq_eq, Nat.ble_eq, Nat.blt_eq]
        refine ⟨⟨⟨⟨⟨trivial, Nat.le_refl _⟩, by simp⟩, hn⟩, by rw [ho.hlen]; omega⟩, hlU⟩
      have e3 : Nat.blt 0 len = true := by rw [Nat.blt_eq]; exact hp
      have e4 : slicePure P t (some ⟨b, 0, none⟩) len UC none (some (.int .i64 k)) none = none := by
        unfold slicePure
        simp only [hu, hs, e1]
      simp only [slV, e4, sliceRead, hu, hs, hc, e2, bounds_h h0 h1, e3, ea, Nat.sub_zero, Nat.add_zero]
    · have e1 : Nat.blt c UC = true := by rw [Nat.blt_eq]; exact hUC
      have e3 : Nat.beq c 0 = false := by
        cases hx : Nat.beq c 0 with
        | false => rfl
        | true => rw [Nat.beq_eq] at hx; omega
      have e4 : slicePure P t (some ⟨b, 0, none⟩) c c none (some (.int .i64 k)) none = some (.slice (some ⟨b, 0, none⟩) k.toNat c) := by
        unfold slicePure
        simp only [hu, hs, e1, bounds_h h0 h1, Option.getD_none, e3, Option.map_some, ea, Nat.sub_zero]
      simp only [slV, e4]
theorem u28 : Try.prog.underlying 28 = some (.slice 39) := by kernel_rfl

/-- a text that is cut at a sign's end -/
theorem sgC_take (l : List Sgn) (k : Nat) : sgC (l.take k) = (sgC l).take (k * 3) := by
  induction l generalizing k with
  | nil => simp [sgC]
  | cons x l ih =>
    cases k with
    | zero => simp [sgC]
    | succ k =>
      simp only [List.take_succ_cons, sgC, ih]
      rw [show (k + 1) * 3 = k * 3 + 1 + 1 + 1 by omega]
      simp only [List.take_succ_cons]
theorem Sl_take {h : Heap} {a : Option Addr} {cs : List Value} (hs : Sl h a cs) (k : Nat) : Sl h a (cs.take k) := by
  rcases hs with ⟨rfl, hsp⟩ | ⟨b, off, full, e, m, rfl, hc, hl, ht, hf⟩
  · left; exact ⟨by simp, hsp⟩
  · right
    refine ⟨b, off, full, e, m, rfl, hc, ?_, ?_, ?_⟩
    · have : (cs.take k).length ≤ cs.length := by rw [List.length_take]; omega
      omega
    · rw [List.length_take]
      have := congrArg (List.take (min k cs.length)) ht
      rw [List.take_take] at this
      rw [show min (min k cs.length) cs.length = min k cs.length by omega] at this
      rw [this]
      rw [List.take_eq_take_iff]
      omega
    · rcases hf with hf | hf
      · exact .inl hf
      · right
        clear ht hl
        induction cs generalizing k with
        | nil => simp; rfl
        | cons x cs ih =>
          cases k with
          | zero => rfl
          | succ k =>
            rw [q_cons] at hf
            rw [List.take_succ_cons, q_cons]
            exact ⟨hf.1, ih k hf.2⟩

theorem sgC_get : ∀ (l : List Sgn) (i : Nat) (x : Sgn), l[i]? = some x → (sgC l)[i * 3]? = some (.int .i64 x.k) ∧ (sgC l)[i * 3 + 1]? = some (.string (Tx x.t)) ∧ (sgC l)[i * 3 + 2]? = some (.int .i64 x.at_)
  | [], i, x, h => by simp at h
  | y :: l, 0, x, h => by
    simp only [List.getElem?_cons_zero, Option.some.injEq] at h
    subst h
    exact ⟨rfl, rfl, rfl⟩
  | y :: l, i + 1, x, h => by
    have := sgC_get l i x (by simpa using h)
    simp only [sgC]
    rw [show (i + 1) * 3 = i * 3 + 1 + 1 + 1 by omega]
    exact this
theorem sg_ldf {h : Heap} {a : Option Addr} {l : List Sgn} (hs : Sl h a (sgC l)) {i : Nat} {x : Sgn} (hx : l[i]? = some x) :
    ∃ b off, a = some ⟨b, off, none⟩ ∧ ldC (some (false, 0)) (off + i * 3) h.lo b (cells h b) = some (.int .i64 x.k) ∧ ldC (some (false, 0)) (off + i * 3 + 1) h.lo b (cells h b) = some (.string (Tx x.t)) ∧ ldC (some (false, 0)) (off + i * 3 + 2) h.lo b (cells h b) = some (.int .i64 x.at_) := by
  obtain ⟨h0, h1, h2⟩ := sgC_get l i x hx
  obtain ⟨b, off, ha, e0⟩ := hs.load T_knd_3 h0
  obtain ⟨b1, off1, ha1, e1⟩ := hs.load T_knd_9 h1
  obtain ⟨b2, off2, ha2, e2⟩ := hs.load T_knd_3 h2
  rw [ha] at ha1 ha2
  cases ha1
  cases ha2
  rw [load_eq, T_knd_3] at e0 e2
  rw [load_eq, T_knd_9] at e1
  exact ⟨b, off, ha, e0, e1, e2⟩

end
end Go.Proofs.Ythjcdbbomfmphaa
