/-
  A part of the proof: what the program's functions hand back, as theorems. No condition but those that each theorem names.
-/
import Derived.Test.YthjcdbbomfmphaaLxg
import Derived.Test.YthjcdbbomfmphaaLxh
import Derived.Test.YthjcdbbomfmphaaLxm
import Derived.Test.YthjcdbbomfmphaaLxk
set_option linter.unusedSimpArgs false
set_option linter.unusedVariables false
namespace Go.Proofs.Ythjcdbbomfmphaa
open Go Go.RowKit Go.Ev Go.Lx
noncomputable section
set_option linter.unusedSimpArgs false
set_option linter.unusedVariables false
variable (G : Nat) (h : Heap)

theorem signs_sg {L : B} (h : L.length ≤ 4000) : signs L = sg 0 L := by unfold signs; rw [if_neg (by omega)]
theorem bad_ne {L : B} {p e : Nat} (h : sg 0 L = .bad p e) : ¬ ((e : Int) = 0) := by
  have := sg_bad_ne _ _ _ _ _ (Nat.le_refl _) h; omega
theorem sg_fit : ∀ (acc : List Sgn) (p : Nat) (l : B), sg p l = .ok acc → ∀ x ∈ acc, p ≤ x.at_ ∧ x.at_ + x.t.length ≤ p + l.length
  | [], _, _, _, x, hx => by cases hx
  | y :: r, p, l, h, x, hx => by
    have hst := sg_step _ p l (Nat.le_refl _)
    unfold Step at hst
    rw [h] at hst
    obtain ⟨g1, g2, g3, g4, g5, g6⟩ := hst
    rcases List.mem_cons.1 hx with rfl | hx
    · omega
    · have := sg_fit r _ _ g6 x hx
      rw [List.length_drop] at this
      omega
theorem bounds_h {len top : Nat} {k : Int} (h0 : 0 ≤ k) (h1 : k ≤ top) : bounds len top none (some (.int .i64 k)) none = some (0, k.toNat, none) := by
  obtain ⟨n, rfl⟩ : ∃ n : Nat, k = n := ⟨k.toNat, by omega⟩
  have e : Nat.ble n top = true := by rw [Nat.ble_eq]; omega
  show (match (match Nat.ble n top with | true => some n | false => none : Option Nat) with | none => none | some h => some (0, h, none)) = _
  rw [e]
  rfl
theorem slV_own_h {P : Program} {h : Heap} {t e n : Nat} {a : Option Addr} {len c : Nat} {cs : List Value} (hu : P.underlying t = some (.slice e)) (hs : szT P e = some n) (hn : 0 < n) (ho : Own h e n a len c cs) (hl : len < 4611686018427387904 / 100000) {k : Int} (h0 : 0 ≤ k) (h1 : k ≤ len) (hp : 0 < len) :
    slV P t (.slice a len c) none (some (.int .i64 k)) none h = some (.slice a k.toNat c) := by
  have hlU : len < U := by unfold U; omega
  have hUC : len < UC := by have := U_UC; omega
  rcases ho.hat with ⟨_, h2, _⟩ | ⟨b, m, rfl, hb1, hb2, hc, hm⟩
  · omega
  · have ea : (⟨b, 0, none⟩ : Addr).add (0 * n) = ⟨b, 0, none⟩ := by rw [addr_add]; simp
    rcases hm with ⟨rfl, rfl⟩ | ⟨rfl, rfl⟩
    · have e1 : Nat.blt UC UC = false := by
        cases hx : Nat.blt UC UC with
        | false => rfl
        | true => rw [Nat.blt_eq] at hx; omega
      have e2 : (Nat.beq e e && Nat.ble UC UC && Nat.beq 0 ((UC - UC) * n) && Nat.blt 0 n && Nat.ble (0 + len * n) cs.length && Nat.blt len U) = true := by
        simp only [Bool.and_eq_true, Nat.beq_eq, Nat.ble_eq, Nat.blt_eq]
        refine ⟨⟨⟨⟨⟨trivial, Nat.le_refl _⟩, by simp⟩, hn⟩, by rw [ho.hlen]; omega⟩, hlU⟩
      have e3 : Nat.blt 0 len = true := by rw [Nat.blt_eq]; exact hp
      have e4 : slicePure P t (some ⟨b, 0, none⟩) len UC none (some (.int .i64 k)) none = none := by
        unfold slicePure
        simp only [hu, hs, e1]
      simp only [slV, e4, sliceRead, hu, hs, hc, e2, bounds_h h0 h1, e3, ea, Nat.sub_zero, Nat.add_zero]
    · have e1 : Nat.blt c UC = true := by rw [Nat.blt_eq]; exact hUC
      have e3 : Nat.beq c 0 = false := by
        cases hx : Nat.beq c 0 with
        | false => rfl
        | true => rw [Nat.beq_eq] at hx; omega
      have e4 : slicePure P t (some ⟨b, 0, none⟩) c c none (some (.int .i64 k)) none = some (.slice (some ⟨b, 0, none⟩) k.toNat c) := by
        unfold slicePure
        simp only [hu, hs, e1, bounds_h h0 h1, Option.getD_none, e3, Option.map_some, ea, Nat.sub_zero]
      simp only [slV, e4]
theorem u28 : Try.prog.underlying 28 = some (.slice 39) := by kernel_rfl

/-- a text that is cut at a sign's end -/
theorem sgC_take (l : List Sgn) (k : Nat) : sgC (l.take k) = (sgC l).take (k * 3) := by
  induction l generalizing k with
  | nil => simp [sgC]
  | cons x l ih =>
    cases k with
    | zero => simp [sgC]
    | succ k =>
      simp only [List.take_succ_cons, sgC, ih]
      rw [show (k + 1) * 3 = k * 3 + 1 + 1 + 1 by omega]
      simp only [List.take_succ_cons]
theorem Sl_take {h : Heap} {a : Option Addr} {cs : List Value} (hs : Sl h a cs) (k : Nat) : Sl h a (cs.take k) := by
  rcases hs with ⟨rfl, hsp⟩ | ⟨b, off, full, e, m, rfl, hc, hl, ht, hf⟩
  · left; exact ⟨by simp, hsp⟩
  · right
    refine ⟨b, off, full, e, m, rfl, hc, ?_, ?_, ?_⟩
    · have : (cs.take k).length ≤ cs.length := by rw [List.length_take]; omega
      omega
    · rw [List.length_take]
      have := congrArg (List.take (min k cs.length)) ht
      rw [List.take_take] at this
      rw [show min (min k cs.length) cs.length = min k cs.length by omega] at this
      rw [this]
      rw [List.take_eq_take_iff]
      omega
    · rcases hf with hf | hf
      · exact .inl hf
      · right
        clear ht hl
        induction cs generalizing k with
        | nil => simp; rfl
        | cons x cs ih =>
          cases k with
          | zero => rfl
          | succ k =>
            rw [q_cons] at hf
            rw [List.take_succ_cons, q_cons]
            exact ⟨hf.1, ih k hf.2⟩

theorem sgC_get : ∀ (l : List Sgn) (i : Nat) (x : Sgn), l[i]? = some x → (sgC l)[i * 3]? = some (.int .i64 x.k) ∧ (sgC l)[i * 3 + 1]? = some (.string (Tx x.t)) ∧ (sgC l)[i * 3 + 2]? = some (.int .i64 x.at_)
  | [], i, x, h => by simp at h
  | y :: l, 0, x, h => by
    simp only [List.getElem?_cons_zero, Option.some.injEq] at h
    subst h
    exact ⟨rfl, rfl, rfl⟩
  | y :: l, i + 1, x, h => by
    have := sgC_get l i x (by simpa using h)
    simp only [sgC]
    rw [show (i + 1) * 3 = i * 3 + 1 + 1 + 1 by omega]
    exact this
theorem sg_ldf {h : Heap} {a : Option Addr} {l : List Sgn} (hs : Sl h a (sgC l)) {i : Nat} {x : Sgn} (hx : l[i]? = some x) :
    ∃ b off, a = some ⟨b, off, none⟩ ∧ ldC (some (false, 0)) (off + i * 3) h.lo b (cells h b) = some (.int .i64 x.k) ∧ ldC (some (false, 0)) (off + i * 3 + 1) h.lo b (cells h b) = some (.string (Tx x.t)) ∧ ldC (some (false, 0)) (off + i * 3 + 2) h.lo b (cells h b) = some (.int .i64 x.at_) := by
  obtain ⟨h0, h1, h2⟩ := sgC_get l i x hx
  obtain ⟨b, off, ha, e0⟩ := hs.load T_knd_3 h0
  obtain ⟨b1, off1, ha1, e1⟩ := hs.load T_knd_9 h1
  obtain ⟨b2, off2, ha2, e2⟩ := hs.load T_knd_3 h2
  rw [ha] at ha1 ha2
  cases ha1
  cases ha2
  rw [load_eq, T_knd_3] at e0 e2
  rw [load_eq, T_knd_9] at e1
  exact ⟨b, off, ha, e0, e1, e2⟩

theorem cut_w (xs : List Int) (a : Option Addr) (c : Nat) (hs : Sl h a (ivs xs)) (hb : ∀ b, blk a b → b < h.next) (at_ : Int) :
    CallE (pp G) 11 [.slice a xs.length c, .int .i64 at_] h (fun v h' => v = .bool true) := by
  refine CallE.fir4 (good G) fir11 rfl rfl (F63_arr ..) fun hlo => ?_
  rw [sh_ir11]
  simp (disch := first | omega | (refine id ?_; simp only [push_cast]; done) | (refine id ?_; simp only [push_cast]; omega)) only [push_cast, Nat.reduceAdd, Nat.reduceMul, Nat.reduceSub, Nat.reduceLT, Nat.reduceEqDiff, Nat.reduceLeDiff, Int.reduceToNat, reduceCtorEq, Int.reduceLT, Int.reduceLE, Int.reduceAdd, Int.reduceSub, Int.reduceMul, Int.reduceNeg, Int.reduceEq]
  refine CallE.to (known_w G _) ?_
  rintro _ h1 ⟨rfl, hg1⟩
  have hn1 := hg1.next
  simp (disch := first | omega | (refine id ?_; simp only [push_cast]; done) | (refine id ?_; simp only [push_cast]; omega)) only [push_cast, Nat.reduceAdd, Nat.reduceMul, Nat.reduceSub, Nat.reduceLT, Nat.reduceEqDiff, Nat.reduceLeDiff, Int.reduceToNat, reduceCtorEq, Int.reduceLT, Int.reduceLE, Int.reduceAdd, Int.reduceSub, Int.reduceMul, Int.reduceNeg, Int.reduceEq, Bool.not_true]
  refine CallE.to (row_w G _ xs a c (Gr.slE hg1 hs hb) (fun b h2 => Nat.lt_of_lt_of_le (hb b h2) hn1)) ?_
  rintro _ h2 ⟨T, rfl, hT, hg2⟩
  have hn2 := hg2.next
  simp (disch := first | omega | (refine id ?_; simp only [push_cast]; done) | (refine id ?_; simp only [push_cast]; omega)) only [push_cast, Nat.reduceAdd, Nat.reduceMul, Nat.reduceSub, Nat.reduceLT, Nat.reduceEqDiff, Nat.reduceLeDiff, Int.reduceToNat, reduceCtorEq, Int.reduceLT, Int.reduceLE, Int.reduceAdd, Int.reduceSub, Int.reduceMul, Int.reduceNeg, Int.reduceEq]
  refine CallE.to (rsigns_w G _ T (by omega)) ?_
  rw [signs_sg (by omega)]
  rintro v3 h3 ⟨w, ⟨hg3, hp3⟩, rfl⟩
  have hlo3 : h3.lo ≤ h3.next := by have e1 := hg1.lo; have e2 := hg2.lo; have e3 := hg3.lo; have := hg3.next; omega
  cases hr : sg 0 T with
  | bad p e =>
    rw [hr] at hp3
    dsimp only at hp3
    subst hp3
    have he0 := bad_ne hr
    simp (disch := first | omega | (refine id ?_; simp only [push_cast]; done) | (refine id ?_; simp only [push_cast]; omega)) only [push_cast, Nat.reduceAdd, Nat.reduceMul, Nat.reduceSub, Nat.reduceLT, Nat.reduceEqDiff, Nat.reduceLeDiff, Int.reduceToNat, reduceCtorEq, Int.reduceLT, Int.reduceLE, Int.reduceAdd, Int.reduceSub, Int.reduceMul, Int.reduceNeg, Int.reduceEq, he0, Bool.not_false]
  | ok l =>
    rw [hr] at hp3
    obtain ⟨a3, c3, rfl, hown3, hblk3⟩ := hp3
    have hcnt := sg_count l 0 T hr
    by_cases hz : (l.length : Int) = 0
    · simp (disch := first | omega | (refine id ?_; simp only [push_cast]; done) | (refine id ?_; simp only [push_cast]; omega)) only [push_cast, Nat.reduceAdd, Nat.reduceMul, Nat.reduceSub, Nat.reduceLT, Nat.reduceEqDiff, Nat.reduceLeDiff, Int.reduceToNat, reduceCtorEq, Int.reduceLT, Int.reduceLE, Int.reduceAdd, Int.reduceSub, Int.reduceMul, Int.reduceNeg, Int.reduceEq, hz]
    · simp (disch := first | omega | (refine id ?_; simp only [push_cast]; done) | (refine id ?_; simp only [push_cast]; omega)) only [push_cast, Nat.reduceAdd, Nat.reduceMul, Nat.reduceSub, Nat.reduceLT, Nat.reduceEqDiff, Nat.reduceLeDiff, Int.reduceToNat, reduceCtorEq, Int.reduceLT, Int.reduceLE, Int.reduceAdd, Int.reduceSub, Int.reduceMul, Int.reduceNeg, Int.reduceEq, hz]
      refine CallE.to (within_w G _ at_ l.length (by omega) (by omega)) ?_
      rintro _ _ ⟨rfl, e1⟩
      rw [e1]
      clear e1
      have hW := Wi_range at_ l.length (by omega)
      obtain ⟨k, hk⟩ : ∃ k : Nat, Wi at_ l.length = (k : Int) := ⟨(Wi at_ l.length).toNat, by omega⟩
      rw [hk]
      have hkl : k < l.length := by omega
      obtain ⟨x, hx⟩ : ∃ x, l[k]? = some x := ⟨_, List.getElem?_eq_getElem hkl⟩
      have hcut := sg_cut _ 0 T l (Nat.le_refl _) hr k x hx
      obtain ⟨b, off, ha3, e0, e1, e2⟩ := sg_ldf hown3.sl hx
      subst ha3
      obtain ⟨q1, q2⟩ := sg_fit l 0 T hr x (List.mem_of_getElem? hx)
      have hw : IntKind.i64.wrap ((x.at_ : Int) + x.t.length) = x.at_ + x.t.length := wrap_i64 (by omega) (by omega)
      have htn : ((x.at_ : Int) + x.t.length).toNat = x.at_ + x.t.length := by omega
      rw [Nat.sub_zero] at hcut
      simp (disch := first | omega | (refine id ?_; simp only [push_cast]; done) | (refine id ?_; simp only [push_cast]; omega)) only [push_cast, Nat.reduceAdd, Nat.reduceMul, Nat.reduceSub, Nat.reduceLT, Nat.reduceEqDiff, Nat.reduceLeDiff, Int.reduceToNat, reduceCtorEq, Int.reduceLT, Int.reduceLE, Int.reduceAdd, Int.reduceSub, Int.reduceMul, Int.reduceNeg, Int.reduceEq, Int.toNat_natCast, e1, e2, hw, htn]
      have hcl : (T.take (x.at_ + x.t.length)).length ≤ 480 := by rw [List.length_take]; omega
      refine CallE.to (signs_w G _ (T.take (x.at_ + x.t.length)) (by omega)) ?_
      rw [signs_sg (by omega), hcut]
      rintro v4 h4 ⟨hg4, a4, c4, rfl, hown4, hblk4⟩
      have hl4 : (l.take (k + 1)).length = k + 1 := by rw [List.length_take]; omega
      obtain ⟨b', off', ha3, _, e1', e2'⟩ := sg_ldf (Gr.ownE hg4 hown3).sl hx
      cases ha3
      have hown3' := Gr.ownE hg4 hown3
      have hsv : slV Try.prog 28 (.slice (some ⟨b, off, none⟩) l.length c3) none (some (.int .i64 ((k : Int) + 1))) none h4 = some (.slice (some ⟨b, off, none⟩) (k + 1) c3) := by
        have := slV_own_h (t := 28) u28 (by kernel_rfl) (by decide) hown3' (by omega) (k := (k : Int) + 1) (by omega) (by omega) (by omega)
        rw [show ((k : Int) + 1).toNat = k + 1 by omega] at this
        exact this
      rw [hl4] at hown4
      simp (disch := first | omega | (refine id ?_; simp only [push_cast]; done) | (refine id ?_; simp only [push_cast]; omega)) only [push_cast, Nat.reduceAdd, Nat.reduceMul, Nat.reduceSub, Nat.reduceLT, Nat.reduceEqDiff, Nat.reduceLeDiff, Int.reduceToNat, reduceCtorEq, Int.reduceLT, Int.reduceLE, Int.reduceAdd, Int.reduceSub, Int.reduceMul, Int.reduceNeg, Int.reduceEq, Int.toNat_natCast, e1', e2', hw, htn, hl4, hsv]
      have hsame := same_w G h4 (l.take (k + 1)) (l.take (k + 1)) a4 (some ⟨b, off, none⟩) c4 c3 hown4.sl (by rw [sgC_take]; exact Sl_take hown3'.sl _) (by omega)
      rw [hl4] at hsame
      refine CallE.to hsame ?_
      rintro v h6 ⟨hy, _, rfl⟩
      rw [hy rfl]
      simp (disch := first | omega | (refine id ?_; simp only [push_cast]; done) | (refine id ?_; simp only [push_cast]; omega)) only [push_cast, Nat.reduceAdd, Nat.reduceMul, Nat.reduceSub, Nat.reduceLT, Nat.reduceEqDiff, Nat.reduceLeDiff, Int.reduceToNat, reduceCtorEq, Int.reduceLT, Int.reduceLE, Int.reduceAdd, Int.reduceSub, Int.reduceMul, Int.reduceNeg, Int.reduceEq]
end
end Go.Proofs.Ythjcdbbomfmphaa
