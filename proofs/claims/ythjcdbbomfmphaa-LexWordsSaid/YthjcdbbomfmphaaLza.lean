/-
  A part of the proof: what the program's functions hand back, as theorems. No condition but those that each theorem names.
-/
import Derived.Test.YthjcdbbomfmphaaLxg
import Derived.Test.YthjcdbbomfmphaaLxh
import Derived.Test.YthjcdbbomfmphaaLxm
import Derived.Test.YthjcdbbomfmphaaLxu
import Derived.Test.YthjcdbbomfmphaaLzg
import Derived.Test.YthjcdbbomfmphaaLxv
set_option linter.unusedSimpArgs false
set_option linter.unusedVariables false
namespace Go.Proofs.Ythjcdbbomfmphaa
open Go Go.RowKit Go.Ev Go.Lx
noncomputable section
set_option linter.unusedSimpArgs false
set_option linter.unusedVariables false
variable (G : Nat) (h : Heap)

theorem key_w (l : B) : CallE (pp G) 21 [.string (Tx l)] h (fun v h' => v = .bool (decide (l ∈ keysL)) ∧ h' = h) := by
  refine CallE.fir4 (good G) fir21 rfl rfl (F21_arr ..) fun hlo => ?_
  rw [sh_ir21]
  simp (disch := first | omega | (refine id ?_; simp only [push_cast]; done) | (refine id ?_; simp only [push_cast]; omega)) only [push_cast, Nat.reduceAdd, Nat.reduceMul, Nat.reduceSub, Nat.reduceLT, Nat.reduceEqDiff, Nat.reduceLeDiff, Int.reduceToNat, reduceCtorEq, Int.reduceLT, Int.reduceLE, Int.reduceAdd, Int.reduceSub, Int.reduceMul, Int.reduceNeg, Int.reduceEq]
  repeat' (refine vcond_d (fun hc => ?_) (fun hc => ?_) <;> (try simp (disch := first | omega | (refine id ?_; simp only [push_cast]; done) | (refine id ?_; simp only [push_cast]; omega)) only [push_cast, Nat.reduceAdd, Nat.reduceMul, Nat.reduceSub, Nat.reduceLT, Nat.reduceEqDiff, Nat.reduceLeDiff, Int.reduceToNat, reduceCtorEq, Int.reduceLT, Int.reduceLE, Int.reduceAdd, Int.reduceSub, Int.reduceMul, Int.reduceNeg, Int.reduceEq]))
  all_goals first
    | contradiction
    | (subst hc; decide)
    | (simp only [keysL, List.mem_cons, List.not_mem_nil, or_false, *, decide_false, decide_true, or_true, true_or, or_self])
    | skip

inductive I22b (h : Heap) (l : B) (i : Nat) : Nat → S → Prop
  | mk (k : Nat) (iv kv : Int) {x1 x2 x5 x6 x7 x8 x9 x10 x11 x12 x13 x14 x15 x16 x17 x18 x19 x20 x21 x22 x23 x24 x25 x26 x27 x28 x29 x30 x31 x32 x33 x34 x35 x36 x37 x38 x39 x40 x41 x42 x43 x44 x45 x46 x47 x48 x49 x50 x51 : Value} (hiv : iv = (i : Int)) (hkv : kv = (k : Int)) (hk : k ≤ l.length) (h32 : ∀ j, j < k → l.getD j 0 ≠ 32) :
    I22b h l i (l.length - k) ⟨(F52 (.string (Tx l)) x1 x2 (.int .i64 iv) (.int .i64 kv) x5 x6 x7 x8 x9 x10 x11 x12 x13 x14 x15 x16 x17 x18 x19 x20 x21 x22 x23 x24 x25 x26 x27 x28 x29 x30 x31 x32 x33 x34 x35 x36 x37 x38 x39 x40 x41 x42 x43 x44 x45 x46 x47 x48 x49 x50 x51), [], h⟩
inductive I22 (h : Heap) (l : B) : Nat → S → Prop
  | mk (i : Nat) (iv : Int) {x1 x2 x4 x5 x6 x7 x8 x9 x10 x11 x12 x13 x14 x15 x16 x17 x18 x19 x20 x21 x22 x23 x24 x25 x26 x27 x28 x29 x30 x31 x32 x33 x34 x35 x36 x37 x38 x39 x40 x41 x42 x43 x44 x45 x46 x47 x48 x49 x50 x51 : Value} (hiv : iv = (i : Int)) (hi : i ≤ 86) (hno : ∀ j, j < i → ¬ KM l j) :
    I22 h l (86 - i) ⟨(F52 (.string (Tx l)) x1 x2 (.int .i64 iv) x4 x5 x6 x7 x8 x9 x10 x11 x12 x13 x14 x15 x16 x17 x18 x19 x20 x21 x22 x23 x24 x25 x26 x27 x28 x29 x30 x31 x32 x33 x34 x35 x36 x37 x38 x39 x40 x41 x42 x43 x44 x45 x46 x47 x48 x49 x50 x51), [], h⟩

theorem bt32 (l : B) (i : Nat) : (bt l i = 32) = (l.getD i 0 = 32) := by
  apply propext
  constructor
  · intro e
    have : (l.getD i 0).toNat = 32 := by unfold bt at e; omega
    exact UInt8.toNat_inj.1 this
  · intro e; unfold bt; rw [e]; rfl
theorem rkey_w (l : B) (hl : l.length < 4611686018427387904) : CallE (pp G) 22 [.string (Tx l)] h (fun v h' => v = .bool (decide (l ∈ keysL)) ∧ h' = h) := by
  refine CallE.fir4 (good G) fir22 rfl rfl (F52_arr ..) fun hlo => ?_
  rw [sh_ir22]
  simp (disch := first | omega | (refine id ?_; simp only [push_cast]; done) | (refine id ?_; simp only [push_cast]; omega)) only [push_cast, Nat.reduceAdd, Nat.reduceMul, Nat.reduceSub, Nat.reduceLT, Nat.reduceEqDiff, Nat.reduceLeDiff, Int.reduceToNat, reduceCtorEq, Int.reduceLT, Int.reduceLE, Int.reduceAdd, Int.reduceSub, Int.reduceMul, Int.reduceNeg, Int.reduceEq]
  refine W.loop4 (good G) (I22 h l) ?_ _ _ (I22.mk 0 0 rfl (by omega) (fun j hj => by omega))
  intro k s1 hI
  cases hI with | mk i iv hiv hi hno =>
  subst hiv
  rw [sh_ir22_s0]
  have w1 : IntKind.i64.wrap ((i : Int) + l.length) = i + l.length := wrap_i64 (by omega) (by omega)
  have w2 : IntKind.i64.wrap ((i : Int) + l.length + 2) = i + l.length + 2 := wrap_i64 (by omega) (by omega)
  by_cases hc1 : (i : Int) + l.length + 2 ≤ 85
  · by_cases hc2 : (0 : Int) < l.length
    · have hi84 : (i : Int) < 85 := by omega
      have hKT : (KT.length : Int) = 85 := rfl
      have w3 : IntKind.i64.wrap ((i : Int) + l.length + 1) = i + l.length + 1 := wrap_i64 (by omega) (by omega)
      have w4 : IntKind.i64.wrap ((i : Int) + 1) = i + 1 := wrap_i64 (by omega) (by omega)
      have w5 : IntKind.i64.wrap ((i : Int) + 1 + l.length) = i + 1 + l.length := wrap_i64 (by omega) (by omega)
      have t1 : ((i : Int) + l.length + 1).toNat = i + l.length + 1 := by omega
      have t2 : ((i : Int) + 1).toNat = i + 1 := by omega
      have t3 : ((i : Int) + 1 + l.length).toNat - (i + 1) = l.length := by omega
      simp (disch := first | omega | (refine id ?_; simp only [push_cast]; done) | (refine id ?_; simp only [push_cast]; omega)) only [push_cast, Nat.reduceAdd, Nat.reduceMul, Nat.reduceSub, Nat.reduceLT, Nat.reduceEqDiff, Nat.reduceLeDiff, Int.reduceToNat, reduceCtorEq, Int.reduceLT, Int.reduceLE, Int.reduceAdd, Int.reduceSub, Int.reduceMul, Int.reduceNeg, Int.reduceEq, w1, w2, w3, w4, w5, hc1, hc2, t1, t2, t3, hi84, hKT, Int.toNat_natCast]
      have hnM : ¬ KM l i → ∀ j, j < i + 1 → ¬ KM l j := fun h0 j hj => by
        rcases Nat.lt_or_ge j i with h1 | h1
        · exact hno j h1
        · rw [show j = i by omega]; exact h0
      by_cases hk1 : bt KT i = 32
      · by_cases hk2 : bt KT (i + l.length + 1) = 32
        · by_cases hk3 : (KU.drop i).take l.length = l
          · simp (disch := first | omega | (refine id ?_; simp only [push_cast]; done) | (refine id ?_; simp only [push_cast]; omega)) only [push_cast, Nat.reduceAdd, Nat.reduceMul, Nat.reduceSub, Nat.reduceLT, Nat.reduceEqDiff, Nat.reduceLeDiff, Int.reduceToNat, reduceCtorEq, Int.reduceLT, Int.reduceLE, Int.reduceAdd, Int.reduceSub, Int.reduceMul, Int.reduceNeg, Int.reduceEq, hk1, hk2, hk3, w1, w2, w3, w4, w5, t1, t2, t3, hKT]
            have hM : KM l i := ⟨by omega, by rw [← bt32]; exact hk1, by rw [← bt32]; exact hk2, hk3⟩
            refine W.loop4 (good G) (I22b h l i) ?_ _ _ (I22b.mk 0 _ 0 rfl rfl (by omega) (fun j hj => by omega))
            intro k s1 hI
            cases hI with | mk k iv kv hiv hkv hk h32 =>
            subst hiv hkv
            rw [sh_ir22_s2]
            by_cases hkl : (k : Int) < l.length
            · by_cases hk5 : bt l k = 32
              · have hn : l ∉ keysL := fun h0 => by
                  have e := (bt32 l k).mp hk5
                  apply keys_no32 h0
                  rw [← e, List.getD_eq_getElem?_getD, List.getElem?_eq_getElem (by omega)]
                  exact List.getElem_mem _
                simp (disch := first | omega | (refine id ?_; simp only [push_cast]; done) | (refine id ?_; simp only [push_cast]; omega)) only [push_cast, Nat.reduceAdd, Nat.reduceMul, Nat.reduceSub, Nat.reduceLT, Nat.reduceEqDiff, Nat.reduceLeDiff, Int.reduceToNat, reduceCtorEq, Int.reduceLT, Int.reduceLE, Int.reduceAdd, Int.reduceSub, Int.reduceMul, Int.reduceNeg, Int.reduceEq, hkl, Int.toNat_natCast, hk5]
                rw [decide_eq_false hn]
              · simp (disch := first | omega | (refine id ?_; simp only [push_cast]; done) | (refine id ?_; simp only [push_cast]; omega)) only [push_cast, Nat.reduceAdd, Nat.reduceMul, Nat.reduceSub, Nat.reduceLT, Nat.reduceEqDiff, Nat.reduceLeDiff, Int.reduceToNat, reduceCtorEq, Int.reduceLT, Int.reduceLE, Int.reduceAdd, Int.reduceSub, Int.reduceMul, Int.reduceNeg, Int.reduceEq, hkl, Int.toNat_natCast, hk5]
                exact ⟨_, by omega, I22b.mk (k + 1) _ _ (by first | rfl | omega) (by first | rfl | omega) (by omega) (fun j hj => by
                  rcases Nat.lt_or_ge j k with h1 | h1
                  · exact h32 j h1
                  · rw [show j = k by omega]; intro e; exact hk5 (by rw [bt32]; exact e))⟩
            · have hin : l ∈ keysL := keys_in hM (by omega) (fun h0 => by
                obtain ⟨j, hj, e⟩ := List.getElem_of_mem h0
                apply h32 j (by omega)
                rw [List.getD_eq_getElem?_getD, List.getElem?_eq_getElem hj]
                exact e)
              simp (disch := first | omega | (refine id ?_; simp only [push_cast]; done) | (refine id ?_; simp only [push_cast]; omega)) only [push_cast, Nat.reduceAdd, Nat.reduceMul, Nat.reduceSub, Nat.reduceLT, Nat.reduceEqDiff, Nat.reduceLeDiff, Int.reduceToNat, reduceCtorEq, Int.reduceLT, Int.reduceLE, Int.reduceAdd, Int.reduceSub, Int.reduceMul, Int.reduceNeg, Int.reduceEq, hkl]
              rw [decide_eq_true hin]
          · simp (disch := first | omega | (refine id ?_; simp only [push_cast]; done) | (refine id ?_; simp only [push_cast]; omega)) only [push_cast, Nat.reduceAdd, Nat.reduceMul, Nat.reduceSub, Nat.reduceLT, Nat.reduceEqDiff, Nat.reduceLeDiff, Int.reduceToNat, reduceCtorEq, Int.reduceLT, Int.reduceLE, Int.reduceAdd, Int.reduceSub, Int.reduceMul, Int.reduceNeg, Int.reduceEq, hk1, hk2, hk3, w1, w2, w3, w4, w5, t1, t2, t3, hKT]
            exact ⟨_, by omega, I22.mk (i + 1) _ (by first | rfl | omega) (by omega) (hnM fun h0 => hk3 h0.2.2.2)⟩
        · simp (disch := first | omega | (refine id ?_; simp only [push_cast]; done) | (refine id ?_; simp only [push_cast]; omega)) only [push_cast, Nat.reduceAdd, Nat.reduceMul, Nat.reduceSub, Nat.reduceLT, Nat.reduceEqDiff, Nat.reduceLeDiff, Int.reduceToNat, reduceCtorEq, Int.reduceLT, Int.reduceLE, Int.reduceAdd, Int.reduceSub, Int.reduceMul, Int.reduceNeg, Int.reduceEq, hk1, hk2, w1, w2, w3, w4, w5, t1, t2, t3, hKT]
          exact ⟨_, by omega, I22.mk (i + 1) _ (by first | rfl | omega) (by omega) (hnM fun h0 => hk2 (by rw [bt32]; exact h0.2.2.1))⟩
      · simp (disch := first | omega | (refine id ?_; simp only [push_cast]; done) | (refine id ?_; simp only [push_cast]; omega)) only [push_cast, Nat.reduceAdd, Nat.reduceMul, Nat.reduceSub, Nat.reduceLT, Nat.reduceEqDiff, Nat.reduceLeDiff, Int.reduceToNat, reduceCtorEq, Int.reduceLT, Int.reduceLE, Int.reduceAdd, Int.reduceSub, Int.reduceMul, Int.reduceNeg, Int.reduceEq, hk1, w1, w2, w3, w4, w5, t1, t2, t3, hKT]
        exact ⟨_, by omega, I22.mk (i + 1) _ (by first | rfl | omega) (by omega) (hnM fun h0 => hk1 (by rw [bt32]; exact h0.2.1))⟩
    · simp (disch := first | omega | (refine id ?_; simp only [push_cast]; done) | (refine id ?_; simp only [push_cast]; omega)) only [push_cast, Nat.reduceAdd, Nat.reduceMul, Nat.reduceSub, Nat.reduceLT, Nat.reduceEqDiff, Nat.reduceLeDiff, Int.reduceToNat, reduceCtorEq, Int.reduceLT, Int.reduceLE, Int.reduceAdd, Int.reduceSub, Int.reduceMul, Int.reduceNeg, Int.reduceEq, w1, w2, hc1, hc2]
      have : l ∉ keysL := fun h0 => by have := keys_len h0; omega
      rw [decide_eq_false this]
  · have hno2 : l ∉ keysL := fun h0 => by
      obtain ⟨j, hj⟩ := keys_at h0
      exact hno j (by have := hj.1; omega) hj
    simp (disch := first | omega | (refine id ?_; simp only [push_cast]; done) | (refine id ?_; simp only [push_cast]; omega)) only [push_cast, Nat.reduceAdd, Nat.reduceMul, Nat.reduceSub, Nat.reduceLT, Nat.reduceEqDiff, Nat.reduceLeDiff, Int.reduceToNat, reduceCtorEq, Int.reduceLT, Int.reduceLE, Int.reduceAdd, Int.reduceSub, Int.reduceMul, Int.reduceNeg, Int.reduceEq, w1, w2, hc1]
    rw [decide_eq_false hno2]

theorem nameB_no {l : B} (h : ¬ (l ≠ [] ∧ l.length ≤ 20 ∧ l ∉ keysL)) : nameB l = false := by unfold nameB; rw [decide_eq_false h]; rfl
theorem nameB_yes {l : B} (h : l ≠ [] ∧ l.length ≤ 20 ∧ l ∉ keysL) : nameB l = (small (l.getD 0 0) && decide (front wordy l = l.length)) := by unfold nameB; rw [decide_eq_true h]; rfl
theorem name_w (l : B) (hl : l.length < 4611686018427387904) : CallE (pp G) 19 [.string (Tx l)] h (fun v h' => v = .bool (nameB l) ∧ Gr h h') := by
  refine CallE.fir4 (good G) fir19 rfl rfl (F25_arr ..) fun hlo => ?_
  rw [sh_ir19]
  by_cases h1 : l = []
  · subst h1
    simp (disch := first | omega | (refine id ?_; simp only [push_cast]; done) | (refine id ?_; simp only [push_cast]; omega)) only [push_cast, Nat.reduceAdd, Nat.reduceMul, Nat.reduceSub, Nat.reduceLT, Nat.reduceEqDiff, Nat.reduceLeDiff, Int.reduceToNat, reduceCtorEq, Int.reduceLT, Int.reduceLE, Int.reduceAdd, Int.reduceSub, Int.reduceMul, Int.reduceNeg, Int.reduceEq]
    exact ⟨rfl, Gr.refl h⟩
  by_cases h2 : (20 : Int) < l.length
  · simp (disch := first | omega | (refine id ?_; simp only [push_cast]; done) | (refine id ?_; simp only [push_cast]; omega)) only [push_cast, Nat.reduceAdd, Nat.reduceMul, Nat.reduceSub, Nat.reduceLT, Nat.reduceEqDiff, Nat.reduceLeDiff, Int.reduceToNat, reduceCtorEq, Int.reduceLT, Int.reduceLE, Int.reduceAdd, Int.reduceSub, Int.reduceMul, Int.reduceNeg, Int.reduceEq, h1, h2]
    exact ⟨by rw [nameB_no fun h0 => by omega], Gr.refl h⟩
  simp (disch := first | omega | (refine id ?_; simp only [push_cast]; done) | (refine id ?_; simp only [push_cast]; omega)) only [push_cast, Nat.reduceAdd, Nat.reduceMul, Nat.reduceSub, Nat.reduceLT, Nat.reduceEqDiff, Nat.reduceLeDiff, Int.reduceToNat, reduceCtorEq, Int.reduceLT, Int.reduceLE, Int.reduceAdd, Int.reduceSub, Int.reduceMul, Int.reduceNeg, Int.reduceEq, h1, h2]
  refine CallE.to (key_w G _ l) ?_
  rintro _ _ ⟨rfl, e⟩
  rw [e]
  clear e
  by_cases h3 : l ∈ keysL
  · simp (disch := first | omega | (refine id ?_; simp only [push_cast]; done) | (refine id ?_; simp only [push_cast]; omega)) only [push_cast, Nat.reduceAdd, Nat.reduceMul, Nat.reduceSub, Nat.reduceLT, Nat.reduceEqDiff, Nat.reduceLeDiff, Int.reduceToNat, reduceCtorEq, Int.reduceLT, Int.reduceLE, Int.reduceAdd, Int.reduceSub, Int.reduceMul, Int.reduceNeg, Int.reduceEq, h3, decide_true]
    exact ⟨by rw [nameB_no fun h0 => h0.2.2 h3], Gr.refl h⟩
  have hlen : 0 < l.length := List.length_pos_iff.2 h1
  have hpos : (0 : Int) < l.length := by omega
  rw [nameB_yes ⟨h1, by omega, h3⟩]
  have hw : IntKind.i32.wrap (bt l 0) = bt l 0 := by
    have : (l.getD 0 0).toNat < 256 := UInt8.toNat_lt _
    exact IntWalk.i32_in _ (by unfold bt; omega)
  simp (disch := first | omega | (refine id ?_; simp only [push_cast]; done) | (refine id ?_; simp only [push_cast]; omega)) only [push_cast, Nat.reduceAdd, Nat.reduceMul, Nat.reduceSub, Nat.reduceLT, Nat.reduceEqDiff, Nat.reduceLeDiff, Int.reduceToNat, reduceCtorEq, Int.reduceLT, Int.reduceLE, Int.reduceAdd, Int.reduceSub, Int.reduceMul, Int.reduceNeg, Int.reduceEq, h3, decide_false, hpos, hw]
  refine CallE.to (small_w G _ _) ?_; rintro _ _ ⟨rfl, rfl⟩
  rw [hw, kind_small.eq]
  cases h4 : small (l.getD 0 0) with
  | false =>
    simp (disch := first | omega | (refine id ?_; simp only [push_cast]; done) | (refine id ?_; simp only [push_cast]; omega)) only [push_cast, Nat.reduceAdd, Nat.reduceMul, Nat.reduceSub, Nat.reduceLT, Nat.reduceEqDiff, Nat.reduceLeDiff, Int.reduceToNat, reduceCtorEq, Int.reduceLT, Int.reduceLE, Int.reduceAdd, Int.reduceSub, Int.reduceMul, Int.reduceNeg, Int.reduceEq]
    exact Gr.refl _
  | true =>
    simp (disch := first | omega | (refine id ?_; simp only [push_cast]; done) | (refine id ?_; simp only [push_cast]; omega)) only [push_cast, Nat.reduceAdd, Nat.reduceMul, Nat.reduceSub, Nat.reduceLT, Nat.reduceEqDiff, Nat.reduceLeDiff, Int.reduceToNat, reduceCtorEq, Int.reduceLT, Int.reduceLE, Int.reduceAdd, Int.reduceSub, Int.reduceMul, Int.reduceNeg, Int.reduceEq]
    refine CallE.to (front_w G _ l 31 kind_wordy (fun r h => wordy_w G h r)) ?_
    rintro _ h5 ⟨rfl, hg5⟩
    by_cases h6 : front wordy l = l.length
    · simp (disch := first | omega | (refine id ?_; simp only [push_cast]; done) | (refine id ?_; simp only [push_cast]; omega)) only [push_cast, Nat.reduceAdd, Nat.reduceMul, Nat.reduceSub, Nat.reduceLT, Nat.reduceEqDiff, Nat.reduceLeDiff, Int.reduceToNat, reduceCtorEq, Int.reduceLT, Int.reduceLE, Int.reduceAdd, Int.reduceSub, Int.reduceMul, Int.reduceNeg, Int.reduceEq, h6, decide_true]
      exact hg5
    · have h6' : ¬ ((front wordy l : Int) = l.length) := by omega
      simp (disch := first | omega | (refine id ?_; simp only [push_cast]; done) | (refine id ?_; simp only [push_cast]; omega)) only [push_cast, Nat.reduceAdd, Nat.reduceMul, Nat.reduceSub, Nat.reduceLT, Nat.reduceEqDiff, Nat.reduceLeDiff, Int.reduceToNat, reduceCtorEq, Int.reduceLT, Int.reduceLE, Int.reduceAdd, Int.reduceSub, Int.reduceMul, Int.reduceNeg, Int.reduceEq, h6, h6', decide_false]
      exact hg5

inductive I20 (h : Heap) (l : B) : Nat → S → Prop
  | mk (i : Nat) (iv : Int) {x1 x2 x4 x5 x6 x7 x8 x9 x10 x11 x12 x13 x14 x15 x16 x17 x18 x19 x20 x21 x22 x23 x24 x25 x26 x27 x28 : Value} (hiv : iv = (i : Int)) (hi : i ≤ l.length) (hall : ∀ j, j < i → (if j = 0 then small (l.getD j 0) else wordy (l.getD j 0)) = true) :
    I20 h l (l.length - i) ⟨(F29 (.string (Tx l)) x1 x2 (.int .i64 iv) x4 x5 x6 x7 x8 x9 x10 x11 x12 x13 x14 x15 x16 x17 x18 x19 x20 x21 x22 x23 x24 x25 x26 x27 x28), [], h⟩
theorem rname_w (l : B) (hl : l.length < 4611686018427387904) : CallE (pp G) 20 [.string (Tx l)] h (fun v h' => v = .bool (nameB l) ∧ h' = h) := by
  refine CallE.fir4 (good G) fir20 rfl rfl (F29_arr ..) fun hlo => ?_
  rw [sh_ir20]
  by_cases h1 : (l.length : Int) < 1
  · have e := nameB_no (l := l) fun h0 => by have := List.length_pos_iff.2 h0.1; omega
    simp (disch := first | omega | (refine id ?_; simp only [push_cast]; done) | (refine id ?_; simp only [push_cast]; omega)) only [push_cast, Nat.reduceAdd, Nat.reduceMul, Nat.reduceSub, Nat.reduceLT, Nat.reduceEqDiff, Nat.reduceLeDiff, Int.reduceToNat, reduceCtorEq, Int.reduceLT, Int.reduceLE, Int.reduceAdd, Int.reduceSub, Int.reduceMul, Int.reduceNeg, Int.reduceEq, h1, e]
  by_cases h2 : (20 : Int) < l.length
  · have e := nameB_no (l := l) fun h0 => by omega
    simp (disch := first | omega | (refine id ?_; simp only [push_cast]; done) | (refine id ?_; simp only [push_cast]; omega)) only [push_cast, Nat.reduceAdd, Nat.reduceMul, Nat.reduceSub, Nat.reduceLT, Nat.reduceEqDiff, Nat.reduceLeDiff, Int.reduceToNat, reduceCtorEq, Int.reduceLT, Int.reduceLE, Int.reduceAdd, Int.reduceSub, Int.reduceMul, Int.reduceNeg, Int.reduceEq, h1, h2, e]
  simp (disch := first | omega | (refine id ?_; simp only [push_cast]; done) | (refine id ?_; simp only [push_cast]; omega)) only [push_cast, Nat.reduceAdd, Nat.reduceMul, Nat.reduceSub, Nat.reduceLT, Nat.reduceEqDiff, Nat.reduceLeDiff, Int.reduceToNat, reduceCtorEq, Int.reduceLT, Int.reduceLE, Int.reduceAdd, Int.reduceSub, Int.reduceMul, Int.reduceNeg, Int.reduceEq, h1, h2]
  refine CallE.to (rkey_w G _ l hl) ?_
  rintro _ _ ⟨rfl, e⟩
  rw [e]
  clear e
  have hne : l ≠ [] := fun e => by subst e; simp at h1
  by_cases h3 : l ∈ keysL
  · have e := nameB_no (l := l) fun h0 => h0.2.2 h3
    simp (disch := first | omega | (refine id ?_; simp only [push_cast]; done) | (refine id ?_; simp only [push_cast]; omega)) only [push_cast, Nat.reduceAdd, Nat.reduceMul, Nat.reduceSub, Nat.reduceLT, Nat.reduceEqDiff, Nat.reduceLeDiff, Int.reduceToNat, reduceCtorEq, Int.reduceLT, Int.reduceLE, Int.reduceAdd, Int.reduceSub, Int.reduceMul, Int.reduceNeg, Int.reduceEq, h3, decide_true, e]
  have hn := nameB_yes (l := l) ⟨hne, by omega, h3⟩
  simp (disch := first | omega | (refine id ?_; simp only [push_cast]; done) | (refine id ?_; simp only [push_cast]; omega)) only [push_cast, Nat.reduceAdd, Nat.reduceMul, Nat.reduceSub, Nat.reduceLT, Nat.reduceEqDiff, Nat.reduceLeDiff, Int.reduceToNat, reduceCtorEq, Int.reduceLT, Int.reduceLE, Int.reduceAdd, Int.reduceSub, Int.reduceMul, Int.reduceNeg, Int.reduceEq, h3, decide_false]
  refine W.loop4 (good G) (I20 h l) ?_ _ _ (I20.mk 0 0 rfl (by omega) (fun j hj => by omega))
  intro k s1 hI
  cases hI with | mk i iv hiv hi hall =>
  subst hiv
  rw [sh_ir20_s0]
  by_cases hlt : (i : Int) < l.length
  · have hb : bt l i = ((l.getD i 0).toNat : Int) := rfl
    simp (disch := first | omega | (refine id ?_; simp only [push_cast]; done) | (refine id ?_; simp only [push_cast]; omega)) only [push_cast, Nat.reduceAdd, Nat.reduceMul, Nat.reduceSub, Nat.reduceLT, Nat.reduceEqDiff, Nat.reduceLeDiff, Int.reduceToNat, reduceCtorEq, Int.reduceLT, Int.reduceLE, Int.reduceAdd, Int.reduceSub, Int.reduceMul, Int.reduceNeg, Int.reduceEq, hlt, Int.toNat_natCast]
    rw [hb]
    refine CallE.to (rword_w G _ (l.getD i 0) (decide ((i : Int) = 0))) ?_; rintro _ _ ⟨rfl, rfl⟩
    have hnot : (if i = 0 then small (l.getD i 0) else wordy (l.getD i 0)) = false → nameB l = false := fun e => by
      rw [hn]
      by_cases hi0 : i = 0
      · subst hi0; rw [if_pos rfl] at e; rw [e]; rfl
      · rw [if_neg hi0] at e
        have : ¬ front wordy l = l.length := fun e2 => by
          have := front_all wordy l i (by omega)
          rw [e] at this; cases this
        rw [decide_eq_false this, Bool.and_false]
    have hif : (if (decide ((i : Int) = 0)) = true then small (l.getD i 0) else wordy (l.getD i 0)) = (if i = 0 then small (l.getD i 0) else wordy (l.getD i 0)) := by
      by_cases hi0 : i = 0
      · subst hi0; rfl
      · rw [if_neg (by simpa using hi0), if_neg hi0]
    rw [hif]
    cases he : (if i = 0 then small (l.getD i 0) else wordy (l.getD i 0)) with
    | false =>
      rw [hnot he]
      simp (disch := first | omega | (refine id ?_; simp only [push_cast]; done) | (refine id ?_; simp only [push_cast]; omega)) only [push_cast, Nat.reduceAdd, Nat.reduceMul, Nat.reduceSub, Nat.reduceLT, Nat.reduceEqDiff, Nat.reduceLeDiff, Int.reduceToNat, reduceCtorEq, Int.reduceLT, Int.reduceLE, Int.reduceAdd, Int.reduceSub, Int.reduceMul, Int.reduceNeg, Int.reduceEq, Bool.not_false]
    | true =>
      simp (disch := first | omega | (refine id ?_; simp only [push_cast]; done) | (refine id ?_; simp only [push_cast]; omega)) only [push_cast, Nat.reduceAdd, Nat.reduceMul, Nat.reduceSub, Nat.reduceLT, Nat.reduceEqDiff, Nat.reduceLeDiff, Int.reduceToNat, reduceCtorEq, Int.reduceLT, Int.reduceLE, Int.reduceAdd, Int.reduceSub, Int.reduceMul, Int.reduceNeg, Int.reduceEq, Bool.not_true]
      exact ⟨_, by omega, I20.mk (i + 1) _ (by first | rfl | omega) (by omega) (fun j hj => by
        rcases Nat.lt_or_ge j i with h4 | h4
        · exact hall j h4
        · rw [show j = i by omega]; exact he)⟩
  · have e : nameB l = true := by
      rw [hn]
      have h0 := hall 0 (by have := List.length_pos_iff.2 hne; omega)
      rw [if_pos rfl] at h0
      have hf : front wordy l = l.length := front_eq wordy l l.length (Nat.le_refl _) (fun j hj => by
        have := hall j (by omega)
        by_cases hj0 : j = 0
        · subst hj0; rw [if_pos rfl] at this; unfold wordy; rw [this]; rfl
        · rw [if_neg hj0] at this; exact this) (fun h => by omega)
      rw [h0, decide_eq_true hf]; rfl
    simp (disch := first | omega | (refine id ?_; simp only [push_cast]; done) | (refine id ?_; simp only [push_cast]; omega)) only [push_cast, Nat.reduceAdd, Nat.reduceMul, Nat.reduceSub, Nat.reduceLT, Nat.reduceEqDiff, Nat.reduceLeDiff, Int.reduceToNat, reduceCtorEq, Int.reduceLT, Int.reduceLE, Int.reduceAdd, Int.reduceSub, Int.reduceMul, Int.reduceNeg, Int.reduceEq, hlt, e]
end
end Go.Proofs.Ythjcdbbomfmphaa

namespace Go.Proofs.Ythjcdbbomfmphaa
open Go Go.RowKit Go.Ev Go.Lx
noncomputable section
set_option linter.unusedSimpArgs false
set_option linter.unusedVariables false
variable (G : Nat) (h : Heap)

abbrev AB : B := [97, 98, 99, 100, 101, 102, 103, 104, 105, 106, 107, 108, 109, 110, 111, 112, 113, 114, 115, 116, 117, 118, 119, 120, 121, 122, 48, 49, 50, 51, 52, 53, 54, 55, 56, 57, 95]
theorem ab_one : ∀ k ∈ List.range 37, ∃ c : UInt8, (AB.drop k).take 1 = [c] ∧ wordy c = true := by
  have : ∀ k ∈ List.range 37, (AB.drop k).take 1 = [AB.getD k 0] ∧ wordy (AB.getD k 0) = true := by decide +kernel
  exact fun k hk => ⟨_, this k hk⟩
theorem front_whole (p : UInt8 → Bool) : ∀ l : B, (∀ x ∈ l, p x = true) → front p l = l.length
  | [], _ => rfl
  | c :: l, h => by rw [front_cons, if_pos (h c (by simp)), front_whole p l (fun x hx => h x (by simp [hx]))]; rfl
/-- a word alone -/
theorem sg_word {c : UInt8} {r : B} (hc : small c = true) (hr : ∀ x ∈ r, wordy x = true) (hl : (c :: r).length ≤ 20) : sg 0 (c :: r) = .ok [⟨1, c :: r, 0⟩] := by
  have hw : wordy c = true := by unfold wordy; rw [hc]; rfl
  have hf : front wordy (c :: r) = (c :: r).length := front_whole wordy _ fun x hx => by
    rcases List.mem_cons.1 hx with rfl | hx
    · exact hw
    · exact hr x hx
  have h1 : Lx.one (c :: r) = .ok 1 (c :: r).length := by
    unfold Lx.one
    rw [List.getD_cons_zero, if_pos hc, hf, if_neg (by omega)]
  have hb : ¬ blankC c = true := by
    unfold small at hc; unfold blankC
    simp only [decide_eq_true_eq] at hc ⊢; omega
  have h35 : ¬ c.toNat = 35 := by
    unfold small at hc
    simp only [decide_eq_true_eq] at hc; omega
  rw [sg_cons, if_neg hb, if_neg h35, h1]
  dsimp only
  rw [List.drop_eq_nil_of_le (by simp), sg_nil, List.take_length]
  rfl

inductive I10 (h0 : Heap) (xs : List Int) (a : Option Addr) (c : Nat) (at_ cc : Int) : Nat → S → Prop
  | mk (i : Nat) (iv : Int) (r : B) (h : Heap) {x3 x4 x5 x6 x9 x10 x11 x12 x13 x14 x15 x16 x17 x18 x19 x20 x21 x22 x23 x24 x25 x26 x27 x28 x29 x30 x31 x32 x33 x34 x35 x36 x37 x38 x39 x40 x41 x42 x43 x44 x45 x46 x47 x48 x49 x50 x51 x52 x53 x54 x55 x56 x57 x58 x59 x60 x61 x62 x63 x64 x65 x66 x67 x68 x69 x70 x71 x72 x73 x74 x75 x76 x77 x78 x79 x80 x81 x82 x83 x84 x85 x86 x87 x88 x89 x90 x91 x92 x93 x94 x95 x96 x97 x98 x99 x100 x101 x102 x103 x104 x105 x106 x107 x108 x109 x110 x111 x112 x113 x114 x115 x116 x117 x118 x119 : Value} (hiv : iv = (i : Int)) (hi : i ≤ 18) (hr : ∀ x ∈ r, wordy x = true) (hl : r.length ≤ i) (hg : Gr h0 h) :
    I10 h0 xs a c at_ cc (18 - i) ⟨(F120 (.slice a xs.length c) (.int .i64 at_) (.int .u8 cc) x3 x4 x5 x6 (.string (Tx (113 :: r))) (.int .i64 iv) x9 x10 x11 x12 x13 x14 x15 x16 x17 x18 x19 x20 x21 x22 x23 x24 x25 x26 x27 x28 x29 x30 x31 x32 x33 x34 x35 x36 x37 x38 x39 x40 x41 x42 x43 x44 x45 x46 x47 x48 x49 x50 x51 x52 x53 x54 x55 x56 x57 x58 x59 x60 x61 x62 x63 x64 x65 x66 x67 x68 x69 x70 x71 x72 x73 x74 x75 x76 x77 x78 x79 x80 x81 x82 x83 x84 x85 x86 x87 x88 x89 x90 x91 x92 x93 x94 x95 x96 x97 x98 x99 x100 x101 x102 x103 x104 x105 x106 x107 x108 x109 x110 x111 x112 x113 x114 x115 x116 x117 x118 x119), [], h⟩

theorem words_w (xs : List Int) (a : Option Addr) (c : Nat) (hs : Sl h a (ivs xs)) (hb : ∀ b, blk a b → b < h.next) (at_ cc : Int) :
    CallE (pp G) 10 [.slice a xs.length c, .int .i64 at_, .int .u8 cc] h (fun v h' => v = .bool true) := by
  refine CallE.fir4 (good G) fir10 rfl rfl (F120_arr ..) fun hlo => ?_
  rw [sh_ir10]
  simp (disch := first | omega | (refine id ?_; simp only [push_cast]; done) | (refine id ?_; simp only [push_cast]; omega)) only [push_cast, Nat.reduceAdd, Nat.reduceMul, Nat.reduceSub, Nat.reduceLT, Nat.reduceEqDiff, Nat.reduceLeDiff, Int.reduceToNat, reduceCtorEq, Int.reduceLT, Int.reduceLE, Int.reduceAdd, Int.reduceSub, Int.reduceMul, Int.reduceNeg, Int.reduceEq]
  refine CallE.to (known_w G _) ?_
  rintro _ h1 ⟨rfl, hg1⟩
  have hn1 := hg1.next
  have hlo1 : h1.lo ≤ h1.next := by have := hg1.lo; omega
  simp (disch := first | omega | (refine id ?_; simp only [push_cast]; done) | (refine id ?_; simp only [push_cast]; omega)) only [push_cast, Nat.reduceAdd, Nat.reduceMul, Nat.reduceSub, Nat.reduceLT, Nat.reduceEqDiff, Nat.reduceLeDiff, Int.reduceToNat, reduceCtorEq, Int.reduceLT, Int.reduceLE, Int.reduceAdd, Int.reduceSub, Int.reduceMul, Int.reduceNeg, Int.reduceEq, Bool.not_true]
  refine W.loop4 (good G) (I10 h1 xs a c at_ cc) ?_ _ _ (I10.mk 0 0 [] _ rfl (by omega) (fun x hx => by cases hx) (by simp) (Gr.refl _))
  intro k s1 hI
  cases hI with | mk i iv r h2 hiv hi hr hl hg2 =>
  subst hiv
  have hn2 := hg2.next
  rw [sh_ir10_s0]
  by_cases hlt : (i : Int) < xs.length ∧ (i : Int) < 18
  · obtain ⟨hlt1, hlt2⟩ := hlt
    have hix : i < xs.length := by omega
    have hsl := Gr.slE (hg1.tr hg2) hs hb
    obtain ⟨b, off, rfl, _⟩ := hsl.load T_knd_3 (ivs_get hix)
    have hld := Sl_ld hsl (ivs_get hix)
    have hW := Wi_range (xs.getD i 0) 37 (by omega)
    obtain ⟨k1, hk1⟩ : ∃ k : Nat, Wi (xs.getD i 0) 37 = k := ⟨(Wi (xs.getD i 0) 37).toNat, by omega⟩
    obtain ⟨ch, hch, hwd⟩ := ab_one k1 (List.mem_range.2 (by omega))
    simp (disch := first | omega | (refine id ?_; simp only [push_cast]; done) | (refine id ?_; simp only [push_cast]; omega)) only [push_cast, Nat.reduceAdd, Nat.reduceMul, Nat.reduceSub, Nat.reduceLT, Nat.reduceEqDiff, Nat.reduceLeDiff, Int.reduceToNat, reduceCtorEq, Int.reduceLT, Int.reduceLE, Int.reduceAdd, Int.reduceSub, Int.reduceMul, Int.reduceNeg, Int.reduceEq, hlt1, hlt2, Int.toNat_natCast, hld]
    refine CallE.to (within_w G _ _ _ (by omega) (by omega)) ?_
    rintro _ _ ⟨rfl, e⟩
    rw [e, hk1]
    clear e
    have hABl : (AB.length : Int) = 37 := rfl
    have hk37 : (k1 : Int) < 37 := by omega
    have hw1 : IntKind.i64.wrap ((k1 : Int) + 1) = k1 + 1 := wrap_i64 (by omega) (by omega)
    have ht1 : ((k1 : Int) + 1).toNat = k1 + 1 := by omega
    have ht2 : k1 + 1 - k1 = 1 := by omega
    simp (disch := first | omega | (refine id ?_; simp only [push_cast]; done) | (refine id ?_; simp only [push_cast]; omega)) only [push_cast, Nat.reduceAdd, Nat.reduceMul, Nat.reduceSub, Nat.reduceLT, Nat.reduceEqDiff, Nat.reduceLeDiff, Int.reduceToNat, reduceCtorEq, Int.reduceLT, Int.reduceLE, Int.reduceAdd, Int.reduceSub, Int.reduceMul, Int.reduceNeg, Int.reduceEq, Int.toNat_natCast, hw1, ht1, ht2, hABl, hk37, hch]
    exact ⟨_, by omega, I10.mk (i + 1) _ (r ++ [ch]) _ (by first | rfl | omega) (by omega) (fun x hx => by
      rcases List.mem_append.1 hx with hx | hx
      · exact hr x hx
      · rw [List.mem_singleton.1 hx]; exact hwd) (by rw [List.length_append]; simp; omega) hg2⟩
  · have hsg : sg 0 (113 :: r) = .ok [⟨1, 113 :: r, 0⟩] := sg_word (by decide) hr (by simp; omega)
    have hss : signs (113 :: r) = .ok [⟨1, 113 :: r, 0⟩] := by rw [signs_sg (by simp; omega)]; exact hsg
    have hsl : (113 :: r).length ≤ 19 := by simp; omega
    have hpos : 0 < (113 :: r).length := by simp
    generalize 113 :: r = s at hss hsl hpos
    have hor : ¬ (i : Int) < xs.length ∨ ((i : Int) < xs.length ∧ ¬ (i : Int) < 18) := by omega
    rcases hor with hA | hA <;> (first | (have hB := hA.2; have hA' := hA.1; simp (disch := first | omega | (refine id ?_; simp only [push_cast]; done) | (refine id ?_; simp only [push_cast]; omega)) only [push_cast, Nat.reduceAdd, Nat.reduceMul, Nat.reduceSub, Nat.reduceLT, Nat.reduceEqDiff, Nat.reduceLeDiff, Int.reduceToNat, reduceCtorEq, Int.reduceLT, Int.reduceLE, Int.reduceAdd, Int.reduceSub, Int.reduceMul, Int.reduceNeg, Int.reduceEq, hA', hB]) | simp (disch := first | omega | (refine id ?_; simp only [push_cast]; done) | (refine id ?_; simp only [push_cast]; omega)) only [push_cast, Nat.reduceAdd, Nat.reduceMul, Nat.reduceSub, Nat.reduceLT, Nat.reduceEqDiff, Nat.reduceLeDiff, Int.reduceToNat, reduceCtorEq, Int.reduceLT, Int.reduceLE, Int.reduceAdd, Int.reduceSub, Int.reduceMul, Int.reduceNeg, Int.reduceEq, hA])
    all_goals
      refine CallE.to (signs_w G _ s (by omega)) ?_
      rw [hss]
      rintro v3 h3 ⟨hg3, a3, c3, rfl, hown3, hblk3⟩
      obtain ⟨b3, o3, ha3, e0, e1, e2⟩ := sg_ldf hown3.sl (i := 0) (x := ⟨1, s, 0⟩) rfl
      subst ha3
      rw [Nat.zero_mul, Nat.add_zero] at e0 e1 e2
      have hs0 : ¬ s = [] := fun e => by subst e; simp at hpos
      simp (disch := first | omega | (refine id ?_; simp only [push_cast]; done) | (refine id ?_; simp only [push_cast]; omega)) only [push_cast, Nat.reduceAdd, Nat.reduceMul, Nat.reduceSub, Nat.reduceLT, Nat.reduceEqDiff, Nat.reduceLeDiff, Int.reduceToNat, reduceCtorEq, Int.reduceLT, Int.reduceLE, Int.reduceAdd, Int.reduceSub, Int.reduceMul, Int.reduceNeg, Int.reduceEq, e0, e1, e2, List.length_cons, List.length_nil]
      refine CallE.to (name_w G _ s (by omega)) ?_
      rintro _ h4 ⟨rfl, hg4⟩
      simp (disch := first | omega | (refine id ?_; simp only [push_cast]; done) | (refine id ?_; simp only [push_cast]; omega)) only [push_cast, Nat.reduceAdd, Nat.reduceMul, Nat.reduceSub, Nat.reduceLT, Nat.reduceEqDiff, Nat.reduceLeDiff, Int.reduceToNat, reduceCtorEq, Int.reduceLT, Int.reduceLE, Int.reduceAdd, Int.reduceSub, Int.reduceMul, Int.reduceNeg, Int.reduceEq]
      refine CallE.to (rname_w G _ s (by omega)) ?_
      rintro _ _ ⟨rfl, e⟩
      rw [e]
      clear e
      simp (disch := first | omega | (refine id ?_; simp only [push_cast]; done) | (refine id ?_; simp only [push_cast]; omega)) only [push_cast, Nat.reduceAdd, Nat.reduceMul, Nat.reduceSub, Nat.reduceLT, Nat.reduceEqDiff, Nat.reduceLeDiff, Int.reduceToNat, reduceCtorEq, Int.reduceLT, Int.reduceLE, Int.reduceAdd, Int.reduceSub, Int.reduceMul, Int.reduceNeg, Int.reduceEq, beq_self_eq_true, Bool.not_true]
      refine CallE.to (within_w G _ at_ s.length (by omega) (by omega)) ?_
      rintro _ _ ⟨rfl, e⟩
      rw [e]
      clear e
      have hW := Wi_range at_ s.length (by omega)
      obtain ⟨k, hk⟩ : ∃ k : Nat, Wi at_ s.length = (k : Int) := ⟨(Wi at_ s.length).toNat, by omega⟩
      rw [hk]
      have hlo4 : h4.lo ≤ h4.next := by have e1 := hg2.lo; have e3 := hg3.lo; have e4 := hg4.lo; have q3 := hg3.next; have q4 := hg4.next; omega
      have hw1 : IntKind.i64.wrap (1 + (k : Int)) = 1 + k := wrap_i64 (by omega) (by omega)
      have ht1 : (1 + (k : Int)).toNat = 1 + k := by omega
      have hsl : Sl (h4.add (O [.int .u8 cc] 5 false)) (some ⟨h4.next, 0, none⟩) (bv [cc]) := Sl.row (cells_add_s _ _ _ _ rfl) (by rw [lo_add]; exact hlo4)
      have hcv : cvV Try.prog 25 9 (.slice (some ⟨h4.next, 0, none⟩) 1 1) (h4.add (O [.int .u8 cc] 5 false)) = some (.string (txt [cc])) := cv_text T_cnvT_25_9 (c := 1) hsl rfl
      have htx : txt [cc] = Tx [UInt8.ofNat cc.toNat] := rfl
      rw [htx] at hcv
      generalize UInt8.ofNat cc.toNat = cb at hcv
      have q1 : (s.take (1 + k)).length ≤ 19 := by rw [List.length_take]; omega
      have q2 : (s.take (1 + k) ++ [cb]).length ≤ 20 := by rw [List.length_append]; simp only [List.length_cons, List.length_nil]; omega
      have q3 : (s.drop (1 + k)).length ≤ 19 := by rw [List.length_drop]; omega
      have q4 : ([cb] : B).length ≤ 1 := Nat.le_refl _
      simp (disch := first | omega | (refine id ?_; simp only [push_cast]; done) | (refine id ?_; simp only [push_cast]; omega)) only [push_cast, Nat.reduceAdd, Nat.reduceMul, Nat.reduceSub, Nat.reduceLT, Nat.reduceEqDiff, Nat.reduceLeDiff, Int.reduceToNat, reduceCtorEq, Int.reduceLT, Int.reduceLE, Int.reduceAdd, Int.reduceSub, Int.reduceMul, Int.reduceNeg, Int.reduceEq, hw1, ht1, rg_get, rg_get1, rep_1, hcv, q1, q2, q3, q4]
      have hT : (s.take (1 + k) ++ [cb] ++ s.drop (1 + k)).length ≤ 39 := by rw [List.length_append]; omega
      generalize s.take (1 + k) ++ [cb] ++ s.drop (1 + k) = T at hT
      refine CallE.to (signs_w G _ T (by omega)) ?_
      rintro v5 h5 hp5
      cases hr5 : signs T with
      | bad p e =>
        rw [hr5] at hp5
        obtain ⟨hg5, hp5⟩ := hp5
        dsimp only at hp5
        subst hp5
        simp (disch := first | omega | (refine id ?_; simp only [push_cast]; done) | (refine id ?_; simp only [push_cast]; omega)) only [push_cast, Nat.reduceAdd, Nat.reduceMul, Nat.reduceSub, Nat.reduceLT, Nat.reduceEqDiff, Nat.reduceLeDiff, Int.reduceToNat, reduceCtorEq, Int.reduceLT, Int.reduceLE, Int.reduceAdd, Int.reduceSub, Int.reduceMul, Int.reduceNeg, Int.reduceEq]
        refine CallE.to (rsigns_w G _ T (by omega)) ?_
        rintro v h6 ⟨w, hp6, rfl⟩
        rw [hr5] at hp6
        obtain ⟨hg6, hp6⟩ := hp6
        dsimp only at hp6
        subst hp6
        simp (disch := first | omega | (refine id ?_; simp only [push_cast]; done) | (refine id ?_; simp only [push_cast]; omega)) only [push_cast, Nat.reduceAdd, Nat.reduceMul, Nat.reduceSub, Nat.reduceLT, Nat.reduceEqDiff, Nat.reduceLeDiff, Int.reduceToNat, reduceCtorEq, Int.reduceLT, Int.reduceLE, Int.reduceAdd, Int.reduceSub, Int.reduceMul, Int.reduceNeg, Int.reduceEq]
        refine CallE.to (same_w G _ [] [] none none 0 0 (Sl.nil _ spotN_n) (Sl.nil _ spotN_n) (by decide)) ?_
        rintro v h7 ⟨hy, _, rfl⟩
        rw [hy rfl]
        simp (disch := first | omega | (refine id ?_; simp only [push_cast]; done) | (refine id ?_; simp only [push_cast]; omega)) only [push_cast, Nat.reduceAdd, Nat.reduceMul, Nat.reduceSub, Nat.reduceLT, Nat.reduceEqDiff, Nat.reduceLeDiff, Int.reduceToNat, reduceCtorEq, Int.reduceLT, Int.reduceLE, Int.reduceAdd, Int.reduceSub, Int.reduceMul, Int.reduceNeg, Int.reduceEq]
      | ok l =>
        rw [hr5] at hp5
        obtain ⟨hg5, a5, c5, rfl, hown5, hblk5⟩ := hp5
        simp (disch := first | omega | (refine id ?_; simp only [push_cast]; done) | (refine id ?_; simp only [push_cast]; omega)) only [push_cast, Nat.reduceAdd, Nat.reduceMul, Nat.reduceSub, Nat.reduceLT, Nat.reduceEqDiff, Nat.reduceLeDiff, Int.reduceToNat, reduceCtorEq, Int.reduceLT, Int.reduceLE, Int.reduceAdd, Int.reduceSub, Int.reduceMul, Int.reduceNeg, Int.reduceEq]
        refine CallE.to (rsigns_w G _ T (by omega)) ?_
        rintro v h6 ⟨w, hp6, rfl⟩
        rw [hr5] at hp6
        obtain ⟨hg6, a6, c6, rfl, hown6, hblk6⟩ := hp6
        have hll : l.length < 4611686018427387904 := by
          rw [signs_sg (by omega)] at hr5
          have := sg_count l 0 _ hr5
          omega
        simp (disch := first | omega | (refine id ?_; simp only [push_cast]; done) | (refine id ?_; simp only [push_cast]; omega)) only [push_cast, Nat.reduceAdd, Nat.reduceMul, Nat.reduceSub, Nat.reduceLT, Nat.reduceEqDiff, Nat.reduceLeDiff, Int.reduceToNat, reduceCtorEq, Int.reduceLT, Int.reduceLE, Int.reduceAdd, Int.reduceSub, Int.reduceMul, Int.reduceNeg, Int.reduceEq]
        refine CallE.to (same_w G _ l l a5 a6 c5 c6 (Gr.ownE hg6 hown5).sl hown6.sl hll) ?_
        rintro v h7 ⟨hy, _, rfl⟩
        rw [hy rfl]
        simp (disch := first | omega | (refine id ?_; simp only [push_cast]; done) | (refine id ?_; simp only [push_cast]; omega)) only [push_cast, Nat.reduceAdd, Nat.reduceMul, Nat.reduceSub, Nat.reduceLT, Nat.reduceEqDiff, Nat.reduceLeDiff, Int.reduceToNat, reduceCtorEq, Int.reduceLT, Int.reduceLE, Int.reduceAdd, Int.reduceSub, Int.reduceMul, Int.reduceNeg, Int.reduceEq]
end
end Go.Proofs.Ythjcdbbomfmphaa
