/-
  A part of the proof: what the program's functions hand back, as theorems. No condition but those that each theorem names.
-/
import Derived.Test.YthjcdbbomfmphaaLxg
import Derived.Test.YthjcdbbomfmphaaLxh
import Derived.Test.YthjcdbbomfmphaaLxm
import Derived.Test.YthjcdbbomfmphaaLxu
import Derived.Test.YthjcdbbomfmphaaLzg
set_option linter.unusedSimpArgs false
set_option linter.unusedVariables false
namespace Go.Proofs.Ythjcdbbomfmphaa
open Go Go.RowKit Go.Ev Go.Lx
noncomputable section
set_option linter.unusedSimpArgs false
set_option linter.unusedVariables false
variable (G : Nat) (h : Heap)

theorem key_w (l : B) : CallE (pp G) 21 [.string (Tx l)] h (fun v h' => v = .bool (decide (l ∈ keysL)) ∧ h' = h) := by
  refine CallE.fir4 (good G) fir21 rfl rfl (F21_arr ..) fun hlo => ?_
  rw [sh_ir21]
  simp (disch := first | omega | (refine id ?_; simp only [push_cast]; done) | (refine id ?_; simp only [push_cast]; omega)) only [push_cast, Nat.reduceAdd, Nat.reduceMul, Nat.reduceSub, Nat.reduceLT, Nat.reduceEqDiff, Nat.reduceLeDiff, Int.reduceToNat, reduceCtorEq, Int.reduceLT, Int.reduceLE, Int.reduceAdd, Int.reduceSub, Int.reduceMul, Int.reduceNeg, Int.reduceEq]
  repeat' (refine vcond_d (fun hc => ?_) (fun hc => ?_) <;> (try simp (disch := first | omega | (refine id ?_; simp only [push_cast]; done) | (refine id ?_; simp only [push_cast]; omega)) only [push_cast, Nat.reduceAdd, Nat.reduceMul, Nat.reduceSub, Nat.reduceLT, Nat.reduceEqDiff, Nat.reduceLeDiff, Int.reduceToNat, reduceCtorEq, Int.reduceLT, Int.reduceLE, Int.reduceAdd, Int.reduceSub, Int.reduceMul, Int.reduceNeg, Int.reduceEq]))
  all_goals first
    | contradiction
    | (subst hc; decide)
    | (simp only [keysL, List.mem_cons, List.not_mem_nil, or_false, *, decide_false, decide_true, or_true, true_or, or_self])
    | skip

inductive I22b (h : Heap) (l : B) (i : Nat) : Nat → S → Prop
  | mk (k : Nat) (iv kv : Int) {x1 x2 x5 x6 x7 x8 x9 x10 x11 x12 x13 x14 x15 x16 x17 x18 x19 x20 x21 x22 x23 x24 x25 x26 x27 x28 x29 x30 x31 x32 x33 x34 x35 x36 x37 x38 x39 x40 x41 x42 x43 x44 x45 x46 x47 x48 x49 x50 x51 : Value} (hiv : iv = (i : Int)) (hkv : kv = (k : Int)) (hk : k ≤ l.length) (h32 : ∀ j, j < k → l.getD j 0 ≠ 32) :
    I22b h l i (l.length - k) ⟨(F52 (.string (Tx l)) x1 x2 (.int .i64 iv) (.int .i64 kv) x5 x6 x7 x8 x9 x10 x11 x12 x13 x14 x15 x16 x17 x18 x19 x20 x21 x22 x23 x24 x25 x26 x27 x28 x29 x30 x31 x32 x33 x34 x35 x36 x37 x38 x39 x40 x41 x42 x43 x44 x45 x46 x47 x48 x49 x50 x51), [], h⟩
inductive I22 (h : Heap) (l : B) : Nat → S → Prop
  | mk (i : Nat) (iv : Int) {x1 x2 x4 x5 x6 x7 x8 x9 x10 x11 x12 x13 x14 x15 x16 x17 x18 x19 x20 x21 x22 x23 x24 x25 x26 x27 x28 x29 x30 x31 x32 x33 x34 x35 x36 x37 x38 x39 x40 x41 x42 x43 x44 x45 x46 x47 x48 x49 x50 x51 : Value} (hiv : iv = (i : Int)) (hi : i ≤ 86) (hno : ∀ j, j < i → ¬ KM l j) :
    I22 h l (86 - i) ⟨(F52 (.string (Tx l)) x1 x2 (.int .i64 iv) x4 x5 x6 x7 x8 x9 x10 x11 x12 x13 x14 x15 x16 x17 x18 x19 x20 x21 x22 x23 x24 x25 x26 x27 x28 x29 x30 x31 x32 x33 x34 x35 x36 x37 x38 x39 x40 x41 x42 x43 x44 x45 x46 x47 x48 x49 x50 x51), [], h⟩

theorem bt32 (l : B) (i : Nat) : (bt l i = 32) = (l.getD i 0 = 32) := by
  apply propext
  constructor
  · intro e
    have : (l.getD i 0).toNat = 32 := by unfold bt at e; omega
    exact UInt8.toNat_inj.1 this
  · intro e; unfold bt; rw [e]; rfl
theorem rkey_w (l : B) (hl : l.length < 4611686018427387904) : CallE (pp G) 22 [.string (Tx l)] h (fun v h' => v = .bool (decide (l ∈ keysL)) ∧ h' = h) := by
  refine CallE.fir4 (good G) fir22 rfl rfl (F52_arr ..) fun hlo => ?_
  rw [sh_ir22]
  simp (disch := first | omega | (refine id ?_; simp only [push_cast]; done) | (refine id ?_; simp only [push_cast]; omega)) only [push_cast, Nat.reduceAdd, Nat.reduceMul, Nat.reduceSub, Nat.reduceLT, Nat.reduceEqDiff, Nat.reduceLeDiff, Int.reduceToNat, reduceCtorEq, Int.reduceLT, Int.reduceLE, Int.reduceAdd, Int.reduceSub, Int.reduceMul, Int.reduceNeg, Int.reduceEq]
  refine W.loop4 (good G) (I22 h l) ?_ _ _ (I22.mk 0 0 rfl (by omega) (fun j hj => by omega))
  intro k s1 hI
  cases hI with | mk i iv hiv hi hno =>
  subst hiv
  rw [sh_ir22_s0]
  have w1 : IntKind.i64.wrap ((i : Int) + l.length) = i + l.length := wrap_i64 (by omega) (by omega)
  have w2 : IntKind.i64.wrap ((i : Int) + l.length + 2) = i + l.length + 2 := wrap_i64 (by omega) (by omega)
  by_cases hc1 : (i : Int) + l.length + 2 ≤ 85
  · by_cases hc2 : (0 : Int) < l.length
    · have hi84 : (i : Int) < 85 := by omega
      have hKT : (KT.length : Int) = 85 := rfl
      have w3 : IntKind.i64.wrap ((i : Int) + l.length + 1) = i + l.length + 1 := wrap_i64 (by omega) (by omega)
      have w4 : IntKind.i64.wrap ((i : Int) + 1) = i + 1 := wrap_i64 (by omega) (by omega)
      have w5 : IntKind.i64.wrap ((i : Int) + 1 + l.length) = i + 1 + l.length := wrap_i64 (by omega) (by omega)
      have t1 : ((i : Int) + l.length + 1).toNat = i + l.length + 1 := by omega
      have t2 : ((i : Int) + 1).toNat = i + 1 := by omega
      have t3 : ((i : Int) + 1 + l.length).toNat - (i + 1) = l.length := by omega
      simp (disch := first | omega | (refine id ?_; simp only [push_cast]; done) | (refine id ?_; simp only [push_cast]; omega)) only [push_cast, Nat.reduceAdd, Nat.reduceMul, Nat.reduceSub, Nat.reduceLT, Nat.reduceEqDiff, Nat.reduceLeDiff, Int.reduceToNat, reduceCtorEq, Int.reduceLT, Int.reduceLE, Int.reduceAdd, Int.reduceSub, Int.reduceMul, Int.reduceNeg, Int.reduceEq, w1, w2, w3, w4, w5, hc1, hc2, t1, t2, t3, hi84, hKT, Int.toNat_natCast]
      have hnM : ¬ KM l i → ∀ j, j < i + 1 → ¬ KM l j := fun h0 j hj => by
        rcases Nat.lt_or_ge j i with h1 | h1
        · exact hno j h1
        · rw [show j = i by omega]; exact h0
      by_cases hk1 : bt KT i = 32
      · by_cases hk2 : bt KT (i + l.length + 1) = 32
        · by_cases hk3 : (KU.drop i).take l.length = l
          · simp (disch := first | omega | (refine id ?_; simp only [push_cast]; done) | (refine id ?_; simp only [push_cast]; omega)) only [push_cast, Nat.reduceAdd, Nat.reduceMul, Nat.reduceSub, Nat.reduceLT, Nat.reduceEqDiff, Nat.reduceLeDiff, Int.reduceToNat, reduceCtorEq, Int.reduceLT, Int.reduceLE, Int.reduceAdd, Int.reduceSub, Int.reduceMul, Int.reduceNeg, Int.reduceEq, hk1, hk2, hk3, w1, w2, w3, w4, w5, t1, t2, t3, hKT]
            have hM : KM l i := ⟨by omega, by rw [← bt32]; exact hk1, by rw [← bt32]; exact hk2, hk3⟩
            refine W.loop4 (good G) (I22b h l i) ?_ _ _ (I22b.mk 0 _ 0 rfl rfl (by omega) (fun j hj => by omega))
            intro k s1 hI
            cases hI with | mk k iv kv hiv hkv hk h32 =>
            subst hiv hkv
            rw [sh_ir22_s2]
            by_cases hkl : (k : Int) < l.length
            · by_cases hk5 : bt l k = 32
              · have hn : l ∉ keysL := fun h0 => by
                  have e := (bt32 l k).mp hk5
                  apply keys_no32 h0
                  rw [← e, List.getD_eq_getElem?_getD, List.getElem?_eq_getElem (by omega)]
                  exact List.getElem_mem _
                simp (disch := first | omega | (refine id ?_; simp only [push_cast]; done) | (refine id ?_; simp only [push_cast]; omega)) only [push_cast, Nat.reduceAdd, Nat.reduceMul, Nat.reduceSub, Nat.reduceLT, Nat.reduceEqDiff, Nat.reduceLeDiff, Int.reduceToNat, reduceCtorEq, Int.reduceLT, Int.reduceLE, Int.reduceAdd, Int.reduceSub, Int.reduceMul, Int.reduceNeg, Int.reduceEq, hkl, Int.toNat_natCast, hk5]
                rw [decide_eq_false hn]
              · simp (disch := first | omega | (refine id ?_; simp only [push_cast]; done) | (refine id ?_; simp only [push_cast]; omega)) only [push_cast, Nat.reduceAdd, Nat.reduceMul, Nat.reduceSub, Nat.reduceLT, Nat.reduceEqDiff, Nat.reduceLeDiff, Int.reduceToNat, reduceCtorEq, Int.reduceLT, Int.reduceLE, Int.reduceAdd, Int.reduceSub, Int.reduceMul, Int.reduceNeg, Int.reduceEq, hkl, Int.toNat_natCast, hk5]
                exact ⟨_, by omega, I22b.mk (k + 1) _ _ (by first | rfl | omega) (by first | rfl | omega) (by omega) (fun j hj => by
                  rcases Nat.lt_or_ge j k with h1 | h1
                  · exact h32 j h1
                  · rw [show j = k by omega]; intro e; exact hk5 (by rw [bt32]; exact e))⟩
            · have hin : l ∈ keysL := keys_in hM (by omega) (fun h0 => by
                obtain ⟨j, hj, e⟩ := List.getElem_of_mem h0
                apply h32 j (by omega)
                rw [List.getD_eq_getElem?_getD, List.getElem?_eq_getElem hj]
                exact e)
              simp (disch := first | omega | (refine id ?_; simp only [push_cast]; done) | (refine id ?_; simp only [push_cast]; omega)) only [push_cast, Nat.reduceAdd, Nat.reduceMul, Nat.reduceSub, Nat.reduceLT, Nat.reduceEqDiff, Nat.reduceLeDiff, Int.reduceToNat, reduceCtorEq, Int.reduceLT, Int.reduceLE, Int.reduceAdd, Int.reduceSub, Int.reduceMul, Int.reduceNeg, Int.reduceEq, hkl]
              rw [decide_eq_true hin]
          · simp (disch := first | omega | (refine id ?_; simp only [push_cast]; done) | (refine id ?_; simp only [push_cast]; omega)) only [push_cast, Nat.reduceAdd, Nat.reduceMul, Nat.reduceSub, Nat.reduceLT, Nat.reduceEqDiff, Nat.reduceLeDiff, Int.reduceToNat, reduceCtorEq, Int.reduceLT, Int.reduceLE, Int.reduceAdd, Int.reduceSub, Int.reduceMul, Int.reduceNeg, Int.reduceEq, hk1, hk2, hk3, w1, w2, w3, w4, w5, t1, t2, t3, hKT]
            exact ⟨_, by omega, I22.mk (i + 1) _ (by first | rfl | omega) (by omega) (hnM fun h0 => hk3 h0.2.2.2)⟩
        · simp (disch := first | omega | (refine id ?_; simp only [push_cast]; done) | (refine id ?_; simp only [push_cast]; omega)) only [push_cast, Nat.reduceAdd, Nat.reduceMul, Nat.reduceSub, Nat.reduceLT, Nat.reduceEqDiff, Nat.reduceLeDiff, Int.reduceToNat, reduceCtorEq, Int.reduceLT, Int.reduceLE, Int.reduceAdd, Int.reduceSub, Int.reduceMul, Int.reduceNeg, Int.reduceEq, hk1, hk2, w1, w2, w3, w4, w5, t1, t2, t3, hKT]
          exact ⟨_, by omega, I22.mk (i + 1) _ (by first | rfl | omega) (by omega) (hnM fun h0 => hk2 (by rw [bt32]; exact h0.2.2.1))⟩
      · simp (disch := first | omega | (refine id ?_; simp only [push_cast]; done) | (refine id ?_; simp only [push_cast]; omega)) only [push_cast, Nat.reduceAdd, Nat.reduceMul, Nat.reduceSub, Nat.reduceLT, Nat.reduceEqDiff, Nat.reduceLeDiff, Int.reduceToNat, reduceCtorEq, Int.reduceLT, Int.reduceLE, Int.reduceAdd, Int.reduceSub, Int.reduceMul, Int.reduceNeg, Int.reduceEq, hk1, w1, w2, w3, w4, w5, t1, t2, t3, hKT]
        exact ⟨_, by omega, I22.mk (i + 1) _ (by first | rfl | omega) (by omega) (hnM fun h0 => hk1 (by rw [bt32]; exact h0.2.1))⟩
    · simp (disch := first | omega | (refine id ?_; simp only [push_cast]; done) | (refine id ?_; simp only [push_cast]; omega)) only [push_cast, Nat.reduceAdd, Nat.reduceMul, Nat.reduceSub, Nat.reduceLT, Nat.reduceEqDiff, Nat.reduceLeDiff, Int.reduceToNat, reduceCtorEq, Int.reduceLT, Int.reduceLE, Int.reduceAdd, Int.reduceSub, Int.reduceMul, Int.reduceNeg, Int.reduceEq, w1, w2, hc1, hc2]
      have : l ∉ keysL := fun h0 => by have := keys_len h0; omega
      rw [decide_eq_false this]
  · have hno2 : l ∉ keysL := fun h0 => by
      obtain ⟨j, hj⟩ := keys_at h0
      exact hno j (by have := hj.1; omega) hj
    simp (disch := first | omega | (refine id ?_; simp only [push_cast]; done) | (refine id ?_; simp only [push_cast]; omega)) only [push_cast, Nat.reduceAdd, Nat.reduceMul, Nat.reduceSub, Nat.reduceLT, Nat.reduceEqDiff, Nat.reduceLeDiff, Int.reduceToNat, reduceCtorEq, Int.reduceLT, Int.reduceLE, Int.reduceAdd, Int.reduceSub, Int.reduceMul, Int.reduceNeg, Int.reduceEq, w1, w2, hc1]
    rw [decide_eq_false hno2]

theorem nameB_no {l : B} (h : ¬ (l ≠ [] ∧ l.length ≤ 20 ∧ l ∉ keysL)) : nameB l = false := by unfold nameB; rw [decide_eq_false h]; rfl
theorem nameB_yes {l : B} (h : l ≠ [] ∧ l.length ≤ 20 ∧ l ∉ keysL) : nameB l = (small (l.getD 0 0) && decide (front wordy l = l.length)) := by unfold nameB; rw [decide_eq_true h]; rfl
theorem name_w (l : B) (hl : l.length < 4611686018427387904) : CallE (pp G) 19 [.string (Tx l)] h (fun v h' => v = .bool (nameB l) ∧ Gr h h') := by
  refine CallE.fir4 (good G) fir19 rfl rfl (F25_arr ..) fun hlo => ?_
  rw [sh_ir19]
  by_cases h1 : l = []
  · subst h1
    simp (disch := first | omega | (refine id ?_; simp only [push_cast]; done) | (refine id ?_; simp only [push_cast]; omega)) only [push_cast, Nat.reduceAdd, Nat.reduceMul, Nat.reduceSub, Nat.reduceLT, Nat.reduceEqDiff, Nat.reduceLeDiff, Int.reduceToNat, reduceCtorEq, Int.reduceLT, Int.reduceLE, Int.reduceAdd, Int.reduceSub, Int.reduceMul, Int.reduceNeg, Int.reduceEq]
    exact ⟨rfl, Gr.refl h⟩
  by_cases h2 : (20 : Int) < l.length
  · simp (disch := first | omega | (refine id ?_; simp only [push_cast]; done) | (refine id ?_; simp only [push_cast]; omega)) only [push_cast, Nat.reduceAdd, Nat.reduceMul, Nat.reduceSub, Nat.reduceLT, Nat.reduceEqDiff, Nat.reduceLeDiff, Int.reduceToNat, reduceCtorEq, Int.reduceLT, Int.reduceLE, Int.reduceAdd, Int.reduceSub, Int.reduceMul, Int.reduceNeg, Int.reduceEq, h1, h2]
    exact ⟨by rw [nameB_no fun h0 => by omega], Gr.refl h⟩
  simp (disch := first | omega | (refine id ?_; simp only [push_cast]; done) | (refine id ?_; simp only [push_cast]; omega)) only [push_cast, Nat.reduceAdd, Nat.reduceMul, Nat.reduceSub, Nat.reduceLT, Nat.reduceEqDiff, Nat.reduceLeDiff, Int.reduceToNat, reduceCtorEq, Int.reduceLT, Int.reduceLE, Int.reduceAdd, Int.reduceSub, Int.reduceMul, Int.reduceNeg, Int.reduceEq, h1, h2]
  refine CallE.to (key_w G _ l) ?_
  rintro _ _ ⟨rfl, e⟩
  rw [e]
  clear e
  by_cases h3 : l ∈ keysL
  · simp (disch := first | omega | (refine id ?_; simp only [push_cast]; done) | (refine id ?_; simp only [push_cast]; omega)) only [push_cast, Nat.reduceAdd, Nat.reduceMul, Nat.reduceSub, Nat.reduceLT, Nat.reduceEqDiff, Nat.reduceLeDiff, Int.reduceToNat, reduceCtorEq, Int.reduceLT, Int.reduceLE, Int.reduceAdd, Int.reduceSub, Int.reduceMul, Int.reduceNeg, Int.reduceEq, h3, decide_true]
    exact ⟨by rw [nameB_no fun h0 => h0.2.2 h3], Gr.refl h⟩
  have hlen : 0 < l.length := List.length_pos_iff.2 h1
  have hpos : (0 : Int) < l.length := by omega
  rw [nameB_yes ⟨h1, by omega, h3⟩]
  have hw : IntKind.i32.wrap (bt l 0) = bt l 0 := by
    have : (l.getD 0 0).toNat < 256 := UInt8.toNat_lt _
    exact IntWalk.i32_in _ (by unfold bt; omega)
  simp (disch := first | omega | (refine id ?_; simp only [push_cast]; done) | (refine id ?_; simp only [push_cast]; omega)) only [push_cast, Nat.reduceAdd, Nat.reduceMul, Nat.reduceSub, Nat.reduceLT, Nat.reduceEqDiff, Nat.reduceLeDiff, Int.reduceToNat, reduceCtorEq, Int.reduceLT, Int.reduceLE, Int.reduceAdd, Int.reduceSub, Int.reduceMul, Int.reduceNeg, Int.reduceEq, h3, decide_false, hpos, hw]
  refine CallE.to (small_w G _ _) ?_; rintro _ _ ⟨rfl, rfl⟩
  rw [hw, kind_small.eq]
  cases h4 : small (l.getD 0 0) with
  | false =>
    simp (disch := first | omega | (refine id ?_; simp only [push_cast]; done) | (refine id ?_; simp only [push_cast]; omega)) only [push_cast, Nat.reduceAdd, Nat.reduceMul, Nat.reduceSub, Nat.reduceLT, Nat.reduceEqDiff, Nat.reduceLeDiff, Int.reduceToNat, reduceCtorEq, Int.reduceLT, Int.reduceLE, Int.reduceAdd, Int.reduceSub, Int.reduceMul, Int.reduceNeg, Int.reduceEq]
    exact Gr.refl _
  | true =>
    simp (disch := first | omega | (refine id ?_; simp only [push_cast]; done) | (refine id ?_; simp only [push_cast]; omega)) only [push_cast, Nat.reduceAdd, Nat.reduceMul, Nat.reduceSub, Nat.reduceLT, Nat.reduceEqDiff, Nat.reduceLeDiff, Int.reduceToNat, reduceCtorEq, Int.reduceLT, Int.reduceLE, Int.reduceAdd, Int.reduceSub, Int.reduceMul, Int.reduceNeg, Int.reduceEq]
    refine CallE.to (front_w G _ l 31 kind_wordy (fun r h => wordy_w G h r)) ?_
    rintro _ h5 ⟨rfl, hg5⟩
    by_cases h6 : front wordy l = l.length
    · simp (disch := first | omega | (refine id ?_; simp only [push_cast]; done) | (refine id ?_; simp only [push_cast]; omega)) only [push_cast, Nat.reduceAdd, Nat.reduceMul, Nat.reduceSub, Nat.reduceLT, Nat.reduceEqDiff, Nat.reduceLeDiff, Int.reduceToNat, reduceCtorEq, Int.reduceLT, Int.reduceLE, Int.reduceAdd, Int.reduceSub, Int.reduceMul, Int.reduceNeg, Int.reduceEq, h6, decide_true]
      exact hg5
    · have h6' : ¬ ((front wordy l : Int) = l.length) := by omega
      simp (disch := first | omega | (refine id ?_; simp only [push_cast]; done) | (refine id ?_; simp only [push_cast]; omega)) only [push_cast, Nat.reduceAdd, Nat.reduceMul, Nat.reduceSub, Nat.reduceLT, Nat.reduceEqDiff, Nat.reduceLeDiff, Int.reduceToNat, reduceCtorEq, Int.reduceLT, Int.reduceLE, Int.reduceAdd, Int.reduceSub, Int.reduceMul, Int.reduceNeg, Int.reduceEq, h6, h6', decide_false]
      exact hg5

inductive I20 (h : Heap) (l : B) : Nat → S → Prop
  | mk (i : Nat) (iv : Int) {x1 x2 x4 x5 x6 x7 x8 x9 x10 x11 x12 x13 x14 x15 x16 x17 x18 x19 x20 x21 x22 x23 x24 x25 x26 x27 x28 : Value} (hiv : iv = (i : Int)) (hi : i ≤ l.length) (hall : ∀ j, j < i → (if j = 0 then small (l.getD j 0) else wordy (l.getD j 0)) = true) :
    I20 h l (l.length - i) ⟨(F29 (.string (Tx l)) x1 x2 (.int .i64 iv) x4 x5 x6 x7 x8 x9 x10 x11 x12 x13 x14 x15 x16 x17 x18 x19 x20 x21 x22 x23 x24 x25 x26 x27 x28), [], h⟩
theorem rname_w (l : B) (hl : l.length < 4611686018427387904) : CallE (pp G) 20 [.string (Tx l)] h (fun v h' => v = .bool (nameB l) ∧ h' = h) := by
  refine CallE.fir4 (good G) fir20 rfl rfl (F29_arr ..) fun hlo => ?_
  rw [sh_ir20]
  by_cases h1 : (l.length : Int) < 1
  · have e := nameB_no (l := l) fun h0 => by have := List.length_pos_iff.2 h0.1; omega
    simp (disch := first | omega | (refine id ?_; simp only [push_cast]; done) | (refine id ?_; simp only [push_cast]; omega)) only [push_cast, Nat.reduceAdd, Nat.reduceMul, Nat.reduceSub, Nat.reduceLT, Nat.reduceEqDiff, Nat.reduceLeDiff, Int.reduceToNat, reduceCtorEq, Int.reduceLT, Int.reduceLE, Int.reduceAdd, Int.reduceSub, Int.reduceMul, Int.reduceNeg, Int.reduceEq, h1, e]
  by_cases h2 : (20 : Int) < l.length
  · have e := nameB_no (l := l) fun h0 => by omega
    simp (disch := first | omega | (refine id ?_; simp only [push_cast]; done) | (refine id ?_; simp only [push_cast]; omega)) only [push_cast, Nat.reduceAdd, Nat.reduceMul, Nat.reduceSub, Nat.reduceLT, Nat.reduceEqDiff, Nat.reduceLeDiff, Int.reduceToNat, reduceCtorEq, Int.reduceLT, Int.reduceLE, Int.reduceAdd, Int.reduceSub, Int.reduceMul, Int.reduceNeg, Int.reduceEq, h1, h2, e]
  simp (disch := first | omega | (refine id ?_; simp only [push_cast]; done) | (refine id ?_; simp only [push_cast]; omega)) only [push_cast, Nat.reduceAdd, Nat.reduceMul, Nat.reduceSub, Nat.reduceLT, Nat.reduceEqDiff, Nat.reduceLeDiff, Int.reduceToNat, reduceCtorEq, Int.reduceLT, Int.reduceLE, Int.reduceAdd, Int.reduceSub, Int.reduceMul, Int.reduceNeg, Int.reduceEq, h1, h2]
  refine CallE.to (rkey_w G _ l hl) ?_
  rintro _ _ ⟨rfl, e⟩
  rw [e]
  clear e
  have hne : l ≠ [] := fun e => by subst e; simp at h1
  by_cases h3 : l ∈ keysL
  · have e := nameB_no (l := l) fun h0 => h0.2.2 h3
    simp (disch := first | omega | (refine id ?_; simp only [push_cast]; done) | (refine id ?_; simp only [push_cast]; omega)) only [push_cast, Nat.reduceAdd, Nat.reduceMul, Nat.reduceSub, Nat.reduceLT, Nat.reduceEqDiff, Nat.reduceLeDiff, Int.reduceToNat, reduceCtorEq, Int.reduceLT, Int.reduceLE, Int.reduceAdd, Int.reduceSub, Int.reduceMul, Int.reduceNeg, Int.reduceEq, h3, decide_true, e]
  have hn := nameB_yes (l := l) ⟨hne, by omega, h3⟩
  simp (disch := first | omega | (refine id ?_; simp only [push_cast]; done) | (refine id ?_; simp only [push_cast]; omega)) only [push_cast, Nat.reduceAdd, Nat.reduceMul, Nat.reduceSub, Nat.reduceLT, Nat.reduceEqDiff, Nat.reduceLeDiff, Int.reduceToNat, reduceCtorEq, Int.reduceLT, Int.reduceLE, Int.reduceAdd, Int.reduceSub, Int.reduceMul, Int.reduceNeg, Int.reduceEq, h3, decide_false]
  refine W.loop4 (good G) (I20 h l) ?_ _ _ (I20.mk 0 0 rfl (by omega) (fun j hj => by omega))
  intro k s1 hI
  cases hI with | mk i iv hiv hi hall =>
  subst hiv
  rw [sh_ir20_s0]
  by_cases hlt : (i : Int) < l.length
  · have hb : bt l i = ((l.getD i 0).toNat : Int) := rfl
    simp (disch := first | omega | (refine id ?_; simp only [push_cast]; done) | (refine id ?_; simp only [push_cast]; omega)) only [push_cast, Nat.reduceAdd, Nat.reduceMul, Nat.reduceSub, Nat.reduceLT, Nat.reduceEqDiff, Nat.reduceLeDiff, Int.reduceToNat, reduceCtorEq, Int.reduceLT, Int.reduceLE, Int.reduceAdd, Int.reduceSub, Int.reduceMul, Int.reduceNeg, Int.reduceEq, hlt, Int.toNat_natCast]
    rw [hb]
    refine CallE.to (rword_w G _ (l.getD i 0) (decide ((i : Int) = 0))) ?_; rintro _ _ ⟨rfl, rfl⟩
    have hnot : (if i = 0 then small (l.getD i 0) else wordy (l.getD i 0)) = false → nameB l = false := fun e => by
      rw [hn]
      by_cases hi0 : i = 0
      · subst hi0; rw [if_pos rfl] at e; rw [e]; rfl
      · rw [if_neg hi0] at e
        have : ¬ front wordy l = l.length := fun e2 => by
          have := front_all wordy l i (by omega)
          rw [e] at this; cases this
        rw [decide_eq_false this, Bool.and_false]
    have hif : (if (decide ((i : Int) = 0)) = true then small (l.getD i 0) else wordy (l.getD i 0)) = (if i = 0 then small (l.getD i 0) else wordy (l.getD i 0)) := by
      by_cases hi0 : i = 0
      · subst hi0; rfl
      · rw [if_neg (by simpa using hi0), if_neg hi0]
    rw [hif]
    cases he : (if i = 0 then small (l.getD i 0) else wordy (l.getD i 0)) with
    | false =>
      rw [hnot he]
      simp (disch := first | omega | (refine id ?_; simp only [push_cast]; done) | (refine id ?_; simp only [push_cast]; omega)) only [push_cast, Nat.reduceAdd, Nat.reduceMul, Nat.reduceSub, Nat.reduceLT, Nat.reduceEqDiff, Nat.reduceLeDiff, Int.reduceToNat, reduceCtorEq, Int.reduceLT, Int.reduceLE, Int.reduceAdd, Int.reduceSub, Int.reduceMul, Int.reduceNeg, Int.reduceEq, Bool.not_false]
    | true =>
      simp (disch := first | omega | (refine id ?_; simp only [push_cast]; done) | (refine id ?_; simp only [push_cast]; omega)) only [push_cast, Nat.reduceAdd, Nat.reduceMul, Nat.reduceSub, Nat.reduceLT, Nat.reduceEqDiff, Nat.reduceLeDiff, Int.reduceToNat, reduceCtorEq, Int.reduceLT, Int.reduceLE, Int.reduceAdd, Int.reduceSub, Int.reduceMul, Int.reduceNeg, Int.reduceEq, Bool.not_true]
      exact ⟨_, by omega, I20.mk (i + 1) _ (by first | rfl | omega) (by omega) (fun j hj => by
        rcases Nat.lt_or_ge j i with h4 | h4
        · exact hall j h4
        · rw [show j = i by omega]; exact he)⟩
  · have e : nameB l = true := by
      rw [hn]
      have h0 := hall 0 (by have := List.length_pos_iff.2 hne; omega)
      rw [if_pos rfl] at h0
      have hf : front wordy l = l.length := front_eq wordy l l.length (Nat.le_refl _) (fun j hj => by
        have := hall j (by omega)
        by_cases hj0 : j = 0
        · subst hj0; rw [if_pos rfl] at this; unfold wordy; rw [this]; rfl
        · rw [if_neg hj0] at this; exact this) (fun h => by omega)
      rw [h0, decide_eq_true hf]; rfl
    simp (disch := first | omega | (refine id ?_; simp only [push_cast]; done) | (refine id ?_; simp only [push_cast]; omega)) only [push_cast, Nat.reduceAdd, Nat.reduceMul, Nat.reduceSub, Nat.reduceLT, Nat.reduceEqDiff, Nat.reduceLeDiff, Int.reduceToNat, reduceCtorEq, Int.reduceLT, Int.reduceLE, Int.reduceAdd, Int.reduceSub, Int.reduceMul, Int.reduceNeg, Int.reduceEq, hlt, e]
end
end Go.Proofs.Ythjcdbbomfmphaa

namespace Go.Proofs.Ythjcdbbomfmphaa
open Go Go.RowKit Go.Ev Go.Lx
noncomputable section
set_option linter.unusedSimpArgs false
set_option linter.unusedVariables false
variable (G : Nat) (h : Heap)

def wordT : List B := [[118, 97, 114], [115, 116, 97, 99, 107], [112, 114, 111, 99], [115, 107, 105, 112], [100, 111], [112, 117, 115, 104], [114, 101, 118, 101, 114, 115, 101], [97, 99, 99, 101, 112, 116], [109, 101, 114, 103, 101], [98, 108, 111, 99, 107], [101, 120, 105, 116], [105, 102], [101, 108, 115, 101], [99, 104, 111, 111, 115, 101], [112, 97, 114], [99, 97, 108, 108], [118, 97, 114, 105, 97, 98, 108, 101], [97, 95, 49], [116, 119, 101, 110, 116, 121, 108, 101, 116, 116, 101, 114, 115, 95, 95, 95, 95, 95, 95, 95], [116, 119, 101, 110, 116, 121, 111, 110, 101, 108, 101, 116, 116, 101, 114, 115, 95, 95, 95, 95, 95]]
theorem wordS (h : Heap) : bsE (slT Try.prog 27) 20 [(0, (.string (Tx [118, 97, 114]))), (1, (.string (Tx [115, 116, 97, 99, 107]))), (2, (.string (Tx [112, 114, 111, 99]))), (3, (.string (Tx [115, 107, 105, 112]))), (4, (.string (Tx [100, 111]))), (5, (.string (Tx [112, 117, 115, 104]))), (6, (.string (Tx [114, 101, 118, 101, 114, 115, 101]))), (7, (.string (Tx [97, 99, 99, 101, 112, 116]))), (8, (.string (Tx [109, 101, 114, 103, 101]))), (9, (.string (Tx [98, 108, 111, 99, 107]))), (10, (.string (Tx [101, 120, 105, 116]))), (11, (.string (Tx [105, 102]))), (12, (.string (Tx [101, 108, 115, 101]))), (13, (.string (Tx [99, 104, 111, 111, 115, 101]))), (14, (.string (Tx [112, 97, 114]))), (15, (.string (Tx [99, 97, 108, 108]))), (16, (.string (Tx [118, 97, 114, 105, 97, 98, 108, 101]))), (17, (.string (Tx [97, 95, 49]))), (18, (.string (Tx [116, 119, 101, 110, 116, 121, 108, 101, 116, 116, 101, 114, 115, 95, 95, 95, 95, 95, 95, 95]))), (19, (.string (Tx [116, 119, 101, 110, 116, 121, 111, 110, 101, 108, 101, 116, 116, 101, 114, 115, 95, 95, 95, 95, 95])))] h = some (.slice (some ⟨h.next, 0, none⟩) 20 20, h.add (O (strC wordT) 9 false)) := by kernel_rfl
theorem sevenS (x0 x1 x2 x3 x4 x5 x6 : B) : bsC 7 9 h
      (fillQ (List.map (fun i => (i, 1)) (List.range 7)) (List.replicate 7 [Value.string (Tx [])]).flatten
        (Value.string (Tx x0))
        [(1, Value.string (Tx x1)), (2, Value.string (Tx x2)), (3, Value.string (Tx x3)), (4, Value.string (Tx x4)), (5, Value.string (Tx x5)), (6, Value.string (Tx x6))]
        (List.map (fun i => (i, 1)) (List.range 7))[0]?) = some (.slice (some ⟨h.next, 0, none⟩) 7 7, h.add (O (strC [x0, x1, x2, x3, x4, x5, x6]) 9 false)) := by kernel_rfl
theorem word_len {i : Nat} (hi : i < 20) : 0 < (wordT.getD i []).length ∧ (wordT.getD i []).length ≤ 21 := by
  have : ∀ t ∈ wordT, 0 < t.length ∧ t.length ≤ 21 := by decide
  have hl : i < wordT.length := hi
  rw [List.getD_eq_getElem?_getD, List.getElem?_eq_getElem hl]
  exact this _ (List.getElem_mem hl)
theorem cv_bt (l : B) (hl : l.length < 100000000000000) : cvE Try.prog 9 25 (.string (Tx l)) h = some (.slice (some ⟨h.next, 0, none⟩) l.length UC, h.add (O (bv (l.map fun x => ((x.toNat : Nat) : Int))) 5 true)) := by
  rw [cvE_bytes T_cnvT_9_25 (b := Tx l) (by rw [Tx_size]; exact hl)]
  simp only [bv, List.map_map]
  rfl

inductive I4 (h0 : Heap) (Ls : List B) (b : Nat) : Nat → S → Prop
  | mk (i : Nat) (iv : Int) (h : Heap) {x0 x1 x2 x3 x4 x5 x6 x7 x8 x9 x10 x11 x14 x15 x16 x17 x18 x19 x20 x21 x22 x23 x24 x25 x26 x27 x28 x29 x30 x31 x32 x33 x34 x35 x36 x37 x38 x39 x40 x41 x42 x43 x44 x45 x46 x47 x48 x49 x50 x51 x52 x53 x54 x55 x56 x57 x58 x59 x60 x61 x62 x63 x64 x65 x66 x67 x68 x69 x70 x71 x72 x73 x74 x75 x76 x77 x78 x79 x80 x81 x82 x83 x84 x85 x86 x87 x88 x89 x90 x91 : Value} (hiv : iv = (i : Int)) (hi : i ≤ 7) (hg : Gr h0 h) :
    I4 h0 Ls b (7 - i) ⟨(F92 x0 x1 x2 x3 x4 x5 x6 x7 x8 x9 x10 x11 (.slice (some ⟨b, 0, none⟩) 7 7) (.int .i64 iv) x14 x15 x16 x17 x18 x19 x20 x21 x22 x23 x24 x25 x26 x27 x28 x29 x30 x31 x32 x33 x34 x35 x36 x37 x38 x39 x40 x41 x42 x43 x44 x45 x46 x47 x48 x49 x50 x51 x52 x53 x54 x55 x56 x57 x58 x59 x60 x61 x62 x63 x64 x65 x66 x67 x68 x69 x70 x71 x72 x73 x74 x75 x76 x77 x78 x79 x80 x81 x82 x83 x84 x85 x86 x87 x88 x89 x90 x91), [], h⟩

theorem names_w (M : B) (n at_ by_ : Int) : CallE (pp G) 4 [.string (Tx M), .int .i64 n, .int .i64 at_, .int .u8 by_] h (fun v h' => v = .bool true) := by
  refine CallE.fir4 (good G) fir4 rfl rfl (F92_arr ..) fun hlo => ?_
  rw [sh_ir4]
  simp (disch := first | omega | (refine id ?_; simp only [push_cast]; done) | (refine id ?_; simp only [push_cast]; omega)) only [push_cast, Nat.reduceAdd, Nat.reduceMul, Nat.reduceSub, Nat.reduceLT, Nat.reduceEqDiff, Nat.reduceLeDiff, Int.reduceToNat, reduceCtorEq, Int.reduceLT, Int.reduceLE, Int.reduceAdd, Int.reduceSub, Int.reduceMul, Int.reduceNeg, Int.reduceEq]
  refine CallE.to (known_w G _) ?_
  rintro _ h1 ⟨rfl, hg1⟩
  have hn1 := hg1.next
  have hlo1 : h1.lo ≤ h1.next := by have := hg1.lo; omega
  simp (disch := first | omega | (refine id ?_; simp only [push_cast]; done) | (refine id ?_; simp only [push_cast]; omega)) only [push_cast, Nat.reduceAdd, Nat.reduceMul, Nat.reduceSub, Nat.reduceLT, Nat.reduceEqDiff, Nat.reduceLeDiff, Int.reduceToNat, reduceCtorEq, Int.reduceLT, Int.reduceLE, Int.reduceAdd, Int.reduceSub, Int.reduceMul, Int.reduceNeg, Int.reduceEq, Bool.not_true]
  by_cases hM : (100 : Int) < M.length
  · simp (disch := first | omega | (refine id ?_; simp only [push_cast]; done) | (refine id ?_; simp only [push_cast]; omega)) only [push_cast, Nat.reduceAdd, Nat.reduceMul, Nat.reduceSub, Nat.reduceLT, Nat.reduceEqDiff, Nat.reduceLeDiff, Int.reduceToNat, reduceCtorEq, Int.reduceLT, Int.reduceLE, Int.reduceAdd, Int.reduceSub, Int.reduceMul, Int.reduceNeg, Int.reduceEq, hM]
  simp (disch := first | omega | (refine id ?_; simp only [push_cast]; done) | (refine id ?_; simp only [push_cast]; omega)) only [push_cast, Nat.reduceAdd, Nat.reduceMul, Nat.reduceSub, Nat.reduceLT, Nat.reduceEqDiff, Nat.reduceLeDiff, Int.reduceToNat, reduceCtorEq, Int.reduceLT, Int.reduceLE, Int.reduceAdd, Int.reduceSub, Int.reduceMul, Int.reduceNeg, Int.reduceEq, hM, ↓wordS]
  refine CallE.to (within_w G _ n 20 (by omega) (by omega)) ?_
  rintro _ h2 ⟨rfl, hh2⟩
  have hW := Wi_range n 20 (by omega)
  obtain ⟨k, hk⟩ : ∃ k : Nat, Wi n 20 = (k : Int) := ⟨(Wi n 20).toNat, by omega⟩
  rw [hk]
  have hk20 : k < 20 := by omega
  have hk20' : (k : Int) < 20 := by omega
  have hc2 : cells h2 h1.next = some (strC wordT, 9, false) := by rw [hh2]; exact cells_add_s _ _ _ _ rfl
  have hlo2 : h2.lo = h1.lo := by rw [hh2]; simp only [push_cast]
  have hnx2 : h2.next = h1.next + 1 := by rw [hh2]; simp only [push_cast]
  have hg2 : Gr h1 h2 := by rw [hh2]; (repeat (first | exact Gr.refl _ | assumption | (refine Grew.put' ?_ _ _ (by first | omega | (simp only [push_cast]; omega))) | (refine Grew.add' ?_ _)))
  have hld2 : ldC (some (false, 0)) k h2.lo h1.next (cells h2 h1.next) = some (.string (Tx (wordT.getD k []))) := by
    rw [hc2, ldC_own _ _ _ _ _ _ _ _ (by rw [hlo2]; exact hlo1), partL_f]
    exact strC_get hk20
  obtain ⟨ws0, ws1⟩ := word_len hk20
  generalize wordT.getD k [] = s at hld2 ws0 ws1
  have hcb := cv_bt h2 s (by omega)
  simp (disch := first | omega | (refine id ?_; simp only [push_cast]; done) | (refine id ?_; simp only [push_cast]; omega)) only [push_cast, Nat.reduceAdd, Nat.reduceMul, Nat.reduceSub, Nat.reduceLT, Nat.reduceEqDiff, Nat.reduceLeDiff, Int.reduceToNat, reduceCtorEq, Int.reduceLT, Int.reduceLE, Int.reduceAdd, Int.reduceSub, Int.reduceMul, Int.reduceNeg, Int.reduceEq, hk20', Int.toNat_natCast, hld2, hcb]
  refine CallE.to (within_w G _ at_ (s.length : Int) (by omega) (by omega)) ?_
  rintro _ h3 ⟨rfl, hh3⟩
  obtain ⟨w0, w1⟩ := Wi_range at_ (s.length : Int) (by omega)
  generalize Wi at_ (s.length : Int) = wi at w0 w1
  have hc3 : cells h3 h2.next = some (bv (s.map fun x => ((x.toNat : Nat) : Int)), 5, true) := by rw [hh3]; exact cells_add_s _ _ _ _ rfl
  have hlo3 : h3.lo = h2.lo := by rw [hh3]; simp only [push_cast]
  have hgr3 : Gr h2 h3 := by rw [hh3]; (repeat (first | exact Gr.refl _ | assumption | (refine Grew.put' ?_ _ _ (by first | omega | (simp only [push_cast]; omega))) | (refine Grew.add' ?_ _)))
  have hZl : (s.map fun x => ((x.toNat : Nat) : Int)).length = s.length := by rw [List.length_map]
  generalize (s.map fun x => ((x.toNat : Nat) : Int)) = Z at hZl hc3 ⊢
  have hzg : (bv Z)[wi.toNat]? = some (.int .u8 (Z.getD wi.toNat 0)) := by
    rw [bv_get, List.getElem?_eq_getElem (by omega), List.getD_eq_getElem?_getD, List.getElem?_eq_getElem (by omega)]; rfl
  have hlo3' : h3.lo ≤ h2.next := by omega
  have hld : ldC (some (false, 0)) wi.toNat h3.lo h2.next (some (bv Z, 5, true)) = some (.int .u8 (Z.getD wi.toNat 0)) := by
    rw [ldC_own _ _ _ _ _ _ _ _ hlo3', partL_f, hzg]
  generalize Z.getD wi.toNat 0 = z at hld
  have hst : ∀ y : Int, stC 1 wi.toNat (.int .u8 y) h3 h2.next (some (bv Z, 5, true)) = some (undef, h3.put h2.next (O (setFrom (bv Z) wi.toNat [.int .u8 y]) 5 true)) :=
    fun y => stC_s 1 _ _ _ _ _ _ rfl rfl hlo3' (by rw [bv_len]; omega)
  simp (disch := first | omega | (refine id ?_; simp only [push_cast]; done) | (refine id ?_; simp only [push_cast]; omega)) only [push_cast, Nat.reduceAdd, Nat.reduceMul, Nat.reduceSub, Nat.reduceLT, Nat.reduceEqDiff, Nat.reduceLeDiff, Int.reduceToNat, reduceCtorEq, Int.reduceLT, Int.reduceLE, Int.reduceAdd, Int.reduceSub, Int.reduceMul, Int.reduceNeg, Int.reduceEq, w0, w1, hc3, hld, hst]
  generalize IntKind.u8.wrap (z + by_) = y
  have hZ2 : List.take wi.toNat (bv Z) ++ [Value.int IntKind.u8 y] ++ List.drop (wi.toNat + 1) (bv Z) = bv (Z.take wi.toNat ++ [y] ++ Z.drop (wi.toNat + 1)) := by
    simp only [bv_app, bv_take, bv_drop]; rfl
  have hZl2 : (Z.take wi.toNat ++ [y] ++ Z.drop (wi.toNat + 1)).length = s.length := by
    simp only [List.length_append, List.length_take, List.length_drop, List.length_cons, List.length_nil]; omega
  rw [hZ2]
  generalize Z.take wi.toNat ++ [y] ++ Z.drop (wi.toNat + 1) = Z2 at hZl2 ⊢
  have hgr4 : Gr h2 (h3.put h2.next (O (bv Z2) 5 true)) := hgr3.put' _ _ (Nat.le_refl _)
  have hc4 : cells (h3.put h2.next (O (bv Z2) 5 true)) h2.next = some (bv Z2, 5, true) := by rw [cells_put_s]
  have hlo4 : (h3.put h2.next (O (bv Z2) 5 true)).lo = h2.lo := by simp only [push_cast]; exact hlo3
  have hnx4 : h2.next + 1 = (h3.put h2.next (O (bv Z2) 5 true)).next := by rw [hh3]; simp only [push_cast]
  generalize h3.put h2.next (O (bv Z2) 5 true) = h4 at hgr4 hc4 hlo4 hnx4 ⊢
  have hsl : Sl h4 (some ⟨h2.next, 0, none⟩) (bv Z2) := Sl.row hc4 (by omega)
  have hcv : cvV Try.prog 25 9 (.slice (some ⟨h2.next, 0, none⟩) s.length UC) h4 = some (.string (txt Z2)) := cv_text T_cnvT_25_9 hsl hZl2
  have htx : txt Z2 = Tx (Z2.map fun c => UInt8.ofNat c.toNat) := rfl
  rw [htx] at hcv
  have htz : (Z2.map fun c => UInt8.ofNat c.toNat).length = s.length := by rw [List.length_map, hZl2]
  generalize (Z2.map fun c => UInt8.ofNat c.toNat) = T2 at hcv htz
  have hM1 : M.length ≤ 100 := by omega
  simp (disch := first | omega | (refine id ?_; simp only [push_cast]; done) | (refine id ?_; simp only [push_cast]; omega)) only [push_cast, Nat.reduceAdd, Nat.reduceMul, Nat.reduceSub, Nat.reduceLT, Nat.reduceEqDiff, Nat.reduceLeDiff, Int.reduceToNat, reduceCtorEq, Int.reduceLT, Int.reduceLE, Int.reduceAdd, Int.reduceSub, Int.reduceMul, Int.reduceNeg, Int.reduceEq, hcv, ws1, hM1]
  rw [sevenS]
  have hL0 : ∀ i : Nat, ([M, s, T2, [], [32], s ++ [32], 97 :: M].getD i []).length < 4611686018427387904 := by
    intro i
    match i with
    | 0 => show M.length < _; omega
    | 1 => show s.length < _; omega
    | 2 => show T2.length < _; omega
    | 3 => show 0 < _; omega
    | 4 => show 1 < _; omega
    | 5 => show (s ++ [32]).length < _; rw [List.length_append]; simp; omega
    | 6 => show (97 :: M).length < _; simp; omega
    | (n + 7) => show 0 < _; omega
  have hlen7 : [M, s, T2, [], [32], s ++ [32], 97 :: M].length = 7 := rfl
  generalize [M, s, T2, [], [32], s ++ [32], 97 :: M] = Ls at hL0 hlen7 ⊢
  have hlo4' : h4.lo ≤ h4.next := by omega
  simp (disch := first | omega | (refine id ?_; simp only [push_cast]; done) | (refine id ?_; simp only [push_cast]; omega)) only [push_cast, Nat.reduceAdd, Nat.reduceMul, Nat.reduceSub, Nat.reduceLT, Nat.reduceEqDiff, Nat.reduceLeDiff, Int.reduceToNat, reduceCtorEq, Int.reduceLT, Int.reduceLE, Int.reduceAdd, Int.reduceSub, Int.reduceMul, Int.reduceNeg, Int.reduceEq]
  refine W.loop4 (good G) (I4 (h4.add (O (strC Ls) 9 false)) Ls h4.next) ?_ _ _ (I4.mk 0 0 _ rfl (by omega) (Gr.refl _))
  intro k s1 hI
  cases hI with | mk i iv h5 hiv hi hg5 =>
  subst hiv
  rw [sh_ir4_s0]
  by_cases hlt : (i : Int) < 7
  · have hld : ∀ h' : Heap, Gr (h4.add (O (strC Ls) 9 false)) h' → ldC (some (false, 0)) i h'.lo h4.next (cells h' h4.next) = some (.string (Tx (Ls.getD i []))) := fun h' hg => by
      have hc : cells h' h4.next = some (strC Ls, 9, false) := hg.cells (cells_add_s _ _ _ _ rfl) (by simp only [push_cast]; omega)
      have hlo' : h'.lo ≤ h4.next := by rw [hg.lo]; simp only [push_cast]; exact hlo4'
      rw [hc, ldC_own _ _ _ _ _ _ _ _ hlo', partL_f]
      exact strC_get (by omega)
    have hLi := hL0 i
    have e5 := hld h5 hg5
    generalize Ls.getD i [] = L at hld hLi e5
    simp (disch := first | omega | (refine id ?_; simp only [push_cast]; done) | (refine id ?_; simp only [push_cast]; omega)) only [push_cast, Nat.reduceAdd, Nat.reduceMul, Nat.reduceSub, Nat.reduceLT, Nat.reduceEqDiff, Nat.reduceLeDiff, Int.reduceToNat, reduceCtorEq, Int.reduceLT, Int.reduceLE, Int.reduceAdd, Int.reduceSub, Int.reduceMul, Int.reduceNeg, Int.reduceEq, hlt, Int.toNat_natCast, e5]
    refine CallE.to (name_w G _ L hLi) ?_
    rintro _ h6 ⟨rfl, hg6⟩
    have hg6' := hg5.tr hg6
    have e6 := hld h6 hg6'
    simp (disch := first | omega | (refine id ?_; simp only [push_cast]; done) | (refine id ?_; simp only [push_cast]; omega)) only [push_cast, Nat.reduceAdd, Nat.reduceMul, Nat.reduceSub, Nat.reduceLT, Nat.reduceEqDiff, Nat.reduceLeDiff, Int.reduceToNat, reduceCtorEq, Int.reduceLT, Int.reduceLE, Int.reduceAdd, Int.reduceSub, Int.reduceMul, Int.reduceNeg, Int.reduceEq, hlt, Int.toNat_natCast, e6]
    refine CallE.to (rname_w G _ L hLi) ?_
    rintro _ _ ⟨rfl, e⟩
    rw [e]
    clear e
    simp (disch := first | omega | (refine id ?_; simp only [push_cast]; done) | (refine id ?_; simp only [push_cast]; omega)) only [push_cast, Nat.reduceAdd, Nat.reduceMul, Nat.reduceSub, Nat.reduceLT, Nat.reduceEqDiff, Nat.reduceLeDiff, Int.reduceToNat, reduceCtorEq, Int.reduceLT, Int.reduceLE, Int.reduceAdd, Int.reduceSub, Int.reduceMul, Int.reduceNeg, Int.reduceEq, hlt, Int.toNat_natCast, e6, beq_self_eq_true, Bool.not_true]
    refine CallE.to (key_w G _ L) ?_
    rintro _ _ ⟨rfl, e⟩
    rw [e]
    clear e
    simp (disch := first | omega | (refine id ?_; simp only [push_cast]; done) | (refine id ?_; simp only [push_cast]; omega)) only [push_cast, Nat.reduceAdd, Nat.reduceMul, Nat.reduceSub, Nat.reduceLT, Nat.reduceEqDiff, Nat.reduceLeDiff, Int.reduceToNat, reduceCtorEq, Int.reduceLT, Int.reduceLE, Int.reduceAdd, Int.reduceSub, Int.reduceMul, Int.reduceNeg, Int.reduceEq, hlt, Int.toNat_natCast, e6]
    refine CallE.to (rkey_w G _ L hLi) ?_
    rintro _ _ ⟨rfl, e⟩
    rw [e]
    clear e
    simp (disch := first | omega | (refine id ?_; simp only [push_cast]; done) | (refine id ?_; simp only [push_cast]; omega)) only [push_cast, Nat.reduceAdd, Nat.reduceMul, Nat.reduceSub, Nat.reduceLT, Nat.reduceEqDiff, Nat.reduceLeDiff, Int.reduceToNat, reduceCtorEq, Int.reduceLT, Int.reduceLE, Int.reduceAdd, Int.reduceSub, Int.reduceMul, Int.reduceNeg, Int.reduceEq, hlt, Int.toNat_natCast, e6, beq_self_eq_true, Bool.not_true]
    refine CallE.to (name_w G _ L hLi) ?_
    rintro _ h7 ⟨rfl, hg7⟩
    have hg7' := hg6'.tr hg7
    have e7 := hld h7 hg7'
    cases hnb : nameB L with
    | false =>
      simp (disch := first | omega | (refine id ?_; simp only [push_cast]; done) | (refine id ?_; simp only [push_cast]; omega)) only [push_cast, Nat.reduceAdd, Nat.reduceMul, Nat.reduceSub, Nat.reduceLT, Nat.reduceEqDiff, Nat.reduceLeDiff, Int.reduceToNat, reduceCtorEq, Int.reduceLT, Int.reduceLE, Int.reduceAdd, Int.reduceSub, Int.reduceMul, Int.reduceNeg, Int.reduceEq, hlt, Int.toNat_natCast, e7]
      exact ⟨_, by omega, I4.mk (i + 1) _ _ (by first | rfl | omega) (by omega) hg7'⟩
    | true =>
      have hnk : ¬ L ∈ keysL := fun h0 => by
        rw [nameB_no fun h1 => h1.2.2 h0] at hnb; cases hnb
      simp (disch := first | omega | (refine id ?_; simp only [push_cast]; done) | (refine id ?_; simp only [push_cast]; omega)) only [push_cast, Nat.reduceAdd, Nat.reduceMul, Nat.reduceSub, Nat.reduceLT, Nat.reduceEqDiff, Nat.reduceLeDiff, Int.reduceToNat, reduceCtorEq, Int.reduceLT, Int.reduceLE, Int.reduceAdd, Int.reduceSub, Int.reduceMul, Int.reduceNeg, Int.reduceEq, hlt, Int.toNat_natCast, e7]
      refine CallE.to (key_w G _ L) ?_
      rintro _ _ ⟨rfl, e⟩
      rw [e]
      clear e
      simp (disch := first | omega | (refine id ?_; simp only [push_cast]; done) | (refine id ?_; simp only [push_cast]; omega)) only [push_cast, Nat.reduceAdd, Nat.reduceMul, Nat.reduceSub, Nat.reduceLT, Nat.reduceEqDiff, Nat.reduceLeDiff, Int.reduceToNat, reduceCtorEq, Int.reduceLT, Int.reduceLE, Int.reduceAdd, Int.reduceSub, Int.reduceMul, Int.reduceNeg, Int.reduceEq, hlt, Int.toNat_natCast, e7, hnk, decide_false]
      exact ⟨_, by omega, I4.mk (i + 1) _ _ (by first | rfl | omega) (by omega) hg7'⟩
  · simp (disch := first | omega | (refine id ?_; simp only [push_cast]; done) | (refine id ?_; simp only [push_cast]; omega)) only [push_cast, Nat.reduceAdd, Nat.reduceMul, Nat.reduceSub, Nat.reduceLT, Nat.reduceEqDiff, Nat.reduceLeDiff, Int.reduceToNat, reduceCtorEq, Int.reduceLT, Int.reduceLE, Int.reduceAdd, Int.reduceSub, Int.reduceMul, Int.reduceNeg, Int.reduceEq, hlt]
end
end Go.Proofs.Ythjcdbbomfmphaa
