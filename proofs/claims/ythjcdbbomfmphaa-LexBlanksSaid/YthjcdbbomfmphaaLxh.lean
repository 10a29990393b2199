/-
  A part of the proof: what the program's functions hand back, as theorems. No condition but those that each theorem names.
-/
import Derived.Test.YthjcdbbomfmphaaLxc
set_option linter.unusedSimpArgs false
set_option linter.unusedVariables false
namespace Go.Proofs.Ythjcdbbomfmphaa
open Go.RowKit Go.Ev Go.Lx
noncomputable section
set_option linter.unusedSimpArgs false
set_option linter.unusedVariables false
variable (G : Nat) (h : Heap)

def rowT : List B := [[97], [112, 97, 121], [120, 49], [100, 111], [45, 62], [53], [49, 50, 48], [58, 61], [43], [45], [42], [47], [37], [61, 61], [33, 61], [60], [60, 61], [62], [62, 61], [38, 38], [124, 124], [33], [40], [41], [123], [125], [59], [105, 102], [101, 108, 115, 101], [115, 107, 105, 112], [112, 97, 114], [99, 97, 108, 108], [109, 97, 105, 110], [48]]
def gapT : List B := [[32], [10], [32], [9], [], [35, 32, 120, 10], [32, 32]]
def strC (l : List B) : List Value := l.map fun t => .string (Tx t)
theorem rowS (h : Heap) : bsE (slT Try.prog 27) 34 [(0, (.string (Tx [97]))), (1, (.string (Tx [112, 97, 121]))), (2, (.string (Tx [120, 49]))), (3, (.string (Tx [100, 111]))), (4, (.string (Tx [45, 62]))), (5, (.string (Tx [53]))), (6, (.string (Tx [49, 50, 48]))), (7, (.string (Tx [58, 61]))), (8, (.string (Tx [43]))), (9, (.string (Tx [45]))), (10, (.string (Tx [42]))), (11, (.string (Tx [47]))), (12, (.string (Tx [37]))), (13, (.string (Tx [61, 61]))), (14, (.string (Tx [33, 61]))), (15, (.string (Tx [60]))), (16, (.string (Tx [60, 61]))), (17, (.string (Tx [62]))), (18, (.string (Tx [62, 61]))), (19, (.string (Tx [38, 38]))), (20, (.string (Tx [124, 124]))), (21, (.string (Tx [33]))), (22, (.string (Tx [40]))), (23, (.string (Tx [41]))), (24, (.string (Tx [123]))), (25, (.string (Tx [125]))), (26, (.string (Tx [59]))), (27, (.string (Tx [105, 102]))), (28, (.string (Tx [101, 108, 115, 101]))), (29, (.string (Tx [115, 107, 105, 112]))), (30, (.string (Tx [112, 97, 114]))), (31, (.string (Tx [99, 97, 108, 108]))), (32, (.string (Tx [109, 97, 105, 110]))), (33, (.string (Tx [48])))] h = some (.slice (some ⟨h.next, 0, none⟩) 34 34, h.add (O (strC rowT) 9 false)) := by kernel_rfl
theorem gapS (h : Heap) : bsE (slT Try.prog 27) 7 [(0, (.string (Tx [32]))), (1, (.string (Tx [10]))), (2, (.string (Tx [32]))), (3, (.string (Tx [9]))), (4, (.string (Tx []))), (5, (.string (Tx [35, 32, 120, 10]))), (6, (.string (Tx [32, 32])))] h = some (.slice (some ⟨h.next, 0, none⟩) 7 7, h.add (O (strC gapT) 9 false)) := by kernel_rfl
theorem strC_get {l : List B} {i : Nat} (hi : i < l.length) : (strC l)[i]? = some (.string (Tx (l.getD i []))) := by
  simp only [strC, List.getElem?_map, List.getElem?_eq_getElem hi, Option.map_some, List.getD_eq_getElem?_getD, Option.getD_some]
theorem row_len (i : Nat) : (rowT.getD i []).length ≤ 4 := by
  rcases Nat.lt_or_ge i rowT.length with h | h
  · have : ∀ t ∈ rowT, t.length ≤ 4 := by decide
    rw [List.getD_eq_getElem?_getD, List.getElem?_eq_getElem h]
    exact this _ (List.getElem_mem h)
  · rw [List.getD_eq_getElem?_getD, List.getElem?_eq_none h]; simp
theorem gap_len (i : Nat) : (gapT.getD i []).length ≤ 4 := by
  rcases Nat.lt_or_ge i gapT.length with h | h
  · have : ∀ t ∈ gapT, t.length ≤ 4 := by decide
    rw [List.getD_eq_getElem?_getD, List.getElem?_eq_getElem h]
    exact this _ (List.getElem_mem h)
  · rw [List.getD_eq_getElem?_getD, List.getElem?_eq_none h]; simp
/-- numbers as cells -/
def ivs (xs : List Int) : List Value := xs.map (Value.int .i64)
theorem ivs_get {xs : List Int} {i : Nat} (hi : i < xs.length) : (ivs xs)[i]? = some (.int .i64 (xs.getD i 0)) := by
  simp only [ivs, List.getElem?_map, List.getElem?_eq_getElem hi, Option.map_some, List.getD_eq_getElem?_getD, Option.getD_some]
theorem ivs_len (xs : List Int) : (ivs xs).length = xs.length := by simp [ivs]

theorem Sl_ld {h : Heap} {b off : Nat} {cs : List Value} (hs : Sl h (some ⟨b, off, none⟩) cs) {i : Nat} {v : Value} (hv : cs[i]? = some v) :
    ldC (some (false, 0)) (off + i) h.lo b (cells h b) = some v := by
  obtain ⟨b', off', e, hl⟩ := hs.load T_knd_3 hv
  cases e
  rw [load_eq, T_knd_3] at hl
  exact hl

attribute [push_cast] List.length_append
inductive I14 (h : Heap) (a : Option Addr) (n c : Nat) : Nat → S → Prop
  | mk (i : Nat) (iv : Int) (T : B) (h1 : Heap) {x1 x2 x6 x7 x8 x9 x10 x11 x12 x13 x14 x15 x16 x17 x18 x19 x20 x21 x22 x23 x24 x25 x26 x27 x28 x29 x30 x31 x32 x33 x34 x35 x36 x37 x38 x39 : Value} (hiv : iv = (i : Int)) (hi : i ≤ 60) (hT : T.length ≤ 8 * i) (hgr : Gr h h1) (hnx : h.next < h1.next) (hc : cells h1 h.next = some (strC rowT, 9, false)) :
    I14 h a n c (60 - i) ⟨(F40 (.slice a n c) x1 x2 (.slice (some ⟨h.next, 0, none⟩) 34 34) (.string (Tx T)) (.int .i64 iv) x6 x7 x8 x9 x10 x11 x12 x13 x14 x15 x16 x17 x18 x19 x20 x21 x22 x23 x24 x25 x26 x27 x28 x29 x30 x31 x32 x33 x34 x35 x36 x37 x38 x39), [], h1⟩

theorem row_w (xs : List Int) (a : Option Addr) (c : Nat) (hs : Sl h a (ivs xs)) (hb : ∀ b, blk a b → b < h.next) :
    CallE (pp G) 14 [.slice a xs.length c] h (fun v h' => ∃ T : B, v = .string (Tx T) ∧ T.length ≤ 480 ∧ Gr h h') := by
  refine CallE.fir4 (good G) fir14 rfl rfl (F40_arr ..) fun hlo => ?_
  rw [sh_ir14]
  simp (disch := first | omega | (refine id ?_; simp only [push_cast]; done) | (refine id ?_; simp only [push_cast]; omega)) only [push_cast, Nat.reduceAdd, Nat.reduceMul, Nat.reduceSub, Nat.reduceLT, Nat.reduceEqDiff, Nat.reduceLeDiff, Int.reduceToNat, reduceCtorEq, Int.reduceLT, Int.reduceLE, Int.reduceAdd, Int.reduceSub, Int.reduceMul, Int.reduceNeg, Int.reduceEq, rowS]
  refine W.loop4 (good G) (I14 h a xs.length c) ?_ _ _ (I14.mk 0 0 [] _ rfl (by omega) (by simp) ((Gr.refl h).add' _) (by rw [next_add]; omega) (cells_add_s _ _ _ _ rfl))
  intro k s1 hI
  cases hI with | mk i iv T h1 hiv hi hT hgr hnx hc
  subst hiv
  rw [sh_ir14_s0]
  by_cases h60 : (i : Int) < 60
  · by_cases hlt : (i : Int) < xs.length
    · have hix : i < xs.length := by omega
      have hsl := Gr.slE hgr hs hb
      obtain ⟨b, off, rfl, _⟩ := hsl.load T_knd_3 (ivs_get hix)
      have hld := Sl_ld hsl (ivs_get hix)
      have hbn : b < h.next := hb b ⟨off, none, rfl⟩
      have hxl : (xs.length : Int) ≤ 9223372036854775807 ∨ True := .inr trivial
      have hr1 := Wi_range (xs.getD i 0) 34 (by omega)
      have hr2 := Wi_range (IntKind.i64.wrap ((xs.getD i 0).tdiv 40)) 7 (by omega)
      obtain ⟨k1, hk1⟩ : ∃ k : Nat, Wi (xs.getD i 0) 34 = k := ⟨(Wi (xs.getD i 0) 34).toNat, by omega⟩
      obtain ⟨k2, hk2⟩ : ∃ k : Nat, Wi (IntKind.i64.wrap ((xs.getD i 0).tdiv 40)) 7 = k := ⟨(Wi (IntKind.i64.wrap ((xs.getD i 0).tdiv 40)) 7).toNat, by omega⟩
      have g1 : (strC rowT)[k1]? = some (.string (Tx (rowT.getD k1 []))) := strC_get (by show k1 < 34; omega)
      have g2 : (strC gapT)[k2]? = some (.string (Tx (gapT.getD k2 []))) := strC_get (by show k2 < 7; omega)
      have l1 := row_len k1
      have l2 := gap_len k2
      have hl1 : h1.lo = h.lo := hgr.lo
      rw [hl1] at hld
      have hn34 : k1 < 34 := by omega
      have hn7 : k2 < 7 := by omega
      have hnb : b < h1.next := by omega
      simp (disch := first | omega | (refine id ?_; simp only [push_cast]; done) | (refine id ?_; simp only [push_cast]; omega)) only [push_cast, Nat.reduceAdd, Nat.reduceMul, Nat.reduceSub, Nat.reduceLT, Nat.reduceEqDiff, Nat.reduceLeDiff, Int.reduceToNat, reduceCtorEq, Int.reduceLT, Int.reduceLE, Int.reduceAdd, Int.reduceSub, Int.reduceMul, Int.reduceNeg, Int.reduceEq, h60, hlt, Int.toNat_natCast, hld, ↓gapS, hl1]
      refine ⟨?_, ?_⟩
      · refine CallE.to (within_w G _ _ _ (by omega) (by omega)) ?_; rintro _ _ ⟨rfl, rfl⟩
        rw [hk1]
        simp (disch := first | omega | (refine id ?_; simp only [push_cast]; done) | (refine id ?_; simp only [push_cast]; omega)) only [push_cast, Nat.reduceAdd, Nat.reduceMul, Nat.reduceSub, Nat.reduceLT, Nat.reduceEqDiff, Nat.reduceLeDiff, Int.reduceToNat, reduceCtorEq, Int.reduceLT, Int.reduceLE, Int.reduceAdd, Int.reduceSub, Int.reduceMul, Int.reduceNeg, Int.reduceEq, Int.toNat_natCast, hld, ↓gapS, hc, g1, g2, hl1]
        refine ⟨?_, ?_⟩
        · refine CallE.to (within_w G _ _ _ (by omega) (by omega)) ?_; rintro _ _ ⟨rfl, rfl⟩
          rw [hk2]
          simp (disch := first | omega | (refine id ?_; simp only [push_cast]; done) | (refine id ?_; simp only [push_cast]; omega)) only [push_cast, Nat.reduceAdd, Nat.reduceMul, Nat.reduceSub, Nat.reduceLT, Nat.reduceEqDiff, Nat.reduceLeDiff, Int.reduceToNat, reduceCtorEq, Int.reduceLT, Int.reduceLE, Int.reduceAdd, Int.reduceSub, Int.reduceMul, Int.reduceNeg, Int.reduceEq, Int.toNat_natCast, hld, ↓gapS, hc, g1, g2, hl1]
          exact ⟨_, by omega, I14.mk (i + 1) _ (T ++ rowT.getD k1 [] ++ gapT.getD k2 []) _ (by first | rfl | omega) (by omega) (by simp only [List.length_append]; omega) (hgr.add' _) (by rw [next_add]; omega) (by rw [cells_add_n _ _ (by omega)]; exact hc)⟩
        · refine CallE.to (within_w G _ _ _ (by omega) (by omega)) ?_; rintro _ _ ⟨rfl, rfl⟩
          rw [hk2]
          simp (disch := first | omega | (refine id ?_; simp only [push_cast]; done) | (refine id ?_; simp only [push_cast]; omega)) only [push_cast, Nat.reduceAdd, Nat.reduceMul, Nat.reduceSub, Nat.reduceLT, Nat.reduceEqDiff, Nat.reduceLeDiff, Int.reduceToNat, reduceCtorEq, Int.reduceLT, Int.reduceLE, Int.reduceAdd, Int.reduceSub, Int.reduceMul, Int.reduceNeg, Int.reduceEq, Int.toNat_natCast, hld, ↓gapS, hc, g1, g2, hl1]
          exact ⟨_, by omega, I14.mk (i + 1) _ (T ++ rowT.getD k1 [] ++ gapT.getD k2 []) _ (by first | rfl | omega) (by omega) (by simp only [List.length_append]; omega) (hgr.add' _) (by rw [next_add]; omega) (by rw [cells_add_n _ _ (by omega)]; exact hc)⟩
      · refine CallE.to (within_w G _ _ _ (by omega) (by omega)) ?_; rintro _ _ ⟨rfl, rfl⟩
        rw [hk1]
        simp (disch := first | omega | (refine id ?_; simp only [push_cast]; done) | (refine id ?_; simp only [push_cast]; omega)) only [push_cast, Nat.reduceAdd, Nat.reduceMul, Nat.reduceSub, Nat.reduceLT, Nat.reduceEqDiff, Nat.reduceLeDiff, Int.reduceToNat, reduceCtorEq, Int.reduceLT, Int.reduceLE, Int.reduceAdd, Int.reduceSub, Int.reduceMul, Int.reduceNeg, Int.reduceEq, Int.toNat_natCast, hld, ↓gapS, hc, g1, g2, hl1]
        refine CallE.to (within_w G _ _ _ (by omega) (by omega)) ?_; rintro _ _ ⟨rfl, rfl⟩
        rw [hk2]
        simp (disch := first | omega | (refine id ?_; simp only [push_cast]; done) | (refine id ?_; simp only [push_cast]; omega)) only [push_cast, Nat.reduceAdd, Nat.reduceMul, Nat.reduceSub, Nat.reduceLT, Nat.reduceEqDiff, Nat.reduceLeDiff, Int.reduceToNat, reduceCtorEq, Int.reduceLT, Int.reduceLE, Int.reduceAdd, Int.reduceSub, Int.reduceMul, Int.reduceNeg, Int.reduceEq, Int.toNat_natCast, hld, ↓gapS, hc, g1, g2, hl1]
        exact ⟨_, by omega, I14.mk (i + 1) _ (T ++ rowT.getD k1 [] ++ gapT.getD k2 []) _ (by first | rfl | omega) (by omega) (by simp only [List.length_append]; omega) (hgr.add' _) (by rw [next_add]; omega) (by rw [cells_add_n _ _ (by omega)]; exact hc)⟩
    · simp (disch := first | omega | (refine id ?_; simp only [push_cast]; done) | (refine id ?_; simp only [push_cast]; omega)) only [push_cast, Nat.reduceAdd, Nat.reduceMul, Nat.reduceSub, Nat.reduceLT, Nat.reduceEqDiff, Nat.reduceLeDiff, Int.reduceToNat, reduceCtorEq, Int.reduceLT, Int.reduceLE, Int.reduceAdd, Int.reduceSub, Int.reduceMul, Int.reduceNeg, Int.reduceEq, hlt]
      exact ⟨T, rfl, by omega, hgr⟩
  · by_cases hlt : (i : Int) < xs.length
    · simp (disch := first | omega | (refine id ?_; simp only [push_cast]; done) | (refine id ?_; simp only [push_cast]; omega)) only [push_cast, Nat.reduceAdd, Nat.reduceMul, Nat.reduceSub, Nat.reduceLT, Nat.reduceEqDiff, Nat.reduceLeDiff, Int.reduceToNat, reduceCtorEq, Int.reduceLT, Int.reduceLE, Int.reduceAdd, Int.reduceSub, Int.reduceMul, Int.reduceNeg, Int.reduceEq, hlt, h60]
      exact ⟨T, rfl, by omega, hgr⟩
    · simp (disch := first | omega | (refine id ?_; simp only [push_cast]; done) | (refine id ?_; simp only [push_cast]; omega)) only [push_cast, Nat.reduceAdd, Nat.reduceMul, Nat.reduceSub, Nat.reduceLT, Nat.reduceEqDiff, Nat.reduceLeDiff, Int.reduceToNat, reduceCtorEq, Int.reduceLT, Int.reduceLE, Int.reduceAdd, Int.reduceSub, Int.reduceMul, Int.reduceNeg, Int.reduceEq, hlt]
      exact ⟨T, rfl, by omega, hgr⟩
end
end Go.Proofs.Ythjcdbbomfmphaa

namespace Go.Proofs.Ythjcdbbomfmphaa
open Go.RowKit Go.Ev Go.Lx
noncomputable section
set_option linter.unusedSimpArgs false
set_option linter.unusedVariables false
variable (G : Nat) (h : Heap)

theorem key_do : CallE (pp G) 21 [.string (Tx [100, 111])] h (fun v h' => v = .bool true ∧ h' = h) := by
  refine CallE.fir4 (good G) fir21 rfl rfl (F21_arr ..) fun hlo => ?_
  rw [sh_ir21]
  simp +decide (disch := first | omega | (refine id ?_; simp only [push_cast]; done) | (refine id ?_; simp only [push_cast]; omega)) only [push_cast, Nat.reduceAdd, Nat.reduceMul, Nat.reduceSub, Nat.reduceLT, Nat.reduceEqDiff, Nat.reduceLeDiff, Int.reduceToNat, reduceCtorEq, Int.reduceLT, Int.reduceLE, Int.reduceAdd, Int.reduceSub, Int.reduceMul, Int.reduceNeg, Int.reduceEq, if_true]
theorem key_a1 : CallE (pp G) 21 [.string (Tx [97, 49])] h (fun v h' => v = .bool false ∧ h' = h) := by
  refine CallE.fir4 (good G) fir21 rfl rfl (F21_arr ..) fun hlo => ?_
  rw [sh_ir21]
  simp +decide (disch := first | omega | (refine id ?_; simp only [push_cast]; done) | (refine id ?_; simp only [push_cast]; omega)) only [push_cast, Nat.reduceAdd, Nat.reduceMul, Nat.reduceSub, Nat.reduceLT, Nat.reduceEqDiff, Nat.reduceLeDiff, Int.reduceToNat, reduceCtorEq, Int.reduceLT, Int.reduceLE, Int.reduceAdd, Int.reduceSub, Int.reduceMul, Int.reduceNeg, Int.reduceEq, if_true]
theorem name_a1 : CallE (pp G) 19 [.string (Tx [97, 49])] h (fun v h' => v = .bool true ∧ Gr h h') := by
  refine CallE.fir4 (good G) fir19 rfl rfl (F25_arr ..) fun hlo => ?_
  rw [sh_ir19]
  simp +decide (disch := first | omega | (refine id ?_; simp only [push_cast]; done) | (refine id ?_; simp only [push_cast]; omega)) only [push_cast, Nat.reduceAdd, Nat.reduceMul, Nat.reduceSub, Nat.reduceLT, Nat.reduceEqDiff, Nat.reduceLeDiff, Int.reduceToNat, reduceCtorEq, Int.reduceLT, Int.reduceLE, Int.reduceAdd, Int.reduceSub, Int.reduceMul, Int.reduceNeg, Int.reduceEq, if_true]
  refine CallE.to (key_a1 G _) ?_; rintro _ _ ⟨rfl, rfl⟩
  simp +decide (disch := first | omega | (refine id ?_; simp only [push_cast]; done) | (refine id ?_; simp only [push_cast]; omega)) only [push_cast, Nat.reduceAdd, Nat.reduceMul, Nat.reduceSub, Nat.reduceLT, Nat.reduceEqDiff, Nat.reduceLeDiff, Int.reduceToNat, reduceCtorEq, Int.reduceLT, Int.reduceLE, Int.reduceAdd, Int.reduceSub, Int.reduceMul, Int.reduceNeg, Int.reduceEq, if_true]
  have hb : bt [97, 49] 0 = 97 := by decide
  have hw : IntKind.i32.wrap 97 = 97 := by decide
  rw [hb]
  rw [cv_int T_cnvT_5_21, hw]
  simp (disch := first | omega | (refine id ?_; simp only [push_cast]; done) | (refine id ?_; simp only [push_cast]; omega)) only [push_cast, Nat.reduceAdd, Nat.reduceMul, Nat.reduceSub, Nat.reduceLT, Nat.reduceEqDiff, Nat.reduceLeDiff, Int.reduceToNat, reduceCtorEq, Int.reduceLT, Int.reduceLE, Int.reduceAdd, Int.reduceSub, Int.reduceMul, Int.reduceNeg, Int.reduceEq]
  refine CallE.to (small_w G _ _) ?_; rintro _ _ ⟨rfl, rfl⟩
  have hq : qsmall 97 = true := by decide
  rw [hq]
  simp (disch := first | omega | (refine id ?_; simp only [push_cast]; done) | (refine id ?_; simp only [push_cast]; omega)) only [push_cast, Nat.reduceAdd, Nat.reduceMul, Nat.reduceSub, Nat.reduceLT, Nat.reduceEqDiff, Nat.reduceLeDiff, Int.reduceToNat, reduceCtorEq, Int.reduceLT, Int.reduceLE, Int.reduceAdd, Int.reduceSub, Int.reduceMul, Int.reduceNeg, Int.reduceEq]
  refine CallE.to (front_w G _ _ 31 kind_wordy (fun r h => wordy_w G h r)) ?_
  rintro _ h1 ⟨rfl, hg1⟩
  have hf : front wordy [97, 49] = 2 := by decide
  rw [hf]
  simp +decide (disch := first | omega | (refine id ?_; simp only [push_cast]; done) | (refine id ?_; simp only [push_cast]; omega)) only [push_cast, Nat.reduceAdd, Nat.reduceMul, Nat.reduceSub, Nat.reduceLT, Nat.reduceEqDiff, Nat.reduceLeDiff, Int.reduceToNat, reduceCtorEq, Int.reduceLT, Int.reduceLE, Int.reduceAdd, Int.reduceSub, Int.reduceMul, Int.reduceNeg, Int.reduceEq, if_true]
  exact hg1
theorem ex1 : signs [97, 49, 32, 60, 61, 50] = .ok [⟨1, [97, 49], 0⟩, ⟨3, [60, 61], 3⟩, ⟨2, [50], 5⟩] := by
  unfold signs
  rw [if_neg (by decide), sg_cons, if_neg (by decide), if_neg (by decide), show Lx.one [97, 49, 32, 60, 61, 50] = .ok 1 2 by kernel_rfl]
  show (sg 2 [32, 60, 61, 50]).more _ = _
  rw [sg_cons, if_pos (by decide)]
  rw [sg_cons, if_neg (by decide), if_neg (by decide), show Lx.one [60, 61, 50] = .ok 3 2 by kernel_rfl]
  show ((sg 5 [50]).more _).more _ = _
  rw [sg_cons, if_neg (by decide), if_neg (by decide), show Lx.one [50] = .ok 2 1 by kernel_rfl]
  show (((sg 6 []).more _).more _).more _ = _
  rw [sg_nil]
  rfl
theorem ex2 : signs [97, 32, 36] = .bad 2 1 := by
  unfold signs
  rw [if_neg (by decide), sg_cons, if_neg (by decide), if_neg (by decide), show Lx.one [97, 32, 36] = .ok 1 1 by kernel_rfl]
  show (sg 1 [32, 36]).more _ = _
  rw [sg_cons, if_pos (by decide)]
  rw [sg_cons, if_neg (by decide), if_neg (by decide), show Lx.one [36] = .bad 1 by kernel_rfl]
  rfl

theorem known_w : CallE (pp G) 13 [] h (fun v h' => v = .bool true ∧ Gr h h') := by
  refine CallE.fir4 (good G) fir13 rfl rfl (F59_arr ..) fun hlo => ?_
  rw [sh_ir13]
  simp (disch := first | omega | (refine id ?_; simp only [push_cast]; done) | (refine id ?_; simp only [push_cast]; omega)) only [push_cast, Nat.reduceAdd, Nat.reduceMul, Nat.reduceSub, Nat.reduceLT, Nat.reduceEqDiff, Nat.reduceLeDiff, Int.reduceToNat, reduceCtorEq, Int.reduceLT, Int.reduceLE, Int.reduceAdd, Int.reduceSub, Int.reduceMul, Int.reduceNeg, Int.reduceEq]
  refine CallE.to (signs_w G _ _ (by decide)) ?_
  rw [ex1]
  rintro v h1 ⟨hg1, a, c, rfl, hown, hblk⟩
  simp (disch := first | omega | (refine id ?_; simp only [push_cast]; done) | (refine id ?_; simp only [push_cast]; omega)) only [push_cast, Nat.reduceAdd, Nat.reduceMul, Nat.reduceSub, Nat.reduceLT, Nat.reduceEqDiff, Nat.reduceLeDiff, Int.reduceToNat, reduceCtorEq, Int.reduceLT, Int.reduceLE, Int.reduceAdd, Int.reduceSub, Int.reduceMul, Int.reduceNeg, Int.reduceEq]
  refine CallE.to (signs_w G _ _ (by decide)) ?_
  rw [ex2]
  rintro v h2 ⟨hg2, rfl⟩
  have hown2 := Gr.ownE hg2 hown
  obtain ⟨b, m, rfl, hb1, hb2, hb3, _⟩ : ∃ b m, a = some ⟨b, 0, none⟩ ∧ h2.lo ≤ b ∧ b < h2.next ∧ cells h2 b = some (sgC [⟨1, [97, 49], 0⟩, ⟨3, [60, 61], 3⟩, ⟨2, [50], 5⟩], 39, m) ∧ True := by
    rcases hown2.hat with ⟨_, h0, _⟩ | ⟨b, m, ha, h1, h3, h4, _⟩
    · simp at h0
    · exact ⟨b, m, ha, h1, h3, h4, trivial⟩
  simp only [sgC] at hb3
  simp (disch := first | omega | (refine id ?_; simp only [push_cast]; done) | (refine id ?_; simp only [push_cast]; omega)) only [push_cast, Nat.reduceAdd, Nat.reduceMul, Nat.reduceSub, Nat.reduceLT, Nat.reduceEqDiff, Nat.reduceLeDiff, Int.reduceToNat, reduceCtorEq, Int.reduceLT, Int.reduceLE, Int.reduceAdd, Int.reduceSub, Int.reduceMul, Int.reduceNeg, Int.reduceEq, hb3]
  refine CallE.to (name_a1 G _) ?_
  rintro _ h3 ⟨rfl, hg3⟩
  simp (disch := first | omega | (refine id ?_; simp only [push_cast]; done) | (refine id ?_; simp only [push_cast]; omega)) only [push_cast, Nat.reduceAdd, Nat.reduceMul, Nat.reduceSub, Nat.reduceLT, Nat.reduceEqDiff, Nat.reduceLeDiff, Int.reduceToNat, reduceCtorEq, Int.reduceLT, Int.reduceLE, Int.reduceAdd, Int.reduceSub, Int.reduceMul, Int.reduceNeg, Int.reduceEq]
  refine CallE.to (key_do G _) ?_; rintro _ _ ⟨rfl, rfl⟩
  simp (disch := first | omega | (refine id ?_; simp only [push_cast]; done) | (refine id ?_; simp only [push_cast]; omega)) only [push_cast, Nat.reduceAdd, Nat.reduceMul, Nat.reduceSub, Nat.reduceLT, Nat.reduceEqDiff, Nat.reduceLeDiff, Int.reduceToNat, reduceCtorEq, Int.reduceLT, Int.reduceLE, Int.reduceAdd, Int.reduceSub, Int.reduceMul, Int.reduceNeg, Int.reduceEq]
  exact (hg1.tr hg2).tr hg3
end
end Go.Proofs.Ythjcdbbomfmphaa

namespace Go.Proofs.Ythjcdbbomfmphaa
open Go.RowKit Go.Ev Go.Lx
noncomputable section
set_option linter.unusedSimpArgs false
set_option linter.unusedVariables false
variable (G : Nat) (h : Heap)

/-- what a text's signs are, one by one -/
def Step (p : Nat) (l : B) : Prop := match sg p l with
  | .bad _ _ => True
  | .ok [] => goneB l = true
  | .ok (x :: r) => p ≤ x.at_ ∧ (x.at_ - p) + x.t.length ≤ l.length ∧ 1 ≤ x.t.length ∧ (l.drop (x.at_ - p)).take x.t.length = x.t ∧ goneB (l.take (x.at_ - p)) = true ∧ sg (x.at_ + x.t.length) (l.drop (x.at_ - p + x.t.length)) = .ok r

theorem drop_front (r : B) : r.drop (front notNl r) = [] ∨ ∃ c r', r.drop (front notNl r) = c :: r' ∧ c.toNat = 10 ∧ r' = r.drop (front notNl r + 1) := by
  rcases Nat.lt_or_ge (front notNl r) r.length with h1 | h1
  · right
    have h2 := front_end notNl r h1
    unfold notNl at h2
    simp only [decide_eq_false_iff_not, ne_eq, Classical.not_not] at h2
    exact ⟨_, _, sg_at h1, h2, rfl⟩
  · left; exact List.drop_eq_nil_of_le h1
theorem front_take (p : UInt8 → Bool) : ∀ (r y : B), (∀ c y', y = c :: y' → p c = false) → front p (r.take (front p r) ++ y) = front p r
  | [], y, hy => by
    cases y with
    | nil => rfl
    | cons c y' => simp [front_nil, front_cons, hy c y' rfl]
  | a :: r, y, hy => by
    rw [front_cons]
    cases ha : p a with
    | true => simp only [if_true, List.take_succ_cons, List.cons_append, front_cons, ha]; rw [front_take p r y hy]
    | false =>
      simp only [Bool.false_eq_true, if_false, List.take_zero, List.nil_append]
      cases y with
      | nil => rfl
      | cons c y' => simp [front_cons, hy c y' rfl]

theorem sg_step : ∀ (n : Nat) (p : Nat) (l : B), l.length ≤ n → Step p l := by
  intro n
  induction n with
  | zero =>
    intro p l hl
    have : l = [] := List.length_eq_zero_iff.1 (by omega)
    subst this
    simp only [Step, sg_nil, goneB_nil]
  | succ n ih =>
    intro p l hl
    cases l with
    | nil => simp only [Step, sg_nil, goneB_nil]
    | cons c r =>
      simp only [List.length_cons] at hl
      unfold Step
      rw [sg_cons]
      by_cases hb : blankC c = true
      · rw [if_pos hb]
        have h35 : ¬ c.toNat = 35 := by unfold blankC at hb; simp only [decide_eq_true_eq] at hb; omega
        have h1 := ih (p + 1) r (by omega)
        unfold Step at h1
        split
        · trivial
        · rename_i he
          rw [he] at h1
          rw [goneB_cons, if_neg h35, if_pos hb]; exact h1
        · rename_i x r' he
          rw [he] at h1
          obtain ⟨g1, g2, g3, g4, g5, g6⟩ := h1
          have e : x.at_ - p = (x.at_ - (p + 1)) + 1 := by omega
          refine ⟨by omega, by simp only [List.length_cons]; omega, g3, ?_, ?_, ?_⟩
          · rw [e, List.drop_succ_cons]; exact g4
          · rw [e, List.take_succ_cons, goneB_cons, if_neg h35, if_pos hb]; exact g5
          · rw [e, show x.at_ - (p + 1) + 1 + x.t.length = (x.at_ - (p + 1) + x.t.length) + 1 by omega, List.drop_succ_cons]; exact g6
      · rw [if_neg hb]
        by_cases h35 : c.toNat = 35
        · rw [if_pos h35]
          have hF := front_le notNl r
          have h1 := ih (p + 1 + front notNl r) (r.drop (front notNl r)) (by rw [List.length_drop]; omega)
          unfold Step at h1
          have hd := drop_front r
          split
          · trivial
          · rename_i he
            rw [he] at h1
            rw [goneB_cons, if_pos h35]
            rcases hd with h2 | ⟨c', r', h2, h3, h4⟩
            · rw [List.drop_eq_nil_of_le (by have := List.drop_eq_nil_iff.1 h2; omega), goneB_nil]
            · rw [h2, goneB_cons, if_neg (by omega), if_pos (by unfold blankC; simp only [decide_eq_true_eq]; omega), h4] at h1
              exact h1
          · rename_i x r' he
            rw [he] at h1
            obtain ⟨g1, g2, g3, g4, g5, g6⟩ := h1
            simp only [List.length_drop] at g2
            have e : x.at_ - p = (x.at_ - (p + 1 + front notNl r)) + front notNl r + 1 := by omega
            rw [List.drop_drop] at g4 g6
            refine ⟨by omega, by simp only [List.length_cons]; omega, g3, ?_, ?_, ?_⟩
            · rw [e, List.drop_succ_cons, show x.at_ - (p + 1 + front notNl r) + front notNl r = front notNl r + (x.at_ - (p + 1 + front notNl r)) by omega]; exact g4
            · rw [e, List.take_succ_cons, goneB_cons, if_pos h35]
              generalize hdd : x.at_ - (p + 1 + front notNl r) = d at *
              have et : r.take (d + front notNl r) = r.take (front notNl r) ++ (r.drop (front notNl r)).take d := by
                rw [Nat.add_comm, List.take_add]
              rw [et]
              have hy : ∀ c y', (r.drop (front notNl r)).take d = c :: y' → notNl c = false := by
                intro c y' hc
                rcases hd with h2 | ⟨c', r', h2, h3, _⟩
                · rw [h2] at hc; simp at hc
                · rw [h2] at hc
                  cases d with
                  | zero => simp at hc
                  | succ d => rw [List.take_succ_cons] at hc; cases hc; unfold notNl; simp [h3]
              rw [front_take notNl r _ hy]
              have hlen : (r.take (front notNl r)).length = front notNl r := by rw [List.length_take]; omega
              rw [List.drop_append, hlen, List.drop_eq_nil_of_le (by rw [hlen]; omega), List.nil_append, show front notNl r + 1 - front notNl r = 1 by omega]
              rcases hd with h2 | ⟨c', r', h2, h3, h4⟩
              · rw [h2]; simp [goneB_nil]
              · rw [h2] at g5 ⊢
                cases d with
                | zero => simp [goneB_nil]
                | succ d =>
                  rw [List.take_succ_cons, goneB_cons, if_neg (by omega), if_pos (by unfold blankC; simp only [decide_eq_true_eq]; omega)] at g5
                  rw [List.take_succ_cons, List.drop_succ_cons, List.drop_zero]
                  exact g5
            · rw [e, show x.at_ - (p + 1 + front notNl r) + front notNl r + 1 + x.t.length = (front notNl r + (x.at_ - (p + 1 + front notNl r) + x.t.length)) + 1 by omega, List.drop_succ_cons]; exact g6
        · rw [if_neg h35]
          cases hone : Lx.one (c :: r) with
          | bad e => trivial
          | ok k n' =>
            have hlen := one_len hone (by simp)
            simp only [List.length_cons] at hlen
            have htl : ((c :: r).take n').length = n' := by rw [List.length_take]; simp only [List.length_cons]; omega
            dsimp only
            cases hs : sg (p + n') (r.drop (n' - 1)) with
            | bad p' e => trivial
            | ok r' =>
              simp only [Res.more, Nat.sub_self, List.drop_zero, List.take_zero, Nat.zero_add, htl]
              refine ⟨Nat.le_refl _, by simp only [List.length_cons]; omega, hlen.1, trivial, goneB_nil, ?_⟩
              rw [← hs]
              obtain ⟨m, rfl⟩ : ∃ m, n' = m + 1 := ⟨n' - 1, by omega⟩
              rfl
end
end Go.Proofs.Ythjcdbbomfmphaa

namespace Go.Proofs.Ythjcdbbomfmphaa
open Go.RowKit Go.Ev Go.Lx
noncomputable section
set_option linter.unusedSimpArgs false
set_option linter.unusedVariables false
variable (G : Nat) (h : Heap)

theorem sgC_at : ∀ (l : List Sgn) (i : Nat) (x : Sgn) (r : List Sgn), l.drop i = x :: r → i * 3 + 3 ≤ (sgC l).length ∧ ((sgC l).drop (i * 3)).take 3 = [.int .i64 x.k, .string (Tx x.t), .int .i64 x.at_]
  | [], i, x, r, h => by simp at h
  | y :: l, 0, x, r, h => by
    cases h
    simp [sgC]
  | y :: l, i + 1, x, r, h => by
    have := sgC_at l i x r (by simpa using h)
    simp only [sgC, List.length_cons]
    rw [show (i + 1) * 3 = i * 3 + 1 + 1 + 1 by omega]
    simp only [List.drop_succ_cons]
    exact ⟨by omega, this.2⟩

theorem sg_bad_ne : ∀ (n p : Nat) (l : B) (q e : Nat), l.length ≤ n → sg p l = .bad q e → e ≠ 0 := by
  intro n
  induction n with
  | zero =>
    intro p l q e hl h
    have : l = [] := List.length_eq_zero_iff.1 (by omega)
    subst this
    rw [sg_nil] at h; cases h
  | succ n ih =>
    intro p l q e hl h
    cases l with
    | nil => rw [sg_nil] at h; cases h
    | cons c r =>
      simp only [List.length_cons] at hl
      rw [sg_cons] at h
      split at h
      · exact ih _ _ _ _ (by omega) h
      · split at h
        · exact ih _ _ _ _ (by rw [List.length_drop]; omega) h
        · split at h
          · rename_i hone
            cases h
            exact one_bad hone
          · rename_i k n' _
            cases hs : sg (p + n') (r.drop (n' - 1)) with
            | bad p' e' =>
              rw [hs] at h
              cases h
              exact ih _ _ _ _ (by rw [List.length_drop]; omega) hs
            | ok l' => rw [hs] at h; cases h

theorem sg_count : ∀ (acc : List Sgn) (p : Nat) (l : B), sg p l = .ok acc → acc.length ≤ l.length
  | [], _, _, _ => Nat.zero_le _
  | x :: r, p, l, h => by
    have hst := sg_step _ p l (Nat.le_refl _)
    unfold Step at hst
    rw [h] at hst
    obtain ⟨g1, g2, g3, g4, g5, g6⟩ := hst
    have := sg_count r _ _ g6
    rw [List.length_drop] at this
    simp only [List.length_cons]
    omega

inductive I5 (h : Heap) (s : B) (l : List Sgn) (a : Option Addr) (n c : Nat) : Nat → S → Prop
  | mk (i : Nat) (iv : Int) (last : Nat) (lv : Int) (h1 : Heap) {x0 x1 x2 x5 x6 x9 x10 x11 x12 x13 x14 x15 x16 x17 x18 x19 x20 x21 x22 x23 x24 x25 x26 x27 x28 x29 x30 x31 x32 x33 x34 x35 x36 x37 x38 x39 x40 x41 x42 x43 x44 x45 x46 x47 x48 x49 x50 x51 x52 x53 x54 x55 x56 x57 x58 x59 x60 x61 x62 x63 x64 x65 x66 x67 x68 x69 x70 x71 x72 x73 x74 x75 x76 x77 x78 x79 x80 x81 x82 x83 x84 x85 x86 x87 : Value} (hiv : iv = (i : Int)) (hlv : lv = (last : Int)) (hi : i ≤ l.length) (hlast : last ≤ s.length)
    (hsg : sg last (s.drop last) = .ok (l.drop i)) (hgr : Gr h h1) (hlo : h1.lo ≤ h1.next) (hown : Own h1 39 3 a n c (sgC l)) :
    I5 h s l a n c (l.length - i) ⟨(F88 x0 x1 x2 (.string (Tx s)) (.slice a n c) x5 x6 (.int .i64 lv) (.int .i64 iv) x9 x10 x11 x12 x13 x14 x15 x16 x17 x18 x19 x20 x21 x22 x23 x24 x25 x26 x27 x28 x29 x30 x31 x32 x33 x34 x35 x36 x37 x38 x39 x40 x41 x42 x43 x44 x45 x46 x47 x48 x49 x50 x51 x52 x53 x54 x55 x56 x57 x58 x59 x60 x61 x62 x63 x64 x65 x66 x67 x68 x69 x70 x71 x72 x73 x74 x75 x76 x77 x78 x79 x80 x81 x82 x83 x84 x85 x86 x87), [], h1⟩

theorem places_w (xs : List Int) (a : Option Addr) (c : Nat) (hs : Sl h a (ivs xs)) (hb : ∀ b, blk a b → b < h.next) :
    CallE (pp G) 5 [.slice a xs.length c] h (fun v h' => v = .bool true) := by
  refine CallE.fir4 (good G) fir5 rfl rfl (F88_arr ..) fun hlo => ?_
  rw [sh_ir5]
  simp (disch := first | omega | (refine id ?_; simp only [push_cast]; done) | (refine id ?_; simp only [push_cast]; omega)) only [push_cast, Nat.reduceAdd, Nat.reduceMul, Nat.reduceSub, Nat.reduceLT, Nat.reduceEqDiff, Nat.reduceLeDiff, Int.reduceToNat, reduceCtorEq, Int.reduceLT, Int.reduceLE, Int.reduceAdd, Int.reduceSub, Int.reduceMul, Int.reduceNeg, Int.reduceEq]
  refine CallE.to (known_w G _) ?_
  rintro _ h1 ⟨rfl, hg1⟩
  have hn1 := hg1.next
  simp (disch := first | omega | (refine id ?_; simp only [push_cast]; done) | (refine id ?_; simp only [push_cast]; omega)) only [push_cast, Nat.reduceAdd, Nat.reduceMul, Nat.reduceSub, Nat.reduceLT, Nat.reduceEqDiff, Nat.reduceLeDiff, Int.reduceToNat, reduceCtorEq, Int.reduceLT, Int.reduceLE, Int.reduceAdd, Int.reduceSub, Int.reduceMul, Int.reduceNeg, Int.reduceEq, Bool.not_true]
  refine CallE.to (row_w G _ xs a c (Gr.slE hg1 hs hb) (fun b h2 => Nat.lt_of_lt_of_le (hb b h2) hn1)) ?_
  rintro _ h2 ⟨T, rfl, hT, hg2⟩
  simp (disch := first | omega | (refine id ?_; simp only [push_cast]; done) | (refine id ?_; simp only [push_cast]; omega)) only [push_cast, Nat.reduceAdd, Nat.reduceMul, Nat.reduceSub, Nat.reduceLT, Nat.reduceEqDiff, Nat.reduceLeDiff, Int.reduceToNat, reduceCtorEq, Int.reduceLT, Int.reduceLE, Int.reduceAdd, Int.reduceSub, Int.reduceMul, Int.reduceNeg, Int.reduceEq]
  refine CallE.to (signs_w G _ T (by omega)) ?_
  have hsgs : signs T = sg 0 T := by unfold signs; rw [if_neg (by omega)]
  rw [hsgs]
  rintro v h3 ⟨hg3, hpost⟩
  have hlo3 : h3.lo ≤ h3.next := by
    have e1 := hg3.lo; have e2 := hg2.lo; have e3 := hg1.lo
    have e4 := hg3.next; have e5 := hg2.next; have e6 := hg1.next
    omega
  cases hr : sg 0 T with
  | bad p e =>
    rw [hr] at hpost
    dsimp only at hpost
    subst hpost
    have he0 : ¬ ((e : Int) = 0) := by have := sg_bad_ne _ _ _ _ _ (Nat.le_refl _) hr; omega
    simp (disch := first | omega | (refine id ?_; simp only [push_cast]; done) | (refine id ?_; simp only [push_cast]; omega)) only [push_cast, Nat.reduceAdd, Nat.reduceMul, Nat.reduceSub, Nat.reduceLT, Nat.reduceEqDiff, Nat.reduceLeDiff, Int.reduceToNat, reduceCtorEq, Int.reduceLT, Int.reduceLE, Int.reduceAdd, Int.reduceSub, Int.reduceMul, Int.reduceNeg, Int.reduceEq, he0, Bool.not_false]
  | ok l =>
    rw [hr] at hpost
    obtain ⟨a2, c2, rfl, hown, hblk⟩ := hpost
    have hcnt := sg_count l 0 T hr
    simp (disch := first | omega | (refine id ?_; simp only [push_cast]; done) | (refine id ?_; simp only [push_cast]; omega)) only [push_cast, Nat.reduceAdd, Nat.reduceMul, Nat.reduceSub, Nat.reduceLT, Nat.reduceEqDiff, Nat.reduceLeDiff, Int.reduceToNat, reduceCtorEq, Int.reduceLT, Int.reduceLE, Int.reduceAdd, Int.reduceSub, Int.reduceMul, Int.reduceNeg, Int.reduceEq]
    refine W.loop4 (good G) (I5 h3 T l a2 l.length c2) ?_ _ _ (I5.mk 0 0 0 0 _ rfl rfl (Nat.zero_le _) (Nat.zero_le _) (by rw [List.drop_zero, List.drop_zero, hr]) (Gr.refl _) hlo3 hown)
    intro k s1 hI
    cases hI with | mk i iv last lv h4 hiv hlv hi hlast hsg hgr hlo4 hown4
    subst hiv hlv
    rw [sh_ir5_s0]
    by_cases hlt : (i : Int) < l.length
    · obtain ⟨x, r, hx⟩ : ∃ x r, l.drop i = x :: r := by
        cases hd : l.drop i with
        | nil => have := List.drop_eq_nil_iff.1 hd; omega
        | cons x r => exact ⟨x, r, rfl⟩
      have hst := sg_step _ last (T.drop last) (Nat.le_refl _)
      unfold Step at hst
      rw [hsg, hx] at hst
      obtain ⟨g1, g2, g3, g4, g5, g6⟩ := hst
      rw [List.length_drop] at g2
      rw [List.drop_drop] at g4 g6
      rw [show last + (x.at_ - last) = x.at_ by omega] at g4
      rw [show last + (x.at_ - last + x.t.length) = x.at_ + x.t.length by omega] at g6
      obtain ⟨hc1, hc2⟩ := sgC_at l i x r hx
      obtain ⟨b, m, rfl, hb1, hb2, hb3⟩ : ∃ b m, a2 = some ⟨b, 0, none⟩ ∧ h4.lo ≤ b ∧ b < h4.next ∧ cells h4 b = some (sgC l, 39, m) := by
        rcases hown4.hat with ⟨_, h0, _⟩ | ⟨b, m, ha, h1, h3, h4, _⟩
        · omega
        · exact ⟨b, m, ha, h1, h3, h4⟩
      have hld : ldC (some (true, 3)) (i * 3) h4.lo b (cells h4 b) = some (.agg ⟨[.int .i64 x.k, .string (Tx x.t), .int .i64 x.at_]⟩) := by
        rw [hb3, ldC_own _ _ _ _ _ _ _ _ hb1, partL_t, if_pos hc1, hc2]
      have n1 : ¬ ((x.at_ : Int) < last) := by omega
      have n2 : ¬ ((T.length : Int) < x.at_ + x.t.length) := by omega
      have n3 : ¬ ((x.t.length : Int) < 1) := by omega
      have hw : IntKind.i64.wrap ((x.at_ : Int) + x.t.length) = x.at_ + x.t.length := wrap_i64 (by omega) (by omega)
      have ht : ((x.at_ : Int) + x.t.length).toNat = x.at_ + x.t.length := by omega
      have hs1 : List.take (x.at_ + x.t.length - x.at_) (List.drop x.at_ T) = x.t := by rw [show x.at_ + x.t.length - x.at_ = x.t.length by omega]; exact g4
      simp (disch := first | omega | (refine id ?_; simp only [push_cast]; done) | (refine id ?_; simp only [push_cast]; omega)) only [push_cast, Nat.reduceAdd, Nat.reduceMul, Nat.reduceSub, Nat.reduceLT, Nat.reduceEqDiff, Nat.reduceLeDiff, Int.reduceToNat, reduceCtorEq, Int.reduceLT, Int.reduceLE, Int.reduceAdd, Int.reduceSub, Int.reduceMul, Int.reduceNeg, Int.reduceEq, hlt, Int.toNat_natCast, hld, n1, n2, n3, hw, ht, hs1, Bool.not_true, Bool.not_false]
      refine CallE.to (gone_w G _ _ (by rw [List.length_take, List.length_drop]; omega)) ?_
      rintro _ h5 ⟨rfl, hh5⟩
      have hc5 : cells h5 h4.next = some ([.int .i64 x.k, .string (Tx x.t), .int .i64 x.at_], 39, false) := by rw [hh5, cells_put_s]
      have hlo5 : h5.lo = h4.lo := by rw [hh5]; simp only [push_cast]
      have hgr5 : Gr h4 h5 := by rw [hh5]; (repeat (first | exact Gr.refl _ | assumption | (refine Grew.put' ?_ _ _ (by first | omega | (simp only [push_cast]; omega))) | (refine Grew.add' ?_ _)))
      have hn5 : h5.next = h4.next + 1 := by rw [hh5]; simp only [push_cast]
      rw [g5]
      simp (disch := first | omega | (refine id ?_; simp only [push_cast]; done) | (refine id ?_; simp only [push_cast]; omega)) only [push_cast, Nat.reduceAdd, Nat.reduceMul, Nat.reduceSub, Nat.reduceLT, Nat.reduceEqDiff, Nat.reduceLeDiff, Int.reduceToNat, reduceCtorEq, Int.reduceLT, Int.reduceLE, Int.reduceAdd, Int.reduceSub, Int.reduceMul, Int.reduceNeg, Int.reduceEq, Bool.not_true, hc5, hlo5, hw]
      have hdr : l.drop (i + 1) = r := by rw [← List.drop_drop, hx]; rfl
      exact ⟨_, by omega, I5.mk (i + 1) _ (x.at_ + x.t.length) _ _ (by first | rfl | omega) (by first | rfl | omega) (by omega) (by omega) (by rw [hdr]; exact g6) (hgr.tr hgr5) (by omega) (Gr.ownE hgr5 hown4)⟩
    · simp (disch := first | omega | (refine id ?_; simp only [push_cast]; done) | (refine id ?_; simp only [push_cast]; omega)) only [push_cast, Nat.reduceAdd, Nat.reduceMul, Nat.reduceSub, Nat.reduceLT, Nat.reduceEqDiff, Nat.reduceLeDiff, Int.reduceToNat, reduceCtorEq, Int.reduceLT, Int.reduceLE, Int.reduceAdd, Int.reduceSub, Int.reduceMul, Int.reduceNeg, Int.reduceEq, hlt]
      have hd : l.drop i = [] := List.drop_eq_nil_of_le (by omega)
      have hst := sg_step _ last (T.drop last) (Nat.le_refl _)
      unfold Step at hst
      rw [hsg, hd] at hst
      refine CallE.to (gone_w G _ _ (by rw [List.length_drop]; omega)) ?_; rintro _ _ ⟨rfl, rfl⟩
      rw [Int.toNat_natCast, hst]
      simp (disch := first | omega | (refine id ?_; simp only [push_cast]; done) | (refine id ?_; simp only [push_cast]; omega)) only [push_cast, Nat.reduceAdd, Nat.reduceMul, Nat.reduceSub, Nat.reduceLT, Nat.reduceEqDiff, Nat.reduceLeDiff, Int.reduceToNat, reduceCtorEq, Int.reduceLT, Int.reduceLE, Int.reduceAdd, Int.reduceSub, Int.reduceMul, Int.reduceNeg, Int.reduceEq]
end
end Go.Proofs.Ythjcdbbomfmphaa
