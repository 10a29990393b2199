/-
  A part of the proof: what the program's functions hand back, as theorems. No condition but those that each theorem names.
-/
import Derived.Test.YthjcdbbomfmphaaLzg
import Derived.Test.YthjcdbbomfmphaaLxm
import Derived.Test.YthjcdbbomfmphaaLxw
set_option linter.unusedSimpArgs false
set_option linter.unusedVariables false
namespace Go.Proofs.Ythjcdbbomfmphaa
open Go Go.RowKit Go.Ev Go.Lx
noncomputable section
set_option linter.unusedSimpArgs false
set_option linter.unusedVariables false
variable (G : Nat) (h : Heap)

theorem gapsS (h : Heap) : bsE (slT Try.prog 27) 6 [(0, (.string (Tx [32]))), (1, (.string (Tx [10]))), (2, (.string (Tx [32, 32]))), (3, (.string (Tx [9, 13]))), (4, (.string (Tx [32, 35, 32, 100, 111, 10]))), (5, (.string (Tx [35, 10, 10])))] h = some (.slice (some ⟨h.next, 0, none⟩) 6 6, h.add (O (strC gapsT) 9 false)) := by kernel_rfl
theorem Own_lt {h : Heap} {e n : Nat} {a : Option Addr} {len c : Nat} {cs : List Value} (ho : Own h e n a len c cs) : ∀ b, blk a b → b < h.next := by
  intro b hb
  obtain ⟨o, s, rfl⟩ := hb
  rcases ho.hat with ⟨h0, _⟩ | ⟨b', m, ha, _, h2, _⟩
  · cases h0
  · cases ha; exact h2
def tsum (l : List Sgn) : Nat := (l.map fun x => x.t.length).sum
theorem sg_sum : ∀ (acc : List Sgn) (p : Nat) (l : B), sg p l = .ok acc → tsum acc ≤ l.length
  | [], _, _, _ => Nat.zero_le _
  | y :: r, p, l, h => by
    have hst := sg_step _ p l (Nat.le_refl _)
    unfold Step at hst
    rw [h] at hst
    obtain ⟨g1, g2, g3, g4, g5, g6⟩ := hst
    have := sg_sum r _ _ g6
    rw [List.length_drop] at this
    unfold tsum at this ⊢
    simp only [List.map_cons, List.sum_cons]
    omega
theorem tsum_take (l : List Sgn) (i : Nat) : tsum (l.take i) ≤ tsum l := by
  have : tsum l = tsum (l.take i) + tsum (l.drop i) := by
    unfold tsum
    rw [← List.sum_append, ← List.map_append, List.take_append_drop]
  omega
theorem tsum_step {l : List Sgn} {i : Nat} {x : Sgn} (hx : l[i]? = some x) : tsum (l.take (i + 1)) = tsum (l.take i) + x.t.length := by
  unfold tsum
  rw [List.take_add_one, hx]
  simp

inductive I9 (h0 : Heap) (ys : List Int) (ag : Option Addr) (cg : Nat) (l : List Sgn) (a : Option Addr) (c : Nat) : Nat → S → Prop
  | mk (i : Nat) (iv : Int) (s : B) (h : Heap) {x0 x2 x3 x4 x6 x7 x10 x11 x12 x13 x14 x15 x16 x17 x18 x19 x20 x21 x22 x23 x24 x25 x26 x27 x28 x29 x30 x31 x32 x33 x34 x35 x36 x37 x38 x39 x40 x41 x42 x43 x44 x45 x46 x47 x48 x49 x50 x51 x52 x53 x54 x55 x56 x57 x58 x59 x60 x61 x62 x63 x64 x65 x66 x67 x68 x69 x70 x71 x72 x73 x74 x75 x76 x77 x78 x79 x80 x81 x82 x83 x84 x85 x86 x87 x88 x89 x90 x91 x92 x93 x94 x95 x96 x97 : Value} (hiv : iv = (i : Int)) (hi : i ≤ l.length) (hsp : Spread s ((l.take i).map kt)) (hsl : s.length ≤ tsum (l.take i) + 6 * i) (hg : Gr h0 h) :
    I9 h0 ys ag cg l a c (l.length - i) ⟨(F98 x0 (.slice ag ys.length cg) x2 x3 x4 (.slice a l.length c) x6 x7 (.string (Tx s)) (.int .i64 iv) x10 x11 x12 x13 x14 x15 x16 x17 x18 x19 x20 x21 x22 x23 x24 x25 x26 x27 x28 x29 x30 x31 x32 x33 x34 x35 x36 x37 x38 x39 x40 x41 x42 x43 x44 x45 x46 x47 x48 x49 x50 x51 x52 x53 x54 x55 x56 x57 x58 x59 x60 x61 x62 x63 x64 x65 x66 x67 x68 x69 x70 x71 x72 x73 x74 x75 x76 x77 x78 x79 x80 x81 x82 x83 x84 x85 x86 x87 x88 x89 x90 x91 x92 x93 x94 x95 x96 x97), [], h⟩
inductive I9b (h0 : Heap) (l : List Sgn) (a : Option Addr) (c : Nat) (am : Option Addr) (cm : Nat) : Nat → S → Prop
  | mk (i : Nat) (iv : Int) {x0 x1 x2 x3 x4 x6 x7 x8 x9 x10 x12 x13 x15 x16 x17 x18 x19 x20 x21 x22 x23 x24 x25 x26 x27 x28 x29 x30 x31 x32 x33 x34 x35 x36 x37 x38 x39 x40 x41 x42 x43 x44 x45 x46 x47 x48 x49 x50 x51 x52 x53 x54 x55 x56 x57 x58 x59 x60 x61 x62 x63 x64 x65 x66 x67 x68 x69 x70 x71 x72 x73 x74 x75 x76 x77 x78 x79 x80 x81 x82 x83 x84 x85 x86 x87 x88 x89 x90 x91 x92 x93 x94 x95 x96 x97 : Value} (hiv : iv = (i : Int)) (hi : i ≤ l.length) :
    I9b h0 l a c am cm (l.length - i) ⟨(F98 x0 x1 x2 x3 x4 (.slice a l.length c) x6 x7 x8 x9 x10 (.slice am l.length cm) x12 x13 (.int .i64 iv) x15 x16 x17 x18 x19 x20 x21 x22 x23 x24 x25 x26 x27 x28 x29 x30 x31 x32 x33 x34 x35 x36 x37 x38 x39 x40 x41 x42 x43 x44 x45 x46 x47 x48 x49 x50 x51 x52 x53 x54 x55 x56 x57 x58 x59 x60 x61 x62 x63 x64 x65 x66 x67 x68 x69 x70 x71 x72 x73 x74 x75 x76 x77 x78 x79 x80 x81 x82 x83 x84 x85 x86 x87 x88 x89 x90 x91 x92 x93 x94 x95 x96 x97), [], h0⟩

theorem blanks_w (xs : List Int) (a1 : Option Addr) (c1 : Nat) (hs1 : Sl h a1 (ivs xs)) (hb1 : ∀ b, blk a1 b → b < h.next) (ys : List Int) (a2 : Option Addr) (c2 : Nat) (hs2 : Sl h a2 (ivs ys)) (hb2 : ∀ b, blk a2 b → b < h.next) :
    CallE (pp G) 9 [.slice a1 xs.length c1, .slice a2 ys.length c2] h (fun v h' => v = .bool true) := by
  refine CallE.fir4 (good G) fir9 rfl rfl (F98_arr ..) fun hlo => ?_
  rw [sh_ir9]
  simp (disch := first | omega | (refine id ?_; simp only [push_cast]; done) | (refine id ?_; simp only [push_cast]; omega)) only [push_cast, Nat.reduceAdd, Nat.reduceMul, Nat.reduceSub, Nat.reduceLT, Nat.reduceEqDiff, Nat.reduceLeDiff, Int.reduceToNat, reduceCtorEq, Int.reduceLT, Int.reduceLE, Int.reduceAdd, Int.reduceSub, Int.reduceMul, Int.reduceNeg, Int.reduceEq]
  refine CallE.to (known_w G _) ?_
  rintro _ h1 ⟨rfl, hg1⟩
  have hn1 := hg1.next
  simp (disch := first | omega | (refine id ?_; simp only [push_cast]; done) | (refine id ?_; simp only [push_cast]; omega)) only [push_cast, Nat.reduceAdd, Nat.reduceMul, Nat.reduceSub, Nat.reduceLT, Nat.reduceEqDiff, Nat.reduceLeDiff, Int.reduceToNat, reduceCtorEq, Int.reduceLT, Int.reduceLE, Int.reduceAdd, Int.reduceSub, Int.reduceMul, Int.reduceNeg, Int.reduceEq, Bool.not_true]
  refine CallE.to (row_w G _ xs a1 c1 (Gr.slE hg1 hs1 hb1) (fun b h2 => Nat.lt_of_lt_of_le (hb1 b h2) hn1)) ?_
  rintro _ h2 ⟨T, rfl, hT, hg2⟩
  have hn2 := hg2.next
  simp (disch := first | omega | (refine id ?_; simp only [push_cast]; done) | (refine id ?_; simp only [push_cast]; omega)) only [push_cast, Nat.reduceAdd, Nat.reduceMul, Nat.reduceSub, Nat.reduceLT, Nat.reduceEqDiff, Nat.reduceLeDiff, Int.reduceToNat, reduceCtorEq, Int.reduceLT, Int.reduceLE, Int.reduceAdd, Int.reduceSub, Int.reduceMul, Int.reduceNeg, Int.reduceEq]
  refine CallE.to (rsigns_w G _ T (by omega)) ?_
  rw [signs_sg (by omega)]
  rintro v3 h3 ⟨w, ⟨hg3, hp3⟩, rfl⟩
  have hn3 := hg3.next
  have hlo3 : h3.lo ≤ h3.next := by have e1 := hg1.lo; have e2 := hg2.lo; have e3 := hg3.lo; omega
  cases hr : sg 0 T with
  | bad p e =>
    rw [hr] at hp3
    dsimp only at hp3
    subst hp3
    have he0 := bad_ne hr
    simp (disch := first | omega | (refine id ?_; simp only [push_cast]; done) | (refine id ?_; simp only [push_cast]; omega)) only [push_cast, Nat.reduceAdd, Nat.reduceMul, Nat.reduceSub, Nat.reduceLT, Nat.reduceEqDiff, Nat.reduceLeDiff, Int.reduceToNat, reduceCtorEq, Int.reduceLT, Int.reduceLE, Int.reduceAdd, Int.reduceSub, Int.reduceMul, Int.reduceNeg, Int.reduceEq, he0, Bool.not_false]
  | ok l =>
    rw [hr] at hp3
    obtain ⟨a, c, rfl, hown3, hblk3⟩ := hp3
    have hcnt := sg_count l 0 T hr
    have hsum := sg_sum l 0 T hr
    have hs2' := Gr.slE ((hg1.tr hg2).tr hg3) hs2 hb2
    have hb2' : ∀ b, blk a2 b → b < h3.next := fun b hb => Nat.lt_of_lt_of_le (hb2 b hb) (by omega)
    simp (disch := first | omega | (refine id ?_; simp only [push_cast]; done) | (refine id ?_; simp only [push_cast]; omega)) only [push_cast, Nat.reduceAdd, Nat.reduceMul, Nat.reduceSub, Nat.reduceLT, Nat.reduceEqDiff, Nat.reduceLeDiff, Int.reduceToNat, reduceCtorEq, Int.reduceLT, Int.reduceLE, Int.reduceAdd, Int.reduceSub, Int.reduceMul, Int.reduceNeg, Int.reduceEq]
    refine W.loop4 (good G) (I9 h3 ys a2 c2 l a c) ?_ _ _ (I9.mk 0 0 [] _ rfl (by omega) Spread.nil (by simp) (Gr.refl _))
    intro k s1 hI
    cases hI with | mk i iv s h4 hiv hi hsp hsl hg4 =>
    subst hiv
    have hn4 := hg4.next
    have hlo4 : h4.lo ≤ h4.next := by rw [hg4.lo]; omega
    have hts := tsum_take l i
    rw [sh_ir9_s0]
    by_cases hlt : (i : Int) < l.length
    · obtain ⟨x, hx⟩ : ∃ x, l[i]? = some x := ⟨_, List.getElem?_eq_getElem (by omega)⟩
      have htok := sg_tok _ _ _ _ (Nat.le_refl _) hr x (List.mem_of_getElem? hx)
      have hsx := tsum_step hx
      have hts1 := tsum_take l (i + 1)
      obtain ⟨b, off, rfl, e0, e1, e2⟩ := sg_ldf (Gr.ownE hg4 hown3).sl hx
      have hbn : b < h4.next := Own_lt (Gr.ownE hg4 hown3) b ⟨off, none, rfl⟩
      have hxl : x.t.length ≤ 480 := by omega
      have hstep : ∀ g : B, g ∈ gapsT → Spread (s ++ x.t ++ g) ((l.take (i + 1)).map kt) ∧ (s ++ x.t ++ g).length ≤ tsum (l.take (i + 1)) + 6 * (i + 1) := fun g hg => by
        obtain ⟨h1, h2⟩ := gap_ok g hg
        refine ⟨?_, ?_⟩
        · have := hsp.step htok h1
          rw [List.take_add_one, hx, List.map_append]
          exact this
        · simp only [List.length_append]; omega
      have hgl : ∀ j, j < 6 → gapsT.getD j [] ∈ gapsT := fun j hj => by
        have hj' : j < gapsT.length := hj
        rw [List.getD_eq_getElem?_getD, List.getElem?_eq_getElem hj']
        exact List.getElem_mem hj'
      have hsl2 : s.length ≤ 4000 := by omega
      have hsl3 : (s ++ x.t).length ≤ 4000 := by rw [List.length_append]; omega
      have hgl6 : ∀ j, j < 6 → (gapsT.getD j []).length ≤ 6 := fun j hj => (gap_ok _ (hgl j hj)).2
      have hget : ∀ j, j < 6 → (strC gapsT)[j]? = some (.string (Tx (gapsT.getD j []))) := fun j hj => strC_get (by show j < 6; exact hj)
      by_cases hgt : (i : Int) < ys.length
      · have hiy : i < ys.length := by omega
        have hsy := Gr.slE hg4 hs2' hb2'
        obtain ⟨by_, oy, rfl, _⟩ := hsy.load T_knd_3 (ivs_get hiy)
        have hldy := Sl_ld hsy (ivs_get hiy)
        have hW := Wi_range (ys.getD i 0) 6 (by omega)
        obtain ⟨k1, hk1⟩ : ∃ k : Nat, Wi (ys.getD i 0) 6 = k := ⟨(Wi (ys.getD i 0) 6).toNat, by omega⟩
        have hk6 : k1 < 6 := by omega
        have hk6' : (k1 : Int) < 6 := by omega
        simp (disch := first | omega | (refine id ?_; simp only [push_cast]; done) | (refine id ?_; simp only [push_cast]; omega)) only [push_cast, Nat.reduceAdd, Nat.reduceMul, Nat.reduceSub, Nat.reduceLT, Nat.reduceEqDiff, Nat.reduceLeDiff, Int.reduceToNat, reduceCtorEq, Int.reduceLT, Int.reduceLE, Int.reduceAdd, Int.reduceSub, Int.reduceMul, Int.reduceNeg, Int.reduceEq, hlt, hgt, Int.toNat_natCast, hldy]
        refine CallE.to (within_w G _ _ _ (by omega) (by omega)) ?_
        rintro _ _ ⟨rfl, e⟩
        rw [e, hk1]
        clear e
        have g6 := hgl6 k1 hk6
        have gg := hget k1 hk6
        obtain ⟨sp1, sp2⟩ := hstep _ (hgl k1 hk6)
        generalize gapsT.getD k1 [] = g at g6 gg sp1 sp2

        simp (disch := first | omega | (refine id ?_; simp only [push_cast]; done) | (refine id ?_; simp only [push_cast]; omega)) only [push_cast, Nat.reduceAdd, Nat.reduceMul, Nat.reduceSub, Nat.reduceLT, Nat.reduceEqDiff, Nat.reduceLeDiff, Int.reduceToNat, reduceCtorEq, Int.reduceLT, Int.reduceLE, Int.reduceAdd, Int.reduceSub, Int.reduceMul, Int.reduceNeg, Int.reduceEq, Int.toNat_natCast, e1, ↓gapsS, gg, hbn, hk6', hsl2, hsl3, hxl, g6]
        exact ⟨_, by omega, I9.mk (i + 1) _ _ _ (by first | rfl | omega) (by omega) sp1 sp2 (hg4.add' _)⟩
      · have g6 := hgl6 0 (by omega)
        have gg := hget 0 (by omega)
        obtain ⟨sp1, sp2⟩ := hstep _ (hgl 0 (by omega))
        generalize gapsT.getD 0 [] = g at g6 gg sp1 sp2
        simp (disch := first | omega | (refine id ?_; simp only [push_cast]; done) | (refine id ?_; simp only [push_cast]; omega)) only [push_cast, Nat.reduceAdd, Nat.reduceMul, Nat.reduceSub, Nat.reduceLT, Nat.reduceEqDiff, Nat.reduceLeDiff, Int.reduceToNat, reduceCtorEq, Int.reduceLT, Int.reduceLE, Int.reduceAdd, Int.reduceSub, Int.reduceMul, Int.reduceNeg, Int.reduceEq, hlt, hgt, Int.toNat_natCast, e1, ↓gapsS, gg, hbn, hsl2, hsl3, hxl, g6, Nat.add_zero]
        exact ⟨_, by omega, I9.mk (i + 1) _ _ _ (by first | rfl | omega) (by omega) sp1 sp2 (hg4.add' _)⟩
    · have hil : i = l.length := by omega
      rw [hil, List.take_length] at hsp hsl
      obtain ⟨m, hm, hkt⟩ := hsp.done
      have hml : m.length = l.length := by have := congrArg List.length hkt; simpa using this
      have hs4 : s.length ≤ 4000 := by have : l.length ≤ 480 := by omega
                                       omega
      simp (disch := first | omega | (refine id ?_; simp only [push_cast]; done) | (refine id ?_; simp only [push_cast]; omega)) only [push_cast, Nat.reduceAdd, Nat.reduceMul, Nat.reduceSub, Nat.reduceLT, Nat.reduceEqDiff, Nat.reduceLeDiff, Int.reduceToNat, reduceCtorEq, Int.reduceLT, Int.reduceLE, Int.reduceAdd, Int.reduceSub, Int.reduceMul, Int.reduceNeg, Int.reduceEq, hlt]
      refine CallE.to (signs_w G _ s (by omega)) ?_
      rw [signs_sg hs4, hm]
      rintro v5 h5 ⟨hg5, am, cm, rfl, hown5, hblk5⟩
      have hown3' := Gr.ownE (hg4.tr hg5) hown3
      rw [hml] at hown5
      simp (disch := first | omega | (refine id ?_; simp only [push_cast]; done) | (refine id ?_; simp only [push_cast]; omega)) only [push_cast, Nat.reduceAdd, Nat.reduceMul, Nat.reduceSub, Nat.reduceLT, Nat.reduceEqDiff, Nat.reduceLeDiff, Int.reduceToNat, reduceCtorEq, Int.reduceLT, Int.reduceLE, Int.reduceAdd, Int.reduceSub, Int.reduceMul, Int.reduceNeg, Int.reduceEq, hml]
      refine W.loop4 (good G) (I9b h5 l a c am cm) ?_ _ _ (I9b.mk 0 0 rfl (by omega))
      intro k s1 hI
      cases hI with | mk j jv hjv hj =>
      subst hjv
      rw [sh_ir9_s4]
      by_cases hlt2 : (j : Int) < l.length
      · obtain ⟨x, hx⟩ : ∃ x, l[j]? = some x := ⟨_, List.getElem?_eq_getElem (by omega)⟩
        obtain ⟨y, hy⟩ : ∃ y, m[j]? = some y := ⟨_, List.getElem?_eq_getElem (by omega)⟩
        have hxy : kt y = kt x := by
          have e1 : (m.map kt)[j]? = some (kt y) := by rw [List.getElem?_map, hy]; rfl
          have e2 : (l.map kt)[j]? = some (kt x) := by rw [List.getElem?_map, hx]; rfl
          rw [hkt, e2] at e1
          exact (Option.some.inj e1).symm
        have hk : y.k = x.k := congrArg Prod.fst hxy
        have ht : y.t = x.t := congrArg Prod.snd hxy
        obtain ⟨b, off, rfl, e0, e1, e2⟩ := sg_ldf hown3'.sl hx
        obtain ⟨b', off', rfl, f0, f1, f2⟩ := sg_ldf hown5.sl hy
        rw [hk] at f0
        rw [ht] at f1
        simp (disch := first | omega | (refine id ?_; simp only [push_cast]; done) | (refine id ?_; simp only [push_cast]; omega)) only [push_cast, Nat.reduceAdd, Nat.reduceMul, Nat.reduceSub, Nat.reduceLT, Nat.reduceEqDiff, Nat.reduceLeDiff, Int.reduceToNat, reduceCtorEq, Int.reduceLT, Int.reduceLE, Int.reduceAdd, Int.reduceSub, Int.reduceMul, Int.reduceNeg, Int.reduceEq, hlt2, Int.toNat_natCast, e0, e1, f0, f1]
        exact ⟨_, by omega, I9b.mk (j + 1) _ (by first | rfl | omega) (by omega)⟩
      · simp (disch := first | omega | (refine id ?_; simp only [push_cast]; done) | (refine id ?_; simp only [push_cast]; omega)) only [push_cast, Nat.reduceAdd, Nat.reduceMul, Nat.reduceSub, Nat.reduceLT, Nat.reduceEqDiff, Nat.reduceLeDiff, Int.reduceToNat, reduceCtorEq, Int.reduceLT, Int.reduceLE, Int.reduceAdd, Int.reduceSub, Int.reduceMul, Int.reduceNeg, Int.reduceEq, hlt2]
end
end Go.Proofs.Ythjcdbbomfmphaa
