/-
  A part of the proof: what the program's functions hand back, as theorems. No condition but those that each theorem names.
-/
import Derived.Test.YthjcdbbomfmphaaLxg
import Derived.Test.YthjcdbbomfmphaaLxh
import Derived.Test.YthjcdbbomfmphaaLxj
import Derived.Test.YthjcdbbomfmphaaLxm
set_option linter.unusedSimpArgs false
set_option linter.unusedVariables false
namespace Go.Proofs.Ythjcdbbomfmphaa
open Go Go.RowKit Go.Ev Go.Lx
noncomputable section
set_option linter.unusedSimpArgs false
set_option linter.unusedVariables false
variable (G : Nat) (h : Heap)

theorem Own_lt {h : Heap} {e n : Nat} {a : Option Addr} {len c : Nat} {cs : List Value} (ho : Own h e n a len c cs) : ∀ b, blk a b → b < h.next := by
  intro b hb
  obtain ⟨o, s, rfl⟩ := hb
  rcases ho.hat with ⟨h0, _⟩ | ⟨b', m, ha, _, h2, _⟩
  · cases h0
  · cases ha; exact h2
theorem signs_sg {L : B} (h : L.length ≤ 4000) : signs L = sg 0 L := by unfold signs; rw [if_neg (by omega)]
theorem ok_small {L : B} {l : List Sgn} (hL : L.length ≤ 4000) (h : sg 0 L = .ok l) : l.length < 4611686018427387904 := by
  have := sg_count l 0 _ h
  omega
theorem bad_ne {L : B} {p e : Nat} (h : sg 0 L = .bad p e) : ¬ ((e : Int) = 0) := by
  have := sg_bad_ne _ _ _ _ _ (Nat.le_refl _) h; omega

theorem sg_in : ∀ (acc : List Sgn) (p : Nat) (l : B), sg p l = .ok acc → ∀ x ∈ acc, x.at_ < p + l.length
  | [], _, _, _, x, hx => by cases hx
  | y :: r, p, l, h, x, hx => by
    have hst := sg_step _ p l (Nat.le_refl _)
    unfold Step at hst
    rw [h] at hst
    obtain ⟨g1, g2, g3, g4, g5, g6⟩ := hst
    rcases List.mem_cons.1 hx with rfl | hx
    · omega
    · have := sg_in r _ _ g6 x hx
      rw [List.length_drop] at this
      omega
inductive I6 (h0 : Heap) (s : B) (la lb : List Sgn) (a b c : Option Addr) (ca cb cc n : Nat) : Nat → S → Prop
  | mk (i : Nat) (iv : Int) (h : Heap) {x0 x1 x2 x3 x4 x6 x8 x9 x11 x12 x14 x15 x17 x18 x19 x20 x21 x22 x23 x24 x25 x26 x27 x28 x29 x30 x31 x32 x33 x34 x35 x36 x37 x38 x39 x40 x41 x42 x43 x44 x45 x46 x47 x48 x49 x50 x51 x52 x53 x54 x55 x56 x57 x58 x59 x60 x61 x62 x63 x64 x65 x66 x67 x68 x69 x70 x71 x72 x73 x74 x75 x76 x77 x78 x79 x80 x81 x82 x83 x84 x85 x86 x87 x88 x89 x90 x91 x92 x93 x94 x95 x96 x97 x98 x99 x100 x101 x102 x103 x104 x105 x106 x107 x108 x109 x110 x111 x112 x113 x114 x115 : Value} (hiv : iv = (i : Int)) (hi : i ≤ n) (hg : Gr h0 h) :
    I6 h0 s la lb a b c ca cb cc n (n - i) ⟨(F116 x0 x1 x2 x3 x4 (.string (Tx s)) x6 (.slice a la.length ca) x8 x9 (.slice b lb.length cb) x11 x12 (.slice c n cc) x14 x15 (.int .i64 iv) x17 x18 x19 x20 x21 x22 x23 x24 x25 x26 x27 x28 x29 x30 x31 x32 x33 x34 x35 x36 x37 x38 x39 x40 x41 x42 x43 x44 x45 x46 x47 x48 x49 x50 x51 x52 x53 x54 x55 x56 x57 x58 x59 x60 x61 x62 x63 x64 x65 x66 x67 x68 x69 x70 x71 x72 x73 x74 x75 x76 x77 x78 x79 x80 x81 x82 x83 x84 x85 x86 x87 x88 x89 x90 x91 x92 x93 x94 x95 x96 x97 x98 x99 x100 x101 x102 x103 x104 x105 x106 x107 x108 x109 x110 x111 x112 x113 x114 x115), [], h⟩

theorem joined_w (xs : List Int) (a1 : Option Addr) (c1 : Nat) (hs1 : Sl h a1 (ivs xs)) (hb1 : ∀ b, blk a1 b → b < h.next) (ys : List Int) (a2 : Option Addr) (c2 : Nat) (hs2 : Sl h a2 (ivs ys)) (hb2 : ∀ b, blk a2 b → b < h.next) :
    CallE (pp G) 6 [.slice a1 xs.length c1, .slice a2 ys.length c2] h (fun v h' => v = .bool true) := by
  refine CallE.fir4 (good G) fir6 rfl rfl (F116_arr ..) fun hlo => ?_
  rw [sh_ir6]
  simp (disch := first | omega | (refine id ?_; simp only [push_cast]; done) | (refine id ?_; simp only [push_cast]; omega)) only [push_cast, Nat.reduceAdd, Nat.reduceMul, Nat.reduceSub, Nat.reduceLT, Nat.reduceEqDiff, Nat.reduceLeDiff, Int.reduceToNat, reduceCtorEq, Int.reduceLT, Int.reduceLE, Int.reduceAdd, Int.reduceSub, Int.reduceMul, Int.reduceNeg, Int.reduceEq]
  refine CallE.to (known_w G _) ?_
  rintro _ h1 ⟨rfl, hg1⟩
  have hn1 := hg1.next
  simp (disch := first | omega | (refine id ?_; simp only [push_cast]; done) | (refine id ?_; simp only [push_cast]; omega)) only [push_cast, Nat.reduceAdd, Nat.reduceMul, Nat.reduceSub, Nat.reduceLT, Nat.reduceEqDiff, Nat.reduceLeDiff, Int.reduceToNat, reduceCtorEq, Int.reduceLT, Int.reduceLE, Int.reduceAdd, Int.reduceSub, Int.reduceMul, Int.reduceNeg, Int.reduceEq, Bool.not_true]
  refine CallE.to (row_w G _ xs a1 c1 (Gr.slE hg1 hs1 hb1) (fun b h2 => Nat.lt_of_lt_of_le (hb1 b h2) hn1)) ?_
  rintro _ h2 ⟨s, rfl, hsl, hg2⟩
  have hn2 := hg2.next
  simp (disch := first | omega | (refine id ?_; simp only [push_cast]; done) | (refine id ?_; simp only [push_cast]; omega)) only [push_cast, Nat.reduceAdd, Nat.reduceMul, Nat.reduceSub, Nat.reduceLT, Nat.reduceEqDiff, Nat.reduceLeDiff, Int.reduceToNat, reduceCtorEq, Int.reduceLT, Int.reduceLE, Int.reduceAdd, Int.reduceSub, Int.reduceMul, Int.reduceNeg, Int.reduceEq]
  refine CallE.to (row_w G _ ys a2 c2 (Gr.slE (hg1.tr hg2) hs2 hb2) (fun b h2 => Nat.lt_of_lt_of_le (hb2 b h2) (by omega))) ?_
  rintro _ h3 ⟨t, rfl, htl, hg3⟩
  have hn3 := hg3.next
  have hlo3 : h3.lo ≤ h3.next := by have e1 := hg1.lo; have e2 := hg2.lo; have e3 := hg3.lo; omega
  simp (disch := first | omega | (refine id ?_; simp only [push_cast]; done) | (refine id ?_; simp only [push_cast]; omega)) only [push_cast, Nat.reduceAdd, Nat.reduceMul, Nat.reduceSub, Nat.reduceLT, Nat.reduceEqDiff, Nat.reduceLeDiff, Int.reduceToNat, reduceCtorEq, Int.reduceLT, Int.reduceLE, Int.reduceAdd, Int.reduceSub, Int.reduceMul, Int.reduceNeg, Int.reduceEq]
  refine CallE.to (signs_w G _ s (by omega)) ?_
  rw [signs_sg (by omega)]
  rintro v4 h4 ⟨hg4, hp4⟩
  have hn4 := hg4.next
  have hj := sg_join t s.length 0 s (Nat.le_refl _)
  have hsh := sg_shift (0 + s.length + 1) t.length 0 t (Nat.le_refl _)
  rw [Nat.zero_add] at hsh
  have hJ : ((s ++ [10]) ++ t).length ≤ 4000 := by simp only [List.length_append, List.length_cons, List.length_nil]; omega
  have hJe : (s ++ [10]) ++ t = s ++ 10 :: t := by simp
  have hL2 : (s ++ [10] ++ t).length < 4611686018427387904 := by omega
  cases hr : sg 0 s with
  | bad p e =>
    rw [hr] at hp4 hj
    dsimp only at hp4 hj
    subst hp4
    have he0 := bad_ne hr
    simp (disch := first | omega | (refine id ?_; simp only [push_cast]; done) | (refine id ?_; simp only [push_cast]; omega)) only [push_cast, Nat.reduceAdd, Nat.reduceMul, Nat.reduceSub, Nat.reduceLT, Nat.reduceEqDiff, Nat.reduceLeDiff, Int.reduceToNat, reduceCtorEq, Int.reduceLT, Int.reduceLE, Int.reduceAdd, Int.reduceSub, Int.reduceMul, Int.reduceNeg, Int.reduceEq, he0, Bool.not_false]
    refine CallE.to (signs_f G _ t (by omega)) ?_
    rintro _ h5 ⟨hg5, a5, c5, rfl⟩
    simp (disch := first | omega | (refine id ?_; simp only [push_cast]; done) | (refine id ?_; simp only [push_cast]; omega)) only [push_cast, Nat.reduceAdd, Nat.reduceMul, Nat.reduceSub, Nat.reduceLT, Nat.reduceEqDiff, Nat.reduceLeDiff, Int.reduceToNat, reduceCtorEq, Int.reduceLT, Int.reduceLE, Int.reduceAdd, Int.reduceSub, Int.reduceMul, Int.reduceNeg, Int.reduceEq, he0, Bool.not_false]
    refine CallE.to (signs_w G _ _ hL2) ?_
    rw [signs_sg hJ, hJe, hj]
    rintro v6 h6 ⟨hg6, hp6⟩
    dsimp only at hp6
    subst hp6
    simp (disch := first | omega | (refine id ?_; simp only [push_cast]; done) | (refine id ?_; simp only [push_cast]; omega)) only [push_cast, Nat.reduceAdd, Nat.reduceMul, Nat.reduceSub, Nat.reduceLT, Nat.reduceEqDiff, Nat.reduceLeDiff, Int.reduceToNat, reduceCtorEq, Int.reduceLT, Int.reduceLE, Int.reduceAdd, Int.reduceSub, Int.reduceMul, Int.reduceNeg, Int.reduceEq, he0, Bool.not_false]
  | ok la =>
    rw [hr] at hp4 hj
    obtain ⟨a4, c4, rfl, hown4, hblk4⟩ := hp4
    have hla := ok_small (by omega) hr
    simp (disch := first | omega | (refine id ?_; simp only [push_cast]; done) | (refine id ?_; simp only [push_cast]; omega)) only [push_cast, Nat.reduceAdd, Nat.reduceMul, Nat.reduceSub, Nat.reduceLT, Nat.reduceEqDiff, Nat.reduceLeDiff, Int.reduceToNat, reduceCtorEq, Int.reduceLT, Int.reduceLE, Int.reduceAdd, Int.reduceSub, Int.reduceMul, Int.reduceNeg, Int.reduceEq]
    refine CallE.to (signs_w G _ t (by omega)) ?_
    rw [signs_sg (by omega)]
    rintro v5 h5 ⟨hg5, hp5⟩
    have hn5 := hg5.next
    cases hr2 : sg 0 t with
    | bad p e =>
      rw [hr2] at hp5 hsh
      dsimp only at hp5
      subst hp5
      rw [hsh] at hj
      have he0 := bad_ne hr2
      simp (disch := first | omega | (refine id ?_; simp only [push_cast]; done) | (refine id ?_; simp only [push_cast]; omega)) only [push_cast, Nat.reduceAdd, Nat.reduceMul, Nat.reduceSub, Nat.reduceLT, Nat.reduceEqDiff, Nat.reduceLeDiff, Int.reduceToNat, reduceCtorEq, Int.reduceLT, Int.reduceLE, Int.reduceAdd, Int.reduceSub, Int.reduceMul, Int.reduceNeg, Int.reduceEq, he0, Bool.not_false]
      refine CallE.to (signs_w G _ _ hL2) ?_
      rw [signs_sg hJ, hJe, hj]
      rintro v6 h6 ⟨hg6, hp6⟩
      dsimp only [Res.sh, Res.on] at hp6
      subst hp6
      simp (disch := first | omega | (refine id ?_; simp only [push_cast]; done) | (refine id ?_; simp only [push_cast]; omega)) only [push_cast, Nat.reduceAdd, Nat.reduceMul, Nat.reduceSub, Nat.reduceLT, Nat.reduceEqDiff, Nat.reduceLeDiff, Int.reduceToNat, reduceCtorEq, Int.reduceLT, Int.reduceLE, Int.reduceAdd, Int.reduceSub, Int.reduceMul, Int.reduceNeg, Int.reduceEq, he0, Bool.not_false]
    | ok lb =>
      rw [hr2] at hp5 hsh
      obtain ⟨a5, c5, rfl, hown5, hblk5⟩ := hp5
      have hlb := ok_small (by omega) hr2
      rw [hsh] at hj
      obtain ⟨L, hL, hLd⟩ : ∃ L, sg 0 (s ++ 10 :: t) = .ok L ∧ la ++ List.map (Sgn.sh (s.length + 1)) lb = L := ⟨_, by rw [hj, Nat.zero_add]; rfl, rfl⟩
      have hlen6 : L.length = la.length + lb.length := by rw [← hLd]; simp
      simp (disch := first | omega | (refine id ?_; simp only [push_cast]; done) | (refine id ?_; simp only [push_cast]; omega)) only [push_cast, Nat.reduceAdd, Nat.reduceMul, Nat.reduceSub, Nat.reduceLT, Nat.reduceEqDiff, Nat.reduceLeDiff, Int.reduceToNat, reduceCtorEq, Int.reduceLT, Int.reduceLE, Int.reduceAdd, Int.reduceSub, Int.reduceMul, Int.reduceNeg, Int.reduceEq]
      refine CallE.to (signs_w G _ _ hL2) ?_
      rw [signs_sg hJ, hJe, hL]
      rintro v6 h6 ⟨hg6, hp6⟩
      have hn6 := hg6.next
      obtain ⟨a6, c6, rfl, hown6, hblk6⟩ := hp6
      have hla2 := sg_count la 0 s hr
      have hlb2 := sg_count lb 0 t hr2
      have hwr : IntKind.i64.wrap ((la.length : Int) + lb.length) = la.length + lb.length := wrap_i64 (by omega) (by omega)
      have hz : ((la.length + lb.length : Nat) : Int) = (la.length : Int) + lb.length := by omega
      simp (disch := first | omega | (refine id ?_; simp only [push_cast]; done) | (refine id ?_; simp only [push_cast]; omega)) only [push_cast, Nat.reduceAdd, Nat.reduceMul, Nat.reduceSub, Nat.reduceLT, Nat.reduceEqDiff, Nat.reduceLeDiff, Int.reduceToNat, reduceCtorEq, Int.reduceLT, Int.reduceLE, Int.reduceAdd, Int.reduceSub, Int.reduceMul, Int.reduceNeg, Int.reduceEq, hlen6, hwr, hz]
      have hslA : Sl h6 a4 (sgC la) := (Gr.ownE (hg5.tr hg6) hown4).sl
      have hslB : Sl h6 a5 (sgC lb) := (Gr.ownE hg6 hown5).sl
      have hslC : Sl h6 a6 (sgC L) := hown6.sl
      have hown4' := Gr.ownE (hg5.tr hg6) hown4
      have hown5' := Gr.ownE hg6 hown5
      have hbA : ∀ b, blk a4 b → b < h6.next := Own_lt hown4'
      have hbB : ∀ b, blk a5 b → b < h6.next := Own_lt hown5'
      have hbC : ∀ b, blk a6 b → b < h6.next := Own_lt hown6
      have hlo6 : h6.lo ≤ h6.next := by have e1 := hg4.lo; have e2 := hg5.lo; have e3 := hg6.lo; omega
      refine W.loop4 (good G) (I6 h6 s la lb a4 a5 a6 c4 c5 c6 (la.length + lb.length)) ?_ _ _ (I6.mk 0 0 h6 rfl (Nat.zero_le _) (Gr.refl _))
      intro k s1 hI
      cases hI with | mk i iv h7 hiv hi hg7 =>
      subst hiv
      rw [sh_ir6_s0]
      have hn7 := hg7.next
      have hlo7 : h7.lo ≤ h7.next := by rw [hg7.lo]; omega
      by_cases hlt : (i : Int) < (la.length : Int) + lb.length
      · obtain ⟨x, r, hx⟩ : ∃ x r, L.drop i = x :: r := by
          cases hd : L.drop i with
          | nil => have := List.drop_eq_nil_iff.1 hd; omega
          | cons x r => exact ⟨x, r, rfl⟩
        obtain ⟨b6, o6, rfl, e6⟩ := sg_ld (Gr.slE hg7 hslC hbC) hx
        have hb6 : b6 < h7.next := Nat.lt_of_lt_of_le (hbC b6 ⟨o6, none, rfl⟩) hn7
        by_cases hla1 : (i : Int) < la.length
        · have hx2 : la.drop i = x :: r.take (la.length - i - 1) := by
            have e1 : L.drop i = la.drop i ++ List.map (Sgn.sh (s.length + 1)) lb := by rw [← hLd, List.drop_append_of_le_length (by omega)]
            rw [hx] at e1
            cases hd : la.drop i with
            | nil => have := List.drop_eq_nil_iff.1 hd; omega
            | cons y r2 =>
              rw [hd] at e1
              simp only [List.cons_append, List.cons.injEq] at e1
              obtain ⟨rfl, rfl⟩ := e1
              have : r2.length = la.length - i - 1 := by have := congrArg List.length hd; simp only [List.length_drop, List.length_cons] at this; omega
              rw [← this, List.take_left]
          obtain ⟨b4, o4, rfl, e4⟩ := sg_ld (Gr.slE hg7 hslA hbA) hx2
          have hb4 : b4 < h7.next := Nat.lt_of_lt_of_le (hbA b4 ⟨o4, none, rfl⟩) hn7
          simp (disch := first | omega | (refine id ?_; simp only [push_cast]; done) | (refine id ?_; simp only [push_cast]; omega)) only [push_cast, Nat.reduceAdd, Nat.reduceMul, Nat.reduceSub, Nat.reduceLT, Nat.reduceEqDiff, Nat.reduceLeDiff, Int.reduceToNat, reduceCtorEq, Int.reduceLT, Int.reduceLE, Int.reduceAdd, Int.reduceSub, Int.reduceMul, Int.reduceNeg, Int.reduceEq, hlt, hz, Int.toNat_natCast, e6, hla1, hb6, hb4, e4, b_neq39, and_self, decide_true, Bool.not_true]
          exact ⟨_, by omega, I6.mk (i + 1) _ _ (by first | rfl | omega) (by omega) (by (repeat (first | exact Gr.refl _ | assumption | (refine Grew.put' ?_ _ _ (by first | omega | (simp only [push_cast]; omega))) | (refine Grew.add' ?_ _))))⟩
        · obtain ⟨y, hy0, hy⟩ : ∃ y r2, lb.drop (i - la.length) = y :: r2 := by
            cases hd : lb.drop (i - la.length) with
            | nil => have := List.drop_eq_nil_iff.1 hd; omega
            | cons x r => exact ⟨x, r, rfl⟩
          have hxy : x = Sgn.sh (s.length + 1) y := by
            have e1 : L.drop i = List.map (Sgn.sh (s.length + 1)) (lb.drop (i - la.length)) := by
              rw [← hLd, List.drop_append, List.drop_eq_nil_of_le (by omega), List.nil_append, List.map_drop]
            rw [hx, hy] at e1
            simp only [List.map_cons, List.cons.injEq] at e1
            exact e1.1
          obtain ⟨b5, o5, rfl, e5⟩ := sg_ld (Gr.slE hg7 hslB hbB) hy
          have hb5 : b5 < h7.next := Nat.lt_of_lt_of_le (hbB b5 ⟨o5, none, rfl⟩) hn7
          have hi2 : ((i : Int) - la.length).toNat = i - la.length := by omega
          subst hxy
          have hya : y.at_ < 4000 := by
            have h9 := sg_in lb 0 t hr2 y (by rw [← List.take_append_drop (i - la.length) lb, hy]; simp)
            omega
          have hxe : ((y.at_ : Int) + ((s.length : Int) + 1) = y.at_ + s.length + 1) = True := by exact eq_true (by omega)
          simp (disch := first | omega | (refine id ?_; simp only [push_cast]; done) | (refine id ?_; simp only [push_cast]; omega)) only [push_cast, Nat.reduceAdd, Nat.reduceMul, Nat.reduceSub, Nat.reduceLT, Nat.reduceEqDiff, Nat.reduceLeDiff, Int.reduceToNat, reduceCtorEq, Int.reduceLT, Int.reduceLE, Int.reduceAdd, Int.reduceSub, Int.reduceMul, Int.reduceNeg, Int.reduceEq, hlt, hz, Int.toNat_natCast, e6, hla1, hb6, hb5, e5, hi2, Sgn.sh, Nat.add_assoc, hxe, decide_true, Bool.not_true]
          exact ⟨_, by omega, I6.mk (i + 1) _ _ (by first | rfl | omega) (by omega) (by (repeat (first | exact Gr.refl _ | assumption | (refine Grew.put' ?_ _ _ (by first | omega | (simp only [push_cast]; omega))) | (refine Grew.add' ?_ _))))⟩
      · simp (disch := first | omega | (refine id ?_; simp only [push_cast]; done) | (refine id ?_; simp only [push_cast]; omega)) only [push_cast, Nat.reduceAdd, Nat.reduceMul, Nat.reduceSub, Nat.reduceLT, Nat.reduceEqDiff, Nat.reduceLeDiff, Int.reduceToNat, reduceCtorEq, Int.reduceLT, Int.reduceLE, Int.reduceAdd, Int.reduceSub, Int.reduceMul, Int.reduceNeg, Int.reduceEq, hlt, hz]
end
end Go.Proofs.Ythjcdbbomfmphaa
