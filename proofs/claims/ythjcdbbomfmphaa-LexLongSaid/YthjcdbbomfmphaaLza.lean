/-
  A part of the proof: what the program's functions hand back, as theorems. No condition but those that each theorem names.
-/
import Derived.Test.YthjcdbbomfmphaaLxg
import Derived.Test.YthjcdbbomfmphaaLxs
set_option linter.unusedSimpArgs false
set_option linter.unusedVariables false
namespace Go.Proofs.Ythjcdbbomfmphaa
open Go Go.RowKit Go.Ev Go.Lx
noncomputable section
set_option linter.unusedSimpArgs false
set_option linter.unusedVariables false
variable (G : Nat) (h : Heap)

theorem repl_flat (k : Nat) : (List.replicate k [Value.int .u8 0]).flatten = bv (List.replicate k 0) := by
  induction k with
  | zero => rfl
  | succ k ih => rw [List.replicate_succ, List.flatten_cons, ih, List.replicate_succ]; rfl
theorem bv_set (Z : List Int) (i : Nat) (y : Int) : setFrom (bv Z) i [.int .u8 y] = bv (Z.take i ++ [y] ++ Z.drop (i + 1)) := by
  simp only [setFrom, bv_app, bv_take, bv_drop]; rfl
theorem set_len {Z : List Int} {i k : Nat} (y : Int) (hi : i < k) (hZ : Z.length = k) : (Z.take i ++ [y] ++ Z.drop (i + 1)).length = k := by
  simp only [List.length_append, List.length_take, List.length_drop, List.length_cons, List.length_nil]; omega

inductive I8 (h0 : Heap) (b k : Nat) (cc : Int) : Nat → S → Prop
  | mk (i : Nat) (iv : Int) (Z : List Int) (h : Heap) {x0 x2 x3 x4 x8 x9 x10 x11 x12 x13 x14 x15 x16 x17 x18 x19 x20 x21 x22 x23 x24 x25 x26 x27 x28 x29 x30 x31 x32 x33 x34 x35 x36 x37 x38 x39 x40 x41 x42 x43 x44 x45 x46 x47 x48 x49 x50 x51 x52 x53 x54 x55 x56 x57 x58 x59 x60 x61 x62 x63 x64 x65 x66 x67 x68 x69 x70 x71 x72 x73 : Value} (hiv : iv = (i : Int)) (hi : i ≤ k) (hZ : Z.length = k) (hg : Gr h0 h) (hlo : h.lo ≤ b) (hc : cells h b = some (bv Z, 5, false)) (hn : b < h.next) :
    I8 h0 b k cc (k - i) ⟨(F74 x0 (.int .u8 cc) x2 x3 x4 (.int .i64 (k : Int)) (.slice (some ⟨b, 0, none⟩) k k) (.int .i64 iv) x8 x9 x10 x11 x12 x13 x14 x15 x16 x17 x18 x19 x20 x21 x22 x23 x24 x25 x26 x27 x28 x29 x30 x31 x32 x33 x34 x35 x36 x37 x38 x39 x40 x41 x42 x43 x44 x45 x46 x47 x48 x49 x50 x51 x52 x53 x54 x55 x56 x57 x58 x59 x60 x61 x62 x63 x64 x65 x66 x67 x68 x69 x70 x71 x72 x73), [], h⟩

theorem long_w (n cc : Int) : CallE (pp G) 8 [.int .i64 n, .int .u8 cc] h (fun v h' => v = .bool true) := by
  refine CallE.fir4 (good G) fir8 rfl rfl (F74_arr ..) fun hlo => ?_
  rw [sh_ir8]
  simp (disch := first | omega | (refine id ?_; simp only [push_cast]; done) | (refine id ?_; simp only [push_cast]; omega)) only [push_cast, Nat.reduceAdd, Nat.reduceMul, Nat.reduceSub, Nat.reduceLT, Nat.reduceEqDiff, Nat.reduceLeDiff, Int.reduceToNat, reduceCtorEq, Int.reduceLT, Int.reduceLE, Int.reduceAdd, Int.reduceSub, Int.reduceMul, Int.reduceNeg, Int.reduceEq]
  refine CallE.to (known_w G _) ?_
  rintro _ h1 ⟨rfl, hg1⟩
  have hn1 := hg1.next
  have hlo1 : h1.lo ≤ h1.next := by have := hg1.lo; omega
  simp (disch := first | omega | (refine id ?_; simp only [push_cast]; done) | (refine id ?_; simp only [push_cast]; omega)) only [push_cast, Nat.reduceAdd, Nat.reduceMul, Nat.reduceSub, Nat.reduceLT, Nat.reduceEqDiff, Nat.reduceLeDiff, Int.reduceToNat, reduceCtorEq, Int.reduceLT, Int.reduceLE, Int.reduceAdd, Int.reduceSub, Int.reduceMul, Int.reduceNeg, Int.reduceEq, Bool.not_true]
  refine CallE.to (within_w G _ n 20 (by omega) (by omega)) ?_
  rintro _ _ ⟨rfl, e1⟩
  rw [e1]
  clear e1
  have hr := Wi_range n 20 (by omega)
  obtain ⟨k, hk⟩ : ∃ k : Nat, 3990 + Wi n 20 = (k : Int) := ⟨(3990 + Wi n 20).toNat, by omega⟩
  have hk1 : 3990 ≤ k ∧ k < 4010 := by omega
  simp (disch := first | omega | (refine id ?_; simp only [push_cast]; done) | (refine id ?_; simp only [push_cast]; omega)) only [push_cast, Nat.reduceAdd, Nat.reduceMul, Nat.reduceSub, Nat.reduceLT, Nat.reduceEqDiff, Nat.reduceLeDiff, Int.reduceToNat, reduceCtorEq, Int.reduceLT, Int.reduceLE, Int.reduceAdd, Int.reduceSub, Int.reduceMul, Int.reduceNeg, Int.reduceEq, hk, Int.toNat_natCast]
  rw [repl_flat]
  refine W.loop4 (good G) (I8 h1 h1.next k cc) ?_ _ _ (I8.mk 0 0 (List.replicate k 0) _ rfl (by omega) (by simp) ((Gr.refl h1).add' _) (by rw [lo_add]; exact hlo1) (cells_add_s _ _ _ _ rfl) (by rw [next_add]; omega))
  intro m s1 hI
  cases hI with | mk i iv Z h2 hiv hi hZ hg hlo2 hc hn2
  subst hiv
  rw [sh_ir8_s0]
  by_cases hlt : (i : Int) < k
  · have hst := stC_s (h := h2) 1 i (.int .u8 32) h1.next (bv Z) 5 false rfl rfl hlo2 (by rw [bv_len]; omega)
    simp (disch := first | omega | (refine id ?_; simp only [push_cast]; done) | (refine id ?_; simp only [push_cast]; omega)) only [push_cast, Nat.reduceAdd, Nat.reduceMul, Nat.reduceSub, Nat.reduceLT, Nat.reduceEqDiff, Nat.reduceLeDiff, Int.reduceToNat, reduceCtorEq, Int.reduceLT, Int.reduceLE, Int.reduceAdd, Int.reduceSub, Int.reduceMul, Int.reduceNeg, Int.reduceEq, hlt, Int.toNat_natCast, hc, hst]
    refine ⟨_, by omega, I8.mk (i + 1) _ (Z.take i ++ [32] ++ Z.drop (i + 1)) _ (by first | rfl | omega) (by omega) (set_len 32 (by omega) hZ) (hg.put' _ _ (by omega)) hlo2 ?_ hn2⟩
    rw [cells_put_s]
    show some (setFrom (bv Z) i [.int .u8 32], 5, false) = _
    rw [bv_set]
  · simp (disch := first | omega | (refine id ?_; simp only [push_cast]; done) | (refine id ?_; simp only [push_cast]; omega)) only [push_cast, Nat.reduceAdd, Nat.reduceMul, Nat.reduceSub, Nat.reduceLT, Nat.reduceEqDiff, Nat.reduceLeDiff, Int.reduceToNat, reduceCtorEq, Int.reduceLT, Int.reduceLE, Int.reduceAdd, Int.reduceSub, Int.reduceMul, Int.reduceNeg, Int.reduceEq, hlt]
    have hik : i = k := by omega
    have hst := stC_s (h := h2) 1 (k - 1) (.int .u8 cc) h1.next (bv Z) 5 false rfl rfl hlo2 (by rw [bv_len]; omega)
    have hkw : ((k : Int) - 1).toNat = k - 1 := by omega
    have hst2 := hst
    rw [show setFrom (bv Z) (k - 1) (Value.int .u8 cc).cells.toList = setFrom (bv Z) (k - 1) [.int .u8 cc] from rfl, bv_set] at hst2
    have hZ2 := set_len cc (show k - 1 < k by omega) hZ
    generalize (Z.take (k - 1) ++ [cc] ++ Z.drop (k - 1 + 1)) = Z2 at hst2 hZ2
    have h3g : Gr h1 (h2.put h1.next (O (bv Z2) 5 false)) := hg.put' _ _ (by omega)
    have hcp : cells (h2.put h1.next (O (bv Z2) 5 false)) h1.next = some (bv Z2, 5, false) := by rw [cells_put_s]
    have hlo3 : (h2.put h1.next (O (bv Z2) 5 false)).lo ≤ h1.next := by simp only [push_cast]; exact hlo2
    simp (disch := first | omega | (refine id ?_; simp only [push_cast]; done) | (refine id ?_; simp only [push_cast]; omega)) only [push_cast, Nat.reduceAdd, Nat.reduceMul, Nat.reduceSub, Nat.reduceLT, Nat.reduceEqDiff, Nat.reduceLeDiff, Int.reduceToNat, reduceCtorEq, Int.reduceLT, Int.reduceLE, Int.reduceAdd, Int.reduceSub, Int.reduceMul, Int.reduceNeg, Int.reduceEq, hkw, hc, hst2]
    have hbn : h1.next < (h2.put h1.next (O (bv Z2) 5 false)).next := by simp only [push_cast]; exact hn2
    generalize h2.put h1.next (O (bv Z2) 5 false) = h3 at h3g hcp hlo3 hbn ⊢
    have hsl : Sl h3 (some ⟨h1.next, 0, none⟩) (bv Z2) := Sl.row hcp hlo3
    have hcv : cvV Try.prog 25 9 (.slice (some ⟨h1.next, 0, none⟩) k k) h3 = some (.string (txt Z2)) := cv_text T_cnvT_25_9 hsl hZ2
    have htx : txt Z2 = Tx (Z2.map fun c => UInt8.ofNat c.toNat) := rfl
    rw [htx] at hcv
    have htz : (Z2.map fun c => UInt8.ofNat c.toNat).length = k := by rw [List.length_map, hZ2]
    generalize (Z2.map fun c => UInt8.ofNat c.toNat) = T at hcv htz
    simp (disch := first | omega | (refine id ?_; simp only [push_cast]; done) | (refine id ?_; simp only [push_cast]; omega)) only [push_cast, Nat.reduceAdd, Nat.reduceMul, Nat.reduceSub, Nat.reduceLT, Nat.reduceEqDiff, Nat.reduceLeDiff, Int.reduceToNat, reduceCtorEq, Int.reduceLT, Int.reduceLE, Int.reduceAdd, Int.reduceSub, Int.reduceMul, Int.reduceNeg, Int.reduceEq, hcv]
    refine CallE.to (signs_w G _ T (by omega)) ?_
    rintro v h4 hp4
    have hsl4 : Sl h4 (some ⟨h1.next, 0, none⟩) (bv Z2) := Gr.slE hp4.1 hsl (fun b hb => by obtain ⟨o, s, e⟩ := hb; cases e; exact hbn)
    have hcv4 : cvV Try.prog 25 9 (.slice (some ⟨h1.next, 0, none⟩) k k) h4 = some (.string (Tx T)) := by
      rw [cv_text T_cnvT_25_9 hsl4 hZ2]
      rw [cv_text T_cnvT_25_9 hsl hZ2] at hcv
      exact hcv
    by_cases h40 : (4000 : Int) < k
    · have hb : signs T = .bad 0 3 := by unfold signs; rw [if_pos (by omega)]
      rw [hb] at hp4
      obtain ⟨hg4, rfl⟩ := hp4
      simp (disch := first | omega | (refine id ?_; simp only [push_cast]; done) | (refine id ?_; simp only [push_cast]; omega)) only [push_cast, Nat.reduceAdd, Nat.reduceMul, Nat.reduceSub, Nat.reduceLT, Nat.reduceEqDiff, Nat.reduceLeDiff, Int.reduceToNat, reduceCtorEq, Int.reduceLT, Int.reduceLE, Int.reduceAdd, Int.reduceSub, Int.reduceMul, Int.reduceNeg, Int.reduceEq, h40]
    · cases hr : signs T with
      | bad p e =>
        rw [hr] at hp4
        obtain ⟨hg4, hp4⟩ := hp4
        dsimp only at hp4
        subst hp4
        simp (disch := first | omega | (refine id ?_; simp only [push_cast]; done) | (refine id ?_; simp only [push_cast]; omega)) only [push_cast, Nat.reduceAdd, Nat.reduceMul, Nat.reduceSub, Nat.reduceLT, Nat.reduceEqDiff, Nat.reduceLeDiff, Int.reduceToNat, reduceCtorEq, Int.reduceLT, Int.reduceLE, Int.reduceAdd, Int.reduceSub, Int.reduceMul, Int.reduceNeg, Int.reduceEq, h40, hcv4]
        refine CallE.to (rsigns_w G _ T (by omega)) ?_
        rintro v h5 ⟨w, hp5, rfl⟩
        rw [hr] at hp5
        obtain ⟨hg5, hp5⟩ := hp5
        dsimp only at hp5
        subst hp5
        simp (disch := first | omega | (refine id ?_; simp only [push_cast]; done) | (refine id ?_; simp only [push_cast]; omega)) only [push_cast, Nat.reduceAdd, Nat.reduceMul, Nat.reduceSub, Nat.reduceLT, Nat.reduceEqDiff, Nat.reduceLeDiff, Int.reduceToNat, reduceCtorEq, Int.reduceLT, Int.reduceLE, Int.reduceAdd, Int.reduceSub, Int.reduceMul, Int.reduceNeg, Int.reduceEq]
        refine CallE.to (same_w G _ [] [] none none 0 0 (Sl.nil _ spotN_n) (Sl.nil _ spotN_n) (by decide)) ?_
        rintro v h6 ⟨hy, _, rfl⟩
        rw [hy rfl]
        simp (disch := first | omega | (refine id ?_; simp only [push_cast]; done) | (refine id ?_; simp only [push_cast]; omega)) only [push_cast, Nat.reduceAdd, Nat.reduceMul, Nat.reduceSub, Nat.reduceLT, Nat.reduceEqDiff, Nat.reduceLeDiff, Int.reduceToNat, reduceCtorEq, Int.reduceLT, Int.reduceLE, Int.reduceAdd, Int.reduceSub, Int.reduceMul, Int.reduceNeg, Int.reduceEq]
      | ok l =>
        rw [hr] at hp4
        obtain ⟨hg4, a4, c4, rfl, hown4, hblk4⟩ := hp4
        simp (disch := first | omega | (refine id ?_; simp only [push_cast]; done) | (refine id ?_; simp only [push_cast]; omega)) only [push_cast, Nat.reduceAdd, Nat.reduceMul, Nat.reduceSub, Nat.reduceLT, Nat.reduceEqDiff, Nat.reduceLeDiff, Int.reduceToNat, reduceCtorEq, Int.reduceLT, Int.reduceLE, Int.reduceAdd, Int.reduceSub, Int.reduceMul, Int.reduceNeg, Int.reduceEq, h40, hcv4]
        refine CallE.to (rsigns_w G _ T (by omega)) ?_
        rintro v h5 ⟨w, hp5, rfl⟩
        rw [hr] at hp5
        obtain ⟨hg5, a5, c5, rfl, hown5, hblk5⟩ := hp5
        have hll : l.length < 4611686018427387904 := by
          have h9 : sg 0 T = .ok l := by
            unfold signs at hr
            split at hr
            · cases hr
            · exact hr
          have := sg_count l 0 _ h9
          omega
        simp (disch := first | omega | (refine id ?_; simp only [push_cast]; done) | (refine id ?_; simp only [push_cast]; omega)) only [push_cast, Nat.reduceAdd, Nat.reduceMul, Nat.reduceSub, Nat.reduceLT, Nat.reduceEqDiff, Nat.reduceLeDiff, Int.reduceToNat, reduceCtorEq, Int.reduceLT, Int.reduceLE, Int.reduceAdd, Int.reduceSub, Int.reduceMul, Int.reduceNeg, Int.reduceEq]
        refine CallE.to (same_w G _ l l a4 a5 c4 c5 (Gr.ownE hg5 hown4).sl hown5.sl hll) ?_
        rintro v h6 ⟨hy, _, rfl⟩
        rw [hy rfl]
        simp (disch := first | omega | (refine id ?_; simp only [push_cast]; done) | (refine id ?_; simp only [push_cast]; omega)) only [push_cast, Nat.reduceAdd, Nat.reduceMul, Nat.reduceSub, Nat.reduceLT, Nat.reduceEqDiff, Nat.reduceLeDiff, Int.reduceToNat, reduceCtorEq, Int.reduceLT, Int.reduceLE, Int.reduceAdd, Int.reduceSub, Int.reduceMul, Int.reduceNeg, Int.reduceEq]
end
end Go.Proofs.Ythjcdbbomfmphaa
