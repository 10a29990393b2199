/-
  A part of the proof: what the program's functions hand back, as theorems. No condition but those that each theorem names.
-/
import Derived.Test.YtohdgkmgkcoilaaLgb
import Derived.Test.YtohdgkmgkcoilaaEvd
import Derived.ChangeMaps5
import Derived.Test.YtohdgkmgkcoilaaRows
import Derived.ProofKit
import Derived.OpenShut
import Derived.Carry
import Derived.SizedLaws
import Derived.Test.YtohdgkmgkcoilaaLgd
import Derived.Test.YtohdgkmgkcoilaaLge
set_option linter.unusedSimpArgs false
set_option linter.unusedVariables false
namespace Go.Proofs.Ytohdgkmgkcoilaa
open Go Go.RowKit Go.Ev
noncomputable section
set_option linter.unusedSimpArgs false
set_option linter.unusedVariables false
variable (G : Nat) (h : Heap)

/-- numbers as cells -/
def ivs (xs : List Int) : List Value := xs.map (Value.int .i64)
theorem ivs_get {xs : List Int} {i : Nat} (hi : i < xs.length) : (ivs xs)[i]? = some (.int .i64 (xs.getD i 0)) := by
  simp only [ivs, List.getElem?_map, List.getElem?_eq_getElem hi, Option.map_some, List.getD_eq_getElem?_getD, Option.getD_some]
theorem ivs_len (xs : List Int) : (ivs xs).length = xs.length := by simp [ivs]
theorem Sl_ld {h : Heap} {b off : Nat} {cs : List Value} (hs : Sl h (some ⟨b, off, none⟩) cs) {i : Nat} {v : Value} (hv : cs[i]? = some v) :
    ldC (some (false, 0)) (off + i) h.lo b (cells h b) = some v := by
  obtain ⟨b', off', e, hl⟩ := hs.load T_knd_3 hv
  cases e
  rw [load_eq, T_knd_3] at hl
  exact hl
theorem repl_flat (k : Nat) : (List.replicate k [Value.int .u8 0]).flatten = bv (List.replicate k 0) := by
  induction k with
  | zero => rfl
  | succ k ih => rw [List.replicate_succ, List.flatten_cons, ih, List.replicate_succ]; rfl

end
end Go.Proofs.Ytohdgkmgkcoilaa

namespace Go.Proofs.Ytohdgkmgkcoilaa
open Go Go.ChangeShapes Go.WideShapes Go.ChangeAt Go.RowKit Go.Ev
set_option linter.unusedVariables false
set_option maxRecDepth 100000

theorem lits_fone (k : IntKind) (n : Nat) : ∀ l : List Int, foneL n (l.map (Value.int k)) = true
  | [] => rfl
  | x :: l => foneL_cons _ _ _ rfl (lits_fone k n l)
theorem base_sl {k : IntKind} {W : World} {b off len : Nat} {zs : List Int} (hl : len ≤ zs.length) (hc : ∀ i, i < zs.length → W.cell? ((⟨b, off, none⟩ : Addr).add i) = some (.int k (zs.getD i 0))) :
    Sl (baseH W) (some ⟨b, off, none⟩) ((zs.take len).map (Value.int k)) := by
  have hlen : ((zs.take len).map (Value.int k)).length = len := by rw [List.length_map, List.length_take]; omega
  have hget : ∀ i, i < len → ((zs.take len).map (Value.int k))[i]? = some (Value.int k (zs.getD i 0)) := fun i hi => by
    rw [List.getElem?_map, List.getElem?_take, if_pos hi, List.getD_eq_getElem?_getD, List.getElem?_eq_getElem (by omega)]
    rfl
  cases hz : len with
  | zero => subst hz; exact Sl.nil _ (spotN_s b off)
  | succ m =>
    have key : ∀ i, i < len → ∃ cs e, cells (baseH W) b = some (cs, e, false) ∧ cs[off + i]? = some (.int k (zs.getD i 0)) := fun i hi => by
      have h1 := hc i (by omega)
      rw [addr_add] at h1
      exact baseH_cell h1 rfl rfl rfl
    obtain ⟨cs, e, h1, h2⟩ := key 0 (by omega)
    have all : ∀ i, i < len → cs[off + i]? = some (.int k (zs.getD i 0)) := fun i hi => by
      obtain ⟨cs', e', h3, h4⟩ := key i hi
      rw [h1] at h3
      cases h3
      exact h4
    have hle : off + len ≤ cs.length := by
      have := (List.getElem?_eq_some_iff.1 (all (len - 1) (by omega))).1
      omega
    rw [← hz]
    refine .inr ⟨b, off, cs, e, false, rfl, h1, by rw [hlen]; exact hle, ?_, .inr (lits_fone _ _ _)⟩
    rw [hlen]
    apply List.ext_getElem?
    intro i
    by_cases hi : i < len
    · rw [List.getElem?_take, if_pos hi, List.getElem?_drop, all i hi, hget i hi]
    · rw [List.getElem?_eq_none (by rw [List.length_take]; omega), List.getElem?_eq_none (by rw [hlen]; omega)]

/-- a row of numbers that came in -/
theorem open_xs {W : World} {base : Nat} {v : Value} {H : Type} {enc : TypeId × Value → H} {d : DataW H} {p : List MemPlace} (hv : Value.okWide Try.prog W .any base 22 v) (h : DataW.Trod enc Try.prog W 0 (fun _ => true) true 22 v d p)
    (hsz : ∀ elems spare : List (DataW H), d = .slice elems spare → (elems.length + spare.length) * Try.checked.prog.bytesOf 3 ≤ reachBytes) :
    ∃ (xs : List Int) (a : Option Addr) (c : Nat), v = .slice a xs.length c ∧ Sl (baseH W) a (ivs xs) ∧ (∀ b, blk a b → b < (baseH W).next) ∧ pl (.slice a xs.length c) = true ∧ sc W.heap.size (.slice a xs.length c) = true := by
  obtain ⟨a1, len1, cap1, rfl⟩ := okWide_slice Try.underlying22 hv
  obtain ⟨fuel, hf⟩ := h
  rcases open_ints (k := .i64) Try.underlying22 Try.underlying3 (by kernel_rfl) hf with ⟨h1, _⟩ | ⟨a, len, cap, zs, h1, _, hle, hmx, hzl, hx, hcells, _⟩
  · cases h1
    exact ⟨[], none, 0, rfl, Sl.nil _ spotN_n, (fun b hb => by obtain ⟨o, s, hb⟩ := hb; cases hb), rfl, rfl⟩
  · cases h1
    simp only [Value.okWide, Try.underlying22, Cell.okWide, Cell.ok, World.has] at hv
    obtain ⟨_, _, _, hspot, row, cells', hshape, _⟩ := hv
    obtain ⟨b, off, sp⟩ := a
    have hspot : sp = none := hspot
    subst hspot
    have hbl : b < W.heap.size := by
      rcases Nat.lt_or_ge b W.heap.size with h2 | h2
      · exact h2
      · simp [World.shape?, Array.getElem?_eq_none h2] at hshape
    have hzl : zs.length = cap1 := hzl
    have hcap : cap1 < UC := by
      have h3 := hsz (lits .i64 (zs.take len1)) (lits .i64 (zs.drop len1)) (by cases hx; rfl)
      have h4 : Try.checked.prog.bytesOf 3 = 8 := by kernel_rfl
      rw [h4] at h3
      simp only [lits, List.length_map, List.length_take, List.length_drop] at h3
      have h5 : reachBytes = 140737488351232 := rfl
      have h6 : UC = 1152921504606846976 := by unfold UC; rfl
      omega
    have hlen : (zs.take len1).length = len1 := by rw [List.length_take]; omega
    have hsl := base_sl (W := W) (b := b) (off := off) (len := len1) (zs := zs) (by omega) hcells
    refine ⟨zs.take len1, some ⟨b, off, none⟩, cap1, by rw [hlen], hsl, (fun b' hb => by obtain ⟨o, s, hb⟩ := hb; cases hb; exact hbl), ?_, ?_⟩
    · simp only [pl]; simpa using hcap
    · simp only [sc, scA]; simpa using hbl
/-- a row of bytes that came in -/
theorem open_bs {W : World} {base : Nat} {v : Value} {H : Type} {enc : TypeId × Value → H} {d : DataW H} {p : List MemPlace} (hv : Value.okWide Try.prog W .any base 23 v) (h : DataW.Trod enc Try.prog W 0 (fun _ => true) true 23 v d p)
    (hsz : ∀ elems spare : List (DataW H), d = .slice elems spare → (elems.length + spare.length) * Try.checked.prog.bytesOf 5 ≤ reachBytes) :
    ∃ (xs : List Int) (a : Option Addr) (c : Nat), v = .slice a xs.length c ∧ Sl (baseH W) a (bv xs) ∧ (∀ b, blk a b → b < (baseH W).next) ∧ pl (.slice a xs.length c) = true ∧ sc W.heap.size (.slice a xs.length c) = true := by
  obtain ⟨a1, len1, cap1, rfl⟩ := okWide_slice Try.underlying23 hv
  obtain ⟨fuel, hf⟩ := h
  rcases open_ints (k := .u8) Try.underlying23 Try.underlying5 (by kernel_rfl) hf with ⟨h1, _⟩ | ⟨a, len, cap, zs, h1, _, hle, hmx, hzl, hx, hcells, _⟩
  · cases h1
    exact ⟨[], none, 0, rfl, Sl.nil _ spotN_n, (fun b hb => by obtain ⟨o, s, hb⟩ := hb; cases hb), rfl, rfl⟩
  · cases h1
    simp only [Value.okWide, Try.underlying23, Cell.okWide, Cell.ok, World.has] at hv
    obtain ⟨_, _, _, hspot, row, cells', hshape, _⟩ := hv
    obtain ⟨b, off, sp⟩ := a
    have hspot : sp = none := hspot
    subst hspot
    have hbl : b < W.heap.size := by
      rcases Nat.lt_or_ge b W.heap.size with h2 | h2
      · exact h2
      · simp [World.shape?, Array.getElem?_eq_none h2] at hshape
    have hzl : zs.length = cap1 := hzl
    have hcap : cap1 < UC := by
      have h3 := hsz (lits .u8 (zs.take len1)) (lits .u8 (zs.drop len1)) (by cases hx; rfl)
      have h4 : Try.checked.prog.bytesOf 5 = 1 := by kernel_rfl
      rw [h4] at h3
      simp only [lits, List.length_map, List.length_take, List.length_drop] at h3
      have h5 : reachBytes = 140737488351232 := rfl
      have h6 : UC = 1152921504606846976 := by unfold UC; rfl
      omega
    have hlen : (zs.take len1).length = len1 := by rw [List.length_take]; omega
    have hsl := base_sl (W := W) (b := b) (off := off) (len := len1) (zs := zs) (by omega) hcells
    refine ⟨zs.take len1, some ⟨b, off, none⟩, cap1, by rw [hlen], hsl, (fun b' hb => by obtain ⟨o, s, hb⟩ := hb; cases hb; exact hbl), ?_, ?_⟩
    · simp only [pl]; simpa using hcap
    · simp only [sc, scA]; simpa using hbl

end Go.Proofs.Ytohdgkmgkcoilaa

namespace Go.Proofs.Ytohdgkmgkcoilaa
open Go Go.RowKit Go.Ev
noncomputable section
set_option linter.unusedSimpArgs false
set_option linter.unusedVariables false
variable (G : Nat) (h : Heap)

def abc : List Int := [97, 98, 99]
theorem abcS (h : Heap) : bsC 3 5 h (fillQ (List.map (fun i => (i, 1)) (List.range 3)) (List.replicate 3 [Value.int IntKind.u8 0]).flatten (Value.int IntKind.u8 97)
        [(1, Value.int IntKind.u8 98), (2, Value.int IntKind.u8 99)] (some (0, 1))) = some (.slice (some ⟨h.next, 0, none⟩) 3 3, h.add (O (bv abc) 5 false)) := by kernel_rfl
/-- the chapter's example, by what each function does -/
theorem known_c : CallE (pp G) 13 [] h (fun v h' => v = .bool true) := by
  refine CallE.fir4 (good G) fir13 rfl rfl (F49_arr ..) fun hlo => ?_
  rw [sh_ir13]
  simp (disch := first | omega | (refine id ?_; simp only [push_cast]; done) | (refine id ?_; simp only [push_cast]; omega)) only [push_cast, Nat.reduceAdd, Nat.reduceMul, Nat.reduceSub, Nat.reduceLT, Nat.reduceEqDiff, Nat.reduceLeDiff, Int.reduceToNat, reduceCtorEq, Int.reduceLT, Int.reduceLE, Int.reduceAdd, Int.reduceSub, Int.reduceMul, Int.reduceNeg, Int.reduceEq]
  refine CallE.to (new_w G _ 20) ?_
  rintro _ h1 ⟨rfl, hl1, hg1, hn1⟩
  have hlo1 := hg1.lo
  simp (disch := first | omega | (refine id ?_; simp only [push_cast]; done) | (refine id ?_; simp only [push_cast]; omega)) only [push_cast, Nat.reduceAdd, Nat.reduceMul, Nat.reduceSub, Nat.reduceLT, Nat.reduceEqDiff, Nat.reduceLeDiff, Int.reduceToNat, reduceCtorEq, Int.reduceLT, Int.reduceLE, Int.reduceAdd, Int.reduceSub, Int.reduceMul, Int.reduceNeg, Int.reduceEq]
  refine CallE.to (len_w G _ hl1) ?_
  rintro _ _ ⟨rfl, e⟩
  rw [e]
  clear e
  have hten : (List.replicate 10 [Value.int IntKind.u8 0]).flatten = bv (List.replicate 10 0) := repl_flat 10
  have hcv : ∀ (h : Heap) (x : Nat), h.lo ≤ x → cells h x = some (bv abc, 5, false) → _ := fun h x q1 q2 => cvE_mark (P := Try.prog) T_cnvT_23_23 (off := 0) (n := 3) (c := 3) (sp := none) q1 q2
  have hc2 : cells (h1.add (O (bv abc) 5 false)) h1.next = some (bv abc, 5, false) := cells_add_s _ _ _ _ rfl
  have hl2' : (h1.add (O (bv abc) 5 false)).lo ≤ h1.next := by rw [lo_add]; omega
  have hcv2 := hcv _ _ hl2' hc2
  have hc3 : cells ((h1.add (O (bv abc) 5 false)).add (O (bv (List.replicate 10 0)) 5 false)) h1.next = some (bv abc, 5, false) := (Grew.add _ _ (fun _ => False)).cellsE hc2 (by rw [next_add]; omega) fun h => h
  have hl3' : ((h1.add (O (bv abc) 5 false)).add (O (bv (List.replicate 10 0)) 5 false)).lo ≤ h1.next := by rw [lo_add, lo_add]; omega
  have hcv3 := hcv _ _ hl3' hc3
  have hc4 : cells ((h1.add (O (bv (List.replicate 10 0)) 5 false)).add (O (bv abc) 5 false)) (h1.next + 1) = some (bv abc, 5, false) := cells_add_s _ _ _ _ (by rw [next_add])
  have hl4' : ((h1.add (O (bv (List.replicate 10 0)) 5 false)).add (O (bv abc) 5 false)).lo ≤ h1.next + 1 := by rw [lo_add, lo_add]; omega
  have hcv4 := hcv _ _ hl4' hc4
  have tor : Torn [] := .inl (by decide)
  have he : beL abc.length 4 ++ abc = enc [abc] := by simp [enc, encR]
  have one : ∀ (hx : Heap) (x : Nat), Gr h1 hx → cells hx x = some (bv abc, 5, false) → h1.next ≤ x → hx.lo ≤ x → x < hx.next → CallE (pp G) 21 [.pointer (some ⟨h.next, 0, none⟩), .slice (some ⟨x, 0, none⟩) 3 3] hx (fun v h3 => v = .bool true ∧ ∃ a3 c3, LogP h3 h.next 20 a3 c3 (enc [abc]) 0 ∧ Grew hx h3 (fun b => b = h.next) ∧ (∀ b, blk a3 b → hx.next ≤ b)) := fun hx x g hc hx1 hx2 hx3 => by
    refine (append_w G _ (hl1.grew g fun _ _ h => h) (by omega) abc (some ⟨x, 0, none⟩) 3 (Sl.row hc hx2) (by show 3 ≤ _; omega) fun b hb => ?_).mono ?_
    · obtain ⟨o, s, e⟩ := hb
      cases e
      exact ⟨hx3, fun hx => by
        rcases hx with hx | ⟨o, s, hx⟩
        · omega
        · cases hx⟩
    rintro v h3 ⟨yes3, _⟩
    obtain ⟨rfl, a3, c3, hl3, hg3, hb3⟩ := yes3 (by show 0 + (4 + 3) ≤ 20; omega)
    rw [List.nil_append, he] at hl3
    refine ⟨rfl, a3, c3, hl3, hg3.mono fun b _ hb => ?_, fun b hb => ?_⟩
    · rcases hb with hx | ⟨o, s, hx⟩
      · exact hx
      · cases hx
    · rcases hb3 b hb with ⟨o, s, hx⟩ | hx
      · cases hx
      · exact hx
  have two : ∀ (hx : Heap) (x : Nat) (a3 : Option Addr) (c3 : Nat), LogP hx h.next 20 a3 c3 (enc [abc]) 0 → Sl hx (some ⟨x, 0, none⟩) (bv (List.replicate 10 0)) → x < hx.next → ¬ LogB h.next a3 x → CallE (pp G) 21 [.pointer (some ⟨h.next, 0, none⟩), .slice (some ⟨x, 0, none⟩) 10 10] hx (fun v h3 => v = .bool false ∧ h3 = hx) := fun hx x a3 c3 l hs hlt hn => by
    refine (append_w G _ l (by omega) (List.replicate 10 0) (some ⟨x, 0, none⟩) 10 hs (by simp) fun b hb => ?_).mono ?_
    · obtain ⟨o, s, e⟩ := hb
      cases e
      exact ⟨hlt, hn⟩
    rintro v h5 ⟨_, no5⟩
    exact no5 (by show ¬ 7 + (4 + 10) ≤ 20; omega)
  have gA : Gr h1 (h1.add (O (bv abc) 5 false)) := (Gr.refl h1).add' _
  have gB : Gr h1 ((h1.add (O (bv abc) 5 false)).add (O (bv (List.replicate 10 0)) 5 false)) := gA.add' _
  have gD : Gr h1 ((h1.add (O (bv (List.replicate 10 0)) 5 false)).add (O (bv abc) 5 false)) := ((Gr.refl h1).add' _).add' _
  have cB : cells ((h1.add (O (bv abc) 5 false)).add (O (bv (List.replicate 10 0)) 5 false)) (h1.next + 1) = some (bv (List.replicate 10 0), 5, false) := cells_add_s _ _ _ _ (by rw [next_add])
  have cD0 : cells (h1.add (O (bv (List.replicate 10 0)) 5 false)) h1.next = some (bv (List.replicate 10 0), 5, false) := cells_add_s _ _ _ _ rfl
  have cD : cells ((h1.add (O (bv (List.replicate 10 0)) 5 false)).add (O (bv abc) 5 false)) h1.next = some (bv (List.replicate 10 0), 5, false) := (Grew.add _ _ (fun _ => False)).cellsE cD0 (by rw [next_add]; omega) fun h => h
  have sub : ∀ (hx h3 : Heap) (x : Nat) (a3 : Option Addr) (c3 : Nat), LogP h3 h.next 20 a3 c3 (enc [abc]) 0 → Grew hx h3 (fun b => b = h.next) → (∀ b, blk a3 b → hx.next ≤ b) → cells hx x = some (bv (List.replicate 10 0), 5, false) → hx.lo ≤ x → h1.next ≤ x → x < hx.next → CallE (pp G) 21 [.pointer (some ⟨h.next, 0, none⟩), .slice (some ⟨x, 0, none⟩) 10 10] h3 (fun v h4 => v = .bool false ∧ h4 = h3) := fun hx h3 x a3 c3 l3 g3 b3 hc q1 q2 q3 =>
    two h3 x a3 c3 l3 (Sl.row (g3.cellsE hc q3 (by omega)) (by rw [g3.lo]; exact q1)) (Nat.lt_of_lt_of_le q3 g3.next) fun hb => by
      rcases hb with hb | hb
      · omega
      · have := b3 _ hb; omega
  simp (disch := first | omega | (refine id ?_; simp only [push_cast]; done) | (refine id ?_; simp only [push_cast]; omega)) only [push_cast, Nat.reduceAdd, Nat.reduceMul, Nat.reduceSub, Nat.reduceLT, Nat.reduceEqDiff, Nat.reduceLeDiff, Int.reduceToNat, reduceCtorEq, Int.reduceLT, Int.reduceLE, Int.reduceAdd, Int.reduceSub, Int.reduceMul, Int.reduceNeg, Int.reduceEq, rg_get1, abcS, hcv2, hten, hcv3, hcv4, Int.toNat_natCast]
  refine ⟨⟨⟨?A, ?B⟩, ?C⟩, ?D⟩
  case' A =>
    refine CallE.to (one _ h1.next gA hc2 (Nat.le_refl _) hl2' (by rw [next_add]; omega)) ?_
    rintro v h3 ⟨rfl, a3, c3, l3, g3, b3⟩
    simp (disch := first | omega | (refine id ?_; simp only [push_cast]; done) | (refine id ?_; simp only [push_cast]; omega)) only [push_cast, Nat.reduceAdd, Nat.reduceMul, Nat.reduceSub, Nat.reduceLT, Nat.reduceEqDiff, Nat.reduceLeDiff, Int.reduceToNat, reduceCtorEq, Int.reduceLT, Int.reduceLE, Int.reduceAdd, Int.reduceSub, Int.reduceMul, Int.reduceNeg, Int.reduceEq, hten, Int.toNat_natCast]
    have hlo3 : h3.lo ≤ h3.next := by have e1 := g3.lo; have e2 := g3.next; rw [lo_add] at e1; rw [next_add] at e2; omega
    refine CallE.to (two (h3.add (O (bv (List.replicate 10 0)) 5 false)) h3.next a3 c3 (l3.grew (Grew.add _ _ (fun _ => False)) fun _ _ h => h) (Sl.row (cells_add_s _ _ _ _ rfl) (by rw [lo_add]; exact hlo3)) (by rw [next_add]; omega) fun hb => by have := l3.low _ hb; omega) ?_
    rintro v h5 ⟨rfl, e⟩
    have hl4 : LogP h5 h.next 20 a3 c3 (enc [abc]) 0 := by rw [e]; exact l3.grew (Grew.add _ _ (fun _ => False)) fun _ _ h => h
    clear e g3 b3 hlo3 l3
  case' B =>
    refine CallE.to (one _ h1.next gB hc3 (Nat.le_refl _) hl3' (by rw [next_add, next_add]; omega)) ?_
    rintro v h3 ⟨rfl, a3, c3, l3, g3, b3⟩
    simp (disch := first | omega | (refine id ?_; simp only [push_cast]; done) | (refine id ?_; simp only [push_cast]; omega)) only [push_cast, Nat.reduceAdd, Nat.reduceMul, Nat.reduceSub, Nat.reduceLT, Nat.reduceEqDiff, Nat.reduceLeDiff, Int.reduceToNat, reduceCtorEq, Int.reduceLT, Int.reduceLE, Int.reduceAdd, Int.reduceSub, Int.reduceMul, Int.reduceNeg, Int.reduceEq, hten, Int.toNat_natCast]
    refine CallE.to (sub _ h3 (h1.next + 1) a3 c3 l3 g3 b3 cB (by omega) (by omega) (by rw [next_add, next_add]; omega)) ?_
    rintro v h5 ⟨rfl, e⟩
    have hl4 : LogP h5 h.next 20 a3 c3 (enc [abc]) 0 := by rw [e]; exact l3
    clear e g3 b3 l3
  case' C =>
    refine CallE.to (one _ h1.next gB hc3 (Nat.le_refl _) hl3' (by rw [next_add, next_add]; omega)) ?_
    rintro v h3 ⟨rfl, a3, c3, l3, g3, b3⟩
    simp (disch := first | omega | (refine id ?_; simp only [push_cast]; done) | (refine id ?_; simp only [push_cast]; omega)) only [push_cast, Nat.reduceAdd, Nat.reduceMul, Nat.reduceSub, Nat.reduceLT, Nat.reduceEqDiff, Nat.reduceLeDiff, Int.reduceToNat, reduceCtorEq, Int.reduceLT, Int.reduceLE, Int.reduceAdd, Int.reduceSub, Int.reduceMul, Int.reduceNeg, Int.reduceEq, hten, Int.toNat_natCast]
    refine CallE.to (sub _ h3 (h1.next + 1) a3 c3 l3 g3 b3 cB (by omega) (by omega) (by rw [next_add, next_add]; omega)) ?_
    rintro v h5 ⟨rfl, e⟩
    have hl4 : LogP h5 h.next 20 a3 c3 (enc [abc]) 0 := by rw [e]; exact l3
    clear e g3 b3 l3
  case' D =>
    refine CallE.to (one _ (h1.next + 1) gD hc4 (by omega) hl4' (by rw [next_add, next_add]; omega)) ?_
    rintro v h3 ⟨rfl, a3, c3, l3, g3, b3⟩
    simp (disch := first | omega | (refine id ?_; simp only [push_cast]; done) | (refine id ?_; simp only [push_cast]; omega)) only [push_cast, Nat.reduceAdd, Nat.reduceMul, Nat.reduceSub, Nat.reduceLT, Nat.reduceEqDiff, Nat.reduceLeDiff, Int.reduceToNat, reduceCtorEq, Int.reduceLT, Int.reduceLE, Int.reduceAdd, Int.reduceSub, Int.reduceMul, Int.reduceNeg, Int.reduceEq, hten, Int.toNat_natCast]
    refine CallE.to (sub _ h3 h1.next a3 c3 l3 g3 b3 cD (by rw [lo_add, lo_add]; omega) (Nat.le_refl _) (by rw [next_add, next_add]; omega)) ?_
    rintro v h5 ⟨rfl, e⟩
    have hl4 : LogP h5 h.next 20 a3 c3 (enc [abc]) 0 := by rw [e]; exact l3
    clear e g3 b3 l3
  all_goals
    simp (disch := first | omega | (refine id ?_; simp only [push_cast]; done) | (refine id ?_; simp only [push_cast]; omega)) only [push_cast, Nat.reduceAdd, Nat.reduceMul, Nat.reduceSub, Nat.reduceLT, Nat.reduceEqDiff, Nat.reduceLeDiff, Int.reduceToNat, reduceCtorEq, Int.reduceLT, Int.reduceLE, Int.reduceAdd, Int.reduceSub, Int.reduceMul, Int.reduceNeg, Int.reduceEq]
    refine CallE.to (records_w G _ hl4 (by omega) [abc] [] (List.append_nil _).symm tor) ?_
    rintro v h6 ⟨⟨a6, c6, rfl, ⟨⟨cs6, hown6, hrow6⟩, _⟩⟩, hg6⟩
    have hl6 := hl4.grew hg6 fun _ _ h => h
    simp (disch := first | omega | (refine id ?_; simp only [push_cast]; done) | (refine id ?_; simp only [push_cast]; omega)) only [push_cast, Nat.reduceAdd, Nat.reduceMul, Nat.reduceSub, Nat.reduceLT, Nat.reduceEqDiff, Nat.reduceLeDiff, Int.reduceToNat, reduceCtorEq, Int.reduceLT, Int.reduceLE, Int.reduceAdd, Int.reduceSub, Int.reduceMul, Int.reduceNeg, Int.reduceEq]
    refine CallE.to (len_w G _ hl6) ?_
    rintro _ _ ⟨rfl, e⟩
    rw [e]
    clear e
    have h7 : ((enc [abc]).length : Int) = 7 := rfl
    rw [h7]
    simp (disch := first | omega | (refine id ?_; simp only [push_cast]; done) | (refine id ?_; simp only [push_cast]; omega)) only [push_cast, Nat.reduceAdd, Nat.reduceMul, Nat.reduceSub, Nat.reduceLT, Nat.reduceEqDiff, Nat.reduceLeDiff, Int.reduceToNat, reduceCtorEq, Int.reduceLT, Int.reduceLE, Int.reduceAdd, Int.reduceSub, Int.reduceMul, Int.reduceNeg, Int.reduceEq]
    refine CallE.to (sure_w G _ hl6) ?_
    rintro _ _ ⟨rfl, e⟩
    rw [e]
    clear e
    obtain ⟨aj, cj, q1, q2, _⟩ := hrow6 0 abc rfl
    obtain ⟨b7, o7, rfl, hld7⟩ := hown6.sl.load T_knd_23 q1
    rw [load_eq, T_knd_23, Nat.add_zero] at hld7
    have hcv := cv_text T_cnvT_23_9 q2 rfl (c := cj)
    simp (disch := first | omega | (refine id ?_; simp only [push_cast]; done) | (refine id ?_; simp only [push_cast]; omega)) only [push_cast, Nat.reduceAdd, Nat.reduceMul, Nat.reduceSub, Nat.reduceLT, Nat.reduceEqDiff, Nat.reduceLeDiff, Int.reduceToNat, reduceCtorEq, Int.reduceLT, Int.reduceLE, Int.reduceAdd, Int.reduceSub, Int.reduceMul, Int.reduceNeg, Int.reduceEq, hld7, hcv, b_eqls, beq_self_eq_true]
    rfl
theorem known_calls (w : World) : Calls Try.prog 13 #[] w fun e w' => e = .returned (.bool true) ∧ Go.RowKit.Below w.heap.size w w' :=
  calls_of_callE (P := Try.prog) (NG := 0) (s := fun _ => 0) (t := fun _ => .empty) (Nat.zero_le _) (known_c w.heap.size (baseH w)) rfl rfl rfl
theorem known_w (G : Nat) (h : Heap) : CallE (pp G) 13 [] h (fun v h' => v = .bool true ∧ h' = h) :=
  CallE.of_calls (good G) Try.func13 rfl rfl rfl known_calls
end
end Go.Proofs.Ytohdgkmgkcoilaa

namespace Go.Proofs.Ytohdgkmgkcoilaa
open Go Go.ChangeShapes Go.WideShapes Go.ChangeAt Go.RowKit Go.Ev
set_option linter.unusedVariables false
set_option maxRecDepth 100000

/-- a row of bytes that came in -/
theorem open_bs2 {W : World} {base : Nat} {v : Value} {H : Type} {enc : TypeId × Value → H} {d : DataW H} {p : List MemPlace} (hv : Value.okWide Try.prog W .any base 23 v) (h : DataW.Trod enc Try.prog W 0 (fun _ => true) true 23 v d p)
    (hsz : ∀ elems spare : List (DataW H), d = .slice elems spare → (elems.length + spare.length) * Try.checked.prog.bytesOf 5 ≤ reachBytes) :
    ∃ (xs : List Int) (a : Option Addr) (c : Nat), v = .slice a xs.length c ∧ Sl (baseH W) a (bv xs) ∧ (∀ b, blk a b → b < (baseH W).next) ∧ pl (.slice a xs.length c) = true ∧ sc W.heap.size (.slice a xs.length c) = true ∧ c < UC ∧ xs.length ≤ c ∧ (a = none → c = 0) := by
  obtain ⟨a1, len1, cap1, rfl⟩ := okWide_slice Try.underlying23 hv
  obtain ⟨fuel, hf⟩ := h
  rcases open_ints (k := .u8) Try.underlying23 Try.underlying5 (by kernel_rfl) hf with ⟨h1, _⟩ | ⟨a, len, cap, zs, h1, _, hle, hmx, hzl, hx, hcells, _⟩
  · cases h1
    exact ⟨[], none, 0, rfl, Sl.nil _ spotN_n, (fun b hb => by obtain ⟨o, s, hb⟩ := hb; cases hb), rfl, rfl, by unfold UC; decide, Nat.le_refl _, fun _ => rfl⟩
  · cases h1
    simp only [Value.okWide, Try.underlying23, Cell.okWide, Cell.ok, World.has] at hv
    obtain ⟨_, _, _, hspot, row, cells', hshape, _⟩ := hv
    obtain ⟨b, off, sp⟩ := a
    have hspot : sp = none := hspot
    subst hspot
    have hbl : b < W.heap.size := by
      rcases Nat.lt_or_ge b W.heap.size with h2 | h2
      · exact h2
      · simp [World.shape?, Array.getElem?_eq_none h2] at hshape
    have hzl : zs.length = cap1 := hzl
    have hcap : cap1 < UC := by
      have h3 := hsz (lits .u8 (zs.take len1)) (lits .u8 (zs.drop len1)) (by cases hx; rfl)
      have h4 : Try.checked.prog.bytesOf 5 = 1 := by kernel_rfl
      rw [h4] at h3
      simp only [lits, List.length_map, List.length_take, List.length_drop] at h3
      have h5 : reachBytes = 140737488351232 := rfl
      have h6 : UC = 1152921504606846976 := by unfold UC; rfl
      omega
    have hlen : (zs.take len1).length = len1 := by rw [List.length_take]; omega
    have hsl := base_sl (W := W) (b := b) (off := off) (len := len1) (zs := zs) (by omega) hcells
    refine ⟨zs.take len1, some ⟨b, off, none⟩, cap1, by rw [hlen], hsl, (fun b' hb => by obtain ⟨o, s, hb⟩ := hb; cases hb; exact hbl), ?_, ?_, hcap, by rw [hlen]; omega, fun h => by cases h⟩
    · simp only [pl]; simpa using hcap
    · simp only [sc, scA]; simpa using hbl

end Go.Proofs.Ytohdgkmgkcoilaa
