/-
  A part of the proof: conditions over an abstract memory, and that they are enough for what the model's calls do. No condition of its own.
-/
import Derived.Test.YtlbpiiehanibfaaDoorEna
import Derived.Test.YtlbpiiehanibfaaDoorExc
set_option linter.unusedSimpArgs false
set_option linter.unusedVariables false
namespace Go.Proofs.YtlbpiiehanibfaaDoor
open Go Go.RowKit Go.Ev Go.Dv
noncomputable section
set_option maxRecDepth 100000
variable (G : Nat × Nat)
def Fine (x : Ex) : Prop := jG 3 x = true ∧ smF x = true ∧ inF x
theorem fine_num {n : Int} (h : 0 ≤ n) (h2 : In n) : Fine (.mk 1 n [] []) := by
 refine ⟨?_, by simp [smF, smL], ⟨h2, trivial⟩⟩
 simp [jG, jK, h]
theorem fine_var {n : Int} (h : 0 ≤ n ∧ n < 3) : Fine (.mk 2 n [] []) := by
 refine ⟨?_, by simp [smF, smL], ⟨by unfold In; omega, trivial⟩⟩
 simp [jG, jK, h.1, h.2]
theorem fine_one {k : Int} {a : Ex} (hk : k = 3 ∨ k = 4) (ha : Fine a) : Fine (.mk k 0 [] [a]) := by
 refine ⟨?_, by simp [smF, smL, ha.2.1], ⟨by unfold In; omega, ha.2.2, trivial⟩⟩
 have h1 : ¬ k = 1 := by omega
 have h2 : ¬ k = 2 := by omega
 simp [jG, jK, h1, h2, hk, ha.1]
theorem fine_two {k : Int} {a b : Ex} (hk : 5 ≤ k ∧ k ≤ 17) (ha : Fine a) (hb : Fine b) : Fine (.mk k 0 [] [a, b]) := by
 refine ⟨?_, by simp [smF, smL, ha.2.1, hb.2.1], ⟨by unfold In; omega, ha.2.2, hb.2.2, trivial⟩⟩
 have h1 : ¬ k = 1 := by omega
 have h2 : ¬ k = 2 := by omega
 have h3 : ¬ (k = 3 ∨ k = 4) := by omega
 simp [jG, jK, h1, h2, h3, hk, ha.1, hb.1]
theorem mk_fine : ∀ x : Ra, Fine (mkF [] x)
 | .mk k n l => by
  have ih : ∀ x ∈ l, Fine (mkF [] x) := fun x hx => mk_fine x
  have hp : ∀ i, Fine (partF n (mkL [] l) i) := fun i => by
   rw [partF, mkL_map, List.getD_eq_getElem?_getD, List.getElem?_map]
   cases hx : l[i]? with
   | none =>
    have := withF_lt (a := W (n + i)) (n := 5) (by omega)
    exact fine_num this.1 (by unfold In; omega)
   | some x => exact ih x (List.mem_of_getElem? hx)
  have hk := withF_lt (a := k) (n := 24) (by omega)
  rw [mkF]
  generalize qD k 24 = w at hk ⊢
  split
  ·have hw := withF_lt (a := n) (n := 8) (by omega)
   have : ∀ j, j < 8 → 0 ≤ numsF.getD j 0 ∧ In (numsF.getD j 0) := fun j hj => by
    match j, hj with
    | 0, _ | 1, _ | 2, _ | 3, _ | 4, _ | 5, _ | 6, _ | 7, _ => exact ⟨by decide, by unfold In; decide⟩
   have := this (qD n 8).toNat (by omega)
   exact fine_num this.1 this.2
  split
  ·rename_i h; exact absurd h.2 (by simp)
  split
  ·exact fine_var (withF_lt (by omega))
  split
  ·exact fine_one (.inl rfl) (hp 0)
  split
  ·exact fine_one (.inr rfl) (hp 0)
  ·exact fine_two (by omega) (hp 0) (hp 1)
theorem one_fine (l : List Ra) : Fine (firstF [] l) := by
 cases l with
 | nil => exact fine_num (by omega) (by unfold In; omega)
 | cons x l => exact mk_fine x
def curF (vars : List Int) (i : Nat) : List Int := vars.take i ++ [1, 2, 3].drop i
theorem curF_step (vars : List Int) (i : Nat) (h : i < 3) (h2 : i < vars.length) : setFrom (ivs (curF vars i)) i [.int .i64 (vars.getD i 0)] = ivs (curF vars (i + 1)) := by
 match i, vars, h, h2 with
 | 0, a :: l, _, _ => rfl
 | 1, a :: b :: l, _, _ => rfl
 | 2, a :: b :: c :: l, _, _ => rfl
theorem curF_len (vars : List Int) (i : Nat) (h : i ≤ 3) (h2 : i ≤ vars.length) : (curF vars i).length = 3 := by
 simp [curF]; omega
theorem curF_in {vars : List Int} (hv : ∀ a ∈ vars, In a) (i : Nat) : ∀ a ∈ curF vars i, In a := fun a ha => by
 rcases List.mem_append.1 ha with h | h
 ·exact hv a (List.mem_of_mem_take h)
 ·have := List.mem_of_mem_drop h
  simp only [List.mem_cons, List.not_mem_nil, or_false] at this
  rcases this with rfl | rfl | rfl <;> (unfold In; omega)
theorem row3 (σ : Heap) : bsD (qv.m 41) (slT Tryd.prog 41) 3 [(0, (.int .i64 1)), (1, (.int .i64 2)), (2, (.int .i64 3))] σ = some (.slice (some ⟨σ.next, 0, none⟩) 3 3, σ.add (O (ivs [1, 2, 3]) eI false)) := by kernel_rfl
end
end Go.Proofs.YtlbpiiehanibfaaDoor
namespace Go.Proofs.YtlbpiiehanibfaaDoor
open Go Go.RowKit Go.Ev Go.Dv
noncomputable section
set_option maxRecDepth 100000
section
variable {w : World} {H : Type} {enc : TypeId × Value → H}
theorem u_int : Tryd.prog.underlying eI = some (.int .i64) := by kernel_rfl
theorem u_ints : Tryd.prog.underlying 41 = some (.slice eI) := by kernel_rfl
theorem u_raws : Tryd.prog.underlying 22 = some (.slice eR) := by kernel_rfl
theorem f_raw : fieldsB Tryd.prog eR [(eI, 0), (eI, 1), (22, 2)] = true := by kernel_rfl
theorem raCs_flat : ∀ l : List Ra, l.flatMap raC = raCs l
 | [] => rfl
 | x :: l => by rw [List.flatMap_cons, raCs_flat l, raCs]
theorem ivs_flat : ∀ l : List Int, (l.flatMap fun i => [Value.int .i64 i]) = ivs l
 | [] => rfl
 | x :: l => by rw [List.flatMap_cons, ivs_flat l]; rfl
theorem smRs_of : ∀ {l : List Ra}, (∀ x ∈ l, smR x = true) → smRs l = true
 | [], _ => rfl
 | x :: l, h => by rw [smRs, h x (by simp), smRs_of fun y hy => h y (by simp [hy])]; rfl
theorem open_ivs {fuel : Nat} {cs : List Value} {x : DataW H × List MemPlace} (h : DataW.trod enc Tryd.prog w 0 (fun _ => true) true fuel 41 cs = some x) (hw : (x.1.weights Tryd.prog 41).all (· ≤ reachBytes) = true) :
  ∃ l : List Int, Go.Dv.Op Tryd.prog 6 LL w [ivV l] cs ∧ (∀ a ∈ l, In a) ∧ l.length < 1000000000000000 := by
 obtain ⟨l, h1, h2, h3⟩ := open_slice (n := 6) (L := LL) u_ints (size := 1) (by kernel_rfl) (by kernel_rfl) (by omega) (of_decide_eq_true (by kernel_rfl)) (fun i => [Value.int .i64 i]) In h hw fun k c y _ hy _ => by
  obtain ⟨m, rfl, h1, h2⟩ := open_num (n := 6) (L := LL) u_int hy
  exact ⟨m, h1, in_wf h2⟩
 rw [ivs_flat] at h1
 exact ⟨l, h1, h2, h3⟩
theorem open_ras : ∀ (fuel : Nat) {cs : List Value} {x : DataW H × List MemPlace}, DataW.trod enc Tryd.prog w 0 (fun _ => true) true fuel 22 cs = some x → (x.1.weights Tryd.prog 22).all (· ≤ reachBytes) = true →
  ∃ l : List Ra, Go.Dv.Op Tryd.prog 6 LL w [rasV l] cs ∧ smRs l = true ∧ l.length < 1000000000000000 := by
 intro fuel
 induction fuel using Nat.strongRecOn with
 | ind fuel ih =>
 intro cs x h hw
 obtain ⟨l, h1, h2, h3⟩ := open_slice (n := 6) (L := LL) u_raws (size := 3) (by kernel_rfl) (by kernel_rfl) (by omega) (of_decide_eq_true (by kernel_rfl)) raC (fun r => smR r = true) h hw fun k c y hk hy hwy => by
  obtain ⟨k', hk', hl, hfs⟩ := open_struct f_raw hy hwy
  rw [show Tryd.prog.cellsOf eR = 3 by kernel_rfl] at hl
  match c, hl with
  | [a, b, d], _ =>
   obtain ⟨y0, t0, _⟩ := hfs 0 _ _ rfl
   obtain ⟨y1, t1, _⟩ := hfs 1 _ _ rfl
   obtain ⟨y2, t2, w2⟩ := hfs 2 _ _ rfl
   rw [show Tryd.prog.cellsOf eI = 1 by kernel_rfl] at t0 t1
   rw [show Tryd.prog.cellsOf 22 = 1 by kernel_rfl] at t2
   obtain ⟨m0, e0, o0, _⟩ := open_num (n := 6) (L := LL) u_int t0
   obtain ⟨m1, e1, o1, _⟩ := open_num (n := 6) (L := LL) u_int t1
   obtain ⟨l2, o2, s2, n2⟩ := ih k' (by omega) t2 w2
   refine ⟨.mk m0 m1 l2, ?_, ?_⟩
   ·exact (o0.append o1).append o2
   ·simp only [smR, s2, Bool.and_true, decide_eq_true_eq]; exact n2
 rw [raCs_flat] at h1
 exact ⟨l, h1, smRs_of h2, h3⟩
end
end
end Go.Proofs.YtlbpiiehanibfaaDoor
namespace Go.Proofs.YtlbpiiehanibfaaDoor
open Go Go.RowKit Go.Ev Go.Dv
noncomputable section
set_option maxRecDepth 100000
variable (G : Nat × Nat)
mutual
theorem right_mono : ∀ x : Ex, jG 3 x = true → jG 4 x = true
 | .mk k n s l, h => by
  rw [jG, Bool.and_eq_true, Bool.and_eq_true] at h ⊢
  refine ⟨⟨?_, h.1.2⟩, rightL_mono l h.2⟩
  have h1 := h.1.1
  by_cases c1 : k = 1 ∧ 0 ≤ n
  ·rw [if_pos c1] at h1 ⊢; exact h1
  rw [if_neg c1] at h1 ⊢
  by_cases c2 : k = 2 ∧ 0 ≤ n ∧ n < 3
  ·rw [if_pos c2] at h1; rw [if_pos ⟨c2.1, c2.2.1, by omega⟩]; exact h1
  rw [if_neg c2] at h1
  by_cases c3 : k = 3 ∨ k = 4
  ·rw [if_pos c3] at h1; rw [if_neg (by omega), if_pos c3]; exact h1
  rw [if_neg c3] at h1
  by_cases c4 : 5 ≤ k ∧ k ≤ 17
  ·rw [if_pos c4] at h1; rw [if_neg (by omega), if_neg c3, if_pos c4]; exact h1
  rw [if_neg c4] at h1
  cases h1
theorem rightL_mono : ∀ l : List Ex, jK 3 l = true → jK 4 l = true
 | [], _ => rfl
 | x :: l, h => by
  rw [jK, Bool.and_eq_true] at h ⊢
  exact ⟨right_mono x h.1, rightL_mono l h.2⟩
end
def shE (k : Int) (x : Ex) : Ex := .mk k 0 [] [.mk 2 3 [] [], x]
theorem shE_right {k : Int} {x : Ex} (hk : k = 16 ∨ k = 17) (hx : jG 3 x = true) : jG 4 (shE k x) = true := by
 have h4 := right_mono x hx
 unfold shE
 rcases hk with rfl | rfl <;> simp [jG, jK, h4]
theorem shE_sm {k : Int} {x : Ex} (hx : smF x = true) : smF (shE k x) = true := by simp [shE, smF, smL, hx]
theorem shE_eval (cur : List Int) (hc : cur.length = 3) (left : Int) (x : Ex) (k : Int) (hk : k = 16 ∨ k = 17) :
  jD (cur ++ [left]) (shE k x) = if k = 16 ∧ left = 0 then (0, 0) else if k = 17 ∧ left ≠ 0 then (1, 0) else
   if (jD (cur ++ [left]) x).2 = 0 then (jR (!decide ((jD (cur ++ [left]) x).1 = 0)), 0) else (0, (jD (cur ++ [left]) x).2) := by
 have e0 : jD (cur ++ [left]) (.mk 2 3 [] []) = (left, 0) := by
  rw [jD, if_neg (by omega), if_pos rfl]
  have : (cur ++ [left]).getD (Int.toNat 3) 0 = left := by
   rw [show Int.toNat 3 = 3 from rfl, List.getD_eq_getElem?_getD, List.getElem?_append_right (by omega), hc]
   rfl
  rw [this]
 have e2 : ∀ a b, twoF k a b = (jR (!decide (b = 0)), 0) := fun a b => by
  unfold twoF
  rcases hk with rfl | rfl <;> simp
 unfold shE
 rw [evalF_2 (by omega) (by omega), e0, e2]
 simp only [if_true]
def var (n : Int) : List Value := [.int .i64 2, .int .i64 n, .string (Tx []), .slice none 0 0]
theorem fz_var (P : Program) (n : Nat) (σ : Heap) (hs : szT P eE = some 4) (i : Int) {vs ds : List Value} (h : FzL P n σ vs ds) : FzL P n σ (var i ++ vs) (exC (.mk 2 i [] []) ++ ds) := by
 refine .cons (.id rfl) (.cons (.id rfl) (.cons (.id rfl) (.cons ?_ h)))
 exact .nil hs (by omega)
theorem row1L (x : Int) (σ : Heap) : bsD (qv.m 41) (slT Tryd.prog 41) 1 [(0, .int .i64 x)] σ = some (.slice (some ⟨σ.next, 0, none⟩) 1 1, σ.add (O (ivs [x]) eI false)) := by kernel_rfl
theorem ap4 {h : Heap} {cur : List Int} (hcl : cur.length = 3) (c6 : cells h 6 = some (ivs cur, 3, false)) (hl1 : h.lo = 6) (hl2 : h.next = 7) (left : Int) :
  apS 3 1 8 (.slice (some ⟨6, 0, none⟩) 3 3) (srcD 1 (.slice (some ⟨7, 0, none⟩) 1 1) (h.add (O (ivs [left]) eI false))) (h.add (O (ivs [left]) eI false)) = some (.slice (some ⟨8, 0, none⟩) 4 UC, (h.add (O (ivs [left]) eI false)).add (O (ivs (cur ++ [left])) eI true)) := by
 have c7 : cells (h.add (O (ivs [left]) eI false)) 7 = some (ivs [left], eI, false) := cells_add_s _ _ _ _ (by rw [hl2])
 have c6' : cells (h.add (O (ivs [left]) eI false)) 6 = some (ivs cur, 3, false) := by rw [cells_add_n _ _ (by rw [hl2]; omega)]; exact c6
 have hlo : (h.add (O (ivs [left]) eI false)).lo = 6 := by rw [qE, hl1]
 have hnx : (h.add (O (ivs [left]) eI false)).next = 8 := by rw [jI, hl2]
 have hsl : Sl (h.add (O (ivs [left]) eI false)) (some ⟨7, 0, none⟩) (ivs [left]) := Sl.row c7 (by omega)
 have hsc : srcCells 1 1 (.slice (some ⟨7, 0, none⟩) 1 1) (h.add (O (ivs [left]) eI false)) = some (ivs [left]) := Sl.src hsl rfl (by decide)
 have hsrc : srcD 1 (.slice (some ⟨7, 0, none⟩) 1 1) (h.add (O (ivs [left]) eI false)) = some (1, ivs [left]) := by
  unfold srcD
  simp only [lenV, hsc]
  rfl
 have e : ivs cur ++ ivs [left] = ivs (cur ++ [left]) := by simp [ivs]
 rw [hsrc]
 generalize h.add (O (ivs [left]) eI false) = h2 at c6' hlo hnx ⊢
 have h1 : (ivs [left]).all one = true := rfl
 simp only [apS, apB, h1, if_true, c6', hlo, hnx, ivs_len, hcl, e]
 rfl
theorem rowVX (x : Ex) (σ : Heap) : bsD (qv.m 25) (slT Tryd.prog 25) 2 [(0, .agg ⟨[.int .i64 2, .int .i64 3, .string (Tx []), .slice none 0 0]⟩), (1, exV x)] σ = some (Rw true eE 2 (var 3 ++ exC x), σ) := by
 cases x
 kernel_rfl
theorem fz_v4 {P : Program} (hs : szT P eI = some 1) {σ : Heap} {w : List Int} (hw : w.length = 4) (c8 : cells σ 8 = some (ivs w, 3, true)) (hl : σ.lo = 6) (hn : 8 < σ.next) : FzV P σ.lo σ (.slice (some ⟨8, 0, none⟩) 4 UC) (ivV w) := by
 have ho : OwnD σ eI 1 (some ⟨8, 0, none⟩) 4 UC (ivs w) := ⟨by rw [ivs_len, hw], by simp [ivs, one], .inr ⟨8, true, rfl, by omega, hn, c8, .inl ⟨rfl, rfl⟩⟩⟩
 have := ho.fz (P := P) (N := σ.lo) hs (by omega) (by omega) (.ids (ivs_sc ..)) fun b hb => by obtain ⟨o, t, e⟩ := hb; cases e; omega
 rw [ivV, hw]
 exact this
theorem fz_sh {P : Program} (hs : szT P eE = some 4) {n : Nat} (hn : 0 < n) {σ : Heap} (k : Int) (x : Ex) : FzV P n σ (.agg ⟨[.int .i64 k, .int .i64 0, .string (Tx []), Rw true eE 2 (var 3 ++ exC x)]⟩) (exV (shE k x)) := by
 have e : qW [.mk 2 3 [] [], x] = exC (.mk 2 3 [] []) ++ exC x := by rw [qW, qW, qW, List.append_nil]
 refine .agg (.cons (.id rfl) (.cons (.id rfl) (.cons (.id rfl) (.cons ?_ .nil))))
 show FzV P n σ (Rw true eE 2 (var 3 ++ exC x)) (Rw false eE 2 (qW [.mk 2 3 [] [], x]))
 rw [e]
 exact .row (fz_var P n σ hs 3 (.ids (exC_sc n hn x)))
inductive I11 (l : List Ra) (left : Int) (or : Bool) (vars : List Int) : Nat → S → Prop
 | mk (i : Nat) (iv : Int) (h : Heap) {x4 x5 x6 x7 x8 x11 x12 x13 x14 x15 x16 x17 x18 x19 x20 x21 x22 x23 x24 x25 x26 x27 x28 x29 x30 x31 x32 x33 x34 x35 x36 x37 x38 x39 x40 x41 x42 x43 x44 x45 x46 x47 x48 x49 x50 x51 x52 x53 x54 x55 x56 x57 x58 x59 x60 x61 x62 x63 x64 x65 x66 x67 x68 x69 x70 x71 x72 x73 x74 x75 x76 x77 x78 x79 x80 x81 x82 x83 x84 x85 x86 x87 x88 x89 x90 x91 x92 x93 x94 x95 x96 x97 x98 x99 x100 x101 x102 x103 : Value} (hiv : iv = (i : Int)) (hi : i ≤ 3) (hi2 : i ≤ vars.length) (c6 : cells h 6 = some (ivs (curF vars i), 3, false)) (hl1 : h.lo = 6) (hl2 : h.next = 7) :
  I11 l left or vars (3 - i) ⟨(F104 (rasV l) (.int .i64 left) (.bool or) (Rw false eI vars.length (ivs vars)) x4 x5 x6 x7 x8 (.slice (some ⟨6, 0, none⟩) 3 3) (.int .i64 iv) x11 x12 x13 x14 x15 x16 x17 x18 x19 x20 x21 x22 x23 x24 x25 x26 x27 x28 x29 x30 x31 x32 x33 x34 x35 x36 x37 x38 x39 x40 x41 x42 x43 x44 x45 x46 x47 x48 x49 x50 x51 x52 x53 x54 x55 x56 x57 x58 x59 x60 x61 x62 x63 x64 x65 x66 x67 x68 x69 x70 x71 x72 x73 x74 x75 x76 x77 x78 x79 x80 x81 x82 x83 x84 x85 x86 x87 x88 x89 x90 x91 x92 x93 x94 x95 x96 x97 x98 x99 x100 x101 x102 x103), [], h⟩
theorem short_law (hk : jC (pp G) H0 13 [] (.bool true)) (l : List Ra) (left : Int) (or : Bool) (vars : List Int) (hll : l.length < 1000000000000000) (hsm : smRs l = true) (hleft : In left) (hvl : vars.length < 1000000000000000) (hv : ∀ a ∈ vars, In a) :
  jC (pp G) H0 11 [rasV l, .int .i64 left, .bool or, ivV vars] (.bool true) := by
 have hlo : H0.lo ≤ H0.next := Nat.le_refl _
 refine jC.cut (jV.fir4 (q := qv) (jO G) fir11 (by kernel_rfl) rfl rfl (F104_arr ..) (Nat.le_refl _) ?_)
 rw [sd_ir11]
 unfold ivV
 simp (disch:=first|omega|(refine id ?_;simp only[push_cast];try omega)) only [push_cast,simprocAttr]
 refine jA.dataI (hk) (by and_intros <;> first | rfl | (simp (disch:=first|omega|(refine id ?_;simp only[push_cast];try omega)) only [push_cast])) ?_
 simp (disch:=first|omega|(refine id ?_;simp only[push_cast];try omega)) only [push_cast,simprocAttr]
 refine jA.dataI (few_f G l hll hsm) (by and_intros <;> first | rfl | (simp (disch:=first|omega|(refine id ?_;simp only[push_cast];try omega)) only [push_cast])) ?_
 by_cases hf : sizeF l 0 ≤ 20
 rotate_left
 ·simp (disch:=first|omega|(refine id ?_;simp only[push_cast];try omega)) only [push_cast,simprocAttr,hf]
  exact .id rfl
 simp (disch:=first|omega|(refine id ?_;simp only[push_cast];try omega)) only [push_cast,simprocAttr,hf,↓row3]
 obtain ⟨hr, hs, hn⟩ := one_fine l
 have hone := oneR_f G [] (by simp) l hsm hll
 generalize firstF [] l = x at hr hs hn hone
 have fzl : FzL (pp G).P H0.next H0 ([rasV l, .slice none 0 0] ++ []) [rasV l, nsV []] := .cons (.id (rasV_sc 6 (by decide) l)) (.cons (.nil (size := 1) rfl (by decide)) .nil)
 refine WD.loop4 (q := qv) (jO G) (by kernel_rfl) (I11 l left or vars) ?_ _ _ (I11.mk 0 0 _ rfl (by omega) (by omega) (by simp (disch:=first|omega|(refine id ?_;simp only[push_cast];try omega)) only [push_cast,simprocAttr]; exact rfl) rfl rfl)
 intro m s1 hI
 cases hI with | mk i iv h hiv hi hi2 c6 hl1 hl2 =>
 subst hiv
 have hcl := curF_len vars i hi hi2
 rw [sd_ir11_s0]
 by_cases h12 : (i : Int) < vars.length ∧ (i : Int) < 3
 ·obtain ⟨h1, h2⟩ := h12
  have hg := ivs_get' (l := vars) (i := i) (by omega)
  have hlt : i < vars.length := by omega
  have hlt3 : i < 3 := by omega
  have hst : (ivs (curF vars i)).take i ++ [.int .i64 (vars.getD i 0)] ++ (ivs (curF vars i)).drop (i + 1) = ivs (curF vars (i + 1)) := curF_step vars i hlt3 hlt
  have hcl' : (ivs (curF vars i)).length = 3 := by rw [ivs_len, hcl]
  simp (disch:=first|omega|(refine id ?_;simp only[push_cast];try omega)) only [push_cast,simprocAttr,h1,h2,hg,hlt,hlt3,Int.toNat_natCast,c6,hl1,hst,hcl']
  exact ⟨_,by omega,I11.mk (i + 1) _ _ (by first | rfl | omega) (by omega) (by omega) (by simp (disch:=first|omega|(refine id ?_;simp only[push_cast];try omega)) only [push_cast,simprocAttr]) (by first | exact hl1 | (simp (disch:=first|omega|(refine id ?_;simp only[push_cast];try omega)) only [push_cast,simprocAttr,hl1]; done)) (by first | exact hl2 | (simp (disch:=first|omega|(refine id ?_;simp only[push_cast];try omega)) only [push_cast,simprocAttr,hl2]; done))⟩
 ·have hcin := curF_in hv i
  generalize curF vars i = cur at hcl hcin c6
  have hor : ¬ (i : Int) < vars.length ∨ ((i : Int) < vars.length ∧ ¬ (i : Int) < 3) := by omega
  rcases hor with hA | hA <;> (first | (have hB := hA.2; have hA' := hA.1; simp (disch:=first|omega|(refine id ?_;simp only[push_cast];try omega)) only [push_cast,simprocAttr,hA',hB]) | simp (disch:=first|omega|(refine id ?_;simp only[push_cast];try omega)) only [push_cast,simprocAttr,hA])
  all_goals
   rw [sd_ir11_s1]
   cases or with
   | false =>
    simp (disch:=first|omega|(refine id ?_;simp only[push_cast];try omega)) only [push_cast,simprocAttr]
    rw [sd_ir11_s2]
    simp (disch:=first|omega|(refine id ?_;simp only[push_cast];try omega)) only [push_cast,simprocAttr,c6,hl1,hl2,↓row1L,ap4 hcl c6 hl1 hl2 left]
    refine jA.data hone fzl (by simp (disch:=first|omega|(refine id ?_;simp only[push_cast];try omega)) only [push_cast,simprocAttr]; rfl) (by simp (disch:=first|omega|(refine id ?_;simp only[push_cast];try omega)) only [push_cast,simprocAttr]) ?_
    simp (disch:=first|omega|(refine id ?_;simp only[push_cast];try omega)) only [push_cast,simprocAttr,↓rowVX]
    have e9 : h.next + 1 + 1 = 9 := by omega
    rw [e9]
    have hl : ((((h.add (O (ivs [left]) eI false)).add (O (ivs (cur ++ [left])) eI true)).add (O [Value.int IntKind.i64 0,Value.int IntKind.i64 0,Value.string (Tx []),Value.slice none 0 0] 27 false)).put 9 (O (exC x) 27 false)).lo = 6 := by simp (disch:=first|omega|(refine id ?_;simp only[push_cast];try omega)) only [push_cast,simprocAttr,hl1]
    have hnx : 8 < ((((h.add (O (ivs [left]) eI false)).add (O (ivs (cur ++ [left])) eI true)).add (O [Value.int IntKind.i64 0,Value.int IntKind.i64 0,Value.string (Tx []),Value.slice none 0 0] 27 false)).put 9 (O (exC x) 27 false)).next := by simp (disch:=first|omega|(refine id ?_;simp only[push_cast];try omega)) only [push_cast,simprocAttr,hl2]; try omega
    have c8 : cells ((((h.add (O (ivs [left]) eI false)).add (O (ivs (cur ++ [left])) eI true)).add (O [Value.int IntKind.i64 0,Value.int IntKind.i64 0,Value.string (Tx []),Value.slice none 0 0] 27 false)).put 9 (O (exC x) 27 false)) 8 = some (ivs (cur ++ [left]),3,true) := by simp (disch:=first|omega|(refine id ?_;simp only[push_cast];try omega)) only [push_cast,simprocAttr,hl2]
    have c9 : cells ((((h.add (O (ivs [left]) eI false)).add (O (ivs (cur ++ [left])) eI true)).add (O [Value.int IntKind.i64 0, Value.int IntKind.i64 0, Value.string (Tx []), Value.slice none 0 0] 27 false)).put 9 (O (exC x) 27 false)) 9 = some (exC x, 27, false) := cells_put_s _ _ _ _
    generalize (((h.add (O (ivs [left]) eI false)).add (O (ivs (cur ++ [left])) eI true)).add (O [Value.int IntKind.i64 0, Value.int IntKind.i64 0, Value.string (Tx []), Value.slice none 0 0] 27 false)).put 9 (O (exC x) 27 false) = σ at hl hnx c8 c9 ⊢
    have h4 : (cur ++ [left]).length = 4 := by rw [List.length_append, hcl]; rfl
    have h4i : ((cur ++ [left]).length : Int) = 4 := by rw [h4]; rfl
    have hin : ∀ a ∈ cur ++ [left], In a := fun a ha => by
     rcases List.mem_append.1 ha with ha | ha
     ·exact hcin a ha
     ·rw [List.mem_singleton.1 ha]; exact hleft
    have hr4 : jG (cur ++ [left]).length x = true := by rw [h4i]; exact right_mono x hr
    have hre := ref_f G (cur ++ [left]) x hr4
    rw [← (eval_is hin x hr4 hn).1] at hre
    have hev := eval_t G (cur ++ [left]) (shE 16 x) (shE_sm hs) (by omega) (by rw [h4i]; exact shE_right (by omega) hr)
    rw [shE_eval cur hcl left x 16 (by omega)] at hev
    generalize jD (cur ++ [left]) x = q at hev hre
    obtain ⟨qa, qe⟩ := q
    have fz1 := fz_sh (P := (pp G).P) rfl (n := σ.lo) (by omega) (σ := σ) 16 x
    have fz2 := fz_v4 (P := (pp G).P) rfl h4 c8 hl hnx
    by_cases h0 : left = 0
    ·rw [if_pos ⟨rfl, h0⟩] at hev
     refine jA.lend (hev) (.cons fz1 (.cons fz2 .nil)) rfl ?_
     simp (disch:=first|omega|(refine id ?_;simp only[push_cast];try omega)) only [push_cast,simprocAttr,c9,hl]
     refine jA.lend (hre) (.cons (.id (exV_sc _ (by omega) x)) (.cons fz2 .nil)) rfl ?_
     simp (disch:=first|omega|(refine id ?_;simp only[push_cast];try omega)) only [push_cast,simprocAttr,h0]
     rw [sd_ir11_s3]
     simp (disch:=first|omega|(refine id ?_;simp only[push_cast];try omega)) only [push_cast,simprocAttr]
     exact .id rfl
    ·rw [if_neg (fun h => h0 h.2), if_neg (by omega)] at hev
     by_cases hq : qe = 0
     ·subst hq
      rw [if_pos rfl] at hev
      refine jA.lend (hev) (.cons fz1 (.cons fz2 .nil)) rfl ?_
      simp (disch:=first|omega|(refine id ?_;simp only[push_cast];try omega)) only [push_cast,simprocAttr,c9,hl]
      refine jA.lend (hre) (.cons (.id (exV_sc _ (by omega) x)) (.cons fz2 .nil)) rfl ?_
      by_cases ha : qa = 0
      ·simp (disch:=first|omega|(refine id ?_;simp only[push_cast];try omega)) only [push_cast,simprocAttr,h0,ha,jR,beq_self_eq_true]
       exact .id rfl
      ·simp (disch:=first|omega|(refine id ?_;simp only[push_cast];try omega)) only [push_cast,simprocAttr,h0,ha,jR,beq_self_eq_true]
       exact .id rfl
     ·rw [if_neg hq] at hev
      refine jA.lend (hev) (.cons fz1 (.cons fz2 .nil)) rfl ?_
      simp (disch:=first|omega|(refine id ?_;simp only[push_cast];try omega)) only [push_cast,simprocAttr,c9,hl]
      refine jA.lend (hre) (.cons (.id (exV_sc _ (by omega) x)) (.cons fz2 .nil)) rfl ?_
      simp (disch:=first|omega|(refine id ?_;simp only[push_cast];try omega)) only [push_cast,simprocAttr,h0,hq]
      exact .id rfl
   | true =>
    simp (disch:=first|omega|(refine id ?_;simp only[push_cast];try omega)) only [push_cast,simprocAttr]
    rw [sd_ir11_s2]
    simp (disch:=first|omega|(refine id ?_;simp only[push_cast];try omega)) only [push_cast,simprocAttr,c6,hl1,hl2,↓row1L,ap4 hcl c6 hl1 hl2 left]
    refine jA.data hone fzl (by simp (disch:=first|omega|(refine id ?_;simp only[push_cast];try omega)) only [push_cast,simprocAttr]; rfl) (by simp (disch:=first|omega|(refine id ?_;simp only[push_cast];try omega)) only [push_cast,simprocAttr]) ?_
    simp (disch:=first|omega|(refine id ?_;simp only[push_cast];try omega)) only [push_cast,simprocAttr,↓rowVX]
    have e9 : h.next + 1 + 1 = 9 := by omega
    rw [e9]
    have hl : ((((h.add (O (ivs [left]) eI false)).add (O (ivs (cur ++ [left])) eI true)).add (O [Value.int IntKind.i64 0,Value.int IntKind.i64 0,Value.string (Tx []),Value.slice none 0 0] 27 false)).put 9 (O (exC x) 27 false)).lo = 6 := by simp (disch:=first|omega|(refine id ?_;simp only[push_cast];try omega)) only [push_cast,simprocAttr,hl1]
    have hnx : 8 < ((((h.add (O (ivs [left]) eI false)).add (O (ivs (cur ++ [left])) eI true)).add (O [Value.int IntKind.i64 0,Value.int IntKind.i64 0,Value.string (Tx []),Value.slice none 0 0] 27 false)).put 9 (O (exC x) 27 false)).next := by simp (disch:=first|omega|(refine id ?_;simp only[push_cast];try omega)) only [push_cast,simprocAttr,hl2]; try omega
    have c8 : cells ((((h.add (O (ivs [left]) eI false)).add (O (ivs (cur ++ [left])) eI true)).add (O [Value.int IntKind.i64 0,Value.int IntKind.i64 0,Value.string (Tx []),Value.slice none 0 0] 27 false)).put 9 (O (exC x) 27 false)) 8 = some (ivs (cur ++ [left]),3,true) := by simp (disch:=first|omega|(refine id ?_;simp only[push_cast];try omega)) only [push_cast,simprocAttr,hl2]
    have c9 : cells ((((h.add (O (ivs [left]) eI false)).add (O (ivs (cur ++ [left])) eI true)).add (O [Value.int IntKind.i64 0, Value.int IntKind.i64 0, Value.string (Tx []), Value.slice none 0 0] 27 false)).put 9 (O (exC x) 27 false)) 9 = some (exC x, 27, false) := cells_put_s _ _ _ _
    generalize (((h.add (O (ivs [left]) eI false)).add (O (ivs (cur ++ [left])) eI true)).add (O [Value.int IntKind.i64 0, Value.int IntKind.i64 0, Value.string (Tx []), Value.slice none 0 0] 27 false)).put 9 (O (exC x) 27 false) = σ at hl hnx c8 c9 ⊢
    have h4 : (cur ++ [left]).length = 4 := by rw [List.length_append, hcl]; rfl
    have h4i : ((cur ++ [left]).length : Int) = 4 := by rw [h4]; rfl
    have hin : ∀ a ∈ cur ++ [left], In a := fun a ha => by
     rcases List.mem_append.1 ha with ha | ha
     ·exact hcin a ha
     ·rw [List.mem_singleton.1 ha]; exact hleft
    have hr4 : jG (cur ++ [left]).length x = true := by rw [h4i]; exact right_mono x hr
    have hre := ref_f G (cur ++ [left]) x hr4
    rw [← (eval_is hin x hr4 hn).1] at hre
    have hev := eval_t G (cur ++ [left]) (shE 17 x) (shE_sm hs) (by omega) (by rw [h4i]; exact shE_right (by omega) hr)
    rw [shE_eval cur hcl left x 17 (by omega)] at hev
    generalize jD (cur ++ [left]) x = q at hev hre
    obtain ⟨qa, qe⟩ := q
    have fz1 := fz_sh (P := (pp G).P) rfl (n := σ.lo) (by omega) (σ := σ) 17 x
    have fz2 := fz_v4 (P := (pp G).P) rfl h4 c8 hl hnx
    by_cases h0 : left = 0
    ·rw [if_neg (by omega), if_neg (fun h => h.2 h0)] at hev
     by_cases hq : qe = 0
     ·subst hq
      rw [if_pos rfl] at hev
      refine jA.lend (hev) (.cons fz1 (.cons fz2 .nil)) rfl ?_
      simp (disch:=first|omega|(refine id ?_;simp only[push_cast];try omega)) only [push_cast,simprocAttr,c9,hl]
      refine jA.lend (hre) (.cons (.id (exV_sc _ (by omega) x)) (.cons fz2 .nil)) rfl ?_
      by_cases ha : qa = 0
      ·simp (disch:=first|omega|(refine id ?_;simp only[push_cast];try omega)) only [push_cast,simprocAttr,h0,ha,jR,beq_self_eq_true]
       exact .id rfl
      ·simp (disch:=first|omega|(refine id ?_;simp only[push_cast];try omega)) only [push_cast,simprocAttr,h0,ha,jR,beq_self_eq_true]
       exact .id rfl
     ·rw [if_neg hq] at hev
      refine jA.lend (hev) (.cons fz1 (.cons fz2 .nil)) rfl ?_
      simp (disch:=first|omega|(refine id ?_;simp only[push_cast];try omega)) only [push_cast,simprocAttr,c9,hl]
      refine jA.lend (hre) (.cons (.id (exV_sc _ (by omega) x)) (.cons fz2 .nil)) rfl ?_
      simp (disch:=first|omega|(refine id ?_;simp only[push_cast];try omega)) only [push_cast,simprocAttr,h0,hq]
      exact .id rfl
    ·rw [if_neg (by omega), if_pos ⟨rfl, h0⟩] at hev
     refine jA.lend (hev) (.cons fz1 (.cons fz2 .nil)) rfl ?_
     simp (disch:=first|omega|(refine id ?_;simp only[push_cast];try omega)) only [push_cast,simprocAttr,c9,hl]
     refine jA.lend (hre) (.cons (.id (exV_sc _ (by omega) x)) (.cons fz2 .nil)) rfl ?_
     simp (disch:=first|omega|(refine id ?_;simp only[push_cast];try omega)) only [push_cast,simprocAttr,h0]
     rw [sd_ir11_s3]
     simp (disch:=first|omega|(refine id ?_;simp only[push_cast];try omega)) only [push_cast,simprocAttr]
     exact .id rfl
end
end Go.Proofs.YtlbpiiehanibfaaDoor
