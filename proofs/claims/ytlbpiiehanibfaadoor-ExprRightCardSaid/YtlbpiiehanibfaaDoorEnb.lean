/-
  A part of the proof: conditions over an abstract memory, and that they are enough for what the model's calls do. No condition of its own.
-/
import Derived.Test.YtlbpiiehanibfaaDoorEna
import Derived.Test.YtlbpiiehanibfaaDoorExc
set_option linter.unusedSimpArgs false
set_option linter.unusedVariables false
namespace Go.Proofs.YtlbpiiehanibfaaDoor
open Go Go.RowKit Go.Ev Go.Dv
noncomputable section
set_option maxRecDepth 100000
variable (G : Nat × Nat)
def Fine (x : Ex) : Prop := jT 3 x = true ∧ smF x = true ∧ inF x
theorem fine_num {n : Int} (h : 0 ≤ n) (h2 : In n) : Fine (.mk 1 n [] []) := by
 refine ⟨?_, by simp [smF, smL], ⟨h2, trivial⟩⟩
 simp [jT, jG, h]
theorem fine_var {n : Int} (h : 0 ≤ n ∧ n < 3) : Fine (.mk 2 n [] []) := by
 refine ⟨?_, by simp [smF, smL], ⟨by unfold In; omega, trivial⟩⟩
 simp [jT, jG, h.1, h.2]
theorem fine_one {k : Int} {a : Ex} (hk : k = 3 ∨ k = 4) (ha : Fine a) : Fine (.mk k 0 [] [a]) := by
 refine ⟨?_, by simp [smF, smL, ha.2.1], ⟨by unfold In; omega, ha.2.2, trivial⟩⟩
 have h1 : ¬ k = 1 := by omega
 have h2 : ¬ k = 2 := by omega
 simp [jT, jG, h1, h2, hk, ha.1]
theorem fine_two {k : Int} {a b : Ex} (hk : 5 ≤ k ∧ k ≤ 17) (ha : Fine a) (hb : Fine b) : Fine (.mk k 0 [] [a, b]) := by
 refine ⟨?_, by simp [smF, smL, ha.2.1, hb.2.1], ⟨by unfold In; omega, ha.2.2, hb.2.2, trivial⟩⟩
 have h1 : ¬ k = 1 := by omega
 have h2 : ¬ k = 2 := by omega
 have h3 : ¬ (k = 3 ∨ k = 4) := by omega
 simp [jT, jG, h1, h2, h3, hk, ha.1, hb.1]
theorem mk_fine : ∀ x : Ra, Fine (mkF [] x)
 | .mk k n l => by
  have ih : ∀ x ∈ l, Fine (mkF [] x) := fun x hx => mk_fine x
  have hp : ∀ i, Fine (partF n (mkL [] l) i) := fun i => by
   rw [partF, mkL_map, List.getD_eq_getElem?_getD, List.getElem?_map]
   cases hx : l[i]? with
   | none =>
    have := qI (a := W (n + i)) (n := 5) (by omega)
    exact fine_num this.1 (by unfold In; omega)
   | some x => exact ih x (List.mem_of_getElem? hx)
  have hk := qI (a := k) (n := 24) (by omega)
  rw [mkF]
  generalize jQ k 24 = w at hk ⊢
  split
  ·have hw := qI (a := n) (n := 8) (by omega)
   have : ∀ j, j < 8 → 0 ≤ numsF.getD j 0 ∧ In (numsF.getD j 0) := fun j hj => by
    match j, hj with
    | 0, _ | 1, _ | 2, _ | 3, _ | 4, _ | 5, _ | 6, _ | 7, _ => exact ⟨by decide, by unfold In; decide⟩
   have := this (jQ n 8).toNat (by omega)
   exact fine_num this.1 this.2
  split
  ·rename_i h; exact absurd h.2 (by simp)
  split
  ·exact fine_var (qI (by omega))
  split
  ·exact fine_one (.inl rfl) (hp 0)
  split
  ·exact fine_one (.inr rfl) (hp 0)
  ·exact fine_two (by omega) (hp 0) (hp 1)
theorem one_fine (l : List Ra) : Fine (firstF [] l) := by
 cases l with
 | nil => exact fine_num (by omega) (by unfold In; omega)
 | cons x l => exact mk_fine x
end
end Go.Proofs.YtlbpiiehanibfaaDoor
namespace Go.Proofs.YtlbpiiehanibfaaDoor
open Go Go.RowKit Go.Ev Go.Dv
noncomputable section
set_option maxRecDepth 100000
section
variable {w : World} {H : Type} {enc : TypeId × Value → H}
theorem u_int : Tryd.prog.underlying eI = some (.int .i64) := by kernel_rfl
theorem u_raws : Tryd.prog.underlying 22 = some (.slice eR) := by kernel_rfl
theorem f_raw : fieldsB Tryd.prog eR [(eI, 0), (eI, 1), (22, 2)] = true := by kernel_rfl
theorem raCs_flat : ∀ l : List Ra, l.flatMap raC = raCs l
 | [] => rfl
 | x :: l => by rw [List.flatMap_cons, raCs_flat l, raCs]
theorem smRs_of : ∀ {l : List Ra}, (∀ x ∈ l, smR x = true) → smRs l = true
 | [], _ => rfl
 | x :: l, h => by rw [smRs, h x (by simp), smRs_of fun y hy => h y (by simp [hy])]; rfl
theorem open_ras : ∀ (fuel : Nat) {cs : List Value} {x : DataW H × List MemPlace}, DataW.trod enc Tryd.prog w 0 (fun _ => true) true fuel 22 cs = some x → (x.1.weights Tryd.prog 22).all (· ≤ reachBytes) = true →
  ∃ l : List Ra, Go.Dv.Op Tryd.prog 6 LL w [rasV l] cs ∧ smRs l = true ∧ l.length < 1000000000000000 := by
 intro fuel
 induction fuel using Nat.strongRecOn with
 | ind fuel ih =>
 intro cs x h hw
 obtain ⟨l, h1, h2, h3⟩ := open_slice (n := 6) (L := LL) u_raws (size := 3) (by kernel_rfl) (by kernel_rfl) (by omega) (of_decide_eq_true (by kernel_rfl)) raC (fun r => smR r = true) h hw fun k c y hk hy hwy => by
  obtain ⟨k', hk', hl, hfs⟩ := open_struct f_raw hy hwy
  rw [show Tryd.prog.cellsOf eR = 3 by kernel_rfl] at hl
  match c, hl with
  | [a, b, d], _ =>
   obtain ⟨y0, t0, _⟩ := hfs 0 _ _ rfl
   obtain ⟨y1, t1, _⟩ := hfs 1 _ _ rfl
   obtain ⟨y2, t2, w2⟩ := hfs 2 _ _ rfl
   rw [show Tryd.prog.cellsOf eI = 1 by kernel_rfl] at t0 t1
   rw [show Tryd.prog.cellsOf 22 = 1 by kernel_rfl] at t2
   obtain ⟨m0, e0, o0, _⟩ := open_num (n := 6) (L := LL) u_int t0
   obtain ⟨m1, e1, o1, _⟩ := open_num (n := 6) (L := LL) u_int t1
   obtain ⟨l2, o2, s2, n2⟩ := ih k' (by omega) t2 w2
   refine ⟨.mk m0 m1 l2, ?_, ?_⟩
   ·exact (o0.append o1).append o2
   ·simp only [smR, s2, Bool.and_true, decide_eq_true_eq]; exact n2
 rw [raCs_flat] at h1
 exact ⟨l, h1, smRs_of h2, h3⟩
end
end
end Go.Proofs.YtlbpiiehanibfaaDoor
namespace Go.Proofs.YtlbpiiehanibfaaDoor
open Go Go.RowKit Go.Ev Go.Dv
noncomputable section
set_option maxRecDepth 100000
variable (G : Nat × Nat)
mutual
def smG : Ex → Bool
 | .mk k n s l => decide (l.length < 1000000000000000) && smGs l
def smGs : List Ex → Bool
 | [] => true
 | x :: l => smG x && smGs l
end
theorem smGs_all : ∀ {l : List Ex}, smGs l = true → ∀ x ∈ l, smG x = true
 | [], _, x, hx => by cases hx
 | y :: l, h, x, hx => by
  simp only [smGs, Bool.and_eq_true] at h
  rcases List.mem_cons.1 hx with rfl | hx
  ·exact h.1
  ·exact smGs_all h.2 x hx
mutual
def fewX : Ex → Nat → Bool
 | .mk k n s l, d => decide (d ≤ 20) && decide (l.length ≤ 10) && fewXs l (d + 1)
def fewXs : List Ex → Nat → Bool
 | [], _ => true
 | x :: l, d => fewX x d && fewXs l d
end
theorem fewXs_take {l : List Ex} {i d : Nat} {x : Ex} (h : l[i]? = some x) : fewXs (l.take (i + 1)) d = (fewXs (l.take i) d && fewX x d) := by
 induction l generalizing i with
 | nil => cases h
 | cons y l ih =>
  cases i with
  | zero => cases h; simp [fewXs]
  | succ i =>
   rw [List.getElem?_cons_succ] at h
   rw [List.take_succ_cons, List.take_succ_cons, fewXs, fewXs, ih h, Bool.and_assoc]
theorem fewXs_no : ∀ {l : List Ex} {d : Nat} {x : Ex}, x ∈ l → fewX x d = false → fewXs l d = false
 | y :: l, d, x, h, hx => by
  rw [fewXs]
  rcases List.mem_cons.1 h with rfl | h
  ·rw [hx]; rfl
  ·rw [fewXs_no h hx, Bool.and_false]
mutual
theorem few_smF : ∀ (x : Ex) (d : Nat), fewX x d = true → smF x = true
 | .mk k n s l, d, h => by
  rw [fewX, Bool.and_eq_true, Bool.and_eq_true, decide_eq_true_eq, decide_eq_true_eq] at h
  rw [smF, few_smL l _ h.2, Bool.and_true, decide_eq_true_eq]
  omega
theorem few_smL : ∀ (l : List Ex) (d : Nat), fewXs l d = true → smL l = true
 | [], _, _ => rfl
 | x :: l, d, h => by
  rw [fewXs, Bool.and_eq_true] at h
  rw [smL, few_smF x d h.1, few_smL l d h.2]; rfl
end
inductive I28 (d : Nat) (k n : Int) (s : List UInt8) (l : List Ex) : Nat → S → Prop
 | mk (i : Nat) (iv : Int) (h : Heap) {x0 x3 x4 x6 x7 x8 x9 x10 x11 x12 x13 x14 x15 x16 x17 x18 x19 x20 x21 x22 x23 x24 x25 x26 x27 x28 x29 : Value} (hiv : iv = (i : Int)) (hi : i ≤ l.length) (hok : fewXs (l.take i) (d + 1) = true) (c6 : cells h 6 = some ([.int .i64 k, .int .i64 n, .string (Tx s), Rw false eE l.length (jI l)], 27, false)) (hl1 : h.lo = 6) (hl2 : 7 ≤ h.next) :
  I28 d k n s l (l.length - i) ⟨(F30 x0 (.int .i64 d) (.pointer (some ⟨6, 0, none⟩)) x3 x4 (.int .i64 iv) x6 x7 x8 x9 x10 x11 x12 x13 x14 x15 x16 x17 x18 x19 x20 x21 x22 x23 x24 x25 x26 x27 x28 x29), [], h⟩
theorem fewx_f : ∀ (x : Ex) (d : Nat), d ≤ 21 → smG x = true → jF (pp G) H0 28 [exV x, .int .i64 d] (.bool (fewX x d))
 | .mk k n s l, d, hd, hsm => by
  simp only [smG, Bool.and_eq_true, decide_eq_true_eq] at hsm
  have hll := hsm.1
  have hall := smGs_all hsm.2
  have ih : d ≤ 20 → ∀ x ∈ l, jF (pp G) H0 28 [exV x, .int .i64 ((d + 1 : Nat) : Int)] (.bool (fewX x (d + 1))) := fun hd' x hx => fewx_f x (d + 1) (by omega) (hall x hx)
  have hlo : H0.lo ≤ H0.next := Nat.le_refl _; refine jF.cut (CallD.fir4 (q := qq) (qD G) fir28 (by kernel_rfl) rfl rfl (F30_arr ..) (show NGG ≤ H0.lo by rw [H0_lo]; decide) ?_); rw [sd_ir28]
  unfold exV exC
  rw [fewX]
  by_cases h1 : (20 : Int) < d
  ·have h1' : ¬ d ≤ 20 := by omega
   simp (disch:=first|omega|(refine id ?_;simp only[push_cast];try omega)) only [push_cast,simprocAttr,h1,h1',decide_false,Bool.false_and]
   exact .id rfl
  have h1' : d ≤ 20 := by omega
  by_cases h2 : (10 : Int) < l.length
  ·have h2' : ¬ l.length ≤ 10 := by omega
   simp (disch:=first|omega|(refine id ?_;simp only[push_cast];try omega)) only [push_cast,simprocAttr,h1,h2,h2',decide_false,Bool.false_and,Bool.and_false]
   exact .id rfl
  have h2' : l.length ≤ 10 := by omega
  rw [decide_eq_true h1', decide_eq_true h2', Bool.true_and, Bool.true_and]
  simp (disch:=first|omega|(refine id ?_;simp only[push_cast];try omega)) only [push_cast,simprocAttr,h1,h2]
  refine WD.loop4 (q := qq) (qD G) (by kernel_rfl) (I28 d k n s l) ?_ _ _ (I28.mk 0 0 _ rfl (Nat.zero_le _) rfl (by simp (disch:=first|omega|(refine id ?_;simp only[push_cast];try omega)) only [push_cast,simprocAttr]; first | done | rfl) (by simp (disch:=first|omega|(refine id ?_;simp only[push_cast];try omega)) only [push_cast,simprocAttr]; first | done | rfl) (by simp (disch:=first|omega|(refine id ?_;simp only[push_cast];try omega)) only [push_cast,simprocAttr]; first | done | omega))
  intro m s1 hI
  cases hI with | mk i iv h hiv hi hok c6 hl1 hl2 =>
  subst hiv
  rw [sd_ir28_s0]
  by_cases hil : (i : Int) < l.length
  ·obtain ⟨x, hx⟩ : ∃ x, l[i]? = some x := ⟨_, List.getElem?_eq_getElem (by omega)⟩
   have hxm := List.mem_of_getElem? hx
   have hp := exCs_take hx
   have hle : i * 4 + 4 ≤ l.length * 4 := by omega
   have e2 : IntKind.i64.wrap ((d : Int) + 1) = ((d + 1 : Nat) : Int) := W_in (by unfold In; omega)
   simp (disch:=first|omega|(refine id ?_;simp only[push_cast];try omega)) only [push_cast,simprocAttr,hil,Int.toNat_natCast,c6,hp,hle,hl1,e2]
   refine jA.dataI (ih h1' x hxm) (by and_intros <;> first | rfl | (simp (disch:=first|omega|(refine id ?_;simp only[push_cast];try omega)) only [push_cast])) ?_
   cases hr : fewX x (d + 1) with
   | true =>
    simp (disch:=first|omega|(refine id ?_;simp only[push_cast];try omega)) only [push_cast,simprocAttr]
    exact ⟨_, by omega, I28.mk (i + 1) _ _ (by first | rfl | omega) (by omega) (by rw [fewXs_take hx, hok, hr]; rfl) c6 hl1 hl2⟩
   | false =>
    rw [fewXs_no hxm hr]
    simp (disch:=first|omega|(refine id ?_;simp only[push_cast];try omega)) only [push_cast,simprocAttr]
    exact .id rfl
  ·have hie : i = l.length := by omega
   subst hie
   rw [List.take_length] at hok
   rw [hok]
   simp (disch:=first|omega|(refine id ?_;simp only[push_cast];try omega)) only [push_cast,simprocAttr,hil,c6,hl1]
   rw [sd_ir28_s1]
   simp (disch:=first|omega|(refine id ?_;simp only[push_cast];try omega)) only [push_cast,simprocAttr]
   exact .id rfl
inductive I30 (v : Int) (k n : Int) (s : List UInt8) (l : List Ex) : Nat → S → Prop
 | mk (i : Nat) (iv : Int) (h : Heap) {x0 x3 x4 x7 x8 x9 x10 x11 x12 x13 x14 x15 x16 x17 x18 x19 x20 x21 x22 x23 x24 x25 x26 x27 x28 x29 x30 x31 x32 x33 x34 x35 x36 x37 x38 x39 x40 x41 x42 x43 x44 x45 x46 x47 x48 x49 x50 x51 x52 x53 x54 x55 x56 x57 x58 x59 x60 x61 x62 x63 x64 x65 x66 x67 x68 x69 x70 x71 x72 x73 x74 x75 x76 x77 x78 x79 x80 x81 x82 x83 : Value} (hiv : iv = (i : Int)) (hi : i ≤ l.length) (hok : jG v (l.take i) = true) (c6 : cells h 6 = some ([.int .i64 k, .int .i64 n, .string (Tx s), Rw false eE l.length (jI l)], 27, false)) (hl1 : h.lo = 6) (hl2 : 7 ≤ h.next) :
  I30 v k n s l (l.length - i) ⟨(F84 x0 (.int .i64 v) (.pointer (some ⟨6, 0, none⟩)) x3 x4 (.int .i64 l.length) (.int .i64 iv) x7 x8 x9 x10 x11 x12 x13 x14 x15 x16 x17 x18 x19 x20 x21 x22 x23 x24 x25 x26 x27 x28 x29 x30 x31 x32 x33 x34 x35 x36 x37 x38 x39 x40 x41 x42 x43 x44 x45 x46 x47 x48 x49 x50 x51 x52 x53 x54 x55 x56 x57 x58 x59 x60 x61 x62 x63 x64 x65 x66 x67 x68 x69 x70 x71 x72 x73 x74 x75 x76 x77 x78 x79 x80 x81 x82 x83), [], h⟩
theorem rr_s0 (v c k n : Int) (s : List UInt8) (l : List Ex) (hll : l.length < 1000000000000000) (ih : ∀ x ∈ l, jF (pp G) H0 30 [exV x, .int .i64 v] (.bool (jT v x))) {x0 x3 x4 x6 x7 x8 x9 x10 x11 x12 x13 x14 x15 x16 x17 x18 x19 x20 x21 x22 x23 x24 x25 x26 x27 x28 x29 x30 x31 x32 x33 x34 x35 x36 x37 x38 x39 x40 x41 x42 x43 x44 x45 x46 x47 x48 x49 x50 x51 x52 x53 x54 x55 x56 x57 x58 x59 x60 x61 x62 x63 x64 x65 x66 x67 x68 x69 x70 x71 x72 x73 x74 x75 x76 x77 x78 x79 x80 x81 x82 x83 : Value} (b : Bool)
  (hb : b = (decide (l.length = c ∧ n = 0) && jG v l)) :
  dc3 (pp G) qq none ir30_s0 ⟨(F84 x0 (.int .i64 v) (.pointer (some ⟨6, 0, none⟩)) x3 x4 (.int .i64 c) x6 x7 x8 x9 x10 x11 x12 x13 x14 x15 x16 x17 x18 x19 x20 x21 x22 x23 x24 x25 x26 x27 x28 x29 x30 x31 x32 x33 x34 x35 x36 x37 x38 x39 x40 x41 x42 x43 x44 x45 x46 x47 x48 x49 x50 x51 x52 x53 x54 x55 x56 x57 x58 x59 x60 x61 x62 x63 x64 x65 x66 x67 x68 x69 x70 x71 x72 x73 x74 x75 x76 x77 x78 x79 x80 x81 x82 x83), [], H0.add (O [.int .i64 k, .int .i64 n, .string (Tx s), Rw false eE l.length (jI l)] 27 false)⟩ (@kR ⟨qM Tryd.prog [.tmp 4] (fun v' σ' => FzV Tryd.prog 6 σ' v' (.bool b))⟩) := by
 rw [sd_ir30_s0]
 by_cases h1 : n = 0
 rotate_left
 ·have : b = false := by rw [hb, decide_eq_false (fun h => h1 h.2)]; rfl
  subst this
  simp (disch:=first|omega|(refine id ?_;simp only[push_cast];try omega)) only [push_cast,simprocAttr,h1]
  exact .id rfl
 by_cases h2 : (l.length : Int) = c
 rotate_left
 ·have : b = false := by rw [hb, decide_eq_false (fun h => h2 h.1)]; rfl
  subst this
  simp (disch:=first|omega|(refine id ?_;simp only[push_cast];try omega)) only [push_cast,simprocAttr,h1,h2]
  exact .id rfl
 rw [decide_eq_true ⟨h2, h1⟩, Bool.true_and] at hb
 subst h2
 simp (disch:=first|omega|(refine id ?_;simp only[push_cast];try omega)) only [push_cast,simprocAttr,h1]
 subst h1
 refine WD.loop4 (q := qq) (qD G) (by kernel_rfl) (I30 v k 0 s l) ?_ _ _ (I30.mk 0 0 _ rfl (Nat.zero_le _) rfl (by simp (disch:=first|omega|(refine id ?_;simp only[push_cast];try omega)) only [push_cast,simprocAttr]; first | done | rfl) (by simp (disch:=first|omega|(refine id ?_;simp only[push_cast];try omega)) only [push_cast,simprocAttr]; first | done | rfl) (by simp (disch:=first|omega|(refine id ?_;simp only[push_cast];try omega)) only [push_cast,simprocAttr]; first | done | omega))
 intro m s1 hI
 cases hI with | mk i iv h hiv hi hok c6 hl1 hl2 =>
 subst hiv
 rw [sd_ir30_s1]
 by_cases hil : (i : Int) < l.length
 ·obtain ⟨x, hx⟩ : ∃ x, l[i]? = some x := ⟨_, List.getElem?_eq_getElem (by omega)⟩
  have hxm := List.mem_of_getElem? hx
  have hp := exCs_take hx
  have hle : i * 4 + 4 ≤ l.length * 4 := by omega
  simp (disch:=first|omega|(refine id ?_;simp only[push_cast];try omega)) only [push_cast,simprocAttr,hil,Int.toNat_natCast,c6,hp,hle,hl1]
  refine jA.dataI (ih x hxm) (by and_intros <;> first | rfl | (simp (disch:=first|omega|(refine id ?_;simp only[push_cast];try omega)) only [push_cast])) ?_
  cases hr : jT v x with
  | true =>
   simp (disch:=first|omega|(refine id ?_;simp only[push_cast];try omega)) only [push_cast,simprocAttr]
   exact ⟨_, by omega, I30.mk (i + 1) _ _ (by first | rfl | omega) (by omega) (by rw [rightL_take hx, hok, hr]; rfl) c6 hl1 hl2⟩
  | false =>
   rw [rightL_no hxm hr] at hb
   subst hb
   simp (disch:=first|omega|(refine id ?_;simp only[push_cast];try omega)) only [push_cast,simprocAttr]
   exact .id rfl
 ·have hie : i = l.length := by omega
  subst hie
  rw [List.take_length] at hok
  rw [hok] at hb
  subst hb
  simp (disch:=first|omega|(refine id ?_;simp only[push_cast];try omega)) only [push_cast,simprocAttr,hil]
  rw [sd_ir30_s2]
  simp (disch:=first|omega|(refine id ?_;simp only[push_cast];try omega)) only [push_cast,simprocAttr]
  exact .id rfl
theorem rr_f (v : Int) : ∀ x : Ex, smG x = true → jF (pp G) H0 30 [exV x, .int .i64 v] (.bool (jT v x))
 | .mk k n s l, hsm => by
  simp only [smG, Bool.and_eq_true, decide_eq_true_eq] at hsm
  have hll := hsm.1
  have hall := smGs_all hsm.2
  have ih : ∀ x ∈ l, jF (pp G) H0 30 [exV x, .int .i64 v] (.bool (jT v x)) := fun x hx => rr_f v x (hall x hx)
  have hlo : H0.lo ≤ H0.next := Nat.le_refl _; refine jF.cut (CallD.fir4 (q := qq) (qD G) fir30 (by kernel_rfl) rfl rfl (F84_arr ..) (show NGG ≤ H0.lo by rw [H0_lo]; decide) ?_); rw [sd_ir30]
  unfold exV exC
  rw [jT]
  by_cases h0 : s = []
  rotate_left
  ·rw [decide_eq_false h0, Bool.and_false, Bool.false_and]
   have hb0 : (s == ([] : List UInt8)) = false := by simpa using h0
   simp (disch:=first|omega|(refine id ?_;simp only[push_cast];try omega)) only [push_cast,simprocAttr,hb0,Bool.not_false]
   exact .id rfl
  rw [decide_eq_true h0, Bool.and_true]
  subst h0
  have hb0 : (([] : List UInt8) == []) = true := rfl
  by_cases h1 : k = 1
  ·by_cases h2 : 0 ≤ n
   ·rw [if_pos ⟨h1, h2⟩]
    by_cases h3 : (l.length : Int) = 0
    ·have : l = [] := List.length_eq_zero_iff.1 (by omega)
     subst this
     simp (disch:=first|omega|(refine id ?_;simp only[push_cast];try omega)) only [push_cast,simprocAttr,hb0,h1,h2,decide_true,Bool.not_true,jG]
     exact .id rfl
    ·rw [decide_eq_false (by omega), Bool.false_and]
     simp (disch:=first|omega|(refine id ?_;simp only[push_cast];try omega)) only [push_cast,simprocAttr,hb0,h1,h2,h3,decide_true,Bool.not_true]
     exact .id rfl
   ·rw [if_neg (by omega), if_neg (by omega), if_neg (by omega), if_neg (by omega), Bool.false_and]
    simp (disch:=first|omega|(refine id ?_;simp only[push_cast];try omega)) only [push_cast,simprocAttr,hb0,h1,h2,decide_true,Bool.not_true]
    exact .id rfl
  rw [if_neg (by omega)]
  by_cases h2 : k = 2
  ·by_cases h3 : 0 ≤ n
   ·by_cases h4 : n < v
    ·rw [if_pos ⟨h2, h3, h4⟩]
     by_cases h5 : (l.length : Int) = 0
     ·have : l = [] := List.length_eq_zero_iff.1 (by omega)
      subst this
      simp (disch:=first|omega|(refine id ?_;simp only[push_cast];try omega)) only [push_cast,simprocAttr,hb0,h1,h2,h3,h4,decide_true,Bool.not_true,jG]
      exact .id rfl
     ·rw [decide_eq_false (by omega), Bool.false_and]
      simp (disch:=first|omega|(refine id ?_;simp only[push_cast];try omega)) only [push_cast,simprocAttr,hb0,h1,h2,h3,h4,h5,decide_true,Bool.not_true]
      exact .id rfl
    ·rw [if_neg (by omega), if_neg (by omega), if_neg (by omega), Bool.false_and]
     simp (disch:=first|omega|(refine id ?_;simp only[push_cast];try omega)) only [push_cast,simprocAttr,hb0,h1,h2,h3,h4,decide_true,Bool.not_true]
     exact .id rfl
   ·rw [if_neg (by omega), if_neg (by omega), if_neg (by omega), Bool.false_and]
    simp (disch:=first|omega|(refine id ?_;simp only[push_cast];try omega)) only [push_cast,simprocAttr,hb0,h1,h2,h3,decide_true,Bool.not_true]
    exact .id rfl
  rw [if_neg (by omega)]
  by_cases h3 : k = 3
  ·rw [if_pos (.inl h3)]
   simp (disch:=first|omega|(refine id ?_;simp only[push_cast];try omega)) only [push_cast,simprocAttr,hb0,h1,h2,h3,decide_true,Bool.not_true]
   subst h3
   exact rr_s0 G v 1 3 n [] l hll ih _ (by congr 2; rw [eq_iff_iff]; constructor <;> intro hz <;> exact ⟨by omega, hz.2⟩)
  by_cases h4 : k = 4
  ·rw [if_pos (.inr h4)]
   simp (disch:=first|omega|(refine id ?_;simp only[push_cast];try omega)) only [push_cast,simprocAttr,hb0,h1,h2,h3,h4,decide_true,Bool.not_true]
   subst h4
   exact rr_s0 G v 1 4 n [] l hll ih _ (by congr 2; rw [eq_iff_iff]; constructor <;> intro hz <;> exact ⟨by omega, hz.2⟩)
  rw [if_neg (by omega)]
  by_cases h5 : k < 5
  ·rw [if_neg (by omega), Bool.false_and]
   simp (disch:=first|omega|(refine id ?_;simp only[push_cast];try omega)) only [push_cast,simprocAttr,hb0,h1,h2,h3,h4,h5,decide_true,Bool.not_true]
   exact .id rfl
  by_cases h6 : 17 < k
  ·rw [if_neg (by omega), Bool.false_and]
   simp (disch:=first|omega|(refine id ?_;simp only[push_cast];try omega)) only [push_cast,simprocAttr,hb0,h1,h2,h3,h4,h5,h6,decide_true,Bool.not_true]
   exact .id rfl
  rw [if_pos ⟨by omega, by omega⟩]
  simp (disch:=first|omega|(refine id ?_;simp only[push_cast];try omega)) only [push_cast,simprocAttr,hb0,h1,h2,h3,h4,h5,h6,decide_true,Bool.not_true]
  exact rr_s0 G v 2 k n [] l hll ih _ (by congr 2; rw [eq_iff_iff]; constructor <;> intro hz <;> exact ⟨by omega, hz.2⟩)
theorem rowX0 (σ : Heap) : bsD (qq.m 25) (slT Tryd.prog 25) 0 [] σ = some (.slice (some ⟨σ.next, 0, none⟩) 0 0, σ.add (O [] eE false)) := by kernel_rfl
theorem row5 (x : Int) (σ : Heap) : bsD (qq.m 41) (slT Tryd.prog 41) 5 [(0, .int .i64 (-1)), (1, .int .i64 0), (2, .int .i64 2), (3, .int .i64 3), (4, .int .i64 x)] σ = some (Rw true eI 5 (ivs [-1, 0, 2, 3, x]), σ) := by kernel_rfl
theorem rowX1 (σ : Heap) : bsD (qq.m 25) (slT Tryd.prog 25) 1 [(0, .agg ⟨[.int .i64 1, .int .i64 0, .string (Tx []), .slice none 0 0]⟩)] σ = some (Rw true eE 1 [.int .i64 1, .int .i64 0, .string (Tx []), .slice none 0 0], σ) := by kernel_rfl
theorem ownX0 {σ : Heap} (h : σ.lo ≤ σ.next) : OwnD (σ.add (O [] eE false)) eE 4 (some ⟨σ.next, 0, none⟩) 0 0 [] :=
 ⟨rfl, rfl, .inr ⟨σ.next, false, rfl, by rw [jP]; exact h, by rw [jB]; omega, cells_add_s _ _ _ _ rfl, .inr ⟨rfl, rfl⟩⟩⟩
theorem own_newX {σ : Heap} (hlo : σ.lo = 6) (hnx : σ.next = 8) (l : List Ex) (hl : l.length < 1000000) :
  ∃ a c σ', apS eE 4 56 (.slice (some ⟨8, 0, none⟩) 0 0) (some (l.length, jI l)) (σ.add (O [] eE false)) = some (.slice a l.length c, σ') ∧ OwnD σ' eE 4 a l.length c (jI l) ∧ σ'.lo = 6 ∧ 9 ≤ σ'.next ∧ (∀ i, i < 8 → ∀ x, cells σ i = some x → cells σ' i = some x) ∧ (∀ k, blk a k → 8 ≤ k) := by
 obtain ⟨a1, c1, σ1, e1, o1, g1, b1⟩ := own_app (by_ := 56) (ownX0 (σ := σ) (by omega)) (by omega) (by rw [jP, jB]; omega) (m := l.length) (xs := jI l) (exCs_len l) (exCs_one l) (by omega)
 rw [Nat.zero_add, List.nil_append] at o1
 rw [Nat.zero_add, hnx] at e1
 have hn1 : 9 ≤ σ1.next := by have := g1.next; rw [jB] at this; omega
 refine ⟨a1, c1, σ1, e1, o1, by rw [g1.lo, jP, hlo], hn1, fun i hi x hx => ?_, fun k hk => ?_⟩
 ·exact g1.cellsE (by rw [cells_add_n _ _ (by omega)]; exact hx) (by rw [jB]; omega) fun ⟨o, s, e⟩ => by cases e; omega
 ·rcases b1 k hk with ⟨o, s, e⟩ | hb
  ·cases e; omega
  ·rw [jB] at hb; omega
theorem exCs_set (l : List Ex) (i : Nat) (y : Ex) (h : i < l.length) : setFrom (jI l) (i * 4) (exC y) = jI (l.set i y) := by
 induction l generalizing i with
 | nil => cases h
 | cons x l ih =>
  cases i with
  | zero =>
   have e : (exC x).length = (exC y).length := by rw [jU, jU]
   rw [List.set_cons_zero, jI, jI, Nat.zero_mul, setFrom, List.take_zero, List.nil_append, Nat.zero_add, jU, ← jU x, List.drop_left]
  | succ i =>
   have := ih i (by simpa using h)
   rw [List.set_cons_succ, jI, jI, ← this]
   have e : (i + 1) * 4 = 4 + i * 4 := by omega
   simp only [setFrom, e]
   rw [List.take_append, List.take_of_length_le (by rw [jU]; omega), jU, Nat.add_sub_cancel_left, List.append_assoc, List.append_assoc]
   have e3 : 4 + i * 4 + (exC y).length = (exC x).length + (i * 4 + (exC y).length) := by rw [jU, jU]; omega
   rw [e3, List.drop_append]
   simp only [List.drop_eq_nil_of_le (Nat.le_add_right (exC x).length _), List.nil_append, Nat.add_sub_cancel_left, List.append_assoc]
def SpD (d : Value) : Prop := ∃ y : Ex, d = exV y ∧ smF y = true
theorem smL_set {l : List Ex} {y : Ex} (h : smL l = true) (hy : smF y = true) (t : Nat) : smL (l.set t y) = true := by
 induction l generalizing t with
 | nil => rfl
 | cons x l ih =>
  rw [smL, Bool.and_eq_true] at h
  cases t with
  | zero => rw [List.set_cons_zero, smL, hy, h.2]; rfl
  | succ t => rw [List.set_cons_succ, smL, h.1, ih h.2]; rfl
theorem smL_app {l : List Ex} {y : Ex} (h : smL l = true) (hy : smF y = true) : smL (l ++ [y]) = true := by
 induction l with
 | nil => rw [List.nil_append, smL, hy]; rfl
 | cons x l ih =>
  rw [smL, Bool.and_eq_true] at h
  rw [List.cons_append, smL, h.1, ih h.2]; rfl
theorem exCs_snoc (l : List Ex) (y : Ex) : jI (l ++ [y]) = jI l ++ exC y := by
 induction l with
 | nil => rw [List.nil_append, jI, jI, jI, List.append_nil, List.nil_append]
 | cons x l ih => rw [List.cons_append, jI, jI, ih, List.append_assoc]
theorem exCs_tail (l : List Ex) : (jI l).drop 4 = jI l.tail := by
 cases l with
 | nil => rfl
 | cons x l => rw [jI, List.tail_cons, ← jU x, List.drop_left]
theorem smL_tail {l : List Ex} (h : smL l = true) : smL l.tail = true := by
 cases l with
 | nil => rfl
 | cons x l => rw [smL, Bool.and_eq_true] at h; exact h.2
theorem right_len {v k n : Int} {s : List UInt8} {l : List Ex} (h : jT v (.mk k n s l) = true) : l.length ≤ 2 ∧ jG v l = true := by
 rw [jT, Bool.and_eq_true, Bool.and_eq_true] at h
 refine ⟨?_, h.2⟩
 have h1 := h.1.1
 split at h1
 ·have := of_decide_eq_true h1; omega
 ·split at h1
  ·have := of_decide_eq_true h1; omega
  ·split at h1
   ·have := of_decide_eq_true h1; omega
   ·split at h1
    ·have := of_decide_eq_true h1; omega
    ·cases h1
mutual
theorem right_smF {v : Int} : ∀ x : Ex, jT v x = true → smF x = true
 | .mk k n s l, h => by
  have := right_len h
  rw [smF, right_smL l this.2, Bool.and_true, decide_eq_true_eq]
  omega
theorem right_smL {v : Int} : ∀ l : List Ex, jG v l = true → smL l = true
 | [], _ => rfl
 | x :: l, h => by
  rw [jG, Bool.and_eq_true] at h
  rw [smL, right_smF x h.1, right_smL l h.2]; rfl
end
mutual
theorem smF_smG : ∀ x : Ex, smF x = true → smG x = true
 | .mk k n s l, h => by
  rw [smF, Bool.and_eq_true, decide_eq_true_eq] at h
  rw [smG, smL_smG l h.2, Bool.and_true, decide_eq_true_eq]
  omega
theorem smL_smG : ∀ l : List Ex, smL l = true → smGs l = true
 | [], _ => rfl
 | x :: l, h => by
  rw [smL, Bool.and_eq_true] at h
  rw [smGs, smF_smG x h.1, smL_smG l h.2]; rfl
end
theorem spoilt_e (w v : Int) : ∀ (x : Ex) (a : Int), jT 3 x = true → CallFE (pp G) H0 29 [exV x, .int .i64 w, .int .i64 v, .int .i64 a] SpD
 | .mk k n s l, a, hr => by
  have hl2 := right_len hr
  have hll := hl2.1
  have hall := rightL_all hl2.2
  have ih : ∀ x ∈ l, ∀ a, CallFE (pp G) H0 29 [exV x, .int .i64 w, .int .i64 v, .int .i64 a] SpD := fun x hx a => spoilt_e w v x a (hall x hx)
  have hsl := right_smL l hl2.2
  have hlo : H0.lo ≤ H0.next := Nat.le_refl _; refine CallFE.cut (CallD.fir4 (q := qq) (qD G) fir29 (by kernel_rfl) rfl rfl (F85_arr ..) (show NGG ≤ H0.lo by rw [H0_lo]; decide) ?_); rw [sd_ir29]
  unfold exV exC
  have hz3 : (3 : Int) ≠ 0 := by decide
  have hz7 : (7 : Int) ≠ 0 := by decide
  have hsx : ∀ {k n : Int} {s : List UInt8}, smF (.mk k n s l) = true := by
   intro k n s
   rw [smF, hsl, Bool.and_true, decide_eq_true_eq]; omega
  by_cases h12 : (0 : Int) < l.length ∧ 0 < jQ a 3
  ·obtain ⟨h1, h2⟩ := h12
   simp (disch:=first|omega|(refine id ?_;simp only[push_cast];try omega)) only [push_cast,simprocAttr,h1]
   refine jA.dataI (qH G a 3 (by omega) (by omega)) (by and_intros <;> first | rfl | (simp (disch:=first|omega|(refine id ?_;simp only[push_cast];try omega)) only [push_cast])) ?_
   simp (disch:=first|omega|(refine id ?_;simp only[push_cast];try omega)) only [push_cast,simprocAttr,h2,↓rowX0]
   obtain ⟨a1,c1,σ1,e1,o1,hl1,hn1,hk1,hb1⟩ := own_newX (σ := (H0.add (O [.int .i64 k,.int .i64 n,.string (Tx s),Rw false eE l.length (jI l)] 27 false)).add (O [.int .i64 0,.int .i64 0,.string (Tx []),.slice none 0 0] 27 false)) (by simp (disch:=first|omega|(refine id ?_;simp only[push_cast];try omega)) only [push_cast,simprocAttr]) (by simp (disch:=first|omega|(refine id ?_;simp only[push_cast];try omega)) only [push_cast,simprocAttr]) l (by omega)
   have c6 := hk1 6 (by omega) ([.int .i64 k,.int .i64 n,.string (Tx s),Rw false eE l.length (jI l)],27,false) (by simp (disch:=first|omega|(refine id ?_;simp only[push_cast];try omega)) only [push_cast,simprocAttr])
   have c7 := hk1 7 (by omega) ([.int .i64 0,.int .i64 0,.string (Tx []),.slice none 0 0],27,false) (by simp (disch:=first|omega|(refine id ?_;simp only[push_cast];try omega)) only [push_cast,simprocAttr])
   clear hk1
   rcases o1.hat with ⟨_, h0, _⟩ | ⟨b, m, rfl, q1, q2, q3, q4⟩
   ·omega
   have hb8 := hb1 b ⟨0, none, rfl⟩
   have hlp : (0 : Int) < l.length := h1
   have hkr := qI (a := IntKind.i64.wrap (a.tdiv 3)) hlp
   simp (disch:=first|omega|(refine id ?_;simp only[push_cast];try omega)) only [push_cast,simprocAttr,e1,b_quo hz3,b_quo hz7]
   refine jA.dataI (qH G (IntKind.i64.wrap (a.tdiv 3)) l.length (by omega) (by omega)) (by and_intros <;> first | rfl | (simp (disch:=first|omega|(refine id ?_;simp only[push_cast];try omega)) only [push_cast])) ?_
   generalize jQ (IntKind.i64.wrap (a.tdiv 3)) l.length = kk' at hkr
   obtain ⟨t, rfl⟩ : ∃ t : Nat, kk' = (t : Int) := ⟨kk'.toNat, by omega⟩
   obtain ⟨x, hx⟩ : ∃ x, l[t]? = some x := ⟨_, List.getElem?_eq_getElem (by omega)⟩
   have hxm := List.mem_of_getElem? hx
   have hp := exCs_take hx
   have hle : t * 4 + 4 ≤ l.length * 4 := by omega
   have hlt : (t : Int) < l.length := by omega
   have hlen4 : (jI l).length = l.length * 4 := exCs_len l
   simp (disch:=first|omega|(refine id ?_;simp only[push_cast];try omega)) only [push_cast,simprocAttr,hlt,q3,hl1,hp,hle,hlen4,b_quo hz7,Int.toNat_natCast]
   refine jA.dataEI (ih x hxm _) (by and_intros <;> first | rfl | (simp (disch:=first|omega|(refine id ?_;simp only[push_cast];try omega)) only [push_cast])) ?_
   rintro d ⟨y, rfl, hy⟩
   refine ⟨exV_sc _ (by omega) y, ?_⟩
   have hset := exCs_set l t y (by omega)
   rw [setFrom, jU] at hset
   simp (disch:=first|omega|(refine id ?_;simp only[push_cast];try omega)) only [push_cast,simprocAttr,c6,c7,q3,hl1,hset,Int.toNat_natCast]
   have hll' : (l.set t y).length = l.length := List.length_set
   refine ⟨exV (.mk k n s (l.set t y)), ⟨_, rfl, ?_⟩, ?_⟩
   ·rw [smF, hll', Bool.and_eq_true, decide_eq_true_eq]
    exact ⟨by omega, smL_set hsl hy t⟩
   ·unfold exV exC
    rw [hll']
    refine .agg (.cons (.id rfl) (.cons (.id rfl) (.cons (.id rfl) (.cons ?_ .nil))))
    refine OwnD.fz ?_ rfl (by decide) (by omega) (.ids (exCs_sc _ (by omega) _)) (fun b' hb' => by have := hb1 b' hb'; omega)
    exact ⟨by rw [exCs_len,hll']; rfl,exCs_one _,.inr ⟨b,m,rfl,by simp (disch:=first|omega|(refine id ?_;simp only[push_cast];try omega)) only [push_cast,simprocAttr]; omega,by simp (disch:=first|omega|(refine id ?_;simp only[push_cast];try omega)) only [push_cast,simprocAttr]; omega,by simp (disch:=first|omega|(refine id ?_;simp only[push_cast];try omega)) only [push_cast,simprocAttr],q4⟩⟩
  ·have hor : ¬ (0 : Int) < l.length ∨ ((0 : Int) < l.length ∧ ¬ 0 < jQ a 3) := by omega
   rcases hor with h1 | ⟨h1, h2⟩
   case' inl => simp (disch:=first|omega|(refine id ?_;simp only[push_cast];try omega)) only [push_cast,simprocAttr,h1]
   case' inr =>
    simp (disch:=first|omega|(refine id ?_;simp only[push_cast];try omega)) only [push_cast,simprocAttr,h1]
    refine jA.dataI (qH G a 3 (by omega) (by omega)) (by and_intros <;> first | rfl | (simp (disch:=first|omega|(refine id ?_;simp only[push_cast];try omega)) only [push_cast])) ?_
    simp (disch:=first|omega|(refine id ?_;simp only[push_cast];try omega)) only [push_cast,simprocAttr,h2]
   all_goals
    refine jA.dataI (qH G w 5 (by omega) (by omega)) (by and_intros <;> first | rfl | (simp (disch:=first|omega|(refine id ?_;simp only[push_cast];try omega)) only [push_cast])) ?_
    have hw5 := qI (a := w) (n := 5) (by omega)
    generalize jQ w 5 = u at hw5
    obtain rfl | rfl | rfl | rfl | rfl : u = 0 ∨ u = 1 ∨ u = 2 ∨ u = 3 ∨ u = 4 := by omega
    ·simp (disch:=first|omega|(refine id ?_;simp only[push_cast];try omega)) only [push_cast,simprocAttr]
     refine jA.dataI (qH G v 20 (by omega) (by omega)) (by and_intros <;> first | rfl | (simp (disch:=first|omega|(refine id ?_;simp only[push_cast];try omega)) only [push_cast])) ?_
     simp (disch:=first|omega|(refine id ?_;simp only[push_cast];try omega)) only [push_cast,simprocAttr]
     exact ⟨_, ⟨.mk _ n s l, rfl, hsx⟩, .id (exV_sc _ (by first | decide | (rw [H0_next]; decide)) (.mk _ _ _ l))⟩
    ·simp (disch:=first|omega|(refine id ?_;simp only[push_cast];try omega)) only [push_cast,simprocAttr,↓row5]
     refine jA.dataI (qH G v 5 (by omega) (by omega)) (by and_intros <;> first | rfl | (simp (disch:=first|omega|(refine id ?_;simp only[push_cast];try omega)) only [push_cast])) ?_
     have hv5 := qI (a := v) (n := 5) (by omega)
     generalize jQ v 5 = u at hv5
     obtain rfl | rfl | rfl | rfl | rfl : u = 0 ∨ u = 1 ∨ u = 2 ∨ u = 3 ∨ u = 4 := by omega
     all_goals
      simp (disch:=first|omega|(refine id ?_;simp only[push_cast];try omega)) only [push_cast,simprocAttr]
      exact ⟨_, ⟨.mk k _ s l, rfl, hsx⟩, .id (exV_sc _ (by first | decide | (rw [H0_next]; decide)) (.mk _ _ _ l))⟩
    ·simp (disch:=first|omega|(refine id ?_;simp only[push_cast];try omega)) only [push_cast,simprocAttr]
     exact ⟨_, ⟨.mk k n _ l, rfl, hsx⟩, .id (exV_sc _ (by first | decide | (rw [H0_next]; decide)) (.mk _ _ _ l))⟩
    ·simp (disch:=first|omega|(refine id ?_;simp only[push_cast];try omega)) only [push_cast,simprocAttr,↓rowX0]
     obtain ⟨a1,c1,σ1,e1,o1,hl1,hn1,hk1,hb1⟩ := own_newX (σ := (H0.add (O [.int .i64 k,.int .i64 n,.string (Tx s),Rw false eE l.length (jI l)] 27 false)).add (O [.int .i64 0,.int .i64 0,.string (Tx []),.slice none 0 0] 27 false)) (by simp (disch:=first|omega|(refine id ?_;simp only[push_cast];try omega)) only [push_cast,simprocAttr]) (by simp (disch:=first|omega|(refine id ?_;simp only[push_cast];try omega)) only [push_cast,simprocAttr]) l (by omega)
     have c6 := hk1 6 (by omega) ([.int .i64 k,.int .i64 n,.string (Tx s),Rw false eE l.length (jI l)],27,false) (by simp (disch:=first|omega|(refine id ?_;simp only[push_cast];try omega)) only [push_cast,simprocAttr])
     have c7 := hk1 7 (by omega) ([.int .i64 0,.int .i64 0,.string (Tx []),.slice none 0 0],27,false) (by simp (disch:=first|omega|(refine id ?_;simp only[push_cast];try omega)) only [push_cast,simprocAttr])
     clear hk1
     obtain ⟨a2, c2, σ2, e2, o2, g2, b2⟩ := own_app (by_ := 56) o1 (by omega) (by omega) (m := 1) (xs := [.int .i64 1, .int .i64 0, .string (Tx []), .slice none 0 0]) rfl rfl (by omega)
     have k6 : cells σ2 6 = _ := g2.cellsE c6 (by omega) (fun hb => by have := hb1 _ hb; omega)
     have k7 : cells σ2 7 = _ := g2.cellsE c7 (by omega) (fun hb => by have := hb1 _ hb; omega)
     have hl2' : σ2.lo = 6 := by rw [g2.lo, hl1]
     have hn2 := g2.next
     simp (disch:=first|omega|(refine id ?_;simp only[push_cast];try omega)) only [push_cast,simprocAttr,e1,↓rowX1,e2,k6,k7,hl2']
     have hll' : (l ++ [Ex.mk 1 0 [] []]).length = l.length + 1 := List.length_append
     refine ⟨exV (.mk k n s (l ++ [.mk 1 0 [] []])), ⟨_, rfl, ?_⟩, ?_⟩
     ·rw [smF, hll', smL_app hsl rfl, Bool.and_true, decide_eq_true_eq]
      omega
     ·unfold exV exC
      rw [hll', exCs_snoc]
      refine .agg (.cons (.id rfl) (.cons (.id rfl) (.cons (.id rfl) (.cons ?_ .nil))))
      have hb2 : ∀ b', blk a2 b' → 8 ≤ b' := fun b' hb' => (b2 b' hb').elim (hb1 b') fun h => by omega
      refine OwnD.fz (o2.grew (S := fun k => k = 6 ∨ k = 7) ((Grew.put _ 6 _ fun _ => .inl rfl).trans (Grew.put _ 7 _ fun _ => .inr rfl) fun _ _ h => h) (fun b hb e => by have := hb2 b hb; omega)) rfl (by decide) (by omega) ?_ (fun b' hb' => by have := hb2 b' hb'; omega)
      exact (FzL.ids (exCs_sc _ (by omega) _)).app (.cons (.id rfl) (.cons (.id rfl) (.cons (.id rfl) (.cons (.nil (size := 4) rfl (by decide)) .nil))))
    ·by_cases h0 : (0 : Int) < l.length
     ·first | exact absurd h0 h1 | (simp (disch:=first|omega|(refine id ?_;simp only[push_cast];try omega)) only [push_cast,simprocAttr,h0]; have ht1 : l.length - 1 = l.tail.length := List.length_tail.symm; rw [exCs_tail,ht1]; exact ⟨exV (.mk k n s l.tail),⟨_,rfl,by rw [smF,smL_tail hsl,Bool.and_true,decide_eq_true_eq,← ht1]; omega⟩,.id (exV_sc _ (by first | decide | (rw [H0_next]; decide)) (.mk _ _ _ _))⟩)
     ·first | exact absurd h1 h0 | (simp (disch:=first|omega|(refine id ?_;simp only[push_cast];try omega)) only [push_cast,simprocAttr,h0]; exact ⟨_,⟨.mk k n s l,rfl,hsx⟩,.id (exV_sc _ (by first | decide | (rw [H0_next]; decide)) (.mk _ _ _ l))⟩)
theorem rights_law (hk : jF (pp G) H0 13 [] (.bool true)) (raw : Ex) (l : List Ra) (w v a : Int) (hraw : smG raw = true) (hll : l.length < 1000000000000000) (hsm : smRs l = true) :
  jF (pp G) H0 5 [exV raw, rasV l, .int .i64 w, .int .i64 v, .int .i64 a] (.bool true) := by
 have hlo : H0.lo ≤ H0.next := Nat.le_refl _; refine jF.cut (CallD.fir4 (q := qq) (qD G) fir5 (by kernel_rfl) rfl rfl (F47_arr ..) (show NGG ≤ H0.lo by rw [H0_lo]; decide) ?_); rw [sd_ir5]
 simp (disch:=first|omega|(refine id ?_;simp only[push_cast];try omega)) only [push_cast,simprocAttr]
 refine jA.dataI (hk) (by and_intros <;> first | rfl | (simp (disch:=first|omega|(refine id ?_;simp only[push_cast];try omega)) only [push_cast])) ?_
 simp (disch:=first|omega|(refine id ?_;simp only[push_cast];try omega)) only [push_cast,simprocAttr]
 refine jA.dataI (few_f G l hll hsm) (by and_intros <;> first | rfl | (simp (disch:=first|omega|(refine id ?_;simp only[push_cast];try omega)) only [push_cast])) ?_
 by_cases hf : sizeF l 0 ≤ 20
 rotate_left
 ·simp (disch:=first|omega|(refine id ?_;simp only[push_cast];try omega)) only [push_cast,simprocAttr,hf]
  exact .id rfl
 simp (disch:=first|omega|(refine id ?_;simp only[push_cast];try omega)) only [push_cast,simprocAttr,hf]
 refine jA.dataI (fewx_f G raw 0 (by omega) hraw) (by and_intros <;> first | rfl | (simp (disch:=first|omega|(refine id ?_;simp only[push_cast];try omega)) only [push_cast])) ?_
 cases hfx : fewX raw 0 with
 | false =>
  simp (disch:=first|omega|(refine id ?_;simp only[push_cast];try omega)) only [push_cast,simprocAttr]
  exact .id rfl
 | true =>
  have hrs := few_smF raw 0 hfx
  obtain ⟨hr, hs, hn⟩ := one_fine l
  have hone := oneR_f G [] (by simp) l hsm hll
  generalize firstF [] l = x at hr hs hn hone
  have fzl : FzL (pp G).P H0.next H0 ([rasV l, .slice none 0 0] ++ []) [rasV l, nsV []] := .cons (.id (rasV_sc 6 (by decide) l)) (.cons (.nil (size := 1) rfl (by decide)) .nil)
  simp (disch:=first|omega|(refine id ?_;simp only[push_cast];try omega)) only [push_cast,simprocAttr]
  refine jA.data hone fzl (by simp (disch:=first|omega|(refine id ?_;simp only[push_cast];try omega)) only [push_cast,simprocAttr]; rfl) (by simp (disch:=first|omega|(refine id ?_;simp only[push_cast];try omega)) only [push_cast,simprocAttr]) ?_
  simp (disch:=first|omega|(refine id ?_;simp only[push_cast];try omega)) only [push_cast,simprocAttr]
  refine jA.dataEI (spoilt_e G w v x a hr) (by and_intros <;> first | rfl | (simp (disch:=first|omega|(refine id ?_;simp only[push_cast];try omega)) only [push_cast])) ?_
  rintro d ⟨y, rfl, hy⟩
  refine ⟨exV_sc _ (by show 0 < H0.lo; rw [H0_lo]; decide) y, ?_⟩
  simp (disch:=first|omega|(refine id ?_;simp only[push_cast];try omega)) only [push_cast,simprocAttr]
  refine jA.dataI (right_f G 3 raw hrs) (by and_intros <;> first | rfl | (simp (disch:=first|omega|(refine id ?_;simp only[push_cast];try omega)) only [push_cast])) ?_
  simp (disch:=first|omega|(refine id ?_;simp only[push_cast];try omega)) only [push_cast,simprocAttr]
  refine jA.dataI (rr_f G 3 raw hraw) (by and_intros <;> first | rfl | (simp (disch:=first|omega|(refine id ?_;simp only[push_cast];try omega)) only [push_cast])) ?_
  simp (disch:=first|omega|(refine id ?_;simp only[push_cast];try omega)) only [push_cast,simprocAttr,beq_self_eq_true]
  refine jA.dataI (right_f G 3 y hy) (by and_intros <;> first | rfl | (simp (disch:=first|omega|(refine id ?_;simp only[push_cast];try omega)) only [push_cast])) ?_
  simp (disch:=first|omega|(refine id ?_;simp only[push_cast];try omega)) only [push_cast,simprocAttr]
  refine jA.dataI (rr_f G 3 y (smF_smG y hy)) (by and_intros <;> first | rfl | (simp (disch:=first|omega|(refine id ?_;simp only[push_cast];try omega)) only [push_cast])) ?_
  simp (disch:=first|omega|(refine id ?_;simp only[push_cast];try omega)) only [push_cast,simprocAttr,beq_self_eq_true]
  refine jA.dataI (right_f G 1 y hy) (by and_intros <;> first | rfl | (simp (disch:=first|omega|(refine id ?_;simp only[push_cast];try omega)) only [push_cast])) ?_
  simp (disch:=first|omega|(refine id ?_;simp only[push_cast];try omega)) only [push_cast,simprocAttr]
  refine jA.dataI (rr_f G 1 y (smF_smG y hy)) (by and_intros <;> first | rfl | (simp (disch:=first|omega|(refine id ?_;simp only[push_cast];try omega)) only [push_cast])) ?_
  simp (disch:=first|omega|(refine id ?_;simp only[push_cast];try omega)) only [push_cast,simprocAttr,beq_self_eq_true]
  exact .id rfl
end
end Go.Proofs.YtlbpiiehanibfaaDoor
namespace Go.Proofs.YtlbpiiehanibfaaDoor
open Go Go.RowKit Go.Ev Go.Dv
noncomputable section
set_option maxRecDepth 100000
def witX : Value := .agg ⟨[.int .i64 0, .int .i64 0, .string .empty, .slice none 0 0]⟩
section
variable {w : World} {H : Type} {enc : TypeId × Value → H}
theorem u_str : Tryd.prog.underlying 9 = some .string := by kernel_rfl
theorem u_exs : Tryd.prog.underlying 25 = some (.slice eE) := by kernel_rfl
theorem f_ex : fieldsB Tryd.prog eE [(eI, 0), (eI, 1), (9, 2), (25, 3)] = true := by kernel_rfl
theorem exCs_flat : ∀ l : List Ex, l.flatMap exC = jI l
 | [] => rfl
 | x :: l => by rw [List.flatMap_cons, exCs_flat l, jI]
theorem smGs_of : ∀ {l : List Ex}, (∀ x ∈ l, smG x = true) → smGs l = true
 | [], _ => rfl
 | x :: l, h => by rw [smGs, h x (by simp), smGs_of fun y hy => h y (by simp [hy])]; rfl
theorem open_ex_of (fuel : Nat) (ih : ∀ k, k < fuel → ∀ {cs : List Value} {x : DataW H × List MemPlace}, DataW.trod enc Tryd.prog w 0 (fun _ => true) true k 25 cs = some x → (x.1.weights Tryd.prog 25).all (· ≤ reachBytes) = true →
   ∃ l : List Ex, Go.Dv.Op Tryd.prog 6 LL w [Rw false eE l.length (jI l)] cs ∧ smGs l = true ∧ l.length < 1000000000000000)
  {c : List Value} {y : DataW H × List MemPlace} (hy : DataW.trod enc Tryd.prog w 0 (fun _ => true) true fuel eE c = some y) (hwy : (y.1.weights Tryd.prog eE).all (· ≤ reachBytes) = true) :
  ∃ r : Ex, Go.Dv.Op Tryd.prog 6 LL w (exC r) c ∧ smG r = true := by
 obtain ⟨k', hk', hl, hfs⟩ := open_struct f_ex hy hwy
 rw [show Tryd.prog.cellsOf eE = 4 by kernel_rfl] at hl
 match c, hl with
 | [a, b, d, e], _ =>
  obtain ⟨y0, t0, _⟩ := hfs 0 _ _ rfl
  obtain ⟨y1, t1, _⟩ := hfs 1 _ _ rfl
  obtain ⟨y2, t2, _⟩ := hfs 2 _ _ rfl
  obtain ⟨y3, t3, w3⟩ := hfs 3 _ _ rfl
  rw [show Tryd.prog.cellsOf eI = 1 by kernel_rfl] at t0 t1
  rw [show Tryd.prog.cellsOf 9 = 1 by kernel_rfl] at t2
  rw [show Tryd.prog.cellsOf 25 = 1 by kernel_rfl] at t3
  obtain ⟨m0, e0, o0, _⟩ := open_num (n := 6) (L := LL) u_int t0
  obtain ⟨m1, e1, o1, _⟩ := open_num (n := 6) (L := LL) u_int t1
  obtain ⟨⟨⟨s2⟩⟩, e2, o2⟩ := open_str (n := 6) (L := LL) u_str t2
  obtain ⟨l3, o3, s3, n3⟩ := ih k' (by omega) t3 w3
  refine ⟨.mk m0 m1 s2 l3, ?_, ?_⟩
  ·exact ((o0.append o1).append o2).append o3
  ·simp only [smG, s3, Bool.and_true, decide_eq_true_eq]; exact n3
theorem open_exs : ∀ (fuel : Nat) {cs : List Value} {x : DataW H × List MemPlace}, DataW.trod enc Tryd.prog w 0 (fun _ => true) true fuel 25 cs = some x → (x.1.weights Tryd.prog 25).all (· ≤ reachBytes) = true →
  ∃ l : List Ex, Go.Dv.Op Tryd.prog 6 LL w [Rw false eE l.length (jI l)] cs ∧ smGs l = true ∧ l.length < 1000000000000000 := by
 intro fuel
 induction fuel using Nat.strongRecOn with
 | ind fuel ih =>
 intro cs x h hw
 obtain ⟨l, h1, h2, h3⟩ := open_slice (n := 6) (L := LL) u_exs (size := 4) (by kernel_rfl) (by kernel_rfl) (by omega) (of_decide_eq_true (by kernel_rfl)) exC (fun r => smG r = true) h hw fun k c y hk hy hwy =>
  open_ex_of k (fun k' hk' => ih k' (by omega)) hy hwy
 rw [exCs_flat] at h1
 exact ⟨l, h1, smGs_of h2, h3⟩
theorem open_ex (fuel : Nat) {c : List Value} {y : DataW H × List MemPlace} (hy : DataW.trod enc Tryd.prog w 0 (fun _ => true) true fuel eE c = some y) (hwy : (y.1.weights Tryd.prog eE).all (· ≤ reachBytes) = true) :
  ∃ r : Ex, Go.Dv.Op Tryd.prog 6 LL w (exC r) c ∧ smG r = true := open_ex_of fuel (fun k _ => open_exs k) hy hwy
end
end
end Go.Proofs.YtlbpiiehanibfaaDoor
