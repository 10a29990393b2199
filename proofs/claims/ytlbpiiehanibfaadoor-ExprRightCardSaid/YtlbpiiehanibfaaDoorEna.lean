/-
  A part of the proof: conditions over an abstract memory, and that they are enough for what the model's calls do. No condition of its own.
-/
import Derived.Test.YtlbpiiehanibfaaDoorExb
import Derived.IntWalk
set_option linter.unusedSimpArgs false
set_option linter.unusedVariables false
namespace Go.Proofs.YtlbpiiehanibfaaDoor
open Go Go.RowKit Go.Ev Go.Dv
noncomputable section
variable (G : Nat × Nat)
def t2 (x : Int × Int) : Value := .tuple #[.int .i64 x.1, .int .i64 x.2]
@[push_cast]theorem t2_eq (x : Int × Int) : t2 x = .tuple ⟨[.int .i64 x.1, .int .i64 x.2]⟩ := rfl
def W (a : Int) : Int := IntKind.i64.wrap a
def subF (a b : Int) : Int × Int := if decide (W (a - b) < a) == decide (0 < b) then (W (a - b), 0) else (0, 8)
def truthF (b : Bool) : Int := if b then 1 else 0
def oneF (k a : Int) : Int × Int := if k = 3 then (truthF (decide (a = 0)), 0) else subF 0 a
inductive Ex where
 | mk (k n : Int) (s : List UInt8) (l : List Ex)
def Ex.k : Ex → Int | .mk k _ _ _ => k
abbrev eE : Nat := 27
mutual
def exC : Ex → List Value
 | .mk k n s l => [.int .i64 k, .int .i64 n, .string (Tx s), Rw false eE l.length (jI l)]
def jI : List Ex → List Value
 | [] => []
 | x :: l => exC x ++ jI l
end
def exV (x : Ex) : Value := .agg ⟨exC x⟩
theorem jU (x : Ex) : (exC x).length = 4 := by cases x; simp [exC]
theorem exCs_len : ∀ l : List Ex, (jI l).length = l.length * 4
 | [] => rfl
 | x :: l => by rw [jI, List.length_append, jU, exCs_len l, List.length_cons]; omega
mutual
theorem exC_one : ∀ x : Ex, (exC x).all one = true
 | .mk k n s l => by simp [exC, one, Rw]
theorem exCs_one : ∀ l : List Ex, (jI l).all one = true
 | [] => rfl
 | x :: l => by rw [jI, List.all_append, exC_one x, exCs_one l]; rfl
end
mutual
theorem exC_sc (n : Nat) (hn : 0 < n) : ∀ x : Ex, scL n (exC x) = true
 | .mk k m s l => by
  have := exCs_sc n hn l
  simp [exC, scL, sc, Rw, this, hn]
theorem exCs_sc (n : Nat) (hn : 0 < n) : ∀ l : List Ex, scL n (jI l) = true
 | [] => rfl
 | x :: l => by
  rw [jI]
  exact jE fun v hv => (List.mem_append.1 hv).elim (scL_all (exC_sc n hn x) v) (scL_all (exCs_sc n hn l) v)
end
theorem exV_sc (n : Nat) (hn : 0 < n) (x : Ex) : sc n (exV x) = true := exC_sc n hn x
theorem exCs_drop : ∀ (l : List Ex) (i : Nat), (jI l).drop (i * 4) = jI (l.drop i)
 | l, 0 => by simp
 | [], i + 1 => by simp [jI]
 | x :: l, i + 1 => by
  rw [jI, List.drop_succ_cons, ← exCs_drop l i, Nat.add_mul, Nat.one_mul, Nat.add_comm, ← List.drop_drop, List.drop_append_of_le_length (by rw [jU]; exact Nat.le_refl _), show (exC x).drop 4 = [] from List.drop_of_length_le (by rw [jU]; exact Nat.le_refl _), List.nil_append]
theorem exCs_part {l : List Ex} {i : Nat} {x : Ex} (h : l[i]? = some x) : jZ true 4 (jI l) (i * 4) = some (exV x) := by
 have hi : i < l.length := (List.getElem?_eq_some_iff.1 h).1
 have hd : l.drop i = x :: l.drop (i + 1) := by rw [List.drop_eq_getElem_cons hi]; congr 1; exact (List.getElem?_eq_some_iff.1 h).2
 have hle : i * 4 + 4 ≤ (jI l).length := by rw [exCs_len]; omega
 simp only [jZ, if_pos hle, exV]
 congr 3
 rw [exCs_drop, hd, jI, List.take_append_of_le_length (by rw [jU]; exact Nat.le_refl _), List.take_of_length_le (by rw [jU]; exact Nat.le_refl _)]
mutual
def jT (v : Int) : Ex → Bool
 | .mk k n s l => (if k = 1 ∧ 0 ≤ n then decide (l.length = 0) else if k = 2 ∧ 0 ≤ n ∧ n < v then decide (l.length = 0) else if k = 3 ∨ k = 4 then decide (l.length = 1 ∧ n = 0) else if 5 ≤ k ∧ k ≤ 17 then decide (l.length = 2 ∧ n = 0) else false)
   && decide (s = []) && jG v l
def jG (v : Int) : List Ex → Bool
 | [] => true
 | x :: l => jT v x && jG v l
end
mutual
def smF : Ex → Bool
 | .mk k n s l => decide (l.length < 1000000000) && smL l
def smL : List Ex → Bool
 | [] => true
 | x :: l => smF x && smL l
end
theorem smL_all : ∀ {l : List Ex}, smL l = true → ∀ x ∈ l, smF x = true
 | [], _, x, hx => by cases hx
 | y :: l, h, x, hx => by
  simp only [smL, Bool.and_eq_true] at h
  rcases List.mem_cons.1 hx with rfl | hx
  ·exact h.1
  ·exact smL_all h.2 x hx
end
end Go.Proofs.YtlbpiiehanibfaaDoor
namespace Go.Proofs.YtlbpiiehanibfaaDoor
open Go Go.RowKit Go.Ev Go.Dv
noncomputable section
set_option maxRecDepth 100000
variable (G : Nat × Nat)
abbrev eI : Nat := 3
def ivs (l : List Int) : List Value := l.map (Value.int .i64)
def ivV (l : List Int) : Value := Rw false eI l.length (ivs l)
theorem ivs_len (l : List Int) : (ivs l).length = l.length := by simp [ivs]
theorem ivs_sc (n : Nat) : ∀ l : List Int, scL n (ivs l) = true
 | [] => rfl
 | x :: l => by
  have := ivs_sc n l
  simp only [ivs] at this
  simp [ivs, scL, sc, this]
theorem ivV_sc (n : Nat) (hn : 0 < n) (l : List Int) : sc n (ivV l) = true := by
 have := ivs_sc n l
 simp [ivV, sc, Rw, scL, this, hn]
theorem exCs_take {l : List Ex} {i : Nat} {x : Ex} (h : l[i]? = some x) : ((jI l).drop (i * 4)).take 4 = exC x := by
 have := exCs_part h
 have hi : i < l.length := (List.getElem?_eq_some_iff.1 h).1
 have hle : i * 4 + 4 ≤ (jI l).length := by rw [exCs_len]; omega
 simp only [jZ, if_pos hle, exV, Option.some.injEq, Value.agg.injEq, Array.mk.injEq] at this
 exact this
theorem exCs_p0 (x : Ex) (l : List Ex) : (jI (x :: l)).take 4 = exC x := exCs_take (l := x :: l) (i := 0) rfl
theorem exCs_p1 (x y : Ex) (l : List Ex) : ((jI (x :: y :: l)).drop 4).take 4 = exC y := exCs_take (l := x :: y :: l) (i := 1) rfl
theorem exV_fold (x : Ex) : Value.agg ⟨exC x⟩ = exV x := rfl
attribute [push_cast] exCs_len ivs_len exCs_p0 exCs_p1 exV_fold Int.toNat_zero Int.toNat_one Int.natCast_one exCs_sc ivs_sc ivV_sc exV_sc exC_sc exCs_one exC_one H0_lo H0_next
theorem exV_cells (x : Ex) : (exV x).cells.toList = exC x := rfl
theorem exC_take (x : Ex) : (exC x).take 4 = exC x := List.take_of_length_le (by rw [jU]; exact Nat.le_refl _)
theorem exC_drop (x : Ex) : (exC x).drop 4 = [] := List.drop_of_length_le (by rw [jU]; exact Nat.le_refl _)
attribute [push_cast] exV_cells exC_take exC_drop jU
theorem rightL_all {v : Int} : ∀ {l : List Ex}, jG v l = true → ∀ x ∈ l, jT v x = true
 | [], _, x, hx => by cases hx
 | y :: l, h, x, hx => by
  simp only [jG, Bool.and_eq_true] at h
  rcases List.mem_cons.1 hx with rfl | hx
  ·exact h.1
  ·exact rightL_all h.2 x hx
theorem s_empty (s : List UInt8) : ((Tx s).data.toList == (Tx []).data.toList) = decide (s = []) := by
 cases s <;> simp [Tx]
attribute [push_cast] s_empty b_neqs b_eqls
theorem rightL_take {v : Int} {l : List Ex} {i : Nat} {x : Ex} (h : l[i]? = some x) : jG v (l.take (i + 1)) = (jG v (l.take i) && jT v x) := by
 have hi := (List.getElem?_eq_some_iff.1 h).1
 have app : ∀ a b : List Ex, jG v (a ++ b) = (jG v a && jG v b) := by
  intro a b
  induction a with
  | nil => simp [jG]
  | cons x a ih => simp [jG, ih, Bool.and_assoc]
 rw [List.take_add_one, h, app]
 simp [jG]
theorem rightL_no {v : Int} {l : List Ex} {x : Ex} (h : x ∈ l) (hx : jT v x = false) : jG v l = false := by
 cases hc : jG v l with
 | false => rfl
 | true => rw [rightL_all hc x h] at hx; cases hx
inductive I27 (v : Int) (l : List Ex) : Nat → S → Prop
 | mk (i : Nat) (iv : Int) (h : Heap) {x0 x2 x3 x4 x5 x6 x7 x8 x9 x10 x11 x12 x13 x14 x15 x16 x17 x18 x19 x20 x21 x22 x23 x24 x25 x26 x27 x28 x29 x30 x31 x32 x33 x34 x35 x36 x37 x38 x39 x40 x41 x42 x43 x44 x45 x46 x47 x48 x49 x50 x51 x52 x53 x54 x55 x56 x57 x58 x59 x60 x61 x62 x63 x64 x65 x66 x67 x68 x69 x73 x74 x75 x76 x77 x78 x79 x80 : Value} (hiv : iv = (i : Int)) (hi : i ≤ l.length) (hok : jG v (l.take i) = true) (hl1 : h.lo = 6) (hl2 : 6 ≤ h.next) :
  I27 v l (l.length - i) ⟨(F81 x0 (.int .i64 v) x2 x3 x4 x5 x6 x7 x8 x9 x10 x11 x12 x13 x14 x15 x16 x17 x18 x19 x20 x21 x22 x23 x24 x25 x26 x27 x28 x29 x30 x31 x32 x33 x34 x35 x36 x37 x38 x39 x40 x41 x42 x43 x44 x45 x46 x47 x48 x49 x50 x51 x52 x53 x54 x55 x56 x57 x58 x59 x60 x61 x62 x63 x64 x65 x66 x67 x68 x69 (Rw false eE l.length (jI l)) (.int .i64 l.length) (.int .i64 iv) x73 x74 x75 x76 x77 x78 x79 x80), [], h⟩
theorem right_s0 (v c k n : Int) (s : List UInt8) (l : List Ex) (hll : l.length < 1000000000) (ih : ∀ x ∈ l, jF (pp G) H0 27 [exV x, .int .i64 v] (.bool (jT v x))) {x0 x3 x4 x6 x7 x8 x9 x10 x11 x12 x13 x14 x15 x16 x17 x18 x19 x20 x21 x22 x23 x24 x25 x26 x27 x28 x29 x30 x31 x32 x33 x34 x35 x36 x37 x38 x39 x40 x41 x42 x43 x44 x45 x46 x47 x48 x49 x50 x51 x52 x53 x54 x55 x56 x57 x58 x59 x60 x61 x62 x63 x64 x65 x66 x67 x68 x69 x70 x71 x72 x73 x74 x75 x76 x77 x78 x79 x80 : Value} (b : Bool)
  (hb : b = (decide (s = []) && decide ((l.length : Int) = c) && decide (c = 0 ∨ n = 0) && jG v l)) :
  dc3 (pp G) qq none ir27_s0 ⟨(F81 x0 (.int .i64 v) (.pointer (some ⟨6, 0, none⟩)) x3 x4 (.int .i64 c) x6 x7 x8 x9 x10 x11 x12 x13 x14 x15 x16 x17 x18 x19 x20 x21 x22 x23 x24 x25 x26 x27 x28 x29 x30 x31 x32 x33 x34 x35 x36 x37 x38 x39 x40 x41 x42 x43 x44 x45 x46 x47 x48 x49 x50 x51 x52 x53 x54 x55 x56 x57 x58 x59 x60 x61 x62 x63 x64 x65 x66 x67 x68 x69 x70 x71 x72 x73 x74 x75 x76 x77 x78 x79 x80), [], H0.add (O [.int .i64 k, .int .i64 n, .string (Tx s), Rw false eE l.length (jI l)] 27 false)⟩ (@kR ⟨qM Tryd.prog [.tmp 4] (fun v' σ' => FzV Tryd.prog 6 σ' v' (.bool b))⟩) := by
 rw [sd_ir27_s0]
 have key : ∀ {x50 x51 x52 x53 x54 x55 x56 x57 x58 x59 x60 x61 x62 x63 x64 x65 x66 x67 x68 x69 : Value} (hb : b = jG v l) (h : Heap) (hl1 : h.lo = 6) (hl2 : 6 ≤ h.next), WD (pp G) qq.H none (.loop ir27_s1) ⟨(F81 x0 (.int .i64 v) (.pointer (some ⟨6, 0, none⟩)) x3 x4 (.int .i64 c) x6 x7 x8 x9 x10 x11 x12 x13 x14 x15 x16 x17 x18 x19 x20 x21 x22 x23 x24 x25 x26 x27 x28 x29 x30 x31 x32 x33 x34 x35 x36 x37 x38 x39 x40 x41 x42 x43 x44 x45 x46 x47 x48 x49 x50 x51 x52 x53 x54 x55 x56 x57 x58 x59 x60 x61 x62 x63 x64 x65 x66 x67 x68 x69 (Rw false eE l.length (jI l)) (.int .i64 l.length) (.int .i64 0) x73 x74 x75 x76 x77 x78 x79 x80), [], h⟩
   (@kR ⟨outR3 1 (thenR3 (fun s1 => dc3 (pp G) qq none ir27_s2 s1 (@kR ⟨@kR ⟨qM Tryd.prog [.tmp 4] (fun v' σ' => FzV Tryd.prog 6 σ' v' (.bool b))⟩⟩)) (@kR ⟨qM Tryd.prog [.tmp 4] (fun v' σ' => FzV Tryd.prog 6 σ' v' (.bool b))⟩))⟩) := by
  intro x50 x51 x52 x53 x54 x55 x56 x57 x58 x59 x60 x61 x62 x63 x64 x65 x66 x67 x68 x69 hb h hl1 hl2
  refine WD.loop4 (q := qq) (qD G) (by kernel_rfl) (I27 v l) ?_ _ _ (I27.mk 0 0 h rfl (Nat.zero_le _) rfl hl1 hl2)
  intro m s1 hI
  cases hI with | mk i iv h hiv hi hok hl1 hl2 =>
  subst hiv
  rw [sd_ir27_s1]
  by_cases hil : (i : Int) < l.length
  ·obtain ⟨x, hx⟩ : ∃ x, l[i]? = some x := ⟨_, List.getElem?_eq_getElem (by omega)⟩
   have hxm := List.mem_of_getElem? hx
   have hp := exCs_take hx
   have hle : i * 4 + 4 ≤ l.length * 4 := by omega
   simp (disch:=first|omega|(refine id ?_;simp only[push_cast];try omega)) only [push_cast,simprocAttr,hil,Int.toNat_natCast,hp,hle,hl1]
   refine jA.dataI (ih x hxm) (by and_intros <;> first | rfl | (simp (disch:=first|omega|(refine id ?_;simp only[push_cast];try omega)) only [push_cast])) ?_
   cases hr : jT v x with
   | true =>
    simp (disch:=first|omega|(refine id ?_;simp only[push_cast];try omega)) only [push_cast,simprocAttr]
    exact ⟨_,by omega,I27.mk (i + 1) _ _ (by first | rfl | omega) (by omega) (by rw [rightL_take hx,hok,hr]; rfl) (by first | (simp (disch:=first|omega|(refine id ?_;simp only[push_cast];try omega)) only [push_cast,simprocAttr,hl1]; done) | (simp (disch:=first|omega|(refine id ?_;simp only[push_cast];try omega)) only [push_cast,simprocAttr]; omega)) (by first | (simp (disch:=first|omega|(refine id ?_;simp only[push_cast];try omega)) only [push_cast,simprocAttr]; done) | (simp (disch:=first|omega|(refine id ?_;simp only[push_cast];try omega)) only [push_cast,simprocAttr]; omega))⟩
   | false =>
    rw [rightL_no hxm hr] at hb
    subst hb
    simp (disch:=first|omega|(refine id ?_;simp only[push_cast];try omega)) only [push_cast,simprocAttr]
    exact .id rfl
  ·have hie : i = l.length := by omega
   subst hie
   rw [List.take_length] at hok
   rw [hok] at hb
   subst hb
   simp (disch:=first|omega|(refine id ?_;simp only[push_cast];try omega)) only [push_cast,simprocAttr,hil]
   exact .id rfl
 by_cases h1 : s = []
 ·by_cases h2 : (l.length : Int) = c
  ·subst h2
   by_cases h3 : (0 : Int) < l.length
   ·by_cases h4 : n = 0
    ·simp (disch:=first|omega|(refine id ?_;simp only[push_cast];try omega)) only [push_cast,simprocAttr,h1,h3,h4,beq_self_eq_true]
     exact key (by rw [hb]; simp [h1,h4]) _ (by simp (disch:=first|omega|(refine id ?_;simp only[push_cast];try omega)) only [push_cast,simprocAttr]) (by first | (simp (disch:=first|omega|(refine id ?_;simp only[push_cast];try omega)) only [push_cast,simprocAttr]; done) | (simp (disch:=first|omega|(refine id ?_;simp only[push_cast];try omega)) only [push_cast,simprocAttr]; omega))
    ·have hno : ¬ ((l.length : Int) = 0 ∨ n = 0) := by omega
     have : b = false := by rw [hb, decide_eq_false hno]; simp
     subst this
     simp (disch:=first|omega|(refine id ?_;simp only[push_cast];try omega)) only [push_cast,simprocAttr,h1,h3,h4,beq_self_eq_true]
     exact .id rfl
   ·simp (disch:=first|omega|(refine id ?_;simp only[push_cast];try omega)) only [push_cast,simprocAttr,h1,h3,beq_self_eq_true]
    exact key (by rw [hb,decide_eq_true (show (l.length : Int) = 0 ∨ n = 0 by omega)]; simp [h1]) _ (by simp (disch:=first|omega|(refine id ?_;simp only[push_cast];try omega)) only [push_cast,simprocAttr]) (by first | (simp (disch:=first|omega|(refine id ?_;simp only[push_cast];try omega)) only [push_cast,simprocAttr]; done) | (simp (disch:=first|omega|(refine id ?_;simp only[push_cast];try omega)) only [push_cast,simprocAttr]; omega))
  ·have : b = false := by rw [hb]; simp [h2]
   subst this
   simp (disch:=first|omega|(refine id ?_;simp only[push_cast];try omega)) only [push_cast,simprocAttr,h1,h2,beq_self_eq_true]
   exact .id rfl
 ·have : b = false := by rw [hb]; simp [h1]
  subst this
  have hs : (s == []) = false := by simpa using h1
  simp (disch:=first|omega|(refine id ?_;simp only[push_cast];try omega)) only [push_cast,simprocAttr,hs]
  exact .id rfl
theorem right_f (v : Int) : ∀ x : Ex, smF x = true → jF (pp G) H0 27 [exV x, .int .i64 v] (.bool (jT v x))
 | .mk k n s l, hsm => by
  simp only [smF, Bool.and_eq_true, decide_eq_true_eq] at hsm
  have hall := smL_all hsm.2
  have ih : ∀ x ∈ l, jF (pp G) H0 27 [exV x, .int .i64 v] (.bool (jT v x)) := fun x hx => right_f v x (hall x hx)
  have hlo : H0.lo ≤ H0.next := Nat.le_refl _; refine jF.cut (CallD.fir4 (q := qq) (qD G) fir27 (by kernel_rfl) rfl rfl (F81_arr ..) (show NGG ≤ H0.lo by rw [H0_lo]; decide) ?_); rw [sd_ir27]
  unfold exV exC
  rw [jT]
  have hq : ∀ (c : Int) (A : Bool), A = (decide ((l.length : Int) = c) && decide (c = 0 ∨ n = 0)) → (A && decide (s = []) && jG v l) = (decide (s = []) && decide ((l.length : Int) = c) && decide (c = 0 ∨ n = 0) && jG v l) := fun c A hA => by
   rw [hA]
   cases decide (s = []) <;> cases decide ((l.length : Int) = c) <;> cases decide (c = 0 ∨ n = 0) <;> rfl
  by_cases h1 : k = 1
  ·by_cases h2 : 0 ≤ n
   ·rw [if_pos ⟨h1, h2⟩]
    simp (disch:=first|omega|(refine id ?_;simp only[push_cast];try omega)) only [push_cast,simprocAttr,h1,h2]
    exact right_s0 G v 0 1 n s l hsm.1 ih _ (hq 0 (decide (l.length = 0)) (by rw [Bool.eq_iff_iff]; simp only [Bool.and_eq_true, decide_eq_true_eq]; constructor <;> intro hz <;> first | omega | exact ⟨by omega, by first | omega | exact .inl rfl⟩ | exact ⟨by omega, by simp⟩ | exact hz.1 | (simp at hz ⊢; omega)))
   ·rw [if_neg (by omega), if_neg (by omega), if_neg (by omega), if_neg (by omega)]
    subst h1
    simp (disch:=first|omega|(refine id ?_;simp only[push_cast];try omega)) only [push_cast,simprocAttr,h2]
    exact .id rfl
  rw [if_neg (by omega)]
  by_cases h2 : k = 2
  ·by_cases h3 : 0 ≤ n
   ·by_cases h4 : n < v
    ·rw [if_pos ⟨h2, h3, h4⟩]
     subst h2
     simp (disch:=first|omega|(refine id ?_;simp only[push_cast];try omega)) only [push_cast,simprocAttr,h3,h4]
     exact right_s0 G v 0 2 n s l hsm.1 ih _ (hq 0 (decide (l.length = 0)) (by rw [Bool.eq_iff_iff]; simp only [Bool.and_eq_true, decide_eq_true_eq]; constructor <;> intro hz <;> first | omega | exact ⟨by omega, by first | omega | exact .inl rfl⟩ | exact ⟨by omega, by simp⟩ | exact hz.1 | (simp at hz ⊢; omega)))
    ·rw [if_neg (by omega), if_neg (by omega), if_neg (by omega)]
     subst h2
     simp (disch:=first|omega|(refine id ?_;simp only[push_cast];try omega)) only [push_cast,simprocAttr,h3,h4]
     exact .id rfl
   ·rw [if_neg (by omega), if_neg (by omega), if_neg (by omega)]
    subst h2
    simp (disch:=first|omega|(refine id ?_;simp only[push_cast];try omega)) only [push_cast,simprocAttr,h3]
    exact .id rfl
  rw [if_neg (by omega)]
  by_cases h3 : k = 3
  ·rw [if_pos (.inl h3)]
   subst h3
   simp (disch:=first|omega|(refine id ?_;simp only[push_cast];try omega)) only [push_cast,simprocAttr]
   exact right_s0 G v 1 3 n s l hsm.1 ih _ (hq 1 (decide (l.length = 1 ∧ n = 0)) (by rw [Bool.eq_iff_iff]; simp only [Bool.and_eq_true, decide_eq_true_eq]; constructor <;> intro hz <;> first | omega | exact ⟨by omega, by first | omega | exact .inl rfl⟩ | exact ⟨by omega, by simp⟩ | exact hz.1 | (simp at hz ⊢; omega)))
  by_cases h4 : k = 4
  ·rw [if_pos (.inr h4)]
   subst h4
   simp (disch:=first|omega|(refine id ?_;simp only[push_cast];try omega)) only [push_cast,simprocAttr]
   exact right_s0 G v 1 4 n s l hsm.1 ih _ (hq 1 (decide (l.length = 1 ∧ n = 0)) (by rw [Bool.eq_iff_iff]; simp only [Bool.and_eq_true, decide_eq_true_eq]; constructor <;> intro hz <;> first | omega | exact ⟨by omega, by first | omega | exact .inl rfl⟩ | exact ⟨by omega, by simp⟩ | exact hz.1 | (simp at hz ⊢; omega)))
  rw [if_neg (by omega)]
  by_cases h5 : 5 ≤ k
  ·by_cases h6 : k ≤ 17
   ·rw [if_pos ⟨h5, h6⟩]
    simp (disch:=first|omega|(refine id ?_;simp only[push_cast];try omega)) only [push_cast,simprocAttr,h1,h2,h3,h4,h5,h6]
    exact right_s0 G v 2 k n s l hsm.1 ih _ (hq 2 (decide (l.length = 2 ∧ n = 0)) (by rw [Bool.eq_iff_iff]; simp only [Bool.and_eq_true, decide_eq_true_eq]; constructor <;> intro hz <;> first | omega | exact ⟨by omega, by first | omega | exact .inl rfl⟩ | exact ⟨by omega, by simp⟩ | exact hz.1 | (simp at hz ⊢; omega)))
   ·rw [if_neg (by omega)]
    simp (disch:=first|omega|(refine id ?_;simp only[push_cast];try omega)) only [push_cast,simprocAttr,h1,h2,h3,h4,h5,h6]
    exact .id rfl
  ·rw [if_neg (by omega)]
   simp (disch:=first|omega|(refine id ?_;simp only[push_cast];try omega)) only [push_cast,simprocAttr,h1,h2,h3,h4,h5]
   exact .id rfl
 termination_by x => SizeOf.sizeOf x
end
end Go.Proofs.YtlbpiiehanibfaaDoor
namespace Go.Proofs.YtlbpiiehanibfaaDoor
open Go Go.RowKit Go.Ev Go.Dv
noncomputable section
def In (a : Int) : Prop := -9223372036854775808 ≤ a ∧ a ≤ 9223372036854775807
theorem W_in {a : Int} (h : In a) : W a = a := by
 unfold In at h
 unfold W; rw [IntKind.wrap_i64]; omega
mutual
def inF : Ex → Prop
 | .mk _ n _ l => In n ∧ inL l
def inL : List Ex → Prop
 | [] => True
 | x :: l => inF x ∧ inL l
end
end
end Go.Proofs.YtlbpiiehanibfaaDoor
namespace Go.Proofs.YtlbpiiehanibfaaDoor
open Go Go.RowKit Go.Ev Go.Dv
noncomputable section
set_option maxRecDepth 100000
variable (G : Nat × Nat)
@[push_cast]theorem ivR_sc (n : Nat) (hn : 0 < n) (l : List Int) : sc n (Rw false eI l.length (ivs l)) = true := ivV_sc n hn l
def jQ (a n : Int) : Int := if a.tmod n < 0 then a.tmod n + n else a.tmod n
theorem qI {a n : Int} (hn : 0 < n) : 0 ≤ jQ a n ∧ jQ a n < n := by
 have h1 : (a.tmod n).natAbs = a.natAbs % n.natAbs := Int.natAbs_tmod a n
 have h2 : a.natAbs % n.natAbs < n.natAbs := Nat.mod_lt _ (by omega)
 unfold jQ
 split <;> omega
theorem qH (a n : Int) (hn : 0 < n) (hn2 : n < 1000000000) : jF (pp G) H0 31 [.int .i64 a, .int .i64 n] (.int .i64 (jQ a n)) := by
 have hlo : H0.lo ≤ H0.next := Nat.le_refl _; refine jF.cut (CallD.fir4 (q := qq) (qD G) fir31 (by kernel_rfl) rfl rfl (F15_arr ..) (show NGG ≤ H0.lo by rw [H0_lo]; decide) ?_); rw [sd_ir31]
 have h0 : ¬ n = 0 := by omega
 have h1 : ¬ n = -1 := by omega
 have h2 := qI (a := a) hn
 unfold jQ at h2 ⊢
 by_cases h : a.tmod n < 0
 ·rw [if_pos h]
  rw [if_pos h] at h2
  have h3 : IntKind.i64.wrap (a.tmod n + n) = a.tmod n + n := W_in (by unfold In; omega)
  simp (disch:=first|omega|(refine id ?_;simp only[push_cast];try omega)) only [push_cast,simprocAttr,h,h0,h1,h3]
  exact .id rfl
 ·rw [if_neg h]
  rw [if_neg h] at h2
  simp (disch:=first|omega|(refine id ?_;simp only[push_cast];try omega)) only [push_cast,simprocAttr,h,h0,h1]
  exact .id rfl
inductive Ra where
 | mk (k n : Int) (l : List Ra)
abbrev eR : Nat := 63
mutual
def raC : Ra → List Value
 | .mk k n l => [.int .i64 k, .int .i64 n, Rw false eR l.length (raCs l)]
def raCs : List Ra → List Value
 | [] => []
 | x :: l => raC x ++ raCs l
end
def raV (x : Ra) : Value := .agg ⟨raC x⟩
def rasV (l : List Ra) : Value := Rw false eR l.length (raCs l)
theorem raC_len (x : Ra) : (raC x).length = 3 := by cases x; simp [raC]
theorem raCs_len : ∀ l : List Ra, (raCs l).length = l.length * 3
 | [] => rfl
 | x :: l => by rw [raCs, List.length_append, raC_len, raCs_len l, List.length_cons]; omega
mutual
theorem raC_one : ∀ x : Ra, (raC x).all one = true
 | .mk k n l => by simp [raC, one, Rw]
theorem raCs_one : ∀ l : List Ra, (raCs l).all one = true
 | [] => rfl
 | x :: l => by rw [raCs, List.all_append, raC_one x, raCs_one l]; rfl
end
mutual
theorem raC_sc (n : Nat) (hn : 0 < n) : ∀ x : Ra, scL n (raC x) = true
 | .mk k m l => by
  have := raCs_sc n hn l
  simp [raC, scL, sc, Rw, this, hn]
theorem raCs_sc (n : Nat) (hn : 0 < n) : ∀ l : List Ra, scL n (raCs l) = true
 | [] => rfl
 | x :: l => by
  rw [raCs]
  exact jE fun v hv => (List.mem_append.1 hv).elim (scL_all (raC_sc n hn x) v) (scL_all (raCs_sc n hn l) v)
end
theorem raV_sc (n : Nat) (hn : 0 < n) (x : Ra) : sc n (raV x) = true := raC_sc n hn x
theorem rasR_sc (n : Nat) (hn : 0 < n) (l : List Ra) : sc n (Rw false eR l.length (raCs l)) = true := by
 have := raCs_sc n hn l
 simp [sc, Rw, scL, this, hn]
theorem rasV_sc (n : Nat) (hn : 0 < n) (l : List Ra) : sc n (rasV l) = true := rasR_sc n hn l
theorem raCs_drop : ∀ (l : List Ra) (i : Nat), (raCs l).drop (i * 3) = raCs (l.drop i)
 | l, 0 => by simp
 | [], i + 1 => by simp [raCs]
 | x :: l, i + 1 => by
  rw [raCs, List.drop_succ_cons, ← raCs_drop l i, Nat.add_mul, Nat.one_mul, Nat.add_comm, ← List.drop_drop, List.drop_append_of_le_length (by rw [raC_len]; exact Nat.le_refl _), show (raC x).drop 3 = [] from List.drop_of_length_le (by rw [raC_len]; exact Nat.le_refl _), List.nil_append]
theorem raCs_take {l : List Ra} {i : Nat} {x : Ra} (h : l[i]? = some x) : ((raCs l).drop (i * 3)).take 3 = raC x := by
 have hi : i < l.length := (List.getElem?_eq_some_iff.1 h).1
 have hd : l.drop i = x :: l.drop (i + 1) := by rw [List.drop_eq_getElem_cons hi]; congr 1; exact (List.getElem?_eq_some_iff.1 h).2
 rw [raCs_drop, hd, raCs, List.take_append_of_le_length (by rw [raC_len]; exact Nat.le_refl _), List.take_of_length_le (by rw [raC_len]; exact Nat.le_refl _)]
theorem raCs_get {l : List Ra} {i k n : Nat} {a b : Int} {l' : List Ra} (h : l[i]? = some (.mk a b l')) : (raCs l)[i * 3 + 2]? = some (Rw false eR l'.length (raCs l')) := by
 have h1 := raCs_take h
 have h2 : (((raCs l).drop (i * 3)).take 3)[2]? = some (Rw false eR l'.length (raCs l')) := by rw [h1]; rfl
 rw [List.getElem?_take_of_lt (by omega), List.getElem?_drop] at h2
 exact h2
theorem raV_fold (x : Ra) : Value.agg ⟨raC x⟩ = raV x := rfl
theorem raV_cells (x : Ra) : (raV x).cells.toList = raC x := rfl
theorem raC_take (x : Ra) : (raC x).take 3 = raC x := List.take_of_length_le (by rw [raC_len]; exact Nat.le_refl _)
theorem raC_drop (x : Ra) : (raC x).drop 3 = [] := List.drop_of_length_le (by rw [raC_len]; exact Nat.le_refl _)
attribute [push_cast] raCs_len raV_fold raCs_sc raV_sc rasV_sc rasR_sc raC_sc raCs_one raC_one raV_cells raC_take raC_drop raC_len
mutual
def smR : Ra → Bool
 | .mk _ _ l => decide (l.length < 1000000000000000) && smRs l
def smRs : List Ra → Bool
 | [] => true
 | x :: l => smR x && smRs l
end
theorem smRs_all : ∀ {l : List Ra}, smRs l = true → ∀ x ∈ l, smR x = true
 | [], _, x, hx => by cases hx
 | y :: l, h, x, hx => by
  simp only [smRs, Bool.and_eq_true] at h
  rcases List.mem_cons.1 hx with rfl | hx
  ·exact h.1
  ·exact smRs_all h.2 x hx
mutual
def szR (d : Nat) : Ra → Int
 | .mk _ _ l => if 8 < d then 1000 else szL d 0 l
def szL (d : Nat) (n : Int) : List Ra → Int
 | [] => n
 | x :: l => if n ≤ 20 then szL d (n + 1 + szR (d + 1) x) l else n
end
def sizeF (l : List Ra) (d : Nat) : Int := if 8 < d then 1000 else szL d 0 l
mutual
theorem szR_le (d : Nat) : ∀ x : Ra, 0 ≤ szR d x ∧ szR d x ≤ 1000 + 21 * ((9 - d : Nat) : Int)
 | .mk k n l => by
  rw [szR]
  split
  ·omega
  ·exact szL_le d (by omega) l 0 (by omega) (by omega)
theorem szL_le (d : Nat) (hd : d ≤ 8) : ∀ (l : List Ra) (n : Int), 0 ≤ n → n ≤ 1000 + 21 * ((9 - d : Nat) : Int) → 0 ≤ szL d n l ∧ szL d n l ≤ 1000 + 21 * ((9 - d : Nat) : Int)
 | [], n, h, h' => by rw [szL]; exact ⟨h, h'⟩
 | x :: l, n, h, h' => by
  rw [szL]
  have := szR_le (d + 1) x
  split
  ·exact szL_le d hd l _ (by omega) (by omega)
  ·exact ⟨h, h'⟩
end
inductive I33 (d : Nat) (l : List Ra) : Nat → S → Prop
 | mk (i : Nat) (iv n : Int) (h : Heap) {x2 x3 x4 x7 x8 x9 x10 x11 x12 x13 x14 x15 x16 x17 x18 x19 x20 x21 x22 x23 x24 x25 x26 x27 x28 x29 x30 : Value} (hiv : iv = (i : Int)) (hi : i ≤ l.length) (hn : 0 ≤ n ∧ n ≤ 2000) (hok : szL d n (l.drop i) = szL d 0 l) (hl1 : h.lo = 6) (hl2 : 6 ≤ h.next) :
  I33 d l (l.length - i) ⟨(F31 (Rw false eR l.length (raCs l)) (.int .i64 d) x2 x3 x4 (.int .i64 n) (.int .i64 iv) x7 x8 x9 x10 x11 x12 x13 x14 x15 x16 x17 x18 x19 x20 x21 x22 x23 x24 x25 x26 x27 x28 x29 x30), [], h⟩
theorem size_f : ∀ (l : List Ra) (d : Nat), d ≤ 9 → l.length < 1000000000000000 → smRs l = true → jF (pp G) H0 33 [rasV l, .int .i64 d] (.int .i64 (sizeF l d))
 | l, d, hd, hll, hsm => by
  have ih : ∀ k n l', .mk k n l' ∈ l → d ≤ 8 → jF (pp G) H0 33 [rasV l', .int .i64 ((d + 1 : Nat) : Int)] (.int .i64 (sizeF l' (d + 1))) := fun k n l' hm hd' => by
   have := smRs_all hsm _ hm
   simp only [smR, Bool.and_eq_true, decide_eq_true_eq] at this
   exact size_f l' (d + 1) (by omega) this.1 this.2
  have hlo : H0.lo ≤ H0.next := Nat.le_refl _; refine jF.cut (CallD.fir4 (q := qq) (qD G) fir33 (by kernel_rfl) rfl rfl (F31_arr ..) (show NGG ≤ H0.lo by rw [H0_lo]; decide) ?_); rw [sd_ir33]
  unfold rasV sizeF
  by_cases h8 : 8 < d
  ·rw [if_pos h8]
   have h8' : (8 : Int) < d := by omega
   simp (disch:=first|omega|(refine id ?_;simp only[push_cast];try omega)) only [push_cast,simprocAttr,h8']
   exact .id rfl
  rw [if_neg h8]
  have h8' : ¬ (8 : Int) < d := by omega
  simp (disch:=first|omega|(refine id ?_;simp only[push_cast];try omega)) only [push_cast,simprocAttr,h8']
  refine WD.loop4 (q := qq) (qD G) (by kernel_rfl) (I33 d l) ?_ _ _ (I33.mk 0 0 0 _ rfl (Nat.zero_le _) (by omega) rfl rfl (Nat.le_refl _))
  intro m s1 hI
  cases hI with | mk i iv n h hiv hi hn hok hl1 hl2 =>
  subst hiv
  rw [sd_ir33_s0]
  by_cases hil : (i : Int) < l.length
  ·obtain ⟨x, hx⟩ : ∃ x, l[i]? = some x := ⟨_, List.getElem?_eq_getElem (by omega)⟩
   have hxm := List.mem_of_getElem? hx
   have hdr : l.drop i = x :: l.drop (i + 1) := by rw [List.drop_eq_getElem_cons (by omega)]; congr 1; exact (List.getElem?_eq_some_iff.1 hx).2
   rw [hdr, szL] at hok
   by_cases hn2 : n ≤ 20
   ·rw [if_pos hn2] at hok
    obtain ⟨k', n', l'⟩ := x
    have hp := raCs_get (k := 0) (n := 0) hx
    have hle : i * 3 + 3 ≤ l.length * 3 := by omega
    have e1 : IntKind.i64.wrap (n + 1) = n + 1 := W_in (by unfold In; omega)
    have e2 : IntKind.i64.wrap ((d : Int) + 1) = ((d + 1 : Nat) : Int) := W_in (by unfold In; omega)
    have hb := szR_le (d + 1) (.mk k' n' l')
    have e4 : szR (d + 1) (.mk k' n' l') = sizeF l' (d + 1) := by rw [szR, sizeF]
    rw [e4] at hb hok
    have e3 : IntKind.i64.wrap (n + 1 + sizeF l' (d + 1)) = n + 1 + sizeF l' (d + 1) := W_in (by unfold In; omega)
    simp (disch:=first|omega|(refine id ?_;simp only[push_cast];try omega)) only [push_cast,simprocAttr,hil,hn2,Int.toNat_natCast,hp,hle,hl1,e1,e2]
    refine jA.dataI (ih k' n' l' hxm (by omega)) (by and_intros <;> first | rfl | (simp (disch:=first|omega|(refine id ?_;simp only[push_cast];try omega)) only [push_cast])) ?_
    simp (disch:=first|omega|(refine id ?_;simp only[push_cast];try omega)) only [push_cast,simprocAttr,e3]
    exact ⟨_,by omega,I33.mk (i + 1) _ _ _ (by first | rfl | omega) (by omega) (by omega) hok (by first | exact hl1 | (simp (disch:=first|omega|(refine id ?_;simp only[push_cast];try omega)) only [push_cast,simprocAttr,hl1]; done) | (simp (disch:=first|omega|(refine id ?_;simp only[push_cast];try omega)) only [push_cast,simprocAttr]; omega)) (by first | exact hl2 | (simp (disch:=first|omega|(refine id ?_;simp only[push_cast];try omega)) only [push_cast,simprocAttr]; done) | (simp (disch:=first|omega|(refine id ?_;simp only[push_cast];try omega)) only [push_cast,simprocAttr]; omega))⟩
   ·rw [if_neg hn2] at hok
    simp (disch:=first|omega|(refine id ?_;simp only[push_cast];try omega)) only [push_cast,simprocAttr,hil,hn2]
    rw [sd_ir33_s1]
    simp (disch:=first|omega|(refine id ?_;simp only[push_cast];try omega)) only [push_cast,simprocAttr]
    rw [hok]
    exact .id rfl
  ·have hie : i = l.length := by omega
   subst hie
   rw [List.drop_length, szL] at hok
   simp (disch:=first|omega|(refine id ?_;simp only[push_cast];try omega)) only [push_cast,simprocAttr,hil]
   rw [sd_ir33_s1]
   simp (disch:=first|omega|(refine id ?_;simp only[push_cast];try omega)) only [push_cast,simprocAttr]
   rw [hok]
   exact .id rfl
 termination_by l => SizeOf.sizeOf l
 decreasing_by
  have := List.sizeOf_lt_of_mem hm
  simp at this
  omega
theorem few_f (l : List Ra) (hll : l.length < 1000000000000000) (hs : smRs l = true) : jF (pp G) H0 14 [rasV l] (.bool (decide (sizeF l 0 ≤ 20))) := by
 have hlo : H0.lo ≤ H0.next := Nat.le_refl _; refine jF.cut (CallD.fir4 (q := qq) (qD G) fir14 (by kernel_rfl) rfl rfl (F6_arr ..) (show NGG ≤ H0.lo by rw [H0_lo]; decide) ?_); rw [sd_ir14]
 simp (disch:=first|omega|(refine id ?_;simp only[push_cast];try omega)) only [push_cast,simprocAttr]
 refine jA.dataI (size_f G l 0 (by omega) hll hs) (by and_intros <;> first | rfl | (simp (disch:=first|omega|(refine id ?_;simp only[push_cast];try omega)) only [push_cast])) ?_
 simp (disch:=first|omega|(refine id ?_;simp only[push_cast];try omega)) only [push_cast,simprocAttr]
 exact .id rfl
abbrev eS : Nat := 9
def nss (l : List (List UInt8)) : List Value := l.map fun s => Value.string (Tx s)
def nsV (l : List (List UInt8)) : Value := Rw false eS l.length (nss l)
theorem nss_len (l : List (List UInt8)) : (nss l).length = l.length := by simp [nss]
theorem nss_sc (n : Nat) : ∀ l : List (List UInt8), scL n (nss l) = true
 | [] => rfl
 | x :: l => by
  have := nss_sc n l
  simp only [nss] at this
  simp [nss, scL, sc, this]
theorem nsV_sc (n : Nat) (hn : 0 < n) (l : List (List UInt8)) : sc n (nsV l) = true := by
 have := nss_sc n l
 simp [nsV, sc, Rw, scL, this, hn]
theorem nsR_sc (n : Nat) (hn : 0 < n) (l : List (List UInt8)) : sc n (Rw false eS l.length (nss l)) = true := nsV_sc n hn l
theorem ivs_get' {l : List Int} {i : Nat} (h : i < l.length) : (ivs l)[i]? = some (.int .i64 (l.getD i 0)) := by simp [ivs, h]
theorem nss_get {l : List (List UInt8)} {i : Nat} (h : i < l.length) : (nss l)[i]? = some (.string (Tx (l.getD i []))) := by simp [nss, h]
attribute [push_cast] nss_len nss_sc nsV_sc nsR_sc
def numsF : List Int := [0, 1, 2, 7, 99, 999999999999999999, 5, 3]
def partF (n : Int) (l : List Ex) (i : Nat) : Ex := l.getD i (.mk 1 (jQ (W (n + i)) 5) [] [])
mutual
def mkF (ns : List (List UInt8)) : Ra → Ex
 | .mk k n l => if jQ k 24 < 4 then .mk 1 (numsF.getD (jQ n 8).toNat 0) [] []
  else if jQ k 24 < 9 ∧ 0 < ns.length then .mk 2 0 (ns.getD (jQ n ns.length).toNat []) []
  else if jQ k 24 < 9 then .mk 2 (jQ n 3) [] []
  else if jQ k 24 = 9 then .mk 3 0 [] [partF n (mkL ns l) 0]
  else if jQ k 24 = 10 then .mk 4 0 [] [partF n (mkL ns l) 0]
  else .mk (5 + jQ k 24 - 11) 0 [] [partF n (mkL ns l) 0, partF n (mkL ns l) 1]
def mkL (ns : List (List UInt8)) : List Ra → List Ex
 | [] => []
 | x :: l => mkF ns x :: mkL ns l
end
theorem mkL_map (ns : List (List UInt8)) : ∀ l : List Ra, mkL ns l = l.map (mkF ns)
 | [] => rfl
 | x :: l => by rw [mkL, mkL_map ns l]; rfl
@[push_cast]theorem raA_sc (m : Nat) (hm : 0 < m) (k n : Int) (l : List Ra) : sc m (.agg ⟨[.int .i64 k, .int .i64 n, Rw false eR l.length (raCs l)]⟩) = true := raV_sc m hm (.mk k n l)
theorem fz_leaf {P : Program} {m : Nat} {σ : Heap} (hs : szT P eE = some 4) (k n : Int) (s : List UInt8) : FzV P m σ (.agg ⟨[.int .i64 k, .int .i64 n, .string (Tx s), .slice none 0 0]⟩) (exV (.mk k n s [])) := by
 refine .agg (.cons (.id rfl) (.cons (.id rfl) (.cons (.id rfl) (.cons ?_ .nil))))
 exact .nil hs (by omega)
theorem fz_of {P : Program} {m : Nat} (hm : 0 < m) {σ : Heap} (k n : Int) (s : List UInt8) (l : List Ex) : FzV P m σ (.agg ⟨[.int .i64 k, .int .i64 n, .string (Tx s), Rw true eE l.length (jI l)]⟩) (exV (.mk k n s l)) := by
 refine .agg (.cons (.id rfl) (.cons (.id rfl) (.cons (.id rfl) (.cons ?_ .nil))))
 exact .row (.ids (exCs_sc m hm l))
theorem rowE1 (x : Ex) (σ : Heap) : bsD (qq.m 25) (slT Tryd.prog 25) 1 [(0, exV x)] σ = some (Rw true eE 1 (jI [x]), σ) := by
 cases x; kernel_rfl
theorem rowE2 (x y : Ex) (σ : Heap) : bsD (qq.m 25) (slT Tryd.prog 25) 2 [(0, exV x), (1, exV y)] σ = some (Rw true eE 2 (jI [x, y]), σ) := by
 cases x; cases y; kernel_rfl
theorem row8 (σ : Heap) : bsD (qq.m 41) (slT Tryd.prog 41) 8 [(0, (.int .i64 0)), (1, (.int .i64 1)), (2, (.int .i64 2)), (3, (.int .i64 7)), (4, (.int .i64 99)), (5, (.int .i64 999999999999999999)), (6, (.int .i64 5)), (7, (.int .i64 3))] σ = some (Rw true eI 8 (ivs numsF), σ) := by kernel_rfl
theorem part_f (ns : List (List UInt8)) (k n : Int) (l : List Ra) (i : Nat) (hi : i < 2) (hll : l.length < 1000000000000000) (ih : ∀ x ∈ l, jF (pp G) H0 34 [raV x, nsV ns] (exV (mkF ns x))) :
  jF (pp G) H0 48 [raV (.mk k n l), .int .i64 i, nsV ns] (exV (partF n (mkL ns l) i)) := by
 have he : partF n (mkL ns l) i = (match l[i]? with | some x => mkF ns x | none => .mk 1 (jQ (W (n + i)) 5) [] []) := by
  rw [partF, mkL_map, List.getD_eq_getElem?_getD, List.getElem?_map]
  cases l[i]? <;> rfl
 rw [he]
 have hlo : H0.lo ≤ H0.next := Nat.le_refl _; refine jF.cut (CallD.fir4 (q := qq) (qD G) fir48 (by kernel_rfl) rfl rfl (F25_arr ..) (show NGG ≤ H0.lo by rw [H0_lo]; decide) ?_); rw [sd_ir48]
 unfold raV raC
 by_cases h : (i : Int) < l.length
 ·obtain ⟨x, hx⟩ : ∃ x, l[i]? = some x := ⟨_, List.getElem?_eq_getElem (by omega)⟩
  have hp := raCs_take hx
  have hle : i * 3 + 3 ≤ l.length * 3 := by omega
  rw [hx]
  simp (disch:=first|omega|(refine id ?_;simp only[push_cast];try omega)) only [push_cast,simprocAttr,h,hp,hle,Int.toNat_natCast]
  refine jA.dataI (ih x (List.mem_of_getElem? hx)) (by and_intros <;> first | rfl | (simp (disch:=first|omega|(refine id ?_;simp only[push_cast];try omega)) only [push_cast])) ?_
  simp (disch:=first|omega|(refine id ?_;simp only[push_cast];try omega)) only [push_cast,simprocAttr]
  exact .id (by simp [exV_sc])
 ·have hx : l[i]? = none := List.getElem?_eq_none (by omega)
  rw [hx]
  have hw : IntKind.i64.wrap (n + i) = W (n + i) := rfl
  simp (disch:=first|omega|(refine id ?_;simp only[push_cast];try omega)) only [push_cast,simprocAttr,h,hw]
  refine jA.dataI (qH G (W (n + i)) 5 (by omega) (by omega)) (by and_intros <;> first | rfl | (simp (disch:=first|omega|(refine id ?_;simp only[push_cast];try omega)) only [push_cast])) ?_
  simp (disch:=first|omega|(refine id ?_;simp only[push_cast];try omega)) only [push_cast,simprocAttr]
  exact fz_leaf rfl _ _ _
theorem make_f (ns : List (List UInt8)) (hns : ns.length < 1000000000) : ∀ x : Ra, smR x = true → jF (pp G) H0 34 [raV x, nsV ns] (exV (mkF ns x))
 | .mk k n l, hsm => by
  simp only [smR, Bool.and_eq_true, decide_eq_true_eq] at hsm
  have hall := smRs_all hsm.2
  have ih : ∀ x ∈ l, jF (pp G) H0 34 [raV x, nsV ns] (exV (mkF ns x)) := fun x hx => make_f ns hns x (hall x hx)
  have p0 : jF (pp G) H0 48 [raV (.mk k n l), .int .i64 0, nsV ns] (exV (partF n (mkL ns l) 0)) := part_f G ns k n l 0 (by omega) hsm.1 ih
  have p1 : jF (pp G) H0 48 [raV (.mk k n l), .int .i64 1, nsV ns] (exV (partF n (mkL ns l) 1)) := part_f G ns k n l 1 (by omega) hsm.1 ih
  have hlo : H0.lo ≤ H0.next := Nat.le_refl _; refine jF.cut (CallD.fir4 (q := qq) (qD G) fir34 (by kernel_rfl) rfl rfl (F70_arr ..) (show NGG ≤ H0.lo by rw [H0_lo]; decide) ?_); rw [sd_ir34]
  unfold raV raC
  rw [mkF]
  simp (disch:=first|omega|(refine id ?_;simp only[push_cast];try omega)) only [push_cast,simprocAttr]
  refine jA.dataI (qH G k 24 (by omega) (by omega)) (by and_intros <;> first | rfl | (simp (disch:=first|omega|(refine id ?_;simp only[push_cast];try omega)) only [push_cast])) ?_
  have hk := qI (a := k) (n := 24) (by omega)
  generalize jQ k 24 = w at hk ⊢
  by_cases h4 : w < 4
  ·rw [if_pos h4]
   have hw := qI (a := n) (n := 8) (by omega)
   have hg := ivs_get' (l := numsF) (i := (jQ n 8).toNat) (by show (jQ n 8).toNat < 8; omega)
   have hc : ((jQ n 8).toNat : Int) = jQ n 8 := Int.toNat_of_nonneg hw.1
   have hl8 : (ivs numsF).length = 8 := rfl
   simp (disch:=first|omega|(refine id ?_;simp only[push_cast];try omega)) only [push_cast,simprocAttr,h4,↓row8]
   refine jA.dataI (qH G n 8 (by omega) (by omega)) (by and_intros <;> first | rfl | (simp (disch:=first|omega|(refine id ?_;simp only[push_cast];try omega)) only [push_cast])) ?_
   simp (disch:=first|omega|(refine id ?_;simp only[push_cast];try omega)) only [push_cast,simprocAttr,hg,hc,hl8]
   exact fz_leaf rfl _ _ _
  rw [if_neg h4]
  by_cases h9 : w < 9
  ·by_cases h0 : 0 < ns.length
   ·rw [if_pos ⟨h9, h0⟩]
    unfold nsV
    have h0' : (0 : Int) < ns.length := by omega
    have hw := qI (a := n) (n := (ns.length : Int)) (by omega)
    have hg := nss_get (l := ns) (i := (jQ n ns.length).toNat) (by omega)
    have hc : ((jQ n ns.length).toNat : Int) = jQ n ns.length := Int.toNat_of_nonneg hw.1
    have hlt : (jQ n ns.length).toNat < ns.length := by omega
    simp (disch:=first|omega|(refine id ?_;simp only[push_cast];try omega)) only [push_cast,simprocAttr,h4,h9,h0']
    refine jA.dataI (qH G n ns.length (by omega) (by omega)) (by and_intros <;> first | rfl | (simp (disch:=first|omega|(refine id ?_;simp only[push_cast];try omega)) only [push_cast])) ?_
    simp (disch:=first|omega|(refine id ?_;simp only[push_cast];try omega)) only [push_cast,simprocAttr,hg,hc,hlt]
    exact fz_leaf rfl _ _ _
   ·rw [if_neg (fun h => h0 h.2), if_pos h9]
    unfold nsV
    have h0' : ¬ (0 : Int) < ns.length := by omega
    simp (disch:=first|omega|(refine id ?_;simp only[push_cast];try omega)) only [push_cast,simprocAttr,h4,h9,h0']
    refine jA.dataI (qH G n 3 (by omega) (by omega)) (by and_intros <;> first | rfl | (simp (disch:=first|omega|(refine id ?_;simp only[push_cast];try omega)) only [push_cast])) ?_
    simp (disch:=first|omega|(refine id ?_;simp only[push_cast];try omega)) only [push_cast,simprocAttr]
    exact fz_leaf rfl _ _ _
  rw [if_neg (fun h => h9 h.1), if_neg h9]
  by_cases h9' : w = 9
  ·rw [if_pos h9']
   subst h9'
   simp (disch:=first|omega|(refine id ?_;simp only[push_cast];try omega)) only [push_cast,simprocAttr]
   refine jA.dataI (p0) (by and_intros <;> first | rfl | (simp (disch:=first|omega|(refine id ?_;simp only[push_cast];try omega)) only [push_cast])) ?_
   simp (disch:=first|omega|(refine id ?_;simp only[push_cast];try omega)) only [push_cast,simprocAttr,↓rowE1]
   exact fz_of (m := 6) (by decide) 3 0 [] [_]
  rw [if_neg h9']
  by_cases h10 : w = 10
  ·rw [if_pos h10]
   subst h10
   simp (disch:=first|omega|(refine id ?_;simp only[push_cast];try omega)) only [push_cast,simprocAttr]
   refine jA.dataI (p0) (by and_intros <;> first | rfl | (simp (disch:=first|omega|(refine id ?_;simp only[push_cast];try omega)) only [push_cast])) ?_
   simp (disch:=first|omega|(refine id ?_;simp only[push_cast];try omega)) only [push_cast,simprocAttr,↓rowE1]
   exact fz_of (m := 6) (by decide) 4 0 [] [_]
  rw [if_neg h10]
  have e1 : IntKind.i64.wrap (5 + w) = 5 + w := W_in (by unfold In; omega)
  have e2 : IntKind.i64.wrap (5 + w - 11) = 5 + w - 11 := W_in (by unfold In; omega)
  simp (disch:=first|omega|(refine id ?_;simp only[push_cast];try omega)) only [push_cast,simprocAttr,h4,h9,h9',h10,e1,e2]
  refine jA.dataI (p0) (by and_intros <;> first | rfl | (simp (disch:=first|omega|(refine id ?_;simp only[push_cast];try omega)) only [push_cast])) ?_
  simp (disch:=first|omega|(refine id ?_;simp only[push_cast];try omega)) only [push_cast,simprocAttr]
  refine jA.dataI (p1) (by and_intros <;> first | rfl | (simp (disch:=first|omega|(refine id ?_;simp only[push_cast];try omega)) only [push_cast])) ?_
  simp (disch:=first|omega|(refine id ?_;simp only[push_cast];try omega)) only [push_cast,simprocAttr,↓rowE2]
  exact fz_of (m := 6) (by decide) (5 + w - 11) 0 [] [_, _]
 termination_by x => SizeOf.sizeOf x
def firstF (ns : List (List UInt8)) : List Ra → Ex
 | [] => .mk 1 1 [] []
 | x :: _ => mkF ns x
theorem oneR_f (ns : List (List UInt8)) (hns : ns.length < 1000000000) (l : List Ra) (hsm : smRs l = true) (hll : l.length < 1000000000000000) :
  jF (pp G) H0 15 [rasV l, nsV ns] (exV (firstF ns l)) := by
 have hlo : H0.lo ≤ H0.next := Nat.le_refl _; refine jF.cut (CallD.fir4 (q := qq) (qD G) fir15 (by kernel_rfl) rfl rfl (F14_arr ..) (show NGG ≤ H0.lo by rw [H0_lo]; decide) ?_); rw [sd_ir15]
 cases l with
 | nil =>
  rw [firstF]
  unfold rasV
  simp (disch:=first|omega|(refine id ?_;simp only[push_cast];try omega)) only [push_cast,simprocAttr]
  exact fz_leaf rfl _ _ _
 | cons x l =>
  rw [firstF]
  have hx := smRs_all hsm x (by simp)
  have hp := raCs_take (l := x :: l) (i := 0) rfl
  rw [Nat.zero_mul, List.drop_zero] at hp
  have h0 : ¬ (l.length : Int) + 1 = 0 := by omega
  have h1 : 3 ≤ (l.length + 1) * 3 := by omega
  have h2 : 0 < (x :: l).length := by simp
  unfold rasV
  simp (disch:=first|omega|(refine id ?_;simp only[push_cast];try omega)) only [push_cast,simprocAttr,h0,h1,h2,hp]
  refine jA.dataI (make_f G ns hns x hx) (by and_intros <;> first | rfl | (simp (disch:=first|omega|(refine id ?_;simp only[push_cast];try omega)) only [push_cast])) ?_
  simp (disch:=first|omega|(refine id ?_;simp only[push_cast];try omega)) only [push_cast,simprocAttr]
  exact .id (by simp [exV_sc])
end
end Go.Proofs.YtlbpiiehanibfaaDoor
