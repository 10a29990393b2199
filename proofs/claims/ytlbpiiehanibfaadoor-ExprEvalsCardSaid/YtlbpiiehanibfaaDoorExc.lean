/-
  What other texts of this seat take: the function 'within' at any number, 'known', the functions without a body. No condition but those that each theorem names.
-/
import Derived.Test.YtlbpiiehanibfaaDoorExb
import Derived.Test.YtlbpiiehanibfaaDoorExa
import Derived.Test.YtlbpiiehanibfaaDoorEwb
import Derived.Test.YtlbpiiehanibfaaDoorEvd
import Derived.Test.YtlbpiiehanibfaaDoorProg
import Derived.KernelRfl
import Derived.WalkKit
import Derived.WalkSpells
set_option linter.unusedSimpArgs false
set_option linter.unusedVariables false
namespace Go.Proofs.YtlbpiiehanibfaaDoor
open Go Go.RowKit Go.Ev Go.Dv
noncomputable section
set_option maxRecDepth 100000
variable (G : Nat × Nat)
inductive Ra where
  | mk (k n : Int) (l : List Ra)
abbrev eR : Nat := 63
mutual
def raC : Ra → List Value
  | .mk k n l => [.int .i64 k, .int .i64 n, Rw false eR l.length (raCs l)]
def raCs : List Ra → List Value
  | [] => []
  | x :: l => raC x ++ raCs l
end
def raV (x : Ra) : Value := .agg ⟨raC x⟩
def rasV (l : List Ra) : Value := Rw false eR l.length (raCs l)
theorem raC_len (x : Ra) : (raC x).length = 3 := by cases x; simp [raC]
theorem raCs_len : ∀ l : List Ra, (raCs l).length = l.length * 3
  | [] => rfl
  | x :: l => by rw [raCs, List.length_append, raC_len, raCs_len l, List.length_cons]; omega
mutual
theorem raC_one : ∀ x : Ra, (raC x).all one = true
  | .mk k n l => by simp [raC, one, Rw]
theorem raCs_one : ∀ l : List Ra, (raCs l).all one = true
  | [] => rfl
  | x :: l => by rw [raCs, List.all_append, raC_one x, raCs_one l]; rfl
end
mutual
theorem raC_sc (n : Nat) (hn : 0 < n) : ∀ x : Ra, scL n (raC x) = true
  | .mk k m l => by
    have := raCs_sc n hn l
    simp [raC, scL, sc, Rw, this, hn]
theorem raCs_sc (n : Nat) (hn : 0 < n) : ∀ l : List Ra, scL n (raCs l) = true
  | [] => rfl
  | x :: l => by
    rw [raCs]
    exact scL_of_all fun v hv => (List.mem_append.1 hv).elim (scL_all (raC_sc n hn x) v) (scL_all (raCs_sc n hn l) v)
end
theorem raV_sc (n : Nat) (hn : 0 < n) (x : Ra) : sc n (raV x) = true := raC_sc n hn x
theorem rasR_sc (n : Nat) (hn : 0 < n) (l : List Ra) : sc n (Rw false eR l.length (raCs l)) = true := by
  have := raCs_sc n hn l
  simp [sc, Rw, scL, this, hn]
theorem rasV_sc (n : Nat) (hn : 0 < n) (l : List Ra) : sc n (rasV l) = true := rasR_sc n hn l
theorem raCs_drop : ∀ (l : List Ra) (i : Nat), (raCs l).drop (i * 3) = raCs (l.drop i)
  | l, 0 => by simp
  | [], i + 1 => by simp [raCs]
  | x :: l, i + 1 => by
    rw [raCs, List.drop_succ_cons, ← raCs_drop l i, Nat.add_mul, Nat.one_mul, Nat.add_comm, ← List.drop_drop, List.drop_append_of_le_length (by rw [raC_len]; exact Nat.le_refl _), show (raC x).drop 3 = [] from List.drop_of_length_le (by rw [raC_len]; exact Nat.le_refl _), List.nil_append]
theorem raCs_take {l : List Ra} {i : Nat} {x : Ra} (h : l[i]? = some x) : ((raCs l).drop (i * 3)).take 3 = raC x := by
  have hi : i < l.length := (List.getElem?_eq_some_iff.1 h).1
  have hd : l.drop i = x :: l.drop (i + 1) := by rw [List.drop_eq_getElem_cons hi]; congr 1; exact (List.getElem?_eq_some_iff.1 h).2
  rw [raCs_drop, hd, raCs, List.take_append_of_le_length (by rw [raC_len]; exact Nat.le_refl _), List.take_of_length_le (by rw [raC_len]; exact Nat.le_refl _)]
theorem raCs_get {l : List Ra} {i k n : Nat} {a b : Int} {l' : List Ra} (h : l[i]? = some (.mk a b l')) : (raCs l)[i * 3 + 2]? = some (Rw false eR l'.length (raCs l')) := by
  have h1 := raCs_take h
  have h2 : (((raCs l).drop (i * 3)).take 3)[2]? = some (Rw false eR l'.length (raCs l')) := by rw [h1]; rfl
  rw [List.getElem?_take_of_lt (by omega), List.getElem?_drop] at h2
  exact h2
theorem raV_fold (x : Ra) : Value.agg ⟨raC x⟩ = raV x := rfl
theorem raV_cells (x : Ra) : (raV x).cells.toList = raC x := rfl
theorem raC_take (x : Ra) : (raC x).take 3 = raC x := List.take_of_length_le (by rw [raC_len]; exact Nat.le_refl _)
theorem raC_drop (x : Ra) : (raC x).drop 3 = [] := List.drop_of_length_le (by rw [raC_len]; exact Nat.le_refl _)
attribute [push_cast] raCs_len raV_fold raCs_sc raV_sc rasV_sc rasR_sc raC_sc raCs_one raC_one raV_cells raC_take raC_drop raC_len
mutual
def smR : Ra → Bool
  | .mk _ _ l => decide (l.length < 1000000000000000) && smRs l
def smRs : List Ra → Bool
  | [] => true
  | x :: l => smR x && smRs l
end
theorem smRs_all : ∀ {l : List Ra}, smRs l = true → ∀ x ∈ l, smR x = true
  | [], _, x, hx => by cases hx
  | y :: l, h, x, hx => by
    simp only [smRs, Bool.and_eq_true] at h
    rcases List.mem_cons.1 hx with rfl | hx
    · exact h.1
    · exact smRs_all h.2 x hx
mutual
def szR (d : Nat) : Ra → Int
  | .mk _ _ l => if 8 < d then 1000 else szL d 0 l
def szL (d : Nat) (n : Int) : List Ra → Int
  | [] => n
  | x :: l => if n ≤ 20 then szL d (n + 1 + szR (d + 1) x) l else n
end
def sizeF (l : List Ra) (d : Nat) : Int := if 8 < d then 1000 else szL d 0 l
mutual
theorem szR_le (d : Nat) : ∀ x : Ra, 0 ≤ szR d x ∧ szR d x ≤ 1000 + 21 * ((9 - d : Nat) : Int)
  | .mk k n l => by
    rw [szR]
    split
    · omega
    · exact szL_le d (by omega) l 0 (by omega) (by omega)
theorem szL_le (d : Nat) (hd : d ≤ 8) : ∀ (l : List Ra) (n : Int), 0 ≤ n → n ≤ 1000 + 21 * ((9 - d : Nat) : Int) → 0 ≤ szL d n l ∧ szL d n l ≤ 1000 + 21 * ((9 - d : Nat) : Int)
  | [], n, h, h' => by rw [szL]; exact ⟨h, h'⟩
  | x :: l, n, h, h' => by
    rw [szL]
    have := szR_le (d + 1) x
    split
    · exact szL_le d hd l _ (by omega) (by omega)
    · exact ⟨h, h'⟩
end
inductive I33 (d : Nat) (l : List Ra) : Nat → S → Prop
  | mk (i : Nat) (iv n : Int) (h : Heap) {x2 x3 x4 x7 x8 x9 x10 x11 x12 x13 x14 x15 x16 x17 x18 x19 x20 x21 x22 x23 x24 x25 x26 x27 x28 x29 x30 : Value} (hiv : iv = (i : Int)) (hi : i ≤ l.length) (hn : 0 ≤ n ∧ n ≤ 2000) (hok : szL d n (l.drop i) = szL d 0 l) (hl1 : h.lo = 6) (hl2 : 6 ≤ h.next) :
    I33 d l (l.length - i) ⟨(F31 (Rw false eR l.length (raCs l)) (.int .i64 d) x2 x3 x4 (.int .i64 n) (.int .i64 iv) x7 x8 x9 x10 x11 x12 x13 x14 x15 x16 x17 x18 x19 x20 x21 x22 x23 x24 x25 x26 x27 x28 x29 x30), [], h⟩
theorem size_f : ∀ (l : List Ra) (d : Nat), d ≤ 9 → l.length < 1000000000000000 → smRs l = true → CallF (pp G) H0 33 [rasV l, .int .i64 d] (.int .i64 (sizeF l d))
  | l, d, hd, hll, hsm => by
    have ih : ∀ k n l', .mk k n l' ∈ l → d ≤ 8 → CallF (pp G) H0 33 [rasV l', .int .i64 ((d + 1 : Nat) : Int)] (.int .i64 (sizeF l' (d + 1))) := fun k n l' hm hd' => by
      have := smRs_all hsm _ hm
      simp only [smR, Bool.and_eq_true, decide_eq_true_eq] at this
      exact size_f l' (d + 1) (by omega) this.1 this.2
    have hlo : H0.lo ≤ H0.next := Nat.le_refl _; refine CallF.cut (CallD.fir4 (q := qq) (good G) fir33 ok_ir33 rfl rfl (F31_arr ..) (Nat.le_refl _) ?_); rw [sd_ir33]
    unfold rasV sizeF
    by_cases h8 : 8 < d
    · rw [if_pos h8]
      have h8' : (8 : Int) < d := by omega
      simp (disch:=first|omega|(refine id ?_;simp only[push_cast];first|done|omega)) only [push_cast,h8']
      exact .id rfl
    rw [if_neg h8]
    have h8' : ¬ (8 : Int) < d := by omega
    simp (disch:=first|omega|(refine id ?_;simp only[push_cast];first|done|omega)) only [push_cast,h8']
    refine WD.loop4 (q := qq) (good G) ok_ir33_s0 (I33 d l) ?_ _ _ (I33.mk 0 0 0 _ rfl (Nat.zero_le _) (by omega) rfl rfl (Nat.le_refl _))
    intro m s1 hI
    cases hI with | mk i iv n h hiv hi hn hok hl1 hl2 =>
    subst hiv
    rw [sd_ir33_s0]
    by_cases hil : (i : Int) < l.length
    · obtain ⟨x, hx⟩ : ∃ x, l[i]? = some x := ⟨_, List.getElem?_eq_getElem (by omega)⟩
      have hxm := List.mem_of_getElem? hx
      have hdr : l.drop i = x :: l.drop (i + 1) := by rw [List.drop_eq_getElem_cons (by omega)]; congr 1; exact (List.getElem?_eq_some_iff.1 hx).2
      rw [hdr, szL] at hok
      by_cases hn2 : n ≤ 20
      · rw [if_pos hn2] at hok
        obtain ⟨k', n', l'⟩ := x
        have hp := raCs_get (k := 0) (n := 0) hx
        have hle : i * 3 + 3 ≤ l.length * 3 := by omega
        have e1 : IntKind.i64.wrap (n + 1) = n + 1 := W_in (by unfold In; omega)
        have e2 : IntKind.i64.wrap ((d : Int) + 1) = ((d + 1 : Nat) : Int) := W_in (by unfold In; omega)
        have hb := szR_le (d + 1) (.mk k' n' l')
        have e4 : szR (d + 1) (.mk k' n' l') = sizeF l' (d + 1) := by rw [szR, sizeF]
        rw [e4] at hb hok
        have e3 : IntKind.i64.wrap (n + 1 + sizeF l' (d + 1)) = n + 1 + sizeF l' (d + 1) := W_in (by unfold In; omega)
        simp (disch:=first|omega|(refine id ?_;simp only[push_cast];first|done|omega)) only [push_cast,hil,hn2,Int.toNat_natCast,hp,hle,hl1,e1,e2]
        refine CallVD.data (ih k' n' l' hxm (by omega)) (by first | exact FzL.ids rfl | (refine FzL.ids ?_; simp (disch:=first|omega|(refine id ?_;simp only[push_cast];first|done|omega)) only [push_cast])) (by first | rfl | (simp (disch:=first|omega|(refine id ?_;simp only[push_cast];first|done|omega)) only [push_cast])) (by first | rfl | (simp (disch:=first|omega|(refine id ?_;simp only[push_cast];first|done|omega)) only [push_cast])) ?_
        simp (disch:=first|omega|(refine id ?_;simp only[push_cast];first|done|omega)) only [push_cast,e3]
        exact ⟨_,by omega,I33.mk (i + 1) _ _ _ (by first | rfl | omega) (by omega) (by omega) hok (by first | exact hl1 | (simp (disch:=first|omega|(refine id ?_;simp only[push_cast];first|done|omega)) only [push_cast,hl1]; done) | (simp (disch:=first|omega|(refine id ?_;simp only[push_cast];first|done|omega)) only [push_cast]; omega)) (by first | exact hl2 | (simp (disch:=first|omega|(refine id ?_;simp only[push_cast];first|done|omega)) only [push_cast]; done) | (simp (disch:=first|omega|(refine id ?_;simp only[push_cast];first|done|omega)) only [push_cast]; omega))⟩
      · rw [if_neg hn2] at hok
        simp (disch:=first|omega|(refine id ?_;simp only[push_cast];first|done|omega)) only [push_cast,hil,hn2]
        rw [sd_ir33_s1]
        simp (disch:=first|omega|(refine id ?_;simp only[push_cast];first|done|omega)) only [push_cast]
        rw [hok]
        exact .id rfl
    · have hie : i = l.length := by omega
      subst hie
      rw [List.drop_length, szL] at hok
      simp (disch:=first|omega|(refine id ?_;simp only[push_cast];first|done|omega)) only [push_cast,hil]
      rw [sd_ir33_s1]
      simp (disch:=first|omega|(refine id ?_;simp only[push_cast];first|done|omega)) only [push_cast]
      rw [hok]
      exact .id rfl
  termination_by l => SizeOf.sizeOf l
  decreasing_by
    have := List.sizeOf_lt_of_mem hm
    simp at this
    omega
end
end Go.Proofs.YtlbpiiehanibfaaDoor
namespace Go.Proofs.YtlbpiiehanibfaaDoor
open Go Go.RowKit Go.Ev Go.Dv
noncomputable section
set_option maxRecDepth 100000
variable (G : Nat × Nat)
theorem few_f (l : List Ra) (hll : l.length < 1000000000000000) (hs : smRs l = true) : CallF (pp G) H0 14 [rasV l] (.bool (decide (sizeF l 0 ≤ 20))) := by
  have hlo : H0.lo ≤ H0.next := Nat.le_refl _; refine CallF.cut (CallD.fir4 (q := qq) (good G) fir14 ok_ir14 rfl rfl (F6_arr ..) (Nat.le_refl _) ?_); rw [sd_ir14]
  simp (disch:=first|omega|(refine id ?_;simp only[push_cast];first|done|omega)) only [push_cast,Int.reduceLT,Int.reduceEq]
  refine CallVD.data (size_f G l 0 (by omega) hll hs) (by first | exact FzL.ids rfl | (refine FzL.ids ?_; simp (disch:=first|omega|(refine id ?_;simp only[push_cast];first|done|omega)) only [push_cast])) (by first | rfl | (simp (disch:=first|omega|(refine id ?_;simp only[push_cast];first|done|omega)) only [push_cast])) (by first | rfl | (simp (disch:=first|omega|(refine id ?_;simp only[push_cast];first|done|omega)) only [push_cast])) ?_
  simp (disch:=first|omega|(refine id ?_;simp only[push_cast];first|done|omega)) only [push_cast,Int.reduceLT,Int.reduceEq]
  exact .id rfl
abbrev eS : Nat := 9
def nss (l : List (List UInt8)) : List Value := l.map fun s => Value.string (Tx s)
def nsV (l : List (List UInt8)) : Value := Rw false eS l.length (nss l)
theorem nss_len (l : List (List UInt8)) : (nss l).length = l.length := by simp [nss]
theorem nss_sc (n : Nat) : ∀ l : List (List UInt8), scL n (nss l) = true
  | [] => rfl
  | x :: l => by
    have := nss_sc n l
    simp only [nss] at this
    simp [nss, scL, sc, this]
theorem nsV_sc (n : Nat) (hn : 0 < n) (l : List (List UInt8)) : sc n (nsV l) = true := by
  have := nss_sc n l
  simp [nsV, sc, Rw, scL, this, hn]
theorem nsR_sc (n : Nat) (hn : 0 < n) (l : List (List UInt8)) : sc n (Rw false eS l.length (nss l)) = true := nsV_sc n hn l
theorem ivs_get' {l : List Int} {i : Nat} (h : i < l.length) : (ivs l)[i]? = some (.int .i64 (l.getD i 0)) := by simp [ivs, h]
theorem nss_get {l : List (List UInt8)} {i : Nat} (h : i < l.length) : (nss l)[i]? = some (.string (Tx (l.getD i []))) := by simp [nss, h]
attribute [push_cast] nss_len nss_sc nsV_sc nsR_sc
def numsF : List Int := [0, 1, 2, 7, 99, 999999999999999999, 5, 3]
def partF (n : Int) (l : List Ex) (i : Nat) : Ex := l.getD i (.mk 1 (withF (W (n + i)) 5) [] [])
mutual
def mkF (ns : List (List UInt8)) : Ra → Ex
  | .mk k n l => if withF k 24 < 4 then .mk 1 (numsF.getD (withF n 8).toNat 0) [] []
    else if withF k 24 < 9 ∧ 0 < ns.length then .mk 2 0 (ns.getD (withF n ns.length).toNat []) []
    else if withF k 24 < 9 then .mk 2 (withF n 3) [] []
    else if withF k 24 = 9 then .mk 3 0 [] [partF n (mkL ns l) 0]
    else if withF k 24 = 10 then .mk 4 0 [] [partF n (mkL ns l) 0]
    else .mk (5 + withF k 24 - 11) 0 [] [partF n (mkL ns l) 0, partF n (mkL ns l) 1]
def mkL (ns : List (List UInt8)) : List Ra → List Ex
  | [] => []
  | x :: l => mkF ns x :: mkL ns l
end
theorem mkL_map (ns : List (List UInt8)) : ∀ l : List Ra, mkL ns l = l.map (mkF ns)
  | [] => rfl
  | x :: l => by rw [mkL, mkL_map ns l]; rfl
theorem raA_sc (m : Nat) (hm : 0 < m) (k n : Int) (l : List Ra) : sc m (.agg ⟨[.int .i64 k, .int .i64 n, Rw false eR l.length (raCs l)]⟩) = true := raV_sc m hm (.mk k n l)
attribute [push_cast] raA_sc
theorem fz_leaf {P : Program} {m : Nat} {σ : Heap} (hs : szT P eE = some 4) (k n : Int) (s : List UInt8) : FzV P m σ (.agg ⟨[.int .i64 k, .int .i64 n, .string (Tx s), .slice none 0 0]⟩) (exV (.mk k n s [])) := by
  refine .agg (.cons (.id rfl) (.cons (.id rfl) (.cons (.id rfl) (.cons ?_ .nil))))
  exact .nil hs (by omega)
theorem fz_of {P : Program} {m : Nat} (hm : 0 < m) {σ : Heap} (k n : Int) (s : List UInt8) (l : List Ex) : FzV P m σ (.agg ⟨[.int .i64 k, .int .i64 n, .string (Tx s), Rw true eE l.length (exCs l)]⟩) (exV (.mk k n s l)) := by
  refine .agg (.cons (.id rfl) (.cons (.id rfl) (.cons (.id rfl) (.cons ?_ .nil))))
  exact .row (.ids (exCs_sc m hm l))
theorem rowE1 (x : Ex) (σ : Heap) : bsD (qq.m 25) (slT Tryd.prog 25) 1 [(0, exV x)] σ = some (Rw true eE 1 (exCs [x]), σ) := by
  cases x; kernel_rfl
theorem rowE2 (x y : Ex) (σ : Heap) : bsD (qq.m 25) (slT Tryd.prog 25) 2 [(0, exV x), (1, exV y)] σ = some (Rw true eE 2 (exCs [x, y]), σ) := by
  cases x; cases y; kernel_rfl
theorem row8 (σ : Heap) : bsD (qq.m 41) (slT Tryd.prog 41) 8 [(0, (.int .i64 0)), (1, (.int .i64 1)), (2, (.int .i64 2)), (3, (.int .i64 7)), (4, (.int .i64 99)), (5, (.int .i64 999999999999999999)), (6, (.int .i64 5)), (7, (.int .i64 3))] σ = some (Rw true eI 8 (ivs numsF), σ) := by kernel_rfl
theorem part_f (ns : List (List UInt8)) (k n : Int) (l : List Ra) (i : Nat) (hi : i < 2) (hll : l.length < 1000000000000000) (ih : ∀ x ∈ l, CallF (pp G) H0 34 [raV x, nsV ns] (exV (mkF ns x))) :
    CallF (pp G) H0 48 [raV (.mk k n l), .int .i64 i, nsV ns] (exV (partF n (mkL ns l) i)) := by
  have he : partF n (mkL ns l) i = (match l[i]? with | some x => mkF ns x | none => .mk 1 (withF (W (n + i)) 5) [] []) := by
    rw [partF, mkL_map, List.getD_eq_getElem?_getD, List.getElem?_map]
    cases l[i]? <;> rfl
  rw [he]
  have hlo : H0.lo ≤ H0.next := Nat.le_refl _; refine CallF.cut (CallD.fir4 (q := qq) (good G) fir48 ok_ir48 rfl rfl (F25_arr ..) (Nat.le_refl _) ?_); rw [sd_ir48]
  unfold raV raC
  by_cases h : (i : Int) < l.length
  · obtain ⟨x, hx⟩ : ∃ x, l[i]? = some x := ⟨_, List.getElem?_eq_getElem (by omega)⟩
    have hp := raCs_take hx
    have hle : i * 3 + 3 ≤ l.length * 3 := by omega
    rw [hx]
    simp (disch:=first|omega|(refine id ?_;simp only[push_cast];first|done|omega)) only [push_cast,Int.reduceLT,Int.reduceEq,h,hp,hle,Int.toNat_natCast]
    refine CallVD.data (ih x (List.mem_of_getElem? hx)) (by first | exact FzL.ids rfl | (refine FzL.ids ?_; simp (disch:=first|omega|(refine id ?_;simp only[push_cast];first|done|omega)) only [push_cast])) (by first | rfl | (simp (disch:=first|omega|(refine id ?_;simp only[push_cast];first|done|omega)) only [push_cast])) (by first | rfl | (simp (disch:=first|omega|(refine id ?_;simp only[push_cast];first|done|omega)) only [push_cast])) ?_
    simp (disch:=first|omega|(refine id ?_;simp only[push_cast];first|done|omega)) only [push_cast,Int.reduceLT,Int.reduceEq]
    exact .id (by simp [exV_sc])
  · have hx : l[i]? = none := List.getElem?_eq_none (by omega)
    rw [hx]
    have hw : IntKind.i64.wrap (n + i) = W (n + i) := rfl
    simp (disch:=first|omega|(refine id ?_;simp only[push_cast];first|done|omega)) only [push_cast,Int.reduceLT,Int.reduceEq,h,hw]
    refine CallVD.data (within_f G (W (n + i)) 5 (by omega) (by omega)) (by first | exact FzL.ids rfl | (refine FzL.ids ?_; simp (disch:=first|omega|(refine id ?_;simp only[push_cast];first|done|omega)) only [push_cast])) (by first | rfl | (simp (disch:=first|omega|(refine id ?_;simp only[push_cast];first|done|omega)) only [push_cast])) (by first | rfl | (simp (disch:=first|omega|(refine id ?_;simp only[push_cast];first|done|omega)) only [push_cast])) ?_
    simp (disch:=first|omega|(refine id ?_;simp only[push_cast];first|done|omega)) only [push_cast,Int.reduceLT,Int.reduceEq]
    exact fz_leaf rfl _ _ _
theorem make_f (ns : List (List UInt8)) (hns : ns.length < 1000000000) : ∀ x : Ra, smR x = true → CallF (pp G) H0 34 [raV x, nsV ns] (exV (mkF ns x))
  | .mk k n l, hsm => by
    simp only [smR, Bool.and_eq_true, decide_eq_true_eq] at hsm
    have hall := smRs_all hsm.2
    have ih : ∀ x ∈ l, CallF (pp G) H0 34 [raV x, nsV ns] (exV (mkF ns x)) := fun x hx => make_f ns hns x (hall x hx)
    have p0 : CallF (pp G) H0 48 [raV (.mk k n l), .int .i64 0, nsV ns] (exV (partF n (mkL ns l) 0)) := part_f G ns k n l 0 (by omega) hsm.1 ih
    have p1 : CallF (pp G) H0 48 [raV (.mk k n l), .int .i64 1, nsV ns] (exV (partF n (mkL ns l) 1)) := part_f G ns k n l 1 (by omega) hsm.1 ih
    have hlo : H0.lo ≤ H0.next := Nat.le_refl _; refine CallF.cut (CallD.fir4 (q := qq) (good G) fir34 ok_ir34 rfl rfl (F70_arr ..) (Nat.le_refl _) ?_); rw [sd_ir34]
    unfold raV raC
    rw [mkF]
    simp (disch:=first|omega|(refine id ?_;simp only[push_cast];first|done|omega)) only [push_cast,Int.reduceLT,Int.reduceEq]
    refine CallVD.data (within_f G k 24 (by omega) (by omega)) (by first | exact FzL.ids rfl | (refine FzL.ids ?_; simp (disch:=first|omega|(refine id ?_;simp only[push_cast];first|done|omega)) only [push_cast])) (by first | rfl | (simp (disch:=first|omega|(refine id ?_;simp only[push_cast];first|done|omega)) only [push_cast])) (by first | rfl | (simp (disch:=first|omega|(refine id ?_;simp only[push_cast];first|done|omega)) only [push_cast])) ?_
    have hk := withF_lt (a := k) (n := 24) (by omega)
    generalize withF k 24 = w at hk ⊢
    by_cases h4 : w < 4
    · rw [if_pos h4]
      have hw := withF_lt (a := n) (n := 8) (by omega)
      have hg := ivs_get' (l := numsF) (i := (withF n 8).toNat) (by show (withF n 8).toNat < 8; omega)
      have hc : ((withF n 8).toNat : Int) = withF n 8 := Int.toNat_of_nonneg hw.1
      have hl8 : (ivs numsF).length = 8 := rfl
      simp (disch:=first|omega|(refine id ?_;simp only[push_cast];first|done|omega)) only [push_cast,Int.reduceLT,Int.reduceEq,h4,↓row8]
      refine CallVD.data (within_f G n 8 (by omega) (by omega)) (by first | exact FzL.ids rfl | (refine FzL.ids ?_; simp (disch:=first|omega|(refine id ?_;simp only[push_cast];first|done|omega)) only [push_cast])) (by first | rfl | (simp (disch:=first|omega|(refine id ?_;simp only[push_cast];first|done|omega)) only [push_cast])) (by first | rfl | (simp (disch:=first|omega|(refine id ?_;simp only[push_cast];first|done|omega)) only [push_cast])) ?_
      simp (disch:=first|omega|(refine id ?_;simp only[push_cast];first|done|omega)) only [push_cast,Int.reduceLT,Int.reduceEq,hg,hc,hl8]
      exact fz_leaf rfl _ _ _
    rw [if_neg h4]
    by_cases h9 : w < 9
    · by_cases h0 : 0 < ns.length
      · rw [if_pos ⟨h9, h0⟩]
        unfold nsV
        have h0' : (0 : Int) < ns.length := by omega
        have hw := withF_lt (a := n) (n := (ns.length : Int)) (by omega)
        have hg := nss_get (l := ns) (i := (withF n ns.length).toNat) (by omega)
        have hc : ((withF n ns.length).toNat : Int) = withF n ns.length := Int.toNat_of_nonneg hw.1
        have hlt : (withF n ns.length).toNat < ns.length := by omega
        simp (disch:=first|omega|(refine id ?_;simp only[push_cast];first|done|omega)) only [push_cast,Int.reduceLT,Int.reduceEq,h4,h9,h0']
        refine CallVD.data (within_f G n ns.length (by omega) (by omega)) (by first | exact FzL.ids rfl | (refine FzL.ids ?_; simp (disch:=first|omega|(refine id ?_;simp only[push_cast];first|done|omega)) only [push_cast])) (by first | rfl | (simp (disch:=first|omega|(refine id ?_;simp only[push_cast];first|done|omega)) only [push_cast])) (by first | rfl | (simp (disch:=first|omega|(refine id ?_;simp only[push_cast];first|done|omega)) only [push_cast])) ?_
        simp (disch:=first|omega|(refine id ?_;simp only[push_cast];first|done|omega)) only [push_cast,Int.reduceLT,Int.reduceEq,hg,hc,hlt]
        exact fz_leaf rfl _ _ _
      · rw [if_neg (fun h => h0 h.2), if_pos h9]
        unfold nsV
        have h0' : ¬ (0 : Int) < ns.length := by omega
        simp (disch:=first|omega|(refine id ?_;simp only[push_cast];first|done|omega)) only [push_cast,Int.reduceLT,Int.reduceEq,h4,h9,h0']
        refine CallVD.data (within_f G n 3 (by omega) (by omega)) (by first | exact FzL.ids rfl | (refine FzL.ids ?_; simp (disch:=first|omega|(refine id ?_;simp only[push_cast];first|done|omega)) only [push_cast])) (by first | rfl | (simp (disch:=first|omega|(refine id ?_;simp only[push_cast];first|done|omega)) only [push_cast])) (by first | rfl | (simp (disch:=first|omega|(refine id ?_;simp only[push_cast];first|done|omega)) only [push_cast])) ?_
        simp (disch:=first|omega|(refine id ?_;simp only[push_cast];first|done|omega)) only [push_cast,Int.reduceLT,Int.reduceEq]
        exact fz_leaf rfl _ _ _
    rw [if_neg (fun h => h9 h.1), if_neg h9]
    by_cases h9' : w = 9
    · rw [if_pos h9']
      subst h9'
      simp (disch:=first|omega|(refine id ?_;simp only[push_cast];first|done|omega)) only [push_cast,Int.reduceLT,Int.reduceEq]
      refine CallVD.data (p0) (by first | exact FzL.ids rfl | (refine FzL.ids ?_; simp (disch:=first|omega|(refine id ?_;simp only[push_cast];first|done|omega)) only [push_cast])) (by first | rfl | (simp (disch:=first|omega|(refine id ?_;simp only[push_cast];first|done|omega)) only [push_cast])) (by first | rfl | (simp (disch:=first|omega|(refine id ?_;simp only[push_cast];first|done|omega)) only [push_cast])) ?_
      simp (disch:=first|omega|(refine id ?_;simp only[push_cast];first|done|omega)) only [push_cast,Int.reduceLT,Int.reduceEq,↓rowE1]
      exact fz_of (m := 6) (by decide) 3 0 [] [_]
    rw [if_neg h9']
    by_cases h10 : w = 10
    · rw [if_pos h10]
      subst h10
      simp (disch:=first|omega|(refine id ?_;simp only[push_cast];first|done|omega)) only [push_cast,Int.reduceLT,Int.reduceEq]
      refine CallVD.data (p0) (by first | exact FzL.ids rfl | (refine FzL.ids ?_; simp (disch:=first|omega|(refine id ?_;simp only[push_cast];first|done|omega)) only [push_cast])) (by first | rfl | (simp (disch:=first|omega|(refine id ?_;simp only[push_cast];first|done|omega)) only [push_cast])) (by first | rfl | (simp (disch:=first|omega|(refine id ?_;simp only[push_cast];first|done|omega)) only [push_cast])) ?_
      simp (disch:=first|omega|(refine id ?_;simp only[push_cast];first|done|omega)) only [push_cast,Int.reduceLT,Int.reduceEq,↓rowE1]
      exact fz_of (m := 6) (by decide) 4 0 [] [_]
    rw [if_neg h10]
    have e1 : IntKind.i64.wrap (5 + w) = 5 + w := W_in (by unfold In; omega)
    have e2 : IntKind.i64.wrap (5 + w - 11) = 5 + w - 11 := W_in (by unfold In; omega)
    simp (disch:=first|omega|(refine id ?_;simp only[push_cast];first|done|omega)) only [push_cast,Int.reduceLT,Int.reduceEq,h4,h9,h9',h10,e1,e2]
    refine CallVD.data (p0) (by first | exact FzL.ids rfl | (refine FzL.ids ?_; simp (disch:=first|omega|(refine id ?_;simp only[push_cast];first|done|omega)) only [push_cast])) (by first | rfl | (simp (disch:=first|omega|(refine id ?_;simp only[push_cast];first|done|omega)) only [push_cast])) (by first | rfl | (simp (disch:=first|omega|(refine id ?_;simp only[push_cast];first|done|omega)) only [push_cast])) ?_
    simp (disch:=first|omega|(refine id ?_;simp only[push_cast];first|done|omega)) only [push_cast,Int.reduceLT,Int.reduceEq]
    refine CallVD.data (p1) (by first | exact FzL.ids rfl | (refine FzL.ids ?_; simp (disch:=first|omega|(refine id ?_;simp only[push_cast];first|done|omega)) only [push_cast])) (by first | rfl | (simp (disch:=first|omega|(refine id ?_;simp only[push_cast];first|done|omega)) only [push_cast])) (by first | rfl | (simp (disch:=first|omega|(refine id ?_;simp only[push_cast];first|done|omega)) only [push_cast])) ?_
    have hkd : keptD false [10, 8, 0, 1, 2, 3, 4, 5, 6, 7, 8, 9, 10] ([6, 3], []) = True := by simp [keptD]
    simp (disch:=first|omega|(refine id ?_;simp only[push_cast];first|done|omega)) only [push_cast,Int.reduceLT,Int.reduceEq,↓rowE2,hkd]
    exact fz_of (m := 6) (by decide) (5 + w - 11) 0 [] [_, _]
  termination_by x => SizeOf.sizeOf x
def firstF (ns : List (List UInt8)) : List Ra → Ex
  | [] => .mk 1 1 [] []
  | x :: _ => mkF ns x
theorem oneR_f (ns : List (List UInt8)) (hns : ns.length < 1000000000) (l : List Ra) (hsm : smRs l = true) (hll : l.length < 1000000000000000) :
    CallF (pp G) H0 15 [rasV l, nsV ns] (exV (firstF ns l)) := by
  have hlo : H0.lo ≤ H0.next := Nat.le_refl _; refine CallF.cut (CallD.fir4 (q := qq) (good G) fir15 ok_ir15 rfl rfl (F14_arr ..) (Nat.le_refl _) ?_); rw [sd_ir15]
  cases l with
  | nil =>
    rw [firstF]
    unfold rasV
    simp (disch:=first|omega|(refine id ?_;simp only[push_cast];first|done|omega)) only [push_cast,Int.reduceLT,Int.reduceEq]
    exact fz_leaf rfl _ _ _
  | cons x l =>
    rw [firstF]
    have hx := smRs_all hsm x (by simp)
    have hp := raCs_take (l := x :: l) (i := 0) rfl
    rw [Nat.zero_mul, List.drop_zero] at hp
    have h0 : ¬ (l.length : Int) + 1 = 0 := by omega
    have h1 : 3 ≤ (l.length + 1) * 3 := by omega
    have h2 : 0 < (x :: l).length := by simp
    unfold rasV
    simp (disch:=first|omega|(refine id ?_;simp only[push_cast];first|done|omega)) only [push_cast,Int.reduceLT,Int.reduceEq,h0,h1,h2,hp]
    refine CallVD.data (make_f G ns hns x hx) (by first | exact FzL.ids rfl | (refine FzL.ids ?_; simp (disch:=first|omega|(refine id ?_;simp only[push_cast];first|done|omega)) only [push_cast])) (by first | rfl | (simp (disch:=first|omega|(refine id ?_;simp only[push_cast];first|done|omega)) only [push_cast])) (by first | rfl | (simp (disch:=first|omega|(refine id ?_;simp only[push_cast];first|done|omega)) only [push_cast])) ?_
    simp (disch:=first|omega|(refine id ?_;simp only[push_cast];first|done|omega)) only [push_cast,Int.reduceLT,Int.reduceEq]
    exact .id (by simp [exV_sc])
end
end Go.Proofs.YtlbpiiehanibfaaDoor
namespace Go.Proofs.YtlbpiiehanibfaaDoor
open Go Go.RowKit Go.Ev Go.Dv
@[reducible] noncomputable def qv : Q := ⟨fun t => Nat.beq t 41, H0⟩
end Go.Proofs.YtlbpiiehanibfaaDoor
namespace Go.Proofs.YtlbpiiehanibfaaDoor
open Go.RowKit Go.Ev Go.Dv
set_option maxRecDepth 100000
noncomputable section
def F61 (x0 x1 x2 x3 x4 x5 x6 x7 x8 x9 x10 x11 x12 x13 x14 x15 x16 x17 x18 x19 x20 x21 x22 x23 x24 x25 x26 x27 x28 x29 x30 x31 x32 x33 x34 x35 x36 x37 x38 x39 x40 x41 x42 x43 x44 x45 x46 x47 x48 x49 x50 x51 x52 x53 x54 x55 x56 x57 x58 x59 x60 : Value) : VT := ⟨61,(.node (.node (.node (.node (.node (.node .nil x31 .nil) x15 (.node .nil x47 .nil)) x7 (.node (.node .nil x39 .nil) x23 (.node .nil x55 .nil))) x3 (.node (.node (.node .nil x35 .nil) x19 (.node .nil x51 .nil)) x11 (.node (.node .nil x43 .nil) x27 (.node .nil x59 .nil)))) x1 (.node (.node (.node (.node .nil x33 .nil) x17 (.node .nil x49 .nil)) x9 (.node (.node .nil x41 .nil) x25 (.node .nil x57 .nil))) x5 (.node (.node (.node .nil x37 .nil) x21 (.node .nil x53 .nil)) x13 (.node (.node .nil x45 .nil) x29 .nil)))) x0 (.node (.node (.node (.node (.node .nil x32 .nil) x16 (.node .nil x48 .nil)) x8 (.node (.node .nil x40 .nil) x24 (.node .nil x56 .nil))) x4 (.node (.node (.node .nil x36 .nil) x20 (.node .nil x52 .nil)) x12 (.node (.node .nil x44 .nil) x28 (.node .nil x60 .nil)))) x2 (.node (.node (.node (.node .nil x34 .nil) x18 (.node .nil x50 .nil)) x10 (.node (.node .nil x42 .nil) x26 (.node .nil x58 .nil))) x6 (.node (.node (.node .nil x38 .nil) x22 (.node .nil x54 .nil)) x14 (.node (.node .nil x46 .nil) x30 .nil)))))⟩
theorem F61_arr (x0 x1 x2 x3 x4 x5 x6 x7 x8 x9 x10 x11 x12 x13 x14 x15 x16 x17 x18 x19 x20 x21 x22 x23 x24 x25 x26 x27 x28 x29 x30 x31 x32 x33 x34 x35 x36 x37 x38 x39 x40 x41 x42 x43 x44 x45 x46 x47 x48 x49 x50 x51 x52 x53 x54 x55 x56 x57 x58 x59 x60 : Value) : (F61 x0 x1 x2 x3 x4 x5 x6 x7 x8 x9 x10 x11 x12 x13 x14 x15 x16 x17 x18 x19 x20 x21 x22 x23 x24 x25 x26 x27 x28 x29 x30 x31 x32 x33 x34 x35 x36 x37 x38 x39 x40 x41 x42 x43 x44 x45 x46 x47 x48 x49 x50 x51 x52 x53 x54 x55 x56 x57 x58 x59 x60).arr = ⟨[x0,x1,x2,x3,x4,x5,x6,x7,x8,x9,x10,x11,x12,x13,x14,x15,x16,x17,x18,x19,x20,x21,x22,x23,x24,x25,x26,x27,x28,x29,x30,x31,x32,x33,x34,x35,x36,x37,x38,x39,x40,x41,x42,x43,x44,x45,x46,x47,x48,x49,x50,x51,x52,x53,x54,x55,x56,x57,x58,x59,x60]⟩ := by kernel_rfl
theorem F61_g4 (x0 x1 x2 x3 x4 x5 x6 x7 x8 x9 x10 x11 x12 x13 x14 x15 x16 x17 x18 x19 x20 x21 x22 x23 x24 x25 x26 x27 x28 x29 x30 x31 x32 x33 x34 x35 x36 x37 x38 x39 x40 x41 x42 x43 x44 x45 x46 x47 x48 x49 x50 x51 x52 x53 x54 x55 x56 x57 x58 x59 x60 : Value) : (F61 x0 x1 x2 x3 x4 x5 x6 x7 x8 x9 x10 x11 x12 x13 x14 x15 x16 x17 x18 x19 x20 x21 x22 x23 x24 x25 x26 x27 x28 x29 x30 x31 x32 x33 x34 x35 x36 x37 x38 x39 x40 x41 x42 x43 x44 x45 x46 x47 x48 x49 x50 x51 x52 x53 x54 x55 x56 x57 x58 x59 x60).get 4 = x4 := by kernel_rfl
attribute [push_cast] F61_g4
noncomputable def ir4_s0 : IR := (.seq (.seq (.ops [⟨some 20,none,.take,(.move (.tmp 7)),3⟩,⟨some 21,none,.take,(.move (.tmp 1)),41⟩,⟨some 22,none,.take,(.call ⟨(.builtin .len),#[(.tmp 21)],#[41]⟩),3⟩,⟨some 23,none,.take,(.binOp .lss 3 (.tmp 20) (.tmp 22) 3),4⟩,⟨some 24,none,.take,(.move (.tmp 23)),4⟩,⟨some 25,(some (24,true)),.take,(.move (.tmp 7)),3⟩,⟨some 26,(some (24,true)),.take,(.binOp .lss 3 (.tmp 25) (.const (.int .i64 3)) 3),4⟩,⟨some 27,none,.take,(.pick (.tmp 24) (.tmp 26) (.const (.bool false))),4⟩]) (.cond (.tmp 27) .skip (.exit 0))) (.seq (.block 1 (.ops [⟨some 30,none,.take,(.move (.tmp 6)),41⟩,⟨some 31,none,.take,(.move (.tmp 7)),3⟩,⟨some 32,none,.take,(.move (.tmp 1)),41⟩,⟨some 33,none,.take,(.move (.tmp 7)),3⟩,⟨some 34,none,.take,(.indexAddr 41 (.tmp 32) (.tmp 33)),0⟩,⟨some 35,none,.take,(.load 3 (.tmp 34)),3⟩,⟨some 36,none,.take,(.indexAddr 41 (.tmp 30) (.tmp 31)),0⟩,⟨none,none,.eff,(.store 3 (.tmp 36) (.tmp 35)),0⟩])) (.ops [⟨some 28,none,.take,(.move (.tmp 7)),3⟩,⟨some 29,none,.take,(.binOp .add 3 (.tmp 28) (.const (.int .i64 1)) 3),3⟩,⟨some 7,none,.take,(.assign (.tmp 29)),3⟩])))
theorem ok_ir4_s0 : irOk NGG ir4_s0 = true := by kernel_rfl
noncomputable def ir4_s1 : IR := (.seq (.ops [⟨some 38,none,.take,(.load 27 (.tmp 5)),27⟩,⟨some 39,none,.take,(.move (.tmp 6)),41⟩,⟨some 40,none,.call,(.call ⟨(.value (.func 25)),#[(.tmp 38),(.tmp 39)],#[27,41]⟩),42⟩,⟨some 37,none,.take,(.move (.tmp 40)),42⟩,⟨some 41,none,.take,(.extract (.tmp 37) 0),3⟩,⟨some 42,none,.take,(.extract (.tmp 37) 1),35⟩,⟨some 8,none,.take,(.assign (.tmp 41)),3⟩,⟨some 9,none,.take,(.assign (.tmp 42)),35⟩]) (.seq (.ops [⟨some 44,none,.take,(.load 27 (.tmp 5)),27⟩,⟨some 45,none,.take,(.move (.tmp 6)),41⟩,⟨some 46,none,.call,(.call ⟨(.value (.func 26)),#[(.tmp 44),(.tmp 45)],#[27,41]⟩),44⟩,⟨some 43,none,.take,(.move (.tmp 46)),44⟩,⟨some 47,none,.take,(.extract (.tmp 43) 0),3⟩,⟨some 48,none,.take,(.extract (.tmp 43) 1),3⟩,⟨some 10,none,.take,(.assign (.tmp 47)),3⟩,⟨some 11,none,.take,(.assign (.tmp 48)),3⟩]) (.seq (.ops [⟨some 49,none,.take,(.move (.tmp 8)),3⟩,⟨some 50,none,.take,(.move (.tmp 10)),3⟩,⟨some 51,none,.take,(.binOp .eql 3 (.tmp 49) (.tmp 50) 3),4⟩,⟨some 52,none,.take,(.move (.tmp 51)),4⟩,⟨some 53,(some (52,true)),.take,(.move (.tmp 9)),35⟩,⟨some 54,(some (52,true)),.take,(.move (.tmp 11)),3⟩,⟨some 55,(some (52,true)),.take,(.binOp .eql 3 (.tmp 53) (.tmp 54) 3),4⟩,⟨some 56,none,.take,(.pick (.tmp 52) (.tmp 55) (.const (.bool false))),4⟩,⟨some 57,none,.take,(.move (.tmp 56)),4⟩,⟨some 58,(some (57,true)),.take,(.load 27 (.tmp 5)),27⟩,⟨some 59,(some (57,true)),.call,(.call ⟨(.value (.func 27)),#[(.tmp 58),(.const (.int .i64 3))],#[27,3]⟩),4⟩,⟨some 60,none,.take,(.pick (.tmp 57) (.tmp 59) (.const (.bool false))),4⟩,⟨some 4,none,.take,(.assign (.tmp 60)),4⟩]) .ret)))
theorem ok_ir4 : irOk NGG ir4 = true := by kernel_rfl
theorem sd_ir4 (G : Nat × Nat) (h : Heap) (a0 a1 : Value) (R : Value → Heap → Prop) : dc3 (pp G) qv none ir4 ⟨(F61 a0 a1 undef undef undef undef undef undef undef undef undef undef undef undef undef undef undef undef undef undef undef undef undef undef undef undef undef undef undef undef undef undef undef undef undef undef undef undef undef undef undef undef undef undef undef undef undef undef undef undef undef undef undef undef undef undef undef undef undef undef undef),[],h⟩ (finR Tryd.prog [(.tmp 4)] R) = (oP (some (.bool false)) h (@kk ⟨(fun v1 h2=>CallVD (pp G) qv.H (.func (.func 13) #[] #[]) [] h2 (@kB ⟨(fun _=>(@kk ⟨(fun v3 h4=>oP (unV Tryd.prog .not v3) h4 (@kk ⟨(fun v5 h6=>vcond v5 (@kb ⟨(oP (some (.bool false)) h6 (@kk ⟨(fun v7 h8=>R v7 h8)⟩))⟩) (@kb ⟨(oP (some a0) h6 (@kk ⟨(fun v9 h10=>CallVD (pp G) qv.H (.func (.func 14) #[] #[]) [v9] h10 (@kB ⟨(fun _=>(@kk ⟨(fun v11 h12=>oP (unV Tryd.prog .not v11) h12 (@kk ⟨(fun v13 h14=>vcond v13 (@kb ⟨(oP (some (.bool true)) h14 (@kk ⟨(fun v15 h16=>R v15 h16)⟩))⟩) (@kb ⟨(oP (some a0) h14 (@kk ⟨(fun v17 h18=>CallVD (pp G) qv.H (.func (.func 15) #[] #[]) [v17,(.slice none 0 0)] h18 (@kB ⟨(fun _=>(@kk ⟨(fun v19 h20=>oE (alE (zro Tryd.prog 27) 27 h20) (@kk ⟨(fun v21 h22=>oE (stD (szT Tryd.prog 27) v21 v19 h22) (@kk ⟨(fun v23 h24=>oE (bsD (qv.m 41) (slT Tryd.prog 41) 3 [(0,(.int .i64 1)),(1,(.int .i64 2)),(2,(.int .i64 3))] h24) (@kk ⟨(fun v25 h26=>oP (some v25) h26 (@kk ⟨(fun v27 h28=>oP (some (.int .i64 0)) h28 (@kk ⟨(fun v29 h30=>WD (pp G) qv.H none (.loop ir4_s0) ⟨(F61 a0 a1 undef undef v1 v21 v27 v29 undef undef undef undef v3 v5 v9 v11 v13 v17 v19 v25 undef undef undef undef undef undef undef undef undef undef undef undef undef undef undef undef undef undef undef undef undef undef undef undef undef undef undef undef undef undef undef undef undef undef undef undef undef undef undef undef undef),[],h30⟩ (@kR ⟨(outR3 0 (thenR3 (fun s1=>dc3 (pp G) qv none ir4_s1 s1 (@kR ⟨(finR Tryd.prog [(.tmp 4)] R)⟩)) (finR Tryd.prog [(.tmp 4)] R)))⟩))⟩))⟩))⟩))⟩))⟩))⟩))⟩))⟩))⟩))⟩))⟩))⟩))⟩))⟩))⟩))⟩))⟩))⟩)) := by kernel_rfl
theorem sd_ir4_s0 (G : Nat × Nat) (ro : Option Nat) (df : List Nat) (h : Heap) (x0 x1 x2 x3 x4 x5 x6 x7 x8 x9 x10 x11 x12 x13 x14 x15 x16 x17 x18 x19 x20 x21 x22 x23 x24 x25 x26 x27 x28 x29 x30 x31 x32 x33 x34 x35 x36 x37 x38 x39 x40 x41 x42 x43 x44 x45 x46 x47 x48 x49 x50 x51 x52 x53 x54 x55 x56 x57 x58 x59 x60 : Value) (R : XExit → S → Prop) : dc3 (pp G) qv ro ir4_s0 ⟨(F61 x0 x1 x2 x3 x4 x5 x6 x7 x8 x9 x10 x11 x12 x13 x14 x15 x16 x17 x18 x19 x20 x21 x22 x23 x24 x25 x26 x27 x28 x29 x30 x31 x32 x33 x34 x35 x36 x37 x38 x39 x40 x41 x42 x43 x44 x45 x46 x47 x48 x49 x50 x51 x52 x53 x54 x55 x56 x57 x58 x59 x60),df,h⟩ R = (oP (some x7) h (@kk ⟨(fun v1 h2=>oP (some x1) h2 (@kk ⟨(fun v3 h4=>oP (lnD (lnT Tryd.prog 41) v3) h4 (@kk ⟨(fun v5 h6=>oP (binPure Tryd.prog .lss 3 (.tmp 20) (.tmp 22) v1 v5) h6 (@kk ⟨(fun v7 h8=>oP (some v7) h8 (@kk ⟨(fun v9 h10=>gP v9 true (some x7) h10 (@kk ⟨(fun v11 h12=>gP v9 true (binPure Tryd.prog .lss 3 (.tmp 25) (.const (.int .i64 3)) v11 (.int .i64 3)) h12 (@kk ⟨(fun v13 h14=>oP (pickV v9 v13 (.bool false)) h14 (@kk ⟨(fun v15 h16=>vcond v15 (@kb ⟨(oP (some x6) h16 (@kk ⟨(fun v17 h18=>oP (some x7) h18 (@kk ⟨(fun v19 h20=>oP (some x1) h20 (@kk ⟨(fun v21 h22=>oP (some x7) h22 (@kk ⟨(fun v23 h24=>oP (iaD (esz Tryd.prog 41) v21 v23) h24 (@kk ⟨(fun v25 h26=>oP (ldD Tryd.prog 3 v25 h26) h26 (@kk ⟨(fun v27 h28=>oP (iaD (esz Tryd.prog 41) v17 v19) h28 (@kk ⟨(fun v29 h30=>oE (stD (szT Tryd.prog 3) v29 v27 h30) (@kk ⟨(fun v31 h32=>oP (some x7) h32 (@kk ⟨(fun v33 h34=>oP (binPure Tryd.prog .add 3 (.tmp 28) (.const (.int .i64 1)) v33 (.int .i64 1)) h34 (@kk ⟨(fun v35 h36=>oP (some v35) h36 (@kk ⟨(fun v37 h38=>R .normal ⟨(F61 x0 x1 x2 x3 x4 x5 x6 v37 x8 x9 x10 x11 x12 x13 x14 x15 x16 x17 x18 x19 v1 v3 v5 v7 v9 v11 v13 v15 v33 v35 v17 v19 v21 v23 v25 v27 v29 x37 x38 x39 x40 x41 x42 x43 x44 x45 x46 x47 x48 x49 x50 x51 x52 x53 x54 x55 x56 x57 x58 x59 x60),df,h38⟩)⟩))⟩))⟩))⟩))⟩))⟩))⟩))⟩))⟩))⟩))⟩))⟩) (@kb ⟨(R (.exit 0) ⟨(F61 x0 x1 x2 x3 x4 x5 x6 x7 x8 x9 x10 x11 x12 x13 x14 x15 x16 x17 x18 x19 v1 v3 v5 v7 v9 v11 v13 v15 x28 x29 x30 x31 x32 x33 x34 x35 x36 x37 x38 x39 x40 x41 x42 x43 x44 x45 x46 x47 x48 x49 x50 x51 x52 x53 x54 x55 x56 x57 x58 x59 x60),df,h16⟩)⟩))⟩))⟩))⟩))⟩))⟩))⟩))⟩))⟩)) := by kernel_rfl
theorem sd_ir4_s1 (G : Nat × Nat) (ro : Option Nat) (df : List Nat) (h : Heap) (x0 x1 x2 x3 x4 x5 x6 x7 x8 x9 x10 x11 x12 x13 x14 x15 x16 x17 x18 x19 x20 x21 x22 x23 x24 x25 x26 x27 x28 x29 x30 x31 x32 x33 x34 x35 x36 x37 x38 x39 x40 x41 x42 x43 x44 x45 x46 x47 x48 x49 x50 x51 x52 x53 x54 x55 x56 x57 x58 x59 x60 : Value) (R : XExit → S → Prop) : dc3 (pp G) qv ro ir4_s1 ⟨(F61 x0 x1 x2 x3 x4 x5 x6 x7 x8 x9 x10 x11 x12 x13 x14 x15 x16 x17 x18 x19 x20 x21 x22 x23 x24 x25 x26 x27 x28 x29 x30 x31 x32 x33 x34 x35 x36 x37 x38 x39 x40 x41 x42 x43 x44 x45 x46 x47 x48 x49 x50 x51 x52 x53 x54 x55 x56 x57 x58 x59 x60),df,h⟩ R = (oP (ldD Tryd.prog 27 x5 h) h (@kk ⟨(fun v1 h2=>oP (some x6) h2 (@kk ⟨(fun v3 h4=>CallVD (pp G) qv.H (.func (.func 25) #[] #[]) [v1,v3] h4 (@kB ⟨(fun _=>(@kk ⟨(fun v5 h6=>oP (some v5) h6 (@kk ⟨(fun v7 h8=>oP (extV v7 0) h8 (@kk ⟨(fun v9 h10=>oP (extV v7 1) h10 (@kk ⟨(fun v11 h12=>oP (some v9) h12 (@kk ⟨(fun v13 h14=>oP (some v11) h14 (@kk ⟨(fun v15 h16=>oP (ldD Tryd.prog 27 x5 h16) h16 (@kk ⟨(fun v17 h18=>oP (some x6) h18 (@kk ⟨(fun v19 h20=>CallVD (pp G) qv.H (.func (.func 26) #[] #[]) [v17,v19] h20 (@kB ⟨(fun _=>(@kk ⟨(fun v21 h22=>oP (some v21) h22 (@kk ⟨(fun v23 h24=>oP (extV v23 0) h24 (@kk ⟨(fun v25 h26=>oP (extV v23 1) h26 (@kk ⟨(fun v27 h28=>oP (some v25) h28 (@kk ⟨(fun v29 h30=>oP (some v27) h30 (@kk ⟨(fun v31 h32=>oP (some v13) h32 (@kk ⟨(fun v33 h34=>oP (some v29) h34 (@kk ⟨(fun v35 h36=>oP (binPure Tryd.prog .eql 3 (.tmp 49) (.tmp 50) v33 v35) h36 (@kk ⟨(fun v37 h38=>oP (some v37) h38 (@kk ⟨(fun v39 h40=>gP v39 true (some v15) h40 (@kk ⟨(fun v41 h42=>gP v39 true (some v31) h42 (@kk ⟨(fun v43 h44=>gP v39 true (binPure Tryd.prog .eql 3 (.tmp 53) (.tmp 54) v41 v43) h44 (@kk ⟨(fun v45 h46=>oP (pickV v39 v45 (.bool false)) h46 (@kk ⟨(fun v47 h48=>oP (some v47) h48 (@kk ⟨(fun v49 h50=>gP v49 true (ldD Tryd.prog 27 x5 h50) h50 (@kk ⟨(fun v51 h52=>gCV (pp G) qv.H v49 true (.func (.func 27) #[] #[]) [v51,(.int .i64 3)] h52 (@kB ⟨(fun _=>(@kk ⟨(fun v53 h54=>oP (pickV v49 v53 (.bool false)) h54 (@kk ⟨(fun v55 h56=>oP (some v55) h56 (@kk ⟨(fun v57 h58=>R .ret ⟨(F61 x0 x1 x2 x3 v57 x5 x6 x7 v13 v15 v29 v31 x12 x13 x14 x15 x16 x17 x18 x19 x20 x21 x22 x23 x24 x25 x26 x27 x28 x29 x30 x31 x32 x33 x34 x35 x36 v7 v1 v3 v5 v9 v11 v23 v17 v19 v21 v25 v27 v33 v35 v37 v39 v41 v43 v45 v47 v49 v51 v53 v55),df,h58⟩)⟩))⟩))⟩))⟩))⟩))⟩))⟩))⟩))⟩))⟩))⟩))⟩))⟩))⟩))⟩))⟩))⟩))⟩))⟩))⟩))⟩))⟩))⟩))⟩))⟩))⟩))⟩))⟩))⟩))⟩))⟩))⟩)) := by kernel_rfl
end
end Go.Proofs.YtlbpiiehanibfaaDoor
namespace Go.Proofs.YtlbpiiehanibfaaDoor
open Go Go.RowKit Go.Ev Go.Dv
noncomputable section
set_option maxRecDepth 100000
variable (G : Nat × Nat)
def Fine (x : Ex) : Prop := rightF 3 x = true ∧ smF x = true ∧ inF x
theorem fine_num {n : Int} (h : 0 ≤ n) (h2 : In n) : Fine (.mk 1 n [] []) := by
  refine ⟨?_, by simp [smF, smL], ⟨h2, trivial⟩⟩
  simp [rightF, rightL, h]
theorem fine_var {n : Int} (h : 0 ≤ n ∧ n < 3) : Fine (.mk 2 n [] []) := by
  refine ⟨?_, by simp [smF, smL], ⟨by unfold In; omega, trivial⟩⟩
  simp [rightF, rightL, h.1, h.2]
theorem fine_one {k : Int} {a : Ex} (hk : k = 3 ∨ k = 4) (ha : Fine a) : Fine (.mk k 0 [] [a]) := by
  refine ⟨?_, by simp [smF, smL, ha.2.1], ⟨by unfold In; omega, ha.2.2, trivial⟩⟩
  have h1 : ¬ k = 1 := by omega
  have h2 : ¬ k = 2 := by omega
  simp [rightF, rightL, h1, h2, hk, ha.1]
theorem fine_two {k : Int} {a b : Ex} (hk : 5 ≤ k ∧ k ≤ 17) (ha : Fine a) (hb : Fine b) : Fine (.mk k 0 [] [a, b]) := by
  refine ⟨?_, by simp [smF, smL, ha.2.1, hb.2.1], ⟨by unfold In; omega, ha.2.2, hb.2.2, trivial⟩⟩
  have h1 : ¬ k = 1 := by omega
  have h2 : ¬ k = 2 := by omega
  have h3 : ¬ (k = 3 ∨ k = 4) := by omega
  simp [rightF, rightL, h1, h2, h3, hk, ha.1, hb.1]
theorem mk_fine : ∀ x : Ra, Fine (mkF [] x)
  | .mk k n l => by
    have ih : ∀ x ∈ l, Fine (mkF [] x) := fun x hx => mk_fine x
    have hp : ∀ i, Fine (partF n (mkL [] l) i) := fun i => by
      rw [partF, mkL_map, List.getD_eq_getElem?_getD, List.getElem?_map]
      cases hx : l[i]? with
      | none =>
        have := withF_lt (a := W (n + i)) (n := 5) (by omega)
        exact fine_num this.1 (by unfold In; omega)
      | some x => exact ih x (List.mem_of_getElem? hx)
    have hk := withF_lt (a := k) (n := 24) (by omega)
    rw [mkF]
    generalize withF k 24 = w at hk ⊢
    split
    · have hw := withF_lt (a := n) (n := 8) (by omega)
      have : ∀ j, j < 8 → 0 ≤ numsF.getD j 0 ∧ In (numsF.getD j 0) := fun j hj => by
        match j, hj with
        | 0, _ | 1, _ | 2, _ | 3, _ | 4, _ | 5, _ | 6, _ | 7, _ => exact ⟨by decide, by unfold In; decide⟩
      have := this (withF n 8).toNat (by omega)
      exact fine_num this.1 this.2
    split
    · rename_i h; exact absurd h.2 (by simp)
    split
    · exact fine_var (withF_lt (by omega))
    split
    · exact fine_one (.inl rfl) (hp 0)
    split
    · exact fine_one (.inr rfl) (hp 0)
    · exact fine_two (by omega) (hp 0) (hp 1)
theorem one_fine (l : List Ra) : Fine (firstF [] l) := by
  cases l with
  | nil => exact fine_num (by omega) (by unfold In; omega)
  | cons x l => exact mk_fine x
def curF (vars : List Int) (i : Nat) : List Int := vars.take i ++ [1, 2, 3].drop i
theorem curF_step (vars : List Int) (i : Nat) (h : i < 3) (h2 : i < vars.length) : setFrom (ivs (curF vars i)) i [.int .i64 (vars.getD i 0)] = ivs (curF vars (i + 1)) := by
  match i, vars, h, h2 with
  | 0, a :: l, _, _ => rfl
  | 1, a :: b :: l, _, _ => rfl
  | 2, a :: b :: c :: l, _, _ => rfl
theorem curF_len (vars : List Int) (i : Nat) (h : i ≤ 3) (h2 : i ≤ vars.length) : (curF vars i).length = 3 := by
  simp [curF]; omega
theorem curF_in {vars : List Int} (hv : ∀ a ∈ vars, In a) (i : Nat) : ∀ a ∈ curF vars i, In a := fun a ha => by
  rcases List.mem_append.1 ha with h | h
  · exact hv a (List.mem_of_mem_take h)
  · have := List.mem_of_mem_drop h
    simp only [List.mem_cons, List.not_mem_nil, or_false] at this
    rcases this with rfl | rfl | rfl <;> (unfold In; omega)
theorem row3 (σ : Heap) : bsD (qv.m 41) (slT Tryd.prog 41) 3 [(0, (.int .i64 1)), (1, (.int .i64 2)), (2, (.int .i64 3))] σ = some (.slice (some ⟨σ.next, 0, none⟩) 3 3, σ.add (O (ivs [1, 2, 3]) eI false)) := by kernel_rfl
end
end Go.Proofs.YtlbpiiehanibfaaDoor
namespace Go.Proofs.YtlbpiiehanibfaaDoor
open Go Go.RowKit Go.Ev Go.Dv
noncomputable section
set_option maxRecDepth 100000
variable (G : Nat × Nat)
inductive I4 (vars : List Int) (x : Ex) : Nat → S → Prop
  | mk (i : Nat) (iv : Int) (h : Heap) {x0 x2 x3 x4 x8 x9 x10 x11 x12 x13 x14 x15 x16 x17 x18 x19 x20 x21 x22 x23 x24 x25 x26 x27 x28 x29 x30 x31 x32 x33 x34 x35 x36 x37 x38 x39 x40 x41 x42 x43 x44 x45 x46 x47 x48 x49 x50 x51 x52 x53 x54 x55 x56 x57 x58 x59 x60 : Value} (hiv : iv = (i : Int)) (hi : i ≤ 3) (hi2 : i ≤ vars.length) (c6 : cells h 6 = some (exC x, 27, false)) (c7 : cells h 7 = some (ivs (curF vars i), 3, false)) (hl1 : h.lo = 6) (hl2 : h.next = 8) :
    I4 vars x (3 - i) ⟨(F61 x0 (Rw false eI vars.length (ivs vars)) x2 x3 x4 (.pointer (some ⟨6, 0, none⟩)) (.slice (some ⟨7, 0, none⟩) 3 3) (.int .i64 iv) x8 x9 x10 x11 x12 x13 x14 x15 x16 x17 x18 x19 x20 x21 x22 x23 x24 x25 x26 x27 x28 x29 x30 x31 x32 x33 x34 x35 x36 x37 x38 x39 x40 x41 x42 x43 x44 x45 x46 x47 x48 x49 x50 x51 x52 x53 x54 x55 x56 x57 x58 x59 x60), [], h⟩
theorem fz_obj {h : Heap} {P : Program} (hs : szT P eI = some 1) {w : List Int} (hw : w.length = 3) (c7 : cells h 7 = some (ivs w, 3, false)) (hl1 : h.lo = 6) : FzV P h.lo h (.slice (some ⟨7, 0, none⟩) 3 3) (ivV w) := by
  have : FzV P h.lo h (.slice (some ⟨7, 0, none⟩) 3 3) (Rw false eI 3 (ivs w)) := by
    refine .sl (by omega) c7 hs (by omega) (by rw [ivs_len, hw]; omega) (.inl ⟨by simp [UC], by omega⟩) ?_
    rw [List.drop_zero, List.take_of_length_le (by rw [ivs_len, hw]; omega)]
    exact .ids (ivs_sc ..)
  rw [ivV, hw]
  exact this
theorem evals_law (hk : CallF (pp G) H0 13 [] (.bool true)) (l : List Ra) (vars : List Int) (hll : l.length < 1000000000000000) (hsm : smRs l = true) (hvl : vars.length < 1000000000000000) (hv : ∀ a ∈ vars, In a) :
    CallF (pp G) H0 4 [rasV l, ivV vars] (.bool true) := by
  have hlo : H0.lo ≤ H0.next := Nat.le_refl _
  refine CallF.cut (CallD.fir4 (q := qv) (good G) fir4 ok_ir4 rfl rfl (F61_arr ..) (Nat.le_refl _) ?_)
  rw [sd_ir4]
  simp (disch:=first|omega|(refine id ?_;simp only[push_cast];first|done|omega)) only [push_cast,Nat.reduceLeDiff]
  refine CallVD.data (hk) (by first | exact FzL.ids rfl | (refine FzL.ids ?_; simp (disch:=first|omega|(refine id ?_;simp only[push_cast];first|done|omega)) only [push_cast])) (by first | rfl | (simp (disch:=first|omega|(refine id ?_;simp only[push_cast];first|done|omega)) only [push_cast])) (by first | rfl | (simp (disch:=first|omega|(refine id ?_;simp only[push_cast];first|done|omega)) only [push_cast])) ?_
  simp (disch:=first|omega|(refine id ?_;simp only[push_cast];first|done|omega)) only [push_cast,Nat.reduceLeDiff]
  refine CallVD.data (few_f G l hll hsm) (by first | exact FzL.ids rfl | (refine FzL.ids ?_; simp (disch:=first|omega|(refine id ?_;simp only[push_cast];first|done|omega)) only [push_cast])) (by first | rfl | (simp (disch:=first|omega|(refine id ?_;simp only[push_cast];first|done|omega)) only [push_cast])) (by first | rfl | (simp (disch:=first|omega|(refine id ?_;simp only[push_cast];first|done|omega)) only [push_cast])) ?_
  by_cases hf : sizeF l 0 ≤ 20
  rotate_left
  · simp (disch:=first|omega|(refine id ?_;simp only[push_cast];first|done|omega)) only [push_cast,Nat.reduceLeDiff,hf]
    exact .id rfl
  simp (disch:=first|omega|(refine id ?_;simp only[push_cast];first|done|omega)) only [push_cast,Nat.reduceLeDiff,hf]
  obtain ⟨hr, hs, hn⟩ := one_fine l
  have hone := oneR_f G [] (by simp) l hsm hll
  generalize firstF [] l = x at hr hs hn hone
  have fzl : FzL (pp G).P H0.next H0 ([rasV l, .slice none 0 0] ++ []) [rasV l, nsV []] := .cons (.id (rasV_sc 6 (by decide) l)) (.cons (.nil (size := 1) rfl (by decide)) .nil)
  refine CallVD.data hone fzl (by show scL 6 [rasV l, .slice none 0 0] = true; simp [scL, sc, rasV_sc]) (by show sc 6 (exV x) = true; simp [exV_sc]) ?_
  simp (disch:=first|omega|(refine id ?_;simp only[push_cast];first|done|omega)) only [push_cast,Nat.reduceLeDiff,↓row3]
  refine WD.loop4 (q := qv) (good G) ok_ir4_s0 (I4 vars x) ?_ _ _ (I4.mk 0 0 _ rfl (by omega) (by omega) (by simp (disch:=first|omega|(refine id ?_;simp only[push_cast];first|done|omega)) only [push_cast,Nat.reduceLeDiff]) (by simp (disch:=first|omega|(refine id ?_;simp only[push_cast];first|done|omega)) only [push_cast,Nat.reduceLeDiff]; exact rfl) rfl rfl)
  intro m s1 hI
  cases hI with | mk i iv h hiv hi hi2 c6 c7 hl1 hl2 =>
  subst hiv
  have hcl := curF_len vars i hi hi2
  have hre := ref_f G (curF vars i) x (by rw [hcl]; exact hr)
  rw [← (eval_is (curF_in hv i) x (by rw [hcl]; exact hr) hn).1] at hre
  rw [sd_ir4_s0]
  by_cases h1 : (i : Int) < vars.length
  · by_cases h2 : (i : Int) < 3
    · have hg := ivs_get' (l := vars) (i := i) (by omega)
      have hlt : i < vars.length := by omega
      have hlt3 : i < 3 := by omega
      have hst : (ivs (curF vars i)).take i ++ [.int .i64 (vars.getD i 0)] ++ (ivs (curF vars i)).drop (i + 1) = ivs (curF vars (i + 1)) := curF_step vars i hlt3 hlt
      have hcl' : (ivs (curF vars i)).length = 3 := by rw [ivs_len, hcl]
      simp (disch:=first|omega|(refine id ?_;simp only[push_cast];first|done|omega)) only [push_cast,Nat.reduceLeDiff,h1,h2,hg,hlt,hlt3,Int.toNat_natCast,c7,hl1,hst,hcl']
      exact ⟨_,by omega,I4.mk (i + 1) _ _ (by first | rfl | omega) (by omega) (by omega) (by simp (disch:=first|omega|(refine id ?_;simp only[push_cast];first|done|omega)) only [push_cast,Nat.reduceLeDiff,c6]) (by simp (disch:=first|omega|(refine id ?_;simp only[push_cast];first|done|omega)) only [push_cast,Nat.reduceLeDiff]) (by first | exact hl1 | (simp (disch:=first|omega|(refine id ?_;simp only[push_cast];first|done|omega)) only [push_cast,Nat.reduceLeDiff,hl1]; done)) (by first | exact hl2 | (simp (disch:=first|omega|(refine id ?_;simp only[push_cast];first|done|omega)) only [push_cast,Nat.reduceLeDiff,hl2]; done))⟩
    · simp (disch:=first|omega|(refine id ?_;simp only[push_cast];first|done|omega)) only [push_cast,Nat.reduceLeDiff,h1,h2]
      rw [sd_ir4_s1]
      simp (disch:=first|omega|(refine id ?_;simp only[push_cast];first|done|omega)) only [push_cast,Nat.reduceLeDiff,c6,hl1]
      refine CallVD.lend (eval_t G (curF vars i) x hs (by omega) (by rw [hcl]; exact hr)) (.cons (.id (exV_sc _ (by omega) x)) (.cons (fz_obj rfl hcl c7 hl1) .nil)) rfl ?_
      simp (disch:=first|omega|(refine id ?_;simp only[push_cast];first|done|omega)) only [push_cast,Nat.reduceLeDiff,c6,hl1]
      refine CallVD.lend (hre) (.cons (.id (exV_sc _ (by omega) x)) (.cons (fz_obj rfl hcl c7 hl1) .nil)) rfl ?_
      simp (disch:=first|omega|(refine id ?_;simp only[push_cast];first|done|omega)) only [push_cast,Nat.reduceLeDiff,c6,hl1]
      refine CallVD.lend (right_f G 3 x hs) (.cons (.id (exV_sc _ (by omega) x)) (.cons (.id rfl) .nil)) rfl ?_
      simp (disch:=first|omega|(refine id ?_;simp only[push_cast];first|done|omega)) only [push_cast,Nat.reduceLeDiff,hr]
      exact .id rfl
  · simp (disch:=first|omega|(refine id ?_;simp only[push_cast];first|done|omega)) only [push_cast,Nat.reduceLeDiff,h1]
    rw [sd_ir4_s1]
    simp (disch:=first|omega|(refine id ?_;simp only[push_cast];first|done|omega)) only [push_cast,Nat.reduceLeDiff,c6,hl1]
    refine CallVD.lend (eval_t G (curF vars i) x hs (by omega) (by rw [hcl]; exact hr)) (.cons (.id (exV_sc _ (by omega) x)) (.cons (fz_obj rfl hcl c7 hl1) .nil)) rfl ?_
    simp (disch:=first|omega|(refine id ?_;simp only[push_cast];first|done|omega)) only [push_cast,Nat.reduceLeDiff,c6,hl1]
    refine CallVD.lend (hre) (.cons (.id (exV_sc _ (by omega) x)) (.cons (fz_obj rfl hcl c7 hl1) .nil)) rfl ?_
    simp (disch:=first|omega|(refine id ?_;simp only[push_cast];first|done|omega)) only [push_cast,Nat.reduceLeDiff,c6,hl1]
    refine CallVD.lend (right_f G 3 x hs) (.cons (.id (exV_sc _ (by omega) x)) (.cons (.id rfl) .nil)) rfl ?_
    simp (disch:=first|omega|(refine id ?_;simp only[push_cast];first|done|omega)) only [push_cast,Nat.reduceLeDiff,hr]
    exact .id rfl
end
end Go.Proofs.YtlbpiiehanibfaaDoor
namespace Go.Proofs.YtlbpiiehanibfaaDoor
open Go Go.RowKit Go.Ev Go.Dv
noncomputable section
set_option maxRecDepth 100000
section
variable {w : World} {H : Type} {enc : TypeId × Value → H}
theorem u_int : Tryd.prog.underlying eI = some (.int .i64) := by kernel_rfl
theorem u_ints : Tryd.prog.underlying 41 = some (.slice eI) := by kernel_rfl
theorem u_raws : Tryd.prog.underlying 22 = some (.slice eR) := by kernel_rfl
theorem f_raw : fieldsB Tryd.prog eR [(eI, 0), (eI, 1), (22, 2)] = true := by kernel_rfl
theorem raCs_flat : ∀ l : List Ra, l.flatMap raC = raCs l
  | [] => rfl
  | x :: l => by rw [List.flatMap_cons, raCs_flat l, raCs]
theorem ivs_flat : ∀ l : List Int, (l.flatMap fun i => [Value.int .i64 i]) = ivs l
  | [] => rfl
  | x :: l => by rw [List.flatMap_cons, ivs_flat l]; rfl
theorem smRs_of : ∀ {l : List Ra}, (∀ x ∈ l, smR x = true) → smRs l = true
  | [], _ => rfl
  | x :: l, h => by rw [smRs, h x (by simp), smRs_of fun y hy => h y (by simp [hy])]; rfl
theorem open_ivs {fuel : Nat} {cs : List Value} {x : DataW H × List MemPlace} (h : DataW.trod enc Tryd.prog w 0 (fun _ => true) true fuel 41 cs = some x) (hw : (x.1.weights Tryd.prog 41).all (· ≤ reachBytes) = true) :
    ∃ l : List Int, Go.Dv.Op Tryd.prog 6 LL w [ivV l] cs ∧ (∀ a ∈ l, In a) ∧ l.length < 1000000000000000 := by
  obtain ⟨l, h1, h2, h3⟩ := open_slice (n := 6) (L := LL) u_ints (size := 1) (by kernel_rfl) (by kernel_rfl) (by omega) (of_decide_eq_true (by kernel_rfl)) (fun i => [Value.int .i64 i]) In h hw fun k c y _ hy _ => by
    obtain ⟨m, rfl, h1, h2⟩ := open_num (n := 6) (L := LL) u_int hy
    exact ⟨m, h1, in_wf h2⟩
  rw [ivs_flat] at h1
  exact ⟨l, h1, h2, h3⟩
theorem open_ras : ∀ (fuel : Nat) {cs : List Value} {x : DataW H × List MemPlace}, DataW.trod enc Tryd.prog w 0 (fun _ => true) true fuel 22 cs = some x → (x.1.weights Tryd.prog 22).all (· ≤ reachBytes) = true →
    ∃ l : List Ra, Go.Dv.Op Tryd.prog 6 LL w [rasV l] cs ∧ smRs l = true ∧ l.length < 1000000000000000 := by
  intro fuel
  induction fuel using Nat.strongRecOn with
  | ind fuel ih =>
  intro cs x h hw
  obtain ⟨l, h1, h2, h3⟩ := open_slice (n := 6) (L := LL) u_raws (size := 3) (by kernel_rfl) (by kernel_rfl) (by omega) (of_decide_eq_true (by kernel_rfl)) raC (fun r => smR r = true) h hw fun k c y hk hy hwy => by
    obtain ⟨k', hk', hl, hfs⟩ := open_struct f_raw hy hwy
    rw [show Tryd.prog.cellsOf eR = 3 by kernel_rfl] at hl
    match c, hl with
    | [a, b, d], _ =>
      obtain ⟨y0, t0, _⟩ := hfs 0 _ _ rfl
      obtain ⟨y1, t1, _⟩ := hfs 1 _ _ rfl
      obtain ⟨y2, t2, w2⟩ := hfs 2 _ _ rfl
      rw [show Tryd.prog.cellsOf eI = 1 by kernel_rfl] at t0 t1
      rw [show Tryd.prog.cellsOf 22 = 1 by kernel_rfl] at t2
      obtain ⟨m0, e0, o0, _⟩ := open_num (n := 6) (L := LL) u_int t0
      obtain ⟨m1, e1, o1, _⟩ := open_num (n := 6) (L := LL) u_int t1
      obtain ⟨l2, o2, s2, n2⟩ := ih k' (by omega) t2 w2
      refine ⟨.mk m0 m1 l2, ?_, ?_⟩
      · exact (o0.append o1).append o2
      · simp only [smR, s2, Bool.and_true, decide_eq_true_eq]; exact n2
  rw [raCs_flat] at h1
  exact ⟨l, h1, smRs_of h2, h3⟩
end
end
end Go.Proofs.YtlbpiiehanibfaaDoor
namespace Go.Proofs.YtlbpiiehanibfaaDoor.kn
open Go Go.RowKit Go.Ew
set_option maxRecDepth 100000
noncomputable section
theorem funcs_ok : Tryd.prog.funcs.all (okFunc 6) = true := by kernel_rfl
theorem mixed : Tryd.prog.follows .mixedOrders = true := by kernel_rfl
theorem funcs_ok' (g : Nat) (fn : Func) (h : Tryd.prog.funcs[g]? = some fn) : okFunc 6 fn = true := by
  have := funcs_ok
  rw [Array.all_eq_true_iff_forall_mem] at this
  exact this fn (Array.mem_of_getElem? h)
theorem LL_ok : okPl 6 LL = true := by kernel_rfl
theorem same_run (y : Value) (w : World) : (callFunc 75 #[y]).run Tryd.prog w = .ok (.value y) w := by
  have hf : Tryd.prog.funcs[75]? = some Tryd.f75 := rfl
  have hname0 : (Tryd.f75.name == "runtime.NumGoroutine") = false := by kernel_rfl
  have hname : ¬ Tryd.f75.name = "runtime.NumGoroutine" := by simpa using hname0
  have hb : Tryd.f75.body = none := by kernel_rfl
  have hn : Extern.findNext Tryd.f75 = none := by kernel_rfl
  have he : Extern.find Tryd.f75 = some Extern.AbiNoEscape.same := by kernel_rfl
  have hs : Extern.AbiNoEscape.same #[y] = pure y := rfl
  simp [callFunc, hf, hname, hb, hn, he, hs]
def X0 : Ext := orX (sameX 75) (noX)
theorem X0_sound (sg : Nat → Int) (tg : Nat → ByteArray) (B : Nat → Prop) : SoundX ⟨Tryd.prog, 6, 6, B, sg, tg⟩ X0 := orX_sound (sameX_sound same_run) (noX_sound _)
theorem known_ev : (evCall Tryd.prog X0 (evC Tryd.prog X0 400) 13 [] (laidHeap 6 LL)).map (·.1) = some (.bool true) := by kernel_rfl
theorem known_calls (w : World) (hw : LaidW 6 LL w) : Calls Tryd.prog 13 #[] w fun e w' => e = .returned (.bool true) ∧ Below w.heap.size w w' := by
  have h := calls_fin (X := X0) (N := 400) (args := []) (v := .bool true) funcs_ok' mixed (X0_sound (fun _ => 0) (fun _ => .empty)) LL_ok Tryd.func13 rfl rfl known_ev rfl rfl w hw
  simpa using h
end
end Go.Proofs.YtlbpiiehanibfaaDoor.kn
namespace Go.Proofs.YtlbpiiehanibfaaDoor
open Go Go.RowKit Go.Ev Go.Dv
theorem known_f (G : Nat × Nat) : CallF (pp G) H0 13 [] (.bool true) :=
  CallF.of_known (good G) Tryd.func13 rfl rfl (fun x hx => by
    simp only [LL, List.mem_cons, List.not_mem_nil, or_false] at hx
    subst hx
    exact ⟨rfl, rfl, by show (0 : Nat) < 6; omega, by show (0 : Nat) < 6; omega⟩) fun w hsz hl => kn.known_calls w ⟨hsz, fun x hx => ⟨by
    simp only [LL, List.mem_cons, List.not_mem_nil, or_false] at hx
    subst hx
    show (0 : Nat) < 6
    omega, hl x hx⟩⟩
end Go.Proofs.YtlbpiiehanibfaaDoor
