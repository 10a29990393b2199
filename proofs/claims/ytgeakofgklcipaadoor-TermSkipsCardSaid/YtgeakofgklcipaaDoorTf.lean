/-
  A part of the proof: what the program's functions hand back, as theorems. No condition but those that each theorem names.
-/
import Derived.Test.YtgeakofgklcipaaDoorTe
import Derived.Test.YtgeakofgklcipaaDoorTb
set_option linter.unusedSimpArgs false
set_option linter.unusedVariables false
namespace Go.Proofs.YtgeakofgklcipaaDoor
open Go Go.RowKit Go.Ev Go.Dv
noncomputable section
set_option maxRecDepth 100000
variable (G : Nat × Nat)
def zr (k : Int) (R : Value) : List Value := [.int .i64 k, .int .i64 0, .int .i64 0, .string (Tx []), .int .i64 0, .int .i64 0, .string (Tx []), .slice none 0 0, R]
inductive ZR : Value → List Tm → Prop
 | nil : ZR (.slice none 0 0) []
 | row (n : Nat) (cs : List Value) (l : List Tm) (hn : n = l.length) (hs : scL 1 cs = true) (hz : ∀ N τ, 0 < N → FzL Tryd.prog N τ cs (qI l)) : ZR (Rw true etm n cs) l
theorem ZR.fz {R : Value} {l : List Tm} (h : ZR R l) (k : Int) (N : Nat) (hN : 0 < N) (τ : jA) : FzL Tryd.prog N τ (zr k R) (tmC (.mk k 0 0 [] zE l)) := by
 refine .cons (.id rfl) (.cons (.id rfl) (.cons (.id rfl) (.cons (.id rfl) (.cons (.id rfl) (.cons (.id rfl) (.cons (.id rfl) (.cons (.nil (size := 4) rfl (by decide)) (.cons ?_ .nil))))))))
 cases h with
 | nil => exact .nil (size := 9) rfl (by decide)
 | row n cs l hn hs hz => subst hn; exact .row (hz N τ hN)
theorem ZR.sc {R : Value} {l : List Tm} (h : ZR R l) : Ev.sc 1 R = true := by
 cases h with
 | nil => rfl
 | row n cs l hn hs hz => exact hs
theorem ZR.scz {R : Value} {l : List Tm} (h : ZR R l) (k : Int) : scL 1 (zr k R) = true := by
 have := h.sc
 simp [zr, scL, this, Ev.sc]
theorem ZR.fzV {R : Value} {l : List Tm} (h : ZR R l) (k : Int) (N : Nat) (hN : 0 < N) (τ : jA) : FzV Tryd.prog N τ (.agg ⟨zr k R⟩) (tmV (.mk k 0 0 [] zE l)) := .agg (h.fz k N hN τ)
theorem ZR.one {R : Value} {l : List Tm} (h : ZR R l) (k : Int) {k' : Int} {R' : Value} (hR' : R' = Rw true etm 1 (zr k R)) : ZR R' [.mk k 0 0 [] zE l] := by
 subst hR'
 exact .row 1 _ _ rfl (h.scz k) fun N τ hN => by rw [tmCs_1]; exact h.fz k N hN τ
theorem ZR.two {R R2 : Value} {l l2 : List Tm} (h : ZR R l) (h2 : ZR R2 l2) (k k2 : Int) : ZR (Rw true etm 2 (zr k R ++ zr k2 R2)) [.mk k 0 0 [] zE l, .mk k2 0 0 [] zE l2] :=
 .row 2 _ _ rfl (scL_append (h.scz k) (h2.scz k2)) fun N τ hN => by
  rw [show qI [Tm.mk k 0 0 [] zE l, .mk k2 0 0 [] zE l2] = tmC (.mk k 0 0 [] zE l) ++ tmC (.mk k2 0 0 [] zE l2) by rw [qI, qI, qI, List.append_nil]]
  exact (h.fz k N hN τ).app (h2.fz k2 N hN τ)
theorem rowR1 {R : Value} {l : List Tm} (h : ZR R l) (k : Int) (σ : jA) : bsD (qq.m 32) (slT Tryd.prog 32) 1 [(0, .agg ⟨[.int .i64 k, .int .i64 0, .int .i64 0, .string (Tx []), .int .i64 0, .int .i64 0, .string (Tx []), .slice none 0 0, R]⟩)] σ = some (Rw true etm 1 (zr k R), σ) := by
 cases h <;> kernel_rfl
theorem rowR2 {R : Value} {l : List Tm} (h : ZR R l) {R2 : Value} {l2 : List Tm} (h2 : ZR R2 l2) (k k2 : Int) (σ : jA) : bsD (qq.m 32) (slT Tryd.prog 32) 2 [(0, .agg ⟨[.int .i64 k, .int .i64 0, .int .i64 0, .string (Tx []), .int .i64 0, .int .i64 0, .string (Tx []), .slice none 0 0, R]⟩), (1, .agg ⟨[.int .i64 k2, .int .i64 0, .int .i64 0, .string (Tx []), .int .i64 0, .int .i64 0, .string (Tx []), .slice none 0 0, R2]⟩)] σ = some (Rw true etm 2 (zr k R ++ zr k2 R2), σ) := by
 cases h <;> cases h2 <;> kernel_rfl
theorem sm_two {a b : Tm} (k : Int) (ha : smT a = true) (hb : smT b = true) : smT (.mk k 0 0 [] zE [a, b]) = true := by simp [smT, smTs, ha, hb, zE, smE, smEs]
structure SkOk (t : Tm) (n : Nat) : Prop where
 z : jZ t = zT
 w : wS (qT t) = []
 l : (qT t).length ≤ 2 * n + 1
 s : smT t = true
theorem wS_app (a b : List Tm) : wS (a ++ b) = wS a ++ wS b := by unfold wS; rw [List.filter_append, List.map_append]
theorem wS_cons {k a b : Int} {s : List UInt8} {e : Ex} {l : List Tm} (h : k ≠ 14) (m : List Tm) : wS (.mk k a b s e l :: m) = wS m := by
 unfold wS; simp [Tm.k, h]
theorem act_z : qT zT = [zT] := by simp [zT, qT]
theorem wS_z : wS [zT] = [] := by simp [wS, zT, Tm.k]
theorem sk_0 {t : Tm} {n : Nat} (h : SkOk t n) : SkOk (.mk 7 0 0 [] zE [t]) (n + 1) := by
 have e : qT (.mk 7 0 0 [] zE [t]) = .mk 7 0 0 [] zE [t] :: qT t := by simp [qT, uY]
 refine ⟨?_, ?_, ?_, ?_⟩
 ·rw [jZ, if_pos rfl, h.z]; rfl
 ·rw [e, wS_cons (by decide), h.w]
 ·rw [e, List.length_cons]; have := h.l; omega
 ·simp [smT, smTs, h.s, zE, smE, smEs]
theorem sk_1 {t : Tm} {n : Nat} (h : SkOk t n) : SkOk (.mk 12 0 0 [] zE [t, zT]) (n + 1) := by
 have e : qT (.mk 12 0 0 [] zE [t, zT]) = .mk 12 0 0 [] zE [t, zT] :: qT t := by simp [qT, actH]
 refine ⟨?_, ?_, ?_, ?_⟩
 ·rw [jZ, if_pos rfl, h.z]; rfl
 ·rw [e, wS_cons (by decide), h.w]
 ·rw [e, List.length_cons]; have := h.l; omega
 ·simp [smT, smTs, h.s, zT, zE, smE, smEs]
theorem sk_2 {t : Tm} {n : Nat} (h : SkOk t n) : SkOk (.mk 12 0 0 [] zE [zT, t]) (n + 1) := by
 have e : qT (.mk 12 0 0 [] zE [zT, t]) = [.mk 12 0 0 [] zE [zT, t], zT] := by simp [qT, actH, zT]
 refine ⟨?_, ?_, ?_, ?_⟩
 ·rw [jZ, if_pos rfl, if_pos (show (jZ zT).k = 0 from rfl), h.z]
 ·rw [e, wS_cons (by decide)]; exact wS_z
 ·rw [e]; show 2 ≤ _; omega
 ·simp [smT, smTs, h.s, zT, zE, smE, smEs]
theorem sk_3 {t : Tm} {n : Nat} (h : SkOk t n) : SkOk (.mk 11 0 0 [] zE [t, zT]) (n + 1) := by
 have e : qT (.mk 11 0 0 [] zE [t, zT]) = .mk 11 0 0 [] zE [t, zT] :: (qT t ++ [zT]) := by simp [qT, uY, act_z]
 refine ⟨?_, ?_, ?_, ?_⟩
 ·rw [jZ, if_neg (by decide), if_pos rfl, h.z]; rfl
 ·rw [e, wS_cons (by decide), wS_app, h.w]; exact wS_z
 ·rw [e, List.length_cons, List.length_append]; have := h.l; simp only [List.length_singleton]; omega
 ·simp [smT, smTs, h.s, zT, zE, smE, smEs]
inductive I10 (ns : List Int) : Nat → S → Prop
 | mk (i : Nat) (iv : Int) (h : jA) (k : Int) (R : Value) (l : List Tm) {x1 x2 x5 x6 x7 x8 x9 xA xB xC xD xE xF xG xH xI xJ xK xL xM xN xO xP xQ xR xS xT xU xV xW xX xY xZ yA yB yC yD yE yF yG yH yI yJ yK yL yM yN yO yP yQ yR yS yT yU yV yW yX yY yZ zA zB zC zD zF zG zH : Value} (hiv : iv = (i : Int)) (hi : i ≤ ns.length) (hi2 : i ≤ 30) (hR : ZR R l) (hk : SkOk (.mk k 0 0 [] zE l) i)
   (c0 : cells h 1 = some ([.int .i64 k, .int .i64 0, .int .i64 0, .string (Tx []), .int .i64 0, .int .i64 0, .string (Tx []), .slice none 0 0, R], etm, false)) (hl1 : h.lo = 1) (hl2 : 2 ≤ h.next) :
  I10 ns (30 - i) ⟨(F69 (ivV ns) x1 x2 (.pointer (some ⟨1, 0, none⟩)) (.int .i64 iv) x5 x6 x7 x8 x9 xA xB xC xD xE xF xG xH xI xJ xK xL xM xN xO xP xQ xR xS xT xU xV xW xX xY xZ yA yB yC yD yE yF yG yH yI yJ yK yL yM yN yO yP yQ yR yS yT yU yV yW yX yY yZ zA zB zC zD zF zG zH), [], h⟩
theorem skips_law (ns : List Int) (hns : ns.length < 1000000000000000) : jG (pp G) H0 10 [ivV ns] (.bool true) := by
 have hlo : H0.lo ≤ H0.next := Nat.le_refl _; refine jG.cut (jO.fir4 (q := qq) (jQ G) fir10 (by kernel_rfl) rfl rfl (F69_arr ..) (show NGG ≤ H0.lo by rw [qM]; decide) ?_); rw [sd_ir10]
 simp (disch:=first|omega|(refine id ?_;simp only[push_cast];try omega)) only [push_cast,simprocAttr]
 refine jC.dataI (known5_f G) (by and_intros <;> first | rfl | (simp (disch:=first|omega|(refine id ?_;simp only[push_cast];try omega)) only [push_cast])) ?_
 simp (disch:=first|omega|(refine id ?_;simp only[push_cast];try omega)) only [push_cast,simprocAttr]
 refine WD.loop4 (q := qq) (jQ G) (by kernel_rfl) (I10 ns) ?_ _ _ (I10.mk 0 0 _ 0 (.slice none 0 0) [] rfl (Nat.zero_le _) (by omega) .nil ⟨rfl,by simp [qT,wS,Tm.k],by simp [qT],rfl⟩ (by first | assumption | (simp (disch:=first|omega|(refine id ?_;simp only[push_cast];try omega)) only [push_cast,simprocAttr]; try omega)) (by first | assumption | (simp (disch:=first|omega|(refine id ?_;simp only[push_cast];try omega)) only [push_cast,simprocAttr]; try omega)) (by first | assumption | (simp (disch:=first|omega|(refine id ?_;simp only[push_cast];try omega)) only [push_cast,simprocAttr]; try omega)))
 intro m s1 hI
 cases hI with | mk i iv h k R l hiv hi hi2 hR hk c0 hl1 hl2 =>
 subst hiv
 rw [sd_ir10_s0]
 unfold ivV
 have fin : ∀ {x0 x1 x2 x4 x5 x6 x7 x8 x9 xA xB xC xD xE xF xG xH xI xJ xK xL xM xN xO xP xQ xR xS xT xU xV xW xX xY xZ yA yB yC yD yE yF yG yH yI yJ yK yL yM yN yO yP yQ yR yS yT yU yV yW yX yY yZ zA zB zC zD zF zG zH : Value}, dc3 (pp G) qq none ir10_s1 ⟨(F69 x0 x1 x2 (.pointer (some ⟨1, 0, none⟩)) x4 x5 x6 x7 x8 x9 xA xB xC xD xE xF xG xH xI xJ xK xL xM xN xO xP xQ xR xS xT xU xV xW xX xY xZ yA yB yC yD yE yF yG yH yI yJ yK yL yM yN yO yP yQ yR yS yT yU yV yW yX yY yZ zA zB zC zD zF zG zH), [], h⟩ (@kR ⟨jS Tryd.prog [.tmp 2] (fun v' σ' => FzV Tryd.prog 1 σ' v' (.bool true))⟩) := by
  intros
  rw [sd_ir10_s1]
  simp (disch:=first|omega|(refine id ?_;simp only[push_cast];try omega)) only [push_cast,simprocAttr,c0,hl1,↓rowR2 hR .nil]
  have hsR := hR.sc
  have ez : jZ (.mk 12 0 0 [] zE [.mk k 0 0 [] zE l, .mk 8 0 0 [] zE []]) = .mk 8 0 0 [] zE [] := by rw [jZ, if_pos rfl, hk.z]; rfl
  have hlt := hk.l
  refine jC.data (norm_f G _ hk.s) (.cons (hR.fzV k _ (by decide) _) .nil) (by simp (disch:=first|omega|(refine id ?_;simp only[push_cast];try omega)) only [push_cast,simprocAttr,hl1,hsR]) (by simp (disch:=first|omega|(refine id ?_;simp only[push_cast];try omega)) only [push_cast,simprocAttr,hl1]) ?_
  rw [hk.z]
  simp (disch:=first|omega|(refine id ?_;simp only[push_cast];try omega)) only [push_cast,simprocAttr]
  refine jC.data (samet_t G zT zT rfl rfl) (.cons (.id (wI _ H0q zT)) (.cons (tmz0_fz rfl rfl 0 0 0 []) .nil)) (by first | rfl | (simp (disch:=first|omega|(refine id ?_;simp only[push_cast];try omega)) only [push_cast])) (by first | rfl | (simp (disch:=first|omega|(refine id ?_;simp only[push_cast];try omega)) only [push_cast])) ?_
  rw [show sameT zT zT = true from rfl]
  simp (disch:=first|omega|(refine id ?_;simp only[push_cast];try omega)) only [push_cast,simprocAttr]
  have hs2 := (hR.two .nil k 8).sc
  refine jC.data (norm_f G (.mk 12 0 0 [] zE [.mk k 0 0 [] zE l,.mk 8 0 0 [] zE []]) (sm_two 12 hk.s rfl)) (.cons ((hR.two .nil k 8).fzV 12 _ (by decide) _) .nil) (by simp (disch:=first|omega|(refine id ?_;simp only[push_cast];try omega)) only [push_cast,simprocAttr,hl1,hs2]) (by simp (disch:=first|omega|(refine id ?_;simp only[push_cast];try omega)) only [push_cast,simprocAttr,hl1]) ?_
  rw [ez]
  simp (disch:=first|omega|(refine id ?_;simp only[push_cast];try omega)) only [push_cast,simprocAttr]
  refine jC.data (samet_t G (.mk 8 0 0 [] zE []) (.mk 8 0 0 [] zE []) rfl rfl) (.cons (.id (wI _ H0q _)) (.cons (tmz0_fz rfl rfl 8 0 0 []) .nil)) (by first | rfl | (simp (disch:=first|omega|(refine id ?_;simp only[push_cast];try omega)) only [push_cast])) (by first | rfl | (simp (disch:=first|omega|(refine id ?_;simp only[push_cast];try omega)) only [push_cast])) ?_
  rw [show sameT (.mk 8 0 0 [] zE []) (.mk 8 0 0 [] zE []) = true from rfl]
  simp (disch:=first|omega|(refine id ?_;simp only[push_cast];try omega)) only [push_cast,simprocAttr,c0]
  refine jC.data (waits_f G _ hk.s (by omega)) (.cons (hR.fzV k _ (by decide) _) .nil) (by simp (disch:=first|omega|(refine id ?_;simp only[push_cast];try omega)) only [push_cast,simprocAttr,hl1,hsR]) (by simp (disch:=first|omega|(refine id ?_;simp only[push_cast];try omega)) only [push_cast,simprocAttr,hl1]) ?_
  rw [show waitsF (.mk k 0 0 [] zE l) = [] from hk.w]
  unfold ivV
  simp (disch:=first|omega|(refine id ?_;simp only[push_cast];try omega)) only [push_cast,simprocAttr]
  exact .id rfl
 by_cases hil : (i : Int) < ns.length
 ·by_cases hi30 : (i : Int) < 30
  ·have hg := ivs_get' (l := ns) (i := i) (by omega)
   simp (disch:=first|omega|(refine id ?_;simp only[push_cast];try omega)) only [push_cast,simprocAttr,hil,hi30,hg,Int.toNat_natCast]
   refine jC.dataI (within5_f G (ns.getD i 0) 4 (by omega) (by omega)) (by and_intros <;> first | rfl | (simp (disch:=first|omega|(refine id ?_;simp only[push_cast];try omega)) only [push_cast])) ?_
   have hw := withF_lt (a := ns.getD i 0) (n := 4) (by omega)
   generalize withF (ns.getD i 0) 4 = u at hw ⊢
   obtain rfl | rfl | rfl | rfl : u = 0 ∨ u = 1 ∨ u = 2 ∨ u = 3 := by omega
   ·simp (disch:=first|omega|(refine id ?_;simp only[push_cast];try omega)) only [push_cast,simprocAttr,c0,hl1,↓rowR1 hR]
    exact ⟨_,by omega,I10.mk (i + 1) _ _ _ _ _ (by first | rfl | omega) (by omega) (by omega) (hR.one (k' := 0) k rfl) (sk_0 hk) (by first | assumption | (simp (disch:=first|omega|(refine id ?_;simp only[push_cast];try omega)) only [push_cast,simprocAttr]; try omega)) (by first | assumption | (simp (disch:=first|omega|(refine id ?_;simp only[push_cast];try omega)) only [push_cast,simprocAttr,hl1]; try omega)) (by first | assumption | (simp (disch:=first|omega|(refine id ?_;simp only[push_cast];try omega)) only [push_cast,simprocAttr]; try omega))⟩
   ·simp (disch:=first|omega|(refine id ?_;simp only[push_cast];try omega)) only [push_cast,simprocAttr,c0,hl1,↓rowR2 hR .nil]
    exact ⟨_,by omega,I10.mk (i + 1) _ _ _ _ _ (by first | rfl | omega) (by omega) (by omega) (hR.two .nil k 0) (sk_1 hk) (by first | assumption | (simp (disch:=first|omega|(refine id ?_;simp only[push_cast];try omega)) only [push_cast,simprocAttr]; try omega)) (by first | assumption | (simp (disch:=first|omega|(refine id ?_;simp only[push_cast];try omega)) only [push_cast,simprocAttr,hl1]; try omega)) (by first | assumption | (simp (disch:=first|omega|(refine id ?_;simp only[push_cast];try omega)) only [push_cast,simprocAttr]; try omega))⟩
   ·simp (disch:=first|omega|(refine id ?_;simp only[push_cast];try omega)) only [push_cast,simprocAttr,c0,hl1,↓rowR2 .nil hR]
    exact ⟨_,by omega,I10.mk (i + 1) _ _ _ _ _ (by first | rfl | omega) (by omega) (by omega) (ZR.two .nil hR 0 k) (sk_2 hk) (by first | assumption | (simp (disch:=first|omega|(refine id ?_;simp only[push_cast];try omega)) only [push_cast,simprocAttr]; try omega)) (by first | assumption | (simp (disch:=first|omega|(refine id ?_;simp only[push_cast];try omega)) only [push_cast,simprocAttr,hl1]; try omega)) (by first | assumption | (simp (disch:=first|omega|(refine id ?_;simp only[push_cast];try omega)) only [push_cast,simprocAttr]; try omega))⟩
   ·simp (disch:=first|omega|(refine id ?_;simp only[push_cast];try omega)) only [push_cast,simprocAttr,c0,hl1,↓rowR2 hR .nil]
    exact ⟨_,by omega,I10.mk (i + 1) _ _ _ _ _ (by first | rfl | omega) (by omega) (by omega) (hR.two .nil k 0) (sk_3 hk) (by first | assumption | (simp (disch:=first|omega|(refine id ?_;simp only[push_cast];try omega)) only [push_cast,simprocAttr]; try omega)) (by first | assumption | (simp (disch:=first|omega|(refine id ?_;simp only[push_cast];try omega)) only [push_cast,simprocAttr,hl1]; try omega)) (by first | assumption | (simp (disch:=first|omega|(refine id ?_;simp only[push_cast];try omega)) only [push_cast,simprocAttr]; try omega))⟩
  ·simp (disch:=first|omega|(refine id ?_;simp only[push_cast];try omega)) only [push_cast,simprocAttr,hil,hi30]
   exact fin
 ·simp (disch:=first|omega|(refine id ?_;simp only[push_cast];try omega)) only [push_cast,simprocAttr,hil]
  exact fin
end
end Go.Proofs.YtgeakofgklcipaaDoor
namespace Go.Proofs.YtgeakofgklcipaaDoor
open Go Go.RowKit Go.Ev Go.Dv
noncomputable section
set_option maxRecDepth 100000
theorem in_wf {a : Int} (h : (Lit.int .i64 a).wf = true) : In a := by
 simp only [Lit.wf, Bool.and_eq_true, decide_eq_true_eq] at h
 exact h
section
variable {w : World} {H : Type} {enc : TypeId × Value → H}
theorem u_int : Tryd.prog.underlying eI = some (.int .i64) := by kernel_rfl
theorem u_ints : Tryd.prog.underlying 42 = some (.slice eI) := by kernel_rfl
theorem ivs_flat : ∀ l : List Int, (l.flatMap fun i => [Value.int .i64 i]) = ivs l
 | [] => rfl
 | x :: l => by rw [List.flatMap_cons, ivs_flat l]; rfl
theorem open_ivs {fuel : Nat} {cs : List Value} {x : DataW H × List MemPlace} (h : DataW.trod enc Tryd.prog w 0 (fun _ => true) true fuel 42 cs = some x) (hw : (x.1.weights Tryd.prog 42).all (· ≤ reachBytes) = true) :
  ∃ l : List Int, Go.Dv.Op Tryd.prog 1 LL w [ivV l] cs ∧ (∀ a ∈ l, In a) ∧ l.length < 1000000000000000 := by
 obtain ⟨l, h1, h2, h3⟩ := open_slice (n := 1) (L := LL) u_ints (size := 1) (by kernel_rfl) (by kernel_rfl) (by omega) (of_decide_eq_true (by kernel_rfl)) (fun i => [Value.int .i64 i]) In h hw fun k c y _ hy _ => by
  obtain ⟨m, rfl, h1, h2⟩ := open_num (n := 1) (L := LL) u_int hy
  exact ⟨m, h1, in_wf h2⟩
 rw [ivs_flat] at h1
 exact ⟨l, h1, h2, h3⟩
end
end
end Go.Proofs.YtgeakofgklcipaaDoor
