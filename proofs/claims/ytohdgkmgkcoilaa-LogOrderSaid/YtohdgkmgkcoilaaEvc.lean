/-
  A part of the proof: conditions over an abstract memory, and that they are enough for what the model's calls do. No condition of its own.
-/
import Derived.Test.YtohdgkmgkcoilaaEvb
set_option linter.unusedSimpArgs false
set_option linter.unusedVariables false
namespace Go.Ev
open Go Go.RowKit
noncomputable section

/-- What is asked of the program. -/
structure GoodP (p : Par) : Prop where
  funcs : ∀ (g : Nat) (fn : Func), p.P.funcs[g]? = some fn → okFunc p.NG fn = true
  mixed : p.P.follows .mixedOrders = true

/-! ### Frames: what was laid last, first -/
def FR (n : Nat) (l : List (Nat × Value)) : VT := l.foldr (fun x T => T.set x.1 x.2) (VT.of [] n)
theorem FR_sz (n : Nat) (l : List (Nat × Value)) : (FR n l).sz = n := by
  induction l with
  | nil => simp [FR, VT.of]
  | cons x l ih => exact (VT.set_sz _ _ _).trans ih
theorem FR_set (n : Nat) (l : List (Nat × Value)) (i : Nat) (v : Value) : (FR n l).set i v = FR n ((i, v) :: l) := rfl
theorem FR_arr_cons (n : Nat) (hU : n < U) (l : List (Nat × Value)) (i : Nat) (v : Value) : (FR n ((i, v) :: l)).arr = (FR n l).arr.setIfInBounds i v := by
  rw [← FR_set, VT.arr_set _ (by rw [FR_sz]; exact hU)]
theorem FR_nil (n : Nat) (hU : n < U) : (FR n []).arr = Array.replicate n undef := by
  have := VT.of_arr [] n (by simpa [VT.of] using hU)
  simpa [FR] using this
theorem FR_get_nil (n j : Nat) (hU : n < U) : (FR n []).get j = undef := by
  rw [← VT.arr_getD, FR_nil n hU, Array.getD_eq_getD_getElem?, Array.getElem?_replicate]
  split <;> rfl
theorem FR_get (n : Nat) (hU : n < U) (l : List (Nat × Value)) (i : Nat) (v : Value) (j : Nat) : (FR n ((i, v) :: l)).get j = if i = j then (if i < n then v else undef) else (FR n l).get j := by
  rw [← VT.arr_getD, FR_arr_cons n hU, Array.getD_eq_getD_getElem?, Array.getElem?_setIfInBounds, VT.arr_size, FR_sz]
  by_cases h : i = j
  · rw [if_pos h, if_pos h]
    split <;> rfl
  · rw [if_neg h, if_neg h, ← VT.arr_getD, Array.getD_eq_getD_getElem?]

def enumA : Nat → List Value → List (Nat × Value)
  | _, [] => []
  | i, v :: l => enumA (i + 1) l ++ [(i, v)]

theorem FR_app (n : Nat) (l m : List (Nat × Value)) : FR n (l ++ m) = l.foldr (fun x T => T.set x.1 x.2) (FR n m) := by
  simp [FR, List.foldr_append]

theorem FR_arr_fold (n : Nat) (hU : n < U) (m : List (Nat × Value)) : ∀ (l : List (Nat × Value)), (FR n (l ++ m)).arr = l.foldr (fun x A => A.setIfInBounds x.1 x.2) (FR n m).arr
  | [] => rfl
  | (i, v) :: l => by
    rw [List.cons_append, FR_arr_cons n hU, FR_arr_fold n hU m l]
    rfl

theorem enumA_arr : ∀ (args : List Value) (i : Nat) (A : Array Value) (j : Nat), i + args.length ≤ A.size →
    ((enumA i args).foldr (fun x A => A.setIfInBounds x.1 x.2) A)[j]? = if i ≤ j ∧ j < i + args.length then args[j - i]? else A[j]?
  | [], i, A, j, _ => by simp [enumA]; intro h1 h2; omega
  | v :: l, i, A, j, h => by
    simp only [List.length_cons] at h
    simp only [enumA, List.foldr_append, List.foldr_cons, List.foldr_nil, List.length_cons]
    rw [enumA_arr l (i + 1) (A.setIfInBounds i v) j (by simp; omega)]
    by_cases h1 : i + 1 ≤ j ∧ j < i + 1 + l.length
    · rw [if_pos h1, if_pos (by omega)]
      rw [show j - i = (j - (i + 1)) + 1 by omega, List.getElem?_cons_succ]
    · rw [if_neg h1]
      by_cases h2 : j = i
      · subst h2
        rw [if_pos (by omega)]
        simp [Array.getElem?_setIfInBounds]
        omega
      · rw [if_neg (by omega), Array.getElem?_setIfInBounds, if_neg (Ne.symm h2)]

theorem FR_args (n : Nat) (hU : n < U) (args : List Value) (h : args.length ≤ n) : (FR n (enumA 0 args)).arr = ⟨args⟩ ++ Array.replicate (n - args.length) undef := by
  apply Array.ext_getElem?
  intro j
  have := FR_arr_fold n hU [] (enumA 0 args)
  rw [List.append_nil] at this
  rw [this, FR_nil n hU, enumA_arr args 0 _ j (by simpa using h)]
  simp only [Nat.zero_le, true_and, Nat.zero_add, Nat.sub_zero]
  rw [Array.getElem?_append]
  simp only [List.size_toArray, List.getElem?_toArray]
  split
  · rfl
  · rw [Array.getElem?_replicate, Array.getElem?_replicate]
    by_cases h3 : j < n
    · rw [if_pos h3, if_pos (by omega)]
    · rw [if_neg h3, if_neg (by omega)]

/-! ### A function's body -/
def evRes (P : Program) (rs : List ResultVar) (tm : VT) (h : Heap) : Option Value :=
  match evResults.go P tm h rs with
  | some [v] => some v
  | some l => some (.tuple ⟨l⟩)
  | none => none
theorem evRes_eq (P : Program) (fn : Func) (tm : VT) (h : Heap) : evResults P fn tm h = evRes P fn.results.toList tm h := rfl

theorem evRes_sc {p : Par} {Γ : Gam} {h : Heap} {w : World} (hr : HRel p Γ h w) {tm : VT} (hsc : ∀ x ∈ tm.arr.toList, sc h.next x = true) {rs : List ResultVar} {v : Value} (he : evRes p.P rs tm h = some v) : sc h.next v = true := by
  have hget : ∀ t, sc h.next (tm.get t) = true := fun t => by
    rw [← VT.arr_getD, Array.getD_eq_getD_getElem?]
    cases hx : tm.arr[t]? with
    | none => rfl
    | some x => exact hsc x (by simpa using Array.mem_of_getElem? hx)
  have hgo : ∀ (rs : List ResultVar) (l : List Value), evResults.go p.P tm h rs = some l → ∀ x ∈ l, sc h.next x = true := by
    intro rs
    induction rs with
    | nil => intro l he; cases he; intro x hx; cases hx
    | cons r rs ih =>
      intro l he
      cases r with
      | tmp t =>
        simp only [evResults.go] at he
        split at he <;> cases he
        rename_i l' hl'
        intro x hx
        rcases List.mem_cons.1 hx with rfl | hx
        · exact hget t
        · exact ih l' hl' x hx
      | cell a t =>
        simp only [evResults.go] at he
        split at he
        · rename_i u l' hu hl'
          cases he
          intro x hx
          rcases List.mem_cons.1 hx with rfl | hx
          · exact evLoad_sc hr hu
          · exact ih l' hl' x hx
        · cases he
  unfold evRes at he
  split at he
  · rename_i u hu; cases he; exact hgo _ _ hu _ (List.mem_singleton.2 rfl)
  · rename_i l _ hl; cases he; exact scL_of_all (hgo _ _ hl)
  · cases he

/-- What is asked where a function ends. -/
def endR (P : Program) (rs : List ResultVar) (R : Value → Heap → Prop) (s : S) : Prop :=
  match evMarks s.df s.h with
  | some h1 => match evRes P rs s.tm h1 with
    | some v => R v h1
    | none => False
  | none => False
def finR (P : Program) (rs : List ResultVar) (R : Value → Heap → Prop) (e : XExit) (s : S) : Prop :=
  match e with
  | .normal => endR P rs R s
  | .ret => endR P rs R s
  | _ => False

/-- A call that enters the function. -/
def CallE (p : Par) (g : FuncId) (args : List Value) (h : Heap) (R : Value → Heap → Prop) : Prop :=
  ∀ (Γ : Gam) (w : World), HRel p Γ h w → (∀ x ∈ args, sc h.next x = true) → (callFunc g ⟨args.map (con Γ)⟩).run p.P w = .ok (.enter g ⟨args.map (con Γ)⟩) w ∧
    ∀ (F : Fence), FW F → ∀ (n : Nat) (R' : Ending → World → Prop),
      (∀ (v : Value) (h' : Heap) (Γ' : Gam) (w' : World), R v h' → Ag Γ Γ' h.next → h.next ≤ h'.next → Below p.B w w' → HRel p Γ' h' w' → sc h'.next v = true → R' (.returned (con Γ' v)) w') →
      CallsIn F n p.P g ⟨args.map (con Γ)⟩ w R'

theorem CallE.mono {p : Par} {g : FuncId} {args : List Value} {h : Heap} {R R' : Value → Heap → Prop} (hc : CallE p g args h R) (hR : ∀ v h', R v h' → R' v h') : CallE p g args h R' :=
  fun Γ w hr hs => ⟨(hc Γ w hr hs).1, fun F hF n S hS => (hc Γ w hr hs).2 F hF n S fun v h' Γ' w' hv => hS v h' Γ' w' (hR v h' hv)⟩

theorem CallE.w {p : Par} {g : FuncId} {args : List Value} {h : Heap} {R : Value → Heap → Prop} (hc : CallE p g args h R) : CallW p g args h R := by
  intro Γ w hr hsc o F hF n a K Q hK
  obtain ⟨hrun, hcalls⟩ := hc Γ w hr hsc
  rw [hrun]
  refine ⟨fun hd => (by rw [hF.depth] at hd; cases hd), ?_⟩
  refine CallsIn.mono (hcalls F hF (n - 1) (fun e w'' => match e with
      | .returned v => K (a.put o.dst v) w''
      | .panicked chain => Q (.panic chain) a w''
      | .outgrown => LetsOut Q) hK) fun e w'' he => by cases e <;> exact he

theorem CallE.body {p : Par} (ok : GoodP p) {g : FuncId} {fn : Func} {c : Code} (hfn : p.P.funcs[g]? = some fn) (hb : fn.body = some c) {args : List Value} {h : Heap} {R : Value → Heap → Prop}
    (hn : args.length ≤ fn.ntmps) (hU : fn.ntmps < U) (hw : WP p none c ⟨FR fn.ntmps (enumA 0 args), [], h⟩ (finR p.P fn.results.toList R)) : CallE p g args h R := by
  intro Γ w hr hsc
  have hok := ok.funcs g fn hfn
  simp only [okFunc, hb, Bool.and_eq_true, bne_iff_ne, ne_eq] at hok
  have hrun : (callFunc g ⟨args.map (con Γ)⟩).run p.P w = .ok (.enter g ⟨args.map (con Γ)⟩) w := by simp [callFunc, hfn, hok.2, hb]
  refine ⟨hrun, fun F hF n R' hK => ?_⟩
  have harr := FR_args fn.ntmps hU args hn
  have hF' : FW F.plain := ⟨hF.wide⟩
  refine (?_ : CallsIn F.plain n p.P g ⟨args.map (con Γ)⟩ w R')
  refine callsIn_of_wp_marks hfn hb (hF.fn g) (codeW_wp (hw hok.1 Γ { tmps := (⟨args.map (con Γ)⟩ : Array Value) ++ Array.replicate (fn.ntmps - (⟨args.map (con Γ)⟩ : Array Value).size) undef, defers := [] } w
      ⟨⟨by rw [FR_sz]; exact hU, by rw [harr]; simp [con_undef], hr.gl⟩, by
        intro x hx
        have hx : x ∈ (FR fn.ntmps (enumA 0 args)).arr.toList := hx
        rw [harr] at hx
        simp only [Array.toList_append, List.mem_append] at hx
        rcases hx with hx | hx
        · exact hsc x hx
        · simp at hx; rw [hx.2]; rfl, ⟨rfl, fun d hd => by cases hd⟩, hr⟩ F.plain n _ hF' rfl (fun l h => by cases h) ?_)) rfl
  intro e s' Γ' ca' w' hfin hag hle hbel hst
  have hfin' : endR p.P fn.results.toList R s' := by
    cases e with
    | normal => exact hfin
    | ret => exact hfin
    | exit i => exact hfin.elim
    | goto l => exact hfin.elim
  have hR : LeavesInM F.plain n p.P fn ca'.tmps R' ca'.defers .returning w' := by
    unfold endR at hfin'
    split at hfin'
    · rename_i h1 hm
      split at hfin'
      · rename_i v hres
        rw [hst.df.1]
        refine evMarks_run _ _ _ _ hst.hr hm fun w'' hr'' hn'' hb'' => ?_
        refine ⟨_, evResults_run hr'' hst.tm (by rw [evRes_eq]; exact hres), hK v h1 Γ' w'' hfin' hag (by rw [hn'']; exact hle) (hbel.trans hb'') hr'' ?_⟩
        exact evRes_sc hr'' (fun x hx => by rw [hn'']; exact hst.sc x hx) hres
      · exact hfin'.elim
    · exact hfin'.elim
  cases e with
  | normal => exact hR
  | ret => exact hR
  | exit i => exact hfin.elim
  | goto l => exact hfin.elim

/-- What is asked behind a round's body. -/
def roundR (l : Nat) (R : Value → Heap → Prop) (e : XExit) (s2 : S) : Prop :=
  match getLoopA s2.h l with
  | some r2 => R (.bool e.jump.isNone) (putLoopA s2.h l { r2 with state := if e.jump.isNone then .ready else .done, pending := e.jump })
  | none => False
def assignR (p : Par) (l : Nat) (body : Code) (R : Value → Heap → Prop) (e : XExit) (s1 : S) : Prop :=
  match e with
  | .normal => match getLoopA s1.h l with
    | some r1 => r1.state = .ready ∧ WP p (some l) body ⟨s1.tm, s1.df, putLoopA s1.h l { r1 with state := .busy }⟩ (roundR l R)
    | none => False
  | _ => False

theorem YieldW.of {p : Par} {l : Nat} {r : Loop} {args : List Value} {h : Heap} {R : Value → Heap → Prop} {T : VT} (hg : getLoopA h l = some r) (hT : r.tmps = T.arr) (hU : T.sz < U)
    (hlen : args.length = r.params.toList.length) (hw : WP p (some l) r.assign ⟨setAll T (r.params.toList.zip args), [], h⟩ (assignR p l r.body R)) : YieldW p l args h R := by
  intro Γ w hr hsc o F hF n a K Q hK
  obtain ⟨_, hlo, hlt, h1, h2, h3, h4, f, hw0⟩ := getLoopA_spec hr hg
  rw [run_yield hw0 (by simpa [conLoop] using hlen)]
  rw [Oper.uponIn_round]
  refine ⟨fun hd => (by rw [hF.depth] at hd; cases hd), roundIn_of_wpIn (hF.fn _) ?_⟩
  have hFr : FW (F.inRound (Γ.b l)) := ⟨hF.wide⟩
  have htm : (conLoop Γ f r).tmps = r.tmps.map (con Γ) := rfl
  have hps : (conLoop Γ f r).params = r.params := rfl
  have hof : T.arr = r.tmps := hT.symm
  rw [htm, hps, zip_fold_con' Γ r.params args hU hof]
  refine codeW_wp (hw h3 Γ _ w ⟨⟨by rw [setAll_sz]; exact hU, rfl, hr.gl⟩, zip_fold_sc' r.params hU hof hsc h1, ⟨rfl, fun d hd => by cases hd⟩, hr⟩ (F.inRound (Γ.b l)) (n - 1) _ hFr rfl (fun l' e => by cases e; exact hlt) ?_)
  intro e s1 Γ1 ca1 w1 hass hag1 hle1 hb1 hst
  cases e with
  | exit i => exact hass.elim
  | goto l => exact hass.elim
  | ret => exact hass.elim
  | normal =>
    simp only [assignR] at hass
    split at hass
    case h_2 => exact hass.elim
    rename_i r1 hg1
    obtain ⟨hst1, hbody⟩ := hass
    obtain ⟨_, hlo1, hlt1, h11, h12, h13, h14, f1, hw1⟩ := getLoopA_spec hst.hr hg1
    have hbl : Γ1.b l = Γ.b l := hag1.b l hlt
    have hp1 := putLoopA_run hst.hr hg1 hw1 .busy r1.pending
    refine ⟨_, run_beginRound (r := conLoop Γ1 f1 r1) (by rw [← hbl]; exact hw1) hst1, ?_⟩
    refine codeW_wp (hbody h4 Γ1 ca1 _ ⟨hst.tm, hst.sc, hst.df, by rw [hbl] at hp1; exact hp1.1⟩ (F.inRound (Γ.b l)) (n - 1) _ hFr (by simp [hbl]) (fun l' e => by cases e; exact hlt1) ?_)
    intro e s2 Γ2 ca2 w2 hrr hag2 hle2 hb2 hst2
    unfold roundR at hrr
    split at hrr
    case h_2 => exact hrr.elim
    rename_i r2 hg2
    obtain ⟨_, hlo2, hlt2, h21, h22, h23, h24, f2, hw2⟩ := getLoopA_spec hst2.hr hg2
    have hag2' : Ag Γ1 Γ2 s1.h.next := hag2
    have hbl2 : Γ2.b l = Γ.b l := (hag2'.b l hlt1).trans hbl
    have hp2 := putLoopA_run hst2.hr hg2 hw2 (if e.jump.isNone then .ready else .done) e.jump
    rw [hbl2] at hp2 hw2
    have hle2' : s1.h.next ≤ s2.h.next := hle2
    have hle1' : h.next ≤ s1.h.next := hle1
    have hbelow : Below p.B w w2 := hb1.trans (Below.trans (by rw [hbl] at hp1; exact hp1.2.1.below) hb2)
    have hend : ∃ v w', (Instr.endRound (Γ.b l) e.jump).run p.P w2 = .ok v w' ∧ K (a.put o.dst v) w' := by
      refine ⟨_, _, run_endRound (r := conLoop Γ2 f2 r2) e.jump hw2, ?_⟩
      have := hK _ _ Γ2 _ hrr (hag1.trans hag2' hle1) (by have := hp2.2.2; omega) (hbelow.trans hp2.2.1.below) hp2.1 rfl
      exact this
    cases e with
    | normal => exact hend
    | exit id => exact hend
    | goto t => exact hend
    | ret => exact hend

/-- What is asked where a range over a function is left. -/
def leaveR (l : Nat) (s : S) (mk : List Nat) (R : XExit → S → Prop) (_ : Value) (h2 : Heap) : Prop :=
  match evLeave l ⟨s.tm, mk ++ s.df, h2⟩ with
  | some (e, s') => R e s'
  | none => False

theorem WP.range {p : Par} {ro : Option Nat} {g : Operand} {ps : Array Tmp} {a b : Code} {s : S} {R : XExit → S → Prop} {l : Nat} {mk : List Nat} {h1 : Heap} (hent : evEnter ro s.tm ps a b s.h = some (l, mk, h1))
    {f : FuncId} {captured : List Value} (hgv : ev s.tm g = .func (.func f) #[] ⟨captured⟩) (hc : CallE p f (.func (.yield l) #[] #[] :: captured) h1 (leaveR l s mk R)) : WP p ro (.rangeFunc g ps a b) s R := by
  intro hok Γ ca w hst F n Q hF hro hl hQ
  simp only [okCode, Bool.and_eq_true] at hok
  refine codeW_of (by simp) (wpIn_rangeFunc fun fn hfn => ?_)
  obtain ⟨Γ1, w1, hent1, hag1, hle1, hr1, hbel1, hl1', hmk1⟩ := evEnter_run hst hok.1.2 hok.2 hent fn
  have hng : p.NG ≤ s.h.next := by have := hst.hr.ng; have := hst.hr.gn; omega
  have htm1 := hst.tm.ag hst.sc hag1 hng
  have hg0 := htm1.eval hok.1.1
  rw [hgv, con_func] at hg0
  have hscg : scL s.h.next captured = true := by
    have := ev_sc hst.hr hst.sc hok.1.1
    rw [hgv] at this
    simp only [sc, Bool.and_eq_true] at this
    exact this.2
  have hargs : (#[Value.func (.yield (Γ1.b l)) #[] #[]] ++ (⟨captured⟩ : Array Value).map (con Γ1)) = ⟨(Value.func (.yield l) #[] #[] :: captured).map (con Γ1)⟩ := by
    apply Array.ext'
    simp [con, conFn, conL]
  have hbd := hc Γ1 w1 hr1 (fun x hx => by
      simp only [List.mem_cons] at hx
      rcases hx with hx | hx
      · subst hx
        simp only [sc, scL, Bool.and_true, Nat.blt_eq]
        exact hl1'
      · exact sc_mono hle1 x (scL_all hscg x hx))
  have hbd2 := hbd.2 F hF (n - 1) (rangePost F n p.P (Γ1.b l) Q { ca with defers := marks Γ1 mk ++ ca.defers }) (by
    intro v h2 Γ2 w2 hlv hag2 hle2 hbel2 hr2 _
    unfold leaveR at hlv
    split at hlv
    case h_2 => exact hlv.elim
    rename_i e s' he
    unfold evLeave at he
    split at he
    · rename_i r hg
      obtain ⟨_, _, _, _, _, _, _, f2, hw2⟩ := getLoopA_spec (h := h2) hr2 hg
      have hbl : Γ2.b l = Γ1.b l := hag2.b l hl1'
      have hput := putLoopA_run hr2 hg hw2 .exhausted r.pending
      rw [hbl] at hw2 hput
      split at he
      · cases he
      · rename_i hnb
        obtain ⟨W, hrunW, hrelW, hfrW⟩ : ∃ W, (Instr.endLoop (Γ1.b l)).run p.P w2 = .ok r.pending W ∧ HRel p Γ2 (putLoopA h2 l { r with state := .exhausted }) W ∧ Fr p Γ2 h2 w2 W :=
          ⟨_, run_endLoop (r := conLoop Γ2 f2 r) hw2 hnb, hput.1, hput.2.1⟩
        have hag : Ag Γ Γ2 s.h.next := hag1.trans hag2 hle1
        have hnx : (putLoopA h2 l { r with state := .exhausted }).next = h2.next := rfl
        have hstn : St p Γ2 ({ tm := s.tm, df := mk ++ s.df, h := putLoopA h2 l { r with state := .exhausted } } : S) { ca with defers := marks Γ1 mk ++ ca.defers } W := by
          refine ⟨?_, fun v hv => sc_mono (by rw [hnx]; omega) v (hst.sc v hv), ⟨?_, ?_⟩, hrelW⟩
          · have := hst.tm.ag hst.sc hag hng
            exact ⟨this.sm, this.tm, this.gl⟩
          · show marks Γ1 mk ++ ca.defers = marks Γ2 (mk ++ s.df)
            have e1 : marks Γ2 (mk ++ s.df) = marks Γ2 mk ++ marks Γ2 s.df := by simp [marks]
            rw [e1, hst.df.1, marks_ag hag2 hmk1, marks_ag hag hst.df.2]
          · intro d hd
            simp only [List.mem_append] at hd
            rw [hnx]
            rcases hd with hd | hd
            · have := hmk1 d hd; omega
            · have := hst.df.2 d hd; omega
        have hbel : Below p.B w W := (hbel1.trans hbel2).trans hfrW.below
        have hfin : ∀ (e0 : XExit), some (e0, ({ tm := s.tm, df := mk ++ s.df, h := putLoopA h2 l { r with state := .exhausted } } : S)) = some (e, s') →
            Q e0.con { ca with defers := marks Γ1 mk ++ ca.defers } W := fun e0 h1 => by
          cases h1
          exact hQ _ _ Γ2 _ _ hlv hag (by rw [hnx]; omega) hbel hstn
        refine ⟨_, _, hrunW, ?_⟩
        split at he
        · rename_i hp
          rw [hp]
          exact hfin _ he
        · rename_i id hp
          rw [hp]
          exact wpIn_exit (hfin _ he)
        · rename_i tt hp
          rw [hp]
          exact wpIn_goto (hfin _ he)
        · rename_i hp
          rw [hp]
          exact wpIn_ret (hfin _ he)
        · cases he
    · cases he)
  refine ⟨Γ1.b l, marks Γ1 mk, w1, { target := .fn (.func f) ((⟨captured⟩ : Array Value).map (con Γ1)), args := #[Value.func (.yield (Γ1.b l)) #[] #[]] }, w1, f, ⟨(Value.func (.yield l) #[] #[] :: captured).map (con Γ1)⟩, w1, by rw [hro]; exact hent1, ?_, fun f' _ => hF.fn f', ?_, fun hd => (by rw [hF.depth] at hd; cases hd), ?_⟩
  · simp only [resolve]
    rw [hg0]
    simp [Deferred.ofValue, conFn, Act.eval]
  · simp only [invoke]
    rw [hargs]
    exact hbd.1
  · exact hbd2
end
end Go.Ev

namespace Go.Ev
open Go Go.RowKit
noncomputable section

/-! ### Operations on values, said so that they can be reckoned with values that are not known -/
theorem setE_some : ∀ (off : Nat) (vs cs : List Value), off + vs.length ≤ cs.length → setE off vs cs = some (setFrom cs off vs) := by
  have h0 : ∀ (vs cs : List Value), vs.length ≤ cs.length → overE vs cs = some (setFrom cs 0 vs) := by
    intro vs
    induction vs with
    | nil => intro cs _; simp [overE, setFrom]
    | cons v vs ih =>
      intro cs hl
      cases cs with
      | nil => simp at hl
      | cons c cs =>
        have := ih cs (by simpa using hl)
        show (Option.rec none (fun x => some (v :: x)) (overE vs cs) : Option (List Value)) = _
        rw [this]
        simp [setFrom]
  intro off
  induction off with
  | zero => intro vs cs hl; exact h0 vs cs (by omega)
  | succ off ih =>
    intro vs cs hl
    cases cs with
    | nil => simp at hl
    | cons c cs =>
      have := ih vs cs (by simp at hl; omega)
      show (Option.rec none (fun x => some (c :: x)) (setE off vs cs) : Option (List Value)) = _
      rw [this]
      simp [setFrom, Nat.add_right_comm]
theorem takeN_some (cs : List Value) (off n : Nat) (hle : off + n ≤ cs.length) : takeN cs off n = some ((cs.drop off).take n) := by
  have h1 : ∀ (k : Nat) (l : List Value), k ≤ l.length → takeE k l = some (l.take k) := by
    intro k
    induction k with
    | zero => intro l _; rfl
    | succ k ih =>
      intro l hl
      cases l with
      | nil => simp at hl
      | cons x l =>
        show (Option.rec none (fun y => some (x :: y)) (takeE k l) : Option (List Value)) = _
        rw [ih l (by simpa using hl)]
        rfl
  have h2 : ∀ (k : Nat) (l : List Value), k ≤ l.length → dropE k l = some (l.drop k) := by
    intro k
    induction k with
    | zero => intro l _; rfl
    | succ k ih =>
      intro l hl
      cases l with
      | nil => simp at hl
      | cons x l => exact ih l (by simpa using hl)
  simp only [takeN, h2 off cs (by omega), h1 n (cs.drop off) (by simp; omega)]

def pickV (c a b : Value) : Option Value := match c with | .bool true => some a | .bool false => some b | _ => none
def extV (v : Value) (i : Nat) : Option Value := match v with | .tuple vs => vs[i]? | _ => none
def unV (P : Program) (op : UnOp) (v : Value) : Option Value := pvF P (Op.unary op v) (flat v)
/-- a field's place -/
def fld (P : Program) (s : TypeId) (f : Nat) : Option Nat := match P.underlying s with
  | some (.struct fs) => match fs[f]? with
    | some fl => match szT P fl.type with
      | some (_ + 1) => some fl.offset
      | _ => none
    | none => none
  | _ => none
def faV (o : Option Nat) (v : Value) : Option Value := match o, v with
  | some o, .pointer (some a) => some (.pointer (some (a.add o)))
  | _, _ => none
/-- a piece of a row: is it of parts, how many, from where -/
def partL (b : Bool) (n : Nat) (cs : List Value) (off : Nat) : Option Value := match b with
  | true => if off + n ≤ cs.length then some (.agg ⟨(cs.drop off).take n⟩) else none
  | false => cs[off]?
def knd (P : Program) (t : TypeId) : Option (Bool × Nat) := match isAggT P t with
  | some true => match szT P t with | some n => some (true, n) | none => none
  | some false => some (false, 0)
  | none => none
theorem partL_eq {P : Program} {t : TypeId} {b : Bool} {n : Nat} {cs : List Value} {off : Nat} {v : Value} (hk : knd P t = some (b, n)) (h : partL b n cs off = some v) : partV P t cs off = some v := by
  unfold knd at hk
  unfold partV
  split at hk
  · rename_i ha
    split at hk <;> cases hk
    rename_i hs
    simp only [partL] at h
    split at h <;> cases h
    rename_i hle
    have ht := takeN_some cs off n hle
    simp only [takeN] at ht
    rw [ha]; simp only [hs]
    cases hd : dropE off cs with
    | none => rw [hd] at ht; cases ht
    | some l => rw [hd] at ht; simp only [ht]
  · rename_i ha
    cases hk
    rw [ha]; exact h
  · cases hk
/-- a struct's field -/
def fldT (P : Program) (s : TypeId) (f : Nat) : Option (Bool × Nat × Nat) := match P.underlying s with
  | some (.struct fs) => match fs[f]? with
    | some fl => match knd P fl.type with
      | some (b, n) => some (b, n, fl.offset)
      | none => none
    | none => none
  | _ => none
def fdV (f : Option (Bool × Nat × Nat)) (v : Value) : Option Value := match f, v with
  | some (b, n, off), .agg cs => partL b n cs.toList off
  | _, _ => none
/-- an element's cells -/
def esz (P : Program) (t : TypeId) : Option (Option Nat × Nat) := match P.underlying t with
  | some (.slice e) => match szT P e with | some n => some (none, n) | none => none
  | some (.array len e) => match szT P e with | some n => some (some len, n) | none => none
  | _ => none
def iaV (z : Option (Option Nat × Nat)) (x i : Value) : Option Value := match z, x, i with
  | some (none, n), .slice (some a) len _, .int _ i => if 0 ≤ i ∧ i < len then some (.pointer (some (a.add (i.toNat * n)))) else none
  | some (some len, n), .pointer (some a), .int _ i => if 0 ≤ i ∧ i < len then some (.pointer (some (a.add (i.toNat * n)))) else none
  | _, _, _ => none
/-- what is indexed: a text; an array -/
def ixT (P : Program) (t : TypeId) : Option (Option (Bool × Nat × Nat × Nat)) := match P.underlying t with
  | some .string => some none
  | some (.array len e) => match knd P e, szT P e with
    | some (b, n), some z => some (some (b, n, z, len))
    | _, _ => none
  | _ => none
def byteAt (s : ByteArray) (i : Nat) : Int := ((s.data.toList.getD i 0).toNat : Int)
def ixV (z : Option (Option (Bool × Nat × Nat × Nat))) (x i : Value) : Option Value := match z, x, i with
  | some none, .string s, .int _ i => if 0 ≤ i ∧ i < s.size then some (.int .u8 (byteAt s i.toNat)) else none
  | some (some (b, n, z, len)), .agg cs, .int _ i => if 0 ≤ i ∧ i < len then partL b n cs.toList (i.toNat * z) else none
  | _, _, _ => none
def slV (P : Program) (t : TypeId) (x : Value) (lo hi mx : Option Value) (h : Heap) : Option Value := match x with
  | .string s => pvF P (Instr.sliceAt t (.string s) lo hi mx) (lo.all flat && hi.all flat && mx.all flat)
  | .slice a n c => match slicePure P t a n c lo hi mx with | some v => some v | none => sliceRead P t a n c lo hi mx h
  | .pointer (some a) => sliceArr P t a lo hi mx
  | _ => none
def ncV (v : Value) : Option Value := match v with
  | .pointer (some a) => some (.pointer (some a))
  | .func (.func g) f c => some (.func (.func g) f c)
  | _ => none
def isI (P : Program) (t : TypeId) : Option Bool := match P.underlying t with
  | some (.interface _) => some true
  | some _ => some false
  | none => none
def miV (b : Option Bool) (t : TypeId) (v : Value) : Option Value := match b with | some false => some (.iface t v) | _ => none
/-- is a length a text's or a slice's? -/
def lnT (P : Program) (t : TypeId) : Option Bool := match P.underlying t with
  | some .string => some true
  | some (.slice _) => some false
  | _ => none
def lnB (b : Option Bool) (v : Value) : Option Value := match b, v with
  | some true, .string s => some (.int .i64 s.size)
  | some false, .slice _ n _ => some (.int .i64 n)
  | _, _ => none
def mnV (P : Program) (ts : Array TypeId) (t : TypeId) (l : List Value) : Option Value := pvF P (Builtin.min_ ts t ⟨l⟩) (flatL l)
def mxV (P : Program) (ts : Array TypeId) (t : TypeId) (l : List Value) : Option Value := pvF P (Builtin.max_ ts t ⟨l⟩) (flatL l)
/-- a struct's places, its zero cells -/
def plc (P : Program) (t : TypeId) : Option (List (Nat × Nat) × List Value) := match P.info? t with
  | none => none
  | some i => match i.zero with
    | none => none
    | some z => match flat z, P.underlying t with
      | true, some (.struct fs) => match placesOf P fs.toList with
        | some pl => some (pl, z.cells.toList)
        | none => none
      | true, some (.array len e) => match szT P e with
        | some n => some ((List.range len).map (fun i => (i * n, n)), z.cells.toList)
        | none => none
      | _, _ => none
def fillP (pl : List (Nat × Nat)) : List Value → List (Nat × Value) → Option (List Value)
  | cs, [] => some cs
  | cs, (i, v) :: rest => match pl[i]? with
    | some (off, n) => if v.cells.toList.length = n ∧ off + n ≤ cs.length then fillP pl (setFrom cs off v.cells.toList) rest else none
    | none => none
def bdV (z : Option (List (Nat × Nat) × List Value)) (parts : List (Nat × Value)) : Option Value := match z with
  | some (pl, cs) => match fillP pl cs parts with
    | some cs' => some (.agg ⟨cs'⟩)
    | none => none
  | none => none
theorem fillP_eq {place : Nat → Option (Nat × Nat)} {pl : List (Nat × Nat)} (hp : ∀ i x, pl[i]? = some x → place i = some x) : ∀ (parts : List (Nat × Value)) (cs cs' : List Value),
    fillP pl cs parts = some cs' → fillL place cs parts = some cs'
  | [], cs, cs', h => h
  | (i, v) :: rest, cs, cs', h => by
    simp only [fillP] at h
    split at h
    · rename_i off n hx
      split at h
      · rename_i hc
        have hs := setE_some off v.cells.toList cs (by omega)
        have hb : Nat.beq v.cells.size n = true := by
          rw [Nat.beq_eq]; simpa using hc.1
        simp only [fillL, hp i _ hx, hb, hs]
        exact fillP_eq hp rest _ cs' h
      · cases h
    · cases h
theorem bdV_eq {P : Program} {t : TypeId} {parts : List (Nat × Value)} {v : Value} (h : bdV (plc P t) parts = some v) : buildV P t parts = some v := by
  unfold bdV plc at h
  unfold buildV
  cases hi : P.info? t with
  | none => rw [hi] at h; cases h
  | some i =>
    rw [hi] at h
    dsimp only at h ⊢
    cases hz : i.zero with
    | none => rw [hz] at h; cases h
    | some z =>
      rw [hz] at h
      dsimp only at h ⊢
      cases hf : flat z with
      | false => rw [hf] at h; cases h
      | true =>
        rw [hf] at h
        cases hu : P.underlying t with
        | none => rw [hu] at h; cases h
        | some d =>
          rw [hu] at h
          cases d with
          | struct fs =>
            dsimp only at h ⊢
            cases hp : placesOf P fs.toList with
            | none => rw [hp] at h; cases h
            | some pl =>
              rw [hp] at h
              dsimp only at h ⊢
              split at h <;> cases h
              rename_i cs' hc
              rw [fillP_eq (place := fun i => pl[i]?) (fun i x hx => hx) _ _ _ hc]
          | array len e =>
            dsimp only at h ⊢
            cases hs : szT P e with
            | none => rw [hs] at h; cases h
            | some n =>
              rw [hs] at h
              dsimp only at h ⊢
              split at h <;> cases h
              rename_i cs' hc
              rw [fillP_eq (place := fun i => some (i * n, n)) (fun i x hx => by
                rw [List.getElem?_map] at hx
                cases hr : (List.range len)[i]? with
                | none => rw [hr] at hx; cases hx
                | some j =>
                  rw [hr] at hx
                  obtain ⟨_, hj⟩ := List.getElem?_eq_some_iff.1 hr
                  simp at hj
                  subst hj
                  simpa using hx) _ _ _ hc]
          | _ => cases h

/-- a text out of bytes -/
def btS (P : Program) (s d : TypeId) (x : Value) (h : Heap) : Option Value := match P.underlying s, P.underlying d, x with
    | some (.slice e), some .string, .slice none _ _ => match P.underlying e with
      | some (.int .u8) => some (.string .empty)
      | _ => none
    | some (.slice e), some .string, .slice (some ⟨_, _, none⟩) 0 _ => match P.underlying e with
      | some (.int .u8) => some (.string .empty)
      | _ => none
    | some (.slice e), some .string, .slice (some ⟨g, off, none⟩) n _ => match P.underlying e, cells h g with
      | some (.int .u8), some (cs, _, _) => match takeN cs off n with
        | some l => match bytesOf l with
          | some l => some (.string ⟨⟨l⟩⟩)
          | none => none
        | none => none
      | _, _ => none
    | _, _, _ => none
def cvP (P : Program) (s d : TypeId) (v : Value) : Option Value := pvF P (convert s d v) (flat v)
def cvV (P : Program) (s d : TypeId) (v : Value) (h : Heap) : Option Value := match cvP P s d v with | some u => some u | none => btS P s d v h

def bare (o : Op) (t : TypeId) : Oper := ⟨none, o, t, "", #[], none⟩

def tp (P : Program) (o : Op) (t : TypeId) (tm : VT) : Option Value := match o with
  | .move x => some (ev tm x)
  | .assign x => some (ev tm x)
  | .pick c a b => pickV (ev tm c) (ev tm a) (ev tm b)
  | .extract x i => extV (ev tm x) i
  | .binOp op ty x y _ => binPure P op ty x y (ev tm x) (ev tm y)
  | .unOp op _ x => unV P op (ev tm x)
  | .fieldAddr s x f => faV (fld P s f) (ev tm x)
  | .field s x f => fdV (fldT P s f) (ev tm x)
  | .indexAddr s x i => iaV (esz P s) (ev tm x) (ev tm i)
  | .index s x i => ixV (ixT P s) (ev tm x) (ev tm i)
  | .build ty parts => bdV (plc P ty) (parts.toList.map fun x => (x.1, ev tm x.2))
  | .makeFunc (.func g) f c => some (.func (.func g) ⟨f.toList.map (ev tm)⟩ ⟨c.toList.map (ev tm)⟩)
  | .makeInterface ty x => miV (isI P ty) ty (ev tm x)
  | .nilCheck x => ncV (ev tm x)
  | .call ⟨.builtin .len, ⟨[x]⟩, ⟨[ty]⟩⟩ => lnB (lnT P ty) (ev tm x)
  | .call ⟨.builtin .min, args, ts⟩ => mnV P ts t (args.toList.map (ev tm))
  | .call ⟨.builtin .max, args, ts⟩ => mxV P ts t (args.toList.map (ev tm))
  | _ => none
def tv (P : Program) (o : Op) (t : TypeId) (tm : VT) (h : Heap) : Option Value := match o with
  | .load ty a => evLoad P ty (ev tm a) h
  | .slice ty x lo hi mx => slV P ty (ev tm x) (lo.map (ev tm)) (hi.map (ev tm)) (mx.map (ev tm)) h
  | .convert s d x => cvV P s d (ev tm x) h
  | o => tp P o t tm

/-- What is behind a slice's last element, where its capacity is not known: it lies at the one place, or at the other. -/
def tailV (P : Program) (t : TypeId) (x : Value) (lo hi mx : Option Value) (h : Heap) : Option (Value × Value) := match x, mx with
  | .slice (some ⟨b, off, none⟩) len cap, none => match P.underlying t, cells h b with
    | some (.slice e), some (cs, e', true) => match szT P e with
      | some size => match bounds len len none hi lo with
        | some (l, h', _) => if e' = e ∧ UC ≤ cap ∧ off = (cap - UC) * size ∧ 0 < size ∧ off + len * size ≤ cs.length ∧ l = len ∧ h' = len ∧ len < U then
            some (.slice (some ⟨b, off, none⟩) 0 0, .slice (some ⟨b, off + len * size, none⟩) 0 (cap + len)) else none
        | none => none
      | none => none
    | _, _ => none
  | _, _ => none
def tw (P : Program) (o : Op) (tm : VT) (h : Heap) : Option (Value × Value) := match o with
  | .slice ty x lo hi mx => tailV P ty (ev tm x) (lo.map (ev tm)) (hi.map (ev tm)) (mx.map (ev tm)) h
  | _ => none

theorem slice_run {P : Program} {w : World} {t e : TypeId} {a : Option Addr} {len cap size l h m : Nat} {lo hi mx : Option Value} (hu : P.underlying t = some (.slice e)) (hs : szT P e = some size)
    (hbr : (Instr.sliceBounds true len cap lo hi mx).run P w = .ok (l, h, m) w) :
    (Instr.sliceAt t (.slice a len cap) lo hi mx).run P w = .ok (.slice (if m = l then a else a.map (·.add (l * size))) (h - l) (m - l)) w := by
  simp only [Instr.sliceAt, Instr.slice, Sem.run_bind, run_under hu, Result.andThen_ok, hbr, run_size hs, Sem.run_pure]

theorem tail_fin {g off l K h' size : Nat} {w : World} (q : Bool) (hq : q = true ↔ K = l) (h7 : h' = l) :
    (Result.ok (.slice (if (Option.none : Option Nat).getD K = l then some ⟨g, off, none⟩ else (some (⟨g, off, none⟩ : Addr)).map (·.add (l * size))) (h' - l) ((Option.none : Option Nat).getD K - l)) w : Result Value) =
    .ok (if q = true then .slice (some ⟨g, off, none⟩) 0 0 else .slice (some ⟨g, off + l * size, none⟩) 0 (K - l)) w := by
  subst h7
  simp only [Option.getD_none, Option.map_some, addr_add]
  cases q with
  | true =>
    have hq : K = h' := hq.1 rfl
    simp [hq]
  | false =>
    have hq : ¬ K = h' := fun e => by have := hq.2 e; cases this
    simp [hq]

theorem tailV_key {p : Par} {t : TypeId} {x : Value} {lo hi mx : Option Value} {v1 v2 : Value} {Γ : Gam} {h : Heap} {w : World} (hr : HRel p Γ h w) (he : tailV p.P t x lo hi mx h = some (v1, v2)) :
    ∃ g off len cap, x = .slice (some ⟨g, off, none⟩) len cap ∧ g < h.next ∧
      ∀ q : Bool, (q = true ↔ Γ.k g - (cap - UC) = len) → (Instr.sliceAt t (con Γ x) (lo.map (con Γ)) (hi.map (con Γ)) (mx.map (con Γ))).run p.P w = .ok (con Γ (if q then v1 else v2)) w := by
  unfold tailV at he
  split at he
  · rename_i b off len cap
    split at he
    · rename_i e cs e' hu hc
      split at he
      · rename_i size hs
        split at he
        · rename_i l h' m hbd
          split at he <;> cases he
          rename_i hcond
          obtain ⟨h1, h2, h3, h4, h5, h6, h7, h8⟩ := hcond
          subst h1 h6
          refine ⟨b, off, l, cap, rfl, ?_⟩
          obtain ⟨hlt, rest, fr, hrow⟩ := hr.row hc (hr.m_own hc)
          refine ⟨hlt, ?_⟩
          obtain ⟨ti, hti, hk⟩ := hrow.more rfl
          have hsz : ti.size = size := by
            unfold szT at hs; rw [hti] at hs; simpa using hs
          rw [hsz] at hk
          have hcap : l ≤ Γ.k b - (cap - UC) := by
            have : (cap - UC + l) * size ≤ Γ.k b * size := by
              rw [Nat.add_mul, ← h3]; omega
            have := Nat.le_of_mul_le_mul_right this h4
            omega
          have hnot : ¬ cap < UC := by omega
          have hbr := bounds_run (P := p.P) (w := w) Γ true hbd hcap
          have hm : m = none := by
            rcases (bounds_key hbd).1 with ⟨_, h0⟩ | ⟨k, mm', h9, h0, hle⟩
            · exact h0
            · cases h9
          subst hm
          have hnk : ¬ (cap + l < UC) := by omega
          have hsub : Γ.k b - (cap + l - UC) = Γ.k b - (cap - UC) - l := by
            generalize UC = u at h2 ⊢
            omega
          have hcon : con Γ (.slice (some ⟨b, off, none⟩) l cap) = .slice (some ⟨Γ.b b, off, none⟩) l (Γ.k b - (cap - UC)) := by
            simp only [con, conCap, if_neg hnot, conA]
          have hcon1 : con Γ (.slice (some ⟨b, off, none⟩) 0 0) = .slice (some ⟨Γ.b b, off, none⟩) 0 0 := by
            simp only [con, conCap, if_pos UC_pos, conA]
          have hcon2 : con Γ (.slice (some ⟨b, off + l * size, none⟩) 0 (cap + l)) = .slice (some ⟨Γ.b b, off + l * size, none⟩) 0 (Γ.k b - (cap - UC) - l) := by
            simp only [con, conCap, if_neg hnk, conA, hsub]
          intro q hq
          rw [hcon]
          have hif : con Γ (if q = true then Value.slice (some ⟨b, off, none⟩) 0 0 else .slice (some ⟨b, off + l * size, none⟩) 0 (cap + l)) =
              if q = true then .slice (some ⟨Γ.b b, off, none⟩) 0 0 else .slice (some ⟨Γ.b b, off + l * size, none⟩) 0 (Γ.k b - (cap - UC) - l) := by
            cases q
            · exact hcon2
            · exact hcon1
          rw [hif]
          clear hcon hcon1 hcon2 hif hsub
          generalize Γ.k b - (cap - UC) = K at hbr hcap hq ⊢
          rw [slice_run hu hs hbr]
          exact tail_fin q hq h7
        · cases he
      · cases he
    · cases he
  · cases he

theorem tailV_run {p : Par} {Γ : Gam} {h : Heap} {w : World} (hr : HRel p Γ h w) {t : TypeId} {x : Value} {lo hi mx : Option Value} {v1 v2 : Value} (he : tailV p.P t x lo hi mx h = some (v1, v2)) :
    ∃ b : Bool, ∀ Γ' h' w', Ag Γ Γ' h.next → HRel p Γ' h' w' → tailV p.P t x lo hi mx h' = some (v1, v2) →
      (Instr.sliceAt t (con Γ' x) (lo.map (con Γ')) (hi.map (con Γ')) (mx.map (con Γ'))).run p.P w' = .ok (con Γ' (if b then v1 else v2)) w' := by
  obtain ⟨g, off, len, cap, hx, hg, _⟩ := tailV_key hr he
  obtain ⟨q, hq⟩ : ∃ q : Bool, q = true ↔ Γ.k g - (cap - UC) = len := by
    by_cases hc : Γ.k g - (cap - UC) = len
    · exact ⟨true, ⟨fun _ => hc, fun _ => rfl⟩⟩
    · exact ⟨false, ⟨(fun e => by cases e), fun e => absurd e hc⟩⟩
  refine ⟨q, fun Γ' h' w' hag hr' he' => ?_⟩
  obtain ⟨g', off', len', cap', hx', hg', hrun⟩ := tailV_key hr' he'
  rw [hx] at hx'
  simp only [Value.slice.injEq, Option.some.injEq, Addr.mk.injEq] at hx'
  obtain ⟨⟨rfl, rfl, _⟩, rfl, rfl⟩ := hx'
  rw [hag.k g hg] at hrun
  exact hrun q hq
theorem tailV_sc {P : Program} {n : Nat} {t : TypeId} {x : Value} {lo hi mx : Option Value} {h : Heap} {v1 v2 : Value} (hx : sc n x = true) (he : tailV P t x lo hi mx h = some (v1, v2)) : sc n v1 = true ∧ sc n v2 = true := by
  unfold tailV at he
  split at he
  · split at he
    · split at he
      · split at he
        · split at he <;> cases he
          exact ⟨hx, hx⟩
        · cases he
      · cases he
    · cases he
  · cases he

theorem blt_of {i n : Nat} (h : (i : Int) < n) : Nat.blt i n = true := by simp; omega

theorem tp_sound {P : Program} {o : Op} {t : TypeId} {tm : VT} {v : Value} (h : tp P o t tm = some v) : evPure P (bare o t) tm = some v := by
  unfold tp at h
  split at h
  · exact h
  · exact h
  · exact h
  · exact h
  · exact h
  · exact h
  · rename_i s x f
    simp only [bare, evPure]
    unfold faV fld at h
    cases hu : P.underlying s with
    | none => rw [hu] at h; cases h
    | some d =>
      rw [hu] at h
      cases d with
      | struct fs =>
        dsimp only at h ⊢
        cases hf : fs[f]? with
        | none => rw [hf] at h; cases h
        | some fl =>
          rw [hf] at h
          dsimp only at h ⊢
          cases hs : szT P fl.type with
          | none => rw [hs] at h; cases h
          | some n =>
            rw [hs] at h
            cases n with
            | zero => cases h
            | succ n =>
              dsimp only at h
              split at h
              · rename_i h1 h2
                cases h1
                cases h
                rw [h2]
                simp only [hf, hs]
              · cases h
      | _ => cases h
  · rename_i s x f
    simp only [bare, evPure]
    unfold fdV fldT at h
    cases hu : P.underlying s with
    | none => rw [hu] at h; cases h
    | some d =>
      rw [hu] at h
      cases d with
      | struct fs =>
        dsimp only at h ⊢
        cases hf : fs[f]? with
        | none => rw [hf] at h; cases h
        | some fl =>
          rw [hf] at h
          dsimp only at h ⊢
          cases hs : knd P fl.type with
          | none => rw [hs] at h; cases h
          | some bn =>
            obtain ⟨b, n⟩ := bn
            rw [hs] at h
            dsimp only at h
            split at h
            · rename_i h1 h2
              cases h1
              rw [h2]
              simp only [hf]
              exact partL_eq hs h
            · cases h
      | _ => cases h
  · rename_i s x i
    simp only [bare, evPure]
    unfold iaV esz at h
    cases hu : P.underlying s with
    | none => rw [hu] at h; cases h
    | some d =>
      rw [hu] at h
      cases d with
      | slice e =>
        dsimp only at h ⊢
        cases hs : szT P e with
        | none => rw [hs] at h; cases h
        | some n =>
          rw [hs] at h
          dsimp only at h
          split at h
          · rename_i h1 h2 h3
            cases h1
            split at h <;> cases h
            rename_i hc
            obtain ⟨j, rfl⟩ := Int.eq_ofNat_of_zero_le hc.1
            have hc2 := hc.2
            rw [h2, h3]
            show (match Nat.blt j _, szT P e with | true, some size => _ | _, _ => none) = _
            rw [blt_of hc2, hs]
            rfl
          · rename_i h1 _ _; cases h1
          · cases h
      | array len e =>
        dsimp only at h ⊢
        cases hs : szT P e with
        | none => rw [hs] at h; cases h
        | some n =>
          rw [hs] at h
          dsimp only at h
          split at h
          · rename_i h1 _ _; cases h1
          · rename_i h1 h2 h3
            cases h1
            split at h <;> cases h
            rename_i hc
            obtain ⟨j, rfl⟩ := Int.eq_ofNat_of_zero_le hc.1
            have hc2 := hc.2
            rw [h2, h3]
            show (match Nat.blt j _, szT P e with | true, some size => _ | _, _ => none) = _
            rw [blt_of hc2, hs]
            rfl
          · cases h
      | _ => cases h
  · rename_i s x i
    simp only [bare, evPure]
    unfold ixV ixT at h
    cases hu : P.underlying s with
    | none => rw [hu] at h; cases h
    | some d =>
      rw [hu] at h
      cases d with
      | string =>
        dsimp only at h
        split at h
        · rename_i s' k i' h1 h2 h3
          split at h <;> cases h
          rename_i hc
          obtain ⟨j, rfl⟩ := Int.eq_ofNat_of_zero_le hc.1
          rw [h2, h3]
          have hj : j < s'.size := by have := hc.2; omega
          have hb : s'[j]? = some s'[j] := getElem?_pos s' j hj
          have hg : s'.data.toList.getD j 0 = s'[j] := by
            have hj' : j < s'.data.toList.length := by rw [Array.length_toList]; exact hj
            rw [List.getD_eq_getElem?_getD, List.getElem?_eq_getElem hj']
            rfl
          have hpv : ∀ {α β : Type} (f : α → Sem β) (s : Sem α), pv P (s >>= f) = (pv P s).bind (fun a => pv P (f a)) := by
            intro α β f s
            show pv P (Sem.bind s f) = _
            induction s with
            | pure a => rfl
            | program k ih => exact ih P
            | mark m k ih => exact ih
            | _ => rfl
          have hpu : pv P (underlying s) = some .string := by
            simp only [underlying, hpv]
            simp only [program, pv, Option.bind_some, hu]
            rfl
          have hpp : ∀ {α : Type} (a : α), pv P (pure a : Sem α) = some a := fun a => rfl
          have hj0 : (0 : Int) ≤ (j : Int) := hc.1
          simp only [pvF, Instr.index, asIntOf, hpv, hpp, hpu, Option.bind_some, if_pos hj0, Int.toNat_natCast, hb, byteAt, hg, flat]
        · rename_i h1 _ _; cases h1
        · cases h
      | array len e =>
        dsimp only at h
        cases hk : knd P e with
        | none => rw [hk] at h; cases h
        | some bn =>
          obtain ⟨b, n⟩ := bn
          rw [hk] at h
          cases hs : szT P e with
          | none => rw [hs] at h; cases h
          | some z =>
            rw [hs] at h
            dsimp only at h
            split at h
            · rename_i h1 _ _; cases h1
            · rename_i h1 h2 h3
              cases h1
              split at h
              · rename_i hc
                obtain ⟨j, rfl⟩ := Int.eq_ofNat_of_zero_le hc.1
                have hc2 := hc.2
                rw [h2, h3]
                show (match Nat.blt j len, szT P e with
                    | true, some size => partV P e _ (j * size)
                    | _, _ => none) = _
                simp only [blt_of hc2, hs]
                exact partL_eq hk h
              · cases h
            · cases h
      | _ => cases h
  · exact bdV_eq h
  · rename_i g f c
    cases h
    simp only [bare, evPure]
    congr 2
    · exact Array.ext' (by simp)
    · exact Array.ext' (by simp)
  · rename_i ty x
    simp only [bare, evPure]
    unfold miV isI at h
    cases hu : P.underlying ty with
    | none => rw [hu] at h; cases h
    | some d =>
      rw [hu] at h
      cases d <;> first | exact h | (cases h; done)
  · exact h
  · rename_i x ty
    unfold lnB lnT at h
    show (match P.underlying ty, ev tm x with
      | some .string, .string s => some (goInt s.size)
      | some (.slice _), .slice _ n _ => some (goInt n)
      | _, _ => none) = _
    cases hu : P.underlying ty with
    | none => rw [hu] at h; cases h
    | some d =>
      rw [hu] at h
      cases d with
      | string =>
        dsimp only at h
        split at h
        · rename_i h2; rw [h2]; exact h
        · rename_i h1 _; cases h1
        · cases h
      | slice e =>
        dsimp only at h
        split at h
        · rename_i h1 _; cases h1
        · rename_i h2; rw [h2]; exact h
        · cases h
      | _ => cases h
  · rename_i args ts
    have : (⟨args.toList.map (ev tm)⟩ : Array Value) = args.map (ev tm) := Array.ext' (by simp)
    show pvF P (Builtin.min_ ts t (args.map (ev tm))) (flatL (args.map (ev tm)).toList) = _
    rw [← this]; exact h
  · rename_i args ts
    have : (⟨args.toList.map (ev tm)⟩ : Array Value) = args.map (ev tm) := Array.ext' (by simp)
    show pvF P (Builtin.max_ ts t (args.map (ev tm))) (flatL (args.map (ev tm)).toList) = _
    rw [← this]; exact h
  · cases h

theorem tv_sound {P : Program} {o : Op} {t : TypeId} {tm : VT} {h : Heap} {v : Value} (he : tv P o t tm h = some v) : evPure P (bare o t) tm = some v ∨ evRead P (bare o t) tm h = some v := by
  unfold tv at he
  split at he
  · exact .inr he
  · rename_i ty x lo hi mx
    unfold slV at he
    simp only [bare, evPure, evRead]
    split at he
    · rename_i s hx; left; rw [hx]; exact he
    · rename_i a n c hx
      rw [hx]
      split at he
      · rename_i u hu; cases he; left; exact hu
      · right; exact he
    · rename_i a hx; left; rw [hx]; exact he
    · cases he
  · rename_i s d x
    unfold cvV at he
    split at he
    · rename_i u hu; cases he; exact .inl hu
    · exact .inr he
  · exact .inl (tp_sound he)

/-! ### Operations that make or turn memory -/
def Heap.add (h : Heap) (x : AObj) : Heap := (h.new x).2
def O (cs : List Value) (e : TypeId) (m : Bool) : AObj := ⟨.cells ⟨cs⟩ e, m⟩
theorem mkRow_eq {h : Heap} {e : TypeId} {cs : List Value} {m : Bool} (hf : foneL h.next cs = true) : mkRow h e cs m = some (h.next, h.add (O cs e m)) := by
  unfold mkRow Heap.add O
  rw [hf]
  rw [Heap.new_eq]
/-- a type's zero cells -/
def zro (P : Program) (e : TypeId) : Option (List Value) := match zeroOf P e with
  | some z => match flat z with
    | true => match foneL 0 z.cells.toList with
      | true => some z.cells.toList
      | false => none
    | false => none
  | none => none
theorem foneL_mono {n m : Nat} (hle : n ≤ m) {l : List Value} (h : foneL n l = true) : foneL m l = true := by
  simp only [foneL_eq, Bool.and_eq_true] at h ⊢
  exact ⟨h.1, scL_of_all fun v hv => sc_mono hle v (scL_all h.2 v hv)⟩
def alE (z : Option (List Value)) (e : TypeId) (h : Heap) : Option (Value × Heap) := match z with
  | some cs => some (.pointer (some ⟨h.next, 0, none⟩), h.add (O cs e false))
  | none => none
def bxE (e : TypeId) (v : Value) (h : Heap) : Option (Value × Heap) := if foneL h.next v.cells.toList = true then some (.pointer (some ⟨h.next, 0, none⟩), h.add (O v.cells.toList e false)) else none
/-- of a slice's type: its elements' type, their cells, zero -/
def slT (P : Program) (t : TypeId) : Option (TypeId × Nat × List Value) := match P.underlying t with
  | some (.slice e) => match P.info? e with
    | some i => match i.zero with
      | some z => match Nat.beq z.cells.size i.size && Nat.blt 0 i.size && flatL z.cells.toList && foneL 0 z.cells.toList with
        | true => some (e, i.size, z.cells.toList)
        | false => none
      | none => none
    | none => none
  | _ => none
def bsE (z : Option (TypeId × Nat × List Value)) (len : Nat) (parts : List (Nat × Value)) (h : Heap) : Option (Value × Heap) := match z with
  | some (e, n, zs) => if len * n ≤ 16777216 then
      match fillP ((List.range len).map (fun i => (i * n, n))) (List.replicate len zs).flatten parts with
      | some cs => if foneL h.next cs = true then some (.slice (some ⟨h.next, 0, none⟩) len len, h.add (O cs e false)) else none
      | none => none
    else none
  | none => none
def stE (n : Option Nat) (a v : Value) (h : Heap) : Option (Value × Heap) := match n, a with
  | some n, .pointer (some ⟨b, off, none⟩) => match cells h b with
    | some (cs, e, m) => if v.cells.toList.length = n ∧ foneL h.next v.cells.toList = true ∧ h.lo ≤ b ∧ off + n ≤ cs.length then some (undef, h.put b (O (setFrom cs off v.cells.toList) e m)) else none
    | none => none
  | _, _ => none
/-- of a slice's type, with its elements' bytes -/
def mkT (P : Program) (t : TypeId) : Option (TypeId × Nat × Nat × List Value) := match P.underlying t with
  | some (.slice e) => match P.info? e with
    | some i => match i.zero with
      | some z => match Nat.beq z.cells.size i.size && Nat.blt 0 i.size && flatL z.cells.toList && foneL 0 z.cells.toList with
        | true => some (e, i.size, i.bytes, z.cells.toList)
        | false => none
      | none => none
    | none => none
  | _ => none
def msE (z : Option (TypeId × Nat × Nat × List Value)) (l c : Value) (h : Heap) : Option (Value × Heap) := match z, l, c with
  | some (e, _, by_, zs), .int _ l, .int _ c => if 0 ≤ l ∧ l ≤ c ∧ c * by_ + c < 100000000000000 then
      some (.slice (some ⟨h.next, 0, none⟩) l.toNat c.toNat, h.add (O (List.replicate c.toNat zs).flatten e false)) else none
  | _, _, _ => none

def te (P : Program) (o : Op) (t : TypeId) (tm : VT) (h : Heap) : Option (Value × Heap) := match o with
  | .alloc e => alE (zro P e) e h
  | .box e x => bxE e (ev tm x) h
  | .buildSlice ty len parts => bsE (slT P ty) len (parts.toList.map fun x => (x.1, ev tm x.2)) h
  | .store ty a x => stE (szT P ty) (ev tm a) (ev tm x) h
  | .makeSlice ty l c => msE (mkT P ty) (ev tm l) (ev tm c) h
  | .call ⟨.builtin .append, ⟨[s, x]⟩, ⟨[sT, xT]⟩⟩ => evAppend P sT xT (ev tm s) (ev tm x) h
  | o => evEff P (bare o t) tm h

theorem foneL_flat_rep {zs : List Value} (n : Nat) (hz : foneL 0 zs = true) (m : Nat) : foneL m (List.replicate n zs).flatten = true := by
  have h := foneL_mono (Nat.zero_le m) hz
  simp only [foneL_eq, Bool.and_eq_true, List.all_eq_true] at h ⊢
  have hall : ∀ v ∈ (List.replicate n zs).flatten, v ∈ zs := fun v hv => by
    simp only [List.mem_flatten] at hv
    obtain ⟨l, hl, hv⟩ := hv
    rw [(List.mem_replicate.1 hl).2] at hv
    exact hv
  exact ⟨fun v hv => h.1 v (hall v hv), scL_of_all fun v hv => scL_all h.2 v (hall v hv)⟩

theorem te_sound {P : Program} {o : Op} {t : TypeId} {tm : VT} {h h' : Heap} {v : Value} (he : te P o t tm h = some (v, h')) : evEff P (bare o t) tm h = some (v, h') := by
  unfold te at he
  split at he
  · rename_i e
    unfold alE zro at he
    simp only [bare, evEff]
    cases hz : zeroOf P e with
    | none => rw [hz] at he; cases he
    | some z =>
      rw [hz] at he
      dsimp only at he ⊢
      cases hf : flat z with
      | false => rw [hf] at he; cases he
      | true =>
        rw [hf] at he
        dsimp only at he ⊢
        cases ho : foneL 0 z.cells.toList with
        | false => rw [ho] at he; cases he
        | true =>
          rw [ho] at he
          cases he
          rw [mkRow_eq (foneL_mono (Nat.zero_le _) ho)]
  · rename_i e x
    unfold bxE at he
    split at he <;> cases he
    rename_i ho
    simp only [bare, evEff, mkRow_eq ho]
  · rename_i ty len parts
    unfold bsE slT at he
    simp only [bare, evEff]
    cases hu : P.underlying ty with
    | none => rw [hu] at he; cases he
    | some d =>
      rw [hu] at he
      cases d with
      | slice e =>
        dsimp only at he ⊢
        cases hi : P.info? e with
        | none => rw [hi] at he; cases he
        | some i =>
          rw [hi] at he
          dsimp only at he ⊢
          cases hz : i.zero with
          | none => rw [hz] at he; cases he
          | some z =>
            rw [hz] at he
            dsimp only at he ⊢
            cases hb : Nat.beq z.cells.size i.size && Nat.blt 0 i.size && flatL z.cells.toList && foneL 0 z.cells.toList with
            | false => rw [hb] at he; cases he
            | true =>
              rw [hb] at he
              dsimp only at he
              simp only [Bool.and_eq_true] at hb
              split at he
              · rename_i hle
                split at he
                · rename_i cs hc
                  split at he <;> cases he
                  rename_i ho
                  have hle' : Nat.ble (len * i.size) 16777216 = true := by simpa using hle
                  have hb' : (Nat.beq z.cells.size i.size && Nat.blt 0 i.size && flatL z.cells.toList) = true := by simp only [Bool.and_eq_true]; exact hb.1
                  rw [hle']
                  simp only [hb']
                  rw [show (parts.toList.map fun (x : Nat × Operand) => (x.1, ev tm x.2)) = (parts.toList.map fun (j, x) => (j, ev tm x)) from rfl] at hc
                  rw [fillP_eq (place := fun j => some (j * i.size, i.size)) (fun j x hx => by
                    rw [List.getElem?_map] at hx
                    cases hr : (List.range len)[j]? with
                    | none => rw [hr] at hx; cases hx
                    | some k =>
                      rw [hr] at hx
                      obtain ⟨_, hj⟩ := List.getElem?_eq_some_iff.1 hr
                      simp at hj
                      subst hj
                      simpa using hx) _ _ _ hc]
                  simp only [mkRow_eq ho]
                · cases he
              · cases he
      | _ => cases he
  · rename_i ty a x
    unfold stE at he
    simp only [bare, evEff, evStore]
    split at he
    · rename_i n b off hn ha
      rw [ha]
      dsimp only
      split at he
      · rename_i cs e m hc
        split at he <;> cases he
        rename_i hcond
        obtain ⟨h1, h2, h3, h4⟩ := hcond
        rw [hc]
        simp only [hn]
        have hb : (Nat.beq (ev tm x).cells.size n && foneL h.next (ev tm x).cells.toList && Nat.ble h.lo b) = true := by
          simp only [Bool.and_eq_true, Nat.beq_eq, Nat.ble_eq]
          exact ⟨⟨by simpa using h1, h2⟩, h3⟩
        rw [hb]
        have hs := setE_some off (ev tm x).cells.toList cs (by omega)
        simp only [setN, hs]
        rfl
      · cases he
    · cases he
  · rename_i ty l c
    unfold msE mkT at he
    simp only [bare, evEff, evMake]
    cases hu : P.underlying ty with
    | none => rw [hu] at he; cases he
    | some d =>
      rw [hu] at he
      cases d with
      | slice e =>
        dsimp only at he ⊢
        cases hi : P.info? e with
        | none => rw [hi] at he; cases he
        | some i =>
          rw [hi] at he
          dsimp only at he
          cases hz : i.zero with
          | none => rw [hz] at he; cases he
          | some z =>
            rw [hz] at he
            dsimp only at he
            cases hb : Nat.beq z.cells.size i.size && Nat.blt 0 i.size && flatL z.cells.toList && foneL 0 z.cells.toList with
            | false => rw [hb] at he; cases he
            | true =>
              rw [hb] at he
              dsimp only at he
              simp only [Bool.and_eq_true] at hb
              split at he
              · rename_i h1 h2 h3
                cases h1
                split at he <;> cases he
                rename_i hc
                obtain ⟨hl, hlc, hlim⟩ := hc
                obtain ⟨l', rfl⟩ := Int.eq_ofNat_of_zero_le hl
                obtain ⟨c', rfl⟩ := Int.eq_ofNat_of_zero_le (Int.le_trans hl hlc)
                rw [h2, h3]
                have hb' : (Nat.beq z.cells.size i.size && Nat.blt 0 i.size && flatL z.cells.toList) = true := by simp only [Bool.and_eq_true]; exact hb.1
                have hc' : (Nat.ble l' c' && Nat.blt (c' * i.bytes + c') U) = true := by
                  simp only [Bool.and_eq_true, Nat.ble_eq, Nat.blt_eq]
                  refine ⟨by omega, ?_⟩
                  have : ((c' * i.bytes + c' : Nat) : Int) < 100000000000000 := by rw [Int.natCast_add, Int.natCast_mul]; exact hlim
                  unfold U
                  omega
                show (match P.info? e with
                  | some i => match Nat.ble l' c' && Nat.blt (c' * i.bytes + c') U, i.zero with
                    | true, some z => match Nat.beq z.cells.size i.size && Nat.blt 0 i.size && flatL z.cells.toList with
                      | true => match mkRow h e (List.replicate c' z.cells.toList).flatten false with
                        | some (b, h') => some (Value.slice (some ⟨b, 0, none⟩) l' c', h')
                        | none => none
                      | false => none
                    | _, _ => none
                  | none => none) = _
                rw [hi]
                simp only [hc', hz, hb', mkRow_eq (foneL_flat_rep c' hb.2 h.next), Int.toNat_natCast]
              · cases he
      | _ => cases he
  · exact he
  · exact he
end
end Go.Ev

namespace Go.Ev
open Go Go.RowKit
noncomputable section

/-! ### A code's text, without what does not matter -/
inductive Cl where | take | eff | call

structure It where
  d : Option Nat
  g : Option (Nat × Bool)
  c : Cl
  o : Op
  t : TypeId

inductive PT where
  | fin
  | no
  | bad
  | take (i : Nat) (rd : Bool) (x : It) (k : PT)
  | eff (i : Nat) (x : It) (bind : List Nat) (k alt : PT)

inductive IR where
  | bad
  | skip
  | ret
  | exit (i : Nat)
  | goto (l : Nat)
  | label (l : Nat)
  | ops (l : List It)
  | plan (p : PT)
  | seq (a b : IR)
  | cond (x : Operand) (a b : IR)
  | block (i : Nat) (b : IR)
  | loop (b : IR)
  | scope (b : Code)
  | range (g : Operand) (ps : Array Tmp) (a b : Code)

def clOf (P : Program) (o : Oper) : Cl :=
  match o.op with
  | .call ⟨.value _, _, _⟩ => .call
  | _ => match isEff P o with | true => .eff | false => .take
def isRd (o : Op) : Bool :=
  match o with
  | .load _ _ => true
  | .slice _ _ _ _ _ => true
  | .convert _ _ _ => true
  | _ => false

def It.of (P : Program) (ops : Array Oper) (o : Oper) : Option It :=
  match o.guard with
  | none => some ⟨o.dst, none, clOf P o, o.op, o.type⟩
  | some (j, w) => match ops[j]? with
    | some oj => match oj.dst with
      | some d => some ⟨o.dst, some (d, w), clOf P o, o.op, o.type⟩
      | none => none
    | none => none

def itemsOf (P : Program) (ops : Array Oper) : List Oper → Option (List It)
  | [] => some []
  | o :: l => match It.of P ops o, itemsOf P ops l with
    | some x, some l => some (x :: l)
    | _, _ => none

def bindOf (o : Oper) : List Nat := (o.after.toList.filter (Region.binds .any)).map (·.on)

def mkPT (P : Program) (ops : Array Oper) : Nat → Array Bool → PT
  | 0, listed => match Region.ready .any ops listed with | [] => .fin | _ => .bad
  | n + 1, listed => match Region.ready .any ops listed with
    | [] => .fin
    | r :: rs => match firstFree P ops listed (r :: rs) with
      | some (i, o) => match It.of P ops o with
        | some x => .take i (isRd o.op) x (mkPT P ops n (listed.setIfInBounds i true))
        | none => .bad
      | none => (r :: rs).foldr (fun r alt => match ops[r]? with
        | some o => match It.of P ops o with
          | some x => .eff r x (bindOf o) (mkPT P ops n (listed.setIfInBounds r true)) alt
          | none => .bad
        | none => .bad) .no

def comp (P : Program) : Code → IR
  | .skip => .skip
  | .region _ ops d => match d with
    | false => match itemsOf P ops ops.toList with
      | some l => .ops l
      | none => .bad
    | true => .plan (mkPT P ops ops.size (Array.replicate ops.size false))
  | .seq a b => .seq (comp P a) (comp P b)
  | .cond x a b => .cond x (comp P a) (comp P b)
  | .block i b => .block i (comp P b)
  | .loop b => .loop (comp P b)
  | .rangeFunc g ps a b => .range g ps a b
  | .exit i => .exit i
  | .scope b => .scope b
  | .label l => .label l
  | .goto l => .goto l
  | .ret => .ret
  | .refuse _ => .bad

/-- the codes within a code that are kept as they are: ranges over functions, scopes -/
def subs : Code → List Code
  | .seq a b => subs a ++ subs b
  | .cond _ a b => subs a ++ subs b
  | .block _ b => subs b
  | .loop b => subs b
  | .rangeFunc _ _ a b => a :: b :: (subs a ++ subs b)
  | .scope b => b :: subs b
  | _ => []
def subC (P : Program) (f k : Nat) : Code :=
  match P.funcs[f]? with
  | some fn => match fn.body with
    | some c => ((subs c)[k]?).getD .skip
    | none => .skip
  | none => .skip

structure FIR where
  n : Nat
  a : Nat
  rs : List ResultVar
  ir : IR
def fir (P : Program) (g : Nat) : Option FIR :=
  match P.funcs[g]? with
  | some fn => match fn.body with
    | some c => some ⟨fn.ntmps, fn.params.size + fn.nfree, fn.results.toList, comp P c⟩
    | none => none
  | none => none

/-! ### What is asked -/
def oP (r : Option Value) (h : Heap) (k : Value → Heap → Prop) : Prop := match r with | some v => k v h | none => False
def oE (r : Option (Value × Heap)) (k : Value → Heap → Prop) : Prop := match r with | some (v, h) => k v h | none => False
def oT (r : Option Value) (r2 : Option (Value × Value)) (h : Heap) (k : Value → Heap → Prop) : Prop := match r with
  | some v => k v h
  | none => match r2 with
    | some (a, b) => k a h ∧ k b h
    | none => False
def gV (v : Value) (w : Bool) (A B : Prop) : Prop := match v with | .bool b => (b = w → A) ∧ (b ≠ w → B) | _ => B
def vgd (tm : VT) (g : Option (Nat × Bool)) (A B : Prop) : Prop := match g with | none => A | some (d, w) => gV (tm.get d) w A B
def vop (p : Par) (c : Cl) (o : Op) (t : TypeId) (tm : VT) (h : Heap) (k : Value → Heap → Prop) : Prop :=
  match c with
  | .take => oT (tv p.P o t tm h) (tw p.P o tm h) h k
  | .eff => oE (te p.P o t tm h) k
  | .call => match o with
    | .call ⟨.value f, args, _⟩ => CallV p (ev tm f) (args.toList.map (ev tm)) h k
    | _ => False

def vops (p : Par) : List It → VT → Heap → (VT → Heap → Prop) → Prop
  | [], tm, h, K => K tm h
  | x :: l, tm, h, K => vgd tm x.g (vop p x.c x.o x.t tm h fun v h' => vops p l (put tm x.d v) h' K) (vops p l (put tm x.d undef) h K)

abbrev HL := List (Nat × (Heap → Option Value) × Value)
def keptP (bind : List Nat) (h : Heap) : HL → Prop
  | [] => True
  | (i, rd, v) :: L => (match bind.contains i with | true => True | false => rd h = some v) ∧ keptP bind h L

def vplan (p : Par) : PT → HL → VT → Heap → (VT → Heap → Prop) → Prop
  | .fin, _, tm, h, K => K tm h
  | .no, _, _, _, _ => True
  | .bad, _, _, _, _ => False
  | .take i rd x k, L, tm, h, K => vgd tm x.g
      (match rd with
        | false => oP (tp p.P x.o x.t tm) h fun v _ => vplan p k L (put tm x.d v) h K
        | true => match tv p.P x.o x.t tm h with
          | some v => vplan p k ((i, fun h' => tv p.P x.o x.t tm h', v) :: L) (put tm x.d v) h K
          | none => match tw p.P x.o tm h with
            | some (a, b) => vplan p k ((i, fun h' => (tw p.P x.o tm h').map (·.1), a) :: L) (put tm x.d a) h K ∧ vplan p k ((i, fun h' => (tw p.P x.o tm h').map (·.2), b) :: L) (put tm x.d b) h K
            | none => False)
      (vplan p k L (put tm x.d undef) h K)
  | .eff _ x bind k alt, L, tm, h, K => vgd tm x.g (vop p x.c x.o x.t tm h fun v h' => keptP bind h' L ∧ vplan p k L (put tm x.d v) h' K) (vplan p k L (put tm x.d undef) h K) ∧ vplan p alt L tm h K

def vcond (v : Value) (A B : Prop) : Prop := match v with | .bool b => (b = true → A) ∧ (b = false → B) | _ => False

/-- The same of a text. -/
def W (p : Par) (ro : Option Nat) (ir : IR) (s : S) (R : XExit → S → Prop) : Prop := ∀ c, comp p.P c = ir → WP p ro c s R

def vc (p : Par) (ro : Option Nat) : IR → S → (XExit → S → Prop) → Prop
  | .bad, _, _ => False
  | .skip, s, R => R .normal s
  | .ret, s, R => R .ret s
  | .exit i, s, R => R (.exit i) s
  | .goto l, s, R => R (.goto l) s
  | .label _, s, R => R .normal s
  | .ops l, s, R => vops p l s.tm s.h fun tm h => R .normal ⟨tm, s.df, h⟩
  | .plan t, s, R => vplan p t [] s.tm s.h fun tm h => R .normal ⟨tm, s.df, h⟩
  | .seq a b, s, R => vc p ro a s (thenR (fun s1 => vc p ro b s1 R) R)
  | .cond x a b, s, R => vcond (ev s.tm x) (vc p ro a s R) (vc p ro b s R)
  | .block i b, s, R => vc p ro b s (outR i R)
  | .loop b, s, R => W p ro (.loop b) s R
  | .scope b, s, R => WPin p ro b b s R
  | .range g ps a b, s, R => W p ro (.range g ps a b) s R

/-! ### It is enough -/
theorem gV_spec {v : Value} {w : Bool} {A B : Prop} (h : gV v w A B) : (v = .bool w ∧ A) ∨ (v ≠ .bool w ∧ B) := by
  unfold gV at h
  split at h
  · rename_i b
    by_cases e : b = w
    · exact .inl ⟨by rw [e], h.1 e⟩
    · exact .inr ⟨fun e2 => e (by cases e2; rfl), h.2 e⟩
  · rename_i hne
    exact .inr ⟨fun e => hne _ e, h⟩

theorem vgd_spec {P : Program} {ops : Array Oper} {o : Oper} {x : It} {tm : VT} {A B : Prop} (hx : It.of P ops o = some x) (h : vgd tm x.g A B) :
    (wanted ops.toList tm o = some true ∧ A) ∨ (wanted ops.toList tm o = some false ∧ B) := by
  unfold It.of at hx
  split at hx
  · rename_i hg
    cases hx
    exact .inl ⟨by simp [wanted, hg], h⟩
  · rename_i j w hg
    split at hx
    · rename_i oj hj
      split at hx <;> cases hx
      rename_i d hd
      have hj' : ops.toList[j]? = some oj := by rw [Array.getElem?_toList]; exact hj
      have hy : yl ops.toList tm j = match tm.get d with | .bool b => some b | _ => none := by
        simp only [yl, hj', hd]
        rfl
      rcases gV_spec h with ⟨he, ha⟩ | ⟨hne, hb⟩
      · refine .inl ⟨?_, ha⟩
        simp only [wanted, hg, hy, he]
        cases w <;> rfl
      · refine .inr ⟨?_, hb⟩
        simp only [wanted, hg, hy]
        cases hv : tm.get d with
        | bool b => rw [hv] at hne; cases b <;> cases w <;> simp_all
        | _ => rfl
    · cases hx

theorem It.of_eq {P : Program} {ops : Array Oper} {o : Oper} {x : It} (hx : It.of P ops o = some x) : x.d = o.dst ∧ x.c = clOf P o ∧ x.o = o.op ∧ x.t = o.type := by
  unfold It.of at hx
  split at hx
  · cases hx; exact ⟨rfl, rfl, rfl, rfl⟩
  · split at hx
    · split at hx <;> cases hx; exact ⟨rfl, rfl, rfl, rfl⟩
    · cases hx

theorem evPure_bare (P : Program) (o : Oper) (tm : VT) : evPure P (bare o.op o.type) tm = evPure P o tm := rfl
theorem evRead_bare (P : Program) (o : Oper) (tm : VT) (h : Heap) : evRead P (bare o.op o.type) tm h = evRead P o tm h := rfl
theorem evEff_bare (P : Program) (o : Oper) (tm : VT) (h : Heap) : evEff P (bare o.op o.type) tm h = evEff P o tm h := rfl

theorem tv_run {p : Par} {Γ : Gam} {tm : VT} {h : Heap} {ca : Act} {w : World} (hr : HRel p Γ h w) (ht : Tm Γ p.NG tm ca) (hsc : ∀ x ∈ tm.arr.toList, sc h.next x = true) {o : Oper}
    (hop : o.op.operands.all (okOpd p.NG) = true) {v : Value} (he : tv p.P o.op o.type tm h = some v) : (execOp ca.eval o).run p.P w = .ok (.value (con Γ v)) w ∧ sc h.next v = true := by
  rcases tv_sound he with he | he
  · rw [evPure_bare] at he
    exact ⟨evPure_run ht hop he w, evPure_sc hr hsc hop he⟩
  · rw [evRead_bare] at he
    exact ⟨evRead_run hr ht hop he, evRead_sc hr hsc hop he⟩

theorem tw_run {p : Par} {Γ : Gam} {tm : VT} {h : Heap} {ca : Act} {w : World} (hr : HRel p Γ h w) (ht : Tm Γ p.NG tm ca) (hsc : ∀ x ∈ tm.arr.toList, sc h.next x = true) {o : Oper}
    (hop : o.op.operands.all (okOpd p.NG) = true) {v1 v2 : Value} (he : tw p.P o.op tm h = some (v1, v2)) :
    ∃ b : Bool, (∀ Γ' h' w', Ag Γ Γ' h.next → h.next ≤ h'.next → HRel p Γ' h' w' → tw p.P o.op tm h' = some (v1, v2) → (execOp ca.eval o).run p.P w' = .ok (.value (con Γ' (if b then v1 else v2))) w') ∧ sc h.next v1 = true ∧ sc h.next v2 = true := by
  have hng : p.NG ≤ h.next := by have := hr.ng; have := hr.gn; omega
  unfold tw at he
  split at he
  · rename_i ty x lo hi mx ho
    have hscv : sc h.next (ev tm x) = true := ev_sc hr hsc (by
      rw [Array.all_eq_true_iff_forall_mem] at hop; exact hop x (by simp [ho, Op.operands]))
    obtain ⟨b, hb⟩ := tailV_run hr he
    refine ⟨b, fun Γ' h' w' hag hle hr' he' => ?_, tailV_sc hscv he⟩
    have ht' := ht.ag hsc hag hng
    have hev : ∀ x ∈ o.op.operands, ca.eval x = con Γ' (ev tm x) := fun x hx => ht'.eval (by
      rw [Array.all_eq_true_iff_forall_mem] at hop; exact hop x hx)
    have hx := hev x (by simp [ho, Op.operands])
    have hlo : lo.map ca.eval = (lo.map (ev tm)).map (con Γ') := by
      cases lo with
      | none => rfl
      | some y => simp [hev y (by simp [ho, Op.operands])]
    have hhi : hi.map ca.eval = (hi.map (ev tm)).map (con Γ') := by
      cases hi with
      | none => rfl
      | some y => simp [hev y (by simp [ho, Op.operands])]
    have hmx : mx.map ca.eval = (mx.map (ev tm)).map (con Γ') := by
      cases mx with
      | none => rfl
      | some y => simp [hev y (by simp [ho, Op.operands])]
    have he2 : tailV p.P ty (ev tm x) (lo.map (ev tm)) (hi.map (ev tm)) (mx.map (ev tm)) h' = some (v1, v2) := by rw [ho] at he'; exact he'
    have := hb Γ' h' w' hag hr' he2
    simp only [execOp, ho, hx, hlo, hhi, hmx, Sem.run_bind, this, Result.andThen_ok, Sem.run_pure]
  · cases he

/-- An operation. -/
theorem vop_run {p : Par} {Γ : Gam} {tm : VT} {h : Heap} {ca : Act} {w : World} (hr : HRel p Γ h w) (ht : Tm Γ p.NG tm ca) (hsc : ∀ x ∈ tm.arr.toList, sc h.next x = true) {o : Oper} (hoo : okOper p.NG o = true)
    {c : Cl} {R : Value → Heap → Prop} (hv : vop p c o.op o.type tm h R) {F : Fence} (hF : FW F) {n : Nat} {K : Act → World → Prop} {Q : Exit → Act → World → Prop}
    (hK : ∀ (v : Value) (h' : Heap) (Γ' : Gam) (w' : World), R v h' → Ag Γ Γ' h.next → h.next ≤ h'.next → Below p.B w w' → HRel p Γ' h' w' → sc h'.next v = true → K (ca.put o.dst (con Γ' v)) w') :
    o.uponIn F n p.P ca K Q ((execOp ca.eval o).run p.P w) := by
  have hop : o.op.operands.all (okOpd p.NG) = true := by simp only [okOper, Bool.and_eq_true] at hoo; exact hoo.1
  unfold vop at hv
  split at hv
  · unfold oT at hv
    split at hv
    · rename_i v he
      obtain ⟨hrun, hs⟩ := tv_run hr ht hsc hop he
      rw [hrun]
      exact hK v h Γ w hv (Ag.refl _ _) (Nat.le_refl _) (Below.refl _ _) hr hs
    · split at hv
      · rename_i v1 v2 he
        obtain ⟨b, hrun, hs1, hs2⟩ := tw_run hr ht hsc hop he
        have hrun := hrun Γ h w (Ag.refl _ _) (Nat.le_refl _) hr he
        rw [hrun]
        cases b with
        | true => exact hK v1 h Γ w hv.1 (Ag.refl _ _) (Nat.le_refl _) (Below.refl _ _) hr hs1
        | false => exact hK v2 h Γ w hv.2 (Ag.refl _ _) (Nat.le_refl _) (Below.refl _ _) hr hs2
      · exact hv.elim
  · unfold oE at hv
    split at hv
    · rename_i v h' he
      have he' : evEff p.P o tm h = some (v, h') := te_sound he
      have hs := evEff_sc hr hsc hop he'
      obtain ⟨Γ', w', nx, h1, h2, h3, h4, h5, h6⟩ := evEff_run hr ht hop he'
      rw [h1]
      rcases h2 with rfl | ⟨rfl, rfl⟩
      · exact hK v h' Γ' w' hv h3 h4 h6.below h5 hs
      · exact hK undef h' Γ' w' hv h3 h4 h6.below h5 hs
    · exact hv.elim
  · split at hv
    · rename_i f args ats ho
      have hev : ∀ x ∈ o.op.operands, ca.eval x = con Γ (ev tm x) := fun x hx => ht.eval (by
        rw [Array.all_eq_true_iff_forall_mem] at hop; exact hop x hx)
      have hscv : ∀ x ∈ o.op.operands, sc h.next (ev tm x) = true := fun x hx => ev_sc hr hsc (by
        rw [Array.all_eq_true_iff_forall_mem] at hop; exact hop x hx)
      have hf := hev f (by simp [ho, Op.operands, Call.operands])
      have hargs : args.map ca.eval = ⟨(args.toList.map (ev tm)).map (con Γ)⟩ := by
        apply Array.ext'
        simp only [Array.toList_map, List.map_map]
        apply List.map_congr_left
        intro y hy
        exact hev y (by simp [ho, Op.operands, Call.operands]; exact .inr (by simpa using hy))
      unfold CallV at hv
      split at hv
      · rename_i g captured hfe
        have hrun : (execOp ca.eval o).run p.P w = (callFunc g ⟨(args.toList.map (ev tm) ++ captured).map (con Γ)⟩).run p.P w := by
          simp only [execOp, ho, resolve, hf, hfe, con_func, conFn, Deferred.ofValue, Sem.run_bind, Sem.run_pure, Result.andThen_ok, invoke, hargs]
          simp
        rw [hrun]
        refine hv Γ w hr ?_ o F hF n ca K Q hK
        intro x hx
        simp only [List.mem_append, List.mem_map] at hx
        rcases hx with ⟨y, hy, rfl⟩ | hx
        · exact hscv y (by simp [ho, Op.operands, Call.operands]; exact .inr (by simpa using hy))
        · have := hscv f (by simp [ho, Op.operands, Call.operands])
          rw [hfe] at this
          simp only [sc, Bool.and_eq_true] at this
          exact scL_all this.2 x hx
      · rename_i l captured hfe
        have hrun : (execOp ca.eval o).run p.P w = (Instr.yield (Γ.b l) ⟨(args.toList.map (ev tm)).map (con Γ)⟩).run p.P w := by
          simp only [execOp, ho, resolve, hf, hfe, con_func, conFn, Deferred.ofValue, Sem.run_bind, Sem.run_pure, Result.andThen_ok, invoke, hargs]
          simp
        rw [hrun]
        refine hv Γ w hr ?_ o F hF n ca K Q hK
        intro x hx
        simp only [List.mem_map] at hx
        obtain ⟨y, hy, rfl⟩ := hx
        exact hscv y (by simp [ho, Op.operands, Call.operands]; exact .inr (by simpa using hy))
      · exact hv.elim
    · exact hv.elim

/-- Where a list of operations leads. -/
structure NextK (p : Par) (Γ : Gam) (h : Heap) (w : World) (df : List Deferred) (K : VT → Heap → Prop) (Q : Act → World → Prop) : Prop where
  go : ∀ tm' h' Γ' ca' w', K tm' h' → Ag Γ Γ' h.next → h.next ≤ h'.next → Below p.B w w' → HRel p Γ' h' w' → Tm Γ' p.NG tm' ca' → (∀ x ∈ tm'.arr.toList, sc h'.next x = true) → ca'.defers = df → Q ca' w'

theorem NextK.step {p : Par} {Γ Γ' : Gam} {h h1 : Heap} {w w' : World} {df : List Deferred} {K : VT → Heap → Prop} {Q : Act → World → Prop} (hn : NextK p Γ h w df K Q)
    (hg : Ag Γ Γ' h.next) (hle : h.next ≤ h1.next) (hb : Below p.B w w') : NextK p Γ' h1 w' df K Q :=
  ⟨fun tm' h' Γ'' ca' w'' hk hg' hle' hb' hr' ht' hs' hd' => hn.go tm' h' Γ'' ca' w'' hk (hg.trans hg' hle) (by omega) (hb.trans hb') hr' ht' hs' hd'⟩

theorem vops_run {p : Par} {ops : Array Oper} (hops : ∀ o ∈ ops.toList, okOper p.NG o = true) {F : Fence} (hF : FW F) {n : Nat} {Q : Exit → Act → World → Prop} {df : List Deferred} {K : VT → Heap → Prop} :
    ∀ (l : List Oper) (k : Nat) (xs : List It) (tm : VT) (h : Heap), ops.toList.drop k = l → itemsOf p.P ops l = some xs → vops p xs tm h K →
    ∀ (Γ : Gam) (ca : Act) (w : World), HRel p Γ h w → Tm Γ p.NG tm ca → (∀ x ∈ tm.arr.toList, sc h.next x = true) → ca.defers = df → NextK p Γ h w df K (fun a w => Q .normal a w) →
    wpOpsIn F n p.P ops Q (List.range' k l.length) ca w := by
  intro l
  induction l with
  | nil =>
    intro k xs tm h _ hxs he Γ ca w hr ht hs hd hn
    cases hxs
    simp only [List.length_nil, List.range'_zero, wpOpsIn]
    exact hn.go tm h Γ ca w he (Ag.refl _ _) (Nat.le_refl _) (Below.refl _ _) hr ht hs hd
  | cons o rest ih =>
    intro k xs tm h hl hxs he Γ ca w hr ht hs hd hn
    have hk : ops[k]? = some o := by
      rw [← Array.getElem?_toList]
      have : (ops.toList.drop k)[0]? = some o := by rw [hl]; rfl
      simpa using this
    have hrest : ops.toList.drop (k + 1) = rest := by
      have : (ops.toList.drop k).drop 1 = rest := by rw [hl]; rfl
      simpa [List.drop_drop, Nat.add_comm] using this
    have hoo : okOper p.NG o = true := hops o (by rw [← Array.getElem?_toList] at hk; exact List.mem_of_getElem? hk)
    have hpl := okOper_plain hoo
    simp only [itemsOf] at hxs
    split at hxs <;> cases hxs
    rename_i x xs hx hxs
    obtain ⟨e1, e2, e3, e4⟩ := It.of_eq hx
    simp only [vops] at he
    simp only [List.length_cons, List.range'_succ, wpOpsIn, hk]
    have hw := wanted_eq ht ops o
    have hng : p.NG ≤ h.next := by have := hr.ng; have := hr.gn; omega
    rcases vgd_spec hx he with ⟨hwt, he⟩ | ⟨hwt, he⟩
    · rw [hwt] at hw
      simp only [Option.getD_some] at hw
      simp only [hw, if_true]
      refine ⟨fun f _ => hF.fn f, ?_⟩
      rw [Oper.semAt_eq _ _ _ hpl.1]
      rw [e3, e4] at he
      refine vop_run hr ht hs hoo he hF fun v h1 Γ' w' hv hg hle hbel hr' hsv => ?_
      rw [e1] at hv
      exact ih (k + 1) xs _ h1 hrest hxs hv Γ' _ w' hr' (ht.put hs hg hng o.dst v) (sc_put ht.sm hs hle o.dst hsv) (by rw [put_defers]; exact hd) (hn.step hg hle hbel)
    · rw [hwt] at hw
      simp only [Option.getD_some] at hw
      simp only [hw, Bool.false_eq_true, if_false]
      refine ⟨fun f _ => hF.fn f, ?_⟩
      have := ht.put hs (Ag.refl Γ h.next) hng o.dst undef
      rw [con_undef] at this
      rw [e1] at he
      exact ih (k + 1) xs _ h hrest hxs he Γ _ w hr this (sc_put ht.sm hs (Nat.le_refl _) o.dst rfl) (by rw [put_defers]; exact hd) hn

/-- The readings that were taken. -/
def HeldV (p : Par) (Γ : Gam) (n : Nat) : HL → List (Nat × Sem Go.Next × Value) → Prop
  | [], [] => True
  | (i, rd, v) :: L, (j, s, u) :: Lc => (i = j ∧ ∀ Γ' h' w', Ag Γ Γ' n → n ≤ h'.next → HRel p Γ' h' w' → rd h' = some v → s.run p.P w' = .ok (.value u) w') ∧ HeldV p Γ n L Lc
  | _, _ => False

theorem HeldV.ag {p : Par} {Γ Γ' : Gam} {n m : Nat} (hg : Ag Γ Γ' n) (hn : n ≤ m) : ∀ {L : HL} {Lc : List (Nat × Sem Go.Next × Value)}, HeldV p Γ n L Lc → HeldV p Γ' m L Lc
  | [], [], _ => trivial
  | [], _ :: _, h => h.elim
  | _ :: _, [], h => by simp [HeldV] at h
  | (i, rd, v) :: L, (j, s, u) :: Lc, h => ⟨⟨h.1.1, fun Γ'' h' w' hg' hle' hr' he => h.1.2 Γ'' h' w' (hg.trans hg' hn) (by omega) hr' he⟩, h.2.ag hg hn⟩

theorem bindOf_mem {o : Oper} {i : Nat} : (bindOf o).contains i = true ↔ ∃ e ∈ o.after, Region.binds .any e = true ∧ e.on = i := by
  simp only [bindOf, List.contains_iff_mem, List.mem_map, List.mem_filter]
  constructor
  · rintro ⟨e, ⟨h1, h2⟩, h3⟩; exact ⟨e, by simpa using h1, h2, h3⟩
  · rintro ⟨e, h1, h2, h3⟩; exact ⟨e, ⟨by simpa using h1, h2⟩, h3⟩

theorem keptP_run {p : Par} {Γ : Gam} {h : Heap} {w : World} {n : Nat} (hr : HRel p Γ h w) (hn : n ≤ h.next) {ops : Array Oper} {j : Nat} {o : Oper} (hj : ops[j]? = some o) :
    ∀ {L : HL} {Lc : List (Nat × Sem Go.Next × Value)}, HeldV p Γ n L Lc → keptP (bindOf o) h L → HeldC p.P ops Lc j w
  | [], [], _, _ => fun x hx => by cases hx
  | [], _ :: _, h, _ => h.elim
  | _ :: _, [], h, _ => by simp [HeldV] at h
  | (i, rd, v) :: L, (i', s, u) :: Lc, hh, hk => by
    obtain ⟨⟨h0, h1⟩, h7⟩ := hh
    subst h0
    simp only [keptP] at hk
    intro x hx hno
    cases hx with
    | tail _ hx => exact keptP_run hr hn hj h7 hk.2 x hx hno
    | head =>
      cases hc : (bindOf o).contains i with
      | true =>
        obtain ⟨e, he, hb, hon⟩ := bindOf_mem.1 hc
        exact absurd hon (hno o hj e he hb)
      | false =>
        have h2 := hk.1
        rw [hc] at h2
        exact h1 Γ h w (Ag.refl _ _) hn hr h2

theorem foldr_eff {P : Program} {ops : Array Oper} {m : Nat → PT} {p : Par} {L : HL} {tm : VT} {h : Heap} {K : VT → Heap → Prop} : ∀ (l : List Nat),
    vplan p (l.foldr (fun r alt => match ops[r]? with
        | some o => match It.of P ops o with
          | some x => .eff r x (bindOf o) (m r) alt
          | none => .bad
        | none => .bad) .no) L tm h K → ∀ r ∈ l, ∃ o x, ops[r]? = some o ∧ It.of P ops o = some x ∧
          vgd tm x.g (vop p x.c x.o x.t tm h fun v h' => keptP (bindOf o) h' L ∧ vplan p (m r) L (put tm x.d v) h' K) (vplan p (m r) L (put tm x.d undef) h K)
  | [], _, r, hr => by cases hr
  | a :: l, hv, r, hr => by
    simp only [List.foldr_cons] at hv
    split at hv
    · rename_i o ho
      split at hv
      · rename_i x hx
        simp only [vplan] at hv
        rcases List.mem_cons.1 hr with rfl | hr
        · exact ⟨o, x, ho, hx, hv.1⟩
        · exact foldr_eff l hv.2 r hr
      · exact hv.elim
    · exact hv.elim

theorem isRd_pure {P : Program} {o : Oper} {tm : VT} {h : Heap} (hn : isRd o.op = false) : evRead P o tm h = none := by
  obtain ⟨dst, op, type, pos, after, guard⟩ := o
  cases op
  case load => cases hn
  case slice => cases hn
  case convert => cases hn
  case call c =>
    obtain ⟨cl, args, ats⟩ := c
    cases cl with
    | builtin b => cases b <;> first | rfl | cases hn
    | value f => rfl
    | invoke r m => rfl
  all_goals rfl

theorem vplan_run {p : Par} {ops : Array Oper} (hops : ∀ o ∈ ops.toList, okOper p.NG o = true) {F : Fence} (hF : FW F) {n : Nat} {Q : Exit → Act → World → Prop}
    (hQ : ∀ c a a' w, Q (.panic c) a w → Q (.panic c) a' w) {df : List Deferred} {K : VT → Heap → Prop} :
    ∀ (fuel : Nat) (listed : Array Bool) (L : HL) (tm : VT) (h : Heap), vplan p (mkPT p.P ops fuel listed) L tm h K →
    ∀ (Γ : Gam) (ca : Act) (w : World) (Lc : List (Nat × Sem Go.Next × Value)), HRel p Γ h w → Tm Γ p.NG tm ca → (∀ x ∈ tm.arr.toList, sc h.next x = true) → ca.defers = df → HeldV p Γ h.next L Lc →
    NextK p Γ h w df K (fun a w => Q .normal a w) →
    anyW F n p.P .any ops Q (HeldC p.P ops Lc) fuel listed ca w := by
  intro fuel
  have hsel : Region.noSelect ops = true := by
    simp only [Region.noSelect, Array.all_eq_true_iff_forall_mem]
    intro o ho
    have := okOper_plain (hops o (by simpa using ho))
    split
    · rename_i cs b hc; exact absurd hc (this.2 cs b)
    · rfl
  induction fuel with
  | zero =>
    intro listed L tm h he Γ ca w Lc hr ht hs hd hL hn
    simp only [mkPT] at he
    split at he
    · rename_i hrd
      exact ⟨hrd, hn.go tm h Γ ca w he (Ag.refl _ _) (Nat.le_refl _) (Below.refl _ _) hr ht hs hd⟩
    · exact he.elim
  | succ fuel ih =>
    intro listed L tm h he Γ ca w Lc hr ht hs hd hL hn
    have hng : p.NG ≤ h.next := by have := hr.ng; have := hr.gn; omega
    simp only [mkPT] at he
    split at he
    · rename_i hrd
      exact ⟨fun _ => hn.go tm h Γ ca w he (Ag.refl _ _) (Nat.le_refl _) (Below.refl _ _) hr ht hs hd, fun i hi => by rw [hrd] at hi; cases hi⟩
    · rename_i r rs hrd
      split at he
      · rename_i i o hff
        obtain ⟨hi, hio, hfree, _⟩ := firstFree_spec hff
        have hoo : okOper p.NG o = true := hops o (by rw [← Array.getElem?_toList] at hio; exact List.mem_of_getElem? hio)
        have hop : o.op.operands.all (okOpd p.NG) = true := by simp only [okOper, Bool.and_eq_true] at hoo; exact hoo.1
        have hw := wanted_eq ht ops o
        rw [← hrd] at hi
        split at he
        case h_2 => exact he.elim
        rename_i x hx
        obtain ⟨e1, e2, e3, e4⟩ := It.of_eq hx
        simp only [vplan] at he
        rcases vgd_spec hx he with ⟨hwt, he⟩ | ⟨hwt, he⟩
        · rw [hwt] at hw
          rw [e1, e3, e4] at he
          cases hrdb : isRd o.op with
          | false =>
            rw [hrdb] at he
            simp only at he
            unfold oP at he
            split at he
            case h_2 => exact he.elim
            rename_i v hv
            have hv' : evPure p.P o tm = some v := tp_sound hv
            have hscv := evPure_sc hr hs hop hv'
            refine anyW_take (v := con Γ v) (T := fun _ => True) hio hsel hfree hi (fun c a w hq => hQ _ _ _ _ hq) (fun _ _ _ _ _ _ => trivial) (.inl ⟨hw, fun w _ => evPure_run ht hop hv' w⟩) trivial ?_
            exact ih _ L _ h he Γ _ w Lc hr (ht.put hs (Ag.refl Γ h.next) hng o.dst v) (sc_put ht.sm hs (Nat.le_refl _) o.dst hscv) (by rw [put_defers]; exact hd) hL hn
          | true =>
            rw [hrdb] at he
            simp only at he
            split at he
            case h_2 =>
              split at he
              case h_2 => exact he.elim
              rename_i v1 v2 hv
              obtain ⟨b, hrun, hs1, hs2⟩ := tw_run hr ht hs hop hv
              have hrun0 := hrun Γ h w (Ag.refl _ _) (Nat.le_refl _) hr hv
              have hscv : sc h.next (if b then v1 else v2) = true := by cases b <;> assumption
              refine anyW_mono (S := HeldC p.P ops ((i, execOp ca.eval o, con Γ (if b then v1 else v2)) :: Lc)) (fun j w hh x hx => hh x (List.mem_cons_of_mem _ hx)) _ _ _ _ ?_
              refine anyW_take (v := con Γ (if b then v1 else v2)) (T := fun w => (execOp ca.eval o).run p.P w = .ok (.value (con Γ (if b then v1 else v2))) w) hio hsel hfree hi (fun c a w hq => hQ _ _ _ _ hq)
                (fun j oj w hj hno hS => hS _ (List.mem_cons_self ..) (fun oj' hj' => by rw [hj] at hj'; cases hj'; exact hno)) (.inl ⟨hw, fun w hh => hh⟩) hrun0 ?_
              have hinv : ∀ h', (∃ u, tw p.P o.op tm h' = some u) → tw p.P o.op tm h' = some (v1, v2) := fun h' hu => by
                obtain ⟨u, hu⟩ := hu
                rw [hu]
                have h1 := hv
                unfold tw at h1 hu
                split at h1
                · rename_i ho
                  simp only [ho] at hu
                  unfold tailV at h1 hu
                  split at h1
                  · rename_i hx hmx
                    simp only [hx, hmx] at hu
                    split at h1
                    · rename_i hun hc
                      split at h1
                      · rename_i hsz
                        split at h1
                        · rename_i hbd
                          split at h1 <;> cases h1
                          split at hu
                          · rename_i hun' hc'
                            rw [hun] at hun'
                            cases hun'
                            rw [hsz] at hu
                            simp only [hbd] at hu
                            split at hu <;> cases hu
                            rfl
                          · cases hu
                        · cases h1
                      · cases h1
                    · cases h1
                  · cases h1
                · cases h1
              cases b with
              | true =>
                refine ih _ _ _ h he.1 Γ _ w _ hr (ht.put hs (Ag.refl Γ h.next) hng o.dst v1) (sc_put ht.sm hs (Nat.le_refl _) o.dst hs1) (by rw [put_defers]; exact hd) ⟨⟨rfl, fun Γ' h' w' hg hle hr' he' => ?_⟩, hL⟩ hn
                have h2 := hrun Γ' h' w' hg hle hr' (hinv h' (by
                  have he' : Option.map _ (tw p.P o.op tm h') = _ := he'
                  cases htw : tw p.P o.op tm h' with
                  | none => rw [htw] at he'; cases he'
                  | some u => exact ⟨u, rfl⟩))
                rw [h2]
                simp only [if_true, con_ag hg v1 hs1]
              | false =>
                refine ih _ _ _ h he.2 Γ _ w _ hr (ht.put hs (Ag.refl Γ h.next) hng o.dst v2) (sc_put ht.sm hs (Nat.le_refl _) o.dst hs2) (by rw [put_defers]; exact hd) ⟨⟨rfl, fun Γ' h' w' hg hle hr' he' => ?_⟩, hL⟩ hn
                have h2 := hrun Γ' h' w' hg hle hr' (hinv h' (by
                  have he' : Option.map _ (tw p.P o.op tm h') = _ := he'
                  cases htw : tw p.P o.op tm h' with
                  | none => rw [htw] at he'; cases he'
                  | some u => exact ⟨u, rfl⟩))
                rw [h2]
                simp only [Bool.false_eq_true, if_false, con_ag hg v2 hs2]
            rename_i v hv
            obtain ⟨hrun, hscv⟩ := tv_run hr ht hs hop hv
            refine anyW_mono (S := HeldC p.P ops ((i, execOp ca.eval o, con Γ v) :: Lc)) (fun j w hh x hx => hh x (List.mem_cons_of_mem _ hx)) _ _ _ _ ?_
            refine anyW_take (v := con Γ v) (T := fun w => (execOp ca.eval o).run p.P w = .ok (.value (con Γ v)) w) hio hsel hfree hi (fun c a w hq => hQ _ _ _ _ hq)
              (fun j oj w hj hno hS => hS _ (List.mem_cons_self ..) (fun oj' hj' => by rw [hj] at hj'; cases hj'; exact hno)) (.inl ⟨hw, fun w hh => hh⟩) hrun ?_
            refine ih _ _ _ h he Γ _ w _ hr (ht.put hs (Ag.refl Γ h.next) hng o.dst v) (sc_put ht.sm hs (Nat.le_refl _) o.dst hscv) (by rw [put_defers]; exact hd) ⟨⟨rfl, fun Γ' h' w' hg hle hr' he' => ?_⟩, hL⟩ hn
            have := (tv_run hr' (ht.ag hs hg hng) (fun x hx => sc_mono hle x (hs x hx)) hop he').1
            rw [this, con_ag hg v hscv]
        · rw [hwt] at hw
          refine anyW_take (v := undef) (T := fun _ => True) hio hsel hfree hi (fun c a w hq => hQ _ _ _ _ hq) (fun _ _ _ _ _ _ => trivial) (.inr ⟨hw, rfl⟩) trivial ?_
          have hput := ht.put hs (Ag.refl Γ h.next) hng o.dst undef
          rw [con_undef] at hput
          rw [e1] at he
          exact ih _ L _ h he Γ _ w Lc hr hput (sc_put ht.sm hs (Nat.le_refl _) o.dst rfl) (by rw [put_defers]; exact hd) hL hn
      · refine ⟨fun h0 => (by rw [hrd] at h0; cases h0), fun i hi => ?_⟩
        rw [hrd] at hi
        obtain ⟨o, x, hio, hx, he⟩ := foldr_eff (m := fun r => mkPT p.P ops fuel (listed.setIfInBounds r true)) _ he i hi
        have hoo : okOper p.NG o = true := hops o (by rw [← Array.getElem?_toList] at hio; exact List.mem_of_getElem? hio)
        have hw := wanted_eq ht ops o
        obtain ⟨e1, e2, e3, e4⟩ := It.of_eq hx
        unfold opW
        simp only [hio]
        rcases vgd_spec hx he with ⟨hwt, he⟩ | ⟨hwt, he⟩
        · rw [hwt] at hw
          simp only [Option.getD_some] at hw
          simp only [hw, if_true]
          rw [e3, e4] at he
          refine vop_run hr ht hs hoo he hF fun v h1 Γ' w' hv hg hle hbel hr' hsv => ?_
          obtain ⟨hk, hv⟩ := hv
          rw [e1] at hv
          have hL' := hL.ag hg hle
          exact ⟨.inl (keptP_run hr' (Nat.le_refl _) hio hL' hk), ih _ L _ h1 hv Γ' _ w' Lc hr' (ht.put hs hg hng o.dst v) (sc_put ht.sm hs hle o.dst hsv) (by rw [put_defers]; exact hd) hL' (hn.step hg hle hbel)⟩
        · rw [hwt] at hw
          simp only [Option.getD_some] at hw
          simp only [hw, Bool.false_eq_true, if_false]
          have hput := ht.put hs (Ag.refl Γ h.next) hng o.dst undef
          rw [con_undef] at hput
          rw [e1] at he
          exact ⟨.inr trivial, ih _ L _ h he Γ _ w Lc hr hput (sc_put ht.sm hs (Nat.le_refl _) o.dst rfl) (by rw [put_defers]; exact hd) hL hn⟩

/-- What is asked of a text is enough. -/
theorem vc_run {p : Par} (good : GoodP p) {ro : Option Nat} : ∀ (c : Code) (s : S) (R : XExit → S → Prop), vc p ro (comp p.P c) s R → WP p ro c s R
  | .skip, s, R, h => WP.skip h
  | .label l, s, R, h => WP.label h
  | .exit i, s, R, h => WP.exit h
  | .goto l, s, R, h => WP.goto h
  | .ret, s, R, h => WP.ret h
  | .refuse _, s, R, h => h.elim
  | .seq a b, s, R, h => WP.seq (vc_run good a s _ h |>.mono fun e s' hr => by
      cases e with
      | normal => exact vc_run good b s' R hr
      | exit i => exact hr
      | goto l => exact hr
      | ret => exact hr)
  | .cond x a b, s, R, h => by
    simp only [comp, vc] at h
    unfold vcond at h
    split at h
    · rename_i v hv
      exact WP.cond hv (fun e => vc_run good a s R (h.1 e)) (fun e => vc_run good b s R (h.2 e))
    · exact h.elim
  | .block i b, s, R, h => WP.block (vc_run good b s _ h)
  | .loop b, s, R, h => h _ rfl
  | .scope b, s, R, h => WP.scope h
  | .rangeFunc g ps a b, s, R, h => h _ rfl
  | .region id ops draw, s, R, h => by
    intro hok Γ ca w hst F n Q hF hro hl hQ
    simp only [okCode, Array.all_eq_true_iff_forall_mem] at hok
    have hops : ∀ o ∈ ops.toList, okOper p.NG o = true := fun o ho => hok o (by simpa using ho)
    refine codeW_of (by simp) ?_
    cases draw with
    | false =>
      simp only [comp] at h
      split at h
      case h_2 => exact h.elim
      rename_i xs hxs
      refine wpIn_region ?_
      have := vops_run hops hF (n := n) (Q := Q) (df := ca.defers) (K := fun tm h => R .normal ⟨tm, s.df, h⟩) ops.toList 0 xs s.tm s.h (by simp) hxs h Γ ca w hst.hr hst.tm hst.sc rfl
        ⟨fun tm' h' Γ' ca' w' hk hg hle hb hr ht hs hd => hQ _ _ Γ' ca' w' hk hg hle hb ⟨ht, hs, hst.df_ag hg hle hd, hr⟩⟩
      rw [List.range_eq_range']
      simpa using this
    | true =>
      have h : vplan p (mkPT p.P ops ops.size (Array.replicate ops.size false)) [] s.tm s.h (fun tm h => R .normal ⟨tm, s.df, h⟩) := h
      have hnd : noDefer ops := fun j o c hj => (okOper_plain (hops o (by rw [← Array.getElem?_toList] at hj; exact List.mem_of_getElem? hj))).1 c
      have hq : (Code.region id ops true).wpIn F n p.P (fun e a w => (∀ c, e ≠ .panic c) ∧ Q e a w) ca w := by
        refine wpIn_region_anyW (S := HeldC p.P ops []) hF hnd good.mixed ?_
        refine vplan_run hops hF (fun c a a' w h => absurd rfl (h.1 c)) ops.size _ [] s.tm s.h h Γ ca w.drew [] (hst.hr.of_heap rfl) hst.tm hst.sc rfl trivial ?_
        refine ⟨fun tm' h' Γ' ca' w' hk hg hle hb hr ht hs hd => ⟨fun c h => (by cases h), ?_⟩⟩
        exact hQ _ _ Γ' ca' w' hk hg hle ((Below.refl p.B w).drew.trans hb) ⟨ht, hs, hst.df_ag hg hle hd, hr⟩
      exact wpIn_mono hq fun e a w h => h.2

/-! ### Functions -/
theorem CallE.fir {p : Par} (good : GoodP p) {g : FuncId} {f : FIR} (hf : fir p.P g = some f) {args : List Value} {h : Heap} {R : Value → Heap → Prop} (hn : Nat.ble args.length f.n = true) (hU : f.n < U)
    (hv : vc p none f.ir ⟨FR f.n (enumA 0 args), [], h⟩ (finR p.P f.rs R)) : CallE p g args h R := by
  unfold Ev.fir at hf
  split at hf
  · rename_i fn hfn
    split at hf <;> cases hf
    rename_i c hb
    exact CallE.body good hfn hb (by simpa using hn) hU (vc_run good c _ _ hv)
  · cases hf

/-! ### Loops -/
theorem W.loop {p : Par} (good : GoodP p) {ro : Option Nat} {b : IR} {s : S} {R : XExit → S → Prop} (I : S → Prop) (m : S → Nat) (h0 : I s)
    (h : ∀ s1, I s1 → vc p ro b s1 (thenR (fun s2 => I s2 ∧ m s2 < m s1) R)) : W p ro (.loop b) s R := by
  intro c hc
  cases c with
  | loop c =>
    simp only [comp, IR.loop.injEq] at hc
    subst hc
    exact WP.loop I m h0 fun s1 hI => vc_run good c s1 _ (h s1 hI)
  | region id ops d =>
    cases d with
    | false => simp only [comp] at hc; split at hc <;> cases hc
    | true => cases hc
  | _ => cases hc

theorem W.round {p : Par} (good : GoodP p) {ro : Option Nat} {b : IR} {s : S} {R : XExit → S → Prop} (h : vc p ro b s (thenR (fun s2 => W p ro (.loop b) s2 R) R)) : W p ro (.loop b) s R := by
  intro c hc
  cases c with
  | loop c =>
    have hc' := hc
    simp only [comp, IR.loop.injEq] at hc
    subst hc
    refine WP.round (vc_run good c s _ h |>.mono fun e s' hr => ?_)
    cases e with
    | normal => exact hr _ rfl
    | exit i => exact hr
    | goto l => exact hr
    | ret => exact hr
  | region id ops d =>
    cases d with
    | false => simp only [comp] at hc; split at hc <;> cases hc
    | true => cases hc
  | _ => cases hc

theorem W.range {p : Par} {ro : Option Nat} {g : Operand} {ps : Array Tmp} {a b : Code} {s : S} {R : XExit → S → Prop} {l : Nat} {mk : List Nat} {h1 : Heap} (hent : evEnter ro s.tm ps a b s.h = some (l, mk, h1))
    {f : FuncId} {captured : List Value} (hgv : ev s.tm g = .func (.func f) #[] ⟨captured⟩) (hc : CallE p f (.func (.yield l) #[] #[] :: captured) h1 (leaveR l s mk R)) : W p ro (.range g ps a b) s R := by
  intro c hcc
  cases c with
  | rangeFunc g' ps' a' b' =>
    simp only [comp, IR.range.injEq] at hcc
    obtain ⟨rfl, rfl, rfl, rfl⟩ := hcc
    exact WP.range hent hgv hc
  | region id ops d =>
    cases d with
    | false => simp only [comp] at hcc; split at hcc <;> cases hcc
    | true => cases hcc
  | _ => cases hcc

/-! ### What is asked may be more -/
theorem oP_mono {r : Option Value} {h : Heap} {k k' : Value → Heap → Prop} (hv : oP r h k) (hk : ∀ v h', k v h' → k' v h') : oP r h k' := by
  cases r with
  | none => exact hv
  | some v => exact hk _ _ hv
theorem oT_mono {r : Option Value} {r2 : Option (Value × Value)} {h : Heap} {k k' : Value → Heap → Prop} (hv : oT r r2 h k) (hk : ∀ v h', k v h' → k' v h') : oT r r2 h k' := by
  cases r with
  | none => cases r2 with
    | none => exact hv
    | some x => exact ⟨hk _ _ hv.1, hk _ _ hv.2⟩
  | some v => exact hk _ _ hv
theorem oE_mono {r : Option (Value × Heap)} {k k' : Value → Heap → Prop} (hv : oE r k) (hk : ∀ v h', k v h' → k' v h') : oE r k' := by
  cases r with
  | none => exact hv
  | some v => exact hk _ _ hv
theorem vop_mono {p : Par} {c : Cl} {o : Op} {t : TypeId} {tm : VT} {h : Heap} {k k' : Value → Heap → Prop} (hv : vop p c o t tm h k) (hk : ∀ v h', k v h' → k' v h') : vop p c o t tm h k' := by
  cases c with
  | take => exact oT_mono hv hk
  | eff => exact oE_mono hv hk
  | call =>
    cases o with
    | call c =>
      obtain ⟨cl, args, ats⟩ := c
      cases cl with
      | value f => exact CallV.mono hv hk
      | _ => exact hv
    | _ => exact hv
theorem gV_mono {v : Value} {w : Bool} {A B A' B' : Prop} (h : gV v w A B) (ha : A → A') (hb : B → B') : gV v w A' B' := by
  cases v with
  | bool b => exact ⟨fun e => ha (h.1 e), fun e => hb (h.2 e)⟩
  | _ => exact hb h
theorem vgd_mono {tm : VT} {g : Option (Nat × Bool)} {A B A' B' : Prop} (h : vgd tm g A B) (ha : A → A') (hb : B → B') : vgd tm g A' B' := by
  cases g with
  | none => exact ha h
  | some x => exact gV_mono h ha hb
theorem vops_mono {p : Par} {K K' : VT → Heap → Prop} (hK : ∀ tm h, K tm h → K' tm h) : ∀ (l : List It) (tm : VT) (h : Heap), vops p l tm h K → vops p l tm h K'
  | [], tm, h, hv => hK tm h hv
  | x :: l, tm, h, hv => vgd_mono hv (fun hv => vop_mono hv fun v h' => vops_mono hK l _ h') (vops_mono hK l _ h)
theorem vplan_mono {p : Par} {K K' : VT → Heap → Prop} (hK : ∀ tm h, K tm h → K' tm h) : ∀ (t : PT) (L : HL) (tm : VT) (h : Heap), vplan p t L tm h K → vplan p t L tm h K'
  | .fin, L, tm, h, hv => hK tm h hv
  | .no, L, tm, h, hv => trivial
  | .bad, L, tm, h, hv => hv
  | .take i rd x k, L, tm, h, hv => by
    simp only [vplan] at hv ⊢
    refine vgd_mono hv (fun hv => ?_) (vplan_mono hK k L _ h)
    cases rd with
    | false =>
      simp only [oP] at hv ⊢
      split
      · rename_i hr; rw [hr] at hv; exact vplan_mono hK k _ _ h hv
      · rename_i hr; rw [hr] at hv; exact hv
    | true =>
      cases hr : tv p.P x.o x.t tm h with
      | some v => rw [hr] at hv; exact vplan_mono hK k _ _ h hv
      | none =>
        rw [hr] at hv
        simp only at hv ⊢
        cases hr2 : tw p.P x.o tm h with
        | some v => rw [hr2] at hv; exact ⟨vplan_mono hK k _ _ h hv.1, vplan_mono hK k _ _ h hv.2⟩
        | none => rw [hr2] at hv; exact hv
  | .eff i x bind k alt, L, tm, h, hv => by
    simp only [vplan] at hv ⊢
    exact ⟨vgd_mono hv.1 (fun hv => vop_mono hv fun v h' hh => ⟨hh.1, vplan_mono hK k _ _ h' hh.2⟩) (vplan_mono hK k L _ h), vplan_mono hK alt L tm h hv.2⟩

theorem vc_mono {p : Par} {ro : Option Nat} : ∀ (ir : IR) (s : S) (R R' : XExit → S → Prop), (∀ e s', R e s' → R' e s') → vc p ro ir s R → vc p ro ir s R'
  | .bad, s, R, R', hR, h => h
  | .skip, s, R, R', hR, h => hR _ _ h
  | .ret, s, R, R', hR, h => hR _ _ h
  | .exit i, s, R, R', hR, h => hR _ _ h
  | .goto l, s, R, R', hR, h => hR _ _ h
  | .label l, s, R, R', hR, h => hR _ _ h
  | .ops l, s, R, R', hR, h => vops_mono (fun tm h => hR _ _) l _ _ h
  | .plan t, s, R, R', hR, h => vplan_mono (fun tm h => hR _ _) t _ _ _ h
  | .seq a b, s, R, R', hR, h => vc_mono a s _ _ (fun e s' hh => by
      cases e with
      | normal => exact vc_mono b s' R R' hR hh
      | exit i => exact hR _ _ hh
      | goto l => exact hR _ _ hh
      | ret => exact hR _ _ hh) h
  | .cond x a b, s, R, R', hR, h => by
    simp only [vc] at h ⊢
    unfold vcond at h ⊢
    split
    · rename_i hv; simp only [hv] at h; exact ⟨fun e => vc_mono a s R R' hR (h.1 e), fun e => vc_mono b s R R' hR (h.2 e)⟩
    · rename_i hne
      split at h
      · rename_i hv; exact absurd hv (hne _)
      · exact h
  | .block i b, s, R, R', hR, h => vc_mono b s _ _ (fun e s' hh => by
      cases e with
      | exit j =>
        simp only [outR] at hh ⊢
        split
        · rename_i e; rw [if_pos e] at hh; exact hR _ _ hh
        · rename_i e; rw [if_neg e] at hh; exact hR _ _ hh
      | normal => exact hR _ _ hh
      | goto l => exact hR _ _ hh
      | ret => exact hR _ _ hh) h
  | .loop b, s, R, R', hR, h => fun c hc => (h c hc).mono hR
  | .scope b, s, R, R', hR, h => fun h1 h2 Γ ca w hst F n Q hF hro hl hQ => h h1 h2 Γ ca w hst F n Q hF hro hl fun e s' Γ' ca' w' hr => hQ e s' Γ' ca' w' (hR e s' hr)
  | .range g ps a b, s, R, R', hR, h => fun c hc => (h c hc).mono hR
end
end Go.Ev

namespace Go.Ev
open Go Go.RowKit
noncomputable section

/-! ### What is left alone till it is known -/
@[congr] theorem oP_congr {r r' : Option Value} {h : Heap} {k : Value → Heap → Prop} (e : r = r') : oP r h k = oP r' h k := by rw [e]
@[congr] theorem oT_congr {r r' : Option Value} {q : Option (Value × Value)} {h : Heap} {k : Value → Heap → Prop} (e : r = r') : oT r q h k = oT r' q h k := by rw [e]
def oQ (q : Option (Value × Value)) (h : Heap) (k : Value → Heap → Prop) : Prop := match q with | some (a, b) => k a h ∧ k b h | none => False
@[congr] theorem oQ_congr {q q' : Option (Value × Value)} {h : Heap} {k : Value → Heap → Prop} (e : q = q') : oQ q h k = oQ q' h k := by rw [e]
def oW (q : Option (Value × Value)) (k1 k2 : Value → Prop) : Prop := match q with | some (a, b) => k1 a ∧ k2 b | none => False
@[congr] theorem oW_congr {q q' : Option (Value × Value)} {k1 k2 : Value → Prop} (e : q = q') : oW q k1 k2 = oW q' k1 k2 := by rw [e]
/-- the same where what was read is kept -/
def oR (r : Option Value) (q : Option (Value × Value)) (k k1 k2 : Value → Prop) : Prop := match r with
  | some v => k v
  | none => match q with
    | some (a, b) => k1 a ∧ k2 b
    | none => False
@[congr] theorem oR_congr {r r' : Option Value} {q : Option (Value × Value)} {k k1 k2 : Value → Prop} (e : r = r') : oR r q k k1 k2 = oR r' q k k1 k2 := by rw [e]
@[congr] theorem oE_congr {r r' : Option (Value × Heap)} {k : Value → Heap → Prop} (e : r = r') : oE r k = oE r' k := by rw [e]
@[congr] theorem gV_congr {v v' : Value} {w : Bool} {A B : Prop} (e : v = v') : gV v w A B = gV v' w A B := by rw [e]
@[congr] theorem vcond_congr {v v' : Value} {A B : Prop} (e : v = v') : vcond v A B = vcond v' A B := by rw [e]
@[congr] theorem CallV_congr {p : Par} {f f' : Value} {l l' : List Value} {h : Heap} {R : Value → Heap → Prop} (e : f = f') (e2 : l = l') : CallV p f l h R = CallV p f' l' h R := by rw [e, e2]
@[congr] theorem CallW_congr {p : Par} {f : FuncId} {l l' : List Value} {h : Heap} {R : Value → Heap → Prop} (e2 : l = l') : CallW p f l h R = CallW p f l' h R := by rw [e2]
@[congr] theorem CallE_congr {p : Par} {f : FuncId} {l l' : List Value} {h : Heap} {R : Value → Heap → Prop} (e2 : l = l') : CallE p f l h R = CallE p f l' h R := by rw [e2]
@[congr] theorem W_congr {p : Par} {ro : Option Nat} {ir : IR} {s : S} {R : XExit → S → Prop} : W p ro ir s R = W p ro ir s R := rfl
@[congr] theorem vc_congr {p : Par} {ro : Option Nat} {ir : IR} {s : S} {R : XExit → S → Prop} : vc p ro ir s R = vc p ro ir s R := rfl
@[congr] theorem vplan_congr {p : Par} {t : PT} {L : HL} {tm : VT} {h : Heap} {K : VT → Heap → Prop} : vplan p t L tm h K = vplan p t L tm h K := rfl
@[congr] theorem vops_congr {p : Par} {l : List It} {tm : VT} {h : Heap} {K : VT → Heap → Prop} : vops p l tm h K = vops p l tm h K := rfl
@[congr] theorem YieldW_congr {p : Par} {l : Nat} {args args' : List Value} {h : Heap} {R : Value → Heap → Prop} (e : args = args') : YieldW p l args h R = YieldW p l args' h R := by rw [e]

section
variable {p : Par} {P : Program} {ro : Option Nat} {s : S} {R : XExit → S → Prop}
/-! ### Texts -/
theorem vc_skip : vc p ro .skip s R = R .normal s := rfl
theorem vc_ret : vc p ro .ret s R = R .ret s := rfl
theorem vc_exit (i : Nat) : vc p ro (.exit i) s R = R (.exit i) s := rfl
theorem vc_goto (i : Nat) : vc p ro (.goto i) s R = R (.goto i) s := rfl
theorem vc_label (i : Nat) : vc p ro (.label i) s R = R .normal s := rfl
theorem vc_ops (l : List It) (tm : VT) (df : List Nat) (h : Heap) : vc p ro (.ops l) ⟨tm, df, h⟩ R = vops p l tm h (fun tm h => R .normal ⟨tm, df, h⟩) := rfl
theorem vc_plan (t : PT) (tm : VT) (df : List Nat) (h : Heap) : vc p ro (.plan t) ⟨tm, df, h⟩ R = vplan p t [] tm h (fun tm h => R .normal ⟨tm, df, h⟩) := rfl
theorem vc_seq (a b : IR) : vc p ro (.seq a b) s R = vc p ro a s (thenR (fun s1 => vc p ro b s1 R) R) := rfl
theorem vc_cond (x : Operand) (a b : IR) (tm : VT) (df : List Nat) (h : Heap) : vc p ro (.cond x a b) ⟨tm, df, h⟩ R = vcond (ev tm x) (vc p ro a ⟨tm, df, h⟩ R) (vc p ro b ⟨tm, df, h⟩ R) := rfl
theorem vc_block (i : Nat) (b : IR) : vc p ro (.block i b) s R = vc p ro b s (outR i R) := rfl
theorem vc_loop (b : IR) : vc p ro (.loop b) s R = W p ro (.loop b) s R := rfl
theorem vc_range (g : Operand) (ps : Array Tmp) (a b : Code) : vc p ro (.range g ps a b) s R = W p ro (.range g ps a b) s R := rfl
theorem vc_scope (b : Code) : vc p ro (.scope b) s R = WPin p ro b b s R := rfl
theorem thenR_n {k : S → Prop} : thenR k R .normal s = k s := rfl
theorem thenR_e {k : S → Prop} {i : Nat} : thenR k R (.exit i) s = R (.exit i) s := rfl
theorem thenR_g {k : S → Prop} {i : Nat} : thenR k R (.goto i) s = R (.goto i) s := rfl
theorem thenR_r {k : S → Prop} : thenR k R .ret s = R .ret s := rfl
theorem outR_n {i : Nat} : outR i R .normal s = R .normal s := rfl
theorem outR_e {i j : Nat} : outR i R (.exit j) s = if j = i then R .normal s else R (.exit j) s := rfl
theorem outR_g {i j : Nat} : outR i R (.goto j) s = R (.goto j) s := rfl
theorem outR_r {i : Nat} : outR i R .ret s = R .ret s := rfl
theorem finR_n {rs : List ResultVar} {R : Value → Heap → Prop} : finR P rs R .normal s = endR P rs R s := rfl
theorem finR_r {rs : List ResultVar} {R : Value → Heap → Prop} : finR P rs R .ret s = endR P rs R s := rfl
def endM (P : Program) (rs : List ResultVar) (R : Value → Heap → Prop) (tm : VT) : Option Heap → Prop
  | some h1 => oP (evRes P rs tm h1) h1 R
  | none => False
theorem endR_eq {rs : List ResultVar} {R : Value → Heap → Prop} (tm : VT) (df : List Nat) (h : Heap) : endR P rs R ⟨tm, df, h⟩ = endM P rs R tm (evMarks df h) := rfl
theorem endM_s {rs : List ResultVar} {R : Value → Heap → Prop} (tm : VT) (h : Heap) : endM P rs R tm (some h) = oP (evRes P rs tm h) h R := rfl
theorem evMarks_nil (h : Heap) : evMarks [] h = some h := rfl
theorem evRes_0 (tm : VT) (h : Heap) : evRes P [] tm h = some (.tuple #[]) := rfl
theorem evRes_1 (tm : VT) (h : Heap) (t : Nat) : evRes P [.tmp t] tm h = some (tm.get t) := rfl
theorem evRes_2 (tm : VT) (h : Heap) (t u : Nat) : evRes P [.tmp t, .tmp u] tm h = some (.tuple #[tm.get t, tm.get u]) := rfl
theorem evRes_3 (tm : VT) (h : Heap) (t u v : Nat) : evRes P [.tmp t, .tmp u, .tmp v] tm h = some (.tuple #[tm.get t, tm.get u, tm.get v]) := rfl
theorem evRes_4 (tm : VT) (h : Heap) (t u v w : Nat) : evRes P [.tmp t, .tmp u, .tmp v, .tmp w] tm h = some (.tuple #[tm.get t, tm.get u, tm.get v, tm.get w]) := rfl
theorem evRes_c1 (tm : VT) (h : Heap) (a t : Nat) : evRes P [.cell a t] tm h = evLoad P t (tm.get a) h := by
  simp only [evRes, evResults.go]
  cases evLoad P t (tm.get a) h <;> rfl

/-! ### Operations in a row -/
variable {K : VT → Heap → Prop} {k : Value → Heap → Prop}
theorem vops_nil (tm : VT) (h : Heap) : vops p [] tm h K = K tm h := rfl
theorem vops_cons (d : Option Nat) (c : Cl) (o : Op) (t : TypeId) (l : List It) (tm : VT) (h : Heap) : vops p (⟨d, none, c, o, t⟩ :: l) tm h K = vop p c o t tm h (fun v h' => vops p l (put tm d v) h' K) := rfl
theorem vops_consg (d : Option Nat) (g : Nat) (w : Bool) (c : Cl) (o : Op) (t : TypeId) (l : List It) (tm : VT) (h : Heap) : vops p (⟨d, some (g, w), c, o, t⟩ :: l) tm h K =
    gV (tm.get g) w (vop p c o t tm h (fun v h' => vops p l (put tm d v) h' K)) (vops p l (put tm d undef) h K) := rfl
theorem vplan_fin (L : HL) (tm : VT) (h : Heap) : vplan p .fin L tm h K = K tm h := rfl
theorem vplan_no (L : HL) (tm : VT) (h : Heap) : vplan p .no L tm h K = True := rfl
theorem vplan_takep (i : Nat) (d : Option Nat) (c : Cl) (o : Op) (t : TypeId) (l : PT) (L : HL) (tm : VT) (h : Heap) : vplan p (.take i false ⟨d, none, c, o, t⟩ l) L tm h K =
    oP (tp p.P o t tm) h (fun v _ => vplan p l L (put tm d v) h K) := rfl
theorem vplan_taker (i : Nat) (d : Option Nat) (c : Cl) (o : Op) (t : TypeId) (l : PT) (L : HL) (tm : VT) (h : Heap) : vplan p (.take i true ⟨d, none, c, o, t⟩ l) L tm h K =
    oR (tv p.P o t tm h) (tw p.P o tm h) (fun v => vplan p l ((i, fun h' => tv p.P o t tm h', v) :: L) (put tm d v) h K)
      (fun v => vplan p l ((i, fun h' => (tw p.P o tm h').map (·.1), v) :: L) (put tm d v) h K) (fun v => vplan p l ((i, fun h' => (tw p.P o tm h').map (·.2), v) :: L) (put tm d v) h K) := rfl
theorem vplan_takepg (i : Nat) (d : Option Nat) (g : Nat) (w : Bool) (c : Cl) (o : Op) (t : TypeId) (l : PT) (L : HL) (tm : VT) (h : Heap) : vplan p (.take i false ⟨d, some (g, w), c, o, t⟩ l) L tm h K =
    gV (tm.get g) w (oP (tp p.P o t tm) h (fun v _ => vplan p l L (put tm d v) h K)) (vplan p l L (put tm d undef) h K) := rfl
theorem vplan_takerg (i : Nat) (d : Option Nat) (g : Nat) (w : Bool) (c : Cl) (o : Op) (t : TypeId) (l : PT) (L : HL) (tm : VT) (h : Heap) : vplan p (.take i true ⟨d, some (g, w), c, o, t⟩ l) L tm h K =
    gV (tm.get g) w (oR (tv p.P o t tm h) (tw p.P o tm h) (fun v => vplan p l ((i, fun h' => tv p.P o t tm h', v) :: L) (put tm d v) h K)
      (fun v => vplan p l ((i, fun h' => (tw p.P o tm h').map (·.1), v) :: L) (put tm d v) h K) (fun v => vplan p l ((i, fun h' => (tw p.P o tm h').map (·.2), v) :: L) (put tm d v) h K)) (vplan p l L (put tm d undef) h K) := rfl
/-- with what is asked of what was read behind -/
def keptK (A B : Prop) : Prop := A ∧ B
theorem vplan_eff1 (i : Nat) (d : Option Nat) (c : Cl) (o : Op) (t : TypeId) (b : List Nat) (l : PT) (L : HL) (tm : VT) (h : Heap) : vplan p (.eff i ⟨d, none, c, o, t⟩ b l .no) L tm h K =
    vop p c o t tm h (fun v h' => keptK (keptP b h' L) (vplan p l L (put tm d v) h' K)) := by
  simp only [vplan, vgd, and_true]
  rfl
theorem vplan_eff1g (i : Nat) (d : Option Nat) (g : Nat) (w : Bool) (c : Cl) (o : Op) (t : TypeId) (b : List Nat) (l : PT) (L : HL) (tm : VT) (h : Heap) : vplan p (.eff i ⟨d, some (g, w), c, o, t⟩ b l .no) L tm h K =
    gV (tm.get g) w (vop p c o t tm h (fun v h' => keptK (keptP b h' L) (vplan p l L (put tm d v) h' K))) (vplan p l L (put tm d undef) h K) := by
  simp only [vplan, vgd, and_true]
  rfl
@[congr] theorem keptK_congr {A A' B : Prop} (e : A = A') : keptK A B = keptK A' B := by rw [e]
theorem keptK_t (B : Prop) : keptK True B = B := by simp [keptK]
theorem keptP_nil (b : List Nat) (h : Heap) : keptP b h [] = True := rfl
theorem keptP_cons (b : List Nat) (h : Heap) (i : Nat) (rd : Heap → Option Value) (v : Value) (L : HL) : keptP b h ((i, rd, v) :: L) = ((i ∈ b ∨ rd h = some v) ∧ keptP b h L) := by
  simp only [keptP]
  cases hb : b.contains i with
  | true => simp at hb; simp [hb]
  | false => simp at hb; simp [hb]

theorem vop_take (o : Op) (t : TypeId) (tm : VT) (h : Heap) : vop p .take o t tm h k = oT (tv p.P o t tm h) (tw p.P o tm h) h k := rfl
theorem vop_eff (o : Op) (t : TypeId) (tm : VT) (h : Heap) : vop p .eff o t tm h k = oE (te p.P o t tm h) k := rfl
theorem vop_call (f : Operand) (args : Array Operand) (ats : Array TypeId) (t : TypeId) (tm : VT) (h : Heap) : vop p .call (.call ⟨.value f, args, ats⟩) t tm h k = CallV p (ev tm f) (args.toList.map (ev tm)) h k := rfl
theorem CallV_func (g : FuncId) (c : List Value) (args : List Value) (h : Heap) : CallV p (.func (.func g) ⟨[]⟩ ⟨c⟩) args h k = CallW p g (args ++ c) h k := rfl
theorem CallV_func0 (g : FuncId) (args : List Value) (h : Heap) : CallV p (.func (.func g) #[] #[]) args h k = CallW p g args h k := by
  have := CallV_func (p := p) (k := k) g [] args h
  rw [List.append_nil] at this
  exact this
theorem CallV_yield (l : Nat) (args : List Value) (h : Heap) : CallV p (.func (.yield l) #[] #[]) args h k = YieldW p l args h k := rfl
theorem oP_s (v : Value) (h : Heap) : oP (some v) h k = k v h := rfl
theorem oE_s (v : Value) (h : Heap) : oE (some (v, h)) k = k v h := rfl
theorem oT_s (v : Value) (q : Option (Value × Value)) (h : Heap) : oT (some v) q h k = k v h := rfl
theorem oT_n (q : Option (Value × Value)) (h : Heap) : oT none q h k = oQ q h k := rfl
theorem oQ_s (a b : Value) (h : Heap) : oQ (some (a, b)) h k = (k a h ∧ k b h) := rfl
theorem oR_s (v : Value) (q : Option (Value × Value)) (k k1 k2 : Value → Prop) : oR (some v) q k k1 k2 = k v := rfl
theorem oR_n (q : Option (Value × Value)) (k k1 k2 : Value → Prop) : oR none q k k1 k2 = oW q k1 k2 := rfl
theorem oW_s (a b : Value) (k1 k2 : Value → Prop) : oW (some (a, b)) k1 k2 = (k1 a ∧ k2 b) := rfl
variable {A B : Prop}
theorem gV_tt : gV (.bool true) true A B = A := by simp [gV]
theorem gV_tf : gV (.bool true) false A B = B := by simp [gV]
theorem gV_ft : gV (.bool false) true A B = B := by simp [gV]
theorem gV_ff : gV (.bool false) false A B = A := by simp [gV]
theorem gV_u {w : Bool} : gV undef w A B = B := rfl
theorem gV_split {b w : Bool} (ha : b = w → A) (hb : b = !w → B) : gV (.bool b) w A B := ⟨ha, fun e => hb (by cases b <;> cases w <;> simp_all)⟩
theorem vcond_t : vcond (.bool true) A B = A := by simp [vcond]
theorem vcond_f : vcond (.bool false) A B = B := by simp [vcond]
theorem vcond_split {b : Bool} (ha : b = true → A) (hb : b = false → B) : vcond (.bool b) A B := ⟨ha, hb⟩

/-! ### Frames -/
theorem put_s (n : Nat) (l : List (Nat × Value)) (i : Nat) (v : Value) : put (FR n l) (some i) v = FR n ((i, v) :: l) := rfl
theorem put_n (tm : VT) (v : Value) : put tm none v = tm := rfl
theorem le_U {n : Nat} (h : n ≤ 100000) : n < U := by unfold U; omega
theorem FR_g (n : Nat) (l : List (Nat × Value)) (i : Nat) (v : Value) (j : Nat) (hn : n ≤ 100000) : (FR n ((i, v) :: l)).get j = if i = j then (if i < n then v else undef) else (FR n l).get j := FR_get n (le_U hn) l i v j
theorem FR_g0 (n j : Nat) (hn : n ≤ 100000) : (FR n []).get j = undef := FR_get_nil n j (le_U hn)
theorem enumA_nil (i : Nat) : enumA i [] = [] := rfl
theorem enumA_cons (i : Nat) (v : Value) (l : List Value) : enumA i (v :: l) = enumA (i + 1) l ++ [(i, v)] := rfl
variable {tm : VT} {h : Heap} {t : TypeId}
theorem ev_tmp (i : Nat) : ev tm (.tmp i) = tm.get i := rfl
theorem ev_const (v : Value) : ev tm (.const v) = v := rfl
theorem ev_func (f : FuncId) : ev tm (.func f) = .func (.func f) #[] #[] := rfl
theorem ev_global (g : Nat) : ev tm (.global g) = .pointer (some ⟨g, 0, none⟩) := rfl

/-! ### A Sem that reads nothing -/
theorem pv_bind {α β : Type} (P : Program) (f : α → Sem β) : ∀ s : Sem α, pv P (s >>= f) = (pv P s).bind (fun a => pv P (f a)) := by
  intro s
  show pv P (Sem.bind s f) = _
  induction s with
  | pure a => rfl
  | program k ih => exact ih P
  | mark m k ih => exact ih
  | _ => rfl
theorem pv_pure {α : Type} (P : Program) (a : α) : pv P (pure a : Sem α) = some a := rfl
theorem pv_map {α β : Type} (P : Program) (f : α → β) (s : Sem α) : pv P (f <$> s) = (pv P s).map f := by
  show pv P (s >>= fun a => pure (f a)) = _
  rw [pv_bind]
  cases pv P s <;> rfl
theorem pv_under {d : TypeDesc} (h : P.underlying t = some d) : pv P (underlying t) = some d := by
  simp only [underlying, pv_bind]
  simp only [program, pv, Option.bind_some, h]
  rfl

/-! ### Operations that turn nothing -/
theorem pickV_t (a b : Value) : pickV (.bool true) a b = some a := rfl
theorem pickV_f (a b : Value) : pickV (.bool false) a b = some b := rfl
theorem extV_t (l : List Value) (i : Nat) : extV (.tuple ⟨l⟩) i = l[i]? := by simp [extV]
theorem unV_not (b : Bool) : unV P .not (.bool b) = some (.bool (!b)) := rfl
theorem unV_neg (k : IntKind) (n : Int) : unV P .neg (.int k n) = some (.int k (k.wrap (-n))) := by
  simp only [unV, pvF, flat, Op.unary, Op.intArith, pv_pure, Int.zero_sub]
theorem faV_p (o b k : Nat) : faV (some o) (.pointer (some ⟨b, k, none⟩)) = some (.pointer (some ⟨b, k + o, none⟩)) := by simp [faV, addr_add]
theorem fdV_a (b : Bool) (n off : Nat) (cs : List Value) : fdV (some (b, n, off)) (.agg ⟨cs⟩) = partL b n cs off := rfl
theorem partL_f (n : Nat) (cs : List Value) (off : Nat) : partL false n cs off = cs[off]? := rfl
theorem partL_t (n : Nat) (cs : List Value) (off : Nat) : partL true n cs off = if off + n ≤ cs.length then some (.agg ⟨(cs.drop off).take n⟩) else none := rfl
theorem iaV_s (n b o len c : Nat) (k : IntKind) (i : Int) (h0 : 0 ≤ i) (hi : i < len) : iaV (some (none, n)) (.slice (some ⟨b, o, none⟩) len c) (.int k i) = some (.pointer (some ⟨b, o + i.toNat * n, none⟩)) := by
  simp [iaV, h0, hi, addr_add]
theorem iaV_a (n len b o : Nat) (k : IntKind) (i : Int) (h0 : 0 ≤ i) (hi : i < len) : iaV (some (some len, n)) (.pointer (some ⟨b, o, none⟩)) (.int k i) = some (.pointer (some ⟨b, o + i.toNat * n, none⟩)) := by
  simp [iaV, h0, hi, addr_add]
theorem ixV_s (s : ByteArray) (k : IntKind) (i : Int) (h0 : 0 ≤ i) (hi : i < s.size) : ixV (some none) (.string s) (.int k i) = some (.int .u8 (byteAt s i.toNat)) := by
  simp [ixV, h0, hi]
theorem ixV_a (b : Bool) (n z len : Nat) (cs : List Value) (k : IntKind) (i : Int) (h0 : 0 ≤ i) (hi : i < len) : ixV (some (some (b, n, z, len))) (.agg ⟨cs⟩) (.int k i) = partL b n cs (i.toNat * z) := by
  simp [ixV, h0, hi]
theorem ncV_p (a : Addr) : ncV (.pointer (some a)) = some (.pointer (some a)) := rfl
theorem ncV_f (g : FuncId) (f c : Array Value) : ncV (.func (.func g) f c) = some (.func (.func g) f c) := rfl
theorem miV_f (t : TypeId) (v : Value) : miV (some false) t v = some (.iface t v) := rfl
theorem lnB_s (s : ByteArray) : lnB (some true) (.string s) = some (.int .i64 s.size) := rfl
theorem lnB_l (a : Option Addr) (n c : Nat) : lnB (some false) (.slice a n c) = some (.int .i64 n) := rfl
theorem bdV_s (pl : List (Nat × Nat)) (cs : List Value) (parts : List (Nat × Value)) : bdV (some (pl, cs)) parts = (match fillP pl cs parts with | some cs' => some (.agg ⟨cs'⟩) | none => none) := rfl
theorem fillP_nil (pl : List (Nat × Nat)) (cs : List Value) : fillP pl cs [] = some cs := rfl
/-- the rest, where a part has its place -/
def fillQ (pl : List (Nat × Nat)) (cs : List Value) (v : Value) (rest : List (Nat × Value)) : Option (Nat × Nat) → Option (List Value)
  | some (off, n) => if v.cells.toList.length = n ∧ off + n ≤ cs.length then fillP pl (setFrom cs off v.cells.toList) rest else none
  | none => none
theorem fillP_cons (pl : List (Nat × Nat)) (cs : List Value) (i : Nat) (v : Value) (rest : List (Nat × Value)) : fillP pl cs ((i, v) :: rest) = fillQ pl cs v rest pl[i]? := by
  first
  | (simp only [fillP, fillQ]; done)
  | (simp only [fillP, fillQ]; cases pl[i]? <;> rfl)
theorem fillQ_s (pl : List (Nat × Nat)) (cs : List Value) (v : Value) (rest : List (Nat × Value)) (off n : Nat) (h1 : v.cells.toList.length = n) (h2 : off + n ≤ cs.length) :
    fillQ pl cs v rest (some (off, n)) = fillP pl (setFrom cs off v.cells.toList) rest := by
  simp only [fillQ, if_pos (And.intro h1 h2)]
theorem cvV_p (s d : TypeId) (v u : Value) (hc : cvP P s d v = some u) : cvV P s d v h = some u := by simp only [cvV, hc]

section tvs
variable {t : TypeId} {tm : VT} {h : Heap}
theorem tp_move (x : Operand) : tp P (.move x) t tm = some (ev tm x) := rfl
theorem tv_move (x : Operand) : tv P (.move x) t tm h = some (ev tm x) := rfl
theorem tp_assign (x : Operand) : tp P (.assign x) t tm = some (ev tm x) := rfl
theorem tv_assign (x : Operand) : tv P (.assign x) t tm h = some (ev tm x) := rfl
theorem tp_pick (c a b : Operand) : tp P (.pick c a b) t tm = pickV (ev tm c) (ev tm a) (ev tm b) := rfl
theorem tv_pick (c a b : Operand) : tv P (.pick c a b) t tm h = pickV (ev tm c) (ev tm a) (ev tm b) := rfl
theorem tp_extract (x : Operand) (i : Nat) : tp P (.extract x i) t tm = extV (ev tm x) i := rfl
theorem tv_extract (x : Operand) (i : Nat) : tv P (.extract x i) t tm h = extV (ev tm x) i := rfl
theorem tp_bin (op : BinOp) (ty : TypeId) (x y : Operand) (yt : TypeId) : tp P (.binOp op ty x y yt) t tm = binPure P op ty x y (ev tm x) (ev tm y) := rfl
theorem tv_bin (op : BinOp) (ty : TypeId) (x y : Operand) (yt : TypeId) : tv P (.binOp op ty x y yt) t tm h = binPure P op ty x y (ev tm x) (ev tm y) := rfl
theorem tp_un (op : UnOp) (ty : TypeId) (x : Operand) : tp P (.unOp op ty x) t tm = unV P op (ev tm x) := rfl
theorem tv_un (op : UnOp) (ty : TypeId) (x : Operand) : tv P (.unOp op ty x) t tm h = unV P op (ev tm x) := rfl
theorem tp_fa (s : TypeId) (x : Operand) (f : Nat) : tp P (.fieldAddr s x f) t tm = faV (fld P s f) (ev tm x) := rfl
theorem tv_fa (s : TypeId) (x : Operand) (f : Nat) : tv P (.fieldAddr s x f) t tm h = faV (fld P s f) (ev tm x) := rfl
theorem tp_fd (s : TypeId) (x : Operand) (f : Nat) : tp P (.field s x f) t tm = fdV (fldT P s f) (ev tm x) := rfl
theorem tv_fd (s : TypeId) (x : Operand) (f : Nat) : tv P (.field s x f) t tm h = fdV (fldT P s f) (ev tm x) := rfl
theorem tp_ia (s : TypeId) (x i : Operand) : tp P (.indexAddr s x i) t tm = iaV (esz P s) (ev tm x) (ev tm i) := rfl
theorem tv_ia (s : TypeId) (x i : Operand) : tv P (.indexAddr s x i) t tm h = iaV (esz P s) (ev tm x) (ev tm i) := rfl
theorem tp_ix (s : TypeId) (x i : Operand) : tp P (.index s x i) t tm = ixV (ixT P s) (ev tm x) (ev tm i) := rfl
theorem tv_ix (s : TypeId) (x i : Operand) : tv P (.index s x i) t tm h = ixV (ixT P s) (ev tm x) (ev tm i) := rfl
theorem tp_nc (x : Operand) : tp P (.nilCheck x) t tm = ncV (ev tm x) := rfl
theorem tv_nc (x : Operand) : tv P (.nilCheck x) t tm h = ncV (ev tm x) := rfl
theorem tp_mf (g : FuncId) (f c : List Operand) : tp P (.makeFunc (.func g) ⟨f⟩ ⟨c⟩) t tm = some (.func (.func g) ⟨f.map (ev tm)⟩ ⟨c.map (ev tm)⟩) := rfl
theorem tv_mf (g : FuncId) (f c : List Operand) : tv P (.makeFunc (.func g) ⟨f⟩ ⟨c⟩) t tm h = some (.func (.func g) ⟨f.map (ev tm)⟩ ⟨c.map (ev tm)⟩) := rfl
theorem tp_mi (ty : TypeId) (x : Operand) : tp P (.makeInterface ty x) t tm = miV (isI P ty) ty (ev tm x) := rfl
theorem tv_mi (ty : TypeId) (x : Operand) : tv P (.makeInterface ty x) t tm h = miV (isI P ty) ty (ev tm x) := rfl
theorem tp_build (ty : TypeId) (parts : List (Nat × Operand)) : tp P (.build ty ⟨parts⟩) t tm = bdV (plc P ty) (parts.map fun x => (x.1, ev tm x.2)) := rfl
theorem tv_build (ty : TypeId) (parts : List (Nat × Operand)) : tv P (.build ty ⟨parts⟩) t tm h = bdV (plc P ty) (parts.map fun x => (x.1, ev tm x.2)) := rfl
theorem tp_len (x : Operand) (ty : TypeId) : tp P (.call ⟨.builtin .len, #[x], #[ty]⟩) t tm = lnB (lnT P ty) (ev tm x) := rfl
theorem tv_len (x : Operand) (ty : TypeId) : tv P (.call ⟨.builtin .len, #[x], #[ty]⟩) t tm h = lnB (lnT P ty) (ev tm x) := rfl
theorem tp_min (args : List Operand) (ts : Array TypeId) : tp P (.call ⟨.builtin .min, ⟨args⟩, ts⟩) t tm = mnV P ts t (args.map (ev tm)) := rfl
theorem tv_min (args : List Operand) (ts : Array TypeId) : tv P (.call ⟨.builtin .min, ⟨args⟩, ts⟩) t tm h = mnV P ts t (args.map (ev tm)) := rfl
theorem tp_max (args : List Operand) (ts : Array TypeId) : tp P (.call ⟨.builtin .max, ⟨args⟩, ts⟩) t tm = mxV P ts t (args.map (ev tm)) := rfl
theorem tv_max (args : List Operand) (ts : Array TypeId) : tv P (.call ⟨.builtin .max, ⟨args⟩, ts⟩) t tm h = mxV P ts t (args.map (ev tm)) := rfl
theorem tv_load (ty : TypeId) (a : Operand) : tv P (.load ty a) t tm h = evLoad P ty (ev tm a) h := rfl
theorem tv_slice (ty : TypeId) (x : Operand) (lo hi mx : Option Operand) : tv P (.slice ty x lo hi mx) t tm h = slV P ty (ev tm x) (lo.map (ev tm)) (hi.map (ev tm)) (mx.map (ev tm)) h := rfl
theorem tv_convert (s d : TypeId) (x : Operand) : tv P (.convert s d x) t tm h = cvV P s d (ev tm x) h := rfl
theorem te_alloc (e : TypeId) : te P (.alloc e) t tm h = alE (zro P e) e h := rfl
theorem te_box (e : TypeId) (x : Operand) : te P (.box e x) t tm h = bxE e (ev tm x) h := rfl
theorem te_bs (ty : TypeId) (len : Nat) (parts : List (Nat × Operand)) : te P (.buildSlice ty len ⟨parts⟩) t tm h = bsE (slT P ty) len (parts.map fun x => (x.1, ev tm x.2)) h := rfl
theorem te_store (ty : TypeId) (a x : Operand) : te P (.store ty a x) t tm h = stE (szT P ty) (ev tm a) (ev tm x) h := rfl
theorem te_ms (ty : TypeId) (l c : Operand) : te P (.makeSlice ty l c) t tm h = msE (mkT P ty) (ev tm l) (ev tm c) h := rfl
theorem te_append (s x : Operand) (sT xT : TypeId) : te P (.call ⟨.builtin .append, #[s, x], #[sT, xT]⟩) t tm h = evAppend P sT xT (ev tm s) (ev tm x) h := rfl
end tvs

/-! ### Numbers -/
section bin
variable {x y : Operand} {ty : TypeId} {k : IntKind} {a b : Int}
theorem b_add : binPure P .add ty x y (.int k a) (.int k b) = some (.int k (k.wrap (a + b))) := by
  simp [binPure, eqGuard, binOp, Op.intArith, pvF, pv_pure, flat]
theorem b_sub : binPure P .sub ty x y (.int k a) (.int k b) = some (.int k (k.wrap (a - b))) := by
  simp [binPure, eqGuard, binOp, Op.intArith, pvF, pv_pure, flat]
theorem b_mul : binPure P .mul ty x y (.int k a) (.int k b) = some (.int k (k.wrap (a * b))) := by
  simp [binPure, eqGuard, binOp, Op.intArith, pvF, pv_pure, flat]
theorem b_quo (hb : b ≠ 0) : binPure P .quo ty x y (.int k a) (.int k b) = some (.int k (k.wrap (a.tdiv b))) := by
  simp [binPure, eqGuard, binOp, Op.intDiv, hb, pvF, pv_pure, flat]
theorem b_rem (hb : b ≠ 0) : binPure P .rem ty x y (.int k a) (.int k b) = some (.int k (a.tmod b)) := by
  simp [binPure, eqGuard, binOp, Op.intDiv, hb, pvF, pv_pure, flat]
theorem b_lss : binPure P .lss ty x y (.int k a) (.int k b) = some (.bool (decide (a < b))) := by
  simp [binPure, eqGuard, binOp, Op.intCmp, pvF, pv_pure, flat]
theorem b_leq : binPure P .leq ty x y (.int k a) (.int k b) = some (.bool (decide (a ≤ b))) := by
  simp [binPure, eqGuard, binOp, Op.intCmp, pvF, pv_pure, flat]
theorem b_gtr : binPure P .gtr ty x y (.int k a) (.int k b) = some (.bool (decide (b < a))) := by
  simp [binPure, eqGuard, binOp, Op.intCmp, pvF, pv_pure, flat]
theorem b_geq : binPure P .geq ty x y (.int k a) (.int k b) = some (.bool (decide (b ≤ a))) := by
  simp [binPure, eqGuard, binOp, Op.intCmp, pvF, pv_pure, flat]
theorem b_eql : binPure P .eql ty x y (.int k a) (.int k b) = some (.bool (decide (a = b))) := by
  simp [binPure, eqGuard, binOp, Op.intCmp, pvF, pv_pure, flat]
  rfl
theorem b_neq : binPure P .neq ty x y (.int k a) (.int k b) = some (.bool (!decide (a = b))) := by
  simp [binPure, eqGuard, binOp, Op.intCmp, pvF, pv_pure, flat]
  rfl
theorem b_shr {j : IntKind} (hb : 0 ≤ b) : binPure P .shr ty x y (.int k a) (.int j b) = some (.int k (a.fdiv (2 ^ min b.toNat k.bits))) := by
  have : ¬ b < 0 := by omega
  simp [binPure, eqGuard, binOp, Op.shift, this, pvF, pv_pure, flat]
theorem b_shl {j : IntKind} (hb : 0 ≤ b) : binPure P .shl ty x y (.int k a) (.int j b) = some (.int k (k.wrap (a * 2 ^ min b.toNat k.bits))) := by
  have : ¬ b < 0 := by omega
  simp [binPure, eqGuard, binOp, Op.shift, this, pvF, pv_pure, flat]
theorem eqIn_bool (hu : P.underlying ty = some .bool) (a b : Bool) : pv P (Op.equal ty (.bool a) (.bool b)) = some (a == b) := by
  have h : ∀ d : Nat, pv P (Op.equalIn (d + 1) ty (.bool a) (.bool b)) = some (a == b) := fun d => by
    simp only [Op.equalIn, pv_bind, pv_under hu, Option.bind_some, pv_pure]
  exact h 9999
def isBool (P : Program) (t : TypeId) : Bool := match P.underlying t with | some .bool => true | _ => false
theorem isBool_eq (h : isBool P ty = true) : P.underlying ty = some .bool := by
  unfold isBool at h; split at h
  · assumption
  · cases h
theorem b_eqlb {a b : Bool} (hu : isBool P ty = true) : binPure P .eql ty x y (.bool a) (.bool b) = some (.bool (a == b)) := by
  simp [binPure, eqGuard, binOp, pvF, pv_map, eqIn_bool (isBool_eq hu), flat]
theorem b_neqb {a b : Bool} (hu : isBool P ty = true) : binPure P .neq ty x y (.bool a) (.bool b) = some (.bool (!(a == b))) := by
  simp [binPure, eqGuard, binOp, pvF, pv_map, eqIn_bool (isBool_eq hu), flat]
theorem b_eqls {a b : ByteArray} : binPure P .eql ty x y (.string a) (.string b) = some (.bool (a.data.toList == b.data.toList)) := by
  simp only [binPure, beqB_eq]
theorem b_neqs {a b : ByteArray} : binPure P .neq ty x y (.string a) (.string b) = some (.bool (!(a.data.toList == b.data.toList))) := by
  simp only [binPure, beqB_eq]
theorem b_adds {a b : ByteArray} (hs : a.size + b.size ≤ 9223372036854775807) : binPure P .add ty x y (.string a) (.string b) = some (.string (a ++ b)) := by
  have hm : IntKind.i64.max = 9223372036854775807 := by decide
  have : ¬ (((a.size + b.size : Nat) : Int) > IntKind.i64.max) := by rw [hm]; omega
  simp only [binPure, eqGuard, binOp, Op.stringOp, if_neg this, pvF, pv_pure, flat, pv_bind]
  rfl
def isSlc (P : Program) (t : TypeId) : Bool := match P.underlying t with | some (.slice _) => true | _ => false
def isPtr (P : Program) (t : TypeId) : Bool := match P.underlying t with | some (.pointer _) => true | _ => false
theorem b_eqln {u : Option Addr} {n c n' c' : Nat} (hu : isSlc P ty = true) : binPure P .eql ty x y (.slice u n c) (.slice none n' c') = some (.bool u.isNone) := by
  unfold isSlc at hu
  simp only [binPure]
  split at hu
  · rename_i h; rw [h]
  · cases hu
theorem b_neqn {u : Option Addr} {n c n' c' : Nat} (hu : isSlc P ty = true) : binPure P .neq ty x y (.slice u n c) (.slice none n' c') = some (.bool (!u.isNone)) := by
  unfold isSlc at hu
  simp only [binPure]
  split at hu
  · rename_i h; rw [h]
  · cases hu
theorem b_eqlp {u : Option Addr} (hu : isPtr P ty = true) : binPure P .eql ty x y (.pointer u) (.pointer none) = some (.bool u.isNone) := by
  unfold isPtr at hu
  simp only [binPure]
  split at hu
  · rename_i h; rw [h]
  · cases hu
theorem b_neqp {u : Option Addr} (hu : isPtr P ty = true) : binPure P .neq ty x y (.pointer u) (.pointer none) = some (.bool (!u.isNone)) := by
  unfold isPtr at hu
  simp only [binPure]
  split at hu
  · rename_i h; rw [h]
  · cases hu
end bin
theorem wrap_i64 {n : Int} (h1 : -9223372036854775808 ≤ n) (h2 : n ≤ 9223372036854775807) : IntKind.i64.wrap n = n := IntWalk.i64_in _ (by omega)
end
end
end Go.Ev

namespace Go.Ev
open Go Go.RowKit
noncomputable section
section
variable {p : Par} {P : Program} {t : TypeId} {tm : VT} {h : Heap}

/-! ### Memory -/
theorem next_put (b : Nat) (x : AObj) : (h.put b x).next = h.next := rfl
theorem lo_put (b : Nat) (x : AObj) : (h.put b x).lo = h.lo := rfl
theorem next_add (x : AObj) : (h.add x).next = h.next + 1 := by unfold Heap.add; rw [Heap.new_eq]
theorem lo_add (x : AObj) : (h.add x).lo = h.lo := by unfold Heap.add; rw [Heap.new_eq]
theorem get_put_s (b : Nat) (x : AObj) : (h.put b x).get b = some x := by rw [Heap.get_put, if_pos rfl]
theorem get_put_n (b : Nat) (x : AObj) (i : Nat) (hi : i ≠ b) : (h.put b x).get i = h.get i := by rw [Heap.get_put, if_neg hi]
theorem get_add (x : AObj) (i : Nat) : (h.add x).get i = if i = h.next then some x else h.get i := by
  unfold Heap.add; rw [Heap.new_eq]; exact Tr.get_put h.t h.next x i
theorem get_add_s (x : AObj) (i : Nat) (hi : i = h.next) : (h.add x).get i = some x := by rw [get_add, if_pos hi]
theorem get_add_n (x : AObj) (i : Nat) (hi : i ≠ h.next) : (h.add x).get i = h.get i := by rw [get_add, if_neg hi]
theorem cells_of_get {h h' : Heap} {i j : Nat} (e : h.get i = h'.get j) : cells h i = cells h' j := by unfold cells; rw [e]
theorem cells_put_s (b : Nat) (cs : List Value) (e : TypeId) (m : Bool) : cells (h.put b (O cs e m)) b = some (cs, e, m) := by unfold cells; rw [get_put_s]; rfl
theorem cells_put_n (b : Nat) (x : AObj) (i : Nat) (hi : i ≠ b) : cells (h.put b x) i = cells h i := cells_of_get (get_put_n b x i hi)
theorem cells_add_s (cs : List Value) (e : TypeId) (m : Bool) (i : Nat) (hi : i = h.next) : cells (h.add (O cs e m)) i = some (cs, e, m) := by unfold cells; rw [get_add_s _ _ hi]; rfl
theorem cells_add_n (x : AObj) (i : Nat) (hi : i ≠ h.next) : cells (h.add x) i = cells h i := cells_of_get (get_add_n x i hi)

theorem fone_bool (n : Nat) (b : Bool) : fone n (.bool b) = true := rfl
theorem fone_int (n : Nat) (k : IntKind) (b : Int) : fone n (.int k b) = true := rfl
theorem fone_str (n : Nat) (b : ByteArray) : fone n (.string b) = true := rfl
theorem fone_p0 (n : Nat) : fone n (.pointer none) = true := rfl
theorem fone_s0 (n a b : Nat) : fone n (.slice none a b) = true := rfl
theorem fone_m0 (n : Nat) : fone n (.map none) = true := rfl
theorem fone_nf (n : Nat) : fone n .nilFunc = true := rfl
theorem fone_ni (n : Nat) : fone n .nilIface = true := rfl
theorem fone_p (n b o : Nat) (hb : b < n) : fone n (.pointer (some ⟨b, o, none⟩)) = true := by
  rw [fone_eq]; simp [one, sc, scA, hb]
theorem fone_s (n b o l c : Nat) (hb : b < n) : fone n (.slice (some ⟨b, o, none⟩) l c) = true := by
  rw [fone_eq]; simp [one, sc, scA, hb]
theorem foneL_nil (n : Nat) : foneL n [] = true := rfl
theorem foneL_cons (n : Nat) (v : Value) (l : List Value) (h1 : fone n v = true) (h2 : foneL n l = true) : foneL n (v :: l) = true := by
  show (Bool.rec false (foneL n l) (fone n v) : Bool) = true
  rw [h1, h2]
/-! The same as what is asked of a side condition -/
theorem q_bool (n : Nat) (b : Bool) : (fone n (.bool b) = true) = True := by simp [fone_bool]
theorem q_int (n : Nat) (k : IntKind) (b : Int) : (fone n (.int k b) = true) = True := by simp [fone_int]
theorem q_str (n : Nat) (b : ByteArray) : (fone n (.string b) = true) = True := by simp [fone_str]
theorem q_p0 (n : Nat) : (fone n (.pointer none) = true) = True := by simp [fone_p0]
theorem q_s0 (n a b : Nat) : (fone n (.slice none a b) = true) = True := by simp [fone_s0]
theorem q_m0 (n : Nat) : (fone n (.map none) = true) = True := by simp [fone_m0]
theorem q_nf (n : Nat) : (fone n .nilFunc = true) = True := by simp [fone_nf]
theorem q_ni (n : Nat) : (fone n .nilIface = true) = True := by simp [fone_ni]
theorem q_p (n b o : Nat) : (fone n (.pointer (some ⟨b, o, none⟩)) = true) = (b < n) := by
  rw [fone_eq]; simp [one, sc, scA]
theorem q_s (n b o l c : Nat) : (fone n (.slice (some ⟨b, o, none⟩) l c) = true) = (b < n) := by
  rw [fone_eq]; simp [one, sc, scA]
theorem q_nil (n : Nat) : (foneL n [] = true) = True := by simp [foneL_nil]
theorem q_cons (n : Nat) (v : Value) (l : List Value) : (foneL n (v :: l) = true) = (fone n v = true ∧ foneL n l = true) := by
  have e : foneL n (v :: l) = (Bool.rec false (foneL n l) (fone n v) : Bool) := rfl
  rw [e]
  cases fone n v <;> simp
theorem q_func (n : Nat) (g : FuncId) (f c : List Value) : (fone n (.func (.func g) ⟨f⟩ ⟨c⟩) = true) = (scL n f = true ∧ scL n c = true) := by
  rw [fone_eq]; simp [one, sc]
theorem q_scn (n : Nat) : (scL n [] = true) = True := by simp [scL]
theorem q_scc (n : Nat) (v : Value) (l : List Value) : (scL n (v :: l) = true) = (sc n v = true ∧ scL n l = true) := by simp [scL]
theorem q_scp (n b o : Nat) : (sc n (.pointer (some ⟨b, o, none⟩)) = true) = (b < n) := by simp [sc, scA]
theorem q_scs (n b o l c : Nat) : (sc n (.slice (some ⟨b, o, none⟩) l c) = true) = (b < n) := by simp [sc, scA]
theorem q_sci (n : Nat) (k : IntKind) (b : Int) : (sc n (.int k b) = true) = True := by simp [sc]
theorem q_scb (n : Nat) (b : Bool) : (sc n (.bool b) = true) = True := by simp [sc]
theorem q_sct (n : Nat) (b : ByteArray) : (sc n (.string b) = true) = True := by simp [sc]
theorem fone_mono {n m : Nat} {v : Value} (h : fone n v = true) (hle : n ≤ m) : fone m v = true := by
  rw [fone_eq, Bool.and_eq_true] at h ⊢
  exact ⟨h.1, sc_mono hle v h.2⟩
theorem vcells_int (k : IntKind) (b : Int) : (Value.int k b).cells.toList = [.int k b] := rfl
theorem vcells_bool (b : Bool) : (Value.bool b).cells.toList = [.bool b] := rfl
theorem vcells_str (b : ByteArray) : (Value.string b).cells.toList = [.string b] := rfl
theorem vcells_p (a : Option Addr) : (Value.pointer a).cells.toList = [.pointer a] := rfl
theorem vcells_s (a : Option Addr) (n c : Nat) : (Value.slice a n c).cells.toList = [.slice a n c] := rfl
theorem vcells_m (a : Option Nat) : (Value.map a).cells.toList = [.map a] := rfl
theorem vcells_f (g : Fn) (a b : Array Value) : (Value.func g a b).cells.toList = [.func g a b] := rfl
theorem vcells_nf : (Value.nilFunc).cells.toList = [.nilFunc] := rfl
theorem vcells_i (t : TypeId) (v : Value) : (Value.iface t v).cells.toList = [.iface t v] := rfl
theorem vcells_ni : (Value.nilIface).cells.toList = [.nilIface] := rfl
theorem vcells_a (l : List Value) : (Value.agg ⟨l⟩).cells.toList = l := rfl

/-- what is read at a place of a row -/
def ldC (k : Option (Bool × Nat)) (off lo b : Nat) (c : Option (List Value × TypeId × Bool)) : Option Value := match c, k with
  | some (cs, _, _), some (q, n) => match partL q n cs off with
    | some v => seen lo b v
    | none => none
  | _, _ => none
theorem load_eq (b off : Nat) : evLoad P t (.pointer (some ⟨b, off, none⟩)) h = ldC (knd P t) off h.lo b (cells h b) := by
  unfold evLoad ldC knd
  dsimp only
  cases cells h b with
  | none => rfl
  | some c =>
    obtain ⟨cs, e, m⟩ := c
    dsimp only
    cases isAggT P t with
    | none => rfl
    | some q =>
      cases q with
      | false => rfl
      | true =>
        dsimp only
        cases szT P t with
        | none => rfl
        | some n =>
          simp only [partL]
          by_cases hle : off + n ≤ cs.length
          · rw [takeN_some cs off n hle, if_pos hle]
          · rw [if_neg hle]
            cases ht : takeN cs off n with
            | some l => exact absurd (takeN_eq ht).1 hle
            | none => rfl
theorem ldC_own (q : Bool) (n off lo b : Nat) (cs : List Value) (e : TypeId) (m : Bool) (hb : lo ≤ b) : ldC (some (q, n)) off lo b (some (cs, e, m)) = partL q n cs off := by
  unfold ldC
  dsimp only
  have : Nat.ble lo b = true := by simpa using hb
  cases partL q n cs off with
  | none => rfl
  | some v => simp only [seen, this]
theorem seen_flat (lo b : Nat) (v : Value) (hv : flat v = true) : seen lo b v = some v := by
  unfold seen
  rw [fsc_eq, flat_sc lo v hv]
  cases Nat.ble lo b <;> rfl
theorem ldC_flat (q : Bool) (n off lo b : Nat) (cs : List Value) (e : TypeId) (m : Bool) (v : Value) (hp : partL q n cs off = some v) (hv : flat v = true) : ldC (some (q, n)) off lo b (some (cs, e, m)) = some v := by
  unfold ldC
  dsimp only
  rw [hp]
  exact seen_flat lo b v hv

/-- what a store leaves -/
def stC (n off : Nat) (v : Value) (h : Heap) (b : Nat) (c : Option (List Value × TypeId × Bool)) : Option (Value × Heap) := match c with
  | some (cs, e, m) => if v.cells.toList.length = n ∧ foneL h.next v.cells.toList = true ∧ h.lo ≤ b ∧ off + n ≤ cs.length then some (undef, h.put b (O (setFrom cs off v.cells.toList) e m)) else none
  | none => none
theorem stE_eq (n b off : Nat) (v : Value) : stE (some n) (.pointer (some ⟨b, off, none⟩)) v h = stC n off v h b (cells h b) := rfl
theorem stC_s (n off : Nat) (v : Value) (b : Nat) (cs : List Value) (e : TypeId) (m : Bool) (h1 : v.cells.toList.length = n) (h2 : foneL h.next v.cells.toList = true) (h3 : h.lo ≤ b) (h4 : off + n ≤ cs.length) :
    stC n off v h b (some (cs, e, m)) = some (undef, h.put b (O (setFrom cs off v.cells.toList) e m)) := by
  simp only [stC, if_pos (And.intro h1 (And.intro h2 (And.intro h3 h4)))]
theorem bxE_s (e : TypeId) (v : Value) (h1 : foneL h.next v.cells.toList = true) : bxE e v h = some (.pointer (some ⟨h.next, 0, none⟩), h.add (O v.cells.toList e false)) := if_pos h1
theorem alE_s (cs : List Value) (e : TypeId) : alE (some cs) e h = some (.pointer (some ⟨h.next, 0, none⟩), h.add (O cs e false)) := rfl
/-- the row of a new slice -/
def bsC (len : Nat) (e : TypeId) (h : Heap) : Option (List Value) → Option (Value × Heap)
  | some cs => if foneL h.next cs = true then some (.slice (some ⟨h.next, 0, none⟩) len len, h.add (O cs e false)) else none
  | none => none
theorem bsE_eq (e : TypeId) (n : Nat) (zs : List Value) (len : Nat) (parts : List (Nat × Value)) (hl : len * n ≤ 16777216) :
    bsE (some (e, n, zs)) len parts h = bsC len e h (fillP ((List.range len).map (fun i => (i * n, n))) (List.replicate len zs).flatten parts) := by
  first
  | (simp only [bsE, if_pos hl, bsC]; done)
  | (simp only [bsE, if_pos hl, bsC]; cases fillP ((List.range len).map (fun i => (i * n, n))) (List.replicate len zs).flatten parts <;> rfl)
theorem bsC_s (len : Nat) (e : TypeId) (cs : List Value) (h1 : foneL h.next cs = true) : bsC len e h (some cs) = some (.slice (some ⟨h.next, 0, none⟩) len len, h.add (O cs e false)) := if_pos h1
theorem msE_s (e n by_ : Nat) (zs : List Value) (k j : IntKind) (l c : Int) (h1 : 0 ≤ l) (h2 : l ≤ c) (h3 : c * by_ + c < 100000000000000) :
    msE (some (e, n, by_, zs)) (.int k l) (.int j c) h = some (.slice (some ⟨h.next, 0, none⟩) l.toNat c.toNat, h.add (O (List.replicate c.toNat zs).flatten e false)) := by
  simp only [msE, if_pos (And.intro h1 (And.intro h2 h3))]
end
end
end Go.Ev
