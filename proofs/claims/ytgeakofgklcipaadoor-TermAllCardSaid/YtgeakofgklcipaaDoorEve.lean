/-
  A part of the proof: conditions over an abstract memory,and that they are enough for what the model's calls do. No condition of its own.
-/
import Derived.Test.YtgeakofgklcipaaDoorEvd
set_option linter.unusedSimpArgs false
set_option linter.unusedVariables false
namespace Go.Dv
open Go Go.RowKit Go.Ev
noncomputable section
theorem FzL.app {P:Program} {n:Nat} {σ:jA}:∀ {vs ds us es:List Value},FzL P n σ vs ds→FzL P n σ us es→FzL P n σ (vs++us) (ds++es)
 | _,_,_,_,.nil,h=>h
 | _,_,_,_,.cons h1 h2,h=>.cons h1 (FzL.app h2 h)
def orB (a b:Bool):Bool:=match a with|true=>true|false=>b
theorem orB_t (b:Bool):orB true b=true:=rfl
theorem orB_f (b:Bool):orB false b=b:=rfl
theorem mO2 (i x:Nat) (l:List Nat):memN i (x :: l)=orB (decide (i=x)) (memN i l):=by
 by_cases h:i=x
 ·rw[mM2 h,decide_eq_true h];rfl
 ·rw[mN2 h,decide_eq_false h];rfl
attribute [push_cast] orB_t orB_f mO2
section
variable {p:Par} {H:jA}
end
def flt (p:Nat→Bool):Tr→Tr
 | .nil=>.nil
 | .node l v r=>.node (flt (fun k=>p (2*k+1)) l) (if p 0 then v else none) (flt (fun k=>p (2*k+2)) r)
theorem pR0:∀ (t:Tr) (p:Nat→Bool) (i:Nat),(flt p t).get i=if p i then t.get i else none
 | .nil,p,i=>by
  rw[flt,Tr.get_nil];split<;>rfl
 | .node l v r,p,i=>by
  rw[flt,Tr.get_node,Tr.get_node,pR0 l,pR0 r]
  by_cases h0:i=0
  ·subst h0;rfl
  rw[if_neg h0,if_neg h0]
  by_cases h1:(i-1) % 2=0
  ·rw[if_pos h1,if_pos h1,show 2*((i-1) / 2)+1=i by omega]
  ·rw[if_neg h1,if_neg h1,show 2*((i-1) / 2)+2=i by omega]
def hflt (p:Nat→Bool) (σ:jA):jA:=⟨flt p σ.t,σ.next,σ.lo⟩
theorem yW0 (p:Nat→Bool) (σ:jA) (i:Nat):(hflt p σ).get i=if p i then σ.get i else none:=pR0 ..
theorem iN1 (p:Nat→Bool) (σ:jA):(hflt p σ).next=σ.next:=rfl
theorem cT2 (p:Nat→Bool) (σ:jA):(hflt p σ).lo=σ.lo:=rfl
theorem kN0 {p:Nat→Bool} (σ:jA) {i:Nat} (h:p i=true):cells (hflt p σ) i=cells σ i:=qJ (by rw[yW0,if_pos h])
attribute [push_cast] iN1 cT2
section
variable {p:Par} {H:jA}
theorem qY0 {q:Nat→Bool} {σ:jA} {i:Nat} (h:bA (hflt q σ) i):bA σ i∧q i=true:=by
 obtain ⟨h1,h2,h3⟩:=h
 rw[yW0] at h3
 split at h3
 ·rename_i hq;exact ⟨⟨h1,h2,h3⟩,hq⟩
 ·cases h3
theorem Rel.flt {g:Gh} {σ h:jA} (hr:Rel g σ h) (q:Nat→Bool) (hq:∀ i,i<σ.lo→q i=true) {F':Nat→Prop} (hF:∀ b,F' b→b<h.next∧∀ i,bA σ i→q i=true→g.δ i≠b) (hF2:∀ b,g.F b→F' b):Rel { g with F:=F' } (hflt q σ) h:=by
 have e0:Ext0 g h σ.next { g with F:=F' } h σ.next:=⟨rfl,Nat.le_refl _,fun _ _=>rfl,hF2,Nat.le_refl _,rfl,fun _ _ _=>rfl⟩
 have low:∀ i,i<σ.lo→(hflt q σ).get i=σ.get i:=fun i hi=>by rw[yW0,if_pos (hq i hi)]
 refine ⟨hr.pos,hr.lo,hr.lon,hr.hlo,fun i hi=>(low i hi).trans (hr.base i hi),fun i x hi hx=>hr.baseF i x hi (by rw[← low i hi];exact hx),fun i hi=>by rw[low i hi];exact hr.baseD i hi,fun i x hi hx=>?_,hr.dlt,fun i hi=>hr.dlo i (qY0 hi).1,fun i j hi hj e=>hr.inj i j (qY0 hi).1 (qY0 hj).1 e,fun b hb=>⟨(hF b hb).1,fun i hi=>(hF b hb).2 i (qY0 hi).1 (qY0 hi).2⟩,hr.wf⟩
 rw[yW0] at hx
 split at hx
 ·exact (hr.obj i x hi hx).ext e0 rfl
 ·cases hx
end
def gA (p:Par) (H:jA) (f:FuncId) (args:List Value) (D:Value→Prop):Prop:=
 ∀ (g:Gh) (h:jA) (vs:List Value),g.ok p H→Rel g H h→RVL g h H.next args vs→qQ0 p f vs h fun u h'=>∃ d g',D d∧Ext g H h g' H h'∧Rel g' H h'∧RV g' h' H.next d u
section
variable {p:Par} {H:jA}
theorem jX.cutE {f:FuncId} {args:List Value} {σ:jA} {R:Value→jA→Prop} (hc:jX p H f args σ fun v σ'=>∃ d σ1,R d σ1∧FzV p.P σ1.next σ' v d∧uM0 p.P σ σ1 σ'):jX p H f args σ R:=by
 intro g h vs hP hr hv
 refine (hc g h vs hP hr hv).mono ?_
 rintro u h' ⟨v,σ',⟨d,σ1,hR,hz,hk⟩,g',x,hr',hv',_⟩
 have hP':=x.ok hP
 obtain ⟨x1,r1⟩:=yV0 hr x hr' hP'.1 hk
 have:=hr.lon
 have:=hk.next
 exact ⟨d,σ1,hR,_,x1,r1,mK0 hr' hP'.1 (by rw[x.lo];omega) hk.nx hz hv',fun e=>by cases e⟩
theorem gA.cut {f:FuncId} {args:List Value} {D:Value→Prop} (hc:jX p H f args H fun v σ'=>∃ d,D d∧FzV p.P H.next σ' v d):gA p H f args D:=by
 intro g h vs hP hr hv
 refine (hc g h vs hP hr hv).mono ?_
 rintro u h' ⟨v,σ',⟨d,hD,hz⟩,g',x,hr',hv',_⟩
 have hP':=x.ok hP
 have hlo:=hr.lo
 rw[hP.2] at hlo
 have hk:uM0 p.P H H σ':=⟨Nat.le_refl _,x.nn,rfl,fun i hi=>.inl ⟨hi,by
  have h1:=hr'.base i (by rw[x.lo];omega)
  rw[hP'.2] at h1
  exact h1,rfl⟩⟩
 obtain ⟨x1,r1⟩:=yV0 hr x hr' hP'.1 hk
 exact ⟨d,_,hD,x1,r1,mK0 hr' hP'.1 (by rw[x.lo];exact hr.lon) x.nn hz hv'⟩
theorem jB.lendE {f:FuncId} {cap args args':List Value} {σ:jA} {D:Value→Prop} {K:Bool→Value→jA→Prop} (hc:gA p H f args' D) (hz:FzL p.P σ.lo σ (args++cap) args') (hK:∀ d,D d→flat d=true∧K true d σ) :
  jB p H (.func (.func f) ⟨[]⟩ ⟨cap⟩) args σ K:=by
 intro g h fv vs hP hr hf hv
 obtain ⟨cs,rfl,hcs⟩:=jY0 hf
 show wU0 p f (vs++cs) h _
 have hr2:=wT0 hr (m:=σ.lo)
 have hlo:=hr.lo
 rw[hP.2] at hr2 hlo
 have ha:=bY hr hP.1 (Nat.le_refl _) hr.lon hz (hv.app hcs)
 rw[hlo.1] at ha
 rw[hlo.1] at hr2
 refine ((hc (g.all H.next σ) h _ ⟨hP.1,hP.2⟩ hr2 ha).mono ?_).w
 rintro u h' ⟨d,g',hD,x,r',rv⟩
 obtain ⟨hd,hK⟩:=hK d hD
 have no:∀ i,¬ bA H i:=fun i hi=>by have:=hi.1;have:=hi.2.1;omega
 have hu:=RV.flat d u hd rv
 subst hu
 have hag:Agr h h':=fun b hb=>x.fr b hb fun i hi=>absurd hi (no i)
 obtain ⟨r3,e0⟩:=hr.same hag x.next x.hlo r'.wf (F':=g.F) (fun b hb=>⟨Nat.lt_of_lt_of_le (hr.frz b hb).1 x.next,(hr.frz b hb).2⟩) (fun b hb=>hb)
 exact ⟨true,u,σ,hK,{ g with F:=g.F },⟨rfl,rfl,Nat.le_refl _,rfl,x.next,x.hlo,fun _ _=>rfl,fun _ hb=>hb,fun _ hb=>.inl hb,fun b hb _=>hag b hb,fun i hi=>.inl hi⟩,r3,RV.of_flat u hd,fun _=>hag⟩
theorem jB.dataE {f:FuncId} {cap args args':List Value} {σ:jA} {D:Value→Prop} {K:Bool→Value→jA→Prop} (hc:gA p H f args' D) (hfz:FzL p.P H.next H (args++cap) args') (hz:scL σ.lo (args++cap)=true) (hK:∀ d,D d→sc σ.lo d=true∧K true d σ) :
  jB p H (.func (.func f) ⟨[]⟩ ⟨cap⟩) args σ K:=by
 intro g h fv vs hP hr hf hv
 obtain ⟨cs,rfl,hcs⟩:=jY0 hf
 show wU0 p f (vs++cs) h _
 have hlo:=hr.lo
 rw[hP.2] at hlo
 have no:∀ i,¬ bA H i:=fun i hi=>by have:=hi.1;have:=hi.2.1;omega
 have hr2:Rel g H h:=by
  have h1:=wT0 hr (m:=0)
  rw[hP.2] at h1
  exact ⟨h1.pos,h1.lo,h1.lon,h1.hlo,h1.base,h1.baseF,h1.baseD,fun i x hi hx=>by
   have hx':σ.get i=some x:=by rw[hr.base i (by omega),hP.2];exact hx
   obtain ⟨ds,e,fr,rfl,hfl⟩:=hr.baseF i x (by omega) hx'
   obtain ⟨vs,e',h2,h0,h3,h4⟩:=hr.obj i _ (by have:=hr.lon;omega) hx'
   have:=RVL.flat _ _ hfl h3
   subst this
   exact ⟨_,e',h2,fun h=>by omega,RVL.of_flat _ hfl,h4⟩,h1.dlt,fun i hi=>absurd hi (no i),fun i j hi=>absurd hi (no i),fun b hb=>⟨(hr.frz b hb).1,fun i hi=>absurd hi (no i)⟩,h1.wf⟩
 have ha:=RVL.wid (g:=g) (g':=g) (n:=σ.lo) ⟨rfl,fun _ _=>rfl,fun _ hb=>hb⟩ _ _ hz (hv.app hcs)
 rw[hlo.1] at ha
 have ha:=bY hr2 hP.1 (by omega) (Nat.le_refl _) hfz ha
 have hr4:=wT0 hr2 (m:=H.next)
 rw[hP.2] at hr4
 refine ((hc (g.all H.next H) h _ ⟨hP.1,hP.2⟩ hr4 ha).mono ?_).w
 rintro u h' ⟨d,g',hD,x,r',rv⟩
 obtain ⟨hd,hK⟩:=hK d hD
 have hag:Agr h h':=fun b hb=>x.fr b hb fun i hi=>absurd hi (no i)
 have hFn:∀ b,g'.F b→g.F b∨h.next≤b:=fun b hb=>by
  rcases x.Fn b hb with h1|h1|⟨i,hi,_⟩
  ·rcases h1 with h1|⟨i,hi,_⟩
   ·exact .inl h1
   ·exact absurd hi (no i)
  ·exact .inr h1
  ·exact absurd hi (no i)
 obtain ⟨r3,e0⟩:=hr.same hag x.next x.hlo r'.wf (F':=g'.F) (fun b hb=>⟨(r'.frz b hb).1,fun i hi=>by
  rcases hFn b hb with h1|h1
  ·exact (hr.frz b h1).2 i hi
  ·have:=hr.dlt i hi.2.1;omega⟩) (fun b hb=>x.F b (.inl hb))
 refine ⟨true,d,σ,hK,{ g with F:=g'.F },⟨rfl,rfl,Nat.le_refl _,rfl,x.next,x.hlo,fun _ _=>rfl,fun b hb=>x.F b (.inl hb),fun b hb=>by
  rcases hFn b hb with h1|h1
  ·exact .inl h1
  ·exact .inr (.inl h1),fun b hb _=>hag b hb,fun i hi=>.inl hi⟩,r3,?_,fun _=>hag⟩
 have h5:=RV.wid (g:=g') (g':={ g with F:=g'.F }) (h:=h') (N:=H.next) (n:=σ.lo) ⟨x.P.symm,fun i hi=>(x.δ i (by omega)).symm,fun _ hb=>hb⟩ d u hd rv
 exact h5.ext ⟨rfl,hr.lon,fun _ _=>rfl,fun _ hb=>hb,Nat.le_refl _,rfl,fun _ _ _=>rfl⟩
end
section
variable {p:Par} {H:jA}
theorem jB.dataI {f:FuncId} {args:List Value} {σ:jA} {d:Value} {K:Bool→Value→jA→Prop} (hc:jI p H f args d) (hz:scL H.next args=true∧scL σ.lo args=true∧sc σ.lo d=true) (hK:K true d σ) :
  jB p H (.func (.func f) ⟨[]⟩ ⟨[]⟩) args σ K:=
 jB.data (cap:=[]) hc (by rw[List.append_nil];exact FzL.ids hz.1) (by rw[List.append_nil];exact hz.2.1) hz.2.2 hK
theorem jB.dataEI {f:FuncId} {args:List Value} {σ:jA} {D:Value→Prop} {K:Bool→Value→jA→Prop} (hc:gA p H f args D) (hz:scL H.next args=true∧scL σ.lo args=true) (hK:∀ d,D d→sc σ.lo d=true∧K true d σ) :
  jB p H (.func (.func f) ⟨[]⟩ ⟨[]⟩) args σ K:=
 jB.dataE (cap:=[]) hc (by rw[List.append_nil];exact FzL.ids hz.1) (by rw[List.append_nil];exact hz.2) hK
end
theorem FzL.take {P:Program} {n:Nat} {σ:jA}:∀ {vs ds:List Value} (k:Nat),FzL P n σ vs ds→FzL P n σ (vs.take k) (ds.take k)
 | _,_,0,_=>by simp only[List.take_zero];exact .nil
 | _,_,k+1,.nil=>.nil
 | _,_,k+1,.cons h1 h2=>.cons h1 (FzL.take k h2)
theorem FzL.drop {P:Program} {n:Nat} {σ:jA}:∀ {vs ds:List Value} (k:Nat),FzL P n σ vs ds→FzL P n σ (vs.drop k) (ds.drop k)
 | _,_,0,h=>h
 | _,_,k+1,.nil=>.nil
 | _,_,k+1,.cons h1 h2=>FzL.drop k h2
section
variable {p:Par} {H:jA}
theorem jB.giveE {f:FuncId} {cap args args':List Value} {σ:jA} {D:Value→Prop} {K:Bool→Value→jA→Prop} (q:Nat→Bool) (hq:∀ i,i<σ.lo→q i=true) (hc:gA p H f args' D)
  (hz:FzL p.P σ.lo (hflt (fun i=>!q i || Nat.blt i σ.lo) σ) (args++cap) args') (hK:∀ d,D d→sc σ.lo d=true∧K true d (hflt q σ)) :
  jB p H (.func (.func f) ⟨[]⟩ ⟨cap⟩) args σ K:=by
 intro g h fv vs hP hr hf hv
 obtain ⟨cs,rfl,hcs⟩:=jY0 hf
 show wU0 p f (vs++cs) h _
 have hlo:=hr.lo
 rw[hP.2] at hlo
 have hlon:=hr.lon
 have no:∀ i,¬ bA H i:=fun i hi=>by have:=hi.1;have:=hi.2.1;omega
 have hq2:∀ i,i<σ.lo→(!q i || Nat.blt i σ.lo)=true:=fun i hi=>by
  have:Nat.blt i σ.lo=true:=by simpa using hi
  rw[this,Bool.or_true]
 have r0:=hr.flt _ hq2 (F':=g.F) (fun b hb=>⟨(hr.frz b hb).1,fun i hi _=>(hr.frz b hb).2 i hi⟩) (fun b hb=>hb)
 have r1:=wT0 r0 (m:=σ.lo)
 have hP0:g.H0=H:=hP.2
 change Rel _ g.H0 h at r1
 rw[hP0] at r1
 have ha:=bY r0 hP.1 (Nat.le_refl _) hlon hz (hv.app hcs)
 change RVL _ h σ.lo args' _ at ha
 have hl1:=hlo.1
 have ha2:RVL (Gh.all { g with F:=g.F } σ.lo (hflt (fun i=>!q i || Nat.blt i σ.lo) σ)) h H.next args' (vs++cs):=by rw[← hl1];exact ha
 refine ((hc (Gh.all { g with F:=g.F } σ.lo (hflt (fun i=>!q i || Nat.blt i σ.lo) σ)) h _ ⟨hP.1,hP.2⟩ (by rw[← hP0] at r1 ⊢;exact r1) ha2).mono ?_).w
 rintro u h' ⟨d,g',hD,x,r',rv⟩
 obtain ⟨hd,hK⟩:=hK d hD
 have hag:Agr h h':=fun b hb=>x.fr b hb fun i hi=>absurd hi (no i)
 have hFn:∀ b,g'.F b→g.F b∨h.next≤b∨∃ i,bA σ i∧q i=false∧g.δ i=b:=fun b hb=>by
  rcases x.Fn b hb with h1|h1|⟨i,hi,_⟩
  ·rcases h1 with h1|⟨i,hi,_,e⟩
   ·exact .inl h1
   ·obtain ⟨h2,h3⟩:=qY0 hi
    refine .inr (.inr ⟨i,h2,?_,e⟩)
    have:¬ Nat.blt i σ.lo=true:=by have:=h2.1;simp;omega
    cases hqi:q i with
    | false=>rfl
    | true=>rw[hqi] at h3;simp at h3;simp at this;omega
  ·exact .inr (.inl h1)
  ·exact absurd hi (no i)
 have r2:=hr.flt q hq (F':=g.F) (fun b hb=>⟨(hr.frz b hb).1,fun i hi _=>(hr.frz b hb).2 i hi⟩) (fun b hb=>hb)
 obtain ⟨r3,e0⟩:=r2.same hag x.next x.hlo r'.wf (F':=g'.F) (fun b hb=>⟨(r'.frz b hb).1,fun i hi=>by
  obtain ⟨hi1,hi2⟩:=qY0 hi
  show g.δ i≠b
  rcases hFn b hb with h1|h1|⟨j,hj,hqj,e⟩
  ·exact (hr.frz b h1).2 i hi1
  ·have:=hr.dlt i hi1.2.1;omega
  ·intro e2
   have:=hr.inj i j hi1 hj (by rw[e2,e])
   subst this
   rw[hi2] at hqj
   cases hqj⟩) (fun b hb=>x.F b (.inl hb))
 refine ⟨true,d,_,hK,{ g with F:=g'.F },⟨rfl,rfl,Nat.le_refl _,rfl,x.next,x.hlo,fun _ _=>rfl,fun b hb=>x.F b (.inl hb),fun b hb=>?_,fun b hb _=>hag b hb,fun i hi=>.inl (qY0 hi).1⟩,r3,?_,fun _=>hag⟩
 ·rcases hFn b hb with h1|h1|⟨j,hj,hqj,e⟩
  ·exact .inl h1
  ·exact .inr (.inl h1)
  ·exact .inr (.inr ⟨j,hj,e⟩)
 have h5:=RV.wid (g:=g') (g':={ g with F:=g'.F }) (h:=h') (N:=H.next) (n:=σ.lo) ⟨x.P.symm,fun i hi=>(x.δ i (by omega)).symm,fun _ hb=>hb⟩ d u hd rv
 exact h5.ext ⟨rfl,hlon,fun _ _=>rfl,fun _ hb=>hb,Nat.le_refl _,rfl,fun _ _ _=>rfl⟩
end
def Op2 (P:Program) (n:Nat) (L:List (Nat×List Value)) (w:World) (ds cs:List Value):Prop:=
 ∃ G0,∀ G,G0≤G→w.heap.size≤G→RVL (gG P n L G) (qM0 G w) n ds cs∧plL cs=true∧scL G cs=true
section
variable {P:Program} {n:Nat} {L:List (Nat×List Value)} {w:World}
theorem Op2.of {a b:List Value} (h:Op P n L w a b):Op2 P n L w a b:=by
 obtain ⟨g,h⟩:=h
 exact ⟨g,fun G hG hw=>by obtain ⟨h1,h2,h3,_⟩:=h G hG hw;exact ⟨h1,h2,h3⟩⟩
theorem Op2.append {a b c d:List Value} (h1:Op2 P n L w a c) (h2:Op2 P n L w b d):Op2 P n L w (a++b) (c++d):=by
 obtain ⟨g1,h1⟩:=h1
 obtain ⟨g2,h2⟩:=h2
 refine ⟨max g1 g2,fun G hG hw=>?_⟩
 obtain ⟨a1,a2,a3⟩:=h1 G (by omega) hw
 obtain ⟨b1,b2,b3⟩:=h2 G (by omega) hw
 exact ⟨a1.app b1,kH0 a2 b2,dM0 a3 b3⟩
theorem Op2.agg {a b:List Value} (h:Op P n L w a b):Op2 P n L w [.agg ⟨a⟩] [.agg ⟨b⟩]:=by
 obtain ⟨g,h⟩:=h
 refine ⟨g,fun G hG hw=>?_⟩
 obtain ⟨h1,h2,h3,_⟩:=h G hG hw
 refine ⟨?_,?_,?_⟩
 ·simp only[RVL,RV]
  exact ⟨_,[],rfl,⟨b,rfl,h1⟩,rfl⟩
 ·simp[plL,pl,h2]
 ·simp[scL,Ev.sc,h3]
end
section
variable {g g':Gh} {σ σ' h h':jA} {p:Par} {q:Q}
theorem bK0 {l:Nat} {r:Loop}:qM h l=some r↔(∃ m,h.get l=some ⟨.loop r,m⟩)∧h.lo≤l:=by
 constructor
 ·intro e
  unfold qM at e
  split at e
  ·rename_i r' m hg
   split at e
   ·rename_i hlo
    cases e
    exact ⟨⟨m,hg⟩,by simpa using hlo⟩
   ·cases e
  ·cases e
 ·rintro ⟨⟨m,hg⟩,hlo⟩
  exact jI0 hg hlo
theorem yU0 (hr:Rel g σ h) {l:Nat} {r:Loop} (hl:qM σ l=some r) (hlt:l<σ.next) :
  bA σ l∧∃ us,qM h (g.δ l)=some { r with tmps:=⟨us⟩,defers:=g.δ r.defers }∧RVL g h σ.next r.tmps.toList us∧∀ st pd,Ext g σ h g (jS σ l { r with state:=st,pending:=pd }) (jS h (g.δ l) { r with tmps:=⟨us⟩,defers:=g.δ r.defers,state:=st,pending:=pd })∧
   Rel g (jS σ l { r with state:=st,pending:=pd }) (jS h (g.δ l) { r with tmps:=⟨us⟩,defers:=g.δ r.defers,state:=st,pending:=pd }):=by
 obtain ⟨⟨m,hg⟩,hlo⟩:=bK0.1 hl
 have hown:bA σ l:=hr.own hlt hlo hg
 obtain ⟨us,h1,h2,h3⟩:=hr.obj l _ hlt hg
 refine ⟨hown,us,bK0.2 ⟨⟨m,h1⟩,hr.dlo l hown⟩,h3,fun st pd=>?_⟩
 exact gW0 hr hown (x:=⟨.loop { r with state:=st,pending:=pd },false⟩) (y:=⟨.loop { r with tmps:=⟨us⟩,defers:=g.δ r.defers,state:=st,pending:=pd },false⟩) fun h' e1 x=>⟨us,e1,h2,h3.ext x⟩
def lJ0 (l:Nat) (K:Bool→Value→jA→Prop) (e:jJ) (s2:S):Prop:=
 match qM s2.h l with
 | some r2=>K false (.bool e.jump.isNone) (jS s2.h l { r2 with state:=if e.jump.isNone then .ready else .done,pending:=e.jump })
 | none=>False
def iQ0 (p:Par) (q:Q) (l:Nat) (bIR:IR) (K:Bool→Value→jA→Prop) (e:jJ) (s1:S):Prop:=
 match e with
 | .normal=>match qM s1.h l with
  | some r1=>r1.state=.ready∧dc3 p q (some l) bIR ⟨s1.tm,s1.df,jS s1.h l { r1 with state:=.busy }⟩ (@kR ⟨lJ0 l K⟩)
  | none=>False
 | _=>False
theorem dA0:∀ {l:List (Nat×Value)} {l':List (Nat×Value)} {N:Nat} {D T:VT},Tms g h N D T→l.map Prod.fst=l'.map Prod.fst→RVL g h N (l.map Prod.snd) (l'.map Prod.snd)→Tms g h N (bL D l) (bL T l')
 | [],[],N,D,T,ht,_,_=>ht
 | (a,x) :: l,(b,y) :: l',N,D,T,ht,he,hv=>by
  simp only[List.map_cons,List.cons.injEq] at he
  simp only[List.map_cons,RVL] at hv
  obtain ⟨v,vs,e,h1,h2⟩:=hv
  simp only[List.cons.injEq] at e
  obtain ⟨e1,e2⟩:=e
  subst e2
  have e1':y=v:=e1
  subst e1'
  have ha:a=b:=he.1
  subst ha
  exact dA0 (D:=D.set a x) (T:=T.set a y) (ht.set a h1) he.2 h2
 | [],_ :: _,_,_,_,_,he,_=>by cases he
 | _ :: _,[],_,_,_,_,he,_=>by cases he
theorem iH2 {N:Nat} {T:VT} (hU:T.sz<U) {us:List Value} (hv:RVL g h N T.arr.toList us):∃ T':VT,T'.arr=⟨us⟩∧Tms g h N T T':=by
 have hlen:=hv.len
 have hTl:T.arr.toList.length=T.sz:=by rw[Array.length_toList,VT.arr_size]
 have hsz:(VT.of us us.length).sz=us.length:=by
  show us.length+(us.length-us.length)=_
  omega
 have harr:(VT.of us us.length).arr=⟨us⟩:=by
  rw[VT.of_arr _ _ (by rw[hsz];omega)]
  apply Array.ext';simp
 refine ⟨VT.of us us.length,harr,by rw[hsz];omega,hU,fun i=>?_⟩
 rw[← VT.arr_getD,← VT.arr_getD,harr]
 simp only[Array.getD_eq_getD_getElem?,List.getElem?_toArray]
 cases hi:T.arr.toList[i]? with
 | none=>
  have h2:us[i]?=none:=by
   rw[List.getElem?_eq_none_iff] at hi ⊢
   omega
  rw[Array.getElem?_toList] at hi
  rw[h2,hi]
  exact RV.undef
 | some d=>
  obtain ⟨v,h1,h2⟩:=hv.get hi
  rw[Array.getElem?_toList] at hi
  rw[h1,hi]
  exact h2
theorem jB.mono {H:jA} {f:Value} {args:List Value} {K K':Bool→Value→jA→Prop} (hc:jB p H f args σ K) (hK:∀ b d σ',K b d σ'→K' b d σ'):jB p H f args σ K':=
 fun g h fv vs hP hr hf hv=>(hc g h fv vs hP hr hf hv).mono fun u h' ⟨b,d,σ',h1,h2⟩=>⟨b,d,σ',hK b d σ' h1,h2⟩
theorem jB.yield (qB:kW0 p) {l:Nat} {r:Loop} {args:List Value} {K:Bool→Value→jA→Prop} {T:VT} {aIR bIR:IR} (hl:qM σ l=some r) (hlt:l<σ.next) (hT:r.tmps=T.arr) (hU:T.sz<U) (hlen:args.length=r.params.toList.length)
  (ha:comp p.P r.assign=aIR) (hb:comp p.P r.body=bIR) (hoka:irOk p.NG aIR=true) (hokb:irOk p.NG bIR=true) (hNG:p.NG≤σ.lo) (hv:dc3 p q (some l) aIR ⟨bL T (r.params.toList.zip args),[],σ⟩ (@kR ⟨iQ0 p q l bIR K⟩)) :
  jB p q.H (.func (.yield l) ⟨[]⟩ ⟨[]⟩) args σ K:=by
 intro g h fv vs hP hr hf hvs
 simp only[RV,RVL,RowP] at hf
 obtain ⟨vs0,rfl,-,-,rfl⟩:=hf
 obtain ⟨hown,us,hgl,hus,_⟩:=yU0 hr hl hlt
 rw[hT] at hus
 obtain ⟨T',hT',ht⟩:=iH2 hU hus
 have hlen':vs.length=r.params.toList.length:=by rw[hvs.len];exact hlen
 show uL0 p (g.δ l) vs h _
 refine uL0.of hgl (T:=T') hT'.symm (by rw[ht.sz];exact hU) hlen' (wX0 qB _ _ _ ?_)
 show vc p (some (g.δ l)) (comp p.P r.assign) _ _
 rw[ha]
 rw[zR0] at hv
 have hz:Tms g h σ.next (bL T (r.params.toList.zip args)) (bL T' (r.params.toList.zip vs)):=by
  refine dA0 ht ?_ ?_
  ·rw[List.map_fst_zip (by omega),List.map_fst_zip (by omega)]
  ·rw[List.map_snd_zip (by omega),List.map_snd_zip (by omega)];exact hvs
 have h1:=zQ0 aIR hoka hP hNG (D:=⟨bL T (r.params.toList.zip args),[],σ⟩) (s:=⟨bL T' (r.params.toList.zip vs),[],h⟩) ⟨hr,hz,rfl,fun d hd=>by cases hd⟩ (ro:=some l) (fun l' e=>by cases e;exact hlt) hv
 refine bO _ _ _ _ (fun e s1 hA=>?_) h1
 obtain ⟨g1,D1,hd,x1,r1⟩:=hA
 have hδ1:g1.δ l=g.δ l:=x1.δ l hlt
 have hlt1:l<D1.h.next:=Nat.lt_of_lt_of_le hlt x1.nn
 change iQ0 p q l bIR K e D1 at hd
 unfold iQ0 at hd
 unfold rI0
 cases e with
 | exit i=>exact hd.elim
 | goto t=>exact hd.elim
 | ret=>exact hd.elim
 | normal=>
  dsimp only at hd ⊢
  split at hd
  ·rename_i r1' hg1
   obtain ⟨hst,hbody⟩:=hd
   obtain ⟨hown1,us1,hgl1,hus1,hput1⟩:=yU0 r1.r hg1 hlt1
   rw[hδ1] at hgl1
   rw[hgl1]
   refine ⟨hst,wX0 qB _ _ _ ?_⟩
   show vc p (some (g.δ l)) (comp p.P r.body) _ _
   rw[hb]
   obtain ⟨x2,rel2⟩:=hput1 .busy r1'.pending
   rw[hδ1] at x2 rel2
   rw[zR0] at hbody
   have hs2:SRel g1 ⟨D1.tm,D1.df,jS D1.h l { r1' with state:=.busy }⟩ ⟨s1.tm,s1.df,jS s1.h (g.δ l) { r1' with tmps:=⟨us1⟩,defers:=g1.δ r1'.defers,state:=.busy }⟩:=
    r1.ext (D':=⟨D1.tm,D1.df,jS D1.h l { r1' with state:=.busy }⟩) (s':=⟨s1.tm,s1.df,jS s1.h (g.δ l) { r1' with tmps:=⟨us1⟩,defers:=g1.δ r1'.defers,state:=.busy }⟩) x2 rel2 (r1.t.ext (x2.e0 r1.r)) rfl rfl
   have h2:=zQ0 bIR hokb (x1.ok hP) (D:=⟨D1.tm,D1.df,jS D1.h l { r1' with state:=.busy }⟩) (by show p.NG≤D1.h.lo;rw[x1.lo];exact hNG) hs2 (ro:=some l) (fun l' e=>by cases e;exact hlt1) hbody
   rw[Option.map_some,hδ1] at h2
   refine bO _ _ _ _ (fun e s2 hB=>?_) h2
   obtain ⟨g2,D2,hd2,x3,r2⟩:=hB
   have hδ2:g2.δ l=g.δ l:=(x3.δ l hlt1).trans hδ1
   have hlt2:l<D2.h.next:=Nat.lt_of_lt_of_le hlt1 x3.nn
   change lJ0 l K e D2 at hd2
   unfold lJ0 at hd2
   unfold cA1
   split at hd2
   ·rename_i r2' hg2
    obtain ⟨_,us2,hgl2,_,hput2⟩:=yU0 r2.r hg2 hlt2
    rw[hδ2] at hgl2
    rw[hgl2]
    dsimp only
    obtain ⟨x4,rel4⟩:=hput2 (if e.jump.isNone then .ready else .done) e.jump
    rw[hδ2] at x4 rel4
    exact ⟨false,_,_,hd2,g2,((x1.trans x2).trans x3).trans x4,rel4,(by simp only[RV]),fun e=>by cases e⟩
   ·exact hd2.elim
  ·exact hd.elim
theorem WD.range (qB:kW0 p) {gop:Operand} {ps:Array Tmp} {a b:Code} {D:S} {R:jJ→S→Prop} {f:FuncId} {captured:List Value} (hok:kG p.NG gop=true) (hg:ev D.tm gop=.func (.func f) ⟨[]⟩ ⟨captured⟩)
  (hc:jX p q.H f (.func (.yield (D.h.next+1)) ⟨[]⟩ ⟨[]⟩ :: captured) ((D.h.add ⟨.deferred (some []),false⟩).add ⟨.loop { state:=.ready,pending:=none,fn:=0,tmps:=D.tm.arr,params:=ps,assign:=a,body:=b,defers:=D.h.next },false⟩) (yC0 (D.h.next+1) D [D.h.next] R)) :
  WD p q.H none (.range gop ps a b) D R:=by
 intro g s hP hNG hs hro
 have hr:=hs.r
 obtain ⟨x1,r1,_⟩:=cE0 hr (x:=⟨.deferred (some []),false⟩) (y:=⟨.deferred (some []),false⟩) fun h' g' N' _ e=>e
 have hδ1:(g.new D.h.next s.h.next).δ D.h.next=s.h.next:=if_pos rfl
 have ht1:=hs.t.ext (x1.e0 hr)
 have hus:RVL (g.new D.h.next s.h.next) (s.h.add ⟨.deferred (some []),false⟩) (D.h.add ⟨.deferred (some []),false⟩).next D.tm.arr.toList s.tm.arr.toList:=by
  refine RVL.of (by rw[Array.length_toList,Array.length_toList,VT.arr_size,VT.arr_size,hs.t.sz]) fun i d v h1 h2=>?_
  have:=ht1.get i
  rw[← VT.arr_getD,← VT.arr_getD] at this
  rw[Array.getElem?_toList] at h1 h2
  simp only[Array.getD_eq_getD_getElem?,h1,h2,Option.getD_some] at this
  exact this
 obtain ⟨x2,r2,_⟩:=cE0 r1 (x:=⟨.loop { state:=.ready,pending:=none,fn:=0,tmps:=D.tm.arr,params:=ps,assign:=a,body:=b,defers:=D.h.next },false⟩) (y:=⟨.loop { state:=.ready,pending:=none,fn:=0,tmps:=s.tm.arr,params:=ps,assign:=a,body:=b,defers:=s.h.next },false⟩) fun h' g' N' x e=>by
  refine ⟨s.tm.arr.toList,?_,?_,hus.ext x⟩
  ·rw[e,x.δ _ (by rw[jK];exact Nat.lt_succ_self _),hδ1]
  ·have:=x.nn
   rw[jK] at this
   show D.h.next<N'
   omega
 have hn1:(D.h.add ⟨.deferred (some []),false⟩).next=D.h.next+1:=jK _
 have hn2:(s.h.add ⟨.deferred (some []),false⟩).next=s.h.next+1:=jK _
 rw[hn1,hn2] at x2 r2
 have x12:=x1.trans x2
 generalize hg2:(g.new D.h.next s.h.next).new (D.h.next+1) (s.h.next+1)=g2 at x2 r2 x12
 have hδ2:g2.δ (D.h.next+1)=s.h.next+1:=by rw[← hg2];exact if_pos rfl
 have hδ3:g2.δ D.h.next=s.h.next:=by rw[x2.δ _ (by rw[jK];omega)];exact hδ1
 have hgv:=qK0 hr hs.t hNG hok
 rw[hg] at hgv
 simp only[RV,RVL] at hgv
 obtain ⟨us,cv,e1,e2,hcap⟩:=hgv
 have e2':us=[]:=e2
 subst e2'
 have hent:wM0 none s.tm ps a b s.h=some (s.h.next+1,[s.h.next],(s.h.add ⟨.deferred (some []),false⟩).add ⟨.loop { state:=.ready,pending:=none,fn:=0,tmps:=s.tm.arr,params:=ps,assign:=a,body:=b,defers:=s.h.next },false⟩):=by
  simp only[wM0,jA.add]
  try (rw[jA.new_eq,jA.new_eq])
 have hro':∀ ro:Option Nat,ro=none→ro.map g.δ=none:=fun ro e=>by rw[e];rfl
 show W p none _ s _
 refine W.range hent e1 ?_
 refine (hc g2 _ _ (x12.ok hP) r2 (RVL.cons ?_ (hcap.ext (x12.e0 hr)))).mono ?_
 ·simp only[RV]
  exact ⟨[],by simp only[RVL],rfl,by rw[jK,jK];omega,by rw[hδ2]⟩
 ·rintro u h3 ⟨d,σ',hl,g3,x3,r3,_,_⟩
  have hx:=x12.trans x3
  have hlt3:D.h.next+1<σ'.next:=by have:=x3.nn;rw[jK,jK] at this;omega
  have hδ4:g3.δ (D.h.next+1)=s.h.next+1:=by rw[x3.δ _ (by rw[jK,jK];omega)];exact hδ2
  have hδ5:g3.δ D.h.next=s.h.next:=by rw[x3.δ _ (by rw[jK,jK];omega)];exact hδ3
  unfold yC0 at hl ⊢
  split at hl
  ·rename_i e s' he
   unfold uE0 at he
   split at he
   ·rename_i r hgl
    have hgl:qM σ' (D.h.next+1)=some r:=hgl
    obtain ⟨_,us3,hgl3,_,hput⟩:=yU0 r3 hgl hlt3
    obtain ⟨x4,r4⟩:=hput .exhausted r.pending
    rw[hδ4] at hgl3 x4 r4
    have fin:∀ e',R e' ⟨D.tm,D.h.next :: D.df,jS σ' (D.h.next+1) { r with state:=.exhausted }⟩→RA g D.h s.h R e' ⟨s.tm,s.h.next :: s.df,jS h3 (s.h.next+1) { r with tmps:=⟨us3⟩,defers:=g3.δ r.defers,state:=.exhausted }⟩:=fun e' hR=>by
     refine ⟨g3,_,hR,hx.trans x4,r4,hs.t.ext ((hx.trans x4).e0 hr),?_,fun d hd=>?_⟩
     ·show s.h.next :: s.df=(D.h.next :: D.df).map g3.δ
      rw[List.map_cons,hδ5,hs.df]
      congr 1
      exact List.map_congr_left fun d hd=>((hx.trans x4).δ d (hs.dl d hd)).symm
     ·show d<σ'.next
      rcases List.mem_cons.1 hd with rfl|hd
      ·omega
      ·have:=hs.dl d hd;omega
    unfold uE0
    show (match (match qM h3 (s.h.next+1) with|some r=>_|none=>_:Option (jJ×S)) with|some (e,s')=>_|none=>_)
    rw[hgl3]
    clear hgl3 x4 r4 hput hgl
    rcases r with ⟨st,pd,fn,tm',ps',as',bd',df'⟩
    dsimp only at he fin ⊢
    cases st
    all_goals
     dsimp only at he ⊢
     first
     | (cases he;done)
     | (cases pd with
        | none=>cases he;exact fin _ hl
        | some c=>cases c<;>first | (cases he;done) | (cases he;exact fin _ hl))
   ·cases he
  ·exact hl.elim
end
end
end Go.Dv
