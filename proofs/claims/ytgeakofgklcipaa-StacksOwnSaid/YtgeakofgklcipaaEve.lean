/-
  A part of the proof: conditions over an abstract memory,and that they are enough for what the model's calls do. No condition of its own.
-/
import Derived.Test.YtgeakofgklcipaaEvd
set_option linter.unusedSimpArgs false
set_option linter.unusedVariables false
namespace Go.Dv
open Go Go.RowKit Go.Ev
noncomputable section
theorem FzL.app {P:Program} {n:Nat} {σ:jA}:∀ {vs ds us es:List Value},FzL P n σ vs ds→FzL P n σ us es→FzL P n σ (vs++us) (ds++es)
 | _,_,_,_,.nil,h=>h
 | _,_,_,_,.cons h1 h2,h=>.cons h1 (FzL.app h2 h)
def orB (a b:Bool):Bool:=match a with|true=>true|false=>b
theorem orB_t (b:Bool):orB true b=true:=rfl
theorem orB_f (b:Bool):orB false b=b:=rfl
theorem kJ2 (i x:Nat) (l:List Nat):memN i (x :: l)=orB (decide (i=x)) (memN i l):=by
 by_cases h:i=x
 ·rw[kH2 h,decide_eq_true h];rfl
 ·rw[kI2 h,decide_eq_false h];rfl
attribute [push_cast] orB_t orB_f kJ2
section
variable {p:Par} {H:jA}
end
def flt (p:Nat→Bool):Tr→Tr
 | .nil=>.nil
 | .node l v r=>.node (flt (fun k=>p (2*k+1)) l) (if p 0 then v else none) (flt (fun k=>p (2*k+2)) r)
theorem mQ0:∀ (t:Tr) (p:Nat→Bool) (i:Nat),(flt p t).get i=if p i then t.get i else none
 | .nil,p,i=>by
  rw[flt,Tr.get_nil];split<;>rfl
 | .node l v r,p,i=>by
  rw[flt,Tr.get_node,Tr.get_node,mQ0 l,mQ0 r]
  by_cases h0:i=0
  ·subst h0;rfl
  rw[if_neg h0,if_neg h0]
  by_cases h1:(i-1) % 2=0
  ·rw[if_pos h1,if_pos h1,show 2*((i-1) / 2)+1=i by omega]
  ·rw[if_neg h1,if_neg h1,show 2*((i-1) / 2)+2=i by omega]
def hflt (p:Nat→Bool) (σ:jA):jA:=⟨flt p σ.t,σ.next,σ.lo⟩
theorem wW0 (p:Nat→Bool) (σ:jA) (i:Nat):(hflt p σ).get i=if p i then σ.get i else none:=mQ0 ..
theorem iC0 (p:Nat→Bool) (σ:jA):(hflt p σ).next=σ.next:=rfl
theorem gH1 (p:Nat→Bool) (σ:jA):(hflt p σ).lo=σ.lo:=rfl
theorem zW0 {p:Nat→Bool} (σ:jA) {i:Nat} (h:p i=true):cells (hflt p σ) i=cells σ i:=jZ (by rw[wW0,if_pos h])
attribute [push_cast] iC0 gH1
section
variable {p:Par} {H:jA}
theorem jT0 {q:Nat→Bool} {σ:jA} {i:Nat} (h:kS (hflt q σ) i):kS σ i∧q i=true:=by
 obtain ⟨h1,h2,h3⟩:=h
 rw[wW0] at h3
 split at h3
 ·rename_i hq;exact ⟨⟨h1,h2,h3⟩,hq⟩
 ·cases h3
theorem Rel.flt {g:Gh} {σ h:jA} (hr:Rel g σ h) (q:Nat→Bool) (hq:∀ i,i<σ.lo→q i=true) {F':Nat→Prop} (hF:∀ b,F' b→b<h.next∧∀ i,kS σ i→q i=true→g.δ i≠b) (hF2:∀ b,g.F b→F' b):Rel { g with F:=F' } (hflt q σ) h:=by
 have e0:Ext0 g h σ.next { g with F:=F' } h σ.next:=⟨rfl,Nat.le_refl _,fun _ _=>rfl,hF2,Nat.le_refl _,rfl,fun _ _ _=>rfl⟩
 have low:∀ i,i<σ.lo→(hflt q σ).get i=σ.get i:=fun i hi=>by rw[wW0,if_pos (hq i hi)]
 refine ⟨hr.pos,hr.lo,hr.lon,hr.hlo,fun i hi=>(low i hi).trans (hr.base i hi),fun i x hi hx=>hr.baseF i x hi (by rw[← low i hi];exact hx),fun i hi=>by rw[low i hi];exact hr.baseD i hi,fun i x hi hx=>?_,hr.dlt,fun i hi=>hr.dlo i (jT0 hi).1,fun i j hi hj e=>hr.inj i j (jT0 hi).1 (jT0 hj).1 e,fun b hb=>⟨(hF b hb).1,fun i hi=>(hF b hb).2 i (jT0 hi).1 (jT0 hi).2⟩,hr.wf⟩
 rw[wW0] at hx
 split at hx
 ·exact (hr.obj i x hi hx).ext e0 rfl
 ·cases hx
end
def qL (p:Par) (H:jA) (f:FuncId) (args:List Value) (D:Value→Prop):Prop:=
 ∀ (g:Gh) (h:jA) (vs:List Value),g.ok p H→Rel g H h→RVL g h H.next args vs→uN0 p f vs h fun u h'=>∃ d g',D d∧Ext g H h g' H h'∧Rel g' H h'∧RV g' h' H.next d u
section
variable {p:Par} {H:jA}
theorem jD.cutE {f:FuncId} {args:List Value} {σ:jA} {R:Value→jA→Prop} (hc:jD p H f args σ fun v σ'=>∃ d σ1,R d σ1∧FzV p.P σ1.next σ' v d∧bM p.P σ σ1 σ'):jD p H f args σ R:=by
 intro g h vs hP hr hv
 refine (hc g h vs hP hr hv).mono ?_
 rintro u h' ⟨v,σ',⟨d,σ1,hR,hz,hk⟩,g',x,hr',hv',_⟩
 have hP':=x.ok hP
 obtain ⟨x1,r1⟩:=yA0 hr x hr' hP'.1 hk
 have:=hr.lon
 have:=hk.next
 exact ⟨d,σ1,hR,_,x1,r1,iD0 hr' hP'.1 (by rw[x.lo];omega) hk.nx hz hv',fun e=>by cases e⟩
theorem qL.cut {f:FuncId} {args:List Value} {D:Value→Prop} (hc:jD p H f args H fun v σ'=>∃ d,D d∧FzV p.P H.next σ' v d):qL p H f args D:=by
 intro g h vs hP hr hv
 refine (hc g h vs hP hr hv).mono ?_
 rintro u h' ⟨v,σ',⟨d,hD,hz⟩,g',x,hr',hv',_⟩
 have hP':=x.ok hP
 have hlo:=hr.lo
 rw[hP.2] at hlo
 have hk:bM p.P H H σ':=⟨Nat.le_refl _,x.nn,rfl,fun i hi=>.inl ⟨hi,by
  have h1:=hr'.base i (by rw[x.lo];omega)
  rw[hP'.2] at h1
  exact h1,rfl⟩⟩
 obtain ⟨x1,r1⟩:=yA0 hr x hr' hP'.1 hk
 exact ⟨d,_,hD,x1,r1,iD0 hr' hP'.1 (by rw[x.lo];exact hr.lon) x.nn hz hv'⟩
theorem jB.lendE {f:FuncId} {cap args args':List Value} {σ:jA} {D:Value→Prop} {K:Bool→Value→jA→Prop} (hc:qL p H f args' D) (hz:FzL p.P σ.lo σ (args++cap) args') (hK:∀ d,D d→flat d=true∧K true d σ) :
  jB p H (.func (.func f) ⟨[]⟩ ⟨cap⟩) args σ K:=by
 intro g h fv vs hP hr hf hv
 obtain ⟨cs,rfl,hcs⟩:=jR0 hf
 show zL0 p f (vs++cs) h _
 have hr2:=wE0 hr (m:=σ.lo)
 have hlo:=hr.lo
 rw[hP.2] at hr2 hlo
 have ha:=gI hr hP.1 (Nat.le_refl _) hr.lon hz (hv.app hcs)
 rw[hlo.1] at ha
 rw[hlo.1] at hr2
 refine ((hc (g.all H.next σ) h _ ⟨hP.1,hP.2⟩ hr2 ha).mono ?_).w
 rintro u h' ⟨d,g',hD,x,r',rv⟩
 obtain ⟨hd,hK⟩:=hK d hD
 have no:∀ i,¬ kS H i:=fun i hi=>by have:=hi.1;have:=hi.2.1;omega
 have hu:=RV.flat d u hd rv
 subst hu
 have hag:Agr h h':=fun b hb=>x.fr b hb fun i hi=>absurd hi (no i)
 obtain ⟨r3,e0⟩:=hr.same hag x.next x.hlo r'.wf (F':=g.F) (fun b hb=>⟨Nat.lt_of_lt_of_le (hr.frz b hb).1 x.next,(hr.frz b hb).2⟩) (fun b hb=>hb)
 exact ⟨true,u,σ,hK,{ g with F:=g.F },⟨rfl,rfl,Nat.le_refl _,rfl,x.next,x.hlo,fun _ _=>rfl,fun _ hb=>hb,fun _ hb=>.inl hb,fun b hb _=>hag b hb,fun i hi=>.inl hi⟩,r3,RV.of_flat u hd,fun _=>hag⟩
theorem jB.dataE {f:FuncId} {cap args args':List Value} {σ:jA} {D:Value→Prop} {K:Bool→Value→jA→Prop} (hc:qL p H f args' D) (hfz:FzL p.P H.next H (args++cap) args') (hz:scL σ.lo (args++cap)=true) (hK:∀ d,D d→sc σ.lo d=true∧K true d σ) :
  jB p H (.func (.func f) ⟨[]⟩ ⟨cap⟩) args σ K:=by
 intro g h fv vs hP hr hf hv
 obtain ⟨cs,rfl,hcs⟩:=jR0 hf
 show zL0 p f (vs++cs) h _
 have hlo:=hr.lo
 rw[hP.2] at hlo
 have no:∀ i,¬ kS H i:=fun i hi=>by have:=hi.1;have:=hi.2.1;omega
 have hr2:Rel g H h:=by
  have h1:=wE0 hr (m:=0)
  rw[hP.2] at h1
  exact ⟨h1.pos,h1.lo,h1.lon,h1.hlo,h1.base,h1.baseF,h1.baseD,fun i x hi hx=>by
   have hx':σ.get i=some x:=by rw[hr.base i (by omega),hP.2];exact hx
   obtain ⟨ds,e,fr,rfl,hfl⟩:=hr.baseF i x (by omega) hx'
   obtain ⟨vs,e',h2,h0,h3,h4⟩:=hr.obj i _ (by have:=hr.lon;omega) hx'
   have:=RVL.flat _ _ hfl h3
   subst this
   exact ⟨_,e',h2,fun h=>by omega,RVL.of_flat _ hfl,h4⟩,h1.dlt,fun i hi=>absurd hi (no i),fun i j hi=>absurd hi (no i),fun b hb=>⟨(hr.frz b hb).1,fun i hi=>absurd hi (no i)⟩,h1.wf⟩
 have ha:=RVL.wid (g:=g) (g':=g) (n:=σ.lo) ⟨rfl,fun _ _=>rfl,fun _ hb=>hb⟩ _ _ hz (hv.app hcs)
 rw[hlo.1] at ha
 have ha:=gI hr2 hP.1 (by omega) (Nat.le_refl _) hfz ha
 have hr4:=wE0 hr2 (m:=H.next)
 rw[hP.2] at hr4
 refine ((hc (g.all H.next H) h _ ⟨hP.1,hP.2⟩ hr4 ha).mono ?_).w
 rintro u h' ⟨d,g',hD,x,r',rv⟩
 obtain ⟨hd,hK⟩:=hK d hD
 have hag:Agr h h':=fun b hb=>x.fr b hb fun i hi=>absurd hi (no i)
 have hFn:∀ b,g'.F b→g.F b∨h.next≤b:=fun b hb=>by
  rcases x.Fn b hb with h1|h1|⟨i,hi,_⟩
  ·rcases h1 with h1|⟨i,hi,_⟩
   ·exact .inl h1
   ·exact absurd hi (no i)
  ·exact .inr h1
  ·exact absurd hi (no i)
 obtain ⟨r3,e0⟩:=hr.same hag x.next x.hlo r'.wf (F':=g'.F) (fun b hb=>⟨(r'.frz b hb).1,fun i hi=>by
  rcases hFn b hb with h1|h1
  ·exact (hr.frz b h1).2 i hi
  ·have:=hr.dlt i hi.2.1;omega⟩) (fun b hb=>x.F b (.inl hb))
 refine ⟨true,d,σ,hK,{ g with F:=g'.F },⟨rfl,rfl,Nat.le_refl _,rfl,x.next,x.hlo,fun _ _=>rfl,fun b hb=>x.F b (.inl hb),fun b hb=>by
  rcases hFn b hb with h1|h1
  ·exact .inl h1
  ·exact .inr (.inl h1),fun b hb _=>hag b hb,fun i hi=>.inl hi⟩,r3,?_,fun _=>hag⟩
 have h5:=RV.wid (g:=g') (g':={ g with F:=g'.F }) (h:=h') (N:=H.next) (n:=σ.lo) ⟨x.P.symm,fun i hi=>(x.δ i (by omega)).symm,fun _ hb=>hb⟩ d u hd rv
 exact h5.ext ⟨rfl,hr.lon,fun _ _=>rfl,fun _ hb=>hb,Nat.le_refl _,rfl,fun _ _ _=>rfl⟩
end
section
variable {p:Par} {H:jA}
theorem jB.dataI {f:FuncId} {args:List Value} {σ:jA} {d:Value} {K:Bool→Value→jA→Prop} (hc:jG p H f args d) (hz:scL H.next args=true∧scL σ.lo args=true∧sc σ.lo d=true) (hK:K true d σ) :
  jB p H (.func (.func f) ⟨[]⟩ ⟨[]⟩) args σ K:=
 jB.data (cap:=[]) hc (by rw[List.append_nil];exact FzL.ids hz.1) (by rw[List.append_nil];exact hz.2.1) hz.2.2 hK
theorem jB.dataEI {f:FuncId} {args:List Value} {σ:jA} {D:Value→Prop} {K:Bool→Value→jA→Prop} (hc:qL p H f args D) (hz:scL H.next args=true∧scL σ.lo args=true) (hK:∀ d,D d→sc σ.lo d=true∧K true d σ) :
  jB p H (.func (.func f) ⟨[]⟩ ⟨[]⟩) args σ K:=
 jB.dataE (cap:=[]) hc (by rw[List.append_nil];exact FzL.ids hz.1) (by rw[List.append_nil];exact hz.2) hK
end
theorem FzL.take {P:Program} {n:Nat} {σ:jA}:∀ {vs ds:List Value} (k:Nat),FzL P n σ vs ds→FzL P n σ (vs.take k) (ds.take k)
 | _,_,0,_=>by simp only[List.take_zero];exact .nil
 | _,_,k+1,.nil=>.nil
 | _,_,k+1,.cons h1 h2=>.cons h1 (FzL.take k h2)
theorem FzL.drop {P:Program} {n:Nat} {σ:jA}:∀ {vs ds:List Value} (k:Nat),FzL P n σ vs ds→FzL P n σ (vs.drop k) (ds.drop k)
 | _,_,0,h=>h
 | _,_,k+1,.nil=>.nil
 | _,_,k+1,.cons h1 h2=>FzL.drop k h2
section
variable {p:Par} {H:jA}
theorem jB.giveE {f:FuncId} {cap args args':List Value} {σ:jA} {D:Value→Prop} {K:Bool→Value→jA→Prop} (q:Nat→Bool) (hq:∀ i,i<σ.lo→q i=true) (hc:qL p H f args' D)
  (hz:FzL p.P σ.lo (hflt (fun i=>!q i || Nat.blt i σ.lo) σ) (args++cap) args') (hK:∀ d,D d→sc σ.lo d=true∧K true d (hflt q σ)) :
  jB p H (.func (.func f) ⟨[]⟩ ⟨cap⟩) args σ K:=by
 intro g h fv vs hP hr hf hv
 obtain ⟨cs,rfl,hcs⟩:=jR0 hf
 show zL0 p f (vs++cs) h _
 have hlo:=hr.lo
 rw[hP.2] at hlo
 have hlon:=hr.lon
 have no:∀ i,¬ kS H i:=fun i hi=>by have:=hi.1;have:=hi.2.1;omega
 have hq2:∀ i,i<σ.lo→(!q i || Nat.blt i σ.lo)=true:=fun i hi=>by
  have:Nat.blt i σ.lo=true:=by simpa using hi
  rw[this,Bool.or_true]
 have r0:=hr.flt _ hq2 (F':=g.F) (fun b hb=>⟨(hr.frz b hb).1,fun i hi _=>(hr.frz b hb).2 i hi⟩) (fun b hb=>hb)
 have r1:=wE0 r0 (m:=σ.lo)
 have hP0:g.H0=H:=hP.2
 change Rel _ g.H0 h at r1
 rw[hP0] at r1
 have ha:=gI r0 hP.1 (Nat.le_refl _) hlon hz (hv.app hcs)
 change RVL _ h σ.lo args' _ at ha
 have hl1:=hlo.1
 have ha2:RVL (Gh.all { g with F:=g.F } σ.lo (hflt (fun i=>!q i || Nat.blt i σ.lo) σ)) h H.next args' (vs++cs):=by rw[← hl1];exact ha
 refine ((hc (Gh.all { g with F:=g.F } σ.lo (hflt (fun i=>!q i || Nat.blt i σ.lo) σ)) h _ ⟨hP.1,hP.2⟩ (by rw[← hP0] at r1 ⊢;exact r1) ha2).mono ?_).w
 rintro u h' ⟨d,g',hD,x,r',rv⟩
 obtain ⟨hd,hK⟩:=hK d hD
 have hag:Agr h h':=fun b hb=>x.fr b hb fun i hi=>absurd hi (no i)
 have hFn:∀ b,g'.F b→g.F b∨h.next≤b∨∃ i,kS σ i∧q i=false∧g.δ i=b:=fun b hb=>by
  rcases x.Fn b hb with h1|h1|⟨i,hi,_⟩
  ·rcases h1 with h1|⟨i,hi,_,e⟩
   ·exact .inl h1
   ·obtain ⟨h2,h3⟩:=jT0 hi
    refine .inr (.inr ⟨i,h2,?_,e⟩)
    have:¬ Nat.blt i σ.lo=true:=by have:=h2.1;simp;omega
    cases hqi:q i with
    | false=>rfl
    | true=>rw[hqi] at h3;simp at h3;simp at this;omega
  ·exact .inr (.inl h1)
  ·exact absurd hi (no i)
 have r2:=hr.flt q hq (F':=g.F) (fun b hb=>⟨(hr.frz b hb).1,fun i hi _=>(hr.frz b hb).2 i hi⟩) (fun b hb=>hb)
 obtain ⟨r3,e0⟩:=r2.same hag x.next x.hlo r'.wf (F':=g'.F) (fun b hb=>⟨(r'.frz b hb).1,fun i hi=>by
  obtain ⟨hi1,hi2⟩:=jT0 hi
  show g.δ i≠b
  rcases hFn b hb with h1|h1|⟨j,hj,hqj,e⟩
  ·exact (hr.frz b h1).2 i hi1
  ·have:=hr.dlt i hi1.2.1;omega
  ·intro e2
   have:=hr.inj i j hi1 hj (by rw[e2,e])
   subst this
   rw[hi2] at hqj
   cases hqj⟩) (fun b hb=>x.F b (.inl hb))
 refine ⟨true,d,_,hK,{ g with F:=g'.F },⟨rfl,rfl,Nat.le_refl _,rfl,x.next,x.hlo,fun _ _=>rfl,fun b hb=>x.F b (.inl hb),fun b hb=>?_,fun b hb _=>hag b hb,fun i hi=>.inl (jT0 hi).1⟩,r3,?_,fun _=>hag⟩
 ·rcases hFn b hb with h1|h1|⟨j,hj,hqj,e⟩
  ·exact .inl h1
  ·exact .inr (.inl h1)
  ·exact .inr (.inr ⟨j,hj,e⟩)
 have h5:=RV.wid (g:=g') (g':={ g with F:=g'.F }) (h:=h') (N:=H.next) (n:=σ.lo) ⟨x.P.symm,fun i hi=>(x.δ i (by omega)).symm,fun _ hb=>hb⟩ d u hd rv
 exact h5.ext ⟨rfl,hlon,fun _ _=>rfl,fun _ hb=>hb,Nat.le_refl _,rfl,fun _ _ _=>rfl⟩
theorem qL.eq {f:FuncId} {args:List Value} {d:Value} (hc:qL p H f args fun x=>x=d):jG p H f args d:=
 fun g h vs hP hr hv=>(hc g h vs hP hr hv).mono fun u h' ⟨x,g',e,y⟩=>⟨g',by subst e;exact y⟩
end
def Op2 (P:Program) (n:Nat) (L:List (Nat×List Value)) (w:World) (ds cs:List Value):Prop:=
 ∃ G0,∀ G,G0≤G→w.heap.size≤G→RVL (gG P n L G) (qD0 G w) n ds cs∧plL cs=true∧scL G cs=true
section
variable {P:Program} {n:Nat} {L:List (Nat×List Value)} {w:World}
theorem Op2.of {a b:List Value} (h:Op P n L w a b):Op2 P n L w a b:=by
 obtain ⟨g,h⟩:=h
 exact ⟨g,fun G hG hw=>by obtain ⟨h1,h2,h3,_⟩:=h G hG hw;exact ⟨h1,h2,h3⟩⟩
theorem Op2.append {a b c d:List Value} (h1:Op2 P n L w a c) (h2:Op2 P n L w b d):Op2 P n L w (a++b) (c++d):=by
 obtain ⟨g1,h1⟩:=h1
 obtain ⟨g2,h2⟩:=h2
 refine ⟨max g1 g2,fun G hG hw=>?_⟩
 obtain ⟨a1,a2,a3⟩:=h1 G (by omega) hw
 obtain ⟨b1,b2,b3⟩:=h2 G (by omega) hw
 exact ⟨a1.app b1,zS0 a2 b2,cH0 a3 b3⟩
end
section
variable {g g':Gh} {σ σ' h h':jA} {p:Par} {q:Q}
end
section
variable {p:Par} {H:jA}
end
def sR (R:jQ→S→Prop) (e:jQ) (s:S):Prop:=match e with | .goto _=>False|e=>R e s
theorem kR_Sn {R:jQ→S→Prop} {s:S}:@kR ⟨sR R⟩ .normal s=R .normal s:=propext Iff.rfl
theorem kR_Sr {R:jQ→S→Prop} {s:S}:@kR ⟨sR R⟩ .ret s=R .ret s:=propext Iff.rfl
theorem kR_Se {R:jQ→S→Prop} {s:S} (i:Nat):@kR ⟨sR R⟩ (.exit i) s=R (.exit i) s:=propext Iff.rfl
attribute [push_cast] kR_Sn kR_Sr kR_Se
def Frz (D D':S):Prop:=∀ (g:Gh) (s:S),SRel g D s→∃ g',Ext g D.h s.h g' D'.h s.h∧SRel g' D' s
theorem jQ2 {D:S} {i k:Nat} {cs:List Value} {e:Nat} {m:Bool} (hlo:D.h.lo≤i) (hlt:i<D.h.next) (hg:D.h.get i=some (O cs e m)) (hc:0<cs.length) (hk:k<D.tm.sz) (ht:D.tm.get k=.pointer (some ⟨i,0,none⟩)) :
  Frz D ⟨D.tm.set k (Rpt 0 cs),D.df,hflt (fun j=>!Nat.beq j i) D.h⟩:=by
 intro g s hs
 have hr:=hs.r
 have hown:kS D.h i:=hr.own hlt hlo hg
 have hq:∀ j,(!Nat.beq j i)=true↔j≠i:=fun j=>by
  constructor
  ·rintro h rfl;simp at h
  ·intro h
   cases hb:Nat.beq j i with
   | false=>rfl
   | true=>exact absurd (Nat.eq_of_beq_eq_true hb) h
 have r1:=hr.flt (fun j=>!Nat.beq j i) (fun j hj=>(hq j).2 (by omega)) (F':=fun b=>g.F b∨b=g.δ i) (fun b hb=>by
  rcases hb with hb|rfl
  ·exact ⟨(hr.frz b hb).1,fun j hj _=>(hr.frz b hb).2 j hj⟩
  ·exact ⟨hr.dlt i hlt,fun j hj hqj e=>(hq j).1 hqj (hr.inj j i hj hown e)⟩) (fun b hb=>.inl hb)
 have x1:Ext g D.h s.h { g with F:=fun b=>g.F b∨b=g.δ i } (hflt (fun j=>!Nat.beq j i) D.h) s.h:=
  ⟨rfl,rfl,Nat.le_refl _,rfl,Nat.le_refl _,rfl,fun _ _=>rfl,fun _ hb=>.inl hb,fun b hb=>by
   rcases hb with hb|rfl
   ·exact .inl hb
   ·exact .inr (.inr ⟨i,hown,rfl⟩),fun _ _ _=>rfl,fun j hj=>.inl (jT0 hj).1⟩
 refine ⟨_,x1,r1,?_,hs.df,hs.dl⟩
 have t1:=hs.t.ext (x1.e0 hr)
 obtain ⟨vs,e',h1,h0,h2,h3⟩:=hr.obj i _ hlt hg
 have hp:=t1.get k
 rw[ht] at hp
 simp only[RV,Option.map_some,ren] at hp
 refine ⟨by rw[VT.set_sz];exact t1.sz,by rw[VT.set_sz];exact t1.sU,fun j=>?_⟩
 rw[VT.get_set t1.sU]
 by_cases hkj:k=j
 ·subst hkj
  rw[if_pos rfl,if_pos hk,hp.2]
  refine RV.mkRpt (o:=0) (off:=0) (h2.ext (x1.e0 hr)) ⟨Sl.row h1 (hr.dlo i hown),fun b hb=>?_⟩ (by rw[h2.len];exact hc)
  obtain ⟨o,s',e⟩:=hb
  cases e
  exact ⟨hr.dlt i hlt,.inr rfl⟩
 ·rw[if_neg hkj]
  exact t1.get j
theorem fK1 (σ:jA) (i:Nat):jC σ (hflt (fun j=>!Nat.beq j i) σ) (fun k=>k=i):=by
 refine ⟨Nat.le_refl _,rfl,fun j _ hj=>?_⟩
 rw[wW0,if_pos]
 cases hb:Nat.beq j i with
 | false=>rfl
 | true=>exact absurd (Nat.eq_of_beq_eq_true hb) hj
end
end Go.Dv
