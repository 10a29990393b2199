/-
  A part of the proof: conditions over an abstract memory,and that they are enough for what the model's calls do. No condition of its own.
-/
import Derived.Test.YtgeakofgklcipaaEvd
set_option linter.unusedSimpArgs false
set_option linter.unusedVariables false
namespace Go.Dv
open Go Go.RowKit Go.Ev
noncomputable section
theorem FzL.app {P:Program} {n:Nat} {σ:jA}:∀ {vs ds us es:List Value},FzL P n σ vs ds→FzL P n σ us es→FzL P n σ (vs++us) (ds++es)
 | _,_,_,_,.nil,h=>h
 | _,_,_,_,.cons h1 h2,h=>.cons h1 (FzL.app h2 h)
def orB (a b:Bool):Bool:=match a with|true=>true|false=>b
theorem orB_t (b:Bool):orB true b=true:=rfl
theorem orB_f (b:Bool):orB false b=b:=rfl
theorem dA2 (i x:Nat) (l:List Nat):memN i (x :: l)=orB (decide (i=x)) (memN i l):=by
 by_cases h:i=x
 ·rw[cY2 h,decide_eq_true h];rfl
 ·rw[cZ2 h,decide_eq_false h];rfl
attribute [push_cast] orB_t orB_f dA2
section
variable {p:Par} {H:jA}
end
def flt (p:Nat→Bool):Tr→Tr
 | .nil=>.nil
 | .node l v r=>.node (flt (fun k=>p (2*k+1)) l) (if p 0 then v else none) (flt (fun k=>p (2*k+2)) r)
theorem oR0:∀ (t:Tr) (p:Nat→Bool) (i:Nat),(flt p t).get i=if p i then t.get i else none
 | .nil,p,i=>by
  rw[flt,Tr.get_nil];split<;>rfl
 | .node l v r,p,i=>by
  rw[flt,Tr.get_node,Tr.get_node,oR0 l,oR0 r]
  by_cases h0:i=0
  ·subst h0;rfl
  rw[if_neg h0,if_neg h0]
  by_cases h1:(i-1) % 2=0
  ·rw[if_pos h1,if_pos h1,show 2*((i-1) / 2)+1=i by omega]
  ·rw[if_neg h1,if_neg h1,show 2*((i-1) / 2)+2=i by omega]
def hflt (p:Nat→Bool) (σ:jA):jA:=⟨flt p σ.t,σ.next,σ.lo⟩
theorem zO0 (p:Nat→Bool) (σ:jA) (i:Nat):(hflt p σ).get i=if p i then σ.get i else none:=oR0 ..
theorem bA0 (p:Nat→Bool) (σ:jA):(hflt p σ).next=σ.next:=rfl
theorem dB1 (p:Nat→Bool) (σ:jA):(hflt p σ).lo=σ.lo:=rfl
theorem kK0 {p:Nat→Bool} (σ:jA) {i:Nat} (h:p i=true):cells (hflt p σ) i=cells σ i:=qL (by rw[zO0,if_pos h])
attribute [push_cast] bA0 dB1
section
variable {p:Par} {H:jA}
theorem jY0 {q:Nat→Bool} {σ:jA} {i:Nat} (h:gD (hflt q σ) i):gD σ i∧q i=true:=by
 obtain ⟨h1,h2,h3⟩:=h
 rw[zO0] at h3
 split at h3
 ·rename_i hq;exact ⟨⟨h1,h2,h3⟩,hq⟩
 ·cases h3
theorem Rel.flt {g:Gh} {σ h:jA} (hr:Rel g σ h) (q:Nat→Bool) (hq:∀ i,i<σ.lo→q i=true) {F':Nat→Prop} (hF:∀ b,F' b→b<h.next∧∀ i,gD σ i→q i=true→g.δ i≠b) (hF2:∀ b,g.F b→F' b):Rel { g with F:=F' } (hflt q σ) h:=by
 have e0:Ext0 g h σ.next { g with F:=F' } h σ.next:=⟨rfl,Nat.le_refl _,fun _ _=>rfl,hF2,Nat.le_refl _,rfl,fun _ _ _=>rfl⟩
 have low:∀ i,i<σ.lo→(hflt q σ).get i=σ.get i:=fun i hi=>by rw[zO0,if_pos (hq i hi)]
 refine ⟨hr.pos,hr.lo,hr.lon,hr.hlo,fun i hi=>(low i hi).trans (hr.base i hi),fun i x hi hx=>hr.baseF i x hi (by rw[← low i hi];exact hx),fun i hi=>by rw[low i hi];exact hr.baseD i hi,fun i x hi hx=>?_,hr.dlt,fun i hi=>hr.dlo i (jY0 hi).1,fun i j hi hj e=>hr.inj i j (jY0 hi).1 (jY0 hj).1 e,fun b hb=>⟨(hF b hb).1,fun i hi=>(hF b hb).2 i (jY0 hi).1 (jY0 hi).2⟩,hr.wf⟩
 rw[zO0] at hx
 split at hx
 ·exact (hr.obj i x hi hx).ext e0 rfl
 ·cases hx
end
def kK (p:Par) (H:jA) (f:FuncId) (args:List Value) (D:Value→Prop):Prop:=
 ∀ (g:Gh) (h:jA) (vs:List Value),g.ok p H→Rel g H h→RVL g h H.next args vs→bU p f vs h fun u h'=>∃ d g',D d∧Ext g H h g' H h'∧Rel g' H h'∧RV g' h' H.next d u
section
variable {p:Par} {H:jA}
theorem jI.cutE {f:FuncId} {args:List Value} {σ:jA} {R:Value→jA→Prop} (hc:jI p H f args σ fun v σ'=>∃ d σ1,R d σ1∧FzV p.P σ1.next σ' v d∧uL0 p.P σ σ1 σ'):jI p H f args σ R:=by
 intro g h vs hP hr hv
 refine (hc g h vs hP hr hv).mono ?_
 rintro u h' ⟨v,σ',⟨d,σ1,hR,hz,hk⟩,g',x,hr',hv',_⟩
 have hP':=x.ok hP
 obtain ⟨x1,r1⟩:=yR0 hr x hr' hP'.1 hk
 have:=hr.lon
 have:=hk.next
 exact ⟨d,σ1,hR,_,x1,r1,lU0 hr' hP'.1 (by rw[x.lo];omega) hk.nx hz hv',fun e=>by cases e⟩
theorem kK.cut {f:FuncId} {args:List Value} {D:Value→Prop} (hc:jI p H f args H fun v σ'=>∃ d,D d∧FzV p.P H.next σ' v d):kK p H f args D:=by
 intro g h vs hP hr hv
 refine (hc g h vs hP hr hv).mono ?_
 rintro u h' ⟨v,σ',⟨d,hD,hz⟩,g',x,hr',hv',_⟩
 have hP':=x.ok hP
 have hlo:=hr.lo
 rw[hP.2] at hlo
 have hk:uL0 p.P H H σ':=⟨Nat.le_refl _,x.nn,rfl,fun i hi=>.inl ⟨hi,by
  have h1:=hr'.base i (by rw[x.lo];omega)
  rw[hP'.2] at h1
  exact h1,rfl⟩⟩
 obtain ⟨x1,r1⟩:=yR0 hr x hr' hP'.1 hk
 exact ⟨d,_,hD,x1,r1,lU0 hr' hP'.1 (by rw[x.lo];exact hr.lon) x.nn hz hv'⟩
theorem jC.lendE {f:FuncId} {cap args args':List Value} {σ:jA} {D:Value→Prop} {K:Bool→Value→jA→Prop} (hc:kK p H f args' D) (hz:FzL p.P σ.lo σ (args++cap) args') (hK:∀ d,D d→flat d=true∧K true d σ) :
  jC p H (.func (.func f) ⟨[]⟩ ⟨cap⟩) args σ K:=by
 intro g h fv vs hP hr hf hv
 obtain ⟨cs,rfl,hcs⟩:=jW0 hf
 show wX0 p f (vs++cs) h _
 have hr2:=wW0 hr (m:=σ.lo)
 have hlo:=hr.lo
 rw[hP.2] at hr2 hlo
 have ha:=bS hr hP.1 (Nat.le_refl _) hr.lon hz (hv.app hcs)
 rw[hlo.1] at ha
 rw[hlo.1] at hr2
 refine ((hc (g.all H.next σ) h _ ⟨hP.1,hP.2⟩ hr2 ha).mono ?_).w
 rintro u h' ⟨d,g',hD,x,r',rv⟩
 obtain ⟨hd,hK⟩:=hK d hD
 have no:∀ i,¬ gD H i:=fun i hi=>by have:=hi.1;have:=hi.2.1;omega
 have hu:=RV.flat d u hd rv
 subst hu
 have hag:Agr h h':=fun b hb=>x.fr b hb fun i hi=>absurd hi (no i)
 obtain ⟨r3,e0⟩:=hr.same hag x.next x.hlo r'.wf (F':=g.F) (fun b hb=>⟨Nat.lt_of_lt_of_le (hr.frz b hb).1 x.next,(hr.frz b hb).2⟩) (fun b hb=>hb)
 exact ⟨true,u,σ,hK,{ g with F:=g.F },⟨rfl,rfl,Nat.le_refl _,rfl,x.next,x.hlo,fun _ _=>rfl,fun _ hb=>hb,fun _ hb=>.inl hb,fun b hb _=>hag b hb,fun i hi=>.inl hi⟩,r3,RV.of_flat u hd,fun _=>hag⟩
theorem jC.dataE {f:FuncId} {cap args args':List Value} {σ:jA} {D:Value→Prop} {K:Bool→Value→jA→Prop} (hc:kK p H f args' D) (hfz:FzL p.P H.next H (args++cap) args') (hz:scL σ.lo (args++cap)=true) (hK:∀ d,D d→sc σ.lo d=true∧K true d σ) :
  jC p H (.func (.func f) ⟨[]⟩ ⟨cap⟩) args σ K:=by
 intro g h fv vs hP hr hf hv
 obtain ⟨cs,rfl,hcs⟩:=jW0 hf
 show wX0 p f (vs++cs) h _
 have hlo:=hr.lo
 rw[hP.2] at hlo
 have no:∀ i,¬ gD H i:=fun i hi=>by have:=hi.1;have:=hi.2.1;omega
 have hr2:Rel g H h:=by
  have h1:=wW0 hr (m:=0)
  rw[hP.2] at h1
  exact ⟨h1.pos,h1.lo,h1.lon,h1.hlo,h1.base,h1.baseF,h1.baseD,fun i x hi hx=>by
   have hx':σ.get i=some x:=by rw[hr.base i (by omega),hP.2];exact hx
   obtain ⟨ds,e,fr,rfl,hfl⟩:=hr.baseF i x (by omega) hx'
   obtain ⟨vs,e',h2,h0,h3,h4⟩:=hr.obj i _ (by have:=hr.lon;omega) hx'
   have:=RVL.flat _ _ hfl h3
   subst this
   exact ⟨_,e',h2,fun h=>by omega,RVL.of_flat _ hfl,h4⟩,h1.dlt,fun i hi=>absurd hi (no i),fun i j hi=>absurd hi (no i),fun b hb=>⟨(hr.frz b hb).1,fun i hi=>absurd hi (no i)⟩,h1.wf⟩
 have ha:=RVL.wid (g:=g) (g':=g) (n:=σ.lo) ⟨rfl,fun _ _=>rfl,fun _ hb=>hb⟩ _ _ hz (hv.app hcs)
 rw[hlo.1] at ha
 have ha:=bS hr2 hP.1 (by omega) (Nat.le_refl _) hfz ha
 have hr4:=wW0 hr2 (m:=H.next)
 rw[hP.2] at hr4
 refine ((hc (g.all H.next H) h _ ⟨hP.1,hP.2⟩ hr4 ha).mono ?_).w
 rintro u h' ⟨d,g',hD,x,r',rv⟩
 obtain ⟨hd,hK⟩:=hK d hD
 have hag:Agr h h':=fun b hb=>x.fr b hb fun i hi=>absurd hi (no i)
 have hFn:∀ b,g'.F b→g.F b∨h.next≤b:=fun b hb=>by
  rcases x.Fn b hb with h1|h1|⟨i,hi,_⟩
  ·rcases h1 with h1|⟨i,hi,_⟩
   ·exact .inl h1
   ·exact absurd hi (no i)
  ·exact .inr h1
  ·exact absurd hi (no i)
 obtain ⟨r3,e0⟩:=hr.same hag x.next x.hlo r'.wf (F':=g'.F) (fun b hb=>⟨(r'.frz b hb).1,fun i hi=>by
  rcases hFn b hb with h1|h1
  ·exact (hr.frz b h1).2 i hi
  ·have:=hr.dlt i hi.2.1;omega⟩) (fun b hb=>x.F b (.inl hb))
 refine ⟨true,d,σ,hK,{ g with F:=g'.F },⟨rfl,rfl,Nat.le_refl _,rfl,x.next,x.hlo,fun _ _=>rfl,fun b hb=>x.F b (.inl hb),fun b hb=>by
  rcases hFn b hb with h1|h1
  ·exact .inl h1
  ·exact .inr (.inl h1),fun b hb _=>hag b hb,fun i hi=>.inl hi⟩,r3,?_,fun _=>hag⟩
 have h5:=RV.wid (g:=g') (g':={ g with F:=g'.F }) (h:=h') (N:=H.next) (n:=σ.lo) ⟨x.P.symm,fun i hi=>(x.δ i (by omega)).symm,fun _ hb=>hb⟩ d u hd rv
 exact h5.ext ⟨rfl,hr.lon,fun _ _=>rfl,fun _ hb=>hb,Nat.le_refl _,rfl,fun _ _ _=>rfl⟩
end
section
variable {p:Par} {H:jA}
theorem jC.dataI {f:FuncId} {args:List Value} {σ:jA} {d:Value} {K:Bool→Value→jA→Prop} (hc:jN p H f args d) (hz:scL H.next args=true∧scL σ.lo args=true∧sc σ.lo d=true) (hK:K true d σ) :
  jC p H (.func (.func f) ⟨[]⟩ ⟨[]⟩) args σ K:=
 jC.data (cap:=[]) hc (by rw[List.append_nil];exact FzL.ids hz.1) (by rw[List.append_nil];exact hz.2.1) hz.2.2 hK
theorem jC.dataEI {f:FuncId} {args:List Value} {σ:jA} {D:Value→Prop} {K:Bool→Value→jA→Prop} (hc:kK p H f args D) (hz:scL H.next args=true∧scL σ.lo args=true) (hK:∀ d,D d→sc σ.lo d=true∧K true d σ) :
  jC p H (.func (.func f) ⟨[]⟩ ⟨[]⟩) args σ K:=
 jC.dataE (cap:=[]) hc (by rw[List.append_nil];exact FzL.ids hz.1) (by rw[List.append_nil];exact hz.2) hK
end
theorem FzL.take {P:Program} {n:Nat} {σ:jA}:∀ {vs ds:List Value} (k:Nat),FzL P n σ vs ds→FzL P n σ (vs.take k) (ds.take k)
 | _,_,0,_=>by simp only[List.take_zero];exact .nil
 | _,_,k+1,.nil=>.nil
 | _,_,k+1,.cons h1 h2=>.cons h1 (FzL.take k h2)
theorem FzL.drop {P:Program} {n:Nat} {σ:jA}:∀ {vs ds:List Value} (k:Nat),FzL P n σ vs ds→FzL P n σ (vs.drop k) (ds.drop k)
 | _,_,0,h=>h
 | _,_,k+1,.nil=>.nil
 | _,_,k+1,.cons h1 h2=>FzL.drop k h2
section
variable {p:Par} {H:jA}
theorem jC.giveE {f:FuncId} {cap args args':List Value} {σ:jA} {D:Value→Prop} {K:Bool→Value→jA→Prop} (q:Nat→Bool) (hq:∀ i,i<σ.lo→q i=true) (hc:kK p H f args' D)
  (hz:FzL p.P σ.lo (hflt (fun i=>!q i || Nat.blt i σ.lo) σ) (args++cap) args') (hK:∀ d,D d→sc σ.lo d=true∧K true d (hflt q σ)) :
  jC p H (.func (.func f) ⟨[]⟩ ⟨cap⟩) args σ K:=by
 intro g h fv vs hP hr hf hv
 obtain ⟨cs,rfl,hcs⟩:=jW0 hf
 show wX0 p f (vs++cs) h _
 have hlo:=hr.lo
 rw[hP.2] at hlo
 have hlon:=hr.lon
 have no:∀ i,¬ gD H i:=fun i hi=>by have:=hi.1;have:=hi.2.1;omega
 have hq2:∀ i,i<σ.lo→(!q i || Nat.blt i σ.lo)=true:=fun i hi=>by
  have:Nat.blt i σ.lo=true:=by simpa using hi
  rw[this,Bool.or_true]
 have r0:=hr.flt _ hq2 (F':=g.F) (fun b hb=>⟨(hr.frz b hb).1,fun i hi _=>(hr.frz b hb).2 i hi⟩) (fun b hb=>hb)
 have r1:=wW0 r0 (m:=σ.lo)
 have hP0:g.H0=H:=hP.2
 change Rel _ g.H0 h at r1
 rw[hP0] at r1
 have ha:=bS r0 hP.1 (Nat.le_refl _) hlon hz (hv.app hcs)
 change RVL _ h σ.lo args' _ at ha
 have hl1:=hlo.1
 have ha2:RVL (Gh.all { g with F:=g.F } σ.lo (hflt (fun i=>!q i || Nat.blt i σ.lo) σ)) h H.next args' (vs++cs):=by rw[← hl1];exact ha
 refine ((hc (Gh.all { g with F:=g.F } σ.lo (hflt (fun i=>!q i || Nat.blt i σ.lo) σ)) h _ ⟨hP.1,hP.2⟩ (by rw[← hP0] at r1 ⊢;exact r1) ha2).mono ?_).w
 rintro u h' ⟨d,g',hD,x,r',rv⟩
 obtain ⟨hd,hK⟩:=hK d hD
 have hag:Agr h h':=fun b hb=>x.fr b hb fun i hi=>absurd hi (no i)
 have hFn:∀ b,g'.F b→g.F b∨h.next≤b∨∃ i,gD σ i∧q i=false∧g.δ i=b:=fun b hb=>by
  rcases x.Fn b hb with h1|h1|⟨i,hi,_⟩
  ·rcases h1 with h1|⟨i,hi,_,e⟩
   ·exact .inl h1
   ·obtain ⟨h2,h3⟩:=jY0 hi
    refine .inr (.inr ⟨i,h2,?_,e⟩)
    have:¬ Nat.blt i σ.lo=true:=by have:=h2.1;simp;omega
    cases hqi:q i with
    | false=>rfl
    | true=>rw[hqi] at h3;simp at h3;simp at this;omega
  ·exact .inr (.inl h1)
  ·exact absurd hi (no i)
 have r2:=hr.flt q hq (F':=g.F) (fun b hb=>⟨(hr.frz b hb).1,fun i hi _=>(hr.frz b hb).2 i hi⟩) (fun b hb=>hb)
 obtain ⟨r3,e0⟩:=r2.same hag x.next x.hlo r'.wf (F':=g'.F) (fun b hb=>⟨(r'.frz b hb).1,fun i hi=>by
  obtain ⟨hi1,hi2⟩:=jY0 hi
  show g.δ i≠b
  rcases hFn b hb with h1|h1|⟨j,hj,hqj,e⟩
  ·exact (hr.frz b h1).2 i hi1
  ·have:=hr.dlt i hi1.2.1;omega
  ·intro e2
   have:=hr.inj i j hi1 hj (by rw[e2,e])
   subst this
   rw[hi2] at hqj
   cases hqj⟩) (fun b hb=>x.F b (.inl hb))
 refine ⟨true,d,_,hK,{ g with F:=g'.F },⟨rfl,rfl,Nat.le_refl _,rfl,x.next,x.hlo,fun _ _=>rfl,fun b hb=>x.F b (.inl hb),fun b hb=>?_,fun b hb _=>hag b hb,fun i hi=>.inl (jY0 hi).1⟩,r3,?_,fun _=>hag⟩
 ·rcases hFn b hb with h1|h1|⟨j,hj,hqj,e⟩
  ·exact .inl h1
  ·exact .inr (.inl h1)
  ·exact .inr (.inr ⟨j,hj,e⟩)
 have h5:=RV.wid (g:=g') (g':={ g with F:=g'.F }) (h:=h') (N:=H.next) (n:=σ.lo) ⟨x.P.symm,fun i hi=>(x.δ i (by omega)).symm,fun _ hb=>hb⟩ d u hd rv
 exact h5.ext ⟨rfl,hlon,fun _ _=>rfl,fun _ hb=>hb,Nat.le_refl _,rfl,fun _ _ _=>rfl⟩
end
def Op2 (P:Program) (n:Nat) (L:List (Nat×List Value)) (w:World) (ds cs:List Value):Prop:=
 ∃ G0,∀ G,G0≤G→w.heap.size≤G→RVL (gG P n L G) (qN0 G w) n ds cs∧plL cs=true∧scL G cs=true
section
variable {P:Program} {n:Nat} {L:List (Nat×List Value)} {w:World}
theorem Op2.append {a b c d:List Value} (h1:Op2 P n L w a c) (h2:Op2 P n L w b d):Op2 P n L w (a++b) (c++d):=by
 obtain ⟨g1,h1⟩:=h1
 obtain ⟨g2,h2⟩:=h2
 refine ⟨max g1 g2,fun G hG hw=>?_⟩
 obtain ⟨a1,a2,a3⟩:=h1 G (by omega) hw
 obtain ⟨b1,b2,b3⟩:=h2 G (by omega) hw
 exact ⟨a1.app b1,kC0 a2 b2,kA0 a3 b3⟩
theorem Op2.agg {a b:List Value} (h:Op P n L w a b):Op2 P n L w [.agg ⟨a⟩] [.agg ⟨b⟩]:=by
 obtain ⟨g,h⟩:=h
 refine ⟨g,fun G hG hw=>?_⟩
 obtain ⟨h1,h2,h3,_⟩:=h G hG hw
 refine ⟨?_,?_,?_⟩
 ·simp only[RVL,RV]
  exact ⟨_,[],rfl,⟨b,rfl,h1⟩,rfl⟩
 ·simp[plL,pl,h2]
 ·simp[scL,Ev.sc,h3]
end
section
variable {g g':Gh} {σ σ' h h':jA} {p:Par} {q:Q}
theorem bC0 {l:Nat} {r:Loop}:qI h l=some r↔(∃ m,h.get l=some ⟨.loop r,m⟩)∧h.lo≤l:=by
 constructor
 ·intro e
  unfold qI at e
  split at e
  ·rename_i r' m hg
   split at e
   ·rename_i hlo
    cases e
    exact ⟨⟨m,hg⟩,by simpa using hlo⟩
   ·cases e
  ·cases e
 ·rintro ⟨⟨m,hg⟩,hlo⟩
  exact kZ hg hlo
theorem qC0 (hr:Rel g σ h) {l:Nat} {r:Loop} (hl:qI σ l=some r) (hlt:l<σ.next) :
  gD σ l∧∃ us,qI h (g.δ l)=some { r with tmps:=⟨us⟩,defers:=g.δ r.defers }∧RVL g h σ.next r.tmps.toList us∧∀ st pd,Ext g σ h g (jQ σ l { r with state:=st,pending:=pd }) (jQ h (g.δ l) { r with tmps:=⟨us⟩,defers:=g.δ r.defers,state:=st,pending:=pd })∧
   Rel g (jQ σ l { r with state:=st,pending:=pd }) (jQ h (g.δ l) { r with tmps:=⟨us⟩,defers:=g.δ r.defers,state:=st,pending:=pd }):=by
 obtain ⟨⟨m,hg⟩,hlo⟩:=bC0.1 hl
 have hown:gD σ l:=hr.own hlt hlo hg
 obtain ⟨us,h1,h2,h3⟩:=hr.obj l _ hlt hg
 refine ⟨hown,us,bC0.2 ⟨⟨m,h1⟩,hr.dlo l hown⟩,h3,fun st pd=>?_⟩
 exact wJ0 hr hown (x:=⟨.loop { r with state:=st,pending:=pd },false⟩) (y:=⟨.loop { r with tmps:=⟨us⟩,defers:=g.δ r.defers,state:=st,pending:=pd },false⟩) fun h' e1 x=>⟨us,e1,h2,h3.ext x⟩
def qW0 (l:Nat) (K:Bool→Value→jA→Prop) (e:jK) (s2:S):Prop:=
 match qI s2.h l with
 | some r2=>K false (.bool e.jump.isNone) (jQ s2.h l { r2 with state:=if e.jump.isNone then .ready else .done,pending:=e.jump })
 | none=>False
def iH0 (p:Par) (q:Q) (l:Nat) (bIR:IR) (K:Bool→Value→jA→Prop) (e:jK) (s1:S):Prop:=
 match e with
 | .normal=>match qI s1.h l with
  | some r1=>r1.state=.ready∧dc3 p q (some l) bIR ⟨s1.tm,s1.df,jQ s1.h l { r1 with state:=.busy }⟩ (@kR ⟨qW0 l K⟩)
  | none=>False
 | _=>False
theorem zY0:∀ {l:List (Nat×Value)} {l':List (Nat×Value)} {N:Nat} {D T:VT},Tms g h N D T→l.map Prod.fst=l'.map Prod.fst→RVL g h N (l.map Prod.snd) (l'.map Prod.snd)→Tms g h N (kS D l) (kS T l')
 | [],[],N,D,T,ht,_,_=>ht
 | (a,x) :: l,(b,y) :: l',N,D,T,ht,he,hv=>by
  simp only[List.map_cons,List.cons.injEq] at he
  simp only[List.map_cons,RVL] at hv
  obtain ⟨v,vs,e,h1,h2⟩:=hv
  simp only[List.cons.injEq] at e
  obtain ⟨e1,e2⟩:=e
  subst e2
  have e1':y=v:=e1
  subst e1'
  have ha:a=b:=he.1
  subst ha
  exact zY0 (D:=D.set a x) (T:=T.set a y) (ht.set a h1) he.2 h2
 | [],_ :: _,_,_,_,_,he,_=>by cases he
 | _ :: _,[],_,_,_,_,he,_=>by cases he
theorem sP1 {N:Nat} {T:VT} (hU:T.sz<U) {us:List Value} (hv:RVL g h N T.arr.toList us):∃ T':VT,T'.arr=⟨us⟩∧Tms g h N T T':=by
 have hlen:=hv.len
 have hTl:T.arr.toList.length=T.sz:=by rw[Array.length_toList,VT.arr_size]
 have hsz:(VT.of us us.length).sz=us.length:=by
  show us.length+(us.length-us.length)=_
  omega
 have harr:(VT.of us us.length).arr=⟨us⟩:=by
  rw[VT.of_arr _ _ (by rw[hsz];omega)]
  apply Array.ext';simp
 refine ⟨VT.of us us.length,harr,by rw[hsz];omega,hU,fun i=>?_⟩
 rw[← VT.arr_getD,← VT.arr_getD,harr]
 simp only[Array.getD_eq_getD_getElem?,List.getElem?_toArray]
 cases hi:T.arr.toList[i]? with
 | none=>
  have h2:us[i]?=none:=by
   rw[List.getElem?_eq_none_iff] at hi ⊢
   omega
  rw[Array.getElem?_toList] at hi
  rw[h2,hi]
  exact RV.undef
 | some d=>
  obtain ⟨v,h1,h2⟩:=hv.get hi
  rw[Array.getElem?_toList] at hi
  rw[h1,hi]
  exact h2
theorem jC.mono {H:jA} {f:Value} {args:List Value} {K K':Bool→Value→jA→Prop} (hc:jC p H f args σ K) (hK:∀ b d σ',K b d σ'→K' b d σ'):jC p H f args σ K':=
 fun g h fv vs hP hr hf hv=>(hc g h fv vs hP hr hf hv).mono fun u h' ⟨b,d,σ',h1,h2⟩=>⟨b,d,σ',hK b d σ' h1,h2⟩
theorem jC.yield (jR:wC0 p) {l:Nat} {r:Loop} {args:List Value} {K:Bool→Value→jA→Prop} {T:VT} {aIR bIR:IR} (hl:qI σ l=some r) (hlt:l<σ.next) (hT:r.tmps=T.arr) (hU:T.sz<U) (hlen:args.length=r.params.toList.length)
  (ha:comp p.P r.assign=aIR) (hb:comp p.P r.body=bIR) (hoka:irOk p.NG aIR=true) (hokb:irOk p.NG bIR=true) (hNG:p.NG≤σ.lo) (hv:dc3 p q (some l) aIR ⟨kS T (r.params.toList.zip args),[],σ⟩ (@kR ⟨iH0 p q l bIR K⟩)) :
  jC p q.H (.func (.yield l) ⟨[]⟩ ⟨[]⟩) args σ K:=by
 intro g h fv vs hP hr hf hvs
 simp only[RV,RVL,RowP] at hf
 obtain ⟨vs0,rfl,-,-,rfl⟩:=hf
 obtain ⟨hown,us,hgl,hus,_⟩:=qC0 hr hl hlt
 rw[hT] at hus
 obtain ⟨T',hT',ht⟩:=sP1 hU hus
 have hlen':vs.length=r.params.toList.length:=by rw[hvs.len];exact hlen
 show jV0 p (g.δ l) vs h _
 refine jV0.of hgl (T:=T') hT'.symm (by rw[ht.sz];exact hU) hlen' (qH0 jR _ _ _ ?_)
 show vc p (some (g.δ l)) (comp p.P r.assign) _ _
 rw[ha]
 rw[qM0] at hv
 have hz:Tms g h σ.next (kS T (r.params.toList.zip args)) (kS T' (r.params.toList.zip vs)):=by
  refine zY0 ht ?_ ?_
  ·rw[List.map_fst_zip (by omega),List.map_fst_zip (by omega)]
  ·rw[List.map_snd_zip (by omega),List.map_snd_zip (by omega)];exact hvs
 have h1:=qL0 aIR hoka hP hNG (D:=⟨kS T (r.params.toList.zip args),[],σ⟩) (s:=⟨kS T' (r.params.toList.zip vs),[],h⟩) ⟨hr,hz,rfl,fun d hd=>by cases hd⟩ (ro:=some l) (fun l' e=>by cases e;exact hlt) hv
 refine gK _ _ _ _ (fun e s1 hA=>?_) h1
 obtain ⟨g1,D1,hd,x1,r1⟩:=hA
 have hδ1:g1.δ l=g.δ l:=x1.δ l hlt
 have hlt1:l<D1.h.next:=Nat.lt_of_lt_of_le hlt x1.nn
 change iH0 p q l bIR K e D1 at hd
 unfold iH0 at hd
 unfold iF0
 cases e with
 | exit i=>exact hd.elim
 | goto t=>exact hd.elim
 | ret=>exact hd.elim
 | normal=>
  dsimp only at hd ⊢
  split at hd
  ·rename_i r1' hg1
   obtain ⟨hst,hbody⟩:=hd
   obtain ⟨hown1,us1,hgl1,hus1,hput1⟩:=qC0 r1.r hg1 hlt1
   rw[hδ1] at hgl1
   rw[hgl1]
   refine ⟨hst,qH0 jR _ _ _ ?_⟩
   show vc p (some (g.δ l)) (comp p.P r.body) _ _
   rw[hb]
   obtain ⟨x2,rel2⟩:=hput1 .busy r1'.pending
   rw[hδ1] at x2 rel2
   rw[qM0] at hbody
   have hs2:SRel g1 ⟨D1.tm,D1.df,jQ D1.h l { r1' with state:=.busy }⟩ ⟨s1.tm,s1.df,jQ s1.h (g.δ l) { r1' with tmps:=⟨us1⟩,defers:=g1.δ r1'.defers,state:=.busy }⟩:=
    r1.ext (D':=⟨D1.tm,D1.df,jQ D1.h l { r1' with state:=.busy }⟩) (s':=⟨s1.tm,s1.df,jQ s1.h (g.δ l) { r1' with tmps:=⟨us1⟩,defers:=g1.δ r1'.defers,state:=.busy }⟩) x2 rel2 (r1.t.ext (x2.e0 r1.r)) rfl rfl
   have h2:=qL0 bIR hokb (x1.ok hP) (D:=⟨D1.tm,D1.df,jQ D1.h l { r1' with state:=.busy }⟩) (by show p.NG≤D1.h.lo;rw[x1.lo];exact hNG) hs2 (ro:=some l) (fun l' e=>by cases e;exact hlt1) hbody
   rw[Option.map_some,hδ1] at h2
   refine gK _ _ _ _ (fun e s2 hB=>?_) h2
   obtain ⟨g2,D2,hd2,x3,r2⟩:=hB
   have hδ2:g2.δ l=g.δ l:=(x3.δ l hlt1).trans hδ1
   have hlt2:l<D2.h.next:=Nat.lt_of_lt_of_le hlt1 x3.nn
   change qW0 l K e D2 at hd2
   unfold qW0 at hd2
   unfold rO0
   split at hd2
   ·rename_i r2' hg2
    obtain ⟨_,us2,hgl2,_,hput2⟩:=qC0 r2.r hg2 hlt2
    rw[hδ2] at hgl2
    rw[hgl2]
    dsimp only
    obtain ⟨x4,rel4⟩:=hput2 (if e.jump.isNone then .ready else .done) e.jump
    rw[hδ2] at x4 rel4
    exact ⟨false,_,_,hd2,g2,((x1.trans x2).trans x3).trans x4,rel4,(by simp only[RV]),fun e=>by cases e⟩
   ·exact hd2.elim
  ·exact hd.elim
theorem WD.range (jR:wC0 p) {gop:Operand} {ps:Array Tmp} {a b:Code} {D:S} {R:jK→S→Prop} {f:FuncId} {captured:List Value} (hok:uZ p.NG gop=true) (hg:ev D.tm gop=.func (.func f) ⟨[]⟩ ⟨captured⟩)
  (hc:jI p q.H f (.func (.yield (D.h.next+1)) ⟨[]⟩ ⟨[]⟩ :: captured) ((D.h.add ⟨.deferred (some []),false⟩).add ⟨.loop { state:=.ready,pending:=none,fn:=0,tmps:=D.tm.arr,params:=ps,assign:=a,body:=b,defers:=D.h.next },false⟩) (zM0 (D.h.next+1) D [D.h.next] R)) :
  WD p q.H none (.range gop ps a b) D R:=by
 intro g s hP hNG hs hro
 have hr:=hs.r
 obtain ⟨x1,r1,_⟩:=bX0 hr (x:=⟨.deferred (some []),false⟩) (y:=⟨.deferred (some []),false⟩) fun h' g' N' _ e=>e
 have hδ1:(g.new D.h.next s.h.next).δ D.h.next=s.h.next:=if_pos rfl
 have ht1:=hs.t.ext (x1.e0 hr)
 have hus:RVL (g.new D.h.next s.h.next) (s.h.add ⟨.deferred (some []),false⟩) (D.h.add ⟨.deferred (some []),false⟩).next D.tm.arr.toList s.tm.arr.toList:=by
  refine RVL.of (by rw[Array.length_toList,Array.length_toList,VT.arr_size,VT.arr_size,hs.t.sz]) fun i d v h1 h2=>?_
  have:=ht1.get i
  rw[← VT.arr_getD,← VT.arr_getD] at this
  rw[Array.getElem?_toList] at h1 h2
  simp only[Array.getD_eq_getD_getElem?,h1,h2,Option.getD_some] at this
  exact this
 obtain ⟨x2,r2,_⟩:=bX0 r1 (x:=⟨.loop { state:=.ready,pending:=none,fn:=0,tmps:=D.tm.arr,params:=ps,assign:=a,body:=b,defers:=D.h.next },false⟩) (y:=⟨.loop { state:=.ready,pending:=none,fn:=0,tmps:=s.tm.arr,params:=ps,assign:=a,body:=b,defers:=s.h.next },false⟩) fun h' g' N' x e=>by
  refine ⟨s.tm.arr.toList,?_,?_,hus.ext x⟩
  ·rw[e,x.δ _ (by rw[jJ];exact Nat.lt_succ_self _),hδ1]
  ·have:=x.nn
   rw[jJ] at this
   show D.h.next<N'
   omega
 have hn1:(D.h.add ⟨.deferred (some []),false⟩).next=D.h.next+1:=jJ _
 have hn2:(s.h.add ⟨.deferred (some []),false⟩).next=s.h.next+1:=jJ _
 rw[hn1,hn2] at x2 r2
 have x12:=x1.trans x2
 generalize hg2:(g.new D.h.next s.h.next).new (D.h.next+1) (s.h.next+1)=g2 at x2 r2 x12
 have hδ2:g2.δ (D.h.next+1)=s.h.next+1:=by rw[← hg2];exact if_pos rfl
 have hδ3:g2.δ D.h.next=s.h.next:=by rw[x2.δ _ (by rw[jJ];omega)];exact hδ1
 have hgv:=qJ0 hr hs.t hNG hok
 rw[hg] at hgv
 simp only[RV,RVL] at hgv
 obtain ⟨us,cv,e1,e2,hcap⟩:=hgv
 have e2':us=[]:=e2
 subst e2'
 have hent:wQ0 none s.tm ps a b s.h=some (s.h.next+1,[s.h.next],(s.h.add ⟨.deferred (some []),false⟩).add ⟨.loop { state:=.ready,pending:=none,fn:=0,tmps:=s.tm.arr,params:=ps,assign:=a,body:=b,defers:=s.h.next },false⟩):=by
  simp only[wQ0,jA.add]
  try (rw[jA.new_eq,jA.new_eq])
 have hro':∀ ro:Option Nat,ro=none→ro.map g.δ=none:=fun ro e=>by rw[e];rfl
 show W p none _ s _
 refine W.range hent e1 ?_
 refine (hc g2 _ _ (x12.ok hP) r2 (RVL.cons ?_ (hcap.ext (x12.e0 hr)))).mono ?_
 ·simp only[RV]
  exact ⟨[],by simp only[RVL],rfl,by rw[jJ,jJ];omega,by rw[hδ2]⟩
 ·rintro u h3 ⟨d,σ',hl,g3,x3,r3,_,_⟩
  have hx:=x12.trans x3
  have hlt3:D.h.next+1<σ'.next:=by have:=x3.nn;rw[jJ,jJ] at this;omega
  have hδ4:g3.δ (D.h.next+1)=s.h.next+1:=by rw[x3.δ _ (by rw[jJ,jJ];omega)];exact hδ2
  have hδ5:g3.δ D.h.next=s.h.next:=by rw[x3.δ _ (by rw[jJ,jJ];omega)];exact hδ3
  unfold zM0 at hl ⊢
  split at hl
  ·rename_i e s' he
   unfold uE0 at he
   split at he
   ·rename_i r hgl
    have hgl:qI σ' (D.h.next+1)=some r:=hgl
    obtain ⟨_,us3,hgl3,_,hput⟩:=qC0 r3 hgl hlt3
    obtain ⟨x4,r4⟩:=hput .exhausted r.pending
    rw[hδ4] at hgl3 x4 r4
    have fin:∀ e',R e' ⟨D.tm,D.h.next :: D.df,jQ σ' (D.h.next+1) { r with state:=.exhausted }⟩→RA g D.h s.h R e' ⟨s.tm,s.h.next :: s.df,jQ h3 (s.h.next+1) { r with tmps:=⟨us3⟩,defers:=g3.δ r.defers,state:=.exhausted }⟩:=fun e' hR=>by
     refine ⟨g3,_,hR,hx.trans x4,r4,hs.t.ext ((hx.trans x4).e0 hr),?_,fun d hd=>?_⟩
     ·show s.h.next :: s.df=(D.h.next :: D.df).map g3.δ
      rw[List.map_cons,hδ5,hs.df]
      congr 1
      exact List.map_congr_left fun d hd=>((hx.trans x4).δ d (hs.dl d hd)).symm
     ·show d<σ'.next
      rcases List.mem_cons.1 hd with rfl|hd
      ·omega
      ·have:=hs.dl d hd;omega
    unfold uE0
    show (match (match qI h3 (s.h.next+1) with|some r=>_|none=>_:Option (jK×S)) with|some (e,s')=>_|none=>_)
    rw[hgl3]
    clear hgl3 x4 r4 hput hgl
    rcases r with ⟨st,pd,fn,tm',ps',as',bd',df'⟩
    dsimp only at he fin ⊢
    cases st
    all_goals
     dsimp only at he ⊢
     first
     | (cases he;done)
     | (cases pd with
        | none=>cases he;exact fin _ hl
        | some c=>cases c<;>first | (cases he;done) | (cases he;exact fin _ hl))
   ·cases he
  ·exact hl.elim
end
section
variable {p:Par} {H:jA}
theorem bU.ghost {f:FuncId} {args:List Value} {h:jA} {R R':Value→jA→Prop} (hc:bU p f args h R)
  (hR:∀ v h',R v h'→∃ h2,(∀ (Γ:Gam) (w:World),jW p Γ h' w→jW p Γ h2 w)∧h2.next=h'.next∧R' v h2):bU p f args h R':=
 fun Γ w hr hs=>⟨(hc Γ w hr hs).1,fun F hF n S hS=>(hc Γ w hr hs).2 F hF n S fun v h' Γ' w' hv hg hn hb hr' hsc=>by
  obtain ⟨h2,h3,h4,h5⟩:=hR v h' hv
  exact hS v h2 Γ' w' h5 hg (by omega) hb (h3 Γ' w' hr') (by rw[h4];exact hsc)⟩
theorem jI.back {f:FuncId} {args:List Value} {σ:jA} {R R':Value→jA→Prop} (hc:jI p H f args σ R)
  (hR:∀ d σ',R d σ'→R' d σ'∨∃ b c e cs ds fr0,σ'.lo≤b∧b<σ'.next∧c<σ'.next∧σ'.lo≤c∧σ'.get b=some (qA c e cs)∧σ'.get c=some ⟨.cells ⟨cs++ds⟩ e fr0,true⟩∧cs.all one=true∧jU (cs++ds)=true∧jU cs=true∧R' d ((σ'.put c dead).put b (O cs e true))) :
  jI p H f args σ R':=by
 intro g h vs hP hr hv
 refine bU.ghost (hc g h vs hP hr hv) ?_
 rintro u h' ⟨d,σ',h1,g',x,r,v,pu⟩
 rcases hR d σ' h1 with h2|⟨b,c,e,cs,ds,fr0,q1,q2,q3,q4,q5,q6,q7,q8,q9,q10⟩
 ·exact ⟨h',fun _ _ h=>h,rfl,d,σ',h2,g',x,r,v,pu⟩
 ·obtain ⟨h2,k1,k2,k3,k4⟩:=oB1 r q1 q5 q2 q3 q4 q6 q7 q8 q9
  exact ⟨h2,k1 p,k2,d,_,q10,g',x.trans k3,k4,v.ext (k3.e0 r),fun e=>by cases e⟩
end
structure cO (σ:jA) (e:Nat) (a:Option Addr) (n c:Nat) (cs:List Value):Prop where
 hlen:cs.length=n
 hat:(a=none∧n=0∧c=0)∨∃ b,a=some ⟨b,0,none⟩∧σ.lo≤b∧b<σ.next∧σ.get b=some (O cs e true)∧c=UC∧0<n
theorem cO.nil (σ:jA) (e:Nat):cO σ e none 0 0 []:=⟨rfl,.inl ⟨rfl,rfl,rfl⟩⟩
theorem cO.grew {σ σ':jA} {S:Nat→Prop} {e n:Nat} {a:Option Addr} {c:Nat} {cs:List Value} (ho:cO σ e a n c cs) (g:jE σ σ' S) (hS:∀ b,blk a b→¬ S b):cO σ' e a n c cs:=by
 refine ⟨ho.hlen,?_⟩
 rcases ho.hat with h0|⟨b,ha,h1,h2,h3,h4⟩
 ·exact .inl h0
 ·exact .inr ⟨b,ha,by rw[g.lo];exact h1,Nat.lt_of_lt_of_le h2 g.next,(g.get b h2 (hS b ⟨0,none,ha⟩)).trans h3,h4⟩
def zL0 (σ:jA) (e:Nat) (a:Option Addr) (cs xs:List Value):jA:=match a with
 | none=>σ.add (O (cs++xs) e true)
 | some ⟨b,_,_⟩=>{ t:=(σ.t.put σ.next (O (cs++xs) e true)).put b (qA σ.next e cs),next:=σ.next+1,lo:=σ.lo }
theorem kG0 (σ:jA) (e:Nat) (a:Option Addr) (cs xs:List Value):(zL0 σ e a cs xs).next=σ.next+1:=by
 unfold zL0;split
 ·exact jJ _
 ·rfl
theorem fC0 (σ:jA) (e:Nat) (a:Option Addr) (cs xs:List Value):(zL0 σ e a cs xs).lo=σ.lo:=by
 unfold zL0;split
 ·exact kG _
 ·rfl
theorem lM1 {σ:jA} {e by_:Nat} {a:Option Addr} {n c:Nat} {cs:List Value} (ho:cO σ e a n c cs) {x:Value} (hx:one x=true) (hb:(n+1)*by_≤140737488355328∧(n+1)<100000000000000) :
  apS e 1 by_ (.slice a n c) (some (1,[x])) σ=some (.slice (some ⟨σ.next,0,none⟩) (n+1) UC,zL0 σ e a cs [x]):=by
 have hxo:[x].all one=true:=by simp[hx]
 rcases ho.hat with ⟨rfl,rfl,rfl⟩|⟨b,rfl,h1,h2,h3,rfl,h5⟩
 ·have hcs:cs=[]:=List.length_eq_zero_iff.1 (by rw[ho.hlen])
  subst hcs
  exact pI0 _ _ _ hxo (by omega) (by simpa using hb)
 ·have hc:cells σ b=some (cs,e,true):=by unfold Ev.cells;rw[h3];rfl
  show (if [x].all one=true then (match cells σ b with
   | some (cs,e',mo)=>if e'=e∧σ.lo≤b∧cs.length=n*1∧(n+1)*by_≤140737488355328∧(n+1)<100000000000000 then
    (if mo=true∧UC=UC then some (Value.slice (some ⟨σ.next,0,none⟩) (n+1) UC,{ t:=(σ.t.put σ.next (O (cs++[x]) e true)).put b (qA σ.next e cs),next:=σ.next+1,lo:=σ.lo })
     else if mo=false∧UC=n then (if 1=0 then some (Value.slice (some ⟨b,0,none⟩) n UC,σ) else some (Value.slice (some ⟨σ.next,0,none⟩) (n+1) UC,σ.add (O (cs++[x]) e true)))
     else none)
   else none
   | none=>none) else none)=_
  rw[if_pos hxo,hc]
  dsimp only
  rw[if_pos ⟨rfl,h1,by rw[ho.hlen,Nat.mul_one],hb⟩,if_pos ⟨rfl,rfl⟩]
  rfl
theorem uF1 {σ:jA} {e:Nat} {a:Option Addr} {n c:Nat} {cs:List Value} (ho:cO σ e a n c cs) (hlo:σ.lo≤σ.next) (x:Value):cO (zL0 σ e a cs [x]) e (some ⟨σ.next,0,none⟩) (n+1) UC (cs++[x]):=by
 refine ⟨by simp[ho.hlen],.inr ⟨σ.next,rfl,by rw[fC0];exact hlo,by rw[kG0];omega,?_,rfl,by omega⟩⟩
 rcases ho.hat with ⟨rfl,rfl,rfl⟩|⟨b,rfl,h1,h2,h3,rfl,h5⟩
 ·exact bC _ _ rfl
 ·have:=jJ0 (h:=σ) (b:=b) (x':=O (cs++[x]) e true) (y:=qA σ.next e cs) σ.next
  rw[if_neg (by omega),if_pos rfl] at this
  exact this
theorem dK0 {σ:jA} {e:Nat} {a:Option Addr} {n c:Nat} {cs:List Value} (ho:cO σ e a n c cs) (xs:List Value):jE σ (zL0 σ e a cs xs) (blk a):=by
 refine ⟨by rw[kG0];omega,fC0 _ _ _ _ _,fun j hj hb=>?_⟩
 rcases ho.hat with ⟨rfl,rfl,rfl⟩|⟨b,rfl,h1,h2,h3,rfl,h5⟩
 ·exact qN _ _ (by omega)
 ·have:=jJ0 (h:=σ) (b:=b) (x':=O (cs++xs) e true) (y:=qA σ.next e cs) j
  rw[if_neg (fun e=>hb ⟨0,none,by rw[e]⟩),if_neg (by omega)] at this
  exact this
def sR (R:jK→S→Prop) (e:jK) (s:S):Prop:=match e with | .goto _=>False|e=>R e s
theorem kR_Sn {R:jK→S→Prop} {s:S}:@kR ⟨sR R⟩ .normal s=R .normal s:=propext Iff.rfl
theorem kR_Sr {R:jK→S→Prop} {s:S}:@kR ⟨sR R⟩ .ret s=R .ret s:=propext Iff.rfl
theorem kR_Se {R:jK→S→Prop} {s:S} (i:Nat):@kR ⟨sR R⟩ (.exit i) s=R (.exit i) s:=propext Iff.rfl
attribute [push_cast] kR_Sn kR_Sr kR_Se
theorem WinD.of {p:Par} {q:Q} (jR:wC0 p) {ro:Option Nat} {b c:Code} {ir:IR} {D:S} {R:jK→S→Prop} (hc:comp p.P c=ir) (hok:irOk p.NG ir=true) (h:dc3 p q ro ir D (@kR ⟨sR R⟩)):WinD p q.H ro b c D R:=by
 intro g s hP hNG hs hro
 refine nH0 jR hc ?_
 rw[qM0] at h
 refine gK _ _ _ _ (fun e s1 ha=>?_) (qL0 ir hok hP hNG hs hro h)
 obtain ⟨g',D1,h1,h2,h3⟩:=ha
 cases e with
 | goto l=>exact h1.elim
 | normal=>exact ⟨g',D1,h1,h2,h3⟩
 | ret=>exact ⟨g',D1,h1,h2,h3⟩
 | exit i=>exact ⟨g',D1,h1,h2,h3⟩
theorem oC1 {σ:jA} {e k by_ b n m:Nat} {cs xs:List Value} (hc:cells σ b=some (cs,e,false)) (hlo:σ.lo≤b) (hlen:cs.length=n*k) (hxo:xs.all one=true) (hm:0<m) (hb:(n+m)*by_≤140737488355328∧(n+m)<100000000000000) :
  apS e k by_ (.slice (some ⟨b,0,none⟩) n n) (some (m,xs)) σ=some (.slice (some ⟨σ.next,0,none⟩) (n+m) UC,σ.add (O (cs++xs) e true)):=by
 show (if xs.all one = true then (match cells σ b with
   | some (cs,e',mo)=>if e'=e∧σ.lo≤b∧cs.length=n*k∧(n+m)*by_≤140737488355328∧(n+m)<100000000000000 then
    (if mo=true∧n=UC then some (Value.slice (some ⟨σ.next,0,none⟩) (n+m) UC,{ t:=(σ.t.put σ.next (O (cs++xs) e true)).put b (qA σ.next e cs),next:=σ.next+1,lo:=σ.lo })
     else if mo=false∧n=n then (if m=0 then some (Value.slice (some ⟨b,0,none⟩) n n,σ) else some (Value.slice (some ⟨σ.next,0,none⟩) (n+m) UC,σ.add (O (cs++xs) e true)))
     else none)
   else none
   | none=>none) else none)=_
 rw[if_pos hxo,hc]
 dsimp only
 rw[if_pos ⟨rfl,hlo,hlen,hb⟩,if_neg (by simp),if_pos ⟨rfl,rfl⟩,if_neg (by omega)]
def Frz (D D':S):Prop:=∀ (g:Gh) (s:S),SRel g D s→∃ g',Ext g D.h s.h g' D'.h s.h∧SRel g' D' s
theorem zY2 {D:S} {i k:Nat} {cs:List Value} {e:Nat} {m:Bool} (hlo:D.h.lo≤i) (hlt:i<D.h.next) (hg:D.h.get i=some (O cs e m)) (hc:0<cs.length) (hk:k<D.tm.sz) (ht:D.tm.get k=.pointer (some ⟨i,0,none⟩)) :
  Frz D ⟨D.tm.set k (Rpt 0 cs),D.df,hflt (fun j=>!Nat.beq j i) D.h⟩:=by
 intro g s hs
 have hr:=hs.r
 have hown:gD D.h i:=hr.own hlt hlo hg
 have hq:∀ j,(!Nat.beq j i)=true↔j≠i:=fun j=>by
  constructor
  ·rintro h rfl;simp at h
  ·intro h
   cases hb:Nat.beq j i with
   | false=>rfl
   | true=>exact absurd (Nat.eq_of_beq_eq_true hb) h
 have r1:=hr.flt (fun j=>!Nat.beq j i) (fun j hj=>(hq j).2 (by omega)) (F':=fun b=>g.F b∨b=g.δ i) (fun b hb=>by
  rcases hb with hb|rfl
  ·exact ⟨(hr.frz b hb).1,fun j hj _=>(hr.frz b hb).2 j hj⟩
  ·exact ⟨hr.dlt i hlt,fun j hj hqj e=>(hq j).1 hqj (hr.inj j i hj hown e)⟩) (fun b hb=>.inl hb)
 have x1:Ext g D.h s.h { g with F:=fun b=>g.F b∨b=g.δ i } (hflt (fun j=>!Nat.beq j i) D.h) s.h:=
  ⟨rfl,rfl,Nat.le_refl _,rfl,Nat.le_refl _,rfl,fun _ _=>rfl,fun _ hb=>.inl hb,fun b hb=>by
   rcases hb with hb|rfl
   ·exact .inl hb
   ·exact .inr (.inr ⟨i,hown,rfl⟩),fun _ _ _=>rfl,fun j hj=>.inl (jY0 hj).1⟩
 refine ⟨_,x1,r1,?_,hs.df,hs.dl⟩
 have t1:=hs.t.ext (x1.e0 hr)
 obtain ⟨vs,e',h1,h0,h2,h3⟩:=hr.obj i _ hlt hg
 have hp:=t1.get k
 rw[ht] at hp
 simp only[RV,Option.map_some,ren] at hp
 refine ⟨by rw[VT.set_sz];exact t1.sz,by rw[VT.set_sz];exact t1.sU,fun j=>?_⟩
 rw[VT.get_set t1.sU]
 by_cases hkj:k=j
 ·subst hkj
  rw[if_pos rfl,if_pos hk,hp.2]
  refine RV.mkRpt (o:=0) (off:=0) (h2.ext (x1.e0 hr)) ⟨Sl.row h1 (hr.dlo i hown),fun b hb=>?_⟩ (by rw[h2.len];exact hc)
  obtain ⟨o,s',e⟩:=hb
  cases e
  exact ⟨hr.dlt i hlt,.inr rfl⟩
 ·rw[if_neg hkj]
  exact t1.get j
theorem mG1 (σ:jA) (i:Nat):jE σ (hflt (fun j=>!Nat.beq j i) σ) (fun k=>k=i):=by
 refine ⟨Nat.le_refl _,rfl,fun j _ hj=>?_⟩
 rw[zO0,if_pos]
 cases hb:Nat.beq j i with
 | false=>rfl
 | true=>exact absurd (Nat.eq_of_beq_eq_true hb) hj
def iG0 (p:Par) (q:Q) (l:Nat) (bIR:IR) (K:Bool→Value→jA→Prop) (e:jK) (s1:S):Prop:=
 match e with
 | .normal=>match qI s1.h l with
  | some r1=>r1.state=.ready∧∃ D',Frz ⟨s1.tm,s1.df,jQ s1.h l { r1 with state:=.busy }⟩ D'∧dc3 p q (some l) bIR D' (@kR ⟨qW0 l K⟩)
  | none=>False
 | _=>False
theorem jC.yieldG {p:Par} {q:Q} {σ:jA} (jR:wC0 p) {l:Nat} {r:Loop} {args:List Value} {K:Bool→Value→jA→Prop} {T:VT} {aIR bIR:IR} (hl:qI σ l=some r) (hlt:l<σ.next) (hT:r.tmps=T.arr) (hU:T.sz<U) (hlen:args.length=r.params.toList.length)
  (ha:comp p.P r.assign=aIR) (hb:comp p.P r.body=bIR) (hoka:irOk p.NG aIR=true) (hokb:irOk p.NG bIR=true) (hNG:p.NG≤σ.lo) (hv:dc3 p q (some l) aIR ⟨kS T (r.params.toList.zip args),[],σ⟩ (@kR ⟨iG0 p q l bIR K⟩)) :
  jC p q.H (.func (.yield l) ⟨[]⟩ ⟨[]⟩) args σ K:=by
 intro g h fv vs hP hr hf hvs
 simp only[RV,RVL,RowP] at hf
 obtain ⟨vs0,rfl,-,-,rfl⟩:=hf
 obtain ⟨hown,us,hgl,hus,_⟩:=qC0 hr hl hlt
 rw[hT] at hus
 obtain ⟨T',hT',ht⟩:=sP1 hU hus
 have hlen':vs.length=r.params.toList.length:=by rw[hvs.len];exact hlen
 show jV0 p (g.δ l) vs h _
 refine jV0.of hgl (T:=T') hT'.symm (by rw[ht.sz];exact hU) hlen' (qH0 jR _ _ _ ?_)
 show vc p (some (g.δ l)) (comp p.P r.assign) _ _
 rw[ha]
 rw[qM0] at hv
 have hz:Tms g h σ.next (kS T (r.params.toList.zip args)) (kS T' (r.params.toList.zip vs)):=by
  refine zY0 ht ?_ ?_
  ·rw[List.map_fst_zip (by omega),List.map_fst_zip (by omega)]
  ·rw[List.map_snd_zip (by omega),List.map_snd_zip (by omega)];exact hvs
 have h1:=qL0 aIR hoka hP hNG (D:=⟨kS T (r.params.toList.zip args),[],σ⟩) (s:=⟨kS T' (r.params.toList.zip vs),[],h⟩) ⟨hr,hz,rfl,fun d hd=>by cases hd⟩ (ro:=some l) (fun l' e=>by cases e;exact hlt) hv
 refine gK _ _ _ _ (fun e s1 hA=>?_) h1
 obtain ⟨g1,D1,hd,x1,r1⟩:=hA
 have hδ1:g1.δ l=g.δ l:=x1.δ l hlt
 have hlt1:l<D1.h.next:=Nat.lt_of_lt_of_le hlt x1.nn
 change iG0 p q l bIR K e D1 at hd
 unfold iG0 at hd
 unfold iF0
 cases e with
 | exit i=>exact hd.elim
 | goto t=>exact hd.elim
 | ret=>exact hd.elim
 | normal=>
  dsimp only at hd ⊢
  split at hd
  ·rename_i r1' hg1
   obtain ⟨hst,D',hF,hbody⟩:=hd
   obtain ⟨hown1,us1,hgl1,hus1,hput1⟩:=qC0 r1.r hg1 hlt1
   rw[hδ1] at hgl1
   rw[hgl1]
   refine ⟨hst,qH0 jR _ _ _ ?_⟩
   show vc p (some (g.δ l)) (comp p.P r.body) _ _
   rw[hb]
   obtain ⟨x2,rel2⟩:=hput1 .busy r1'.pending
   rw[hδ1] at x2 rel2
   rw[qM0] at hbody
   have hs2:SRel g1 ⟨D1.tm,D1.df,jQ D1.h l { r1' with state:=.busy }⟩ ⟨s1.tm,s1.df,jQ s1.h (g.δ l) { r1' with tmps:=⟨us1⟩,defers:=g1.δ r1'.defers,state:=.busy }⟩:=
    r1.ext (D':=⟨D1.tm,D1.df,jQ D1.h l { r1' with state:=.busy }⟩) (s':=⟨s1.tm,s1.df,jQ s1.h (g.δ l) { r1' with tmps:=⟨us1⟩,defers:=g1.δ r1'.defers,state:=.busy }⟩) x2 rel2 (r1.t.ext (x2.e0 r1.r)) rfl rfl
   obtain ⟨gF,xF,hs3⟩:=hF g1 _ hs2
   have hltF:l<D'.h.next:=Nat.lt_of_lt_of_le hlt1 xF.nn
   have hδF:gF.δ l=g.δ l:=(xF.δ l hlt1).trans hδ1
   have h2:=qL0 bIR hokb (xF.ok (x1.ok hP)) (D:=D') (by rw[xF.lo];show p.NG≤D1.h.lo;rw[x1.lo];exact hNG) hs3 (ro:=some l) (fun l' e=>by cases e;exact hltF) hbody
   rw[Option.map_some,hδF] at h2
   refine gK _ _ _ _ (fun e s2 hB=>?_) h2
   obtain ⟨g2,D2,hd2,x3,r2⟩:=hB
   have hδ2:g2.δ l=g.δ l:=(x3.δ l hltF).trans hδF
   have hlt2:l<D2.h.next:=Nat.lt_of_lt_of_le hltF x3.nn
   change qW0 l K e D2 at hd2
   unfold qW0 at hd2
   unfold rO0
   split at hd2
   ·rename_i r2' hg2
    obtain ⟨_,us2,hgl2,_,hput2⟩:=qC0 r2.r hg2 hlt2
    rw[hδ2] at hgl2
    rw[hgl2]
    dsimp only
    obtain ⟨x4,rel4⟩:=hput2 (if e.jump.isNone then .ready else .done) e.jump
    rw[hδ2] at x4 rel4
    exact ⟨false,_,_,hd2,g2,(((x1.trans x2).trans xF).trans x3).trans x4,rel4,(by simp only[RV]),fun e=>by cases e⟩
   ·exact hd2.elim
  ·exact hd.elim
end
end Go.Dv
