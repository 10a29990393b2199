/-
  A part of the proof: conditions over an abstract memory,and that they are enough for what the model's calls do. No condition of its own.
-/
import Derived.Test.YtdcjpmjmjinjmaaDoorEvd
set_option linter.unusedSimpArgs false
set_option linter.unusedVariables false
namespace Go.Dv
open Go Go.RowKit Go.Ev
noncomputable section
theorem FzL.app {P:Program} {n:Nat} {σ:jA}:∀ {vs ds us es:List Value},FzL P n σ vs ds→FzL P n σ us es→FzL P n σ (vs++us) (ds++es)
 | _,_,_,_,.nil,h=>h
 | _,_,_,_,.cons h1 h2,h=>.cons h1 (FzL.app h2 h)
def orB (a b:Bool):Bool:=match a with|true=>true|false=>b
theorem orB_t (b:Bool):orB true b=true:=rfl
theorem orB_f (b:Bool):orB false b=b:=rfl
theorem zQ2 (i x:Nat) (l:List Nat):memN i (x :: l)=orB (decide (i=x)) (memN i l):=by
 by_cases h:i=x
 ·rw[zO2 h,decide_eq_true h];rfl
 ·rw[zP2 h,decide_eq_false h];rfl
attribute [push_cast] orB_t orB_f zQ2
section
variable {p:Par} {H:jA}
theorem jC.new1 {f:FuncId} {cap args args':List Value} {σ:jA} {n c:Nat} {cs:List Value} {e:TypeId} {m:Bool} {K:Bool→Value→jA→Prop}
  (hc:jO p H f args' H fun v σ'=>v=.slice (some ⟨H.next,0,none⟩) n c∧σ'=H.add (O cs e m)) (hfz:FzL p.P H.next H (args++cap) args') (hz:scL σ.lo (args++cap)=true) (hd:scL σ.lo cs=true)
  (hK:K true (.slice (some ⟨σ.next,0,none⟩) n c) (σ.add (O cs e m))) :
  jC p H (.func (.func f) ⟨[]⟩ ⟨cap⟩) args σ K:=by
 intro g h fv vs hP hr hf hv
 obtain ⟨us,rfl,hcs⟩:=zL0 hf
 show yA0 p f (vs++us) h _
 have hlo:=hr.lo
 rw[hP.2] at hlo
 have no:∀ i,¬ uH H i:=fun i hi=>by have:=hi.1;have:=hi.2.1;omega
 have hr2:Rel g H h:=by
  have h1:=kJ0 hr (m:=0)
  rw[hP.2] at h1
  exact ⟨h1.pos,h1.lo,h1.lon,h1.hlo,h1.base,h1.baseF,h1.baseD,fun i x hi hx=>by
   have hx':σ.get i=some x:=by rw[hr.base i (by omega),hP.2];exact hx
   obtain ⟨ds,e,fr,rfl,hfl⟩:=hr.baseF i x (by omega) hx'
   obtain ⟨vs,e',h2,h0,h3,h4⟩:=hr.obj i _ (by have:=hr.lon;omega) hx'
   have:=RVL.flat _ _ hfl h3
   subst this
   exact ⟨_,e',h2,fun h=>by omega,RVL.of_flat _ hfl,h4⟩,h1.dlt,fun i hi=>absurd hi (no i),fun i j hi=>absurd hi (no i),fun b hb=>⟨(hr.frz b hb).1,fun i hi=>absurd hi (no i)⟩,h1.wf⟩
 have ha:=RVL.wid (g:=g) (g':=g) (n:=σ.lo) ⟨rfl,fun _ _=>rfl,fun _ hb=>hb⟩ _ _ hz (hv.app hcs)
 rw[hlo.1] at ha
 have ha:=uU hr2 hP.1 (by omega) (Nat.le_refl _) hfz ha
 have hr4:=kJ0 hr2 (m:=H.next)
 rw[hP.2] at hr4
 refine ((hc (g.all H.next H) h _ ⟨hP.1,hP.2⟩ hr4 ha).mono ?_).w
 rintro u h' ⟨_,_,⟨rfl,rfl⟩,g',x,r',rv,_⟩
 simp only[RV,Option.map_some,ren] at rv
 obtain ⟨_,rfl⟩:=rv
 have hag:Agr h h':=fun b hb=>x.fr b hb fun i hi=>absurd hi (no i)
 have hget:(H.add (O cs e m)).get H.next=some (O cs e m):=qW _ _ rfl
 have ownN:uH (H.add (O cs e m)) H.next:=⟨by rw[jN];omega,by rw[jB];omega,by rw[hget];rfl⟩
 obtain ⟨B,hB⟩:∃ B,g'.δ H.next=B:=⟨_,rfl⟩
 have hBn:h.next≤B:=by
  rcases x.im _ ownN with h1|h1
  ·exact absurd h1 (no _)
  ·omega
 have hBlt:B<h'.next:=by rw[← hB];exact r'.dlt _ ownN.2.1
 have hFn:∀ b,g'.F b→g.F b∨h.next≤b:=fun b hb=>by
  rcases x.Fn b hb with h1|h1|⟨i,hi,_⟩
  ·rcases h1 with h1|⟨i,hi,_⟩
   ·exact .inl h1
   ·exact absurd hi (no i)
  ·exact .inr h1
  ·exact absurd hi (no i)
 have hFB:¬ g'.F B:=fun hb=>(r'.frz B hb).2 _ ownN hB
 let g2:Gh:={ g with δ:=fun j=>if j=σ.next then B else g.δ j,F:=g'.F }
 have hδ:∀ i,i<σ.next→g2.δ i=g.δ i:=fun i hi=>if_neg (by omega)
 have hδn:g2.δ σ.next=B:=if_pos rfl
 have hlon:=hr.lon
 have e0:Ext0 g h σ.next g2 h' (σ.next+1):=⟨rfl,Nat.le_succ _,hδ,fun b hb=>x.F b (.inl hb),x.next,x.hlo,fun b hb hlt=>hag b hlt⟩
 have hown:∀ i,uH (σ.add (O cs e m)) i→(uH σ i∧i<σ.next)∨i=σ.next:=fun i ⟨h1,h2,h3⟩=>by
  rw[jB] at h2
  rw[jN] at h1
  by_cases e:i=σ.next
  ·exact .inr e
  ·rw[jV _ i e] at h3
   exact .inl ⟨⟨h1,by omega,h3⟩,by omega⟩
 refine ⟨true,_,_,hK,g2,⟨rfl,rfl,by rw[jB];omega,jN _,x.next,x.hlo,hδ,fun b hb=>x.F b (.inl hb),fun b hb=>?_,fun b hb _=>hag b hb,fun i hi=>?_⟩,?_,?_,fun _=>hag⟩
 ·rcases hFn b hb with h1|h1
  ·exact .inl h1
  ·exact .inr (.inl h1)
 ·rcases hown i hi with h1|rfl
  ·exact .inl h1.1
  ·exact .inr (by rw[hδn];exact hBn)
 ·refine ⟨by rw[jN];exact hr.pos,by rw[jN];exact hr.lo,by rw[jN,jB];omega,by rw[x.hlo];exact Nat.le_trans hr.hlo x.next,fun i hi=>?_,fun i z hi hz=>?_,fun i hi=>?_,fun i z hi hz=>?_,fun i hi=>?_,fun i hi=>?_,fun i j hi hj e=>?_,fun b hb=>?_,r'.wf⟩
  ·rw[jN] at hi;rw[jV _ i (by omega)];exact hr.base i hi
  ·rw[jN] at hi;rw[jV _ i (by omega)] at hz;exact hr.baseF i z hi hz
  ·rw[jN] at hi;rw[jV _ i (by omega),hδ i (by omega),x.hlo];exact hr.baseD i hi
  ·rw[jB] at hi ⊢
   by_cases e:i=σ.next
   ·subst e
    rw[qW _ _ rfl] at hz
    cases hz
    rw[hδn]
    obtain ⟨ws,e',q1,q2,q3,q4⟩:=r'.obj H.next _ ownN.2.1 hget
    rw[hB] at q1
    refine ⟨ws,e',q1,fun _=>q2 (by rw[jN];omega),?_,q4⟩
    rw[hlo.1] at hd
    have h5:=RVL.wid (g:=g') (g':=g2) (h:=h') (N:=H.next+1) (n:=H.next) ⟨x.P.symm,fun i hi=>by rw[hδ i (by omega)];exact (x.δ i (by omega)).symm,fun _ hb=>hb⟩ cs ws hd (by rw[jB] at q3;exact q3)
    exact h5.ext ⟨rfl,by omega,fun _ _=>rfl,fun _ hb=>hb,Nat.le_refl _,rfl,fun _ _ _=>rfl⟩
   ·rw[jV _ i e] at hz
    rw[hδ i (by omega)]
    exact ((hr.obj i z (by omega) hz).ext e0 (hag _ (hr.dlt i (by omega)))).imp fun h=>by rw[jN] at h;exact h
  ·rw[jB] at hi
   by_cases e:i=σ.next
   ·subst e;rw[hδn];exact hBlt
   ·rw[hδ i (by omega)];exact Nat.lt_of_lt_of_le (hr.dlt i (by omega)) x.next
  ·rw[x.hlo]
   rcases hown i hi with h1|rfl
   ·rw[hδ i h1.2];exact hr.dlo i h1.1
   ·rw[hδn];exact Nat.le_trans hr.hlo hBn
  ·rcases hown i hi with h1|rfl
   ·rcases hown j hj with h2|rfl
    ·rw[hδ i h1.2,hδ j h2.2] at e
     exact hr.inj i j h1.1 h2.1 e
    ·rw[hδ i h1.2,hδn] at e
     have:=hr.dlt i h1.2
     omega
   ·rcases hown j hj with h2|rfl
    ·rw[hδ j h2.2,hδn] at e
     have:=hr.dlt j h2.2
     omega
    ·rfl
  ·refine ⟨(r'.frz b hb).1,fun i hi=>?_⟩
   rcases hown i hi with h3|rfl
   ·rw[hδ i h3.2]
    rcases hFn b hb with h1|h1
    ·exact (hr.frz b h1).2 i h3.1
    ·have:=hr.dlt i h3.2;omega
   ·rw[hδn];intro e;subst e;exact hFB hb
 ·simp only[RV,Option.map_some,ren,hδn,hB]
  refine ⟨?_,trivial⟩
  rw[qN]
  simp[Ev.sc,scA,jB]
end
def flt (p:Nat→Bool):Tr→Tr
 | .nil=>.nil
 | .node l v r=>.node (flt (fun k=>p (2*k+1)) l) (if p 0 then v else none) (flt (fun k=>p (2*k+2)) r)
theorem mD0:∀ (t:Tr) (p:Nat→Bool) (i:Nat),(flt p t).get i=if p i then t.get i else none
 | .nil,p,i=>by
  rw[flt,Tr.get_nil];split<;>rfl
 | .node l v r,p,i=>by
  rw[flt,Tr.get_node,Tr.get_node,mD0 l,mD0 r]
  by_cases h0:i=0
  ·subst h0;rfl
  rw[if_neg h0,if_neg h0]
  by_cases h1:(i-1) % 2=0
  ·rw[if_pos h1,if_pos h1,show 2*((i-1) / 2)+1=i by omega]
  ·rw[if_neg h1,if_neg h1,show 2*((i-1) / 2)+2=i by omega]
def uM (p:Nat→Bool) (σ:jA):jA:=⟨flt p σ.t,σ.next,σ.lo⟩
theorem kN (p:Nat→Bool) (σ:jA) (i:Nat):(uM p σ).get i=if p i then σ.get i else none:=mD0 ..
theorem gJ0 (p:Nat→Bool) (σ:jA):(uM p σ).next=σ.next:=rfl
theorem kN1 (p:Nat→Bool) (σ:jA):(uM p σ).lo=σ.lo:=rfl
theorem jD0 {p:Nat→Bool} (σ:jA) {i:Nat} (h:p i=true):cells (uM p σ) i=cells σ i:=qT (by rw[kN,if_pos h])
attribute [push_cast] gJ0 kN1
section
variable {p:Par} {H:jA}
theorem jJ0 {q:Nat→Bool} {σ:jA} {i:Nat} (h:uH (uM q σ) i):uH σ i∧q i=true:=by
 obtain ⟨h1,h2,h3⟩:=h
 rw[kN] at h3
 split at h3
 ·rename_i hq;exact ⟨⟨h1,h2,h3⟩,hq⟩
 ·cases h3
theorem Rel.flt {g:Gh} {σ h:jA} (hr:Rel g σ h) (q:Nat→Bool) (hq:∀ i,i<σ.lo→q i=true) {F':Nat→Prop} (hF:∀ b,F' b→b<h.next∧∀ i,uH σ i→q i=true→g.δ i≠b) (hF2:∀ b,g.F b→F' b):Rel { g with F:=F' } (uM q σ) h:=by
 have e0:Ext0 g h σ.next { g with F:=F' } h σ.next:=⟨rfl,Nat.le_refl _,fun _ _=>rfl,hF2,Nat.le_refl _,rfl,fun _ _ _=>rfl⟩
 have low:∀ i,i<σ.lo→(uM q σ).get i=σ.get i:=fun i hi=>by rw[kN,if_pos (hq i hi)]
 refine ⟨hr.pos,hr.lo,hr.lon,hr.hlo,fun i hi=>(low i hi).trans (hr.base i hi),fun i x hi hx=>hr.baseF i x hi (by rw[← low i hi];exact hx),fun i hi=>by rw[low i hi];exact hr.baseD i hi,fun i x hi hx=>?_,hr.dlt,fun i hi=>hr.dlo i (jJ0 hi).1,fun i j hi hj e=>hr.inj i j (jJ0 hi).1 (jJ0 hj).1 e,fun b hb=>⟨(hF b hb).1,fun i hi=>(hF b hb).2 i (jJ0 hi).1 (jJ0 hi).2⟩,hr.wf⟩
 rw[kN] at hx
 split at hx
 ·exact (hr.obj i x hi hx).ext e0 rfl
 ·cases hx
end
section
variable {p:Par} {H:jA}
theorem jO.cutE {f:FuncId} {args:List Value} {σ:jA} {R:Value→jA→Prop} (hc:jO p H f args σ fun v σ'=>∃ d σ1,R d σ1∧FzV p.P σ1.next σ' v d∧uD0 p.P σ σ1 σ'):jO p H f args σ R:=by
 intro g h vs hP hr hv
 refine (hc g h vs hP hr hv).mono ?_
 rintro u h' ⟨v,σ',⟨d,σ1,hR,hz,hk⟩,g',x,hr',hv',_⟩
 have hP':=x.ok hP
 obtain ⟨x1,r1⟩:=dL0 hr x hr' hP'.1 hk
 have:=hr.lon
 have:=hk.next
 exact ⟨d,σ1,hR,_,x1,r1,fS0 hr' hP'.1 (by rw[x.lo];omega) hk.nx hz hv',fun e=>by cases e⟩
end
section
variable {p:Par} {H:jA}
theorem jC.dataI {f:FuncId} {args:List Value} {σ:jA} {d:Value} {K:Bool→Value→jA→Prop} (hc:jI p H f args d) (hz:scL H.next args=true∧scL σ.lo args=true∧sc σ.lo d=true) (hK:K true d σ) :
  jC p H (.func (.func f) ⟨[]⟩ ⟨[]⟩) args σ K:=
 jC.data (cap:=[]) hc (by rw[List.append_nil];exact FzL.ids hz.1) (by rw[List.append_nil];exact hz.2.1) hz.2.2 hK
end
section
variable {p:Par} {H:jA}
end
section
variable {g g':Gh} {σ σ' h h':jA} {p:Par} {q:Q}
theorem gK0 {l:Nat} {r:Loop}:qF h l=some r↔(∃ m,h.get l=some ⟨.loop r,m⟩)∧h.lo≤l:=by
 constructor
 ·intro e
  unfold qF at e
  split at e
  ·rename_i r' m hg
   split at e
   ·rename_i hlo
    cases e
    exact ⟨⟨m,hg⟩,by simpa using hlo⟩
   ·cases e
  ·cases e
 ·rintro ⟨⟨m,hg⟩,hlo⟩
  exact qE hg hlo
theorem jW0 (hr:Rel g σ h) {l:Nat} {r:Loop} (hl:qF σ l=some r) (hlt:l<σ.next) :
  uH σ l∧∃ us,qF h (g.δ l)=some { r with tmps:=⟨us⟩,defers:=g.δ r.defers }∧RVL g h σ.next r.tmps.toList us∧∀ st pd,Ext g σ h g (jM σ l { r with state:=st,pending:=pd }) (jM h (g.δ l) { r with tmps:=⟨us⟩,defers:=g.δ r.defers,state:=st,pending:=pd })∧
   Rel g (jM σ l { r with state:=st,pending:=pd }) (jM h (g.δ l) { r with tmps:=⟨us⟩,defers:=g.δ r.defers,state:=st,pending:=pd }):=by
 obtain ⟨⟨m,hg⟩,hlo⟩:=gK0.1 hl
 have hown:uH σ l:=hr.own hlt hlo hg
 obtain ⟨us,h1,h2,h3⟩:=hr.obj l _ hlt hg
 refine ⟨hown,us,gK0.2 ⟨⟨m,h1⟩,hr.dlo l hown⟩,h3,fun st pd=>?_⟩
 exact uY0 hr hown (x:=⟨.loop { r with state:=st,pending:=pd },false⟩) (y:=⟨.loop { r with tmps:=⟨us⟩,defers:=g.δ r.defers,state:=st,pending:=pd },false⟩) fun h' e1 x=>⟨us,e1,h2,h3.ext x⟩
def gN (l:Nat) (K:Bool→Value→jA→Prop) (e:jL) (s2:S):Prop:=
 match qF s2.h l with
 | some r2=>K false (.bool e.jump.isNone) (jM s2.h l { r2 with state:=if e.jump.isNone then .ready else .done,pending:=e.jump })
 | none=>False
def kH0 (p:Par) (q:Q) (l:Nat) (bIR:IR) (K:Bool→Value→jA→Prop) (e:jL) (s1:S):Prop:=
 match e with
 | .normal=>match qF s1.h l with
  | some r1=>r1.state=.ready∧dc3 p q (some l) bIR ⟨s1.tm,s1.df,jM s1.h l { r1 with state:=.busy }⟩ (@kR ⟨gN l K⟩)
  | none=>False
 | _=>False
theorem zQ0:∀ {l:List (Nat×Value)} {l':List (Nat×Value)} {N:Nat} {D T:VT},Tms g h N D T→l.map Prod.fst=l'.map Prod.fst→RVL g h N (l.map Prod.snd) (l'.map Prod.snd)→Tms g h N (uG D l) (uG T l')
 | [],[],N,D,T,ht,_,_=>ht
 | (a,x) :: l,(b,y) :: l',N,D,T,ht,he,hv=>by
  simp only[List.map_cons,List.cons.injEq] at he
  simp only[List.map_cons,RVL] at hv
  obtain ⟨v,vs,e,h1,h2⟩:=hv
  simp only[List.cons.injEq] at e
  obtain ⟨e1,e2⟩:=e
  subst e2
  have e1':y=v:=e1
  subst e1'
  have ha:a=b:=he.1
  subst ha
  exact zQ0 (D:=D.set a x) (T:=T.set a y) (ht.set a h1) he.2 h2
 | [],_ :: _,_,_,_,_,he,_=>by cases he
 | _ :: _,[],_,_,_,_,he,_=>by cases he
theorem lI1 {N:Nat} {T:VT} (hU:T.sz<U) {us:List Value} (hv:RVL g h N T.arr.toList us):∃ T':VT,T'.arr=⟨us⟩∧Tms g h N T T':=by
 have hlen:=hv.len
 have hTl:T.arr.toList.length=T.sz:=by rw[Array.length_toList,VT.arr_size]
 have hsz:(VT.of us us.length).sz=us.length:=by
  show us.length+(us.length-us.length)=_
  omega
 have harr:(VT.of us us.length).arr=⟨us⟩:=by
  rw[VT.of_arr _ _ (by rw[hsz];omega)]
  apply Array.ext';simp
 refine ⟨VT.of us us.length,harr,by rw[hsz];omega,hU,fun i=>?_⟩
 rw[← VT.arr_getD,← VT.arr_getD,harr]
 simp only[Array.getD_eq_getD_getElem?,List.getElem?_toArray]
 cases hi:T.arr.toList[i]? with
 | none=>
  have h2:us[i]?=none:=by
   rw[List.getElem?_eq_none_iff] at hi ⊢
   omega
  rw[Array.getElem?_toList] at hi
  rw[h2,hi]
  exact RV.undef
 | some d=>
  obtain ⟨v,h1,h2⟩:=hv.get hi
  rw[Array.getElem?_toList] at hi
  rw[h1,hi]
  exact h2
theorem jC.mono {H:jA} {f:Value} {args:List Value} {K K':Bool→Value→jA→Prop} (hc:jC p H f args σ K) (hK:∀ b d σ',K b d σ'→K' b d σ'):jC p H f args σ K':=
 fun g h fv vs hP hr hf hv=>(hc g h fv vs hP hr hf hv).mono fun u h' ⟨b,d,σ',h1,h2⟩=>⟨b,d,σ',hK b d σ' h1,h2⟩
theorem jC.yield (jX:uE0 p) {l:Nat} {r:Loop} {args:List Value} {K:Bool→Value→jA→Prop} {T:VT} {aIR bIR:IR} (hl:qF σ l=some r) (hlt:l<σ.next) (hT:r.tmps=T.arr) (hU:T.sz<U) (hlen:args.length=r.params.toList.length)
  (ha:comp p.P r.assign=aIR) (hb:comp p.P r.body=bIR) (hoka:gS p.NG aIR=true) (hokb:gS p.NG bIR=true) (hNG:p.NG≤σ.lo) (hv:dc3 p q (some l) aIR ⟨uG T (r.params.toList.zip args),[],σ⟩ (@kR ⟨kH0 p q l bIR K⟩)) :
  jC p q.H (.func (.yield l) ⟨[]⟩ ⟨[]⟩) args σ K:=by
 intro g h fv vs hP hr hf hvs
 simp only[RV,RVL,RowP] at hf
 obtain ⟨vs0,rfl,-,-,rfl⟩:=hf
 obtain ⟨hown,us,hgl,hus,_⟩:=jW0 hr hl hlt
 rw[hT] at hus
 obtain ⟨T',hT',ht⟩:=lI1 hU hus
 have hlen':vs.length=r.params.toList.length:=by rw[hvs.len];exact hlen
 show jQ0 p (g.δ l) vs h _
 refine jQ0.of hgl (T:=T') hT'.symm (by rw[ht.sz];exact hU) hlen' (jZ0 jX _ _ _ ?_)
 show vc p (some (g.δ l)) (comp p.P r.assign) _ _
 rw[ha]
 rw[jM0] at hv
 have hz:Tms g h σ.next (uG T (r.params.toList.zip args)) (uG T' (r.params.toList.zip vs)):=by
  refine zQ0 ht ?_ ?_
  ·rw[List.map_fst_zip (by omega),List.map_fst_zip (by omega)]
  ·rw[List.map_snd_zip (by omega),List.map_snd_zip (by omega)];exact hvs
 have h1:=jL0 aIR hoka hP hNG (D:=⟨uG T (r.params.toList.zip args),[],σ⟩) (s:=⟨uG T' (r.params.toList.zip vs),[],h⟩) ⟨hr,hz,rfl,fun d hd=>by cases hd⟩ (ro:=some l) (fun l' e=>by cases e;exact hlt) hv
 refine uN _ _ _ _ (fun e s1 hA=>?_) h1
 obtain ⟨g1,D1,hd,x1,r1⟩:=hA
 have hδ1:g1.δ l=g.δ l:=x1.δ l hlt
 have hlt1:l<D1.h.next:=Nat.lt_of_lt_of_le hlt x1.nn
 change kH0 p q l bIR K e D1 at hd
 unfold kH0 at hd
 unfold eD0
 cases e with
 | exit i=>exact hd.elim
 | goto t=>exact hd.elim
 | ret=>exact hd.elim
 | normal=>
  dsimp only at hd ⊢
  split at hd
  ·rename_i r1' hg1
   obtain ⟨hst,hbody⟩:=hd
   obtain ⟨hown1,us1,hgl1,hus1,hput1⟩:=jW0 r1.r hg1 hlt1
   rw[hδ1] at hgl1
   rw[hgl1]
   refine ⟨hst,jZ0 jX _ _ _ ?_⟩
   show vc p (some (g.δ l)) (comp p.P r.body) _ _
   rw[hb]
   obtain ⟨x2,rel2⟩:=hput1 .busy r1'.pending
   rw[hδ1] at x2 rel2
   rw[jM0] at hbody
   have hs2:SRel g1 ⟨D1.tm,D1.df,jM D1.h l { r1' with state:=.busy }⟩ ⟨s1.tm,s1.df,jM s1.h (g.δ l) { r1' with tmps:=⟨us1⟩,defers:=g1.δ r1'.defers,state:=.busy }⟩:=
    r1.ext (D':=⟨D1.tm,D1.df,jM D1.h l { r1' with state:=.busy }⟩) (s':=⟨s1.tm,s1.df,jM s1.h (g.δ l) { r1' with tmps:=⟨us1⟩,defers:=g1.δ r1'.defers,state:=.busy }⟩) x2 rel2 (r1.t.ext (x2.e0 r1.r)) rfl rfl
   have h2:=jL0 bIR hokb (x1.ok hP) (D:=⟨D1.tm,D1.df,jM D1.h l { r1' with state:=.busy }⟩) (by show p.NG≤D1.h.lo;rw[x1.lo];exact hNG) hs2 (ro:=some l) (fun l' e=>by cases e;exact hlt1) hbody
   rw[Option.map_some,hδ1] at h2
   refine uN _ _ _ _ (fun e s2 hB=>?_) h2
   obtain ⟨g2,D2,hd2,x3,r2⟩:=hB
   have hδ2:g2.δ l=g.δ l:=(x3.δ l hlt1).trans hδ1
   have hlt2:l<D2.h.next:=Nat.lt_of_lt_of_le hlt1 x3.nn
   change gN l K e D2 at hd2
   unfold gN at hd2
   unfold nP0
   split at hd2
   ·rename_i r2' hg2
    obtain ⟨_,us2,hgl2,_,hput2⟩:=jW0 r2.r hg2 hlt2
    rw[hδ2] at hgl2
    rw[hgl2]
    dsimp only
    obtain ⟨x4,rel4⟩:=hput2 (if e.jump.isNone then .ready else .done) e.jump
    rw[hδ2] at x4 rel4
    exact ⟨false,_,_,hd2,g2,((x1.trans x2).trans x3).trans x4,rel4,(by simp only[RV]),fun e=>by cases e⟩
   ·exact hd2.elim
  ·exact hd.elim
theorem WD.range (jX:uE0 p) {gop:Operand} {ps:Array Tmp} {a b:Code} {D:S} {R:jL→S→Prop} {f:FuncId} {captured:List Value} (hok:uE p.NG gop=true) (hg:ev D.tm gop=.func (.func f) ⟨[]⟩ ⟨captured⟩)
  (hc:jO p q.H f (.func (.yield (D.h.next+1)) ⟨[]⟩ ⟨[]⟩ :: captured) ((D.h.add ⟨.deferred (some []),false⟩).add ⟨.loop { state:=.ready,pending:=none,fn:=0,tmps:=D.tm.arr,params:=ps,assign:=a,body:=b,defers:=D.h.next },false⟩) (qC0 (D.h.next+1) D [D.h.next] R)) :
  WD p q.H none (.range gop ps a b) D R:=by
 intro g s hP hNG hs hro
 have hr:=hs.r
 obtain ⟨x1,r1,_⟩:=gZ0 hr (x:=⟨.deferred (some []),false⟩) (y:=⟨.deferred (some []),false⟩) fun h' g' N' _ e=>e
 have hδ1:(g.new D.h.next s.h.next).δ D.h.next=s.h.next:=if_pos rfl
 have ht1:=hs.t.ext (x1.e0 hr)
 have hus:RVL (g.new D.h.next s.h.next) (s.h.add ⟨.deferred (some []),false⟩) (D.h.add ⟨.deferred (some []),false⟩).next D.tm.arr.toList s.tm.arr.toList:=by
  refine RVL.of (by rw[Array.length_toList,Array.length_toList,VT.arr_size,VT.arr_size,hs.t.sz]) fun i d v h1 h2=>?_
  have:=ht1.get i
  rw[← VT.arr_getD,← VT.arr_getD] at this
  rw[Array.getElem?_toList] at h1 h2
  simp only[Array.getD_eq_getD_getElem?,h1,h2,Option.getD_some] at this
  exact this
 obtain ⟨x2,r2,_⟩:=gZ0 r1 (x:=⟨.loop { state:=.ready,pending:=none,fn:=0,tmps:=D.tm.arr,params:=ps,assign:=a,body:=b,defers:=D.h.next },false⟩) (y:=⟨.loop { state:=.ready,pending:=none,fn:=0,tmps:=s.tm.arr,params:=ps,assign:=a,body:=b,defers:=s.h.next },false⟩) fun h' g' N' x e=>by
  refine ⟨s.tm.arr.toList,?_,?_,hus.ext x⟩
  ·rw[e,x.δ _ (by rw[jB];exact Nat.lt_succ_self _),hδ1]
  ·have:=x.nn
   rw[jB] at this
   show D.h.next<N'
   omega
 have hn1:(D.h.add ⟨.deferred (some []),false⟩).next=D.h.next+1:=jB _
 have hn2:(s.h.add ⟨.deferred (some []),false⟩).next=s.h.next+1:=jB _
 rw[hn1,hn2] at x2 r2
 have x12:=x1.trans x2
 generalize hg2:(g.new D.h.next s.h.next).new (D.h.next+1) (s.h.next+1)=g2 at x2 r2 x12
 have hδ2:g2.δ (D.h.next+1)=s.h.next+1:=by rw[← hg2];exact if_pos rfl
 have hδ3:g2.δ D.h.next=s.h.next:=by rw[x2.δ _ (by rw[jB];omega)];exact hδ1
 have hgv:=qD0 hr hs.t hNG hok
 rw[hg] at hgv
 simp only[RV,RVL] at hgv
 obtain ⟨us,cv,e1,e2,hcap⟩:=hgv
 have e2':us=[]:=e2
 subst e2'
 have hent:kC0 none s.tm ps a b s.h=some (s.h.next+1,[s.h.next],(s.h.add ⟨.deferred (some []),false⟩).add ⟨.loop { state:=.ready,pending:=none,fn:=0,tmps:=s.tm.arr,params:=ps,assign:=a,body:=b,defers:=s.h.next },false⟩):=by
  simp only[kC0,jA.add]
  try (rw[jA.new_eq,jA.new_eq])
 have hro':∀ ro:Option Nat,ro=none→ro.map g.δ=none:=fun ro e=>by rw[e];rfl
 show W p none _ s _
 refine W.range hent e1 ?_
 refine (hc g2 _ _ (x12.ok hP) r2 (RVL.cons ?_ (hcap.ext (x12.e0 hr)))).mono ?_
 ·simp only[RV]
  exact ⟨[],by simp only[RVL],rfl,by rw[jB,jB];omega,by rw[hδ2]⟩
 ·rintro u h3 ⟨d,σ',hl,g3,x3,r3,_,_⟩
  have hx:=x12.trans x3
  have hlt3:D.h.next+1<σ'.next:=by have:=x3.nn;rw[jB,jB] at this;omega
  have hδ4:g3.δ (D.h.next+1)=s.h.next+1:=by rw[x3.δ _ (by rw[jB,jB];omega)];exact hδ2
  have hδ5:g3.δ D.h.next=s.h.next:=by rw[x3.δ _ (by rw[jB,jB];omega)];exact hδ3
  unfold qC0 at hl ⊢
  split at hl
  ·rename_i e s' he
   unfold qW0 at he
   split at he
   ·rename_i r hgl
    have hgl:qF σ' (D.h.next+1)=some r:=hgl
    obtain ⟨_,us3,hgl3,_,hput⟩:=jW0 r3 hgl hlt3
    obtain ⟨x4,r4⟩:=hput .exhausted r.pending
    rw[hδ4] at hgl3 x4 r4
    have fin:∀ e',R e' ⟨D.tm,D.h.next :: D.df,jM σ' (D.h.next+1) { r with state:=.exhausted }⟩→RA g D.h s.h R e' ⟨s.tm,s.h.next :: s.df,jM h3 (s.h.next+1) { r with tmps:=⟨us3⟩,defers:=g3.δ r.defers,state:=.exhausted }⟩:=fun e' hR=>by
     refine ⟨g3,_,hR,hx.trans x4,r4,hs.t.ext ((hx.trans x4).e0 hr),?_,fun d hd=>?_⟩
     ·show s.h.next :: s.df=(D.h.next :: D.df).map g3.δ
      rw[List.map_cons,hδ5,hs.df]
      congr 1
      exact List.map_congr_left fun d hd=>((hx.trans x4).δ d (hs.dl d hd)).symm
     ·show d<σ'.next
      rcases List.mem_cons.1 hd with rfl|hd
      ·omega
      ·have:=hs.dl d hd;omega
    unfold qW0
    show (match (match qF h3 (s.h.next+1) with|some r=>_|none=>_:Option (jL×S)) with|some (e,s')=>_|none=>_)
    rw[hgl3]
    clear hgl3 x4 r4 hput hgl
    rcases r with ⟨st,pd,fn,tm',ps',as',bd',df'⟩
    dsimp only at he fin ⊢
    cases st
    all_goals
     dsimp only at he ⊢
     first
     | (cases he;done)
     | (cases pd with
        | none=>cases he;exact fin _ hl
        | some c=>cases c<;>first | (cases he;done) | (cases he;exact fin _ hl))
   ·cases he
  ·exact hl.elim
end
section
variable {p:Par} {H:jA}
theorem gJ.ghost {f:FuncId} {args:List Value} {h:jA} {R R':Value→jA→Prop} (hc:gJ p f args h R)
  (hR:∀ v h',R v h'→∃ h2,(∀ (Γ:Gam) (w:World),jY p Γ h' w→jY p Γ h2 w)∧h2.next=h'.next∧R' v h2):gJ p f args h R':=
 fun Γ w hr hs=>⟨(hc Γ w hr hs).1,fun F hF n S hS=>(hc Γ w hr hs).2 F hF n S fun v h' Γ' w' hv hg hn hb hr' hsc=>by
  obtain ⟨h2,h3,h4,h5⟩:=hR v h' hv
  exact hS v h2 Γ' w' h5 hg (by omega) hb (h3 Γ' w' hr') (by rw[h4];exact hsc)⟩
theorem jO.back {f:FuncId} {args:List Value} {σ:jA} {R R':Value→jA→Prop} (hc:jO p H f args σ R)
  (hR:∀ d σ',R d σ'→R' d σ'∨∃ b c e cs ds fr0,σ'.lo≤b∧b<σ'.next∧c<σ'.next∧σ'.lo≤c∧σ'.get b=some (qB c e cs)∧σ'.get c=some ⟨.cells ⟨cs++ds⟩ e fr0,true⟩∧cs.all one=true∧jT (cs++ds)=true∧jT cs=true∧R' d ((σ'.put c dead).put b (O cs e true))) :
  jO p H f args σ R':=by
 intro g h vs hP hr hv
 refine gJ.ghost (hc g h vs hP hr hv) ?_
 rintro u h' ⟨d,σ',h1,g',x,r,v,pu⟩
 rcases hR d σ' h1 with h2|⟨b,c,e,cs,ds,fr0,q1,q2,q3,q4,q5,q6,q7,q8,q9,q10⟩
 ·exact ⟨h',fun _ _ h=>h,rfl,d,σ',h2,g',x,r,v,pu⟩
 ·obtain ⟨h2,k1,k2,k3,k4⟩:=eT1 r q1 q5 q2 q3 q4 q6 q7 q8 q9
  exact ⟨h2,k1 p,k2,d,_,q10,g',x.trans k3,k4,v.ext (k3.e0 r),fun e=>by cases e⟩
end
structure bE (σ:jA) (e:Nat) (a:Option Addr) (n c:Nat) (cs:List Value):Prop where
 hlen:cs.length=n
 hat:(a=none∧n=0∧c=0)∨∃ b,a=some ⟨b,0,none⟩∧σ.lo≤b∧b<σ.next∧σ.get b=some (O cs e true)∧c=UC∧0<n
theorem bE.nil (σ:jA) (e:Nat):bE σ e none 0 0 []:=⟨rfl,.inl ⟨rfl,rfl,rfl⟩⟩
theorem bE.grew {σ σ':jA} {S:Nat→Prop} {e n:Nat} {a:Option Addr} {c:Nat} {cs:List Value} (ho:bE σ e a n c cs) (g:jD σ σ' S) (hS:∀ b,blk a b→¬ S b):bE σ' e a n c cs:=by
 refine ⟨ho.hlen,?_⟩
 rcases ho.hat with h0|⟨b,ha,h1,h2,h3,h4⟩
 ·exact .inl h0
 ·exact .inr ⟨b,ha,by rw[g.lo];exact h1,Nat.lt_of_lt_of_le h2 g.next,(g.get b h2 (hS b ⟨0,none,ha⟩)).trans h3,h4⟩
def wV0 (σ:jA) (e:Nat) (a:Option Addr) (cs xs:List Value):jA:=match a with
 | none=>σ.add (O (cs++xs) e true)
 | some ⟨b,_,_⟩=>{ t:=(σ.t.put σ.next (O (cs++xs) e true)).put b (qB σ.next e cs),next:=σ.next+1,lo:=σ.lo }
theorem zW0 (σ:jA) (e:Nat) (a:Option Addr) (cs xs:List Value):(wV0 σ e a cs xs).next=σ.next+1:=by
 unfold wV0;split
 ·exact jB _
 ·rfl
theorem dJ0 (σ:jA) (e:Nat) (a:Option Addr) (cs xs:List Value):(wV0 σ e a cs xs).lo=σ.lo:=by
 unfold wV0;split
 ·exact jN _
 ·rfl
theorem cT1 {σ:jA} {e by_:Nat} {a:Option Addr} {n c:Nat} {cs:List Value} (ho:bE σ e a n c cs) {x:Value} (hx:one x=true) (hb:(n+1)*by_≤140737488355328∧(n+1)<100000000000000) :
  apS e 1 by_ (.slice a n c) (some (1,[x])) σ=some (.slice (some ⟨σ.next,0,none⟩) (n+1) UC,wV0 σ e a cs [x]):=by
 have hxo:[x].all one=true:=by simp[hx]
 rcases ho.hat with ⟨rfl,rfl,rfl⟩|⟨b,rfl,h1,h2,h3,rfl,h5⟩
 ·have hcs:cs=[]:=List.length_eq_zero_iff.1 (by rw[ho.hlen])
  subst hcs
  exact mR0 _ _ _ hxo (by omega) (by simpa using hb)
 ·have hc:cells σ b=some (cs,e,true):=by unfold Ev.cells;rw[h3];rfl
  show (if [x].all one=true then (match cells σ b with
   | some (cs,e',mo)=>if e'=e∧σ.lo≤b∧cs.length=n*1∧(n+1)*by_≤140737488355328∧(n+1)<100000000000000 then
    (if mo=true∧UC=UC then some (Value.slice (some ⟨σ.next,0,none⟩) (n+1) UC,{ t:=(σ.t.put σ.next (O (cs++[x]) e true)).put b (qB σ.next e cs),next:=σ.next+1,lo:=σ.lo })
     else if mo=false∧UC=n then (if 1=0 then some (Value.slice (some ⟨b,0,none⟩) n UC,σ) else some (Value.slice (some ⟨σ.next,0,none⟩) (n+1) UC,σ.add (O (cs++[x]) e true)))
     else none)
   else none
   | none=>none) else none)=_
  rw[if_pos hxo,hc]
  dsimp only
  rw[if_pos ⟨rfl,h1,by rw[ho.hlen,Nat.mul_one],hb⟩,if_pos ⟨rfl,rfl⟩]
  rfl
theorem sL0 {σ:jA} {e:Nat} {a:Option Addr} {n c:Nat} {cs:List Value} (ho:bE σ e a n c cs) (hlo:σ.lo≤σ.next) (x:Value):bE (wV0 σ e a cs [x]) e (some ⟨σ.next,0,none⟩) (n+1) UC (cs++[x]):=by
 refine ⟨by simp[ho.hlen],.inr ⟨σ.next,rfl,by rw[dJ0];exact hlo,by rw[zW0];omega,?_,rfl,by omega⟩⟩
 rcases ho.hat with ⟨rfl,rfl,rfl⟩|⟨b,rfl,h1,h2,h3,rfl,h5⟩
 ·exact qW _ _ rfl
 ·have:=jH0 (h:=σ) (b:=b) (x':=O (cs++[x]) e true) (y:=qB σ.next e cs) σ.next
  rw[if_neg (by omega),if_pos rfl] at this
  exact this
theorem bS0 {σ:jA} {e:Nat} {a:Option Addr} {n c:Nat} {cs:List Value} (ho:bE σ e a n c cs) (xs:List Value):jD σ (wV0 σ e a cs xs) (blk a):=by
 refine ⟨by rw[zW0];omega,dJ0 _ _ _ _ _,fun j hj hb=>?_⟩
 rcases ho.hat with ⟨rfl,rfl,rfl⟩|⟨b,rfl,h1,h2,h3,rfl,h5⟩
 ·exact jV _ _ (by omega)
 ·have:=jH0 (h:=σ) (b:=b) (x':=O (cs++xs) e true) (y:=qB σ.next e cs) j
  rw[if_neg (fun e=>hb ⟨0,none,by rw[e]⟩),if_neg (by omega)] at this
  exact this
def sR (R:jL→S→Prop) (e:jL) (s:S):Prop:=match e with | .goto _=>False|e=>R e s
theorem kR_Sn {R:jL→S→Prop} {s:S}:@kR ⟨sR R⟩ .normal s=R .normal s:=propext Iff.rfl
theorem kR_Sr {R:jL→S→Prop} {s:S}:@kR ⟨sR R⟩ .ret s=R .ret s:=propext Iff.rfl
theorem kR_Se {R:jL→S→Prop} {s:S} (i:Nat):@kR ⟨sR R⟩ (.exit i) s=R (.exit i) s:=propext Iff.rfl
attribute [push_cast] kR_Sn kR_Sr kR_Se
theorem WinD.of {p:Par} {q:Q} (jX:uE0 p) {ro:Option Nat} {b c:Code} {ir:IR} {D:S} {R:jL→S→Prop} (hc:comp p.P c=ir) (hok:gS p.NG ir=true) (h:dc3 p q ro ir D (@kR ⟨sR R⟩)):WinD p q.H ro b c D R:=by
 intro g s hP hNG hs hro
 refine yP0 jX hc ?_
 rw[jM0] at h
 refine uN _ _ _ _ (fun e s1 ha=>?_) (jL0 ir hok hP hNG hs hro h)
 obtain ⟨g',D1,h1,h2,h3⟩:=ha
 cases e with
 | goto l=>exact h1.elim
 | normal=>exact ⟨g',D1,h1,h2,h3⟩
 | ret=>exact ⟨g',D1,h1,h2,h3⟩
 | exit i=>exact ⟨g',D1,h1,h2,h3⟩
theorem eV1 {σ:jA} {e k by_ b n m:Nat} {cs xs:List Value} (hc:cells σ b=some (cs,e,false)) (hlo:σ.lo≤b) (hlen:cs.length=n*k) (hxo:xs.all one=true) (hm:0<m) (hb:(n+m)*by_≤140737488355328∧(n+m)<100000000000000) :
  apS e k by_ (.slice (some ⟨b,0,none⟩) n n) (some (m,xs)) σ=some (.slice (some ⟨σ.next,0,none⟩) (n+m) UC,σ.add (O (cs++xs) e true)):=by
 show (if xs.all one = true then (match cells σ b with
   | some (cs,e',mo)=>if e'=e∧σ.lo≤b∧cs.length=n*k∧(n+m)*by_≤140737488355328∧(n+m)<100000000000000 then
    (if mo=true∧n=UC then some (Value.slice (some ⟨σ.next,0,none⟩) (n+m) UC,{ t:=(σ.t.put σ.next (O (cs++xs) e true)).put b (qB σ.next e cs),next:=σ.next+1,lo:=σ.lo })
     else if mo=false∧n=n then (if m=0 then some (Value.slice (some ⟨b,0,none⟩) n n,σ) else some (Value.slice (some ⟨σ.next,0,none⟩) (n+m) UC,σ.add (O (cs++xs) e true)))
     else none)
   else none
   | none=>none) else none)=_
 rw[if_pos hxo,hc]
 dsimp only
 rw[if_pos ⟨rfl,hlo,hlen,hb⟩,if_neg (by simp),if_pos ⟨rfl,rfl⟩,if_neg (by omega)]
def Frz (D D':S):Prop:=∀ (g:Gh) (s:S),SRel g D s→∃ g',Ext g D.h s.h g' D'.h s.h∧SRel g' D' s
theorem tA1 {D:S} {i k:Nat} {cs:List Value} {e:Nat} {m:Bool} (hlo:D.h.lo≤i) (hlt:i<D.h.next) (hg:D.h.get i=some (O cs e m)) (hc:0<cs.length) (hk:k<D.tm.sz) (ht:D.tm.get k=.pointer (some ⟨i,0,none⟩)) :
  Frz D ⟨D.tm.set k (Rpt 0 cs),D.df,uM (fun j=>!Nat.beq j i) D.h⟩:=by
 intro g s hs
 have hr:=hs.r
 have hown:uH D.h i:=hr.own hlt hlo hg
 have hq:∀ j,(!Nat.beq j i)=true↔j≠i:=fun j=>by
  constructor
  ·rintro h rfl;simp at h
  ·intro h
   cases hb:Nat.beq j i with
   | false=>rfl
   | true=>exact absurd (Nat.eq_of_beq_eq_true hb) h
 have r1:=hr.flt (fun j=>!Nat.beq j i) (fun j hj=>(hq j).2 (by omega)) (F':=fun b=>g.F b∨b=g.δ i) (fun b hb=>by
  rcases hb with hb|rfl
  ·exact ⟨(hr.frz b hb).1,fun j hj _=>(hr.frz b hb).2 j hj⟩
  ·exact ⟨hr.dlt i hlt,fun j hj hqj e=>(hq j).1 hqj (hr.inj j i hj hown e)⟩) (fun b hb=>.inl hb)
 have x1:Ext g D.h s.h { g with F:=fun b=>g.F b∨b=g.δ i } (uM (fun j=>!Nat.beq j i) D.h) s.h:=
  ⟨rfl,rfl,Nat.le_refl _,rfl,Nat.le_refl _,rfl,fun _ _=>rfl,fun _ hb=>.inl hb,fun b hb=>by
   rcases hb with hb|rfl
   ·exact .inl hb
   ·exact .inr (.inr ⟨i,hown,rfl⟩),fun _ _ _=>rfl,fun j hj=>.inl (jJ0 hj).1⟩
 refine ⟨_,x1,r1,?_,hs.df,hs.dl⟩
 have t1:=hs.t.ext (x1.e0 hr)
 obtain ⟨vs,e',h1,h0,h2,h3⟩:=hr.obj i _ hlt hg
 have hp:=t1.get k
 rw[ht] at hp
 simp only[RV,Option.map_some,ren] at hp
 refine ⟨by rw[VT.set_sz];exact t1.sz,by rw[VT.set_sz];exact t1.sU,fun j=>?_⟩
 rw[VT.get_set t1.sU]
 by_cases hkj:k=j
 ·subst hkj
  rw[if_pos rfl,if_pos hk,hp.2]
  refine RV.mkRpt (o:=0) (off:=0) (h2.ext (x1.e0 hr)) ⟨Sl.row h1 (hr.dlo i hown),fun b hb=>?_⟩ (by rw[h2.len];exact hc)
  obtain ⟨o,s',e⟩:=hb
  cases e
  exact ⟨hr.dlt i hlt,.inr rfl⟩
 ·rw[if_neg hkj]
  exact t1.get j
theorem dJ1 (σ:jA) (i:Nat):jD σ (uM (fun j=>!Nat.beq j i) σ) (fun k=>k=i):=by
 refine ⟨Nat.le_refl _,rfl,fun j _ hj=>?_⟩
 rw[kN,if_pos]
 cases hb:Nat.beq j i with
 | false=>rfl
 | true=>exact absurd (Nat.eq_of_beq_eq_true hb) hj
def eE0 (p:Par) (q:Q) (l:Nat) (bIR:IR) (K:Bool→Value→jA→Prop) (e:jL) (s1:S):Prop:=
 match e with
 | .normal=>match qF s1.h l with
  | some r1=>r1.state=.ready∧∃ D',Frz ⟨s1.tm,s1.df,jM s1.h l { r1 with state:=.busy }⟩ D'∧dc3 p q (some l) bIR D' (@kR ⟨gN l K⟩)
  | none=>False
 | _=>False
theorem jC.yieldG {p:Par} {q:Q} {σ:jA} (jX:uE0 p) {l:Nat} {r:Loop} {args:List Value} {K:Bool→Value→jA→Prop} {T:VT} {aIR bIR:IR} (hl:qF σ l=some r) (hlt:l<σ.next) (hT:r.tmps=T.arr) (hU:T.sz<U) (hlen:args.length=r.params.toList.length)
  (ha:comp p.P r.assign=aIR) (hb:comp p.P r.body=bIR) (hoka:gS p.NG aIR=true) (hokb:gS p.NG bIR=true) (hNG:p.NG≤σ.lo) (hv:dc3 p q (some l) aIR ⟨uG T (r.params.toList.zip args),[],σ⟩ (@kR ⟨eE0 p q l bIR K⟩)) :
  jC p q.H (.func (.yield l) ⟨[]⟩ ⟨[]⟩) args σ K:=by
 intro g h fv vs hP hr hf hvs
 simp only[RV,RVL,RowP] at hf
 obtain ⟨vs0,rfl,-,-,rfl⟩:=hf
 obtain ⟨hown,us,hgl,hus,_⟩:=jW0 hr hl hlt
 rw[hT] at hus
 obtain ⟨T',hT',ht⟩:=lI1 hU hus
 have hlen':vs.length=r.params.toList.length:=by rw[hvs.len];exact hlen
 show jQ0 p (g.δ l) vs h _
 refine jQ0.of hgl (T:=T') hT'.symm (by rw[ht.sz];exact hU) hlen' (jZ0 jX _ _ _ ?_)
 show vc p (some (g.δ l)) (comp p.P r.assign) _ _
 rw[ha]
 rw[jM0] at hv
 have hz:Tms g h σ.next (uG T (r.params.toList.zip args)) (uG T' (r.params.toList.zip vs)):=by
  refine zQ0 ht ?_ ?_
  ·rw[List.map_fst_zip (by omega),List.map_fst_zip (by omega)]
  ·rw[List.map_snd_zip (by omega),List.map_snd_zip (by omega)];exact hvs
 have h1:=jL0 aIR hoka hP hNG (D:=⟨uG T (r.params.toList.zip args),[],σ⟩) (s:=⟨uG T' (r.params.toList.zip vs),[],h⟩) ⟨hr,hz,rfl,fun d hd=>by cases hd⟩ (ro:=some l) (fun l' e=>by cases e;exact hlt) hv
 refine uN _ _ _ _ (fun e s1 hA=>?_) h1
 obtain ⟨g1,D1,hd,x1,r1⟩:=hA
 have hδ1:g1.δ l=g.δ l:=x1.δ l hlt
 have hlt1:l<D1.h.next:=Nat.lt_of_lt_of_le hlt x1.nn
 change eE0 p q l bIR K e D1 at hd
 unfold eE0 at hd
 unfold eD0
 cases e with
 | exit i=>exact hd.elim
 | goto t=>exact hd.elim
 | ret=>exact hd.elim
 | normal=>
  dsimp only at hd ⊢
  split at hd
  ·rename_i r1' hg1
   obtain ⟨hst,D',hF,hbody⟩:=hd
   obtain ⟨hown1,us1,hgl1,hus1,hput1⟩:=jW0 r1.r hg1 hlt1
   rw[hδ1] at hgl1
   rw[hgl1]
   refine ⟨hst,jZ0 jX _ _ _ ?_⟩
   show vc p (some (g.δ l)) (comp p.P r.body) _ _
   rw[hb]
   obtain ⟨x2,rel2⟩:=hput1 .busy r1'.pending
   rw[hδ1] at x2 rel2
   rw[jM0] at hbody
   have hs2:SRel g1 ⟨D1.tm,D1.df,jM D1.h l { r1' with state:=.busy }⟩ ⟨s1.tm,s1.df,jM s1.h (g.δ l) { r1' with tmps:=⟨us1⟩,defers:=g1.δ r1'.defers,state:=.busy }⟩:=
    r1.ext (D':=⟨D1.tm,D1.df,jM D1.h l { r1' with state:=.busy }⟩) (s':=⟨s1.tm,s1.df,jM s1.h (g.δ l) { r1' with tmps:=⟨us1⟩,defers:=g1.δ r1'.defers,state:=.busy }⟩) x2 rel2 (r1.t.ext (x2.e0 r1.r)) rfl rfl
   obtain ⟨gF,xF,hs3⟩:=hF g1 _ hs2
   have hltF:l<D'.h.next:=Nat.lt_of_lt_of_le hlt1 xF.nn
   have hδF:gF.δ l=g.δ l:=(xF.δ l hlt1).trans hδ1
   have h2:=jL0 bIR hokb (xF.ok (x1.ok hP)) (D:=D') (by rw[xF.lo];show p.NG≤D1.h.lo;rw[x1.lo];exact hNG) hs3 (ro:=some l) (fun l' e=>by cases e;exact hltF) hbody
   rw[Option.map_some,hδF] at h2
   refine uN _ _ _ _ (fun e s2 hB=>?_) h2
   obtain ⟨g2,D2,hd2,x3,r2⟩:=hB
   have hδ2:g2.δ l=g.δ l:=(x3.δ l hltF).trans hδF
   have hlt2:l<D2.h.next:=Nat.lt_of_lt_of_le hltF x3.nn
   change gN l K e D2 at hd2
   unfold gN at hd2
   unfold nP0
   split at hd2
   ·rename_i r2' hg2
    obtain ⟨_,us2,hgl2,_,hput2⟩:=jW0 r2.r hg2 hlt2
    rw[hδ2] at hgl2
    rw[hgl2]
    dsimp only
    obtain ⟨x4,rel4⟩:=hput2 (if e.jump.isNone then .ready else .done) e.jump
    rw[hδ2] at x4 rel4
    exact ⟨false,_,_,hd2,g2,(((x1.trans x2).trans xF).trans x3).trans x4,rel4,(by simp only[RV]),fun e=>by cases e⟩
   ·exact hd2.elim
  ·exact hd.elim
end
end Go.Dv
