/-
  A part of the proof: conditions over an abstract memory,and that they are enough for what the model's calls do. No condition of its own.
-/
import Derived.Test.YtklapbhlhjdijaaGreatDoorEvd
set_option linter.unusedSimpArgs false
set_option linter.unusedVariables false
namespace Go.Dv
open Go Go.RowKit Go.Ev
noncomputable section
theorem FzL.app {P:Z9}{n:Nat}{σ:jA}:∀ {vs ds us a:List Z6},FzL P n σ vs ds→FzL P n σ us a→FzL P n σ (vs++us) (ds++a)
 | _,_,_,_,.nil,h=>h
 | _,_,_,_,.cons h1 h2,h=>.cons h1 (FzL.app h2 h)
def orB (a b:Zb):Zb:=match a with|true=>true|false=>b
theorem orB_t (b:Zb):orB true b=true:=rfl
theorem orB_f (b:Zb):orB false b=b:=rfl
theorem bJ3 (i x:Nat)(l:List Nat):cT i (x :: l)=orB (decide (i=x)) (cT i l):=by
 by_cases h:i=x
 ·rw[bH3 h,decide_eq_true h];rfl
 ·rw[bI3 h,decide_eq_false h];rfl
attribute [push_cast] orB_t orB_f bJ3
section
variable {p:Par} {H:jA}
theorem jE.new1 {f:FuncId}{cap args s:List Z6}{σ:jA}{n c:Nat}{cs:List Z6}{e:Zt}{m:Zb}{K:Zb→Z6→jA→Prop}
  (hc:jH p H f s H λv σ'=>v=.slice (some ⟨H.next,0,none⟩) n c∧σ'=H.add (O cs e m)) (hfz:FzL p.P H.next H (args++cap) s) (A:scL σ.lo (args++cap)=true) (hd:scL σ.lo cs=true)
  (hK:K true (.slice (some ⟨σ.next,0,none⟩) n c) (σ.add (O cs e m))) :
  jE p H (.func (.func f) ⟨[]⟩ ⟨cap⟩) args σ K:=by
 intro g h fv vs E o hf hv
 obtain ⟨us,rfl,hcs⟩:=jI0 hf
 show zC0 p f (vs++us) h _
 have I:=o.lo
 rw[E.2] at I
 have no:∀ i,¬ kZ H i:=λi hi=>by have:=hi.1;have:=hi.2.1;omega
 have X:Rel g H h:=by
  have a:=jS0 o (m:=0)
  rw[E.2] at a
  exact ⟨a.pos,a.lo,a.lon,a.hlo,a.base,a.baseF,a.baseD,λi x hi hx=>by
   have Z:σ.get i=some x:=by rw[o.base i Z0,E.2];exact hx
   obtain ⟨ds,e,fr,rfl,M⟩:=o.baseF i x Z0 Z
   obtain ⟨vs,e',y,h0,D,h4⟩:=o.obj i _ (by have:=o.lon;omega) Z
   have:=RVL.flat _ _ M D
   subst this
   exact ⟨_,e',y,λh=>by omega,RVL.of_flat _ M,h4⟩,a.dlt,λi hi=>absurd hi (no i),λi j hi=>absurd hi (no i),λb k=>⟨(o.frz b k).1,λi hi=>absurd hi (no i)⟩,a.wf⟩
 have ha:=RVL.wid (g:=g) (g':=g) (n:=σ.lo) ⟨rfl,λ_ _=>rfl,λ_ k=>k⟩ _ _ A (hv.app hcs)
 rw[I.1] at ha
 have ha:=gW X E.1 Z0 (Z3 _) hfz ha
 have Y:=jS0 X (m:=H.next)
 rw[E.2] at Y
 refine ((hc (g.all H.next H) h _ ⟨E.1,E.2⟩ Y ha).mono ?_).w
 rintro u h' ⟨_,_,⟨rfl,rfl⟩,g',x,R,rv,_⟩
 simp only[RV,Option.map_some,ren] at rv
 obtain ⟨_,rfl⟩:=rv
 have t:Agr h h':=λb k=>x.fr b k λi hi=>absurd hi (no i)
 have C:(H.add (O cs e m)).get H.next=some (O cs e m):=kM _ _ rfl
 have r:kZ (H.add (O cs e m)) H.next:=⟨by rw[jM];omega,by rw[jB];omega,by rw[C];rfl⟩
 obtain ⟨B,hB⟩:∃ B,g'.δ H.next=B:=⟨_,rfl⟩
 have V:h.next≤B:=by
  rcases x.im _ r with a|a
  ·exact absurd a (no _)
  ·omega
 have T:B<h'.next:=by rw[← hB];exact R.dlt _ r.2.1
 have L:∀ b,g'.F b→g.F b∨h.next≤b:=λb k=>by
  rcases x.Fn b k with a|a|⟨i,hi,_⟩
  ·rcases a with a|⟨i,hi,_⟩
   ·exact .inl a
   ·exact absurd hi (no i)
  ·exact .inr a
  ·exact absurd hi (no i)
 have hFB:¬ g'.F B:=λk=>(R.frz B k).2 _ r hB
 let J:Gh:={ g with δ:=λj=>if j=σ.next then B else g.δ j,F:=g'.F }
 have l:∀ i,i<σ.next→J.δ i=g.δ i:=λi hi=>if_neg Z0
 have d:J.δ σ.next=B:=if_pos rfl
 have hlon:=o.lon
 have e0:Ext0 g h σ.next J h' (σ.next+1):=⟨rfl,Nat.le_succ _,l,λb k=>x.F b (.inl k),x.next,x.hlo,λb k hlt=>t b hlt⟩
 have q:∀ i,kZ (σ.add (O cs e m)) i→(kZ σ i∧i<σ.next)∨i=σ.next:=λi ⟨a,y,D⟩=>by
  rw[jB] at y
  rw[jM] at a
  by_cases e:i=σ.next
  ·exact .inr e
  ·rw[qF _ i e] at D
   exact .inl ⟨⟨a,Z0,D⟩,Z0⟩
 refine ⟨true,_,_,hK,J,⟨rfl,rfl,by rw[jB];omega,jM _,x.next,x.hlo,l,λb k=>x.F b (.inl k),λb k=>?_,λb k _=>t b k,λi hi=>?_⟩,?_,?_,λ_=>t⟩
 ·rcases L b k with a|a
  ·exact .inl a
  ·exact .inr (.inl a)
 ·rcases q i hi with a|rfl
  ·exact .inl a.1
  ·exact .inr (by rw[d];exact V)
 ·refine ⟨by rw[jM];exact o.pos,by rw[jM];exact o.lo,by rw[jM,jB];omega,by rw[x.hlo];exact Nat.le_trans o.hlo x.next,λi hi=>?_,λi z hi A=>?_,λi hi=>?_,λi z hi A=>?_,λi hi=>?_,λi hi=>?_,λi j hi hj e=>?_,λb k=>?_,R.wf⟩
  ·rw[jM] at hi;rw[qF _ i Z0];exact o.base i hi
  ·rw[jM] at hi;rw[qF _ i Z0] at A;exact o.baseF i z hi A
  ·rw[jM] at hi;rw[qF _ i Z0,l i Z0,x.hlo];exact o.baseD i hi
  ·rw[jB] at hi ⊢
   by_cases e:i=σ.next
   ·subst e
    rw[kM _ _ rfl] at A
    cases A
    rw[d]
    obtain ⟨ws,e',q1,q2,q3,q4⟩:=R.obj H.next _ r.2.1 C
    rw[hB] at q1
    refine ⟨ws,e',q1,λ_=>q2 (by rw[jM];omega),?_,q4⟩
    rw[I.1] at hd
    have h5:=RVL.wid (g:=g') (g':=J) (h:=h') (N:=H.next+1) (n:=H.next) ⟨x.P.symm,λi hi=>by rw[l i Z0];exact (x.δ i Z0).symm,λ_ k=>k⟩ cs ws hd (by rw[jB] at q3;exact q3)
    exact h5.ext ⟨rfl,Z0,λ_ _=>rfl,λ_ k=>k,Z3 _,rfl,λ_ _ _=>rfl⟩
   ·rw[qF _ i e] at A
    rw[l i Z0]
    exact ((o.obj i z Z0 A).ext e0 (t _ (o.dlt i Z0))).imp λh=>by rw[jM] at h;exact h
  ·rw[jB] at hi
   by_cases e:i=σ.next
   ·subst e;rw[d];exact T
   ·rw[l i Z0];exact Nat.lt_of_lt_of_le (o.dlt i Z0) x.next
  ·rw[x.hlo]
   rcases q i hi with a|rfl
   ·rw[l i a.2];exact o.dlo i a.1
   ·rw[d];exact Nat.le_trans o.hlo V
  ·rcases q i hi with a|rfl
   ·rcases q j hj with y|rfl
    ·rw[l i a.2,l j y.2] at e
     exact o.inj i j a.1 y.1 e
    ·rw[l i a.2,d] at e
     have:=o.dlt i a.2
     omega
   ·rcases q j hj with y|rfl
    ·rw[l j y.2,d] at e
     have:=o.dlt j y.2
     omega
    ·rfl
  ·refine ⟨(R.frz b k).1,λi hi=>?_⟩
   rcases q i hi with D|rfl
   ·rw[l i D.2]
    rcases L b k with a|a
    ·exact (o.frz b a).2 i D.1
    ·have:=o.dlt i D.2;omega
   ·rw[d];intro e;subst e;exact hFB k
 ·simp only[RV,Option.map_some,ren,d,hB]
  refine ⟨?_,trivial⟩
  rw[uT]
  simp[Ev.sc,scA,jB]
end
def flt (p:Nat→Zb):Tr→Tr
 | .nil=>.nil
 | .node l v r=>.node (flt (λk=>p (2*k+1)) l) (if p 0 then v else none) (flt (λk=>p (2*k+2)) r)
theorem tA0:∀ (t:Tr) (p:Nat→Zb) (i:Nat),(flt p t).get i=if p i then t.get i else none
 | .nil,p,i=>by
  rw[flt,Tr.get_nil];split<;>rfl
 | .node l v r,p,i=>by
  rw[flt,Tr.get_node,Tr.get_node,tA0 l,tA0 r]
  by_cases h0:i=0
  ·subst h0;rfl
  rw[if_neg h0,if_neg h0]
  by_cases h:(i-1) % 2=0
  ·rw[if_pos h,if_pos h,show 2*((i-1) / 2)+1=i by omega]
  ·rw[if_neg h,if_neg h,show 2*((i-1) / 2)+2=i by omega]
def bA (p:Nat→Zb)(σ:jA):jA:=⟨flt p σ.t,σ.next,σ.lo⟩
theorem dO (p:Nat→Zb)(σ:jA)(i:Nat):(bA p σ).get i=if p i then σ.get i else none:=tA0 ..
theorem cE0 (p:Nat→Zb)(σ:jA):(bA p σ).next=σ.next:=rfl
theorem pT1 (p:Nat→Zb)(σ:jA):(bA p σ).lo=σ.lo:=rfl
theorem cF {p:Nat→Zb}(σ:jA){i:Nat}(h:p i=true):cells (bA p σ) i=cells σ i:=qV (by rw[dO,if_pos h])
attribute [push_cast] cE0 pT1
section
variable {p:Par} {H:jA}
theorem dN {q:Nat→Zb}{σ:jA}{i:Nat}(h:kZ (bA q σ) i):kZ σ i∧q i=true:=by
 obtain ⟨c,d,a⟩:=h
 rw[dO] at a
 split at a
 ·rename_i b;exact ⟨⟨c,d,a⟩,b⟩
 ·cases a
theorem Rel.flt {g:Gh}{σ h:jA}(a:Rel g σ h)(q:Nat→Zb)(l:∀ i,i<σ.lo→q i=true){F':Nat→Prop}(k:∀ b,F' b→b<h.next∧∀ i,kZ σ i→q i=true→g.δ i≠b)(d:∀ b,g.F b→F' b):Rel { g with F:=F' } (bA q σ) h:=by
 have e0:Ext0 g h σ.next { g with F:=F' } h σ.next:=⟨rfl,Z3 _,λ_ _=>rfl,d,Z3 _,rfl,λ_ _ _=>rfl⟩
 have low:∀ i,i<σ.lo→(bA q σ).get i=σ.get i:=λi hi=>by rw[dO,if_pos (l i hi)]
 refine ⟨a.pos,a.lo,a.lon,a.hlo,λi hi=>(low i hi).trans (a.base i hi),λi x hi c=>a.baseF i x hi (by rw[← low i hi];exact c),λi hi=>by rw[low i hi];exact a.baseD i hi,λi x hi c=>?_,a.dlt,λi hi=>a.dlo i (dN hi).1,λi j hi m e=>a.inj i j (dN hi).1 (dN m).1 e,λb f=>⟨(k b f).1,λi hi=>(k b f).2 i (dN hi).1 (dN hi).2⟩,a.wf⟩
 rw[dO] at c
 split at c
 ·exact (a.obj i x hi c).ext e0 rfl
 ·cases c
end
def bW (p:Par)(H:jA)(f:FuncId)(args:List Z6)(D:Z6→Prop):Prop:=
 ∀ (g:Gh) (h:jA) (vs:List Z6),g.ok p H→Rel g H h→RVL g h H.next args vs→cP p f vs h λu a=>∃ d g',D d∧Ext g H h g' H a∧Rel g' H a∧RV g' a H.next d u
section
variable {p:Par} {H:jA}
theorem jH.cutE {f:FuncId}{args:List Z6}{σ:jA}{R:Z6→jA→Prop}(s:jH p H f args σ λv σ'=>∃ d a,R d a∧FzV p.P a.next σ' v d∧cJ p.P σ a σ'):jH p H f args σ R:=by
 intro g h vs l k n
 refine (s g h vs l k n).mono ?_
 rintro u t ⟨v,σ',⟨d,a,r,q,i⟩,g',x,b,j,_⟩
 have c:=x.ok l
 obtain ⟨m,o⟩:=gP0 k x b c.1 i
 have:=k.lon
 have:=i.next
 exact ⟨d,a,r,_,m,o,eQ0 b c.1 (by rw[x.lo];omega) i.nx q j,λe=>by cases e⟩
theorem bW.cut {f:FuncId}{args:List Z6}{D:Z6→Prop}(t:jH p H f args H λv σ'=>∃ d,D d∧FzV p.P H.next σ' v d):bW p H f args D:=by
 intro g h vs e b q
 refine (t g h vs e b q).mono ?_
 rintro u w ⟨v,σ',⟨d,n,s⟩,g',x,c,j,_⟩
 have a:=x.ok e
 have k:=b.lo
 rw[e.2] at k
 have m:cJ p.P H H σ':=⟨Z3 _,x.nn,rfl,λi hi=>.inl ⟨hi,by
  have l:=c.base i (by rw[x.lo];omega)
  rw[a.2] at l
  exact l,rfl⟩⟩
 obtain ⟨o,r⟩:=gP0 b x c a.1 m
 exact ⟨d,_,n,o,r,eQ0 c a.1 (by rw[x.lo];exact b.lon) x.nn s j⟩
theorem jE.lendE {f:FuncId}{cap args c:List Z6}{σ:jA}{D:Z6→Prop}{K:Zb→Z6→jA→Prop}(I:bW p H f c D)(A:FzL p.P σ.lo σ (args++cap) c)(q:∀ d,D d→flat d=true∧K true d σ) :
  jE p H (.func (.func f) ⟨[]⟩ ⟨cap⟩) args σ K:=by
 intro g h L vs n l E z
 obtain ⟨cs,rfl,o⟩:=jI0 E
 show zC0 p f (vs++cs) h _
 have k:=jS0 l (m:=σ.lo)
 have j:=l.lo
 rw[n.2] at k j
 have r:=gW l n.1 (Z3 _) l.lon A (z.app o)
 rw[j.1] at r
 rw[j.1] at k
 refine ((I (g.all H.next σ) h _ ⟨n.1,n.2⟩ k r).mono ?_).w
 rintro u C ⟨d,g',t,x,J,y⟩
 obtain ⟨s,q⟩:=q d t
 have no:∀ i,¬ kZ H i:=λi hi=>by have:=hi.1;have:=hi.2.1;omega
 have B:=RV.flat d u s y
 subst B
 have e:Agr h C:=λb a=>x.fr b a λi hi=>absurd hi (no i)
 obtain ⟨v,e0⟩:=l.same e x.next x.hlo J.wf (F':=g.F) (λb a=>⟨Nat.lt_of_lt_of_le (l.frz b a).1 x.next,(l.frz b a).2⟩) (λb a=>a)
 exact ⟨true,u,σ,q,{ g with F:=g.F },⟨rfl,rfl,Z3 _,rfl,x.next,x.hlo,λ_ _=>rfl,λ_ a=>a,λ_ a=>.inl a,λb a _=>e b a,λi hi=>.inl hi⟩,v,RV.of_flat u s,λ_=>e⟩
theorem jE.dataE {f:FuncId}{cap args k:List Z6}{σ:jA}{D:Z6→Prop}{K:Zb→Z6→jA→Prop}(hc:bW p H f k D)(E:FzL p.P H.next H (args++cap) k)(hz:scL σ.lo (args++cap)=true)(C:∀ d,D d→sc σ.lo d=true∧K true d σ) :
  jE p H (.func (.func f) ⟨[]⟩ ⟨cap⟩) args σ K:=by
 intro g h fv vs o l hf Y
 obtain ⟨cs,rfl,B⟩:=jI0 hf
 show zC0 p f (vs++cs) h _
 have t:=l.lo
 rw[o.2] at t
 have no:∀ i,¬ kZ H i:=λi hi=>by have:=hi.1;have:=hi.2.1;omega
 have v:Rel g H h:=by
  have a:=jS0 l (m:=0)
  rw[o.2] at a
  exact ⟨a.pos,a.lo,a.lon,a.hlo,a.base,a.baseF,a.baseD,λi x hi hx=>by
   have z:σ.get i=some x:=by rw[l.base i Z0,o.2];exact hx
   obtain ⟨ds,e,fr,rfl,s⟩:=l.baseF i x Z0 z
   obtain ⟨vs,Z,h2,h0,M,T⟩:=l.obj i _ (by have:=l.lon;omega) z
   have:=RVL.flat _ _ s M
   subst this
   exact ⟨_,Z,h2,λh=>by omega,RVL.of_flat _ s,T⟩,a.dlt,λi hi=>absurd hi (no i),λi j hi=>absurd hi (no i),λb c=>⟨(l.frz b c).1,λi hi=>absurd hi (no i)⟩,a.wf⟩
 have A:=RVL.wid (g:=g) (g':=g) (n:=σ.lo) ⟨rfl,λ_ _=>rfl,λ_ c=>c⟩ _ _ hz (Y.app B)
 rw[t.1] at A
 have A:=gW v o.1 Z0 (Z3 _) E A
 have y:=jS0 v (m:=H.next)
 rw[o.2] at y
 refine ((hc (g.all H.next H) h _ ⟨o.1,o.2⟩ y A).mono ?_).w
 rintro u I ⟨d,g',R,x,J,X⟩
 obtain ⟨hd,C⟩:=C d R
 have q:Agr h I:=λb c=>x.fr b c λi hi=>absurd hi (no i)
 have r:∀ b,g'.F b→g.F b∨h.next≤b:=λb c=>by
  rcases x.Fn b c with a|a|⟨i,hi,_⟩
  ·rcases a with a|⟨i,hi,_⟩
   ·exact .inl a
   ·exact absurd hi (no i)
  ·exact .inr a
  ·exact absurd hi (no i)
 obtain ⟨V,e0⟩:=l.same q x.next x.hlo J.wf (F':=g'.F) (λb c=>⟨(J.frz b c).1,λi hi=>by
  rcases r b c with a|a
  ·exact (l.frz b a).2 i hi
  ·have:=l.dlt i hi.2.1;omega⟩) (λb c=>x.F b (.inl c))
 refine ⟨true,d,σ,C,{ g with F:=g'.F },⟨rfl,rfl,Z3 _,rfl,x.next,x.hlo,λ_ _=>rfl,λb c=>x.F b (.inl c),λb c=>by
  rcases r b c with a|a
  ·exact .inl a
  ·exact .inr (.inl a),λb c _=>q b c,λi hi=>.inl hi⟩,V,?_,λ_=>q⟩
 have L:=RV.wid (g:=g') (g':={ g with F:=g'.F }) (h:=I) (N:=H.next) (n:=σ.lo) ⟨x.P.symm,λi hi=>(x.δ i Z0).symm,λ_ c=>c⟩ d u hd X
 exact L.ext ⟨rfl,l.lon,λ_ _=>rfl,λ_ c=>c,Z3 _,rfl,λ_ _ _=>rfl⟩
end
section
variable {p:Par} {H:jA}
theorem jE.dataI {f:FuncId}{args:List Z6}{σ:jA}{d:Z6}{K:Zb→Z6→jA→Prop}(a:jF p H f args d)(h:scL H.next args=true∧scL σ.lo args=true∧sc σ.lo d=true)(c:K true d σ) :
  jE p H (.func (.func f) ⟨[]⟩ ⟨[]⟩) args σ K:=
 jE.data (cap:=[]) a (by rw[List.append_nil];exact FzL.ids h.1) (by rw[List.append_nil];exact h.2.1) h.2.2 c
theorem jE.dataEI {f:FuncId}{args:List Z6}{σ:jA}{D:Z6→Prop}{K:Zb→Z6→jA→Prop}(c:bW p H f args D)(h:scL H.next args=true∧scL σ.lo args=true)(a:∀ d,D d→sc σ.lo d=true∧K true d σ) :
  jE p H (.func (.func f) ⟨[]⟩ ⟨[]⟩) args σ K:=
 jE.dataE (cap:=[]) c (by rw[List.append_nil];exact FzL.ids h.1) (by rw[List.append_nil];exact h.2) a
end
theorem FzL.take {P:Z9}{n:Nat}{σ:jA}:∀ {vs ds:List Z6} (k:Nat),FzL P n σ vs ds→FzL P n σ (vs.take k) (ds.take k)
 | _,_,0,_=>by simp only[List.take_zero];exact .nil
 | _,_,k+1,.nil=>.nil
 | _,_,k+1,.cons h1 h2=>.cons h1 (FzL.take k h2)
theorem FzL.drop {P:Z9}{n:Nat}{σ:jA}:∀ {vs ds:List Z6} (k:Nat),FzL P n σ vs ds→FzL P n σ (vs.drop k) (ds.drop k)
 | _,_,0,h=>h
 | _,_,k+1,.nil=>.nil
 | _,_,k+1,.cons h1 h2=>FzL.drop k h2
section
variable {p:Par} {H:jA}
theorem jE.giveE {f:FuncId}{cap args c:List Z6}{σ:jA}{D:Z6→Prop}{K:Zb→Z6→jA→Prop}(q:Nat→Zb)(hq:∀ i,i<σ.lo→q i=true)(hc:bW p H f c D)
  (hz:FzL p.P σ.lo (bA (λi=>!q i || Nat.blt i σ.lo) σ) (args++cap) c) (R:∀ d,D d→sc σ.lo d=true∧K true d (bA q σ)) :
  jE p H (.func (.func f) ⟨[]⟩ ⟨cap⟩) args σ K:=by
 intro g h fv vs v l hf hv
 obtain ⟨cs,rfl,C⟩:=jI0 hf
 show zC0 p f (vs++cs) h _
 have A:=l.lo
 rw[v.2] at A
 have o:=l.lon
 have no:∀ i,¬ kZ H i:=λi hi=>by have:=hi.1;have:=hi.2.1;omega
 have T:∀ i,i<σ.lo→(!q i || Nat.blt i σ.lo)=true:=λi hi=>by
  have:Nat.blt i σ.lo=true:=by simpa using hi
  rw[this,Bool.or_true]
 have r0:=l.flt _ T (F':=g.F) (λb a=>⟨(l.frz b a).1,λi hi _=>(l.frz b a).2 i hi⟩) (λb a=>a)
 have B:=jS0 r0 (m:=σ.lo)
 have y:g.H0=H:=v.2
 change Rel _ g.H0 h at B
 rw[y] at B
 have X:=gW r0 v.1 (Z3 _) o hz (hv.app C)
 change RVL _ h σ.lo c _ at X
 have J:=A.1
 have M:RVL (Gh.all { g with F:=g.F } σ.lo (bA (λi=>!q i || Nat.blt i σ.lo) σ)) h H.next c (vs++cs):=by rw[← J];exact X
 refine ((hc (Gh.all { g with F:=g.F } σ.lo (bA (λi=>!q i || Nat.blt i σ.lo) σ)) h _ ⟨v.1,v.2⟩ (by rw[← y] at B ⊢;exact B) M).mono ?_).w
 rintro u Y ⟨d,g',hD,x,r',rv⟩
 obtain ⟨hd,R⟩:=R d hD
 have r:Agr h Y:=λb a=>x.fr b a λi hi=>absurd hi (no i)
 have z:∀ b,g'.F b→g.F b∨h.next≤b∨∃ i,kZ σ i∧q i=false∧g.δ i=b:=λb a=>by
  rcases x.Fn b a with k|k|⟨i,hi,_⟩
  ·rcases k with k|⟨i,hi,_,e⟩
   ·exact .inl k
   ·obtain ⟨Z,V⟩:=dN hi
    refine .inr (.inr ⟨i,Z,?_,e⟩)
    have:¬ Nat.blt i σ.lo=true:=by have:=Z.1;simp;omega
    cases I:q i with
    | false=>rfl
    | true=>rw[I] at V;simp at V;simp at this;omega
  ·exact .inr (.inl k)
  ·exact absurd hi (no i)
 have r2:=l.flt q hq (F':=g.F) (λb a=>⟨(l.frz b a).1,λi hi _=>(l.frz b a).2 i hi⟩) (λb a=>a)
 obtain ⟨r3,e0⟩:=r2.same r x.next x.hlo r'.wf (F':=g'.F) (λb a=>⟨(r'.frz b a).1,λi hi=>by
  obtain ⟨t,L⟩:=dN hi
  show g.δ i≠b
  rcases z b a with k|k|⟨j,E,s,e⟩
  ·exact (l.frz b k).2 i t
  ·have:=l.dlt i t.2.1;omega
  ·intro e2
   have:=l.inj i j t E (by rw[e2,e])
   subst this
   rw[L] at s
   cases s⟩) (λb a=>x.F b (.inl a))
 refine ⟨true,d,_,R,{ g with F:=g'.F },⟨rfl,rfl,Z3 _,rfl,x.next,x.hlo,λ_ _=>rfl,λb a=>x.F b (.inl a),λb a=>?_,λb a _=>r b a,λi hi=>.inl (dN hi).1⟩,r3,?_,λ_=>r⟩
 ·rcases z b a with k|k|⟨j,E,s,e⟩
  ·exact .inl k
  ·exact .inr (.inl k)
  ·exact .inr (.inr ⟨j,E,e⟩)
 have h5:=RV.wid (g:=g') (g':={ g with F:=g'.F }) (h:=Y) (N:=H.next) (n:=σ.lo) ⟨x.P.symm,λi hi=>(x.δ i Z0).symm,λ_ a=>a⟩ d u hd rv
 exact h5.ext ⟨rfl,o,λ_ _=>rfl,λ_ a=>a,Z3 _,rfl,λ_ _ _=>rfl⟩
end
def Op2 (P:Z9)(n:Nat)(L:List (Nat×List Z6))(w:Zw)(ds cs:List Z6):Prop:=
 ∃ h,∀ G,h≤G→w.heap.size≤G→RVL (gG P n L G) (qU0 G w) n ds cs∧plL cs=true∧scL G cs=true
section
variable {P:Z9} {n:Nat} {L:List (Nat×List Z6)} {w:Zw}
theorem Op2.of {a b:List Z6}(h:Op P n L w a b):Op2 P n L w a b:=by
 obtain ⟨g,h⟩:=h
 exact ⟨g,λG f c=>by obtain ⟨d,i,e,_⟩:=h G f c;exact ⟨d,i,e⟩⟩
theorem Op2.append {a b c d:List Z6}(h:Op2 P n L w a c)(e:Op2 P n L w b d):Op2 P n L w (a++b) (c++d):=by
 obtain ⟨j,h⟩:=h
 obtain ⟨i,e⟩:=e
 refine ⟨max j i,λG q f=>?_⟩
 obtain ⟨k,p,o⟩:=h G Z0 f
 obtain ⟨l,g,m⟩:=e G Z0 f
 exact ⟨k.app l,yA0 p g,wF0 o m⟩
theorem Op2.agg {a b:List Z6}(h:Op P n L w a b):Op2 P n L w [.agg ⟨a⟩] [.agg ⟨b⟩]:=by
 obtain ⟨g,h⟩:=h
 refine ⟨g,λG f c=>?_⟩
 obtain ⟨d,i,e,_⟩:=h G f c
 refine ⟨?_,?_,?_⟩
 ·simp only[RVL,RV]
  exact ⟨_,[],rfl,⟨b,rfl,d⟩,rfl⟩
 ·simp[plL,pl,i]
 ·simp[scL,Ev.sc,e]
end
section
variable {g g':Gh} {σ σ' h h':jA} {p:Par} {q:Q}
theorem cF0 {l:Nat}{r:Loop}:qS h l=some r↔(∃ m,h.get l=some ⟨.loop r,m⟩)∧h.lo≤l:=by
 constructor
 ·intro e
  unfold qS at e
  split at e
  ·rename_i b m c
   split at e
   ·rename_i a
    cases e
    exact ⟨⟨m,c⟩,by simpa using a⟩
   ·cases e
  ·cases e
 ·rintro ⟨⟨m,c⟩,a⟩
  exact qR c a
theorem qM0 (e:Rel g σ h){l:Nat}{r:Loop}(n:qS σ l=some r)(d:l<σ.next) :
  kZ σ l∧∃ us,qS h (g.δ l)=some { r with tmps:=⟨us⟩,defers:=g.δ r.defers }∧RVL g h σ.next r.tmps.toList us∧∀ c b,Ext g σ h g (jN σ l { r with state:=c,pending:=b }) (jN h (g.δ l) { r with tmps:=⟨us⟩,defers:=g.δ r.defers,state:=c,pending:=b })∧
   Rel g (jN σ l { r with state:=c,pending:=b }) (jN h (g.δ l) { r with tmps:=⟨us⟩,defers:=g.δ r.defers,state:=c,pending:=b }):=by
 obtain ⟨⟨m,i⟩,f⟩:=cF0.1 n
 have a:kZ σ l:=e.own d f i
 obtain ⟨us,k,s,j⟩:=e.obj l _ d i
 refine ⟨a,us,cF0.2 ⟨⟨m,k⟩,e.dlo l a⟩,j,λc b=>?_⟩
 exact wV0 e a (x:=⟨.loop { r with state:=c,pending:=b },false⟩) (y:=⟨.loop { r with tmps:=⟨us⟩,defers:=g.δ r.defers,state:=c,pending:=b },false⟩) λh' o x=>⟨us,o,s,j.ext x⟩
def cZ (l:Nat)(K:Zb→Z6→jA→Prop)(e:jK)(a:S):Prop:=
 match qS a.h l with
 | some c=>K false (.bool e.jump.isNone) (jN a.h l { c with state:=if e.jump.isNone then .ready else .done,pending:=e.jump })
 | none=>False
def yO0 (p:Par)(q:Q)(l:Nat)(c:IR)(K:Zb→Z6→jA→Prop)(e:jK)(a:S):Prop:=
 match e with
 | .normal=>match qS a.h l with
  | some b=>b.state=.ready∧dc3 p q (some l) c ⟨a.tm,a.df,jN a.h l { b with state:=.busy }⟩ (@kR ⟨cZ l K⟩)
  | none=>False
 | _=>False
theorem kT0:∀ {l:List (Nat×Z6)} {c:List (Nat×Z6)} {N:Nat} {D T:VT},Tms g h N D T→l.map Prod.fst=c.map Prod.fst→RVL g h N (l.map Prod.snd) (c.map Prod.snd)→Tms g h N (gI D l) (gI T c)
 | [],[],N,D,T,ht,_,_=>ht
 | (a,x) :: l,(b,y) :: c,N,D,T,ht,he,hv=>by
  simp only[List.map_cons,List.cons.injEq] at he
  simp only[List.map_cons,RVL] at hv
  obtain ⟨v,vs,e,f,m⟩:=hv
  simp only[List.cons.injEq] at e
  obtain ⟨k,i⟩:=e
  subst i
  have d:y=v:=k
  subst d
  have j:a=b:=he.1
  subst j
  exact kT0 (D:=D.set a x) (T:=T.set a y) (ht.set a f) he.2 m
 | [],_ :: _,_,_,_,_,he,_=>by cases he
 | _ :: _,[],_,_,_,_,he,_=>by cases he
theorem lL2 {N:Nat}{T:VT}(l:T.sz<U){us:List Z6}(f:RVL g h N T.arr.toList us):∃ e:VT,e.arr=⟨us⟩∧Tms g h N T e:=by
 have j:=f.len
 have m:T.arr.toList.length=T.sz:=by rw[Array.length_toList,VT.arr_size]
 have c:(VT.of us us.length).sz=us.length:=by
  show us.length+(us.length-us.length)=_
  omega
 have a:(VT.of us us.length).arr=⟨us⟩:=by
  rw[VT.of_arr _ _ (by rw[c];omega)]
  apply Array.ext';simp
 refine ⟨VT.of us us.length,a,by rw[c];omega,l,λi=>?_⟩
 rw[← VT.arr_getD,← VT.arr_getD,a]
 simp only[Array.getD_eq_getD_getElem?,List.getElem?_toArray]
 cases hi:T.arr.toList[i]? with
 | none=>
  have b:us[i]?=none:=by
   rw[List.getElem?_eq_none_iff] at hi ⊢
   omega
  rw[Array.getElem?_toList] at hi
  rw[b,hi]
  exact RV.undef
 | some d=>
  obtain ⟨v,k,b⟩:=f.get hi
  rw[Array.getElem?_toList] at hi
  rw[k,hi]
  exact b
theorem jE.mono {H:jA}{f:Z6}{args:List Z6}{K a:Zb→Z6→jA→Prop}(o:jE p H f args σ K)(k:∀ b d σ',K b d σ'→a b d σ'):jE p H f args σ a:=
 λg h j vs e n m i=>(o g h j vs e n m i).mono λu h' ⟨b,d,σ',c,l⟩=>⟨b,d,σ',k b d σ' c,l⟩
theorem jE.yield (jV:wB0 p){l:Nat}{r:Loop}{args:List Z6}{K:Zb→Z6→jA→Prop}{T:VT}{o k:IR}(hl:qS σ l=some r)(u:l<σ.next)(hT:r.tmps=T.arr)(hU:T.sz<U)(L:args.length=r.params.toList.length)
  (ha:comp p.P r.assign=o) (hb:comp p.P r.body=k) (J:dB p.NG o=true) (V:dB p.NG k=true) (N:p.NG≤σ.lo) (hv:dc3 p q (some l) o ⟨gI T (r.params.toList.zip args),[],σ⟩ (@kR ⟨yO0 p q l k K⟩)) :
  jE p q.H (.func (.yield l) ⟨[]⟩ ⟨[]⟩) args σ K:=by
 intro g h fv vs hP hr hf M
 simp only[RV,RVL,RowP] at hf
 obtain ⟨vs0,rfl,-,-,rfl⟩:=hf
 obtain ⟨hown,us,hgl,R,_⟩:=qM0 hr hl u
 rw[hT] at R
 obtain ⟨T',hT',ht⟩:=lL2 hU R
 have B:vs.length=r.params.toList.length:=by rw[M.len];exact L
 show qF0 p (g.δ l) vs h _
 refine qF0.of hgl (T:=T') hT'.symm (by rw[ht.sz];exact hU) B (qO0 jV _ _ _ ?_)
 show vc p (some (g.δ l)) (comp p.P r.assign) _ _
 rw[ha]
 rw[qA0] at hv
 have hz:Tms g h σ.next (gI T (r.params.toList.zip args)) (gI T' (r.params.toList.zip vs)):=by
  refine kT0 ht ?_ ?_
  ·rw[List.map_fst_zip Z0,List.map_fst_zip Z0]
  ·rw[List.map_snd_zip Z0,List.map_snd_zip Z0];exact M
 have h1:=jZ0 o J hP N (D:=⟨gI T (r.params.toList.zip args),[],σ⟩) (s:=⟨gI T' (r.params.toList.zip vs),[],h⟩) ⟨hr,hz,rfl,λd m=>by cases m⟩ (ro:=some l) (λl' e=>by cases e;exact u) hv
 refine gR _ _ _ _ (λe E hA=>?_) h1
 obtain ⟨Y,f,m,F,Z⟩:=hA
 have b:Y.δ l=g.δ l:=F.δ l u
 have c:l<f.h.next:=Nat.lt_of_lt_of_le u F.nn
 change yO0 p q l k K e f at m
 unfold yO0 at m
 unfold lP0
 cases e with
 | exit i=>exact m.elim
 | goto t=>exact m.elim
 | ret=>exact m.elim
 | normal=>
  dsimp only at m ⊢
  split at m
  ·rename_i a hg1
   obtain ⟨hst,j⟩:=m
   obtain ⟨hown1,X,y,hus1,C⟩:=qM0 Z.r hg1 c
   rw[b] at y
   rw[y]
   refine ⟨hst,qO0 jV _ _ _ ?_⟩
   show vc p (some (g.δ l)) (comp p.P r.body) _ _
   rw[hb]
   obtain ⟨x2,w⟩:=C .busy a.pending
   rw[b] at x2 w
   rw[qA0] at j
   have hs2:SRel Y ⟨f.tm,f.df,jN f.h l { a with state:=.busy }⟩ ⟨E.tm,E.df,jN E.h (g.δ l) { a with tmps:=⟨X⟩,defers:=Y.δ a.defers,state:=.busy }⟩:=
    Z.ext (D':=⟨f.tm,f.df,jN f.h l { a with state:=.busy }⟩) (s':=⟨E.tm,E.df,jN E.h (g.δ l) { a with tmps:=⟨X⟩,defers:=Y.δ a.defers,state:=.busy }⟩) x2 w (Z.t.ext (x2.e0 Z.r)) rfl rfl
   have h2:=jZ0 k V (F.ok hP) (D:=⟨f.tm,f.df,jN f.h l { a with state:=.busy }⟩) (by show p.NG≤f.h.lo;rw[F.lo];exact N) hs2 (ro:=some l) (λl' e=>by cases e;exact c) j
   rw[Option.map_some,b] at h2
   refine gR _ _ _ _ (λe s2 hB=>?_) h2
   obtain ⟨g2,D2,n,x3,r2⟩:=hB
   have x:g2.δ l=g.δ l:=(x3.δ l c).trans b
   have I:l<D2.h.next:=Nat.lt_of_lt_of_le c x3.nn
   change cZ l K e D2 at n
   unfold cZ at n
   unfold qM1
   split at n
   ·rename_i r2' hg2
    obtain ⟨_,us2,z,_,A⟩:=qM0 r2.r hg2 I
    rw[x] at z
    rw[z]
    dsimp only
    obtain ⟨x4,v⟩:=A (if e.jump.isNone then .ready else .done) e.jump
    rw[x] at x4 v
    exact ⟨false,_,_,n,g2,((F.trans x2).trans x3).trans x4,v,(by simp only[RV]),λe=>by cases e⟩
   ·exact n.elim
  ·exact m.elim
theorem WD.range (jV:wB0 p){A:Zo}{E:Array Tmp}{a b:Code}{D:S}{R:jK→S→Prop}{f:FuncId}{captured:List Z6}(hok:gA p.NG A=true)(hg:ev D.tm A=.func (.func f) ⟨[]⟩ ⟨captured⟩)
  (hc:jH p q.H f (.func (.yield (D.h.next+1)) ⟨[]⟩ ⟨[]⟩ :: captured) ((D.h.add ⟨.deferred (some []),false⟩).add ⟨.loop { state:=.ready,pending:=none,fn:=0,tmps:=D.tm.arr,params:=E,assign:=a,body:=b,defers:=D.h.next },false⟩) (qR0 (D.h.next+1) D [D.h.next] R)) :
  WD p q.H none (.range A E a b) D R:=by
 intro g s hP hNG w hro
 have T:=w.r
 obtain ⟨x1,r1,_⟩:=dA0 T (x:=⟨.deferred (some []),false⟩) (y:=⟨.deferred (some []),false⟩) λh' g' N' _ e=>e
 have z:(g.new D.h.next s.h.next).δ D.h.next=s.h.next:=if_pos rfl
 have ht1:=w.t.ext (x1.e0 T)
 have hus:RVL (g.new D.h.next s.h.next) (s.h.add ⟨.deferred (some []),false⟩) (D.h.add ⟨.deferred (some []),false⟩).next D.tm.arr.toList s.tm.arr.toList:=by
  refine RVL.of (by rw[Array.length_toList,Array.length_toList,VT.arr_size,VT.arr_size,w.t.sz]) λi d v h1 h2=>?_
  have:=ht1.get i
  rw[← VT.arr_getD,← VT.arr_getD] at this
  rw[Array.getElem?_toList] at h1 h2
  simp only[Array.getD_eq_getD_getElem?,h1,h2,Option.getD_some] at this
  exact this
 obtain ⟨Z,r2,_⟩:=dA0 r1 (x:=⟨.loop { state:=.ready,pending:=none,fn:=0,tmps:=D.tm.arr,params:=E,assign:=a,body:=b,defers:=D.h.next },false⟩) (y:=⟨.loop { state:=.ready,pending:=none,fn:=0,tmps:=s.tm.arr,params:=E,assign:=a,body:=b,defers:=s.h.next },false⟩) λh' g' N' x e=>by
  refine ⟨s.tm.arr.toList,?_,?_,hus.ext x⟩
  ·rw[e,x.δ _ (by rw[jB];exact Nat.lt_succ_self _),z]
  ·have:=x.nn
   rw[jB] at this
   show D.h.next<N'
   omega
 have hn1:(D.h.add ⟨.deferred (some []),false⟩).next=D.h.next+1:=jB _
 have hn2:(s.h.add ⟨.deferred (some []),false⟩).next=s.h.next+1:=jB _
 rw[hn1,hn2] at Z r2
 have k:=x1.trans Z
 generalize hg2:(g.new D.h.next s.h.next).new (D.h.next+1) (s.h.next+1)=g2 at Z r2 k
 have o:g2.δ (D.h.next+1)=s.h.next+1:=by rw[← hg2];exact if_pos rfl
 have I:g2.δ D.h.next=s.h.next:=by rw[Z.δ _ (by rw[jB];omega)];exact z
 have B:=qT0 T w.t hNG hok
 rw[hg] at B
 simp only[RV,RVL] at B
 obtain ⟨us,cv,e1,e2,F⟩:=B
 have e2':us=[]:=e2
 subst e2'
 have X:yJ0 none s.tm E a b s.h=some (s.h.next+1,[s.h.next],(s.h.add ⟨.deferred (some []),false⟩).add ⟨.loop { state:=.ready,pending:=none,fn:=0,tmps:=s.tm.arr,params:=E,assign:=a,body:=b,defers:=s.h.next },false⟩):=by
  simp only[yJ0,jA.add]
  try (rw[jA.new_eq,jA.new_eq])
 have hro':∀ ro:Z8 Nat,ro=none→ro.map g.δ=none:=λro e=>by rw[e];rfl
 show W p none _ s _
 refine W.range X e1 ?_
 refine (hc g2 _ _ (k.ok hP) r2 (RVL.cons ?_ (F.ext (k.e0 T)))).mono ?_
 ·simp only[RV]
  exact ⟨[],by simp only[RVL],rfl,by rw[jB,jB];omega,by rw[o]⟩
 ·rintro u h3 ⟨d,σ',P,J,Y,r3,_,_⟩
  have hx:=k.trans Y
  have V:D.h.next+1<σ'.next:=by have:=Y.nn;rw[jB,jB] at this;omega
  have N:J.δ (D.h.next+1)=s.h.next+1:=by rw[Y.δ _ (by rw[jB,jB];omega)];exact o
  have L:J.δ D.h.next=s.h.next:=by rw[Y.δ _ (by rw[jB,jB];omega)];exact I
  unfold qR0 at P ⊢
  split at P
  ·rename_i e s' l
   unfold uS0 at l
   split at l
   ·rename_i r m
    have m:qS σ' (D.h.next+1)=some r:=m
    obtain ⟨_,us3,j,_,n⟩:=qM0 r3 m V
    obtain ⟨M,r4⟩:=n .exhausted r.pending
    rw[N] at j M r4
    have C:∀ e',R e' ⟨D.tm,D.h.next :: D.df,jN σ' (D.h.next+1) { r with state:=.exhausted }⟩→RA g D.h s.h R e' ⟨s.tm,s.h.next :: s.df,jN h3 (s.h.next+1) { r with tmps:=⟨us3⟩,defers:=J.δ r.defers,state:=.exhausted }⟩:=λe' hR=>by
     refine ⟨J,_,hR,hx.trans M,r4,w.t.ext ((hx.trans M).e0 T),?_,λd K=>?_⟩
     ·show s.h.next :: s.df=(D.h.next :: D.df).map J.δ
      rw[List.map_cons,L,w.df]
      congr 1
      exact List.map_congr_left λd K=>((hx.trans M).δ d (w.dl d K)).symm
     ·show d<σ'.next
      rcases List.mem_cons.1 K with rfl|K
      ·omega
      ·have:=w.dl d K;omega
    unfold uS0
    show (match (match qS h3 (s.h.next+1) with|some r=>_|none=>_:Z8 (jK×S)) with|some (e,s')=>_|none=>_)
    rw[j]
    clear j M r4 n m
    rcases r with ⟨st,pd,fn,tm',ps',as',bd',df'⟩
    dsimp only at l C ⊢
    cases st
    all_goals
     dsimp only at l ⊢
     first
     | (cases l;done)
     | (cases pd with
        | none=>cases l;exact C _ P
        | some c=>cases c<;>first | (cases l;done) | (cases l;exact C _ P))
   ·cases l
  ·exact P.elim
end
section
variable {p:Par} {H:jA}
theorem cP.ghost {f:FuncId}{args:List Z6}{h:jA}{R l:Z6→jA→Prop}(k:cP p f args h R)
  (u:∀ v b,R v b→∃ d,(∀ (a:Gam) (w:Zw),qI p a b w→qI p a d w)∧d.next=b.next∧l v d):cP p f args h l:=
 λa w j i=>⟨(k a w j i).1,λF x n S y=>(k a w j i).2 F x n S λv b c w' t q z o g e=>by
  obtain ⟨d,r,s,m⟩:=u v b t
  exact y v d c w' m q Z0 o (r c w' g) (by rw[s];exact e)⟩
theorem jH.back {f:FuncId}{args:List Z6}{σ:jA}{R i:Z6→jA→Prop}(I:jH p H f args σ R)
  (B:∀ d σ',R d σ'→i d σ'∨∃ b c e cs ds fr0,σ'.lo≤b∧b<σ'.next∧c<σ'.next∧σ'.lo≤c∧σ'.get b=some (qO c e cs)∧σ'.get c=some ⟨.cells ⟨cs++ds⟩ e fr0,true⟩∧cs.all one=true∧qB (cs++ds)=true∧qB cs=true∧i d ((σ'.put c dead).put b (O cs e true))) :
  jH p H f args σ i:=by
 intro g h vs m F o
 refine cP.ghost (I g h vs m F o) ?_
 rintro u A ⟨d,σ',l,g',x,r,v,E⟩
 rcases B d σ' l with j|⟨b,c,e,cs,ds,fr0,q1,q2,q3,C,q,s,y,t,w,a⟩
 ·exact ⟨A,λ_ _ h=>h,rfl,d,σ',j,g',x,r,v,E⟩
 ·obtain ⟨j,z,n,k,D⟩:=dH2 r q1 q q2 q3 C s y t w
  exact ⟨j,z p,n,d,_,a,g',x.trans k,D,v.ext (k.e0 r),λe=>by cases e⟩
end
structure dT (σ:jA)(e:Nat)(a:Z8 Addr)(n c:Nat)(cs:List Z6):Prop where
 hlen:cs.length=n
 hat:(a=none∧n=0∧c=0)∨∃ b,a=some ⟨b,0,none⟩∧σ.lo≤b∧b<σ.next∧σ.get b=some (O cs e true)∧c=UC∧0<n
theorem dT.nil (σ:jA)(e:Nat):dT σ e none 0 0 []:=⟨rfl,.inl ⟨rfl,rfl,rfl⟩⟩
theorem dT.grew {σ σ':jA}{S:Nat→Prop}{e n:Nat}{a:Z8 Addr}{c:Nat}{cs:List Z6}(h:dT σ e a n c cs)(g:jC σ σ' S)(l:∀ b,blk a b→¬ S b):dT σ' e a n c cs:=by
 refine ⟨h.hlen,?_⟩
 rcases h.hat with h0|⟨b,d,i,f,j,k⟩
 ·exact .inl h0
 ·exact .inr ⟨b,d,by rw[g.lo];exact i,Nat.lt_of_lt_of_le f g.next,(g.get b f (l b ⟨0,none,d⟩)).trans j,k⟩
def kA0 (σ:jA)(e:Nat)(a:Z8 Addr)(cs xs:List Z6):jA:=match a with
 | none=>σ.add (O (cs++xs) e true)
 | some ⟨b,_,_⟩=>{ t:=(σ.t.put σ.next (O (cs++xs) e true)).put b (qO σ.next e cs),next:=σ.next+1,lo:=σ.lo }
theorem yE0 (σ:jA)(e:Nat)(a:Z8 Addr)(cs xs:List Z6):(kA0 σ e a cs xs).next=σ.next+1:=by
 unfold kA0;split
 ·exact jB _
 ·rfl
theorem iI0 (σ:jA)(e:Nat)(a:Z8 Addr)(cs xs:List Z6):(kA0 σ e a cs xs).lo=σ.lo:=by
 unfold kA0;split
 ·exact jM _
 ·rfl
theorem gI2 {σ:jA}{e by_:Nat}{a:Z8 Addr}{n c:Nat}{cs:List Z6}(f:dT σ e a n c cs){x:Z6}(k:one x=true)(g:(n+1)*by_≤140737488355328∧(n+1)<100000000000000) :
  apS e 1 by_ (.slice a n c) (some (1,[x])) σ=some (.slice (some ⟨σ.next,0,none⟩) (n+1) UC,kA0 σ e a cs [x]):=by
 have h:[x].all one=true:=by simp[k]
 rcases f.hat with ⟨rfl,rfl,rfl⟩|⟨b,rfl,i,o,j,rfl,m⟩
 ·have d:cs=[]:=List.length_eq_zero_iff.1 (by rw[f.hlen])
  subst d
  exact tQ0 _ _ _ h Z0 (by simpa using g)
 ·have l:cells σ b=some (cs,e,true):=by unfold Ev.cells;rw[j];rfl
  show (if [x].all one=true then (match cells σ b with
   | some (cs,e',mo)=>if e'=e∧σ.lo≤b∧cs.length=n*1∧(n+1)*by_≤140737488355328∧(n+1)<100000000000000 then
    (if mo=true∧UC=UC then some (Value.slice (some ⟨σ.next,0,none⟩) (n+1) UC,{ t:=(σ.t.put σ.next (O (cs++[x]) e true)).put b (qO σ.next e cs),next:=σ.next+1,lo:=σ.lo })
     else if mo=false∧UC=n then (if 1=0 then some (Value.slice (some ⟨b,0,none⟩) n UC,σ) else some (Value.slice (some ⟨σ.next,0,none⟩) (n+1) UC,σ.add (O (cs++[x]) e true)))
     else none)
   else none
   | none=>none) else none)=_
  rw[if_pos h,l]
  dsimp only
  rw[if_pos ⟨rfl,i,by rw[f.hlen,Nat.mul_one],g⟩,if_pos ⟨rfl,rfl⟩]
  rfl
theorem gZ1 {σ:jA}{e:Nat}{a:Z8 Addr}{n c:Nat}{cs:List Z6}(f:dT σ e a n c cs)(d:σ.lo≤σ.next)(x:Z6):dT (kA0 σ e a cs [x]) e (some ⟨σ.next,0,none⟩) (n+1) UC (cs++[x]):=by
 refine ⟨by simp[f.hlen],.inr ⟨σ.next,rfl,by rw[iI0];exact d,by rw[yE0];omega,?_,rfl,Z0⟩⟩
 rcases f.hat with ⟨rfl,rfl,rfl⟩|⟨b,rfl,g,k,j,rfl,i⟩
 ·exact kM _ _ rfl
 ·have:=jN0 (h:=σ) (b:=b) (x':=O (cs++[x]) e true) (y:=qO σ.next e cs) σ.next
  rw[if_neg Z0,if_pos rfl] at this
  exact this
theorem eO0 {σ:jA}{e:Nat}{a:Z8 Addr}{n c:Nat}{cs:List Z6}(f:dT σ e a n c cs)(xs:List Z6):jC σ (kA0 σ e a cs xs) (blk a):=by
 refine ⟨by rw[yE0];omega,iI0 _ _ _ _ _,λj m d=>?_⟩
 rcases f.hat with ⟨rfl,rfl,rfl⟩|⟨b,rfl,g,l,k,rfl,i⟩
 ·exact qF _ _ Z0
 ·have:=jN0 (h:=σ) (b:=b) (x':=O (cs++xs) e true) (y:=qO σ.next e cs) j
  rw[if_neg (λe=>d ⟨0,none,by rw[e]⟩),if_neg Z0] at this
  exact this
def sR (R:jK→S→Prop)(e:jK)(s:S):Prop:=match e with | .goto _=>False|e=>R e s
theorem kR_Sn {R:jK→S→Prop}{s:S}:@kR ⟨sR R⟩ .normal s=R .normal s:=propext Iff.rfl
theorem kR_Sr {R:jK→S→Prop}{s:S}:@kR ⟨sR R⟩ .ret s=R .ret s:=propext Iff.rfl
theorem kR_Se {R:jK→S→Prop}{s:S}(i:Nat):@kR ⟨sR R⟩ (.exit i) s=R (.exit i) s:=propext Iff.rfl
attribute [push_cast] kR_Sn kR_Sr kR_Se
theorem WinD.of {p:Par}{q:Q}(jV:wB0 p){ro:Z8 Nat}{b c:Code}{d:IR}{D:S}{R:jK→S→Prop}(v:comp p.P c=d)(m:dB p.NG d=true)(h:dc3 p q ro d D (@kR ⟨sR R⟩)):WinD p q.H ro b c D R:=by
 intro g s r k t f
 refine gX0 jV v ?_
 rw[qA0] at h
 refine gR _ _ _ _ (λe w u=>?_) (jZ0 d m r k t f h)
 obtain ⟨g',o,a,n,j⟩:=u
 cases e with
 | goto l=>exact a.elim
 | normal=>exact ⟨g',o,a,n,j⟩
 | ret=>exact ⟨g',o,a,n,j⟩
 | exit i=>exact ⟨g',o,a,n,j⟩
theorem dJ2 {σ:jA}{e k by_ b n m:Nat}{cs xs:List Z6}(f:cells σ b=some (cs,e,false))(c:σ.lo≤b)(h:cs.length=n*k)(a:xs.all one=true)(g:0<m)(d:(n+m)*by_≤140737488355328∧(n+m)<100000000000000) :
  apS e k by_ (.slice (some ⟨b,0,none⟩) n n) (some (m,xs)) σ=some (.slice (some ⟨σ.next,0,none⟩) (n+m) UC,σ.add (O (cs++xs) e true)):=by
 show (if xs.all one = true then (match cells σ b with
   | some (cs,e',mo)=>if e'=e∧σ.lo≤b∧cs.length=n*k∧(n+m)*by_≤140737488355328∧(n+m)<100000000000000 then
    (if mo=true∧n=UC then some (Value.slice (some ⟨σ.next,0,none⟩) (n+m) UC,{ t:=(σ.t.put σ.next (O (cs++xs) e true)).put b (qO σ.next e cs),next:=σ.next+1,lo:=σ.lo })
     else if mo=false∧n=n then (if m=0 then some (Value.slice (some ⟨b,0,none⟩) n n,σ) else some (Value.slice (some ⟨σ.next,0,none⟩) (n+m) UC,σ.add (O (cs++xs) e true)))
     else none)
   else none
   | none=>none) else none)=_
 rw[if_pos a,f]
 dsimp only
 rw[if_pos ⟨rfl,c,h,d⟩,if_neg (by simp),if_pos ⟨rfl,rfl⟩,if_neg Z0]
def Frz (D D':S):Prop:=∀ (g:Gh) (s:S),SRel g D s→∃ g',Ext g D.h s.h g' D'.h s.h∧SRel g' D' s
theorem jE3 {D:S}{i k:Nat}{cs:List Z6}{e:Nat}{m:Zb}(w:D.h.lo≤i)(f:i<D.h.next)(A:D.h.get i=some (O cs e m))(K:0<cs.length)(E:k<D.tm.sz)(I:D.tm.get k=.pointer (some ⟨i,0,none⟩)) :
  Frz D ⟨D.tm.set k (Rpt 0 cs),D.df,bA (λj=>!Nat.beq j i) D.h⟩:=by
 intro g s u
 have d:=u.r
 have c:kZ D.h i:=d.own f w A
 have z:∀ j,(!Nat.beq j i)=true↔j≠i:=λj=>by
  constructor
  ·rintro h rfl;simp at h
  ·intro h
   cases a:Nat.beq j i with
   | false=>rfl
   | true=>exact absurd (Nat.eq_of_beq_eq_true a) h
 have J:=d.flt (λj=>!Nat.beq j i) (λj l=>(z j).2 Z0) (F':=λb=>g.F b∨b=g.δ i) (λb a=>by
  rcases a with a|rfl
  ·exact ⟨(d.frz b a).1,λj l _=>(d.frz b a).2 j l⟩
  ·exact ⟨d.dlt i f,λj l x e=>(z j).1 x (d.inj j i l c e)⟩) (λb a=>.inl a)
 have v:Ext g D.h s.h { g with F:=λb=>g.F b∨b=g.δ i } (bA (λj=>!Nat.beq j i) D.h) s.h:=
  ⟨rfl,rfl,Z3 _,rfl,Z3 _,rfl,λ_ _=>rfl,λ_ a=>.inl a,λb a=>by
   rcases a with a|rfl
   ·exact .inl a
   ·exact .inr (.inr ⟨i,c,rfl⟩),λ_ _ _=>rfl,λj l=>.inl (dN l).1⟩
 refine ⟨_,v,J,?_,u.df,u.dl⟩
 have n:=u.t.ext (v.e0 d)
 obtain ⟨vs,M,C,h0,B,L⟩:=d.obj i _ f A
 have y:=n.get k
 rw[I] at y
 simp only[RV,Option.map_some,ren] at y
 refine ⟨by rw[VT.set_sz];exact n.sz,by rw[VT.set_sz];exact n.sU,λj=>?_⟩
 rw[VT.get_set n.sU]
 by_cases q:k=j
 ·subst q
  rw[if_pos rfl,if_pos E,y.2]
  refine RV.mkRpt (o:=0) (off:=0) (B.ext (v.e0 d)) ⟨Sl.row C (d.dlo i c),λb a=>?_⟩ (by rw[B.len];exact K)
  obtain ⟨o,s',e⟩:=a
  cases e
  exact ⟨d.dlt i f,.inr rfl⟩
 ·rw[if_neg q]
  exact n.get j
theorem bB2 (σ:jA)(i:Nat):jC σ (bA (λj=>!Nat.beq j i) σ) (λk=>k=i):=by
 refine ⟨Z3 _,rfl,λj _ a=>?_⟩
 rw[dO,if_pos]
 cases h:Nat.beq j i with
 | false=>rfl
 | true=>exact absurd (Nat.eq_of_beq_eq_true h) a
def lQ0 (p:Par)(q:Q)(l:Nat)(c:IR)(K:Zb→Z6→jA→Prop)(e:jK)(a:S):Prop:=
 match e with
 | .normal=>match qS a.h l with
  | some b=>b.state=.ready∧∃ D',Frz ⟨a.tm,a.df,jN a.h l { b with state:=.busy }⟩ D'∧dc3 p q (some l) c D' (@kR ⟨cZ l K⟩)
  | none=>False
 | _=>False
theorem jE.yieldG {p:Par}{q:Q}{σ:jA}(jV:wB0 p){l:Nat}{r:Loop}{args:List Z6}{K:Zb→Z6→jA→Prop}{T:VT}{o b:IR}(hl:qS σ l=some r)(u:l<σ.next)(hT:r.tmps=T.arr)(hU:T.sz<U)(N:args.length=r.params.toList.length)
  (ha:comp p.P r.assign=o) (hb:comp p.P r.body=b) (M:dB p.NG o=true) (Z:dB p.NG b=true) (V:p.NG≤σ.lo) (hv:dc3 p q (some l) o ⟨gI T (r.params.toList.zip args),[],σ⟩ (@kR ⟨lQ0 p q l b K⟩)) :
  jE p q.H (.func (.yield l) ⟨[]⟩ ⟨[]⟩) args σ K:=by
 intro g h fv vs hP hr hf R
 simp only[RV,RVL,RowP] at hf
 obtain ⟨vs0,rfl,-,-,rfl⟩:=hf
 obtain ⟨hown,us,hgl,X,_⟩:=qM0 hr hl u
 rw[hT] at X
 obtain ⟨T',hT',ht⟩:=lL2 hU X
 have E:vs.length=r.params.toList.length:=by rw[R.len];exact N
 show qF0 p (g.δ l) vs h _
 refine qF0.of hgl (T:=T') hT'.symm (by rw[ht.sz];exact hU) E (qO0 jV _ _ _ ?_)
 show vc p (some (g.δ l)) (comp p.P r.assign) _ _
 rw[ha]
 rw[qA0] at hv
 have hz:Tms g h σ.next (gI T (r.params.toList.zip args)) (gI T' (r.params.toList.zip vs)):=by
  refine kT0 ht ?_ ?_
  ·rw[List.map_fst_zip Z0,List.map_fst_zip Z0]
  ·rw[List.map_snd_zip Z0,List.map_snd_zip Z0];exact R
 have h1:=jZ0 o M hP V (D:=⟨gI T (r.params.toList.zip args),[],σ⟩) (s:=⟨gI T' (r.params.toList.zip vs),[],h⟩) ⟨hr,hz,rfl,λd f=>by cases f⟩ (ro:=some l) (λl' e=>by cases e;exact u) hv
 refine gR _ _ _ _ (λe I hA=>?_) h1
 obtain ⟨Y,v,f,J,r1⟩:=hA
 have n:Y.δ l=g.δ l:=J.δ l u
 have m:l<v.h.next:=Nat.lt_of_lt_of_le u J.nn
 change lQ0 p q l b K e v at f
 unfold lQ0 at f
 unfold lP0
 cases e with
 | exit i=>exact f.elim
 | goto t=>exact f.elim
 | ret=>exact f.elim
 | normal=>
  dsimp only at f ⊢
  split at f
  ·rename_i a hg1
   obtain ⟨hst,D',hF,c⟩:=f
   obtain ⟨hown1,us1,A,hus1,F⟩:=qM0 r1.r hg1 m
   rw[n] at A
   rw[A]
   refine ⟨hst,qO0 jV _ _ _ ?_⟩
   show vc p (some (g.δ l)) (comp p.P r.body) _ _
   rw[hb]
   obtain ⟨x2,x⟩:=F .busy a.pending
   rw[n] at x2 x
   rw[qA0] at c
   have hs2:SRel Y ⟨v.tm,v.df,jN v.h l { a with state:=.busy }⟩ ⟨I.tm,I.df,jN I.h (g.δ l) { a with tmps:=⟨us1⟩,defers:=Y.δ a.defers,state:=.busy }⟩:=
    r1.ext (D':=⟨v.tm,v.df,jN v.h l { a with state:=.busy }⟩) (s':=⟨I.tm,I.df,jN I.h (g.δ l) { a with tmps:=⟨us1⟩,defers:=Y.δ a.defers,state:=.busy }⟩) x2 x (r1.t.ext (x2.e0 r1.r)) rfl rfl
   obtain ⟨gF,xF,hs3⟩:=hF Y _ hs2
   have k:l<D'.h.next:=Nat.lt_of_lt_of_le m xF.nn
   have y:gF.δ l=g.δ l:=(xF.δ l m).trans n
   have h2:=jZ0 b Z (xF.ok (J.ok hP)) (D:=D') (by rw[xF.lo];show p.NG≤v.h.lo;rw[J.lo];exact V) hs3 (ro:=some l) (λl' e=>by cases e;exact k) c
   rw[Option.map_some,y] at h2
   refine gR _ _ _ _ (λe s2 hB=>?_) h2
   obtain ⟨g2,D2,j,x3,r2⟩:=hB
   have z:g2.δ l=g.δ l:=(x3.δ l k).trans y
   have L:l<D2.h.next:=Nat.lt_of_lt_of_le k x3.nn
   change cZ l K e D2 at j
   unfold cZ at j
   unfold qM1
   split at j
   ·rename_i r2' hg2
    obtain ⟨_,us2,B,_,C⟩:=qM0 r2.r hg2 L
    rw[z] at B
    rw[B]
    dsimp only
    obtain ⟨x4,w⟩:=C (if e.jump.isNone then .ready else .done) e.jump
    rw[z] at x4 w
    exact ⟨false,_,_,j,g2,(((J.trans x2).trans xF).trans x3).trans x4,w,(by simp only[RV]),λe=>by cases e⟩
   ·exact j.elim
  ·exact f.elim
end
end Go.Dv
