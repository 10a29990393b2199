/-
  A part of the proof: conditions over an abstract memory,and that they are enough for what the model's calls do. No condition of its own.
-/
import Derived.Test.YtklapbhlhjdijaaGreatDoorEvd
set_option linter.unusedSimpArgs false
set_option linter.unusedVariables false
namespace Go.Dv
open Go Go.RowKit Go.Ev
noncomputable section
theorem FzL.app {P:Z9}{n:Nat}{σ:jA}:∀ {vs ds us a:List Z6},FzL P n σ vs ds→FzL P n σ us a→FzL P n σ (vs++us) (ds++a)
 | _,_,_,_,.nil,h=>h
 | _,_,_,_,.cons h1 h2,h=>.cons h1 (FzL.app h2 h)
def orB (a b:Zb):Zb:=match a with|true=>true|false=>b
theorem orB_t (b:Zb):orB true b=true:=rfl
theorem orB_f (b:Zb):orB false b=b:=rfl
theorem bK3 (i x:Nat)(l:List Nat):dU i (x :: l)=orB (decide (i=x)) (dU i l):=by
 by_cases h:i=x
 ·rw[bI3 h,decide_eq_true h];rfl
 ·rw[bJ3 h,decide_eq_false h];rfl
attribute [push_cast] orB_t orB_f bK3
section
variable {p:Par} {H:jA}
end
def flt (p:Nat→Zb):Tr→Tr
 | .nil=>.nil
 | .node l v r=>.node (flt (λk=>p (2*k+1)) l) (if p 0 then v else none) (flt (λk=>p (2*k+2)) r)
theorem sN0:∀ (t:Tr) (p:Nat→Zb) (i:Nat),(flt p t).get i=if p i then t.get i else none
 | .nil,p,i=>by
  rw[flt,Tr.get_nil];split<;>rfl
 | .node l v r,p,i=>by
  rw[flt,Tr.get_node,Tr.get_node,sN0 l,sN0 r]
  by_cases h0:i=0
  ·subst h0;rfl
  rw[if_neg h0,if_neg h0]
  by_cases h:(i-1) % 2=0
  ·rw[if_pos h,if_pos h,show 2*((i-1) / 2)+1=i by omega]
  ·rw[if_neg h,if_neg h,show 2*((i-1) / 2)+2=i by omega]
def cA (p:Nat→Zb)(σ:jA):jA:=⟨flt p σ.t,σ.next,σ.lo⟩
theorem eP (p:Nat→Zb)(σ:jA)(i:Nat):(cA p σ).get i=if p i then σ.get i else none:=sN0 ..
theorem bM0 (p:Nat→Zb)(σ:jA):(cA p σ).next=σ.next:=rfl
theorem rB1 (p:Nat→Zb)(σ:jA):(cA p σ).lo=σ.lo:=rfl
theorem dG {p:Nat→Zb}(σ:jA){i:Nat}(h:p i=true):cells (cA p σ) i=cells σ i:=kT (by rw[eP,if_pos h])
attribute [push_cast] bM0 rB1
section
variable {p:Par} {H:jA}
theorem eO {q:Nat→Zb}{σ:jA}{i:Nat}(h:bQ (cA q σ) i):bQ σ i∧q i=true:=by
 obtain ⟨c,d,a⟩:=h
 rw[eP] at a
 split at a
 ·rename_i b;exact ⟨⟨c,d,a⟩,b⟩
 ·cases a
theorem Rel.flt {g:Gh}{σ h:jA}(a:Rel g σ h)(q:Nat→Zb)(l:∀ i,i<σ.lo→q i=true){F':Nat→Prop}(k:∀ b,F' b→b<h.next∧∀ i,bQ σ i→q i=true→g.δ i≠b)(d:∀ b,g.F b→F' b):Rel { g with F:=F' } (cA q σ) h:=by
 have e0:Ext0 g h σ.next { g with F:=F' } h σ.next:=⟨rfl,Z3 _,λ_ _=>rfl,d,Z3 _,rfl,λ_ _ _=>rfl⟩
 have low:∀ i,i<σ.lo→(cA q σ).get i=σ.get i:=λi hi=>by rw[eP,if_pos (l i hi)]
 refine ⟨a.pos,a.lo,a.lon,a.hlo,λi hi=>(low i hi).trans (a.base i hi),λi x hi c=>a.baseF i x hi (by rw[← low i hi];exact c),λi hi=>by rw[low i hi];exact a.baseD i hi,λi x hi c=>?_,a.dlt,λi hi=>a.dlo i (eO hi).1,λi j hi m e=>a.inj i j (eO hi).1 (eO m).1 e,λb f=>⟨(k b f).1,λi hi=>(k b f).2 i (eO hi).1 (eO hi).2⟩,a.wf⟩
 rw[eP] at c
 split at c
 ·exact (a.obj i x hi c).ext e0 rfl
 ·cases c
end
def cL (p:Par)(H:jA)(f:FuncId)(args:List Z6)(D:Z6→Prop):Prop:=
 ∀ (g:Gh) (h:jA) (vs:List Z6),g.ok p H→Rel g H h→RVL g h H.next args vs→dR p f vs h λu a=>∃ d g',D d∧Ext g H h g' H a∧Rel g' H a∧RV g' a H.next d u
section
variable {p:Par} {H:jA}
theorem jI.cutE {f:FuncId}{args:List Z6}{σ:jA}{R:Z6→jA→Prop}(s:jI p H f args σ λv σ'=>∃ d a,R d a∧FzV p.P a.next σ' v d∧qB0 p.P σ a σ'):jI p H f args σ R:=by
 intro g h vs l k n
 refine (s g h vs l k n).mono ?_
 rintro u t ⟨v,σ',⟨d,a,r,q,i⟩,g',x,b,j,_⟩
 have c:=x.ok l
 obtain ⟨m,o⟩:=fR0 k x b c.1 i
 have:=k.lon
 have:=i.next
 exact ⟨d,a,r,_,m,o,mZ0 b c.1 (by rw[x.lo];omega) i.nx q j,λe=>by cases e⟩
theorem cL.cut {f:FuncId}{args:List Z6}{D:Z6→Prop}(t:jI p H f args H λv σ'=>∃ d,D d∧FzV p.P H.next σ' v d):cL p H f args D:=by
 intro g h vs e b q
 refine (t g h vs e b q).mono ?_
 rintro u w ⟨v,σ',⟨d,n,s⟩,g',x,c,j,_⟩
 have a:=x.ok e
 have k:=b.lo
 rw[e.2] at k
 have m:qB0 p.P H H σ':=⟨Z3 _,x.nn,rfl,λi hi=>.inl ⟨hi,by
  have l:=c.base i (by rw[x.lo];omega)
  rw[a.2] at l
  exact l,rfl⟩⟩
 obtain ⟨o,r⟩:=fR0 b x c a.1 m
 exact ⟨d,_,n,o,r,mZ0 c a.1 (by rw[x.lo];exact b.lon) x.nn s j⟩
theorem jD.lendE {f:FuncId}{cap args c:List Z6}{σ:jA}{D:Z6→Prop}{K:Zb→Z6→jA→Prop}(I:cL p H f c D)(A:FzL p.P σ.lo σ (args++cap) c)(q:∀ d,D d→flat d=true∧K true d σ) :
  jD p H (.func (.func f) ⟨[]⟩ ⟨cap⟩) args σ K:=by
 intro g h L vs n l E z
 obtain ⟨cs,rfl,o⟩:=qC0 E
 show kL0 p f (vs++cs) h _
 have k:=zE0 l (m:=σ.lo)
 have j:=l.lo
 rw[n.2] at k j
 have r:=cR l n.1 (Z3 _) l.lon A (z.app o)
 rw[j.1] at r
 rw[j.1] at k
 refine ((I (g.all H.next σ) h _ ⟨n.1,n.2⟩ k r).mono ?_).w
 rintro u C ⟨d,g',t,x,J,y⟩
 obtain ⟨s,q⟩:=q d t
 have no:∀ i,¬ bQ H i:=λi hi=>by have:=hi.1;have:=hi.2.1;omega
 have B:=RV.flat d u s y
 subst B
 have e:Agr h C:=λb a=>x.fr b a λi hi=>absurd hi (no i)
 obtain ⟨v,e0⟩:=l.same e x.next x.hlo J.wf (F':=g.F) (λb a=>⟨Nat.lt_of_lt_of_le (l.frz b a).1 x.next,(l.frz b a).2⟩) (λb a=>a)
 exact ⟨true,u,σ,q,{ g with F:=g.F },⟨rfl,rfl,Z3 _,rfl,x.next,x.hlo,λ_ _=>rfl,λ_ a=>a,λ_ a=>.inl a,λb a _=>e b a,λi hi=>.inl hi⟩,v,RV.of_flat u s,λ_=>e⟩
theorem jD.dataE {f:FuncId}{cap args k:List Z6}{σ:jA}{D:Z6→Prop}{K:Zb→Z6→jA→Prop}(hc:cL p H f k D)(E:FzL p.P H.next H (args++cap) k)(hz:scL σ.lo (args++cap)=true)(C:∀ d,D d→sc σ.lo d=true∧K true d σ) :
  jD p H (.func (.func f) ⟨[]⟩ ⟨cap⟩) args σ K:=by
 intro g h fv vs o l hf Y
 obtain ⟨cs,rfl,B⟩:=qC0 hf
 show kL0 p f (vs++cs) h _
 have t:=l.lo
 rw[o.2] at t
 have no:∀ i,¬ bQ H i:=λi hi=>by have:=hi.1;have:=hi.2.1;omega
 have v:Rel g H h:=by
  have a:=zE0 l (m:=0)
  rw[o.2] at a
  exact ⟨a.pos,a.lo,a.lon,a.hlo,a.base,a.baseF,a.baseD,λi x hi hx=>by
   have z:σ.get i=some x:=by rw[l.base i Z0,o.2];exact hx
   obtain ⟨ds,e,fr,rfl,s⟩:=l.baseF i x Z0 z
   obtain ⟨vs,Z,h2,h0,M,T⟩:=l.obj i _ (by have:=l.lon;omega) z
   have:=RVL.flat _ _ s M
   subst this
   exact ⟨_,Z,h2,λh=>by omega,RVL.of_flat _ s,T⟩,a.dlt,λi hi=>absurd hi (no i),λi j hi=>absurd hi (no i),λb c=>⟨(l.frz b c).1,λi hi=>absurd hi (no i)⟩,a.wf⟩
 have A:=RVL.wid (g:=g) (g':=g) (n:=σ.lo) ⟨rfl,λ_ _=>rfl,λ_ c=>c⟩ _ _ hz (Y.app B)
 rw[t.1] at A
 have A:=cR v o.1 Z0 (Z3 _) E A
 have y:=zE0 v (m:=H.next)
 rw[o.2] at y
 refine ((hc (g.all H.next H) h _ ⟨o.1,o.2⟩ y A).mono ?_).w
 rintro u I ⟨d,g',R,x,J,X⟩
 obtain ⟨hd,C⟩:=C d R
 have q:Agr h I:=λb c=>x.fr b c λi hi=>absurd hi (no i)
 have r:∀ b,g'.F b→g.F b∨h.next≤b:=λb c=>by
  rcases x.Fn b c with a|a|⟨i,hi,_⟩
  ·rcases a with a|⟨i,hi,_⟩
   ·exact .inl a
   ·exact absurd hi (no i)
  ·exact .inr a
  ·exact absurd hi (no i)
 obtain ⟨V,e0⟩:=l.same q x.next x.hlo J.wf (F':=g'.F) (λb c=>⟨(J.frz b c).1,λi hi=>by
  rcases r b c with a|a
  ·exact (l.frz b a).2 i hi
  ·have:=l.dlt i hi.2.1;omega⟩) (λb c=>x.F b (.inl c))
 refine ⟨true,d,σ,C,{ g with F:=g'.F },⟨rfl,rfl,Z3 _,rfl,x.next,x.hlo,λ_ _=>rfl,λb c=>x.F b (.inl c),λb c=>by
  rcases r b c with a|a
  ·exact .inl a
  ·exact .inr (.inl a),λb c _=>q b c,λi hi=>.inl hi⟩,V,?_,λ_=>q⟩
 have L:=RV.wid (g:=g') (g':={ g with F:=g'.F }) (h:=I) (N:=H.next) (n:=σ.lo) ⟨x.P.symm,λi hi=>(x.δ i Z0).symm,λ_ c=>c⟩ d u hd X
 exact L.ext ⟨rfl,l.lon,λ_ _=>rfl,λ_ c=>c,Z3 _,rfl,λ_ _ _=>rfl⟩
end
section
variable {p:Par} {H:jA}
theorem jD.dataI {f:FuncId}{args:List Z6}{σ:jA}{d:Z6}{K:Zb→Z6→jA→Prop}(a:jG p H f args d)(h:scL H.next args=true∧scL σ.lo args=true∧sc σ.lo d=true)(c:K true d σ) :
  jD p H (.func (.func f) ⟨[]⟩ ⟨[]⟩) args σ K:=
 jD.data (cap:=[]) a (by rw[List.append_nil];exact FzL.ids h.1) (by rw[List.append_nil];exact h.2.1) h.2.2 c
theorem jD.dataEI {f:FuncId}{args:List Z6}{σ:jA}{D:Z6→Prop}{K:Zb→Z6→jA→Prop}(c:cL p H f args D)(h:scL H.next args=true∧scL σ.lo args=true)(a:∀ d,D d→sc σ.lo d=true∧K true d σ) :
  jD p H (.func (.func f) ⟨[]⟩ ⟨[]⟩) args σ K:=
 jD.dataE (cap:=[]) c (by rw[List.append_nil];exact FzL.ids h.1) (by rw[List.append_nil];exact h.2) a
end
theorem FzL.take {P:Z9}{n:Nat}{σ:jA}:∀ {vs ds:List Z6} (k:Nat),FzL P n σ vs ds→FzL P n σ (vs.take k) (ds.take k)
 | _,_,0,_=>by simp only[List.take_zero];exact .nil
 | _,_,k+1,.nil=>.nil
 | _,_,k+1,.cons h1 h2=>.cons h1 (FzL.take k h2)
theorem FzL.drop {P:Z9}{n:Nat}{σ:jA}:∀ {vs ds:List Z6} (k:Nat),FzL P n σ vs ds→FzL P n σ (vs.drop k) (ds.drop k)
 | _,_,0,h=>h
 | _,_,k+1,.nil=>.nil
 | _,_,k+1,.cons h1 h2=>FzL.drop k h2
section
variable {p:Par} {H:jA}
theorem jD.giveE {f:FuncId}{cap args c:List Z6}{σ:jA}{D:Z6→Prop}{K:Zb→Z6→jA→Prop}(q:Nat→Zb)(hq:∀ i,i<σ.lo→q i=true)(hc:cL p H f c D)
  (hz:FzL p.P σ.lo (cA (λi=>!q i || Nat.blt i σ.lo) σ) (args++cap) c) (R:∀ d,D d→sc σ.lo d=true∧K true d (cA q σ)) :
  jD p H (.func (.func f) ⟨[]⟩ ⟨cap⟩) args σ K:=by
 intro g h fv vs v l hf hv
 obtain ⟨cs,rfl,C⟩:=qC0 hf
 show kL0 p f (vs++cs) h _
 have A:=l.lo
 rw[v.2] at A
 have o:=l.lon
 have no:∀ i,¬ bQ H i:=λi hi=>by have:=hi.1;have:=hi.2.1;omega
 have T:∀ i,i<σ.lo→(!q i || Nat.blt i σ.lo)=true:=λi hi=>by
  have:Nat.blt i σ.lo=true:=by simpa using hi
  rw[this,Bool.or_true]
 have r0:=l.flt _ T (F':=g.F) (λb a=>⟨(l.frz b a).1,λi hi _=>(l.frz b a).2 i hi⟩) (λb a=>a)
 have B:=zE0 r0 (m:=σ.lo)
 have y:g.H0=H:=v.2
 change Rel _ g.H0 h at B
 rw[y] at B
 have X:=cR r0 v.1 (Z3 _) o hz (hv.app C)
 change RVL _ h σ.lo c _ at X
 have J:=A.1
 have M:RVL (Gh.all { g with F:=g.F } σ.lo (cA (λi=>!q i || Nat.blt i σ.lo) σ)) h H.next c (vs++cs):=by rw[← J];exact X
 refine ((hc (Gh.all { g with F:=g.F } σ.lo (cA (λi=>!q i || Nat.blt i σ.lo) σ)) h _ ⟨v.1,v.2⟩ (by rw[← y] at B ⊢;exact B) M).mono ?_).w
 rintro u Y ⟨d,g',hD,x,r',rv⟩
 obtain ⟨hd,R⟩:=R d hD
 have r:Agr h Y:=λb a=>x.fr b a λi hi=>absurd hi (no i)
 have z:∀ b,g'.F b→g.F b∨h.next≤b∨∃ i,bQ σ i∧q i=false∧g.δ i=b:=λb a=>by
  rcases x.Fn b a with k|k|⟨i,hi,_⟩
  ·rcases k with k|⟨i,hi,_,e⟩
   ·exact .inl k
   ·obtain ⟨Z,V⟩:=eO hi
    refine .inr (.inr ⟨i,Z,?_,e⟩)
    have:¬ Nat.blt i σ.lo=true:=by have:=Z.1;simp;omega
    cases I:q i with
    | false=>rfl
    | true=>rw[I] at V;simp at V;simp at this;omega
  ·exact .inr (.inl k)
  ·exact absurd hi (no i)
 have r2:=l.flt q hq (F':=g.F) (λb a=>⟨(l.frz b a).1,λi hi _=>(l.frz b a).2 i hi⟩) (λb a=>a)
 obtain ⟨r3,e0⟩:=r2.same r x.next x.hlo r'.wf (F':=g'.F) (λb a=>⟨(r'.frz b a).1,λi hi=>by
  obtain ⟨t,L⟩:=eO hi
  show g.δ i≠b
  rcases z b a with k|k|⟨j,E,s,e⟩
  ·exact (l.frz b k).2 i t
  ·have:=l.dlt i t.2.1;omega
  ·intro e2
   have:=l.inj i j t E (by rw[e2,e])
   subst this
   rw[L] at s
   cases s⟩) (λb a=>x.F b (.inl a))
 refine ⟨true,d,_,R,{ g with F:=g'.F },⟨rfl,rfl,Z3 _,rfl,x.next,x.hlo,λ_ _=>rfl,λb a=>x.F b (.inl a),λb a=>?_,λb a _=>r b a,λi hi=>.inl (eO hi).1⟩,r3,?_,λ_=>r⟩
 ·rcases z b a with k|k|⟨j,E,s,e⟩
  ·exact .inl k
  ·exact .inr (.inl k)
  ·exact .inr (.inr ⟨j,E,e⟩)
 have h5:=RV.wid (g:=g') (g':={ g with F:=g'.F }) (h:=Y) (N:=H.next) (n:=σ.lo) ⟨x.P.symm,λi hi=>(x.δ i Z0).symm,λ_ a=>a⟩ d u hd rv
 exact h5.ext ⟨rfl,o,λ_ _=>rfl,λ_ a=>a,Z3 _,rfl,λ_ _ _=>rfl⟩
end
def Op2 (P:Z9)(n:Nat)(L:List (Nat×List Z6))(w:Zw)(ds cs:List Z6):Prop:=
 ∃ h,∀ G,h≤G→w.heap.size≤G→RVL (gG P n L G) (qT0 G w) n ds cs∧plL cs=true∧scL G cs=true
section
variable {P:Z9} {n:Nat} {L:List (Nat×List Z6)} {w:Zw}
theorem Op2.of {a b:List Z6}(h:Op P n L w a b):Op2 P n L w a b:=by
 obtain ⟨g,h⟩:=h
 exact ⟨g,λG f c=>by obtain ⟨d,i,e,_⟩:=h G f c;exact ⟨d,i,e⟩⟩
theorem Op2.append {a b c d:List Z6}(h:Op2 P n L w a c)(e:Op2 P n L w b d):Op2 P n L w (a++b) (c++d):=by
 obtain ⟨j,h⟩:=h
 obtain ⟨i,e⟩:=e
 refine ⟨max j i,λG q f=>?_⟩
 obtain ⟨k,p,o⟩:=h G Z0 f
 obtain ⟨l,g,m⟩:=e G Z0 f
 exact ⟨k.app l,kR0 p g,wD0 o m⟩
theorem Op2.agg {a b:List Z6}(h:Op P n L w a b):Op2 P n L w [.agg ⟨a⟩] [.agg ⟨b⟩]:=by
 obtain ⟨g,h⟩:=h
 refine ⟨g,λG f c=>?_⟩
 obtain ⟨d,i,e,_⟩:=h G f c
 refine ⟨?_,?_,?_⟩
 ·simp only[RVL,RV]
  exact ⟨_,[],rfl,⟨b,rfl,d⟩,rfl⟩
 ·simp[plL,pl,i]
 ·simp[scL,Ev.sc,e]
end
section
variable {g g':Gh} {σ σ' h h':jA} {p:Par} {q:Q}
theorem bN0 {l:Nat}{r:Loop}:kO h l=some r↔(∃ m,h.get l=some ⟨.loop r,m⟩)∧h.lo≤l:=by
 constructor
 ·intro e
  unfold kO at e
  split at e
  ·rename_i b m c
   split at e
   ·rename_i a
    cases e
    exact ⟨⟨m,c⟩,by simpa using a⟩
   ·cases e
  ·cases e
 ·rintro ⟨⟨m,c⟩,a⟩
  exact kN c a
theorem qJ0 (e:Rel g σ h){l:Nat}{r:Loop}(n:kO σ l=some r)(d:l<σ.next) :
  bQ σ l∧∃ us,kO h (g.δ l)=some { r with tmps:=⟨us⟩,defers:=g.δ r.defers }∧RVL g h σ.next r.tmps.toList us∧∀ c b,Ext g σ h g (jJ σ l { r with state:=c,pending:=b }) (jJ h (g.δ l) { r with tmps:=⟨us⟩,defers:=g.δ r.defers,state:=c,pending:=b })∧
   Rel g (jJ σ l { r with state:=c,pending:=b }) (jJ h (g.δ l) { r with tmps:=⟨us⟩,defers:=g.δ r.defers,state:=c,pending:=b }):=by
 obtain ⟨⟨m,i⟩,f⟩:=bN0.1 n
 have a:bQ σ l:=e.own d f i
 obtain ⟨us,k,s,j⟩:=e.obj l _ d i
 refine ⟨a,us,bN0.2 ⟨⟨m,k⟩,e.dlo l a⟩,j,λc b=>?_⟩
 exact wX0 e a (x:=⟨.loop { r with state:=c,pending:=b },false⟩) (y:=⟨.loop { r with tmps:=⟨us⟩,defers:=g.δ r.defers,state:=c,pending:=b },false⟩) λh' o x=>⟨us,o,s,j.ext x⟩
def dY (l:Nat)(K:Zb→Z6→jA→Prop)(e:jH)(a:S):Prop:=
 match kO a.h l with
 | some c=>K false (.bool e.jump.isNone) (jJ a.h l { c with state:=if e.jump.isNone then .ready else .done,pending:=e.jump })
 | none=>False
def yD0 (p:Par)(q:Q)(l:Nat)(c:IR)(K:Zb→Z6→jA→Prop)(e:jH)(a:S):Prop:=
 match e with
 | .normal=>match kO a.h l with
  | some b=>b.state=.ready∧dc3 p q (some l) c ⟨a.tm,a.df,jJ a.h l { b with state:=.busy }⟩ (@kR ⟨dY l K⟩)
  | none=>False
 | _=>False
theorem kN0:∀ {l:List (Nat×Z6)} {c:List (Nat×Z6)} {N:Nat} {D T:VT},Tms g h N D T→l.map Prod.fst=c.map Prod.fst→RVL g h N (l.map Prod.snd) (c.map Prod.snd)→Tms g h N (bI D l) (bI T c)
 | [],[],N,D,T,ht,_,_=>ht
 | (a,x) :: l,(b,y) :: c,N,D,T,ht,he,hv=>by
  simp only[List.map_cons,List.cons.injEq] at he
  simp only[List.map_cons,RVL] at hv
  obtain ⟨v,vs,e,f,m⟩:=hv
  simp only[List.cons.injEq] at e
  obtain ⟨k,i⟩:=e
  subst i
  have d:y=v:=k
  subst d
  have j:a=b:=he.1
  subst j
  exact kN0 (D:=D.set a x) (T:=T.set a y) (ht.set a f) he.2 m
 | [],_ :: _,_,_,_,_,he,_=>by cases he
 | _ :: _,[],_,_,_,_,he,_=>by cases he
theorem lV2 {N:Nat}{T:VT}(l:T.sz<U){us:List Z6}(f:RVL g h N T.arr.toList us):∃ e:VT,e.arr=⟨us⟩∧Tms g h N T e:=by
 have j:=f.len
 have m:T.arr.toList.length=T.sz:=by rw[Array.length_toList,VT.arr_size]
 have c:(VT.of us us.length).sz=us.length:=by
  show us.length+(us.length-us.length)=_
  omega
 have a:(VT.of us us.length).arr=⟨us⟩:=by
  rw[VT.of_arr _ _ (by rw[c];omega)]
  apply Array.ext';simp
 refine ⟨VT.of us us.length,a,by rw[c];omega,l,λi=>?_⟩
 rw[← VT.arr_getD,← VT.arr_getD,a]
 simp only[Array.getD_eq_getD_getElem?,List.getElem?_toArray]
 cases hi:T.arr.toList[i]? with
 | none=>
  have b:us[i]?=none:=by
   rw[List.getElem?_eq_none_iff] at hi ⊢
   omega
  rw[Array.getElem?_toList] at hi
  rw[b,hi]
  exact RV.undef
 | some d=>
  obtain ⟨v,k,b⟩:=f.get hi
  rw[Array.getElem?_toList] at hi
  rw[k,hi]
  exact b
theorem jD.mono {H:jA}{f:Z6}{args:List Z6}{K a:Zb→Z6→jA→Prop}(o:jD p H f args σ K)(k:∀ b d σ',K b d σ'→a b d σ'):jD p H f args σ a:=
 λg h j vs e n m i=>(o g h j vs e n m i).mono λu h' ⟨b,d,σ',c,l⟩=>⟨b,d,σ',k b d σ' c,l⟩
theorem jD.yield (jS:uW0 p){l:Nat}{r:Loop}{args:List Z6}{K:Zb→Z6→jA→Prop}{T:VT}{o k:IR}(hl:kO σ l=some r)(u:l<σ.next)(hT:r.tmps=T.arr)(hU:T.sz<U)(L:args.length=r.params.toList.length)
  (ha:comp p.P r.assign=o) (hb:comp p.P r.body=k) (J:eA p.NG o=true) (V:eA p.NG k=true) (N:p.NG≤σ.lo) (hv:dc3 p q (some l) o ⟨bI T (r.params.toList.zip args),[],σ⟩ (@kR ⟨yD0 p q l k K⟩)) :
  jD p q.H (.func (.yield l) ⟨[]⟩ ⟨[]⟩) args σ K:=by
 intro g h fv vs hP hr hf M
 simp only[RV,RVL,RowP] at hf
 obtain ⟨vs0,rfl,-,-,rfl⟩:=hf
 obtain ⟨hown,us,hgl,R,_⟩:=qJ0 hr hl u
 rw[hT] at R
 obtain ⟨T',hT',ht⟩:=lV2 hU R
 have B:vs.length=r.params.toList.length:=by rw[M.len];exact L
 show qA0 p (g.δ l) vs h _
 refine qA0.of hgl (T:=T') hT'.symm (by rw[ht.sz];exact hU) B (qM0 jS _ _ _ ?_)
 show vc p (some (g.δ l)) (comp p.P r.assign) _ _
 rw[ha]
 rw[jU0] at hv
 have hz:Tms g h σ.next (bI T (r.params.toList.zip args)) (bI T' (r.params.toList.zip vs)):=by
  refine kN0 ht ?_ ?_
  ·rw[List.map_fst_zip Z0,List.map_fst_zip Z0]
  ·rw[List.map_snd_zip Z0,List.map_snd_zip Z0];exact M
 have h1:=jT0 o J hP N (D:=⟨bI T (r.params.toList.zip args),[],σ⟩) (s:=⟨bI T' (r.params.toList.zip vs),[],h⟩) ⟨hr,hz,rfl,λd m=>by cases m⟩ (ro:=some l) (λl' e=>by cases e;exact u) hv
 refine bU _ _ _ _ (λe E hA=>?_) h1
 obtain ⟨Y,f,m,F,Z⟩:=hA
 have b:Y.δ l=g.δ l:=F.δ l u
 have c:l<f.h.next:=Nat.lt_of_lt_of_le u F.nn
 change yD0 p q l k K e f at m
 unfold yD0 at m
 unfold iV0
 cases e with
 | exit i=>exact m.elim
 | goto t=>exact m.elim
 | ret=>exact m.elim
 | normal=>
  dsimp only at m ⊢
  split at m
  ·rename_i a hg1
   obtain ⟨hst,j⟩:=m
   obtain ⟨hown1,X,y,hus1,C⟩:=qJ0 Z.r hg1 c
   rw[b] at y
   rw[y]
   refine ⟨hst,qM0 jS _ _ _ ?_⟩
   show vc p (some (g.δ l)) (comp p.P r.body) _ _
   rw[hb]
   obtain ⟨x2,w⟩:=C .busy a.pending
   rw[b] at x2 w
   rw[jU0] at j
   have hs2:SRel Y ⟨f.tm,f.df,jJ f.h l { a with state:=.busy }⟩ ⟨E.tm,E.df,jJ E.h (g.δ l) { a with tmps:=⟨X⟩,defers:=Y.δ a.defers,state:=.busy }⟩:=
    Z.ext (D':=⟨f.tm,f.df,jJ f.h l { a with state:=.busy }⟩) (s':=⟨E.tm,E.df,jJ E.h (g.δ l) { a with tmps:=⟨X⟩,defers:=Y.δ a.defers,state:=.busy }⟩) x2 w (Z.t.ext (x2.e0 Z.r)) rfl rfl
   have h2:=jT0 k V (F.ok hP) (D:=⟨f.tm,f.df,jJ f.h l { a with state:=.busy }⟩) (by show p.NG≤f.h.lo;rw[F.lo];exact N) hs2 (ro:=some l) (λl' e=>by cases e;exact c) j
   rw[Option.map_some,b] at h2
   refine bU _ _ _ _ (λe s2 hB=>?_) h2
   obtain ⟨g2,D2,n,x3,r2⟩:=hB
   have x:g2.δ l=g.δ l:=(x3.δ l c).trans b
   have I:l<D2.h.next:=Nat.lt_of_lt_of_le c x3.nn
   change dY l K e D2 at n
   unfold dY at n
   unfold qE1
   split at n
   ·rename_i r2' hg2
    obtain ⟨_,us2,z,_,A⟩:=qJ0 r2.r hg2 I
    rw[x] at z
    rw[z]
    dsimp only
    obtain ⟨x4,v⟩:=A (if e.jump.isNone then .ready else .done) e.jump
    rw[x] at x4 v
    exact ⟨false,_,_,n,g2,((F.trans x2).trans x3).trans x4,v,(by simp only[RV]),λe=>by cases e⟩
   ·exact n.elim
  ·exact m.elim
theorem WD.range (jS:uW0 p){A:Zo}{E:Array Tmp}{a b:Code}{D:S}{R:jH→S→Prop}{f:FuncId}{captured:List Z6}(hok:bF p.NG A=true)(hg:ev D.tm A=.func (.func f) ⟨[]⟩ ⟨captured⟩)
  (hc:jI p q.H f (.func (.yield (D.h.next+1)) ⟨[]⟩ ⟨[]⟩ :: captured) ((D.h.add ⟨.deferred (some []),false⟩).add ⟨.loop { state:=.ready,pending:=none,fn:=0,tmps:=D.tm.arr,params:=E,assign:=a,body:=b,defers:=D.h.next },false⟩) (qR0 (D.h.next+1) D [D.h.next] R)) :
  WD p q.H none (.range A E a b) D R:=by
 intro g s hP hNG w hro
 have T:=w.r
 obtain ⟨x1,r1,_⟩:=cJ0 T (x:=⟨.deferred (some []),false⟩) (y:=⟨.deferred (some []),false⟩) λh' g' N' _ e=>e
 have z:(g.new D.h.next s.h.next).δ D.h.next=s.h.next:=if_pos rfl
 have ht1:=w.t.ext (x1.e0 T)
 have hus:RVL (g.new D.h.next s.h.next) (s.h.add ⟨.deferred (some []),false⟩) (D.h.add ⟨.deferred (some []),false⟩).next D.tm.arr.toList s.tm.arr.toList:=by
  refine RVL.of (by rw[Array.length_toList,Array.length_toList,VT.arr_size,VT.arr_size,w.t.sz]) λi d v h1 h2=>?_
  have:=ht1.get i
  rw[← VT.arr_getD,← VT.arr_getD] at this
  rw[Array.getElem?_toList] at h1 h2
  simp only[Array.getD_eq_getD_getElem?,h1,h2,Option.getD_some] at this
  exact this
 obtain ⟨Z,r2,_⟩:=cJ0 r1 (x:=⟨.loop { state:=.ready,pending:=none,fn:=0,tmps:=D.tm.arr,params:=E,assign:=a,body:=b,defers:=D.h.next },false⟩) (y:=⟨.loop { state:=.ready,pending:=none,fn:=0,tmps:=s.tm.arr,params:=E,assign:=a,body:=b,defers:=s.h.next },false⟩) λh' g' N' x e=>by
  refine ⟨s.tm.arr.toList,?_,?_,hus.ext x⟩
  ·rw[e,x.δ _ (by rw[jB];exact Nat.lt_succ_self _),z]
  ·have:=x.nn
   rw[jB] at this
   show D.h.next<N'
   omega
 have hn1:(D.h.add ⟨.deferred (some []),false⟩).next=D.h.next+1:=jB _
 have hn2:(s.h.add ⟨.deferred (some []),false⟩).next=s.h.next+1:=jB _
 rw[hn1,hn2] at Z r2
 have k:=x1.trans Z
 generalize hg2:(g.new D.h.next s.h.next).new (D.h.next+1) (s.h.next+1)=g2 at Z r2 k
 have o:g2.δ (D.h.next+1)=s.h.next+1:=by rw[← hg2];exact if_pos rfl
 have I:g2.δ D.h.next=s.h.next:=by rw[Z.δ _ (by rw[jB];omega)];exact z
 have B:=qS0 T w.t hNG hok
 rw[hg] at B
 simp only[RV,RVL] at B
 obtain ⟨us,cv,e1,e2,F⟩:=B
 have e2':us=[]:=e2
 subst e2'
 have X:kY0 none s.tm E a b s.h=some (s.h.next+1,[s.h.next],(s.h.add ⟨.deferred (some []),false⟩).add ⟨.loop { state:=.ready,pending:=none,fn:=0,tmps:=s.tm.arr,params:=E,assign:=a,body:=b,defers:=s.h.next },false⟩):=by
  simp only[kY0,jA.add]
  try (rw[jA.new_eq,jA.new_eq])
 have hro':∀ ro:Z8 Nat,ro=none→ro.map g.δ=none:=λro e=>by rw[e];rfl
 show W p none _ s _
 refine W.range X e1 ?_
 refine (hc g2 _ _ (k.ok hP) r2 (RVL.cons ?_ (F.ext (k.e0 T)))).mono ?_
 ·simp only[RV]
  exact ⟨[],by simp only[RVL],rfl,by rw[jB,jB];omega,by rw[o]⟩
 ·rintro u h3 ⟨d,σ',P,J,Y,r3,_,_⟩
  have hx:=k.trans Y
  have V:D.h.next+1<σ'.next:=by have:=Y.nn;rw[jB,jB] at this;omega
  have N:J.δ (D.h.next+1)=s.h.next+1:=by rw[Y.δ _ (by rw[jB,jB];omega)];exact o
  have L:J.δ D.h.next=s.h.next:=by rw[Y.δ _ (by rw[jB,jB];omega)];exact I
  unfold qR0 at P ⊢
  split at P
  ·rename_i e s' l
   unfold uO0 at l
   split at l
   ·rename_i r m
    have m:kO σ' (D.h.next+1)=some r:=m
    obtain ⟨_,us3,j,_,n⟩:=qJ0 r3 m V
    obtain ⟨M,r4⟩:=n .exhausted r.pending
    rw[N] at j M r4
    have C:∀ e',R e' ⟨D.tm,D.h.next :: D.df,jJ σ' (D.h.next+1) { r with state:=.exhausted }⟩→RA g D.h s.h R e' ⟨s.tm,s.h.next :: s.df,jJ h3 (s.h.next+1) { r with tmps:=⟨us3⟩,defers:=J.δ r.defers,state:=.exhausted }⟩:=λe' hR=>by
     refine ⟨J,_,hR,hx.trans M,r4,w.t.ext ((hx.trans M).e0 T),?_,λd K=>?_⟩
     ·show s.h.next :: s.df=(D.h.next :: D.df).map J.δ
      rw[List.map_cons,L,w.df]
      congr 1
      exact List.map_congr_left λd K=>((hx.trans M).δ d (w.dl d K)).symm
     ·show d<σ'.next
      rcases List.mem_cons.1 K with rfl|K
      ·omega
      ·have:=w.dl d K;omega
    unfold uO0
    show (match (match kO h3 (s.h.next+1) with|some r=>_|none=>_:Z8 (jH×S)) with|some (e,s')=>_|none=>_)
    rw[j]
    clear j M r4 n m
    rcases r with ⟨st,pd,fn,tm',ps',as',bd',df'⟩
    dsimp only at l C ⊢
    cases st
    all_goals
     dsimp only at l ⊢
     first
     | (cases l;done)
     | (cases pd with
        | none=>cases l;exact C _ P
        | some c=>cases c<;>first | (cases l;done) | (cases l;exact C _ P))
   ·cases l
  ·exact P.elim
end
section
variable {p:Par} {H:jA}
theorem dR.ghost {f:FuncId}{args:List Z6}{h:jA}{R l:Z6→jA→Prop}(k:dR p f args h R)
  (u:∀ v b,R v b→∃ d,(∀ (a:Gam) (w:Zw),kF p a b w→kF p a d w)∧d.next=b.next∧l v d):dR p f args h l:=
 λa w j i=>⟨(k a w j i).1,λF x n S y=>(k a w j i).2 F x n S λv b c w' t q z o g e=>by
  obtain ⟨d,r,s,m⟩:=u v b t
  exact y v d c w' m q Z0 o (r c w' g) (by rw[s];exact e)⟩
theorem jI.back {f:FuncId}{args:List Z6}{σ:jA}{R i:Z6→jA→Prop}(I:jI p H f args σ R)
  (B:∀ d σ',R d σ'→i d σ'∨∃ b c e cs ds fr0,σ'.lo≤b∧b<σ'.next∧c<σ'.next∧σ'.lo≤c∧σ'.get b=some (kJ c e cs)∧σ'.get c=some ⟨.cells ⟨cs++ds⟩ e fr0,true⟩∧cs.all one=true∧jY (cs++ds)=true∧jY cs=true∧i d ((σ'.put c dead).put b (O cs e true))) :
  jI p H f args σ i:=by
 intro g h vs m F o
 refine dR.ghost (I g h vs m F o) ?_
 rintro u A ⟨d,σ',l,g',x,r,v,E⟩
 rcases B d σ' l with j|⟨b,c,e,cs,ds,fr0,q1,q2,q3,C,q,s,y,t,w,a⟩
 ·exact ⟨A,λ_ _ h=>h,rfl,d,σ',j,g',x,r,v,E⟩
 ·obtain ⟨j,z,n,k,D⟩:=dR2 r q1 q q2 q3 C s y t w
  exact ⟨j,z p,n,d,_,a,g',x.trans k,D,v.ext (k.e0 r),λe=>by cases e⟩
end
structure eW (σ:jA)(e:Nat)(a:Z8 Addr)(n c:Nat)(cs:List Z6):Prop where
 hlen:cs.length=n
 hat:(a=none∧n=0∧c=0)∨∃ b,a=some ⟨b,0,none⟩∧σ.lo≤b∧b<σ.next∧σ.get b=some (O cs e true)∧c=UC∧0<n
theorem eW.nil (σ:jA)(e:Nat):eW σ e none 0 0 []:=⟨rfl,.inl ⟨rfl,rfl,rfl⟩⟩
theorem eW.grew {σ σ':jA}{S:Nat→Prop}{e n:Nat}{a:Z8 Addr}{c:Nat}{cs:List Z6}(h:eW σ e a n c cs)(g:jC σ σ' S)(l:∀ b,blk a b→¬ S b):eW σ' e a n c cs:=by
 refine ⟨h.hlen,?_⟩
 rcases h.hat with h0|⟨b,d,i,f,j,k⟩
 ·exact .inl h0
 ·exact .inr ⟨b,d,by rw[g.lo];exact i,Nat.lt_of_lt_of_le f g.next,(g.get b f (l b ⟨0,none,d⟩)).trans j,k⟩
def zU0 (σ:jA)(e:Nat)(a:Z8 Addr)(cs xs:List Z6):jA:=match a with
 | none=>σ.add (O (cs++xs) e true)
 | some ⟨b,_,_⟩=>{ t:=(σ.t.put σ.next (O (cs++xs) e true)).put b (kJ σ.next e cs),next:=σ.next+1,lo:=σ.lo }
theorem kV0 (σ:jA)(e:Nat)(a:Z8 Addr)(cs xs:List Z6):(zU0 σ e a cs xs).next=σ.next+1:=by
 unfold zU0;split
 ·exact jB _
 ·rfl
theorem fP0 (σ:jA)(e:Nat)(a:Z8 Addr)(cs xs:List Z6):(zU0 σ e a cs xs).lo=σ.lo:=by
 unfold zU0;split
 ·exact jP _
 ·rfl
theorem gT2 {σ:jA}{e by_:Nat}{a:Z8 Addr}{n c:Nat}{cs:List Z6}(f:eW σ e a n c cs){x:Z6}(k:one x=true)(g:(n+1)*by_≤140737488355328∧(n+1)<100000000000000) :
  apS e 1 by_ (.slice a n c) (some (1,[x])) σ=some (.slice (some ⟨σ.next,0,none⟩) (n+1) UC,zU0 σ e a cs [x]):=by
 have h:[x].all one=true:=by simp[k]
 rcases f.hat with ⟨rfl,rfl,rfl⟩|⟨b,rfl,i,o,j,rfl,m⟩
 ·have d:cs=[]:=List.length_eq_zero_iff.1 (by rw[f.hlen])
  subst d
  exact tC0 _ _ _ h Z0 (by simpa using g)
 ·have l:cells σ b=some (cs,e,true):=by unfold Ev.cells;rw[j];rfl
  show (if [x].all one=true then (match cells σ b with
   | some (cs,e',mo)=>if e'=e∧σ.lo≤b∧cs.length=n*1∧(n+1)*by_≤140737488355328∧(n+1)<100000000000000 then
    (if mo=true∧UC=UC then some (Value.slice (some ⟨σ.next,0,none⟩) (n+1) UC,{ t:=(σ.t.put σ.next (O (cs++[x]) e true)).put b (kJ σ.next e cs),next:=σ.next+1,lo:=σ.lo })
     else if mo=false∧UC=n then (if 1=0 then some (Value.slice (some ⟨b,0,none⟩) n UC,σ) else some (Value.slice (some ⟨σ.next,0,none⟩) (n+1) UC,σ.add (O (cs++[x]) e true)))
     else none)
   else none
   | none=>none) else none)=_
  rw[if_pos h,l]
  dsimp only
  rw[if_pos ⟨rfl,i,by rw[f.hlen,Nat.mul_one],g⟩,if_pos ⟨rfl,rfl⟩]
  rfl
theorem bB1 {σ:jA}{e:Nat}{a:Z8 Addr}{n c:Nat}{cs:List Z6}(f:eW σ e a n c cs)(d:σ.lo≤σ.next)(x:Z6):eW (zU0 σ e a cs [x]) e (some ⟨σ.next,0,none⟩) (n+1) UC (cs++[x]):=by
 refine ⟨by simp[f.hlen],.inr ⟨σ.next,rfl,by rw[fP0];exact d,by rw[kV0];omega,?_,rfl,Z0⟩⟩
 rcases f.hat with ⟨rfl,rfl,rfl⟩|⟨b,rfl,g,k,j,rfl,i⟩
 ·exact bM _ _ rfl
 ·have:=jI0 (h:=σ) (b:=b) (x':=O (cs++[x]) e true) (y:=kJ σ.next e cs) σ.next
  rw[if_neg Z0,if_pos rfl] at this
  exact this
theorem eB0 {σ:jA}{e:Nat}{a:Z8 Addr}{n c:Nat}{cs:List Z6}(f:eW σ e a n c cs)(xs:List Z6):jC σ (zU0 σ e a cs xs) (blk a):=by
 refine ⟨by rw[kV0];omega,fP0 _ _ _ _ _,λj m d=>?_⟩
 rcases f.hat with ⟨rfl,rfl,rfl⟩|⟨b,rfl,g,l,k,rfl,i⟩
 ·exact kP _ _ Z0
 ·have:=jI0 (h:=σ) (b:=b) (x':=O (cs++xs) e true) (y:=kJ σ.next e cs) j
  rw[if_neg (λe=>d ⟨0,none,by rw[e]⟩),if_neg Z0] at this
  exact this
def sR (R:jH→S→Prop)(e:jH)(s:S):Prop:=match e with | .goto _=>False|e=>R e s
theorem kR_Sn {R:jH→S→Prop}{s:S}:@kR ⟨sR R⟩ .normal s=R .normal s:=propext Iff.rfl
theorem kR_Sr {R:jH→S→Prop}{s:S}:@kR ⟨sR R⟩ .ret s=R .ret s:=propext Iff.rfl
theorem kR_Se {R:jH→S→Prop}{s:S}(i:Nat):@kR ⟨sR R⟩ (.exit i) s=R (.exit i) s:=propext Iff.rfl
attribute [push_cast] kR_Sn kR_Sr kR_Se
theorem WinD.of {p:Par}{q:Q}(jS:uW0 p){ro:Z8 Nat}{b c:Code}{d:IR}{D:S}{R:jH→S→Prop}(v:comp p.P c=d)(m:eA p.NG d=true)(h:dc3 p q ro d D (@kR ⟨sR R⟩)):WinD p q.H ro b c D R:=by
 intro g s r k t f
 refine gJ0 jS v ?_
 rw[jU0] at h
 refine bU _ _ _ _ (λe w u=>?_) (jT0 d m r k t f h)
 obtain ⟨g',o,a,n,j⟩:=u
 cases e with
 | goto l=>exact a.elim
 | normal=>exact ⟨g',o,a,n,j⟩
 | ret=>exact ⟨g',o,a,n,j⟩
 | exit i=>exact ⟨g',o,a,n,j⟩
theorem dS2 {σ:jA}{e k by_ b n m:Nat}{cs xs:List Z6}(f:cells σ b=some (cs,e,false))(c:σ.lo≤b)(h:cs.length=n*k)(a:xs.all one=true)(g:0<m)(d:(n+m)*by_≤140737488355328∧(n+m)<100000000000000) :
  apS e k by_ (.slice (some ⟨b,0,none⟩) n n) (some (m,xs)) σ=some (.slice (some ⟨σ.next,0,none⟩) (n+m) UC,σ.add (O (cs++xs) e true)):=by
 show (if xs.all one = true then (match cells σ b with
   | some (cs,e',mo)=>if e'=e∧σ.lo≤b∧cs.length=n*k∧(n+m)*by_≤140737488355328∧(n+m)<100000000000000 then
    (if mo=true∧n=UC then some (Value.slice (some ⟨σ.next,0,none⟩) (n+m) UC,{ t:=(σ.t.put σ.next (O (cs++xs) e true)).put b (kJ σ.next e cs),next:=σ.next+1,lo:=σ.lo })
     else if mo=false∧n=n then (if m=0 then some (Value.slice (some ⟨b,0,none⟩) n n,σ) else some (Value.slice (some ⟨σ.next,0,none⟩) (n+m) UC,σ.add (O (cs++xs) e true)))
     else none)
   else none
   | none=>none) else none)=_
 rw[if_pos a,f]
 dsimp only
 rw[if_pos ⟨rfl,c,h,d⟩,if_neg (by simp),if_pos ⟨rfl,rfl⟩,if_neg Z0]
def Frz (D D':S):Prop:=∀ (g:Gh) (s:S),SRel g D s→∃ g',Ext g D.h s.h g' D'.h s.h∧SRel g' D' s
theorem jM3 {D:S}{i k:Nat}{cs:List Z6}{e:Nat}{m:Zb}(w:D.h.lo≤i)(f:i<D.h.next)(A:D.h.get i=some (O cs e m))(K:0<cs.length)(E:k<D.tm.sz)(I:D.tm.get k=.pointer (some ⟨i,0,none⟩)) :
  Frz D ⟨D.tm.set k (Rpt 0 cs),D.df,cA (λj=>!Nat.beq j i) D.h⟩:=by
 intro g s u
 have d:=u.r
 have c:bQ D.h i:=d.own f w A
 have z:∀ j,(!Nat.beq j i)=true↔j≠i:=λj=>by
  constructor
  ·rintro h rfl;simp at h
  ·intro h
   cases a:Nat.beq j i with
   | false=>rfl
   | true=>exact absurd (Nat.eq_of_beq_eq_true a) h
 have J:=d.flt (λj=>!Nat.beq j i) (λj l=>(z j).2 Z0) (F':=λb=>g.F b∨b=g.δ i) (λb a=>by
  rcases a with a|rfl
  ·exact ⟨(d.frz b a).1,λj l _=>(d.frz b a).2 j l⟩
  ·exact ⟨d.dlt i f,λj l x e=>(z j).1 x (d.inj j i l c e)⟩) (λb a=>.inl a)
 have v:Ext g D.h s.h { g with F:=λb=>g.F b∨b=g.δ i } (cA (λj=>!Nat.beq j i) D.h) s.h:=
  ⟨rfl,rfl,Z3 _,rfl,Z3 _,rfl,λ_ _=>rfl,λ_ a=>.inl a,λb a=>by
   rcases a with a|rfl
   ·exact .inl a
   ·exact .inr (.inr ⟨i,c,rfl⟩),λ_ _ _=>rfl,λj l=>.inl (eO l).1⟩
 refine ⟨_,v,J,?_,u.df,u.dl⟩
 have n:=u.t.ext (v.e0 d)
 obtain ⟨vs,M,C,h0,B,L⟩:=d.obj i _ f A
 have y:=n.get k
 rw[I] at y
 simp only[RV,Option.map_some,ren] at y
 refine ⟨by rw[VT.set_sz];exact n.sz,by rw[VT.set_sz];exact n.sU,λj=>?_⟩
 rw[VT.get_set n.sU]
 by_cases q:k=j
 ·subst q
  rw[if_pos rfl,if_pos E,y.2]
  refine RV.mkRpt (o:=0) (off:=0) (B.ext (v.e0 d)) ⟨Sl.row C (d.dlo i c),λb a=>?_⟩ (by rw[B.len];exact K)
  obtain ⟨o,s',e⟩:=a
  cases e
  exact ⟨d.dlt i f,.inr rfl⟩
 ·rw[if_neg q]
  exact n.get j
theorem bR2 (σ:jA)(i:Nat):jC σ (cA (λj=>!Nat.beq j i) σ) (λk=>k=i):=by
 refine ⟨Z3 _,rfl,λj _ a=>?_⟩
 rw[eP,if_pos]
 cases h:Nat.beq j i with
 | false=>rfl
 | true=>exact absurd (Nat.eq_of_beq_eq_true h) a
def iW0 (p:Par)(q:Q)(l:Nat)(c:IR)(K:Zb→Z6→jA→Prop)(e:jH)(a:S):Prop:=
 match e with
 | .normal=>match kO a.h l with
  | some b=>b.state=.ready∧∃ D',Frz ⟨a.tm,a.df,jJ a.h l { b with state:=.busy }⟩ D'∧dc3 p q (some l) c D' (@kR ⟨dY l K⟩)
  | none=>False
 | _=>False
theorem jD.yieldG {p:Par}{q:Q}{σ:jA}(jS:uW0 p){l:Nat}{r:Loop}{args:List Z6}{K:Zb→Z6→jA→Prop}{T:VT}{o b:IR}(hl:kO σ l=some r)(u:l<σ.next)(hT:r.tmps=T.arr)(hU:T.sz<U)(N:args.length=r.params.toList.length)
  (ha:comp p.P r.assign=o) (hb:comp p.P r.body=b) (M:eA p.NG o=true) (Z:eA p.NG b=true) (V:p.NG≤σ.lo) (hv:dc3 p q (some l) o ⟨bI T (r.params.toList.zip args),[],σ⟩ (@kR ⟨iW0 p q l b K⟩)) :
  jD p q.H (.func (.yield l) ⟨[]⟩ ⟨[]⟩) args σ K:=by
 intro g h fv vs hP hr hf R
 simp only[RV,RVL,RowP] at hf
 obtain ⟨vs0,rfl,-,-,rfl⟩:=hf
 obtain ⟨hown,us,hgl,X,_⟩:=qJ0 hr hl u
 rw[hT] at X
 obtain ⟨T',hT',ht⟩:=lV2 hU X
 have E:vs.length=r.params.toList.length:=by rw[R.len];exact N
 show qA0 p (g.δ l) vs h _
 refine qA0.of hgl (T:=T') hT'.symm (by rw[ht.sz];exact hU) E (qM0 jS _ _ _ ?_)
 show vc p (some (g.δ l)) (comp p.P r.assign) _ _
 rw[ha]
 rw[jU0] at hv
 have hz:Tms g h σ.next (bI T (r.params.toList.zip args)) (bI T' (r.params.toList.zip vs)):=by
  refine kN0 ht ?_ ?_
  ·rw[List.map_fst_zip Z0,List.map_fst_zip Z0]
  ·rw[List.map_snd_zip Z0,List.map_snd_zip Z0];exact R
 have h1:=jT0 o M hP V (D:=⟨bI T (r.params.toList.zip args),[],σ⟩) (s:=⟨bI T' (r.params.toList.zip vs),[],h⟩) ⟨hr,hz,rfl,λd f=>by cases f⟩ (ro:=some l) (λl' e=>by cases e;exact u) hv
 refine bU _ _ _ _ (λe I hA=>?_) h1
 obtain ⟨Y,v,f,J,r1⟩:=hA
 have n:Y.δ l=g.δ l:=J.δ l u
 have m:l<v.h.next:=Nat.lt_of_lt_of_le u J.nn
 change iW0 p q l b K e v at f
 unfold iW0 at f
 unfold iV0
 cases e with
 | exit i=>exact f.elim
 | goto t=>exact f.elim
 | ret=>exact f.elim
 | normal=>
  dsimp only at f ⊢
  split at f
  ·rename_i a hg1
   obtain ⟨hst,D',hF,c⟩:=f
   obtain ⟨hown1,us1,A,hus1,F⟩:=qJ0 r1.r hg1 m
   rw[n] at A
   rw[A]
   refine ⟨hst,qM0 jS _ _ _ ?_⟩
   show vc p (some (g.δ l)) (comp p.P r.body) _ _
   rw[hb]
   obtain ⟨x2,x⟩:=F .busy a.pending
   rw[n] at x2 x
   rw[jU0] at c
   have hs2:SRel Y ⟨v.tm,v.df,jJ v.h l { a with state:=.busy }⟩ ⟨I.tm,I.df,jJ I.h (g.δ l) { a with tmps:=⟨us1⟩,defers:=Y.δ a.defers,state:=.busy }⟩:=
    r1.ext (D':=⟨v.tm,v.df,jJ v.h l { a with state:=.busy }⟩) (s':=⟨I.tm,I.df,jJ I.h (g.δ l) { a with tmps:=⟨us1⟩,defers:=Y.δ a.defers,state:=.busy }⟩) x2 x (r1.t.ext (x2.e0 r1.r)) rfl rfl
   obtain ⟨gF,xF,hs3⟩:=hF Y _ hs2
   have k:l<D'.h.next:=Nat.lt_of_lt_of_le m xF.nn
   have y:gF.δ l=g.δ l:=(xF.δ l m).trans n
   have h2:=jT0 b Z (xF.ok (J.ok hP)) (D:=D') (by rw[xF.lo];show p.NG≤v.h.lo;rw[J.lo];exact V) hs3 (ro:=some l) (λl' e=>by cases e;exact k) c
   rw[Option.map_some,y] at h2
   refine bU _ _ _ _ (λe s2 hB=>?_) h2
   obtain ⟨g2,D2,j,x3,r2⟩:=hB
   have z:g2.δ l=g.δ l:=(x3.δ l k).trans y
   have L:l<D2.h.next:=Nat.lt_of_lt_of_le k x3.nn
   change dY l K e D2 at j
   unfold dY at j
   unfold qE1
   split at j
   ·rename_i r2' hg2
    obtain ⟨_,us2,B,_,C⟩:=qJ0 r2.r hg2 L
    rw[z] at B
    rw[B]
    dsimp only
    obtain ⟨x4,w⟩:=C (if e.jump.isNone then .ready else .done) e.jump
    rw[z] at x4 w
    exact ⟨false,_,_,j,g2,(((J.trans x2).trans xF).trans x3).trans x4,w,(by simp only[RV]),λe=>by cases e⟩
   ·exact j.elim
  ·exact f.elim
end
end Go.Dv
