/-
  A part of the proof: what the program's functions hand back,as theorems. No condition but those that each theorem names.
-/
import Derived.Test.YtejgmoenmbjidaaWg
set_option linter.unusedSimpArgs false
set_option linter.unusedVariables false
namespace Go.Proofs.Ytejgmoenmbjidaa
open Go Go.RowKit Go.Ev
noncomputable section
set_option maxRecDepth 100000
structure Pc (h:jB)(m:Nat)(cs:List Z6)(v:Z6):Prop where
 has:∃ a c,v=.slice a m c∧Sl h a cs∧∀ b,blk a b→b<h.next
theorem u56:Try.prog.underlying 56=some (.slice 81):=Z7
theorem s81:szT Try.prog 81=some 5:=Z7
theorem u57:Try.prog.underlying 57=some (.slice 62):=Z7
theorem s62:szT Try.prog 62=some 4:=Z7
theorem kL0 {T e n:Nat}(hu:Try.prog.underlying T=some (.slice e))(hz:szT Try.prog e=some n)(hn:0<n){h:jB}{a:Z8 Addr}{len c:Nat}{cs:List Z6}(o:Own h e n a len c cs)(hl:len<1000000)
  {lo hi:Z8 Z6} {l r:Nat} (hbd:∀ top,len≤top→bounds len top none hi lo=some (l,r,none)) (h1:l≤r) (h2:r≤len) :
  (∃ v,(∀ h',Gr h h'→slV Try.prog T (.slice a len c) lo hi none h'=some v)∧Pc h (r-l) ((cs.drop (l*n)).take ((r-l)*n)) v)∨
   l=len∧∃ v1 v2,(∀ h',Gr h h'→slV Try.prog T (.slice a len c) lo hi none h'=none∧tailV Try.prog T (.slice a len c) lo hi none h'=some (v1,v2))∧Pc h (r-l) ((cs.drop (l*n)).take ((r-l)*n)) v1∧Pc h (r-l) ((cs.drop (l*n)).take ((r-l)*n)) v2:=by
 have hcl:=o.hlen
 have hU:len<UC:=by unfold UC;omega
 rcases o.hat with ⟨rfl,rfl,rfl⟩|⟨b,m,rfl,b1,b2,hc,hm⟩
 ·left
  have e0:cs=[]:=List.length_eq_zero_iff.1 (by rw[hcl];simp)
  have hr:r=0:=Z0
  have hl0:l=0:=Z0
  subst hr hl0 e0
  refine ⟨.slice none 0 0,λh' _=>?_,⟨none,0,rfl,by simpa using Sl.nil h jR0,λb hb=>by obtain ⟨o,s,e⟩:=hb;cases e⟩⟩
  simp only[slV,kC,hu,hz,zA0 hU,hbd 0 (Z3 _)]
  rfl
 ·have hsub : Pc h (r - l) ((cs.drop (l * n)).take ((r - l) * n)) (.slice (some ⟨b, 0 + l * n, none⟩) (r - l) 0) → ∀ c2, Pc h (r - l) ((cs.drop (l * n)).take ((r - l) * n)) (.slice (some ⟨b, 0 + l * n, none⟩) (r - l) c2) := fun p c2 => by
   obtain ⟨a,c,e,q⟩:=p.has
   cases e
   exact ⟨_,_,rfl,q⟩
  have hs:Sl h (some ⟨b,0+l*n,none⟩) ((cs.drop (l*n)).take ((r-l)*n)):=by
   have:=Sl.sub o.sl (l*n) ((r-l)*n)
   rwa [show (some (⟨b,0,none⟩:Addr)).map (·.add (l*n))=some ⟨b,0+l*n,none⟩ from by rw[Option.map_some,addM]] at this
  have pc:∀ c2,Pc h (r-l) ((cs.drop (l*n)).take ((r-l)*n)) (.slice (some ⟨b,0+l*n,none⟩) (r-l) c2):=λc2=>⟨_,_,rfl,hs,λb' hb=>by obtain ⟨o,s,e⟩:=hb;cases e;exact b2⟩
  have pc0:l=len→∀ c2,Pc h (r-l) ((cs.drop (l*n)).take ((r-l)*n)) (.slice (some ⟨b,0,none⟩) (r-l) c2):=λe c2=>by
   have hr:r-l=0:=Z0
   rw[hr,Nat.zero_mul,List.take_zero]
   exact ⟨_,_,rfl,Sl.nil _ (bJ0 _ _),λb' hb=>by obtain ⟨o,s,e⟩:=hb;cases e;exact b2⟩
  rcases hm with ⟨rfl,rfl⟩|⟨rfl,rfl⟩
  ·have hcnd : (Nat.beq e e && Nat.ble UC UC && Nat.beq 0 ((UC - UC) * n) && Nat.blt 0 n && Nat.ble (0 + len * n) cs.length && Nat.blt len U) = true := by
    rw[Nat.sub_self,Nat.zero_mul,qT0 (show UC≤UC from Z3 _),qT0 (show 0+len*n≤cs.length by omega),zA0 (show len<U by unfold U;omega),zA0 hn,sD1 (rfl:e=e)]
    rfl
   have hpn:kC Try.prog T (some ⟨b,0,none⟩) len UC lo hi none=none:=by
    unfold kC
    simp only[hu,hz,qR1 (show ¬ UC<UC by omega)]
   by_cases hll:l<len
   ·left
    refine ⟨.slice (some ⟨b,0+l*n,none⟩) (r-l) (UC+l),λh' g=>?_,pc _⟩
    have hc':=Gr.cells g hc b2
    simp only[slV,hpn,kB,hu,hz,hc',hcnd,hbd len (Z3 _),zA0 hll,addM]
   ·right
    have e1:l=len:=Z0
    have e2:r=len:=Z0
    subst e1 e2
    have hb:=hbd _ (Z3 _)
    refine ⟨rfl,.slice (some ⟨b,0,none⟩) 0 0,.slice (some ⟨b,0+r*n,none⟩) 0 (UC+r),λh' g=>?_,by simpa using pc0 rfl 0,by simpa using pc (UC+r)⟩
    have hc':=Gr.cells g hc b2
    refine ⟨?_,?_⟩
    ·simp only[slV,hpn,kB,hu,hz,hc',hcnd,hb,qR1 (show ¬ r<r by omega),zG0 hb]
    ·simp only[tailV,hu,hz,hc',hb]
     rw[if_pos ⟨trivial,Z3 _,by rw[Nat.sub_self,Nat.zero_mul],hn,Z0,trivial,trivial,by unfold U;omega⟩]
  ·left
   by_cases hll:l=c
   ·refine ⟨.slice (some ⟨b,0,none⟩) (r-l) (c-l),λh' g=>?_,pc0 hll _⟩
    simp only[slV,kC,hu,hz,zA0 hU,hbd c (Z3 _),Option.getD_none,sD1 hll.symm]
   ·refine ⟨.slice (some ⟨b,0+l*n,none⟩) (r-l) (c-l),λh' g=>?_,pc _⟩
    simp only[slV,kC,hu,hz,zA0 hU,hbd c (Z3 _),Option.getD_none,sE1 (λe=>hll e.symm),Option.map_some,addM]
structure Xp where
 p:Nat
 av:Z8 Addr
 cv:Nat
 ao:Z8 Addr
 co:Nat
 af:Z8 Addr
 cf:Nat
 aa:Z8 Addr
 ca:Nat
def Xp.tg (q:Xp)(b:Nat):Nat→Prop
 | 0=>b=q.p
 | 1=>blk q.av b
 | 2=>blk q.ao b
 | 3=>blk q.af b
 | 4=>blk q.aa b
 | _=>False
def Xp.B (q:Xp)(b:Nat):Prop:=∃ i,q.tg b i
def xcs (q:Xp)(w:Wi):List Z6:=[.slice q.av w.vs.length q.cv,.slice q.ao w.op.length q.co,.slice q.af w.fl.length q.cf,.slice q.aa w.ap.length q.ca,.int .i64 w.ck]
structure XAt (h:jB)(q:Xp)(w:Wi):Prop where
 cell:cells h q.p=some (xcs q w,59,false)
 lo:h.lo≤q.p
 lt:∀ b i,q.tg b i→b<h.next
 vs:Sl h q.av (ivs w.vs)
 op:Own h 81 5 q.ao w.op.length q.co (rw opC w.op)
 fl:Own h 62 4 q.af w.fl.length q.cf (rw msC w.fl)
 ap:Own h 31 3 q.aa w.ap.length q.ca (rw evC w.ap)
 sep:∀ b i j,q.tg b i→q.tg b j→i=j
theorem XAt.grew {h h':jB}{S:Nat→Prop}{q:Xp}{w:Wi}(a:XAt h q w)(g:jI h h' S)(hS:∀ b,q.B b→¬ S b):XAt h' q w:=
 ⟨g.cellsE a.cell (a.lt _ 0 rfl) (hS _ ⟨0,rfl⟩),by rw[g.lo];exact a.lo,λb i hb=>Nat.lt_of_lt_of_le (a.lt b i hb) g.next,
  Sl.grew a.vs g λb hb _=>⟨a.lt b 1 hb,hS b ⟨1,hb⟩⟩,a.op.grew g λb hb _=>hS b ⟨2,hb⟩,a.fl.grew g λb hb _=>hS b ⟨3,hb⟩,a.ap.grew g λb hb _=>hS b ⟨4,hb⟩,a.sep⟩
theorem kE {h:jB}{q:Xp}{w:Wi}(a:XAt h q w):q.p<h.next:=a.lt _ 0 rfl
theorem mS0 {q:Xp}{a:Z8 Addr}{c b i:Nat}(hi:i≠2)(ht:({ q with ao:=a,co:=c }:Xp).tg b i):q.tg b i:=by
 rcases i with _|_|_|_|_|i
 ·exact ht
 ·exact ht
 ·exact absurd rfl hi
 ·exact ht
 ·exact ht
 ·exact ht
theorem XAt.setO {h h2:jB}{q:Xp}{w:Wi}(a:XAt h q w){ao:Z8 Addr}{co:Nat}{op:List Opn}(g:jI h h2 (λb=>b=q.p∨blk q.ao b))(hc:cells h2 q.p=some (xcs { q with ao:=ao,co:=co } { w with op:=op },59,false))(o:Own h2 81 5 ao op.length co (rw opC op))(hb:∀ b,blk ao b→blk q.ao b∨h.next≤b) :
  XAt h2 { q with ao:=ao,co:=co } { w with op:=op }:=by
 have hS:∀ b i,i≠0→i≠2→q.tg b i→¬ (b=q.p∨blk q.ao b):=λb i h0 h2 ht e=>by
  rcases e with e|e
  ·exact h0 (a.sep b i 0 ht e)
  ·exact h2 (a.sep b i 2 ht e)
 have key:∀ b i,i≠2→({ q with ao:=ao,co:=co }:Xp).tg b i→q.tg b i∧b<h.next:=λb i hi ht=>⟨mS0 hi ht,a.lt b i (mS0 hi ht)⟩
 refine ⟨hc,by rw[g.lo];exact a.lo,λb i ht=>?_,Sl.grew a.vs g λb hb _=>⟨a.lt b 1 hb,hS b 1 Z1 Z1 hb⟩,o,a.fl.grew g λb hb _=>hS b 3 Z1 Z1 hb,a.ap.grew g λb hb _=>hS b 4 Z1 Z1 hb,λb i j hi hj=>?_⟩
 ·by_cases e:i=2
  ·subst e
   rcases o.hat with ⟨e1,_⟩|⟨b',m,e1,_,h3,_⟩
   ·have hh:blk ao b:=ht
    obtain ⟨o',s,e'⟩:=hh;rw[e1] at e';cases e'
   ·have hh:blk ao b:=ht
    obtain ⟨o',s,e'⟩:=hh;rw[e1] at e';cases e';exact h3
  ·exact Nat.lt_of_lt_of_le (key b i e ht).2 g.next
 ·by_cases ei:i=2
  ·by_cases ej:j=2
   ·rw[ei,ej]
   ·subst ei
    obtain ⟨k1,k2⟩:=key b j ej hj
    rcases hb b hi with h1|h1
    ·exact a.sep b 2 j h1 k1
    ·omega
  ·by_cases ej:j=2
   ·subst ej
    obtain ⟨k1,k2⟩:=key b i ei hi
    rcases hb b hj with h1|h1
    ·exact a.sep b i 2 k1 h1
    ·omega
   ·exact a.sep b i j (key b i ei hi).1 (key b j ej hj).1
theorem cA1 {q:Xp}{a:Z8 Addr}{c b i:Nat}(hi:i≠3)(ht:({ q with af:=a,cf:=c }:Xp).tg b i):q.tg b i:=by
 rcases i with _|_|_|_|_|i
 ·exact ht
 ·exact ht
 ·exact ht
 ·exact absurd rfl hi
 ·exact ht
 ·exact ht
theorem XAt.setF {h h2:jB}{q:Xp}{w:Wi}(a:XAt h q w){af:Z8 Addr}{cf:Nat}{fl:List Msg}(g:jI h h2 (λb=>b=q.p∨blk q.af b))(hc:cells h2 q.p=some (xcs { q with af:=af,cf:=cf } { w with fl:=fl },59,false))(o:Own h2 62 4 af fl.length cf (rw msC fl))(hb:∀ b,blk af b→blk q.af b∨h.next≤b) :
  XAt h2 { q with af:=af,cf:=cf } { w with fl:=fl }:=by
 have hS:∀ b i,i≠0→i≠3→q.tg b i→¬ (b=q.p∨blk q.af b):=λb i h0 h2 ht e=>by
  rcases e with e|e
  ·exact h0 (a.sep b i 0 ht e)
  ·exact h2 (a.sep b i 3 ht e)
 have key:∀ b i,i≠3→({ q with af:=af,cf:=cf }:Xp).tg b i→q.tg b i∧b<h.next:=λb i hi ht=>⟨cA1 hi ht,a.lt b i (cA1 hi ht)⟩
 refine ⟨hc,by rw[g.lo];exact a.lo,λb i ht=>?_,Sl.grew a.vs g λb hb _=>⟨a.lt b 1 hb,hS b 1 Z1 Z1 hb⟩,a.op.grew g λb hb _=>hS b 2 Z1 Z1 hb,o,a.ap.grew g λb hb _=>hS b 4 Z1 Z1 hb,λb i j hi hj=>?_⟩
 ·by_cases e:i=3
  ·subst e
   rcases o.hat with ⟨e1,_⟩|⟨b',m,e1,_,h3,_⟩
   ·have hh:blk af b:=ht
    obtain ⟨o',s,e'⟩:=hh;rw[e1] at e';cases e'
   ·have hh:blk af b:=ht
    obtain ⟨o',s,e'⟩:=hh;rw[e1] at e';cases e';exact h3
  ·exact Nat.lt_of_lt_of_le (key b i e ht).2 g.next
 ·by_cases ei:i=3
  ·by_cases ej:j=3
   ·rw[ei,ej]
   ·subst ei
    obtain ⟨k1,k2⟩:=key b j ej hj
    rcases hb b hi with h1|h1
    ·exact a.sep b 3 j h1 k1
    ·omega
  ·by_cases ej:j=3
   ·subst ej
    obtain ⟨k1,k2⟩:=key b i ei hi
    rcases hb b hj with h1|h1
    ·exact a.sep b i 3 k1 h1
    ·omega
   ·exact a.sep b i j (key b i ei hi).1 (key b j ej hj).1
theorem cB1 {q:Xp}{a:Z8 Addr}{c b i:Nat}(hi:i≠4)(ht:({ q with aa:=a,ca:=c }:Xp).tg b i):q.tg b i:=by
 rcases i with _|_|_|_|_|i
 ·exact ht
 ·exact ht
 ·exact ht
 ·exact ht
 ·exact absurd rfl hi
 ·exact ht
theorem XAt.setA {h h2:jB}{q:Xp}{w:Wi}(a:XAt h q w){aa:Z8 Addr}{ca:Nat}{ap:List Evt}(g:jI h h2 (λb=>b=q.p∨blk q.aa b))(hc:cells h2 q.p=some (xcs { q with aa:=aa,ca:=ca } { w with ap:=ap },59,false))(o:Own h2 31 3 aa ap.length ca (rw evC ap))(hb:∀ b,blk aa b→blk q.aa b∨h.next≤b) :
  XAt h2 { q with aa:=aa,ca:=ca } { w with ap:=ap }:=by
 have hS:∀ b i,i≠0→i≠4→q.tg b i→¬ (b=q.p∨blk q.aa b):=λb i h0 h2 ht e=>by
  rcases e with e|e
  ·exact h0 (a.sep b i 0 ht e)
  ·exact h2 (a.sep b i 4 ht e)
 have key:∀ b i,i≠4→({ q with aa:=aa,ca:=ca }:Xp).tg b i→q.tg b i∧b<h.next:=λb i hi ht=>⟨cB1 hi ht,a.lt b i (cB1 hi ht)⟩
 refine ⟨hc,by rw[g.lo];exact a.lo,λb i ht=>?_,Sl.grew a.vs g λb hb _=>⟨a.lt b 1 hb,hS b 1 Z1 Z1 hb⟩,a.op.grew g λb hb _=>hS b 2 Z1 Z1 hb,a.fl.grew g λb hb _=>hS b 3 Z1 Z1 hb,o,λb i j hi hj=>?_⟩
 ·by_cases e:i=4
  ·subst e
   rcases o.hat with ⟨e1,_⟩|⟨b',m,e1,_,h3,_⟩
   ·have hh:blk aa b:=ht
    obtain ⟨o',s,e'⟩:=hh;rw[e1] at e';cases e'
   ·have hh:blk aa b:=ht
    obtain ⟨o',s,e'⟩:=hh;rw[e1] at e';cases e';exact h3
  ·exact Nat.lt_of_lt_of_le (key b i e ht).2 g.next
 ·by_cases ei:i=4
  ·by_cases ej:j=4
   ·rw[ei,ej]
   ·subst ei
    obtain ⟨k1,k2⟩:=key b j ej hj
    rcases hb b hi with h1|h1
    ·exact a.sep b 4 j h1 k1
    ·omega
  ·by_cases ej:j=4
   ·subst ej
    obtain ⟨k1,k2⟩:=key b i ei hi
    rcases hb b hj with h1|h1
    ·exact a.sep b i 4 k1 h1
    ·omega
   ·exact a.sep b i j (key b i ei hi).1 (key b j ej hj).1
theorem XAt.setC {h h2:jB}{q:Xp}{w:Wi}(a:XAt h q w){ck:Int}(g:jI h h2 (λb=>b=q.p))(hc:cells h2 q.p=some (xcs q { w with ck:=ck },59,false)):XAt h2 q { w with ck:=ck }:=by
 have hS:∀ b i,i≠0→q.tg b i→¬ b=q.p:=λb i h0 ht e=>h0 (a.sep b i 0 ht e)
 exact ⟨hc,by rw[g.lo];exact a.lo,λb i ht=>Nat.lt_of_lt_of_le (a.lt b i ht) g.next,Sl.grew a.vs g λb hb _=>⟨a.lt b 1 hb,hS b 1 Z1 hb⟩,a.op.grew g λb hb _=>hS b 2 Z1 hb,a.fl.grew g λb hb _=>hS b 3 Z1 hb,a.ap.grew g λb hb _=>hS b 4 Z1 hb,a.sep⟩
structure qB0 (h:jB)(q:Xp)(w':Wi)(h':jB):Prop where
 has:∃ q',q'.p=q.p∧XAt h' q' w'∧∀ b,q'.B b→q.B b∨h.next≤b
 gr:jI h h' q.B
variable (G:Nat) (h:jB)
theorem cX0 {α:Type}{f:α→List Z6}{n:Nat}(hf:∀ x,(f x).length=n){l:List α}{i j:Nat}{x:α}(hx:l[i]?=some x)(hj:j<n):(rw f l)[i*n+j]?=(f x)[j]?:=by
 have h1:=cY0 hf hx
 rw[← h1,List.getElem?_take,if_pos hj,List.getElem?_drop]
theorem kQ0 {α:Type}{f:α→List Z6}{n e c:Nat}{h:jB}{a:Z8 Addr}{l:List α}(o:Own h e n a l.length c (rw f l))(hf:∀ x,(f x).length=n){i j:Nat}{x:α}{v:Z6}(hx:l[i]?=some x)(hj:j<n)(hv:(f x)[j]?=some v){t:Zt}(hk:knd Try.prog t=some (false,0)) :
  ∃ b,a=some ⟨b,0,none⟩∧ldC (some (false,0)) (i*n+j) h.lo b (cells h b)=some v:=by
 obtain ⟨b,off,e1,hl⟩:=Sl.load o.sl hk (i:=i*n+j) (v:=v) (by rw[cX0 hf hx hj,hv])
 have hoff:off=0:=by
  rcases o.hat with ⟨e2,_⟩|⟨b',m,e2,_⟩<;>(rw[e2] at e1;cases e1)
  rfl
 subst hoff
 rw[bG,hk,Nat.zero_add] at hl
 exact ⟨b,e1,hl⟩
def fnd (k:Int):List Opn→Nat
 | []=>0
 | o :: l=>if o.key<k then fnd k l+1 else 0
theorem jL1 (k:Int):∀ l:List Opn,fnd k l≤l.length
 | []=>Z3 _
 | o :: l=>by
  have:=jL1 k l
  rw[fnd,List.length_cons]
  split<;>omega
theorem jN1 (k:Int):∀ (l:List Opn) (i:Nat) (o:Opn),l[i]?=some o→(i<fnd k l→o.key<k)∧(i=fnd k l→¬ o.key<k)
 | [],i,o,h=>by simp at h
 | x :: l,0,o,h=>by
  simp at h
  subst h
  rw[fnd]
  split<;>simp<;>omega
 | x :: l,i+1,o,h=>by
  have h2:=jN1 k l i o (by simpa using h)
  rw[fnd]
  split
  ·exact ⟨λe=>h2.1 Z0,λe=>h2.2 Z0⟩
  ·exact ⟨λe=>by omega,λe=>by omega⟩
theorem jM1 (x:Opn):∀ l:List Opn,insK x l=l.take (fnd x.key l)++x :: l.drop (fnd x.key l)
 | []=>rfl
 | o :: l=>by
  rw[insK,fnd]
  split
  ·rw[List.take_succ_cons,List.drop_succ_cons,List.cons_append,← jM1 x l]
  ·rfl
def isK (k:Int)(l:List Opn):Zb:=match l[fnd k l]? with
 | some o=>decide (o.key=k)
 | none=>false
theorem yA0 (k:Int):∀ l:List Opn,Ris (l.map (·.key))→isK k l=gJ k l
 | [],_=>rfl
 | o :: l,h=>by
  unfold Ris at h
  rw[List.map_cons,List.pairwise_cons] at h
  have ih:=yA0 k l h.2
  unfold isK at ih ⊢
  rw[fnd,gJ]
  by_cases hk:o.key<k
  ·rw[if_pos hk,List.getElem?_cons_succ,ih,decide_eq_false (show ¬ k=o.key by omega),Bool.false_or]
  ·rw[if_neg hk,List.getElem?_cons_zero]
   by_cases e:o.key=k
   ·simp[e]
   ·have : gJ k l = false := by
     rw[Bool.eq_false_iff]
     intro hh
     obtain ⟨y,hy,e2⟩:=jU0.1 hh
     have:=h.1 y.key (List.mem_map.2 ⟨y,hy,rfl⟩)
     omega
    simp[e,this]
    omega
theorem jO1 (k:Int):∀ l:List Opn,isK k l=true→delK k l=l.take (fnd k l)++l.drop (fnd k l+1)
 | [],h=>by cases h
 | o :: l,h=>by
  unfold isK at h
  rw[delK]
  rw[fnd] at h ⊢
  by_cases hk:o.key<k
  ·rw[if_pos hk,List.getElem?_cons_succ] at h
   rw[if_pos hk,if_neg Z0,List.take_succ_cons,List.drop_succ_cons,List.cons_append,← jO1 k l h]
  ·rw[if_neg hk,List.getElem?_cons_zero] at h
   have:=of_decide_eq_true h
   rw[if_neg hk,if_pos this.symm]
   rfl
inductive I41 (h:jB)(p:Nat)(k:Int)(n f:Nat):Nat→S→Prop
 | mk {i:Nat} {iv:Int} {x2 x3 x4 x5 x7 x8 x9 xA xB xC xD xE xF xG xH xI xJ xK xL xM xN xO xP xQ xR xS xT xU xV xW xX xY xZ yA yB yC yD yE yF yG yH yI yJ yK yL yM yN:Z6}:iv=i→i≤f→I41 h p k n f (f-i) ⟨(F50 (.pointer (some ⟨p,0,none⟩)) (.int .i64 k) x2 x3 x4 x5 (.int .i64 iv) x7 x8 x9 xA xB xC xD xE xF xG xH xI xJ xK xL xM xN xO xP xQ xR xS xT xU xV xW xX xY xZ yA yB yC yD yE yF yG yH yI yJ yK yL yM yN),[],h⟩
theorem jP1 {q:Xp}{w:Wi}(a:XAt h q w)(hn:w.op.length<1000000)(k:Int):jG (pp G) 41 [.pointer (some ⟨q.p,0,none⟩),.int .i64 k] h (λv h'=>v=.tuple ⟨[.int .i64 (fnd k w.op),.bool (isK k w.op)]⟩∧h'=h):=by
 refine jG.fir4 (jW G) fir41 rfl rfl (lI1 ..) λhlo=>?_
 rw[dQ1]
 have hc:=a.cell
 have hl:=a.lo
 unfold xcs at hc
 have hfl:=jL1 k w.op
 simp(disch:=first|omega|(apply id;simp only[push_cast];first|done|omega))only[push_cast,Nat.reduceAdd,Nat.reduceMul,Nat.reduceSub,Nat.reduceLT,Nat.reduceEqDiff,Nat.reduceLeDiff,Int.reduceToNat,reduceCtorEq,Int.reduceLT,Int.reduceLE,Int.reduceAdd,Int.reduceSub,Int.reduceMul,Int.reduceNeg,Int.reduceEq]
 refine W.loop4 (jW G) (I41 h q.p k w.op.length (fnd k w.op)) ?_ _ _ (I41.mk (i:=0) rfl (Nat.zero_le _))
 intro kk0 s1 hI
 cases hI with|@mk i iv _ _ _ _ _ _ _ _ _ _ _ _ _ _ _ _ _ _ _ _ _ _ _ _ _ _ _ _ _ _ _ _ _ _ _ _ _ _ _ _ _ _ _ _ _ _ _ hiv hi=>
 subst hiv
 rw[nC0]
 by_cases h1:i<w.op.length
 ·have h1':(i:Int)<(w.op.length:Int):=Z0
  obtain ⟨o,ho⟩:∃ o,w.op[i]?=some o:=⟨_,List.getElem?_eq_getElem h1⟩
  obtain ⟨b,e1,ld⟩:=kQ0 a.op qD ho (j:=1) Z1 rfl bJ
  have hc':=hc
  rw[e1] at hc'
  have fg:=jN1 k w.op i o ho
  have w1:IntKind.i64.wrap ((i:Int)+1)=(i:Int)+1:=wrap_i64 Z0 Z0
  by_cases h2:o.key<k
  ·have hf:=fg.2
   have hi2:i≠fnd k w.op:=λe=>hf e h2
   simp(disch:=first|omega|(apply id;simp only[push_cast];first|done|omega))only[push_cast,Nat.reduceAdd,Nat.reduceMul,Nat.reduceSub,Nat.reduceLT,Nat.reduceEqDiff,Nat.reduceLeDiff,Int.reduceToNat,reduceCtorEq,Int.reduceLT,Int.reduceLE,Int.reduceAdd,Int.reduceSub,Int.reduceMul,Int.reduceNeg,Int.reduceEq,hc',hl,h1',Z4,ld,h2,w1]
   exact ⟨fnd k w.op-(i+1),Z0,I41.mk (i:=i+1) Z0 Z0⟩
  ·have hi2 : i = fnd k w.op := by
    have:=fg.1
    rcases Nat.lt_or_ge i (fnd k w.op) with e|e
    ·exact absurd (this e) h2
    ·omega
   have hz:isK k w.op=decide (o.key=k):=by unfold isK;rw[← hi2,ho]
   rw[hz,← hi2]
   simp(disch:=first|omega|(apply id;simp only[push_cast];first|done|omega))only[push_cast,Nat.reduceAdd,Nat.reduceMul,Nat.reduceSub,Nat.reduceLT,Nat.reduceEqDiff,Nat.reduceLeDiff,Int.reduceToNat,reduceCtorEq,Int.reduceLT,Int.reduceLE,Int.reduceAdd,Int.reduceSub,Int.reduceMul,Int.reduceNeg,Int.reduceEq,hc',hl,h1',Z4,ld,h2,w1]
 ·have h1':¬ (i:Int)<(w.op.length:Int):=Z0
  have hi2:i=fnd k w.op:=Z0
  have hz:isK k w.op=false:=by unfold isK;rw[List.getElem?_eq_none Z0]
  rw[hz,← hi2]
  simp(disch:=first|omega|(apply id;simp only[push_cast];first|done|omega))only[push_cast,Nat.reduceAdd,Nat.reduceMul,Nat.reduceSub,Nat.reduceLT,Nat.reduceEqDiff,Nat.reduceLeDiff,Int.reduceToNat,reduceCtorEq,Int.reduceLT,Int.reduceLE,Int.reduceAdd,Int.reduceSub,Int.reduceMul,Int.reduceNeg,Int.reduceEq,hc,hl,h1']
end
end Go.Proofs.Ytejgmoenmbjidaa
namespace Go.Proofs.Ytejgmoenmbjidaa
open Go Go.RowKit Go.Ev
noncomputable section
set_option maxRecDepth 100000
variable (G:Nat) (h:jB)
theorem zO0 {T e n by_:Nat}(hT:appT Try.prog T T=some (e,n,by_))(hn:0<n){h h1:jB}(g:Gr h h1)(hlo:h1.lo≤h1.next){a:Z8 Addr}{len c:Nat}{cs:List Z6}(o:Own h1 e n a len c cs)(hb:∀ b,blk a b→h.next≤b)
  {v:Z6} {m:Nat} {xs:List Z6} (p:Pc h m xs v) (hl:xs.length=m*n) (hf:∀ k,jT k xs=true) (hbd:(len+m)*by_≤140737488355328∧(len+m)<100000000000000) :
  ∃ a' c' h',jE Try.prog T T (.slice a len c) v h1=some (.slice a' (len+m) c',h')∧Own h' e n a' (len+m) c' (cs++xs)∧Gr h h'∧∀ b,blk a' b→h.next≤b:=by
 obtain ⟨av,cv,rfl,hs,hbv⟩:=p.has
 have hs1:=Sl.grew hs g λb hb _=>⟨hbv b hb,id⟩
 obtain ⟨a',c',h',e1,o1,g1,b1⟩:=gG (P:=Try.prog) hT o hlo (x:=.slice av m cv) (m:=m) (xs:=xs) rfl (Sl.src hs1 hl hn) hl (hf _) hbd
 have:=g.next
 refine ⟨a',c',h',e1,o1,g.tr' g1 λb hlt hb'=>by have:=hb b hb';omega,λb hb'=>?_⟩
 rcases b1 b hb' with h2|h2
 ·exact hb b h2
 ·omega
theorem qL0 {h:jB}(e n:Nat)(hlo:h.lo≤h.next):Own (h.add (O [] e false)) e n (some ⟨h.next,0,none⟩) 0 0 []∧Gr h (h.add (O [] e false))∧∀ b,blk (some ⟨h.next,0,none⟩) b→h.next≤b:=
 ⟨⟨by simp,rfl,.inr ⟨h.next,false,rfl,by rw[jS];exact hlo,by rw[jH];omega,jP _ _ _ _ rfl,.inr ⟨rfl,rfl⟩⟩⟩,jI.add _ _ _,λb hb=>by obtain ⟨o,s,e⟩:=hb;cases e;exact Z3 _⟩
theorem wX1 (h:jB):bsC 0 62 h (some (List.replicate 0 [Value.bool false,Value.string (Tx []),Value.int IntKind.i64 0,Value.int IntKind.i64 0]).flatten)=some (.slice (some ⟨h.next,0,none⟩) 0 0,h.add (O [] 62 false)):=eI0 _ _ _ rfl
theorem zS0 (h:jB):bsC 0 81 h (some (List.replicate 0 [Value.string (Tx []),Value.int IntKind.i64 0,Value.int IntKind.i64 0,Value.int IntKind.i64 0,Value.int IntKind.i64 0]).flatten)=some (.slice (some ⟨h.next,0,none⟩) 0 0,h.add (O [] 81 false)):=eI0 _ _ _ rfl
theorem wQ1 {α:Type}{f:α→List Z6}{n:Nat}(hf:∀ x,(f x).length=n)(l:List α)(k:Nat)(hk:k≤l.length):((rw f l).drop (0*n)).take ((k-0)*n)=rw f (l.take k):=by
 rw[Nat.zero_mul,List.drop_zero,Nat.sub_zero,fD0 hf]
theorem cW0 {α:Type}{f:α→List Z6}{n:Nat}(hf:∀ x,(f x).length=n)(l:List α)(k:Nat)(hk:k≤l.length):((rw f l).drop (k*n)).take ((l.length-k)*n)=rw f (l.drop k):=by
 rw[bN0 hf,List.take_of_length_le]
 rw[qE hf,List.length_drop]
 exact Z3 _
theorem qH0 {h:jB}{e n:Nat}{a:Z8 Addr}{len c:Nat}{cs:List Z6}(o:Own h e n a len c cs)(l2 c2:Nat):jT h.next [.slice a l2 c2]=true:=by
 rcases o.hat with ⟨rfl,_⟩|⟨b,m,rfl,_,h2,_⟩
 ·rfl
 ·exact gM _ _ _ (gN0 _ _ _ _ _ h2) rfl
theorem kB1 {α:Type}(l:List α)(i:Nat):l.eraseIdx i=l.take i++l.drop (i+1):=List.eraseIdx_eq_take_drop_succ l i
theorem eU0 {h h4:jB}{q:Xp}{w:Wi}(a:XAt h q w){a4:Z8 Addr}{n4 c4:Nat}{l4:List Opn}(g:jI h h4 (blk q.ao))(o:Own h4 81 5 a4 n4 c4 (rw opC l4))(hn:l4.length=n4)(hb:∀ b,blk a4 b→blk q.ao b∨h.next≤b) :
  qB0 h q { w with op:=l4 } (h4.put q.p (O [.slice q.av w.vs.length q.cv,.slice a4 n4 c4,.slice q.af w.fl.length q.cf,.slice q.aa w.ap.length q.ca,.int .i64 w.ck] 59 false)):=by
 subst hn
 have hne:∀ b,blk a4 b→¬ b=q.p:=λb hb' e=>by
  rcases hb b hb' with h1|h1
  ·have:=a.sep b 2 0 h1 e;omega
  ·have:=kE a;omega
 have gg:jI h (h4.put q.p (O [.slice q.av w.vs.length q.cv,.slice a4 l4.length c4,.slice q.af w.fl.length q.cf,.slice q.aa w.ap.length q.ca,.int .i64 w.ck] 59 false)) (λb=>b=q.p∨blk q.ao b):=(g.mono λb _ hb=>.inr hb).put'' _ _ λ_=>.inl rfl
 refine ⟨⟨{ q with ao:=a4,co:=c4 },rfl,a.setO gg (jO _ _ _ _) (o.grew ((jI.refl h4 _).put'' (S:=λb=>b=q.p) _ _ λ_=>rfl) λb hb' _ e=>hne b hb' e) hb,λb ⟨i,hi⟩=>?_⟩,gg.mono λb _ hb=>hb.elim (λe=>⟨0,e⟩) λe=>⟨2,e⟩⟩
 by_cases e3:i=2
 ·subst e3
  exact (hb b hi).imp (λh=>⟨2,h⟩) id
 ·exact .inl ⟨i,mS0 e3 hi⟩
theorem bD0 {h h4:jB}{q:Xp}{w:Wi}(a:XAt h q w){a4:Z8 Addr}{n4 c4:Nat}{l4:List Msg}(g:jI h h4 (blk q.af))(o:Own h4 62 4 a4 n4 c4 (rw msC l4))(hn:l4.length=n4)(hb:∀ b,blk a4 b→blk q.af b∨h.next≤b) :
  qB0 h q { w with fl:=l4 } (h4.put q.p (O [.slice q.av w.vs.length q.cv,.slice q.ao w.op.length q.co,.slice a4 n4 c4,.slice q.aa w.ap.length q.ca,.int .i64 w.ck] 59 false)):=by
 subst hn
 have hne:∀ b,blk a4 b→¬ b=q.p:=λb hb' e=>by
  rcases hb b hb' with h1|h1
  ·have:=a.sep b 3 0 h1 e;omega
  ·have:=kE a;omega
 have gg:jI h (h4.put q.p (O [.slice q.av w.vs.length q.cv,.slice q.ao w.op.length q.co,.slice a4 l4.length c4,.slice q.aa w.ap.length q.ca,.int .i64 w.ck] 59 false)) (λb=>b=q.p∨blk q.af b):=(g.mono λb _ hb=>.inr hb).put'' _ _ λ_=>.inl rfl
 refine ⟨⟨{ q with af:=a4,cf:=c4 },rfl,a.setF gg (jO _ _ _ _) (o.grew ((jI.refl h4 _).put'' (S:=λb=>b=q.p) _ _ λ_=>rfl) λb hb' _ e=>hne b hb' e) hb,λb ⟨i,hi⟩=>?_⟩,gg.mono λb _ hb=>hb.elim (λe=>⟨0,e⟩) λe=>⟨3,e⟩⟩
 by_cases e3:i=3
 ·subst e3
  exact (hb b hi).imp (λh=>⟨3,h⟩) id
 ·exact .inl ⟨i,cA1 e3 hi⟩
theorem cC1 {h h4:jB}{q:Xp}{w:Wi}(a:XAt h q w){a4:Z8 Addr}{n4 c4:Nat}{l4:List Evt}(g:jI h h4 (blk q.aa))(o:Own h4 31 3 a4 n4 c4 (rw evC l4))(hn:l4.length=n4)(hb:∀ b,blk a4 b→blk q.aa b∨h.next≤b) :
  qB0 h q { w with ap:=l4 } (h4.put q.p (O [.slice q.av w.vs.length q.cv,.slice q.ao w.op.length q.co,.slice q.af w.fl.length q.cf,.slice a4 n4 c4,.int .i64 w.ck] 59 false)):=by
 subst hn
 have hne:∀ b,blk a4 b→¬ b=q.p:=λb hb' e=>by
  rcases hb b hb' with h1|h1
  ·have:=a.sep b 4 0 h1 e;omega
  ·have:=kE a;omega
 have gg:jI h (h4.put q.p (O [.slice q.av w.vs.length q.cv,.slice q.ao w.op.length q.co,.slice q.af w.fl.length q.cf,.slice a4 l4.length c4,.int .i64 w.ck] 59 false)) (λb=>b=q.p∨blk q.aa b):=(g.mono λb _ hb=>.inr hb).put'' _ _ λ_=>.inl rfl
 refine ⟨⟨{ q with aa:=a4,ca:=c4 },rfl,a.setA gg (jO _ _ _ _) (o.grew ((jI.refl h4 _).put'' (S:=λb=>b=q.p) _ _ λ_=>rfl) λb hb' _ e=>hne b hb' e) hb,λb ⟨i,hi⟩=>?_⟩,gg.mono λb _ hb=>hb.elim (λe=>⟨0,e⟩) λe=>⟨4,e⟩⟩
 by_cases e3:i=4
 ·subst e3
  exact (hb b hi).imp (λh=>⟨4,h⟩) id
 ·exact .inl ⟨i,cB1 e3 hi⟩
theorem bR1 {q:Xp}{w:Wi}(a:XAt h q w)(hn:w.fl.length<100000)(i:Int) :
  jG (pp G) 18 [.pointer (some ⟨q.p,0,none⟩),.int .i64 i] h (λv h'=>v=.bool (decide (0≤i∧i<w.fl.length))∧qB0 h q (jX w i) h'):=by
 refine jG.fir4 (jW G) fir18 rfl rfl (lL1 ..) λhlo=>?_
 rw[eN1]
 have hc:=a.cell
 have hl:=a.lo
 unfold xcs at hc
 by_cases h0:i<0
 ·have hd:jX w i=w:=by unfold jX;rw[if_neg Z0]
  rw[hd,decide_eq_false (show ¬ (0≤i∧i<w.fl.length) by omega)]
  simp(disch:=first|omega|(apply id;simp only[push_cast];first|done|omega))only[push_cast,Nat.reduceAdd,Nat.reduceMul,Nat.reduceSub,Nat.reduceLT,Nat.reduceEqDiff,Nat.reduceLeDiff,Int.reduceToNat,reduceCtorEq,Int.reduceLT,Int.reduceLE,Int.reduceAdd,Int.reduceSub,Int.reduceMul,Int.reduceNeg,Int.reduceEq,h0]
  exact ⟨⟨q,rfl,a,λb hb=>.inl hb⟩,jI.refl _ _⟩
 by_cases h1:i<w.fl.length
 ·obtain ⟨j,rfl⟩:∃ j:Nat,i=(j:Int):=⟨i.toNat,Z0⟩
  have hd:jX w (j:Int)={ w with fl:=w.fl.take j++w.fl.drop (j+1) }:=by unfold jX;rw[if_pos ⟨Z0,h1⟩,Z4,kB1]
  rw[hd,decide_eq_true (show (0≤(j:Int)∧(j:Int)<w.fl.length) by omega)]
  have hge:¬ (j:Int) ≥ (w.fl.length:Int):=Z0
  have hwr:IntKind.i64.wrap ((j:Int)+1)=(j:Int)+1:=wrap_i64 Z0 Z0
  have hj1:((j:Int)+1)=((j+1:Nat):Int):=Z0
  rcases kL0 u57 s62 Z1 a.fl Z0 (hi:=some (.int .i64 j)) (lo:=none) (λtop ht=>kF0 Z0) (Nat.zero_le _) (show j≤_ by omega) with ⟨v1,k1,p1⟩|⟨e0,_⟩
  case inr=>omega
  rw[wQ1 qA _ _ Z0,Nat.sub_zero] at p1
  obtain ⟨o2,g2,b2⟩:=qL0 (h:=h) 62 4 hlo
  have hl2:(h.add (O [] 62 false)).lo≤(h.add (O [] 62 false)).next:=qK g2 hlo
  obtain ⟨a3,c3,h3,e3,o3,g3,b3⟩:=zO0 kH Z1 g2 hl2 o2 b2 p1 (by rw[qE qA,List.length_take];omega) (λk=>qW _ (kT _) _) (by constructor<;>omega)
  have hl3:=qK g3 hlo
  rw[Nat.zero_add] at e3 o3
  rw[List.nil_append] at o3
  have q2:=Gr.cells g2 hc (kE a)
  have q3:=Gr.cells g3 hc (kE a)
  have l2:=g2.lo
  have l3:=g3.lo
  rcases kL0 u57 s62 Z1 a.fl Z0 (lo:=some (.int .i64 (j+1:Nat))) (hi:=none) (λtop ht=>uE0 Z0) (show j+1≤w.fl.length by omega) (Z3 _) with ⟨v2,k2,p2⟩|⟨e0,v2,v2',k2,p2,p2'⟩
  ·rw[cW0 qA _ _ Z0] at p2
   rw[← hj1] at k2
   obtain ⟨a4,c4,h4,e4,o4,g4,b4⟩:=zO0 kH Z1 g3 hl3 o3 b3 p2 (by rw[qE qA,List.length_drop]) (λk=>qW _ (kT _) _) (by constructor<;>omega)
   have q4:=Gr.cells g4 hc (kE a)
   have hf4:=qH0 o4 (j+(w.fl.length-(j+1))) c4
   have l4':=g4.lo
   have hlq:h4.lo≤q.p:=Z0
   have hst:=kY (h:=h4) 1 2 (.slice a4 (j+(w.fl.length-(j+1))) c4) q.p [.slice q.av w.vs.length q.cv,.slice q.ao w.op.length q.co,.slice q.af w.fl.length q.cf,.slice q.aa w.ap.length q.ca,.int .i64 w.ck] 59 false rfl hf4 hlq (by show 2+1≤5;omega)
   rw[← kW] at o4
   have P:=bD0 a (g4.mono λ_ _ h=>h.elim) o4 (by rw[List.length_append,List.length_take,List.length_drop];omega) λb hb=>.inr (b4 b hb)
   simp(disch:=first|omega|(apply id;simp only[push_cast];first|done|omega))only[push_cast,Nat.reduceAdd,Nat.reduceMul,Nat.reduceSub,Nat.reduceLT,Nat.reduceEqDiff,Nat.reduceLeDiff,Int.reduceToNat,reduceCtorEq,Int.reduceLT,Int.reduceLE,Int.reduceAdd,Int.reduceSub,Int.reduceMul,Int.reduceNeg,Int.reduceEq,hc,hl,h0,h1,hge,hwr,k1 _ (Gr.refl h),k2 _ (Gr.refl h),k2 _ g2,k2 _ g3,k2 _ g4,wX1,k1 _ g2,k1 _ g3,k1 _ g4,e3,e4,q2,q3,q4,l2,l3,l4',hst,Option.map_some]
   exact P
  ·rw[cW0 qA _ _ Z0] at p2 p2'
   rw[← hj1] at k2
   obtain ⟨a4,c4,h4,e4,o4,g4,b4⟩:=zO0 kH Z1 g3 hl3 o3 b3 p2 (by rw[qE qA,List.length_drop]) (λk=>qW _ (kT _) _) (by constructor<;>omega)
   have q4:=Gr.cells g4 hc (kE a)
   have hf4:=qH0 o4 (j+(w.fl.length-(j+1))) c4
   have l4':=g4.lo
   have hlq:h4.lo≤q.p:=Z0
   have hst:=kY (h:=h4) 1 2 (.slice a4 (j+(w.fl.length-(j+1))) c4) q.p [.slice q.av w.vs.length q.cv,.slice q.ao w.op.length q.co,.slice q.af w.fl.length q.cf,.slice q.aa w.ap.length q.ca,.int .i64 w.ck] 59 false rfl hf4 hlq (by show 2+1≤5;omega)
   rw[← kW] at o4
   have P:=bD0 a (g4.mono λ_ _ h=>h.elim) o4 (by rw[List.length_append,List.length_take,List.length_drop];omega) λb hb=>.inr (b4 b hb)
   have sl2:=λh' g=>(k2 h' g).2
   have sl2':=λh' g=>(k2 h' g).1
   simp(disch:=first|omega|(apply id;simp only[push_cast];first|done|omega))only[push_cast,Nat.reduceAdd,Nat.reduceMul,Nat.reduceSub,Nat.reduceLT,Nat.reduceEqDiff,Nat.reduceLeDiff,Int.reduceToNat,reduceCtorEq,Int.reduceLT,Int.reduceLE,Int.reduceAdd,Int.reduceSub,Int.reduceMul,Int.reduceNeg,Int.reduceEq,hc,hl,h0,h1,hge,hwr,k1 _ (Gr.refl h),sl2 _ (Gr.refl h),sl2 _ g2,sl2 _ g3,sl2 _ g4,sl2' _ (Gr.refl h),sl2' _ g2,sl2' _ g3,sl2' _ g4,wX1,k1 _ g2,k1 _ g3,k1 _ g4,e3,e4,q2,q3,q4,l2,l3,l4',hst,Option.map_some]
   refine ⟨P,?_⟩
   obtain ⟨a5,c5,h5,e5,o5,g5,b5⟩:=zO0 kH Z1 g3 hl3 o3 b3 p2' (by rw[qE qA,List.length_drop]) (λk=>qW _ (kT _) _) (by constructor<;>omega)
   have q5:=Gr.cells g5 hc (kE a)
   have hf5:=qH0 o5 (j+(w.fl.length-(j+1))) c5
   have l5':=g5.lo
   have hlq':h5.lo≤q.p:=Z0
   have hst':=kY (h:=h5) 1 2 (.slice a5 (j+(w.fl.length-(j+1))) c5) q.p [.slice q.av w.vs.length q.cv,.slice q.ao w.op.length q.co,.slice q.af w.fl.length q.cf,.slice q.aa w.ap.length q.ca,.int .i64 w.ck] 59 false rfl hf5 hlq' (by show 2+1≤5;omega)
   rw[← kW] at o5
   have P':=bD0 a (g5.mono λ_ _ h=>h.elim) o5 (by rw[List.length_append,List.length_take,List.length_drop];omega) λb hb=>.inr (b5 b hb)
   simp(disch:=first|omega|(apply id;simp only[push_cast];first|done|omega))only[push_cast,Nat.reduceAdd,Nat.reduceMul,Nat.reduceSub,Nat.reduceLT,Nat.reduceEqDiff,Nat.reduceLeDiff,Int.reduceToNat,reduceCtorEq,Int.reduceLT,Int.reduceLE,Int.reduceAdd,Int.reduceSub,Int.reduceMul,Int.reduceNeg,Int.reduceEq,hc,hl,h0,h1,hge,hwr,k1 _ (Gr.refl h),sl2 _ (Gr.refl h),sl2 _ g2,sl2 _ g3,sl2 _ g5,sl2' _ (Gr.refl h),sl2' _ g2,sl2' _ g3,sl2' _ g5,wX1,k1 _ g2,k1 _ g3,k1 _ g5,e3,e5,q2,q3,q5,l2,l3,l5',hst',Option.map_some]
   exact P'
 ·have hd:jX w i=w:=by unfold jX;rw[if_neg Z0]
  have hge:i ≥ (w.fl.length:Int):=Z0
  rw[hd,decide_eq_false (show ¬ (0≤i∧i<w.fl.length) by omega)]
  simp(disch:=first|omega|(apply id;simp only[push_cast];first|done|omega))only[push_cast,Nat.reduceAdd,Nat.reduceMul,Nat.reduceSub,Nat.reduceLT,Nat.reduceEqDiff,Nat.reduceLeDiff,Int.reduceToNat,reduceCtorEq,Int.reduceLT,Int.reduceLE,Int.reduceAdd,Int.reduceSub,Int.reduceMul,Int.reduceNeg,Int.reduceEq,hc,hl,h0,hge]
  exact ⟨⟨q,rfl,a,λb hb=>.inl hb⟩,jI.refl _ _⟩
end
end Go.Proofs.Ytejgmoenmbjidaa
namespace Go.Proofs.Ytejgmoenmbjidaa
open Go Go.RowKit Go.Ev
noncomputable section
set_option maxRecDepth 100000
variable (G:Nat) (h:jB)
theorem oY1 {k:Int}{l:List Opn}(h:isK k l=true):fnd k l<l.length:=by
 unfold isK at h
 rcases Nat.lt_or_ge (fnd k l) l.length with e|e
 ·exact e
 ·rw[List.getElem?_eq_none e] at h;cases h
theorem lZ0 {q:Xp}{w:Wi}(a:XAt h q w)(hn:w.op.length<100000)(hr:Ris (w.op.map (·.key)))(k:Int) :
  jG (pp G) 32 [.pointer (some ⟨q.p,0,none⟩),.int .i64 k] h (λv h'=>v=.tuple #[]∧qB0 h q (uY w k) h'):=by
 refine jG.fir4 (jW G) fir32 rfl rfl (uJ1 ..) λhlo=>?_
 rw[dZ1]
 have hc:=a.cell
 have hl:=a.lo
 unfold xcs at hc
 simp(disch:=first|omega|(apply id;simp only[push_cast];first|done|omega))only[push_cast,Nat.reduceAdd,Nat.reduceMul,Nat.reduceSub,Nat.reduceLT,Nat.reduceEqDiff,Nat.reduceLeDiff,Int.reduceToNat,reduceCtorEq,Int.reduceLT,Int.reduceLE,Int.reduceAdd,Int.reduceSub,Int.reduceMul,Int.reduceNeg,Int.reduceEq]
 refine jG.to (jP1 G h a Z0 k) ?_
 rintro _ _ ⟨rfl,e⟩
 rw[e]
 clear e
 cases hk:isK k w.op with
 | false=>
  have hd:uY w k=w:=by unfold uY;rw[qE1 (by rw[← yA0 k w.op hr];exact hk)]
  rw[hd]
  simp(disch:=first|omega|(apply id;simp only[push_cast];first|done|omega))only[push_cast,Nat.reduceAdd,Nat.reduceMul,Nat.reduceSub,Nat.reduceLT,Nat.reduceEqDiff,Nat.reduceLeDiff,Int.reduceToNat,reduceCtorEq,Int.reduceLT,Int.reduceLE,Int.reduceAdd,Int.reduceSub,Int.reduceMul,Int.reduceNeg,Int.reduceEq]
  exact ⟨⟨q,rfl,a,λb hb=>.inl hb⟩,jI.refl _ _⟩
 | true=>
  have h1:=oY1 hk
  have hd:uY w k={ w with op:=w.op.take (fnd k w.op)++w.op.drop (fnd k w.op+1) }:=by unfold uY;rw[jO1 k w.op hk]
  rw[hd]
  generalize fnd k w.op=j at h1 ⊢
  have hwr:IntKind.i64.wrap ((j:Int)+1)=(j:Int)+1:=wrap_i64 Z0 Z0
  have hj1:((j:Int)+1)=((j+1:Nat):Int):=Z0
  rcases kL0 u56 s81 Z1 a.op Z0 (hi:=some (.int .i64 j)) (lo:=none) (λtop ht=>kF0 Z0) (Nat.zero_le _) (show j≤_ by omega) with ⟨v1,k1,p1⟩|⟨e0,_⟩
  case inr=>omega
  rw[wQ1 qD _ _ Z0,Nat.sub_zero] at p1
  obtain ⟨o2,g2,b2⟩:=qL0 (h:=h) 81 5 hlo
  have hl2:(h.add (O [] 81 false)).lo≤(h.add (O [] 81 false)).next:=qK g2 hlo
  obtain ⟨a3,c3,h3,e3,o3,g3,b3⟩:=zO0 qO Z1 g2 hl2 o2 b2 p1 (by rw[qE qD,List.length_take];omega) (λk=>qW _ (gI _) _) (by constructor<;>omega)
  have hl3:=qK g3 hlo
  rw[Nat.zero_add] at e3 o3
  rw[List.nil_append] at o3
  have q2:=Gr.cells g2 hc (kE a)
  have q3:=Gr.cells g3 hc (kE a)
  have l2:=g2.lo
  have l3:=g3.lo
  rcases kL0 u56 s81 Z1 a.op Z0 (lo:=some (.int .i64 (j+1:Nat))) (hi:=none) (λtop ht=>uE0 Z0) (show j+1≤w.op.length by omega) (Z3 _) with ⟨v2,k2,p2⟩|⟨e0,v2,v2',k2,p2,p2'⟩
  ·rw[cW0 qD _ _ Z0] at p2
   rw[← hj1] at k2
   obtain ⟨a4,c4,h4,e4,o4,g4,b4⟩:=zO0 qO Z1 g3 hl3 o3 b3 p2 (by rw[qE qD,List.length_drop]) (λk=>qW _ (gI _) _) (by constructor<;>omega)
   have q4:=Gr.cells g4 hc (kE a)
   have hf4:=qH0 o4 (j+(w.op.length-(j+1))) c4
   have l4':=g4.lo
   have hlq:h4.lo≤q.p:=Z0
   have hst:=kY (h:=h4) 1 1 (.slice a4 (j+(w.op.length-(j+1))) c4) q.p [.slice q.av w.vs.length q.cv,.slice q.ao w.op.length q.co,.slice q.af w.fl.length q.cf,.slice q.aa w.ap.length q.ca,.int .i64 w.ck] 59 false rfl hf4 hlq (by show 1+1≤5;omega)
   rw[← kW] at o4
   have P:=eU0 a (g4.mono λ_ _ h=>h.elim) o4 (by rw[List.length_append,List.length_take,List.length_drop];omega) λb hb=>.inr (b4 b hb)
   simp(disch:=first|omega|(apply id;simp only[push_cast];first|done|omega))only[push_cast,Nat.reduceAdd,Nat.reduceMul,Nat.reduceSub,Nat.reduceLT,Nat.reduceEqDiff,Nat.reduceLeDiff,Int.reduceToNat,reduceCtorEq,Int.reduceLT,Int.reduceLE,Int.reduceAdd,Int.reduceSub,Int.reduceMul,Int.reduceNeg,Int.reduceEq,hc,hl,hwr,k1 _ (Gr.refl h),k2 _ (Gr.refl h),k2 _ g2,k2 _ g3,k2 _ g4,zS0,k1 _ g2,k1 _ g3,k1 _ g4,e3,e4,q2,q3,q4,l2,l3,l4',hst,Option.map_some]
   exact P
  ·rw[cW0 qD _ _ Z0] at p2 p2'
   rw[← hj1] at k2
   obtain ⟨a4,c4,h4,e4,o4,g4,b4⟩:=zO0 qO Z1 g3 hl3 o3 b3 p2 (by rw[qE qD,List.length_drop]) (λk=>qW _ (gI _) _) (by constructor<;>omega)
   have q4:=Gr.cells g4 hc (kE a)
   have hf4:=qH0 o4 (j+(w.op.length-(j+1))) c4
   have l4':=g4.lo
   have hlq:h4.lo≤q.p:=Z0
   have hst:=kY (h:=h4) 1 1 (.slice a4 (j+(w.op.length-(j+1))) c4) q.p [.slice q.av w.vs.length q.cv,.slice q.ao w.op.length q.co,.slice q.af w.fl.length q.cf,.slice q.aa w.ap.length q.ca,.int .i64 w.ck] 59 false rfl hf4 hlq (by show 1+1≤5;omega)
   rw[← kW] at o4
   have P:=eU0 a (g4.mono λ_ _ h=>h.elim) o4 (by rw[List.length_append,List.length_take,List.length_drop];omega) λb hb=>.inr (b4 b hb)
   have sl2:=λh' g=>(k2 h' g).2
   have sl2':=λh' g=>(k2 h' g).1
   simp(disch:=first|omega|(apply id;simp only[push_cast];first|done|omega))only[push_cast,Nat.reduceAdd,Nat.reduceMul,Nat.reduceSub,Nat.reduceLT,Nat.reduceEqDiff,Nat.reduceLeDiff,Int.reduceToNat,reduceCtorEq,Int.reduceLT,Int.reduceLE,Int.reduceAdd,Int.reduceSub,Int.reduceMul,Int.reduceNeg,Int.reduceEq,hc,hl,hwr,k1 _ (Gr.refl h),sl2 _ (Gr.refl h),sl2 _ g2,sl2 _ g3,sl2 _ g4,sl2' _ (Gr.refl h),sl2' _ g2,sl2' _ g3,sl2' _ g4,zS0,k1 _ g2,k1 _ g3,k1 _ g4,e3,e4,q2,q3,q4,l2,l3,l4',hst,Option.map_some]
   refine ⟨P,?_⟩
   obtain ⟨a5,c5,h5,e5,o5,g5,b5⟩:=zO0 qO Z1 g3 hl3 o3 b3 p2' (by rw[qE qD,List.length_drop]) (λk=>qW _ (gI _) _) (by constructor<;>omega)
   have q5:=Gr.cells g5 hc (kE a)
   have hf5:=qH0 o5 (j+(w.op.length-(j+1))) c5
   have l5':=g5.lo
   have hlq':h5.lo≤q.p:=Z0
   have hst':=kY (h:=h5) 1 1 (.slice a5 (j+(w.op.length-(j+1))) c5) q.p [.slice q.av w.vs.length q.cv,.slice q.ao w.op.length q.co,.slice q.af w.fl.length q.cf,.slice q.aa w.ap.length q.ca,.int .i64 w.ck] 59 false rfl hf5 hlq' (by show 1+1≤5;omega)
   rw[← kW] at o5
   have P':=eU0 a (g5.mono λ_ _ h=>h.elim) o5 (by rw[List.length_append,List.length_take,List.length_drop];omega) λb hb=>.inr (b5 b hb)
   simp(disch:=first|omega|(apply id;simp only[push_cast];first|done|omega))only[push_cast,Nat.reduceAdd,Nat.reduceMul,Nat.reduceSub,Nat.reduceLT,Nat.reduceEqDiff,Nat.reduceLeDiff,Int.reduceToNat,reduceCtorEq,Int.reduceLT,Int.reduceLE,Int.reduceAdd,Int.reduceSub,Int.reduceMul,Int.reduceNeg,Int.reduceEq,hc,hl,hwr,k1 _ (Gr.refl h),sl2 _ (Gr.refl h),sl2 _ g2,sl2 _ g3,sl2 _ g5,sl2' _ (Gr.refl h),sl2' _ g2,sl2' _ g3,sl2' _ g5,zS0,k1 _ g2,k1 _ g3,k1 _ g5,e3,e5,q2,q3,q5,l2,l3,l5',hst',Option.map_some]
   exact P'
end
end Go.Proofs.Ytejgmoenmbjidaa
