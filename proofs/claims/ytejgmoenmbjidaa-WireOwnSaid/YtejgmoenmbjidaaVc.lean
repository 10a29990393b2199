/-
  A part of the proof: what the program's functions hand back,as theorems. No condition but those that each theorem names.
-/
import Derived.Test.YtejgmoenmbjidaaVb
set_option linter.unusedSimpArgs false
set_option linter.unusedVariables false
namespace Go.Proofs.Ytejgmoenmbjidaa
open Go Go.RowKit Go.Ev
noncomputable section
set_option maxRecDepth 100000
variable (G:Nat) (h:jB)
theorem bI1 {α:Type}{f:α→List Z6}{n e c:Nat}{h:jB}{a:Z8 Addr}{l:List α}(o:Own h e n a l.length c (rw f l))(hf:∀ x,(f x).length=n)(hn:0<n){i:Nat}{x:α}(hx:l[i]?=some x){t:Zt}(hk:knd Try.prog t=some (true,n)) :
  ∃ b,a=some ⟨b,0,none⟩∧ldC (some (true,n)) (i*n) h.lo b (cells h b)=some (.agg ⟨f x⟩):=by
 have hi:=(List.getElem?_eq_some_iff.1 hx).1
 have hm:=Nat.mul_le_mul_right n (show i+1≤l.length from hi)
 obtain ⟨b,off,e1,hl⟩:=Sl.loadA o.sl hk (i:=i) hn (by rw[qE hf];rw[Nat.add_mul] at hm;omega)
 have hoff:off=0:=by
  rcases o.hat with ⟨e2,_⟩|⟨b',m,e2,_⟩<;>(rw[e2] at e1;cases e1)
  rfl
 subst hoff
 rw[bG,hk,Nat.zero_add,cY0 hf hx] at hl
 exact ⟨b,e1,hl⟩
theorem iL1 {q:Xp}{w:Wi}(a:XAt h q w):jG (pp G) 35 [.pointer (some ⟨q.p,0,none⟩)] h (λv h'=>v=.tuple #[]∧qB0 h q (wH0 w) h'):=by
 refine jG.fir4 (jW G) fir35 rfl rfl (bY1 ..) λhlo=>?_
 rw[dW1]
 have hc:=a.cell
 have hl:=a.lo
 unfold xcs at hc
 simp(disch:=first|omega|(apply id;simp only[push_cast];first|done|omega))only[push_cast,Nat.reduceAdd,Nat.reduceMul,Nat.reduceSub,Nat.reduceLT,Nat.reduceEqDiff,Nat.reduceLeDiff,Int.reduceToNat,reduceCtorEq,Int.reduceLT,Int.reduceLE,Int.reduceAdd,Int.reduceSub,Int.reduceMul,Int.reduceNeg,Int.reduceEq,hc,hl]
 have aa:=mT1 a (Gr.refl h) (Own.nil h 81 5) (l4:=[]) rfl (λb hb=>by obtain ⟨o,s,e⟩:=hb;cases e)
 refine ⟨⟨{ q with ao:=none,co:=0 },rfl,aa,λb ⟨i,hi⟩=>?_⟩,(jI.refl h _).put'' _ _ λ_=>⟨0,rfl⟩⟩
 by_cases e:i=2
 ·subst e
  have hh:blk none b:=hi
  obtain ⟨o,s,e⟩:=hh;cases e
 ·exact .inl ⟨i,mS0 e hi⟩
theorem cI1 {q:Xp}{w:Wi}(a:XAt h q w)(hn:w.fl.length<100000)(i:Int) :
  jG (pp G) 20 [.pointer (some ⟨q.p,0,none⟩),.int .i64 i] h (λv h'=>v=.bool (decide (0≤i∧i<w.fl.length))∧qB0 h q (jX0 w i) h'):=by
 refine jG.fir4 (jW G) fir20 rfl rfl (uJ1 ..) λhlo=>?_
 rw[eL1]
 have hc:=a.cell
 have hl:=a.lo
 unfold xcs at hc
 unfold jX0
 by_cases h0:i<0
 ·rw[if_neg (show ¬ (0≤i∧i<w.fl.length) by omega),decide_eq_false (show ¬ (0≤i∧i<w.fl.length) by omega)]
  simp(disch:=first|omega|(apply id;simp only[push_cast];first|done|omega))only[push_cast,Nat.reduceAdd,Nat.reduceMul,Nat.reduceSub,Nat.reduceLT,Nat.reduceEqDiff,Nat.reduceLeDiff,Int.reduceToNat,reduceCtorEq,Int.reduceLT,Int.reduceLE,Int.reduceAdd,Int.reduceSub,Int.reduceMul,Int.reduceNeg,Int.reduceEq,h0]
  exact ⟨⟨q,rfl,a,λb hb=>.inl hb⟩,jI.refl _ _⟩
 by_cases h1:i<w.fl.length
 ·obtain ⟨j,rfl⟩:∃ j:Nat,i=(j:Int):=⟨i.toNat,Z0⟩
  rw[if_pos ⟨Z0,h1⟩,decide_eq_true (show (0≤(j:Int)∧(j:Int)<w.fl.length) by omega),Z4]
  have hge:¬ (j:Int) ≥ (w.fl.length:Int):=Z0
  obtain ⟨m,hm⟩:∃ m,w.fl[j]?=some m:=⟨_,List.getElem?_eq_getElem Z0⟩
  obtain ⟨b,e1,ld⟩:=bI1 a.fl qA Z1 hm cK0
  obtain ⟨af,cf,h2,e2,c2,l2,s2,P,gg⟩:=bE0 a hlo Z0 m
  have cA:=λx=>Gr.cells ((Gr.refl h).add' x) hc (kE a)
  rw[hm]
  obtain ⟨bk,⟨nm,ky,vl⟩⟩:=m
  have hrow:=zR0 h (Tx nm) bk ky vl
  unfold msC evC at ld e2
  unfold xcs at c2 s2
  rw[e1] at hc e2 c2 s2 cA
  dsimp only at ld e2
  have lq:h2.lo≤q.p:=Z0
  simp(disch:=first|omega|(apply id;simp only[push_cast];first|done|omega))only[push_cast,Nat.reduceAdd,Nat.reduceMul,Nat.reduceSub,Nat.reduceLT,Nat.reduceEqDiff,Nat.reduceLeDiff,Int.reduceToNat,reduceCtorEq,Int.reduceLT,Int.reduceLE,Int.reduceAdd,Int.reduceSub,Int.reduceMul,Int.reduceNeg,Int.reduceEq,hc,hl,h0,h1,hge,Z4,ld,hrow,cA,e2,c2,l2,s2]
  exact P
 ·have hge:i ≥ (w.fl.length:Int):=Z0
  rw[if_neg (show ¬ (0≤i∧i<w.fl.length) by omega),decide_eq_false (show ¬ (0≤i∧i<w.fl.length) by omega)]
  simp(disch:=first|omega|(apply id;simp only[push_cast];first|done|omega))only[push_cast,Nat.reduceAdd,Nat.reduceMul,Nat.reduceSub,Nat.reduceLT,Nat.reduceEqDiff,Nat.reduceLeDiff,Int.reduceToNat,reduceCtorEq,Int.reduceLT,Int.reduceLE,Int.reduceAdd,Int.reduceSub,Int.reduceMul,Int.reduceNeg,Int.reduceEq,hc,hl,h0,hge]
  exact ⟨⟨q,rfl,a,λb hb=>.inl hb⟩,jI.refl _ _⟩
structure sY1 (h:jB){α:Type}(e n:Nat)(f:α→List Z6)(l:List α)(v:Z6)(h2:jB):Prop where
 has:∃ a' c',v=.slice a' l.length c'∧Own h2 e n a' l.length c' (rw f l)∧∀ b,blk a' b→h.next≤b
 gr:Gr h h2
theorem lit31 (h:jB):bsC 0 31 h (some (List.replicate 0 [Value.string (Tx []),Value.int IntKind.i64 0,Value.int IntKind.i64 0]).flatten)=some (.slice (some ⟨h.next,0,none⟩) 0 0,h.add (O [] 31 false)):=eI0 _ _ _ rfl
theorem lit3 (h:jB):bsC 0 3 h (some (List.replicate 0 [Value.int IntKind.i64 0]).flatten)=some (.slice (some ⟨h.next,0,none⟩) 0 0,h.add (O [] 3 false)):=eI0 _ _ _ rfl
theorem zK1 {q:Xp}{w:Wi}(a:XAt h q w)(hn:w.fl.length<100000):jG (pp G) 36 [.pointer (some ⟨q.p,0,none⟩)] h (sY1 h 62 4 msC w.fl):=by
 refine jG.fir4 (jW G) fir36 rfl rfl (eS0 ..) λhlo=>?_
 rw[dV1]
 have hc:=a.cell
 have hl:=a.lo
 unfold xcs at hc
 obtain ⟨o2,g2,b2⟩:=qL0 (h:=h) 62 4 hlo
 have q2:=Gr.cells g2 hc (kE a)
 obtain ⟨a3,c3,h3,e3,o3,g3,b3,_⟩:=yO0 kH Z1 g2 (qK g2 hlo) o2 b2 (Sl.grew a.fl.sl g2 λb hb _=>⟨a.lt b 3 hb,id⟩) (m:=w.fl.length) (cv:=q.cf) (qE qA _) (λk=>qW _ (kT _) _) (by constructor<;>omega)
 rw[Nat.zero_add] at e3 o3
 rw[List.nil_append] at o3
 simp(disch:=first|omega|(apply id;simp only[push_cast];first|done|omega))only[push_cast,Nat.reduceAdd,Nat.reduceMul,Nat.reduceSub,Nat.reduceLT,Nat.reduceEqDiff,Nat.reduceLeDiff,Int.reduceToNat,reduceCtorEq,Int.reduceLT,Int.reduceLE,Int.reduceAdd,Int.reduceSub,Int.reduceMul,Int.reduceNeg,Int.reduceEq,wX1,q2,hl,e3]
 exact ⟨⟨a3,c3,rfl,o3,b3⟩,g3⟩
theorem qW1 {q:Xp}{w:Wi}(a:XAt h q w)(hn:w.ap.length<100000):jG (pp G) 37 [.pointer (some ⟨q.p,0,none⟩)] h (sY1 h 31 3 evC w.ap):=by
 refine jG.fir4 (jW G) fir37 rfl rfl (eS0 ..) λhlo=>?_
 rw[dU1]
 have hc:=a.cell
 have hl:=a.lo
 unfold xcs at hc
 obtain ⟨o2,g2,b2⟩:=qL0 (h:=h) 31 3 hlo
 have q2:=Gr.cells g2 hc (kE a)
 obtain ⟨a3,c3,h3,e3,o3,g3,b3,_⟩:=yO0 bW Z1 g2 (qK g2 hlo) o2 b2 (Sl.grew a.ap.sl g2 λb hb _=>⟨a.lt b 4 hb,id⟩) (m:=w.ap.length) (cv:=q.ca) (qE bH _) (λk=>qW _ (kD0 _) _) (by constructor<;>omega)
 rw[Nat.zero_add] at e3 o3
 rw[List.nil_append] at o3
 simp(disch:=first|omega|(apply id;simp only[push_cast];first|done|omega))only[push_cast,Nat.reduceAdd,Nat.reduceMul,Nat.reduceSub,Nat.reduceLT,Nat.reduceEqDiff,Nat.reduceLeDiff,Int.reduceToNat,reduceCtorEq,Int.reduceLT,Int.reduceLE,Int.reduceAdd,Int.reduceSub,Int.reduceMul,Int.reduceNeg,Int.reduceEq,lit31,q2,hl,e3]
 exact ⟨⟨a3,c3,rfl,o3,b3⟩,g3⟩
inductive I29 (h:jB)(q:Xp)(w:Wi):Nat→S→Prop
 | mk {i : Nat} {iv : Int} {a : Z8 Addr} {c : Nat} {h2 : jB} {x1 x2 x5 x6 x7 x8 x9 xA xB xC xD xE xF xG xH xI xJ xK xL xM xN xO xP xQ : Z6} : iv = i → i ≤ w.op.length → Own h2 3 1 a i c (ivs ((w.op.map (·.key)).take i)) → (∀ b, blk a b → h.next ≤ b) → Gr h h2 →
   I29 h q w (w.op.length-i) ⟨(F27 (.pointer (some ⟨q.p,0,none⟩)) x1 x2 (.slice a i c) (.int .i64 iv) x5 x6 x7 x8 x9 xA xB xC xD xE xF xG xH xI xJ xK xL xM xN xO xP xQ),[],h2⟩
theorem sD0 {q:Xp}{w:Wi}(a:XAt h q w)(hn:w.op.length<100000):jG (pp G) 29 [.pointer (some ⟨q.p,0,none⟩)] h (λv h'=>(∃ a' c,v=.slice a' w.op.length c∧Own h' 3 1 a' w.op.length c (ivs (w.op.map (·.key)))∧∀ b,blk a' b→h.next≤b)∧Gr h h'):=by
 refine jG.fir4 (jW G) fir29 rfl rfl (lO1 ..) λhlo=>?_
 rw[eC1]
 simp(disch:=first|omega|(apply id;simp only[push_cast];first|done|omega))only[push_cast,Nat.reduceAdd,Nat.reduceMul,Nat.reduceSub,Nat.reduceLT,Nat.reduceEqDiff,Nat.reduceLeDiff,Int.reduceToNat,reduceCtorEq,Int.reduceLT,Int.reduceLE,Int.reduceAdd,Int.reduceSub,Int.reduceMul,Int.reduceNeg,Int.reduceEq]
 refine W.loop4 (jW G) (I29 h q w) ?_ _ _ (I29.mk (i:=0) rfl (Nat.zero_le _) (Own.nil _ _ _) (λb hb=>by obtain ⟨o,s,e⟩:=hb;cases e) (Gr.refl h))
 intro kk0 s1 hI
 cases hI with|@mk i iv ar c h2 _ _ _ _ _ _ _ _ _ _ _ _ _ _ _ _ _ _ _ _ _ _ _ _ hiv hi o2 hb2 g2=>
 subst hiv
 rw[nG0]
 have a2:=a.grew g2 λ_ _ h=>h
 have hc:=a2.cell
 have hl:=a2.lo
 have l2:=qK g2 hlo
 unfold xcs at hc
 by_cases h1:i<w.op.length
 ·have h1':(i:Int)<(w.op.length:Int):=Z0
  obtain ⟨o,ho⟩:∃ o,w.op[i]?=some o:=⟨_,List.getElem?_eq_getElem h1⟩
  obtain ⟨b,e1,ld⟩:=kQ0 a2.op qD ho (j:=1) Z1 rfl bJ
  have w1:IntKind.i64.wrap ((i:Int)+1)=(i:Int)+1:=wrap_i64 Z0 Z0
  have g3:Gr h2 (h2.add (O [.int .i64 o.key] 3 false)):=jI.add _ _ _
  have s3:Sl (h2.add (O [.int .i64 o.key] 3 false)) (some ⟨h2.next,0,none⟩) (ivs [o.key]):=Sl.row (jP _ _ _ _ rfl) (by rw[jS];exact l2)
  obtain ⟨a4,c4,h4,e4,o4,g4,b4,_⟩:=yO0 gY Z1 (g2.tr' g3 λ_ _ h=>h) (by rw[jS,jH];omega) (o2.grew g3 λ_ _ _ h=>h) hb2 s3 (m:=1) (cv:=1) rfl (λk=>zZ0 k _) (by constructor<;>omega)
  rw[e1] at hc
  rw[← sR0] at o4
  simp(disch:=first|omega|(apply id;simp only[push_cast];first|done|omega))only[push_cast,Nat.reduceAdd,Nat.reduceMul,Nat.reduceSub,Nat.reduceLT,Nat.reduceEqDiff,Nat.reduceLeDiff,Int.reduceToNat,reduceCtorEq,Int.reduceLT,Int.reduceLE,Int.reduceAdd,Int.reduceSub,Int.reduceMul,Int.reduceNeg,Int.reduceEq,hc,hl,h1',Z4,ld,w1,rowI,e4]
  refine ⟨w.op.length-(i+1),Z0,I29.mk (i:=i+1) Z0 Z0 ?_ b4 g4⟩
  rw[List.take_add_one,List.getElem?_map,ho]
  exact o4
 ·have h1':¬ (i:Int)<(w.op.length:Int):=Z0
  have:i=w.op.length:=Z0
  subst this
  rw[List.take_of_length_le (by rw[List.length_map];exact Z3 _)] at o2
  simp(disch:=first|omega|(apply id;simp only[push_cast];first|done|omega))only[push_cast,Nat.reduceAdd,Nat.reduceMul,Nat.reduceSub,Nat.reduceLT,Nat.reduceEqDiff,Nat.reduceLeDiff,Int.reduceToNat,reduceCtorEq,Int.reduceLT,Int.reduceLE,Int.reduceAdd,Int.reduceSub,Int.reduceMul,Int.reduceNeg,Int.reduceEq,hc,hl,h1']
  exact ⟨⟨ar,c,rfl,o2,hb2⟩,g2⟩
theorem xnil {p c3 b:Nat}{a3:Z8 Addr}(i:Nat):¬ (⟨p,a3,c3,none,0,none,0,none,0⟩:Xp).tg b (i+2):=λhi=>by
 rcases i with _|_|_|i
 ·have hh:blk none b:=hi
  obtain ⟨o,s,e⟩:=hh;cases e
 ·have hh:blk none b:=hi
  obtain ⟨o,s,e⟩:=hh;cases e
 ·have hh:blk none b:=hi
  obtain ⟨o,s,e⟩:=hh;cases e
 ·exact hi
theorem new_x (xs:List Int)(ar:Z8 Addr)(cr:Nat)(hs:Sl h ar (ivs xs))(hb:∀ b,blk ar b→b<h.next)(hn:xs.length<1000000000) :
  jG (pp G) 12 [.slice ar xs.length cr] h (λv h'=>(∃ q:Xp,v=.pointer (some ⟨q.p,0,none⟩)∧XAt h' q (newW xs)∧∀ b,q.B b→h.next≤b)∧Gr h h'):=by
 refine jG.fir4 (jW G) fir12 rfl rfl (yW0 ..) λhlo=>?_
 rw[eT1]
 obtain ⟨o2,g2,b2⟩:=qL0 (h:=h) 3 1 hlo
 obtain ⟨a3,c3,h3,e3,o3,g3,b3,_⟩:=yO0 gY Z1 g2 (qK g2 hlo) o2 b2 (Sl.grew hs g2 λb hb' _=>⟨hb b hb',id⟩) (m:=xs.length) (cv:=cr) (by rw[qM0];omega) (λk=>zZ0 k _) (by constructor<;>omega)
 rw[Nat.zero_add] at e3 o3
 rw[List.nil_append] at o3
 have hf3:=qH0 o3 xs.length c3
 have hf3':fone h3.next (.slice a3 xs.length c3)=true:=by rw[dB0] at hf3;exact hf3.1
 have l3:=qK g3 hlo
 have n3:=g3.next
 simp(disch:=first|omega|(apply id;simp only[push_cast];first|done|omega))only[push_cast,Nat.reduceAdd,Nat.reduceMul,Nat.reduceSub,Nat.reduceLT,Nat.reduceEqDiff,Nat.reduceLeDiff,Int.reduceToNat,reduceCtorEq,Int.reduceLT,Int.reduceLE,Int.reduceAdd,Int.reduceSub,Int.reduceMul,Int.reduceNeg,Int.reduceEq,lit3,e3,hf3']
 have g4:Gr h3 (h3.add (O [.slice a3 xs.length c3,.slice none 0 0,.slice none 0 0,.slice none 0 0,.int .i64 0] 59 false)):=jI.add _ _ _
 refine ⟨⟨⟨h3.next,a3,c3,none,0,none,0,none,0⟩,rfl,⟨jP _ _ _ _ rfl,by rw[jS];exact l3,λb i hi=>?_,(o3.grew g4 λ_ _ _ h=>h).sl,Own.nil _ _ _,Own.nil _ _ _,Own.nil _ _ _,λb i j hi hj=>?_⟩,λb ⟨i,hi⟩=>?_⟩,g3.tr' g4 λ_ _ h=>h⟩
 ·have hbo:=g4.next
  rcases i with _|_|i
  ·have e:b=h3.next:=hi
   rw[jH];omega
  ·have hh:blk a3 b:=hi
   rcases o3.hat with ⟨e1,_⟩|⟨b',m,e1,_,h5,_⟩
   ·obtain ⟨o',s,e'⟩:=hh;rw[e1] at e';cases e'
   ·obtain ⟨o',s,e'⟩:=hh;rw[e1] at e';cases e';omega
  ·exact absurd hi (xnil i)
 ·have key : ∀ i, (⟨h3.next, a3, c3, none, 0, none, 0, none, 0⟩ : Xp).tg b i → (i = 0 ∧ b = h3.next) ∨ (i = 1 ∧ b < h3.next) := fun i hi => by
   rcases i with _|_|i
   ·exact .inl ⟨rfl,hi⟩
   ·have hh:blk a3 b:=hi
    rcases o3.hat with ⟨e1,_⟩|⟨b',m,e1,_,h5,_⟩
    ·obtain ⟨o',s,e'⟩:=hh;rw[e1] at e';cases e'
    ·obtain ⟨o',s,e'⟩:=hh;rw[e1] at e';cases e';exact .inr ⟨rfl,h5⟩
   ·exact absurd hi (xnil i)
  rcases key i hi with ⟨e1,e2⟩|⟨e1,e2⟩<;>rcases key j hj with ⟨e3,e4⟩|⟨e3,e4⟩<;>omega
 ·rcases i with _|_|i
  ·have e:b=h3.next:=hi
   omega
  ·exact b3 b hi
  ·exact absurd hi (xnil i)
end
end Go.Proofs.Ytejgmoenmbjidaa
namespace Go.Proofs.Ytejgmoenmbjidaa
open Go Go.RowKit Go.Ev
noncomputable section
set_option maxRecDepth 100000
variable (G:Nat) (h:jB)
theorem fE1 {α:Type}{f:α→List Z6}{n e c:Nat}{h:jB}{a:Z8 Addr}{l:List α}(o:Own h e n a l.length c (rw f l))(hf:∀ x,(f x).length=n){i k:Nat}{x:α}(hx:l[i]?=some x)(hk0:0<k)(hkn:k≤n){t:Zt}(hk:knd Try.prog t=some (true,k)) :
  ∃ b,a=some ⟨b,0,none⟩∧ldC (some (true,k)) (i*n) h.lo b (cells h b)=some (.agg ⟨(f x).take k⟩):=by
 have hi:=(List.getElem?_eq_some_iff.1 hx).1
 have hm:=Nat.mul_le_mul_right n (show i+1≤l.length from hi)
 rw[Nat.add_mul] at hm
 have hlen:=qE hf l
 have hs:=Sl.sub o.sl (i*n) k
 have he:(((rw f l).drop (i*n)).take k)=(f x).take k:=by
  have h1:=cY0 hf hx
  rw[← h1,List.take_take,Nat.min_eq_left hkn]
 rw[he] at hs
 rcases o.hat with ⟨e2,e3,_⟩|⟨b,m,e2,h2,h3,h4,_⟩
 ·omega
 ·rw[e2,Option.map_some,addM] at hs
  have hfl:((f x).take k).length=k:=by rw[List.length_take,hf];omega
  obtain ⟨b',off',e1,hl⟩:=Sl.loadA hs hk (i:=0) hk0 (by rw[hfl];omega)
  cases e1
  rw[bG,hk,Nat.zero_mul,List.drop_zero,List.take_of_length_le Z0,Nat.zero_add] at hl
  exact ⟨b,e2,hl⟩
theorem rU0 {α:Type}{f:α→List Z6}{n:Nat}(hf:∀ x,(f x).length=n){v:Z6}{j:Nat}(hj:j<n){x y:α}(hy:f y=jJ (f x) j [v]):∀ (l:List α) (i:Nat),l[i]?=some x→jJ (rw f l) (i*n+j) [v]=rw f (l.set i y)
 | [],i,h=>by simp at h
 | z :: l,0,h=>by
  simp at h
  subst h
  rw[List.set_cons_zero,rw,rw,hy]
  unfold jJ
  rw[Nat.zero_mul,Nat.zero_add,List.take_append_of_le_length (by rw[hf];omega),List.drop_append_of_le_length (by rw[hf];simp;omega),List.append_assoc,List.append_assoc,List.append_assoc]
 | z :: l,i+1,h=>by
  have ih:=rU0 hf hj hy l i (by simpa using h)
  rw[List.set_cons_succ,rw,rw,← ih]
  unfold jJ
  have e:(i+1)*n+j=(f z).length+(i*n+j):=by rw[hf,Nat.add_mul];omega
  rw[e,List.take_append,List.take_of_length_le Z0,Nat.add_sub_cancel_left,show (f z).length+(i*n+j)+[v].length=(f z).length+((i*n+j)+[v].length) by omega,List.drop_append,List.drop_of_length_le Z0,Nat.add_sub_cancel_left,List.nil_append,List.append_assoc,List.append_assoc,List.append_assoc]
theorem nE1 {w:Wi}{p:Nat}{o:Opn}(ho:w.op[p]?=some o):(tkW w p).op[p]?=some o:=by
 obtain ⟨h1,h2⟩:=kJ0 ho
 have hp:=(List.getElem?_eq_some_iff.1 ho).1
 show ((w.op.take p).map (bmp (w.ck+1))++w.op.drop p)[p]?=some o
 rw[List.getElem?_append_right (by rw[List.length_map,List.length_take];omega),List.length_map,List.length_take,h2,show p-min p w.op.length=0 by omega]
 rfl
theorem uK0 (w:Wi)(p:Nat):(tkW w p).op.length=w.op.length:=by
 have:=congrArg List.length (uU0 w p)
 simpa using this
theorem cP1 {w:Wi}{p:Nat}{o:Opn}(ho:w.op[p]?=some o)(ht:o.time=w.ck+1) :
  { tkW w p with op:=(tkW w p).op.set p ⟨o.nm,o.key,w.ck+1+min (2*o.wait) 8,min (2*o.wait) 8⟩,fl:=(tkW w p).fl++[⟨false,⟨o.nm,o.key,0⟩⟩] }=tkW w (p+1):=by
 obtain ⟨h1,h2⟩:=kJ0 ho
 have hp:=(List.getElem?_eq_some_iff.1 ho).1
 have hb:bmp (w.ck+1) o=⟨o.nm,o.key,w.ck+1+min (2*o.wait) 8,min (2*o.wait) 8⟩:=if_pos ht
 have hl:((w.op.take p).map (bmp (w.ck+1))).length=p:=by rw[List.length_map,List.length_take];omega
 rw[← hb]
 unfold tkW
 dsimp only
 rw[h2,List.set_append_right _ _ Z0,hl,Nat.sub_self,List.set_cons_zero,h1,List.map_append,List.append_assoc]
 unfold rqs
 rw[List.filter_append,List.map_append,List.append_assoc]
 simp[ht]
theorem xat_F {h h4:jB}{q:Xp}{w:Wi}(a:XAt h q w){a4:Z8 Addr}{n4 c4:Nat}{l4:List Msg}(g:jI h h4 (blk q.af))(o:Own h4 62 4 a4 n4 c4 (rw msC l4))(hn:l4.length=n4)(hb:∀ b,blk a4 b→blk q.af b∨h.next≤b) :
  XAt (h4.put q.p (O [.slice q.av w.vs.length q.cv,.slice q.ao w.op.length q.co,.slice a4 n4 c4,.slice q.aa w.ap.length q.ca,.int .i64 w.ck] 59 false)) { q with af:=a4,cf:=c4 } { w with fl:=l4 }:=by
 subst hn
 have hne:∀ b,blk a4 b→¬ b=q.p:=λb hb' e=>by
  rcases hb b hb' with h1|h1
  ·have:=a.sep b 3 0 h1 e;omega
  ·have:=kE a;omega
 exact a.setF ((g.mono (T:=λb=>b=q.p∨blk q.af b) λb _ hb=>.inr hb).put'' _ _ λ_=>.inl rfl) (jO _ _ _ _) (o.grew ((jI.refl h4 _).put'' (S:=λb=>b=q.p) _ _ λ_=>rfl) λb hb' _ e=>hne b hb' e) hb
theorem bT0 {off lo b:Nat}{cs:List Z6}{e:Zt}{m:Zb}{v:Z6}(hb:lo≤b)(hv:cs[off]?=some v):ldC (some (false,0)) off lo b (some (cs,e,m))=some v:=by
 rw[fJ0 _ _ _ _ _ _ _ _ hb]
 unfold uL0
 exact hv
inductive I33 (h:jB)(q:Xp)(w:Wi):Nat→S→Prop
 | mk {i : Nat} {iv : Int} {q2 : Xp} {h2 : jB} {x1 x3 x4 x5 x6 x7 x8 x9 xA xB xC xD xE xF xG xH xI xJ xK xL xM xN xO xP xQ xR xS xT xU xV xW xX xY xZ yA yB yC yD yE yF yG yH yI yJ yK yL yM yN yO yP yQ yR yS yT yU yV yW yX yY yZ zA zB zC zD zE zF zG zH zI zJ zK zL zM zN zO zP zQ zR zS zT zU zV zW zX zY : Z6} : iv = i → i ≤ w.op.length → q2.p = q.p → XAt h2 q2 (tkW w i) → (∀ b, q2.B b → q.B b ∨ h.next ≤ b) → jI h h2 q.B →
   I33 h q w (w.op.length-i) ⟨(F87 (.pointer (some ⟨q.p,0,none⟩)) x1 (.int .i64 iv) x3 x4 x5 x6 x7 x8 x9 xA xB xC xD xE xF xG xH xI xJ xK xL xM xN xO xP xQ xR xS xT xU xV xW xX xY xZ yA yB yC yD yE yF yG yH yI yJ yK yL yM yN yO yP yQ yR yS yT yU yV yW yX yY yZ zA zB zC zD zE zF zG zH zI zJ zK zL zM zN zO zP zQ zR zS zT zU zV zW zX zY),[],h2⟩
theorem nG1 {q:Xp}{w:Wi}(a:XAt h q w)(hck:0≤w.ck∧w.ck<900000)(hnf:w.fl.length<90000)(hno:w.op.length≤12)(hw:∀ o∈w.op,0≤o.wait∧o.wait≤8) :
  jG (pp G) 33 [.pointer (some ⟨q.p,0,none⟩)] h (λv h'=>v=.tuple #[]∧qB0 h q (kK0 w) h'):=by
 refine jG.fir4 (jW G) fir33 rfl rfl (lA1 ..) λhlo=>?_
 rw[dY1]
 have hc:=a.cell
 have hl:=a.lo
 have hw1:IntKind.i64.wrap (w.ck+1)=w.ck+1:=wrap_i64 Z0 Z0
 have a2:=a.setC (ck:=w.ck+1) ((jI.refl h (λb=>b=q.p)).put'' q.p (O (xcs q { w with ck:=w.ck+1 }) 59 false) λ_=>rfl) (jO _ _ _ _)
 have G2:jI h (h.put q.p (O (xcs q { w with ck:=w.ck+1 }) 59 false)) q.B:=(jI.refl h _).put'' _ _ λ_=>⟨0,rfl⟩
 unfold xcs at hc a2 G2
 dsimp only at a2 G2
 simp(disch:=first|omega|(apply id;simp only[push_cast];first|done|omega))only[push_cast,Nat.reduceAdd,Nat.reduceMul,Nat.reduceSub,Nat.reduceLT,Nat.reduceEqDiff,Nat.reduceLeDiff,Int.reduceToNat,reduceCtorEq,Int.reduceLT,Int.reduceLE,Int.reduceAdd,Int.reduceSub,Int.reduceMul,Int.reduceNeg,Int.reduceEq,hc,hl,hw1]
 rw[← nF1] at a2
 refine W.loop4 (jW G) (I33 h q w) ?_ _ _ (I33.mk (i:=0) rfl (Nat.zero_le _) rfl a2 (λb hb=>.inl hb) G2)
 intro kk0 s1 hI
 cases hI with|@mk i iv q2 h2 _ _ _ _ _ _ _ _ _ _ _ _ _ _ _ _ _ _ _ _ _ _ _ _ _ _ _ _ _ _ _ _ _ _ _ _ _ _ _ _ _ _ _ _ _ _ _ _ _ _ _ _ _ _ _ _ _ _ _ _ _ _ _ _ _ _ _ _ _ _ _ _ _ _ _ _ _ _ _ _ _ _ _ _ _ hiv hi hq a3 hB g2=>
 subst hiv
 rw[nF0]
 have hc3:=a3.cell
 have hl3:=a3.lo
 have lo2:=qK g2 hlo
 have ck3:(tkW w i).ck=w.ck+1:=rfl
 unfold xcs at hc3
 rw[uK0,ck3,hq] at hc3
 rw[hq] at hl3
 by_cases h1:i<w.op.length
 ·have h1':(i:Int)<(w.op.length:Int):=Z0
  obtain ⟨o,ho⟩:∃ o,w.op[i]?=some o:=⟨_,List.getElem?_eq_getElem h1⟩
  have ho3:=nE1 ho
  obtain ⟨b,e1,ld⟩:=kQ0 a3.op qD ho3 (j:=3) Z1 rfl bJ
  have w1:IntKind.i64.wrap ((i:Int)+1)=(i:Int)+1:=wrap_i64 Z0 Z0
  have hc4:=hc3
  rw[e1] at hc4
  by_cases ht:o.time=w.ck+1
  ·have hom:o∈w.op:=by rw[← (List.getElem?_eq_some_iff.1 ho).2];exact List.getElem_mem _
   have hwt:=hw o hom
   have fl3:(tkW w i).fl.length≤w.fl.length+12:=by
    show (w.fl++rqs (w.ck+1) (w.op.take i)).length≤_
    have h1:=List.length_filter_le (λo=>decide (o.time=w.ck+1)) (w.op.take i)
    rw[List.length_take] at h1
    unfold rqs
    rw[List.length_append,List.length_map]
    omega
   obtain ⟨b1,e1',lev⟩:=fE1 a3.op qD ho3 (k:=3) Z1 Z1 mP0
   rw[e1] at e1';cases e1'
   have lev:ldC (some (true,3)) (i*5) h2.lo b (cells h2 b)=some (.agg ⟨[.string (Tx o.nm),.int .i64 o.key,.int .i64 0]⟩):=lev
   have g3:Gr h2 (h2.add (O (msC ⟨false,⟨o.nm,o.key,0⟩⟩) 62 false)):=jI.add _ _ _
   have s3:Sl (h2.add (O (msC ⟨false,⟨o.nm,o.key,0⟩⟩) 62 false)) (some ⟨h2.next,0,none⟩) (msC ⟨false,⟨o.nm,o.key,0⟩⟩):=Sl.row (jP _ _ _ _ rfl) (by rw[jS];exact lo2)
   obtain ⟨a4,c4,h4,e4,o4,g4,b4⟩:=gG (P:=Try.prog) kH (a3.fl.grew g3 λ_ _ _ h=>h) (by rw[jS,jH];omega) (x:=.slice (some ⟨h2.next,0,none⟩) 1 1) (m:=1) rfl (Sl.src s3 (qA _) Z1) (qA _) (kT _ _) (by constructor<;>omega)
   have gg:jI h2 h4 (blk q2.af):=(jI.mono g3 λ_ _ h=>h.elim).tr' g4 λb _ h=>h
   have b4':∀ b,blk a4 b→blk q2.af b∨h2.next≤b:=λb hb=>(b4 b hb).imp id λh=>by rw[jH] at h;omega
   have hp3:=kE a3
   rw[← show rw msC [⟨false,⟨o.nm,o.key,0⟩⟩]=msC ⟨false,⟨o.nm,o.key,0⟩⟩ from by simp[rw],← kW] at o4
   have cA:=λx=>Gr.cells ((Gr.refl h2).add' x) hc4 (by rw[← hq];exact hp3)
   have c4':=gg.cellsE hc4 (by rw[← hq];exact hp3) (λhb=>by have:=a3.sep q.p 3 0 hb hq.symm;omega)
   have l4:=gg.lo
   have hst:=kY (h:=h4) 1 2 (.slice a4 ((tkW w i).fl.length+1) c4) q.p [.slice q2.av (tkW w i).vs.length q2.cv,.slice (some ⟨b,0,none⟩) w.op.length q2.co,.slice q2.af (tkW w i).fl.length q2.cf,.slice q2.aa (tkW w i).ap.length q2.ca,.int .i64 (w.ck+1)] 59 false rfl (qH0 o4 _ _) Z0 (by show 2+1≤5;omega)
   have A5:=xat_F a3 gg o4 (by rw[List.length_append];rfl) b4'
   have G5:jI h2 (h4.put q2.p (O [.slice q2.av (tkW w i).vs.length q2.cv,.slice q2.ao (tkW w i).op.length q2.co,.slice a4 ((tkW w i).fl.length+1) c4,.slice q2.aa (tkW w i).ap.length q2.ca,.int .i64 (tkW w i).ck] 59 false)) q2.B:=(gg.mono λb _ hb=>⟨3,hb⟩).put'' _ _ λ_=>⟨0,rfl⟩
   rw[uK0,ck3,hq,e1] at A5 G5
   have n5:(h4.put q.p (O [.slice q2.av (tkW w i).vs.length q2.cv,.slice (some ⟨b,0,none⟩) w.op.length q2.co,.slice a4 ((tkW w i).fl.length+1) c4,.slice q2.aa (tkW w i).ap.length q2.ca,.int .i64 (w.ck+1)] 59 false)).next=h4.next:=jN _ _
   unfold msC evC at e4
   dsimp only at e4
   simp(disch:=first|omega|(apply id;simp only[push_cast];first|done|omega))only[push_cast,Nat.reduceAdd,Nat.reduceMul,Nat.reduceSub,Nat.reduceLT,Nat.reduceEqDiff,Nat.reduceLeDiff,Int.reduceToNat,reduceCtorEq,Int.reduceLT,Int.reduceLE,Int.reduceAdd,Int.reduceSub,Int.reduceMul,Int.reduceNeg,Int.reduceEq,hc4,hl3,h1',Z4,ld,ht,w1,lev,zR0,cA,e4,c4',l4,hst]
   generalize h4.put q.p (O [.slice q2.av (tkW w i).vs.length q2.cv,.slice (some ⟨b,0,none⟩) w.op.length q2.co,.slice a4 ((tkW w i).fl.length+1) c4,.slice q2.aa (tkW w i).ap.length q2.ca,.int .i64 (w.ck+1)] 59 false)=H5 at *
   have lH5:=G5.lo
   have hc5:=A5.cell
   unfold xcs at hc5
   dsimp only at hc5
   rw[uK0,List.length_append,List.length_singleton] at hc5
   have ho5:Own H5 81 5 (some ⟨b,0,none⟩) (tkW w i).op.length q2.co (rw opC (tkW w i).op):=by exact A5.op
   obtain ⟨m,hbl,hbn,hcb,hm⟩:∃ m,H5.lo≤b∧b<H5.next∧cells H5 b=some (rw opC (tkW w i).op,81,m)∧((m=true∧q2.co=UC)∨(m=false∧q2.co=(tkW w i).op.length)):=by
    rcases ho5.hat with ⟨e2,_⟩|⟨b',m,e2,k1,k2,k3,k4⟩
    ·cases e2
    ·cases e2;exact ⟨m,k1,k2,k3,k4⟩
   have hbq:b≠q.p:=λe=>by have:=a3.sep b 2 0 (by show blk q2.ao b;rw[e1];exact ⟨0,none,rfl⟩) (by show b=q2.p;rw[hq];exact e);omega
   have hlen5:=qE qD (tkW w i).op
   rw[uK0] at hlen5
   have hm5:=Nat.mul_le_mul_right 5 (show i+1≤w.op.length from h1)
   have hw1':IntKind.i64.wrap (2*o.wait)=2*o.wait:=wrap_i64 Z0 Z0
   have hw2':IntKind.i64.wrap (w.ck+1+min (2*o.wait) 8)=w.ck+1+min (2*o.wait) 8:=wrap_i64 Z0 Z0
   have ld4:ldC (some (false,0)) (i*5+4) h2.lo b (some (rw opC (tkW w i).op,81,m))=some (.int .i64 o.wait):=bT0 Z0 (by rw[cX0 qD ho3 Z1];rfl)
   have st4:stC 1 (i*5+4) (.int .i64 (min (2*o.wait) 8)) H5 b (some (rw opC (tkW w i).op,81,m))=some (undef,H5.put b (O (rw opC ((tkW w i).op.set i ⟨o.nm,o.key,o.time,min (2*o.wait) 8⟩)) 81 m)):=by
    rw[kY (h:=H5) 1 _ _ _ _ _ _ rfl rfl hbl Z0]
    rw[show (Value.int IntKind.i64 (min (2*o.wait) 8)).cells.toList=[.int .i64 (min (2*o.wait) 8)] from rfl,rU0 qD Z1 (y:=⟨o.nm,o.key,o.time,min (2*o.wait) 8⟩) rfl _ _ ho3]
   have ho6:((tkW w i).op.set i ⟨o.nm,o.key,o.time,min (2*o.wait) 8⟩)[i]?=some ⟨o.nm,o.key,o.time,min (2*o.wait) 8⟩:=by rw[List.getElem?_set_self (by rw[uK0];exact h1)]
   have ld5:ldC (some (false,0)) (i*5+4) h2.lo b (some (rw opC ((tkW w i).op.set i ⟨o.nm,o.key,o.time,min (2*o.wait) 8⟩),81,m))=some (.int .i64 (min (2*o.wait) 8)):=bT0 Z0 (by rw[cX0 qD ho6 Z1];rfl)
   have hlen6:=qE qD ((tkW w i).op.set i ⟨o.nm,o.key,o.time,min (2*o.wait) 8⟩)
   rw[List.length_set,uK0] at hlen6
   have st5:stC 1 (i*5+3) (.int .i64 (w.ck+1+min (2*o.wait) 8)) (H5.put b (O (rw opC ((tkW w i).op.set i ⟨o.nm,o.key,o.time,min (2*o.wait) 8⟩)) 81 m)) b (some (rw opC ((tkW w i).op.set i ⟨o.nm,o.key,o.time,min (2*o.wait) 8⟩),81,m))=some (undef,(H5.put b (O (rw opC ((tkW w i).op.set i ⟨o.nm,o.key,o.time,min (2*o.wait) 8⟩)) 81 m)).put b (O (rw opC ((tkW w i).op.set i ⟨o.nm,o.key,w.ck+1+min (2*o.wait) 8,min (2*o.wait) 8⟩)) 81 m)):=by
    rw[kY (h:=H5.put b _) 1 _ _ _ _ _ _ rfl rfl (by rw[qI];exact hbl) Z0]
    rw[show (Value.int IntKind.i64 (w.ck+1+min (2*o.wait) 8)).cells.toList=[.int .i64 (w.ck+1+min (2*o.wait) 8)] from rfl,rU0 qD Z1 (y:=⟨o.nm,o.key,w.ck+1+min (2*o.wait) 8,min (2*o.wait) 8⟩) rfl _ _ ho6,List.set_set]
   simp(disch:=first|omega|(apply id;simp only[push_cast];first|done|omega))only[push_cast,Nat.reduceAdd,Nat.reduceMul,Nat.reduceSub,Nat.reduceLT,Nat.reduceEqDiff,Nat.reduceLeDiff,Int.reduceToNat,reduceCtorEq,Int.reduceLT,Int.reduceLE,Int.reduceAdd,Int.reduceSub,Int.reduceMul,Int.reduceNeg,Int.reduceEq,hc5,Z4,hl3,lH5,hcb,ld4,sK0,hw1',st4,ld5,hw2',st5,w1]
   have g7:jI H5 ((H5.put b (O (rw opC ((tkW w i).op.set i ⟨o.nm,o.key,o.time,min (2*o.wait) 8⟩)) 81 m)).put b (O (rw opC ((tkW w i).op.set i ⟨o.nm,o.key,w.ck+1+min (2*o.wait) 8,min (2*o.wait) 8⟩)) 81 m)) (λb'=>b'=b):=((jI.refl H5 (λb'=>b'=b)).put'' b _ λ_=>rfl).put'' b _ λ_=>rfl
   have c7:=g7.cellsE hc5 (by have:=A5.lt q.p 0 rfl;exact this) (λe=>hbq e.symm)
   have hlen7:=qE qD ((tkW w i).op.set i ⟨o.nm,o.key,w.ck+1+min (2*o.wait) 8,min (2*o.wait) 8⟩)
   rw[List.length_set] at hlen7
   have o7:Own ((H5.put b (O (rw opC ((tkW w i).op.set i ⟨o.nm,o.key,o.time,min (2*o.wait) 8⟩)) 81 m)).put b (O (rw opC ((tkW w i).op.set i ⟨o.nm,o.key,w.ck+1+min (2*o.wait) 8,min (2*o.wait) 8⟩)) 81 m)) 81 5 (some ⟨b,0,none⟩) ((tkW w i).op.set i ⟨o.nm,o.key,w.ck+1+min (2*o.wait) 8,min (2*o.wait) 8⟩).length q2.co (rw opC ((tkW w i).op.set i ⟨o.nm,o.key,w.ck+1+min (2*o.wait) 8,min (2*o.wait) 8⟩)):=
    ⟨by rw[List.length_set];exact hlen7,qW _ (gI _) _,.inr ⟨b,m,rfl,by simp only[qI];exact hbl,by simp only[jN];exact hbn,jO _ _ _ _,by rw[List.length_set];exact hm⟩⟩
   have A7:=A5.setO (g7.mono λb' _ e=>.inr (by subst e;exact ⟨0,none,rfl⟩)) (by unfold xcs;dsimp only;rw[List.length_set,uK0,List.length_append,List.length_singleton];exact c7) o7 λb' hb=>.inl hb
   have hq2:∀ b',q2.B b'→q.B b'∨h.next≤b':=hB
   have n2:=g2.next
   refine ⟨w.op.length-(i+1),Z0,I33.mk (i:=i+1) (q2:={ p:=q.p,av:=q2.av,cv:=q2.cv,ao:=some ⟨b,0,none⟩,co:=q2.co,af:=a4,cf:=c4,aa:=q2.aa,ca:=q2.ca }) Z0 Z0 rfl (by rw[← cP1 ho ht];exact A7) (λb' ⟨k,hk⟩=>?_) ((g2.tr' G5 λb' hlt hb=>(hq2 b' hb).elim id λh=>by omega).tr' g7 λb' hlt e=>?_)⟩
   ·by_cases e2:k=2
    ·subst e2;exact hq2 b' ⟨2,by show blk q2.ao b';rw[e1];exact hk⟩
    ·by_cases e3:k=3
     ·subst e3
      rcases b4' b' hk with h5|h5
      ·exact hq2 b' ⟨3,h5⟩
      ·exact .inr Z0
     ·rcases k with _|_|_|_|_|k
      ·exact hq2 b' ⟨0,by rw[show b'=q.p from hk,← hq];rfl⟩
      ·exact hq2 b' ⟨1,hk⟩
      ·omega
      ·omega
      ·exact hq2 b' ⟨4,hk⟩
      ·exact hk.elim
   ·subst e
    exact (hq2 b' ⟨2,by show blk q2.ao b';rw[e1];exact ⟨0,none,rfl⟩⟩).elim id λh=>by omega
  ·simp(disch:=first|omega|(apply id;simp only[push_cast];first|done|omega))only[push_cast,Nat.reduceAdd,Nat.reduceMul,Nat.reduceSub,Nat.reduceLT,Nat.reduceEqDiff,Nat.reduceLeDiff,Int.reduceToNat,reduceCtorEq,Int.reduceLT,Int.reduceLE,Int.reduceAdd,Int.reduceSub,Int.reduceMul,Int.reduceNeg,Int.reduceEq,hc4,hl3,h1',Z4,ld,ht,w1]
   exact ⟨w.op.length-(i+1),Z0,I33.mk (i:=i+1) Z0 Z0 hq (by rw[iZ0 ho ht];exact a3) hB g2⟩
 ·have h1':¬ (i:Int)<(w.op.length:Int):=Z0
  have:i=w.op.length:=Z0
  subst this
  rw[pW0] at a3
  simp(disch:=first|omega|(apply id;simp only[push_cast];first|done|omega))only[push_cast,Nat.reduceAdd,Nat.reduceMul,Nat.reduceSub,Nat.reduceLT,Nat.reduceEqDiff,Nat.reduceLeDiff,Int.reduceToNat,reduceCtorEq,Int.reduceLT,Int.reduceLE,Int.reduceAdd,Int.reduceSub,Int.reduceMul,Int.reduceNeg,Int.reduceEq,hc3,hl3,h1']
  exact ⟨⟨q2,hq,a3,hB⟩,g2⟩
end
end Go.Proofs.Ytejgmoenmbjidaa
namespace Go.Proofs.Ytejgmoenmbjidaa
open Go Go.RowKit Go.Ev
noncomputable section
set_option maxRecDepth 100000
variable (G:Nat) (h:jB)
theorem nY1 (h:jB)(s:ByteArray)(k v:Int):bsC 1 31 h (wV0 (List.map (λi=>(i*3,3)) (List.range 1)) (List.replicate 1 [Value.string (Tx []),Value.int IntKind.i64 0,Value.int IntKind.i64 0]).flatten
  (.agg ⟨[.string s,.int .i64 k,.int .i64 v]⟩) [] (List.map (λi=>(i*3,3)) (List.range 1))[0]?)=some (.slice (some ⟨h.next,0,none⟩) 1 1,h.add (O [.string s,.int .i64 k,.int .i64 v] 31 false)):=Z7
theorem iA0 {k:Int}{l:List Evt}{i:Nat}{x:Evt}(h:kF k (l.take i)=none)(hx:l[i]?=some x):(k=x.key→kF k l=some x.val)∧(¬ k=x.key→kF k (l.take (i+1))=none):=by
 have hi:=(List.getElem?_eq_some_iff.1 hx).1
 have e:l=l.take i++x :: l.drop (i+1):=by
  rw[← List.getElem?_eq_some_iff.1 hx |>.2,List.getElem_cons_drop,List.take_append_drop]
 refine ⟨λhk=>?_,λhk=>?_⟩
 ·have h1:=yD0 k _ (x :: l.drop (i+1)) h
  rw[← e] at h1
  rw[h1]
  show (if k=x.key then some x.val else _)=_
  rw[if_pos hk]
 ·rw[List.take_add_one,hx,yD0 k _ _ h]
  show (if k=x.key then some x.val else none)=none
  rw[if_neg hk]
theorem iV0 {K:jB}{q:Xp}{w:Wi}(a:XAt K q w)(hlo:K.lo≤K.next)(hn:w.ap.length<1000000)(m:Evt):∃ a' c' h2,jE Try.prog 39 39 (.slice q.aa w.ap.length q.ca) (.slice (some ⟨K.next,0,none⟩) 1 1) (K.add (O (evC m) 31 false))=some (.slice a' (w.ap.length+1) c',h2)∧
  cells h2 q.p=some (xcs q w,59,false)∧h2.lo=K.lo∧stC 1 3 (.slice a' (w.ap.length+1) c') h2 q.p (some (xcs q w,59,false))=some (undef,h2.put q.p (O [.slice q.av w.vs.length q.cv,.slice q.ao w.op.length q.co,.slice q.af w.fl.length q.cf,.slice a' (w.ap.length+1) c',.int .i64 w.ck] 59 false))∧
  qB0 K q { w with ap:=w.ap++[m] } (h2.put q.p (O [.slice q.av w.vs.length q.cv,.slice q.ao w.op.length q.co,.slice q.af w.fl.length q.cf,.slice a' (w.ap.length+1) c',.int .i64 w.ck] 59 false))∧jI K h2 (blk q.aa):=by
 have g1:Gr K (K.add (O (evC m) 31 false)):=jI.add _ _ _
 have n1:(K.add (O (evC m) 31 false)).next=K.next+1:=jH _
 have l1:(K.add (O (evC m) 31 false)).lo=K.lo:=jS _
 have s1:Sl (K.add (O (evC m) 31 false)) (some ⟨K.next,0,none⟩) (evC m):=Sl.row (jP _ _ _ _ rfl) Z0
 have hp:=kE a
 obtain ⟨a',c',h2,e2,o2,g2,b2⟩:=gG (P:=Try.prog) bW (a.ap.grew g1 λ_ _ _ h=>h) Z0 (x:=.slice (some ⟨K.next,0,none⟩) 1 1) (m:=1) rfl (Sl.src s1 (bH _) Z1) (bH _) (kD0 _ _) (by constructor<;>omega)
 have gg:jI K h2 (blk q.aa):=(jI.mono g1 λ_ _ h=>h.elim).tr' g2 λb _ h=>h
 have hc:=gg.cellsE a.cell hp (λhb=>by have:=a.sep q.p 4 0 hb rfl;omega)
 have hl:=gg.lo
 have hlq:=a.lo
 rw[← show rw evC [m]=evC m from by simp[rw],← kW] at o2
 refine ⟨a',c',h2,e2,hc,hl,kY 1 3 _ _ _ _ _ rfl (qH0 o2 _ _) Z0 (by show 3+1≤5;omega),cC1 a gg o2 (by rw[List.length_append];rfl) λb hb=>(b2 b hb).imp id λh=>by omega,gg⟩
theorem XAt.kp {h:jB}{q:Xp}{w:Wi}(a:XAt h q w)(k:List Evt):XAt h q { w with kp:=k }:=⟨a.cell,a.lo,a.lt,a.vs,a.op,a.fl,a.ap,a.sep⟩
inductive I40 (H:jB)(p bx:Nat)(k:Int)(l:List Evt):Nat→S→Prop
 | mk {i:Nat} {iv:Int} {x1 x2 x4 x6 x7 x8 x9 xA xB xC xD xE xF xG xH xI xJ xK xL xM xN xO xP xQ xR xS xT xU xV xW xX xY xZ yA yB yC yD yE yF yG yH yI yJ yK yL yM yN yO yP yQ yR yS yT yU yV yW yX yY yZ zA zB zC zD zE zF zG:Z6}:iv=i→i≤l.length→kF k (l.take i)=none→I40 H p bx k l (l.length-i) ⟨(F69 (.pointer (some ⟨p,0,none⟩)) x1 x2 (.pointer (some ⟨bx,0,none⟩)) x4 (.int .i64 iv) x6 x7 x8 x9 xA xB xC xD xE xF xG xH xI xJ xK xL xM xN xO xP xQ xR xS xT xU xV xW xX xY xZ yA yB yC yD yE yF yG yH yI yJ yK yL yM yN yO yP yQ yR yS yT yU yV yW yX yY yZ zA zB zC zD zE zF zG),[],H⟩
theorem iT1 {q:Xp}{w:Wi}(a:XAt h q w)(hn:w.ap.length<100000)(hk:w.kp=w.ap)(e:Evt) :
  jG (pp G) 40 [.pointer (some ⟨q.p,0,none⟩),.agg ⟨evC e⟩] h (λv h'=>v=.int .i64 (jY w e).1∧qB0 h q (jY w e).2 h'):=by
 refine jG.fir4 (jW G) fir40 rfl rfl (lD1 ..) λhlo=>?_
 rw[dR1]
 obtain ⟨nm,ky,vl⟩:=e
 unfold evC
 have g1:Gr h (h.add (O [.string (Tx nm),.int .i64 ky,.int .i64 vl] 31 false)):=jI.add _ _ _
 have c1:=jP (h:=h) [.string (Tx nm),.int .i64 ky,.int .i64 vl] 31 false h.next rfl
 have n1:(h.add (O [.string (Tx nm),.int .i64 ky,.int .i64 vl] 31 false)).next=h.next+1:=jH _
 simp(disch:=first|omega|(apply id;simp only[push_cast];first|done|omega))only[push_cast,Nat.reduceAdd,Nat.reduceMul,Nat.reduceSub,Nat.reduceLT,Nat.reduceEqDiff,Nat.reduceLeDiff,Int.reduceToNat,reduceCtorEq,Int.reduceLT,Int.reduceLE,Int.reduceAdd,Int.reduceSub,Int.reduceMul,Int.reduceNeg,Int.reduceEq,hlo]
 generalize h.add (O [.string (Tx nm),.int .i64 ky,.int .i64 vl] 31 false)=H at *
 have a1:=a.grew g1 λ_ _ h=>h
 have hlH:=qK g1 hlo
 have hl1:=g1.lo
 have hbl:H.lo≤h.next:=Z0
 have hc:=a1.cell
 have hl:=a1.lo
 have hp:=kE a
 unfold xcs at hc
 refine W.loop4 (jW G) (I40 H q.p h.next ky w.ap) ?_ _ _ (I40.mk (i:=0) rfl (Nat.zero_le _) rfl)
 intro kk0 s1 hI
 cases hI with|@mk i iv _ _ _ _ _ _ _ _ _ _ _ _ _ _ _ _ _ _ _ _ _ _ _ _ _ _ _ _ _ _ _ _ _ _ _ _ _ _ _ _ _ _ _ _ _ _ _ _ _ _ _ _ _ _ _ _ _ _ _ _ _ _ _ _ _ _ hiv hi hno=>
 subst hiv
 rw[nD0]
 have w1:IntKind.i64.wrap ((i:Int)+1)=(i:Int)+1:=wrap_i64 Z0 Z0
 by_cases h1:i<w.ap.length
 ·have h1':(i:Int)<(w.ap.length:Int):=Z0
  obtain ⟨x,hx⟩:∃ x,w.ap[i]?=some x:=⟨_,List.getElem?_eq_getElem h1⟩
  obtain ⟨b,e1,ld⟩:=kQ0 a1.ap bH hx (j:=1) Z1 rfl bJ
  obtain ⟨b',e2,ld2⟩:=kQ0 a1.ap bH hx (j:=2) Z1 rfl bJ
  rw[e1] at e2;cases e2
  rw[e1] at hc
  obtain ⟨f1,f2⟩:=iA0 hno hx
  by_cases hkx:x.key=ky
  ·have hA:jY w ⟨nm,ky,vl⟩=(x.val,w):=by unfold jY;rw[hk,f1 hkx.symm]
   rw[hA]
   simp(disch:=first|omega|(apply id;simp only[push_cast];first|done|omega))only[push_cast,Nat.reduceAdd,Nat.reduceMul,Nat.reduceSub,Nat.reduceLT,Nat.reduceEqDiff,Nat.reduceLeDiff,Int.reduceToNat,reduceCtorEq,Int.reduceLT,Int.reduceLE,Int.reduceAdd,Int.reduceSub,Int.reduceMul,Int.reduceNeg,Int.reduceEq,hc,hl,h1',Z4,ld,ld2,c1,hbl,hkx]
   exact ⟨⟨q,rfl,a1,λb hb=>.inl hb⟩,jI.mono g1 λ_ _ h=>h.elim⟩
  ·simp(disch:=first|omega|(apply id;simp only[push_cast];first|done|omega))only[push_cast,Nat.reduceAdd,Nat.reduceMul,Nat.reduceSub,Nat.reduceLT,Nat.reduceEqDiff,Nat.reduceLeDiff,Int.reduceToNat,reduceCtorEq,Int.reduceLT,Int.reduceLE,Int.reduceAdd,Int.reduceSub,Int.reduceMul,Int.reduceNeg,Int.reduceEq,hc,hl,h1',Z4,ld,c1,hbl,hkx,w1]
   exact ⟨w.ap.length-(i+1),Z0,I40.mk (i:=i+1) Z0 Z0 (f2 λe=>hkx e.symm)⟩
 ·have h1':¬ (i:Int)<(w.ap.length:Int):=Z0
  rw[List.take_of_length_le Z0] at hno
  by_cases hv:w.ap.length<w.vs.length
  ·have hv':(w.ap.length:Int)<(w.vs.length:Int):=Z0
   have hA:jY w ⟨nm,ky,vl⟩=(w.vs.getD w.ap.length 0,{ w with ap:=w.ap++[⟨nm,ky,w.vs.getD w.ap.length 0⟩],kp:=w.kp++[⟨nm,ky,w.vs.getD w.ap.length 0⟩] }):=by unfold jY;rw[hk,hno];simp only[if_pos hv]
   rw[hA]
   obtain ⟨b,off,e1,ld⟩:=Sl.num a1.vs hv
   have g2:jI H (H.put h.next (O [.string (Tx nm),.int .i64 ky,.int .i64 (w.vs.getD w.ap.length 0)] 31 false)) (λb=>b=h.next):=(jI.refl H (λb=>b=h.next)).put'' _ _ λ_=>rfl
   have hnb:∀ b,q.B b→¬ b=h.next:=λb ⟨i,hi⟩ e=>by have:=a.lt b i hi;omega
   have a2:=a1.grew g2 hnb
   have c2':=jO (h:=H) h.next [.string (Tx nm),.int .i64 ky,.int .i64 (w.vs.getD w.ap.length 0)] 31 false
   have hlH2:=qK g2 hlH
   have n2:(H.put h.next (O [.string (Tx nm),.int .i64 ky,.int .i64 (w.vs.getD w.ap.length 0)] 31 false)).next=h.next+1:=by rw[jN,n1]
   have hc2:=g2.cellsE hc (kE a1) (by have:=hnb q.p ⟨0,rfl⟩;exact this)
   have hlo2:(H.put h.next (O [.string (Tx nm),.int .i64 ky,.int .i64 (w.vs.getD w.ap.length 0)] 31 false)).lo=H.lo:=qI _ _
   rw[e1] at hc hc2
   simp(disch:=first|omega|(apply id;simp only[push_cast];first|done|omega))only[push_cast,Nat.reduceAdd,Nat.reduceMul,Nat.reduceSub,Nat.reduceLT,Nat.reduceEqDiff,Nat.reduceLeDiff,Int.reduceToNat,reduceCtorEq,Int.reduceLT,Int.reduceLE,Int.reduceAdd,Int.reduceSub,Int.reduceMul,Int.reduceNeg,Int.reduceEq,hc,hl,h1',hv',Z4,ld,c1,hbl]
   generalize H.put h.next (O [.string (Tx nm),.int .i64 ky,.int .i64 (w.vs.getD w.ap.length 0)] 31 false)=H2 at *
   obtain ⟨a',c',h2,e2,c2,l2,s2,P,gg⟩:=iV0 a2 hlH2 Z0 ⟨nm,ky,w.vs.getD w.ap.length 0⟩
   unfold xcs at c2 s2
   rw[e1] at c2 s2 P
   unfold evC at e2
   dsimp only at e2
   have cA:=λx=>Gr.cells ((Gr.refl H2).add' x) hc2 (kE a2)
   have cb2:=gg.cellsE c2' Z0 (λhb=>by have:=a.lt h.next 4 hb;omega)
   have l2':h2.lo=H.lo:=Z0
   simp(disch:=first|omega|(apply id;simp only[push_cast];first|done|omega))only[push_cast,Nat.reduceAdd,Nat.reduceMul,Nat.reduceSub,Nat.reduceLT,Nat.reduceEqDiff,Nat.reduceLeDiff,Int.reduceToNat,reduceCtorEq,Int.reduceLT,Int.reduceLE,Int.reduceAdd,Int.reduceSub,Int.reduceMul,Int.reduceNeg,Int.reduceEq,hc2,hl,hlo2,c2',hbl,nY1,cA,e2,c2,l2',s2,cb2]
   obtain ⟨⟨q',hq',a',hB'⟩,g'⟩:=P
   exact ⟨⟨q',hq',XAt.kp a' _,λb hb=>(hB' b hb).imp id λh=>by omega⟩,((jI.mono g1 (T:=q.B) λ_ _ h=>h.elim).tr' g2 λb hb e=>by omega).tr' g' λb _ h=>h⟩
  ·have hv':¬ (w.ap.length:Int)<(w.vs.length:Int):=Z0
   have hA:jY w ⟨nm,ky,vl⟩=(vl,{ w with ap:=w.ap++[⟨nm,ky,vl⟩],kp:=w.kp++[⟨nm,ky,vl⟩] }):=by unfold jY;rw[hk,hno];simp only[if_neg hv]
   rw[hA]
   obtain ⟨a',c',h2,e2,c2,l2,s2,P,gg⟩:=iV0 a1 hlH Z0 ⟨nm,ky,vl⟩
   unfold xcs at c2 s2
   unfold evC at e2
   dsimp only at e2
   have cA:=λx=>Gr.cells ((Gr.refl H).add' x) hc (kE a1)
   have cb2:=gg.cellsE c1 Z0 (λhb=>by have:=a.lt h.next 4 hb;omega)
   simp(disch:=first|omega|(apply id;simp only[push_cast];first|done|omega))only[push_cast,Nat.reduceAdd,Nat.reduceMul,Nat.reduceSub,Nat.reduceLT,Nat.reduceEqDiff,Nat.reduceLeDiff,Int.reduceToNat,reduceCtorEq,Int.reduceLT,Int.reduceLE,Int.reduceAdd,Int.reduceSub,Int.reduceMul,Int.reduceNeg,Int.reduceEq,hc,hl,h1',hv',c1,hbl,nY1,cA,e2,c2,l2,s2,cb2]
   obtain ⟨⟨q',hq',a',hB'⟩,g'⟩:=P
   exact ⟨⟨q',hq',XAt.kp a' _,λb hb=>(hB' b hb).imp id λh=>by omega⟩,(jI.mono g1 λ_ _ h=>h.elim).tr' g' λb _ h=>h⟩
end
end Go.Proofs.Ytejgmoenmbjidaa
namespace Go.Proofs.Ytejgmoenmbjidaa
open Go Go.RowKit Go.Ev
noncomputable section
set_option maxRecDepth 100000
variable (G:Nat) (h:jB)
theorem qA1 {q:Xp}{w:Wi}(a:XAt h q w)(hn:w.fl.length<90000)(hna:w.ap.length<90000)(hno:w.op.length<90000)(hr:Ris (w.op.map (·.key)))(hk:w.kp=w.ap)(i:Int) :
  jG (pp G) 16 [.pointer (some ⟨q.p,0,none⟩),.int .i64 i] h (λv h'=>v=.tuple ⟨[.agg ⟨evC (jQ w i).1.1⟩,.bool (jQ w i).1.2]⟩∧qB0 h q (jQ w i).2 h'):=by
 refine jG.fir4 (jW G) fir16 rfl rfl (lC1 ..) λhlo=>?_
 rw[eP1]
 have hz:evC e0=[.string (Tx []),.int .i64 0,.int .i64 0]:=rfl
 have g1:Gr h (h.add (O [.string (Tx []),.int .i64 0,.int .i64 0] 31 false)):=jI.add _ _ _
 have n1:(h.add (O [.string (Tx []),.int .i64 0,.int .i64 0] 31 false)).next=h.next+1:=jH _
 have c1:=jP (h:=h) [.string (Tx []),.int .i64 0,.int .i64 0] 31 false h.next rfl
 have l1:=g1.lo
 have a1:=a.grew g1 λ_ _ h=>h
 have hc:=a1.cell
 have hl:=a1.lo
 have hp:=kE a
 have hnb:∀ b,q.B b→b<h.next:=λb ⟨i,hi⟩=>a.lt b i hi
 have lb:h.lo≤h.next:=hlo
 unfold xcs at hc
 by_cases h0:i<0
 ·have hd:jQ w i=((e0,false),w):=by unfold jQ;rw[if_neg Z0]
  rw[hd,hz]
  simp(disch:=first|omega|(apply id;simp only[push_cast];first|done|omega))only[push_cast,Nat.reduceAdd,Nat.reduceMul,Nat.reduceSub,Nat.reduceLT,Nat.reduceEqDiff,Nat.reduceLeDiff,Int.reduceToNat,reduceCtorEq,Int.reduceLT,Int.reduceLE,Int.reduceAdd,Int.reduceSub,Int.reduceMul,Int.reduceNeg,Int.reduceEq,h0,c1,lb,l1]
  have g2:=g1.put' h.next (O [.string (Tx []),.int .i64 0,.int .i64 0] 31 false) (Z3 _)
  exact ⟨⟨q,rfl,a.grew g2 λ_ _ h=>h,λb hb=>.inl hb⟩,jI.mono g2 λ_ _ h=>h.elim⟩
 by_cases h1:i<w.fl.length
 ·obtain ⟨j,rfl⟩:∃ j:Nat,i=(j:Int):=⟨i.toNat,Z0⟩
  have hge:¬ (j:Int) ≥ (w.fl.length:Int):=Z0
  obtain ⟨m,hm⟩:∃ m,w.fl[j]?=some m:=⟨_,List.getElem?_eq_getElem Z0⟩
  obtain ⟨b,e1,ld⟩:=bI1 a1.fl qA Z1 hm cK0
  rw[e1] at hc
  obtain ⟨bk,⟨nm,ky,vl⟩⟩:=m
  unfold msC evC at ld
  dsimp only at ld
  rw[l1] at ld hl
  have gH:Gr h (((h.add (O [.string (Tx []),.int .i64 0,.int .i64 0] 31 false)).add (O [.bool false,.string (Tx []),.int .i64 0,.int .i64 0] 62 false)).put (h.next+1) (O [.bool bk,.string (Tx nm),.int .i64 ky,.int .i64 vl] 62 false)):=(((Gr.refl h).add' _).add' _).put' (h.next+1) _ Z0
  have nH:(((h.add (O [.string (Tx []),.int .i64 0,.int .i64 0] 31 false)).add (O [.bool false,.string (Tx []),.int .i64 0,.int .i64 0] 62 false)).put (h.next+1) (O [.bool bk,.string (Tx nm),.int .i64 ky,.int .i64 vl] 62 false)).next=h.next+2:=by rw[jN,jH,n1]
  have cm:=jO (h:=(h.add (O [.string (Tx []),.int .i64 0,.int .i64 0] 31 false)).add (O [.bool false,.string (Tx []),.int .i64 0,.int .i64 0] 62 false)) (h.next+1) [.bool bk,.string (Tx nm),.int .i64 ky,.int .i64 vl] 62 false
  have cz:cells (((h.add (O [.string (Tx []),.int .i64 0,.int .i64 0] 31 false)).add (O [.bool false,.string (Tx []),.int .i64 0,.int .i64 0] 62 false)).put (h.next+1) (O [.bool bk,.string (Tx nm),.int .i64 ky,.int .i64 vl] 62 false)) h.next=some ([.string (Tx []),.int .i64 0,.int .i64 0],31,false):=by rw[qH _ _ _ Z0,kN _ _ (by rw[n1];omega)];exact c1
  simp(disch:=first|omega|(apply id;simp only[push_cast];first|done|omega))only[push_cast,Nat.reduceAdd,Nat.reduceMul,Nat.reduceSub,Nat.reduceLT,Nat.reduceEqDiff,Nat.reduceLeDiff,Int.reduceToNat,reduceCtorEq,Int.reduceLT,Int.reduceLE,Int.reduceAdd,Int.reduceSub,Int.reduceMul,Int.reduceNeg,Int.reduceEq,hc,hl,h0,h1,hge,Z4,ld,hlo,n1,c1,l1]
  generalize ((h.add (O [.string (Tx []),.int .i64 0,.int .i64 0] 31 false)).add (O [.bool false,.string (Tx []),.int .i64 0,.int .i64 0] 62 false)).put (h.next+1) (O [.bool bk,.string (Tx nm),.int .i64 ky,.int .i64 vl] 62 false)=H at *
  have aH:=a.grew gH λ_ _ h=>h
  have lH:=gH.lo
  clear hc
  refine jG.to (bR1 G H aH Z0 j) ?_
  rintro _ h3 ⟨rfl,⟨⟨q3,hq3,a3,hB3⟩,g3⟩⟩
  have n3:=g3.next
  have l3:=g3.lo
  have cz3:=g3.cellsE cz Z0 (λhb=>by have:=hnb _ hb;omega)
  have cm3:=g3.cellsE cm Z0 (λhb=>by have:=hnb _ hb;omega)
  have hlo3:=qK g3 (qK gH hlo)
  have hB3':∀ b,q3.B b→b<h.next∨h.next+2≤b:=λb hb=>(hB3 b hb).imp (hnb b) λh=>by omega
  have hdl:(jX w j).fl.length≤w.fl.length:=by
   unfold jX
   split
   ·exact (List.eraseIdx_sublist ..).length_le
   ·exact Z3 _
  have hda:(jX w j).ap=w.ap:=by unfold jX;split<;>rfl
  have hdk:(jX w j).kp=(jX w j).ap:=by unfold jX;split<;>exact hk
  have hdo:=iH0 w j
  have fin:∀ {q5:Xp} {w5:Wi} {h5 h6:jB},q5.p=q3.p→XAt h5 q5 w5→(∀ b,q5.B b→q3.B b∨h3.next≤b)→jI h3 h5 (λb=>q3.B b∨b=h.next+1)→jI h5 h6 (λb=>b=h.next)→qB0 h q w5 h6:=λe1 e2 e3 e4 e5=>by
   refine ⟨⟨_,e1.trans hq3,e2.grew e5 λb hb e=>?_,λb hb=>?_⟩,(((jI.mono gH (T:=q.B) λ_ _ h=>h.elim).tr' g3 λb _ h=>h).tr' e4 λb hlt e=>?_).tr' e5 λb hlt e=>by omega⟩
   ·rcases e3 b hb with h1|h1
    ·have:=hB3' b h1;omega
    ·omega
   ·rcases e3 b hb with h1|h1
    ·exact (hB3 b h1).imp id λh=>by omega
    ·exact .inr Z0
   ·rcases e with e|e
    ·exact (hB3 b e).elim id λh=>by omega
    ·omega
  cases bk with
  | false=>
   have hD:jQ w j=((e0,false),{ (jY (jX w j) ⟨nm,ky,vl⟩).2 with fl:=(jY (jX w j) ⟨nm,ky,vl⟩).2.fl++[⟨true,⟨nm,ky,(jY (jX w j) ⟨nm,ky,vl⟩).1⟩⟩] }):=by unfold jQ;rw[if_pos ⟨Z0,h1⟩,Z4,hm];rfl
   rw[hD,hz]
   have A:=iT1 G h3 a3 (by rw[hda];omega) hdk ⟨nm,ky,vl⟩
   rw[hq3] at A
   unfold evC at A
   simp(disch:=first|omega|(apply id;simp only[push_cast];first|done|omega))only[push_cast,Nat.reduceAdd,Nat.reduceMul,Nat.reduceSub,Nat.reduceLT,Nat.reduceEqDiff,Nat.reduceLeDiff,Int.reduceToNat,reduceCtorEq,Int.reduceLT,Int.reduceLE,Int.reduceAdd,Int.reduceSub,Int.reduceMul,Int.reduceNeg,Int.reduceEq,cm3,l3,lH,hlo]
   refine jG.to A ?_
   rintro _ h4 ⟨rfl,⟨⟨q4,hq4,a4,hB4⟩,g4⟩⟩
   have n4:=g4.next
   have l4:=g4.lo
   have cz4:=g4.cellsE cz3 Z0 (λhb=>by have:=hB3' _ hb;omega)
   have cm4:=g4.cellsE cm3 Z0 (λhb=>by have:=hB3' _ hb;omega)
   have hB4':∀ b,q4.B b→b<h.next∨h.next+2≤b:=λb hb=>(hB4 b hb).elim (hB3' b) λh=>by omega
   have g5:=λx=>(jI.refl h4 (λb=>b=h.next+1)).put'' (h.next+1) x λ_=>rfl
   have a5:=λx=>a4.grew (g5 x) λb hb e=>by have:=hB4' b hb;omega
   obtain ⟨hal,hao⟩:(jY (jX w j) ⟨nm,ky,vl⟩).2.fl=(jX w j).fl∧True:=⟨by unfold jY;cases kF ky (jX w j).kp<;>rfl,trivial⟩
   have hlo4:=qK g4 hlo3
   obtain ⟨af,cf,h6,e6,c6,l6,s6,P6,gg6⟩:=bE0 (a5 (O [.bool false,.string (Tx nm),.int .i64 ky,.int .i64 (jY (jX w j) ⟨nm,ky,vl⟩).1] 62 false)) (by rw[qI,jN];exact hlo4) (by rw[hal];omega) ⟨true,⟨nm,ky,(jY (jX w j) ⟨nm,ky,vl⟩).1⟩⟩
   unfold msC evC at e6
   dsimp only at e6
   have hp4:q4.p=q.p:=hq4.trans hq3
   have hpp:q.p≠h.next+1:=Z0
   have c4:=a4.cell
   have c5:=(a5 (O [.bool false,.string (Tx nm),.int .i64 ky,.int .i64 (jY (jX w j) ⟨nm,ky,vl⟩).1] 62 false)).cell
   have cA:=λx=>Gr.cells ((Gr.refl (h4.put (h.next+1) (O [.bool false,.string (Tx nm),.int .i64 ky,.int .i64 (jY (jX w j) ⟨nm,ky,vl⟩).1] 62 false))).add' x) c5 (kE (a5 _))
   unfold xcs at c4 c5 c6 s6 cA
   have cz5:cells (h4.put (h.next+1) (O [.bool false,.string (Tx nm),.int .i64 ky,.int .i64 (jY (jX w j) ⟨nm,ky,vl⟩).1] 62 false)) h.next=_:=(qH _ _ _ Z0).trans cz4
   have cz6:=gg6.cellsE cz5 (by rw[jN];omega) (λhb=>by have:=hB4' _ ⟨3,hb⟩;omega)
   rw[hp4] at c4 c5 c6 s6 cA P6
   rw[jN] at e6
   rw[qI] at l6
   have l6':h6.lo=h.lo:=Z0
   simp(disch:=first|omega|(apply id;simp only[push_cast];first|done|omega))only[push_cast,Nat.reduceAdd,Nat.reduceMul,Nat.reduceSub,Nat.reduceLT,Nat.reduceEqDiff,Nat.reduceLeDiff,Int.reduceToNat,reduceCtorEq,Int.reduceLT,Int.reduceLE,Int.reduceAdd,Int.reduceSub,Int.reduceMul,Int.reduceNeg,Int.reduceEq,cm4,l4,l3,lH,hlo,hl,c5,zR0,cA,e6,c6,l6',s6,cz6]
   obtain ⟨⟨q7,hq7,a7,hB7⟩,g7⟩:=P6
   exact fin (hq7.trans hq4) a7 (λb hb=>(hB7 b hb).elim (hB4 b) λh=>by rw[jN] at h;exact .inr Z0) (((g4.mono λb _ h=>.inl h).tr' (g5 _) λb _ h=>.inr h).tr' g7 λb hlt h=>(hB4 b h).elim .inl λh=>by omega) ((jI.refl _ (λb=>b=h.next)).put'' h.next _ λ_=>rfl)
  | true=>
   have F:=jP1 G h3 a3 (by rw[hdo];omega) ky
   rw[hq3,hdo] at F
   simp(disch:=first|omega|(apply id;simp only[push_cast];first|done|omega))only[push_cast,Nat.reduceAdd,Nat.reduceMul,Nat.reduceSub,Nat.reduceLT,Nat.reduceEqDiff,Nat.reduceLeDiff,Int.reduceToNat,reduceCtorEq,Int.reduceLT,Int.reduceLE,Int.reduceAdd,Int.reduceSub,Int.reduceMul,Int.reduceNeg,Int.reduceEq,cm3,l3,lH,hlo]
   refine jG.to F ?_
   rintro _ _ ⟨rfl,e⟩
   rw[e]
   clear e
   have hik:=yA0 ky w.op hr
   cases hki:isK ky w.op with
   | false=>
    have hD:jQ w j=((e0,false),jX w j):=by unfold jQ;rw[if_pos ⟨Z0,h1⟩,Z4,hm];dsimp only;rw[if_pos rfl,if_neg (by rw[← hik,hki];decide)]
    rw[hD,hz]
    simp(disch:=first|omega|(apply id;simp only[push_cast];first|done|omega))only[push_cast,Nat.reduceAdd,Nat.reduceMul,Nat.reduceSub,Nat.reduceLT,Nat.reduceEqDiff,Nat.reduceLeDiff,Int.reduceToNat,reduceCtorEq,Int.reduceLT,Int.reduceLE,Int.reduceAdd,Int.reduceSub,Int.reduceMul,Int.reduceNeg,Int.reduceEq,cm3,cz3,l3,lH,hlo]
    exact fin rfl a3 (λb hb=>.inl hb) (jI.refl _ _) ((jI.refl _ (λb=>b=h.next)).put'' h.next _ λ_=>rfl)
   | true=>
    have hD:jQ w j=((⟨nm,ky,vl⟩,true),uY (jX w j) ky):=by unfold jQ;rw[if_pos ⟨Z0,h1⟩,Z4,hm];dsimp only;rw[if_pos rfl,if_pos (by rw[← hik,hki])]
    rw[hD]
    unfold evC
    have FG:=lZ0 G h3 a3 (by rw[hdo];omega) (by rw[hdo];exact hr) ky
    rw[hq3] at FG
    simp(disch:=first|omega|(apply id;simp only[push_cast];first|done|omega))only[push_cast,Nat.reduceAdd,Nat.reduceMul,Nat.reduceSub,Nat.reduceLT,Nat.reduceEqDiff,Nat.reduceLeDiff,Int.reduceToNat,reduceCtorEq,Int.reduceLT,Int.reduceLE,Int.reduceAdd,Int.reduceSub,Int.reduceMul,Int.reduceNeg,Int.reduceEq,cm3,l3,lH,hlo]
    refine jG.to FG ?_
    rintro _ h4 ⟨rfl,⟨⟨q4,hq4,a4,hB4⟩,g4⟩⟩
    have n4:=g4.next
    have l4:=g4.lo
    have cz4:=g4.cellsE cz3 Z0 (λhb=>by have:=hB3' _ hb;omega)
    have cm4:=g4.cellsE cm3 Z0 (λhb=>by have:=hB3' _ hb;omega)
    simp(disch:=first|omega|(apply id;simp only[push_cast];first|done|omega))only[push_cast,Nat.reduceAdd,Nat.reduceMul,Nat.reduceSub,Nat.reduceLT,Nat.reduceEqDiff,Nat.reduceLeDiff,Int.reduceToNat,reduceCtorEq,Int.reduceLT,Int.reduceLE,Int.reduceAdd,Int.reduceSub,Int.reduceMul,Int.reduceNeg,Int.reduceEq,cm4,cz4,l4,l3,lH,hlo]
    exact fin hq4 a4 hB4 (g4.mono λb _ h=>.inl h) ((jI.refl _ (λb=>b=h.next)).put'' h.next _ λ_=>rfl)
 ·have hge:i ≥ (w.fl.length:Int):=Z0
  have hd:jQ w i=((e0,false),w):=by unfold jQ;rw[if_neg Z0]
  rw[hd,hz]
  simp(disch:=first|omega|(apply id;simp only[push_cast];first|done|omega))only[push_cast,Nat.reduceAdd,Nat.reduceMul,Nat.reduceSub,Nat.reduceLT,Nat.reduceEqDiff,Nat.reduceLeDiff,Int.reduceToNat,reduceCtorEq,Int.reduceLT,Int.reduceLE,Int.reduceAdd,Int.reduceSub,Int.reduceMul,Int.reduceNeg,Int.reduceEq,hc,hl,h0,hge,c1,lb,l1]
  have g2:=g1.put' h.next (O [.string (Tx []),.int .i64 0,.int .i64 0] 31 false) (Z3 _)
  exact ⟨⟨q,rfl,a.grew g2 λ_ _ h=>h,λb hb=>.inl hb⟩,jI.mono g2 λ_ _ h=>h.elim⟩
end
end Go.Proofs.Ytejgmoenmbjidaa
