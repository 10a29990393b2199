/-
  A part of the proof: what the program's functions hand back,as theorems. No condition but those that each theorem names.
-/
import Derived.Test.YtejgmoenmbjidaaVa
set_option linter.unusedSimpArgs false
set_option linter.unusedVariables false
namespace Go.Proofs.Ytejgmoenmbjidaa
open Go Go.RowKit Go.Ev
noncomputable section
set_option maxRecDepth 100000
variable (G:Nat) (h:jB)
theorem yO0 {T e n by_:Nat}(hT:appT Try.prog T T=some (e,n,by_))(hn:0<n){H h1:jB}(g:Gr H h1)(hlo:h1.lo≤h1.next){a:Z8 Addr}{len c:Nat}{cs:List Z6}(o:Own h1 e n a len c cs)(hb:∀ b,blk a b→H.next≤b)
  {av:Z8 Addr} {cv m:Nat} {xs:List Z6} (hs:Sl h1 av xs) (hl:xs.length=m*n) (hf:∀ k,jT k xs=true) (hbd:(len+m)*by_≤140737488355328∧(len+m)<100000000000000) :
  ∃ a' c' h',jE Try.prog T T (.slice a len c) (.slice av m cv) h1=some (.slice a' (len+m) c',h')∧Own h' e n a' (len+m) c' (cs++xs)∧Gr H h'∧(∀ b,blk a' b→H.next≤b)∧jI h1 h' (blk a):=by
 obtain ⟨a',c',h',e1,o1,g1,b1⟩:=gG (P:=Try.prog) hT o hlo (x:=.slice av m cv) (m:=m) (xs:=xs) rfl (Sl.src hs hl hn) hl (hf _) hbd
 have:=g.next
 refine ⟨a',c',h',e1,o1,g.tr' g1 λb hlt hb'=>by have:=hb b hb';omega,λb hb'=>?_,g1⟩
 rcases b1 b hb' with h2|h2
 ·exact hb b h2
 ·omega
theorem rowO (h:jB)(s:ByteArray)(k v t u:Int):bsC 1 81 h (wV0 (List.map (λi=>(i*5,5)) (List.range 1)) (List.replicate 1 [Value.string (Tx []),Value.int IntKind.i64 0,Value.int IntKind.i64 0,Value.int IntKind.i64 0,Value.int IntKind.i64 0]).flatten
  (.agg ⟨[.string s,.int .i64 k,.int .i64 v,.int .i64 t,.int .i64 u]⟩) [] (List.map (λi=>(i*5,5)) (List.range 1))[0]?)=some (.slice (some ⟨h.next,0,none⟩) 1 1,h.add (O [.string s,.int .i64 k,.int .i64 v,.int .i64 t,.int .i64 u] 81 false)):=Z7
theorem zR0 (h:jB)(s:ByteArray)(b:Zb)(k v:Int):bsC 1 62 h (wV0 (List.map (λi=>(i*4,4)) (List.range 1)) (List.replicate 1 [Value.bool false,Value.string (Tx []),Value.int IntKind.i64 0,Value.int IntKind.i64 0]).flatten
  (.agg ⟨[.bool b,.string s,.int .i64 k,.int .i64 v]⟩) [] (List.map (λi=>(i*4,4)) (List.range 1))[0]?)=some (.slice (some ⟨h.next,0,none⟩) 1 1,h.add (O [.bool b,.string s,.int .i64 k,.int .i64 v] 62 false)):=Z7
structure AskO (H:jB)(l:List Opn)(j:Nat)(o:Opn)(a3:Z8 Addr)(c3:Nat)(h3:jB):Prop where
 g:Gr H h3
 o:Own h3 81 5 a3 (j+1+(l.length-j)) c3 (rw opC (l.take j++o :: l.drop j))
 b:∀ b,blk a3 b→H.next≤b
theorem wK0 {H:jB}(hlo:H.lo≤H.next){l:List Opn}(hn:l.length<100000){j:Nat}(hj:j≤l.length){v1 v2:Z6}(p1:Pc H j (rw opC (l.take j)) v1)(p2:Pc H (l.length-j) (rw opC (l.drop j)) v2)(o:Opn) :
  ∃ a1 c1 h1 a2 c2 h2 a3 c3 h3,jE Try.prog 56 56 (.slice (some ⟨H.next,0,none⟩) 0 0) v1 (H.add (O [] 81 false))=some (.slice a1 j c1,h1)∧
   jE Try.prog 56 56 (.slice a1 j c1) (.slice (some ⟨h1.next,0,none⟩) 1 1) (h1.add (O (opC o) 81 false))=some (.slice a2 (j+1) c2,h2)∧
   jE Try.prog 56 56 (.slice a2 (j+1) c2) v2 h2=some (.slice a3 (j+1+(l.length-j)) c3,h3)∧Gr H (H.add (O [] 81 false))∧Gr H h1∧Gr H (h1.add (O (opC o) 81 false))∧Gr H h2∧AskO H l j o a3 c3 h3:=by
 obtain ⟨o0,g0,b0⟩:=qL0 (h:=H) 81 5 hlo
 obtain ⟨s1,t1,rfl,sl1,bb1⟩:=p1.has
 obtain ⟨s2,t2,rfl,sl2,bb2⟩:=p2.has
 obtain ⟨a1,c1,h1,e1,o1,g1,b1,_⟩:=yO0 qO Z1 g0 (qK g0 hlo) o0 b0 (Sl.grew sl1 g0 λb hb _=>⟨bb1 b hb,id⟩) (m:=j) (cv:=t1) (by rw[qE qD,List.length_take];omega) (λk=>qW _ (gI _) _) (by constructor<;>omega)
 rw[Nat.zero_add] at e1 o1
 rw[List.nil_append] at o1
 have gX:Gr H (h1.add (O (opC o) 81 false)):=g1.tr' (jI.add _ _ _) λ_ _ h=>h
 have lX:=qK gX hlo
 have l1:=qK g1 hlo
 have sX:Sl (h1.add (O (opC o) 81 false)) (some ⟨h1.next,0,none⟩) (opC o):=Sl.row (jP _ _ _ _ rfl) (by rw[jS];exact l1)
 obtain ⟨a2,c2,h2,e2,o2,g2,b2,_⟩:=yO0 qO Z1 gX lX (o1.grew (jI.add h1 (O (opC o) 81 false) (λ_=>False)) λ_ _ _ h=>h) b1 sX (m:=1) (cv:=1) (qD o) (λk=>gI _ o) (by constructor<;>omega)
 obtain ⟨a3,c3,h3,e3,o3,g3,b3,_⟩:=yO0 qO Z1 g2 (qK g2 hlo) o2 b2 (Sl.grew sl2 g2 λb hb _=>⟨bb2 b hb,id⟩) (m:=l.length-j) (cv:=t2) (by rw[qE qD,List.length_drop]) (λk=>qW _ (gI _) _) (by constructor<;>omega)
 rw[← show rw opC [o]=opC o from by simp[rw],← kW,← kW,List.append_assoc,List.singleton_append] at o3
 exact ⟨a1,c1,h1,a2,c2,h2,a3,c3,h3,e1,e2,e3,g0,g1,gX,g2,g3,o3,b3⟩
theorem kX {H:jB}(hlo:H.lo≤H.next){l:List Opn}(hn:l.length<100000){j:Nat}(hj:j≤l.length){v1 v2:Z6}(p1:Pc H j (rw opC (l.take j)) v1)(p2:Pc H (l.length-j) (rw opC (l.drop j)) v2)(o:Opn)
  {hX:jB} {bl bx:Nat} (gX:Gr H hX) (cl:Own hX 81 5 (some ⟨bl,0,none⟩) 0 0 []) (cx:cells hX bx=some (opC o,81,false)) (hbl:H.next≤bl) (hbx:H.next≤bx∧bx<hX.next) (hne:bl≠bx) :
  ∃ a1 c1 h1 a2 c2 h2 a3 c3 h3,jE Try.prog 56 56 (.slice (some ⟨bl,0,none⟩) 0 0) v1 hX=some (.slice a1 j c1,h1)∧
   jE Try.prog 56 56 (.slice a1 j c1) (.slice (some ⟨bx,0,none⟩) 1 1) h1=some (.slice a2 (j+1) c2,h2)∧
   jE Try.prog 56 56 (.slice a2 (j+1) c2) v2 h2=some (.slice a3 (j+1+(l.length-j)) c3,h3)∧Gr H h1∧Gr H h2∧AskO H l j o a3 c3 h3:=by
 obtain ⟨s1,t1,rfl,sl1,bb1⟩:=p1.has
 obtain ⟨s2,t2,rfl,sl2,bb2⟩:=p2.has
 have hX0:=qK gX hlo
 obtain ⟨a1,c1,h1,e1,o1,g1,b1,gg⟩:=yO0 qO Z1 gX hX0 cl (λb hb=>by obtain ⟨o,s,e⟩:=hb;cases e;exact hbl) (Sl.grew sl1 gX λb hb _=>⟨bb1 b hb,id⟩) (m:=j) (cv:=t1) (by rw[qE qD,List.length_take];omega) (λk=>qW _ (gI _) _) (by constructor<;>omega)
 rw[Nat.zero_add] at e1 o1
 rw[List.nil_append] at o1
 have l1:=qK g1 hlo
 have cx1:=gg.cellsE cx hbx.2 (λhb=>by obtain ⟨o,s,e⟩:=hb;cases e;exact hne rfl)
 have hl1:=g1.lo
 have sX:Sl h1 (some ⟨bx,0,none⟩) (opC o):=Sl.row cx1 Z0
 obtain ⟨a2,c2,h2,e2,o2,g2,b2,_⟩:=yO0 qO Z1 g1 l1 o1 b1 sX (m:=1) (cv:=1) (qD o) (λk=>gI _ o) (by constructor<;>omega)
 obtain ⟨a3,c3,h3,e3,o3,g3,b3,_⟩:=yO0 qO Z1 g2 (qK g2 hlo) o2 b2 (Sl.grew sl2 g2 λb hb _=>⟨bb2 b hb,id⟩) (m:=l.length-j) (cv:=t2) (by rw[qE qD,List.length_drop]) (λk=>qW _ (gI _) _) (by constructor<;>omega)
 rw[← show rw opC [o]=opC o from by simp[rw],← kW,← kW,List.append_assoc,List.singleton_append] at o3
 exact ⟨a1,c1,h1,a2,c2,h2,a3,c3,h3,e1,e2,e3,g1,g2,g3,o3,b3⟩
theorem mT1 {h h4:jB}{q:Xp}{w:Wi}(a:XAt h q w){a4:Z8 Addr}{n4 c4:Nat}{l4:List Opn}(g:Gr h h4)(o:Own h4 81 5 a4 n4 c4 (rw opC l4))(hn:l4.length=n4)(hb:∀ b,blk a4 b→h.next≤b) :
  XAt (h4.put q.p (O [.slice q.av w.vs.length q.cv,.slice a4 n4 c4,.slice q.af w.fl.length q.cf,.slice q.aa w.ap.length q.ca,.int .i64 w.ck] 59 false)) { q with ao:=a4,co:=c4 } { w with op:=l4 }:=by
 subst hn
 have hne:∀ b,blk a4 b→¬ b=q.p:=λb hb' e=>by have:=hb b hb';have:=kE a;omega
 exact a.setO ((jI.mono g (T:=λb=>b=q.p∨blk q.ao b) λ_ _ h=>h.elim).put'' _ _ λ_=>.inl rfl) (jO _ _ _ _) (o.grew ((jI.refl h4 _).put'' (S:=λb=>b=q.p) _ _ λ_=>rfl) λb hb' _ e=>hne b hb' e) λb hb'=>.inr (hb b hb')
theorem bE0 {K:jB}{q:Xp}{w:Wi}(a:XAt K q w)(hlo:K.lo≤K.next)(hn:w.fl.length<1000000)(m:Msg):∃ a' c' h2,jE Try.prog 57 57 (.slice q.af w.fl.length q.cf) (.slice (some ⟨K.next,0,none⟩) 1 1) (K.add (O (msC m) 62 false))=some (.slice a' (w.fl.length+1) c',h2)∧
  cells h2 q.p=some (xcs q w,59,false)∧h2.lo=K.lo∧stC 1 2 (.slice a' (w.fl.length+1) c') h2 q.p (some (xcs q w,59,false))=some (undef,h2.put q.p (O [.slice q.av w.vs.length q.cv,.slice q.ao w.op.length q.co,.slice a' (w.fl.length+1) c',.slice q.aa w.ap.length q.ca,.int .i64 w.ck] 59 false))∧
  qB0 K q { w with fl:=w.fl++[m] } (h2.put q.p (O [.slice q.av w.vs.length q.cv,.slice q.ao w.op.length q.co,.slice a' (w.fl.length+1) c',.slice q.aa w.ap.length q.ca,.int .i64 w.ck] 59 false))∧jI K h2 (blk q.af):=by
 have g1:Gr K (K.add (O (msC m) 62 false)):=jI.add _ _ _
 have n1:(K.add (O (msC m) 62 false)).next=K.next+1:=jH _
 have l1:(K.add (O (msC m) 62 false)).lo=K.lo:=jS _
 have s1:Sl (K.add (O (msC m) 62 false)) (some ⟨K.next,0,none⟩) (msC m):=Sl.row (jP _ _ _ _ rfl) Z0
 have hp:=kE a
 obtain ⟨a',c',h2,e2,o2,g2,b2⟩:=gG (P:=Try.prog) kH (a.fl.grew g1 λ_ _ _ h=>h) Z0 (x:=.slice (some ⟨K.next,0,none⟩) 1 1) (m:=1) rfl (Sl.src s1 (qA _) Z1) (qA _) (kT _ _) (by constructor<;>omega)
 have gg:jI K h2 (blk q.af):=(jI.mono g1 λ_ _ h=>h.elim).tr' g2 λb _ h=>h
 have hc:=gg.cellsE a.cell hp (λhb=>by have:=a.sep q.p 3 0 hb rfl;omega)
 have hl:=gg.lo
 have hlq:=a.lo
 rw[← show rw msC [m]=msC m from by simp[rw],← kW] at o2
 refine ⟨a',c',h2,e2,hc,hl,kY 1 2 _ _ _ _ _ rfl (qH0 o2 _ _) Z0 (by show 2+1≤5;omega),bD0 a gg o2 (by rw[List.length_append];rfl) λb hb=>(b2 b hb).imp id λh=>by omega,gg⟩
theorem qJ {H h3:jB}{q:Xp}{w:Wi}(a:XAt H q w)(hlo:H.lo≤H.next)(hn:w.fl.length<100000){j:Nat}(hj:j≤w.op.length){o:Opn}{a3:Z8 Addr}{c3:Nat}(r:AskO H w.op j o a3 c3 h3)(m:Msg){bx:Nat}{cb:List Z6×Zt×Zb}(hbx:cells H bx=some cb)(hb1:bx<H.next)(hb2:bx≠q.p) :
  stC 1 1 (.slice a3 (j+1+(w.op.length-j)) c3) h3 q.p (some (xcs q w,59,false))=some (undef,h3.put q.p (O [.slice q.av w.vs.length q.cv,.slice a3 (j+1+(w.op.length-j)) c3,.slice q.af w.fl.length q.cf,.slice q.aa w.ap.length q.ca,.int .i64 w.ck] 59 false))∧cells h3 q.p=some (xcs q w,59,false)∧h3.lo=H.lo∧cells h3 bx=some cb∧q.p<h3.next∧
  ∃ a' c' h2,jE Try.prog 57 57 (.slice q.af w.fl.length q.cf) (.slice (some ⟨h3.next,0,none⟩) 1 1) ((h3.put q.p (O [.slice q.av w.vs.length q.cv,.slice a3 (j+1+(w.op.length-j)) c3,.slice q.af w.fl.length q.cf,.slice q.aa w.ap.length q.ca,.int .i64 w.ck] 59 false)).add (O (msC m) 62 false))=some (.slice a' (w.fl.length+1) c',h2)∧
   cells h2 q.p=some ([.slice q.av w.vs.length q.cv,.slice a3 (j+1+(w.op.length-j)) c3,.slice q.af w.fl.length q.cf,.slice q.aa w.ap.length q.ca,.int .i64 w.ck],59,false)∧h2.lo=H.lo∧
   stC 1 2 (.slice a' (w.fl.length+1) c') h2 q.p (some ([.slice q.av w.vs.length q.cv,.slice a3 (j+1+(w.op.length-j)) c3,.slice q.af w.fl.length q.cf,.slice q.aa w.ap.length q.ca,.int .i64 w.ck],59,false))=some (undef,h2.put q.p (O [.slice q.av w.vs.length q.cv,.slice a3 (j+1+(w.op.length-j)) c3,.slice a' (w.fl.length+1) c',.slice q.aa w.ap.length q.ca,.int .i64 w.ck] 59 false))∧
   qB0 H q { w with op:=w.op.take j++o :: w.op.drop j,fl:=w.fl++[m] } (h2.put q.p (O [.slice q.av w.vs.length q.cv,.slice a3 (j+1+(w.op.length-j)) c3,.slice a' (w.fl.length+1) c',.slice q.aa w.ap.length q.ca,.int .i64 w.ck] 59 false)):=by
 have hp:=kE a
 have hlen:(w.op.take j++o :: w.op.drop j).length=j+1+(w.op.length-j):=by rw[List.length_append,List.length_cons,List.length_take,List.length_drop];omega
 have hc:=Gr.cells r.g a.cell hp
 have hl:=r.g.lo
 have hlq:=a.lo
 have n3:=r.g.next
 have aK:=mT1 a r.g r.o hlen r.b
 have gK:jI H (h3.put q.p (O [.slice q.av w.vs.length q.cv,.slice a3 (j+1+(w.op.length-j)) c3,.slice q.af w.fl.length q.cf,.slice q.aa w.ap.length q.ca,.int .i64 w.ck] 59 false)) q.B:=(r.g.mono λ_ _ h=>h.elim).put'' _ _ λ_=>⟨0,rfl⟩
 have nK:(h3.put q.p (O [.slice q.av w.vs.length q.cv,.slice a3 (j+1+(w.op.length-j)) c3,.slice q.af w.fl.length q.cf,.slice q.aa w.ap.length q.ca,.int .i64 w.ck] 59 false)).next=h3.next:=jN _ _
 have lK:=qK gK hlo
 obtain ⟨a',c',h2,e2,c2,l2,s2,P,gg⟩:=bE0 aK lK (by show w.fl.length<_;omega) m
 rw[nK] at e2
 unfold xcs at c2 s2
 dsimp only at e2 c2 s2 P gg
 rw[hlen] at c2 s2 P
 have lK2:=gK.lo
 refine ⟨kY 1 1 _ _ _ _ _ rfl (qH0 r.o _ _) Z0 (by show 1+1≤5;omega),hc,hl,Gr.cells r.g hbx hb1,Z0,a',c',h2,e2,c2,Z0,s2,?_⟩
 obtain ⟨⟨q',hq,a5,hB⟩,g5⟩:=P
 refine ⟨⟨q',hq,a5,λb hb=>?_⟩,gK.tr' g5 λb hlt hb=>?_⟩
 ·rcases hB b hb with ⟨i,hi⟩|h1
  ·by_cases e:i=2
   ·subst e;exact .inr (r.b b hi)
   ·exact .inl ⟨i,mS0 e hi⟩
  ·exact .inr Z0
 ·obtain ⟨i,hi⟩:=hb
  by_cases e:i=2
  ·subst e;have:=r.b b hi;omega
  ·exact ⟨i,mS0 e hi⟩
set_option maxHeartbeats 4000000 in
theorem ask_x {q:Xp}{w:Wi}(a:XAt h q w)(hck:0≤w.ck∧w.ck<1000000)(hno:w.op.length<100000)(hnf:w.fl.length<100000)(hr:Ris (w.op.map (·.key)))(e:Evt) :
  jG (pp G) 31 [.pointer (some ⟨q.p,0,none⟩),.agg ⟨evC e⟩] h (λv h'=>v=.tuple #[]∧qB0 h q (askW w e.nm e.key) h'):=by
 refine jG.fir4 (jW G) fir31 rfl rfl (lH1 ..) λhlo=>?_
 rw[eA1]
 unfold evC
 have g1:=λx=>(Gr.refl h).add' x
 have c1:=jP (h:=h) [.string (Tx e.nm),.int .i64 e.key,.int .i64 e.val] 31 false h.next rfl
 simp(disch:=first|omega|(apply id;simp only[push_cast];first|done|omega))only[push_cast,Nat.reduceAdd,Nat.reduceMul,Nat.reduceSub,Nat.reduceLT,Nat.reduceEqDiff,Nat.reduceLeDiff,Int.reduceToNat,reduceCtorEq,Int.reduceLT,Int.reduceLE,Int.reduceAdd,Int.reduceSub,Int.reduceMul,Int.reduceNeg,Int.reduceEq,c1,hlo]
 refine jG.to (jP1 G _ (a.grew (g1 _) λ_ _ h=>h) Z0 e.key) ?_
 rintro _ _ ⟨rfl,e1⟩
 rw[e1]
 clear e1
 cases hk:isK e.key w.op with
 | true=>
  have hd:askW w e.nm e.key=w:=by unfold askW;rw[if_pos (by rw[← yA0 e.key w.op hr];exact hk)]
  rw[hd]
  simp(disch:=first|omega|(apply id;simp only[push_cast];first|done|omega))only[push_cast,Nat.reduceAdd,Nat.reduceMul,Nat.reduceSub,Nat.reduceLT,Nat.reduceEqDiff,Nat.reduceLeDiff,Int.reduceToNat,reduceCtorEq,Int.reduceLT,Int.reduceLE,Int.reduceAdd,Int.reduceSub,Int.reduceMul,Int.reduceNeg,Int.reduceEq]
  exact ⟨⟨q,rfl,a.grew (g1 _) λ_ _ h=>h,λb hb=>.inl hb⟩,jI.mono (g1 _) λ_ _ h=>h.elim⟩
 | false=>
  have hd:askW w e.nm e.key={ w with op:=w.op.take (fnd e.key w.op)++⟨e.nm,e.key,w.ck+1,1⟩ :: w.op.drop (fnd e.key w.op),fl:=w.fl++[⟨false,⟨e.nm,e.key,0⟩⟩] }:=by
   unfold askW
   rw[if_neg (by rw[← yA0 e.key w.op hr,hk];decide),jM1]
  rw[hd]
  have hf:=jL1 e.key w.op
  generalize fnd e.key w.op=j at hf ⊢
  have g2:=λx y=>(g1 x).put' h.next y (Z3 _)
  have a2:=λx y=>a.grew (g2 x y) λ_ _ h=>h
  have hc:=a.cell
  have hl:=a.lo
  have hlt:=kE a
  have q2:=λx y=>Gr.cells (g2 x y) hc hlt
  have g3:=λx y z=>(g2 x y).add' z
  have g4:=λx y z t=>(g3 x y z).put' (h.next+1) t Z0
  have q3:=λx y z=>Gr.cells (g3 x y z) hc hlt
  have q4:=λx y z t=>Gr.cells (g4 x y z t) hc hlt
  have w1:IntKind.i64.wrap (w.ck+1)=w.ck+1:=wrap_i64 Z0 Z0
  unfold xcs at hc q2 q3 q4
  have gH:=g4 (O [.string (Tx e.nm),.int .i64 e.key,.int .i64 e.val] 31 false) (O [.string (Tx e.nm),.int .i64 e.key,.int .i64 0] 31 false) (O [.string (Tx []),.int .i64 0,.int .i64 0,.int .i64 0,.int .i64 0] 81 false) (O [.string (Tx e.nm),.int .i64 e.key,.int .i64 0,.int .i64 (w.ck+1),.int .i64 1] 81 false)
  have nH:((((h.add (O [.string (Tx e.nm),.int .i64 e.key,.int .i64 e.val] 31 false)).put h.next (O [.string (Tx e.nm),.int .i64 e.key,.int .i64 0] 31 false)).add (O [.string (Tx []),.int .i64 0,.int .i64 0,.int .i64 0,.int .i64 0] 81 false)).put (h.next+1) (O [.string (Tx e.nm),.int .i64 e.key,.int .i64 0,.int .i64 (w.ck+1),.int .i64 1] 81 false)).next=h.next+2:=by simp only[jN,jH]
  have cb:cells ((((h.add (O [.string (Tx e.nm),.int .i64 e.key,.int .i64 e.val] 31 false)).put h.next (O [.string (Tx e.nm),.int .i64 e.key,.int .i64 0] 31 false)).add (O [.string (Tx []),.int .i64 0,.int .i64 0,.int .i64 0,.int .i64 0] 81 false)).put (h.next+1) (O [.string (Tx e.nm),.int .i64 e.key,.int .i64 0,.int .i64 (w.ck+1),.int .i64 1] 81 false)) h.next=some ([.string (Tx e.nm),.int .i64 e.key,.int .i64 0],31,false):=by rw[qH _ _ _ Z0,kN _ _ (by rw[jN,jH];omega),jO]
  have cx:=jO (h:=(((h.add (O [.string (Tx e.nm),.int .i64 e.key,.int .i64 e.val] 31 false)).put h.next (O [.string (Tx e.nm),.int .i64 e.key,.int .i64 0] 31 false)).add (O [.string (Tx []),.int .i64 0,.int .i64 0,.int .i64 0,.int .i64 0] 81 false))) (h.next+1) [.string (Tx e.nm),.int .i64 e.key,.int .i64 0,.int .i64 (w.ck+1),.int .i64 1] 81 false
  simp(disch:=first|omega|(apply id;simp only[push_cast];first|done|omega))only[push_cast,Nat.reduceAdd,Nat.reduceMul,Nat.reduceSub,Nat.reduceLT,Nat.reduceEqDiff,Nat.reduceLeDiff,Int.reduceToNat,reduceCtorEq,Int.reduceLT,Int.reduceLE,Int.reduceAdd,Int.reduceSub,Int.reduceMul,Int.reduceNeg,Int.reduceEq,c1,hlo,q2,q3,q4,hl,w1]
  generalize (((h.add (O [.string (Tx e.nm),.int .i64 e.key,.int .i64 e.val] 31 false)).put h.next (O [.string (Tx e.nm),.int .i64 e.key,.int .i64 0] 31 false)).add (O [.string (Tx []),.int .i64 0,.int .i64 0,.int .i64 0,.int .i64 0] 81 false)).put (h.next+1) (O [.string (Tx e.nm),.int .i64 e.key,.int .i64 0,.int .i64 (w.ck+1),.int .i64 1] 81 false)=H at *
  have aH:=a.grew gH λ_ _ h=>h
  obtain ⟨nm,ky,vl⟩:=e
  dsimp only at cb cx hd ⊢
  clear g1 c1 g2 a2 q2 g3 g4 q3 q4 hc
  have fin:∀ h',qB0 H q { w with op:=w.op.take j++⟨nm,ky,w.ck+1,1⟩ :: w.op.drop j,fl:=w.fl++[⟨false,⟨nm,ky,0⟩⟩] } h'→qB0 h q { w with op:=w.op.take j++⟨nm,ky,w.ck+1,1⟩ :: w.op.drop j,fl:=w.fl++[⟨false,⟨nm,ky,0⟩⟩] } h':=λh' ⟨⟨q',h1,h2,h3⟩,h4⟩=>⟨⟨q',h1,h2,λb hb=>(h3 b hb).imp id λh=>by omega⟩,(gH.mono λ_ _ h=>h.elim).tr' h4 λb _ h=>h⟩
  have hloH:=qK gH hlo
  have hc:=aH.cell
  have hlH:=aH.lo
  have hlt:=kE aH
  have hx1:h.next+1<H.next:=Z0
  have hlt0:=kE a
  have hlH2:H.lo≤h.next:=by have:=gH.lo;omega
  have hlH3:H.lo≤h.next+1:=Z0
  unfold xcs at hc
  obtain ⟨o0,gA',b0⟩:=qL0 (h:=H) 81 5 hloH
  have gAX':Gr H ((H.add (O [] 81 false)).add (O [.string (Tx nm),.int .i64 ky,.int .i64 0,.int .i64 (w.ck+1),.int .i64 1] 81 false)):=((Gr.refl H).add' _).add' _
  have gAX:Gr H ((H.add (O [] 81 false)).add (O (opC ⟨nm,ky,w.ck+1,1⟩) 81 false)):=gAX'
  have oAX:Own ((H.add (O [] 81 false)).add (O (opC ⟨nm,ky,w.ck+1,1⟩) 81 false)) 81 5 (some ⟨H.next,0,none⟩) 0 0 []:=o0.grew (jI.add _ _ (λ_=>False)) λ_ _ _ h=>h
  have cAX:cells ((H.add (O [] 81 false)).add (O (opC ⟨nm,ky,w.ck+1,1⟩) 81 false)) (H.next+1)=some (opC ⟨nm,ky,w.ck+1,1⟩,81,false):=jP _ _ _ _ (by rw[jH])
  have gX0':Gr H (H.add (O [.string (Tx nm),.int .i64 ky,.int .i64 0,.int .i64 (w.ck+1),.int .i64 1] 81 false)):=(Gr.refl H).add' _
  have gXA':Gr H ((H.add (O [.string (Tx nm),.int .i64 ky,.int .i64 0,.int .i64 (w.ck+1),.int .i64 1] 81 false)).add (O [] 81 false)):=((Gr.refl H).add' _).add' _
  have gXA:Gr H ((H.add (O (opC ⟨nm,ky,w.ck+1,1⟩) 81 false)).add (O [] 81 false)):=gXA'
  have oXA:Own ((H.add (O (opC ⟨nm,ky,w.ck+1,1⟩) 81 false)).add (O [] 81 false)) 81 5 (some ⟨H.next+1,0,none⟩) 0 0 []:=⟨by simp,rfl,.inr ⟨H.next+1,false,rfl,by rw[jS,jS];omega,by rw[jH,jH];omega,jP _ _ _ _ (by rw[jH]),.inr ⟨rfl,rfl⟩⟩⟩
  have cXA:cells ((H.add (O (opC ⟨nm,ky,w.ck+1,1⟩) 81 false)).add (O [] 81 false)) H.next=some (opC ⟨nm,ky,w.ck+1,1⟩,81,false):=by rw[kN _ _ (by rw[jH];omega)];exact jP _ _ _ _ rfl
  rcases kL0 u56 s81 Z1 aH.op Z0 (hi:=some (.int .i64 j)) (lo:=none) (λtop ht=>kF0 Z0) (Nat.zero_le _) (show j≤_ by omega) with ⟨v1,k1,p1⟩|⟨e0,v1,v1',k1,p1,p1'⟩
  ·rw[wQ1 qD _ _ Z0,Nat.sub_zero] at p1
   rcases kL0 u56 s81 Z1 aH.op Z0 (lo:=some (.int .i64 j)) (hi:=none) (λtop ht=>uE0 Z0) hf (Z3 _) with ⟨v2,k2,p2⟩|⟨e0',v2,v2',k2,p2,p2'⟩
   ·rw[cW0 qD _ _ Z0] at p2
    obtain ⟨a1,d1,h1,a2,d2,h2,a3,d3,h3,e1,e2,e3,gA,gh1,gX,gh2,r3⟩:=wK0 hloH hno hf p1 p2 ⟨nm,ky,w.ck+1,1⟩
    obtain ⟨st1,cq1,l1,cb1,qn1,af1,cf1,hf1,ef1,cqf1,lf1,sf1,P1⟩:=qJ aH hloH hnf hf r3 ⟨false,⟨nm,ky,0⟩⟩ cb Z0 Z0
    obtain ⟨b1,u1,m1,b2,u2,m2,b3,u3,m3,y1,y2,y3,gm1,gm2,t3⟩:=kX hloH hno hf p1 p2 ⟨nm,ky,w.ck+1,1⟩ gAX oAX cAX (Z3 _) (by rw[jH,jH];omega) Z0
    obtain ⟨st2,cq2,l2,cb2,qn2,af2,cf2,hf2,ef2,cqf2,lf2,sf2,P2⟩:=qJ aH hloH hnf hf t3 ⟨false,⟨nm,ky,0⟩⟩ cb Z0 Z0
    obtain ⟨c1',z1,o1,c2',z2,o2,c3',z3,o3,i1,i2,i3,go1,go2,x3⟩:=kX hloH hno hf p1 p2 ⟨nm,ky,w.ck+1,1⟩ gXA oXA cXA (Nat.le_succ _) (by rw[jH,jH];omega) Z0
    obtain ⟨st3,cq3,l3,cb3,qn3,af3,cf3,hf3,ef3,cqf3,lf3,sf3,P3⟩:=qJ aH hloH hnf hf x3 ⟨false,⟨nm,ky,0⟩⟩ cb Z0 Z0
    unfold opC at e2 gX y1 i1
    unfold msC evC at ef1 ef2 ef3
    unfold xcs at st1 st2 st3 cq1 cq2 cq3
    simp(disch:=first|omega|(apply id;simp only[push_cast];first|done|omega))only[push_cast,Nat.reduceAdd,Nat.reduceMul,Nat.reduceSub,Nat.reduceLT,Nat.reduceEqDiff,Nat.reduceLeDiff,Int.reduceToNat,reduceCtorEq,Int.reduceLT,Int.reduceLE,Int.reduceAdd,Int.reduceSub,Int.reduceMul,Int.reduceNeg,Int.reduceEq,hc,hlH,hlH2,hlH3,cb,cx,rowO,zR0,zS0,k1 _ (Gr.refl H),k2 _ (Gr.refl H),k1 _ gA,k2 _ gA,k1 _ gh1,k2 _ gh1,k1 _ gX,k2 _ gX,k1 _ gh2,k2 _ gh2,k1 _ r3.g,k2 _ r3.g,k1 _ gAX',k2 _ gAX',k1 _ gm1,k2 _ gm1,k1 _ gm2,k2 _ gm2,k1 _ t3.g,k2 _ t3.g,k1 _ gX0',k2 _ gX0',k1 _ gXA',k2 _ gXA',k1 _ go1,k2 _ go1,k1 _ go2,k2 _ go2,k1 _ x3.g,k2 _ x3.g,Gr.cells gA hc hlt,Gr.cells gh1 hc hlt,Gr.cells gX hc hlt,Gr.cells gh2 hc hlt,Gr.cells r3.g hc hlt,Gr.cells gAX' hc hlt,Gr.cells gm1 hc hlt,Gr.cells gm2 hc hlt,Gr.cells t3.g hc hlt,Gr.cells gX0' hc hlt,Gr.cells gXA' hc hlt,Gr.cells go1 hc hlt,Gr.cells go2 hc hlt,Gr.cells x3.g hc hlt,Gr.cells gA cx hx1,Gr.cells gh1 cx hx1,Gr.cells gX cx hx1,Gr.cells gh2 cx hx1,Gr.cells r3.g cx hx1,Gr.cells gAX' cx hx1,Gr.cells gm1 cx hx1,Gr.cells gm2 cx hx1,Gr.cells t3.g cx hx1,Gr.cells gX0' cx hx1,Gr.cells gXA' cx hx1,Gr.cells go1 cx hx1,Gr.cells go2 cx hx1,Gr.cells x3.g cx hx1,gA.lo,gh1.lo,gX.lo,gh2.lo,r3.g.lo,gAX'.lo,gm1.lo,gm2.lo,t3.g.lo,gX0'.lo,gXA'.lo,go1.lo,go2.lo,x3.g.lo,e1,e2,e3,y1,y2,y3,i1,i2,i3,st1,st2,st3,cq1,cq2,cq3,cb1,cb2,cb3,l1,l2,l3,ef1,ef2,ef3,cqf1,cqf2,cqf3,lf1,lf2,lf3,sf1,sf2,sf3,Option.map_some]
    exact ⟨⟨fin _ P1,fin _ P2⟩,fin _ P3⟩
   ·rw[cW0 qD _ _ Z0] at p2 p2'
    simp(disch:=first|omega|(apply id;simp only[push_cast];first|done|omega))only[push_cast,Nat.reduceAdd,Nat.reduceMul,Nat.reduceSub,Nat.reduceLT,Nat.reduceEqDiff,Nat.reduceLeDiff,Int.reduceToNat,reduceCtorEq,Int.reduceLT,Int.reduceLE,Int.reduceAdd,Int.reduceSub,Int.reduceMul,Int.reduceNeg,Int.reduceEq,hc,hlH,cx,hlH3,cb,hlH2,k1 _ (Gr.refl H),(k2 _ (Gr.refl H)).1,(k2 _ (Gr.refl H)).2]
    refine ⟨?_,?_⟩
    ·obtain ⟨a1,d1,h1,a2,d2,h2,a3,d3,h3,e1,e2,e3,gA,gh1,gX,gh2,r3⟩:=wK0 hloH hno hf p1 p2 ⟨nm,ky,w.ck+1,1⟩
     obtain ⟨st1,cq1,l1,cb1,qn1,af1,cf1,hf1,ef1,cqf1,lf1,sf1,P1⟩:=qJ aH hloH hnf hf r3 ⟨false,⟨nm,ky,0⟩⟩ cb Z0 Z0
     obtain ⟨b1,u1,m1,b2,u2,m2,b3,u3,m3,y1,y2,y3,gm1,gm2,t3⟩:=kX hloH hno hf p1 p2 ⟨nm,ky,w.ck+1,1⟩ gAX oAX cAX (Z3 _) (by rw[jH,jH];omega) Z0
     obtain ⟨st2,cq2,l2,cb2,qn2,af2,cf2,hf2,ef2,cqf2,lf2,sf2,P2⟩:=qJ aH hloH hnf hf t3 ⟨false,⟨nm,ky,0⟩⟩ cb Z0 Z0
     obtain ⟨c1',z1,o1,c2',z2,o2,c3',z3,o3,i1,i2,i3,go1,go2,x3⟩:=kX hloH hno hf p1 p2 ⟨nm,ky,w.ck+1,1⟩ gXA oXA cXA (Nat.le_succ _) (by rw[jH,jH];omega) Z0
     obtain ⟨st3,cq3,l3,cb3,qn3,af3,cf3,hf3,ef3,cqf3,lf3,sf3,P3⟩:=qJ aH hloH hnf hf x3 ⟨false,⟨nm,ky,0⟩⟩ cb Z0 Z0
     unfold opC at e2 gX y1 i1
     unfold msC evC at ef1 ef2 ef3
     unfold xcs at st1 st2 st3 cq1 cq2 cq3
     simp(disch:=first|omega|(apply id;simp only[push_cast];first|done|omega))only[push_cast,Nat.reduceAdd,Nat.reduceMul,Nat.reduceSub,Nat.reduceLT,Nat.reduceEqDiff,Nat.reduceLeDiff,Int.reduceToNat,reduceCtorEq,Int.reduceLT,Int.reduceLE,Int.reduceAdd,Int.reduceSub,Int.reduceMul,Int.reduceNeg,Int.reduceEq,hc,hlH,hlH2,hlH3,cb,cx,rowO,zR0,zS0,k1 _ (Gr.refl H),(k2 _ (Gr.refl H)).1,(k2 _ (Gr.refl H)).2,k1 _ gA,(k2 _ gA).1,(k2 _ gA).2,k1 _ gh1,(k2 _ gh1).1,(k2 _ gh1).2,k1 _ gX,(k2 _ gX).1,(k2 _ gX).2,k1 _ gh2,(k2 _ gh2).1,(k2 _ gh2).2,k1 _ r3.g,(k2 _ r3.g).1,(k2 _ r3.g).2,k1 _ gAX',(k2 _ gAX').1,(k2 _ gAX').2,k1 _ gm1,(k2 _ gm1).1,(k2 _ gm1).2,k1 _ gm2,(k2 _ gm2).1,(k2 _ gm2).2,k1 _ t3.g,(k2 _ t3.g).1,(k2 _ t3.g).2,k1 _ gX0',(k2 _ gX0').1,(k2 _ gX0').2,k1 _ gXA',(k2 _ gXA').1,(k2 _ gXA').2,k1 _ go1,(k2 _ go1).1,(k2 _ go1).2,k1 _ go2,(k2 _ go2).1,(k2 _ go2).2,k1 _ x3.g,(k2 _ x3.g).1,(k2 _ x3.g).2,Gr.cells gA hc hlt,Gr.cells gh1 hc hlt,Gr.cells gX hc hlt,Gr.cells gh2 hc hlt,Gr.cells r3.g hc hlt,Gr.cells gAX' hc hlt,Gr.cells gm1 hc hlt,Gr.cells gm2 hc hlt,Gr.cells t3.g hc hlt,Gr.cells gX0' hc hlt,Gr.cells gXA' hc hlt,Gr.cells go1 hc hlt,Gr.cells go2 hc hlt,Gr.cells x3.g hc hlt,Gr.cells gA cx hx1,Gr.cells gh1 cx hx1,Gr.cells gX cx hx1,Gr.cells gh2 cx hx1,Gr.cells r3.g cx hx1,Gr.cells gAX' cx hx1,Gr.cells gm1 cx hx1,Gr.cells gm2 cx hx1,Gr.cells t3.g cx hx1,Gr.cells gX0' cx hx1,Gr.cells gXA' cx hx1,Gr.cells go1 cx hx1,Gr.cells go2 cx hx1,Gr.cells x3.g cx hx1,gA.lo,gh1.lo,gX.lo,gh2.lo,r3.g.lo,gAX'.lo,gm1.lo,gm2.lo,t3.g.lo,gX0'.lo,gXA'.lo,go1.lo,go2.lo,x3.g.lo,e1,e2,e3,y1,y2,y3,i1,i2,i3,st1,st2,st3,cq1,cq2,cq3,cb1,cb2,cb3,l1,l2,l3,ef1,ef2,ef3,cqf1,cqf2,cqf3,lf1,lf2,lf3,sf1,sf2,sf3,Option.map_some]
     exact ⟨⟨fin _ P1,fin _ P2⟩,fin _ P3⟩
    ·obtain ⟨a1,d1,h1,a2,d2,h2,a3,d3,h3,e1,e2,e3,gA,gh1,gX,gh2,r3⟩:=wK0 hloH hno hf p1 p2' ⟨nm,ky,w.ck+1,1⟩
     obtain ⟨st1,cq1,l1,cb1,qn1,af1,cf1,hf1,ef1,cqf1,lf1,sf1,P1⟩:=qJ aH hloH hnf hf r3 ⟨false,⟨nm,ky,0⟩⟩ cb Z0 Z0
     obtain ⟨b1,u1,m1,b2,u2,m2,b3,u3,m3,y1,y2,y3,gm1,gm2,t3⟩:=kX hloH hno hf p1 p2' ⟨nm,ky,w.ck+1,1⟩ gAX oAX cAX (Z3 _) (by rw[jH,jH];omega) Z0
     obtain ⟨st2,cq2,l2,cb2,qn2,af2,cf2,hf2,ef2,cqf2,lf2,sf2,P2⟩:=qJ aH hloH hnf hf t3 ⟨false,⟨nm,ky,0⟩⟩ cb Z0 Z0
     obtain ⟨c1',z1,o1,c2',z2,o2,c3',z3,o3,i1,i2,i3,go1,go2,x3⟩:=kX hloH hno hf p1 p2' ⟨nm,ky,w.ck+1,1⟩ gXA oXA cXA (Nat.le_succ _) (by rw[jH,jH];omega) Z0
     obtain ⟨st3,cq3,l3,cb3,qn3,af3,cf3,hf3,ef3,cqf3,lf3,sf3,P3⟩:=qJ aH hloH hnf hf x3 ⟨false,⟨nm,ky,0⟩⟩ cb Z0 Z0
     unfold opC at e2 gX y1 i1
     unfold msC evC at ef1 ef2 ef3
     unfold xcs at st1 st2 st3 cq1 cq2 cq3
     simp(disch:=first|omega|(apply id;simp only[push_cast];first|done|omega))only[push_cast,Nat.reduceAdd,Nat.reduceMul,Nat.reduceSub,Nat.reduceLT,Nat.reduceEqDiff,Nat.reduceLeDiff,Int.reduceToNat,reduceCtorEq,Int.reduceLT,Int.reduceLE,Int.reduceAdd,Int.reduceSub,Int.reduceMul,Int.reduceNeg,Int.reduceEq,hc,hlH,hlH2,hlH3,cb,cx,rowO,zR0,zS0,k1 _ (Gr.refl H),(k2 _ (Gr.refl H)).1,(k2 _ (Gr.refl H)).2,k1 _ gA,(k2 _ gA).1,(k2 _ gA).2,k1 _ gh1,(k2 _ gh1).1,(k2 _ gh1).2,k1 _ gX,(k2 _ gX).1,(k2 _ gX).2,k1 _ gh2,(k2 _ gh2).1,(k2 _ gh2).2,k1 _ r3.g,(k2 _ r3.g).1,(k2 _ r3.g).2,k1 _ gAX',(k2 _ gAX').1,(k2 _ gAX').2,k1 _ gm1,(k2 _ gm1).1,(k2 _ gm1).2,k1 _ gm2,(k2 _ gm2).1,(k2 _ gm2).2,k1 _ t3.g,(k2 _ t3.g).1,(k2 _ t3.g).2,k1 _ gX0',(k2 _ gX0').1,(k2 _ gX0').2,k1 _ gXA',(k2 _ gXA').1,(k2 _ gXA').2,k1 _ go1,(k2 _ go1).1,(k2 _ go1).2,k1 _ go2,(k2 _ go2).1,(k2 _ go2).2,k1 _ x3.g,(k2 _ x3.g).1,(k2 _ x3.g).2,Gr.cells gA hc hlt,Gr.cells gh1 hc hlt,Gr.cells gX hc hlt,Gr.cells gh2 hc hlt,Gr.cells r3.g hc hlt,Gr.cells gAX' hc hlt,Gr.cells gm1 hc hlt,Gr.cells gm2 hc hlt,Gr.cells t3.g hc hlt,Gr.cells gX0' hc hlt,Gr.cells gXA' hc hlt,Gr.cells go1 hc hlt,Gr.cells go2 hc hlt,Gr.cells x3.g hc hlt,Gr.cells gA cx hx1,Gr.cells gh1 cx hx1,Gr.cells gX cx hx1,Gr.cells gh2 cx hx1,Gr.cells r3.g cx hx1,Gr.cells gAX' cx hx1,Gr.cells gm1 cx hx1,Gr.cells gm2 cx hx1,Gr.cells t3.g cx hx1,Gr.cells gX0' cx hx1,Gr.cells gXA' cx hx1,Gr.cells go1 cx hx1,Gr.cells go2 cx hx1,Gr.cells x3.g cx hx1,gA.lo,gh1.lo,gX.lo,gh2.lo,r3.g.lo,gAX'.lo,gm1.lo,gm2.lo,t3.g.lo,gX0'.lo,gXA'.lo,go1.lo,go2.lo,x3.g.lo,e1,e2,e3,y1,y2,y3,i1,i2,i3,st1,st2,st3,cq1,cq2,cq3,cb1,cb2,cb3,l1,l2,l3,ef1,ef2,ef3,cqf1,cqf2,cqf3,lf1,lf2,lf3,sf1,sf2,sf3,Option.map_some]
     exact ⟨⟨fin _ P1,fin _ P2⟩,fin _ P3⟩
  ·rw[wQ1 qD _ _ Z0,Nat.sub_zero] at p1 p1'
   rcases kL0 u56 s81 Z1 aH.op Z0 (lo:=some (.int .i64 j)) (hi:=none) (λtop ht=>uE0 Z0) hf (Z3 _) with ⟨v2,k2,p2⟩|⟨e0',v2,v2',k2,p2,p2'⟩
   ·rw[cW0 qD _ _ Z0] at p2
    simp(disch:=first|omega|(apply id;simp only[push_cast];first|done|omega))only[push_cast,Nat.reduceAdd,Nat.reduceMul,Nat.reduceSub,Nat.reduceLT,Nat.reduceEqDiff,Nat.reduceLeDiff,Int.reduceToNat,reduceCtorEq,Int.reduceLT,Int.reduceLE,Int.reduceAdd,Int.reduceSub,Int.reduceMul,Int.reduceNeg,Int.reduceEq,hc,hlH,cx,hlH3,cb,hlH2,(k1 _ (Gr.refl H)).1,(k1 _ (Gr.refl H)).2,k2 _ (Gr.refl H)]
    refine ⟨?_,?_⟩
    ·obtain ⟨a1,d1,h1,a2,d2,h2,a3,d3,h3,e1,e2,e3,gA,gh1,gX,gh2,r3⟩:=wK0 hloH hno hf p1 p2 ⟨nm,ky,w.ck+1,1⟩
     obtain ⟨st1,cq1,l1,cb1,qn1,af1,cf1,hf1,ef1,cqf1,lf1,sf1,P1⟩:=qJ aH hloH hnf hf r3 ⟨false,⟨nm,ky,0⟩⟩ cb Z0 Z0
     obtain ⟨b1,u1,m1,b2,u2,m2,b3,u3,m3,y1,y2,y3,gm1,gm2,t3⟩:=kX hloH hno hf p1 p2 ⟨nm,ky,w.ck+1,1⟩ gAX oAX cAX (Z3 _) (by rw[jH,jH];omega) Z0
     obtain ⟨st2,cq2,l2,cb2,qn2,af2,cf2,hf2,ef2,cqf2,lf2,sf2,P2⟩:=qJ aH hloH hnf hf t3 ⟨false,⟨nm,ky,0⟩⟩ cb Z0 Z0
     obtain ⟨c1',z1,o1,c2',z2,o2,c3',z3,o3,i1,i2,i3,go1,go2,x3⟩:=kX hloH hno hf p1 p2 ⟨nm,ky,w.ck+1,1⟩ gXA oXA cXA (Nat.le_succ _) (by rw[jH,jH];omega) Z0
     obtain ⟨st3,cq3,l3,cb3,qn3,af3,cf3,hf3,ef3,cqf3,lf3,sf3,P3⟩:=qJ aH hloH hnf hf x3 ⟨false,⟨nm,ky,0⟩⟩ cb Z0 Z0
     unfold opC at e2 gX y1 i1
     unfold msC evC at ef1 ef2 ef3
     unfold xcs at st1 st2 st3 cq1 cq2 cq3
     simp(disch:=first|omega|(apply id;simp only[push_cast];first|done|omega))only[push_cast,Nat.reduceAdd,Nat.reduceMul,Nat.reduceSub,Nat.reduceLT,Nat.reduceEqDiff,Nat.reduceLeDiff,Int.reduceToNat,reduceCtorEq,Int.reduceLT,Int.reduceLE,Int.reduceAdd,Int.reduceSub,Int.reduceMul,Int.reduceNeg,Int.reduceEq,hc,hlH,hlH2,hlH3,cb,cx,rowO,zR0,zS0,(k1 _ (Gr.refl H)).1,(k1 _ (Gr.refl H)).2,k2 _ (Gr.refl H),(k1 _ gA).1,(k1 _ gA).2,k2 _ gA,(k1 _ gh1).1,(k1 _ gh1).2,k2 _ gh1,(k1 _ gX).1,(k1 _ gX).2,k2 _ gX,(k1 _ gh2).1,(k1 _ gh2).2,k2 _ gh2,(k1 _ r3.g).1,(k1 _ r3.g).2,k2 _ r3.g,(k1 _ gAX').1,(k1 _ gAX').2,k2 _ gAX',(k1 _ gm1).1,(k1 _ gm1).2,k2 _ gm1,(k1 _ gm2).1,(k1 _ gm2).2,k2 _ gm2,(k1 _ t3.g).1,(k1 _ t3.g).2,k2 _ t3.g,(k1 _ gX0').1,(k1 _ gX0').2,k2 _ gX0',(k1 _ gXA').1,(k1 _ gXA').2,k2 _ gXA',(k1 _ go1).1,(k1 _ go1).2,k2 _ go1,(k1 _ go2).1,(k1 _ go2).2,k2 _ go2,(k1 _ x3.g).1,(k1 _ x3.g).2,k2 _ x3.g,Gr.cells gA hc hlt,Gr.cells gh1 hc hlt,Gr.cells gX hc hlt,Gr.cells gh2 hc hlt,Gr.cells r3.g hc hlt,Gr.cells gAX' hc hlt,Gr.cells gm1 hc hlt,Gr.cells gm2 hc hlt,Gr.cells t3.g hc hlt,Gr.cells gX0' hc hlt,Gr.cells gXA' hc hlt,Gr.cells go1 hc hlt,Gr.cells go2 hc hlt,Gr.cells x3.g hc hlt,Gr.cells gA cx hx1,Gr.cells gh1 cx hx1,Gr.cells gX cx hx1,Gr.cells gh2 cx hx1,Gr.cells r3.g cx hx1,Gr.cells gAX' cx hx1,Gr.cells gm1 cx hx1,Gr.cells gm2 cx hx1,Gr.cells t3.g cx hx1,Gr.cells gX0' cx hx1,Gr.cells gXA' cx hx1,Gr.cells go1 cx hx1,Gr.cells go2 cx hx1,Gr.cells x3.g cx hx1,gA.lo,gh1.lo,gX.lo,gh2.lo,r3.g.lo,gAX'.lo,gm1.lo,gm2.lo,t3.g.lo,gX0'.lo,gXA'.lo,go1.lo,go2.lo,x3.g.lo,e1,e2,e3,y1,y2,y3,i1,i2,i3,st1,st2,st3,cq1,cq2,cq3,cb1,cb2,cb3,l1,l2,l3,ef1,ef2,ef3,cqf1,cqf2,cqf3,lf1,lf2,lf3,sf1,sf2,sf3,Option.map_some]
     exact ⟨⟨fin _ P1,fin _ P2⟩,fin _ P3⟩
    ·obtain ⟨a1,d1,h1,a2,d2,h2,a3,d3,h3,e1,e2,e3,gA,gh1,gX,gh2,r3⟩:=wK0 hloH hno hf p1' p2 ⟨nm,ky,w.ck+1,1⟩
     obtain ⟨st1,cq1,l1,cb1,qn1,af1,cf1,hf1,ef1,cqf1,lf1,sf1,P1⟩:=qJ aH hloH hnf hf r3 ⟨false,⟨nm,ky,0⟩⟩ cb Z0 Z0
     obtain ⟨b1,u1,m1,b2,u2,m2,b3,u3,m3,y1,y2,y3,gm1,gm2,t3⟩:=kX hloH hno hf p1' p2 ⟨nm,ky,w.ck+1,1⟩ gAX oAX cAX (Z3 _) (by rw[jH,jH];omega) Z0
     obtain ⟨st2,cq2,l2,cb2,qn2,af2,cf2,hf2,ef2,cqf2,lf2,sf2,P2⟩:=qJ aH hloH hnf hf t3 ⟨false,⟨nm,ky,0⟩⟩ cb Z0 Z0
     obtain ⟨c1',z1,o1,c2',z2,o2,c3',z3,o3,i1,i2,i3,go1,go2,x3⟩:=kX hloH hno hf p1' p2 ⟨nm,ky,w.ck+1,1⟩ gXA oXA cXA (Nat.le_succ _) (by rw[jH,jH];omega) Z0
     obtain ⟨st3,cq3,l3,cb3,qn3,af3,cf3,hf3,ef3,cqf3,lf3,sf3,P3⟩:=qJ aH hloH hnf hf x3 ⟨false,⟨nm,ky,0⟩⟩ cb Z0 Z0
     unfold opC at e2 gX y1 i1
     unfold msC evC at ef1 ef2 ef3
     unfold xcs at st1 st2 st3 cq1 cq2 cq3
     simp(disch:=first|omega|(apply id;simp only[push_cast];first|done|omega))only[push_cast,Nat.reduceAdd,Nat.reduceMul,Nat.reduceSub,Nat.reduceLT,Nat.reduceEqDiff,Nat.reduceLeDiff,Int.reduceToNat,reduceCtorEq,Int.reduceLT,Int.reduceLE,Int.reduceAdd,Int.reduceSub,Int.reduceMul,Int.reduceNeg,Int.reduceEq,hc,hlH,hlH2,hlH3,cb,cx,rowO,zR0,zS0,(k1 _ (Gr.refl H)).1,(k1 _ (Gr.refl H)).2,k2 _ (Gr.refl H),(k1 _ gA).1,(k1 _ gA).2,k2 _ gA,(k1 _ gh1).1,(k1 _ gh1).2,k2 _ gh1,(k1 _ gX).1,(k1 _ gX).2,k2 _ gX,(k1 _ gh2).1,(k1 _ gh2).2,k2 _ gh2,(k1 _ r3.g).1,(k1 _ r3.g).2,k2 _ r3.g,(k1 _ gAX').1,(k1 _ gAX').2,k2 _ gAX',(k1 _ gm1).1,(k1 _ gm1).2,k2 _ gm1,(k1 _ gm2).1,(k1 _ gm2).2,k2 _ gm2,(k1 _ t3.g).1,(k1 _ t3.g).2,k2 _ t3.g,(k1 _ gX0').1,(k1 _ gX0').2,k2 _ gX0',(k1 _ gXA').1,(k1 _ gXA').2,k2 _ gXA',(k1 _ go1).1,(k1 _ go1).2,k2 _ go1,(k1 _ go2).1,(k1 _ go2).2,k2 _ go2,(k1 _ x3.g).1,(k1 _ x3.g).2,k2 _ x3.g,Gr.cells gA hc hlt,Gr.cells gh1 hc hlt,Gr.cells gX hc hlt,Gr.cells gh2 hc hlt,Gr.cells r3.g hc hlt,Gr.cells gAX' hc hlt,Gr.cells gm1 hc hlt,Gr.cells gm2 hc hlt,Gr.cells t3.g hc hlt,Gr.cells gX0' hc hlt,Gr.cells gXA' hc hlt,Gr.cells go1 hc hlt,Gr.cells go2 hc hlt,Gr.cells x3.g hc hlt,Gr.cells gA cx hx1,Gr.cells gh1 cx hx1,Gr.cells gX cx hx1,Gr.cells gh2 cx hx1,Gr.cells r3.g cx hx1,Gr.cells gAX' cx hx1,Gr.cells gm1 cx hx1,Gr.cells gm2 cx hx1,Gr.cells t3.g cx hx1,Gr.cells gX0' cx hx1,Gr.cells gXA' cx hx1,Gr.cells go1 cx hx1,Gr.cells go2 cx hx1,Gr.cells x3.g cx hx1,gA.lo,gh1.lo,gX.lo,gh2.lo,r3.g.lo,gAX'.lo,gm1.lo,gm2.lo,t3.g.lo,gX0'.lo,gXA'.lo,go1.lo,go2.lo,x3.g.lo,e1,e2,e3,y1,y2,y3,i1,i2,i3,st1,st2,st3,cq1,cq2,cq3,cb1,cb2,cb3,l1,l2,l3,ef1,ef2,ef3,cqf1,cqf2,cqf3,lf1,lf2,lf3,sf1,sf2,sf3,Option.map_some]
     exact ⟨⟨fin _ P1,fin _ P2⟩,fin _ P3⟩
   ·rw[cW0 qD _ _ Z0] at p2 p2'
    simp(disch:=first|omega|(apply id;simp only[push_cast];first|done|omega))only[push_cast,Nat.reduceAdd,Nat.reduceMul,Nat.reduceSub,Nat.reduceLT,Nat.reduceEqDiff,Nat.reduceLeDiff,Int.reduceToNat,reduceCtorEq,Int.reduceLT,Int.reduceLE,Int.reduceAdd,Int.reduceSub,Int.reduceMul,Int.reduceNeg,Int.reduceEq,hc,hlH,cx,hlH3,cb,hlH2,(k1 _ (Gr.refl H)).1,(k1 _ (Gr.refl H)).2,(k2 _ (Gr.refl H)).1,(k2 _ (Gr.refl H)).2]
    refine ⟨⟨?_,?_⟩,?_,?_⟩
    ·obtain ⟨a1,d1,h1,a2,d2,h2,a3,d3,h3,e1,e2,e3,gA,gh1,gX,gh2,r3⟩:=wK0 hloH hno hf p1 p2 ⟨nm,ky,w.ck+1,1⟩
     obtain ⟨st1,cq1,l1,cb1,qn1,af1,cf1,hf1,ef1,cqf1,lf1,sf1,P1⟩:=qJ aH hloH hnf hf r3 ⟨false,⟨nm,ky,0⟩⟩ cb Z0 Z0
     obtain ⟨b1,u1,m1,b2,u2,m2,b3,u3,m3,y1,y2,y3,gm1,gm2,t3⟩:=kX hloH hno hf p1 p2 ⟨nm,ky,w.ck+1,1⟩ gAX oAX cAX (Z3 _) (by rw[jH,jH];omega) Z0
     obtain ⟨st2,cq2,l2,cb2,qn2,af2,cf2,hf2,ef2,cqf2,lf2,sf2,P2⟩:=qJ aH hloH hnf hf t3 ⟨false,⟨nm,ky,0⟩⟩ cb Z0 Z0
     obtain ⟨c1',z1,o1,c2',z2,o2,c3',z3,o3,i1,i2,i3,go1,go2,x3⟩:=kX hloH hno hf p1 p2 ⟨nm,ky,w.ck+1,1⟩ gXA oXA cXA (Nat.le_succ _) (by rw[jH,jH];omega) Z0
     obtain ⟨st3,cq3,l3,cb3,qn3,af3,cf3,hf3,ef3,cqf3,lf3,sf3,P3⟩:=qJ aH hloH hnf hf x3 ⟨false,⟨nm,ky,0⟩⟩ cb Z0 Z0
     unfold opC at e2 gX y1 i1
     unfold msC evC at ef1 ef2 ef3
     unfold xcs at st1 st2 st3 cq1 cq2 cq3
     simp(disch:=first|omega|(apply id;simp only[push_cast];first|done|omega))only[push_cast,Nat.reduceAdd,Nat.reduceMul,Nat.reduceSub,Nat.reduceLT,Nat.reduceEqDiff,Nat.reduceLeDiff,Int.reduceToNat,reduceCtorEq,Int.reduceLT,Int.reduceLE,Int.reduceAdd,Int.reduceSub,Int.reduceMul,Int.reduceNeg,Int.reduceEq,hc,hlH,hlH2,hlH3,cb,cx,rowO,zR0,zS0,(k1 _ (Gr.refl H)).1,(k1 _ (Gr.refl H)).2,(k2 _ (Gr.refl H)).1,(k2 _ (Gr.refl H)).2,(k1 _ gA).1,(k1 _ gA).2,(k2 _ gA).1,(k2 _ gA).2,(k1 _ gh1).1,(k1 _ gh1).2,(k2 _ gh1).1,(k2 _ gh1).2,(k1 _ gX).1,(k1 _ gX).2,(k2 _ gX).1,(k2 _ gX).2,(k1 _ gh2).1,(k1 _ gh2).2,(k2 _ gh2).1,(k2 _ gh2).2,(k1 _ r3.g).1,(k1 _ r3.g).2,(k2 _ r3.g).1,(k2 _ r3.g).2,(k1 _ gAX').1,(k1 _ gAX').2,(k2 _ gAX').1,(k2 _ gAX').2,(k1 _ gm1).1,(k1 _ gm1).2,(k2 _ gm1).1,(k2 _ gm1).2,(k1 _ gm2).1,(k1 _ gm2).2,(k2 _ gm2).1,(k2 _ gm2).2,(k1 _ t3.g).1,(k1 _ t3.g).2,(k2 _ t3.g).1,(k2 _ t3.g).2,(k1 _ gX0').1,(k1 _ gX0').2,(k2 _ gX0').1,(k2 _ gX0').2,(k1 _ gXA').1,(k1 _ gXA').2,(k2 _ gXA').1,(k2 _ gXA').2,(k1 _ go1).1,(k1 _ go1).2,(k2 _ go1).1,(k2 _ go1).2,(k1 _ go2).1,(k1 _ go2).2,(k2 _ go2).1,(k2 _ go2).2,(k1 _ x3.g).1,(k1 _ x3.g).2,(k2 _ x3.g).1,(k2 _ x3.g).2,Gr.cells gA hc hlt,Gr.cells gh1 hc hlt,Gr.cells gX hc hlt,Gr.cells gh2 hc hlt,Gr.cells r3.g hc hlt,Gr.cells gAX' hc hlt,Gr.cells gm1 hc hlt,Gr.cells gm2 hc hlt,Gr.cells t3.g hc hlt,Gr.cells gX0' hc hlt,Gr.cells gXA' hc hlt,Gr.cells go1 hc hlt,Gr.cells go2 hc hlt,Gr.cells x3.g hc hlt,Gr.cells gA cx hx1,Gr.cells gh1 cx hx1,Gr.cells gX cx hx1,Gr.cells gh2 cx hx1,Gr.cells r3.g cx hx1,Gr.cells gAX' cx hx1,Gr.cells gm1 cx hx1,Gr.cells gm2 cx hx1,Gr.cells t3.g cx hx1,Gr.cells gX0' cx hx1,Gr.cells gXA' cx hx1,Gr.cells go1 cx hx1,Gr.cells go2 cx hx1,Gr.cells x3.g cx hx1,gA.lo,gh1.lo,gX.lo,gh2.lo,r3.g.lo,gAX'.lo,gm1.lo,gm2.lo,t3.g.lo,gX0'.lo,gXA'.lo,go1.lo,go2.lo,x3.g.lo,e1,e2,e3,y1,y2,y3,i1,i2,i3,st1,st2,st3,cq1,cq2,cq3,cb1,cb2,cb3,l1,l2,l3,ef1,ef2,ef3,cqf1,cqf2,cqf3,lf1,lf2,lf3,sf1,sf2,sf3,Option.map_some]
     exact ⟨⟨fin _ P1,fin _ P2⟩,fin _ P3⟩
    ·obtain ⟨a1,d1,h1,a2,d2,h2,a3,d3,h3,e1,e2,e3,gA,gh1,gX,gh2,r3⟩:=wK0 hloH hno hf p1 p2' ⟨nm,ky,w.ck+1,1⟩
     obtain ⟨st1,cq1,l1,cb1,qn1,af1,cf1,hf1,ef1,cqf1,lf1,sf1,P1⟩:=qJ aH hloH hnf hf r3 ⟨false,⟨nm,ky,0⟩⟩ cb Z0 Z0
     obtain ⟨b1,u1,m1,b2,u2,m2,b3,u3,m3,y1,y2,y3,gm1,gm2,t3⟩:=kX hloH hno hf p1 p2' ⟨nm,ky,w.ck+1,1⟩ gAX oAX cAX (Z3 _) (by rw[jH,jH];omega) Z0
     obtain ⟨st2,cq2,l2,cb2,qn2,af2,cf2,hf2,ef2,cqf2,lf2,sf2,P2⟩:=qJ aH hloH hnf hf t3 ⟨false,⟨nm,ky,0⟩⟩ cb Z0 Z0
     obtain ⟨c1',z1,o1,c2',z2,o2,c3',z3,o3,i1,i2,i3,go1,go2,x3⟩:=kX hloH hno hf p1 p2' ⟨nm,ky,w.ck+1,1⟩ gXA oXA cXA (Nat.le_succ _) (by rw[jH,jH];omega) Z0
     obtain ⟨st3,cq3,l3,cb3,qn3,af3,cf3,hf3,ef3,cqf3,lf3,sf3,P3⟩:=qJ aH hloH hnf hf x3 ⟨false,⟨nm,ky,0⟩⟩ cb Z0 Z0
     unfold opC at e2 gX y1 i1
     unfold msC evC at ef1 ef2 ef3
     unfold xcs at st1 st2 st3 cq1 cq2 cq3
     simp(disch:=first|omega|(apply id;simp only[push_cast];first|done|omega))only[push_cast,Nat.reduceAdd,Nat.reduceMul,Nat.reduceSub,Nat.reduceLT,Nat.reduceEqDiff,Nat.reduceLeDiff,Int.reduceToNat,reduceCtorEq,Int.reduceLT,Int.reduceLE,Int.reduceAdd,Int.reduceSub,Int.reduceMul,Int.reduceNeg,Int.reduceEq,hc,hlH,hlH2,hlH3,cb,cx,rowO,zR0,zS0,(k1 _ (Gr.refl H)).1,(k1 _ (Gr.refl H)).2,(k2 _ (Gr.refl H)).1,(k2 _ (Gr.refl H)).2,(k1 _ gA).1,(k1 _ gA).2,(k2 _ gA).1,(k2 _ gA).2,(k1 _ gh1).1,(k1 _ gh1).2,(k2 _ gh1).1,(k2 _ gh1).2,(k1 _ gX).1,(k1 _ gX).2,(k2 _ gX).1,(k2 _ gX).2,(k1 _ gh2).1,(k1 _ gh2).2,(k2 _ gh2).1,(k2 _ gh2).2,(k1 _ r3.g).1,(k1 _ r3.g).2,(k2 _ r3.g).1,(k2 _ r3.g).2,(k1 _ gAX').1,(k1 _ gAX').2,(k2 _ gAX').1,(k2 _ gAX').2,(k1 _ gm1).1,(k1 _ gm1).2,(k2 _ gm1).1,(k2 _ gm1).2,(k1 _ gm2).1,(k1 _ gm2).2,(k2 _ gm2).1,(k2 _ gm2).2,(k1 _ t3.g).1,(k1 _ t3.g).2,(k2 _ t3.g).1,(k2 _ t3.g).2,(k1 _ gX0').1,(k1 _ gX0').2,(k2 _ gX0').1,(k2 _ gX0').2,(k1 _ gXA').1,(k1 _ gXA').2,(k2 _ gXA').1,(k2 _ gXA').2,(k1 _ go1).1,(k1 _ go1).2,(k2 _ go1).1,(k2 _ go1).2,(k1 _ go2).1,(k1 _ go2).2,(k2 _ go2).1,(k2 _ go2).2,(k1 _ x3.g).1,(k1 _ x3.g).2,(k2 _ x3.g).1,(k2 _ x3.g).2,Gr.cells gA hc hlt,Gr.cells gh1 hc hlt,Gr.cells gX hc hlt,Gr.cells gh2 hc hlt,Gr.cells r3.g hc hlt,Gr.cells gAX' hc hlt,Gr.cells gm1 hc hlt,Gr.cells gm2 hc hlt,Gr.cells t3.g hc hlt,Gr.cells gX0' hc hlt,Gr.cells gXA' hc hlt,Gr.cells go1 hc hlt,Gr.cells go2 hc hlt,Gr.cells x3.g hc hlt,Gr.cells gA cx hx1,Gr.cells gh1 cx hx1,Gr.cells gX cx hx1,Gr.cells gh2 cx hx1,Gr.cells r3.g cx hx1,Gr.cells gAX' cx hx1,Gr.cells gm1 cx hx1,Gr.cells gm2 cx hx1,Gr.cells t3.g cx hx1,Gr.cells gX0' cx hx1,Gr.cells gXA' cx hx1,Gr.cells go1 cx hx1,Gr.cells go2 cx hx1,Gr.cells x3.g cx hx1,gA.lo,gh1.lo,gX.lo,gh2.lo,r3.g.lo,gAX'.lo,gm1.lo,gm2.lo,t3.g.lo,gX0'.lo,gXA'.lo,go1.lo,go2.lo,x3.g.lo,e1,e2,e3,y1,y2,y3,i1,i2,i3,st1,st2,st3,cq1,cq2,cq3,cb1,cb2,cb3,l1,l2,l3,ef1,ef2,ef3,cqf1,cqf2,cqf3,lf1,lf2,lf3,sf1,sf2,sf3,Option.map_some]
     exact ⟨⟨fin _ P1,fin _ P2⟩,fin _ P3⟩
    ·obtain ⟨a1,d1,h1,a2,d2,h2,a3,d3,h3,e1,e2,e3,gA,gh1,gX,gh2,r3⟩:=wK0 hloH hno hf p1' p2 ⟨nm,ky,w.ck+1,1⟩
     obtain ⟨st1,cq1,l1,cb1,qn1,af1,cf1,hf1,ef1,cqf1,lf1,sf1,P1⟩:=qJ aH hloH hnf hf r3 ⟨false,⟨nm,ky,0⟩⟩ cb Z0 Z0
     obtain ⟨b1,u1,m1,b2,u2,m2,b3,u3,m3,y1,y2,y3,gm1,gm2,t3⟩:=kX hloH hno hf p1' p2 ⟨nm,ky,w.ck+1,1⟩ gAX oAX cAX (Z3 _) (by rw[jH,jH];omega) Z0
     obtain ⟨st2,cq2,l2,cb2,qn2,af2,cf2,hf2,ef2,cqf2,lf2,sf2,P2⟩:=qJ aH hloH hnf hf t3 ⟨false,⟨nm,ky,0⟩⟩ cb Z0 Z0
     obtain ⟨c1',z1,o1,c2',z2,o2,c3',z3,o3,i1,i2,i3,go1,go2,x3⟩:=kX hloH hno hf p1' p2 ⟨nm,ky,w.ck+1,1⟩ gXA oXA cXA (Nat.le_succ _) (by rw[jH,jH];omega) Z0
     obtain ⟨st3,cq3,l3,cb3,qn3,af3,cf3,hf3,ef3,cqf3,lf3,sf3,P3⟩:=qJ aH hloH hnf hf x3 ⟨false,⟨nm,ky,0⟩⟩ cb Z0 Z0
     unfold opC at e2 gX y1 i1
     unfold msC evC at ef1 ef2 ef3
     unfold xcs at st1 st2 st3 cq1 cq2 cq3
     simp(disch:=first|omega|(apply id;simp only[push_cast];first|done|omega))only[push_cast,Nat.reduceAdd,Nat.reduceMul,Nat.reduceSub,Nat.reduceLT,Nat.reduceEqDiff,Nat.reduceLeDiff,Int.reduceToNat,reduceCtorEq,Int.reduceLT,Int.reduceLE,Int.reduceAdd,Int.reduceSub,Int.reduceMul,Int.reduceNeg,Int.reduceEq,hc,hlH,hlH2,hlH3,cb,cx,rowO,zR0,zS0,(k1 _ (Gr.refl H)).1,(k1 _ (Gr.refl H)).2,(k2 _ (Gr.refl H)).1,(k2 _ (Gr.refl H)).2,(k1 _ gA).1,(k1 _ gA).2,(k2 _ gA).1,(k2 _ gA).2,(k1 _ gh1).1,(k1 _ gh1).2,(k2 _ gh1).1,(k2 _ gh1).2,(k1 _ gX).1,(k1 _ gX).2,(k2 _ gX).1,(k2 _ gX).2,(k1 _ gh2).1,(k1 _ gh2).2,(k2 _ gh2).1,(k2 _ gh2).2,(k1 _ r3.g).1,(k1 _ r3.g).2,(k2 _ r3.g).1,(k2 _ r3.g).2,(k1 _ gAX').1,(k1 _ gAX').2,(k2 _ gAX').1,(k2 _ gAX').2,(k1 _ gm1).1,(k1 _ gm1).2,(k2 _ gm1).1,(k2 _ gm1).2,(k1 _ gm2).1,(k1 _ gm2).2,(k2 _ gm2).1,(k2 _ gm2).2,(k1 _ t3.g).1,(k1 _ t3.g).2,(k2 _ t3.g).1,(k2 _ t3.g).2,(k1 _ gX0').1,(k1 _ gX0').2,(k2 _ gX0').1,(k2 _ gX0').2,(k1 _ gXA').1,(k1 _ gXA').2,(k2 _ gXA').1,(k2 _ gXA').2,(k1 _ go1).1,(k1 _ go1).2,(k2 _ go1).1,(k2 _ go1).2,(k1 _ go2).1,(k1 _ go2).2,(k2 _ go2).1,(k2 _ go2).2,(k1 _ x3.g).1,(k1 _ x3.g).2,(k2 _ x3.g).1,(k2 _ x3.g).2,Gr.cells gA hc hlt,Gr.cells gh1 hc hlt,Gr.cells gX hc hlt,Gr.cells gh2 hc hlt,Gr.cells r3.g hc hlt,Gr.cells gAX' hc hlt,Gr.cells gm1 hc hlt,Gr.cells gm2 hc hlt,Gr.cells t3.g hc hlt,Gr.cells gX0' hc hlt,Gr.cells gXA' hc hlt,Gr.cells go1 hc hlt,Gr.cells go2 hc hlt,Gr.cells x3.g hc hlt,Gr.cells gA cx hx1,Gr.cells gh1 cx hx1,Gr.cells gX cx hx1,Gr.cells gh2 cx hx1,Gr.cells r3.g cx hx1,Gr.cells gAX' cx hx1,Gr.cells gm1 cx hx1,Gr.cells gm2 cx hx1,Gr.cells t3.g cx hx1,Gr.cells gX0' cx hx1,Gr.cells gXA' cx hx1,Gr.cells go1 cx hx1,Gr.cells go2 cx hx1,Gr.cells x3.g cx hx1,gA.lo,gh1.lo,gX.lo,gh2.lo,r3.g.lo,gAX'.lo,gm1.lo,gm2.lo,t3.g.lo,gX0'.lo,gXA'.lo,go1.lo,go2.lo,x3.g.lo,e1,e2,e3,y1,y2,y3,i1,i2,i3,st1,st2,st3,cq1,cq2,cq3,cb1,cb2,cb3,l1,l2,l3,ef1,ef2,ef3,cqf1,cqf2,cqf3,lf1,lf2,lf3,sf1,sf2,sf3,Option.map_some]
     exact ⟨⟨fin _ P1,fin _ P2⟩,fin _ P3⟩
    ·obtain ⟨a1,d1,h1,a2,d2,h2,a3,d3,h3,e1,e2,e3,gA,gh1,gX,gh2,r3⟩:=wK0 hloH hno hf p1' p2' ⟨nm,ky,w.ck+1,1⟩
     obtain ⟨st1,cq1,l1,cb1,qn1,af1,cf1,hf1,ef1,cqf1,lf1,sf1,P1⟩:=qJ aH hloH hnf hf r3 ⟨false,⟨nm,ky,0⟩⟩ cb Z0 Z0
     obtain ⟨b1,u1,m1,b2,u2,m2,b3,u3,m3,y1,y2,y3,gm1,gm2,t3⟩:=kX hloH hno hf p1' p2' ⟨nm,ky,w.ck+1,1⟩ gAX oAX cAX (Z3 _) (by rw[jH,jH];omega) Z0
     obtain ⟨st2,cq2,l2,cb2,qn2,af2,cf2,hf2,ef2,cqf2,lf2,sf2,P2⟩:=qJ aH hloH hnf hf t3 ⟨false,⟨nm,ky,0⟩⟩ cb Z0 Z0
     obtain ⟨c1',z1,o1,c2',z2,o2,c3',z3,o3,i1,i2,i3,go1,go2,x3⟩:=kX hloH hno hf p1' p2' ⟨nm,ky,w.ck+1,1⟩ gXA oXA cXA (Nat.le_succ _) (by rw[jH,jH];omega) Z0
     obtain ⟨st3,cq3,l3,cb3,qn3,af3,cf3,hf3,ef3,cqf3,lf3,sf3,P3⟩:=qJ aH hloH hnf hf x3 ⟨false,⟨nm,ky,0⟩⟩ cb Z0 Z0
     unfold opC at e2 gX y1 i1
     unfold msC evC at ef1 ef2 ef3
     unfold xcs at st1 st2 st3 cq1 cq2 cq3
     simp(disch:=first|omega|(apply id;simp only[push_cast];first|done|omega))only[push_cast,Nat.reduceAdd,Nat.reduceMul,Nat.reduceSub,Nat.reduceLT,Nat.reduceEqDiff,Nat.reduceLeDiff,Int.reduceToNat,reduceCtorEq,Int.reduceLT,Int.reduceLE,Int.reduceAdd,Int.reduceSub,Int.reduceMul,Int.reduceNeg,Int.reduceEq,hc,hlH,hlH2,hlH3,cb,cx,rowO,zR0,zS0,(k1 _ (Gr.refl H)).1,(k1 _ (Gr.refl H)).2,(k2 _ (Gr.refl H)).1,(k2 _ (Gr.refl H)).2,(k1 _ gA).1,(k1 _ gA).2,(k2 _ gA).1,(k2 _ gA).2,(k1 _ gh1).1,(k1 _ gh1).2,(k2 _ gh1).1,(k2 _ gh1).2,(k1 _ gX).1,(k1 _ gX).2,(k2 _ gX).1,(k2 _ gX).2,(k1 _ gh2).1,(k1 _ gh2).2,(k2 _ gh2).1,(k2 _ gh2).2,(k1 _ r3.g).1,(k1 _ r3.g).2,(k2 _ r3.g).1,(k2 _ r3.g).2,(k1 _ gAX').1,(k1 _ gAX').2,(k2 _ gAX').1,(k2 _ gAX').2,(k1 _ gm1).1,(k1 _ gm1).2,(k2 _ gm1).1,(k2 _ gm1).2,(k1 _ gm2).1,(k1 _ gm2).2,(k2 _ gm2).1,(k2 _ gm2).2,(k1 _ t3.g).1,(k1 _ t3.g).2,(k2 _ t3.g).1,(k2 _ t3.g).2,(k1 _ gX0').1,(k1 _ gX0').2,(k2 _ gX0').1,(k2 _ gX0').2,(k1 _ gXA').1,(k1 _ gXA').2,(k2 _ gXA').1,(k2 _ gXA').2,(k1 _ go1).1,(k1 _ go1).2,(k2 _ go1).1,(k2 _ go1).2,(k1 _ go2).1,(k1 _ go2).2,(k2 _ go2).1,(k2 _ go2).2,(k1 _ x3.g).1,(k1 _ x3.g).2,(k2 _ x3.g).1,(k2 _ x3.g).2,Gr.cells gA hc hlt,Gr.cells gh1 hc hlt,Gr.cells gX hc hlt,Gr.cells gh2 hc hlt,Gr.cells r3.g hc hlt,Gr.cells gAX' hc hlt,Gr.cells gm1 hc hlt,Gr.cells gm2 hc hlt,Gr.cells t3.g hc hlt,Gr.cells gX0' hc hlt,Gr.cells gXA' hc hlt,Gr.cells go1 hc hlt,Gr.cells go2 hc hlt,Gr.cells x3.g hc hlt,Gr.cells gA cx hx1,Gr.cells gh1 cx hx1,Gr.cells gX cx hx1,Gr.cells gh2 cx hx1,Gr.cells r3.g cx hx1,Gr.cells gAX' cx hx1,Gr.cells gm1 cx hx1,Gr.cells gm2 cx hx1,Gr.cells t3.g cx hx1,Gr.cells gX0' cx hx1,Gr.cells gXA' cx hx1,Gr.cells go1 cx hx1,Gr.cells go2 cx hx1,Gr.cells x3.g cx hx1,gA.lo,gh1.lo,gX.lo,gh2.lo,r3.g.lo,gAX'.lo,gm1.lo,gm2.lo,t3.g.lo,gX0'.lo,gXA'.lo,go1.lo,go2.lo,x3.g.lo,e1,e2,e3,y1,y2,y3,i1,i2,i3,st1,st2,st3,cq1,cq2,cq3,cb1,cb2,cb3,l1,l2,l3,ef1,ef2,ef3,cqf1,cqf2,cqf3,lf1,lf2,lf3,sf1,sf2,sf3,Option.map_some]
     exact ⟨⟨fin _ P1,fin _ P2⟩,fin _ P3⟩
end
end Go.Proofs.Ytejgmoenmbjidaa
