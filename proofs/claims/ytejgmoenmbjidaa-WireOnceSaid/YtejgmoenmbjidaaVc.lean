/-
  A part of the proof: what the program's functions hand back,as theorems. No condition but those that each theorem names.
-/
import Derived.Test.YtejgmoenmbjidaaVb
set_option linter.unusedSimpArgs false
set_option linter.unusedVariables false
namespace Go.Proofs.Ytejgmoenmbjidaa
open Go Go.RowKit Go.Ev
noncomputable section
set_option maxRecDepth 100000
variable (G:Nat) (h:Heap)
theorem own_at {α:Type}{f:α→List Value}{n e c:Nat}{h:Heap}{a:Option Addr}{l:List α}(o:Own h e n a l.length c (rw f l))(hf:∀ x,(f x).length=n)(hn:0<n){i:Nat}{x:α}(hx:l[i]?=some x){t:TypeId}(hk:knd Try.prog t=some (true,n)) :
  ∃ b,a=some ⟨b,0,none⟩∧ldC (some (true,n)) (i*n) h.lo b (cells h b)=some (.agg ⟨f x⟩):=by
 have hi:=(List.getElem?_eq_some_iff.1 hx).1
 have hm:=Nat.mul_le_mul_right n (show i+1≤l.length from hi)
 obtain ⟨b,off,e1,hl⟩:=Sl.loadA o.sl hk (i:=i) hn (by rw[rw_len hf];rw[Nat.add_mul] at hm;omega)
 have hoff:off=0:=by
  rcases o.hat with ⟨e2,_⟩|⟨b',m,e2,_⟩<;>(rw[e2] at e1;cases e1)
  rfl
 subst hoff
 rw[load_eq,hk,Nat.zero_add,rw_at hf hx] at hl
 exact ⟨b,e1,hl⟩
theorem crash_x {q:Xp}{w:Wi}(a:XAt h q w):CallE (pp G) 35 [.pointer (some ⟨q.p,0,none⟩)] h (λv h'=>v=.tuple #[]∧XPost h q (crashW w) h'):=by
 refine CallE.fir4 (good G) fir35 rfl rfl (F5_arr ..) λhlo=>?_
 rw[sh_ir35]
 have hc:=a.cell
 have hl:=a.lo
 unfold xcs at hc
 simp(disch:=first|omega|(apply id;simp only[push_cast];first|done|omega))only[push_cast,Nat.reduceAdd,Nat.reduceMul,Nat.reduceSub,Nat.reduceLT,Nat.reduceEqDiff,Nat.reduceLeDiff,Int.reduceToNat,reduceCtorEq,Int.reduceLT,Int.reduceLE,Int.reduceAdd,Int.reduceSub,Int.reduceMul,Int.reduceNeg,Int.reduceEq,hc,hl]
 have aa:=xat_O a (Gr.refl h) (Own.nil h 81 5) (l4:=[]) rfl (λb hb=>by obtain ⟨o,s,e⟩:=hb;cases e)
 refine ⟨⟨{ q with ao:=none,co:=0 },rfl,aa,λb ⟨i,hi⟩=>?_⟩,(Grew.refl h _).put'' _ _ λ_=>⟨0,rfl⟩⟩
 by_cases e:i=2
 ·subst e
  have hh:blk none b:=hi
  obtain ⟨o,s,e⟩:=hh;cases e
 ·exact .inl ⟨i,xtg_O e hi⟩
theorem twice_x {q:Xp}{w:Wi}(a:XAt h q w)(hn:w.fl.length<100000)(i:Int) :
  CallE (pp G) 20 [.pointer (some ⟨q.p,0,none⟩),.int .i64 i] h (λv h'=>v=.bool (decide (0≤i∧i<w.fl.length))∧XPost h q (twiceW w i) h'):=by
 refine CallE.fir4 (good G) fir20 rfl rfl (F32_arr ..) λhlo=>?_
 rw[sh_ir20]
 have hc:=a.cell
 have hl:=a.lo
 unfold xcs at hc
 unfold twiceW
 by_cases h0:i<0
 ·rw[if_neg (show ¬ (0≤i∧i<w.fl.length) by omega),decide_eq_false (show ¬ (0≤i∧i<w.fl.length) by omega)]
  simp(disch:=first|omega|(apply id;simp only[push_cast];first|done|omega))only[push_cast,Nat.reduceAdd,Nat.reduceMul,Nat.reduceSub,Nat.reduceLT,Nat.reduceEqDiff,Nat.reduceLeDiff,Int.reduceToNat,reduceCtorEq,Int.reduceLT,Int.reduceLE,Int.reduceAdd,Int.reduceSub,Int.reduceMul,Int.reduceNeg,Int.reduceEq,h0]
  exact ⟨⟨q,rfl,a,λb hb=>.inl hb⟩,Grew.refl _ _⟩
 by_cases h1:i<w.fl.length
 ·obtain ⟨j,rfl⟩:∃ j:Nat,i=(j:Int):=⟨i.toNat,by omega⟩
  rw[if_pos ⟨by omega,h1⟩,decide_eq_true (show (0≤(j:Int)∧(j:Int)<w.fl.length) by omega),Int.toNat_natCast]
  have hge:¬ (j:Int) ≥ (w.fl.length:Int):=by omega
  obtain ⟨m,hm⟩:∃ m,w.fl[j]?=some m:=⟨_,List.getElem?_eq_getElem (by omega)⟩
  obtain ⟨b,e1,ld⟩:=own_at a.fl msC_len (by decide) hm T_knd_62
  obtain ⟨af,cf,h2,e2,c2,l2,s2,P,gg⟩:=xapp_msg a hlo (by omega) m
  have cA:=λx=>Gr.cells ((Gr.refl h).add' x) hc (Xlt_p a)
  rw[hm]
  obtain ⟨bk,⟨nm,ky,vl⟩⟩:=m
  have hrow:=rowM2 h (Tx nm) bk ky vl
  unfold msC evC at ld e2
  unfold xcs at c2 s2
  rw[e1] at hc e2 c2 s2 cA
  dsimp only at ld e2
  have lq:h2.lo≤q.p:=by omega
  simp(disch:=first|omega|(apply id;simp only[push_cast];first|done|omega))only[push_cast,Nat.reduceAdd,Nat.reduceMul,Nat.reduceSub,Nat.reduceLT,Nat.reduceEqDiff,Nat.reduceLeDiff,Int.reduceToNat,reduceCtorEq,Int.reduceLT,Int.reduceLE,Int.reduceAdd,Int.reduceSub,Int.reduceMul,Int.reduceNeg,Int.reduceEq,hc,hl,h0,h1,hge,Int.toNat_natCast,ld,hrow,cA,e2,c2,l2,s2]
  exact P
 ·have hge:i ≥ (w.fl.length:Int):=by omega
  rw[if_neg (show ¬ (0≤i∧i<w.fl.length) by omega),decide_eq_false (show ¬ (0≤i∧i<w.fl.length) by omega)]
  simp(disch:=first|omega|(apply id;simp only[push_cast];first|done|omega))only[push_cast,Nat.reduceAdd,Nat.reduceMul,Nat.reduceSub,Nat.reduceLT,Nat.reduceEqDiff,Nat.reduceLeDiff,Int.reduceToNat,reduceCtorEq,Int.reduceLT,Int.reduceLE,Int.reduceAdd,Int.reduceSub,Int.reduceMul,Int.reduceNeg,Int.reduceEq,hc,hl,h0,hge]
  exact ⟨⟨q,rfl,a,λb hb=>.inl hb⟩,Grew.refl _ _⟩
theorem lit3 (h:Heap):bsC 0 3 h (some (List.replicate 0 [Value.int IntKind.i64 0]).flatten)=some (.slice (some ⟨h.next,0,none⟩) 0 0,h.add (O [] 3 false)):=bsC_s _ _ _ rfl
theorem xnil {p c3 b:Nat}{a3:Option Addr}(i:Nat):¬ (⟨p,a3,c3,none,0,none,0,none,0⟩:Xp).tg b (i+2):=λhi=>by
 rcases i with _|_|_|i
 ·have hh:blk none b:=hi
  obtain ⟨o,s,e⟩:=hh;cases e
 ·have hh:blk none b:=hi
  obtain ⟨o,s,e⟩:=hh;cases e
 ·have hh:blk none b:=hi
  obtain ⟨o,s,e⟩:=hh;cases e
 ·exact hi
theorem new_x (xs:List Int)(ar:Option Addr)(cr:Nat)(hs:Sl h ar (ivs xs))(hb:∀ b,blk ar b→b<h.next)(hn:xs.length<1000000000) :
  CallE (pp G) 12 [.slice ar xs.length cr] h (λv h'=>(∃ q:Xp,v=.pointer (some ⟨q.p,0,none⟩)∧XAt h' q (newW xs)∧∀ b,q.B b→h.next≤b)∧Gr h h'):=by
 refine CallE.fir4 (good G) fir12 rfl rfl (F8_arr ..) λhlo=>?_
 rw[sh_ir12]
 obtain ⟨o2,g2,b2⟩:=lit_own (h:=h) 3 1 hlo
 obtain ⟨a3,c3,h3,e3,o3,g3,b3,_⟩:=app_s T_appT_22_22 (by decide) g2 (g_lon g2 hlo) o2 b2 (Sl.grew hs g2 λb hb' _=>⟨hb b hb',id⟩) (m:=xs.length) (cv:=cr) (by rw[ivs_len];omega) (λk=>ivs_fone k _) (by constructor<;>omega)
 rw[Nat.zero_add] at e3 o3
 rw[List.nil_append] at o3
 have hf3:=own_fo o3 xs.length c3
 have hf3':fone h3.next (.slice a3 xs.length c3)=true:=by rw[q_cons] at hf3;exact hf3.1
 have l3:=g_lon g3 hlo
 have n3:=g3.next
 simp(disch:=first|omega|(apply id;simp only[push_cast];first|done|omega))only[push_cast,Nat.reduceAdd,Nat.reduceMul,Nat.reduceSub,Nat.reduceLT,Nat.reduceEqDiff,Nat.reduceLeDiff,Int.reduceToNat,reduceCtorEq,Int.reduceLT,Int.reduceLE,Int.reduceAdd,Int.reduceSub,Int.reduceMul,Int.reduceNeg,Int.reduceEq,lit3,e3,hf3']
 have g4:Gr h3 (h3.add (O [.slice a3 xs.length c3,.slice none 0 0,.slice none 0 0,.slice none 0 0,.int .i64 0] 59 false)):=Grew.add _ _ _
 refine ⟨⟨⟨h3.next,a3,c3,none,0,none,0,none,0⟩,rfl,⟨cells_add_s _ _ _ _ rfl,by rw[lo_add];exact l3,λb i hi=>?_,(o3.grew g4 λ_ _ _ h=>h).sl,Own.nil _ _ _,Own.nil _ _ _,Own.nil _ _ _,λb i j hi hj=>?_⟩,λb ⟨i,hi⟩=>?_⟩,g3.tr' g4 λ_ _ h=>h⟩
 ·have hbo:=g4.next
  rcases i with _|_|i
  ·have e:b=h3.next:=hi
   rw[next_add];omega
  ·have hh:blk a3 b:=hi
   rcases o3.hat with ⟨e1,_⟩|⟨b',m,e1,_,h5,_⟩
   ·obtain ⟨o',s,e'⟩:=hh;rw[e1] at e';cases e'
   ·obtain ⟨o',s,e'⟩:=hh;rw[e1] at e';cases e';omega
  ·exact absurd hi (xnil i)
 ·have key : ∀ i, (⟨h3.next, a3, c3, none, 0, none, 0, none, 0⟩ : Xp).tg b i → (i = 0 ∧ b = h3.next) ∨ (i = 1 ∧ b < h3.next) := fun i hi => by
   rcases i with _|_|i
   ·exact .inl ⟨rfl,hi⟩
   ·have hh:blk a3 b:=hi
    rcases o3.hat with ⟨e1,_⟩|⟨b',m,e1,_,h5,_⟩
    ·obtain ⟨o',s,e'⟩:=hh;rw[e1] at e';cases e'
    ·obtain ⟨o',s,e'⟩:=hh;rw[e1] at e';cases e';exact .inr ⟨rfl,h5⟩
   ·exact absurd hi (xnil i)
  rcases key i hi with ⟨e1,e2⟩|⟨e1,e2⟩<;>rcases key j hj with ⟨e3,e4⟩|⟨e3,e4⟩<;>omega
 ·rcases i with _|_|i
  ·have e:b=h3.next:=hi
   omega
  ·exact b3 b hi
  ·exact absurd hi (xnil i)
end
end Go.Proofs.Ytejgmoenmbjidaa
namespace Go.Proofs.Ytejgmoenmbjidaa
open Go Go.RowKit Go.Ev
noncomputable section
set_option maxRecDepth 100000
variable (G:Nat) (h:Heap)
theorem own_sub {α:Type}{f:α→List Value}{n e c:Nat}{h:Heap}{a:Option Addr}{l:List α}(o:Own h e n a l.length c (rw f l))(hf:∀ x,(f x).length=n){i k:Nat}{x:α}(hx:l[i]?=some x)(hk0:0<k)(hkn:k≤n){t:TypeId}(hk:knd Try.prog t=some (true,k)) :
  ∃ b,a=some ⟨b,0,none⟩∧ldC (some (true,k)) (i*n) h.lo b (cells h b)=some (.agg ⟨(f x).take k⟩):=by
 have hi:=(List.getElem?_eq_some_iff.1 hx).1
 have hm:=Nat.mul_le_mul_right n (show i+1≤l.length from hi)
 rw[Nat.add_mul] at hm
 have hlen:=rw_len hf l
 have hs:=Sl.sub o.sl (i*n) k
 have he:(((rw f l).drop (i*n)).take k)=(f x).take k:=by
  have h1:=rw_at hf hx
  rw[← h1,List.take_take,Nat.min_eq_left hkn]
 rw[he] at hs
 rcases o.hat with ⟨e2,e3,_⟩|⟨b,m,e2,h2,h3,h4,_⟩
 ·omega
 ·rw[e2,Option.map_some,addM] at hs
  have hfl:((f x).take k).length=k:=by rw[List.length_take,hf];omega
  obtain ⟨b',off',e1,hl⟩:=Sl.loadA hs hk (i:=0) hk0 (by rw[hfl];omega)
  cases e1
  rw[load_eq,hk,Nat.zero_mul,List.drop_zero,List.take_of_length_le (by omega),Nat.zero_add] at hl
  exact ⟨b,e2,hl⟩
theorem rw_set {α:Type}{f:α→List Value}{n:Nat}(hf:∀ x,(f x).length=n){v:Value}{j:Nat}(hj:j<n){x y:α}(hy:f y=setFrom (f x) j [v]):∀ (l:List α) (i:Nat),l[i]?=some x→setFrom (rw f l) (i*n+j) [v]=rw f (l.set i y)
 | [],i,h=>by simp at h
 | z :: l,0,h=>by
  simp at h
  subst h
  rw[List.set_cons_zero,rw,rw,hy]
  unfold setFrom
  rw[Nat.zero_mul,Nat.zero_add,List.take_append_of_le_length (by rw[hf];omega),List.drop_append_of_le_length (by rw[hf];simp;omega),List.append_assoc,List.append_assoc,List.append_assoc]
 | z :: l,i+1,h=>by
  have ih:=rw_set hf hj hy l i (by simpa using h)
  rw[List.set_cons_succ,rw,rw,← ih]
  unfold setFrom
  have e:(i+1)*n+j=(f z).length+(i*n+j):=by rw[hf,Nat.add_mul];omega
  rw[e,List.take_append,List.take_of_length_le (by omega),Nat.add_sub_cancel_left,show (f z).length+(i*n+j)+[v].length=(f z).length+((i*n+j)+[v].length) by omega,List.drop_append,List.drop_of_length_le (by omega),Nat.add_sub_cancel_left,List.nil_append,List.append_assoc,List.append_assoc,List.append_assoc]
theorem tkW_at {w:Wi}{p:Nat}{o:Opn}(ho:w.op[p]?=some o):(tkW w p).op[p]?=some o:=by
 obtain ⟨h1,h2⟩:=tk_take ho
 have hp:=(List.getElem?_eq_some_iff.1 ho).1
 show ((w.op.take p).map (bmp (w.ck+1))++w.op.drop p)[p]?=some o
 rw[List.getElem?_append_right (by rw[List.length_map,List.length_take];omega),List.length_map,List.length_take,h2,show p-min p w.op.length=0 by omega]
 rfl
theorem tkW_len (w:Wi)(p:Nat):(tkW w p).op.length=w.op.length:=by
 have:=congrArg List.length (tkW_keys w p)
 simpa using this
theorem tkW_set {w:Wi}{p:Nat}{o:Opn}(ho:w.op[p]?=some o)(ht:o.time=w.ck+1) :
  { tkW w p with op:=(tkW w p).op.set p ⟨o.nm,o.key,w.ck+1+min (2*o.wait) 8,min (2*o.wait) 8⟩,fl:=(tkW w p).fl++[⟨false,⟨o.nm,o.key,0⟩⟩] }=tkW w (p+1):=by
 obtain ⟨h1,h2⟩:=tk_take ho
 have hp:=(List.getElem?_eq_some_iff.1 ho).1
 have hb:bmp (w.ck+1) o=⟨o.nm,o.key,w.ck+1+min (2*o.wait) 8,min (2*o.wait) 8⟩:=if_pos ht
 have hl:((w.op.take p).map (bmp (w.ck+1))).length=p:=by rw[List.length_map,List.length_take];omega
 rw[← hb]
 unfold tkW
 dsimp only
 rw[h2,List.set_append_right _ _ (by omega),hl,Nat.sub_self,List.set_cons_zero,h1,List.map_append,List.append_assoc]
 unfold rqs
 rw[List.filter_append,List.map_append,List.append_assoc]
 simp[ht]
theorem xat_F {h h4:Heap}{q:Xp}{w:Wi}(a:XAt h q w){a4:Option Addr}{n4 c4:Nat}{l4:List Msg}(g:Grew h h4 (blk q.af))(o:Own h4 62 4 a4 n4 c4 (rw msC l4))(hn:l4.length=n4)(hb:∀ b,blk a4 b→blk q.af b∨h.next≤b) :
  XAt (h4.put q.p (O [.slice q.av w.vs.length q.cv,.slice q.ao w.op.length q.co,.slice a4 n4 c4,.slice q.aa w.ap.length q.ca,.int .i64 w.ck] 59 false)) { q with af:=a4,cf:=c4 } { w with fl:=l4 }:=by
 subst hn
 have hne:∀ b,blk a4 b→¬ b=q.p:=λb hb' e=>by
  rcases hb b hb' with h1|h1
  ·have:=a.sep b 3 0 h1 e;omega
  ·have:=Xlt_p a;omega
 exact a.setF ((g.mono (T:=λb=>b=q.p∨blk q.af b) λb _ hb=>.inr hb).put'' _ _ λ_=>.inl rfl) (cells_put_s _ _ _ _) (o.grew ((Grew.refl h4 _).put'' (S:=λb=>b=q.p) _ _ λ_=>rfl) λb hb' _ e=>hne b hb' e) hb
theorem ldC_num {off lo b:Nat}{cs:List Value}{e:TypeId}{m:Bool}{v:Value}(hb:lo≤b)(hv:cs[off]?=some v):ldC (some (false,0)) off lo b (some (cs,e,m))=some v:=by
 rw[ldC_own _ _ _ _ _ _ _ _ hb]
 unfold partL
 exact hv
inductive I33 (h:Heap)(q:Xp)(w:Wi):Nat→S→Prop
 | mk {i : Nat} {iv : Int} {q2 : Xp} {h2 : Heap} {x1 x3 x4 x5 x6 x7 x8 x9 xA xB xC xD xE xF xG xH xI xJ xK xL xM xN xO xP xQ xR xS xT xU xV xW xX xY xZ yA yB yC yD yE yF yG yH yI yJ yK yL yM yN yO yP yQ yR yS yT yU yV yW yX yY yZ zA zB zC zD zE zF zG zH zI zJ zK zL zM zN zO zP zQ zR zS zT zU zV zW zX zY : Value} : iv = i → i ≤ w.op.length → q2.p = q.p → XAt h2 q2 (tkW w i) → (∀ b, q2.B b → q.B b ∨ h.next ≤ b) → Grew h h2 q.B →
   I33 h q w (w.op.length-i) ⟨(F87 (.pointer (some ⟨q.p,0,none⟩)) x1 (.int .i64 iv) x3 x4 x5 x6 x7 x8 x9 xA xB xC xD xE xF xG xH xI xJ xK xL xM xN xO xP xQ xR xS xT xU xV xW xX xY xZ yA yB yC yD yE yF yG yH yI yJ yK yL yM yN yO yP yQ yR yS yT yU yV yW yX yY yZ zA zB zC zD zE zF zG zH zI zJ zK zL zM zN zO zP zQ zR zS zT zU zV zW zX zY),[],h2⟩
theorem tick_x {q:Xp}{w:Wi}(a:XAt h q w)(hck:0≤w.ck∧w.ck<900000)(hnf:w.fl.length<90000)(hno:w.op.length≤12)(hw:∀ o∈w.op,0≤o.wait∧o.wait≤8) :
  CallE (pp G) 33 [.pointer (some ⟨q.p,0,none⟩)] h (λv h'=>v=.tuple #[]∧XPost h q (tickW w) h'):=by
 refine CallE.fir4 (good G) fir33 rfl rfl (F87_arr ..) λhlo=>?_
 rw[sh_ir33]
 have hc:=a.cell
 have hl:=a.lo
 have hw1:IntKind.i64.wrap (w.ck+1)=w.ck+1:=wrap_i64 (by omega) (by omega)
 have a2:=a.setC (ck:=w.ck+1) ((Grew.refl h (λb=>b=q.p)).put'' q.p (O (xcs q { w with ck:=w.ck+1 }) 59 false) λ_=>rfl) (cells_put_s _ _ _ _)
 have G2:Grew h (h.put q.p (O (xcs q { w with ck:=w.ck+1 }) 59 false)) q.B:=(Grew.refl h _).put'' _ _ λ_=>⟨0,rfl⟩
 unfold xcs at hc a2 G2
 dsimp only at a2 G2
 simp(disch:=first|omega|(apply id;simp only[push_cast];first|done|omega))only[push_cast,Nat.reduceAdd,Nat.reduceMul,Nat.reduceSub,Nat.reduceLT,Nat.reduceEqDiff,Nat.reduceLeDiff,Int.reduceToNat,reduceCtorEq,Int.reduceLT,Int.reduceLE,Int.reduceAdd,Int.reduceSub,Int.reduceMul,Int.reduceNeg,Int.reduceEq,hc,hl,hw1]
 rw[← tkW_0] at a2
 refine W.loop4 (good G) (I33 h q w) ?_ _ _ (I33.mk (i:=0) rfl (Nat.zero_le _) rfl a2 (λb hb=>.inl hb) G2)
 intro kk0 s1 hI
 cases hI with|@mk i iv q2 h2 _ _ _ _ _ _ _ _ _ _ _ _ _ _ _ _ _ _ _ _ _ _ _ _ _ _ _ _ _ _ _ _ _ _ _ _ _ _ _ _ _ _ _ _ _ _ _ _ _ _ _ _ _ _ _ _ _ _ _ _ _ _ _ _ _ _ _ _ _ _ _ _ _ _ _ _ _ _ _ _ _ _ _ _ _ hiv hi hq a3 hB g2=>
 subst hiv
 rw[sh_ir33_s0]
 have hc3:=a3.cell
 have hl3:=a3.lo
 have lo2:=g_lon g2 hlo
 have ck3:(tkW w i).ck=w.ck+1:=rfl
 unfold xcs at hc3
 rw[tkW_len,ck3,hq] at hc3
 rw[hq] at hl3
 by_cases h1:i<w.op.length
 ·have h1':(i:Int)<(w.op.length:Int):=by omega
  obtain ⟨o,ho⟩:∃ o,w.op[i]?=some o:=⟨_,List.getElem?_eq_getElem h1⟩
  have ho3:=tkW_at ho
  obtain ⟨b,e1,ld⟩:=own_num a3.op opC_len ho3 (j:=3) (by decide) rfl T_knd_3
  have w1:IntKind.i64.wrap ((i:Int)+1)=(i:Int)+1:=wrap_i64 (by omega) (by omega)
  have hc4:=hc3
  rw[e1] at hc4
  by_cases ht:o.time=w.ck+1
  ·have hom:o∈w.op:=by rw[← (List.getElem?_eq_some_iff.1 ho).2];exact List.getElem_mem _
   have hwt:=hw o hom
   have fl3:(tkW w i).fl.length≤w.fl.length+12:=by
    show (w.fl++rqs (w.ck+1) (w.op.take i)).length≤_
    have h1:=List.length_filter_le (λo=>decide (o.time=w.ck+1)) (w.op.take i)
    rw[List.length_take] at h1
    unfold rqs
    rw[List.length_append,List.length_map]
    omega
   obtain ⟨b1,e1',lev⟩:=own_sub a3.op opC_len ho3 (k:=3) (by decide) (by decide) T_knd_31
   rw[e1] at e1';cases e1'
   have lev:ldC (some (true,3)) (i*5) h2.lo b (cells h2 b)=some (.agg ⟨[.string (Tx o.nm),.int .i64 o.key,.int .i64 0]⟩):=lev
   have g3:Gr h2 (h2.add (O (msC ⟨false,⟨o.nm,o.key,0⟩⟩) 62 false)):=Grew.add _ _ _
   have s3:Sl (h2.add (O (msC ⟨false,⟨o.nm,o.key,0⟩⟩) 62 false)) (some ⟨h2.next,0,none⟩) (msC ⟨false,⟨o.nm,o.key,0⟩⟩):=Sl.row (cells_add_s _ _ _ _ rfl) (by rw[lo_add];exact lo2)
   obtain ⟨a4,c4,h4,e4,o4,g4,b4⟩:=own_append (P:=Try.prog) T_appT_57_57 (a3.fl.grew g3 λ_ _ _ h=>h) (by rw[lo_add,next_add];omega) (x:=.slice (some ⟨h2.next,0,none⟩) 1 1) (m:=1) rfl (Sl.src s3 (msC_len _) (by decide)) (msC_len _) (msC_fone _ _) (by constructor<;>omega)
   have gg:Grew h2 h4 (blk q2.af):=(Grew.mono g3 λ_ _ h=>h.elim).tr' g4 λb _ h=>h
   have b4':∀ b,blk a4 b→blk q2.af b∨h2.next≤b:=λb hb=>(b4 b hb).imp id λh=>by rw[next_add] at h;omega
   have hp3:=Xlt_p a3
   rw[← show rw msC [⟨false,⟨o.nm,o.key,0⟩⟩]=msC ⟨false,⟨o.nm,o.key,0⟩⟩ from by simp[rw],← rw_app] at o4
   have cA:=λx=>Gr.cells ((Gr.refl h2).add' x) hc4 (by rw[← hq];exact hp3)
   have c4':=gg.cellsE hc4 (by rw[← hq];exact hp3) (λhb=>by have:=a3.sep q.p 3 0 hb hq.symm;omega)
   have l4:=gg.lo
   have hst:=stC_s (h:=h4) 1 2 (.slice a4 ((tkW w i).fl.length+1) c4) q.p [.slice q2.av (tkW w i).vs.length q2.cv,.slice (some ⟨b,0,none⟩) w.op.length q2.co,.slice q2.af (tkW w i).fl.length q2.cf,.slice q2.aa (tkW w i).ap.length q2.ca,.int .i64 (w.ck+1)] 59 false rfl (own_fo o4 _ _) (by omega) (by show 2+1≤5;omega)
   have A5:=xat_F a3 gg o4 (by rw[List.length_append];rfl) b4'
   have G5:Grew h2 (h4.put q2.p (O [.slice q2.av (tkW w i).vs.length q2.cv,.slice q2.ao (tkW w i).op.length q2.co,.slice a4 ((tkW w i).fl.length+1) c4,.slice q2.aa (tkW w i).ap.length q2.ca,.int .i64 (tkW w i).ck] 59 false)) q2.B:=(gg.mono λb _ hb=>⟨3,hb⟩).put'' _ _ λ_=>⟨0,rfl⟩
   rw[tkW_len,ck3,hq,e1] at A5 G5
   have n5:(h4.put q.p (O [.slice q2.av (tkW w i).vs.length q2.cv,.slice (some ⟨b,0,none⟩) w.op.length q2.co,.slice a4 ((tkW w i).fl.length+1) c4,.slice q2.aa (tkW w i).ap.length q2.ca,.int .i64 (w.ck+1)] 59 false)).next=h4.next:=next_put _ _
   unfold msC evC at e4
   dsimp only at e4
   simp(disch:=first|omega|(apply id;simp only[push_cast];first|done|omega))only[push_cast,Nat.reduceAdd,Nat.reduceMul,Nat.reduceSub,Nat.reduceLT,Nat.reduceEqDiff,Nat.reduceLeDiff,Int.reduceToNat,reduceCtorEq,Int.reduceLT,Int.reduceLE,Int.reduceAdd,Int.reduceSub,Int.reduceMul,Int.reduceNeg,Int.reduceEq,hc4,hl3,h1',Int.toNat_natCast,ld,ht,w1,lev,rowM2,cA,e4,c4',l4,hst]
   generalize h4.put q.p (O [.slice q2.av (tkW w i).vs.length q2.cv,.slice (some ⟨b,0,none⟩) w.op.length q2.co,.slice a4 ((tkW w i).fl.length+1) c4,.slice q2.aa (tkW w i).ap.length q2.ca,.int .i64 (w.ck+1)] 59 false)=H5 at *
   have lH5:=G5.lo
   have hc5:=A5.cell
   unfold xcs at hc5
   dsimp only at hc5
   rw[tkW_len,List.length_append,List.length_singleton] at hc5
   have ho5:Own H5 81 5 (some ⟨b,0,none⟩) (tkW w i).op.length q2.co (rw opC (tkW w i).op):=by exact A5.op
   obtain ⟨m,hbl,hbn,hcb,hm⟩:∃ m,H5.lo≤b∧b<H5.next∧cells H5 b=some (rw opC (tkW w i).op,81,m)∧((m=true∧q2.co=UC)∨(m=false∧q2.co=(tkW w i).op.length)):=by
    rcases ho5.hat with ⟨e2,_⟩|⟨b',m,e2,k1,k2,k3,k4⟩
    ·cases e2
    ·cases e2;exact ⟨m,k1,k2,k3,k4⟩
   have hbq:b≠q.p:=λe=>by have:=a3.sep b 2 0 (by show blk q2.ao b;rw[e1];exact ⟨0,none,rfl⟩) (by show b=q2.p;rw[hq];exact e);omega
   have hlen5:=rw_len opC_len (tkW w i).op
   rw[tkW_len] at hlen5
   have hm5:=Nat.mul_le_mul_right 5 (show i+1≤w.op.length from h1)
   have hw1':IntKind.i64.wrap (2*o.wait)=2*o.wait:=wrap_i64 (by omega) (by omega)
   have hw2':IntKind.i64.wrap (w.ck+1+min (2*o.wait) 8)=w.ck+1+min (2*o.wait) 8:=wrap_i64 (by omega) (by omega)
   have ld4:ldC (some (false,0)) (i*5+4) h2.lo b (some (rw opC (tkW w i).op,81,m))=some (.int .i64 o.wait):=ldC_num (by omega) (by rw[rw_idx opC_len ho3 (by decide)];rfl)
   have st4:stC 1 (i*5+4) (.int .i64 (min (2*o.wait) 8)) H5 b (some (rw opC (tkW w i).op,81,m))=some (undef,H5.put b (O (rw opC ((tkW w i).op.set i ⟨o.nm,o.key,o.time,min (2*o.wait) 8⟩)) 81 m)):=by
    rw[stC_s (h:=H5) 1 _ _ _ _ _ _ rfl rfl hbl (by omega)]
    rw[show (Value.int IntKind.i64 (min (2*o.wait) 8)).cells.toList=[.int .i64 (min (2*o.wait) 8)] from rfl,rw_set opC_len (by decide) (y:=⟨o.nm,o.key,o.time,min (2*o.wait) 8⟩) rfl _ _ ho3]
   have ho6:((tkW w i).op.set i ⟨o.nm,o.key,o.time,min (2*o.wait) 8⟩)[i]?=some ⟨o.nm,o.key,o.time,min (2*o.wait) 8⟩:=by rw[List.getElem?_set_self (by rw[tkW_len];exact h1)]
   have ld5:ldC (some (false,0)) (i*5+4) h2.lo b (some (rw opC ((tkW w i).op.set i ⟨o.nm,o.key,o.time,min (2*o.wait) 8⟩),81,m))=some (.int .i64 (min (2*o.wait) 8)):=ldC_num (by omega) (by rw[rw_idx opC_len ho6 (by decide)];rfl)
   have hlen6:=rw_len opC_len ((tkW w i).op.set i ⟨o.nm,o.key,o.time,min (2*o.wait) 8⟩)
   rw[List.length_set,tkW_len] at hlen6
   have st5:stC 1 (i*5+3) (.int .i64 (w.ck+1+min (2*o.wait) 8)) (H5.put b (O (rw opC ((tkW w i).op.set i ⟨o.nm,o.key,o.time,min (2*o.wait) 8⟩)) 81 m)) b (some (rw opC ((tkW w i).op.set i ⟨o.nm,o.key,o.time,min (2*o.wait) 8⟩),81,m))=some (undef,(H5.put b (O (rw opC ((tkW w i).op.set i ⟨o.nm,o.key,o.time,min (2*o.wait) 8⟩)) 81 m)).put b (O (rw opC ((tkW w i).op.set i ⟨o.nm,o.key,w.ck+1+min (2*o.wait) 8,min (2*o.wait) 8⟩)) 81 m)):=by
    rw[stC_s (h:=H5.put b _) 1 _ _ _ _ _ _ rfl rfl (by rw[lo_put];exact hbl) (by omega)]
    rw[show (Value.int IntKind.i64 (w.ck+1+min (2*o.wait) 8)).cells.toList=[.int .i64 (w.ck+1+min (2*o.wait) 8)] from rfl,rw_set opC_len (by decide) (y:=⟨o.nm,o.key,w.ck+1+min (2*o.wait) 8,min (2*o.wait) 8⟩) rfl _ _ ho6,List.set_set]
   simp(disch:=first|omega|(apply id;simp only[push_cast];first|done|omega))only[push_cast,Nat.reduceAdd,Nat.reduceMul,Nat.reduceSub,Nat.reduceLT,Nat.reduceEqDiff,Nat.reduceLeDiff,Int.reduceToNat,reduceCtorEq,Int.reduceLT,Int.reduceLE,Int.reduceAdd,Int.reduceSub,Int.reduceMul,Int.reduceNeg,Int.reduceEq,hc5,Int.toNat_natCast,hl3,lH5,hcb,ld4,mnV_int,hw1',st4,ld5,hw2',st5,w1]
   have g7:Grew H5 ((H5.put b (O (rw opC ((tkW w i).op.set i ⟨o.nm,o.key,o.time,min (2*o.wait) 8⟩)) 81 m)).put b (O (rw opC ((tkW w i).op.set i ⟨o.nm,o.key,w.ck+1+min (2*o.wait) 8,min (2*o.wait) 8⟩)) 81 m)) (λb'=>b'=b):=((Grew.refl H5 (λb'=>b'=b)).put'' b _ λ_=>rfl).put'' b _ λ_=>rfl
   have c7:=g7.cellsE hc5 (by have:=A5.lt q.p 0 rfl;exact this) (λe=>hbq e.symm)
   have hlen7:=rw_len opC_len ((tkW w i).op.set i ⟨o.nm,o.key,w.ck+1+min (2*o.wait) 8,min (2*o.wait) 8⟩)
   rw[List.length_set] at hlen7
   have o7:Own ((H5.put b (O (rw opC ((tkW w i).op.set i ⟨o.nm,o.key,o.time,min (2*o.wait) 8⟩)) 81 m)).put b (O (rw opC ((tkW w i).op.set i ⟨o.nm,o.key,w.ck+1+min (2*o.wait) 8,min (2*o.wait) 8⟩)) 81 m)) 81 5 (some ⟨b,0,none⟩) ((tkW w i).op.set i ⟨o.nm,o.key,w.ck+1+min (2*o.wait) 8,min (2*o.wait) 8⟩).length q2.co (rw opC ((tkW w i).op.set i ⟨o.nm,o.key,w.ck+1+min (2*o.wait) 8,min (2*o.wait) 8⟩)):=
    ⟨by rw[List.length_set];exact hlen7,rw_fone _ (opC_fone _) _,.inr ⟨b,m,rfl,by simp only[lo_put];exact hbl,by simp only[next_put];exact hbn,cells_put_s _ _ _ _,by rw[List.length_set];exact hm⟩⟩
   have A7:=A5.setO (g7.mono λb' _ e=>.inr (by subst e;exact ⟨0,none,rfl⟩)) (by unfold xcs;dsimp only;rw[List.length_set,tkW_len,List.length_append,List.length_singleton];exact c7) o7 λb' hb=>.inl hb
   have hq2:∀ b',q2.B b'→q.B b'∨h.next≤b':=hB
   have n2:=g2.next
   refine ⟨w.op.length-(i+1),by omega,I33.mk (i:=i+1) (q2:={ p:=q.p,av:=q2.av,cv:=q2.cv,ao:=some ⟨b,0,none⟩,co:=q2.co,af:=a4,cf:=c4,aa:=q2.aa,ca:=q2.ca }) (by omega) (by omega) rfl (by rw[← tkW_set ho ht];exact A7) (λb' ⟨k,hk⟩=>?_) ((g2.tr' G5 λb' hlt hb=>(hq2 b' hb).elim id λh=>by omega).tr' g7 λb' hlt e=>?_)⟩
   ·by_cases e2:k=2
    ·subst e2;exact hq2 b' ⟨2,by show blk q2.ao b';rw[e1];exact hk⟩
    ·by_cases e3:k=3
     ·subst e3
      rcases b4' b' hk with h5|h5
      ·exact hq2 b' ⟨3,h5⟩
      ·exact .inr (by omega)
     ·rcases k with _|_|_|_|_|k
      ·exact hq2 b' ⟨0,by rw[show b'=q.p from hk,← hq];rfl⟩
      ·exact hq2 b' ⟨1,hk⟩
      ·omega
      ·omega
      ·exact hq2 b' ⟨4,hk⟩
      ·exact hk.elim
   ·subst e
    exact (hq2 b' ⟨2,by show blk q2.ao b';rw[e1];exact ⟨0,none,rfl⟩⟩).elim id λh=>by omega
  ·simp(disch:=first|omega|(apply id;simp only[push_cast];first|done|omega))only[push_cast,Nat.reduceAdd,Nat.reduceMul,Nat.reduceSub,Nat.reduceLT,Nat.reduceEqDiff,Nat.reduceLeDiff,Int.reduceToNat,reduceCtorEq,Int.reduceLT,Int.reduceLE,Int.reduceAdd,Int.reduceSub,Int.reduceMul,Int.reduceNeg,Int.reduceEq,hc4,hl3,h1',Int.toNat_natCast,ld,ht,w1]
   exact ⟨w.op.length-(i+1),by omega,I33.mk (i:=i+1) (by omega) (by omega) hq (by rw[tkW_skip ho ht];exact a3) hB g2⟩
 ·have h1':¬ (i:Int)<(w.op.length:Int):=by omega
  have:i=w.op.length:=by omega
  subst this
  rw[tkW_all] at a3
  simp(disch:=first|omega|(apply id;simp only[push_cast];first|done|omega))only[push_cast,Nat.reduceAdd,Nat.reduceMul,Nat.reduceSub,Nat.reduceLT,Nat.reduceEqDiff,Nat.reduceLeDiff,Int.reduceToNat,reduceCtorEq,Int.reduceLT,Int.reduceLE,Int.reduceAdd,Int.reduceSub,Int.reduceMul,Int.reduceNeg,Int.reduceEq,hc3,hl3,h1']
  exact ⟨⟨q2,hq,a3,hB⟩,g2⟩
end
end Go.Proofs.Ytejgmoenmbjidaa
namespace Go.Proofs.Ytejgmoenmbjidaa
open Go Go.RowKit Go.Ev
noncomputable section
set_option maxRecDepth 100000
variable (G:Nat) (h:Heap)
theorem rowE2 (h:Heap)(s:ByteArray)(k v:Int):bsC 1 31 h (fillQ (List.map (λi=>(i*3,3)) (List.range 1)) (List.replicate 1 [Value.string (Tx []),Value.int IntKind.i64 0,Value.int IntKind.i64 0]).flatten
  (.agg ⟨[.string s,.int .i64 k,.int .i64 v]⟩) [] (List.map (λi=>(i*3,3)) (List.range 1))[0]?)=some (.slice (some ⟨h.next,0,none⟩) 1 1,h.add (O [.string s,.int .i64 k,.int .i64 v] 31 false)):=by kernel_rfl
theorem findA_split {k:Int}{l:List Evt}{i:Nat}{x:Evt}(h:findA k (l.take i)=none)(hx:l[i]?=some x):(k=x.key→findA k l=some x.val)∧(¬ k=x.key→findA k (l.take (i+1))=none):=by
 have hi:=(List.getElem?_eq_some_iff.1 hx).1
 have e:l=l.take i++x :: l.drop (i+1):=by
  rw[← List.getElem?_eq_some_iff.1 hx |>.2,List.getElem_cons_drop,List.take_append_drop]
 refine ⟨λhk=>?_,λhk=>?_⟩
 ·have h1:=findA_app k _ (x :: l.drop (i+1)) h
  rw[← e] at h1
  rw[h1]
  show (if k=x.key then some x.val else _)=_
  rw[if_pos hk]
 ·rw[List.take_add_one,hx,findA_app k _ _ h]
  show (if k=x.key then some x.val else none)=none
  rw[if_neg hk]
theorem xapp_evt {K:Heap}{q:Xp}{w:Wi}(a:XAt K q w)(hlo:K.lo≤K.next)(hn:w.ap.length<1000000)(m:Evt):∃ a' c' h2,evAppend Try.prog 39 39 (.slice q.aa w.ap.length q.ca) (.slice (some ⟨K.next,0,none⟩) 1 1) (K.add (O (evC m) 31 false))=some (.slice a' (w.ap.length+1) c',h2)∧
  cells h2 q.p=some (xcs q w,59,false)∧h2.lo=K.lo∧stC 1 3 (.slice a' (w.ap.length+1) c') h2 q.p (some (xcs q w,59,false))=some (undef,h2.put q.p (O [.slice q.av w.vs.length q.cv,.slice q.ao w.op.length q.co,.slice q.af w.fl.length q.cf,.slice a' (w.ap.length+1) c',.int .i64 w.ck] 59 false))∧
  XPost K q { w with ap:=w.ap++[m] } (h2.put q.p (O [.slice q.av w.vs.length q.cv,.slice q.ao w.op.length q.co,.slice q.af w.fl.length q.cf,.slice a' (w.ap.length+1) c',.int .i64 w.ck] 59 false))∧Grew K h2 (blk q.aa):=by
 have g1:Gr K (K.add (O (evC m) 31 false)):=Grew.add _ _ _
 have n1:(K.add (O (evC m) 31 false)).next=K.next+1:=next_add _
 have l1:(K.add (O (evC m) 31 false)).lo=K.lo:=lo_add _
 have s1:Sl (K.add (O (evC m) 31 false)) (some ⟨K.next,0,none⟩) (evC m):=Sl.row (cells_add_s _ _ _ _ rfl) (by omega)
 have hp:=Xlt_p a
 obtain ⟨a',c',h2,e2,o2,g2,b2⟩:=own_append (P:=Try.prog) T_appT_39_39 (a.ap.grew g1 λ_ _ _ h=>h) (by omega) (x:=.slice (some ⟨K.next,0,none⟩) 1 1) (m:=1) rfl (Sl.src s1 (evC_len _) (by decide)) (evC_len _) (evC_fone _ _) (by constructor<;>omega)
 have gg:Grew K h2 (blk q.aa):=(Grew.mono g1 λ_ _ h=>h.elim).tr' g2 λb _ h=>h
 have hc:=gg.cellsE a.cell hp (λhb=>by have:=a.sep q.p 4 0 hb rfl;omega)
 have hl:=gg.lo
 have hlq:=a.lo
 rw[← show rw evC [m]=evC m from by simp[rw],← rw_app] at o2
 refine ⟨a',c',h2,e2,hc,hl,stC_s 1 3 _ _ _ _ _ rfl (own_fo o2 _ _) (by omega) (by show 3+1≤5;omega),xpost_A a gg o2 (by rw[List.length_append];rfl) λb hb=>(b2 b hb).imp id λh=>by omega,gg⟩
theorem XAt.kp {h:Heap}{q:Xp}{w:Wi}(a:XAt h q w)(k:List Evt):XAt h q { w with kp:=k }:=⟨a.cell,a.lo,a.lt,a.vs,a.op,a.fl,a.ap,a.sep⟩
inductive I40 (H:Heap)(p bx:Nat)(k:Int)(l:List Evt):Nat→S→Prop
 | mk {i:Nat} {iv:Int} {x1 x2 x4 x6 x7 x8 x9 xA xB xC xD xE xF xG xH xI xJ xK xL xM xN xO xP xQ xR xS xT xU xV xW xX xY xZ yA yB yC yD yE yF yG yH yI yJ yK yL yM yN yO yP yQ yR yS yT yU yV yW yX yY yZ zA zB zC zD zE zF zG:Value}:iv=i→i≤l.length→findA k (l.take i)=none→I40 H p bx k l (l.length-i) ⟨(F69 (.pointer (some ⟨p,0,none⟩)) x1 x2 (.pointer (some ⟨bx,0,none⟩)) x4 (.int .i64 iv) x6 x7 x8 x9 xA xB xC xD xE xF xG xH xI xJ xK xL xM xN xO xP xQ xR xS xT xU xV xW xX xY xZ yA yB yC yD yE yF yG yH yI yJ yK yL yM yN yO yP yQ yR yS yT yU yV yW yX yY yZ zA zB zC zD zE zF zG),[],H⟩
theorem apply_x {q:Xp}{w:Wi}(a:XAt h q w)(hn:w.ap.length<100000)(hk:w.kp=w.ap)(e:Evt) :
  CallE (pp G) 40 [.pointer (some ⟨q.p,0,none⟩),.agg ⟨evC e⟩] h (λv h'=>v=.int .i64 (applyW w e).1∧XPost h q (applyW w e).2 h'):=by
 refine CallE.fir4 (good G) fir40 rfl rfl (F69_arr ..) λhlo=>?_
 rw[sh_ir40]
 obtain ⟨nm,ky,vl⟩:=e
 unfold evC
 have g1:Gr h (h.add (O [.string (Tx nm),.int .i64 ky,.int .i64 vl] 31 false)):=Grew.add _ _ _
 have c1:=cells_add_s (h:=h) [.string (Tx nm),.int .i64 ky,.int .i64 vl] 31 false h.next rfl
 have n1:(h.add (O [.string (Tx nm),.int .i64 ky,.int .i64 vl] 31 false)).next=h.next+1:=next_add _
 simp(disch:=first|omega|(apply id;simp only[push_cast];first|done|omega))only[push_cast,Nat.reduceAdd,Nat.reduceMul,Nat.reduceSub,Nat.reduceLT,Nat.reduceEqDiff,Nat.reduceLeDiff,Int.reduceToNat,reduceCtorEq,Int.reduceLT,Int.reduceLE,Int.reduceAdd,Int.reduceSub,Int.reduceMul,Int.reduceNeg,Int.reduceEq,hlo]
 generalize h.add (O [.string (Tx nm),.int .i64 ky,.int .i64 vl] 31 false)=H at *
 have a1:=a.grew g1 λ_ _ h=>h
 have hlH:=g_lon g1 hlo
 have hl1:=g1.lo
 have hbl:H.lo≤h.next:=by omega
 have hc:=a1.cell
 have hl:=a1.lo
 have hp:=Xlt_p a
 unfold xcs at hc
 refine W.loop4 (good G) (I40 H q.p h.next ky w.ap) ?_ _ _ (I40.mk (i:=0) rfl (Nat.zero_le _) rfl)
 intro kk0 s1 hI
 cases hI with|@mk i iv _ _ _ _ _ _ _ _ _ _ _ _ _ _ _ _ _ _ _ _ _ _ _ _ _ _ _ _ _ _ _ _ _ _ _ _ _ _ _ _ _ _ _ _ _ _ _ _ _ _ _ _ _ _ _ _ _ _ _ _ _ _ _ _ _ _ hiv hi hno=>
 subst hiv
 rw[sh_ir40_s0]
 have w1:IntKind.i64.wrap ((i:Int)+1)=(i:Int)+1:=wrap_i64 (by omega) (by omega)
 by_cases h1:i<w.ap.length
 ·have h1':(i:Int)<(w.ap.length:Int):=by omega
  obtain ⟨x,hx⟩:∃ x,w.ap[i]?=some x:=⟨_,List.getElem?_eq_getElem h1⟩
  obtain ⟨b,e1,ld⟩:=own_num a1.ap evC_len hx (j:=1) (by decide) rfl T_knd_3
  obtain ⟨b',e2,ld2⟩:=own_num a1.ap evC_len hx (j:=2) (by decide) rfl T_knd_3
  rw[e1] at e2;cases e2
  rw[e1] at hc
  obtain ⟨f1,f2⟩:=findA_split hno hx
  by_cases hkx:x.key=ky
  ·have hA:applyW w ⟨nm,ky,vl⟩=(x.val,w):=by unfold applyW;rw[hk,f1 hkx.symm]
   rw[hA]
   simp(disch:=first|omega|(apply id;simp only[push_cast];first|done|omega))only[push_cast,Nat.reduceAdd,Nat.reduceMul,Nat.reduceSub,Nat.reduceLT,Nat.reduceEqDiff,Nat.reduceLeDiff,Int.reduceToNat,reduceCtorEq,Int.reduceLT,Int.reduceLE,Int.reduceAdd,Int.reduceSub,Int.reduceMul,Int.reduceNeg,Int.reduceEq,hc,hl,h1',Int.toNat_natCast,ld,ld2,c1,hbl,hkx]
   exact ⟨⟨q,rfl,a1,λb hb=>.inl hb⟩,Grew.mono g1 λ_ _ h=>h.elim⟩
  ·simp(disch:=first|omega|(apply id;simp only[push_cast];first|done|omega))only[push_cast,Nat.reduceAdd,Nat.reduceMul,Nat.reduceSub,Nat.reduceLT,Nat.reduceEqDiff,Nat.reduceLeDiff,Int.reduceToNat,reduceCtorEq,Int.reduceLT,Int.reduceLE,Int.reduceAdd,Int.reduceSub,Int.reduceMul,Int.reduceNeg,Int.reduceEq,hc,hl,h1',Int.toNat_natCast,ld,c1,hbl,hkx,w1]
   exact ⟨w.ap.length-(i+1),by omega,I40.mk (i:=i+1) (by omega) (by omega) (f2 λe=>hkx e.symm)⟩
 ·have h1':¬ (i:Int)<(w.ap.length:Int):=by omega
  rw[List.take_of_length_le (by omega)] at hno
  by_cases hv:w.ap.length<w.vs.length
  ·have hv':(w.ap.length:Int)<(w.vs.length:Int):=by omega
   have hA:applyW w ⟨nm,ky,vl⟩=(w.vs.getD w.ap.length 0,{ w with ap:=w.ap++[⟨nm,ky,w.vs.getD w.ap.length 0⟩],kp:=w.kp++[⟨nm,ky,w.vs.getD w.ap.length 0⟩] }):=by unfold applyW;rw[hk,hno];simp only[if_pos hv]
   rw[hA]
   obtain ⟨b,off,e1,ld⟩:=Sl.num a1.vs hv
   have g2:Grew H (H.put h.next (O [.string (Tx nm),.int .i64 ky,.int .i64 (w.vs.getD w.ap.length 0)] 31 false)) (λb=>b=h.next):=(Grew.refl H (λb=>b=h.next)).put'' _ _ λ_=>rfl
   have hnb:∀ b,q.B b→¬ b=h.next:=λb ⟨i,hi⟩ e=>by have:=a.lt b i hi;omega
   have a2:=a1.grew g2 hnb
   have c2':=cells_put_s (h:=H) h.next [.string (Tx nm),.int .i64 ky,.int .i64 (w.vs.getD w.ap.length 0)] 31 false
   have hlH2:=g_lon g2 hlH
   have n2:(H.put h.next (O [.string (Tx nm),.int .i64 ky,.int .i64 (w.vs.getD w.ap.length 0)] 31 false)).next=h.next+1:=by rw[next_put,n1]
   have hc2:=g2.cellsE hc (Xlt_p a1) (by have:=hnb q.p ⟨0,rfl⟩;exact this)
   have hlo2:(H.put h.next (O [.string (Tx nm),.int .i64 ky,.int .i64 (w.vs.getD w.ap.length 0)] 31 false)).lo=H.lo:=lo_put _ _
   rw[e1] at hc hc2
   simp(disch:=first|omega|(apply id;simp only[push_cast];first|done|omega))only[push_cast,Nat.reduceAdd,Nat.reduceMul,Nat.reduceSub,Nat.reduceLT,Nat.reduceEqDiff,Nat.reduceLeDiff,Int.reduceToNat,reduceCtorEq,Int.reduceLT,Int.reduceLE,Int.reduceAdd,Int.reduceSub,Int.reduceMul,Int.reduceNeg,Int.reduceEq,hc,hl,h1',hv',Int.toNat_natCast,ld,c1,hbl]
   generalize H.put h.next (O [.string (Tx nm),.int .i64 ky,.int .i64 (w.vs.getD w.ap.length 0)] 31 false)=H2 at *
   obtain ⟨a',c',h2,e2,c2,l2,s2,P,gg⟩:=xapp_evt a2 hlH2 (by omega) ⟨nm,ky,w.vs.getD w.ap.length 0⟩
   unfold xcs at c2 s2
   rw[e1] at c2 s2 P
   unfold evC at e2
   dsimp only at e2
   have cA:=λx=>Gr.cells ((Gr.refl H2).add' x) hc2 (Xlt_p a2)
   have cb2:=gg.cellsE c2' (by omega) (λhb=>by have:=a.lt h.next 4 hb;omega)
   have l2':h2.lo=H.lo:=by omega
   simp(disch:=first|omega|(apply id;simp only[push_cast];first|done|omega))only[push_cast,Nat.reduceAdd,Nat.reduceMul,Nat.reduceSub,Nat.reduceLT,Nat.reduceEqDiff,Nat.reduceLeDiff,Int.reduceToNat,reduceCtorEq,Int.reduceLT,Int.reduceLE,Int.reduceAdd,Int.reduceSub,Int.reduceMul,Int.reduceNeg,Int.reduceEq,hc2,hl,hlo2,c2',hbl,rowE2,cA,e2,c2,l2',s2,cb2]
   obtain ⟨⟨q',hq',a',hB'⟩,g'⟩:=P
   exact ⟨⟨q',hq',XAt.kp a' _,λb hb=>(hB' b hb).imp id λh=>by omega⟩,((Grew.mono g1 (T:=q.B) λ_ _ h=>h.elim).tr' g2 λb hb e=>by omega).tr' g' λb _ h=>h⟩
  ·have hv':¬ (w.ap.length:Int)<(w.vs.length:Int):=by omega
   have hA:applyW w ⟨nm,ky,vl⟩=(vl,{ w with ap:=w.ap++[⟨nm,ky,vl⟩],kp:=w.kp++[⟨nm,ky,vl⟩] }):=by unfold applyW;rw[hk,hno];simp only[if_neg hv]
   rw[hA]
   obtain ⟨a',c',h2,e2,c2,l2,s2,P,gg⟩:=xapp_evt a1 hlH (by omega) ⟨nm,ky,vl⟩
   unfold xcs at c2 s2
   unfold evC at e2
   dsimp only at e2
   have cA:=λx=>Gr.cells ((Gr.refl H).add' x) hc (Xlt_p a1)
   have cb2:=gg.cellsE c1 (by omega) (λhb=>by have:=a.lt h.next 4 hb;omega)
   simp(disch:=first|omega|(apply id;simp only[push_cast];first|done|omega))only[push_cast,Nat.reduceAdd,Nat.reduceMul,Nat.reduceSub,Nat.reduceLT,Nat.reduceEqDiff,Nat.reduceLeDiff,Int.reduceToNat,reduceCtorEq,Int.reduceLT,Int.reduceLE,Int.reduceAdd,Int.reduceSub,Int.reduceMul,Int.reduceNeg,Int.reduceEq,hc,hl,h1',hv',c1,hbl,rowE2,cA,e2,c2,l2,s2,cb2]
   obtain ⟨⟨q',hq',a',hB'⟩,g'⟩:=P
   exact ⟨⟨q',hq',XAt.kp a' _,λb hb=>(hB' b hb).imp id λh=>by omega⟩,(Grew.mono g1 λ_ _ h=>h.elim).tr' g' λb _ h=>h⟩
end
end Go.Proofs.Ytejgmoenmbjidaa
namespace Go.Proofs.Ytejgmoenmbjidaa
open Go Go.RowKit Go.Ev
noncomputable section
set_option maxRecDepth 100000
variable (G:Nat) (h:Heap)
theorem deliver_x {q:Xp}{w:Wi}(a:XAt h q w)(hn:w.fl.length<90000)(hna:w.ap.length<90000)(hno:w.op.length<90000)(hr:Ris (w.op.map (·.key)))(hk:w.kp=w.ap)(i:Int) :
  CallE (pp G) 16 [.pointer (some ⟨q.p,0,none⟩),.int .i64 i] h (λv h'=>v=.tuple ⟨[.agg ⟨evC (deliverW w i).1.1⟩,.bool (deliverW w i).1.2]⟩∧XPost h q (deliverW w i).2 h'):=by
 refine CallE.fir4 (good G) fir16 rfl rfl (F71_arr ..) λhlo=>?_
 rw[sh_ir16]
 have hz:evC e0=[.string (Tx []),.int .i64 0,.int .i64 0]:=rfl
 have g1:Gr h (h.add (O [.string (Tx []),.int .i64 0,.int .i64 0] 31 false)):=Grew.add _ _ _
 have n1:(h.add (O [.string (Tx []),.int .i64 0,.int .i64 0] 31 false)).next=h.next+1:=next_add _
 have c1:=cells_add_s (h:=h) [.string (Tx []),.int .i64 0,.int .i64 0] 31 false h.next rfl
 have l1:=g1.lo
 have a1:=a.grew g1 λ_ _ h=>h
 have hc:=a1.cell
 have hl:=a1.lo
 have hp:=Xlt_p a
 have hnb:∀ b,q.B b→b<h.next:=λb ⟨i,hi⟩=>a.lt b i hi
 have lb:h.lo≤h.next:=hlo
 unfold xcs at hc
 by_cases h0:i<0
 ·have hd:deliverW w i=((e0,false),w):=by unfold deliverW;rw[if_neg (by omega)]
  rw[hd,hz]
  simp(disch:=first|omega|(apply id;simp only[push_cast];first|done|omega))only[push_cast,Nat.reduceAdd,Nat.reduceMul,Nat.reduceSub,Nat.reduceLT,Nat.reduceEqDiff,Nat.reduceLeDiff,Int.reduceToNat,reduceCtorEq,Int.reduceLT,Int.reduceLE,Int.reduceAdd,Int.reduceSub,Int.reduceMul,Int.reduceNeg,Int.reduceEq,h0,c1,lb,l1]
  have g2:=g1.put' h.next (O [.string (Tx []),.int .i64 0,.int .i64 0] 31 false) (Nat.le_refl _)
  exact ⟨⟨q,rfl,a.grew g2 λ_ _ h=>h,λb hb=>.inl hb⟩,Grew.mono g2 λ_ _ h=>h.elim⟩
 by_cases h1:i<w.fl.length
 ·obtain ⟨j,rfl⟩:∃ j:Nat,i=(j:Int):=⟨i.toNat,by omega⟩
  have hge:¬ (j:Int) ≥ (w.fl.length:Int):=by omega
  obtain ⟨m,hm⟩:∃ m,w.fl[j]?=some m:=⟨_,List.getElem?_eq_getElem (by omega)⟩
  obtain ⟨b,e1,ld⟩:=own_at a1.fl msC_len (by decide) hm T_knd_62
  rw[e1] at hc
  obtain ⟨bk,⟨nm,ky,vl⟩⟩:=m
  unfold msC evC at ld
  dsimp only at ld
  rw[l1] at ld hl
  have gH:Gr h (((h.add (O [.string (Tx []),.int .i64 0,.int .i64 0] 31 false)).add (O [.bool false,.string (Tx []),.int .i64 0,.int .i64 0] 62 false)).put (h.next+1) (O [.bool bk,.string (Tx nm),.int .i64 ky,.int .i64 vl] 62 false)):=(((Gr.refl h).add' _).add' _).put' (h.next+1) _ (by omega)
  have nH:(((h.add (O [.string (Tx []),.int .i64 0,.int .i64 0] 31 false)).add (O [.bool false,.string (Tx []),.int .i64 0,.int .i64 0] 62 false)).put (h.next+1) (O [.bool bk,.string (Tx nm),.int .i64 ky,.int .i64 vl] 62 false)).next=h.next+2:=by rw[next_put,next_add,n1]
  have cm:=cells_put_s (h:=(h.add (O [.string (Tx []),.int .i64 0,.int .i64 0] 31 false)).add (O [.bool false,.string (Tx []),.int .i64 0,.int .i64 0] 62 false)) (h.next+1) [.bool bk,.string (Tx nm),.int .i64 ky,.int .i64 vl] 62 false
  have cz:cells (((h.add (O [.string (Tx []),.int .i64 0,.int .i64 0] 31 false)).add (O [.bool false,.string (Tx []),.int .i64 0,.int .i64 0] 62 false)).put (h.next+1) (O [.bool bk,.string (Tx nm),.int .i64 ky,.int .i64 vl] 62 false)) h.next=some ([.string (Tx []),.int .i64 0,.int .i64 0],31,false):=by rw[cells_put_n _ _ _ (by omega),cells_add_n _ _ (by rw[n1];omega)];exact c1
  simp(disch:=first|omega|(apply id;simp only[push_cast];first|done|omega))only[push_cast,Nat.reduceAdd,Nat.reduceMul,Nat.reduceSub,Nat.reduceLT,Nat.reduceEqDiff,Nat.reduceLeDiff,Int.reduceToNat,reduceCtorEq,Int.reduceLT,Int.reduceLE,Int.reduceAdd,Int.reduceSub,Int.reduceMul,Int.reduceNeg,Int.reduceEq,hc,hl,h0,h1,hge,Int.toNat_natCast,ld,hlo,n1,c1,l1]
  generalize ((h.add (O [.string (Tx []),.int .i64 0,.int .i64 0] 31 false)).add (O [.bool false,.string (Tx []),.int .i64 0,.int .i64 0] 62 false)).put (h.next+1) (O [.bool bk,.string (Tx nm),.int .i64 ky,.int .i64 vl] 62 false)=H at *
  have aH:=a.grew gH λ_ _ h=>h
  have lH:=gH.lo
  clear hc
  refine CallE.to (drop_x G H aH (by omega) j) ?_
  rintro _ h3 ⟨rfl,⟨⟨q3,hq3,a3,hB3⟩,g3⟩⟩
  have n3:=g3.next
  have l3:=g3.lo
  have cz3:=g3.cellsE cz (by omega) (λhb=>by have:=hnb _ hb;omega)
  have cm3:=g3.cellsE cm (by omega) (λhb=>by have:=hnb _ hb;omega)
  have hlo3:=g_lon g3 (g_lon gH hlo)
  have hB3':∀ b,q3.B b→b<h.next∨h.next+2≤b:=λb hb=>(hB3 b hb).imp (hnb b) λh=>by omega
  have hdl:(dropW w j).fl.length≤w.fl.length:=by
   unfold dropW
   split
   ·exact (List.eraseIdx_sublist ..).length_le
   ·exact Nat.le_refl _
  have hda:(dropW w j).ap=w.ap:=by unfold dropW;split<;>rfl
  have hdk:(dropW w j).kp=(dropW w j).ap:=by unfold dropW;split<;>exact hk
  have hdo:=drop_op w j
  have fin:∀ {q5:Xp} {w5:Wi} {h5 h6:Heap},q5.p=q3.p→XAt h5 q5 w5→(∀ b,q5.B b→q3.B b∨h3.next≤b)→Grew h3 h5 (λb=>q3.B b∨b=h.next+1)→Grew h5 h6 (λb=>b=h.next)→XPost h q w5 h6:=λe1 e2 e3 e4 e5=>by
   refine ⟨⟨_,e1.trans hq3,e2.grew e5 λb hb e=>?_,λb hb=>?_⟩,(((Grew.mono gH (T:=q.B) λ_ _ h=>h.elim).tr' g3 λb _ h=>h).tr' e4 λb hlt e=>?_).tr' e5 λb hlt e=>by omega⟩
   ·rcases e3 b hb with h1|h1
    ·have:=hB3' b h1;omega
    ·omega
   ·rcases e3 b hb with h1|h1
    ·exact (hB3 b h1).imp id λh=>by omega
    ·exact .inr (by omega)
   ·rcases e with e|e
    ·exact (hB3 b e).elim id λh=>by omega
    ·omega
  cases bk with
  | false=>
   have hD:deliverW w j=((e0,false),{ (applyW (dropW w j) ⟨nm,ky,vl⟩).2 with fl:=(applyW (dropW w j) ⟨nm,ky,vl⟩).2.fl++[⟨true,⟨nm,ky,(applyW (dropW w j) ⟨nm,ky,vl⟩).1⟩⟩] }):=by unfold deliverW;rw[if_pos ⟨by omega,h1⟩,Int.toNat_natCast,hm];rfl
   rw[hD,hz]
   have A:=apply_x G h3 a3 (by rw[hda];omega) hdk ⟨nm,ky,vl⟩
   rw[hq3] at A
   unfold evC at A
   simp(disch:=first|omega|(apply id;simp only[push_cast];first|done|omega))only[push_cast,Nat.reduceAdd,Nat.reduceMul,Nat.reduceSub,Nat.reduceLT,Nat.reduceEqDiff,Nat.reduceLeDiff,Int.reduceToNat,reduceCtorEq,Int.reduceLT,Int.reduceLE,Int.reduceAdd,Int.reduceSub,Int.reduceMul,Int.reduceNeg,Int.reduceEq,cm3,l3,lH,hlo]
   refine CallE.to A ?_
   rintro _ h4 ⟨rfl,⟨⟨q4,hq4,a4,hB4⟩,g4⟩⟩
   have n4:=g4.next
   have l4:=g4.lo
   have cz4:=g4.cellsE cz3 (by omega) (λhb=>by have:=hB3' _ hb;omega)
   have cm4:=g4.cellsE cm3 (by omega) (λhb=>by have:=hB3' _ hb;omega)
   have hB4':∀ b,q4.B b→b<h.next∨h.next+2≤b:=λb hb=>(hB4 b hb).elim (hB3' b) λh=>by omega
   have g5:=λx=>(Grew.refl h4 (λb=>b=h.next+1)).put'' (h.next+1) x λ_=>rfl
   have a5:=λx=>a4.grew (g5 x) λb hb e=>by have:=hB4' b hb;omega
   obtain ⟨hal,hao⟩:(applyW (dropW w j) ⟨nm,ky,vl⟩).2.fl=(dropW w j).fl∧True:=⟨by unfold applyW;cases findA ky (dropW w j).kp<;>rfl,trivial⟩
   have hlo4:=g_lon g4 hlo3
   obtain ⟨af,cf,h6,e6,c6,l6,s6,P6,gg6⟩:=xapp_msg (a5 (O [.bool false,.string (Tx nm),.int .i64 ky,.int .i64 (applyW (dropW w j) ⟨nm,ky,vl⟩).1] 62 false)) (by rw[lo_put,next_put];exact hlo4) (by rw[hal];omega) ⟨true,⟨nm,ky,(applyW (dropW w j) ⟨nm,ky,vl⟩).1⟩⟩
   unfold msC evC at e6
   dsimp only at e6
   have hp4:q4.p=q.p:=hq4.trans hq3
   have hpp:q.p≠h.next+1:=by omega
   have c4:=a4.cell
   have c5:=(a5 (O [.bool false,.string (Tx nm),.int .i64 ky,.int .i64 (applyW (dropW w j) ⟨nm,ky,vl⟩).1] 62 false)).cell
   have cA:=λx=>Gr.cells ((Gr.refl (h4.put (h.next+1) (O [.bool false,.string (Tx nm),.int .i64 ky,.int .i64 (applyW (dropW w j) ⟨nm,ky,vl⟩).1] 62 false))).add' x) c5 (Xlt_p (a5 _))
   unfold xcs at c4 c5 c6 s6 cA
   have cz5:cells (h4.put (h.next+1) (O [.bool false,.string (Tx nm),.int .i64 ky,.int .i64 (applyW (dropW w j) ⟨nm,ky,vl⟩).1] 62 false)) h.next=_:=(cells_put_n _ _ _ (by omega)).trans cz4
   have cz6:=gg6.cellsE cz5 (by rw[next_put];omega) (λhb=>by have:=hB4' _ ⟨3,hb⟩;omega)
   rw[hp4] at c4 c5 c6 s6 cA P6
   rw[next_put] at e6
   rw[lo_put] at l6
   have l6':h6.lo=h.lo:=by omega
   simp(disch:=first|omega|(apply id;simp only[push_cast];first|done|omega))only[push_cast,Nat.reduceAdd,Nat.reduceMul,Nat.reduceSub,Nat.reduceLT,Nat.reduceEqDiff,Nat.reduceLeDiff,Int.reduceToNat,reduceCtorEq,Int.reduceLT,Int.reduceLE,Int.reduceAdd,Int.reduceSub,Int.reduceMul,Int.reduceNeg,Int.reduceEq,cm4,l4,l3,lH,hlo,hl,c5,rowM2,cA,e6,c6,l6',s6,cz6]
   obtain ⟨⟨q7,hq7,a7,hB7⟩,g7⟩:=P6
   exact fin (hq7.trans hq4) a7 (λb hb=>(hB7 b hb).elim (hB4 b) λh=>by rw[next_put] at h;exact .inr (by omega)) (((g4.mono λb _ h=>.inl h).tr' (g5 _) λb _ h=>.inr h).tr' g7 λb hlt h=>(hB4 b h).elim .inl λh=>by omega) ((Grew.refl _ (λb=>b=h.next)).put'' h.next _ λ_=>rfl)
  | true=>
   have F:=find_x G h3 a3 (by rw[hdo];omega) ky
   rw[hq3,hdo] at F
   simp(disch:=first|omega|(apply id;simp only[push_cast];first|done|omega))only[push_cast,Nat.reduceAdd,Nat.reduceMul,Nat.reduceSub,Nat.reduceLT,Nat.reduceEqDiff,Nat.reduceLeDiff,Int.reduceToNat,reduceCtorEq,Int.reduceLT,Int.reduceLE,Int.reduceAdd,Int.reduceSub,Int.reduceMul,Int.reduceNeg,Int.reduceEq,cm3,l3,lH,hlo]
   refine CallE.to F ?_
   rintro _ _ ⟨rfl,e⟩
   rw[e]
   clear e
   have hik:=isK_has ky w.op hr
   cases hki:isK ky w.op with
   | false=>
    have hD:deliverW w j=((e0,false),dropW w j):=by unfold deliverW;rw[if_pos ⟨by omega,h1⟩,Int.toNat_natCast,hm];dsimp only;rw[if_pos rfl,if_neg (by rw[← hik,hki];decide)]
    rw[hD,hz]
    simp(disch:=first|omega|(apply id;simp only[push_cast];first|done|omega))only[push_cast,Nat.reduceAdd,Nat.reduceMul,Nat.reduceSub,Nat.reduceLT,Nat.reduceEqDiff,Nat.reduceLeDiff,Int.reduceToNat,reduceCtorEq,Int.reduceLT,Int.reduceLE,Int.reduceAdd,Int.reduceSub,Int.reduceMul,Int.reduceNeg,Int.reduceEq,cm3,cz3,l3,lH,hlo]
    exact fin rfl a3 (λb hb=>.inl hb) (Grew.refl _ _) ((Grew.refl _ (λb=>b=h.next)).put'' h.next _ λ_=>rfl)
   | true=>
    have hD:deliverW w j=((⟨nm,ky,vl⟩,true),forgetW (dropW w j) ky):=by unfold deliverW;rw[if_pos ⟨by omega,h1⟩,Int.toNat_natCast,hm];dsimp only;rw[if_pos rfl,if_pos (by rw[← hik,hki])]
    rw[hD]
    unfold evC
    have FG:=forget_x G h3 a3 (by rw[hdo];omega) (by rw[hdo];exact hr) ky
    rw[hq3] at FG
    simp(disch:=first|omega|(apply id;simp only[push_cast];first|done|omega))only[push_cast,Nat.reduceAdd,Nat.reduceMul,Nat.reduceSub,Nat.reduceLT,Nat.reduceEqDiff,Nat.reduceLeDiff,Int.reduceToNat,reduceCtorEq,Int.reduceLT,Int.reduceLE,Int.reduceAdd,Int.reduceSub,Int.reduceMul,Int.reduceNeg,Int.reduceEq,cm3,l3,lH,hlo]
    refine CallE.to FG ?_
    rintro _ h4 ⟨rfl,⟨⟨q4,hq4,a4,hB4⟩,g4⟩⟩
    have n4:=g4.next
    have l4:=g4.lo
    have cz4:=g4.cellsE cz3 (by omega) (λhb=>by have:=hB3' _ hb;omega)
    have cm4:=g4.cellsE cm3 (by omega) (λhb=>by have:=hB3' _ hb;omega)
    simp(disch:=first|omega|(apply id;simp only[push_cast];first|done|omega))only[push_cast,Nat.reduceAdd,Nat.reduceMul,Nat.reduceSub,Nat.reduceLT,Nat.reduceEqDiff,Nat.reduceLeDiff,Int.reduceToNat,reduceCtorEq,Int.reduceLT,Int.reduceLE,Int.reduceAdd,Int.reduceSub,Int.reduceMul,Int.reduceNeg,Int.reduceEq,cm4,cz4,l4,l3,lH,hlo]
    exact fin hq4 a4 hB4 (g4.mono λb _ h=>.inl h) ((Grew.refl _ (λb=>b=h.next)).put'' h.next _ λ_=>rfl)
 ·have hge:i ≥ (w.fl.length:Int):=by omega
  have hd:deliverW w i=((e0,false),w):=by unfold deliverW;rw[if_neg (by omega)]
  rw[hd,hz]
  simp(disch:=first|omega|(apply id;simp only[push_cast];first|done|omega))only[push_cast,Nat.reduceAdd,Nat.reduceMul,Nat.reduceSub,Nat.reduceLT,Nat.reduceEqDiff,Nat.reduceLeDiff,Int.reduceToNat,reduceCtorEq,Int.reduceLT,Int.reduceLE,Int.reduceAdd,Int.reduceSub,Int.reduceMul,Int.reduceNeg,Int.reduceEq,hc,hl,h0,hge,c1,lb,l1]
  have g2:=g1.put' h.next (O [.string (Tx []),.int .i64 0,.int .i64 0] 31 false) (Nat.le_refl _)
  exact ⟨⟨q,rfl,a.grew g2 λ_ _ h=>h,λb hb=>.inl hb⟩,Grew.mono g2 λ_ _ h=>h.elim⟩
end
end Go.Proofs.Ytejgmoenmbjidaa
