/-
  A part of the proof: what the program's functions hand back,as theorems. No condition but those that each theorem names.
-/
import Derived.Test.YtgeakofgklcipaaTf
import Derived.Test.YtgeakofgklcipaaTa
import Derived.Test.YtgeakofgklcipaaEvd
import Derived.Test.YtgeakofgklcipaaExd
import Derived.Test.YtgeakofgklcipaaTe
import Derived.Test.YtgeakofgklcipaaTb
set_option linter.unusedSimpArgs false
set_option linter.unusedVariables false
namespace Go.Proofs.Ytgeakofgklcipaa
open _root_.Go.Proofs.Try (prog)
open Go Go.RowKit Go.Ev Go.Dv
noncomputable section
set_option maxRecDepth 100000
variable (G:Nat×Nat)
theorem bS2 (x y:Rb) (σ:jA):bsD (qq.m 22) (slT prog 22) 2 [(0,rbV x),(1,rbV y)] σ=some (Rw true erb 2 (rbCs [x,y]),σ):=by
 cases x;cases y;kernel_rfl
theorem eK2 (N:Nat) (hN:0<N) (σ:jA) (l:List Rb):FzL (pp G).P N σ [.agg ⟨[.int .i64 0,.int .i64 0,Rw true erb l.length (rbCs l)]⟩] [shV 0 0 l]:=
 .cons (.agg (.cons (.id rfl) (.cons (.id rfl) (.cons (.row (.ids (gL0 _ hN _))) .nil)))) .nil
inductive I23 (a b:List Int):Nat→S→Prop
 | mk (i:Nat) (iv:Int) (h:jA) {x2 x3 x4 x6 x7 x8 x9 xA xB xC xD xE xF xG xH xI xJ xK xL xM xN xO xP:Value} (hiv:iv=(i:Int)) (hi:i≤a.length) (he:∀ j,j<i→a.getD j 0=b.getD j 0) (hl1:h.lo=1) (hl2:1≤h.next) :
  I23 a b (a.length-i) ⟨(F26 (ivV a) (ivV b) x2 x3 x4 (.int .i64 iv) x6 x7 x8 x9 xA xB xC xD xE xF xG xH xI xJ xK xL xM xN xO xP),[],h⟩
theorem tI1 (a b:List Int) (ha:a.length<1000000000000) (hb:b.length<1000000000000):jN (pp G) H0 42 [ivV a,ivV b] (.bool (decide (a=b))):=by
 have hlo:H0.lo≤H0.next:=Nat.le_refl _;refine jN.cut (jI.fir4 (q:=qq) (jR G) fir42 (by kernel_rfl) rfl rfl (gE2 ..) (show NGG≤H0.lo by rw[qQ];decide) ?_);rw[uV2]
 have hA:ivV a=Rw false eI a.length (ivs a):=rfl
 have hB:ivV b=Rw false eI b.length (ivs b):=rfl
 by_cases hl:a.length=b.length
 rotate_left
 ·rw[decide_eq_false (fun e=>hl (by rw[e]))]
  have hl':¬ (a.length:Int)=b.length:=by omega
  simp(disch:=first|omega|(apply id;simp only[push_cast];try omega))only[push_cast,simprocAttr,hA,hB,hl']
  exact .id rfl
 have hl':(a.length:Int)=b.length:=by omega
 simp(disch:=first|omega|(apply id;simp only[push_cast];try omega))only[push_cast,simprocAttr,hA,hB,hl']
 rw[← hA,← hB]
 refine WD.loop4 (q:=qq) (jR G) (by kernel_rfl) (I23 a b) ?_ _ _ (I23.mk 0 0 _ rfl (Nat.zero_le _) (fun j hj=>by omega) rfl (by first|assumption|(simp(disch:=first|omega|(apply id;simp only[push_cast];try omega))only[push_cast,simprocAttr];try omega)))
 intro m s1 hI
 cases hI with|mk i iv h hiv hi he hl1 hl2=>
 subst hiv
 rw[qN1]
 by_cases hil:(i:Int)<a.length
 ·have hilb:(i:Int)<b.length:=by omega
  have g1:=fF0 (l:=a) (i:=i) (by omega)
  have g2:=fF0 (l:=b) (i:=i) (by omega)
  by_cases hx:a.getD i 0=b.getD i 0
  ·simp(disch:=first|omega|(apply id;simp only[push_cast];try omega))only[push_cast,simprocAttr,hA,hB,hil,hilb,g1,g2,hx,Int.toNat_natCast]
   rw[← hA,← hB]
   exact ⟨_,by omega,I23.mk (i+1) _ _ (by first|rfl|omega) (by omega) (fun j hj=>by
    by_cases e:j=i
    ·subst e;exact hx
    ·exact he j (by omega)) (by first|assumption|(simp(disch:=first|omega|(apply id;simp only[push_cast];try omega))only[push_cast,simprocAttr,hl1];try omega)) (by first|assumption|(simp(disch:=first|omega|(apply id;simp only[push_cast];try omega))only[push_cast,simprocAttr];try omega))⟩
  ·rw[decide_eq_false (fun e=>hx (by rw[e]))]
   simp(disch:=first|omega|(apply id;simp only[push_cast];try omega))only[push_cast,simprocAttr,hA,hB,hil,hilb,g1,g2,hx,Int.toNat_natCast]
   exact .id rfl
 ·simp(disch:=first|omega|(apply id;simp only[push_cast];try omega))only[push_cast,simprocAttr,hA,hB,hil]
  rw[qM1]
  rw[decide_eq_true (List.ext_getElem hl fun j h1 h2=>by
   have:=he j (by omega)
   rw[List.getD_eq_getElem?_getD,List.getD_eq_getElem?_getD,List.getElem?_eq_getElem h1,List.getElem?_eq_getElem h2] at this
   exact this)]
  simp(disch:=first|omega|(apply id;simp only[push_cast];try omega))only[push_cast,simprocAttr]
  exact .id rfl
mutual
theorem bZ0:∀ x:Tm,((kO x).length:Int)≤uY x
 | .mk k a b s e l=>by
  rw[kO,uY]
  have hL:=sU0 l
  have hH:=oF1 l
  have hp:=jA0 l
  split
  ·rw[List.length_cons];omega
  ·split
   ·rw[List.length_cons];omega
   ·simp;omega
theorem sU0:∀ l:List Tm,((gJ l).length:Int)≤uU l
 | []=>by simp[gJ,uU]
 | x :: l=>by rw[gJ,uU,List.length_append];have:=bZ0 x;have:=sU0 l;omega
theorem oF1:∀ l:List Tm,((actH l).length:Int)≤uU l
 | []=>by simp[actH,uU]
 | x :: l=>by rw[actH,uU];have:=bZ0 x;have:=jA0 l;omega
end
structure NmOk (t n:Tm):Prop where
 i:jL n=n
 z:uY n≤uY t
 r:∀ q,qG 3 2 5 q t=true→qG 3 2 5 q n=true
 s:smT t=true→smT n=true
theorem NmOk.of_eq {t:Tm} (h:jL t=t):NmOk t (jL t):=by
 rw[h];exact ⟨h,Int.le_refl _,fun _ h=>h,fun h=>h⟩
theorem nm_z (t:Tm):NmOk t zT:=⟨rfl,by have:=jP0 t;show 1≤_;omega,fun q _=>by cases q<;>decide,fun _=>rfl⟩
theorem wF2 {q:Bool} {k a b:Int} {s:List UInt8} {e:Ex} {x x':Tm} (hx:∀ q,qG 3 2 5 q x=true→qG 3 2 5 q x'=true) (h:qG 3 2 5 q (.mk k a b s e [x])=true):qG 3 2 5 q (.mk k a b s e [x'])=true:=by
 simp only[qG,cA,Bool.and_eq_true,List.length_singleton] at h ⊢
 exact ⟨h.1,h.2.1,h.2.2.1,h.2.2.2.1,h.2.2.2.2.1,h.2.2.2.2.2.1,h.2.2.2.2.2.2.1,hx _ h.2.2.2.2.2.2.2.1,trivial⟩
theorem yN1 {q:Bool} {k a b:Int} {s:List UInt8} {e:Ex} {x x' y y':Tm} (hx:∀ q,qG 3 2 5 q x=true→qG 3 2 5 q x'=true) (hy:∀ q,qG 3 2 5 q y=true→qG 3 2 5 q y'=true) (h:qG 3 2 5 q (.mk k a b s e [x,y])=true):qG 3 2 5 q (.mk k a b s e [x',y'])=true:=by
 simp only[qG,cA,Bool.and_eq_true,List.length_cons,List.length_nil] at h ⊢
 exact ⟨h.1,h.2.1,h.2.2.1,h.2.2.2.1,h.2.2.2.2.1,h.2.2.2.2.2.1,h.2.2.2.2.2.2.1,hx _ h.2.2.2.2.2.2.2.1,hy _ h.2.2.2.2.2.2.2.2.1,trivial⟩
theorem yM1 {q:Bool} {a b:Int} {s:List UInt8} {e:Ex} {x y:Tm} (h:qG 3 2 5 q (.mk 12 a b s e [x,y])=true):qG 3 2 5 q y=true:=by
 simp only[qG,cA,Bool.and_eq_true] at h
 have:=h.2.2.2.2.2.2.2.2.1
 cases q<;>exact this
theorem sm_1 {k a b:Int} {s:List UInt8} {e:Ex} {x x':Tm} (hx:smT x=true→smT x'=true) (h:smT (.mk k a b s e [x])=true):smT (.mk k a b s e [x'])=true:=by
 simp only[smT,smTs,Bool.and_eq_true,List.length_singleton] at h ⊢
 exact ⟨h.1,hx h.2.1,trivial⟩
theorem sm_2 {k a b:Int} {s:List UInt8} {e:Ex} {x x' y y':Tm} (hx:smT x=true→smT x'=true) (hy:smT y=true→smT y'=true) (h:smT (.mk k a b s e [x,y])=true):smT (.mk k a b s e [x',y'])=true:=by
 simp only[smT,smTs,Bool.and_eq_true,List.length_cons,List.length_nil] at h ⊢
 exact ⟨h.1,hx h.2.1,hy h.2.2.1,trivial⟩
theorem sz1 (k a b:Int) (s:List UInt8) (e:Ex) (x:Tm):uY (.mk k a b s e [x])=1+uY x:=by simp[uY,uU]
theorem sz2 (k a b:Int) (s:List UInt8) (e:Ex) (x y:Tm):uY (.mk k a b s e [x,y])=1+(uY x+uY y):=by simp[uY,uU]
theorem wK0:∀ t:Tm,NmOk t (jL t)
 | .mk k a b s e [x,y]=>by
  have hx:=wK0 x
  have hy:=wK0 y
  rw[jL]
  by_cases h12:k=12
  ·subst h12
   rw[if_pos rfl]
   by_cases h0:(jL x).k=0
   ·rw[if_pos h0]
    refine ⟨hy.i,?_,fun q h=>hy.r q (yM1 h),fun h=>hy.s ?_⟩
    ·rw[sz2];have:=hy.z;have:=jP0 x;omega
    ·simp only[smT,smTs,Bool.and_eq_true] at h;exact h.2.2.1
   ·rw[if_neg h0]
    refine ⟨?_,?_,fun q h=>yN1 hx.r (fun _ h=>h) h,sm_2 hx.s fun h=>h⟩
    ·rw[jL,if_pos rfl,hx.i,if_neg h0]
    ·rw[sz2,sz2];have:=hx.z;omega
  rw[if_neg h12]
  by_cases h11:k=11
  ·subst h11
   rw[if_pos rfl]
   by_cases h0:(jL x).k=0∧(jL y).k=0
   ·rw[if_pos h0];exact nm_z _
   ·rw[if_neg h0]
    refine ⟨?_,?_,fun q h=>yN1 hx.r hy.r h,sm_2 hx.s hy.s⟩
    ·rw[jL,if_neg (by decide),if_pos rfl,hx.i,hy.i,if_neg h0]
    ·rw[sz2,sz2];have:=hx.z;have:=hy.z;omega
  rw[if_neg h11]
  exact ⟨by rw[jL,if_neg h12,if_neg h11],Int.le_refl _,fun _ h=>h,fun h=>h⟩
 | .mk k a b s e [x]=>by
  have hx:=wK0 x
  rw[jL]
  by_cases h7:k=7
  ·subst h7
   rw[if_pos rfl]
   by_cases h0:(jL x).k=0
   ·rw[if_pos h0];exact nm_z _
   ·rw[if_neg h0]
    refine ⟨?_,?_,fun q h=>wF2 hx.r h,sm_1 hx.s⟩
    ·rw[jL,if_pos rfl,hx.i,if_neg h0]
    ·rw[sz1,sz1];have:=hx.z;omega
  rw[if_neg h7]
  exact ⟨by rw[jL,if_neg h7],Int.le_refl _,fun _ h=>h,fun h=>h⟩
 | .mk k a b s e []=>.of_eq rfl
 | .mk k a b s e (x :: y :: z :: l)=>.of_eq rfl
 termination_by t=>SizeOf.sizeOf t
theorem en_f {t:Tm} (h:bB0 t):jN (pp G) H0 39 [tmV t] (stsV (enF t)):=by
 have hk:=wK0 t
 have h1:=bZ0 (jL t)
 have h2:=hk.z
 have h3:=h.2.2
 exact mO0 G t h.1 (hk.s h.1) (by omega)
theorem wH0 (x:St):(stC x).length=3:=rfl
theorem rJ0:∀ l:List St,(stCs l).length=l.length*3
 | []=>rfl
 | x :: l=>by rw[stCs,List.length_append,rJ0 l,wH0,List.length_cons];omega
theorem eG0 {l:List St} {i:Nat} {x:St} (h:l[i]?=some x) (j:Nat) (hj:j<3):(stCs l)[i*3+j]?=(stC x)[j]?:=by
 induction l generalizing i with
 | nil=>cases h
 | cons y l ih=>
  rw[stCs]
  cases i with
  | zero=>
   cases h
   rw[Nat.zero_mul,Nat.zero_add,List.getElem?_append_left (by rw[wH0];exact hj)]
  | succ i=>
   rw[List.getElem?_append_right (by rw[wH0];omega),wH0,show (i+1)*3+j-3=i*3+j by omega]
   exact ih h
theorem sW1 {l:List St} {i:Nat} {x:St} (h:l[i]?=some x):(stCs l)[i*3]?=some (.int .i64 x.k):=eG0 h 0 (by omega)
theorem sV1 {l:List St} {i:Nat} {x:St} (h:l[i]?=some x):(stCs l)[i*3+1]?=some (ivV x.p):=eG0 h 1 (by omega)
theorem sX1 {l:List St} {i:Nat} {x:St} (h:l[i]?=some x):(stCs l)[i*3+2]?=some (.int .i64 x.a):=eG0 h 2 (by omega)
attribute [push_cast] rJ0
inductive I43 (l:List St):Nat→S→Prop
 | mk (i:Nat) (iv:Int) (h:jA) {x2 x3 x4 x6 x7 x8 x9 xA xB xC xD xE xF xG xH xI xJ xK xL xM xN xO xP xQ xR xS xT xU xV xW xX xY xZ yA yB yC yD yE yF yG yH yI yJ yK yL yM yN yO yP yQ yR yS:Value} (hiv:iv=(i:Int)) (hi:i≤l.length) (hl1:h.lo=1) (hl2:1≤h.next) :
  I43 l (l.length-i) ⟨(F55 (stsV l) (stsV l) x2 x3 x4 (.int .i64 iv) x6 x7 x8 x9 xA xB xC xD xE xF xG xH xI xJ xK xL xM xN xO xP xQ xR xS xT xU xV xW xX xY xZ yA yB yC yD yE yF yG yH yI yJ yK yL yM yN yO yP yQ yR yS),[],h⟩
theorem wB2 (l:List St) (hl:l.length<1000000000000) (hp:∀ x∈l,x.p.length<1000000000000):jN (pp G) H0 43 [stsV l,stsV l] (.bool true):=by
 have hlo:H0.lo≤H0.next:=Nat.le_refl _;refine jN.cut (jI.fir4 (q:=qq) (jR G) fir43 (by kernel_rfl) rfl rfl (yX2 ..) (show NGG≤H0.lo by rw[qQ];decide) ?_);rw[uU2]
 have hA:stsV l=Rw false 60 l.length (stCs l):=rfl
 simp(disch:=first|omega|(apply id;simp only[push_cast];try omega))only[push_cast,simprocAttr,hA]
 rw[← hA]
 refine WD.loop4 (q:=qq) (jR G) (by kernel_rfl) (I43 l) ?_ _ _ (I43.mk 0 0 _ rfl (Nat.zero_le _) rfl (by first|assumption|(simp(disch:=first|omega|(apply id;simp only[push_cast];try omega))only[push_cast,simprocAttr];try omega)))
 intro m s1 hI
 cases hI with|mk i iv h hiv hi hl1 hl2=>
 subst hiv
 rw[qL1]
 by_cases hil:(i:Int)<l.length
 ·obtain ⟨x,hx⟩:=qP (l:=l) (i:=i) (by omega)
  have hxm:=List.mem_of_getElem? hx
  have e1:=sW1 hx
  have e2:=sV1 hx
  have e3:=sX1 hx
  have hle:i*3+2<l.length*3:=by omega
  have hsc:=lT0 1 (by decide) x.p
  simp(disch:=first|omega|(apply id;simp only[push_cast];try omega))only[push_cast,simprocAttr,hA,hil,e1,e2,e3,Int.toNat_natCast,hl1,bne_self_eq_false]
  refine jC.dataI (tI1 G x.p x.p (hp x hxm) (hp x hxm)) (by and_intros<;>first|rfl|(simp(disch:=first|omega|(apply id;simp only[push_cast];try omega))only[push_cast])) ?_
  simp(disch:=first|omega|(apply id;simp only[push_cast];try omega))only[push_cast,simprocAttr,decide_true,Bool.not_true]
  rw[← hA]
  exact ⟨_,by omega,I43.mk (i+1) _ _ (by first|rfl|omega) (by omega) (by first|assumption|(simp(disch:=first|omega|(apply id;simp only[push_cast];try omega))only[push_cast,simprocAttr,hl1];try omega)) (by first|assumption|(simp(disch:=first|omega|(apply id;simp only[push_cast];try omega))only[push_cast,simprocAttr];try omega))⟩
 ·simp(disch:=first|omega|(apply id;simp only[push_cast];try omega))only[push_cast,simprocAttr,hA,hil]
  rw[qK1]
  simp(disch:=first|omega|(apply id;simp only[push_cast];try omega))only[push_cast,simprocAttr]
  exact .id rfl
theorem cR0 {P:Program} {N:Nat} {σ:jA} (h1:szT P eE=some 4) (k a b:Int) (s:List UInt8) {f:Bool} {cs:List Value} {n:Nat} {l:List Tm} (hn:n=l.length) (hc:FzL P N σ cs (kF l)) :
  FzV P N σ (.agg ⟨[.int .i64 k,.int .i64 a,.int .i64 b,.string (Tx s),.int .i64 0,.int .i64 0,.string (Tx []),.slice none 0 0,Rw f etm n cs]⟩) (tmV (.mk k a b s zE l)):=by
 subst hn
 exact .agg (.cons (.id rfl) (.cons (.id rfl) (.cons (.id rfl) (.cons (.id rfl) (.cons (.id rfl) (.cons (.id rfl) (.cons (.id rfl) (.cons (.nil (size:=4) h1 (by decide)) (.cons (.row hc) .nil)))))))))
theorem sK1 (a b:List Tm):wS (a++b)=wS a++wS b:=by unfold wS;rw[List.filter_append,List.map_append]
theorem yZ0 {k a b:Int} {s:List UInt8} {e:Ex} {l:List Tm} (h:k≠14) (m:List Tm):wS (.mk k a b s e l :: m)=wS m:=by
 unfold wS;simp[Tm.k,h]
theorem bM2 {p:Bool} {k a b:Int} {s:List UInt8} {e:Ex} {l:List Tm} (h:qG 3 2 5 p (.mk k a b s e l)=true):(l.length:Int)=shL k∧∀ x∈l,qG 3 2 5 (p || decide (k=3)) x=true:=by
 rw[qG] at h
 simp only[Bool.and_eq_true,decide_eq_true_eq] at h
 exact ⟨h.2.2.2.2.1.2.2,gJ0 h.2.2.2.2.2.2.2⟩
theorem mH1 {e:Ex} (h:wE0 e=false):e=zE:=by
 obtain ⟨k,n,s,l⟩:=e
 unfold wE0 at h
 simp only[Bool.or_eq_false_iff,Bool.not_eq_false',decide_eq_true_eq,decide_eq_false_iff_not] at h
 obtain ⟨h1,h2,h3,h4⟩:=h
 have e1:k=0:=h1
 have e2:n=0:=h2
 have e3:s=[]:=h3
 have e4:l=[]:=by
  cases l with
  | nil=>rfl
  | cons x l=>exact absurd (Nat.zero_lt_succ _) h4
 subst e1 e2 e3 e4
 rfl
theorem bare {p:Bool} {k a b:Int} {s:List UInt8} {e:Ex} {l:List Tm} (hk:k=12∨k=11∨k=7) (h:qG 3 2 5 p (.mk k a b s e l)=true):a=0∧b=0∧s=[]∧e=zE:=by
 rw[qG] at h
 simp only[Bool.and_eq_true,decide_eq_true_eq] at h
 obtain ⟨_,_,h3,h4,⟨h5,h6,_⟩,_⟩:=h
 have hA:shA k=0:=by rcases hk with rfl|rfl|rfl<;>rfl
 have hB:shB k=0:=by rcases hk with rfl|rfl|rfl<;>rfl
 have hS:shN k=0:=by rcases hk with rfl|rfl|rfl<;>rfl
 have hE:shE k=0:=by rcases hk with rfl|rfl|rfl<;>rfl
 rw[hA] at h3
 rw[hB] at h4
 rw[hS] at h5
 rw[hE] at h6
 refine ⟨by simpa[cM0] using h3,by simpa[cM0] using h4,?_,mH1 ?_⟩
 ·by_cases hs:s=[]
  ·exact hs
  ·rw[if_neg hs] at h5;omega
 ·cases hg:wE0 e with
  | false=>rfl
  | true=>rw[if_pos hg] at h6;omega
set_option maxHeartbeats 2000000 in
theorem yL1:∀ (x:Tm) (p:Bool),smT x=true→qG 3 2 5 p x=true→jN (pp G) H0 38 [tmV x] (tmV (jL x))
 | .mk k a b s e l,p,hs,hr=>by
  have hs0:=hs
  simp only[smT,Bool.and_eq_true,decide_eq_true_eq] at hs
  obtain ⟨⟨hll,hse⟩,hsl⟩:=hs
  obtain ⟨hL,hrs⟩:=bM2 hr
  have ih:∀ x∈l,jN (pp G) H0 38 [tmV x] (tmV (jL x)):=fun x hx=>yL1 x _ (bJ hsl x hx) (hrs x hx)
  have hbare:=fun hk=>bare hk hr
  by_cases h12:k=12
  ·subst h12
   obtain ⟨rfl,rfl,rfl,rfl⟩:=hbare (.inl rfl)
   obtain ⟨x,y,rfl⟩:∃ x y,l=[x,y]:=by
    match l,hL with
    | [x,y],_=>exact ⟨x,y,rfl⟩
   have hx:=ih x (by simp)
   have hy:=ih y (by simp)
   clear ih hs0 hr hbare hrs hsl
   have hlo:H0.lo≤H0.next:=Nat.le_refl _;refine jN.cut (jI.fir4 (q:=qq) (jR G) mU1 (by kernel_rfl) rfl rfl (iM0 ..) (show NGG≤H0.lo by rw[qQ];decide) ?_);rw[eS0]
   rw[jL,if_pos rfl]
   simp(disch:=first|omega|(apply id;simp only[push_cast];try omega))only[push_cast,simprocAttr]
   refine jC.dataI (hx) (by and_intros<;>first|rfl|(simp(disch:=first|omega|(apply id;simp only[push_cast];try omega))only[push_cast])) ?_
   generalize jL x=x'
   by_cases h0:x'.k=0
   ·rw[if_pos h0]
    simp(disch:=first|omega|(apply id;simp only[push_cast];try omega))only[push_cast,simprocAttr,cH,h0]
    refine jC.dataI (hy) (by and_intros<;>first|rfl|(simp(disch:=first|omega|(apply id;simp only[push_cast];try omega))only[push_cast])) ?_
    simp(disch:=first|omega|(apply id;simp only[push_cast];try omega))only[push_cast,simprocAttr]
    exact .id (bV 1 (by decide) _)
   ·rw[if_neg (by exact h0)]
    simp(disch:=first|omega|(apply id;simp only[push_cast];try omega))only[push_cast,simprocAttr,cH,h0,↓cH0]
    exact cR0 rfl 12 0 0 [] (l:=[x',y]) rfl (.ids (gU _ (by decide) _))
  by_cases h11:k=11
  ·subst h11
   obtain ⟨rfl,rfl,rfl,rfl⟩:=hbare (.inr (.inl rfl))
   obtain ⟨x,y,rfl⟩:∃ x y,l=[x,y]:=by
    match l,hL with
    | [x,y],_=>exact ⟨x,y,rfl⟩
   have hx:=ih x (by simp)
   have hy:=ih y (by simp)
   clear ih hs0 hr hbare hrs hsl
   have hlo:H0.lo≤H0.next:=Nat.le_refl _;refine jN.cut (jI.fir4 (q:=qq) (jR G) mU1 (by kernel_rfl) rfl rfl (iM0 ..) (show NGG≤H0.lo by rw[qQ];decide) ?_);rw[eS0]
   rw[jL,if_neg (by omega),if_pos rfl]
   generalize jL x=x' at hx ⊢
   generalize jL y=y' at hy ⊢
   by_cases h0:x'.k=0
   ·by_cases h0':y'.k=0
    ·rw[if_pos ⟨h0,h0'⟩]
     simp(disch:=first|omega|(apply id;simp only[push_cast];try omega))only[push_cast,simprocAttr]
     all_goals repeat' apply And.intro
     all_goals
      refine jC.dataI (hx) (by and_intros<;>first|rfl|(simp(disch:=first|omega|(apply id;simp only[push_cast];try omega))only[push_cast])) ?_
      simp(disch:=first|omega|(apply id;simp only[push_cast];try omega))only[push_cast,simprocAttr]
     all_goals repeat' apply And.intro
     all_goals
      refine jC.dataI (hy) (by and_intros<;>first|rfl|(simp(disch:=first|omega|(apply id;simp only[push_cast];try omega))only[push_cast])) ?_
      simp(disch:=first|omega|(apply id;simp only[push_cast];try omega))only[push_cast,simprocAttr,cH,h0,h0',↓cH0]
     all_goals repeat' apply And.intro
     all_goals exact fV1 prog _ _
    ·rw[if_neg (fun h=>h0' h.2)]
     simp(disch:=first|omega|(apply id;simp only[push_cast];try omega))only[push_cast,simprocAttr]
     all_goals repeat' apply And.intro
     all_goals
      refine jC.dataI (hx) (by and_intros<;>first|rfl|(simp(disch:=first|omega|(apply id;simp only[push_cast];try omega))only[push_cast])) ?_
      simp(disch:=first|omega|(apply id;simp only[push_cast];try omega))only[push_cast,simprocAttr]
     all_goals repeat' apply And.intro
     all_goals
      refine jC.dataI (hy) (by and_intros<;>first|rfl|(simp(disch:=first|omega|(apply id;simp only[push_cast];try omega))only[push_cast])) ?_
      simp(disch:=first|omega|(apply id;simp only[push_cast];try omega))only[push_cast,simprocAttr,cH,h0,h0',↓cH0]
     all_goals repeat' apply And.intro
     all_goals exact cR0 rfl 11 0 0 [] (l:=[x',y']) rfl (.ids (gU _ (by decide) _))
   ·rw[if_neg (fun h=>h0 h.1)]
    simp(disch:=first|omega|(apply id;simp only[push_cast];try omega))only[push_cast,simprocAttr]
    all_goals repeat' apply And.intro
    all_goals
     refine jC.dataI (hx) (by and_intros<;>first|rfl|(simp(disch:=first|omega|(apply id;simp only[push_cast];try omega))only[push_cast])) ?_
     simp(disch:=first|omega|(apply id;simp only[push_cast];try omega))only[push_cast,simprocAttr]
    all_goals repeat' apply And.intro
    all_goals
     refine jC.dataI (hy) (by and_intros<;>first|rfl|(simp(disch:=first|omega|(apply id;simp only[push_cast];try omega))only[push_cast])) ?_
     simp(disch:=first|omega|(apply id;simp only[push_cast];try omega))only[push_cast,simprocAttr,cH,h0,↓cH0]
    all_goals repeat' apply And.intro
    all_goals exact cR0 rfl 11 0 0 [] (l:=[x',y']) rfl (.ids (gU _ (by decide) _))
  by_cases h7:k=7
  ·subst h7
   obtain ⟨rfl,rfl,rfl,rfl⟩:=hbare (.inr (.inr rfl))
   obtain ⟨x,rfl⟩:∃ x,l=[x]:=by
    match l,hL with
    | [x],_=>exact ⟨x,rfl⟩
   have hx:=ih x (by simp)
   clear ih hs0 hr hbare hrs hsl
   have hlo:H0.lo≤H0.next:=Nat.le_refl _;refine jN.cut (jI.fir4 (q:=qq) (jR G) mU1 (by kernel_rfl) rfl rfl (iM0 ..) (show NGG≤H0.lo by rw[qQ];decide) ?_);rw[eS0]
   rw[jL,if_pos rfl]
   generalize jL x=x' at hx ⊢
   simp(disch:=first|omega|(apply id;simp only[push_cast];try omega))only[push_cast,simprocAttr]
   refine jC.dataI (hx) (by and_intros<;>first|rfl|(simp(disch:=first|omega|(apply id;simp only[push_cast];try omega))only[push_cast])) ?_
   by_cases h0:x'.k=0
   ·rw[if_pos h0]
    simp(disch:=first|omega|(apply id;simp only[push_cast];try omega))only[push_cast,simprocAttr,cH,h0]
    exact fV1 prog _ _
   ·rw[if_neg h0]
    simp(disch:=first|omega|(apply id;simp only[push_cast];try omega))only[push_cast,simprocAttr,cH,h0,↓qY1]
    exact cR0 rfl 7 0 0 [] (l:=[x']) rfl (.ids (gU _ (by decide) _))
  have hn:jL (.mk k a b s e l)=.mk k a b s e l:=by
   unfold jL
   split
   ·rename_i e1;cases e1;rw[if_neg h12,if_neg h11]
   ·rename_i e1;cases e1;rw[if_neg h7]
   ·rename_i e1;cases e1;rfl
  rw[hn]
  have hlo:H0.lo≤H0.next:=Nat.le_refl _;refine jN.cut (jI.fir4 (q:=qq) (jR G) mU1 (by kernel_rfl) rfl rfl (iM0 ..) (show NGG≤H0.lo by rw[qQ];decide) ?_);rw[eS0]
  simp(disch:=first|omega|(apply id;simp only[push_cast];try omega))only[push_cast,simprocAttr,h12,h11,h7]
  exact .id (bV 1 (by decide) (.mk k a b s e l))
 termination_by x=>SizeOf.sizeOf x
theorem rn_f {t:Tm} (h:bB0 t):jN (pp G) H0 38 [tmV t] (tmV (jL t)):=yL1 G t false h.1 h.2.1
theorem uO0 (x:Sp) (l:List Sp):stS (x :: l)=stF x++stS l:=by simp[stS]
theorem gB0 (a b:List Sp):stS (a++b)=stS a++stS b:=by simp[stS]
theorem stF_u {u u':Tm} (h:kN u=[]↔kN u'=[]) (t:Tm) (p:List Int):stF ⟨t,u,p⟩=stF ⟨t,u',p⟩:=by
 unfold stF
 by_cases hw:kN u=[]
 ·simp only[hw,h.1 hw]
 ·have hw':¬ kN u'=[]:=fun e=>hw (h.2 e)
  simp only[hw,hw']
mutual
theorem kM1 {u u':Tm} (h:kN u=[]↔kN u'=[]):∀ (x:Tm) (p:List Int),stS (spT x u p)=stS (spT x u' p)
 | .mk k a b s e l,p=>by
  rw[spT,spT,uO0,uO0,stF_u h]
  congr 1
  by_cases h12:k=12
  ·rw[if_pos h12,if_pos h12];exact spH_u h l p
  rw[if_neg h12,if_neg h12]
  by_cases h7:k=7
  ·rw[if_pos h7,if_pos h7]
  rw[if_neg h7,if_neg h7]
  by_cases h11:k=11
  ·rw[if_pos h11,if_pos h11];exact bI2 h l p 0
  ·rw[if_neg h11,if_neg h11]
theorem bI2 {u u':Tm} (h:kN u=[]↔kN u'=[]):∀ (l:List Tm) (p:List Int) (j:Nat),stS (spL l u p j)=stS (spL l u' p j)
 | [],_,_=>rfl
 | x :: l,p,j=>by rw[spL,spL,gB0,gB0,kM1 h x,bI2 h l]
theorem spH_u {u u':Tm} (h:kN u=[]↔kN u'=[]):∀ (l:List Tm) (p:List Int),stS (spH l u p)=stS (spH l u' p)
 | [],_=>rfl
 | x :: l,p=>by rw[spH,spH,kM1 h x]
end
theorem stF_p {x:St} {y:Sp} (h:x∈stF y):x.p=y.p:=by
 unfold stF at h
 split at h
 ·cases h
 split at h
 ·split at h
  ·simp at h;rw[h]
  ·cases h
 split at h
 ·simp at h;rcases h with rfl|rfl<;>rfl
 ·simp at h;rw[h]
mutual
theorem jV2:∀ (x u:Tm) (p:List Int),∀ y∈spT x u p,y.p.length+1≤p.length+(kO x).length
 | .mk k a b s e l,u,p,y,hy=>by
  rw[spT] at hy
  rw[kO,List.length_cons]
  rcases List.mem_cons.1 hy with rfl|hy
  ·show p.length+1≤_;omega
  by_cases h12:k=12
  ·rw[if_pos h12] at hy ⊢
   have:=spH_p l u p y hy;omega
  rw[if_neg h12] at hy ⊢
  by_cases h7:k=7
  ·rw[if_pos h7] at hy
   rw[if_pos (.inr h7)]
   have:=jW2 l _ p 0 y hy;omega
  rw[if_neg h7] at hy
  by_cases h11:k=11
  ·rw[if_pos h11] at hy
   rw[if_pos (.inl h11)]
   have:=jW2 l u p 0 y hy;omega
  ·rw[if_neg h11] at hy;cases hy
theorem jW2:∀ (l:List Tm) (u:Tm) (p:List Int) (j:Nat),∀ y∈spL l u p j,y.p.length≤p.length+(gJ l).length
 | [],_,_,_,y,hy=>by cases hy
 | x :: l,u,p,j,y,hy=>by
  rw[spL] at hy
  rw[gJ,List.length_append]
  rcases List.mem_append.1 hy with hy|hy
  ·have:=jV2 x u _ y hy;rw[List.length_append] at this;simp at this;omega
  ·have:=jW2 l u p (j+1) y hy;omega
theorem spH_p:∀ (l:List Tm) (u:Tm) (p:List Int),∀ y∈spH l u p,y.p.length≤p.length+(actH l).length
 | [],_,_,y,hy=>by cases hy
 | x :: l,u,p,y,hy=>by
  rw[spH] at hy
  rw[actH]
  have:=jV2 x u _ y hy;rw[List.length_append] at this;simp at this;omega
end
theorem dZ1 {t:Tm} (hz:uY t≤100000):(enF t).length<1000000∧∀ x∈enF t,x.p.length<1000000:=by
 have hk:=wK0 t
 have h1:=bZ0 (jL t)
 have h2:=hk.z
 unfold enF
 refine ⟨?_,fun x hx=>?_⟩
 ·have h3:=eF0 (spT (jL t) (jL t) [])
  rw[gD0] at h3
  omega
 ·obtain ⟨y,hy,hxy⟩:=List.mem_flatMap.1 hx
  have h3:=jV2 _ _ _ y hy
  rw[stF_p hxy]
  simp at h3
  omega
theorem fD2 {t:Tm} (hs:smT t=true) (hz:uY t≤100000):jN (pp G) H0 39 [tmV t] (stsV (enF t)):=by
 have hk:=wK0 t
 have h1:=bZ0 (jL t)
 have h2:=hk.z
 exact mO0 G t hs (hk.s hs) (by omega)
theorem sm2 {x y:Tm} (k:Int) (hx:smT x=true) (hy:smT y=true):smT (.mk k 0 0 [] zE [x,y])=true:=by simp[smT,smTs,hx,hy,zE,smE,smEs]
theorem gO2 (x y:Tm):kN (.mk 12 0 0 [] zE [x,y])=kN x:=by
 have e:kO (.mk 12 0 0 [] zE [x,y])=.mk 12 0 0 [] zE [x,y] :: kO x:=by simp[kO,actH]
 unfold kN;rw[e,yZ0 (by decide)]
theorem fE2 {x:Tm} (h:(jL x).k≠0) (y:Tm):enF (.mk 12 0 0 [] zE [x,y])=stS (spT (jL x) (jL x) [0]):=by
 have hn:jL (.mk 12 0 0 [] zE [x,y])=.mk 12 0 0 [] zE [jL x,y]:=by rw[jL,if_pos rfl,if_neg h]
 unfold enF
 rw[hn,spT,if_pos rfl,uO0,spH]
 have e:stF ⟨.mk 12 0 0 [] zE [jL x,y],.mk 12 0 0 [] zE [jL x,y],[]⟩=[]:=by unfold stF;rw[if_pos (.inr (.inr (.inl rfl)))]
 rw[e,List.nil_append]
 exact kM1 (by rw[gO2]) (jL x) [0]
def preS (q:List Int) (s:St):St:=⟨s.k,q++s.p,s.a⟩
theorem jS2 (q:List Int) (t u:Tm) (p:List Int):stF ⟨t,u,q++p⟩=(stF ⟨t,u,p⟩).map (preS q):=by
 unfold stF
 dsimp only
 split
 ·rfl
 split
 ·split<;>rfl
 split<;>rfl
mutual
theorem gC0 (q:List Int):∀ (x u:Tm) (p:List Int),stS (spT x u (q++p))=(stS (spT x u p)).map (preS q)
 | .mk k a b s e l,u,p=>by
  rw[spT,spT,uO0,uO0,List.map_append,jS2]
  congr 1
  by_cases h12:k=12
  ·rw[if_pos h12,if_pos h12];exact jX2 q l u p
  rw[if_neg h12,if_neg h12]
  by_cases h7:k=7
  ·rw[if_pos h7,if_pos h7];exact nM0 q l _ p 0
  rw[if_neg h7,if_neg h7]
  by_cases h11:k=11
  ·rw[if_pos h11,if_pos h11];exact nM0 q l u p 0
  ·rw[if_neg h11,if_neg h11];rfl
theorem nM0 (q:List Int):∀ (l:List Tm) (u:Tm) (p:List Int) (j:Nat),stS (spL l u (q++p) j)=(stS (spL l u p j)).map (preS q)
 | [],_,_,_=>rfl
 | x :: l,u,p,j=>by rw[spL,spL,gB0,gB0,List.map_append,List.append_assoc,gC0 q x,nM0 q l]
theorem jX2 (q:List Int):∀ (l:List Tm) (u:Tm) (p:List Int),stS (spH l u (q++p))=(stS (spH l u p)).map (preS q)
 | [],_,_=>rfl
 | x :: l,u,p=>by rw[spH,spH,List.append_assoc,gC0 q x]
end
def litB (a:Tm):Nat→List Value
 | 0=>tmC a
 | m+1=>[.int .i64 7,.int .i64 0,.int .i64 0,.string (Tx []),.int .i64 0,.int .i64 0,.string (Tx []),.slice none 0 0,Rw true etm 1 (litB a m)]
@[push_cast]theorem litB_c (a:Tm) (m:Nat):(Value.agg ⟨litB a m⟩).cells.toList=litB a m:=rfl
theorem sU1 {l:List St} {i:Nat} {x:St} (h:l[i]?=some x):((stCs l).drop (i*3)).take 3=[.int .i64 x.k,ivV x.p,.int .i64 x.a]:=by
 induction l generalizing i with
 | nil=>cases h
 | cons y l ih=>
  rw[stCs]
  cases i with
  | zero=>
   cases h
   rw[Nat.zero_mul,List.drop_zero,List.take_append_of_le_length (by rw[wH0];exact Nat.le_refl _)]
   rfl
  | succ i=>
   rw[List.drop_append,List.drop_eq_nil_of_le (by rw[wH0];omega),List.nil_append,wH0,show (i+1)*3-3=i*3 by omega]
   exact ih h
theorem wtB_0 (n:Int):wtB 0 n=false:=by
 unfold wtB
 rw[Int.zero_fdiv]
 decide
mutual
theorem gQ2:∀ (x:Tm) (p q:Bool) (n:Int),wtF 0 p x n=wtF 0 q x n
 | .mk k a b s e l,p,q,n=>by
  rw[wtF,wtF]
  simp only[wtB_0,Bool.and_false]
  have h:=fun m=>gP2 l (p || is3 k) (q || is3 k) m
  simp only[h]
theorem gP2:∀ (l:List Tm) (p q:Bool) (n:Int),wtL 0 p l n=wtL 0 q l n
 | [],_,_,_=>rfl
 | x :: l,p,q,n=>by rw[wtL,wtL,gQ2 x p q n,gP2 l p q]
end
theorem uC1 {y:Tm} {r:Rb} (hs:smT y=true) (h:y=askT∨y=uB1 0 r):bB0 y∧qG 3 2 5 true y=true:=by
 refine ⟨gK1 hs h,?_⟩
 rcases h with rfl|rfl
 ·decide
 ·have h1:=fA0 r 0 (by omega)
  have h2:uY (bZ jT jO qH (mkP r 0))+1≤256:=h1
  have h3:=dW0 jT jO qH 0 (mkP r 0) true 0 (fB0 r 0) (by omega) (by omega)
  unfold uB1
  rw[gQ2 _ false true]
  exact h3.1
theorem gL1 (r:Rb) (hr:smB r=true):kK (pp G) H0 22 [rbV r,.int .i64 0] (fun d=>∃ y,d=tmV y∧bB0 y∧qG 3 2 5 true y=true):=
 fun g h vs hP hrr hv=>(zF2 G r 0 hr g h vs hP hrr hv).mono fun u h' ⟨d,g',⟨y,e,hs,hy⟩,x⟩=>⟨d,g',⟨y,e,uC1 hs hy⟩,x⟩
mutual
theorem noW:∀ x:Tm,qG 3 2 5 true x=true→wS (kO x)=[]
 | .mk k a b s e l,h=>by
  have hk:k≠14:=by
   rintro rfl
   simp[qG] at h
  have hl:∀ x∈l,qG 3 2 5 true x=true:=fun x hx=>by
   have:=(bM2 h).2 x hx
   rwa [Bool.true_or] at this
  rw[kO]
  split
  ·rw[yZ0 hk];first|exact noWl l hl|exact noWh l hl
  ·split
   ·rw[yZ0 hk];first|exact noWl l hl|exact noWh l hl
   ·rw[yZ0 hk];rfl
theorem noWl:∀ l:List Tm,(∀ x∈l,qG 3 2 5 true x=true)→wS (gJ l)=[]
 | [],_=>rfl
 | x :: l,h=>by rw[gJ,sK1,noW x (h x (by simp)),noWl l fun y hy=>h y (by simp[hy])];rfl
theorem noWh:∀ l:List Tm,(∀ x∈l,qG 3 2 5 true x=true)→wS (actH l)=[]
 | [],_=>rfl
 | x :: l,h=>by rw[actH];exact noW x (h x (by simp))
end
theorem no_n {x:Tm} (h:qG 3 2 5 true x=true):kN (jL x)=[]:=noW _ ((wK0 x).r true h)
theorem pA0 {x:Tm} (h:(jL x).k=0):enF x=[]:=by
 unfold enF
 generalize jL x=n at h ⊢
 obtain ⟨k,a,b,s,e,l⟩:=n
 obtain rfl:k=0:=h
 rfl
theorem fG2 {x y:Tm} (hx:kN (jL x)=[]) (hy:kN (jL y)=[]):enF (.mk 11 0 0 [] zE [x,y])=(enF x).map (preS [0])++(enF y).map (preS [1]):=by
 by_cases h0:(jL x).k=0∧(jL y).k=0
 ·rw[pA0 h0.1,pA0 h0.2]
  refine pA0 ?_
  rw[jL,if_neg (by decide),if_pos rfl,if_pos h0]
  rfl
 ·have hn:jL (.mk 11 0 0 [] zE [x,y])=.mk 11 0 0 [] zE [jL x,jL y]:=by rw[jL,if_neg (by decide),if_pos rfl,if_neg h0]
  have hv:kN (.mk 11 0 0 [] zE [jL x,jL y])=[]:=by
   have e:kO (.mk 11 0 0 [] zE [jL x,jL y])=.mk 11 0 0 [] zE [jL x,jL y] :: (kO (jL x)++kO (jL y)):=by simp[kO,gJ]
   unfold kN at hx hy ⊢
   rw[e,yZ0 (by decide),sK1,hx,hy]
   rfl
  unfold enF
  rw[hn,spT,if_neg (by decide),if_neg (by decide),if_pos rfl,uO0]
  have e:stF ⟨.mk 11 0 0 [] zE [jL x,jL y],.mk 11 0 0 [] zE [jL x,jL y],[]⟩=[]:=by unfold stF;rw[if_pos (.inr (.inr (.inr (.inl rfl))))]
  rw[e,List.nil_append,spL,spL,spL,gB0,List.append_nil,← gC0 [0],← gC0 [1],kM1 (u':=jL x) (by rw[hv,hx]) (jL x),kM1 (u':=jL y) (by rw[hv,hy]) (jL y)]
  rfl
theorem row1C (c:Int) (σ:jA):bsD (qq.m 23) (slT prog 23) 1 [(0,.int .i64 c)] σ=some (Rw true eI 1 [.int .i64 c],σ):=by kernel_rfl
theorem app1c (c:Int) (p:List Int) (hp:p.length<1000000) (σ:jA) (hln:1≤σ.next):∃ v τ,apS eI 1 8 (Rw true eI 1 [.int .i64 c]) (srcD 1 (ivV p) σ) σ=some (v,τ)∧FzV prog 1 τ v (ivV (c :: p))∧jE σ τ (fun _=>False):=by
 have hs:srcD 1 (ivV p) σ=some (p.length,ivs p):=sY1 _ (by rw[uA0,Nat.mul_one])
 rw[hs]
 have he:apS eI 1 8 (Rw true eI 1 [.int .i64 c]) (some (p.length,ivs p)) σ=(if p.length=0 then some (Rw true eI 1 [.int .i64 c],σ) else some (Value.slice (some ⟨σ.next,0,none⟩) (1+p.length) UC,σ.add (O ([.int .i64 c]++ivs p) eI true))):=by
  show (if (ivs p).all one=true then (if ([.int .i64 c]:List Value).length=1*1∧((1+p.length)*8≤140737488355328∧(1+p.length)<100000000000000)∧([.int .i64 c]:List Value).all one=true then (if p.length=0 then some (Rw true eI 1 [.int .i64 c],σ) else some (Value.slice (some ⟨σ.next,0,none⟩) (1+p.length) UC,σ.add (O ([.int .i64 c]++ivs p) eI true))) else none) else none)=_
  rw[if_pos (kI0 p),if_pos ⟨rfl,by omega,rfl⟩]
 rw[he]
 by_cases h0:p.length=0
 ·rw[if_pos h0]
  obtain rfl:p=[]:=List.length_eq_zero_iff.1 h0
  exact ⟨_,_,rfl,.row (.ids rfl),jE.refl _ _⟩
 ·rw[if_neg h0]
  refine ⟨_,_,rfl,?_,jE.add _ _ _⟩
  have hc2:cells (σ.add (O ([.int .i64 c]++ivs p) eI true)) σ.next=_:=cF _ _ _ _ rfl
  have hv:ivV (c :: p)=Rw false eI (1+p.length) (ivs (c :: p)):=by unfold ivV;rw[List.length_cons,Nat.add_comm]
  rw[hv]
  refine .sl (full:=[.int .i64 c]++ivs p) (m:=true) hln hc2 (size:=1) rfl (by decide) (by simp[uA0];omega) (.inr ⟨rfl,Nat.le_refl _,by simp,by unfold U;omega⟩) ?_
  rw[List.drop_zero,List.take_of_length_le (by simp[uA0];omega)]
  exact .ids (kY0 _ (c :: p))
theorem tE1 (va vb vp vq:Value) (w:List St) (i pn:Nat) (c:Int) (y:St) (hw:w[i]?=some (preS [c] y)) (hyl:y.p.length<1000000) (h:jA) (cn:cells h pn=some ([.int .i64 y.k,ivV y.p,.int .i64 y.a],60,false)) (hl1:h.lo=1) (hpn:1≤pn) (hl2:pn<h.next)
  {T:jK→S→Prop} (hN:∀ {τ:jA} {x0 x1 x2 x3 x4 xB xC xD xE xF xG xH xI xJ xK xL xM xN xO xP xQ xR xS xT xU xV xW xX xY xZ yA yB yC yD yE yF yG yH yI yJ yK yL yM yN yO yP yQ yR yS yT yU yV yW yX yY yZ zA zB zC zD zF zG zH zI zJ zK zL zM zN zO zP zQ zR zS zU zV zW zX zY zZ wA wB wC wD wE wF wG wH wI wJ wK wL wM wN wO wP wQ wR wT wU wV wW wX wY wZ uA uB uC:Value},jE h τ (fun _=>False)→T .normal ⟨(bL x0 x1 x2 x3 x4 va vb vp vq (stsV w) (.int .i64 i) xB xC xD xE xF xG xH xI xJ xK xL xM xN xO xP xQ xR xS xT xU xV xW xX xY xZ yA yB yC yD yE yF yG yH yI yJ yK yL yM yN yO yP yQ yR yS yT yU yV yW yX yY yZ zA zB zC zD zF zG zH zI zJ zK zL zM zN zO zP zQ zR zS zU zV zW zX zY zZ wA wB wC wD wE wF wG wH wI wJ wK wL wM wN wO wP wQ wR wT wU wV wW wX wY wZ uA uB uC),[],τ⟩) {x0 x1 x2 x3 x4 xD xE xF xG xH xI xJ xK xL xM xN xO xP xQ xR xS xT xU xV xW xX xY xZ yA yB yC yD yE yF yG yH yI yJ yK yL yM yN yO yP yQ yR yS yT yU yV yW yX yY yZ zA zB zC zD zF zG zH zI zJ zK zL zM zN zO zP zQ zR zS zU zV zW zX zY zZ wA wB wC wD wE wF wG wH wI wJ wK wL wM wN wO wP wQ wR wT wU wV wW wX wY wZ uA uB uC:Value} :
  dc3 (pp G) qq none fN0 ⟨(bL x0 x1 x2 x3 x4 va vb vp vq (stsV w) (.int .i64 i) (.pointer (some ⟨pn,0,none⟩)) (.int .i64 c) xD xE xF xG xH xI xJ xK xL xM xN xO xP xQ xR xS xT xU xV xW xX xY xZ yA yB yC yD yE yF yG yH yI yJ yK yL yM yN yO yP yQ yR yS yT yU yV yW yX yY yZ zA zB zC zD zF zG zH zI zJ zK zL zM zN zO zP zQ zR zS zU zV zW zX zY zZ wA wB wC wD wE wF wG wH wI wJ wK wL wM wN wO wP wQ wR wT wU wV wW wX wY wZ uA uB uC),[],h⟩ T:=by
 have hA:∀ l:List St,stsV l=Rw false 60 l.length (stCs l):=fun _=>rfl
 have hlt:=(List.getElem?_eq_some_iff.1 hw).1
 have hil:(i:Int)<w.length:=by omega
 have hle:i*3+2<w.length*3:=by omega
 have e1:=sW1 hw
 have e2:=sV1 hw
 have e3:=sX1 hw
 have hsz:=lT0 1 (by decide) (c :: y.p)
 have hsy:=lT0 1 (by decide) y.p
 obtain ⟨v,τ,hap,hfz,gg⟩:=app1c c y.p hyl h (by omega)
 have hn2:=gg.next
 have hl3:=gg.lo
 have hfz2:FzL (pp G).P τ.lo τ [ivV (c :: y.p),v] [ivV (c :: y.p),ivV (c :: y.p)]:=by rw[hl3,hl1];exact .cons (.id hsz) (.cons hfz .nil)
 rw[qU1]
 simp(disch:=first|omega|(apply id;simp only[push_cast];try omega))only[push_cast,simprocAttr,hA,hil,e1,e2,e3,hle,cn,Int.toNat_natCast,hl1,preS,bne_self_eq_false,↓row1C]
 simp(disch:=first|omega|(apply id;simp only[push_cast];try omega))only[push_cast,simprocAttr,hap]
 refine jC.lend (tI1 G (c :: y.p) (c :: y.p) (by simp;omega) (by simp;omega)) (hfz2) rfl ?_
 simp(disch:=first|omega|(apply id;simp only[push_cast];try omega))only[push_cast,simprocAttr,hA,e2,hle,decide_true,Bool.not_true]
 exact hN gg
inductive I12 (a b:Tm) (p q w:List St) (pa pb:Nat):Nat→S→Prop
 | mk (i:Nat) (iv:Int) (h:jA) {x0 x1 x2 x3 x4 xB xC xD xE xF xG xH xI xJ xK xL xM xN xO xP xQ xR xS xT xU xV xW xX xY xZ yA yB yC yD yE yF yG yH yI yJ yK yL yM yN yO yP yQ yR yS yT yU yV yW yX yY yZ zA zB zC zD zF zG zH zI zJ zK zL zM zN zO zP zQ zR zS zU zV zW zX zY zZ wA wB wC wD wE wF wG wH wI wJ wK wL wM wN wO wP wQ wR wT wU wV wW wX wY wZ uA uB uC:Value} (hiv:iv=(i:Int)) (hi:i≤w.length) (ca:cells h pa=some (tmC a,etm,false)) (cb:cells h pb=some (tmC b,etm,false)) (hl1:h.lo=1) (ha:pa<h.next) (hb:pb<h.next) :
  I12 a b p q w pa pb (w.length-i) ⟨(bL x0 x1 x2 x3 x4 (.pointer (some ⟨pa,0,none⟩)) (.pointer (some ⟨pb,0,none⟩)) (stsV p) (stsV q) (stsV w) (.int .i64 iv) xB xC xD xE xF xG xH xI xJ xK xL xM xN xO xP xQ xR xS xT xU xV xW xX xY xZ yA yB yC yD yE yF yG yH yI yJ yK yL yM yN yO yP yQ yR yS yT yU yV yW yX yY yZ zA zB zC zD zF zG zH zI zJ zK zL zM zN zO zP zQ zR zS zU zV zW zX zY zZ wA wB wC wD wE wF wG wH wI wJ wK wL wM wN wO wP wQ wR wT wU wV wW wX wY wZ uA uB uC),[],h⟩
theorem cM2 {a b:Tm} (ha:bB0 a) (hb:bB0 b) (w:Value) (pa pb:Nat) (h:jA) (ca:cells h pa=some (tmC a,etm,false)) (cb:cells h pb=some (tmC b,etm,false)) (hl1:h.lo=1) (hpa:1≤pa) (hpb:1≤pb) (hpan:pa<h.next) {R:Value→jA→Prop} (hR:∀ h',R (.bool true) h') {x0 x1 x2 x3 x4 x9 xA xB xC xD xE xF xG xH xI xJ xK xL xM xN xO xP xQ xR xS xT xU xV xW xX xY xZ yA yB yC yD yE yF yG yH yI yJ yK yL yM yN yO yP yQ yR yS yT yU yV yW yX yY yZ zA zB zC zD zF zG zH zI zJ zK zL zM zN zO zP zQ zR zS zU zV zW zX zY zZ wA wB wC wD wE wF wG wH wI wJ wK wL wM wN wO wP wQ wR wT wU wV wW wX wY wZ uA uB uC:Value} :
  dc3 (pp G) qq none fO0 ⟨(bL x0 x1 x2 x3 x4 (.pointer (some ⟨pa,0,none⟩)) (.pointer (some ⟨pb,0,none⟩)) (stsV (enF a)) (stsV (enF b)) x9 xA xB xC xD xE xF xG xH xI xJ xK xL xM xN xO xP xQ xR xS xT xU xV xW xX xY xZ yA yB yC yD yE yF yG yH yI yJ yK yL yM yN yO yP yQ yR yS yT yU yV yW yX yY yZ zA zB zC zD zF zG zH zI zJ zK zL zM zN zO zP zQ zR zS zU zV zW zX zY zZ wA wB wC wD wE wF wG wH wI wJ wK wL wM wN wO wP wQ wR wT wU wV wW wX wY wZ uA uB uC),[],h⟩ (@kR ⟨jH prog [.tmp 4] R⟩):=by
 have hA:∀ l:List St,stsV l=Rw false 60 l.length (stCs l):=fun _=>rfl
 have hfd:∀ x:Tm,fdV (some (false,0,0)) (tmV x)=some (.int .i64 x.k):=fun x=>by cases x;rfl
 have hsz:uY (.mk 12 0 0 [] zE [a,b])≤100000:=by
  have h1:=ha.2.2
  have h2:=hb.2.2
  simp only[uY,uU];omega
 have htl:∀ x:Tm,(tmC x).length=9:=kX
 have htv:∀ x:Tm,Value.agg ⟨tmC x⟩=tmV x:=fun _=>rfl
 rw[qV1]
 simp(disch:=first|omega|(apply id;simp only[push_cast];try omega))only[push_cast,simprocAttr,ca,cb,hl1,kX,jI0,htv,↓cH0]
 refine jC.data (fD2 G (sm2 12 ha.1 hb.1) hsz) (.cons (cR0 rfl 12 0 0 [] (l:=[a,b]) rfl (.ids (gU _ (by decide) _))) .nil) (by first|rfl|(simp(disch:=first|omega|(apply id;simp only[push_cast];try omega))only[push_cast])) (by first|rfl|(simp(disch:=first|omega|(apply id;simp only[push_cast];try omega))only[push_cast])) ?_
 simp(disch:=first|omega|(apply id;simp only[push_cast];try omega))only[push_cast,simprocAttr,ca,cb,hl1,kX,jI0,htv]
 refine jC.dataI (rn_f G ha) (by and_intros<;>first|rfl|(simp(disch:=first|omega|(apply id;simp only[push_cast];try omega))only[push_cast])) ?_
 by_cases h0:(jL a).k=0
 ·have hn:jL (.mk 12 0 0 [] zE [a,b])=jL b:=by rw[jL,if_pos rfl,if_pos h0]
  have he:enF (.mk 12 0 0 [] zE [a,b])=enF b:=by unfold enF;rw[hn]
  have hB:=dZ1 (t:=b) (by have:=hb.2.2;omega)
  rw[he]
  simp(disch:=first|omega|(apply id;simp only[push_cast];try omega))only[push_cast,simprocAttr,hfd,h0]
  refine jC.dataI (wB2 G _ (by have:=hB.1;omega) (fun x hx=>by have:=hB.2 x hx;omega)) (by and_intros<;>first|rfl|(simp(disch:=first|omega|(apply id;simp only[push_cast];try omega))only[push_cast])) ?_
  simp(disch:=first|omega|(apply id;simp only[push_cast];try omega))only[push_cast,simprocAttr]
  exact hR _
 ·have hl : (enF (.mk 12 0 0 [] zE [a, b])).length = (enF a).length := by
   have:=gC0 [0] (jL a) (jL a) []
   rw[fE2 h0]
   rw[List.append_nil] at this
   rw[this,List.length_map]
   rfl
  simp(disch:=first|omega|(apply id;simp only[push_cast];try omega))only[push_cast,simprocAttr,hfd,h0,hA]
  rw[hl]
  simp(disch:=first|omega|(apply id;simp only[push_cast];try omega))only[push_cast,simprocAttr,decide_true,beq_self_eq_true]
  exact hR _
theorem lN1 {a b:Tm} (ha:bB0 a) (hb:bB0 b) (w:List St) (hw:w=(enF a).map (preS [0])++(enF b).map (preS [1])) (pa pb:Nat) (hpa:1≤pa) (hpb:1≤pb) {R:Value→jA→Prop} (hR:∀ h',R (.bool true) h') {n:Nat} {s:S} (hI:I12 a b (enF a) (enF b) w pa pb n s) :
  WD (pp G) H0 none (.loop oN0) s (@kR ⟨jP 0 (jM (fun s1=>dc3 (pp G) qq none fO0 s1 (@kR ⟨jH prog [.tmp 4] R⟩)) (jH prog [.tmp 4] R))⟩):=by
 have hBa:=dZ1 (t:=a) (by have:=ha.2.2;omega)
 have hBb:=dZ1 (t:=b) (by have:=hb.2.2;omega)
 have hA:∀ l:List St,stsV l=Rw false 60 l.length (stCs l):=fun _=>rfl
 refine WD.loop4 (q:=qq) (jR G) (by kernel_rfl) (I12 a b (enF a) (enF b) w pa pb) ?_ _ _ hI
 clear hI
 intro m s1 hI
 cases hI with|mk i iv h hiv hi ca cb hl1 han hbn=>
 subst hiv
 by_cases hil:(i:Int)<w.length
 ·have hwl:w.length=(enF a).length+(enF b).length:=by rw[hw,List.length_append,List.length_map,List.length_map]
  rw[dB0]
  by_cases hip:(i:Int)<(enF a).length
  ·obtain ⟨y,hy⟩:=qP (l:=enF a) (i:=i) (by omega)
   have hwy:w[i]?=some (preS [0] y):=by rw[hw,List.getElem?_append_left (by rw[List.length_map];omega),List.getElem?_map,hy];rfl
   have ty:=sU1 hy
   have hyl:=hBa.2 y (List.mem_of_getElem? hy)
   have h1y:one (ivV y.p)=true:=rfl
   have hle:i*3+3≤(enF a).length*3:=by omega
   simp(disch:=first|omega|(apply id;simp only[push_cast];try omega))only[push_cast,simprocAttr,hA,hil,hip,ty,hle,Int.toNat_natCast,hl1,h1y]
   refine tE1 G _ _ _ _ w i _ 0 y hwy hyl _ ?_ ?_ ?_ ?_ ?_
   ·simp(disch:=first|omega|(apply id;simp only[push_cast];try omega))only[push_cast,simprocAttr]
   ·first|exact hl1|(simp(disch:=first|omega|(apply id;simp only[push_cast];try omega))only[push_cast,simprocAttr];try exact hl1)
   ·omega
   ·first|(simp(disch:=first|omega|(apply id;simp only[push_cast];try omega))only[push_cast,simprocAttr];done)|(simp(disch:=first|omega|(apply id;simp only[push_cast];try omega))only[push_cast,simprocAttr];omega)|(show h.next<h.next+1;omega)
   intros
   rename_i gg
   have g1:=(((jE.add h _ (fun _=>False)).put' h.next _ (Nat.le_refl _)).put' h.next _ (Nat.le_refl _)).trans gg fun _ _ h=>h
   have hn:=g1.next
   simp(disch:=first|omega|(apply id;simp only[push_cast];try omega))only[push_cast,simprocAttr]
   rw[dA0]
   simp(disch:=first|omega|(apply id;simp only[push_cast];try omega))only[push_cast,simprocAttr]
   exact ⟨_,by omega,I12.mk (i+1) _ _ (by first|rfl|omega) (by omega) (g1.cellsE ca han id) (g1.cellsE cb hbn id) (by rw[g1.lo,hl1]) (by omega) (by omega)⟩
  ·obtain ⟨j,hij⟩:∃ j,i=(enF a).length+j:=⟨i-(enF a).length,by omega⟩
   obtain ⟨y,hy⟩:=qP (l:=enF b) (i:=j) (by omega)
   have hwy:w[i]?=some (preS [1] y):=by rw[hij,hw,List.getElem?_append_right (by rw[List.length_map];omega),List.length_map,Nat.add_sub_cancel_left,List.getElem?_map,hy];rfl
   have ty:=sU1 hy
   have hyl:=hBb.2 y (List.mem_of_getElem? hy)
   have h1y:one (ivV y.p)=true:=rfl
   have hle:j*3+3≤(enF b).length*3:=by omega
   have hw1:IntKind.i64.wrap ((i:Int)-(enF a).length)=j:=by
    have e:(i:Int)-(enF a).length=j:=by omega
    rw[e]
    exact W_id (by omega)
   have hjl:(j:Int)<(enF b).length:=by omega
   have hsub:(i:Int)-(enF a).length=j:=by omega
   simp(disch:=first|omega|(apply id;simp only[push_cast];try omega))only[push_cast,simprocAttr,hA,hil,hip,hw1,hsub,hjl,ty,hle,Int.toNat_natCast,hl1,h1y]
   refine tE1 G _ _ _ _ w i _ 1 y hwy hyl _ ?_ ?_ ?_ ?_ ?_
   ·simp(disch:=first|omega|(apply id;simp only[push_cast];try omega))only[push_cast,simprocAttr]
   ·first|exact hl1|(simp(disch:=first|omega|(apply id;simp only[push_cast];try omega))only[push_cast,simprocAttr];try exact hl1)
   ·omega
   ·first|(simp(disch:=first|omega|(apply id;simp only[push_cast];try omega))only[push_cast,simprocAttr];done)|(simp(disch:=first|omega|(apply id;simp only[push_cast];try omega))only[push_cast,simprocAttr];omega)|(show h.next<h.next+1;omega)
   intros
   rename_i gg
   have g1:=(((jE.add h _ (fun _=>False)).put' h.next _ (Nat.le_refl _)).put' h.next _ (Nat.le_refl _)).trans gg fun _ _ h=>h
   have hn:=g1.next
   simp(disch:=first|omega|(apply id;simp only[push_cast];try omega))only[push_cast,simprocAttr]
   rw[dA0]
   simp(disch:=first|omega|(apply id;simp only[push_cast];try omega))only[push_cast,simprocAttr]
   exact ⟨_,by omega,I12.mk (i+1) _ _ (by first|rfl|omega) (by omega) (g1.cellsE ca han id) (g1.cellsE cb hbn id) (by rw[g1.lo,hl1]) (by omega) (by omega)⟩
 ·rw[dB0]
  simp(disch:=first|omega|(apply id;simp only[push_cast];try omega))only[push_cast,simprocAttr,hA,hil]
  exact cM2 G ha hb (stsV w) pa pb h ca cb hl1 hpa hpb han hR
theorem cN2 {a b:Tm} (ha:bB0 a∧qG 3 2 5 true a=true) (hb:bB0 b∧qG 3 2 5 true b=true) (pa pb:Nat) (h:jA) (ca:cells h pa=some (tmC a,etm,false)) (cb:cells h pb=some (tmC b,etm,false)) (hl1:h.lo=1) (hpa:1≤pa) (hpb:1≤pb) (han:pa<h.next) (hbn:pb<h.next) {R:Value→jA→Prop} (hR:∀ h',R (.bool true) h') {x0 x1 x2 x3 x4 x7 x8 x9 xA xB xC xD xE xF xG xH xI xJ xK xL xM xN xO xP xQ xR xS xT xU xV xW xX xY xZ yA yB yC yD yE yF yG yH yI yJ yK yL yM yN yO yP yQ yR yS yT yU yV yW yX yY yZ zA zB zC zD zF zG zH zI zJ zK zL zM zN zO zP zQ zR zS zU zV zW zX zY zZ wA wB wC wD wE wF wG wH wI wJ wK wL wM wN wO wP wQ wR wT wU wV wW wX wY wZ uA uB uC:Value} :
  dc3 (pp G) qq none bG ⟨(bL x0 x1 x2 x3 x4 (.pointer (some ⟨pa,0,none⟩)) (.pointer (some ⟨pb,0,none⟩)) x7 x8 x9 xA xB xC xD xE xF xG xH xI xJ xK xL xM xN xO xP xQ xR xS xT xU xV xW xX xY xZ yA yB yC yD yE yF yG yH yI yJ yK yL yM yN yO yP yQ yR yS yT yU yV yW yX yY yZ zA zB zC zD zF zG zH zI zJ zK zL zM zN zO zP zQ zR zS zU zV zW zX zY zZ wA wB wC wD wE wF wG wH wI wJ wK wL wM wN wO wP wQ wR wT wU wV wW wX wY wZ uA uB uC),[],h⟩ (@kR ⟨jH prog [.tmp 4] R⟩):=by
 have hBa:=dZ1 (t:=a) (by have:=ha.1.2.2;omega)
 have hBb:=dZ1 (t:=b) (by have:=hb.1.2.2;omega)
 have hA:∀ l:List St,stsV l=Rw false 60 l.length (stCs l):=fun _=>rfl
 have htv:∀ x:Tm,Value.agg ⟨tmC x⟩=tmV x:=fun _=>rfl
 have hsz:uY (.mk 11 0 0 [] zE [a,b])≤100000:=by
  have h1:=ha.1.2.2
  have h2:=hb.1.2.2
  simp only[uY,uU];omega
 rw[qW1]
 simp(disch:=first|omega|(apply id;simp only[push_cast];try omega))only[push_cast,simprocAttr,ca,cb,hl1,kX,jI0,htv]
 refine jC.dataI (en_f G ha.1) (by and_intros<;>first|rfl|(simp(disch:=first|omega|(apply id;simp only[push_cast];try omega))only[push_cast])) ?_
 simp(disch:=first|omega|(apply id;simp only[push_cast];try omega))only[push_cast,simprocAttr,ca,cb,hl1,kX,jI0,htv]
 refine jC.dataI (en_f G hb.1) (by and_intros<;>first|rfl|(simp(disch:=first|omega|(apply id;simp only[push_cast];try omega))only[push_cast])) ?_
 simp(disch:=first|omega|(apply id;simp only[push_cast];try omega))only[push_cast,simprocAttr,ca,cb,hl1,kX,jI0,htv,↓cH0]
 refine jC.data (fD2 G (sm2 11 ha.1.1 hb.1.1) hsz) (.cons (cR0 rfl 11 0 0 [] (l:=[a,b]) rfl (.ids (gU _ (by decide) _))) .nil) (by first|rfl|(simp(disch:=first|omega|(apply id;simp only[push_cast];try omega))only[push_cast])) (by first|rfl|(simp(disch:=first|omega|(apply id;simp only[push_cast];try omega))only[push_cast])) ?_
 have he:=fG2 (no_n ha.2) (no_n hb.2)
 have hwl:(enF (.mk 11 0 0 [] zE [a,b])).length=(enF a).length+(enF b).length:=by rw[he,List.length_append,List.length_map,List.length_map]
 generalize enF (.mk 11 0 0 [] zE [a,b])=w at he hwl ⊢
 have hwr:IntKind.i64.wrap (((enF a).length:Int)+(enF b).length)=w.length:=(W_id (by omega)).trans (by omega)
 simp(disch:=first|omega|(apply id;simp only[push_cast];try omega))only[push_cast,simprocAttr,hA,hwr,bne_self_eq_false]
 exact lN1 G ha.1 hb.1 w he pa pb hpa hpb hR (I12.mk 0 0 h rfl (Nat.zero_le _) ca cb hl1 han hbn)
theorem par_law (r s:Rb) (hr:smB r=true) (hs:smB s=true):jN (pp G) H0 12 [rbV r,rbV s] (.bool true):=by
 have hlo:H0.lo≤H0.next:=Nat.le_refl _;refine jN.cut (jI.fir4 (q:=qq) (jR G) fir12 (by kernel_rfl) rfl rfl (sF1 ..) (show NGG≤H0.lo by rw[qQ];decide) ?_);rw[uZ2]
 simp(disch:=first|omega|(apply id;simp only[push_cast];try omega))only[push_cast,simprocAttr]
 refine jC.dataI (mB1 G) (by and_intros<;>first|rfl|(simp(disch:=first|omega|(apply id;simp only[push_cast];try omega))only[push_cast])) ?_
 have hcl:∀ x:Rb,(rbV x).cells.toList=rbC x:=fun _=>rfl
 have hone:=nZ0
 have hlen:=cK
 have htk:∀ r:Rb,(rbC r).take 5=rbC r:=fun r=>List.take_of_length_le (by rw[cK];exact Nat.le_refl _)
 simp(disch:=first|omega|(apply id;simp only[push_cast];try omega))only[push_cast,simprocAttr,hcl,hone,hlen,htk,↓bS2]
 refine jC.data (eL2 G 0 0 [r,s] (by simp) (by simp[smBs,hr,hs])) (eK2 G _ (by decide) _ [r,s]) (by first|rfl|(simp(disch:=first|omega|(apply id;simp only[push_cast];try omega))only[push_cast])) (by first|rfl|(simp(disch:=first|omega|(apply id;simp only[push_cast];try omega))only[push_cast])) ?_
 cases hf:fewB [r,s] with
 | false=>simp(disch:=first|omega|(apply id;simp only[push_cast];try omega))only[push_cast,simprocAttr,Bool.not_false];exact .id rfl
 | true=>
 simp(disch:=first|omega|(apply id;simp only[push_cast];try omega))only[push_cast,simprocAttr,Bool.not_true]
 have htc:∀ x:Tm,(tmV x).cells.toList=tmC x:=fun _=>rfl
 repeat' apply And.intro
 all_goals
  refine jC.dataEI (gL1 G r hr) (by and_intros<;>first|rfl|(simp(disch:=first|omega|(apply id;simp only[push_cast];try omega))only[push_cast])) ?_
  rintro _ ⟨a,rfl,ha⟩
  refine ⟨by simp(disch:=first|omega|(apply id;simp only[push_cast];try omega))only[push_cast,simprocAttr];first|done|rfl,?_⟩
  simp(disch:=first|omega|(apply id;simp only[push_cast];try omega))only[push_cast,simprocAttr,hcl,hone,hlen,htk,htc,kX,eA0,jI0]
  repeat' apply And.intro
 all_goals
  refine jC.dataEI (gL1 G s hs) (by and_intros<;>first|rfl|(simp(disch:=first|omega|(apply id;simp only[push_cast];try omega))only[push_cast])) ?_
  rintro _ ⟨b,rfl,hb⟩
  refine ⟨by simp(disch:=first|omega|(apply id;simp only[push_cast];try omega))only[push_cast,simprocAttr];first|done|rfl,?_⟩
  simp(disch:=first|omega|(apply id;simp only[push_cast];try omega))only[push_cast,simprocAttr,hcl,hone,hlen,htk,htc,kX,eA0,jI0]
  repeat' apply And.intro
 all_goals
  refine cN2 G ha hb _ _ _ ?_ ?_ ?_ ?_ ?_ ?_ ?_ (fun h'=>.id rfl)
  ·simp(disch:=first|omega|(apply id;simp only[push_cast];try omega))only[push_cast,simprocAttr]
  ·simp(disch:=first|omega|(apply id;simp only[push_cast];try omega))only[push_cast,simprocAttr]
  ·first|rfl|simp(disch:=first|omega|(apply id;simp only[push_cast];try omega))only[push_cast,simprocAttr]
  ·decide
  ·decide
  ·first|(simp(disch:=first|omega|(apply id;simp only[push_cast];try omega))only[push_cast,simprocAttr];done)|(simp(disch:=first|omega|(apply id;simp only[push_cast];try omega))only[push_cast,simprocAttr];omega)
  ·first|(simp(disch:=first|omega|(apply id;simp only[push_cast];try omega))only[push_cast,simprocAttr];done)|(simp(disch:=first|omega|(apply id;simp only[push_cast];try omega))only[push_cast,simprocAttr];omega)
end
end Go.Proofs.Ytgeakofgklcipaa
namespace Go.Proofs.Ytgeakofgklcipaa
open _root_.Go.Proofs.Try (prog)
open Go Go.RowKit Go.Ev Go.Dv
noncomputable section
set_option maxRecDepth 100000
section
variable {w:World} {H:Type} {enc:TypeId×Value→H}
theorem zV1:prog.underlying eI=some (.int .i64):=by kernel_rfl
theorem gS2:prog.underlying 36=some (.slice era):=by kernel_rfl
theorem u_rbs:prog.underlying 22=some (.slice erb):=by kernel_rfl
theorem f_raw:fieldsB prog era [(eI,0),(eI,1),(36,2)]=true:=by kernel_rfl
theorem f_rb:fieldsB prog erb [(eI,0),(eI,1),(eI,2),(36,3),(22,4)]=true:=by kernel_rfl
theorem lD0:∀ l:List Ra,l.flatMap raC=raCs l
 | []=>rfl
 | x :: l=>by rw[List.flatMap_cons,lD0 l,raCs]
theorem lB0:∀ l:List Rb,l.flatMap rbC=rbCs l
 | []=>rfl
 | x :: l=>by rw[List.flatMap_cons,lB0 l,rbCs]
theorem kN1:∀ {l:List Ra},(∀ x∈l,smR x=true)→smRs l=true
 | [],_=>rfl
 | x :: l,h=>by rw[smRs,h x (by simp),kN1 fun y hy=>h y (by simp[hy])];rfl
theorem kU1:∀ {l:List Rb},(∀ x∈l,smB x=true)→smBs l=true
 | [],_=>rfl
 | x :: l,h=>by rw[smBs,h x (by simp),kU1 fun y hy=>h y (by simp[hy])];rfl
theorem lP1:∀ (fuel:Nat) {cs:List Value} {x:DataW H×List MemPlace},DataW.trod enc prog w 0 (fun _=>true) true fuel 36 cs=some x→(x.1.weights prog 36).all (·≤reachBytes)=true→
  ∃ l:List Ra,Go.Dv.Op prog 1 LL w [rasV l] cs∧smRs l=true∧l.length<1000000000000000:=by
 intro fuel
 induction fuel using Nat.strongRecOn with
 | ind fuel ih=>
 intro cs x h hw
 obtain ⟨l,h1,h2,h3⟩:=open_slice (n:=1) (L:=LL) gS2 (size:=3) (by kernel_rfl) (by kernel_rfl) (by omega) (of_decide_eq_true (by kernel_rfl)) raC (fun r=>smR r=true) h hw fun k c y hk hy hwy=>by
  obtain ⟨k',hk',hl,hfs⟩:=gQ0 f_raw hy hwy
  rw[show prog.cellsOf era=3 by kernel_rfl] at hl
  match c,hl with
  | [a,b,d],_=>
   obtain ⟨y0,t0,_⟩:=hfs 0 _ _ rfl
   obtain ⟨y1,t1,_⟩:=hfs 1 _ _ rfl
   obtain ⟨y2,t2,w2⟩:=hfs 2 _ _ rfl
   rw[show prog.cellsOf eI=1 by kernel_rfl] at t0 t1
   rw[show prog.cellsOf 36=1 by kernel_rfl] at t2
   obtain ⟨m0,e0,o0,_⟩:=zG0 (n:=1) (L:=LL) zV1 t0
   obtain ⟨m1,e1,o1,_⟩:=zG0 (n:=1) (L:=LL) zV1 t1
   obtain ⟨l2,o2,s2,n2⟩:=ih k' (by omega) t2 w2
   refine ⟨.mk m0 m1 l2,?_,?_⟩
   ·exact (o0.append o1).append o2
   ·simp only[smR,s2,Bool.and_true,decide_eq_true_eq];exact n2
 rw[lD0] at h1
 exact ⟨l,h1,kN1 h2,h3⟩
theorem dF0 (fuel:Nat) (ih:∀ k,k<fuel→∀ {cs:List Value} {x:DataW H×List MemPlace},DataW.trod enc prog w 0 (fun _=>true) true k 22 cs=some x→(x.1.weights prog 22).all (·≤reachBytes)=true→
   ∃ l:List Rb,Go.Dv.Op prog 1 LL w [rbsV l] cs∧smBs l=true∧l.length<1000000000000000)
  {c:List Value} {y:DataW H×List MemPlace} (hy:DataW.trod enc prog w 0 (fun _=>true) true fuel erb c=some y) (hwy:(y.1.weights prog erb).all (·≤reachBytes)=true) :
  ∃ r:Rb,Go.Dv.Op prog 1 LL w (rbC r) c∧smB r=true:=by
 obtain ⟨k',hk',hl,hfs⟩:=gQ0 f_rb hy hwy
 rw[show prog.cellsOf erb=5 by kernel_rfl] at hl
 match c,hl with
 | [a,b,d,e,f],_=>
  obtain ⟨y0,t0,_⟩:=hfs 0 _ _ rfl
  obtain ⟨y1,t1,_⟩:=hfs 1 _ _ rfl
  obtain ⟨y2,t2,_⟩:=hfs 2 _ _ rfl
  obtain ⟨y3,t3,w3⟩:=hfs 3 _ _ rfl
  obtain ⟨y4,t4,w4⟩:=hfs 4 _ _ rfl
  rw[show prog.cellsOf eI=1 by kernel_rfl] at t0 t1 t2
  rw[show prog.cellsOf 36=1 by kernel_rfl] at t3
  rw[show prog.cellsOf 22=1 by kernel_rfl] at t4
  obtain ⟨m0,e0,o0,_⟩:=zG0 (n:=1) (L:=LL) zV1 t0
  obtain ⟨m1,e1,o1,_⟩:=zG0 (n:=1) (L:=LL) zV1 t1
  obtain ⟨m2,e2,o2,_⟩:=zG0 (n:=1) (L:=LL) zV1 t2
  obtain ⟨l3,o3,s3,n3⟩:=lP1 k' t3 w3
  obtain ⟨l4,o4,s4,n4⟩:=ih k' (by omega) t4 w4
  refine ⟨.mk m0 m1 m2 l3 l4,?_,?_⟩
  ·exact (((o0.append o1).append o2).append o3).append o4
  ·simp only[smB,s3,s4,Bool.and_true,Bool.and_eq_true,decide_eq_true_eq];exact ⟨n4,n3⟩
theorem lO1:∀ (fuel:Nat) {cs:List Value} {x:DataW H×List MemPlace},DataW.trod enc prog w 0 (fun _=>true) true fuel 22 cs=some x→(x.1.weights prog 22).all (·≤reachBytes)=true→
  ∃ l:List Rb,Go.Dv.Op prog 1 LL w [rbsV l] cs∧smBs l=true∧l.length<1000000000000000:=by
 intro fuel
 induction fuel using Nat.strongRecOn with
 | ind fuel ih=>
 intro cs x h hw
 obtain ⟨l,h1,h2,h3⟩:=open_slice (n:=1) (L:=LL) u_rbs (size:=5) (by kernel_rfl) (by kernel_rfl) (by omega) (of_decide_eq_true (by kernel_rfl)) rbC (fun r=>smB r=true) h hw fun k c y hk hy hwy=>
  dF0 k (fun k' hk'=>ih k' (by omega)) hy hwy
 rw[lB0] at h1
 exact ⟨l,h1,kU1 h2,h3⟩
theorem open_rb (fuel:Nat) {c:List Value} {y:DataW H×List MemPlace} (hy:DataW.trod enc prog w 0 (fun _=>true) true fuel erb c=some y) (hwy:(y.1.weights prog erb).all (·≤reachBytes)=true) :
  ∃ r:Rb,Go.Dv.Op prog 1 LL w (rbC r) c∧smB r=true:=dF0 fuel (fun k _=>lO1 k) hy hwy
end
end
end Go.Proofs.Ytgeakofgklcipaa
namespace Go.Proofs.Ytgeakofgklcipaa
open _root_.Go.Proofs.Try (prog)
open Go Go.RowKit Go.Ev Go.Dv
noncomputable section
@[reducible] def witB:Value:=.agg ⟨[.int .i64 0,.int .i64 0,.int .i64 0,.slice none 0 0,.slice none 0 0]⟩
end
end Go.Proofs.Ytgeakofgklcipaa
