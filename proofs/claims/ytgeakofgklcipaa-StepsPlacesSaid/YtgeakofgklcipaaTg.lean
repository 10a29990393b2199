/-
  A part of the proof: what the program's functions hand back,as theorems. No condition but those that each theorem names.
-/
import Derived.Test.YtgeakofgklcipaaTf
import Derived.Test.YtgeakofgklcipaaTa
import Derived.Test.YtgeakofgklcipaaEvd
import Derived.Test.YtgeakofgklcipaaExd
import Derived.Test.YtgeakofgklcipaaTe
import Derived.Test.YtgeakofgklcipaaTb
set_option linter.unusedSimpArgs false
set_option linter.unusedVariables false
namespace Go.Proofs.Ytgeakofgklcipaa
open _root_.Go.Proofs.Try (prog)
open Go Go.RowKit Go.Ev Go.Dv
noncomputable section
set_option maxRecDepth 100000
variable (G:Nat×Nat)
theorem eH2 (N:Nat) (hN:0<N) (σ:jA) (l:List Rb):FzL (pp G).P N σ [.agg ⟨[.int .i64 0,.int .i64 0,Rw true erb l.length (rbCs l)]⟩] [shV 0 0 l]:=
 .cons (.agg (.cons (.id rfl) (.cons (.id rfl) (.cons (.row (.ids (gL0 _ hN _))) .nil)))) .nil
theorem zI2 (r:Rb) (w:Int) (hr:smB r=true):kJ (pp G) H0 22 [rbV r,.int .i64 w] (fun d=>∃ y,d=tmV y∧oM0 y):=
 fun g h vs hP hrr hv=>(zH2 G r w hr g h vs hP hrr hv).mono fun u h' ⟨d,g',⟨y,e,hs,hy⟩,x⟩=>⟨d,g',⟨y,e,gP1 hs hy⟩,x⟩
inductive I23 (a b:List Int):Nat→S→Prop
 | mk (i:Nat) (iv:Int) (h:jA) {x2 x3 x4 x6 x7 x8 x9 xA xB xC xD xE xF xG xH xI xJ xK xL xM xN xO xP:Value} (hiv:iv=(i:Int)) (hi:i≤a.length) (he:∀ j,j<i→a.getD j 0=b.getD j 0) (hl1:h.lo=1) (hl2:1≤h.next) :
  I23 a b (a.length-i) ⟨(F26 (ivV a) (ivV b) x2 x3 x4 (.int .i64 iv) x6 x7 x8 x9 xA xB xC xD xE xF xG xH xI xJ xK xL xM xN xO xP),[],h⟩
theorem dF2 (a b:List Int) (ha:a.length<1000000000000) (hb:b.length<1000000000000):jM (pp G) H0 42 [ivV a,ivV b] (.bool (decide (a=b))):=by
 have hlo:H0.lo≤H0.next:=Nat.le_refl _;refine jM.cut (jH.fir4 (q:=qq) (jP G) fir42 (by kernel_rfl) rfl rfl (gH2 ..) (show NGG≤H0.lo by rw[qN];decide) ?_);rw[uV2]
 have hA:ivV a=Rw false eI a.length (ivs a):=rfl
 have hB:ivV b=Rw false eI b.length (ivs b):=rfl
 by_cases hl:a.length=b.length
 rotate_left
 ·rw[decide_eq_false (fun e=>hl (by rw[e]))]
  have hl':¬ (a.length:Int)=b.length:=by omega
  simp(disch:=first|omega|(apply id;simp only[push_cast];try omega))only[push_cast,simprocAttr,hA,hB,hl']
  exact .id rfl
 have hl':(a.length:Int)=b.length:=by omega
 simp(disch:=first|omega|(apply id;simp only[push_cast];try omega))only[push_cast,simprocAttr,hA,hB,hl']
 rw[← hA,← hB]
 refine WD.loop4 (q:=qq) (jP G) (by kernel_rfl) (I23 a b) ?_ _ _ (I23.mk 0 0 _ rfl (Nat.zero_le _) (fun j hj=>by omega) rfl (by first|assumption|(simp(disch:=first|omega|(apply id;simp only[push_cast];try omega))only[push_cast,simprocAttr];try omega)))
 intro m s1 hI
 cases hI with|mk i iv h hiv hi he hl1 hl2=>
 subst hiv
 rw[qO1]
 by_cases hil:(i:Int)<a.length
 ·have hilb:(i:Int)<b.length:=by omega
  have g1:=yS0 (l:=a) (i:=i) (by omega)
  have g2:=yS0 (l:=b) (i:=i) (by omega)
  by_cases hx:a.getD i 0=b.getD i 0
  ·simp(disch:=first|omega|(apply id;simp only[push_cast];try omega))only[push_cast,simprocAttr,hA,hB,hil,hilb,g1,g2,hx,Int.toNat_natCast]
   rw[← hA,← hB]
   exact ⟨_,by omega,I23.mk (i+1) _ _ (by first|rfl|omega) (by omega) (fun j hj=>by
    by_cases e:j=i
    ·subst e;exact hx
    ·exact he j (by omega)) (by first|assumption|(simp(disch:=first|omega|(apply id;simp only[push_cast];try omega))only[push_cast,simprocAttr,hl1];try omega)) (by first|assumption|(simp(disch:=first|omega|(apply id;simp only[push_cast];try omega))only[push_cast,simprocAttr];try omega))⟩
  ·rw[decide_eq_false (fun e=>hx (by rw[e]))]
   simp(disch:=first|omega|(apply id;simp only[push_cast];try omega))only[push_cast,simprocAttr,hA,hB,hil,hilb,g1,g2,hx,Int.toNat_natCast]
   exact .id rfl
 ·simp(disch:=first|omega|(apply id;simp only[push_cast];try omega))only[push_cast,simprocAttr,hA,hB,hil]
  rw[qN1]
  rw[decide_eq_true (List.ext_getElem hl fun j h1 h2=>by
   have:=he j (by omega)
   rw[List.getD_eq_getElem?_getD,List.getD_eq_getElem?_getD,List.getElem?_eq_getElem h1,List.getElem?_eq_getElem h2] at this
   exact this)]
  simp(disch:=first|omega|(apply id;simp only[push_cast];try omega))only[push_cast,simprocAttr]
  exact .id rfl
mutual
theorem iB0:∀ x:Tm,((gO x).length:Int)≤kM x
 | .mk k a b s e l=>by
  rw[gO,kM]
  have hL:=sX0 l
  have hH:=oL1 l
  have hp:=jA0 l
  split
  ·rw[List.length_cons];omega
  ·split
   ·rw[List.length_cons];omega
   ·simp;omega
theorem sX0:∀ l:List Tm,((gU l).length:Int)≤uZ l
 | []=>by simp[gU,uZ]
 | x :: l=>by rw[gU,uZ,List.length_append];have:=iB0 x;have:=sX0 l;omega
theorem oL1:∀ l:List Tm,((actH l).length:Int)≤uZ l
 | []=>by simp[actH,uZ]
 | x :: l=>by rw[actH,uZ];have:=iB0 x;have:=jA0 l;omega
end
structure NmOk (t n:Tm):Prop where
 i:jV n=n
 z:kM n≤kM t
 r:∀ q,qR 3 2 5 q t=true→qR 3 2 5 q n=true
 s:smT t=true→smT n=true
theorem NmOk.of_eq {t:Tm} (h:jV t=t):NmOk t (jV t):=by
 rw[h];exact ⟨h,Int.le_refl _,fun _ h=>h,fun h=>h⟩
theorem nm_z (t:Tm):NmOk t zT:=⟨rfl,by have:=jP0 t;show 1≤_;omega,fun q _=>by cases q<;>decide,fun _=>rfl⟩
theorem wH2 {q:Bool} {k a b:Int} {s:List UInt8} {e:Ex} {x x':Tm} (hx:∀ q,qR 3 2 5 q x=true→qR 3 2 5 q x'=true) (h:qR 3 2 5 q (.mk k a b s e [x])=true):qR 3 2 5 q (.mk k a b s e [x'])=true:=by
 simp only[qR,bV,Bool.and_eq_true,List.length_singleton] at h ⊢
 exact ⟨h.1,h.2.1,h.2.2.1,h.2.2.2.1,h.2.2.2.2.1,h.2.2.2.2.2.1,h.2.2.2.2.2.2.1,hx _ h.2.2.2.2.2.2.2.1,trivial⟩
theorem yS1 {q:Bool} {k a b:Int} {s:List UInt8} {e:Ex} {x x' y y':Tm} (hx:∀ q,qR 3 2 5 q x=true→qR 3 2 5 q x'=true) (hy:∀ q,qR 3 2 5 q y=true→qR 3 2 5 q y'=true) (h:qR 3 2 5 q (.mk k a b s e [x,y])=true):qR 3 2 5 q (.mk k a b s e [x',y'])=true:=by
 simp only[qR,bV,Bool.and_eq_true,List.length_cons,List.length_nil] at h ⊢
 exact ⟨h.1,h.2.1,h.2.2.1,h.2.2.2.1,h.2.2.2.2.1,h.2.2.2.2.2.1,h.2.2.2.2.2.2.1,hx _ h.2.2.2.2.2.2.2.1,hy _ h.2.2.2.2.2.2.2.2.1,trivial⟩
theorem yR1 {q:Bool} {a b:Int} {s:List UInt8} {e:Ex} {x y:Tm} (h:qR 3 2 5 q (.mk 12 a b s e [x,y])=true):qR 3 2 5 q y=true:=by
 simp only[qR,bV,Bool.and_eq_true] at h
 have:=h.2.2.2.2.2.2.2.2.1
 cases q<;>exact this
theorem sm_1 {k a b:Int} {s:List UInt8} {e:Ex} {x x':Tm} (hx:smT x=true→smT x'=true) (h:smT (.mk k a b s e [x])=true):smT (.mk k a b s e [x'])=true:=by
 simp only[smT,smTs,Bool.and_eq_true,List.length_singleton] at h ⊢
 exact ⟨h.1,hx h.2.1,trivial⟩
theorem sm_2 {k a b:Int} {s:List UInt8} {e:Ex} {x x' y y':Tm} (hx:smT x=true→smT x'=true) (hy:smT y=true→smT y'=true) (h:smT (.mk k a b s e [x,y])=true):smT (.mk k a b s e [x',y'])=true:=by
 simp only[smT,smTs,Bool.and_eq_true,List.length_cons,List.length_nil] at h ⊢
 exact ⟨h.1,hx h.2.1,hy h.2.2.1,trivial⟩
theorem sz1 (k a b:Int) (s:List UInt8) (e:Ex) (x:Tm):kM (.mk k a b s e [x])=1+kM x:=by simp[kM,uZ]
theorem sz2 (k a b:Int) (s:List UInt8) (e:Ex) (x y:Tm):kM (.mk k a b s e [x,y])=1+(kM x+kM y):=by simp[kM,uZ]
theorem wJ0:∀ t:Tm,NmOk t (jV t)
 | .mk k a b s e [x,y]=>by
  have hx:=wJ0 x
  have hy:=wJ0 y
  rw[jV]
  by_cases h12:k=12
  ·subst h12
   rw[if_pos rfl]
   by_cases h0:(jV x).k=0
   ·rw[if_pos h0]
    refine ⟨hy.i,?_,fun q h=>hy.r q (yR1 h),fun h=>hy.s ?_⟩
    ·rw[sz2];have:=hy.z;have:=jP0 x;omega
    ·simp only[smT,smTs,Bool.and_eq_true] at h;exact h.2.2.1
   ·rw[if_neg h0]
    refine ⟨?_,?_,fun q h=>yS1 hx.r (fun _ h=>h) h,sm_2 hx.s fun h=>h⟩
    ·rw[jV,if_pos rfl,hx.i,if_neg h0]
    ·rw[sz2,sz2];have:=hx.z;omega
  rw[if_neg h12]
  by_cases h11:k=11
  ·subst h11
   rw[if_pos rfl]
   by_cases h0:(jV x).k=0∧(jV y).k=0
   ·rw[if_pos h0];exact nm_z _
   ·rw[if_neg h0]
    refine ⟨?_,?_,fun q h=>yS1 hx.r hy.r h,sm_2 hx.s hy.s⟩
    ·rw[jV,if_neg (by decide),if_pos rfl,hx.i,hy.i,if_neg h0]
    ·rw[sz2,sz2];have:=hx.z;have:=hy.z;omega
  rw[if_neg h11]
  exact ⟨by rw[jV,if_neg h12,if_neg h11],Int.le_refl _,fun _ h=>h,fun h=>h⟩
 | .mk k a b s e [x]=>by
  have hx:=wJ0 x
  rw[jV]
  by_cases h7:k=7
  ·subst h7
   rw[if_pos rfl]
   by_cases h0:(jV x).k=0
   ·rw[if_pos h0];exact nm_z _
   ·rw[if_neg h0]
    refine ⟨?_,?_,fun q h=>wH2 hx.r h,sm_1 hx.s⟩
    ·rw[jV,if_pos rfl,hx.i,if_neg h0]
    ·rw[sz1,sz1];have:=hx.z;omega
  rw[if_neg h7]
  exact ⟨by rw[jV,if_neg h7],Int.le_refl _,fun _ h=>h,fun h=>h⟩
 | .mk k a b s e []=>.of_eq rfl
 | .mk k a b s e (x :: y :: z :: l)=>.of_eq rfl
 termination_by t=>SizeOf.sizeOf t
theorem en_f {t:Tm} (h:oM0 t):jM (pp G) H0 39 [tmV t] (stsV (enF t)):=by
 have hk:=wJ0 t
 have h1:=iB0 (jV t)
 have h2:=hk.z
 have h3:=h.2.2
 exact eF1 G t h.1 (hk.s h.1) (by omega)
theorem eC0 (x:St):(stC x).length=3:=rfl
theorem rK0:∀ l:List St,(stCs l).length=l.length*3
 | []=>rfl
 | x :: l=>by rw[stCs,List.length_append,rK0 l,eC0,List.length_cons];omega
theorem eB0 {l:List St} {i:Nat} {x:St} (h:l[i]?=some x) (j:Nat) (hj:j<3):(stCs l)[i*3+j]?=(stC x)[j]?:=by
 induction l generalizing i with
 | nil=>cases h
 | cons y l ih=>
  rw[stCs]
  cases i with
  | zero=>
   cases h
   rw[Nat.zero_mul,Nat.zero_add,List.getElem?_append_left (by rw[eC0];exact hj)]
  | succ i=>
   rw[List.getElem?_append_right (by rw[eC0];omega),eC0,show (i+1)*3+j-3=i*3+j by omega]
   exact ih h
theorem bJ2 {l:List St} {i:Nat} {x:St} (h:l[i]?=some x):(stCs l)[i*3]?=some (.int .i64 x.k):=eB0 h 0 (by omega)
theorem rJ0 {l:List St} {i:Nat} {x:St} (h:l[i]?=some x):(stCs l)[i*3+1]?=some (ivV x.p):=eB0 h 1 (by omega)
theorem kO1 {l:List St} {i:Nat} {x:St} (h:l[i]?=some x):(stCs l)[i*3+2]?=some (.int .i64 x.a):=eB0 h 2 (by omega)
attribute [push_cast] rK0
theorem rG0 {P:Program} {N:Nat} {σ:jA} (h1:szT P eE=some 4) (k a b:Int) (s:List UInt8) {f:Bool} {cs:List Value} {n:Nat} {l:List Tm} (hn:n=l.length) (hc:FzL P N σ cs (uY l)) :
  FzV P N σ (.agg ⟨[.int .i64 k,.int .i64 a,.int .i64 b,.string (Tx s),.int .i64 0,.int .i64 0,.string (Tx []),.slice none 0 0,Rw f etm n cs]⟩) (tmV (.mk k a b s zE l)):=by
 subst hn
 exact .agg (.cons (.id rfl) (.cons (.id rfl) (.cons (.id rfl) (.cons (.id rfl) (.cons (.id rfl) (.cons (.id rfl) (.cons (.id rfl) (.cons (.nil (size:=4) h1 (by decide)) (.cons (.row hc) .nil)))))))))
def actN (k:Int):Nat:=if k=12∨k=7 then 1 else if k=11 then 2 else 0
theorem mM0 (t:Tm):jM (pp G) H0 41 [tmV t] (.int .i64 (actN t.k)):=by
 obtain ⟨k,a,b,s,e,l⟩:=t
 have hlo:H0.lo≤H0.next:=Nat.le_refl _;refine jM.cut (jH.fir4 (q:=qq) (jP G) fir41 (by kernel_rfl) rfl rfl (gL2 ..) (show NGG≤H0.lo by rw[qN];decide) ?_);rw[uW2]
 rw[Tm.k_mk]
 unfold actN
 by_cases h12:k=12
 ·rw[if_pos (.inl h12)]
  simp(disch:=first|omega|(apply id;simp only[push_cast];try omega))only[push_cast,simprocAttr,h12]
  rw[kA0]
  simp(disch:=first|omega|(apply id;simp only[push_cast];try omega))only[push_cast,simprocAttr]
  exact .id rfl
 by_cases h7:k=7
 ·rw[if_pos (.inr h7)]
  simp(disch:=first|omega|(apply id;simp only[push_cast];try omega))only[push_cast,simprocAttr,h12,h7]
  rw[kA0]
  simp(disch:=first|omega|(apply id;simp only[push_cast];try omega))only[push_cast,simprocAttr]
  exact .id rfl
 simp(disch:=first|omega|(apply id;simp only[push_cast];try omega))only[push_cast,simprocAttr,h12,h7]
 rw[kA0]
 rw[if_neg (by omega)]
 by_cases h11:k=11
 ·rw[if_pos h11]
  simp(disch:=first|omega|(apply id;simp only[push_cast];try omega))only[push_cast,simprocAttr,h11]
  exact .id rfl
 ·rw[if_neg h11]
  simp(disch:=first|omega|(apply id;simp only[push_cast];try omega))only[push_cast,simprocAttr,h11]
  rw[qP1]
  simp(disch:=first|omega|(apply id;simp only[push_cast];try omega))only[push_cast,simprocAttr]
  exact .id rfl
theorem bO2 {p:Bool} {k a b:Int} {s:List UInt8} {e:Ex} {l:List Tm} (h:qR 3 2 5 p (.mk k a b s e l)=true):(l.length:Int)=shL k∧∀ x∈l,qR 3 2 5 (p || decide (k=3)) x=true:=by
 rw[qR] at h
 simp only[Bool.and_eq_true,decide_eq_true_eq] at h
 exact ⟨h.2.2.2.2.1.2.2,gJ0 h.2.2.2.2.2.2.2⟩
theorem mN1 {e:Ex} (h:wE0 e=false):e=zE:=by
 obtain ⟨k,n,s,l⟩:=e
 unfold wE0 at h
 simp only[Bool.or_eq_false_iff,Bool.not_eq_false',decide_eq_true_eq,decide_eq_false_iff_not] at h
 obtain ⟨h1,h2,h3,h4⟩:=h
 have e1:k=0:=h1
 have e2:n=0:=h2
 have e3:s=[]:=h3
 have e4:l=[]:=by
  cases l with
  | nil=>rfl
  | cons x l=>exact absurd (Nat.zero_lt_succ _) h4
 subst e1 e2 e3 e4
 rfl
theorem bare {p:Bool} {k a b:Int} {s:List UInt8} {e:Ex} {l:List Tm} (hk:k=12∨k=11∨k=7) (h:qR 3 2 5 p (.mk k a b s e l)=true):a=0∧b=0∧s=[]∧e=zE:=by
 rw[qR] at h
 simp only[Bool.and_eq_true,decide_eq_true_eq] at h
 obtain ⟨_,_,h3,h4,⟨h5,h6,_⟩,_⟩:=h
 have hA:shA k=0:=by rcases hk with rfl|rfl|rfl<;>rfl
 have hB:shB k=0:=by rcases hk with rfl|rfl|rfl<;>rfl
 have hS:shN k=0:=by rcases hk with rfl|rfl|rfl<;>rfl
 have hE:shE k=0:=by rcases hk with rfl|rfl|rfl<;>rfl
 rw[hA] at h3
 rw[hB] at h4
 rw[hS] at h5
 rw[hE] at h6
 refine ⟨by simpa[cL0] using h3,by simpa[cL0] using h4,?_,mN1 ?_⟩
 ·by_cases hs:s=[]
  ·exact hs
  ·rw[if_neg hs] at h5;omega
 ·cases hg:wE0 e with
  | false=>rfl
  | true=>rw[if_pos hg] at h6;omega
set_option maxHeartbeats 2000000 in
theorem yQ1:∀ (x:Tm) (p:Bool),smT x=true→qR 3 2 5 p x=true→jM (pp G) H0 38 [tmV x] (tmV (jV x))
 | .mk k a b s e l,p,hs,hr=>by
  have hs0:=hs
  simp only[smT,Bool.and_eq_true,decide_eq_true_eq] at hs
  obtain ⟨⟨hll,hse⟩,hsl⟩:=hs
  obtain ⟨hL,hrs⟩:=bO2 hr
  have ih:∀ x∈l,jM (pp G) H0 38 [tmV x] (tmV (jV x)):=fun x hx=>yQ1 x _ (bH hsl x hx) (hrs x hx)
  have hbare:=fun hk=>bare hk hr
  by_cases h12:k=12
  ·subst h12
   obtain ⟨rfl,rfl,rfl,rfl⟩:=hbare (.inl rfl)
   obtain ⟨x,y,rfl⟩:∃ x y,l=[x,y]:=by
    match l,hL with
    | [x,y],_=>exact ⟨x,y,rfl⟩
   have hx:=ih x (by simp)
   have hy:=ih y (by simp)
   clear ih hs0 hr hbare hrs hsl
   have hlo:H0.lo≤H0.next:=Nat.le_refl _;refine jM.cut (jH.fir4 (q:=qq) (jP G) nA1 (by kernel_rfl) rfl rfl (iF0 ..) (show NGG≤H0.lo by rw[qN];decide) ?_);rw[eO0]
   rw[jV,if_pos rfl]
   simp(disch:=first|omega|(apply id;simp only[push_cast];try omega))only[push_cast,simprocAttr]
   refine jC.dataI (hx) (by and_intros<;>first|rfl|(simp(disch:=first|omega|(apply id;simp only[push_cast];try omega))only[push_cast])) ?_
   generalize jV x=x'
   by_cases h0:x'.k=0
   ·rw[if_pos h0]
    simp(disch:=first|omega|(apply id;simp only[push_cast];try omega))only[push_cast,simprocAttr,cD,h0]
    refine jC.dataI (hy) (by and_intros<;>first|rfl|(simp(disch:=first|omega|(apply id;simp only[push_cast];try omega))only[push_cast])) ?_
    simp(disch:=first|omega|(apply id;simp only[push_cast];try omega))only[push_cast,simprocAttr]
    exact .id (bC 1 (by decide) _)
   ·rw[if_neg (by exact h0)]
    simp(disch:=first|omega|(apply id;simp only[push_cast];try omega))only[push_cast,simprocAttr,cD,h0,↓iS0]
    exact rG0 rfl 12 0 0 [] (l:=[x',y]) rfl (.ids (bJ _ (by decide) _))
  by_cases h11:k=11
  ·subst h11
   obtain ⟨rfl,rfl,rfl,rfl⟩:=hbare (.inr (.inl rfl))
   obtain ⟨x,y,rfl⟩:∃ x y,l=[x,y]:=by
    match l,hL with
    | [x,y],_=>exact ⟨x,y,rfl⟩
   have hx:=ih x (by simp)
   have hy:=ih y (by simp)
   clear ih hs0 hr hbare hrs hsl
   have hlo:H0.lo≤H0.next:=Nat.le_refl _;refine jM.cut (jH.fir4 (q:=qq) (jP G) nA1 (by kernel_rfl) rfl rfl (iF0 ..) (show NGG≤H0.lo by rw[qN];decide) ?_);rw[eO0]
   rw[jV,if_neg (by omega),if_pos rfl]
   generalize jV x=x' at hx ⊢
   generalize jV y=y' at hy ⊢
   by_cases h0:x'.k=0
   ·by_cases h0':y'.k=0
    ·rw[if_pos ⟨h0,h0'⟩]
     simp(disch:=first|omega|(apply id;simp only[push_cast];try omega))only[push_cast,simprocAttr]
     all_goals repeat' apply And.intro
     all_goals
      refine jC.dataI (hx) (by and_intros<;>first|rfl|(simp(disch:=first|omega|(apply id;simp only[push_cast];try omega))only[push_cast])) ?_
      simp(disch:=first|omega|(apply id;simp only[push_cast];try omega))only[push_cast,simprocAttr]
     all_goals repeat' apply And.intro
     all_goals
      refine jC.dataI (hy) (by and_intros<;>first|rfl|(simp(disch:=first|omega|(apply id;simp only[push_cast];try omega))only[push_cast])) ?_
      simp(disch:=first|omega|(apply id;simp only[push_cast];try omega))only[push_cast,simprocAttr,cD,h0,h0',↓iS0]
     all_goals repeat' apply And.intro
     all_goals exact iB1 prog _ _
    ·rw[if_neg (fun h=>h0' h.2)]
     simp(disch:=first|omega|(apply id;simp only[push_cast];try omega))only[push_cast,simprocAttr]
     all_goals repeat' apply And.intro
     all_goals
      refine jC.dataI (hx) (by and_intros<;>first|rfl|(simp(disch:=first|omega|(apply id;simp only[push_cast];try omega))only[push_cast])) ?_
      simp(disch:=first|omega|(apply id;simp only[push_cast];try omega))only[push_cast,simprocAttr]
     all_goals repeat' apply And.intro
     all_goals
      refine jC.dataI (hy) (by and_intros<;>first|rfl|(simp(disch:=first|omega|(apply id;simp only[push_cast];try omega))only[push_cast])) ?_
      simp(disch:=first|omega|(apply id;simp only[push_cast];try omega))only[push_cast,simprocAttr,cD,h0,h0',↓iS0]
     all_goals repeat' apply And.intro
     all_goals exact rG0 rfl 11 0 0 [] (l:=[x',y']) rfl (.ids (bJ _ (by decide) _))
   ·rw[if_neg (fun h=>h0 h.1)]
    simp(disch:=first|omega|(apply id;simp only[push_cast];try omega))only[push_cast,simprocAttr]
    all_goals repeat' apply And.intro
    all_goals
     refine jC.dataI (hx) (by and_intros<;>first|rfl|(simp(disch:=first|omega|(apply id;simp only[push_cast];try omega))only[push_cast])) ?_
     simp(disch:=first|omega|(apply id;simp only[push_cast];try omega))only[push_cast,simprocAttr]
    all_goals repeat' apply And.intro
    all_goals
     refine jC.dataI (hy) (by and_intros<;>first|rfl|(simp(disch:=first|omega|(apply id;simp only[push_cast];try omega))only[push_cast])) ?_
     simp(disch:=first|omega|(apply id;simp only[push_cast];try omega))only[push_cast,simprocAttr,cD,h0,↓iS0]
    all_goals repeat' apply And.intro
    all_goals exact rG0 rfl 11 0 0 [] (l:=[x',y']) rfl (.ids (bJ _ (by decide) _))
  by_cases h7:k=7
  ·subst h7
   obtain ⟨rfl,rfl,rfl,rfl⟩:=hbare (.inr (.inr rfl))
   obtain ⟨x,rfl⟩:∃ x,l=[x]:=by
    match l,hL with
    | [x],_=>exact ⟨x,rfl⟩
   have hx:=ih x (by simp)
   clear ih hs0 hr hbare hrs hsl
   have hlo:H0.lo≤H0.next:=Nat.le_refl _;refine jM.cut (jH.fir4 (q:=qq) (jP G) nA1 (by kernel_rfl) rfl rfl (iF0 ..) (show NGG≤H0.lo by rw[qN];decide) ?_);rw[eO0]
   rw[jV,if_pos rfl]
   generalize jV x=x' at hx ⊢
   simp(disch:=first|omega|(apply id;simp only[push_cast];try omega))only[push_cast,simprocAttr]
   refine jC.dataI (hx) (by and_intros<;>first|rfl|(simp(disch:=first|omega|(apply id;simp only[push_cast];try omega))only[push_cast])) ?_
   by_cases h0:x'.k=0
   ·rw[if_pos h0]
    simp(disch:=first|omega|(apply id;simp only[push_cast];try omega))only[push_cast,simprocAttr,cD,h0]
    exact iB1 prog _ _
   ·rw[if_neg h0]
    simp(disch:=first|omega|(apply id;simp only[push_cast];try omega))only[push_cast,simprocAttr,cD,h0,↓uD1]
    exact rG0 rfl 7 0 0 [] (l:=[x']) rfl (.ids (bJ _ (by decide) _))
  have hn:jV (.mk k a b s e l)=.mk k a b s e l:=by
   unfold jV
   split
   ·rename_i e1;cases e1;rw[if_neg h12,if_neg h11]
   ·rename_i e1;cases e1;rw[if_neg h7]
   ·rename_i e1;cases e1;rfl
  rw[hn]
  have hlo:H0.lo≤H0.next:=Nat.le_refl _;refine jM.cut (jH.fir4 (q:=qq) (jP G) nA1 (by kernel_rfl) rfl rfl (iF0 ..) (show NGG≤H0.lo by rw[qN];decide) ?_);rw[eO0]
  simp(disch:=first|omega|(apply id;simp only[push_cast];try omega))only[push_cast,simprocAttr,h12,h11,h7]
  exact .id (bC 1 (by decide) (.mk k a b s e l))
 termination_by x=>SizeOf.sizeOf x
theorem rn_f {t:Tm} (h:oM0 t):jM (pp G) H0 38 [tmV t] (tmV (jV t)):=yQ1 G t false h.1 h.2.1
theorem yO0 (x:Sp) (l:List Sp):stS (x :: l)=stF x++stS l:=by simp[stS]
theorem gC0 (a b:List Sp):stS (a++b)=stS a++stS b:=by simp[stS]
theorem stF_p {x:St} {y:Sp} (h:x∈stF y):x.p=y.p:=by
 unfold stF at h
 split at h
 ·cases h
 split at h
 ·split at h
  ·simp at h;rw[h]
  ·cases h
 split at h
 ·simp at h;rcases h with rfl|rfl<;>rfl
 ·simp at h;rw[h]
mutual
theorem jW2:∀ (x u:Tm) (p:List Int),∀ y∈spT x u p,y.p.length+1≤p.length+(gO x).length
 | .mk k a b s e l,u,p,y,hy=>by
  rw[spT] at hy
  rw[gO,List.length_cons]
  rcases List.mem_cons.1 hy with rfl|hy
  ·show p.length+1≤_;omega
  by_cases h12:k=12
  ·rw[if_pos h12] at hy ⊢
   have:=spH_p l u p y hy;omega
  rw[if_neg h12] at hy ⊢
  by_cases h7:k=7
  ·rw[if_pos h7] at hy
   rw[if_pos (.inr h7)]
   have:=jX2 l _ p 0 y hy;omega
  rw[if_neg h7] at hy
  by_cases h11:k=11
  ·rw[if_pos h11] at hy
   rw[if_pos (.inl h11)]
   have:=jX2 l u p 0 y hy;omega
  ·rw[if_neg h11] at hy;cases hy
theorem jX2:∀ (l:List Tm) (u:Tm) (p:List Int) (j:Nat),∀ y∈spL l u p j,y.p.length≤p.length+(gU l).length
 | [],_,_,_,y,hy=>by cases hy
 | x :: l,u,p,j,y,hy=>by
  rw[spL] at hy
  rw[gU,List.length_append]
  rcases List.mem_append.1 hy with hy|hy
  ·have:=jW2 x u _ y hy;rw[List.length_append] at this;simp at this;omega
  ·have:=jX2 l u p (j+1) y hy;omega
theorem spH_p:∀ (l:List Tm) (u:Tm) (p:List Int),∀ y∈spH l u p,y.p.length≤p.length+(actH l).length
 | [],_,_,y,hy=>by cases hy
 | x :: l,u,p,y,hy=>by
  rw[spH] at hy
  rw[actH]
  have:=jW2 x u _ y hy;rw[List.length_append] at this;simp at this;omega
end
theorem enF_b {t:Tm} (hz:kM t≤100000):(enF t).length<1000000∧∀ x∈enF t,x.p.length<1000000:=by
 have hk:=wJ0 t
 have h1:=iB0 (jV t)
 have h2:=hk.z
 unfold enF
 refine ⟨?_,fun x hx=>?_⟩
 ·have h3:=eA0 (spT (jV t) (jV t) [])
  rw[gD0] at h3
  omega
 ·obtain ⟨y,hy,hxy⟩:=List.mem_flatMap.1 hx
  have h3:=jW2 _ _ _ y hy
  rw[stF_p hxy]
  simp at h3
  omega
def preS (q:List Int) (s:St):St:=⟨s.k,q++s.p,s.a⟩
theorem jT2 (q:List Int) (t u:Tm) (p:List Int):stF ⟨t,u,q++p⟩=(stF ⟨t,u,p⟩).map (preS q):=by
 unfold stF
 dsimp only
 split
 ·rfl
 split
 ·split<;>rfl
 split<;>rfl
mutual
theorem nH0 (q:List Int):∀ (x u:Tm) (p:List Int),stS (spT x u (q++p))=(stS (spT x u p)).map (preS q)
 | .mk k a b s e l,u,p=>by
  rw[spT,spT,yO0,yO0,List.map_append,jT2]
  congr 1
  by_cases h12:k=12
  ·rw[if_pos h12,if_pos h12];exact jY2 q l u p
  rw[if_neg h12,if_neg h12]
  by_cases h7:k=7
  ·rw[if_pos h7,if_pos h7];exact nI0 q l _ p 0
  rw[if_neg h7,if_neg h7]
  by_cases h11:k=11
  ·rw[if_pos h11,if_pos h11];exact nI0 q l u p 0
  ·rw[if_neg h11,if_neg h11];rfl
theorem nI0 (q:List Int):∀ (l:List Tm) (u:Tm) (p:List Int) (j:Nat),stS (spL l u (q++p) j)=(stS (spL l u p j)).map (preS q)
 | [],_,_,_=>rfl
 | x :: l,u,p,j=>by rw[spL,spL,gC0,gC0,List.map_append,List.append_assoc,nH0 q x,nI0 q l]
theorem jY2 (q:List Int):∀ (l:List Tm) (u:Tm) (p:List Int),stS (spH l u (q++p))=(stS (spH l u p)).map (preS q)
 | [],_,_=>rfl
 | x :: l,u,p=>by rw[spH,spH,List.append_assoc,nH0 q x]
end
def litB (a:Tm):Nat→List Value
 | 0=>tmC a
 | m+1=>[.int .i64 7,.int .i64 0,.int .i64 0,.string (Tx []),.int .i64 0,.int .i64 0,.string (Tx []),.slice none 0 0,Rw true etm 1 (litB a m)]
@[push_cast]theorem litB_c (a:Tm) (m:Nat):(Value.agg ⟨litB a m⟩).cells.toList=litB a m:=rfl
def rise (x y:St):Prop:=(x.p=y.p∧x.a=0∧y.a=1)∨∃ (q:List Int) (i j:Int) (r s:List Int),i<j∧x.p=q++i :: r∧y.p=q++j :: s
theorem kK1 {x u:Tm} {p:List Int} {s:St} (h:s∈stS (spT x u p)):∃ r,s.p=p++r:=by
 have:=nH0 p x u []
 rw[List.append_nil] at this
 rw[this] at h
 obtain ⟨y,_,rfl⟩:=List.mem_map.1 h
 exact ⟨y.p,rfl⟩
theorem kM1:∀ (l:List Tm) (u:Tm) (p:List Int) (j:Nat),∀ s∈stS (spL l u p j),∃ (i:Nat) (r:List Int),j≤i∧s.p=p++(i:Int) :: r
 | [],_,_,_,s,h=>by cases h
 | x :: l,u,p,j,s,h=>by
  rw[spL,gC0] at h
  rcases List.mem_append.1 h with h|h
  ·obtain ⟨r,hr⟩:=kK1 h
   exact ⟨j,r,Nat.le_refl _,by rw[hr,List.append_assoc];rfl⟩
  ·obtain ⟨i,r,h1,h2⟩:=kM1 l u p (j+1) s h
   exact ⟨i,r,by omega,h2⟩
mutual
theorem ascT:∀ (x u:Tm) (p:List Int),(stS (spT x u p)).Pairwise rise
 | .mk k a b s e l,u,p=>by
  rw[spT,yO0]
  by_cases h0:k=12∨k=7∨k=11
  ·have e:stF ⟨.mk k a b s e l,u,p⟩=[]:=by unfold stF;rw[if_pos (by show k=0∨k=14∨k=12∨k=11∨k=7;omega)]
   rw[e,List.nil_append]
   by_cases h12:k=12
   ·rw[if_pos h12];exact ascH l u p
   rw[if_neg h12]
   by_cases h7:k=7
   ·rw[if_pos h7];exact ascL l _ p 0
   ·rw[if_neg h7,if_pos (by omega)];exact ascL l u p 0
  ·rw[if_neg (by omega),if_neg (by omega),if_neg (by omega)]
   show (_++[]).Pairwise rise
   rw[List.append_nil]
   unfold stF
   split
   ·exact .nil
   split
   ·split
    ·exact List.pairwise_singleton _ _
    ·exact .nil
   split
   ·refine .cons (fun y hy=>?_) (List.pairwise_singleton _ _)
    simp at hy
    subst hy
    exact .inl ⟨rfl,rfl,rfl⟩
   ·exact List.pairwise_singleton _ _
theorem ascL:∀ (l:List Tm) (u:Tm) (p:List Int) (j:Nat),(stS (spL l u p j)).Pairwise rise
 | [],_,_,_=>.nil
 | x :: l,u,p,j=>by
  rw[spL,gC0,List.pairwise_append]
  refine ⟨ascT x u _,ascL l u p (j+1),fun y hy z hz=>.inr ?_⟩
  obtain ⟨r,hr⟩:=kK1 hy
  obtain ⟨i,s,h1,h2⟩:=kM1 l u p (j+1) z hz
  exact ⟨p,j,i,r,s,by omega,by rw[hr,List.append_assoc];rfl,h2⟩
theorem ascH:∀ (l:List Tm) (u:Tm) (p:List Int),(stS (spH l u p)).Pairwise rise
 | [],_,_=>.nil
 | x :: l,u,p=>by rw[spH];exact ascT x u _
end
inductive AtR:Tm→List Int→Tm→Prop
 | nil (t:Tm):AtR t [] t
 | cons {k a b:Int} {s:List UInt8} {e:Ex} {l:List Tm} {x y:Tm} {p:List Int} (j:Nat) (h1:j<actN k) (h2:l[j]?=some x) (h:AtR x p y):AtR (.mk k a b s e l) (j :: p) y
inductive I40 (p:List Int) (y:Tm):Nat→S→Prop
 | mk (i:Nat) (iv:Int) (t:Tm) (h:jA) {x0 x3 x5 x7 x8 x9 xA xB xC xD xE xF xG xH xI xJ xK xL xM xN xO xP xQ xR xS xT xU xV xW xX xY xZ yA:Value} (hiv:iv=(i:Int)) (hi:i≤p.length) (hr:AtR t (p.drop i) y) (c0:cells h 1=some (tmC t,etm,false)) (c1:cells h 2=some (ztm,etm,false)) (hl1:h.lo=1) (hl2:3≤h.next) :
  I40 p y (p.length-i) ⟨(F37 x0 (ivV p) (.pointer (some ⟨1,0,none⟩)) x3 (.pointer (some ⟨2,0,none⟩)) x5 (.int .i64 iv) x7 x8 x9 xA xB xC xD xE xF xG xH xI xJ xK xL xM xN xO xP xQ xR xS xT xU xV xW xX xY xZ yA),[],h⟩
theorem fT2 (t:Tm) (p:List Int) (y:Tm) (hr:AtR t p y) (hp:p.length<1000000):jM (pp G) H0 40 [tmV t,ivV p] (.tuple ⟨[tmV y,.bool true]⟩):=by
 have hlo:H0.lo≤H0.next:=Nat.le_refl _;refine jM.cut (jH.fir4 (q:=qq) (jP G) fir40 (by kernel_rfl) rfl rfl (pW0 ..) (show NGG≤H0.lo by rw[qN];decide) ?_);rw[uX2]
 have hcl:∀ x:Tm,(tmV x).cells.toList=tmC x:=fun _=>rfl
 have hV:∀ l:List Int,ivV l=Rw false eI l.length (ivs l):=fun _=>rfl
 simp(disch:=first|omega|(apply id;simp only[push_cast];try omega))only[push_cast,simprocAttr,hcl,gD,qS0]
 refine WD.loop4 (q:=qq) (jP G) (by kernel_rfl) (I40 p y) ?_ _ _ (I40.mk 0 0 t _ rfl (Nat.zero_le _) hr ?_ ?_ ?_ ?_)
 ·intro m s1 hI
  cases hI with|mk i iv t h hiv hi hr c0 c1 hl1 hl2=>
  subst hiv
  rw[qR1]
  by_cases hil:(i:Int)<p.length
  ·have gi:=yS0 (l:=p) (i:=i) (by omega)
   generalize hd:p.drop i=q at hr
   cases hr with
   | nil=>have:=congrArg List.length hd;simp at this;omega
   | cons j h1 h2 hr=>
   rename_i k a b s e l x q
   have hg:p.getD i 0=j:=by
    have:=List.getElem?_drop (xs:=p) (i:=i) (j:=0)
    rw[hd] at this
    rw[List.getD_eq_getElem?_getD,← Nat.add_zero i,← this];rfl
   have hq:p.drop (i+1)=q:=by rw[← List.drop_drop,hd];rfl
   rw[hg] at gi
   have hj0:¬ (j:Int)<0:=by omega
   have hjn:¬ ((actN k:Nat):Int)≤j:=by omega
   have hjl:j<l.length:=(List.getElem?_eq_some_iff.1 h2).1
   have hjl':(j:Int)<l.length:=by omega
   have hle:j*9+9≤l.length*9:=by omega
   have ht:=bY h2
   have hac:=mM0 G (.mk k a b s e l)
   unfold tmV at hac
   rw[jN0,Tm.k_mk] at hac
   simp(disch:=first|omega|(apply id;simp only[push_cast];try omega))only[push_cast,simprocAttr,hV,gi,hil,Int.toNat_natCast,c0,c1,hl1,hj0,jN0]
   refine jC.dataI (hac) (by and_intros<;>first|rfl|(simp(disch:=first|omega|(apply id;simp only[push_cast];try omega))only[push_cast])) ?_
   simp(disch:=first|omega|(apply id;simp only[push_cast];try omega))only[push_cast,simprocAttr,hV,gi,hil,Int.toNat_natCast,c0,c1,hl1,hj0,jN0,hjn,hjl',hle,ht,qS0,gD]
   have gp:jE h (h.put 1 (O (tmC x) etm false)) (fun k=>k=1):=jE.put _ _ _ fun _=>rfl
   exact ⟨_,by omega,I40.mk (i+1) _ x _ (by first|rfl|omega) (by omega) (hq ▸ hr) (wV0 _ _ _ _) (gp.cellsE c1 (by omega) (by omega)) hl1 hl2⟩
  ·obtain rfl:i=p.length:=by omega
   rw[List.drop_length] at hr
   cases hr
   simp(disch:=first|omega|(apply id;simp only[push_cast];try omega))only[push_cast,simprocAttr,hV,hil]
   rw[qQ1]
   have hz:ztm.length=9:=rfl
   have hd9:List.drop 9 ztm=[]:=rfl
   simp(disch:=first|omega|(apply id;simp only[push_cast];try omega))only[push_cast,simprocAttr,c0,c1,hl1,hcl,gD,qS0,hz,hd9,List.append_nil,uN0]
   have hsc:=bC 1 (by decide) y
   exact .id (by rw[tA1];simp only[scL];rw[hsc];rfl)
 ·simp(disch:=first|omega|(apply id;simp only[push_cast];try omega))only[push_cast,simprocAttr]
 ·simp(disch:=first|omega|(apply id;simp only[push_cast];try omega))only[push_cast,simprocAttr];first|done|rfl
 ·simp(disch:=first|omega|(apply id;simp only[push_cast];try omega))only[push_cast,simprocAttr]
 ·simp(disch:=first|omega|(apply id;simp only[push_cast];try omega))only[push_cast,simprocAttr];first|done|omega
def OkS (x:Tm) (s:St):Prop:=s.k=x.k∧actN x.k=0∧x.k≠0∧x.k≠14∧0≤s.a∧s.a≤1∧(s.a=1→x.k=10)
mutual
theorem yJ2:∀ (t u:Tm) (p:List Int) (q:Bool),qR 3 2 5 q t=true→∀ y∈stS (spT t u p),∃ r x,y.p=p++r∧AtR t r x∧OkS x y
 | .mk k a b s e l,u,p,q,hr,y,hy=>by
  obtain ⟨hL,hrs⟩:=bO2 hr
  rw[spT,yO0] at hy
  by_cases h0:k=12∨k=7∨k=11
  ·have he:stF ⟨.mk k a b s e l,u,p⟩=[]:=by unfold stF;rw[if_pos (by show k=0∨k=14∨k=12∨k=11∨k=7;omega)]
   rw[he,List.nil_append] at hy
   have go:∀ (m:List Tm) (u:Tm),(∀ i c,m[i]?=some c→l[i]?=some c∧i<actN k)→(∀ x∈m,∃ q,qR 3 2 5 q x=true)→y∈stS (spL m u p 0)→(∀ i c r x,m[i]?=some c→y.p=p++((0+i:Nat):Int) :: r→AtR c r x→OkS x y→∃ r x,y.p=p++r∧AtR (.mk k a b s e l) r x∧OkS x y):=fun m u h1 h2 h3 i c r x hc hp ha ho=>by
    rw[Nat.zero_add] at hp
    exact ⟨_,x,hp,.cons i (h1 i c hc).2 (h1 i c hc).1 ha,ho⟩
   by_cases h12:k=12
   ·rw[if_pos h12] at hy
    obtain ⟨c,r,x,hc,hp,ha,ho⟩:=fS2 l u p (fun x hx=>⟨_,hrs x hx⟩) y hy
    exact ⟨_,x,hp,.cons 0 (by unfold actN;rw[if_pos (.inl h12)];omega) hc ha,ho⟩
   rw[if_neg h12] at hy
   by_cases h7:k=7
   ·rw[if_pos h7] at hy
    obtain ⟨i,c,r,x,hc,hp,ha,ho⟩:=eY1 l _ p 0 (fun x hx=>⟨_,hrs x hx⟩) y hy
    refine go l _ (fun i c h=>⟨h,?_⟩) (fun x hx=>⟨_,hrs x hx⟩) hy i c r x hc hp ha ho
    have h1:=(List.getElem?_eq_some_iff.1 h).1
    unfold actN;rw[if_pos (.inr h7)]
    subst h7
    have:(l.length:Int)=1:=hL
    omega
   ·rw[if_neg h7,if_pos (by omega)] at hy
    obtain ⟨i,c,r,x,hc,hp,ha,ho⟩:=eY1 l _ p 0 (fun x hx=>⟨_,hrs x hx⟩) y hy
    refine go l _ (fun i c h=>⟨h,?_⟩) (fun x hx=>⟨_,hrs x hx⟩) hy i c r x hc hp ha ho
    have h1:=(List.getElem?_eq_some_iff.1 h).1
    obtain rfl:k=11:=by omega
    have:(l.length:Int)=2:=hL
    show i<2
    omega
  ·rw[if_neg (by omega),if_neg (by omega),if_neg (by omega)] at hy
   change y∈_++[] at hy
   rw[List.append_nil] at hy
   have hn:actN k=0:=by unfold actN;rw[if_neg (by omega),if_neg (by omega)]
   refine ⟨[],.mk k a b s e l,?_,.nil _,?_⟩
   ·rw[List.append_nil]
    unfold stF at hy
    split at hy
    ·cases hy
    split at hy
    ·split at hy
     ·rw[List.mem_singleton] at hy;subst hy;rfl
     ·cases hy
    split at hy
    ·simp at hy;rcases hy with rfl|rfl<;>rfl
    ·rw[List.mem_singleton] at hy;subst hy;rfl
   ·unfold stF at hy
    split at hy
    ·cases hy
    rename_i hz
    have hz0:¬ k=0:=fun h=>hz (.inl h)
    have hz1:¬ k=14:=fun h=>hz (.inr (.inl h))
    split at hy
    ·rename_i h8
     have h8:k=8:=h8
     split at hy
     ·rw[List.mem_singleton] at hy;subst hy;exact ⟨h8.symm,hn,hz0,hz1,by show (0:Int)≤0;omega,by show (0:Int)≤1;omega,fun h=>by cases h⟩
     ·cases hy
    split at hy
    ·rename_i h10
     have h10:k=10:=h10
     simp at hy
     rcases hy with rfl|rfl
     ·exact ⟨h10.symm,hn,hz0,hz1,by show (0:Int)≤0;omega,by show (0:Int)≤1;omega,fun h=>by cases h⟩
     ·exact ⟨h10.symm,hn,hz0,hz1,by show (0:Int)≤1;omega,by show (1:Int)≤1;omega,fun _=>h10⟩
    ·rw[List.mem_singleton] at hy;subst hy;exact ⟨rfl,hn,hz0,hz1,by show (0:Int)≤0;omega,by show (0:Int)≤1;omega,fun h=>by cases h⟩
theorem eY1:∀ (l:List Tm) (u:Tm) (p:List Int) (j:Nat),(∀ x∈l,∃ q,qR 3 2 5 q x=true)→∀ y∈stS (spL l u p j),∃ (i:Nat) (c:Tm) (r:List Int) (x:Tm),l[i]?=some c∧y.p=p++((j+i:Nat):Int) :: r∧AtR c r x∧OkS x y
 | [],_,_,_,_,y,hy=>by cases hy
 | c :: l,u,p,j,hr,y,hy=>by
  rw[spL,gC0] at hy
  rcases List.mem_append.1 hy with hy|hy
  ·obtain ⟨q,hq⟩:=hr c (by simp)
   obtain ⟨r,x,h1,h2,h3⟩:=yJ2 c u _ q hq y hy
   exact ⟨0,c,r,x,rfl,by rw[h1,List.append_assoc];rfl,h2,h3⟩
  ·obtain ⟨i,d,r,x,h1,h2,h3,h4⟩:=eY1 l u p (j+1) (fun x hx=>hr x (by simp[hx])) y hy
   exact ⟨i+1,d,r,x,h1,by rw[h2,show j+1+i=j+(i+1) by omega],h3,h4⟩
theorem fS2:∀ (l:List Tm) (u:Tm) (p:List Int),(∀ x∈l,∃ q,qR 3 2 5 q x=true)→∀ y∈stS (spH l u p),∃ (c:Tm) (r:List Int) (x:Tm),l[0]?=some c∧y.p=p++((0:Nat):Int) :: r∧AtR c r x∧OkS x y
 | [],_,_,_,y,hy=>by cases hy
 | c :: l,u,p,hr,y,hy=>by
  rw[spH] at hy
  obtain ⟨q,hq⟩:=hr c (by simp)
  obtain ⟨r,x,h1,h2,h3⟩:=yJ2 c u _ q hq y hy
  exact ⟨c,r,x,rfl,by rw[h1,List.append_assoc];rfl,h2,h3⟩
end
theorem wG2 {x y:St} (h:rise x y):¬ (x.p=y.p∧x.a=y.a):=by
 rintro ⟨h1,h2⟩
 rcases h with ⟨_,h3,h4⟩|⟨q,i,j,r,s,hij,h3,h4⟩
 ·omega
 ·rw[h3,h4] at h1
  have:=List.append_cancel_left h1
  injection this with h5
  omega
theorem en_ne {t:Tm} {k i:Nat} {x y:St} (hx:(enF t)[k]?=some x) (hy:(enF t)[i]?=some y) (hk:k<i):¬ (x.p=y.p∧x.a=y.a):=by
 have h:=List.pairwise_iff_getElem.1 (ascT (jV t) (jV t) [])
 obtain ⟨h1,rfl⟩:=List.getElem?_eq_some_iff.1 hx
 obtain ⟨h2,rfl⟩:=List.getElem?_eq_some_iff.1 hy
 exact wG2 (h k i h1 h2 hk)
theorem tJ1 {t:Tm} (h:oM0 t):oM0 (jV t):=by
 have hk:=wJ0 t
 have h3:=h.2.2
 have h2:=hk.z
 exact ⟨hk.s h.1,hk.r _ h.2.1,by omega⟩
theorem en_at {t:Tm} (h:oM0 t) {y:St} (hy:y∈enF (jV t)):∃ x,AtR (jV t) y.p x∧OkS x y:=by
 have hk:=wJ0 t
 unfold enF at hy
 rw[hk.i] at hy
 obtain ⟨r,x,h1,h2,h3⟩:=yJ2 _ _ _ _ (tJ1 h).2.1 y hy
 rw[List.nil_append] at h1
 exact ⟨x,h1 ▸ h2,h3⟩
inductive I11b (v:Value) (l:List St) (i:Nat) (h:jA):Nat→S→Prop
 | mk (k:Nat) (kv:Int) {x0 x1 x2 x3 x4 x8 x9 xB xC xD xE xF xG xH xI xJ xK xL xM xN xO xP xQ xR xS xT xU xV xW xX xY xZ yA yB yC yD yE yF yG yH yI yJ yK yL yM yN yO yP yQ yR yS yT yU yV yW yX yY yZ zA zB zC zD zF zG zH zI zJ zK zL zM zN zO zP zQ zR zS zU zV zW zX zY zZ wA wB wC wD wE wF wG wH wI wJ wK wL wM wN wO wP wQ wR wS wT wU wV wW wX wY wZ uA uB uC uD uE uF uG uH uI uJ uK uL uM:Value} (hkv:kv=(k:Int)) (hk:k≤i) :
  I11b v l i h (i-k) ⟨(F125 x0 x1 x2 x3 x4 v (stsV l) (.int .i64 i) x8 x9 (.int .i64 kv) xB xC xD xE xF xG xH xI xJ xK xL xM xN xO xP xQ xR xS xT xU xV xW xX xY xZ yA yB yC yD yE yF yG yH yI yJ yK yL yM yN yO yP yQ yR yS yT yU yV yW yX yY yZ zA zB zC zD zF zG zH zI zJ zK zL zM zN zO zP zQ zR zS zU zV zW zX zY zZ wA wB wC wD wE wF wG wH wI wJ wK wL wM wN wO wP wQ wR wS wT wU wV wW wX wY wZ uA uB uC uD uE uF uG uH uI uJ uK uL uM),[],h⟩
theorem lB0 (v:Value) (l:List St) (i:Nat) (y:St) (hy:l[i]?=some y) (hB:l.length<1000000∧∀ x∈l,x.p.length<1000000) (hD:∀ k z,k<i→l[k]?=some z→¬ (z.p=y.p∧z.a=y.a)) (h:jA) (hl1:h.lo=1)
  {T:jK→S→Prop} (hN:∀ {x0 x1 x2 x3 x4 x8 x9 xA xB xC xD xE xF xG xH xI xJ xK xL xM xN xO xP xQ xR xS xT xU xV xW xX xY xZ yA yB yC yD yE yF yG yH yI yJ yK yL yM yN yO yP yQ yR yS yT yU yV yW yX yY yZ zA zB zC zD zF zG zH zI zJ zK zL zM zN zO zP zQ zR zS zU zV zW zX zY zZ wA wB wC wD wE wF wG wH wI wJ wK wL wM wN wO wP wQ wR wS wT wU wV wW wX wY wZ uA uB uC uD uE uF uG uH uI uJ uK uL uM:Value},T .normal ⟨(F125 x0 x1 x2 x3 x4 v (stsV l) (.int .i64 i) x8 x9 xA xB xC xD xE xF xG xH xI xJ xK xL xM xN xO xP xQ xR xS xT xU xV xW xX xY xZ yA yB yC yD yE yF yG yH yI yJ yK yL yM yN yO yP yQ yR yS yT yU yV yW yX yY yZ zA zB zC zD zF zG zH zI zJ zK zL zM zN zO zP zQ zR zS zU zV zW zX zY zZ wA wB wC wD wE wF wG wH wI wJ wK wL wM wN wO wP wQ wR wS wT wU wV wW wX wY wZ uA uB uC uD uE uF uG uH uI uJ uK uL uM),[],h⟩) {x0 x1 x2 x3 x4 x8 x9 xB xC xD xE xF xG xH xI xJ xK xL xM xN xO xP xQ xR xS xT xU xV xW xX xY xZ yA yB yC yD yE yF yG yH yI yJ yK yL yM yN yO yP yQ yR yS yT yU yV yW yX yY yZ zA zB zC zD zF zG zH zI zJ zK zL zM zN zO zP zQ zR zS zU zV zW zX zY zZ wA wB wC wD wE wF wG wH wI wJ wK wL wM wN wO wP wQ wR wS wT wU wV wW wX wY wZ uA uB uC uD uE uF uG uH uI uJ uK uL uM:Value} :
  WD (pp G) H0 none (.loop oK0) ⟨(F125 x0 x1 x2 x3 x4 v (stsV l) (.int .i64 i) x8 x9 (.int .i64 0) xB xC xD xE xF xG xH xI xJ xK xL xM xN xO xP xQ xR xS xT xU xV xW xX xY xZ yA yB yC yD yE yF yG yH yI yJ yK yL yM yN yO yP yQ yR yS yT yU yV yW yX yY yZ zA zB zC zD zF zG zH zI zJ zK zL zM zN zO zP zQ zR zS zU zV zW zX zY zZ wA wB wC wD wE wF wG wH wI wJ wK wL wM wN wO wP wQ wR wS wT wU wV wW wX wY wZ uA uB uC uD uE uF uG uH uI uJ uK uL uM),[],h⟩ (@kR ⟨jO 2 T⟩):=by
 have hA:∀ l:List St,stsV l=Rw false 60 l.length (stCs l):=fun _=>rfl
 refine WD.loop4 (q:=qq) (jP G) (by kernel_rfl) (I11b v l i h) ?_ _ _ (I11b.mk 0 0 rfl (Nat.zero_le _))
 intro m s1 hI
 cases hI with|mk k kv hkv hk=>
 subst hkv
 rw[qY1]
 by_cases hki:(k:Int)<i
 ·have hlt:=(List.getElem?_eq_some_iff.1 hy).1
  have hil:(i:Int)<l.length:=by omega
  have hkl:(k:Int)<l.length:=by omega
  have hle:i*3+2<l.length*3:=by omega
  have hle2:k*3+2<l.length*3:=by omega
  obtain ⟨z,hz⟩:=qT (l:=l) (i:=k) (by omega)
  have hd:=hD k z (by omega) hz
  have e2:=rJ0 hy
  have e3:=kO1 hy
  have g2:=rJ0 hz
  have g3:=kO1 hz
  have hsy:=dH0 1 (by decide) y.p
  have hsz:=dH0 1 (by decide) z.p
  have hyl:=hB.2 y (List.mem_of_getElem? hy)
  have hzl:=hB.2 z (List.mem_of_getElem? hz)
  simp(disch:=first|omega|(apply id;simp only[push_cast];try omega))only[push_cast,simprocAttr,hA,hki,hil,hkl,e2,e3,g2,g3,hle,hle2,Int.toNat_natCast,hl1]
  refine jC.dataI (dF2 G z.p y.p (by omega) (by omega)) (by and_intros<;>first|rfl|(simp(disch:=first|omega|(apply id;simp only[push_cast];try omega))only[push_cast])) ?_
  by_cases hp:z.p=y.p
  ·have ha:¬ z.a=y.a:=fun h=>hd ⟨hp,h⟩
   rw[decide_eq_true hp]
   simp(disch:=first|omega|(apply id;simp only[push_cast];try omega))only[push_cast,simprocAttr,hA,hki,hil,hkl,e2,e3,g2,g3,hle,hle2,Int.toNat_natCast,hl1,ha]
   exact ⟨_,by omega,I11b.mk (k+1) _ (by first|rfl|omega) (by omega)⟩
  ·rw[decide_eq_false hp]
   simp(disch:=first|omega|(apply id;simp only[push_cast];try omega))only[push_cast,simprocAttr,hA]
   exact ⟨_,by omega,I11b.mk (k+1) _ (by first|rfl|omega) (by omega)⟩
 ·simp(disch:=first|omega|(apply id;simp only[push_cast];try omega))only[push_cast,simprocAttr,hki]
  exact hN
theorem lC0 (v:Value) (l:List St) (i pa:Nat) (x:Tm) (y:St) (hy:l[i]?=some y) (ho:OkS x y) (hB:l.length<1000000∧∀ x∈l,x.p.length<1000000) (hD:∀ k z,k<i→l[k]?=some z→¬ (z.p=y.p∧z.a=y.a)) (h:jA) (ca:cells h pa=some (tmC x,etm,false)) (hl1:h.lo=1) (hpa:1≤pa)
  {T:jK→S→Prop} (hN:∀ {x0 x1 x2 x3 x4 x8 x9 xA xB xC xD xE xF xG xH xI xJ xK xL xM xN xO xP xQ xR xS xT xU xV xW xX xY xZ yA yB yC yD yE yF yG yH yI yJ yK yL yM yN yO yP yQ yR yS yT yU yV yW yX yY yZ zA zB zC zD zF zG zH zI zJ zK zL zM zN zO zP zQ zR zS zU zV zW zX zY zZ wA wB wC wD wE wF wG wH wI wJ wK wL wM wN wO wP wQ wR wS wT wU wV wW wX wY wZ uA uB uC uD uE uF uG uH uI uJ uK uL uM:Value},T .normal ⟨(F125 x0 x1 x2 x3 x4 v (stsV l) (.int .i64 i) x8 x9 xA xB xC xD xE xF xG xH xI xJ xK xL xM xN xO xP xQ xR xS xT xU xV xW xX xY xZ yA yB yC yD yE yF yG yH yI yJ yK yL yM yN yO yP yQ yR yS yT yU yV yW yX yY yZ zA zB zC zD zF zG zH zI zJ zK zL zM zN zO zP zQ zR zS zU zV zW zX zY zZ wA wB wC wD wE wF wG wH wI wJ wK wL wM wN wO wP wQ wR wS wT wU wV wW wX wY wZ uA uB uC uD uE uF uG uH uI uJ uK uL uM),[],h⟩) {x0 x1 x2 x3 x4 xA xB xC xD xE xF xG xH xI xJ xK xL xM xN xO xP xQ xR xS xT xU xV xW xX xY xZ yA yB yC yD yE yF yG yH yI yJ yK yL yM yN yO yP yQ yR yS yT yU yV yW yX yY yZ zA zB zC zD zF zG zH zI zJ zK zL zM zN zO zP zQ zR zS zU zV zW zX zY zZ wA wB wC wD wE wF wG wH wI wJ wK wL wM wN wO wP wQ wR wS wT wU wV wW wX wY wZ uA uB uC uD uE uF uG uH uI uJ uK uL uM:Value} :
  dc3 (pp G) qq none fG0 ⟨(F125 x0 x1 x2 x3 x4 v (stsV l) (.int .i64 i) (.pointer (some ⟨pa,0,none⟩)) (.bool true) xA xB xC xD xE xF xG xH xI xJ xK xL xM xN xO xP xQ xR xS xT xU xV xW xX xY xZ yA yB yC yD yE yF yG yH yI yJ yK yL yM yN yO yP yQ yR yS yT yU yV yW yX yY yZ zA zB zC zD zF zG zH zI zJ zK zL zM zN zO zP zQ zR zS zU zV zW zX zY zZ wA wB wC wD wE wF wG wH wI wJ wK wL wM wN wO wP wQ wR wS wT wU wV wW wX wY wZ uA uB uC uD uE uF uG uH uI uJ uK uL uM),[],h⟩ T:=by
 rw[qZ1]
 have hA:∀ l:List St,stsV l=Rw false 60 l.length (stCs l):=fun _=>rfl
 have e1:=bJ2 hy
 have e2:=rJ0 hy
 have e3:=kO1 hy
 have hlt:=(List.getElem?_eq_some_iff.1 hy).1
 have hlt':(i:Int)<l.length:=by omega
 have hle:i*3+2<l.length*3:=by omega
 obtain ⟨o1,o2,o3,o4,o5,o6,o7⟩:=ho
 have hac:=mM0 G x
 obtain ⟨xk,xa,xb,xs,xe,xl⟩:=x
 rw[Tm.k_mk] at o1 o2 o3 o4 o7 hac
 unfold tmV at hac
 rw[jN0] at hac
 have hym:=List.mem_of_getElem? hy
 have hyl:=hB.2 y hym
 have hsy:=dH0 1 (by decide) y.p
 have n1:¬ y.a<0:=by omega
 have n2:¬ 1<y.a:=by omega
 have n4:(!decide (y.a=1))=true∨xk=10:=by
  by_cases h:y.a=1
  ·exact .inr (o7 h)
  ·exact .inl (by rw[decide_eq_false h];rfl)
 simp(disch:=first|omega|(apply id;simp only[push_cast];try omega))only[push_cast,simprocAttr,hA,e1,e2,e3,hlt',hle,ca,hl1,jN0,o1,bne_self_eq_false,Int.toNat_natCast]
 refine jC.dataI (hac) (by and_intros<;>first|rfl|(simp(disch:=first|omega|(apply id;simp only[push_cast];try omega))only[push_cast])) ?_
 rw[o2]
 simp(disch:=first|omega|(apply id;simp only[push_cast];try omega))only[push_cast,simprocAttr,hA,e1,e2,e3,hlt',hle,ca,hl1,jN0,o1,o3,o4,n1,n2,Int.toNat_natCast,bne_self_eq_false]
 by_cases ha:y.a=1
 ·have h10:=o7 ha
  simp(disch:=first|omega|(apply id;simp only[push_cast];try omega))only[push_cast,simprocAttr,hA,ca,hl1,jN0,ha,h10,bne_self_eq_false]
  rw[← hA]
  exact lB0 G v l i y hy hB hD h hl1 hN
 ·simp(disch:=first|omega|(apply id;simp only[push_cast];try omega))only[push_cast,simprocAttr,ha]
  rw[← hA]
  exact lB0 G v l i y hy hB hD h hl1 hN
inductive I11 (t:Tm) (l:List St):Nat→S→Prop
 | mk (i:Nat) (iv:Int) (h:jA) {x0 x1 x2 x3 x4 x8 x9 xA xB xC xD xE xF xG xH xI xJ xK xL xM xN xO xP xQ xR xS xT xU xV xW xX xY xZ yA yB yC yD yE yF yG yH yI yJ yK yL yM yN yO yP yQ yR yS yT yU yV yW yX yY yZ zA zB zC zD zF zG zH zI zJ zK zL zM zN zO zP zQ zR zS zU zV zW zX zY zZ wA wB wC wD wE wF wG wH wI wJ wK wL wM wN wO wP wQ wR wS wT wU wV wW wX wY wZ uA uB uC uD uE uF uG uH uI uJ uK uL uM:Value} (hiv:iv=(i:Int)) (hi:i≤l.length) (ct:cells h 2=some (tmC t,etm,false)) (hl1:h.lo=1) (hl2:3≤h.next) :
  I11 t l (l.length-i) ⟨(F125 x0 x1 x2 x3 x4 (.pointer (some ⟨2,0,none⟩)) (stsV l) (.int .i64 iv) x8 x9 xA xB xC xD xE xF xG xH xI xJ xK xL xM xN xO xP xQ xR xS xT xU xV xW xX xY xZ yA yB yC yD yE yF yG yH yI yJ yK yL yM yN yO yP yQ yR yS yT yU yV yW yX yY yZ zA zB zC zD zF zG zH zI zJ zK zL zM zN zO zP zQ zR zS zU zV zW zX zY zZ wA wB wC wD wE wF wG wH wI wJ wK wL wM wN wO wP wQ wR wS wT wU wV wW wX wY wZ uA uB uC uD uE uF uG uH uI uJ uK uL uM),[],h⟩
theorem places_law (r:Rb) (w:Int) (hr:smB r=true):jM (pp G) H0 11 [rbV r,.int .i64 w] (.bool true):=by
 have hlo:H0.lo≤H0.next:=Nat.le_refl _;refine jM.cut (jH.fir4 (q:=qq) (jP G) fir11 (by kernel_rfl) rfl rfl (sK1 ..) (show NGG≤H0.lo by rw[qN];decide) ?_);rw[wB2]
 simp(disch:=first|omega|(apply id;simp only[push_cast];try omega))only[push_cast,simprocAttr]
 refine jC.dataI (mH1 G) (by and_intros<;>first|rfl|(simp(disch:=first|omega|(apply id;simp only[push_cast];try omega))only[push_cast])) ?_
 have hcl:∀ x:Rb,(rbV x).cells.toList=rbC x:=fun _=>rfl
 have hone:=nV0
 have hlen:=cH
 have htk:∀ r:Rb,(rbC r).take 5=rbC r:=fun r=>List.take_of_length_le (by rw[cH];exact Nat.le_refl _)
 simp(disch:=first|omega|(apply id;simp only[push_cast];try omega))only[push_cast,simprocAttr,hcl,hone,hlen,htk,↓tB1]
 refine jC.data (eI2 G 0 0 [r] (by simp) (by simp[smBs,hr])) (eH2 G _ (by decide) _ [r]) (by first|rfl|(simp(disch:=first|omega|(apply id;simp only[push_cast];try omega))only[push_cast])) (by first|rfl|(simp(disch:=first|omega|(apply id;simp only[push_cast];try omega))only[push_cast])) ?_
 cases hf:fewB [r] with
 | false=>simp(disch:=first|omega|(apply id;simp only[push_cast];try omega))only[push_cast,simprocAttr,Bool.not_false];exact .id rfl
 | true=>
 simp(disch:=first|omega|(apply id;simp only[push_cast];try omega))only[push_cast,simprocAttr,Bool.not_true]
 refine jC.dataEI (zI2 G r w hr) (by and_intros<;>first|rfl|(simp(disch:=first|omega|(apply id;simp only[push_cast];try omega))only[push_cast])) ?_
 rintro _ ⟨t,rfl,ht⟩
 refine ⟨by simp(disch:=first|omega|(apply id;simp only[push_cast];try omega))only[push_cast,simprocAttr];first|done|rfl,?_⟩
 simp(disch:=first|omega|(apply id;simp only[push_cast];try omega))only[push_cast,simprocAttr]
 refine jC.dataI (rn_f G ht) (by and_intros<;>first|rfl|(simp(disch:=first|omega|(apply id;simp only[push_cast];try omega))only[push_cast])) ?_
 have hg:=tJ1 ht
 have htc:∀ x:Tm,(tmV x).cells.toList=tmC x:=fun _=>rfl
 simp(disch:=first|omega|(apply id;simp only[push_cast];try omega))only[push_cast,simprocAttr,htc,gD,qS0,uN0]
 refine jC.dataI (en_f G hg) (by and_intros<;>first|rfl|(simp(disch:=first|omega|(apply id;simp only[push_cast];try omega))only[push_cast])) ?_
 have hB:=enF_b (t:=jV t) (by have:=hg.2.2;omega)
 have hP:=fun y=>@en_at t ht y
 have hD:=@en_ne (jV t)
 generalize enF (jV t)=l at hB hP hD ⊢
 generalize jV t=n at hg hP ⊢
 simp(disch:=first|omega|(apply id;simp only[push_cast];try omega))only[push_cast,simprocAttr]
 have hA:∀ l:List St,stsV l=Rw false 60 l.length (stCs l):=fun _=>rfl
 refine WD.loop4 (q:=qq) (jP G) (by kernel_rfl) (I11 n l) ?_ _ _ (I11.mk 0 0 _ rfl (Nat.zero_le _) ?_ ?_ ?_)
 ·intro m s1 hI
  cases hI with|mk i iv h hiv hi ct hl1 hl2=>
  subst hiv
  rw[uB1]
  by_cases hil:(i:Int)<l.length
  ·obtain ⟨y,hy⟩:=qT (l:=l) (i:=i) (by omega)
   have hym:=List.mem_of_getElem? hy
   obtain ⟨x,ha,ho⟩:=hP y hym
   have hyl:=hB.2 y hym
   have e2:=rJ0 hy
   have hle:i*3+2<l.length*3:=by omega
   have hsy:=dH0 1 (by decide) y.p
   have hxs:=bC 1 (by decide) x
   have hts:scL 1 [tmV x,Value.bool true]=true:=by simp only[scL];rw[hxs];rfl
   simp(disch:=first|omega|(apply id;simp only[push_cast];try omega))only[push_cast,simprocAttr,hA,hil,e2,hle,Int.toNat_natCast,ct,hl1,uN0,gD]
   refine ⟨?_,?_⟩
   ·refine jC.dataI (fT2 G n y.p x ha hyl) (by and_intros<;>first|rfl|(simp(disch:=first|omega|(apply id;simp only[push_cast];try omega))only[push_cast])) ?_
    simp(disch:=first|omega|(apply id;simp only[push_cast];try omega))only[push_cast,simprocAttr,htc,gD,qS0,uN0]
    refine lC0 G _ l i _ x y hy ho hB (fun k z hk hz=>hD hz hy hk) _ ?_ ?_ ?_ ?_
    ·simp(disch:=first|omega|(apply id;simp only[push_cast];try omega))only[push_cast,simprocAttr]
    ·first|exact hl1|(simp(disch:=first|omega|(apply id;simp only[push_cast];try omega))only[push_cast,simprocAttr];try exact hl1)
    ·omega
    intros
    simp(disch:=first|omega|(apply id;simp only[push_cast];try omega))only[push_cast,simprocAttr]
    rw[cX0]
    simp(disch:=first|omega|(apply id;simp only[push_cast];try omega))only[push_cast,simprocAttr]
    refine ⟨_,?_,I11.mk (i+1) _ _ (by first|rfl|omega) (by omega) ?_ ?_ ?_⟩
    ·omega
    ·simp(disch:=first|omega|(apply id;simp only[push_cast];try omega))only[push_cast,simprocAttr,ct]
    ·first|exact hl1|(simp(disch:=first|omega|(apply id;simp only[push_cast];try omega))only[push_cast,simprocAttr];try exact hl1)
    ·first|(simp(disch:=first|omega|(apply id;simp only[push_cast];try omega))only[push_cast,simprocAttr];done)|(simp(disch:=first|omega|(apply id;simp only[push_cast];try omega))only[push_cast,simprocAttr];omega)|(show 3≤h.next+1;omega)
   ·refine jC.dataI (fT2 G n y.p x ha hyl) (by and_intros<;>first|rfl|(simp(disch:=first|omega|(apply id;simp only[push_cast];try omega))only[push_cast])) ?_
    simp(disch:=first|omega|(apply id;simp only[push_cast];try omega))only[push_cast,simprocAttr,htc,gD,qS0,uN0]
    refine lC0 G _ l i _ x y hy ho hB (fun k z hk hz=>hD hz hy hk) _ ?_ ?_ ?_ ?_
    ·simp(disch:=first|omega|(apply id;simp only[push_cast];try omega))only[push_cast,simprocAttr]
    ·first|exact hl1|(simp(disch:=first|omega|(apply id;simp only[push_cast];try omega))only[push_cast,simprocAttr];try exact hl1)
    ·omega
    intros
    simp(disch:=first|omega|(apply id;simp only[push_cast];try omega))only[push_cast,simprocAttr]
    rw[cX0]
    simp(disch:=first|omega|(apply id;simp only[push_cast];try omega))only[push_cast,simprocAttr]
    refine ⟨_,?_,I11.mk (i+1) _ _ (by first|rfl|omega) (by omega) ?_ ?_ ?_⟩
    ·omega
    ·simp(disch:=first|omega|(apply id;simp only[push_cast];try omega))only[push_cast,simprocAttr,ct]
    ·first|exact hl1|(simp(disch:=first|omega|(apply id;simp only[push_cast];try omega))only[push_cast,simprocAttr];try exact hl1)
    ·first|(simp(disch:=first|omega|(apply id;simp only[push_cast];try omega))only[push_cast,simprocAttr];done)|(simp(disch:=first|omega|(apply id;simp only[push_cast];try omega))only[push_cast,simprocAttr];omega)|(show 3≤h.next+1;omega)
  ·simp(disch:=first|omega|(apply id;simp only[push_cast];try omega))only[push_cast,simprocAttr,hA,hil]
   rw[uA1]
   simp(disch:=first|omega|(apply id;simp only[push_cast];try omega))only[push_cast,simprocAttr]
   exact .id rfl
 ·simp(disch:=first|omega|(apply id;simp only[push_cast];try omega))only[push_cast,simprocAttr]
 ·simp(disch:=first|omega|(apply id;simp only[push_cast];try omega))only[push_cast,simprocAttr]
 ·simp(disch:=first|omega|(apply id;simp only[push_cast];try omega))only[push_cast,simprocAttr];try omega
end
end Go.Proofs.Ytgeakofgklcipaa
namespace Go.Proofs.Ytgeakofgklcipaa
open _root_.Go.Proofs.Try (prog)
open Go Go.RowKit Go.Ev Go.Dv
noncomputable section
set_option maxRecDepth 100000
section
variable {w:World} {H:Type} {enc:TypeId×Value→H}
theorem zY1:prog.underlying eI=some (.int .i64):=by kernel_rfl
theorem gT2:prog.underlying 36=some (.slice era):=by kernel_rfl
theorem u_rbs:prog.underlying 22=some (.slice erb):=by kernel_rfl
theorem f_raw:fieldsB prog era [(eI,0),(eI,1),(36,2)]=true:=by kernel_rfl
theorem f_rb:fieldsB prog erb [(eI,0),(eI,1),(eI,2),(36,3),(22,4)]=true:=by kernel_rfl
theorem iX0:∀ l:List Ra,l.flatMap raC=raCs l
 | []=>rfl
 | x :: l=>by rw[List.flatMap_cons,iX0 l,raCs]
theorem iV0:∀ l:List Rb,l.flatMap rbC=rbCs l
 | []=>rfl
 | x :: l=>by rw[List.flatMap_cons,iV0 l,rbCs]
theorem kS1:∀ {l:List Ra},(∀ x∈l,smR x=true)→smRs l=true
 | [],_=>rfl
 | x :: l,h=>by rw[smRs,h x (by simp),kS1 fun y hy=>h y (by simp[hy])];rfl
theorem kZ1:∀ {l:List Rb},(∀ x∈l,smB x=true)→smBs l=true
 | [],_=>rfl
 | x :: l,h=>by rw[smBs,h x (by simp),kZ1 fun y hy=>h y (by simp[hy])];rfl
theorem lU1:∀ (fuel:Nat) {cs:List Value} {x:DataW H×List MemPlace},DataW.trod enc prog w 0 (fun _=>true) true fuel 36 cs=some x→(x.1.weights prog 36).all (·≤reachBytes)=true→
  ∃ l:List Ra,Go.Dv.Op prog 1 LL w [rasV l] cs∧smRs l=true∧l.length<1000000000000000:=by
 intro fuel
 induction fuel using Nat.strongRecOn with
 | ind fuel ih=>
 intro cs x h hw
 obtain ⟨l,h1,h2,h3⟩:=open_slice (n:=1) (L:=LL) gT2 (size:=3) (by kernel_rfl) (by kernel_rfl) (by omega) (of_decide_eq_true (by kernel_rfl)) raC (fun r=>smR r=true) h hw fun k c y hk hy hwy=>by
  obtain ⟨k',hk',hl,hfs⟩:=gQ0 f_raw hy hwy
  rw[show prog.cellsOf era=3 by kernel_rfl] at hl
  match c,hl with
  | [a,b,d],_=>
   obtain ⟨y0,t0,_⟩:=hfs 0 _ _ rfl
   obtain ⟨y1,t1,_⟩:=hfs 1 _ _ rfl
   obtain ⟨y2,t2,w2⟩:=hfs 2 _ _ rfl
   rw[show prog.cellsOf eI=1 by kernel_rfl] at t0 t1
   rw[show prog.cellsOf 36=1 by kernel_rfl] at t2
   obtain ⟨m0,e0,o0,_⟩:=zG0 (n:=1) (L:=LL) zY1 t0
   obtain ⟨m1,e1,o1,_⟩:=zG0 (n:=1) (L:=LL) zY1 t1
   obtain ⟨l2,o2,s2,n2⟩:=ih k' (by omega) t2 w2
   refine ⟨.mk m0 m1 l2,?_,?_⟩
   ·exact (o0.append o1).append o2
   ·simp only[smR,s2,Bool.and_true,decide_eq_true_eq];exact n2
 rw[iX0] at h1
 exact ⟨l,h1,kS1 h2,h3⟩
theorem dB0 (fuel:Nat) (ih:∀ k,k<fuel→∀ {cs:List Value} {x:DataW H×List MemPlace},DataW.trod enc prog w 0 (fun _=>true) true k 22 cs=some x→(x.1.weights prog 22).all (·≤reachBytes)=true→
   ∃ l:List Rb,Go.Dv.Op prog 1 LL w [rbsV l] cs∧smBs l=true∧l.length<1000000000000000)
  {c:List Value} {y:DataW H×List MemPlace} (hy:DataW.trod enc prog w 0 (fun _=>true) true fuel erb c=some y) (hwy:(y.1.weights prog erb).all (·≤reachBytes)=true) :
  ∃ r:Rb,Go.Dv.Op prog 1 LL w (rbC r) c∧smB r=true:=by
 obtain ⟨k',hk',hl,hfs⟩:=gQ0 f_rb hy hwy
 rw[show prog.cellsOf erb=5 by kernel_rfl] at hl
 match c,hl with
 | [a,b,d,e,f],_=>
  obtain ⟨y0,t0,_⟩:=hfs 0 _ _ rfl
  obtain ⟨y1,t1,_⟩:=hfs 1 _ _ rfl
  obtain ⟨y2,t2,_⟩:=hfs 2 _ _ rfl
  obtain ⟨y3,t3,w3⟩:=hfs 3 _ _ rfl
  obtain ⟨y4,t4,w4⟩:=hfs 4 _ _ rfl
  rw[show prog.cellsOf eI=1 by kernel_rfl] at t0 t1 t2
  rw[show prog.cellsOf 36=1 by kernel_rfl] at t3
  rw[show prog.cellsOf 22=1 by kernel_rfl] at t4
  obtain ⟨m0,e0,o0,_⟩:=zG0 (n:=1) (L:=LL) zY1 t0
  obtain ⟨m1,e1,o1,_⟩:=zG0 (n:=1) (L:=LL) zY1 t1
  obtain ⟨m2,e2,o2,_⟩:=zG0 (n:=1) (L:=LL) zY1 t2
  obtain ⟨l3,o3,s3,n3⟩:=lU1 k' t3 w3
  obtain ⟨l4,o4,s4,n4⟩:=ih k' (by omega) t4 w4
  refine ⟨.mk m0 m1 m2 l3 l4,?_,?_⟩
  ·exact (((o0.append o1).append o2).append o3).append o4
  ·simp only[smB,s3,s4,Bool.and_true,Bool.and_eq_true,decide_eq_true_eq];exact ⟨n4,n3⟩
theorem lT1:∀ (fuel:Nat) {cs:List Value} {x:DataW H×List MemPlace},DataW.trod enc prog w 0 (fun _=>true) true fuel 22 cs=some x→(x.1.weights prog 22).all (·≤reachBytes)=true→
  ∃ l:List Rb,Go.Dv.Op prog 1 LL w [rbsV l] cs∧smBs l=true∧l.length<1000000000000000:=by
 intro fuel
 induction fuel using Nat.strongRecOn with
 | ind fuel ih=>
 intro cs x h hw
 obtain ⟨l,h1,h2,h3⟩:=open_slice (n:=1) (L:=LL) u_rbs (size:=5) (by kernel_rfl) (by kernel_rfl) (by omega) (of_decide_eq_true (by kernel_rfl)) rbC (fun r=>smB r=true) h hw fun k c y hk hy hwy=>
  dB0 k (fun k' hk'=>ih k' (by omega)) hy hwy
 rw[iV0] at h1
 exact ⟨l,h1,kZ1 h2,h3⟩
theorem open_rb (fuel:Nat) {c:List Value} {y:DataW H×List MemPlace} (hy:DataW.trod enc prog w 0 (fun _=>true) true fuel erb c=some y) (hwy:(y.1.weights prog erb).all (·≤reachBytes)=true) :
  ∃ r:Rb,Go.Dv.Op prog 1 LL w (rbC r) c∧smB r=true:=dB0 fuel (fun k _=>lT1 k) hy hwy
end
end
end Go.Proofs.Ytgeakofgklcipaa
namespace Go.Proofs.Ytgeakofgklcipaa
open _root_.Go.Proofs.Try (prog)
open Go Go.RowKit Go.Ev Go.Dv
noncomputable section
@[reducible] def witB:Value:=.agg ⟨[.int .i64 0,.int .i64 0,.int .i64 0,.slice none 0 0,.slice none 0 0]⟩
end
end Go.Proofs.Ytgeakofgklcipaa
