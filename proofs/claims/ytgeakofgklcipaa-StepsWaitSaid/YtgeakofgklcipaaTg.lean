/-
  A part of the proof: what the program's functions hand back,as theorems. No condition but those that each theorem names.
-/
import Derived.Test.YtgeakofgklcipaaTf
import Derived.Test.YtgeakofgklcipaaTa
import Derived.Test.YtgeakofgklcipaaEvd
import Derived.Test.YtgeakofgklcipaaExd
import Derived.Test.YtgeakofgklcipaaTe
import Derived.Test.YtgeakofgklcipaaTb
set_option linter.unusedSimpArgs false
set_option linter.unusedVariables false
namespace Go.Proofs.Ytgeakofgklcipaa
open _root_.Go.Proofs.Try (prog)
open Go Go.RowKit Go.Ev Go.Dv
noncomputable section
set_option maxRecDepth 100000
variable (G:Nat×Nat)
theorem dW2 (N:Nat) (hN:0<N) (σ:jA) (l:List Rb):FzL (pp G).P N σ [.agg ⟨[.int .i64 0,.int .i64 0,Rw true erb l.length (rbCs l)]⟩] [shV 0 0 l]:=
 .cons (.agg (.cons (.id rfl) (.cons (.id rfl) (.cons (.row (.ids (gJ0 _ hN _))) .nil)))) .nil
theorem wS2 (r:Rb) (w:Int) (hr:smB r=true):kJ (pp G) H0 22 [rbV r,.int .i64 w] (fun d=>∃ y,d=tmV y∧zH2 y):=
 fun g h vs hP hrr hv=>(wR2 G r w hr g h vs hP hrr hv).mono fun u h' ⟨d,g',⟨y,e,hs,hy⟩,x⟩=>⟨d,g',⟨y,e,yZ1 hs hy⟩,x⟩
inductive I23 (a b:List Int):Nat→S→Prop
 | mk (i:Nat) (iv:Int) (h:jA) {x2 x3 x4 x6 x7 x8 x9 xA xB xC xD xE xF xG xH xI xJ xK xL xM xN xO xP:Value} (hiv:iv=(i:Int)) (hi:i≤a.length) (he:∀ j,j<i→a.getD j 0=b.getD j 0) (hl1:h.lo=1) (hl2:1≤h.next) :
  I23 a b (a.length-i) ⟨(F26 (ivV a) (ivV b) x2 x3 x4 (.int .i64 iv) x6 x7 x8 x9 xA xB xC xD xE xF xG xH xI xJ xK xL xM xN xO xP),[],h⟩
theorem sT1 (a b:List Int) (ha:a.length<1000000000000) (hb:b.length<1000000000000):jN (pp G) H0 42 [ivV a,ivV b] (.bool (decide (a=b))):=by
 have hlo:H0.lo≤H0.next:=Nat.le_refl _;refine jN.cut (jH.fir4 (q:=qq) (jQ G) fir42 (by kernel_rfl) rfl rfl (yT2 ..) (show NGG≤H0.lo by rw[qW];decide) ?_);rw[uG2]
 have hA:ivV a=Rw false eI a.length (ivs a):=rfl
 have hB:ivV b=Rw false eI b.length (ivs b):=rfl
 by_cases hl:a.length=b.length
 rotate_left
 ·rw[decide_eq_false (fun e=>hl (by rw[e]))]
  have hl':¬ (a.length:Int)=b.length:=by omega
  simp(disch:=first|omega|(apply id;simp only[push_cast];try omega))only[push_cast,simprocAttr,hA,hB,hl']
  exact .id rfl
 have hl':(a.length:Int)=b.length:=by omega
 simp(disch:=first|omega|(apply id;simp only[push_cast];try omega))only[push_cast,simprocAttr,hA,hB,hl']
 rw[← hA,← hB]
 refine WD.loop4 (q:=qq) (jQ G) (by kernel_rfl) (I23 a b) ?_ _ _ (I23.mk 0 0 _ rfl (Nat.zero_le _) (fun j hj=>by omega) rfl (by first|assumption|(simp(disch:=first|omega|(apply id;simp only[push_cast];try omega))only[push_cast,simprocAttr];try omega)))
 intro m s1 hI
 cases hI with|mk i iv h hiv hi he hl1 hl2=>
 subst hiv
 rw[qC1]
 by_cases hil:(i:Int)<a.length
 ·have hilb:(i:Int)<b.length:=by omega
  have g1:=eX0 (l:=a) (i:=i) (by omega)
  have g2:=eX0 (l:=b) (i:=i) (by omega)
  by_cases hx:a.getD i 0=b.getD i 0
  ·simp(disch:=first|omega|(apply id;simp only[push_cast];try omega))only[push_cast,simprocAttr,hA,hB,hil,hilb,g1,g2,hx,Int.toNat_natCast]
   rw[← hA,← hB]
   exact ⟨_,by omega,I23.mk (i+1) _ _ (by first|rfl|omega) (by omega) (fun j hj=>by
    by_cases e:j=i
    ·subst e;exact hx
    ·exact he j (by omega)) (by first|assumption|(simp(disch:=first|omega|(apply id;simp only[push_cast];try omega))only[push_cast,simprocAttr,hl1];try omega)) (by first|assumption|(simp(disch:=first|omega|(apply id;simp only[push_cast];try omega))only[push_cast,simprocAttr];try omega))⟩
  ·rw[decide_eq_false (fun e=>hx (by rw[e]))]
   simp(disch:=first|omega|(apply id;simp only[push_cast];try omega))only[push_cast,simprocAttr,hA,hB,hil,hilb,g1,g2,hx,Int.toNat_natCast]
   exact .id rfl
 ·simp(disch:=first|omega|(apply id;simp only[push_cast];try omega))only[push_cast,simprocAttr,hA,hB,hil]
  rw[qB1]
  rw[decide_eq_true (List.ext_getElem hl fun j h1 h2=>by
   have:=he j (by omega)
   rw[List.getD_eq_getElem?_getD,List.getD_eq_getElem?_getD,List.getElem?_eq_getElem h1,List.getElem?_eq_getElem h2] at this
   exact this)]
  simp(disch:=first|omega|(apply id;simp only[push_cast];try omega))only[push_cast,simprocAttr]
  exact .id rfl
mutual
theorem bX0:∀ x:Tm,((kZ x).length:Int)≤kG x
 | .mk k a b s e l=>by
  rw[kZ,kG]
  have hL:=sL0 l
  have hH:=nQ1 l
  have hp:=jA0 l
  split
  ·rw[List.length_cons];omega
  ·split
   ·rw[List.length_cons];omega
   ·simp;omega
theorem sL0:∀ l:List Tm,((gO l).length:Int)≤uT l
 | []=>by simp[gO,uT]
 | x :: l=>by rw[gO,uT,List.length_append];have:=bX0 x;have:=sL0 l;omega
theorem nQ1:∀ l:List Tm,((actH l).length:Int)≤uT l
 | []=>by simp[actH,uT]
 | x :: l=>by rw[actH,uT];have:=bX0 x;have:=jA0 l;omega
end
structure NmOk (t n:Tm):Prop where
 i:jW n=n
 z:kG n≤kG t
 r:∀ q,kP 3 2 5 q t=true→kP 3 2 5 q n=true
 s:smT t=true→smT n=true
theorem NmOk.of_eq {t:Tm} (h:jW t=t):NmOk t (jW t):=by
 rw[h];exact ⟨h,Int.le_refl _,fun _ h=>h,fun h=>h⟩
theorem nm_z (t:Tm):NmOk t zT:=⟨rfl,by have:=jQ0 t;show 1≤_;omega,fun q _=>by cases q<;>decide,fun _=>rfl⟩
theorem uR2 {q:Bool} {k a b:Int} {s:List UInt8} {e:Ex} {x x':Tm} (hx:∀ q,kP 3 2 5 q x=true→kP 3 2 5 q x'=true) (h:kP 3 2 5 q (.mk k a b s e [x])=true):kP 3 2 5 q (.mk k a b s e [x'])=true:=by
 simp only[kP,jK0,Bool.and_eq_true,List.length_singleton] at h ⊢
 exact ⟨h.1,h.2.1,h.2.2.1,h.2.2.2.1,h.2.2.2.2.1,h.2.2.2.2.2.1,h.2.2.2.2.2.2.1,hx _ h.2.2.2.2.2.2.2.1,trivial⟩
theorem yC1 {q:Bool} {k a b:Int} {s:List UInt8} {e:Ex} {x x' y y':Tm} (hx:∀ q,kP 3 2 5 q x=true→kP 3 2 5 q x'=true) (hy:∀ q,kP 3 2 5 q y=true→kP 3 2 5 q y'=true) (h:kP 3 2 5 q (.mk k a b s e [x,y])=true):kP 3 2 5 q (.mk k a b s e [x',y'])=true:=by
 simp only[kP,jK0,Bool.and_eq_true,List.length_cons,List.length_nil] at h ⊢
 exact ⟨h.1,h.2.1,h.2.2.1,h.2.2.2.1,h.2.2.2.2.1,h.2.2.2.2.2.1,h.2.2.2.2.2.2.1,hx _ h.2.2.2.2.2.2.2.1,hy _ h.2.2.2.2.2.2.2.2.1,trivial⟩
theorem yB1 {q:Bool} {a b:Int} {s:List UInt8} {e:Ex} {x y:Tm} (h:kP 3 2 5 q (.mk 12 a b s e [x,y])=true):kP 3 2 5 q y=true:=by
 simp only[kP,jK0,Bool.and_eq_true] at h
 have:=h.2.2.2.2.2.2.2.2.1
 cases q<;>exact this
theorem sm_1 {k a b:Int} {s:List UInt8} {e:Ex} {x x':Tm} (hx:smT x=true→smT x'=true) (h:smT (.mk k a b s e [x])=true):smT (.mk k a b s e [x'])=true:=by
 simp only[smT,smTs,Bool.and_eq_true,List.length_singleton] at h ⊢
 exact ⟨h.1,hx h.2.1,trivial⟩
theorem sm_2 {k a b:Int} {s:List UInt8} {e:Ex} {x x' y y':Tm} (hx:smT x=true→smT x'=true) (hy:smT y=true→smT y'=true) (h:smT (.mk k a b s e [x,y])=true):smT (.mk k a b s e [x',y'])=true:=by
 simp only[smT,smTs,Bool.and_eq_true,List.length_cons,List.length_nil] at h ⊢
 exact ⟨h.1,hx h.2.1,hy h.2.2.1,trivial⟩
theorem sz1 (k a b:Int) (s:List UInt8) (e:Ex) (x:Tm):kG (.mk k a b s e [x])=1+kG x:=by simp[kG,uT]
theorem sz2 (k a b:Int) (s:List UInt8) (e:Ex) (x y:Tm):kG (.mk k a b s e [x,y])=1+(kG x+kG y):=by simp[kG,uT]
theorem kD0:∀ t:Tm,NmOk t (jW t)
 | .mk k a b s e [x,y]=>by
  have hx:=kD0 x
  have hy:=kD0 y
  rw[jW]
  by_cases h12:k=12
  ·subst h12
   rw[if_pos rfl]
   by_cases h0:(jW x).k=0
   ·rw[if_pos h0]
    refine ⟨hy.i,?_,fun q h=>hy.r q (yB1 h),fun h=>hy.s ?_⟩
    ·rw[sz2];have:=hy.z;have:=jQ0 x;omega
    ·simp only[smT,smTs,Bool.and_eq_true] at h;exact h.2.2.1
   ·rw[if_neg h0]
    refine ⟨?_,?_,fun q h=>yC1 hx.r (fun _ h=>h) h,sm_2 hx.s fun h=>h⟩
    ·rw[jW,if_pos rfl,hx.i,if_neg h0]
    ·rw[sz2,sz2];have:=hx.z;omega
  rw[if_neg h12]
  by_cases h11:k=11
  ·subst h11
   rw[if_pos rfl]
   by_cases h0:(jW x).k=0∧(jW y).k=0
   ·rw[if_pos h0];exact nm_z _
   ·rw[if_neg h0]
    refine ⟨?_,?_,fun q h=>yC1 hx.r hy.r h,sm_2 hx.s hy.s⟩
    ·rw[jW,if_neg (by decide),if_pos rfl,hx.i,hy.i,if_neg h0]
    ·rw[sz2,sz2];have:=hx.z;have:=hy.z;omega
  rw[if_neg h11]
  exact ⟨by rw[jW,if_neg h12,if_neg h11],Int.le_refl _,fun _ h=>h,fun h=>h⟩
 | .mk k a b s e [x]=>by
  have hx:=kD0 x
  rw[jW]
  by_cases h7:k=7
  ·subst h7
   rw[if_pos rfl]
   by_cases h0:(jW x).k=0
   ·rw[if_pos h0];exact nm_z _
   ·rw[if_neg h0]
    refine ⟨?_,?_,fun q h=>uR2 hx.r h,sm_1 hx.s⟩
    ·rw[jW,if_pos rfl,hx.i,if_neg h0]
    ·rw[sz1,sz1];have:=hx.z;omega
  rw[if_neg h7]
  exact ⟨by rw[jW,if_neg h7],Int.le_refl _,fun _ h=>h,fun h=>h⟩
 | .mk k a b s e []=>.of_eq rfl
 | .mk k a b s e (x :: y :: z :: l)=>.of_eq rfl
 termination_by t=>SizeOf.sizeOf t
theorem en_f {t:Tm} (h:zH2 t):jN (pp G) H0 39 [tmV t] (stsV (enF t)):=by
 have hk:=kD0 t
 have h1:=bX0 (jW t)
 have h2:=hk.z
 have h3:=h.2.2
 exact mF0 G t h.1 (hk.s h.1) (by omega)
theorem eA0 (x:St):(stC x).length=3:=rfl
theorem pX0:∀ l:List St,(stCs l).length=l.length*3
 | []=>rfl
 | x :: l=>by rw[stCs,List.length_append,pX0 l,eA0,List.length_cons];omega
theorem dZ0 {l:List St} {i:Nat} {x:St} (h:l[i]?=some x) (j:Nat) (hj:j<3):(stCs l)[i*3+j]?=(stC x)[j]?:=by
 induction l generalizing i with
 | nil=>cases h
 | cons y l ih=>
  rw[stCs]
  cases i with
  | zero=>
   cases h
   rw[Nat.zero_mul,Nat.zero_add,List.getElem?_append_left (by rw[eA0];exact hj)]
  | succ i=>
   rw[List.getElem?_append_right (by rw[eA0];omega),eA0,show (i+1)*3+j-3=i*3+j by omega]
   exact ih h
theorem sG1 {l:List St} {i:Nat} {x:St} (h:l[i]?=some x):(stCs l)[i*3]?=some (.int .i64 x.k):=dZ0 h 0 (by omega)
theorem sF1 {l:List St} {i:Nat} {x:St} (h:l[i]?=some x):(stCs l)[i*3+1]?=some (ivV x.p):=dZ0 h 1 (by omega)
theorem sH1 {l:List St} {i:Nat} {x:St} (h:l[i]?=some x):(stCs l)[i*3+2]?=some (.int .i64 x.a):=dZ0 h 2 (by omega)
attribute [push_cast] pX0
theorem rZ1 {P:Program} {N:Nat} {σ:jA} (h1:szT P eE=some 4) (k a b:Int) (s:List UInt8) {f:Bool} {cs:List Value} {n:Nat} {l:List Tm} (hn:n=l.length) (hc:FzL P N σ cs (uW l)) :
  FzV P N σ (.agg ⟨[.int .i64 k,.int .i64 a,.int .i64 b,.string (Tx s),.int .i64 0,.int .i64 0,.string (Tx []),.slice none 0 0,Rw f etm n cs]⟩) (tmV (.mk k a b s zE l)):=by
 subst hn
 exact .agg (.cons (.id rfl) (.cons (.id rfl) (.cons (.id rfl) (.cons (.id rfl) (.cons (.id rfl) (.cons (.id rfl) (.cons (.id rfl) (.cons (.nil (size:=4) h1 (by decide)) (.cons (.row hc) .nil)))))))))
theorem gE2 (a b:List Tm):wS (a++b)=wS a++wS b:=by unfold wS;rw[List.filter_append,List.map_append]
theorem tN1 {k a b:Int} {s:List UInt8} {e:Ex} {l:List Tm} (h:k≠14) (m:List Tm):wS (.mk k a b s e l :: m)=wS m:=by
 unfold wS;simp[Tm.k,h]
theorem uQ0 (x:Sp) (l:List Sp):stS (x :: l)=stF x++stS l:=by simp[stS]
theorem wI0 (a b:List Sp):stS (a++b)=stS a++stS b:=by simp[stS]
theorem stF_p {x:St} {y:Sp} (h:x∈stF y):x.p=y.p:=by
 unfold stF at h
 split at h
 ·cases h
 split at h
 ·split at h
  ·simp at h;rw[h]
  ·cases h
 split at h
 ·simp at h;rcases h with rfl|rfl<;>rfl
 ·simp at h;rw[h]
mutual
theorem jH2:∀ (x u:Tm) (p:List Int),∀ y∈spT x u p,y.p.length+1≤p.length+(kZ x).length
 | .mk k a b s e l,u,p,y,hy=>by
  rw[spT] at hy
  rw[kZ,List.length_cons]
  rcases List.mem_cons.1 hy with rfl|hy
  ·show p.length+1≤_;omega
  by_cases h12:k=12
  ·rw[if_pos h12] at hy ⊢
   have:=spH_p l u p y hy;omega
  rw[if_neg h12] at hy ⊢
  by_cases h7:k=7
  ·rw[if_pos h7] at hy
   rw[if_pos (.inr h7)]
   have:=jI2 l _ p 0 y hy;omega
  rw[if_neg h7] at hy
  by_cases h11:k=11
  ·rw[if_pos h11] at hy
   rw[if_pos (.inl h11)]
   have:=jI2 l u p 0 y hy;omega
  ·rw[if_neg h11] at hy;cases hy
theorem jI2:∀ (l:List Tm) (u:Tm) (p:List Int) (j:Nat),∀ y∈spL l u p j,y.p.length≤p.length+(gO l).length
 | [],_,_,_,y,hy=>by cases hy
 | x :: l,u,p,j,y,hy=>by
  rw[spL] at hy
  rw[gO,List.length_append]
  rcases List.mem_append.1 hy with hy|hy
  ·have:=jH2 x u _ y hy;rw[List.length_append] at this;simp at this;omega
  ·have:=jI2 l u p (j+1) y hy;omega
theorem spH_p:∀ (l:List Tm) (u:Tm) (p:List Int),∀ y∈spH l u p,y.p.length≤p.length+(actH l).length
 | [],_,_,y,hy=>by cases hy
 | x :: l,u,p,y,hy=>by
  rw[spH] at hy
  rw[actH]
  have:=jH2 x u _ y hy;rw[List.length_append] at this;simp at this;omega
end
theorem enF_b {t:Tm} (hz:kG t≤100000):(enF t).length<1000000∧∀ x∈enF t,x.p.length<1000000:=by
 have hk:=kD0 t
 have h1:=bX0 (jW t)
 have h2:=hk.z
 unfold enF
 refine ⟨?_,fun x hx=>?_⟩
 ·have h3:=dY0 (spT (jW t) (jW t) [])
  rw[gC0] at h3
  omega
 ·obtain ⟨y,hy,hxy⟩:=List.mem_flatMap.1 hx
  have h3:=jH2 _ _ _ y hy
  rw[stF_p hxy]
  simp at h3
  omega
theorem eP2 {t:Tm} (hs:smT t=true) (hz:kG t≤100000):jN (pp G) H0 39 [tmV t] (stsV (enF t)):=by
 have hk:=kD0 t
 have h1:=bX0 (jW t)
 have h2:=hk.z
 exact mF0 G t hs (hk.s hs) (by omega)
theorem sm2 {x y:Tm} (k:Int) (hx:smT x=true) (hy:smT y=true):smT (.mk k 0 0 [] zE [x,y])=true:=by simp[smT,smTs,hx,hy,zE,smE,smEs]
def preS (q:List Int) (s:St):St:=⟨s.k,q++s.p,s.a⟩
theorem jE2 (q:List Int) (t u:Tm) (p:List Int):stF ⟨t,u,q++p⟩=(stF ⟨t,u,p⟩).map (preS q):=by
 unfold stF
 dsimp only
 split
 ·rfl
 split
 ·split<;>rfl
 split<;>rfl
mutual
theorem eD0 (q:List Int):∀ (x u:Tm) (p:List Int),stS (spT x u (q++p))=(stS (spT x u p)).map (preS q)
 | .mk k a b s e l,u,p=>by
  rw[spT,spT,uQ0,uQ0,List.map_append,jE2]
  congr 1
  by_cases h12:k=12
  ·rw[if_pos h12,if_pos h12];exact jJ2 q l u p
  rw[if_neg h12,if_neg h12]
  by_cases h7:k=7
  ·rw[if_pos h7,if_pos h7];exact nD0 q l _ p 0
  rw[if_neg h7,if_neg h7]
  by_cases h11:k=11
  ·rw[if_pos h11,if_pos h11];exact nD0 q l u p 0
  ·rw[if_neg h11,if_neg h11];rfl
theorem nD0 (q:List Int):∀ (l:List Tm) (u:Tm) (p:List Int) (j:Nat),stS (spL l u (q++p) j)=(stS (spL l u p j)).map (preS q)
 | [],_,_,_=>rfl
 | x :: l,u,p,j=>by rw[spL,spL,wI0,wI0,List.map_append,List.append_assoc,eD0 q x,nD0 q l]
theorem jJ2 (q:List Int):∀ (l:List Tm) (u:Tm) (p:List Int),stS (spH l u (q++p))=(stS (spH l u p)).map (preS q)
 | [],_,_=>rfl
 | x :: l,u,p=>by rw[spH,spH,List.append_assoc,eD0 q x]
end
def litB (a:Tm):Nat→List Value
 | 0=>tmC a
 | m+1=>[.int .i64 7,.int .i64 0,.int .i64 0,.string (Tx []),.int .i64 0,.int .i64 0,.string (Tx []),.slice none 0 0,Rw true etm 1 (litB a m)]
@[push_cast]theorem litB_c (a:Tm) (m:Nat):(Value.agg ⟨litB a m⟩).cells.toList=litB a m:=rfl
def rise (x y:St):Prop:=(x.p=y.p∧x.a=0∧y.a=1)∨∃ (q:List Int) (i j:Int) (r s:List Int),i<j∧x.p=q++i :: r∧y.p=q++j :: s
theorem zT1 {x u:Tm} {p:List Int} {s:St} (h:s∈stS (spT x u p)):∃ r,s.p=p++r:=by
 have:=eD0 p x u []
 rw[List.append_nil] at this
 rw[this] at h
 obtain ⟨y,_,rfl⟩:=List.mem_map.1 h
 exact ⟨y.p,rfl⟩
theorem zU1:∀ (l:List Tm) (u:Tm) (p:List Int) (j:Nat),∀ s∈stS (spL l u p j),∃ (i:Nat) (r:List Int),j≤i∧s.p=p++(i:Int) :: r
 | [],_,_,_,s,h=>by cases h
 | x :: l,u,p,j,s,h=>by
  rw[spL,wI0] at h
  rcases List.mem_append.1 h with h|h
  ·obtain ⟨r,hr⟩:=zT1 h
   exact ⟨j,r,Nat.le_refl _,by rw[hr,List.append_assoc];rfl⟩
  ·obtain ⟨i,r,h1,h2⟩:=zU1 l u p (j+1) s h
   exact ⟨i,r,by omega,h2⟩
mutual
theorem ascT:∀ (x u:Tm) (p:List Int),(stS (spT x u p)).Pairwise rise
 | .mk k a b s e l,u,p=>by
  rw[spT,uQ0]
  by_cases h0:k=12∨k=7∨k=11
  ·have e:stF ⟨.mk k a b s e l,u,p⟩=[]:=by unfold stF;rw[if_pos (by show k=0∨k=14∨k=12∨k=11∨k=7;omega)]
   rw[e,List.nil_append]
   by_cases h12:k=12
   ·rw[if_pos h12];exact ascH l u p
   rw[if_neg h12]
   by_cases h7:k=7
   ·rw[if_pos h7];exact ascL l _ p 0
   ·rw[if_neg h7,if_pos (by omega)];exact ascL l u p 0
  ·rw[if_neg (by omega),if_neg (by omega),if_neg (by omega)]
   show (_++[]).Pairwise rise
   rw[List.append_nil]
   unfold stF
   split
   ·exact .nil
   split
   ·split
    ·exact List.pairwise_singleton _ _
    ·exact .nil
   split
   ·refine .cons (fun y hy=>?_) (List.pairwise_singleton _ _)
    simp at hy
    subst hy
    exact .inl ⟨rfl,rfl,rfl⟩
   ·exact List.pairwise_singleton _ _
theorem ascL:∀ (l:List Tm) (u:Tm) (p:List Int) (j:Nat),(stS (spL l u p j)).Pairwise rise
 | [],_,_,_=>.nil
 | x :: l,u,p,j=>by
  rw[spL,wI0,List.pairwise_append]
  refine ⟨ascT x u _,ascL l u p (j+1),fun y hy z hz=>.inr ?_⟩
  obtain ⟨r,hr⟩:=zT1 hy
  obtain ⟨i,s,h1,h2⟩:=zU1 l u p (j+1) z hz
  exact ⟨p,j,i,r,s,by omega,by rw[hr,List.append_assoc];rfl,h2⟩
theorem ascH:∀ (l:List Tm) (u:Tm) (p:List Int),(stS (spH l u p)).Pairwise rise
 | [],_,_=>.nil
 | x :: l,u,p=>by rw[spH];exact ascT x u _
end
theorem uQ2 {x y:St} (h:rise x y):¬ (x.p=y.p∧x.a=y.a):=by
 rintro ⟨h1,h2⟩
 rcases h with ⟨_,h3,h4⟩|⟨q,i,j,r,s,hij,h3,h4⟩
 ·omega
 ·rw[h3,h4] at h1
  have:=List.append_cancel_left h1
  injection this with h5
  omega
theorem en_ne {t:Tm} {k i:Nat} {x y:St} (hx:(enF t)[k]?=some x) (hy:(enF t)[i]?=some y) (hk:k<i):¬ (x.p=y.p∧x.a=y.a):=by
 have h:=List.pairwise_iff_getElem.1 (ascT (jW t) (jW t) [])
 obtain ⟨h1,rfl⟩:=List.getElem?_eq_some_iff.1 hx
 obtain ⟨h2,rfl⟩:=List.getElem?_eq_some_iff.1 hy
 exact uQ2 (h k i h1 h2 hk)
inductive Dr:List St→List St→Prop
 | nil:Dr [] []
 | same (x:St) {a b:List St} (h:Dr a b):Dr (x :: a) (x :: b)
 | skip (x:St) (hx:x.k=8) {a b:List St} (h:Dr a b):Dr (x :: a) b
theorem Dr.refl:∀ a:List St,Dr a a
 | []=>.nil
 | x :: a=>.same x (Dr.refl a)
theorem Dr.app {a b c d:List St} (h:Dr a b) (g:Dr c d):Dr (a++c) (b++d):=by
 induction h with
 | nil=>exact g
 | same x _ ih=>exact .same x ih
 | skip x hx _ ih=>exact .skip x hx ih
theorem Dr.len {a b:List St} (h:Dr a b):b.length≤a.length:=by
 induction h with
 | nil=>exact Nat.le_refl _
 | same x _ ih=>simp;exact ih
 | skip x hx _ ih=>simp;omega
theorem Dr.mem {a b:List St} (h:Dr a b):∀ y∈b,y∈a:=by
 induction h with
 | nil=>exact fun y h=>h
 | same x _ ih=>
  intro y hy
  rcases List.mem_cons.1 hy with rfl|hy
  ·simp
  ·simp[ih y hy]
 | skip x hx _ ih=>intro y hy;simp[ih y hy]
theorem gU2 {k a b:Int} {s:List UInt8} {e:Ex} {l:List Tm} {u v:Tm} (hv:jO0 v≠[]) (p:List Int):Dr (stF ⟨.mk k a b s e l,u,p⟩) (stF ⟨.mk k a b s e l,v,p⟩):=by
 unfold stF
 split
 ·exact .nil
 split
 ·split
  ·exact .skip _ rfl .nil
  ·exact .nil
 ·exact Dr.refl _
mutual
theorem zZ1 {v:Tm} (hv:jO0 v≠[]):∀ (x u:Tm) (p:List Int),Dr (stS (spT x u p)) (stS (spT x v p))
 | .mk k a b s e l,u,p=>by
  rw[spT,spT,uQ0,uQ0]
  refine (gU2 hv p).app ?_
  by_cases h12:k=12
  ·rw[if_pos h12,if_pos h12];exact gY2 hv l u p
  rw[if_neg h12,if_neg h12]
  by_cases h7:k=7
  ·rw[if_pos h7,if_pos h7];exact Dr.refl _
  rw[if_neg h7,if_neg h7]
  by_cases h11:k=11
  ·rw[if_pos h11,if_pos h11];exact sJ1 hv l u p 0
  ·rw[if_neg h11,if_neg h11];exact .nil
theorem sJ1 {v:Tm} (hv:jO0 v≠[]):∀ (l:List Tm) (u:Tm) (p:List Int) (j:Nat),Dr (stS (spL l u p j)) (stS (spL l v p j))
 | [],_,_,_=>.nil
 | x :: l,u,p,j=>by
  rw[spL,spL,wI0,wI0]
  exact (zZ1 hv x u _).app (sJ1 hv l u p (j+1))
theorem gY2 {v:Tm} (hv:jO0 v≠[]):∀ (l:List Tm) (u:Tm) (p:List Int),Dr (stS (spH l u p)) (stS (spH l v p))
 | [],_,_=>.nil
 | x :: l,u,p=>by rw[spH,spH];exact zZ1 hv x u _
end
def wtT:Tm:=.mk 14 0 (-1) [112,97,121] zE []
theorem kK2 (x:Tm):∃ m,enF (.mk 11 0 0 [] zE [x,wtT])=m.map (preS [0])∧Dr (enF x) m:=by
 have hw:jW wtT=wtT:=rfl
 have hn:jW (.mk 11 0 0 [] zE [x,wtT])=.mk 11 0 0 [] zE [jW x,wtT]:=by rw[jW,if_neg (by decide),if_pos rfl,hw,if_neg (fun h=>by cases h.2)]
 have hv:jO0 (.mk 11 0 0 [] zE [jW x,wtT])≠[]:=by
  have e:kZ (.mk 11 0 0 [] zE [jW x,wtT])=.mk 11 0 0 [] zE [jW x,wtT] :: (kZ (jW x)++[wtT]):=by simp[kZ,gO,wtT]
  unfold jO0
  rw[e,tN1 (by decide),gE2]
  intro h
  have:=(List.append_eq_nil_iff.1 h).2
  cases this
 refine ⟨stS (spT (jW x) (.mk 11 0 0 [] zE [jW x,wtT]) []),?_,zZ1 hv _ _ _⟩
 unfold enF
 rw[hn,spT,if_neg (by decide),if_neg (by decide),if_pos rfl,uQ0]
 have e:stF ⟨.mk 11 0 0 [] zE [jW x,wtT],.mk 11 0 0 [] zE [jW x,wtT],[]⟩=[]:=by unfold stF;rw[if_pos (.inr (.inr (.inr (.inl rfl))))]
 rw[e,List.nil_append,spL,spL,spL,wI0,List.append_nil,← eD0 [0]]
 have e2:stS (spT wtT (.mk 11 0 0 [] zE [jW x,wtT]) ([]++[((0+1:Nat):Int)]))=[]:=rfl
 rw[e2,List.append_nil]
 rfl
theorem bJ2 (σ:jA):bsD (qq.m 23) (slT prog 23) 1 [(0,.int .i64 0)] σ=some (Rw true eI 1 [.int .i64 0],σ):=by kernel_rfl
theorem app1 (p:List Int) (hp:p.length<1000000) (σ:jA) (hln:1≤σ.next):∃ v τ,apS eI 1 8 (Rw true eI 1 [.int .i64 0]) (srcD 1 (ivV p) σ) σ=some (v,τ)∧FzV prog 1 τ v (ivV (0 :: p))∧jE σ τ (fun _=>False):=by
 have hs:srcD 1 (ivV p) σ=some (p.length,ivs p):=sI1 _ (by rw[uC0,Nat.mul_one])
 rw[hs]
 have he:apS eI 1 8 (Rw true eI 1 [.int .i64 0]) (some (p.length,ivs p)) σ=(if p.length=0 then some (Rw true eI 1 [.int .i64 0],σ) else some (Value.slice (some ⟨σ.next,0,none⟩) (1+p.length) UC,σ.add (O ([.int .i64 0]++ivs p) eI true))):=by
  show (if (ivs p).all one=true then (if ([.int .i64 0]:List Value).length=1*1∧((1+p.length)*8≤140737488355328∧(1+p.length)<100000000000000)∧([.int .i64 0]:List Value).all one=true then (if p.length=0 then some (Rw true eI 1 [.int .i64 0],σ) else some (Value.slice (some ⟨σ.next,0,none⟩) (1+p.length) UC,σ.add (O ([.int .i64 0]++ivs p) eI true))) else none) else none)=_
  rw[if_pos (kH0 p),if_pos ⟨rfl,by omega,rfl⟩]
 rw[he]
 by_cases h0:p.length=0
 ·rw[if_pos h0]
  obtain rfl:p=[]:=List.length_eq_zero_iff.1 h0
  exact ⟨_,_,rfl,.row (.ids rfl),jE.refl _ _⟩
 ·rw[if_neg h0]
  refine ⟨_,_,rfl,?_,jE.add _ _ _⟩
  have hc2:cells (σ.add (O ([.int .i64 0]++ivs p) eI true)) σ.next=_:=bY _ _ _ _ rfl
  have hv:ivV (0 :: p)=Rw false eI (1+p.length) (ivs (0 :: p)):=by unfold ivV;rw[List.length_cons,Nat.add_comm]
  rw[hv]
  refine .sl (full:=[.int .i64 0]++ivs p) (m:=true) hln hc2 (size:=1) rfl (by decide) (by simp[uC0];omega) (.inr ⟨rfl,Nat.le_refl _,by simp,by unfold U;omega⟩) ?_
  rw[List.drop_zero,List.take_of_length_le (by simp[uC0];omega)]
  exact .ids (kX0 _ (0 :: p))
theorem Dr.inv {x y:St} {a b:List St} (h:Dr (x :: a) (y :: b)):(x=y∧Dr a b)∨(x.k=8∧Dr a (y :: b)):=by
 cases h with
 | same _ h=>exact .inl ⟨rfl,h⟩
 | skip _ hx h=>exact .inr ⟨hx,h⟩
theorem Dr.inv0 {x:St} {a:List St} (h:Dr (x :: a) []):x.k=8∧Dr a []:=by
 cases h with
 | skip _ hx h=>exact ⟨hx,h⟩
def mV (m:List St):Value:=Rw false 60 m.length (stCs (m.map (preS [0])))
inductive I15 (p m:List St):Nat→S→Prop
 | mk (i k:Nat) (iv kv:Int) (h:jA) {x0 x1 x2 x3 x4 x9 xA xB xC xD xE xF xG xH xI xJ xK xL xM xN xO xP xQ xR xS xT xU xV xW xX xY xZ yA yB yC yD yE yF yG yH yI yJ yK yL yM yN yO yP yQ yR yS yT yU yV yW yX yY yZ zA zB zC zD zF zG zH zI zJ zK zL zM zN zO zP zQ zR zS zU zV zW zX zY zZ wA wB wC wD wE:Value} (hiv:iv=(i:Int)) (hkv:kv=(k:Int)) (hi:i≤p.length) (hk:k≤m.length) (hd:Dr (p.drop i) (m.drop k)) (hl1:h.lo=1) (hl2:1≤h.next) :
  I15 p m (p.length-i) ⟨(F91 x0 x1 x2 x3 x4 (stsV p) (mV m) (.int .i64 kv) (.int .i64 iv) x9 xA xB xC xD xE xF xG xH xI xJ xK xL xM xN xO xP xQ xR xS xT xU xV xW xX xY xZ yA yB yC yD yE yF yG yH yI yJ yK yL yM yN yO yP yQ yR yS yT yU yV yW yX yY yZ zA zB zC zD zF zG zH zI zJ zK zL zM zN zO zP zQ zR zS zU zV zW zX zY zZ wA wB wC wD wE),[],h⟩
theorem wZ1 (p m:List St) (hd:Dr p m) (hB:p.length<1000000∧∀ x∈p,x.p.length<1000000) (hD:∀ {k i:Nat} {x y:St},p[k]?=some x→p[i]?=some y→k<i→¬ (x.p=y.p∧x.a=y.a)) (h:jA) (hl1:h.lo=1) (hl2:1≤h.next) {R:Value→jA→Prop} (hR:∀ h',R (.bool true) h') {x0 x1 x2 x3 x4 x7 x8 x9 xA xB xC xD xE xF xG xH xI xJ xK xL xM xN xO xP xQ xR xS xT xU xV xW xX xY xZ yA yB yC yD yE yF yG yH yI yJ yK yL yM yN yO yP yQ yR yS yT yU yV yW yX yY yZ zA zB zC zD zF zG zH zI zJ zK zL zM zN zO zP zQ zR zS zU zV zW zX zY zZ wA wB wC wD wE:Value} :
  dc3 (pp G) qq none fF0 ⟨(F91 x0 x1 x2 x3 x4 (stsV p) (mV m) x7 x8 x9 xA xB xC xD xE xF xG xH xI xJ xK xL xM xN xO xP xQ xR xS xT xU xV xW xX xY xZ yA yB yC yD yE yF yG yH yI yJ yK yL yM yN yO yP yQ yR yS yT yU yV yW yX yY yZ zA zB zC zD zF zG zH zI zJ zK zL zM zN zO zP zQ zR zS zU zV zW zX zY zZ wA wB wC wD wE),[],h⟩ (@kR ⟨jI prog [.tmp 2] R⟩):=by
 have hA:∀ l:List St,stsV l=Rw false 60 l.length (stCs l):=fun _=>rfl
 have hM:∀ m:List St,mV m=Rw false 60 m.length (stCs (m.map (preS [0]))):=fun _=>rfl
 have hlm:(m.map (preS [0])).length=m.length:=List.length_map ..
 have hml:=hd.len
 have hd0:=hd.mem
 rw[qL1]
 simp(disch:=first|omega|(apply id;simp only[push_cast];try omega))only[push_cast,simprocAttr]
 refine WD.loop4 (q:=qq) (jQ G) (by kernel_rfl) (I15 p m) ?_ _ _ (I15.mk 0 0 0 0 h rfl rfl (Nat.zero_le _) (Nat.zero_le _) hd hl1 hl2)
 clear hl1 hl2
 intro n s1 hI
 cases hI with|mk i k iv kv h hiv hkv hi hk hd hl1 hl2=>
 subst hiv
 subst hkv
 rw[qK1]
 by_cases hil:(i:Int)<p.length
 ·obtain ⟨y,hy⟩:=qQ (l:=p) (i:=i) (by omega)
  have hdp:p.drop i=y :: p.drop (i+1):=(List.drop_eq_getElem?_toList_append ..).trans (by rw[hy];rfl)
  have e1:=sG1 hy
  have e2:=sF1 hy
  have e3:=sH1 hy
  have hle:i*3+2<p.length*3:=by omega
  have hsy:=rS0 1 (by decide) y.p
  have hyl:=hB.2 y (List.mem_of_getElem? hy)
  have no:Dr (p.drop (i+1)) (m.drop k)→y.k=8→∀ z,m[k]?=some z→¬ (z.p=y.p∧z.a=y.a):=fun hd' h8 z hz=>by
   have hzm:z∈m.drop k:=by
    have:(m.drop k)[0]?=some z:=by rw[List.getElem?_drop];exact hz
    exact List.mem_of_getElem? this
   obtain ⟨j,hj⟩:=List.mem_iff_getElem?.1 (hd'.mem z hzm)
   rw[List.getElem?_drop] at hj
   exact fun ⟨h1,h2⟩=>hD hy hj (by omega) ⟨h1.symm,h2.symm⟩
  rw[hdp] at hd
  by_cases hkm:(k:Int)<m.length
  ·obtain ⟨z,hz⟩:=qQ (l:=m) (i:=k) (by omega)
   have hdm:m.drop k=z :: m.drop (k+1):=(List.drop_eq_getElem?_toList_append ..).trans (by rw[hz];rfl)
   have hz':(m.map (preS [0]))[k]?=some ⟨z.k,[0]++z.p,z.a⟩:=by rw[List.getElem?_map,hz];rfl
   have g1:=sG1 hz'
   have g2:=sF1 hz'
   have g3:=sH1 hz'
   have hle2:k*3+2<m.length*3:=by omega
   have hsz:=rS0 1 (by decide) (0 :: z.p)
   have hzl:=hB.2 z (hd0 z (List.mem_of_getElem? hz))
   obtain ⟨v,τ,hap,hfz,gg⟩:=app1 y.p hyl h hl2
   have hn2:=gg.next
   have hl3:=gg.lo
   have hfz2:FzL (pp G).P τ.lo τ [ivV (0 :: z.p),v] [ivV (0 :: z.p),ivV (0 :: y.p)]:=by rw[hl3,hl1];exact .cons (.id hsz) (.cons hfz .nil)
   rcases (hdm ▸ hd:Dr (y :: p.drop (i+1)) (z :: m.drop (k+1))).inv with ⟨rfl,hd'⟩|⟨h8,hd'⟩
   ·simp(disch:=first|omega|(apply id;simp only[push_cast];try omega))only[push_cast,simprocAttr,hA,hM,hlm,hil,hkm,e1,e2,e3,g1,g2,g3,hle,hle2,Int.toNat_natCast,hl1,beq_self_eq_true,decide_true,↓bJ2]
    simp(disch:=first|omega|(apply id;simp only[push_cast];try omega))only[push_cast,simprocAttr,hap]
    refine jC.lend (sT1 G (0 :: y.p) (0 :: y.p) (by simp;omega) (by simp;omega)) (hfz2) rfl ?_
    simp(disch:=first|omega|(apply id;simp only[push_cast];try omega))only[push_cast,simprocAttr,hA,hM,hlm,g2,hle2,e2,hle]
    exact ⟨_,by omega,I15.mk (i+1) (k+1) _ _ _ (by first|rfl|omega) (by first|rfl|omega) (by omega) (by omega) hd' (by rw[hl3,hl1]) (by omega)⟩
   ·have hne:=no (hdm ▸ hd') h8 z hz
    by_cases hkk:z.k=y.k
    ·by_cases haa:z.a=y.a
     ·have hpp:¬ (0 :: z.p=0 :: y.p):=fun e=>hne ⟨List.tail_eq_of_cons_eq e,haa⟩
      simp(disch:=first|omega|(apply id;simp only[push_cast];try omega))only[push_cast,simprocAttr,hA,hM,hlm,hil,hkm,e1,e2,e3,g1,g2,g3,hle,hle2,Int.toNat_natCast,hl1,hkk,haa,beq_self_eq_true,decide_true,↓bJ2]
      simp(disch:=first|omega|(apply id;simp only[push_cast];try omega))only[push_cast,simprocAttr,hap]
      refine jC.lend (sT1 G (0 :: z.p) (0 :: y.p) (by simp;omega) (by simp;omega)) (hfz2) rfl ?_
      rw[decide_eq_false hpp]
      simp(disch:=first|omega|(apply id;simp only[push_cast];try omega))only[push_cast,simprocAttr,hA,hM,hlm,g2,hle2,e1,e2,hle,h8,Int.toNat_natCast,bne_self_eq_false]
      exact ⟨_,by omega,I15.mk (i+1) k _ _ _ (by first|rfl|omega) rfl (by omega) hk (by rw[hdm];exact hd') (by first|exact hl1|rw[hl3,hl1]) (by omega)⟩
     ·simp(disch:=first|omega|(apply id;simp only[push_cast];try omega))only[push_cast,simprocAttr,hA,hM,hlm,hil,hkm,e1,e2,e3,g1,g2,g3,hle,hle2,Int.toNat_natCast,hl1,hkk,haa,beq_self_eq_true,decide_true,h8,bne_self_eq_false]
      exact ⟨_,by omega,I15.mk (i+1) k _ _ _ (by first|rfl|omega) rfl (by omega) hk (by rw[hdm];exact hd') (by first|exact hl1|rw[hl3,hl1]) (by omega)⟩
    ·rw[h8] at hkk
     simp(disch:=first|omega|(apply id;simp only[push_cast];try omega))only[push_cast,simprocAttr,hA,hM,hlm,hil,hkm,e1,e2,e3,g1,g2,g3,hle,hle2,Int.toNat_natCast,hl1,hkk,h8,bne_self_eq_false]
     exact ⟨_,by omega,I15.mk (i+1) k _ _ _ (by first|rfl|omega) rfl (by omega) hk (by rw[hdm];exact hd') (by first|exact hl1|rw[hl3,hl1]) (by omega)⟩
  ·have hdm:m.drop k=[]:=List.drop_eq_nil_of_le (by omega)
   obtain ⟨h8,hd'⟩:=(hdm ▸ hd:Dr (y :: p.drop (i+1)) []).inv0
   simp(disch:=first|omega|(apply id;simp only[push_cast];try omega))only[push_cast,simprocAttr,hA,hM,hlm,hil,hkm,e1,e2,e3,hle,Int.toNat_natCast,hl1,h8,bne_self_eq_false]
   exact ⟨_,by omega,I15.mk (i+1) k _ _ _ (by first|rfl|omega) rfl (by omega) hk (by rw[hdm];exact hd') (by first|exact hl1|rw[hl3,hl1]) (by omega)⟩
 ·obtain rfl:i=p.length:=by omega
  rw[List.drop_length] at hd
  have hkl:k=m.length:=by
   have:=hd.len
   rw[List.length_drop,List.length_nil] at this
   omega
  subst hkl
  simp(disch:=first|omega|(apply id;simp only[push_cast];try omega))only[push_cast,simprocAttr,hA,hM,hlm,hil]
  rw[qJ1]
  simp(disch:=first|omega|(apply id;simp only[push_cast];try omega))only[push_cast,simprocAttr,hM,beq_self_eq_true,decide_true]
  exact hR _
def wtC:List Value:=[.int .i64 14,.int .i64 0,.int .i64 (-1),.string (Tx [112,97,121]),.int .i64 0,.int .i64 0,.string (Tx []),.slice none 0 0,.slice none 0 0]
theorem uN2 (a:Tm) (σ:jA):bsD (qq.m 32) (slT prog 32) 2 [(0,tmV a),(1,.agg ⟨[.int .i64 14,.int .i64 0,.int .i64 (-1),.string (Tx [112,97,121]),.int .i64 0,.int .i64 0,.string (Tx []),.slice none 0 0,.slice none 0 0]⟩)] σ=some (Rw true 34 2 (tmC a++wtC),σ):=by cases a;kernel_rfl
theorem gH2 {P:Program} {N:Nat} (hN:0<N) (σ:jA) (h1:szT P eE=some 4) (h2:szT P etm=some 9) (a:Tm):FzL P N σ (tmC a++wtC) (uW [a,wtT]):=by
 have hw:FzL P N σ wtC (tmC wtT++[]):=.cons (.id rfl) (.cons (.id rfl) (.cons (.id rfl) (.cons (.id rfl) (.cons (.id rfl) (.cons (.id rfl) (.cons (.id rfl) (.cons (.nil (size:=4) h1 (by decide)) (.cons (.nil (size:=9) h2 (by decide)) .nil))))))))
 have go:∀ l:List Value,scL N l=true→FzL P N σ (l++wtC) (l++(tmC wtT++[])):=by
  intro l hl
  induction l with
  | nil=>exact hw
  | cons v l ih=>
   simp only[scL,Bool.and_eq_true] at hl
   exact .cons (.id hl.1) (ih hl.2)
 exact go (tmC a) (iJ0 N hN a)
theorem kW1 (n:Nat):∀ a b:List Value,scL n (a++b)=(scL n a&&scL n b)
 | [],b=>rfl
 | x :: a,b=>by simp only[List.cons_append,scL,kW1 n a b,Bool.and_assoc]
@[push_cast]theorem tw_sc (n:Nat) (hn:0<n) (a:Tm):Ev.sc n (Rw true 34 2 (tmC a++wtC))=true:=by
 have h1:=iJ0 n hn a
 have h2:scL n wtC=true:=by simp[wtC,scL,Ev.sc]
 have h3:scL n (tmC a++wtC)=true:=by rw[kW1,h1,h2];rfl
 simp[Rw,Ev.sc,scL,hn,h3]
theorem wait_law (r:Rb) (hr:smB r=true):jN (pp G) H0 15 [rbV r] (.bool true):=by
 have hlo:H0.lo≤H0.next:=Nat.le_refl _;refine jN.cut (jH.fir4 (q:=qq) (jQ G) fir15 (by kernel_rfl) rfl rfl (yH2 ..) (show NGG≤H0.lo by rw[qW];decide) ?_);rw[uK2]
 simp(disch:=first|omega|(apply id;simp only[push_cast];try omega))only[push_cast,simprocAttr]
 refine jC.dataI (lO1 G) (by and_intros<;>first|rfl|(simp(disch:=first|omega|(apply id;simp only[push_cast];try omega))only[push_cast])) ?_
 have hcl:∀ x:Rb,(rbV x).cells.toList=rbC x:=fun _=>rfl
 have hone:=nQ0
 have hlen:=cD
 have htk:∀ r:Rb,(rbC r).take 5=rbC r:=fun r=>List.take_of_length_le (by rw[cD];exact Nat.le_refl _)
 simp(disch:=first|omega|(apply id;simp only[push_cast];try omega))only[push_cast,simprocAttr,hcl,hone,hlen,htk,↓sL1]
 refine jC.data (dX2 G 0 0 [r] (by simp) (by simp[smBs,hr])) (dW2 G _ (by decide) _ [r]) (by first|rfl|(simp(disch:=first|omega|(apply id;simp only[push_cast];try omega))only[push_cast])) (by first|rfl|(simp(disch:=first|omega|(apply id;simp only[push_cast];try omega))only[push_cast])) ?_
 cases hf:fewB [r] with
 | false=>simp(disch:=first|omega|(apply id;simp only[push_cast];try omega))only[push_cast,simprocAttr,Bool.not_false];exact .id rfl
 | true=>
 simp(disch:=first|omega|(apply id;simp only[push_cast];try omega))only[push_cast,simprocAttr,Bool.not_true]
 refine jC.dataEI (wS2 G r 0 hr) (by and_intros<;>first|rfl|(simp(disch:=first|omega|(apply id;simp only[push_cast];try omega))only[push_cast])) ?_
 rintro _ ⟨a,rfl,ha⟩
 refine ⟨by simp(disch:=first|omega|(apply id;simp only[push_cast];try omega))only[push_cast,simprocAttr];first|done|rfl,?_⟩
 have htc:∀ x:Tm,(tmV x).cells.toList=tmC x:=fun _=>rfl
 obtain ⟨m,hm,hd⟩:=kK2 a
 have hza:kG a≤100000:=by have:=ha.2.2;omega
 have hsz:kG (.mk 11 0 0 [] zE [a,wtT])≤100000:=by
  have:=ha.2.2
  simp only[kG,uT,wtT];omega
 have hsm:smT (.mk 11 0 0 [] zE [a,wtT])=true:=sm2 11 ha.1 rfl
 have hB:=enF_b hza
 have hD:=@en_ne a
 have hmV:stsV (enF (.mk 11 0 0 [] zE [a,wtT]))=mV m:=by rw[hm];unfold stsV mV;rw[List.length_map]
 simp(disch:=first|omega|(apply id;simp only[push_cast];try omega))only[push_cast,simprocAttr,htc,bS,gA0,yN0,↓uN2]
 refine ⟨?_,?_⟩
 ·refine jC.dataI (en_f G ha) (by and_intros<;>first|rfl|(simp(disch:=first|omega|(apply id;simp only[push_cast];try omega))only[push_cast])) ?_
  simp(disch:=first|omega|(apply id;simp only[push_cast];try omega))only[push_cast,simprocAttr,htc,bS,gA0,yN0,↓uN2]
  refine jC.data (eP2 G hsm hsz) (.cons (rZ1 rfl 11 0 0 [] (l:=[a,wtT]) rfl (gH2 (by decide) _ rfl rfl a)) .nil) (by first|rfl|(simp(disch:=first|omega|(apply id;simp only[push_cast];try omega))only[push_cast])) (by first|rfl|(simp(disch:=first|omega|(apply id;simp only[push_cast];try omega))only[push_cast])) ?_
  rw[hmV]
  simp(disch:=first|omega|(apply id;simp only[push_cast];try omega))only[push_cast,simprocAttr]
  exact wZ1 G _ m hd hB hD _ (by first|rfl|simp(disch:=first|omega|(apply id;simp only[push_cast];try omega))only[push_cast,simprocAttr]) (by first|decide|(simp(disch:=first|omega|(apply id;simp only[push_cast];try omega))only[push_cast,simprocAttr];try omega)) (fun h'=>.id rfl)
 ·refine jC.dataI (en_f G ha) (by and_intros<;>first|rfl|(simp(disch:=first|omega|(apply id;simp only[push_cast];try omega))only[push_cast])) ?_
  simp(disch:=first|omega|(apply id;simp only[push_cast];try omega))only[push_cast,simprocAttr,htc,bS,gA0,yN0,↓uN2]
  refine jC.data (eP2 G hsm hsz) (.cons (rZ1 rfl 11 0 0 [] (l:=[a,wtT]) rfl (gH2 (by decide) _ rfl rfl a)) .nil) (by first|rfl|(simp(disch:=first|omega|(apply id;simp only[push_cast];try omega))only[push_cast])) (by first|rfl|(simp(disch:=first|omega|(apply id;simp only[push_cast];try omega))only[push_cast])) ?_
  rw[hmV]
  simp(disch:=first|omega|(apply id;simp only[push_cast];try omega))only[push_cast,simprocAttr]
  exact wZ1 G _ m hd hB hD _ (by first|rfl|simp(disch:=first|omega|(apply id;simp only[push_cast];try omega))only[push_cast,simprocAttr]) (by first|decide|(simp(disch:=first|omega|(apply id;simp only[push_cast];try omega))only[push_cast,simprocAttr];try omega)) (fun h'=>.id rfl)
end
end Go.Proofs.Ytgeakofgklcipaa
namespace Go.Proofs.Ytgeakofgklcipaa
open _root_.Go.Proofs.Try (prog)
open Go Go.RowKit Go.Ev Go.Dv
noncomputable section
set_option maxRecDepth 100000
section
variable {w:World} {H:Type} {enc:TypeId×Value→H}
theorem zI1:prog.underlying eI=some (.int .i64):=by kernel_rfl
theorem gG2:prog.underlying 36=some (.slice era):=by kernel_rfl
theorem u_rbs:prog.underlying 22=some (.slice erb):=by kernel_rfl
theorem f_raw:fieldsB prog era [(eI,0),(eI,1),(36,2)]=true:=by kernel_rfl
theorem f_rb:fieldsB prog erb [(eI,0),(eI,1),(eI,2),(36,3),(22,4)]=true:=by kernel_rfl
theorem iU0:∀ l:List Ra,l.flatMap raC=raCs l
 | []=>rfl
 | x :: l=>by rw[List.flatMap_cons,iU0 l,raCs]
theorem iS0:∀ l:List Rb,l.flatMap rbC=rbCs l
 | []=>rfl
 | x :: l=>by rw[List.flatMap_cons,iS0 l,rbCs]
theorem kA1:∀ {l:List Ra},(∀ x∈l,smR x=true)→smRs l=true
 | [],_=>rfl
 | x :: l,h=>by rw[smRs,h x (by simp),kA1 fun y hy=>h y (by simp[hy])];rfl
theorem kH1:∀ {l:List Rb},(∀ x∈l,smB x=true)→smBs l=true
 | [],_=>rfl
 | x :: l,h=>by rw[smBs,h x (by simp),kH1 fun y hy=>h y (by simp[hy])];rfl
theorem lB1:∀ (fuel:Nat) {cs:List Value} {x:DataW H×List MemPlace},DataW.trod enc prog w 0 (fun _=>true) true fuel 36 cs=some x→(x.1.weights prog 36).all (·≤reachBytes)=true→
  ∃ l:List Ra,Go.Dv.Op prog 1 LL w [rasV l] cs∧smRs l=true∧l.length<1000000000000000:=by
 intro fuel
 induction fuel using Nat.strongRecOn with
 | ind fuel ih=>
 intro cs x h hw
 obtain ⟨l,h1,h2,h3⟩:=open_slice (n:=1) (L:=LL) gG2 (size:=3) (by kernel_rfl) (by kernel_rfl) (by omega) (of_decide_eq_true (by kernel_rfl)) raC (fun r=>smR r=true) h hw fun k c y hk hy hwy=>by
  obtain ⟨k',hk',hl,hfs⟩:=gO0 f_raw hy hwy
  rw[show prog.cellsOf era=3 by kernel_rfl] at hl
  match c,hl with
  | [a,b,d],_=>
   obtain ⟨y0,t0,_⟩:=hfs 0 _ _ rfl
   obtain ⟨y1,t1,_⟩:=hfs 1 _ _ rfl
   obtain ⟨y2,t2,w2⟩:=hfs 2 _ _ rfl
   rw[show prog.cellsOf eI=1 by kernel_rfl] at t0 t1
   rw[show prog.cellsOf 36=1 by kernel_rfl] at t2
   obtain ⟨m0,e0,o0,_⟩:=zG0 (n:=1) (L:=LL) zI1 t0
   obtain ⟨m1,e1,o1,_⟩:=zG0 (n:=1) (L:=LL) zI1 t1
   obtain ⟨l2,o2,s2,n2⟩:=ih k' (by omega) t2 w2
   refine ⟨.mk m0 m1 l2,?_,?_⟩
   ·exact (o0.append o1).append o2
   ·simp only[smR,s2,Bool.and_true,decide_eq_true_eq];exact n2
 rw[iU0] at h1
 exact ⟨l,h1,kA1 h2,h3⟩
theorem dA0 (fuel:Nat) (ih:∀ k,k<fuel→∀ {cs:List Value} {x:DataW H×List MemPlace},DataW.trod enc prog w 0 (fun _=>true) true k 22 cs=some x→(x.1.weights prog 22).all (·≤reachBytes)=true→
   ∃ l:List Rb,Go.Dv.Op prog 1 LL w [rbsV l] cs∧smBs l=true∧l.length<1000000000000000)
  {c:List Value} {y:DataW H×List MemPlace} (hy:DataW.trod enc prog w 0 (fun _=>true) true fuel erb c=some y) (hwy:(y.1.weights prog erb).all (·≤reachBytes)=true) :
  ∃ r:Rb,Go.Dv.Op prog 1 LL w (rbC r) c∧smB r=true:=by
 obtain ⟨k',hk',hl,hfs⟩:=gO0 f_rb hy hwy
 rw[show prog.cellsOf erb=5 by kernel_rfl] at hl
 match c,hl with
 | [a,b,d,e,f],_=>
  obtain ⟨y0,t0,_⟩:=hfs 0 _ _ rfl
  obtain ⟨y1,t1,_⟩:=hfs 1 _ _ rfl
  obtain ⟨y2,t2,_⟩:=hfs 2 _ _ rfl
  obtain ⟨y3,t3,w3⟩:=hfs 3 _ _ rfl
  obtain ⟨y4,t4,w4⟩:=hfs 4 _ _ rfl
  rw[show prog.cellsOf eI=1 by kernel_rfl] at t0 t1 t2
  rw[show prog.cellsOf 36=1 by kernel_rfl] at t3
  rw[show prog.cellsOf 22=1 by kernel_rfl] at t4
  obtain ⟨m0,e0,o0,_⟩:=zG0 (n:=1) (L:=LL) zI1 t0
  obtain ⟨m1,e1,o1,_⟩:=zG0 (n:=1) (L:=LL) zI1 t1
  obtain ⟨m2,e2,o2,_⟩:=zG0 (n:=1) (L:=LL) zI1 t2
  obtain ⟨l3,o3,s3,n3⟩:=lB1 k' t3 w3
  obtain ⟨l4,o4,s4,n4⟩:=ih k' (by omega) t4 w4
  refine ⟨.mk m0 m1 m2 l3 l4,?_,?_⟩
  ·exact (((o0.append o1).append o2).append o3).append o4
  ·simp only[smB,s3,s4,Bool.and_true,Bool.and_eq_true,decide_eq_true_eq];exact ⟨n4,n3⟩
theorem lA1:∀ (fuel:Nat) {cs:List Value} {x:DataW H×List MemPlace},DataW.trod enc prog w 0 (fun _=>true) true fuel 22 cs=some x→(x.1.weights prog 22).all (·≤reachBytes)=true→
  ∃ l:List Rb,Go.Dv.Op prog 1 LL w [rbsV l] cs∧smBs l=true∧l.length<1000000000000000:=by
 intro fuel
 induction fuel using Nat.strongRecOn with
 | ind fuel ih=>
 intro cs x h hw
 obtain ⟨l,h1,h2,h3⟩:=open_slice (n:=1) (L:=LL) u_rbs (size:=5) (by kernel_rfl) (by kernel_rfl) (by omega) (of_decide_eq_true (by kernel_rfl)) rbC (fun r=>smB r=true) h hw fun k c y hk hy hwy=>
  dA0 k (fun k' hk'=>ih k' (by omega)) hy hwy
 rw[iS0] at h1
 exact ⟨l,h1,kH1 h2,h3⟩
theorem open_rb (fuel:Nat) {c:List Value} {y:DataW H×List MemPlace} (hy:DataW.trod enc prog w 0 (fun _=>true) true fuel erb c=some y) (hwy:(y.1.weights prog erb).all (·≤reachBytes)=true) :
  ∃ r:Rb,Go.Dv.Op prog 1 LL w (rbC r) c∧smB r=true:=dA0 fuel (fun k _=>lA1 k) hy hwy
end
end
end Go.Proofs.Ytgeakofgklcipaa
namespace Go.Proofs.Ytgeakofgklcipaa
open _root_.Go.Proofs.Try (prog)
open Go Go.RowKit Go.Ev Go.Dv
noncomputable section
@[reducible] def witB:Value:=.agg ⟨[.int .i64 0,.int .i64 0,.int .i64 0,.slice none 0 0,.slice none 0 0]⟩
end
end Go.Proofs.Ytgeakofgklcipaa
