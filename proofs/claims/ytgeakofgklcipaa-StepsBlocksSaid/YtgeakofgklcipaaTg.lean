/-
  A part of the proof: what the program's functions hand back,as theorems. No condition but those that each theorem names.
-/
import Derived.Test.YtgeakofgklcipaaTf
import Derived.Test.YtgeakofgklcipaaTa
import Derived.Test.YtgeakofgklcipaaEvd
import Derived.Test.YtgeakofgklcipaaExd
import Derived.Test.YtgeakofgklcipaaTe
import Derived.Test.YtgeakofgklcipaaTb
set_option linter.unusedSimpArgs false
set_option linter.unusedVariables false
namespace Go.Proofs.Ytgeakofgklcipaa
open _root_.Go.Proofs.Try (prog)
open Go Go.RowKit Go.Ev Go.Dv
noncomputable section
set_option maxRecDepth 100000
variable (G:Nat×Nat)
theorem few_fz (N:Nat) (hN:0<N) (σ:jA) (l:List Rb):FzL (pp G).P N σ [.agg ⟨[.int .i64 0,.int .i64 0,Rw true erb l.length (rbCs l)]⟩] [shV 0 0 l]:=
 .cons (.agg (.cons (.id rfl) (.cons (.id rfl) (.cons (.row (.ids (rbCs_sc _ hN _))) .nil)))) .nil
theorem made5_f (r:Rb) (w:Int) (hr:smB r=true):kK (pp G) H0 22 [rbV r,.int .i64 w] (fun d=>∃ y,d=tmV y∧goodT y):=
 fun g h vs hP hrr hv=>(make5_f G r w hr g h vs hP hrr hv).mono fun u h' ⟨d,g',⟨y,e,hs,hy⟩,x⟩=>⟨d,g',⟨y,e,made_good hs hy⟩,x⟩
inductive I23 (a b:List Int):Nat→S→Prop
 | mk (i:Nat) (iv:Int) (h:jA) {x2 x3 x4 x6 x7 x8 x9 xA xB xC xD xE xF xG xH xI xJ xK xL xM xN xO xP:Value} (hiv:iv=(i:Int)) (hi:i≤a.length) (he:∀ j,j<i→a.getD j 0=b.getD j 0) (hl1:h.lo=1) (hl2:1≤h.next) :
  I23 a b (a.length-i) ⟨(F26 (ivV a) (ivV b) x2 x3 x4 (.int .i64 iv) x6 x7 x8 x9 xA xB xC xD xE xF xG xH xI xJ xK xL xM xN xO xP),[],h⟩
theorem ints_f (a b:List Int) (ha:a.length<1000000000000) (hb:b.length<1000000000000):jM (pp G) H0 42 [ivV a,ivV b] (.bool (decide (a=b))):=by
 have hlo:H0.lo≤H0.next:=Nat.le_refl _;refine jM.cut (jH.fir4 (q:=qq) (jR G) fir42 (by kernel_rfl) rfl rfl (F26_arr ..) (show NGG≤H0.lo by rw[qU];decide) ?_);rw[sd_ir42]
 have hA:ivV a=Rw false eI a.length (ivs a):=rfl
 have hB:ivV b=Rw false eI b.length (ivs b):=rfl
 by_cases hl:a.length=b.length
 rotate_left
 ·rw[decide_eq_false (fun e=>hl (by rw[e]))]
  have hl':¬ (a.length:Int)=b.length:=by omega
  simp(disch:=first|omega|(apply id;simp only[push_cast];try omega))only[push_cast,simprocAttr,hA,hB,hl']
  exact .id rfl
 have hl':(a.length:Int)=b.length:=by omega
 simp(disch:=first|omega|(apply id;simp only[push_cast];try omega))only[push_cast,simprocAttr,hA,hB,hl']
 rw[← hA,← hB]
 refine WD.loop4 (q:=qq) (jR G) (by kernel_rfl) (I23 a b) ?_ _ _ (I23.mk 0 0 _ rfl (Nat.zero_le _) (fun j hj=>by omega) rfl (by first|assumption|(simp(disch:=first|omega|(apply id;simp only[push_cast];try omega))only[push_cast,simprocAttr];try omega)))
 intro m s1 hI
 cases hI with|mk i iv h hiv hi he hl1 hl2=>
 subst hiv
 rw[sd_ir42_s0]
 by_cases hil:(i:Int)<a.length
 ·have hilb:(i:Int)<b.length:=by omega
  have g1:=ivs_get' (l:=a) (i:=i) (by omega)
  have g2:=ivs_get' (l:=b) (i:=i) (by omega)
  by_cases hx:a.getD i 0=b.getD i 0
  ·simp(disch:=first|omega|(apply id;simp only[push_cast];try omega))only[push_cast,simprocAttr,hA,hB,hil,hilb,g1,g2,hx,Int.toNat_natCast]
   rw[← hA,← hB]
   exact ⟨_,by omega,I23.mk (i+1) _ _ (by first|rfl|omega) (by omega) (fun j hj=>by
    by_cases e:j=i
    ·subst e;exact hx
    ·exact he j (by omega)) (by first|assumption|(simp(disch:=first|omega|(apply id;simp only[push_cast];try omega))only[push_cast,simprocAttr,hl1];try omega)) (by first|assumption|(simp(disch:=first|omega|(apply id;simp only[push_cast];try omega))only[push_cast,simprocAttr];try omega))⟩
  ·rw[decide_eq_false (fun e=>hx (by rw[e]))]
   simp(disch:=first|omega|(apply id;simp only[push_cast];try omega))only[push_cast,simprocAttr,hA,hB,hil,hilb,g1,g2,hx,Int.toNat_natCast]
   exact .id rfl
 ·simp(disch:=first|omega|(apply id;simp only[push_cast];try omega))only[push_cast,simprocAttr,hA,hB,hil]
  rw[sd_ir42_s1]
  rw[decide_eq_true (List.ext_getElem hl fun j h1 h2=>by
   have:=he j (by omega)
   rw[List.getD_eq_getElem?_getD,List.getD_eq_getElem?_getD,List.getElem?_eq_getElem h1,List.getElem?_eq_getElem h2] at this
   exact this)]
  simp(disch:=first|omega|(apply id;simp only[push_cast];try omega))only[push_cast,simprocAttr]
  exact .id rfl
mutual
theorem act_len:∀ x:Tm,((kW x).length:Int)≤qZ x
 | .mk k a b s e l=>by
  rw[kW,qZ]
  have hL:=act_lens l
  have hH:=act_lenh l
  have hp:=sizeTs_pos l
  split
  ·rw[List.length_cons];omega
  ·split
   ·rw[List.length_cons];omega
   ·simp;omega
theorem act_lens:∀ l:List Tm,((gQ l).length:Int)≤uU l
 | []=>by simp[gQ,uU]
 | x :: l=>by rw[gQ,uU,List.length_append];have:=act_len x;have:=act_lens l;omega
theorem act_lenh:∀ l:List Tm,((actH l).length:Int)≤uU l
 | []=>by simp[actH,uU]
 | x :: l=>by rw[actH,uU];have:=act_len x;have:=sizeTs_pos l;omega
end
structure NmOk (t n:Tm):Prop where
 i:jS n=n
 z:qZ n≤qZ t
 r:∀ q,kQ 3 2 5 q t=true→kQ 3 2 5 q n=true
 s:smT t=true→smT n=true
theorem NmOk.of_eq {t:Tm} (h:jS t=t):NmOk t (jS t):=by
 rw[h];exact ⟨h,Int.le_refl _,fun _ h=>h,fun h=>h⟩
theorem nm_z (t:Tm):NmOk t zT:=⟨rfl,by have:=sizeT_pos t;show 1≤_;omega,fun q _=>by cases q<;>decide,fun _=>rfl⟩
theorem right_1 {q:Bool} {k a b:Int} {s:List UInt8} {e:Ex} {x x':Tm} (hx:∀ q,kQ 3 2 5 q x=true→kQ 3 2 5 q x'=true) (h:kQ 3 2 5 q (.mk k a b s e [x])=true):kQ 3 2 5 q (.mk k a b s e [x'])=true:=by
 simp only[kQ,rightTs,Bool.and_eq_true,List.length_singleton] at h ⊢
 exact ⟨h.1,h.2.1,h.2.2.1,h.2.2.2.1,h.2.2.2.2.1,h.2.2.2.2.2.1,h.2.2.2.2.2.2.1,hx _ h.2.2.2.2.2.2.2.1,trivial⟩
theorem right_2 {q:Bool} {k a b:Int} {s:List UInt8} {e:Ex} {x x' y y':Tm} (hx:∀ q,kQ 3 2 5 q x=true→kQ 3 2 5 q x'=true) (hy:∀ q,kQ 3 2 5 q y=true→kQ 3 2 5 q y'=true) (h:kQ 3 2 5 q (.mk k a b s e [x,y])=true):kQ 3 2 5 q (.mk k a b s e [x',y'])=true:=by
 simp only[kQ,rightTs,Bool.and_eq_true,List.length_cons,List.length_nil] at h ⊢
 exact ⟨h.1,h.2.1,h.2.2.1,h.2.2.2.1,h.2.2.2.2.1,h.2.2.2.2.2.1,h.2.2.2.2.2.2.1,hx _ h.2.2.2.2.2.2.2.1,hy _ h.2.2.2.2.2.2.2.2.1,trivial⟩
theorem right_snd {q:Bool} {a b:Int} {s:List UInt8} {e:Ex} {x y:Tm} (h:kQ 3 2 5 q (.mk 12 a b s e [x,y])=true):kQ 3 2 5 q y=true:=by
 simp only[kQ,rightTs,Bool.and_eq_true] at h
 have:=h.2.2.2.2.2.2.2.2.1
 cases q<;>exact this
theorem sm_1 {k a b:Int} {s:List UInt8} {e:Ex} {x x':Tm} (hx:smT x=true→smT x'=true) (h:smT (.mk k a b s e [x])=true):smT (.mk k a b s e [x'])=true:=by
 simp only[smT,smTs,Bool.and_eq_true,List.length_singleton] at h ⊢
 exact ⟨h.1,hx h.2.1,trivial⟩
theorem sm_2 {k a b:Int} {s:List UInt8} {e:Ex} {x x' y y':Tm} (hx:smT x=true→smT x'=true) (hy:smT y=true→smT y'=true) (h:smT (.mk k a b s e [x,y])=true):smT (.mk k a b s e [x',y'])=true:=by
 simp only[smT,smTs,Bool.and_eq_true,List.length_cons,List.length_nil] at h ⊢
 exact ⟨h.1,hx h.2.1,hy h.2.2.1,trivial⟩
theorem sz1 (k a b:Int) (s:List UInt8) (e:Ex) (x:Tm):qZ (.mk k a b s e [x])=1+qZ x:=by simp[qZ,uU]
theorem sz2 (k a b:Int) (s:List UInt8) (e:Ex) (x y:Tm):qZ (.mk k a b s e [x,y])=1+(qZ x+qZ y):=by simp[qZ,uU]
theorem norm_ok:∀ t:Tm,NmOk t (jS t)
 | .mk k a b s e [x,y]=>by
  have hx:=norm_ok x
  have hy:=norm_ok y
  rw[jS]
  by_cases h12:k=12
  ·subst h12
   rw[if_pos rfl]
   by_cases h0:(jS x).k=0
   ·rw[if_pos h0]
    refine ⟨hy.i,?_,fun q h=>hy.r q (right_snd h),fun h=>hy.s ?_⟩
    ·rw[sz2];have:=hy.z;have:=sizeT_pos x;omega
    ·simp only[smT,smTs,Bool.and_eq_true] at h;exact h.2.2.1
   ·rw[if_neg h0]
    refine ⟨?_,?_,fun q h=>right_2 hx.r (fun _ h=>h) h,sm_2 hx.s fun h=>h⟩
    ·rw[jS,if_pos rfl,hx.i,if_neg h0]
    ·rw[sz2,sz2];have:=hx.z;omega
  rw[if_neg h12]
  by_cases h11:k=11
  ·subst h11
   rw[if_pos rfl]
   by_cases h0:(jS x).k=0∧(jS y).k=0
   ·rw[if_pos h0];exact nm_z _
   ·rw[if_neg h0]
    refine ⟨?_,?_,fun q h=>right_2 hx.r hy.r h,sm_2 hx.s hy.s⟩
    ·rw[jS,if_neg (by decide),if_pos rfl,hx.i,hy.i,if_neg h0]
    ·rw[sz2,sz2];have:=hx.z;have:=hy.z;omega
  rw[if_neg h11]
  exact ⟨by rw[jS,if_neg h12,if_neg h11],Int.le_refl _,fun _ h=>h,fun h=>h⟩
 | .mk k a b s e [x]=>by
  have hx:=norm_ok x
  rw[jS]
  by_cases h7:k=7
  ·subst h7
   rw[if_pos rfl]
   by_cases h0:(jS x).k=0
   ·rw[if_pos h0];exact nm_z _
   ·rw[if_neg h0]
    refine ⟨?_,?_,fun q h=>right_1 hx.r h,sm_1 hx.s⟩
    ·rw[jS,if_pos rfl,hx.i,if_neg h0]
    ·rw[sz1,sz1];have:=hx.z;omega
  rw[if_neg h7]
  exact ⟨by rw[jS,if_neg h7],Int.le_refl _,fun _ h=>h,fun h=>h⟩
 | .mk k a b s e []=>.of_eq rfl
 | .mk k a b s e (x :: y :: z :: l)=>.of_eq rfl
 termination_by t=>SizeOf.sizeOf t
theorem en_f {t:Tm} (h:goodT t):jM (pp G) H0 39 [tmV t] (stsV (enF t)):=by
 have hk:=norm_ok t
 have h1:=act_len (jS t)
 have h2:=hk.z
 have h3:=h.2.2
 exact enabled_f G t h.1 (hk.s h.1) (by omega)
theorem sta_f {t:Tm} (h:goodT t):jM (pp G) H0 44 [tmV t] (.int .i64 (staF t)):=by
 have hk:=norm_ok t
 have h1:=act_len (jS t)
 have h2:=hk.z
 have h3:=h.2.2
 exact status_f G t h.1 (hk.s h.1) (by omega)
theorem stC_len (x:St):(stC x).length=3:=rfl
theorem stCs_len:∀ l:List St,(stCs l).length=l.length*3
 | []=>rfl
 | x :: l=>by rw[stCs,List.length_append,stCs_len l,stC_len,List.length_cons];omega
theorem stCs_get {l:List St} {i:Nat} {x:St} (h:l[i]?=some x) (j:Nat) (hj:j<3):(stCs l)[i*3+j]?=(stC x)[j]?:=by
 induction l generalizing i with
 | nil=>cases h
 | cons y l ih=>
  rw[stCs]
  cases i with
  | zero=>
   cases h
   rw[Nat.zero_mul,Nat.zero_add,List.getElem?_append_left (by rw[stC_len];exact hj)]
  | succ i=>
   rw[List.getElem?_append_right (by rw[stC_len];omega),stC_len,show (i+1)*3+j-3=i*3+j by omega]
   exact ih h
theorem stCs_k {l:List St} {i:Nat} {x:St} (h:l[i]?=some x):(stCs l)[i*3]?=some (.int .i64 x.k):=stCs_get h 0 (by omega)
theorem stCs_p {l:List St} {i:Nat} {x:St} (h:l[i]?=some x):(stCs l)[i*3+1]?=some (ivV x.p):=stCs_get h 1 (by omega)
theorem stCs_a {l:List St} {i:Nat} {x:St} (h:l[i]?=some x):(stCs l)[i*3+2]?=some (.int .i64 x.a):=stCs_get h 2 (by omega)
attribute [push_cast] stCs_len
theorem wS_cons {k a b:Int} {s:List UInt8} {e:Ex} {l:List Tm} (h:k≠14) (m:List Tm):wS (.mk k a b s e l :: m)=wS m:=by
 unfold wS;simp[Tm.k,h]
theorem stS_cons (x:Sp) (l:List Sp):stS (x :: l)=stF x++stS l:=by simp[stS]
theorem stS_app (a b:List Sp):stS (a++b)=stS a++stS b:=by simp[stS]
theorem stF_u {u u':Tm} (h:kI u=[]↔kI u'=[]) (t:Tm) (p:List Int):stF ⟨t,u,p⟩=stF ⟨t,u',p⟩:=by
 unfold stF
 by_cases hw:kI u=[]
 ·simp only[hw,h.1 hw]
 ·have hw':¬ kI u'=[]:=fun e=>hw (h.2 e)
  simp only[hw,hw']
mutual
theorem spT_u {u u':Tm} (h:kI u=[]↔kI u'=[]):∀ (x:Tm) (p:List Int),stS (spT x u p)=stS (spT x u' p)
 | .mk k a b s e l,p=>by
  rw[spT,spT,stS_cons,stS_cons,stF_u h]
  congr 1
  by_cases h12:k=12
  ·rw[if_pos h12,if_pos h12];exact spH_u h l p
  rw[if_neg h12,if_neg h12]
  by_cases h7:k=7
  ·rw[if_pos h7,if_pos h7]
  rw[if_neg h7,if_neg h7]
  by_cases h11:k=11
  ·rw[if_pos h11,if_pos h11];exact spL_u h l p 0
  ·rw[if_neg h11,if_neg h11]
theorem spL_u {u u':Tm} (h:kI u=[]↔kI u'=[]):∀ (l:List Tm) (p:List Int) (j:Nat),stS (spL l u p j)=stS (spL l u' p j)
 | [],_,_=>rfl
 | x :: l,p,j=>by rw[spL,spL,stS_app,stS_app,spT_u h x,spL_u h l]
theorem spH_u {u u':Tm} (h:kI u=[]↔kI u'=[]):∀ (l:List Tm) (p:List Int),stS (spH l u p)=stS (spH l u' p)
 | [],_=>rfl
 | x :: l,p=>by rw[spH,spH,spT_u h x]
end
theorem stF_p {x:St} {y:Sp} (h:x∈stF y):x.p=y.p:=by
 unfold stF at h
 split at h
 ·cases h
 split at h
 ·split at h
  ·simp at h;rw[h]
  ·cases h
 split at h
 ·simp at h;rcases h with rfl|rfl<;>rfl
 ·simp at h;rw[h]
mutual
theorem spT_p:∀ (x u:Tm) (p:List Int),∀ y∈spT x u p,y.p.length+1≤p.length+(kW x).length
 | .mk k a b s e l,u,p,y,hy=>by
  rw[spT] at hy
  rw[kW,List.length_cons]
  rcases List.mem_cons.1 hy with rfl|hy
  ·show p.length+1≤_;omega
  by_cases h12:k=12
  ·rw[if_pos h12] at hy ⊢
   have:=spH_p l u p y hy;omega
  rw[if_neg h12] at hy ⊢
  by_cases h7:k=7
  ·rw[if_pos h7] at hy
   rw[if_pos (.inr h7)]
   have:=spL_p l _ p 0 y hy;omega
  rw[if_neg h7] at hy
  by_cases h11:k=11
  ·rw[if_pos h11] at hy
   rw[if_pos (.inl h11)]
   have:=spL_p l u p 0 y hy;omega
  ·rw[if_neg h11] at hy;cases hy
theorem spL_p:∀ (l:List Tm) (u:Tm) (p:List Int) (j:Nat),∀ y∈spL l u p j,y.p.length≤p.length+(gQ l).length
 | [],_,_,_,y,hy=>by cases hy
 | x :: l,u,p,j,y,hy=>by
  rw[spL] at hy
  rw[gQ,List.length_append]
  rcases List.mem_append.1 hy with hy|hy
  ·have:=spT_p x u _ y hy;rw[List.length_append] at this;simp at this;omega
  ·have:=spL_p l u p (j+1) y hy;omega
theorem spH_p:∀ (l:List Tm) (u:Tm) (p:List Int),∀ y∈spH l u p,y.p.length≤p.length+(actH l).length
 | [],_,_,y,hy=>by cases hy
 | x :: l,u,p,y,hy=>by
  rw[spH] at hy
  rw[actH]
  have:=spT_p x u _ y hy;rw[List.length_append] at this;simp at this;omega
end
theorem enF_b {t:Tm} (hz:qZ t≤100000):(enF t).length<1000000∧∀ x∈enF t,x.p.length<1000000:=by
 have hk:=norm_ok t
 have h1:=act_len (jS t)
 have h2:=hk.z
 unfold enF
 refine ⟨?_,fun x hx=>?_⟩
 ·have h3:=stS_len (spT (jS t) (jS t) [])
  rw[spT_len] at h3
  omega
 ·obtain ⟨y,hy,hxy⟩:=List.mem_flatMap.1 hx
  have h3:=spT_p _ _ _ y hy
  rw[stF_p hxy]
  simp at h3
  omega
theorem enb_f {t:Tm} (hs:smT t=true) (hz:qZ t≤100000):jM (pp G) H0 39 [tmV t] (stsV (enF t)):=by
 have hk:=norm_ok t
 have h1:=act_len (jS t)
 have h2:=hk.z
 exact enabled_f G t hs (hk.s hs) (by omega)
theorem stab_f {t:Tm} (hs:smT t=true) (hz:qZ t≤100000):jM (pp G) H0 44 [tmV t] (.int .i64 (staF t)):=by
 have hk:=norm_ok t
 have h1:=act_len (jS t)
 have h2:=hk.z
 exact status_f G t hs (hk.s hs) (by omega)
theorem sm1 {x:Tm} (k:Int) (hx:smT x=true):smT (.mk k 0 0 [] zE [x])=true:=by simp[smT,smTs,hx,zE,smE,smEs]
theorem within7_f (a n:Int) (hn:0<n) (hn2:n<1000000000000):jM (pp G) H0 46 [.int .i64 a,.int .i64 n] (.int .i64 (jQ a n)):=by
 have hlo:H0.lo≤H0.next:=Nat.le_refl _;refine jM.cut (jH.fir4 (q:=qq) (jR G) fir46 (by kernel_rfl) rfl rfl (F15_arr ..) (show NGG≤H0.lo by rw[qU];decide) ?_);rw[sd_ir46]
 have h0:¬ n=0:=by omega
 have h1:¬ n = -1:=by omega
 have h2:=qF (a:=a) hn
 unfold jQ at h2 ⊢
 by_cases h:a.tmod n<0
 ·rw[if_pos h]
  rw[if_pos h] at h2
  have h3:IntKind.i64.wrap (a.tmod n+n)=a.tmod n+n:=W_in (by unfold In;omega)
  simp(disch:=first|omega|(apply id;simp only[push_cast];try omega))only[push_cast,simprocAttr,h,h0,h1,h3]
  exact .id rfl
 ·rw[if_neg h]
  rw[if_neg h] at h2
  simp(disch:=first|omega|(apply id;simp only[push_cast];try omega))only[push_cast,simprocAttr,h,h0,h1]
  exact .id rfl
def preS (q:List Int) (s:St):St:=⟨s.k,q++s.p,s.a⟩
theorem stF_pre (q:List Int) (t u:Tm) (p:List Int):stF ⟨t,u,q++p⟩=(stF ⟨t,u,p⟩).map (preS q):=by
 unfold stF
 dsimp only
 split
 ·rfl
 split
 ·split<;>rfl
 split<;>rfl
mutual
theorem spT_pre (q:List Int):∀ (x u:Tm) (p:List Int),stS (spT x u (q++p))=(stS (spT x u p)).map (preS q)
 | .mk k a b s e l,u,p=>by
  rw[spT,spT,stS_cons,stS_cons,List.map_append,stF_pre]
  congr 1
  by_cases h12:k=12
  ·rw[if_pos h12,if_pos h12];exact spH_pre q l u p
  rw[if_neg h12,if_neg h12]
  by_cases h7:k=7
  ·rw[if_pos h7,if_pos h7];exact spL_pre q l _ p 0
  rw[if_neg h7,if_neg h7]
  by_cases h11:k=11
  ·rw[if_pos h11,if_pos h11];exact spL_pre q l u p 0
  ·rw[if_neg h11,if_neg h11];rfl
theorem spL_pre (q:List Int):∀ (l:List Tm) (u:Tm) (p:List Int) (j:Nat),stS (spL l u (q++p) j)=(stS (spL l u p j)).map (preS q)
 | [],_,_,_=>rfl
 | x :: l,u,p,j=>by rw[spL,spL,stS_app,stS_app,List.map_append,List.append_assoc,spT_pre q x,spL_pre q l]
theorem spH_pre (q:List Int):∀ (l:List Tm) (u:Tm) (p:List Int),stS (spH l u (q++p))=(stS (spH l u p)).map (preS q)
 | [],_,_=>rfl
 | x :: l,u,p=>by rw[spH,spH,List.append_assoc,spT_pre q x]
end
theorem wt_block (x:Tm):kI (.mk 7 0 0 [] zE [x])=kI x:=by
 have e:kW (.mk 7 0 0 [] zE [x])=.mk 7 0 0 [] zE [x] :: kW x:=by simp[kW,gQ]
 unfold kI;rw[e,wS_cons (by decide)]
def bN:Nat→Tm→Tm
 | 0,a=>a
 | m+1,a=>.mk 7 0 0 [] zE [bN m a]
theorem wt_bN (a:Tm):∀ m,kI (bN m a)=kI a
 | 0=>rfl
 | m+1=>by rw[bN,wt_block,wt_bN a m]
theorem norm_bN {a:Tm} (h:(jS a).k≠0):∀ m,jS (bN m a)=bN m (jS a)∧(jS (bN m a)).k≠0
 | 0=>⟨rfl,h⟩
 | m+1=>by
  obtain ⟨h1,h2⟩:=norm_bN h m
  rw[bN,jS,if_pos rfl,if_neg h2,h1]
  exact ⟨rfl,show (7:Int)≠0 by decide⟩
theorem norm_bN0 {a:Tm} (h:(jS a).k=0):∀ m,(jS (bN m a)).k=0
 | 0=>h
 | m+1=>by rw[bN,jS,if_pos rfl,if_pos (norm_bN0 h m)];rfl
theorem sp_bN (a:Tm):∀ (m:Nat) (u u':Tm) (p:List Int),kI u=kI a→kI u'=kI a→stS (spT (bN m a) u p)=stS (spT a u' (p++List.replicate m 0))
 | 0,u,u',p,h,h'=>by rw[bN,List.replicate_zero,List.append_nil];exact spT_u (by rw[h,h']) a p
 | m+1,u,u',p,h,h'=>by
  have e:stF ⟨.mk 7 0 0 [] zE [bN m a],u,p⟩=[]:=by unfold stF;rw[if_pos (.inr (.inr (.inr (.inr rfl))))]
  rw[bN,spT,if_neg (by decide),if_pos rfl,stS_cons,e,List.nil_append,spL,spL,List.append_nil,sp_bN a m _ u' _ (by rw[wt_block,wt_bN]) h',List.replicate_succ,List.append_assoc]
  rfl
theorem enF_0' {t:Tm} (h:(jS t).k=0):enF t=[]:=by
 unfold enF
 generalize jS t=n at h
 obtain ⟨k,a,b,s,e,l⟩:=n
 have h:k=0:=h
 subst h
 rw[spT,if_neg (by decide),if_neg (by decide),if_neg (by decide),stS_cons]
 unfold stF
 rw[if_pos (.inl rfl)]
 rfl
theorem en_bN (a:Tm) (m:Nat):enF (bN m a)=(enF a).map (preS (List.replicate m 0)):=by
 by_cases h:(jS a).k=0
 ·rw[enF_0' (norm_bN0 h m),enF_0' h];rfl
 ·unfold enF
  rw[(norm_bN h m).1,sp_bN (jS a) m _ (jS a) [] (wt_bN _ m) rfl,List.nil_append]
  have:=spT_pre (List.replicate m 0) (jS a) (jS a) []
  rw[List.append_nil] at this
  exact this
theorem sta_bN (a:Tm) (m:Nat):staF (bN m a)=staF a:=by
 unfold staF
 rw[en_bN]
 by_cases h:(jS a).k=0
 ·rw[if_pos h,if_pos (norm_bN0 h m)]
 ·rw[if_neg h,if_neg (norm_bN h m).2]
  by_cases he:enF a=[]
  ·rw[he];rfl
  ·rw[if_neg he,if_neg (by simpa using he)]
theorem sz_bN (a:Tm):∀ m:Nat,qZ (bN m a)=m+qZ a
 | 0=>by simp[bN]
 | m+1=>by rw[bN];simp only[qZ,uU];rw[sz_bN a m];omega
theorem sm_bN {a:Tm} (h:smT a=true):∀ m:Nat,smT (bN m a)=true
 | 0=>h
 | m+1=>sm1 7 (sm_bN h m)
def litB (a:Tm):Nat→List Value
 | 0=>tmC a
 | m+1=>[.int .i64 7,.int .i64 0,.int .i64 0,.string (Tx []),.int .i64 0,.int .i64 0,.string (Tx []),.slice none 0 0,Rw true etm 1 (litB a m)]
theorem litB_len (a:Tm):∀ m,(litB a m).length=9
 | 0=>tmC_len a
 | m+1=>rfl
theorem litB_sc (n:Nat) (hn:0<n) (a:Tm):∀ m,scL n (litB a m)=true
 | 0=>tmC_sc n hn a
 | m+1=>by
  have:=litB_sc n hn a m
  simp[litB,scL,Ev.sc,Rw,hn,this]
theorem litB_fz {P:Program} {N:Nat} (hN:0<N) (σ:jA) (h1:szT P eE=some 4) (a:Tm):∀ m,FzL P N σ (litB a m) (tmC (bN m a))
 | 0=>.ids (tmC_sc N hN a)
 | m+1=>by
  have:=litB_fz hN σ h1 a m
  rw[litB,bN,tmC_mk]
  exact .cons (.id rfl) (.cons (.id rfl) (.cons (.id rfl) (.cons (.id rfl) (.cons (.id rfl) (.cons (.id rfl) (.cons (.id rfl) (.cons (.nil (size:=4) h1 (by decide)) (.cons (.row (by rw[tmCs_1];exact this)) .nil))))))))
theorem rowL1 (a:Tm) (m:Nat) (σ:jA):bsD (qq.m 32) (slT prog 32) 1 [(0,.agg ⟨litB a m⟩)] σ=some (Rw true 34 1 (litB a m),σ):=by
 cases m with
 | zero=>have:=rowT1 a σ;rw[tmCs_1] at this;exact this
 | succ m=>kernel_rfl
theorem bldL (a:Tm) (m:Nat):bdV (plc prog 34) [(0,.int .i64 7),(5,Rw true 34 1 (litB a m))]=some (.agg ⟨litB a (m+1)⟩):=by kernel_rfl
theorem litB_one (a:Tm):∀ m,(litB a m).all one=true
 | 0=>tmC_one a
 | m+1=>rfl
theorem litB_w (a:Tm) (m:Nat):(litB a m).take 9=litB a m:=List.take_of_length_le (by rw[litB_len];exact Nat.le_refl _)
theorem litB_c (a:Tm) (m:Nat):(Value.agg ⟨litB a m⟩).cells.toList=litB a m:=rfl
attribute [push_cast] litB_sc litB_len litB_w litB_c litB_one
inductive I14a (a:Tm) (n:Int) (m:Nat):Nat→S→Prop
 | mk (i:Nat) (iv:Int) (h:jA) {x0 x2 x3 x4 x8 x9 xA xB xC xD xE xF xG xH xI xJ xK xL xM xN xO xP xQ xR xS xT xU xV xW xX xY xZ yA yB yC yD yE yF yG yH yI yJ yK yL yM yN yO yP yQ yR yS yT yU yV yW yX yY yZ zA zB zC zD zF zG zH zI zJ zK zL zM zN zO zP zQ zR zS zU zV zW zX zY zZ wA wB wC wD wE wF wG wH wI wJ wK wL wM wN wO wP wQ wR wT wU wV wW wX:Value} (hiv:iv=(i:Int)) (hi:i≤m) (ca:cells h 2=some (tmC a,etm,false)) (cb:cells h 3=some (litB a i,etm,false)) (hl1:h.lo=1) (hl2:4≤h.next) :
  I14a a n m (m-i) ⟨(F109 x0 (.int .i64 n) x2 x3 x4 (.pointer (some ⟨2,0,none⟩)) (.pointer (some ⟨3,0,none⟩)) (.int .i64 iv) x8 x9 xA xB xC xD xE xF xG xH xI xJ xK xL xM xN xO xP xQ xR xS xT xU xV xW xX xY xZ yA yB yC yD yE yF yG yH yI yJ yK yL yM yN yO yP yQ yR yS yT yU yV yW yX yY yZ zA zB zC zD zF zG zH zI zJ zK zL zM zN zO zP zQ zR zS zU zV zW zX zY zZ wA wB wC wD wE wF wG wH wI wJ wK wL wM wN wO wP wQ wR wT wU wV wW wX),[],h⟩
inductive I14b (a:Tm) (n:Int) (m:Nat) (p q:List St):Nat→S→Prop
 | mk (i:Nat) (iv:Int) (h:jA) {x0 x2 x3 x4 x7 xB xC xD xE xF xG xH xI xJ xK xL xM xN xO xP xQ xR xS xT xU xV xW xX xY xZ yA yB yC yD yE yF yG yH yI yJ yK yL yM yN yO yP yQ yR yS yT yU yV yW yX yY yZ zA zB zC zD zF zG zH zI zJ zK zL zM zN zO zP zQ zR zS zU zV zW zX zY zZ wA wB wC wD wE wF wG wH wI wJ wK wL wM wN wO wP wQ wR wT wU wV wW wX:Value} (hiv:iv=(i:Int)) (hi:i≤p.length) (ca:cells h 2=some (tmC a,etm,false)) (cb:cells h 3=some (litB a m,etm,false)) (hl1:h.lo=1) (hl2:4≤h.next) :
  I14b a n m p q (p.length-i) ⟨(F109 x0 (.int .i64 n) x2 x3 x4 (.pointer (some ⟨2,0,none⟩)) (.pointer (some ⟨3,0,none⟩)) x7 (stsV p) (stsV q) (.int .i64 iv) xB xC xD xE xF xG xH xI xJ xK xL xM xN xO xP xQ xR xS xT xU xV xW xX xY xZ yA yB yC yD yE yF yG yH yI yJ yK yL yM yN yO yP yQ yR yS yT yU yV yW yX yY yZ zA zB zC zD zF zG zH zI zJ zK zL zM zN zO zP zQ zR zS zU zV zW zX zY zZ wA wB wC wD wE wF wG wH wI wJ wK wL wM wN wO wP wQ wR wT wU wV wW wX),[],h⟩
theorem blocks_s3 {a:Tm} (ha:goodT a) (n:Int) (m:Nat) (hm:m<6) (h:jA) (ca:cells h 2=some (tmC a,etm,false)) (cb:cells h 3=some (litB a m,etm,false)) (hl1:h.lo=1) {R:Value→jA→Prop} (hR:∀ h',R (.bool true) h') {x0 x1 x2 x3 x4 x7 x8 x9 xA xB xC xD xE xF xG xH xI xJ xK xL xM xN xO xP xQ xR xS xT xU xV xW xX xY xZ yA yB yC yD yE yF yG yH yI yJ yK yL yM yN yO yP yQ yR yS yT yU yV yW yX yY yZ zA zB zC zD zF zG zH zI zJ zK zL zM zN zO zP zQ zR zS zU zV zW zX zY zZ wA wB wC wD wE wF wG wH wI wJ wK wL wM wN wO wP wQ wR wT wU wV wW wX:Value} :
  dc3 (pp G) qq none ir14_s3 ⟨(F109 x0 x1 x2 x3 x4 (.pointer (some ⟨2,0,none⟩)) (.pointer (some ⟨3,0,none⟩)) x7 x8 x9 xA xB xC xD xE xF xG xH xI xJ xK xL xM xN xO xP xQ xR xS xT xU xV xW xX xY xZ yA yB yC yD yE yF yG yH yI yJ yK yL yM yN yO yP yQ yR yS yT yU yV yW yX yY yZ zA zB zC zD zF zG zH zI zJ zK zL zM zN zO zP zQ zR zS zU zV zW zX zY zZ wA wB wC wD wE wF wG wH wI wJ wK wL wM wN wO wP wQ wR wT wU wV wW wX),[],h⟩ (@kR ⟨jI prog [.tmp 4] R⟩):=by
 have hz:qZ (bN m a)≤100000:=by rw[sz_bN];have:=ha.2.2;omega
 rw[sd_ir14_s3]
 simp(disch:=first|omega|(apply id;simp only[push_cast];try omega))only[push_cast,simprocAttr,ca,cb,hl1,litB_w,litB_len]
 refine jC.dataI (sta_f G ha) (by and_intros<;>first|rfl|(simp(disch:=first|omega|(apply id;simp only[push_cast];try omega))only[push_cast])) ?_
 simp(disch:=first|omega|(apply id;simp only[push_cast];try omega))only[push_cast,simprocAttr]
 refine jC.data (stab_f G (sm_bN ha.1 m) hz) (.cons (.agg (litB_fz (by decide) _ rfl a m)) .nil) (by first|rfl|(simp(disch:=first|omega|(apply id;simp only[push_cast];try omega))only[push_cast])) (by first|rfl|(simp(disch:=first|omega|(apply id;simp only[push_cast];try omega))only[push_cast])) ?_
 rw[sta_bN]
 simp(disch:=first|omega|(apply id;simp only[push_cast];try omega))only[push_cast,simprocAttr]
 exact hR _
theorem blocks_s1 {a:Tm} (ha:goodT a) (n:Int) (m:Nat) (hm:m<6) (hmn:jQ n 6=m) (h:jA) (ca:cells h 2=some (tmC a,etm,false)) (cb:cells h 3=some (litB a m,etm,false)) (hl1:h.lo=1) (hl2:4≤h.next) {R:Value→jA→Prop} (hR:∀ h',R (.bool true) h') {x0 x2 x3 x4 x7 x8 x9 xA xB xC xD xE xF xG xH xI xJ xK xL xM xN xO xP xQ xR xS xT xU xV xW xX xY xZ yA yB yC yD yE yF yG yH yI yJ yK yL yM yN yO yP yQ yR yS yT yU yV yW yX yY yZ zA zB zC zD zF zG zH zI zJ zK zL zM zN zO zP zQ zR zS zU zV zW zX zY zZ wA wB wC wD wE wF wG wH wI wJ wK wL wM wN wO wP wQ wR wT wU wV wW wX:Value} :
  dc3 (pp G) qq none ir14_s1 ⟨(F109 x0 (.int .i64 n) x2 x3 x4 (.pointer (some ⟨2,0,none⟩)) (.pointer (some ⟨3,0,none⟩)) x7 x8 x9 xA xB xC xD xE xF xG xH xI xJ xK xL xM xN xO xP xQ xR xS xT xU xV xW xX xY xZ yA yB yC yD yE yF yG yH yI yJ yK yL yM yN yO yP yQ yR yS yT yU yV yW yX yY yZ zA zB zC zD zF zG zH zI zJ zK zL zM zN zO zP zQ zR zS zU zV zW zX zY zZ wA wB wC wD wE wF wG wH wI wJ wK wL wM wN wO wP wQ wR wT wU wV wW wX),[],h⟩ (@kR ⟨jI prog [.tmp 4] R⟩):=by
 have hz:qZ (bN m a)≤100000:=by rw[sz_bN];have:=ha.2.2;omega
 have hza:qZ a≤100000:=by have:=ha.2.2;omega
 have hen:=en_bN a m
 have hB:=enF_b hza
 rw[sd_ir14_s1]
 simp(disch:=first|omega|(apply id;simp only[push_cast];try omega))only[push_cast,simprocAttr,ca,cb,hl1,litB_w,litB_len]
 refine jC.dataI (en_f G ha) (by and_intros<;>first|rfl|(simp(disch:=first|omega|(apply id;simp only[push_cast];try omega))only[push_cast])) ?_
 simp(disch:=first|omega|(apply id;simp only[push_cast];try omega))only[push_cast,simprocAttr]
 refine jC.data (enb_f G (sm_bN ha.1 m) hz) (.cons (.agg (litB_fz (by decide) _ rfl a m)) .nil) (by first|rfl|(simp(disch:=first|omega|(apply id;simp only[push_cast];try omega))only[push_cast])) (by first|rfl|(simp(disch:=first|omega|(apply id;simp only[push_cast];try omega))only[push_cast])) ?_
 rw[hen]
 generalize enF a=p at hB ⊢
 have hA:∀ l:List St,stsV l=Rw false 60 l.length (stCs l):=fun _=>rfl
 have hlq:(p.map (preS (List.replicate m 0))).length=p.length:=List.length_map ..
 simp(disch:=first|omega|(apply id;simp only[push_cast];try omega))only[push_cast,simprocAttr,hA,hlq]
 rw[← hlq,← hA,hlq,← hA]
 refine WD.loop4 (q:=qq) (jR G) (by kernel_rfl) (I14b a n m p (p.map (preS (List.replicate m 0)))) ?_ _ _ (I14b.mk 0 0 _ rfl (Nat.zero_le _) ca cb hl1 hl2)
 clear ca cb hl1 hl2
 intro k s1 hI
 cases hI with|mk i iv h hiv hi ca cb hl1 hl2=>
 subst hiv
 rw[sd_ir14_s2]
 by_cases hil:(i:Int)<p.length
 ·obtain ⟨x,hx⟩:=qV (l:=p) (i:=i) (by omega)
  have hxm:=List.mem_of_getElem? hx
  have hxl:=hB.2 x hxm
  have hy:(p.map (preS (List.replicate m 0)))[i]?=some ⟨x.k,List.replicate m 0++x.p,x.a⟩:=by rw[List.getElem?_map,hx];rfl
  have e1:=stCs_k hx
  have e2:=stCs_p hx
  have e3:=stCs_a hx
  have g1:=stCs_k hy
  have g2:=stCs_p hy
  have g3:=stCs_a hy
  have hle:i*3+2<p.length*3:=by omega
  have hsc:=ivV_sc 1 (by decide) x.p
  have hsc2:=ivV_sc 1 (by decide) (List.replicate m 0++x.p)
  have hln:∀ l:List Int,lnD (some false) (ivV l)=some (.int .i64 l.length):=fun _=>rfl
  have hll:(((List.replicate m (0:Int)++x.p).length:Nat):Int)=x.p.length+m:=by rw[List.length_append,List.length_replicate];omega
  have hwr:IntKind.i64.wrap ((x.p.length:Int)+m)=x.p.length+m:=W_id (by omega)
  have hsl:∀ h,slD prog 23 (ivV (List.replicate m 0++x.p)) (some (.int .i64 m)) none none h=some (ivV x.p):=fun h=>by
   show slR (some (some (eI,1))) false eI (List.replicate m 0++x.p).length (ivs (List.replicate m 0++x.p)) (some (.int .i64 m)) none none=_
   rw[slR_l (m:Int) (by decide) (by rw[ivs_len,Nat.mul_one]) (by omega) (by rw[List.length_append,List.length_replicate];omega)]
   rw[Int.toNat_natCast,Nat.mul_one,ivs_app,List.drop_append_of_le_length (by rw[ivs_len,List.length_replicate];exact Nat.le_refl _),List.drop_eq_nil_of_le (by rw[ivs_len,List.length_replicate];exact Nat.le_refl _),List.nil_append,List.length_append,List.length_replicate,Nat.add_sub_cancel_left]
   rfl
  simp(disch:=first|omega|(apply id;simp only[push_cast];try omega))only[push_cast,simprocAttr,hA,hlq,hil,e1,e2,e3,g1,g2,g3,Int.toNat_natCast,hl1,bne_self_eq_false,hln,hll]
  refine jC.dataI (within7_f G n 6 (by omega) (by omega)) (by and_intros<;>first|rfl|(simp(disch:=first|omega|(apply id;simp only[push_cast];try omega))only[push_cast])) ?_
  rw[hmn]
  simp(disch:=first|omega|(apply id;simp only[push_cast];try omega))only[push_cast,simprocAttr,hwr,bne_self_eq_false,hA,hlq,hil,e2,g2,Int.toNat_natCast,hl1]
  refine jC.dataI (within7_f G n 6 (by omega) (by omega)) (by and_intros<;>first|rfl|(simp(disch:=first|omega|(apply id;simp only[push_cast];try omega))only[push_cast])) ?_
  rw[hmn]
  simp(disch:=first|omega|(apply id;simp only[push_cast];try omega))only[push_cast,simprocAttr,hsl]
  refine jC.dataI (ints_f G x.p x.p (by omega) (by omega)) (by and_intros<;>first|rfl|(simp(disch:=first|omega|(apply id;simp only[push_cast];try omega))only[push_cast])) ?_
  simp(disch:=first|omega|(apply id;simp only[push_cast];try omega))only[push_cast,simprocAttr,decide_true,Bool.not_true]
  rw[← hlq,← hA,hlq,← hA]
  exact ⟨_,by omega,I14b.mk (i+1) _ _ (by first|rfl|omega) (by omega) ca cb hl1 hl2⟩
 ·simp(disch:=first|omega|(apply id;simp only[push_cast];try omega))only[push_cast,simprocAttr,hA,hlq,hil]
  exact blocks_s3 G ha n m hm h ca cb hl1 hR
theorem blocks_law (r:Rb) (n:Int) (hr:smB r=true):jM (pp G) H0 14 [rbV r,.int .i64 n] (.bool true):=by
 have hlo:H0.lo≤H0.next:=Nat.le_refl _;refine jM.cut (jH.fir4 (q:=qq) (jR G) fir14 (by kernel_rfl) rfl rfl (F109_arr ..) (show NGG≤H0.lo by rw[qU];decide) ?_);rw[sd_ir14]
 simp(disch:=first|omega|(apply id;simp only[push_cast];try omega))only[push_cast,simprocAttr]
 refine jC.dataI (known7_f G) (by and_intros<;>first|rfl|(simp(disch:=first|omega|(apply id;simp only[push_cast];try omega))only[push_cast])) ?_
 have hcl:∀ x:Rb,(rbV x).cells.toList=rbC x:=fun _=>rfl
 have hone:=rbC_one
 have hlen:=cD
 have htk:∀ r:Rb,(rbC r).take 5=rbC r:=fun r=>List.take_of_length_le (by rw[cD];exact Nat.le_refl _)
 simp(disch:=first|omega|(apply id;simp only[push_cast];try omega))only[push_cast,simprocAttr,hcl,hone,hlen,htk,↓rowRb1]
 refine jC.data (few3_f G 0 0 [r] (by simp) (by simp[smBs,hr])) (few_fz G _ (by decide) _ [r]) (by first|rfl|(simp(disch:=first|omega|(apply id;simp only[push_cast];try omega))only[push_cast])) (by first|rfl|(simp(disch:=first|omega|(apply id;simp only[push_cast];try omega))only[push_cast])) ?_
 cases hf:fewB [r] with
 | false=>simp(disch:=first|omega|(apply id;simp only[push_cast];try omega))only[push_cast,simprocAttr,Bool.not_false];exact .id rfl
 | true=>
 simp(disch:=first|omega|(apply id;simp only[push_cast];try omega))only[push_cast,simprocAttr,Bool.not_true]
 refine jC.dataEI (made5_f G r 0 hr) (by and_intros<;>first|rfl|(simp(disch:=first|omega|(apply id;simp only[push_cast];try omega))only[push_cast])) ?_
 rintro _ ⟨a,rfl,ha⟩
 refine ⟨by simp(disch:=first|omega|(apply id;simp only[push_cast];try omega))only[push_cast,simprocAttr];first|done|rfl,?_⟩
 simp(disch:=first|omega|(apply id;simp only[push_cast];try omega))only[push_cast,simprocAttr]
 have hw:=qF (a:=n) (n:=6) (by omega)
 obtain ⟨m,hm⟩:∃ m:Nat,jQ n 6=m:=⟨(jQ n 6).toNat,by omega⟩
 refine WD.loop4 (q:=qq) (jR G) (by kernel_rfl) (I14a a n m) ?_ _ _ (I14a.mk 0 0 _ rfl (Nat.zero_le _) ?_ ?_ ?_ ?_)
 ·intro k s1 hI
  cases hI with|mk i iv h hiv hi ca cb hl1 hl2=>
  subst hiv
  rw[sd_ir14_s0]
  refine jC.dataI (within7_f G n 6 (by omega) (by omega)) (by and_intros<;>first|rfl|(simp(disch:=first|omega|(apply id;simp only[push_cast];try omega))only[push_cast])) ?_
  rw[hm]
  by_cases hil:(i:Int)<m
  ·have hd9:List.drop 9 (litB a i)=[]:=List.drop_eq_nil_of_le (by rw[litB_len];exact Nat.le_refl _)
   simp(disch:=first|omega|(apply id;simp only[push_cast];try omega))only[push_cast,simprocAttr,hil,cb,hl1,litB_w,litB_len,↓rowL1,↓bldL,hd9,List.append_nil]
   have gp:jE h (h.put 3 (O (litB a (i+1)) etm false)) (fun k=>k=3):=jE.put _ _ _ fun _=>rfl
   exact ⟨_,by omega,I14a.mk (i+1) _ _ (by first|rfl|omega) (by omega) (gp.cellsE ca (by omega) (by omega)) (cells_put_s _ _ _ _) hl1 hl2⟩
  ·obtain rfl:i=m:=by omega
   simp(disch:=first|omega|(apply id;simp only[push_cast];try omega))only[push_cast,simprocAttr,hil]
   exact blocks_s1 G ha n i (by omega) hm h ca cb hl1 hl2 (fun h'=>.id rfl)
 ·simp(disch:=first|omega|(apply id;simp only[push_cast];try omega))only[push_cast,simprocAttr]
 ·simp(disch:=first|omega|(apply id;simp only[push_cast];try omega))only[push_cast,simprocAttr];try rfl
 ·simp(disch:=first|omega|(apply id;simp only[push_cast];try omega))only[push_cast,simprocAttr]
 ·simp(disch:=first|omega|(apply id;simp only[push_cast];try omega))only[push_cast,simprocAttr];try omega
end
end Go.Proofs.Ytgeakofgklcipaa
namespace Go.Proofs.Ytgeakofgklcipaa
open _root_.Go.Proofs.Try (prog)
open Go Go.RowKit Go.Ev Go.Dv
noncomputable section
set_option maxRecDepth 100000
section
variable {w:World} {H:Type} {enc:TypeId×Value→H}
theorem u_int:prog.underlying eI=some (.int .i64):=by kernel_rfl
theorem u_raws:prog.underlying 36=some (.slice era):=by kernel_rfl
theorem u_rbs:prog.underlying 22=some (.slice erb):=by kernel_rfl
theorem f_raw:fieldsB prog era [(eI,0),(eI,1),(36,2)]=true:=by kernel_rfl
theorem f_rb:fieldsB prog erb [(eI,0),(eI,1),(eI,2),(36,3),(22,4)]=true:=by kernel_rfl
theorem raCs_flat:∀ l:List Ra,l.flatMap raC=raCs l
 | []=>rfl
 | x :: l=>by rw[List.flatMap_cons,raCs_flat l,raCs]
theorem rbCs_flat:∀ l:List Rb,l.flatMap rbC=rbCs l
 | []=>rfl
 | x :: l=>by rw[List.flatMap_cons,rbCs_flat l,rbCs]
theorem smRs_of:∀ {l:List Ra},(∀ x∈l,smR x=true)→smRs l=true
 | [],_=>rfl
 | x :: l,h=>by rw[smRs,h x (by simp),smRs_of fun y hy=>h y (by simp[hy])];rfl
theorem smBs_of:∀ {l:List Rb},(∀ x∈l,smB x=true)→smBs l=true
 | [],_=>rfl
 | x :: l,h=>by rw[smBs,h x (by simp),smBs_of fun y hy=>h y (by simp[hy])];rfl
theorem open_ras:∀ (fuel:Nat) {cs:List Value} {x:DataW H×List MemPlace},DataW.trod enc prog w 0 (fun _=>true) true fuel 36 cs=some x→(x.1.weights prog 36).all (·≤reachBytes)=true→
  ∃ l:List Ra,Go.Dv.Op prog 1 LL w [rasV l] cs∧smRs l=true∧l.length<1000000000000000:=by
 intro fuel
 induction fuel using Nat.strongRecOn with
 | ind fuel ih=>
 intro cs x h hw
 obtain ⟨l,h1,h2,h3⟩:=open_slice (n:=1) (L:=LL) u_raws (size:=3) (by kernel_rfl) (by kernel_rfl) (by omega) (of_decide_eq_true (by kernel_rfl)) raC (fun r=>smR r=true) h hw fun k c y hk hy hwy=>by
  obtain ⟨k',hk',hl,hfs⟩:=open_struct f_raw hy hwy
  rw[show prog.cellsOf era=3 by kernel_rfl] at hl
  match c,hl with
  | [a,b,d],_=>
   obtain ⟨y0,t0,_⟩:=hfs 0 _ _ rfl
   obtain ⟨y1,t1,_⟩:=hfs 1 _ _ rfl
   obtain ⟨y2,t2,w2⟩:=hfs 2 _ _ rfl
   rw[show prog.cellsOf eI=1 by kernel_rfl] at t0 t1
   rw[show prog.cellsOf 36=1 by kernel_rfl] at t2
   obtain ⟨m0,e0,o0,_⟩:=open_num (n:=1) (L:=LL) u_int t0
   obtain ⟨m1,e1,o1,_⟩:=open_num (n:=1) (L:=LL) u_int t1
   obtain ⟨l2,o2,s2,n2⟩:=ih k' (by omega) t2 w2
   refine ⟨.mk m0 m1 l2,?_,?_⟩
   ·exact (o0.append o1).append o2
   ·simp only[smR,s2,Bool.and_true,decide_eq_true_eq];exact n2
 rw[raCs_flat] at h1
 exact ⟨l,h1,smRs_of h2,h3⟩
theorem open_rb_of (fuel:Nat) (ih:∀ k,k<fuel→∀ {cs:List Value} {x:DataW H×List MemPlace},DataW.trod enc prog w 0 (fun _=>true) true k 22 cs=some x→(x.1.weights prog 22).all (·≤reachBytes)=true→
   ∃ l:List Rb,Go.Dv.Op prog 1 LL w [rbsV l] cs∧smBs l=true∧l.length<1000000000000000)
  {c:List Value} {y:DataW H×List MemPlace} (hy:DataW.trod enc prog w 0 (fun _=>true) true fuel erb c=some y) (hwy:(y.1.weights prog erb).all (·≤reachBytes)=true) :
  ∃ r:Rb,Go.Dv.Op prog 1 LL w (rbC r) c∧smB r=true:=by
 obtain ⟨k',hk',hl,hfs⟩:=open_struct f_rb hy hwy
 rw[show prog.cellsOf erb=5 by kernel_rfl] at hl
 match c,hl with
 | [a,b,d,e,f],_=>
  obtain ⟨y0,t0,_⟩:=hfs 0 _ _ rfl
  obtain ⟨y1,t1,_⟩:=hfs 1 _ _ rfl
  obtain ⟨y2,t2,_⟩:=hfs 2 _ _ rfl
  obtain ⟨y3,t3,w3⟩:=hfs 3 _ _ rfl
  obtain ⟨y4,t4,w4⟩:=hfs 4 _ _ rfl
  rw[show prog.cellsOf eI=1 by kernel_rfl] at t0 t1 t2
  rw[show prog.cellsOf 36=1 by kernel_rfl] at t3
  rw[show prog.cellsOf 22=1 by kernel_rfl] at t4
  obtain ⟨m0,e0,o0,_⟩:=open_num (n:=1) (L:=LL) u_int t0
  obtain ⟨m1,e1,o1,_⟩:=open_num (n:=1) (L:=LL) u_int t1
  obtain ⟨m2,e2,o2,_⟩:=open_num (n:=1) (L:=LL) u_int t2
  obtain ⟨l3,o3,s3,n3⟩:=open_ras k' t3 w3
  obtain ⟨l4,o4,s4,n4⟩:=ih k' (by omega) t4 w4
  refine ⟨.mk m0 m1 m2 l3 l4,?_,?_⟩
  ·exact (((o0.append o1).append o2).append o3).append o4
  ·simp only[smB,s3,s4,Bool.and_true,Bool.and_eq_true,decide_eq_true_eq];exact ⟨n4,n3⟩
theorem open_rbs:∀ (fuel:Nat) {cs:List Value} {x:DataW H×List MemPlace},DataW.trod enc prog w 0 (fun _=>true) true fuel 22 cs=some x→(x.1.weights prog 22).all (·≤reachBytes)=true→
  ∃ l:List Rb,Go.Dv.Op prog 1 LL w [rbsV l] cs∧smBs l=true∧l.length<1000000000000000:=by
 intro fuel
 induction fuel using Nat.strongRecOn with
 | ind fuel ih=>
 intro cs x h hw
 obtain ⟨l,h1,h2,h3⟩:=open_slice (n:=1) (L:=LL) u_rbs (size:=5) (by kernel_rfl) (by kernel_rfl) (by omega) (of_decide_eq_true (by kernel_rfl)) rbC (fun r=>smB r=true) h hw fun k c y hk hy hwy=>
  open_rb_of k (fun k' hk'=>ih k' (by omega)) hy hwy
 rw[rbCs_flat] at h1
 exact ⟨l,h1,smBs_of h2,h3⟩
theorem open_rb (fuel:Nat) {c:List Value} {y:DataW H×List MemPlace} (hy:DataW.trod enc prog w 0 (fun _=>true) true fuel erb c=some y) (hwy:(y.1.weights prog erb).all (·≤reachBytes)=true) :
  ∃ r:Rb,Go.Dv.Op prog 1 LL w (rbC r) c∧smB r=true:=open_rb_of fuel (fun k _=>open_rbs k) hy hwy
end
end
end Go.Proofs.Ytgeakofgklcipaa
namespace Go.Proofs.Ytgeakofgklcipaa
open _root_.Go.Proofs.Try (prog)
open Go Go.RowKit Go.Ev Go.Dv
noncomputable section
@[reducible] def witB:Value:=.agg ⟨[.int .i64 0,.int .i64 0,.int .i64 0,.slice none 0 0,.slice none 0 0]⟩
end
end Go.Proofs.Ytgeakofgklcipaa
