/-
  A part of the proof: what the program's functions hand back,as theorems. No condition but those that each theorem names.
-/
import Derived.Test.YtgeakofgklcipaaTf
import Derived.Test.YtgeakofgklcipaaTa
import Derived.Test.YtgeakofgklcipaaEvd
import Derived.Test.YtgeakofgklcipaaExd
import Derived.Test.YtgeakofgklcipaaTe
import Derived.Test.YtgeakofgklcipaaTb
set_option linter.unusedSimpArgs false
set_option linter.unusedVariables false
namespace Go.Proofs.Ytgeakofgklcipaa
open _root_.Go.Proofs.Try (prog)
open Go Go.RowKit Go.Ev Go.Dv
noncomputable section
set_option maxRecDepth 100000
variable (G:Nat×Nat)
theorem few_fz (N:Nat) (hN:0<N) (σ:jA) (l:List Rb):FzL (pp G).P N σ [.agg ⟨[.int .i64 0,.int .i64 0,Rw true erb l.length (rbCs l)]⟩] [shV 0 0 l]:=
 .cons (.agg (.cons (.id rfl) (.cons (.id rfl) (.cons (.row (.ids (rbCs_sc _ hN _))) .nil)))) .nil
theorem made5_f (r:Rb) (w:Int) (hr:smB r=true):kK (pp G) H0 22 [rbV r,.int .i64 w] (fun d=>∃ y,d=tmV y∧goodT y):=
 fun g h vs hP hrr hv=>(make5_f G r w hr g h vs hP hrr hv).mono fun u h' ⟨d,g',⟨y,e,hs,hy⟩,x⟩=>⟨d,g',⟨y,e,made_good hs hy⟩,x⟩
inductive I23 (a b:List Int):Nat→S→Prop
 | mk (i:Nat) (iv:Int) (h:jA) {x2 x3 x4 x6 x7 x8 x9 xA xB xC xD xE xF xG xH xI xJ xK xL xM xN xO xP:Value} (hiv:iv=(i:Int)) (hi:i≤a.length) (he:∀ j,j<i→a.getD j 0=b.getD j 0) (hl1:h.lo=1) (hl2:1≤h.next) :
  I23 a b (a.length-i) ⟨(F26 (ivV a) (ivV b) x2 x3 x4 (.int .i64 iv) x6 x7 x8 x9 xA xB xC xD xE xF xG xH xI xJ xK xL xM xN xO xP),[],h⟩
theorem ints_f (a b:List Int) (ha:a.length<1000000000000) (hb:b.length<1000000000000):jM (pp G) H0 42 [ivV a,ivV b] (.bool (decide (a=b))):=by
 have hlo:H0.lo≤H0.next:=Nat.le_refl _;refine jM.cut (jH.fir4 (q:=qq) (jQ G) fir42 (by kernel_rfl) rfl rfl (F26_arr ..) (show NGG≤H0.lo by rw[qO];decide) ?_);rw[sd_ir42]
 have hA:ivV a=Rw false eI a.length (ivs a):=rfl
 have hB:ivV b=Rw false eI b.length (ivs b):=rfl
 by_cases hl:a.length=b.length
 rotate_left
 ·rw[decide_eq_false (fun e=>hl (by rw[e]))]
  have hl':¬ (a.length:Int)=b.length:=by omega
  simp(disch:=first|omega|(apply id;simp only[push_cast];try omega))only[push_cast,simprocAttr,hA,hB,hl']
  exact .id rfl
 have hl':(a.length:Int)=b.length:=by omega
 simp(disch:=first|omega|(apply id;simp only[push_cast];try omega))only[push_cast,simprocAttr,hA,hB,hl']
 rw[← hA,← hB]
 refine WD.loop4 (q:=qq) (jQ G) (by kernel_rfl) (I23 a b) ?_ _ _ (I23.mk 0 0 _ rfl (Nat.zero_le _) (fun j hj=>by omega) rfl (by first|assumption|(simp(disch:=first|omega|(apply id;simp only[push_cast];try omega))only[push_cast,simprocAttr];try omega)))
 intro m s1 hI
 cases hI with|mk i iv h hiv hi he hl1 hl2=>
 subst hiv
 rw[sd_ir42_s0]
 by_cases hil:(i:Int)<a.length
 ·have hilb:(i:Int)<b.length:=by omega
  have g1:=ivs_get' (l:=a) (i:=i) (by omega)
  have g2:=ivs_get' (l:=b) (i:=i) (by omega)
  by_cases hx:a.getD i 0=b.getD i 0
  ·simp(disch:=first|omega|(apply id;simp only[push_cast];try omega))only[push_cast,simprocAttr,hA,hB,hil,hilb,g1,g2,hx,Int.toNat_natCast]
   rw[← hA,← hB]
   exact ⟨_,by omega,I23.mk (i+1) _ _ (by first|rfl|omega) (by omega) (fun j hj=>by
    by_cases e:j=i
    ·subst e;exact hx
    ·exact he j (by omega)) (by first|assumption|(simp(disch:=first|omega|(apply id;simp only[push_cast];try omega))only[push_cast,simprocAttr,hl1];try omega)) (by first|assumption|(simp(disch:=first|omega|(apply id;simp only[push_cast];try omega))only[push_cast,simprocAttr];try omega))⟩
  ·rw[decide_eq_false (fun e=>hx (by rw[e]))]
   simp(disch:=first|omega|(apply id;simp only[push_cast];try omega))only[push_cast,simprocAttr,hA,hB,hil,hilb,g1,g2,hx,Int.toNat_natCast]
   exact .id rfl
 ·simp(disch:=first|omega|(apply id;simp only[push_cast];try omega))only[push_cast,simprocAttr,hA,hB,hil]
  rw[sd_ir42_s1]
  rw[decide_eq_true (List.ext_getElem hl fun j h1 h2=>by
   have:=he j (by omega)
   rw[List.getD_eq_getElem?_getD,List.getD_eq_getElem?_getD,List.getElem?_eq_getElem h1,List.getElem?_eq_getElem h2] at this
   exact this)]
  simp(disch:=first|omega|(apply id;simp only[push_cast];try omega))only[push_cast,simprocAttr]
  exact .id rfl
mutual
theorem act_len:∀ x:Tm,((kZ x).length:Int)≤kI x
 | .mk k a b s e l=>by
  rw[kZ,kI]
  have hL:=act_lens l
  have hH:=act_lenh l
  have hp:=sizeTs_pos l
  split
  ·rw[List.length_cons];omega
  ·split
   ·rw[List.length_cons];omega
   ·simp;omega
theorem act_lens:∀ l:List Tm,((gW l).length:Int)≤uV l
 | []=>by simp[gW,uV]
 | x :: l=>by rw[gW,uV,List.length_append];have:=act_len x;have:=act_lens l;omega
theorem act_lenh:∀ l:List Tm,((actH l).length:Int)≤uV l
 | []=>by simp[actH,uV]
 | x :: l=>by rw[actH,uV];have:=act_len x;have:=sizeTs_pos l;omega
end
structure NmOk (t n:Tm):Prop where
 i:jU n=n
 z:kI n≤kI t
 r:∀ q,uT 3 2 5 q t=true→uT 3 2 5 q n=true
 s:smT t=true→smT n=true
theorem NmOk.of_eq {t:Tm} (h:jU t=t):NmOk t (jU t):=by
 rw[h];exact ⟨h,Int.le_refl _,fun _ h=>h,fun h=>h⟩
theorem nm_z (t:Tm):NmOk t zT:=⟨rfl,by have:=sizeT_pos t;show 1≤_;omega,fun q _=>by cases q<;>decide,fun _=>rfl⟩
theorem right_1 {q:Bool} {k a b:Int} {s:List UInt8} {e:Ex} {x x':Tm} (hx:∀ q,uT 3 2 5 q x=true→uT 3 2 5 q x'=true) (h:uT 3 2 5 q (.mk k a b s e [x])=true):uT 3 2 5 q (.mk k a b s e [x'])=true:=by
 simp only[uT,bV,Bool.and_eq_true,List.length_singleton] at h ⊢
 exact ⟨h.1,h.2.1,h.2.2.1,h.2.2.2.1,h.2.2.2.2.1,h.2.2.2.2.2.1,h.2.2.2.2.2.2.1,hx _ h.2.2.2.2.2.2.2.1,trivial⟩
theorem right_2 {q:Bool} {k a b:Int} {s:List UInt8} {e:Ex} {x x' y y':Tm} (hx:∀ q,uT 3 2 5 q x=true→uT 3 2 5 q x'=true) (hy:∀ q,uT 3 2 5 q y=true→uT 3 2 5 q y'=true) (h:uT 3 2 5 q (.mk k a b s e [x,y])=true):uT 3 2 5 q (.mk k a b s e [x',y'])=true:=by
 simp only[uT,bV,Bool.and_eq_true,List.length_cons,List.length_nil] at h ⊢
 exact ⟨h.1,h.2.1,h.2.2.1,h.2.2.2.1,h.2.2.2.2.1,h.2.2.2.2.2.1,h.2.2.2.2.2.2.1,hx _ h.2.2.2.2.2.2.2.1,hy _ h.2.2.2.2.2.2.2.2.1,trivial⟩
theorem right_snd {q:Bool} {a b:Int} {s:List UInt8} {e:Ex} {x y:Tm} (h:uT 3 2 5 q (.mk 12 a b s e [x,y])=true):uT 3 2 5 q y=true:=by
 simp only[uT,bV,Bool.and_eq_true] at h
 have:=h.2.2.2.2.2.2.2.2.1
 cases q<;>exact this
theorem sm_1 {k a b:Int} {s:List UInt8} {e:Ex} {x x':Tm} (hx:smT x=true→smT x'=true) (h:smT (.mk k a b s e [x])=true):smT (.mk k a b s e [x'])=true:=by
 simp only[smT,smTs,Bool.and_eq_true,List.length_singleton] at h ⊢
 exact ⟨h.1,hx h.2.1,trivial⟩
theorem sm_2 {k a b:Int} {s:List UInt8} {e:Ex} {x x' y y':Tm} (hx:smT x=true→smT x'=true) (hy:smT y=true→smT y'=true) (h:smT (.mk k a b s e [x,y])=true):smT (.mk k a b s e [x',y'])=true:=by
 simp only[smT,smTs,Bool.and_eq_true,List.length_cons,List.length_nil] at h ⊢
 exact ⟨h.1,hx h.2.1,hy h.2.2.1,trivial⟩
theorem sz1 (k a b:Int) (s:List UInt8) (e:Ex) (x:Tm):kI (.mk k a b s e [x])=1+kI x:=by simp[kI,uV]
theorem sz2 (k a b:Int) (s:List UInt8) (e:Ex) (x y:Tm):kI (.mk k a b s e [x,y])=1+(kI x+kI y):=by simp[kI,uV]
theorem norm_ok:∀ t:Tm,NmOk t (jU t)
 | .mk k a b s e [x,y]=>by
  have hx:=norm_ok x
  have hy:=norm_ok y
  rw[jU]
  by_cases h12:k=12
  ·subst h12
   rw[if_pos rfl]
   by_cases h0:(jU x).k=0
   ·rw[if_pos h0]
    refine ⟨hy.i,?_,fun q h=>hy.r q (right_snd h),fun h=>hy.s ?_⟩
    ·rw[sz2];have:=hy.z;have:=sizeT_pos x;omega
    ·simp only[smT,smTs,Bool.and_eq_true] at h;exact h.2.2.1
   ·rw[if_neg h0]
    refine ⟨?_,?_,fun q h=>right_2 hx.r (fun _ h=>h) h,sm_2 hx.s fun h=>h⟩
    ·rw[jU,if_pos rfl,hx.i,if_neg h0]
    ·rw[sz2,sz2];have:=hx.z;omega
  rw[if_neg h12]
  by_cases h11:k=11
  ·subst h11
   rw[if_pos rfl]
   by_cases h0:(jU x).k=0∧(jU y).k=0
   ·rw[if_pos h0];exact nm_z _
   ·rw[if_neg h0]
    refine ⟨?_,?_,fun q h=>right_2 hx.r hy.r h,sm_2 hx.s hy.s⟩
    ·rw[jU,if_neg (by decide),if_pos rfl,hx.i,hy.i,if_neg h0]
    ·rw[sz2,sz2];have:=hx.z;have:=hy.z;omega
  rw[if_neg h11]
  exact ⟨by rw[jU,if_neg h12,if_neg h11],Int.le_refl _,fun _ h=>h,fun h=>h⟩
 | .mk k a b s e [x]=>by
  have hx:=norm_ok x
  rw[jU]
  by_cases h7:k=7
  ·subst h7
   rw[if_pos rfl]
   by_cases h0:(jU x).k=0
   ·rw[if_pos h0];exact nm_z _
   ·rw[if_neg h0]
    refine ⟨?_,?_,fun q h=>right_1 hx.r h,sm_1 hx.s⟩
    ·rw[jU,if_pos rfl,hx.i,if_neg h0]
    ·rw[sz1,sz1];have:=hx.z;omega
  rw[if_neg h7]
  exact ⟨by rw[jU,if_neg h7],Int.le_refl _,fun _ h=>h,fun h=>h⟩
 | .mk k a b s e []=>.of_eq rfl
 | .mk k a b s e (x :: y :: z :: l)=>.of_eq rfl
 termination_by t=>SizeOf.sizeOf t
theorem stC_len (x:St):(stC x).length=3:=rfl
theorem stCs_len:∀ l:List St,(stCs l).length=l.length*3
 | []=>rfl
 | x :: l=>by rw[stCs,List.length_append,stCs_len l,stC_len,List.length_cons];omega
theorem stCs_get {l:List St} {i:Nat} {x:St} (h:l[i]?=some x) (j:Nat) (hj:j<3):(stCs l)[i*3+j]?=(stC x)[j]?:=by
 induction l generalizing i with
 | nil=>cases h
 | cons y l ih=>
  rw[stCs]
  cases i with
  | zero=>
   cases h
   rw[Nat.zero_mul,Nat.zero_add,List.getElem?_append_left (by rw[stC_len];exact hj)]
  | succ i=>
   rw[List.getElem?_append_right (by rw[stC_len];omega),stC_len,show (i+1)*3+j-3=i*3+j by omega]
   exact ih h
theorem stCs_k {l:List St} {i:Nat} {x:St} (h:l[i]?=some x):(stCs l)[i*3]?=some (.int .i64 x.k):=stCs_get h 0 (by omega)
theorem stCs_p {l:List St} {i:Nat} {x:St} (h:l[i]?=some x):(stCs l)[i*3+1]?=some (ivV x.p):=stCs_get h 1 (by omega)
theorem stCs_a {l:List St} {i:Nat} {x:St} (h:l[i]?=some x):(stCs l)[i*3+2]?=some (.int .i64 x.a):=stCs_get h 2 (by omega)
attribute [push_cast] stCs_len
inductive I43 (l:List St):Nat→S→Prop
 | mk (i:Nat) (iv:Int) (h:jA) {x2 x3 x4 x6 x7 x8 x9 xA xB xC xD xE xF xG xH xI xJ xK xL xM xN xO xP xQ xR xS xT xU xV xW xX xY xZ yA yB yC yD yE yF yG yH yI yJ yK yL yM yN yO yP yQ yR yS:Value} (hiv:iv=(i:Int)) (hi:i≤l.length) (hl1:h.lo=1) (hl2:1≤h.next) :
  I43 l (l.length-i) ⟨(F55 (stsV l) (stsV l) x2 x3 x4 (.int .i64 iv) x6 x7 x8 x9 xA xB xC xD xE xF xG xH xI xJ xK xL xM xN xO xP xQ xR xS xT xU xV xW xX xY xZ yA yB yC yD yE yF yG yH yI yJ yK yL yM yN yO yP yQ yR yS),[],h⟩
theorem rsame_f (l:List St) (hl:l.length<1000000000000) (hp:∀ x∈l,x.p.length<1000000000000):jM (pp G) H0 43 [stsV l,stsV l] (.bool true):=by
 have hlo:H0.lo≤H0.next:=Nat.le_refl _;refine jM.cut (jH.fir4 (q:=qq) (jQ G) fir43 (by kernel_rfl) rfl rfl (F55_arr ..) (show NGG≤H0.lo by rw[qO];decide) ?_);rw[sd_ir43]
 have hA:stsV l=Rw false 60 l.length (stCs l):=rfl
 simp(disch:=first|omega|(apply id;simp only[push_cast];try omega))only[push_cast,simprocAttr,hA]
 rw[← hA]
 refine WD.loop4 (q:=qq) (jQ G) (by kernel_rfl) (I43 l) ?_ _ _ (I43.mk 0 0 _ rfl (Nat.zero_le _) rfl (by first|assumption|(simp(disch:=first|omega|(apply id;simp only[push_cast];try omega))only[push_cast,simprocAttr];try omega)))
 intro m s1 hI
 cases hI with|mk i iv h hiv hi hl1 hl2=>
 subst hiv
 rw[sd_ir43_s0]
 by_cases hil:(i:Int)<l.length
 ·obtain ⟨x,hx⟩:=qW (l:=l) (i:=i) (by omega)
  have hxm:=List.mem_of_getElem? hx
  have e1:=stCs_k hx
  have e2:=stCs_p hx
  have e3:=stCs_a hx
  have hle:i*3+2<l.length*3:=by omega
  have hsc:=ivV_sc 1 (by decide) x.p
  simp(disch:=first|omega|(apply id;simp only[push_cast];try omega))only[push_cast,simprocAttr,hA,hil,e1,e2,e3,Int.toNat_natCast,hl1,bne_self_eq_false]
  refine jC.dataI (ints_f G x.p x.p (hp x hxm) (hp x hxm)) (by and_intros<;>first|rfl|(simp(disch:=first|omega|(apply id;simp only[push_cast];try omega))only[push_cast])) ?_
  simp(disch:=first|omega|(apply id;simp only[push_cast];try omega))only[push_cast,simprocAttr,decide_true,Bool.not_true]
  rw[← hA]
  exact ⟨_,by omega,I43.mk (i+1) _ _ (by first|rfl|omega) (by omega) (by first|assumption|(simp(disch:=first|omega|(apply id;simp only[push_cast];try omega))only[push_cast,simprocAttr,hl1];try omega)) (by first|assumption|(simp(disch:=first|omega|(apply id;simp only[push_cast];try omega))only[push_cast,simprocAttr];try omega))⟩
 ·simp(disch:=first|omega|(apply id;simp only[push_cast];try omega))only[push_cast,simprocAttr,hA,hil]
  rw[sd_ir43_s1]
  simp(disch:=first|omega|(apply id;simp only[push_cast];try omega))only[push_cast,simprocAttr]
  exact .id rfl
theorem tmz_fz {P:Program} {N:Nat} {σ:jA} (h1:szT P eE=some 4) (k a b:Int) (s:List UInt8) {f:Bool} {cs:List Value} {n:Nat} {l:List Tm} (hn:n=l.length) (hc:FzL P N σ cs (uZ l)) :
  FzV P N σ (.agg ⟨[.int .i64 k,.int .i64 a,.int .i64 b,.string (Tx s),.int .i64 0,.int .i64 0,.string (Tx []),.slice none 0 0,Rw f etm n cs]⟩) (tmV (.mk k a b s zE l)):=by
 subst hn
 exact .agg (.cons (.id rfl) (.cons (.id rfl) (.cons (.id rfl) (.cons (.id rfl) (.cons (.id rfl) (.cons (.id rfl) (.cons (.id rfl) (.cons (.nil (size:=4) h1 (by decide)) (.cons (.row hc) .nil)))))))))
theorem wS_cons {k a b:Int} {s:List UInt8} {e:Ex} {l:List Tm} (h:k≠14) (m:List Tm):wS (.mk k a b s e l :: m)=wS m:=by
 unfold wS;simp[Tm.k,h]
theorem sh_of {p:Bool} {k a b:Int} {s:List UInt8} {e:Ex} {l:List Tm} (h:uT 3 2 5 p (.mk k a b s e l)=true):(l.length:Int)=shL k∧∀ x∈l,uT 3 2 5 (p || decide (k=3)) x=true:=by
 rw[uT] at h
 simp only[Bool.and_eq_true,decide_eq_true_eq] at h
 exact ⟨h.2.2.2.2.1.2.2,rightTs_all h.2.2.2.2.2.2.2⟩
theorem given_no {e:Ex} (h:givenF e=false):e=zE:=by
 obtain ⟨k,n,s,l⟩:=e
 unfold givenF at h
 simp only[Bool.or_eq_false_iff,Bool.not_eq_false',decide_eq_true_eq,decide_eq_false_iff_not] at h
 obtain ⟨h1,h2,h3,h4⟩:=h
 have e1:k=0:=h1
 have e2:n=0:=h2
 have e3:s=[]:=h3
 have e4:l=[]:=by
  cases l with
  | nil=>rfl
  | cons x l=>exact absurd (Nat.zero_lt_succ _) h4
 subst e1 e2 e3 e4
 rfl
theorem bare {p:Bool} {k a b:Int} {s:List UInt8} {e:Ex} {l:List Tm} (hk:k=12∨k=11∨k=7) (h:uT 3 2 5 p (.mk k a b s e l)=true):a=0∧b=0∧s=[]∧e=zE:=by
 rw[uT] at h
 simp only[Bool.and_eq_true,decide_eq_true_eq] at h
 obtain ⟨_,_,h3,h4,⟨h5,h6,_⟩,_⟩:=h
 have hA:shA k=0:=by rcases hk with rfl|rfl|rfl<;>rfl
 have hB:shB k=0:=by rcases hk with rfl|rfl|rfl<;>rfl
 have hS:shN k=0:=by rcases hk with rfl|rfl|rfl<;>rfl
 have hE:shE k=0:=by rcases hk with rfl|rfl|rfl<;>rfl
 rw[hA] at h3
 rw[hB] at h4
 rw[hS] at h5
 rw[hE] at h6
 refine ⟨by simpa[fitsF] using h3,by simpa[fitsF] using h4,?_,given_no ?_⟩
 ·by_cases hs:s=[]
  ·exact hs
  ·rw[if_neg hs] at h5;omega
 ·cases hg:givenF e with
  | false=>rfl
  | true=>rw[if_pos hg] at h6;omega
set_option maxHeartbeats 2000000 in
theorem rnorm_f:∀ (x:Tm) (p:Bool),smT x=true→uT 3 2 5 p x=true→jM (pp G) H0 38 [tmV x] (tmV (jU x))
 | .mk k a b s e l,p,hs,hr=>by
  have hs0:=hs
  simp only[smT,Bool.and_eq_true,decide_eq_true_eq] at hs
  obtain ⟨⟨hll,hse⟩,hsl⟩:=hs
  obtain ⟨hL,hrs⟩:=sh_of hr
  have ih:∀ x∈l,jM (pp G) H0 38 [tmV x] (tmV (jU x)):=fun x hx=>rnorm_f x _ (bH hsl x hx) (hrs x hx)
  have hbare:=fun hk=>bare hk hr
  by_cases h12:k=12
  ·subst h12
   obtain ⟨rfl,rfl,rfl,rfl⟩:=hbare (.inl rfl)
   obtain ⟨x,y,rfl⟩:∃ x y,l=[x,y]:=by
    match l,hL with
    | [x,y],_=>exact ⟨x,y,rfl⟩
   have hx:=ih x (by simp)
   have hy:=ih y (by simp)
   clear ih hs0 hr hbare hrs hsl
   have hlo:H0.lo≤H0.next:=Nat.le_refl _;refine jM.cut (jH.fir4 (q:=qq) (jQ G) fir38 (by kernel_rfl) rfl rfl (F73_arr ..) (show NGG≤H0.lo by rw[qO];decide) ?_);rw[sd_ir38]
   rw[jU,if_pos rfl]
   simp(disch:=first|omega|(apply id;simp only[push_cast];try omega))only[push_cast,simprocAttr]
   refine jC.dataI (hx) (by and_intros<;>first|rfl|(simp(disch:=first|omega|(apply id;simp only[push_cast];try omega))only[push_cast])) ?_
   generalize jU x=x'
   by_cases h0:x'.k=0
   ·rw[if_pos h0]
    simp(disch:=first|omega|(apply id;simp only[push_cast];try omega))only[push_cast,simprocAttr,cC,h0]
    refine jC.dataI (hy) (by and_intros<;>first|rfl|(simp(disch:=first|omega|(apply id;simp only[push_cast];try omega))only[push_cast])) ?_
    simp(disch:=first|omega|(apply id;simp only[push_cast];try omega))only[push_cast,simprocAttr]
    exact .id (bS 1 (by decide) _)
   ·rw[if_neg (by exact h0)]
    simp(disch:=first|omega|(apply id;simp only[push_cast];try omega))only[push_cast,simprocAttr,cC,h0,↓rowT2]
    exact tmz_fz rfl 12 0 0 [] (l:=[x',y]) rfl (.ids (gR _ (by decide) _))
  by_cases h11:k=11
  ·subst h11
   obtain ⟨rfl,rfl,rfl,rfl⟩:=hbare (.inr (.inl rfl))
   obtain ⟨x,y,rfl⟩:∃ x y,l=[x,y]:=by
    match l,hL with
    | [x,y],_=>exact ⟨x,y,rfl⟩
   have hx:=ih x (by simp)
   have hy:=ih y (by simp)
   clear ih hs0 hr hbare hrs hsl
   have hlo:H0.lo≤H0.next:=Nat.le_refl _;refine jM.cut (jH.fir4 (q:=qq) (jQ G) fir38 (by kernel_rfl) rfl rfl (F73_arr ..) (show NGG≤H0.lo by rw[qO];decide) ?_);rw[sd_ir38]
   rw[jU,if_neg (by omega),if_pos rfl]
   generalize jU x=x' at hx ⊢
   generalize jU y=y' at hy ⊢
   by_cases h0:x'.k=0
   ·by_cases h0':y'.k=0
    ·rw[if_pos ⟨h0,h0'⟩]
     simp(disch:=first|omega|(apply id;simp only[push_cast];try omega))only[push_cast,simprocAttr]
     all_goals repeat' apply And.intro
     all_goals
      refine jC.dataI (hx) (by and_intros<;>first|rfl|(simp(disch:=first|omega|(apply id;simp only[push_cast];try omega))only[push_cast])) ?_
      simp(disch:=first|omega|(apply id;simp only[push_cast];try omega))only[push_cast,simprocAttr]
     all_goals repeat' apply And.intro
     all_goals
      refine jC.dataI (hy) (by and_intros<;>first|rfl|(simp(disch:=first|omega|(apply id;simp only[push_cast];try omega))only[push_cast])) ?_
      simp(disch:=first|omega|(apply id;simp only[push_cast];try omega))only[push_cast,simprocAttr,cC,h0,h0',↓rowT2]
     all_goals repeat' apply And.intro
     all_goals exact zt_fz prog _ _
    ·rw[if_neg (fun h=>h0' h.2)]
     simp(disch:=first|omega|(apply id;simp only[push_cast];try omega))only[push_cast,simprocAttr]
     all_goals repeat' apply And.intro
     all_goals
      refine jC.dataI (hx) (by and_intros<;>first|rfl|(simp(disch:=first|omega|(apply id;simp only[push_cast];try omega))only[push_cast])) ?_
      simp(disch:=first|omega|(apply id;simp only[push_cast];try omega))only[push_cast,simprocAttr]
     all_goals repeat' apply And.intro
     all_goals
      refine jC.dataI (hy) (by and_intros<;>first|rfl|(simp(disch:=first|omega|(apply id;simp only[push_cast];try omega))only[push_cast])) ?_
      simp(disch:=first|omega|(apply id;simp only[push_cast];try omega))only[push_cast,simprocAttr,cC,h0,h0',↓rowT2]
     all_goals repeat' apply And.intro
     all_goals exact tmz_fz rfl 11 0 0 [] (l:=[x',y']) rfl (.ids (gR _ (by decide) _))
   ·rw[if_neg (fun h=>h0 h.1)]
    simp(disch:=first|omega|(apply id;simp only[push_cast];try omega))only[push_cast,simprocAttr]
    all_goals repeat' apply And.intro
    all_goals
     refine jC.dataI (hx) (by and_intros<;>first|rfl|(simp(disch:=first|omega|(apply id;simp only[push_cast];try omega))only[push_cast])) ?_
     simp(disch:=first|omega|(apply id;simp only[push_cast];try omega))only[push_cast,simprocAttr]
    all_goals repeat' apply And.intro
    all_goals
     refine jC.dataI (hy) (by and_intros<;>first|rfl|(simp(disch:=first|omega|(apply id;simp only[push_cast];try omega))only[push_cast])) ?_
     simp(disch:=first|omega|(apply id;simp only[push_cast];try omega))only[push_cast,simprocAttr,cC,h0,↓rowT2]
    all_goals repeat' apply And.intro
    all_goals exact tmz_fz rfl 11 0 0 [] (l:=[x',y']) rfl (.ids (gR _ (by decide) _))
  by_cases h7:k=7
  ·subst h7
   obtain ⟨rfl,rfl,rfl,rfl⟩:=hbare (.inr (.inr rfl))
   obtain ⟨x,rfl⟩:∃ x,l=[x]:=by
    match l,hL with
    | [x],_=>exact ⟨x,rfl⟩
   have hx:=ih x (by simp)
   clear ih hs0 hr hbare hrs hsl
   have hlo:H0.lo≤H0.next:=Nat.le_refl _;refine jM.cut (jH.fir4 (q:=qq) (jQ G) fir38 (by kernel_rfl) rfl rfl (F73_arr ..) (show NGG≤H0.lo by rw[qO];decide) ?_);rw[sd_ir38]
   rw[jU,if_pos rfl]
   generalize jU x=x' at hx ⊢
   simp(disch:=first|omega|(apply id;simp only[push_cast];try omega))only[push_cast,simprocAttr]
   refine jC.dataI (hx) (by and_intros<;>first|rfl|(simp(disch:=first|omega|(apply id;simp only[push_cast];try omega))only[push_cast])) ?_
   by_cases h0:x'.k=0
   ·rw[if_pos h0]
    simp(disch:=first|omega|(apply id;simp only[push_cast];try omega))only[push_cast,simprocAttr,cC,h0]
    exact zt_fz prog _ _
   ·rw[if_neg h0]
    simp(disch:=first|omega|(apply id;simp only[push_cast];try omega))only[push_cast,simprocAttr,cC,h0,↓rowT1]
    exact tmz_fz rfl 7 0 0 [] (l:=[x']) rfl (.ids (gR _ (by decide) _))
  have hn:jU (.mk k a b s e l)=.mk k a b s e l:=by
   unfold jU
   split
   ·rename_i e1;cases e1;rw[if_neg h12,if_neg h11]
   ·rename_i e1;cases e1;rw[if_neg h7]
   ·rename_i e1;cases e1;rfl
  rw[hn]
  have hlo:H0.lo≤H0.next:=Nat.le_refl _;refine jM.cut (jH.fir4 (q:=qq) (jQ G) fir38 (by kernel_rfl) rfl rfl (F73_arr ..) (show NGG≤H0.lo by rw[qO];decide) ?_);rw[sd_ir38]
  simp(disch:=first|omega|(apply id;simp only[push_cast];try omega))only[push_cast,simprocAttr,h12,h11,h7]
  exact .id (bS 1 (by decide) (.mk k a b s e l))
 termination_by x=>SizeOf.sizeOf x
theorem rn_f {t:Tm} (h:goodT t):jM (pp G) H0 38 [tmV t] (tmV (jU t)):=rnorm_f G t false h.1 h.2.1
theorem stS_cons (x:Sp) (l:List Sp):stS (x :: l)=stF x++stS l:=by simp[stS]
theorem stS_app (a b:List Sp):stS (a++b)=stS a++stS b:=by simp[stS]
theorem stF_u {u u':Tm} (h:gJ u=[]↔gJ u'=[]) (t:Tm) (p:List Int):stF ⟨t,u,p⟩=stF ⟨t,u',p⟩:=by
 unfold stF
 by_cases hw:gJ u=[]
 ·simp only[hw,h.1 hw]
 ·have hw':¬ gJ u'=[]:=fun e=>hw (h.2 e)
  simp only[hw,hw']
mutual
theorem spT_u {u u':Tm} (h:gJ u=[]↔gJ u'=[]):∀ (x:Tm) (p:List Int),stS (spT x u p)=stS (spT x u' p)
 | .mk k a b s e l,p=>by
  rw[spT,spT,stS_cons,stS_cons,stF_u h]
  congr 1
  by_cases h12:k=12
  ·rw[if_pos h12,if_pos h12];exact spH_u h l p
  rw[if_neg h12,if_neg h12]
  by_cases h7:k=7
  ·rw[if_pos h7,if_pos h7]
  rw[if_neg h7,if_neg h7]
  by_cases h11:k=11
  ·rw[if_pos h11,if_pos h11];exact spL_u h l p 0
  ·rw[if_neg h11,if_neg h11]
theorem spL_u {u u':Tm} (h:gJ u=[]↔gJ u'=[]):∀ (l:List Tm) (p:List Int) (j:Nat),stS (spL l u p j)=stS (spL l u' p j)
 | [],_,_=>rfl
 | x :: l,p,j=>by rw[spL,spL,stS_app,stS_app,spT_u h x,spL_u h l]
theorem spH_u {u u':Tm} (h:gJ u=[]↔gJ u'=[]):∀ (l:List Tm) (p:List Int),stS (spH l u p)=stS (spH l u' p)
 | [],_=>rfl
 | x :: l,p=>by rw[spH,spH,spT_u h x]
end
theorem stF_p {x:St} {y:Sp} (h:x∈stF y):x.p=y.p:=by
 unfold stF at h
 split at h
 ·cases h
 split at h
 ·split at h
  ·simp at h;rw[h]
  ·cases h
 split at h
 ·simp at h;rcases h with rfl|rfl<;>rfl
 ·simp at h;rw[h]
mutual
theorem spT_p:∀ (x u:Tm) (p:List Int),∀ y∈spT x u p,y.p.length+1≤p.length+(kZ x).length
 | .mk k a b s e l,u,p,y,hy=>by
  rw[spT] at hy
  rw[kZ,List.length_cons]
  rcases List.mem_cons.1 hy with rfl|hy
  ·show p.length+1≤_;omega
  by_cases h12:k=12
  ·rw[if_pos h12] at hy ⊢
   have:=spH_p l u p y hy;omega
  rw[if_neg h12] at hy ⊢
  by_cases h7:k=7
  ·rw[if_pos h7] at hy
   rw[if_pos (.inr h7)]
   have:=spL_p l _ p 0 y hy;omega
  rw[if_neg h7] at hy
  by_cases h11:k=11
  ·rw[if_pos h11] at hy
   rw[if_pos (.inl h11)]
   have:=spL_p l u p 0 y hy;omega
  ·rw[if_neg h11] at hy;cases hy
theorem spL_p:∀ (l:List Tm) (u:Tm) (p:List Int) (j:Nat),∀ y∈spL l u p j,y.p.length≤p.length+(gW l).length
 | [],_,_,_,y,hy=>by cases hy
 | x :: l,u,p,j,y,hy=>by
  rw[spL] at hy
  rw[gW,List.length_append]
  rcases List.mem_append.1 hy with hy|hy
  ·have:=spT_p x u _ y hy;rw[List.length_append] at this;simp at this;omega
  ·have:=spL_p l u p (j+1) y hy;omega
theorem spH_p:∀ (l:List Tm) (u:Tm) (p:List Int),∀ y∈spH l u p,y.p.length≤p.length+(actH l).length
 | [],_,_,y,hy=>by cases hy
 | x :: l,u,p,y,hy=>by
  rw[spH] at hy
  rw[actH]
  have:=spT_p x u _ y hy;rw[List.length_append] at this;simp at this;omega
end
theorem enF_b {t:Tm} (hz:kI t≤100000):(enF t).length<1000000∧∀ x∈enF t,x.p.length<1000000:=by
 have hk:=norm_ok t
 have h1:=act_len (jU t)
 have h2:=hk.z
 unfold enF
 refine ⟨?_,fun x hx=>?_⟩
 ·have h3:=stS_len (spT (jU t) (jU t) [])
  rw[spT_len] at h3
  omega
 ·obtain ⟨y,hy,hxy⟩:=List.mem_flatMap.1 hx
  have h3:=spT_p _ _ _ y hy
  rw[stF_p hxy]
  simp at h3
  omega
theorem enb_f {t:Tm} (hs:smT t=true) (hz:kI t≤100000):jM (pp G) H0 39 [tmV t] (stsV (enF t)):=by
 have hk:=norm_ok t
 have h1:=act_len (jU t)
 have h2:=hk.z
 exact enabled_f G t hs (hk.s hs) (by omega)
theorem sm2 {x y:Tm} (k:Int) (hx:smT x=true) (hy:smT y=true):smT (.mk k 0 0 [] zE [x,y])=true:=by simp[smT,smTs,hx,hy,zE,smE,smEs]
theorem wt_seq (x y:Tm):gJ (.mk 12 0 0 [] zE [x,y])=gJ x:=by
 have e:kZ (.mk 12 0 0 [] zE [x,y])=.mk 12 0 0 [] zE [x,y] :: kZ x:=by simp[kZ,actH]
 unfold gJ;rw[e,wS_cons (by decide)]
theorem en_seq {x:Tm} (h:(jU x).k≠0) (y:Tm):enF (.mk 12 0 0 [] zE [x,y])=stS (spT (jU x) (jU x) [0]):=by
 have hn:jU (.mk 12 0 0 [] zE [x,y])=.mk 12 0 0 [] zE [jU x,y]:=by rw[jU,if_pos rfl,if_neg h]
 unfold enF
 rw[hn,spT,if_pos rfl,stS_cons,spH]
 have e:stF ⟨.mk 12 0 0 [] zE [jU x,y],.mk 12 0 0 [] zE [jU x,y],[]⟩=[]:=by unfold stF;rw[if_pos (.inr (.inr (.inl rfl)))]
 rw[e,List.nil_append]
 exact spT_u (by rw[wt_seq]) (jU x) [0]
theorem rowRb3 (x y z:Rb) (σ:jA):bsD (qq.m 22) (slT prog 22) 3 [(0,rbV x),(1,rbV y),(2,rbV z)] σ=some (Rw true erb 3 (rbCs [x,y,z]),σ):=by
 cases x;cases y;cases z;kernel_rfl
theorem row_law (r s u:Rb) (w:Int) (hr:smB r=true) (hs:smB s=true) (hu:smB u=true):jM (pp G) H0 17 [rbV r,rbV s,rbV u,.int .i64 w] (.bool true):=by
 have hlo:H0.lo≤H0.next:=Nat.le_refl _;refine jM.cut (jH.fir4 (q:=qq) (jQ G) fir17 (by kernel_rfl) rfl rfl (F43_arr ..) (show NGG≤H0.lo by rw[qO];decide) ?_);rw[sd_ir17]
 simp(disch:=first|omega|(apply id;simp only[push_cast];try omega))only[push_cast,simprocAttr]
 refine jC.dataI (known7_f G) (by and_intros<;>first|rfl|(simp(disch:=first|omega|(apply id;simp only[push_cast];try omega))only[push_cast])) ?_
 have hcl:∀ x:Rb,(rbV x).cells.toList=rbC x:=fun _=>rfl
 have hone:=rbC_one
 have hlen:=cG
 have htk:∀ r:Rb,(rbC r).take 5=rbC r:=fun r=>List.take_of_length_le (by rw[cG];exact Nat.le_refl _)
 simp(disch:=first|omega|(apply id;simp only[push_cast];try omega))only[push_cast,simprocAttr,hcl,hone,hlen,htk,↓rowRb3]
 refine jC.data (few3_f G 0 0 [r,s,u] (by simp) (by simp[smBs,hr,hs,hu])) (few_fz G _ (by decide) _ [r,s,u]) (by first|rfl|(simp(disch:=first|omega|(apply id;simp only[push_cast];try omega))only[push_cast])) (by first|rfl|(simp(disch:=first|omega|(apply id;simp only[push_cast];try omega))only[push_cast])) ?_
 cases hf:fewB [r,s,u] with
 | false=>simp(disch:=first|omega|(apply id;simp only[push_cast];try omega))only[push_cast,simprocAttr,Bool.not_false];exact .id rfl
 | true=>
 simp(disch:=first|omega|(apply id;simp only[push_cast];try omega))only[push_cast,simprocAttr,Bool.not_true]
 refine jC.dataEI (made5_f G r w hr) (by and_intros<;>first|rfl|(simp(disch:=first|omega|(apply id;simp only[push_cast];try omega))only[push_cast])) ?_
 rintro _ ⟨a,rfl,ha⟩
 refine ⟨by simp(disch:=first|omega|(apply id;simp only[push_cast];try omega))only[push_cast,simprocAttr];first|done|rfl,?_⟩
 simp(disch:=first|omega|(apply id;simp only[push_cast];try omega))only[push_cast,simprocAttr]
 refine jC.dataI (rn_f G ha) (by and_intros<;>first|rfl|(simp(disch:=first|omega|(apply id;simp only[push_cast];try omega))only[push_cast])) ?_
 have hfd:∀ x:Tm,fdV (some (false,0,0)) (tmV x)=some (.int .i64 x.k):=fun x=>by cases x;rfl
 by_cases h0:(jU a).k=0
 ·simp(disch:=first|omega|(apply id;simp only[push_cast];try omega))only[push_cast,simprocAttr,hfd,h0]
  exact .id rfl
 simp(disch:=first|omega|(apply id;simp only[push_cast];try omega))only[push_cast,simprocAttr,hfd,h0]
 refine jC.dataEI (made5_f G s 0 hs) (by and_intros<;>first|rfl|(simp(disch:=first|omega|(apply id;simp only[push_cast];try omega))only[push_cast])) ?_
 rintro _ ⟨b,rfl,hb⟩
 refine ⟨by simp(disch:=first|omega|(apply id;simp only[push_cast];try omega))only[push_cast,simprocAttr];first|done|rfl,?_⟩
 simp(disch:=first|omega|(apply id;simp only[push_cast];try omega))only[push_cast,simprocAttr,↓rowT2]
 have hsz:∀ {y:Tm},goodT y→kI (.mk 12 0 0 [] zE [a,y])≤100000:=fun {y} hy=>by
  have h1:=ha.2.2
  have h2:=hy.2.2
  simp only[kI,uV];omega
 have hB:=enF_b (hsz hb)
 refine jC.data (enb_f G (sm2 12 ha.1 hb.1) (hsz hb)) (.cons (tmz_fz rfl 12 0 0 [] (l:=[a,b]) rfl (.ids (gR _ (by decide) _))) .nil) (by first|rfl|(simp(disch:=first|omega|(apply id;simp only[push_cast];try omega))only[push_cast])) (by first|rfl|(simp(disch:=first|omega|(apply id;simp only[push_cast];try omega))only[push_cast])) ?_
 rw[en_seq h0] at hB ⊢
 simp(disch:=first|omega|(apply id;simp only[push_cast];try omega))only[push_cast,simprocAttr]
 refine jC.dataEI (made5_f G u 0 hu) (by and_intros<;>first|rfl|(simp(disch:=first|omega|(apply id;simp only[push_cast];try omega))only[push_cast])) ?_
 rintro _ ⟨d,rfl,hd⟩
 refine ⟨by simp(disch:=first|omega|(apply id;simp only[push_cast];try omega))only[push_cast,simprocAttr];first|done|rfl,?_⟩
 simp(disch:=first|omega|(apply id;simp only[push_cast];try omega))only[push_cast,simprocAttr,↓rowT2]
 refine jC.data (enb_f G (sm2 12 ha.1 hd.1) (hsz hd)) (.cons (tmz_fz rfl 12 0 0 [] (l:=[a,d]) rfl (.ids (gR _ (by decide) _))) .nil) (by first|rfl|(simp(disch:=first|omega|(apply id;simp only[push_cast];try omega))only[push_cast])) (by first|rfl|(simp(disch:=first|omega|(apply id;simp only[push_cast];try omega))only[push_cast])) ?_
 rw[en_seq h0]
 simp(disch:=first|omega|(apply id;simp only[push_cast];try omega))only[push_cast,simprocAttr]
 refine jC.dataI (rsame_f G _ (by have:=hB.1;omega) (fun x hx=>by have:=hB.2 x hx;omega)) (by and_intros<;>first|rfl|(simp(disch:=first|omega|(apply id;simp only[push_cast];try omega))only[push_cast])) ?_
 simp(disch:=first|omega|(apply id;simp only[push_cast];try omega))only[push_cast,simprocAttr]
 exact .id rfl
end
end Go.Proofs.Ytgeakofgklcipaa
namespace Go.Proofs.Ytgeakofgklcipaa
open _root_.Go.Proofs.Try (prog)
open Go Go.RowKit Go.Ev Go.Dv
noncomputable section
set_option maxRecDepth 100000
section
variable {w:World} {H:Type} {enc:TypeId×Value→H}
theorem u_int:prog.underlying eI=some (.int .i64):=by kernel_rfl
theorem u_raws:prog.underlying 36=some (.slice era):=by kernel_rfl
theorem u_rbs:prog.underlying 22=some (.slice erb):=by kernel_rfl
theorem f_raw:fieldsB prog era [(eI,0),(eI,1),(36,2)]=true:=by kernel_rfl
theorem f_rb:fieldsB prog erb [(eI,0),(eI,1),(eI,2),(36,3),(22,4)]=true:=by kernel_rfl
theorem raCs_flat:∀ l:List Ra,l.flatMap raC=raCs l
 | []=>rfl
 | x :: l=>by rw[List.flatMap_cons,raCs_flat l,raCs]
theorem rbCs_flat:∀ l:List Rb,l.flatMap rbC=rbCs l
 | []=>rfl
 | x :: l=>by rw[List.flatMap_cons,rbCs_flat l,rbCs]
theorem smRs_of:∀ {l:List Ra},(∀ x∈l,smR x=true)→smRs l=true
 | [],_=>rfl
 | x :: l,h=>by rw[smRs,h x (by simp),smRs_of fun y hy=>h y (by simp[hy])];rfl
theorem smBs_of:∀ {l:List Rb},(∀ x∈l,smB x=true)→smBs l=true
 | [],_=>rfl
 | x :: l,h=>by rw[smBs,h x (by simp),smBs_of fun y hy=>h y (by simp[hy])];rfl
theorem open_ras:∀ (fuel:Nat) {cs:List Value} {x:DataW H×List MemPlace},DataW.trod enc prog w 0 (fun _=>true) true fuel 36 cs=some x→(x.1.weights prog 36).all (·≤reachBytes)=true→
  ∃ l:List Ra,Go.Dv.Op prog 1 LL w [rasV l] cs∧smRs l=true∧l.length<1000000000000000:=by
 intro fuel
 induction fuel using Nat.strongRecOn with
 | ind fuel ih=>
 intro cs x h hw
 obtain ⟨l,h1,h2,h3⟩:=open_slice (n:=1) (L:=LL) u_raws (size:=3) (by kernel_rfl) (by kernel_rfl) (by omega) (of_decide_eq_true (by kernel_rfl)) raC (fun r=>smR r=true) h hw fun k c y hk hy hwy=>by
  obtain ⟨k',hk',hl,hfs⟩:=open_struct f_raw hy hwy
  rw[show prog.cellsOf era=3 by kernel_rfl] at hl
  match c,hl with
  | [a,b,d],_=>
   obtain ⟨y0,t0,_⟩:=hfs 0 _ _ rfl
   obtain ⟨y1,t1,_⟩:=hfs 1 _ _ rfl
   obtain ⟨y2,t2,w2⟩:=hfs 2 _ _ rfl
   rw[show prog.cellsOf eI=1 by kernel_rfl] at t0 t1
   rw[show prog.cellsOf 36=1 by kernel_rfl] at t2
   obtain ⟨m0,e0,o0,_⟩:=open_num (n:=1) (L:=LL) u_int t0
   obtain ⟨m1,e1,o1,_⟩:=open_num (n:=1) (L:=LL) u_int t1
   obtain ⟨l2,o2,s2,n2⟩:=ih k' (by omega) t2 w2
   refine ⟨.mk m0 m1 l2,?_,?_⟩
   ·exact (o0.append o1).append o2
   ·simp only[smR,s2,Bool.and_true,decide_eq_true_eq];exact n2
 rw[raCs_flat] at h1
 exact ⟨l,h1,smRs_of h2,h3⟩
theorem open_rb_of (fuel:Nat) (ih:∀ k,k<fuel→∀ {cs:List Value} {x:DataW H×List MemPlace},DataW.trod enc prog w 0 (fun _=>true) true k 22 cs=some x→(x.1.weights prog 22).all (·≤reachBytes)=true→
   ∃ l:List Rb,Go.Dv.Op prog 1 LL w [rbsV l] cs∧smBs l=true∧l.length<1000000000000000)
  {c:List Value} {y:DataW H×List MemPlace} (hy:DataW.trod enc prog w 0 (fun _=>true) true fuel erb c=some y) (hwy:(y.1.weights prog erb).all (·≤reachBytes)=true) :
  ∃ r:Rb,Go.Dv.Op prog 1 LL w (rbC r) c∧smB r=true:=by
 obtain ⟨k',hk',hl,hfs⟩:=open_struct f_rb hy hwy
 rw[show prog.cellsOf erb=5 by kernel_rfl] at hl
 match c,hl with
 | [a,b,d,e,f],_=>
  obtain ⟨y0,t0,_⟩:=hfs 0 _ _ rfl
  obtain ⟨y1,t1,_⟩:=hfs 1 _ _ rfl
  obtain ⟨y2,t2,_⟩:=hfs 2 _ _ rfl
  obtain ⟨y3,t3,w3⟩:=hfs 3 _ _ rfl
  obtain ⟨y4,t4,w4⟩:=hfs 4 _ _ rfl
  rw[show prog.cellsOf eI=1 by kernel_rfl] at t0 t1 t2
  rw[show prog.cellsOf 36=1 by kernel_rfl] at t3
  rw[show prog.cellsOf 22=1 by kernel_rfl] at t4
  obtain ⟨m0,e0,o0,_⟩:=open_num (n:=1) (L:=LL) u_int t0
  obtain ⟨m1,e1,o1,_⟩:=open_num (n:=1) (L:=LL) u_int t1
  obtain ⟨m2,e2,o2,_⟩:=open_num (n:=1) (L:=LL) u_int t2
  obtain ⟨l3,o3,s3,n3⟩:=open_ras k' t3 w3
  obtain ⟨l4,o4,s4,n4⟩:=ih k' (by omega) t4 w4
  refine ⟨.mk m0 m1 m2 l3 l4,?_,?_⟩
  ·exact (((o0.append o1).append o2).append o3).append o4
  ·simp only[smB,s3,s4,Bool.and_true,Bool.and_eq_true,decide_eq_true_eq];exact ⟨n4,n3⟩
theorem open_rbs:∀ (fuel:Nat) {cs:List Value} {x:DataW H×List MemPlace},DataW.trod enc prog w 0 (fun _=>true) true fuel 22 cs=some x→(x.1.weights prog 22).all (·≤reachBytes)=true→
  ∃ l:List Rb,Go.Dv.Op prog 1 LL w [rbsV l] cs∧smBs l=true∧l.length<1000000000000000:=by
 intro fuel
 induction fuel using Nat.strongRecOn with
 | ind fuel ih=>
 intro cs x h hw
 obtain ⟨l,h1,h2,h3⟩:=open_slice (n:=1) (L:=LL) u_rbs (size:=5) (by kernel_rfl) (by kernel_rfl) (by omega) (of_decide_eq_true (by kernel_rfl)) rbC (fun r=>smB r=true) h hw fun k c y hk hy hwy=>
  open_rb_of k (fun k' hk'=>ih k' (by omega)) hy hwy
 rw[rbCs_flat] at h1
 exact ⟨l,h1,smBs_of h2,h3⟩
theorem open_rb (fuel:Nat) {c:List Value} {y:DataW H×List MemPlace} (hy:DataW.trod enc prog w 0 (fun _=>true) true fuel erb c=some y) (hwy:(y.1.weights prog erb).all (·≤reachBytes)=true) :
  ∃ r:Rb,Go.Dv.Op prog 1 LL w (rbC r) c∧smB r=true:=open_rb_of fuel (fun k _=>open_rbs k) hy hwy
end
end
end Go.Proofs.Ytgeakofgklcipaa
namespace Go.Proofs.Ytgeakofgklcipaa
open _root_.Go.Proofs.Try (prog)
open Go Go.RowKit Go.Ev Go.Dv
noncomputable section
@[reducible] def witB:Value:=.agg ⟨[.int .i64 0,.int .i64 0,.int .i64 0,.slice none 0 0,.slice none 0 0]⟩
end
end Go.Proofs.Ytgeakofgklcipaa
