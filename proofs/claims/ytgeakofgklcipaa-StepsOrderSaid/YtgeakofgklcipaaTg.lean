/-
  A part of the proof: what the program's functions hand back,as theorems. No condition but those that each theorem names.
-/
import Derived.Test.YtgeakofgklcipaaTf
import Derived.Test.YtgeakofgklcipaaTa
import Derived.Test.YtgeakofgklcipaaEvd
import Derived.Test.YtgeakofgklcipaaExd
import Derived.Test.YtgeakofgklcipaaTe
import Derived.Test.YtgeakofgklcipaaTb
set_option linter.unusedSimpArgs false
set_option linter.unusedVariables false
namespace Go.Proofs.Ytgeakofgklcipaa
open _root_.Go.Proofs.Try (prog)
open Go Go.RowKit Go.Ev Go.Dv
noncomputable section
set_option maxRecDepth 100000
variable (G:Nat×Nat)
theorem few_fz (N:Nat) (hN:0<N) (σ:jA) (l:List Rb):FzL (pp G).P N σ [.agg ⟨[.int .i64 0,.int .i64 0,Rw true erb l.length (rbCs l)]⟩] [shV 0 0 l]:=
 .cons (.agg (.cons (.id rfl) (.cons (.id rfl) (.cons (.row (.ids (rbCs_sc _ hN _))) .nil)))) .nil
theorem made5_f (r:Rb) (w:Int) (hr:smB r=true):kI (pp G) H0 22 [rbV r,.int .i64 w] (fun d=>∃ y,d=tmV y∧goodT y):=
 fun g h vs hP hrr hv=>(make5_f G r w hr g h vs hP hrr hv).mono fun u h' ⟨d,g',⟨y,e,hs,hy⟩,x⟩=>⟨d,g',⟨y,e,made_good hs hy⟩,x⟩
inductive I23 (a b:List Int):Nat→S→Prop
 | mk (i:Nat) (iv:Int) (h:jA) {x2 x3 x4 x6 x7 x8 x9 xA xB xC xD xE xF xG xH xI xJ xK xL xM xN xO xP:Value} (hiv:iv=(i:Int)) (hi:i≤a.length) (he:∀ j,j<i→a.getD j 0=b.getD j 0) (hl1:h.lo=1) (hl2:1≤h.next) :
  I23 a b (a.length-i) ⟨(F26 (ivV a) (ivV b) x2 x3 x4 (.int .i64 iv) x6 x7 x8 x9 xA xB xC xD xE xF xG xH xI xJ xK xL xM xN xO xP),[],h⟩
theorem ints_f (a b:List Int) (ha:a.length<1000000000000) (hb:b.length<1000000000000):jO (pp G) H0 42 [ivV a,ivV b] (.bool (decide (a=b))):=by
 have hlo:H0.lo≤H0.next:=Nat.le_refl _;refine jO.cut (jH.fir4 (q:=qq) (jQ G) fir42 (by kernel_rfl) rfl rfl (F26_arr ..) (show NGG≤H0.lo by rw[qW];decide) ?_);rw[sd_ir42]
 have hA:ivV a=Rw false eI a.length (ivs a):=rfl
 have hB:ivV b=Rw false eI b.length (ivs b):=rfl
 by_cases hl:a.length=b.length
 rotate_left
 ·rw[decide_eq_false (fun e=>hl (by rw[e]))]
  have hl':¬ (a.length:Int)=b.length:=by omega
  simp(disch:=first|omega|(apply id;simp only[push_cast];try omega))only[push_cast,simprocAttr,hA,hB,hl']
  exact .id rfl
 have hl':(a.length:Int)=b.length:=by omega
 simp(disch:=first|omega|(apply id;simp only[push_cast];try omega))only[push_cast,simprocAttr,hA,hB,hl']
 rw[← hA,← hB]
 refine WD.loop4 (q:=qq) (jQ G) (by kernel_rfl) (I23 a b) ?_ _ _ (I23.mk 0 0 _ rfl (Nat.zero_le _) (fun j hj=>by omega) rfl (by first|assumption|(simp(disch:=first|omega|(apply id;simp only[push_cast];try omega))only[push_cast,simprocAttr];try omega)))
 intro m s1 hI
 cases hI with|mk i iv h hiv hi he hl1 hl2=>
 subst hiv
 rw[sd_ir42_s0]
 by_cases hil:(i:Int)<a.length
 ·have hilb:(i:Int)<b.length:=by omega
  have g1:=ivs_get' (l:=a) (i:=i) (by omega)
  have g2:=ivs_get' (l:=b) (i:=i) (by omega)
  by_cases hx:a.getD i 0=b.getD i 0
  ·simp(disch:=first|omega|(apply id;simp only[push_cast];try omega))only[push_cast,simprocAttr,hA,hB,hil,hilb,g1,g2,hx,Int.toNat_natCast]
   rw[← hA,← hB]
   exact ⟨_,by omega,I23.mk (i+1) _ _ (by first|rfl|omega) (by omega) (fun j hj=>by
    by_cases e:j=i
    ·subst e;exact hx
    ·exact he j (by omega)) (by first|assumption|(simp(disch:=first|omega|(apply id;simp only[push_cast];try omega))only[push_cast,simprocAttr,hl1];try omega)) (by first|assumption|(simp(disch:=first|omega|(apply id;simp only[push_cast];try omega))only[push_cast,simprocAttr];try omega))⟩
  ·rw[decide_eq_false (fun e=>hx (by rw[e]))]
   simp(disch:=first|omega|(apply id;simp only[push_cast];try omega))only[push_cast,simprocAttr,hA,hB,hil,hilb,g1,g2,hx,Int.toNat_natCast]
   exact .id rfl
 ·simp(disch:=first|omega|(apply id;simp only[push_cast];try omega))only[push_cast,simprocAttr,hA,hB,hil]
  rw[sd_ir42_s1]
  rw[decide_eq_true (List.ext_getElem hl fun j h1 h2=>by
   have:=he j (by omega)
   rw[List.getD_eq_getElem?_getD,List.getD_eq_getElem?_getD,List.getElem?_eq_getElem h1,List.getElem?_eq_getElem h2] at this
   exact this)]
  simp(disch:=first|omega|(apply id;simp only[push_cast];try omega))only[push_cast,simprocAttr]
  exact .id rfl
mutual
theorem act_len:∀ x:Tm,((gN x).length:Int)≤kK x
 | .mk k a b s e l=>by
  rw[gN,kK]
  have hL:=act_lens l
  have hH:=act_lenh l
  have hp:=sizeTs_pos l
  split
  ·rw[List.length_cons];omega
  ·split
   ·rw[List.length_cons];omega
   ·simp;omega
theorem act_lens:∀ l:List Tm,((gS l).length:Int)≤uW l
 | []=>by simp[gS,uW]
 | x :: l=>by rw[gS,uW,List.length_append];have:=act_len x;have:=act_lens l;omega
theorem act_lenh:∀ l:List Tm,((actH l).length:Int)≤uW l
 | []=>by simp[actH,uW]
 | x :: l=>by rw[actH,uW];have:=act_len x;have:=sizeTs_pos l;omega
end
structure NmOk (t n:Tm):Prop where
 i:qC n=n
 z:kK n≤kK t
 r:∀ q,kP 3 2 5 q t=true→kP 3 2 5 q n=true
 s:smT t=true→smT n=true
theorem NmOk.of_eq {t:Tm} (h:qC t=t):NmOk t (qC t):=by
 rw[h];exact ⟨h,Int.le_refl _,fun _ h=>h,fun h=>h⟩
theorem nm_z (t:Tm):NmOk t zT:=⟨rfl,by have:=sizeT_pos t;show 1≤_;omega,fun q _=>by cases q<;>decide,fun _=>rfl⟩
theorem right_1 {q:Bool} {k a b:Int} {s:List UInt8} {e:Ex} {x x':Tm} (hx:∀ q,kP 3 2 5 q x=true→kP 3 2 5 q x'=true) (h:kP 3 2 5 q (.mk k a b s e [x])=true):kP 3 2 5 q (.mk k a b s e [x'])=true:=by
 simp only[kP,rightTs,Bool.and_eq_true,List.length_singleton] at h ⊢
 exact ⟨h.1,h.2.1,h.2.2.1,h.2.2.2.1,h.2.2.2.2.1,h.2.2.2.2.2.1,h.2.2.2.2.2.2.1,hx _ h.2.2.2.2.2.2.2.1,trivial⟩
theorem right_2 {q:Bool} {k a b:Int} {s:List UInt8} {e:Ex} {x x' y y':Tm} (hx:∀ q,kP 3 2 5 q x=true→kP 3 2 5 q x'=true) (hy:∀ q,kP 3 2 5 q y=true→kP 3 2 5 q y'=true) (h:kP 3 2 5 q (.mk k a b s e [x,y])=true):kP 3 2 5 q (.mk k a b s e [x',y'])=true:=by
 simp only[kP,rightTs,Bool.and_eq_true,List.length_cons,List.length_nil] at h ⊢
 exact ⟨h.1,h.2.1,h.2.2.1,h.2.2.2.1,h.2.2.2.2.1,h.2.2.2.2.2.1,h.2.2.2.2.2.2.1,hx _ h.2.2.2.2.2.2.2.1,hy _ h.2.2.2.2.2.2.2.2.1,trivial⟩
theorem right_snd {q:Bool} {a b:Int} {s:List UInt8} {e:Ex} {x y:Tm} (h:kP 3 2 5 q (.mk 12 a b s e [x,y])=true):kP 3 2 5 q y=true:=by
 simp only[kP,rightTs,Bool.and_eq_true] at h
 have:=h.2.2.2.2.2.2.2.2.1
 cases q<;>exact this
theorem sm_1 {k a b:Int} {s:List UInt8} {e:Ex} {x x':Tm} (hx:smT x=true→smT x'=true) (h:smT (.mk k a b s e [x])=true):smT (.mk k a b s e [x'])=true:=by
 simp only[smT,smTs,Bool.and_eq_true,List.length_singleton] at h ⊢
 exact ⟨h.1,hx h.2.1,trivial⟩
theorem sm_2 {k a b:Int} {s:List UInt8} {e:Ex} {x x' y y':Tm} (hx:smT x=true→smT x'=true) (hy:smT y=true→smT y'=true) (h:smT (.mk k a b s e [x,y])=true):smT (.mk k a b s e [x',y'])=true:=by
 simp only[smT,smTs,Bool.and_eq_true,List.length_cons,List.length_nil] at h ⊢
 exact ⟨h.1,hx h.2.1,hy h.2.2.1,trivial⟩
theorem sz1 (k a b:Int) (s:List UInt8) (e:Ex) (x:Tm):kK (.mk k a b s e [x])=1+kK x:=by simp[kK,uW]
theorem sz2 (k a b:Int) (s:List UInt8) (e:Ex) (x y:Tm):kK (.mk k a b s e [x,y])=1+(kK x+kK y):=by simp[kK,uW]
theorem norm_ok:∀ t:Tm,NmOk t (qC t)
 | .mk k a b s e [x,y]=>by
  have hx:=norm_ok x
  have hy:=norm_ok y
  rw[qC]
  by_cases h12:k=12
  ·subst h12
   rw[if_pos rfl]
   by_cases h0:(qC x).k=0
   ·rw[if_pos h0]
    refine ⟨hy.i,?_,fun q h=>hy.r q (right_snd h),fun h=>hy.s ?_⟩
    ·rw[sz2];have:=hy.z;have:=sizeT_pos x;omega
    ·simp only[smT,smTs,Bool.and_eq_true] at h;exact h.2.2.1
   ·rw[if_neg h0]
    refine ⟨?_,?_,fun q h=>right_2 hx.r (fun _ h=>h) h,sm_2 hx.s fun h=>h⟩
    ·rw[qC,if_pos rfl,hx.i,if_neg h0]
    ·rw[sz2,sz2];have:=hx.z;omega
  rw[if_neg h12]
  by_cases h11:k=11
  ·subst h11
   rw[if_pos rfl]
   by_cases h0:(qC x).k=0∧(qC y).k=0
   ·rw[if_pos h0];exact nm_z _
   ·rw[if_neg h0]
    refine ⟨?_,?_,fun q h=>right_2 hx.r hy.r h,sm_2 hx.s hy.s⟩
    ·rw[qC,if_neg (by decide),if_pos rfl,hx.i,hy.i,if_neg h0]
    ·rw[sz2,sz2];have:=hx.z;have:=hy.z;omega
  rw[if_neg h11]
  exact ⟨by rw[qC,if_neg h12,if_neg h11],Int.le_refl _,fun _ h=>h,fun h=>h⟩
 | .mk k a b s e [x]=>by
  have hx:=norm_ok x
  rw[qC]
  by_cases h7:k=7
  ·subst h7
   rw[if_pos rfl]
   by_cases h0:(qC x).k=0
   ·rw[if_pos h0];exact nm_z _
   ·rw[if_neg h0]
    refine ⟨?_,?_,fun q h=>right_1 hx.r h,sm_1 hx.s⟩
    ·rw[qC,if_pos rfl,hx.i,if_neg h0]
    ·rw[sz1,sz1];have:=hx.z;omega
  rw[if_neg h7]
  exact ⟨by rw[qC,if_neg h7],Int.le_refl _,fun _ h=>h,fun h=>h⟩
 | .mk k a b s e []=>.of_eq rfl
 | .mk k a b s e (x :: y :: z :: l)=>.of_eq rfl
 termination_by t=>SizeOf.sizeOf t
theorem en_f {t:Tm} (h:goodT t):jO (pp G) H0 39 [tmV t] (stsV (enF t)):=by
 have hk:=norm_ok t
 have h1:=act_len (qC t)
 have h2:=hk.z
 have h3:=h.2.2
 exact enabled_f G t h.1 (hk.s h.1) (by omega)
theorem stC_len (x:St):(stC x).length=3:=rfl
@[push_cast]theorem stCs_len:∀ l:List St,(stCs l).length=l.length*3
 | []=>rfl
 | x :: l=>by rw[stCs,List.length_append,stCs_len l,stC_len,List.length_cons];omega
theorem stS_cons (x:Sp) (l:List Sp):stS (x :: l)=stF x++stS l:=by simp[stS]
theorem stS_app (a b:List Sp):stS (a++b)=stS a++stS b:=by simp[stS]
theorem stF_p {x:St} {y:Sp} (h:x∈stF y):x.p=y.p:=by
 unfold stF at h
 split at h
 ·cases h
 split at h
 ·split at h
  ·simp at h;rw[h]
  ·cases h
 split at h
 ·simp at h;rcases h with rfl|rfl<;>rfl
 ·simp at h;rw[h]
mutual
theorem spT_p:∀ (x u:Tm) (p:List Int),∀ y∈spT x u p,y.p.length+1≤p.length+(gN x).length
 | .mk k a b s e l,u,p,y,hy=>by
  rw[spT] at hy
  rw[gN,List.length_cons]
  rcases List.mem_cons.1 hy with rfl|hy
  ·show p.length+1≤_;omega
  by_cases h12:k=12
  ·rw[if_pos h12] at hy ⊢
   have:=spH_p l u p y hy;omega
  rw[if_neg h12] at hy ⊢
  by_cases h7:k=7
  ·rw[if_pos h7] at hy
   rw[if_pos (.inr h7)]
   have:=spL_p l _ p 0 y hy;omega
  rw[if_neg h7] at hy
  by_cases h11:k=11
  ·rw[if_pos h11] at hy
   rw[if_pos (.inl h11)]
   have:=spL_p l u p 0 y hy;omega
  ·rw[if_neg h11] at hy;cases hy
theorem spL_p:∀ (l:List Tm) (u:Tm) (p:List Int) (j:Nat),∀ y∈spL l u p j,y.p.length≤p.length+(gS l).length
 | [],_,_,_,y,hy=>by cases hy
 | x :: l,u,p,j,y,hy=>by
  rw[spL] at hy
  rw[gS,List.length_append]
  rcases List.mem_append.1 hy with hy|hy
  ·have:=spT_p x u _ y hy;rw[List.length_append] at this;simp at this;omega
  ·have:=spL_p l u p (j+1) y hy;omega
theorem spH_p:∀ (l:List Tm) (u:Tm) (p:List Int),∀ y∈spH l u p,y.p.length≤p.length+(actH l).length
 | [],_,_,y,hy=>by cases hy
 | x :: l,u,p,y,hy=>by
  rw[spH] at hy
  rw[actH]
  have:=spT_p x u _ y hy;rw[List.length_append] at this;simp at this;omega
end
theorem enF_b {t:Tm} (hz:kK t≤100000):(enF t).length<1000000∧∀ x∈enF t,x.p.length<1000000:=by
 have hk:=norm_ok t
 have h1:=act_len (qC t)
 have h2:=hk.z
 unfold enF
 refine ⟨?_,fun x hx=>?_⟩
 ·have h3:=stS_len (spT (qC t) (qC t) [])
  rw[spT_len] at h3
  omega
 ·obtain ⟨y,hy,hxy⟩:=List.mem_flatMap.1 hx
  have h3:=spT_p _ _ _ y hy
  rw[stF_p hxy]
  simp at h3
  omega
def preS (q:List Int) (s:St):St:=⟨s.k,q++s.p,s.a⟩
theorem stF_pre (q:List Int) (t u:Tm) (p:List Int):stF ⟨t,u,q++p⟩=(stF ⟨t,u,p⟩).map (preS q):=by
 unfold stF
 dsimp only
 split
 ·rfl
 split
 ·split<;>rfl
 split<;>rfl
mutual
theorem spT_pre (q:List Int):∀ (x u:Tm) (p:List Int),stS (spT x u (q++p))=(stS (spT x u p)).map (preS q)
 | .mk k a b s e l,u,p=>by
  rw[spT,spT,stS_cons,stS_cons,List.map_append,stF_pre]
  congr 1
  by_cases h12:k=12
  ·rw[if_pos h12,if_pos h12];exact spH_pre q l u p
  rw[if_neg h12,if_neg h12]
  by_cases h7:k=7
  ·rw[if_pos h7,if_pos h7];exact spL_pre q l _ p 0
  rw[if_neg h7,if_neg h7]
  by_cases h11:k=11
  ·rw[if_pos h11,if_pos h11];exact spL_pre q l u p 0
  ·rw[if_neg h11,if_neg h11];rfl
theorem spL_pre (q:List Int):∀ (l:List Tm) (u:Tm) (p:List Int) (j:Nat),stS (spL l u (q++p) j)=(stS (spL l u p j)).map (preS q)
 | [],_,_,_=>rfl
 | x :: l,u,p,j=>by rw[spL,spL,stS_app,stS_app,List.map_append,List.append_assoc,spT_pre q x,spL_pre q l]
theorem spH_pre (q:List Int):∀ (l:List Tm) (u:Tm) (p:List Int),stS (spH l u (q++p))=(stS (spH l u p)).map (preS q)
 | [],_,_=>rfl
 | x :: l,u,p=>by rw[spH,spH,List.append_assoc,spT_pre q x]
end
def litB (a:Tm):Nat→List Value
 | 0=>tmC a
 | m+1=>[.int .i64 7,.int .i64 0,.int .i64 0,.string (Tx []),.int .i64 0,.int .i64 0,.string (Tx []),.slice none 0 0,Rw true etm 1 (litB a m)]
@[push_cast]theorem litB_c (a:Tm) (m:Nat):(Value.agg ⟨litB a m⟩).cells.toList=litB a m:=rfl
def rise (x y:St):Prop:=(x.p=y.p∧x.a=0∧y.a=1)∨∃ (q:List Int) (i j:Int) (r s:List Int),i<j∧x.p=q++i :: r∧y.p=q++j :: s
theorem stS_pre {x u:Tm} {p:List Int} {s:St} (h:s∈stS (spT x u p)):∃ r,s.p=p++r:=by
 have:=spT_pre p x u []
 rw[List.append_nil] at this
 rw[this] at h
 obtain ⟨y,_,rfl⟩:=List.mem_map.1 h
 exact ⟨y.p,rfl⟩
theorem stL_pre:∀ (l:List Tm) (u:Tm) (p:List Int) (j:Nat),∀ s∈stS (spL l u p j),∃ (i:Nat) (r:List Int),j≤i∧s.p=p++(i:Int) :: r
 | [],_,_,_,s,h=>by cases h
 | x :: l,u,p,j,s,h=>by
  rw[spL,stS_app] at h
  rcases List.mem_append.1 h with h|h
  ·obtain ⟨r,hr⟩:=stS_pre h
   exact ⟨j,r,Nat.le_refl _,by rw[hr,List.append_assoc];rfl⟩
  ·obtain ⟨i,r,h1,h2⟩:=stL_pre l u p (j+1) s h
   exact ⟨i,r,by omega,h2⟩
mutual
theorem ascT:∀ (x u:Tm) (p:List Int),(stS (spT x u p)).Pairwise rise
 | .mk k a b s e l,u,p=>by
  rw[spT,stS_cons]
  by_cases h0:k=12∨k=7∨k=11
  ·have e:stF ⟨.mk k a b s e l,u,p⟩=[]:=by unfold stF;rw[if_pos (by show k=0∨k=14∨k=12∨k=11∨k=7;omega)]
   rw[e,List.nil_append]
   by_cases h12:k=12
   ·rw[if_pos h12];exact ascH l u p
   rw[if_neg h12]
   by_cases h7:k=7
   ·rw[if_pos h7];exact ascL l _ p 0
   ·rw[if_neg h7,if_pos (by omega)];exact ascL l u p 0
  ·rw[if_neg (by omega),if_neg (by omega),if_neg (by omega)]
   show (_++[]).Pairwise rise
   rw[List.append_nil]
   unfold stF
   split
   ·exact .nil
   split
   ·split
    ·exact List.pairwise_singleton _ _
    ·exact .nil
   split
   ·refine .cons (fun y hy=>?_) (List.pairwise_singleton _ _)
    simp at hy
    subst hy
    exact .inl ⟨rfl,rfl,rfl⟩
   ·exact List.pairwise_singleton _ _
theorem ascL:∀ (l:List Tm) (u:Tm) (p:List Int) (j:Nat),(stS (spL l u p j)).Pairwise rise
 | [],_,_,_=>.nil
 | x :: l,u,p,j=>by
  rw[spL,stS_app,List.pairwise_append]
  refine ⟨ascT x u _,ascL l u p (j+1),fun y hy z hz=>.inr ?_⟩
  obtain ⟨r,hr⟩:=stS_pre hy
  obtain ⟨i,s,h1,h2⟩:=stL_pre l u p (j+1) z hz
  exact ⟨p,j,i,r,s,by omega,by rw[hr,List.append_assoc];rfl,h2⟩
theorem ascH:∀ (l:List Tm) (u:Tm) (p:List Int),(stS (spH l u p)).Pairwise rise
 | [],_,_=>.nil
 | x :: l,u,p=>by rw[spH];exact ascT x u _
end
theorem en_rise {t:Tm} {i:Nat} {x y:St} (hx:(enF t)[i]?=some x) (hy:(enF t)[i+1]?=some y):rise x y:=by
 have h:=List.pairwise_iff_getElem.1 (ascT (qC t) (qC t) [])
 obtain ⟨h1,rfl⟩:=List.getElem?_eq_some_iff.1 hx
 obtain ⟨h2,rfl⟩:=List.getElem?_eq_some_iff.1 hy
 exact h i (i+1) h1 h2 (by omega)
theorem stCs_t {l:List St} {i:Nat} {x:St} (h:l[i]?=some x):((stCs l).drop (i*3)).take 3=[.int .i64 x.k,ivV x.p,.int .i64 x.a]:=by
 induction l generalizing i with
 | nil=>cases h
 | cons y l ih=>
  rw[stCs]
  cases i with
  | zero=>
   cases h
   rw[Nat.zero_mul,List.drop_zero,List.take_append_of_le_length (by rw[stC_len];exact Nat.le_refl _)]
   rfl
  | succ i=>
   rw[List.drop_append,List.drop_eq_nil_of_le (by rw[stC_len];omega),List.nil_append,stC_len,show (i+1)*3-3=i*3 by omega]
   exact ih h
inductive I16b (l:List St) (iv:Int) (pa pb:Nat) (q:List Int) (h:jA):Nat→S→Prop
 | mk (k:Nat) (kv:Int) {x0 x1 x2 x3 x4 xA xB xC xD xE xF xG xH xI xJ xK xL xM xN xO xP xQ xR xS xT xU xV xW xX xY xZ yA yB yC yD yE yF yG yH yI yJ yK yL yM yN yO yP yQ yR yS yT yU yV yW yX yY yZ zA zB zC zD zE zF zG zH zI zJ zK zL zM zN zO zP zQ zR zS zU zV zW zX zY zZ wA wB wC wD wE wF wG wH wI wJ wK wL wM wN:Value} (hkv:kv=(k:Int)) (hk:k≤q.length) :
  I16b l iv pa pb q h (q.length-k) ⟨(F101 x0 x1 x2 x3 x4 (stsV l) (.int .i64 iv) (.pointer (some ⟨pa,0,none⟩)) (.pointer (some ⟨pb,0,none⟩)) (.int .i64 kv) xA xB xC xD xE xF xG xH xI xJ xK xL xM xN xO xP xQ xR xS xT xU xV xW xX xY xZ yA yB yC yD yE yF yG yH yI yJ yK yL yM yN yO yP yQ yR yS yT yU yV yW yX yY yZ zA zB zC zD zE zF zG zH zI zJ zK zL zM zN zO zP zQ zR zS zU zV zW zX zY zZ wA wB wC wD wE wF wG wH wI wJ wK wL wM wN),[],h⟩
theorem order_s2 (l:List St) (iv:Int) (pa pb:Nat) (x y:St) (hxy:rise x y) (hxl:x.p.length<1000000) (hyl:y.p.length<1000000) (h:jA) (ca:cells h pa=some ([.int .i64 x.k,ivV x.p,.int .i64 x.a],60,false)) (cb:cells h pb=some ([.int .i64 y.k,ivV y.p,.int .i64 y.a],60,false)) (hl1:h.lo=1) (hpa:1≤pa) (hpb:1≤pb)
  {T:jJ→S→Prop} (hN:∀ {x0 x1 x2 x3 x4 x7 x8 x9 xA xB xC xD xE xF xG xH xI xJ xK xL xM xN xO xP xQ xR xS xT xU xV xW xX xY xZ yA yB yC yD yE yF yG yH yI yJ yK yL yM yN yO yP yQ yR yS yT yU yV yW yX yY yZ zA zB zC zD zE zF zG zH zI zJ zK zL zM zN zO zP zQ zR zS zU zV zW zX zY zZ wA wB wC wD wE wF wG wH wI wJ wK wL wM wN:Value},T .normal ⟨(F101 x0 x1 x2 x3 x4 (stsV l) (.int .i64 iv) x7 x8 x9 xA xB xC xD xE xF xG xH xI xJ xK xL xM xN xO xP xQ xR xS xT xU xV xW xX xY xZ yA yB yC yD yE yF yG yH yI yJ yK yL yM yN yO yP yQ yR yS yT yU yV yW yX yY yZ zA zB zC zD zE zF zG zH zI zJ zK zL zM zN zO zP zQ zR zS zU zV zW zX zY zZ wA wB wC wD wE wF wG wH wI wJ wK wL wM wN),[],h⟩) (hE:∀ {x0 x1 x2 x3 x4 x7 x8 x9 xA xB xC xD xE xF xG xH xI xJ xK xL xM xN xO xP xQ xR xS xT xU xV xW xX xY xZ yA yB yC yD yE yF yG yH yI yJ yK yL yM yN yO yP yQ yR yS yT yU yV yW yX yY yZ zA zB zC zD zE zF zG zH zI zJ zK zL zM zN zO zP zQ zR zS zU zV zW zX zY zZ wA wB wC wD wE wF wG wH wI wJ wK wL wM wN:Value},T (.exit 1) ⟨(F101 x0 x1 x2 x3 x4 (stsV l) (.int .i64 iv) x7 x8 x9 xA xB xC xD xE xF xG xH xI xJ xK xL xM xN xO xP xQ xR xS xT xU xV xW xX xY xZ yA yB yC yD yE yF yG yH yI yJ yK yL yM yN yO yP yQ yR yS yT yU yV yW yX yY yZ zA zB zC zD zE zF zG zH zI zJ zK zL zM zN zO zP zQ zR zS zU zV zW zX zY zZ wA wB wC wD wE wF wG wH wI wJ wK wL wM wN),[],h⟩) {x0 x1 x2 x3 x4 x9 xA xB xC xD xE xF xG xH xI xJ xK xL xM xN xO xP xQ xR xS xT xU xV xW xX xY xZ yA yB yC yD yE yF yG yH yI yJ yK yL yM yN yO yP yQ yR yS yT yU yV yW yX yY yZ zA zB zC zD zE zF zG zH zI zJ zK zL zM zN zO zP zQ zR zS zU zV zW zX zY zZ wA wB wC wD wE wF wG wH wI wJ wK wL wM wN:Value} :
  dc3 (pp G) qq none ir16_s2 ⟨(F101 x0 x1 x2 x3 x4 (stsV l) (.int .i64 iv) (.pointer (some ⟨pa,0,none⟩)) (.pointer (some ⟨pb,0,none⟩)) x9 xA xB xC xD xE xF xG xH xI xJ xK xL xM xN xO xP xQ xR xS xT xU xV xW xX xY xZ yA yB yC yD yE yF yG yH yI yJ yK yL yM yN yO yP yQ yR yS yT yU yV yW yX yY yZ zA zB zC zD zE zF zG zH zI zJ zK zL zM zN zO zP zQ zR zS zU zV zW zX zY zZ wA wB wC wD wE wF wG wH wI wJ wK wL wM wN),[],h⟩ T:=by
 rw[sd_ir16_s2]
 have hsx:=ivV_sc 1 (by decide) x.p
 have hsy:=ivV_sc 1 (by decide) y.p
 have hln:∀ l:List Int,lnD (some false) (ivV l)=some (.int .i64 l.length):=fun _=>rfl
 have hV:∀ l:List Int,ivV l=Rw false eI l.length (ivs l):=fun _=>rfl
 simp(disch:=first|omega|(apply id;simp only[push_cast];try omega))only[push_cast,simprocAttr,ca,cb,hl1]
 refine jC.dataI (ints_f G x.p y.p (by omega) (by omega)) (by and_intros<;>first|rfl|(simp(disch:=first|omega|(apply id;simp only[push_cast];try omega))only[push_cast])) ?_
 rcases hxy with ⟨h1,h2,h3⟩|⟨q,i,j,r,s,hij,h1,h2⟩
 ·rw[decide_eq_true h1]
  simp(disch:=first|omega|(apply id;simp only[push_cast];try omega))only[push_cast,simprocAttr,ca,cb,hl1,h2,h3,bne_self_eq_false]
  exact hE
 ·have hne : x.p ≠ y.p := fun e => by
   rw[h1,h2] at e
   have:=List.append_cancel_left e
   injection this with h4
   omega
  rw[decide_eq_false hne]
  simp(disch:=first|omega|(apply id;simp only[push_cast];try omega))only[push_cast,simprocAttr]
  have hxlen:x.p.length=q.length+1+r.length:=by rw[h1];simp;omega
  have hylen:y.p.length=q.length+1+s.length:=by rw[h2];simp;omega
  refine WD.loop4 (q:=qq) (jQ G) (by kernel_rfl) (I16b l iv pa pb q h) ?_ _ _ (I16b.mk 0 0 rfl (Nat.zero_le _))
  intro m s1 hI
  cases hI with|mk k kv hkv hk=>
  subst hkv
  rw[sd_ir16_s4]
  have hkx:(k:Int)<x.p.length:=by omega
  have hky:(k:Int)<y.p.length:=by omega
  have gx:=ivs_get' (l:=x.p) (i:=k) (by omega)
  have gy:=ivs_get' (l:=y.p) (i:=k) (by omega)
  by_cases hkq:k<q.length
  ·have e : x.p.getD k 0 = y.p.getD k 0 := by
    rw[h1,h2,List.getD_eq_getElem?_getD,List.getD_eq_getElem?_getD,List.getElem?_append_left hkq,List.getElem?_append_left hkq]
   rw[← e] at gy
   simp(disch:=first|omega|(apply id;simp only[push_cast];try omega))only[push_cast,simprocAttr,ca,cb,hl1,hln,hkx,hky,hV,gx,gy,Int.toNat_natCast]
   exact ⟨_,by omega,I16b.mk (k+1) _ (by first|rfl|omega) (by omega)⟩
  ·obtain rfl:k=q.length:=by omega
   have ex:x.p.getD q.length 0=i:=by rw[h1];simp
   have ey:y.p.getD q.length 0=j:=by rw[h2];simp
   rw[ex] at gx
   rw[ey] at gy
   have hij1:¬ i=j:=by omega
   have hij2:¬ j<i:=by omega
   have hx2:¬ (x.p.length:Int)≤q.length:=by omega
   have hy2:¬ (y.p.length:Int)≤q.length:=by omega
   simp(disch:=first|omega|(apply id;simp only[push_cast];try omega))only[push_cast,simprocAttr,ca,cb,hl1,hln,hkx,hky,hV,gx,gy,Int.toNat_natCast,hij1]
   rw[sd_ir16_s5]
   simp(disch:=first|omega|(apply id;simp only[push_cast];try omega))only[push_cast,simprocAttr,ca,cb,hl1,hln,hx2,hy2,hkx,hky,hV,gx,gy,Int.toNat_natCast,hij2]
   exact hN
inductive I16 (l:List St):Nat→S→Prop
 | mk (i:Nat) (iv:Int) (h:jA) {x0 x1 x2 x3 x4 x7 x8 x9 xA xB xC xD xE xF xG xH xI xJ xK xL xM xN xO xP xQ xR xS xT xU xV xW xX xY xZ yA yB yC yD yE yF yG yH yI yJ yK yL yM yN yO yP yQ yR yS yT yU yV yW yX yY yZ zA zB zC zD zE zF zG zH zI zJ zK zL zM zN zO zP zQ zR zS zU zV zW zX zY zZ wA wB wC wD wE wF wG wH wI wJ wK wL wM wN:Value} (hiv:iv=(i:Int)+1) (hi:i≤l.length) (hl1:h.lo=1) (hl2:1≤h.next) :
  I16 l (l.length-i) ⟨(F101 x0 x1 x2 x3 x4 (stsV l) (.int .i64 iv) x7 x8 x9 xA xB xC xD xE xF xG xH xI xJ xK xL xM xN xO xP xQ xR xS xT xU xV xW xX xY xZ yA yB yC yD yE yF yG yH yI yJ yK yL yM yN yO yP yQ yR yS yT yU yV yW yX yY yZ zA zB zC zD zE zF zG zH zI zJ zK zL zM zN zO zP zQ zR zS zU zV zW zX zY zZ wA wB wC wD wE wF wG wH wI wJ wK wL wM wN),[],h⟩
theorem order_law (r:Rb) (w:Int) (hr:smB r=true):jO (pp G) H0 16 [rbV r,.int .i64 w] (.bool true):=by
 have hlo:H0.lo≤H0.next:=Nat.le_refl _;refine jO.cut (jH.fir4 (q:=qq) (jQ G) fir16 (by kernel_rfl) rfl rfl (F101_arr ..) (show NGG≤H0.lo by rw[qW];decide) ?_);rw[sd_ir16]
 simp(disch:=first|omega|(apply id;simp only[push_cast];try omega))only[push_cast,simprocAttr]
 refine jC.dataI (known7_f G) (by and_intros<;>first|rfl|(simp(disch:=first|omega|(apply id;simp only[push_cast];try omega))only[push_cast])) ?_
 have hcl:∀ x:Rb,(rbV x).cells.toList=rbC x:=fun _=>rfl
 have hone:=rbC_one
 have hlen:=cB
 have htk:∀ r:Rb,(rbC r).take 5=rbC r:=fun r=>List.take_of_length_le (by rw[cB];exact Nat.le_refl _)
 simp(disch:=first|omega|(apply id;simp only[push_cast];try omega))only[push_cast,simprocAttr,hcl,hone,hlen,htk,↓rowRb1]
 refine jC.data (few3_f G 0 0 [r] (by simp) (by simp[smBs,hr])) (few_fz G _ (by decide) _ [r]) (by first|rfl|(simp(disch:=first|omega|(apply id;simp only[push_cast];try omega))only[push_cast])) (by first|rfl|(simp(disch:=first|omega|(apply id;simp only[push_cast];try omega))only[push_cast])) ?_
 cases hf:fewB [r] with
 | false=>simp(disch:=first|omega|(apply id;simp only[push_cast];try omega))only[push_cast,simprocAttr,Bool.not_false];exact .id rfl
 | true=>
 simp(disch:=first|omega|(apply id;simp only[push_cast];try omega))only[push_cast,simprocAttr,Bool.not_true]
 refine jC.dataEI (made5_f G r w hr) (by and_intros<;>first|rfl|(simp(disch:=first|omega|(apply id;simp only[push_cast];try omega))only[push_cast])) ?_
 rintro _ ⟨t,rfl,ht⟩
 refine ⟨by simp(disch:=first|omega|(apply id;simp only[push_cast];try omega))only[push_cast,simprocAttr];first|done|rfl,?_⟩
 simp(disch:=first|omega|(apply id;simp only[push_cast];try omega))only[push_cast,simprocAttr]
 refine jC.dataI (en_f G ht) (by and_intros<;>first|rfl|(simp(disch:=first|omega|(apply id;simp only[push_cast];try omega))only[push_cast])) ?_
 have hB:=enF_b (t:=t) (by have:=ht.2.2;omega)
 have hR:=@en_rise t
 generalize enF t=l at hB hR ⊢
 simp(disch:=first|omega|(apply id;simp only[push_cast];try omega))only[push_cast,simprocAttr]
 have hA:∀ l:List St,stsV l=Rw false 60 l.length (stCs l):=fun _=>rfl
 refine WD.loop4 (q:=qq) (jQ G) (by kernel_rfl) (I16 l) ?_ _ _ (I16.mk 0 1 _ rfl (Nat.zero_le _) ?_ ?_)
 ·intro m s1 hI
  cases hI with|mk i iv h hiv hi hl1 hl2=>
  subst hiv
  rw[sd_ir16_s0]
  by_cases hil:(i:Int)+1<l.length
  ·obtain ⟨x,hx⟩:=qQ (l:=l) (i:=i) (by omega)
   obtain ⟨y,hy⟩:=qQ (l:=l) (i:=i+1) (by omega)
   have tx:=stCs_t hx
   have ty:=stCs_t hy
   have hxl:=hB.2 x (List.mem_of_getElem? hx)
   have hyl:=hB.2 y (List.mem_of_getElem? hy)
   have hrs:=hR hx hy
   have hsx:=ivV_sc 1 (by decide) x.p
   have hsy:=ivV_sc 1 (by decide) y.p
   have hw1:IntKind.i64.wrap ((i:Int)+1-1)=i:=by rw[Int.add_sub_cancel];exact W_id (by omega)
   have hle:i*3+3≤l.length*3:=by omega
   have hle2:(i+1)*3+3≤l.length*3:=by omega
   have hil0:(i:Int)<l.length:=by omega
   have ht1:((i:Int)+1).toNat=i+1:=by omega
   have h1x:one (ivV x.p)=true:=rfl
   have h1y:one (ivV y.p)=true:=rfl
   simp(disch:=first|omega|(apply id;simp only[push_cast];try omega))only[push_cast,simprocAttr,hA,hil,hil0,hw1,tx,ty,hle,hle2,ht1,Int.toNat_natCast,hl1,h1x,h1y]
   refine ⟨?_,?_⟩
   ·refine order_s2 G l _ _ _ x y hrs hxl hyl _ ?_ ?_ ?_ ?_ ?_ ?_ ?_
    ·simp(disch:=first|omega|(apply id;simp only[push_cast];try omega))only[push_cast,simprocAttr]
    ·simp(disch:=first|omega|(apply id;simp only[push_cast];try omega))only[push_cast,simprocAttr]
    ·first|exact hl1|(simp(disch:=first|omega|(apply id;simp only[push_cast];try omega))only[push_cast,simprocAttr];try exact hl1)
    ·omega
    ·omega
    all_goals
     intros
     simp(disch:=first|omega|(apply id;simp only[push_cast];try omega))only[push_cast,simprocAttr]
     rw[sd_ir16_s3]
     simp(disch:=first|omega|(apply id;simp only[push_cast];try omega))only[push_cast,simprocAttr]
     refine ⟨_,?_,I16.mk (i+1) _ _ (by first|rfl|omega) (by omega) ?_ ?_⟩
     ·omega
     ·first|exact hl1|(simp(disch:=first|omega|(apply id;simp only[push_cast];try omega))only[push_cast,simprocAttr];try exact hl1)
     ·first|(simp(disch:=first|omega|(apply id;simp only[push_cast];try omega))only[push_cast,simprocAttr];done)|(simp(disch:=first|omega|(apply id;simp only[push_cast];try omega))only[push_cast,simprocAttr];omega)|(show 1≤h.next+1+1;omega)
   ·refine order_s2 G l _ _ _ x y hrs hxl hyl _ ?_ ?_ ?_ ?_ ?_ ?_ ?_
    ·simp(disch:=first|omega|(apply id;simp only[push_cast];try omega))only[push_cast,simprocAttr]
    ·simp(disch:=first|omega|(apply id;simp only[push_cast];try omega))only[push_cast,simprocAttr]
    ·first|exact hl1|(simp(disch:=first|omega|(apply id;simp only[push_cast];try omega))only[push_cast,simprocAttr];try exact hl1)
    ·omega
    ·omega
    all_goals
     intros
     simp(disch:=first|omega|(apply id;simp only[push_cast];try omega))only[push_cast,simprocAttr]
     rw[sd_ir16_s3]
     simp(disch:=first|omega|(apply id;simp only[push_cast];try omega))only[push_cast,simprocAttr]
     refine ⟨_,?_,I16.mk (i+1) _ _ (by first|rfl|omega) (by omega) ?_ ?_⟩
     ·omega
     ·first|exact hl1|(simp(disch:=first|omega|(apply id;simp only[push_cast];try omega))only[push_cast,simprocAttr];try exact hl1)
     ·first|(simp(disch:=first|omega|(apply id;simp only[push_cast];try omega))only[push_cast,simprocAttr];done)|(simp(disch:=first|omega|(apply id;simp only[push_cast];try omega))only[push_cast,simprocAttr];omega)|(show 1≤h.next+1+1;omega)
  ·simp(disch:=first|omega|(apply id;simp only[push_cast];try omega))only[push_cast,simprocAttr,hA,hil]
   rw[sd_ir16_s1]
   simp(disch:=first|omega|(apply id;simp only[push_cast];try omega))only[push_cast,simprocAttr]
   exact .id rfl
 ·simp(disch:=first|omega|(apply id;simp only[push_cast];try omega))only[push_cast,simprocAttr]
 ·simp(disch:=first|omega|(apply id;simp only[push_cast];try omega))only[push_cast,simprocAttr];try omega
end
end Go.Proofs.Ytgeakofgklcipaa
namespace Go.Proofs.Ytgeakofgklcipaa
open _root_.Go.Proofs.Try (prog)
open Go Go.RowKit Go.Ev Go.Dv
noncomputable section
set_option maxRecDepth 100000
section
variable {w:World} {H:Type} {enc:TypeId×Value→H}
theorem u_int:prog.underlying eI=some (.int .i64):=by kernel_rfl
theorem u_raws:prog.underlying 36=some (.slice era):=by kernel_rfl
theorem u_rbs:prog.underlying 22=some (.slice erb):=by kernel_rfl
theorem f_raw:fieldsB prog era [(eI,0),(eI,1),(36,2)]=true:=by kernel_rfl
theorem f_rb:fieldsB prog erb [(eI,0),(eI,1),(eI,2),(36,3),(22,4)]=true:=by kernel_rfl
theorem raCs_flat:∀ l:List Ra,l.flatMap raC=raCs l
 | []=>rfl
 | x :: l=>by rw[List.flatMap_cons,raCs_flat l,raCs]
theorem rbCs_flat:∀ l:List Rb,l.flatMap rbC=rbCs l
 | []=>rfl
 | x :: l=>by rw[List.flatMap_cons,rbCs_flat l,rbCs]
theorem smRs_of:∀ {l:List Ra},(∀ x∈l,smR x=true)→smRs l=true
 | [],_=>rfl
 | x :: l,h=>by rw[smRs,h x (by simp),smRs_of fun y hy=>h y (by simp[hy])];rfl
theorem smBs_of:∀ {l:List Rb},(∀ x∈l,smB x=true)→smBs l=true
 | [],_=>rfl
 | x :: l,h=>by rw[smBs,h x (by simp),smBs_of fun y hy=>h y (by simp[hy])];rfl
theorem open_ras:∀ (fuel:Nat) {cs:List Value} {x:DataW H×List MemPlace},DataW.trod enc prog w 0 (fun _=>true) true fuel 36 cs=some x→(x.1.weights prog 36).all (·≤reachBytes)=true→
  ∃ l:List Ra,Go.Dv.Op prog 1 LL w [rasV l] cs∧smRs l=true∧l.length<1000000000000000:=by
 intro fuel
 induction fuel using Nat.strongRecOn with
 | ind fuel ih=>
 intro cs x h hw
 obtain ⟨l,h1,h2,h3⟩:=open_slice (n:=1) (L:=LL) u_raws (size:=3) (by kernel_rfl) (by kernel_rfl) (by omega) (of_decide_eq_true (by kernel_rfl)) raC (fun r=>smR r=true) h hw fun k c y hk hy hwy=>by
  obtain ⟨k',hk',hl,hfs⟩:=open_struct f_raw hy hwy
  rw[show prog.cellsOf era=3 by kernel_rfl] at hl
  match c,hl with
  | [a,b,d],_=>
   obtain ⟨y0,t0,_⟩:=hfs 0 _ _ rfl
   obtain ⟨y1,t1,_⟩:=hfs 1 _ _ rfl
   obtain ⟨y2,t2,w2⟩:=hfs 2 _ _ rfl
   rw[show prog.cellsOf eI=1 by kernel_rfl] at t0 t1
   rw[show prog.cellsOf 36=1 by kernel_rfl] at t2
   obtain ⟨m0,e0,o0,_⟩:=open_num (n:=1) (L:=LL) u_int t0
   obtain ⟨m1,e1,o1,_⟩:=open_num (n:=1) (L:=LL) u_int t1
   obtain ⟨l2,o2,s2,n2⟩:=ih k' (by omega) t2 w2
   refine ⟨.mk m0 m1 l2,?_,?_⟩
   ·exact (o0.append o1).append o2
   ·simp only[smR,s2,Bool.and_true,decide_eq_true_eq];exact n2
 rw[raCs_flat] at h1
 exact ⟨l,h1,smRs_of h2,h3⟩
theorem open_rb_of (fuel:Nat) (ih:∀ k,k<fuel→∀ {cs:List Value} {x:DataW H×List MemPlace},DataW.trod enc prog w 0 (fun _=>true) true k 22 cs=some x→(x.1.weights prog 22).all (·≤reachBytes)=true→
   ∃ l:List Rb,Go.Dv.Op prog 1 LL w [rbsV l] cs∧smBs l=true∧l.length<1000000000000000)
  {c:List Value} {y:DataW H×List MemPlace} (hy:DataW.trod enc prog w 0 (fun _=>true) true fuel erb c=some y) (hwy:(y.1.weights prog erb).all (·≤reachBytes)=true) :
  ∃ r:Rb,Go.Dv.Op prog 1 LL w (rbC r) c∧smB r=true:=by
 obtain ⟨k',hk',hl,hfs⟩:=open_struct f_rb hy hwy
 rw[show prog.cellsOf erb=5 by kernel_rfl] at hl
 match c,hl with
 | [a,b,d,e,f],_=>
  obtain ⟨y0,t0,_⟩:=hfs 0 _ _ rfl
  obtain ⟨y1,t1,_⟩:=hfs 1 _ _ rfl
  obtain ⟨y2,t2,_⟩:=hfs 2 _ _ rfl
  obtain ⟨y3,t3,w3⟩:=hfs 3 _ _ rfl
  obtain ⟨y4,t4,w4⟩:=hfs 4 _ _ rfl
  rw[show prog.cellsOf eI=1 by kernel_rfl] at t0 t1 t2
  rw[show prog.cellsOf 36=1 by kernel_rfl] at t3
  rw[show prog.cellsOf 22=1 by kernel_rfl] at t4
  obtain ⟨m0,e0,o0,_⟩:=open_num (n:=1) (L:=LL) u_int t0
  obtain ⟨m1,e1,o1,_⟩:=open_num (n:=1) (L:=LL) u_int t1
  obtain ⟨m2,e2,o2,_⟩:=open_num (n:=1) (L:=LL) u_int t2
  obtain ⟨l3,o3,s3,n3⟩:=open_ras k' t3 w3
  obtain ⟨l4,o4,s4,n4⟩:=ih k' (by omega) t4 w4
  refine ⟨.mk m0 m1 m2 l3 l4,?_,?_⟩
  ·exact (((o0.append o1).append o2).append o3).append o4
  ·simp only[smB,s3,s4,Bool.and_true,Bool.and_eq_true,decide_eq_true_eq];exact ⟨n4,n3⟩
theorem open_rbs:∀ (fuel:Nat) {cs:List Value} {x:DataW H×List MemPlace},DataW.trod enc prog w 0 (fun _=>true) true fuel 22 cs=some x→(x.1.weights prog 22).all (·≤reachBytes)=true→
  ∃ l:List Rb,Go.Dv.Op prog 1 LL w [rbsV l] cs∧smBs l=true∧l.length<1000000000000000:=by
 intro fuel
 induction fuel using Nat.strongRecOn with
 | ind fuel ih=>
 intro cs x h hw
 obtain ⟨l,h1,h2,h3⟩:=open_slice (n:=1) (L:=LL) u_rbs (size:=5) (by kernel_rfl) (by kernel_rfl) (by omega) (of_decide_eq_true (by kernel_rfl)) rbC (fun r=>smB r=true) h hw fun k c y hk hy hwy=>
  open_rb_of k (fun k' hk'=>ih k' (by omega)) hy hwy
 rw[rbCs_flat] at h1
 exact ⟨l,h1,smBs_of h2,h3⟩
theorem open_rb (fuel:Nat) {c:List Value} {y:DataW H×List MemPlace} (hy:DataW.trod enc prog w 0 (fun _=>true) true fuel erb c=some y) (hwy:(y.1.weights prog erb).all (·≤reachBytes)=true) :
  ∃ r:Rb,Go.Dv.Op prog 1 LL w (rbC r) c∧smB r=true:=open_rb_of fuel (fun k _=>open_rbs k) hy hwy
end
end
end Go.Proofs.Ytgeakofgklcipaa
namespace Go.Proofs.Ytgeakofgklcipaa
open _root_.Go.Proofs.Try (prog)
open Go Go.RowKit Go.Ev Go.Dv
noncomputable section
@[reducible] def witB:Value:=.agg ⟨[.int .i64 0,.int .i64 0,.int .i64 0,.slice none 0 0,.slice none 0 0]⟩
end
end Go.Proofs.Ytgeakofgklcipaa
