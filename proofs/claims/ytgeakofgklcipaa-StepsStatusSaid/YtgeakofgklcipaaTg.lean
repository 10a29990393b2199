/-
  A part of the proof: what the program's functions hand back,as theorems. No condition but those that each theorem names.
-/
import Derived.Test.YtgeakofgklcipaaTf
import Derived.Test.YtgeakofgklcipaaTa
import Derived.Test.YtgeakofgklcipaaEvd
import Derived.Test.YtgeakofgklcipaaExd
import Derived.Test.YtgeakofgklcipaaTe
import Derived.Test.YtgeakofgklcipaaTb
set_option linter.unusedSimpArgs false
set_option linter.unusedVariables false
namespace Go.Proofs.Ytgeakofgklcipaa
open _root_.Go.Proofs.Try (prog)
open Go Go.RowKit Go.Ev Go.Dv
noncomputable section
set_option maxRecDepth 100000
variable (G:Nat×Nat)
theorem few_fz (N:Nat) (hN:0<N) (σ:jA) (l:List Rb):FzL (pp G).P N σ [.agg ⟨[.int .i64 0,.int .i64 0,Rw true erb l.length (rbCs l)]⟩] [shV 0 0 l]:=
 .cons (.agg (.cons (.id rfl) (.cons (.id rfl) (.cons (.row (.ids (rbCs_sc _ hN _))) .nil)))) .nil
theorem made5_f (r:Rb) (w:Int) (hr:smB r=true):kN (pp G) H0 22 [rbV r,.int .i64 w] (fun d=>∃ y,d=tmV y∧goodT y):=
 fun g h vs hP hrr hv=>(make5_f G r w hr g h vs hP hrr hv).mono fun u h' ⟨d,g',⟨y,e,hs,hy⟩,x⟩=>⟨d,g',⟨y,e,made_good hs hy⟩,x⟩
mutual
theorem act_len:∀ x:Tm,((gB x).length:Int)≤kI x
 | .mk k a b s e l=>by
  rw[gB,kI]
  have hL:=act_lens l
  have hH:=act_lenh l
  have hp:=sizeTs_pos l
  split
  ·rw[List.length_cons];omega
  ·split
   ·rw[List.length_cons];omega
   ·simp;omega
theorem act_lens:∀ l:List Tm,((kK l).length:Int)≤qA l
 | []=>by simp[kK,qA]
 | x :: l=>by rw[kK,qA,List.length_append];have:=act_len x;have:=act_lens l;omega
theorem act_lenh:∀ l:List Tm,((actH l).length:Int)≤qA l
 | []=>by simp[actH,qA]
 | x :: l=>by rw[actH,qA];have:=act_len x;have:=sizeTs_pos l;omega
end
structure NmOk (t n:Tm):Prop where
 i:jQ n=n
 z:kI n≤kI t
 r:∀ q,uT 3 2 5 q t=true→uT 3 2 5 q n=true
 s:smT t=true→smT n=true
theorem NmOk.of_eq {t:Tm} (h:jQ t=t):NmOk t (jQ t):=by
 rw[h];exact ⟨h,Int.le_refl _,fun _ h=>h,fun h=>h⟩
theorem nm_z (t:Tm):NmOk t zT:=⟨rfl,by have:=sizeT_pos t;show 1≤_;omega,fun q _=>by cases q<;>decide,fun _=>rfl⟩
theorem right_1 {q:Bool} {k a b:Int} {s:List UInt8} {e:Ex} {x x':Tm} (hx:∀ q,uT 3 2 5 q x=true→uT 3 2 5 q x'=true) (h:uT 3 2 5 q (.mk k a b s e [x])=true):uT 3 2 5 q (.mk k a b s e [x'])=true:=by
 simp only[uT,bW,Bool.and_eq_true,List.length_singleton] at h ⊢
 exact ⟨h.1,h.2.1,h.2.2.1,h.2.2.2.1,h.2.2.2.2.1,h.2.2.2.2.2.1,h.2.2.2.2.2.2.1,hx _ h.2.2.2.2.2.2.2.1,trivial⟩
theorem right_2 {q:Bool} {k a b:Int} {s:List UInt8} {e:Ex} {x x' y y':Tm} (hx:∀ q,uT 3 2 5 q x=true→uT 3 2 5 q x'=true) (hy:∀ q,uT 3 2 5 q y=true→uT 3 2 5 q y'=true) (h:uT 3 2 5 q (.mk k a b s e [x,y])=true):uT 3 2 5 q (.mk k a b s e [x',y'])=true:=by
 simp only[uT,bW,Bool.and_eq_true,List.length_cons,List.length_nil] at h ⊢
 exact ⟨h.1,h.2.1,h.2.2.1,h.2.2.2.1,h.2.2.2.2.1,h.2.2.2.2.2.1,h.2.2.2.2.2.2.1,hx _ h.2.2.2.2.2.2.2.1,hy _ h.2.2.2.2.2.2.2.2.1,trivial⟩
theorem right_snd {q:Bool} {a b:Int} {s:List UInt8} {e:Ex} {x y:Tm} (h:uT 3 2 5 q (.mk 12 a b s e [x,y])=true):uT 3 2 5 q y=true:=by
 simp only[uT,bW,Bool.and_eq_true] at h
 have:=h.2.2.2.2.2.2.2.2.1
 cases q<;>exact this
theorem sm_1 {k a b:Int} {s:List UInt8} {e:Ex} {x x':Tm} (hx:smT x=true→smT x'=true) (h:smT (.mk k a b s e [x])=true):smT (.mk k a b s e [x'])=true:=by
 simp only[smT,smTs,Bool.and_eq_true,List.length_singleton] at h ⊢
 exact ⟨h.1,hx h.2.1,trivial⟩
theorem sm_2 {k a b:Int} {s:List UInt8} {e:Ex} {x x' y y':Tm} (hx:smT x=true→smT x'=true) (hy:smT y=true→smT y'=true) (h:smT (.mk k a b s e [x,y])=true):smT (.mk k a b s e [x',y'])=true:=by
 simp only[smT,smTs,Bool.and_eq_true,List.length_cons,List.length_nil] at h ⊢
 exact ⟨h.1,hx h.2.1,hy h.2.2.1,trivial⟩
theorem sz1 (k a b:Int) (s:List UInt8) (e:Ex) (x:Tm):kI (.mk k a b s e [x])=1+kI x:=by simp[kI,qA]
theorem sz2 (k a b:Int) (s:List UInt8) (e:Ex) (x y:Tm):kI (.mk k a b s e [x,y])=1+(kI x+kI y):=by simp[kI,qA]
theorem norm_ok:∀ t:Tm,NmOk t (jQ t)
 | .mk k a b s e [x,y]=>by
  have hx:=norm_ok x
  have hy:=norm_ok y
  rw[jQ]
  by_cases h12:k=12
  ·subst h12
   rw[if_pos rfl]
   by_cases h0:(jQ x).k=0
   ·rw[if_pos h0]
    refine ⟨hy.i,?_,fun q h=>hy.r q (right_snd h),fun h=>hy.s ?_⟩
    ·rw[sz2];have:=hy.z;have:=sizeT_pos x;omega
    ·simp only[smT,smTs,Bool.and_eq_true] at h;exact h.2.2.1
   ·rw[if_neg h0]
    refine ⟨?_,?_,fun q h=>right_2 hx.r (fun _ h=>h) h,sm_2 hx.s fun h=>h⟩
    ·rw[jQ,if_pos rfl,hx.i,if_neg h0]
    ·rw[sz2,sz2];have:=hx.z;omega
  rw[if_neg h12]
  by_cases h11:k=11
  ·subst h11
   rw[if_pos rfl]
   by_cases h0:(jQ x).k=0∧(jQ y).k=0
   ·rw[if_pos h0];exact nm_z _
   ·rw[if_neg h0]
    refine ⟨?_,?_,fun q h=>right_2 hx.r hy.r h,sm_2 hx.s hy.s⟩
    ·rw[jQ,if_neg (by decide),if_pos rfl,hx.i,hy.i,if_neg h0]
    ·rw[sz2,sz2];have:=hx.z;have:=hy.z;omega
  rw[if_neg h11]
  exact ⟨by rw[jQ,if_neg h12,if_neg h11],Int.le_refl _,fun _ h=>h,fun h=>h⟩
 | .mk k a b s e [x]=>by
  have hx:=norm_ok x
  rw[jQ]
  by_cases h7:k=7
  ·subst h7
   rw[if_pos rfl]
   by_cases h0:(jQ x).k=0
   ·rw[if_pos h0];exact nm_z _
   ·rw[if_neg h0]
    refine ⟨?_,?_,fun q h=>right_1 hx.r h,sm_1 hx.s⟩
    ·rw[jQ,if_pos rfl,hx.i,if_neg h0]
    ·rw[sz1,sz1];have:=hx.z;omega
  rw[if_neg h7]
  exact ⟨by rw[jQ,if_neg h7],Int.le_refl _,fun _ h=>h,fun h=>h⟩
 | .mk k a b s e []=>.of_eq rfl
 | .mk k a b s e (x :: y :: z :: l)=>.of_eq rfl
 termination_by t=>SizeOf.sizeOf t
theorem en_f {t:Tm} (h:goodT t):jL (pp G) H0 39 [tmV t] (stsV (enF t)):=by
 have hk:=norm_ok t
 have h1:=act_len (jQ t)
 have h2:=hk.z
 have h3:=h.2.2
 exact enabled_f G t h.1 (hk.s h.1) (by omega)
theorem sta_f {t:Tm} (h:goodT t):jL (pp G) H0 44 [tmV t] (.int .i64 (staF t)):=by
 have hk:=norm_ok t
 have h1:=act_len (jQ t)
 have h2:=hk.z
 have h3:=h.2.2
 exact status_f G t h.1 (hk.s h.1) (by omega)
theorem tmz_fz {P:Program} {N:Nat} {σ:jA} (h1:szT P eE=some 4) (k a b:Int) (s:List UInt8) {f:Bool} {cs:List Value} {n:Nat} {l:List Tm} (hn:n=l.length) (hc:FzL P N σ cs (kF l)) :
  FzV P N σ (.agg ⟨[.int .i64 k,.int .i64 a,.int .i64 b,.string (Tx s),.int .i64 0,.int .i64 0,.string (Tx []),.slice none 0 0,Rw f etm n cs]⟩) (tmV (.mk k a b s zE l)):=by
 subst hn
 exact .agg (.cons (.id rfl) (.cons (.id rfl) (.cons (.id rfl) (.cons (.id rfl) (.cons (.id rfl) (.cons (.id rfl) (.cons (.id rfl) (.cons (.nil (size:=4) h1 (by decide)) (.cons (.row hc) .nil)))))))))
theorem sizeTs_len:∀ l:List Tm,(l.length:Int)≤qA l∧0≤qA l
 | []=>by simp[qA]
 | .mk k a b s e m :: l=>by
  have h1:=sizeTs_len l
  have h2:=(sizeTs_len m).2
  rw[qA,kI,List.length_cons];omega
theorem sizeTs_mem:∀ {l:List Tm} {x:Tm},x∈l→kI x≤qA l
 | .mk k a b s e m :: l,x,h=>by
  have h1:=(sizeTs_len l).2
  have h2:=(sizeTs_len m).2
  rcases List.mem_cons.1 h with rfl|h
  ·rw[qA];omega
  ·have:=sizeTs_mem h
   rw[qA,kI];omega
theorem wS_app (a b:List Tm):wS (a++b)=wS a++wS b:=by unfold wS;rw[List.filter_append,List.map_append]
theorem wS_cons {k a b:Int} {s:List UInt8} {e:Ex} {l:List Tm} (h:k≠14) (m:List Tm):wS (.mk k a b s e l :: m)=wS m:=by
 unfold wS;simp[Tm.k,h]
def actN (k:Int):Nat:=if k=12∨k=7 then 1 else if k=11 then 2 else 0
theorem active5_f (t:Tm):jL (pp G) H0 41 [tmV t] (.int .i64 (actN t.k)):=by
 obtain ⟨k,a,b,s,e,l⟩:=t
 have hlo:H0.lo≤H0.next:=Nat.le_refl _;refine jL.cut (jH.fir4 (q:=qq) (jR G) fir41 (by kernel_rfl) rfl rfl (F10_arr ..) (show NGG≤H0.lo by rw[qO];decide) ?_);rw[sd_ir41]
 rw[Tm.k_mk]
 unfold actN
 by_cases h12:k=12
 ·rw[if_pos (.inl h12)]
  simp(disch:=first|omega|(apply id;simp only[push_cast];try omega))only[push_cast,simprocAttr,h12]
  rw[sd_ir41_s0]
  simp(disch:=first|omega|(apply id;simp only[push_cast];try omega))only[push_cast,simprocAttr]
  exact .id rfl
 by_cases h7:k=7
 ·rw[if_pos (.inr h7)]
  simp(disch:=first|omega|(apply id;simp only[push_cast];try omega))only[push_cast,simprocAttr,h12,h7]
  rw[sd_ir41_s0]
  simp(disch:=first|omega|(apply id;simp only[push_cast];try omega))only[push_cast,simprocAttr]
  exact .id rfl
 simp(disch:=first|omega|(apply id;simp only[push_cast];try omega))only[push_cast,simprocAttr,h12,h7]
 rw[sd_ir41_s0]
 rw[if_neg (by omega)]
 by_cases h11:k=11
 ·rw[if_pos h11]
  simp(disch:=first|omega|(apply id;simp only[push_cast];try omega))only[push_cast,simprocAttr,h11]
  exact .id rfl
 ·rw[if_neg h11]
  simp(disch:=first|omega|(apply id;simp only[push_cast];try omega))only[push_cast,simprocAttr,h11]
  rw[sd_ir41_s1]
  simp(disch:=first|omega|(apply id;simp only[push_cast];try omega))only[push_cast,simprocAttr]
  exact .id rfl
theorem sh_of {p:Bool} {k a b:Int} {s:List UInt8} {e:Ex} {l:List Tm} (h:uT 3 2 5 p (.mk k a b s e l)=true):(l.length:Int)=shL k∧∀ x∈l,uT 3 2 5 (p || decide (k=3)) x=true:=by
 rw[uT] at h
 simp only[Bool.and_eq_true,decide_eq_true_eq] at h
 exact ⟨h.2.2.2.2.1.2.2,rightTs_all h.2.2.2.2.2.2.2⟩
theorem waits_eq {k a b:Int} {s:List UInt8} {e:Ex} {l:List Tm} (h:k≠14) (hl:(l.length:Int)=shL k):qV (.mk k a b s e l)=wS (kK (l.take (actN k)))∧actN k≤l.length:=by
 unfold qV actN
 rw[gB,wS_cons h]
 by_cases h12:k=12
 ·subst h12
  rw[if_pos rfl,if_pos (.inl rfl),actH_take]
  exact ⟨rfl,by have:shL 12=2:=rfl;omega⟩
 rw[if_neg h12]
 by_cases h7:k=7
 ·subst h7
  have:shL 7=1:=rfl
  rw[if_pos (.inr rfl),if_pos (.inr rfl),List.take_of_length_le (by omega)]
  exact ⟨rfl,by omega⟩
 by_cases h11:k=11
 ·subst h11
  have:shL 11=2:=rfl
  rw[if_pos (.inl rfl),if_neg (by decide),if_pos rfl,List.take_of_length_le (by omega)]
  exact ⟨rfl,by omega⟩
 ·rw[if_neg (by omega),if_neg (by omega),if_neg h11,List.take_zero]
  exact ⟨rfl,by omega⟩
inductive I25 (t:Tm):Nat→S→Prop
 | mk (i : Nat) (iv : Int) (h : jA) (q : Option Addr) (c : Nat) {x0 x2 x5 x6 x7 x8 x9 xA xB xC xD xE xF xG xH xI xJ xK xL xM xN xO xP : Value} (hiv : iv = (i : Int)) (hi : i ≤ actN t.k) (c1 : cells h 1 = some (tmC t, etm, false))
   (ho:qK h eI 1 q (wS (kK (t.l.take i))).length c (ivs (wS (kK (t.l.take i))))) (hq:∀ b,blk q b→2≤b) (hl1:h.lo=1) (hl2:2≤h.next) :
  I25 t (actN t.k-i) ⟨(F26 x0 (.pointer (some ⟨1,0,none⟩)) x2 (.slice q (wS (kK (t.l.take i))).length c) (.int .i64 iv) x5 x6 x7 x8 x9 xA xB xC xD xE xF xG xH xI xJ xK xL xM xN xO xP),[],h⟩
theorem rwaits_f:∀ (t:Tm) (p:Bool),smT t=true→uT 3 2 5 p t=true→kI t≤255→jL (pp G) H0 45 [tmV t] (ivV (qV t))
 | .mk k a b s e l,p,hs,hr,hz=>by
  have hs0:=hs
  simp only[smT,Bool.and_eq_true,decide_eq_true_eq] at hs
  obtain ⟨⟨hll,hse⟩,hsl⟩:=hs
  obtain ⟨hL,hrs⟩:=sh_of hr
  have hz0:=hz
  rw[kI] at hz
  have hlen:=(sizeTs_len l).1
  have ih:∀ x∈l,jL (pp G) H0 45 [tmV x] (ivV (qV x)):=fun x hx=>rwaits_f x _ (gY hsl x hx) (hrs x hx) (by have:=sizeTs_mem hx;omega)
  have hlo:H0.lo≤H0.next:=Nat.le_refl _;refine jL.cut (jH.fir4 (q:=qq) (jR G) fir45 (by kernel_rfl) rfl rfl (F26_arr ..) (show NGG≤H0.lo by rw[qO];decide) ?_);rw[sd_ir45]
  by_cases h14:k=14
  ·subst h14
   simp(disch:=first|omega|(apply id;simp only[push_cast];try omega))only[push_cast,simprocAttr,↓rowI1']
   rw[show qV (.mk 14 a b s e l)=[a] by unfold qV wS;rw[gB,if_neg (by decide),if_neg (by decide)];rfl]
   exact .row (.ids (ivs_sc _ _))
  ·obtain ⟨hw,hn⟩:=waits_eq (a:=a) (b:=b) (s:=s) (e:=e) h14 hL
   simp(disch:=first|omega|(apply id;simp only[push_cast];try omega))only[push_cast,simprocAttr,h14]
   refine WD.loop4 (q:=qq) (jR G) (by kernel_rfl) (I25 (.mk k a b s e l)) ?_ _ _ (I25.mk 0 0 _ none 0 rfl (Nat.zero_le _) ?_ (qK.nil _ _ _) (fun b hb=>by obtain ⟨o,s,e⟩:=hb;cases e) ?_ ?_)
   ·intro m s1 hI
    cases hI with|mk i iv h q c hiv hi c1 ho hq hl1 hl2=>
    subst hiv
    simp only[Tm.k_mk,Tm.l_mk] at hi ho ⊢
    have hwb:∀ j,(wS (kK (l.take j))).length≤255:=fun j=>by
     have h1:=wS_len (kK (l.take j))
     have h2:=act_lens (l.take j)
     have h3:qA (l.take j)≤qA l:=by
      have e:=sizeTs_app (l.take j) (l.drop j)
      rw[List.take_append_drop] at e
      have:=(sizeTs_len (l.drop j)).2
      omega
     omega
    have hb0:=hwb i
    rw[sd_ir45_s0]
    simp(disch:=first|omega|(apply id;simp only[push_cast];try omega))only[push_cast,simprocAttr,c1,hl1]
    refine jC.dataI (active5_f G (.mk k a b s e l)) (by and_intros<;>first|rfl|(simp(disch:=first|omega|(apply id;simp only[push_cast];try omega))only[push_cast])) ?_
    rw[Tm.k_mk]
    rw[tmC_mk] at c1
    by_cases hil:(i:Int)<actN k
    ·obtain ⟨x,hx⟩:=qZ (l:=l) (i:=i) (by omega)
     have hp:=bZ hx
     have hle:i*9+9≤l.length*9:=by omega
     have hill:(i:Int)<l.length:=by omega
     have hta:wS (kK (l.take (i+1)))=wS (kK (l.take i))++qV x:=by
      rw[qH hx,actL_app,wS_app]
      unfold qV
      rw[kK,kK,List.append_nil]
     have hb1:=hwb (i+1)
     rw[hta,List.length_append] at hb1
     have hsr:∀ h:jA,srcD 1 (ivV (qV x)) h=some ((qV x).length,ivs (qV x)):=fun h=>srcD_r _ (by rw[ivs_len,Nat.mul_one])
     obtain ⟨a',c',σ',e',o',g',b'⟩:=gU (by_:=8) ho (by omega) (by omega) (m:=(qV x).length) (xs:=ivs (qV x)) (by rw[ivs_len,Nat.mul_one]) (ivs_one _) (by omega)
     rw[← ivs_app,← List.length_append,← hta] at o'
     rw[← List.length_append,← hta] at e'
     have k1:cells σ' 1=_:=g'.cellsE c1 (by omega) (fun hb=>by have:=hq _ hb;omega)
     have hn':=g'.next
     have hl':=g'.lo
     simp(disch:=first|omega|(apply id;simp only[push_cast];try omega))only[push_cast,simprocAttr,hil,c1,hill,hp,hle,Int.toNat_natCast,hl1]
     refine jC.dataI (ih x (List.mem_of_getElem? hx)) (by and_intros<;>first|rfl|(simp(disch:=first|omega|(apply id;simp only[push_cast];try omega))only[push_cast])) ?_
     simp(disch:=first|omega|(apply id;simp only[push_cast];try omega))only[push_cast,simprocAttr,hsr,e']
     refine ⟨_,by simp only[Tm.k_mk];omega,I25.mk (i+1) _ σ' a' c' (by first|rfl|omega) (by simp only[Tm.k_mk];omega) k1 o' (fun k hk=>?_) (by omega) (by omega)⟩
     rcases b' k hk with hb|hb
     ·exact hq k hb
     ·omega
    ·obtain rfl:i=actN k:=by omega
     simp(disch:=first|omega|(apply id;simp only[push_cast];try omega))only[push_cast,simprocAttr,hil]
     rw[sd_ir45_s1]
     simp(disch:=first|omega|(apply id;simp only[push_cast];try omega))only[push_cast,simprocAttr]
     rw[hw]
     exact ho.fz rfl (by decide) (by omega) (.ids (ivs_sc _ _)) (fun b hb=>by have:=hq b hb;omega)
   ·first|assumption|(simp(disch:=first|omega|(apply id;simp only[push_cast];try omega))only[push_cast,simprocAttr];try omega)
   ·rfl
   ·first|assumption|(simp(disch:=first|omega|(apply id;simp only[push_cast];try omega))only[push_cast,simprocAttr];try omega)
 termination_by t=>SizeOf.sizeOf t
theorem given_no {e:Ex} (h:givenF e=false):e=zE:=by
 obtain ⟨k,n,s,l⟩:=e
 unfold givenF at h
 simp only[Bool.or_eq_false_iff,Bool.not_eq_false',decide_eq_true_eq,decide_eq_false_iff_not] at h
 obtain ⟨h1,h2,h3,h4⟩:=h
 have e1:k=0:=h1
 have e2:n=0:=h2
 have e3:s=[]:=h3
 have e4:l=[]:=by
  cases l with
  | nil=>rfl
  | cons x l=>exact absurd (Nat.zero_lt_succ _) h4
 subst e1 e2 e3 e4
 rfl
theorem bare {p:Bool} {k a b:Int} {s:List UInt8} {e:Ex} {l:List Tm} (hk:k=12∨k=11∨k=7) (h:uT 3 2 5 p (.mk k a b s e l)=true):a=0∧b=0∧s=[]∧e=zE:=by
 rw[uT] at h
 simp only[Bool.and_eq_true,decide_eq_true_eq] at h
 obtain ⟨_,_,h3,h4,⟨h5,h6,_⟩,_⟩:=h
 have hA:shA k=0:=by rcases hk with rfl|rfl|rfl<;>rfl
 have hB:shB k=0:=by rcases hk with rfl|rfl|rfl<;>rfl
 have hS:shN k=0:=by rcases hk with rfl|rfl|rfl<;>rfl
 have hE:shE k=0:=by rcases hk with rfl|rfl|rfl<;>rfl
 rw[hA] at h3
 rw[hB] at h4
 rw[hS] at h5
 rw[hE] at h6
 refine ⟨by simpa[fitsF] using h3,by simpa[fitsF] using h4,?_,given_no ?_⟩
 ·by_cases hs:s=[]
  ·exact hs
  ·rw[if_neg hs] at h5;omega
 ·cases hg:givenF e with
  | false=>rfl
  | true=>rw[if_pos hg] at h6;omega
set_option maxHeartbeats 2000000 in
theorem rnorm_f:∀ (x:Tm) (p:Bool),smT x=true→uT 3 2 5 p x=true→jL (pp G) H0 38 [tmV x] (tmV (jQ x))
 | .mk k a b s e l,p,hs,hr=>by
  have hs0:=hs
  simp only[smT,Bool.and_eq_true,decide_eq_true_eq] at hs
  obtain ⟨⟨hll,hse⟩,hsl⟩:=hs
  obtain ⟨hL,hrs⟩:=sh_of hr
  have ih:∀ x∈l,jL (pp G) H0 38 [tmV x] (tmV (jQ x)):=fun x hx=>rnorm_f x _ (gY hsl x hx) (hrs x hx)
  have hbare:=fun hk=>bare hk hr
  by_cases h12:k=12
  ·subst h12
   obtain ⟨rfl,rfl,rfl,rfl⟩:=hbare (.inl rfl)
   obtain ⟨x,y,rfl⟩:∃ x y,l=[x,y]:=by
    match l,hL with
    | [x,y],_=>exact ⟨x,y,rfl⟩
   have hx:=ih x (by simp)
   have hy:=ih y (by simp)
   clear ih hs0 hr hbare hrs hsl
   have hlo:H0.lo≤H0.next:=Nat.le_refl _;refine jL.cut (jH.fir4 (q:=qq) (jR G) fir38 (by kernel_rfl) rfl rfl (F73_arr ..) (show NGG≤H0.lo by rw[qO];decide) ?_);rw[sd_ir38]
   rw[jQ,if_pos rfl]
   simp(disch:=first|omega|(apply id;simp only[push_cast];try omega))only[push_cast,simprocAttr]
   refine jC.dataI (hx) (by and_intros<;>first|rfl|(simp(disch:=first|omega|(apply id;simp only[push_cast];try omega))only[push_cast])) ?_
   generalize jQ x=x'
   by_cases h0:x'.k=0
   ·rw[if_pos h0]
    simp(disch:=first|omega|(apply id;simp only[push_cast];try omega))only[push_cast,simprocAttr,bH,h0]
    refine jC.dataI (hy) (by and_intros<;>first|rfl|(simp(disch:=first|omega|(apply id;simp only[push_cast];try omega))only[push_cast])) ?_
    simp(disch:=first|omega|(apply id;simp only[push_cast];try omega))only[push_cast,simprocAttr]
    exact .id (bT 1 (by decide) _)
   ·rw[if_neg (by exact h0)]
    simp(disch:=first|omega|(apply id;simp only[push_cast];try omega))only[push_cast,simprocAttr,bH,h0,↓rowT2]
    exact tmz_fz rfl 12 0 0 [] (l:=[x',y]) rfl (.ids (bJ _ (by decide) _))
  by_cases h11:k=11
  ·subst h11
   obtain ⟨rfl,rfl,rfl,rfl⟩:=hbare (.inr (.inl rfl))
   obtain ⟨x,y,rfl⟩:∃ x y,l=[x,y]:=by
    match l,hL with
    | [x,y],_=>exact ⟨x,y,rfl⟩
   have hx:=ih x (by simp)
   have hy:=ih y (by simp)
   clear ih hs0 hr hbare hrs hsl
   have hlo:H0.lo≤H0.next:=Nat.le_refl _;refine jL.cut (jH.fir4 (q:=qq) (jR G) fir38 (by kernel_rfl) rfl rfl (F73_arr ..) (show NGG≤H0.lo by rw[qO];decide) ?_);rw[sd_ir38]
   rw[jQ,if_neg (by omega),if_pos rfl]
   generalize jQ x=x' at hx ⊢
   generalize jQ y=y' at hy ⊢
   by_cases h0:x'.k=0
   ·by_cases h0':y'.k=0
    ·rw[if_pos ⟨h0,h0'⟩]
     simp(disch:=first|omega|(apply id;simp only[push_cast];try omega))only[push_cast,simprocAttr]
     all_goals repeat' apply And.intro
     all_goals
      refine jC.dataI (hx) (by and_intros<;>first|rfl|(simp(disch:=first|omega|(apply id;simp only[push_cast];try omega))only[push_cast])) ?_
      simp(disch:=first|omega|(apply id;simp only[push_cast];try omega))only[push_cast,simprocAttr]
     all_goals repeat' apply And.intro
     all_goals
      refine jC.dataI (hy) (by and_intros<;>first|rfl|(simp(disch:=first|omega|(apply id;simp only[push_cast];try omega))only[push_cast])) ?_
      simp(disch:=first|omega|(apply id;simp only[push_cast];try omega))only[push_cast,simprocAttr,bH,h0,h0',↓rowT2]
     all_goals repeat' apply And.intro
     all_goals exact zt_fz prog _ _
    ·rw[if_neg (fun h=>h0' h.2)]
     simp(disch:=first|omega|(apply id;simp only[push_cast];try omega))only[push_cast,simprocAttr]
     all_goals repeat' apply And.intro
     all_goals
      refine jC.dataI (hx) (by and_intros<;>first|rfl|(simp(disch:=first|omega|(apply id;simp only[push_cast];try omega))only[push_cast])) ?_
      simp(disch:=first|omega|(apply id;simp only[push_cast];try omega))only[push_cast,simprocAttr]
     all_goals repeat' apply And.intro
     all_goals
      refine jC.dataI (hy) (by and_intros<;>first|rfl|(simp(disch:=first|omega|(apply id;simp only[push_cast];try omega))only[push_cast])) ?_
      simp(disch:=first|omega|(apply id;simp only[push_cast];try omega))only[push_cast,simprocAttr,bH,h0,h0',↓rowT2]
     all_goals repeat' apply And.intro
     all_goals exact tmz_fz rfl 11 0 0 [] (l:=[x',y']) rfl (.ids (bJ _ (by decide) _))
   ·rw[if_neg (fun h=>h0 h.1)]
    simp(disch:=first|omega|(apply id;simp only[push_cast];try omega))only[push_cast,simprocAttr]
    all_goals repeat' apply And.intro
    all_goals
     refine jC.dataI (hx) (by and_intros<;>first|rfl|(simp(disch:=first|omega|(apply id;simp only[push_cast];try omega))only[push_cast])) ?_
     simp(disch:=first|omega|(apply id;simp only[push_cast];try omega))only[push_cast,simprocAttr]
    all_goals repeat' apply And.intro
    all_goals
     refine jC.dataI (hy) (by and_intros<;>first|rfl|(simp(disch:=first|omega|(apply id;simp only[push_cast];try omega))only[push_cast])) ?_
     simp(disch:=first|omega|(apply id;simp only[push_cast];try omega))only[push_cast,simprocAttr,bH,h0,↓rowT2]
    all_goals repeat' apply And.intro
    all_goals exact tmz_fz rfl 11 0 0 [] (l:=[x',y']) rfl (.ids (bJ _ (by decide) _))
  by_cases h7:k=7
  ·subst h7
   obtain ⟨rfl,rfl,rfl,rfl⟩:=hbare (.inr (.inr rfl))
   obtain ⟨x,rfl⟩:∃ x,l=[x]:=by
    match l,hL with
    | [x],_=>exact ⟨x,rfl⟩
   have hx:=ih x (by simp)
   clear ih hs0 hr hbare hrs hsl
   have hlo:H0.lo≤H0.next:=Nat.le_refl _;refine jL.cut (jH.fir4 (q:=qq) (jR G) fir38 (by kernel_rfl) rfl rfl (F73_arr ..) (show NGG≤H0.lo by rw[qO];decide) ?_);rw[sd_ir38]
   rw[jQ,if_pos rfl]
   generalize jQ x=x' at hx ⊢
   simp(disch:=first|omega|(apply id;simp only[push_cast];try omega))only[push_cast,simprocAttr]
   refine jC.dataI (hx) (by and_intros<;>first|rfl|(simp(disch:=first|omega|(apply id;simp only[push_cast];try omega))only[push_cast])) ?_
   by_cases h0:x'.k=0
   ·rw[if_pos h0]
    simp(disch:=first|omega|(apply id;simp only[push_cast];try omega))only[push_cast,simprocAttr,bH,h0]
    exact zt_fz prog _ _
   ·rw[if_neg h0]
    simp(disch:=first|omega|(apply id;simp only[push_cast];try omega))only[push_cast,simprocAttr,bH,h0,↓rowT1]
    exact tmz_fz rfl 7 0 0 [] (l:=[x']) rfl (.ids (bJ _ (by decide) _))
  have hn:jQ (.mk k a b s e l)=.mk k a b s e l:=by
   unfold jQ
   split
   ·rename_i e1;cases e1;rw[if_neg h12,if_neg h11]
   ·rename_i e1;cases e1;rw[if_neg h7]
   ·rename_i e1;cases e1;rfl
  rw[hn]
  have hlo:H0.lo≤H0.next:=Nat.le_refl _;refine jL.cut (jH.fir4 (q:=qq) (jR G) fir38 (by kernel_rfl) rfl rfl (F73_arr ..) (show NGG≤H0.lo by rw[qO];decide) ?_);rw[sd_ir38]
  simp(disch:=first|omega|(apply id;simp only[push_cast];try omega))only[push_cast,simprocAttr,h12,h11,h7]
  exact .id (bT 1 (by decide) (.mk k a b s e l))
 termination_by x=>SizeOf.sizeOf x
theorem rn_f {t:Tm} (h:goodT t):jL (pp G) H0 38 [tmV t] (tmV (jQ t)):=rnorm_f G t false h.1 h.2.1
theorem rw_f {t:Tm} (h:goodT t):jL (pp G) H0 45 [tmV (jQ t)] (ivV (qV (jQ t))):=by
 have hk:=norm_ok t
 exact rwaits_f G (jQ t) false (hk.s h.1) (hk.r false h.2.1) (by have:=hk.z;have:=h.2.2;omega)
theorem stS_cons (x:Sp) (l:List Sp):stS (x :: l)=stF x++stS l:=by simp[stS]
theorem stS_app (a b:List Sp):stS (a++b)=stS a++stS b:=by simp[stS]
theorem live:∀ (x:Tm) (q:Bool),jQ x=x→uT 3 2 5 q x=true→x.k≠0→qV x=[]→∀ (u:Tm) (p:List Int),qV u=[]→stS (spT x u p)≠[]
 | .mk k a b s e l,q,hn,hr,hk,hw,u,p,hu=>by
  obtain ⟨hL,hrs⟩:=sh_of hr
  rw[spT,stS_cons]
  have hk0:k≠0:=hk
  by_cases h14:k=14
  ·subst h14
   have hl:l=[]:=by
    have:shL 14=0:=rfl
    exact List.length_eq_zero_iff.1 (by omega)
   subst hl
   exfalso
   have:qV (.mk 14 a b s e [])=[a]:=by unfold qV wS;rw[gB,if_neg (by decide),if_neg (by decide)];rfl
   rw[this] at hw
   cases hw
  obtain ⟨hwe,hwl⟩:=waits_eq (a:=a) (b:=b) (s:=s) (e:=e) h14 hL
  rw[hwe] at hw
  by_cases h12:k=12
  ·subst h12
   obtain ⟨y,z,rfl⟩:∃ y z,l=[y,z]:=by
    match l,hL with
    | [y,z],_=>exact ⟨y,z,rfl⟩
   rw[jQ,if_pos rfl] at hn
   by_cases h0:(jQ y).k=0
   ·rw[if_pos h0] at hn
    exfalso
    have h1:=(norm_ok z).z
    rw[hn] at h1
    have h2:=sizeT_pos y
    simp only[kI,qA] at h1
    omega
   ·rw[if_neg h0] at hn
    injection hn with _ _ _ _ _ h3
    injection h3 with h3 _
    have hyk:y.k≠0:=by rw[h3] at h0;exact h0
    have hwy:qV y=[]:=by
     have:(List.take (actN 12) [y,z])=[y]:=rfl
     rw[this,kK,kK,List.append_nil] at hw
     exact hw
    have:=live y _ h3 (hrs y (by simp)) hyk hwy u (p++[((0:Nat):Int)]) hu
    rw[if_pos rfl,spH]
    exact fun h=>this (List.append_eq_nil_iff.1 h).2
  by_cases h11:k=11
  ·subst h11
   obtain ⟨y,z,rfl⟩:∃ y z,l=[y,z]:=by
    match l,hL with
    | [y,z],_=>exact ⟨y,z,rfl⟩
   rw[jQ,if_neg (by decide),if_pos rfl] at hn
   by_cases h0:(jQ y).k=0∧(jQ z).k=0
   ·rw[if_pos h0] at hn
    exfalso
    injection hn with h1
    omega
   ·rw[if_neg h0] at hn
    injection hn with _ _ _ _ _ h3
    injection h3 with h3 h4
    injection h4 with h4 _
    have hwy:qV y=[]∧qV z=[]:=by
     have:(List.take (actN 11) [y,z])=[y,z]:=rfl
     rw[this,kK,kK,kK,List.append_nil,wS_app] at hw
     exact List.append_eq_nil_iff.1 hw
    rw[if_neg (by decide),if_neg (by decide),if_pos rfl,spL,spL,spL,List.append_nil,stS_app]
    rw[h3,h4] at h0
    by_cases hyk:y.k=0
    ·have hzk:z.k≠0:=fun h=>h0 ⟨hyk,h⟩
     have:=live z _ h4 (hrs z (by simp)) hzk hwy.2 u (p++[((0+1:Nat):Int)]) hu
     exact fun h=>this (List.append_eq_nil_iff.1 (List.append_eq_nil_iff.1 h).2).2
    ·have:=live y _ h3 (hrs y (by simp)) hyk hwy.1 u (p++[((0:Nat):Int)]) hu
     exact fun h=>this (List.append_eq_nil_iff.1 (List.append_eq_nil_iff.1 h).2).1
  by_cases h7:k=7
  ·subst h7
   obtain ⟨y,rfl⟩:∃ y,l=[y]:=by
    match l,hL with
    | [y],_=>exact ⟨y,rfl⟩
   rw[jQ,if_pos rfl] at hn
   by_cases h0:(jQ y).k=0
   ·rw[if_pos h0] at hn
    exfalso
    injection hn with h1
    omega
   ·rw[if_neg h0] at hn
    injection hn with _ _ _ _ _ h3
    injection h3 with h3 _
    have hyk:y.k≠0:=by rw[h3] at h0;exact h0
    have hwy:qV y=[]:=by
     have:(List.take (actN 7) [y])=[y]:=rfl
     rw[this,kK,kK,List.append_nil] at hw
     exact hw
    have:=live y _ h3 (hrs y (by simp)) hyk hwy (.mk 7 a b s e [y]) (p++[((0:Nat):Int)]) (by rw[hwe];exact hw)
    rw[if_neg (by decide),if_pos rfl,spL,spL,List.append_nil]
    exact fun h=>this (List.append_eq_nil_iff.1 h).2
  intro h
  have h:=(List.append_eq_nil_iff.1 h).1
  unfold stF at h
  have e0:¬ ((Tm.mk k a b s e l).k=0∨(Tm.mk k a b s e l).k=14∨(Tm.mk k a b s e l).k=12∨(Tm.mk k a b s e l).k=11∨(Tm.mk k a b s e l).k=7):=by
   simp only[Tm.k_mk];omega
  dsimp only at h
  rw[if_neg e0] at h
  by_cases h8:k=8
  ·rw[if_pos (show (Tm.mk k a b s e l).k=8 from h8),if_pos hu] at h;cases h
  rw[if_neg (show ¬ (Tm.mk k a b s e l).k=8 from h8)] at h
  by_cases h10:k=10
  ·rw[if_pos (show (Tm.mk k a b s e l).k=10 from h10)] at h;cases h
  ·rw[if_neg (show ¬ (Tm.mk k a b s e l).k=10 from h10)] at h;cases h
 termination_by x=>SizeOf.sizeOf x
theorem enF_0 {t:Tm} (h:(jQ t).k=0):enF t=[]:=by
 unfold enF
 generalize jQ t=n at h
 obtain ⟨k,a,b,s,e,l⟩:=n
 have h:k=0:=h
 subst h
 rw[spT,if_neg (by decide),if_neg (by decide),if_neg (by decide),stS_cons]
 unfold stF
 rw[if_pos (.inl rfl)]
 rfl
theorem waits_live {t:Tm} (ht:goodT t) (hk:(jQ t).k≠0) (he:enF t=[]):qV (jQ t)≠[]:=by
 intro hw
 have hn:=norm_ok t
 exact live (jQ t) false hn.i (hn.r false ht.2.1) hk hw (jQ t) [] hw he
theorem status_law (r:Rb) (w:Int) (hr:smB r=true):jL (pp G) H0 13 [rbV r,.int .i64 w] (.bool true):=by
 have hlo:H0.lo≤H0.next:=Nat.le_refl _;refine jL.cut (jH.fir4 (q:=qq) (jR G) fir13 (by kernel_rfl) rfl rfl (F55_arr ..) (show NGG≤H0.lo by rw[qO];decide) ?_);rw[sd_ir13]
 simp(disch:=first|omega|(apply id;simp only[push_cast];try omega))only[push_cast,simprocAttr]
 refine jC.dataI (known7_f G) (by and_intros<;>first|rfl|(simp(disch:=first|omega|(apply id;simp only[push_cast];try omega))only[push_cast])) ?_
 have hcl:∀ x:Rb,(rbV x).cells.toList=rbC x:=fun _=>rfl
 have hone:=rbC_one
 have hlen:=cH
 have htk:∀ r:Rb,(rbC r).take 5=rbC r:=fun r=>List.take_of_length_le (by rw[cH];exact Nat.le_refl _)
 simp(disch:=first|omega|(apply id;simp only[push_cast];try omega))only[push_cast,simprocAttr,hcl,hone,hlen,htk,↓rowRb1]
 refine jC.data (few3_f G 0 0 [r] (by simp) (by simp[smBs,hr])) (few_fz G _ (by decide) _ [r]) (by first|rfl|(simp(disch:=first|omega|(apply id;simp only[push_cast];try omega))only[push_cast])) (by first|rfl|(simp(disch:=first|omega|(apply id;simp only[push_cast];try omega))only[push_cast])) ?_
 cases hf:fewB [r] with
 | false=>simp(disch:=first|omega|(apply id;simp only[push_cast];try omega))only[push_cast,simprocAttr,Bool.not_false];exact .id rfl
 | true=>
 simp(disch:=first|omega|(apply id;simp only[push_cast];try omega))only[push_cast,simprocAttr,Bool.not_true]
 refine jC.dataEI (made5_f G r w hr) (by and_intros<;>first|rfl|(simp(disch:=first|omega|(apply id;simp only[push_cast];try omega))only[push_cast])) ?_
 rintro _ ⟨t,rfl,ht⟩
 refine ⟨by simp(disch:=first|omega|(apply id;simp only[push_cast];try omega))only[push_cast,simprocAttr];first|done|rfl,?_⟩
 simp(disch:=first|omega|(apply id;simp only[push_cast];try omega))only[push_cast,simprocAttr]
 refine jC.dataI (rn_f G ht) (by and_intros<;>first|rfl|(simp(disch:=first|omega|(apply id;simp only[push_cast];try omega))only[push_cast])) ?_
 simp(disch:=first|omega|(apply id;simp only[push_cast];try omega))only[push_cast,simprocAttr]
 refine jC.dataI (sta_f G ht) (by and_intros<;>first|rfl|(simp(disch:=first|omega|(apply id;simp only[push_cast];try omega))only[push_cast])) ?_
 have hen:=en_f G ht
 have hrw:=rw_f G ht
 have hlv:lnD (some false) (stsV (enF t))=some (.int .i64 (enF t).length):=rfl
 have hlw:lnD (some false) (ivV (qV (jQ t)))=some (.int .i64 (qV (jQ t)).length):=rfl
 have hwl:=waits_live ht
 have he0:=@enF_0 t
 unfold staF
 generalize jQ t=n at *
 by_cases h0:n.k=0
 ·rw[if_pos h0]
  simp(disch:=first|omega|(apply id;simp only[push_cast];try omega))only[push_cast,simprocAttr,bH,h0]
  refine jC.dataI (hen) (by and_intros<;>first|rfl|(simp(disch:=first|omega|(apply id;simp only[push_cast];try omega))only[push_cast])) ?_
  rw[he0 h0] at hlv ⊢
  simp(disch:=first|omega|(apply id;simp only[push_cast];try omega))only[push_cast,simprocAttr,hlv,bH,h0]
  exact .id rfl
 ·rw[if_neg h0]
  by_cases he:enF t=[]
  ·rw[if_pos he]
   have hw:(0:Int)<(qV n).length:=by have:=List.length_pos_iff.2 (hwl h0 he);omega
   simp(disch:=first|omega|(apply id;simp only[push_cast];try omega))only[push_cast,simprocAttr]
   refine jC.dataI (hen) (by and_intros<;>first|rfl|(simp(disch:=first|omega|(apply id;simp only[push_cast];try omega))only[push_cast])) ?_
   rw[he] at hlv ⊢
   simp(disch:=first|omega|(apply id;simp only[push_cast];try omega))only[push_cast,simprocAttr,hlv]
   refine jC.dataI (hrw) (by and_intros<;>first|rfl|(simp(disch:=first|omega|(apply id;simp only[push_cast];try omega))only[push_cast])) ?_
   simp(disch:=first|omega|(apply id;simp only[push_cast];try omega))only[push_cast,simprocAttr,hlw,hw,bH,h0]
   exact .id rfl
  ·rw[if_neg he]
   have h1:(0:Int)<(enF t).length:=by have:=List.length_pos_iff.2 he;omega
   simp(disch:=first|omega|(apply id;simp only[push_cast];try omega))only[push_cast,simprocAttr]
   refine jC.dataI (hen) (by and_intros<;>first|rfl|(simp(disch:=first|omega|(apply id;simp only[push_cast];try omega))only[push_cast])) ?_
   simp(disch:=first|omega|(apply id;simp only[push_cast];try omega))only[push_cast,simprocAttr,hlv,h1]
   exact .id rfl
end
end Go.Proofs.Ytgeakofgklcipaa
namespace Go.Proofs.Ytgeakofgklcipaa
open _root_.Go.Proofs.Try (prog)
open Go Go.RowKit Go.Ev Go.Dv
noncomputable section
set_option maxRecDepth 100000
section
variable {w:World} {H:Type} {enc:TypeId×Value→H}
theorem u_int:prog.underlying eI=some (.int .i64):=by kernel_rfl
theorem u_raws:prog.underlying 36=some (.slice era):=by kernel_rfl
theorem u_rbs:prog.underlying 22=some (.slice erb):=by kernel_rfl
theorem f_raw:fieldsB prog era [(eI,0),(eI,1),(36,2)]=true:=by kernel_rfl
theorem f_rb:fieldsB prog erb [(eI,0),(eI,1),(eI,2),(36,3),(22,4)]=true:=by kernel_rfl
theorem raCs_flat:∀ l:List Ra,l.flatMap raC=raCs l
 | []=>rfl
 | x :: l=>by rw[List.flatMap_cons,raCs_flat l,raCs]
theorem rbCs_flat:∀ l:List Rb,l.flatMap rbC=rbCs l
 | []=>rfl
 | x :: l=>by rw[List.flatMap_cons,rbCs_flat l,rbCs]
theorem smRs_of:∀ {l:List Ra},(∀ x∈l,smR x=true)→smRs l=true
 | [],_=>rfl
 | x :: l,h=>by rw[smRs,h x (by simp),smRs_of fun y hy=>h y (by simp[hy])];rfl
theorem smBs_of:∀ {l:List Rb},(∀ x∈l,smB x=true)→smBs l=true
 | [],_=>rfl
 | x :: l,h=>by rw[smBs,h x (by simp),smBs_of fun y hy=>h y (by simp[hy])];rfl
theorem open_ras:∀ (fuel:Nat) {cs:List Value} {x:DataW H×List MemPlace},DataW.trod enc prog w 0 (fun _=>true) true fuel 36 cs=some x→(x.1.weights prog 36).all (·≤reachBytes)=true→
  ∃ l:List Ra,Go.Dv.Op prog 1 LL w [rasV l] cs∧smRs l=true∧l.length<1000000000000000:=by
 intro fuel
 induction fuel using Nat.strongRecOn with
 | ind fuel ih=>
 intro cs x h hw
 obtain ⟨l,h1,h2,h3⟩:=open_slice (n:=1) (L:=LL) u_raws (size:=3) (by kernel_rfl) (by kernel_rfl) (by omega) (of_decide_eq_true (by kernel_rfl)) raC (fun r=>smR r=true) h hw fun k c y hk hy hwy=>by
  obtain ⟨k',hk',hl,hfs⟩:=open_struct f_raw hy hwy
  rw[show prog.cellsOf era=3 by kernel_rfl] at hl
  match c,hl with
  | [a,b,d],_=>
   obtain ⟨y0,t0,_⟩:=hfs 0 _ _ rfl
   obtain ⟨y1,t1,_⟩:=hfs 1 _ _ rfl
   obtain ⟨y2,t2,w2⟩:=hfs 2 _ _ rfl
   rw[show prog.cellsOf eI=1 by kernel_rfl] at t0 t1
   rw[show prog.cellsOf 36=1 by kernel_rfl] at t2
   obtain ⟨m0,e0,o0,_⟩:=open_num (n:=1) (L:=LL) u_int t0
   obtain ⟨m1,e1,o1,_⟩:=open_num (n:=1) (L:=LL) u_int t1
   obtain ⟨l2,o2,s2,n2⟩:=ih k' (by omega) t2 w2
   refine ⟨.mk m0 m1 l2,?_,?_⟩
   ·exact (o0.append o1).append o2
   ·simp only[smR,s2,Bool.and_true,decide_eq_true_eq];exact n2
 rw[raCs_flat] at h1
 exact ⟨l,h1,smRs_of h2,h3⟩
theorem open_rb_of (fuel:Nat) (ih:∀ k,k<fuel→∀ {cs:List Value} {x:DataW H×List MemPlace},DataW.trod enc prog w 0 (fun _=>true) true k 22 cs=some x→(x.1.weights prog 22).all (·≤reachBytes)=true→
   ∃ l:List Rb,Go.Dv.Op prog 1 LL w [rbsV l] cs∧smBs l=true∧l.length<1000000000000000)
  {c:List Value} {y:DataW H×List MemPlace} (hy:DataW.trod enc prog w 0 (fun _=>true) true fuel erb c=some y) (hwy:(y.1.weights prog erb).all (·≤reachBytes)=true) :
  ∃ r:Rb,Go.Dv.Op prog 1 LL w (rbC r) c∧smB r=true:=by
 obtain ⟨k',hk',hl,hfs⟩:=open_struct f_rb hy hwy
 rw[show prog.cellsOf erb=5 by kernel_rfl] at hl
 match c,hl with
 | [a,b,d,e,f],_=>
  obtain ⟨y0,t0,_⟩:=hfs 0 _ _ rfl
  obtain ⟨y1,t1,_⟩:=hfs 1 _ _ rfl
  obtain ⟨y2,t2,_⟩:=hfs 2 _ _ rfl
  obtain ⟨y3,t3,w3⟩:=hfs 3 _ _ rfl
  obtain ⟨y4,t4,w4⟩:=hfs 4 _ _ rfl
  rw[show prog.cellsOf eI=1 by kernel_rfl] at t0 t1 t2
  rw[show prog.cellsOf 36=1 by kernel_rfl] at t3
  rw[show prog.cellsOf 22=1 by kernel_rfl] at t4
  obtain ⟨m0,e0,o0,_⟩:=open_num (n:=1) (L:=LL) u_int t0
  obtain ⟨m1,e1,o1,_⟩:=open_num (n:=1) (L:=LL) u_int t1
  obtain ⟨m2,e2,o2,_⟩:=open_num (n:=1) (L:=LL) u_int t2
  obtain ⟨l3,o3,s3,n3⟩:=open_ras k' t3 w3
  obtain ⟨l4,o4,s4,n4⟩:=ih k' (by omega) t4 w4
  refine ⟨.mk m0 m1 m2 l3 l4,?_,?_⟩
  ·exact (((o0.append o1).append o2).append o3).append o4
  ·simp only[smB,s3,s4,Bool.and_true,Bool.and_eq_true,decide_eq_true_eq];exact ⟨n4,n3⟩
theorem open_rbs:∀ (fuel:Nat) {cs:List Value} {x:DataW H×List MemPlace},DataW.trod enc prog w 0 (fun _=>true) true fuel 22 cs=some x→(x.1.weights prog 22).all (·≤reachBytes)=true→
  ∃ l:List Rb,Go.Dv.Op prog 1 LL w [rbsV l] cs∧smBs l=true∧l.length<1000000000000000:=by
 intro fuel
 induction fuel using Nat.strongRecOn with
 | ind fuel ih=>
 intro cs x h hw
 obtain ⟨l,h1,h2,h3⟩:=open_slice (n:=1) (L:=LL) u_rbs (size:=5) (by kernel_rfl) (by kernel_rfl) (by omega) (of_decide_eq_true (by kernel_rfl)) rbC (fun r=>smB r=true) h hw fun k c y hk hy hwy=>
  open_rb_of k (fun k' hk'=>ih k' (by omega)) hy hwy
 rw[rbCs_flat] at h1
 exact ⟨l,h1,smBs_of h2,h3⟩
theorem open_rb (fuel:Nat) {c:List Value} {y:DataW H×List MemPlace} (hy:DataW.trod enc prog w 0 (fun _=>true) true fuel erb c=some y) (hwy:(y.1.weights prog erb).all (·≤reachBytes)=true) :
  ∃ r:Rb,Go.Dv.Op prog 1 LL w (rbC r) c∧smB r=true:=open_rb_of fuel (fun k _=>open_rbs k) hy hwy
end
end
end Go.Proofs.Ytgeakofgklcipaa
namespace Go.Proofs.Ytgeakofgklcipaa
open _root_.Go.Proofs.Try (prog)
open Go Go.RowKit Go.Ev Go.Dv
noncomputable section
@[reducible] def witB:Value:=.agg ⟨[.int .i64 0,.int .i64 0,.int .i64 0,.slice none 0 0,.slice none 0 0]⟩
end
end Go.Proofs.Ytgeakofgklcipaa
