/-
  A part of the proof: what the program's functions hand back,as theorems. No condition but those that each theorem names.
-/
import Derived.Test.YtklapbhlhjdijaaGreatDoorTe
import Derived.Test.YtklapbhlhjdijaaGreatDoorExc
import Derived.Test.YtklapbhlhjdijaaGreatDoorTb
import Derived.Test.YtklapbhlhjdijaaGreatDoorTc
import Derived.Test.YtklapbhlhjdijaaGreatDoorEvd
import Derived.Test.YtklapbhlhjdijaaGreatDoorTa
set_option linter.unusedSimpArgs false
set_option linter.unusedVariables false
namespace Go.Proofs.YtklapbhlhjdijaaGreatDoor
open Go Go.RowKit Go.Ev Go.Dv
noncomputable section
attribute [local push_cast] eq_self iff_self
set_option maxRecDepth 100000
variable (G:Nat×Nat)
theorem fC1 (a n:Int)(e:0<n)(d:n<1000000000000):jF (pp G) H0 16 [.int .i64 a,.int .i64 n] (.int .i64 (jU a n)):=by
 refine cE G fir16 Z7 (dN0 ..) λg=>?_;rw[rP2]
 have h0:¬ n=0:=Z0
 have b:¬ n = -1:=Z0
 have c:=uR (a:=a) e
 unfold jU at c ⊢
 by_cases h:a.tmod n<0
 ·rw[if_pos h]
  rw[if_pos h] at c
  have f:IntKind.i64.wrap (a.tmod n+n)=a.tmod n+n:=W_in (by unfold In;omega)
  refine S4 h @h0 b f ?_
  exact .id rfl
 ·rw[if_neg h]
  rw[if_neg h] at c
  refine S3 h @h0 b ?_
  exact .id rfl
theorem qJ2 (f:Cf):(cfV f).cells.toList=cfC f:=rfl
theorem tK0 (f:Cf):(cfC f).length=13:=by unfold cfC;rw[List.length_append,uQ];rfl
theorem cfC_t (f:Cf):(cfC f).take 13=cfC f:=List.take_of_length_le (by rw[tK0];exact Z3 _)
theorem cfC_d (f:Cf):(cfC f).drop 13=[]:=List.drop_of_length_le (by rw[tK0];exact Z3 _)
theorem cfC_0 (f:Cf):(cfC f)[0]?=some (.int .i64 f.t.k):=by obtain ⟨⟨k,a,b,s,e,l⟩,v,c,n,h⟩:=f;rfl
theorem zC1 (f:Cf):(cfC f)[12]?=some (.int .i64 f.key):=by obtain ⟨⟨k,a,b,s,e,l⟩,v,c,n,h⟩:=f;rfl
theorem cfC_1 (f:Cf):(cfC f).all one=true:=tJ0
theorem dB2 (f:Cf):Value.agg ⟨cfC f⟩=cfV f:=rfl
theorem nE3 (n:Nat)(h:0<n)(f:Cf):Ev.sc n (cfV f)=true:=by unfold cfV;simp only[Ev.sc];exact qK2 n h f
attribute [push_cast] qJ2 tK0 cfC_t cfC_d cfC_0 zC1 cfC_1 dB2 nE3
def uK0:Co:=⟨[],0,[.mk 1 (-1) 0 [112,97,121] zE []],0⟩
theorem gM3 (σ:jA):bsD (qq.m 26) (slT Tryz.prog 26) 1 [(0,.agg ⟨[.int .i64 1,.int .i64 (-1),.int .i64 0,.string (Tx [112,97,121]),.int .i64 0,.int .i64 0,.string (Tx []),.slice none 0 0,.slice none 0 0]⟩)] σ=some (Rw true 34 1 [.int .i64 1,.int .i64 (-1),.int .i64 0,.string (Tx [112,97,121]),.int .i64 0,.int .i64 0,.string (Tx []),.slice none 0 0,.slice none 0 0],σ):=Z7
theorem iA0 (n:Nat)(σ:jA):FzV Tryz.prog n σ (.agg ⟨[.slice none 0 0,.int .i64 0,Rw true 34 1 [.int .i64 1,.int .i64 (-1),.int .i64 0,.string (Tx [112,97,121]),.int .i64 0,.int .i64 0,.string (Tx []),.slice none 0 0,.slice none 0 0],.int .i64 0]⟩) (coV uK0):=
 .agg (.cons (.nil (size:=1) rfl Z1) (.cons (.id rfl) (.cons (.row (.cons (.id rfl) (.cons (.id rfl) (.cons (.id rfl) (.cons (.id rfl) (.cons (.id rfl) (.cons (.id rfl) (.cons (.id rfl) (.cons (.nil (size:=4) rfl Z1) (.cons (.nil (size:=9) rfl Z1) .nil)))))))))) (.cons (.id rfl) .nil))))
def sC0:Cf:=uX0 uK0
def mD1:Cf:=(doF uK0 sC0 0).f
theorem lX2:doB uK0 sC0=true:=Z7
theorem gJ3:tlB uK0 mD1 0=true:=Z7
theorem gL3:sC0=⟨.mk 1 (-1) 0 [112,97,121] zE [],[],[],0,0⟩:=Z7
theorem gK3:doF uK0 sC0 0=⟨⟨.mk 14 0 (-1) [112,97,121] zE [],[],[],1,1⟩,[112,97,121],0,true,0⟩:=Z7
theorem pay_2:doF uK0 sC0 1=⟨cfZ,[],0,false,12⟩:=Z7
theorem pay_3:zI0 uK0 mD1 0 7=⟨⟨zT,[],[],1,1⟩,[112,97,121],0,7,true⟩:=Z7
theorem pay_4:chkC uK0=true:=Z7
theorem gX2:jF (pp G) H0 11 [] (.bool true):=by
 have d:SmC uK0:=⟨by decide,by decide,Z7⟩
 have h0:=qW2 G uK0 d
 have c:=do_f G uK0 sC0 0 (mT2 lX2)
 have h:=do_f G uK0 sC0 1 (mT2 lX2)
 have a:=lN2 G uK0 mD1 0 7 (kO3 gJ3)
 have b:=qG2 G uK0 d
 rw[gK3] at c
 rw[pay_2] at h
 rw[pay_3] at a
 rw[pay_4] at b
 have g:mD1=⟨.mk 14 0 (-1) [112,97,121] zE [],[],[],1,1⟩:=by unfold mD1;rw[gK3]
 rw[g] at a
 have e0:uX0 uK0=⟨.mk 1 (-1) 0 [112,97,121] zE [],[],[],0,0⟩:=gL3
 rw[e0] at h0
 rw[gL3] at c h
 have e:FzL Tryz.prog H0.next H0 [.agg ⟨[.slice none 0 0,.int .i64 0,Rw true 34 1 [.int .i64 1,.int .i64 (-1),.int .i64 0,.string (Tx [112,97,121]),.int .i64 0,.int .i64 0,.string (Tx []),.slice none 0 0,.slice none 0 0],.int .i64 0]⟩] [coV uK0]:=.cons (iA0 _ _) .nil
 refine cE G fir11 Z7 (yQ0 ..) λf=>?_;rw[rT2]
 unfold dvV at c h
 unfold tvV at a
 dsimp only at c h a
 push_cast(disch:=first|omega|(apply id;push_cast;try omega))[↓gM3]
 refine jE.data (cap:=[]) (args:=[_]) h0 e rfl rfl ?_
 refine S0 ?_
 refine jE.data (cap:=[]) (args:=[_,_,_]) c (.cons (iA0 _ _) (.cons (.id rfl) (.cons (.id rfl) .nil))) rfl rfl ?_
 refine S0 ?_
 refine jE.data (cap:=[]) (args:=[_,_,_]) h (.cons (iA0 _ _) (.cons (.id rfl) (.cons (.id rfl) .nil))) rfl rfl ?_
 refine S0 ?_
 refine jE.data (cap:=[]) (args:=[_,_,_,_]) a (.cons (iA0 _ _) (.cons (.id rfl) (.cons (.id rfl) (.cons (.id rfl) .nil)))) rfl rfl ?_
 refine S0 ?_
 refine jE.data (cap:=[]) (args:=[_]) b e rfl rfl ?_
 refine S0 ?_
 rw[show (([112,97,121]:List Zu) == [112,97,121])=true by simp]
 refine S0 ?_
 exact .id rfl
mutual
theorem uH2:∀ x:Tm,((kH x).length:Int)≤jJ x
 | .mk k a b s e l=>by
  rw[kH,jJ]
  have h:=lS0 l
  have c:=dM2 l
  have d:=kJ l
  split
  ·rw[List.length_cons];omega
  ·split
   ·rw[List.length_cons];omega
   ·simp;omega
theorem lS0:∀ l:List Tm,((kV l).length:Int)≤jI l
 | []=>by simp[kV,jI]
 | x :: l=>by rw[kV,jI,List.length_append];have:=uH2 x;have:=lS0 l;omega
theorem dM2:∀ l:List Tm,((actH l).length:Int)≤jI l
 | []=>by simp[actH,jI]
 | x :: l=>by rw[actH,jI];have:=uH2 x;have:=kJ l;omega
end
theorem kB3 (a b:List Tm):wS (a++b)=wS a++wS b:=by unfold wS;rw[List.filter_append,List.map_append]
theorem nM2 {k a b:Int}{s:List Zu}{e:Ex}{l:List Tm}(h:k≠14)(m:List Tm):wS (.mk k a b s e l :: m)=wS m:=by
 unfold wS;simp[Tm.k,h]
def actN (k:Int):Nat:=if k=12∨k=7 then 1 else if k=11 then 2 else 0
theorem uD2 (t:Tm):jF (pp G) H0 41 [tmV t] (.int .i64 (actN t.k)):=by
 obtain ⟨k,a,b,s,e,l⟩:=t
 refine cE G fir41 Z7 (zT3 ..) λf=>?_;rw[rG2]
 rw[Tm.k_mk]
 unfold actN
 by_cases c:k=12
 ·rw[if_pos (.inl c)]
  refine S1 c ?_
  rw[kV0]
  refine S0 ?_
  exact .id rfl
 by_cases d:k=7
 ·rw[if_pos (.inr d)]
  refine S2 c d ?_
  rw[kV0]
  refine S0 ?_
  exact .id rfl
 refine S2 c d ?_
 rw[kV0]
 rw[if_neg Z0]
 by_cases h:k=11
 ·rw[if_pos h]
  refine S1 h ?_
  exact .id rfl
 ·rw[if_neg h]
  refine S1 h ?_
  rw[yW1]
  refine S0 ?_
  exact .id rfl
theorem sh_of {p:Zb}{k a b:Int}{s:List Zu}{e:Ex}{l:List Tm}(h:jZ 3 2 5 p (.mk k a b s e l)=true):(l.length:Int)=shL k∧∀ x∈l,jZ 3 2 5 (p || decide (k=3)) x=true:=by
 rw[jZ] at h
 simp only[Z5,decide_eq_true_eq] at h
 exact ⟨h.2.2.2.2.1.2.2,dD h.2.2.2.2.2.2.2⟩
theorem wZ2 {k a b:Int}{s:List Zu}{e:Ex}{l:List Tm}(h:k≠14)(g:(l.length:Int)=shL k):uW (.mk k a b s e l)=wS (kV (l.take (actN k)))∧actN k≤l.length:=by
 unfold uW actN
 rw[kH,nM2 h]
 by_cases d:k=12
 ·subst d
  rw[if_pos rfl,if_pos (.inl rfl),dC0]
  exact ⟨rfl,by have:shL 12=2:=rfl;omega⟩
 rw[if_neg d]
 by_cases f:k=7
 ·subst f
  have:shL 7=1:=rfl
  rw[if_pos (.inr rfl),if_pos (.inr rfl),List.take_of_length_le Z0]
  exact ⟨rfl,Z0⟩
 by_cases c:k=11
 ·subst c
  have:shL 11=2:=rfl
  rw[if_pos (.inl rfl),if_neg Z1,if_pos rfl,List.take_of_length_le Z0]
  exact ⟨rfl,Z0⟩
 ·rw[if_neg Z0,if_neg Z0,if_neg c,List.take_zero]
  exact ⟨rfl,Z0⟩
inductive I25n (t:Tm):Nat→S→Prop
 | mk (i : Nat) (iv : Int) (h : jA) (q : Z8 Addr) (c : Nat) {x0 x2 x5 x6 x7 x8 x9 xA xB xC xD xE xF xG xH xI xJ xK xL xM xN xO xP : Z6} (hiv : iv = (i : Int)) (hi : i ≤ actN t.k) (c1 : cells h 1 = some (tmC t, etm, false))
   (ho:qY h eI 1 q (wS (kV (t.l.take i))).length c (ivs (wS (kV (t.l.take i))))) (hq:∀ b,blk q b→2≤b) (hl1:h.lo=1) (hl2:2≤h.next) :
  I25n t (actN t.k-i) ⟨(F26 x0 (.pointer (some ⟨1,0,none⟩)) x2 (.slice q (wS (kV (t.l.take i))).length c) (.int .i64 iv) x5 x6 x7 x8 x9 xA xB xC xD xE xF xG xH xI xJ xK xL xM xN xO xP),[],h⟩
theorem qK1:∀ (t:Tm) (p:Zb),smT t=true→jZ 3 2 5 p t=true→jJ t≤4000→jF (pp G) H0 19 [tmV t] (ivV (uW t))
 | .mk k a b s e l,p,hs,hr,hz=>by
  have P:=hs
  simp only[smT,Z5,decide_eq_true_eq] at hs
  obtain ⟨⟨T,hse⟩,F⟩:=hs
  obtain ⟨L,H⟩:=sh_of hr
  have hz0:=hz
  rw[jJ] at hz
  have K:=(jB0 l).1
  have Y:∀ x∈l,jF (pp G) H0 19 [tmV x] (ivV (uW x)):=λx f=>qK1 x _ (qQ F x f) (H x f) (by have:=kS0 f;omega)
  refine cE G fir19 Z7 (zN3 ..) λZ=>?_;rw[rO2]
  by_cases g:k=14
  ·subst g
   push_cast(disch:=first|omega|(apply id;push_cast;try omega))[↓qL1]
   rw[show uW (.mk 14 a b s e l)=[a] by unfold uW wS;rw[kH,if_neg Z1,if_neg Z1];rfl]
   exact .row (.ids (qS0 _ _))
  ·obtain ⟨hw,hn⟩:=wZ2 (a:=a) (b:=b) (s:=s) (e:=e) g L
   refine S1 g ?_
   refine WD.loop4 (q:=qq) (jV G) Z7 (I25n (.mk k a b s e l)) ?_ _ _ (I25n.mk 0 0 _ none 0 rfl (Nat.zero_le _) ?_ (qY.nil _ _ _) (λb d=>by obtain ⟨o,s,e⟩:=d;cases e) ?_ ?_)
   ·intro m s1 N
    cases N with|mk i iv h q c D hi y B A u hl2=>
    subst D
    simp only[Tm.k_mk,Tm.l_mk] at hi B ⊢
    have w:∀ j,(wS (kV (l.take j))).length≤4000:=λj=>by
     have h1:=mB0 (kV (l.take j))
     have h2:=lS0 (l.take j)
     have h3:jI (l.take j)≤jI l:=by
      have e:=jC0 (l.take j) (l.drop j)
      rw[List.take_append_drop] at e
      have:=(jB0 (l.drop j)).2
      omega
     omega
    have hb0:=w i
    rw[gK1]
    refine S2 y u ?_
    refine dK (uD2 G (.mk k a b s e l)) ?_
    rw[Tm.k_mk]
    rw[uX] at y
    by_cases r:(i:Int)<actN k
    ·obtain ⟨x,f⟩:=jT (l:=l) (i:=i) Z0
     have hp:=kS f
     have E:i*9+9≤l.length*9:=Z0
     have v:(i:Int)<l.length:=Z0
     have n:wS (kV (l.take (i+1)))=wS (kV (l.take i))++uW x:=by
      rw[jY f,gT0,kB3]
      unfold uW
      rw[kV,kV,List.append_nil]
     have C:=w (i+1)
     rw[n,List.length_append] at C
     have z:∀ h:jA,srcD 1 (ivV (uW x)) h=some ((uW x).length,ivs (uW x)):=λh=>lQ2 _ (by rw[bD,Nat.mul_one])
     obtain ⟨a',X,σ',J,I,g',b'⟩:=cM (by_:=8) B Z0 Z0 (m:=(uW x).length) (xs:=ivs (uW x)) (by rw[bD,Nat.mul_one]) (yF0 _) Z0
     rw[← yG0,← List.length_append,← n] at I
     rw[← List.length_append,← n] at J
     have M:cells σ' 1=_:=g'.cellsE y Z0 (λd=>by have:=A _ d;omega)
     have R:=g'.next
     have V:=g'.lo
     refine S7 r y v hp E @Z4 u ?_
     refine dK (Y x (List.mem_of_getElem? f)) ?_
     refine S2 z J ?_
     refine ⟨_,by simp only[Tm.k_mk];omega,I25n.mk (i+1) _ σ' a' X Z2 (by simp only[Tm.k_mk];omega) M I (λk hk=>?_) Z0 Z0⟩
     rcases b' k hk with d|d
     ·exact A k d
     ·omega
    ·obtain rfl:i=actN k:=Z0
     refine S1 r ?_
     rw[gJ1]
     refine S0 ?_
     rw[hw]
     exact B.fz rfl Z1 Z0 (.ids (qS0 _ _)) (λb d=>by have:=A b d;omega)
   ·exact tH
   ·rfl
   ·exact tH
 termination_by t=>SizeOf.sizeOf t
theorem bE2 {e:Ex}(h:gJ e=false):e=zE:=by
 obtain ⟨k,n,s,l⟩:=e
 unfold gJ at h
 simp only[Bool.or_eq_false_iff,Bool.not_eq_false',decide_eq_true_eq,decide_eq_false_iff_not] at h
 obtain ⟨i,c,d,b⟩:=h
 have j:k=0:=i
 have f:n=0:=c
 have a:s=[]:=d
 have g:l=[]:=by
  cases l with
  | nil=>rfl
  | cons x l=>exact absurd (Nat.zero_lt_succ _) b
 subst j f a g
 rfl
mutual
theorem bE0 {v:Int}:∀ e:Ex,qU v e=true→smE e=true
 | .mk k n s l,h=>by
  rw[qU] at h
  simp only[Z5] at h
  have c:l.length≤2:=by
   have a:=h.1.1
   split at a
   ·simp at a;simp[a]
   split at a
   ·simp at a;simp[a]
   split at a
   ·simp at a;omega
   split at a
   ·simp at a;omega
   ·cases a
  rw[smE,eA0 l h.2,decide_eq_true Z0]
  rfl
theorem eA0 {v:Int}:∀ l:List Ex,kW v l=true→smEs l=true
 | [],_=>rfl
 | x :: l,h=>by
  simp only[kW,Z5] at h
  rw[smEs,bE0 x h.1,eA0 l h.2]
  rfl
end
theorem shL_2 (k:Int):shL k≤2:=by unfold shL;split;omega;split<;>omega
theorem rgt {v d p:Int}{q:Zb}{k a b:Int}{s:List Zu}{e:Ex}{l:List Tm}(h:jZ v d p q (.mk k a b s e l)=true) :
  (0≤k∧k<15)∧(q=true→k≠14)∧gZ v d p (shA k) a=true∧gZ v d p (shB k) b=true∧((if s=[] then (0:Int) else 1)=shN k∧(if gJ e then (1:Int) else 0)=shE k∧(l.length:Int)=shL k)∧(gJ e=false∨qU v e=true)∧jS v d p (q || decide (k=3)) l=true:=by
 rw[jZ] at h
 simp only[Z5,decide_eq_true_eq,Bool.not_eq_true',Bool.and_eq_false_iff,decide_eq_false_iff_not,Bool.or_eq_true] at h
 obtain ⟨n,c,i,r,f,t,o,j⟩:=h
 refine ⟨n,λg m=>?_,i,r,f,o,j⟩
 rcases c with c|c
 ·rw[g] at c;cases c
 ·exact c m
mutual
theorem jJ0 {v g p:Int}:∀ (x:Tm) (q:Zb),jZ v g p q x=true→smT x=true
 | .mk k a b s e l,q,h=>by
  obtain ⟨_,_,_,_,⟨_,_,i⟩,c,d⟩:=rgt h
  have:=shL_2 k
  have f:smE e=true:=by
   rcases c with c|c
   ·rw[bE2 c];rfl
   ·exact bE0 e c
  rw[smT,f,bD0 l _ d,decide_eq_true Z0]
  rfl
theorem bD0 {v a p:Int}:∀ (l:List Tm) (q:Zb),jS v a p q l=true→dI l=true
 | [],_,_=>rfl
 | x :: l,q,h=>by
  simp only[jS,Z5] at h
  rw[dI,jJ0 x q h.1,bD0 l q h.2]
  rfl
end
theorem cS {v j p:Int}:∀ (x:Tm) (q:Zb),jZ v j p q x=true→RS x
 | .mk k a b s e l,q,h=>by
  obtain ⟨_,_,_,_,⟨_,_,m⟩,_,d⟩:=rgt h
  by_cases i:k=12
  ·subst i
   have c:l.length=2:=by have:shL 12=2:=rfl;omega
   obtain ⟨x,y,rfl⟩:∃ x y,l=[x,y]:=by
    rcases l with _|⟨x,_|⟨y,_|⟨z,l⟩⟩⟩<;>simp at c
    exact ⟨x,y,rfl⟩
   simp only[jS,Z5] at d
   exact .seq (cS x _ d.1) (cS y _ d.2.1)
  by_cases g:k=11
  ·subst g
   have c:l.length=2:=by have:shL 11=2:=rfl;omega
   obtain ⟨x,y,rfl⟩:∃ x y,l=[x,y]:=by
    rcases l with _|⟨x,_|⟨y,_|⟨z,l⟩⟩⟩<;>simp at c
    exact ⟨x,y,rfl⟩
   simp only[jS,Z5] at d
   exact .par (cS x _ d.1) (cS y _ d.2.1)
  by_cases f:k=7
  ·subst f
   have c:l.length=1:=by have:shL 7=1:=rfl;omega
   obtain ⟨x,rfl⟩:∃ x,l=[x]:=by
    rcases l with _|⟨x,_|⟨y,l⟩⟩<;>simp at c
    exact ⟨x,rfl⟩
   simp only[jS,Z5] at d
   exact .blk (cS x _ d.1)
  exact .leaf i g f
 termination_by x=>SizeOf.sizeOf x
mutual
def wok (K:Int):Tm→Zb
 | .mk k a b s e l=>(!decide (k=14) || decide (0≤a∧a<K))&&woks K l
def woks (K:Int):List Tm→Zb
 | []=>true
 | x :: l=>wok K x&&woks K l
end
mutual
theorem lG2 {K:Int}:∀ x:Tm,anyT x=false→wok K x=true
 | .mk k a b s e l,h=>by
  rw[anyT,Bool.or_eq_false_iff] at h
  rw[wok,h.1,fB1 l h.2]
  rfl
theorem fB1 {K:Int}:∀ l:List Tm,oN0 l=false→woks K l=true
 | [],_=>rfl
 | x :: l,h=>by
  rw[oN0,Bool.or_eq_false_iff] at h
  rw[woks,lG2 x h.1,fB1 l h.2]
  rfl
end
mutual
theorem lF2 {K L:Int}(c:K≤L):∀ x:Tm,wok K x=true→wok L x=true
 | .mk k a b s e l,h=>by
  rw[wok] at h ⊢
  simp only[Z5,Bool.or_eq_true,decide_eq_true_eq] at h ⊢
  exact ⟨h.1.imp id λh=>by omega,fA1 c l h.2⟩
theorem fA1 {K L:Int}(a:K≤L):∀ l:List Tm,woks K l=true→woks L l=true
 | [],_=>rfl
 | x :: l,h=>by
  simp only[woks,Z5] at h ⊢
  exact ⟨lF2 a x h.1,fA1 a l h.2⟩
end
structure Gd (p K:Int)(t:Tm):Prop where
 r:jZ 3 2 p false t=true
 w:wok K t=true
theorem Gd.z (p K:Int):Gd p K zT:=⟨rfl,rfl⟩
theorem Gd.one {p K k a b:Int}{s:List Zu}{e:Ex}{x x':Tm}(f:k=7)(h:Gd p K (.mk k a b s e [x]))(g:Gd p K x→Gd p K x'):Gd p K (.mk k a b s e [x']):=by
 subst f
 obtain ⟨c,d⟩:=h
 simp only[jZ,jS,wok,woks,Z5,List.length_singleton] at c d
 have:=g ⟨c.2.2.2.2.2.2.2.1,d.2.1⟩
 refine ⟨?_,?_⟩
 ·simp only[jZ,jS,Z5,List.length_singleton]
  exact ⟨c.1,c.2.1,c.2.2.1,c.2.2.2.1,c.2.2.2.2.1,c.2.2.2.2.2.1,c.2.2.2.2.2.2.1,this.r,trivial⟩
 ·simp only[wok,woks,Z5]
  exact ⟨d.1,this.w,trivial⟩
theorem Gd.two {p K k a b:Int}{s:List Zu}{e:Ex}{x x' y i:Tm}(n:k=11∨k=12)(h:Gd p K (.mk k a b s e [x,y]))(m:Gd p K x→Gd p K x')(l:Gd p K y→Gd p K i):Gd p K (.mk k a b s e [x',i]):=by
 obtain ⟨c,f⟩:=h
 have d:(false || decide (k=3))=false:=by rw[decide_eq_false Z0];rfl
 simp only[jZ,jS,wok,woks,Z5,List.length_cons,List.length_nil,d] at c f
 have g:=m ⟨c.2.2.2.2.2.2.2.1,f.2.1⟩
 have j:=l ⟨c.2.2.2.2.2.2.2.2.1,f.2.2.1⟩
 refine ⟨?_,?_⟩
 ·simp only[jZ,jS,Z5,List.length_cons,List.length_nil,d]
  exact ⟨c.1,c.2.1,c.2.2.1,c.2.2.2.1,c.2.2.2.2.1,c.2.2.2.2.2.1,c.2.2.2.2.2.2.1,g.r,j.r,trivial⟩
 ·simp only[wok,woks,Z5]
  exact ⟨f.1,g.w,j.w,trivial⟩
theorem Gd.kids {p K k a b:Int}{s:List Zu}{e:Ex}{l:List Tm}(i:k≠3)(h:Gd p K (.mk k a b s e l)):∀ x∈l,Gd p K x:=by
 obtain ⟨j,f⟩:=h
 have d:=(rgt j).2.2.2.2.2.2
 rw[decide_eq_false i] at d
 rw[wok,Z5] at f
 have:∀ l:List Tm,woks K l=true→∀ x∈l,wok K x=true:=λl=>by
  induction l with
  | nil=>intro _ x c;cases c
  | cons y l g=>
   intro h x c
   rw[woks,Z5] at h
   rcases List.mem_cons.1 c with rfl|c
   ·exact h.1
   ·exact g h.2 x c
 exact λx c=>⟨dD d x c,this l f.2 x c⟩
theorem cN (p K:Int):∀ t:Tm,jJ (jD t)≤jJ t∧(Gd p K t→Gd p K (jD t))
 | .mk k a b s e [x,y]=>by
  have c:=cN p K x
  have g:=cN p K y
  have m:=qT x
  have n:=qT y
  have sz2:∀ (k a b:Int) (s:List Zu) (e:Ex) (x y:Tm),jJ (.mk k a b s e [x,y])=1+(jJ x+jJ y):=λk a b s e x y=>by simp[jJ,jI]
  have j:jJ zT=1:=by decide
  rw[jD,sz2]
  by_cases d:k=12
  ·subst d
   rw[if_pos rfl]
   split
   ·exact ⟨by have:=g.1;omega,λh=>g.2 (h.kids Z1 y (by simp))⟩
   ·rw[sz2];exact ⟨by have:=c.1;omega,λh=>h.two (.inr rfl) c.2 id⟩
  rw[if_neg d]
  by_cases f:k=11
  ·subst f
   rw[if_pos rfl]
   split
   ·exact ⟨Z0,λ_=>Gd.z _ _⟩
   ·rw[sz2];exact ⟨by have:=c.1;have:=g.1;omega,λh=>h.two (.inl rfl) c.2 g.2⟩
  rw[if_neg f,sz2]
  exact ⟨Int.le_refl _,id⟩
 | .mk k a b s e [x]=>by
  have c:=cN p K x
  have m:=qT x
  have sz1:∀ (k a b:Int) (s:List Zu) (e:Ex) (x:Tm),jJ (.mk k a b s e [x])=1+jJ x:=λk a b s e x=>by simp[jJ,jI]
  have j:jJ zT=1:=by decide
  rw[jD,sz1]
  by_cases i:k=7
  ·rw[if_pos i]
   split
   ·exact ⟨Z0,λ_=>Gd.z _ _⟩
   ·rw[sz1];exact ⟨by have:=c.1;omega,λh=>h.one i c.2⟩
  rw[if_neg i,sz1]
  exact ⟨Int.le_refl _,id⟩
 | .mk k a b s e []=>by rw[show jD (.mk k a b s e [])=.mk k a b s e [] from rfl];exact ⟨Int.le_refl _,id⟩
 | .mk k a b s e (x :: y :: z :: l)=>by rw[show jD (.mk k a b s e (x :: y :: z :: l))=.mk k a b s e (x :: y :: z :: l) from rfl];exact ⟨Int.le_refl _,id⟩
 termination_by t=>SizeOf.sizeOf t
theorem eZ0 {p K:Int}{t:Tm}{r:List Int}(e:gK t r):Gd p K t→Gd p K (atT t r)∧∀ y,Gd p K y→Gd p K (bC t r y):=by
 induction e with
 | nil=>intro h;exact ⟨by cases ‹Tm›;exact h,λy b=>by rw[bC];exact b⟩
 | blk h d=>
  intro c
  have a:=d (c.kids Z1 _ (by simp))
  exact ⟨a.1,λy b=>c.one rfl λ_=>a.2 y b⟩
 | seq h d=>
  intro c
  have a:=d (c.kids Z1 _ (List.mem_cons_self ..))
  exact ⟨a.1,λy b=>c.two (.inr rfl) (λ_=>a.2 y b) id⟩
 | parl h d=>
  intro c
  have a:=d (c.kids Z1 _ (List.mem_cons_self ..))
  exact ⟨a.1,λy b=>c.two (.inl rfl) (λ_=>a.2 y b) id⟩
 | parr h d=>
  intro c
  have a:=d (c.kids Z1 _ (by simp))
  exact ⟨a.1,λy b=>c.two (.inl rfl) id λ_=>a.2 y b⟩
theorem uF2 {t:Tm}{r:List Int}(f:gK t r):(r.length:Int)+jJ (atT t r)≤jJ t∧∀ y,jJ (bC t r y)+jJ (atT t r)=jJ t+jJ y:=by
 induction f with
 | nil=>
  rename_i t
  have:=qT t
  refine ⟨by cases t;simp[atT],λy=>by rw[bC];cases t;rw[atT];omega⟩
 | blk h d=>
  rename_i a b s e x p
  have c:∀ x:Tm,jJ (.mk 7 a b s e [x])=1+jJ x:=λx=>by simp[jJ,jI]
  refine ⟨?_,λy=>?_⟩
  ·have:=d.1;rw[c];simp only[List.length_cons];show _+jJ (atT x p)≤_;omega
  ·have:=d.2 y;rw[c];show jJ (.mk 7 a b s e [bC x p y])+jJ (atT x p)=_;rw[c];omega
 | seq h d=>
  rename_i a b s e x y p
  have:=qT y
  have c:∀ x y:Tm,jJ (.mk 12 a b s e [x,y])=1+(jJ x+jJ y):=λx y=>by simp[jJ,jI]
  refine ⟨?_,λz=>?_⟩
  ·have:=d.1;rw[c];simp only[List.length_cons];show _+jJ (atT x p)≤_;omega
  ·have:=d.2 z;rw[c];show jJ (.mk 12 a b s e [bC x p z,y])+jJ (atT x p)=_;rw[c];omega
 | parl h d=>
  rename_i a b s e x y p
  have:=qT y
  have c:∀ x y:Tm,jJ (.mk 11 a b s e [x,y])=1+(jJ x+jJ y):=λx y=>by simp[jJ,jI]
  refine ⟨?_,λz=>?_⟩
  ·have:=d.1;rw[c];simp only[List.length_cons];show _+jJ (atT x p)≤_;omega
  ·have:=d.2 z;rw[c];show jJ (.mk 11 a b s e [bC x p z,y])+jJ (atT x p)=_;rw[c];omega
 | parr h d=>
  rename_i a b s e x y p
  have:=qT x
  have c:∀ x y:Tm,jJ (.mk 11 a b s e [x,y])=1+(jJ x+jJ y):=λx y=>by simp[jJ,jI]
  refine ⟨?_,λz=>?_⟩
  ·have:=d.1;rw[c];simp only[List.length_cons];show _+jJ (atT y p)≤_;omega
  ·have:=d.2 z;rw[c];show jJ (.mk 11 a b s e [x,bC y p z])+jJ (atT y p)=_;rw[c];omega
theorem gK.pre {t:Tm}{r:List Int}(h:gK t r):∀ q,q <+: r→gK t q:=by
 induction h with
 | nil=>intro q c;rw[List.prefix_nil] at c;subst c;exact .nil
 | blk h b=>
  intro q c
  rcases List.prefix_cons_iff.1 c with rfl|⟨d,rfl,a⟩
  ·exact .nil
  ·exact .blk (b _ a)
 | seq h b=>
  intro q c
  rcases List.prefix_cons_iff.1 c with rfl|⟨d,rfl,a⟩
  ·exact .nil
  ·exact .seq (b _ a)
 | parl h b=>
  intro q c
  rcases List.prefix_cons_iff.1 c with rfl|⟨d,rfl,a⟩
  ·exact .nil
  ·exact .parl (b _ a)
 | parr h b=>
  intro q c
  rcases List.prefix_cons_iff.1 c with rfl|⟨d,rfl,a⟩
  ·exact .nil
  ·exact .parr (b _ a)
theorem tN0 {t:Tm}:∀ (p:List Int) (x:Tm) (r k:List Int),gK t k→(∀ q,q <+: p→gK t (r++q))→gK t (blkR x p r k)
 | [],x,r,k,hk,h=>by
  rw[blkR]
  split
  ·have:=h [] (List.prefix_refl _);rwa [List.append_nil] at this
  ·exact hk
 | i :: p,x,r,k,hk,h=>by
  rw[blkR]
  refine tN0 p _ _ _ ?_ λq a=>?_
  ·split
   ·have:=h [] (List.nil_prefix);rwa [List.append_nil] at this
   ·exact hk
  ·rw[List.append_assoc];exact h _ (List.cons_prefix_cons.2 ⟨rfl,a⟩)
theorem yA3 {x:Tm}(h:RS x):∀ (u:Tm) (p:List Int),∀ y∈spT x u p,∃ r,y.p=p++r∧gK x r∧atT x r=y.t:=by
 have z:∀ (x u:Tm) (p:List Int),∃ r,(Sp.mk x u p).p=p++r∧gK x r∧atT x r=(Sp.mk x u p).t:=λx u p=>⟨[],by simp,.nil,by cases x;rfl⟩
 induction h with
 | leaf g i l=>
  intro u p y a
  rw[spT,if_neg g,if_neg l,if_neg i,List.mem_singleton] at a
  subst a
  exact z ..
 | blk j k=>
  intro u p y a
  rw[spT,if_neg Z1,if_pos rfl,spL,spL,List.append_nil] at a
  rcases List.mem_cons.1 a with rfl|a
  ·exact z ..
  ·obtain ⟨r,e,d,b⟩:=k _ _ y a
   exact ⟨0 :: r,by rw[e,List.append_assoc];rfl,.blk d,b⟩
 | seq j a c f=>
  intro u p y a
  rw[spT,if_pos rfl,spH] at a
  rcases List.mem_cons.1 a with rfl|a
  ·exact z ..
  ·obtain ⟨r,e,d,b⟩:=c _ _ y a
   exact ⟨0 :: r,by rw[e,List.append_assoc];rfl,.seq d,b⟩
 | par j a c f=>
  intro u p y a
  rw[spT,if_neg Z1,if_neg Z1,if_pos rfl,spL,spL,spL,List.append_nil] at a
  rcases List.mem_cons.1 a with rfl|a
  ·exact z ..
  ·rcases List.mem_append.1 a with a|a
   ·obtain ⟨r,e,d,b⟩:=c _ _ y a
    exact ⟨0 :: r,by rw[e,List.append_assoc];rfl,.parl d,b⟩
   ·obtain ⟨r,e,d,b⟩:=f _ _ y a
    exact ⟨1 :: r,by rw[e,List.append_assoc];rfl,.parr d,b⟩
theorem iL3 {t:Tm}(h:RS (jD t)){y:St}(c:y∈enF t):gK (jD t) y.p∧(atT (jD t) y.p).k=y.k∧(y.k≠0∧y.k≠14∧y.k≠12∧y.k≠11∧y.k≠7)∧0≤y.a∧y.a<2:=by
 unfold enF stS at c
 obtain ⟨x,j,c⟩:=List.mem_flatMap.1 c
 obtain ⟨r,f,d,i⟩:=yA3 h _ _ x j
 rw[List.nil_append] at f
 subst f
 unfold stF at c
 split at c
 ·cases c
 rename_i g
 rw[← i] at c g
 have e:∀ k,(atT (jD t) x.p).k=k→(k≠0∧k≠14∧k≠12∧k≠11∧k≠7):=λk l=>by subst l;omega
 split at c
 ·rename_i m
  split at c
  ·rw[List.mem_singleton] at c
   subst c
   exact ⟨d,m,by simp,by simp,by simp⟩
  ·cases c
 split at c
 ·rename_i b
  rcases List.mem_cons.1 c with rfl|c
  ·exact ⟨d,b,by simp,by simp,by simp⟩
  ·rw[List.mem_singleton] at c
   subst c
   exact ⟨d,b,by simp,by simp,by simp⟩
 ·rw[List.mem_singleton] at c
  subst c
  exact ⟨d,rfl,e _ rfl,by simp,by simp⟩
structure dU (c:Co)(f:Cf):Prop where
 v:f.v.length=3
 st:f.st.length=2
 g:Gd c.p.length f.key f.t
 sr:∀ l∈f.st,jS 3 2 c.p.length true l=true
 z:jJ f.t+kF f.st≤2000
 n:0≤f.key∧f.key≤f.n∧f.n≤5000
theorem jL0:∀ s:List (List Tm),0≤kF s
 | []=>Int.le_refl _
 | x :: s=>by have:=kJ x;have:=jL0 s;rw[kF];omega
theorem zM0:∀ (s:List (List Tm)) (i:Nat),jI (s.getD i [])≤kF s
 | [],i=>by simp[jI,kF]
 | x :: s,0=>by have:=jL0 s;rw[kF];simp;omega
 | x :: s,i+1=>by have:=kJ x;have:=zM0 s i;rw[kF];simp at this ⊢;omega
theorem mL0:∀ (s:List (List Tm)) (i:Nat) (l:List Tm),kF (s.set i l)≤kF s+jI l
 | [],i,l=>by have:=kJ l;simp[kF];omega
 | x :: s,0,l=>by have:=kJ x;simp only[List.set_cons_zero,kF];omega
 | x :: s,i+1,l=>by have:=mL0 s i l;simp only[List.set_cons_succ,kF];omega
theorem jW0 (s:List (List Tm))(a:Int)(l:List Tm):kF (bQ s a l)≤kF s+jI l:=by
 unfold bQ
 split
 ·exact mL0 ..
 ·have:=kJ l;omega
theorem zN0 {P:List Tm→Prop}{s:List (List Tm)}{a:Int}{l:List Tm}(h:∀ m∈s,P m)(b:P l):∀ m∈bQ s a l,P m:=by
 unfold bQ
 split
 ·intro m d
  rcases List.mem_or_eq_of_mem_set d with c|c
  ·exact h m c
  ·exact c ▸ b
 ·exact h
theorem tZ2 {P:List Tm→Prop}{s:List (List Tm)}(h:∀ m∈s,P m)(h0:P [])(i:Nat):P (s.getD i []):=by
 rw[List.getD_eq_getElem?_getD]
 cases hi:s[i]? with
 | none=>exact h0
 | some x=>exact h x (List.mem_of_getElem? hi)
theorem gU2:∀ l:List Tm,(l.length:Int)≤jI l
 | []=>Int.le_refl _
 | x :: l=>by have:=gU2 l;have:=qT x;simp only[List.length_cons,jI];omega
theorem eB0:∀ l:List Tm,jI l.reverse=jI l
 | []=>rfl
 | x :: l=>by rw[List.reverse_cons,jC0,eB0 l,jI,jI,jI];omega
theorem Gd.of {p K:Int}{x:Tm}(h:jZ 3 2 p true x=true):Gd p K x:=⟨kW0 x false h,lG2 x (bR0 _ _ _ x h)⟩
theorem Gd.seq {p K:Int}{x y:Tm}(a:Gd p K x)(h:Gd p K y):Gd p K (.mk 12 0 0 [] zE [x,y]):=by
 refine ⟨?_,?_⟩
 ·have b:=a.r
  have c:=h.r
  rw[jZ]
  simp only[jS,show (false || decide ((12:Int)=3))=false from rfl,b,c]
  rfl
 ·rw[wok,woks,woks,woks,a.w,h.w];rfl
theorem qZ2 {p K:Int}{x:Tm}(a:Gd p K x):∀ r:List Tm,(∀ t∈r,Gd p K t)→Gd p K (dX0 x r)
 | [],_=>a
 | t :: r,h=>(h t (by simp)).seq (qZ2 a r λu c=>h u (by simp[c]))
theorem qY2 (x:Tm):∀ r:List Tm,jJ (dX0 x r)=jJ x+jI r+r.length
 | []=>by simp[dX0,jI]
 | t :: r=>by rw[dX0,jJ,jI,jI,jI,qY2 x r,jI,List.length_cons];omega
theorem yS3 {p K:Int}:∀ l:List Tm,jS 3 2 p true l=true→Gd p K (revF l)∧jJ (revF l)≤1+2*jI l
 | [],_=>⟨Gd.z _ _,by decide⟩
 | x :: r,h=>by
  have c:=dD h
  have b:=qT x
  have e:=kJ r
  have d:=gU2 r
  refine ⟨qZ2 (Gd.of (c x (by simp))) _ λt a=>Gd.of (c t (by simp at a;simp[a])),?_⟩
  rw[revF,qY2,eB0,List.length_reverse,jI]
  omega
structure StG (c:Co)(f:Cf)(alt:Int)(x:Tm):Prop where
 ok:SOk c f alt x
 t:Gd c.p.length (kI c f alt x).key (kI c f alt x).t
 z:jJ (kI c f alt x).t≤10000
 v:(kI c f alt x).v.length=3
 st:(kI c f alt x).st.length=2
 sr:∀ l∈(kI c f alt x).st,jS 3 2 c.p.length true l=true
 zr:kF (kI c f alt x).st≤10000
 k:if x.k=1 then (kI c f alt x).key=f.key+1∧(kI c f alt x).ek=f.key else (kI c f alt x).key=f.key
 e:x.k=1→(kI c f alt x).e=0
theorem oG2 {c:Co}(hc:wQ0 c){f:Cf}(B:f.v.length=3)(A:f.st.length=2)(o:∀ l∈f.st,jS 3 2 c.p.length true l=true)(I:kF f.st≤2000)(hk:0≤f.key∧f.key≤5000){d:Int}(ha:0≤d∧d<2) :
  ∀ {x:Tm},Gd c.p.length f.key x→jJ x≤2000→(x.k≠0∧x.k≠14∧x.k≠12∧x.k≠11∧x.k≠7)→StG c f d x
 | .mk k a b s e l,h,hx,Z=>by
  obtain ⟨hk1,_,J,hB,⟨hS,hE,V⟩,hE2,hl⟩:=rgt h.r
  have Z:k≠0∧k≠14∧k≠12∧k≠11∧k≠7:=Z
  have kids:k≠3→∀ y∈l,Gd c.p.length f.key y∧jJ y≤2000:=λC y m=>⟨h.kids C y m,by have:=kS0 m;rw[jJ] at hx;omega⟩
  have zz:jJ zT=1:=by decide
  have T:gJ e=true→smE e=true:=λE=>by
   rcases hE2 with h|h
   ·rw[E] at h;cases h
   ·exact bE0 e h
  have q:∀ i,jS 3 2 c.p.length true (f.st.getD i [])=true:=λi=>tZ2 o rfl i
  have D:∀ i,jI (f.st.getD i [])≤2000:=λi=>Int.le_trans (zM0 _ i) I
  have Y:∀ n:Nat,shL k=2→∃ y z,l=[y,z]:=λ_ Y=>by
   rw[Y] at V
   rcases l with _|⟨y,_|⟨z,_|⟨u,l⟩⟩⟩<;>simp at V
   ·exact ⟨y,z,rfl⟩
   ·omega
  have zs:=I
  have z0:jI ([]:List Tm)=0:=rfl
  have P:W (f.key+1)=f.key+1:=W_id Z0
  by_cases k1:k=1
  ·subst k1
   have X:kI c f d (.mk 1 a b s e l)=⟨.mk 14 f.key a s zE [],f.v,f.st,W (f.key+1),s,f.key,0⟩:=rfl
   have w:a = -1∨0≤a∧a<3:=by
    rw[show shA 1=2 from rfl] at J
    simpa[gZ] using J
   have hS':s≠[]:=λh=>by rw[if_pos h] at hS;exact absurd hS Z1
   have M:=h.r
   rw[jZ] at M
   simp only[Z5] at M
   refine ⟨?_,?_,?_,?_,?_,?_,?_,?_,?_⟩
   ·simp[SOk]
   ·rw[X]
    refine ⟨?_,?_⟩
    ·rw[jZ,if_neg hS',show gJ zE=false from rfl,show gZ 3 2 c.p.length (shB 14) a=true by simpa[shB,gZ] using w,show gZ 3 2 c.p.length (shA 14) f.key=true by simpa[shA,gZ] using hk.1,M.2.2.2.2.2.1]
     rfl
    ·rw[wok];simp[woks,P];omega
   all_goals rw[X]
   ·show jJ (.mk 14 f.key a s zE [])≤_;simp[jJ,jI]
   ·exact B
   ·exact A
   ·exact o
   ·show kF f.st≤_;omega
   ·exact ⟨P,rfl⟩
   ·exact λ_=>rfl
  have hkk:(Tm.mk k a b s e l).k=k:=rfl
  have j:∀ (t:Tm) (v:List Int) (N:List (List Tm)) (en:List Zu) (ek er:Int),kI c f d (.mk k a b s e l)=⟨t,v,N,f.key,en,ek,er⟩→SOk c f d (.mk k a b s e l)→Gd c.p.length f.key t→jJ t≤10000→v.length=3→N.length=2→(∀ l∈N,jS 3 2 c.p.length true l=true)→kF N≤10000→StG c f d (.mk k a b s e l):=by
   intro t v N en ek er X ok g z B A o zr
   refine ⟨ok,?_,?_,?_,?_,?_,?_,?_,λh=>absurd h k1⟩<;>rw[X]
   ·exact g
   ·exact z
   ·exact B
   ·exact A
   ·exact o
   ·exact zr
   ·rw[if_neg (by exact k1)]
  by_cases k2:k=2
  ·subst k2
   have w:0≤a∧a<3:=by simpa[shA,gZ] using J
   have E:gJ e=true:=by
    cases E:gJ e with
    | true=>rfl
    | false=>rw[E] at hE;exact absurd hE Z1
   exact j zT _ _ _ _ _ rfl (by simp[SOk,T E];omega) (Gd.z _ _) Z0 (by rw[List.length_set];exact B) A o Z0
  by_cases k3:k=3
  ·subst k3
   have w:0≤a∧a<2:=by simpa[shA,gZ] using J
   obtain ⟨y,rfl⟩:∃ y,l=[y]:=by
    have:shL 3=1:=rfl
    rw[this] at V
    rcases l with _|⟨y,_|⟨z,l⟩⟩<;>simp at V
    ·exact ⟨y,rfl⟩
    ·omega
   have m:jZ 3 2 c.p.length true y=true:=by simpa[jS] using hl
   have hyz:jJ y≤2000:=by simp only[jJ,jI] at hx;omega
   have Z:jS 3 2 c.p.length true (f.st.getD a.toNat []++[y])=true:=by rw[wU0,q];simp[jS,m]
   refine j zT _ _ _ _ _ rfl ?_ (Gd.z _ _) Z0 B (by rw[bP];exact A) (zN0 o Z) ?_
   ·simp[SOk,jJ0 y _ m];omega
   ·have H:=jW0 f.st a (f.st.getD a.toNat []++[y])
    have h6:=D a.toNat
    rw[jC0] at H
    simp only[jI] at H
    show kF (bQ f.st a (f.st.getD a.toNat []++[y]))≤_
    omega
  have F:=kids k3
  by_cases k4:k=4
  ·subst k4
   have w:0≤a∧a<2:=by simpa[shA,gZ] using J
   have M:=yS3 (p:=c.p.length) (K:=f.key) _ (q a.toNat)
   have h6:=D a.toNat
   have H:=jW0 f.st a []
   exact j _ _ _ _ _ _ rfl (by simp[SOk];omega) M.1 Z0 B (by rw[bP];exact A) (zN0 o rfl) (by rw[z0] at H;omega)
  by_cases k5:k=5
  ·subst k5
   have H:=jW0 f.st a []
   exact j _ _ _ _ _ _ rfl (by simp[SOk]) (Gd.z _ _) Z0 B (by rw[bP];exact A) (zN0 o rfl) (by rw[z0] at H;omega)
  by_cases k6:k=6
  ·subst k6
   have w:0≤a∧a<2:=by simpa[shA,gZ] using J
   have hB':0≤b∧b<2:=by simpa[shB,gZ] using hB
   have L:(yV0 f.st a b).length=2∧(∀ l∈yV0 f.st a b,jS 3 2 c.p.length true l=true)∧kF (yV0 f.st a b)≤10000:=by
    unfold yV0
    split
    ·exact ⟨A,o,Z0⟩
    ·refine ⟨by rw[bP,bP];exact A,zN0 (zN0 o (by rw[wU0,q,q];rfl)) rfl,?_⟩
     have H:=jW0 (bQ f.st b (f.st.getD b.toNat []++f.st.getD a.toNat [])) a []
     have h6:=jW0 f.st b (f.st.getD b.toNat []++f.st.getD a.toNat [])
     have h7:=D a.toNat
     have h8:=D b.toNat
     rw[jC0] at h6
     rw[z0] at H
     omega
   exact j _ _ _ _ _ _ rfl (by simp[SOk];omega) (Gd.z _ _) Z0 B L.1 L.2.1 L.2.2
  by_cases k8:k=8
  ·subst k8
   exact j _ _ _ _ _ _ rfl (by simp[SOk]) (Gd.z _ _) Z0 B A o Z0
  by_cases k9:k=9
  ·subst k9
   have E:gJ e=true:=by
    cases E:gJ e with
    | true=>rfl
    | false=>rw[E] at hE;exact absurd hE Z1
   obtain ⟨y,z,rfl⟩:=Y 0 rfl
   have m:=F y (by simp)
   have I:=F z (by simp)
   refine j (if (evF f.v e).1=0 then z else y) _ _ _ _ _ rfl (by simp[SOk,T E]) ?_ ?_ B A o Z0
   ·split
    ·exact I.1
    ·exact m.1
   ·split
    ·have:=I.2;omega
    ·have:=m.2;omega
  by_cases k10:k=10
  ·subst k10
   obtain ⟨y,z,rfl⟩:=Y 0 rfl
   have m:=F y (by simp)
   have I:=F z (by simp)
   have C:[y,z].getD d.toNat zT=y∨[y,z].getD d.toNat zT=z:=by
    obtain ⟨n,rfl⟩:∃ n:Nat,d=n:=⟨d.toNat,Z0⟩
    have:n=0∨n=1:=Z0
    rcases this with rfl|rfl
    ·exact .inl rfl
    ·exact .inr rfl
   refine j ([y,z].getD d.toNat zT) _ _ _ _ _ rfl (by simp[SOk];omega) ?_ ?_ B A o Z0
   ·rcases C with C|C<;>rw[C]
    ·exact m.1
    ·exact I.1
   ·rcases C with C|C<;>rw[C]
    ·have:=m.2;omega
    ·have:=I.2;omega
  by_cases k13:k=13
  ·subst k13
   have w:0≤a∧a<c.p.length:=by simpa[shA,gZ] using J
   obtain ⟨y,m⟩:=jT (l:=c.p) (i:=a.toNat) Z0
   have L:=List.mem_of_getElem? m
   have R:c.p.getD a.toNat zT=y:=by rw[List.getD_eq_getElem?_getD,m];rfl
   refine j (c.p.getD a.toNat zT) _ _ _ _ _ rfl (by simp[SOk];omega) ?_ ?_ B A o Z0
   ·rw[R];exact Gd.of (hc.r y L)
   ·rw[R];have:=hc.z y L;omega
  omega
mutual
theorem dD0:∀ x:Tm,((kH x).length:Int)≤jJ x
 | .mk k a b s e l=>by
  have:=kJ l
  rw[kH,jJ,List.length_cons]
  split
  ·have:=wN3 l;omega
  split
  ·have:=uI2 l;omega
  ·simp;omega
theorem uI2:∀ l:List Tm,((kV l).length:Int)≤jI l
 | []=>Int.le_refl _
 | x :: l=>by have:=dD0 x;have:=uI2 l;rw[kV,jI,List.length_append];omega
theorem wN3:∀ l:List Tm,((actH l).length:Int)≤jI l
 | []=>Int.le_refl _
 | x :: l=>by have:=dD0 x;have:=kJ l;rw[actH,jI];omega
end
mutual
theorem lT0 {K:Int}:∀ t:Tm,wok K t=true→∀ x∈kH t,wok K x=true
 | .mk k a b s e l,h=>by
  rw[kH]
  intro x c
  rcases List.mem_cons.1 c with rfl|c
  ·exact h
  rw[wok,Z5] at h
  split at c
  ·exact dN2 l h.2 x c
  split at c
  ·exact zL1 l h.2 x c
  ·cases c
theorem zL1 {K:Int}:∀ l:List Tm,woks K l=true→∀ x∈kV l,wok K x=true
 | [],_=>by intro x a;cases a
 | y :: l,h=>by
  rw[woks,Z5] at h
  rw[kV]
  intro x a
  rcases List.mem_append.1 a with a|a
  ·exact lT0 y h.1 x a
  ·exact zL1 l h.2 x a
theorem dN2 {K:Int}:∀ l:List Tm,woks K l=true→∀ x∈actH l,wok K x=true
 | [],_=>by intro x a;cases a
 | y :: l,h=>by
  rw[woks,Z5] at h
  rw[actH]
  exact lT0 y h.1
end
theorem nK2 {K:Int}{t:Tm}(h:wok K t=true):∀ q∈uW t,0≤q∧q<K:=by
 intro q d
 unfold uW wS at d
 obtain ⟨x,c,rfl⟩:=List.mem_map.1 d
 rw[List.mem_filter,decide_eq_true_eq] at c
 have:=lT0 t h x c.1
 obtain ⟨k,a,b,s,e,l⟩:=x
 have f:k=14:=c.2
 subst f
 rw[wok,Z5] at this
 show 0≤a∧a<K
 simpa using this.1
theorem mC2 {f:Int}{t:Tm}(h:RS t):∀ r,kyP f t=some r→gK t r∧(atT t r).k=14:=by
 induction h with
 | leaf g e l=>
  intro r a
  rw[kyP] at a
  split at a
  ·rename_i n
   cases a
   exact ⟨.nil,n.1⟩
  simp[g,e,l] at a
 | blk j i=>
  intro r a
  rw[kyP,if_neg Z0,if_pos (.inr rfl),kyH] at a
  split at a
  ·rename_i p b
   cases a
   exact ⟨.blk (i p b).1,(i p b).2⟩
  ·cases a
 | seq j m c d=>
  intro r a
  rw[kyP,if_neg Z0,if_pos (.inl rfl),kyH] at a
  split at a
  ·rename_i p b
   cases a
   exact ⟨.seq (c p b).1,(c p b).2⟩
  ·cases a
 | par j m c d=>
  intro r a
  rw[kyP,if_neg Z0,if_neg Z1,if_pos rfl,kyL] at a
  split at a
  ·rename_i p b
   cases a
   exact ⟨.parl (c p b).1,(c p b).2⟩
  ·rw[kyL] at a
   split at a
   ·rename_i p b
    cases a
    exact ⟨.parr (d p b).1,(d p b).2⟩
   ·rw[kyL] at a
    cases a
theorem wQ0.sc {c:Co}(h:wQ0 c):SmC c:=⟨by have:=h.v;omega,by have:=h.p;omega,h.sm⟩
theorem lN1 {p:Int}{s:List (List Tm)}(b:s.length=2)(h:∀ l∈s,jS 3 2 p true l=true)(e:kF s≤10000):jV0 s:=by
 refine ⟨Z0,λl a=>⟨?_,bD0 l _ (h l a)⟩⟩
 obtain ⟨i,hi,rfl⟩:=List.mem_iff_getElem.1 a
 have c:=zM0 s i
 rw[List.getD_eq_getElem?_getD,List.getElem?_eq_getElem hi] at c
 have d:=gU2 s[i]
 simp at c
 omega
theorem dU.sf {c:Co}{f:Cf}(h:dU c f):SmF f:=⟨jJ0 _ _ h.g.r,by have:=h.v;omega,lN1 h.st h.sr (by have:=h.z;have:=qT f.t;omega)⟩
theorem dU.fits {c:Co}(a:wQ0 c){f:Cf}(h:dU c f):bY c f=true:=by
 unfold bY
 rw[a.v,a.s,h.v,h.st]
 have:=h.g.r
 simpa using this
structure StOk (c:Co)(f:Cf)(st:St):Prop where
 a:gK (jD f.t) st.p
 l:(st.p.length:Int)≤2000
 k:(atT (jD f.t) st.p).k=st.k
 g:StG c ⟨jD f.t,f.v,f.st,f.n,f.key⟩ st.a (atT (jD f.t) st.p)
 t:Gd c.p.length (kI c ⟨jD f.t,f.v,f.st,f.n,f.key⟩ st.a (atT (jD f.t) st.p)).key (stepT c ⟨jD f.t,f.v,f.st,f.n,f.key⟩ st.p st.a)
 z:jJ (stepT c ⟨jD f.t,f.v,f.st,f.n,f.key⟩ st.p st.a)≤12000
theorem iK3 {c:Co}(I:wQ0 c){f:Cf}(h:dU c f){b:St}(L:b∈enF f.t):StOk c f b:=by
 have C:=(cN c.p.length f.key f.t)
 have l:=C.2 h.g
 have D:=h.z
 have E:=jL0 f.st
 have H:=qT f.t
 obtain ⟨d,B,F,y,s⟩:=iL3 (cS _ _ l.r) L
 have u:=uF2 d
 have m:=(eZ0 (p:=c.p.length) (K:=f.key) d l)
 have i:=oG2 I (f:=⟨jD f.t,f.v,f.st,f.n,f.key⟩) h.v h.st h.sr (by show kF f.st≤_;omega) (by show 0≤f.key∧f.key≤5000;have:=h.n;omega) ⟨y,s⟩ m.1 Z0 (by rw[B];exact F)
 have e:∀ {x:Tm},Gd c.p.length f.key x→Gd c.p.length (kI c ⟨jD f.t,f.v,f.st,f.n,f.key⟩ b.a (atT (jD f.t) b.p)).key x:=λA=>⟨A.r,lF2 (by have j:=i.k;dsimp only at j;split at j<;>omega) _ A.w⟩
 refine ⟨d,by have:=qT (atT (jD f.t) b.p);omega,B,i,?_,?_⟩
 ·unfold stepT
  dsimp only
  split
  ·refine ((eZ0 (tN0 b.p _ [] [] .nil λq o=>?_)) (e l)).2 _ (Gd.z _ _)
   rw[List.nil_append]
   exact d.pre q o
  ·exact ((eZ0 d) (e l)).2 _ i.t
 ·unfold stepT
  dsimp only
  split
  ·have j:=(uF2 (tN0 b.p (jD f.t) [] [] .nil λq o=>by rw[List.nil_append];exact d.pre q o)).2 zT
   have M:=qT (atT (jD f.t) (blkR (jD f.t) b.p [] []))
   have J:jJ zT=1:=by decide
   omega
  ·have j:=u.2 (kI c ⟨jD f.t,f.v,f.st,f.n,f.key⟩ b.a (atT (jD f.t) b.p)).t
   have M:=i.z
   have J:=qT (atT (jD f.t) b.p)
   omega
theorem do_ok {c:Co}(d:wQ0 c){f:Cf}(h:dU c f):DoOk c f:=by
 have m:=(cN c.p.length f.key f.t).2 h.g
 have o:=(cN c.p.length f.key f.t).1
 have j:=h.z
 have k:=jL0 f.st
 refine ⟨d.sc,h.sf,by have:=h.v;omega,λi=>?_,cS _ _ h.g.r,jJ0 _ _ m.r,?_,λq e=>?_⟩
 ·have s:=zM0 f.st i
  have n:=gU2 (f.st.getD i [])
  have:=qT f.t
  omega
 ·have:=dD0 (jD f.t);omega
 ·have b:=iK3 d h e
  exact ⟨b.a,by have:=b.l;omega,b.g.ok,jJ0 _ _ b.t.r,jJ0 _ _ ((cN c.p.length _ _).2 b.t).r,lN1 b.g.st b.g.sr b.g.zr⟩
theorem uX3 {c:Co}(E:wQ0 c){f:Cf}(h:dU c f)(b:Int)(d:(doF c f b).e=0):dU c (doF c f b).f∧(doF c f b).f.n=f.n+1∧((doF c f b).is=true→(doF c f b).ek=f.key∧(doF c f b).f.key=f.key+1)∧((doF c f b).is=false→(doF c f b).f.key=f.key):=by
 have y:=h.n
 unfold doF at d ⊢
 split at d
 ·exact absurd d Z1
 rename_i w
 rw[if_neg w]
 split at d
 ·exact absurd d Z1
 rename_i D
 rw[if_neg D]
 have I:¬ b<0∧¬ (enF f.t).length≤b:=⟨λh=>w (.inl h),λh=>w (.inr (.inl h))⟩
 obtain ⟨m,r⟩:=jT (l:=enF f.t) (i:=b.toNat) Z0
 have s:(enF f.t).getD b.toNat ⟨0,[],0⟩=m:=by rw[List.getD_eq_getElem?_getD,r];rfl
 rw[s] at d ⊢
 dsimp only at d ⊢
 have o:=iK3 E h (List.mem_of_getElem? r)
 have B:=cN c.p.length (kI c ⟨jD f.t,f.v,f.st,f.n,f.key⟩ m.a (atT (jD f.t) m.p)).key (stepT c ⟨jD f.t,f.v,f.st,f.n,f.key⟩ m.p m.a)
 have F:=o.z
 have A:=o.g.zr
 have H:=jL0 (kI c ⟨jD f.t,f.v,f.st,f.n,f.key⟩ m.a (atT (jD f.t) m.p)).st
 have C:=qT (jD (stepT c ⟨jD f.t,f.v,f.st,f.n,f.key⟩ m.p m.a))
 split at d
 ·rename_i u;exact absurd d u
 rename_i u
 rw[if_neg u]
 split at d
 ·exact absurd d Z1
 rename_i x
 rw[if_neg x]
 rw[W_id (a:=jJ _) Z0,W_id (a:=kF _) Z0,W_id Z0] at x
 have j:=o.g.k
 rw[o.k] at j
 have q:W (f.n+1)=f.n+1:=W_id Z0
 refine ⟨⟨o.g.v,o.g.st,B.2 o.t,o.g.sr,by dsimp only;omega,?_⟩,q,λhi=>?_,λhi=>?_⟩
 ·dsimp only at j ⊢
  rw[q]
  split at j<;>omega
 ·dsimp only at hi j ⊢
  rw[decide_eq_true_eq] at hi
  rw[if_pos hi] at j
  exact ⟨j.2,j.1⟩
 ·dsimp only at hi j ⊢
  rw[decide_eq_false_iff_not] at hi
  rw[if_neg hi] at j
  exact j
theorem oD2 {c:Co}(u:wQ0 c){f:Cf}(h:dU c f)(i:Int):TlOk c f i:=by
 have d:=(cN c.p.length f.key f.t).2 h.g
 have n:=h.z
 have o:=jL0 f.st
 refine ⟨u.sc,h.sf,cS _ _ h.g.r,jJ0 _ _ d.r,by have:=dD0 f.t;omega,λr y j=>?_,λr m=>?_⟩
 ·have w:=(eZ0 y d).1
  generalize atT (jD f.t) r=x at *
  obtain ⟨k,a,b,s,e,l⟩:=x
  have j:k=14:=j
  subst j
  have q:=(rgt w.r).2.2.2.1
  have A:b = -1∨0≤b∧b<3:=by simpa[shB,gZ] using q
  have:=h.v
  show b<_
  omega
 ·exact jJ0 _ _ ((eZ0 (mC2 (cS _ _ d.r) r m).1 d).2 zT (Gd.z _ _)).r
theorem oC2 (v:List Int)(b h:Int):(tlV v b h).length=v.length:=by unfold tlV;split<;>simp
theorem fS1 {c:Co}(l:wQ0 c){f:Cf}(h:dU c f){b:Int}(a:Int)(j:b∈uW f.t):(zI0 c f b a).is=true∧dU c (zI0 c f b a).f∧(zI0 c f b a).f.key=f.key∧(zI0 c f b a).f.n=f.n:=by
 have m:=cN c.p.length f.key f.t
 have e:=m.2 h.g
 unfold zI0
 rw[if_pos ⟨decide_eq_true j,h.fits l⟩]
 unfold tlG
 cases k:kyP b (jD f.t) with
 | none=>
  have d:=cN c.p.length f.key (jD f.t)
  exact ⟨rfl,⟨h.v,h.st,d.2 e,h.sr,by have:=h.z;show jJ (jD (jD f.t))+kF f.st≤_;omega,h.n⟩,rfl,rfl⟩
 | some r=>
  have i:=(mC2 (cS _ _ e.r) r k).1
  have o:=(eZ0 i e).2 zT (Gd.z _ _)
  have d:=cN c.p.length f.key (bC (jD f.t) r zT)
  have s:=(uF2 i).2 zT
  have q:=qT (atT (jD f.t) r)
  have u:jJ zT=1:=by decide
  exact ⟨rfl,⟨by show (tlV ..).length=3;rw[oC2];exact h.v,h.st,d.2 o,h.sr,by have:=h.z;show jJ (jD (bC (jD f.t) r zT))+kF f.st≤_;omega,h.n⟩,rfl,rfl⟩
theorem cY1 {c:Co}(h:wQ0 c):dU c (uX0 c)∧(uX0 c).key=0:=by
 unfold uX0
 rw[if_pos (bD2 h)]
 obtain ⟨y,b⟩:=jT (l:=c.p) (i:=c.m.toNat) (by have:=h.m;omega)
 have e:=List.mem_of_getElem? b
 have a:c.p.getD c.m.toNat zT=y:=by rw[List.getD_eq_getElem?_getD,b];rfl
 have g:=cN c.p.length 0 y
 have j:=h.z y e
 have f:c.s.toNat=2:=by rw[h.s];rfl
 rw[a,f]
 refine ⟨⟨h.v,rfl,g.2 (Gd.of (h.r y e)),λl d=>?_,?_,by show (0:Int)≤0∧(0:Int)≤0∧(0:Int)≤5000;decide⟩,rfl⟩
 ·have:l=[]:=by simp at d;exact d
  subst this
  rfl
 ·show jJ (jD y)+0≤_
  omega
theorem qN1 {p d:Int}(j:p≤d):∀ (x:Tm) (q:Zb),jZ 3 2 p q x=true→jZ 3 2 d q x=true
 | .mk k a b s e l,q,h=>by
  have r:=(rgt h).2.2.2.2.2.2
  have i:∀ w n:Int,gZ 3 2 p w n=true→gZ 3 2 d w n=true:=λw n h=>by
   unfold gZ at h ⊢
   split;· rename_i c;rwa [if_pos c] at h
   rename_i c;rw[if_neg c] at h
   split;· rename_i c;rwa [if_pos c] at h
   rename_i c;rw[if_neg c] at h
   split;· rename_i c;rwa [if_pos c] at h
   rename_i c;rw[if_neg c] at h
   split
   ·rename_i c;rw[if_pos c] at h;simp at h ⊢;omega
   rename_i c;rw[if_neg c] at h
   exact h
  have o:∀ l:List Tm,(∀ x∈l,∀ q,jZ 3 2 p q x=true→jZ 3 2 d q x=true)→∀ q,jS 3 2 p q l=true→jS 3 2 d q l=true:=λl=>by
   induction l with
   | nil=>intro _ q _;rfl
   | cons y l m=>
    intro h q f
    simp only[jS,Z5] at f ⊢
    exact ⟨h y (by simp) q f.1,m (λx g=>h x (by simp[g])) q f.2⟩
  rw[jZ] at h ⊢
  simp only[Z5] at h ⊢
  exact ⟨h.1,h.2.1,i _ _ h.2.2.1,i _ _ h.2.2.2.1,h.2.2.2.2.1,h.2.2.2.2.2.1,h.2.2.2.2.2.2.1,o l (λx g q=>qN1 j x q) _ h.2.2.2.2.2.2.2⟩
 termination_by x=>SizeOf.sizeOf x
theorem dU.rw {c:Co}(a:wQ0 c){f:Cf}(h:dU c f):jF (pp G) H0 19 [tmV f.t] (ivV (uW f.t)):=
 qK1 G f.t false h.sf.t (qN1 (by have:=a.p;omega) _ _ h.g.r) (by have:=h.z;have:=jL0 f.st;omega)
inductive JK2 (pk w:List Int)(nx i:Int)(h:jA):Nat→S→Prop
 | mk (k:Nat) (kv:Int) {x0 x2 x3 x4 xB xC xD xE xF xG xH xI xJ xK xL xM xN xO xP xQ xR xS xT xU xV xW xX xY xZ yA yB yC yD yE yF yG yH yI yJ yK yL yM yN yO yP yQ yR yS yT yU yV yW yX yY yZ zA zB zC zD zF zG zH zI zJ zK zL zM zN zO zP zQ zR zS zU zV zW zX zY zZ wA wB wC wD wE wF wG wH wI wJ wK wL wM wN wO wP wQ wR wT wU wV wW wX wY wZ uA uB uC uD uE:Z6} (hkv:kv=(k:Int)) (hk:k≤w.length) :
  JK2 pk w nx i h (w.length-k) ⟨(F116 x0 (Rw false eI pk.length (ivs pk)) x2 x3 x4 (.pointer (some ⟨2,0,none⟩)) (.pointer (some ⟨3,0,none⟩)) (.int .i64 nx) (.int .i64 i) (Rw false eI w.length (ivs w)) (.int .i64 kv) xB xC xD xE xF xG xH xI xJ xK xL xM xN xO xP xQ xR xS xT xU xV xW xX xY xZ yA yB yC yD yE yF yG yH yI yJ yK yL yM yN yO yP yQ yR yS yT yU yV yW yX yY yZ zA zB zC zD zF zG zH zI zJ zK zL zM zN zO zP zQ zR zS zU zV zW zX zY zZ wA wB wC wD wE wF wG wH wI wJ wK wL wM wN wO wP wQ wR wT wU wV wW wX wY wZ uA uB uC uD uE),[],h⟩
inductive JK1 (pk:List Int)(c:Co):Nat→S→Prop
 | mk (i:Nat) (iv nx:Int) (f:Cf) (h:jA) {x0 x2 x3 x4 x9 xA xB xC xD xE xF xG xH xI xJ xK xL xM xN xO xP xQ xR xS xT xU xV xW xX xY xZ yA yB yC yD yE yF yG yH yI yJ yK yL yM yN yO yP yQ yR yS yT yU yV yW yX yY yZ zA zB zC zD zF zG zH zI zJ zK zL zM zN zO zP zQ zR zS zU zV zW zX zY zZ wA wB wC wD wE wF wG wH wI wJ wK wL wM wN wO wP wQ wR wT wU wV wW wX wY wZ uA uB uC uD uE:Z6} (hiv:iv=(i:Int)) (hi:i≤pk.length) (hg:dU c f) (hn:nx=f.key) (hl1:h.lo=1) (d1:cells h 2=some (coC c,28,false)) (d2:cells h 3=some (cfC f,42,false)) (hl2:4≤h.next) :
  JK1 pk c (pk.length-i) ⟨(F116 x0 (Rw false eI pk.length (ivs pk)) x2 x3 x4 (.pointer (some ⟨2,0,none⟩)) (.pointer (some ⟨3,0,none⟩)) (.int .i64 nx) (.int .i64 iv) x9 xA xB xC xD xE xF xG xH xI xJ xK xL xM xN xO xP xQ xR xS xT xU xV xW xX xY xZ yA yB yC yD yE yF yG yH yI yJ yK yL yM yN yO yP yQ yR yS yT yU yV yW yX yY yZ zA zB zC zD zF zG zH zI zJ zK zL zM zN zO zP zQ zR zS zU zV zW zX zY zZ wA wB wC wD wE wF wG wH wI wJ wK wL wM wN wO wP wQ wR wT wU wV wW wX wY wZ uA uB uC uD uE),[],h⟩
theorem cfC_9 (f:Cf):(cfC f).take 9=tmC f.t:=by unfold cfC;rw[List.take_left' (uQ _)]
theorem tO2 {pk w:List Int}{c:Co}{f:Cf}{r:Dv}{i:Nat}{h:jA}{bg ba:Nat}{T:jK→S→Prop}(hg:dU c f)(y:h.lo=1)(d1:cells h 2=some (coC c,28,false))(d2:cells h 3=some (cfC f,42,false))(hl2:4≤h.next)
  (dg:cells h bg=some (cfC r.f,42,false)) (da:cells h ba=some ([.string (Tx r.en),.int .i64 r.ek,.int .i64 0],46,false)) (hb1:4≤bg) (hb2:4≤ba)
  (hgd:r.e=0→dU c r.f∧r.f.n=f.n+1∧(r.is=true→r.ek=f.key∧r.f.key=f.key+1)∧(r.is=false→r.f.key=f.key))
  (htl:∀ {a:Int},a∈w→(zI0 c f a 1).is=true∧dU c (zI0 c f a 1).f∧(zI0 c f a 1).f.key=f.key∧(zI0 c f a 1).f.n=f.n)
  (htf:∀ a:Int,jF (pp G) H0 21 [coV c,cfV f,.int .i64 a,.int .i64 1] (tvV (zI0 c f a 1)))
  (hT:∀ (e:jK) (nx:Int) (f':Cf) (h2:jA) {x0 x2 x3 x4 x9 xA xB xC xD xE F xG xH xI xJ N R I xN xO xP xQ xR xS xT xU xV xW xX xY xZ yA yB yC yD yE yF yG yH yI K yK yL yM yN yO V yQ Z yS yT yU yV yW yX yY yZ zA zB zC zD Y zG zH zI zJ zK zL zM zN zO zP zQ P zS zU zV zW zX H X wA wB wC wD wE L wG wH wI wJ M J wM wN v k C t p d s b m A j B g q z o:Z6},e=.normal∨e=.exit 1→dU c f'→nx=f'.key→h2.lo=1→cells h2 2=some (coC c,28,false)→cells h2 3=some (cfC f',42,false)→4≤h2.next→
   T e ⟨(F116 x0 (Rw false eI pk.length (ivs pk)) x2 x3 x4 (.pointer (some ⟨2,0,none⟩)) (.pointer (some ⟨3,0,none⟩)) (.int .i64 nx) (.int .i64 i) x9 xA xB xC xD xE F xG xH xI xJ N R I xN xO xP xQ xR xS xT xU xV xW xX xY xZ yA yB yC yD yE yF yG yH yI K yK yL yM yN yO V yQ Z yS yT yU yV yW yX yY yZ zA zB zC zD Y zG zH zI zJ zK zL zM zN zO zP zQ P zS zU zV zW zX H X wA wB wC wD wE L wG wH wI wJ M J wM wN v k C t p d s b m A j B g q z o),[],h2⟩) {x0 x2 x3 x4 xA F xG xH xI xJ N R I xN xO xP xQ xR xS xT xU xV xW xX xY xZ yA yB yC yD yE yF yG yH yI K yK yL yM yN yO V yQ Z yS yT yU yV yW yX yY yZ zA zB zC zD Y zG zH zI zJ zK zL zM zN zO zP zQ P zS zU zV zW zX H X wA wB wC wD wE L wG wH wI wJ M J wM wN v k C t p d s b m A j B g q z o:Z6} :
  dc3 (pp G) qq none oH1 ⟨(F116 x0 (Rw false eI pk.length (ivs pk)) x2 x3 x4 (.pointer (some ⟨2,0,none⟩)) (.pointer (some ⟨3,0,none⟩)) (.int .i64 f.key) (.int .i64 i) (Rw false eI w.length (ivs w)) xA (.pointer (some ⟨bg,0,none⟩)) (.pointer (some ⟨ba,0,none⟩)) (.bool r.is) (.int .i64 r.e) F xG xH xI xJ N R I xN xO xP xQ xR xS xT xU xV xW xX xY xZ yA yB yC yD yE yF yG yH yI K yK yL yM yN yO V yQ Z yS yT yU yV yW yX yY yZ zA zB zC zD Y zG zH zI zJ zK zL zM zN zO zP zQ P zS zU zV zW zX H X wA wB wC wD wE L wG wH wI wJ M J wM wN v k C t p d s b m A j B g q z o),[],h⟩ (@kR ⟨T⟩):=by
 rw[iW1]
 have hk:=hg.n
 by_cases he:r.e=0
 ·obtain ⟨hg2,hn2,hi1,hi0⟩:=hgd he
  have E:=zC1 r.f
  cases D:r.is with
  | true=>
   obtain ⟨e1,e2⟩:=hi1 D
   have hwr:IntKind.i64.wrap (f.key+1)=f.key+1:=W_id Z0
   push_cast(disch:=first|omega|(apply id;push_cast;try omega))[he,e1,e2,E,y,d2,dg,da,hwr,D]
   exact hT _ _ _ _ (.inl rfl) hg2 (tH1 @e2) tH tH tH tH
  | false=>
   have e2:=hi0 D
   refine S8 he @e2 E y @d2 dg da D ?_
   exact hT _ _ _ _ (.inl rfl) hg2 (tH1 @e2) tH tH tH tH
 ·by_cases hw0:(0:Int)<w.length
  ·obtain ⟨x,hx⟩:=jT (l:=w) (i:=0) Z0
   have hgx:(ivs w)[0]?=some (.int .i64 x):=by unfold ivs;rw[List.getElem?_map,hx];rfl
   have hk1:=htl (List.mem_of_getElem? hx)
   have ht1:=htf x
   generalize zI0 c f x 1=u at hk1 ht1
   unfold tvV at ht1
   refine S6 he hw0 hgx @d1 @d2 y ?_
   refine dK (ht1) ?_
   refine S3 @d1 @d2 y ?_
   exact hT _ _ _ _ (.inr rfl) hk1.2.1 hk1.2.2.1.symm tH tH tH tH
  ·refine S2 he hw0 ?_
   exact hT _ _ _ _ (.inr rfl) hg rfl y d1 d2 hl2
set_option maxHeartbeats 4000000 in
theorem keys_law (v0 A:Int)(l:List Rb)(pk:List Int)(D:l.length<1000000000000000)(H:smBs l=true)(hpl:pk.length<1000000000000000) :
  jF (pp G) H0 4 [shV v0 A l,ivV pk] (.bool true):=by
 refine cE G fir4 Z7 (lA2 ..) λhlo=>?_;rw[yH3]
 unfold shV ivV
 refine S0 ?_
 refine dK (gX2 G) ?_
 refine S0 ?_
 refine dK (fW3 G v0 A l D H) ?_
 cases hf:fewB l with
 | false=>push_cast(disch:=first | omega | (apply id;push_cast;try omega))[Bool.not_false];exact .id rfl
 | true=>
 refine S1 @Bool.not_true ?_
 rw[show Value.agg ⟨[.int .i64 v0,.int .i64 A,Rw false erb l.length (rbCs l)]⟩=shV v0 A l from rfl]
 have M:∀ n,0<n→Ev.sc n (shV v0 A l)=true:=λn hn=>by unfold shV;rw[Ev.sc,scL,scL,scL,scL,lT2 n hn];rfl
 refine jE.dataE (cap:=[]) (args:=[_]) (nB3 G v0 A l D H) (.cons (.id (M _ Z1)) .nil) (by show Ev.sc _ _&&true=true;rw[M _ (by rw[jM];decide)];rfl) ?_
 rintro _ ⟨c,rfl,y⟩
 refine ⟨zB1 _ (by rw[jM];decide) _,?_⟩
 have I:∀ x:Co,(coV x).cells.toList=coC x:=λ_=>rfl
 have hsc:=y.sc
 refine S1 I ?_
 refine dK (qW2 G c hsc) ?_
 have b:=cY1 y
 generalize uX0 c=f0 at b ⊢
 refine S1 I ?_
 refine WD.loop4 (q:=qq) (jV G) Z7 (JK1 pk c) ?_ _ _ (JK1.mk 0 0 0 f0 _ rfl (Nat.zero_le _) b.1 b.2.symm tH tH tH (by simp only[push_cast];decide))
 clear b f0
 intro m s1 hI
 cases hI with|mk i iv nx f h T hi s hn a P p hl2=>
 subst T hn
 rw[lA1]
 have h9:=cfC_9 f
 by_cases o:(i:Int)<pk.length∧(i:Int)<40
 ·obtain ⟨o,L⟩:=o
  refine S5 o L p a h9 ?_
  have v:=s.rw G y
  unfold ivV at v
  refine dK (v) ?_
  refine S0 ?_
  have B:=nK2 s.g.w
  have hwl:(uW f.t).length≤2000:=by have N:=dD0 f.t;have Z:=s.z;have h3:=jL0 f.st;have h4:(wS (kH f.t)).length≤(kH f.t).length:=mB0 _;show (wS (kH f.t)).length≤2000;omega
  have K:=λ{j:Int} (hk:j∈uW f.t)=>fS1 y s 1 hk
  have V:=λj:Int=>lN2 G c f j 1 (oD2 y s j)
  clear v
  generalize uW f.t=w at B hwl K ⊢
  refine WD.loop4 (q:=qq) (jV G) Z7 (JK2 pk w f.key i h) ?_ _ _ (JK2.mk 0 0 rfl (Nat.zero_le _))
  intro m2 s2 R
  cases R with|mk k kv hkv hk=>
  subst hkv
  rw[iZ1]
  have d:=zC1 f
  by_cases E:(k:Int)<w.length
  ·obtain ⟨x,hx⟩:=jT (l:=w) (i:=k) Z0
   have X:(ivs w)[k]?=some (.int .i64 x):=by unfold ivs;rw[List.getElem?_map,hx];rfl
   have hb:=B x (List.mem_of_getElem? hx)
   have hb1:¬ x<0:=Z0
   have hb2:¬ f.key≤x:=Z0
   refine S8 E @Z4 X hb1 hb2 p a d ?_
   exact ⟨_,Z0,JK2.mk (k+1) _ Z2 Z0⟩
  ·refine S1 E ?_
   rw[iY1]
   obtain ⟨F,hpi⟩:=jT (l:=pk) (i:=i) Z0
   have hgp:(ivs pk)[i]?=some (.int .i64 F):=by unfold ivs;rw[List.getElem?_map,hpi];rfl
   have u:=do_f G c f (jU F 3) (do_ok y s)
   have J:=uX3 y s (jU F 3)
   have hwt:=fC1 G F 3 Z1 Z1
   generalize doF c f (jU F 3)=r at u J
   unfold dvV at u
   refine S6 P p a o @Z4 hgp ?_
   and_intros
   all_goals
    refine dK (hwt) ?_
    refine S3 P p a ?_
    try with_reducible and_intros
   all_goals
    refine dK (u) ?_
    refine S3 P p a ?_
    try with_reducible and_intros
   all_goals
    refine tO2 G s (tH1 a) (tH1 P) (tH1 p) tH tH tH tH tH J K V ?_
    intro e nx' f' Z
    intros
    rename_i he Y hn' hl' d1' d2' C
    rcases he with rfl|rfl
    all_goals
     refine S0 ?_
     rw[iX1]
     refine S0 ?_
     exact ⟨_,Z0,JK1.mk (i+1) _ _ f' _ Z2 Z0 Y hn' hl' d1' d2' C⟩
 ·have hor:¬ (i:Int)<pk.length∨((i:Int)<pk.length∧¬ (i:Int)<40):=Z0
  have d:=zC1 f
  rcases hor with N|⟨N,Z⟩
  ·refine S1 N ?_
   rw[mQ0]
   refine S3 p a d ?_
   exact .id rfl
  ·refine S2 N Z ?_
   rw[mQ0]
   refine S3 p a d ?_
   exact .id rfl
end
end Go.Proofs.YtklapbhlhjdijaaGreatDoor
namespace Go.Proofs.YtklapbhlhjdijaaGreatDoor
open Go Go.RowKit Go.Ev Go.Dv
noncomputable section
attribute [local push_cast] eq_self iff_self
set_option maxRecDepth 100000
@[reducible] def witS:Z6:=.agg ⟨[.int .i64 0,.int .i64 0,.slice none 0 0]⟩
section
variable {w:Zw} {H:Type} {enc:Zt×Z6→H}
theorem f_sh:fieldsB Tryz.prog 24 [(eI,0),(eI,1),(22,2)]=true:=Z7
theorem open_sh (fuel:Nat){c:List Z6}{y:DataW H×List MemPlace}(s:DataW.trod enc Tryz.prog w 0 (λ_=>true) true fuel 24 c=some y)(e:(y.1.weights Tryz.prog 24).all (·≤reachBytes)=true) :
  ∃ r:Int×Int×List Rb,Go.Dv.Op Tryz.prog 1 LL w [.int .i64 r.1,.int .i64 r.2.1,Rw false erb r.2.2.length (rbCs r.2.2)] c∧smBs r.2.2=true∧r.2.2.length<1000000000000000:=by
 obtain ⟨p,k,i,h⟩:=wW0 f_sh s e
 rw[show Tryz.prog.cellsOf 24=3 by kernel_rfl] at i
 match c,i with
 | [a,b,d],_=>
  obtain ⟨C,j,_⟩:=h 0 _ _ rfl
  obtain ⟨A,g,_⟩:=h 1 _ _ rfl
  obtain ⟨D,f,l⟩:=h 2 _ _ rfl
  rw[show Tryz.prog.cellsOf eI=1 by kernel_rfl] at j g
  rw[show Tryz.prog.cellsOf 22=1 by kernel_rfl] at f
  obtain ⟨t,e0,x,_⟩:=jM0 (n:=1) (L:=LL) mC0 j
  obtain ⟨q,B,z,_⟩:=jM0 (n:=1) (L:=LL) mC0 g
  obtain ⟨m,v,u,o⟩:=gJ2 p f l
  exact ⟨(t,q,m),(x.append z).append v,u,o⟩
end
end
end Go.Proofs.YtklapbhlhjdijaaGreatDoor
