/-
  A part of the proof: what the program's functions hand back,as theorems. No condition but those that each theorem names.
-/
import Derived.Test.YtklapbhlhjdijaaGreatDoorTc
import Derived.Test.YtklapbhlhjdijaaGreatDoorTa
import Derived.Test.YtklapbhlhjdijaaGreatDoorTb
import Derived.Test.YtklapbhlhjdijaaGreatDoorEve
import Derived.Test.YtklapbhlhjdijaaGreatDoorExc
set_option linter.unusedSimpArgs false
set_option linter.unusedVariables false
namespace Go.Proofs.YtklapbhlhjdijaaGreatDoor
open Go Go.RowKit Go.Ev Go.Dv
noncomputable section
attribute [local push_cast] eq_self iff_self
set_option maxRecDepth 100000
variable (G:Nat×Nat)
structure Cf where
 t:Tm
 v:List Int
 st:List (List Tm)
 n:Int
 key:Int
def cfC (f:Cf):List Z6:=tmC f.t++[ivV f.v,trV f.st,.int .i64 f.n,.int .i64 f.key]
def cfV (f:Cf):Z6:=.agg ⟨cfC f⟩
structure SmF (f:Cf):Prop where
 t:smT f.t=true
 v:f.v.length<100000000000
 st:lM0 f.st
def dW (c:Co)(f:Cf):Zb:=decide (f.v.length=c.v.length∧(f.st.length:Int)=c.s)&&kQ c.v.length c.s c.p.length false f.t
theorem lW0 (c:Co)(f:Cf)(t:SmC c)(r:SmF f):jG (pp G) H0 43 [coV c,cfV f] (.bool (dW c f)):=by
 obtain ⟨⟨k,a,b,s,e,l⟩,v,g,n,d⟩:=f
 obtain ⟨z,x,y⟩:=t
 obtain ⟨q,w,o⟩:=r
 have m:=o.1
 dsimp only at q w m
 unfold coV coC cfV cfC ivV trV kV
 rw[bH]
 simp only[List.cons_append,List.nil_append]
 refine cE G fir43 Z7 (zH3 ..) λu=>?_;rw[rE2]
 by_cases j:(v.length:Int)=c.v.length
 ·by_cases i:(g.length:Int)=c.s
  ·refine S2 j i ?_
   refine dK (lP1 G c.v.length c.s c.p.length (.mk k a b s e l) q) ?_
   refine S0 ?_
   rw[show dW c ⟨.mk k a b s e l,v,g,n,d⟩=kQ c.v.length c.s c.p.length false (.mk k a b s e l) by rw[dW,decide_eq_true ⟨by show v.length=c.v.length;omega,i⟩,Bool.true_and]]
   exact .id rfl
  ·refine S2 j i ?_
   rw[show dW c ⟨.mk k a b s e l,v,g,n,d⟩=false by rw[dW,decide_eq_false (λh=>i h.2),Bool.false_and]]
   exact .id rfl
 ·refine S1 j ?_
  rw[show dW c ⟨.mk k a b s e l,v,g,n,d⟩=false by rw[dW,decide_eq_false (λh=>j (by have:=h.1;dsimp only at this;omega)),Bool.false_and]]
  exact .id rfl
theorem mN0 (l:List Int)(a:l.length<100000000000){σ:jA}(d:σ.lo=1)(b:1≤σ.next):jI (pp G) H0 40 [ivV l] σ (IvR σ l):=by
 refine jI.fir4 (q:=qq) (jS G) fir40 Z7 rfl rfl (zD1 ..) (by first|exact Nat.le_trans (show NGG≤1 by decide) Z0) ?_;rw[rG2]
 refine S0 ?_
 refine jD.func (cap:=[]) (tP2 G l a d b) ?_
 rintro _ c h
 refine S0 ?_
 exact h
theorem mF1 (l:List Int)(h:l.length<100000000000):jG (pp G) H0 40 [ivV l] (ivV l):=by
 refine jG.cut ((mN0 G l h (σ:=H0) rfl (Z3 _)).mono ?_)
 rintro _ σ' ⟨g,⟨rfl,rfl⟩|⟨rfl,a,b⟩⟩
 ·exact .nil (size:=1) rfl Z1
 ·unfold ivV
  have c:=g.next
  refine .sl (by first|omega|trivial) a (size:=1) rfl Z1 (by rw[dD];omega) (.inl ⟨by simp only[UC];omega,Z3 _⟩) ?_
  rw[List.drop_zero,List.take_of_length_le (by rw[dD];omega)]
  exact .ids (uJ0 _ _)
def cfZ:Cf:=⟨zT,[],[],0,0⟩
def cD0 (c:Co):Cf:=if chkC c=true then ⟨jF (c.p.getD c.m.toNat zT),c.v,List.replicate c.s.toNat [],0,0⟩ else cfZ
theorem sF2 (j:Nat){n:Nat}{σ:jA}:FzL (pp G).P n σ (List.replicate j [Value.slice none 0 0]).flatten (trs (List.replicate j [])):=by
 induction j with
 | zero=>exact .nil
 | succ j h=>exact .cons (.nil (size:=9) rfl Z1) h
theorem wC3 (c:Co)(w:SmC c):jG (pp G) H0 18 [coV c] (cfV (cD0 c)):=by
 have q:=w
 obtain ⟨L,D,z⟩:=w
 have h:=bY0 G c q
 cases e:chkC c with
 | false=>
  rw[show cD0 c=cfZ by rw[cD0,e];rfl]
  rw[e] at h
  unfold coV coC ivV kV at h ⊢
  refine cE G dW3 Z7 (iZ0 ..) λr=>?_;rw[lF1]
  refine S0 ?_
  refine dK (h) ?_
  refine S0 ?_
  exact .agg (.cons (.id rfl) (.cons (.id rfl) (.cons (.id rfl) (.cons (.id rfl) (.cons (.id rfl) (.cons (.id rfl) (.cons (.id rfl) (.cons (.nil (size:=4) rfl Z1) (.cons (.nil (size:=9) rfl Z1) (.cons (.nil (size:=1) rfl Z1) (.cons (.nil (size:=1) rfl Z1) (.cons (.id rfl) (.cons (.id rfl) .nil)))))))))))))
 | true=>
  rw[show cD0 c=⟨jF (c.p.getD c.m.toNat zT),c.v,List.replicate c.s.toNat [],0,0⟩ by rw[cD0,e];rfl]
  rw[e] at h
  have y:=e
  rw[chkC,Z5,decide_eq_true_eq] at y
  obtain ⟨⟨P,F,I,N,H,E⟩,u⟩:=y
  obtain ⟨i,hi⟩:∃ i:Nat,c.m=i:=⟨c.m.toNat,Z0⟩
  obtain ⟨j,A⟩:∃ j:Nat,c.s=j:=⟨c.s.toNat,Z0⟩
  obtain ⟨x,k⟩:=jU (l:=c.p) (i:=i) Z0
  have B:=gA k
  have t:i*9+9≤c.p.length*9:=Z0
  have f:(i:Int)<c.p.length:=Z0
  have d:i<c.p.length:=Z0
  have o:=kK z x (List.mem_of_getElem? k)
  have n:c.p.getD c.m.toNat zT=x:=by rw[hi,Z4,List.getD_eq_getElem?_getD,k];rfl
  rw[n]
  have a:=mF1 G c.v Z0
  have g:=mP0 G x o
  generalize jF x=x' at *
  unfold coV coC ivV kV at h ⊢
  unfold ivV at a
  rw[hi,A] at h ⊢
  refine cE G dW3 Z7 (iZ0 ..) λr=>?_;rw[lF1]
  refine S0 ?_
  refine dK (h) ?_
  have b:(j:Int)≤10:=Z0
  refine S6 f @Z4 B t d b ?_
  obtain ⟨C,M,b',s',J,K⟩:=x'
  repeat' apply And.intro
  all_goals
   refine dK (g) ?_
   push_cast(disch:=first|omega|(apply id;push_cast;try omega))[Z4,b]
  all_goals repeat' apply And.intro
  all_goals
   refine dK (a) ?_
   push_cast(disch:=first|omega|(apply id;push_cast;try omega))[Z4,b]
  all_goals
   refine .agg (.cons (.id rfl) (.cons (.id rfl) (.cons (.id rfl) (.cons (.id rfl) (.cons (.id rfl) (.cons (.id rfl) (.cons (.id rfl) (.cons (.row (.ids (eQ _ Z1 _))) (.cons (.row (.ids (bK _ Z1 _))) (.cons (.row (.ids (uJ0 _ _))) (.cons ?_ (.cons (.id rfl) (.cons (.id rfl) .nil)))))))))))))
   unfold trV
   rw[List.length_replicate]
   refine .sl (full:=(List.replicate j [Value.slice none 0 0]).flatten) (m:=false) ?_ ?_ (size:=1) rfl Z1 ?_ (.inl ⟨by simp only[UC];omega,Z3 _⟩) ?_
   ·first|omega|(exact Z3 _)|(exact Z1)|push_cast(disch:=first|omega|(apply id;push_cast;try omega))
   ·push_cast(disch:=first|omega|(apply id;push_cast;try omega));first|done|rfl
   ·simp
   ·rw[List.drop_zero,List.take_of_length_le (by simp)]
    exact sF2 G j
def VrR (σ':jA)(lo:Nat)(l:List Int)(v:Z6):Prop:=(l=[]∧v=.slice none 0 0)∨∃ b,v=.slice (some ⟨b,0,none⟩) l.length l.length∧cells σ' b=some (ivs l,eI,false)∧lo≤b∧b<σ'.next
def AgR (σ:jA)(f:Cf)(v:Z6)(σ':jA):Prop:=∃ cs vv m,v=.agg ⟨cs++[vv,trV f.st,.int .i64 f.n,.int .i64 f.key]⟩∧NTs σ' σ.next m (jF f.t) cs∧VrR σ' m f.v vv∧m≤σ'.next∧jC σ σ' (λ_=>False)
theorem uT3 {c:List Z6}(h:c.length=9)(p q r t:Z6):(c++[p,q,r,t])[9]?=some p:=by rw[List.getElem?_append_right Z0,h];rfl
theorem mH3 {c:List Z6}(h:c.length=9)(p q r t:Z6):(c++[p,q,r,t])[10]?=some q:=by rw[List.getElem?_append_right Z0,h];rfl
theorem mE3 {c:List Z6}(h:c.length=9)(l:List Z6):(c++l).take 9=c:=by rw[← h,List.take_left]
theorem mG3 {c:List Z6}(h:c.length=9)(p q r t:Z6):(c++[p,q,r,t]).take 10=c++[p]:=by rw[List.take_append,List.take_of_length_le Z0,h];rfl
theorem mJ3 {c:List Z6}(h:c.length=9)(p q r t:Z6):(c++[p,q,r,t]).drop 10=[q,r,t]:=by rw[List.drop_append,List.drop_of_length_le Z0,h];rfl
theorem mI3 {c:List Z6}(h:c.length=9)(p q r t:Z6):(c++[p,q,r,t]).drop 11=[r,t]:=by rw[List.drop_append,List.drop_of_length_le Z0,h];rfl
theorem sW0 {c:List Z6}(h:c.length=9)(p q r t:Z6):(c++[p,q,r,t]).length=13:=by rw[List.length_append,h];rfl
theorem dB2 (c:List Z6)(p:Z6)(l:List Z6):c++[p]++l=c++p :: l:=by simp
theorem dA2 (c:List Z6)(p q:Z6)(l:List Z6):c++[p,q]++l=c++p :: q :: l:=by simp
theorem nD2 {c:List Z6}(h:c.length=9)(p q r t:Z6):(c++[p,q,r,t]).take 13=c++[p,q,r,t]:=List.take_of_length_le (by rw[sW0 h];exact Z3 _)
theorem qT2 {c:List Z6}(h:c.length=9)(p q r t:Z6):(c++[p,q,r,t]).drop 13=[]:=List.drop_of_length_le (by rw[sW0 h];exact Z3 _)
theorem uS2 (f:Cf)(hf:SmF f)(hR:RS f.t){σ:jA}(hl:σ.lo=1)(hn:1≤σ.next):jI (pp G) H0 44 [cfV f] σ (AgR σ f):=by
 obtain ⟨⟨k,a,b,s,e,l⟩,v,d,n,c⟩:=f
 obtain ⟨ft,fv,J⟩:=hf
 dsimp only at ft fv J hR
 have Y:=bA3 G hR ft
 unfold AgR
 dsimp only
 unfold cfV cfC ivV trV
 rw[bH]
 simp only[List.cons_append,List.nil_append]
 refine jI.fir4 (q:=qq) (jS G) fir44 Z7 rfl rfl (zP2 ..) (by first|exact Nat.le_trans (show NGG≤1 by decide) Z0) ?_;rw[rD2]
 refine S0 ?_
 refine jD.func (cap:=[]) (Y _ (by simp only[jP];exact hl) (by simp only[jB];omega)) ?_
 rintro _ h ⟨p,rfl,I,g⟩
 have H:h.lo=1:=by rw[g.lo];simp only[jP];exact hl
 have M:=g.next
 simp only[jB] at M I
 have j:=I.len
 have E:=I.one
 have N:p.take 9=p:=List.take_of_length_le Z0
 have T:p.drop 9=[]:=List.drop_of_length_le Z0
 have R:(Value.agg ⟨p⟩).cells.toList=p:=rfl
 have c0:cells h σ.next=some ([.int .i64 k,.int .i64 a,.int .i64 b,.string (Tx s),.int .i64 e.k,.int .i64 e.n,.string (Tx e.s),Rw false eE e.l.length (gN e.l),Rw false etm l.length (jX l),Rw false eI v.length (ivs v),Rw false eR d.length (trs d),.int .i64 n,.int .i64 c],42,false):=g.cellsE (by push_cast(disch:=first|omega|(apply id;push_cast;try omega));first|done|rfl) (by simp only[jB];omega) id
 have c1:cells h (σ.next+1)=some ([.int .i64 0,.int .i64 0,.int .i64 0,.string (Tx []),.int .i64 0,.int .i64 0,.string (Tx []),.slice none 0 0,.slice none 0 0,.slice none 0 0,.slice none 0 0,.int .i64 0,.int .i64 0],42,false):=g.cellsE (by push_cast(disch:=first|omega|(apply id;push_cast;try omega));first|done|rfl) (by simp only[jB];omega) id
 have o:=uT3 j
 have r:=mH3 j
 have A:=mE3 j
 have u:=mG3 j
 have B:=mJ3 j
 have y:=mI3 j
 have i:=sW0 j
 have w:=nD2 j
 have z:=qT2 j
 push_cast(disch:=first|omega|(apply id;push_cast;try omega))[j,E,N,T,R,H,c0,c1,o]
 refine jD.func (cap:=[]) (mN0 G v fv (by simp only[dT];exact H) (by simp only[jN];omega)) ?_
 rintro _ F ⟨C,hv⟩
 have x:F.lo=1:=by rw[C.lo];simp only[dT];exact H
 have V:=C.next
 simp only[jN] at V
 have K:cells F σ.next=some (p++[Rw false eI v.length (ivs v),Rw false eR d.length (trs d),.int .i64 n,.int .i64 c],42,false):=C.cellsE (by push_cast(disch:=first|omega|(apply id;push_cast;try omega));first|done|rfl) (by simp only[jN];omega) id
 have L:cells F (σ.next+1)=some ([.int .i64 0,.int .i64 0,.int .i64 0,.string (Tx []),.int .i64 0,.int .i64 0,.string (Tx []),.slice none 0 0,.slice none 0 0,.slice none 0 0,.slice none 0 0,.int .i64 0,.int .i64 0],42,false):=C.cellsE (by push_cast(disch:=first|omega|(apply id;push_cast;try omega))[c1];first|done|rfl) (by simp only[jN];omega) id
 have D:=gQ3 G d J
 unfold trV at D
 have hL0:=i (Rw false eI v.length (ivs v)) (Rw false eR d.length (trs d)) (.int .i64 n) (.int .i64 c)
 rcases hv with ⟨Z,rfl⟩|⟨rfl,c3,X⟩
 ·have P:=i (.slice none 0 0) (Rw false eR d.length (trs d)) (.int .i64 n) (.int .i64 c)
  have m:(p++[.slice none 0 0,Rw false eR d.length (trs d),.int .i64 n,.int .i64 c]).all one=true:=by rw[List.all_append,E];rfl
  push_cast(disch:=first|omega|(apply id;push_cast;try omega))[x,K,L,j,o,r,A,u,B,y,i,dB2,dA2,w,z,m]
  refine dK (D) ?_
  push_cast(disch:=first|omega|(apply id;push_cast;try omega))[x,K,L,j,o,r,A,u,B,y,i,dB2,dA2,w,z,m]
  refine ⟨p,_,h.next,rfl,NTs.mono (lo':=σ.next) (hi':=h.next) (NTs.up I ?_ (Z3 _)) Z0 (Z3 _),.inl ⟨Z,rfl⟩,?_,?_⟩
  ·(repeat (first|assumption|exact jC.refl _ _|refine jC.put'' ?_ _ _ (by intro _;first|(exfalso;omega)|(show _∨_;omega))|refine jC.add' ?_ _|refine jC.tr ?_ C|refine jC.tr ?_ g))
  ·first|omega|(simp only[jN];omega)
  ·(repeat (first|assumption|exact jC.refl _ _|refine jC.put'' ?_ _ _ (by intro _;first|(exfalso;omega)|(show _∨_;omega))|refine jC.add' ?_ _|refine jC.tr ?_ C|refine jC.tr ?_ g))
 ·have P:=i (.slice (some ⟨h.next,0,none⟩) v.length v.length) (Rw false eR d.length (trs d)) (.int .i64 n) (.int .i64 c)
  have m:(p++[.slice (some ⟨h.next,0,none⟩) v.length v.length,Rw false eR d.length (trs d),.int .i64 n,.int .i64 c]).all one=true:=by rw[List.all_append,E];rfl
  push_cast(disch:=first|omega|(apply id;push_cast;try omega))[x,K,L,j,o,r,A,u,B,y,i,dB2,dA2,w,z,m]
  refine dK (D) ?_
  push_cast(disch:=first|omega|(apply id;push_cast;try omega))[x,K,L,j,o,r,A,u,B,y,i,dB2,dA2,w,z,m]
  simp only[jN] at c3 X
  refine ⟨p,_,h.next,rfl,NTs.mono (lo':=σ.next) (hi':=h.next) (NTs.up I ?_ (Z3 _)) Z0 (Z3 _),.inr ⟨h.next,rfl,?_,Z3 _,?_⟩,?_,?_⟩
  ·(repeat (first|assumption|exact jC.refl _ _|refine jC.put'' ?_ _ _ (by intro _;first|(exfalso;omega)|(show _∨_;omega))|refine jC.add' ?_ _|refine jC.tr ?_ C|refine jC.tr ?_ g))
  ·push_cast(disch:=first|omega|(apply id;push_cast;try omega))[c3];first|done|rfl
  ·first|omega|(simp only[jN];omega)
  ·first|omega|(simp only[jN];omega)
  ·(repeat (first|assumption|exact jC.refl _ _|refine jC.put'' ?_ _ _ (by intro _;first|(exfalso;omega)|(show _∨_;omega))|refine jC.add' ?_ _|refine jC.tr ?_ C|refine jC.tr ?_ g))
end
end Go.Proofs.YtklapbhlhjdijaaGreatDoor
namespace Go.Proofs.YtklapbhlhjdijaaGreatDoor
open Go Go.RowKit Go.Ev Go.Dv
noncomputable section
attribute [local push_cast] eq_self iff_self
variable (G:Nat×Nat)
end
end Go.Proofs.YtklapbhlhjdijaaGreatDoor
namespace Go.Proofs.YtklapbhlhjdijaaGreatDoor
open Go Go.RowKit Go.Ev Go.Dv
noncomputable section
attribute [local push_cast] eq_self iff_self
set_option maxRecDepth 100000
variable (G:Nat×Nat)
end
end Go.Proofs.YtklapbhlhjdijaaGreatDoor
namespace Go.Dv
open Go Go.RowKit Go.Ev
noncomputable section
attribute [local push_cast] eq_self iff_self
theorem uW2 {p:Par}{ro:Z8 Nat}{b c:Code}{s:S}{R l:jH→S→Prop}(h:WPin p ro b c s R)(u:∀ e s',R e s'→l e s'):WPin p ro b c s l:=
 λa d q x w j F n Q r f o v=>h a d q x w j F n Q r f o λe k i g t m=>v e k i g t (u e k m)
def bC1 (l:Nat)(B:S→Prop)(R:jH→S→Prop)(e:jH)(s:S):Prop:=match e with | .goto k=>k=l∧B s|e=>R e s
theorem kR_Gg {l k:Nat}{B:S→Prop}{R:jH→S→Prop}{s:S}:@kR ⟨bC1 l B R⟩ (.goto k) s=(k=l∧B s):=propext Iff.rfl
theorem kR_Gr {l:Nat}{B:S→Prop}{R:jH→S→Prop}{s:S}:@kR ⟨bC1 l B R⟩ .ret s=R .ret s:=propext Iff.rfl
attribute [push_cast] kR_Gg kR_Gr
theorem WinD.start {p:Par}{q:Q}(jS:uW0 p){ro:Z8 Nat}{b c a:Code}{l:Nat}{m:IR}{D:S}{R:jH→S→Prop}{B:S→Prop}(w:findLabel b l=some a)(A:comp p.P c=m)(o:eA p.NG m=true)
  (h:dc3 p q ro m D (@kR ⟨bC1 l B R⟩)) (y:∀ s,B s→WinD p q.H ro b a s R):WinD p q.H ro b c D R:=by
 intro g s u j E d
 rw[jU0] at h
 have C:=jT0 m o u j E d h
 refine gJ0 jS A (bU _ _ _ _ (λe z n=>?_) C)
 obtain ⟨g',D',f,x,r⟩:=n
 change bC1 l B R e D' at f
 cases e with
 | goto k=>
  obtain ⟨rfl,t⟩:=f
  unfold gX0
  dsimp only
  rw[w]
  have v:=y D' t g' z (x.ok u) (by rw[x.lo];exact j) r (λl e=>Nat.lt_of_lt_of_le (d l e) x.nn)
  rw[lO1 x d] at v
  exact uW2 v λe s' n=>RA.of x n
 | normal=>exact ⟨g',D',f,x,r⟩
 | exit i=>exact ⟨g',D',f,x,r⟩
 | ret=>exact ⟨g',D',f,x,r⟩
theorem WinD.round {p:Par}{q:Q}(jS:uW0 p){ro:Z8 Nat}{b c:Code}{l:Nat}{a:IR}{R:jH→S→Prop}(f:findLabel b l=some c)(k:comp p.P c=a)(d:eA p.NG a=true)(I:Nat→S→Prop)
  (h:∀ n s,I n s→dc3 p q ro a s (@kR ⟨bC1 l (λs'=>∃ m,m<n∧I m s') R⟩)):∀ n s,I n s→WinD p q.H ro b c s R:=by
 intro n
 induction n using Nat.strongRecOn with
 | ind n j=>exact λs g=>WinD.start jS f k d (h n s g) λs' ⟨m,i,e⟩=>j m i s' e
end
end Go.Dv
namespace Go.Proofs.YtklapbhlhjdijaaGreatDoor
open Go Go.RowKit Go.Ev Go.Dv
noncomputable section
attribute [local push_cast] eq_self iff_self
set_option maxRecDepth 100000
variable (G:Nat×Nat)
def blkR:Tm→List Int→List Int→List Int→List Int
 | x,[],r,k=>if x.k=7 then r else k
 | x,i :: p,r,k=>blkR (atT x [i]) p (r++[i]) (if x.k=7 then r else k)
structure AtP (σ:jA)(b off lo hi:Nat)(full:List Z6)(ty:Nat)(t:Tm)(r:List Int)(bq oq lq hq:Nat)(fq:List Z6)(tq:Nat)(x:Tm)(cx:List Z6):Prop where
 l:LocT σ bq oq lq hq fq tq x cx
 x:x=atT t r
 a:dB t r
 w:Wr Tryz.prog lo (λk=>k≠b∧(k<lo∨hi≤k)) σ b off full ty t r bq oq lq hq fq tq
 pos:0<lo
 bi:bq=b∨(lo≤bq∧bq<hi)
 hh:hq≤hi
 lo:lo≤lq
theorem AtP.root {σ:jA}{b off lo hi:Nat}{full:List Z6}{ty:Nat}{t:Tm}{c:List Z6}(h:LocT σ b off lo hi full ty t c)(a:1≤lo):AtP σ b off lo hi full ty t [] b off lo hi full ty t c:=
 ⟨h,by cases t;rfl,.nil,Wr.self (lo:=lo) (hi:=hi),a,.inl rfl,Z3 _,Z3 _⟩
theorem AtP.k {σ:jA}{b off lo hi:Nat}{full:List Z6}{ty:Nat}{t:Tm}{r:List Int}{i c n g:Nat}{e:List Z6}{m:Nat}{x:Tm}{d:List Z6}(h:AtP σ b off lo hi full ty t r i c n g e m x d):e[c]?=some (.int .i64 x.k)∧∀ j v,d[j]?=some v→e[c+j]?=some v:=by
 have f:∀ j v,d[j]?=some v→e[c+j]?=some v:=λj v a=>by
  rw[← h.l.le,List.getElem?_take,List.getElem?_drop] at a
  split at a
  ·exact a
  ·cases a
 refine ⟨?_,f⟩
 have h0:d[0]?=some (.int .i64 x.k):=by
  cases h.l.lt with
  | leaf=>exact zH0 _
  | blk=>rfl
  | seq=>rfl
  | par=>rfl
 exact f 0 _ h0
theorem uU0:∀ (t:Tm) (p q:List Int),dB t p→atT t (p++q)=atT (atT t p) q
 | t,[],q,_=>by cases t;rfl
 | .mk k a b s e l,i :: p,q,h=>by
  cases h with
  | blk h=>exact uU0 _ p q h
  | seq h=>exact uU0 _ p q h
  | parl h=>exact uU0 _ p q h
  | parr h=>exact uU0 _ p q h
theorem dB.app:∀ {t:Tm} {p q:List Int},dB t p→dB (atT t p) q→dB t (p++q)
 | t,[],q,_,h=>by cases t;exact h
 | _,_ :: _,_,.blk h,h2=>.blk (h.app h2)
 | _,_ :: _,_,.seq h,h2=>.seq (h.app h2)
 | _,_ :: _,_,.parl h,h2=>.parl (h.app h2)
 | _,_ :: _,_,.parr h,h2=>.parr (h.app h2)
def nN2 (h e b f d ok a c:Nat):Prop:=((h=d∧e=ok)∨(a≤h∧h<c))∧a≤b∧f≤c
def PlR (σ:jA)(b off lo hi:Nat)(full:List Z6)(ty:Nat)(t:Tm)(r k:List Int)(l s:Z6):Prop:=
 ∃ h a g e q m x j c ok d f p n i o,l=.pointer (some ⟨h,a,none⟩)∧s=.pointer (some ⟨c,ok,none⟩)∧AtP σ b off lo hi full ty t r h a g e q m x j∧AtP σ b off lo hi full ty t k c ok d f p n i o∧nN2 h a g e c ok d f
inductive J85 (σ:jA)(b off lo hi:Nat)(full:List Z6)(ty:Nat)(t:Tm)(p:List Int)(K:List Int):Nat→S→Prop
 | mk (q r k:List Int) (f:Zb) (vh vk:Z6) {x0 x2 x3 x6 x7 x8 x9 xA xB xC xD xE xF xG xH xI xJ xK xL xM xN xO xP xQ xR xS:Z6} (hp:r++q=p) (hk:blkR (atT t r) q r k=K) (ha:dB (atT t r) q) (h:PlR σ b off lo hi full ty t r k vh vk) :
  J85 σ b off lo hi full ty t p K q.length ⟨(F29 x0 (Rw f eI q.length (ivs q)) x2 x3 vh vk x6 x7 x8 x9 xA xB xC xD xE xF xG xH xI xJ xK xL xM xN xO xP xQ xR xS),[],σ⟩
theorem PlR.step {σ:jA}{b off lo hi:Nat}{full:List Z6}{ty:Nat}{t:Tm}{r k:List Int}{i:Int}{q:List Int}{C D J B:Nat}{fq:List Z6}{Z:Nat}{x:Tm}{E:List Z6}{j ok n f:Nat}{I:List Z6}{F:Nat}{A:Tm}{H:List Z6}
  (h:AtP σ b off lo hi full ty t r C D J B fq Z x E) (h2:AtP σ b off lo hi full ty t k j ok n f I F A H) (hb:nN2 C D J B j ok n f) (ha:dB (atT t r) (i :: q)) :
  ∃ (g m:Nat),E[8]?=some (.slice (some ⟨g,0,none⟩) m m)∧0≤i∧i<m∧PlR σ b off lo hi full ty t (r++[i]) k (.pointer (some ⟨g,i.toNat*9,none⟩)) (.pointer (some ⟨j,ok,none⟩))∧dB (atT t (r++[i])) q:=by
 have e:=ha
 rw[← h.x] at e
 obtain ⟨g,m,s,z,c,y,Y,X,N,R,e4,e5,T,e7,e8,V,o,v,u,p⟩:=h.l.step (P:=Tryz.prog) rfl h.pos (O:=λk=>k≠b∧(k<lo∨hi≤k)) (λk f=>by have L:=h.bi;have K:=h.hh;have M:=h.lo;obtain ⟨g4,g5⟩:=f;exact ⟨Z0,Z0⟩) h.lo e
 have d:atT t (r++[i])=y:=by rw[uU0 _ _ _ h.a,← h.x,e5]
 refine ⟨g,m,X,N,R,⟨g,_,s,z,c,etm,y,Y,j,ok,n,f,I,F,A,H,rfl,rfl,⟨e7,d.symm,h.a.app (by rw[← h.x];exact T),?_,h.pos,.inr ⟨by have:=h.lo;omega,by have:=h.hh;omega⟩,by have:=h.hh;omega,by have:=h.lo;omega⟩,h2,?_⟩,by rw[d];exact p⟩
 ·exact Wr.trans h.a h.w (by rw[← h.x];exact u) (.inr ⟨V,o⟩) e8 v
 ·obtain ⟨L,K,M⟩:=hb
  exact ⟨.inr ⟨Z0,Z0⟩,Z0,Z0⟩
theorem gA0 {σ:jA}{b off lo hi:Nat}{full:List Z6}{ty:Nat}{t:Tm}{p K:List Int}(hl:σ.lo=1)(hn:1≤σ.next)(q r k:List Int)(f:Zb)(a d:Z6){x0 x2 x3 x6 x7 x8 x9 Y T I A F j J P V v C z D w E s H M L:Z6}(u:p.length<1000000000)(g:r++q=p)(ha:dB (atT t r) q)(h:PlR σ b off lo hi full ty t r k a d)
  (e:match q with|[]=>k=K|i :: q'=>blkR (atT t (r++[i])) q' (r++[i]) k=K) (B:S→Prop) (hB:∀ s',(∃ m,m<q.length∧J85 σ b off lo hi full ty t p K m s')→B s') (R:Z6→jA→Prop) (hR:∀ a d,PlR σ b off lo hi full ty t p K a d→R (.tuple ⟨[a,d]⟩) σ) :
  dc3 (pp G) qq none fU0 ⟨(F29 x0 (Rw f eI q.length (ivs q)) x2 x3 a d x6 x7 x8 x9 Y T I A F j J P V v C z D w E s H M L),[],σ⟩ (@kR ⟨bC1 0 B (jO Tryz.prog [(.tmp 4),(.tmp 5)] R)⟩):=by
 rw[zY1]
 cases q with
 | nil=>
  rw[List.append_nil] at g
  subst g
  have e:k=K:=e
  subst e
  push_cast(disch:=first|omega|(apply id;push_cast;try omega))[List.length_nil]
  exact hR a d h
 | cons i q=>
  have e:blkR (atT t (r++[i])) q (r++[i]) k=K:=e
  obtain ⟨bq,oq,lq,hq,fq,tq,x,cx,bk,ok,lk,hhk,fk,tk,xk,ck,rfl,rfl,c,h2,hb⟩:=h
  obtain ⟨b1,m,e1,e2,e3,e4,e5⟩:=PlR.step c h2 hb ha
  have hg:=c.k.2 8 _ e1
  have Z:=c.l.lc
  have N:σ.lo≤bq:=by have:=c.lo;have:=c.l.lp;have:=c.l.lt.le;omega
  have hql:q.length<1000000000:=by rw[← g,List.length_append,List.length_cons] at u;omega
  have X:¬ ((q.length:Int)+1=0):=Z0
  have n:(ivs (i :: q))[0]?=some (.int .i64 i):=rfl
  have y:(ivs (i :: q)).length=(q.length+1)*1:=by rw[dD];simp
  have o:(ivs (i :: q)).drop 1=ivs q:=rfl
  push_cast(disch:=first|omega|(apply id;push_cast;try omega))[List.length_cons,X,Z,N,hg,n,y,o,e2,e3]
  exact hB _ ⟨q.length,by simp,J85.mk q (r++[i]) k f _ _ (by rw[List.append_assoc];exact g) e e5 e4⟩
theorem PlR.blk {σ:jA}{b off lo hi:Nat}{full:List Z6}{ty:Nat}{t:Tm}{r:List Int}{a c d i:Nat}{e:List Z6}{f:Nat}{x:Tm}{g:List Z6}(h:AtP σ b off lo hi full ty t r a c d i e f x g):PlR σ b off lo hi full ty t r r (.pointer (some ⟨a,c,none⟩)) (.pointer (some ⟨a,c,none⟩)):=
 ⟨a,c,d,i,e,f,x,g,a,c,d,i,e,f,x,g,rfl,rfl,h,h,.inl ⟨rfl,rfl⟩,Z3 _,Z3 _⟩
theorem sU2 {σ:jA}{b off lo hi:Nat}{full:List Z6}{ty:Nat}{t:Tm}{c:List Z6}(A:LocT σ b off lo hi full ty t c)(J:1≤lo)(D:σ.lo=1)(p:List Int)(f:Zb)(y:p.length<1000000000)(F:dB t p) :
  jI (pp G) H0 85 [.pointer (some ⟨b,off,none⟩),Rw f eI p.length (ivs p)] σ (λv σ'=>σ'=σ∧∃ j u,v=.tuple ⟨[j,u]⟩∧PlR σ b off lo hi full ty t p (blkR t p [] []) j u):=by
 have E:1≤σ.next:=by have:=A.ln;have:=A.lp;have:=A.lt.le;omega
 have h0:=AtP.root A J
 refine jI.fir4 (q:=qq) (jS G) fir85 Z7 rfl rfl (yG0 ..) (by first|exact Nat.le_trans (show NGG≤1 by decide) Z0) ?_;rw[pA2]
 refine S0 ?_
 refine WinD.start (q:=qq) (jS G) bN3 dE2 Z7 (B:=λs=>∃ n,J85 σ b off lo hi full ty t p (blkR t p [] []) n s) ?_ (λs ⟨n,H⟩=>WinD.round (q:=qq) (jS G) bN3 dD2 Z7 (J85 σ b off lo hi full ty t p (blkR t p [] [])) ?_ n s H)
 ·rw[iT1]
  have g:=h0.k.1
  have o:=h0.l.lc
  have d:σ.lo≤b:=by have:=A.lp;have:=A.lt.le;omega
  have C:dB (atT t []) p:=by cases t;exact F
  by_cases z:t.k=7
  ·refine S4 o d g z ?_
   refine gA0 G (σ:=σ) (b:=b) (off:=off) (lo:=lo) (hi:=hi) (full:=full) (ty:=ty) (t:=t) (K:=blkR t p [] []) D E p [] [] f _ _ y rfl C (PlR.blk h0) ?_ _ (λs' ⟨m,_,h⟩=>⟨m,h⟩) _ (λj u h=>⟨rfl,j,u,rfl,h⟩)
   cases p with
   | nil=>simp[blkR]
   | cons i q=>simp[blkR]
  ·refine S4 o d g z ?_
   refine gA0 G (σ:=σ) (b:=b) (off:=off) (lo:=lo) (hi:=hi) (full:=full) (ty:=ty) (t:=t) (K:=blkR t p [] []) D E p [] [] f _ _ y rfl C (PlR.blk h0) ?_ _ (λs' ⟨m,_,h⟩=>⟨m,h⟩) _ (λj u h=>⟨rfl,j,u,rfl,h⟩)
   cases p with
   | nil=>simp[blkR]
   | cons i q=>simp[blkR]
 ·intro n s H
  cases H with|mk q r k f j u M w F h=>
  obtain ⟨L,T,lq,R,fq,X,x,V,bk,ok,N,I,fk,Y,P,Z,rfl,rfl,e,h2,hb⟩:=h
  rw[iS1]
  have g:=e.k.1
  have o:=e.l.lc
  have d:σ.lo≤L:=by have:=e.lo;have:=e.l.lp;have:=e.l.lt.le;omega
  by_cases z:x.k=7
  ·refine S4 o d g z ?_
   refine gA0 G (σ:=σ) (b:=b) (off:=off) (lo:=lo) (hi:=hi) (full:=full) (ty:=ty) (t:=t) (K:=blkR t p [] []) D E q r r f _ _ y M F (PlR.blk e) ?_ _ (λs' h=>h) _ (λj u h=>⟨rfl,j,u,rfl,h⟩)
   rw[← e.x] at w
   cases q with
   | nil=>rw[blkR,if_pos z] at w;exact w
   | cons i q=>rw[blkR,if_pos z,e.x,← uU0 _ _ _ e.a] at w;exact w
  ·refine S4 o d g z ?_
   refine gA0 G (σ:=σ) (b:=b) (off:=off) (lo:=lo) (hi:=hi) (full:=full) (ty:=ty) (t:=t) (K:=blkR t p [] []) D E q r k f _ _ y M F ⟨L,T,lq,R,fq,X,x,V,bk,ok,N,I,fk,Y,P,Z,rfl,rfl,e,h2,hb⟩ ?_ _ (λs' h=>h) _ (λj u h=>⟨rfl,j,u,rfl,h⟩)
   rw[← e.x] at w
   cases q with
   | nil=>rw[blkR,if_neg z] at w;exact w
   | cons i q=>rw[blkR,if_neg z,e.x,← uU0 _ _ _ e.a] at w;exact w
theorem uB2 {σ:jA}{bg lo m:Nat}{t:Tm}{cs:List Z6}{p q r s:Z6}(b:cells σ bg=some (cs++[p,q,r,s],42,false))(c:NTs σ lo m t cs)(e:0<bg)(h:bg<lo∨m≤bg)(d:m≤σ.next)(a:bg<σ.next):LocT σ bg 0 lo m (cs++[p,q,r,s]) 42 t cs:=
 ⟨b,by rw[sW0 c.len];decide,h,a,by rw[List.drop_zero,mE3 c.len],c,e,d⟩
mutual
theorem iH0 {P:Z9}{n:Nat}{σ σ':jA}(a:∀ i x,n≤i→cells σ i=some x→cells σ' i=some x):∀ {v d:Z6},FzV P n σ v d→FzV P n σ' v d
 | _,_,.id h=>.id h
 | _,_,.nil hs hp=>.nil hs hp
 | _,_,.sl hlo hc hs hp hle hcap hd=>.sl hlo (a _ _ hlo hc) hs hp hle hcap (dI a hd)
 | _,_,.ptr hlo hc hlt hd=>.ptr hlo (a _ _ hlo hc) hlt (dI a hd)
 | _,_,.row hd=>.row (dI a hd)
 | _,_,.agg hd=>.agg (dI a hd)
 | _,_,.tup hd=>.tup (dI a hd)
 | _,_,.fn hd=>.fn (dI a hd)
theorem dI {P:Z9}{n:Nat}{σ σ':jA}(a:∀ i x,n≤i→cells σ i=some x→cells σ' i=some x):∀ {v d:List Z6},FzL P n σ v d→FzL P n σ' v d
 | _,_,.nil=>.nil
 | _,_,.cons h hs=>.cons (iH0 a h) (dI a hs)
end
theorem jK3 {P:Z9}{n:Nat}{σ:jA}{b:Nat}{X:kU}(c:b<n){v d:List Z6}(h:FzL P n σ v d):FzL P n (σ.put b X) v d:=
 dI (λi x hi a=>(jR _ _ _ Z0).trans a) h
end
end Go.Proofs.YtklapbhlhjdijaaGreatDoor
namespace Go.Dv
open Go Go.RowKit Go.Ev
noncomputable section
attribute [local push_cast] eq_self iff_self
structure zR2 (P:Z9)(n:Nat)(σ σ1:jA):Prop where
 next:σ1.next=σ.next
 lo:σ1.lo=σ.lo
 nl:σ.lo≤n
 nn:n≤σ.next
 get:∀ i,(n≤i∧σ1.get i=none)∨(i<n∧σ1.get i=σ.get i)∨(σ.lo≤i∧i<n∧∃ cs cs1 e fr fr1 m,σ.get i=some ⟨.cells ⟨cs⟩ e fr,m⟩∧σ1.get i=some ⟨.cells ⟨cs1⟩ e fr1,m⟩∧FzL P n σ cs cs1∧cs1.all one=true)
theorem cY2 {P:Z9}{g:Gh}{n:Nat}{σ d h:jA}(a:Rel g σ h)(C:g.P=P)(k:zR2 P n σ d):Ext g σ h (g.all n σ) d h∧Rel (g.all n σ) d h:=by
 have q:=a.lon
 have e0:Ext0 g h σ.next (g.all n σ) h σ.next:=⟨rfl,Z3 _,λ_ _=>rfl,λ_ c=>.inl c,Z3 _,rfl,λ_ _ _=>rfl⟩
 have own:∀ i,bQ d i→bQ σ i∧i<n:=λi ⟨u,s,r⟩=>by
  rw[k.lo] at u
  rw[k.next] at s
  rcases k.get i with ⟨_,f⟩|⟨o,f⟩|⟨_,o,cs,v,e,z,w,m,x,_⟩
  ·rw[f] at r;cases r
  ·rw[f] at r;exact ⟨⟨u,s,r⟩,o⟩
  ·exact ⟨⟨u,s,by rw[x];rfl⟩,o⟩
 have low:∀ i,i<σ.lo→d.get i=σ.get i:=λi hi=>by
  have:=k.nl
  rcases k.get i with ⟨o,_⟩|⟨_,f⟩|⟨o,_⟩
  ·omega
  ·exact f
  ·omega
 refine ⟨⟨rfl,rfl,by rw[k.next];exact Z3 _,k.lo,Z3 _,rfl,λ_ _=>rfl,λ_ c=>.inl c,λb c=>?_,λ_ _ _=>rfl,λi hi=>.inl (own i hi).1⟩,?_⟩
 ·rcases c with c|⟨i,hi,_,e⟩
  ·exact .inl c
  ·exact .inr (.inr ⟨i,hi,e⟩)
 refine ⟨by rw[k.lo];exact a.pos,by rw[k.lo];exact a.lo,by rw[k.lo,k.next];exact q,a.hlo,λi hi=>?_,λi y hi l=>?_,λi hi=>?_,λi y hi l=>?_,λi hi=>a.dlt i (by rw[k.next] at hi;exact hi),λi hi=>a.dlo i (own i hi).1,λi j hi p e=>a.inj i j (own i hi).1 (own j p).1 e,λb c=>?_,a.wf⟩
 ·rw[k.lo] at hi
  rw[low i hi];exact a.base i hi
 ·rw[k.lo] at hi
  rw[low i hi] at l;exact a.baseF i y hi l
 ·rw[k.lo] at hi
  rw[low i hi];exact a.baseD i hi
 ·rw[k.next] at hi ⊢
  rw[k.lo]
  rcases k.get i with ⟨_,f⟩|⟨_,f⟩|⟨o,x,cs,v,e,z,w,m,D,B,E,t⟩
  ·rw[f] at l;cases l
  ·exact (a.obj i y hi (by rw[← f];exact l)).ext e0 rfl
  ·rw[B] at l
   cases l
   obtain ⟨vs,A,q1,q2,q3,H⟩:=a.obj i _ hi D
   exact ⟨vs,A,q1,q2,RVL.ext ⟨rfl,k.nn,λ_ _=>rfl,λ_ c=>c,Z3 _,rfl,λ_ _ _=>rfl⟩ _ _ (cR a C k.nl k.nn E q3),t⟩
 ·rcases c with c|⟨i,hi,F,rfl⟩
  ·exact ⟨(a.frz b c).1,λj p=>(a.frz b c).2 j (own j p).1⟩
  ·refine ⟨a.dlt i hi.2.1,λj p e=>?_⟩
   have:=a.inj j i (own j p).1 hi e
   have:=(own j p).2
   omega
theorem jI.drop {p:Par}{H:jA}{f:FuncId}{args:List Z6}{σ:jA}{R l:Z6→jA→Prop}(q:jI p H f args σ R)(h:∀ v σ',R v σ'→∃ n d a,l d a∧FzV p.P n σ' v d∧zR2 p.P n σ' a):jI p H f args σ l:=by
 intro g h0 vs k m z
 refine (q g h0 vs k m z).mono ?_
 rintro u A ⟨v,σ',r,g',x,b,j,_⟩
 obtain ⟨n,d,a,s,o,i⟩:=h v σ' r
 have c:=x.ok k
 obtain ⟨t,w⟩:=cY2 b c.1 i
 refine ⟨d,a,s,_,x.trans t,w,?_,λe=>by cases e⟩
 rw[i.next]
 exact RV.ext ⟨rfl,i.nn,λ_ _=>rfl,λ_ y=>y,Z3 _,rfl,λ_ _ _=>rfl⟩ _ _ (mZ0 b c.1 i.nl i.nn o j)
def qO2 (n b:Nat)(x:kU)(σ:jA):jA:=(cA (λi=>Nat.blt i n) σ).put b x
theorem cU1 {P:Z9}{n b:Nat}{σ:jA}{cs h:List Z6}{e:Zt}{m:Zb}(k:σ.lo≤b)(g:b<n)(a:n≤σ.next)(d:cells σ b=some (cs,e,m))(j:FzL P n σ cs h)(c:h.all one=true):zR2 P n σ (qO2 n b (O h e m) σ):=by
 obtain ⟨f,l⟩:=bT d
 refine ⟨rfl,rfl,Z0,a,λi=>?_⟩
 unfold qO2
 by_cases e:i=b
 ·subst e
  exact .inr (.inr ⟨k,g,cs,h,_,f,(0,0),m,l,gI _ _,j,c⟩)
 ·rw[jZ _ _ _ e,eP]
  by_cases hi:i<n
  ·rw[if_pos (by simpa using hi)];exact .inr (.inl ⟨hi,rfl⟩)
  ·rw[if_neg (by simpa using hi)];exact .inl ⟨Z0,rfl⟩
end
end Go.Dv
namespace Go.Proofs.YtklapbhlhjdijaaGreatDoor
open Go Go.RowKit Go.Ev Go.Dv
noncomputable section
attribute [local push_cast] eq_self iff_self
set_option maxRecDepth 100000
variable (G:Nat×Nat)
structure Dd where
 t:Tm
 v:List Int
 st:List (List Tm)
 key:Int
 en:List Zu
 ek:Int
 e:Int
def kM0 (c:Co)(f:Cf)(h:Int):Tm→Dd
 | .mk k a b s ex l=>
  if k=1 then ⟨.mk 14 f.key a s zE [],f.v,f.st,W (f.key+1),s,f.key,0⟩
  else ⟨zT,f.v,f.st,f.key,[],0,0⟩
def SOk (c:Co)(f:Cf)(h:Int):Tm→Prop
 | .mk k a b s ex l=>k=1
def stepT (c:Co)(f:Cf)(p:List Int)(h:Int):Tm:=if (atT f.t p).k=8 then putT f.t (blkR f.t p [] []) zT else putT f.t p (kM0 c f h (atT f.t p)).t
def StR (σ:jA)(bg lo:Nat)(T:Tm)(n:Int)(d:Dd)(v:Z6)(σ':jA):Prop:=
 v=.tuple ⟨[.agg ⟨[.string (Tx d.en),.int .i64 d.ek,.int .i64 0]⟩,.int .i64 d.e]⟩∧∃ a h,a.length=9∧cells σ' bg=some (a++[h,trV d.st,.int .i64 n,.int .i64 d.key],42,false)∧FzL Tryz.prog lo σ' a (tmC T)∧FzV Tryz.prog lo σ' h (ivV d.v)∧jC σ σ' (λk=>k=bg∨lo≤k)
theorem VrR.fz {P:Z9}(a:szT P eI=some 1){σ:jA}{m n:Nat}{l:List Int}{v:Z6}(h:VrR σ m l v)(d:n≤m)(g:l.length<100000000000):FzV P n σ v (ivV l):=by
 rcases h with ⟨rfl,rfl⟩|⟨b,rfl,c,f,e⟩
 ·exact .nil (size:=1) a Z1
 ·refine .sl Z0 c a Z1 (by rw[dD];omega) (.inl ⟨by simp only[UC];omega,Z3 _⟩) ?_
  rw[List.drop_zero,List.take_of_length_le (by rw[dD];omega)]
  exact .ids (uJ0 _ _)
theorem VrR.grew {σ σ':jA}{m:Nat}{l:List Int}{v:Z6}{S:Nat→Prop}(h:VrR σ m l v)(g:jC σ σ' S)(d:∀ k,m≤k→k<σ.next→¬ S k):VrR σ' m l v:=by
 rcases h with h|⟨b,rfl,e,c,a⟩
 ·exact .inl h
 ·exact .inr ⟨b,rfl,g.cellsE e a (d b c a),c,Nat.lt_of_lt_of_le a g.next⟩
theorem mF3 {c:List Z6}(h:c.length=9)(p q r t:Z6):(c++[p,q,r,t]).take 12=c++[p,q,r]:=by rw[List.take_append,List.take_of_length_le Z0,h];rfl
theorem cx_a3 (c:List Z6)(p q r:Z6)(l:List Z6):c++[p,q,r]++l=c++p :: q :: r :: l:=by simp
theorem lJ1 {H:jA}{b:Nat}{cs:List Z6}{e:Zt}{m:Zb}(a:cells H b=some (cs,e,m))(n:Nat)(i:Nat)(x:List Z6×Zt×Zb)(_:n≤i)(h:cells H i=some x):cells (H.put b (O cs e m)) i=some x:=by
 by_cases hi:i=b
 ·subst hi
  rw[a] at h
  cases h
  exact jQ _ _ _ _
 ·exact (jR _ _ _ hi).trans h
theorem bZ2 {P:Z9}{n:Nat}{H:jA}{b:Nat}{cs:List Z6}{e:Zt}{m:Zb}(a:cells H b=some (cs,e,m)){v d:List Z6}(h:FzL P n H v d):FzL P n (H.put b (O cs e m)) v d:=dI (lJ1 a n) h
theorem mY1:∀ (l:List Int) (i:Nat) (x:Int),i<l.length→List.take i (ivs l)++[.int .i64 x]++List.drop (i+1) (ivs l)=ivs (l.set i x)
 | y :: l,0,x,_=>rfl
 | y :: l,i+1,x,h=>congrArg (Value.int .i64 y :: ·) (mY1 l i x (by simpa using h))
theorem set2 {a c:List Z6}{h:Nat}(f:h+9≤a.length)(d:c.length=9):List.take h (setFrom a h ztm)++c++List.drop (h+9) (setFrom a h ztm)=setFrom a h c:=by
 unfold setFrom
 have e:List.take h (List.take h a++ztm++List.drop (h+ztm.length) a)=List.take h a:=by rw[List.append_assoc,List.take_append_of_le_length (by rw[List.length_take];omega),List.take_take,Nat.min_self]
 have b:List.drop (h+9) (List.take h a++ztm++List.drop (h+ztm.length) a)=List.drop (h+9) a:=by rw[List.drop_append,List.drop_of_length_le (by simp[List.length_take,ztm];omega),List.nil_append,List.length_append,List.length_take,show ztm.length=9 from rfl,Nat.min_eq_left Z0,Nat.sub_self,List.drop_zero]
 rw[e,b,d]
theorem kU3 (c:Co)(f:Cf)(u:St){σ:jA}{bg m lo:Nat}{cs:List Z6}{vv:Z6}(hl:σ.lo=1)(hn:1≤σ.next)(hlo:1≤lo)(hc:cells σ bg=some (cs++[vv,trV f.st,.int .i64 f.n,.int .i64 f.key],42,false))(hN:NTs σ lo m f.t cs)(hb:0<bg)(T:bg<lo)(hm:m≤σ.next)(hbn:bg<σ.next)
  (hp:u.p.length<1000000000) (ha:dB f.t u.p) (hv:VrR σ m f.v vv) (hf:SmF f) (hrl:∀ i:Nat,(f.st.getD i []).length<50000000000) (hvl:f.v.length<1000000000) (V:SOk c f u.a (atT f.t u.p)) :
  jI (pp G) H0 45 [coV c,.pointer (some ⟨bg,0,none⟩),.agg ⟨stC u⟩] σ (StR σ bg lo (stepT c f u.p u.a) f.n (kM0 c f u.a (atT f.t u.p))):=by
 unfold coV coC ivV kV stC
 refine jI.fir4 (q:=qq) (jS G) fir45 Z7 rfl rfl (lF2 ..) (by first|exact Nat.le_trans (show NGG≤1 by decide) Z0) ?_;rw[rC2]
 refine S0 ?_
 have g0:∀ X Y Z,jC σ (((σ.add X).add Y).add Z) (λ_=>False):=λX Y Z=>((jC.add _ _ _).trans (jC.add _ _ _) λ_ _ h=>h).trans (jC.add _ _ _) λ_ _ h=>h
 have hL:=λX Y Z=>uB2 ((g0 X Y Z).cellsE hc hbn id) (NTs.grew hN (g0 X Y Z) (λ_ _ _ h=>h) hm) hb (.inl T) (by simp only[jB];omega) (by simp only[jB];omega)
 refine jD.func (cap:=[]) (sU2 G (hL _ _ _) hlo (by simp only[jP];exact hl) u.p false hp ha) ?_
 rintro _ _ ⟨rfl,vh,vk,rfl,hP⟩
 obtain ⟨g,b,L,N,d,tq,x,E,bk,ok,lk,hhk,fk,tk,xk,ck,rfl,rfl,j,h2,hbb⟩:=hP
 have P:=j.l.lc
 have B:=j.l.lw
 have hle:=j.l.le
 have hpq:=j.l.lp
 have hlnq:=j.l.ln
 simp only[jB] at hlnq
 have h9:=j.l.lt.len
 have h91:=j.l.lt.one
 have hk0:=j.l.lt.k0
 have ht9:E.take 9=E:=List.take_of_length_le Z0
 have hd9:E.drop 9=[]:=List.drop_of_length_le Z0
 have hcc:(Value.agg ⟨E⟩).cells.toList=E:=rfl
 have hloq:σ.lo≤g:=Z0
 push_cast(disch:=first|omega|(apply id;push_cast;try omega))[P,B,hle,h9,h91,hk0,ht9,hd9,hcc,hl]
 generalize D:((((((σ.add (O [Rw false eI c.v.length (ivs c.v),.int .i64 c.s,Rw false etm c.p.length (jX c.p),.int .i64 c.m] 28 false)).add (O [.int .i64 u.k,Rw false eI u.p.length (ivs u.p),.int .i64 u.a] 62 false)).add (O [.string (Tx []),.int .i64 0,.int .i64 0] 46 false)).add (O [.int .i64 0,.int .i64 0,.int .i64 0,.string (Tx []),.int .i64 0,.int .i64 0,.string (Tx []),.slice none 0 0,.slice none 0 0] 34 false)).put (σ.next+1+1+1) (O E 34 false)).put g (O (List.take b d++[.int .i64 0,.int .i64 0,.int .i64 0,.string (Tx []),.int .i64 0,.int .i64 0,.string (Tx []),.slice none 0 0,.slice none 0 0]++List.drop (b+9) d) tq false))=H
 have hw:=j.w H
 have hlH:H.lo=1:=by rw[← D];simp only[jP,dT];exact hl
 have hnH:H.next=σ.next+4:=by rw[← D];simp only[jB,jN]
 have hbH:cells H g=some (setFrom d b ztm,tq,false):=by rw[← D];exact jQ _ _ _ _
 have hcH:cells H (σ.next+1+1+1)=some (E,etm,false):=by rw[← D];refine (jR _ _ _ Z0).trans (jQ _ _ _ _)
 have hne:g≠σ.next+1+1:=λee=>by
  have M:=P
  rw[ee,qV _ _ _ _ (by simp only[jB])] at M
  simp only[Option.some.injEq,Prod.mk.injEq] at M
  rw[← M.1] at B
  simp at B
 have heH:cells H (σ.next+1+1)=some ([.string (Tx []),.int .i64 0,.int .i64 0],46,false):=by rw[← D];refine (jR _ _ _ Z0).trans ((jR _ _ _ Z0).trans ((gD _ _ (by simp only[jB];omega)).trans (qV _ _ _ _ (by simp only[jB]))))
 have hzf:FzL Tryz.prog lo H ztm (tmC zT):=by cases zF1 Tryz.prog lo H with|agg h=>exact h
 have gw:jC (((σ.add _).add _).add _) H (λk=>(k=g∨(L≤k∧k<N))∨(k≠bg∧(k<lo∨m≤k))):=(by rw[← D];exact ((jC.add _ _ _).trans (jC.put _ _ _ (S:=λk=>k=σ.next+1+1+1) λ_=>rfl) λi hi h=>absurd h (by simp only[jB] at hi;omega)).trans (jC.put _ _ _ (S:=λk=>(k=g∨(L≤k∧k<N))∨(k≠bg∧(k<lo∨m≤k))) λ_=>.inl (.inl rfl)) λi hi h=>h)
 obtain ⟨J,K,hgH,hfz⟩:=hw zT ztm rfl gw hbH hzf
 have hsf:∀ l:List Z6,setFrom (cs++l) 0 J=J++l:=λl=>by unfold setFrom;rw[List.take_zero,List.nil_append,Nat.zero_add,K,List.drop_left' hN.len]
 rw[hsf] at hgH
 obtain ⟨kx,C,bx,A,ex,lx⟩:=x
 have hgq:=uT3 K
 have hnz:(σ.next+1+1)≠g:=λh=>hne h.symm
 have hlm:=hN.le
 have gq:jC σ H (λk=>k=g):=by rw[← D];(repeat (first|assumption|exact jC.refl _ _|refine jC.put'' ?_ _ _ (by intro _;first|(exfalso;omega)|rfl)|refine jC.add' ?_ _))
 have hvb:∀ k,m≤k→k<σ.next→¬ k=g:=λk M h4 e=>by have:=j.bi;omega
 have hvH:VrR H m f.v vv:=hv.grew gq hvb
 have gL:jC σ H (λk=>k=bg∨lo≤k):=gq.mono λk hk e=>by have:=j.bi;omega
 rw[← j.x] at V ⊢
 have hW:∀ (I:jA),jC H I (λk=>(k=g∨(L≤k∧k<N))∨(k≠bg∧(k<lo∨m≤k)))→∀ (y:Tm) (cy:List Z6),cy.length=9→cells I g=some (setFrom d b cy,tq,false)→FzL Tryz.prog lo I cy (tmC y)→∃ J,J.length=9∧cells I bg=some (J++[vv,trV f.st,.int .i64 f.n,.int .i64 f.key],42,false)∧FzL Tryz.prog lo I J (tmC (putT f.t u.p y)):=by
  intro I hg y cy h5 h6 h7
  obtain ⟨c3,d1,d2,d3⟩:=j.w I y cy h5 (gw.trans hg λk _ h=>h) h6 h7
  refine ⟨c3,d1,?_,d3⟩
  rw[d2]
  unfold setFrom
  rw[List.take_zero,List.nil_append,Nat.zero_add,d1,List.drop_left' hN.len]
 by_cases k1:kx=1
 ·obtain rfl:kx=1:=k1
  have hcx:E=tmC (.mk 1 C bx A ex lx):=by cases j.l.lt;rfl
  rw[hcx,bH] at hcH
  have hgk:∀ p q r s:Z6,(J++[p,q,r,s])[12]?=some s:=λp q r s=>by rw[List.getElem?_append_right Z0,K];rfl
  have hkk:(Tm.mk 1 C bx A ex lx).k=1:=rfl
  have hsl:(setFrom d b ztm).length=d.length:=by simp only[setFrom,List.length_append,List.length_take,List.length_drop,show ztm.length=9 from rfl];omega
  have hls:b+9≤(List.take b d++ztm++List.drop (b+ztm.length) d).length:=by have:=hsl;unfold setFrom at this;rw[this];exact B
  have hloH:H.lo≤g:=Z0
  push_cast(disch:=first|omega|(apply id;push_cast;try omega))[hkk,hcH,hgH,heH,hbH,hlH,hgq,hgk,hls,hne]
  generalize o:(H.put (σ.next+1+1) (O [.string (Tx A),.int .i64 f.key,.int .i64 0] 46 false)).put g (O (List.take b (List.take b d++ztm++List.drop (b+ztm.length) d)++[.int .i64 14,.int .i64 f.key,.int .i64 C,.string (Tx A),.int .i64 0,.int .i64 0,.string (Tx []),.slice none 0 0,.slice none 0 0]++List.drop (b+9) (List.take b d++ztm++List.drop (b+ztm.length) d)) tq false)=H2
  have hlH2:H2.lo=1:=by rw[← o];simp only[dT];exact hlH
  have hnH2:H2.next=σ.next+4:=by rw[← o];simp only[jN];exact hnH
  have hss:List.take b (List.take b d++ztm++List.drop (b+ztm.length) d)++[.int .i64 14,.int .i64 f.key,.int .i64 C,.string (Tx A),.int .i64 0,.int .i64 0,.string (Tx []),.slice none 0 0,.slice none 0 0]++List.drop (b+9) (List.take b d++ztm++List.drop (b+ztm.length) d)=setFrom d b [.int .i64 14,.int .i64 f.key,.int .i64 C,.string (Tx A),.int .i64 0,.int .i64 0,.string (Tx []),.slice none 0 0,.slice none 0 0]:=set2 B rfl
  have hb2:cells H2 g=some (setFrom d b [.int .i64 14,.int .i64 f.key,.int .i64 C,.string (Tx A),.int .i64 0,.int .i64 0,.string (Tx []),.slice none 0 0,.slice none 0 0],tq,false):=by rw[← o,← hss];exact jQ _ _ _ _
  have hyf:FzL Tryz.prog lo H2 [.int .i64 14,.int .i64 f.key,.int .i64 C,.string (Tx A),.int .i64 0,.int .i64 0,.string (Tx []),.slice none 0 0,.slice none 0 0] (tmC (.mk 14 f.key C A zE [])):=by
   rw[bH]
   exact .cons (.id rfl) (.cons (.id rfl) (.cons (.id rfl) (.cons (.id rfl) (.cons (.id rfl) (.cons (.id rfl) (.cons (.id rfl) (.cons (.nil (size:=4) rfl Z1) (.cons (.nil (size:=9) rfl Z1) .nil))))))))
  obtain ⟨c2,z,R,hf2⟩:=j.w H2 (.mk 14 f.key C A zE []) [.int .i64 14,.int .i64 f.key,.int .i64 C,.string (Tx A),.int .i64 0,.int .i64 0,.string (Tx []),.slice none 0 0,.slice none 0 0] rfl (by
   rw[← o,← D]
   refine (((((jC.add _ _ _).trans (jC.put _ _ _ (S:=λk=>k=σ.next+1+1+1) λ_=>rfl) λi hi h=>absurd h (by simp only[jB] at hi;omega)).trans (jC.put _ _ _ (S:=λk=>(k=g∨(L≤k∧k<N))∨(k≠bg∧(k<lo∨m≤k))) λ_=>.inl (.inl rfl)) λi hi h=>h).trans (jC.put _ _ _ (S:=λk=>(k=g∨(L≤k∧k<N))∨(k≠bg∧(k<lo∨m≤k))) λ_=>.inr ⟨Z0,.inr Z0⟩) λi hi h=>h).trans (jC.put _ _ _ (S:=λk=>(k=g∨(L≤k∧k<N))∨(k≠bg∧(k<lo∨m≤k))) λ_=>.inl (.inl rfl)) λi hi h=>h)) hb2 hyf
  have hsf2:∀ l:List Z6,setFrom (cs++l) 0 c2=c2++l:=λl=>by unfold setFrom;rw[List.take_zero,List.nil_append,Nat.zero_add,z,List.drop_left' hN.len]
  rw[hsf2] at R
  have hgk2:∀ p q r s:Z6,(c2++[p,q,r,s])[12]?=some s:=λp q r s=>by rw[List.getElem?_append_right Z0,z];rfl
  have F:cells H2 (σ.next+1+1)=some ([.string (Tx A),.int .i64 f.key,.int .i64 0],46,false):=by rw[← o];exact (jR _ _ _ hnz).trans (jQ _ _ _ _)
  have hl2:=sW0 z vv (trV f.st) (.int .i64 f.n) (.int .i64 f.key)
  refine S4 R hgk2 F hlH2 ?_
  rw[mF3 z,qT2 z,List.append_nil,cx_a3]
  refine ⟨rfl,c2,vv,z,?_,?_,?_,?_⟩
  ·refine (jR _ _ _ Z0).trans (jQ _ _ _ _)
  ·rw[stepT,← j.x]
   exact bZ2 ((jR _ _ _ Z0).trans F) (jK3 T hf2)
  ·refine VrR.fz rfl (VrR.grew (S:=λk=>k=g∨k=bg) hv (by rw[← o,← D];(repeat (first|assumption|exact jC.refl _ _|refine jC.put'' ?_ _ _ (by intro _;first|(exfalso;omega)|exact .inl rfl|exact .inr rfl)|refine jC.add' ?_ _))) (λk M h4 h5=>by have:=hvb k M h4;rcases h5 with h5|h5<;>omega)) ?_ ?_
   ·omega
   ·exact hf.v
  ·rw[← o,← D]
   have:=j.bi
   (repeat (first|assumption|exact jC.refl _ _|refine jC.put'' ?_ _ _ (by intro _;first|(exfalso;omega)|(show _∨_;omega))|refine jC.add' ?_ _))
 exact absurd V k1
theorem sX0 {f:Cf}:(cfC f).all one=true:=by
 unfold cfC
 rw[List.all_append,gO0];rfl
theorem kV3 (c:Co)(f:Cf)(h:St){σ:jA}{bg m lo:Nat}{cs:List Z6}{vv:Z6}(w:σ.lo=1)(D:1≤σ.next)(o:1≤lo)(E:cells σ bg=some (cs++[vv,trV f.st,.int .i64 f.n,.int .i64 f.key],42,false))(s:NTs σ lo m f.t cs)(L:0<bg)(b:bg<lo)(A:m≤σ.next)(l:bg<σ.next)
  (F:h.p.length<1000000000) (K:dB f.t h.p) (z:VrR σ m f.v vv) (u:SmF f) (g:∀ i:Nat,(f.st.getD i []).length<50000000000) (q:f.v.length<1000000000) (r:SOk c f h.a (atT f.t h.p)) :
  jI (pp G) H0 45 [coV c,.pointer (some ⟨bg,0,none⟩),.agg ⟨stC h⟩] σ (λv σ'=>v=.tuple ⟨[.agg ⟨[.string (Tx (kM0 c f h.a (atT f.t h.p)).en),.int .i64 (kM0 c f h.a (atT f.t h.p)).ek,.int .i64 0]⟩,.int .i64 (kM0 c f h.a (atT f.t h.p)).e]⟩∧
   cells σ' bg=some (cfC ⟨stepT c f h.p h.a,(kM0 c f h.a (atT f.t h.p)).v,(kM0 c f h.a (atT f.t h.p)).st,f.n,(kM0 c f h.a (atT f.t h.p)).key⟩,42,false)∧jC σ σ' (λk=>k=bg∨lo≤k)):=by
 refine jI.drop (kU3 G c f h w D o E s L b A l F K z u g q r) ?_
 generalize kM0 c f h.a (atT f.t h.p)=d
 generalize stepT c f h.p h.a=T
 rintro v σ' ⟨rfl,M,y,N,H,B,j,gr⟩
 have I:=s.le
 have x:=gr.next
 have J:=gr.lo
 refine ⟨lo,_,qO2 lo bg (O (cfC ⟨T,d.v,d.st,f.n,d.key⟩) 42 false) σ',⟨rfl,?_,?_⟩,.id rfl,cU1 Z0 b Z0 H ?_ sX0⟩
 ·unfold qO2
  exact jQ _ _ _ _
 ·refine ⟨x,J,λi hi C=>?_⟩
  unfold qO2
  rw[jZ _ _ _ Z0,eP,if_pos (by simp only[Nat.blt_eq];omega)]
  exact gr.get i hi C
 ·unfold cfC
  exact B.app (.cons j (.cons (.id (jQ1 _ Z0 _)) (.cons (.id rfl) (.cons (.id rfl) .nil))))
structure Dv where
 f:Cf
 en:List Zu
 ek:Int
 is:Zb
 e:Int
def doF (c:Co)(f:Cf)(h:Int):Dv:=
 if h<0∨(enF f.t).length≤h∨dW c f=false then ⟨cfZ,[],0,false,12⟩
 else if 5000≤f.n then ⟨cfZ,[],0,false,10⟩
 else
  let b:=(enF f.t).getD h.toNat ⟨0,[],0⟩
  let g:Cf:=⟨jF f.t,f.v,f.st,f.n,f.key⟩
  let d:=kM0 c g b.a (atT g.t b.p)
  if d.e≠0 then ⟨cfZ,[],0,false,d.e⟩
  else if W (W (kS (jF (stepT c g b.p b.a)))+W (wN0 d.st)) > 2000 then ⟨cfZ,[],0,false,11⟩
  else ⟨⟨jF (stepT c g b.p b.a),d.v,d.st,W (f.n+1),d.key⟩,d.en,d.ek,decide (b.k=1),0⟩
def dvV (r:Dv):Z6:=.tuple ⟨[cfV r.f,.agg ⟨[.string (Tx r.en),.int .i64 r.ek,.int .i64 0]⟩,.bool r.is,.int .i64 r.e]⟩
theorem nG2 (n:Nat)(h:0<n)(f:Cf):scL n (cfC f)=true:=by
 unfold cfC
 refine wD0 (gN0 n h f.t) ?_
 simp only[scL,uB1 n h,jQ1 n h,Ev.sc,Bool.and_true]
theorem mA3 (n:Nat)(h:0<n)(r:Dv):Ev.sc n (dvV r)=true:=by
 unfold dvV cfV
 simp only[Ev.sc,scL,nG2 n h,Bool.and_true,Bool.true_and]
structure DoOk (c:Co)(f:Cf):Prop where
 hc:SmC c
 hf:SmF f
 vl:f.v.length<1000000000
 rl:∀ i:Nat,(f.st.getD i []).length<50000000000
 rs:RS f.t
 hn:smT (jF f.t)=true
 ha:(bJ (jF f.t)).length<400000000000
 hst:∀ st∈enF f.t,dB (jF f.t) st.p∧st.p.length<1000000000∧SOk c ⟨jF f.t,f.v,f.st,f.n,f.key⟩ st.a (atT (jF f.t) st.p)∧smT (stepT c ⟨jF f.t,f.v,f.st,f.n,f.key⟩ st.p st.a)=true∧smT (jF (stepT c ⟨jF f.t,f.v,f.st,f.n,f.key⟩ st.p st.a))=true∧
  lM0 (kM0 c ⟨jF f.t,f.v,f.st,f.n,f.key⟩ st.a (atT (jF f.t) st.p)).st
theorem jV1:∀ l:List St,(stCs l).length=l.length*3
 | []=>rfl
 | x :: l=>by rw[stCs,List.length_append,jV1 l,List.length_cons,show (stC x).length=3 from rfl];omega
theorem fW1 {l:List St}{i:Nat}{x:St}(h:l[i]?=some x):((stCs l).drop (i*3)).take 3=stC x:=by
 induction l generalizing i with
 | nil=>cases h
 | cons y l a=>
  cases i with
  | zero=>cases h;rfl
  | succ i=>
   rw[stCs,show (i+1)*3=(stC y).length+i*3 by rw[show (stC y).length=3 from rfl];omega,← List.drop_drop,List.drop_left]
   exact a h
theorem nF2 {P:Z9}(b:szT P eI=some 1)(h:szT P eE=some 4)(a:szT P etm=some 9)(c:szT P eR=some 1){n:Nat}{σ:jA}:FzV P n σ (.agg ⟨[.int .i64 0,.int .i64 0,.int .i64 0,.string (Tx []),.int .i64 0,.int .i64 0,.string (Tx []),.slice none 0 0,.slice none 0 0,.slice none 0 0,.slice none 0 0,.int .i64 0,.int .i64 0]⟩) (cfV cfZ):=
 .agg (.cons (.id rfl) (.cons (.id rfl) (.cons (.id rfl) (.cons (.id rfl) (.cons (.id rfl) (.cons (.id rfl) (.cons (.id rfl) (.cons (.nil h Z1) (.cons (.nil a Z1) (.cons (.nil b Z1) (.cons (.nil c Z1) (.cons (.id rfl) (.cons (.id rfl) .nil)))))))))))))
theorem do_f (c:Co)(f:Cf)(r:Int)(h:DoOk c f):jG (pp G) H0 20 [coV c,cfV f,.int .i64 r] (dvV (doF c f r)):=by
 have q:=rW1 G f.t h.hf.t h.hn h.ha
 have g:=lW0 G c f h.hc h.hf
 have hst:=h.hst
 have z:∀ (e:Int) {σ:jA},FzV (pp G).P H0.next σ (.tuple ⟨[.agg ⟨[.int .i64 0,.int .i64 0,.int .i64 0,.string (Tx []),.int .i64 0,.int .i64 0,.string (Tx []),.slice none 0 0,.slice none 0 0,.slice none 0 0,.slice none 0 0,.int .i64 0,.int .i64 0]⟩,.agg ⟨[.string (Tx []),.int .i64 0,.int .i64 0]⟩,.bool false,.int .i64 e]⟩) (dvV ⟨cfZ,[],0,false,e⟩):=λe σ=>.tup (.cons (nF2 rfl rfl rfl rfl) (.cons (.id rfl) (.cons (.id rfl) (.cons (.id rfl) .nil))))
 unfold doF
 generalize hE:enF f.t=L at *
 by_cases I:r<0
 ·rw[if_pos (.inl I)]
  obtain ⟨⟨k,a,b,s,e,l⟩,v,o,n,j⟩:=f
  unfold coV coC cfV cfC ivV trV kV at g ⊢
  simp only[bH,List.cons_append,List.nil_append] at g q ⊢
  refine cE G rL1 Z7 (yF0 ..) λF=>?_;rw[gT0]
  refine S0 ?_
  refine dK (q) ?_
  unfold stsV
  refine S1 I ?_
  exact z 12
 by_cases h2:(L.length:Int)≤r
 ·rw[if_pos (.inr (.inl h2))]
  obtain ⟨⟨k,a,b,s,e,l⟩,v,o,n,j⟩:=f
  unfold coV coC cfV cfC ivV trV kV at g ⊢
  simp only[bH,List.cons_append,List.nil_append] at g q ⊢
  refine cE G rL1 Z7 (yF0 ..) λF=>?_;rw[gT0]
  refine S0 ?_
  refine dK (q) ?_
  unfold stsV
  refine S2 I h2 ?_
  exact z 12
 by_cases h3:dW c f=false
 ·rw[if_pos (.inr (.inr h3))]
  rw[h3] at g
  obtain ⟨⟨k,a,b,s,e,l⟩,v,o,n,j⟩:=f
  unfold coV coC cfV cfC ivV trV kV at g ⊢
  simp only[bH,List.cons_append,List.nil_append] at g q ⊢
  refine cE G rL1 Z7 (yF0 ..) λF=>?_;rw[gT0]
  refine S0 ?_
  refine dK (q) ?_
  unfold stsV
  refine S2 I h2 ?_
  refine dK (g) ?_
  refine S0 ?_
  exact z 12
 rw[if_neg (by rintro (e|e|e);exact I e;exact h2 e;exact h3 e)]
 have h3:dW c f=true:=by simpa using h3
 rw[h3] at g
 by_cases J:5000≤f.n
 ·rw[if_pos J]
  obtain ⟨⟨k,a,b,s,e,l⟩,v,o,n,j⟩:=f
  have J:5000≤n:=J
  unfold coV coC cfV cfC ivV trV kV at g ⊢
  simp only[bH,List.cons_append,List.nil_append] at g q ⊢
  refine cE G rL1 Z7 (yF0 ..) λF=>?_;rw[gT0]
  refine S0 ?_
  refine dK (q) ?_
  unfold stsV
  refine S2 I h2 ?_
  refine dK (g) ?_
  refine S1 J ?_
  exact z 10
 rw[if_neg J]
 obtain ⟨i,hi⟩:∃ i:Nat,r=i:=⟨r.toNat,Z0⟩
 subst hi
 have hil:i<L.length:=Z0
 obtain ⟨x,hx⟩:=jU (l:=L) (i:=i) hil
 have hgd:L.getD ((i:Nat):Int).toNat ⟨0,[],0⟩=x:=by rw[Z4,List.getD_eq_getElem?_getD,hx];rfl
 rw[hgd]
 obtain ⟨q1,q2,q3,q4,q5,q6⟩:=hst x (List.mem_of_getElem? hx)
 have hpt:=fW1 hx
 have hle2:i*3+3≤L.length*3:=Z0
 have A:=λ(σ:jA) hl hn=>uS2 G f h.hf h.rs (σ:=σ) hl hn
 have hi2:((i:Nat):Int)<L.length:=Z0
 have hi3:¬ (L.length:Int)≤i:=h2
 have y:=λ(σ:jA) (bg m lo:Nat) (cs:List Z6) (vv:Z6)=>kV3 G c ⟨jF f.t,f.v,f.st,f.n,f.key⟩ x (σ:=σ) (bg:=bg) (m:=m) (lo:=lo) (cs:=cs) (vv:=vv)
 have X:SmF ⟨jF f.t,f.v,f.st,f.n,f.key⟩:=⟨h.hn,h.hf.v,h.hf.st⟩
 have V:∀ i:Nat,((⟨jF f.t,f.v,f.st,f.n,f.key⟩:Cf).st.getD i []).length<50000000000:=h.rl
 have Z:=h.vl
 dsimp only at q1 q2 q3 q4 q5 q6 y X V Z ⊢
 generalize kM0 c ⟨jF f.t,f.v,f.st,f.n,f.key⟩ x.a (atT (jF f.t) x.p)=d at *
 generalize stepT c ⟨jF f.t,f.v,f.st,f.n,f.key⟩ x.p x.a=T at *
 unfold AgR at A
 obtain ⟨⟨k,a,b,s,e,l⟩,v,o,n,j⟩:=f
 have J:¬ 5000≤n:=J
 dsimp only at q1 q2 q3 q4 q5 q6 y X V Z A ⊢
 generalize jF (.mk k a b s e l)=nt at *
 unfold coV coC cfV cfC ivV trV kV at g ⊢
 unfold cfV cfC ivV trV at A
 simp only[bH,List.cons_append,List.nil_append] at g q A ⊢
 refine cE G rL1 Z7 (yF0 ..) λF=>?_;rw[gT0]
 refine S0 ?_
 refine dK (q) ?_
 unfold stsV
 refine S2 I h2 ?_
 refine dK (g) ?_
 refine S1 J ?_
 refine jD.func (cap:=[]) (A _ (by simp only[push_cast]) (by simp only[jB];omega)) ?_
 rintro _ u ⟨cs,vv,m,rfl,hN,hV,hm,g1⟩
 have hl1:u.lo=1:=by rw[g1.lo];rfl
 have hn1:=g1.next
 simp only[jB,kY] at hn1 hN
 have hlm:=hN.le
 have h9:=hN.len
 have h91:=hN.one
 have c0:cells u 1=some ([Rw false eI c.v.length (ivs c.v),.int .i64 c.s,Rw false etm c.p.length (jX c.p),.int .i64 c.m],28,false):=g1.cellsE (by push_cast(disch:=first|omega|(apply id;push_cast;try omega));first|done|rfl) (by simp only[jB,kY];omega) id
 have c2:cells u 3=some ([.int .i64 0,.int .i64 0,.int .i64 0,.string (Tx []),.int .i64 0,.int .i64 0,.string (Tx []),.slice none 0 0,.slice none 0 0,.slice none 0 0,.slice none 0 0,.int .i64 0,.int .i64 0],42,false):=g1.cellsE (by push_cast(disch:=first|omega|(apply id;push_cast;try omega));first|done|rfl) (by simp only[jB,kY];omega) id
 have c3:cells u 4=some ([.string (Tx []),.int .i64 0,.int .i64 0],46,false):=g1.cellsE (by push_cast(disch:=first|omega|(apply id;push_cast;try omega));first|done|rfl) (by simp only[jB,kY];omega) id
 have C:=sW0 h9 vv (Rw false eR o.length (trs o)) (.int .i64 n) (.int .i64 j)
 have hvo:Ev.one vv=true:=by rcases hV with ⟨_,rfl⟩|⟨b,rfl,_⟩<;>rfl
 have hal:(cs++[vv,Rw false eR o.length (trs o),.int .i64 n,.int .i64 j]).all one=true:=by rw[List.all_append,h91];simp only[List.all_cons,List.all_nil,hvo];rfl
 have hts:=nD2 h9
 have hds:=qT2 h9
 have M:stDC 13 0 (.agg ⟨cs++[vv,Rw false eR o.length (trs o),.int .i64 n,.int .i64 j]⟩) u 3 (some ([.int .i64 0,.int .i64 0,.int .i64 0,.string (Tx []),.int .i64 0,.int .i64 0,.string (Tx []),.slice none 0 0,.slice none 0 0,.slice none 0 0,.slice none 0 0,.int .i64 0,.int .i64 0],42,false))=some (undef,u.put 3 (O (cs++[vv,Rw false eR o.length (trs o),.int .i64 n,.int .i64 j]) 42 false)):=by
  refine (fV1 (v:=.agg ⟨cs++[vv,Rw false eR o.length (trs o),.int .i64 n,.int .i64 j]⟩) _ _ _ C hal Z0 Z1).trans ?_
  unfold setFrom
  rw[show (Value.agg ⟨cs++[vv,Rw false eR o.length (trs o),.int .i64 n,.int .i64 j]⟩).cells.toList=cs++[vv,Rw false eR o.length (trs o),.int .i64 n,.int .i64 j] from rfl,C,List.take_zero,List.nil_append,show List.drop (0+13) [Value.int .i64 0,.int .i64 0,.int .i64 0,.string (Tx []),.int .i64 0,.int .i64 0,.string (Tx []),.slice none 0 0,.slice none 0 0,.slice none 0 0,.slice none 0 0,.int .i64 0,.int .i64 0]=[] from rfl,List.append_nil]
 have hsl:=jV1 L
 have hle3:i*3+3≤(stCs L).length:=Z0
 push_cast(disch:=first|omega|(apply id;push_cast;try omega))[hl1,c0,c2,c3,M,I,hi2,Z4,hpt,hle3]
 obtain ⟨τ,D⟩:∃ τ,τ=u.put 3 (O (cs++[vv,Rw false eR o.length (trs o),.int .i64 n,.int .i64 j]) 42 false):=⟨_,rfl⟩
 rw[← D]
 have B:jC u τ (λk=>k=3):=by rw[D];exact jC.put _ _ _ λ_=>rfl
 have hnτ:τ.next=u.next:=by rw[D];rfl
 have K:τ.lo=1:=by rw[B.lo,hl1]
 have t3:=B.cellsE c3 Z0 Z0
 have t2:cells τ 3=some (cs++[vv,trV o,.int .i64 n,.int .i64 j],42,false):=by rw[D];exact jQ _ _ _ _
 have N:=hN.grew B (λk H h6 e=>by omega) hm
 have R:=hV.grew B (λk H h6 e=>by omega)
 refine jD.func (cap:=[]) (y τ 3 m _ cs vv K Z0 Z0 t2 N Z0 Z0 Z0 Z0 q2 q1 R X V Z q3) ?_
 rintro _ σ2 ⟨rfl,E,g2⟩
 have w:σ2.lo=1:=by rw[g2.lo,K]
 have hn2:=g2.next
 have e3:=g2.cellsE t3 Z0 (by show ¬ (_∨_);(try simp only[jB,kY]);omega)
 clear D M hV R hN N t2 t3 c0 c2 c3 y A g1 B hal hts hds hvo C
 clear g2
 have hnf:=mP0 G T q4
 have hsz:=qC1 G (jF T) q5
 have Y:=oT2 G d.st q6
 generalize jF T=T2 at *
 obtain ⟨dt,dv,dst,dk,den,dek,de⟩:=d
 dsimp only at E Y ⊢
 unfold trV at Y
 obtain ⟨k',a',b',s',x',l'⟩:=T
 unfold cfC ivV trV at E
 simp only[bH,List.cons_append,List.nil_append] at E
 by_cases he:de=0
 ·subst he
  rw[if_neg (λh=>h rfl)]
  obtain ⟨k2,a2,b2,s2,x2,l2⟩:=T2
  refine S3 w E @e3 ?_
  refine dK (hnf) ?_
  refine S3 w E @e3 ?_
  refine dK (hsz) ?_
  refine S3 w E @e3 ?_
  refine dK (Y) ?_
  refine S3 w E @e3 ?_
  have h1':0≤((i:Nat):Int):=Z0
  have hk3:(stCs L)[i*3]?=some (.int .i64 x.k):=by
   have H:((stCs L).drop (i*3))[0]?=(stC x)[0]?:=by rw[← hpt,List.getElem?_take];rfl
   rw[List.getElem?_drop,Nat.add_zero] at H
   exact H
  by_cases H:2000<IntKind.i64.wrap (W (kS (.mk k2 a2 b2 s2 x2 l2))+W (wN0 dst))
  ·rw[if_pos (by exact H)]
   refine S4 w E @e3 H ?_
   exact z 11
  ·rw[if_neg (by exact H)]
   have hev:Go.Dv.eqv (.agg ⟨[.string (Tx den),.int .i64 dek,.int .i64 0]⟩)=true:=rfl
   push_cast(disch:=first|omega|(apply id;push_cast;try omega))[w,E,e3,H,h1',hi2,Z4,hk3,hev]
   exact FzV.id (mA3 1 Z1 ⟨⟨.mk k2 a2 b2 s2 x2 l2,dv,dst,W (n+1),dk⟩,den,dek,decide (x.k=1),0⟩)
 ·rw[if_pos he]
  refine S4 w E @e3 he ?_
  exact z de
end
end Go.Proofs.YtklapbhlhjdijaaGreatDoor
