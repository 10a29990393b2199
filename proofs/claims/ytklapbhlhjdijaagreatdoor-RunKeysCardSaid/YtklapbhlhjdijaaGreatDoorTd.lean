/-
  A part of the proof: what the program's functions hand back,as theorems. No condition but those that each theorem names.
-/
import Derived.Test.YtklapbhlhjdijaaGreatDoorTc
import Derived.Test.YtklapbhlhjdijaaGreatDoorTa
import Derived.Test.YtklapbhlhjdijaaGreatDoorTb
import Derived.Test.YtklapbhlhjdijaaGreatDoorEve
import Derived.Test.YtklapbhlhjdijaaGreatDoorExc
set_option linter.unusedSimpArgs false
set_option linter.unusedVariables false
namespace Go.Proofs.YtklapbhlhjdijaaGreatDoor
open Go Go.RowKit Go.Ev Go.Dv
noncomputable section
attribute [local push_cast] eq_self iff_self
set_option maxRecDepth 100000
variable (G:Nat×Nat)
structure Cf where
 t:Tm
 v:List Int
 st:List (List Tm)
 n:Int
 key:Int
def cfC (f:Cf):List Z6:=tmC f.t++[ivV f.v,trV f.st,.int .i64 f.n,.int .i64 f.key]
def cfV (f:Cf):Z6:=.agg ⟨cfC f⟩
structure SmF (f:Cf):Prop where
 t:smT f.t=true
 v:f.v.length<100000000000
 st:jV0 f.st
def bY (c:Co)(f:Cf):Zb:=decide (f.v.length=c.v.length∧(f.st.length:Int)=c.s)&&jZ c.v.length c.s c.p.length false f.t
theorem mT0 (c:Co)(f:Cf)(t:SmC c)(r:SmF f):jF (pp G) H0 43 [coV c,cfV f] (.bool (bY c f)):=by
 obtain ⟨⟨k,a,b,s,e,l⟩,v,g,n,d⟩:=f
 obtain ⟨z,x,y⟩:=t
 obtain ⟨q,w,o⟩:=r
 have m:=o.1
 dsimp only at q w m
 unfold coV coC cfV cfC ivV trV qP
 rw[uX]
 simp only[List.cons_append,List.nil_append]
 refine cE G fir43 Z7 (zL3 ..) λu=>?_;rw[rE2]
 by_cases j:(v.length:Int)=c.v.length
 ·by_cases i:(g.length:Int)=c.s
  ·refine S2 j i ?_
   refine dK (lQ1 G c.v.length c.s c.p.length (.mk k a b s e l) q) ?_
   refine S0 ?_
   rw[show bY c ⟨.mk k a b s e l,v,g,n,d⟩=jZ c.v.length c.s c.p.length false (.mk k a b s e l) by rw[bY,decide_eq_true ⟨by show v.length=c.v.length;omega,i⟩,Bool.true_and]]
   exact .id rfl
  ·refine S2 j i ?_
   rw[show bY c ⟨.mk k a b s e l,v,g,n,d⟩=false by rw[bY,decide_eq_false (λh=>i h.2),Bool.false_and]]
   exact .id rfl
 ·refine S1 j ?_
  rw[show bY c ⟨.mk k a b s e l,v,g,n,d⟩=false by rw[bY,decide_eq_false (λh=>j (by have:=h.1;dsimp only at this;omega)),Bool.false_and]]
  exact .id rfl
theorem nF0 (l:List Int)(a:l.length<100000000000){σ:jA}(d:σ.lo=1)(b:1≤σ.next):jH (pp G) H0 40 [ivV l] σ (IvR σ l):=by
 refine jH.fir4 (q:=qq) (jV G) fir40 Z7 rfl rfl (zP1 ..) (by first|exact Nat.le_trans (show NGG≤1 by decide) Z0) ?_;rw[rH2]
 refine S0 ?_
 refine jE.func (cap:=[]) (tI2 G l a d b) ?_
 rintro _ c h
 refine S0 ?_
 exact h
theorem mJ1 (l:List Int)(h:l.length<100000000000):jF (pp G) H0 40 [ivV l] (ivV l):=by
 refine jF.cut ((nF0 G l h (σ:=H0) rfl (Z3 _)).mono ?_)
 rintro _ σ' ⟨g,⟨rfl,rfl⟩|⟨rfl,a,b⟩⟩
 ·exact .nil (size:=1) rfl Z1
 ·unfold ivV
  have c:=g.next
  refine .sl (by first|omega|trivial) a (size:=1) rfl Z1 (by rw[bD];omega) (.inl ⟨by simp only[UC];omega,Z3 _⟩) ?_
  rw[List.drop_zero,List.take_of_length_le (by rw[bD];omega)]
  exact .ids (qS0 _ _)
def cfZ:Cf:=⟨zT,[],[],0,0⟩
def uX0 (c:Co):Cf:=if chkC c=true then ⟨jD (c.p.getD c.m.toNat zT),c.v,List.replicate c.s.toNat [],0,0⟩ else cfZ
theorem rZ2 (j:Nat){n:Nat}{σ:jA}:FzL (pp G).P n σ (List.replicate j [Value.slice none 0 0]).flatten (trs (List.replicate j [])):=by
 induction j with
 | zero=>exact .nil
 | succ j h=>exact .cons (.nil (size:=9) rfl Z1) h
theorem qW2 (c:Co)(w:SmC c):jF (pp G) H0 18 [coV c] (cfV (uX0 c)):=by
 have q:=w
 obtain ⟨L,D,z⟩:=w
 have h:=qG2 G c q
 cases e:chkC c with
 | false=>
  rw[show uX0 c=cfZ by rw[uX0,e];rfl]
  rw[e] at h
  unfold coV coC ivV qP at h ⊢
  refine cE G eF3 Z7 (jP1 ..) λr=>?_;rw[lG1]
  refine S0 ?_
  refine dK (h) ?_
  refine S0 ?_
  exact .agg (.cons (.id rfl) (.cons (.id rfl) (.cons (.id rfl) (.cons (.id rfl) (.cons (.id rfl) (.cons (.id rfl) (.cons (.id rfl) (.cons (.nil (size:=4) rfl Z1) (.cons (.nil (size:=9) rfl Z1) (.cons (.nil (size:=1) rfl Z1) (.cons (.nil (size:=1) rfl Z1) (.cons (.id rfl) (.cons (.id rfl) .nil)))))))))))))
 | true=>
  rw[show uX0 c=⟨jD (c.p.getD c.m.toNat zT),c.v,List.replicate c.s.toNat [],0,0⟩ by rw[uX0,e];rfl]
  rw[e] at h
  have y:=e
  rw[chkC,Z5,decide_eq_true_eq] at y
  obtain ⟨⟨P,F,I,N,H,E⟩,u⟩:=y
  obtain ⟨i,hi⟩:∃ i:Nat,c.m=i:=⟨c.m.toNat,Z0⟩
  obtain ⟨j,A⟩:∃ j:Nat,c.s=j:=⟨c.s.toNat,Z0⟩
  obtain ⟨x,k⟩:=jT (l:=c.p) (i:=i) Z0
  have B:=kS k
  have t:i*9+9≤c.p.length*9:=Z0
  have f:(i:Int)<c.p.length:=Z0
  have d:i<c.p.length:=Z0
  have o:=qQ z x (List.mem_of_getElem? k)
  have n:c.p.getD c.m.toNat zT=x:=by rw[hi,Z4,List.getD_eq_getElem?_getD,k];rfl
  rw[n]
  have a:=mJ1 G c.v Z0
  have g:=nH0 G x o
  generalize jD x=x' at *
  unfold coV coC ivV qP at h ⊢
  unfold ivV at a
  rw[hi,A] at h ⊢
  refine cE G eF3 Z7 (jP1 ..) λr=>?_;rw[lG1]
  refine S0 ?_
  refine dK (h) ?_
  have b:(j:Int)≤10:=Z0
  refine S6 f @Z4 B t d b ?_
  obtain ⟨C,M,b',s',J,K⟩:=x'
  repeat' apply And.intro
  all_goals
   refine dK (g) ?_
   push_cast(disch:=first|omega|(apply id;push_cast;try omega))[Z4,b]
  all_goals repeat' apply And.intro
  all_goals
   refine dK (a) ?_
   push_cast(disch:=first|omega|(apply id;push_cast;try omega))[Z4,b]
  all_goals
   refine .agg (.cons (.id rfl) (.cons (.id rfl) (.cons (.id rfl) (.cons (.id rfl) (.cons (.id rfl) (.cons (.id rfl) (.cons (.id rfl) (.cons (.row (.ids (jQ0 _ Z1 _))) (.cons (.row (.ids (cV _ Z1 _))) (.cons (.row (.ids (qS0 _ _))) (.cons ?_ (.cons (.id rfl) (.cons (.id rfl) .nil)))))))))))))
   unfold trV
   rw[List.length_replicate]
   refine .sl (full:=(List.replicate j [Value.slice none 0 0]).flatten) (m:=false) ?_ ?_ (size:=1) rfl Z1 ?_ (.inl ⟨by simp only[UC];omega,Z3 _⟩) ?_
   ·first|omega|(exact Z3 _)|(exact Z1)|push_cast(disch:=first|omega|(apply id;push_cast;try omega))
   ·push_cast(disch:=first|omega|(apply id;push_cast;try omega));first|done|rfl
   ·simp
   ·rw[List.drop_zero,List.take_of_length_le (by simp)]
    exact rZ2 G j
def VrR (σ':jA)(lo:Nat)(l:List Int)(v:Z6):Prop:=(l=[]∧v=.slice none 0 0)∨∃ b,v=.slice (some ⟨b,0,none⟩) l.length l.length∧cells σ' b=some (ivs l,eI,false)∧lo≤b∧b<σ'.next
def AgR (σ:jA)(f:Cf)(v:Z6)(σ':jA):Prop:=∃ cs vv m,v=.agg ⟨cs++[vv,trV f.st,.int .i64 f.n,.int .i64 f.key]⟩∧NTs σ' σ.next m (jD f.t) cs∧VrR σ' m f.v vv∧m≤σ'.next∧jC σ σ' (λ_=>False)
theorem uZ3 {c:List Z6}(h:c.length=9)(p q r t:Z6):(c++[p,q,r,t])[9]?=some p:=by rw[List.getElem?_append_right Z0,h];rfl
theorem qA2 {c:List Z6}(h:c.length=9)(p q r t:Z6):(c++[p,q,r,t])[10]?=some q:=by rw[List.getElem?_append_right Z0,h];rfl
theorem mX3 {c:List Z6}(h:c.length=9)(l:List Z6):(c++l).take 9=c:=by rw[← h,List.take_left]
theorem oF0 {c:List Z6}(h:c.length=9)(p q r t:Z6):(c++[p,q,r,t]).take 10=c++[p]:=by rw[List.take_append,List.take_of_length_le Z0,h];rfl
theorem mZ3 {c:List Z6}(h:c.length=9)(p q r t:Z6):(c++[p,q,r,t]).drop 10=[q,r,t]:=by rw[List.drop_append,List.drop_of_length_le Z0,h];rfl
theorem oG0 {c:List Z6}(h:c.length=9)(p q r t:Z6):(c++[p,q,r,t]).drop 11=[r,t]:=by rw[List.drop_append,List.drop_of_length_le Z0,h];rfl
theorem lN0 {c:List Z6}(h:c.length=9)(p q r t:Z6):(c++[p,q,r,t]).length=13:=by rw[List.length_append,h];rfl
theorem cP2 (c:List Z6)(p:Z6)(l:List Z6):c++[p]++l=c++p :: l:=by simp
theorem cO2 (c:List Z6)(p q:Z6)(l:List Z6):c++[p,q]++l=c++p :: q :: l:=by simp
theorem mX2 {c:List Z6}(h:c.length=9)(p q r t:Z6):(c++[p,q,r,t]).take 13=c++[p,q,r,t]:=List.take_of_length_le (by rw[lN0 h];exact Z3 _)
theorem qB2 {c:List Z6}(h:c.length=9)(p q r t:Z6):(c++[p,q,r,t]).drop 13=[]:=List.drop_of_length_le (by rw[lN0 h];exact Z3 _)
theorem uB2 (f:Cf)(hf:SmF f)(hR:RS f.t){σ:jA}(hl:σ.lo=1)(hn:1≤σ.next):jH (pp G) H0 44 [cfV f] σ (AgR σ f):=by
 obtain ⟨⟨k,a,b,s,e,l⟩,v,d,n,c⟩:=f
 obtain ⟨ft,fv,J⟩:=hf
 dsimp only at ft fv J hR
 have Y:=gX3 G hR ft
 unfold AgR
 dsimp only
 unfold cfV cfC ivV trV
 rw[uX]
 simp only[List.cons_append,List.nil_append]
 refine jH.fir4 (q:=qq) (jV G) fir44 Z7 rfl rfl (lU0 ..) (by first|exact Nat.le_trans (show NGG≤1 by decide) Z0) ?_;rw[rD2]
 refine S0 ?_
 refine jE.func (cap:=[]) (Y _ (by simp only[jM];exact hl) (by simp only[jB];omega)) ?_
 rintro _ h ⟨p,rfl,I,g⟩
 have H:h.lo=1:=by rw[g.lo];simp only[jM];exact hl
 have M:=g.next
 simp only[jB] at M I
 have j:=I.len
 have E:=I.one
 have N:p.take 9=p:=List.take_of_length_le Z0
 have T:p.drop 9=[]:=List.drop_of_length_le Z0
 have R:(Value.agg ⟨p⟩).cells.toList=p:=rfl
 have c0:cells h σ.next=some ([.int .i64 k,.int .i64 a,.int .i64 b,.string (Tx s),.int .i64 e.k,.int .i64 e.n,.string (Tx e.s),Rw false eE e.l.length (kY e.l),Rw false etm l.length (qN l),Rw false eI v.length (ivs v),Rw false eR d.length (trs d),.int .i64 n,.int .i64 c],42,false):=g.cellsE (by push_cast(disch:=first|omega|(apply id;push_cast;try omega));first|done|rfl) (by simp only[jB];omega) id
 have c1:cells h (σ.next+1)=some ([.int .i64 0,.int .i64 0,.int .i64 0,.string (Tx []),.int .i64 0,.int .i64 0,.string (Tx []),.slice none 0 0,.slice none 0 0,.slice none 0 0,.slice none 0 0,.int .i64 0,.int .i64 0],42,false):=g.cellsE (by push_cast(disch:=first|omega|(apply id;push_cast;try omega));first|done|rfl) (by simp only[jB];omega) id
 have o:=uZ3 j
 have r:=qA2 j
 have A:=mX3 j
 have u:=oF0 j
 have B:=mZ3 j
 have y:=oG0 j
 have i:=lN0 j
 have w:=mX2 j
 have z:=qB2 j
 push_cast(disch:=first|omega|(apply id;push_cast;try omega))[j,E,N,T,R,H,c0,c1,o]
 refine jE.func (cap:=[]) (nF0 G v fv (by simp only[cR];exact H) (by simp only[jP];omega)) ?_
 rintro _ F ⟨C,hv⟩
 have x:F.lo=1:=by rw[C.lo];simp only[cR];exact H
 have V:=C.next
 simp only[jP] at V
 have K:cells F σ.next=some (p++[Rw false eI v.length (ivs v),Rw false eR d.length (trs d),.int .i64 n,.int .i64 c],42,false):=C.cellsE (by push_cast(disch:=first|omega|(apply id;push_cast;try omega));first|done|rfl) (by simp only[jP];omega) id
 have L:cells F (σ.next+1)=some ([.int .i64 0,.int .i64 0,.int .i64 0,.string (Tx []),.int .i64 0,.int .i64 0,.string (Tx []),.slice none 0 0,.slice none 0 0,.slice none 0 0,.slice none 0 0,.int .i64 0,.int .i64 0],42,false):=C.cellsE (by push_cast(disch:=first|omega|(apply id;push_cast;try omega))[c1];first|done|rfl) (by simp only[jP];omega) id
 have D:=mG1 G d J
 unfold trV at D
 have hL0:=i (Rw false eI v.length (ivs v)) (Rw false eR d.length (trs d)) (.int .i64 n) (.int .i64 c)
 rcases hv with ⟨Z,rfl⟩|⟨rfl,c3,X⟩
 ·have P:=i (.slice none 0 0) (Rw false eR d.length (trs d)) (.int .i64 n) (.int .i64 c)
  have m:(p++[.slice none 0 0,Rw false eR d.length (trs d),.int .i64 n,.int .i64 c]).all one=true:=by rw[List.all_append,E];rfl
  push_cast(disch:=first|omega|(apply id;push_cast;try omega))[x,K,L,j,o,r,A,u,B,y,i,cP2,cO2,w,z,m]
  refine dK (D) ?_
  push_cast(disch:=first|omega|(apply id;push_cast;try omega))[x,K,L,j,o,r,A,u,B,y,i,cP2,cO2,w,z,m]
  refine ⟨p,_,h.next,rfl,NTs.mono (lo':=σ.next) (hi':=h.next) (NTs.up I ?_ (Z3 _)) Z0 (Z3 _),.inl ⟨Z,rfl⟩,?_,?_⟩
  ·(repeat (first|assumption|exact jC.refl _ _|refine jC.put'' ?_ _ _ (by intro _;first|(exfalso;omega)|(show _∨_;omega))|refine jC.add' ?_ _|refine jC.tr ?_ C|refine jC.tr ?_ g))
  ·first|omega|(simp only[jP];omega)
  ·(repeat (first|assumption|exact jC.refl _ _|refine jC.put'' ?_ _ _ (by intro _;first|(exfalso;omega)|(show _∨_;omega))|refine jC.add' ?_ _|refine jC.tr ?_ C|refine jC.tr ?_ g))
 ·have P:=i (.slice (some ⟨h.next,0,none⟩) v.length v.length) (Rw false eR d.length (trs d)) (.int .i64 n) (.int .i64 c)
  have m:(p++[.slice (some ⟨h.next,0,none⟩) v.length v.length,Rw false eR d.length (trs d),.int .i64 n,.int .i64 c]).all one=true:=by rw[List.all_append,E];rfl
  push_cast(disch:=first|omega|(apply id;push_cast;try omega))[x,K,L,j,o,r,A,u,B,y,i,cP2,cO2,w,z,m]
  refine dK (D) ?_
  push_cast(disch:=first|omega|(apply id;push_cast;try omega))[x,K,L,j,o,r,A,u,B,y,i,cP2,cO2,w,z,m]
  simp only[jP] at c3 X
  refine ⟨p,_,h.next,rfl,NTs.mono (lo':=σ.next) (hi':=h.next) (NTs.up I ?_ (Z3 _)) Z0 (Z3 _),.inr ⟨h.next,rfl,?_,Z3 _,?_⟩,?_,?_⟩
  ·(repeat (first|assumption|exact jC.refl _ _|refine jC.put'' ?_ _ _ (by intro _;first|(exfalso;omega)|(show _∨_;omega))|refine jC.add' ?_ _|refine jC.tr ?_ C|refine jC.tr ?_ g))
  ·push_cast(disch:=first|omega|(apply id;push_cast;try omega))[c3];first|done|rfl
  ·first|omega|(simp only[jP];omega)
  ·first|omega|(simp only[jP];omega)
  ·(repeat (first|assumption|exact jC.refl _ _|refine jC.put'' ?_ _ _ (by intro _;first|(exfalso;omega)|(show _∨_;omega))|refine jC.add' ?_ _|refine jC.tr ?_ C|refine jC.tr ?_ g))
end
end Go.Proofs.YtklapbhlhjdijaaGreatDoor
namespace Go.Proofs.YtklapbhlhjdijaaGreatDoor
open Go Go.RowKit Go.Ev Go.Dv
noncomputable section
attribute [local push_cast] eq_self iff_self
variable (G:Nat×Nat)
def t2q (x:Int×Int):Z6:=.tuple #[.int .i64 x.1,.int .i64 x.2]
@[push_cast]theorem t2_eq (x:Int×Int):t2q x=.tuple ⟨[.int .i64 x.1,.int .i64 x.2]⟩:=rfl
def addF (a b:Int):Int×Int:=if decide (a<W (a+b)) == decide (0<b) then (W (a+b),0) else (0,8)
def subF (a b:Int):Int×Int:=if decide (W (a-b)<a) == decide (0<b) then (W (a-b),0) else (0,8)
def mulF (a b:Int):Int×Int:=if a≠0∧(W ((W (a*b)).tdiv a)≠b∨a = -1∧b = -9223372036854775808) then (0,8) else (W (a*b),0)
def divF (a b:Int):Int×Int:=if b=0 then (0,9) else if a = -9223372036854775808∧b = -1 then (0,8) else (W (a.tdiv b),0)
def remF (a b:Int):Int×Int:=if b=0 then (0,9) else if b = -1 then (0,0) else (a.tmod b,0)
def zF0 (b:Zb):Int:=if b then 1 else 0
theorem qY0 (b:Zb):jF (pp G) H0 149 [.bool b] (.int .i64 (zF0 b)):=by
 refine cE G eL3 Z7 (oZ0 ..) λh=>?_;rw[kI2]
 cases b with
 | true=>push_cast(disch:=first | omega | (apply id;push_cast;try omega));exact .id rfl
 | false=>push_cast(disch:=first | omega | (apply id;push_cast;try omega));exact .id rfl
theorem add_f (a b:Int):jF (pp G) H0 154 [.int .i64 a,.int .i64 b] (t2q (addF a b)):=by
 refine cE G eG3 Z7 (dM0 ..) λc=>?_;rw[kD2]
 unfold addF W
 cases h:(decide (a<IntKind.i64.wrap (a+b)) == decide (0<b)) with
 | true=>push_cast(disch:=first | omega | (apply id;push_cast;try omega))[h];exact .id rfl
 | false=>push_cast(disch:=first | omega | (apply id;push_cast;try omega))[h];exact .id rfl
theorem kV3 (a b:Int):jF (pp G) H0 150 [.int .i64 a,.int .i64 b] (t2q (subF a b)):=by
 refine cE G eK3 Z7 (dM0 ..) λc=>?_;rw[kH2]
 unfold subF W
 cases h:(decide (IntKind.i64.wrap (a-b)<a) == decide (0<b)) with
 | true=>push_cast(disch:=first | omega | (apply id;push_cast;try omega))[h];exact .id rfl
 | false=>push_cast(disch:=first | omega | (apply id;push_cast;try omega))[h];exact .id rfl
theorem div_f (a b:Int):jF (pp G) H0 152 [.int .i64 a,.int .i64 b] (t2q (divF a b)):=by
 refine cE G eI3 Z7 (dL0 ..) λe=>?_;rw[kF2]
 unfold divF W
 by_cases h:b=0
 ·push_cast(disch:=first|omega|(apply id;push_cast;try omega))[h];exact .id rfl
 by_cases c:a = -9223372036854775808
 ·by_cases d:b = -1
  ·push_cast(disch:=first|omega|(apply id;push_cast;try omega))[h,c,d];exact .id rfl
  ·push_cast(disch:=first|omega|(apply id;push_cast;try omega))[h,c,d];exact .id rfl
 ·push_cast(disch:=first|omega|(apply id;push_cast;try omega))[h,c,false_and];exact .id rfl
theorem rem_f (a b:Int):jF (pp G) H0 153 [.int .i64 a,.int .i64 b] (t2q (remF a b)):=by
 refine cE G eH3 Z7 (wX2 ..) λd=>?_;rw[kE2]
 unfold remF
 by_cases h:b=0
 ·push_cast(disch:=first|omega|(apply id;push_cast;try omega))[h];exact .id rfl
 by_cases c:b = -1
 ·push_cast(disch:=first|omega|(apply id;push_cast;try omega))[h,c];exact .id rfl
 ·push_cast(disch:=first|omega|(apply id;push_cast;try omega))[h,c];exact .id rfl
theorem mul_f (a b:Int):jF (pp G) H0 151 [.int .i64 a,.int .i64 b] (t2q (mulF a b)):=by
 refine cE G eJ3 Z7 (wV2 ..) λj=>?_;rw[kG2]
 by_cases h:a=0
 ·rw[mulF,if_neg (λf=>f.1 h)]
  subst h
  unfold W
  push_cast(disch:=first|omega|(apply id;push_cast;try omega));exact .id rfl
 by_cases d:IntKind.i64.wrap ((IntKind.i64.wrap (a*b)).tdiv a)=b
 ·by_cases e:a = -1
  ·by_cases g:b = -9223372036854775808
   ·rw[mulF,if_pos ⟨h,.inr ⟨e,g⟩⟩]
    subst e g
    have i:IntKind.i64.wrap ((IntKind.i64.wrap 9223372036854775808).tdiv (-1)) = -9223372036854775808:=by decide
    push_cast(disch:=first|omega|(apply id;push_cast;try omega))[i];exact .id rfl
   ·rw[mulF,if_neg (λf=>f.2.elim (λc=>c d) λc=>g c.2)]
    subst e
    push_cast(disch:=first|omega|(apply id;push_cast;try omega))[d,g];exact .id rfl
  ·rw[mulF,if_neg (λf=>f.2.elim (λc=>c d) λc=>e c.1)]
   push_cast(disch:=first|omega|(apply id;push_cast;try omega))[h,d,e];exact .id rfl
 ·rw[mulF,if_pos ⟨h,.inl d⟩]
  push_cast(disch:=first|omega|(apply id;push_cast;try omega))[h,d];exact .id rfl
def oneF (k a:Int):Int×Int:=if k=3 then (zF0 (decide (a=0)),0) else subF 0 a
theorem one_f (k a:Int):jF (pp G) H0 141 [.int .i64 k,.int .i64 a] (t2q (oneF k a)):=by
 refine cE G eR3 Z7 (dN0 ..) λc=>?_;rw[kO2]
 by_cases h:k=3
 ·rw[oneF,if_pos h]
  refine S1 h ?_
  refine dK (qY0 G (decide (a=0))) ?_
  refine S0 ?_
  exact .id rfl
 ·rw[oneF,if_neg h]
  refine S1 h ?_
  refine dK (kV3 G 0 a) ?_
  refine S0 ?_
  exact .id rfl
def twoF (k a b:Int):Int×Int:=
 if k=5 then mulF a b else if k=6 then divF a b else if k=7 then remF a b else if k=8 then addF a b else if k=9 then subF a b
 else if k=10 then (zF0 (decide (a=b)),0) else if k=11 then (zF0 (!decide (a=b)),0) else if k=12 then (zF0 (decide (a<b)),0) else if k=13 then (zF0 (decide (a≤b)),0)
 else if k=14 then (zF0 (decide (b<a)),0) else if k=15 then (zF0 (decide (b≤a)),0) else (zF0 (!decide (b=0)),0)
theorem nS2 (k a b:Int):jF (pp G) H0 142 [.int .i64 k,.int .i64 a,.int .i64 b] (t2q (twoF k a b)):=by
 refine cE G eQ3 Z7 (wY3 ..) λo=>?_;rw[kN2]
 by_cases h:k=5
 ·rw[twoF,if_pos h]
  push_cast(disch:=first|omega|(apply id;push_cast;try omega))[h];refine dK (mul_f G a b) ?_;push_cast(disch:=first|omega|(apply id;push_cast;try omega));exact .id rfl
 by_cases c:k=6
 ·rw[twoF,if_neg h,if_pos c]
  push_cast(disch:=first|omega|(apply id;push_cast;try omega))[h,c];refine dK (div_f G a b) ?_;push_cast(disch:=first|omega|(apply id;push_cast;try omega));exact .id rfl
 by_cases d:k=7
 ·rw[twoF,if_neg h,if_neg c,if_pos d]
  push_cast(disch:=first|omega|(apply id;push_cast;try omega))[h,c,d];refine dK (rem_f G a b) ?_;push_cast(disch:=first|omega|(apply id;push_cast;try omega));exact .id rfl
 by_cases e:k=8
 ·rw[twoF,if_neg h,if_neg c,if_neg d,if_pos e]
  push_cast(disch:=first|omega|(apply id;push_cast;try omega))[h,c,d,e];refine dK (add_f G a b) ?_;push_cast(disch:=first|omega|(apply id;push_cast;try omega));exact .id rfl
 by_cases f:k=9
 ·rw[twoF,if_neg h,if_neg c,if_neg d,if_neg e,if_pos f]
  push_cast(disch:=first|omega|(apply id;push_cast;try omega))[h,c,d,e,f];refine dK (kV3 G a b) ?_;push_cast(disch:=first|omega|(apply id;push_cast;try omega));exact .id rfl
 by_cases g:k=10
 ·rw[twoF,if_neg h,if_neg c,if_neg d,if_neg e,if_neg f,if_pos g]
  push_cast(disch:=first|omega|(apply id;push_cast;try omega))[h,c,d,e,f,g];refine dK (qY0 G (decide (a=b))) ?_;push_cast(disch:=first|omega|(apply id;push_cast;try omega));exact .id rfl
 by_cases j:k=11
 ·rw[twoF,if_neg h,if_neg c,if_neg d,if_neg e,if_neg f,if_neg g,if_pos j]
  push_cast(disch:=first|omega|(apply id;push_cast;try omega))[h,c,d,e,f,g,j];refine dK (qY0 G (!decide (a=b))) ?_;push_cast(disch:=first|omega|(apply id;push_cast;try omega));exact .id rfl
 by_cases l:k=12
 ·rw[twoF,if_neg h,if_neg c,if_neg d,if_neg e,if_neg f,if_neg g,if_neg j,if_pos l]
  push_cast(disch:=first|omega|(apply id;push_cast;try omega))[h,c,d,e,f,g,j,l];refine dK (qY0 G (decide (a<b))) ?_;push_cast(disch:=first|omega|(apply id;push_cast;try omega));exact .id rfl
 by_cases n:k=13
 ·rw[twoF,if_neg h,if_neg c,if_neg d,if_neg e,if_neg f,if_neg g,if_neg j,if_neg l,if_pos n]
  push_cast(disch:=first|omega|(apply id;push_cast;try omega))[h,c,d,e,f,g,j,l,n];refine dK (qY0 G (decide (a≤b))) ?_;push_cast(disch:=first|omega|(apply id;push_cast;try omega));exact .id rfl
 by_cases i:k=14
 ·rw[twoF,if_neg h,if_neg c,if_neg d,if_neg e,if_neg f,if_neg g,if_neg j,if_neg l,if_neg n,if_pos i]
  push_cast(disch:=first|omega|(apply id;push_cast;try omega))[h,c,d,e,f,g,j,l,n,i];refine dK (qY0 G (decide (b<a))) ?_;push_cast(disch:=first|omega|(apply id;push_cast;try omega));exact .id rfl
 by_cases m:k=15
 ·rw[twoF,if_neg h,if_neg c,if_neg d,if_neg e,if_neg f,if_neg g,if_neg j,if_neg l,if_neg n,if_neg i,if_pos m]
  push_cast(disch:=first|omega|(apply id;push_cast;try omega))[h,c,d,e,f,g,j,l,n,i,m];refine dK (qY0 G (decide (b≤a))) ?_;push_cast(disch:=first|omega|(apply id;push_cast;try omega));exact .id rfl
 rw[twoF,if_neg h,if_neg c,if_neg d,if_neg e,if_neg f,if_neg g,if_neg j,if_neg l,if_neg n,if_neg i,if_neg m]
 push_cast(disch:=first|omega|(apply id;push_cast;try omega))[h,c,d,e,f,g,j,l,n,i,m];refine dK (qY0 G (!decide (b=0))) ?_;push_cast(disch:=first|omega|(apply id;push_cast;try omega));exact .id rfl
end
end Go.Proofs.YtklapbhlhjdijaaGreatDoor
namespace Go.Proofs.YtklapbhlhjdijaaGreatDoor
open Go Go.RowKit Go.Ev Go.Dv
noncomputable section
attribute [local push_cast] eq_self iff_self
set_option maxRecDepth 100000
variable (G:Nat×Nat)
mutual
def kP (h:List Int):Ex→Int×Int
 | .mk k n s l=>if k=1 then (n,0) else if k=2 then (h.getD n.toNat 0,0) else
  match bS2 h l with
  | []=>(0,0)
  | a :: r=>if a.2≠0 then (0,a.2) else if l.length=1 then oneF k a.1 else if k=16∧a.1=0 then (0,0) else if k=17∧a.1≠0 then (1,0) else
   match r with
   | []=>(0,0)
   | b :: _=>if b.2≠0 then (0,b.2) else twoF k a.1 b.1
def bS2 (h:List Int):List Ex→List (Int×Int)
 | []=>[]
 | x :: l=>kP h x :: bS2 h l
end
theorem jX3 {h:List Int}{k n:Int}{s:List Zu}{a:Ex}(c:¬ k=1)(b:¬ k=2):kP h (.mk k n s [a])=if (kP h a).2=0 then oneF k (kP h a).1 else (0,(kP h a).2):=by
 rw[kP,if_neg c,if_neg b]
 simp only[bS2,List.length_cons,List.length_nil,if_true,ne_eq,ite_not]
theorem jW3 {h:List Int}{k n:Int}{s:List Zu}{a b:Ex}(c:¬ k=1)(d:¬ k=2):kP h (.mk k n s [a,b])=if (kP h a).2=0 then (if k=16∧(kP h a).1=0 then (0,0) else if k=17∧(kP h a).1≠0 then (1,0) else
   if (kP h b).2=0 then twoF k (kP h a).1 (kP h b).1 else (0,(kP h b).2)) else (0,(kP h a).2):=by
 rw[kP,if_neg c,if_neg d]
 simp only[bS2,List.length_cons,List.length_nil,ne_eq,ite_not,Nat.reduceAdd,Nat.reduceEqDiff,if_false]
theorem mQ2 (c:List Int):∀ x:Ex,qU c.length x=true→jF (pp G) H0 119 [exV x,ivV c] (t2q (kP c x))
 | .mk k n s l,hr=>by
  have y:∀ x∈l,qU c.length x=true→jF (pp G) H0 119 [exV x,ivV c] (t2q (kP c x)):=λx q h=>mQ2 c x h
  simp only[qU,Z5] at hr
  obtain ⟨⟨e,D⟩,z⟩:=hr
  have g:=kX0 z
  refine cE G fG3 Z7 (wP2 ..) λE=>?_;rw[yD2]
  unfold exV exC
  by_cases j:k=1
  ·rw[kP,if_pos j]
   refine S1 j ?_
   exact .id rfl
  by_cases o:k=2
  ·rw[kP,if_neg j,if_pos o]
   have I:0≤n∧n<c.length:=by
    rw[if_neg (λh=>j h.1)] at e
    by_cases q:k=2∧0≤n∧n<c.length
    ·exact q.2
    ·rw[if_neg q,if_neg Z0,if_neg Z0] at e
     cases e
   have F:=uH1 (l:=c) (i:=n.toNat) Z0
   unfold ivV
   refine S3 j o F ?_
   exact .id rfl
  rw[if_neg (λh=>j h.1),if_neg (λh=>o h.1)] at e
  by_cases u:k=3∨k=4
  ·rw[if_pos u,decide_eq_true_eq] at e
   obtain ⟨a,rfl⟩:∃ a,l=[a]:=List.length_eq_one_iff.1 e.1
   have A:=y a (by simp) (g a (by simp))
   rw[jX3 j o]
   refine S2 j o ?_
   refine dK (A) ?_
   by_cases f:(kP c a).2=0
   ·rw[if_pos f]
    refine S1 f ?_
    refine dK (one_f G k (kP c a).1) ?_
    refine S0 ?_
    exact .id rfl
   ·rw[if_neg f]
    refine S1 f ?_
    exact .id rfl
  ·have w : 5 ≤ k ∧ k ≤ 17 := by
    rw[if_neg u] at e
    by_cases q:5≤k∧k≤17
    ·exact q
    ·rw[if_neg q] at e;cases e
   rw[if_neg u,if_pos w,decide_eq_true_eq] at e
   obtain ⟨a,b,rfl⟩:∃ a b,l=[a,b]:=by
    match l,e.1 with
    | [a,b],_=>exact ⟨a,b,rfl⟩
   have A:=y a (by simp) (g a (by simp))
   have B:=y b (by simp) (g b (by simp))
   rw[jW3 j o]
   refine S2 j o ?_
   refine dK (A) ?_
   by_cases f:(kP c a).2=0
   ·rw[if_pos f]
    by_cases p:k=16∧(kP c a).1=0
    ·rw[if_pos p]
     obtain ⟨p,m⟩:=p
     refine S3 f p m ?_
     exact .id rfl
    rw[if_neg p]
    by_cases m:k=17∧(kP c a).1≠0
    ·rw[if_pos m]
     obtain ⟨m,H⟩:=m
     refine S3 f m H ?_
     exact .id rfl
    rw[if_neg m]
    have C:∀ (K:Z6→jA→Prop),True:=λ_=>trivial
    by_cases v:k=16
    ·have t:¬ (kP c a).1=0:=λh=>p ⟨v,h⟩
     subst v
     refine S2 f t ?_
     refine dK (B) ?_
     by_cases d:(kP c b).2=0
     ·rw[if_pos d];push_cast(disch:=first|omega|(apply id;push_cast;try omega))[d];refine dK (nS2 G 16 (kP c a).1 (kP c b).1) ?_;push_cast(disch:=first|omega|(apply id;push_cast;try omega));exact .id rfl
     ·rw[if_neg d];push_cast(disch:=first|omega|(apply id;push_cast;try omega))[d];exact .id rfl
    by_cases t:k=17
    ·have r:(kP c a).1=0:=Classical.byContradiction λh=>m ⟨t,h⟩
     subst t
     refine S2 f r ?_
     refine dK (B) ?_
     by_cases d:(kP c b).2=0
     ·rw[if_pos d];push_cast(disch:=first|omega|(apply id;push_cast;try omega))[d];refine dK (nS2 G 17 0 (kP c b).1) ?_;push_cast(disch:=first|omega|(apply id;push_cast;try omega))[r];exact .id rfl
     ·rw[if_neg d];push_cast(disch:=first|omega|(apply id;push_cast;try omega))[d];exact .id rfl
    refine S3 f v t ?_
    refine dK (B) ?_
    by_cases d:(kP c b).2=0
    ·rw[if_pos d];push_cast(disch:=first|omega|(apply id;push_cast;try omega))[d];refine dK (nS2 G k (kP c a).1 (kP c b).1) ?_;push_cast(disch:=first|omega|(apply id;push_cast;try omega));exact .id rfl
    ·rw[if_neg d];push_cast(disch:=first|omega|(apply id;push_cast;try omega))[d];exact .id rfl
   ·rw[if_neg f]
    refine S1 f ?_
    exact .id rfl
 termination_by x=>SizeOf.sizeOf x
theorem iA3 (h:List Int)(x:Ex)(c:smE x=true)(d:h.length<1000000000)(a:qU h.length x=true):jF (pp G) H0 86 [exV x,ivV h] (t2q (kP h x)):=by
 refine cE G eD3 Z7 (lU0 ..) λb=>?_;rw[iS1]
 unfold ivV
 refine S0 ?_
 refine dK (bS0 G h.length x c) ?_
 refine S1 a ?_
 refine dK (mQ2 G h x a) ?_
 refine S0 ?_
 exact .id rfl
theorem iB3 (h:List Int)(x:Ex)(a:smE x=true)(d:h.length<1000000000)(c:qU h.length x=false):jF (pp G) H0 86 [exV x,ivV h] (t2q (0,4)):=by
 refine cE G eD3 Z7 (lU0 ..) λb=>?_;rw[iS1]
 unfold ivV
 refine S0 ?_
 refine dK (bS0 G h.length x a) ?_
 refine S1 c ?_
 exact .id rfl
def evF (h:List Int)(x:Ex):Int×Int:=if qU h.length x=true then kP h x else (0,4)
theorem ev_f (h:List Int)(x:Ex)(c:smE x=true)(a:h.length<1000000000):jF (pp G) H0 86 [exV x,ivV h] (t2q (evF h x)):=by
 unfold evF
 split
 ·exact iA3 G h x c a (by assumption)
 ·exact iB3 G h x c a (by simpa using ‹¬ qU h.length x=true›)
end
end Go.Proofs.YtklapbhlhjdijaaGreatDoor
namespace Go.Dv
open Go Go.RowKit Go.Ev
noncomputable section
attribute [local push_cast] eq_self iff_self
theorem uJ2 {p:Par}{ro:Z8 Nat}{b c:Code}{s:S}{R l:jK→S→Prop}(h:WPin p ro b c s R)(u:∀ e s',R e s'→l e s'):WPin p ro b c s l:=
 λa d q x w j F n Q r f o v=>h a d q x w j F n Q r f o λe k i g t m=>v e k i g t (u e k m)
def bA1 (l:Nat)(B:S→Prop)(R:jK→S→Prop)(e:jK)(s:S):Prop:=match e with | .goto k=>k=l∧B s|e=>R e s
theorem kR_Gg {l k:Nat}{B:S→Prop}{R:jK→S→Prop}{s:S}:@kR ⟨bA1 l B R⟩ (.goto k) s=(k=l∧B s):=propext Iff.rfl
theorem kR_Gr {l:Nat}{B:S→Prop}{R:jK→S→Prop}{s:S}:@kR ⟨bA1 l B R⟩ .ret s=R .ret s:=propext Iff.rfl
attribute [push_cast] kR_Gg kR_Gr
theorem WinD.start {p:Par}{q:Q}(jV:wB0 p){ro:Z8 Nat}{b c a:Code}{l:Nat}{m:IR}{D:S}{R:jK→S→Prop}{B:S→Prop}(w:findLabel b l=some a)(A:comp p.P c=m)(o:dB p.NG m=true)
  (h:dc3 p q ro m D (@kR ⟨bA1 l B R⟩)) (y:∀ s,B s→WinD p q.H ro b a s R):WinD p q.H ro b c D R:=by
 intro g s u j E d
 rw[qA0] at h
 have C:=jZ0 m o u j E d h
 refine gX0 jV A (gR _ _ _ _ (λe z n=>?_) C)
 obtain ⟨g',D',f,x,r⟩:=n
 change bA1 l B R e D' at f
 cases e with
 | goto k=>
  obtain ⟨rfl,t⟩:=f
  unfold bO0
  dsimp only
  rw[w]
  have v:=y D' t g' z (x.ok u) (by rw[x.lo];exact j) r (λl e=>Nat.lt_of_lt_of_le (d l e) x.nn)
  rw[lP1 x d] at v
  exact uJ2 v λe s' n=>RA.of x n
 | normal=>exact ⟨g',D',f,x,r⟩
 | exit i=>exact ⟨g',D',f,x,r⟩
 | ret=>exact ⟨g',D',f,x,r⟩
theorem WinD.round {p:Par}{q:Q}(jV:wB0 p){ro:Z8 Nat}{b c:Code}{l:Nat}{a:IR}{R:jK→S→Prop}(f:findLabel b l=some c)(k:comp p.P c=a)(d:dB p.NG a=true)(I:Nat→S→Prop)
  (h:∀ n s,I n s→dc3 p q ro a s (@kR ⟨bA1 l (λs'=>∃ m,m<n∧I m s') R⟩)):∀ n s,I n s→WinD p q.H ro b c s R:=by
 intro n
 induction n using Nat.strongRecOn with
 | ind n j=>exact λs g=>WinD.start jV f k d (h n s g) λs' ⟨m,i,e⟩=>j m i s' e
end
end Go.Dv
namespace Go.Proofs.YtklapbhlhjdijaaGreatDoor
open Go Go.RowKit Go.Ev Go.Dv
noncomputable section
attribute [local push_cast] eq_self iff_self
set_option maxRecDepth 100000
variable (G:Nat×Nat)
def blkR:Tm→List Int→List Int→List Int→List Int
 | x,[],r,k=>if x.k=7 then r else k
 | x,i :: p,r,k=>blkR (atT x [i]) p (r++[i]) (if x.k=7 then r else k)
structure AtP (σ:jA)(b off lo hi:Nat)(full:List Z6)(ty:Nat)(t:Tm)(r:List Int)(bq oq lq hq:Nat)(fq:List Z6)(tq:Nat)(x:Tm)(cx:List Z6):Prop where
 l:LocT σ bq oq lq hq fq tq x cx
 x:x=atT t r
 a:gK t r
 w:Wr Tryz.prog lo (λk=>k≠b∧(k<lo∨hi≤k)) σ b off full ty t r bq oq lq hq fq tq
 pos:0<lo
 bi:bq=b∨(lo≤bq∧bq<hi)
 hh:hq≤hi
 lo:lo≤lq
theorem AtP.root {σ:jA}{b off lo hi:Nat}{full:List Z6}{ty:Nat}{t:Tm}{c:List Z6}(h:LocT σ b off lo hi full ty t c)(a:1≤lo):AtP σ b off lo hi full ty t [] b off lo hi full ty t c:=
 ⟨h,by cases t;rfl,.nil,Wr.self (lo:=lo) (hi:=hi),a,.inl rfl,Z3 _,Z3 _⟩
theorem AtP.k {σ:jA}{b off lo hi:Nat}{full:List Z6}{ty:Nat}{t:Tm}{r:List Int}{i c n g:Nat}{e:List Z6}{m:Nat}{x:Tm}{d:List Z6}(h:AtP σ b off lo hi full ty t r i c n g e m x d):e[c]?=some (.int .i64 x.k)∧∀ j v,d[j]?=some v→e[c+j]?=some v:=by
 have f:∀ j v,d[j]?=some v→e[c+j]?=some v:=λj v a=>by
  rw[← h.l.le,List.getElem?_take,List.getElem?_drop] at a
  split at a
  ·exact a
  ·cases a
 refine ⟨?_,f⟩
 have h0:d[0]?=some (.int .i64 x.k):=by
  cases h.l.lt with
  | leaf=>exact zH0 _
  | blk=>rfl
  | seq=>rfl
  | par=>rfl
 exact f 0 _ h0
theorem uZ0:∀ (t:Tm) (p q:List Int),gK t p→atT t (p++q)=atT (atT t p) q
 | t,[],q,_=>by cases t;rfl
 | .mk k a b s e l,i :: p,q,h=>by
  cases h with
  | blk h=>exact uZ0 _ p q h
  | seq h=>exact uZ0 _ p q h
  | parl h=>exact uZ0 _ p q h
  | parr h=>exact uZ0 _ p q h
theorem gK.app:∀ {t:Tm} {p q:List Int},gK t p→gK (atT t p) q→gK t (p++q)
 | t,[],q,_,h=>by cases t;exact h
 | _,_ :: _,_,.blk h,h2=>.blk (h.app h2)
 | _,_ :: _,_,.seq h,h2=>.seq (h.app h2)
 | _,_ :: _,_,.parl h,h2=>.parl (h.app h2)
 | _,_ :: _,_,.parr h,h2=>.parr (h.app h2)
def nG2 (h e b f d ok a c:Nat):Prop:=((h=d∧e=ok)∨(a≤h∧h<c))∧a≤b∧f≤c
def PlR (σ:jA)(b off lo hi:Nat)(full:List Z6)(ty:Nat)(t:Tm)(r k:List Int)(l s:Z6):Prop:=
 ∃ h a g e q m x j c ok d f p n i o,l=.pointer (some ⟨h,a,none⟩)∧s=.pointer (some ⟨c,ok,none⟩)∧AtP σ b off lo hi full ty t r h a g e q m x j∧AtP σ b off lo hi full ty t k c ok d f p n i o∧nG2 h a g e c ok d f
inductive J85 (σ:jA)(b off lo hi:Nat)(full:List Z6)(ty:Nat)(t:Tm)(p:List Int)(K:List Int):Nat→S→Prop
 | mk (q r k:List Int) (f:Zb) (vh vk:Z6) {x0 x2 x3 x6 x7 x8 x9 xA xB xC xD xE xF xG xH xI xJ xK xL xM xN xO xP xQ xR xS:Z6} (hp:r++q=p) (hk:blkR (atT t r) q r k=K) (ha:gK (atT t r) q) (h:PlR σ b off lo hi full ty t r k vh vk) :
  J85 σ b off lo hi full ty t p K q.length ⟨(F29 x0 (Rw f eI q.length (ivs q)) x2 x3 vh vk x6 x7 x8 x9 xA xB xC xD xE xF xG xH xI xJ xK xL xM xN xO xP xQ xR xS),[],σ⟩
theorem PlR.step {σ:jA}{b off lo hi:Nat}{full:List Z6}{ty:Nat}{t:Tm}{r k:List Int}{i:Int}{q:List Int}{C D J B:Nat}{fq:List Z6}{Z:Nat}{x:Tm}{E:List Z6}{j ok n f:Nat}{I:List Z6}{F:Nat}{A:Tm}{H:List Z6}
  (h:AtP σ b off lo hi full ty t r C D J B fq Z x E) (h2:AtP σ b off lo hi full ty t k j ok n f I F A H) (hb:nG2 C D J B j ok n f) (ha:gK (atT t r) (i :: q)) :
  ∃ (g m:Nat),E[8]?=some (.slice (some ⟨g,0,none⟩) m m)∧0≤i∧i<m∧PlR σ b off lo hi full ty t (r++[i]) k (.pointer (some ⟨g,i.toNat*9,none⟩)) (.pointer (some ⟨j,ok,none⟩))∧gK (atT t (r++[i])) q:=by
 have e:=ha
 rw[← h.x] at e
 obtain ⟨g,m,s,z,c,y,Y,X,N,R,e4,e5,T,e7,e8,V,o,v,u,p⟩:=h.l.step (P:=Tryz.prog) rfl h.pos (O:=λk=>k≠b∧(k<lo∨hi≤k)) (λk f=>by have L:=h.bi;have K:=h.hh;have M:=h.lo;obtain ⟨g4,g5⟩:=f;exact ⟨Z0,Z0⟩) h.lo e
 have d:atT t (r++[i])=y:=by rw[uZ0 _ _ _ h.a,← h.x,e5]
 refine ⟨g,m,X,N,R,⟨g,_,s,z,c,etm,y,Y,j,ok,n,f,I,F,A,H,rfl,rfl,⟨e7,d.symm,h.a.app (by rw[← h.x];exact T),?_,h.pos,.inr ⟨by have:=h.lo;omega,by have:=h.hh;omega⟩,by have:=h.hh;omega,by have:=h.lo;omega⟩,h2,?_⟩,by rw[d];exact p⟩
 ·exact Wr.trans h.a h.w (by rw[← h.x];exact u) (.inr ⟨V,o⟩) e8 v
 ·obtain ⟨L,K,M⟩:=hb
  exact ⟨.inr ⟨Z0,Z0⟩,Z0,Z0⟩
theorem gN0 {σ:jA}{b off lo hi:Nat}{full:List Z6}{ty:Nat}{t:Tm}{p K:List Int}(hl:σ.lo=1)(hn:1≤σ.next)(q r k:List Int)(f:Zb)(a d:Z6){x0 x2 x3 x6 x7 x8 x9 Y T I A F j J P V v C z D w E s H M L:Z6}(u:p.length<1000000000)(g:r++q=p)(ha:gK (atT t r) q)(h:PlR σ b off lo hi full ty t r k a d)
  (e:match q with|[]=>k=K|i :: q'=>blkR (atT t (r++[i])) q' (r++[i]) k=K) (B:S→Prop) (hB:∀ s',(∃ m,m<q.length∧J85 σ b off lo hi full ty t p K m s')→B s') (R:Z6→jA→Prop) (hR:∀ a d,PlR σ b off lo hi full ty t p K a d→R (.tuple ⟨[a,d]⟩) σ) :
  dc3 (pp G) qq none iM0 ⟨(F29 x0 (Rw f eI q.length (ivs q)) x2 x3 a d x6 x7 x8 x9 Y T I A F j J P V v C z D w E s H M L),[],σ⟩ (@kR ⟨bA1 0 B (jR Tryz.prog [(.tmp 4),(.tmp 5)] R)⟩):=by
 rw[kK1]
 cases q with
 | nil=>
  rw[List.append_nil] at g
  subst g
  have e:k=K:=e
  subst e
  push_cast(disch:=first|omega|(apply id;push_cast;try omega))[List.length_nil]
  exact hR a d h
 | cons i q=>
  have e:blkR (atT t (r++[i])) q (r++[i]) k=K:=e
  obtain ⟨bq,oq,lq,hq,fq,tq,x,cx,bk,ok,lk,hhk,fk,tk,xk,ck,rfl,rfl,c,h2,hb⟩:=h
  obtain ⟨b1,m,e1,e2,e3,e4,e5⟩:=PlR.step c h2 hb ha
  have hg:=c.k.2 8 _ e1
  have Z:=c.l.lc
  have N:σ.lo≤bq:=by have:=c.lo;have:=c.l.lp;have:=c.l.lt.le;omega
  have hql:q.length<1000000000:=by rw[← g,List.length_append,List.length_cons] at u;omega
  have X:¬ ((q.length:Int)+1=0):=Z0
  have n:(ivs (i :: q))[0]?=some (.int .i64 i):=rfl
  have y:(ivs (i :: q)).length=(q.length+1)*1:=by rw[bD];simp
  have o:(ivs (i :: q)).drop 1=ivs q:=rfl
  push_cast(disch:=first|omega|(apply id;push_cast;try omega))[List.length_cons,X,Z,N,hg,n,y,o,e2,e3]
  exact hB _ ⟨q.length,by simp,J85.mk q (r++[i]) k f _ _ (by rw[List.append_assoc];exact g) e e5 e4⟩
theorem PlR.blk {σ:jA}{b off lo hi:Nat}{full:List Z6}{ty:Nat}{t:Tm}{r:List Int}{a c d i:Nat}{e:List Z6}{f:Nat}{x:Tm}{g:List Z6}(h:AtP σ b off lo hi full ty t r a c d i e f x g):PlR σ b off lo hi full ty t r r (.pointer (some ⟨a,c,none⟩)) (.pointer (some ⟨a,c,none⟩)):=
 ⟨a,c,d,i,e,f,x,g,a,c,d,i,e,f,x,g,rfl,rfl,h,h,.inl ⟨rfl,rfl⟩,Z3 _,Z3 _⟩
theorem sO2 {σ:jA}{b off lo hi:Nat}{full:List Z6}{ty:Nat}{t:Tm}{c:List Z6}(A:LocT σ b off lo hi full ty t c)(J:1≤lo)(D:σ.lo=1)(p:List Int)(f:Zb)(y:p.length<1000000000)(F:gK t p) :
  jH (pp G) H0 85 [.pointer (some ⟨b,off,none⟩),Rw f eI p.length (ivs p)] σ (λv σ'=>σ'=σ∧∃ j u,v=.tuple ⟨[j,u]⟩∧PlR σ b off lo hi full ty t p (blkR t p [] []) j u):=by
 have E:1≤σ.next:=by have:=A.ln;have:=A.lp;have:=A.lt.le;omega
 have h0:=AtP.root A J
 refine jH.fir4 (q:=qq) (jV G) fir85 Z7 rfl rfl (dK0 ..) (by first|exact Nat.le_trans (show NGG≤1 by decide) Z0) ?_;rw[pE2]
 refine S0 ?_
 refine WinD.start (q:=qq) (jV G) bM3 cS2 Z7 (B:=λs=>∃ n,J85 σ b off lo hi full ty t p (blkR t p [] []) n s) ?_ (λs ⟨n,H⟩=>WinD.round (q:=qq) (jV G) bM3 cR2 Z7 (J85 σ b off lo hi full ty t p (blkR t p [] [])) ?_ n s H)
 ·rw[iU1]
  have g:=h0.k.1
  have o:=h0.l.lc
  have d:σ.lo≤b:=by have:=A.lp;have:=A.lt.le;omega
  have C:gK (atT t []) p:=by cases t;exact F
  by_cases z:t.k=7
  ·refine S4 o d g z ?_
   refine gN0 G (σ:=σ) (b:=b) (off:=off) (lo:=lo) (hi:=hi) (full:=full) (ty:=ty) (t:=t) (K:=blkR t p [] []) D E p [] [] f _ _ y rfl C (PlR.blk h0) ?_ _ (λs' ⟨m,_,h⟩=>⟨m,h⟩) _ (λj u h=>⟨rfl,j,u,rfl,h⟩)
   cases p with
   | nil=>simp[blkR]
   | cons i q=>simp[blkR]
  ·refine S4 o d g z ?_
   refine gN0 G (σ:=σ) (b:=b) (off:=off) (lo:=lo) (hi:=hi) (full:=full) (ty:=ty) (t:=t) (K:=blkR t p [] []) D E p [] [] f _ _ y rfl C (PlR.blk h0) ?_ _ (λs' ⟨m,_,h⟩=>⟨m,h⟩) _ (λj u h=>⟨rfl,j,u,rfl,h⟩)
   cases p with
   | nil=>simp[blkR]
   | cons i q=>simp[blkR]
 ·intro n s H
  cases H with|mk q r k f j u M w F h=>
  obtain ⟨L,T,lq,R,fq,X,x,V,bk,ok,N,I,fk,Y,P,Z,rfl,rfl,e,h2,hb⟩:=h
  rw[iT1]
  have g:=e.k.1
  have o:=e.l.lc
  have d:σ.lo≤L:=by have:=e.lo;have:=e.l.lp;have:=e.l.lt.le;omega
  by_cases z:x.k=7
  ·refine S4 o d g z ?_
   refine gN0 G (σ:=σ) (b:=b) (off:=off) (lo:=lo) (hi:=hi) (full:=full) (ty:=ty) (t:=t) (K:=blkR t p [] []) D E q r r f _ _ y M F (PlR.blk e) ?_ _ (λs' h=>h) _ (λj u h=>⟨rfl,j,u,rfl,h⟩)
   rw[← e.x] at w
   cases q with
   | nil=>rw[blkR,if_pos z] at w;exact w
   | cons i q=>rw[blkR,if_pos z,e.x,← uZ0 _ _ _ e.a] at w;exact w
  ·refine S4 o d g z ?_
   refine gN0 G (σ:=σ) (b:=b) (off:=off) (lo:=lo) (hi:=hi) (full:=full) (ty:=ty) (t:=t) (K:=blkR t p [] []) D E q r k f _ _ y M F ⟨L,T,lq,R,fq,X,x,V,bk,ok,N,I,fk,Y,P,Z,rfl,rfl,e,h2,hb⟩ ?_ _ (λs' h=>h) _ (λj u h=>⟨rfl,j,u,rfl,h⟩)
   rw[← e.x] at w
   cases q with
   | nil=>rw[blkR,if_neg z] at w;exact w
   | cons i q=>rw[blkR,if_neg z,e.x,← uZ0 _ _ _ e.a] at w;exact w
theorem qH2 {σ:jA}{bg lo m:Nat}{t:Tm}{cs:List Z6}{p q r s:Z6}(b:cells σ bg=some (cs++[p,q,r,s],42,false))(c:NTs σ lo m t cs)(e:0<bg)(h:bg<lo∨m≤bg)(d:m≤σ.next)(a:bg<σ.next):LocT σ bg 0 lo m (cs++[p,q,r,s]) 42 t cs:=
 ⟨b,by rw[lN0 c.len];decide,h,a,by rw[List.drop_zero,mX3 c.len],c,e,d⟩
mutual
theorem iZ0 {P:Z9}{n:Nat}{σ σ':jA}(a:∀ i x,n≤i→cells σ i=some x→cells σ' i=some x):∀ {v d:Z6},FzV P n σ v d→FzV P n σ' v d
 | _,_,.id h=>.id h
 | _,_,.nil hs hp=>.nil hs hp
 | _,_,.sl hlo hc hs hp hle hcap hd=>.sl hlo (a _ _ hlo hc) hs hp hle hcap (cG a hd)
 | _,_,.ptr hlo hc hlt hd=>.ptr hlo (a _ _ hlo hc) hlt (cG a hd)
 | _,_,.row hd=>.row (cG a hd)
 | _,_,.agg hd=>.agg (cG a hd)
 | _,_,.tup hd=>.tup (cG a hd)
 | _,_,.fn hd=>.fn (cG a hd)
theorem cG {P:Z9}{n:Nat}{σ σ':jA}(a:∀ i x,n≤i→cells σ i=some x→cells σ' i=some x):∀ {v d:List Z6},FzL P n σ v d→FzL P n σ' v d
 | _,_,.nil=>.nil
 | _,_,.cons h hs=>.cons (iZ0 a h) (cG a hs)
end
theorem sX0 {P:Z9}{n:Nat}{σ:jA}{b:Nat}{X:qW}(c:b<n){v d:List Z6}(h:FzL P n σ v d):FzL P n (σ.put b X) v d:=
 cG (λi x hi a=>(jL _ _ _ Z0).trans a) h
end
end Go.Proofs.YtklapbhlhjdijaaGreatDoor
namespace Go.Dv
open Go Go.RowKit Go.Ev
noncomputable section
attribute [local push_cast] eq_self iff_self
structure wY2 (P:Z9)(n:Nat)(σ σ1:jA):Prop where
 next:σ1.next=σ.next
 lo:σ1.lo=σ.lo
 nl:σ.lo≤n
 nn:n≤σ.next
 get:∀ i,(n≤i∧σ1.get i=none)∨(i<n∧σ1.get i=σ.get i)∨(σ.lo≤i∧i<n∧∃ cs cs1 e fr fr1 m,σ.get i=some ⟨.cells ⟨cs⟩ e fr,m⟩∧σ1.get i=some ⟨.cells ⟨cs1⟩ e fr1,m⟩∧FzL P n σ cs cs1∧cs1.all one=true)
theorem cM2 {P:Z9}{g:Gh}{n:Nat}{σ d h:jA}(a:Rel g σ h)(C:g.P=P)(k:wY2 P n σ d):Ext g σ h (g.all n σ) d h∧Rel (g.all n σ) d h:=by
 have q:=a.lon
 have e0:Ext0 g h σ.next (g.all n σ) h σ.next:=⟨rfl,Z3 _,λ_ _=>rfl,λ_ c=>.inl c,Z3 _,rfl,λ_ _ _=>rfl⟩
 have own:∀ i,kZ d i→kZ σ i∧i<n:=λi ⟨u,s,r⟩=>by
  rw[k.lo] at u
  rw[k.next] at s
  rcases k.get i with ⟨_,f⟩|⟨o,f⟩|⟨_,o,cs,v,e,z,w,m,x,_⟩
  ·rw[f] at r;cases r
  ·rw[f] at r;exact ⟨⟨u,s,r⟩,o⟩
  ·exact ⟨⟨u,s,by rw[x];rfl⟩,o⟩
 have low:∀ i,i<σ.lo→d.get i=σ.get i:=λi hi=>by
  have:=k.nl
  rcases k.get i with ⟨o,_⟩|⟨_,f⟩|⟨o,_⟩
  ·omega
  ·exact f
  ·omega
 refine ⟨⟨rfl,rfl,by rw[k.next];exact Z3 _,k.lo,Z3 _,rfl,λ_ _=>rfl,λ_ c=>.inl c,λb c=>?_,λ_ _ _=>rfl,λi hi=>.inl (own i hi).1⟩,?_⟩
 ·rcases c with c|⟨i,hi,_,e⟩
  ·exact .inl c
  ·exact .inr (.inr ⟨i,hi,e⟩)
 refine ⟨by rw[k.lo];exact a.pos,by rw[k.lo];exact a.lo,by rw[k.lo,k.next];exact q,a.hlo,λi hi=>?_,λi y hi l=>?_,λi hi=>?_,λi y hi l=>?_,λi hi=>a.dlt i (by rw[k.next] at hi;exact hi),λi hi=>a.dlo i (own i hi).1,λi j hi p e=>a.inj i j (own i hi).1 (own j p).1 e,λb c=>?_,a.wf⟩
 ·rw[k.lo] at hi
  rw[low i hi];exact a.base i hi
 ·rw[k.lo] at hi
  rw[low i hi] at l;exact a.baseF i y hi l
 ·rw[k.lo] at hi
  rw[low i hi];exact a.baseD i hi
 ·rw[k.next] at hi ⊢
  rw[k.lo]
  rcases k.get i with ⟨_,f⟩|⟨_,f⟩|⟨o,x,cs,v,e,z,w,m,D,B,E,t⟩
  ·rw[f] at l;cases l
  ·exact (a.obj i y hi (by rw[← f];exact l)).ext e0 rfl
  ·rw[B] at l
   cases l
   obtain ⟨vs,A,q1,q2,q3,H⟩:=a.obj i _ hi D
   exact ⟨vs,A,q1,q2,RVL.ext ⟨rfl,k.nn,λ_ _=>rfl,λ_ c=>c,Z3 _,rfl,λ_ _ _=>rfl⟩ _ _ (gW a C k.nl k.nn E q3),t⟩
 ·rcases c with c|⟨i,hi,F,rfl⟩
  ·exact ⟨(a.frz b c).1,λj p=>(a.frz b c).2 j (own j p).1⟩
  ·refine ⟨a.dlt i hi.2.1,λj p e=>?_⟩
   have:=a.inj j i (own j p).1 hi e
   have:=(own j p).2
   omega
theorem jH.drop {p:Par}{H:jA}{f:FuncId}{args:List Z6}{σ:jA}{R l:Z6→jA→Prop}(q:jH p H f args σ R)(h:∀ v σ',R v σ'→∃ n d a,l d a∧FzV p.P n σ' v d∧wY2 p.P n σ' a):jH p H f args σ l:=by
 intro g h0 vs k m z
 refine (q g h0 vs k m z).mono ?_
 rintro u A ⟨v,σ',r,g',x,b,j,_⟩
 obtain ⟨n,d,a,s,o,i⟩:=h v σ' r
 have c:=x.ok k
 obtain ⟨t,w⟩:=cM2 b c.1 i
 refine ⟨d,a,s,_,x.trans t,w,?_,λe=>by cases e⟩
 rw[i.next]
 exact RV.ext ⟨rfl,i.nn,λ_ _=>rfl,λ_ y=>y,Z3 _,rfl,λ_ _ _=>rfl⟩ _ _ (eQ0 b c.1 i.nl i.nn o j)
def jV2 (n b:Nat)(x:qW)(σ:jA):jA:=(bA (λi=>Nat.blt i n) σ).put b x
theorem cS1 {P:Z9}{n b:Nat}{σ:jA}{cs h:List Z6}{e:Zt}{m:Zb}(k:σ.lo≤b)(g:b<n)(a:n≤σ.next)(d:cells σ b=some (cs,e,m))(j:FzL P n σ cs h)(c:h.all one=true):wY2 P n σ (jV2 n b (O h e m) σ):=by
 obtain ⟨f,l⟩:=gM d
 refine ⟨rfl,rfl,Z0,a,λi=>?_⟩
 unfold jV2
 by_cases e:i=b
 ·subst e
  exact .inr (.inr ⟨k,g,cs,h,_,f,(0,0),m,l,uV _ _,j,c⟩)
 ·rw[qC _ _ _ e,dO]
  by_cases hi:i<n
  ·rw[if_pos (by simpa using hi)];exact .inr (.inl ⟨hi,rfl⟩)
  ·rw[if_neg (by simpa using hi)];exact .inl ⟨Z0,rfl⟩
theorem jH.borrow {p:Par}{H:jA}{f:FuncId}{args a:List Z6}{σ:jA}{d:Z6}(C:jF p H f a d)(B:FzL p.P σ.lo σ args a)(t:Ev.flat d=true):jH p H f args σ λv σ'=>v=d∧σ'=σ:=by
 intro g h vs n j J
 have o:=j.lo
 rw[n.2] at o
 have k:=j.lon
 have no:∀ i,¬ kZ H i:=λi hi=>by have:=hi.1;have:=hi.2.1;omega
 have w:=jS0 j (m:=σ.lo)
 have s:g.H0=H:=n.2
 have I:=gW j n.1 (Z3 _) k B J
 have r:=o.1
 have q:RVL (Gh.all g σ.lo σ) h H.next a vs:=by rw[← r];exact I
 refine (C (Gh.all g σ.lo σ) h _ ⟨n.1,n.2⟩ (by rw[s] at w;exact w) q).mono ?_
 rintro u D ⟨g',x,z,y⟩
 have l:Agr h D:=λb c=>x.fr b c λi hi=>absurd hi (no i)
 obtain ⟨A,e0⟩:=j.same l x.next x.hlo z.wf (F':=g.F) (λb c=>⟨Nat.lt_of_lt_of_le (j.frz b c).1 x.next,λi hi=>(j.frz b c).2 i hi⟩) (λb c=>c)
 have E:=RV.flat _ _ t y
 subst E
 exact ⟨_,σ,⟨rfl,rfl⟩,_,⟨rfl,rfl,Z3 _,rfl,x.next,x.hlo,λ_ _=>rfl,λb c=>c,λb c=>.inl c,λb c _=>l b c,λi hi=>.inl hi⟩,A,RV.of_flat _ t,λe=>by cases e⟩
end
end Go.Dv
namespace Go.Proofs.YtklapbhlhjdijaaGreatDoor
open Go Go.RowKit Go.Ev Go.Dv
noncomputable section
attribute [local push_cast] eq_self iff_self
set_option maxRecDepth 100000
variable (G:Nat×Nat)
theorem dD2 (h:List Int)(k a b:Int)(s:List Zu)(e:Ex)(x y:Tm)(l:smE e=true)(g:h.length<1000000000){σ:jA}(c:σ.lo=1)(m:1≤σ.next){vv:Z6}(j:∀ σ',jC σ σ' (λ_=>False)→FzV Tryz.prog 1 σ' vv (ivV h)) :
  jH (pp G) H0 91 [tmV (.mk k a b s e [x,y]),vv] σ (λv σ'=>v=.tuple ⟨[tmV (if (evF h e).1=0 then y else x),.int .i64 (evF h e).2]⟩∧jC σ σ' (λ_=>False)):=by
 have d:=ev_f G h e l g
 generalize evF h e=r at *
 obtain ⟨n,o⟩:=r
 refine jH.fir4 (q:=qq) (jV G) fir91 Z7 rfl rfl (wW2 ..) (by first|exact Nat.le_trans (show NGG≤1 by decide) Z0) ?_;rw[oZ2]
 refine S0 ?_
 refine jE.func (cap:=[]) (jH.borrow d (.cons (.id (eU0 _ (by simp only[jM];omega) _)) (.cons (by simp only[jM];rw[c];exact j _ (((jC.add _ _ _).add' _))) .nil)) rfl) ?_
 rintro _ _ ⟨rfl,f⟩
 rw[f]
 clear f
 have i:tmC (if n=0 then y else x)=if n=0 then tmC y else tmC x:=by split<;>rfl
 unfold t2q
 by_cases h0:n=0
 ·rw[if_pos (by exact h0)]
  refine S1 @h0 ?_
  (repeat (first|assumption|exact jC.refl _ _|refine jC.put' ?_ _ _ (by first|omega|(simp only[push_cast];omega))|refine jC.add' ?_ _))
 ·rw[if_neg (by exact h0)]
  refine S1 @h0 ?_
  (repeat (first|assumption|exact jC.refl _ _|refine jC.put' ?_ _ _ (by first|omega|(simp only[push_cast];omega))|refine jC.add' ?_ _))
structure Dd where
 t:Tm
 v:List Int
 st:List (List Tm)
 key:Int
 en:List Zu
 ek:Int
 e:Int
def kI (c:Co)(f:Cf)(h:Int):Tm→Dd
 | .mk k a b s ex l=>
  if k=1 then ⟨.mk 14 f.key a s zE [],f.v,f.st,W (f.key+1),s,f.key,0⟩
  else if k=2 then ⟨zT,f.v.set a.toNat (evF f.v ex).1,f.st,f.key,[],0,(evF f.v ex).2⟩
  else if k=3 then ⟨zT,f.v,bQ f.st a (f.st.getD a.toNat []++[l.getD 0 zT]),f.key,[],0,0⟩
  else if k=4 then ⟨revF (f.st.getD a.toNat []),f.v,bQ f.st a [],f.key,[],0,0⟩
  else if k=5 then ⟨zT,f.v,bQ f.st a [],f.key,[],0,0⟩
  else if k=6 then ⟨zT,f.v,yV0 f.st a b,f.key,[],0,0⟩
  else if k=9 then ⟨if (evF f.v ex).1=0 then l.getD 1 zT else l.getD 0 zT,f.v,f.st,f.key,[],0,(evF f.v ex).2⟩
  else if k=10 then ⟨l.getD h.toNat zT,f.v,f.st,f.key,[],0,0⟩
  else if k=13 then ⟨c.p.getD a.toNat zT,f.v,f.st,f.key,[],0,0⟩
  else ⟨zT,f.v,f.st,f.key,[],0,0⟩
def SOk (c:Co)(f:Cf)(h:Int):Tm→Prop
 | .mk k a b s ex l=>
  (k=2→0≤a∧a<f.v.length∧smE ex=true)∧(k=3→0≤a∧a<f.st.length∧∃ y,l=[y]∧smT y=true)∧(k=4→0≤a∧a<f.st.length)∧(k=6→(0≤a∧a<f.st.length)∧0≤b∧b<f.st.length)∧
  (k=9→smE ex=true∧∃ y z,l=[y,z])∧(k=10→(∃ y z,l=[y,z])∧0≤h∧h<2)∧(k=13→0≤a∧a<c.p.length)∧(k=1∨k=2∨k=3∨k=4∨k=5∨k=6∨k=8∨k=9∨k=10∨k=13)
def stepT (c:Co)(f:Cf)(p:List Int)(h:Int):Tm:=if (atT f.t p).k=8 then bC f.t (blkR f.t p [] []) zT else bC f.t p (kI c f h (atT f.t p)).t
def StR (σ:jA)(bg lo:Nat)(T:Tm)(n:Int)(d:Dd)(v:Z6)(σ':jA):Prop:=
 v=.tuple ⟨[.agg ⟨[.string (Tx d.en),.int .i64 d.ek,.int .i64 0]⟩,.int .i64 d.e]⟩∧∃ a h,a.length=9∧cells σ' bg=some (a++[h,trV d.st,.int .i64 n,.int .i64 d.key],42,false)∧FzL Tryz.prog lo σ' a (tmC T)∧FzV Tryz.prog lo σ' h (ivV d.v)∧jC σ σ' (λk=>k=bg∨lo≤k)
theorem VrR.fz {P:Z9}(a:szT P eI=some 1){σ:jA}{m n:Nat}{l:List Int}{v:Z6}(h:VrR σ m l v)(e:n≤m)(g:l.length<100000000000):FzV P n σ v (ivV l):=by
 rcases h with ⟨rfl,rfl⟩|⟨b,rfl,c,d,f⟩
 ·exact .nil (size:=1) a Z1
 ·refine .sl Z0 c a Z1 (by rw[bD];omega) (.inl ⟨by simp only[UC];omega,Z3 _⟩) ?_
  rw[List.drop_zero,List.take_of_length_le (by rw[bD];omega)]
  exact .ids (qS0 _ _)
theorem VrR.grew {σ σ':jA}{m:Nat}{l:List Int}{v:Z6}{S:Nat→Prop}(h:VrR σ m l v)(g:jC σ σ' S)(d:∀ k,m≤k→k<σ.next→¬ S k):VrR σ' m l v:=by
 rcases h with h|⟨b,rfl,e,c,a⟩
 ·exact .inl h
 ·exact .inr ⟨b,rfl,g.cellsE e a (d b c a),c,Nat.lt_of_lt_of_le a g.next⟩
theorem mY3 {c:List Z6}(h:c.length=9)(p q r t:Z6):(c++[p,q,r,t]).take 12=c++[p,q,r]:=by rw[List.take_append,List.take_of_length_le Z0,h];rfl
theorem cx_a3 (c:List Z6)(p q r:Z6)(l:List Z6):c++[p,q,r]++l=c++p :: q :: r :: l:=by simp
theorem lK1 {H:jA}{b:Nat}{cs:List Z6}{e:Zt}{m:Zb}(a:cells H b=some (cs,e,m))(n:Nat)(i:Nat)(x:List Z6×Zt×Zb)(_:n≤i)(h:cells H i=some x):cells (H.put b (O cs e m)) i=some x:=by
 by_cases hi:i=b
 ·subst hi
  rw[a] at h
  cases h
  exact jX _ _ _ _
 ·exact (jL _ _ _ hi).trans h
theorem lA0 {P:Z9}{n:Nat}{H:jA}{b:Nat}{cs:List Z6}{e:Zt}{m:Zb}(a:cells H b=some (cs,e,m)){v d:List Z6}(h:FzL P n H v d):FzL P n (H.put b (O cs e m)) v d:=cG (lK1 a n) h
theorem sJ0:∀ (l:List Int) (i:Nat) (x:Int),i<l.length→List.take i (ivs l)++[.int .i64 x]++List.drop (i+1) (ivs l)=ivs (l.set i x)
 | y :: l,0,x,_=>rfl
 | y :: l,i+1,x,h=>congrArg (Value.int .i64 y :: ·) (sJ0 l i x (by simpa using h))
theorem set2 {a c:List Z6}{h:Nat}(f:h+9≤a.length)(b:c.length=9):List.take h (setFrom a h ztm)++c++List.drop (h+9) (setFrom a h ztm)=setFrom a h c:=by
 unfold setFrom
 have e:List.take h (List.take h a++ztm++List.drop (h+ztm.length) a)=List.take h a:=by rw[List.append_assoc,List.take_append_of_le_length (by rw[List.length_take];omega),List.take_take,Nat.min_self]
 have d:List.drop (h+9) (List.take h a++ztm++List.drop (h+ztm.length) a)=List.drop (h+9) a:=by rw[List.drop_append,List.drop_of_length_le (by simp[List.length_take,ztm];omega),List.nil_append,List.length_append,List.length_take,show ztm.length=9 from rfl,Nat.min_eq_left Z0,Nat.sub_self,List.drop_zero]
 rw[e,d,b]
theorem kW3 (c:Co)(f:Cf)(j:St){σ:jA}{bg m lo:Nat}{cs:List Z6}{vv:Z6}(hl:σ.lo=1)(hn:1≤σ.next)(hlo:1≤lo)(hc:cells σ bg=some (cs++[vv,trV f.st,.int .i64 f.n,.int .i64 f.key],42,false))(hN:NTs σ lo m f.t cs)(hb:0<bg)(hbl:bg<lo)(hm:m≤σ.next)(hbn:bg<σ.next)
  (hp:j.p.length<1000000000) (ha:gK f.t j.p) (hv:VrR σ m f.v vv) (hf:SmF f) (hrl:∀ i:Nat,(f.st.getD i []).length<50000000000) (hvl:f.v.length<1000000000) (hok:SOk c f j.a (atT f.t j.p)) :
  jH (pp G) H0 45 [coV c,.pointer (some ⟨bg,0,none⟩),.agg ⟨stC j⟩] σ (StR σ bg lo (stepT c f j.p j.a) f.n (kI c f j.a (atT f.t j.p))):=by
 unfold coV coC ivV qP stC
 refine jH.fir4 (q:=qq) (jV G) fir45 Z7 rfl rfl (iW2 ..) (by first|exact Nat.le_trans (show NGG≤1 by decide) Z0) ?_;rw[rC2]
 refine S0 ?_
 have g0:∀ X Y Z,jC σ (((σ.add X).add Y).add Z) (λ_=>False):=λX Y Z=>((jC.add _ _ _).trans (jC.add _ _ _) λ_ _ h=>h).trans (jC.add _ _ _) λ_ _ h=>h
 have hL:=λX Y Z=>qH2 ((g0 X Y Z).cellsE hc hbn id) (NTs.grew hN (g0 X Y Z) (λ_ _ _ h=>h) hm) hb (.inl hbl) (by simp only[jB];omega) (by simp only[jB];omega)
 refine jE.func (cap:=[]) (sO2 G (hL _ _ _) hlo (by simp only[jM];exact hl) j.p false hp ha) ?_
 rintro _ _ ⟨rfl,vh,vk,rfl,hP⟩
 obtain ⟨J,E,lq,hq,P,tq,x,cx,bk,ok,lk,hhk,fk,tk,xk,ck,rfl,rfl,C,h2,hbb⟩:=hP
 have hcq:=C.l.lc
 have hwq:=C.l.lw
 have hle:=C.l.le
 have hpq:=C.l.lp
 have hlnq:=C.l.ln
 simp only[jB] at hlnq
 have h9:=C.l.lt.len
 have h91:=C.l.lt.one
 have hk0:=C.l.lt.k0
 have ht9:cx.take 9=cx:=List.take_of_length_le Z0
 have hd9:cx.drop 9=[]:=List.drop_of_length_le Z0
 have hcc:(Value.agg ⟨cx⟩).cells.toList=cx:=rfl
 have hloq:σ.lo≤J:=Z0
 push_cast(disch:=first|omega|(apply id;push_cast;try omega))[hcq,hwq,hle,h9,h91,hk0,ht9,hd9,hcc,hl]
 generalize hH:((((((σ.add (O [Rw false eI c.v.length (ivs c.v),.int .i64 c.s,Rw false etm c.p.length (qN c.p),.int .i64 c.m] 28 false)).add (O [.int .i64 j.k,Rw false eI j.p.length (ivs j.p),.int .i64 j.a] 62 false)).add (O [.string (Tx []),.int .i64 0,.int .i64 0] 46 false)).add (O [.int .i64 0,.int .i64 0,.int .i64 0,.string (Tx []),.int .i64 0,.int .i64 0,.string (Tx []),.slice none 0 0,.slice none 0 0] 34 false)).put (σ.next+1+1+1) (O cx 34 false)).put J (O (List.take E P++[.int .i64 0,.int .i64 0,.int .i64 0,.string (Tx []),.int .i64 0,.int .i64 0,.string (Tx []),.slice none 0 0,.slice none 0 0]++List.drop (E+9) P) tq false))=H
 have hw:=C.w H
 have F:H.lo=1:=by rw[← hH];simp only[jM,cR];exact hl
 have hnH:H.next=σ.next+4:=by rw[← hH];simp only[jB,jP]
 have V:cells H J=some (setFrom P E ztm,tq,false):=by rw[← hH];exact jX _ _ _ _
 have u:cells H (σ.next+1+1+1)=some (cx,etm,false):=by rw[← hH];refine (jL _ _ _ Z0).trans (jX _ _ _ _)
 have D:J≠σ.next+1+1:=λee=>by
  have h3:=hcq
  rw[ee,qM _ _ _ _ (by simp only[jB])] at h3
  simp only[Option.some.injEq,Prod.mk.injEq] at h3
  rw[← h3.1] at hwq
  simp at hwq
 have L:cells H (σ.next+1+1)=some ([.string (Tx []),.int .i64 0,.int .i64 0],46,false):=by rw[← hH];refine (jL _ _ _ Z0).trans ((jL _ _ _ Z0).trans ((kG _ _ (by simp only[jB];omega)).trans (qM _ _ _ _ (by simp only[jB]))))
 have hzf:FzL Tryz.prog lo H ztm (tmC zT):=by cases lW0 Tryz.prog lo H with|agg h=>exact h
 have gw:jC (((σ.add _).add _).add _) H (λk=>(k=J∨(lq≤k∧k<hq))∨(k≠bg∧(k<lo∨m≤k))):=(by rw[← hH];exact ((jC.add _ _ _).trans (jC.put _ _ _ (S:=λk=>k=σ.next+1+1+1) λ_=>rfl) λi hi h=>absurd h (by simp only[jB] at hi;omega)).trans (jC.put _ _ _ (S:=λk=>(k=J∨(lq≤k∧k<hq))∨(k≠bg∧(k<lo∨m≤k))) λ_=>.inl (.inl rfl)) λi hi h=>h)
 obtain ⟨c',hc9,N,hfz⟩:=hw zT ztm rfl gw V hzf
 have hsf:∀ l:List Z6,setFrom (cs++l) 0 c'=c'++l:=λl=>by unfold setFrom;rw[List.take_zero,List.nil_append,Nat.zero_add,hc9,List.drop_left' hN.len]
 rw[hsf] at N
 obtain ⟨kx,o,R,B,ex,lx⟩:=x
 have hgq:=uZ3 hc9
 have hnz:(σ.next+1+1)≠J:=λh=>D h.symm
 have hlm:=hN.le
 have gq:jC σ H (λk=>k=J):=by rw[← hH];(repeat (first|assumption|exact jC.refl _ _|refine jC.put'' ?_ _ _ (by intro _;first|(exfalso;omega)|rfl)|refine jC.add' ?_ _))
 have hvb:∀ k,m≤k→k<σ.next→¬ k=J:=λk h3 h4 e=>by have:=C.bi;omega
 have hvH:VrR H m f.v vv:=hv.grew gq hvb
 have gL:jC σ H (λk=>k=bg∨lo≤k):=gq.mono λk hk e=>by have:=C.bi;omega
 rw[← C.x] at hok ⊢
 have hW:∀ (Hf:jA),jC H Hf (λk=>(k=J∨(lq≤k∧k<hq))∨(k≠bg∧(k<lo∨m≤k)))→∀ (y:Tm) (cy:List Z6),cy.length=9→cells Hf J=some (setFrom P E cy,tq,false)→FzL Tryz.prog lo Hf cy (tmC y)→∃ c',c'.length=9∧cells Hf bg=some (c'++[vv,trV f.st,.int .i64 f.n,.int .i64 f.key],42,false)∧FzL Tryz.prog lo Hf c' (tmC (bC f.t j.p y)):=by
  intro Hf hg y cy K h6 h7
  obtain ⟨c3,d1,d2,d3⟩:=C.w Hf y cy K (gw.trans hg λk _ h=>h) h6 h7
  refine ⟨c3,d1,?_,d3⟩
  rw[d2]
  unfold setFrom
  rw[List.take_zero,List.nil_append,Nat.zero_add,d1,List.drop_left' hN.len]
 by_cases k1:kx=1
 ·obtain rfl:kx=1:=k1
  have I:cx=tmC (.mk 1 o R B ex lx):=by cases C.l.lt;rfl
  rw[I,uX] at u
  have hgk:∀ p q r s:Z6,(c'++[p,q,r,s])[12]?=some s:=λp q r s=>by rw[List.getElem?_append_right Z0,hc9];rfl
  have A:(Tm.mk 1 o R B ex lx).k=1:=rfl
  have hsl:(setFrom P E ztm).length=P.length:=by simp only[setFrom,List.length_append,List.length_take,List.length_drop,show ztm.length=9 from rfl];omega
  have hls:E+9≤(List.take E P++ztm++List.drop (E+ztm.length) P).length:=by have:=hsl;unfold setFrom at this;rw[this];exact hwq
  have hloH:H.lo≤J:=Z0
  push_cast(disch:=first|omega|(apply id;push_cast;try omega))[A,u,N,L,V,F,hgq,hgk,hls,D]
  generalize hH2:(H.put (σ.next+1+1) (O [.string (Tx B),.int .i64 f.key,.int .i64 0] 46 false)).put J (O (List.take E (List.take E P++ztm++List.drop (E+ztm.length) P)++[.int .i64 14,.int .i64 f.key,.int .i64 o,.string (Tx B),.int .i64 0,.int .i64 0,.string (Tx []),.slice none 0 0,.slice none 0 0]++List.drop (E+9) (List.take E P++ztm++List.drop (E+ztm.length) P)) tq false)=H2
  have hlH2:H2.lo=1:=by rw[← hH2];simp only[cR];exact F
  have hnH2:H2.next=σ.next+4:=by rw[← hH2];simp only[jP];exact hnH
  have hss:List.take E (List.take E P++ztm++List.drop (E+ztm.length) P)++[.int .i64 14,.int .i64 f.key,.int .i64 o,.string (Tx B),.int .i64 0,.int .i64 0,.string (Tx []),.slice none 0 0,.slice none 0 0]++List.drop (E+9) (List.take E P++ztm++List.drop (E+ztm.length) P)=setFrom P E [.int .i64 14,.int .i64 f.key,.int .i64 o,.string (Tx B),.int .i64 0,.int .i64 0,.string (Tx []),.slice none 0 0,.slice none 0 0]:=set2 hwq rfl
  have hb2:cells H2 J=some (setFrom P E [.int .i64 14,.int .i64 f.key,.int .i64 o,.string (Tx B),.int .i64 0,.int .i64 0,.string (Tx []),.slice none 0 0,.slice none 0 0],tq,false):=by rw[← hH2,← hss];exact jX _ _ _ _
  have hyf:FzL Tryz.prog lo H2 [.int .i64 14,.int .i64 f.key,.int .i64 o,.string (Tx B),.int .i64 0,.int .i64 0,.string (Tx []),.slice none 0 0,.slice none 0 0] (tmC (.mk 14 f.key o B zE [])):=by
   rw[uX]
   exact .cons (.id rfl) (.cons (.id rfl) (.cons (.id rfl) (.cons (.id rfl) (.cons (.id rfl) (.cons (.id rfl) (.cons (.id rfl) (.cons (.nil (size:=4) rfl Z1) (.cons (.nil (size:=9) rfl Z1) .nil))))))))
  obtain ⟨c2,hc2,hg2,hf2⟩:=C.w H2 (.mk 14 f.key o B zE []) [.int .i64 14,.int .i64 f.key,.int .i64 o,.string (Tx B),.int .i64 0,.int .i64 0,.string (Tx []),.slice none 0 0,.slice none 0 0] rfl (by
   rw[← hH2,← hH]
   refine (((((jC.add _ _ _).trans (jC.put _ _ _ (S:=λk=>k=σ.next+1+1+1) λ_=>rfl) λi hi h=>absurd h (by simp only[jB] at hi;omega)).trans (jC.put _ _ _ (S:=λk=>(k=J∨(lq≤k∧k<hq))∨(k≠bg∧(k<lo∨m≤k))) λ_=>.inl (.inl rfl)) λi hi h=>h).trans (jC.put _ _ _ (S:=λk=>(k=J∨(lq≤k∧k<hq))∨(k≠bg∧(k<lo∨m≤k))) λ_=>.inr ⟨Z0,.inr Z0⟩) λi hi h=>h).trans (jC.put _ _ _ (S:=λk=>(k=J∨(lq≤k∧k<hq))∨(k≠bg∧(k<lo∨m≤k))) λ_=>.inl (.inl rfl)) λi hi h=>h)) hb2 hyf
  have hsf2:∀ l:List Z6,setFrom (cs++l) 0 c2=c2++l:=λl=>by unfold setFrom;rw[List.take_zero,List.nil_append,Nat.zero_add,hc2,List.drop_left' hN.len]
  rw[hsf2] at hg2
  have hgk2:∀ p q r s:Z6,(c2++[p,q,r,s])[12]?=some s:=λp q r s=>by rw[List.getElem?_append_right Z0,hc2];rfl
  have heH2:cells H2 (σ.next+1+1)=some ([.string (Tx B),.int .i64 f.key,.int .i64 0],46,false):=by rw[← hH2];exact (jL _ _ _ hnz).trans (jX _ _ _ _)
  have hl2:=lN0 hc2 vv (trV f.st) (.int .i64 f.n) (.int .i64 f.key)
  refine S4 hg2 hgk2 heH2 hlH2 ?_
  rw[mY3 hc2,qB2 hc2,List.append_nil,cx_a3]
  refine ⟨rfl,c2,vv,hc2,?_,?_,?_,?_⟩
  ·refine (jL _ _ _ Z0).trans (jX _ _ _ _)
  ·rw[stepT,← C.x]
   exact lA0 ((jL _ _ _ Z0).trans heH2) (sX0 hbl hf2)
  ·refine VrR.fz rfl (VrR.grew (S:=λk=>k=J∨k=bg) hv (by rw[← hH2,← hH];(repeat (first|assumption|exact jC.refl _ _|refine jC.put'' ?_ _ _ (by intro _;first|(exfalso;omega)|exact .inl rfl|exact .inr rfl)|refine jC.add' ?_ _))) (λk h3 h4 K=>by have:=hvb k h3 h4;rcases K with K|K<;>omega)) ?_ ?_
   ·omega
   ·exact hf.v
  ·rw[← hH2,← hH]
   have:=C.bi
   (repeat (first|assumption|exact jC.refl _ _|refine jC.put'' ?_ _ _ (by intro _;first|(exfalso;omega)|(show _∨_;omega))|refine jC.add' ?_ _))
 by_cases k2:kx=2
 ·obtain rfl:kx=2:=k2
  have I:cx=tmC (.mk 2 o R B ex lx):=by cases C.l.lt;rfl
  rw[I,uX] at u
  have A:(Tm.mk 2 o R B ex lx).k=2:=rfl
  obtain ⟨ha0,ha1,hse⟩:=hok.1 rfl
  rw[show kI c f j.a (.mk 2 o R B ex lx)=⟨zT,f.v.set o.toNat (evF f.v ex).1,f.st,f.key,[],0,(evF f.v ex).2⟩ from rfl,show stepT c f j.p j.a=bC f.t j.p zT by rw[stepT,← C.x];rfl]
  obtain ⟨bv,rfl,hcv,hv2,hv3⟩:∃ b,vv=.slice (some ⟨b,0,none⟩) f.v.length f.v.length∧cells H b=some (ivs f.v,eI,false)∧m≤b∧b<σ.next:=by
   rcases hv with ⟨K,_⟩|⟨b,K,h6,h7,h8⟩
   ·rw[K] at ha1;simp at ha1;omega
   ·exact ⟨b,K,gq.cellsE h6 h8 (hvb b h7 h8),h7,h8⟩
  have hvz:FzV Tryz.prog H.lo H (.slice (some ⟨bv,0,none⟩) f.v.length f.v.length) (ivV f.v):=VrR.fz rfl (m:=m) (.inr ⟨bv,rfl,hcv,hv2,Z0⟩) Z0 hf.v
  push_cast(disch:=first|omega|(apply id;push_cast;try omega))[A,u,N,L,V,F,hgq,D,hcv]
  refine jE.func (cap:=[]) (jH.borrow (ev_f G f.v ex hse hvl) (.cons (.id (eU0 _ Z0 _)) (.cons hvz .nil)) rfl) ?_
  rintro _ _ ⟨rfl,he⟩
  rw[he]
  obtain ⟨i,hi⟩:∃ i:Nat,o=i:=⟨o.toNat,Z0⟩
  subst hi
  have hi2:(i:Int)<f.v.length:=ha1
  generalize evF f.v ex=r at *
  obtain ⟨r1,r2⟩:=r
  unfold t2q
  have hbv:bv≠σ.next+1+1:=Z0
  push_cast(disch:=first|omega|(apply id;push_cast;try omega))[A,u,N,L,V,F,hgq,D,hcv,hi2,Z4,hbv]
  rw[sJ0 _ _ _ Z0]
  obtain ⟨Hf,hHf⟩:∃ Hf,Hf=(H.put bv (O (ivs (f.v.set i r1)) eI false)).put (σ.next+1+1) (O [.string (Tx []),.int .i64 0,.int .i64 0] 46 false):=⟨_,rfl⟩
  rw[← hHf]
  have gf:jC H Hf (λk=>k=bv∨k=σ.next+1+1):=by rw[hHf];exact ((jC.put _ _ _ (S:=λk=>k=bv∨k=σ.next+1+1) λ_=>.inl rfl).put'' _ _ λ_=>.inr rfl)
  have hbb2:J≠bv:=λe=>hvb bv hv2 hv3 e.symm
  obtain ⟨c3,d1,d2,d3⟩:=hW Hf (gf.mono λk hk e=>.inr Z0) zT ztm rfl (gf.cellsE V Z0 Z0) (by cases lW0 Tryz.prog lo Hf with|agg h=>exact h)
  refine ⟨rfl,c3,_,d1,d2,?_,VrR.fz rfl (m:=m) (.inr ⟨bv,by rw[List.length_set],?_,hv2,by rw[hHf];simp only[jP];omega⟩) hlm ?_,gL.trans (gf.mono λk hk e=>by show _∨_;omega) λk _ h=>h⟩
  ·exact d3
  ·rw[hHf]
   exact (jL _ _ _ hbv).trans (jX _ _ _ _)
  ·rw[List.length_set]
   exact hf.v
 have hev:bg≠σ.next+1+1:=Z0
 have fin:∀ (d:Dd) (X:List Z6),d.en=[]→d.ek=0→d.v=f.v→d.key=f.key→X=c'++[vv,trV d.st,.int .i64 f.n,.int .i64 d.key]→StR σ bg lo (bC f.t j.p zT) f.n d (.tuple ⟨[.agg ⟨[.string (Tx []),.int .i64 0,.int .i64 0]⟩,.int .i64 d.e]⟩) ((H.put bg (O X 42 false)).put (σ.next+1+1) (O [.string (Tx []),.int .i64 0,.int .i64 0] 46 false)):=by
  rintro d X e1 e2 e3 e4 rfl
  refine ⟨by rw[e1,e2],c',vv,hc9,(jL _ _ _ hev).trans (jX _ _ _ _),lA0 ((jL _ _ _ hev.symm).trans L) (sX0 hbl hfz),?_,?_⟩
  ·rw[e3]
   exact VrR.fz rfl (VrR.grew (S:=λk=>k=J∨k=bg∨k=σ.next+1+1) hv ((gq.mono λ_ _ h=>.inl h).trans ((jC.put _ _ _ (S:=λk=>k=J∨k=bg∨k=σ.next+1+1) λ_=>.inr (.inl rfl)).put'' _ _ λ_=>.inr (.inr rfl)) (λ_ _ h=>h)) (λk h3 h4 K=>by have:=hvb k h3 h4;rcases K with K|K|K<;>omega)) hlm hf.v
  ·exact gL.trans ((jC.put _ _ _ (S:=λk=>k=bg∨lo≤k) λ_=>.inl rfl).put'' _ _ λ_=>.inr Z0) λk _ h=>h
 have hl13:=lN0 hc9 vv (trV f.st) (.int .i64 f.n) (.int .i64 f.key)
 have hgr:=qA2 hc9
 have hco:∀ s:List (List Tm),(trV s).cells.toList=[trV s]:=λ_=>rfl
 have hone:∀ s:List (List Tm),[trV s].all one=true:=λ_=>rfl
 have hlbg:H.lo≤bg:=Z0
 by_cases k3:kx=3
 ·obtain rfl:kx=3:=k3
  obtain ⟨ha0,ha1,y,rfl,hy⟩:=hok.2.1 rfl
  have I:cx=tmC (.mk 3 o R B ex [y]):=by cases C.l.lt;rfl
  rw[I,uX] at u
  have A:(Tm.mk 3 o R B ex [y]).k=3:=rfl
  rw[show kI c f j.a (.mk 3 o R B ex [y])=⟨zT,f.v,bQ f.st o (f.st.getD o.toNat []++[y]),f.key,[],0,0⟩ from rfl,show stepT c f j.p j.a=bC f.t j.p zT by rw[stepT,← C.x];rfl]
  have hgr:=qA2 hc9
  push_cast(disch:=first|omega|(apply id;push_cast;try omega))[A,u,N,L,V,F,hgr,D,jT0]
  refine dK (sG2 G f.st o y hf.st (by have:=hrl o.toNat;omega) hy ⟨ha0,ha1⟩) ?_
  have hl14:=hl13
  have M:=N
  unfold trV at hl14 M ⊢
  refine S5 M L F D hev ?_
  exact fin _ _ rfl rfl rfl rfl (by rw[oF0 hc9,oG0 hc9];simp;rfl)
 by_cases k5:kx=5
 ·obtain rfl:kx=5:=k5
  have I:cx=tmC (.mk 5 o R B ex lx):=by cases C.l.lt;rfl
  rw[I,uX] at u
  have A:(Tm.mk 5 o R B ex lx).k=5:=rfl
  rw[show kI c f j.a (.mk 5 o R B ex lx)=⟨zT,f.v,bQ f.st o [],f.key,[],0,0⟩ from rfl,show stepT c f j.p j.a=bC f.t j.p zT by rw[stepT,← C.x];rfl]
  refine S8 A u N L V F hgr D ?_
  refine dK (zM1 G f.st o hf.st) ?_
  have hl14:=hl13
  have M:=N
  unfold trV at hl14 M ⊢
  refine S5 M L F D hev ?_
  exact fin _ _ rfl rfl rfl rfl (by rw[oF0 hc9,oG0 hc9];simp;rfl)
 by_cases k6:kx=6
 ·obtain rfl:kx=6:=k6
  obtain ⟨hA,hB⟩:=hok.2.2.2.1 rfl
  have I:cx=tmC (.mk 6 o R B ex lx):=by cases C.l.lt;rfl
  rw[I,uX] at u
  have A:(Tm.mk 6 o R B ex lx).k=6:=rfl
  rw[show kI c f j.a (.mk 6 o R B ex lx)=⟨zT,f.v,yV0 f.st o R,f.key,[],0,0⟩ from rfl,show stepT c f j.p j.a=bC f.t j.p zT by rw[stepT,← C.x];rfl]
  refine S8 A u N L V F hgr D ?_
  refine dK (tD2 G f.st o R hf.st (by have:=hrl o.toNat;have:=hrl R.toNat;omega) hA hB) ?_
  have hl14:=hl13
  have M:=N
  unfold trV at hl14 M ⊢
  refine S5 M L F D hev ?_
  exact fin _ _ rfl rfl rfl rfl (by rw[oF0 hc9,oG0 hc9];simp;rfl)
 have finH:∀ (H3:jA) (_:jC H H3 (λ_=>False)) (d:Dd) (y:Tm) (X:List Z6),d.en=[]→d.ek=0→d.v=f.v→d.key=f.key→d.st=f.st→X=setFrom P E (tmC y)→StR σ bg lo (bC f.t j.p y) f.n d (.tuple ⟨[.agg ⟨[.string (Tx []),.int .i64 0,.int .i64 0]⟩,.int .i64 d.e]⟩) ((H3.put J (O X tq false)).put (σ.next+1+1) (O [.string (Tx []),.int .i64 0,.int .i64 0] 46 false)):=by
  rintro H3 g3 d y X e1 e2 e3 e4 e5 rfl
  have gf:jC H ((H3.put J (O (setFrom P E (tmC y)) tq false)).put (σ.next+1+1) (O [.string (Tx []),.int .i64 0,.int .i64 0] 46 false)) (λk=>k=J∨k=σ.next+1+1):=((g3.mono λ_ _ h=>h.elim).put'' _ _ λ_=>.inl rfl).put'' _ _ λ_=>.inr rfl
  obtain ⟨c3,d1,d2,d3⟩:=hW _ (gf.mono λk hk e=>by rcases e with e|e;exact .inl (.inl e);exact .inr Z0) y (tmC y) (uQ y) ((jL _ _ _ D).trans (jX _ _ _ _)) (.ids (uB0 _ Z0 _))
  refine ⟨by rw[e1,e2],c3,vv,d1,by rw[e4,e5];exact d2,d3,?_,?_⟩
  ·rw[e3]
   exact VrR.fz rfl (VrR.grew (S:=λk=>k=J∨k=σ.next+1+1) hv ((gq.mono λ_ _ h=>.inl h).trans gf (λ_ _ h=>h)) (λk h3 h4 K=>by have:=hvb k h3 h4;rcases K with K|K<;>omega)) hlm hf.v
  ·exact gL.trans (gf.mono (T:=λk=>k=bg∨lo≤k) λk hk e=>by have:=C.bi;show _∨_;omega) λk _ h=>h
 have hsl2:(setFrom P E ztm).length=P.length:=by simp only[setFrom,List.length_append,List.length_take,List.length_drop,show ztm.length=9 from rfl];omega
 have hls2:E+9≤(setFrom P E ztm).length:=Z0
 have hbqlo:H.lo≤J:=Z0
 have hst9:∀ (H:jA) (_:H.lo≤J) (x:Tm),stDC 9 E (tmV x) H J (some (List.take E P++ztm++List.drop (E+ztm.length) P,tq,false))=some (undef,H.put J (O (setFrom P E (tmC x)) tq false)):=λH hbqlo x=>by
  have K:setFrom (setFrom P E ztm) E (tmC x)=setFrom P E (tmC x):=by
   rw[← set2 hwq (uQ x)]
   conv=>lhs;unfold setFrom
   rw[uQ]
   rfl
  refine (qC1 (v:=tmV x) (setFrom P E ztm) tq false (uQ x) (uC0 x) hbqlo hls2).trans ?_
  rw[show (tmV x).cells.toList=tmC x from rfl,K]
 have hbqn:J<σ.next:=by have:=C.bi;omega
 have hcoH:cells H σ.next=some ([Rw false eI c.v.length (ivs c.v),.int .i64 c.s,Rw false etm c.p.length (qN c.p),.int .i64 c.m],28,false):=by rw[← hH];push_cast(disch:=first|omega|(apply id;push_cast;try omega))[hbqn]
 have hstH:cells H (σ.next+1)=some ([.int .i64 j.k,Rw false eI j.p.length (ivs j.p),.int .i64 j.a],62,false):=by rw[← hH];push_cast(disch:=first|omega|(apply id;push_cast;try omega))[hbqn]
 by_cases k13:kx=13
 ·obtain rfl:kx=13:=k13
  obtain ⟨ha0,ha1⟩:=hok.2.2.2.2.2.2.1 rfl
  have I:cx=tmC (.mk 13 o R B ex lx):=by cases C.l.lt;rfl
  rw[I,uX] at u
  have A:(Tm.mk 13 o R B ex lx).k=13:=rfl
  rw[show kI c f j.a (.mk 13 o R B ex lx)=⟨c.p.getD o.toNat zT,f.v,f.st,f.key,[],0,0⟩ from rfl,show stepT c f j.p j.a=bC f.t j.p (c.p.getD o.toNat zT) by rw[stepT,← C.x];rfl]
  obtain ⟨i,hi⟩:∃ i:Nat,o=i:=⟨o.toNat,Z0⟩
  subst hi
  have hi2:(i:Int)<c.p.length:=ha1
  have hi3:i<c.p.length:=Z0
  obtain ⟨x,hx⟩:=jT (l:=c.p) (i:=i) Z0
  have hpt:=kS hx
  have hle2:i*9+9≤c.p.length*9:=Z0
  have hgd:c.p.getD (i:Int).toNat zT=x:=by rw[Z4,List.getD_eq_getElem?_getD,hx];rfl
  rw[hgd]
  push_cast(disch:=first|omega|(apply id;push_cast;try omega))[A,u,N,L,V,F,D,hi2,Z4,hcoH,hpt,hle2,hst9 H hbqlo]
  exact finH H (jC.refl _ _) ⟨x,f.v,f.st,f.key,[],0,0⟩ x _ rfl rfl rfl rfl rfl (by unfold setFrom;rw[uQ])
 by_cases k10:kx=10
 ·obtain rfl:kx=10:=k10
  obtain ⟨⟨y,z,rfl⟩,ha0,ha1⟩:=hok.2.2.2.2.2.1 rfl
  have I:cx=tmC (.mk 10 o R B ex [y,z]):=by cases C.l.lt;rfl
  rw[I,uX] at u
  have A:(Tm.mk 10 o R B ex [y,z]).k=10:=rfl
  rw[show kI c f j.a (.mk 10 o R B ex [y,z])=⟨[y,z].getD j.a.toNat zT,f.v,f.st,f.key,[],0,0⟩ from rfl,show stepT c f j.p j.a=bC f.t j.p ([y,z].getD j.a.toNat zT) by rw[stepT,← C.x];rfl]
  obtain ⟨i,hi⟩:∃ i:Nat,j.a=i:=⟨j.a.toNat,Z0⟩
  rw[hi] at hstH ⊢
  have hi2:(i:Int)<2:=Z0
  obtain ⟨x,hx⟩:=jT (l:=[y,z]) (i:=i) (by simp;omega)
  have hpt:=kS hx
  have hle2:i*9+9≤2*9:=Z0
  have hgd:[y,z].getD (i:Int).toNat zT=x:=by rw[Z4,List.getD_eq_getElem?_getD,hx];rfl
  rw[hgd]
  push_cast(disch:=first|omega|(apply id;push_cast;try omega))[A,u,N,L,V,F,D,hi2,Z4,hstH,hpt,hle2,hst9 H hbqlo]
  exact finH H (jC.refl _ _) ⟨x,f.v,f.st,f.key,[],0,0⟩ x _ rfl rfl rfl rfl rfl (by unfold setFrom;rw[uQ])
 by_cases k4:kx=4
 ·obtain rfl:kx=4:=k4
  have ha0:=hok.2.2.1 rfl
  have I:cx=tmC (.mk 4 o R B ex lx):=by cases C.l.lt;rfl
  rw[I,uX] at u
  have A:(Tm.mk 4 o R B ex lx).k=4:=rfl
  rw[show kI c f j.a (.mk 4 o R B ex lx)=⟨revF (f.st.getD o.toNat []),f.v,bQ f.st o [],f.key,[],0,0⟩ from rfl,show stepT c f j.p j.a=bC f.t j.p (revF (f.st.getD o.toNat [])) by rw[stepT,← C.x];rfl]
  refine S8 A u N L V F hgr D ?_
  have hrv:=lS1 G f.st o hf.st ha0
  unfold ttV at hrv
  generalize hyr:revF (f.st.getD o.toNat [])=y at *
  refine dK (hrv) ?_
  have hxl:=uQ y
  have hxo:=uC0 y
  push_cast(disch:=first|omega|(apply id;push_cast;try omega))[A,u,N,L,V,F,hgr,D,hst9 H hbqlo]
  rw[show List.take E P++tmC y++List.drop (E+9) P=setFrom P E (tmC y) by unfold setFrom;rw[uQ]]
  generalize hH2:H.put J (O (setFrom P E (tmC y)) tq false)=H2
  have gf:jC H H2 (λk=>k=J):=by rw[← hH2];exact jC.put _ _ _ λ_=>rfl
  obtain ⟨c3,d1,d2,d3⟩:=hW H2 (gf.mono λ_ _ h=>.inl (.inl h)) y (tmC y) (uQ y) (by rw[← hH2];exact jX _ _ _ _) (.ids (uB0 _ Z0 _))
  have heH2:cells H2 (σ.next+1+1)=some ([.string (Tx []),.int .i64 0,.int .i64 0],46,false):=gf.cellsE L Z0 hnz
  have hlH2:H2.lo=1:=by rw[gf.lo,F]
  have hl14:=lN0 d1 vv (trV f.st) (.int .i64 f.n) (.int .i64 f.key)
  have M:=d2
  have hlbg2:H2.lo≤bg:=Z0
  unfold trV at hl14 M ⊢
  refine S5 M heH2 hlH2 D hev ?_
  rw[oF0 d1,oG0 d1]
  have gp:jC H2 ((H2.put bg (O (c3++[vv]++[Rw false eR (bQ f.st o []).length (trs (bQ f.st o []))]++[.int .i64 f.n,.int .i64 f.key]) 42 false)).put (σ.next+1+1) (O [.string (Tx []),.int .i64 0,.int .i64 0] 46 false)) (λk=>k=bg∨k=σ.next+1+1):=(jC.put _ _ _ (S:=λk=>k=bg∨k=σ.next+1+1) λ_=>.inl rfl).put'' _ _ λ_=>.inr rfl
  refine ⟨rfl,c3,vv,d1,?_,lA0 ((jL _ _ _ hev.symm).trans heH2) (sX0 hbl d3),?_,?_⟩
  ·refine (jL _ _ _ hev).trans ((jX _ _ _ _).trans ?_)
   simp
   rfl
  ·exact VrR.fz rfl (VrR.grew (S:=λk=>k=J∨k=bg∨k=σ.next+1+1) hv ((gq.trans gf λ_ _ h=>h).mono (T:=λk=>k=J∨k=bg∨k=σ.next+1+1) (λ_ _ h=>.inl h) |>.trans gp λ_ _ h=>.inr h) (λk h3 h4 K=>by have:=hvb k h3 h4;rcases K with K|K|K<;>omega)) hlm hf.v
  ·exact (gL.trans (gf.mono (T:=λk=>k=bg∨lo≤k) λk hk e=>by have:=C.bi;omega) λk _ h=>h).trans gp λk _ h=>by show _∨_;omega
 by_cases k8:kx=8
 ·obtain rfl:kx=8:=k8
  have I:cx=tmC (.mk 8 o R B ex lx):=by cases C.l.lt;rfl
  rw[I,uX] at u
  have A:(Tm.mk 8 o R B ex lx).k=8:=rfl
  rw[show kI c f j.a (.mk 8 o R B ex lx)=⟨zT,f.v,f.st,f.key,[],0,0⟩ from rfl,show stepT c f j.p j.a=bC f.t (blkR f.t j.p [] []) zT by rw[stepT,← C.x];rfl]
  have hkc:=h2.l.lc
  have hkw:=h2.l.lw
  have hkn:=h2.l.ln
  have hkp:=h2.l.lp
  have hkh:=h2.l.lh
  have hki:=h2.bi
  have hkj:=h2.hh
  have hko:=h2.lo
  simp only[jB] at hkn
  obtain ⟨fk',q1,q2,q3⟩:∃ fk',cells H bk=some (fk',tk,false)∧ok+9≤fk'.length∧setFrom fk' ok ztm=setFrom fk ok ztm:=by
   by_cases e:J=bk
   ·subst e
    rcases hbb.1 with ⟨_,rfl⟩|h
    ·have K:=hcq.symm.trans hkc
     simp only[Option.some.injEq,Prod.mk.injEq,and_true] at K
     obtain ⟨rfl,rfl⟩:=K
     exact ⟨_,V,hls2,set2 hwq rfl⟩
    ·omega
   ·refine ⟨fk,?_,hkw,rfl⟩
    rw[← hH]
    refine (jL _ _ _ (Ne.symm e)).trans ((jL _ _ _ Z0).trans ((kG _ _ (by simp only[jB];omega)).trans hkc))
  have hbklo:H.lo≤bk:=Z0
  have hbke:bk≠σ.next+1+1:=Z0
  push_cast(disch:=first|omega|(apply id;push_cast;try omega))[A,u,N,L,V,F,D,q1,q2,hbklo,hbke]
  obtain ⟨Hf,hHf⟩:∃ Hf,Hf=(H.put bk (O (setFrom fk' ok ztm) tk false)).put (σ.next+1+1) (O [.string (Tx []),.int .i64 0,.int .i64 0] 46 false):=⟨_,rfl⟩
  have gf:jC H Hf (λk=>k=bk∨k=σ.next+1+1):=by rw[hHf];exact (jC.put _ _ _ (S:=λk=>k=bk∨k=σ.next+1+1) λ_=>.inl rfl).put'' _ _ λ_=>.inr rfl
  have gw2:jC (((σ.add (O [Rw false eI c.v.length (ivs c.v),.int .i64 c.s,Rw false etm c.p.length (qN c.p),.int .i64 c.m] 28 false)).add (O [.int .i64 j.k,Rw false eI j.p.length (ivs j.p),.int .i64 j.a] 62 false)).add (O [.string (Tx []),.int .i64 0,.int .i64 0] 46 false)) H (λk=>k=J):=by rw[← hH];exact ((jC.add _ _ _).put' _ _ (by simp only[jB];omega)).put'' _ _ λ_=>rfl
  obtain ⟨c3,d1,d2,d3⟩:=h2.w Hf zT ztm rfl ((gw2.mono λk hk e=>by obtain ⟨e1,e2,e3⟩:=hbb;show (k=bk∨(lk≤k∧k<hhk))∨_;rcases e1 with e1|e1<;>exact .inl Z0).trans (gf.mono λk hk e=>by rcases e with e|e;exact .inl (.inl e);exact .inr ⟨Z0,Z0⟩) λ_ _ h=>h) (by rw[hHf,← q3];exact (jL _ _ _ hbke).trans (jX _ _ _ _)) (by cases lW0 Tryz.prog lo Hf with|agg h=>exact h)
  have gs:jC σ Hf (λk=>k=J∨k=bk∨k=σ.next+1+1):=(gq.mono λ_ _ h=>.inl h).trans gf λ_ _ h=>.inr h
  show StR _ _ _ _ _ _ _ ((H.put bk (O (setFrom fk' ok ztm) tk false)).put (σ.next+1+1) (O [.string (Tx []),.int .i64 0,.int .i64 0] 46 false))
  rw[← hHf]
  have hd2:setFrom (cs++[vv,trV f.st,.int .i64 f.n,.int .i64 f.key]) 0 c3=c3++[vv,trV f.st,.int .i64 f.n,.int .i64 f.key]:=by
   unfold setFrom
   rw[List.take_zero,List.nil_append,Nat.zero_add,d1,List.drop_left' hN.len]
  refine ⟨rfl,c3,vv,d1,d2.trans (by rw[hd2]),d3,VrR.fz rfl (VrR.grew hv gs (λk h3 h4 K=>by have:=hvb k h3 h4;rcases K with K|K|K<;>omega)) hlm hf.v,gs.mono λk hk K=>?_⟩
  have h6:=C.bi
  show _∨_
  rcases K with K|K|K<;>omega
 by_cases k9:kx=9
 ·obtain rfl:kx=9:=k9
  obtain ⟨hse,y,z,rfl⟩:=hok.2.2.2.2.1 rfl
  have I:cx=tmC (.mk 9 o R B ex [y,z]):=by cases C.l.lt;rfl
  rw[I,uX] at u
  have A:(Tm.mk 9 o R B ex [y,z]).k=9:=rfl
  have hiff:(if (evF f.v ex).1=0 then [y,z].getD 1 zT else [y,z].getD 0 zT)=if (evF f.v ex).1=0 then z else y:=rfl
  rw[show kI c f j.a (.mk 9 o R B ex [y,z])=⟨if (evF f.v ex).1=0 then z else y,f.v,f.st,f.key,[],0,(evF f.v ex).2⟩ from rfl,show stepT c f j.p j.a=bC f.t j.p (if (evF f.v ex).1=0 then z else y) by rw[stepT,← C.x];rfl]
  have hbr:=dD2 G f.v 9 o R B ex y z hse hvl (σ:=H) F Z0 (vv:=vv) (λσ' g=>VrR.fz rfl (hvH.grew g λ_ _ _ h=>h) Z0 hf.v)
  generalize (if (evF f.v ex).1=0 then z else y)=x at *
  generalize (evF f.v ex).2=er at *
  refine S8 A u N L V F hgq D ?_
  refine jE.func (cap:=[]) (hbr) ?_
  rintro _ H3 ⟨rfl,g3⟩
  have hcH3:=g3.cellsE u Z0 id
  have hgH3:=g3.cellsE N Z0 id
  have heH3:=g3.cellsE L Z0 id
  have hbH3:=g3.cellsE V Z0 id
  have hlH3:H3.lo=1:=by rw[g3.lo,F]
  have hbqlo3:H3.lo≤J:=Z0
  push_cast(disch:=first|omega|(apply id;push_cast;try omega))[A,hcH3,hgH3,heH3,hbH3,hlH3,hgq,D,hst9 H3 hbqlo3]
  exact finH H3 g3 ⟨x,f.v,f.st,f.key,[],0,er⟩ x _ rfl rfl rfl rfl rfl (by unfold setFrom;rw[uQ])
 exfalso
 have:=hok.2.2.2.2.2.2.2
 omega
theorem tJ0 {f:Cf}:(cfC f).all one=true:=by
 unfold cfC
 rw[List.all_append,uC0];rfl
theorem kX3 (c:Co)(f:Cf)(h:St){σ:jA}{bg m lo:Nat}{cs:List Z6}{vv:Z6}(w:σ.lo=1)(D:1≤σ.next)(o:1≤lo)(E:cells σ bg=some (cs++[vv,trV f.st,.int .i64 f.n,.int .i64 f.key],42,false))(s:NTs σ lo m f.t cs)(L:0<bg)(b:bg<lo)(A:m≤σ.next)(l:bg<σ.next)
  (F:h.p.length<1000000000) (K:gK f.t h.p) (z:VrR σ m f.v vv) (u:SmF f) (g:∀ i:Nat,(f.st.getD i []).length<50000000000) (q:f.v.length<1000000000) (r:SOk c f h.a (atT f.t h.p)) :
  jH (pp G) H0 45 [coV c,.pointer (some ⟨bg,0,none⟩),.agg ⟨stC h⟩] σ (λv σ'=>v=.tuple ⟨[.agg ⟨[.string (Tx (kI c f h.a (atT f.t h.p)).en),.int .i64 (kI c f h.a (atT f.t h.p)).ek,.int .i64 0]⟩,.int .i64 (kI c f h.a (atT f.t h.p)).e]⟩∧
   cells σ' bg=some (cfC ⟨stepT c f h.p h.a,(kI c f h.a (atT f.t h.p)).v,(kI c f h.a (atT f.t h.p)).st,f.n,(kI c f h.a (atT f.t h.p)).key⟩,42,false)∧jC σ σ' (λk=>k=bg∨lo≤k)):=by
 refine jH.drop (kW3 G c f h w D o E s L b A l F K z u g q r) ?_
 generalize kI c f h.a (atT f.t h.p)=d
 generalize stepT c f h.p h.a=T
 rintro v σ' ⟨rfl,M,y,N,H,B,j,gr⟩
 have I:=s.le
 have x:=gr.next
 have J:=gr.lo
 refine ⟨lo,_,jV2 lo bg (O (cfC ⟨T,d.v,d.st,f.n,d.key⟩) 42 false) σ',⟨rfl,?_,?_⟩,.id rfl,cS1 Z0 b Z0 H ?_ tJ0⟩
 ·unfold jV2
  exact jX _ _ _ _
 ·refine ⟨x,J,λi hi C=>?_⟩
  unfold jV2
  rw[qC _ _ _ Z0,dO,if_pos (by simp only[Nat.blt_eq];omega)]
  exact gr.get i hi C
 ·unfold cfC
  exact B.app (.cons j (.cons (.id (gZ0 _ Z0 _)) (.cons (.id rfl) (.cons (.id rfl) .nil))))
structure Dv where
 f:Cf
 en:List Zu
 ek:Int
 is:Zb
 e:Int
def doF (c:Co)(f:Cf)(h:Int):Dv:=
 if h<0∨(enF f.t).length≤h∨bY c f=false then ⟨cfZ,[],0,false,12⟩
 else if 5000≤f.n then ⟨cfZ,[],0,false,10⟩
 else
  let b:=(enF f.t).getD h.toNat ⟨0,[],0⟩
  let g:Cf:=⟨jD f.t,f.v,f.st,f.n,f.key⟩
  let d:=kI c g b.a (atT g.t b.p)
  if d.e≠0 then ⟨cfZ,[],0,false,d.e⟩
  else if W (W (jJ (jD (stepT c g b.p b.a)))+W (kF d.st)) > 2000 then ⟨cfZ,[],0,false,11⟩
  else ⟨⟨jD (stepT c g b.p b.a),d.v,d.st,W (f.n+1),d.key⟩,d.en,d.ek,decide (b.k=1),0⟩
def dvV (r:Dv):Z6:=.tuple ⟨[cfV r.f,.agg ⟨[.string (Tx r.en),.int .i64 r.ek,.int .i64 0]⟩,.bool r.is,.int .i64 r.e]⟩
theorem qK2 (n:Nat)(h:0<n)(f:Cf):scL n (cfC f)=true:=by
 unfold cfC
 refine wF0 (uB0 n h f.t) ?_
 simp only[scL,uJ1 n h,gZ0 n h,Ev.sc,Bool.and_true]
theorem mT3 (n:Nat)(h:0<n)(r:Dv):Ev.sc n (dvV r)=true:=by
 unfold dvV cfV
 simp only[Ev.sc,scL,qK2 n h,Bool.and_true,Bool.true_and]
structure DoOk (c:Co)(f:Cf):Prop where
 hc:SmC c
 hf:SmF f
 vl:f.v.length<1000000000
 rl:∀ i:Nat,(f.st.getD i []).length<50000000000
 rs:RS f.t
 hn:smT (jD f.t)=true
 ha:(kH (jD f.t)).length<400000000000
 hst:∀ st∈enF f.t,gK (jD f.t) st.p∧st.p.length<1000000000∧SOk c ⟨jD f.t,f.v,f.st,f.n,f.key⟩ st.a (atT (jD f.t) st.p)∧smT (stepT c ⟨jD f.t,f.v,f.st,f.n,f.key⟩ st.p st.a)=true∧smT (jD (stepT c ⟨jD f.t,f.v,f.st,f.n,f.key⟩ st.p st.a))=true∧
  jV0 (kI c ⟨jD f.t,f.v,f.st,f.n,f.key⟩ st.a (atT (jD f.t) st.p)).st
theorem qD1:∀ l:List St,(stCs l).length=l.length*3
 | []=>rfl
 | x :: l=>by rw[stCs,List.length_append,qD1 l,List.length_cons,show (stC x).length=3 from rfl];omega
theorem fW1 {l:List St}{i:Nat}{x:St}(h:l[i]?=some x):((stCs l).drop (i*3)).take 3=stC x:=by
 induction l generalizing i with
 | nil=>cases h
 | cons y l a=>
  cases i with
  | zero=>cases h;rfl
  | succ i=>
   rw[stCs,show (i+1)*3=(stC y).length+i*3 by rw[show (stC y).length=3 from rfl];omega,← List.drop_drop,List.drop_left]
   exact a h
theorem mZ2 {P:Z9}(b:szT P eI=some 1)(h:szT P eE=some 4)(a:szT P etm=some 9)(c:szT P eR=some 1){n:Nat}{σ:jA}:FzV P n σ (.agg ⟨[.int .i64 0,.int .i64 0,.int .i64 0,.string (Tx []),.int .i64 0,.int .i64 0,.string (Tx []),.slice none 0 0,.slice none 0 0,.slice none 0 0,.slice none 0 0,.int .i64 0,.int .i64 0]⟩) (cfV cfZ):=
 .agg (.cons (.id rfl) (.cons (.id rfl) (.cons (.id rfl) (.cons (.id rfl) (.cons (.id rfl) (.cons (.id rfl) (.cons (.id rfl) (.cons (.nil h Z1) (.cons (.nil a Z1) (.cons (.nil b Z1) (.cons (.nil c Z1) (.cons (.id rfl) (.cons (.id rfl) .nil)))))))))))))
theorem do_f (c:Co)(f:Cf)(r:Int)(h:DoOk c f):jF (pp G) H0 20 [coV c,cfV f,.int .i64 r] (dvV (doF c f r)):=by
 have q:=rQ1 G f.t h.hf.t h.hn h.ha
 have g:=mT0 G c f h.hc h.hf
 have hst:=h.hst
 have z:∀ (e:Int) {σ:jA},FzV (pp G).P H0.next σ (.tuple ⟨[.agg ⟨[.int .i64 0,.int .i64 0,.int .i64 0,.string (Tx []),.int .i64 0,.int .i64 0,.string (Tx []),.slice none 0 0,.slice none 0 0,.slice none 0 0,.slice none 0 0,.int .i64 0,.int .i64 0]⟩,.agg ⟨[.string (Tx []),.int .i64 0,.int .i64 0]⟩,.bool false,.int .i64 e]⟩) (dvV ⟨cfZ,[],0,false,e⟩):=λe σ=>.tup (.cons (mZ2 rfl rfl rfl rfl) (.cons (.id rfl) (.cons (.id rfl) (.cons (.id rfl) .nil))))
 unfold doF
 generalize hE:enF f.t=L at *
 by_cases I:r<0
 ·rw[if_pos (.inl I)]
  obtain ⟨⟨k,a,b,s,e,l⟩,v,o,n,j⟩:=f
  unfold coV coC cfV cfC ivV trV qP at g ⊢
  simp only[uX,List.cons_append,List.nil_append] at g q ⊢
  refine cE G rE1 Z7 (yQ0 ..) λF=>?_;rw[bK0]
  refine S0 ?_
  refine dK (q) ?_
  unfold stsV
  refine S1 I ?_
  exact z 12
 by_cases h2:(L.length:Int)≤r
 ·rw[if_pos (.inr (.inl h2))]
  obtain ⟨⟨k,a,b,s,e,l⟩,v,o,n,j⟩:=f
  unfold coV coC cfV cfC ivV trV qP at g ⊢
  simp only[uX,List.cons_append,List.nil_append] at g q ⊢
  refine cE G rE1 Z7 (yQ0 ..) λF=>?_;rw[bK0]
  refine S0 ?_
  refine dK (q) ?_
  unfold stsV
  refine S2 I h2 ?_
  exact z 12
 by_cases h3:bY c f=false
 ·rw[if_pos (.inr (.inr h3))]
  rw[h3] at g
  obtain ⟨⟨k,a,b,s,e,l⟩,v,o,n,j⟩:=f
  unfold coV coC cfV cfC ivV trV qP at g ⊢
  simp only[uX,List.cons_append,List.nil_append] at g q ⊢
  refine cE G rE1 Z7 (yQ0 ..) λF=>?_;rw[bK0]
  refine S0 ?_
  refine dK (q) ?_
  unfold stsV
  refine S2 I h2 ?_
  refine dK (g) ?_
  refine S0 ?_
  exact z 12
 rw[if_neg (by rintro (e|e|e);exact I e;exact h2 e;exact h3 e)]
 have h3:bY c f=true:=by simpa using h3
 rw[h3] at g
 by_cases J:5000≤f.n
 ·rw[if_pos J]
  obtain ⟨⟨k,a,b,s,e,l⟩,v,o,n,j⟩:=f
  have J:5000≤n:=J
  unfold coV coC cfV cfC ivV trV qP at g ⊢
  simp only[uX,List.cons_append,List.nil_append] at g q ⊢
  refine cE G rE1 Z7 (yQ0 ..) λF=>?_;rw[bK0]
  refine S0 ?_
  refine dK (q) ?_
  unfold stsV
  refine S2 I h2 ?_
  refine dK (g) ?_
  refine S1 J ?_
  exact z 10
 rw[if_neg J]
 obtain ⟨i,hi⟩:∃ i:Nat,r=i:=⟨r.toNat,Z0⟩
 subst hi
 have hil:i<L.length:=Z0
 obtain ⟨x,hx⟩:=jT (l:=L) (i:=i) hil
 have hgd:L.getD ((i:Nat):Int).toNat ⟨0,[],0⟩=x:=by rw[Z4,List.getD_eq_getElem?_getD,hx];rfl
 rw[hgd]
 obtain ⟨q1,q2,q3,q4,q5,q6⟩:=hst x (List.mem_of_getElem? hx)
 have hpt:=fW1 hx
 have hle2:i*3+3≤L.length*3:=Z0
 have A:=λ(σ:jA) hl hn=>uB2 G f h.hf h.rs (σ:=σ) hl hn
 have hi2:((i:Nat):Int)<L.length:=Z0
 have hi3:¬ (L.length:Int)≤i:=h2
 have y:=λ(σ:jA) (bg m lo:Nat) (cs:List Z6) (vv:Z6)=>kX3 G c ⟨jD f.t,f.v,f.st,f.n,f.key⟩ x (σ:=σ) (bg:=bg) (m:=m) (lo:=lo) (cs:=cs) (vv:=vv)
 have X:SmF ⟨jD f.t,f.v,f.st,f.n,f.key⟩:=⟨h.hn,h.hf.v,h.hf.st⟩
 have V:∀ i:Nat,((⟨jD f.t,f.v,f.st,f.n,f.key⟩:Cf).st.getD i []).length<50000000000:=h.rl
 have Z:=h.vl
 dsimp only at q1 q2 q3 q4 q5 q6 y X V Z ⊢
 generalize kI c ⟨jD f.t,f.v,f.st,f.n,f.key⟩ x.a (atT (jD f.t) x.p)=d at *
 generalize stepT c ⟨jD f.t,f.v,f.st,f.n,f.key⟩ x.p x.a=T at *
 unfold AgR at A
 obtain ⟨⟨k,a,b,s,e,l⟩,v,o,n,j⟩:=f
 have J:¬ 5000≤n:=J
 dsimp only at q1 q2 q3 q4 q5 q6 y X V Z A ⊢
 generalize jD (.mk k a b s e l)=nt at *
 unfold coV coC cfV cfC ivV trV qP at g ⊢
 unfold cfV cfC ivV trV at A
 simp only[uX,List.cons_append,List.nil_append] at g q A ⊢
 refine cE G rE1 Z7 (yQ0 ..) λF=>?_;rw[bK0]
 refine S0 ?_
 refine dK (q) ?_
 unfold stsV
 refine S2 I h2 ?_
 refine dK (g) ?_
 refine S1 J ?_
 refine jE.func (cap:=[]) (A _ (by simp only[push_cast]) (by simp only[jB];omega)) ?_
 rintro _ u ⟨cs,vv,m,rfl,hN,hV,hm,g1⟩
 have hl1:u.lo=1:=by rw[g1.lo];rfl
 have hn1:=g1.next
 simp only[jB,uU] at hn1 hN
 have hlm:=hN.le
 have h9:=hN.len
 have h91:=hN.one
 have c0:cells u 1=some ([Rw false eI c.v.length (ivs c.v),.int .i64 c.s,Rw false etm c.p.length (qN c.p),.int .i64 c.m],28,false):=g1.cellsE (by push_cast(disch:=first|omega|(apply id;push_cast;try omega));first|done|rfl) (by simp only[jB,uU];omega) id
 have c2:cells u 3=some ([.int .i64 0,.int .i64 0,.int .i64 0,.string (Tx []),.int .i64 0,.int .i64 0,.string (Tx []),.slice none 0 0,.slice none 0 0,.slice none 0 0,.slice none 0 0,.int .i64 0,.int .i64 0],42,false):=g1.cellsE (by push_cast(disch:=first|omega|(apply id;push_cast;try omega));first|done|rfl) (by simp only[jB,uU];omega) id
 have c3:cells u 4=some ([.string (Tx []),.int .i64 0,.int .i64 0],46,false):=g1.cellsE (by push_cast(disch:=first|omega|(apply id;push_cast;try omega));first|done|rfl) (by simp only[jB,uU];omega) id
 have C:=lN0 h9 vv (Rw false eR o.length (trs o)) (.int .i64 n) (.int .i64 j)
 have hvo:Ev.one vv=true:=by rcases hV with ⟨_,rfl⟩|⟨b,rfl,_⟩<;>rfl
 have hal:(cs++[vv,Rw false eR o.length (trs o),.int .i64 n,.int .i64 j]).all one=true:=by rw[List.all_append,h91];simp only[List.all_cons,List.all_nil,hvo];rfl
 have hts:=mX2 h9
 have hds:=qB2 h9
 have M:stDC 13 0 (.agg ⟨cs++[vv,Rw false eR o.length (trs o),.int .i64 n,.int .i64 j]⟩) u 3 (some ([.int .i64 0,.int .i64 0,.int .i64 0,.string (Tx []),.int .i64 0,.int .i64 0,.string (Tx []),.slice none 0 0,.slice none 0 0,.slice none 0 0,.slice none 0 0,.int .i64 0,.int .i64 0],42,false))=some (undef,u.put 3 (O (cs++[vv,Rw false eR o.length (trs o),.int .i64 n,.int .i64 j]) 42 false)):=by
  refine (qC1 (v:=.agg ⟨cs++[vv,Rw false eR o.length (trs o),.int .i64 n,.int .i64 j]⟩) _ _ _ C hal Z0 Z1).trans ?_
  unfold setFrom
  rw[show (Value.agg ⟨cs++[vv,Rw false eR o.length (trs o),.int .i64 n,.int .i64 j]⟩).cells.toList=cs++[vv,Rw false eR o.length (trs o),.int .i64 n,.int .i64 j] from rfl,C,List.take_zero,List.nil_append,show List.drop (0+13) [Value.int .i64 0,.int .i64 0,.int .i64 0,.string (Tx []),.int .i64 0,.int .i64 0,.string (Tx []),.slice none 0 0,.slice none 0 0,.slice none 0 0,.slice none 0 0,.int .i64 0,.int .i64 0]=[] from rfl,List.append_nil]
 have hsl:=qD1 L
 have hle3:i*3+3≤(stCs L).length:=Z0
 push_cast(disch:=first|omega|(apply id;push_cast;try omega))[hl1,c0,c2,c3,M,I,hi2,Z4,hpt,hle3]
 obtain ⟨τ,D⟩:∃ τ,τ=u.put 3 (O (cs++[vv,Rw false eR o.length (trs o),.int .i64 n,.int .i64 j]) 42 false):=⟨_,rfl⟩
 rw[← D]
 have B:jC u τ (λk=>k=3):=by rw[D];exact jC.put _ _ _ λ_=>rfl
 have hnτ:τ.next=u.next:=by rw[D];rfl
 have K:τ.lo=1:=by rw[B.lo,hl1]
 have t3:=B.cellsE c3 Z0 Z0
 have t2:cells τ 3=some (cs++[vv,trV o,.int .i64 n,.int .i64 j],42,false):=by rw[D];exact jX _ _ _ _
 have N:=hN.grew B (λk H h6 e=>by omega) hm
 have R:=hV.grew B (λk H h6 e=>by omega)
 refine jE.func (cap:=[]) (y τ 3 m _ cs vv K Z0 Z0 t2 N Z0 Z0 Z0 Z0 q2 q1 R X V Z q3) ?_
 rintro _ σ2 ⟨rfl,E,g2⟩
 have w:σ2.lo=1:=by rw[g2.lo,K]
 have hn2:=g2.next
 have e3:=g2.cellsE t3 Z0 (by show ¬ (_∨_);(try simp only[jB,uU]);omega)
 clear D M hV R hN N t2 t3 c0 c2 c3 y A g1 B hal hts hds hvo C
 clear g2
 have hnf:=nH0 G T q4
 have hsz:=qI1 G (jD T) q5
 have Y:=oQ2 G d.st q6
 generalize jD T=T2 at *
 obtain ⟨dt,dv,dst,dk,den,dek,de⟩:=d
 dsimp only at E Y ⊢
 unfold trV at Y
 obtain ⟨k',a',b',s',x',l'⟩:=T
 unfold cfC ivV trV at E
 simp only[uX,List.cons_append,List.nil_append] at E
 by_cases he:de=0
 ·subst he
  rw[if_neg (λh=>h rfl)]
  obtain ⟨k2,a2,b2,s2,x2,l2⟩:=T2
  refine S3 w E @e3 ?_
  refine dK (hnf) ?_
  refine S3 w E @e3 ?_
  refine dK (hsz) ?_
  refine S3 w E @e3 ?_
  refine dK (Y) ?_
  refine S3 w E @e3 ?_
  have h1':0≤((i:Nat):Int):=Z0
  have hk3:(stCs L)[i*3]?=some (.int .i64 x.k):=by
   have H:((stCs L).drop (i*3))[0]?=(stC x)[0]?:=by rw[← hpt,List.getElem?_take];rfl
   rw[List.getElem?_drop,Nat.add_zero] at H
   exact H
  by_cases H:2000<IntKind.i64.wrap (W (jJ (.mk k2 a2 b2 s2 x2 l2))+W (kF dst))
  ·rw[if_pos (by exact H)]
   refine S4 w E @e3 H ?_
   exact z 11
  ·rw[if_neg (by exact H)]
   have hev:Go.Dv.eqv (.agg ⟨[.string (Tx den),.int .i64 dek,.int .i64 0]⟩)=true:=rfl
   push_cast(disch:=first|omega|(apply id;push_cast;try omega))[w,E,e3,H,h1',hi2,Z4,hk3,hev]
   exact FzV.id (mT3 1 Z1 ⟨⟨.mk k2 a2 b2 s2 x2 l2,dv,dst,W (n+1),dk⟩,den,dek,decide (x.k=1),0⟩)
 ·rw[if_pos he]
  refine S4 w E @e3 he ?_
  exact z de
end
end Go.Proofs.YtklapbhlhjdijaaGreatDoor
