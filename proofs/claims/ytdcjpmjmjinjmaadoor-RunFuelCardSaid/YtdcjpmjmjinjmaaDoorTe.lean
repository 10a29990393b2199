/-
  A part of the proof: what the program's functions hand back,as theorems. No condition but those that each theorem names.
-/
import Derived.Test.YtdcjpmjmjinjmaaDoorTd
import Derived.Test.YtdcjpmjmjinjmaaDoorExc
import Derived.Test.YtdcjpmjmjinjmaaDoorTa
set_option linter.unusedSimpArgs false
set_option linter.unusedVariables false
namespace Go.Proofs.YtdcjpmjmjinjmaaDoor
open Go Go.RowKit Go.Ev Go.Dv
noncomputable section
set_option maxRecDepth 100000
variable (G:Nat×Nat)
def idxI (x:Int):List Int→Int→Int
 | [],_=>-1
 | y :: l,i=>if x=y then i else idxI x l (i+1)
theorem kK1 (x:Int) {l:List Int} {i:Nat} {y:Int} (h:l[i]?=some y) (j:Int):idxI x (l.drop i) j=if x=y then j else idxI x (l.drop (i+1)) (j+1):=by
 obtain ⟨h1,rfl⟩:=List.getElem?_eq_some_iff.1 h
 rw[List.drop_eq_getElem_cons h1,idxI]
theorem oE0 (x:Int):∀ (l:List Int) (i:Int),0≤i→decide (0≤idxI x l i)=decide (x∈l)
 | [],i,h=>by simp[idxI]
 | y :: l,i,h=>by
  rw[idxI]
  by_cases e:x=y
  ·rw[if_pos e];simp[e,h]
  ·rw[if_neg e,oE0 x l (i+1) (by omega)];simp[e]
inductive I92 (l:List Int) (x:Int):Nat→S→Prop
 | mk (i:Nat) (iv:Int) (h:jA) {x2 x3 x4 x5 x9 xA xB xC xD xE xF xG xH xI:Value} (hiv:iv=(i:Int)) (hi:i≤l.length) (hx:idxI x l 0=idxI x (l.drop i) i) (hl1:h.lo=1) :
  I92 l x (l.length-i) ⟨(F19 (ivV l) (.int .i64 x) x2 x3 x4 x5 (ivV l) (.int .i64 l.length) (.int .i64 iv) x9 xA xB xC xD xE xF xG xH xI),[],h⟩
theorem kB2 (l:List Int) (x:Int) (hl:l.length<1000000000000):jI (pp G) H0 20 [ivV l,.int .i64 x] (.bool (decide (x∈l))):=by
 have hj:jI (pp G) H0 39 [ivV l,.int .i64 x] (.int .i64 (idxI x l 0)):=by
  refine cE G fir39 (by kernel_rfl) (eI0 ..) fun hlo=>?_;rw[pG1]
  unfold ivV
  simp(disch:=first|omega|(apply id;simp only[push_cast];try omega))only[push_cast,simprocAttr]
  refine WD.loop4 (q:=qq) (jX G) (by kernel_rfl) (I92 l x) ?_ _ _ (I92.mk 0 0 _ rfl (Nat.zero_le _) rfl rfl)
  intro m s1 hI
  cases hI with|mk i iv h hiv hi hx hl1=>
  subst hiv
  rw[rO0]
  unfold ivV
  by_cases hil:(i:Int)<l.length
  ·obtain ⟨y,hy⟩:=qJ (l:=l) (i:=i) (by omega)
   have hg:(ivs l)[i]?=some (.int .i64 y):=by simp[ivs,hy]
   have hil2:i<(ivs l).length:=by rw[kG];omega
   have hln:=kG l
   rw[kK1 x hy] at hx
   by_cases e:x=y
   ·rw[if_pos e] at hx
    simp(disch:=first|omega|(apply id;simp only[push_cast];try omega))only[push_cast,simprocAttr,hil,Int.toNat_natCast,hg,e,Nat.mul_one]
    rw[← e,hx]
    exact .id rfl
   ·rw[if_neg e] at hx
    simp(disch:=first|omega|(apply id;simp only[push_cast];try omega))only[push_cast,simprocAttr,hil,Int.toNat_natCast,hg,e,Nat.mul_one]
    exact ⟨_,by omega,I92.mk (i+1) _ _ (by first|rfl|omega) (by omega) (by rw[hx];rfl) (by first|assumption|(simp(disch:=first|omega|(apply id;simp only[push_cast];try omega))only[push_cast,simprocAttr,hl1];try omega))⟩
  ·obtain rfl:i=l.length:=by omega
   rw[List.drop_length] at hx
   simp(disch:=first|omega|(apply id;simp only[push_cast];try omega))only[push_cast,simprocAttr,hil]
   rw[rN0]
   rw[hx]
   simp(disch:=first|omega|(apply id;simp only[push_cast];try omega))only[push_cast,simprocAttr]
   exact .id rfl
 rw[← oE0 x l 0 (Int.le_refl _)]
 refine cE G fir20 (by kernel_rfl) (pB0 ..) fun hlo=>?_;rw[pX1]
 simp(disch:=first|omega|(apply id;simp only[push_cast];try omega))only[push_cast,simprocAttr]
 refine dK (hj) ?_
 simp(disch:=first|omega|(apply id;simp only[push_cast];try omega))only[push_cast,simprocAttr]
 exact .id rfl
theorem uZ1 (b:Nat) (σ:jA) (hl0:1≤σ.lo):jO (pp G) H0 22 [.pointer (some ⟨b,0,none⟩)] σ (fun v σ'=>v=.func (.func 41) ⟨[]⟩ ⟨[.pointer (some ⟨σ.next,0,none⟩)]⟩∧σ'=σ.add (O [.pointer (some ⟨b,0,none⟩)] 64 false)):=by
 refine jO.fir4 (q:=qq) (jX G) fir22 (by kernel_rfl) rfl rfl (iT0 ..) (by first|exact Nat.le_trans (show NGG≤1 by decide) (by omega)) ?_;rw[pV1]
 simp(disch:=first|omega|(apply id;simp only[push_cast];try omega))only[push_cast,simprocAttr]
 try exact ⟨rfl,rfl⟩
theorem AtP.step {σ:jA} {b off lo hi:Nat} {full:List Value} {ty:Nat} {t:Tm} {r:List Int} {i:Int} {bq oq lq hq:Nat} {fq:List Value} {tq:Nat} {x:Tm} {cx:List Value}
  (h:AtP σ b off lo hi full ty t r bq oq lq hq fq tq x cx) (ha:kF x [i]):∃ (b1 m l1 h1:Nat) (f1:List Value) (t1:Nat) (c1:List Value),cx[8]?=some (.slice (some ⟨b1,0,none⟩) m m)∧0≤i∧i<m∧AtP σ b off lo hi full ty t (r++[i]) b1 (i.toNat*9) l1 h1 f1 t1 (atT x [i]) c1:=by
 have ha':kF (atT t r) (i :: []):=by rw[← h.x];exact ha
 obtain ⟨b1,m,e1,e2,e3,⟨bq',oq',lq',hq',fq',tq',x',cx',bk,ok,lk,hk,fk,tk,xk,ck,p1,p2,a1,a2,a3⟩,e5⟩:=PlR.step h h ⟨.inl ⟨rfl,rfl⟩,Nat.le_refl _,Nat.le_refl _⟩ ha'
 cases p1
 have hx:=a1.x
 rw[uB0 _ _ _ h.a,← h.x] at hx
 subst hx
 exact ⟨b1,m,lq',hq',fq',tq',cx',e1,e2,e3,a1⟩
mutual
def kyP (key:Int):Tm→Option (List Int)
 | .mk k a b s e l=>if k=14∧a=key then some [] else if k=12∨k=7 then kyH key l else if k=11 then kyL key l 0 else none
def kyL (key:Int):List Tm→Nat→Option (List Int)
 | [],_=>none
 | x :: l,i=>match kyP key x with
  | some p=>some ((i:Int) :: p)
  | none=>kyL key l (i+1)
def kyH (key:Int):List Tm→Option (List Int)
 | []=>none
 | x :: _=>match kyP key x with
  | some p=>some ((0:Int) :: p)
  | none=>none
end
def kidT (x:Tm):List Tm:=if x.k=12∨x.k=7 then x.l.take 1 else if x.k=11 then x.l else []
theorem zT2 (key:Int) (x:Tm) (h:¬ (x.k=14∧x.a=key)):kyP key x=kyL key (kidT x) 0:=by
 obtain ⟨k,a,b,s,e,l⟩:=x
 have h:¬ (k=14∧a=key):=h
 rw[kyP,if_neg h]
 unfold kidT
 show _=kyL key (if k=12∨k=7 then l.take 1 else if k=11 then l else []) 0
 split
 ·cases l with
  | nil=>rfl
  | cons y l=>
   rw[kyH,List.take_succ_cons,List.take_zero,kyL,kyL]
   cases kyP key y<;>rfl
 ·split<;>rfl
theorem nZ0 (key:Int):∀ (l:List Tm) (i:Nat) {j:Nat} {x:Tm},kyL key (l.take j) i=none→l[j]?=some x→(∀ p,kyP key x=some p→kyL key l i=some (((i+j:Nat):Int) :: p))∧(kyP key x=none→kyL key (l.take (j+1)) i=none)
 | y :: l,i,0,x,h1,h2=>by
  cases h2
  refine ⟨fun p hp=>by rw[kyL,hp];rfl,fun hp=>by rw[List.take_succ_cons,List.take_zero,kyL,hp];rfl⟩
 | y :: l,i,j+1,x,h1,h2=>by
  rw[List.take_succ_cons,kyL] at h1
  cases hy:kyP key y with
  | some p=>rw[hy] at h1;cases h1
  | none=>
   rw[hy] at h1
   obtain ⟨a1,a2⟩:=nZ0 key l (i+1) h1 (by simpa using h2)
   refine ⟨fun p hp=>by rw[kyL,hy];show kyL key l (i+1)=_;rw[a1 p hp,show i+1+j=i+(j+1) by omega],fun hp=>by rw[List.take_succ_cons,kyL,hy];exact a2 hp⟩
theorem sM1 {σ:jA} {lo hi:Nat} {x:Tm} {c:List Value} (h:NTs σ lo hi x c) (i:Nat) (y:Tm) (hy:(kidT x)[i]?=some y):kF x [(i:Int)]∧atT x [(i:Int)]=y∧y∈x.l:=by
 cases h with
 | leaf h h12 h11 h7=>
  unfold kidT at hy
  rw[if_neg (by omega),if_neg h11] at hy
  cases hy
 | blk hx hc hb=>
  match i,hy with
  | 0,hy=>cases hy;exact ⟨.blk .nil,by first | rfl | (cases y;rfl),by simp[Tm.l]⟩
  | i+1,hy=>cases i<;>cases hy
 | seq hx hc hb=>
  match i,hy with
  | 0,hy=>cases hy;exact ⟨.seq .nil,by first | rfl | (cases y;rfl),by simp[Tm.l]⟩
  | i+1,hy=>cases i<;>cases hy
 | par hx hy' hc hb=>
  match i,hy with
  | 0,hy=>cases hy;exact ⟨.parl .nil,by first | rfl | (cases y;rfl),by simp[Tm.l]⟩
  | 1,hy=>cases hy;exact ⟨.parr .nil,by first | rfl | (cases y;rfl),by simp[Tm.l]⟩
  | i+2,hy=>cases i<;>cases hy
theorem lP1 {σ:jA} {lo hi:Nat} {x:Tm} {c:List Value} (h:NTs σ lo hi x c):(kidT x).length=if x.k=12∨x.k=7 then 1 else if x.k=11 then 2 else 0:=by
 cases h with
 | leaf h h12 h11 h7=>unfold kidT;rw[if_neg (by omega),if_neg h11,if_neg (by omega),if_neg h11];rfl
 | blk hx hc hb=>rfl
 | seq hx hc hb=>rfl
 | par hx hy' hc hb=>rfl
structure Yt (lid:Nat) (key:Int) (Y:jA→Prop) (Z:List Int→jA→Prop) (σ0:jA) (bg lo m:Nat) (full:List Value) (ty:Nat) (t:Tm):Prop where
 g:∀ {σ},Y σ→jD σ0 σ (fun _=>False)
 hlo:∀ {σ},Y σ→σ.lo=1
 no:∀ {σ},Y σ→∀ {r bq oq lq hq fq tq x cx},AtP σ0 bg 0 lo m full ty t r bq oq lq hq fq tq x cx→¬ (x.k=14∧x.a=key)→jC (pp G) H0 (.func (.yield lid) ⟨[]⟩ ⟨[]⟩) [.pointer (some ⟨bq,oq,none⟩)] σ (fun _ v σ'=>v=.bool true∧Y σ')
 yes:∀ {σ},Y σ→∀ {r bq oq lq hq fq tq x cx},AtP σ0 bg 0 lo m full ty t r bq oq lq hq fq tq x cx→x.k=14∧x.a=key→jC (pp G) H0 (.func (.yield lid) ⟨[]⟩ ⟨[]⟩) [.pointer (some ⟨bq,oq,none⟩)] σ (fun _ v σ'=>v=.bool false∧Z r σ')
def EaR (Y:jA→Prop) (Z:List Int→jA→Prop) (r:List Int) (o:Option (List Int)) (v:Value) (σ':jA):Prop:=match o with
 | none=>v=.bool true∧Y σ'
 | some q=>v=.bool false∧Z (r++q) σ'
def EaP (G:Nat×Nat) (lid:Nat) (key:Int) (Y:jA→Prop) (Z:List Int→jA→Prop) (σ0:jA) (bg lo m:Nat) (full:List Value) (ty:Nat) (t:Tm) (x:Tm):Prop:=
 ∀ (r:List Int) (bq oq lq hq:Nat) (fq:List Value) (tq:Nat) (cx:List Value),AtP σ0 bg 0 lo m full ty t r bq oq lq hq fq tq x cx→∀ σ,Y σ→
  jO (pp G) H0 42 [.pointer (some ⟨bq,oq,none⟩),.func (.yield lid) ⟨[]⟩ ⟨[]⟩] σ (EaR Y Z r (kyP key x))
inductive J95 (lid:Nat) (key:Int) (Y:jA→Prop) (bq oq:Nat) (ks:List Tm):Nat→S→Prop
 | mk (i:Nat) (iv:Int) (h:jA) {x2 x3 x4 x5 x6 x7 x8 x9 xA xB xC xD xE xF xG xH xI xJ xM xN xO xP xQ xR xS xT xU xV xW xX:Value} (hiv:iv=(i:Int)) (hi:i≤ks.length) (hY:Y h) (hno:kyL key (ks.take i) 0=none) :
  J95 lid key Y bq oq ks (ks.length-i) ⟨(F34 (.pointer (some ⟨bq,oq,none⟩)) (.func (.yield lid) ⟨[]⟩ ⟨[]⟩) x2 x3 x4 x5 x6 x7 x8 x9 xA xB xC xD xE xF xG xH xI xJ (.int .i64 ks.length) (.int .i64 iv) xM xN xO xP xQ xR xS xT xU xV xW xX),[],h⟩
theorem dZ0 {lid:Nat} {key:Int} {Y:jA→Prop} {Z:List Int→jA→Prop} {σ0:jA} {bg lo m:Nat} {full:List Value} {ty:Nat} {t:Tm} (yp:Yt G lid key Y Z σ0 bg lo m full ty t) (h0:1≤σ0.lo) {x:Tm} (ih:∀ y∈x.l,EaP G lid key Y Z σ0 bg lo m full ty t y)
  {r:List Int} {bq oq lq hq:Nat} {fq:List Value} {tq:Nat} {cx:List Value} (h:AtP σ0 bg 0 lo m full ty t r bq oq lq hq fq tq x cx) (hx:¬ (x.k=14∧x.a=key)) {σ:jA} (hY:Y σ) {n:Int} (hn:n=(kidT x).length) {x2 x3 x4 x6 x7 x8 x9 xA xB xC xD xE xF xG xH xI xJ xK xL xM xN xO xP xQ xR xS xT xU xV xW xX:Value} :
  dc3 (pp G) qq none dQ0 ⟨(F34 (.pointer (some ⟨bq,oq,none⟩)) (.func (.yield lid) ⟨[]⟩ ⟨[]⟩) x2 x3 x4 (.int .i64 n) x6 x7 x8 x9 xA xB xC xD xE xF xG xH xI xJ xK xL xM xN xO xP xQ xR xS xT xU xV xW xX),[],σ⟩ (@kR ⟨jH Tryd.prog [.tmp 4] (EaR Y Z r (kyP key x))⟩):=by
 subst hn
 rw[zT2 key x hx]
 rw[rM0]
 simp(disch:=first|omega|(apply id;simp only[push_cast];try omega))only[push_cast,simprocAttr]
 refine WD.loop4 (q:=qq) (jX G) (by kernel_rfl) (J95 lid key Y bq oq (kidT x)) ?_ _ _ (J95.mk 0 0 _ rfl (Nat.zero_le _) hY rfl)
 clear hY
 intro mm s1 hI
 cases hI with|mk i iv σ hiv hi hY hno=>
 subst hiv
 rw[rL0]
 have hl:=yp.hlo hY
 by_cases hil:(i:Int)<(kidT x).length
 ·obtain ⟨y,hy⟩:=qJ (l:=kidT x) (i:=i) (by omega)
  obtain ⟨k1,k2,k3⟩:=sM1 h.l.lt i y hy
  obtain ⟨b1,mq,l1,h1,f1,t1,c1,e1,e2,e3,e4⟩:=h.step k1
  rw[k2,Int.toNat_natCast] at e4
  have hg:=h.k.2 8 _ e1
  have hcq:=(yp.g hY).cellsE h.l.lc h.l.ln id
  have hqlo:σ.lo≤bq:=by have:=h.l.lp;omega
  have hw:=nZ0 key (kidT x) 0 hno hy
  rw[Nat.zero_add] at hw
  have hkl:=lP1 h.l.lt
  have hk2:(kidT x).length≤2:=by
   rw[hkl]
   split
   ·omega
   ·split<;>omega
  clear hkl
  simp(disch:=first|omega|(apply id;simp only[push_cast];try omega))only[push_cast,simprocAttr,hil,hcq,hqlo,hg,e2,e3,Int.toNat_natCast]
  refine jC.func (cap:=[]) (ih y k3 _ _ _ _ _ _ _ _ e4 _ hY) ?_
  intro v σ2 hE
  cases hp:kyP key y with
  | none=>
   rw[hp] at hE
   obtain ⟨rfl,hY2⟩:=hE
   simp(disch:=first|omega|(apply id;simp only[push_cast];try omega))only[push_cast,simprocAttr,Bool.not_true]
   exact ⟨_,by omega,J95.mk (i+1) _ _ (by first|rfl|omega) (by omega) hY2 (hw.2 hp)⟩
  | some p=>
   rw[hp] at hE
   obtain ⟨rfl,hZ⟩:=hE
   simp(disch:=first|omega|(apply id;simp only[push_cast];try omega))only[push_cast,simprocAttr,Bool.not_false]
   rw[hw.1 p hp]
   exact ⟨rfl,by rw[List.append_assoc] at hZ;exact hZ⟩
 ·have hie:i=(kidT x).length:=by omega
  subst hie
  rw[List.take_length] at hno
  simp(disch:=first|omega|(apply id;simp only[push_cast];try omega))only[push_cast,simprocAttr,hil]
  rw[rK0]
  simp(disch:=first|omega|(apply id;simp only[push_cast];try omega))only[push_cast,simprocAttr]
  rw[hno]
  exact ⟨rfl,hY⟩
theorem mE1 {lid:Nat} {key:Int} {Y:jA→Prop} {Z:List Int→jA→Prop} {σ0:jA} {bg lo m:Nat} {full:List Value} {ty:Nat} {t:Tm} (yp:Yt G lid key Y Z σ0 bg lo m full ty t) (h0:1≤σ0.lo):∀ x:Tm,EaP G lid key Y Z σ0 bg lo m full ty t x
 | .mk k a b s e l=>by
  unfold EaP
  intro r bq oq lq hq fq tq cx h σ hY
  have hl0:=yp.hlo hY
  have ih:∀ y∈(Tm.mk k a b s e l).l,EaP G lid key Y Z σ0 bg lo m full ty t y:=fun y hy=>by
   have hy:y∈l:=hy
   exact mE1 yp h0 y
  refine jO.fir4 (q:=qq) (jX G) fir42 (by kernel_rfl) rfl rfl (bF1 ..) (by first|exact Nat.le_trans (show NGG≤1 by decide) (by omega)) ?_;rw[pD1]
  by_cases hm:(Tm.mk k a b s e l).k=14∧(Tm.mk k a b s e l).a=key
  ·simp(disch:=first|omega|(apply id;simp only[push_cast];try omega))only[push_cast,simprocAttr]
   refine jC.mono (yp.yes hY h hm) ?_
   rintro _ _ σ2 ⟨rfl,hZ⟩
   simp(disch:=first|omega|(apply id;simp only[push_cast];try omega))only[push_cast,simprocAttr,Bool.not_false]
   rw[kyP,if_pos (show k=14∧a=key from hm)]
   exact ⟨rfl,by rw[List.append_nil];exact hZ⟩
  ·simp(disch:=first|omega|(apply id;simp only[push_cast];try omega))only[push_cast,simprocAttr]
   refine jC.mono (yp.no hY h hm) ?_
   rintro _ _ σ2 ⟨rfl,hY2⟩
   have hl:=yp.hlo hY2
   have hg:=h.k.1
   have hcq:=(yp.g hY2).cellsE h.l.lc h.l.ln id
   have hqlo:σ2.lo≤bq:=by have:=h.l.lp;omega
   have hkl:=lP1 h.l.lt
   have hkk:(Tm.mk k a b s e l).k=k:=rfl
   rw[hkk] at hkl hg
   by_cases k12:k=12
   ·subst k12
    rw[if_pos (.inl rfl)] at hkl
    simp(disch:=first|omega|(apply id;simp only[push_cast];try omega))only[push_cast,simprocAttr,Bool.not_true,hcq,hqlo,hg]
    rw[uH0]
    simp(disch:=first|omega|(apply id;simp only[push_cast];try omega))only[push_cast,simprocAttr]
    exact dZ0 G yp h0 ih h hm hY2 (by rw[hkl];rfl)
   by_cases k7:k=7
   ·subst k7
    rw[if_pos (.inr rfl)] at hkl
    simp(disch:=first|omega|(apply id;simp only[push_cast];try omega))only[push_cast,simprocAttr,Bool.not_true,hcq,hqlo,hg]
    rw[uH0]
    simp(disch:=first|omega|(apply id;simp only[push_cast];try omega))only[push_cast,simprocAttr]
    exact dZ0 G yp h0 ih h hm hY2 (by rw[hkl];rfl)
   rw[if_neg (by omega)] at hkl
   by_cases k11:k=11
   ·subst k11
    rw[if_pos rfl] at hkl
    simp(disch:=first|omega|(apply id;simp only[push_cast];try omega))only[push_cast,simprocAttr,Bool.not_true,hcq,hqlo,hg]
    rw[uH0]
    simp(disch:=first|omega|(apply id;simp only[push_cast];try omega))only[push_cast,simprocAttr]
    exact dZ0 G yp h0 ih h hm hY2 (by rw[hkl];rfl)
   ·rw[if_neg k11] at hkl
    simp(disch:=first|omega|(apply id;simp only[push_cast];try omega))only[push_cast,simprocAttr,Bool.not_true,hcq,hqlo,hg,k12,k7]
    rw[uH0]
    simp(disch:=first|omega|(apply id;simp only[push_cast];try omega))only[push_cast,simprocAttr,k11]
    exact dZ0 G yp h0 ih h hm hY2 (by rw[hkl];rfl)
 termination_by x=>SizeOf.sizeOf x
structure TlS (σ0:jA) (lo m:Nat) (t:Tm) (cs:List Value) (vv st:Value) (v:List Int) (n ky key value:Int):Prop where
 hl:σ0.lo=1
 c2:cells σ0 3=some ([.int .i64 key],3,false)
 c3:cells σ0 4=some ([.int .i64 value],3,false)
 c4:cells σ0 5=some (cs++[vv,st,.int .i64 n,.int .i64 ky],35,false)
 c5:cells σ0 6=some ([.string (Tx []),.int .i64 0,.int .i64 0],38,false)
 hN:NTs σ0 lo m t cs
 hlo:6<lo
 hm:m≤σ0.next
 hV:VrR σ0 m v vv
 hv:v.length<100000000000
def tlV (v:List Int) (b value:Int):List Int:=if 0≤b then v.set b.toNat value else v
def TlY (σ0:jA) (lid mk:Nat) (lp:Loop) (σ:jA):Prop:=jD σ0 σ (fun _=>False)∧σ.get lid=some ⟨.loop lp,false⟩∧σ.get mk=some ⟨.deferred (some []),false⟩∧lid<σ.next
structure TlZ (σ0:jA) (lo:Nat) (t:Tm) (vv st:Value) (v:List Int) (n ky key value:Int) (lid mk:Nat) (lp:Loop) (r:List Int) (σ':jA):Prop where
 lp:σ'.get lid=some ⟨.loop { lp with state:=.done,pending:=some (.exit 0) },false⟩
 mkd:σ'.get mk=some ⟨.deferred (some []),false⟩
 lt:lid<σ'.next
 ev:cells σ' 6=some ([.string (Tx (atT t r).s),.int .i64 key,.int .i64 value],38,false)
 g:jD σ0 σ' (fun k=>k=5∨k=6∨lo≤k)
 w:∃ c',c'.length=9∧cells σ' 5=some (c'++[vv,st,.int .i64 n,.int .i64 ky],35,false)∧FzL Tryd.prog lo σ' c' (tmC (gD t r zT))∧FzV Tryd.prog lo σ' vv (ivV (tlV v (atT t r).b value))
theorem yt {σ0:jA} {lo m:Nat} {t:Tm} {cs:List Value} {vv st:Value} {v:List Int} {n ky key value:Int} (hS:TlS σ0 lo m t cs vv st v n ky key value) {lid mk:Nat} (hlid:σ0.next<lid) (hmk:σ0.next≤mk) (hml:mk<lid) {lp:Loop} {x0 x1 x2 x3 x4 x5 xA xB xC xD xE xF xG xH xI xJ xK xL xM xN xO xP xQ xR xS xT xU xV xW xX xY xZ yA yB yC yD yE yF yG yH yI yJ yK yL yM yN yO yP yQ yR yS yT yU yV yW yX yY yZ zA zB zC zD zE zF zG zH zI zJ zK:Value}
  (hlp:lp={ state:=.ready,pending:=none,fn:=0,tmps:=((F73 x0 x1 x2 x3 x4 x5 (.pointer (some ⟨3,0,none⟩)) (.pointer (some ⟨4,0,none⟩)) (.pointer (some ⟨5,0,none⟩)) (.pointer (some ⟨6,0,none⟩)) xA xB xC xD xE xF xG xH xI xJ xK xL xM xN xO xP xQ xR xS xT xU xV xW xX xY xZ yA yB yC yD yE yF yG yH yI yJ yK yL yM yN yO yP yQ yR yS yT yU yV yW yX yY yZ zA zB zC zD zE zF zG zH zI zJ zK)).arr,params:=#[30],assign:=kY Tryd.prog 10 0,body:=kY Tryd.prog 10 1,defers:=mk })
  (hb:∀ r,kF t r→(atT t r).k=14→(atT t r).b<v.length) :
  Yt G lid key (TlY σ0 lid mk lp) (TlZ σ0 lo t vv st v n ky key value lid mk lp) σ0 5 lo m (cs++[vv,st,.int .i64 n,.int .i64 ky]) 35 t where
 g:=fun h=>h.1
 hlo:=fun h=>h.1.lo.trans hS.hl
 no:=fun {σ} hY {r bq oq lq hq fq tq x cx} hA hx=>by
  obtain ⟨g0,h1,h2,h3⟩:=hY
  have hl:=g0.lo.trans hS.hl
  have hn0:=g0.next
  refine jC.yield (q:=qq) (T:=(F73 x0 x1 x2 x3 x4 x5 (.pointer (some ⟨3,0,none⟩)) (.pointer (some ⟨4,0,none⟩)) (.pointer (some ⟨5,0,none⟩)) (.pointer (some ⟨6,0,none⟩)) xA xB xC xD xE xF xG xH xI xJ xK xL xM xN xO xP xQ xR xS xT xU xV xW xX xY xZ yA yB yC yD yE yF yG yH yI yJ yK yL yM yN yO yP yQ yR yS yT yU yV yW yX yY yZ zA zB zC zD zE zF zG zH zI zJ zK)) (jX G) (qE h1 (by omega)) h3 (by rw[hlp]) (by show 73<U;unfold U;omega) (by rw[hlp];rfl) (by rw[hlp];exact oS0) (by rw[hlp];exact oR0) (show gS NGG oD0=true by kernel_rfl) (show gS NGG oC0=true by kernel_rfl) (by rw[hl];exact (show NGG≤1 by decide)) ?_
  rw[show lp.params=#[30] by rw[hlp],show ∀ u:Value,uG (F73 x0 x1 x2 x3 x4 x5 (.pointer (some ⟨3,0,none⟩)) (.pointer (some ⟨4,0,none⟩)) (.pointer (some ⟨5,0,none⟩)) (.pointer (some ⟨6,0,none⟩)) xA xB xC xD xE xF xG xH xI xJ xK xL xM xN xO xP xQ xR xS xT xU xV xW xX xY xZ yA yB yC yD yE yF yG yH yI yJ yK yL yM yN yO yP yQ yR yS yT yU yV yW yX yY yZ zA zB zC zD zE zF zG zH zI zJ zK) ((#[30]:Array Nat).toList.zip [u])=(F73 x0 x1 x2 x3 x4 x5 (.pointer (some ⟨3,0,none⟩)) (.pointer (some ⟨4,0,none⟩)) (.pointer (some ⟨5,0,none⟩)) (.pointer (some ⟨6,0,none⟩)) xA xB xC xD xE xF xG xH xI xJ xK xL xM xN xO xP xQ xR xS xT u xV xW xX xY xZ yA yB yC yD yE yF yG yH yI yJ yK yL yM yN yO yP yQ yR yS yT yU yV yW yX yY yZ zA zB zC zD zE zF zG zH zI zJ zK) from fun u=>by kernel_rfl,fE0]
  simp only[kR,hi,kH0]
  rw[qE h1 (by omega)]
  refine ⟨by rw[hlp],?_⟩
  rw[show (jM σ lid { lp with state:=.busy })=σ.put lid ⟨.loop { lp with state:=.busy },false⟩ from rfl]
  obtain ⟨τ,hτ⟩:∃ τ,τ=σ.put lid ⟨.loop { lp with state:=.busy },false⟩:=⟨_,rfl⟩
  rw[← hτ]
  have g2:jD σ τ (fun k=>k=lid):=by rw[hτ];exact jD.put _ _ _ fun _=>rfl
  have gg:jD σ0 τ (fun _=>False):=g0.tr' g2 fun k hk e=>by omega
  have blp:τ.get lid=some ⟨.loop { lp with state:=.busy },false⟩:=by rw[hτ];exact qO _ _
  have b2:=gg.cellsE hS.c2 (by have:=hS.hlo;have:=hS.hN.le;have:=hS.hm;omega) id
  have bq1:=gg.cellsE hA.l.lc hA.l.ln id
  have hlτ:τ.lo=1:=by rw[g2.lo,hl]
  have hqlo:τ.lo≤bq:=by have:=hA.l.lp;omega
  have hg:=hA.k.1
  have hmkτ:τ.get mk=some ⟨.deferred (some []),false⟩:=(g2.get mk (by omega) (by omega)).trans h2
  have hnτ:σ.next≤τ.next:=g2.next
  have fin:∀ (tm:VT) (df:List Nat),gN lid (fun (_:Bool) v σ'=>v=.bool true∧TlY σ0 lid mk lp σ') .normal ⟨tm,df,τ⟩:=fun tm df=>by
   simp only[gN]
   rw[qE blp (by omega)]
   have he:({ { lp with state:=.busy } with state:=.ready,pending:=none }:Loop)=lp:=by rw[hlp]
   show _∧TlY σ0 lid mk lp (τ.put lid ⟨.loop { { lp with state:=.busy } with state:=.ready,pending:=none },false⟩)
   rw[he]
   have gp:jD τ (τ.put lid ⟨.loop lp,false⟩) (fun k=>k=lid):=jD.put _ _ _ fun _=>rfl
   exact ⟨rfl,gg.tr' gp fun k hk e=>by omega,qO _ _,(gp.get mk (by omega) (by omega)).trans hmkτ,by show lid<τ.next;omega⟩
  clear hτ
  rw[fD0]
  by_cases hk:x.k=14
  ·have ha:¬ x.a=key:=fun e=>hx ⟨hk,e⟩
   have hga:fq[oq+1]?=some (.int .i64 x.a):=hA.k.2 1 _ (by
    cases hA.l.lt with
    | leaf=>cases x;rfl
    | blk=>cases hk
    | seq=>cases hk
    | par=>cases hk)
   simp(disch:=first|omega|(apply id;simp only[push_cast];try omega))only[push_cast,simprocAttr,bq1,hqlo,hg,hk,hga,ha,b2,hlτ]
   exact fin _ _
  ·simp(disch:=first|omega|(apply id;simp only[push_cast];try omega))only[push_cast,simprocAttr,bq1,hqlo,hg,hk]
   exact fin _ _
 yes:=fun {σ} hY {r bq oq lq hq fq tq x cx} hA hx=>by
  obtain ⟨g0,h1,h2,h3⟩:=hY
  have hl:=g0.lo.trans hS.hl
  have hn0:=g0.next
  refine jC.yield (q:=qq) (T:=(F73 x0 x1 x2 x3 x4 x5 (.pointer (some ⟨3,0,none⟩)) (.pointer (some ⟨4,0,none⟩)) (.pointer (some ⟨5,0,none⟩)) (.pointer (some ⟨6,0,none⟩)) xA xB xC xD xE xF xG xH xI xJ xK xL xM xN xO xP xQ xR xS xT xU xV xW xX xY xZ yA yB yC yD yE yF yG yH yI yJ yK yL yM yN yO yP yQ yR yS yT yU yV yW yX yY yZ zA zB zC zD zE zF zG zH zI zJ zK)) (jX G) (qE h1 (by omega)) h3 (by rw[hlp]) (by show 73<U;unfold U;omega) (by rw[hlp];rfl) (by rw[hlp];exact oS0) (by rw[hlp];exact oR0) (show gS NGG oD0=true by kernel_rfl) (show gS NGG oC0=true by kernel_rfl) (by rw[hl];exact (show NGG≤1 by decide)) ?_
  rw[show lp.params=#[30] by rw[hlp],show ∀ u:Value,uG (F73 x0 x1 x2 x3 x4 x5 (.pointer (some ⟨3,0,none⟩)) (.pointer (some ⟨4,0,none⟩)) (.pointer (some ⟨5,0,none⟩)) (.pointer (some ⟨6,0,none⟩)) xA xB xC xD xE xF xG xH xI xJ xK xL xM xN xO xP xQ xR xS xT xU xV xW xX xY xZ yA yB yC yD yE yF yG yH yI yJ yK yL yM yN yO yP yQ yR yS yT yU yV yW yX yY yZ zA zB zC zD zE zF zG zH zI zJ zK) ((#[30]:Array Nat).toList.zip [u])=(F73 x0 x1 x2 x3 x4 x5 (.pointer (some ⟨3,0,none⟩)) (.pointer (some ⟨4,0,none⟩)) (.pointer (some ⟨5,0,none⟩)) (.pointer (some ⟨6,0,none⟩)) xA xB xC xD xE xF xG xH xI xJ xK xL xM xN xO xP xQ xR xS xT u xV xW xX xY xZ yA yB yC yD yE yF yG yH yI yJ yK yL yM yN yO yP yQ yR yS yT yU yV yW yX yY yZ zA zB zC zD zE zF zG zH zI zJ zK) from fun u=>by kernel_rfl,fE0]
  simp only[kR,hi,kH0]
  rw[qE h1 (by omega)]
  refine ⟨by rw[hlp],?_⟩
  rw[show (jM σ lid { lp with state:=.busy })=σ.put lid ⟨.loop { lp with state:=.busy },false⟩ from rfl]
  obtain ⟨τ,hτ⟩:∃ τ,τ=σ.put lid ⟨.loop { lp with state:=.busy },false⟩:=⟨_,rfl⟩
  rw[← hτ]
  have g2:jD σ τ (fun k=>k=lid):=by rw[hτ];exact jD.put _ _ _ fun _=>rfl
  have gg:jD σ0 τ (fun _=>False):=g0.tr' g2 fun k hk e=>by omega
  have blp:τ.get lid=some ⟨.loop { lp with state:=.busy },false⟩:=by rw[hτ];exact qO _ _
  have b2:=gg.cellsE hS.c2 (by have:=hS.hlo;have:=hS.hN.le;have:=hS.hm;omega) id
  have bq1:=gg.cellsE hA.l.lc hA.l.ln id
  have hlτ:τ.lo=1:=by rw[g2.lo,hl]
  have hqlo:τ.lo≤bq:=by have:=hA.l.lp;omega
  have hg:=hA.k.1
  have hmkτ:τ.get mk=some ⟨.deferred (some []),false⟩:=(g2.get mk (by omega) (by omega)).trans h2
  have hnτ:σ.next≤τ.next:=g2.next
  have hxl:∃ l,cx=[.int .i64 14,.int .i64 key,.int .i64 x.b,.string (Tx x.s)]++l:=by
   cases hA.l.lt with
   | leaf=>
    obtain ⟨k,a,b,s,e,l⟩:=x
    obtain ⟨rfl,rfl⟩:k=14∧a=key:=hx
    exact ⟨_,rfl⟩
   | blk=>cases hx.1
   | seq=>cases hx.1
   | par=>cases hx.1
  obtain ⟨xl,hxl⟩:=hxl
  have hga:fq[oq+1]?=some (.int .i64 key):=hA.k.2 1 _ (by rw[hxl];rfl)
  have hgb:fq[oq+2]?=some (.int .i64 x.b):=hA.k.2 2 _ (by rw[hxl];rfl)
  have hgs:fq[oq+3]?=some (.string (Tx x.s)):=hA.k.2 3 _ (by rw[hxl];rfl)
  have hxb:=hb r hA.a (by rw[← hA.x];exact hx.1)
  rw[← hA.x] at hxb
  have hlo:=hS.hlo
  have hlm:=hS.hN.le
  have hm:=hS.hm
  have b3:=gg.cellsE hS.c3 (by omega) id
  have b4:=gg.cellsE hS.c4 (by omega) id
  have b5:=gg.cellsE hS.c5 (by omega) id
  have hvb:=hA.bi
  have hkx:=hx.1
  have hwq:=hA.l.lw
  have hnτ:σ.next≤τ.next:=g2.next
  have hgv:=jE2 hS.hN.len
  have hVτ:=hS.hV.grew gg (fun _ _ _ h=>h)
  have fin : ∀ (tm : VT) (df : List Nat) (H : jA), jD τ H (fun k => k = 6 ∨ k = bq ∨ (m ≤ k ∧ k < σ0.next)) → cells H 6 = some ([.string (Tx x.s), .int .i64 key, .int .i64 value], 38, false) → cells H bq = some (setFrom fq oq ztm, tq, false) → (∀ H', (∀ i y, i < σ0.next → cells H i = some y → cells H' i = some y) → σ0.next ≤ H'.next → VrR H' m (tlV v x.b value) vv) →
    gN lid (fun (_:Bool) v' σ'=>v'=.bool false∧TlZ σ0 lo t vv st v n ky key value lid mk lp r σ') (.exit 0) ⟨tm,df,H⟩:=fun tm df H gH e5 eq hV2=>by
   have blH:H.get lid=some ⟨.loop { lp with state:=.busy },false⟩:=(gH.get lid (by omega) (by omega)).trans blp
   have hnH:=gH.next
   simp only[gN]
   rw[qE blH (by rw[gH.lo];omega)]
   show _∧TlZ σ0 lo t vv st v n ky key value lid mk lp r (H.put lid ⟨.loop { { lp with state:=.busy } with state:=.done,pending:=some (.exit 0) },false⟩)
   have gp:jD H (H.put lid ⟨.loop { { lp with state:=.busy } with state:=.done,pending:=some (.exit 0) },false⟩) (fun k=>k=lid):=jD.put _ _ _ fun _=>rfl
   have hmkH:H.get mk=some ⟨.deferred (some []),false⟩:=(gH.get mk (by omega) (by omega)).trans hmkτ
   have gall:jD σ0 (H.put lid ⟨.loop { { lp with state:=.busy } with state:=.done,pending:=some (.exit 0) },false⟩) (fun k=>k=6∨k=bq∨(m≤k∧k<σ0.next)):=((gg.mono fun _ _ h=>h.elim).tr' gH fun _ _ h=>h).tr' gp fun k hk e=>by omega
   obtain ⟨c',d1,d2,d3⟩:=hA.w _ zT ztm rfl (gall.mono fun k hk e=>by
    rcases e with e|e|e
    ·exact .inr ⟨by omega,.inl (by omega)⟩
    ·exact .inl (.inl e)
    ·exact .inr ⟨by omega,.inr e.1⟩) ((jG _ _ _ (by omega)).trans eq) (by cases cD0 Tryd.prog lo (H.put lid ⟨.loop { { lp with state:=.busy } with state:=.done,pending:=some (.exit 0) },false⟩) with|agg h=>exact h)
   refine ⟨rfl,qO _ _,(gp.get mk (by omega) (by omega)).trans hmkH,by show lid<H.next;omega,?_,gall.mono fun k hk e=>by show _∨_∨_;omega,c',d1,?_,d3,?_⟩
   ·rw[← hA.x]
    exact (jG _ _ _ (by omega)).trans e5
   ·rw[d2]
    unfold setFrom
    rw[List.take_zero,List.nil_append,Nat.zero_add,d1,List.drop_left' hS.hN.len]
   ·rw[← hA.x]
    have hlt:(tlV v x.b value).length=v.length:=by unfold tlV;split<;>simp
    exact VrR.fz rfl (hV2 _ (fun i y hi hy=>gp.cellsE hy (by omega) (by omega)) (by show σ0.next≤H.next;omega)) hlm (by rw[hlt];exact hS.hv)
  clear hτ
  rw[fD0]
  by_cases hb0:0≤x.b
  ·obtain ⟨i,hi⟩:∃ i:Nat,x.b=i:=⟨x.b.toNat,by omega⟩
   have hxb2:(i:Int)<v.length:=by omega
   obtain ⟨bv,rfl,hcv,hv2,hv3⟩:∃ b,vv=.slice (some ⟨b,0,none⟩) v.length v.length∧cells τ b=some (ivs v,eI,false)∧m≤b∧b<σ0.next:=by
    rcases hS.hV with ⟨h5,_⟩|⟨b,h5,h6,h7,h8⟩
    ·rw[h5] at hxb;simp at hxb;omega
    ·exact ⟨b,h5,gg.cellsE h6 h8 id,h7,h8⟩
   rw[hi] at hgb
   have hi0:(0:Int)≤i:=by omega
   simp(disch:=first|omega|(apply id;simp only[push_cast];try omega))only[push_cast,simprocAttr,bq1,hqlo,hg,hkx,hga,b2,b3,b4,b5,hlτ,hgs,hgb,hi0,hgv,hxb2,hcv,Int.toNat_natCast]
   rw[lQ0 _ _ _ (by omega)]
   have hbv6:bv≠6:=by omega
   have hbvq:bv≠bq:=by omega
   refine fin _ _ _ ((((jD.put _ _ _ (S:=fun k=>k=6∨k=bq∨(m≤k∧k<σ0.next)) fun _=>.inl rfl).put'' _ _ fun _=>.inr (.inr ⟨hv2,hv3⟩)).put'' _ _ fun _=>.inr (.inl rfl))) ((jG _ _ _ (by omega)).trans ((jG _ _ _ hbv6.symm).trans (jP _ _ _ _))) (jP _ _ _ _) (fun H' h5 h6=>.inr ⟨bv,?_,?_,hv2,by omega⟩)
   ·unfold tlV
    rw[if_pos hb0,List.length_set]
   ·refine h5 bv _ hv3 ((jG _ _ _ hbvq).trans ((jP _ _ _ _).trans ?_))
    unfold tlV
    rw[if_pos hb0,hi,Int.toNat_natCast]
  ·simp(disch:=first|omega|(apply id;simp only[push_cast];try omega))only[push_cast,simprocAttr,bq1,hqlo,hg,hkx,hga,b2,b3,b4,b5,hlτ,hgs,hgb,hb0]
   refine fin _ _ _ ((jD.put _ _ _ (S:=fun k=>k=6∨k=bq∨(m≤k∧k<σ0.next)) fun _=>.inl rfl).put'' _ _ fun _=>.inr (.inl rfl)) ((jG _ _ _ (by omega)).trans (jP _ _ _ _)) (jP _ _ _ _) (fun H' h5 h6=>?_)
   unfold tlV
   rw[if_neg hb0]
   rcases hS.hV with h7|⟨b,h7,h8,h9,h10⟩
   ·exact .inl h7
   ·exact .inr ⟨b,h7,h5 b _ h10 ((jG _ _ _ (by omega)).trans ((jG _ _ _ (by omega)).trans (gg.cellsE h8 h10 id))),h9,by omega⟩
end
end Go.Proofs.YtdcjpmjmjinjmaaDoor
namespace Go.Dv
open Go Go.RowKit Go.Ev
noncomputable section
structure qR2 (P:Program) (n:Nat) (q:Nat→Bool) (σ σ1:jA):Prop where
 next:σ1.next=σ.next
 lo:σ1.lo=σ.lo
 nl:σ.lo≤n
 nn:n≤σ.next
 hq:∀ i,i<n→q i=true
 get:∀ i,(n≤i∧q i=true∧σ1.get i=none)∨(n≤i∧q i=false∧σ1.get i=σ.get i)∨(i<n∧σ1.get i=σ.get i)∨(σ.lo≤i∧i<n∧∃ cs cs1 e fr fr1 m,σ.get i=some ⟨.cells ⟨cs⟩ e fr,m⟩∧σ1.get i=some ⟨.cells ⟨cs1⟩ e fr1,m⟩∧FzL P n (uM q σ) cs cs1∧cs1.all one=true)
theorem yM1 {P:Program} {g:Gh} {n:Nat} {q:Nat→Bool} {σ σ1 h:jA} (hr:Rel g σ h) (hP:g.P=P) (k:qR2 P n q σ σ1):Ext g σ h (g.all n (uM q σ)) σ1 h∧Rel (g.all n (uM q σ)) σ1 h:=by
 have hlon:=hr.lon
 have r0:Rel g (uM q σ) h:=hr.flt q (fun i hi=>k.hq i (by have:=k.nl;omega)) (F':=g.F) (fun b hb=>⟨(hr.frz b hb).1,fun i hi _=>(hr.frz b hb).2 i hi⟩) (fun b hb=>hb)
 have e0:Ext0 g h σ.next (g.all n (uM q σ)) h σ.next:=⟨rfl,Nat.le_refl _,fun _ _=>rfl,fun _ hb=>.inl hb,Nat.le_refl _,rfl,fun _ _ _=>rfl⟩
 have own:∀ i,uH σ1 i→uH σ i∧(i<n∨q i=false):=fun i ⟨h1,h2,h3⟩=>by
  rw[k.lo] at h1
  rw[k.next] at h2
  rcases k.get i with ⟨_,_,h4⟩|⟨_,h5,h4⟩|⟨h5,h4⟩|⟨_,h5,cs,cs1,e,fr,fr1,m,h6,_⟩
  ·rw[h4] at h3;cases h3
  ·rw[h4] at h3;exact ⟨⟨h1,h2,h3⟩,.inr h5⟩
  ·rw[h4] at h3;exact ⟨⟨h1,h2,h3⟩,.inl h5⟩
  ·exact ⟨⟨h1,h2,by rw[h6];rfl⟩,.inl h5⟩
 have low:∀ i,i<σ.lo→σ1.get i=σ.get i:=fun i hi=>by
  have:=k.nl
  rcases k.get i with ⟨h5,_⟩|⟨h5,_⟩|⟨_,h4⟩|⟨h5,_⟩
  ·omega
  ·omega
  ·exact h4
  ·omega
 refine ⟨⟨rfl,rfl,by rw[k.next];exact Nat.le_refl _,k.lo,Nat.le_refl _,rfl,fun _ _=>rfl,fun _ hb=>.inl hb,fun b hb=>?_,fun _ _ _=>rfl,fun i hi=>.inl (own i hi).1⟩,?_⟩
 ·rcases hb with hb|⟨i,hi,_,e⟩
  ·exact .inl hb
  ·exact .inr (.inr ⟨i,(jJ0 hi).1,e⟩)
 refine ⟨by rw[k.lo];exact hr.pos,by rw[k.lo];exact hr.lo,by rw[k.lo,k.next];exact hlon,hr.hlo,fun i hi=>?_,fun i y hi hy=>?_,fun i hi=>?_,fun i y hi hy=>?_,fun i hi=>hr.dlt i (by rw[k.next] at hi;exact hi),fun i hi=>hr.dlo i (own i hi).1,fun i j hi hj e=>hr.inj i j (own i hi).1 (own j hj).1 e,fun b hb=>?_,hr.wf⟩
 ·rw[k.lo] at hi
  rw[low i hi];exact hr.base i hi
 ·rw[k.lo] at hi
  rw[low i hi] at hy;exact hr.baseF i y hi hy
 ·rw[k.lo] at hi
  rw[low i hi];exact hr.baseD i hi
 ·rw[k.next] at hi ⊢
  rw[k.lo]
  rcases k.get i with ⟨_,_,h4⟩|⟨_,_,h4⟩|⟨_,h4⟩|⟨h5,h6,cs,cs1,e,fr,fr1,m,h7,h8,h9,h10⟩
  ·rw[h4] at hy;cases hy
  ·exact (hr.obj i y hi (by rw[← h4];exact hy)).ext e0 rfl
  ·exact (hr.obj i y hi (by rw[← h4];exact hy)).ext e0 rfl
  ·rw[h8] at hy
   cases hy
   obtain ⟨vs,e',q1,q2,q3,q4⟩:=hr.obj i _ hi h7
   exact ⟨vs,e',q1,q2,RVL.ext ⟨rfl,k.nn,fun _ _=>rfl,fun _ hb=>hb,Nat.le_refl _,rfl,fun _ _ _=>rfl⟩ _ _ (uU r0 hP k.nl k.nn h9 q3),h10⟩
 ·rcases hb with hb|⟨i,hi,hn,rfl⟩
  ·exact ⟨(hr.frz b hb).1,fun j hj=>(hr.frz b hb).2 j (own j hj).1⟩
  ·obtain ⟨hi1,hi2⟩:=jJ0 hi
   refine ⟨hr.dlt i hi1.2.1,fun j hj e=>?_⟩
   have:=hr.inj j i (own j hj).1 hi1 e
   subst this
   rcases (own j hj).2 with h1|h1
   ·omega
   ·rw[hi2] at h1;cases h1
def FrzP (P:Program) (D D':S):Prop:=∀ (g:Gh) (s:S),g.P=P→SRel g D s→∃ g',Ext g D.h s.h g' D'.h s.h∧SRel g' D' s
theorem kT1 {P:Program} {D:S} {n:Nat} {q:Nat→Bool} {σ1:jA} (k:qR2 P n q D.h σ1):FrzP P D ⟨D.tm,D.df,σ1⟩:=by
 intro g s hP hs
 obtain ⟨x1,r1⟩:=yM1 hs.r hP k
 refine ⟨_,x1,r1,?_,hs.df,fun d hd=>?_⟩
 ·have:=hs.t.ext (x1.e0 hs.r)
  exact this
 ·show d<σ1.next
  rw[k.next]
  exact hs.dl d hd
theorem WD.frzP {p:Par} {H:jA} {ro:Option Nat} {ir:IR} {D:S} {R:jL→S→Prop} (hw:WD p H ro ir D (@kR ⟨fun e s=>∃ D',FrzP p.P s D'∧@kR ⟨R⟩ e D'⟩)):WD p H ro ir D (@kR ⟨R⟩):=by
 intro g s h1 h2 h3 h4
 intro c hc
 refine WP.mono (hw g s h1 h2 h3 h4 c hc) fun e s' hA=>?_
 obtain ⟨g',D1,⟨D',hF,hR⟩,x,r⟩:=hA
 obtain ⟨g2,x2,r2⟩:=hF g' s' (x.ok h1).1 r
 exact ⟨g2,D',hR,x.trans x2,r2⟩
theorem dC1 {l i:Nat} {s:S} {mk:List Nat} {R:jL→S→Prop} {v:Value} {h2:jA} {r:Loop} (hg:qF h2 l=some r) (hs:r.state=.done) (hp:r.pending=some (.exit i)) (hR:R (.exit i) ⟨s.tm,mk++s.df,jM h2 l { r with state:=.exhausted }⟩):qC0 l s mk R v h2:=by
 have he:qW0 l ⟨s.tm,mk++s.df,h2⟩=some (.exit i,⟨s.tm,mk++s.df,jM h2 l { r with state:=.exhausted }⟩):=by
  unfold qW0
  rw[hg]
  obtain ⟨st,pd,fn,tm',ps',as',bd',df'⟩:=r
  cases hs
  cases hp
  rfl
 unfold qC0
 rw[he]
 exact hR
def yO1 (n b:Nat) (q:Nat→Bool) (x:qH) (σ:jA):jA:=(uM (fun i=>Nat.blt i n || !q i) σ).put b x
theorem yN1 {P:Program} {n b:Nat} {q:Nat→Bool} {σ:jA} {cs cs1:List Value} {e:TypeId} {m:Bool} (hq:∀ i,i<n→q i=true) (hl:σ.lo≤b) (hb:b<n) (hn:n≤σ.next) (hc:cells σ b=some (cs,e,m)) (hz:FzL P n (uM q σ) cs cs1) (ho:cs1.all one=true):qR2 P n q σ (yO1 n b q (O cs1 e m) σ):=by
 obtain ⟨fr,hg⟩:=uI hc
 refine ⟨rfl,rfl,by omega,hn,hq,fun i=>?_⟩
 unfold yO1
 by_cases e:i=b
 ·subst e
  exact .inr (.inr (.inr ⟨hl,hb,cs,cs1,_,fr,(0,0),m,hg,qO _ _,hz,ho⟩))
 ·rw[jW _ _ _ e,kN]
  by_cases hi:i<n
  ·rw[if_pos (by simp[hi])];exact .inr (.inr (.inl ⟨hi,rfl⟩))
  ·cases hqi:q i with
   | true=>rw[if_neg (by simp[hi])];exact .inl ⟨by omega,rfl,rfl⟩
   | false=>rw[if_pos (by simp)];exact .inr (.inl ⟨by omega,rfl,rfl⟩)
theorem dO1 {P:Program} {n:Nat} {σ:jA} {q:Nat→Bool} (hq:∀ i x,n≤i→cells σ i=some x→q i=true):∀ i x,n≤i→cells σ i=some x→cells (uM q σ) i=some x:=fun i x hi hx=>by
 rw[jD0 σ (hq i x hi hx)];exact hx
end
end Go.Dv
namespace Go.Proofs.YtdcjpmjmjinjmaaDoor
open Go Go.RowKit Go.Ev Go.Dv
noncomputable section
set_option maxRecDepth 100000
variable (G:Nat×Nat)
structure Tv where
 f:Cf
 en:List UInt8
 ek:Int
 ev:Int
 is:Bool
def tlG (f:Cf) (key value:Int):Cf×List UInt8×Int×Int:=
 match kyP key (jF f.t) with
 | none=>(⟨jF (jF f.t),f.v,f.st,f.n,f.key⟩,[],0,0)
 | some r=>(⟨jF (gD (jF f.t) r zT),tlV f.v (atT (jF f.t) r).b value,f.st,f.n,f.key⟩,(atT (jF f.t) r).s,key,value)
def nH1 (c:Co) (f:Cf) (key value:Int):Tv:=
 if decide (key∈jY0 f.t)=true∧gK c f=true then ⟨(tlG f key value).1,(tlG f key value).2.1,(tlG f key value).2.2.1,(tlG f key value).2.2.2,true⟩ else ⟨cfZ,[],0,0,false⟩
def tvV (r:Tv):Value:=.tuple ⟨[cfV r.f,.agg ⟨[.string (Tx r.en),.int .i64 r.ek,.int .i64 r.ev]⟩,.bool r.is]⟩
theorem uC2 (n:Nat) (hn:0<n) (r:Tv):Ev.sc n (tvV r)=true:=by
 unfold tvV cfV
 simp only[Ev.sc,scL,gA1 n hn,Bool.and_true,Bool.true_and]
@[push_cast]theorem yB2 {P:Program} (tm:VT) (h:jA) (a t u s z:Nat):gQ P [.cell a t,.cell u s,.tmp z] tm h=wQ [jJ P t (tm.get a) h,jJ P s (tm.get u) h,some (tm.get z)]:=by
 simp only[gQ,qI.go]
 cases jJ P t (tm.get a) h<;>cases jJ P s (tm.get u) h<;>rfl
theorem uJ2 (T:Tm) (v:List Int) (st:List (List Tm)) (n ky:Int) (en:List UInt8) (ek ev:Int) (hT:smT T=true) {τ:jA} {mk:Nat} (hl:τ.lo=1) (c4:cells τ 5=some (cfC ⟨T,v,st,n,ky⟩,35,false)) (c5:cells τ 6=some ([.string (Tx en),.int .i64 ek,.int .i64 ev],38,false))
  (hmk:τ.get mk=some ⟨.deferred (some []),false⟩) (hm1:6<mk) {x0 x1 x2 x3 x4 x5 x6 x7 xA xB xC xD xE xF xG xH xI xJ xK xL xM xN xO xP xQ xR xS xT xU xV xW xX xY xZ yA yB yC yD yE yF yG yH yI yJ yK yL yM yN yO yP yQ yR yS yT yU yV yW yX yY yZ zA zB zC zD zE zF zG zH zI zJ zK:Value} :
  dc3 (pp G) qq none gI0 ⟨(F73 x0 x1 x2 x3 x4 x5 x6 x7 (.pointer (some ⟨5,0,none⟩)) (.pointer (some ⟨6,0,none⟩)) xA xB xC xD xE xF xG xH xI xJ xK xL xM xN xO xP xQ xR xS xT xU xV xW xX xY xZ yA yB yC yD yE yF yG yH yI yJ yK yL yM yN yO yP yQ yR yS yT yU yV yW yX yY yZ zA zB zC zD zE zF zG zH zI zJ zK),[mk],τ⟩ (@kR ⟨jH Tryd.prog [.cell 8 35,.cell 9 38,.tmp 10] (fun v' σ'=>FzV (pp G).P H0.next σ' v' (tvV ⟨⟨jF T,v,st,n,ky⟩,en,ek,ev,true⟩))⟩):=by
 have hnf:=fM0 G T hT
 generalize jF T=T2 at *
 obtain ⟨k2,a2,b2,s2,x2,l2⟩:=T2
 obtain ⟨k,a,b,s,e,l⟩:=T
 unfold cfC ivV trV at c4
 simp only[qQ,List.cons_append,List.nil_append] at c4
 have hev:Go.Dv.eqv (.agg ⟨[.string (Tx en),.int .i64 ek,.int .i64 ev]⟩)=true:=rfl
 rw[sF0]
 simp(disch:=first|omega|(apply id;simp only[push_cast];try omega))only[push_cast,simprocAttr,hl,c4,c5]
 refine dK (hnf) ?_
 simp(disch:=first|omega|(apply id;simp only[push_cast];try omega))only[push_cast,simprocAttr,hl,c4,c5,hev]
 have r3:∀ X Y Z,(((τ.put 5 X).put 5 Y).put 6 Z).get mk=some ⟨.deferred (some []),false⟩:=fun X Y Z=>by rw[jW _ _ _ (by omega),jW _ _ _ (by omega),jW _ _ _ (by omega)];exact hmk
 rw[qV0 (r3 _ _ _) (by show τ.lo≤mk;omega),show ∀ h:jA,uL [] h=some h from fun _=>rfl]
 have hm4:5≠mk:=by omega
 have hm5:6≠mk:=by omega
 simp(disch:=first|omega|(apply id;simp only[push_cast];try omega))only[push_cast,simprocAttr,hm4,hm5]
 exact FzV.id (uC2 1 (by decide) ⟨⟨.mk k2 a2 b2 s2 x2 l2,v,st,n,ky⟩,en,ek,ev,true⟩)
def tlT (t:Tm) (v:List Int) (st:List (List Tm)) (n ky key value:Int):Tv:=match kyP key t with
 | none=>⟨⟨jF t,v,st,n,ky⟩,[],0,0,true⟩
 | some r=>⟨⟨jF (gD t r zT),tlV v (atT t r).b value,st,n,ky⟩,(atT t r).s,key,value,true⟩
theorem sI0 {lid:Nat} {key:Int} {Y:jA→Prop} {Z:List Int→jA→Prop} {σ0:jA} {bg lo m:Nat} {full:List Value} {ty:Nat} {t:Tm} (yp:Yt G lid key Y Z σ0 bg lo m full ty t) (h0:1≤σ0.lo) {c:List Value} (hA:AtP σ0 bg 0 lo m full ty t [] bg 0 lo m full ty t c) {σ:jA} (hY:Y σ) {b98:Nat} (hb:cells σ b98=some ([.pointer (some ⟨bg,0,none⟩)],64,false)) (hb1:1≤b98) :
  jO (pp G) H0 41 [.func (.yield lid) ⟨[]⟩ ⟨[]⟩,.pointer (some ⟨b98,0,none⟩)] σ (fun _ σ'=>∃ v,EaR Y Z [] (kyP key t) v σ'):=by
 have hl:=yp.hlo hY
 refine jO.fir4 (q:=qq) (jX G) fir41 (by kernel_rfl) rfl rfl (mP1 ..) (by first|exact Nat.le_trans (show NGG≤1 by decide) (by omega)) ?_;rw[pE1]
 simp(disch:=first|omega|(apply id;simp only[push_cast];try omega))only[push_cast,simprocAttr,hb,hl]
 refine jC.func (cap:=[]) (mE1 G yp h0 t _ _ _ _ _ _ _ _ hA _ hY) ?_
 intro v σ2 hE
 simp(disch:=first|omega|(apply id;simp only[push_cast];try omega))only[push_cast,simprocAttr]
 exact ⟨v,hE⟩
theorem uI2 {σ0:jA} {lo m:Nat} {t:Tm} {cs:List Value} {vv:Value} {st:List (List Tm)} {v:List Int} {n ky key value:Int} (hS:TlS σ0 lo m t cs vv (trV st) v n ky key value) {b98:Nat} (hb:cells σ0 b98=some ([.pointer (some ⟨5,0,none⟩)],64,false)) (hb1:1≤b98) (hb2:b98<σ0.next)
  (hw:∀ r,kF t r→(atT t r).k=14→(atT t r).b<v.length) (hst:smT t=true) (hp:∀ r,kyP key t=some r→smT (gD t r zT)=true) {x0 x1 x2 x3 x4 x5 xA xB xC xD xE xF xG xH xI xJ xK xL xM xN xO xP xQ xR xS xU xV xW xX xY xZ yA yB yC yD yE yF yG yH yI yJ yK yL yM yN yO yP yQ yR yS yT yU yV yW yX yY yZ zA zB zC zD zE zF zG zH zI zJ zK:Value} :
  WD (pp G) H0 none (.range (.tmp 29) #[30] (kY Tryd.prog 10 0) (kY Tryd.prog 10 1)) ⟨(F73 x0 x1 x2 x3 x4 x5 (.pointer (some ⟨3,0,none⟩)) (.pointer (some ⟨4,0,none⟩)) (.pointer (some ⟨5,0,none⟩)) (.pointer (some ⟨6,0,none⟩)) xA xB xC xD xE xF xG xH xI xJ xK xL xM xN xO xP xQ xR xS (.func (.func 41) ⟨[]⟩ ⟨[.pointer (some ⟨b98,0,none⟩)]⟩) xU xV xW xX xY xZ yA yB yC yD yE yF yG yH yI yJ yK yL yM yN yO yP yQ yR yS yT yU yV yW yX yY yZ zA zB zC zD zE zF zG zH zI zJ zK),[],σ0⟩
   (@kR ⟨jU 0 (jQ (fun s1=>dc3 (pp G) qq none gI0 s1 (@kR ⟨jH Tryd.prog [.cell 8 35,.cell 9 38,.tmp 10] (fun v' σ'=>FzV (pp G).P H0.next σ' v' (tvV (tlT t v st n ky key value)))⟩))
    (jH Tryd.prog [.cell 8 35,.cell 9 38,.tmp 10] (fun v' σ'=>FzV (pp G).P H0.next σ' v' (tvV (tlT t v st n ky key value)))))⟩):=by
 have hl0:=hS.hl
 have hlo:=hS.hlo
 have hlm:=hS.hN.le
 have hm:=hS.hm
 refine WD.frzP ?_
 refine WD.range (q:=qq) (jX G) (f:=41) (captured:=[.pointer (some ⟨b98,0,none⟩)]) rfl rfl ?_
 show jO _ _ _ (.func (.yield (σ0.next+1)) _ _ :: _) ((σ0.add _).add ⟨.loop { state:=.ready,pending:=none,fn:=0,tmps:=_,params:=_,assign:=_,body:=_,defers:=σ0.next },false⟩) (qC0 (σ0.next+1) _ [σ0.next] _)
 generalize hlp:({ state:=.ready,pending:=none,fn:=0,tmps:=_,params:=#[30],assign:=kY Tryd.prog 10 0,body:=kY Tryd.prog 10 1,defers:=σ0.next }:Loop)=lp
 have yp:=yt G hS (lid:=σ0.next+1) (mk:=σ0.next) (by omega) (Nat.le_refl _) (by omega) hlp.symm hw
 have g1:jD σ0 ((σ0.add ⟨.deferred (some []),false⟩).add ⟨.loop lp,false⟩) (fun _=>False):=(jD.add _ _ _).trans (jD.add _ _ _) fun _ _ h=>h
 have hY:TlY σ0 (σ0.next+1) σ0.next lp ((σ0.add ⟨.deferred (some []),false⟩).add ⟨.loop lp,false⟩):=⟨g1,qW _ _ (by rw[jB]),(jV _ _ (by rw[jB];omega)).trans (qW _ _ rfl),by rw[jB,jB];omega⟩
 have hA:AtP σ0 5 0 lo m (cs++[vv,trV st,.int .i64 n,.int .i64 ky]) 35 t [] 5 0 lo m (cs++[vv,trV st,.int .i64 n,.int .i64 ky]) 35 t cs:=AtP.root (yX1 hS.c4 hS.hN (by decide) (.inl (by omega)) hm (by omega)) (by omega)
 refine (sI0 G yp (by omega) hA hY (g1.cellsE hb hb2 id) hb1).mono ?_
 rintro _ σ2 ⟨v',hE⟩
 have done : ∀ (ρ : jA) (c' : List Value) (T : Tm) (v2 : List Int) (en : List UInt8) (ek ev : Int), ρ.lo = 1 → lo ≤ ρ.next → c'.length = 9 → cells ρ 5 = some (c' ++ [vv, trV st, .int .i64 n, .int .i64 ky], 35, false) → FzL Tryd.prog lo ρ c' (tmC T) → FzV Tryd.prog lo ρ vv (ivV v2) →
   cells ρ 6=some ([.string (Tx en),.int .i64 ek,.int .i64 ev],38,false)→ρ.get σ0.next=some ⟨.deferred (some []),false⟩→smT T=true→tlT t v st n ky key value=⟨⟨jF T,v2,st,n,ky⟩,en,ek,ev,true⟩→
   ∃ D',FrzP (pp G).P ⟨(F73 x0 x1 x2 x3 x4 x5 (.pointer (some ⟨3,0,none⟩)) (.pointer (some ⟨4,0,none⟩)) (.pointer (some ⟨5,0,none⟩)) (.pointer (some ⟨6,0,none⟩)) xA xB xC xD xE xF xG xH xI xJ xK xL xM xN xO xP xQ xR xS (.func (.func 41) ⟨[]⟩ ⟨[.pointer (some ⟨b98,0,none⟩)]⟩) xU xV xW xX xY xZ yA yB yC yD yE yF yG yH yI yJ yK yL yM yN yO yP yQ yR yS yT yU yV yW yX yY yZ zA zB zC zD zE zF zG zH zI zJ zK),[σ0.next],ρ⟩ D'∧dc3 (pp G) qq none gI0 D' (@kR ⟨jH Tryd.prog [.cell 8 35,.cell 9 38,.tmp 10] (fun v' σ'=>FzV (pp G).P H0.next σ' v' (tvV (tlT t v st n ky key value)))⟩):=by
  intro ρ c' T v2 en ek ev h1 h2 h3 h4 h5 h6 h7 h8 h9 h10
  rw[h10]
  have hq:∀ i,i<lo→(fun i=>!Nat.beq i σ0.next) i=true:=fun i hi=>by
   have:Nat.beq i σ0.next=false:=by
    cases hb:Nat.beq i σ0.next with
    | false=>rfl
    | true=>have:=Nat.eq_of_beq_eq_true hb;omega
   show (!Nat.beq i σ0.next)=true
   rw[this];rfl
  have hk:=dO1 (P:=Tryd.prog) (n:=lo) (σ:=ρ) (q:=fun i=>!Nat.beq i σ0.next) (fun i x _ hx=>by
   cases hb:Nat.beq i σ0.next with
   | false=>rfl
   | true=>
    have hi:=Nat.eq_of_beq_eq_true hb
    subst hi
    unfold Ev.cells at hx
    rw[h8] at hx
    cases hx)
  have hz:FzL Tryd.prog lo (uM (fun i=>!Nat.beq i σ0.next) ρ) (c'++[vv,trV st,.int .i64 n,.int .i64 ky]) (cfC ⟨T,v2,st,n,ky⟩):=by
   unfold cfC
   exact (uY hk h5).app (.cons (dS0 hk h6) (.cons (.id (yR0 _ (by omega) _)) (.cons (.id rfl) (.cons (.id rfl) .nil))))
  have hD:=yN1 (P:=Tryd.prog) hq (b:=5) (by omega) (by omega) h2 h4 hz mL0
  refine ⟨_,kT1 (D:=⟨_,_,ρ⟩) hD,?_⟩
  refine uJ2 G T v2 st n ky en ek ev h9 (by rw[hD.lo];exact h1) (by unfold yO1;exact jP _ _ _ _) ?_ ?_ (by omega)
  ·unfold yO1
   refine (jG _ _ _ (by decide)).trans ?_
   rw[jD0]
   ·exact h7
   ·have:Nat.blt 6 lo=true:=by simp only[Nat.blt_eq];omega
    rw[this];rfl
  ·unfold yO1
   rw[jW _ _ _ (by omega),kN,if_pos]
   ·exact h8
   ·simp only[Nat.beq_refl,Bool.not_true,Bool.not_false,Bool.or_true]
 have hlid:lp.state=.ready:=by rw[← hlp]
 have hpd:lp.pending=none:=by rw[← hlp]
 cases hk:kyP key t with
 | none=>
  rw[hk] at hE
  obtain ⟨_,gY,y1,y2,y3⟩:=hE
  refine dK0 (qE y1 (by rw[gY.lo];omega)) hlid hpd ?_
  have gp:jD σ2 (jM σ2 (σ0.next+1) { lp with state:=.exhausted }) (fun k=>k=σ0.next+1):=jD.put _ _ _ fun _=>rfl
  have hn2:=gY.next
  have gall:jD σ0 (jM σ2 (σ0.next+1) { lp with state:=.exhausted }) (fun _=>False):=gY.tr' gp fun k hk e=>by omega
  refine done _ cs t v [] 0 0 (by rw[gall.lo];exact hl0) (by have:=gall.next;omega) hS.hN.len (gall.cellsE hS.c4 (by omega) id) ?_ ?_ (gall.cellsE hS.c5 (by omega) id) ((gp.get _ (by omega) (by omega)).trans y2) hst (by unfold tlT;rw[hk])
  ·exact (hS.hN.grew gall (fun _ _ _ h=>h) hm).fz rfl (by omega) (Nat.le_refl _)
  ·exact VrR.fz rfl (hS.hV.grew gall (fun _ _ _ h=>h)) hlm hS.hv
 | some r=>
  rw[hk] at hE
  obtain ⟨_,hZ⟩:=hE
  rw[List.nil_append] at hZ
  obtain ⟨z1,z2,z3,z4,z5,c',z6,z7,z8,z9⟩:=hZ
  have hn2:=z5.next
  refine dC1 (qE z1 (by rw[z5.lo];omega)) rfl rfl ?_
  have gp:jD σ2 (jM σ2 (σ0.next+1) { { lp with state:=.done,pending:=some (.exit 0) } with state:=.exhausted }) (fun k=>k=σ0.next+1):=jD.put _ _ _ fun _=>rfl
  have hkp:∀ i x,lo≤i→cells σ2 i=some x→cells (jM σ2 (σ0.next+1) { { lp with state:=.done,pending:=some (.exit 0) } with state:=.exhausted }) i=some x:=fun i x hi hx=>by
   by_cases e:i=σ0.next+1
   ·subst e
    unfold Ev.cells at hx
    rw[z1] at hx
    cases hx
   ·exact (jG _ _ _ e).trans hx
  refine done _ c' (gD t r zT) (tlV v (atT t r).b value) (atT t r).s key value (by rw[gp.lo,z5.lo];exact hl0) (by show lo≤σ2.next;omega) z6 (gp.cellsE z7 (by omega) (by omega)) (uY hkp z8) (dS0 hkp z9) (gp.cellsE z4 (by omega) (by omega)) ((gp.get _ (by omega) (by omega)).trans z2) (hp r hk) (by unfold tlT;rw[hk])
structure TlOk (c:Co) (f:Cf) (key:Int):Prop where
 hc:SmC c
 hf:SmF f
 rs:RS f.t
 hn:smT (jF f.t)=true
 ha:(uD f.t).length<1000000000000
 hw:∀ r,kF (jF f.t) r→(atT (jF f.t) r).k=14→(atT (jF f.t) r).b<f.v.length
 hp:∀ r,kyP key (jF f.t)=some r→smT (gD (jF f.t) r zT)=true
theorem uK2 (c:Co) (f:Cf) (key value:Int) (h:TlOk c f key):jI (pp G) H0 10 [coV c,cfV f,.int .i64 key,.int .i64 value] (tvV (nH1 c f key value)):=by
 have hwt:=jR1 G f.t h.hf.t h.ha
 have hfi:=fF0 G c f h.hc h.hf
 have hln:(jY0 f.t).length<1000000000000:=by
  have h5:=jS1 (uD f.t)
  have h6:=h.ha
  show (wS (uD f.t)).length<_
  omega
 have hhs:=kB2 G (jY0 f.t) key hln
 unfold nH1
 generalize decide (key∈jY0 f.t)=hb at *
 generalize jY0 f.t=ws at *
 have hws:Ev.sc 1 (ivV ws)=true:=wS1 _ (by decide) _
 have fin:∀ {σ:jA},FzV (pp G).P H0.next σ (.tuple ⟨[.agg ⟨[.int .i64 0,.int .i64 0,.int .i64 0,.string (Tx []),.int .i64 0,.int .i64 0,.string (Tx []),.slice none 0 0,.slice none 0 0,.slice none 0 0,.slice none 0 0,.int .i64 0,.int .i64 0]⟩,.agg ⟨[.string (Tx []),.int .i64 0,.int .i64 0]⟩,.bool false]⟩) (tvV ⟨cfZ,[],0,0,false⟩):=fun {σ}=>.tup (.cons (mL1 rfl rfl rfl rfl) (.cons (.id rfl) (.cons (.id rfl) .nil)))
 cases hb with
 | false=>
  rw[if_neg (by simp)]
  obtain ⟨⟨k,a,b,s,e,l⟩,v,st,n,ky⟩:=f
  unfold coV coC cfV cfC trV qD at hfi ⊢
  simp only[qQ,List.cons_append,List.nil_append] at hfi hwt ⊢
  unfold ivV at hwt hhs hfi ⊢
  refine cE G tI1 (by kernel_rfl) (mW0 ..) fun hlo=>?_;rw[lI0]
  simp(disch:=first|omega|(apply id;simp only[push_cast];try omega))only[push_cast,simprocAttr]
  refine dK (hwt) ?_
  simp(disch:=first|omega|(apply id;simp only[push_cast];try omega))only[push_cast,simprocAttr]
  refine dK (hhs) ?_
  simp(disch:=first|omega|(apply id;simp only[push_cast];try omega))only[push_cast,simprocAttr]
  exact fin
 | true=>
  cases hr:gK c f with
  | false=>
   rw[if_neg (by simp)]
   rw[hr] at hfi
   obtain ⟨⟨k,a,b,s,e,l⟩,v,st,n,ky⟩:=f
   unfold coV coC cfV cfC trV qD at hfi ⊢
   simp only[qQ,List.cons_append,List.nil_append] at hfi hwt ⊢
   unfold ivV at hwt hhs hfi ⊢
   refine cE G tI1 (by kernel_rfl) (mW0 ..) fun hlo=>?_;rw[lI0]
   simp(disch:=first|omega|(apply id;simp only[push_cast];try omega))only[push_cast,simprocAttr]
   refine dK (hwt) ?_
   simp(disch:=first|omega|(apply id;simp only[push_cast];try omega))only[push_cast,simprocAttr]
   refine dK (hhs) ?_
   simp(disch:=first|omega|(apply id;simp only[push_cast];try omega))only[push_cast,simprocAttr]
   refine dK (hfi) ?_
   simp(disch:=first|omega|(apply id;simp only[push_cast];try omega))only[push_cast,simprocAttr]
   exact fin
  | true=>
   rw[if_pos ⟨rfl,rfl⟩]
   rw[hr] at hfi
   have hag:=fun (σ:jA) hl hn=>gM1 G f h.hf h.rs (σ:=σ) hl hn
   have hw:=h.hw
   have hp:=h.hp
   have hnn:=h.hn
   have hfv:=h.hf.v
   have hkey:=tlG f key value
   unfold AgR at hag
   have htl:tlG f key value=match kyP key (jF f.t) with|none=>(⟨jF (jF f.t),f.v,f.st,f.n,f.key⟩,[],0,0)|some r=>(⟨jF (gD (jF f.t) r zT),tlV f.v (atT (jF f.t) r).b value,f.st,f.n,f.key⟩,(atT (jF f.t) r).s,key,value):=rfl
   rw[htl]
   clear htl hkey
   obtain ⟨⟨k,a,b,s,e,l⟩,v,st,n,ky⟩:=f
   dsimp only at hag hw hp hnn hfv ⊢
   generalize jF (.mk k a b s e l)=nt at *
   unfold coV coC cfV cfC ivV trV qD at hfi ⊢
   unfold cfV cfC ivV trV at hag
   unfold ivV at hwt hhs
   simp only[qQ,List.cons_append,List.nil_append] at hfi hwt hag ⊢
   refine cE G tI1 (by kernel_rfl) (mW0 ..) fun hlo=>?_;rw[lI0]
   simp(disch:=first|omega|(apply id;simp only[push_cast];try omega))only[push_cast,simprocAttr]
   refine dK (hwt) ?_
   simp(disch:=first|omega|(apply id;simp only[push_cast];try omega))only[push_cast,simprocAttr]
   refine dK (hhs) ?_
   simp(disch:=first|omega|(apply id;simp only[push_cast];try omega))only[push_cast,simprocAttr]
   refine dK (hfi) ?_
   simp(disch:=first|omega|(apply id;simp only[push_cast];try omega))only[push_cast,simprocAttr]
   refine jC.func (cap:=[]) (hag _ (by simp only[push_cast]) (by simp only[jB];omega)) ?_
   rintro _ σ1 ⟨cs,vv,m,rfl,hN,hV,hm,g1⟩
   have hl1:σ1.lo=1:=by rw[g1.lo];rfl
   have hn1:=g1.next
   simp only[jB,kI] at hn1 hN
   have hlm:=hN.le
   have h9:=hN.len
   have h91:=hN.one
   have c2:cells σ1 3=some ([.int .i64 key],3,false):=g1.cellsE (by simp(disch:=first|omega|(apply id;simp only[push_cast];try omega))only[push_cast,simprocAttr];first|done|rfl) (by simp only[jB,kI];omega) id
   have c3:cells σ1 4=some ([.int .i64 value],3,false):=g1.cellsE (by simp(disch:=first|omega|(apply id;simp only[push_cast];try omega))only[push_cast,simprocAttr];first|done|rfl) (by simp only[jB,kI];omega) id
   have c4:cells σ1 5=some ([.int .i64 0,.int .i64 0,.int .i64 0,.string (Tx []),.int .i64 0,.int .i64 0,.string (Tx []),.slice none 0 0,.slice none 0 0,.slice none 0 0,.slice none 0 0,.int .i64 0,.int .i64 0],35,false):=g1.cellsE (by simp(disch:=first|omega|(apply id;simp only[push_cast];try omega))only[push_cast,simprocAttr];first|done|rfl) (by simp only[jB,kI];omega) id
   have c5:cells σ1 6=some ([.string (Tx []),.int .i64 0,.int .i64 0],38,false):=g1.cellsE (by simp(disch:=first|omega|(apply id;simp only[push_cast];try omega))only[push_cast,simprocAttr];first|done|rfl) (by simp only[jB,kI];omega) id
   have hL13:=eC0 h9 vv (Rw false eR st.length (trs st)) (.int .i64 n) (.int .i64 ky)
   have hvo:Ev.one vv=true:=by rcases hV with ⟨_,rfl⟩|⟨b,rfl,_⟩<;>rfl
   have hal:(cs++[vv,Rw false eR st.length (trs st),.int .i64 n,.int .i64 ky]).all one=true:=by rw[List.all_append,h91];simp only[List.all_cons,List.all_nil,hvo];rfl
   have hs13:stDC 13 0 (.agg ⟨cs++[vv,Rw false eR st.length (trs st),.int .i64 n,.int .i64 ky]⟩) σ1 5 (some ([.int .i64 0,.int .i64 0,.int .i64 0,.string (Tx []),.int .i64 0,.int .i64 0,.string (Tx []),.slice none 0 0,.slice none 0 0,.slice none 0 0,.slice none 0 0,.int .i64 0,.int .i64 0],35,false))=some (undef,σ1.put 5 (O (cs++[vv,Rw false eR st.length (trs st),.int .i64 n,.int .i64 ky]) 35 false)):=by
    refine (eT0 (v:=.agg ⟨cs++[vv,Rw false eR st.length (trs st),.int .i64 n,.int .i64 ky]⟩) _ _ _ hL13 hal (by omega) (by decide)).trans ?_
    unfold setFrom
    rw[show (Value.agg ⟨cs++[vv,Rw false eR st.length (trs st),.int .i64 n,.int .i64 ky]⟩).cells.toList=cs++[vv,Rw false eR st.length (trs st),.int .i64 n,.int .i64 ky] from rfl,hL13,List.take_zero,List.nil_append,show List.drop (0+13) [Value.int .i64 0,.int .i64 0,.int .i64 0,.string (Tx []),.int .i64 0,.int .i64 0,.string (Tx []),.slice none 0 0,.slice none 0 0,.slice none 0 0,.slice none 0 0,.int .i64 0,.int .i64 0]=[] from rfl,List.append_nil]
   simp(disch:=first|omega|(apply id;simp only[push_cast];try omega))only[push_cast,simprocAttr,hl1,c4,hs13]
   refine jC.func (cap:=[]) (args:=[_]) (uZ1 G 5 _ (by show _≤σ1.lo;omega)) ?_
   rintro _ _ ⟨rfl,rfl⟩
   simp(disch:=first|omega|(apply id;simp only[push_cast];try omega))only[push_cast,simprocAttr]
   have gb:jD σ1 ((σ1.put 5 (O (cs++[vv,Rw false eR st.length (trs st),.int .i64 n,.int .i64 ky]) 35 false)).add (O [.pointer (some ⟨5,0,none⟩)] 64 false)) (fun k=>k=5):=(jD.put _ _ _ (S:=fun k=>k=5) fun _=>rfl).add' _
   have hT:tlT nt v st n ky key value=⟨(match kyP key nt with|none=>(⟨jF nt,v,st,n,ky⟩,[],0,0)|some r=>(⟨jF (gD nt r zT),tlV v (atT nt r).b value,st,n,ky⟩,(atT nt r).s,key,value):Cf×List UInt8×Int×Int).1,(match kyP key nt with|none=>(⟨jF nt,v,st,n,ky⟩,[],0,0)|some r=>(⟨jF (gD nt r zT),tlV v (atT nt r).b value,st,n,ky⟩,(atT nt r).s,key,value):Cf×List UInt8×Int×Int).2.1,(match kyP key nt with|none=>(⟨jF nt,v,st,n,ky⟩,[],0,0)|some r=>(⟨jF (gD nt r zT),tlV v (atT nt r).b value,st,n,ky⟩,(atT nt r).s,key,value):Cf×List UInt8×Int×Int).2.2.1,(match kyP key nt with|none=>(⟨jF nt,v,st,n,ky⟩,[],0,0)|some r=>(⟨jF (gD nt r zT),tlV v (atT nt r).b value,st,n,ky⟩,(atT nt r).s,key,value):Cf×List UInt8×Int×Int).2.2.2,true⟩:=by
    unfold tlT
    cases kyP key nt<;>rfl
   rw[← hT]
   exact uI2 G (lo:=7) (m:=m) (t:=nt) (cs:=cs) (vv:=vv) ⟨by rw[gb.lo,hl1],gb.cellsE c2 (by omega) (by decide),gb.cellsE c3 (by omega) (by decide),(qG _ _ (by show _≠σ1.next;omega)).trans (jP _ _ _ _),gb.cellsE c5 (by omega) (by decide),hN.grew gb (fun k h5 h6 e=>by omega) hm,by decide,by have:=gb.next;omega,hV.grew gb (fun k h5 h6 e=>by omega),hfv⟩ (qC _ _ _ _ rfl) (by show _≤σ1.next;omega) (by show σ1.next<_;rw[jB];exact Nat.lt_succ_self _) hw hnn hp
def rsB:Tm→Bool
 | .mk k _ _ _ _ l=>if k=7 then (match l with | [x]=>rsB x | _=>false) else if k=12∨k=11 then (match l with | [x,y]=>rsB x&&rsB y | _=>false) else true
theorem uT0:∀ {x:Tm},rsB x=true→RS x
 | .mk k a b s e l,h=>by
  rw[rsB.eq_def] at h
  dsimp only at h
  split at h
  ·rename_i hk
   subst hk
   split at h
   ·exact .blk (uT0 h)
   ·cases h
  ·rename_i hk
   split at h
   ·rename_i hk2
    split at h
    ·rw[Bool.and_eq_true] at h
     rcases hk2 with rfl|rfl
     ·exact .seq (uT0 h.1) (uT0 h.2)
     ·exact .par (uT0 h.1) (uT0 h.2)
    ·cases h
   ·exact .leaf (by omega) (by omega) hk
def actB:List Int→Tm→Bool
 | [],_=>true
 | i :: p,.mk k _ _ _ _ l=>if k=7 then (match l with | [x]=>decide (i=0)&&actB p x | _=>false) else if k=12 then (match l with | [x,_]=>decide (i=0)&&actB p x | _=>false) else if k=11 then (match l with | [x,y]=>(decide (i=0)&&actB p x) || (decide (i=1)&&actB p y) | _=>false) else false
theorem kK0:∀ {p:List Int} {x:Tm},actB p x=true→kF x p
 | [],x,h=>.nil
 | i :: p,.mk k a b s e l,h=>by
  rcases l with _|⟨x,_|⟨y,_|⟨z,l⟩⟩⟩
  ·simp[actB] at h
  ·by_cases hk:k=7
   ·subst hk
    simp[actB] at h
    obtain ⟨rfl,h⟩:=h
    exact .blk (kK0 h)
   ·simp[actB,hk] at h
  ·by_cases hk:k=12
   ·subst hk
    simp[actB] at h
    obtain ⟨rfl,h⟩:=h
    exact .seq (kK0 h)
   by_cases hk2:k=11
   ·subst hk2
    simp[actB] at h
    rcases h with ⟨rfl,h⟩|⟨rfl,h⟩
    ·exact .parl (kK0 h)
    ·exact .parr (kK0 h)
   ·simp[actB,hk,hk2] at h
  ·simp[actB] at h
def sokB (c:Co) (f:Cf) (alt:Int):Tm→Bool
 | .mk k a b s ex l=>
  if k=1∨k=5∨k=8 then true
  else if k=2 then decide (0≤a∧a<f.v.length∧smE ex=true)
  else if k=3 then (match l with|[y]=>decide (0≤a∧a<f.st.length∧smT y=true)|_=>false)
  else if k=4 then decide (0≤a∧a<f.st.length)
  else if k=6 then decide ((0≤a∧a<f.st.length)∧0≤b∧b<f.st.length)
  else if k=9 then (match l with|[_,_]=>smE ex|_=>false)
  else if k=10 then (match l with|[_,_]=>decide (0≤alt∧alt<2)|_=>false)
  else if k=13 then decide (0≤a∧a<c.p.length)
  else false
theorem cR0 {c:Co} {f:Cf} {alt:Int} {x:Tm} (h:sokB c f alt x=true):SOk c f alt x:=by
 obtain ⟨k,a,b,s,ex,l⟩:=x
 unfold sokB at h
 dsimp only at h
 unfold SOk
 dsimp only
 by_cases h1:k=1∨k=5∨k=8
 ·exact ⟨by omega,by omega,by omega,by omega,by omega,by omega,by omega,by omega⟩
 rw[if_neg h1] at h
 by_cases h2:k=2
 ·rw[if_pos h2,decide_eq_true_eq] at h
  exact ⟨fun _=>h,by omega,by omega,by omega,by omega,by omega,by omega,by omega⟩
 rw[if_neg h2] at h
 by_cases h3:k=3
 ·rw[if_pos h3] at h
  split at h
  ·rw[decide_eq_true_eq] at h
   exact ⟨by omega,fun _=>⟨h.1,h.2.1,_,rfl,h.2.2⟩,by omega,by omega,by omega,by omega,by omega,by omega⟩
  ·cases h
 rw[if_neg h3] at h
 by_cases h4:k=4
 ·rw[if_pos h4,decide_eq_true_eq] at h
  exact ⟨by omega,by omega,fun _=>h,by omega,by omega,by omega,by omega,by omega⟩
 rw[if_neg h4] at h
 by_cases h6:k=6
 ·rw[if_pos h6,decide_eq_true_eq] at h
  exact ⟨by omega,by omega,by omega,fun _=>h,by omega,by omega,by omega,by omega⟩
 rw[if_neg h6] at h
 by_cases h9:k=9
 ·rw[if_pos h9] at h
  split at h
  ·exact ⟨by omega,by omega,by omega,by omega,fun _=>⟨h,_,_,rfl⟩,by omega,by omega,by omega⟩
  ·cases h
 rw[if_neg h9] at h
 by_cases h10:k=10
 ·rw[if_pos h10] at h
  split at h
  ·rw[decide_eq_true_eq] at h
   exact ⟨by omega,by omega,by omega,by omega,by omega,fun _=>⟨⟨_,_,rfl⟩,h⟩,by omega,by omega⟩
  ·cases h
 rw[if_neg h10] at h
 by_cases h13:k=13
 ·rw[if_pos h13,decide_eq_true_eq] at h
  exact ⟨by omega,by omega,by omega,by omega,by omega,by omega,fun _=>h,by omega⟩
 rw[if_neg h13] at h
 cases h
def rowB (l:List Tm):Bool:=decide (l.length<50000000000)&&smTs l
def cP1 (s:List (List Tm)):Bool:=decide (s.length<50000000000)&&s.all rowB
theorem yF0 {s:List (List Tm)} (h:cP1 s=true):kX s∧∀ i:Nat,(s.getD i []).length<50000000000:=by
 unfold cP1 rowB at h
 rw[Bool.and_eq_true,decide_eq_true_eq,List.all_eq_true] at h
 refine ⟨⟨by omega,fun l hl=>?_⟩,fun i=>?_⟩
 ·have:=h.2 l hl
  rw[Bool.and_eq_true,decide_eq_true_eq] at this
  exact ⟨by omega,this.2⟩
 ·rw[List.getD_eq_getElem?_getD]
  cases hi:s[i]? with
  | none=>simp
  | some x=>
   have:=h.2 x (List.mem_of_getElem? hi)
   rw[Bool.and_eq_true,decide_eq_true_eq] at this
   exact this.1
def okC (c:Co):Bool:=decide (c.v.length<1000000000)&&decide (c.p.length<1000000000)&&smTs c.p
def cfB (f:Cf):Bool:=smT f.t&&decide (f.v.length<1000000000)&&cP1 f.st&&rsB f.t&&smT (jF f.t)
def doB (c:Co) (f:Cf):Bool:=okC c&&cfB f&&decide ((uD (jF f.t)).length<400000000000)&&
 (enF f.t).all fun st=>actB st.p (jF f.t)&&decide (st.p.length<1000000000)&&sokB c ⟨jF f.t,f.v,f.st,f.n,f.key⟩ st.a (atT (jF f.t) st.p)&&smT (stepT c ⟨jF f.t,f.v,f.st,f.n,f.key⟩ st.p st.a)&&smT (jF (stepT c ⟨jF f.t,f.v,f.st,f.n,f.key⟩ st.p st.a))&&cP1 (kT c ⟨jF f.t,f.v,f.st,f.n,f.key⟩ st.a (atT (jF f.t) st.p)).st
theorem fK0 {c:Co} (h:okC c=true):SmC c:=by
 unfold okC at h
 rw[Bool.and_eq_true,Bool.and_eq_true,decide_eq_true_eq,decide_eq_true_eq] at h
 exact ⟨by omega,by omega,h.2⟩
theorem mG1 {c:Co} {f:Cf} (h:doB c f=true):DoOk c f:=by
 unfold doB cfB at h
 simp only[Bool.and_eq_true,decide_eq_true_eq,List.all_eq_true] at h
 obtain ⟨⟨⟨h1,⟨⟨⟨h2,h3⟩,h4⟩,h5⟩,h6⟩,h7⟩,h8⟩:=h
 refine ⟨fK0 h1,⟨h2,by omega,(yF0 h4).1⟩,h3,(yF0 h4).2,uT0 h5,h6,h7,fun st hs=>?_⟩
 obtain ⟨⟨⟨⟨⟨a1,a2⟩,a3⟩,a4⟩,a5⟩,a6⟩:=h8 st hs
 exact ⟨kK0 a1,a2,cR0 a3,a4,a5,(yF0 a6).1⟩
theorem iL0:∀ {x:Tm} {p:List Int},kF x p→atT x p∈uD x
 | .mk k a b s e l,[],h=>by rw[uD];exact List.mem_cons_self ..
 | _,_ :: p,.blk h=>by
  rw[uD,if_neg (by decide),if_pos (.inr rfl)]
  refine List.mem_cons_of_mem _ ?_
  simp only[wZ,List.append_nil]
  exact iL0 h
 | _,_ :: p,.seq h=>by
  rw[uD,if_pos rfl,actH]
  exact List.mem_cons_of_mem _ (iL0 h)
 | _,_ :: p,.parl h=>by
  rw[uD,if_neg (by decide),if_pos (.inl rfl),wZ]
  exact List.mem_cons_of_mem _ (List.mem_append_left _ (iL0 h))
 | _,_ :: p,.parr h=>by
  rw[uD,if_neg (by decide),if_pos (.inl rfl)]
  simp only[wZ,List.append_nil]
  exact List.mem_cons_of_mem _ (List.mem_append_right _ (iL0 h))
def tlB (c:Co) (f:Cf) (key:Int):Bool:=okC c&&cfB f&&decide ((uD f.t).length<1000000000000)&&((uD (jF f.t)).all fun x=>!decide (x.k=14) || decide (x.b<f.v.length))&&
 (match kyP key (jF f.t) with|some r=>smT (gD (jF f.t) r zT)|none=>true)
theorem uH2 {c:Co} {f:Cf} {key:Int} (h:tlB c f key=true):TlOk c f key:=by
 unfold tlB cfB at h
 simp only[Bool.and_eq_true,decide_eq_true_eq,List.all_eq_true] at h
 obtain ⟨⟨⟨⟨h1,⟨⟨⟨h2,h3⟩,h4⟩,h5⟩,h6⟩,h7⟩,h8⟩,h9⟩:=h
 refine ⟨fK0 h1,⟨h2,by omega,(yF0 h4).1⟩,uT0 h5,h6,h7,fun r ha hk=>?_,fun r hr=>?_⟩
 ·have:=h8 _ (iL0 ha)
  rw[hk] at this
  simpa using this
 ·rw[hr] at h9
  exact h9
end
end Go.Proofs.YtdcjpmjmjinjmaaDoor
