/-
  A part of the proof: what the program's functions hand back,as theorems. No condition but those that each theorem names.
-/
import Derived.Test.YtklapbhlhjdijaaGreatDoorTd
import Derived.Test.YtklapbhlhjdijaaGreatDoorExc
import Derived.Test.YtklapbhlhjdijaaGreatDoorTa
set_option linter.unusedSimpArgs false
set_option linter.unusedVariables false
namespace Go.Proofs.YtklapbhlhjdijaaGreatDoor
open Go Go.RowKit Go.Ev Go.Dv
noncomputable section
attribute [local push_cast] eq_self iff_self
set_option maxRecDepth 100000
variable (G:Nat×Nat)
def idxI (x:Int):List Int→Int→Int
 | [],_=>-1
 | y :: l,i=>if x=y then i else idxI x l (i+1)
theorem pR1 (x:Int){l:List Int}{i:Nat}{y:Int}(h:l[i]?=some y)(j:Int):idxI x (l.drop i) j=if x=y then j else idxI x (l.drop (i+1)) (j+1):=by
 obtain ⟨a,rfl⟩:=List.getElem?_eq_some_iff.1 h
 rw[List.drop_eq_getElem_cons a,idxI]
theorem wP1 (x:Int):∀ (l:List Int) (i:Int),0≤i→decide (0≤idxI x l i)=decide (x∈l)
 | [],i,h=>by simp[idxI]
 | y :: l,i,h=>by
  rw[idxI]
  by_cases e:x=y
  ·rw[if_pos e];simp[e,h]
  ·rw[if_neg e,wP1 x l (i+1) Z0];simp[e]
inductive I92 (l:List Int)(x:Int):Nat→S→Prop
 | mk (i:Nat) (iv:Int) (h:jA) {x2 x3 x4 x5 x9 xA xB xC xD xE xF xG xH xI:Z6} (hiv:iv=(i:Int)) (hi:i≤l.length) (hx:idxI x l 0=idxI x (l.drop i) i) (hl1:h.lo=1) :
  I92 l x (l.length-i) ⟨(F19 (ivV l) (.int .i64 x) x2 x3 x4 x5 (ivV l) (.int .i64 l.length) (.int .i64 iv) x9 xA xB xC xD xE xF xG xH xI),[],h⟩
theorem dN3 (l:List Int)(x:Int)(r:l.length<1000000000000):jF (pp G) H0 47 [ivV l,.int .i64 x] (.bool (decide (x∈l))):=by
 have o:jF (pp G) H0 92 [ivV l,.int .i64 x] (.int .i64 (idxI x l 0)):=by
  refine cE G fir92 Z7 (dL0 ..) λd=>?_;rw[oY2]
  unfold ivV
  refine S0 ?_
  refine WD.loop4 (q:=qq) (jV G) Z7 (I92 l x) ?_ _ _ (I92.mk 0 0 _ rfl (Nat.zero_le _) rfl rfl)
  intro m t n
  cases n with|mk i s h f hi c b=>
  subst f
  rw[kH1]
  unfold ivV
  by_cases a:(i:Int)<l.length
  ·obtain ⟨y,g⟩:=jT (l:=l) (i:=i) Z0
   have k:(ivs l)[i]?=some (.int .i64 y):=by simp[ivs,g]
   have j:i<(ivs l).length:=by rw[bD];omega
   have p:=bD l
   rw[pR1 x g] at c
   by_cases e:x=y
   ·rw[if_pos e] at c
    refine S5 a @Z4 k e @Nat.mul_one ?_
    rw[← e,c]
    exact .id rfl
   ·rw[if_neg e] at c
    refine S5 a @Z4 k e @Nat.mul_one ?_
    exact ⟨_,Z0,I92.mk (i+1) _ _ Z2 Z0 (by rw[c];rfl) (tH1 b)⟩
  ·obtain rfl:i=l.length:=Z0
   rw[List.drop_length] at c
   refine S1 a ?_
   rw[kG1]
   rw[c]
   refine S0 ?_
   exact .id rfl
 rw[← wP1 x l 0 (Int.le_refl _)]
 refine cE G fir47 Z7 (zN1 ..) λd=>?_;rw[rA2]
 refine S0 ?_
 refine dK (o) ?_
 refine S0 ?_
 exact .id rfl
theorem lV1 (b:Nat)(σ:jA)(h:1≤σ.lo):jH (pp G) H0 49 [.pointer (some ⟨b,0,none⟩)] σ (λv σ'=>v=.func (.func 94) ⟨[]⟩ ⟨[.pointer (some ⟨σ.next,0,none⟩)]⟩∧σ'=σ.add (O [.pointer (some ⟨b,0,none⟩)] 98 false)):=by
 refine jH.fir4 (q:=qq) (jV G) fir49 Z7 rfl rfl (oZ0 ..) (by first|exact Nat.le_trans (show NGG≤1 by decide) Z0) ?_;rw[pY2]
 push_cast(disch:=first|omega|(apply id;push_cast;try omega))
 try exact ⟨rfl,rfl⟩
theorem AtP.step {σ:jA}{b off lo hi:Nat}{full:List Z6}{ty:Nat}{t:Tm}{r:List Int}{i:Int}{y z I s:Nat}{J:List Z6}{C:Nat}{x:Tm}{o:List Z6}
  (h:AtP σ b off lo hi full ty t r y z I s J C x o) (K:gK x [i]):∃ (c m E H:Nat) (u:List Z6) (A:Nat) (D:List Z6),o[8]?=some (.slice (some ⟨c,0,none⟩) m m)∧0≤i∧i<m∧AtP σ b off lo hi full ty t (r++[i]) c (i.toNat*9) E H u A (atT x [i]) D:=by
 have g:gK (atT t r) (i :: []):=by rw[← h.x];exact K
 obtain ⟨c,m,B,q,v,⟨w,p,e,f,d,k,x',j,bk,ok,L,X,V,R,M,T,F,N,n,P,Y⟩,Z⟩:=PlR.step h h ⟨.inl ⟨rfl,rfl⟩,Z3 _,Z3 _⟩ g
 cases F
 have l:=n.x
 rw[uZ0 _ _ _ h.a,← h.x] at l
 subst l
 exact ⟨c,m,e,f,d,k,j,B,q,v,n⟩
mutual
def kyP (h:Int):Tm→Z8 (List Int)
 | .mk k a b s e l=>if k=14∧a=h then some [] else if k=12∨k=7 then kyH h l else if k=11 then kyL h l 0 else none
def kyL (h:Int):List Tm→Nat→Z8 (List Int)
 | [],_=>none
 | x :: l,i=>match kyP h x with
  | some p=>some ((i:Int) :: p)
  | none=>kyL h l (i+1)
def kyH (h:Int):List Tm→Z8 (List Int)
 | []=>none
 | x :: _=>match kyP h x with
  | some p=>some ((0:Int) :: p)
  | none=>none
end
def kidT (x:Tm):List Tm:=if x.k=12∨x.k=7 then x.l.take 1 else if x.k=11 then x.l else []
theorem bN3 (c:Int)(x:Tm)(h:¬ (x.k=14∧x.a=c)):kyP c x=kyL c (kidT x) 0:=by
 obtain ⟨k,a,b,s,e,l⟩:=x
 have h:¬ (k=14∧a=c):=h
 rw[kyP,if_neg h]
 unfold kidT
 show _=kyL c (if k=12∨k=7 then l.take 1 else if k=11 then l else []) 0
 split
 ·cases l with
  | nil=>rfl
  | cons y l=>
   rw[kyH,List.take_succ_cons,List.take_zero,kyL,kyL]
   cases kyP c y<;>rfl
 ·split<;>rfl
theorem uF1 (h:Int):∀ (l:List Tm) (i:Nat) {j:Nat} {x:Tm},kyL h (l.take j) i=none→l[j]?=some x→(∀ p,kyP h x=some p→kyL h l i=some (((i+j:Nat):Int) :: p))∧(kyP h x=none→kyL h (l.take (j+1)) i=none)
 | y :: l,i,0,x,h1,h2=>by
  cases h2
  refine ⟨λp a=>by rw[kyL,a];rfl,λa=>by rw[List.take_succ_cons,List.take_zero,kyL,a];rfl⟩
 | y :: l,i,j+1,x,h1,h2=>by
  rw[List.take_succ_cons,kyL] at h1
  cases c:kyP h y with
  | some p=>rw[c] at h1;cases h1
  | none=>
   rw[c] at h1
   obtain ⟨d,b⟩:=uF1 h l (i+1) h1 (by simpa using h2)
   refine ⟨λp a=>by rw[kyL,c];show kyL h l (i+1)=_;rw[d p a,show i+1+j=i+(j+1) by omega],λa=>by rw[List.take_succ_cons,kyL,c];exact b a⟩
theorem tN2 {σ:jA}{lo hi:Nat}{x:Tm}{c:List Z6}(h:NTs σ lo hi x c)(i:Nat)(y:Tm)(a:(kidT x)[i]?=some y):gK x [(i:Int)]∧atT x [(i:Int)]=y∧y∈x.l:=by
 cases h with
 | leaf h g b k=>
  unfold kidT at a
  rw[if_neg Z0,if_neg b] at a
  cases a
 | blk e d f=>
  match i,a with
  | 0,a=>cases a;exact ⟨.blk .nil,by first | rfl | (cases y;rfl),by simp[Tm.l]⟩
  | i+1,a=>cases i<;>cases a
 | seq e d f=>
  match i,a with
  | 0,a=>cases a;exact ⟨.seq .nil,by first | rfl | (cases y;rfl),by simp[Tm.l]⟩
  | i+1,a=>cases i<;>cases a
 | par e j d f=>
  match i,a with
  | 0,a=>cases a;exact ⟨.parl .nil,by first | rfl | (cases y;rfl),by simp[Tm.l]⟩
  | 1,a=>cases a;exact ⟨.parr .nil,by first | rfl | (cases y;rfl),by simp[Tm.l]⟩
  | i+2,a=>cases i<;>cases a
theorem mD2 {σ:jA}{lo hi:Nat}{x:Tm}{c:List Z6}(h:NTs σ lo hi x c):(kidT x).length=if x.k=12∨x.k=7 then 1 else if x.k=11 then 2 else 0:=by
 cases h with
 | leaf h f a i=>unfold kidT;rw[if_neg Z0,if_neg a,if_neg Z0,if_neg a];rfl
 | blk d b e=>rfl
 | seq d b e=>rfl
 | par d g b e=>rfl
structure Yt (lid:Nat)(key:Int)(Y:jA→Prop)(Z:List Int→jA→Prop)(σ0:jA)(bg lo m:Nat)(full:List Z6)(ty:Nat)(t:Tm):Prop where
 g:∀ {σ},Y σ→jC σ0 σ (λ_=>False)
 hlo:∀ {σ},Y σ→σ.lo=1
 no:∀ {σ},Y σ→∀ {r bq oq lq hq fq tq x cx},AtP σ0 bg 0 lo m full ty t r bq oq lq hq fq tq x cx→¬ (x.k=14∧x.a=key)→jE (pp G) H0 (.func (.yield lid) ⟨[]⟩ ⟨[]⟩) [.pointer (some ⟨bq,oq,none⟩)] σ (λ_ v σ'=>v=.bool true∧Y σ')
 yes:∀ {σ},Y σ→∀ {r bq oq lq hq fq tq x cx},AtP σ0 bg 0 lo m full ty t r bq oq lq hq fq tq x cx→x.k=14∧x.a=key→jE (pp G) H0 (.func (.yield lid) ⟨[]⟩ ⟨[]⟩) [.pointer (some ⟨bq,oq,none⟩)] σ (λ_ v σ'=>v=.bool false∧Z r σ')
def EaR (Y:jA→Prop)(Z:List Int→jA→Prop)(r:List Int)(o:Z8 (List Int))(v:Z6)(σ':jA):Prop:=match o with
 | none=>v=.bool true∧Y σ'
 | some q=>v=.bool false∧Z (r++q) σ'
def EaP (G:Nat×Nat)(lid:Nat)(h:Int)(Y:jA→Prop)(Z:List Int→jA→Prop)(σ0:jA)(bg lo m:Nat)(full:List Z6)(ty:Nat)(t:Tm)(x:Tm):Prop:=
 ∀ (r:List Int) (a c f b:Nat) (g:List Z6) (e:Nat) (d:List Z6),AtP σ0 bg 0 lo m full ty t r a c f b g e x d→∀ σ,Y σ→
  jH (pp G) H0 95 [.pointer (some ⟨a,c,none⟩),.func (.yield lid) ⟨[]⟩ ⟨[]⟩] σ (EaR Y Z r (kyP h x))
inductive J95 (lid:Nat)(key:Int)(Y:jA→Prop)(bq oq:Nat)(ks:List Tm):Nat→S→Prop
 | mk (i:Nat) (iv:Int) (h:jA) {x2 x3 x4 x5 x6 x7 x8 x9 xA xB xC xD xE xF xG xH xI xJ xL xM xN xO xP xQ xR xS xT xU xV xW:Z6} (hiv:iv=(i:Int)) (hi:i≤ks.length) (hY:Y h) (hno:kyL key (ks.take i) 0=none) :
  J95 lid key Y bq oq ks (ks.length-i) ⟨(F34 (.pointer (some ⟨bq,oq,none⟩)) (.func (.yield lid) ⟨[]⟩ ⟨[]⟩) x2 x3 x4 x5 x6 x7 x8 x9 xA xB xC xD xE xF xG xH xI xJ (.int .i64 ks.length) (.int .i64 iv) xL xM xN xO xP xQ xR xS xT xU xV xW),[],h⟩
theorem lI0 {lid:Nat}{c:Int}{Y:jA→Prop}{Z:List Int→jA→Prop}{σ0:jA}{bg lo m:Nat}{full:List Z6}{ty:Nat}{t:Tm}(yp:Yt G lid c Y Z σ0 bg lo m full ty t)(h0:1≤σ0.lo){x:Tm}(ih:∀ y∈x.l,EaP G lid c Y Z σ0 bg lo m full ty t y)
  {r:List Int} {o oq lq hq:Nat} {fq:List Z6} {tq:Nat} {cx:List Z6} (h:AtP σ0 bg 0 lo m full ty t r o oq lq hq fq tq x cx) (hx:¬ (x.k=14∧x.a=c)) {σ:jA} (b:Y σ) {n:Int} (hn:n=(kidT x).length) {x2 x3 x4 x6 x7 x8 x9 xA xB R I N w V xH xI B J H L C M A P xQ X xS z E xV xW:Z6} :
  dc3 (pp G) qq none sL0 ⟨(F34 (.pointer (some ⟨o,oq,none⟩)) (.func (.yield lid) ⟨[]⟩ ⟨[]⟩) x2 x3 x4 (.int .i64 n) x6 x7 x8 x9 xA xB R I N w V xH xI B J H L C M A P xQ X xS z E xV xW),[],σ⟩ (@kR ⟨jR Tryz.prog [.tmp 4] (EaR Y Z r (kyP c x))⟩):=by
 subst hn
 rw[bN3 c x hx]
 rw[kF1]
 refine S0 ?_
 refine WD.loop4 (q:=qq) (jV G) Z7 (J95 lid c Y o oq (kidT x)) ?_ _ _ (J95.mk 0 0 _ rfl (Nat.zero_le _) b rfl)
 clear b
 intro mm s1 hI
 cases hI with|mk i iv σ D hi b d=>
 subst D
 rw[kE1]
 have hl:=yp.hlo b
 by_cases e:(i:Int)<(kidT x).length
 ·obtain ⟨y,hy⟩:=jT (l:=kidT x) (i:=i) Z0
  obtain ⟨k1,k2,k3⟩:=tN2 h.l.lt i y hy
  obtain ⟨b1,mq,l1,h1,f1,t1,c1,e1,e2,e3,e4⟩:=h.step k1
  rw[k2,Z4] at e4
  have hg:=h.k.2 8 _ e1
  have hcq:=(yp.g b).cellsE h.l.lc h.l.ln id
  have j:σ.lo≤o:=by have:=h.l.lp;omega
  have F:=uF1 c (kidT x) 0 d hy
  rw[Nat.zero_add] at F
  have f:=mD2 h.l.lt
  have hk2:(kidT x).length≤2:=by
   rw[f]
   split
   ·omega
   ·split<;>omega
  clear f
  refine S7 e hcq j hg @e2 @e3 @Z4 ?_
  refine jE.func (cap:=[]) (ih y k3 _ _ _ _ _ _ _ _ e4 _ b) ?_
  intro v σ2 s
  cases u:kyP c y with
  | none=>
   rw[u] at s
   obtain ⟨rfl,K⟩:=s
   refine S1 @Bool.not_true ?_
   exact ⟨_,Z0,J95.mk (i+1) _ _ Z2 Z0 K (F.2 u)⟩
  | some p=>
   rw[u] at s
   obtain ⟨rfl,hZ⟩:=s
   refine S1 @Bool.not_false ?_
   rw[F.1 p u]
   exact ⟨rfl,by rw[List.append_assoc] at hZ;exact hZ⟩
 ·have T:i=(kidT x).length:=Z0
  subst T
  rw[List.take_length] at d
  refine S1 e ?_
  rw[kD1]
  refine S0 ?_
  rw[d]
  exact ⟨rfl,b⟩
theorem mR2 {lid:Nat}{i:Int}{Y:jA→Prop}{Z:List Int→jA→Prop}{σ0:jA}{bg lo m:Nat}{full:List Z6}{ty:Nat}{t:Tm}(j:Yt G lid i Y Z σ0 bg lo m full ty t)(h0:1≤σ0.lo):∀ x:Tm,EaP G lid i Y Z σ0 bg lo m full ty t x
 | .mk k a b s e l=>by
  unfold EaP
  intro r E K N J P M L h σ A
  have H:=j.hlo A
  have z:∀ y∈(Tm.mk k a b s e l).l,EaP G lid i Y Z σ0 bg lo m full ty t y:=λy D=>by
   have D:y∈l:=D
   exact mR2 j h0 y
  refine jH.fir4 (q:=qq) (jV G) fir95 Z7 rfl rfl (wT2 ..) (by first|exact Nat.le_trans (show NGG≤1 by decide) Z0) ?_;rw[oV2]
  by_cases o:(Tm.mk k a b s e l).k=14∧(Tm.mk k a b s e l).a=i
  ·refine S0 ?_
   refine jE.mono (j.yes A h o) ?_
   rintro _ _ w ⟨rfl,F⟩
   refine S1 @Bool.not_false ?_
   rw[kyP,if_pos (show k=14∧a=i from o)]
   exact ⟨rfl,by rw[List.append_nil];exact F⟩
  ·refine S0 ?_
   refine jE.mono (j.no A h o) ?_
   rintro _ _ w ⟨rfl,f⟩
   have I:=j.hlo f
   have v:=h.k.1
   have n:=(j.g f).cellsE h.l.lc h.l.ln id
   have d:w.lo≤E:=by have:=h.l.lp;omega
   have c:=mD2 h.l.lt
   have B:(Tm.mk k a b s e l).k=k:=rfl
   rw[B] at c v
   by_cases u:k=12
   ·subst u
    rw[if_pos (.inl rfl)] at c
    refine S4 @Bool.not_true n d v ?_
    rw[wD0]
    refine S0 ?_
    exact lI0 G j h0 z h o f (by rw[c];rfl)
   by_cases C:k=7
   ·subst C
    rw[if_pos (.inr rfl)] at c
    refine S4 @Bool.not_true n d v ?_
    rw[wD0]
    refine S0 ?_
    exact lI0 G j h0 z h o f (by rw[c];rfl)
   rw[if_neg Z0] at c
   by_cases p:k=11
   ·subst p
    rw[if_pos rfl] at c
    refine S4 @Bool.not_true n d v ?_
    rw[wD0]
    refine S0 ?_
    exact lI0 G j h0 z h o f (by rw[c];rfl)
   ·rw[if_neg p] at c
    refine S6 @Bool.not_true n d v u C ?_
    rw[wD0]
    refine S1 p ?_
    exact lI0 G j h0 z h o f (by rw[c];rfl)
 termination_by x=>SizeOf.sizeOf x
structure TlS (σ0:jA)(lo m:Nat)(t:Tm)(cs:List Z6)(vv st:Z6)(v:List Int)(n ky key value:Int):Prop where
 hl:σ0.lo=1
 c2:cells σ0 3=some ([.int .i64 key],3,false)
 c3:cells σ0 4=some ([.int .i64 value],3,false)
 c4:cells σ0 5=some (cs++[vv,st,.int .i64 n,.int .i64 ky],42,false)
 c5:cells σ0 6=some ([.string (Tx []),.int .i64 0,.int .i64 0],46,false)
 hN:NTs σ0 lo m t cs
 hlo:6<lo
 hm:m≤σ0.next
 hV:VrR σ0 m v vv
 hv:v.length<100000000000
def tlV (v:List Int)(b h:Int):List Int:=if 0≤b then v.set b.toNat h else v
def TlY (σ0:jA)(lid mk:Nat)(h:Loop)(σ:jA):Prop:=jC σ0 σ (λ_=>False)∧σ.get lid=some ⟨.loop h,false⟩∧σ.get mk=some ⟨.deferred (some []),false⟩∧lid<σ.next
structure TlZ (σ0:jA)(lo:Nat)(t:Tm)(vv st:Z6)(v:List Int)(n ky key value:Int)(lid mk:Nat)(lp:Loop)(r:List Int)(σ':jA):Prop where
 lp:σ'.get lid=some ⟨.loop { lp with state:=.done,pending:=some (.exit 0) },false⟩
 mkd:σ'.get mk=some ⟨.deferred (some []),false⟩
 lt:lid<σ'.next
 ev:cells σ' 6=some ([.string (Tx (atT t r).s),.int .i64 key,.int .i64 value],46,false)
 g:jC σ0 σ' (λk=>k=5∨k=6∨lo≤k)
 w:∃ c',c'.length=9∧cells σ' 5=some (c'++[vv,st,.int .i64 n,.int .i64 ky],42,false)∧FzL Tryz.prog lo σ' c' (tmC (bC t r zT))∧FzV Tryz.prog lo σ' vv (ivV (tlV v (atT t r).b value))
theorem yt {σ0:jA}{lo m:Nat}{t:Tm}{cs:List Z6}{vv st:Z6}{v:List Int}{n ky p c:Int}(o:TlS σ0 lo m t cs vv st v n ky p c){lid mk:Nat}(hlid:σ0.next<lid)(hmk:σ0.next≤mk)(hml:mk<lid){j:Loop}{x0 x1 x2 x3 x4 x5 xA xB xC R xE B xG xH xI L V P Y M Z J xP xQ xR xS xT N xV xW xX xY xZ yA yB yC F C yD yE E yF yG yH I yI yJ yK yL yM yN K yO yP yQ yR yS yT X D yV yW yX yY yZ zA zB zC zD:Z6}
  (d:j={ state:=.ready,pending:=none,fn:=0,tmps:=((F73 x0 x1 x2 x3 x4 x5 (.pointer (some ⟨3,0,none⟩)) (.pointer (some ⟨4,0,none⟩)) (.pointer (some ⟨5,0,none⟩)) (.pointer (some ⟨6,0,none⟩)) xA xB xC R xE B xG xH xI L V P Y M Z J xP xQ xR xS xT N xV xW xX xY xZ yA yB yC F C yD yE E yF yG yH I yI yJ yK yL yM yN K yO yP yQ yR yS yT X D yV yW yX yY yZ zA zB zC zD)).arr,params:=#[30],assign:=dH Tryz.prog 21 0,body:=dH Tryz.prog 21 1,defers:=mk })
  (hb:∀ r,gK t r→(atT t r).k=14→(atT t r).b<v.length) :
  Yt G lid p (TlY σ0 lid mk j) (TlZ σ0 lo t vv st v n ky p c lid mk j) σ0 5 lo m (cs++[vv,st,.int .i64 n,.int .i64 ky]) 42 t where
 g:=λh=>h.1
 hlo:=λh=>h.1.lo.trans o.hl
 no:=λ{σ} hY {r bq oq lq hq fq tq x cx} hA hx=>by
  obtain ⟨g0,h1,h2,h3⟩:=hY
  have hl:=g0.lo.trans o.hl
  have hn0:=g0.next
  refine jE.yield (q:=qq) (T:=(F73 x0 x1 x2 x3 x4 x5 (.pointer (some ⟨3,0,none⟩)) (.pointer (some ⟨4,0,none⟩)) (.pointer (some ⟨5,0,none⟩)) (.pointer (some ⟨6,0,none⟩)) xA xB xC R xE B xG xH xI L V P Y M Z J xP xQ xR xS xT N xV xW xX xY xZ yA yB yC F C yD yE E yF yG yH I yI yJ yK yL yM yN K yO yP yQ yR yS yT X D yV yW yX yY yZ zA zB zC zD)) (jV G) (qR h1 Z0) h3 (by rw[d]) (by show 73<U;unfold U;omega) (by rw[d];rfl) (by rw[d];exact zA1) (by rw[d];exact wZ1) (show dB NGG uM1=true by kernel_rfl) (show dB NGG uL1=true by kernel_rfl) (by rw[hl];exact (show NGG≤1 by decide)) ?_
  rw[show j.params=#[30] by rw[d],show ∀ u:Z6,gI (F73 x0 x1 x2 x3 x4 x5 (.pointer (some ⟨3,0,none⟩)) (.pointer (some ⟨4,0,none⟩)) (.pointer (some ⟨5,0,none⟩)) (.pointer (some ⟨6,0,none⟩)) xA xB xC R xE B xG xH xI L V P Y M Z J xP xQ xR xS xT N xV xW xX xY xZ yA yB yC F C yD yE E yF yG yH I yI yJ yK yL yM yN K yO yP yQ yR yS yT X D yV yW yX yY yZ zA zB zC zD) ((#[30]:Array Nat).toList.zip [u])=(F73 x0 x1 x2 x3 x4 x5 (.pointer (some ⟨3,0,none⟩)) (.pointer (some ⟨4,0,none⟩)) (.pointer (some ⟨5,0,none⟩)) (.pointer (some ⟨6,0,none⟩)) xA xB xC R xE B xG xH xI L V P Y M Z J xP xQ xR xS u N xV xW xX xY xZ yA yB yC F C yD yE E yF yG yH I yI yJ yK yL yM yN K yO yP yQ yR yS yT X D yV yW yX yY yZ zA zB zC zD) from λu=>by kernel_rfl,mS0]
  simp only[kR,hi,yO0]
  rw[qR h1 Z0]
  refine ⟨by rw[d],?_⟩
  rw[show (jN σ lid { j with state:=.busy })=σ.put lid ⟨.loop { j with state:=.busy },false⟩ from rfl]
  obtain ⟨f,z⟩:∃ f,f=σ.put lid ⟨.loop { j with state:=.busy },false⟩:=⟨_,rfl⟩
  rw[← z]
  have g2:jC σ f (λk=>k=lid):=by rw[z];exact jC.put _ _ _ λ_=>rfl
  have gg:jC σ0 f (λ_=>False):=g0.tr' g2 λk hk e=>by omega
  have blp:f.get lid=some ⟨.loop { j with state:=.busy },false⟩:=by rw[z];exact uV _ _
  have b2:=gg.cellsE o.c2 (by have:=o.hlo;have:=o.hN.le;have:=o.hm;omega) id
  have bq1:=gg.cellsE hA.l.lc hA.l.ln id
  have hlτ:f.lo=1:=by rw[g2.lo,hl]
  have A:f.lo≤bq:=by have:=hA.l.lp;omega
  have hg:=hA.k.1
  have hmkτ:f.get mk=some ⟨.deferred (some []),false⟩:=(g2.get mk Z0 Z0).trans h2
  have hnτ:σ.next≤f.next:=g2.next
  have fin:∀ (tm:VT) (df:List Nat),cZ lid (λ(_:Zb) v σ'=>v=.bool true∧TlY σ0 lid mk j σ') .normal ⟨tm,df,f⟩:=λtm df=>by
   simp only[cZ]
   rw[qR blp Z0]
   have he:({ { j with state:=.busy } with state:=.ready,pending:=none }:Loop)=j:=by rw[d]
   show _∧TlY σ0 lid mk j (f.put lid ⟨.loop { { j with state:=.busy } with state:=.ready,pending:=none },false⟩)
   rw[he]
   have gp:jC f (f.put lid ⟨.loop j,false⟩) (λk=>k=lid):=jC.put _ _ _ λ_=>rfl
   exact ⟨rfl,gg.tr' gp λk hk e=>by omega,uV _ _,(gp.get mk Z0 Z0).trans hmkτ,by show lid<f.next;omega⟩
  clear z
  rw[mR0]
  by_cases hk:x.k=14
  ·have ha:¬ x.a=p:=λe=>hx ⟨hk,e⟩
   have hga:fq[oq+1]?=some (.int .i64 x.a):=hA.k.2 1 _ (by
    cases hA.l.lt with
    | leaf=>cases x;rfl
    | blk=>cases hk
    | seq=>cases hk
    | par=>cases hk)
   refine S8 bq1 A hg hk hga ha b2 hlτ ?_
   exact fin _ _
  ·refine S4 bq1 A hg hk ?_
   exact fin _ _
 yes:=λ{σ} hY {r bq oq lq hq fq tq x cx} hA hx=>by
  obtain ⟨g0,h1,h2,h3⟩:=hY
  have hl:=g0.lo.trans o.hl
  have hn0:=g0.next
  refine jE.yield (q:=qq) (T:=(F73 x0 x1 x2 x3 x4 x5 (.pointer (some ⟨3,0,none⟩)) (.pointer (some ⟨4,0,none⟩)) (.pointer (some ⟨5,0,none⟩)) (.pointer (some ⟨6,0,none⟩)) xA xB xC R xE B xG xH xI L V P Y M Z J xP xQ xR xS xT N xV xW xX xY xZ yA yB yC F C yD yE E yF yG yH I yI yJ yK yL yM yN K yO yP yQ yR yS yT X D yV yW yX yY yZ zA zB zC zD)) (jV G) (qR h1 Z0) h3 (by rw[d]) (by show 73<U;unfold U;omega) (by rw[d];rfl) (by rw[d];exact zA1) (by rw[d];exact wZ1) (show dB NGG uM1=true by kernel_rfl) (show dB NGG uL1=true by kernel_rfl) (by rw[hl];exact (show NGG≤1 by decide)) ?_
  rw[show j.params=#[30] by rw[d],show ∀ u:Z6,gI (F73 x0 x1 x2 x3 x4 x5 (.pointer (some ⟨3,0,none⟩)) (.pointer (some ⟨4,0,none⟩)) (.pointer (some ⟨5,0,none⟩)) (.pointer (some ⟨6,0,none⟩)) xA xB xC R xE B xG xH xI L V P Y M Z J xP xQ xR xS xT N xV xW xX xY xZ yA yB yC F C yD yE E yF yG yH I yI yJ yK yL yM yN K yO yP yQ yR yS yT X D yV yW yX yY yZ zA zB zC zD) ((#[30]:Array Nat).toList.zip [u])=(F73 x0 x1 x2 x3 x4 x5 (.pointer (some ⟨3,0,none⟩)) (.pointer (some ⟨4,0,none⟩)) (.pointer (some ⟨5,0,none⟩)) (.pointer (some ⟨6,0,none⟩)) xA xB xC R xE B xG xH xI L V P Y M Z J xP xQ xR xS u N xV xW xX xY xZ yA yB yC F C yD yE E yF yG yH I yI yJ yK yL yM yN K yO yP yQ yR yS yT X D yV yW yX yY yZ zA zB zC zD) from λu=>by kernel_rfl,mS0]
  simp only[kR,hi,yO0]
  rw[qR h1 Z0]
  refine ⟨by rw[d],?_⟩
  rw[show (jN σ lid { j with state:=.busy })=σ.put lid ⟨.loop { j with state:=.busy },false⟩ from rfl]
  obtain ⟨f,z⟩:∃ f,f=σ.put lid ⟨.loop { j with state:=.busy },false⟩:=⟨_,rfl⟩
  rw[← z]
  have g2:jC σ f (λk=>k=lid):=by rw[z];exact jC.put _ _ _ λ_=>rfl
  have gg:jC σ0 f (λ_=>False):=g0.tr' g2 λk hk e=>by omega
  have blp:f.get lid=some ⟨.loop { j with state:=.busy },false⟩:=by rw[z];exact uV _ _
  have b2:=gg.cellsE o.c2 (by have:=o.hlo;have:=o.hN.le;have:=o.hm;omega) id
  have bq1:=gg.cellsE hA.l.lc hA.l.ln id
  have hlτ:f.lo=1:=by rw[g2.lo,hl]
  have A:f.lo≤bq:=by have:=hA.l.lp;omega
  have hg:=hA.k.1
  have hmkτ:f.get mk=some ⟨.deferred (some []),false⟩:=(g2.get mk Z0 Z0).trans h2
  have hnτ:σ.next≤f.next:=g2.next
  have hxl:∃ l,cx=[.int .i64 14,.int .i64 p,.int .i64 x.b,.string (Tx x.s)]++l:=by
   cases hA.l.lt with
   | leaf=>
    obtain ⟨k,a,b,s,e,l⟩:=x
    obtain ⟨rfl,rfl⟩:k=14∧a=p:=hx
    exact ⟨_,rfl⟩
   | blk=>cases hx.1
   | seq=>cases hx.1
   | par=>cases hx.1
  obtain ⟨xl,hxl⟩:=hxl
  have hga:fq[oq+1]?=some (.int .i64 p):=hA.k.2 1 _ (by rw[hxl];rfl)
  have hgb:fq[oq+2]?=some (.int .i64 x.b):=hA.k.2 2 _ (by rw[hxl];rfl)
  have hgs:fq[oq+3]?=some (.string (Tx x.s)):=hA.k.2 3 _ (by rw[hxl];rfl)
  have hxb:=hb r hA.a (by rw[← hA.x];exact hx.1)
  rw[← hA.x] at hxb
  have hlo:=o.hlo
  have hlm:=o.hN.le
  have hm:=o.hm
  have b3:=gg.cellsE o.c3 Z0 id
  have b4:=gg.cellsE o.c4 Z0 id
  have b5:=gg.cellsE o.c5 Z0 id
  have hvb:=hA.bi
  have hkx:=hx.1
  have hwq:=hA.l.lw
  have hnτ:σ.next≤f.next:=g2.next
  have hgv:=uZ3 o.hN.len
  have hVτ:=o.hV.grew gg (λ_ _ _ h=>h)
  have fin : ∀ (tm : VT) (df : List Nat) (H : jA), jC f H (fun k => k = 6 ∨ k = bq ∨ (m ≤ k ∧ k < σ0.next)) → cells H 6 = some ([.string (Tx x.s), .int .i64 p, .int .i64 c], 46, false) → cells H bq = some (setFrom fq oq ztm, tq, false) → (∀ H', (∀ i y, i < σ0.next → cells H i = some y → cells H' i = some y) → σ0.next ≤ H'.next → VrR H' m (tlV v x.b c) vv) →
    cZ lid (λ(_:Zb) v' σ'=>v'=.bool false∧TlZ σ0 lo t vv st v n ky p c lid mk j r σ') (.exit 0) ⟨tm,df,H⟩:=λtm df H gH e5 eq hV2=>by
   have blH:H.get lid=some ⟨.loop { j with state:=.busy },false⟩:=(gH.get lid Z0 Z0).trans blp
   have hnH:=gH.next
   simp only[cZ]
   rw[qR blH (by rw[gH.lo];omega)]
   show _∧TlZ σ0 lo t vv st v n ky p c lid mk j r (H.put lid ⟨.loop { { j with state:=.busy } with state:=.done,pending:=some (.exit 0) },false⟩)
   have gp:jC H (H.put lid ⟨.loop { { j with state:=.busy } with state:=.done,pending:=some (.exit 0) },false⟩) (λk=>k=lid):=jC.put _ _ _ λ_=>rfl
   have hmkH:H.get mk=some ⟨.deferred (some []),false⟩:=(gH.get mk Z0 Z0).trans hmkτ
   have gall:jC σ0 (H.put lid ⟨.loop { { j with state:=.busy } with state:=.done,pending:=some (.exit 0) },false⟩) (λk=>k=6∨k=bq∨(m≤k∧k<σ0.next)):=((gg.mono λ_ _ h=>h.elim).tr' gH λ_ _ h=>h).tr' gp λk hk e=>by omega
   obtain ⟨c',d1,d2,d3⟩:=hA.w _ zT ztm rfl (gall.mono λk hk e=>by
    rcases e with e|e|e
    ·exact .inr ⟨Z0,.inl Z0⟩
    ·exact .inl (.inl e)
    ·exact .inr ⟨Z0,.inr e.1⟩) ((jL _ _ _ Z0).trans eq) (by cases lW0 Tryz.prog lo (H.put lid ⟨.loop { { j with state:=.busy } with state:=.done,pending:=some (.exit 0) },false⟩) with|agg h=>exact h)
   refine ⟨rfl,uV _ _,(gp.get mk Z0 Z0).trans hmkH,by show lid<H.next;omega,?_,gall.mono λk hk e=>by show _∨_∨_;omega,c',d1,?_,d3,?_⟩
   ·rw[← hA.x]
    exact (jL _ _ _ Z0).trans e5
   ·rw[d2]
    unfold setFrom
    rw[List.take_zero,List.nil_append,Nat.zero_add,d1,List.drop_left' o.hN.len]
   ·rw[← hA.x]
    have hlt:(tlV v x.b c).length=v.length:=by unfold tlV;split<;>simp
    exact VrR.fz rfl (hV2 _ (λi y hi hy=>gp.cellsE hy Z0 Z0) (by show σ0.next≤H.next;omega)) hlm (by rw[hlt];exact o.hv)
  clear z
  rw[mR0]
  by_cases hb0:0≤x.b
  ·obtain ⟨i,hi⟩:∃ i:Nat,x.b=i:=⟨x.b.toNat,Z0⟩
   have hxb2:(i:Int)<v.length:=Z0
   obtain ⟨bv,rfl,hcv,hv2,hv3⟩:∃ b,vv=.slice (some ⟨b,0,none⟩) v.length v.length∧cells f b=some (ivs v,eI,false)∧m≤b∧b<σ0.next:=by
    rcases o.hV with ⟨h5,_⟩|⟨b,h5,h6,h7,h8⟩
    ·rw[h5] at hxb;simp at hxb;omega
    ·exact ⟨b,h5,gg.cellsE h6 h8 id,h7,h8⟩
   rw[hi] at hgb
   have hi0:(0:Int)≤i:=Z0
   push_cast(disch:=first|omega|(apply id;push_cast;try omega))[bq1,A,hg,hkx,hga,b2,b3,b4,b5,hlτ,hgs,hgb,hi0,hgv,hxb2,hcv,Z4]
   rw[sJ0 _ _ _ Z0]
   have hbv6:bv≠6:=Z0
   have hbvq:bv≠bq:=Z0
   refine fin _ _ _ ((((jC.put _ _ _ (S:=λk=>k=6∨k=bq∨(m≤k∧k<σ0.next)) λ_=>.inl rfl).put'' _ _ λ_=>.inr (.inr ⟨hv2,hv3⟩)).put'' _ _ λ_=>.inr (.inl rfl))) ((jL _ _ _ Z0).trans ((jL _ _ _ hbv6.symm).trans (jX _ _ _ _))) (jX _ _ _ _) (λH' h5 h6=>.inr ⟨bv,?_,?_,hv2,Z0⟩)
   ·unfold tlV
    rw[if_pos hb0,List.length_set]
   ·refine h5 bv _ hv3 ((jL _ _ _ hbvq).trans ((jX _ _ _ _).trans ?_))
    unfold tlV
    rw[if_pos hb0,hi,Z4]
  ·push_cast(disch:=first|omega|(apply id;push_cast;try omega))[bq1,A,hg,hkx,hga,b2,b3,b4,b5,hlτ,hgs,hgb,hb0]
   refine fin _ _ _ ((jC.put _ _ _ (S:=λk=>k=6∨k=bq∨(m≤k∧k<σ0.next)) λ_=>.inl rfl).put'' _ _ λ_=>.inr (.inl rfl)) ((jL _ _ _ Z0).trans (jX _ _ _ _)) (jX _ _ _ _) (λH' h5 h6=>?_)
   unfold tlV
   rw[if_neg hb0]
   rcases o.hV with h7|⟨b,h7,h8,h9,h10⟩
   ·exact .inl h7
   ·exact .inr ⟨b,h7,h5 b _ h10 ((jL _ _ _ Z0).trans ((jL _ _ _ Z0).trans (gg.cellsE h8 h10 id))),h9,Z0⟩
end
end Go.Proofs.YtklapbhlhjdijaaGreatDoor
namespace Go.Dv
open Go Go.RowKit Go.Ev
noncomputable section
attribute [local push_cast] eq_self iff_self
structure zU3 (P:Z9)(n:Nat)(q:Nat→Zb)(σ σ1:jA):Prop where
 next:σ1.next=σ.next
 lo:σ1.lo=σ.lo
 nl:σ.lo≤n
 nn:n≤σ.next
 hq:∀ i,i<n→q i=true
 get:∀ i,(n≤i∧q i=true∧σ1.get i=none)∨(n≤i∧q i=false∧σ1.get i=σ.get i)∨(i<n∧σ1.get i=σ.get i)∨(σ.lo≤i∧i<n∧∃ cs cs1 e fr fr1 m,σ.get i=some ⟨.cells ⟨cs⟩ e fr,m⟩∧σ1.get i=some ⟨.cells ⟨cs1⟩ e fr1,m⟩∧FzL P n (bA q σ) cs cs1∧cs1.all one=true)
theorem jS2 {P:Z9}{g:Gh}{n:Nat}{q:Nat→Zb}{σ f h:jA}(a:Rel g σ h)(H:g.P=P)(k:zU3 P n q σ f):Ext g σ h (g.all n (bA q σ)) f h∧Rel (g.all n (bA q σ)) f h:=by
 have t:=a.lon
 have I:Rel g (bA q σ) h:=a.flt q (λi hi=>k.hq i (by have:=k.nl;omega)) (F':=g.F) (λb c=>⟨(a.frz b c).1,λi hi _=>(a.frz b c).2 i hi⟩) (λb c=>c)
 have e0:Ext0 g h σ.next (g.all n (bA q σ)) h σ.next:=⟨rfl,Z3 _,λ_ _=>rfl,λ_ c=>.inl c,Z3 _,rfl,λ_ _ _=>rfl⟩
 have own:∀ i,kZ f i→kZ σ i∧(i<n∨q i=false):=λi ⟨p,v,r⟩=>by
  rw[k.lo] at p
  rw[k.next] at v
  rcases k.get i with ⟨_,_,d⟩|⟨_,o,d⟩|⟨o,d⟩|⟨_,o,cs,x,e,C,z,m,B,_⟩
  ·rw[d] at r;cases r
  ·rw[d] at r;exact ⟨⟨p,v,r⟩,.inr o⟩
  ·rw[d] at r;exact ⟨⟨p,v,r⟩,.inl o⟩
  ·exact ⟨⟨p,v,by rw[B];rfl⟩,.inl o⟩
 have low:∀ i,i<σ.lo→f.get i=σ.get i:=λi hi=>by
  have:=k.nl
  rcases k.get i with ⟨o,_⟩|⟨o,_⟩|⟨_,d⟩|⟨o,_⟩
  ·omega
  ·omega
  ·exact d
  ·omega
 refine ⟨⟨rfl,rfl,by rw[k.next];exact Z3 _,k.lo,Z3 _,rfl,λ_ _=>rfl,λ_ c=>.inl c,λb c=>?_,λ_ _ _=>rfl,λi hi=>.inl (own i hi).1⟩,?_⟩
 ·rcases c with c|⟨i,hi,_,e⟩
  ·exact .inl c
  ·exact .inr (.inr ⟨i,(dN hi).1,e⟩)
 refine ⟨by rw[k.lo];exact a.pos,by rw[k.lo];exact a.lo,by rw[k.lo,k.next];exact t,a.hlo,λi hi=>?_,λi y hi l=>?_,λi hi=>?_,λi y hi l=>?_,λi hi=>a.dlt i (by rw[k.next] at hi;exact hi),λi hi=>a.dlo i (own i hi).1,λi j hi s e=>a.inj i j (own i hi).1 (own j s).1 e,λb c=>?_,a.wf⟩
 ·rw[k.lo] at hi
  rw[low i hi];exact a.base i hi
 ·rw[k.lo] at hi
  rw[low i hi] at l;exact a.baseF i y hi l
 ·rw[k.lo] at hi
  rw[low i hi];exact a.baseD i hi
 ·rw[k.next] at hi ⊢
  rw[k.lo]
  rcases k.get i with ⟨_,_,d⟩|⟨_,_,d⟩|⟨_,d⟩|⟨o,B,cs,x,e,C,z,m,J,E,K,w⟩
  ·rw[d] at l;cases l
  ·exact (a.obj i y hi (by rw[← d];exact l)).ext e0 rfl
  ·exact (a.obj i y hi (by rw[← d];exact l)).ext e0 rfl
  ·rw[E] at l
   cases l
   obtain ⟨vs,D,q1,q2,q3,M⟩:=a.obj i _ hi J
   exact ⟨vs,D,q1,q2,RVL.ext ⟨rfl,k.nn,λ_ _=>rfl,λ_ c=>c,Z3 _,rfl,λ_ _ _=>rfl⟩ _ _ (gW I H k.nl k.nn K q3),w⟩
 ·rcases c with c|⟨i,hi,L,rfl⟩
  ·exact ⟨(a.frz b c).1,λj s=>(a.frz b c).2 j (own j s).1⟩
  ·obtain ⟨u,A⟩:=dN hi
   refine ⟨a.dlt i u.2.1,λj s e=>?_⟩
   have:=a.inj j i (own j s).1 u e
   subst this
   rcases (own j s).2 with p|p
   ·omega
   ·rw[A] at p;cases p
def FrzP (P:Z9)(D D':S):Prop:=∀ (g:Gh) (s:S),g.P=P→SRel g D s→∃ g',Ext g D.h s.h g' D'.h s.h∧SRel g' D' s
theorem pY1 {P:Z9}{D:S}{n:Nat}{q:Nat→Zb}{a:jA}(k:zU3 P n q D.h a):FrzP P D ⟨D.tm,D.df,a⟩:=by
 intro g s f c
 obtain ⟨b,i⟩:=jS2 c.r f k
 refine ⟨_,b,i,?_,c.df,λd e=>?_⟩
 ·have:=c.t.ext (b.e0 c.r)
  exact this
 ·show d<a.next
  rw[k.next]
  exact c.dl d e
theorem WD.frzP {p:Par}{H:jA}{ro:Z8 Nat}{h:IR}{D:S}{R:jK→S→Prop}(n:WD p H ro h D (@kR ⟨λe s=>∃ D',FrzP p.P s D'∧@kR ⟨R⟩ e D'⟩)):WD p H ro h D (@kR ⟨R⟩):=by
 intro g s a k i o
 intro c l
 refine WP.mono (n g s a k i o c l) λe s' d=>?_
 obtain ⟨g',t,⟨D',f,m⟩,x,r⟩:=d
 obtain ⟨b,j,q⟩:=f g' s' (x.ok a).1 r
 exact ⟨b,D',m,x.trans j,q⟩
theorem gV2 {l i:Nat}{s:S}{mk:List Nat}{R:jK→S→Prop}{v:Z6}{h:jA}{r:Loop}(f:qS h l=some r)(j:r.state=.done)(e:r.pending=some (.exit i))(d:R (.exit i) ⟨s.tm,mk++s.df,jN h l { r with state:=.exhausted }⟩):qR0 l s mk R v h:=by
 have g:uS0 l ⟨s.tm,mk++s.df,h⟩=some (.exit i,⟨s.tm,mk++s.df,jN h l { r with state:=.exhausted }⟩):=by
  unfold uS0
  rw[f]
  obtain ⟨n,m,fn,k,ps',a,c,b⟩:=r
  cases j
  cases e
  rfl
 unfold qR0
 rw[g]
 exact d
def jU2 (n b:Nat)(q:Nat→Zb)(x:qW)(σ:jA):jA:=(bA (λi=>Nat.blt i n || !q i) σ).put b x
theorem jT2 {P:Z9}{n b:Nat}{q:Nat→Zb}{σ:jA}{cs h:List Z6}{e:Zt}{m:Zb}(d:∀ i,i<n→q i=true)(c:σ.lo≤b)(p:b<n)(j:n≤σ.next)(l:cells σ b=some (cs,e,m))(g:FzL P n (bA q σ) cs h)(f:h.all one=true):zU3 P n q σ (jU2 n b q (O h e m) σ):=by
 obtain ⟨a,o⟩:=gM l
 refine ⟨rfl,rfl,Z0,j,d,λi=>?_⟩
 unfold jU2
 by_cases e:i=b
 ·subst e
  exact .inr (.inr (.inr ⟨c,p,cs,h,_,a,(0,0),m,o,uV _ _,g,f⟩))
 ·rw[qC _ _ _ e,dO]
  by_cases hi:i<n
  ·rw[if_pos (by simp[hi])];exact .inr (.inr (.inl ⟨hi,rfl⟩))
  ·cases k:q i with
   | true=>rw[if_neg (by simp[hi])];exact .inl ⟨Z0,rfl,rfl⟩
   | false=>rw[if_pos (by simp)];exact .inr (.inl ⟨Z0,rfl,rfl⟩)
theorem bJ2 {P:Z9}{n:Nat}{σ:jA}{q:Nat→Zb}(a:∀ i x,n≤i→cells σ i=some x→q i=true):∀ i x,n≤i→cells σ i=some x→cells (bA q σ) i=some x:=λi x hi h=>by
 rw[cF σ (a i x hi h)];exact h
end
end Go.Dv
namespace Go.Proofs.YtklapbhlhjdijaaGreatDoor
open Go Go.RowKit Go.Ev Go.Dv
noncomputable section
attribute [local push_cast] eq_self iff_self
set_option maxRecDepth 100000
variable (G:Nat×Nat)
structure Tv where
 f:Cf
 en:List Zu
 ek:Int
 ev:Int
 is:Zb
def tlG (f:Cf)(a h:Int):Cf×List Zu×Int×Int:=
 match kyP a (jD f.t) with
 | none=>(⟨jD (jD f.t),f.v,f.st,f.n,f.key⟩,[],0,0)
 | some r=>(⟨jD (bC (jD f.t) r zT),tlV f.v (atT (jD f.t) r).b h,f.st,f.n,f.key⟩,(atT (jD f.t) r).s,a,h)
def zI0 (c:Co)(f:Cf)(a h:Int):Tv:=
 if decide (a∈uW f.t)=true∧bY c f=true then ⟨(tlG f a h).1,(tlG f a h).2.1,(tlG f a h).2.2.1,(tlG f a h).2.2.2,true⟩ else ⟨cfZ,[],0,0,false⟩
def tvV (r:Tv):Z6:=.tuple ⟨[cfV r.f,.agg ⟨[.string (Tx r.en),.int .i64 r.ek,.int .i64 r.ev]⟩,.bool r.is]⟩
theorem kJ3 (n:Nat)(h:0<n)(r:Tv):Ev.sc n (tvV r)=true:=by
 unfold tvV cfV
 simp only[Ev.sc,scL,qK2 n h,Bool.and_true,Bool.true_and]
@[push_cast]theorem iD3 {P:Z9}(tm:VT)(h:jA)(a t u s z:Nat):dF P [.cell a t,.cell u s,.tmp z] tm h=resC [qL P t (tm.get a) h,qL P s (tm.get u) h,some (tm.get z)]:=by
 simp only[dF,qZ.go]
 cases qL P t (tm.get a) h<;>cases qL P s (tm.get u) h<;>rfl
theorem kQ3 (T:Tm)(v:List Int)(st:List (List Tm))(n ky:Int)(d:List Zu)(g ev:Int)(hT:smT T=true){c:jA}{mk:Nat}(hl:c.lo=1)(f:cells c 5=some (cfC ⟨T,v,st,n,ky⟩,42,false))(c5:cells c 6=some ([.string (Tx d),.int .i64 g,.int .i64 ev],46,false))
  (M:c.get mk=some ⟨.deferred (some []),false⟩) (hm1:6<mk) {x0 x1 x2 x3 x4 x5 x6 x7 xA xB xC B K j xG xH xI x C A F y H u L xQ xR xS o z xV xW xX V xZ yA R J r m yD yE q yF yG yH t yI yJ yK yL yM yN w yO yP yQ yR yS yT D p yV yW N yY yZ zA I zC zD:Z6} :
  dc3 (pp G) qq none cD0 ⟨(F73 x0 x1 x2 x3 x4 x5 x6 x7 (.pointer (some ⟨5,0,none⟩)) (.pointer (some ⟨6,0,none⟩)) xA xB xC B K j xG xH xI x C A F y H u L xQ xR xS o z xV xW xX V xZ yA R J r m yD yE q yF yG yH t yI yJ yK yL yM yN w yO yP yQ yR yS yT D p yV yW N yY yZ zA I zC zD),[mk],c⟩ (@kR ⟨jR Tryz.prog [.cell 8 42,.cell 9 46,.tmp 10] (λv' σ'=>FzV (pp G).P H0.next σ' v' (tvV ⟨⟨jD T,v,st,n,ky⟩,d,g,ev,true⟩))⟩):=by
 have i:=nH0 G T hT
 generalize jD T=T2 at *
 obtain ⟨k2,a2,b2,s2,x2,l2⟩:=T2
 obtain ⟨k,a,b,s,e,l⟩:=T
 unfold cfC ivV trV at f
 simp only[uX,List.cons_append,List.nil_append] at f
 have E:Go.Dv.eqv (.agg ⟨[.string (Tx d),.int .i64 g,.int .i64 ev]⟩)=true:=rfl
 rw[gI1]
 refine S3 hl f c5 ?_
 refine dK (i) ?_
 refine S4 hl f c5 E ?_
 have r3:∀ X Y Z,(((c.put 5 X).put 5 Y).put 6 Z).get mk=some ⟨.deferred (some []),false⟩:=λX Y Z=>by rw[qC _ _ _ Z0,qC _ _ _ Z0,qC _ _ _ Z0];exact M
 rw[uR0 (r3 _ _ _) (by show c.lo≤mk;omega),show ∀ h:jA,gQ [] h=some h from λ_=>rfl]
 have hm4:5≠mk:=Z0
 have hm5:6≠mk:=Z0
 refine S2 hm4 hm5 ?_
 exact FzV.id (kJ3 1 Z1 ⟨⟨.mk k2 a2 b2 s2 x2 l2,v,st,n,ky⟩,d,g,ev,true⟩)
def tlT (t:Tm)(v:List Int)(d:List (List Tm))(n c a h:Int):Tv:=match kyP a t with
 | none=>⟨⟨jD t,v,d,n,c⟩,[],0,0,true⟩
 | some r=>⟨⟨jD (bC t r zT),tlV v (atT t r).b h,d,n,c⟩,(atT t r).s,a,h,true⟩
theorem gT1 {lid:Nat}{a:Int}{Y:jA→Prop}{Z:List Int→jA→Prop}{σ0:jA}{bg lo m:Nat}{full:List Z6}{ty:Nat}{t:Tm}(d:Yt G lid a Y Z σ0 bg lo m full ty t)(h0:1≤σ0.lo){c:List Z6}(f:AtP σ0 bg 0 lo m full ty t [] bg 0 lo m full ty t c){σ:jA}(b:Y σ){h:Nat}(g:cells σ h=some ([.pointer (some ⟨bg,0,none⟩)],98,false))(i:1≤h) :
  jH (pp G) H0 94 [.func (.yield lid) ⟨[]⟩ ⟨[]⟩,.pointer (some ⟨h,0,none⟩)] σ (λ_ σ'=>∃ v,EaR Y Z [] (kyP a t) v σ'):=by
 have e:=d.hlo b
 refine jH.fir4 (q:=qq) (jV G) fir94 Z7 rfl rfl (wQ2 ..) (by first|exact Nat.le_trans (show NGG≤1 by decide) Z0) ?_;rw[oW2]
 refine S2 g e ?_
 refine jE.func (cap:=[]) (mR2 G d h0 t _ _ _ _ _ _ _ _ f _ b) ?_
 intro v j k
 refine S0 ?_
 exact ⟨v,k⟩
theorem kP3 {σ0:jA}{lo m:Nat}{t:Tm}{cs:List Z6}{vv:Z6}{p:List (List Tm)}{v:List Int}{n u d a:Int}(l:TlS σ0 lo m t cs vv (trV p) v n u d a){j:Nat}(hb:cells σ0 j=some ([.pointer (some ⟨5,0,none⟩)],98,false))(hb1:1≤j)(hb2:j<σ0.next)
  (hw:∀ r,gK t r→(atT t r).k=14→(atT t r).b<v.length) (hst:smT t=true) (hp:∀ r,kyP d t=some r→smT (bC t r zT)=true) {x0 x1 x2 x3 x4 x5 xA xB xC xD xE E xG xH xI V xK Z xL X xN M xP xQ xR H Y xV xW xX xY xZ yA yB yC K F yD yE J yF yG yH L yI yJ yK yL yM yN R yO yP yQ yR yS yT yU I yV yW yX yY yZ zA zB zC zD:Z6} :
  WD (pp G) H0 none (.range (.tmp 29) #[30] (dH Tryz.prog 21 0) (dH Tryz.prog 21 1)) ⟨(F73 x0 x1 x2 x3 x4 x5 (.pointer (some ⟨3,0,none⟩)) (.pointer (some ⟨4,0,none⟩)) (.pointer (some ⟨5,0,none⟩)) (.pointer (some ⟨6,0,none⟩)) xA xB xC xD xE E xG xH xI V xK Z xL X xN M xP xQ xR (.func (.func 94) ⟨[]⟩ ⟨[.pointer (some ⟨j,0,none⟩)]⟩) H Y xV xW xX xY xZ yA yB yC K F yD yE J yF yG yH L yI yJ yK yL yM yN R yO yP yQ yR yS yT yU I yV yW yX yY yZ zA zB zC zD),[],σ0⟩
   (@kR ⟨uS 0 (bV (λs1=>dc3 (pp G) qq none cD0 s1 (@kR ⟨jR Tryz.prog [.cell 8 42,.cell 9 46,.tmp 10] (λC σ'=>FzV (pp G).P H0.next σ' C (tvV (tlT t v p n u d a)))⟩))
    (jR Tryz.prog [.cell 8 42,.cell 9 46,.tmp 10] (λC σ'=>FzV (pp G).P H0.next σ' C (tvV (tlT t v p n u d a)))))⟩):=by
 have hl0:=l.hl
 have hlo:=l.hlo
 have hlm:=l.hN.le
 have hm:=l.hm
 refine WD.frzP ?_
 refine WD.range (q:=qq) (jV G) (f:=94) (captured:=[.pointer (some ⟨j,0,none⟩)]) rfl rfl ?_
 show jH _ _ _ (.func (.yield (σ0.next+1)) _ _ :: _) ((σ0.add _).add ⟨.loop { state:=.ready,pending:=none,fn:=0,tmps:=_,params:=_,assign:=_,body:=_,defers:=σ0.next },false⟩) (qR0 (σ0.next+1) _ [σ0.next] _)
 generalize z:({ state:=.ready,pending:=none,fn:=0,tmps:=_,params:=#[30],assign:=dH Tryz.prog 21 0,body:=dH Tryz.prog 21 1,defers:=σ0.next }:Loop)=lp
 have yp:=yt G l (lid:=σ0.next+1) (mk:=σ0.next) Z0 (Z3 _) Z0 z.symm hw
 have g1:jC σ0 ((σ0.add ⟨.deferred (some []),false⟩).add ⟨.loop lp,false⟩) (λ_=>False):=(jC.add _ _ _).trans (jC.add _ _ _) λ_ _ h=>h
 have hY:TlY σ0 (σ0.next+1) σ0.next lp ((σ0.add ⟨.deferred (some []),false⟩).add ⟨.loop lp,false⟩):=⟨g1,kM _ _ (by rw[jB]),(qF _ _ (by rw[jB];omega)).trans (kM _ _ rfl),by rw[jB,jB];omega⟩
 have hA:AtP σ0 5 0 lo m (cs++[vv,trV p,.int .i64 n,.int .i64 u]) 42 t [] 5 0 lo m (cs++[vv,trV p,.int .i64 n,.int .i64 u]) 42 t cs:=AtP.root (qH2 l.c4 l.hN Z1 (.inl Z0) hm Z0) Z0
 refine (gT1 G yp Z0 hA hY (g1.cellsE hb hb2 id) hb1).mono ?_
 rintro _ g ⟨C,hE⟩
 have done : ∀ (o : jA) (B : List Z6) (T : Tm) (v2 : List Int) (en : List Zu) (ek ev : Int), o.lo = 1 → lo ≤ o.next → B.length = 9 → cells o 5 = some (B ++ [vv, trV p, .int .i64 n, .int .i64 u], 42, false) → FzL Tryz.prog lo o B (tmC T) → FzV Tryz.prog lo o vv (ivV v2) →
   cells o 6=some ([.string (Tx en),.int .i64 ek,.int .i64 ev],46,false)→o.get σ0.next=some ⟨.deferred (some []),false⟩→smT T=true→tlT t v p n u d a=⟨⟨jD T,v2,p,n,u⟩,en,ek,ev,true⟩→
   ∃ D',FrzP (pp G).P ⟨(F73 x0 x1 x2 x3 x4 x5 (.pointer (some ⟨3,0,none⟩)) (.pointer (some ⟨4,0,none⟩)) (.pointer (some ⟨5,0,none⟩)) (.pointer (some ⟨6,0,none⟩)) xA xB xC xD xE E xG xH xI V xK Z xL X xN M xP xQ xR (.func (.func 94) ⟨[]⟩ ⟨[.pointer (some ⟨j,0,none⟩)]⟩) H Y xV xW xX xY xZ yA yB yC K F yD yE J yF yG yH L yI yJ yK yL yM yN R yO yP yQ yR yS yT yU I yV yW yX yY yZ zA zB zC zD),[σ0.next],o⟩ D'∧dc3 (pp G) qq none cD0 D' (@kR ⟨jR Tryz.prog [.cell 8 42,.cell 9 46,.tmp 10] (λC σ'=>FzV (pp G).P H0.next σ' C (tvV (tlT t v p n u d a)))⟩):=by
  intro o B T v2 en ek ev h1 h2 h3 h4 h5 h6 h7 h8 h9 h10
  rw[h10]
  have hq:∀ i,i<lo→(λi=>!Nat.beq i σ0.next) i=true:=λi hi=>by
   have:Nat.beq i σ0.next=false:=by
    cases hb:Nat.beq i σ0.next with
    | false=>rfl
    | true=>have:=Nat.eq_of_beq_eq_true hb;omega
   show (!Nat.beq i σ0.next)=true
   rw[this];rfl
  have w:=bJ2 (P:=Tryz.prog) (n:=lo) (σ:=o) (q:=λi=>!Nat.beq i σ0.next) (λi x _ y=>by
   cases hb:Nat.beq i σ0.next with
   | false=>rfl
   | true=>
    have hi:=Nat.eq_of_beq_eq_true hb
    subst hi
    unfold Ev.cells at y
    rw[h8] at y
    cases y)
  have hz:FzL Tryz.prog lo (bA (λi=>!Nat.beq i σ0.next) o) (B++[vv,trV p,.int .i64 n,.int .i64 u]) (cfC ⟨T,v2,p,n,u⟩):=by
   unfold cfC
   exact (cG w h5).app (.cons (iZ0 w h6) (.cons (.id (gZ0 _ Z0 _)) (.cons (.id rfl) (.cons (.id rfl) .nil))))
  have hD:=jT2 (P:=Tryz.prog) hq (b:=5) Z0 Z0 h2 h4 hz tJ0
  refine ⟨_,pY1 (D:=⟨_,_,o⟩) hD,?_⟩
  refine kQ3 G T v2 p n u en ek ev h9 (by rw[hD.lo];exact h1) (by unfold jU2;exact jX _ _ _ _) ?_ ?_ Z0
  ·unfold jU2
   refine (jL _ _ _ Z1).trans ?_
   rw[cF]
   ·exact h7
   ·have:Nat.blt 6 lo=true:=by simp only[Nat.blt_eq];omega
    rw[this];rfl
  ·unfold jU2
   rw[qC _ _ _ Z0,dO,if_pos]
   ·exact h8
   ·simp only[Nat.beq_refl,Bool.not_true,Bool.not_false,Bool.or_true]
 have N:lp.state=.ready:=by rw[← z]
 have hpd:lp.pending=none:=by rw[← z]
 cases w:kyP d t with
 | none=>
  rw[w] at hE
  obtain ⟨_,gY,y1,y2,y3⟩:=hE
  refine iJ0 (qR y1 (by rw[gY.lo];omega)) N hpd ?_
  have A:jC g (jN g (σ0.next+1) { lp with state:=.exhausted }) (λk=>k=σ0.next+1):=jC.put _ _ _ λ_=>rfl
  have hn2:=gY.next
  have c:jC σ0 (jN g (σ0.next+1) { lp with state:=.exhausted }) (λ_=>False):=gY.tr' A λk w e=>by omega
  refine done _ cs t v [] 0 0 (by rw[c.lo];exact hl0) (by have:=c.next;omega) l.hN.len (c.cellsE l.c4 Z0 id) ?_ ?_ (c.cellsE l.c5 Z0 id) ((A.get _ Z0 Z0).trans y2) hst (by unfold tlT;rw[w])
  ·exact (l.hN.grew c (λ_ _ _ h=>h) hm).fz rfl Z0 (Z3 _)
  ·exact VrR.fz rfl (l.hV.grew c (λ_ _ _ h=>h)) hlm l.hv
 | some r=>
  rw[w] at hE
  obtain ⟨_,hZ⟩:=hE
  rw[List.nil_append] at hZ
  obtain ⟨z1,z2,z3,z4,z5,B,z6,z7,z8,z9⟩:=hZ
  have hn2:=z5.next
  refine gV2 (qR z1 (by rw[z5.lo];omega)) rfl rfl ?_
  have A:jC g (jN g (σ0.next+1) { { lp with state:=.done,pending:=some (.exit 0) } with state:=.exhausted }) (λk=>k=σ0.next+1):=jC.put _ _ _ λ_=>rfl
  have hkp:∀ i x,lo≤i→cells g i=some x→cells (jN g (σ0.next+1) { { lp with state:=.done,pending:=some (.exit 0) } with state:=.exhausted }) i=some x:=λi x hi y=>by
   by_cases e:i=σ0.next+1
   ·subst e
    unfold Ev.cells at y
    rw[z1] at y
    cases y
   ·exact (jL _ _ _ e).trans y
  refine done _ B (bC t r zT) (tlV v (atT t r).b a) (atT t r).s d a (by rw[A.lo,z5.lo];exact hl0) (by show lo≤g.next;omega) z6 (A.cellsE z7 Z0 Z0) (cG hkp z8) (iZ0 hkp z9) (A.cellsE z4 Z0 Z0) ((A.get _ Z0 Z0).trans z2) (hp r w) (by unfold tlT;rw[w])
structure TlOk (c:Co)(f:Cf)(key:Int):Prop where
 hc:SmC c
 hf:SmF f
 rs:RS f.t
 hn:smT (jD f.t)=true
 ha:(kH f.t).length<1000000000000
 hw:∀ r,gK (jD f.t) r→(atT (jD f.t) r).k=14→(atT (jD f.t) r).b<f.v.length
 hp:∀ r,kyP key (jD f.t)=some r→smT (bC (jD f.t) r zT)=true
theorem lN2 (c:Co)(f:Cf)(g d:Int)(h:TlOk c f g):jF (pp G) H0 21 [coV c,cfV f,.int .i64 g,.int .i64 d] (tvV (zI0 c f g d)):=by
 have q:=fF1 G f.t h.hf.t h.ha
 have o:=mT0 G c f h.hc h.hf
 have M:(uW f.t).length<1000000000000:=by
  have V:=mB0 (kH f.t)
  have h6:=h.ha
  show (wS (kH f.t)).length<_
  omega
 have u:=dN3 G (uW f.t) g M
 unfold zI0
 generalize decide (g∈uW f.t)=hb at *
 generalize uW f.t=ws at *
 have hws:Ev.sc 1 (ivV ws)=true:=uJ1 _ Z1 _
 have H:∀ {σ:jA},FzV (pp G).P H0.next σ (.tuple ⟨[.agg ⟨[.int .i64 0,.int .i64 0,.int .i64 0,.string (Tx []),.int .i64 0,.int .i64 0,.string (Tx []),.slice none 0 0,.slice none 0 0,.slice none 0 0,.slice none 0 0,.int .i64 0,.int .i64 0]⟩,.agg ⟨[.string (Tx []),.int .i64 0,.int .i64 0]⟩,.bool false]⟩) (tvV ⟨cfZ,[],0,0,false⟩):=λ{σ}=>.tup (.cons (mZ2 rfl rfl rfl rfl) (.cons (.id rfl) (.cons (.id rfl) .nil)))
 cases hb with
 | false=>
  rw[if_neg (by simp)]
  obtain ⟨⟨k,a,b,s,e,l⟩,v,j,n,p⟩:=f
  unfold coV coC cfV cfC trV qP at o ⊢
  simp only[uX,List.cons_append,List.nil_append] at o q ⊢
  unfold ivV at q u o ⊢
  refine cE G jM3 Z7 (jN1 ..) λI=>?_;rw[pS0]
  refine S0 ?_
  refine dK (q) ?_
  refine S0 ?_
  refine dK (u) ?_
  refine S0 ?_
  exact H
 | true=>
  cases T:bY c f with
  | false=>
   rw[if_neg (by simp)]
   rw[T] at o
   obtain ⟨⟨k,a,b,s,e,l⟩,v,j,n,p⟩:=f
   unfold coV coC cfV cfC trV qP at o ⊢
   simp only[uX,List.cons_append,List.nil_append] at o q ⊢
   unfold ivV at q u o ⊢
   refine cE G jM3 Z7 (jN1 ..) λI=>?_;rw[pS0]
   refine S0 ?_
   refine dK (q) ?_
   refine S0 ?_
   refine dK (u) ?_
   refine S0 ?_
   refine dK (o) ?_
   refine S0 ?_
   exact H
  | true=>
   rw[if_pos ⟨rfl,rfl⟩]
   rw[T] at o
   have w:=λ(σ:jA) hl hn=>uB2 G f h.hf h.rs (σ:=σ) hl hn
   have Z:=h.hw
   have Y:=h.hp
   have F:=h.hn
   have J:=h.hf.v
   have D:=tlG f g d
   unfold AgR at w
   have A:tlG f g d=match kyP g (jD f.t) with|none=>(⟨jD (jD f.t),f.v,f.st,f.n,f.key⟩,[],0,0)|some r=>(⟨jD (bC (jD f.t) r zT),tlV f.v (atT (jD f.t) r).b d,f.st,f.n,f.key⟩,(atT (jD f.t) r).s,g,d):=rfl
   rw[A]
   clear A D
   obtain ⟨⟨k,a,b,s,e,l⟩,v,j,n,p⟩:=f
   dsimp only at w Z Y F J ⊢
   generalize jD (.mk k a b s e l)=nt at *
   unfold coV coC cfV cfC ivV trV qP at o ⊢
   unfold cfV cfC ivV trV at w
   unfold ivV at q u
   simp only[uX,List.cons_append,List.nil_append] at o q w ⊢
   refine cE G jM3 Z7 (jN1 ..) λI=>?_;rw[pS0]
   refine S0 ?_
   refine dK (q) ?_
   refine S0 ?_
   refine dK (u) ?_
   refine S0 ?_
   refine dK (o) ?_
   refine S0 ?_
   refine jE.func (cap:=[]) (w _ (by simp only[push_cast]) (by simp only[jB];omega)) ?_
   rintro _ i ⟨cs,vv,m,rfl,E,X,hm,z⟩
   have C:i.lo=1:=by rw[z.lo];rfl
   have L:=z.next
   simp only[jB,uU] at L E
   have hlm:=E.le
   have h9:=E.len
   have N:=E.one
   have c2:cells i 3=some ([.int .i64 g],3,false):=z.cellsE (by push_cast(disch:=first|omega|(apply id;push_cast;try omega));first|done|rfl) (by simp only[jB,uU];omega) id
   have c3:cells i 4=some ([.int .i64 d],3,false):=z.cellsE (by push_cast(disch:=first|omega|(apply id;push_cast;try omega));first|done|rfl) (by simp only[jB,uU];omega) id
   have c4:cells i 5=some ([.int .i64 0,.int .i64 0,.int .i64 0,.string (Tx []),.int .i64 0,.int .i64 0,.string (Tx []),.slice none 0 0,.slice none 0 0,.slice none 0 0,.slice none 0 0,.int .i64 0,.int .i64 0],42,false):=z.cellsE (by push_cast(disch:=first|omega|(apply id;push_cast;try omega));first|done|rfl) (by simp only[jB,uU];omega) id
   have c5:cells i 6=some ([.string (Tx []),.int .i64 0,.int .i64 0],46,false):=z.cellsE (by push_cast(disch:=first|omega|(apply id;push_cast;try omega));first|done|rfl) (by simp only[jB,uU];omega) id
   have x:=lN0 h9 vv (Rw false eR j.length (trs j)) (.int .i64 n) (.int .i64 p)
   have R:Ev.one vv=true:=by rcases X with ⟨_,rfl⟩|⟨b,rfl,_⟩<;>rfl
   have K:(cs++[vv,Rw false eR j.length (trs j),.int .i64 n,.int .i64 p]).all one=true:=by rw[List.all_append,N];simp only[List.all_cons,List.all_nil,R];rfl
   have B:stDC 13 0 (.agg ⟨cs++[vv,Rw false eR j.length (trs j),.int .i64 n,.int .i64 p]⟩) i 5 (some ([.int .i64 0,.int .i64 0,.int .i64 0,.string (Tx []),.int .i64 0,.int .i64 0,.string (Tx []),.slice none 0 0,.slice none 0 0,.slice none 0 0,.slice none 0 0,.int .i64 0,.int .i64 0],42,false))=some (undef,i.put 5 (O (cs++[vv,Rw false eR j.length (trs j),.int .i64 n,.int .i64 p]) 42 false)):=by
    refine (qC1 (v:=.agg ⟨cs++[vv,Rw false eR j.length (trs j),.int .i64 n,.int .i64 p]⟩) _ _ _ x K Z0 Z1).trans ?_
    unfold setFrom
    rw[show (Value.agg ⟨cs++[vv,Rw false eR j.length (trs j),.int .i64 n,.int .i64 p]⟩).cells.toList=cs++[vv,Rw false eR j.length (trs j),.int .i64 n,.int .i64 p] from rfl,x,List.take_zero,List.nil_append,show List.drop (0+13) [Value.int .i64 0,.int .i64 0,.int .i64 0,.string (Tx []),.int .i64 0,.int .i64 0,.string (Tx []),.slice none 0 0,.slice none 0 0,.slice none 0 0,.slice none 0 0,.int .i64 0,.int .i64 0]=[] from rfl,List.append_nil]
   refine S3 C c4 B ?_
   refine jE.func (cap:=[]) (args:=[_]) (lV1 G 5 _ (by show _≤i.lo;omega)) ?_
   rintro _ _ ⟨rfl,rfl⟩
   refine S0 ?_
   have y:jC i ((i.put 5 (O (cs++[vv,Rw false eR j.length (trs j),.int .i64 n,.int .i64 p]) 42 false)).add (O [.pointer (some ⟨5,0,none⟩)] 98 false)) (λk=>k=5):=(jC.put _ _ _ (S:=λk=>k=5) λ_=>rfl).add' _
   have hT:tlT nt v j n p g d=⟨(match kyP g nt with|none=>(⟨jD nt,v,j,n,p⟩,[],0,0)|some r=>(⟨jD (bC nt r zT),tlV v (atT nt r).b d,j,n,p⟩,(atT nt r).s,g,d):Cf×List Zu×Int×Int).1,(match kyP g nt with|none=>(⟨jD nt,v,j,n,p⟩,[],0,0)|some r=>(⟨jD (bC nt r zT),tlV v (atT nt r).b d,j,n,p⟩,(atT nt r).s,g,d):Cf×List Zu×Int×Int).2.1,(match kyP g nt with|none=>(⟨jD nt,v,j,n,p⟩,[],0,0)|some r=>(⟨jD (bC nt r zT),tlV v (atT nt r).b d,j,n,p⟩,(atT nt r).s,g,d):Cf×List Zu×Int×Int).2.2.1,(match kyP g nt with|none=>(⟨jD nt,v,j,n,p⟩,[],0,0)|some r=>(⟨jD (bC nt r zT),tlV v (atT nt r).b d,j,n,p⟩,(atT nt r).s,g,d):Cf×List Zu×Int×Int).2.2.2,true⟩:=by
    unfold tlT
    cases kyP g nt<;>rfl
   rw[← hT]
   exact kP3 G (lo:=7) (m:=m) (t:=nt) (cs:=cs) (vv:=vv) ⟨by rw[y.lo,C],y.cellsE c2 Z0 Z1,y.cellsE c3 Z0 Z1,(kG _ _ (by show _≠i.next;omega)).trans (jX _ _ _ _),y.cellsE c5 Z0 Z1,E.grew y (λk V h6 e=>by omega) hm,by decide,by have:=y.next;omega,X.grew y (λk V h6 e=>by omega),J⟩ (qM _ _ _ _ rfl) (by show _≤i.next;omega) (by show i.next<_;rw[jB];exact Nat.lt_succ_self _) Z F Y
def rsB:Tm→Zb
 | .mk k _ _ _ _ l=>if k=7 then (match l with | [x]=>rsB x | _=>false) else if k=12∨k=11 then (match l with | [x,y]=>rsB x&&rsB y | _=>false) else true
theorem bP0:∀ {x:Tm},rsB x=true→RS x
 | .mk k a b s e l,h=>by
  rw[rsB.eq_def] at h
  dsimp only at h
  split at h
  ·rename_i c
   subst c
   split at h
   ·exact .blk (bP0 h)
   ·cases h
  ·rename_i c
   split at h
   ·rename_i d
    split at h
    ·rw[Z5] at h
     rcases d with rfl|rfl
     ·exact .seq (bP0 h.1) (bP0 h.2)
     ·exact .par (bP0 h.1) (bP0 h.2)
    ·cases h
   ·exact .leaf Z0 Z0 c
def actB:List Int→Tm→Zb
 | [],_=>true
 | i :: p,.mk k _ _ _ _ l=>if k=7 then (match l with | [x]=>decide (i=0)&&actB p x | _=>false) else if k=12 then (match l with | [x,_]=>decide (i=0)&&actB p x | _=>false) else if k=11 then (match l with | [x,y]=>(decide (i=0)&&actB p x) || (decide (i=1)&&actB p y) | _=>false) else false
theorem dE0:∀ {p:List Int} {x:Tm},actB p x=true→gK x p
 | [],x,h=>.nil
 | i :: p,.mk k a b s e l,h=>by
  rcases l with _|⟨x,_|⟨y,_|⟨z,l⟩⟩⟩
  ·simp[actB] at h
  ·by_cases d:k=7
   ·subst d
    simp[actB] at h
    obtain ⟨rfl,h⟩:=h
    exact .blk (dE0 h)
   ·simp[actB,d] at h
  ·by_cases d:k=12
   ·subst d
    simp[actB] at h
    obtain ⟨rfl,h⟩:=h
    exact .seq (dE0 h)
   by_cases c:k=11
   ·subst c
    simp[actB] at h
    rcases h with ⟨rfl,h⟩|⟨rfl,h⟩
    ·exact .parl (dE0 h)
    ·exact .parr (dE0 h)
   ·simp[actB,d,c] at h
  ·simp[actB] at h
def sokB (c:Co)(f:Cf)(h:Int):Tm→Zb
 | .mk k a b s ex l=>
  if k=1∨k=5∨k=8 then true
  else if k=2 then decide (0≤a∧a<f.v.length∧smE ex=true)
  else if k=3 then (match l with|[y]=>decide (0≤a∧a<f.st.length∧smT y=true)|_=>false)
  else if k=4 then decide (0≤a∧a<f.st.length)
  else if k=6 then decide ((0≤a∧a<f.st.length)∧0≤b∧b<f.st.length)
  else if k=9 then (match l with|[_,_]=>smE ex|_=>false)
  else if k=10 then (match l with|[_,_]=>decide (0≤h∧h<2)|_=>false)
  else if k=13 then decide (0≤a∧a<c.p.length)
  else false
theorem oL2 {c:Co}{f:Cf}{g:Int}{x:Tm}(h:sokB c f g x=true):SOk c f g x:=by
 obtain ⟨k,a,b,s,ex,l⟩:=x
 unfold sokB at h
 dsimp only at h
 unfold SOk
 dsimp only
 by_cases p:k=1∨k=5∨k=8
 ·exact ⟨Z0,Z0,Z0,Z0,Z0,Z0,Z0,Z0⟩
 rw[if_neg p] at h
 by_cases j:k=2
 ·rw[if_pos j,decide_eq_true_eq] at h
  exact ⟨λ_=>h,Z0,Z0,Z0,Z0,Z0,Z0,Z0⟩
 rw[if_neg j] at h
 by_cases i:k=3
 ·rw[if_pos i] at h
  split at h
  ·rw[decide_eq_true_eq] at h
   exact ⟨Z0,λ_=>⟨h.1,h.2.1,_,rfl,h.2.2⟩,Z0,Z0,Z0,Z0,Z0,Z0⟩
  ·cases h
 rw[if_neg i] at h
 by_cases m:k=4
 ·rw[if_pos m,decide_eq_true_eq] at h
  exact ⟨Z0,Z0,λ_=>h,Z0,Z0,Z0,Z0,Z0⟩
 rw[if_neg m] at h
 by_cases o:k=6
 ·rw[if_pos o,decide_eq_true_eq] at h
  exact ⟨Z0,Z0,Z0,λ_=>h,Z0,Z0,Z0,Z0⟩
 rw[if_neg o] at h
 by_cases n:k=9
 ·rw[if_pos n] at h
  split at h
  ·exact ⟨Z0,Z0,Z0,Z0,λ_=>⟨h,_,_,rfl⟩,Z0,Z0,Z0⟩
  ·cases h
 rw[if_neg n] at h
 by_cases e:k=10
 ·rw[if_pos e] at h
  split at h
  ·rw[decide_eq_true_eq] at h
   exact ⟨Z0,Z0,Z0,Z0,Z0,λ_=>⟨⟨_,_,rfl⟩,h⟩,Z0,Z0⟩
  ·cases h
 rw[if_neg e] at h
 by_cases d:k=13
 ·rw[if_pos d,decide_eq_true_eq] at h
  exact ⟨Z0,Z0,Z0,Z0,Z0,Z0,λ_=>h,Z0⟩
 rw[if_neg d] at h
 cases h
def rowB (l:List Tm):Zb:=decide (l.length<50000000000)&&dI l
def yX2 (s:List (List Tm)):Zb:=decide (s.length<50000000000)&&s.all rowB
theorem gM0 {s:List (List Tm)}(h:yX2 s=true):jV0 s∧∀ i:Nat,(s.getD i []).length<50000000000:=by
 unfold yX2 rowB at h
 rw[Z5,decide_eq_true_eq,List.all_eq_true] at h
 refine ⟨⟨Z0,λl a=>?_⟩,λi=>?_⟩
 ·have:=h.2 l a
  rw[Z5,decide_eq_true_eq] at this
  exact ⟨Z0,this.2⟩
 ·rw[List.getD_eq_getElem?_getD]
  cases hi:s[i]? with
  | none=>simp
  | some x=>
   have:=h.2 x (List.mem_of_getElem? hi)
   rw[Z5,decide_eq_true_eq] at this
   exact this.1
def okC (c:Co):Zb:=decide (c.v.length<1000000000)&&decide (c.p.length<1000000000)&&dI c.p
def cfB (f:Cf):Zb:=smT f.t&&decide (f.v.length<1000000000)&&yX2 f.st&&rsB f.t&&smT (jD f.t)
def doB (c:Co)(f:Cf):Zb:=okC c&&cfB f&&decide ((kH (jD f.t)).length<400000000000)&&
 (enF f.t).all λh=>actB h.p (jD f.t)&&decide (h.p.length<1000000000)&&sokB c ⟨jD f.t,f.v,f.st,f.n,f.key⟩ h.a (atT (jD f.t) h.p)&&smT (stepT c ⟨jD f.t,f.v,f.st,f.n,f.key⟩ h.p h.a)&&smT (jD (stepT c ⟨jD f.t,f.v,f.st,f.n,f.key⟩ h.p h.a))&&yX2 (kI c ⟨jD f.t,f.v,f.st,f.n,f.key⟩ h.a (atT (jD f.t) h.p)).st
theorem lZ2 {c:Co}(h:okC c=true):SmC c:=by
 unfold okC at h
 rw[Z5,Z5,decide_eq_true_eq,decide_eq_true_eq] at h
 exact ⟨Z0,Z0,h.2⟩
theorem mT2 {c:Co}{f:Cf}(h:doB c f=true):DoOk c f:=by
 unfold doB cfB at h
 simp only[Z5,decide_eq_true_eq,List.all_eq_true] at h
 obtain ⟨⟨⟨p,⟨⟨⟨n,i⟩,a⟩,b⟩,s⟩,q⟩,l⟩:=h
 refine ⟨lZ2 p,⟨n,Z0,(gM0 a).1⟩,i,(gM0 a).2,bP0 b,s,q,λd r=>?_⟩
 obtain ⟨⟨⟨⟨⟨e,g⟩,o⟩,k⟩,m⟩,j⟩:=l d r
 exact ⟨dE0 e,g,oL2 o,k,m,(gM0 j).1⟩
theorem oO0:∀ {x:Tm} {p:List Int},gK x p→atT x p∈kH x
 | .mk k a b s e l,[],h=>by rw[kH];exact List.mem_cons_self ..
 | _,_ :: p,.blk h=>by
  rw[kH,if_neg Z1,if_pos (.inr rfl)]
  refine List.mem_cons_of_mem _ ?_
  simp only[kV,List.append_nil]
  exact oO0 h
 | _,_ :: p,.seq h=>by
  rw[kH,if_pos rfl,actH]
  exact List.mem_cons_of_mem _ (oO0 h)
 | _,_ :: p,.parl h=>by
  rw[kH,if_neg Z1,if_pos (.inl rfl),kV]
  exact List.mem_cons_of_mem _ (List.mem_append_left _ (oO0 h))
 | _,_ :: p,.parr h=>by
  rw[kH,if_neg Z1,if_pos (.inl rfl)]
  simp only[kV,List.append_nil]
  exact List.mem_cons_of_mem _ (List.mem_append_right _ (oO0 h))
def tlB (c:Co)(f:Cf)(h:Int):Zb:=okC c&&cfB f&&decide ((kH f.t).length<1000000000000)&&((kH (jD f.t)).all λx=>!decide (x.k=14) || decide (x.b<f.v.length))&&
 (match kyP h (jD f.t) with|some r=>smT (bC (jD f.t) r zT)|none=>true)
theorem kO3 {c:Co}{f:Cf}{a:Int}(h:tlB c f a=true):TlOk c f a:=by
 unfold tlB cfB at h
 simp only[Z5,decide_eq_true_eq,List.all_eq_true] at h
 obtain ⟨⟨⟨⟨o,⟨⟨⟨e,p⟩,g⟩,k⟩,l⟩,d⟩,n⟩,b⟩:=h
 refine ⟨lZ2 o,⟨e,Z0,(gM0 g).1⟩,bP0 k,l,d,λr j m=>?_,λr i=>?_⟩
 ·have:=n _ (oO0 j)
  rw[m] at this
  simpa using this
 ·rw[i] at b
  exact b
end
end Go.Proofs.YtklapbhlhjdijaaGreatDoor
