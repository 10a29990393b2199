/-
  A part of the proof: what the program's functions hand back,as theorems. No condition but those that each theorem names.
-/
import Derived.Test.YtklapbhlhjdijaaDoorTe
import Derived.Test.YtklapbhlhjdijaaDoorExc
set_option linter.unusedSimpArgs false
set_option linter.unusedVariables false
namespace Go.Proofs.YtklapbhlhjdijaaDoor
open Go Go.RowKit Go.Ev Go.Dv
noncomputable section
set_option maxRecDepth 100000
variable (G:Nat×Nat)
theorem eT0 (a n:Int) (hn:0<n) (hn2:n<1000000000000):jK (pp G) H0 5 [.int .i64 a,.int .i64 n] (.int .i64 (cG0 a n)):=by
 refine cE G fir5 (by kernel_rfl) (nM0 ..) fun hlo=>?_;rw[zJ2]
 have h0:¬ n=0:=by omega
 have h1:¬ n = -1:=by omega
 have h2:=cF0 (a:=a) hn
 unfold cG0 at h2 ⊢
 by_cases h:a.tmod n<0
 ·rw[if_pos h]
  rw[if_pos h] at h2
  have h3:IntKind.i64.wrap (a.tmod n+n)=a.tmod n+n:=W_in (by unfold In;omega)
  simp(disch:=first|omega|(apply id;simp only[push_cast];try omega))only[push_cast,simprocAttr,h,h0,h1,h3]
  exact .id rfl
 ·rw[if_neg h]
  rw[if_neg h] at h2
  simp(disch:=first|omega|(apply id;simp only[push_cast];try omega))only[push_cast,simprocAttr,h,h0,h1]
  exact .id rfl
def txs (l:List (List UInt8)):List Value:=l.map fun s=>.string (Tx s)
def txV (l:List (List UInt8)):Value:=Rw false eS l.length (txs l)
theorem qU1 (l:List (List UInt8)):(txs l).length=l.length:=by simp[txs]
theorem qV1 (a b:List (List UInt8)):txs (a++b)=txs a++txs b:=by simp[txs]
theorem qT1 (n:Nat):∀ l:List (List UInt8),scL n (txs l)=true
 | []=>rfl
 | x :: l=>by show scL n (.string (Tx x) :: txs l)=true;simp only[scL,Ev.sc,qT1 n l,Bool.and_true]
inductive I9 (a b:List (List UInt8)):Nat→S→Prop
 | mk (i:Nat) (iv:Int) (h:jA) {x2 x3 x4 x6 x7 x8 x9 xA xB xC xD xE xF xG xH xI xJ xK xL xM xN xO xP:Value} (hiv:iv=(i:Int)) (hi:i≤a.length) (hx:a.take i=b.take i) (hl1:h.lo=1) :
  I9 a b (a.length-i) ⟨(F26 (txV a) (txV b) x2 x3 x4 (.int .i64 iv) x6 x7 x8 x9 xA xB xC xD xE xF xG xH xI xJ xK xL xM xN xO xP),[],h⟩
theorem oB1 (a b:List (List UInt8)) (ha:a.length<1000000000) (hb:b.length<1000000000):jK (pp G) H0 9 [txV a,txV b] (.bool (decide (a=b))):=by
 refine cE G fir9 (by kernel_rfl) (uW2 ..) fun hlo=>?_;rw[zI2]
 unfold txV
 simp(disch:=first|omega|(apply id;simp only[push_cast];try omega))only[push_cast,simprocAttr]
 by_cases hn:(a.length:Int)=b.length
 ·simp(disch:=first|omega|(apply id;simp only[push_cast];try omega))only[push_cast,simprocAttr,hn]
  have hn':a.length=b.length:=by omega
  rw[← hn]
  refine WD.loop4 (q:=qq) (jW G) (by kernel_rfl) (I9 a b) ?_ _ _ (I9.mk 0 0 _ rfl (Nat.zero_le _) rfl rfl)
  intro m s1 hI
  cases hI with|mk i iv h hiv hi hx hl1=>
  subst hiv
  rw[uQ1]
  unfold txV
  by_cases hil:(i:Int)<a.length
  ·obtain ⟨x,hxx⟩:=kO (l:=a) (i:=i) (by omega)
   obtain ⟨y,hyy⟩:=kO (l:=b) (i:=i) (by omega)
   have hgx:(txs a)[i]?=some (.string (Tx x)):=by simp[txs,hxx]
   have hgy:(txs b)[i]?=some (.string (Tx y)):=by simp[txs,hyy]
   have hla:=qU1 a
   have hlb:=qU1 b
   have hil3:(i:Int)<b.length:=by omega
   by_cases e:x=y
   ·subst e
    simp(disch:=first|omega|(apply id;simp only[push_cast];try omega))only[push_cast,simprocAttr,hil,hil3,Int.toNat_natCast,hgx,hgy,Nat.mul_one]
    rw[show (!(x == x))=false by simp]
    simp(disch:=first|omega|(apply id;simp only[push_cast];try omega))only[push_cast,simprocAttr]
    exact ⟨_,by omega,I9.mk (i+1) _ _ (by first|rfl|omega) (by omega) (by rw[kH hxx,kH hyy,hx]) (by first|assumption|(simp(disch:=first|omega|(apply id;simp only[push_cast];try omega))only[push_cast,simprocAttr,hl1];try omega))⟩
   ·have hne:¬ a=b:=fun h=>e (by subst h;rw[hxx] at hyy;exact Option.some.inj hyy)
    rw[decide_eq_false hne]
    simp(disch:=first|omega|(apply id;simp only[push_cast];try omega))only[push_cast,simprocAttr,hil,hil3,Int.toNat_natCast,hgx,hgy,Nat.mul_one,e]
    rw[show (!(x == y))=true by simp[e]]
    simp(disch:=first|omega|(apply id;simp only[push_cast];try omega))only[push_cast,simprocAttr]
    exact .id rfl
  ·have hie:i=a.length:=by omega
   subst hie
   simp(disch:=first|omega|(apply id;simp only[push_cast];try omega))only[push_cast,simprocAttr,hil]
   rw[uP1]
   have:a=b:=by rw[List.take_length,hn',List.take_length] at hx;exact hx
   rw[decide_eq_true this]
   simp(disch:=first|omega|(apply id;simp only[push_cast];try omega))only[push_cast,simprocAttr]
   exact .id rfl
 ·have hne:¬ a=b:=fun h=>hn (by rw[h])
  rw[decide_eq_false hne]
  simp(disch:=first|omega|(apply id;simp only[push_cast];try omega))only[push_cast,simprocAttr,hn]
  exact .id rfl
theorem gZ1 (f:Cf):(cfV f).cells.toList=cfC f:=rfl
theorem mZ0 (f:Cf):(cfC f).length=13:=by unfold cfC;rw[List.length_append,kU];rfl
theorem cfC_t (f:Cf):(cfC f).take 13=cfC f:=List.take_of_length_le (by rw[mZ0];exact Nat.le_refl _)
theorem cfC_d (f:Cf):(cfC f).drop 13=[]:=List.drop_of_length_le (by rw[mZ0];exact Nat.le_refl _)
theorem cfC_0 (f:Cf):(cfC f)[0]?=some (.int .i64 f.t.k):=by obtain ⟨⟨k,a,b,s,e,l⟩,v,st,n,key⟩:=f;rfl
theorem bE2 (f:Cf):(cfC f)[12]?=some (.int .i64 f.key):=by obtain ⟨⟨k,a,b,s,e,l⟩,v,st,n,key⟩:=f;rfl
theorem cfC_1 (f:Cf):(cfC f).all one=true:=mY0
theorem fN1 (f:Cf):Value.agg ⟨cfC f⟩=cfV f:=rfl
theorem cB0 (n:Nat) (hn:0<n) (f:Cf):Ev.sc n (cfV f)=true:=by unfold cfV;simp only[Ev.sc];exact bA1 n hn f
attribute [push_cast] gZ1 mZ0 cfC_t cfC_d cfC_0 bE2 cfC_1 fN1 cB0
def qR0:Co:=⟨[],0,[.mk 1 (-1) 0 [112,97,121] zE []],0⟩
theorem kJ2 (σ:jA):bsD (qq.m 24) (slT Tryd.prog 24) 1 [(0,.agg ⟨[.int .i64 1,.int .i64 (-1),.int .i64 0,.string (Tx [112,97,121]),.int .i64 0,.int .i64 0,.string (Tx []),.slice none 0 0,.slice none 0 0]⟩)] σ=some (Rw true 29 1 [.int .i64 1,.int .i64 (-1),.int .i64 0,.string (Tx [112,97,121]),.int .i64 0,.int .i64 0,.string (Tx []),.slice none 0 0,.slice none 0 0],σ):=by kernel_rfl
theorem dG0 (n:Nat) (σ:jA):FzV Tryd.prog n σ (.agg ⟨[.slice none 0 0,.int .i64 0,Rw true 29 1 [.int .i64 1,.int .i64 (-1),.int .i64 0,.string (Tx [112,97,121]),.int .i64 0,.int .i64 0,.string (Tx []),.slice none 0 0,.slice none 0 0],.int .i64 0]⟩) (coV qR0):=
 .agg (.cons (.nil (size:=1) rfl (by decide)) (.cons (.id rfl) (.cons (.row (.cons (.id rfl) (.cons (.id rfl) (.cons (.id rfl) (.cons (.id rfl) (.cons (.id rfl) (.cons (.id rfl) (.cons (.id rfl) (.cons (.nil (size:=4) rfl (by decide)) (.cons (.nil (size:=9) rfl (by decide)) .nil)))))))))) (.cons (.id rfl) .nil))))
def lX0:Cf:=uX0 qR0
def zD1:Cf:=(doF qR0 lX0 0).f
theorem mW1:doB qR0 lX0=true:=by kernel_rfl
theorem kG2:tlB qR0 zD1 0=true:=by kernel_rfl
theorem kI2:lX0=⟨.mk 1 (-1) 0 [112,97,121] zE [],[],[],0,0⟩:=by kernel_rfl
theorem kH2:doF qR0 lX0 0=⟨⟨.mk 14 0 (-1) [112,97,121] zE [],[],[],1,1⟩,[112,97,121],0,true,0⟩:=by kernel_rfl
theorem pay_2:doF qR0 lX0 1=⟨cfZ,[],0,false,12⟩:=by kernel_rfl
theorem pay_3:rB0 qR0 zD1 0 7=⟨⟨zT,[],[],1,1⟩,[112,97,121],0,7,true⟩:=by kernel_rfl
theorem pay_4:chkC qR0=true:=by kernel_rfl
theorem eC1:jK (pp G) H0 4 [] (.bool true):=by
 have hc:SmC qR0:=⟨by decide,by decide,by kernel_rfl⟩
 have h0:=bK1 G qR0 hc
 have h1:=do_f G qR0 lX0 0 (gP1 mW1)
 have h2:=do_f G qR0 lX0 1 (gP1 mW1)
 have h3:=mP1 G qR0 zD1 0 7 (mO1 kG2)
 have h4:=gX1 G qR0 hc
 rw[kH2] at h1
 rw[pay_2] at h2
 rw[pay_3] at h3
 rw[pay_4] at h4
 have e1:zD1=⟨.mk 14 0 (-1) [112,97,121] zE [],[],[],1,1⟩:=by unfold zD1;rw[kH2]
 rw[e1] at h3
 have e0:uX0 qR0=⟨.mk 1 (-1) 0 [112,97,121] zE [],[],[],0,0⟩:=kI2
 rw[e0] at h0
 rw[kI2] at h1 h2
 have hz:FzL Tryd.prog H0.next H0 [.agg ⟨[.slice none 0 0,.int .i64 0,Rw true 29 1 [.int .i64 1,.int .i64 (-1),.int .i64 0,.string (Tx [112,97,121]),.int .i64 0,.int .i64 0,.string (Tx []),.slice none 0 0,.slice none 0 0],.int .i64 0]⟩] [coV qR0]:=.cons (dG0 _ _) .nil
 refine cE G fir4 (by kernel_rfl) (kL0 ..) fun hlo=>?_;rw[zK2]
 unfold dvV at h1 h2
 unfold tvV at h3
 dsimp only at h1 h2 h3
 simp(disch:=first|omega|(apply id;simp only[push_cast];try omega))only[push_cast,simprocAttr,↓kJ2]
 refine jD.data (cap:=[]) (args:=[_]) h0 hz rfl rfl ?_
 simp(disch:=first|omega|(apply id;simp only[push_cast];try omega))only[push_cast,simprocAttr]
 refine jD.data (cap:=[]) (args:=[_,_,_]) h1 (.cons (dG0 _ _) (.cons (.id rfl) (.cons (.id rfl) .nil))) rfl rfl ?_
 simp(disch:=first|omega|(apply id;simp only[push_cast];try omega))only[push_cast,simprocAttr]
 refine jD.data (cap:=[]) (args:=[_,_,_]) h2 (.cons (dG0 _ _) (.cons (.id rfl) (.cons (.id rfl) .nil))) rfl rfl ?_
 simp(disch:=first|omega|(apply id;simp only[push_cast];try omega))only[push_cast,simprocAttr]
 refine jD.data (cap:=[]) (args:=[_,_,_,_]) h3 (.cons (dG0 _ _) (.cons (.id rfl) (.cons (.id rfl) (.cons (.id rfl) .nil)))) rfl rfl ?_
 simp(disch:=first|omega|(apply id;simp only[push_cast];try omega))only[push_cast,simprocAttr]
 refine jD.data (cap:=[]) (args:=[_]) h4 hz rfl rfl ?_
 simp(disch:=first|omega|(apply id;simp only[push_cast];try omega))only[push_cast,simprocAttr]
 rw[show (([112,97,121]:List UInt8) == [112,97,121])=true by simp]
 simp(disch:=first|omega|(apply id;simp only[push_cast];try omega))only[push_cast,simprocAttr]
 exact .id rfl
mutual
def dC:Tm→List Value
 | .mk k a b s _ []=>[.int .i64 k,.int .i64 a,.int .i64 b,.string (Tx s),.int .i64 0,.int .i64 0,.string (Tx []),.slice none 0 0,.slice none 0 0]
 | .mk k a b s _ (x :: m)=>[.int .i64 k,.int .i64 a,.int .i64 b,.string (Tx s),.int .i64 0,.int .i64 0,.string (Tx []),.slice none 0 0,Rw true 29 (m.length+1) (dC x++kG m)]
def kG:List Tm→List Value
 | []=>[]
 | x :: l=>dC x++kG l
end
theorem dS (x:Tm):(dC x).length=9:=by
 obtain ⟨k,a,b,s,e,l⟩:=x
 cases l<;>rw[dC]<;>rfl
theorem wU0 (x:Tm):(dC x).all one=true:=by
 obtain ⟨k,a,b,s,e,l⟩:=x
 cases l<;>rw[dC]<;>rfl
theorem dJ:∀ l:List Tm,(kG l).length=l.length*9
 | []=>rfl
 | x :: l=>by rw[kG,List.length_append,dS,dJ l,List.length_cons];omega
theorem fL0:∀ l:List Tm,(kG l).all one=true
 | []=>rfl
 | x :: l=>by rw[kG,List.all_append,wU0,fL0 l];rfl
theorem fM0:∀ a b:List Tm,kG (a++b)=kG a++kG b
 | [],b=>rfl
 | x :: a,b=>by rw[List.cons_append,kG,kG,fM0 a b,List.append_assoc]
theorem bP0 {l:List Tm} {i:Nat} {x:Tm} (h:l[i]?=some x):((kG l).drop (i*9)).take 9=dC x:=by
 induction l generalizing i with
 | nil=>cases h
 | cons y l ih=>
  cases i with
  | zero=>cases h;rw[kG,Nat.zero_mul,List.drop_zero,List.take_left' (dS _)]
  | succ i=>
   rw[kG,show (i+1)*9=(dC y).length+i*9 by rw[dS];omega,← List.drop_drop,List.drop_left]
   exact ih h
mutual
def zeB:Tm→Bool
 | .mk _ _ _ _ e l=>(match e with | .mk ek en es el=>decide (ek=0)&&decide (en=0)&&es.isEmpty&&el.isEmpty)&&zeBs l
def zeBs:List Tm→Bool
 | []=>true
 | x :: l=>zeB x&&zeBs l
end
mutual
theorem mU1 {n:Nat} {σ:jA}:∀ {x:Tm},zeB x=true→FzL Tryd.prog n σ (dC x) (tmC x)
 | .mk k a b s ⟨ek,en,es,el⟩ l,h=>by
  rw[zeB] at h
  simp only[Bool.and_eq_true,decide_eq_true_eq,List.isEmpty_iff] at h
  obtain ⟨⟨⟨⟨rfl,rfl⟩,rfl⟩,rfl⟩,h5⟩:=h
  rw[gI]
  cases l with
  | nil=>
   rw[dC]
   exact .cons (.id rfl) (.cons (.id rfl) (.cons (.id rfl) (.cons (.id rfl) (.cons (.id rfl) (.cons (.id rfl) (.cons (.id rfl) (.cons (.nil (size:=4) rfl (by decide)) (.cons (.nil (size:=9) rfl (by decide)) .nil))))))))
  | cons y m=>
   rw[dC]
   rw[zeBs,Bool.and_eq_true] at h5
   refine .cons (.id rfl) (.cons (.id rfl) (.cons (.id rfl) (.cons (.id rfl) (.cons (.id rfl) (.cons (.id rfl) (.cons (.id rfl) (.cons (.nil (size:=4) rfl (by decide)) (.cons (.row ?_) .nil))))))))
   rw[jZ]
   exact (mU1 h5.1).app (lU0 h5.2)
theorem lU0 {n:Nat} {σ:jA}:∀ {l:List Tm},zeBs l=true→FzL Tryd.prog n σ (kG l) (jZ l)
 | [],h=>.nil
 | x :: l,h=>by
  rw[zeBs,Bool.and_eq_true] at h
  rw[kG,jZ]
  exact (mU1 h.1).app (lU0 h.2)
end
theorem sU1 (x:Tm) (σ:jA):bsD (qq.m 24) (slT Tryd.prog 24) 1 [(0,.agg ⟨dC x⟩)] σ=some (Rw true 29 1 (kG [x]),σ):=by
 have h1:=wU0 x
 have hl:=dS x
 have he:kG [x]=dC x:=by rw[kG,kG,List.append_nil]
 rw[he]
 generalize dC x=c at *
 match c,hl with
 | [x0,x1,x2,x3,x4,x5,x6,x7,x8],_=>
  rw[oB0,iN0 (n:=9) _ _ _ _ (by decide)]
  exact bE1 (cs:=[x0,x1,x2,x3,x4,x5,x6,x7,x8]) 1 h1 (by decide)
theorem sT1 (x y:Tm) (σ:jA):bsD (qq.m 24) (slT Tryd.prog 24) 2 [(0,.agg ⟨dC x⟩),(1,.agg ⟨dC y⟩)] σ=some (Rw true 29 2 (kG [x,y]),σ):=by
 have h1:=wU0 x
 have hl:=dS x
 have h2:=wU0 y
 have hl2:=dS y
 have he:kG [x,y]=dC x++dC y:=by rw[kG,kG,kG,List.append_nil]
 rw[he]
 generalize dC x=c at *
 generalize dC y=d at *
 match c,hl,d,hl2 with
 | [x0,x1,x2,x3,x4,x5,x6,x7,x8],_,[y0,y1,y2,y3,y4,y5,y6,y7,y8],_=>
  rw[oB0,iN0 (n:=9) _ _ _ _ (by decide)]
  exact bE1 (cs:=[x0,x1,x2,x3,x4,x5,x6,x7,x8]++[y0,y1,y2,y3,y4,y5,y6,y7,y8]) 2 (by rw[List.all_append,h1,h2];rfl) (by decide)
def abcL:List UInt8:=[97,98,99,100,101,102]
def doN (i:Nat):List UInt8:=[100,111]++(abcL.drop i).take 1
def unN (i:Nat):List UInt8:=[117,110]++(abcL.drop i).take 1
def dT (s:List UInt8):Tm:=.mk 1 (-1) 0 s zE []
def pT (s:List UInt8):Tm:=.mk 3 0 0 [] zE [dT s]
def kT (k a b:Int):Tm:=.mk k a b [] zE []
def rowR (cut:Int):Nat→List Tm
 | 0=>[]
 | i+1=>rowR cut i++[dT (doN i),pT (unN i)]++(if (i:Int)+1=cut then [kT 5 0 0] else [])
inductive J0 (k:Nat) (cut:Int) (tw:Bool):Nat→S→Prop
 | mk (i:Nat) (iv:Int) (h:jA) (q:Option Addr) (c:Nat) {x0 x1 x3 x4 x5 x6 xB xC xD xE xF xG xH xI xJ xK xL xM xN xO xP xQ xR xS xT xU xV xW xX xY xZ yA yB yC yD yE yF yG yH yI yJ yK yL yM yN yO yP yQ yR yS yT yU yV yW yX yY yZ zA zB zC zD zF zG zH zI zJ zK zL zM zN zO zP zQ zR zS zU zV zW zX zY zZ wA wB wC wE wF wG wH wI wJ wK wL wM wN wO wP wQ wR wS wT wV wW wX wY wZ uA uB uC uD uE uF uG uH uI uJ uK uL uM uN uO uP uQ uR uS uT uU uV uW uX uY uZ qA qB qC qD qE qF qG qH qI qJ qK qL qM qN qO qP qQ qR qS qT qU qV qW qX qY qZ pA pB pC pD pE pF pG pH pI:Value} (hiv:iv=(i:Int)) (hi:i≤k) (hl1:h.lo=1) (hn:1≤h.next) (ho:bN h 29 9 q (rowR cut i).length c (kG (rowR cut i))) (hq:∀ b,blk q b→1≤b) :
  J0 k cut tw (k-i) ⟨(gW x0 x1 (.bool tw) x3 x4 x5 x6 (.int .i64 k) (.int .i64 cut) (.slice q (rowR cut i).length c) (.int .i64 iv) xB xC xD xE xF xG xH xI xJ xK xL xM xN xO xP xQ xR xS xT xU xV xW xX xY xZ yA yB yC yD yE yF yG yH yI yJ yK yL yM yN yO yP yQ yR yS yT yU yV yW yX yY yZ zA zB zC zD zF zG zH zI zJ zK zL zM zN zO zP zQ zR zS zU zV zW zX zY zZ wA wB wC wE wF wG wH wI wJ wK wL wM wN wO wP wQ wR wS wT wV wW wX wY wZ uA uB uC uD uE uF uG uH uI uJ uK uL uM uN uO uP uQ uR uS uT uU uV uW uX uY uZ qA qB qC qD qE qF qG qH qI qJ qK qL qM qN qO qP qQ qR qS qT qU qV qW qX qY qZ pA pB pC pD pE pF pG pH pI),[],h⟩
theorem yE0 (cut:Int):∀ i:Nat,(rowR cut i).length≤3*i
 | 0=>by simp[rowR]
 | i+1=>by
  have:=yE0 cut i
  rw[rowR,List.length_append,List.length_append]
  split<;>simp<;>omega
abbrev RF (G:Nat×Nat):jL→S→Prop:=jG Tryd.prog [.tmp 6] (fun v' σ'=>FzV (pp G).P H0.next σ' v' (.bool true))
theorem bB1 (i:Nat) (x y:Operand):jE Tryd.prog .add 9 x y (.string (Tx [100,111])) (.string (Tx (List.take (((i:Int)+1).toNat-(i:Int).toNat) (List.drop (i:Int).toNat [97,98,99,100,101,102]))))=some (.string (Tx (doN i))):=by
 have ht1:((abcL.drop i).take 1).length≤1:=by rw[List.length_take];omega
 rw[show ((i:Int)+1).toNat-(i:Int).toNat=1 by omega,Int.toNat_natCast]
 exact pM0 (by show 2+((abcL.drop i).take 1).length≤_;omega)
theorem nU1 (i:Nat) (x y:Operand):jE Tryd.prog .add 9 x y (.string (Tx [117,110])) (.string (Tx (List.take (((i:Int)+1).toNat-(i:Int).toNat) (List.drop (i:Int).toNat [97,98,99,100,101,102]))))=some (.string (Tx (unN i))):=by
 have ht1:((abcL.drop i).take 1).length≤1:=by rw[List.length_take];omega
 rw[show ((i:Int)+1).toNat-(i:Int).toNat=1 by omega,Int.toNat_natCast]
 exact pM0 (by show 2+((abcL.drop i).take 1).length≤_;omega)
theorem mT1 (s:List UInt8) (σ:jA):bsD (qq.m 24) (slT Tryd.prog 24) 1 [(0,.agg ⟨[.int .i64 1,.int .i64 (-1),.int .i64 0,.string (Tx s),.int .i64 0,.int .i64 0,.string (Tx []),.slice none 0 0,.slice none 0 0]⟩)] σ=some (Rw true 29 1 (kG [dT s]),σ):=sU1 (dT s) σ
theorem mR1 (k a b:Int) (σ:jA):bsD (qq.m 24) (slT Tryd.prog 24) 1 [(0,.agg ⟨[.int .i64 k,.int .i64 a,.int .i64 b,.string (Tx []),.int .i64 0,.int .i64 0,.string (Tx []),.slice none 0 0,.slice none 0 0]⟩)] σ=some (Rw true 29 1 (kG [kT k a b]),σ):=sU1 (kT k a b) σ
theorem sS1 (k a b k' a' b':Int) (σ:jA):bsD (qq.m 24) (slT Tryd.prog 24) 2 [(0,.agg ⟨[.int .i64 k,.int .i64 a,.int .i64 b,.string (Tx []),.int .i64 0,.int .i64 0,.string (Tx []),.slice none 0 0,.slice none 0 0]⟩),(1,.agg ⟨[.int .i64 k',.int .i64 a',.int .i64 b',.string (Tx []),.int .i64 0,.int .i64 0,.string (Tx []),.slice none 0 0,.slice none 0 0]⟩)] σ=some (Rw true 29 2 (kG [kT k a b,kT k' a' b']),σ):=sT1 (kT k a b) (kT k' a' b') σ
theorem mS1 (s u:List UInt8) (σ:jA):bsD (qq.m 24) (slT Tryd.prog 24) 2 [(0,.agg ⟨[.int .i64 1,.int .i64 (-1),.int .i64 0,.string (Tx s),.int .i64 0,.int .i64 0,.string (Tx []),.slice none 0 0,.slice none 0 0]⟩),(1,.agg ⟨[.int .i64 3,.int .i64 0,.int .i64 0,.string (Tx []),.int .i64 0,.int .i64 0,.string (Tx []),.slice none 0 0,Rw true 29 1 (kG [dT u])]⟩)] σ=some (Rw true 29 2 (kG [dT s,pT u]),σ):=sT1 (dT s) (pT u) σ
theorem dB0 {h:jA} {q:Option Addr} {c:Nat} {l:List Tm} (ho:bN h 29 9 q l.length c (kG l)) (hl:l.length<1000) (hlo:h.lo=1) (hn:1≤h.next) (hq:∀ b,blk q b→1≤b) (m:List Tm) (hm:m.length<1000) :
  ∃ q' c' h',apS 29 9 120 (.slice q l.length c) (some (m.length,kG m)) h=some (.slice q' (l++m).length c',h')∧bN h' 29 9 q' (l++m).length c' (kG (l++m))∧h'.lo=1∧1≤h'.next∧(∀ b,blk q' b→1≤b)∧jC h h' (blk q)∧(∀ b,blk q' b→blk q b∨h.next≤b):=by
 obtain ⟨a',c',h',e,o',g',b'⟩:=gB0 (by_:=120) ho (by decide) (by omega) (m:=m.length) (xs:=kG m) (dJ m) (fL0 m) (by omega)
 rw[← fM0] at o'
 rw[← List.length_append] at e o'
 have hn':=g'.next
 exact ⟨a',c',h',e,o',by rw[g'.lo,hlo],by omega,fun b hb=>by rcases b' b hb with h5|h5;exact hq b h5;omega,g',b'⟩
theorem loop0 (k:Nat) (hk:k≤5) (cut:Int) (tw:Bool) {h:jA} (hl1:h.lo=1) (hn:1≤h.next) {x0 x1 x3 x4 x5 x6 xB xC xD xE xF xG xH xI xJ xK xL xM xN xO xP xQ xR xS xT xU xV xW xX xY xZ yA yB yC yD yE yF yG yH yI yJ yK yL yM yN yO yP yQ yR yS yT yU yV yW yX yY yZ zA zB zC zD zF zG zH zI zJ zK zL zM zN zO zP zQ zR zS zU zV zW zX zY zZ wA wB wC wE wF wG wH wI wJ wK wL wM wN wO wP wQ wR wS wT wV wW wX wY wZ uA uB uC uD uE uF uG uH uI uJ uK uL uM uN uO uP uQ uR uS uT uU uV uW uX uY uZ qA qB qC qD qE qF qG qH qI qJ qK qL qM qN qO qP qQ qR qS qT qU qV qW qX qY qZ pA pB pC pD pE pF pG pH pI:Value}
  (hs1:∀ (h:jA) (q:Option Addr) (c:Nat) {x0 x1 x3 x4 x5 x6 xA xB xC xD xE xF xG xH xI xJ xK xL xM xN xO xP xQ xR xS xT xU xV xW xX xY xZ yA yB yC yD yE yF yG yH yI yJ yK yL yM yN yO yP yQ yR yS yT yU yV yW yX yY yZ zA zB zC zD zF zG zH zI zJ zK zL zM zN zO zP zQ zR zS zU zV zW zX zY zZ wA wB wC wE wF wG wH wI wJ wK wL wM wN wO wP wQ wR wS wT wV wW wX wY wZ uA uB uC uD uE uF uG uH uI uJ uK uL uM uN uO uP uQ uR uS uT uU uV uW uX uY uZ qA qB qC qD qE qF qG qH qI qJ qK qL qM qN qO qP qQ qR qS qT qU qV qW qX qY qZ pA pB pC pD pE pF pG pH pI:Value},h.lo=1→1≤h.next→bN h 29 9 q (rowR cut k).length c (kG (rowR cut k))→(∀ b,blk q b→1≤b)→
   dc3 (pp G) qq none fY0 ⟨(gW x0 x1 (.bool tw) x3 x4 x5 x6 (.int .i64 k) (.int .i64 cut) (.slice q (rowR cut k).length c) xA xB xC xD xE xF xG xH xI xJ xK xL xM xN xO xP xQ xR xS xT xU xV xW xX xY xZ yA yB yC yD yE yF yG yH yI yJ yK yL yM yN yO yP yQ yR yS yT yU yV yW yX yY yZ zA zB zC zD zF zG zH zI zJ zK zL zM zN zO zP zQ zR zS zU zV zW zX zY zZ wA wB wC wE wF wG wH wI wJ wK wL wM wN wO wP wQ wR wS wT wV wW wX wY wZ uA uB uC uD uE uF uG uH uI uJ uK uL uM uN uO uP uQ uR uS uT uU uV uW uX uY uZ qA qB qC qD qE qF qG qH qI qJ qK qL qM qN qO qP qQ qR qS qT qU qV qW qX qY qZ pA pB pC pD pE pF pG pH pI),[],h⟩ (@kR ⟨RF G⟩)) :
  WD (pp G) qq.H none (.loop kQ1) ⟨(gW x0 x1 (.bool tw) x3 x4 x5 x6 (.int .i64 k) (.int .i64 cut) (.slice none 0 0) (.int .i64 0) xB xC xD xE xF xG xH xI xJ xK xL xM xN xO xP xQ xR xS xT xU xV xW xX xY xZ yA yB yC yD yE yF yG yH yI yJ yK yL yM yN yO yP yQ yR yS yT yU yV yW yX yY yZ zA zB zC zD zF zG zH zI zJ zK zL zM zN zO zP zQ zR zS zU zV zW zX zY zZ wA wB wC wE wF wG wH wI wJ wK wL wM wN wO wP wQ wR wS wT wV wW wX wY wZ uA uB uC uD uE uF uG uH uI uJ uK uL uM uN uO uP uQ uR uS uT uU uV uW uX uY uZ qA qB qC qD qE qF qG qH qI qJ qK qL qM qN qO qP qQ qR qS qT qU qV qW qX qY qZ pA pB pC pD pE pF pG pH pI),[],h⟩ (@kR ⟨jU 0 (jQ (fun s1=>dc3 (pp G) qq none fY0 s1 (@kR ⟨RF G⟩)) (RF G))⟩):=by
 refine WD.loop4 (q:=qq) (jW G) (by kernel_rfl) (J0 k cut tw) ?_ _ _ (J0.mk 0 0 h none 0 rfl (Nat.zero_le _) hl1 hn (bN.nil _ _ _) (fun b hb=>by obtain ⟨o,s,e⟩:=hb;cases e))
 clear hl1 hn
 intro m s1 hI
 cases hI with|mk i iv h q c hiv hi hl1 hn ho hq=>
 subst hiv
 rw[wD1]
 have hrl:=yE0 cut i
 by_cases hik:(i:Int)<k
 ·obtain ⟨q1,c1,h1,e1,o1,l1,n1,b1,g1,f1⟩:=dB0 ho (by omega) hl1 hn hq [dT (doN i),pT (unN i)] (by simp)
  have e1':apS 29 9 120 (.slice q (rowR cut i).length c) (some (2,kG [dT (doN i),pT (unN i)])) h=some (.slice q1 (rowR cut i++[dT (doN i),pT (unN i)]).length c1,h1):=e1
  have hln:(kG [dT (doN i),pT (unN i)]).length=2*9:=dJ _
  have hln5:(kG [kT 5 0 0]).length=1*9:=dJ _
  by_cases hc:(i:Int)+1=cut
  ·have hR:rowR cut (i+1)=(rowR cut i++[dT (doN i),pT (unN i)])++[kT 5 0 0]:=by rw[rowR,if_pos hc]
   obtain ⟨q2,c2,h2,e2,o2,l2,n2,b2,g2,f2⟩:=dB0 o1 (by simp;omega) l1 n1 b1 [kT 5 0 0] (by simp)
   have e2':apS 29 9 120 (.slice q1 (rowR cut i++[dT (doN i),pT (unN i)]).length c1) (some (1,kG [kT 5 0 0])) h1=some (.slice q2 ((rowR cut i++[dT (doN i),pT (unN i)])++[kT 5 0 0]).length c2,h2):=e2
   rw[← hR] at e2' o2
   have hdc:decide ((i:Int)+1=cut)=true:=decide_eq_true hc
   simp(disch:=first|omega|(apply id;simp only[push_cast];try omega))only[push_cast,simprocAttr,hik,bB1,nU1,↓mT1,↓mS1,↓mR1,e1',e2',hdc]
   exact ⟨_,by omega,J0.mk (i+1) _ _ q2 c2 (by first|rfl|omega) (by omega) l2 n2 o2 b2⟩
  ·have hR:rowR cut (i+1)=rowR cut i++[dT (doN i),pT (unN i)]:=by rw[rowR,if_neg hc,List.append_nil]
   rw[← hR] at e1' o1
   simp(disch:=first|omega|(apply id;simp only[push_cast];try omega))only[push_cast,simprocAttr,hik,bB1,nU1,↓mT1,↓mS1,e1',hc]
   exact ⟨_,by omega,J0.mk (i+1) _ _ q1 c1 (by first|rfl|omega) (by omega) l1 n1 o1 b1⟩
 ·have hie:i=k:=by omega
  subst hie
  simp(disch:=first|omega|(apply id;simp only[push_cast];try omega))only[push_cast,simprocAttr,hik]
  exact hs1 h q c hl1 hn ho hq
def rowE (tw:Bool) (k:Nat) (cut:Int):List Tm:=rowR cut k++(if tw=true then [kT 6 0 1,kT 4 1 0] else [kT 4 0 0])
theorem kF2 (k:Nat) (hk:k≤5) (cut:Int) (tw:Bool) {h:jA} {q:Option Addr} {c:Nat} (hl1:h.lo=1) (hn:1≤h.next) (ho:bN h 29 9 q (rowR cut k).length c (kG (rowR cut k))) (hq:∀ b,blk q b→1≤b) {x0 x1 x3 x4 x5 x6 xA xB xC xD xE xF xG xH xI xJ xK xL xM xN xO xP xQ xR xS xT xU xV xW xX xY xZ yA yB yC yD yE yF yG yH yI yJ yK yL yM yN yO yP yQ yR yS yT yU yV yW yX yY yZ zA zB zC zD zF zG zH zI zJ zK zL zM zN zO zP zQ zR zS zU zV zW zX zY zZ wA wB wC wE wF wG wH wI wJ wK wL wM wN wO wP wQ wR wS wT wV wW wX wY wZ uA uB uC uD uE uF uG uH uI uJ uK uL uM uN uO uP uQ uR uS uT uU uV uW uX uY uZ qA qB qC qD qE qF qG qH qI qJ qK qL qM qN qO qP qQ qR qS qT qU qV qW qX qY qZ pA pB pC pD pE pF pG pH pI:Value}
  (hs2:∀ (h:jA) (q:Option Addr) (c:Nat) {x0 x1 x2 x3 x4 x5 x6 xA xB xC xD xE xF xG xH xI xJ xK xL xM xN xO xP xQ xR xS xT xU xV xW xX xY xZ yA yB yC yD yE yF yG yH yI yJ yK yL yM yN yO yP yQ yR yS yT yU yV yW yX yY yZ zA zB zC zD zF zG zH zI zJ zK zL zM zN zO zP zQ zR zS zU zV zW zX zY zZ wA wB wC wE wF wG wH wI wJ wK wL wM wN wO wP wQ wR wS wT wV wW wX wY wZ uA uB uC uD uE uF uG uH uI uJ uK uL uM uN uO uP uQ uR uS uT uU uV uW uX uY uZ qA qB qC qD qE qF qG qH qI qJ qK qL qM qN qO qP qQ qR qS qT qU qV qW qX qY qZ pA pB pC pD pE pF pG pH pI:Value},h.lo=1→1≤h.next→bN h 29 9 q (rowE tw k cut).length c (kG (rowE tw k cut))→(∀ b,blk q b→1≤b)→
   dc3 (pp G) qq none fX0 ⟨(gW x0 x1 x2 x3 x4 x5 x6 (.int .i64 k) (.int .i64 cut) (.slice q (rowE tw k cut).length c) xA xB xC xD xE xF xG xH xI xJ xK xL xM xN xO xP xQ xR xS xT xU xV xW xX xY xZ yA yB yC yD yE yF yG yH yI yJ yK yL yM yN yO yP yQ yR yS yT yU yV yW yX yY yZ zA zB zC zD zF zG zH zI zJ zK zL zM zN zO zP zQ zR zS zU zV zW zX zY zZ wA wB wC wE wF wG wH wI wJ wK wL wM wN wO wP wQ wR wS wT wV wW wX wY wZ uA uB uC uD uE uF uG uH uI uJ uK uL uM uN uO uP uQ uR uS uT uU uV uW uX uY uZ qA qB qC qD qE qF qG qH qI qJ qK qL qM qN qO qP qQ qR qS qT qU qV qW qX qY qZ pA pB pC pD pE pF pG pH pI),[],h⟩ (@kR ⟨RF G⟩)) :
  dc3 (pp G) qq none fY0 ⟨(gW x0 x1 (.bool tw) x3 x4 x5 x6 (.int .i64 k) (.int .i64 cut) (.slice q (rowR cut k).length c) xA xB xC xD xE xF xG xH xI xJ xK xL xM xN xO xP xQ xR xS xT xU xV xW xX xY xZ yA yB yC yD yE yF yG yH yI yJ yK yL yM yN yO yP yQ yR yS yT yU yV yW yX yY yZ zA zB zC zD zF zG zH zI zJ zK zL zM zN zO zP zQ zR zS zU zV zW zX zY zZ wA wB wC wE wF wG wH wI wJ wK wL wM wN wO wP wQ wR wS wT wV wW wX wY wZ uA uB uC uD uE uF uG uH uI uJ uK uL uM uN uO uP uQ uR uS uT uU uV uW uX uY uZ qA qB qC qD qE qF qG qH qI qJ qK qL qM qN qO qP qQ qR qS qT qU qV qW qX qY qZ pA pB pC pD pE pF pG pH pI),[],h⟩ (@kR ⟨RF G⟩):=by
 have hrl:=yE0 cut k
 rw[wC1]
 cases tw with
 | true=>
  obtain ⟨q1,c1,h1,e1,o1,l1,n1,b1,g1,f1⟩:=dB0 ho (by omega) hl1 hn hq [kT 6 0 1,kT 4 1 0] (by simp)
  have e1':apS 29 9 120 (.slice q (rowR cut k).length c) (some (2,kG [kT 6 0 1,kT 4 1 0])) h=some (.slice q1 (rowR cut k++[kT 6 0 1,kT 4 1 0]).length c1,h1):=e1
  have hln:(kG [kT 6 0 1,kT 4 1 0]).length=2*9:=dJ _
  simp(disch:=first|omega|(apply id;simp only[push_cast];try omega))only[push_cast,simprocAttr,↓sS1,e1']
  exact hs2 h1 q1 c1 l1 n1 o1 b1
 | false=>
  obtain ⟨q1,c1,h1,e1,o1,l1,n1,b1,g1,f1⟩:=dB0 ho (by omega) hl1 hn hq [kT 4 0 0] (by simp)
  have e1':apS 29 9 120 (.slice q (rowR cut k).length c) (some (1,kG [kT 4 0 0])) h=some (.slice q1 (rowR cut k++[kT 4 0 0]).length c1,h1):=e1
  have hln:(kG [kT 4 0 0]).length=1*9:=dJ _
  simp(disch:=first|omega|(apply id;simp only[push_cast];try omega))only[push_cast,simprocAttr,↓mR1,e1']
  exact hs2 h1 q1 c1 l1 n1 o1 b1
structure M2 (h:jA) (qr:Option Addr) (cr:Nat) (l:List Tm) (qw:Option Addr) (cw:Nat) (w:List (List UInt8)):Prop where
 lo:h.lo=1
 nx:1≤h.next
 ro:bN h 29 9 qr l.length cr (kG l)
 rq:∀ b,blk qr b→1≤b
 wo:bN h eS 1 qw w.length cw (txs w)
 wq:∀ b,blk qw b→1≤b
 d:∀ b,blk qr b→¬ blk qw b
theorem M2.app {h:jA} {qr:Option Addr} {cr:Nat} {l:List Tm} {qw:Option Addr} {cw:Nat} {w:List (List UInt8)} (hM:M2 h qr cr l qw cw w) (hl:w.length<1000) (s:List UInt8) :
  ∃ qw' cw' h',apS eS 1 16 (.slice qw w.length cw) (some (1,txs [s])) h=some (.slice qw' (w++[s]).length cw',h')∧M2 h' qr cr l qw' cw' (w++[s]):=by
 obtain ⟨lo,nx,ro,rq,wo,wq,d⟩:=hM
 obtain ⟨a',c',h',e,o',g',b'⟩:=gB0 (by_:=16) wo (by decide) (by omega) (m:=1) (xs:=txs [s]) rfl rfl (by omega)
 rw[← qV1] at o'
 have hln:w.length+1=(w++[s]).length:=by simp
 rw[hln] at e o'
 have hn':=g'.next
 refine ⟨a',c',h',e,by rw[g'.lo,lo],by omega,ro.grew g' d,rq,o',fun b hb=>by rcases b' b hb with h5|h5;exact wq b h5;omega,fun b hb hb2=>?_⟩
 rcases b' b hb2 with h5|h5
 ·exact d b hb h5
 ·have:=(bN.lt ro hb).2;omega
theorem sR1 (s:List UInt8) (σ:jA):bsD (qq.m 30) (slT Tryd.prog 30) 1 [(0,.string (Tx s))] σ=some (Rw true eS 1 (txs [s]),σ):=by kernel_rfl
def wD (k:Nat):List (List UInt8):=(List.range k).map doN
def wU (k:Nat):Nat→List (List UInt8)
 | 0=>[]
 | m+1=>wU k m++[unN (k-m-1)]
theorem mH1 (k:Nat):∀ m,(wU k m).length=m
 | 0=>rfl
 | m+1=>by rw[wU,List.length_append,mH1 k m];rfl
theorem qX2 (p:Nat) (hp:1≤p) (x y:Operand):jE Tryd.prog .add 9 x y (.string (Tx [117,110])) (.string (Tx (List.take ((p:Int).toNat-((p:Int)-1).toNat) (List.drop ((p:Int)-1).toNat [97,98,99,100,101,102]))))=some (.string (Tx (unN (p-1)))):=by
 have ht1:((abcL.drop (p-1)).take 1).length≤1:=by rw[List.length_take];omega
 rw[show (p:Int).toNat-((p:Int)-1).toNat=1 by omega,show ((p:Int)-1).toNat=p-1 by omega]
 exact pM0 (by show 2+((abcL.drop (p-1)).take 1).length≤_;omega)
inductive J3 (k:Nat) (cut:Int) (l:List Tm):Nat→S→Prop
 | mk (i:Nat) (iv:Int) (h:jA) (qr:Option Addr) (cr:Nat) (qw:Option Addr) (cw:Nat) {x0 x1 x2 x3 x4 x5 x6 xA xD xE xF xG xH xI xJ xK xL xM xN xO xP xQ xR xS xT xU xV xW xX xY xZ yA yB yC yD yE yF yG yH yI yJ yK yL yM yN yO yP yQ yR yS yT yU yV yW yX yY yZ zA zB zC zD zF zG zH zI zJ zK zL zM zN zO zP zQ zR zS zU zV zW zX zY zZ wA wB wC wE wF wG wH wI wJ wK wL wM wN wO wP wQ wR wS wT wV wW wX wY wZ uA uB uC uD uE uF uG uH uI uJ uK uL uM uN uO uP uQ uR uS uT uU uV uW uX uY uZ qA qB qC qD qE qF qG qH qI qJ qK qL qM qN qO qP qQ qR qS qT qU qV qW qX qY qZ pA pB pC pD pE pF pG pH pI:Value} (hiv:iv=(i:Int)) (hi:i≤k) (hM:M2 h qr cr l qw cw (wD i)) :
  J3 k cut l (k-i) ⟨(gW x0 x1 x2 x3 x4 x5 x6 (.int .i64 k) (.int .i64 cut) (.slice qr l.length cr) xA (.slice qw (wD i).length cw) (.int .i64 iv) xD xE xF xG xH xI xJ xK xL xM xN xO xP xQ xR xS xT xU xV xW xX xY xZ yA yB yC yD yE yF yG yH yI yJ yK yL yM yN yO yP yQ yR yS yT yU yV yW yX yY yZ zA zB zC zD zF zG zH zI zJ zK zL zM zN zO zP zQ zR zS zU zV zW zX zY zZ wA wB wC wE wF wG wH wI wJ wK wL wM wN wO wP wQ wR wS wT wV wW wX wY wZ uA uB uC uD uE uF uG uH uI uJ uK uL uM uN uO uP uQ uR uS uT uU uV uW uX uY uZ qA qB qC qD qE qF qG qH qI qJ qK qL qM qN qO qP qQ qR qS qT qU qV qW qX qY qZ pA pB pC pD pE pF pG pH pI),[],h⟩
inductive J5 (k c:Nat) (l:List Tm):Nat→S→Prop
 | mk (m:Nat) (iv:Int) (h:jA) (qr:Option Addr) (cr:Nat) (qw:Option Addr) (cw:Nat) (w:List (List UInt8)) {x0 x1 x2 x3 x4 x5 x6 x7 xA xC xE xF xG xH xI xJ xK xL xM xN xO xP xQ xR xS xT xU xV xW xX xY xZ yA yB yC yD yE yF yG yH yI yJ yK yL yM yN yO yP yQ yR yS yT yU yV yW yX yY yZ zA zB zC zD zF zG zH zI zJ zK zL zM zN zO zP zQ zR zS zU zV zW zX zY zZ wA wB wC wE wF wG wH wI wJ wK wL wM wN wO wP wQ wR wS wT wV wW wX wY wZ uA uB uC uD uE uF uG uH uI uJ uK uL uM uN uO uP uQ uR uS uT uU uV uW uX uY uZ qA qB qC qD qE qF qG qH qI qJ qK qL qM qN qO qP qQ qR qS qT qU qV qW qX qY qZ pA pB pC pD pE pF pG pH pI:Value} (hiv:iv=((k-m:Nat):Int)) (hi:m≤k-c) (hw:w=wD k++wU k m) (hM:M2 h qr cr l qw cw w) :
  J5 k c l (k-c-m) ⟨(gW x0 x1 x2 x3 x4 x5 x6 x7 (.int .i64 c) (.slice qr l.length cr) xA (.slice qw w.length cw) xC (.int .i64 iv) xE xF xG xH xI xJ xK xL xM xN xO xP xQ xR xS xT xU xV xW xX xY xZ yA yB yC yD yE yF yG yH yI yJ yK yL yM yN yO yP yQ yR yS yT yU yV yW yX yY yZ zA zB zC zD zF zG zH zI zJ zK zL zM zN zO zP zQ zR zS zU zV zW zX zY zZ wA wB wC wE wF wG wH wI wJ wK wL wM wN wO wP wQ wR wS wT wV wW wX wY wZ uA uB uC uD uE uF uG uH uI uJ uK uL uM uN uO uP uQ uR uS uT uU uV uW uX uY uZ qA qB qC qD qE qF qG qH qI qJ qK qL qM qN qO qP qQ qR qS qT qU qV qW qX qY qZ pA pB pC pD pE pF pG pH pI),[],h⟩
theorem kE2 (k c:Nat) (hk:k≤5) (hck:c≤k) (l:List Tm) {h:jA} {q:Option Addr} {cc:Nat} (hl1:h.lo=1) (hn:1≤h.next) (ho:bN h 29 9 q l.length cc (kG l)) (hq:∀ b,blk q b→1≤b) {x0 x1 x2 x3 x4 x5 x6 xA xB xC xD xE xF xG xH xI xJ xK xL xM xN xO xP xQ xR xS xT xU xV xW xX xY xZ yA yB yC yD yE yF yG yH yI yJ yK yL yM yN yO yP yQ yR yS yT yU yV yW yX yY yZ zA zB zC zD zF zG zH zI zJ zK zL zM zN zO zP zQ zR zS zU zV zW zX zY zZ wA wB wC wE wF wG wH wI wJ wK wL wM wN wO wP wQ wR wS wT wV wW wX wY wZ uA uB uC uD uE uF uG uH uI uJ uK uL uM uN uO uP uQ uR uS uT uU uV uW uX uY uZ qA qB qC qD qE qF qG qH qI qJ qK qL qM qN qO qP qQ qR qS qT qU qV qW qX qY qZ pA pB pC pD pE pF pG pH pI:Value}
  (hs6:∀ (h:jA) (qr:Option Addr) (cr:Nat) (qw:Option Addr) (cw:Nat) {x0 x1 x2 x3 x4 x5 x6 x7 x8 xA xC xD xE xF xG xH xI xJ xK xL xM xN xO xP xQ xR xS xT xU xV xW xX xY xZ yA yB yC yD yE yF yG yH yI yJ yK yL yM yN yO yP yQ yR yS yT yU yV yW yX yY yZ zA zB zC zD zF zG zH zI zJ zK zL zM zN zO zP zQ zR zS zU zV zW zX zY zZ wA wB wC wE wF wG wH wI wJ wK wL wM wN wO wP wQ wR wS wT wV wW wX wY wZ uA uB uC uD uE uF uG uH uI uJ uK uL uM uN uO uP uQ uR uS uT uU uV uW uX uY uZ qA qB qC qD qE qF qG qH qI qJ qK qL qM qN qO qP qQ qR qS qT qU qV qW qX qY qZ pA pB pC pD pE pF pG pH pI:Value},M2 h qr cr l qw cw (wD k++wU k (k-c))→
   dc3 (pp G) qq none oV0 ⟨(gW x0 x1 x2 x3 x4 x5 x6 x7 x8 (.slice qr l.length cr) xA (.slice qw (wD k++wU k (k-c)).length cw) xC xD xE xF xG xH xI xJ xK xL xM xN xO xP xQ xR xS xT xU xV xW xX xY xZ yA yB yC yD yE yF yG yH yI yJ yK yL yM yN yO yP yQ yR yS yT yU yV yW yX yY yZ zA zB zC zD zF zG zH zI zJ zK zL zM zN zO zP zQ zR zS zU zV zW zX zY zZ wA wB wC wE wF wG wH wI wJ wK wL wM wN wO wP wQ wR wS wT wV wW wX wY wZ uA uB uC uD uE uF uG uH uI uJ uK uL uM uN uO uP uQ uR uS uT uU uV uW uX uY uZ qA qB qC qD qE qF qG qH qI qJ qK qL qM qN qO qP qQ qR qS qT qU qV qW qX qY qZ pA pB pC pD pE pF pG pH pI),[],h⟩ (@kR ⟨RF G⟩)) :
  dc3 (pp G) qq none fX0 ⟨(gW x0 x1 x2 x3 x4 x5 x6 (.int .i64 k) (.int .i64 (c:Int)) (.slice q l.length cc) xA xB xC xD xE xF xG xH xI xJ xK xL xM xN xO xP xQ xR xS xT xU xV xW xX xY xZ yA yB yC yD yE yF yG yH yI yJ yK yL yM yN yO yP yQ yR yS yT yU yV yW yX yY yZ zA zB zC zD zF zG zH zI zJ zK zL zM zN zO zP zQ zR zS zU zV zW zX zY zZ wA wB wC wE wF wG wH wI wJ wK wL wM wN wO wP wQ wR wS wT wV wW wX wY wZ uA uB uC uD uE uF uG uH uI uJ uK uL uM uN uO uP uQ uR uS uT uU uV uW uX uY uZ qA qB qC qD qE qF qG qH qI qJ qK qL qM qN qO qP qQ qR qS qT qU qV qW qX qY qZ pA pB pC pD pE pF pG pH pI),[],h⟩ (@kR ⟨RF G⟩):=by
 rw[wB1]
 simp(disch:=first|omega|(apply id;simp only[push_cast];try omega))only[push_cast,simprocAttr]
 refine WD.loop4 (q:=qq) (jW G) (by kernel_rfl) (J3 k c l) ?_ _ _ (J3.mk 0 0 h q cc none 0 rfl (Nat.zero_le _) ⟨hl1,hn,ho,hq,bN.nil _ _ _,fun b hb=>(by obtain ⟨o,s,e⟩:=hb;cases e),fun b _ hb=>(by obtain ⟨o,s,e⟩:=hb;cases e)⟩)
 intro m s1 hI
 cases hI with|mk i iv h qr cr qw cw hiv hi hM=>
 subst hiv
 rw[wA1]
 by_cases hik:(i:Int)<k
 ·have hwl:(wD i).length=i:=by simp[wD]
  obtain ⟨qw',cw',h',e,hM'⟩:=hM.app (by omega) (doN i)
  have hw:wD i++[doN i]=wD (i+1):=by simp[wD,List.range_succ]
  rw[hw] at e hM'
  have hln:(txs [doN i]).length=1*1:=rfl
  simp(disch:=first|omega|(apply id;simp only[push_cast];try omega))only[push_cast,simprocAttr,hik,bB1,↓sR1,e]
  exact ⟨_,by omega,J3.mk (i+1) _ _ qr cr qw' cw' (by first|rfl|omega) (by omega) hM'⟩
 ·have hie:i=k:=by omega
  subst hie
  simp(disch:=first|omega|(apply id;simp only[push_cast];try omega))only[push_cast,simprocAttr,hik]
  rw[uZ1]
  refine WD.loop4 (q:=qq) (jW G) (by kernel_rfl) (J5 i c l) ?_ _ _ (J5.mk 0 i h qr cr qw cw (wD i) rfl (Nat.zero_le _) (by rw[wU,List.append_nil]) hM)
  intro m s1 hI
  cases hI with|mk m iv h qr cr qw cw w hiv hi hw0 hM=>
  subst hiv
  subst hw0
  rw[uY1]
  have hwl:(wD i++wU i m).length<1000:=by rw[List.length_append,mH1];simp[wD];omega
  generalize hp:i-m=p
  by_cases hmc:(c:Int)<(p:Int)
  ·obtain ⟨qw',cw',h',e,hM'⟩:=hM.app hwl (unN (p-1))
   have hw:wD i++wU i m++[unN (p-1)]=wD i++wU i (m+1):=by rw[wU,List.append_assoc,← hp]
   rw[hw] at e hM'
   have hln:(txs [unN (p-1)]).length=1*1:=rfl
   have hcat:=qX2 p (by omega)
   simp(disch:=first|omega|(apply id;simp only[push_cast];try omega))only[push_cast,simprocAttr,hmc,hcat,↓sR1,e]
   exact ⟨_,by omega,J5.mk (m+1) _ _ qr cr qw' cw' _ (by first|rfl|omega) (by omega) rfl hM'⟩
  ·have hme:m=i-c:=by omega
   subst hme
   simp(disch:=first|omega|(apply id;simp only[push_cast];try omega))only[push_cast,simprocAttr,hmc]
   exact hs6 h qr cr qw cw hM
def seqT:List Tm→Tm
 | []=>zT
 | x :: l=>match l with
  | []=>x
  | y :: m=>.mk 12 0 0 [] zE [x,seqT (y :: m)]
theorem uM1 {l:List Tm} {i:Nat} {x:Tm} (h:l[i]?=some x) (hi:i+1<l.length):seqT (l.drop i)=.mk 12 0 0 [] zE [x,seqT (l.drop (i+1))]:=by
 obtain ⟨h1,rfl⟩:=List.getElem?_eq_some_iff.1 h
 rw[List.drop_eq_getElem_cons h1]
 have h2:l.drop (i+1)=l[i+1] :: l.drop (i+1+1):=List.drop_eq_getElem_cons hi
 rw[h2]
 rfl
theorem M2.grew {h h':jA} {qr:Option Addr} {cr:Nat} {l:List Tm} {qw:Option Addr} {cw:Nat} {w:List (List UInt8)} {S:Nat→Prop} (hM:M2 h qr cr l qw cw w) (g:jC h h' S) (h1:∀ b,blk qr b→¬ S b) (h2:∀ b,blk qw b→¬ S b):M2 h' qr cr l qw cw w:=
 ⟨by rw[g.lo];exact hM.lo,by have:=g.next;have:=hM.nx;omega,hM.ro.grew g h1,hM.rq,hM.wo.grew g h2,hM.wq,hM.d⟩
inductive J7 (l:List Tm) (w:List (List UInt8)) (bt:Nat):Nat→S→Prop
 | mk (i:Nat) (iv:Int) (h:jA) (qr:Option Addr) (cr:Nat) (qw:Option Addr) (cw:Nat) {x0 x1 x2 x3 x4 x5 x6 x7 x8 xA xC xD xG xH xI xJ xK xL xM xN xO xP xQ xR xS xT xU xV xW xX xY xZ yA yB yC yD yE yF yG yH yI yJ yK yL yM yN yO yP yQ yR yS yT yU yV yW yX yY yZ zA zB zC zD zF zG zH zI zJ zK zL zM zN zO zP zQ zR zS zU zV zW zX zY zZ wA wB wC wE wF wG wH wI wJ wK wL wM wN wO wP wQ wR wS wT wV wW wX wY wZ uA uB uC uD uE uF uG uH uI uJ uK uL uM uN uO uP uQ uR uS uT uU uV uW uX uY uZ qA qB qC qD qE qF qG qH qI qJ qK qL qM qN qO qP qQ qR qS qT qU qV qW qX qY qZ pA pB pC pD pE pF pG pH pI:Value} (hiv:iv=(i:Int)) (hi:i<l.length) (hM:M2 h qr cr l qw cw w) (ht:cells h bt=some (dC (seqT (l.drop i)),29,false)) (hb1:1≤bt) (hb2:bt<h.next) (hr:¬ blk qr bt) (hw:¬ blk qw bt) :
  J7 l w bt i ⟨(gW x0 x1 x2 x3 x4 x5 x6 x7 x8 (.slice qr l.length cr) xA (.slice qw w.length cw) xC xD (.pointer (some ⟨bt,0,none⟩)) (.int .i64 iv) xG xH xI xJ xK xL xM xN xO xP xQ xR xS xT xU xV xW xX xY xZ yA yB yC yD yE yF yG yH yI yJ yK yL yM yN yO yP yQ yR yS yT yU yV yW yX yY yZ zA zB zC zD zF zG zH zI zJ zK zL zM zN zO zP zQ zR zS zU zV zW zX zY zZ wA wB wC wE wF wG wH wI wJ wK wL wM wN wO wP wQ wR wS wT wV wW wX wY wZ uA uB uC uD uE uF uG uH uI uJ uK uL uM uN uO uP uQ uR uS uT uU uV uW uX uY uZ qA qB qC qD qE qF qG qH qI qJ qK qL qM qN qO qP qQ qR qS qT qU qV qW qX qY qZ pA pB pC pD pE pF pG pH pI),[],h⟩
theorem M2.row {h:jA} {qr:Option Addr} {cr:Nat} {l:List Tm} {qw:Option Addr} {cw:Nat} {w:List (List UInt8)} (hM:M2 h qr cr l qw cw w) (hl:l≠[]):∃ b m,qr=some ⟨b,0,none⟩∧cells h b=some (kG l,29,m)∧1≤b∧b<h.next:=by
 rcases hM.ro.hat with ⟨_,h0,_⟩|⟨b,m,rfl,h1,h2,h3,_⟩
 ·exact absurd (List.length_eq_zero_iff.1 h0) hl
 ·exact ⟨b,m,rfl,h3,hM.rq b ⟨0,none,rfl⟩,h2⟩
theorem sW1 (x:Tm):(dC x).take 9=dC x:=List.take_of_length_le (by rw[dS];exact Nat.le_refl _)
theorem sX1 (x:Tm):(dC x).drop 9=[]:=List.drop_of_length_le (by rw[dS];exact Nat.le_refl _)
theorem tA0 (x:Tm):(Value.agg ⟨dC x⟩).cells.toList=dC x:=rfl
attribute [push_cast] sW1 sX1 dS wU0 tA0
theorem kD2 (l:List Tm) (hl0:l≠[]) (hl:l.length<1000) (w:List (List UInt8)) {h0:jA} {qr:Option Addr} {cr:Nat} {qw:Option Addr} {cw:Nat} (hM:M2 h0 qr cr l qw cw w) {x0 x1 x2 x3 x4 x5 x6 x7 x8 xA xC xD xE xF xG xH xI xJ xK xL xM xN xO xP xQ xR xS xT xU xV xW xX xY xZ yA yB yC yD yE yF yG yH yI yJ yK yL yM yN yO yP yQ yR yS yT yU yV yW yX yY yZ zA zB zC zD zF zG zH zI zJ zK zL zM zN zO zP zQ zR zS zU zV zW zX zY zZ wA wB wC wE wF wG wH wI wJ wK wL wM wN wO wP wQ wR wS wT wV wW wX wY wZ uA uB uC uD uE uF uG uH uI uJ uK uL uM uN uO uP uQ uR uS uT uU uV uW uX uY uZ qA qB qC qD qE qF qG qH qI qJ qK qL qM qN qO qP qQ qR qS qT qU qV qW qX qY qZ pA pB pC pD pE pF pG pH pI:Value}
  (hs8:∀ (h:jA) (qr:Option Addr) (cr:Nat) (qw:Option Addr) (cw bt:Nat) {x0 x1 x2 x3 x4 x5 x6 x7 x8 x9 xA xC xD xF xG xH xI xJ xK xL xM xN xO xP xQ xR xS xT xU xV xW xX xY xZ yA yB yC yD yE yF yG yH yI yJ yK yL yM yN yO yP yQ yR yS yT yU yV yW yX yY yZ zA zB zC zD zF zG zH zI zJ zK zL zM zN zO zP zQ zR zS zU zV zW zX zY zZ wA wB wC wE wF wG wH wI wJ wK wL wM wN wO wP wQ wR wS wT wV wW wX wY wZ uA uB uC uD uE uF uG uH uI uJ uK uL uM uN uO uP uQ uR uS uT uU uV uW uX uY uZ qA qB qC qD qE qF qG qH qI qJ qK qL qM qN qO qP qQ qR qS qT qU qV qW qX qY qZ pA pB pC pD pE pF pG pH pI:Value},M2 h qr cr l qw cw w→cells h bt=some (dC (seqT l),29,false)→1≤bt→bt<h.next→¬ blk qw bt→
   dc3 (pp G) qq none oU0 ⟨(gW x0 x1 x2 x3 x4 x5 x6 x7 x8 x9 xA (.slice qw w.length cw) xC xD (.pointer (some ⟨bt,0,none⟩)) xF xG xH xI xJ xK xL xM xN xO xP xQ xR xS xT xU xV xW xX xY xZ yA yB yC yD yE yF yG yH yI yJ yK yL yM yN yO yP yQ yR yS yT yU yV yW yX yY yZ zA zB zC zD zF zG zH zI zJ zK zL zM zN zO zP zQ zR zS zU zV zW zX zY zZ wA wB wC wE wF wG wH wI wJ wK wL wM wN wO wP wQ wR wS wT wV wW wX wY wZ uA uB uC uD uE uF uG uH uI uJ uK uL uM uN uO uP uQ uR uS uT uU uV uW uX uY uZ qA qB qC qD qE qF qG qH qI qJ qK qL qM qN qO qP qQ qR qS qT qU qV qW qX qY qZ pA pB pC pD pE pF pG pH pI),[],h⟩ (@kR ⟨RF G⟩)) :
  dc3 (pp G) qq none oV0 ⟨(gW x0 x1 x2 x3 x4 x5 x6 x7 x8 (.slice qr l.length cr) xA (.slice qw w.length cw) xC xD xE xF xG xH xI xJ xK xL xM xN xO xP xQ xR xS xT xU xV xW xX xY xZ yA yB yC yD yE yF yG yH yI yJ yK yL yM yN yO yP yQ yR yS yT yU yV yW yX yY yZ zA zB zC zD zF zG zH zI zJ zK zL zM zN zO zP zQ zR zS zU zV zW zX zY zZ wA wB wC wE wF wG wH wI wJ wK wL wM wN wO wP wQ wR wS wT wV wW wX wY wZ uA uB uC uD uE uF uG uH uI uJ uK uL uM uN uO uP uQ uR uS uT uU uV uW uX uY uZ qA qB qC qD qE qF qG qH qI qJ qK qL qM qN qO qP qQ qR qS qT qU qV qW qX qY qZ pA pB pC pD pE pF pG pH pI),[],h0⟩ (@kR ⟨RF G⟩):=by
 obtain ⟨b,mo,rfl,hcb,hb1,hb2⟩:=hM.row hl0
 have hlp:0<l.length:=List.length_pos_iff.2 hl0
 have hlo:=hM.lo
 obtain ⟨n,hn⟩:∃ n,l.length=n+1:=⟨l.length-1,by omega⟩
 obtain ⟨x,hx⟩:=kO (l:=l) (i:=n) (by omega)
 have hpt:=bP0 hx
 have hle:n*9+9≤(kG l).length:=by rw[dJ];omega
 have hnn:((l.length:Nat):Int)-1=(n:Int):=by omega
 have hnl:(n:Int)<l.length:=by omega
 have hdx:seqT (l.drop n)=x:=by
  obtain ⟨h1,rfl⟩:=List.getElem?_eq_some_iff.1 hx
  rw[List.drop_eq_getElem_cons h1,List.drop_of_length_le (by omega)]
  rfl
 rw[uX1]
 simp(disch:=first|omega|(apply id;simp only[push_cast];try omega))only[push_cast,simprocAttr,hlo,hcb,hnn,hnl,Int.toNat_natCast,hpt,hle]
 refine WD.loop4 (q:=qq) (jW G) (by kernel_rfl) (J7 l w h0.next) ?_ _ _ (J7.mk n n _ (some ⟨b,0,none⟩) cr qw cw rfl (by omega) (hM.grew (S:=fun _=>False) ((jC.add _ _ _).put' _ _ (Nat.le_refl _)) (fun _ _ h=>h) (fun _ _ h=>h)) ?_ ?_ ?_ ?_ ?_)
 ·intro i s1 hI
  cases hI with|mk iv h qr cr qw cw hiv hi hM ht hb1 hb2 hr hw=>
  subst hiv
  rw[uW1]
  have hlo:=hM.lo
  by_cases hi0:0<(i:Int)
  ·obtain ⟨b,mo,rfl,hcb,hb3,hb4⟩:=hM.row hl0
   obtain ⟨j,hj⟩:∃ j,i=j+1:=⟨i-1,by omega⟩
   obtain ⟨x,hx⟩:=kO (l:=l) (i:=j) (by omega)
   have hpt:=bP0 hx
   have hle:j*9+9≤(kG l).length:=by rw[dJ];omega
   have hjj:(i:Int)-1=(j:Int):=by omega
   have hjl:(j:Int)<l.length:=by omega
   have hsq:=uM1 hx (by omega)
   rw[← hj] at hsq
   have hbb:b≠h0.next:=fun e=>hr ⟨0,none,by rw[e]⟩
   generalize hT:seqT (l.drop i)=T at *
   generalize hT2:seqT (l.drop j)=T2 at *
   have hfold:Value.agg ⟨[.int .i64 12,.int .i64 0,.int .i64 0,.string (Tx []),.int .i64 0,.int .i64 0,.string (Tx []),.slice none 0 0,Rw true 29 2 (kG [x,T])]⟩=.agg ⟨dC T2⟩:=by rw[hsq];rfl
   simp(disch:=first|omega|(apply id;simp only[push_cast];try omega))only[push_cast,simprocAttr,hi0,hlo,hcb,hjj,hjl,Int.toNat_natCast,hpt,hle,ht,↓sT1]
   have gp:∀ X,jC h (h.put h0.next X) (fun k=>k=h0.next):=fun X=>jC.put _ _ _ fun _=>rfl
   refine ⟨j,by omega,J7.mk j _ _ (some ⟨b,0,none⟩) cr qw cw rfl (by omega) (hM.grew (gp _) (fun k hk e=>hr (by rw[← e];exact hk)) (fun k hk e=>hw (by rw[← e];exact hk))) ?_ hb1 hb2 hr hw⟩
   rw[hT2]
   refine (jO _ _ _ _).trans ?_
   rw[hsq]
   rfl
  ·obtain rfl:i=0:=by omega
   simp(disch:=first|omega|(apply id;simp only[push_cast];try omega))only[push_cast,simprocAttr]
   rw[List.drop_zero] at ht
   exact hs8 h qr cr qw cw h0.next hM ht hb1 hb2 hw
 ·rw[hdx]
  exact jO _ _ _ _
 ·have:=hM.nx
  omega
 ·simp only[jI,jB]
  omega
 ·rintro ⟨o,s,e⟩
  cases e
  omega
 ·intro hk
  have:=(bN.lt hM.wo hk).2
  omega
def eI0 (T:Tm):List Value:=[.slice none 0 0,.int .i64 2,Rw true 29 1 (kG [T]),.int .i64 0]
def coT (T:Tm):Co:=⟨[],2,[T],0⟩
theorem mX0 {T:Tm} (hz:zeB T=true) (n:Nat) (σ:jA):FzV Tryd.prog n σ (.agg ⟨eI0 T⟩) (coV (coT T)):=by
 refine .agg (.cons (.nil (size:=1) rfl (by decide)) (.cons (.id rfl) (.cons (.row ?_) (.cons (.id rfl) .nil))))
 exact lU0 (by rw[zeBs,zeBs,hz];rfl)
def lW0 (c:Co) (want:List (List UInt8)):Nat→Cf→List (List UInt8)→Bool
 | 0,f,got=>decide (got=want)&&decide (f.t.k=0)
 | n+1,f,got=>
  doB c f&&(if (doF c f 0).e≠0 then decide (got=want)&&decide (f.t.k=0)
   else if (doF c f 0).is=true then tlB c (doF c f 0).f (doF c f 0).ek&&((rB0 c (doF c f 0).f (doF c f 0).ek 0).is&&lW0 c want n (rB0 c (doF c f 0).f (doF c f 0).ek 0).f (got++[(doF c f 0).en]))
   else lW0 c want n (doF c f 0).f got)
structure M9 (h:jA) (bc bf:Nat) (T:Tm) (f:Cf) (qg:Option Addr) (cg:Nat) (got:List (List UInt8)) (qw:Option Addr) (cw:Nat) (want:List (List UInt8)):Prop where
 lo:h.lo=1
 nx:1≤h.next
 c:cells h bc=some (eI0 T,33,false)
 f:cells h bf=some (cfC f,36,false)
 c1:1≤bc
 f1:1≤bf
 c2:bc<h.next
 f2:bf<h.next
 cf:bc≠bf
 go:bN h eS 1 qg got.length cg (txs got)
 gq:∀ b,blk qg b→1≤b∧b≠bc∧b≠bf
 wo:bN h eS 1 qw want.length cw (txs want)
 wq:∀ b,blk qw b→1≤b∧b≠bc∧b≠bf∧¬ blk qg b
theorem M9.grew {h h':jA} {bc bf:Nat} {T:Tm} {f:Cf} {qg:Option Addr} {cg:Nat} {got:List (List UInt8)} {qw:Option Addr} {cw:Nat} {want:List (List UInt8)} (hM:M9 h bc bf T f qg cg got qw cw want) (g:jC h h' (fun _=>False)):M9 h' bc bf T f qg cg got qw cw want:=
 ⟨by rw[g.lo];exact hM.lo,by have:=g.next;have:=hM.nx;omega,g.cellsE hM.c hM.c2 id,g.cellsE hM.f hM.f2 id,hM.c1,hM.f1,by have:=g.next;have:=hM.c2;omega,by have:=g.next;have:=hM.f2;omega,hM.cf,hM.go.grew g (fun _ _ h=>h),hM.gq,hM.wo.grew g (fun _ _ h=>h),hM.wq⟩
theorem M9.put {h:jA} {bc bf:Nat} {T:Tm} {f:Cf} {qg:Option Addr} {cg:Nat} {got:List (List UInt8)} {qw:Option Addr} {cw:Nat} {want:List (List UInt8)} (hM:M9 h bc bf T f qg cg got qw cw want) (f':Cf):M9 (h.put bf (O (cfC f') 36 false)) bc bf T f' qg cg got qw cw want:=by
 have g:jC h (h.put bf (O (cfC f') 36 false)) (fun k=>k=bf):=jC.put _ _ _ fun _=>rfl
 exact ⟨hM.lo,hM.nx,g.cellsE hM.c hM.c2 hM.cf,jO _ _ _ _,hM.c1,hM.f1,hM.c2,hM.f2,hM.cf,hM.go.grew g (fun b hb e=>(hM.gq b hb).2.2 e),hM.gq,hM.wo.grew g (fun b hb e=>(hM.wq b hb).2.2.1 e),hM.wq⟩
theorem M9.app {h:jA} {bc bf:Nat} {T:Tm} {f:Cf} {qg:Option Addr} {cg:Nat} {got:List (List UInt8)} {qw:Option Addr} {cw:Nat} {want:List (List UInt8)} (hM:M9 h bc bf T f qg cg got qw cw want) (hl:got.length<1000) (s:List UInt8) :
  ∃ qg' cg' h',apS eS 1 16 (.slice qg got.length cg) (some (1,txs [s])) h=some (.slice qg' (got++[s]).length cg',h')∧M9 h' bc bf T f qg' cg' (got++[s]) qw cw want∧jC h h' (blk qg):=by
 have hlo:=hM.lo
 have hnx:=hM.nx
 obtain ⟨a',c',h',e,o',g',b'⟩:=gB0 (by_:=16) hM.go (by decide) (by omega) (m:=1) (xs:=txs [s]) rfl rfl (by omega)
 rw[← qV1] at o'
 have hln:got.length+1=(got++[s]).length:=by simp
 rw[hln] at e o'
 have hn':=g'.next
 have hc2:=hM.c2
 have hf2:=hM.f2
 refine ⟨a',c',h',e,⟨by rw[g'.lo,hlo],by omega,g'.cellsE hM.c hc2 (fun hb=>(hM.gq _ hb).2.1 rfl),g'.cellsE hM.f hf2 (fun hb=>(hM.gq _ hb).2.2 rfl),hM.c1,hM.f1,by omega,by omega,hM.cf,o',fun b hb=>?_,hM.wo.grew g' (fun b hb e=>(hM.wq b hb).2.2.2 e),fun b hb=>⟨(hM.wq b hb).1,(hM.wq b hb).2.1,(hM.wq b hb).2.2.1,fun hb2=>?_⟩⟩,g'⟩
 ·rcases b' b hb with h5|h5
  ·exact hM.gq b h5
  ·exact ⟨by omega,by omega,by omega⟩
 ·rcases b' b hb2 with h5|h5
  ·exact (hM.wq b hb).2.2.2 h5
  ·have:=(bN.lt hM.wo hb).2;omega
theorem zC1 {h:jA} {bc bf:Nat} {T:Tm} {f:Cf} {qg:Option Addr} {cg:Nat} {got:List (List UInt8)} {qw:Option Addr} {cw:Nat} {want:List (List UInt8)} (hM:M9 h bc bf T f qg cg got qw cw want) (hgl:got.length<1000) (he:(decide (got=want)&&decide (f.t.k=0))=true) {x0 x1 x2 x3 x4 x5 x6 x7 x8 x9 xA xC xD xE xF xG xJ xK xL xM xN xO xP xQ xR xS xT xU xV xW xX xY xZ yA yB yC yD yE yF yG yH yI yJ yK yL yM yN yO yP yQ yR yS yT yU yV yW yX yY yZ zA zB zC zD zF zG zH zI zJ zK zL zM zN zO zP zQ zR zS zU zV zW zX zY zZ wA wB wC wE wF wG wH wI wJ wK wL wM wN wO wP wQ wR wS wT wV wW wX wY wZ uA uB uC uD uE uF uG uH uI uJ uK uL uM uN uO uP uQ uR uS uT uU uV uW uX uY uZ qA qB qC qD qE qF qG qH qI qJ qK qL qM qN qO qP qQ qR qS qT qU qV qW qX qY qZ pA pB pC pD pE pF pG pH pI:Value} :
  dc3 (pp G) qq none dV0 ⟨(gW x0 x1 x2 x3 x4 x5 x6 x7 x8 x9 xA (.slice qw want.length cw) xC xD xE xF xG (.pointer (some ⟨bf,0,none⟩)) (.slice qg got.length cg) xJ xK xL xM xN xO xP xQ xR xS xT xU xV xW xX xY xZ yA yB yC yD yE yF yG yH yI yJ yK yL yM yN yO yP yQ yR yS yT yU yV yW yX yY yZ zA zB zC zD zF zG zH zI zJ zK zL zM zN zO zP zQ zR zS zU zV zW zX zY zZ wA wB wC wE wF wG wH wI wJ wK wL wM wN wO wP wQ wR wS wT wV wW wX wY wZ uA uB uC uD uE uF uG uH uI uJ uK uL uM uN uO uP uQ uR uS uT uU uV uW uX uY uZ qA qB qC qD qE qF qG qH qI qJ qK qL qM qN qO qP qQ qR qS qT qU qV qW qX qY qZ pA pB pC pD pE pF pG pH pI),[],h⟩ (@kR ⟨RF G⟩):=by
 rw[Bool.and_eq_true,decide_eq_true_eq,decide_eq_true_eq] at he
 obtain ⟨rfl,hk⟩:=he
 have hlo:=hM.lo
 have hcf:=hM.f
 have hbf:h.lo≤bf:=by have:=hM.f1;omega
 have hwf:=oB1 G got got (by omega) (by omega)
 rw[decide_eq_true rfl] at hwf
 rw[sF0]
 simp(disch:=first|omega|(apply id;simp only[push_cast];try omega))only[push_cast,simprocAttr]
 refine jD.lend (cap:=[]) (args:=[_,_]) hwf (.cons (bN.fz hM.go rfl (by decide) (by omega) (.ids (qT1 _ _)) (fun b hb=>by have:=(hM.gq b hb).1;omega)) (.cons (bN.fz hM.wo rfl (by decide) (by omega) (.ids (qT1 _ _)) (fun b hb=>by have:=(hM.wq b hb).1;omega)) .nil)) rfl ?_
 simp(disch:=first|omega|(apply id;simp only[push_cast];try omega))only[push_cast,simprocAttr,hlo,hcf,hbf,hk]
 exact .id rfl
inductive J9 (c:Co) (T:Tm) (bc bf:Nat) (want:List (List UInt8)):Nat→S→Prop
 | mk (i:Nat) (iv:Int) (h:jA) (f:Cf) (qg:Option Addr) (cg:Nat) (got:List (List UInt8)) (qw:Option Addr) (cw:Nat) {x0 x1 x2 x3 x4 x5 x6 x7 x8 x9 xA xC xD xE xF xK xL xM xN xO xP xQ xR xS xT xU xV xW xX xY xZ yA yB yC yD yE yF yG yH yI yJ yK yL yM yN yO yP yQ yR yS yT yU yV yW yX yY yZ zA zB zC zD zF zG zH zI zJ zK zL zM zN zO zP zQ zR zS zU zV zW zX zY zZ wA wB wC wE wF wG wH wI wJ wK wL wM wN wO wP wQ wR wS wT wV wW wX wY wZ uA uB uC uD uE uF uG uH uI uJ uK uL uM uN uO uP uQ uR uS uT uU uV uW uX uY uZ qA qB qC qD qE qF qG qH qI qJ qK qL qM qN qO qP qQ qR qS qT qU qV qW qX qY qZ pA pB pC pD pE pF pG pH pI:Value} (hiv:iv=(i:Int)) (hi:i≤60) (hgl:got.length≤i) (hM:M9 h bc bf T f qg cg got qw cw want) (hp:lW0 c want (60-i) f got=true) :
  J9 c T bc bf want (60-i) ⟨(gW x0 x1 x2 x3 x4 x5 x6 x7 x8 x9 xA (.slice qw want.length cw) xC xD xE xF (.pointer (some ⟨bc,0,none⟩)) (.pointer (some ⟨bf,0,none⟩)) (.slice qg got.length cg) (.int .i64 iv) xK xL xM xN xO xP xQ xR xS xT xU xV xW xX xY xZ yA yB yC yD yE yF yG yH yI yJ yK yL yM yN yO yP yQ yR yS yT yU yV yW yX yY yZ zA zB zC zD zF zG zH zI zJ zK zL zM zN zO zP zQ zR zS zU zV zW zX zY zZ wA wB wC wE wF wG wH wI wJ wK wL wM wN wO wP wQ wR wS wT wV wW wX wY wZ uA uB uC uD uE uF uG uH uI uJ uK uL uM uN uO uP uQ uR uS uT uU uV uW uX uY uZ qA qB qC qD qE qF qG qH qI qJ qK qL qM qN qO qP qQ qR qS qT qU qV qW qX qY qZ pA pB pC pD pE pF pG pH pI),[],h⟩
mutual
theorem wZ1 (n:Nat) (hn:0<n):∀ x:Tm,scL n (dC x)=true
 | .mk k a b s e []=>by rw[dC];rfl
 | .mk k a b s e (x :: m)=>by
  rw[dC]
  have h1:=jM0 (wZ1 n hn x) (dF0 n hn m)
  simp only[scL,Ev.sc,Rw,h1,Bool.and_true,Bool.true_and,Nat.blt_eq]
  exact hn
theorem dF0 (n:Nat) (hn:0<n):∀ l:List Tm,scL n (kG l)=true
 | []=>rfl
 | x :: l=>by rw[kG];exact jM0 (wZ1 n hn x) (dF0 n hn l)
end
theorem mW0 (n:Nat) (hn:0<n) (T:Tm):Ev.sc n (.agg ⟨eI0 T⟩)=true:=by
 have h1:=dF0 n hn [T]
 simp only[eI0,scL,Ev.sc,Rw,h1,Bool.and_true,Bool.true_and,Nat.blt_eq]
 exact hn
theorem loop9 (T:Tm) (hz:zeB T=true) (bc bf:Nat) (want:List (List UInt8)) {h:jA} {f:Cf} {qw:Option Addr} {cw:Nat} (hM:M9 h bc bf T f none 0 [] qw cw want) (hp:lW0 (coT T) want 60 f []=true) {x0 x1 x2 x3 x4 x5 x6 x7 x8 x9 xA xC xD xE xF xK xL xM xN xO xP xQ xR xS xT xU xV xW xX xY xZ yA yB yC yD yE yF yG yH yI yJ yK yL yM yN yO yP yQ yR yS yT yU yV yW yX yY yZ zA zB zC zD zF zG zH zI zJ zK zL zM zN zO zP zQ zR zS zU zV zW zX zY zZ wA wB wC wE wF wG wH wI wJ wK wL wM wN wO wP wQ wR wS wT wV wW wX wY wZ uA uB uC uD uE uF uG uH uI uJ uK uL uM uN uO uP uQ uR uS uT uU uV uW uX uY uZ qA qB qC qD qE qF qG qH qI qJ qK qL qM qN qO qP qQ qR qS qT qU qV qW qX qY qZ pA pB pC pD pE pF pG pH pI:Value} :
  WD (pp G) qq.H none (.loop kP1) ⟨(gW x0 x1 x2 x3 x4 x5 x6 x7 x8 x9 xA (.slice qw want.length cw) xC xD xE xF (.pointer (some ⟨bc,0,none⟩)) (.pointer (some ⟨bf,0,none⟩)) (.slice none 0 0) (.int .i64 0) xK xL xM xN xO xP xQ xR xS xT xU xV xW xX xY xZ yA yB yC yD yE yF yG yH yI yJ yK yL yM yN yO yP yQ yR yS yT yU yV yW yX yY yZ zA zB zC zD zF zG zH zI zJ zK zL zM zN zO zP zQ zR zS zU zV zW zX zY zZ wA wB wC wE wF wG wH wI wJ wK wL wM wN wO wP wQ wR wS wT wV wW wX wY wZ uA uB uC uD uE uF uG uH uI uJ uK uL uM uN uO uP uQ uR uS uT uU uV uW uX uY uZ qA qB qC qD qE qF qG qH qI qJ qK qL qM qN qO qP qQ qR qS qT qU qV qW qX qY qZ pA pB pC pD pE pF pG pH pI),[],h⟩ (@kR ⟨jU 8 (jQ (fun s1=>dc3 (pp G) qq none dV0 s1 (@kR ⟨RF G⟩)) (RF G))⟩):=by
 refine WD.loop4 (q:=qq) (jW G) (by kernel_rfl) (J9 (coT T) T bc bf want) ?_ _ _ (J9.mk 0 0 h f none 0 [] qw cw rfl (Nat.zero_le _) (Nat.le_refl _) hM hp)
 clear hM hp
 intro m s1 hI
 cases hI with|mk i iv h f qg cg got qw cw hiv hi hgl hM hp=>
 subst hiv
 rw[uU1]
 by_cases hik:(i:Int)<60
 ·obtain ⟨n,hn⟩:∃ n,60-i=n+1:=⟨60-i-1,by omega⟩
  have hn2:60-(i+1)=n:=by omega
  rw[hn,lW0,Bool.and_eq_true] at hp
  obtain ⟨hdo,hp⟩:=hp
  have h1:=do_f G (coT T) f 0 (gP1 hdo)
  generalize hr:doF (coT T) f 0=r at *
  obtain ⟨rf,ren,rek,ris,re⟩:=r
  unfold dvV at h1
  dsimp only at h1 hp
  have hlo:=hM.lo
  have hnx:=hM.nx
  have hcc:=hM.c
  have hcf:=hM.f
  have hb1:=hM.c1
  have hb2:=hM.f1
  have hb3:=hM.c2
  have hb4:=hM.f2
  have hb5:=hM.cf
  have hclo:h.lo≤bc:=by omega
  have hflo:h.lo≤bf:=by omega
  unfold eI0 at hcc
  simp(disch:=first|omega|(apply id;simp only[push_cast];try omega))only[push_cast,simprocAttr,hik,hlo,hcc,hcf,hclo,hflo]
  refine jD.data (cap:=[]) (args:=[_,_,_]) h1 (.cons (mX0 hz _ _) (.cons (.id (cB0 _ (by decide) _)) (.cons (.id rfl) .nil))) ?_ ?_ ?_
  ·have e1:=mW0 h.lo (by omega) T
   have e2:=cB0 h.lo (by omega) f
   unfold eI0 at e1
   rw[List.append_nil]
   simp only[scL,e1,e2,Bool.true_and]
   rfl
  ·exact nO1 h.lo (by omega) ⟨rf,ren,rek,ris,re⟩
  by_cases he:re=0
  ·subst he
   rw[if_neg (fun h=>h rfl)] at hp
   cases ris with
   | false=>
    rw[if_neg (by simp)] at hp
    simp(disch:=first|omega|(apply id;simp only[push_cast];try omega))only[push_cast,simprocAttr,hlo,hcc,hcf,hclo,hflo]
    exact ⟨_,by omega,J9.mk (i+1) _ _ rf qg cg got qw cw (by first|rfl|omega) (by omega) (by omega) ((hM.grew (by (repeat (first|assumption|exact jC.refl _ _|refine jC.put' ?_ _ _ (by first|omega|(simp only[push_cast];omega))|refine jC.add' ?_ _)))).put rf) (by rw[hn2];exact hp)⟩
   | true=>
    rw[if_pos rfl,Bool.and_eq_true,Bool.and_eq_true] at hp
    obtain ⟨htl,hti,hp⟩:=hp
    have h2:=mP1 G (coT T) rf rek 0 (mO1 htl)
    generalize rB0 (coT T) rf rek 0=t at *
    obtain ⟨tf,ten,tek,tev,tis⟩:=t
    have hti:tis=true:=hti
    subst hti
    unfold tvV at h2
    dsimp only at h2 hp
    have hln:(txs [ren]).length=1*1:=rfl
    simp(disch:=first|omega|(apply id;simp only[push_cast];try omega))only[push_cast,simprocAttr,hlo,hcc,hcf,hclo,hflo,↓sR1]
    obtain ⟨τ,hτ⟩:∃ τ,τ=((((h.add (O [.int .i64 0,.int .i64 0,.int .i64 0,.string (Tx []),.int .i64 0,.int .i64 0,.string (Tx []),.slice none 0 0,.slice none 0 0,.slice none 0 0,.slice none 0 0,.int .i64 0,.int .i64 0] 36 false)).add (O [.string (Tx []),.int .i64 0,.int .i64 0] 39 false)).put h.next (O (cfC rf) 36 false)).put (h.next+1) (O [.string (Tx ren),.int .i64 rek,.int .i64 0] 39 false)).put bf (O (cfC rf) 36 false):=⟨_,rfl⟩
    rw[← hτ]
    have hMτ:M9 τ bc bf T rf qg cg got qw cw want:=by rw[hτ];exact (hM.grew (by (repeat (first|assumption|exact jC.refl _ _|refine jC.put' ?_ _ _ (by first|omega|(simp only[push_cast];omega))|refine jC.add' ?_ _)))).put rf
    have hnτ:τ.next=h.next+1+1:=by rw[hτ];simp only[jI,jB]
    have heτ:cells τ (h.next+1)=some ([.string (Tx ren),.int .i64 rek,.int .i64 0],39,false):=by rw[hτ];exact (jH _ _ _ (by omega)).trans (jO _ _ _ _)
    obtain ⟨qg',cg',h',e,hM',g'⟩:=hMτ.app (by omega) ren
    have hlt:∀ b,blk qg b→b<h.next:=fun b hb=>(bN.lt hM.go hb).2
    have heh:cells h' (h.next+1)=some ([.string (Tx ren),.int .i64 rek,.int .i64 0],39,false):=g'.cellsE heτ (by omega) (fun hb=>by have:=hlt _ hb;omega)
    have hn':=g'.next
    have hlo':=hM'.lo
    have hcc':=hM'.c
    have hcf':=hM'.f
    unfold eI0 at hcc'
    have hclo':h'.lo≤bc:=by omega
    have hflo':h'.lo≤bf:=by omega
    clear hτ
    simp(disch:=first|omega|(apply id;simp only[push_cast];try omega))only[push_cast,simprocAttr,e,hlo',hcc',hcf',hclo',hflo',heh]
    refine jD.data (cap:=[]) (args:=[_,_,_,_]) h2 (.cons (mX0 hz _ _) (.cons (.id (cB0 _ (by decide) _)) (.cons (.id rfl) (.cons (.id rfl) .nil)))) ?_ ?_ ?_
    ·have e1:=mW0 h'.lo (by omega) T
     have e2:=cB0 h'.lo (by omega) rf
     unfold eI0 at e1
     rw[List.append_nil]
     simp only[scL,e1,e2,Bool.true_and]
     rfl
    ·exact mK1 h'.lo (by omega) ⟨tf,ten,tek,tev,true⟩
    simp(disch:=first|omega|(apply id;simp only[push_cast];try omega))only[push_cast,simprocAttr,e,hlo',hcc',hcf',hclo',hflo',heh]
    have hgl':(got++[ren]).length≤i+1:=by rw[List.length_append];simp;omega
    exact ⟨_,by omega,J9.mk (i+1) _ _ tf qg' cg' (got++[ren]) qw cw (by first|rfl|omega) (by omega) hgl' ((hM'.grew (by (repeat (first|assumption|exact jC.refl _ _|refine jC.put' ?_ _ _ (by first|omega|(simp only[push_cast];omega))|refine jC.add' ?_ _)))).put tf) (by rw[hn2];exact hp)⟩
  ·rw[if_pos he] at hp
   simp(disch:=first|omega|(apply id;simp only[push_cast];try omega))only[push_cast,simprocAttr,hlo,hcc,hcf,hclo,hflo,he]
   exact zC1 G (hM.grew (by (repeat (first|assumption|exact jC.refl _ _|refine jC.put' ?_ _ _ (by first|omega|(simp only[push_cast];omega))|refine jC.add' ?_ _)))) (by omega) hp
 ·have hie:i=60:=by omega
  subst hie
  simp(disch:=first|omega|(apply id;simp only[push_cast];try omega))only[push_cast,simprocAttr,hik]
  exact zC1 G hM (by omega) hp
theorem kC2 (l:List Tm) (T:Tm) (hz:zeB T=true) (hsm:smT T=true) (want:List (List UInt8)) (hp:lW0 (coT T) want 60 (uX0 (coT T)) []=true) {h:jA} {qr:Option Addr} {cr:Nat} {qw:Option Addr} {cw bt:Nat} (hM:M2 h qr cr l qw cw want) (ht:cells h bt=some (dC T,29,false)) (hb1:1≤bt) (hb2:bt<h.next) (hb3:¬ blk qw bt) {x0 x1 x2 x3 x4 x5 x6 x7 x8 x9 xA xC xD xF xG xH xI xJ xK xL xM xN xO xP xQ xR xS xT xU xV xW xX xY xZ yA yB yC yD yE yF yG yH yI yJ yK yL yM yN yO yP yQ yR yS yT yU yV yW yX yY yZ zA zB zC zD zF zG zH zI zJ zK zL zM zN zO zP zQ zR zS zU zV zW zX zY zZ wA wB wC wE wF wG wH wI wJ wK wL wM wN wO wP wQ wR wS wT wV wW wX wY wZ uA uB uC uD uE uF uG uH uI uJ uK uL uM uN uO uP uQ uR uS uT uU uV uW uX uY uZ qA qB qC qD qE qF qG qH qI qJ qK qL qM qN qO qP qQ qR qS qT qU qV qW qX qY qZ pA pB pC pD pE pF pG pH pI:Value} :
  dc3 (pp G) qq none oU0 ⟨(gW x0 x1 x2 x3 x4 x5 x6 x7 x8 x9 xA (.slice qw want.length cw) xC xD (.pointer (some ⟨bt,0,none⟩)) xF xG xH xI xJ xK xL xM xN xO xP xQ xR xS xT xU xV xW xX xY xZ yA yB yC yD yE yF yG yH yI yJ yK yL yM yN yO yP yQ yR yS yT yU yV yW yX yY yZ zA zB zC zD zF zG zH zI zJ zK zL zM zN zO zP zQ zR zS zU zV zW zX zY zZ wA wB wC wE wF wG wH wI wJ wK wL wM wN wO wP wQ wR wS wT wV wW wX wY wZ uA uB uC uD uE uF uG uH uI uJ uK uL uM uN uO uP uQ uR uS uT uU uV uW uX uY uZ qA qB qC qD qE qF qG qH qI qJ qK qL qM qN qO qP qQ qR qS qT qU qV qW qX qY qZ pA pB pC pD pE pF pG pH pI),[],h⟩ (@kR ⟨RF G⟩):=by
 have h0:=bK1 G (coT T) ⟨by show 0<_;omega,by show 1<_;omega,by simp only[coT,smTs,hsm,Bool.and_true]⟩
 generalize hf:uX0 (coT T)=f at *
 have hlo:=hM.lo
 have hnx:=hM.nx
 have hbt:h.lo≤bt:=by omega
 rw[uV1]
 simp(disch:=first|omega|(apply id;simp only[push_cast];try omega))only[push_cast,simprocAttr,hlo,ht,hbt,↓sU1]
 refine jD.data (cap:=[]) (args:=[_]) h0 (.cons (mX0 hz _ _) .nil) ?_ ?_ ?_
 ·have e1:=mW0 h.lo (by omega) T
  unfold eI0 at e1
  rw[List.append_nil]
  rw[bZ,jN]
  simp only[scL,e1,Bool.true_and]
 ·rw[bZ,jN]
  exact cB0 h.lo (by omega) f
 simp(disch:=first|omega|(apply id;simp only[push_cast];try omega))only[push_cast,simprocAttr,hlo,ht,hbt]
 refine loop9 G T hz h.next (h.next+1) want ⟨by simp only[jN,bZ];exact hlo,by simp only[jB,jI];omega,?_,jO _ _ _ _,by omega,by omega,by simp only[jB,jI];omega,by simp only[jB,jI];omega,by omega,bN.nil _ _ _,fun b hb=>by (obtain ⟨o,s,e⟩:=hb;cases e),hM.wo.grew (S:=fun _=>False) (by (repeat (first|assumption|exact jC.refl _ _|refine jC.put' ?_ _ _ (by first|omega|(simp only[push_cast];omega))|refine jC.add' ?_ _))) (fun _ _ h=>h),fun b hb=>?_⟩ hp
 ·refine (jH _ _ _ (by omega)).trans ((gD _ _ (by simp only[jB,jI];omega)).trans (jO _ _ _ _))
 ·have h5:=(bN.lt hM.wo hb).2
  have h6:=hM.wq b hb
  exact ⟨h6,by omega,by omega,fun ⟨o,s,e⟩=>by cases e⟩
def fS0 (k c:Nat) (tw:Bool):Bool:=zeB (seqT (rowE tw k c))&&smT (seqT (rowE tw k c))&&lW0 (coT (seqT (rowE tw k c))) (wD k++wU k (k-c)) 60 (uX0 (coT (seqT (rowE tw k c)))) []
end
end Go.Proofs.YtklapbhlhjdijaaDoor
namespace Go.Proofs.YtklapbhlhjdijaaDoor
open Go Go.RowKit Go.Ev Go.Dv
noncomputable section
set_option maxRecDepth 1000000
variable (G:Nat×Nat)
def wC0 (k:Nat):Bool:=(List.range (k+2)).all fun c=>fS0 (k+1) c true&&fS0 (k+1) c false
theorem yG2:wC0 0=true:=by kernel_rfl
theorem yF2:wC0 1=true:=by kernel_rfl
theorem yE2:wC0 2=true:=by kernel_rfl
theorem yD2:wC0 3=true:=by kernel_rfl
theorem yC2:wC0 4=true:=by kernel_rfl
theorem eB1 (k c:Nat) (tw:Bool) (h1:1≤k) (h5:k≤5) (hc:c≤k):fS0 k c tw=true:=by
 have go:∀ j,wC0 j=true→∀ c,c≤j+1→∀ tw,fS0 (j+1) c tw=true:=fun j hj c hc tw=>by
  unfold wC0 at hj
  rw[List.all_eq_true] at hj
  have:=hj c (List.mem_range.2 (by omega))
  rw[Bool.and_eq_true] at this
  cases tw with
  | true=>exact this.1
  | false=>exact this.2
 rcases (show k=1∨k=2∨k=3∨k=4∨k=5 by omega) with rfl|rfl|rfl|rfl|rfl
 ·exact go 0 yG2 c hc tw
 ·exact go 1 yF2 c hc tw
 ·exact go 2 yE2 c hc tw
 ·exact go 3 yD2 c hc tw
 ·exact go 4 yC2 c hc tw
theorem last_l (n accept:Int) (tw:Bool):jK (pp G) H0 3 [.int .i64 n,.int .i64 accept,.bool tw] (.bool true):=by
 have hw1:=eT0 G n 5 (by decide) (by decide)
 have hb1:=cF0 (a:=n) (n:=5) (by decide)
 obtain ⟨k',hk'⟩:∃ k':Nat,cG0 n 5=k':=⟨(cG0 n 5).toNat,by omega⟩
 rw[hk'] at hw1 hb1
 obtain ⟨k,hk⟩:∃ k:Nat,k=k'+1:=⟨_,rfl⟩
 have hw2:=eT0 G accept ((k:Int)+1) (by omega) (by omega)
 have hb2:=cF0 (a:=accept) (n:=(k:Int)+1) (by omega)
 obtain ⟨c,hc⟩:∃ c:Nat,cG0 accept ((k:Int)+1)=c:=⟨(cG0 accept ((k:Int)+1)).toNat,by omega⟩
 rw[hc] at hw2 hb2
 have hok:=eB1 k c tw (by omega) (by omega) (by omega)
 unfold fS0 at hok
 rw[Bool.and_eq_true,Bool.and_eq_true] at hok
 obtain ⟨⟨hz,hsm⟩,hp⟩:=hok
 have hkn:(1:Int)+(k':Int)=(k:Int):=by omega
 have hre:(rowE tw k c).length<1000:=by
  have:=yE0 (c:Int) k
  unfold rowE
  rw[List.length_append]
  split<;>simp<;>omega
 have hrn:rowE tw k c≠[]:=by
  unfold rowE
  split<;>simp
 refine cE G fir3 (by kernel_rfl) (mF1 ..) fun hlo=>?_;rw[zL2]
 simp(disch:=first|omega|(apply id;simp only[push_cast];try omega))only[push_cast,simprocAttr]
 refine dK (eC1 G) ?_
 simp(disch:=first|omega|(apply id;simp only[push_cast];try omega))only[push_cast,simprocAttr]
 refine dK (hw1) ?_
 simp(disch:=first|omega|(apply id;simp only[push_cast];try omega))only[push_cast,simprocAttr,hkn]
 refine dK (hw2) ?_
 simp(disch:=first|omega|(apply id;simp only[push_cast];try omega))only[push_cast,simprocAttr]
 refine loop0 G k (by omega) c tw rfl (by decide) ?_
 intro h q cc
 intros
 rename_i l1 n1 o1 b1
 refine kF2 G k (by omega) c tw l1 n1 o1 b1 ?_
 clear l1 n1 o1 b1
 intro h q cc
 intros
 rename_i l1 n1 o1 b1
 refine kE2 G k c (by omega) (by omega) _ l1 n1 o1 b1 ?_
 clear l1 n1 o1 b1
 intro h qr cr qw cw
 intros
 rename_i hM
 refine kD2 G _ hrn hre _ hM ?_
 clear hM
 intro h qr cr qw cw bt
 intros
 rename_i hM ht hb1 hb2 hb3
 exact kC2 G _ _ hz hsm _ hp hM ht hb1 hb2 hb3
end
end Go.Proofs.YtklapbhlhjdijaaDoor
