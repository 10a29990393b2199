/-
  A part of the proof: what the program's functions hand back,as theorems. No condition but those that each theorem names.
-/
import Derived.Test.YtgeakofgklcipaaExa
import Derived.Test.YtgeakofgklcipaaEve
import Derived.Test.YtgeakofgklcipaaExb
set_option linter.unusedSimpArgs false
set_option linter.unusedVariables false
namespace Go.Proofs.Ytgeakofgklcipaa
open Go Go.RowKit Go.Ev Go.Dv
noncomputable section
set_option maxRecDepth 100000
def W (a:Int):Int:=IntKind.i64.wrap a
def In (a:Int):Prop:=-9223372036854775808≤a∧a≤9223372036854775807
theorem W_in {a:Int} (h:In a):W a=a:=by
 unfold In at h
 unfold W;rw[IntKind.wrap_i64];omega
theorem H0p:0<H0.lo:=by rw[qN];omega
theorem H0q:0<H0.next:=by rw[jL0];omega
abbrev eI:Nat:=3
def ivs (l:List Int):List Value:=l.map (Value.int .i64)
def ivV (l:List Int):Value:=Rw false eI l.length (ivs l)
theorem gZ0 (l:List Int):(ivs l).length=l.length:=by simp[ivs]
theorem gX0 (n:Nat):∀ l:List Int,scL n (ivs l)=true
 | []=>rfl
 | x :: l=>by
  have:=gX0 n l
  simp only[ivs] at this
  simp[ivs,scL,sc,this]
theorem tI1 (n:Nat) (hn:0<n) (k:Nat) (f:Bool) (l:List Int):sc n (Rw f eI k (ivs l))=true:=by
 have:=gX0 n l
 simp[sc,Rw,scL,this,hn]
theorem dH0 (n:Nat) (hn:0<n) (l:List Int):sc n (ivV l)=true:=tI1 n hn ..
theorem gY0:∀ l:List Int,(ivs l).all one=true
 | []=>rfl
 | x :: l=>by
  have:=gY0 l
  simp only[ivs] at this
  simp[ivs,one]
theorem yS0 {l:List Int} {i:Nat} (h:i<l.length):(ivs l)[i]?=some (.int .i64 (l.getD i 0)):=by simp[ivs,h]
theorem eZ0 (a b:List Int):ivs (a++b)=ivs a++ivs b:=by simp[ivs]
abbrev eS:Nat:=9
def nss (l:List (List UInt8)):List Value:=l.map fun s=>Value.string (Tx s)
def nsV (l:List (List UInt8)):Value:=Rw false eS l.length (nss l)
theorem zC2 (l:List (List UInt8)):(nss l).length=l.length:=by simp[nss]
theorem zH0 (n:Nat):∀ l:List (List UInt8),scL n (nss l)=true
 | []=>rfl
 | x :: l=>by
  have:=zH0 n l
  simp only[nss] at this
  simp[nss,scL,sc,this]
theorem dC0 (n:Nat) (hn:0<n) (k:Nat) (f:Bool) (l:List (List UInt8)):sc n (Rw f eS k (nss l))=true:=by
 have:=zH0 n l
 simp[sc,Rw,scL,this,hn]
theorem lF0 (n:Nat) (hn:0<n) (l:List (List UInt8)):sc n (nsV l)=true:=dC0 n hn ..
theorem qA0 {l:List (List UInt8)} {i:Nat} (h:i<l.length):(nss l)[i]?=some (.string (Tx (l.getD i []))):=by simp[nss,h]
theorem gH1 (a b:List (List UInt8)):nss (a++b)=nss a++nss b:=by simp[nss]
abbrev eB:Nat:=4
def bvs (l:List Bool):List Value:=l.map Value.bool
def bvV (l:List Bool):Value:=Rw false eB l.length (bvs l)
theorem jK0 (l:List Bool):(bvs l).length=l.length:=by simp[bvs]
theorem yB0 (n:Nat):∀ l:List Bool,scL n (bvs l)=true
 | []=>rfl
 | x :: l=>by
  have:=yB0 n l
  simp only[bvs] at this
  simp[bvs,scL,sc,this]
theorem tT1 (n:Nat) (hn:0<n) (k:Nat) (f:Bool) (l:List Bool):sc n (Rw f eB k (bvs l))=true:=by
 have:=yB0 n l
 simp[sc,Rw,scL,this,hn]
theorem pB0:∀ l:List Bool,(bvs l).all one=true
 | []=>rfl
 | x :: l=>by
  have:=pB0 l
  simp only[bvs] at this
  simp[bvs,one]
theorem uH0 {l:List Bool} {i:Nat} (h:i<l.length):(bvs l)[i]?=some (.bool (l.getD i false)):=by simp[bvs,h]
@[push_cast]theorem sc_nil (n a b:Nat):sc n (.slice none a b)=true:=rfl
theorem bS2 (n:Nat) (l:List Value):sc n (.agg ⟨l⟩)=scL n l:=rfl
theorem bR2 (n:Nat) (k:IntKind) (i:Int):sc n (.int k i)=true:=rfl
theorem bP2 (n:Nat) (s:ByteArray):sc n (.string s)=true:=rfl
attribute [push_cast] bS2 bR2 bP2
@[push_cast]theorem sc_fn (n f:Nat):sc n (.func (.func f) #[] #[])=true:=rfl
attribute [push_cast] gZ0 gX0 tI1 dH0 gY0 zC2 zH0 dC0 lF0 jK0 yB0 tT1 pB0 fP2 fQ2 Int.toNat_zero Int.toNat_one Int.natCast_one qN jL0
def jR (a n:Int):Int:=if a.tmod n<0 then a.tmod n+n else a.tmod n
theorem qO {a n:Int} (hn:0<n):0≤jR a n∧jR a n<n:=by
 have h1:(a.tmod n).natAbs=a.natAbs % n.natAbs:=Int.natAbs_tmod a n
 have h2:a.natAbs % n.natAbs<n.natAbs:=Nat.mod_lt _ (by omega)
 unfold jR
 split<;>omega
inductive Ex where
 | mk (k:Int) (n:Int) (s:List UInt8) (l:List Ex)
abbrev eE:Nat:=31
mutual
def exC:Ex→List Value
 | .mk k n s l=>[.int .i64 k,.int .i64 n,.string (Tx s),Rw false eE l.length (kN l)]
def kN:List Ex→List Value
 | []=>[]
 | x :: l=>exC x++kN l
end
def exV (x:Ex):Value:=.agg ⟨exC x⟩
def exsV (l:List Ex):Value:=Rw false eE l.length (kN l)
theorem eV2 (k:Int) (n:Int) (s:List UInt8) (l:List Ex):exC (.mk k n s l)=[.int .i64 k,.int .i64 n,.string (Tx s),Rw false eE l.length (kN l)]:=rfl
theorem wN0 (x:Ex):(exC x).length=4:=by cases x;simp[exC]
theorem zP0:∀ l:List Ex,(kN l).length=l.length*4
 | []=>rfl
 | x :: l=>by rw[kN,List.length_append,wN0,zP0 l,List.length_cons];omega
theorem dY1:∀ x:Ex,(exC x).all one=true
 | .mk k n s l=>by simp[exC,one,Rw]
theorem fN0:∀ l:List Ex,(kN l).all one=true
 | []=>rfl
 | x :: l=>by rw[kN,List.all_append,dY1 x,fN0 l];rfl
mutual
theorem dX1 (nn:Nat) (hn:0<nn):∀ x:Ex,scL nn (exC x)=true
 | .mk k n s l=>by
  have:=qG0 nn hn l
  simp[exC,scL,Ev.sc,Rw,hn, *]
theorem qG0 (nn:Nat) (hn:0<nn):∀ l:List Ex,scL nn (kN l)=true
 | []=>rfl
 | x :: l=>by
  rw[kN]
  exact jZ fun v hv=>(List.mem_append.1 hv).elim (jY (dX1 nn hn x) v) (jY (qG0 nn hn l) v)
end
theorem sL0 (n:Nat) (hn:0<n) (x:Ex):Ev.sc n (exV x)=true:=dX1 n hn x
theorem bI0 (n:Nat) (hn:0<n) (k:Nat) (f:Bool) (l:List Ex):Ev.sc n (Rw f eE k (kN l))=true:=by
 have:=qG0 n hn l
 simp[Ev.sc,Rw,scL,this,hn]
theorem kR2 (n:Nat) (hn:0<n) (l:List Ex):Ev.sc n (exsV l)=true:=bI0 n hn ..
theorem fO0:∀ (a b:List Ex),kN (a++b)=kN a++kN b
 | [],b=>rfl
 | x :: a,b=>by rw[List.cons_append,kN,fO0 a b,kN,List.append_assoc]
theorem tL1 (x:Ex):kN [x]=exC x:=by rw[kN,kN,List.append_nil]
theorem mB0:∀ (l:List Ex) (i:Nat),(kN l).drop (i*4)=kN (l.drop i)
 | l,0=>by simp
 | [],i+1=>by simp[kN]
 | x :: l,i+1=>by
  rw[kN,List.drop_succ_cons,← mB0 l i,Nat.add_mul,Nat.one_mul,Nat.add_comm,← List.drop_drop,List.drop_append_of_le_length (by rw[wN0];exact Nat.le_refl _),show (exC x).drop 4=[] from List.drop_of_length_le (by rw[wN0];exact Nat.le_refl _),List.nil_append]
theorem mA0 {l:List Ex} {i:Nat} {x:Ex} (h:l[i]?=some x):((kN l).drop (i*4)).take 4=exC x:=by
 have hi:i<l.length:=(List.getElem?_eq_some_iff.1 h).1
 have hd:l.drop i=x :: l.drop (i+1):=by rw[List.drop_eq_getElem_cons hi];congr 1;exact (List.getElem?_eq_some_iff.1 h).2
 rw[mB0,hd,kN,List.take_append_of_le_length (by rw[wN0];exact Nat.le_refl _),List.take_of_length_le (by rw[wN0];exact Nat.le_refl _)]
theorem nN1 (x:Ex):Value.agg ⟨exC x⟩=exV x:=rfl
theorem dW1 (x:Ex):(exV x).cells.toList=exC x:=rfl
theorem nO1 (x:Ex):(exC x).take 4=exC x:=List.take_of_length_le (by rw[wN0];exact Nat.le_refl _)
attribute [push_cast] eV2 zP0 nN1 qG0 sL0 kR2 bI0 dX1 fN0 dY1 dW1 nO1 wN0
def Ex.k:Ex→Int | .mk k _ _ _=>k
def Ex.n:Ex→Int | .mk _ n _ _=>n
def Ex.s:Ex→List UInt8 | .mk _ _ s _=>s
def Ex.l:Ex→List Ex | .mk _ _ _ l=>l
theorem Ex.k_mk (k n:Int) (s:List UInt8) (l:List Ex):Ex.k (.mk k n s l)=k:=rfl
theorem Ex.n_mk (k n:Int) (s:List UInt8) (l:List Ex):Ex.n (.mk k n s l)=n:=rfl
theorem Ex.s_mk (k n:Int) (s:List UInt8) (l:List Ex):Ex.s (.mk k n s l)=s:=rfl
theorem Ex.l_mk (k n:Int) (s:List UInt8) (l:List Ex):Ex.l (.mk k n s l)=l:=rfl
theorem sM0 (x:Ex):exC x=[.int .i64 x.k,.int .i64 x.n,.string (Tx x.s),Rw false eE x.l.length (kN x.l)]:=by cases x;rfl
theorem eU2 (x:Ex):Value.agg ⟨[.int .i64 x.k,.int .i64 x.n,.string (Tx x.s),Rw false eE x.l.length (kN x.l)]⟩=exV x:=by cases x;rfl
attribute [push_cast] Ex.k_mk Ex.n_mk Ex.s_mk Ex.l_mk eU2
inductive Tm where
 | mk (k:Int) (a:Int) (b:Int) (s:List UInt8) (e:Ex) (l:List Tm)
abbrev etm:Nat:=34
mutual
def tmC:Tm→List Value
 | .mk k a b s e l=>[.int .i64 k,.int .i64 a,.int .i64 b,.string (Tx s),.int .i64 e.k,.int .i64 e.n,.string (Tx e.s),Rw false eE e.l.length (kN e.l),Rw false etm l.length (uY l)]
def uY:List Tm→List Value
 | []=>[]
 | x :: l=>tmC x++uY l
end
def tmV (x:Tm):Value:=.agg ⟨tmC x⟩
def tmsV (l:List Tm):Value:=Rw false etm l.length (uY l)
theorem jN0 (k:Int) (a:Int) (b:Int) (s:List UInt8) (e:Ex) (l:List Tm):tmC (.mk k a b s e l)=[.int .i64 k,.int .i64 a,.int .i64 b,.string (Tx s),.int .i64 e.k,.int .i64 e.n,.string (Tx e.s),Rw false eE e.l.length (kN e.l),Rw false etm l.length (uY l)]:=rfl
theorem gD (x:Tm):(tmC x).length=9:=by cases x;simp[tmC]
theorem cC:∀ l:List Tm,(uY l).length=l.length*9
 | []=>rfl
 | x :: l=>by rw[uY,List.length_append,gD,cC l,List.length_cons];omega
theorem qS0:∀ x:Tm,(tmC x).all one=true
 | .mk k a b s e l=>by simp[tmC,one,Rw]
theorem uL0:∀ l:List Tm,(uY l).all one=true
 | []=>rfl
 | x :: l=>by rw[uY,List.all_append,qS0 x,uL0 l];rfl
mutual
theorem kF1 (nn:Nat) (hn:0<nn):∀ x:Tm,scL nn (tmC x)=true
 | .mk k a b s e l=>by
  have:=bJ nn hn l
  simp[tmC,scL,Ev.sc,Rw,hn,qG0, *]
theorem bJ (nn:Nat) (hn:0<nn):∀ l:List Tm,scL nn (uY l)=true
 | []=>rfl
 | x :: l=>by
  rw[uY]
  exact jZ fun v hv=>(List.mem_append.1 hv).elim (jY (kF1 nn hn x) v) (jY (bJ nn hn l) v)
end
theorem bC (n:Nat) (hn:0<n) (x:Tm):Ev.sc n (tmV x)=true:=kF1 n hn x
theorem sV1 (n:Nat) (hn:0<n) (k:Nat) (f:Bool) (l:List Tm):Ev.sc n (Rw f etm k (uY l))=true:=by
 have:=bJ n hn l
 simp[Ev.sc,Rw,scL,this,hn]
theorem kC1 (n:Nat) (hn:0<n) (l:List Tm):Ev.sc n (tmsV l)=true:=sV1 n hn ..
theorem uM0:∀ (a b:List Tm),uY (a++b)=uY a++uY b
 | [],b=>rfl
 | x :: a,b=>by rw[List.cons_append,uY,uM0 a b,uY,List.append_assoc]
theorem kE1 (x:Tm):uY [x]=tmC x:=by rw[uY,uY,List.append_nil]
theorem iL0:∀ (l:List Tm) (i:Nat),(uY l).drop (i*9)=uY (l.drop i)
 | l,0=>by simp
 | [],i+1=>by simp[uY]
 | x :: l,i+1=>by
  rw[uY,List.drop_succ_cons,← iL0 l i,Nat.add_mul,Nat.one_mul,Nat.add_comm,← List.drop_drop,List.drop_append_of_le_length (by rw[gD];exact Nat.le_refl _),show (tmC x).drop 9=[] from List.drop_of_length_le (by rw[gD];exact Nat.le_refl _),List.nil_append]
theorem zX0:∀ (l:List Tm) (i:Nat),(uY l).take (i*9)=uY (l.take i)
 | l,0=>by simp[uY]
 | [],i+1=>by simp[uY]
 | x :: l,i+1=>by
  rw[uY,List.take_succ_cons,uY,← zX0 l i,Nat.add_mul,Nat.one_mul,Nat.add_comm,List.take_append,gD,List.take_of_length_le (by rw[gD];omega),Nat.add_sub_cancel_left]
theorem bY {l:List Tm} {i:Nat} {x:Tm} (h:l[i]?=some x):((uY l).drop (i*9)).take 9=tmC x:=by
 have hi:i<l.length:=(List.getElem?_eq_some_iff.1 h).1
 have hd:l.drop i=x :: l.drop (i+1):=by rw[List.drop_eq_getElem_cons hi];congr 1;exact (List.getElem?_eq_some_iff.1 h).2
 rw[iL0,hd,uY,List.take_append_of_le_length (by rw[gD];exact Nat.le_refl _),List.take_of_length_le (by rw[gD];exact Nat.le_refl _)]
theorem iS1 (x:Tm):Value.agg ⟨tmC x⟩=tmV x:=rfl
theorem kD1 (x:Tm):(tmV x).cells.toList=tmC x:=rfl
theorem uN0 (x:Tm):(tmC x).take 9=tmC x:=List.take_of_length_le (by rw[gD];exact Nat.le_refl _)
theorem jQ2 (x:Tm) (l:List Tm):(uY (x :: l)).take 9=tmC x:=bY (l:=x :: l) (i:=0) rfl
theorem jP2 (x y:Tm) (l:List Tm):((uY (x :: y :: l)).drop 9).take 9=tmC y:=bY (l:=x :: y :: l) (i:=1) rfl
attribute [push_cast] jN0 cC iS1 bJ bC kC1 sV1 kF1 uL0 qS0 kD1 uN0 gD jQ2 jP2
def Tm.k:Tm→Int | .mk k _ _ _ _ _=>k
def Tm.a:Tm→Int | .mk _ a _ _ _ _=>a
def Tm.b:Tm→Int | .mk _ _ b _ _ _=>b
def Tm.s:Tm→List UInt8 | .mk _ _ _ s _ _=>s
def Tm.e:Tm→Ex | .mk _ _ _ _ e _=>e
def Tm.l:Tm→List Tm | .mk _ _ _ _ _ l=>l
theorem Tm.k_mk (k a b:Int) (s:List UInt8) (e:Ex) (l:List Tm):Tm.k (.mk k a b s e l)=k:=rfl
theorem Tm.l_mk (k a b:Int) (s:List UInt8) (e:Ex) (l:List Tm):Tm.l (.mk k a b s e l)=l:=rfl
inductive Pr where
 | mk (k:Int) (n:List UInt8) (t:List UInt8) (e:Ex) (l:List Pr)
abbrev epr:Nat:=77
mutual
def prC:Pr→List Value
 | .mk k n t e l=>[.int .i64 k,.string (Tx n),.string (Tx t),.int .i64 e.k,.int .i64 e.n,.string (Tx e.s),Rw false eE e.l.length (kN e.l),Rw false epr l.length (prCs l)]
def prCs:List Pr→List Value
 | []=>[]
 | x :: l=>prC x++prCs l
end
def prV (x:Pr):Value:=.agg ⟨prC x⟩
def prsV (l:List Pr):Value:=Rw false epr l.length (prCs l)
theorem cJ2 (k:Int) (n:List UInt8) (t:List UInt8) (e:Ex) (l:List Pr):prC (.mk k n t e l)=[.int .i64 k,.string (Tx n),.string (Tx t),.int .i64 e.k,.int .i64 e.n,.string (Tx e.s),Rw false eE e.l.length (kN e.l),Rw false epr l.length (prCs l)]:=rfl
theorem bN (x:Pr):(prC x).length=8:=by cases x;simp[prC]
theorem rS0:∀ l:List Pr,(prCs l).length=l.length*8
 | []=>rfl
 | x :: l=>by rw[prCs,List.length_append,bN,rS0 l,List.length_cons];omega
theorem wQ2:∀ x:Pr,(prC x).all one=true
 | .mk k n t e l=>by simp[prC,one,Rw]
mutual
theorem lA0 (nn:Nat) (hn:0<nn):∀ x:Pr,scL nn (prC x)=true
 | .mk k n t e l=>by
  have:=eS0 nn hn l
  simp[prC,scL,Ev.sc,Rw,hn,qG0, *]
theorem eS0 (nn:Nat) (hn:0<nn):∀ l:List Pr,scL nn (prCs l)=true
 | []=>rfl
 | x :: l=>by
  rw[prCs]
  exact jZ fun v hv=>(List.mem_append.1 hv).elim (jY (lA0 nn hn x) v) (jY (eS0 nn hn l) v)
end
theorem yY1 (n:Nat) (hn:0<n) (x:Pr):Ev.sc n (prV x)=true:=lA0 n hn x
theorem cI2 (x:Pr):prCs [x]=prC x:=by rw[prCs,prCs,List.append_nil]
theorem iZ0:∀ (l:List Pr) (i:Nat),(prCs l).drop (i*8)=prCs (l.drop i)
 | l,0=>by simp
 | [],i+1=>by simp[prCs]
 | x :: l,i+1=>by
  rw[prCs,List.drop_succ_cons,← iZ0 l i,Nat.add_mul,Nat.one_mul,Nat.add_comm,← List.drop_drop,List.drop_append_of_le_length (by rw[bN];exact Nat.le_refl _),show (prC x).drop 8=[] from List.drop_of_length_le (by rw[bN];exact Nat.le_refl _),List.nil_append]
theorem qY0 {l:List Pr} {i:Nat} {x:Pr} (h:l[i]?=some x):((prCs l).drop (i*8)).take 8=prC x:=by
 have hi:i<l.length:=(List.getElem?_eq_some_iff.1 h).1
 have hd:l.drop i=x :: l.drop (i+1):=by rw[List.drop_eq_getElem_cons hi];congr 1;exact (List.getElem?_eq_some_iff.1 h).2
 rw[iZ0,hd,prCs,List.take_append_of_le_length (by rw[bN];exact Nat.le_refl _),List.take_of_length_le (by rw[bN];exact Nat.le_refl _)]
theorem lN1 (x:Pr):Value.agg ⟨prC x⟩=prV x:=rfl
theorem yZ1 (x:Pr):(prV x).cells.toList=prC x:=rfl
theorem lO1 (x:Pr):(prC x).take 8=prC x:=List.take_of_length_le (by rw[bN];exact Nat.le_refl _)
theorem wP2 (x:Pr) (l:List Pr):(prCs (x :: l)).take 8=prC x:=qY0 (l:=x :: l) (i:=0) rfl
theorem wO2 (x y:Pr) (l:List Pr):((prCs (x :: y :: l)).drop 8).take 8=prC y:=qY0 (l:=x :: y :: l) (i:=1) rfl
attribute [push_cast] cJ2 rS0 lN1 eS0 yY1 lA0 wQ2 yZ1 lO1 bN wP2 wO2
inductive Ra where
 | mk (k:Int) (n:Int) (l:List Ra)
abbrev era:Nat:=133
mutual
def raC:Ra→List Value
 | .mk k n l=>[.int .i64 k,.int .i64 n,Rw false era l.length (raCs l)]
def raCs:List Ra→List Value
 | []=>[]
 | x :: l=>raC x++raCs l
end
def raV (x:Ra):Value:=.agg ⟨raC x⟩
def rasV (l:List Ra):Value:=Rw false era l.length (raCs l)
theorem cF2 (k:Int) (n:Int) (l:List Ra):raC (.mk k n l)=[.int .i64 k,.int .i64 n,Rw false era l.length (raCs l)]:=rfl
theorem kC0 (x:Ra):(raC x).length=3:=by cases x;simp[raC]
theorem rR0:∀ l:List Ra,(raCs l).length=l.length*3
 | []=>rfl
 | x :: l=>by rw[raCs,List.length_append,kC0,rR0 l,List.length_cons];omega
theorem wJ2:∀ x:Ra,(raC x).all one=true
 | .mk k n l=>by simp[raC,one,Rw]
mutual
theorem yW1 (nn:Nat) (hn:0<nn):∀ x:Ra,scL nn (raC x)=true
 | .mk k n l=>by
  have:=gN0 nn hn l
  simp[raC,scL,Ev.sc,Rw,hn, *]
theorem gN0 (nn:Nat) (hn:0<nn):∀ l:List Ra,scL nn (raCs l)=true
 | []=>rfl
 | x :: l=>by
  rw[raCs]
  exact jZ fun v hv=>(List.mem_append.1 hv).elim (jY (yW1 nn hn x) v) (jY (gN0 nn hn l) v)
end
theorem cE2 (n:Nat) (hn:0<n) (x:Ra):Ev.sc n (raV x)=true:=yW1 n hn x
theorem tD1 (n:Nat) (hn:0<n) (k:Nat) (f:Bool) (l:List Ra):Ev.sc n (Rw f era k (raCs l))=true:=by
 have:=gN0 n hn l
 simp[Ev.sc,Rw,scL,this,hn]
theorem wI2 (n:Nat) (hn:0<n) (l:List Ra):Ev.sc n (rasV l)=true:=tD1 n hn ..
theorem iY0:∀ (l:List Ra) (i:Nat),(raCs l).drop (i*3)=raCs (l.drop i)
 | l,0=>by simp
 | [],i+1=>by simp[raCs]
 | x :: l,i+1=>by
  rw[raCs,List.drop_succ_cons,← iY0 l i,Nat.add_mul,Nat.one_mul,Nat.add_comm,← List.drop_drop,List.drop_append_of_le_length (by rw[kC0];exact Nat.le_refl _),show (raC x).drop 3=[] from List.drop_of_length_le (by rw[kC0];exact Nat.le_refl _),List.nil_append]
theorem gM0 {l:List Ra} {i:Nat} {x:Ra} (h:l[i]?=some x):((raCs l).drop (i*3)).take 3=raC x:=by
 have hi:i<l.length:=(List.getElem?_eq_some_iff.1 h).1
 have hd:l.drop i=x :: l.drop (i+1):=by rw[List.drop_eq_getElem_cons hi];congr 1;exact (List.getElem?_eq_some_iff.1 h).2
 rw[iY0,hd,raCs,List.take_append_of_le_length (by rw[kC0];exact Nat.le_refl _),List.take_of_length_le (by rw[kC0];exact Nat.le_refl _)]
theorem lL1 {l:List Ra} {i j:Nat} {x:Ra} {v:Value} (h:l[i]?=some x) (hj:j<3) (hv:(raC x)[j]?=some v):(raCs l)[i*3+j]?=some v:=by
 have h1:=gM0 h
 rw[← h1,List.getElem?_take_of_lt hj,List.getElem?_drop] at hv
 exact hv
theorem lK1 (x:Ra):Value.agg ⟨raC x⟩=raV x:=rfl
theorem yV1 (x:Ra):(raV x).cells.toList=raC x:=rfl
attribute [push_cast] cF2 rR0 lK1 gN0 cE2 wI2 tD1 yW1 wJ2 yV1 kC0
inductive Rb where
 | mk (k:Int) (a:Int) (b:Int) (e:List Ra) (l:List Rb)
abbrev erb:Nat:=38
mutual
def rbC:Rb→List Value
 | .mk k a b e l=>[.int .i64 k,.int .i64 a,.int .i64 b,Rw false era e.length (raCs e),Rw false erb l.length (rbCs l)]
def rbCs:List Rb→List Value
 | []=>[]
 | x :: l=>rbC x++rbCs l
end
def rbV (x:Rb):Value:=.agg ⟨rbC x⟩
def rbsV (l:List Rb):Value:=Rw false erb l.length (rbCs l)
theorem cD2 (k:Int) (a:Int) (b:Int) (e:List Ra) (l:List Rb):rbC (.mk k a b e l)=[.int .i64 k,.int .i64 a,.int .i64 b,Rw false era e.length (raCs e),Rw false erb l.length (rbCs l)]:=rfl
theorem cH (x:Rb):(rbC x).length=5:=by cases x;simp[rbC]
theorem rQ0:∀ l:List Rb,(rbCs l).length=l.length*5
 | []=>rfl
 | x :: l=>by rw[rbCs,List.length_append,cH,rQ0 l,List.length_cons];omega
theorem nV0:∀ x:Rb,(rbC x).all one=true
 | .mk k a b e l=>by simp[rbC,one,Rw]
mutual
theorem yU1 (nn:Nat) (hn:0<nn):∀ x:Rb,scL nn (rbC x)=true
 | .mk k a b e l=>by
  have:=gL0 nn hn l
  simp[rbC,scL,Ev.sc,Rw,hn,gN0, *]
theorem gL0 (nn:Nat) (hn:0<nn):∀ l:List Rb,scL nn (rbCs l)=true
 | []=>rfl
 | x :: l=>by
  rw[rbCs]
  exact jZ fun v hv=>(List.mem_append.1 hv).elim (jY (yU1 nn hn x) v) (jY (gL0 nn hn l) v)
end
theorem cA2 (n:Nat) (hn:0<n) (x:Rb):Ev.sc n (rbV x)=true:=yU1 n hn x
theorem cB2 (n:Nat) (hn:0<n) (k:Nat) (f:Bool) (l:List Rb):Ev.sc n (Rw f erb k (rbCs l))=true:=by
 have:=gL0 n hn l
 simp[Ev.sc,Rw,scL,this,hn]
theorem cC2 (x:Rb):rbCs [x]=rbC x:=by rw[rbCs,rbCs,List.append_nil]
theorem iW0:∀ (l:List Rb) (i:Nat),(rbCs l).drop (i*5)=rbCs (l.drop i)
 | l,0=>by simp
 | [],i+1=>by simp[rbCs]
 | x :: l,i+1=>by
  rw[rbCs,List.drop_succ_cons,← iW0 l i,Nat.add_mul,Nat.one_mul,Nat.add_comm,← List.drop_drop,List.drop_append_of_le_length (by rw[cH];exact Nat.le_refl _),show (rbC x).drop 5=[] from List.drop_of_length_le (by rw[cH];exact Nat.le_refl _),List.nil_append]
theorem zD0 {l:List Rb} {i:Nat} {x:Rb} (h:l[i]?=some x):((rbCs l).drop (i*5)).take 5=rbC x:=by
 have hi:i<l.length:=(List.getElem?_eq_some_iff.1 h).1
 have hd:l.drop i=x :: l.drop (i+1):=by rw[List.drop_eq_getElem_cons hi];congr 1;exact (List.getElem?_eq_some_iff.1 h).2
 rw[iW0,hd,rbCs,List.take_append_of_le_length (by rw[cH];exact Nat.le_refl _),List.take_of_length_le (by rw[cH];exact Nat.le_refl _)]
theorem lI1 (x:Rb):Value.agg ⟨rbC x⟩=rbV x:=rfl
theorem yT1 (x:Rb):(rbV x).cells.toList=rbC x:=rfl
theorem lJ1 (x:Rb):(rbC x).take 5=rbC x:=List.take_of_length_le (by rw[cH];exact Nat.le_refl _)
attribute [push_cast] cD2 rQ0 lI1 gL0 cA2 cB2 yU1 nV0 yT1 lJ1 cH
theorem lG0 (G:Nat×Nat) (n:Nat) (σ:jA):FzV (pp G).P n σ (.slice none 0 0) (exsV []):=.nil (size:=4) rfl (by decide)
theorem gJ1 (G:Nat×Nat) (n:Nat) (σ:jA):FzV (pp G).P n σ (.slice none 0 0) (prsV []):=.nil (size:=8) rfl (by decide)
theorem nil_iv (G:Nat×Nat) (n:Nat) (σ:jA):FzV (pp G).P n σ (.slice none 0 0) (ivV []):=.nil (size:=1) rfl (by decide)
theorem nil_ns (G:Nat×Nat) (n:Nat) (σ:jA):FzV (pp G).P n σ (.slice none 0 0) (nsV []):=.nil (size:=1) rfl (by decide)
end
end Go.Proofs.Ytgeakofgklcipaa
namespace Go.Proofs.Ytgeakofgklcipaa
open Go Go.RowKit Go.Ev Go.Dv
noncomputable section
set_option maxRecDepth 100000
variable (G:Nat×Nat)
theorem lY0 {A c z:List Value} {w k off:Nat} (hA:A.length=off) (hz:z.length=w):(A++(List.replicate (k+1) z).flatten).take off++c++(A++(List.replicate (k+1) z).flatten).drop (off+w)=(A++c)++(List.replicate k z).flatten:=by
 subst hA
 rw[List.take_left,List.drop_append,List.drop_of_length_le (by omega),List.nil_append,Nat.add_sub_cancel_left,List.replicate_succ,List.flatten_cons,List.drop_append,List.drop_of_length_le (by omega),List.nil_append,hz,Nat.sub_self,List.drop_zero]
theorem sK0 {A z:List Value} {w k off n:Nat} (hA:A.length=off) (hz:z.length=w) (hn:off+k*w=n):(A++(List.replicate k z).flatten).length=n:=by
 rw[List.length_append,List.length_flatten,List.map_replicate,List.sum_replicate_nat,hA,hz,hn]
theorem qH {α:Type} {l:List α} {i:Nat} {x:α} (h:l[i]?=some x):l.take (i+1)=l.take i++[x]:=by
 rw[List.take_add_one,h];rfl
theorem qT {α:Type} {l:List α} {i:Nat} (h:i<l.length):∃ x,l[i]?=some x:=⟨_,List.getElem?_eq_getElem h⟩
def zex:List Value:=[.int .i64 0,.int .i64 0,.string (Tx []),.slice none 0 0]
inductive ILex (l:List Ex) (fv:Value):Nat→S→Prop
 | mk (i:Nat) (iv:Int) (h:jA) {x0 x2 x3 x4 x6 x7 x8 x9 xA xB xC xD xE xF xG xH xI xJ xK xL xM xN xO xP:Value} (hiv:iv=(i:Int)) (hi:i≤l.length) (c1:cells h 1=some (kN (l.take i)++(List.replicate (l.length-i) zex).flatten,31,false)) (hl1:h.lo=1) (hl2:2≤h.next) :
  ILex l fv (l.length-i) ⟨(F29 x0 fv x2 x3 x4 (.slice (some ⟨1,0,none⟩) l.length l.length) x6 x7 x8 x9 xA xB xC xD (Rw false eE l.length (kN l)) (.int .i64 l.length) (.int .i64 iv) xE xF xG xH xI xJ xK xL xM xN xO xP),[],h⟩
theorem mE1 (l:List Ex) (f:FuncId) (hll:l.length<100000000000) (hf:∀ x∈l,jM (pp G) H0 f [exV x] (exV x)):jM (pp G) H0 88 [exsV l,.func (.func f) #[] #[]] (exsV l):=by
 have hlo:H0.lo≤H0.next:=Nat.le_refl _;refine jM.cut (jH.fir4 (q:=qq) (jP G) fir88 (by kernel_rfl) rfl rfl (fX1 ..) (show NGG≤H0.lo by rw[qN];decide) ?_);rw[qP2]
 unfold exsV
 by_cases h0:l.length=0
 ·have h0':(l.length:Int)=0:=by omega
  obtain rfl:l=[]:=List.length_eq_zero_iff.1 h0
  simp(disch:=first|omega|(apply id;simp only[push_cast];try omega))only[push_cast,simprocAttr,h0']
  exact .nil (size:=4) rfl (by decide)
 have h0':¬ (l.length:Int)=0:=by omega
 have h1:(l.length:Int)*400+l.length<100000000000000:=by omega
 simp(disch:=first|omega|(apply id;simp only[push_cast];try omega))only[push_cast,simprocAttr,h0',h1]
 refine WD.loop4 (q:=qq) (jP G) (by kernel_rfl) (ILex l (.func (.func f) #[] #[])) ?_ _ _ (ILex.mk 0 0 _ rfl (Nat.zero_le _) (by simp(disch:=first|omega|(apply id;simp only[push_cast];try omega))only[push_cast,simprocAttr,List.take_zero];rfl) rfl (by first|assumption|(simp(disch:=first|omega|(apply id;simp only[push_cast];try omega))only[push_cast,simprocAttr];try omega)))
 intro m s1 hI
 cases hI with|mk i iv h hiv hi c1 hl1 hl2=>
 subst hiv
 rw[tV0]
 by_cases hil:(i:Int)<l.length
 ·obtain ⟨x,hx⟩:=qT (l:=l) (i:=i) (by omega)
  have hxm:=List.mem_of_getElem? hx
  have hp:=mA0 hx
  have hle:i*4+4≤l.length*4:=by omega
  simp(disch:=first|omega|(apply id;simp only[push_cast];try omega))only[push_cast,simprocAttr,hil,Int.toNat_natCast,hp,hle,hl1]
  refine jC.dataI (hf x hxm) (by and_intros<;>first|rfl|(simp(disch:=first|omega|(apply id;simp only[push_cast];try omega))only[push_cast])) ?_
  obtain ⟨k,hk⟩:∃ k,l.length-i=k+1:=⟨l.length-i-1,by omega⟩
  have hta:(kN (l.take i)).length=i*4:=by rw[zP0,List.length_take,Nat.min_eq_left hi]
  have hlen:=sK0 (w:=4) (z:=zex) (k:=l.length-i) (n:=l.length*4) hta rfl (by rw[Nat.sub_mul];omega)
  have hst:=lY0 (c:=exC x) (w:=4) (z:=zex) (k:=k) hta rfl
  rw[← hk,← tL1,← fO0,← qH hx,show k=l.length-(i+1) by omega,tL1] at hst
  simp(disch:=first|omega|(apply id;simp only[push_cast];try omega))only[push_cast,simprocAttr,hil,Int.toNat_natCast,hle,hl1,c1,hlen,hst]
  exact ⟨_,by omega,ILex.mk (i+1) _ _ (by first|rfl|omega) (by omega) (by first|assumption|(simp(disch:=first|omega|(apply id;simp only[push_cast];try omega))only[push_cast,simprocAttr];try omega)) (by first|assumption|(simp(disch:=first|omega|(apply id;simp only[push_cast];try omega))only[push_cast,simprocAttr,hl1];try omega)) (by first|assumption|(simp(disch:=first|omega|(apply id;simp only[push_cast];try omega))only[push_cast,simprocAttr];try omega))⟩
 ·have hie:i=l.length:=by omega
  subst hie
  rw[List.take_length,Nat.sub_self,List.replicate_zero,List.flatten_nil,List.append_nil] at c1
  simp(disch:=first|omega|(apply id;simp only[push_cast];try omega))only[push_cast,simprocAttr,hil]
  rw[tU0]
  simp(disch:=first|omega|(apply id;simp only[push_cast];try omega))only[push_cast,simprocAttr]
  refine .sl (by simp(disch:=first|omega|(apply id;simp only[push_cast];try omega))only[push_cast,simprocAttr]) c1 (size:=4) rfl (by decide) (by first|assumption|(simp(disch:=first|omega|(apply id;simp only[push_cast];try omega))only[push_cast,simprocAttr];try omega)) (.inl ⟨by simp only[UC];omega,Nat.le_refl _⟩) ?_
  rw[List.drop_zero,List.take_of_length_le (by rw[zP0];exact Nat.le_refl _)]
  exact .ids (qG0 _ H0q l)
def ztm:List Value:=[.int .i64 0,.int .i64 0,.int .i64 0,.string (Tx []),.int .i64 0,.int .i64 0,.string (Tx []),.slice none 0 0,.slice none 0 0]
inductive ILtm (l:List Tm) (fv:Value):Nat→S→Prop
 | mk (i:Nat) (iv:Int) (h:jA) {x0 x2 x3 x4 x6 x7 x8 x9 xA xB xC xD xE xF xG xH xI xJ xK xL xM xN xO xP:Value} (hiv:iv=(i:Int)) (hi:i≤l.length) (c1:cells h 1=some (uY (l.take i)++(List.replicate (l.length-i) ztm).flatten,34,false)) (hl1:h.lo=1) (hl2:2≤h.next) :
  ILtm l fv (l.length-i) ⟨(F29 x0 fv x2 x3 x4 (.slice (some ⟨1,0,none⟩) l.length l.length) x6 x7 x8 x9 xA xB xC xD (Rw false etm l.length (uY l)) (.int .i64 l.length) (.int .i64 iv) xE xF xG xH xI xJ xK xL xM xN xO xP),[],h⟩
theorem mD1 (l:List Tm) (f:FuncId) (hll:l.length<100000000000) (hf:∀ x∈l,jM (pp G) H0 f [tmV x] (tmV x)):jM (pp G) H0 73 [tmsV l,.func (.func f) #[] #[]] (tmsV l):=by
 have hlo:H0.lo≤H0.next:=Nat.le_refl _;refine jM.cut (jH.fir4 (q:=qq) (jP G) fir73 (by kernel_rfl) rfl rfl (fX1 ..) (show NGG≤H0.lo by rw[qN];decide) ?_);rw[uE2]
 unfold tmsV
 by_cases h0:l.length=0
 ·have h0':(l.length:Int)=0:=by omega
  obtain rfl:l=[]:=List.length_eq_zero_iff.1 h0
  simp(disch:=first|omega|(apply id;simp only[push_cast];try omega))only[push_cast,simprocAttr,h0']
  exact .nil (size:=9) rfl (by decide)
 have h0':¬ (l.length:Int)=0:=by omega
 have h1:(l.length:Int)*400+l.length<100000000000000:=by omega
 simp(disch:=first|omega|(apply id;simp only[push_cast];try omega))only[push_cast,simprocAttr,h0',h1]
 refine WD.loop4 (q:=qq) (jP G) (by kernel_rfl) (ILtm l (.func (.func f) #[] #[])) ?_ _ _ (ILtm.mk 0 0 _ rfl (Nat.zero_le _) (by simp(disch:=first|omega|(apply id;simp only[push_cast];try omega))only[push_cast,simprocAttr,List.take_zero];rfl) rfl (by first|assumption|(simp(disch:=first|omega|(apply id;simp only[push_cast];try omega))only[push_cast,simprocAttr];try omega)))
 intro m s1 hI
 cases hI with|mk i iv h hiv hi c1 hl1 hl2=>
 subst hiv
 rw[jU1]
 by_cases hil:(i:Int)<l.length
 ·obtain ⟨x,hx⟩:=qT (l:=l) (i:=i) (by omega)
  have hxm:=List.mem_of_getElem? hx
  have hp:=bY hx
  have hle:i*9+9≤l.length*9:=by omega
  simp(disch:=first|omega|(apply id;simp only[push_cast];try omega))only[push_cast,simprocAttr,hil,Int.toNat_natCast,hp,hle,hl1]
  refine jC.dataI (hf x hxm) (by and_intros<;>first|rfl|(simp(disch:=first|omega|(apply id;simp only[push_cast];try omega))only[push_cast])) ?_
  obtain ⟨k,hk⟩:∃ k,l.length-i=k+1:=⟨l.length-i-1,by omega⟩
  have hta:(uY (l.take i)).length=i*9:=by rw[cC,List.length_take,Nat.min_eq_left hi]
  have hlen:=sK0 (w:=9) (z:=ztm) (k:=l.length-i) (n:=l.length*9) hta rfl (by rw[Nat.sub_mul];omega)
  have hst:=lY0 (c:=tmC x) (w:=9) (z:=ztm) (k:=k) hta rfl
  rw[← hk,← kE1,← uM0,← qH hx,show k=l.length-(i+1) by omega,kE1] at hst
  simp(disch:=first|omega|(apply id;simp only[push_cast];try omega))only[push_cast,simprocAttr,hil,Int.toNat_natCast,hle,hl1,c1,hlen,hst]
  exact ⟨_,by omega,ILtm.mk (i+1) _ _ (by first|rfl|omega) (by omega) (by first|assumption|(simp(disch:=first|omega|(apply id;simp only[push_cast];try omega))only[push_cast,simprocAttr];try omega)) (by first|assumption|(simp(disch:=first|omega|(apply id;simp only[push_cast];try omega))only[push_cast,simprocAttr,hl1];try omega)) (by first|assumption|(simp(disch:=first|omega|(apply id;simp only[push_cast];try omega))only[push_cast,simprocAttr];try omega))⟩
 ·have hie:i=l.length:=by omega
  subst hie
  rw[List.take_length,Nat.sub_self,List.replicate_zero,List.flatten_nil,List.append_nil] at c1
  simp(disch:=first|omega|(apply id;simp only[push_cast];try omega))only[push_cast,simprocAttr,hil]
  rw[jT1]
  simp(disch:=first|omega|(apply id;simp only[push_cast];try omega))only[push_cast,simprocAttr]
  refine .sl (by simp(disch:=first|omega|(apply id;simp only[push_cast];try omega))only[push_cast,simprocAttr]) c1 (size:=9) rfl (by decide) (by first|assumption|(simp(disch:=first|omega|(apply id;simp only[push_cast];try omega))only[push_cast,simprocAttr];try omega)) (.inl ⟨by simp only[UC];omega,Nat.le_refl _⟩) ?_
  rw[List.drop_zero,List.take_of_length_le (by rw[cC];exact Nat.le_refl _)]
  exact .ids (bJ _ H0q l)
mutual
def smE:Ex→Bool
 | .mk k n s l=>decide (l.length<100000000000)&&smEs l
def smEs:List Ex→Bool
 | []=>true
 | x :: l=>smE x&&smEs l
end
mutual
def smT:Tm→Bool
 | .mk k a b s e l=>decide (l.length<100000000000)&&smE e&&smTs l
def smTs:List Tm→Bool
 | []=>true
 | x :: l=>smT x&&smTs l
end
theorem eH0:∀ {l:List Ex},smEs l=true→∀ x∈l,smE x=true
 | [],_,x,hx=>by cases hx
 | y :: l,h,x,hx=>by
  simp only[smEs,Bool.and_eq_true] at h
  rcases List.mem_cons.1 hx with rfl|hx
  ·exact h.1
  ·exact eH0 h.2 x hx
theorem bH:∀ {l:List Tm},smTs l=true→∀ x∈l,smT x=true
 | [],_,x,hx=>by cases hx
 | y :: l,h,x,hx=>by
  simp only[smTs,Bool.and_eq_true] at h
  rcases List.mem_cons.1 hx with rfl|hx
  ·exact h.1
  ·exact bH h.2 x hx
theorem nM0:∀ {l:List Tm},(∀ x∈l,smT x=true)→smTs l=true
 | [],_=>rfl
 | y :: l,h=>by rw[smTs,h y (by simp),nM0 fun x hx=>h x (by simp[hx])];rfl
theorem gC1:∀ x:Ex,smE x=true→jM (pp G) H0 74 [exV x] (exV x)
 | .mk k n s l,hs=>by
  simp only[smE,Bool.and_eq_true,decide_eq_true_eq] at hs
  have hl:=mE1 G l 74 hs.1 fun x hx=>gC1 x (eH0 hs.2 x hx)
  have hlo:H0.lo≤H0.next:=Nat.le_refl _;refine jM.cut (jH.fir4 (q:=qq) (jP G) fir74 (by kernel_rfl) rfl rfl (fU1 ..) (show NGG≤H0.lo by rw[qN];decide) ?_);rw[uD2]
  unfold exV exC
  simp(disch:=first|omega|(apply id;simp only[push_cast];try omega))only[push_cast,simprocAttr]
  refine jC.dataI (hl) (by and_intros<;>first|rfl|(simp(disch:=first|omega|(apply id;simp only[push_cast];try omega))only[push_cast])) ?_
  unfold exsV
  simp(disch:=first|omega|(apply id;simp only[push_cast];try omega))only[push_cast,simprocAttr]
  exact .id (sL0 _ H0q (.mk k n s l))
 termination_by x=>SizeOf.sizeOf x
theorem gB1:∀ x:Tm,smT x=true→jM (pp G) H0 54 [tmV x] (tmV x)
 | .mk k a b s e l,hs=>by
  simp only[smT,Bool.and_eq_true,decide_eq_true_eq] at hs
  have hl:=mD1 G l 54 hs.1.1 fun x hx=>gB1 x (bH hs.2 x hx)
  have hT:jM (pp G) H0 56 [tmsV l] (tmsV l):=by
   have hlo:H0.lo≤H0.next:=Nat.le_refl _;refine jM.cut (jH.fir4 (q:=qq) (jP G) fir56 (by kernel_rfl) rfl rfl (iA2 ..) (show NGG≤H0.lo by rw[qN];decide) ?_);rw[uQ2]
   unfold tmsV
   simp(disch:=first|omega|(apply id;simp only[push_cast];try omega))only[push_cast,simprocAttr]
   refine jC.dataI (hl) (by and_intros<;>first|rfl|(simp(disch:=first|omega|(apply id;simp only[push_cast];try omega))only[push_cast])) ?_
   unfold tmsV
   simp(disch:=first|omega|(apply id;simp only[push_cast];try omega))only[push_cast,simprocAttr]
   exact .id (by simp(disch:=first|omega|(apply id;simp only[push_cast];try omega))only[push_cast,simprocAttr])
  have hlo:H0.lo≤H0.next:=Nat.le_refl _;refine jM.cut (jH.fir4 (q:=qq) (jP G) fir54 (by kernel_rfl) rfl rfl (iA1 ..) (show NGG≤H0.lo by rw[qN];decide) ?_);rw[uR2]
  unfold tmV tmC
  simp(disch:=first|omega|(apply id;simp only[push_cast];try omega))only[push_cast,simprocAttr]
  refine jC.dataI (gC1 G e hs.1.2) (by and_intros<;>first|rfl|(simp(disch:=first|omega|(apply id;simp only[push_cast];try omega))only[push_cast])) ?_
  simp(disch:=first|omega|(apply id;simp only[push_cast];try omega))only[push_cast,simprocAttr,sM0]
  refine jC.dataI (hT) (by and_intros<;>first|rfl|(simp(disch:=first|omega|(apply id;simp only[push_cast];try omega))only[push_cast])) ?_
  unfold tmsV
  simp(disch:=first|omega|(apply id;simp only[push_cast];try omega))only[push_cast,simprocAttr,sM0]
  exact .id (bC _ H0q (.mk k a b s e l))
 termination_by x=>SizeOf.sizeOf x
mutual
def kM:Tm→Int
 | .mk _ _ _ _ _ l=>1+uZ l
def uZ:List Tm→Int
 | []=>0
 | x :: l=>kM x+uZ l
end
end
end Go.Proofs.Ytgeakofgklcipaa
namespace Go.Proofs.Ytgeakofgklcipaa
open Go Go.RowKit Go.Ev Go.Dv
noncomputable section
set_option maxRecDepth 100000
def zE:Ex:=.mk 0 0 [] []
def zT:Tm:=.mk 0 0 0 [] zE []
theorem qL.lt {σ:jA} {e n:Nat} {a:Option Addr} {len c:Nat} {cs:List Value} (ho:qL σ e n a len c cs) {b:Nat} (hb:blk a b):σ.lo≤b∧b<σ.next:=by
 obtain ⟨o,s,rfl⟩:=hb
 rcases ho.hat with ⟨e,_⟩|⟨q,_,e,h1,h2,_⟩
 ·cases e
 ·cases e;exact ⟨h1,h2⟩
theorem uD1 (t:Tm) (σ:jA):bsD (qq.m 32) (slT Try.prog 32) 1 [(0,tmV t)] σ=some (Rw true 34 1 (uY [t]),σ):=by
 rw[kE1];cases t;kernel_rfl
theorem qL.flt {σ:jA} {e n:Nat} {a:Option Addr} {len c:Nat} {cs:List Value} (ho:qL σ e n a len c cs) {p:Nat→Bool} (hp:∀ b,blk a b→p b=true):qL (hflt p σ) e n a len c cs:=by
 refine ⟨ho.hlen,ho.hone,?_⟩
 rcases ho.hat with h0|⟨b,m,ha,h1,h2,h3,h4⟩
 ·exact .inl h0
 ·exact .inr ⟨b,m,ha,h1,h2,(kK0 σ (hp b ⟨0,none,ha⟩)).trans h3,h4⟩
end
end Go.Proofs.Ytgeakofgklcipaa
