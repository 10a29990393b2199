/-
  A part of the proof: what the program's functions hand back,as theorems. No condition but those that each theorem names.
-/
import Derived.Test.YtgeakofgklcipaaExa
import Derived.Test.YtgeakofgklcipaaEve
import Derived.Test.YtgeakofgklcipaaExb
set_option linter.unusedSimpArgs false
set_option linter.unusedVariables false
namespace Go.Proofs.Ytgeakofgklcipaa
open Go Go.RowKit Go.Ev Go.Dv
noncomputable section
set_option maxRecDepth 100000
def W (a:Int):Int:=IntKind.i64.wrap a
def In (a:Int):Prop:=-9223372036854775808≤a∧a≤9223372036854775807
theorem W_in {a:Int} (h:In a):W a=a:=by
 unfold In at h
 unfold W;rw[IntKind.wrap_i64];omega
theorem H0p:0<H0.lo:=by rw[jW];omega
theorem H0q:0<H0.next:=by rw[kW];omega
abbrev eI:Nat:=3
def ivs (l:List Int):List Value:=l.map (Value.int .i64)
def ivV (l:List Int):Value:=Rw false eI l.length (ivs l)
theorem jH2 (l:List Int):(ivs l).length=l.length:=by simp[ivs]
theorem oR0 (n:Nat):∀ l:List Int,scL n (ivs l)=true
 | []=>rfl
 | x :: l=>by
  have:=oR0 n l
  simp only[ivs] at this
  simp[ivs,scL,sc,this]
theorem nY1 (n:Nat) (hn:0<n) (k:Nat) (f:Bool) (l:List Int):sc n (Rw f eI k (ivs l))=true:=by
 have:=oR0 n l
 simp[sc,Rw,scL,this,hn]
theorem nX1 (n:Nat) (hn:0<n) (l:List Int):sc n (ivV l)=true:=nY1 n hn ..
theorem fH1 {l:List Int} {i:Nat} (h:i<l.length):(ivs l)[i]?=some (.int .i64 (l.getD i 0)):=by simp[ivs,h]
theorem jI2 (a b:List Int):ivs (a++b)=ivs a++ivs b:=by simp[ivs]
abbrev eS:Nat:=9
def nss (l:List (List UInt8)):List Value:=l.map fun s=>Value.string (Tx s)
def nsV (l:List (List UInt8)):Value:=Rw false eS l.length (nss l)
theorem tN1 (l:List (List UInt8)):(nss l).length=l.length:=by simp[nss]
theorem wS0 (n:Nat):∀ l:List (List UInt8),scL n (nss l)=true
 | []=>rfl
 | x :: l=>by
  have:=wS0 n l
  simp only[nss] at this
  simp[nss,scL,sc,this]
theorem cK0 (n:Nat) (hn:0<n) (k:Nat) (f:Bool) (l:List (List UInt8)):sc n (Rw f eS k (nss l))=true:=by
 have:=wS0 n l
 simp[sc,Rw,scL,this,hn]
theorem fX0 (n:Nat) (hn:0<n) (l:List (List UInt8)):sc n (nsV l)=true:=cK0 n hn ..
theorem jU0 {l:List (List UInt8)} {i:Nat} (h:i<l.length):(nss l)[i]?=some (.string (Tx (l.getD i []))):=by simp[nss,h]
theorem zE1 (a b:List (List UInt8)):nss (a++b)=nss a++nss b:=by simp[nss]
abbrev eB:Nat:=4
def bvs (l:List Bool):List Value:=l.map Value.bool
def bvV (l:List Bool):Value:=Rw false eB l.length (bvs l)
theorem jH0 (l:List Bool):(bvs l).length=l.length:=by simp[bvs]
theorem kM0 (n:Nat):∀ l:List Bool,scL n (bvs l)=true
 | []=>rfl
 | x :: l=>by
  have:=kM0 n l
  simp only[bvs] at this
  simp[bvs,scL,sc,this]
theorem oO1 (n:Nat) (hn:0<n) (k:Nat) (f:Bool) (l:List Bool):sc n (Rw f eB k (bvs l))=true:=by
 have:=kM0 n l
 simp[sc,Rw,scL,this,hn]
theorem mX0:∀ l:List Bool,(bvs l).all one=true
 | []=>rfl
 | x :: l=>by
  have:=mX0 l
  simp only[bvs] at this
  simp[bvs,one]
theorem qY0 {l:List Bool} {i:Nat} (h:i<l.length):(bvs l)[i]?=some (.bool (l.getD i false)):=by simp[bvs,h]
@[push_cast]theorem sc_nil (n a b:Nat):sc n (.slice none a b)=true:=rfl
theorem zC2 (n:Nat) (l:List Value):sc n (.agg ⟨l⟩)=scL n l:=rfl
theorem zB2 (n:Nat) (k:IntKind) (i:Int):sc n (.int k i)=true:=rfl
theorem wZ2 (n:Nat) (s:ByteArray):sc n (.string s)=true:=rfl
attribute [push_cast] zC2 zB2 wZ2
@[push_cast]theorem sc_fn (n f:Nat):sc n (.func (.func f) #[] #[])=true:=rfl
attribute [push_cast] jH2 oR0 nY1 nX1 tN1 wS0 cK0 fX0 jH0 kM0 oO1 mX0 gM2 gN2 Int.toNat_zero Int.toNat_one Int.natCast_one jW kW
def jP (a n:Int):Int:=if a.tmod n<0 then a.tmod n+n else a.tmod n
theorem qM {a n:Int} (hn:0<n):0≤jP a n∧jP a n<n:=by
 have h1:(a.tmod n).natAbs=a.natAbs % n.natAbs:=Int.natAbs_tmod a n
 have h2:a.natAbs % n.natAbs<n.natAbs:=Nat.mod_lt _ (by omega)
 unfold jP
 split<;>omega
inductive Ex where
 | mk (k:Int) (n:Int) (s:List UInt8) (l:List Ex)
abbrev eE:Nat:=31
mutual
def exC:Ex→List Value
 | .mk k n s l=>[.int .i64 k,.int .i64 n,.string (Tx s),Rw false eE l.length (uX l)]
def uX:List Ex→List Value
 | []=>[]
 | x :: l=>exC x++uX l
end
def exV (x:Ex):Value:=.agg ⟨exC x⟩
def exsV (l:List Ex):Value:=Rw false eE l.length (uX l)
theorem yX2 (k:Int) (n:Int) (s:List UInt8) (l:List Ex):exC (.mk k n s l)=[.int .i64 k,.int .i64 n,.string (Tx s),Rw false eE l.length (uX l)]:=rfl
theorem uW0 (x:Ex):(exC x).length=4:=by cases x;simp[exC]
theorem zB0:∀ l:List Ex,(uX l).length=l.length*4
 | []=>rfl
 | x :: l=>by rw[uX,List.length_append,uW0,zB0 l,List.length_cons];omega
theorem gT1:∀ x:Ex,(exC x).all one=true
 | .mk k n s l=>by simp[exC,one,Rw]
theorem eO0:∀ l:List Ex,(uX l).all one=true
 | []=>rfl
 | x :: l=>by rw[uX,List.all_append,gT1 x,eO0 l];rfl
mutual
theorem gS1 (nn:Nat) (hn:0<nn):∀ x:Ex,scL nn (exC x)=true
 | .mk k n s l=>by
  have:=jZ0 nn hn l
  simp[exC,scL,Ev.sc,Rw,hn, *]
theorem jZ0 (nn:Nat) (hn:0<nn):∀ l:List Ex,scL nn (uX l)=true
 | []=>rfl
 | x :: l=>by
  rw[uX]
  exact jT fun v hv=>(List.mem_append.1 hv).elim (jV (gS1 nn hn x) v) (jV (jZ0 nn hn l) v)
end
theorem oX0 (n:Nat) (hn:0<n) (x:Ex):Ev.sc n (exV x)=true:=gS1 n hn x
theorem cS0 (n:Nat) (hn:0<n) (k:Nat) (f:Bool) (l:List Ex):Ev.sc n (Rw f eE k (uX l))=true:=by
 have:=jZ0 n hn l
 simp[Ev.sc,Rw,scL,this,hn]
theorem qF2 (n:Nat) (hn:0<n) (l:List Ex):Ev.sc n (exsV l)=true:=cS0 n hn ..
theorem eP0:∀ (a b:List Ex),uX (a++b)=uX a++uX b
 | [],b=>rfl
 | x :: a,b=>by rw[List.cons_append,uX,eP0 a b,uX,List.append_assoc]
theorem oH1 (x:Ex):uX [x]=exC x:=by rw[uX,uX,List.append_nil]
theorem iL0:∀ (l:List Ex) (i:Nat),(uX l).drop (i*4)=uX (l.drop i)
 | l,0=>by simp
 | [],i+1=>by simp[uX]
 | x :: l,i+1=>by
  rw[uX,List.drop_succ_cons,← iL0 l i,Nat.add_mul,Nat.one_mul,Nat.add_comm,← List.drop_drop,List.drop_append_of_le_length (by rw[uW0];exact Nat.le_refl _),show (exC x).drop 4=[] from List.drop_of_length_le (by rw[uW0];exact Nat.le_refl _),List.nil_append]
theorem zA0 {l:List Ex} {i:Nat} {x:Ex} (h:l[i]?=some x):((uX l).drop (i*4)).take 4=exC x:=by
 have hi:i<l.length:=(List.getElem?_eq_some_iff.1 h).1
 have hd:l.drop i=x :: l.drop (i+1):=by rw[List.drop_eq_getElem_cons hi];congr 1;exact (List.getElem?_eq_some_iff.1 h).2
 rw[iL0,hd,uX,List.take_append_of_le_length (by rw[uW0];exact Nat.le_refl _),List.take_of_length_le (by rw[uW0];exact Nat.le_refl _)]
theorem fT1 (x:Ex):Value.agg ⟨exC x⟩=exV x:=rfl
theorem gR1 (x:Ex):(exV x).cells.toList=exC x:=rfl
theorem fU1 (x:Ex):(exC x).take 4=exC x:=List.take_of_length_le (by rw[uW0];exact Nat.le_refl _)
attribute [push_cast] yX2 zB0 fT1 jZ0 oX0 qF2 cS0 gS1 eO0 gT1 gR1 fU1 uW0
def Ex.k:Ex→Int | .mk k _ _ _=>k
def Ex.n:Ex→Int | .mk _ n _ _=>n
def Ex.s:Ex→List UInt8 | .mk _ _ s _=>s
def Ex.l:Ex→List Ex | .mk _ _ _ l=>l
theorem Ex.k_mk (k n:Int) (s:List UInt8) (l:List Ex):Ex.k (.mk k n s l)=k:=rfl
theorem Ex.n_mk (k n:Int) (s:List UInt8) (l:List Ex):Ex.n (.mk k n s l)=n:=rfl
theorem Ex.s_mk (k n:Int) (s:List UInt8) (l:List Ex):Ex.s (.mk k n s l)=s:=rfl
theorem Ex.l_mk (k n:Int) (s:List UInt8) (l:List Ex):Ex.l (.mk k n s l)=l:=rfl
theorem gU1 (x:Ex):exC x=[.int .i64 x.k,.int .i64 x.n,.string (Tx x.s),Rw false eE x.l.length (uX x.l)]:=by cases x;rfl
theorem yW2 (x:Ex):Value.agg ⟨[.int .i64 x.k,.int .i64 x.n,.string (Tx x.s),Rw false eE x.l.length (uX x.l)]⟩=exV x:=by cases x;rfl
attribute [push_cast] Ex.k_mk Ex.n_mk Ex.s_mk Ex.l_mk yW2
inductive Tm where
 | mk (k:Int) (a:Int) (b:Int) (s:List UInt8) (e:Ex) (l:List Tm)
abbrev etm:Nat:=34
mutual
def tmC:Tm→List Value
 | .mk k a b s e l=>[.int .i64 k,.int .i64 a,.int .i64 b,.string (Tx s),.int .i64 e.k,.int .i64 e.n,.string (Tx e.s),Rw false eE e.l.length (uX e.l),Rw false etm l.length (jY l)]
def jY:List Tm→List Value
 | []=>[]
 | x :: l=>tmC x++jY l
end
def tmV (x:Tm):Value:=.agg ⟨tmC x⟩
def qA (l:List Tm):Value:=Rw false etm l.length (jY l)
theorem uD1 (k:Int) (a:Int) (b:Int) (s:List UInt8) (e:Ex) (l:List Tm):tmC (.mk k a b s e l)=[.int .i64 k,.int .i64 a,.int .i64 b,.string (Tx s),.int .i64 e.k,.int .i64 e.n,.string (Tx e.s),Rw false eE e.l.length (uX e.l),Rw false etm l.length (jY l)]:=rfl
theorem qJ0 (x:Tm):(tmC x).length=9:=by cases x;simp[tmC]
theorem qR:∀ l:List Tm,(jY l).length=l.length*9
 | []=>rfl
 | x :: l=>by rw[jY,List.length_append,qJ0,qR l,List.length_cons];omega
theorem lL0:∀ x:Tm,(tmC x).all one=true
 | .mk k a b s e l=>by simp[tmC,one,Rw]
theorem kY:∀ l:List Tm,(jY l).all one=true
 | []=>rfl
 | x :: l=>by rw[jY,List.all_append,lL0 x,kY l];rfl
mutual
theorem fE0 (nn:Nat) (hn:0<nn):∀ x:Tm,scL nn (tmC x)=true
 | .mk k a b s e l=>by
  have:=gO nn hn l
  simp[tmC,scL,Ev.sc,Rw,hn,jZ0, *]
theorem gO (nn:Nat) (hn:0<nn):∀ l:List Tm,scL nn (jY l)=true
 | []=>rfl
 | x :: l=>by
  rw[jY]
  exact jT fun v hv=>(List.mem_append.1 hv).elim (jV (fE0 nn hn x) v) (jV (gO nn hn l) v)
end
theorem fD0 (n:Nat) (hn:0<n) (x:Tm):Ev.sc n (tmV x)=true:=fE0 n hn x
theorem nH1 (n:Nat) (hn:0<n) (k:Nat) (f:Bool) (l:List Tm):Ev.sc n (Rw f etm k (jY l))=true:=by
 have:=gO n hn l
 simp[Ev.sc,Rw,scL,this,hn]
theorem zN0 (n:Nat) (hn:0<n) (l:List Tm):Ev.sc n (qA l)=true:=nH1 n hn ..
theorem bD:∀ (a b:List Tm),jY (a++b)=jY a++jY b
 | [],b=>rfl
 | x :: a,b=>by rw[List.cons_append,jY,bD a b,jY,List.append_assoc]
theorem yL0 (x:Tm):jY [x]=tmC x:=by rw[jY,jY,List.append_nil]
theorem wH0:∀ (l:List Tm) (i:Nat),(jY l).drop (i*9)=jY (l.drop i)
 | l,0=>by simp
 | [],i+1=>by simp[jY]
 | x :: l,i+1=>by
  rw[jY,List.drop_succ_cons,← wH0 l i,Nat.add_mul,Nat.one_mul,Nat.add_comm,← List.drop_drop,List.drop_append_of_le_length (by rw[qJ0];exact Nat.le_refl _),show (tmC x).drop 9=[] from List.drop_of_length_le (by rw[qJ0];exact Nat.le_refl _),List.nil_append]
theorem uW {l:List Tm} {i:Nat} {x:Tm} (h:l[i]?=some x):((jY l).drop (i*9)).take 9=tmC x:=by
 have hi:i<l.length:=(List.getElem?_eq_some_iff.1 h).1
 have hd:l.drop i=x :: l.drop (i+1):=by rw[List.drop_eq_getElem_cons hi];congr 1;exact (List.getElem?_eq_some_iff.1 h).2
 rw[wH0,hd,jY,List.take_append_of_le_length (by rw[qJ0];exact Nat.le_refl _),List.take_of_length_le (by rw[qJ0];exact Nat.le_refl _)]
theorem dL1 (x:Tm):Value.agg ⟨tmC x⟩=tmV x:=rfl
theorem uC1 (x:Tm):(tmV x).cells.toList=tmC x:=rfl
theorem dM1 (x:Tm):(tmC x).take 9=tmC x:=List.take_of_length_le (by rw[qJ0];exact Nat.le_refl _)
theorem pH1 (x:Tm) (l:List Tm):(jY (x :: l)).take 9=tmC x:=uW (l:=x :: l) (i:=0) rfl
attribute [push_cast] uD1 qR dL1 gO fD0 zN0 nH1 fE0 kY lL0 uC1 dM1 qJ0 pH1
def Tm.k:Tm→Int | .mk k _ _ _ _ _=>k
def Tm.a:Tm→Int | .mk _ a _ _ _ _=>a
def Tm.b:Tm→Int | .mk _ _ b _ _ _=>b
def Tm.s:Tm→List UInt8 | .mk _ _ _ s _ _=>s
def Tm.e:Tm→Ex | .mk _ _ _ _ e _=>e
def Tm.l:Tm→List Tm | .mk _ _ _ _ _ l=>l
theorem Tm.k_mk (k a b:Int) (s:List UInt8) (e:Ex) (l:List Tm):Tm.k (.mk k a b s e l)=k:=rfl
theorem Tm.l_mk (k a b:Int) (s:List UInt8) (e:Ex) (l:List Tm):Tm.l (.mk k a b s e l)=l:=rfl
inductive Pr where
 | mk (k:Int) (n:List UInt8) (t:List UInt8) (e:Ex) (l:List Pr)
abbrev epr:Nat:=77
mutual
def prC:Pr→List Value
 | .mk k n t e l=>[.int .i64 k,.string (Tx n),.string (Tx t),.int .i64 e.k,.int .i64 e.n,.string (Tx e.s),Rw false eE e.l.length (uX e.l),Rw false epr l.length (prCs l)]
def prCs:List Pr→List Value
 | []=>[]
 | x :: l=>prC x++prCs l
end
def prV (x:Pr):Value:=.agg ⟨prC x⟩
def prsV (l:List Pr):Value:=Rw false epr l.length (prCs l)
theorem zV2 (k:Int) (n:List UInt8) (t:List UInt8) (e:Ex) (l:List Pr):prC (.mk k n t e l)=[.int .i64 k,.string (Tx n),.string (Tx t),.int .i64 e.k,.int .i64 e.n,.string (Tx e.s),Rw false eE e.l.length (uX e.l),Rw false epr l.length (prCs l)]:=rfl
theorem gD (x:Pr):(prC x).length=8:=by cases x;simp[prC]
theorem oG0:∀ l:List Pr,(prCs l).length=l.length*8
 | []=>rfl
 | x :: l=>by rw[prCs,List.length_append,gD,oG0 l,List.length_cons];omega
theorem sY1:∀ x:Pr,(prC x).all one=true
 | .mk k n t e l=>by simp[prC,one,Rw]
mutual
theorem fU0 (nn:Nat) (hn:0<nn):∀ x:Pr,scL nn (prC x)=true
 | .mk k n t e l=>by
  have:=dS0 nn hn l
  simp[prC,scL,Ev.sc,Rw,hn,jZ0, *]
theorem dS0 (nn:Nat) (hn:0<nn):∀ l:List Pr,scL nn (prCs l)=true
 | []=>rfl
 | x :: l=>by
  rw[prCs]
  exact jT fun v hv=>(List.mem_append.1 hv).elim (jV (fU0 nn hn x) v) (jV (dS0 nn hn l) v)
end
theorem zA1 (n:Nat) (hn:0<n) (x:Pr):Ev.sc n (prV x)=true:=fU0 n hn x
theorem zU2 (x:Pr):prCs [x]=prC x:=by rw[prCs,prCs,List.append_nil]
theorem fT0:∀ (l:List Pr) (i:Nat),(prCs l).drop (i*8)=prCs (l.drop i)
 | l,0=>by simp
 | [],i+1=>by simp[prCs]
 | x :: l,i+1=>by
  rw[prCs,List.drop_succ_cons,← fT0 l i,Nat.add_mul,Nat.one_mul,Nat.add_comm,← List.drop_drop,List.drop_append_of_le_length (by rw[gD];exact Nat.le_refl _),show (prC x).drop 8=[] from List.drop_of_length_le (by rw[gD];exact Nat.le_refl _),List.nil_append]
theorem qP0 {l:List Pr} {i:Nat} {x:Pr} (h:l[i]?=some x):((prCs l).drop (i*8)).take 8=prC x:=by
 have hi:i<l.length:=(List.getElem?_eq_some_iff.1 h).1
 have hd:l.drop i=x :: l.drop (i+1):=by rw[List.drop_eq_getElem_cons hi];congr 1;exact (List.getElem?_eq_some_iff.1 h).2
 rw[fT0,hd,prCs,List.take_append_of_le_length (by rw[gD];exact Nat.le_refl _),List.take_of_length_le (by rw[gD];exact Nat.le_refl _)]
theorem eM1 (x:Pr):Value.agg ⟨prC x⟩=prV x:=rfl
theorem zB1 (x:Pr):(prV x).cells.toList=prC x:=rfl
theorem eN1 (x:Pr):(prC x).take 8=prC x:=List.take_of_length_le (by rw[gD];exact Nat.le_refl _)
theorem sX1 (x:Pr) (l:List Pr):(prCs (x :: l)).take 8=prC x:=qP0 (l:=x :: l) (i:=0) rfl
theorem sW1 (x y:Pr) (l:List Pr):((prCs (x :: y :: l)).drop 8).take 8=prC y:=qP0 (l:=x :: y :: l) (i:=1) rfl
attribute [push_cast] zV2 oG0 eM1 dS0 zA1 fU0 sY1 zB1 eN1 gD sX1 sW1
inductive Ra where
 | mk (k:Int) (n:Int) (l:List Ra)
abbrev era:Nat:=133
mutual
def raC:Ra→List Value
 | .mk k n l=>[.int .i64 k,.int .i64 n,Rw false era l.length (raCs l)]
def raCs:List Ra→List Value
 | []=>[]
 | x :: l=>raC x++raCs l
end
def raV (x:Ra):Value:=.agg ⟨raC x⟩
def rasV (l:List Ra):Value:=Rw false era l.length (raCs l)
theorem zQ2 (k:Int) (n:Int) (l:List Ra):raC (.mk k n l)=[.int .i64 k,.int .i64 n,Rw false era l.length (raCs l)]:=rfl
theorem zR0 (x:Ra):(raC x).length=3:=by cases x;simp[raC]
theorem oF0:∀ l:List Ra,(raCs l).length=l.length*3
 | []=>rfl
 | x :: l=>by rw[raCs,List.length_append,zR0,oF0 l,List.length_cons];omega
theorem sQ1:∀ x:Ra,(raC x).all one=true
 | .mk k n l=>by simp[raC,one,Rw]
mutual
theorem wY1 (nn:Nat) (hn:0<nn):∀ x:Ra,scL nn (raC x)=true
 | .mk k n l=>by
  have:=yU0 nn hn l
  simp[raC,scL,Ev.sc,Rw,hn, *]
theorem yU0 (nn:Nat) (hn:0<nn):∀ l:List Ra,scL nn (raCs l)=true
 | []=>rfl
 | x :: l=>by
  rw[raCs]
  exact jT fun v hv=>(List.mem_append.1 hv).elim (jV (wY1 nn hn x) v) (jV (yU0 nn hn l) v)
end
theorem zP2 (n:Nat) (hn:0<n) (x:Ra):Ev.sc n (raV x)=true:=wY1 n hn x
theorem nQ1 (n:Nat) (hn:0<n) (k:Nat) (f:Bool) (l:List Ra):Ev.sc n (Rw f era k (raCs l))=true:=by
 have:=yU0 n hn l
 simp[Ev.sc,Rw,scL,this,hn]
theorem sP1 (n:Nat) (hn:0<n) (l:List Ra):Ev.sc n (rasV l)=true:=nQ1 n hn ..
theorem fS0:∀ (l:List Ra) (i:Nat),(raCs l).drop (i*3)=raCs (l.drop i)
 | l,0=>by simp
 | [],i+1=>by simp[raCs]
 | x :: l,i+1=>by
  rw[raCs,List.drop_succ_cons,← fS0 l i,Nat.add_mul,Nat.one_mul,Nat.add_comm,← List.drop_drop,List.drop_append_of_le_length (by rw[zR0];exact Nat.le_refl _),show (raC x).drop 3=[] from List.drop_of_length_le (by rw[zR0];exact Nat.le_refl _),List.nil_append]
theorem yT0 {l:List Ra} {i:Nat} {x:Ra} (h:l[i]?=some x):((raCs l).drop (i*3)).take 3=raC x:=by
 have hi:i<l.length:=(List.getElem?_eq_some_iff.1 h).1
 have hd:l.drop i=x :: l.drop (i+1):=by rw[List.drop_eq_getElem_cons hi];congr 1;exact (List.getElem?_eq_some_iff.1 h).2
 rw[fS0,hd,raCs,List.take_append_of_le_length (by rw[zR0];exact Nat.le_refl _),List.take_of_length_le (by rw[zR0];exact Nat.le_refl _)]
theorem eK1 {l:List Ra} {i j:Nat} {x:Ra} {v:Value} (h:l[i]?=some x) (hj:j<3) (hv:(raC x)[j]?=some v):(raCs l)[i*3+j]?=some v:=by
 have h1:=yT0 h
 rw[← h1,List.getElem?_take_of_lt hj,List.getElem?_drop] at hv
 exact hv
theorem eJ1 (x:Ra):Value.agg ⟨raC x⟩=raV x:=rfl
theorem wX1 (x:Ra):(raV x).cells.toList=raC x:=rfl
attribute [push_cast] zQ2 oF0 eJ1 yU0 zP2 sP1 nQ1 wY1 sQ1 wX1 zR0
inductive Rb where
 | mk (k:Int) (a:Int) (b:Int) (e:List Ra) (l:List Rb)
abbrev erb:Nat:=38
mutual
def rbC:Rb→List Value
 | .mk k a b e l=>[.int .i64 k,.int .i64 a,.int .i64 b,Rw false era e.length (raCs e),Rw false erb l.length (rbCs l)]
def rbCs:List Rb→List Value
 | []=>[]
 | x :: l=>rbC x++rbCs l
end
def rbV (x:Rb):Value:=.agg ⟨rbC x⟩
def rbsV (l:List Rb):Value:=Rw false erb l.length (rbCs l)
theorem zO2 (k:Int) (a:Int) (b:Int) (e:List Ra) (l:List Rb):rbC (.mk k a b e l)=[.int .i64 k,.int .i64 a,.int .i64 b,Rw false era e.length (raCs e),Rw false erb l.length (rbCs l)]:=rfl
theorem qO0 (x:Rb):(rbC x).length=5:=by cases x;simp[rbC]
theorem dQ0:∀ l:List Rb,(rbCs l).length=l.length*5
 | []=>rfl
 | x :: l=>by rw[rbCs,List.length_append,qO0,dQ0 l,List.length_cons];omega
theorem wW1:∀ x:Rb,(rbC x).all one=true
 | .mk k a b e l=>by simp[rbC,one,Rw]
mutual
theorem wV1 (nn:Nat) (hn:0<nn):∀ x:Rb,scL nn (rbC x)=true
 | .mk k a b e l=>by
  have:=dP0 nn hn l
  simp[rbC,scL,Ev.sc,Rw,hn,yU0, *]
theorem dP0 (nn:Nat) (hn:0<nn):∀ l:List Rb,scL nn (rbCs l)=true
 | []=>rfl
 | x :: l=>by
  rw[rbCs]
  exact jT fun v hv=>(List.mem_append.1 hv).elim (jV (wV1 nn hn x) v) (jV (dP0 nn hn l) v)
end
theorem zM2 (n:Nat) (hn:0<n) (x:Rb):Ev.sc n (rbV x)=true:=wV1 n hn x
theorem nP1 (n:Nat) (hn:0<n) (k:Nat) (f:Bool) (l:List Rb):Ev.sc n (Rw f erb k (rbCs l))=true:=by
 have:=dP0 n hn l
 simp[Ev.sc,Rw,scL,this,hn]
theorem sO1 (n:Nat) (hn:0<n) (l:List Rb):Ev.sc n (rbsV l)=true:=nP1 n hn ..
theorem zN2 (x:Rb):rbCs [x]=rbC x:=by rw[rbCs,rbCs,List.append_nil]
theorem fQ0:∀ (l:List Rb) (i:Nat),(rbCs l).drop (i*5)=rbCs (l.drop i)
 | l,0=>by simp
 | [],i+1=>by simp[rbCs]
 | x :: l,i+1=>by
  rw[rbCs,List.drop_succ_cons,← fQ0 l i,Nat.add_mul,Nat.one_mul,Nat.add_comm,← List.drop_drop,List.drop_append_of_le_length (by rw[qO0];exact Nat.le_refl _),show (rbC x).drop 5=[] from List.drop_of_length_le (by rw[qO0];exact Nat.le_refl _),List.nil_append]
theorem jL0 {l:List Rb} {i:Nat} {x:Rb} (h:l[i]?=some x):((rbCs l).drop (i*5)).take 5=rbC x:=by
 have hi:i<l.length:=(List.getElem?_eq_some_iff.1 h).1
 have hd:l.drop i=x :: l.drop (i+1):=by rw[List.drop_eq_getElem_cons hi];congr 1;exact (List.getElem?_eq_some_iff.1 h).2
 rw[fQ0,hd,rbCs,List.take_append_of_le_length (by rw[qO0];exact Nat.le_refl _),List.take_of_length_le (by rw[qO0];exact Nat.le_refl _)]
theorem eI1 {l:List Rb} {i j:Nat} {x:Rb} {v:Value} (h:l[i]?=some x) (hj:j<5) (hv:(rbC x)[j]?=some v):(rbCs l)[i*5+j]?=some v:=by
 have h1:=jL0 h
 rw[← h1,List.getElem?_take_of_lt hj,List.getElem?_drop] at hv
 exact hv
theorem eH1 (x:Rb):Value.agg ⟨rbC x⟩=rbV x:=rfl
theorem wU1 (x:Rb):(rbV x).cells.toList=rbC x:=rfl
attribute [push_cast] zO2 dQ0 eH1 dP0 zM2 sO1 nP1 wV1 wW1 wU1 qO0
theorem zG1 (G:Nat×Nat) (n:Nat) (σ:jA):FzV (pp G).P n σ (.slice none 0 0) (qA []):=.nil (size:=9) rfl (by decide)
theorem wT0 (G:Nat×Nat) (n:Nat) (σ:jA):FzV (pp G).P n σ (.slice none 0 0) (exsV []):=.nil (size:=4) rfl (by decide)
theorem oM0 (G:Nat×Nat) (n:Nat) (σ:jA):FzV (pp G).P n σ (.slice none 0 0) (prsV []):=.nil (size:=8) rfl (by decide)
theorem kC2 (G:Nat×Nat) (n:Nat) (σ:jA):FzV (pp G).P n σ (.slice none 0 0) (ivV []):=.nil (size:=1) rfl (by decide)
theorem kB2 (G:Nat×Nat) (n:Nat) (σ:jA):FzV (pp G).P n σ (.slice none 0 0) (nsV []):=.nil (size:=1) rfl (by decide)
end
end Go.Proofs.Ytgeakofgklcipaa
namespace Go.Proofs.Ytgeakofgklcipaa
open Go Go.RowKit Go.Ev Go.Dv
noncomputable section
set_option maxRecDepth 100000
variable (G:Nat×Nat)
theorem gW {A c z:List Value} {w k off:Nat} (hA:A.length=off) (hz:z.length=w):(A++(List.replicate (k+1) z).flatten).take off++c++(A++(List.replicate (k+1) z).flatten).drop (off+w)=(A++c)++(List.replicate k z).flatten:=by
 subst hA
 rw[List.take_left,List.drop_append,List.drop_of_length_le (by omega),List.nil_append,Nat.add_sub_cancel_left,List.replicate_succ,List.flatten_cons,List.drop_append,List.drop_of_length_le (by omega),List.nil_append,hz,Nat.sub_self,List.drop_zero]
theorem jF0 {A z:List Value} {w k off n:Nat} (hA:A.length=off) (hz:z.length=w) (hn:off+k*w=n):(A++(List.replicate k z).flatten).length=n:=by
 rw[List.length_append,List.length_flatten,List.map_replicate,List.sum_replicate_nat,hA,hz,hn]
theorem jL {α:Type} {l:List α} {i:Nat} {x:α} (h:l[i]?=some x):l.take (i+1)=l.take i++[x]:=by
 rw[List.take_add_one,h];rfl
theorem jM {α:Type} {l:List α} {i:Nat} (h:i<l.length):∃ x,l[i]?=some x:=⟨_,List.getElem?_eq_getElem h⟩
def zex:List Value:=[.int .i64 0,.int .i64 0,.string (Tx []),.slice none 0 0]
inductive ILex (l:List Ex) (fv:Value):Nat→S→Prop
 | mk (i:Nat) (iv:Int) (h:jA) {x0 x2 x3 x4 x6 x7 x8 x9 xA xB xC xD xH xI xJ xK xL xM xN xO xP xQ xR xS:Value} (hiv:iv=(i:Int)) (hi:i≤l.length) (c1:cells h 1=some (uX (l.take i)++(List.replicate (l.length-i) zex).flatten,31,false)) (hl1:h.lo=1) (hl2:2≤h.next) :
  ILex l fv (l.length-i) ⟨(F29 x0 fv x2 x3 x4 (.slice (some ⟨1,0,none⟩) l.length l.length) x6 x7 x8 x9 xA xB xC xD (Rw false eE l.length (uX l)) (.int .i64 l.length) (.int .i64 iv) xH xI xJ xK xL xM xN xO xP xQ xR xS),[],h⟩
theorem fB1 (l:List Ex) (f:FuncId) (hll:l.length<100000000000) (hf:∀ x∈l,jG (pp G) H0 f [exV x] (exV x)):jG (pp G) H0 88 [exsV l,.func (.func f) #[] #[]] (exsV l):=by
 have hlo:H0.lo≤H0.next:=Nat.le_refl _;refine jG.cut (jD.fir4 (q:=qq) (jJ G) fir88 (by kernel_rfl) rfl rfl (kF0 ..) (show NGG≤H0.lo by rw[jW];decide) ?_);rw[pY1]
 unfold exsV
 by_cases h0:l.length=0
 ·have h0':(l.length:Int)=0:=by omega
  obtain rfl:l=[]:=List.length_eq_zero_iff.1 h0
  simp(disch:=first|omega|(apply id;simp only[push_cast];try omega))only[push_cast,simprocAttr,h0']
  exact .nil (size:=4) rfl (by decide)
 have h0':¬ (l.length:Int)=0:=by omega
 have h1:(l.length:Int)*400+l.length<100000000000000:=by omega
 simp(disch:=first|omega|(apply id;simp only[push_cast];try omega))only[push_cast,simprocAttr,h0',h1]
 refine WD.loop4 (q:=qq) (jJ G) (by kernel_rfl) (ILex l (.func (.func f) #[] #[])) ?_ _ _ (ILex.mk 0 0 _ rfl (Nat.zero_le _) (by simp(disch:=first|omega|(apply id;simp only[push_cast];try omega))only[push_cast,simprocAttr,List.take_zero];rfl) rfl (by first|assumption|(simp(disch:=first|omega|(apply id;simp only[push_cast];try omega))only[push_cast,simprocAttr];try omega)))
 intro m s1 hI
 cases hI with|mk i iv h hiv hi c1 hl1 hl2=>
 subst hiv
 rw[rF0]
 by_cases hil:(i:Int)<l.length
 ·obtain ⟨x,hx⟩:=jM (l:=l) (i:=i) (by omega)
  have hxm:=List.mem_of_getElem? hx
  have hp:=zA0 hx
  have hle:i*4+4≤l.length*4:=by omega
  simp(disch:=first|omega|(apply id;simp only[push_cast];try omega))only[push_cast,simprocAttr,hil,Int.toNat_natCast,hp,hle,hl1]
  refine jB.dataI (hf x hxm) (by and_intros<;>first|rfl|(simp(disch:=first|omega|(apply id;simp only[push_cast];try omega))only[push_cast])) ?_
  obtain ⟨k,hk⟩:∃ k,l.length-i=k+1:=⟨l.length-i-1,by omega⟩
  have hta:(uX (l.take i)).length=i*4:=by rw[zB0,List.length_take,Nat.min_eq_left hi]
  have hlen:=jF0 (w:=4) (z:=zex) (k:=l.length-i) (n:=l.length*4) hta rfl (by rw[Nat.sub_mul];omega)
  have hst:=gW (c:=exC x) (w:=4) (z:=zex) (k:=k) hta rfl
  rw[← hk,← oH1,← eP0,← jL hx,show k=l.length-(i+1) by omega,oH1] at hst
  simp(disch:=first|omega|(apply id;simp only[push_cast];try omega))only[push_cast,simprocAttr,hil,Int.toNat_natCast,hle,hl1,c1,hlen,hst]
  exact ⟨_,by omega,ILex.mk (i+1) _ _ (by first|rfl|omega) (by omega) (by first|assumption|(simp(disch:=first|omega|(apply id;simp only[push_cast];try omega))only[push_cast,simprocAttr];try omega)) (by first|assumption|(simp(disch:=first|omega|(apply id;simp only[push_cast];try omega))only[push_cast,simprocAttr,hl1];try omega)) (by first|assumption|(simp(disch:=first|omega|(apply id;simp only[push_cast];try omega))only[push_cast,simprocAttr];try omega))⟩
 ·have hie:i=l.length:=by omega
  subst hie
  rw[List.take_length,Nat.sub_self,List.replicate_zero,List.flatten_nil,List.append_nil] at c1
  simp(disch:=first|omega|(apply id;simp only[push_cast];try omega))only[push_cast,simprocAttr,hil]
  rw[rE0]
  simp(disch:=first|omega|(apply id;simp only[push_cast];try omega))only[push_cast,simprocAttr]
  refine .sl (by simp(disch:=first|omega|(apply id;simp only[push_cast];try omega))only[push_cast,simprocAttr]) c1 (size:=4) rfl (by decide) (by first|assumption|(simp(disch:=first|omega|(apply id;simp only[push_cast];try omega))only[push_cast,simprocAttr];try omega)) (.inl ⟨by simp only[UC];omega,Nat.le_refl _⟩) ?_
  rw[List.drop_zero,List.take_of_length_le (by rw[zB0];exact Nat.le_refl _)]
  exact .ids (jZ0 _ H0q l)
def ztm:List Value:=[.int .i64 0,.int .i64 0,.int .i64 0,.string (Tx []),.int .i64 0,.int .i64 0,.string (Tx []),.slice none 0 0,.slice none 0 0]
inductive ILtm (l:List Tm) (fv:Value):Nat→S→Prop
 | mk (i:Nat) (iv:Int) (h:jA) {x0 x2 x3 x4 x6 x7 x8 x9 xA xB xC xD xH xI xJ xK xL xM xN xO xP xQ xR xS:Value} (hiv:iv=(i:Int)) (hi:i≤l.length) (c1:cells h 1=some (jY (l.take i)++(List.replicate (l.length-i) ztm).flatten,34,false)) (hl1:h.lo=1) (hl2:2≤h.next) :
  ILtm l fv (l.length-i) ⟨(F29 x0 fv x2 x3 x4 (.slice (some ⟨1,0,none⟩) l.length l.length) x6 x7 x8 x9 xA xB xC xD (Rw false etm l.length (jY l)) (.int .i64 l.length) (.int .i64 iv) xH xI xJ xK xL xM xN xO xP xQ xR xS),[],h⟩
theorem dZ0 (l:List Tm) (f:FuncId) (hll:l.length<100000000000) (hf:∀ x∈l,jG (pp G) H0 f [tmV x] (tmV x)):jG (pp G) H0 73 [qA l,.func (.func f) #[] #[]] (qA l):=by
 have hlo:H0.lo≤H0.next:=Nat.le_refl _;refine jG.cut (jD.fir4 (q:=qq) (jJ G) jX2 (by kernel_rfl) rfl rfl (kF0 ..) (show NGG≤H0.lo by rw[jW];decide) ?_);rw[lS0]
 unfold qA
 by_cases h0:l.length=0
 ·have h0':(l.length:Int)=0:=by omega
  obtain rfl:l=[]:=List.length_eq_zero_iff.1 h0
  simp(disch:=first|omega|(apply id;simp only[push_cast];try omega))only[push_cast,simprocAttr,h0']
  exact .nil (size:=9) rfl (by decide)
 have h0':¬ (l.length:Int)=0:=by omega
 have h1:(l.length:Int)*400+l.length<100000000000000:=by omega
 simp(disch:=first|omega|(apply id;simp only[push_cast];try omega))only[push_cast,simprocAttr,h0',h1]
 refine WD.loop4 (q:=qq) (jJ G) (by kernel_rfl) (ILtm l (.func (.func f) #[] #[])) ?_ _ _ (ILtm.mk 0 0 _ rfl (Nat.zero_le _) (by simp(disch:=first|omega|(apply id;simp only[push_cast];try omega))only[push_cast,simprocAttr,List.take_zero];rfl) rfl (by first|assumption|(simp(disch:=first|omega|(apply id;simp only[push_cast];try omega))only[push_cast,simprocAttr];try omega)))
 intro m s1 hI
 cases hI with|mk i iv h hiv hi c1 hl1 hl2=>
 subst hiv
 rw[bW0]
 by_cases hil:(i:Int)<l.length
 ·obtain ⟨x,hx⟩:=jM (l:=l) (i:=i) (by omega)
  have hxm:=List.mem_of_getElem? hx
  have hp:=uW hx
  have hle:i*9+9≤l.length*9:=by omega
  simp(disch:=first|omega|(apply id;simp only[push_cast];try omega))only[push_cast,simprocAttr,hil,Int.toNat_natCast,hp,hle,hl1]
  refine jB.dataI (hf x hxm) (by and_intros<;>first|rfl|(simp(disch:=first|omega|(apply id;simp only[push_cast];try omega))only[push_cast])) ?_
  obtain ⟨k,hk⟩:∃ k,l.length-i=k+1:=⟨l.length-i-1,by omega⟩
  have hta:(jY (l.take i)).length=i*9:=by rw[qR,List.length_take,Nat.min_eq_left hi]
  have hlen:=jF0 (w:=9) (z:=ztm) (k:=l.length-i) (n:=l.length*9) hta rfl (by rw[Nat.sub_mul];omega)
  have hst:=gW (c:=tmC x) (w:=9) (z:=ztm) (k:=k) hta rfl
  rw[← hk,← yL0,← bD,← jL hx,show k=l.length-(i+1) by omega,yL0] at hst
  simp(disch:=first|omega|(apply id;simp only[push_cast];try omega))only[push_cast,simprocAttr,hil,Int.toNat_natCast,hle,hl1,c1,hlen,hst]
  exact ⟨_,by omega,ILtm.mk (i+1) _ _ (by first|rfl|omega) (by omega) (by first|assumption|(simp(disch:=first|omega|(apply id;simp only[push_cast];try omega))only[push_cast,simprocAttr];try omega)) (by first|assumption|(simp(disch:=first|omega|(apply id;simp only[push_cast];try omega))only[push_cast,simprocAttr,hl1];try omega)) (by first|assumption|(simp(disch:=first|omega|(apply id;simp only[push_cast];try omega))only[push_cast,simprocAttr];try omega))⟩
 ·have hie:i=l.length:=by omega
  subst hie
  rw[List.take_length,Nat.sub_self,List.replicate_zero,List.flatten_nil,List.append_nil] at c1
  simp(disch:=first|omega|(apply id;simp only[push_cast];try omega))only[push_cast,simprocAttr,hil]
  rw[bV0]
  simp(disch:=first|omega|(apply id;simp only[push_cast];try omega))only[push_cast,simprocAttr]
  refine .sl (by simp(disch:=first|omega|(apply id;simp only[push_cast];try omega))only[push_cast,simprocAttr]) c1 (size:=9) rfl (by decide) (by first|assumption|(simp(disch:=first|omega|(apply id;simp only[push_cast];try omega))only[push_cast,simprocAttr];try omega)) (.inl ⟨by simp only[UC];omega,Nat.le_refl _⟩) ?_
  rw[List.drop_zero,List.take_of_length_le (by rw[qR];exact Nat.le_refl _)]
  exact .ids (gO _ H0q l)
mutual
def smE:Ex→Bool
 | .mk k n s l=>decide (l.length<100000000000)&&smEs l
def smEs:List Ex→Bool
 | []=>true
 | x :: l=>smE x&&smEs l
end
mutual
def smT:Tm→Bool
 | .mk k a b s e l=>decide (l.length<100000000000)&&smE e&&smTs l
def smTs:List Tm→Bool
 | []=>true
 | x :: l=>smT x&&smTs l
end
theorem wK0:∀ {l:List Ex},smEs l=true→∀ x∈l,smE x=true
 | [],_,x,hx=>by cases hx
 | y :: l,h,x,hx=>by
  simp only[smEs,Bool.and_eq_true] at h
  rcases List.mem_cons.1 hx with rfl|hx
  ·exact h.1
  ·exact wK0 h.2 x hx
theorem qN:∀ {l:List Tm},smTs l=true→∀ x∈l,smT x=true
 | [],_,x,hx=>by cases hx
 | y :: l,h,x,hx=>by
  simp only[smTs,Bool.and_eq_true] at h
  rcases List.mem_cons.1 hx with rfl|hx
  ·exact h.1
  ·exact qN h.2 x hx
theorem uJ1:∀ {l:List Tm},(∀ x∈l,smT x=true)→smTs l=true
 | [],_=>rfl
 | y :: l,h=>by rw[smTs,h y (by simp),uJ1 fun x hx=>h x (by simp[hx])];rfl
theorem nU1:∀ x:Ex,smE x=true→jG (pp G) H0 74 [exV x] (exV x)
 | .mk k n s l,hs=>by
  simp only[smE,Bool.and_eq_true,decide_eq_true_eq] at hs
  have hl:=fB1 G l 74 hs.1 fun x hx=>nU1 x (wK0 hs.2 x hx)
  have hlo:H0.lo≤H0.next:=Nat.le_refl _;refine jG.cut (jD.fir4 (q:=qq) (jJ G) fir74 (by kernel_rfl) rfl rfl (cJ1 ..) (show NGG≤H0.lo by rw[jW];decide) ?_);rw[rH1]
  unfold exV exC
  simp(disch:=first|omega|(apply id;simp only[push_cast];try omega))only[push_cast,simprocAttr]
  refine jB.dataI (hl) (by and_intros<;>first|rfl|(simp(disch:=first|omega|(apply id;simp only[push_cast];try omega))only[push_cast])) ?_
  unfold exsV
  simp(disch:=first|omega|(apply id;simp only[push_cast];try omega))only[push_cast,simprocAttr]
  exact .id (oX0 _ H0q (.mk k n s l))
 termination_by x=>SizeOf.sizeOf x
theorem yW0:∀ x:Tm,smT x=true→jG (pp G) H0 54 [tmV x] (tmV x)
 | .mk k a b s e l,hs=>by
  simp only[smT,Bool.and_eq_true,decide_eq_true_eq] at hs
  have hl:=dZ0 G l 54 hs.1.1 fun x hx=>yW0 x (qN hs.2 x hx)
  have hT:jG (pp G) H0 56 [qA l] (qA l):=by
   have hlo:H0.lo≤H0.next:=Nat.le_refl _;refine jG.cut (jD.fir4 (q:=qq) (jJ G) jY2 (by kernel_rfl) rfl rfl (lE0 ..) (show NGG≤H0.lo by rw[jW];decide) ?_);rw[lT0]
   unfold qA
   simp(disch:=first|omega|(apply id;simp only[push_cast];try omega))only[push_cast,simprocAttr]
   refine jB.dataI (hl) (by and_intros<;>first|rfl|(simp(disch:=first|omega|(apply id;simp only[push_cast];try omega))only[push_cast])) ?_
   unfold qA
   simp(disch:=first|omega|(apply id;simp only[push_cast];try omega))only[push_cast,simprocAttr]
   exact .id (by simp(disch:=first|omega|(apply id;simp only[push_cast];try omega))only[push_cast,simprocAttr])
  have hlo:H0.lo≤H0.next:=Nat.le_refl _;refine jG.cut (jD.fir4 (q:=qq) (jJ G) fir54 (by kernel_rfl) rfl rfl (uU2 ..) (show NGG≤H0.lo by rw[jW];decide) ?_);rw[rS1]
  unfold tmV tmC
  simp(disch:=first|omega|(apply id;simp only[push_cast];try omega))only[push_cast,simprocAttr]
  refine jB.dataI (nU1 G e hs.1.2) (by and_intros<;>first|rfl|(simp(disch:=first|omega|(apply id;simp only[push_cast];try omega))only[push_cast])) ?_
  simp(disch:=first|omega|(apply id;simp only[push_cast];try omega))only[push_cast,simprocAttr,gU1]
  refine jB.dataI (hT) (by and_intros<;>first|rfl|(simp(disch:=first|omega|(apply id;simp only[push_cast];try omega))only[push_cast])) ?_
  unfold qA
  simp(disch:=first|omega|(apply id;simp only[push_cast];try omega))only[push_cast,simprocAttr,gU1]
  exact .id (fD0 _ H0q (.mk k a b s e l))
 termination_by x=>SizeOf.sizeOf x
mutual
def wN0:Ex→Ex→Bool
 | .mk k n s l,.mk k' n' s' l'=>decide (k=k')&&(decide (n=n')&&(decide (s=s')&&(decide (l.length=l'.length)&&jK0 l l')))
def jK0:List Ex→List Ex→Bool
 | x :: l,y :: m=>wN0 x y&&jK0 l m
 | _,_=>true
end
theorem cI0:∀ {l m:List Ex},jK0 l m=true→∀ (i:Nat) (x y:Ex),l[i]?=some x→m[i]?=some y→wN0 x y=true
 | [],_,_,i,x,y,h1,_=>by simp at h1
 | _ :: _,[],_,i,x,y,_,h2=>by simp at h2
 | a :: l,b :: m,h,i,x,y,h1,h2=>by
  simp only[jK0,Bool.and_eq_true] at h
  cases i with
  | zero=>simp at h1 h2;subst h1 h2;exact h.1
  | succ i=>simp at h1 h2;exact cI0 h.2 i x y h1 h2
theorem fL0:∀ {l m:List Ex},(∀ (i:Nat) (x y:Ex),l[i]?=some x→m[i]?=some y→wN0 x y=true)→jK0 l m=true
 | [],_,_=>by simp[jK0]
 | _ :: _,[],_=>by simp[jK0]
 | a :: l,b :: m,h=>by
  rw[jK0,h 0 a b rfl rfl,fL0 fun i x y h1 h2=>h (i+1) x y (by simpa using h1) (by simpa using h2)];rfl
inductive I57 (k n:Int) (s:List UInt8) (l:List Ex) (k' n':Int) (s':List UInt8) (l':List Ex):Nat→S→Prop
 | mk (i : Nat) (iv : Int) (h : jA) {x0 x1 x4 x6 x7 x8 x9 xA xB xC xD xE xF xG xH xI xJ xK xL xM xN xO xP xQ xR xS xT xU xV xW xX xY xZ yA yB yC yD yE yF yG yH yI yJ yK yL yM yN yO yP yQ : Value} (hiv : iv = (i : Int)) (hi : i ≤ l.length) (c1 : cells h 1 = some (exC (.mk k n s l), 31, false)) (c2 : cells h 2 = some (exC (.mk k' n' s' l'), 31, false)) (hl1 : h.lo = 1) (hl2 : 3 ≤ h.next)
   (ha:∀ j,j<i→∀ x y,l[j]?=some x→l'[j]?=some y→wN0 x y=true) :
  I57 k n s l k' n' s' l' (l.length-i) ⟨(F53 x0 x1 (.pointer (some ⟨1,0,none⟩)) (.pointer (some ⟨2,0,none⟩)) x4 (.int .i64 iv) x6 x7 x8 x9 xA xB xC xD xE xF xG xH xI xJ xK xL xM xN xO xP xQ xR xS xT xU xV xW xX xY xZ yA yB yC yD yE yF yG yH yI yJ yK yL yM yN yO yP yQ),[],h⟩
theorem nN1:∀ a b:Ex,smE a=true→smE b=true→jG (pp G) H0 57 [exV a,exV b] (.bool (wN0 a b))
 | .mk k n s l,.mk k' n' s' l',hs,hs'=>by
  simp only[smE,Bool.and_eq_true,decide_eq_true_eq] at hs hs'
  have ih:∀ x∈l,∀ y∈l',jG (pp G) H0 57 [exV x,exV y] (.bool (wN0 x y)):=fun x hx y hy=>nN1 x y (wK0 hs.2 x hx) (wK0 hs'.2 y hy)
  have hlo:H0.lo≤H0.next:=Nat.le_refl _;refine jG.cut (jD.fir4 (q:=qq) (jJ G) fir57 (by kernel_rfl) rfl rfl (uK2 ..) (show NGG≤H0.lo by rw[jW];decide) ?_);rw[rR1]
  rw[wN0]
  obtain ⟨b,hb⟩:∃ b,b=(decide (k=k')&&(decide (n=n')&&(decide (s=s')&&(decide (l.length=l'.length)&&jK0 l l')))):=⟨_,rfl⟩
  rw[← hb]
  by_cases h1:k=k'
  rotate_left
  ·obtain rfl:b=false:=by rw[hb];simp[h1]
   simp(disch:=first|omega|(apply id;simp only[push_cast];try omega))only[push_cast,simprocAttr,h1]
   exact .id rfl
  by_cases h2:n=n'
  rotate_left
  ·obtain rfl:b=false:=by rw[hb];simp[h2]
   simp(disch:=first|omega|(apply id;simp only[push_cast];try omega))only[push_cast,simprocAttr,h1,h2]
   exact .id rfl
  by_cases h3:s=s'
  rotate_left
  ·obtain rfl:b=false:=by rw[hb];simp[h3]
   have h3':(s == s')=false:=by simpa using h3
   simp(disch:=first|omega|(apply id;simp only[push_cast];try omega))only[push_cast,simprocAttr,h1,h2,h3']
   exact .id rfl
  by_cases h4:l.length=l'.length
  rotate_left
  ·obtain rfl:b=false:=by rw[hb];simp[h4]
   have h4':¬ (l.length:Int)=l'.length:=by omega
   simp(disch:=first|omega|(apply id;simp only[push_cast];try omega))only[push_cast,simprocAttr,h1,h2,h3,h4',beq_self_eq_true]
   exact .id rfl
  have h4':(l.length:Int)=l'.length:=by omega
  have hb':b=jK0 l l':=by rw[hb];simp[h1,h2,h3,h4]
  clear hb
  simp(disch:=first|omega|(apply id;simp only[push_cast];try omega))only[push_cast,simprocAttr,h1,h2,h3,h4',beq_self_eq_true]
  refine WD.loop4 (q:=qq) (jJ G) (by kernel_rfl) (I57 k n s l k' n' s' l') ?_ _ _ (I57.mk 0 0 _ rfl (Nat.zero_le _) (by first|assumption|(simp(disch:=first|omega|(apply id;simp only[push_cast];try omega))only[push_cast,simprocAttr,h1,h2,h3];try omega)) (by first|assumption|(simp(disch:=first|omega|(apply id;simp only[push_cast];try omega))only[push_cast,simprocAttr,h1,h2,h3];try omega)) rfl (by first|assumption|(simp(disch:=first|omega|(apply id;simp only[push_cast];try omega))only[push_cast,simprocAttr];try omega)) (fun j hj=>by omega))
  intro m s1 hI
  cases hI with|mk i iv h hiv hi c1 c2 hl1 hl2 ha=>
  subst hiv
  rw[sN0]
  by_cases hil:(i:Int)<l'.length
  ·obtain ⟨x,hx⟩:=jM (l:=l) (i:=i) (by omega)
   obtain ⟨y,hy⟩:=jM (l:=l') (i:=i) (by omega)
   have hp:=zA0 hx
   have hp':=zA0 hy
   have hle:i*4+4≤l'.length*4:=by omega
   have hle2:i*4+4≤l.length*4:=by omega
   simp(disch:=first|omega|(apply id;simp only[push_cast];try omega))only[push_cast,simprocAttr,hil,Int.toNat_natCast,hp,hp',hle,hle2,hl1,c1,c2,h4']
   refine jB.dataI (ih x (List.mem_of_getElem? hx) y (List.mem_of_getElem? hy)) (by and_intros<;>first|rfl|(simp(disch:=first|omega|(apply id;simp only[push_cast];try omega))only[push_cast])) ?_
   cases hr:wN0 x y with
   | true=>
    simp(disch:=first|omega|(apply id;simp only[push_cast];try omega))only[push_cast,simprocAttr]
    exact ⟨_,by omega,I57.mk (i+1) _ _ (by first|rfl|omega) (by omega) (by first|assumption|(simp(disch:=first|omega|(apply id;simp only[push_cast];try omega))only[push_cast,simprocAttr,c1];try omega)) (by first|assumption|(simp(disch:=first|omega|(apply id;simp only[push_cast];try omega))only[push_cast,simprocAttr,c2];try omega)) (by first|assumption|(simp(disch:=first|omega|(apply id;simp only[push_cast];try omega))only[push_cast,simprocAttr,hl1];try omega)) (by first|assumption|(simp(disch:=first|omega|(apply id;simp only[push_cast];try omega))only[push_cast,simprocAttr];try omega)) fun j hj u v hu hv=>by
     by_cases e:j=i
     ·subst e;rw[hx] at hu;rw[hy] at hv;cases hu;cases hv;exact hr
     ·exact ha j (by omega) u v hu hv⟩
   | false=>
    obtain rfl:b=false:=by
     rw[hb']
     cases hc:jK0 l l' with
     | false=>rfl
     | true=>rw[cI0 hc i x y hx hy] at hr;cases hr
    simp(disch:=first|omega|(apply id;simp only[push_cast];try omega))only[push_cast,simprocAttr]
    exact .id rfl
  ·obtain rfl : b = true := by
    rw[hb']
    exact fL0 fun j u v hu hv=>ha j (by have:=(List.getElem?_eq_some_iff.1 hu).1;omega) u v hu hv
   simp(disch:=first|omega|(apply id;simp only[push_cast];try omega))only[push_cast,simprocAttr,hil,c1,c2,hl1,h4']
   rw[sM0]
   simp(disch:=first|omega|(apply id;simp only[push_cast];try omega))only[push_cast,simprocAttr]
   exact .id rfl
 termination_by x=>SizeOf.sizeOf x
mutual
def zQ0:Tm→Tm→Bool
 | .mk k a b s e l,.mk k' a' b' s' e' l'=>decide (k=k')&&(decide (a=a')&&(decide (b=b')&&(decide (s=s')&&(wN0 e e'&&(decide (l.length=l'.length)&&gK l l')))))
def gK:List Tm→List Tm→Bool
 | x :: l,y :: m=>zQ0 x y&&gK l m
 | _,_=>true
end
theorem zP0:∀ {l m:List Tm},gK l m=true→∀ (i:Nat) (x y:Tm),l[i]?=some x→m[i]?=some y→zQ0 x y=true
 | [],_,_,i,x,y,h1,_=>by simp at h1
 | _ :: _,[],_,i,x,y,_,h2=>by simp at h2
 | a :: l,b :: m,h,i,x,y,h1,h2=>by
  simp only[gK,Bool.and_eq_true] at h
  cases i with
  | zero=>simp at h1 h2;subst h1 h2;exact h.1
  | succ i=>simp at h1 h2;exact zP0 h.2 i x y h1 h2
theorem yQ0:∀ {l m:List Tm},(∀ (i:Nat) (x y:Tm),l[i]?=some x→m[i]?=some y→zQ0 x y=true)→gK l m=true
 | [],_,_=>by simp[gK]
 | _ :: _,[],_=>by simp[gK]
 | a :: l,b :: m,h=>by
  rw[gK,h 0 a b rfl rfl,yQ0 fun i x y h1 h2=>h (i+1) x y (by simpa using h1) (by simpa using h2)];rfl
inductive I27 (t u:Tm):Nat→S→Prop
 | mk (i : Nat) (iv : Int) (h : jA) {x0 x1 x4 x6 x7 x8 x9 xA xB xC xD xE xF xG xH xI xJ xK xL xM xN xO xP xQ xR xS xT xU xV xW xX xY xZ yA yB yC yD yE yF yG yH yI yJ yK yL yM yN yO yP yQ yR yS yT yU yV yW yX yY yZ zA zB zC zD zF zG : Value} (hiv : iv = (i : Int)) (hi : i ≤ t.l.length) (c1 : cells h 1 = some (tmC t, 34, false)) (c2 : cells h 2 = some (tmC u, 34, false)) (hl1 : h.lo = 1) (hl2 : 3 ≤ h.next)
   (ha:∀ j,j<i→∀ x y,t.l[j]?=some x→u.l[j]?=some y→zQ0 x y=true) :
  I27 t u (t.l.length-i) ⟨(F68 x0 x1 (.pointer (some ⟨1,0,none⟩)) (.pointer (some ⟨2,0,none⟩)) x4 (.int .i64 iv) x6 x7 x8 x9 xA xB xC xD xE xF xG xH xI xJ xK xL xM xN xO xP xQ xR xS xT xU xV xW xX xY xZ yA yB yC yD yE yF yG yH yI yJ yK yL yM yN yO yP yQ yR yS yT yU yV yW yX yY yZ zA zB zC zD zF zG),[],h⟩
theorem nM1:∀ t u:Tm,smT t=true→smT u=true→jG (pp G) H0 27 [tmV t,tmV u] (.bool (zQ0 t u))
 | .mk k a b s e l,.mk k' a' b' s' e' l',hs,hs'=>by
  simp only[smT,Bool.and_eq_true,decide_eq_true_eq] at hs hs'
  have ih:∀ x∈l,∀ y∈l',jG (pp G) H0 27 [tmV x,tmV y] (.bool (zQ0 x y)):=fun x hx y hy=>nM1 x y (qN hs.2 x hx) (qN hs'.2 y hy)
  have he:=nN1 G e e' hs.1.2 hs'.1.2
  have hlo:H0.lo≤H0.next:=Nat.le_refl _;refine jG.cut (jD.fir4 (q:=qq) (jJ G) fir27 (by kernel_rfl) rfl rfl (cK1 ..) (show NGG≤H0.lo by rw[jW];decide) ?_);rw[sD1]
  rw[zQ0]
  obtain ⟨c,hb⟩:∃ c,c=(decide (k=k')&&(decide (a=a')&&(decide (b=b')&&(decide (s=s')&&(wN0 e e'&&(decide (l.length=l'.length)&&gK l l')))))):=⟨_,rfl⟩
  rw[← hb]
  by_cases h1:k=k'
  rotate_left
  ·obtain rfl:c=false:=by rw[hb];simp[h1]
   simp(disch:=first|omega|(apply id;simp only[push_cast];try omega))only[push_cast,simprocAttr,h1]
   exact .id rfl
  by_cases h2:a=a'
  rotate_left
  ·obtain rfl:c=false:=by rw[hb];simp[h2]
   simp(disch:=first|omega|(apply id;simp only[push_cast];try omega))only[push_cast,simprocAttr,h1,h2]
   exact .id rfl
  by_cases h5:b=b'
  rotate_left
  ·obtain rfl:c=false:=by rw[hb];simp[h5]
   simp(disch:=first|omega|(apply id;simp only[push_cast];try omega))only[push_cast,simprocAttr,h1,h2,h5]
   exact .id rfl
  by_cases h3:s=s'
  rotate_left
  ·obtain rfl:c=false:=by rw[hb];simp[h3]
   have h3':(s == s')=false:=by simpa using h3
   simp(disch:=first|omega|(apply id;simp only[push_cast];try omega))only[push_cast,simprocAttr,h1,h2,h5,h3']
   exact .id rfl
  simp(disch:=first|omega|(apply id;simp only[push_cast];try omega))only[push_cast,simprocAttr,h1,h2,h5,h3,beq_self_eq_true]
  refine jB.dataI (he) (by and_intros<;>first|rfl|(simp(disch:=first|omega|(apply id;simp only[push_cast];try omega))only[push_cast])) ?_
  by_cases h6:wN0 e e'=true
  rotate_left
  ·have h6:wN0 e e'=false:=by simpa using h6
   obtain rfl:c=false:=by rw[hb];simp[h6]
   simp(disch:=first|omega|(apply id;simp only[push_cast];try omega))only[push_cast,simprocAttr,h6]
   exact .id rfl
  by_cases h4:l.length=l'.length
  rotate_left
  ·obtain rfl:c=false:=by rw[hb];simp[h4]
   have h4':¬ (l.length:Int)=l'.length:=by omega
   simp(disch:=first|omega|(apply id;simp only[push_cast];try omega))only[push_cast,simprocAttr,h4',h6]
   exact .id rfl
  have h4':(l.length:Int)=l'.length:=by omega
  have hb':c=gK l l':=by rw[hb];simp[h1,h2,h3,h4,h5,h6]
  clear hb
  simp(disch:=first|omega|(apply id;simp only[push_cast];try omega))only[push_cast,simprocAttr,h4',h6]
  refine WD.loop4 (q:=qq) (jJ G) (by kernel_rfl) (I27 (.mk k a b s e l) (.mk k' a' b' s' e' l')) ?_ _ _ (I27.mk 0 0 _ rfl (Nat.zero_le _) (by first|assumption|(simp(disch:=first|omega|(apply id;simp only[push_cast];try omega))only[push_cast,simprocAttr,h1,h2,h3,h5];try omega)) (by first|assumption|(simp(disch:=first|omega|(apply id;simp only[push_cast];try omega))only[push_cast,simprocAttr,h1,h2,h3,h5];try omega)) rfl (by first|assumption|(simp(disch:=first|omega|(apply id;simp only[push_cast];try omega))only[push_cast,simprocAttr];try omega)) (fun j hj=>by omega))
  intro m s1 hI
  cases hI with|mk i iv h hiv hi c1 c2 hl1 hl2 ha=>
  subst hiv
  rw[tE0]
  simp only[Tm.l_mk] at ha hi
  by_cases hil:(i:Int)<l'.length
  ·obtain ⟨x,hx⟩:=jM (l:=l) (i:=i) (by omega)
   obtain ⟨y,hy⟩:=jM (l:=l') (i:=i) (by omega)
   have hp:=uW hx
   have hp':=uW hy
   have hle:i*9+9≤l'.length*9:=by omega
   have hle2:i*9+9≤l.length*9:=by omega
   simp(disch:=first|omega|(apply id;simp only[push_cast];try omega))only[push_cast,simprocAttr,hil,Int.toNat_natCast,hp,hp',hle,hle2,hl1,c1,c2,h4']
   refine jB.dataI (ih x (List.mem_of_getElem? hx) y (List.mem_of_getElem? hy)) (by and_intros<;>first|rfl|(simp(disch:=first|omega|(apply id;simp only[push_cast];try omega))only[push_cast])) ?_
   cases hr:zQ0 x y with
   | true=>
    simp(disch:=first|omega|(apply id;simp only[push_cast];try omega))only[push_cast,simprocAttr]
    exact ⟨_,by simp only[Tm.l_mk];omega,I27.mk (i+1) _ _ (by first|rfl|omega) (by simp only[Tm.l_mk];omega) (by first|assumption|(simp(disch:=first|omega|(apply id;simp only[push_cast];try omega))only[push_cast,simprocAttr,c1];try omega)) (by first|assumption|(simp(disch:=first|omega|(apply id;simp only[push_cast];try omega))only[push_cast,simprocAttr,c2];try omega)) (by first|assumption|(simp(disch:=first|omega|(apply id;simp only[push_cast];try omega))only[push_cast,simprocAttr,hl1];try omega)) (by first|assumption|(simp(disch:=first|omega|(apply id;simp only[push_cast];try omega))only[push_cast,simprocAttr];try omega)) fun j hj u v hu hv=>by
     by_cases e:j=i
     ·subst e;rw[Tm.l_mk,hx] at hu;rw[Tm.l_mk,hy] at hv;cases hu;cases hv;exact hr
     ·exact ha j (by omega) u v hu hv⟩
   | false=>
    obtain rfl:c=false:=by
     rw[hb']
     cases hc:gK l l' with
     | false=>rfl
     | true=>rw[zP0 hc i x y hx hy] at hr;cases hr
    simp(disch:=first|omega|(apply id;simp only[push_cast];try omega))only[push_cast,simprocAttr]
    exact .id rfl
  ·obtain rfl : c = true := by
    rw[hb']
    exact yQ0 fun j u v hu hv=>ha j (by have:=(List.getElem?_eq_some_iff.1 hu).1;omega) u v hu hv
   simp(disch:=first|omega|(apply id;simp only[push_cast];try omega))only[push_cast,simprocAttr,hil,c1,c2,hl1,h4']
   rw[tD0]
   simp(disch:=first|omega|(apply id;simp only[push_cast];try omega))only[push_cast,simprocAttr]
   exact .id rfl
 termination_by x=>SizeOf.sizeOf x
def qE0 (l:List Tm):Prop:=l.length<100000000000∧smTs l=true
def gQ (l m:List Tm):Bool:=decide (l.length=m.length)&&gK l m
inductive I35 (l m:List Tm):Nat→S→Prop
 | mk (i : Nat) (iv : Int) (h : jA) {x2 x3 x4 x6 x7 x8 x9 xA xB xC xD xE xF xG xH xI xJ xK xL xM xN xO xP xQ : Value} (hiv : iv = (i : Int)) (hi : i ≤ l.length) (hl1 : h.lo = 1) (hl2 : 1 ≤ h.next)
   (ha:∀ j,j<i→∀ x y,l[j]?=some x→m[j]?=some y→zQ0 x y=true) :
  I35 l m (l.length-i) ⟨(F27 (qA l) (qA m) x2 x3 x4 (.int .i64 iv) x6 x7 x8 x9 xA xB xC xD xE xF xG xH xI xJ xK xL xM xN xO xP xQ),[],h⟩
theorem zD2 (l l':List Tm) (hs:qE0 l) (hs':qE0 l'):jG (pp G) H0 35 [qA l,qA l'] (.bool (gQ l l')):=by
 have ih:∀ x∈l,∀ y∈l',jG (pp G) H0 27 [tmV x,tmV y] (.bool (zQ0 x y)):=fun x hx y hy=>nM1 G x y (qN hs.2 x hx) (qN hs'.2 y hy)
 have hsl:=hs.1
 have hsl':=hs'.1
 have hlo:H0.lo≤H0.next:=Nat.le_refl _;refine jG.cut (jD.fir4 (q:=qq) (jJ G) fir35 (by kernel_rfl) rfl rfl (nT0 ..) (show NGG≤H0.lo by rw[jW];decide) ?_);rw[rZ1]
 obtain ⟨c,hb⟩:∃ c,c=gQ l l':=⟨_,rfl⟩
 rw[← hb]
 unfold qA
 by_cases h4:l.length=l'.length
 rotate_left
 ·obtain rfl:c=false:=by rw[hb];simp[gQ,h4]
  have h4':¬ (l.length:Int)=l'.length:=by omega
  simp(disch:=first|omega|(apply id;simp only[push_cast];try omega))only[push_cast,simprocAttr,h4']
  exact .id rfl
 have h4':(l.length:Int)=l'.length:=by omega
 have hb':c=gK l l':=by rw[hb];simp[gQ,h4]
 simp(disch:=first|omega|(apply id;simp only[push_cast];try omega))only[push_cast,simprocAttr,h4']
 refine WD.loop4 (q:=qq) (jJ G) (by kernel_rfl) (I35 l l') ?_ _ _ (I35.mk 0 0 _ rfl (Nat.zero_le _) rfl (by first|assumption|(simp(disch:=first|omega|(apply id;simp only[push_cast];try omega))only[push_cast,simprocAttr];try omega)) (fun j hj=>by omega))
 intro m s1 hI
 cases hI with|mk i iv h hiv hi hl1 hl2 ha=>
 subst hiv
 rw[sX0]
 unfold qA
 by_cases hil:(i:Int)<l'.length
 ·obtain ⟨x,hx⟩:=jM (l:=l) (i:=i) (by omega)
  obtain ⟨y,hy⟩:=jM (l:=l') (i:=i) (by omega)
  have hp:=uW hx
  have hp':=uW hy
  have hle:i*9+9≤l'.length*9:=by omega
  have hle2:i*9+9≤l.length*9:=by omega
  simp(disch:=first|omega|(apply id;simp only[push_cast];try omega))only[push_cast,simprocAttr,hil,Int.toNat_natCast,hp,hp',hle,hle2,hl1,h4']
  refine jB.dataI (ih x (List.mem_of_getElem? hx) y (List.mem_of_getElem? hy)) (by and_intros<;>first|rfl|(simp(disch:=first|omega|(apply id;simp only[push_cast];try omega))only[push_cast])) ?_
  cases hr:zQ0 x y with
  | true=>
   simp(disch:=first|omega|(apply id;simp only[push_cast];try omega))only[push_cast,simprocAttr]
   exact ⟨_,by omega,I35.mk (i+1) _ _ (by first|rfl|omega) (by omega) (by first|assumption|(simp(disch:=first|omega|(apply id;simp only[push_cast];try omega))only[push_cast,simprocAttr,hl1];try omega)) (by first|assumption|(simp(disch:=first|omega|(apply id;simp only[push_cast];try omega))only[push_cast,simprocAttr];try omega)) fun j hj u v hu hv=>by
    by_cases e:j=i
    ·subst e;rw[hx] at hu;rw[hy] at hv;cases hu;cases hv;exact hr
    ·exact ha j (by omega) u v hu hv⟩
  | false=>
   obtain rfl:c=false:=by
    rw[hb']
    cases hc:gK l l' with
    | false=>rfl
    | true=>rw[zP0 hc i x y hx hy] at hr;cases hr
   simp(disch:=first|omega|(apply id;simp only[push_cast];try omega))only[push_cast,simprocAttr]
   exact .id rfl
 ·obtain rfl : c = true := by
   rw[hb']
   exact yQ0 fun j u v hu hv=>ha j (by have:=(List.getElem?_eq_some_iff.1 hu).1;omega) u v hu hv
  simp(disch:=first|omega|(apply id;simp only[push_cast];try omega))only[push_cast,simprocAttr,hil,h4']
  rw[cE0]
  simp(disch:=first|omega|(apply id;simp only[push_cast];try omega))only[push_cast,simprocAttr]
  exact .id rfl
abbrev eR:Nat:=32
def trs (s:List (List Tm)):List Value:=s.map qA
def trV (s:List (List Tm)):Value:=Rw false eR s.length (trs s)
theorem zM0 (s:List (List Tm)):(trs s).length=s.length:=by simp[trs]
theorem lK0:∀ s:List (List Tm),(trs s).all one=true
 | []=>rfl
 | x :: s=>by
  have:=lK0 s
  simp only[trs] at this
  simp only[trs,List.map_cons,List.all_cons,this,Bool.and_true]
  rfl
theorem bP0 (n:Nat) (hn:0<n):∀ s:List (List Tm),scL n (trs s)=true
 | []=>rfl
 | x :: s=>by
  have:=bP0 n hn s
  simp only[trs] at this
  simp[trs,scL,this,zN0 n hn]
theorem nW0 (n:Nat) (hn:0<n) (k:Nat) (f:Bool) (s:List (List Tm)):Ev.sc n (Rw f eR k (trs s))=true:=by
 have:=bP0 n hn s
 simp[Ev.sc,Rw,scL,this,hn]
theorem uR0 {s:List (List Tm)} {i:Nat} {l:List Tm} (h:s[i]?=some l):(trs s)[i]?=some (qA l):=by simp[trs,h]
theorem qZ1 (a b:List (List Tm)):trs (a++b)=trs a++trs b:=by simp[trs]
attribute [push_cast] zM0 lK0 bP0 nW0
def kM (s:List (List Tm)):Prop:=s.length<100000000000∧∀ l∈s,qE0 l
def gR:List (List Tm)→List (List Tm)→Bool
 | x :: l,y :: m=>gQ x y&&gR l m
 | _,_=>true
theorem bA0:∀ {l m:List (List Tm)},gR l m=true→∀ (i:Nat) (x y:List Tm),l[i]?=some x→m[i]?=some y→gQ x y=true
 | [],_,_,i,x,y,h1,_=>by simp at h1
 | _ :: _,[],_,i,x,y,_,h2=>by simp at h2
 | a :: l,b :: m,h,i,x,y,h1,h2=>by
  simp only[gR,Bool.and_eq_true] at h
  cases i with
  | zero=>simp at h1 h2;subst h1 h2;exact h.1
  | succ i=>simp at h1 h2;exact bA0 h.2 i x y h1 h2
theorem cX0:∀ {l m:List (List Tm)},(∀ (i:Nat) (x y:List Tm),l[i]?=some x→m[i]?=some y→gQ x y=true)→gR l m=true
 | [],_,_=>by simp[gR]
 | _ :: _,[],_=>by simp[gR]
 | a :: l,b :: m,h=>by
  rw[gR,h 0 a b rfl rfl,cX0 fun i x y h1 h2=>h (i+1) x y (by simpa using h1) (by simpa using h2)];rfl
def bR0 (l m:List (List Tm)):Bool:=decide (l.length=m.length)&&gR l m
inductive I32 (l m:List (List Tm)):Nat→S→Prop
 | mk (i : Nat) (iv : Int) (h : jA) {x2 x3 x4 x6 x7 x8 x9 xA xB xC xD xE xF xG xH xI xJ xK xL xM xN xO xP xQ : Value} (hiv : iv = (i : Int)) (hi : i ≤ l.length) (hl1 : h.lo = 1) (hl2 : 1 ≤ h.next)
   (ha:∀ j,j<i→∀ x y,l[j]?=some x→m[j]?=some y→gQ x y=true) :
  I32 l m (l.length-i) ⟨(F27 (trV l) (trV m) x2 x3 x4 (.int .i64 iv) x6 x7 x8 x9 xA xB xC xD xE xF xG xH xI xJ xK xL xM xN xO xP xQ),[],h⟩
theorem dS1 (l l':List (List Tm)) (hs:kM l) (hs':kM l'):jG (pp G) H0 32 [trV l,trV l'] (.bool (bR0 l l')):=by
 have ih:∀ x∈l,∀ y∈l',jG (pp G) H0 35 [qA x,qA y] (.bool (gQ x y)):=fun x hx y hy=>zD2 G x y (hs.2 x hx) (hs'.2 y hy)
 have hsl:=hs.1
 have hsl':=hs'.1
 have hlo:H0.lo≤H0.next:=Nat.le_refl _;refine jG.cut (jD.fir4 (q:=qq) (jJ G) fir32 (by kernel_rfl) rfl rfl (nT0 ..) (show NGG≤H0.lo by rw[jW];decide) ?_);rw[sB1]
 obtain ⟨c,hb⟩:∃ c,c=bR0 l l':=⟨_,rfl⟩
 rw[← hb]
 unfold trV
 by_cases h4:l.length=l'.length
 rotate_left
 ·obtain rfl:c=false:=by rw[hb];simp[bR0,h4]
  have h4':¬ (l.length:Int)=l'.length:=by omega
  simp(disch:=first|omega|(apply id;simp only[push_cast];try omega))only[push_cast,simprocAttr,h4']
  exact .id rfl
 have h4':(l.length:Int)=l'.length:=by omega
 have hb':c=gR l l':=by rw[hb];simp[bR0,h4]
 simp(disch:=first|omega|(apply id;simp only[push_cast];try omega))only[push_cast,simprocAttr,h4']
 refine WD.loop4 (q:=qq) (jJ G) (by kernel_rfl) (I32 l l') ?_ _ _ (I32.mk 0 0 _ rfl (Nat.zero_le _) rfl (by first|assumption|(simp(disch:=first|omega|(apply id;simp only[push_cast];try omega))only[push_cast,simprocAttr];try omega)) (fun j hj=>by omega))
 intro m s1 hI
 cases hI with|mk i iv h hiv hi hl1 hl2 ha=>
 subst hiv
 rw[tC0]
 unfold trV
 by_cases hil:(i:Int)<l'.length
 ·obtain ⟨x,hx⟩:=jM (l:=l) (i:=i) (by omega)
  obtain ⟨y,hy⟩:=jM (l:=l') (i:=i) (by omega)
  have hp:=uR0 hx
  have hp':=uR0 hy
  have hle:i<l'.length:=by omega
  have hle2:i<l.length:=by omega
  simp(disch:=first|omega|(apply id;simp only[push_cast];try omega))only[push_cast,simprocAttr,hil,Int.toNat_natCast,hp,hp',hle,hle2,hl1,h4']
  refine jB.dataI (ih x (List.mem_of_getElem? hx) y (List.mem_of_getElem? hy)) (by and_intros<;>first|rfl|(simp(disch:=first|omega|(apply id;simp only[push_cast];try omega))only[push_cast])) ?_
  cases hr:gQ x y with
  | true=>
   simp(disch:=first|omega|(apply id;simp only[push_cast];try omega))only[push_cast,simprocAttr]
   exact ⟨_,by omega,I32.mk (i+1) _ _ (by first|rfl|omega) (by omega) (by first|assumption|(simp(disch:=first|omega|(apply id;simp only[push_cast];try omega))only[push_cast,simprocAttr,hl1];try omega)) (by first|assumption|(simp(disch:=first|omega|(apply id;simp only[push_cast];try omega))only[push_cast,simprocAttr];try omega)) fun j hj u v hu hv=>by
    by_cases e:j=i
    ·subst e;rw[hx] at hu;rw[hy] at hv;cases hu;cases hv;exact hr
    ·exact ha j (by omega) u v hu hv⟩
  | false=>
   obtain rfl:c=false:=by
    rw[hb']
    cases hc:gR l l' with
    | false=>rfl
    | true=>rw[bA0 hc i x y hx hy] at hr;cases hr
   simp(disch:=first|omega|(apply id;simp only[push_cast];try omega))only[push_cast,simprocAttr]
   exact .id rfl
 ·obtain rfl : c = true := by
   rw[hb']
   exact cX0 fun j u v hu hv=>ha j (by have:=(List.getElem?_eq_some_iff.1 hu).1;omega) u v hu hv
  simp(disch:=first|omega|(apply id;simp only[push_cast];try omega))only[push_cast,simprocAttr,hil,h4']
  rw[cE0]
  simp(disch:=first|omega|(apply id;simp only[push_cast];try omega))only[push_cast,simprocAttr]
  exact .id rfl
mutual
def uV1:Tm→Int
 | .mk _ _ _ _ _ l=>1+kZ l
def kZ:List Tm→Int
 | []=>0
 | x :: l=>uV1 x+kZ l
end
theorem bS0:∀ (a b:List Tm),kZ (a++b)=kZ a+kZ b
 | [],b=>by simp[kZ]
 | x :: a,b=>by rw[List.cons_append,kZ,kZ,bS0 a b];omega
theorem yN0 {l:List Tm} {i:Nat} {x:Tm} (h:l[i]?=some x):kZ (l.take (i+1))=kZ (l.take i)+uV1 x:=by
 rw[jL h,bS0,kZ,kZ];omega
theorem gQ2 (a b:Int):IntKind.i64.wrap (W a+W b)=W (a+b):=by
 unfold W;simp only[IntKind.wrap_i64];omega
inductive I58 (l:List Tm):Nat→S→Prop
 | mk (i:Nat) (iv n:Int) (h:jA) {x0 x1 x2 x4 x5 x6 xA xB xC xD xE xF xG xH xI:Value} (hiv:iv=(i:Int)) (hi:i≤l.length) (hn:n=W (1+kZ (l.take i))) (hl1:h.lo=1) (hl2:1≤h.next) :
  I58 l (l.length-i) ⟨(F19 x0 x1 x2 (.int .i64 n) x4 x5 x6 (qA l) (.int .i64 l.length) (.int .i64 iv) xA xB xC xD xE xF xG xH xI),[],h⟩
theorem nK1:∀ t:Tm,smT t=true→jG (pp G) H0 58 [tmV t] (.int .i64 (W (uV1 t)))
 | .mk k a b s e l,hs=>by
  simp only[smT,Bool.and_eq_true,decide_eq_true_eq] at hs
  have hsl:=hs.1.1
  have ih:∀ x∈l,jG (pp G) H0 58 [tmV x] (.int .i64 (W (uV1 x))):=fun x hx=>nK1 x (qN hs.2 x hx)
  have hlo:H0.lo≤H0.next:=Nat.le_refl _;refine jG.cut (jD.fir4 (q:=qq) (jJ G) fir58 (by kernel_rfl) rfl rfl (cR1 ..) (show NGG≤H0.lo by rw[jW];decide) ?_);rw[rQ1]
  rw[uV1]
  simp(disch:=first|omega|(apply id;simp only[push_cast];try omega))only[push_cast,simprocAttr]
  refine WD.loop4 (q:=qq) (jJ G) (by kernel_rfl) (I58 l) ?_ _ _ (I58.mk 0 0 _ _ rfl (Nat.zero_le _) rfl rfl (by first|assumption|(simp(disch:=first|omega|(apply id;simp only[push_cast];try omega))only[push_cast,simprocAttr];try omega)))
  intro m s1 hI
  cases hI with|mk i iv n h hiv hi hn hl1 hl2=>
  subst hiv hn
  rw[sL0]
  unfold qA
  by_cases hil:(i:Int)<l.length
  ·obtain ⟨x,hx⟩:=jM (l:=l) (i:=i) (by omega)
   have hp:=uW hx
   have hle2:i*9+9≤l.length*9:=by omega
   simp(disch:=first|omega|(apply id;simp only[push_cast];try omega))only[push_cast,simprocAttr,hil,Int.toNat_natCast,hp,hle2,hl1]
   refine jB.dataI (ih x (List.mem_of_getElem? hx)) (by and_intros<;>first|rfl|(simp(disch:=first|omega|(apply id;simp only[push_cast];try omega))only[push_cast])) ?_
   simp(disch:=first|omega|(apply id;simp only[push_cast];try omega))only[push_cast,simprocAttr,gQ2]
   exact ⟨_,by omega,I58.mk (i+1) _ _ _ (by first|rfl|omega) (by omega) (by rw[yN0 hx];congr 1;omega) (by first|assumption|(simp(disch:=first|omega|(apply id;simp only[push_cast];try omega))only[push_cast,simprocAttr,hl1];try omega)) (by first|assumption|(simp(disch:=first|omega|(apply id;simp only[push_cast];try omega))only[push_cast,simprocAttr];try omega))⟩
  ·have hie:i=l.length:=by omega
   subst hie
   simp(disch:=first|omega|(apply id;simp only[push_cast];try omega))only[push_cast,simprocAttr,hil]
   rw[sK0]
   simp(disch:=first|omega|(apply id;simp only[push_cast];try omega))only[push_cast,simprocAttr,List.take_length]
   exact .id rfl
 termination_by x=>SizeOf.sizeOf x
def uM0:List (List Tm)→Int
 | []=>0
 | x :: s=>kZ x+uM0 s
theorem fJ0:∀ (a b:List (List Tm)),uM0 (a++b)=uM0 a+uM0 b
 | [],b=>by simp[uM0]
 | x :: a,b=>by rw[List.cons_append,uM0,uM0,fJ0 a b];omega
theorem pU0 {l:List (List Tm)} {i:Nat} {x:List Tm} (h:l[i]?=some x):uM0 (l.take (i+1))=uM0 (l.take i)+kZ x:=by
 rw[jL h,fJ0,uM0,uM0];omega
inductive I33 (s:List (List Tm)):Nat→S→Prop
 | mk (i:Nat) (iv n:Int) (h:jA) {x0 x1 x2 x4 x5 x6 x7 xB xC xD xE xF xG xH xI xJ xK xL xM xN xO xP xQ:Value} (hiv:iv=(i:Int)) (hi:i≤s.length) (hn:n=W (uM0 (s.take i))) (hl1:h.lo=1) (hl2:1≤h.next) :
  I33 s (s.length-i) ⟨(F27 x0 x1 x2 (.int .i64 n) x4 x5 x6 x7 (trV s) (.int .i64 s.length) (.int .i64 iv) xB xC xD xE xF xG xH xI xJ xK xL xM xN xO xP xQ),[],h⟩
inductive I33b (s:List (List Tm)) (j:Nat) (l:List Tm):Nat→S→Prop
 | mk (i:Nat) (iv n:Int) (h:jA) {x0 x1 x2 x4 x5 x6 x7 xB xC xD xH xI xJ xK xL xM xN xO xP xQ:Value} (hiv:iv=(i:Int)) (hi:i≤l.length) (hn:n=W (uM0 (s.take j)+kZ (l.take i))) (hl1:h.lo=1) (hl2:1≤h.next) :
  I33b s j l (l.length-i) ⟨(F27 x0 x1 x2 (.int .i64 n) x4 x5 x6 x7 (trV s) (.int .i64 s.length) (.int .i64 j) xB xC xD (qA l) (.int .i64 l.length) (.int .i64 iv) xH xI xJ xK xL xM xN xO xP xQ),[],h⟩
theorem uU1 (s:List (List Tm)) (hs:kM s):jG (pp G) H0 33 [trV s] (.int .i64 (W (uM0 s))):=by
 have hsl:=hs.1
 have hlo:H0.lo≤H0.next:=Nat.le_refl _;refine jG.cut (jD.fir4 (q:=qq) (jJ G) fir33 (by kernel_rfl) rfl rfl (nT0 ..) (show NGG≤H0.lo by rw[jW];decide) ?_);rw[sA1]
 unfold trV
 simp(disch:=first|omega|(apply id;simp only[push_cast];try omega))only[push_cast,simprocAttr]
 refine WD.loop4 (q:=qq) (jJ G) (by kernel_rfl) (I33 s) ?_ _ _ (I33.mk 0 0 _ _ rfl (Nat.zero_le _) rfl rfl (by first|assumption|(simp(disch:=first|omega|(apply id;simp only[push_cast];try omega))only[push_cast,simprocAttr];try omega)))
 intro m s1 hI
 cases hI with|mk j jv n h hiv hi hn hl1 hl2=>
 subst hiv hn
 rw[tB0]
 unfold trV
 by_cases hjl:(j:Int)<s.length
 ·obtain ⟨l,hl⟩:=jM (l:=s) (i:=j) (by omega)
  have hlm:=List.mem_of_getElem? hl
  obtain ⟨hll,hlt⟩:=hs.2 l hlm
  have hp:=uR0 hl
  have hle2:j<s.length:=by omega
  unfold qA at hp
  simp(disch:=first|omega|(apply id;simp only[push_cast];try omega))only[push_cast,simprocAttr,hjl,Int.toNat_natCast,hp,hle2,hl1]
  refine WD.loop4 (q:=qq) (jJ G) (by kernel_rfl) (I33b s j l) ?_ _ _ (I33b.mk 0 0 _ _ rfl (Nat.zero_le _) (by rw[List.take_zero,kZ,Int.add_zero]) (by first|assumption|(simp(disch:=first|omega|(apply id;simp only[push_cast];try omega))only[push_cast,simprocAttr,hl1];try omega)) (by first|assumption|(simp(disch:=first|omega|(apply id;simp only[push_cast];try omega))only[push_cast,simprocAttr];try omega)))
  intro m s1 hI
  cases hI with|mk i iv n h hiv hi hn hl1 hl2=>
  subst hiv hn
  rw[sZ0]
  unfold qA
  by_cases hil:(i:Int)<l.length
  ·obtain ⟨x,hx⟩:=jM (l:=l) (i:=i) (by omega)
   have hp:=uW hx
   have hle2:i*9+9≤l.length*9:=by omega
   simp(disch:=first|omega|(apply id;simp only[push_cast];try omega))only[push_cast,simprocAttr,hil,Int.toNat_natCast,hp,hle2,hl1]
   refine jB.dataI (nK1 G x (qN hlt x (List.mem_of_getElem? hx))) (by and_intros<;>first|rfl|(simp(disch:=first|omega|(apply id;simp only[push_cast];try omega))only[push_cast])) ?_
   simp(disch:=first|omega|(apply id;simp only[push_cast];try omega))only[push_cast,simprocAttr,gQ2]
   exact ⟨_,by omega,I33b.mk (i+1) _ _ _ (by first|rfl|omega) (by omega) (by rw[yN0 hx];congr 1;omega) (by first|assumption|(simp(disch:=first|omega|(apply id;simp only[push_cast];try omega))only[push_cast,simprocAttr,hl1];try omega)) (by first|assumption|(simp(disch:=first|omega|(apply id;simp only[push_cast];try omega))only[push_cast,simprocAttr];try omega))⟩
  ·have hie:i=l.length:=by omega
   subst hie
   simp(disch:=first|omega|(apply id;simp only[push_cast];try omega))only[push_cast,simprocAttr,hil]
   rw[sY0]
   simp(disch:=first|omega|(apply id;simp only[push_cast];try omega))only[push_cast,simprocAttr,List.take_length]
   exact ⟨_,by omega,I33.mk (j+1) _ _ _ (by first|rfl|omega) (by omega) (by rw[pU0 hl]) (by first|assumption|(simp(disch:=first|omega|(apply id;simp only[push_cast];try omega))only[push_cast,simprocAttr,hl1];try omega)) (by first|assumption|(simp(disch:=first|omega|(apply id;simp only[push_cast];try omega))only[push_cast,simprocAttr];try omega))⟩
 ·have hie:j=s.length:=by omega
  subst hie
  simp(disch:=first|omega|(apply id;simp only[push_cast];try omega))only[push_cast,simprocAttr,hjl]
  rw[tA0]
  simp(disch:=first|omega|(apply id;simp only[push_cast];try omega))only[push_cast,simprocAttr,List.take_length]
  exact .id rfl
theorem qS2 {e k n by_ m:Nat} {cs xs:List Value} {h:jA} (hl:cs.length=n*k) (ho:cs.all one=true) (hx:xs.all one=true) (hm:0<m) (hb:((n+m)*by_≤140737488355328∧(n+m)<100000000000000)) :
  apS e k by_ (Rw true e n cs) (some (m,xs)) h=some (.slice (some ⟨h.next,0,none⟩) (n+m) UC,h.add (O (cs++xs) e true)):=by
 show (if xs.all one=true then (if cs.length=n*k∧((n+m)*by_≤140737488355328∧(n+m)<100000000000000)∧cs.all one=true then (if m=0 then some (Rw true e n cs,h) else some (.slice (some ⟨h.next,0,none⟩) (n+m) UC,h.add (O (cs++xs) e true))) else none) else none)=_
 rw[if_pos hx,if_pos ⟨hl,hb,ho⟩,if_neg (by omega)]
theorem iI1 {e k n by_:Nat} {cs xs:List Value} {h:jA} (hl:cs.length=n*k) (ho:cs.all one=true) (hx:xs.all one=true) (hb:(n*by_≤140737488355328∧n<100000000000000)) :
  apS e k by_ (Rw true e n cs) (some (0,xs)) h=some (Rw true e n cs,h):=by
 show (if xs.all one=true then (if cs.length=n*k∧((n+0)*by_≤140737488355328∧(n+0)<100000000000000)∧cs.all one=true then (if 0=0 then some (Rw true e n cs,h) else some (.slice (some ⟨h.next,0,none⟩) (n+0) UC,h.add (O (cs++xs) e true))) else none) else none)=_
 rw[if_pos hx,if_pos ⟨hl,by simpa using hb,ho⟩,if_pos rfl]
theorem pD0 (n:Nat):Nat.beq n n=true:=Nat.beq_refl n
theorem tO0 (s:List (List Tm)) (a:Int) (hs:s.length<100000000000):jG (pp G) H0 50 [trV s,.int .i64 a] (.bool (decide (0≤a∧a<s.length))):=by
 have hlo:H0.lo≤H0.next:=Nat.le_refl _;refine jG.cut (jD.fir4 (q:=qq) (jJ G) fir50 (by kernel_rfl) rfl rfl (cU1 ..) (show NGG≤H0.lo by rw[jW];decide) ?_);rw[rU1]
 unfold trV
 by_cases h:0≤a
 ·simp(disch:=first|omega|(apply id;simp only[push_cast];try omega))only[push_cast,simprocAttr,h,true_and]
  exact .id rfl
 ·simp(disch:=first|omega|(apply id;simp only[push_cast];try omega))only[push_cast,simprocAttr,h,false_and]
  exact .id rfl
theorem eY0 (l m:List Tm) (hl:l.length<100000000000) (hm:m.length<100000000000):jG (pp G) H0 53 [qA l,qA m] (qA (l++m)):=by
 have hlo:H0.lo≤H0.next:=Nat.le_refl _;refine jG.cut (jD.fir4 (q:=qq) (jJ G) fir53 (by kernel_rfl) rfl rfl (cU1 ..) (show NGG≤H0.lo by rw[jW];decide) ?_);rw[rT1]
 unfold qA
 have ht:(jY l).take (l.length*9)=jY l:=List.take_of_length_le (by rw[qR];exact Nat.le_refl _)
 by_cases h0:m.length=0
 ·obtain rfl:m=[]:=List.length_eq_zero_iff.1 h0
  have h1:l.length*120+l.length<100000000000000:=by omega
  have ha:apS 34 9 120 (Rw true 34 l.length (jY l)) (some (0,[])) H0=some (Rw true 34 l.length (jY l),H0):=iI1 (by rw[qR]) (kY l) rfl (by omega)
  simp(disch:=first|omega|(apply id;simp only[push_cast];try omega))only[push_cast,simprocAttr,pD0,Int.toNat_natCast,ht,List.length_nil,show jY []=[] from rfl,ha]
  exact .row (.ids (gO _ H0q l))
 have h1:(l.length+m.length)*120+(l.length+m.length)<100000000000000:=by omega
 have ha:apS 34 9 120 (Rw true 34 l.length (jY l)) (some (m.length,jY m)) H0=some (.slice (some ⟨H0.next,0,none⟩) (l.length+m.length) UC,H0.add (O (jY l++jY m) 34 true)):=qS2 (by rw[qR]) (kY l) (kY m) (by omega) (by omega)
 simp(disch:=first|omega|(apply id;simp only[push_cast];try omega))only[push_cast,simprocAttr,pD0,Int.toNat_natCast,ht,ha]
 rw[← bD,← List.length_append]
 have hlt:(l++m).length<U:=by rw[List.length_append,show U=100000000000000 by unfold U;rfl];omega
 refine .sl (Nat.le_refl _) (gZ _ _ _ _ rfl) (size:=9) rfl (by decide) ?_ (.inr ⟨rfl,Nat.le_refl _,by simp,hlt⟩) ?_
 ·rw[qR];omega
 rw[List.drop_zero,List.take_of_length_le (by rw[qR];exact Nat.le_refl _)]
 exact .ids (gO _ H0q _)
def setZ {α:Type} (s:List α) (a:Int) (l:α):List α:=if 0≤a then s.set a.toNat l else s
theorem wL0 {α:Type} (s:List α) (a:Int) (l:α):(setZ s a l).length=s.length:=by
 unfold setZ;split<;>simp
theorem pP1 {α:Type} {s:List α} {i:Nat} {l x:α} (h:s[i]?=some x):(setZ s i l)[i]?=some l:=by
 unfold setZ
 have:=(List.getElem?_eq_some_iff.1 h).1
 rw[if_pos (by omega),Int.toNat_natCast]
 simp[this]
theorem pO1 {α:Type} {s:List α} {i:Nat} {a:Int} {l x:α} (h:s[i]?=some x) (hne:¬ (i:Int)=a):(setZ s a l)[i]?=some x:=by
 unfold setZ
 split
 ·rw[List.getElem?_set_ne (by omega)];exact h
 ·exact h
inductive I52 (σ:jA) (s r:List (List Tm)) (a:Int) (l:List Tm) (fv:Value):Nat→S→Prop
 | mk (i:Nat) (iv:Int) (h:jA) {x0 x4 x5 x6 x7 x8 xA xB xC xD xE xI xJ xK xL xM xN xO xP xQ xR xS xT xU xV xW xX:Value} (hiv:iv=(i:Int)) (hi:i≤s.length) (c1:cells h σ.next=some (trs (r.take i)++(List.replicate (s.length-i) [Value.slice none 0 0]).flatten,32,false)) (hl1:h.lo=1) (hl2:σ.next<h.next) (hg:jC σ h fun _=>False) :
  I52 σ s r a l fv (s.length-i) ⟨(F34 x0 (.int .i64 a) (qA l) fv x4 x5 x6 x7 x8 (.slice (some ⟨σ.next,0,none⟩) s.length s.length) xA xB xC xD xE (trV s) (.int .i64 s.length) (.int .i64 iv) xI xJ xK xL xM xN xO xP xQ xR xS xT xU xV xW xX),[],h⟩
theorem wB2 (σ:jA) (s:List (List Tm)) (a:Int) (l:List Tm) (hs:kM s) (hl:qE0 l):jD (pp G) H0 52 [trV s,.int .i64 a,qA l,.func (.func 54) #[] #[]] σ
  fun v σ'=>v=.slice (some ⟨σ.next,0,none⟩) s.length s.length∧σ'=σ.add (O (trs (setZ s a l)) eR false):=by
 have ho:∀ m:List Tm,qE0 m→jG (pp G) H0 73 [qA m,.func (.func 54) #[] #[]] (qA m):=fun m hm=>dZ0 G m 54 hm.1 fun x hx=>yW0 G x (qN hm.2 x hx)
 have hsl:=hs.1
 refine jD.wlog fun hl0 hH0 hp0 hlo=>?_;rw[kW] at hl0;refine jD.cut (jD.fir4 (q:=qq) (jJ G) yM2 (by kernel_rfl) rfl rfl (cN1 ..) (by rw[hl0];exact (show NGG≤1 by decide)) ?_);rw[wG1]
 unfold trV
 have h1:(s.length:Int)*24+s.length<100000000000000:=by omega
 simp(disch:=first|omega|(apply id;simp only[push_cast];try omega))only[push_cast,simprocAttr,h1]
 refine WD.loop4 (q:=qq) (jJ G) (by kernel_rfl) (I52 σ s (setZ s a l) a l (.func (.func 54) #[] #[])) ?_ _ _ (I52.mk 0 0 _ rfl (Nat.zero_le _) (by simp(disch:=first|omega|(apply id;simp only[push_cast];try omega))only[push_cast,simprocAttr,List.take_zero];rfl) (by first|assumption|(simp(disch:=first|omega|(apply id;simp only[push_cast];try omega))only[push_cast,simprocAttr];try omega)) (by first|assumption|(simp(disch:=first|omega|(apply id;simp only[push_cast];try omega))only[push_cast,simprocAttr];try omega)) (by (repeat (first|exact Gr.refl _|assumption|(refine jC.put' ?_ _ _ (by first|omega|(simp only[push_cast];omega)))|(refine jC.add' ?_ _)))))
 intro m s1 hI
 cases hI with|mk i iv h hiv hi c1 hl1 hl2 hg=>
 subst hiv
 rw[cB0]
 unfold trV
 by_cases hil:(i:Int)<s.length
 ·obtain ⟨x,hx⟩:=jM (l:=s) (i:=i) (by omega)
  have hxm:=hs.2 x (List.mem_of_getElem? hx)
  have hp:=uR0 hx
  have hle:i<s.length:=by omega
  have key : ∀ (y : List Tm) (hy : qE0 y) (hr : (setZ s a l)[i]? = some y) {x4 x5 x6 x7 x8 xC xD xE xI xJ xK xL xM xN xO xP xQ xR xS xT xU xV xW xX x0 : Value} (R : jQ → S → Prop)
    (hR:∀ {x4 x5 x6 x7 x8 xC xD xE xI xJ xK xL xM xN xO xP xQ xR xS xT xU xV xW xX x0 xA xB:Value} (h':jA),cells h' σ.next=some (trs ((setZ s a l).take (i+1))++(List.replicate (s.length-(i+1)) [Value.slice none 0 0]).flatten,32,false)→h'.lo=1→σ.next<h'.next→(jC σ h' fun _=>False)→
     @kR ⟨R⟩ .normal ⟨(F34 x0 (.int .i64 a) (qA l) (.func (.func 54) #[] #[]) x4 x5 x6 x7 x8 (.slice (some ⟨σ.next,0,none⟩) s.length s.length) xA xB xC xD xE (trV s) (.int .i64 s.length) (.int .i64 i) xI xJ xK xL xM xN xO xP xQ xR xS xT xU xV xW xX),[],h'⟩),
    dc3 (pp G) qq none eG0 ⟨(F34 x0 (.int .i64 a) (qA l) (.func (.func 54) #[] #[]) x4 x5 x6 x7 x8 (.slice (some ⟨σ.next,0,none⟩) s.length s.length) (.int .i64 i) (qA y) xC xD xE (trV s) (.int .i64 s.length) (.int .i64 i) xI xJ xK xL xM xN xO xP xQ xR xS xT xU xV xW xX),[],h⟩ (@kR ⟨R⟩):=by
   intro y hy hr
   intros
   rename_i R hR
   rw[zO0]
   obtain ⟨k,hk⟩:∃ k,s.length-i=k+1:=⟨s.length-i-1,by omega⟩
   have hta:(trs ((setZ s a l).take i)).length=i:=by rw[zM0,List.length_take,wL0,Nat.min_eq_left hi]
   have hlen:=jF0 (w:=1) (z:=[Value.slice none 0 0]) (k:=s.length-i) (n:=s.length) hta rfl (by omega)
   have hst:=gW (c:=[qA y]) (w:=1) (z:=[Value.slice none 0 0]) (k:=k) hta rfl
   rw[← hk,show [qA y]=trs [y] from rfl,← qZ1,← jL hr,show k=s.length-(i+1) by omega,show trs [y]=[qA y] from rfl] at hst
   simp(disch:=first|omega|(apply id;simp only[push_cast];try omega))only[push_cast,simprocAttr]
   refine jB.dataI (ho y hy) (by and_intros<;>first|rfl|(simp(disch:=first|omega|(apply id;simp only[push_cast];try omega))only[push_cast])) ?_
   unfold qA at hst ⊢
   simp(disch:=first|omega|(apply id;simp only[push_cast];try omega))only[push_cast,simprocAttr,hil,Int.toNat_natCast,hle,hl1,c1,hlen,hst]
   exact hR _ (by first|assumption|(simp(disch:=first|omega|(apply id;simp only[push_cast];try omega))only[push_cast,simprocAttr];try omega)) (by first|assumption|(simp(disch:=first|omega|(apply id;simp only[push_cast];try omega))only[push_cast,simprocAttr,hl1];try omega)) (by first|assumption|(simp(disch:=first|omega|(apply id;simp only[push_cast];try omega))only[push_cast,simprocAttr];try omega)) (by (repeat (first|exact Gr.refl _|assumption|(refine jC.put' ?_ _ _ (by first|omega|(simp only[push_cast];omega)))|(refine jC.add' ?_ _))))
  unfold trV at key
  have fin : ∀ (h' : jA) {x4 x5 x6 x7 x8 xC xD xE xI xJ xK xL xM xN xO xP xQ xR xS xT xU xV xW xX x0 xA xB : Value}, cells h' σ.next = some (trs ((setZ s a l).take (i + 1)) ++ (List.replicate (s.length - (i + 1)) [Value.slice none 0 0]).flatten, 32, false) → h'.lo = 1 → σ.next < h'.next → (jC σ h' fun _ => False) →
    (∃ m',m'<s.length-i∧I52 σ s (setZ s a l) a l (.func (.func 54) #[] #[]) m' ⟨(F34 x0 (.int .i64 a) (qA l) (.func (.func 54) #[] #[]) x4 x5 x6 x7 x8 (.slice (some ⟨σ.next,0,none⟩) s.length s.length) xA xB xC xD xE (Rw false eR s.length (trs s)) (.int .i64 s.length) (.int .i64 ((i:Int)+1)) xI xJ xK xL xM xN xO xP xQ xR xS xT xU xV xW xX),[],h'⟩):=fun h'=>by
   intros
   rename_i c1 hl1 hl2 hg
   exact ⟨_,by omega,I52.mk (i+1) _ _ (by first|rfl|omega) (by omega) c1 hl1 hl2 hg⟩
  by_cases ha:(i:Int)=a
  ·subst ha
   simp(disch:=first|omega|(apply id;simp only[push_cast];try omega))only[push_cast,simprocAttr,hil,Int.toNat_natCast,hp,hle,hl1]
   refine key l hl (pP1 hx) _ ?_
   intros
   rename_i h' c1' hl1' hl2' hg'
   simp(disch:=first|omega|(apply id;simp only[push_cast];try omega))only[push_cast,simprocAttr]
   rw[uD0]
   simp(disch:=first|omega|(apply id;simp only[push_cast];try omega))only[push_cast,simprocAttr,hil]
   exact fin _ c1' hl1' hl2' hg'
  ·simp(disch:=first|omega|(apply id;simp only[push_cast];try omega))only[push_cast,simprocAttr,hil,Int.toNat_natCast,hp,hle,hl1,ha]
   refine key x hxm (pO1 hx ha) _ ?_
   intros
   rename_i h' c1' hl1' hl2' hg'
   simp(disch:=first|omega|(apply id;simp only[push_cast];try omega))only[push_cast,simprocAttr]
   rw[uD0]
   simp(disch:=first|omega|(apply id;simp only[push_cast];try omega))only[push_cast,simprocAttr,hil]
   exact fin _ c1' hl1' hl2' hg'
 ·have hie:i=s.length:=by omega
  subst hie
  rw[List.take_of_length_le (by rw[wL0];exact Nat.le_refl _),Nat.sub_self,List.replicate_zero,List.flatten_nil,List.append_nil] at c1
  simp(disch:=first|omega|(apply id;simp only[push_cast];try omega))only[push_cast,simprocAttr,hil]
  rw[cA0]
  simp(disch:=first|omega|(apply id;simp only[push_cast];try omega))only[push_cast,simprocAttr]
  refine ⟨.id (by first|assumption|(simp(disch:=first|omega|(apply id;simp only[push_cast];try omega))only[push_cast,simprocAttr];try omega)),bM.new1 hg hlo hl2 c1 (.ids (bP0 _ (by omega) _)) (lK0 _)⟩
theorem nC1 (s:List (List Tm)) (a:Int) (l:List Tm) (hs:kM s) (hl:qE0 l):jG (pp G) H0 52 [trV s,.int .i64 a,qA l,.func (.func 54) #[] #[]] (trV (setZ s a l)):=by
 refine jG.cut ((wB2 G H0 s a l hs hl).mono ?_)
 rintro v σ' ⟨rfl,rfl⟩
 have hsl:=hs.1
 unfold trV
 rw[wL0]
 refine .sl (Nat.le_refl _) (gZ _ _ _ _ rfl) (size:=1) rfl (by decide) (by rw[zM0,wL0];omega) (.inl ⟨by simp only[UC];omega,Nat.le_refl _⟩) ?_
 rw[List.drop_zero,List.take_of_length_le (by rw[zM0,wL0];omega)]
 exact .ids (bP0 _ H0q _)
theorem wI0:qE0 []:=⟨by simp,rfl⟩
theorem yM0 {l m:List Tm} (h1:qE0 l) (h2:qE0 m) (hl:l.length+m.length<100000000000):qE0 (l++m):=
 ⟨by rw[List.length_append];exact hl,uJ1 fun x hx=>(List.mem_append.1 hx).elim (qN h1.2 x) (qN h2.2 x)⟩
theorem jJ0 {s:List (List Tm)} (h:kM s) (i:Nat):qE0 (s.getD i []):=by
 rw[List.getD_eq_getElem?_getD]
 cases hx:s[i]? with
 | none=>exact wI0
 | some x=>exact h.2 x (List.mem_of_getElem? hx)
inductive IL (s:List (List Tm)) (fv:Value):Nat→S→Prop
 | mk (i:Nat) (iv:Int) (h:jA) {x0 x2 x3 x4 x6 x7 x8 x9 xA xB xC xD xH xI xJ xK xL xM xN xO xP xQ xR xS:Value} (hiv:iv=(i:Int)) (hi:i≤s.length) (c1:cells h 1=some (trs (s.take i)++(List.replicate (s.length-i) [Value.slice none 0 0]).flatten,32,false)) (hl1:h.lo=1) (hl2:2≤h.next) :
  IL s fv (s.length-i) ⟨(F29 x0 fv x2 x3 x4 (.slice (some ⟨1,0,none⟩) s.length s.length) x6 x7 x8 x9 xA xB xC xD (trV s) (.int .i64 s.length) (.int .i64 iv) xH xI xJ xK xL xM xN xO xP xQ xR xS),[],h⟩
theorem tY1 (s:List (List Tm)) (f:FuncId) (hll:s.length<100000000000) (hf:∀ x∈s,jG (pp G) H0 f [qA x] (qA x)):jG (pp G) H0 72 [trV s,.func (.func f) #[] #[]] (trV s):=by
 have hlo:H0.lo≤H0.next:=Nat.le_refl _;refine jG.cut (jD.fir4 (q:=qq) (jJ G) yL2 (by kernel_rfl) rfl rfl (kF0 ..) (show NGG≤H0.lo by rw[jW];decide) ?_);rw[uZ1]
 unfold trV
 by_cases h0:s.length=0
 ·have h0':(s.length:Int)=0:=by omega
  obtain rfl:s=[]:=List.length_eq_zero_iff.1 h0
  simp(disch:=first|omega|(apply id;simp only[push_cast];try omega))only[push_cast,simprocAttr,h0']
  exact .nil (size:=1) rfl (by decide)
 have h0':¬ (s.length:Int)=0:=by omega
 have h1:(s.length:Int)*400+s.length<100000000000000:=by omega
 simp(disch:=first|omega|(apply id;simp only[push_cast];try omega))only[push_cast,simprocAttr,h0',h1]
 refine WD.loop4 (q:=qq) (jJ G) (by kernel_rfl) (IL s (.func (.func f) #[] #[])) ?_ _ _ (IL.mk 0 0 _ rfl (Nat.zero_le _) (by simp(disch:=first|omega|(apply id;simp only[push_cast];try omega))only[push_cast,simprocAttr,List.take_zero];rfl) rfl (by first|assumption|(simp(disch:=first|omega|(apply id;simp only[push_cast];try omega))only[push_cast,simprocAttr];try omega)))
 intro m s1 hI
 cases hI with|mk i iv h hiv hi c1 hl1 hl2=>
 subst hiv
 rw[bY0]
 unfold trV
 by_cases hil:(i:Int)<s.length
 ·obtain ⟨x,hx⟩:=jM (l:=s) (i:=i) (by omega)
  have hxm:=List.mem_of_getElem? hx
  have hp:=uR0 hx
  have hle:i<s.length:=by omega
  simp(disch:=first|omega|(apply id;simp only[push_cast];try omega))only[push_cast,simprocAttr,hil,Int.toNat_natCast,hp,hle,hl1]
  refine jB.dataI (hf x hxm) (by and_intros<;>first|rfl|(simp(disch:=first|omega|(apply id;simp only[push_cast];try omega))only[push_cast])) ?_
  obtain ⟨k,hk⟩:∃ k,s.length-i=k+1:=⟨s.length-i-1,by omega⟩
  have hta:(trs (s.take i)).length=i:=by rw[zM0,List.length_take,Nat.min_eq_left hi]
  have hlen:=jF0 (w:=1) (z:=[Value.slice none 0 0]) (k:=s.length-i) (n:=s.length) hta rfl (by omega)
  have hst:=gW (c:=[qA x]) (w:=1) (z:=[Value.slice none 0 0]) (k:=k) hta rfl
  rw[← hk,show [qA x]=trs [x] from rfl,← qZ1,← jL hx,show k=s.length-(i+1) by omega,show trs [x]=[qA x] from rfl] at hst
  unfold qA at hst ⊢
  simp(disch:=first|omega|(apply id;simp only[push_cast];try omega))only[push_cast,simprocAttr,hil,Int.toNat_natCast,hle,hl1,c1,hlen,hst]
  exact ⟨_,by omega,IL.mk (i+1) _ _ (by first|rfl|omega) (by omega) (by first|assumption|(simp(disch:=first|omega|(apply id;simp only[push_cast];try omega))only[push_cast,simprocAttr];try omega)) (by first|assumption|(simp(disch:=first|omega|(apply id;simp only[push_cast];try omega))only[push_cast,simprocAttr,hl1];try omega)) (by first|assumption|(simp(disch:=first|omega|(apply id;simp only[push_cast];try omega))only[push_cast,simprocAttr];try omega))⟩
 ·have hie:i=s.length:=by omega
  subst hie
  rw[List.take_length,Nat.sub_self,List.replicate_zero,List.flatten_nil,List.append_nil] at c1
  simp(disch:=first|omega|(apply id;simp only[push_cast];try omega))only[push_cast,simprocAttr,hil]
  rw[bX0]
  simp(disch:=first|omega|(apply id;simp only[push_cast];try omega))only[push_cast,simprocAttr]
  refine .sl (by simp(disch:=first|omega|(apply id;simp only[push_cast];try omega))only[push_cast,simprocAttr]) c1 (size:=1) rfl (by decide) (by first|assumption|(simp(disch:=first|omega|(apply id;simp only[push_cast];try omega))only[push_cast,simprocAttr];try omega)) (.inl ⟨by simp only[UC];omega,Nat.le_refl _⟩) ?_
  rw[List.drop_zero,List.take_of_length_le (by rw[zM0];omega)]
  exact .ids (bP0 _ H0q s)
theorem mA0 (l:List Tm) (hl:qE0 l):jG (pp G) H0 56 [qA l] (qA l):=by
 have hlo:H0.lo≤H0.next:=Nat.le_refl _;refine jG.cut (jD.fir4 (q:=qq) (jJ G) jY2 (by kernel_rfl) rfl rfl (lE0 ..) (show NGG≤H0.lo by rw[jW];decide) ?_);rw[lT0]
 simp(disch:=first|omega|(apply id;simp only[push_cast];try omega))only[push_cast,simprocAttr]
 refine jB.dataI (dZ0 G l 54 hl.1 fun x hx=>yW0 G x (qN hl.2 x hx)) (by and_intros<;>first|rfl|(simp(disch:=first|omega|(apply id;simp only[push_cast];try omega))only[push_cast])) ?_
 simp(disch:=first|omega|(apply id;simp only[push_cast];try omega))only[push_cast,simprocAttr]
 exact .id (zN0 _ H0q l)
@[push_cast]theorem uA1 (n:Nat) (hn:0<n) (s:List (List Tm)):Ev.sc n (trV s)=true:=nW0 n hn ..
theorem zX2 (s:List (List Tm)) (hs:kM s):jG (pp G) H0 51 [trV s] (trV s):=by
 have hlo:H0.lo≤H0.next:=Nat.le_refl _;refine jG.cut (jD.fir4 (q:=qq) (jJ G) yN2 (by kernel_rfl) rfl rfl (lE0 ..) (show NGG≤H0.lo by rw[jW];decide) ?_);rw[wH1]
 simp(disch:=first|omega|(apply id;simp only[push_cast];try omega))only[push_cast,simprocAttr]
 refine jB.dataI (tY1 G s 56 hs.1 fun x hx=>mA0 G x (hs.2 x hx)) (by and_intros<;>first|rfl|(simp(disch:=first|omega|(apply id;simp only[push_cast];try omega))only[push_cast])) ?_
 simp(disch:=first|omega|(apply id;simp only[push_cast];try omega))only[push_cast,simprocAttr]
 exact .id (uA1 _ H0q s)
theorem nV1 (n:Nat) (σ:jA):FzV (pp G).P n σ (.slice none 0 0) (trV []):=.nil (size:=1) rfl (by decide)
theorem wR1 (t:Tm) (σ:jA):bsD (qq.m 32) (slT Try.prog 32) 1 [(0,tmV t)] σ=some (Rw true 34 1 (jY [t]),σ):=by
 rw[yL0];cases t;kernel_rfl
theorem uB0 {s:List (List Tm)} {i:Nat} (h:i<s.length):(trs s)[i]?=some (qA (s.getD i [])):=by simp[trs,h]
theorem sR1 (s:List (List Tm)) (a:Int) (t:Tm) (hs:kM s) (hgl:(s.getD a.toNat []).length+1<100000000000) (ht:smT t=true) (ha:0≤a∧a<s.length):jG (pp G) H0 23 [trV s,.int .i64 a,tmV t] (trV (setZ s a (s.getD a.toNat []++[t]))):=by
 have hg:=jJ0 hs a.toNat
 have hsl:=hs.1
 have hlo:H0.lo≤H0.next:=Nat.le_refl _;refine jG.cut (jD.fir4 (q:=qq) (jJ G) yQ2 (by kernel_rfl) rfl rfl (cQ1 ..) (show NGG≤H0.lo by rw[jW];decide) ?_);rw[wK1]
 simp(disch:=first|omega|(apply id;simp only[push_cast];try omega))only[push_cast,simprocAttr]
 refine jB.dataI (tO0 G s a hs.1) (by and_intros<;>first|rfl|(simp(disch:=first|omega|(apply id;simp only[push_cast];try omega))only[push_cast])) ?_
 have hp:=uB0 (s:=s) (i:=a.toNat) (by omega)
 have hd:decide (0≤a∧a<(s.length:Int))=true:=by simpa using ha
 have hc:(a.toNat:Int)=a:=by omega
 have hlt:a.toNat<s.length:=by omega
 have hsr:qE0 (s.getD a.toNat []++[t]):=yM0 hg ⟨by simp,by simp[smTs,ht]⟩ (by rw[List.length_cons,List.length_nil];omega)
 unfold trV
 simp(disch:=first|omega|(apply id;simp only[push_cast];try omega))only[push_cast,simprocAttr,hd,hp,hc,hlt,ha.1,ha.2,↓wR1]
 refine jB.data (eY0 G (s.getD a.toNat []) [t] (by omega) (by simp)) (.cons (.id (zN0 _ H0q _)) (.cons (.row (.ids (gO _ H0q _))) .nil)) (by first|rfl|(simp(disch:=first|omega|(apply id;simp only[push_cast];try omega))only[push_cast])) (by first|rfl|(simp(disch:=first|omega|(apply id;simp only[push_cast];try omega))only[push_cast])) ?_
 simp(disch:=first|omega|(apply id;simp only[push_cast];try omega))only[push_cast,simprocAttr]
 refine jB.dataI (nC1 G s a (s.getD a.toNat []++[t]) hs hsr) (by and_intros<;>first|rfl|(simp(disch:=first|omega|(apply id;simp only[push_cast];try omega))only[push_cast])) ?_
 simp(disch:=first|omega|(apply id;simp only[push_cast];try omega))only[push_cast,simprocAttr]
 exact .id (uA1 _ H0q _)
theorem iK1 (s:List (List Tm)) (a:Int) (hs:kM s):jG (pp G) H0 28 [trV s,.int .i64 a] (trV (setZ s a [])):=by
 have hlo:H0.lo≤H0.next:=Nat.le_refl _;refine jG.cut (jD.fir4 (q:=qq) (jJ G) yO2 (by kernel_rfl) rfl rfl (cJ1 ..) (show NGG≤H0.lo by rw[jW];decide) ?_);rw[wI1]
 simp(disch:=first|omega|(apply id;simp only[push_cast];try omega))only[push_cast,simprocAttr]
 refine jB.data (nC1 G s a [] hs wI0) (by repeat' (first|exact FzL.nil|apply FzL.cons|exact FzV.id rfl|(refine FzV.id ?_;simp(disch:=first|omega|(apply id;simp only[push_cast];try omega))only[push_cast];done)|exact zG1 ..|exact wT0 ..|exact nV1 ..|exact kC2 ..|exact oM0 ..|exact kB2 ..|apply FzV.agg|apply FzV.row)) (by first|rfl|(simp(disch:=first|omega|(apply id;simp only[push_cast];try omega))only[push_cast])) (by first|rfl|(simp(disch:=first|omega|(apply id;simp only[push_cast];try omega))only[push_cast])) ?_
 simp(disch:=first|omega|(apply id;simp only[push_cast];try omega))only[push_cast,simprocAttr]
 exact .id (uA1 _ H0q _)
def zE:Ex:=.mk 0 0 [] []
def zT:Tm:=.mk 0 0 0 [] zE []
def jC1 (x:Tm):List Tm→Tm
 | []=>x
 | t :: r=>.mk 12 0 0 [] zE [t,jC1 x r]
def kK (x:Tm):List Tm→List Value
 | []=>tmC x
 | t :: r=>[.int .i64 12,.int .i64 0,.int .i64 0,.string (Tx []),.int .i64 0,.int .i64 0,.string (Tx []),.slice none 0 0,Rw true 34 2 (tmC t++kK x r)]
def revF:List Tm→Tm
 | []=>zT
 | x :: r=>jC1 x r.reverse
theorem zI0 (x:Tm) (r:List Tm):(kK x r).length=9:=by cases r<;>simp[kK,qJ0]
theorem zH0 (x:Tm) (r:List Tm):(kK x r).all one=true:=by
 cases r with
 | nil=>exact lL0 x
 | cons t r=>rfl
theorem pE0 (n:Nat) (hn:0<n) (σ:jA) (x:Tm):∀ r:List Tm,FzL (pp G).P n σ (kK x r) (tmC (jC1 x r))
 | []=>.ids (fE0 n hn x)
 | t :: r=>by
  rw[kK,jC1]
  refine .cons (.id rfl) (.cons (.id rfl) (.cons (.id rfl) (.cons (.id rfl) (.cons (.id rfl) (.cons (.id rfl) (.cons (.id rfl) (.cons (wT0 G n σ) (.cons (.row ?_) .nil))))))))
  rw[show jY [t,jC1 x r]=tmC t++tmC (jC1 x r) by rw[jY,yL0]]
  exact (FzL.ids (fE0 n hn t)).app (pE0 n hn σ x r)
theorem row2 (t x:Tm) (r:List Tm) (σ:jA):bsD (qq.m 32) (slT Try.prog 32) 2 [(0,tmV t),(1,.agg ⟨kK x r⟩)] σ=some (Rw true 34 2 (tmC t++kK x r),σ):=by
 cases r with
 | nil=>rw[kK];cases t;cases x;kernel_rfl
 | cons u r=>rw[kK];generalize kK x r=c;cases t;cases u;kernel_rfl
inductive I25 (s:List (List Tm)) (a:Int) (x:Tm) (l:List Tm):Nat→S→Prop
 | mk (i : Nat) (iv : Int) (h : jA) {x2 x3 x5 x6 x8 x9 xA xB xC xD xE xF xG xH xI xJ xK xL xM xN xO xP xQ xR xS xT xU xV xW xX yB yC yD yE yF yG yH yI yJ yK yL yM : Value} (hiv : iv = (i : Int)) (hi : i ≤ l.length)
   (c0:cells h 1=some ([.int .i64 0,.int .i64 0,.int .i64 0,.string (Tx []),.int .i64 0,.int .i64 0,.string (Tx []),.slice none 0 0,.slice none 0 0],34,false))
   (c1:cells h 2=some (kK x (l.take i).reverse,34,false)) (hl1:h.lo=1) (hl2:3≤h.next) :
  I25 s a x l (l.length-i) ⟨(F49 (trV s) (.int .i64 a) x2 x3 (.pointer (some ⟨1,0,none⟩)) x5 x6 (.pointer (some ⟨2,0,none⟩)) x8 x9 xA xB xC xD xE xF xG xH xI xJ xK xL xM xN xO xP xQ xR xS xT xU xV xW xX (qA l) (.int .i64 l.length) (.int .i64 iv) yB yC yD yE yF yG yH yI yJ yK yL yM),[],h⟩
def ttV (t:Tm) (s:List (List Tm)):Value:=.tuple ⟨[tmV t,trV s]⟩
theorem oE0 (l:List Tm) {i:Nat} {t:Tm} (h:l[i]?=some t):(l.take (i+1)).reverse=t :: (l.take i).reverse:=by
 rw[jL h,List.reverse_append];rfl
theorem wT1 (s:List (List Tm)) (a:Int) (hs:kM s) (ha:0≤a∧a<s.length) :
  jG (pp G) H0 25 [trV s,.int .i64 a] (ttV (revF (s.getD a.toNat [])) (setZ s a [])):=by
 have hga:=jJ0 hs a.toNat
 have hsl:=hs.1
 have hp:=uB0 (s:=s) (i:=a.toNat) (by omega)
 have hc:(a.toNat:Int)=a:=by omega
 have hlt:a.toNat<s.length:=by omega
 have hset:s.getD a.toNat []=[]→setZ s a []=s:=fun h0=>by
  unfold setZ
  rw[if_pos ha.1]
  rw[List.getD_eq_getElem?_getD,List.getElem?_eq_getElem hlt] at h0
  simp only[Option.getD_some] at h0
  rw[← h0]
  exact List.set_getElem_self hlt
 generalize s.getD a.toNat []=row at hga hp hset
 have hd:decide (0≤a∧a<(s.length:Int))=true:=by simpa using ha
 have hrl:=hga.1
 have hlo:H0.lo≤H0.next:=Nat.le_refl _;refine jG.cut (jD.fir4 (q:=qq) (jJ G) yP2 (by kernel_rfl) rfl rfl (cL1 ..) (show NGG≤H0.lo by rw[jW];decide) ?_);rw[wJ1]
 simp(disch:=first|omega|(apply id;simp only[push_cast];try omega))only[push_cast,simprocAttr]
 refine jB.dataI (tO0 G s a hs.1) (by and_intros<;>first|rfl|(simp(disch:=first|omega|(apply id;simp only[push_cast];try omega))only[push_cast])) ?_
 cases row with
 | nil=>
  rw[hset rfl]
  unfold trV
  unfold qA at hp
  simp(disch:=first|omega|(apply id;simp only[push_cast];try omega))only[push_cast,simprocAttr,hd,hp,hlt,ha.1,ha.2,List.length_nil,show ((0:Nat):Int)=0 from rfl]
  have:=zX2 G s hs
  unfold trV at this
  refine jB.dataI (this) (by and_intros<;>first|rfl|(simp(disch:=first|omega|(apply id;simp only[push_cast];try omega))only[push_cast])) ?_
  simp(disch:=first|omega|(apply id;simp only[push_cast];try omega))only[push_cast,simprocAttr]
  refine .tup (.cons (.agg ?_) (.cons (.id (nW0 _ H0q _ _ _)) .nil))
  exact .cons (.id rfl) (.cons (.id rfl) (.cons (.id rfl) (.cons (.id rfl) (.cons (.id rfl) (.cons (.id rfl) (.cons (.id rfl) (.cons (wT0 G _ _) (.cons (zG1 G _ _) .nil))))))))
 | cons x l=>
  have hll:l.length+1<100000000000:=by simpa using hrl
  have hxs:smT x=true:=qN hga.2 x (by simp)
  have hls:smTs l=true:=by have:=hga.2;simp only[smTs,Bool.and_eq_true] at this;exact this.2
  have hne:¬ ((l.length:Int)+1)=0:=by omega
  have h9:9≤(l.length+1)*9:=by omega
  have hT:jG (pp G) H0 56 [Rw false etm (x :: l).length (jY (x :: l))] (Rw false etm (x :: l).length (jY (x :: l))):=mA0 G _ hga
  have hdr:(jY (x :: l)).drop 9=jY l:=by
   have:=wH0 (x :: l) 1
   simpa using this
  unfold trV
  unfold qA at hp
  simp(disch:=first|omega|(apply id;simp only[push_cast];try omega))only[push_cast,simprocAttr,hd,hp,hlt,ha.1,ha.2,List.length_cons,hne]
  rw[List.length_cons] at hT
  refine jB.dataI (hT) (by and_intros<;>first|rfl|(simp(disch:=first|omega|(apply id;simp only[push_cast];try omega))only[push_cast])) ?_
  have e2:(l.length:Int)+1-1=l.length:=by omega
  simp(disch:=first|omega|(apply id;simp only[push_cast];try omega))only[push_cast,simprocAttr,h9,List.length_cons,hdr,Nat.add_sub_cancel,e2]
  refine WD.loop4 (q:=qq) (jJ G) (by kernel_rfl) (I25 s a x l) ?_ _ _ (I25.mk 0 0 _ rfl (Nat.zero_le _) (by simp(disch:=first|omega|(apply id;simp only[push_cast];try omega))only[push_cast,simprocAttr]) (by simp(disch:=first|omega|(apply id;simp only[push_cast];try omega))only[push_cast,simprocAttr];rfl) rfl (by first|assumption|(simp(disch:=first|omega|(apply id;simp only[push_cast];try omega))only[push_cast,simprocAttr];try omega)))
  intro m s1 hI
  cases hI with|mk i iv h hiv hi c0 c1 hl1 hl2=>
  subst hiv
  rw[cG0]
  unfold trV qA
  by_cases hil:(i:Int)<l.length
  ·obtain ⟨t,ht⟩:=jM (l:=l) (i:=i) (by omega)
   have hpt:=uW ht
   have hle2:i*9+9≤l.length*9:=by omega
   have hbl:=zI0 x (l.take i).reverse
   have hbt:(kK x (l.take i).reverse).take 9=kK x (l.take i).reverse:=List.take_of_length_le (by rw[hbl];omega)
   have hbd:(kK x (l.take i).reverse).drop 9=[]:=List.drop_of_length_le (by rw[hbl];omega)
   have hbo:=zH0 x (l.take i).reverse
   simp(disch:=first|omega|(apply id;simp only[push_cast];try omega))only[push_cast,simprocAttr,hil,Int.toNat_natCast,hpt,hle2,hl1,c1,hbl,hbt,hbd,hbo,↓row2]
   exact ⟨_,by omega,I25.mk (i+1) _ _ (by first|rfl|omega) (by omega) (by first|assumption|(simp(disch:=first|omega|(apply id;simp only[push_cast];try omega))only[push_cast,simprocAttr,c0];try omega)) (by rw[oE0 l ht,kK];simp(disch:=first|omega|(apply id;simp only[push_cast];try omega))only[push_cast,simprocAttr]) (by first|assumption|(simp(disch:=first|omega|(apply id;simp only[push_cast];try omega))only[push_cast,simprocAttr,hl1];try omega)) (by first|assumption|(simp(disch:=first|omega|(apply id;simp only[push_cast];try omega))only[push_cast,simprocAttr];try omega))⟩
  ·have hie:i=l.length:=by omega
   subst hie
   rw[List.take_length] at c1
   have hbl:=zI0 x l.reverse
   have hbt:(kK x l.reverse).take 9=kK x l.reverse:=List.take_of_length_le (by rw[hbl];omega)
   have hbd:(kK x l.reverse).drop 9=[]:=List.drop_of_length_le (by rw[hbl];omega)
   have hbo:=zH0 x l.reverse
   simp(disch:=first|omega|(apply id;simp only[push_cast];try omega))only[push_cast,simprocAttr,hil]
   rw[cF0]
   simp(disch:=first|omega|(apply id;simp only[push_cast];try omega))only[push_cast,simprocAttr,c1,hbl,hbt,hl1]
   have hA:=iK1 G s a hs
   unfold trV at hA
   refine jB.dataI (hA) (by and_intros<;>first|rfl|(simp(disch:=first|omega|(apply id;simp only[push_cast];try omega))only[push_cast])) ?_
   simp(disch:=first|omega|(apply id;simp only[push_cast];try omega))only[push_cast,simprocAttr,c0,hl1,hbl,hbo,hbt,hbd]
   refine .tup (.cons (.agg (pE0 G _ H0q _ x _)) (.cons (.id (nW0 _ H0q _ _ _)) .nil))
end
end Go.Proofs.Ytgeakofgklcipaa
