/-
  A part of the proof: what the program's functions hand back,as theorems. No condition but those that each theorem names.
-/
import Derived.Test.YtgeakofgklcipaaExa
import Derived.Test.YtgeakofgklcipaaEve
import Derived.Test.YtgeakofgklcipaaExb
set_option linter.unusedSimpArgs false
set_option linter.unusedVariables false
namespace Go.Proofs.Ytgeakofgklcipaa
open Go Go.RowKit Go.Ev Go.Dv
noncomputable section
set_option maxRecDepth 100000
def W (a:Int):Int:=IntKind.i64.wrap a
def In (a:Int):Prop:=-9223372036854775808≤a∧a≤9223372036854775807
theorem W_in {a:Int} (h:In a):W a=a:=by
 unfold In at h
 unfold W;rw[IntKind.wrap_i64];omega
theorem H0p:0<H0.lo:=by rw[qW];omega
theorem H0q:0<H0.next:=by rw[jM0];omega
abbrev eI:Nat:=3
def ivs (l:List Int):List Value:=l.map (Value.int .i64)
def ivV (l:List Int):Value:=Rw false eI l.length (ivs l)
theorem uC0 (l:List Int):(ivs l).length=l.length:=by simp[ivs]
theorem kX0 (n:Nat):∀ l:List Int,scL n (ivs l)=true
 | []=>rfl
 | x :: l=>by
  have:=kX0 n l
  simp only[ivs] at this
  simp[ivs,scL,sc,this]
theorem sS1 (n:Nat) (hn:0<n) (k:Nat) (f:Bool) (l:List Int):sc n (Rw f eI k (ivs l))=true:=by
 have:=kX0 n l
 simp[sc,Rw,scL,this,hn]
theorem rS0 (n:Nat) (hn:0<n) (l:List Int):sc n (ivV l)=true:=sS1 n hn ..
theorem kH0:∀ l:List Int,(ivs l).all one=true
 | []=>rfl
 | x :: l=>by
  have:=kH0 l
  simp only[ivs] at this
  simp[ivs,one]
theorem eX0 {l:List Int} {i:Nat} (h:i<l.length):(ivs l)[i]?=some (.int .i64 (l.getD i 0)):=by simp[ivs,h]
theorem eY0 (a b:List Int):ivs (a++b)=ivs a++ivs b:=by simp[ivs]
abbrev eS:Nat:=9
def nss (l:List (List UInt8)):List Value:=l.map fun s=>Value.string (Tx s)
def nsV (l:List (List UInt8)):Value:=Rw false eS l.length (nss l)
theorem wM2 (l:List (List UInt8)):(nss l).length=l.length:=by simp[nss]
theorem zH0 (n:Nat):∀ l:List (List UInt8),scL n (nss l)=true
 | []=>rfl
 | x :: l=>by
  have:=zH0 n l
  simp only[nss] at this
  simp[nss,scL,sc,this]
theorem dB0 (n:Nat) (hn:0<n) (k:Nat) (f:Bool) (l:List (List UInt8)):sc n (Rw f eS k (nss l))=true:=by
 have:=zH0 n l
 simp[sc,Rw,scL,this,hn]
theorem lA0 (n:Nat) (hn:0<n) (l:List (List UInt8)):sc n (nsV l)=true:=dB0 n hn ..
theorem qC0 {l:List (List UInt8)} {i:Nat} (h:i<l.length):(nss l)[i]?=some (.string (Tx (l.getD i []))):=by simp[nss,h]
theorem yR1 (a b:List (List UInt8)):nss (a++b)=nss a++nss b:=by simp[nss]
abbrev eB:Nat:=4
def bvs (l:List Bool):List Value:=l.map Value.bool
def bvV (l:List Bool):Value:=Rw false eB l.length (bvs l)
theorem jL0 (l:List Bool):(bvs l).length=l.length:=by simp[bvs]
theorem yB0 (n:Nat):∀ l:List Bool,scL n (bvs l)=true
 | []=>rfl
 | x :: l=>by
  have:=yB0 n l
  simp only[bvs] at this
  simp[bvs,scL,sc,this]
theorem tD1 (n:Nat) (hn:0<n) (k:Nat) (f:Bool) (l:List Bool):sc n (Rw f eB k (bvs l))=true:=by
 have:=yB0 n l
 simp[sc,Rw,scL,this,hn]
theorem oR0:∀ l:List Bool,(bvs l).all one=true
 | []=>rfl
 | x :: l=>by
  have:=oR0 l
  simp only[bvs] at this
  simp[bvs,one]
theorem uK0 {l:List Bool} {i:Nat} (h:i<l.length):(bvs l)[i]?=some (.bool (l.getD i false)):=by simp[bvs,h]
@[push_cast]theorem sc_nil (n a b:Nat):sc n (.slice none a b)=true:=rfl
theorem bG2 (n:Nat) (l:List Value):sc n (.agg ⟨l⟩)=scL n l:=rfl
theorem bF2 (n:Nat) (k:IntKind) (i:Int):sc n (.int k i)=true:=rfl
theorem bD2 (n:Nat) (s:ByteArray):sc n (.string s)=true:=rfl
attribute [push_cast] bG2 bF2 bD2
@[push_cast]theorem sc_fn (n f:Nat):sc n (.func (.func f) #[] #[])=true:=rfl
attribute [push_cast] uC0 kX0 sS1 rS0 kH0 wM2 zH0 dB0 lA0 jL0 yB0 tD1 oR0 fF2 fG2 Int.toNat_zero Int.toNat_one Int.natCast_one qW jM0
def jR (a n:Int):Int:=if a.tmod n<0 then a.tmod n+n else a.tmod n
theorem qM {a n:Int} (hn:0<n):0≤jR a n∧jR a n<n:=by
 have h1:(a.tmod n).natAbs=a.natAbs % n.natAbs:=Int.natAbs_tmod a n
 have h2:a.natAbs % n.natAbs<n.natAbs:=Nat.mod_lt _ (by omega)
 unfold jR
 split<;>omega
inductive Ex where
 | mk (k:Int) (n:Int) (s:List UInt8) (l:List Ex)
abbrev eE:Nat:=31
mutual
def exC:Ex→List Value
 | .mk k n s l=>[.int .i64 k,.int .i64 n,.string (Tx s),Rw false eE l.length (kM l)]
def kM:List Ex→List Value
 | []=>[]
 | x :: l=>exC x++kM l
end
def exV (x:Ex):Value:=.agg ⟨exC x⟩
def exsV (l:List Ex):Value:=Rw false eE l.length (kM l)
theorem eK2 (k:Int) (n:Int) (s:List UInt8) (l:List Ex):exC (.mk k n s l)=[.int .i64 k,.int .i64 n,.string (Tx s),Rw false eE l.length (kM l)]:=rfl
theorem wO0 (x:Ex):(exC x).length=4:=by cases x;simp[exC]
theorem zP0:∀ l:List Ex,(kM l).length=l.length*4
 | []=>rfl
 | x :: l=>by rw[kM,List.length_append,wO0,zP0 l,List.length_cons];omega
theorem dG1:∀ x:Ex,(exC x).all one=true
 | .mk k n s l=>by simp[exC,one,Rw]
theorem fM0:∀ l:List Ex,(kM l).all one=true
 | []=>rfl
 | x :: l=>by rw[kM,List.all_append,dG1 x,fM0 l];rfl
mutual
theorem dF1 (nn:Nat) (hn:0<nn):∀ x:Ex,scL nn (exC x)=true
 | .mk k n s l=>by
  have:=qI0 nn hn l
  simp[exC,scL,Ev.sc,Rw,hn, *]
theorem qI0 (nn:Nat) (hn:0<nn):∀ l:List Ex,scL nn (kM l)=true
 | []=>rfl
 | x :: l=>by
  rw[kM]
  exact jY fun v hv=>(List.mem_append.1 hv).elim (jX (dF1 nn hn x) v) (jX (qI0 nn hn l) v)
end
theorem rZ0 (n:Nat) (hn:0<n) (x:Ex):Ev.sc n (exV x)=true:=dF1 n hn x
theorem bE0 (n:Nat) (hn:0<n) (k:Nat) (f:Bool) (l:List Ex):Ev.sc n (Rw f eE k (kM l))=true:=by
 have:=qI0 n hn l
 simp[Ev.sc,Rw,scL,this,hn]
theorem kC2 (n:Nat) (hn:0<n) (l:List Ex):Ev.sc n (exsV l)=true:=bE0 n hn ..
theorem fN0:∀ (a b:List Ex),kM (a++b)=kM a++kM b
 | [],b=>rfl
 | x :: a,b=>by rw[List.cons_append,kM,fN0 a b,kM,List.append_assoc]
theorem sV1 (x:Ex):kM [x]=exC x:=by rw[kM,kM,List.append_nil]
theorem lX0:∀ (l:List Ex) (i:Nat),(kM l).drop (i*4)=kM (l.drop i)
 | l,0=>by simp
 | [],i+1=>by simp[kM]
 | x :: l,i+1=>by
  rw[kM,List.drop_succ_cons,← lX0 l i,Nat.add_mul,Nat.one_mul,Nat.add_comm,← List.drop_drop,List.drop_append_of_le_length (by rw[wO0];exact Nat.le_refl _),show (exC x).drop 4=[] from List.drop_of_length_le (by rw[wO0];exact Nat.le_refl _),List.nil_append]
theorem lW0 {l:List Ex} {i:Nat} {x:Ex} (h:l[i]?=some x):((kM l).drop (i*4)).take 4=exC x:=by
 have hi:i<l.length:=(List.getElem?_eq_some_iff.1 h).1
 have hd:l.drop i=x :: l.drop (i+1):=by rw[List.drop_eq_getElem_cons hi];congr 1;exact (List.getElem?_eq_some_iff.1 h).2
 rw[lX0,hd,kM,List.take_append_of_le_length (by rw[wO0];exact Nat.le_refl _),List.take_of_length_le (by rw[wO0];exact Nat.le_refl _)]
theorem mS1 (x:Ex):Value.agg ⟨exC x⟩=exV x:=rfl
theorem dE1 (x:Ex):(exV x).cells.toList=exC x:=rfl
theorem mT1 (x:Ex):(exC x).take 4=exC x:=List.take_of_length_le (by rw[wO0];exact Nat.le_refl _)
attribute [push_cast] eK2 zP0 mS1 qI0 rZ0 kC2 bE0 dF1 fM0 dG1 dE1 mT1 wO0
def Ex.k:Ex→Int | .mk k _ _ _=>k
def Ex.n:Ex→Int | .mk _ n _ _=>n
def Ex.s:Ex→List UInt8 | .mk _ _ s _=>s
def Ex.l:Ex→List Ex | .mk _ _ _ l=>l
theorem Ex.k_mk (k n:Int) (s:List UInt8) (l:List Ex):Ex.k (.mk k n s l)=k:=rfl
theorem Ex.n_mk (k n:Int) (s:List UInt8) (l:List Ex):Ex.n (.mk k n s l)=n:=rfl
theorem Ex.s_mk (k n:Int) (s:List UInt8) (l:List Ex):Ex.s (.mk k n s l)=s:=rfl
theorem Ex.l_mk (k n:Int) (s:List UInt8) (l:List Ex):Ex.l (.mk k n s l)=l:=rfl
theorem sA0 (x:Ex):exC x=[.int .i64 x.k,.int .i64 x.n,.string (Tx x.s),Rw false eE x.l.length (kM x.l)]:=by cases x;rfl
theorem eJ2 (x:Ex):Value.agg ⟨[.int .i64 x.k,.int .i64 x.n,.string (Tx x.s),Rw false eE x.l.length (kM x.l)]⟩=exV x:=by cases x;rfl
attribute [push_cast] Ex.k_mk Ex.n_mk Ex.s_mk Ex.l_mk eJ2
inductive Tm where
 | mk (k:Int) (a:Int) (b:Int) (s:List UInt8) (e:Ex) (l:List Tm)
abbrev etm:Nat:=34
mutual
def tmC:Tm→List Value
 | .mk k a b s e l=>[.int .i64 k,.int .i64 a,.int .i64 b,.string (Tx s),.int .i64 e.k,.int .i64 e.n,.string (Tx e.s),Rw false eE e.l.length (kM e.l),Rw false etm l.length (uW l)]
def uW:List Tm→List Value
 | []=>[]
 | x :: l=>tmC x++uW l
end
def tmV (x:Tm):Value:=.agg ⟨tmC x⟩
def tmsV (l:List Tm):Value:=Rw false etm l.length (uW l)
theorem cN0 (k:Int) (a:Int) (b:Int) (s:List UInt8) (e:Ex) (l:List Tm):tmC (.mk k a b s e l)=[.int .i64 k,.int .i64 a,.int .i64 b,.string (Tx s),.int .i64 e.k,.int .i64 e.n,.string (Tx e.s),Rw false eE e.l.length (kM e.l),Rw false etm l.length (uW l)]:=rfl
theorem bS (x:Tm):(tmC x).length=9:=by cases x;simp[tmC]
theorem cA:∀ l:List Tm,(uW l).length=l.length*9
 | []=>rfl
 | x :: l=>by rw[uW,List.length_append,bS,cA l,List.length_cons];omega
theorem gA0:∀ x:Tm,(tmC x).all one=true
 | .mk k a b s e l=>by simp[tmC,one,Rw]
theorem uO0:∀ l:List Tm,(uW l).all one=true
 | []=>rfl
 | x :: l=>by rw[uW,List.all_append,gA0 x,uO0 l];rfl
mutual
theorem iJ0 (nn:Nat) (hn:0<nn):∀ x:Tm,scL nn (tmC x)=true
 | .mk k a b s e l=>by
  have:=jY0 nn hn l
  simp[tmC,scL,Ev.sc,Rw,hn,qI0, *]
theorem jY0 (nn:Nat) (hn:0<nn):∀ l:List Tm,scL nn (uW l)=true
 | []=>rfl
 | x :: l=>by
  rw[uW]
  exact jY fun v hv=>(List.mem_append.1 hv).elim (jX (iJ0 nn hn x) v) (jX (jY0 nn hn l) v)
end
theorem bZ (n:Nat) (hn:0<n) (x:Tm):Ev.sc n (tmV x)=true:=iJ0 n hn x
theorem sB1 (n:Nat) (hn:0<n) (k:Nat) (f:Bool) (l:List Tm):Ev.sc n (Rw f etm k (uW l))=true:=by
 have:=jY0 n hn l
 simp[Ev.sc,Rw,scL,this,hn]
theorem zM1 (n:Nat) (hn:0<n) (l:List Tm):Ev.sc n (tmsV l)=true:=sB1 n hn ..
theorem uP0:∀ (a b:List Tm),uW (a++b)=uW a++uW b
 | [],b=>rfl
 | x :: a,b=>by rw[List.cons_append,uW,uP0 a b,uW,List.append_assoc]
theorem zO1 (x:Tm):uW [x]=tmC x:=by rw[uW,uW,List.append_nil]
theorem iI0:∀ (l:List Tm) (i:Nat),(uW l).drop (i*9)=uW (l.drop i)
 | l,0=>by simp
 | [],i+1=>by simp[uW]
 | x :: l,i+1=>by
  rw[uW,List.drop_succ_cons,← iI0 l i,Nat.add_mul,Nat.one_mul,Nat.add_comm,← List.drop_drop,List.drop_append_of_le_length (by rw[bS];exact Nat.le_refl _),show (tmC x).drop 9=[] from List.drop_of_length_le (by rw[bS];exact Nat.le_refl _),List.nil_append]
theorem zX0:∀ (l:List Tm) (i:Nat),(uW l).take (i*9)=uW (l.take i)
 | l,0=>by simp[uW]
 | [],i+1=>by simp[uW]
 | x :: l,i+1=>by
  rw[uW,List.take_succ_cons,uW,← zX0 l i,Nat.add_mul,Nat.one_mul,Nat.add_comm,List.take_append,bS,List.take_of_length_le (by rw[bS];omega),Nat.add_sub_cancel_left]
theorem jF0 {l:List Tm} {i:Nat} {x:Tm} (h:l[i]?=some x):((uW l).drop (i*9)).take 9=tmC x:=by
 have hi:i<l.length:=(List.getElem?_eq_some_iff.1 h).1
 have hd:l.drop i=x :: l.drop (i+1):=by rw[List.drop_eq_getElem_cons hi];congr 1;exact (List.getElem?_eq_some_iff.1 h).2
 rw[iI0,hd,uW,List.take_append_of_le_length (by rw[bS];exact Nat.le_refl _),List.take_of_length_le (by rw[bS];exact Nat.le_refl _)]
theorem fY1 (x:Tm):Value.agg ⟨tmC x⟩=tmV x:=rfl
theorem zN1 (x:Tm):(tmV x).cells.toList=tmC x:=rfl
theorem yN0 (x:Tm):(tmC x).take 9=tmC x:=List.take_of_length_le (by rw[bS];exact Nat.le_refl _)
theorem jB2 (x:Tm) (l:List Tm):(uW (x :: l)).take 9=tmC x:=jF0 (l:=x :: l) (i:=0) rfl
theorem jA2 (x y:Tm) (l:List Tm):((uW (x :: y :: l)).drop 9).take 9=tmC y:=jF0 (l:=x :: y :: l) (i:=1) rfl
attribute [push_cast] cN0 cA fY1 jY0 bZ zM1 sB1 iJ0 uO0 gA0 zN1 yN0 bS jB2 jA2
def Tm.k:Tm→Int | .mk k _ _ _ _ _=>k
def Tm.a:Tm→Int | .mk _ a _ _ _ _=>a
def Tm.b:Tm→Int | .mk _ _ b _ _ _=>b
def Tm.s:Tm→List UInt8 | .mk _ _ _ s _ _=>s
def Tm.e:Tm→Ex | .mk _ _ _ _ e _=>e
def Tm.l:Tm→List Tm | .mk _ _ _ _ _ l=>l
theorem Tm.k_mk (k a b:Int) (s:List UInt8) (e:Ex) (l:List Tm):Tm.k (.mk k a b s e l)=k:=rfl
theorem Tm.l_mk (k a b:Int) (s:List UInt8) (e:Ex) (l:List Tm):Tm.l (.mk k a b s e l)=l:=rfl
inductive Pr where
 | mk (k:Int) (n:List UInt8) (t:List UInt8) (e:Ex) (l:List Pr)
abbrev epr:Nat:=77
mutual
def prC:Pr→List Value
 | .mk k n t e l=>[.int .i64 k,.string (Tx n),.string (Tx t),.int .i64 e.k,.int .i64 e.n,.string (Tx e.s),Rw false eE e.l.length (kM e.l),Rw false epr l.length (prCs l)]
def prCs:List Pr→List Value
 | []=>[]
 | x :: l=>prC x++prCs l
end
def prV (x:Pr):Value:=.agg ⟨prC x⟩
def prsV (l:List Pr):Value:=Rw false epr l.length (prCs l)
theorem bY2 (k:Int) (n:List UInt8) (t:List UInt8) (e:Ex) (l:List Pr):prC (.mk k n t e l)=[.int .i64 k,.string (Tx n),.string (Tx t),.int .i64 e.k,.int .i64 e.n,.string (Tx e.s),Rw false eE e.l.length (kM e.l),Rw false epr l.length (prCs l)]:=rfl
theorem bJ (x:Pr):(prC x).length=8:=by cases x;simp[prC]
theorem rF0:∀ l:List Pr,(prCs l).length=l.length*8
 | []=>rfl
 | x :: l=>by rw[prCs,List.length_append,bJ,rF0 l,List.length_cons];omega
theorem wA2:∀ x:Pr,(prC x).all one=true
 | .mk k n t e l=>by simp[prC,one,Rw]
mutual
theorem iX0 (nn:Nat) (hn:0<nn):∀ x:Pr,scL nn (prC x)=true
 | .mk k n t e l=>by
  have:=eQ0 nn hn l
  simp[prC,scL,Ev.sc,Rw,hn,qI0, *]
theorem eQ0 (nn:Nat) (hn:0<nn):∀ l:List Pr,scL nn (prCs l)=true
 | []=>rfl
 | x :: l=>by
  rw[prCs]
  exact jY fun v hv=>(List.mem_append.1 hv).elim (jX (iX0 nn hn x) v) (jX (eQ0 nn hn l) v)
end
theorem yI1 (n:Nat) (hn:0<n) (x:Pr):Ev.sc n (prV x)=true:=iX0 n hn x
theorem bX2 (x:Pr):prCs [x]=prC x:=by rw[prCs,prCs,List.append_nil]
theorem iW0:∀ (l:List Pr) (i:Nat),(prCs l).drop (i*8)=prCs (l.drop i)
 | l,0=>by simp
 | [],i+1=>by simp[prCs]
 | x :: l,i+1=>by
  rw[prCs,List.drop_succ_cons,← iW0 l i,Nat.add_mul,Nat.one_mul,Nat.add_comm,← List.drop_drop,List.drop_append_of_le_length (by rw[bJ];exact Nat.le_refl _),show (prC x).drop 8=[] from List.drop_of_length_le (by rw[bJ];exact Nat.le_refl _),List.nil_append]
theorem uA0 {l:List Pr} {i:Nat} {x:Pr} (h:l[i]?=some x):((prCs l).drop (i*8)).take 8=prC x:=by
 have hi:i<l.length:=(List.getElem?_eq_some_iff.1 h).1
 have hd:l.drop i=x :: l.drop (i+1):=by rw[List.drop_eq_getElem_cons hi];congr 1;exact (List.getElem?_eq_some_iff.1 h).2
 rw[iW0,hd,prCs,List.take_append_of_le_length (by rw[bJ];exact Nat.le_refl _),List.take_of_length_le (by rw[bJ];exact Nat.le_refl _)]
theorem iU1 (x:Pr):Value.agg ⟨prC x⟩=prV x:=rfl
theorem yJ1 (x:Pr):(prV x).cells.toList=prC x:=rfl
theorem iV1 (x:Pr):(prC x).take 8=prC x:=List.take_of_length_le (by rw[bJ];exact Nat.le_refl _)
theorem uZ2 (x:Pr) (l:List Pr):(prCs (x :: l)).take 8=prC x:=uA0 (l:=x :: l) (i:=0) rfl
theorem uY2 (x y:Pr) (l:List Pr):((prCs (x :: y :: l)).drop 8).take 8=prC y:=uA0 (l:=x :: y :: l) (i:=1) rfl
attribute [push_cast] bY2 rF0 iU1 eQ0 yI1 iX0 wA2 yJ1 iV1 bJ uZ2 uY2
inductive Ra where
 | mk (k:Int) (n:Int) (l:List Ra)
abbrev era:Nat:=133
mutual
def raC:Ra→List Value
 | .mk k n l=>[.int .i64 k,.int .i64 n,Rw false era l.length (raCs l)]
def raCs:List Ra→List Value
 | []=>[]
 | x :: l=>raC x++raCs l
end
def raV (x:Ra):Value:=.agg ⟨raC x⟩
def rasV (l:List Ra):Value:=Rw false era l.length (raCs l)
theorem bU2 (k:Int) (n:Int) (l:List Ra):raC (.mk k n l)=[.int .i64 k,.int .i64 n,Rw false era l.length (raCs l)]:=rfl
theorem kA0 (x:Ra):(raC x).length=3:=by cases x;simp[raC]
theorem rE0:∀ l:List Ra,(raCs l).length=l.length*3
 | []=>rfl
 | x :: l=>by rw[raCs,List.length_append,kA0,rE0 l,List.length_cons];omega
theorem uT2:∀ x:Ra,(raC x).all one=true
 | .mk k n l=>by simp[raC,one,Rw]
mutual
theorem yG1 (nn:Nat) (hn:0<nn):∀ x:Ra,scL nn (raC x)=true
 | .mk k n l=>by
  have:=gL0 nn hn l
  simp[raC,scL,Ev.sc,Rw,hn, *]
theorem gL0 (nn:Nat) (hn:0<nn):∀ l:List Ra,scL nn (raCs l)=true
 | []=>rfl
 | x :: l=>by
  rw[raCs]
  exact jY fun v hv=>(List.mem_append.1 hv).elim (jX (yG1 nn hn x) v) (jX (gL0 nn hn l) v)
end
theorem bT2 (n:Nat) (hn:0<n) (x:Ra):Ev.sc n (raV x)=true:=yG1 n hn x
theorem sN1 (n:Nat) (hn:0<n) (k:Nat) (f:Bool) (l:List Ra):Ev.sc n (Rw f era k (raCs l))=true:=by
 have:=gL0 n hn l
 simp[Ev.sc,Rw,scL,this,hn]
theorem uS2 (n:Nat) (hn:0<n) (l:List Ra):Ev.sc n (rasV l)=true:=sN1 n hn ..
theorem iV0:∀ (l:List Ra) (i:Nat),(raCs l).drop (i*3)=raCs (l.drop i)
 | l,0=>by simp
 | [],i+1=>by simp[raCs]
 | x :: l,i+1=>by
  rw[raCs,List.drop_succ_cons,← iV0 l i,Nat.add_mul,Nat.one_mul,Nat.add_comm,← List.drop_drop,List.drop_append_of_le_length (by rw[kA0];exact Nat.le_refl _),show (raC x).drop 3=[] from List.drop_of_length_le (by rw[kA0];exact Nat.le_refl _),List.nil_append]
theorem gK0 {l:List Ra} {i:Nat} {x:Ra} (h:l[i]?=some x):((raCs l).drop (i*3)).take 3=raC x:=by
 have hi:i<l.length:=(List.getElem?_eq_some_iff.1 h).1
 have hd:l.drop i=x :: l.drop (i+1):=by rw[List.drop_eq_getElem_cons hi];congr 1;exact (List.getElem?_eq_some_iff.1 h).2
 rw[iV0,hd,raCs,List.take_append_of_le_length (by rw[kA0];exact Nat.le_refl _),List.take_of_length_le (by rw[kA0];exact Nat.le_refl _)]
theorem iS1 {l:List Ra} {i j:Nat} {x:Ra} {v:Value} (h:l[i]?=some x) (hj:j<3) (hv:(raC x)[j]?=some v):(raCs l)[i*3+j]?=some v:=by
 have h1:=gK0 h
 rw[← h1,List.getElem?_take_of_lt hj,List.getElem?_drop] at hv
 exact hv
theorem iR1 (x:Ra):Value.agg ⟨raC x⟩=raV x:=rfl
theorem yF1 (x:Ra):(raV x).cells.toList=raC x:=rfl
attribute [push_cast] bU2 rE0 iR1 gL0 bT2 uS2 sN1 yG1 uT2 yF1 kA0
inductive Rb where
 | mk (k:Int) (a:Int) (b:Int) (e:List Ra) (l:List Rb)
abbrev erb:Nat:=38
mutual
def rbC:Rb→List Value
 | .mk k a b e l=>[.int .i64 k,.int .i64 a,.int .i64 b,Rw false era e.length (raCs e),Rw false erb l.length (rbCs l)]
def rbCs:List Rb→List Value
 | []=>[]
 | x :: l=>rbC x++rbCs l
end
def rbV (x:Rb):Value:=.agg ⟨rbC x⟩
def rbsV (l:List Rb):Value:=Rw false erb l.length (rbCs l)
theorem bS2 (k:Int) (a:Int) (b:Int) (e:List Ra) (l:List Rb):rbC (.mk k a b e l)=[.int .i64 k,.int .i64 a,.int .i64 b,Rw false era e.length (raCs e),Rw false erb l.length (rbCs l)]:=rfl
theorem cD (x:Rb):(rbC x).length=5:=by cases x;simp[rbC]
theorem rD0:∀ l:List Rb,(rbCs l).length=l.length*5
 | []=>rfl
 | x :: l=>by rw[rbCs,List.length_append,cD,rD0 l,List.length_cons];omega
theorem nQ0:∀ x:Rb,(rbC x).all one=true
 | .mk k a b e l=>by simp[rbC,one,Rw]
mutual
theorem yE1 (nn:Nat) (hn:0<nn):∀ x:Rb,scL nn (rbC x)=true
 | .mk k a b e l=>by
  have:=gJ0 nn hn l
  simp[rbC,scL,Ev.sc,Rw,hn,gL0, *]
theorem gJ0 (nn:Nat) (hn:0<nn):∀ l:List Rb,scL nn (rbCs l)=true
 | []=>rfl
 | x :: l=>by
  rw[rbCs]
  exact jY fun v hv=>(List.mem_append.1 hv).elim (jX (yE1 nn hn x) v) (jX (gJ0 nn hn l) v)
end
theorem bP2 (n:Nat) (hn:0<n) (x:Rb):Ev.sc n (rbV x)=true:=yE1 n hn x
theorem bQ2 (n:Nat) (hn:0<n) (k:Nat) (f:Bool) (l:List Rb):Ev.sc n (Rw f erb k (rbCs l))=true:=by
 have:=gJ0 n hn l
 simp[Ev.sc,Rw,scL,this,hn]
theorem bR2 (x:Rb):rbCs [x]=rbC x:=by rw[rbCs,rbCs,List.append_nil]
theorem iT0:∀ (l:List Rb) (i:Nat),(rbCs l).drop (i*5)=rbCs (l.drop i)
 | l,0=>by simp
 | [],i+1=>by simp[rbCs]
 | x :: l,i+1=>by
  rw[rbCs,List.drop_succ_cons,← iT0 l i,Nat.add_mul,Nat.one_mul,Nat.add_comm,← List.drop_drop,List.drop_append_of_le_length (by rw[cD];exact Nat.le_refl _),show (rbC x).drop 5=[] from List.drop_of_length_le (by rw[cD];exact Nat.le_refl _),List.nil_append]
theorem zD0 {l:List Rb} {i:Nat} {x:Rb} (h:l[i]?=some x):((rbCs l).drop (i*5)).take 5=rbC x:=by
 have hi:i<l.length:=(List.getElem?_eq_some_iff.1 h).1
 have hd:l.drop i=x :: l.drop (i+1):=by rw[List.drop_eq_getElem_cons hi];congr 1;exact (List.getElem?_eq_some_iff.1 h).2
 rw[iT0,hd,rbCs,List.take_append_of_le_length (by rw[cD];exact Nat.le_refl _),List.take_of_length_le (by rw[cD];exact Nat.le_refl _)]
theorem iP1 (x:Rb):Value.agg ⟨rbC x⟩=rbV x:=rfl
theorem yD1 (x:Rb):(rbV x).cells.toList=rbC x:=rfl
theorem iQ1 (x:Rb):(rbC x).take 5=rbC x:=List.take_of_length_le (by rw[cD];exact Nat.le_refl _)
attribute [push_cast] bS2 rD0 iP1 gJ0 bP2 bQ2 yE1 nQ0 yD1 iQ1 cD
theorem lB0 (G:Nat×Nat) (n:Nat) (σ:jA):FzV (pp G).P n σ (.slice none 0 0) (exsV []):=.nil (size:=4) rfl (by decide)
theorem yT1 (G:Nat×Nat) (n:Nat) (σ:jA):FzV (pp G).P n σ (.slice none 0 0) (prsV []):=.nil (size:=8) rfl (by decide)
theorem nil_iv (G:Nat×Nat) (n:Nat) (σ:jA):FzV (pp G).P n σ (.slice none 0 0) (ivV []):=.nil (size:=1) rfl (by decide)
theorem nil_ns (G:Nat×Nat) (n:Nat) (σ:jA):FzV (pp G).P n σ (.slice none 0 0) (nsV []):=.nil (size:=1) rfl (by decide)
end
end Go.Proofs.Ytgeakofgklcipaa
namespace Go.Proofs.Ytgeakofgklcipaa
open Go Go.RowKit Go.Ev Go.Dv
noncomputable section
set_option maxRecDepth 100000
variable (G:Nat×Nat)
theorem lU0 {A c z:List Value} {w k off:Nat} (hA:A.length=off) (hz:z.length=w):(A++(List.replicate (k+1) z).flatten).take off++c++(A++(List.replicate (k+1) z).flatten).drop (off+w)=(A++c)++(List.replicate k z).flatten:=by
 subst hA
 rw[List.take_left,List.drop_append,List.drop_of_length_le (by omega),List.nil_append,Nat.add_sub_cancel_left,List.replicate_succ,List.flatten_cons,List.drop_append,List.drop_of_length_le (by omega),List.nil_append,hz,Nat.sub_self,List.drop_zero]
theorem rY0 {A z:List Value} {w k off n:Nat} (hA:A.length=off) (hz:z.length=w) (hn:off+k*w=n):(A++(List.replicate k z).flatten).length=n:=by
 rw[List.length_append,List.length_flatten,List.map_replicate,List.sum_replicate_nat,hA,hz,hn]
theorem qG {α:Type} {l:List α} {i:Nat} {x:α} (h:l[i]?=some x):l.take (i+1)=l.take i++[x]:=by
 rw[List.take_add_one,h];rfl
theorem qQ {α:Type} {l:List α} {i:Nat} (h:i<l.length):∃ x,l[i]?=some x:=⟨_,List.getElem?_eq_getElem h⟩
def zex:List Value:=[.int .i64 0,.int .i64 0,.string (Tx []),.slice none 0 0]
inductive ILex (l:List Ex) (fv:Value):Nat→S→Prop
 | mk (i:Nat) (iv:Int) (h:jA) {x0 x2 x3 x4 x6 x7 x8 x9 xA xB xC xD xE xF xG xH xI xJ xK xL xM xN xO xP:Value} (hiv:iv=(i:Int)) (hi:i≤l.length) (c1:cells h 1=some (kM (l.take i)++(List.replicate (l.length-i) zex).flatten,31,false)) (hl1:h.lo=1) (hl2:2≤h.next) :
  ILex l fv (l.length-i) ⟨(F29 x0 fv x2 x3 x4 (.slice (some ⟨1,0,none⟩) l.length l.length) x6 x7 x8 x9 xA xB xC xD (Rw false eE l.length (kM l)) (.int .i64 l.length) (.int .i64 iv) xE xF xG xH xI xJ xK xL xM xN xO xP),[],h⟩
theorem lL1 (l:List Ex) (f:FuncId) (hll:l.length<100000000000) (hf:∀ x∈l,jN (pp G) H0 f [exV x] (exV x)):jN (pp G) H0 88 [exsV l,.func (.func f) #[] #[]] (exsV l):=by
 have hlo:H0.lo≤H0.next:=Nat.le_refl _;refine jN.cut (jH.fir4 (q:=qq) (jQ G) fir88 (by kernel_rfl) rfl rfl (fE1 ..) (show NGG≤H0.lo by rw[qW];decide) ?_);rw[qA2]
 unfold exsV
 by_cases h0:l.length=0
 ·have h0':(l.length:Int)=0:=by omega
  obtain rfl:l=[]:=List.length_eq_zero_iff.1 h0
  simp(disch:=first|omega|(apply id;simp only[push_cast];try omega))only[push_cast,simprocAttr,h0']
  exact .nil (size:=4) rfl (by decide)
 have h0':¬ (l.length:Int)=0:=by omega
 have h1:(l.length:Int)*400+l.length<100000000000000:=by omega
 simp(disch:=first|omega|(apply id;simp only[push_cast];try omega))only[push_cast,simprocAttr,h0',h1]
 refine WD.loop4 (q:=qq) (jQ G) (by kernel_rfl) (ILex l (.func (.func f) #[] #[])) ?_ _ _ (ILex.mk 0 0 _ rfl (Nat.zero_le _) (by simp(disch:=first|omega|(apply id;simp only[push_cast];try omega))only[push_cast,simprocAttr,List.take_zero];rfl) rfl (by first|assumption|(simp(disch:=first|omega|(apply id;simp only[push_cast];try omega))only[push_cast,simprocAttr];try omega)))
 intro m s1 hI
 cases hI with|mk i iv h hiv hi c1 hl1 hl2=>
 subst hiv
 rw[tJ0]
 by_cases hil:(i:Int)<l.length
 ·obtain ⟨x,hx⟩:=qQ (l:=l) (i:=i) (by omega)
  have hxm:=List.mem_of_getElem? hx
  have hp:=lW0 hx
  have hle:i*4+4≤l.length*4:=by omega
  simp(disch:=first|omega|(apply id;simp only[push_cast];try omega))only[push_cast,simprocAttr,hil,Int.toNat_natCast,hp,hle,hl1]
  refine jC.dataI (hf x hxm) (by and_intros<;>first|rfl|(simp(disch:=first|omega|(apply id;simp only[push_cast];try omega))only[push_cast])) ?_
  obtain ⟨k,hk⟩:∃ k,l.length-i=k+1:=⟨l.length-i-1,by omega⟩
  have hta:(kM (l.take i)).length=i*4:=by rw[zP0,List.length_take,Nat.min_eq_left hi]
  have hlen:=rY0 (w:=4) (z:=zex) (k:=l.length-i) (n:=l.length*4) hta rfl (by rw[Nat.sub_mul];omega)
  have hst:=lU0 (c:=exC x) (w:=4) (z:=zex) (k:=k) hta rfl
  rw[← hk,← sV1,← fN0,← qG hx,show k=l.length-(i+1) by omega,sV1] at hst
  simp(disch:=first|omega|(apply id;simp only[push_cast];try omega))only[push_cast,simprocAttr,hil,Int.toNat_natCast,hle,hl1,c1,hlen,hst]
  exact ⟨_,by omega,ILex.mk (i+1) _ _ (by first|rfl|omega) (by omega) (by first|assumption|(simp(disch:=first|omega|(apply id;simp only[push_cast];try omega))only[push_cast,simprocAttr];try omega)) (by first|assumption|(simp(disch:=first|omega|(apply id;simp only[push_cast];try omega))only[push_cast,simprocAttr,hl1];try omega)) (by first|assumption|(simp(disch:=first|omega|(apply id;simp only[push_cast];try omega))only[push_cast,simprocAttr];try omega))⟩
 ·have hie:i=l.length:=by omega
  subst hie
  rw[List.take_length,Nat.sub_self,List.replicate_zero,List.flatten_nil,List.append_nil] at c1
  simp(disch:=first|omega|(apply id;simp only[push_cast];try omega))only[push_cast,simprocAttr,hil]
  rw[tI0]
  simp(disch:=first|omega|(apply id;simp only[push_cast];try omega))only[push_cast,simprocAttr]
  refine .sl (by simp(disch:=first|omega|(apply id;simp only[push_cast];try omega))only[push_cast,simprocAttr]) c1 (size:=4) rfl (by decide) (by first|assumption|(simp(disch:=first|omega|(apply id;simp only[push_cast];try omega))only[push_cast,simprocAttr];try omega)) (.inl ⟨by simp only[UC];omega,Nat.le_refl _⟩) ?_
  rw[List.drop_zero,List.take_of_length_le (by rw[zP0];exact Nat.le_refl _)]
  exact .ids (qI0 _ H0q l)
def ztm:List Value:=[.int .i64 0,.int .i64 0,.int .i64 0,.string (Tx []),.int .i64 0,.int .i64 0,.string (Tx []),.slice none 0 0,.slice none 0 0]
inductive ILtm (l:List Tm) (fv:Value):Nat→S→Prop
 | mk (i:Nat) (iv:Int) (h:jA) {x0 x2 x3 x4 x6 x7 x8 x9 xA xB xC xD xE xF xG xH xI xJ xK xL xM xN xO xP:Value} (hiv:iv=(i:Int)) (hi:i≤l.length) (c1:cells h 1=some (uW (l.take i)++(List.replicate (l.length-i) ztm).flatten,34,false)) (hl1:h.lo=1) (hl2:2≤h.next) :
  ILtm l fv (l.length-i) ⟨(F29 x0 fv x2 x3 x4 (.slice (some ⟨1,0,none⟩) l.length l.length) x6 x7 x8 x9 xA xB xC xD (Rw false etm l.length (uW l)) (.int .i64 l.length) (.int .i64 iv) xE xF xG xH xI xJ xK xL xM xN xO xP),[],h⟩
theorem lK1 (l:List Tm) (f:FuncId) (hll:l.length<100000000000) (hf:∀ x∈l,jN (pp G) H0 f [tmV x] (tmV x)):jN (pp G) H0 73 [tmsV l,.func (.func f) #[] #[]] (tmsV l):=by
 have hlo:H0.lo≤H0.next:=Nat.le_refl _;refine jN.cut (jH.fir4 (q:=qq) (jQ G) fir73 (by kernel_rfl) rfl rfl (fE1 ..) (show NGG≤H0.lo by rw[qW];decide) ?_);rw[qP2]
 unfold tmsV
 by_cases h0:l.length=0
 ·have h0':(l.length:Int)=0:=by omega
  obtain rfl:l=[]:=List.length_eq_zero_iff.1 h0
  simp(disch:=first|omega|(apply id;simp only[push_cast];try omega))only[push_cast,simprocAttr,h0']
  exact .nil (size:=9) rfl (by decide)
 have h0':¬ (l.length:Int)=0:=by omega
 have h1:(l.length:Int)*400+l.length<100000000000000:=by omega
 simp(disch:=first|omega|(apply id;simp only[push_cast];try omega))only[push_cast,simprocAttr,h0',h1]
 refine WD.loop4 (q:=qq) (jQ G) (by kernel_rfl) (ILtm l (.func (.func f) #[] #[])) ?_ _ _ (ILtm.mk 0 0 _ rfl (Nat.zero_le _) (by simp(disch:=first|omega|(apply id;simp only[push_cast];try omega))only[push_cast,simprocAttr,List.take_zero];rfl) rfl (by first|assumption|(simp(disch:=first|omega|(apply id;simp only[push_cast];try omega))only[push_cast,simprocAttr];try omega)))
 intro m s1 hI
 cases hI with|mk i iv h hiv hi c1 hl1 hl2=>
 subst hiv
 rw[jI1]
 by_cases hil:(i:Int)<l.length
 ·obtain ⟨x,hx⟩:=qQ (l:=l) (i:=i) (by omega)
  have hxm:=List.mem_of_getElem? hx
  have hp:=jF0 hx
  have hle:i*9+9≤l.length*9:=by omega
  simp(disch:=first|omega|(apply id;simp only[push_cast];try omega))only[push_cast,simprocAttr,hil,Int.toNat_natCast,hp,hle,hl1]
  refine jC.dataI (hf x hxm) (by and_intros<;>first|rfl|(simp(disch:=first|omega|(apply id;simp only[push_cast];try omega))only[push_cast])) ?_
  obtain ⟨k,hk⟩:∃ k,l.length-i=k+1:=⟨l.length-i-1,by omega⟩
  have hta:(uW (l.take i)).length=i*9:=by rw[cA,List.length_take,Nat.min_eq_left hi]
  have hlen:=rY0 (w:=9) (z:=ztm) (k:=l.length-i) (n:=l.length*9) hta rfl (by rw[Nat.sub_mul];omega)
  have hst:=lU0 (c:=tmC x) (w:=9) (z:=ztm) (k:=k) hta rfl
  rw[← hk,← zO1,← uP0,← qG hx,show k=l.length-(i+1) by omega,zO1] at hst
  simp(disch:=first|omega|(apply id;simp only[push_cast];try omega))only[push_cast,simprocAttr,hil,Int.toNat_natCast,hle,hl1,c1,hlen,hst]
  exact ⟨_,by omega,ILtm.mk (i+1) _ _ (by first|rfl|omega) (by omega) (by first|assumption|(simp(disch:=first|omega|(apply id;simp only[push_cast];try omega))only[push_cast,simprocAttr];try omega)) (by first|assumption|(simp(disch:=first|omega|(apply id;simp only[push_cast];try omega))only[push_cast,simprocAttr,hl1];try omega)) (by first|assumption|(simp(disch:=first|omega|(apply id;simp only[push_cast];try omega))only[push_cast,simprocAttr];try omega))⟩
 ·have hie:i=l.length:=by omega
  subst hie
  rw[List.take_length,Nat.sub_self,List.replicate_zero,List.flatten_nil,List.append_nil] at c1
  simp(disch:=first|omega|(apply id;simp only[push_cast];try omega))only[push_cast,simprocAttr,hil]
  rw[jH1]
  simp(disch:=first|omega|(apply id;simp only[push_cast];try omega))only[push_cast,simprocAttr]
  refine .sl (by simp(disch:=first|omega|(apply id;simp only[push_cast];try omega))only[push_cast,simprocAttr]) c1 (size:=9) rfl (by decide) (by first|assumption|(simp(disch:=first|omega|(apply id;simp only[push_cast];try omega))only[push_cast,simprocAttr];try omega)) (.inl ⟨by simp only[UC];omega,Nat.le_refl _⟩) ?_
  rw[List.drop_zero,List.take_of_length_le (by rw[cA];exact Nat.le_refl _)]
  exact .ids (jY0 _ H0q l)
mutual
def smE:Ex→Bool
 | .mk k n s l=>decide (l.length<100000000000)&&smEs l
def smEs:List Ex→Bool
 | []=>true
 | x :: l=>smE x&&smEs l
end
mutual
def smT:Tm→Bool
 | .mk k a b s e l=>decide (l.length<100000000000)&&smE e&&smTs l
def smTs:List Tm→Bool
 | []=>true
 | x :: l=>smT x&&smTs l
end
theorem eG0:∀ {l:List Ex},smEs l=true→∀ x∈l,smE x=true
 | [],_,x,hx=>by cases hx
 | y :: l,h,x,hx=>by
  simp only[smEs,Bool.and_eq_true] at h
  rcases List.mem_cons.1 hx with rfl|hx
  ·exact h.1
  ·exact eG0 h.2 x hx
theorem bR:∀ {l:List Tm},smTs l=true→∀ x∈l,smT x=true
 | [],_,x,hx=>by cases hx
 | y :: l,h,x,hx=>by
  simp only[smTs,Bool.and_eq_true] at h
  rcases List.mem_cons.1 hx with rfl|hx
  ·exact h.1
  ·exact bR h.2 x hx
theorem nH0:∀ {l:List Tm},(∀ x∈l,smT x=true)→smTs l=true
 | [],_=>rfl
 | y :: l,h=>by rw[smTs,h y (by simp),nH0 fun x hx=>h x (by simp[hx])];rfl
theorem yM1:∀ x:Ex,smE x=true→jN (pp G) H0 74 [exV x] (exV x)
 | .mk k n s l,hs=>by
  simp only[smE,Bool.and_eq_true,decide_eq_true_eq] at hs
  have hl:=lL1 G l 74 hs.1 fun x hx=>yM1 x (eG0 hs.2 x hx)
  have hlo:H0.lo≤H0.next:=Nat.le_refl _;refine jN.cut (jH.fir4 (q:=qq) (jQ G) fir74 (by kernel_rfl) rfl rfl (fA1 ..) (show NGG≤H0.lo by rw[qW];decide) ?_);rw[qO2]
  unfold exV exC
  simp(disch:=first|omega|(apply id;simp only[push_cast];try omega))only[push_cast,simprocAttr]
  refine jC.dataI (hl) (by and_intros<;>first|rfl|(simp(disch:=first|omega|(apply id;simp only[push_cast];try omega))only[push_cast])) ?_
  unfold exsV
  simp(disch:=first|omega|(apply id;simp only[push_cast];try omega))only[push_cast,simprocAttr]
  exact .id (rZ0 _ H0q (.mk k n s l))
 termination_by x=>SizeOf.sizeOf x
theorem yL1:∀ x:Tm,smT x=true→jN (pp G) H0 54 [tmV x] (tmV x)
 | .mk k a b s e l,hs=>by
  simp only[smT,Bool.and_eq_true,decide_eq_true_eq] at hs
  have hl:=lK1 G l 54 hs.1.1 fun x hx=>yL1 x (bR hs.2 x hx)
  have hT:jN (pp G) H0 56 [tmsV l] (tmsV l):=by
   have hlo:H0.lo≤H0.next:=Nat.le_refl _;refine jN.cut (jH.fir4 (q:=qq) (jQ G) fir56 (by kernel_rfl) rfl rfl (fO2 ..) (show NGG≤H0.lo by rw[qW];decide) ?_);rw[uB2]
   unfold tmsV
   simp(disch:=first|omega|(apply id;simp only[push_cast];try omega))only[push_cast,simprocAttr]
   refine jC.dataI (hl) (by and_intros<;>first|rfl|(simp(disch:=first|omega|(apply id;simp only[push_cast];try omega))only[push_cast])) ?_
   unfold tmsV
   simp(disch:=first|omega|(apply id;simp only[push_cast];try omega))only[push_cast,simprocAttr]
   exact .id (by simp(disch:=first|omega|(apply id;simp only[push_cast];try omega))only[push_cast,simprocAttr])
  have hlo:H0.lo≤H0.next:=Nat.le_refl _;refine jN.cut (jH.fir4 (q:=qq) (jQ G) fir54 (by kernel_rfl) rfl rfl (fH1 ..) (show NGG≤H0.lo by rw[qW];decide) ?_);rw[uC2]
  unfold tmV tmC
  simp(disch:=first|omega|(apply id;simp only[push_cast];try omega))only[push_cast,simprocAttr]
  refine jC.dataI (yM1 G e hs.1.2) (by and_intros<;>first|rfl|(simp(disch:=first|omega|(apply id;simp only[push_cast];try omega))only[push_cast])) ?_
  simp(disch:=first|omega|(apply id;simp only[push_cast];try omega))only[push_cast,simprocAttr,sA0]
  refine jC.dataI (hT) (by and_intros<;>first|rfl|(simp(disch:=first|omega|(apply id;simp only[push_cast];try omega))only[push_cast])) ?_
  unfold tmsV
  simp(disch:=first|omega|(apply id;simp only[push_cast];try omega))only[push_cast,simprocAttr,sA0]
  exact .id (bZ _ H0q (.mk k a b s e l))
 termination_by x=>SizeOf.sizeOf x
mutual
def kG:Tm→Int
 | .mk _ _ _ _ _ l=>1+uT l
def uT:List Tm→Int
 | []=>0
 | x :: l=>kG x+uT l
end
end
end Go.Proofs.Ytgeakofgklcipaa
namespace Go.Proofs.Ytgeakofgklcipaa
open Go Go.RowKit Go.Ev Go.Dv
noncomputable section
set_option maxRecDepth 100000
def zE:Ex:=.mk 0 0 [] []
def zT:Tm:=.mk 0 0 0 [] zE []
theorem qK.lt {σ:jA} {e n:Nat} {a:Option Addr} {len c:Nat} {cs:List Value} (ho:qK σ e n a len c cs) {b:Nat} (hb:blk a b):σ.lo≤b∧b<σ.next:=by
 obtain ⟨o,s,rfl⟩:=hb
 rcases ho.hat with ⟨e,_⟩|⟨q,_,e,h1,h2,_⟩
 ·cases e
 ·cases e;exact ⟨h1,h2⟩
theorem kZ1 (t:Tm) (σ:jA):bsD (qq.m 32) (slT Try.prog 32) 1 [(0,tmV t)] σ=some (Rw true 34 1 (uW [t]),σ):=by
 rw[zO1];cases t;kernel_rfl
theorem qK.flt {σ:jA} {e n:Nat} {a:Option Addr} {len c:Nat} {cs:List Value} (ho:qK σ e n a len c cs) {p:Nat→Bool} (hp:∀ b,blk a b→p b=true):qK (hflt p σ) e n a len c cs:=by
 refine ⟨ho.hlen,ho.hone,?_⟩
 rcases ho.hat with h0|⟨b,m,ha,h1,h2,h3,h4⟩
 ·exact .inl h0
 ·exact .inr ⟨b,m,ha,h1,h2,(kJ0 σ (hp b ⟨0,none,ha⟩)).trans h3,h4⟩
end
end Go.Proofs.Ytgeakofgklcipaa
