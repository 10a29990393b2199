/-
  A part of the proof: what the program's functions hand back,as theorems. No condition but those that each theorem names.
-/
import Derived.Test.YtgeakofgklcipaaExa
import Derived.Test.YtgeakofgklcipaaEve
import Derived.Test.YtgeakofgklcipaaExb
set_option linter.unusedSimpArgs false
set_option linter.unusedVariables false
namespace Go.Proofs.Ytgeakofgklcipaa
open Go Go.RowKit Go.Ev Go.Dv
noncomputable section
set_option maxRecDepth 100000
def W (a:Int):Int:=IntKind.i64.wrap a
def In (a:Int):Prop:=-9223372036854775808≤a∧a≤9223372036854775807
theorem W_in {a:Int} (h:In a):W a=a:=by
 unfold In at h
 unfold W;rw[IntKind.wrap_i64];omega
theorem H0p:0<H0.lo:=by rw[qQ];omega
theorem H0q:0<H0.next:=by rw[jM0];omega
abbrev eI:Nat:=3
def ivs (l:List Int):List Value:=l.map (Value.int .i64)
def ivV (l:List Int):Value:=Rw false eI l.length (ivs l)
theorem uA0 (l:List Int):(ivs l).length=l.length:=by simp[ivs]
theorem kY0 (n:Nat):∀ l:List Int,scL n (ivs l)=true
 | []=>rfl
 | x :: l=>by
  have:=kY0 n l
  simp only[ivs] at this
  simp[ivs,scL,sc,this]
theorem tH1 (n:Nat) (hn:0<n) (k:Nat) (f:Bool) (l:List Int):sc n (Rw f eI k (ivs l))=true:=by
 have:=kY0 n l
 simp[sc,Rw,scL,this,hn]
theorem lT0 (n:Nat) (hn:0<n) (l:List Int):sc n (ivV l)=true:=tH1 n hn ..
theorem kI0:∀ l:List Int,(ivs l).all one=true
 | []=>rfl
 | x :: l=>by
  have:=kI0 l
  simp only[ivs] at this
  simp[ivs,one]
theorem fF0 {l:List Int} {i:Nat} (h:i<l.length):(ivs l)[i]?=some (.int .i64 (l.getD i 0)):=by simp[ivs,h]
theorem fG0 (a b:List Int):ivs (a++b)=ivs a++ivs b:=by simp[ivs]
abbrev eS:Nat:=9
def nss (l:List (List UInt8)):List Value:=l.map fun s=>Value.string (Tx s)
def nsV (l:List (List UInt8)):Value:=Rw false eS l.length (nss l)
theorem zA2 (l:List (List UInt8)):(nss l).length=l.length:=by simp[nss]
theorem zH0 (n:Nat):∀ l:List (List UInt8),scL n (nss l)=true
 | []=>rfl
 | x :: l=>by
  have:=zH0 n l
  simp only[nss] at this
  simp[nss,scL,sc,this]
theorem dG0 (n:Nat) (hn:0<n) (k:Nat) (f:Bool) (l:List (List UInt8)):sc n (Rw f eS k (nss l))=true:=by
 have:=zH0 n l
 simp[sc,Rw,scL,this,hn]
theorem lJ0 (n:Nat) (hn:0<n) (l:List (List UInt8)):sc n (nsV l)=true:=dG0 n hn ..
theorem qA0 {l:List (List UInt8)} {i:Nat} (h:i<l.length):(nss l)[i]?=some (.string (Tx (l.getD i []))):=by simp[nss,h]
theorem gC1 (a b:List (List UInt8)):nss (a++b)=nss a++nss b:=by simp[nss]
abbrev eB:Nat:=4
def bvs (l:List Bool):List Value:=l.map Value.bool
def bvV (l:List Bool):Value:=Rw false eB l.length (bvs l)
theorem jL0 (l:List Bool):(bvs l).length=l.length:=by simp[bvs]
theorem yC0 (n:Nat):∀ l:List Bool,scL n (bvs l)=true
 | []=>rfl
 | x :: l=>by
  have:=yC0 n l
  simp only[bvs] at this
  simp[bvs,scL,sc,this]
theorem tS1 (n:Nat) (hn:0<n) (k:Nat) (f:Bool) (l:List Bool):sc n (Rw f eB k (bvs l))=true:=by
 have:=yC0 n l
 simp[sc,Rw,scL,this,hn]
theorem pD0:∀ l:List Bool,(bvs l).all one=true
 | []=>rfl
 | x :: l=>by
  have:=pD0 l
  simp only[bvs] at this
  simp[bvs,one]
theorem uI0 {l:List Bool} {i:Nat} (h:i<l.length):(bvs l)[i]?=some (.bool (l.getD i false)):=by simp[bvs,h]
@[push_cast]theorem sc_nil (n a b:Nat):sc n (.slice none a b)=true:=rfl
theorem bR2 (n:Nat) (l:List Value):sc n (.agg ⟨l⟩)=scL n l:=rfl
theorem bQ2 (n:Nat) (k:IntKind) (i:Int):sc n (.int k i)=true:=rfl
theorem bO2 (n:Nat) (s:ByteArray):sc n (.string s)=true:=rfl
attribute [push_cast] bR2 bQ2 bO2
@[push_cast]theorem sc_fn (n f:Nat):sc n (.func (.func f) #[] #[])=true:=rfl
attribute [push_cast] uA0 kY0 tH1 lT0 kI0 zA2 zH0 dG0 lJ0 jL0 yC0 tS1 pD0 fV2 fW2 Int.toNat_zero Int.toNat_one Int.natCast_one qQ jM0
def jS (a n:Int):Int:=if a.tmod n<0 then a.tmod n+n else a.tmod n
theorem qO {a n:Int} (hn:0<n):0≤jS a n∧jS a n<n:=by
 have h1:(a.tmod n).natAbs=a.natAbs % n.natAbs:=Int.natAbs_tmod a n
 have h2:a.natAbs % n.natAbs<n.natAbs:=Nat.mod_lt _ (by omega)
 unfold jS
 split<;>omega
inductive Ex where
 | mk (k:Int) (n:Int) (s:List UInt8) (l:List Ex)
abbrev eE:Nat:=31
mutual
def exC:Ex→List Value
 | .mk k n s l=>[.int .i64 k,.int .i64 n,.string (Tx s),Rw false eE l.length (kP l)]
def kP:List Ex→List Value
 | []=>[]
 | x :: l=>exC x++kP l
end
def exV (x:Ex):Value:=.agg ⟨exC x⟩
def exsV (l:List Ex):Value:=Rw false eE l.length (kP l)
theorem eY2 (k:Int) (n:Int) (s:List UInt8) (l:List Ex):exC (.mk k n s l)=[.int .i64 k,.int .i64 n,.string (Tx s),Rw false eE l.length (kP l)]:=rfl
theorem wO0 (x:Ex):(exC x).length=4:=by cases x;simp[exC]
theorem zP0:∀ l:List Ex,(kP l).length=l.length*4
 | []=>rfl
 | x :: l=>by rw[kP,List.length_append,wO0,zP0 l,List.length_cons];omega
theorem dS1:∀ x:Ex,(exC x).all one=true
 | .mk k n s l=>by simp[exC,one,Rw]
theorem fV0:∀ l:List Ex,(kP l).all one=true
 | []=>rfl
 | x :: l=>by rw[kP,List.all_append,dS1 x,fV0 l];rfl
mutual
theorem dR1 (nn:Nat) (hn:0<nn):∀ x:Ex,scL nn (exC x)=true
 | .mk k n s l=>by
  have:=qG0 nn hn l
  simp[exC,scL,Ev.sc,Rw,hn, *]
theorem qG0 (nn:Nat) (hn:0<nn):∀ l:List Ex,scL nn (kP l)=true
 | []=>rfl
 | x :: l=>by
  rw[kP]
  exact jZ fun v hv=>(List.mem_append.1 hv).elim (jY (dR1 nn hn x) v) (jY (qG0 nn hn l) v)
end
theorem sI0 (n:Nat) (hn:0<n) (x:Ex):Ev.sc n (exV x)=true:=dR1 n hn x
theorem bG0 (n:Nat) (hn:0<n) (k:Nat) (f:Bool) (l:List Ex):Ev.sc n (Rw f eE k (kP l))=true:=by
 have:=qG0 n hn l
 simp[Ev.sc,Rw,scL,this,hn]
theorem kO2 (n:Nat) (hn:0<n) (l:List Ex):Ev.sc n (exsV l)=true:=bG0 n hn ..
theorem fW0:∀ (a b:List Ex),kP (a++b)=kP a++kP b
 | [],b=>rfl
 | x :: a,b=>by rw[List.cons_append,kP,fW0 a b,kP,List.append_assoc]
theorem tK1 (x:Ex):kP [x]=exC x:=by rw[kP,kP,List.append_nil]
theorem mG0:∀ (l:List Ex) (i:Nat),(kP l).drop (i*4)=kP (l.drop i)
 | l,0=>by simp
 | [],i+1=>by simp[kP]
 | x :: l,i+1=>by
  rw[kP,List.drop_succ_cons,← mG0 l i,Nat.add_mul,Nat.one_mul,Nat.add_comm,← List.drop_drop,List.drop_append_of_le_length (by rw[wO0];exact Nat.le_refl _),show (exC x).drop 4=[] from List.drop_of_length_le (by rw[wO0];exact Nat.le_refl _),List.nil_append]
theorem mF0 {l:List Ex} {i:Nat} {x:Ex} (h:l[i]?=some x):((kP l).drop (i*4)).take 4=exC x:=by
 have hi:i<l.length:=(List.getElem?_eq_some_iff.1 h).1
 have hd:l.drop i=x :: l.drop (i+1):=by rw[List.drop_eq_getElem_cons hi];congr 1;exact (List.getElem?_eq_some_iff.1 h).2
 rw[mG0,hd,kP,List.take_append_of_le_length (by rw[wO0];exact Nat.le_refl _),List.take_of_length_le (by rw[wO0];exact Nat.le_refl _)]
theorem nH1 (x:Ex):Value.agg ⟨exC x⟩=exV x:=rfl
theorem dQ1 (x:Ex):(exV x).cells.toList=exC x:=rfl
theorem nI1 (x:Ex):(exC x).take 4=exC x:=List.take_of_length_le (by rw[wO0];exact Nat.le_refl _)
attribute [push_cast] eY2 zP0 nH1 qG0 sI0 kO2 bG0 dR1 fV0 dS1 dQ1 nI1 wO0
def Ex.k:Ex→Int | .mk k _ _ _=>k
def Ex.n:Ex→Int | .mk _ n _ _=>n
def Ex.s:Ex→List UInt8 | .mk _ _ s _=>s
def Ex.l:Ex→List Ex | .mk _ _ _ l=>l
theorem Ex.k_mk (k n:Int) (s:List UInt8) (l:List Ex):Ex.k (.mk k n s l)=k:=rfl
theorem Ex.n_mk (k n:Int) (s:List UInt8) (l:List Ex):Ex.n (.mk k n s l)=n:=rfl
theorem Ex.s_mk (k n:Int) (s:List UInt8) (l:List Ex):Ex.s (.mk k n s l)=s:=rfl
theorem Ex.l_mk (k n:Int) (s:List UInt8) (l:List Ex):Ex.l (.mk k n s l)=l:=rfl
theorem sJ0 (x:Ex):exC x=[.int .i64 x.k,.int .i64 x.n,.string (Tx x.s),Rw false eE x.l.length (kP x.l)]:=by cases x;rfl
theorem eX2 (x:Ex):Value.agg ⟨[.int .i64 x.k,.int .i64 x.n,.string (Tx x.s),Rw false eE x.l.length (kP x.l)]⟩=exV x:=by cases x;rfl
attribute [push_cast] Ex.k_mk Ex.n_mk Ex.s_mk Ex.l_mk eX2
inductive Tm where
 | mk (k:Int) (a:Int) (b:Int) (s:List UInt8) (e:Ex) (l:List Tm)
abbrev etm:Nat:=34
mutual
def tmC:Tm→List Value
 | .mk k a b s e l=>[.int .i64 k,.int .i64 a,.int .i64 b,.string (Tx s),.int .i64 e.k,.int .i64 e.n,.string (Tx e.s),Rw false eE e.l.length (kP e.l),Rw false etm l.length (kF l)]
def kF:List Tm→List Value
 | []=>[]
 | x :: l=>tmC x++kF l
end
def tmV (x:Tm):Value:=.agg ⟨tmC x⟩
def tmsV (l:List Tm):Value:=Rw false etm l.length (kF l)
theorem cS0 (k:Int) (a:Int) (b:Int) (s:List UInt8) (e:Ex) (l:List Tm):tmC (.mk k a b s e l)=[.int .i64 k,.int .i64 a,.int .i64 b,.string (Tx s),.int .i64 e.k,.int .i64 e.n,.string (Tx e.s),Rw false eE e.l.length (kP e.l),Rw false etm l.length (kF l)]:=rfl
theorem kX (x:Tm):(tmC x).length=9:=by cases x;simp[tmC]
theorem cG:∀ l:List Tm,(kF l).length=l.length*9
 | []=>rfl
 | x :: l=>by rw[kF,List.length_append,kX,cG l,List.length_cons];omega
theorem eA0:∀ x:Tm,(tmC x).all one=true
 | .mk k a b s e l=>by simp[tmC,one,Rw]
theorem uM0:∀ l:List Tm,(kF l).all one=true
 | []=>rfl
 | x :: l=>by rw[kF,List.all_append,eA0 x,uM0 l];rfl
mutual
theorem kC1 (nn:Nat) (hn:0<nn):∀ x:Tm,scL nn (tmC x)=true
 | .mk k a b s e l=>by
  have:=gU nn hn l
  simp[tmC,scL,Ev.sc,Rw,hn,qG0, *]
theorem gU (nn:Nat) (hn:0<nn):∀ l:List Tm,scL nn (kF l)=true
 | []=>rfl
 | x :: l=>by
  rw[kF]
  exact jZ fun v hv=>(List.mem_append.1 hv).elim (jY (kC1 nn hn x) v) (jY (gU nn hn l) v)
end
theorem bV (n:Nat) (hn:0<n) (x:Tm):Ev.sc n (tmV x)=true:=kC1 n hn x
theorem sQ1 (n:Nat) (hn:0<n) (k:Nat) (f:Bool) (l:List Tm):Ev.sc n (Rw f etm k (kF l))=true:=by
 have:=gU n hn l
 simp[Ev.sc,Rw,scL,this,hn]
theorem zZ1 (n:Nat) (hn:0<n) (l:List Tm):Ev.sc n (tmsV l)=true:=sQ1 n hn ..
theorem uN0:∀ (a b:List Tm),kF (a++b)=kF a++kF b
 | [],b=>rfl
 | x :: a,b=>by rw[List.cons_append,kF,uN0 a b,kF,List.append_assoc]
theorem kB1 (x:Tm):kF [x]=tmC x:=by rw[kF,kF,List.append_nil]
theorem iS0:∀ (l:List Tm) (i:Nat),(kF l).drop (i*9)=kF (l.drop i)
 | l,0=>by simp
 | [],i+1=>by simp[kF]
 | x :: l,i+1=>by
  rw[kF,List.drop_succ_cons,← iS0 l i,Nat.add_mul,Nat.one_mul,Nat.add_comm,← List.drop_drop,List.drop_append_of_le_length (by rw[kX];exact Nat.le_refl _),show (tmC x).drop 9=[] from List.drop_of_length_le (by rw[kX];exact Nat.le_refl _),List.nil_append]
theorem zX0:∀ (l:List Tm) (i:Nat),(kF l).take (i*9)=kF (l.take i)
 | l,0=>by simp[kF]
 | [],i+1=>by simp[kF]
 | x :: l,i+1=>by
  rw[kF,List.take_succ_cons,kF,← zX0 l i,Nat.add_mul,Nat.one_mul,Nat.add_comm,List.take_append,kX,List.take_of_length_le (by rw[kX];omega),Nat.add_sub_cancel_left]
theorem jF0 {l:List Tm} {i:Nat} {x:Tm} (h:l[i]?=some x):((kF l).drop (i*9)).take 9=tmC x:=by
 have hi:i<l.length:=(List.getElem?_eq_some_iff.1 h).1
 have hd:l.drop i=x :: l.drop (i+1):=by rw[List.drop_eq_getElem_cons hi];congr 1;exact (List.getElem?_eq_some_iff.1 h).2
 rw[iS0,hd,kF,List.take_append_of_le_length (by rw[kX];exact Nat.le_refl _),List.take_of_length_le (by rw[kX];exact Nat.le_refl _)]
theorem iM1 (x:Tm):Value.agg ⟨tmC x⟩=tmV x:=rfl
theorem kA1 (x:Tm):(tmV x).cells.toList=tmC x:=rfl
theorem jI0 (x:Tm):(tmC x).take 9=tmC x:=List.take_of_length_le (by rw[kX];exact Nat.le_refl _)
theorem jP2 (x:Tm) (l:List Tm):(kF (x :: l)).take 9=tmC x:=jF0 (l:=x :: l) (i:=0) rfl
theorem jO2 (x y:Tm) (l:List Tm):((kF (x :: y :: l)).drop 9).take 9=tmC y:=jF0 (l:=x :: y :: l) (i:=1) rfl
attribute [push_cast] cS0 cG iM1 gU bV zZ1 sQ1 kC1 uM0 eA0 kA1 jI0 kX jP2 jO2
def Tm.k:Tm→Int | .mk k _ _ _ _ _=>k
def Tm.a:Tm→Int | .mk _ a _ _ _ _=>a
def Tm.b:Tm→Int | .mk _ _ b _ _ _=>b
def Tm.s:Tm→List UInt8 | .mk _ _ _ s _ _=>s
def Tm.e:Tm→Ex | .mk _ _ _ _ e _=>e
def Tm.l:Tm→List Tm | .mk _ _ _ _ _ l=>l
theorem Tm.k_mk (k a b:Int) (s:List UInt8) (e:Ex) (l:List Tm):Tm.k (.mk k a b s e l)=k:=rfl
theorem Tm.l_mk (k a b:Int) (s:List UInt8) (e:Ex) (l:List Tm):Tm.l (.mk k a b s e l)=l:=rfl
inductive Pr where
 | mk (k:Int) (n:List UInt8) (t:List UInt8) (e:Ex) (l:List Pr)
abbrev epr:Nat:=77
mutual
def prC:Pr→List Value
 | .mk k n t e l=>[.int .i64 k,.string (Tx n),.string (Tx t),.int .i64 e.k,.int .i64 e.n,.string (Tx e.s),Rw false eE e.l.length (kP e.l),Rw false epr l.length (prCs l)]
def prCs:List Pr→List Value
 | []=>[]
 | x :: l=>prC x++prCs l
end
def prV (x:Pr):Value:=.agg ⟨prC x⟩
def prsV (l:List Pr):Value:=Rw false epr l.length (prCs l)
theorem cK2 (k:Int) (n:List UInt8) (t:List UInt8) (e:Ex) (l:List Pr):prC (.mk k n t e l)=[.int .i64 k,.string (Tx n),.string (Tx t),.int .i64 e.k,.int .i64 e.n,.string (Tx e.s),Rw false eE e.l.length (kP e.l),Rw false epr l.length (prCs l)]:=rfl
theorem bP (x:Pr):(prC x).length=8:=by cases x;simp[prC]
theorem rR0:∀ l:List Pr,(prCs l).length=l.length*8
 | []=>rfl
 | x :: l=>by rw[prCs,List.length_append,bP,rR0 l,List.length_cons];omega
theorem wO2:∀ x:Pr,(prC x).all one=true
 | .mk k n t e l=>by simp[prC,one,Rw]
mutual
theorem lG0 (nn:Nat) (hn:0<nn):∀ x:Pr,scL nn (prC x)=true
 | .mk k n t e l=>by
  have:=eW0 nn hn l
  simp[prC,scL,Ev.sc,Rw,hn,qG0, *]
theorem eW0 (nn:Nat) (hn:0<nn):∀ l:List Pr,scL nn (prCs l)=true
 | []=>rfl
 | x :: l=>by
  rw[prCs]
  exact jZ fun v hv=>(List.mem_append.1 hv).elim (jY (lG0 nn hn x) v) (jY (eW0 nn hn l) v)
end
theorem yT1 (n:Nat) (hn:0<n) (x:Pr):Ev.sc n (prV x)=true:=lG0 n hn x
theorem cJ2 (x:Pr):prCs [x]=prC x:=by rw[prCs,prCs,List.append_nil]
theorem lF0:∀ (l:List Pr) (i:Nat),(prCs l).drop (i*8)=prCs (l.drop i)
 | l,0=>by simp
 | [],i+1=>by simp[prCs]
 | x :: l,i+1=>by
  rw[prCs,List.drop_succ_cons,← lF0 l i,Nat.add_mul,Nat.one_mul,Nat.add_comm,← List.drop_drop,List.drop_append_of_le_length (by rw[bP];exact Nat.le_refl _),show (prC x).drop 8=[] from List.drop_of_length_le (by rw[bP];exact Nat.le_refl _),List.nil_append]
theorem qY0 {l:List Pr} {i:Nat} {x:Pr} (h:l[i]?=some x):((prCs l).drop (i*8)).take 8=prC x:=by
 have hi:i<l.length:=(List.getElem?_eq_some_iff.1 h).1
 have hd:l.drop i=x :: l.drop (i+1):=by rw[List.drop_eq_getElem_cons hi];congr 1;exact (List.getElem?_eq_some_iff.1 h).2
 rw[lF0,hd,prCs,List.take_append_of_le_length (by rw[bP];exact Nat.le_refl _),List.take_of_length_le (by rw[bP];exact Nat.le_refl _)]
theorem lH1 (x:Pr):Value.agg ⟨prC x⟩=prV x:=rfl
theorem yU1 (x:Pr):(prV x).cells.toList=prC x:=rfl
theorem lI1 (x:Pr):(prC x).take 8=prC x:=List.take_of_length_le (by rw[bP];exact Nat.le_refl _)
theorem wN2 (x:Pr) (l:List Pr):(prCs (x :: l)).take 8=prC x:=qY0 (l:=x :: l) (i:=0) rfl
theorem wM2 (x y:Pr) (l:List Pr):((prCs (x :: y :: l)).drop 8).take 8=prC y:=qY0 (l:=x :: y :: l) (i:=1) rfl
attribute [push_cast] cK2 rR0 lH1 eW0 yT1 lG0 wO2 yU1 lI1 bP wN2 wM2
inductive Ra where
 | mk (k:Int) (n:Int) (l:List Ra)
abbrev era:Nat:=133
mutual
def raC:Ra→List Value
 | .mk k n l=>[.int .i64 k,.int .i64 n,Rw false era l.length (raCs l)]
def raCs:List Ra→List Value
 | []=>[]
 | x :: l=>raC x++raCs l
end
def raV (x:Ra):Value:=.agg ⟨raC x⟩
def rasV (l:List Ra):Value:=Rw false era l.length (raCs l)
theorem cG2 (k:Int) (n:Int) (l:List Ra):raC (.mk k n l)=[.int .i64 k,.int .i64 n,Rw false era l.length (raCs l)]:=rfl
theorem kB0 (x:Ra):(raC x).length=3:=by cases x;simp[raC]
theorem rQ0:∀ l:List Ra,(raCs l).length=l.length*3
 | []=>rfl
 | x :: l=>by rw[raCs,List.length_append,kB0,rQ0 l,List.length_cons];omega
theorem wH2:∀ x:Ra,(raC x).all one=true
 | .mk k n l=>by simp[raC,one,Rw]
mutual
theorem yR1 (nn:Nat) (hn:0<nn):∀ x:Ra,scL nn (raC x)=true
 | .mk k n l=>by
  have:=gN0 nn hn l
  simp[raC,scL,Ev.sc,Rw,hn, *]
theorem gN0 (nn:Nat) (hn:0<nn):∀ l:List Ra,scL nn (raCs l)=true
 | []=>rfl
 | x :: l=>by
  rw[raCs]
  exact jZ fun v hv=>(List.mem_append.1 hv).elim (jY (yR1 nn hn x) v) (jY (gN0 nn hn l) v)
end
theorem cF2 (n:Nat) (hn:0<n) (x:Ra):Ev.sc n (raV x)=true:=yR1 n hn x
theorem tB1 (n:Nat) (hn:0<n) (k:Nat) (f:Bool) (l:List Ra):Ev.sc n (Rw f era k (raCs l))=true:=by
 have:=gN0 n hn l
 simp[Ev.sc,Rw,scL,this,hn]
theorem wG2 (n:Nat) (hn:0<n) (l:List Ra):Ev.sc n (rasV l)=true:=tB1 n hn ..
theorem lE0:∀ (l:List Ra) (i:Nat),(raCs l).drop (i*3)=raCs (l.drop i)
 | l,0=>by simp
 | [],i+1=>by simp[raCs]
 | x :: l,i+1=>by
  rw[raCs,List.drop_succ_cons,← lE0 l i,Nat.add_mul,Nat.one_mul,Nat.add_comm,← List.drop_drop,List.drop_append_of_le_length (by rw[kB0];exact Nat.le_refl _),show (raC x).drop 3=[] from List.drop_of_length_le (by rw[kB0];exact Nat.le_refl _),List.nil_append]
theorem gM0 {l:List Ra} {i:Nat} {x:Ra} (h:l[i]?=some x):((raCs l).drop (i*3)).take 3=raC x:=by
 have hi:i<l.length:=(List.getElem?_eq_some_iff.1 h).1
 have hd:l.drop i=x :: l.drop (i+1):=by rw[List.drop_eq_getElem_cons hi];congr 1;exact (List.getElem?_eq_some_iff.1 h).2
 rw[lE0,hd,raCs,List.take_append_of_le_length (by rw[kB0];exact Nat.le_refl _),List.take_of_length_le (by rw[kB0];exact Nat.le_refl _)]
theorem lF1 {l:List Ra} {i j:Nat} {x:Ra} {v:Value} (h:l[i]?=some x) (hj:j<3) (hv:(raC x)[j]?=some v):(raCs l)[i*3+j]?=some v:=by
 have h1:=gM0 h
 rw[← h1,List.getElem?_take_of_lt hj,List.getElem?_drop] at hv
 exact hv
theorem lE1 (x:Ra):Value.agg ⟨raC x⟩=raV x:=rfl
theorem yQ1 (x:Ra):(raV x).cells.toList=raC x:=rfl
attribute [push_cast] cG2 rQ0 lE1 gN0 cF2 wG2 tB1 yR1 wH2 yQ1 kB0
inductive Rb where
 | mk (k:Int) (a:Int) (b:Int) (e:List Ra) (l:List Rb)
abbrev erb:Nat:=38
mutual
def rbC:Rb→List Value
 | .mk k a b e l=>[.int .i64 k,.int .i64 a,.int .i64 b,Rw false era e.length (raCs e),Rw false erb l.length (rbCs l)]
def rbCs:List Rb→List Value
 | []=>[]
 | x :: l=>rbC x++rbCs l
end
def rbV (x:Rb):Value:=.agg ⟨rbC x⟩
def rbsV (l:List Rb):Value:=Rw false erb l.length (rbCs l)
theorem cE2 (k:Int) (a:Int) (b:Int) (e:List Ra) (l:List Rb):rbC (.mk k a b e l)=[.int .i64 k,.int .i64 a,.int .i64 b,Rw false era e.length (raCs e),Rw false erb l.length (rbCs l)]:=rfl
theorem cK (x:Rb):(rbC x).length=5:=by cases x;simp[rbC]
theorem rP0:∀ l:List Rb,(rbCs l).length=l.length*5
 | []=>rfl
 | x :: l=>by rw[rbCs,List.length_append,cK,rP0 l,List.length_cons];omega
theorem nZ0:∀ x:Rb,(rbC x).all one=true
 | .mk k a b e l=>by simp[rbC,one,Rw]
mutual
theorem yP1 (nn:Nat) (hn:0<nn):∀ x:Rb,scL nn (rbC x)=true
 | .mk k a b e l=>by
  have:=gL0 nn hn l
  simp[rbC,scL,Ev.sc,Rw,hn,gN0, *]
theorem gL0 (nn:Nat) (hn:0<nn):∀ l:List Rb,scL nn (rbCs l)=true
 | []=>rfl
 | x :: l=>by
  rw[rbCs]
  exact jZ fun v hv=>(List.mem_append.1 hv).elim (jY (yP1 nn hn x) v) (jY (gL0 nn hn l) v)
end
theorem cB2 (n:Nat) (hn:0<n) (x:Rb):Ev.sc n (rbV x)=true:=yP1 n hn x
theorem cC2 (n:Nat) (hn:0<n) (k:Nat) (f:Bool) (l:List Rb):Ev.sc n (Rw f erb k (rbCs l))=true:=by
 have:=gL0 n hn l
 simp[Ev.sc,Rw,scL,this,hn]
theorem cD2 (x:Rb):rbCs [x]=rbC x:=by rw[rbCs,rbCs,List.append_nil]
theorem lC0:∀ (l:List Rb) (i:Nat),(rbCs l).drop (i*5)=rbCs (l.drop i)
 | l,0=>by simp
 | [],i+1=>by simp[rbCs]
 | x :: l,i+1=>by
  rw[rbCs,List.drop_succ_cons,← lC0 l i,Nat.add_mul,Nat.one_mul,Nat.add_comm,← List.drop_drop,List.drop_append_of_le_length (by rw[cK];exact Nat.le_refl _),show (rbC x).drop 5=[] from List.drop_of_length_le (by rw[cK];exact Nat.le_refl _),List.nil_append]
theorem zD0 {l:List Rb} {i:Nat} {x:Rb} (h:l[i]?=some x):((rbCs l).drop (i*5)).take 5=rbC x:=by
 have hi:i<l.length:=(List.getElem?_eq_some_iff.1 h).1
 have hd:l.drop i=x :: l.drop (i+1):=by rw[List.drop_eq_getElem_cons hi];congr 1;exact (List.getElem?_eq_some_iff.1 h).2
 rw[lC0,hd,rbCs,List.take_append_of_le_length (by rw[cK];exact Nat.le_refl _),List.take_of_length_le (by rw[cK];exact Nat.le_refl _)]
theorem lC1 (x:Rb):Value.agg ⟨rbC x⟩=rbV x:=rfl
theorem yO1 (x:Rb):(rbV x).cells.toList=rbC x:=rfl
theorem lD1 (x:Rb):(rbC x).take 5=rbC x:=List.take_of_length_le (by rw[cK];exact Nat.le_refl _)
attribute [push_cast] cE2 rP0 lC1 gL0 cB2 cC2 yP1 nZ0 yO1 lD1 cK
theorem lK0 (G:Nat×Nat) (n:Nat) (σ:jA):FzV (pp G).P n σ (.slice none 0 0) (exsV []):=.nil (size:=4) rfl (by decide)
theorem gE1 (G:Nat×Nat) (n:Nat) (σ:jA):FzV (pp G).P n σ (.slice none 0 0) (prsV []):=.nil (size:=8) rfl (by decide)
theorem nil_iv (G:Nat×Nat) (n:Nat) (σ:jA):FzV (pp G).P n σ (.slice none 0 0) (ivV []):=.nil (size:=1) rfl (by decide)
theorem nil_ns (G:Nat×Nat) (n:Nat) (σ:jA):FzV (pp G).P n σ (.slice none 0 0) (nsV []):=.nil (size:=1) rfl (by decide)
end
end Go.Proofs.Ytgeakofgklcipaa
namespace Go.Proofs.Ytgeakofgklcipaa
open Go Go.RowKit Go.Ev Go.Dv
noncomputable section
set_option maxRecDepth 100000
variable (G:Nat×Nat)
theorem mD0 {A c z:List Value} {w k off:Nat} (hA:A.length=off) (hz:z.length=w):(A++(List.replicate (k+1) z).flatten).take off++c++(A++(List.replicate (k+1) z).flatten).drop (off+w)=(A++c)++(List.replicate k z).flatten:=by
 subst hA
 rw[List.take_left,List.drop_append,List.drop_of_length_le (by omega),List.nil_append,Nat.add_sub_cancel_left,List.replicate_succ,List.flatten_cons,List.drop_append,List.drop_of_length_le (by omega),List.nil_append,hz,Nat.sub_self,List.drop_zero]
theorem sH0 {A z:List Value} {w k off n:Nat} (hA:A.length=off) (hz:z.length=w) (hn:off+k*w=n):(A++(List.replicate k z).flatten).length=n:=by
 rw[List.length_append,List.length_flatten,List.map_replicate,List.sum_replicate_nat,hA,hz,hn]
theorem qJ {α:Type} {l:List α} {i:Nat} {x:α} (h:l[i]?=some x):l.take (i+1)=l.take i++[x]:=by
 rw[List.take_add_one,h];rfl
theorem qP {α:Type} {l:List α} {i:Nat} (h:i<l.length):∃ x,l[i]?=some x:=⟨_,List.getElem?_eq_getElem h⟩
def zex:List Value:=[.int .i64 0,.int .i64 0,.string (Tx []),.slice none 0 0]
inductive ILex (l:List Ex) (fv:Value):Nat→S→Prop
 | mk (i:Nat) (iv:Int) (h:jA) {x0 x2 x3 x4 x6 x7 x8 x9 xA xB xC xD xE xF xG xH xI xJ xK xL xM xN xO xP:Value} (hiv:iv=(i:Int)) (hi:i≤l.length) (c1:cells h 1=some (kP (l.take i)++(List.replicate (l.length-i) zex).flatten,31,false)) (hl1:h.lo=1) (hl2:2≤h.next) :
  ILex l fv (l.length-i) ⟨(F29 x0 fv x2 x3 x4 (.slice (some ⟨1,0,none⟩) l.length l.length) x6 x7 x8 x9 xA xB xC xD (Rw false eE l.length (kP l)) (.int .i64 l.length) (.int .i64 iv) xE xF xG xH xI xJ xK xL xM xN xO xP),[],h⟩
theorem lY1 (l:List Ex) (f:FuncId) (hll:l.length<100000000000) (hf:∀ x∈l,jN (pp G) H0 f [exV x] (exV x)):jN (pp G) H0 88 [exsV l,.func (.func f) #[] #[]] (exsV l):=by
 have hlo:H0.lo≤H0.next:=Nat.le_refl _;refine jN.cut (jI.fir4 (q:=qq) (jR G) fir88 (by kernel_rfl) rfl rfl (fR1 ..) (show NGG≤H0.lo by rw[qQ];decide) ?_);rw[qO2]
 unfold exsV
 by_cases h0:l.length=0
 ·have h0':(l.length:Int)=0:=by omega
  obtain rfl:l=[]:=List.length_eq_zero_iff.1 h0
  simp(disch:=first|omega|(apply id;simp only[push_cast];try omega))only[push_cast,simprocAttr,h0']
  exact .nil (size:=4) rfl (by decide)
 have h0':¬ (l.length:Int)=0:=by omega
 have h1:(l.length:Int)*400+l.length<100000000000000:=by omega
 simp(disch:=first|omega|(apply id;simp only[push_cast];try omega))only[push_cast,simprocAttr,h0',h1]
 refine WD.loop4 (q:=qq) (jR G) (by kernel_rfl) (ILex l (.func (.func f) #[] #[])) ?_ _ _ (ILex.mk 0 0 _ rfl (Nat.zero_le _) (by simp(disch:=first|omega|(apply id;simp only[push_cast];try omega))only[push_cast,simprocAttr,List.take_zero];rfl) rfl (by first|assumption|(simp(disch:=first|omega|(apply id;simp only[push_cast];try omega))only[push_cast,simprocAttr];try omega)))
 intro m s1 hI
 cases hI with|mk i iv h hiv hi c1 hl1 hl2=>
 subst hiv
 rw[tS0]
 by_cases hil:(i:Int)<l.length
 ·obtain ⟨x,hx⟩:=qP (l:=l) (i:=i) (by omega)
  have hxm:=List.mem_of_getElem? hx
  have hp:=mF0 hx
  have hle:i*4+4≤l.length*4:=by omega
  simp(disch:=first|omega|(apply id;simp only[push_cast];try omega))only[push_cast,simprocAttr,hil,Int.toNat_natCast,hp,hle,hl1]
  refine jC.dataI (hf x hxm) (by and_intros<;>first|rfl|(simp(disch:=first|omega|(apply id;simp only[push_cast];try omega))only[push_cast])) ?_
  obtain ⟨k,hk⟩:∃ k,l.length-i=k+1:=⟨l.length-i-1,by omega⟩
  have hta:(kP (l.take i)).length=i*4:=by rw[zP0,List.length_take,Nat.min_eq_left hi]
  have hlen:=sH0 (w:=4) (z:=zex) (k:=l.length-i) (n:=l.length*4) hta rfl (by rw[Nat.sub_mul];omega)
  have hst:=mD0 (c:=exC x) (w:=4) (z:=zex) (k:=k) hta rfl
  rw[← hk,← tK1,← fW0,← qJ hx,show k=l.length-(i+1) by omega,tK1] at hst
  simp(disch:=first|omega|(apply id;simp only[push_cast];try omega))only[push_cast,simprocAttr,hil,Int.toNat_natCast,hle,hl1,c1,hlen,hst]
  exact ⟨_,by omega,ILex.mk (i+1) _ _ (by first|rfl|omega) (by omega) (by first|assumption|(simp(disch:=first|omega|(apply id;simp only[push_cast];try omega))only[push_cast,simprocAttr];try omega)) (by first|assumption|(simp(disch:=first|omega|(apply id;simp only[push_cast];try omega))only[push_cast,simprocAttr,hl1];try omega)) (by first|assumption|(simp(disch:=first|omega|(apply id;simp only[push_cast];try omega))only[push_cast,simprocAttr];try omega))⟩
 ·have hie:i=l.length:=by omega
  subst hie
  rw[List.take_length,Nat.sub_self,List.replicate_zero,List.flatten_nil,List.append_nil] at c1
  simp(disch:=first|omega|(apply id;simp only[push_cast];try omega))only[push_cast,simprocAttr,hil]
  rw[tR0]
  simp(disch:=first|omega|(apply id;simp only[push_cast];try omega))only[push_cast,simprocAttr]
  refine .sl (by simp(disch:=first|omega|(apply id;simp only[push_cast];try omega))only[push_cast,simprocAttr]) c1 (size:=4) rfl (by decide) (by first|assumption|(simp(disch:=first|omega|(apply id;simp only[push_cast];try omega))only[push_cast,simprocAttr];try omega)) (.inl ⟨by simp only[UC];omega,Nat.le_refl _⟩) ?_
  rw[List.drop_zero,List.take_of_length_le (by rw[zP0];exact Nat.le_refl _)]
  exact .ids (qG0 _ H0q l)
def ztm:List Value:=[.int .i64 0,.int .i64 0,.int .i64 0,.string (Tx []),.int .i64 0,.int .i64 0,.string (Tx []),.slice none 0 0,.slice none 0 0]
inductive ILtm (l:List Tm) (fv:Value):Nat→S→Prop
 | mk (i:Nat) (iv:Int) (h:jA) {x0 x2 x3 x4 x6 x7 x8 x9 xA xB xC xD xE xF xG xH xI xJ xK xL xM xN xO xP:Value} (hiv:iv=(i:Int)) (hi:i≤l.length) (c1:cells h 1=some (kF (l.take i)++(List.replicate (l.length-i) ztm).flatten,34,false)) (hl1:h.lo=1) (hl2:2≤h.next) :
  ILtm l fv (l.length-i) ⟨(F29 x0 fv x2 x3 x4 (.slice (some ⟨1,0,none⟩) l.length l.length) x6 x7 x8 x9 xA xB xC xD (Rw false etm l.length (kF l)) (.int .i64 l.length) (.int .i64 iv) xE xF xG xH xI xJ xK xL xM xN xO xP),[],h⟩
theorem lX1 (l:List Tm) (f:FuncId) (hll:l.length<100000000000) (hf:∀ x∈l,jN (pp G) H0 f [tmV x] (tmV x)):jN (pp G) H0 73 [tmsV l,.func (.func f) #[] #[]] (tmsV l):=by
 have hlo:H0.lo≤H0.next:=Nat.le_refl _;refine jN.cut (jI.fir4 (q:=qq) (jR G) fir73 (by kernel_rfl) rfl rfl (fR1 ..) (show NGG≤H0.lo by rw[qQ];decide) ?_);rw[uD2]
 unfold tmsV
 by_cases h0:l.length=0
 ·have h0':(l.length:Int)=0:=by omega
  obtain rfl:l=[]:=List.length_eq_zero_iff.1 h0
  simp(disch:=first|omega|(apply id;simp only[push_cast];try omega))only[push_cast,simprocAttr,h0']
  exact .nil (size:=9) rfl (by decide)
 have h0':¬ (l.length:Int)=0:=by omega
 have h1:(l.length:Int)*400+l.length<100000000000000:=by omega
 simp(disch:=first|omega|(apply id;simp only[push_cast];try omega))only[push_cast,simprocAttr,h0',h1]
 refine WD.loop4 (q:=qq) (jR G) (by kernel_rfl) (ILtm l (.func (.func f) #[] #[])) ?_ _ _ (ILtm.mk 0 0 _ rfl (Nat.zero_le _) (by simp(disch:=first|omega|(apply id;simp only[push_cast];try omega))only[push_cast,simprocAttr,List.take_zero];rfl) rfl (by first|assumption|(simp(disch:=first|omega|(apply id;simp only[push_cast];try omega))only[push_cast,simprocAttr];try omega)))
 intro m s1 hI
 cases hI with|mk i iv h hiv hi c1 hl1 hl2=>
 subst hiv
 rw[jR1]
 by_cases hil:(i:Int)<l.length
 ·obtain ⟨x,hx⟩:=qP (l:=l) (i:=i) (by omega)
  have hxm:=List.mem_of_getElem? hx
  have hp:=jF0 hx
  have hle:i*9+9≤l.length*9:=by omega
  simp(disch:=first|omega|(apply id;simp only[push_cast];try omega))only[push_cast,simprocAttr,hil,Int.toNat_natCast,hp,hle,hl1]
  refine jC.dataI (hf x hxm) (by and_intros<;>first|rfl|(simp(disch:=first|omega|(apply id;simp only[push_cast];try omega))only[push_cast])) ?_
  obtain ⟨k,hk⟩:∃ k,l.length-i=k+1:=⟨l.length-i-1,by omega⟩
  have hta:(kF (l.take i)).length=i*9:=by rw[cG,List.length_take,Nat.min_eq_left hi]
  have hlen:=sH0 (w:=9) (z:=ztm) (k:=l.length-i) (n:=l.length*9) hta rfl (by rw[Nat.sub_mul];omega)
  have hst:=mD0 (c:=tmC x) (w:=9) (z:=ztm) (k:=k) hta rfl
  rw[← hk,← kB1,← uN0,← qJ hx,show k=l.length-(i+1) by omega,kB1] at hst
  simp(disch:=first|omega|(apply id;simp only[push_cast];try omega))only[push_cast,simprocAttr,hil,Int.toNat_natCast,hle,hl1,c1,hlen,hst]
  exact ⟨_,by omega,ILtm.mk (i+1) _ _ (by first|rfl|omega) (by omega) (by first|assumption|(simp(disch:=first|omega|(apply id;simp only[push_cast];try omega))only[push_cast,simprocAttr];try omega)) (by first|assumption|(simp(disch:=first|omega|(apply id;simp only[push_cast];try omega))only[push_cast,simprocAttr,hl1];try omega)) (by first|assumption|(simp(disch:=first|omega|(apply id;simp only[push_cast];try omega))only[push_cast,simprocAttr];try omega))⟩
 ·have hie:i=l.length:=by omega
  subst hie
  rw[List.take_length,Nat.sub_self,List.replicate_zero,List.flatten_nil,List.append_nil] at c1
  simp(disch:=first|omega|(apply id;simp only[push_cast];try omega))only[push_cast,simprocAttr,hil]
  rw[jQ1]
  simp(disch:=first|omega|(apply id;simp only[push_cast];try omega))only[push_cast,simprocAttr]
  refine .sl (by simp(disch:=first|omega|(apply id;simp only[push_cast];try omega))only[push_cast,simprocAttr]) c1 (size:=9) rfl (by decide) (by first|assumption|(simp(disch:=first|omega|(apply id;simp only[push_cast];try omega))only[push_cast,simprocAttr];try omega)) (.inl ⟨by simp only[UC];omega,Nat.le_refl _⟩) ?_
  rw[List.drop_zero,List.take_of_length_le (by rw[cG];exact Nat.le_refl _)]
  exact .ids (gU _ H0q l)
mutual
def smE:Ex→Bool
 | .mk k n s l=>decide (l.length<100000000000)&&smEs l
def smEs:List Ex→Bool
 | []=>true
 | x :: l=>smE x&&smEs l
end
mutual
def smT:Tm→Bool
 | .mk k a b s e l=>decide (l.length<100000000000)&&smE e&&smTs l
def smTs:List Tm→Bool
 | []=>true
 | x :: l=>smT x&&smTs l
end
theorem eL0:∀ {l:List Ex},smEs l=true→∀ x∈l,smE x=true
 | [],_,x,hx=>by cases hx
 | y :: l,h,x,hx=>by
  simp only[smEs,Bool.and_eq_true] at h
  rcases List.mem_cons.1 hx with rfl|hx
  ·exact h.1
  ·exact eL0 h.2 x hx
theorem bJ:∀ {l:List Tm},smTs l=true→∀ x∈l,smT x=true
 | [],_,x,hx=>by cases hx
 | y :: l,h,x,hx=>by
  simp only[smTs,Bool.and_eq_true] at h
  rcases List.mem_cons.1 hx with rfl|hx
  ·exact h.1
  ·exact bJ h.2 x hx
theorem nQ0:∀ {l:List Tm},(∀ x∈l,smT x=true)→smTs l=true
 | [],_=>rfl
 | y :: l,h=>by rw[smTs,h y (by simp),nQ0 fun x hx=>h x (by simp[hx])];rfl
theorem yX1:∀ x:Ex,smE x=true→jN (pp G) H0 74 [exV x] (exV x)
 | .mk k n s l,hs=>by
  simp only[smE,Bool.and_eq_true,decide_eq_true_eq] at hs
  have hl:=lY1 G l 74 hs.1 fun x hx=>yX1 x (eL0 hs.2 x hx)
  have hlo:H0.lo≤H0.next:=Nat.le_refl _;refine jN.cut (jI.fir4 (q:=qq) (jR G) fir74 (by kernel_rfl) rfl rfl (fN1 ..) (show NGG≤H0.lo by rw[qQ];decide) ?_);rw[uC2]
  unfold exV exC
  simp(disch:=first|omega|(apply id;simp only[push_cast];try omega))only[push_cast,simprocAttr]
  refine jC.dataI (hl) (by and_intros<;>first|rfl|(simp(disch:=first|omega|(apply id;simp only[push_cast];try omega))only[push_cast])) ?_
  unfold exsV
  simp(disch:=first|omega|(apply id;simp only[push_cast];try omega))only[push_cast,simprocAttr]
  exact .id (sI0 _ H0q (.mk k n s l))
 termination_by x=>SizeOf.sizeOf x
theorem yW1:∀ x:Tm,smT x=true→jN (pp G) H0 54 [tmV x] (tmV x)
 | .mk k a b s e l,hs=>by
  simp only[smT,Bool.and_eq_true,decide_eq_true_eq] at hs
  have hl:=lX1 G l 54 hs.1.1 fun x hx=>yW1 x (bJ hs.2 x hx)
  have hT:jN (pp G) H0 56 [tmsV l] (tmsV l):=by
   have hlo:H0.lo≤H0.next:=Nat.le_refl _;refine jN.cut (jI.fir4 (q:=qq) (jR G) fir56 (by kernel_rfl) rfl rfl (iE2 ..) (show NGG≤H0.lo by rw[qQ];decide) ?_);rw[uP2]
   unfold tmsV
   simp(disch:=first|omega|(apply id;simp only[push_cast];try omega))only[push_cast,simprocAttr]
   refine jC.dataI (hl) (by and_intros<;>first|rfl|(simp(disch:=first|omega|(apply id;simp only[push_cast];try omega))only[push_cast])) ?_
   unfold tmsV
   simp(disch:=first|omega|(apply id;simp only[push_cast];try omega))only[push_cast,simprocAttr]
   exact .id (by simp(disch:=first|omega|(apply id;simp only[push_cast];try omega))only[push_cast,simprocAttr])
  have hlo:H0.lo≤H0.next:=Nat.le_refl _;refine jN.cut (jI.fir4 (q:=qq) (jR G) fir54 (by kernel_rfl) rfl rfl (fU1 ..) (show NGG≤H0.lo by rw[qQ];decide) ?_);rw[uQ2]
  unfold tmV tmC
  simp(disch:=first|omega|(apply id;simp only[push_cast];try omega))only[push_cast,simprocAttr]
  refine jC.dataI (yX1 G e hs.1.2) (by and_intros<;>first|rfl|(simp(disch:=first|omega|(apply id;simp only[push_cast];try omega))only[push_cast])) ?_
  simp(disch:=first|omega|(apply id;simp only[push_cast];try omega))only[push_cast,simprocAttr,sJ0]
  refine jC.dataI (hT) (by and_intros<;>first|rfl|(simp(disch:=first|omega|(apply id;simp only[push_cast];try omega))only[push_cast])) ?_
  unfold tmsV
  simp(disch:=first|omega|(apply id;simp only[push_cast];try omega))only[push_cast,simprocAttr,sJ0]
  exact .id (bV _ H0q (.mk k a b s e l))
 termination_by x=>SizeOf.sizeOf x
mutual
def uY:Tm→Int
 | .mk _ _ _ _ _ l=>1+uU l
def uU:List Tm→Int
 | []=>0
 | x :: l=>uY x+uU l
end
end
end Go.Proofs.Ytgeakofgklcipaa
namespace Go.Proofs.Ytgeakofgklcipaa
open Go Go.RowKit Go.Ev Go.Dv
noncomputable section
set_option maxRecDepth 100000
def zE:Ex:=.mk 0 0 [] []
def zT:Tm:=.mk 0 0 0 [] zE []
theorem qM.lt {σ:jA} {e n:Nat} {a:Option Addr} {len c:Nat} {cs:List Value} (ho:qM σ e n a len c cs) {b:Nat} (hb:blk a b):σ.lo≤b∧b<σ.next:=by
 obtain ⟨o,s,rfl⟩:=hb
 rcases ho.hat with ⟨e,_⟩|⟨q,_,e,h1,h2,_⟩
 ·cases e
 ·cases e;exact ⟨h1,h2⟩
theorem qY1 (t:Tm) (σ:jA):bsD (qq.m 32) (slT Try.prog 32) 1 [(0,tmV t)] σ=some (Rw true 34 1 (kF [t]),σ):=by
 rw[kB1];cases t;kernel_rfl
theorem qM.flt {σ:jA} {e n:Nat} {a:Option Addr} {len c:Nat} {cs:List Value} (ho:qM σ e n a len c cs) {p:Nat→Bool} (hp:∀ b,blk a b→p b=true):qM (hflt p σ) e n a len c cs:=by
 refine ⟨ho.hlen,ho.hone,?_⟩
 rcases ho.hat with h0|⟨b,m,ha,h1,h2,h3,h4⟩
 ·exact .inl h0
 ·exact .inr ⟨b,m,ha,h1,h2,(kK0 σ (hp b ⟨0,none,ha⟩)).trans h3,h4⟩
end
end Go.Proofs.Ytgeakofgklcipaa
