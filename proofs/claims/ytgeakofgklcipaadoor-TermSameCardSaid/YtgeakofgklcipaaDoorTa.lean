/-
  A part of the proof: what the program's functions hand back,as theorems. No condition but those that each theorem names.
-/
import Derived.Test.YtgeakofgklcipaaDoorExa
import Derived.Test.YtgeakofgklcipaaDoorEve
import Derived.Test.YtgeakofgklcipaaDoorExb
set_option linter.unusedSimpArgs false
set_option linter.unusedVariables false
namespace Go.Proofs.YtgeakofgklcipaaDoor
open Go Go.RowKit Go.Ev Go.Dv
noncomputable section
set_option maxRecDepth 100000
def W (a:Int):Int:=IntKind.i64.wrap a
def In (a:Int):Prop:=-9223372036854775808≤a∧a≤9223372036854775807
theorem W_in {a:Int} (h:In a):W a=a:=by
 unfold In at h
 unfold W;rw[IntKind.wrap_i64];omega
theorem H0p:0<H0.lo:=by rw[uY];omega
theorem H0q:0<H0.next:=by rw[gO];omega
abbrev eI:Nat:=3
def ivs (l:List Int):List Value:=l.map (Value.int .i64)
def ivV (l:List Int):Value:=Rw false eI l.length (ivs l)
theorem ivs_len (l:List Int):(ivs l).length=l.length:=by simp[ivs]
theorem ivs_sc (n:Nat):∀ l:List Int,scL n (ivs l)=true
 | []=>rfl
 | x :: l=>by
  have:=ivs_sc n l
  simp only[ivs] at this
  simp[ivs,scL,sc,this]
theorem ivR_sc (n:Nat) (hn:0<n) (k:Nat) (f:Bool) (l:List Int):sc n (Rw f eI k (ivs l))=true:=by
 have:=ivs_sc n l
 simp[sc,Rw,scL,this,hn]
theorem ivV_sc (n:Nat) (hn:0<n) (l:List Int):sc n (ivV l)=true:=ivR_sc n hn ..
theorem ivs_get' {l:List Int} {i:Nat} (h:i<l.length):(ivs l)[i]?=some (.int .i64 (l.getD i 0)):=by simp[ivs,h]
theorem ivs_app (a b:List Int):ivs (a++b)=ivs a++ivs b:=by simp[ivs]
abbrev eS:Nat:=9
def nss (l:List (List UInt8)):List Value:=l.map fun s=>Value.string (Tx s)
def nsV (l:List (List UInt8)):Value:=Rw false eS l.length (nss l)
theorem nss_len (l:List (List UInt8)):(nss l).length=l.length:=by simp[nss]
theorem nss_sc (n:Nat):∀ l:List (List UInt8),scL n (nss l)=true
 | []=>rfl
 | x :: l=>by
  have:=nss_sc n l
  simp only[nss] at this
  simp[nss,scL,sc,this]
theorem nsR_sc (n:Nat) (hn:0<n) (k:Nat) (f:Bool) (l:List (List UInt8)):sc n (Rw f eS k (nss l))=true:=by
 have:=nss_sc n l
 simp[sc,Rw,scL,this,hn]
theorem nsV_sc (n:Nat) (hn:0<n) (l:List (List UInt8)):sc n (nsV l)=true:=nsR_sc n hn ..
theorem nss_get {l:List (List UInt8)} {i:Nat} (h:i<l.length):(nss l)[i]?=some (.string (Tx (l.getD i []))):=by simp[nss,h]
theorem nss_app (a b:List (List UInt8)):nss (a++b)=nss a++nss b:=by simp[nss]
abbrev eB:Nat:=4
def bvs (l:List Bool):List Value:=l.map Value.bool
def bvV (l:List Bool):Value:=Rw false eB l.length (bvs l)
theorem bvs_len (l:List Bool):(bvs l).length=l.length:=by simp[bvs]
theorem bvs_sc (n:Nat):∀ l:List Bool,scL n (bvs l)=true
 | []=>rfl
 | x :: l=>by
  have:=bvs_sc n l
  simp only[bvs] at this
  simp[bvs,scL,sc,this]
theorem bvR_sc (n:Nat) (hn:0<n) (k:Nat) (f:Bool) (l:List Bool):sc n (Rw f eB k (bvs l))=true:=by
 have:=bvs_sc n l
 simp[sc,Rw,scL,this,hn]
theorem bvs_one:∀ l:List Bool,(bvs l).all one=true
 | []=>rfl
 | x :: l=>by
  have:=bvs_one l
  simp only[bvs] at this
  simp[bvs,one]
theorem bvs_get {l:List Bool} {i:Nat} (h:i<l.length):(bvs l)[i]?=some (.bool (l.getD i false)):=by simp[bvs,h]
@[push_cast]theorem sc_nil (n a b:Nat):sc n (.slice none a b)=true:=rfl
theorem sc_agg (n:Nat) (l:List Value):sc n (.agg ⟨l⟩)=scL n l:=rfl
theorem sc_int (n:Nat) (k:IntKind) (i:Int):sc n (.int k i)=true:=rfl
theorem sc_str (n:Nat) (s:ByteArray):sc n (.string s)=true:=rfl
attribute [push_cast] sc_agg sc_int sc_str
@[push_cast]theorem sc_fn (n f:Nat):sc n (.func (.func f) #[] #[])=true:=rfl
attribute [push_cast] ivs_len ivs_sc ivR_sc ivV_sc nss_len nss_sc nsR_sc nsV_sc bvs_len bvs_sc bvR_sc bvs_one b_neqs b_eqls Int.toNat_zero Int.toNat_one Int.natCast_one uY gO
def jK (a n:Int):Int:=if a.tmod n<0 then a.tmod n+n else a.tmod n
theorem jX {a n:Int} (hn:0<n):0≤jK a n∧jK a n<n:=by
 have h1:(a.tmod n).natAbs=a.natAbs % n.natAbs:=Int.natAbs_tmod a n
 have h2:a.natAbs % n.natAbs<n.natAbs:=Nat.mod_lt _ (by omega)
 unfold jK
 split<;>omega
inductive Ex where
 | mk (k:Int) (n:Int) (s:List UInt8) (l:List Ex)
abbrev eE:Nat:=31
mutual
def exC:Ex→List Value
 | .mk k n s l=>[.int .i64 k,.int .i64 n,.string (Tx s),Rw false eE l.length (kG l)]
def kG:List Ex→List Value
 | []=>[]
 | x :: l=>exC x++kG l
end
def exV (x:Ex):Value:=.agg ⟨exC x⟩
def exsV (l:List Ex):Value:=Rw false eE l.length (kG l)
theorem exC_mk (k:Int) (n:Int) (s:List UInt8) (l:List Ex):exC (.mk k n s l)=[.int .i64 k,.int .i64 n,.string (Tx s),Rw false eE l.length (kG l)]:=rfl
theorem exC_len (x:Ex):(exC x).length=4:=by cases x;simp[exC]
theorem exCs_len:∀ l:List Ex,(kG l).length=l.length*4
 | []=>rfl
 | x :: l=>by rw[kG,List.length_append,exC_len,exCs_len l,List.length_cons];omega
theorem exC_one:∀ x:Ex,(exC x).all one=true
 | .mk k n s l=>by simp[exC,one,Rw]
theorem exCs_one:∀ l:List Ex,(kG l).all one=true
 | []=>rfl
 | x :: l=>by rw[kG,List.all_append,exC_one x,exCs_one l];rfl
mutual
theorem exC_sc (nn:Nat) (hn:0<nn):∀ x:Ex,scL nn (exC x)=true
 | .mk k n s l=>by
  have:=exCs_sc nn hn l
  simp[exC,scL,Ev.sc,Rw,hn, *]
theorem exCs_sc (nn:Nat) (hn:0<nn):∀ l:List Ex,scL nn (kG l)=true
 | []=>rfl
 | x :: l=>by
  rw[kG]
  exact jV fun v hv=>(List.mem_append.1 hv).elim (jT (exC_sc nn hn x) v) (jT (exCs_sc nn hn l) v)
end
theorem exV_sc (n:Nat) (hn:0<n) (x:Ex):Ev.sc n (exV x)=true:=exC_sc n hn x
theorem exR_sc (n:Nat) (hn:0<n) (k:Nat) (f:Bool) (l:List Ex):Ev.sc n (Rw f eE k (kG l))=true:=by
 have:=exCs_sc n hn l
 simp[Ev.sc,Rw,scL,this,hn]
theorem exCs_app:∀ (a b:List Ex),kG (a++b)=kG a++kG b
 | [],b=>rfl
 | x :: a,b=>by rw[List.cons_append,kG,exCs_app a b,kG,List.append_assoc]
theorem exCs_drop:∀ (l:List Ex) (i:Nat),(kG l).drop (i*4)=kG (l.drop i)
 | l,0=>by simp
 | [],i+1=>by simp[kG]
 | x :: l,i+1=>by
  rw[kG,List.drop_succ_cons,← exCs_drop l i,Nat.add_mul,Nat.one_mul,Nat.add_comm,← List.drop_drop,List.drop_append_of_le_length (by rw[exC_len];exact Nat.le_refl _),show (exC x).drop 4=[] from List.drop_of_length_le (by rw[exC_len];exact Nat.le_refl _),List.nil_append]
theorem exCs_take {l:List Ex} {i:Nat} {x:Ex} (h:l[i]?=some x):((kG l).drop (i*4)).take 4=exC x:=by
 have hi:i<l.length:=(List.getElem?_eq_some_iff.1 h).1
 have hd:l.drop i=x :: l.drop (i+1):=by rw[List.drop_eq_getElem_cons hi];congr 1;exact (List.getElem?_eq_some_iff.1 h).2
 rw[exCs_drop,hd,kG,List.take_append_of_le_length (by rw[exC_len];exact Nat.le_refl _),List.take_of_length_le (by rw[exC_len];exact Nat.le_refl _)]
theorem exV_fold (x:Ex):Value.agg ⟨exC x⟩=exV x:=rfl
theorem exV_cells (x:Ex):(exV x).cells.toList=exC x:=rfl
theorem exC_take (x:Ex):(exC x).take 4=exC x:=List.take_of_length_le (by rw[exC_len];exact Nat.le_refl _)
attribute [push_cast] exC_mk exCs_len exV_fold exCs_sc exV_sc exR_sc exC_sc exCs_one exC_one exV_cells exC_take exC_len
def Ex.k:Ex→Int | .mk k _ _ _=>k
def Ex.n:Ex→Int | .mk _ n _ _=>n
def Ex.s:Ex→List UInt8 | .mk _ _ s _=>s
def Ex.l:Ex→List Ex | .mk _ _ _ l=>l
theorem Ex.k_mk (k n:Int) (s:List UInt8) (l:List Ex):Ex.k (.mk k n s l)=k:=rfl
theorem Ex.n_mk (k n:Int) (s:List UInt8) (l:List Ex):Ex.n (.mk k n s l)=n:=rfl
theorem Ex.s_mk (k n:Int) (s:List UInt8) (l:List Ex):Ex.s (.mk k n s l)=s:=rfl
theorem Ex.l_mk (k n:Int) (s:List UInt8) (l:List Ex):Ex.l (.mk k n s l)=l:=rfl
theorem exC_of (x:Ex):exC x=[.int .i64 x.k,.int .i64 x.n,.string (Tx x.s),Rw false eE x.l.length (kG x.l)]:=by cases x;rfl
theorem exV_of (x:Ex):Value.agg ⟨[.int .i64 x.k,.int .i64 x.n,.string (Tx x.s),Rw false eE x.l.length (kG x.l)]⟩=exV x:=by cases x;rfl
attribute [push_cast] Ex.k_mk Ex.n_mk Ex.s_mk Ex.l_mk exV_of
inductive Tm where
 | mk (k:Int) (a:Int) (b:Int) (s:List UInt8) (e:Ex) (l:List Tm)
abbrev etm:Nat:=34
mutual
def tmC:Tm→List Value
 | .mk k a b s e l=>[.int .i64 k,.int .i64 a,.int .i64 b,.string (Tx s),.int .i64 e.k,.int .i64 e.n,.string (Tx e.s),Rw false eE e.l.length (kG e.l),Rw false etm l.length (qR l)]
def qR:List Tm→List Value
 | []=>[]
 | x :: l=>tmC x++qR l
end
def tmV (x:Tm):Value:=.agg ⟨tmC x⟩
def tmsV (l:List Tm):Value:=Rw false etm l.length (qR l)
theorem tmC_mk (k:Int) (a:Int) (b:Int) (s:List UInt8) (e:Ex) (l:List Tm):tmC (.mk k a b s e l)=[.int .i64 k,.int .i64 a,.int .i64 b,.string (Tx s),.int .i64 e.k,.int .i64 e.n,.string (Tx e.s),Rw false eE e.l.length (kG e.l),Rw false etm l.length (qR l)]:=rfl
theorem tmC_len (x:Tm):(tmC x).length=9:=by cases x;simp[tmC]
theorem gW:∀ l:List Tm,(qR l).length=l.length*9
 | []=>rfl
 | x :: l=>by rw[qR,List.length_append,tmC_len,gW l,List.length_cons];omega
theorem tmC_one:∀ x:Tm,(tmC x).all one=true
 | .mk k a b s e l=>by simp[tmC,one,Rw]
theorem tmCs_one:∀ l:List Tm,(qR l).all one=true
 | []=>rfl
 | x :: l=>by rw[qR,List.all_append,tmC_one x,tmCs_one l];rfl
mutual
theorem tmC_sc (nn:Nat) (hn:0<nn):∀ x:Tm,scL nn (tmC x)=true
 | .mk k a b s e l=>by
  have:=bI nn hn l
  simp[tmC,scL,Ev.sc,Rw,hn,exCs_sc, *]
theorem bI (nn:Nat) (hn:0<nn):∀ l:List Tm,scL nn (qR l)=true
 | []=>rfl
 | x :: l=>by
  rw[qR]
  exact jV fun v hv=>(List.mem_append.1 hv).elim (jT (tmC_sc nn hn x) v) (jT (bI nn hn l) v)
end
theorem tmV_sc (n:Nat) (hn:0<n) (x:Tm):Ev.sc n (tmV x)=true:=tmC_sc n hn x
theorem tmR_sc (n:Nat) (hn:0<n) (k:Nat) (f:Bool) (l:List Tm):Ev.sc n (Rw f etm k (qR l))=true:=by
 have:=bI n hn l
 simp[Ev.sc,Rw,scL,this,hn]
theorem tmsV_sc (n:Nat) (hn:0<n) (l:List Tm):Ev.sc n (tmsV l)=true:=tmR_sc n hn ..
theorem tmCs_app:∀ (a b:List Tm),qR (a++b)=qR a++qR b
 | [],b=>rfl
 | x :: a,b=>by rw[List.cons_append,qR,tmCs_app a b,qR,List.append_assoc]
theorem tmCs_1 (x:Tm):qR [x]=tmC x:=by rw[qR,qR,List.append_nil]
theorem tmCs_drop:∀ (l:List Tm) (i:Nat),(qR l).drop (i*9)=qR (l.drop i)
 | l,0=>by simp
 | [],i+1=>by simp[qR]
 | x :: l,i+1=>by
  rw[qR,List.drop_succ_cons,← tmCs_drop l i,Nat.add_mul,Nat.one_mul,Nat.add_comm,← List.drop_drop,List.drop_append_of_le_length (by rw[tmC_len];exact Nat.le_refl _),show (tmC x).drop 9=[] from List.drop_of_length_le (by rw[tmC_len];exact Nat.le_refl _),List.nil_append]
theorem tmCs_front:∀ (l:List Tm) (i:Nat),(qR l).take (i*9)=qR (l.take i)
 | l,0=>by simp[qR]
 | [],i+1=>by simp[qR]
 | x :: l,i+1=>by
  rw[qR,List.take_succ_cons,qR,← tmCs_front l i,Nat.add_mul,Nat.one_mul,Nat.add_comm,List.take_append,tmC_len,List.take_of_length_le (by rw[tmC_len];omega),Nat.add_sub_cancel_left]
theorem tmCs_take {l:List Tm} {i:Nat} {x:Tm} (h:l[i]?=some x):((qR l).drop (i*9)).take 9=tmC x:=by
 have hi:i<l.length:=(List.getElem?_eq_some_iff.1 h).1
 have hd:l.drop i=x :: l.drop (i+1):=by rw[List.drop_eq_getElem_cons hi];congr 1;exact (List.getElem?_eq_some_iff.1 h).2
 rw[tmCs_drop,hd,qR,List.take_append_of_le_length (by rw[tmC_len];exact Nat.le_refl _),List.take_of_length_le (by rw[tmC_len];exact Nat.le_refl _)]
theorem tmCs_set {l:List Tm} {i:Nat} (y:Tm) (h:i<l.length):(qR l).take (i*9)++tmC y++(qR l).drop (i*9+9)=qR (l.set i y):=by
 rw[tmCs_front,show i*9+9=(i+1)*9 by omega,tmCs_drop,List.set_eq_take_append_cons_drop,if_pos h,tmCs_app,qR,List.append_assoc]
theorem tmV_fold (x:Tm):Value.agg ⟨tmC x⟩=tmV x:=rfl
theorem tmV_cells (x:Tm):(tmV x).cells.toList=tmC x:=rfl
theorem tmC_take (x:Tm):(tmC x).take 9=tmC x:=List.take_of_length_le (by rw[tmC_len];exact Nat.le_refl _)
attribute [push_cast] tmC_mk gW tmV_fold bI tmV_sc tmsV_sc tmR_sc tmC_sc tmCs_one tmC_one tmV_cells tmC_take tmC_len
def Tm.k:Tm→Int | .mk k _ _ _ _ _=>k
def Tm.a:Tm→Int | .mk _ a _ _ _ _=>a
def Tm.b:Tm→Int | .mk _ _ b _ _ _=>b
def Tm.s:Tm→List UInt8 | .mk _ _ _ s _ _=>s
def Tm.e:Tm→Ex | .mk _ _ _ _ e _=>e
def Tm.l:Tm→List Tm | .mk _ _ _ _ _ l=>l
theorem Tm.k_mk (k a b:Int) (s:List UInt8) (e:Ex) (l:List Tm):Tm.k (.mk k a b s e l)=k:=rfl
theorem Tm.l_mk (k a b:Int) (s:List UInt8) (e:Ex) (l:List Tm):Tm.l (.mk k a b s e l)=l:=rfl
inductive Pr where
 | mk (k:Int) (n:List UInt8) (t:List UInt8) (e:Ex) (l:List Pr)
abbrev epr:Nat:=61
mutual
def prC:Pr→List Value
 | .mk k n t e l=>[.int .i64 k,.string (Tx n),.string (Tx t),.int .i64 e.k,.int .i64 e.n,.string (Tx e.s),Rw false eE e.l.length (kG e.l),Rw false epr l.length (prCs l)]
def prCs:List Pr→List Value
 | []=>[]
 | x :: l=>prC x++prCs l
end
def prV (x:Pr):Value:=.agg ⟨prC x⟩
def prsV (l:List Pr):Value:=Rw false epr l.length (prCs l)
theorem prC_mk (k:Int) (n:List UInt8) (t:List UInt8) (e:Ex) (l:List Pr):prC (.mk k n t e l)=[.int .i64 k,.string (Tx n),.string (Tx t),.int .i64 e.k,.int .i64 e.n,.string (Tx e.s),Rw false eE e.l.length (kG e.l),Rw false epr l.length (prCs l)]:=rfl
theorem gJ (x:Pr):(prC x).length=8:=by cases x;simp[prC]
theorem prCs_len:∀ l:List Pr,(prCs l).length=l.length*8
 | []=>rfl
 | x :: l=>by rw[prCs,List.length_append,gJ,prCs_len l,List.length_cons];omega
theorem prC_one:∀ x:Pr,(prC x).all one=true
 | .mk k n t e l=>by simp[prC,one,Rw]
mutual
theorem prC_sc (nn:Nat) (hn:0<nn):∀ x:Pr,scL nn (prC x)=true
 | .mk k n t e l=>by
  have:=prCs_sc nn hn l
  simp[prC,scL,Ev.sc,Rw,hn,exCs_sc, *]
theorem prCs_sc (nn:Nat) (hn:0<nn):∀ l:List Pr,scL nn (prCs l)=true
 | []=>rfl
 | x :: l=>by
  rw[prCs]
  exact jV fun v hv=>(List.mem_append.1 hv).elim (jT (prC_sc nn hn x) v) (jT (prCs_sc nn hn l) v)
end
theorem prV_sc (n:Nat) (hn:0<n) (x:Pr):Ev.sc n (prV x)=true:=prC_sc n hn x
theorem prCs_1 (x:Pr):prCs [x]=prC x:=by rw[prCs,prCs,List.append_nil]
theorem prCs_drop:∀ (l:List Pr) (i:Nat),(prCs l).drop (i*8)=prCs (l.drop i)
 | l,0=>by simp
 | [],i+1=>by simp[prCs]
 | x :: l,i+1=>by
  rw[prCs,List.drop_succ_cons,← prCs_drop l i,Nat.add_mul,Nat.one_mul,Nat.add_comm,← List.drop_drop,List.drop_append_of_le_length (by rw[gJ];exact Nat.le_refl _),show (prC x).drop 8=[] from List.drop_of_length_le (by rw[gJ];exact Nat.le_refl _),List.nil_append]
theorem prCs_take {l:List Pr} {i:Nat} {x:Pr} (h:l[i]?=some x):((prCs l).drop (i*8)).take 8=prC x:=by
 have hi:i<l.length:=(List.getElem?_eq_some_iff.1 h).1
 have hd:l.drop i=x :: l.drop (i+1):=by rw[List.drop_eq_getElem_cons hi];congr 1;exact (List.getElem?_eq_some_iff.1 h).2
 rw[prCs_drop,hd,prCs,List.take_append_of_le_length (by rw[gJ];exact Nat.le_refl _),List.take_of_length_le (by rw[gJ];exact Nat.le_refl _)]
theorem prV_fold (x:Pr):Value.agg ⟨prC x⟩=prV x:=rfl
theorem prV_cells (x:Pr):(prV x).cells.toList=prC x:=rfl
theorem prC_take (x:Pr):(prC x).take 8=prC x:=List.take_of_length_le (by rw[gJ];exact Nat.le_refl _)
theorem prCs_p0 (x:Pr) (l:List Pr):(prCs (x :: l)).take 8=prC x:=prCs_take (l:=x :: l) (i:=0) rfl
theorem prCs_p1 (x y:Pr) (l:List Pr):((prCs (x :: y :: l)).drop 8).take 8=prC y:=prCs_take (l:=x :: y :: l) (i:=1) rfl
attribute [push_cast] prC_mk prCs_len prV_fold prCs_sc prV_sc prC_sc prC_one prV_cells prC_take gJ prCs_p0 prCs_p1
inductive Ra where
 | mk (k:Int) (n:Int) (l:List Ra)
abbrev era:Nat:=120
mutual
def raC:Ra→List Value
 | .mk k n l=>[.int .i64 k,.int .i64 n,Rw false era l.length (raCs l)]
def raCs:List Ra→List Value
 | []=>[]
 | x :: l=>raC x++raCs l
end
def raV (x:Ra):Value:=.agg ⟨raC x⟩
def rasV (l:List Ra):Value:=Rw false era l.length (raCs l)
theorem raC_mk (k:Int) (n:Int) (l:List Ra):raC (.mk k n l)=[.int .i64 k,.int .i64 n,Rw false era l.length (raCs l)]:=rfl
theorem raC_len (x:Ra):(raC x).length=3:=by cases x;simp[raC]
theorem raCs_len:∀ l:List Ra,(raCs l).length=l.length*3
 | []=>rfl
 | x :: l=>by rw[raCs,List.length_append,raC_len,raCs_len l,List.length_cons];omega
theorem raC_one:∀ x:Ra,(raC x).all one=true
 | .mk k n l=>by simp[raC,one,Rw]
mutual
theorem raC_sc (nn:Nat) (hn:0<nn):∀ x:Ra,scL nn (raC x)=true
 | .mk k n l=>by
  have:=raCs_sc nn hn l
  simp[raC,scL,Ev.sc,Rw,hn, *]
theorem raCs_sc (nn:Nat) (hn:0<nn):∀ l:List Ra,scL nn (raCs l)=true
 | []=>rfl
 | x :: l=>by
  rw[raCs]
  exact jV fun v hv=>(List.mem_append.1 hv).elim (jT (raC_sc nn hn x) v) (jT (raCs_sc nn hn l) v)
end
theorem raV_sc (n:Nat) (hn:0<n) (x:Ra):Ev.sc n (raV x)=true:=raC_sc n hn x
theorem raR_sc (n:Nat) (hn:0<n) (k:Nat) (f:Bool) (l:List Ra):Ev.sc n (Rw f era k (raCs l))=true:=by
 have:=raCs_sc n hn l
 simp[Ev.sc,Rw,scL,this,hn]
theorem rasV_sc (n:Nat) (hn:0<n) (l:List Ra):Ev.sc n (rasV l)=true:=raR_sc n hn ..
theorem raCs_drop:∀ (l:List Ra) (i:Nat),(raCs l).drop (i*3)=raCs (l.drop i)
 | l,0=>by simp
 | [],i+1=>by simp[raCs]
 | x :: l,i+1=>by
  rw[raCs,List.drop_succ_cons,← raCs_drop l i,Nat.add_mul,Nat.one_mul,Nat.add_comm,← List.drop_drop,List.drop_append_of_le_length (by rw[raC_len];exact Nat.le_refl _),show (raC x).drop 3=[] from List.drop_of_length_le (by rw[raC_len];exact Nat.le_refl _),List.nil_append]
theorem raCs_take {l:List Ra} {i:Nat} {x:Ra} (h:l[i]?=some x):((raCs l).drop (i*3)).take 3=raC x:=by
 have hi:i<l.length:=(List.getElem?_eq_some_iff.1 h).1
 have hd:l.drop i=x :: l.drop (i+1):=by rw[List.drop_eq_getElem_cons hi];congr 1;exact (List.getElem?_eq_some_iff.1 h).2
 rw[raCs_drop,hd,raCs,List.take_append_of_le_length (by rw[raC_len];exact Nat.le_refl _),List.take_of_length_le (by rw[raC_len];exact Nat.le_refl _)]
theorem raCs_get {l:List Ra} {i j:Nat} {x:Ra} {v:Value} (h:l[i]?=some x) (hj:j<3) (hv:(raC x)[j]?=some v):(raCs l)[i*3+j]?=some v:=by
 have h1:=raCs_take h
 rw[← h1,List.getElem?_take_of_lt hj,List.getElem?_drop] at hv
 exact hv
theorem raV_fold (x:Ra):Value.agg ⟨raC x⟩=raV x:=rfl
theorem raV_cells (x:Ra):(raV x).cells.toList=raC x:=rfl
attribute [push_cast] raC_mk raCs_len raV_fold raCs_sc raV_sc rasV_sc raR_sc raC_sc raC_one raV_cells raC_len
inductive Rb where
 | mk (k:Int) (a:Int) (b:Int) (e:List Ra) (l:List Rb)
abbrev erb:Nat:=25
mutual
def rbC:Rb→List Value
 | .mk k a b e l=>[.int .i64 k,.int .i64 a,.int .i64 b,Rw false era e.length (raCs e),Rw false erb l.length (rbCs l)]
def rbCs:List Rb→List Value
 | []=>[]
 | x :: l=>rbC x++rbCs l
end
def rbV (x:Rb):Value:=.agg ⟨rbC x⟩
def rbsV (l:List Rb):Value:=Rw false erb l.length (rbCs l)
theorem rbC_mk (k:Int) (a:Int) (b:Int) (e:List Ra) (l:List Rb):rbC (.mk k a b e l)=[.int .i64 k,.int .i64 a,.int .i64 b,Rw false era e.length (raCs e),Rw false erb l.length (rbCs l)]:=rfl
theorem bL (x:Rb):(rbC x).length=5:=by cases x;simp[rbC]
theorem rbCs_len:∀ l:List Rb,(rbCs l).length=l.length*5
 | []=>rfl
 | x :: l=>by rw[rbCs,List.length_append,bL,rbCs_len l,List.length_cons];omega
theorem rbC_one:∀ x:Rb,(rbC x).all one=true
 | .mk k a b e l=>by simp[rbC,one,Rw]
mutual
theorem rbC_sc (nn:Nat) (hn:0<nn):∀ x:Rb,scL nn (rbC x)=true
 | .mk k a b e l=>by
  have:=rbCs_sc nn hn l
  simp[rbC,scL,Ev.sc,Rw,hn,raCs_sc, *]
theorem rbCs_sc (nn:Nat) (hn:0<nn):∀ l:List Rb,scL nn (rbCs l)=true
 | []=>rfl
 | x :: l=>by
  rw[rbCs]
  exact jV fun v hv=>(List.mem_append.1 hv).elim (jT (rbC_sc nn hn x) v) (jT (rbCs_sc nn hn l) v)
end
theorem rbV_sc (n:Nat) (hn:0<n) (x:Rb):Ev.sc n (rbV x)=true:=rbC_sc n hn x
theorem rbR_sc (n:Nat) (hn:0<n) (k:Nat) (f:Bool) (l:List Rb):Ev.sc n (Rw f erb k (rbCs l))=true:=by
 have:=rbCs_sc n hn l
 simp[Ev.sc,Rw,scL,this,hn]
theorem rbCs_1 (x:Rb):rbCs [x]=rbC x:=by rw[rbCs,rbCs,List.append_nil]
theorem rbCs_drop:∀ (l:List Rb) (i:Nat),(rbCs l).drop (i*5)=rbCs (l.drop i)
 | l,0=>by simp
 | [],i+1=>by simp[rbCs]
 | x :: l,i+1=>by
  rw[rbCs,List.drop_succ_cons,← rbCs_drop l i,Nat.add_mul,Nat.one_mul,Nat.add_comm,← List.drop_drop,List.drop_append_of_le_length (by rw[bL];exact Nat.le_refl _),show (rbC x).drop 5=[] from List.drop_of_length_le (by rw[bL];exact Nat.le_refl _),List.nil_append]
theorem rbCs_take {l:List Rb} {i:Nat} {x:Rb} (h:l[i]?=some x):((rbCs l).drop (i*5)).take 5=rbC x:=by
 have hi:i<l.length:=(List.getElem?_eq_some_iff.1 h).1
 have hd:l.drop i=x :: l.drop (i+1):=by rw[List.drop_eq_getElem_cons hi];congr 1;exact (List.getElem?_eq_some_iff.1 h).2
 rw[rbCs_drop,hd,rbCs,List.take_append_of_le_length (by rw[bL];exact Nat.le_refl _),List.take_of_length_le (by rw[bL];exact Nat.le_refl _)]
theorem rbV_fold (x:Rb):Value.agg ⟨rbC x⟩=rbV x:=rfl
theorem rbV_cells (x:Rb):(rbV x).cells.toList=rbC x:=rfl
theorem rbC_take (x:Rb):(rbC x).take 5=rbC x:=List.take_of_length_le (by rw[bL];exact Nat.le_refl _)
attribute [push_cast] rbC_mk rbCs_len rbV_fold rbCs_sc rbV_sc rbR_sc rbC_sc rbC_one rbV_cells rbC_take bL
theorem nil_Ex (G:Nat×Nat) (n:Nat) (σ:jA):FzV (pp G).P n σ (.slice none 0 0) (exsV []):=.nil (size:=4) rfl (by decide)
theorem nil_Pr (G:Nat×Nat) (n:Nat) (σ:jA):FzV (pp G).P n σ (.slice none 0 0) (prsV []):=.nil (size:=8) rfl (by decide)
theorem nil_iv (G:Nat×Nat) (n:Nat) (σ:jA):FzV (pp G).P n σ (.slice none 0 0) (ivV []):=.nil (size:=1) rfl (by decide)
theorem nil_ns (G:Nat×Nat) (n:Nat) (σ:jA):FzV (pp G).P n σ (.slice none 0 0) (nsV []):=.nil (size:=1) rfl (by decide)
end
end Go.Proofs.YtgeakofgklcipaaDoor
namespace Go.Proofs.YtgeakofgklcipaaDoor
open Go Go.RowKit Go.Ev Go.Dv
noncomputable section
set_option maxRecDepth 100000
variable (G:Nat×Nat)
theorem qA {α:Type} {l:List α} {i:Nat} {x:α} (h:l[i]?=some x):l.take (i+1)=l.take i++[x]:=by
 rw[List.take_add_one,h];rfl
theorem qC {α:Type} {l:List α} {i:Nat} (h:i<l.length):∃ x,l[i]?=some x:=⟨_,List.getElem?_eq_getElem h⟩
def zex:List Value:=[.int .i64 0,.int .i64 0,.string (Tx []),.slice none 0 0]
def ztm:List Value:=[.int .i64 0,.int .i64 0,.int .i64 0,.string (Tx []),.int .i64 0,.int .i64 0,.string (Tx []),.slice none 0 0,.slice none 0 0]
mutual
def smE:Ex→Bool
 | .mk k n s l=>decide (l.length<100000000000)&&smEs l
def smEs:List Ex→Bool
 | []=>true
 | x :: l=>smE x&&smEs l
end
mutual
def smT:Tm→Bool
 | .mk k a b s e l=>decide (l.length<100000000000)&&smE e&&smTs l
def smTs:List Tm→Bool
 | []=>true
 | x :: l=>smT x&&smTs l
end
theorem smEs_all:∀ {l:List Ex},smEs l=true→∀ x∈l,smE x=true
 | [],_,x,hx=>by cases hx
 | y :: l,h,x,hx=>by
  simp only[smEs,Bool.and_eq_true] at h
  rcases List.mem_cons.1 hx with rfl|hx
  ·exact h.1
  ·exact smEs_all h.2 x hx
theorem smTs_all:∀ {l:List Tm},smTs l=true→∀ x∈l,smT x=true
 | [],_,x,hx=>by cases hx
 | y :: l,h,x,hx=>by
  simp only[smTs,Bool.and_eq_true] at h
  rcases List.mem_cons.1 hx with rfl|hx
  ·exact h.1
  ·exact smTs_all h.2 x hx
mutual
def gQ:Ex→Ex→Bool
 | .mk k n s l,.mk k' n' s' l'=>decide (k=k')&&(decide (n=n')&&(decide (s=s')&&(decide (l.length=l'.length)&&gS l l')))
def gS:List Ex→List Ex→Bool
 | x :: l,y :: m=>gQ x y&&gS l m
 | _,_=>true
end
theorem sameEs_all:∀ {l m:List Ex},gS l m=true→∀ (i:Nat) (x y:Ex),l[i]?=some x→m[i]?=some y→gQ x y=true
 | [],_,_,i,x,y,h1,_=>by simp at h1
 | _ :: _,[],_,i,x,y,_,h2=>by simp at h2
 | a :: l,b :: m,h,i,x,y,h1,h2=>by
  simp only[gS,Bool.and_eq_true] at h
  cases i with
  | zero=>simp at h1 h2;subst h1 h2;exact h.1
  | succ i=>simp at h1 h2;exact sameEs_all h.2 i x y h1 h2
theorem sameEs_of:∀ {l m:List Ex},(∀ (i:Nat) (x y:Ex),l[i]?=some x→m[i]?=some y→gQ x y=true)→gS l m=true
 | [],_,_=>by simp[gS]
 | _ :: _,[],_=>by simp[gS]
 | a :: l,b :: m,h=>by
  rw[gS,h 0 a b rfl rfl,sameEs_of fun i x y h1 h2=>h (i+1) x y (by simpa using h1) (by simpa using h2)];rfl
inductive I57 (k n:Int) (s:List UInt8) (l:List Ex) (k' n':Int) (s':List UInt8) (l':List Ex):Nat→S→Prop
 | mk (i : Nat) (iv : Int) (h : jA) {x0 x1 x4 x6 x7 x8 x9 xA xB xC xD xE xF xG xH xI xJ xK xL xM xN xO xP xQ xR xS xT xU xV xW xX xY xZ yA yB yC yD yE yF yG yH yI yJ yK yL yM yN yO yP yQ : Value} (hiv : iv = (i : Int)) (hi : i ≤ l.length) (c1 : cells h 1 = some (exC (.mk k n s l), 31, false)) (c2 : cells h 2 = some (exC (.mk k' n' s' l'), 31, false)) (hl1 : h.lo = 1) (hl2 : 3 ≤ h.next)
   (ha:∀ j,j<i→∀ x y,l[j]?=some x→l'[j]?=some y→gQ x y=true) :
  I57 k n s l k' n' s' l' (l.length-i) ⟨(F53 x0 x1 (.pointer (some ⟨1,0,none⟩)) (.pointer (some ⟨2,0,none⟩)) x4 (.int .i64 iv) x6 x7 x8 x9 xA xB xC xD xE xF xG xH xI xJ xK xL xM xN xO xP xQ xR xS xT xU xV xW xX xY xZ yA yB yC yD yE yF yG yH yI yJ yK yL yM yN yO yP yQ),[],h⟩
theorem same_e:∀ a b:Ex,smE a=true→smE b=true→jS (pp G) H0 37 [exV a,exV b] (.bool (gQ a b))
 | .mk k n s l,.mk k' n' s' l',hs,hs'=>by
  simp only[smE,Bool.and_eq_true,decide_eq_true_eq] at hs hs'
  have ih:∀ x∈l,∀ y∈l',jS (pp G) H0 37 [exV x,exV y] (.bool (gQ x y)):=fun x hx y hy=>same_e x y (smEs_all hs.2 x hx) (smEs_all hs'.2 y hy)
  have hlo:H0.lo≤H0.next:=Nat.le_refl _;refine jS.cut (jL.fir4 (q:=qq) (jW G) fir37 (by kernel_rfl) rfl rfl (F53_arr ..) (show NGG≤H0.lo by rw[uY];decide) ?_);rw[sd_ir37]
  rw[gQ]
  obtain ⟨b,hb⟩:∃ b,b=(decide (k=k')&&(decide (n=n')&&(decide (s=s')&&(decide (l.length=l'.length)&&gS l l')))):=⟨_,rfl⟩
  rw[← hb]
  by_cases h1:k=k'
  rotate_left
  ·obtain rfl:b=false:=by rw[hb];simp[h1]
   simp(disch:=first|omega|(apply id;simp only[push_cast];try omega))only[push_cast,simprocAttr,h1]
   exact .id rfl
  by_cases h2:n=n'
  rotate_left
  ·obtain rfl:b=false:=by rw[hb];simp[h2]
   simp(disch:=first|omega|(apply id;simp only[push_cast];try omega))only[push_cast,simprocAttr,h1,h2]
   exact .id rfl
  by_cases h3:s=s'
  rotate_left
  ·obtain rfl:b=false:=by rw[hb];simp[h3]
   have h3':(s == s')=false:=by simpa using h3
   simp(disch:=first|omega|(apply id;simp only[push_cast];try omega))only[push_cast,simprocAttr,h1,h2,h3']
   exact .id rfl
  by_cases h4:l.length=l'.length
  rotate_left
  ·obtain rfl:b=false:=by rw[hb];simp[h4]
   have h4':¬ (l.length:Int)=l'.length:=by omega
   simp(disch:=first|omega|(apply id;simp only[push_cast];try omega))only[push_cast,simprocAttr,h1,h2,h3,h4',beq_self_eq_true]
   exact .id rfl
  have h4':(l.length:Int)=l'.length:=by omega
  have hb':b=gS l l':=by rw[hb];simp[h1,h2,h3,h4]
  clear hb
  simp(disch:=first|omega|(apply id;simp only[push_cast];try omega))only[push_cast,simprocAttr,h1,h2,h3,h4',beq_self_eq_true]
  refine WD.loop4 (q:=qq) (jW G) (by kernel_rfl) (I57 k n s l k' n' s' l') ?_ _ _ (I57.mk 0 0 _ rfl (Nat.zero_le _) (by first|assumption|(simp(disch:=first|omega|(apply id;simp only[push_cast];try omega))only[push_cast,simprocAttr,h1,h2,h3];try omega)) (by first|assumption|(simp(disch:=first|omega|(apply id;simp only[push_cast];try omega))only[push_cast,simprocAttr,h1,h2,h3];try omega)) rfl (by first|assumption|(simp(disch:=first|omega|(apply id;simp only[push_cast];try omega))only[push_cast,simprocAttr];try omega)) (fun j hj=>by omega))
  intro m s1 hI
  cases hI with|mk i iv h hiv hi c1 c2 hl1 hl2 ha=>
  subst hiv
  rw[sd_ir37_s0]
  by_cases hil:(i:Int)<l'.length
  ·obtain ⟨x,hx⟩:=qC (l:=l) (i:=i) (by omega)
   obtain ⟨y,hy⟩:=qC (l:=l') (i:=i) (by omega)
   have hp:=exCs_take hx
   have hp':=exCs_take hy
   have hle:i*4+4≤l'.length*4:=by omega
   have hle2:i*4+4≤l.length*4:=by omega
   simp(disch:=first|omega|(apply id;simp only[push_cast];try omega))only[push_cast,simprocAttr,hil,Int.toNat_natCast,hp,hp',hle,hle2,hl1,c1,c2,h4']
   refine jC.dataI (ih x (List.mem_of_getElem? hx) y (List.mem_of_getElem? hy)) (by and_intros<;>first|rfl|(simp(disch:=first|omega|(apply id;simp only[push_cast];try omega))only[push_cast])) ?_
   cases hr:gQ x y with
   | true=>
    simp(disch:=first|omega|(apply id;simp only[push_cast];try omega))only[push_cast,simprocAttr]
    exact ⟨_,by omega,I57.mk (i+1) _ _ (by first|rfl|omega) (by omega) (by first|assumption|(simp(disch:=first|omega|(apply id;simp only[push_cast];try omega))only[push_cast,simprocAttr,c1];try omega)) (by first|assumption|(simp(disch:=first|omega|(apply id;simp only[push_cast];try omega))only[push_cast,simprocAttr,c2];try omega)) (by first|assumption|(simp(disch:=first|omega|(apply id;simp only[push_cast];try omega))only[push_cast,simprocAttr,hl1];try omega)) (by first|assumption|(simp(disch:=first|omega|(apply id;simp only[push_cast];try omega))only[push_cast,simprocAttr];try omega)) fun j hj u v hu hv=>by
     by_cases e:j=i
     ·subst e;rw[hx] at hu;rw[hy] at hv;cases hu;cases hv;exact hr
     ·exact ha j (by omega) u v hu hv⟩
   | false=>
    obtain rfl:b=false:=by
     rw[hb']
     cases hc:gS l l' with
     | false=>rfl
     | true=>rw[sameEs_all hc i x y hx hy] at hr;cases hr
    simp(disch:=first|omega|(apply id;simp only[push_cast];try omega))only[push_cast,simprocAttr]
    exact .id rfl
  ·obtain rfl : b = true := by
    rw[hb']
    exact sameEs_of fun j u v hu hv=>ha j (by have:=(List.getElem?_eq_some_iff.1 hu).1;omega) u v hu hv
   simp(disch:=first|omega|(apply id;simp only[push_cast];try omega))only[push_cast,simprocAttr,hil,c1,c2,hl1,h4']
   rw[sd_ir37_s1]
   simp(disch:=first|omega|(apply id;simp only[push_cast];try omega))only[push_cast,simprocAttr]
   exact .id rfl
 termination_by x=>SizeOf.sizeOf x
mutual
def sameT:Tm→Tm→Bool
 | .mk k a b s e l,.mk k' a' b' s' e' l'=>decide (k=k')&&(decide (a=a')&&(decide (b=b')&&(decide (s=s')&&(gQ e e'&&(decide (l.length=l'.length)&&gR l l')))))
def gR:List Tm→List Tm→Bool
 | x :: l,y :: m=>sameT x y&&gR l m
 | _,_=>true
end
theorem sameTs_all:∀ {l m:List Tm},gR l m=true→∀ (i:Nat) (x y:Tm),l[i]?=some x→m[i]?=some y→sameT x y=true
 | [],_,_,i,x,y,h1,_=>by simp at h1
 | _ :: _,[],_,i,x,y,_,h2=>by simp at h2
 | a :: l,b :: m,h,i,x,y,h1,h2=>by
  simp only[gR,Bool.and_eq_true] at h
  cases i with
  | zero=>simp at h1 h2;subst h1 h2;exact h.1
  | succ i=>simp at h1 h2;exact sameTs_all h.2 i x y h1 h2
theorem sameTs_of:∀ {l m:List Tm},(∀ (i:Nat) (x y:Tm),l[i]?=some x→m[i]?=some y→sameT x y=true)→gR l m=true
 | [],_,_=>by simp[gR]
 | _ :: _,[],_=>by simp[gR]
 | a :: l,b :: m,h=>by
  rw[gR,h 0 a b rfl rfl,sameTs_of fun i x y h1 h2=>h (i+1) x y (by simpa using h1) (by simpa using h2)];rfl
inductive I27 (t u:Tm):Nat→S→Prop
 | mk (i : Nat) (iv : Int) (h : jA) {x0 x1 x4 x6 x7 x8 x9 xA xB xC xD xE xF xG xH xI xJ xK xL xM xN xO xP xQ xR xS xT xU xV xW xX xY xZ yA yB yC yD yE yF yG yH yI yJ yK yL yM yN yO yP yQ yR yS yT yU yV yW yX yY yZ zA zB zC zD zF zG : Value} (hiv : iv = (i : Int)) (hi : i ≤ t.l.length) (c1 : cells h 1 = some (tmC t, 34, false)) (c2 : cells h 2 = some (tmC u, 34, false)) (hl1 : h.lo = 1) (hl2 : 3 ≤ h.next)
   (ha:∀ j,j<i→∀ x y,t.l[j]?=some x→u.l[j]?=some y→sameT x y=true) :
  I27 t u (t.l.length-i) ⟨(F68 x0 x1 (.pointer (some ⟨1,0,none⟩)) (.pointer (some ⟨2,0,none⟩)) x4 (.int .i64 iv) x6 x7 x8 x9 xA xB xC xD xE xF xG xH xI xJ xK xL xM xN xO xP xQ xR xS xT xU xV xW xX xY xZ yA yB yC yD yE yF yG yH yI yJ yK yL yM yN yO yP yQ yR yS yT yU yV yW yX yY yZ zA zB zC zD zF zG),[],h⟩
theorem same_t:∀ t u:Tm,smT t=true→smT u=true→jS (pp G) H0 20 [tmV t,tmV u] (.bool (sameT t u))
 | .mk k a b s e l,.mk k' a' b' s' e' l',hs,hs'=>by
  simp only[smT,Bool.and_eq_true,decide_eq_true_eq] at hs hs'
  have ih:∀ x∈l,∀ y∈l',jS (pp G) H0 20 [tmV x,tmV y] (.bool (sameT x y)):=fun x hx y hy=>same_t x y (smTs_all hs.2 x hx) (smTs_all hs'.2 y hy)
  have he:=same_e G e e' hs.1.2 hs'.1.2
  have hlo:H0.lo≤H0.next:=Nat.le_refl _;refine jS.cut (jL.fir4 (q:=qq) (jW G) fir20 (by kernel_rfl) rfl rfl (F68_arr ..) (show NGG≤H0.lo by rw[uY];decide) ?_);rw[sd_ir20]
  rw[sameT]
  obtain ⟨c,hb⟩:∃ c,c=(decide (k=k')&&(decide (a=a')&&(decide (b=b')&&(decide (s=s')&&(gQ e e'&&(decide (l.length=l'.length)&&gR l l')))))):=⟨_,rfl⟩
  rw[← hb]
  by_cases h1:k=k'
  rotate_left
  ·obtain rfl:c=false:=by rw[hb];simp[h1]
   simp(disch:=first|omega|(apply id;simp only[push_cast];try omega))only[push_cast,simprocAttr,h1]
   exact .id rfl
  by_cases h2:a=a'
  rotate_left
  ·obtain rfl:c=false:=by rw[hb];simp[h2]
   simp(disch:=first|omega|(apply id;simp only[push_cast];try omega))only[push_cast,simprocAttr,h1,h2]
   exact .id rfl
  by_cases h5:b=b'
  rotate_left
  ·obtain rfl:c=false:=by rw[hb];simp[h5]
   simp(disch:=first|omega|(apply id;simp only[push_cast];try omega))only[push_cast,simprocAttr,h1,h2,h5]
   exact .id rfl
  by_cases h3:s=s'
  rotate_left
  ·obtain rfl:c=false:=by rw[hb];simp[h3]
   have h3':(s == s')=false:=by simpa using h3
   simp(disch:=first|omega|(apply id;simp only[push_cast];try omega))only[push_cast,simprocAttr,h1,h2,h5,h3']
   exact .id rfl
  simp(disch:=first|omega|(apply id;simp only[push_cast];try omega))only[push_cast,simprocAttr,h1,h2,h5,h3,beq_self_eq_true]
  refine jC.dataI (he) (by and_intros<;>first|rfl|(simp(disch:=first|omega|(apply id;simp only[push_cast];try omega))only[push_cast])) ?_
  by_cases h6:gQ e e'=true
  rotate_left
  ·have h6:gQ e e'=false:=by simpa using h6
   obtain rfl:c=false:=by rw[hb];simp[h6]
   simp(disch:=first|omega|(apply id;simp only[push_cast];try omega))only[push_cast,simprocAttr,h6]
   exact .id rfl
  by_cases h4:l.length=l'.length
  rotate_left
  ·obtain rfl:c=false:=by rw[hb];simp[h4]
   have h4':¬ (l.length:Int)=l'.length:=by omega
   simp(disch:=first|omega|(apply id;simp only[push_cast];try omega))only[push_cast,simprocAttr,h4',h6]
   exact .id rfl
  have h4':(l.length:Int)=l'.length:=by omega
  have hb':c=gR l l':=by rw[hb];simp[h1,h2,h3,h4,h5,h6]
  clear hb
  simp(disch:=first|omega|(apply id;simp only[push_cast];try omega))only[push_cast,simprocAttr,h4',h6]
  refine WD.loop4 (q:=qq) (jW G) (by kernel_rfl) (I27 (.mk k a b s e l) (.mk k' a' b' s' e' l')) ?_ _ _ (I27.mk 0 0 _ rfl (Nat.zero_le _) (by first|assumption|(simp(disch:=first|omega|(apply id;simp only[push_cast];try omega))only[push_cast,simprocAttr,h1,h2,h3,h5];try omega)) (by first|assumption|(simp(disch:=first|omega|(apply id;simp only[push_cast];try omega))only[push_cast,simprocAttr,h1,h2,h3,h5];try omega)) rfl (by first|assumption|(simp(disch:=first|omega|(apply id;simp only[push_cast];try omega))only[push_cast,simprocAttr];try omega)) (fun j hj=>by omega))
  intro m s1 hI
  cases hI with|mk i iv h hiv hi c1 c2 hl1 hl2 ha=>
  subst hiv
  rw[sd_ir20_s0]
  simp only[Tm.l_mk] at ha hi
  by_cases hil:(i:Int)<l'.length
  ·obtain ⟨x,hx⟩:=qC (l:=l) (i:=i) (by omega)
   obtain ⟨y,hy⟩:=qC (l:=l') (i:=i) (by omega)
   have hp:=tmCs_take hx
   have hp':=tmCs_take hy
   have hle:i*9+9≤l'.length*9:=by omega
   have hle2:i*9+9≤l.length*9:=by omega
   simp(disch:=first|omega|(apply id;simp only[push_cast];try omega))only[push_cast,simprocAttr,hil,Int.toNat_natCast,hp,hp',hle,hle2,hl1,c1,c2,h4']
   refine jC.dataI (ih x (List.mem_of_getElem? hx) y (List.mem_of_getElem? hy)) (by and_intros<;>first|rfl|(simp(disch:=first|omega|(apply id;simp only[push_cast];try omega))only[push_cast])) ?_
   cases hr:sameT x y with
   | true=>
    simp(disch:=first|omega|(apply id;simp only[push_cast];try omega))only[push_cast,simprocAttr]
    exact ⟨_,by simp only[Tm.l_mk];omega,I27.mk (i+1) _ _ (by first|rfl|omega) (by simp only[Tm.l_mk];omega) (by first|assumption|(simp(disch:=first|omega|(apply id;simp only[push_cast];try omega))only[push_cast,simprocAttr,c1];try omega)) (by first|assumption|(simp(disch:=first|omega|(apply id;simp only[push_cast];try omega))only[push_cast,simprocAttr,c2];try omega)) (by first|assumption|(simp(disch:=first|omega|(apply id;simp only[push_cast];try omega))only[push_cast,simprocAttr,hl1];try omega)) (by first|assumption|(simp(disch:=first|omega|(apply id;simp only[push_cast];try omega))only[push_cast,simprocAttr];try omega)) fun j hj u v hu hv=>by
     by_cases e:j=i
     ·subst e;rw[Tm.l_mk,hx] at hu;rw[Tm.l_mk,hy] at hv;cases hu;cases hv;exact hr
     ·exact ha j (by omega) u v hu hv⟩
   | false=>
    obtain rfl:c=false:=by
     rw[hb']
     cases hc:gR l l' with
     | false=>rfl
     | true=>rw[sameTs_all hc i x y hx hy] at hr;cases hr
    simp(disch:=first|omega|(apply id;simp only[push_cast];try omega))only[push_cast,simprocAttr]
    exact .id rfl
  ·obtain rfl : c = true := by
    rw[hb']
    exact sameTs_of fun j u v hu hv=>ha j (by have:=(List.getElem?_eq_some_iff.1 hu).1;omega) u v hu hv
   simp(disch:=first|omega|(apply id;simp only[push_cast];try omega))only[push_cast,simprocAttr,hil,c1,c2,hl1,h4']
   rw[sd_ir20_s1]
   simp(disch:=first|omega|(apply id;simp only[push_cast];try omega))only[push_cast,simprocAttr]
   exact .id rfl
 termination_by x=>SizeOf.sizeOf x
mutual
def kP:Tm→Int
 | .mk _ _ _ _ _ l=>1+qZ l
def qZ:List Tm→Int
 | []=>0
 | x :: l=>kP x+qZ l
end
end
end Go.Proofs.YtgeakofgklcipaaDoor
namespace Go.Proofs.YtgeakofgklcipaaDoor
open Go Go.RowKit Go.Ev Go.Dv
noncomputable section
set_option maxRecDepth 100000
def zE:Ex:=.mk 0 0 [] []
def zT:Tm:=.mk 0 0 0 [] zE []
theorem qL.lt {σ:jA} {e n:Nat} {a:Option Addr} {len c:Nat} {cs:List Value} (ho:qL σ e n a len c cs) {b:Nat} (hb:blk a b):σ.lo≤b∧b<σ.next:=by
 obtain ⟨o,s,rfl⟩:=hb
 rcases ho.hat with ⟨e,_⟩|⟨q,_,e,h1,h2,_⟩
 ·cases e
 ·cases e;exact ⟨h1,h2⟩
theorem rowT1 (t:Tm) (σ:jA):bsD (qq.m 32) (slT Tryd.prog 32) 1 [(0,tmV t)] σ=some (Rw true 34 1 (qR [t]),σ):=by
 rw[tmCs_1];cases t;kernel_rfl
theorem qL.flt {σ:jA} {e n:Nat} {a:Option Addr} {len c:Nat} {cs:List Value} (ho:qL σ e n a len c cs) {p:Nat→Bool} (hp:∀ b,blk a b→p b=true):qL (hflt p σ) e n a len c cs:=by
 refine ⟨ho.hlen,ho.hone,?_⟩
 rcases ho.hat with h0|⟨b,m,ha,h1,h2,h3,h4⟩
 ·exact .inl h0
 ·exact .inr ⟨b,m,ha,h1,h2,(hflt_cells σ (hp b ⟨0,none,ha⟩)).trans h3,h4⟩
end
end Go.Proofs.YtgeakofgklcipaaDoor
