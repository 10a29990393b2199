/-
  A part of the proof: what the program's functions hand back,as theorems. No condition but those that each theorem names.
-/
import Derived.Test.YtgeakofgklcipaaDoorExa
import Derived.Test.YtgeakofgklcipaaDoorEve
import Derived.Test.YtgeakofgklcipaaDoorExb
set_option linter.unusedSimpArgs false
set_option linter.unusedVariables false
namespace Go.Proofs.YtgeakofgklcipaaDoor
open Go Go.RowKit Go.Ev Go.Dv
noncomputable section
attribute [local push_cast] eq_self iff_self
theorem tH {p:Prop} (h:p:=by first|assumption|(push_cast(disch:=first|omega|(apply id;push_cast;try omega));try omega)):p:=h
theorem dK {p:Par} {H:jA} {f:FuncId} {args:List Value} {σ:jA} {d:Value} {K:Bool→Value→jA→Prop} (hc:jI p H f args d) (hK:K true d σ) (h:scL H.next args=true∧scL σ.lo args=true∧sc σ.lo d=true:=by and_intros<;>first|rfl|(push_cast(disch:=first|omega|(apply id;push_cast;try omega)))):jB p H (.func (.func f) ⟨[]⟩ ⟨[]⟩) args σ K:=jB.dataI hc h hK
theorem dL {p:Par} {H:jA} {f:FuncId} {args:List Value} {σ:jA} {D:Value→Prop} {K:Bool→Value→jA→Prop} (hc:gA p H f args D) (hK:∀ d,D d→sc σ.lo d=true∧K true d σ) (h:scL H.next args=true∧scL σ.lo args=true:=by and_intros<;>first|rfl|(push_cast(disch:=first|omega|(apply id;push_cast;try omega)))):jB p H (.func (.func f) ⟨[]⟩ ⟨[]⟩) args σ K:=jB.dataEI hc h hK
theorem cE (G:Nat×Nat) {f:FuncId} {fi:FIR} (hf:Ev.fir (pp G).P f=some fi) (hok:irOk (pp G).NG fi.ir=true) {args:List Value} {d:Value} {T:VT} (hT:T.arr=⟨args++List.replicate (fi.n-args.length) undef⟩)
  (hv:H0.lo≤H0.next→dc3 (pp G) qq none fi.ir ⟨T,[],H0⟩ (jC (pp G).P fi.rs fun v σ'=>FzV (pp G).P H0.next σ' v d)) (hn:Nat.ble args.length fi.n=true:=by rfl) (hU:Nat.ble fi.n 100000=true:=by rfl):jI (pp G) H0 f args d:=
 jI.cut (jX.fir4 (q:=qq) (qB G) hf hok hn hU hT (show NGG≤H0.lo by rw[mY1];decide) (hv (Nat.le_refl _)))
theorem cY (G:Nat×Nat) {f:FuncId} {fi:FIR} (hf:Ev.fir (pp G).P f=some fi) (hok:irOk (pp G).NG fi.ir=true) {args:List Value} {D:Value→Prop} {T:VT} (hT:T.arr=⟨args++List.replicate (fi.n-args.length) undef⟩)
  (hv:H0.lo≤H0.next→dc3 (pp G) qq none fi.ir ⟨T,[],H0⟩ (jC (pp G).P fi.rs fun v σ'=>∃ d,D d∧FzV (pp G).P H0.next σ' v d)) (hn:Nat.ble args.length fi.n=true:=by rfl) (hU:Nat.ble fi.n 100000=true:=by rfl):gA (pp G) H0 f args D:=
 gA.cut (jX.fir4 (q:=qq) (qB G) hf hok hn hU hT (show NGG≤H0.lo by rw[mY1];decide) (hv (Nat.le_refl _)))
end
end Go.Proofs.YtgeakofgklcipaaDoor
namespace Go.Proofs.YtgeakofgklcipaaDoor
open Go Go.RowKit Go.Ev Go.Dv
noncomputable section
attribute [local push_cast] eq_self iff_self
set_option maxRecDepth 100000
def W (a:Int):Int:=IntKind.i64.wrap a
def In (a:Int):Prop:=-9223372036854775808≤a∧a≤9223372036854775807
theorem W_in {a:Int} (h:In a):W a=a:=by
 unfold In at h
 unfold W;rw[IntKind.wrap_i64];omega
theorem H0p:0<H0.lo:=by rw[mY1];omega
theorem H0q:0<H0.next:=by rw[bI];omega
abbrev eI:Nat:=3
def ivs (l:List Int):List Value:=l.map (Value.int .i64)
def ivV (l:List Int):Value:=Rw false eI l.length (ivs l)
theorem oS0 (l:List Int):(ivs l).length=l.length:=by simp[ivs]
theorem bG0 (n:Nat):∀ l:List Int,scL n (ivs l)=true
 | []=>rfl
 | x :: l=>by
  have:=bG0 n l
  simp only[ivs] at this
  simp[ivs,scL,sc,this]
theorem wF2 (n:Nat) (hn:0<n) (k:Nat) (f:Bool) (l:List Int):sc n (Rw f eI k (ivs l))=true:=by
 have:=bG0 n l
 simp[sc,Rw,scL,this,hn]
theorem wE2 (n:Nat) (hn:0<n) (l:List Int):sc n (ivV l)=true:=wF2 n hn ..
theorem oR0:∀ l:List Int,(ivs l).all one=true
 | []=>rfl
 | x :: l=>by
  have:=oR0 l
  simp only[ivs] at this
  simp[ivs,one]
theorem fR0 {l:List Int} {i:Nat} (h:i<l.length):(ivs l)[i]?=some (.int .i64 (l.getD i 0)):=by simp[ivs,h]
theorem oT0 (a b:List Int):ivs (a++b)=ivs a++ivs b:=by simp[ivs]
abbrev eS:Nat:=9
def nss (l:List (List UInt8)):List Value:=l.map fun s=>Value.string (Tx s)
def nsV (l:List (List UInt8)):Value:=Rw false eS l.length (nss l)
theorem bW2 (l:List (List UInt8)):(nss l).length=l.length:=by simp[nss]
theorem zG0 (n:Nat):∀ l:List (List UInt8),scL n (nss l)=true
 | []=>rfl
 | x :: l=>by
  have:=zG0 n l
  simp only[nss] at this
  simp[nss,scL,sc,this]
theorem dV0 (n:Nat) (hn:0<n) (k:Nat) (f:Bool) (l:List (List UInt8)):sc n (Rw f eS k (nss l))=true:=by
 have:=zG0 n l
 simp[sc,Rw,scL,this,hn]
theorem lZ0 (n:Nat) (hn:0<n) (l:List (List UInt8)):sc n (nsV l)=true:=dV0 n hn ..
theorem qB0 {l:List (List UInt8)} {i:Nat} (h:i<l.length):(nss l)[i]?=some (.string (Tx (l.getD i []))):=by simp[nss,h]
theorem cT1 (a b:List (List UInt8)):nss (a++b)=nss a++nss b:=by simp[nss]
abbrev eB:Nat:=4
def bvs (l:List Bool):List Value:=l.map Value.bool
def bvV (l:List Bool):Value:=Rw false eB l.length (bvs l)
theorem jQ0 (l:List Bool):(bvs l).length=l.length:=by simp[bvs]
theorem yG0 (n:Nat):∀ l:List Bool,scL n (bvs l)=true
 | []=>rfl
 | x :: l=>by
  have:=yG0 n l
  simp only[bvs] at this
  simp[bvs,scL,sc,this]
theorem wQ2 (n:Nat) (hn:0<n) (k:Nat) (f:Bool) (l:List Bool):sc n (Rw f eB k (bvs l))=true:=by
 have:=yG0 n l
 simp[sc,Rw,scL,this,hn]
theorem rD0:∀ l:List Bool,(bvs l).all one=true
 | []=>rfl
 | x :: l=>by
  have:=rD0 l
  simp only[bvs] at this
  simp[bvs,one]
theorem uI0 {l:List Bool} {i:Nat} (h:i<l.length):(bvs l)[i]?=some (.bool (l.getD i false)):=by simp[bvs,h]
@[push_cast]theorem sc_nil (n a b:Nat):sc n (.slice none a b)=true:=rfl
theorem lA2 (n:Nat) (l:List Value):sc n (.agg ⟨l⟩)=scL n l:=rfl
theorem iZ2 (n:Nat) (k:IntKind) (i:Int):sc n (.int k i)=true:=rfl
theorem iX2 (n:Nat) (s:ByteArray):sc n (.string s)=true:=rfl
attribute [push_cast] lA2 iZ2 iX2
@[push_cast]theorem sc_fn (n f:Nat):sc n (.func (.func f) #[] #[])=true:=rfl
attribute [push_cast] oS0 bG0 wF2 wE2 oR0 bW2 zG0 dV0 lZ0 jQ0 yG0 wQ2 rD0 pI2 pK2 Int.toNat_zero Int.toNat_one Int.natCast_one mY1 bI
def jN (a n:Int):Int:=if a.tmod n<0 then a.tmod n+n else a.tmod n
theorem qC {a n:Int} (hn:0<n):0≤jN a n∧jN a n<n:=by
 have h1:(a.tmod n).natAbs=a.natAbs % n.natAbs:=Int.natAbs_tmod a n
 have h2:a.natAbs % n.natAbs<n.natAbs:=Nat.mod_lt _ (by omega)
 unfold jN
 split<;>omega
inductive Ex where
 | mk (k:Int) (n:Int) (s:List UInt8) (l:List Ex)
abbrev eE:Nat:=31
mutual
def exC:Ex→List Value
 | .mk k n s l=>[.int .i64 k,.int .i64 n,.string (Tx s),Rw false eE l.length (kF l)]
def kF:List Ex→List Value
 | []=>[]
 | x :: l=>exC x++kF l
end
def exV (x:Ex):Value:=.agg ⟨exC x⟩
def exsV (l:List Ex):Value:=Rw false eE l.length (kF l)
theorem oN2 (k:Int) (n:Int) (s:List UInt8) (l:List Ex):exC (.mk k n s l)=[.int .i64 k,.int .i64 n,.string (Tx s),Rw false eE l.length (kF l)]:=rfl
theorem wK0 (x:Ex):(exC x).length=4:=by cases x;simp[exC]
theorem zM0:∀ l:List Ex,(kF l).length=l.length*4
 | []=>rfl
 | x :: l=>by rw[kF,List.length_append,wK0,zM0 l,List.length_cons];omega
theorem lF1:∀ x:Ex,(exC x).all one=true
 | .mk k n s l=>by simp[exC,one,Rw]
theorem iH0:∀ l:List Ex,(kF l).all one=true
 | []=>rfl
 | x :: l=>by rw[kF,List.all_append,lF1 x,iH0 l];rfl
mutual
theorem lE1 (nn:Nat) (hn:0<nn):∀ x:Ex,scL nn (exC x)=true
 | .mk k n s l=>by
  have:=jP0 nn hn l
  simp[exC,scL,Ev.sc,Rw,hn, *]
theorem jP0 (nn:Nat) (hn:0<nn):∀ l:List Ex,scL nn (kF l)=true
 | []=>rfl
 | x :: l=>by
  rw[kF]
  exact qA fun v hv=>(List.mem_append.1 hv).elim (jV (lE1 nn hn x) v) (jV (jP0 nn hn l) v)
end
theorem mU0 (n:Nat) (hn:0<n) (x:Ex):Ev.sc n (exV x)=true:=lE1 n hn x
theorem bP0 (n:Nat) (hn:0<n) (k:Nat) (f:Bool) (l:List Ex):Ev.sc n (Rw f eE k (kF l))=true:=by
 have:=jP0 n hn l
 simp[Ev.sc,Rw,scL,this,hn]
theorem dP2 (n:Nat) (hn:0<n) (l:List Ex):Ev.sc n (exsV l)=true:=bP0 n hn ..
theorem iI0:∀ (a b:List Ex),kF (a++b)=kF a++kF b
 | [],b=>rfl
 | x :: a,b=>by rw[List.cons_append,kF,iI0 a b,kF,List.append_assoc]
theorem wK2 (x:Ex):kF [x]=exC x:=by rw[kF,kF,List.append_nil]
theorem mV0:∀ (l:List Ex) (i:Nat),(kF l).drop (i*4)=kF (l.drop i)
 | l,0=>by simp
 | [],i+1=>by simp[kF]
 | x :: l,i+1=>by
  rw[kF,List.drop_succ_cons,← mV0 l i,Nat.add_mul,Nat.one_mul,Nat.add_comm,← List.drop_drop,List.drop_append_of_le_length (by rw[wK0];exact Nat.le_refl _),show (exC x).drop 4=[] from List.drop_of_length_le (by rw[wK0];exact Nat.le_refl _),List.nil_append]
theorem cN {l:List Ex} {i:Nat} {x:Ex} (h:l[i]?=some x):((kF l).drop (i*4)).take 4=exC x:=by
 have hi:i<l.length:=(List.getElem?_eq_some_iff.1 h).1
 have hd:l.drop i=x :: l.drop (i+1):=by rw[List.drop_eq_getElem_cons hi];congr 1;exact (List.getElem?_eq_some_iff.1 h).2
 rw[mV0,hd,kF,List.take_append_of_le_length (by rw[wK0];exact Nat.le_refl _),List.take_of_length_le (by rw[wK0];exact Nat.le_refl _)]
theorem sE1 (x:Ex):Value.agg ⟨exC x⟩=exV x:=rfl
theorem lD1 (x:Ex):(exV x).cells.toList=exC x:=rfl
theorem sF1 (x:Ex):(exC x).take 4=exC x:=List.take_of_length_le (by rw[wK0];exact Nat.le_refl _)
attribute [push_cast] oN2 zM0 sE1 jP0 mU0 dP2 bP0 lE1 iH0 lF1 lD1 sF1 wK0
def Ex.k:Ex→Int | .mk k _ _ _=>k
def Ex.n:Ex→Int | .mk _ n _ _=>n
def Ex.s:Ex→List UInt8 | .mk _ _ s _=>s
def Ex.l:Ex→List Ex | .mk _ _ _ l=>l
theorem Ex.k_mk (k n:Int) (s:List UInt8) (l:List Ex):Ex.k (.mk k n s l)=k:=rfl
theorem Ex.n_mk (k n:Int) (s:List UInt8) (l:List Ex):Ex.n (.mk k n s l)=n:=rfl
theorem Ex.s_mk (k n:Int) (s:List UInt8) (l:List Ex):Ex.s (.mk k n s l)=s:=rfl
theorem Ex.l_mk (k n:Int) (s:List UInt8) (l:List Ex):Ex.l (.mk k n s l)=l:=rfl
theorem tN0 (x:Ex):exC x=[.int .i64 x.k,.int .i64 x.n,.string (Tx x.s),Rw false eE x.l.length (kF x.l)]:=by cases x;rfl
theorem oM2 (x:Ex):Value.agg ⟨[.int .i64 x.k,.int .i64 x.n,.string (Tx x.s),Rw false eE x.l.length (kF x.l)]⟩=exV x:=by cases x;rfl
attribute [push_cast] Ex.k_mk Ex.n_mk Ex.s_mk Ex.l_mk oM2
inductive Tm where
 | mk (k:Int) (a:Int) (b:Int) (s:List UInt8) (e:Ex) (l:List Tm)
abbrev etm:Nat:=34
mutual
def tmC:Tm→List Value
 | .mk k a b s e l=>[.int .i64 k,.int .i64 a,.int .i64 b,.string (Tx s),.int .i64 e.k,.int .i64 e.n,.string (Tx e.s),Rw false eE e.l.length (kF e.l),Rw false etm l.length (qK l)]
def qK:List Tm→List Value
 | []=>[]
 | x :: l=>tmC x++qK l
end
def tmV (x:Tm):Value:=.agg ⟨tmC x⟩
def tmsV (l:List Tm):Value:=Rw false etm l.length (qK l)
theorem qH0 (k:Int) (a:Int) (b:Int) (s:List UInt8) (e:Ex) (l:List Tm):tmC (.mk k a b s e l)=[.int .i64 k,.int .i64 a,.int .i64 b,.string (Tx s),.int .i64 e.k,.int .i64 e.n,.string (Tx e.s),Rw false eE e.l.length (kF e.l),Rw false etm l.length (qK l)]:=rfl
theorem jO0 (x:Tm):(tmC x).length=9:=by cases x;simp[tmC]
theorem bB:∀ l:List Tm,(qK l).length=l.length*9
 | []=>rfl
 | x :: l=>by rw[qK,List.length_append,jO0,bB l,List.length_cons];omega
theorem gO1:∀ x:Tm,(tmC x).all one=true
 | .mk k a b s e l=>by simp[tmC,one,Rw]
theorem jK0:∀ l:List Tm,(qK l).all one=true
 | []=>rfl
 | x :: l=>by rw[qK,List.all_append,gO1 x,jK0 l];rfl
mutual
theorem gN1 (nn:Nat) (hn:0<nn):∀ x:Tm,scL nn (tmC x)=true
 | .mk k a b s e l=>by
  have:=gB nn hn l
  simp[tmC,scL,Ev.sc,Rw,hn,jP0, *]
theorem gB (nn:Nat) (hn:0<nn):∀ l:List Tm,scL nn (qK l)=true
 | []=>rfl
 | x :: l=>by
  rw[qK]
  exact qA fun v hv=>(List.mem_append.1 hv).elim (jV (gN1 nn hn x) v) (jV (gB nn hn l) v)
end
theorem kV (n:Nat) (hn:0<n) (x:Tm):Ev.sc n (tmV x)=true:=gN1 n hn x
theorem uO2 (n:Nat) (hn:0<n) (k:Nat) (f:Bool) (l:List Tm):Ev.sc n (Rw f etm k (qK l))=true:=by
 have:=gB n hn l
 simp[Ev.sc,Rw,scL,this,hn]
theorem gJ1 (n:Nat) (hn:0<n) (l:List Tm):Ev.sc n (tmsV l)=true:=uO2 n hn ..
theorem jL0:∀ (a b:List Tm),qK (a++b)=qK a++qK b
 | [],b=>rfl
 | x :: a,b=>by rw[List.cons_append,qK,jL0 a b,qK,List.append_assoc]
theorem gM1 (x:Tm):qK [x]=tmC x:=by rw[qK,qK,List.append_nil]
theorem gH0:∀ (l:List Tm) (i:Nat),(qK l).drop (i*9)=qK (l.drop i)
 | l,0=>by simp
 | [],i+1=>by simp[qK]
 | x :: l,i+1=>by
  rw[qK,List.drop_succ_cons,← gH0 l i,Nat.add_mul,Nat.one_mul,Nat.add_comm,← List.drop_drop,List.drop_append_of_le_length (by rw[jO0];exact Nat.le_refl _),show (tmC x).drop 9=[] from List.drop_of_length_le (by rw[jO0];exact Nat.le_refl _),List.nil_append]
theorem zW0:∀ (l:List Tm) (i:Nat),(qK l).take (i*9)=qK (l.take i)
 | l,0=>by simp[qK]
 | [],i+1=>by simp[qK]
 | x :: l,i+1=>by
  rw[qK,List.take_succ_cons,qK,← zW0 l i,Nat.add_mul,Nat.one_mul,Nat.add_comm,List.take_append,jO0,List.take_of_length_le (by rw[jO0];omega),Nat.add_sub_cancel_left]
theorem qW {l:List Tm} {i:Nat} {x:Tm} (h:l[i]?=some x):((qK l).drop (i*9)).take 9=tmC x:=by
 have hi:i<l.length:=(List.getElem?_eq_some_iff.1 h).1
 have hd:l.drop i=x :: l.drop (i+1):=by rw[List.drop_eq_getElem_cons hi];congr 1;exact (List.getElem?_eq_some_iff.1 h).2
 rw[gH0,hd,qK,List.take_append_of_le_length (by rw[jO0];exact Nat.le_refl _),List.take_of_length_le (by rw[jO0];exact Nat.le_refl _)]
theorem oG1 {l:List Tm} {i:Nat} (y:Tm) (h:i<l.length):(qK l).take (i*9)++tmC y++(qK l).drop (i*9+9)=qK (l.set i y):=by
 rw[zW0,show i*9+9=(i+1)*9 by omega,gH0,List.set_eq_take_append_cons_drop,if_pos h,jL0,qK,List.append_assoc]
theorem oF1 (x:Tm):Value.agg ⟨tmC x⟩=tmV x:=rfl
theorem gK1 (x:Tm):(tmV x).cells.toList=tmC x:=rfl
theorem oH1 (x:Tm):(tmC x).take 9=tmC x:=List.take_of_length_le (by rw[jO0];exact Nat.le_refl _)
theorem zP2 (x:Tm) (l:List Tm):(qK (x :: l)).take 9=tmC x:=qW (l:=x :: l) (i:=0) rfl
theorem zO2 (x y:Tm) (l:List Tm):((qK (x :: y :: l)).drop 9).take 9=tmC y:=qW (l:=x :: y :: l) (i:=1) rfl
attribute [push_cast] qH0 bB oF1 gB kV gJ1 uO2 gN1 jK0 gO1 gK1 oH1 jO0 zP2 zO2
def Tm.k:Tm→Int | .mk k _ _ _ _ _=>k
def Tm.a:Tm→Int | .mk _ a _ _ _ _=>a
def Tm.b:Tm→Int | .mk _ _ b _ _ _=>b
def Tm.s:Tm→List UInt8 | .mk _ _ _ s _ _=>s
def Tm.e:Tm→Ex | .mk _ _ _ _ e _=>e
def Tm.l:Tm→List Tm | .mk _ _ _ _ _ l=>l
theorem Tm.k_mk (k a b:Int) (s:List UInt8) (e:Ex) (l:List Tm):Tm.k (.mk k a b s e l)=k:=rfl
theorem Tm.l_mk (k a b:Int) (s:List UInt8) (e:Ex) (l:List Tm):Tm.l (.mk k a b s e l)=l:=rfl
inductive Pr where
 | mk (k:Int) (n:List UInt8) (t:List UInt8) (e:Ex) (l:List Pr)
abbrev epr:Nat:=61
mutual
def prC:Pr→List Value
 | .mk k n t e l=>[.int .i64 k,.string (Tx n),.string (Tx t),.int .i64 e.k,.int .i64 e.n,.string (Tx e.s),Rw false eE e.l.length (kF e.l),Rw false epr l.length (prCs l)]
def prCs:List Pr→List Value
 | []=>[]
 | x :: l=>prC x++prCs l
end
def prV (x:Pr):Value:=.agg ⟨prC x⟩
def prsV (l:List Pr):Value:=Rw false epr l.length (prCs l)
theorem lW2 (k:Int) (n:List UInt8) (t:List UInt8) (e:Ex) (l:List Pr):prC (.mk k n t e l)=[.int .i64 k,.string (Tx n),.string (Tx t),.int .i64 e.k,.int .i64 e.n,.string (Tx e.s),Rw false eE e.l.length (kF e.l),Rw false epr l.length (prCs l)]:=rfl
theorem bT (x:Pr):(prC x).length=8:=by cases x;simp[prC]
theorem sS0:∀ l:List Pr,(prCs l).length=l.length*8
 | []=>rfl
 | x :: l=>by rw[prCs,List.length_append,bT,sS0 l,List.length_cons];omega
theorem bJ2:∀ x:Pr,(prC x).all one=true
 | .mk k n t e l=>by simp[prC,one,Rw]
mutual
theorem lW0 (nn:Nat) (hn:0<nn):∀ x:Pr,scL nn (prC x)=true
 | .mk k n t e l=>by
  have:=fK0 nn hn l
  simp[prC,scL,Ev.sc,Rw,hn,jP0, *]
theorem fK0 (nn:Nat) (hn:0<nn):∀ l:List Pr,scL nn (prCs l)=true
 | []=>rfl
 | x :: l=>by
  rw[prCs]
  exact qA fun v hv=>(List.mem_append.1 hv).elim (jV (lW0 nn hn x) v) (jV (fK0 nn hn l) v)
end
theorem cK1 (n:Nat) (hn:0<n) (x:Pr):Ev.sc n (prV x)=true:=lW0 n hn x
theorem lV2 (x:Pr):prCs [x]=prC x:=by rw[prCs,prCs,List.append_nil]
theorem lV0:∀ (l:List Pr) (i:Nat),(prCs l).drop (i*8)=prCs (l.drop i)
 | l,0=>by simp
 | [],i+1=>by simp[prCs]
 | x :: l,i+1=>by
  rw[prCs,List.drop_succ_cons,← lV0 l i,Nat.add_mul,Nat.one_mul,Nat.add_comm,← List.drop_drop,List.drop_append_of_le_length (by rw[bT];exact Nat.le_refl _),show (prC x).drop 8=[] from List.drop_of_length_le (by rw[bT];exact Nat.le_refl _),List.nil_append]
theorem qX0 {l:List Pr} {i:Nat} {x:Pr} (h:l[i]?=some x):((prCs l).drop (i*8)).take 8=prC x:=by
 have hi:i<l.length:=(List.getElem?_eq_some_iff.1 h).1
 have hd:l.drop i=x :: l.drop (i+1):=by rw[List.drop_eq_getElem_cons hi];congr 1;exact (List.getElem?_eq_some_iff.1 h).2
 rw[lV0,hd,prCs,List.take_append_of_le_length (by rw[bT];exact Nat.le_refl _),List.take_of_length_le (by rw[bT];exact Nat.le_refl _)]
theorem pE1 (x:Pr):Value.agg ⟨prC x⟩=prV x:=rfl
theorem cL1 (x:Pr):(prV x).cells.toList=prC x:=rfl
theorem pF1 (x:Pr):(prC x).take 8=prC x:=List.take_of_length_le (by rw[bT];exact Nat.le_refl _)
theorem bI2 (x:Pr) (l:List Pr):(prCs (x :: l)).take 8=prC x:=qX0 (l:=x :: l) (i:=0) rfl
theorem bH2 (x y:Pr) (l:List Pr):((prCs (x :: y :: l)).drop 8).take 8=prC y:=qX0 (l:=x :: y :: l) (i:=1) rfl
attribute [push_cast] lW2 sS0 pE1 fK0 cK1 lW0 bJ2 cL1 pF1 bT bI2 bH2
inductive Ra where
 | mk (k:Int) (n:Int) (l:List Ra)
abbrev era:Nat:=120
mutual
def raC:Ra→List Value
 | .mk k n l=>[.int .i64 k,.int .i64 n,Rw false era l.length (raCs l)]
def raCs:List Ra→List Value
 | []=>[]
 | x :: l=>raC x++raCs l
end
def raV (x:Ra):Value:=.agg ⟨raC x⟩
def rasV (l:List Ra):Value:=Rw false era l.length (raCs l)
theorem lP2 (k:Int) (n:Int) (l:List Ra):raC (.mk k n l)=[.int .i64 k,.int .i64 n,Rw false era l.length (raCs l)]:=rfl
theorem kF0 (x:Ra):(raC x).length=3:=by cases x;simp[raC]
theorem sQ0:∀ l:List Ra,(raCs l).length=l.length*3
 | []=>rfl
 | x :: l=>by rw[raCs,List.length_append,kF0,sQ0 l,List.length_cons];omega
theorem gY2:∀ x:Ra,(raC x).all one=true
 | .mk k n l=>by simp[raC,one,Rw]
mutual
theorem cH1 (nn:Nat) (hn:0<nn):∀ x:Ra,scL nn (raC x)=true
 | .mk k n l=>by
  have:=gV0 nn hn l
  simp[raC,scL,Ev.sc,Rw,hn, *]
theorem gV0 (nn:Nat) (hn:0<nn):∀ l:List Ra,scL nn (raCs l)=true
 | []=>rfl
 | x :: l=>by
  rw[raCs]
  exact qA fun v hv=>(List.mem_append.1 hv).elim (jV (cH1 nn hn x) v) (jV (gV0 nn hn l) v)
end
theorem lO2 (n:Nat) (hn:0<n) (x:Ra):Ev.sc n (raV x)=true:=cH1 n hn x
theorem uZ2 (n:Nat) (hn:0<n) (k:Nat) (f:Bool) (l:List Ra):Ev.sc n (Rw f era k (raCs l))=true:=by
 have:=gV0 n hn l
 simp[Ev.sc,Rw,scL,this,hn]
theorem gX2 (n:Nat) (hn:0<n) (l:List Ra):Ev.sc n (rasV l)=true:=uZ2 n hn ..
theorem lU0:∀ (l:List Ra) (i:Nat),(raCs l).drop (i*3)=raCs (l.drop i)
 | l,0=>by simp
 | [],i+1=>by simp[raCs]
 | x :: l,i+1=>by
  rw[raCs,List.drop_succ_cons,← lU0 l i,Nat.add_mul,Nat.one_mul,Nat.add_comm,← List.drop_drop,List.drop_append_of_le_length (by rw[kF0];exact Nat.le_refl _),show (raC x).drop 3=[] from List.drop_of_length_le (by rw[kF0];exact Nat.le_refl _),List.nil_append]
theorem gU0 {l:List Ra} {i:Nat} {x:Ra} (h:l[i]?=some x):((raCs l).drop (i*3)).take 3=raC x:=by
 have hi:i<l.length:=(List.getElem?_eq_some_iff.1 h).1
 have hd:l.drop i=x :: l.drop (i+1):=by rw[List.drop_eq_getElem_cons hi];congr 1;exact (List.getElem?_eq_some_iff.1 h).2
 rw[lU0,hd,raCs,List.take_append_of_le_length (by rw[kF0];exact Nat.le_refl _),List.take_of_length_le (by rw[kF0];exact Nat.le_refl _)]
theorem pC1 {l:List Ra} {i j:Nat} {x:Ra} {v:Value} (h:l[i]?=some x) (hj:j<3) (hv:(raC x)[j]?=some v):(raCs l)[i*3+j]?=some v:=by
 have h1:=gU0 h
 rw[← h1,List.getElem?_take_of_lt hj,List.getElem?_drop] at hv
 exact hv
theorem pB1 (x:Ra):Value.agg ⟨raC x⟩=raV x:=rfl
theorem cG1 (x:Ra):(raV x).cells.toList=raC x:=rfl
attribute [push_cast] lP2 sQ0 pB1 gV0 lO2 gX2 uZ2 cH1 gY2 cG1 kF0
inductive Rb where
 | mk (k:Int) (a:Int) (b:Int) (e:List Ra) (l:List Rb)
abbrev erb:Nat:=25
mutual
def rbC:Rb→List Value
 | .mk k a b e l=>[.int .i64 k,.int .i64 a,.int .i64 b,Rw false era e.length (raCs e),Rw false erb l.length (rbCs l)]
def rbCs:List Rb→List Value
 | []=>[]
 | x :: l=>rbC x++rbCs l
end
def rbV (x:Rb):Value:=.agg ⟨rbC x⟩
def rbsV (l:List Rb):Value:=Rw false erb l.length (rbCs l)
theorem lN2 (k:Int) (a:Int) (b:Int) (e:List Ra) (l:List Rb):rbC (.mk k a b e l)=[.int .i64 k,.int .i64 a,.int .i64 b,Rw false era e.length (raCs e),Rw false erb l.length (rbCs l)]:=rfl
theorem cV (x:Rb):(rbC x).length=5:=by cases x;simp[rbC]
theorem sP0:∀ l:List Rb,(rbCs l).length=l.length*5
 | []=>rfl
 | x :: l=>by rw[rbCs,List.length_append,cV,sP0 l,List.length_cons];omega
theorem oL0:∀ x:Rb,(rbC x).all one=true
 | .mk k a b e l=>by simp[rbC,one,Rw]
mutual
theorem cF1 (nn:Nat) (hn:0<nn):∀ x:Rb,scL nn (rbC x)=true
 | .mk k a b e l=>by
  have:=gT0 nn hn l
  simp[rbC,scL,Ev.sc,Rw,hn,gV0, *]
theorem gT0 (nn:Nat) (hn:0<nn):∀ l:List Rb,scL nn (rbCs l)=true
 | []=>rfl
 | x :: l=>by
  rw[rbCs]
  exact qA fun v hv=>(List.mem_append.1 hv).elim (jV (cF1 nn hn x) v) (jV (gT0 nn hn l) v)
end
theorem lK2 (n:Nat) (hn:0<n) (x:Rb):Ev.sc n (rbV x)=true:=cF1 n hn x
theorem lL2 (n:Nat) (hn:0<n) (k:Nat) (f:Bool) (l:List Rb):Ev.sc n (Rw f erb k (rbCs l))=true:=by
 have:=gT0 n hn l
 simp[Ev.sc,Rw,scL,this,hn]
theorem lM2 (x:Rb):rbCs [x]=rbC x:=by rw[rbCs,rbCs,List.append_nil]
theorem lS0:∀ (l:List Rb) (i:Nat),(rbCs l).drop (i*5)=rbCs (l.drop i)
 | l,0=>by simp
 | [],i+1=>by simp[rbCs]
 | x :: l,i+1=>by
  rw[rbCs,List.drop_succ_cons,← lS0 l i,Nat.add_mul,Nat.one_mul,Nat.add_comm,← List.drop_drop,List.drop_append_of_le_length (by rw[cV];exact Nat.le_refl _),show (rbC x).drop 5=[] from List.drop_of_length_le (by rw[cV];exact Nat.le_refl _),List.nil_append]
theorem zD0 {l:List Rb} {i:Nat} {x:Rb} (h:l[i]?=some x):((rbCs l).drop (i*5)).take 5=rbC x:=by
 have hi:i<l.length:=(List.getElem?_eq_some_iff.1 h).1
 have hd:l.drop i=x :: l.drop (i+1):=by rw[List.drop_eq_getElem_cons hi];congr 1;exact (List.getElem?_eq_some_iff.1 h).2
 rw[lS0,hd,rbCs,List.take_append_of_le_length (by rw[cV];exact Nat.le_refl _),List.take_of_length_le (by rw[cV];exact Nat.le_refl _)]
theorem oZ1 (x:Rb):Value.agg ⟨rbC x⟩=rbV x:=rfl
theorem cE1 (x:Rb):(rbV x).cells.toList=rbC x:=rfl
theorem pA1 (x:Rb):(rbC x).take 5=rbC x:=List.take_of_length_le (by rw[cV];exact Nat.le_refl _)
attribute [push_cast] lN2 sP0 oZ1 gT0 lK2 lL2 cF1 oL0 cE1 pA1 cV
theorem mA0 (G:Nat×Nat) (n:Nat) (σ:jA):FzV (pp G).P n σ (.slice none 0 0) (exsV []):=.nil (size:=4) rfl (by decide)
theorem cV1 (G:Nat×Nat) (n:Nat) (σ:jA):FzV (pp G).P n σ (.slice none 0 0) (prsV []):=.nil (size:=8) rfl (by decide)
theorem nil_iv (G:Nat×Nat) (n:Nat) (σ:jA):FzV (pp G).P n σ (.slice none 0 0) (ivV []):=.nil (size:=1) rfl (by decide)
theorem nil_ns (G:Nat×Nat) (n:Nat) (σ:jA):FzV (pp G).P n σ (.slice none 0 0) (nsV []):=.nil (size:=1) rfl (by decide)
end
end Go.Proofs.YtgeakofgklcipaaDoor
namespace Go.Proofs.YtgeakofgklcipaaDoor
open Go Go.RowKit Go.Ev Go.Dv
noncomputable section
attribute [local push_cast] eq_self iff_self
set_option maxRecDepth 100000
variable (G:Nat×Nat)
theorem mS0 {A c z:List Value} {w k off:Nat} (hA:A.length=off) (hz:z.length=w):(A++(List.replicate (k+1) z).flatten).take off++c++(A++(List.replicate (k+1) z).flatten).drop (off+w)=(A++c)++(List.replicate k z).flatten:=by
 subst hA
 rw[List.take_left,List.drop_append,List.drop_of_length_le (by omega),List.nil_append,Nat.add_sub_cancel_left,List.replicate_succ,List.flatten_cons,List.drop_append,List.drop_of_length_le (by omega),List.nil_append,hz,Nat.sub_self,List.drop_zero]
theorem tM0 {A z:List Value} {w k off n:Nat} (hA:A.length=off) (hz:z.length=w) (hn:off+k*w=n):(A++(List.replicate k z).flatten).length=n:=by
 rw[List.length_append,List.length_flatten,List.map_replicate,List.sum_replicate_nat,hA,hz,hn]
theorem jW {α:Type} {l:List α} {i:Nat} {x:α} (h:l[i]?=some x):l.take (i+1)=l.take i++[x]:=by
 rw[List.take_add_one,h];rfl
theorem jR {α:Type} {l:List α} {i:Nat} (h:i<l.length):∃ x,l[i]?=some x:=⟨_,List.getElem?_eq_getElem h⟩
def zex:List Value:=[.int .i64 0,.int .i64 0,.string (Tx []),.slice none 0 0]
inductive ILex (l:List Ex) (fv:Value):Nat→S→Prop
 | mk (i:Nat) (iv:Int) (h:jA) {x0 x2 x3 x4 x6 x7 x8 x9 xA xB xC xD xH xI xJ xK xL xM xN xO xP xQ xR xS:Value} (hiv:iv=(i:Int)) (hi:i≤l.length) (c1:cells h 1=some (kF (l.take i)++(List.replicate (l.length-i) zex).flatten,31,false)) (hl1:h.lo=1) (hl2:2≤h.next) :
  ILex l fv (l.length-i) ⟨(F29 x0 fv x2 x3 x4 (.slice (some ⟨1,0,none⟩) l.length l.length) x6 x7 x8 x9 xA xB xC xD (Rw false eE l.length (kF l)) (.int .i64 l.length) (.int .i64 iv) xH xI xJ xK xL xM xN xO xP xQ xR xS),[],h⟩
theorem pT1 (l:List Ex) (f:FuncId) (hll:l.length<100000000000) (hf:∀ x∈l,jI (pp G) H0 f [exV x] (exV x)):jI (pp G) H0 76 [exsV l,.func (.func f) #[] #[]] (exsV l):=by
 refine cE G fir76 (by kernel_rfl) (rW0 ..) fun hlo=>?_;rw[kI2]
 unfold exsV
 by_cases h0:l.length=0
 ·have h0':(l.length:Int)=0:=by omega
  obtain rfl:l=[]:=List.length_eq_zero_iff.1 h0
  push_cast(disch:=first|omega|(apply id;push_cast;try omega))[h0']
  exact .nil (size:=4) rfl (by decide)
 have h0':¬ (l.length:Int)=0:=by omega
 have h1:(l.length:Int)*400+l.length<100000000000000:=by omega
 push_cast(disch:=first|omega|(apply id;push_cast;try omega))[h0',h1]
 refine WD.loop4 (q:=qq) (qB G) (by kernel_rfl) (ILex l (.func (.func f) #[] #[])) ?_ _ _ (ILex.mk 0 0 _ rfl (Nat.zero_le _) (by push_cast(disch:=first|omega|(apply id;push_cast;try omega))[List.take_zero];rfl) rfl tH)
 intro m s1 hI
 cases hI with|mk i iv h hiv hi c1 hl1 hl2=>
 subst hiv
 rw[jW1]
 by_cases hil:(i:Int)<l.length
 ·obtain ⟨x,hx⟩:=jR (l:=l) (i:=i) (by omega)
  have hxm:=List.mem_of_getElem? hx
  have hp:=cN hx
  have hle:i*4+4≤l.length*4:=by omega
  push_cast(disch:=first|omega|(apply id;push_cast;try omega))[hil,Int.toNat_natCast,hp,hle,hl1]
  refine dK (hf x hxm) ?_
  obtain ⟨k,hk⟩:∃ k,l.length-i=k+1:=⟨l.length-i-1,by omega⟩
  have hta:(kF (l.take i)).length=i*4:=by rw[zM0,List.length_take,Nat.min_eq_left hi]
  have hlen:=tM0 (w:=4) (z:=zex) (k:=l.length-i) (n:=l.length*4) hta rfl (by rw[Nat.sub_mul];omega)
  have hst:=mS0 (c:=exC x) (w:=4) (z:=zex) (k:=k) hta rfl
  rw[← hk,← wK2,← iI0,← jW hx,show k=l.length-(i+1) by omega,wK2] at hst
  push_cast(disch:=first|omega|(apply id;push_cast;try omega))[hil,Int.toNat_natCast,hle,hl1,c1,hlen,hst]
  exact ⟨_,by omega,ILex.mk (i+1) _ _ (by first|rfl|omega) (by omega) tH (by first|assumption|(push_cast(disch:=first|omega|(apply id;push_cast;try omega))[hl1];try omega)) tH⟩
 ·have hie:i=l.length:=by omega
  subst hie
  rw[List.take_length,Nat.sub_self,List.replicate_zero,List.flatten_nil,List.append_nil] at c1
  push_cast(disch:=first|omega|(apply id;push_cast;try omega))[hil]
  rw[jV1]
  push_cast(disch:=first|omega|(apply id;push_cast;try omega))
  refine .sl (by push_cast(disch:=first|omega|(apply id;push_cast;try omega))) c1 (size:=4) rfl (by decide) tH (.inl ⟨by simp only[UC];omega,Nat.le_refl _⟩) ?_
  rw[List.drop_zero,List.take_of_length_le (by rw[zM0];exact Nat.le_refl _)]
  exact .ids (jP0 _ H0q l)
def ztm:List Value:=[.int .i64 0,.int .i64 0,.int .i64 0,.string (Tx []),.int .i64 0,.int .i64 0,.string (Tx []),.slice none 0 0,.slice none 0 0]
inductive ILtm (l:List Tm) (fv:Value):Nat→S→Prop
 | mk (i:Nat) (iv:Int) (h:jA) {x0 x2 x3 x4 x6 x7 x8 x9 xA xB xC xD xH xI xJ xK xL xM xN xO xP xQ xR xS:Value} (hiv:iv=(i:Int)) (hi:i≤l.length) (c1:cells h 1=some (qK (l.take i)++(List.replicate (l.length-i) ztm).flatten,34,false)) (hl1:h.lo=1) (hl2:2≤h.next) :
  ILtm l fv (l.length-i) ⟨(F29 x0 fv x2 x3 x4 (.slice (some ⟨1,0,none⟩) l.length l.length) x6 x7 x8 x9 xA xB xC xD (Rw false etm l.length (qK l)) (.int .i64 l.length) (.int .i64 iv) xH xI xJ xK xL xM xN xO xP xQ xR xS),[],h⟩
theorem pS1 (l:List Tm) (f:FuncId) (hll:l.length<100000000000) (hf:∀ x∈l,jI (pp G) H0 f [tmV x] (tmV x)):jI (pp G) H0 77 [tmsV l,.func (.func f) #[] #[]] (tmsV l):=by
 refine cE G fir77 (by kernel_rfl) (rW0 ..) fun hlo=>?_;rw[kH2]
 unfold tmsV
 by_cases h0:l.length=0
 ·have h0':(l.length:Int)=0:=by omega
  obtain rfl:l=[]:=List.length_eq_zero_iff.1 h0
  push_cast(disch:=first|omega|(apply id;push_cast;try omega))[h0']
  exact .nil (size:=9) rfl (by decide)
 have h0':¬ (l.length:Int)=0:=by omega
 have h1:(l.length:Int)*400+l.length<100000000000000:=by omega
 push_cast(disch:=first|omega|(apply id;push_cast;try omega))[h0',h1]
 refine WD.loop4 (q:=qq) (qB G) (by kernel_rfl) (ILtm l (.func (.func f) #[] #[])) ?_ _ _ (ILtm.mk 0 0 _ rfl (Nat.zero_le _) (by push_cast(disch:=first|omega|(apply id;push_cast;try omega))[List.take_zero];rfl) rfl tH)
 intro m s1 hI
 cases hI with|mk i iv h hiv hi c1 hl1 hl2=>
 subst hiv
 rw[jU1]
 by_cases hil:(i:Int)<l.length
 ·obtain ⟨x,hx⟩:=jR (l:=l) (i:=i) (by omega)
  have hxm:=List.mem_of_getElem? hx
  have hp:=qW hx
  have hle:i*9+9≤l.length*9:=by omega
  push_cast(disch:=first|omega|(apply id;push_cast;try omega))[hil,Int.toNat_natCast,hp,hle,hl1]
  refine dK (hf x hxm) ?_
  obtain ⟨k,hk⟩:∃ k,l.length-i=k+1:=⟨l.length-i-1,by omega⟩
  have hta:(qK (l.take i)).length=i*9:=by rw[bB,List.length_take,Nat.min_eq_left hi]
  have hlen:=tM0 (w:=9) (z:=ztm) (k:=l.length-i) (n:=l.length*9) hta rfl (by rw[Nat.sub_mul];omega)
  have hst:=mS0 (c:=tmC x) (w:=9) (z:=ztm) (k:=k) hta rfl
  rw[← hk,← gM1,← jL0,← jW hx,show k=l.length-(i+1) by omega,gM1] at hst
  push_cast(disch:=first|omega|(apply id;push_cast;try omega))[hil,Int.toNat_natCast,hle,hl1,c1,hlen,hst]
  exact ⟨_,by omega,ILtm.mk (i+1) _ _ (by first|rfl|omega) (by omega) tH (by first|assumption|(push_cast(disch:=first|omega|(apply id;push_cast;try omega))[hl1];try omega)) tH⟩
 ·have hie:i=l.length:=by omega
  subst hie
  rw[List.take_length,Nat.sub_self,List.replicate_zero,List.flatten_nil,List.append_nil] at c1
  push_cast(disch:=first|omega|(apply id;push_cast;try omega))[hil]
  rw[jT1]
  push_cast(disch:=first|omega|(apply id;push_cast;try omega))
  refine .sl (by push_cast(disch:=first|omega|(apply id;push_cast;try omega))) c1 (size:=9) rfl (by decide) tH (.inl ⟨by simp only[UC];omega,Nat.le_refl _⟩) ?_
  rw[List.drop_zero,List.take_of_length_le (by rw[bB];exact Nat.le_refl _)]
  exact .ids (gB _ H0q l)
mutual
def smE:Ex→Bool
 | .mk k n s l=>decide (l.length<100000000000)&&smEs l
def smEs:List Ex→Bool
 | []=>true
 | x :: l=>smE x&&smEs l
end
mutual
def smT:Tm→Bool
 | .mk k a b s e l=>decide (l.length<100000000000)&&smE e&&bK l
def bK:List Tm→Bool
 | []=>true
 | x :: l=>smT x&&bK l
end
theorem cT:∀ {l:List Ex},smEs l=true→∀ x∈l,smE x=true
 | [],_,x,hx=>by cases hx
 | y :: l,h,x,hx=>by
  simp only[smEs,Bool.and_eq_true] at h
  rcases List.mem_cons.1 hx with rfl|hx
  ·exact h.1
  ·exact cT h.2 x hx
theorem uU:∀ {l:List Tm},bK l=true→∀ x∈l,smT x=true
 | [],_,x,hx=>by cases hx
 | y :: l,h,x,hx=>by
  simp only[bK,Bool.and_eq_true] at h
  rcases List.mem_cons.1 hx with rfl|hx
  ·exact h.1
  ·exact uU h.2 x hx
theorem gW1:∀ {l:List Tm},(∀ x∈l,smT x=true)→bK l=true
 | [],_=>rfl
 | y :: l,h=>by rw[bK,h y (by simp),gW1 fun x hx=>h x (by simp[hx])];rfl
theorem cO1:∀ x:Ex,smE x=true→jI (pp G) H0 60 [exV x] (exV x)
 | .mk k n s l,hs=>by
  simp only[smE,Bool.and_eq_true,decide_eq_true_eq] at hs
  have hl:=pT1 G l 60 hs.1 fun x hx=>cO1 x (cT hs.2 x hx)
  refine cE G fir60 (by kernel_rfl) (pU2 ..) fun hlo=>?_;rw[kY2]
  unfold exV exC
  push_cast(disch:=first|omega|(apply id;push_cast;try omega))
  refine dK (hl) ?_
  unfold exsV
  push_cast(disch:=first|omega|(apply id;push_cast;try omega))
  exact .id (mU0 _ H0q (.mk k n s l))
 termination_by x=>SizeOf.sizeOf x
theorem cN1:∀ x:Tm,smT x=true→jI (pp G) H0 41 [tmV x] (tmV x)
 | .mk k a b s e l,hs=>by
  simp only[smT,Bool.and_eq_true,decide_eq_true_eq] at hs
  have hl:=pS1 G l 41 hs.1.1 fun x hx=>cN1 x (uU hs.2 x hx)
  have hT:jI (pp G) H0 61 [tmsV l] (tmsV l):=by
   refine cE G fir61 (by kernel_rfl) (pV2 ..) fun hlo=>?_;rw[kX2]
   unfold tmsV
   push_cast(disch:=first|omega|(apply id;push_cast;try omega))
   refine dK (hl) ?_
   unfold tmsV
   push_cast(disch:=first|omega|(apply id;push_cast;try omega))
   exact .id (by push_cast(disch:=first|omega|(apply id;push_cast;try omega)))
  refine cE G fir41 (by kernel_rfl) (nM1 ..) fun hlo=>?_;rw[yQ2]
  unfold tmV tmC
  push_cast(disch:=first|omega|(apply id;push_cast;try omega))
  refine dK (cO1 G e hs.1.2) ?_
  push_cast(disch:=first|omega|(apply id;push_cast;try omega))[tN0]
  refine dK (hT) ?_
  unfold tmsV
  push_cast(disch:=first|omega|(apply id;push_cast;try omega))[tN0]
  exact .id (kV _ H0q (.mk k a b s e l))
 termination_by x=>SizeOf.sizeOf x
mutual
def gD:Ex→Ex→Bool
 | .mk k n s l,.mk k' n' s' l'=>decide (k=k')&&(decide (n=n')&&(decide (s=s')&&(decide (l.length=l'.length)&&bN l l')))
def bN:List Ex→List Ex→Bool
 | x :: l,y :: m=>gD x y&&bN l m
 | _,_=>true
end
theorem kE0:∀ {l m:List Ex},bN l m=true→∀ (i:Nat) (x y:Ex),l[i]?=some x→m[i]?=some y→gD x y=true
 | [],_,_,i,x,y,h1,_=>by simp at h1
 | _ :: _,[],_,i,x,y,_,h2=>by simp at h2
 | a :: l,b :: m,h,i,x,y,h1,h2=>by
  simp only[bN,Bool.and_eq_true] at h
  cases i with
  | zero=>simp at h1 h2;subst h1 h2;exact h.1
  | succ i=>simp at h1 h2;exact kE0 h.2 i x y h1 h2
theorem gR0:∀ {l m:List Ex},(∀ (i:Nat) (x y:Ex),l[i]?=some x→m[i]?=some y→gD x y=true)→bN l m=true
 | [],_,_=>by simp[bN]
 | _ :: _,[],_=>by simp[bN]
 | a :: l,b :: m,h=>by
  rw[bN,h 0 a b rfl rfl,gR0 fun i x y h1 h2=>h (i+1) x y (by simpa using h1) (by simpa using h2)];rfl
inductive I57 (k n:Int) (s:List UInt8) (l:List Ex) (k' n':Int) (s':List UInt8) (l':List Ex):Nat→S→Prop
 | mk (i : Nat) (iv : Int) (h : jA) {x0 x1 x4 x6 x7 x8 x9 xA xB xC xD xE xF xG xH xI xJ xK xL xM xN xO xP xQ xR xS xT xU xV xW xX xY xZ yA yB yC yD yE yF yG yH yI yJ yK yL yM yN yO yP yQ : Value} (hiv : iv = (i : Int)) (hi : i ≤ l.length) (c1 : cells h 1 = some (exC (.mk k n s l), 31, false)) (c2 : cells h 2 = some (exC (.mk k' n' s' l'), 31, false)) (hl1 : h.lo = 1) (hl2 : 3 ≤ h.next)
   (ha:∀ j,j<i→∀ x y,l[j]?=some x→l'[j]?=some y→gD x y=true) :
  I57 k n s l k' n' s' l' (l.length-i) ⟨(F53 x0 x1 (.pointer (some ⟨1,0,none⟩)) (.pointer (some ⟨2,0,none⟩)) x4 (.int .i64 iv) x6 x7 x8 x9 xA xB xC xD xE xF xG xH xI xJ xK xL xM xN xO xP xQ xR xS xT xU xV xW xX xY xZ yA yB yC yD yE yF yG yH yI yJ yK yL yM yN yO yP yQ),[],h⟩
theorem bX1:∀ a b:Ex,smE a=true→smE b=true→jI (pp G) H0 37 [exV a,exV b] (.bool (gD a b))
 | .mk k n s l,.mk k' n' s' l',hs,hs'=>by
  simp only[smE,Bool.and_eq_true,decide_eq_true_eq] at hs hs'
  have ih:∀ x∈l,∀ y∈l',jI (pp G) H0 37 [exV x,exV y] (.bool (gD x y)):=fun x hx y hy=>bX1 x y (cT hs.2 x hx) (cT hs'.2 y hy)
  refine cE G fir37 (by kernel_rfl) (fE2 ..) fun hlo=>?_;rw[yU2]
  rw[gD]
  obtain ⟨b,hb⟩:∃ b,b=(decide (k=k')&&(decide (n=n')&&(decide (s=s')&&(decide (l.length=l'.length)&&bN l l')))):=⟨_,rfl⟩
  rw[← hb]
  by_cases h1:k=k'
  rotate_left
  ·obtain rfl:b=false:=by rw[hb];simp[h1]
   push_cast(disch:=first|omega|(apply id;push_cast;try omega))[h1]
   exact .id rfl
  by_cases h2:n=n'
  rotate_left
  ·obtain rfl:b=false:=by rw[hb];simp[h2]
   push_cast(disch:=first|omega|(apply id;push_cast;try omega))[h1,h2]
   exact .id rfl
  by_cases h3:s=s'
  rotate_left
  ·obtain rfl:b=false:=by rw[hb];simp[h3]
   have h3':(s == s')=false:=by simpa using h3
   push_cast(disch:=first|omega|(apply id;push_cast;try omega))[h1,h2,h3']
   exact .id rfl
  by_cases h4:l.length=l'.length
  rotate_left
  ·obtain rfl:b=false:=by rw[hb];simp[h4]
   have h4':¬ (l.length:Int)=l'.length:=by omega
   push_cast(disch:=first|omega|(apply id;push_cast;try omega))[h1,h2,h3,h4',beq_self_eq_true]
   exact .id rfl
  have h4':(l.length:Int)=l'.length:=by omega
  have hb':b=bN l l':=by rw[hb];simp[h1,h2,h3,h4]
  clear hb
  push_cast(disch:=first|omega|(apply id;push_cast;try omega))[h1,h2,h3,h4',beq_self_eq_true]
  refine WD.loop4 (q:=qq) (qB G) (by kernel_rfl) (I57 k n s l k' n' s' l') ?_ _ _ (I57.mk 0 0 _ rfl (Nat.zero_le _) (by first|assumption|(push_cast(disch:=first|omega|(apply id;push_cast;try omega))[h1,h2,h3];try omega)) (by first|assumption|(push_cast(disch:=first|omega|(apply id;push_cast;try omega))[h1,h2,h3];try omega)) rfl tH (fun j hj=>by omega))
  intro m s1 hI
  cases hI with|mk i iv h hiv hi c1 c2 hl1 hl2 ha=>
  subst hiv
  rw[uR1]
  by_cases hil:(i:Int)<l'.length
  ·obtain ⟨x,hx⟩:=jR (l:=l) (i:=i) (by omega)
   obtain ⟨y,hy⟩:=jR (l:=l') (i:=i) (by omega)
   have hp:=cN hx
   have hp':=cN hy
   have hle:i*4+4≤l'.length*4:=by omega
   have hle2:i*4+4≤l.length*4:=by omega
   push_cast(disch:=first|omega|(apply id;push_cast;try omega))[hil,Int.toNat_natCast,hp,hp',hle,hle2,hl1,c1,c2,h4']
   refine dK (ih x (List.mem_of_getElem? hx) y (List.mem_of_getElem? hy)) ?_
   cases hr:gD x y with
   | true=>
    push_cast(disch:=first|omega|(apply id;push_cast;try omega))
    exact ⟨_,by omega,I57.mk (i+1) _ _ (by first|rfl|omega) (by omega) (by first|assumption|(push_cast(disch:=first|omega|(apply id;push_cast;try omega))[c1];try omega)) (by first|assumption|(push_cast(disch:=first|omega|(apply id;push_cast;try omega))[c2];try omega)) (by first|assumption|(push_cast(disch:=first|omega|(apply id;push_cast;try omega))[hl1];try omega)) tH fun j hj u v hu hv=>by
     by_cases e:j=i
     ·subst e;rw[hx] at hu;rw[hy] at hv;cases hu;cases hv;exact hr
     ·exact ha j (by omega) u v hu hv⟩
   | false=>
    obtain rfl:b=false:=by
     rw[hb']
     cases hc:bN l l' with
     | false=>rfl
     | true=>rw[kE0 hc i x y hx hy] at hr;cases hr
    push_cast(disch:=first|omega|(apply id;push_cast;try omega))
    exact .id rfl
  ·obtain rfl : b = true := by
    rw[hb']
    exact gR0 fun j u v hu hv=>ha j (by have:=(List.getElem?_eq_some_iff.1 hu).1;omega) u v hu hv
   push_cast(disch:=first|omega|(apply id;push_cast;try omega))[hil,c1,c2,hl1,h4']
   rw[uQ1]
   push_cast(disch:=first|omega|(apply id;push_cast;try omega))
   exact .id rfl
 termination_by x=>SizeOf.sizeOf x
mutual
def wG0:Tm→Tm→Bool
 | .mk k a b s e l,.mk k' a' b' s' e' l'=>decide (k=k')&&(decide (a=a')&&(decide (b=b')&&(decide (s=s')&&(gD e e'&&(decide (l.length=l'.length)&&cC l l')))))
def cC:List Tm→List Tm→Bool
 | x :: l,y :: m=>wG0 x y&&cC l m
 | _,_=>true
end
theorem kD0:∀ {l m:List Tm},cC l m=true→∀ (i:Nat) (x y:Tm),l[i]?=some x→m[i]?=some y→wG0 x y=true
 | [],_,_,i,x,y,h1,_=>by simp at h1
 | _ :: _,[],_,i,x,y,_,h2=>by simp at h2
 | a :: l,b :: m,h,i,x,y,h1,h2=>by
  simp only[cC,Bool.and_eq_true] at h
  cases i with
  | zero=>simp at h1 h2;subst h1 h2;exact h.1
  | succ i=>simp at h1 h2;exact kD0 h.2 i x y h1 h2
theorem gP0:∀ {l m:List Tm},(∀ (i:Nat) (x y:Tm),l[i]?=some x→m[i]?=some y→wG0 x y=true)→cC l m=true
 | [],_,_=>by simp[cC]
 | _ :: _,[],_=>by simp[cC]
 | a :: l,b :: m,h=>by
  rw[cC,h 0 a b rfl rfl,gP0 fun i x y h1 h2=>h (i+1) x y (by simpa using h1) (by simpa using h2)];rfl
inductive I27 (t u:Tm):Nat→S→Prop
 | mk (i : Nat) (iv : Int) (h : jA) {x0 x1 x4 x6 x7 x8 x9 xA xB xC xD xE xF xG xH xI xJ xK xL xM xN xO xP xQ xR xS xT xU xV xW xX xY xZ yA yB yC yD yE yF yG yH yI yJ yK yL yM yN yO yP yQ yR yS yT yU yV yW yX yY yZ zA zB zC zD zF zG : Value} (hiv : iv = (i : Int)) (hi : i ≤ t.l.length) (c1 : cells h 1 = some (tmC t, 34, false)) (c2 : cells h 2 = some (tmC u, 34, false)) (hl1 : h.lo = 1) (hl2 : 3 ≤ h.next)
   (ha:∀ j,j<i→∀ x y,t.l[j]?=some x→u.l[j]?=some y→wG0 x y=true) :
  I27 t u (t.l.length-i) ⟨(F68 x0 x1 (.pointer (some ⟨1,0,none⟩)) (.pointer (some ⟨2,0,none⟩)) x4 (.int .i64 iv) x6 x7 x8 x9 xA xB xC xD xE xF xG xH xI xJ xK xL xM xN xO xP xQ xR xS xT xU xV xW xX xY xZ yA yB yC yD yE yF yG yH yI yJ yK yL yM yN yO yP yQ yR yS yT yU yV yW yX yY yZ zA zB zC zD zF zG),[],h⟩
theorem bW1:∀ t u:Tm,smT t=true→smT u=true→jI (pp G) H0 20 [tmV t,tmV u] (.bool (wG0 t u))
 | .mk k a b s e l,.mk k' a' b' s' e' l',hs,hs'=>by
  simp only[smT,Bool.and_eq_true,decide_eq_true_eq] at hs hs'
  have ih:∀ x∈l,∀ y∈l',jI (pp G) H0 20 [tmV x,tmV y] (.bool (wG0 x y)):=fun x hx y hy=>bW1 x y (uU hs.2 x hx) (uU hs'.2 y hy)
  have he:=bX1 G e e' hs.1.2 hs'.1.2
  refine cE G fir20 (by kernel_rfl) (nA1 ..) fun hlo=>?_;rw[gH2]
  rw[wG0]
  obtain ⟨c,hb⟩:∃ c,c=(decide (k=k')&&(decide (a=a')&&(decide (b=b')&&(decide (s=s')&&(gD e e'&&(decide (l.length=l'.length)&&cC l l')))))):=⟨_,rfl⟩
  rw[← hb]
  by_cases h1:k=k'
  rotate_left
  ·obtain rfl:c=false:=by rw[hb];simp[h1]
   push_cast(disch:=first|omega|(apply id;push_cast;try omega))[h1]
   exact .id rfl
  by_cases h2:a=a'
  rotate_left
  ·obtain rfl:c=false:=by rw[hb];simp[h2]
   push_cast(disch:=first|omega|(apply id;push_cast;try omega))[h1,h2]
   exact .id rfl
  by_cases h5:b=b'
  rotate_left
  ·obtain rfl:c=false:=by rw[hb];simp[h5]
   push_cast(disch:=first|omega|(apply id;push_cast;try omega))[h1,h2,h5]
   exact .id rfl
  by_cases h3:s=s'
  rotate_left
  ·obtain rfl:c=false:=by rw[hb];simp[h3]
   have h3':(s == s')=false:=by simpa using h3
   push_cast(disch:=first|omega|(apply id;push_cast;try omega))[h1,h2,h5,h3']
   exact .id rfl
  push_cast(disch:=first|omega|(apply id;push_cast;try omega))[h1,h2,h5,h3,beq_self_eq_true]
  refine dK (he) ?_
  by_cases h6:gD e e'=true
  rotate_left
  ·have h6:gD e e'=false:=by simpa using h6
   obtain rfl:c=false:=by rw[hb];simp[h6]
   push_cast(disch:=first|omega|(apply id;push_cast;try omega))[h6]
   exact .id rfl
  by_cases h4:l.length=l'.length
  rotate_left
  ·obtain rfl:c=false:=by rw[hb];simp[h4]
   have h4':¬ (l.length:Int)=l'.length:=by omega
   push_cast(disch:=first|omega|(apply id;push_cast;try omega))[h4',h6]
   exact .id rfl
  have h4':(l.length:Int)=l'.length:=by omega
  have hb':c=cC l l':=by rw[hb];simp[h1,h2,h3,h4,h5,h6]
  clear hb
  push_cast(disch:=first|omega|(apply id;push_cast;try omega))[h4',h6]
  refine WD.loop4 (q:=qq) (qB G) (by kernel_rfl) (I27 (.mk k a b s e l) (.mk k' a' b' s' e' l')) ?_ _ _ (I27.mk 0 0 _ rfl (Nat.zero_le _) (by first|assumption|(push_cast(disch:=first|omega|(apply id;push_cast;try omega))[h1,h2,h3,h5];try omega)) (by first|assumption|(push_cast(disch:=first|omega|(apply id;push_cast;try omega))[h1,h2,h3,h5];try omega)) rfl tH (fun j hj=>by omega))
  intro m s1 hI
  cases hI with|mk i iv h hiv hi c1 c2 hl1 hl2 ha=>
  subst hiv
  rw[wO1]
  simp only[Tm.l_mk] at ha hi
  by_cases hil:(i:Int)<l'.length
  ·obtain ⟨x,hx⟩:=jR (l:=l) (i:=i) (by omega)
   obtain ⟨y,hy⟩:=jR (l:=l') (i:=i) (by omega)
   have hp:=qW hx
   have hp':=qW hy
   have hle:i*9+9≤l'.length*9:=by omega
   have hle2:i*9+9≤l.length*9:=by omega
   push_cast(disch:=first|omega|(apply id;push_cast;try omega))[hil,Int.toNat_natCast,hp,hp',hle,hle2,hl1,c1,c2,h4']
   refine dK (ih x (List.mem_of_getElem? hx) y (List.mem_of_getElem? hy)) ?_
   cases hr:wG0 x y with
   | true=>
    push_cast(disch:=first|omega|(apply id;push_cast;try omega))
    exact ⟨_,by simp only[Tm.l_mk];omega,I27.mk (i+1) _ _ (by first|rfl|omega) (by simp only[Tm.l_mk];omega) (by first|assumption|(push_cast(disch:=first|omega|(apply id;push_cast;try omega))[c1];try omega)) (by first|assumption|(push_cast(disch:=first|omega|(apply id;push_cast;try omega))[c2];try omega)) (by first|assumption|(push_cast(disch:=first|omega|(apply id;push_cast;try omega))[hl1];try omega)) tH fun j hj u v hu hv=>by
     by_cases e:j=i
     ·subst e;rw[Tm.l_mk,hx] at hu;rw[Tm.l_mk,hy] at hv;cases hu;cases hv;exact hr
     ·exact ha j (by omega) u v hu hv⟩
   | false=>
    obtain rfl:c=false:=by
     rw[hb']
     cases hc:cC l l' with
     | false=>rfl
     | true=>rw[kD0 hc i x y hx hy] at hr;cases hr
    push_cast(disch:=first|omega|(apply id;push_cast;try omega))
    exact .id rfl
  ·obtain rfl : c = true := by
    rw[hb']
    exact gP0 fun j u v hu hv=>ha j (by have:=(List.getElem?_eq_some_iff.1 hu).1;omega) u v hu hv
   push_cast(disch:=first|omega|(apply id;push_cast;try omega))[hil,c1,c2,hl1,h4']
   rw[wN1]
   push_cast(disch:=first|omega|(apply id;push_cast;try omega))
   exact .id rfl
 termination_by x=>SizeOf.sizeOf x
mutual
def qR:Tm→Int
 | .mk _ _ _ _ _ l=>1+jU l
def jU:List Tm→Int
 | []=>0
 | x :: l=>qR x+jU l
end
theorem zY0:∀ (a b:List Tm),jU (a++b)=jU a+jU b
 | [],b=>by simp[jU]
 | x :: a,b=>by rw[List.cons_append,jU,jU,zY0 a b];omega
theorem gJ0 {l:List Tm} {i:Nat} {x:Tm} (h:l[i]?=some x):jU (l.take (i+1))=jU (l.take i)+qR x:=by
 rw[jW h,zY0,jU,jU];omega
theorem pP2 (a b:Int):IntKind.i64.wrap (W a+W b)=W (a+b):=by
 unfold W;simp only[IntKind.wrap_i64];omega
inductive I58 (l:List Tm):Nat→S→Prop
 | mk (i:Nat) (iv n:Int) (h:jA) {x0 x1 x2 x4 x5 x6 xA xB xC xD xE xF xG xH xI:Value} (hiv:iv=(i:Int)) (hi:i≤l.length) (hn:n=W (1+jU (l.take i))) (hl1:h.lo=1) (hl2:1≤h.next) :
  I58 l (l.length-i) ⟨(F19 x0 x1 x2 (.int .i64 n) x4 x5 x6 (tmsV l) (.int .i64 l.length) (.int .i64 iv) xA xB xC xD xE xF xG xH xI),[],h⟩
theorem uT2:∀ t:Tm,smT t=true→jI (pp G) H0 17 [tmV t] (.int .i64 (W (qR t)))
 | .mk k a b s e l,hs=>by
  simp only[smT,Bool.and_eq_true,decide_eq_true_eq] at hs
  have hsl:=hs.1.1
  have ih:∀ x∈l,jI (pp G) H0 17 [tmV x] (.int .i64 (W (qR x))):=fun x hx=>uT2 x (uU hs.2 x hx)
  refine cE G fir17 (by kernel_rfl) (nK1 ..) fun hlo=>?_;rw[gK2]
  rw[qR]
  push_cast(disch:=first|omega|(apply id;push_cast;try omega))
  refine WD.loop4 (q:=qq) (qB G) (by kernel_rfl) (I58 l) ?_ _ _ (I58.mk 0 0 _ _ rfl (Nat.zero_le _) rfl rfl tH)
  intro m s1 hI
  cases hI with|mk i iv n h hiv hi hn hl1 hl2=>
  subst hiv hn
  rw[wU1]
  unfold tmsV
  by_cases hil:(i:Int)<l.length
  ·obtain ⟨x,hx⟩:=jR (l:=l) (i:=i) (by omega)
   have hp:=qW hx
   have hle2:i*9+9≤l.length*9:=by omega
   push_cast(disch:=first|omega|(apply id;push_cast;try omega))[hil,Int.toNat_natCast,hp,hle2,hl1]
   refine dK (ih x (List.mem_of_getElem? hx)) ?_
   push_cast(disch:=first|omega|(apply id;push_cast;try omega))[pP2]
   exact ⟨_,by omega,I58.mk (i+1) _ _ _ (by first|rfl|omega) (by omega) (by rw[gJ0 hx];congr 1;omega) (by first|assumption|(push_cast(disch:=first|omega|(apply id;push_cast;try omega))[hl1];try omega)) tH⟩
  ·have hie:i=l.length:=by omega
   subst hie
   push_cast(disch:=first|omega|(apply id;push_cast;try omega))[hil]
   rw[wT1]
   push_cast(disch:=first|omega|(apply id;push_cast;try omega))[List.take_length]
   exact .id rfl
 termination_by x=>SizeOf.sizeOf x
inductive I59 (t:Tm):Nat→S→Prop
 | mk (i:Nat) (iv n:Int) (h:jA) {x0 x2 x5 x6 x7 x8 x9 xA xB xC xD xE xF xG xH xI xJ xK:Value} (hiv:iv=(i:Int)) (hi:i≤t.l.length) (hn:n=W (1+jU (t.l.take i))) (c1:cells h 1=some (tmC t,34,false)) (hl1:h.lo=1) (hl2:2≤h.next) :
  I59 t (t.l.length-i) ⟨(F21 x0 (.pointer (some ⟨1,0,none⟩)) x2 (.int .i64 n) (.int .i64 iv) x5 x6 x7 x8 x9 xA xB xC xD xE xF xG xH xI xJ xK),[],h⟩
theorem uU2:∀ t:Tm,smT t=true→jI (pp G) H0 18 [tmV t] (.int .i64 (W (qR t)))
 | .mk k a b s e l,hs=>by
  simp only[smT,Bool.and_eq_true,decide_eq_true_eq] at hs
  have hsl:=hs.1.1
  have ih:∀ x∈l,jI (pp G) H0 18 [tmV x] (.int .i64 (W (qR x))):=fun x hx=>uU2 x (uU hs.2 x hx)
  refine cE G fir18 (by kernel_rfl) (nI1 ..) fun hlo=>?_;rw[gJ2]
  rw[qR]
  push_cast(disch:=first|omega|(apply id;push_cast;try omega))
  refine WD.loop4 (q:=qq) (qB G) (by kernel_rfl) (I59 (.mk k a b s e l)) ?_ _ _ (I59.mk 0 0 _ _ rfl (Nat.zero_le _) rfl tH rfl tH)
  intro m s1 hI
  cases hI with|mk i iv n h hiv hi hn c1 hl1 hl2=>
  subst hiv hn
  simp only[Tm.l_mk] at hi
  rw[wS1]
  by_cases hil:(i:Int)<l.length
  ·obtain ⟨x,hx⟩:=jR (l:=l) (i:=i) (by omega)
   have hp:=qW hx
   have hle2:i*9+9≤l.length*9:=by omega
   push_cast(disch:=first|omega|(apply id;push_cast;try omega))[hil,Int.toNat_natCast,hp,hle2,hl1,c1]
   refine dK (ih x (List.mem_of_getElem? hx)) ?_
   push_cast(disch:=first|omega|(apply id;push_cast;try omega))[pP2]
   exact ⟨_,by simp only[Tm.l_mk];omega,I59.mk (i+1) _ _ _ (by first|rfl|omega) (by simp only[Tm.l_mk];omega) (by rw[Tm.l_mk,gJ0 hx];congr 1;omega) (by first|assumption|(push_cast(disch:=first|omega|(apply id;push_cast;try omega))[c1];try omega)) (by first|assumption|(push_cast(disch:=first|omega|(apply id;push_cast;try omega))[hl1];try omega)) tH⟩
  ·have hie:i=l.length:=by omega
   subst hie
   push_cast(disch:=first|omega|(apply id;push_cast;try omega))[hil,c1,hl1]
   rw[wR1]
   push_cast(disch:=first|omega|(apply id;push_cast;try omega))[List.take_length,Tm.l_mk]
   exact .id rfl
 termination_by x=>SizeOf.sizeOf x
end
end Go.Proofs.YtgeakofgklcipaaDoor
namespace Go.Proofs.YtgeakofgklcipaaDoor
open Go Go.RowKit Go.Ev Go.Dv
noncomputable section
attribute [local push_cast] eq_self iff_self
set_option maxRecDepth 100000
def zE:Ex:=.mk 0 0 [] []
def zT:Tm:=.mk 0 0 0 [] zE []
theorem qI.lt {σ:jA} {e n:Nat} {a:Option Addr} {len c:Nat} {cs:List Value} (ho:qI σ e n a len c cs) {b:Nat} (hb:blk a b):σ.lo≤b∧b<σ.next:=by
 obtain ⟨o,s,rfl⟩:=hb
 rcases ho.hat with ⟨e,_⟩|⟨q,_,e,h1,h2,_⟩
 ·cases e
 ·cases e;exact ⟨h1,h2⟩
theorem oG0 (t:Tm) (σ:jA):bsD (qq.m 32) (slT Tryd.prog 32) 1 [(0,tmV t)] σ=some (Rw true 34 1 (qK [t]),σ):=by
 rw[gM1];cases t;kernel_rfl
theorem qI.flt {σ:jA} {e n:Nat} {a:Option Addr} {len c:Nat} {cs:List Value} (ho:qI σ e n a len c cs) {p:Nat→Bool} (hp:∀ b,blk a b→p b=true):qI (hflt p σ) e n a len c cs:=by
 refine ⟨ho.hlen,ho.hone,?_⟩
 rcases ho.hat with h0|⟨b,m,ha,h1,h2,h3,h4⟩
 ·exact .inl h0
 ·exact .inr ⟨b,m,ha,h1,h2,(kN0 σ (hp b ⟨0,none,ha⟩)).trans h3,h4⟩
end
end Go.Proofs.YtgeakofgklcipaaDoor
