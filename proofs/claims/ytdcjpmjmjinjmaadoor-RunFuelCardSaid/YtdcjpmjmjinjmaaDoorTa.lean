/-
  A part of the proof: what the program's functions hand back,as theorems. No condition but those that each theorem names.
-/
import Derived.Test.YtdcjpmjmjinjmaaDoorExa
import Derived.Test.YtdcjpmjmjinjmaaDoorEve
import Derived.Test.YtdcjpmjmjinjmaaDoorExb
import Derived.Test.YtdcjpmjmjinjmaaDoorExc
set_option linter.unusedSimpArgs false
set_option linter.unusedVariables false
namespace Go.Proofs.YtdcjpmjmjinjmaaDoor
open _root_.Go.Proofs.Tryd (prog)
open Go Go.RowKit Go.Ev Go.Dv
noncomputable section
theorem tH {p:Prop} (h:p:=by first|assumption|(simp(disch:=first|omega|(apply id;simp only[push_cast];try omega))only[push_cast,simprocAttr];try omega)):p:=h
theorem dK {p:Par} {H:jA} {f:FuncId} {args:List Value} {σ:jA} {d:Value} {K:Bool→Value→jA→Prop} (hc:jI p H f args d) (hK:K true d σ) (h:scL H.next args=true∧scL σ.lo args=true∧sc σ.lo d=true:=by and_intros<;>first|rfl|(simp(disch:=first|omega|(apply id;simp only[push_cast];try omega))only[push_cast,simprocAttr])):jC p H (.func (.func f) ⟨[]⟩ ⟨[]⟩) args σ K:=jC.dataI hc h hK
theorem cE (G:Nat×Nat) {f:FuncId} {fi:FIR} (hf:Ev.fir (pp G).P f=some fi) (hok:gS (pp G).NG fi.ir=true) {args:List Value} {d:Value} {T:VT} (hT:T.arr=⟨args++List.replicate (fi.n-args.length) undef⟩)
  (hv:H0.lo≤H0.next→dc3 (pp G) qq none fi.ir ⟨T,[],H0⟩ (jH (pp G).P fi.rs fun v σ'=>FzV (pp G).P H0.next σ' v d)) (hn:Nat.ble args.length fi.n=true:=by rfl) (hU:Nat.ble fi.n 100000=true:=by rfl):jI (pp G) H0 f args d:=
 jI.cut (jO.fir4 (q:=qq) (jX G) hf hok hn hU hT (show NGG≤H0.lo by rw[lC1];decide) (hv (Nat.le_refl _)))
end
end Go.Proofs.YtdcjpmjmjinjmaaDoor
namespace Go.Proofs.YtdcjpmjmjinjmaaDoor
open _root_.Go.Proofs.Tryd (prog)
open Go Go.RowKit Go.Ev Go.Dv
noncomputable section
set_option maxRecDepth 100000
def W (a:Int):Int:=IntKind.i64.wrap a
def In (a:Int):Prop:=-9223372036854775808≤a∧a≤9223372036854775807
theorem W_in {a:Int} (h:In a):W a=a:=by
 unfold In at h
 unfold W;rw[IntKind.wrap_i64];omega
theorem H0p:0<H0.lo:=by rw[lC1];omega
theorem H0q:0<H0.next:=by rw[kI];omega
abbrev eI:Nat:=3
def ivs (l:List Int):List Value:=l.map (Value.int .i64)
def ivV (l:List Int):Value:=Rw false eI l.length (ivs l)
theorem kG (l:List Int):(ivs l).length=l.length:=by simp[ivs]
theorem wY0 (n:Nat):∀ l:List Int,scL n (ivs l)=true
 | []=>rfl
 | x :: l=>by
  have:=wY0 n l
  simp only[ivs] at this
  simp[ivs,scL,sc,this]
theorem lQ1 (n:Nat) (hn:0<n) (k:Nat) (f:Bool) (l:List Int):sc n (Rw f eI k (ivs l))=true:=by
 have:=wY0 n l
 simp[sc,Rw,scL,this,hn]
theorem wS1 (n:Nat) (hn:0<n) (l:List Int):sc n (ivV l)=true:=lQ1 n hn ..
theorem gF0:∀ l:List Int,(ivs l).all one=true
 | []=>rfl
 | x :: l=>by
  have:=gF0 l
  simp only[ivs] at this
  simp[ivs,one]
theorem dH1 {l:List Int} {i:Nat} (h:i<l.length):(ivs l)[i]?=some (.int .i64 (l.getD i 0)):=by simp[ivs,h]
theorem dN0 (a b:List Int):ivs (a++b)=ivs a++ivs b:=by simp[ivs]
abbrev eS:Nat:=9
def nss (l:List (List UInt8)):List Value:=l.map fun s=>Value.string (Tx s)
def nsV (l:List (List UInt8)):Value:=Rw false eS l.length (nss l)
@[push_cast]theorem sc_nil (n a b:Nat):sc n (.slice none a b)=true:=rfl
theorem wH2 (n:Nat) (l:List Value):sc n (.agg ⟨l⟩)=scL n l:=rfl
theorem wG2 (n:Nat) (k:IntKind) (i:Int):sc n (.int k i)=true:=rfl
theorem wE2 (n:Nat) (s:ByteArray):sc n (.string s)=true:=rfl
attribute [push_cast] wH2 wG2 wE2
@[push_cast]theorem sc_fn (n f:Nat):sc n (.func (.func f) #[] #[])=true:=rfl
attribute [push_cast] kG wY0 lQ1 wS1 gF0 yY2 gA2 Int.toNat_zero Int.toNat_one Int.natCast_one lC1 kI
def eN0 (a n:Int):Int:=if a.tmod n<0 then a.tmod n+n else a.tmod n
theorem nE0 {a n:Int} (hn:0<n):0≤eN0 a n∧eN0 a n<n:=by
 have h1:(a.tmod n).natAbs=a.natAbs % n.natAbs:=Int.natAbs_tmod a n
 have h2:a.natAbs % n.natAbs<n.natAbs:=Nat.mod_lt _ (by omega)
 unfold eN0
 split<;>omega
inductive Ex where
 | mk (k:Int) (n:Int) (s:List UInt8) (l:List Ex)
abbrev eE:Nat:=25
mutual
def exC:Ex→List Value
 | .mk k n s l=>[.int .i64 k,.int .i64 n,.string (Tx s),Rw false eE l.length (wY l)]
def wY:List Ex→List Value
 | []=>[]
 | x :: l=>exC x++wY l
end
def exV (x:Ex):Value:=.agg ⟨exC x⟩
def exsV (l:List Ex):Value:=Rw false eE l.length (wY l)
theorem kX2 (k:Int) (n:Int) (s:List UInt8) (l:List Ex):exC (.mk k n s l)=[.int .i64 k,.int .i64 n,.string (Tx s),Rw false eE l.length (wY l)]:=rfl
theorem wC0 (x:Ex):(exC x).length=4:=by cases x;simp[exC]
theorem yK0:∀ l:List Ex,(wY l).length=l.length*4
 | []=>rfl
 | x :: l=>by rw[wY,List.length_append,wC0,yK0 l,List.length_cons];omega
theorem tS1:∀ x:Ex,(exC x).all one=true
 | .mk k n s l=>by simp[exC,one,Rw]
mutual
theorem yB1 (nn:Nat) (hn:0<nn):∀ x:Ex,scL nn (exC x)=true
 | .mk k n s l=>by
  have:=wB0 nn hn l
  simp[exC,scL,Ev.sc,Rw,hn, *]
theorem wB0 (nn:Nat) (hn:0<nn):∀ l:List Ex,scL nn (wY l)=true
 | []=>rfl
 | x :: l=>by
  rw[wY]
  exact qK fun v hv=>(List.mem_append.1 hv).elim (qP (yB1 nn hn x) v) (qP (wB0 nn hn l) v)
end
theorem oK0 (n:Nat) (hn:0<n) (x:Ex):Ev.sc n (exV x)=true:=yB1 n hn x
theorem oL0 (n:Nat) (hn:0<n) (k:Nat) (f:Bool) (l:List Ex):Ev.sc n (Rw f eE k (wY l))=true:=by
 have:=wB0 n hn l
 simp[Ev.sc,Rw,scL,this,hn]
theorem tP1 (n:Nat) (hn:0<n) (l:List Ex):Ev.sc n (exsV l)=true:=oL0 n hn ..
theorem oM0:∀ (a b:List Ex),wY (a++b)=wY a++wY b
 | [],b=>rfl
 | x :: a,b=>by rw[List.cons_append,wY,oM0 a b,wY,List.append_assoc]
theorem mC1 (x:Ex):wY [x]=exC x:=by rw[wY,wY,List.append_nil]
theorem fY0:∀ (l:List Ex) (i:Nat),(wY l).drop (i*4)=wY (l.drop i)
 | l,0=>by simp
 | [],i+1=>by simp[wY]
 | x :: l,i+1=>by
  rw[wY,List.drop_succ_cons,← fY0 l i,Nat.add_mul,Nat.one_mul,Nat.add_comm,← List.drop_drop,List.drop_append_of_le_length (by rw[wC0];exact Nat.le_refl _),show (exC x).drop 4=[] from List.drop_of_length_le (by rw[wC0];exact Nat.le_refl _),List.nil_append]
theorem zD0 {l:List Ex} {i:Nat} {x:Ex} (h:l[i]?=some x):((wY l).drop (i*4)).take 4=exC x:=by
 have hi:i<l.length:=(List.getElem?_eq_some_iff.1 h).1
 have hd:l.drop i=x :: l.drop (i+1):=by rw[List.drop_eq_getElem_cons hi];congr 1;exact (List.getElem?_eq_some_iff.1 h).2
 rw[fY0,hd,wY,List.take_append_of_le_length (by rw[wC0];exact Nat.le_refl _),List.take_of_length_le (by rw[wC0];exact Nat.le_refl _)]
theorem dT1 (x:Ex):Value.agg ⟨exC x⟩=exV x:=rfl
theorem yA1 (x:Ex):(exV x).cells.toList=exC x:=rfl
theorem dU1 (x:Ex):(exC x).take 4=exC x:=List.take_of_length_le (by rw[wC0];exact Nat.le_refl _)
theorem tR1 (x:Ex) (l:List Ex):(wY (x :: l)).take 4=exC x:=zD0 (l:=x :: l) (i:=0) rfl
theorem tQ1 (x y:Ex) (l:List Ex):((wY (x :: y :: l)).drop 4).take 4=exC y:=zD0 (l:=x :: y :: l) (i:=1) rfl
attribute [push_cast] kX2 yK0 dT1 wB0 oK0 tP1 oL0 yB1 tS1 yA1 dU1 wC0 tR1 tQ1
def Ex.k:Ex→Int | .mk k _ _ _=>k
def Ex.n:Ex→Int | .mk _ n _ _=>n
def Ex.s:Ex→List UInt8 | .mk _ _ s _=>s
def Ex.l:Ex→List Ex | .mk _ _ _ l=>l
theorem Ex.k_mk (k n:Int) (s:List UInt8) (l:List Ex):Ex.k (.mk k n s l)=k:=rfl
theorem Ex.n_mk (k n:Int) (s:List UInt8) (l:List Ex):Ex.n (.mk k n s l)=n:=rfl
theorem Ex.s_mk (k n:Int) (s:List UInt8) (l:List Ex):Ex.s (.mk k n s l)=s:=rfl
theorem Ex.l_mk (k n:Int) (s:List UInt8) (l:List Ex):Ex.l (.mk k n s l)=l:=rfl
theorem oN0 (x:Ex):exC x=[.int .i64 x.k,.int .i64 x.n,.string (Tx x.s),Rw false eE x.l.length (wY x.l)]:=by cases x;rfl
theorem kW2 (x:Ex):Value.agg ⟨[.int .i64 x.k,.int .i64 x.n,.string (Tx x.s),Rw false eE x.l.length (wY x.l)]⟩=exV x:=by cases x;rfl
attribute [push_cast] Ex.k_mk Ex.n_mk Ex.s_mk Ex.l_mk kW2
inductive Tm where
 | mk (k:Int) (a:Int) (b:Int) (s:List UInt8) (e:Ex) (l:List Tm)
abbrev etm:Nat:=28
mutual
def tmC:Tm→List Value
 | .mk k a b s e l=>[.int .i64 k,.int .i64 a,.int .i64 b,.string (Tx s),.int .i64 e.k,.int .i64 e.n,.string (Tx e.s),Rw false eE e.l.length (wY e.l),Rw false etm l.length (jZ l)]
def jZ:List Tm→List Value
 | []=>[]
 | x :: l=>tmC x++jZ l
end
def tmV (x:Tm):Value:=.agg ⟨tmC x⟩
def qD (l:List Tm):Value:=Rw false etm l.length (jZ l)
theorem qQ (k:Int) (a:Int) (b:Int) (s:List UInt8) (e:Ex) (l:List Tm):tmC (.mk k a b s e l)=[.int .i64 k,.int .i64 a,.int .i64 b,.string (Tx s),.int .i64 e.k,.int .i64 e.n,.string (Tx e.s),Rw false eE e.l.length (wY e.l),Rw false etm l.length (jZ l)]:=rfl
theorem qM (x:Tm):(tmC x).length=9:=by cases x;simp[tmC]
theorem gW:∀ l:List Tm,(jZ l).length=l.length*9
 | []=>rfl
 | x :: l=>by rw[jZ,List.length_append,qM,gW l,List.length_cons];omega
theorem qJ0:∀ x:Tm,(tmC x).all one=true
 | .mk k a b s e l=>by simp[tmC,one,Rw]
theorem wK0:∀ l:List Tm,(jZ l).all one=true
 | []=>rfl
 | x :: l=>by rw[jZ,List.all_append,qJ0 x,wK0 l];rfl
mutual
theorem qI0 (nn:Nat) (hn:0<nn):∀ x:Tm,scL nn (tmC x)=true
 | .mk k a b s e l=>by
  have:=gU nn hn l
  simp[tmC,scL,Ev.sc,Rw,hn,wB0, *]
theorem gU (nn:Nat) (hn:0<nn):∀ l:List Tm,scL nn (jZ l)=true
 | []=>rfl
 | x :: l=>by
  rw[jZ]
  exact qK fun v hv=>(List.mem_append.1 hv).elim (qP (qI0 nn hn x) v) (qP (gU nn hn l) v)
end
theorem qH0 (n:Nat) (hn:0<n) (x:Tm):Ev.sc n (tmV x)=true:=qI0 n hn x
theorem lJ1 (n:Nat) (hn:0<n) (k:Nat) (f:Bool) (l:List Tm):Ev.sc n (Rw f etm k (jZ l))=true:=by
 have:=gU n hn l
 simp[Ev.sc,Rw,scL,this,hn]
theorem cI0 (n:Nat) (hn:0<n) (l:List Tm):Ev.sc n (qD l)=true:=lJ1 n hn ..
theorem cJ0:∀ (a b:List Tm),jZ (a++b)=jZ a++jZ b
 | [],b=>rfl
 | x :: a,b=>by rw[List.cons_append,jZ,cJ0 a b,jZ,List.append_assoc]
theorem kW (x:Tm):jZ [x]=tmC x:=by rw[jZ,jZ,List.append_nil]
theorem yT0:∀ (l:List Tm) (i:Nat),(jZ l).drop (i*9)=jZ (l.drop i)
 | l,0=>by simp
 | [],i+1=>by simp[jZ]
 | x :: l,i+1=>by
  rw[jZ,List.drop_succ_cons,← yT0 l i,Nat.add_mul,Nat.one_mul,Nat.add_comm,← List.drop_drop,List.drop_append_of_le_length (by rw[qM];exact Nat.le_refl _),show (tmC x).drop 9=[] from List.drop_of_length_le (by rw[qM];exact Nat.le_refl _),List.nil_append]
theorem zM0:∀ (l:List Tm) (i:Nat),(jZ l).take (i*9)=jZ (l.take i)
 | l,0=>by simp[jZ]
 | [],i+1=>by simp[jZ]
 | x :: l,i+1=>by
  rw[jZ,List.take_succ_cons,jZ,← zM0 l i,Nat.add_mul,Nat.one_mul,Nat.add_comm,List.take_append,qM,List.take_of_length_le (by rw[qM];omega),Nat.add_sub_cancel_left]
theorem qV {l:List Tm} {i:Nat} {x:Tm} (h:l[i]?=some x):((jZ l).drop (i*9)).take 9=tmC x:=by
 have hi:i<l.length:=(List.getElem?_eq_some_iff.1 h).1
 have hd:l.drop i=x :: l.drop (i+1):=by rw[List.drop_eq_getElem_cons hi];congr 1;exact (List.getElem?_eq_some_iff.1 h).2
 rw[yT0,hd,jZ,List.take_append_of_le_length (by rw[qM];exact Nat.le_refl _),List.take_of_length_le (by rw[qM];exact Nat.le_refl _)]
theorem bV1 (x:Tm):Value.agg ⟨tmC x⟩=tmV x:=rfl
theorem qC1 (x:Tm):(tmV x).cells.toList=tmC x:=rfl
theorem bW1 (x:Tm):(tmC x).take 9=tmC x:=List.take_of_length_le (by rw[qM];exact Nat.le_refl _)
theorem nG1 (x:Tm) (l:List Tm):(jZ (x :: l)).take 9=tmC x:=qV (l:=x :: l) (i:=0) rfl
theorem nF1 (x y:Tm) (l:List Tm):((jZ (x :: y :: l)).drop 9).take 9=tmC y:=qV (l:=x :: y :: l) (i:=1) rfl
attribute [push_cast] qQ gW bV1 gU qH0 cI0 lJ1 qI0 wK0 qJ0 qC1 bW1 qM nG1 nF1
def Tm.k:Tm→Int | .mk k _ _ _ _ _=>k
def Tm.a:Tm→Int | .mk _ a _ _ _ _=>a
def Tm.b:Tm→Int | .mk _ _ b _ _ _=>b
def Tm.s:Tm→List UInt8 | .mk _ _ _ s _ _=>s
def Tm.l:Tm→List Tm | .mk _ _ _ _ _ l=>l
theorem Tm.k_mk (k a b:Int) (s:List UInt8) (e:Ex) (l:List Tm):Tm.k (.mk k a b s e l)=k:=rfl
theorem Tm.l_mk (k a b:Int) (s:List UInt8) (e:Ex) (l:List Tm):Tm.l (.mk k a b s e l)=l:=rfl
inductive Pr where
 | mk (k:Int) (n:List UInt8) (t:List UInt8) (e:Ex) (l:List Pr)
inductive Ra where
 | mk (k:Int) (n:Int) (l:List Ra)
inductive Rb where
 | mk (k:Int) (a:Int) (b:Int) (e:List Ra) (l:List Rb)
theorem wJ1 (G:Nat×Nat) (n:Nat) (σ:jA):FzV (pp G).P n σ (.slice none 0 0) (qD []):=.nil (size:=9) rfl (by decide)
theorem wK1 (G:Nat×Nat) (n:Nat) (σ:jA):FzV (pp G).P n σ (.slice none 0 0) (exsV []):=.nil (size:=4) rfl (by decide)
theorem zL2 (G:Nat×Nat) (n:Nat) (σ:jA):FzV (pp G).P n σ (.slice none 0 0) (ivV []):=.nil (size:=1) rfl (by decide)
theorem zK2 (G:Nat×Nat) (n:Nat) (σ:jA):FzV (pp G).P n σ (.slice none 0 0) (nsV []):=.nil (size:=1) rfl (by decide)
end
end Go.Proofs.YtdcjpmjmjinjmaaDoor
namespace Go.Proofs.YtdcjpmjmjinjmaaDoor
open _root_.Go.Proofs.Tryd (prog)
open Go Go.RowKit Go.Ev Go.Dv
noncomputable section
set_option maxRecDepth 100000
variable (G:Nat×Nat)
theorem qU0 {A c z:List Value} {w k off:Nat} (hA:A.length=off) (hz:z.length=w):(A++(List.replicate (k+1) z).flatten).take off++c++(A++(List.replicate (k+1) z).flatten).drop (off+w)=(A++c)++(List.replicate k z).flatten:=by
 subst hA
 rw[List.take_left,List.drop_append,List.drop_of_length_le (by omega),List.nil_append,Nat.add_sub_cancel_left,List.replicate_succ,List.flatten_cons,List.drop_append,List.drop_of_length_le (by omega),List.nil_append,hz,Nat.sub_self,List.drop_zero]
theorem zC0 {A z:List Value} {w k off n:Nat} (hA:A.length=off) (hz:z.length=w) (hn:off+k*w=n):(A++(List.replicate k z).flatten).length=n:=by
 rw[List.length_append,List.length_flatten,List.map_replicate,List.sum_replicate_nat,hA,hz,hn]
theorem qL {α:Type} {l:List α} {i:Nat} {x:α} (h:l[i]?=some x):l.take (i+1)=l.take i++[x]:=by
 rw[List.take_add_one,h];rfl
theorem qJ {α:Type} {l:List α} {i:Nat} (h:i<l.length):∃ x,l[i]?=some x:=⟨_,List.getElem?_eq_getElem h⟩
def zex:List Value:=[.int .i64 0,.int .i64 0,.string (Tx []),.slice none 0 0]
inductive ILex (l:List Ex) (fv:Value):Nat→S→Prop
 | mk (i:Nat) (iv:Int) (h:jA) {x0 x2 x3 x4 x6 x7 x8 x9 xA xB xC xD xH xI xJ xK xL xM xN xO xP xQ xR xS:Value} (hiv:iv=(i:Int)) (hi:i≤l.length) (c1:cells h 1=some (wY (l.take i)++(List.replicate (l.length-i) zex).flatten,25,false)) (hl1:h.lo=1) (hl2:2≤h.next) :
  ILex l fv (l.length-i) ⟨(F29 x0 fv x2 x3 x4 (.slice (some ⟨1,0,none⟩) l.length l.length) x6 x7 x8 x9 xA xB xC xD (Rw false eE l.length (wY l)) (.int .i64 l.length) (.int .i64 iv) xH xI xJ xK xL xM xN xO xP xQ xR xS),[],h⟩
theorem cZ1 (l:List Ex) (f:FuncId) (hll:l.length<100000000000) (hf:∀ x∈l,jI (pp G) H0 f [exV x] (exV x)):jI (pp G) H0 63 [exsV l,.func (.func f) #[] #[]] (exsV l):=by
 refine cE G fir63 (by kernel_rfl) (bE0 ..) fun hlo=>?_;rw[oJ1]
 unfold exsV
 by_cases h0:l.length=0
 ·have h0':(l.length:Int)=0:=by omega
  obtain rfl:l=[]:=List.length_eq_zero_iff.1 h0
  simp(disch:=first|omega|(apply id;simp only[push_cast];try omega))only[push_cast,simprocAttr,h0']
  exact .nil (size:=4) rfl (by decide)
 have h0':¬ (l.length:Int)=0:=by omega
 have h1:(l.length:Int)*400+l.length<100000000000000:=by omega
 simp(disch:=first|omega|(apply id;simp only[push_cast];try omega))only[push_cast,simprocAttr,h0',h1]
 refine WD.loop4 (q:=qq) (jX G) (by kernel_rfl) (ILex l (.func (.func f) #[] #[])) ?_ _ _ (ILex.mk 0 0 _ rfl (Nat.zero_le _) (by simp(disch:=first|omega|(apply id;simp only[push_cast];try omega))only[push_cast,simprocAttr,List.take_zero];rfl) rfl tH)
 intro m s1 hI
 cases hI with|mk i iv h hiv hi c1 hl1 hl2=>
 subst hiv
 rw[pS0]
 by_cases hil:(i:Int)<l.length
 ·obtain ⟨x,hx⟩:=qJ (l:=l) (i:=i) (by omega)
  have hxm:=List.mem_of_getElem? hx
  have hp:=zD0 hx
  have hle:i*4+4≤l.length*4:=by omega
  simp(disch:=first|omega|(apply id;simp only[push_cast];try omega))only[push_cast,simprocAttr,hil,Int.toNat_natCast,hp,hle,hl1]
  refine dK (hf x hxm) ?_
  obtain ⟨k,hk⟩:∃ k,l.length-i=k+1:=⟨l.length-i-1,by omega⟩
  have hta:(wY (l.take i)).length=i*4:=by rw[yK0,List.length_take,Nat.min_eq_left hi]
  have hlen:=zC0 (w:=4) (z:=zex) (k:=l.length-i) (n:=l.length*4) hta rfl (by rw[Nat.sub_mul];omega)
  have hst:=qU0 (c:=exC x) (w:=4) (z:=zex) (k:=k) hta rfl
  rw[← hk,← mC1,← oM0,← qL hx,show k=l.length-(i+1) by omega,mC1] at hst
  simp(disch:=first|omega|(apply id;simp only[push_cast];try omega))only[push_cast,simprocAttr,hil,Int.toNat_natCast,hle,hl1,c1,hlen,hst]
  exact ⟨_,by omega,ILex.mk (i+1) _ _ (by first|rfl|omega) (by omega) tH (by first|assumption|(simp(disch:=first|omega|(apply id;simp only[push_cast];try omega))only[push_cast,simprocAttr,hl1];try omega)) tH⟩
 ·have hie:i=l.length:=by omega
  subst hie
  rw[List.take_length,Nat.sub_self,List.replicate_zero,List.flatten_nil,List.append_nil] at c1
  simp(disch:=first|omega|(apply id;simp only[push_cast];try omega))only[push_cast,simprocAttr,hil]
  rw[pR0]
  simp(disch:=first|omega|(apply id;simp only[push_cast];try omega))only[push_cast,simprocAttr]
  refine .sl (by simp(disch:=first|omega|(apply id;simp only[push_cast];try omega))only[push_cast,simprocAttr]) c1 (size:=4) rfl (by decide) tH (.inl ⟨by simp only[UC];omega,Nat.le_refl _⟩) ?_
  rw[List.drop_zero,List.take_of_length_le (by rw[yK0];exact Nat.le_refl _)]
  exact .ids (wB0 _ H0q l)
def ztm:List Value:=[.int .i64 0,.int .i64 0,.int .i64 0,.string (Tx []),.int .i64 0,.int .i64 0,.string (Tx []),.slice none 0 0,.slice none 0 0]
inductive ILtm (l:List Tm) (fv:Value):Nat→S→Prop
 | mk (i:Nat) (iv:Int) (h:jA) {x0 x2 x3 x4 x6 x7 x8 x9 xA xB xC xD xH xI xJ xK xL xM xN xO xP xQ xR xS:Value} (hiv:iv=(i:Int)) (hi:i≤l.length) (c1:cells h 1=some (jZ (l.take i)++(List.replicate (l.length-i) ztm).flatten,28,false)) (hl1:h.lo=1) (hl2:2≤h.next) :
  ILtm l fv (l.length-i) ⟨(F29 x0 fv x2 x3 x4 (.slice (some ⟨1,0,none⟩) l.length l.length) x6 x7 x8 x9 xA xB xC xD (Rw false etm l.length (jZ l)) (.int .i64 l.length) (.int .i64 iv) xH xI xJ xK xL xM xN xO xP xQ xR xS),[],h⟩
theorem dI0 (l:List Tm) (f:FuncId) (hll:l.length<100000000000) (hf:∀ x∈l,jI (pp G) H0 f [tmV x] (tmV x)):jI (pp G) H0 64 [qD l,.func (.func f) #[] #[]] (qD l):=by
 refine cE G fir64 (by kernel_rfl) (bE0 ..) fun hlo=>?_;rw[oI1]
 unfold qD
 by_cases h0:l.length=0
 ·have h0':(l.length:Int)=0:=by omega
  obtain rfl:l=[]:=List.length_eq_zero_iff.1 h0
  simp(disch:=first|omega|(apply id;simp only[push_cast];try omega))only[push_cast,simprocAttr,h0']
  exact .nil (size:=9) rfl (by decide)
 have h0':¬ (l.length:Int)=0:=by omega
 have h1:(l.length:Int)*400+l.length<100000000000000:=by omega
 simp(disch:=first|omega|(apply id;simp only[push_cast];try omega))only[push_cast,simprocAttr,h0',h1]
 refine WD.loop4 (q:=qq) (jX G) (by kernel_rfl) (ILtm l (.func (.func f) #[] #[])) ?_ _ _ (ILtm.mk 0 0 _ rfl (Nat.zero_le _) (by simp(disch:=first|omega|(apply id;simp only[push_cast];try omega))only[push_cast,simprocAttr,List.take_zero];rfl) rfl tH)
 intro m s1 hI
 cases hI with|mk i iv h hiv hi c1 hl1 hl2=>
 subst hiv
 rw[pQ0]
 by_cases hil:(i:Int)<l.length
 ·obtain ⟨x,hx⟩:=qJ (l:=l) (i:=i) (by omega)
  have hxm:=List.mem_of_getElem? hx
  have hp:=qV hx
  have hle:i*9+9≤l.length*9:=by omega
  simp(disch:=first|omega|(apply id;simp only[push_cast];try omega))only[push_cast,simprocAttr,hil,Int.toNat_natCast,hp,hle,hl1]
  refine dK (hf x hxm) ?_
  obtain ⟨k,hk⟩:∃ k,l.length-i=k+1:=⟨l.length-i-1,by omega⟩
  have hta:(jZ (l.take i)).length=i*9:=by rw[gW,List.length_take,Nat.min_eq_left hi]
  have hlen:=zC0 (w:=9) (z:=ztm) (k:=l.length-i) (n:=l.length*9) hta rfl (by rw[Nat.sub_mul];omega)
  have hst:=qU0 (c:=tmC x) (w:=9) (z:=ztm) (k:=k) hta rfl
  rw[← hk,← kW,← cJ0,← qL hx,show k=l.length-(i+1) by omega,kW] at hst
  simp(disch:=first|omega|(apply id;simp only[push_cast];try omega))only[push_cast,simprocAttr,hil,Int.toNat_natCast,hle,hl1,c1,hlen,hst]
  exact ⟨_,by omega,ILtm.mk (i+1) _ _ (by first|rfl|omega) (by omega) tH (by first|assumption|(simp(disch:=first|omega|(apply id;simp only[push_cast];try omega))only[push_cast,simprocAttr,hl1];try omega)) tH⟩
 ·have hie:i=l.length:=by omega
  subst hie
  rw[List.take_length,Nat.sub_self,List.replicate_zero,List.flatten_nil,List.append_nil] at c1
  simp(disch:=first|omega|(apply id;simp only[push_cast];try omega))only[push_cast,simprocAttr,hil]
  rw[pP0]
  simp(disch:=first|omega|(apply id;simp only[push_cast];try omega))only[push_cast,simprocAttr]
  refine .sl (by simp(disch:=first|omega|(apply id;simp only[push_cast];try omega))only[push_cast,simprocAttr]) c1 (size:=9) rfl (by decide) tH (.inl ⟨by simp only[UC];omega,Nat.le_refl _⟩) ?_
  rw[List.drop_zero,List.take_of_length_le (by rw[gW];exact Nat.le_refl _)]
  exact .ids (gU _ H0q l)
mutual
def smE:Ex→Bool
 | .mk k n s l=>decide (l.length<100000000000)&&smEs l
def smEs:List Ex→Bool
 | []=>true
 | x :: l=>smE x&&smEs l
end
mutual
def smT:Tm→Bool
 | .mk k a b s e l=>decide (l.length<100000000000)&&smE e&&smTs l
def smTs:List Tm→Bool
 | []=>true
 | x :: l=>smT x&&smTs l
end
theorem cS0:∀ {l:List Ex},smEs l=true→∀ x∈l,smE x=true
 | [],_,x,hx=>by cases hx
 | y :: l,h,x,hx=>by
  simp only[smEs,Bool.and_eq_true] at h
  rcases List.mem_cons.1 hx with rfl|hx
  ·exact h.1
  ·exact cS0 h.2 x hx
theorem qA:∀ {l:List Tm},smTs l=true→∀ x∈l,smT x=true
 | [],_,x,hx=>by cases hx
 | y :: l,h,x,hx=>by
  simp only[smTs,Bool.and_eq_true] at h
  rcases List.mem_cons.1 hx with rfl|hx
  ·exact h.1
  ·exact qA h.2 x hx
theorem zN0:∀ {l:List Tm},(∀ x∈l,smT x=true)→smTs l=true
 | [],_=>rfl
 | y :: l,h=>by rw[smTs,h y (by simp),zN0 fun x hx=>h x (by simp[hx])];rfl
theorem nS0:∀ x:Ex,smE x=true→jI (pp G) H0 45 [exV x] (exV x)
 | .mk k n s l,hs=>by
  simp only[smE,Bool.and_eq_true,decide_eq_true_eq] at hs
  have hl:=cZ1 G l 45 hs.1 fun x hx=>nS0 x (cS0 hs.2 x hx)
  refine cE G fir45 (by kernel_rfl) (pC0 ..) fun hlo=>?_;rw[pA1]
  unfold exV exC
  simp(disch:=first|omega|(apply id;simp only[push_cast];try omega))only[push_cast,simprocAttr]
  refine dK (hl) ?_
  unfold exsV
  simp(disch:=first|omega|(apply id;simp only[push_cast];try omega))only[push_cast,simprocAttr]
  exact .id (oK0 _ H0q (.mk k n s l))
 termination_by x=>SizeOf.sizeOf x
theorem gA0:∀ x:Tm,smT x=true→jI (pp G) H0 26 [tmV x] (tmV x)
 | .mk k a b s e l,hs=>by
  simp only[smT,Bool.and_eq_true,decide_eq_true_eq] at hs
  have hl:=dI0 G l 26 hs.1.1 fun x hx=>gA0 x (qA hs.2 x hx)
  have hT:jI (pp G) H0 46 [qD l] (qD l):=by
   refine cE G kS2 (by kernel_rfl) (pD0 ..) fun hlo=>?_;rw[qY1]
   unfold qD
   simp(disch:=first|omega|(apply id;simp only[push_cast];try omega))only[push_cast,simprocAttr]
   refine dK (hl) ?_
   unfold qD
   simp(disch:=first|omega|(apply id;simp only[push_cast];try omega))only[push_cast,simprocAttr]
   exact .id (by simp(disch:=first|omega|(apply id;simp only[push_cast];try omega))only[push_cast,simprocAttr])
  refine cE G fir26 (by kernel_rfl) (mZ0 ..) fun hlo=>?_;rw[pS1]
  unfold tmV tmC
  simp(disch:=first|omega|(apply id;simp only[push_cast];try omega))only[push_cast,simprocAttr]
  refine dK (nS0 G e hs.1.2) ?_
  simp(disch:=first|omega|(apply id;simp only[push_cast];try omega))only[push_cast,simprocAttr,oN0]
  refine dK (hT) ?_
  unfold qD
  simp(disch:=first|omega|(apply id;simp only[push_cast];try omega))only[push_cast,simprocAttr,oN0]
  exact .id (qH0 _ H0q (.mk k a b s e l))
 termination_by x=>SizeOf.sizeOf x
mutual
def zP0:Tm→Int
 | .mk _ _ _ _ _ l=>1+uK l
def uK:List Tm→Int
 | []=>0
 | x :: l=>zP0 x+uK l
end
theorem bM0:∀ (a b:List Tm),uK (a++b)=uK a+uK b
 | [],b=>by simp[uK]
 | x :: a,b=>by rw[List.cons_append,uK,uK,bM0 a b];omega
theorem jR0 {l:List Tm} {i:Nat} {x:Tm} (h:l[i]?=some x):uK (l.take (i+1))=uK (l.take i)+zP0 x:=by
 rw[qL h,bM0,uK,uK];omega
theorem eY1 (a b:Int):IntKind.i64.wrap (W a+W b)=W (a+b):=by
 unfold W;simp only[IntKind.wrap_i64];omega
inductive I58 (l:List Tm):Nat→S→Prop
 | mk (i:Nat) (iv n:Int) (h:jA) {x0 x1 x2 x4 x5 x6 xA xB xC xD xE xF xG xH xI:Value} (hiv:iv=(i:Int)) (hi:i≤l.length) (hn:n=W (1+uK (l.take i))) (hl1:h.lo=1) (hl2:1≤h.next) :
  I58 l (l.length-i) ⟨(F19 x0 x1 x2 (.int .i64 n) x4 x5 x6 (qD l) (.int .i64 l.length) (.int .i64 iv) xA xB xC xD xE xF xG xH xI),[],h⟩
theorem nO0:∀ t:Tm,smT t=true→jI (pp G) H0 18 [tmV t] (.int .i64 (W (zP0 t)))
 | .mk k a b s e l,hs=>by
  simp only[smT,Bool.and_eq_true,decide_eq_true_eq] at hs
  have hsl:=hs.1.1
  have ih:∀ x∈l,jI (pp G) H0 18 [tmV x] (.int .i64 (W (zP0 x))):=fun x hx=>nO0 x (qA hs.2 x hx)
  refine cE G fir18 (by kernel_rfl) (eI0 ..) fun hlo=>?_;rw[pZ1]
  rw[zP0]
  simp(disch:=first|omega|(apply id;simp only[push_cast];try omega))only[push_cast,simprocAttr]
  refine WD.loop4 (q:=qq) (jX G) (by kernel_rfl) (I58 l) ?_ _ _ (I58.mk 0 0 _ _ rfl (Nat.zero_le _) rfl rfl tH)
  intro m s1 hI
  cases hI with|mk i iv n h hiv hi hn hl1 hl2=>
  subst hiv hn
  rw[sA0]
  unfold qD
  by_cases hil:(i:Int)<l.length
  ·obtain ⟨x,hx⟩:=qJ (l:=l) (i:=i) (by omega)
   have hp:=qV hx
   have hle2:i*9+9≤l.length*9:=by omega
   simp(disch:=first|omega|(apply id;simp only[push_cast];try omega))only[push_cast,simprocAttr,hil,Int.toNat_natCast,hp,hle2,hl1]
   refine dK (ih x (List.mem_of_getElem? hx)) ?_
   simp(disch:=first|omega|(apply id;simp only[push_cast];try omega))only[push_cast,simprocAttr,eY1]
   exact ⟨_,by omega,I58.mk (i+1) _ _ _ (by first|rfl|omega) (by omega) (by rw[jR0 hx];congr 1;omega) (by first|assumption|(simp(disch:=first|omega|(apply id;simp only[push_cast];try omega))only[push_cast,simprocAttr,hl1];try omega)) tH⟩
  ·have hie:i=l.length:=by omega
   subst hie
   simp(disch:=first|omega|(apply id;simp only[push_cast];try omega))only[push_cast,simprocAttr,hil]
   rw[rZ0]
   simp(disch:=first|omega|(apply id;simp only[push_cast];try omega))only[push_cast,simprocAttr,List.take_length]
   exact .id rfl
 termination_by x=>SizeOf.sizeOf x
inductive I59 (t:Tm):Nat→S→Prop
 | mk (i:Nat) (iv n:Int) (h:jA) {x0 x2 x5 x6 x7 x8 x9 xA xB xC xD xE xF xG xH xI xJ xK:Value} (hiv:iv=(i:Int)) (hi:i≤t.l.length) (hn:n=W (1+uK (t.l.take i))) (c1:cells h 1=some (tmC t,28,false)) (hl1:h.lo=1) (hl2:2≤h.next) :
  I59 t (t.l.length-i) ⟨(F21 x0 (.pointer (some ⟨1,0,none⟩)) x2 (.int .i64 n) (.int .i64 iv) x5 x6 x7 x8 x9 xA xB xC xD xE xF xG xH xI xJ xK),[],h⟩
theorem qP1:∀ t:Tm,smT t=true→jI (pp G) H0 9 [tmV t] (.int .i64 (W (zP0 t)))
 | .mk k a b s e l,hs=>by
  simp only[smT,Bool.and_eq_true,decide_eq_true_eq] at hs
  have hsl:=hs.1.1
  have ih:∀ x∈l,jI (pp G) H0 9 [tmV x] (.int .i64 (W (zP0 x))):=fun x hx=>qP1 x (qA hs.2 x hx)
  refine cE G fir9 (by kernel_rfl) (eH0 ..) fun hlo=>?_;rw[uY2]
  rw[zP0]
  simp(disch:=first|omega|(apply id;simp only[push_cast];try omega))only[push_cast,simprocAttr]
  refine WD.loop4 (q:=qq) (jX G) (by kernel_rfl) (I59 (.mk k a b s e l)) ?_ _ _ (I59.mk 0 0 _ _ rfl (Nat.zero_le _) rfl tH rfl tH)
  intro m s1 hI
  cases hI with|mk i iv n h hiv hi hn c1 hl1 hl2=>
  subst hiv hn
  simp only[Tm.l_mk] at hi
  rw[qT1]
  by_cases hil:(i:Int)<l.length
  ·obtain ⟨x,hx⟩:=qJ (l:=l) (i:=i) (by omega)
   have hp:=qV hx
   have hle2:i*9+9≤l.length*9:=by omega
   simp(disch:=first|omega|(apply id;simp only[push_cast];try omega))only[push_cast,simprocAttr,hil,Int.toNat_natCast,hp,hle2,hl1,c1]
   refine dK (ih x (List.mem_of_getElem? hx)) ?_
   simp(disch:=first|omega|(apply id;simp only[push_cast];try omega))only[push_cast,simprocAttr,eY1]
   exact ⟨_,by simp only[Tm.l_mk];omega,I59.mk (i+1) _ _ _ (by first|rfl|omega) (by simp only[Tm.l_mk];omega) (by rw[Tm.l_mk,jR0 hx];congr 1;omega) (by first|assumption|(simp(disch:=first|omega|(apply id;simp only[push_cast];try omega))only[push_cast,simprocAttr,c1];try omega)) (by first|assumption|(simp(disch:=first|omega|(apply id;simp only[push_cast];try omega))only[push_cast,simprocAttr,hl1];try omega)) tH⟩
  ·have hie:i=l.length:=by omega
   subst hie
   simp(disch:=first|omega|(apply id;simp only[push_cast];try omega))only[push_cast,simprocAttr,hil,c1,hl1]
   rw[qS1]
   simp(disch:=first|omega|(apply id;simp only[push_cast];try omega))only[push_cast,simprocAttr,List.take_length,Tm.l_mk]
   exact .id rfl
 termination_by x=>SizeOf.sizeOf x
end
end Go.Proofs.YtdcjpmjmjinjmaaDoor
namespace Go.Proofs.YtdcjpmjmjinjmaaDoor
open _root_.Go.Proofs.Tryd (prog)
open Go Go.RowKit Go.Ev Go.Dv
noncomputable section
set_option maxRecDepth 100000
def zE:Ex:=.mk 0 0 [] []
def zT:Tm:=.mk 0 0 0 [] zE []
theorem OwnD.lt {σ:jA} {e n:Nat} {a:Option Addr} {len c:Nat} {cs:List Value} (ho:OwnD σ e n a len c cs) {b:Nat} (hb:blk a b):σ.lo≤b∧b<σ.next:=by
 obtain ⟨o,s,rfl⟩:=hb
 rcases ho.hat with ⟨e,_⟩|⟨q,_,e,h1,h2,_⟩
 ·cases e
 ·cases e;exact ⟨h1,h2⟩
theorem rowT1 (t:Tm) (σ:jA):bsD (qq.m 26) (slT prog 26) 1 [(0,tmV t)] σ=some (Rw true 28 1 (jZ [t]),σ):=by
 rw[kW];cases t;kernel_rfl
end
end Go.Proofs.YtdcjpmjmjinjmaaDoor
namespace Go.Proofs.YtdcjpmjmjinjmaaDoor
open _root_.Go.Proofs.Tryd (prog)
open Go Go.RowKit Go.Ev Go.Dv
noncomputable section
set_option maxRecDepth 100000
variable (G:Nat×Nat)
mutual
def uD:Tm→List Tm
 | .mk k a b s e l=>.mk k a b s e l :: (if k=12 then actH l else if k=11∨k=7 then wZ l else [])
def wZ:List Tm→List Tm
 | []=>[]
 | x :: l=>uD x++wZ l
def actH:List Tm→List Tm
 | []=>[]
 | x :: _=>uD x
end
theorem eG0:∀ (a b:List Tm),wZ (a++b)=wZ a++wZ b
 | [],b=>rfl
 | x :: a,b=>by rw[List.cons_append,wZ,wZ,eG0 a b,List.append_assoc]
theorem iN0 (l:List Tm):actH l=wZ (l.take 1):=by
 cases l with
 | nil=>rfl
 | cons x l=>rw[actH,List.take_succ_cons,List.take_zero,wZ,wZ,List.append_nil]
theorem iM0 {l:List Tm} {i:Nat} {x:Tm} (h:l[i]?=some x):wZ (l.take (i+1))=wZ (l.take i)++uD x:=by
 rw[qL h,eG0,wZ,wZ,List.append_nil]
structure Yp (lid:Nat) (Y:List Tm→(Nat→Prop)→jA→Prop) (N:List Tm→Prop):Prop where
 lt:∀ {acc B σ},Y acc B σ→∀ k,B k→k<σ.next
 lo:∀ {acc B σ},Y acc B σ→σ.lo=1∧1≤σ.next∧lid<σ.next
 st:∀ {acc B σ σ'},Y acc B σ→jD σ σ' (fun k=>¬ B k)→Y acc B σ'
 y:∀ {acc B σ},Y acc B σ→∀ x,smT x=true→N (acc++[x])→jC (pp G) H0 (.func (.yield lid) ⟨[]⟩ ⟨[]⟩) [tmV x] σ (fun _ v σ'=>v=.bool true∧∃ B',Y (acc++[x]) B' σ'∧(∀ k,B' k→B k∨σ.next≤k)∧jD σ σ' B)
 n:∀ {a b},N (a++b)→N a
def nA0 (Y:List Tm→(Nat→Prop)→jA→Prop) (acc:List Tm) (B:Nat→Prop) (σ:jA) (v:Value) (σ':jA):Prop:=v=.bool true∧∃ B',Y acc B' σ'∧(∀ k,B' k→B k∨σ.next≤k)∧jD σ σ' B
inductive I63 (lid:Nat) (Y:List Tm→(Nat→Prop)→jA→Prop) (acc:List Tm) (B:Nat→Prop) (σ:jA) (l:List Tm):Nat→S→Prop
 | mk (i:Nat) (iv:Int) (h:jA) (B':Nat→Prop) {x0 x2 x3 x4 x5 x6 x7 x8 x9 xA xB xC xD xE xF xG xH xI xJ xK xL xM xN xO xP xT xU xV xW xX xY xZ yA:Value} (hiv:iv=(i:Int)) (hi:i≤l.length) (hY:Y (acc++wZ (l.take i)) B' h) (hB:∀ k,B' k→B k∨σ.next≤k) (g:jD σ h B) :
  I63 lid Y acc B σ l (l.length-i) ⟨(F37 x0 (.func (.yield lid) ⟨[]⟩ ⟨[]⟩) x2 x3 x4 x5 x6 x7 x8 x9 xA xB xC xD xE xF xG xH xI xJ xK xL xM xN xO xP (Rw false etm l.length (jZ l)) (.int .i64 l.length) (.int .i64 iv) xT xU xV xW xX xY xZ yA),[],h⟩
theorem mK0 {lid:Nat} {Y:List Tm→(Nat→Prop)→jA→Prop} {N:List Tm→Prop} (yp:Yp G lid Y N) (l:List Tm) (hll:l.length<100000000000) (hsl:smTs l=true)
  (ih:∀ x∈l,∀ (acc:List Tm) (B:Nat→Prop) (σ:jA),Y acc B σ→N (acc++uD x)→jO (pp G) H0 57 [tmV x,.func (.yield lid) ⟨[]⟩ ⟨[]⟩] σ (nA0 Y (acc++uD x) B σ))
  (acc:List Tm) (B:Nat→Prop) (σ:jA) (hY:Y acc B σ) (hN:N (acc++wZ l)) {R:Value→jA→Prop} (hR:∀ v σ',nA0 Y (acc++wZ l) B σ v σ'→R v σ') {x0 x2 x3 x4 x6 x7 x8 x9 xA xB xC xD xE xF xG xH xI xJ xK xL xM xN xO xP xQ xR xS xT xU xV xW xX xY xZ yA:Value} :
  dc3 (pp G) qq none gG0 ⟨(F37 x0 (.func (.yield lid) ⟨[]⟩ ⟨[]⟩) x2 x3 x4 (Rw false etm l.length (jZ l)) x6 x7 x8 x9 xA xB xC xD xE xF xG xH xI xJ xK xL xM xN xO xP xQ xR xS xT xU xV xW xX xY xZ yA),[],σ⟩ (@kR ⟨jH prog [.tmp 4] R⟩):=by
 rw[pX0]
 simp(disch:=first|omega|(apply id;simp only[push_cast];try omega))only[push_cast,simprocAttr]
 refine WD.loop4 (q:=qq) (jX G) (by kernel_rfl) (I63 lid Y acc B σ l) ?_ _ _ (I63.mk 0 0 _ B rfl (Nat.zero_le _) (by rw[List.take_zero,wZ,List.append_nil];exact hY) (fun k hk=>.inl hk) (jD.refl _ _))
 intro m s1 hI
 cases hI with|mk i iv h B' hiv hi hY' hB g=>
 subst hiv
 rw[pW0]
 obtain ⟨hl1,hl2,hl3⟩:=yp.lo hY'
 by_cases hil:(i:Int)<l.length
 ·obtain ⟨x,hx⟩:=qJ (l:=l) (i:=i) (by omega)
  have hxm:=List.mem_of_getElem? hx
  have hp:=qV hx
  have hle:i*9+9≤l.length*9:=by omega
  simp(disch:=first|omega|(apply id;simp only[push_cast];try omega))only[push_cast,simprocAttr,hil,Int.toNat_natCast,hp,hle,hl1]
  obtain ⟨τ,hτ⟩:∃ τ,τ=(h.add (O [.int .i64 0,.int .i64 0,.int .i64 0,.string (Tx []),.int .i64 0,.int .i64 0,.string (Tx []),.slice none 0 0,.slice none 0 0] 28 false)).put h.next (O (tmC x) 28 false):=⟨_,rfl⟩
  have g0:jD h τ (fun _=>False):=by rw[hτ];exact (by (repeat (first|exact Gr.refl _|assumption|(refine jD.put' ?_ _ _ (by first|omega|(simp only[push_cast];omega)))|(refine jD.add' ?_ _))))
  have hY1:=yp.st hY' (g0.mono fun _ _ h=>h.elim)
  rw[← hτ]
  have hN2:N ((acc++wZ (l.take i))++uD x):=by
   have h1:wZ l=wZ (l.take (i+1))++wZ (l.drop (i+1)):=by rw[← eG0,List.take_append_drop]
   rw[h1,← List.append_assoc] at hN
   have:=yp.n hN
   rw[iM0 hx,← List.append_assoc] at this
   exact this
  refine jC.func (cap:=[]) (args:=[_,_]) (ih x hxm _ B' τ hY1 hN2) ?_
  rintro _ σ2 ⟨rfl,B2,hY2,hB2,g2⟩
  simp(disch:=first|omega|(apply id;simp only[push_cast];try omega))only[push_cast,simprocAttr,Bool.not_true]
  have hn0:=g0.next
  refine ⟨_,by omega,I63.mk (i+1) _ _ B2 (by first|rfl|omega) (by omega) (by rw[iM0 hx,← List.append_assoc];exact hY2) (fun k hk=>?_) ?_⟩
  ·have hng:=g.next
   rcases hB2 k hk with h1|h1
   ·exact hB k h1
   ·exact .inr (by omega)
  ·exact (g.tr' g0 fun _ _ h => h.elim).tr' g2 fun k hk hb => by
    rcases hB k hb with h1|h1
    ·exact h1
    ·omega
 ·have hie:i=l.length:=by omega
  subst hie
  rw[List.take_length] at hY'
  simp(disch:=first|omega|(apply id;simp only[push_cast];try omega))only[push_cast,simprocAttr,hil]
  rw[pV0]
  simp(disch:=first|omega|(apply id;simp only[push_cast];try omega))only[push_cast,simprocAttr]
  exact hR _ _ ⟨rfl,B',hY',hB,g⟩
theorem mF1 {lid:Nat} {Y:List Tm→(Nat→Prop)→jA→Prop} {N:List Tm→Prop} (yp:Yp G lid Y N):∀ (x:Tm),smT x=true→∀ (acc:List Tm) (B:Nat→Prop) (σ:jA),Y acc B σ→N (acc++uD x)→
   jO (pp G) H0 57 [tmV x,.func (.yield lid) ⟨[]⟩ ⟨[]⟩] σ (nA0 Y (acc++uD x) B σ)
 | .mk k a b s e l,hs,acc,B,σ,hY,hN=>by
  have hs0:=hs
  simp only[smT,Bool.and_eq_true,decide_eq_true_eq] at hs
  obtain ⟨⟨hll,hse⟩,hsl⟩:=hs
  have ih:∀ x∈l,∀ (acc:List Tm) (B:Nat→Prop) (σ:jA),Y acc B σ→N (acc++uD x)→jO (pp G) H0 57 [tmV x,.func (.yield lid) ⟨[]⟩ ⟨[]⟩] σ (nA0 Y (acc++uD x) B σ):=fun x hx=>mF1 yp x (qA hsl x hx)
  obtain ⟨hl1,hl2,hl3⟩:=yp.lo hY
  refine jO.fir4 (q:=qq) (jX G) fir57 (by kernel_rfl) rfl rfl (qG2 ..) (by first|exact Nat.le_trans (show NGG≤1 by decide) (by omega)) ?_;rw[oP1]
  have g0:jD σ (σ.add (O (tmC (.mk k a b s e l)) 28 false)) (fun _=>False):=by (repeat (first|exact Gr.refl _|assumption|(refine jD.put' ?_ _ _ (by first|omega|(simp only[push_cast];omega)))|(refine jD.add' ?_ _)))
  have hY1:=yp.st hY (g0.mono fun _ _ h=>h.elim)
  have hN1:N (acc++[.mk k a b s e l]):=by
   rw[uD,← List.singleton_append,← List.append_assoc] at hN
   exact yp.n hN
  simp(disch:=first|omega|(apply id;simp only[push_cast];try omega))only[push_cast,simprocAttr,hl1]
  refine jC.mono (yp.y hY1 _ hs0 hN1) ?_
  rintro _ _ σ2 ⟨rfl,B2,hY2,hB2,g2⟩
  have hnB:¬ B σ.next:=fun hb=>by have:=yp.lt hY _ hb;omega
  have c0:cells σ2 σ.next=some (tmC (.mk k a b s e l),28,false):=g2.cellsE (by simp(disch:=first|omega|(apply id;simp only[push_cast];try omega))only[push_cast,simprocAttr]) (by simp(disch:=first|omega|(apply id;simp only[push_cast];try omega))only[push_cast,simprocAttr];omega) hnB
  have hn2:=g2.next
  rw[jB] at hn2
  have hl2':σ2.lo=1:=(yp.lo hY2).1
  have fin:∀ (l':List Tm),uD (.mk k a b s e l)=.mk k a b s e l :: wZ l'→∀ v σ',nA0 Y ((acc++[.mk k a b s e l])++wZ l') B2 σ2 v σ'→nA0 Y (acc++uD (.mk k a b s e l)) B σ v σ':=by
   rintro l' he v σ' ⟨rfl,B3,hY3,hB3,g3⟩
   refine ⟨rfl,B3,by rw[he,← List.singleton_append,← List.append_assoc];exact hY3,fun k' hk=>?_,(g0.mono fun _ _ h=>h.elim).trans (g2.tr' g3 fun k' hk hb=>?_) fun _ _ h=>h⟩
   ·rcases hB3 k' hk with h1|h1
    ·rcases hB2 k' h1 with h2|h2
     ·exact .inl h2
     ·rw[jB] at h2;exact .inr (by omega)
    ·exact .inr (by omega)
   ·rcases hB2 k' hb with h2|h2
    ·exact h2
    ·omega
  have e0:(jZ l).take ((l.take 1).length*9)=jZ (l.take 1):=by rw[zM0];congr 1;cases l<;>rfl
  rw[qQ] at c0
  by_cases h1:k=12
  ·subst h1
   have he:uD (.mk 12 a b s e l)=.mk 12 a b s e l :: wZ (l.take 1):=by rw[uD,if_pos rfl,iN0]
   have hm:min 1 (l.length:Int)=((l.take 1).length:Int):=by rw[List.length_take];omega
   rw[he,← List.singleton_append,← List.append_assoc] at hN
   simp(disch:=first|omega|(apply id;simp only[push_cast];try omega))only[push_cast,simprocAttr,c0,hl2',wM1,hm,Int.toNat_natCast,e0,Bool.not_true]
   exact mK0 G yp (l.take 1) (by rw[List.length_take];omega) (zN0 fun x hx=>qA hsl x (List.mem_of_mem_take hx)) (fun x hx=>ih x (List.mem_of_mem_take hx)) _ _ _ hY2 hN (fin _ he)
  ·by_cases h2:k=11∨k=7
   ·have he:uD (.mk k a b s e l)=.mk k a b s e l :: wZ l:=by rw[uD,if_neg h1,if_pos h2]
    rw[he,← List.singleton_append,← List.append_assoc] at hN
    by_cases h3:k=11
    ·simp(disch:=first|omega|(apply id;simp only[push_cast];try omega))only[push_cast,simprocAttr,c0,hl2',h1,h3,Bool.not_true]
     exact mK0 G yp l hll hsl ih _ _ _ hY2 hN (fin l he)
    ·have h4:k=7:=by omega
     simp(disch:=first|omega|(apply id;simp only[push_cast];try omega))only[push_cast,simprocAttr,c0,hl2',h1,h3,h4,Bool.not_true]
     exact mK0 G yp l hll hsl ih _ _ _ hY2 hN (fin l he)
   ·have he:uD (.mk k a b s e l)=.mk k a b s e l :: wZ []:=by rw[uD,if_neg h1,if_neg h2];rfl
    have h3:¬ k=11:=fun h=>h2 (.inl h)
    have h4:¬ k=7:=fun h=>h2 (.inr h)
    simp(disch:=first|omega|(apply id;simp only[push_cast];try omega))only[push_cast,simprocAttr,c0,hl2',h1,h3,h4,Bool.not_true]
    exact fin [] he _ _ ⟨rfl,B2,by rw[wZ,List.append_nil];exact hY2,fun k hk=>.inl hk,jD.refl _ _⟩
 termination_by x=>SizeOf.sizeOf x
theorem eX1 (x:Tm) (σ:jA) (hl0:1≤σ.lo):jO (pp G) H0 40 [tmV x] σ (fun v σ'=>v=.func (.func 56) ⟨[]⟩ ⟨[.pointer (some ⟨σ.next,0,none⟩)]⟩∧σ'=σ.add (O (tmC x) 28 false)):=by
 refine jO.fir4 (q:=qq) (jX G) fir40 (by kernel_rfl) rfl rfl (iT0 ..) (by first|exact Nat.le_trans (show NGG≤1 by decide) (by omega)) ?_;rw[pF1]
 simp(disch:=first|omega|(apply id;simp only[push_cast];try omega))only[push_cast,simprocAttr]
 try exact ⟨rfl,rfl⟩
theorem gN1 {lid:Nat} {Y:List Tm→(Nat→Prop)→jA→Prop} {N:List Tm→Prop} (yp:Yp G lid Y N) (x:Tm) (hs:smT x=true) (b:Nat) (B:Nat→Prop) (σ:jA) (hb:cells σ b=some (tmC x,28,false)) (hb1:1≤b) (hY:Y [] B σ) (hN:N (uD x)) :
  jO (pp G) H0 56 [.func (.yield lid) ⟨[]⟩ ⟨[]⟩,.pointer (some ⟨b,0,none⟩)] σ (fun _ σ'=>nA0 Y (uD x) B σ (.bool true) σ'):=by
 obtain ⟨hl1,hl2,hl3⟩:=yp.lo hY
 refine jO.fir4 (q:=qq) (jX G) fir56 (by kernel_rfl) rfl rfl (mP1 ..) (by first|exact Nat.le_trans (show NGG≤1 by decide) (by omega)) ?_;rw[oQ1]
 simp(disch:=first|omega|(apply id;simp only[push_cast];try omega))only[push_cast,simprocAttr,hb,hl1]
 refine jC.func (cap:=[]) (args:=[_,_]) (mF1 G yp x hs [] B σ hY hN) ?_
 rintro _ σ2 ⟨rfl,B2,hY2,hB2,g2⟩
 simp(disch:=first|omega|(apply id;simp only[push_cast];try omega))only[push_cast,simprocAttr]
 exact ⟨rfl,B2,hY2,hB2,g2⟩
def wS (acc:List Tm):List Int:=(acc.filter fun x=>decide (x.k=14)).map Tm.a
def jY0 (x:Tm):List Int:=wS (uD x)
theorem mS1 (acc:List Tm) (x:Tm):wS (acc++[x])=wS acc++(if x.k=14 then [x.a] else []):=by
 unfold wS
 rw[List.filter_append,List.map_append]
 congr 1
 by_cases h:x.k=14<;>simp[h]
theorem jS1 (acc:List Tm):(wS acc).length≤acc.length:=by
 unfold wS
 rw[List.length_map]
 exact List.length_filter_le _ _
def tmW (t:Tm):VT:=F17 (tmV t) (.pointer (some ⟨1,0,none⟩)) (.slice none 0 0) (.pointer (some ⟨2,0,none⟩)) ud (tmV t) (.func (.func 56) ⟨[]⟩ ⟨[.pointer (some ⟨3,0,none⟩)]⟩) ud ud ud ud ud ud ud ud ud ud
def lpW (t:Tm):Loop:={ state:=.ready,pending:=none,fn:=0,tmps:=(tmW t).arr,params:=#[7],assign:=kY prog 21 0,body:=kY prog 21 1,defers:=4 }
structure Yw (t:Tm) (acc:List Tm) (B:Nat→Prop) (σ:jA):Prop where
 lo:σ.lo=1
 nx:6≤σ.next
 lp:σ.get 5=some ⟨.loop (lpW t),false⟩
 w:∃ q c,cells σ 2=some ([.slice q (wS acc).length c],29,false)∧OwnD σ eI 1 q (wS acc).length c (ivs (wS acc))∧(∀ k,blk q k→6≤k∧k<σ.next)∧B=fun k=>k=5∨k=2∨blk q k
theorem setW (t x:Tm):uG (tmW t) ((#[7]:Array Nat).toList.zip [tmV x])=F17 (tmV t) (.pointer (some ⟨1,0,none⟩)) (.slice none 0 0) (.pointer (some ⟨2,0,none⟩)) ud (tmV t) (.func (.func 56) ⟨[]⟩ ⟨[.pointer (some ⟨3,0,none⟩)]⟩) (tmV x) ud ud ud ud ud ud ud ud ud:=by kernel_rfl
theorem uT1 (x:Int) (σ:jA):bsD (qq.m 29) (slT prog 29) 1 [(0,.int .i64 x)] σ=some (Rw true eI 1 (ivs [x]),σ):=by kernel_rfl
theorem yw (t:Tm):Yp G 5 (Yw t) (fun acc=>acc.length<1000000000000) where
 lt:=fun {acc B σ} hY k hk=>by
  obtain ⟨hl,hn,hlp,q,c,h1,h2,h3,rfl⟩:=hY
  rcases hk with rfl|rfl|hk
  ·omega
  ·omega
  ·exact (h3 k hk).2
 lo:=fun {acc B σ} hY=>⟨hY.lo,by have:=hY.nx;omega,by have:=hY.nx;omega⟩
 n:=fun {a b} h=>by rw[List.length_append] at h;omega
 st:=fun {acc B σ σ'} hY g=>by
  obtain ⟨hl,hn,hlp,q,c,h1,h2,h3,rfl⟩:=hY
  have hgn:=g.next
  refine ⟨g.lo.trans hl,by omega,(g.get _ (by omega) (fun h=>h (.inl rfl))).trans hlp,q,c,g.cellsE h1 (by omega) (fun h=>h (.inr (.inl rfl))),h2.grew g (fun b hb h=>h (.inr (.inr hb))),fun k hk=>⟨(h3 k hk).1,by have:=(h3 k hk).2;omega⟩,rfl⟩
 y:=fun {acc B σ} hY x hsx hN=>by
  obtain ⟨hl,hn,hlp,q,c,h1,h2,h3,rfl⟩:=hY
  rw[List.length_append,List.length_singleton] at hN
  have hwl:=jS1 acc
  refine jC.yield (q:=qq) (T:=tmW t) (jX G) (qE hlp (by omega)) (by omega) rfl (by show 17<U;unfold U;omega) rfl eJ1 eI1 (show gS NGG zX1=true by kernel_rfl) (show gS NGG zW1=true by kernel_rfl) (by rw[hl];exact (show NGG≤1 by decide)) ?_
  rw[show (lpW t).params=#[7] from rfl,setW,uH1]
  simp(disch:=first|omega|(apply id;simp only[push_cast];try omega))only[push_cast,simprocAttr]
  obtain ⟨τ,hτ⟩:∃ τ,τ=(σ.add (O [.int .i64 0,.int .i64 0,.int .i64 0,.string (Tx []),.int .i64 0,.int .i64 0,.string (Tx []),.slice none 0 0,.slice none 0 0] 28 false)).put σ.next (O (tmC x) 28 false):=⟨_,rfl⟩
  have g0:jD σ τ (fun _=>False):=by rw[hτ];exact (by (repeat (first|exact Gr.refl _|assumption|(refine jD.put' ?_ _ _ (by first|omega|(simp only[push_cast];omega)))|(refine jD.add' ?_ _))))
  have c0:cells τ σ.next=some (tmC x,28,false):=by rw[hτ];simp(disch:=first|omega|(apply id;simp only[push_cast];try omega))only[push_cast,simprocAttr]
  rw[← hτ]
  have hn0:σ.next+1≤τ.next:=by rw[hτ];simp(disch:=first|omega|(apply id;simp only[push_cast];try omega))only[push_cast,simprocAttr];omega
  have hl0:τ.lo=1:=by rw[g0.lo,hl]
  have k1:=g0.cellsE h1 (by omega) id
  have k2:=h2.grew g0 (fun _ _ h=>h)
  have klp:=(g0.get _ (by omega) id).trans hlp
  clear hτ
  simp only[kR,hi,kH0]
  rw[qE klp (by omega)]
  refine ⟨rfl,?_⟩
  rw[show (jM τ 5 { lpW t with state:=.busy })=τ.put 5 ⟨.loop { lpW t with state:=.busy },false⟩ from rfl]
  obtain ⟨τ2,hτ2⟩:∃ τ2,τ2=τ.put 5 ⟨.loop { lpW t with state:=.busy },false⟩:=⟨_,rfl⟩
  rw[← hτ2]
  have g2:jD τ τ2 (fun k=>k=5):=by rw[hτ2];exact jD.put _ _ _ fun _=>rfl
  have b0:=g2.cellsE c0 (by omega) (by omega)
  have b1:=g2.cellsE k1 (by omega) (by omega)
  have b2:=k2.grew g2 (fun k hk e=>by have:=h3 k hk;omega)
  have blp:τ2.get 5=some ⟨.loop { lpW t with state:=.busy },false⟩:=by rw[hτ2];exact qO _ _
  have hl2:τ2.lo=1:=by rw[g2.lo,hl0]
  have hn2:=g2.next
  have gg:jD σ τ2 (fun k=>k=5∨k=2∨blk q k):=(g0.mono fun _ _ h=>h.elim).tr' g2 fun k _ h=>.inl h
  clear hτ2 g2 g0
  rw[uG1]
  obtain ⟨xk,xa,xb,xs,xe,xl⟩:=x
  rw[qQ] at b0
  have hwx:=mS1 acc (.mk xk xa xb xs xe xl)
  have fin : ∀ (D : S) (q' : Option Addr) (c' : Nat), D.h.get 5 = some ⟨.loop { lpW t with state := .busy }, false⟩ → D.h.lo = 1 → cells D.h 2 = some ([.slice q' (wS (acc ++ [.mk xk xa xb xs xe xl])).length c'], 29, false) → OwnD D.h eI 1 q' (wS (acc ++ [.mk xk xa xb xs xe xl])).length c' (ivs (wS (acc ++ [.mk xk xa xb xs xe xl]))) →
    (∀ k,blk q' k→blk q k∨τ2.next≤k)→jD τ2 D.h (fun k=>k=2∨blk q k)→
    gN 5 (fun (_:Bool) v σ'=>v=.bool true∧∃ B',Yw t (acc++[.mk xk xa xb xs xe xl]) B' σ'∧(∀ k,B' k→(k=5∨k=2∨blk q k)∨σ.next≤k)∧jD σ σ' (fun k=>k=5∨k=2∨blk q k)) .normal D:=by
   rintro ⟨tm,df,τ3⟩ q' c' f1 f2 f3 f4 f5 f6
   simp only[gN]
   rw[qE f1 (by omega)]
   have f7:τ2.next≤τ3.next:=f6.next
   have hq':∀ k,blk q' k→6≤k∧k<τ3.next:=fun k hk=>⟨by rcases f5 k hk with h|h;exact (h3 k h).1;omega,(OwnD.lt f4 hk).2⟩
   have gp:jD τ3 (jM τ3 5 (lpW t)) (fun k=>k=5):=jD.put _ _ _ fun _=>rfl
   refine ⟨rfl,fun k=>k=5∨k=2∨blk q' k,⟨f2,(by show 6≤τ3.next;omega),qO _ _,q',c',gp.cellsE f3 (by show _<τ3.next;omega) (by omega),f4.grew gp (fun k hk e=>by have:=hq' k hk;omega),hq',rfl⟩,fun k hk=>?_,(gg.tr' f6 fun k hk h=>.inr h).tr' gp fun k hk h=>.inl h⟩
   ·rcases hk with rfl|rfl|hk
    ·exact .inl (.inl rfl)
    ·exact .inl (.inr (.inl rfl))
    ·rcases f5 k hk with h|h
     ·exact .inl (.inr (.inr h))
     ·exact .inr (by omega)
  by_cases hk:xk=14
  ·subst hk
   obtain ⟨a',c',σ',e,o',g',b'⟩:=wC1 (by_:=8) b2 (by omega) (by omega) (m:=1) (xs:=ivs [xa]) rfl rfl (by omega)
   have hn':=g'.next
   have r1:=g'.cellsE b1 (by omega) (fun h=>by have:=h3 _ h;omega)
   have rl:=(g'.get _ (by omega) (fun h=>by have:=h3 _ h;omega)).trans blp
   have hl3:σ'.lo=1:=by rw[g'.lo,hl2]
   rw[if_pos (by rfl)] at hwx
   have hwl2:(wS (acc++[.mk 14 xa xb xs xe xl])).length=(wS acc).length+1:=by rw[hwx];exact List.length_append
   simp(disch:=first|omega|(apply id;simp only[push_cast];try omega))only[push_cast,simprocAttr,b0,b1,hl2,↓uT1,e,r1,hl3]
   have gp:jD σ' (σ'.put 2 (O [.slice a' ((wS acc).length+1) c'] 29 false)) (fun k=>k=2):=jD.put _ _ _ fun _=>rfl
   have hb':∀ k,blk a' k→¬ k=2:=fun k hk=>by
    rcases b' k hk with h|h
    ·have:=h3 k h;omega
    ·omega
   refine fin _ a' c' ((gp.get _ (by omega) (by omega)).trans rl) (by simp(disch:=first|omega|(apply id;simp only[push_cast];try omega))only[push_cast,simprocAttr,hl3]) (by rw[hwl2];simp(disch:=first|omega|(apply id;simp only[push_cast];try omega))only[push_cast,simprocAttr]) ?_ b' ((g'.mono (T:=fun k=>k=2∨blk q k) fun _ _ h=>.inr h).tr' gp fun _ _ h=>.inl h)
   rw[hwl2,hwx]
   show OwnD _ _ _ _ _ _ (ivs (wS acc++[xa]))
   rw[dN0]
   exact o'.grew gp hb'
  ·rw[if_neg (by exact hk),List.append_nil] at hwx
   simp(disch:=first|omega|(apply id;simp only[push_cast];try omega))only[push_cast,simprocAttr,b0,b1,hk,hl2]
   exact fin _ q c blp hl2 (by rw[hwx];exact b1) (by rw[hwx];exact b2) (fun k h=>.inl h) (jD.refl _ _)
theorem dK0 {l:Nat} {s:S} {mk:List Nat} {R:jL→S→Prop} {v:Value} {h2:jA} {r:Loop} (hg:qF h2 l=some r) (hs:r.state=.ready) (hp:r.pending=none) (hR:R .normal ⟨s.tm,mk++s.df,jM h2 l { r with state:=.exhausted }⟩):qC0 l s mk R v h2:=by
 have he:qW0 l ⟨s.tm,mk++s.df,h2⟩=some (.normal,⟨s.tm,mk++s.df,jM h2 l { r with state:=.exhausted }⟩):=by
  unfold qW0
  rw[hg]
  obtain ⟨st,pd,fn,tm',ps',as',bd',df'⟩:=r
  cases hs
  cases hp
  rfl
 unfold qC0
 rw[he]
 exact hR
theorem jR1 (t:Tm) (hs:smT t=true) (hn:(uD t).length<1000000000000):jI (pp G) H0 21 [tmV t] (ivV (jY0 t)):=by
 refine cE G fir21 (by kernel_rfl) (mX0 ..) fun hlo=>?_;rw[pW1]
 simp(disch:=first|omega|(apply id;simp only[push_cast];try omega))only[push_cast,simprocAttr]
 refine jC.func (cap:=[]) (args:=[_]) (eX1 G t _ (by simp(disch:=first|omega|(apply id;simp only[push_cast];try omega))only[push_cast,simprocAttr])) ?_
 rintro _ _ ⟨rfl,rfl⟩
 simp(disch:=first|omega|(apply id;simp only[push_cast];try omega))only[push_cast,simprocAttr]
 obtain ⟨σ,hσ⟩:∃ σ,σ=((H0.add (O (tmC t) 28 false)).add (O [.slice none 0 0] 29 false)).add (O (tmC t) 28 false):=⟨_,rfl⟩
 have n4:σ.next=4:=by rw[hσ];simp(disch:=first|omega|(apply id;simp only[push_cast];try omega))only[push_cast,simprocAttr]
 have l4:σ.lo=1:=by rw[hσ];simp(disch:=first|omega|(apply id;simp only[push_cast];try omega))only[push_cast,simprocAttr]
 have c2:cells σ 2=some ([.slice none 0 0],29,false):=by rw[hσ];simp(disch:=first|omega|(apply id;simp only[push_cast];try omega))only[push_cast,simprocAttr]
 have c3:cells σ 3=some (tmC t,28,false):=by rw[hσ];simp(disch:=first|omega|(apply id;simp only[push_cast];try omega))only[push_cast,simprocAttr]
 have gH:jD H0 σ (fun _=>False):=by rw[hσ];exact (by (repeat (first|exact Gr.refl _|assumption|(refine jD.put' ?_ _ _ (by first|omega|(simp only[push_cast];omega)))|(refine jD.add' ?_ _))))
 rw[← hσ]
 clear hσ
 refine WD.range (q:=qq) (jX G) (f:=56) (captured:=[.pointer (some ⟨3,0,none⟩)]) rfl rfl ?_
 show jO _ _ _ (.func (.yield (σ.next+1)) _ _ :: _) ((σ.add _).add ⟨.loop { state:=.ready,pending:=none,fn:=0,tmps:=_,params:=_,assign:=_,body:=_,defers:=σ.next },false⟩) (qC0 (σ.next+1) _ [σ.next] _)
 rw[n4]
 have g1:jD σ ((σ.add ⟨.deferred (some []),false⟩).add ⟨.loop (lpW t),false⟩) (fun _=>False):=(jD.add _ _ _).trans (jD.add _ _ _) fun _ _ h=>h
 have hY:Yw t [] (fun k=>k=5∨k=2∨blk none k) ((σ.add ⟨.deferred (some []),false⟩).add ⟨.loop (lpW t),false⟩):=by
  refine ⟨by simp(disch:=first|omega|(apply id;simp only[push_cast];try omega))only[push_cast,simprocAttr,l4],by simp(disch:=first|omega|(apply id;simp only[push_cast];try omega))only[push_cast,simprocAttr,n4],qW _ _ (by rw[jB,n4]),none,0,g1.cellsE c2 (by omega) id,OwnD.nil _ _ _,fun k hk=>?_,rfl⟩
  obtain ⟨o,s,e⟩:=hk
  cases e
 refine (gN1 G (yw G t) t hs 3 _ _ (g1.cellsE c3 (by omega) id) (by decide) hY hn).mono ?_
 rintro v σ2 ⟨-,B2,hY2,hB2,g2⟩
 obtain ⟨hl,hnx,hlp,q,c,h1,h2,h3,rfl⟩:=hY2
 have hmk:σ2.get 4=some ⟨.deferred (some []),false⟩:=by
  refine (g2.get _ (by rw[jB,jB];omega) ?_).trans ?_
  ·rintro (h|h|⟨o,s,e⟩)
   ·omega
   ·omega
   ·cases e
  ·rw[jV _ _ (by rw[jB];omega),qW _ _ n4.symm]
 have gp:jD σ2 (jM σ2 5 { lpW t with state:=.exhausted }) (fun k=>k=5):=jD.put _ _ _ fun _=>rfl
 refine dK0 (qE hlp (by omega)) rfl rfl ?_
 generalize jM σ2 5 { lpW t with state:=.exhausted }=τ at gp
 have r1:=gp.cellsE h1 (by omega) (by omega)
 have r2:=h2.grew gp (fun k hk e=>by have:=h3 k hk;omega)
 have r3:=(gp.get _ (by omega) (by omega)).trans hmk
 have r4:τ.lo=1:=by rw[gp.lo,hl]
 have hwl:=jS1 (uD t)
 simp(disch:=first|omega|(apply id;simp only[push_cast];try omega))only[push_cast,simprocAttr]
 rw[rU0]
 simp(disch:=first|omega|(apply id;simp only[push_cast];try omega))only[push_cast,simprocAttr,r1,r4]
 rw[qV0 r3 (by omega),show uL [] (τ.put 4 ⟨.deferred none,false⟩)=some (τ.put 4 ⟨.deferred none,false⟩) from rfl]
 simp(disch:=first|omega|(apply id;simp only[push_cast];try omega))only[push_cast,simprocAttr]
 have g4:jD τ (τ.put 4 ⟨.deferred none,false⟩) (fun k=>k=4):=jD.put _ _ _ fun _=>rfl
 have:=OwnD.fz (P:=(pp G).P) (N:=1) (r2.grew g4 (fun k hk e=>by have:=h3 k hk;omega)) (by rfl) (by decide) (by omega) (.ids (wY0 _ _)) (fun k hk=>by have:=h3 k hk;omega)
 exact this
structure St where
 k:Int
 p:List Int
 a:Int
def stC (s:St):List Value:=[.int .i64 s.k,Rw false eI s.p.length (ivs s.p),.int .i64 s.a]
def stCs:List St→List Value
 | []=>[]
 | x :: l=>stC x++stCs l
def stsV (l:List St):Value:=Rw false 58 l.length (stCs l)
def spC (t b:Tm) (a:Option Addr) (n c:Nat):List Value:=tmC t++(tmC b++[.slice a n c])
def spV (t b:Tm) (a:Option Addr) (n c:Nat):Value:=.agg ⟨spC t b a n c⟩
theorem qL1 (t b:Tm) (a:Option Addr) (n c:Nat):(spV t b a n c).cells.toList=spC t b a n c:=rfl
theorem nN1 (t b:Tm) (a:Option Addr) (n c:Nat):(spC t b a n c).all one=true:=by cases t;cases b;rfl
theorem lF0 (t b:Tm) (a:Option Addr) (n c:Nat):(spC t b a n c).length=19:=by cases t;cases b;rfl
theorem spC_w (t b:Tm) (a:Option Addr) (n c:Nat):(spC t b a n c).take 19=spC t b a n c:=List.take_of_length_le (by rw[lF0];exact Nat.le_refl _)
theorem spC_t (t b:Tm) (a:Option Addr) (n c:Nat):(spC t b a n c).take 9=tmC t:=by cases t;rfl
theorem spC_b (t b:Tm) (a:Option Addr) (n c:Nat):((spC t b a n c).drop 9).take 9=tmC b:=by cases t;cases b;rfl
theorem spC_p (t b:Tm) (a:Option Addr) (n c:Nat):(spC t b a n c)[18]?=some (.slice a n c):=by cases t;cases b;rfl
theorem spC_0 (t b:Tm) (a:Option Addr) (n c:Nat):(spC t b a n c)[0]?=some (.int .i64 t.k):=by cases t;rfl
theorem spC_8 (t b:Tm) (a:Option Addr) (n c:Nat):(spC t b a n c)[8]?=some (Rw false etm t.l.length (jZ t.l)):=by cases t;rfl
attribute [push_cast] qL1 nN1 lF0 spC_w spC_t spC_b spC_p spC_0 spC_8
def PwR (σ:jA) (q:Option Addr) (m c:Nat) (p:List Int):Prop:=(q=none∧m=0∧c=0∧p=[])∨∃ b,q=some ⟨b,0,none⟩∧σ.lo≤b∧b<σ.next∧σ.get b=some (O (ivs p) eI true)∧c=UC∧m=p.length
theorem PwR.grew {σ σ':jA} {S:Nat→Prop} {q:Option Addr} {m c:Nat} {p:List Int} (h:PwR σ q m c p) (g:jD σ σ' S) (hS:∀ b,blk q b→¬ S b):PwR σ' q m c p:=by
 rcases h with h|⟨b,rfl,h1,h2,h3,h4⟩
 ·exact .inl h
 ·exact .inr ⟨b,rfl,by rw[g.lo];exact h1,Nat.lt_of_lt_of_le h2 g.next,(g.get b h2 (hS b ⟨0,none,rfl⟩)).trans h3,h4⟩
theorem PwR.fz {P:Program} {σ:jA} {q:Option Addr} {m c:Nat} {p:List Int} (h:PwR σ q m c p) (hs:szT P eI=some 1) (hl:p.length<100000000000000) {N:Nat} (hN:∀ b,blk q b→N≤b):FzV P N σ (.slice q m c) (Rw false eI p.length (ivs p)):=by
 rcases h with ⟨rfl,rfl,rfl,rfl⟩|⟨b,rfl,h1,h2,h3,rfl,rfl⟩
 ·exact .nil hs (by decide)
 ·refine .sl (full:=ivs p) (m:=true) (hN b ⟨0,none,rfl⟩) (by unfold Ev.cells;rw[h3];rfl) hs (by decide) (by rw[kG];omega) (.inr ⟨rfl,Nat.le_refl _,by simp,by unfold U;omega⟩) ?_
  rw[List.drop_zero,List.take_of_length_le (by rw[kG];omega)]
  exact .ids (wY0 _ _)
theorem qJ1 {σ:jA} {e b n c:Nat} {cs:List Value} (ho:bE σ e (some ⟨b,0,none⟩) n c cs) (hone:cs.all one=true):srcD 1 (.slice (some ⟨b,0,none⟩) n c) σ=some (n,cs):=by
 rcases ho.hat with ⟨h,_⟩|⟨b',h,h1,h2,h3,rfl,h5⟩
 ·cases h
 ·cases h
  obtain ⟨m,rfl⟩:∃ m,n=m+1:=⟨n-1,by omega⟩
  have hc:cells σ b=some (cs,e,true):=by unfold Ev.cells;rw[h3];rfl
  have ht:takeN cs 0 ((m+1)*1)=some cs:=eR0 cs (by rw[ho.hlen];omega)
  have hb:Nat.ble σ.lo b=true:=by simpa using h1
  have hsrc:qS 1 (m+1) (.slice (some ⟨b,0,none⟩) (m+1) UC) σ=some cs:=by
   unfold qS
   dsimp only
   rw[hc]
   dsimp only
   rw[ht]
   dsimp only
   rw[hb]
  show (match lenV (.slice (some ⟨b,0,none⟩) (m+1) UC) with
   | some k=>match qS 1 k (.slice (some ⟨b,0,none⟩) (m+1) UC) σ with | some xs=>if xs.length=k*1∧xs.all one=true then some (k,xs) else none | none=>none
   | none=>none)=_
  show (match qS 1 (m+1) (.slice (some ⟨b,0,none⟩) (m+1) UC) σ with|some xs=>if xs.length=(m+1)*1∧xs.all one=true then some (m+1,xs) else none|none=>none)=_
  rw[hsrc]
  dsimp only
  rw[if_pos ⟨by rw[ho.hlen];omega,hone⟩]
theorem row0I (σ:jA):bsD (qq.m 29) (slT prog 29) 0 [] σ=some (.slice (some ⟨σ.next,0,none⟩) 0 0,σ.add (O [] eI false)):=by kernel_rfl
theorem jH2 {σ:jA} {a:Option Addr} {n c:Nat} {p:List Int} (ho:bE σ eI a n c (ivs p)) (hl:σ.lo=1) (hln:1≤σ.next) (hp:p.length<1000000000000) :
  jO (pp G) H0 49 [.slice a n c] σ (fun v σ'=>∃ q m k,v=.slice q m k∧PwR σ' q m k p∧jD σ σ' (fun _=>False)∧∀ b,blk q b→σ.next≤b):=by
 refine jO.fir4 (q:=qq) (jX G) fir49 (by kernel_rfl) rfl rfl (pC0 ..) (by first|exact Nat.le_trans (show NGG≤1 by decide) (by omega)) ?_;rw[oX1]
 have hn:p.length=n:=by rw[← ho.hlen,kG]
 rcases ho.hat with ⟨rfl,rfl,rfl⟩|⟨b,rfl,h1,h2,h3,rfl,h5⟩
 ·have:p=[]:=List.length_eq_zero_iff.1 hn
  subst this
  simp(disch:=first|omega|(apply id;simp only[push_cast];try omega))only[push_cast,simprocAttr]
  exact ⟨none,0,0,rfl,.inl ⟨rfl,rfl,rfl,rfl⟩,jD.refl _ _,fun b hb=>by obtain ⟨o,s,e⟩:=hb;cases e⟩
 ·have g0:jD σ (σ.add (O [] eI false)) (fun _=>False):=jD.add _ _ _
  have ho':=ho.grew g0 (fun _ _ h=>h)
  have hsr:=qJ1 ho' (gF0 p)
  subst hn
  have hap:=eV1 (σ:=σ.add (O [] eI false)) (e:=eI) (k:=1) (by_:=8) (b:=σ.next) (n:=0) (m:=p.length) (cs:=[]) (xs:=ivs p) (qC _ _ _ _ rfl) (by rw[jN];omega) rfl (gF0 _) h5 (by omega)
  simp(disch:=first|omega|(apply id;simp only[push_cast];try omega))only[push_cast,simprocAttr,↓row0I,hsr,hap]
  refine ⟨_,_,_,rfl,.inr ⟨_,rfl,by simp only[jN];omega,by simp only[jB];omega,qW _ _ (by simp only[jB]),rfl,by omega⟩,g0.trans (jD.add _ _ _) fun _ _ h=>h,fun b hb=>?_⟩
  obtain ⟨o,s,e⟩:=hb
  cases e
  omega
theorem qF1 {σ:jA} {a:Option Addr} {n c:Nat} {p:List Int} (t b:Tm) (alt:Int) (ho:bE σ eI a n c (ivs p)) (hl:σ.lo=1) (hln:1≤σ.next) (hp:p.length<1000000000000) :
  jO (pp G) H0 30 [spV t b a n c,.int .i64 alt] σ (fun v σ'=>∃ q m k,v=.agg ⟨[.int .i64 t.k,.slice q m k,.int .i64 alt]⟩∧PwR σ' q m k p∧jD σ σ' (fun _=>False)∧∀ b,blk q b→σ.next≤b):=by
 refine jO.fir4 (q:=qq) (jX G) fir30 (by kernel_rfl) rfl rfl (eK0 ..) (by first|exact Nat.le_trans (show NGG≤1 by decide) (by omega)) ?_;rw[pO1]
 simp(disch:=first|omega|(apply id;simp only[push_cast];try omega))only[push_cast,simprocAttr,hl]
 obtain ⟨τ,hτ⟩:∃ τ,τ=(σ.add (O (spC t b a n c) 74 false)).add (O [.int .i64 0,.slice none 0 0,.int .i64 0] 58 false):=⟨_,rfl⟩
 have g0:jD σ τ (fun _=>False):=by rw[hτ];exact (by (repeat (first|exact Gr.refl _|assumption|(refine jD.put' ?_ _ _ (by first|omega|(simp only[push_cast];omega)))|(refine jD.add' ?_ _))))
 have c0:cells τ σ.next=some (spC t b a n c,74,false):=by rw[hτ];simp(disch:=first|omega|(apply id;simp only[push_cast];try omega))only[push_cast,simprocAttr]
 have c1:cells τ (σ.next+1)=some ([.int .i64 0,.slice none 0 0,.int .i64 0],58,false):=by rw[hτ];simp(disch:=first|omega|(apply id;simp only[push_cast];try omega))only[push_cast,simprocAttr]
 have hn0:τ.next=σ.next+2:=by rw[hτ];simp(disch:=first|omega|(apply id;simp only[push_cast];try omega))only[push_cast,simprocAttr]
 have hl0:τ.lo=1:=by rw[g0.lo,hl]
 have ho':=ho.grew g0 (fun _ _ h=>h)
 rw[← hτ]
 clear hτ
 refine jC.func (cap:=[]) (args:=[_]) (jH2 G ho' hl0 (by omega) hp) ?_
 rintro _ σ2 ⟨q,m,k,rfl,hq,g2,hb⟩
 have hn2:=g2.next
 have d0:=g2.cellsE c0 (by omega) id
 have d1:=g2.cellsE c1 (by omega) id
 have hl2:σ2.lo=1:=by rw[g2.lo,hl0]
 simp(disch:=first|omega|(apply id;simp only[push_cast];try omega))only[push_cast,simprocAttr,d0,d1,hl2,c0,c1,hl0]
 have gp:jD σ2 (σ2.put (σ.next+1) (O [.int .i64 t.k,.slice q m k,.int .i64 alt] 58 false)) (fun k=>k=σ.next+1):=jD.put _ _ _ fun _=>rfl
 exact ⟨q,m,k,rfl,hq.grew gp (fun b' hb' e=>by have:=hb b' hb';omega),(g0.trans g2 fun _ _ h=>h).tr' gp (fun j hj e=>by omega),fun b' hb'=>by have:=hb b' hb';omega⟩
structure Sp where
 t:Tm
 b:Tm
 p:List Int
mutual
def spT:Tm→Tm→List Int→List Sp
 | .mk k a b s e l,u,p=>⟨.mk k a b s e l,u,p⟩ :: (if k=12 then spH l u p else if k=7 then spL l (.mk k a b s e l) p 0 else if k=11 then spL l u p 0 else [])
def spL:List Tm→Tm→List Int→Nat→List Sp
 | [],_,_,_=>[]
 | x :: l,u,p,i=>spT x u (p++[(i:Int)])++spL l u p (i+1)
def spH:List Tm→Tm→List Int→List Sp
 | [],_,_=>[]
 | x :: _,u,p=>spT x u (p++[((0:Nat):Int)])
end
theorem lE0:∀ (a b:List Tm) (u:Tm) (p:List Int) (j:Nat),spL (a++b) u p j=spL a u p j++spL b u p (j+a.length)
 | [],b,u,p,j=>rfl
 | x :: a,b,u,p,j=>by rw[List.cons_append,spL,spL,lE0 a b,List.append_assoc,List.length_cons,Nat.add_assoc j 1,Nat.add_comm 1]
theorem cG1 (l:List Tm) (u:Tm) (p:List Int):spH l u p=spL (l.take 1) u p 0:=by
 cases l with
 | nil=>rfl
 | cons x l=>rw[spH,List.take_succ_cons,List.take_zero,spL,spL,List.append_nil]
theorem nM0 {l:List Tm} {i:Nat} {x:Tm} (h:l[i]?=some x) (u:Tm) (p:List Int):spL (l.take (i+1)) u p 0=spL (l.take i) u p 0++spT x u (p++[(i:Int)]):=by
 have hi:(l.take i).length=i:=by rw[List.length_take];have:=(List.getElem?_eq_some_iff.1 h).1;omega
 rw[qL h,lE0,spL,spL,List.append_nil,hi,Nat.zero_add]
theorem gO1:∀ {l:List Tm} {x:Tm},x∈l→(uD x).length≤(wZ l).length
 | y :: l,x,h=>by
  rw[wZ,List.length_append]
  rcases List.mem_cons.1 h with rfl|h
  ·omega
  ·have:=gO1 h;omega
structure Ys (lid:Nat) (Y:List Sp→(Nat→Prop)→jA→Prop) (N:List Sp→Prop):Prop where
 lt:∀ {acc B σ},Y acc B σ→∀ k,B k→k<σ.next
 lo:∀ {acc B σ},Y acc B σ→σ.lo=1∧1≤σ.next∧lid<σ.next
 st:∀ {acc B σ σ'},Y acc B σ→jD σ σ' (fun k=>¬ B k)→Y acc B σ'
 y:∀ {acc B σ},Y acc B σ→∀ (t b:Tm) (p:List Int) (a:Option Addr) (n c:Nat),smT t=true→smT b=true→bE σ eI a n c (ivs p)→(∀ k,blk a k→¬ B k)→p.length<1000000000000→(uD b).length<1000000000000→N (acc++[⟨t,b,p⟩])→
  jC (pp G) H0 (.func (.yield lid) ⟨[]⟩ ⟨[]⟩) [spV t b a n c] σ (fun _ v σ'=>v=.bool true∧∃ B',Y (acc++[⟨t,b,p⟩]) B' σ'∧(∀ k,B' k→B k∨σ.next≤k)∧jD σ σ' B)
 n:∀ {a b},N (a++b)→N a
def jL1 (Y:List Sp→(Nat→Prop)→jA→Prop) (acc:List Sp) (B:Nat→Prop) (σ:jA) (v:Value) (σ':jA):Prop:=v=.bool true∧∃ B',Y acc B' σ'∧(∀ k,B' k→B k∨σ.next≤k)∧jD σ σ' B
def lE1 (lid:Nat) (Y:List Sp→(Nat→Prop)→jA→Prop) (N:List Sp→Prop) (x:Tm):Prop:=
 ∀ (u:Tm) (p:List Int) (acc:List Sp) (B:Nat→Prop) (σ:jA) (a:Option Addr) (n c:Nat),smT u=true→(uD u).length<1000000000000→p.length+(uD x).length<1000000000000→bE σ eI a n c (ivs p)→(∀ k,blk a k→¬ B k)→Y acc B σ→N (acc++spT x u p)→
  jO (pp G) H0 48 [spV x u a n c,.func (.yield lid) ⟨[]⟩ ⟨[]⟩] σ (jL1 Y (acc++spT x u p) B σ)
theorem yK1 {lid:Nat} {Y:List Sp→(Nat→Prop)→jA→Prop} {N:List Sp→Prop} (yp:Ys G lid Y N) {x:Tm} (ih:lE1 G lid Y N x) (u:Tm) (p:List Int) (i:Int) (acc:List Sp) (B:Nat→Prop) (h:jA) {a:Option Addr} {n c:Nat}
  (hu:smT u=true) (hau:(uD u).length<1000000000000) (hpx:p.length+1+(uD x).length<1000000000000) (ho:bE h eI a n c (ivs p)) (hb:∀ k,blk a k→¬ B k) (hY:Y acc B h) (hN:N (acc++spT x u (p++[i]))) :
  jO (pp G) H0 48 [spV x u (some ⟨h.next,0,none⟩) (n+1) UC,.func (.yield lid) ⟨[]⟩ ⟨[]⟩] (wV0 h eI a (ivs p) [.int .i64 i]) (jL1 Y (acc++spT x u (p++[i])) B h):=by
 obtain ⟨hl1,hl2,hl3⟩:=yp.lo hY
 have gl:=bS0 ho [.int .i64 i]
 have hnx:=zW0 h eI a (ivs p) [.int .i64 i]
 have hop:bE (wV0 h eI a (ivs p) [.int .i64 i]) eI (some ⟨h.next,0,none⟩) (n+1) UC (ivs (p++[i])):=by
  rw[dN0]
  exact sL0 ho (by omega) _
 have hY1:=yp.st hY (gl.mono fun k _ hk=>hb k hk)
 have hb1:∀ k,blk (some (⟨h.next,0,none⟩:Addr)) k→¬ B k:=fun k hk hB=>by
  obtain ⟨o,s,e⟩:=hk
  cases e
  have:=yp.lt hY _ hB
  omega
 have hnB:¬ B h.next:=fun hB=>by have:=yp.lt hY _ hB;omega
 refine jO.back (ih u (p++[i]) acc B _ _ _ _ hu hau (by rw[List.length_append];exact hpx) hop hb1 hY1 hN) ?_
 rintro _ σ' ⟨rfl,B',hY',hB',g'⟩
 rcases ho.hat with ⟨rfl,rfl,rfl⟩|⟨b,rfl,h1,h2,h3,rfl,h5⟩
 ·left
  refine ⟨rfl,B',hY',fun k hk=>?_,⟨by have:=g'.next;omega,by rw[g'.lo,gl.lo],fun j hj hB=>(g'.get j (by omega) hB).trans (gl.get j hj (fun hk=>by obtain ⟨o,s,e⟩:=hk;cases e))⟩⟩
  rcases hB' k hk with q|q
  ·exact .inl q
  ·right;omega
 ·right
  have hbB:¬ B b:=hb b ⟨0,none,rfl⟩
  have hgn:=g'.next
  have e1:σ'.get b=some (qB h.next eI (ivs p)):=by
   rw[g'.get b (by omega) hbB]
   have:=jH0 (h:=h) (b:=b) (x':=O (ivs p++[.int .i64 i]) eI true) (y:=qB h.next eI (ivs p)) b
   rw[if_pos rfl] at this
   exact this
  have e2:σ'.get h.next=some (O (ivs p++[.int .i64 i]) eI true):=by
   rw[g'.get h.next (by omega) hnB]
   have:=jH0 (h:=h) (b:=b) (x':=O (ivs p++[.int .i64 i]) eI true) (y:=qB h.next eI (ivs p)) h.next
   rw[if_neg (by omega),if_pos rfl] at this
   exact this
  have hlo':σ'.lo=h.lo:=by rw[g'.lo,gl.lo]
  have hfl:∀ l:List Int,jT (ivs l)=true:=fun l=>by
   induction l with
   | nil=>rfl
   | cons x l ih=>exact ih
  refine ⟨b,h.next,eI,ivs p,[.int .i64 i],(0,0),by omega,by omega,by omega,by omega,e1,e2,gF0 _,?_,hfl _,rfl,B',yp.st hY' ⟨Nat.le_refl _,rfl,fun j hj hB=>?_⟩,fun k hk=>?_,⟨by show h.next≤σ'.next;omega,hlo',fun j hj hB=>?_⟩⟩
  ·have:ivs p++[.int .i64 i]=ivs (p++[i]):=(dN0 p [i]).symm
   rw[this]
   exact hfl _
  ·have hjB:B' j:=Classical.not_not.1 hB
   have hj1:j≠b:=fun e=>by
    subst e
    rcases hB' j hjB with q|q
    ·exact hbB q
    ·omega
   have hj2:j≠h.next:=fun e=>by
    subst e
    rcases hB' _ hjB with q|q
    ·exact hnB q
    ·omega
   rw[jW _ _ _ hj1,jW _ _ _ hj2]
  ·rcases hB' k hk with q|q
   ·exact .inl q
   ·right;omega
  ·by_cases hjb:j=b
   ·subst hjb
    rw[qO,h3]
   ·rw[jW _ _ _ hjb,jW _ _ _ (by omega),g'.get j (by omega) hB]
    exact gl.get j hj fun hk=>by obtain ⟨o,s,e⟩:=hk;cases e;exact hjb rfl
theorem spB2 (t b:Tm) (a:Option Addr) (n c:Nat):bdV (plc prog 74) [(0,tmV t),(1,tmV b),(2,.slice a n c)]=some (spV t b a n c):=by cases t;cases b;kernel_rfl
theorem spC_f (t u:Tm) (a:Option Addr) (n c:Nat):tmC t++tmC t++List.drop 18 (spC t u a n c)=spC t t a n c:=by cases t;cases u;rfl
inductive J77 (lid:Nat) (Y:List Sp→(Nat→Prop)→jA→Prop) (acc:List Sp) (B:Nat→Prop) (σ:jA) (sb:Nat) (u:Tm) (p:List Int) (l:List Tm):Nat→S→Prop
 | mk (i:Nat) (iv:Int) (h:jA) (B':Nat→Prop) {x0 x3 x4 x5 x6 x7 x8 x9 xA xB xC xD xE xF xG xH xI xJ xK xL xM xN xO xP xQ xR xS xT xU xV xZ yA yB yC yD yE yF yG yH yI yJ yK yL yM yN yO yP:Value} (hiv:iv=(i:Int)) (hi:i≤l.length) (hY:Y (acc++spL (l.take i) u p 0) B' h) (hB:∀ k,B' k→B k∨σ.next≤k) (g:jD σ h B) :
  J77 lid Y acc B σ sb u p l (l.length-i) ⟨(F52 x0 (.func (.yield lid) ⟨[]⟩ ⟨[]⟩) (.pointer (some ⟨sb,0,none⟩)) x3 x4 x5 x6 x7 x8 x9 xA xB xC xD xE xF xG xH xI xJ xK xL xM xN xO xP xQ xR xS xT xU xV (Rw false etm l.length (jZ l)) (.int .i64 l.length) (.int .i64 iv) xZ yA yB yC yD yE yF yG yH yI yJ yK yL yM yN yO yP),[],h⟩
theorem dY0 {lid:Nat} {Y:List Sp→(Nat→Prop)→jA→Prop} {N:List Sp→Prop} (yp:Ys G lid Y N) (t u:Tm) (p:List Int) (l:List Tm) (hll:l.length<100000000000) (hsl:smTs l=true) (hu:smT u=true) (hau:(uD u).length<1000000000000) (hpl:p.length+1+(wZ l).length<1000000000000)
  (ih:∀ x∈l,lE1 G lid Y N x) (acc:List Sp) (B:Nat→Prop) (σ:jA) {a:Option Addr} {n c:Nat} (ho:bE σ eI a n c (ivs p)) (hb:∀ k,blk a k→¬ B k) {sb:Nat} (hsb:cells σ sb=some (spC t u a n c,74,false)) (hsn:sb<σ.next) (hsl0:1≤sb) (hsB:¬ B sb)
  (hY:Y acc B σ) (hN:N (acc++spL l u p 0)) {R:Value→jA→Prop} (hR:∀ v σ',jL1 Y (acc++spL l u p 0) B σ v σ'→R v σ') {x0 x3 x4 x6 x7 x8 x9 xA xB xC xD xE xF xG xH xI xJ xK xL xM xN xO xP xQ xR xS xT xU xV xW xX xY xZ yA yB yC yD yE yF yG yH yI yJ yK yL yM yN yO yP:Value} :
  dc3 (pp G) qq none gH0 ⟨(F52 x0 (.func (.yield lid) ⟨[]⟩ ⟨[]⟩) (.pointer (some ⟨sb,0,none⟩)) x3 x4 (Rw false etm l.length (jZ l)) x6 x7 x8 x9 xA xB xC xD xE xF xG xH xI xJ xK xL xM xN xO xP xQ xR xS xT xU xV xW xX xY xZ yA yB yC yD yE yF yG yH yI yJ yK yL yM yN yO yP),[],σ⟩ (@kR ⟨jH prog [.tmp 4] R⟩):=by
 have hsa:¬ blk a sb:=fun hk=>by
  obtain ⟨o,s,rfl⟩:=hk
  rcases ho.hat with ⟨h,_⟩|⟨b,h,h1,h2,h3,_⟩
  ·cases h
  ·cases h
   unfold Ev.cells at hsb
   rw[h3] at hsb
   have:=congrArg (fun x=>x.2.2) (Option.some.inj hsb)
   cases this
 rw[rH0]
 simp(disch:=first|omega|(apply id;simp only[push_cast];try omega))only[push_cast,simprocAttr]
 refine WD.loop4 (q:=qq) (jX G) (by kernel_rfl) (J77 lid Y acc B σ sb u p l) ?_ _ _ (J77.mk 0 0 _ B rfl (Nat.zero_le _) (by rw[List.take_zero,spL,List.append_nil];exact hY) (fun k hk=>.inl hk) (jD.refl _ _))
 intro m s1 hI
 cases hI with|mk i iv h B' hiv hi hY' hB g=>
 subst hiv
 rw[rG0]
 obtain ⟨hl1,hl2,hl3⟩:=yp.lo hY'
 by_cases hil:(i:Int)<l.length
 ·obtain ⟨x,hx⟩:=qJ (l:=l) (i:=i) (by omega)
  have hxm:=List.mem_of_getElem? hx
  have hp:=qV hx
  have hle:i*9+9≤l.length*9:=by omega
  have hgn:=g.next
  obtain ⟨τ,hτ⟩:∃ τ,τ=(h.add (O [.int .i64 0,.int .i64 0,.int .i64 0,.string (Tx []),.int .i64 0,.int .i64 0,.string (Tx []),.slice none 0 0,.slice none 0 0] 28 false)).put h.next (O (tmC x) 28 false):=⟨_,rfl⟩
  have g0:jD h τ (fun _=>False):=by rw[hτ];exact (by (repeat (first|exact Gr.refl _|assumption|(refine jD.put' ?_ _ _ (by first|omega|(simp only[push_cast];omega)))|(refine jD.add' ?_ _))))
  have hn0:h.next+1=τ.next:=by rw[hτ];simp(disch:=first|omega|(apply id;simp only[push_cast];try omega))only[push_cast,simprocAttr]
  have c1:cells τ h.next=some (tmC x,28,false):=by rw[hτ];simp(disch:=first|omega|(apply id;simp only[push_cast];try omega))only[push_cast,simprocAttr]
  have hY1:=yp.st hY' (g0.mono fun _ _ h=>h.elim)
  have cs0:cells τ sb=_:=g0.cellsE (g.cellsE hsb hsn hsB) (by omega) id
  have ho1:=(ho.grew g hb).grew g0 (fun _ _ h=>h)
  have hb1:∀ k,blk a k→¬ B' k:=fun k hk hk'=>by
   rcases hB k hk' with q|q
   ·exact hb k hk q
   ·obtain ⟨o,s,rfl⟩:=hk
    rcases ho.hat with ⟨h,_⟩|⟨b,h,_,h2,_⟩
    ·cases h
    ·cases h;omega
  have hpn:p.length=n:=by rw[← ho.hlen,kG]
  have happ:apS eI 1 8 (.slice a n c) (some (1,ivs [(i:Int)])) τ=some (.slice (some ⟨τ.next,0,none⟩) (n+1) UC,wV0 τ eI a (ivs p) [.int .i64 i]):=cT1 (by_:=8) ho1 (x:=.int .i64 i) rfl (by omega)
  have hl0:τ.lo=1:=by rw[g0.lo,hl1]
  have gl:=bS0 ho1 [.int .i64 i]
  have hab:∀ k,blk a k→k<σ.next:=fun k hk=>by
   obtain ⟨o,s,rfl⟩:=hk
   rcases ho.hat with ⟨h,_⟩|⟨b,h,_,h2,_⟩
   ·cases h
   ·cases h;exact h2
  have d1:cells (wV0 τ eI a (ivs p) [.int .i64 i]) h.next=_:=gl.cellsE c1 (by omega) (fun hk=>by have:=hab _ hk;omega)
  have d0:cells (wV0 τ eI a (ivs p) [.int .i64 i]) sb=_:=gl.cellsE cs0 (by omega) hsa
  have hll0:(wV0 τ eI a (ivs p) [.int .i64 i]).lo=1:=by rw[dJ0,hl0]
  obtain ⟨ρ,hρ⟩:∃ ρ,ρ=wV0 τ eI a (ivs p) [.int .i64 i]:=⟨_,rfl⟩
  rw[← hρ] at happ d0 d1 hll0
  have csh:=g.cellsE hsb hsn hsB
  simp(disch:=first|omega|(apply id;simp only[push_cast];try omega))only[push_cast,simprocAttr,hil,Int.toNat_natCast,hp,hle,hl1,csh,↓uT1]
  rw[← hτ]
  simp(disch:=first|omega|(apply id;simp only[push_cast];try omega))only[push_cast,simprocAttr,hl0,cs0,c1,↓uT1,happ,d0,d1,hll0,↓spB2]
  subst hρ
  have hN2:N ((acc++spL (l.take i) u p 0)++spT x u (p++[(i:Int)])):=by
   have h1:spL l u p 0=spL (l.take (i+1)) u p 0++spL (l.drop (i+1)) u p (0+(l.take (i+1)).length):=by rw[← lE0,List.take_append_drop]
   rw[h1,← List.append_assoc] at hN
   have:=yp.n hN
   rw[nM0 hx,← List.append_assoc] at this
   exact this
  have hax:=gO1 hxm
  refine jC.func (cap:=[]) (args:=[_,_]) (yK1 G yp (ih x hxm) u p i _ B' τ hu hau (by omega) ho1 hb1 hY1 hN2) ?_
  rintro _ σ2 ⟨rfl,B2,hY2,hB2,g2⟩
  simp(disch:=first|omega|(apply id;simp only[push_cast];try omega))only[push_cast,simprocAttr,Bool.not_true]
  have hn2:=g2.next
  refine ⟨_,by omega,J77.mk (i+1) _ _ B2 (by first|rfl|omega) (by omega) (by rw[nM0 hx,← List.append_assoc];exact hY2) (fun k hk=>?_) ?_⟩
  ·rcases hB2 k hk with h1|h1
   ·exact hB k h1
   ·exact .inr (by omega)
  ·exact (g.tr' g0 fun _ _ h => h.elim).tr' g2 fun k hk hb => by
    rcases hB k hb with h1|h1
    ·exact h1
    ·omega
 ·have hie:i=l.length:=by omega
  subst hie
  rw[List.take_length] at hY'
  simp(disch:=first|omega|(apply id;simp only[push_cast];try omega))only[push_cast,simprocAttr,hil]
  rw[rF0]
  simp(disch:=first|omega|(apply id;simp only[push_cast];try omega))only[push_cast,simprocAttr]
  exact hR _ _ ⟨rfl,B',hY',hB,g⟩
theorem yJ1 {lid:Nat} {Y:List Sp→(Nat→Prop)→jA→Prop} {N:List Sp→Prop} (yp:Ys G lid Y N):∀ (x:Tm),smT x=true→lE1 G lid Y N x
 | .mk k a b s e l,hs=>by
  intro u p acc B σ q n c hu hau hpx ho hb hY hN
  have hs0:=hs
  simp only[smT,Bool.and_eq_true,decide_eq_true_eq] at hs
  obtain ⟨⟨hll,hse⟩,hsl⟩:=hs
  have ih:∀ x∈l,lE1 G lid Y N x:=fun x hx=>yJ1 yp x (qA hsl x hx)
  obtain ⟨hl1,hl2,hl3⟩:=yp.lo hY
  have hqn:∀ k,blk q k→k<σ.next:=fun k hk=>by
   obtain ⟨o,s,rfl⟩:=hk
   rcases ho.hat with ⟨h,_⟩|⟨b,h,_,h2,_⟩
   ·cases h
   ·cases h;exact h2
  have hal:(uD (.mk k a b s e l)).length=1+(if k=12 then actH l else if k=11∨k=7 then wZ l else []).length:=by rw[uD,List.length_cons];omega
  refine jO.fir4 (q:=qq) (jX G) fir48 (by kernel_rfl) rfl rfl (qC2 ..) (by first|exact Nat.le_trans (show NGG≤1 by decide) (by omega)) ?_;rw[oY1]
  have g0:jD σ (σ.add (O (spC (.mk k a b s e l) u q n c) 74 false)) (fun _=>False):=jD.add _ _ _
  have hY1:=yp.st hY (g0.mono fun _ _ h=>h.elim)
  have hN1:N (acc++[⟨.mk k a b s e l,u,p⟩]):=by
   rw[spT,← List.singleton_append,← List.append_assoc] at hN
   exact yp.n hN
  simp(disch:=first|omega|(apply id;simp only[push_cast];try omega))only[push_cast,simprocAttr,hl1]
  refine jC.mono (yp.y hY1 (.mk k a b s e l) u p q n c hs0 hu (ho.grew g0 (fun _ _ h=>h)) hb (by omega) hau hN1) ?_
  rintro _ _ σ2 ⟨rfl,B2,hY2,hB2,g2⟩
  have hnB:¬ B σ.next:=fun hb=>by have:=yp.lt hY _ hb;omega
  have c0:cells σ2 σ.next=some (spC (.mk k a b s e l) u q n c,74,false):=g2.cellsE (qC _ _ _ _ rfl) (by rw[jB];omega) hnB
  have hn2:=g2.next
  rw[jB] at hn2
  have hl2':σ2.lo=1:=(yp.lo hY2).1
  have ho2:=(ho.grew g0 (fun _ _ h=>h)).grew g2 hb
  have hnB2:¬ B2 σ.next:=fun h=>by
   rcases hB2 _ h with h1|h1
   ·exact hnB h1
   ·rw[jB] at h1;omega
  have hqB2:∀ k,blk q k→¬ B2 k:=fun k hk h=>by
   rcases hB2 _ h with h1|h1
   ·exact hb k hk h1
   ·rw[jB] at h1;have:=hqn k hk;omega
  have fin:∀ (σ3:jA) (L:List Sp),jD σ2 σ3 (fun k=>k=σ.next)→spT (.mk k a b s e l) u p=⟨.mk k a b s e l,u,p⟩ :: L→∀ v σ',jL1 Y ((acc++[⟨.mk k a b s e l,u,p⟩])++L) B2 σ3 v σ'→jL1 Y (acc++spT (.mk k a b s e l) u p) B σ v σ':=by
   rintro σ3 L gp he v σ' ⟨rfl,B3,hY3,hB3,g3⟩
   have hn3:=gp.next
   refine ⟨rfl,B3,by rw[he,← List.singleton_append,← List.append_assoc];exact hY3,fun k' hk=>?_,(((g0.mono fun _ _ h=>h.elim).trans g2 fun _ _ h=>h).tr' gp (fun k' hk' e=>by omega)).tr' g3 fun k' hk hb=>?_⟩
   ·rcases hB3 k' hk with h1|h1
    ·rcases hB2 k' h1 with h2|h2
     ·exact .inl h2
     ·rw[jB] at h2;exact .inr (by omega)
    ·exact .inr (by omega)
   ·rcases hB2 k' hb with h2|h2
    ·exact h2
    ·rw[jB] at h2;omega
  have e0:(jZ l).take ((l.take 1).length*9)=jZ (l.take 1):=by rw[zM0];congr 1;cases l<;>rfl
  by_cases h1:k=12
  ·subst h1
   have he:spT (.mk 12 a b s e l) u p=⟨.mk 12 a b s e l,u,p⟩ :: spL (l.take 1) u p 0:=by rw[spT,if_pos rfl,cG1]
   have hm:min 1 (l.length:Int)=((l.take 1).length:Int):=by rw[List.length_take];omega
   rw[if_pos rfl,iN0] at hal
   rw[he,← List.singleton_append,← List.append_assoc] at hN
   simp(disch:=first|omega|(apply id;simp only[push_cast];try omega))only[push_cast,simprocAttr,c0,hl2',wM1,hm,Int.toNat_natCast,e0,Bool.not_true,Tm.k_mk,Tm.l_mk]
   exact dY0 G yp _ u p (l.take 1) (by rw[List.length_take];omega) (zN0 fun x hx=>qA hsl x (List.mem_of_mem_take hx)) hu hau (by omega) (fun x hx=>ih x (List.mem_of_mem_take hx)) _ _ _ ho2 hqB2 c0 (by omega) (by omega) hnB2 hY2 hN (fin _ _ (jD.refl _ _) he)
  rw[if_neg h1] at hal
  by_cases h2:k=7
  ·subst h2
   have he:spT (.mk 7 a b s e l) u p=⟨.mk 7 a b s e l,u,p⟩ :: spL l (.mk 7 a b s e l) p 0:=by rw[spT,if_neg (by decide),if_pos rfl]
   rw[if_pos (.inr rfl)] at hal
   rw[he,← List.singleton_append,← List.append_assoc] at hN
   have gp:jD σ2 (σ2.put σ.next (O (spC (.mk 7 a b s e l) (.mk 7 a b s e l) q n c) 74 false)) (fun k=>k=σ.next):=jD.put _ _ _ fun _=>rfl
   generalize ht0:Tm.mk 7 a b s e l=t0 at *
   have hk0:t0.k=7:=by rw[← ht0];rfl
   have hl0:t0.l=l:=by rw[← ht0];rfl
   have hfold:tmC t0++tmC t0++List.drop 18 (spC t0 u q n c)=spC t0 t0 q n c:=spC_f t0 u q n c
   simp(disch:=first|omega|(apply id;simp only[push_cast];try omega))only[push_cast,simprocAttr,c0,hl2',Bool.not_true,hk0,hl0]
   rw[hfold]
   exact dY0 G yp t0 t0 p l hll hsl hs0 (by omega) (by omega) ih _ _ _ (ho2.grew gp (fun k hk e=>by have:=hqn k hk;omega)) hqB2 (by simp(disch:=first|omega|(apply id;simp only[push_cast];try omega))only[push_cast,simprocAttr]) (by show _<σ2.next;omega) (by omega) hnB2 (yp.st hY2 (gp.mono fun k _ e=>by rw[e];exact hnB2)) hN (fin _ _ gp he)
  ·by_cases h3:k=11
   ·have he:spT (.mk k a b s e l) u p=⟨.mk k a b s e l,u,p⟩ :: spL l u p 0:=by rw[spT,if_neg h1,if_neg h2,if_pos h3]
    rw[if_pos (.inl h3)] at hal
    rw[he,← List.singleton_append,← List.append_assoc] at hN
    simp(disch:=first|omega|(apply id;simp only[push_cast];try omega))only[push_cast,simprocAttr,c0,hl2',h1,h2,h3,Bool.not_true,Tm.k_mk,Tm.l_mk]
    exact dY0 G yp _ u p l hll hsl hu hau (by omega) ih _ _ _ ho2 hqB2 c0 (by omega) (by omega) hnB2 hY2 hN (fin _ _ (jD.refl _ _) he)
   ·have he:spT (.mk k a b s e l) u p=⟨.mk k a b s e l,u,p⟩ :: []:=by rw[spT,if_neg h1,if_neg h2,if_neg h3]
    simp(disch:=first|omega|(apply id;simp only[push_cast];try omega))only[push_cast,simprocAttr,c0,hl2',h1,h2,h3,Bool.not_true,Tm.k_mk,Tm.l_mk]
    exact fin _ [] (jD.refl _ _) he _ _ ⟨rfl,B2,by rw[List.append_nil];exact hY2,fun k hk=>.inl hk,jD.refl _ _⟩
 termination_by x=>SizeOf.sizeOf x
end
end Go.Proofs.YtdcjpmjmjinjmaaDoor
namespace Go.Proofs.YtdcjpmjmjinjmaaDoor
open _root_.Go.Proofs.Tryd (prog)
open Go Go.RowKit Go.Ev Go.Dv
noncomputable section
set_option maxRecDepth 100000
theorem u_a3:prog.underlying 108=some (.array 3 3):=by kernel_rfl
theorem kC2:prog.eqGuardType prog.depth 108=false:=by kernel_rfl
theorem rJ1 (P:Program):pv P program=some P:=rfl
theorem zA2 (a b c:Int):pv prog (part 3 ⟨[.int .i64 a,.int .i64 b,.int .i64 c]⟩ (0*1))=some (.int .i64 a)∧pv prog (part 3 ⟨[.int .i64 a,.int .i64 b,.int .i64 c]⟩ (1*1))=some (.int .i64 b)∧pv prog (part 3 ⟨[.int .i64 a,.int .i64 b,.int .i64 c]⟩ (2*1))=some (.int .i64 c):=⟨by kernel_rfl,by kernel_rfl,by kernel_rfl⟩
theorem szA:pv prog (sizeOf 3)=some 1:=by kernel_rfl
theorem eqI (d:Nat) (a b:Int):pv prog (Op.equalIn (d+1) 3 (.int .i64 a) (.int .i64 b))=some (a == b):=by kernel_rfl
theorem rK1 {α:Type} (P:Program) (c:Prop) [Decidable c] (x y:Sem α):pv P (if c then x else y)=if c then pv P x else pv P y:=by split<;>rfl
theorem wU2 (d:Nat) (a b c a' b' c':Int):pv prog (Op.equalIn (d+2) 108 (.agg ⟨[.int .i64 a,.int .i64 b,.int .i64 c]⟩) (.agg ⟨[.int .i64 a',.int .i64 b',.int .i64 c']⟩))=some (a == a'&&b == b'&&c == c'):=by
 rw[Op.equalIn]
 simp only[gZ,jU0 u_a3,Option.bind_some,szA]
 simp only[Std.Legacy.Range.forIn_eq_forIn_range',Std.Legacy.Range.size]
 rw[show List.range' 0 ((3-0+1-1) / 1)=[0,1,2] from rfl]
 have p1:=zA2 a b c
 have p2:=zA2 a' b' c'
 simp only[List.forIn_cons,List.forIn_nil,gZ,rK1,p1,p2,eqI,Option.bind_some]
 cases h1:(a == a')<;>cases h2:(b == b')<;>cases h3:(c == c')<;>simp[uQ,gZ,rK1,p1,p2,eqI,h1,h2,h3]
theorem rL1 (a b c a' b' c':Int):pv prog (Op.equal 108 (.agg ⟨[.int .i64 a,.int .i64 b,.int .i64 c]⟩) (.agg ⟨[.int .i64 a',.int .i64 b',.int .i64 c']⟩))=some (a == a'&&b == b'&&c == c'):=wU2 9998 a b c a' b' c'
theorem mM1 {x y:Operand} {a b c a' b' c':Int}:jE prog .neq 108 x y (.agg ⟨[.int .i64 a,.int .i64 b,.int .i64 c]⟩) (.agg ⟨[.int .i64 a',.int .i64 b',.int .i64 c']⟩)=some (.bool (!decide (a=a'∧b=b'∧c=c'))):=by
 have hg:pv prog (eqGuard .neq 108 x y (.agg ⟨[.int .i64 a,.int .i64 b,.int .i64 c]⟩) (.agg ⟨[.int .i64 a',.int .i64 b',.int .i64 c']⟩))=some ():=by
  simp only[eqGuard,rK1,gZ,rJ1,Option.bind_some,kC2,Bool.not_true,Bool.not_false,Bool.false_eq_true,if_false,if_true,uQ]
 have hb:pv prog (binOp .neq 108 (.agg ⟨[.int .i64 a,.int .i64 b,.int .i64 c]⟩) (.agg ⟨[.int .i64 a',.int .i64 b',.int .i64 c']⟩))=some (.bool (!(a == a'&&b == b'&&c == c'))):=by
  simp only[binOp,lM1,gZ,rL1,Option.map_some,Option.bind_some,uQ]
 have e:(a == a'&&b == b'&&c == c')=decide (a=a'∧b=b'∧c=c'):=by
  rw[Bool.eq_iff_iff]
  simp[and_assoc]
 rw[← e]
 simp only[jE,pvF,flat,jT,Bool.and_self,gZ,hg,hb,Option.bind_some]
end
end Go.Proofs.YtdcjpmjmjinjmaaDoor
namespace Go.Proofs.YtdcjpmjmjinjmaaDoor
open _root_.Go.Proofs.Tryd (prog)
open Go Go.RowKit Go.Ev Go.Dv
noncomputable section
set_option maxRecDepth 100000
variable (G:Nat×Nat)
def jF:Tm→Tm
 | .mk k a b s e [x,y]=>if k=12 then (if (jF x).k=0 then jF y else .mk k a b s e [jF x,y]) else if k=11 then (if (jF x).k=0∧(jF y).k=0 then zT else .mk k a b s e [jF x,jF y]) else .mk k a b s e [x,y]
 | .mk k a b s e [x]=>if k=7 then (if (jF x).k=0 then zT else .mk k a b s e [jF x]) else .mk k a b s e [x]
 | .mk k a b s e l=>.mk k a b s e l
theorem nD0 (k a b:Int) (s:List UInt8) (e:Ex) (l m:List Tm) (hse:smE e=true):jI (pp G) H0 25 [tmV (.mk k a b s e l),Rw true etm m.length (jZ m)] (tmV (.mk k a b s e m)):=by
 refine cE G kU2 (by kernel_rfl) (mZ0 ..) fun hlo=>?_;rw[uF1]
 simp(disch:=first|omega|(apply id;simp only[push_cast];try omega))only[push_cast,simprocAttr]
 refine dK (nS0 G e hse) ?_
 simp(disch:=first|omega|(apply id;simp only[push_cast];try omega))only[push_cast,simprocAttr,oN0]
 unfold tmV
 rw[qQ]
 exact .agg (.cons (.id rfl) (.cons (.id rfl) (.cons (.id rfl) (.cons (.id rfl) (.cons (.id rfl) (.cons (.id rfl) (.cons (.id rfl) (.cons (.id (oL0 _ (by omega) ..)) (.cons (.row (.ids (gU _ (by omega) m))) .nil)))))))))
theorem cQ1 (t u:Tm) (σ:jA):bsD (qq.m 26) (slT prog 26) 2 [(0,tmV t),(1,tmV u)] σ=some (Rw true 28 2 (jZ [t,u]),σ):=by
 cases t;cases u;kernel_rfl
theorem cD0 (P:Program) (N:Nat) (σ:jA) (h1:szT P eE=some 4:=by rfl) (h2:szT P etm=some 9:=by rfl):FzV P N σ (.agg ⟨ztm⟩) (tmV zT):=.agg (.cons (.id rfl) (.cons (.id rfl) (.cons (.id rfl) (.cons (.id rfl) (.cons (.id rfl) (.cons (.id rfl) (.cons (.id rfl) (.cons (.nil (size:=4) h1 (by decide)) (.cons (.nil (size:=9) h2 (by decide)) .nil)))))))))
theorem wL0 (x:Tm):(tmC x)[0]?=some (.int .i64 x.k):=by cases x;rfl
theorem sB1 (a b:Int) (s:List UInt8) (e:Ex) (x y:Tm) (hse:smE e=true) (hx:jI (pp G) H0 12 [tmV x] (tmV (jF x))) (hy:jI (pp G) H0 12 [tmV y] (tmV (jF y))) (hoy:jI (pp G) H0 26 [tmV y] (tmV y)):jI (pp G) H0 12 [tmV (.mk 12 a b s e [x,y])] (tmV (jF (.mk 12 a b s e [x,y]))):=by
 refine cE G fW0 (by kernel_rfl) (uF0 ..) fun hlo=>?_;rw[qM0]
 rw[jF,if_pos rfl]
 simp(disch:=first|omega|(apply id;simp only[push_cast];try omega))only[push_cast,simprocAttr]
 refine dK (hx) ?_
 generalize jF x=x'
 by_cases h0:x'.k=0
 ·rw[if_pos h0]
  simp(disch:=first|omega|(apply id;simp only[push_cast];try omega))only[push_cast,simprocAttr,wL0,h0]
  refine dK (hy) ?_
  simp(disch:=first|omega|(apply id;simp only[push_cast];try omega))only[push_cast,simprocAttr]
  exact .id (qH0 1 (by decide) _)
 ·rw[if_neg (by exact h0)]
  simp(disch:=first|omega|(apply id;simp only[push_cast];try omega))only[push_cast,simprocAttr,wL0,h0]
  refine dK (hoy) ?_
  simp(disch:=first|omega|(apply id;simp only[push_cast];try omega))only[push_cast,simprocAttr,↓cQ1]
  refine dK (nD0 G 12 a b s e [x,y] [x',y] hse) ?_
  simp(disch:=first|omega|(apply id;simp only[push_cast];try omega))only[push_cast,simprocAttr]
  exact .id (qH0 1 (by decide) (.mk 12 a b s e [x',y]))
theorem sC1 (a b:Int) (s:List UInt8) (e:Ex) (x y:Tm) (hse:smE e=true) (hx:jI (pp G) H0 12 [tmV x] (tmV (jF x))) (hy:jI (pp G) H0 12 [tmV y] (tmV (jF y))):jI (pp G) H0 12 [tmV (.mk 11 a b s e [x,y])] (tmV (jF (.mk 11 a b s e [x,y]))):=by
 refine cE G fW0 (by kernel_rfl) (uF0 ..) fun hlo=>?_;rw[qM0]
 rw[jF,if_neg (by omega),if_pos rfl]
 generalize jF x=x' at hx ⊢
 generalize jF y=y' at hy ⊢
 by_cases h0:x'.k=0
 ·by_cases h0':y'.k=0
  ·rw[if_pos ⟨h0,h0'⟩]
   simp(disch:=first|omega|(apply id;simp only[push_cast];try omega))only[push_cast,simprocAttr]
   all_goals repeat' apply And.intro
   all_goals
    refine dK (hx) ?_
    simp(disch:=first|omega|(apply id;simp only[push_cast];try omega))only[push_cast,simprocAttr]
   all_goals repeat' apply And.intro
   all_goals
    refine dK (hy) ?_
    simp(disch:=first|omega|(apply id;simp only[push_cast];try omega))only[push_cast,simprocAttr]
   all_goals repeat' apply And.intro
   all_goals
    rw[uI0]
    simp(disch:=first|omega|(apply id;simp only[push_cast];try omega))only[push_cast,simprocAttr,wL0,h0,h0',↓cQ1]
   all_goals repeat' apply And.intro
   all_goals exact cD0 prog _ _
  ·rw[if_neg (fun h=>h0' h.2)]
   simp(disch:=first|omega|(apply id;simp only[push_cast];try omega))only[push_cast,simprocAttr]
   all_goals repeat' apply And.intro
   all_goals
    refine dK (hx) ?_
    simp(disch:=first|omega|(apply id;simp only[push_cast];try omega))only[push_cast,simprocAttr]
   all_goals repeat' apply And.intro
   all_goals
    refine dK (hy) ?_
    simp(disch:=first|omega|(apply id;simp only[push_cast];try omega))only[push_cast,simprocAttr]
   all_goals repeat' apply And.intro
   all_goals
    rw[uI0]
    simp(disch:=first|omega|(apply id;simp only[push_cast];try omega))only[push_cast,simprocAttr,wL0,h0,h0',↓cQ1]
   all_goals repeat' apply And.intro
   all_goals
    refine dK (nD0 G 11 a b s e [x,y] [x',y'] hse) ?_
    simp(disch:=first|omega|(apply id;simp only[push_cast];try omega))only[push_cast,simprocAttr]
    exact .id (qH0 1 (by decide) (.mk 11 a b s e [x',y']))
 ·rw[if_neg (fun h=>h0 h.1)]
  simp(disch:=first|omega|(apply id;simp only[push_cast];try omega))only[push_cast,simprocAttr]
  all_goals repeat' apply And.intro
  all_goals
   refine dK (hx) ?_
   simp(disch:=first|omega|(apply id;simp only[push_cast];try omega))only[push_cast,simprocAttr]
  all_goals repeat' apply And.intro
  all_goals
   refine dK (hy) ?_
   simp(disch:=first|omega|(apply id;simp only[push_cast];try omega))only[push_cast,simprocAttr]
  all_goals repeat' apply And.intro
  all_goals
   rw[uI0]
   simp(disch:=first|omega|(apply id;simp only[push_cast];try omega))only[push_cast,simprocAttr,wL0,h0,↓cQ1]
  all_goals repeat' apply And.intro
  all_goals
   refine dK (nD0 G 11 a b s e [x,y] [x',y'] hse) ?_
   simp(disch:=first|omega|(apply id;simp only[push_cast];try omega))only[push_cast,simprocAttr]
   exact .id (qH0 1 (by decide) (.mk 11 a b s e [x',y']))
theorem zJ2 (a b:Int) (s:List UInt8) (e:Ex) (x:Tm) (hse:smE e=true) (hx:jI (pp G) H0 12 [tmV x] (tmV (jF x))):jI (pp G) H0 12 [tmV (.mk 7 a b s e [x])] (tmV (jF (.mk 7 a b s e [x]))):=by
 refine cE G fW0 (by kernel_rfl) (uF0 ..) fun hlo=>?_;rw[qM0]
 rw[jF,if_pos rfl]
 generalize jF x=x' at hx ⊢
 simp(disch:=first|omega|(apply id;simp only[push_cast];try omega))only[push_cast,simprocAttr]
 refine dK (hx) ?_
 by_cases h0:x'.k=0
 ·rw[if_pos h0]
  simp(disch:=first|omega|(apply id;simp only[push_cast];try omega))only[push_cast,simprocAttr,wL0,h0]
  exact cD0 prog _ _
 ·rw[if_neg h0]
  simp(disch:=first|omega|(apply id;simp only[push_cast];try omega))only[push_cast,simprocAttr,wL0,h0,↓rowT1]
  refine dK (nD0 G 7 a b s e [x] [x'] hse) ?_
  simp(disch:=first|omega|(apply id;simp only[push_cast];try omega))only[push_cast,simprocAttr]
  exact .id (qH0 1 (by decide) (.mk 7 a b s e [x']))
theorem zH2 (k a b:Int) (s:List UInt8) (e:Ex) (l:List Tm) (hll:l.length<100000000000) (hown:jI (pp G) H0 26 [tmV (.mk k a b s e l)] (tmV (.mk k a b s e l))) (h12:¬(k=12∧l.length=2)) (h11:¬(k=11∧l.length=2)) (h7:¬(k=7∧l.length=1)) :
  jI (pp G) H0 12 [tmV (.mk k a b s e l)] (tmV (jF (.mk k a b s e l))):=by
 have hn:jF (.mk k a b s e l)=.mk k a b s e l:=by
  unfold jF
  split
  ·rename_i e1;cases e1;rw[if_neg (fun h=>h12 ⟨h,rfl⟩),if_neg (fun h=>h11 ⟨h,rfl⟩)]
  ·rename_i e1;cases e1;rw[if_neg (fun h=>h7 ⟨h,rfl⟩)]
  ·rename_i e1;cases e1;rfl
 rw[hn]
 refine cE G fW0 (by kernel_rfl) (uF0 ..) fun hlo=>?_;rw[qM0]
 by_cases g12:k=12
 ·have g2:¬ (l.length:Int)=2:=fun h=>h12 ⟨g12,by omega⟩
  simp(disch:=first|omega|(apply id;simp only[push_cast];try omega))only[push_cast,simprocAttr,g12,g2]
  subst g12
  try (rw[sd_ir12_s1];simp(disch:=first|omega|(apply id;simp only[push_cast];try omega))only[push_cast,simprocAttr])
  refine dK (hown) ?_
  simp(disch:=first|omega|(apply id;simp only[push_cast];try omega))only[push_cast,simprocAttr]
  exact .id (qH0 1 (by decide) (.mk 12 a b s e l))
 by_cases g11:k=11
 ·have g2:¬ (l.length:Int)=2:=fun h=>h11 ⟨g11,by omega⟩
  simp(disch:=first|omega|(apply id;simp only[push_cast];try omega))only[push_cast,simprocAttr,g11,g2]
  subst g11
  try (rw[sd_ir12_s1];simp(disch:=first|omega|(apply id;simp only[push_cast];try omega))only[push_cast,simprocAttr])
  refine dK (hown) ?_
  simp(disch:=first|omega|(apply id;simp only[push_cast];try omega))only[push_cast,simprocAttr]
  exact .id (qH0 1 (by decide) (.mk 11 a b s e l))
 by_cases g7:k=7
 ·have g2:¬ (l.length:Int)=1:=fun h=>h7 ⟨g7,by omega⟩
  simp(disch:=first|omega|(apply id;simp only[push_cast];try omega))only[push_cast,simprocAttr,g7,g2]
  subst g7
  try (rw[sd_ir12_s1];simp(disch:=first|omega|(apply id;simp only[push_cast];try omega))only[push_cast,simprocAttr])
  refine dK (hown) ?_
  simp(disch:=first|omega|(apply id;simp only[push_cast];try omega))only[push_cast,simprocAttr]
  exact .id (qH0 1 (by decide) (.mk 7 a b s e l))
 simp(disch:=first|omega|(apply id;simp only[push_cast];try omega))only[push_cast,simprocAttr,g12,g11,g7]
 try (rw[sd_ir12_s1];simp(disch:=first|omega|(apply id;simp only[push_cast];try omega))only[push_cast,simprocAttr])
 refine dK (hown) ?_
 simp(disch:=first|omega|(apply id;simp only[push_cast];try omega))only[push_cast,simprocAttr]
 exact .id (qH0 1 (by decide) (.mk k a b s e l))
theorem fM0:∀ (x:Tm),smT x=true→jI (pp G) H0 12 [tmV x] (tmV (jF x))
 | .mk k a b s e l,hs=>by
  have hs0:=hs
  simp only[smT,Bool.and_eq_true,decide_eq_true_eq] at hs
  obtain ⟨⟨hll,hse⟩,hsl⟩:=hs
  have ih:∀ x∈l,jI (pp G) H0 12 [tmV x] (tmV (jF x)):=fun x hx=>fM0 x (qA hsl x hx)
  by_cases h12:k=12∧l.length=2
  ·obtain ⟨rfl,h2⟩:=h12
   obtain ⟨x,y,rfl⟩:∃ x y,l=[x,y]:=by
    match l,h2 with
    | [x,y],_=>exact ⟨x,y,rfl⟩
   exact sB1 G a b s e x y hse (ih x (by simp)) (ih y (by simp)) (gA0 G y (qA hsl y (by simp)))
  by_cases h11:k=11∧l.length=2
  ·obtain ⟨rfl,h2⟩:=h11
   obtain ⟨x,y,rfl⟩:∃ x y,l=[x,y]:=by
    match l,h2 with
    | [x,y],_=>exact ⟨x,y,rfl⟩
   exact sC1 G a b s e x y hse (ih x (by simp)) (ih y (by simp))
  by_cases h7:k=7∧l.length=1
  ·obtain ⟨rfl,h2⟩:=h7
   obtain ⟨x,rfl⟩:∃ x,l=[x]:=by
    match l,h2 with
    | [x],_=>exact ⟨x,rfl⟩
   exact zJ2 G a b s e x hse (ih x (by simp))
  exact zH2 G k a b s e l hll (gA0 G _ hs0) h12 h11 h7
 termination_by x=>SizeOf.sizeOf x
def stF (x:Sp):List St:=
 if x.t.k=0∨x.t.k=14∨x.t.k=12∨x.t.k=11∨x.t.k=7 then []
 else if x.t.k=8 then (if jY0 x.b=[] then [⟨8,x.p,0⟩] else [])
 else if x.t.k=10 then [⟨10,x.p,0⟩,⟨10,x.p,1⟩] else [⟨x.t.k,x.p,0⟩]
def stS (l:List Sp):List St:=l.flatMap stF
def enF (t:Tm):List St:=stS (spT (jF t) (jF t) [])
theorem cF1 (l:List Sp) (x:Sp):stS (l++[x])=stS l++stF x:=by simp[stS]
theorem nK1 (x:Sp):(stF x).length≤2:=by
 unfold stF
 split
 ·simp
 split
 ·split<;>simp
 split<;>simp
theorem lC0:∀ l:List Sp,(stS l).length≤2*l.length
 | []=>by simp[stS]
 | x :: l=>by
  have h1:=nK1 x
  have h2:=lC0 l
  simp only[stS,List.flatMap_cons,List.length_append,List.length_cons] at h2 ⊢
  omega
inductive wT (σ:jA) (Q:Nat→Prop):List St→List Value→Prop
 | nil:wT σ Q [] []
 | cons {k a:Int} {p:List Int} {q:Option Addr} {m c:Nat} {l:List St} {cs:List Value} (h:PwR σ q m c p) (hp:p.length<1000000000000) (hq:∀ b,blk q b→Q b) (hs:wT σ Q l cs):wT σ Q (⟨k,p,a⟩ :: l) ([.int .i64 k,.slice q m c,.int .i64 a]++cs)
theorem wT.grew {σ σ':jA} {S Q Q':Nat→Prop} (g:jD σ σ' S) (h1:∀ k,Q k→k<σ.next→¬ S k∧Q' k) {l:List St} {cs:List Value} (h:wT σ Q l cs):wT σ' Q' l cs:=by
 induction h with
 | nil=>exact .nil
 | @cons k a p q m c l cs h hp hq hs ih=>
  have hlt:∀ b,blk q b→b<σ.next:=fun b hb=>by
   rcases h with ⟨rfl,_⟩|⟨b',rfl,_,h2,_⟩
   ·obtain ⟨o,s,e⟩:=hb;cases e
   ·obtain ⟨o,s,e⟩:=hb;cases e;exact h2
  exact .cons (h.grew g fun b hb=>(h1 b (hq b hb) (hlt b hb)).1) hp (fun b hb=>(h1 b (hq b hb) (hlt b hb)).2) ih
theorem wT.app {σ:jA} {Q:Nat→Prop} {l l':List St} {cs cs':List Value} (h:wT σ Q l cs) (h':wT σ Q l' cs'):wT σ Q (l++l') (cs++cs'):=by
 induction h with
 | nil=>exact h'
 | cons h hp hq hs ih=>rw[List.cons_append,List.append_assoc];exact .cons h hp hq ih
theorem wT.len {σ:jA} {Q:Nat→Prop} {l:List St} {cs:List Value} (h:wT σ Q l cs):cs.length=l.length*3:=by
 induction h with
 | nil=>rfl
 | cons h hp hq hs ih=>rw[List.length_append,ih,List.length_cons];simp;omega
theorem wT.one {σ:jA} {Q:Nat→Prop} {l:List St} {cs:List Value} (h:wT σ Q l cs):cs.all one=true:=by
 induction h with
 | nil=>rfl
 | cons h hp hq hs ih=>rw[List.all_append,ih];rfl
theorem wT.fz {P:Program} {N:Nat} {σ:jA} {Q:Nat→Prop} (hs:szT P eI=some 1) (hQ:∀ b,Q b→N≤b) {l:List St} {cs:List Value} (h:wT σ Q l cs):FzL P N σ cs (stCs l):=by
 induction h with
 | nil=>exact .nil
 | cons h hp hq hs' ih=>exact .cons (.id rfl) (.cons (h.fz hs (by omega) fun b hb=>hQ b (hq b hb)) (.cons (.id rfl) ih))
def uX (cs:List Value) (k:Nat):Prop:=∃ n c,Value.slice (some ⟨k,0,none⟩) n c∈cs
theorem jC0 {a b:List Value} {k:Nat}:uX (a++b) k↔uX a k∨uX b k:=by
 unfold uX
 constructor
 ·rintro ⟨n,c,h⟩
  rcases List.mem_append.1 h with h|h
  ·exact .inl ⟨n,c,h⟩
  ·exact .inr ⟨n,c,h⟩
 ·rintro (⟨n,c,h⟩|⟨n,c,h⟩)
  ·exact ⟨n,c,List.mem_append_left _ h⟩
  ·exact ⟨n,c,List.mem_append_right _ h⟩
theorem zA0 {k a:Int} {q:Option Addr} {m c j:Nat}:uX [.int .i64 k,.slice q m c,.int .i64 a] j→blk q j:=by
 rintro ⟨n,c',h⟩
 simp only[List.mem_cons,List.not_mem_nil,or_false] at h
 rcases h with h|h|h
 ·cases h
 ·cases h;exact ⟨0,none,rfl⟩
 ·cases h
theorem wT.ins {σ:jA} {Q:Nat→Prop} {l:List St} {cs:List Value} (h:wT σ Q l cs) {k:Nat} (hk:uX cs k):k<σ.next∧Q k:=by
 induction h with
 | nil=>obtain ⟨n,c,h⟩:=hk;cases h
 | cons h hp hq hs ih=>
  rcases jC0.1 hk with h1|h1
  ·have hb:=zA0 h1
   refine ⟨?_,hq _ hb⟩
   rcases h with ⟨rfl,_⟩|⟨b',rfl,_,h2,_⟩
   ·obtain ⟨o,s,e⟩:=hb;cases e
   ·obtain ⟨o,s,e⟩:=hb;cases e;exact h2
  ·exact ih h1
theorem wT.self {σ:jA} {Q:Nat→Prop} {l:List St} {cs:List Value} (h:wT σ Q l cs):wT σ (fun b=>Q b∧uX cs b) l cs:=by
 induction h with
 | nil=>exact .nil
 | @cons k a p q m c l cs h hp hq hs ih=>
  refine .cons h hp (fun b hb=>⟨hq b hb,jC0.2 (.inl ?_)⟩) (ih.grew (jD.refl σ (fun _=>False)) fun b hb _=>⟨id,hb.1,jC0.2 (.inr hb.2)⟩)
  rcases h with ⟨rfl,_⟩|⟨b',rfl,_⟩
  ·obtain ⟨o,s,e⟩:=hb;cases e
  ·obtain ⟨o,s,e⟩:=hb;cases e;exact ⟨m,c,by simp⟩
structure L1 (σ:jA) (l:List St) (q:Option Addr) (c:Nat) (cs:List Value):Prop where
 cell:cells σ 2=some ([.slice q l.length c],50,false)
 own:OwnD σ 58 3 q l.length c cs
 rows:wT σ (fun k=>6≤k∧¬ blk q k) l cs
 ids:∀ k,blk q k→6≤k∧k<σ.next
theorem L1.grew {σ σ':jA} {S:Nat→Prop} {l:List St} {q:Option Addr} {c:Nat} {cs:List Value} (h:L1 σ l q c cs) (g:jD σ σ' S) (h1:¬ S 2) (hn:2<σ.next) (hS:∀ k,6≤k→¬ S k):L1 σ' l q c cs:=by
 have:=g.next
 exact ⟨g.cellsE h.cell hn h1,h.own.grew g fun b hb=>hS b (h.ids b hb).1,h.rows.grew g fun k hk _=>⟨hS k hk.1,hk⟩,fun k hk=>⟨(h.ids k hk).1,by have:=(h.ids k hk).2;omega⟩⟩
theorem L1.add {σ:jA} {l m:List St} {q:Option Addr} {c:Nat} {cs ms:List Value} (h:L1 σ l q c cs) (hm:wT σ (fun k=>6≤k∧¬ blk q k) m ms) (hlo:σ.lo=1) (hn:6≤σ.next) (hb:l.length+m.length<3000000000000) :
  ∃ a' c' σ',apS 58 3 40 (.slice q l.length c) (some (m.length,ms)) σ=some (.slice a' (l.length+m.length) c',σ')∧jD σ σ' (blk q)∧cells σ' 2=some ([.slice q l.length c],50,false)∧
   L1 (σ'.put 2 (O [.slice a' (l.length+m.length) c'] 50 false)) (l++m) a' c' (cs++ms)∧(∀ k,blk a' k→blk q k∨σ.next≤k):=by
 obtain ⟨a',c',σ',e',o',g',b'⟩:=wC1 (by_:=40) h.own (by decide) (by omega) (m:=m.length) (xs:=ms) hm.len hm.one (by omega)
 have hgn:=g'.next
 have hq1:∀ k,blk a' k→6≤k∧k<σ'.next:=fun k hk=>⟨by rcases b' k hk with q1|q1;exact (h.ids k q1).1;omega,(OwnD.lt o' hk).2⟩
 have gp:jD σ' (σ'.put 2 (O [.slice a' (l.length+m.length) c'] 50 false)) (fun k=>k=2):=jD.put _ _ _ fun _=>rfl
 refine ⟨a',c',σ',e',g',g'.cellsE h.cell (by omega) (fun hk=>by have:=h.ids _ hk;omega),⟨?_,?_,?_,fun k hk=>hq1 k hk⟩,b'⟩
 ·rw[List.length_append]
  exact jP _ _ _ _
 ·rw[List.length_append]
  exact o'.grew gp fun k hk e=>by have:=hq1 k hk;omega
 ·refine ((h.rows.app hm).grew g' (Q':=fun k=>6≤k∧¬ blk a' k) fun k hk hlt=>⟨hk.2,hk.1,fun hka=>?_⟩).grew gp fun k hk _=>⟨by omega,hk⟩
  rcases b' k hka with q1|q1
  ·exact hk.2 q1
  ·omega
theorem rowS1 (k a:Int) (q:Option Addr) (m c:Nat) (σ:jA):bsD (qq.m 50) (slT prog 50) 1 [(0,.agg ⟨[.int .i64 k,.slice q m c,.int .i64 a]⟩)] σ=some (Rw true 58 1 [.int .i64 k,.slice q m c,.int .i64 a],σ):=by kernel_rfl
theorem rowS2 (k a k' a':Int) (q q':Option Addr) (m c m' c':Nat) (σ:jA):bsD (qq.m 50) (slT prog 50) 2 [(0,.agg ⟨[.int .i64 k,.slice q m c,.int .i64 a]⟩),(1,.agg ⟨[.int .i64 k',.slice q' m' c',.int .i64 a']⟩)] σ=some (Rw true 58 2 [.int .i64 k,.slice q m c,.int .i64 a,.int .i64 k',.slice q' m' c',.int .i64 a'],σ):=by kernel_rfl
theorem yH2 {ro:Option Nat} {t b:Tm} {p:List Int} {a:Option Addr} {n k:Nat} {l:List St} {q:Option Addr} {c:Nat} {cs:List Value} {σ:jA} (h:L1 σ l q c cs) (hlo:σ.lo=1) (hn:6≤σ.next) (hl:l.length<1000000000000)
  (ho:bE σ eI a n k (ivs p)) (hp:p.length<1000000000000) {T:jL→S→Prop} {df:List Nat}
  (hT:∀ (tm:VT) (σ':jA) (q':Option Addr) (c':Nat) (cs':List Value),L1 σ' (l++[⟨t.k,p,0⟩]) q' c' cs'→jD σ σ' (fun k=>k=2∨blk q k)→(∀ k,blk q' k→blk q k∨σ.next≤k)→(∀ k,uX cs' k→uX cs k∨σ.next≤k)→T .normal ⟨tm,df,σ'⟩) {x0 x1 x2 x5 x6 x7 x8 x9 xA xB xC xD xE xF xG xH xI xJ xK xL xM xN xO xP xQ xR xS xT xU xV xW xX xY xZ yA yB yC yD:Value} :
  dc3 (pp G) qq ro wA0 ⟨(F40 x0 x1 x2 (.pointer (some ⟨2,0,none⟩)) (Rpt 0 (spC t b a n k)) x5 x6 x7 x8 x9 xA xB xC xD xE xF xG xH xI xJ xK xL xM xN xO xP xQ xR xS xT xU xV xW xX xY xZ yA yB yC yD),df,σ⟩ T:=by
 rw[sB0]
 have hc:=h.cell
 simp(disch:=first|omega|(apply id;simp only[push_cast];try omega))only[push_cast,simprocAttr,hc,hlo]
 refine jC.func (cap:=[]) (args:=[_,_]) (qF1 G t b 0 ho hlo (by omega) hp) ?_
 rintro _ σ1 ⟨q1,m1,k1,rfl,hq1,g1,hb1⟩
 have hn1:=g1.next
 have h1:=h.grew g1 id (by omega) (fun _ _ h=>h)
 have hl1:σ1.lo=1:=by rw[g1.lo,hlo]
 have hr:wT σ1 (fun k=>6≤k∧¬ blk q k) [⟨t.k,p,0⟩] [.int .i64 t.k,.slice q1 m1 k1,.int .i64 0]:=.cons hq1 hp (fun b hb=>⟨by have:=hb1 b hb;omega,fun hqb=>by have:=hb1 b hb;have:=h.ids b hqb;omega⟩) .nil
 obtain ⟨a',c',σ2,e2,g2,hc2,h2,b2⟩:=h1.add hr hl1 (by omega) (by simp;omega)
 have hc1:=h1.cell
 have hl2:σ2.lo=1:=by rw[g2.lo,hl1]
 simp only[List.length_singleton] at e2
 simp(disch:=first|omega|(apply id;simp only[push_cast];try omega))only[push_cast,simprocAttr,hc1,hl1,↓rowS1,e2,hc2,hl2]
 have gp:jD σ2 (σ2.put 2 (O [.slice a' (l.length+1) c'] 50 false)) (fun k=>k=2):=jD.put _ _ _ fun _=>rfl
 refine hT _ _ a' c' _ h2 (((g1.mono (T:=fun k=>k=2∨blk q k) fun _ _ h=>h.elim).tr' g2 fun k _ h=>.inr h).tr' gp fun k _ h=>.inl h) (fun k hk=>?_) fun k hk=>?_
 ·rcases b2 k hk with q3|q3
  ·exact .inl q3
  ·exact .inr (by omega)
 ·rcases jC0.1 hk with q3|q3
  ·exact .inl q3
  ·exact .inr (hb1 k (zA0 q3))
def fnE:Value:=.func (.func 47) ⟨[]⟩ ⟨[.pointer (some ⟨3,0,none⟩)]⟩
def tmE (t n:Tm):VT:=F40 (tmV t) (.pointer (some ⟨1,0,none⟩)) (.slice none 0 0) (.pointer (some ⟨2,0,none⟩)) ud (tmV t) (tmV n) fnE ud ud ud ud ud ud ud ud ud ud ud ud ud ud ud ud ud ud ud ud ud ud ud ud ud ud ud ud ud ud ud ud
def lpE (t n:Tm):Loop:={ state:=.ready,pending:=none,fn:=0,tmps:=(tmE t n).arr,params:=#[8],assign:=kY prog 14 1,body:=kY prog 14 2,defers:=4 }
theorem setE (t n:Tm) (v:Value):uG (tmE t n) ((#[8]:Array Nat).toList.zip [v])=F40 (tmV t) (.pointer (some ⟨1,0,none⟩)) (.slice none 0 0) (.pointer (some ⟨2,0,none⟩)) ud (tmV t) (tmV n) fnE v ud ud ud ud ud ud ud ud ud ud ud ud ud ud ud ud ud ud ud ud ud ud ud ud ud ud ud ud ud ud ud:=by kernel_rfl
theorem setF4 {x0 x1 x2 x3 x5 x6 x7 x8 x9 xA xB xC xD xE xF xG xH xI xJ xK xL xM xN xO xP xQ xR xS xT xU xV xW xX xY xZ yA yB yC yD:Value} (u v:Value):VT.set (F40 x0 x1 x2 x3 u x5 x6 x7 x8 x9 xA xB xC xD xE xF xG xH xI xJ xK xL xM xN xO xP xQ xR xS xT xU xV xW xX xY xZ yA yB yC yD) 4 v=(F40 x0 x1 x2 x3 v x5 x6 x7 x8 x9 xA xB xC xD xE xF xG xH xI xJ xK xL xM xN xO xP xQ xR xS xT xU xV xW xX xY xZ yA yB yC yD):=by kernel_rfl
theorem getF4 {x0 x1 x2 x3 x5 x6 x7 x8 x9 xA xB xC xD xE xF xG xH xI xJ xK xL xM xN xO xP xQ xR xS xT xU xV xW xX xY xZ yA yB yC yD:Value} (u:Value):VT.get (F40 x0 x1 x2 x3 u x5 x6 x7 x8 x9 xA xB xC xD xE xF xG xH xI xJ xK xL xM xN xO xP xQ xR xS xT xU xV xW xX xY xZ yA yB yC yD) 4=u:=by kernel_rfl
structure Ye (t n:Tm) (acc:List Sp) (B:Nat→Prop) (σ:jA):Prop where
 lo:σ.lo=1
 nx:6≤σ.next
 lp:σ.get 5=some ⟨.loop (lpE t n),false⟩
 w:∃ q c cs,L1 σ (stS acc) q c cs∧B=fun k=>k=5∨k=2∨blk q k∨uX cs k
theorem ye (t nn:Tm):Ys G 5 (Ye t nn) (fun acc=>acc.length<400000000000) where
 lt:=fun {acc B σ} hY k hk=>by
  obtain ⟨hl,hn,hlp,q,c,cs,h1,rfl⟩:=hY
  rcases hk with rfl|rfl|hk|hk
  ·omega
  ·omega
  ·exact (h1.ids k hk).2
  ·exact (h1.rows.ins hk).1
 lo:=fun {acc B σ} hY=>⟨hY.lo,by have:=hY.nx;omega,by have:=hY.nx;omega⟩
 n:=fun {a b} h=>by rw[List.length_append] at h;omega
 st:=fun {acc B σ σ'} hY g=>by
  obtain ⟨hl,hn,hlp,q,c,cs,h1,rfl⟩:=hY
  have hgn:=g.next
  refine ⟨g.lo.trans hl,by omega,(g.get _ (by omega) (fun h=>h (.inl rfl))).trans hlp,q,c,cs,⟨g.cellsE h1.cell (by omega) (fun h=>h (.inr (.inl rfl))),h1.own.grew g (fun b hb h=>h (.inr (.inr (.inl hb)))),h1.rows.self.grew g fun k hk _=>⟨fun h=>h (.inr (.inr (.inr hk.2))),hk.1⟩,fun k hk=>⟨(h1.ids k hk).1,by have:=(h1.ids k hk).2;omega⟩⟩,rfl⟩
 y:=fun {acc B σ} hY tt bb p a n c hst hsb ho hba hp hab hN=>by
  obtain ⟨hl,hn,hlp,q,cc,cs,h1,rfl⟩:=hY
  rw[List.length_append,List.length_singleton] at hN
  have hsl:=lC0 acc
  refine jC.yieldG (q:=qq) (T:=tmE t nn) (jX G) (qE hlp (by omega)) (by omega) rfl (by show 40<U;unfold U;omega) rfl eL1 eK1 (show gS NGG kG1=true by kernel_rfl) (show gS NGG kF1=true by kernel_rfl) (by rw[hl];exact (show NGG≤1 by decide)) ?_
  rw[show (lpE t nn).params=#[8] from rfl,setE,uJ1]
  simp(disch:=first|omega|(apply id;simp only[push_cast];try omega))only[push_cast,simprocAttr]
  obtain ⟨τ,hτ⟩:∃ τ,τ=(σ.add (O [.int .i64 0,.int .i64 0,.int .i64 0,.string (Tx []),.int .i64 0,.int .i64 0,.string (Tx []),.slice none 0 0,.slice none 0 0,.int .i64 0,.int .i64 0,.int .i64 0,.string (Tx []),.int .i64 0,.int .i64 0,.string (Tx []),.slice none 0 0,.slice none 0 0,.slice none 0 0] 74 false)).put σ.next (O (spC tt bb a n c) 74 false):=⟨_,rfl⟩
  have g0:jD σ τ (fun _=>False):=by rw[hτ];exact (by (repeat (first|exact Gr.refl _|assumption|(refine jD.put' ?_ _ _ (by first|omega|(simp only[push_cast];omega)))|(refine jD.add' ?_ _))))
  have c0:cells τ σ.next=some (spC tt bb a n c,74,false):=by rw[hτ];simp(disch:=first|omega|(apply id;simp only[push_cast];try omega))only[push_cast,simprocAttr]
  have hn0:σ.next+1≤τ.next:=by rw[hτ];simp(disch:=first|omega|(apply id;simp only[push_cast];try omega))only[push_cast,simprocAttr];omega
  have hcg0:τ.get σ.next=some (O (spC tt bb a n c) 74 false):=by rw[hτ];exact qO _ _
  rw[← hτ]
  have hl0:τ.lo=1:=by rw[g0.lo,hl]
  have k1:=h1.grew g0 id (by omega) (fun _ _ h=>h)
  have klp:=(g0.get _ (by omega) id).trans hlp
  clear hτ
  simp only[kR,hi,eE0]
  rw[qE klp (by omega)]
  dsimp only
  refine ⟨rfl,?_⟩
  rw[show (jM τ 5 { lpE t nn with state:=.busy })=τ.put 5 ⟨.loop { lpE t nn with state:=.busy },false⟩ from rfl]
  obtain ⟨τ2,hτ2⟩:∃ τ2,τ2=τ.put 5 ⟨.loop { lpE t nn with state:=.busy },false⟩:=⟨_,rfl⟩
  rw[← hτ2]
  have g2:jD τ τ2 (fun k=>k=5):=by rw[hτ2];exact jD.put _ _ _ fun _=>rfl
  have b0:=g2.cellsE c0 (by omega) (by omega)
  have b1:=k1.grew g2 (by omega) (by omega) (fun k hk e=>by omega)
  have blp:τ2.get 5=some ⟨.loop { lpE t nn with state:=.busy },false⟩:=by rw[hτ2];exact qO _ _
  have hl2:τ2.lo=1:=by rw[g2.lo,hl0]
  have hn2:=g2.next
  have ho2:=(ho.grew g0 (fun _ _ h=>h)).grew g2 (fun k hk e=>hba k hk (.inl e))
  have hqn:∀ k,blk a k→k<σ.next:=fun k hk=>by
   obtain ⟨o,s,rfl⟩:=hk
   rcases ho.hat with ⟨h,_⟩|⟨b,h,_,h2,_⟩
   ·cases h
   ·cases h;exact h2
  obtain ⟨fr1,hgb⟩:=uI b0
  have hcg:=hcg0
  have hgb':τ2.get σ.next=some (O (spC tt bb a n c) 74 false):=by rw[hτ2,jW _ _ _ (by omega)];exact hcg
  refine ⟨_,tA1 (D:=⟨_,_,τ2⟩) (i:=σ.next) (k:=4) (by show τ2.lo≤_;omega) (by show _<τ2.next;omega) hgb' (by rw[lF0];decide) (by show 4<40;decide) (getF4 _),?_⟩
  rw[setF4]
  show dc3 _ _ _ _ ⟨_,[],uM (fun j=>!Nat.beq j σ.next) τ2⟩ _
  have gF:=dJ1 τ2 σ.next
  have hrn:∀ k,uX cs k→k<σ.next:=fun k hk=>(h1.rows.ins hk).1
  have b1:L1 (uM (fun j=>!Nat.beq j σ.next) τ2) (stS acc) q cc cs:=⟨gF.cellsE b1.cell (by omega) (by omega),b1.own.grew gF (fun k hk e=>by have:=(h1.ids k hk).2;omega),b1.rows.self.grew gF (fun k hk _=>⟨fun e=>by have:=hrn k hk.2;omega,hk.1⟩),fun k hk=>⟨(b1.ids k hk).1,by rw[gJ0];exact (b1.ids k hk).2⟩⟩
  have ho2:=ho2.grew gF (fun k hk e=>by have:=hqn k hk;omega)
  have blp:=(gF.get 5 (by omega) (by omega)).trans blp
  have hl2:(uM (fun j=>!Nat.beq j σ.next) τ2).lo=1:=by rw[kN1,hl2]
  have hn3:=gJ0 (fun j=>!Nat.beq j σ.next) τ2
  have gg:jD σ (uM (fun j=>!Nat.beq j σ.next) τ2) (fun k=>k=5∨k=2∨blk q k∨uX cs k):=((g0.mono fun _ _ h=>h.elim).tr' g2 fun k _ h=>.inl h).tr' gF fun k hk e=>by omega
  clear hτ2 g2 g0 hgb hgb' gF b0 hcg
  generalize uM (fun j=>!Nat.beq j σ.next) τ2=τ2' at *
  rw[uI1]
  have hsn:=cF1 acc ⟨tt,bb,p⟩
  have fin : ∀ (D : S) (q' : Option Addr) (c' : Nat) (cs' : List Value), L1 D.h (stS (acc ++ [⟨tt, bb, p⟩])) q' c' cs' → jD τ2' D.h (fun k => k = 2 ∨ blk q k) → (∀ k, blk q' k → blk q k ∨ τ2'.next ≤ k) → (∀ k, uX cs' k → uX cs k ∨ τ2'.next ≤ k) →
    gN 5 (fun (_:Bool) v σ'=>v=.bool true∧∃ B',Ye t nn (acc++[⟨tt,bb,p⟩]) B' σ'∧(∀ k,B' k→(k=5∨k=2∨blk q k∨uX cs k)∨σ.next≤k)∧jD σ σ' (fun k=>k=5∨k=2∨blk q k∨uX cs k)) .normal D:=by
   rintro ⟨tm,df,τ3⟩ q' c' cs' f1 f2 f3 f4
   have f7:τ2'.next≤τ3.next:=f2.next
   have f8:τ3.lo=1:=f2.lo.trans hl2
   have f9:τ3.get 5=some ⟨.loop { lpE t nn with state:=.busy },false⟩:=(f2.get _ (by omega) (fun hk=>by
    rcases hk with hk|hk
    ·omega
    ·have:=h1.ids _ hk;omega)).trans blp
   simp only[gN]
   rw[qE f9 (by omega)]
   have gp:jD τ3 (jM τ3 5 (lpE t nn)) (fun k=>k=5):=jD.put _ _ _ fun _=>rfl
   refine ⟨rfl,fun k=>k=5∨k=2∨blk q' k∨uX cs' k,⟨f8,(by show 6≤τ3.next;omega),qO _ _,q',c',cs',f1.grew gp (by omega) (by show _<τ3.next;omega) (fun k hk e=>by omega),rfl⟩,fun k hk=>?_,(gg.tr' f2 fun k hk h=>.inr (by rcases h with h|h;exact .inl h;exact .inr (.inl h))).tr' gp fun k hk h=>.inl h⟩
   rcases hk with rfl|rfl|hk|hk
   ·exact .inl (.inl rfl)
   ·exact .inl (.inr (.inl rfl))
   ·rcases f3 k hk with h|h
    ·exact .inl (.inr (.inr (.inl h)))
    ·exact .inr (by omega)
   ·rcases f4 k hk with h|h
    ·exact .inl (.inr (.inr (.inr h)))
    ·exact .inr (by omega)
  have none:stF ⟨tt,bb,p⟩=[]→∀ (tm:VT) (df:List Nat),gN 5 (fun (_:Bool) v σ'=>v=.bool true∧∃ B',Ye t nn (acc++[⟨tt,bb,p⟩]) B' σ'∧(∀ k,B' k→(k=5∨k=2∨blk q k∨uX cs k)∨σ.next≤k)∧jD σ σ' (fun k=>k=5∨k=2∨blk q k∨uX cs k)) .normal ⟨tm,df,τ2'⟩:=fun he tm df=>
   fin _ q cc cs (by rw[hsn,he,List.append_nil];exact b1) (jD.refl _ _) (fun _ h=>.inl h) (fun _ h=>.inl h)
  by_cases e1:tt.k=0
  ·simp(disch:=first|omega|(apply id;simp only[push_cast];try omega))only[push_cast,simprocAttr,hl2,e1]
   rw[jB0]
   simp(disch:=first|omega|(apply id;simp only[push_cast];try omega))only[push_cast,simprocAttr]
   exact none (by unfold stF;rw[if_pos (.inl e1)]) _ _
  by_cases e2:tt.k=14
  ·simp(disch:=first|omega|(apply id;simp only[push_cast];try omega))only[push_cast,simprocAttr,hl2,e1,e2]
   rw[jB0]
   simp(disch:=first|omega|(apply id;simp only[push_cast];try omega))only[push_cast,simprocAttr]
   exact none (by unfold stF;rw[if_pos (.inr (.inl e2))]) _ _
  by_cases e3:tt.k=12
  ·simp(disch:=first|omega|(apply id;simp only[push_cast];try omega))only[push_cast,simprocAttr,hl2,e1,e2,e3]
   rw[jB0]
   simp(disch:=first|omega|(apply id;simp only[push_cast];try omega))only[push_cast,simprocAttr]
   exact none (by unfold stF;rw[if_pos (.inr (.inr (.inl e3)))]) _ _
  by_cases e4:tt.k=11
  ·simp(disch:=first|omega|(apply id;simp only[push_cast];try omega))only[push_cast,simprocAttr,hl2,e1,e2,e3,e4]
   rw[jB0]
   simp(disch:=first|omega|(apply id;simp only[push_cast];try omega))only[push_cast,simprocAttr]
   exact none (by unfold stF;rw[if_pos (.inr (.inr (.inr (.inl e4))))]) _ _
  by_cases e5:tt.k=7
  ·simp(disch:=first|omega|(apply id;simp only[push_cast];try omega))only[push_cast,simprocAttr,hl2,e1,e2,e3,e4,e5]
   rw[jB0]
   simp(disch:=first|omega|(apply id;simp only[push_cast];try omega))only[push_cast,simprocAttr]
   exact none (by unfold stF;rw[if_pos (.inr (.inr (.inr (.inr e5))))]) _ _
  have e0:¬ (tt.k=0∨tt.k=14∨tt.k=12∨tt.k=11∨tt.k=7):=by omega
  have hss:(stS acc).length<1000000000000:=by omega
  simp(disch:=first|omega|(apply id;simp only[push_cast];try omega))only[push_cast,simprocAttr,hl2,e1,e2,e3,e4,e5]
  rw[jB0]
  by_cases e6:tt.k=8
  ·simp(disch:=first|omega|(apply id;simp only[push_cast];try omega))only[push_cast,simprocAttr,hl2,e6]
   refine dK (jR1 G bb hsb (by omega)) ?_
   have hlv:lnD (some false) (ivV (jY0 bb))=some (.int .i64 (jY0 bb).length):=rfl
   by_cases hw:jY0 bb=[]
   ·have hw0:¬ (0:Int)<(jY0 bb).length:=by rw[hw];simp
    simp(disch:=first|omega|(apply id;simp only[push_cast];try omega))only[push_cast,simprocAttr,hlv,hw0]
    refine yH2 G b1 hl2 (by omega) hss ho2 hp ?_
    intro tm σ' q' c' cs' r1 r2 r3 r4
    simp(disch:=first|omega|(apply id;simp only[push_cast];try omega))only[push_cast,simprocAttr]
    refine fin _ q' c' cs' ?_ r2 r3 r4
    rw[hsn,show stF ⟨tt,bb,p⟩=[⟨tt.k,p,0⟩] by unfold stF;rw[if_neg e0,if_pos e6,if_pos hw,e6]]
    exact r1
   ·have hw':(0:Int)<(jY0 bb).length:=by have:=List.length_pos_iff.2 hw;omega
    simp(disch:=first|omega|(apply id;simp only[push_cast];try omega))only[push_cast,simprocAttr,hlv,hw']
    exact none (by unfold stF;rw[if_neg e0,if_pos e6,if_neg hw]) _ _
  by_cases e7:tt.k=10
  ·have hc1:=b1.cell
   simp(disch:=first|omega|(apply id;simp only[push_cast];try omega))only[push_cast,simprocAttr,hl2,e6,e7,hc1]
   refine jC.func (cap:=[]) (args:=[_,_]) (qF1 G tt bb 0 ho2 hl2 (by omega) hp) ?_
   rintro _ σ1 ⟨q1,m1,k1,rfl,hq1,g1,hb1⟩
   have n1:=g1.next
   have r1:=b1.grew g1 id (by omega) (fun _ _ h=>h)
   have hl3:σ1.lo=1:=by rw[g1.lo,hl2]
   have hc2:=r1.cell
   simp(disch:=first|omega|(apply id;simp only[push_cast];try omega))only[push_cast,simprocAttr,hc2,hl3]
   refine jC.func (cap:=[]) (args:=[_,_]) (qF1 G tt bb 1 (ho2.grew g1 (fun _ _ h=>h)) hl3 (by omega) hp) ?_
   rintro _ σ2 ⟨q2,m2,k2,rfl,hq2,g2,hb2⟩
   have n2:=g2.next
   have r2:=r1.grew g2 id (by omega) (fun _ _ h=>h)
   have hl4:σ2.lo=1:=by rw[g2.lo,hl3]
   have hr:wT σ2 (fun k=>6≤k∧¬ blk q k) [⟨tt.k,p,0⟩,⟨tt.k,p,1⟩] ([.int .i64 tt.k,.slice q1 m1 k1,.int .i64 0]++([.int .i64 tt.k,.slice q2 m2 k2,.int .i64 1]++[])):=
    .cons (hq1.grew g2 (fun _ _ h=>h)) hp (fun b hb=>⟨by have:=hb1 b hb;omega,fun hqb=>by have:=hb1 b hb;have:=b1.ids b hqb;omega⟩) (.cons hq2 hp (fun b hb=>⟨by have:=hb2 b hb;omega,fun hqb=>by have:=hb2 b hb;have:=b1.ids b hqb;omega⟩) .nil)
   obtain ⟨a',c',σ3,e8,g3,hc4,h3,b3⟩:=r2.add hr hl4 (by omega) (by simp;omega)
   have hc3:=r2.cell
   have hl5:σ3.lo=1:=by rw[g3.lo,hl4]
   have e9:apS 58 3 40 (.slice q (stS acc).length cc) (some (2,[.int .i64 tt.k,.slice q1 m1 k1,.int .i64 0,.int .i64 tt.k,.slice q2 m2 k2,.int .i64 1])) σ2=some (.slice a' ((stS acc).length+2) c',σ3):=e8
   rw[e7] at e9
   simp(disch:=first|omega|(apply id;simp only[push_cast];try omega))only[push_cast,simprocAttr,hc3,hl4,e7,↓rowS2,e9,hc4,hl5]
   have gp:jD σ3 (σ3.put 2 (O [.slice a' ((stS acc).length+2) c'] 50 false)) (fun k=>k=2):=jD.put _ _ _ fun _=>rfl
   refine fin _ a' c' (cs++([.int .i64 tt.k,.slice q1 m1 k1,.int .i64 0]++([.int .i64 tt.k,.slice q2 m2 k2,.int .i64 1]++[]))) ?_ ((((g1.trans g2 fun _ _ h=>h).mono (T:=fun k=>k=2∨blk q k) fun _ _ h=>h.elim).tr' g3 fun k _ h=>.inr h).tr' gp fun k _ h=>.inl h) (fun k hk=>?_) fun k hk=>?_
   ·rw[hsn,show stF ⟨tt,bb,p⟩=[⟨tt.k,p,0⟩,⟨tt.k,p,1⟩] by unfold stF;rw[if_neg e0,if_neg e6,if_pos e7,e7]]
    exact h3
   ·rcases b3 k hk with h|h
    ·exact .inl h
    ·exact .inr (by omega)
   ·rcases jC0.1 hk with h|h
    ·exact .inl h
    ·rcases jC0.1 h with h|h
     ·exact .inr (by have:=hb1 k (zA0 h);omega)
     ·rw[List.append_nil] at h
      exact .inr (by have:=hb2 k (zA0 h);omega)
  ·simp(disch:=first|omega|(apply id;simp only[push_cast];try omega))only[push_cast,simprocAttr,hl2,e6,e7]
   refine yH2 G b1 hl2 (by omega) hss ho2 hp ?_
   intro tm σ' q' c' cs' r1 r2 r3 r4
   simp(disch:=first|omega|(apply id;simp only[push_cast];try omega))only[push_cast,simprocAttr]
   refine fin _ q' c' cs' ?_ r2 r3 r4
   rw[hsn,show stF ⟨tt,bb,p⟩=[⟨tt.k,p,0⟩] by unfold stF;rw[if_neg e0,if_neg e6,if_neg e7]]
   exact r1
theorem uP1 (x:Tm) (σ:jA) (hl0:1≤σ.lo):jO (pp G) H0 29 [tmV x] σ (fun v σ'=>v=.func (.func 47) ⟨[]⟩ ⟨[.pointer (some ⟨σ.next,0,none⟩)]⟩∧σ'=σ.add (O (tmC x) 28 false)):=by
 refine jO.fir4 (q:=qq) (jX G) fir29 (by kernel_rfl) rfl rfl (iT0 ..) (by first|exact Nat.le_trans (show NGG≤1 by decide) (by omega)) ?_;rw[pP1]
 simp(disch:=first|omega|(apply id;simp only[push_cast];try omega))only[push_cast,simprocAttr]
 try exact ⟨rfl,rfl⟩
theorem sG0 {lid:Nat} {Y:List Sp→(Nat→Prop)→jA→Prop} {N:List Sp→Prop} (yp:Ys G lid Y N) (x:Tm) (hs:smT x=true) (hx:(uD x).length<1000000000000) (b:Nat) (B:Nat→Prop) (σ:jA) (hb:cells σ b=some (tmC x,28,false)) (hb1:1≤b) (hY:Y [] B σ) (hN:N (spT x x [])) :
  jO (pp G) H0 47 [.func (.yield lid) ⟨[]⟩ ⟨[]⟩,.pointer (some ⟨b,0,none⟩)] σ (fun _ σ'=>jL1 Y (spT x x []) B σ (.bool true) σ'):=by
 obtain ⟨hl1,hl2,hl3⟩:=yp.lo hY
 refine jO.fir4 (q:=qq) (jX G) fir47 (by kernel_rfl) rfl rfl (pC0 ..) (by first|exact Nat.le_trans (show NGG≤1 by decide) (by omega)) ?_;rw[oZ1]
 simp(disch:=first|omega|(apply id;simp only[push_cast];try omega))only[push_cast,simprocAttr,hb,hl1,↓spB2]
 refine jC.func (cap:=[]) (args:=[_,_]) (yJ1 G yp x hs x [] [] B σ none 0 0 hs hx (by rw[List.length_nil];omega) (bE.nil _ _) (fun k hk=>by obtain ⟨o,s,e⟩:=hk;cases e) hY hN) ?_
 rintro _ σ2 ⟨rfl,B2,hY2,hB2,g2⟩
 simp(disch:=first|omega|(apply id;simp only[push_cast];try omega))only[push_cast,simprocAttr]
 exact ⟨rfl,B2,hY2,hB2,g2⟩
mutual
theorem cQ0:∀ (x u:Tm) (p:List Int),(spT x u p).length=(uD x).length
 | .mk k a b s e l,u,p=>by
  rw[spT,uD,List.length_cons,List.length_cons]
  by_cases h12:k=12
  ·rw[if_pos h12,if_pos h12,nM1 l]
  rw[if_neg h12,if_neg h12]
  by_cases h7:k=7
  ·rw[if_pos h7,if_pos (.inr h7),lD0 l]
  rw[if_neg h7]
  by_cases h11:k=11
  ·rw[if_pos h11,if_pos (.inl h11),lD0 l]
  ·rw[if_neg h11,if_neg (by omega)];rfl
theorem lD0:∀ (l:List Tm) (u:Tm) (p:List Int) (j:Nat),(spL l u p j).length=(wZ l).length
 | [],_,_,_=>rfl
 | x :: l,u,p,j=>by rw[spL,wZ,List.length_append,List.length_append,cQ0 x,lD0 l]
theorem nM1:∀ (l:List Tm) (u:Tm) (p:List Int),(spH l u p).length=(actH l).length
 | [],_,_=>rfl
 | x :: l,u,p=>by rw[spH,actH,cQ0 x]
end
theorem yI1 (t:Tm) (hs:smT t=true) (hn:smT (jF t)=true) (ha:(uD (jF t)).length<400000000000):jI (pp G) H0 14 [tmV t] (stsV (enF t)):=by
 have hnf:=fM0 G t hs
 unfold enF
 generalize hnn:jF t=nn at *
 refine cE G fir14 (by kernel_rfl) (qF2 ..) fun hlo=>?_;rw[rD1]
 simp(disch:=first|omega|(apply id;simp only[push_cast];try omega))only[push_cast,simprocAttr]
 refine WinD.of (q:=qq) (jX G) eM1 (show gS NGG kH1=true by kernel_rfl) ?_
 rw[uK1]
 simp(disch:=first|omega|(apply id;simp only[push_cast];try omega))only[push_cast,simprocAttr]
 refine dK (hnf) ?_
 simp(disch:=first|omega|(apply id;simp only[push_cast];try omega))only[push_cast,simprocAttr]
 refine jC.func (cap:=[]) (args:=[_]) (uP1 G nn _ (by simp(disch:=first|omega|(apply id;simp only[push_cast];try omega))only[push_cast,simprocAttr])) ?_
 rintro _ _ ⟨rfl,rfl⟩
 simp(disch:=first|omega|(apply id;simp only[push_cast];try omega))only[push_cast,simprocAttr]
 obtain ⟨σ,hσ⟩:∃ σ,σ=((H0.add (O (tmC t) 28 false)).add (O [.slice none 0 0] 50 false)).add (O (tmC nn) 28 false):=⟨_,rfl⟩
 have n4:σ.next=4:=by rw[hσ];simp(disch:=first|omega|(apply id;simp only[push_cast];try omega))only[push_cast,simprocAttr]
 have l4:σ.lo=1:=by rw[hσ];simp(disch:=first|omega|(apply id;simp only[push_cast];try omega))only[push_cast,simprocAttr]
 have c2:cells σ 2=some ([.slice none 0 0],50,false):=by rw[hσ];simp(disch:=first|omega|(apply id;simp only[push_cast];try omega))only[push_cast,simprocAttr]
 have c3:cells σ 3=some (tmC nn,28,false):=by rw[hσ];simp(disch:=first|omega|(apply id;simp only[push_cast];try omega))only[push_cast,simprocAttr]
 rw[← hσ]
 clear hσ
 refine WD.range (q:=qq) (jX G) (f:=47) (captured:=[.pointer (some ⟨3,0,none⟩)]) rfl rfl ?_
 show jO _ _ _ (.func (.yield (σ.next+1)) _ _ :: _) ((σ.add _).add ⟨.loop { state:=.ready,pending:=none,fn:=0,tmps:=_,params:=_,assign:=_,body:=_,defers:=σ.next },false⟩) (qC0 (σ.next+1) _ [σ.next] _)
 rw[n4]
 have g1:jD σ ((σ.add ⟨.deferred (some []),false⟩).add ⟨.loop (lpE t nn),false⟩) (fun _=>False):=(jD.add _ _ _).trans (jD.add _ _ _) fun _ _ h=>h
 have hY:Ye t nn [] (fun k=>k=5∨k=2∨blk none k∨uX [] k) ((σ.add ⟨.deferred (some []),false⟩).add ⟨.loop (lpE t nn),false⟩):=by
  refine ⟨by simp(disch:=first|omega|(apply id;simp only[push_cast];try omega))only[push_cast,simprocAttr,l4],by simp(disch:=first|omega|(apply id;simp only[push_cast];try omega))only[push_cast,simprocAttr,n4],qW _ _ (by rw[jB,n4]),none,0,[],⟨g1.cellsE c2 (by omega) id,OwnD.nil _ _ _,.nil,fun k hk=>?_⟩,rfl⟩
  obtain ⟨o,s,e⟩:=hk
  cases e
 refine (sG0 G (ye G t nn) nn hn (by omega) 3 _ _ (g1.cellsE c3 (by omega) id) (by decide) hY (by rw[cQ0];exact ha)).mono ?_
 rintro v σ2 ⟨-,B2,hY2,hB2,g2⟩
 obtain ⟨hl,hnx,hlp,q,c,cs,h1,rfl⟩:=hY2
 have hmk:σ2.get 4=some ⟨.deferred (some []),false⟩:=by
  refine (g2.get _ (by rw[jB,jB];omega) ?_).trans ?_
  ·rintro (h|h|⟨o,s,e⟩|⟨n,c,e⟩)
   ·omega
   ·omega
   ·cases e
   ·cases e
  ·rw[jV _ _ (by rw[jB];omega),qW _ _ n4.symm]
 have gp:jD σ2 (jM σ2 5 { lpE t nn with state:=.exhausted }) (fun k=>k=5):=jD.put _ _ _ fun _=>rfl
 refine dK0 (qE hlp (by omega)) rfl rfl ?_
 generalize jM σ2 5 { lpE t nn with state:=.exhausted }=τ at gp
 have h2:=h1.grew gp (by omega) (by omega) (fun k hk e=>by omega)
 have r1:=h2.cell
 have r3:=(gp.get _ (by omega) (by omega)).trans hmk
 have r4:τ.lo=1:=by rw[gp.lo,hl]
 have hsl:=lC0 (spT nn nn [])
 rw[cQ0] at hsl
 simp(disch:=first|omega|(apply id;simp only[push_cast];try omega))only[push_cast,simprocAttr]
 rw[sC0]
 simp(disch:=first|omega|(apply id;simp only[push_cast];try omega))only[push_cast,simprocAttr,r1,r4]
 rw[qV0 r3 (by omega),show uL [] (τ.put 4 ⟨.deferred none,false⟩)=some (τ.put 4 ⟨.deferred none,false⟩) from rfl]
 simp(disch:=first|omega|(apply id;simp only[push_cast];try omega))only[push_cast,simprocAttr]
 have g4:jD τ (τ.put 4 ⟨.deferred none,false⟩) (fun k=>k=4):=jD.put _ _ _ fun _=>rfl
 have h3:=h2.grew g4 (by omega) (by have:=gp.next;omega) (fun k hk e=>by omega)
 exact OwnD.fz (P:=(pp G).P) (N:=1) h3.own (by rfl) (by decide) (by omega) (h3.rows.fz rfl fun b hb=>by omega) (fun k hk=>by have:=(h3.ids k hk).1;omega)
theorem qH1 (n:Nat) (hn:0<n):∀ l:List St,scL n (stCs l)=true
 | []=>rfl
 | x :: l=>by
  rw[stCs]
  refine zS0 ?_ (qH1 n hn l)
  simp[stC,scL,Ev.sc,Rw,hn,wY0]
@[push_cast]theorem stsV_sc (n:Nat) (hn:0<n) (l:List St):Ev.sc n (stsV l)=true:=by
 simp[stsV,scL,Ev.sc,Rw,hn,qH1 n hn l]
end
end Go.Proofs.YtdcjpmjmjinjmaaDoor
