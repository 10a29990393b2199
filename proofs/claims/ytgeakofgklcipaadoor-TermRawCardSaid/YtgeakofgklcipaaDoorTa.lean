/-
  A part of the proof: what the program's functions hand back,as theorems. No condition but those that each theorem names.
-/
import Derived.Test.YtgeakofgklcipaaDoorExa
import Derived.Test.YtgeakofgklcipaaDoorEve
import Derived.Test.YtgeakofgklcipaaDoorExb
set_option linter.unusedSimpArgs false
set_option linter.unusedVariables false
namespace Go.Proofs.YtgeakofgklcipaaDoor
open Go Go.RowKit Go.Ev Go.Dv
noncomputable section
set_option maxRecDepth 100000
def W (a:Int):Int:=IntKind.i64.wrap a
theorem H0p:0<H0.lo:=by rw[jV];omega
theorem H0q:0<H0.next:=by rw[H0_next];omega
abbrev eI:Nat:=3
def ivs (l:List Int):List Value:=l.map (Value.int .i64)
def ivV (l:List Int):Value:=Rw false eI l.length (ivs l)
theorem ivs_len (l:List Int):(ivs l).length=l.length:=by simp[ivs]
theorem ivs_sc (n:Nat):∀ l:List Int,scL n (ivs l)=true
 | []=>rfl
 | x :: l=>by
  have:=ivs_sc n l
  simp only[ivs] at this
  simp[ivs,scL,sc,this]
theorem ivs_app (a b:List Int):ivs (a++b)=ivs a++ivs b:=by simp[ivs]
abbrev eS:Nat:=9
def nss (l:List (List UInt8)):List Value:=l.map fun s=>Value.string (Tx s)
def nsV (l:List (List UInt8)):Value:=Rw false eS l.length (nss l)
@[push_cast]theorem sc_nil (n a b:Nat):sc n (.slice none a b)=true:=rfl
theorem sc_agg (n:Nat) (l:List Value):sc n (.agg ⟨l⟩)=scL n l:=rfl
theorem sc_int (n:Nat) (k:IntKind) (i:Int):sc n (.int k i)=true:=rfl
theorem sc_str (n:Nat) (s:ByteArray):sc n (.string s)=true:=rfl
attribute [push_cast] sc_agg sc_int sc_str
@[push_cast]theorem sc_fn (n f:Nat):sc n (.func (.func f) #[] #[])=true:=rfl
attribute [push_cast] ivs_len ivs_sc b_neqs b_eqls Int.toNat_zero Int.toNat_one Int.natCast_one jV H0_next
inductive Ex where
 | mk (k:Int) (n:Int) (s:List UInt8) (l:List Ex)
abbrev eE:Nat:=31
mutual
def exC:Ex→List Value
 | .mk k n s l=>[.int .i64 k,.int .i64 n,.string (Tx s),Rw false eE l.length (uP l)]
def uP:List Ex→List Value
 | []=>[]
 | x :: l=>exC x++uP l
end
def exV (x:Ex):Value:=.agg ⟨exC x⟩
def exsV (l:List Ex):Value:=Rw false eE l.length (uP l)
theorem exC_mk (k:Int) (n:Int) (s:List UInt8) (l:List Ex):exC (.mk k n s l)=[.int .i64 k,.int .i64 n,.string (Tx s),Rw false eE l.length (uP l)]:=rfl
theorem exC_len (x:Ex):(exC x).length=4:=by cases x;simp[exC]
theorem exCs_len:∀ l:List Ex,(uP l).length=l.length*4
 | []=>rfl
 | x :: l=>by rw[uP,List.length_append,exC_len,exCs_len l,List.length_cons];omega
theorem exC_one:∀ x:Ex,(exC x).all one=true
 | .mk k n s l=>by simp[exC,one,Rw]
mutual
theorem exC_sc (nn:Nat) (hn:0<nn):∀ x:Ex,scL nn (exC x)=true
 | .mk k n s l=>by
  have:=exCs_sc nn hn l
  simp[exC,scL,Ev.sc,Rw,hn, *]
theorem exCs_sc (nn:Nat) (hn:0<nn):∀ l:List Ex,scL nn (uP l)=true
 | []=>rfl
 | x :: l=>by
  rw[uP]
  exact jS fun v hv=>(List.mem_append.1 hv).elim (jU (exC_sc nn hn x) v) (jU (exCs_sc nn hn l) v)
end
theorem exV_sc (n:Nat) (hn:0<n) (x:Ex):Ev.sc n (exV x)=true:=exC_sc n hn x
theorem exR_sc (n:Nat) (hn:0<n) (k:Nat) (f:Bool) (l:List Ex):Ev.sc n (Rw f eE k (uP l))=true:=by
 have:=exCs_sc n hn l
 simp[Ev.sc,Rw,scL,this,hn]
theorem exsV_sc (n:Nat) (hn:0<n) (l:List Ex):Ev.sc n (exsV l)=true:=exR_sc n hn ..
theorem exCs_app:∀ (a b:List Ex),uP (a++b)=uP a++uP b
 | [],b=>rfl
 | x :: a,b=>by rw[List.cons_append,uP,exCs_app a b,uP,List.append_assoc]
theorem exCs_1 (x:Ex):uP [x]=exC x:=by rw[uP,uP,List.append_nil]
theorem exCs_drop:∀ (l:List Ex) (i:Nat),(uP l).drop (i*4)=uP (l.drop i)
 | l,0=>by simp
 | [],i+1=>by simp[uP]
 | x :: l,i+1=>by
  rw[uP,List.drop_succ_cons,← exCs_drop l i,Nat.add_mul,Nat.one_mul,Nat.add_comm,← List.drop_drop,List.drop_append_of_le_length (by rw[exC_len];exact Nat.le_refl _),show (exC x).drop 4=[] from List.drop_of_length_le (by rw[exC_len];exact Nat.le_refl _),List.nil_append]
theorem kX {l:List Ex} {i:Nat} {x:Ex} (h:l[i]?=some x):((uP l).drop (i*4)).take 4=exC x:=by
 have hi:i<l.length:=(List.getElem?_eq_some_iff.1 h).1
 have hd:l.drop i=x :: l.drop (i+1):=by rw[List.drop_eq_getElem_cons hi];congr 1;exact (List.getElem?_eq_some_iff.1 h).2
 rw[exCs_drop,hd,uP,List.take_append_of_le_length (by rw[exC_len];exact Nat.le_refl _),List.take_of_length_le (by rw[exC_len];exact Nat.le_refl _)]
theorem exV_fold (x:Ex):Value.agg ⟨exC x⟩=exV x:=rfl
theorem exV_cells (x:Ex):(exV x).cells.toList=exC x:=rfl
theorem exC_take (x:Ex):(exC x).take 4=exC x:=List.take_of_length_le (by rw[exC_len];exact Nat.le_refl _)
attribute [push_cast] exC_mk exCs_len exV_fold exCs_sc exV_sc exsV_sc exR_sc exC_sc exC_one exV_cells exC_take exC_len
def Ex.k:Ex→Int | .mk k _ _ _=>k
def Ex.n:Ex→Int | .mk _ n _ _=>n
def Ex.s:Ex→List UInt8 | .mk _ _ s _=>s
def Ex.l:Ex→List Ex | .mk _ _ _ l=>l
theorem Ex.k_mk (k n:Int) (s:List UInt8) (l:List Ex):Ex.k (.mk k n s l)=k:=rfl
theorem Ex.n_mk (k n:Int) (s:List UInt8) (l:List Ex):Ex.n (.mk k n s l)=n:=rfl
theorem Ex.s_mk (k n:Int) (s:List UInt8) (l:List Ex):Ex.s (.mk k n s l)=s:=rfl
theorem Ex.l_mk (k n:Int) (s:List UInt8) (l:List Ex):Ex.l (.mk k n s l)=l:=rfl
theorem exC_of (x:Ex):exC x=[.int .i64 x.k,.int .i64 x.n,.string (Tx x.s),Rw false eE x.l.length (uP x.l)]:=by cases x;rfl
theorem exV_of (x:Ex):Value.agg ⟨[.int .i64 x.k,.int .i64 x.n,.string (Tx x.s),Rw false eE x.l.length (uP x.l)]⟩=exV x:=by cases x;rfl
attribute [push_cast] Ex.k_mk Ex.n_mk Ex.s_mk Ex.l_mk exV_of
inductive Tm where
 | mk (k:Int) (a:Int) (b:Int) (s:List UInt8) (e:Ex) (l:List Tm)
abbrev etm:Nat:=34
mutual
def tmC:Tm→List Value
 | .mk k a b s e l=>[.int .i64 k,.int .i64 a,.int .i64 b,.string (Tx s),.int .i64 e.k,.int .i64 e.n,.string (Tx e.s),Rw false eE e.l.length (uP e.l),Rw false etm l.length (qP l)]
def qP:List Tm→List Value
 | []=>[]
 | x :: l=>tmC x++qP l
end
def tmV (x:Tm):Value:=.agg ⟨tmC x⟩
def tmsV (l:List Tm):Value:=Rw false etm l.length (qP l)
theorem tmC_mk (k:Int) (a:Int) (b:Int) (s:List UInt8) (e:Ex) (l:List Tm):tmC (.mk k a b s e l)=[.int .i64 k,.int .i64 a,.int .i64 b,.string (Tx s),.int .i64 e.k,.int .i64 e.n,.string (Tx e.s),Rw false eE e.l.length (uP e.l),Rw false etm l.length (qP l)]:=rfl
theorem tmC_len (x:Tm):(tmC x).length=9:=by cases x;simp[tmC]
theorem tmCs_len:∀ l:List Tm,(qP l).length=l.length*9
 | []=>rfl
 | x :: l=>by rw[qP,List.length_append,tmC_len,tmCs_len l,List.length_cons];omega
theorem tmC_one:∀ x:Tm,(tmC x).all one=true
 | .mk k a b s e l=>by simp[tmC,one,Rw]
mutual
theorem tmC_sc (nn:Nat) (hn:0<nn):∀ x:Tm,scL nn (tmC x)=true
 | .mk k a b s e l=>by
  have:=tmCs_sc nn hn l
  simp[tmC,scL,Ev.sc,Rw,hn,exCs_sc, *]
theorem tmCs_sc (nn:Nat) (hn:0<nn):∀ l:List Tm,scL nn (qP l)=true
 | []=>rfl
 | x :: l=>by
  rw[qP]
  exact jS fun v hv=>(List.mem_append.1 hv).elim (jU (tmC_sc nn hn x) v) (jU (tmCs_sc nn hn l) v)
end
theorem tmV_sc (n:Nat) (hn:0<n) (x:Tm):Ev.sc n (tmV x)=true:=tmC_sc n hn x
theorem tmR_sc (n:Nat) (hn:0<n) (k:Nat) (f:Bool) (l:List Tm):Ev.sc n (Rw f etm k (qP l))=true:=by
 have:=tmCs_sc n hn l
 simp[Ev.sc,Rw,scL,this,hn]
theorem tmsV_sc (n:Nat) (hn:0<n) (l:List Tm):Ev.sc n (tmsV l)=true:=tmR_sc n hn ..
theorem tmCs_app:∀ (a b:List Tm),qP (a++b)=qP a++qP b
 | [],b=>rfl
 | x :: a,b=>by rw[List.cons_append,qP,tmCs_app a b,qP,List.append_assoc]
theorem tmCs_1 (x:Tm):qP [x]=tmC x:=by rw[qP,qP,List.append_nil]
theorem tmCs_drop:∀ (l:List Tm) (i:Nat),(qP l).drop (i*9)=qP (l.drop i)
 | l,0=>by simp
 | [],i+1=>by simp[qP]
 | x :: l,i+1=>by
  rw[qP,List.drop_succ_cons,← tmCs_drop l i,Nat.add_mul,Nat.one_mul,Nat.add_comm,← List.drop_drop,List.drop_append_of_le_length (by rw[tmC_len];exact Nat.le_refl _),show (tmC x).drop 9=[] from List.drop_of_length_le (by rw[tmC_len];exact Nat.le_refl _),List.nil_append]
theorem tmCs_front:∀ (l:List Tm) (i:Nat),(qP l).take (i*9)=qP (l.take i)
 | l,0=>by simp[qP]
 | [],i+1=>by simp[qP]
 | x :: l,i+1=>by
  rw[qP,List.take_succ_cons,qP,← tmCs_front l i,Nat.add_mul,Nat.one_mul,Nat.add_comm,List.take_append,tmC_len,List.take_of_length_le (by rw[tmC_len];omega),Nat.add_sub_cancel_left]
theorem uK {l:List Tm} {i:Nat} {x:Tm} (h:l[i]?=some x):((qP l).drop (i*9)).take 9=tmC x:=by
 have hi:i<l.length:=(List.getElem?_eq_some_iff.1 h).1
 have hd:l.drop i=x :: l.drop (i+1):=by rw[List.drop_eq_getElem_cons hi];congr 1;exact (List.getElem?_eq_some_iff.1 h).2
 rw[tmCs_drop,hd,qP,List.take_append_of_le_length (by rw[tmC_len];exact Nat.le_refl _),List.take_of_length_le (by rw[tmC_len];exact Nat.le_refl _)]
theorem tmV_fold (x:Tm):Value.agg ⟨tmC x⟩=tmV x:=rfl
theorem tmV_cells (x:Tm):(tmV x).cells.toList=tmC x:=rfl
theorem tmC_take (x:Tm):(tmC x).take 9=tmC x:=List.take_of_length_le (by rw[tmC_len];exact Nat.le_refl _)
theorem tmCs_p0 (x:Tm) (l:List Tm):(qP (x :: l)).take 9=tmC x:=uK (l:=x :: l) (i:=0) rfl
theorem tmCs_p1 (x y:Tm) (l:List Tm):((qP (x :: y :: l)).drop 9).take 9=tmC y:=uK (l:=x :: y :: l) (i:=1) rfl
attribute [push_cast] tmC_mk tmCs_len tmV_fold tmCs_sc tmV_sc tmsV_sc tmR_sc tmC_sc tmC_one tmV_cells tmC_take tmC_len tmCs_p0 tmCs_p1
def Tm.k:Tm→Int | .mk k _ _ _ _ _=>k
def Tm.a:Tm→Int | .mk _ a _ _ _ _=>a
def Tm.l:Tm→List Tm | .mk _ _ _ _ _ l=>l
theorem Tm.k_mk (k a b:Int) (s:List UInt8) (e:Ex) (l:List Tm):Tm.k (.mk k a b s e l)=k:=rfl
theorem Tm.l_mk (k a b:Int) (s:List UInt8) (e:Ex) (l:List Tm):Tm.l (.mk k a b s e l)=l:=rfl
inductive Pr where
 | mk (k:Int) (n:List UInt8) (t:List UInt8) (e:Ex) (l:List Pr)
abbrev epr:Nat:=61
mutual
def prC:Pr→List Value
 | .mk k n t e l=>[.int .i64 k,.string (Tx n),.string (Tx t),.int .i64 e.k,.int .i64 e.n,.string (Tx e.s),Rw false eE e.l.length (uP e.l),Rw false epr l.length (prCs l)]
def prCs:List Pr→List Value
 | []=>[]
 | x :: l=>prC x++prCs l
end
def prV (x:Pr):Value:=.agg ⟨prC x⟩
theorem prC_mk (k:Int) (n:List UInt8) (t:List UInt8) (e:Ex) (l:List Pr):prC (.mk k n t e l)=[.int .i64 k,.string (Tx n),.string (Tx t),.int .i64 e.k,.int .i64 e.n,.string (Tx e.s),Rw false eE e.l.length (uP e.l),Rw false epr l.length (prCs l)]:=rfl
theorem prV_fold (x:Pr):Value.agg ⟨prC x⟩=prV x:=rfl
theorem prV_cells (x:Pr):(prV x).cells.toList=prC x:=rfl
attribute [push_cast] prC_mk prV_fold prV_cells
inductive Ra where
 | mk (k:Int) (n:Int) (l:List Ra)
abbrev era:Nat:=120
mutual
def raC:Ra→List Value
 | .mk k n l=>[.int .i64 k,.int .i64 n,Rw false era l.length (raCs l)]
def raCs:List Ra→List Value
 | []=>[]
 | x :: l=>raC x++raCs l
end
def raV (x:Ra):Value:=.agg ⟨raC x⟩
theorem raC_mk (k:Int) (n:Int) (l:List Ra):raC (.mk k n l)=[.int .i64 k,.int .i64 n,Rw false era l.length (raCs l)]:=rfl
theorem raV_fold (x:Ra):Value.agg ⟨raC x⟩=raV x:=rfl
theorem raV_cells (x:Ra):(raV x).cells.toList=raC x:=rfl
attribute [push_cast] raC_mk raV_fold raV_cells
inductive Rb where
 | mk (k:Int) (a:Int) (b:Int) (e:List Ra) (l:List Rb)
abbrev erb:Nat:=25
mutual
def rbC:Rb→List Value
 | .mk k a b e l=>[.int .i64 k,.int .i64 a,.int .i64 b,Rw false era e.length (raCs e),Rw false erb l.length (rbCs l)]
def rbCs:List Rb→List Value
 | []=>[]
 | x :: l=>rbC x++rbCs l
end
def rbV (x:Rb):Value:=.agg ⟨rbC x⟩
theorem rbC_mk (k:Int) (a:Int) (b:Int) (e:List Ra) (l:List Rb):rbC (.mk k a b e l)=[.int .i64 k,.int .i64 a,.int .i64 b,Rw false era e.length (raCs e),Rw false erb l.length (rbCs l)]:=rfl
theorem rbV_fold (x:Rb):Value.agg ⟨rbC x⟩=rbV x:=rfl
theorem rbV_cells (x:Rb):(rbV x).cells.toList=rbC x:=rfl
attribute [push_cast] rbC_mk rbV_fold rbV_cells
theorem nil_iv (G:Nat×Nat) (n:Nat) (σ:jA):FzV (pp G).P n σ (.slice none 0 0) (ivV []):=.nil (size:=1) rfl (by decide)
theorem nil_ns (G:Nat×Nat) (n:Nat) (σ:jA):FzV (pp G).P n σ (.slice none 0 0) (nsV []):=.nil (size:=1) rfl (by decide)
end
end Go.Proofs.YtgeakofgklcipaaDoor
namespace Go.Proofs.YtgeakofgklcipaaDoor
open Go Go.RowKit Go.Ev Go.Dv
noncomputable section
set_option maxRecDepth 100000
variable (G:Nat×Nat)
theorem fill_step {A c z:List Value} {w k off:Nat} (hA:A.length=off) (hz:z.length=w):(A++(List.replicate (k+1) z).flatten).take off++c++(A++(List.replicate (k+1) z).flatten).drop (off+w)=(A++c)++(List.replicate k z).flatten:=by
 subst hA
 rw[List.take_left,List.drop_append,List.drop_of_length_le (by omega),List.nil_append,Nat.add_sub_cancel_left,List.replicate_succ,List.flatten_cons,List.drop_append,List.drop_of_length_le (by omega),List.nil_append,hz,Nat.sub_self,List.drop_zero]
theorem fill_len {A z:List Value} {w k off n:Nat} (hA:A.length=off) (hz:z.length=w) (hn:off+k*w=n):(A++(List.replicate k z).flatten).length=n:=by
 rw[List.length_append,List.length_flatten,List.map_replicate,List.sum_replicate_nat,hA,hz,hn]
theorem qG {α:Type} {l:List α} {i:Nat} {x:α} (h:l[i]?=some x):l.take (i+1)=l.take i++[x]:=by
 rw[List.take_add_one,h];rfl
theorem qU {α:Type} {l:List α} {i:Nat} (h:i<l.length):∃ x,l[i]?=some x:=⟨_,List.getElem?_eq_getElem h⟩
def zex:List Value:=[.int .i64 0,.int .i64 0,.string (Tx []),.slice none 0 0]
inductive ILex (l:List Ex) (fv:Value):Nat→S→Prop
 | mk (i:Nat) (iv:Int) (h:jA) {x0 x2 x3 x4 x6 x7 x8 x9 xA xB xC xD xH xI xJ xK xL xM xN xO xP xQ xR xS:Value} (hiv:iv=(i:Int)) (hi:i≤l.length) (c1:cells h 1=some (uP (l.take i)++(List.replicate (l.length-i) zex).flatten,31,false)) (hl1:h.lo=1) (hl2:2≤h.next) :
  ILex l fv (l.length-i) ⟨(F29 x0 fv x2 x3 x4 (.slice (some ⟨1,0,none⟩) l.length l.length) x6 x7 x8 x9 xA xB xC xD (Rw false eE l.length (uP l)) (.int .i64 l.length) (.int .i64 iv) xH xI xJ xK xL xM xN xO xP xQ xR xS),[],h⟩
theorem listex_f (l:List Ex) (f:FuncId) (hll:l.length<100000000000) (hf:∀ x∈l,jE (pp G) H0 f [exV x] (exV x)):jE (pp G) H0 76 [exsV l,.func (.func f) #[] #[]] (exsV l):=by
 have hlo:H0.lo≤H0.next:=Nat.le_refl _;refine jE.cut (jN.fir4 (q:=qq) (jO G) fir76 (by kernel_rfl) rfl rfl (F29_arr ..) (show NGG≤H0.lo by rw[jV];decide) ?_);rw[sd_ir76]
 unfold exsV
 by_cases h0:l.length=0
 ·have h0':(l.length:Int)=0:=by omega
  obtain rfl:l=[]:=List.length_eq_zero_iff.1 h0
  simp(disch:=first|omega|(apply id;simp only[push_cast];try omega))only[push_cast,simprocAttr,h0']
  exact .nil (size:=4) rfl (by decide)
 have h0':¬ (l.length:Int)=0:=by omega
 have h1:(l.length:Int)*400+l.length<100000000000000:=by omega
 simp(disch:=first|omega|(apply id;simp only[push_cast];try omega))only[push_cast,simprocAttr,h0',h1]
 refine WD.loop4 (q:=qq) (jO G) (by kernel_rfl) (ILex l (.func (.func f) #[] #[])) ?_ _ _ (ILex.mk 0 0 _ rfl (Nat.zero_le _) (by simp(disch:=first|omega|(apply id;simp only[push_cast];try omega))only[push_cast,simprocAttr,List.take_zero];rfl) rfl (by first|assumption|(simp(disch:=first|omega|(apply id;simp only[push_cast];try omega))only[push_cast,simprocAttr];try omega)))
 intro m s1 hI
 cases hI with|mk i iv h hiv hi c1 hl1 hl2=>
 subst hiv
 rw[sd_ir76_s0]
 by_cases hil:(i:Int)<l.length
 ·obtain ⟨x,hx⟩:=qU (l:=l) (i:=i) (by omega)
  have hxm:=List.mem_of_getElem? hx
  have hp:=kX hx
  have hle:i*4+4≤l.length*4:=by omega
  simp(disch:=first|omega|(apply id;simp only[push_cast];try omega))only[push_cast,simprocAttr,hil,Int.toNat_natCast,hp,hle,hl1]
  refine jC.dataI (hf x hxm) (by and_intros<;>first|rfl|(simp(disch:=first|omega|(apply id;simp only[push_cast];try omega))only[push_cast])) ?_
  obtain ⟨k,hk⟩:∃ k,l.length-i=k+1:=⟨l.length-i-1,by omega⟩
  have hta:(uP (l.take i)).length=i*4:=by rw[exCs_len,List.length_take,Nat.min_eq_left hi]
  have hlen:=fill_len (w:=4) (z:=zex) (k:=l.length-i) (n:=l.length*4) hta rfl (by rw[Nat.sub_mul];omega)
  have hst:=fill_step (c:=exC x) (w:=4) (z:=zex) (k:=k) hta rfl
  rw[← hk,← exCs_1,← exCs_app,← qG hx,show k=l.length-(i+1) by omega,exCs_1] at hst
  simp(disch:=first|omega|(apply id;simp only[push_cast];try omega))only[push_cast,simprocAttr,hil,Int.toNat_natCast,hle,hl1,c1,hlen,hst]
  exact ⟨_,by omega,ILex.mk (i+1) _ _ (by first|rfl|omega) (by omega) (by first|assumption|(simp(disch:=first|omega|(apply id;simp only[push_cast];try omega))only[push_cast,simprocAttr];try omega)) (by first|assumption|(simp(disch:=first|omega|(apply id;simp only[push_cast];try omega))only[push_cast,simprocAttr,hl1];try omega)) (by first|assumption|(simp(disch:=first|omega|(apply id;simp only[push_cast];try omega))only[push_cast,simprocAttr];try omega))⟩
 ·have hie:i=l.length:=by omega
  subst hie
  rw[List.take_length,Nat.sub_self,List.replicate_zero,List.flatten_nil,List.append_nil] at c1
  simp(disch:=first|omega|(apply id;simp only[push_cast];try omega))only[push_cast,simprocAttr,hil]
  rw[sd_ir76_s1]
  simp(disch:=first|omega|(apply id;simp only[push_cast];try omega))only[push_cast,simprocAttr]
  refine .sl (by simp(disch:=first|omega|(apply id;simp only[push_cast];try omega))only[push_cast,simprocAttr]) c1 (size:=4) rfl (by decide) (by first|assumption|(simp(disch:=first|omega|(apply id;simp only[push_cast];try omega))only[push_cast,simprocAttr];try omega)) (.inl ⟨by simp only[UC];omega,Nat.le_refl _⟩) ?_
  rw[List.drop_zero,List.take_of_length_le (by rw[exCs_len];exact Nat.le_refl _)]
  exact .ids (exCs_sc _ H0q l)
def ztm:List Value:=[.int .i64 0,.int .i64 0,.int .i64 0,.string (Tx []),.int .i64 0,.int .i64 0,.string (Tx []),.slice none 0 0,.slice none 0 0]
inductive ILtm (l:List Tm) (fv:Value):Nat→S→Prop
 | mk (i:Nat) (iv:Int) (h:jA) {x0 x2 x3 x4 x6 x7 x8 x9 xA xB xC xD xH xI xJ xK xL xM xN xO xP xQ xR xS:Value} (hiv:iv=(i:Int)) (hi:i≤l.length) (c1:cells h 1=some (qP (l.take i)++(List.replicate (l.length-i) ztm).flatten,34,false)) (hl1:h.lo=1) (hl2:2≤h.next) :
  ILtm l fv (l.length-i) ⟨(F29 x0 fv x2 x3 x4 (.slice (some ⟨1,0,none⟩) l.length l.length) x6 x7 x8 x9 xA xB xC xD (Rw false etm l.length (qP l)) (.int .i64 l.length) (.int .i64 iv) xH xI xJ xK xL xM xN xO xP xQ xR xS),[],h⟩
theorem listtm_f (l:List Tm) (f:FuncId) (hll:l.length<100000000000) (hf:∀ x∈l,jE (pp G) H0 f [tmV x] (tmV x)):jE (pp G) H0 77 [tmsV l,.func (.func f) #[] #[]] (tmsV l):=by
 have hlo:H0.lo≤H0.next:=Nat.le_refl _;refine jE.cut (jN.fir4 (q:=qq) (jO G) fir77 (by kernel_rfl) rfl rfl (F29_arr ..) (show NGG≤H0.lo by rw[jV];decide) ?_);rw[sd_ir77]
 unfold tmsV
 by_cases h0:l.length=0
 ·have h0':(l.length:Int)=0:=by omega
  obtain rfl:l=[]:=List.length_eq_zero_iff.1 h0
  simp(disch:=first|omega|(apply id;simp only[push_cast];try omega))only[push_cast,simprocAttr,h0']
  exact .nil (size:=9) rfl (by decide)
 have h0':¬ (l.length:Int)=0:=by omega
 have h1:(l.length:Int)*400+l.length<100000000000000:=by omega
 simp(disch:=first|omega|(apply id;simp only[push_cast];try omega))only[push_cast,simprocAttr,h0',h1]
 refine WD.loop4 (q:=qq) (jO G) (by kernel_rfl) (ILtm l (.func (.func f) #[] #[])) ?_ _ _ (ILtm.mk 0 0 _ rfl (Nat.zero_le _) (by simp(disch:=first|omega|(apply id;simp only[push_cast];try omega))only[push_cast,simprocAttr,List.take_zero];rfl) rfl (by first|assumption|(simp(disch:=first|omega|(apply id;simp only[push_cast];try omega))only[push_cast,simprocAttr];try omega)))
 intro m s1 hI
 cases hI with|mk i iv h hiv hi c1 hl1 hl2=>
 subst hiv
 rw[sd_ir77_s0]
 by_cases hil:(i:Int)<l.length
 ·obtain ⟨x,hx⟩:=qU (l:=l) (i:=i) (by omega)
  have hxm:=List.mem_of_getElem? hx
  have hp:=uK hx
  have hle:i*9+9≤l.length*9:=by omega
  simp(disch:=first|omega|(apply id;simp only[push_cast];try omega))only[push_cast,simprocAttr,hil,Int.toNat_natCast,hp,hle,hl1]
  refine jC.dataI (hf x hxm) (by and_intros<;>first|rfl|(simp(disch:=first|omega|(apply id;simp only[push_cast];try omega))only[push_cast])) ?_
  obtain ⟨k,hk⟩:∃ k,l.length-i=k+1:=⟨l.length-i-1,by omega⟩
  have hta:(qP (l.take i)).length=i*9:=by rw[tmCs_len,List.length_take,Nat.min_eq_left hi]
  have hlen:=fill_len (w:=9) (z:=ztm) (k:=l.length-i) (n:=l.length*9) hta rfl (by rw[Nat.sub_mul];omega)
  have hst:=fill_step (c:=tmC x) (w:=9) (z:=ztm) (k:=k) hta rfl
  rw[← hk,← tmCs_1,← tmCs_app,← qG hx,show k=l.length-(i+1) by omega,tmCs_1] at hst
  simp(disch:=first|omega|(apply id;simp only[push_cast];try omega))only[push_cast,simprocAttr,hil,Int.toNat_natCast,hle,hl1,c1,hlen,hst]
  exact ⟨_,by omega,ILtm.mk (i+1) _ _ (by first|rfl|omega) (by omega) (by first|assumption|(simp(disch:=first|omega|(apply id;simp only[push_cast];try omega))only[push_cast,simprocAttr];try omega)) (by first|assumption|(simp(disch:=first|omega|(apply id;simp only[push_cast];try omega))only[push_cast,simprocAttr,hl1];try omega)) (by first|assumption|(simp(disch:=first|omega|(apply id;simp only[push_cast];try omega))only[push_cast,simprocAttr];try omega))⟩
 ·have hie:i=l.length:=by omega
  subst hie
  rw[List.take_length,Nat.sub_self,List.replicate_zero,List.flatten_nil,List.append_nil] at c1
  simp(disch:=first|omega|(apply id;simp only[push_cast];try omega))only[push_cast,simprocAttr,hil]
  rw[sd_ir77_s1]
  simp(disch:=first|omega|(apply id;simp only[push_cast];try omega))only[push_cast,simprocAttr]
  refine .sl (by simp(disch:=first|omega|(apply id;simp only[push_cast];try omega))only[push_cast,simprocAttr]) c1 (size:=9) rfl (by decide) (by first|assumption|(simp(disch:=first|omega|(apply id;simp only[push_cast];try omega))only[push_cast,simprocAttr];try omega)) (.inl ⟨by simp only[UC];omega,Nat.le_refl _⟩) ?_
  rw[List.drop_zero,List.take_of_length_le (by rw[tmCs_len];exact Nat.le_refl _)]
  exact .ids (tmCs_sc _ H0q l)
mutual
def smE:Ex→Bool
 | .mk k n s l=>decide (l.length<100000000000)&&smEs l
def smEs:List Ex→Bool
 | []=>true
 | x :: l=>smE x&&smEs l
end
mutual
def smT:Tm→Bool
 | .mk k a b s e l=>decide (l.length<100000000000)&&smE e&&smTs l
def smTs:List Tm→Bool
 | []=>true
 | x :: l=>smT x&&smTs l
end
theorem smEs_all:∀ {l:List Ex},smEs l=true→∀ x∈l,smE x=true
 | [],_,x,hx=>by cases hx
 | y :: l,h,x,hx=>by
  simp only[smEs,Bool.and_eq_true] at h
  rcases List.mem_cons.1 hx with rfl|hx
  ·exact h.1
  ·exact smEs_all h.2 x hx
theorem uY:∀ {l:List Tm},smTs l=true→∀ x∈l,smT x=true
 | [],_,x,hx=>by cases hx
 | y :: l,h,x,hx=>by
  simp only[smTs,Bool.and_eq_true] at h
  rcases List.mem_cons.1 hx with rfl|hx
  ·exact h.1
  ·exact uY h.2 x hx
theorem smTs_of:∀ {l:List Tm},(∀ x∈l,smT x=true)→smTs l=true
 | [],_=>rfl
 | y :: l,h=>by rw[smTs,h y (by simp),smTs_of fun x hx=>h x (by simp[hx])];rfl
theorem ownE_f:∀ x:Ex,smE x=true→jE (pp G) H0 60 [exV x] (exV x)
 | .mk k n s l,hs=>by
  simp only[smE,Bool.and_eq_true,decide_eq_true_eq] at hs
  have hl:=listex_f G l 60 hs.1 fun x hx=>ownE_f x (smEs_all hs.2 x hx)
  have hlo:H0.lo≤H0.next:=Nat.le_refl _;refine jE.cut (jN.fir4 (q:=qq) (jO G) fir60 (by kernel_rfl) rfl rfl (F8_arr ..) (show NGG≤H0.lo by rw[jV];decide) ?_);rw[sd_ir60]
  unfold exV exC
  simp(disch:=first|omega|(apply id;simp only[push_cast];try omega))only[push_cast,simprocAttr]
  refine jC.dataI (hl) (by and_intros<;>first|rfl|(simp(disch:=first|omega|(apply id;simp only[push_cast];try omega))only[push_cast])) ?_
  unfold exsV
  simp(disch:=first|omega|(apply id;simp only[push_cast];try omega))only[push_cast,simprocAttr]
  exact .id (exV_sc _ H0q (.mk k n s l))
 termination_by x=>SizeOf.sizeOf x
theorem ownT_f:∀ x:Tm,smT x=true→jE (pp G) H0 41 [tmV x] (tmV x)
 | .mk k a b s e l,hs=>by
  simp only[smT,Bool.and_eq_true,decide_eq_true_eq] at hs
  have hl:=listtm_f G l 41 hs.1.1 fun x hx=>ownT_f x (uY hs.2 x hx)
  have hT:jE (pp G) H0 61 [tmsV l] (tmsV l):=by
   have hlo:H0.lo≤H0.next:=Nat.le_refl _;refine jE.cut (jN.fir4 (q:=qq) (jO G) fir61 (by kernel_rfl) rfl rfl (F5_arr ..) (show NGG≤H0.lo by rw[jV];decide) ?_);rw[sd_ir61]
   unfold tmsV
   simp(disch:=first|omega|(apply id;simp only[push_cast];try omega))only[push_cast,simprocAttr]
   refine jC.dataI (hl) (by and_intros<;>first|rfl|(simp(disch:=first|omega|(apply id;simp only[push_cast];try omega))only[push_cast])) ?_
   unfold tmsV
   simp(disch:=first|omega|(apply id;simp only[push_cast];try omega))only[push_cast,simprocAttr]
   exact .id (by simp(disch:=first|omega|(apply id;simp only[push_cast];try omega))only[push_cast,simprocAttr])
  have hlo:H0.lo≤H0.next:=Nat.le_refl _;refine jE.cut (jN.fir4 (q:=qq) (jO G) fir41 (by kernel_rfl) rfl rfl (F12_arr ..) (show NGG≤H0.lo by rw[jV];decide) ?_);rw[sd_ir41]
  unfold tmV tmC
  simp(disch:=first|omega|(apply id;simp only[push_cast];try omega))only[push_cast,simprocAttr]
  refine jC.dataI (ownE_f G e hs.1.2) (by and_intros<;>first|rfl|(simp(disch:=first|omega|(apply id;simp only[push_cast];try omega))only[push_cast])) ?_
  simp(disch:=first|omega|(apply id;simp only[push_cast];try omega))only[push_cast,simprocAttr,exC_of]
  refine jC.dataI (hT) (by and_intros<;>first|rfl|(simp(disch:=first|omega|(apply id;simp only[push_cast];try omega))only[push_cast])) ?_
  unfold tmsV
  simp(disch:=first|omega|(apply id;simp only[push_cast];try omega))only[push_cast,simprocAttr,exC_of]
  exact .id (tmV_sc _ H0q (.mk k a b s e l))
 termination_by x=>SizeOf.sizeOf x
mutual
def uT:Ex→Ex→Bool
 | .mk k n s l,.mk k' n' s' l'=>decide (k=k')&&(decide (n=n')&&(decide (s=s')&&(decide (l.length=l'.length)&&kJ l l')))
def kJ:List Ex→List Ex→Bool
 | x :: l,y :: m=>uT x y&&kJ l m
 | _,_=>true
end
theorem sameEs_all:∀ {l m:List Ex},kJ l m=true→∀ (i:Nat) (x y:Ex),l[i]?=some x→m[i]?=some y→uT x y=true
 | [],_,_,i,x,y,h1,_=>by simp at h1
 | _ :: _,[],_,i,x,y,_,h2=>by simp at h2
 | a :: l,b :: m,h,i,x,y,h1,h2=>by
  simp only[kJ,Bool.and_eq_true] at h
  cases i with
  | zero=>simp at h1 h2;subst h1 h2;exact h.1
  | succ i=>simp at h1 h2;exact sameEs_all h.2 i x y h1 h2
theorem sameEs_of:∀ {l m:List Ex},(∀ (i:Nat) (x y:Ex),l[i]?=some x→m[i]?=some y→uT x y=true)→kJ l m=true
 | [],_,_=>by simp[kJ]
 | _ :: _,[],_=>by simp[kJ]
 | a :: l,b :: m,h=>by
  rw[kJ,h 0 a b rfl rfl,sameEs_of fun i x y h1 h2=>h (i+1) x y (by simpa using h1) (by simpa using h2)];rfl
inductive I57 (k n:Int) (s:List UInt8) (l:List Ex) (k' n':Int) (s':List UInt8) (l':List Ex):Nat→S→Prop
 | mk (i : Nat) (iv : Int) (h : jA) {x0 x1 x4 x6 x7 x8 x9 xA xB xC xD xE xF xG xH xI xJ xK xL xM xN xO xP xQ xR xS xT xU xV xW xX xY xZ yA yB yC yD yE yF yG yH yI yJ yK yL yM yN yO yP yQ : Value} (hiv : iv = (i : Int)) (hi : i ≤ l.length) (c1 : cells h 1 = some (exC (.mk k n s l), 31, false)) (c2 : cells h 2 = some (exC (.mk k' n' s' l'), 31, false)) (hl1 : h.lo = 1) (hl2 : 3 ≤ h.next)
   (ha:∀ j,j<i→∀ x y,l[j]?=some x→l'[j]?=some y→uT x y=true) :
  I57 k n s l k' n' s' l' (l.length-i) ⟨(F53 x0 x1 (.pointer (some ⟨1,0,none⟩)) (.pointer (some ⟨2,0,none⟩)) x4 (.int .i64 iv) x6 x7 x8 x9 xA xB xC xD xE xF xG xH xI xJ xK xL xM xN xO xP xQ xR xS xT xU xV xW xX xY xZ yA yB yC yD yE yF yG yH yI yJ yK yL yM yN yO yP yQ),[],h⟩
theorem same_e:∀ a b:Ex,smE a=true→smE b=true→jE (pp G) H0 37 [exV a,exV b] (.bool (uT a b))
 | .mk k n s l,.mk k' n' s' l',hs,hs'=>by
  simp only[smE,Bool.and_eq_true,decide_eq_true_eq] at hs hs'
  have ih:∀ x∈l,∀ y∈l',jE (pp G) H0 37 [exV x,exV y] (.bool (uT x y)):=fun x hx y hy=>same_e x y (smEs_all hs.2 x hx) (smEs_all hs'.2 y hy)
  have hlo:H0.lo≤H0.next:=Nat.le_refl _;refine jE.cut (jN.fir4 (q:=qq) (jO G) fir37 (by kernel_rfl) rfl rfl (F53_arr ..) (show NGG≤H0.lo by rw[jV];decide) ?_);rw[sd_ir37]
  rw[uT]
  obtain ⟨b,hb⟩:∃ b,b=(decide (k=k')&&(decide (n=n')&&(decide (s=s')&&(decide (l.length=l'.length)&&kJ l l')))):=⟨_,rfl⟩
  rw[← hb]
  by_cases h1:k=k'
  rotate_left
  ·obtain rfl:b=false:=by rw[hb];simp[h1]
   simp(disch:=first|omega|(apply id;simp only[push_cast];try omega))only[push_cast,simprocAttr,h1]
   exact .id rfl
  by_cases h2:n=n'
  rotate_left
  ·obtain rfl:b=false:=by rw[hb];simp[h2]
   simp(disch:=first|omega|(apply id;simp only[push_cast];try omega))only[push_cast,simprocAttr,h1,h2]
   exact .id rfl
  by_cases h3:s=s'
  rotate_left
  ·obtain rfl:b=false:=by rw[hb];simp[h3]
   have h3':(s == s')=false:=by simpa using h3
   simp(disch:=first|omega|(apply id;simp only[push_cast];try omega))only[push_cast,simprocAttr,h1,h2,h3']
   exact .id rfl
  by_cases h4:l.length=l'.length
  rotate_left
  ·obtain rfl:b=false:=by rw[hb];simp[h4]
   have h4':¬ (l.length:Int)=l'.length:=by omega
   simp(disch:=first|omega|(apply id;simp only[push_cast];try omega))only[push_cast,simprocAttr,h1,h2,h3,h4',beq_self_eq_true]
   exact .id rfl
  have h4':(l.length:Int)=l'.length:=by omega
  have hb':b=kJ l l':=by rw[hb];simp[h1,h2,h3,h4]
  clear hb
  simp(disch:=first|omega|(apply id;simp only[push_cast];try omega))only[push_cast,simprocAttr,h1,h2,h3,h4',beq_self_eq_true]
  refine WD.loop4 (q:=qq) (jO G) (by kernel_rfl) (I57 k n s l k' n' s' l') ?_ _ _ (I57.mk 0 0 _ rfl (Nat.zero_le _) (by first|assumption|(simp(disch:=first|omega|(apply id;simp only[push_cast];try omega))only[push_cast,simprocAttr,h1,h2,h3];try omega)) (by first|assumption|(simp(disch:=first|omega|(apply id;simp only[push_cast];try omega))only[push_cast,simprocAttr,h1,h2,h3];try omega)) rfl (by first|assumption|(simp(disch:=first|omega|(apply id;simp only[push_cast];try omega))only[push_cast,simprocAttr];try omega)) (fun j hj=>by omega))
  intro m s1 hI
  cases hI with|mk i iv h hiv hi c1 c2 hl1 hl2 ha=>
  subst hiv
  rw[sd_ir37_s0]
  by_cases hil:(i:Int)<l'.length
  ·obtain ⟨x,hx⟩:=qU (l:=l) (i:=i) (by omega)
   obtain ⟨y,hy⟩:=qU (l:=l') (i:=i) (by omega)
   have hp:=kX hx
   have hp':=kX hy
   have hle:i*4+4≤l'.length*4:=by omega
   have hle2:i*4+4≤l.length*4:=by omega
   simp(disch:=first|omega|(apply id;simp only[push_cast];try omega))only[push_cast,simprocAttr,hil,Int.toNat_natCast,hp,hp',hle,hle2,hl1,c1,c2,h4']
   refine jC.dataI (ih x (List.mem_of_getElem? hx) y (List.mem_of_getElem? hy)) (by and_intros<;>first|rfl|(simp(disch:=first|omega|(apply id;simp only[push_cast];try omega))only[push_cast])) ?_
   cases hr:uT x y with
   | true=>
    simp(disch:=first|omega|(apply id;simp only[push_cast];try omega))only[push_cast,simprocAttr]
    exact ⟨_,by omega,I57.mk (i+1) _ _ (by first|rfl|omega) (by omega) (by first|assumption|(simp(disch:=first|omega|(apply id;simp only[push_cast];try omega))only[push_cast,simprocAttr,c1];try omega)) (by first|assumption|(simp(disch:=first|omega|(apply id;simp only[push_cast];try omega))only[push_cast,simprocAttr,c2];try omega)) (by first|assumption|(simp(disch:=first|omega|(apply id;simp only[push_cast];try omega))only[push_cast,simprocAttr,hl1];try omega)) (by first|assumption|(simp(disch:=first|omega|(apply id;simp only[push_cast];try omega))only[push_cast,simprocAttr];try omega)) fun j hj u v hu hv=>by
     by_cases e:j=i
     ·subst e;rw[hx] at hu;rw[hy] at hv;cases hu;cases hv;exact hr
     ·exact ha j (by omega) u v hu hv⟩
   | false=>
    obtain rfl:b=false:=by
     rw[hb']
     cases hc:kJ l l' with
     | false=>rfl
     | true=>rw[sameEs_all hc i x y hx hy] at hr;cases hr
    simp(disch:=first|omega|(apply id;simp only[push_cast];try omega))only[push_cast,simprocAttr]
    exact .id rfl
  ·obtain rfl : b = true := by
    rw[hb']
    exact sameEs_of fun j u v hu hv=>ha j (by have:=(List.getElem?_eq_some_iff.1 hu).1;omega) u v hu hv
   simp(disch:=first|omega|(apply id;simp only[push_cast];try omega))only[push_cast,simprocAttr,hil,c1,c2,hl1,h4']
   rw[sd_ir37_s1]
   simp(disch:=first|omega|(apply id;simp only[push_cast];try omega))only[push_cast,simprocAttr]
   exact .id rfl
 termination_by x=>SizeOf.sizeOf x
mutual
def sameT:Tm→Tm→Bool
 | .mk k a b s e l,.mk k' a' b' s' e' l'=>decide (k=k')&&(decide (a=a')&&(decide (b=b')&&(decide (s=s')&&(uT e e'&&(decide (l.length=l'.length)&&sameTs l l')))))
def sameTs:List Tm→List Tm→Bool
 | x :: l,y :: m=>sameT x y&&sameTs l m
 | _,_=>true
end
theorem sameTs_all:∀ {l m:List Tm},sameTs l m=true→∀ (i:Nat) (x y:Tm),l[i]?=some x→m[i]?=some y→sameT x y=true
 | [],_,_,i,x,y,h1,_=>by simp at h1
 | _ :: _,[],_,i,x,y,_,h2=>by simp at h2
 | a :: l,b :: m,h,i,x,y,h1,h2=>by
  simp only[sameTs,Bool.and_eq_true] at h
  cases i with
  | zero=>simp at h1 h2;subst h1 h2;exact h.1
  | succ i=>simp at h1 h2;exact sameTs_all h.2 i x y h1 h2
theorem sameTs_of:∀ {l m:List Tm},(∀ (i:Nat) (x y:Tm),l[i]?=some x→m[i]?=some y→sameT x y=true)→sameTs l m=true
 | [],_,_=>by simp[sameTs]
 | _ :: _,[],_=>by simp[sameTs]
 | a :: l,b :: m,h=>by
  rw[sameTs,h 0 a b rfl rfl,sameTs_of fun i x y h1 h2=>h (i+1) x y (by simpa using h1) (by simpa using h2)];rfl
mutual
def sizeT:Tm→Int
 | .mk _ _ _ _ _ l=>1+sizeTs l
def sizeTs:List Tm→Int
 | []=>0
 | x :: l=>sizeT x+sizeTs l
end
theorem sizeTs_app:∀ (a b:List Tm),sizeTs (a++b)=sizeTs a+sizeTs b
 | [],b=>by simp[sizeTs]
 | x :: a,b=>by rw[List.cons_append,sizeTs,sizeTs,sizeTs_app a b];omega
theorem sizeTs_take {l:List Tm} {i:Nat} {x:Tm} (h:l[i]?=some x):sizeTs (l.take (i+1))=sizeTs (l.take i)+sizeT x:=by
 rw[qG h,sizeTs_app,sizeTs,sizeTs];omega
theorem W_add (a b:Int):IntKind.i64.wrap (W a+W b)=W (a+b):=by
 unfold W;simp only[IntKind.wrap_i64];omega
inductive I58 (l:List Tm):Nat→S→Prop
 | mk (i:Nat) (iv n:Int) (h:jA) {x0 x1 x2 x4 x5 x6 xA xB xC xD xE xF xG xH xI:Value} (hiv:iv=(i:Int)) (hi:i≤l.length) (hn:n=W (1+sizeTs (l.take i))) (hl1:h.lo=1) (hl2:1≤h.next) :
  I58 l (l.length-i) ⟨(F19 x0 x1 x2 (.int .i64 n) x4 x5 x6 (tmsV l) (.int .i64 l.length) (.int .i64 iv) xA xB xC xD xE xF xG xH xI),[],h⟩
theorem size_t:∀ t:Tm,smT t=true→jE (pp G) H0 17 [tmV t] (.int .i64 (W (sizeT t)))
 | .mk k a b s e l,hs=>by
  simp only[smT,Bool.and_eq_true,decide_eq_true_eq] at hs
  have hsl:=hs.1.1
  have ih:∀ x∈l,jE (pp G) H0 17 [tmV x] (.int .i64 (W (sizeT x))):=fun x hx=>size_t x (uY hs.2 x hx)
  have hlo:H0.lo≤H0.next:=Nat.le_refl _;refine jE.cut (jN.fir4 (q:=qq) (jO G) fir17 (by kernel_rfl) rfl rfl (F19_arr ..) (show NGG≤H0.lo by rw[jV];decide) ?_);rw[sd_ir17]
  rw[sizeT]
  simp(disch:=first|omega|(apply id;simp only[push_cast];try omega))only[push_cast,simprocAttr]
  refine WD.loop4 (q:=qq) (jO G) (by kernel_rfl) (I58 l) ?_ _ _ (I58.mk 0 0 _ _ rfl (Nat.zero_le _) rfl rfl (by first|assumption|(simp(disch:=first|omega|(apply id;simp only[push_cast];try omega))only[push_cast,simprocAttr];try omega)))
  intro m s1 hI
  cases hI with|mk i iv n h hiv hi hn hl1 hl2=>
  subst hiv hn
  rw[sd_ir17_s0]
  unfold tmsV
  by_cases hil:(i:Int)<l.length
  ·obtain ⟨x,hx⟩:=qU (l:=l) (i:=i) (by omega)
   have hp:=uK hx
   have hle2:i*9+9≤l.length*9:=by omega
   simp(disch:=first|omega|(apply id;simp only[push_cast];try omega))only[push_cast,simprocAttr,hil,Int.toNat_natCast,hp,hle2,hl1]
   refine jC.dataI (ih x (List.mem_of_getElem? hx)) (by and_intros<;>first|rfl|(simp(disch:=first|omega|(apply id;simp only[push_cast];try omega))only[push_cast])) ?_
   simp(disch:=first|omega|(apply id;simp only[push_cast];try omega))only[push_cast,simprocAttr,W_add]
   exact ⟨_,by omega,I58.mk (i+1) _ _ _ (by first|rfl|omega) (by omega) (by rw[sizeTs_take hx];congr 1;omega) (by first|assumption|(simp(disch:=first|omega|(apply id;simp only[push_cast];try omega))only[push_cast,simprocAttr,hl1];try omega)) (by first|assumption|(simp(disch:=first|omega|(apply id;simp only[push_cast];try omega))only[push_cast,simprocAttr];try omega))⟩
  ·have hie:i=l.length:=by omega
   subst hie
   simp(disch:=first|omega|(apply id;simp only[push_cast];try omega))only[push_cast,simprocAttr,hil]
   rw[sd_ir17_s1]
   simp(disch:=first|omega|(apply id;simp only[push_cast];try omega))only[push_cast,simprocAttr,List.take_length]
   exact .id rfl
 termination_by x=>SizeOf.sizeOf x
end
end Go.Proofs.YtgeakofgklcipaaDoor
namespace Go.Proofs.YtgeakofgklcipaaDoor
open Go Go.RowKit Go.Ev Go.Dv
noncomputable section
set_option maxRecDepth 100000
def zE:Ex:=.mk 0 0 [] []
def zT:Tm:=.mk 0 0 0 [] zE []
theorem OwnD.lt {σ:jA} {e n:Nat} {a:Option Addr} {len c:Nat} {cs:List Value} (ho:OwnD σ e n a len c cs) {b:Nat} (hb:blk a b):σ.lo≤b∧b<σ.next:=by
 obtain ⟨o,s,rfl⟩:=hb
 rcases ho.hat with ⟨e,_⟩|⟨q,_,e,h1,h2,_⟩
 ·cases e
 ·cases e;exact ⟨h1,h2⟩
theorem rowT1 (t:Tm) (σ:jA):bsD (qq.m 32) (slT Tryd.prog 32) 1 [(0,tmV t)] σ=some (Rw true 34 1 (qP [t]),σ):=by
 rw[tmCs_1];cases t;kernel_rfl
end
end Go.Proofs.YtgeakofgklcipaaDoor
