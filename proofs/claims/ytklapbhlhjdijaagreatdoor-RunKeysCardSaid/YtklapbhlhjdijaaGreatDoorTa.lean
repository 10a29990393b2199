/-
  A part of the proof: what the program's functions hand back,as theorems. No condition but those that each theorem names.
-/
import Derived.Test.YtklapbhlhjdijaaGreatDoorExa
import Derived.Test.YtklapbhlhjdijaaGreatDoorEve
import Derived.Test.YtklapbhlhjdijaaGreatDoorExb
import Derived.Test.YtklapbhlhjdijaaGreatDoorExc
set_option linter.unusedSimpArgs false
set_option linter.unusedVariables false
namespace Go.Proofs.YtklapbhlhjdijaaGreatDoor
open _root_.Go.Proofs.Tryz (prog)
open Go Go.RowKit Go.Ev Go.Dv
noncomputable section
attribute [local push_cast] eq_self iff_self
theorem gtM {n i:Nat}{y:VTr}(h:i<n):(VT.mk n y).get i=y.get i:=by
 show Bool.rec (motive:=λ_=>Z6) undef (y.get i) (Nat.ble (Nat.succ i) n)=_
 rw[Nat.ble_eq_true_of_le h]
theorem gt0 {y r:VTr}{v:Z6}:(VTr.node y v r).get 0=v:=rfl
theorem gtS {y r:VTr}{v:Z6}{i:Nat}:(VTr.node y v r).get (i+1)=if i % 2=0 then y.get (i / 2) else r.get (i / 2):=by
 show Bool.rec (motive:=λ_=>Z6) (r.get (i / 2)) (y.get (i / 2)) (Nat.beq (i % 2) 0)=_
 by_cases h:i % 2=0
 ·rw[if_pos h,h];rfl
 ·rw[if_neg h]
  cases hb:Nat.beq (i % 2) 0 with
  | false=>rfl
  | true=>exact absurd (Nat.eq_of_beq_eq_true hb) h
attribute [push_cast] gtM gt0 gtS
theorem S0 {A B:Prop}(b:B)(h:A=B:=by conv=>lhs;simp(disch:=first|omega|(apply id;simp only[push_cast];try omega))only[push_cast,simprocAttr]):A:=h.mpr b
theorem S1 {X0 A B:Prop}(x0:X0)(b:B)(h:X0→A=B:=by intro x0;conv=>lhs;simp(disch:=first|omega|(apply id;simp only[push_cast];try omega))only[push_cast,simprocAttr,x0]):A:=(h x0).mpr b
theorem S2 {X0 X1 A B:Prop}(x0:X0)(x1:X1)(b:B)(h:X0→X1→A=B:=by intro x0 x1;conv=>lhs;simp(disch:=first|omega|(apply id;simp only[push_cast];try omega))only[push_cast,simprocAttr,x0,x1]):A:=(h x0 x1).mpr b
theorem S3 {X0 X1 X2 A B:Prop}(x0:X0)(x1:X1)(x2:X2)(b:B)(h:X0→X1→X2→A=B:=by intro x0 x1 x2;conv=>lhs;simp(disch:=first|omega|(apply id;simp only[push_cast];try omega))only[push_cast,simprocAttr,x0,x1,x2]):A:=(h x0 x1 x2).mpr b
theorem S4 {X0 X1 X2 X3 A B:Prop}(x0:X0)(x1:X1)(x2:X2)(x3:X3)(b:B)(h:X0→X1→X2→X3→A=B:=by intro x0 x1 x2 x3;conv=>lhs;simp(disch:=first|omega|(apply id;simp only[push_cast];try omega))only[push_cast,simprocAttr,x0,x1,x2,x3]):A:=(h x0 x1 x2 x3).mpr b
theorem S5 {X0 X1 X2 X3 X4 A B:Prop}(x0:X0)(x1:X1)(x2:X2)(x3:X3)(x4:X4)(b:B)(h:X0→X1→X2→X3→X4→A=B:=by intro x0 x1 x2 x3 x4;conv=>lhs;simp(disch:=first|omega|(apply id;simp only[push_cast];try omega))only[push_cast,simprocAttr,x0,x1,x2,x3,x4]):A:=(h x0 x1 x2 x3 x4).mpr b
theorem S6 {X0 X1 X2 X3 X4 X5 A B:Prop}(x0:X0)(x1:X1)(x2:X2)(x3:X3)(x4:X4)(x5:X5)(b:B)(h:X0→X1→X2→X3→X4→X5→A=B:=by intro x0 x1 x2 x3 x4 x5;conv=>lhs;simp(disch:=first|omega|(apply id;simp only[push_cast];try omega))only[push_cast,simprocAttr,x0,x1,x2,x3,x4,x5]):A:=(h x0 x1 x2 x3 x4 x5).mpr b
theorem S7 {X0 X1 X2 X3 X4 X5 X6 A B:Prop}(x0:X0)(x1:X1)(x2:X2)(x3:X3)(x4:X4)(x5:X5)(x6:X6)(b:B)(h:X0→X1→X2→X3→X4→X5→X6→A=B:=by intro x0 x1 x2 x3 x4 x5 x6;conv=>lhs;simp(disch:=first|omega|(apply id;simp only[push_cast];try omega))only[push_cast,simprocAttr,x0,x1,x2,x3,x4,x5,x6]):A:=(h x0 x1 x2 x3 x4 x5 x6).mpr b
theorem S8 {X0 X1 X2 X3 X4 X5 X6 X7 A B:Prop}(x0:X0)(x1:X1)(x2:X2)(x3:X3)(x4:X4)(x5:X5)(x6:X6)(x7:X7)(b:B)(h:X0→X1→X2→X3→X4→X5→X6→X7→A=B:=by intro x0 x1 x2 x3 x4 x5 x6 x7;conv=>lhs;simp(disch:=first|omega|(apply id;simp only[push_cast];try omega))only[push_cast,simprocAttr,x0,x1,x2,x3,x4,x5,x6,x7]):A:=(h x0 x1 x2 x3 x4 x5 x6 x7).mpr b
theorem tH {p:Prop}(h:p:=by first|assumption|(simp(disch:=first|omega|(apply id;simp only[push_cast];try omega))only[push_cast,simprocAttr];try omega)):p:=h
theorem dK {p:Par}{H:jA}{f:FuncId}{args:List Z6}{σ:jA}{d:Z6}{K:Zb→Z6→jA→Prop}(c:jF p H f args d)(a:K true d σ)(h:scL H.next args=true∧scL σ.lo args=true∧sc σ.lo d=true:=by and_intros<;>first|rfl|(simp(disch:=first|omega|(apply id;simp only[push_cast];try omega))only[push_cast,simprocAttr])):jE p H (.func (.func f) ⟨[]⟩ ⟨[]⟩) args σ K:=jE.dataI c h a
theorem dL {p:Par}{H:jA}{f:FuncId}{args:List Z6}{σ:jA}{D:Z6→Prop}{K:Zb→Z6→jA→Prop}(c:bW p H f args D)(a:∀ d,D d→sc σ.lo d=true∧K true d σ)(h:scL H.next args=true∧scL σ.lo args=true:=by and_intros<;>first|rfl|(simp(disch:=first|omega|(apply id;simp only[push_cast];try omega))only[push_cast,simprocAttr])):jE p H (.func (.func f) ⟨[]⟩ ⟨[]⟩) args σ K:=jE.dataEI c h a
theorem cE (G:Nat×Nat){f:FuncId}{h:FIR}(b:Ev.fir (pp G).P f=some h)(a:dB (pp G).NG h.ir=true){args:List Z6}{d:Z6}{T:VT}(c:T.arr=⟨args++List.replicate (h.n-args.length) undef⟩)
  (g:H0.lo≤H0.next→dc3 (pp G) qq none h.ir ⟨T,[],H0⟩ (jR (pp G).P h.rs λv σ'=>FzV (pp G).P H0.next σ' v d)) (i:Nat.ble args.length h.n=true:=by rfl) (e:Nat.ble h.n 100000=true:=by rfl):jF (pp G) H0 f args d:=
 jF.cut (jH.fir4 (q:=qq) (jV G) b a i e c (show NGG≤H0.lo by rw[wN2];decide) (g (Z3 _)))
theorem cY (G:Nat×Nat){f:FuncId}{h:FIR}(b:Ev.fir (pp G).P f=some h)(a:dB (pp G).NG h.ir=true){args:List Z6}{D:Z6→Prop}{T:VT}(c:T.arr=⟨args++List.replicate (h.n-args.length) undef⟩)
  (g:H0.lo≤H0.next→dc3 (pp G) qq none h.ir ⟨T,[],H0⟩ (jR (pp G).P h.rs λv σ'=>∃ d,D d∧FzV (pp G).P H0.next σ' v d)) (i:Nat.ble args.length h.n=true:=by rfl) (e:Nat.ble h.n 100000=true:=by rfl):bW (pp G) H0 f args D:=
 bW.cut (jH.fir4 (q:=qq) (jV G) b a i e c (show NGG≤H0.lo by rw[wN2];decide) (g (Z3 _)))
theorem tH1 {X0 A:Prop}(x0:X0)(h:X0→A:=by intro x0;first|assumption|(simp(disch:=first|omega|(apply id;simp only[push_cast];try omega))only[push_cast,simprocAttr,x0];try omega)):A:=h x0
theorem tH2 {X0 X1 A:Prop}(x0:X0)(x1:X1)(h:X0→X1→A:=by intro x0 x1;first|assumption|(simp(disch:=first|omega|(apply id;simp only[push_cast];try omega))only[push_cast,simprocAttr,x0,x1];try omega)):A:=h x0 x1
theorem tH3 {X0 X1 X2 A:Prop}(x0:X0)(x1:X1)(x2:X2)(h:X0→X1→X2→A:=by intro x0 x1 x2;first|assumption|(simp(disch:=first|omega|(apply id;simp only[push_cast];try omega))only[push_cast,simprocAttr,x0,x1,x2];try omega)):A:=h x0 x1 x2
theorem tH4 {X0 X1 X2 X3 A:Prop}(x0:X0)(x1:X1)(x2:X2)(x3:X3)(h:X0→X1→X2→X3→A:=by intro x0 x1 x2 x3;first|assumption|(simp(disch:=first|omega|(apply id;simp only[push_cast];try omega))only[push_cast,simprocAttr,x0,x1,x2,x3];try omega)):A:=h x0 x1 x2 x3
end
end Go.Proofs.YtklapbhlhjdijaaGreatDoor
namespace Go.Proofs.YtklapbhlhjdijaaGreatDoor
open _root_.Go.Proofs.Tryz (prog)
open Go Go.RowKit Go.Ev Go.Dv
noncomputable section
attribute [local push_cast] eq_self iff_self
set_option maxRecDepth 100000
def W (a:Int):Int:=IntKind.i64.wrap a
def In (a:Int):Prop:=-9223372036854775808≤a∧a≤9223372036854775807
theorem W_in {a:Int}(h:In a):W a=a:=by
 unfold In at h
 unfold W;rw[IntKind.wrap_i64];omega
theorem H0p:0<H0.lo:=by rw[wN2];omega
theorem H0q:0<H0.next:=by rw[uU];omega
abbrev eI:Nat:=3
def ivs (l:List Int):List Z6:=l.map (Value.int .i64)
def ivV (l:List Int):Z6:=Rw false eI l.length (ivs l)
theorem bD (l:List Int):(ivs l).length=l.length:=by simp[ivs]
theorem qS0 (n:Nat):∀ l:List Int,scL n (ivs l)=true
 | []=>rfl
 | x :: l=>by
  have:=qS0 n l
  simp only[ivs] at this
  simp[ivs,scL,sc,this]
theorem mE2 (n:Nat)(h:0<n)(k:Nat)(f:Zb)(l:List Int):sc n (Rw f eI k (ivs l))=true:=by
 have:=qS0 n l
 simp[sc,Rw,scL,this,h]
theorem uJ1 (n:Nat)(h:0<n)(l:List Int):sc n (ivV l)=true:=mE2 n h ..
theorem yF0:∀ l:List Int,(ivs l).all one=true
 | []=>rfl
 | x :: l=>by
  have:=yF0 l
  simp only[ivs] at this
  simp[ivs,one]
theorem uH1 {l:List Int}{i:Nat}(h:i<l.length):(ivs l)[i]?=some (.int .i64 (l.getD i 0)):=by simp[ivs,h]
theorem yG0 (a b:List Int):ivs (a++b)=ivs a++ivs b:=by simp[ivs]
abbrev eS:Nat:=9
def nss (l:List (List Zu)):List Z6:=l.map λs=>Value.string (Tx s)
def nsV (l:List (List Zu)):Z6:=Rw false eS l.length (nss l)
theorem sY2 (l:List (List Zu)):(nss l).length=l.length:=by simp[nss]
theorem zW0 (n:Nat):∀ l:List (List Zu),scL n (nss l)=true
 | []=>rfl
 | x :: l=>by
  have:=zW0 n l
  simp only[nss] at this
  simp[nss,scL,sc,this]
theorem eK0 (n:Nat)(h:0<n)(k:Nat)(f:Zb)(l:List (List Zu)):sc n (Rw f eS k (nss l))=true:=by
 have:=zW0 n l
 simp[sc,Rw,scL,this,h]
theorem nG0 (n:Nat)(h:0<n)(l:List (List Zu)):sc n (nsV l)=true:=eK0 n h ..
theorem qK0 {l:List (List Zu)}{i:Nat}(h:i<l.length):(nss l)[i]?=some (.string (Tx (l.getD i []))):=by simp[nss,h]
theorem mK1 (a b:List (List Zu)):nss (a++b)=nss a++nss b:=by simp[nss]
abbrev eB:Nat:=4
def bvs (l:List Zb):List Z6:=l.map Value.bool
def bvV (l:List Zb):Z6:=Rw false eB l.length (bvs l)
theorem jR0 (l:List Zb):(bvs l).length=l.length:=by simp[bvs]
theorem yY0 (n:Nat):∀ l:List Zb,scL n (bvs l)=true
 | []=>rfl
 | x :: l=>by
  have:=yY0 n l
  simp only[bvs] at this
  simp[bvs,scL,sc,this]
theorem nB2 (n:Nat)(h:0<n)(k:Nat)(f:Zb)(l:List Zb):sc n (Rw f eB k (bvs l))=true:=by
 have:=yY0 n l
 simp[sc,Rw,scL,this,h]
theorem tL0:∀ l:List Zb,(bvs l).all one=true
 | []=>rfl
 | x :: l=>by
  have:=tL0 l
  simp only[bvs] at this
  simp[bvs,one]
theorem uW0 {l:List Zb}{i:Nat}(h:i<l.length):(bvs l)[i]?=some (.bool (l.getD i false)):=by simp[bvs,h]
@[push_cast]theorem sc_nil (n a b:Nat):sc n (.slice none a b)=true:=rfl
theorem yM3 (n:Nat)(l:List Z6):sc n (.agg ⟨l⟩)=scL n l:=rfl
theorem yL3 (n:Nat)(k:IntKind)(i:Int):sc n (.int k i)=true:=rfl
theorem yJ3 (n:Nat)(s:ByteArray):sc n (.string s)=true:=rfl
attribute [push_cast] yM3 yL3 yJ3
@[push_cast]theorem sc_fn (n f:Nat):sc n (.func (.func f) #[] #[])=true:=rfl
attribute [push_cast] bD qS0 mE2 uJ1 yF0 sY2 zW0 eK0 nG0 jR0 yY0 nB2 tL0 nI3 nK3 Int.toNat_zero Int.toNat_one Int.natCast_one wN2 uU
def jU (a n:Int):Int:=if a.tmod n<0 then a.tmod n+n else a.tmod n
theorem uR {a n:Int}(c:0<n):0≤jU a n∧jU a n<n:=by
 have b:(a.tmod n).natAbs=a.natAbs % n.natAbs:=Int.natAbs_tmod a n
 have h:a.natAbs % n.natAbs<n.natAbs:=Nat.mod_lt _ Z0
 unfold jU
 split<;>omega
inductive Ex where
 | mk (k:Int) (n:Int) (s:List Zu) (l:List Ex)
abbrev eE:Nat:=32
mutual
def exC:Ex→List Z6
 | .mk k n s l=>[.int .i64 k,.int .i64 n,.string (Tx s),Rw false eE l.length (kY l)]
def kY:List Ex→List Z6
 | []=>[]
 | x :: l=>exC x++kY l
end
def exV (x:Ex):Z6:=.agg ⟨exC x⟩
def exsV (l:List Ex):Z6:=Rw false eE l.length (kY l)
theorem fZ3 (k:Int)(n:Int)(s:List Zu)(l:List Ex):exC (.mk k n s l)=[.int .i64 k,.int .i64 n,.string (Tx s),Rw false eE l.length (kY l)]:=rfl
theorem wX0 (x:Ex):(exC x).length=4:=by cases x;simp[exC]
theorem kH0:∀ l:List Ex,(kY l).length=l.length*4
 | []=>rfl
 | x :: l=>by rw[kY,List.length_append,wX0,kH0 l,List.length_cons];omega
theorem rJ1:∀ x:Ex,(exC x).all one=true
 | .mk k n s l=>by simp[exC,one,Rw]
theorem lD0:∀ l:List Ex,(kY l).all one=true
 | []=>rfl
 | x :: l=>by rw[kY,List.all_append,rJ1 x,lD0 l];rfl
mutual
theorem rI1 (h:Nat)(a:0<h):∀ x:Ex,scL h (exC x)=true
 | .mk k n s l=>by
  have:=jQ0 h a l
  simp[exC,scL,Ev.sc,Rw,a, *]
theorem jQ0 (h:Nat)(a:0<h):∀ l:List Ex,scL h (kY l)=true
 | []=>rfl
 | x :: l=>by
  rw[kY]
  exact qK λv c=>(List.mem_append.1 c).elim (qJ (rI1 h a x) v) (qJ (jQ0 h a l) v)
end
theorem eU0 (n:Nat)(h:0<n)(x:Ex):Ev.sc n (exV x)=true:=rI1 n h x
theorem cM0 (n:Nat)(h:0<n)(k:Nat)(f:Zb)(l:List Ex):Ev.sc n (Rw f eE k (kY l))=true:=by
 have:=jQ0 n h l
 simp[Ev.sc,Rw,scL,this,h]
theorem jT3 (n:Nat)(h:0<n)(l:List Ex):Ev.sc n (exsV l)=true:=cM0 n h ..
theorem lE0:∀ (a b:List Ex),kY (a++b)=kY a++kY b
 | [],b=>rfl
 | x :: a,b=>by rw[List.cons_append,kY,lE0 a b,kY,List.append_assoc]
theorem mP2 (x:Ex):kY [x]=exC x:=by rw[kY,kY,List.append_nil]
theorem nY0:∀ (l:List Ex) (i:Nat),(kY l).drop (i*4)=kY (l.drop i)
 | l,0=>by simp
 | [],i+1=>by simp[kY]
 | x :: l,i+1=>by
  rw[kY,List.drop_succ_cons,← nY0 l i,Nat.add_mul,Nat.one_mul,Nat.add_comm,← List.drop_drop,List.drop_append_of_le_length (by rw[wX0];exact Z3 _),show (exC x).drop 4=[] from List.drop_of_length_le (by rw[wX0];exact Z3 _),List.nil_append]
theorem uQ0 {l:List Ex}{i:Nat}{x:Ex}(h:l[i]?=some x):((kY l).drop (i*4)).take 4=exC x:=by
 have hi:i<l.length:=(List.getElem?_eq_some_iff.1 h).1
 have a:l.drop i=x :: l.drop (i+1):=by rw[List.drop_eq_getElem_cons hi];congr 1;exact (List.getElem?_eq_some_iff.1 h).2
 rw[nY0,a,kY,List.take_append_of_le_length (by rw[wX0];exact Z3 _),List.take_of_length_le (by rw[wX0];exact Z3 _)]
theorem bQ2 (x:Ex):Value.agg ⟨exC x⟩=exV x:=rfl
theorem rH1 (x:Ex):(exV x).cells.toList=exC x:=rfl
theorem bR2 (x:Ex):(exC x).take 4=exC x:=List.take_of_length_le (by rw[wX0];exact Z3 _)
theorem jV3 (x:Ex)(l:List Ex):(kY (x :: l)).take 4=exC x:=uQ0 (l:=x :: l) (i:=0) rfl
theorem jU3 (x y:Ex)(l:List Ex):((kY (x :: y :: l)).drop 4).take 4=exC y:=uQ0 (l:=x :: y :: l) (i:=1) rfl
attribute [push_cast] fZ3 kH0 bQ2 jQ0 eU0 jT3 cM0 rI1 lD0 rJ1 rH1 bR2 wX0 jV3 jU3
def Ex.k:Ex→Int | .mk k _ _ _=>k
def Ex.n:Ex→Int | .mk _ n _ _=>n
def Ex.s:Ex→List Zu | .mk _ _ s _=>s
def Ex.l:Ex→List Ex | .mk _ _ _ l=>l
theorem Ex.k_mk (k n:Int)(s:List Zu)(l:List Ex):Ex.k (.mk k n s l)=k:=rfl
theorem Ex.n_mk (k n:Int)(s:List Zu)(l:List Ex):Ex.n (.mk k n s l)=n:=rfl
theorem Ex.s_mk (k n:Int)(s:List Zu)(l:List Ex):Ex.s (.mk k n s l)=s:=rfl
theorem Ex.l_mk (k n:Int)(s:List Zu)(l:List Ex):Ex.l (.mk k n s l)=l:=rfl
theorem nZ0 (x:Ex):exC x=[.int .i64 x.k,.int .i64 x.n,.string (Tx x.s),Rw false eE x.l.length (kY x.l)]:=by cases x;rfl
theorem fY3 (x:Ex):Value.agg ⟨[.int .i64 x.k,.int .i64 x.n,.string (Tx x.s),Rw false eE x.l.length (kY x.l)]⟩=exV x:=by cases x;rfl
attribute [push_cast] Ex.k_mk Ex.n_mk Ex.s_mk Ex.l_mk fY3
inductive Tm where
 | mk (k:Int) (a:Int) (b:Int) (s:List Zu) (e:Ex) (l:List Tm)
abbrev etm:Nat:=34
mutual
def tmC:Tm→List Z6
 | .mk k a b s e l=>[.int .i64 k,.int .i64 a,.int .i64 b,.string (Tx s),.int .i64 e.k,.int .i64 e.n,.string (Tx e.s),Rw false eE e.l.length (kY e.l),Rw false etm l.length (qN l)]
def qN:List Tm→List Z6
 | []=>[]
 | x :: l=>tmC x++qN l
end
def tmV (x:Tm):Z6:=.agg ⟨tmC x⟩
def qP (l:List Tm):Z6:=Rw false etm l.length (qN l)
theorem uX (k:Int)(a:Int)(b:Int)(s:List Zu)(e:Ex)(l:List Tm):tmC (.mk k a b s e l)=[.int .i64 k,.int .i64 a,.int .i64 b,.string (Tx s),.int .i64 e.k,.int .i64 e.n,.string (Tx e.s),Rw false eE e.l.length (kY e.l),Rw false etm l.length (qN l)]:=rfl
theorem uQ (x:Tm):(tmC x).length=9:=by cases x;simp[tmC]
theorem cD:∀ l:List Tm,(qN l).length=l.length*9
 | []=>rfl
 | x :: l=>by rw[qN,List.length_append,uQ,cD l,List.length_cons];omega
theorem uC0:∀ x:Tm,(tmC x).all one=true
 | .mk k a b s e l=>by simp[tmC,one,Rw]
theorem qG0:∀ l:List Tm,(qN l).all one=true
 | []=>rfl
 | x :: l=>by rw[qN,List.all_append,uC0 x,qG0 l];rfl
mutual
theorem uB0 (h:Nat)(c:0<h):∀ x:Tm,scL h (tmC x)=true
 | .mk k a b s e l=>by
  have:=cV h c l
  simp[tmC,scL,Ev.sc,Rw,c,jQ0, *]
theorem cV (h:Nat)(a:0<h):∀ l:List Tm,scL h (qN l)=true
 | []=>rfl
 | x :: l=>by
  rw[qN]
  exact qK λv c=>(List.mem_append.1 c).elim (qJ (uB0 h a x) v) (qJ (cV h a l) v)
end
theorem uA0 (n:Nat)(h:0<n)(x:Tm):Ev.sc n (tmV x)=true:=uB0 n h x
theorem lM2 (n:Nat)(h:0<n)(k:Nat)(f:Zb)(l:List Tm):Ev.sc n (Rw f etm k (qN l))=true:=by
 have:=cV n h l
 simp[Ev.sc,Rw,scL,this,h]
theorem bA0 (n:Nat)(h:0<n)(l:List Tm):Ev.sc n (qP l)=true:=lM2 n h ..
theorem zG0:∀ (a b:List Tm),qN (a++b)=qN a++qN b
 | [],b=>rfl
 | x :: a,b=>by rw[List.cons_append,qN,zG0 a b,qN,List.append_assoc]
theorem jT0 (x:Tm):qN [x]=tmC x:=by rw[qN,qN,List.append_nil]
theorem bC0:∀ (l:List Tm) (i:Nat),(qN l).drop (i*9)=qN (l.drop i)
 | l,0=>by simp
 | [],i+1=>by simp[qN]
 | x :: l,i+1=>by
  rw[qN,List.drop_succ_cons,← bC0 l i,Nat.add_mul,Nat.one_mul,Nat.add_comm,← List.drop_drop,List.drop_append_of_le_length (by rw[uQ];exact Z3 _),show (tmC x).drop 9=[] from List.drop_of_length_le (by rw[uQ];exact Z3 _),List.nil_append]
theorem kQ0:∀ (l:List Tm) (i:Nat),(qN l).take (i*9)=qN (l.take i)
 | l,0=>by simp[qN]
 | [],i+1=>by simp[qN]
 | x :: l,i+1=>by
  rw[qN,List.take_succ_cons,qN,← kQ0 l i,Nat.add_mul,Nat.one_mul,Nat.add_comm,List.take_append,uQ,List.take_of_length_le (by rw[uQ];omega),Nat.add_sub_cancel_left]
theorem kS {l:List Tm}{i:Nat}{x:Tm}(h:l[i]?=some x):((qN l).drop (i*9)).take 9=tmC x:=by
 have hi:i<l.length:=(List.getElem?_eq_some_iff.1 h).1
 have a:l.drop i=x :: l.drop (i+1):=by rw[List.drop_eq_getElem_cons hi];congr 1;exact (List.getElem?_eq_some_iff.1 h).2
 rw[bC0,a,qN,List.take_append_of_le_length (by rw[uQ];exact Z3 _),List.take_of_length_le (by rw[uQ];exact Z3 _)]
theorem zP2 (x:Tm):Value.agg ⟨tmC x⟩=tmV x:=rfl
theorem fR1 (x:Tm):(tmV x).cells.toList=tmC x:=rfl
theorem zQ2 (x:Tm):(tmC x).take 9=tmC x:=List.take_of_length_le (by rw[uQ];exact Z3 _)
theorem oB2 (x:Tm)(l:List Tm):(qN (x :: l)).take 9=tmC x:=kS (l:=x :: l) (i:=0) rfl
theorem oA2 (x y:Tm)(l:List Tm):((qN (x :: y :: l)).drop 9).take 9=tmC y:=kS (l:=x :: y :: l) (i:=1) rfl
attribute [push_cast] uX cD zP2 cV uA0 bA0 lM2 uB0 qG0 uC0 fR1 zQ2 uQ oB2 oA2
def Tm.k:Tm→Int | .mk k _ _ _ _ _=>k
def Tm.a:Tm→Int | .mk _ a _ _ _ _=>a
def Tm.b:Tm→Int | .mk _ _ b _ _ _=>b
def Tm.s:Tm→List Zu | .mk _ _ _ s _ _=>s
def Tm.l:Tm→List Tm | .mk _ _ _ _ _ l=>l
theorem Tm.k_mk (k a b:Int)(s:List Zu)(e:Ex)(l:List Tm):Tm.k (.mk k a b s e l)=k:=rfl
theorem Tm.l_mk (k a b:Int)(s:List Zu)(e:Ex)(l:List Tm):Tm.l (.mk k a b s e l)=l:=rfl
inductive Pr where
 | mk (k:Int) (n:List Zu) (t:List Zu) (e:Ex) (l:List Pr)
abbrev epr:Nat:=80
mutual
def prC:Pr→List Z6
 | .mk k n t e l=>[.int .i64 k,.string (Tx n),.string (Tx t),.int .i64 e.k,.int .i64 e.n,.string (Tx e.s),Rw false eE e.l.length (kY e.l),Rw false epr l.length (prCs l)]
def prCs:List Pr→List Z6
 | []=>[]
 | x :: l=>prC x++prCs l
end
def prV (x:Pr):Z6:=.agg ⟨prC x⟩
def prsV (l:List Pr):Z6:=Rw false epr l.length (prCs l)
theorem gH3 (k:Int)(n:List Zu)(t:List Zu)(e:Ex)(l:List Pr):prC (.mk k n t e l)=[.int .i64 k,.string (Tx n),.string (Tx t),.int .i64 e.k,.int .i64 e.n,.string (Tx e.s),Rw false eE e.l.length (kY e.l),Rw false epr l.length (prCs l)]:=rfl
theorem cL (x:Pr):(prC x).length=8:=by cases x;simp[prC]
theorem qQ1:∀ l:List Pr,(prCs l).length=l.length*8
 | []=>rfl
 | x :: l=>by rw[prCs,List.length_append,cL,qQ1 l,List.length_cons];omega
theorem sN2:∀ x:Pr,(prC x).all one=true
 | .mk k n t e l=>by simp[prC,one,Rw]
mutual
theorem nC0 (h:Nat)(a:0<h):∀ x:Pr,scL h (prC x)=true
 | .mk k n t e l=>by
  have:=fZ0 h a l
  simp[prC,scL,Ev.sc,Rw,a,jQ0, *]
theorem fZ0 (h:Nat)(a:0<h):∀ l:List Pr,scL h (prCs l)=true
 | []=>rfl
 | x :: l=>by
  rw[prCs]
  exact qK λv c=>(List.mem_append.1 c).elim (qJ (nC0 h a x) v) (qJ (fZ0 h a l) v)
end
theorem lZ1 (n:Nat)(h:0<n)(x:Pr):Ev.sc n (prV x)=true:=nC0 n h x
theorem gG3 (x:Pr):prCs [x]=prC x:=by rw[prCs,prCs,List.append_nil]
theorem nB0:∀ (l:List Pr) (i:Nat),(prCs l).drop (i*8)=prCs (l.drop i)
 | l,0=>by simp
 | [],i+1=>by simp[prCs]
 | x :: l,i+1=>by
  rw[prCs,List.drop_succ_cons,← nB0 l i,Nat.add_mul,Nat.one_mul,Nat.add_comm,← List.drop_drop,List.drop_append_of_le_length (by rw[cL];exact Z3 _),show (prC x).drop 8=[] from List.drop_of_length_le (by rw[cL];exact Z3 _),List.nil_append]
theorem uJ0 {l:List Pr}{i:Nat}{x:Pr}(h:l[i]?=some x):((prCs l).drop (i*8)).take 8=prC x:=by
 have hi:i<l.length:=(List.getElem?_eq_some_iff.1 h).1
 have a:l.drop i=x :: l.drop (i+1):=by rw[List.drop_eq_getElem_cons hi];congr 1;exact (List.getElem?_eq_some_iff.1 h).2
 rw[nB0,a,prCs,List.take_append_of_le_length (by rw[cL];exact Z3 _),List.take_of_length_le (by rw[cL];exact Z3 _)]
theorem gE2 (x:Pr):Value.agg ⟨prC x⟩=prV x:=rfl
theorem mA1 (x:Pr):(prV x).cells.toList=prC x:=rfl
theorem gF2 (x:Pr):(prC x).take 8=prC x:=List.take_of_length_le (by rw[cL];exact Z3 _)
theorem sM2 (x:Pr)(l:List Pr):(prCs (x :: l)).take 8=prC x:=uJ0 (l:=x :: l) (i:=0) rfl
theorem sL2 (x y:Pr)(l:List Pr):((prCs (x :: y :: l)).drop 8).take 8=prC y:=uJ0 (l:=x :: y :: l) (i:=1) rfl
attribute [push_cast] gH3 qQ1 gE2 fZ0 lZ1 nC0 sN2 mA1 gF2 cL sM2 sL2
inductive Ra where
 | mk (k:Int) (n:Int) (l:List Ra)
abbrev era:Nat:=191
mutual
def raC:Ra→List Z6
 | .mk k n l=>[.int .i64 k,.int .i64 n,Rw false era l.length (raCs l)]
def raCs:List Ra→List Z6
 | []=>[]
 | x :: l=>raC x++raCs l
end
def raV (x:Ra):Z6:=.agg ⟨raC x⟩
def rasV (l:List Ra):Z6:=Rw false era l.length (raCs l)
theorem gA3 (k:Int)(n:Int)(l:List Ra):raC (.mk k n l)=[.int .i64 k,.int .i64 n,Rw false era l.length (raCs l)]:=rfl
theorem kZ0 (x:Ra):(raC x).length=3:=by cases x;simp[raC]
theorem qP1:∀ l:List Ra,(raCs l).length=l.length*3
 | []=>rfl
 | x :: l=>by rw[raCs,List.length_append,kZ0,qP1 l,List.length_cons];omega
theorem sC2:∀ x:Ra,(raC x).all one=true
 | .mk k n l=>by simp[raC,one,Rw]
mutual
theorem lX1 (h:Nat)(a:0<h):∀ x:Ra,scL h (raC x)=true
 | .mk k n l=>by
  have:=bU0 h a l
  simp[raC,scL,Ev.sc,Rw,a, *]
theorem bU0 (h:Nat)(a:0<h):∀ l:List Ra,scL h (raCs l)=true
 | []=>rfl
 | x :: l=>by
  rw[raCs]
  exact qK λv c=>(List.mem_append.1 c).elim (qJ (lX1 h a x) v) (qJ (bU0 h a l) v)
end
theorem yZ3 (n:Nat)(h:0<n)(x:Ra):Ev.sc n (raV x)=true:=lX1 n h x
theorem lU2 (n:Nat)(h:0<n)(k:Nat)(f:Zb)(l:List Ra):Ev.sc n (Rw f era k (raCs l))=true:=by
 have:=bU0 n h l
 simp[Ev.sc,Rw,scL,this,h]
theorem sB2 (n:Nat)(h:0<n)(l:List Ra):Ev.sc n (rasV l)=true:=lU2 n h ..
theorem mZ0:∀ (l:List Ra) (i:Nat),(raCs l).drop (i*3)=raCs (l.drop i)
 | l,0=>by simp
 | [],i+1=>by simp[raCs]
 | x :: l,i+1=>by
  rw[raCs,List.drop_succ_cons,← mZ0 l i,Nat.add_mul,Nat.one_mul,Nat.add_comm,← List.drop_drop,List.drop_append_of_le_length (by rw[kZ0];exact Z3 _),show (raC x).drop 3=[] from List.drop_of_length_le (by rw[kZ0];exact Z3 _),List.nil_append]
theorem bT0 {l:List Ra}{i:Nat}{x:Ra}(h:l[i]?=some x):((raCs l).drop (i*3)).take 3=raC x:=by
 have hi:i<l.length:=(List.getElem?_eq_some_iff.1 h).1
 have a:l.drop i=x :: l.drop (i+1):=by rw[List.drop_eq_getElem_cons hi];congr 1;exact (List.getElem?_eq_some_iff.1 h).2
 rw[mZ0,a,raCs,List.take_append_of_le_length (by rw[kZ0];exact Z3 _),List.take_of_length_le (by rw[kZ0];exact Z3 _)]
theorem gC2 {l:List Ra}{i j:Nat}{x:Ra}{v:Z6}(h:l[i]?=some x)(c:j<3)(a:(raC x)[j]?=some v):(raCs l)[i*3+j]?=some v:=by
 have b:=bT0 h
 rw[← b,List.getElem?_take_of_lt c,List.getElem?_drop] at a
 exact a
theorem gB2 (x:Ra):Value.agg ⟨raC x⟩=raV x:=rfl
theorem lW1 (x:Ra):(raV x).cells.toList=raC x:=rfl
attribute [push_cast] gA3 qP1 gB2 bU0 yZ3 sB2 lU2 lX1 sC2 lW1 kZ0
inductive Rb where
 | mk (k:Int) (a:Int) (b:Int) (e:List Ra) (l:List Rb)
abbrev erb:Nat:=69
mutual
def rbC:Rb→List Z6
 | .mk k a b e l=>[.int .i64 k,.int .i64 a,.int .i64 b,Rw false era e.length (raCs e),Rw false erb l.length (rbCs l)]
def rbCs:List Rb→List Z6
 | []=>[]
 | x :: l=>rbC x++rbCs l
end
def rbV (x:Rb):Z6:=.agg ⟨rbC x⟩
def rbsV (l:List Rb):Z6:=Rw false erb l.length (rbCs l)
theorem yY3 (k:Int)(a:Int)(b:Int)(e:List Ra)(l:List Rb):rbC (.mk k a b e l)=[.int .i64 k,.int .i64 a,.int .i64 b,Rw false era e.length (raCs e),Rw false erb l.length (rbCs l)]:=rfl
theorem kY0 (x:Rb):(rbC x).length=5:=by cases x;simp[rbC]
theorem qO1:∀ l:List Rb,(rbCs l).length=l.length*5
 | []=>rfl
 | x :: l=>by rw[rbCs,List.length_append,kY0,qO1 l,List.length_cons];omega
theorem sA2:∀ x:Rb,(rbC x).all one=true
 | .mk k a b e l=>by simp[rbC,one,Rw]
mutual
theorem lU1 (h:Nat)(c:0<h):∀ x:Rb,scL h (rbC x)=true
 | .mk k a b e l=>by
  have:=fY0 h c l
  simp[rbC,scL,Ev.sc,Rw,c,bU0, *]
theorem fY0 (h:Nat)(a:0<h):∀ l:List Rb,scL h (rbCs l)=true
 | []=>rfl
 | x :: l=>by
  rw[rbCs]
  exact qK λv c=>(List.mem_append.1 c).elim (qJ (lU1 h a x) v) (qJ (fY0 h a l) v)
end
theorem yX3 (n:Nat)(h:0<n)(x:Rb):Ev.sc n (rbV x)=true:=lU1 n h x
theorem lT2 (n:Nat)(h:0<n)(k:Nat)(f:Zb)(l:List Rb):Ev.sc n (Rw f erb k (rbCs l))=true:=by
 have:=fY0 n h l
 simp[Ev.sc,Rw,scL,this,h]
theorem mX0:∀ (l:List Rb) (i:Nat),(rbCs l).drop (i*5)=rbCs (l.drop i)
 | l,0=>by simp
 | [],i+1=>by simp[rbCs]
 | x :: l,i+1=>by
  rw[rbCs,List.drop_succ_cons,← mX0 l i,Nat.add_mul,Nat.one_mul,Nat.add_comm,← List.drop_drop,List.drop_append_of_le_length (by rw[kY0];exact Z3 _),show (rbC x).drop 5=[] from List.drop_of_length_le (by rw[kY0];exact Z3 _),List.nil_append]
theorem zS0 {l:List Rb}{i:Nat}{x:Rb}(h:l[i]?=some x):((rbCs l).drop (i*5)).take 5=rbC x:=by
 have hi:i<l.length:=(List.getElem?_eq_some_iff.1 h).1
 have a:l.drop i=x :: l.drop (i+1):=by rw[List.drop_eq_getElem_cons hi];congr 1;exact (List.getElem?_eq_some_iff.1 h).2
 rw[mX0,a,rbCs,List.take_append_of_le_length (by rw[kY0];exact Z3 _),List.take_of_length_le (by rw[kY0];exact Z3 _)]
theorem gA2 (x:Rb):Value.agg ⟨rbC x⟩=rbV x:=rfl
theorem lT1 (x:Rb):(rbV x).cells.toList=rbC x:=rfl
attribute [push_cast] yY3 qO1 gA2 fY0 yX3 lT2 lU1 sA2 lT1 kY0
theorem qX1 (G:Nat×Nat)(n:Nat)(σ:jA):FzV (pp G).P n σ (.slice none 0 0) (qP []):=.nil (size:=9) rfl Z1
theorem zX0 (G:Nat×Nat)(n:Nat)(σ:jA):FzV (pp G).P n σ (.slice none 0 0) (exsV []):=.nil (size:=4) rfl Z1
theorem qY1 (G:Nat×Nat)(n:Nat)(σ:jA):FzV (pp G).P n σ (.slice none 0 0) (prsV []):=.nil (size:=8) rfl Z1
theorem bC3 (G:Nat×Nat)(n:Nat)(σ:jA):FzV (pp G).P n σ (.slice none 0 0) (ivV []):=.nil (size:=1) rfl Z1
theorem bB3 (G:Nat×Nat)(n:Nat)(σ:jA):FzV (pp G).P n σ (.slice none 0 0) (nsV []):=.nil (size:=1) rfl Z1
end
end Go.Proofs.YtklapbhlhjdijaaGreatDoor
namespace Go.Proofs.YtklapbhlhjdijaaGreatDoor
open _root_.Go.Proofs.Tryz (prog)
open Go Go.RowKit Go.Ev Go.Dv
noncomputable section
attribute [local push_cast] eq_self iff_self
set_option maxRecDepth 100000
variable (G:Nat×Nat)
theorem uP0 {A c z:List Z6}{w k off:Nat}(a:A.length=off)(h:z.length=w):(A++(List.replicate (k+1) z).flatten).take off++c++(A++(List.replicate (k+1) z).flatten).drop (off+w)=(A++c)++(List.replicate k z).flatten:=by
 subst a
 rw[List.take_left,List.drop_append,List.drop_of_length_le Z0,List.nil_append,Nat.add_sub_cancel_left,List.replicate_succ,List.flatten_cons,List.drop_append,List.drop_of_length_le Z0,List.nil_append,h,Nat.sub_self,List.drop_zero]
theorem kG0 {A z:List Z6}{w k off n:Nat}(c:A.length=off)(a:z.length=w)(h:off+k*w=n):(A++(List.replicate k z).flatten).length=n:=by
 rw[List.length_append,List.length_flatten,List.map_replicate,List.sum_replicate_nat,c,a,h]
theorem jY {a:Type}{l:List a}{i:Nat}{x:a}(h:l[i]?=some x):l.take (i+1)=l.take i++[x]:=by
 rw[List.take_add_one,h];rfl
theorem jT {a:Type}{l:List a}{i:Nat}(h:i<l.length):∃ x,l[i]?=some x:=⟨_,List.getElem?_eq_getElem h⟩
def zex:List Z6:=[.int .i64 0,.int .i64 0,.string (Tx []),.slice none 0 0]
inductive ILex (l:List Ex)(fv:Z6):Nat→S→Prop
 | mk (i:Nat) (iv:Int) (h:jA) {x0 x2 x3 x4 x6 x7 x8 x9 xA xB xC xD xH xI xJ xK xL xM xN xO xP xQ xR xS:Z6} (hiv:iv=(i:Int)) (hi:i≤l.length) (c1:cells h 1=some (kY (l.take i)++(List.replicate (l.length-i) zex).flatten,32,false)) (hl1:h.lo=1) (hl2:2≤h.next) :
  ILex l fv (l.length-i) ⟨(F29 x0 fv x2 x3 x4 (.slice (some ⟨1,0,none⟩) l.length l.length) x6 x7 x8 x9 xA xB xC xD (Rw false eE l.length (kY l)) (.int .i64 l.length) (.int .i64 iv) xH xI xJ xK xL xM xN xO xP xQ xR xS),[],h⟩
theorem gR2 (l:List Ex)(f:FuncId)(A:l.length<100000000000)(v:∀ x∈l,jF (pp G) H0 f [exV x] (exV x)):jF (pp G) H0 139 [exsV l,.func (.func f) #[] #[]] (exsV l):=by
 refine cE G eT3 Z7 (dK0 ..) λB=>?_;rw[kQ2]
 unfold exsV
 by_cases h0:l.length=0
 ·have d:(l.length:Int)=0:=Z0
  obtain rfl:l=[]:=List.length_eq_zero_iff.1 h0
  refine S1 d ?_
  exact .nil (size:=4) rfl Z1
 have d:¬ (l.length:Int)=0:=Z0
 have E:(l.length:Int)*400+l.length<100000000000000:=Z0
 refine S2 d E ?_
 refine WD.loop4 (q:=qq) (jV G) Z7 (ILex l (.func (.func f) #[] #[])) ?_ _ _ (ILex.mk 0 0 _ rfl (Nat.zero_le _) (by push_cast(disch:=first|omega|(apply id;push_cast;try omega))[List.take_zero];rfl) rfl tH)
 intro m I y
 cases y with|mk i H h t hi s b F=>
 subst t
 rw[pZ0]
 by_cases a:(i:Int)<l.length
 ·obtain ⟨x,p⟩:=jT (l:=l) (i:=i) Z0
  have r:=List.mem_of_getElem? p
  have C:=uQ0 p
  have o:i*4+4≤l.length*4:=Z0
  refine S5 a @Z4 C o b ?_
  refine dK (v x r) ?_
  obtain ⟨k,D⟩:∃ k,l.length-i=k+1:=⟨l.length-i-1,Z0⟩
  have j:(kY (l.take i)).length=i*4:=by rw[kH0,List.length_take,Nat.min_eq_left hi]
  have g:=kG0 (w:=4) (z:=zex) (k:=l.length-i) (n:=l.length*4) j rfl (by rw[Nat.sub_mul];omega)
  have e:=uP0 (c:=exC x) (w:=4) (z:=zex) (k:=k) j rfl
  rw[← D,← mP2,← lE0,← jY p,show k=l.length-(i+1) by omega,mP2] at e
  refine S7 a @Z4 o b s g e ?_
  exact ⟨_,Z0,ILex.mk (i+1) _ _ Z2 Z0 tH (tH1 b) tH⟩
 ·have u:i=l.length:=Z0
  subst u
  rw[List.take_length,Nat.sub_self,List.replicate_zero,List.flatten_nil,List.append_nil] at s
  refine S1 a ?_
  rw[pY0]
  refine S0 ?_
  refine .sl (by push_cast(disch:=first|omega|(apply id;push_cast;try omega))) s (size:=4) rfl Z1 tH (.inl ⟨by simp only[UC];omega,Z3 _⟩) ?_
  rw[List.drop_zero,List.take_of_length_le (by rw[kH0];exact Z3 _)]
  exact .ids (jQ0 _ H0q l)
def ztm:List Z6:=[.int .i64 0,.int .i64 0,.int .i64 0,.string (Tx []),.int .i64 0,.int .i64 0,.string (Tx []),.slice none 0 0,.slice none 0 0]
inductive ILtm (l:List Tm)(fv:Z6):Nat→S→Prop
 | mk (i:Nat) (iv:Int) (h:jA) {x0 x2 x3 x4 x6 x7 x8 x9 xA xB xC xD xH xI xJ xK xL xM xN xO xP xQ xR xS:Z6} (hiv:iv=(i:Int)) (hi:i≤l.length) (c1:cells h 1=some (qN (l.take i)++(List.replicate (l.length-i) ztm).flatten,34,false)) (hl1:h.lo=1) (hl2:2≤h.next) :
  ILtm l fv (l.length-i) ⟨(F29 x0 fv x2 x3 x4 (.slice (some ⟨1,0,none⟩) l.length l.length) x6 x7 x8 x9 xA xB xC xD (Rw false etm l.length (qN l)) (.int .i64 l.length) (.int .i64 iv) xH xI xJ xK xL xM xN xO xP xQ xR xS),[],h⟩
theorem iH0 (l:List Tm)(f:FuncId)(A:l.length<100000000000)(v:∀ x∈l,jF (pp G) H0 f [tmV x] (tmV x)):jF (pp G) H0 140 [qP l,.func (.func f) #[] #[]] (qP l):=by
 refine cE G eS3 Z7 (dK0 ..) λB=>?_;rw[kP2]
 unfold qP
 by_cases h0:l.length=0
 ·have d:(l.length:Int)=0:=Z0
  obtain rfl:l=[]:=List.length_eq_zero_iff.1 h0
  refine S1 d ?_
  exact .nil (size:=9) rfl Z1
 have d:¬ (l.length:Int)=0:=Z0
 have E:(l.length:Int)*400+l.length<100000000000000:=Z0
 refine S2 d E ?_
 refine WD.loop4 (q:=qq) (jV G) Z7 (ILtm l (.func (.func f) #[] #[])) ?_ _ _ (ILtm.mk 0 0 _ rfl (Nat.zero_le _) (by push_cast(disch:=first|omega|(apply id;push_cast;try omega))[List.take_zero];rfl) rfl tH)
 intro m I y
 cases y with|mk i H h t hi s b F=>
 subst t
 rw[pX0]
 by_cases a:(i:Int)<l.length
 ·obtain ⟨x,p⟩:=jT (l:=l) (i:=i) Z0
  have r:=List.mem_of_getElem? p
  have C:=kS p
  have o:i*9+9≤l.length*9:=Z0
  refine S5 a @Z4 C o b ?_
  refine dK (v x r) ?_
  obtain ⟨k,D⟩:∃ k,l.length-i=k+1:=⟨l.length-i-1,Z0⟩
  have j:(qN (l.take i)).length=i*9:=by rw[cD,List.length_take,Nat.min_eq_left hi]
  have g:=kG0 (w:=9) (z:=ztm) (k:=l.length-i) (n:=l.length*9) j rfl (by rw[Nat.sub_mul];omega)
  have e:=uP0 (c:=tmC x) (w:=9) (z:=ztm) (k:=k) j rfl
  rw[← D,← jT0,← zG0,← jY p,show k=l.length-(i+1) by omega,jT0] at e
  refine S7 a @Z4 o b s g e ?_
  exact ⟨_,Z0,ILtm.mk (i+1) _ _ Z2 Z0 tH (tH1 b) tH⟩
 ·have u:i=l.length:=Z0
  subst u
  rw[List.take_length,Nat.sub_self,List.replicate_zero,List.flatten_nil,List.append_nil] at s
  refine S1 a ?_
  rw[pW0]
  refine S0 ?_
  refine .sl (by push_cast(disch:=first|omega|(apply id;push_cast;try omega))) s (size:=9) rfl Z1 tH (.inl ⟨by simp only[UC];omega,Z3 _⟩) ?_
  rw[List.drop_zero,List.take_of_length_le (by rw[cD];exact Z3 _)]
  exact .ids (cV _ H0q l)
mutual
def smE:Ex→Zb
 | .mk k n s l=>decide (l.length<100000000000)&&smEs l
def smEs:List Ex→Zb
 | []=>true
 | x :: l=>smE x&&smEs l
end
mutual
def smT:Tm→Zb
 | .mk k a b s e l=>decide (l.length<100000000000)&&smE e&&dI l
def dI:List Tm→Zb
 | []=>true
 | x :: l=>smT x&&dI l
end
theorem gK0:∀ {l:List Ex},smEs l=true→∀ x∈l,smE x=true
 | [],_,x,a=>by cases a
 | y :: l,h,x,a=>by
  simp only[smEs,Z5] at h
  rcases List.mem_cons.1 a with rfl|a
  ·exact h.1
  ·exact gK0 h.2 x a
theorem qQ:∀ {l:List Tm},dI l=true→∀ x∈l,smT x=true
 | [],_,x,a=>by cases a
 | y :: l,h,x,a=>by
  simp only[dI,Z5] at h
  rcases List.mem_cons.1 a with rfl|a
  ·exact h.1
  ·exact qQ h.2 x a
theorem fN0:∀ {l:List Tm},(∀ x∈l,smT x=true)→dI l=true
 | [],_=>rfl
 | y :: l,h=>by rw[dI,h y (by simp),fN0 λx a=>h x (by simp[a])];rfl
theorem qT1:∀ x:Ex,smE x=true→jF (pp G) H0 113 [exV x] (exV x)
 | .mk k n s l,hs=>by
  simp only[smE,Z5,decide_eq_true_eq] at hs
  have h:=gR2 G l 113 hs.1 λx a=>qT1 x (gK0 hs.2 x a)
  refine cE G fL3 Z7 (zO1 ..) λc=>?_;rw[yI2]
  unfold exV exC
  refine S0 ?_
  refine dK (h) ?_
  unfold exsV
  refine S0 ?_
  exact .id (eU0 _ H0q (.mk k n s l))
 termination_by x=>SizeOf.sizeOf x
theorem bX0:∀ x:Tm,smT x=true→jF (pp G) H0 79 [tmV x] (tmV x)
 | .mk k a b s e l,hs=>by
  simp only[smT,Z5,decide_eq_true_eq] at hs
  have c:=iH0 G l 79 hs.1.1 λx d=>bX0 x (qQ hs.2 x d)
  have f:jF (pp G) H0 114 [qP l] (qP l):=by
   refine cE G mO2 Z7 (zP1 ..) λh=>?_;rw[qJ1]
   unfold qP
   refine S0 ?_
   refine dK (c) ?_
   unfold qP
   refine S0 ?_
   exact .id (by push_cast(disch:=first|omega|(apply id;push_cast;try omega)))
  refine cE G fir79 Z7 (jQ1 ..) λh=>?_;rw[pK2]
  unfold tmV tmC
  refine S0 ?_
  refine dK (qT1 G e hs.1.2) ?_
  refine S1 @nZ0 ?_
  refine dK (f) ?_
  unfold qP
  refine S1 @nZ0 ?_
  exact .id (uA0 _ H0q (.mk k a b s e l))
 termination_by x=>SizeOf.sizeOf x
mutual
def jJ:Tm→Int
 | .mk _ _ _ _ _ l=>1+jI l
def jI:List Tm→Int
 | []=>0
 | x :: l=>jJ x+jI l
end
theorem jC0:∀ (a b:List Tm),jI (a++b)=jI a+jI b
 | [],b=>by simp[jI]
 | x :: a,b=>by rw[List.cons_append,jI,jI,jC0 a b];omega
theorem bG0 {l:List Tm}{i:Nat}{x:Tm}(h:l[i]?=some x):jI (l.take (i+1))=jI (l.take i)+jJ x:=by
 rw[jY h,jC0,jI,jI];omega
theorem nO3 (a b:Int):IntKind.i64.wrap (W a+W b)=W (a+b):=by
 unfold W;simp only[IntKind.wrap_i64];omega
inductive I58 (l:List Tm):Nat→S→Prop
 | mk (i:Nat) (iv n:Int) (h:jA) {x0 x1 x2 x4 x5 x6 xA xB xC xD xE xF xG xH xI:Z6} (hiv:iv=(i:Int)) (hi:i≤l.length) (hn:n=W (1+jI (l.take i))) (hl1:h.lo=1) (hl2:1≤h.next) :
  I58 l (l.length-i) ⟨(F19 x0 x1 x2 (.int .i64 n) x4 x5 x6 (qP l) (.int .i64 l.length) (.int .i64 iv) xA xB xC xD xE xF xG xH xI),[],h⟩
theorem qI1:∀ t:Tm,smT t=true→jF (pp G) H0 34 [tmV t] (.int .i64 (W (jJ t)))
 | .mk k a b s e l,hs=>by
  simp only[smT,Z5,decide_eq_true_eq] at hs
  have y:=hs.1.1
  have u:∀ x∈l,jF (pp G) H0 34 [tmV x] (.int .i64 (W (jJ x))):=λx f=>qI1 x (qQ hs.2 x f)
  refine cE G fir34 Z7 (dL0 ..) λv=>?_;rw[rI2]
  rw[jJ]
  push_cast(disch:=first|omega|(apply id;push_cast;try omega))
  refine WD.loop4 (q:=qq) (jV G) Z7 (I58 l) ?_ _ _ (I58.mk 0 0 _ _ rfl (Nat.zero_le _) rfl rfl tH)
  intro m B p
  cases p with|mk i A n h j hi r g z=>
  subst j r
  rw[yY1]
  unfold qP
  by_cases c:(i:Int)<l.length
  ·obtain ⟨x,f⟩:=jT (l:=l) (i:=i) Z0
   have w:=kS f
   have d:i*9+9≤l.length*9:=Z0
   push_cast(disch:=first|omega|(apply id;push_cast;try omega))[c,Z4,w,d,g]
   refine dK (u x (List.mem_of_getElem? f)) ?_
   push_cast(disch:=first|omega|(apply id;push_cast;try omega))[nO3]
   exact ⟨_,Z0,I58.mk (i+1) _ _ _ Z2 Z0 (by rw[bG0 f];congr 1;omega) (tH1 g) tH⟩
  ·have o:i=l.length:=Z0
   subst o
   push_cast(disch:=first|omega|(apply id;push_cast;try omega))[c]
   rw[yX1]
   push_cast(disch:=first|omega|(apply id;push_cast;try omega))[List.take_length]
   exact .id rfl
 termination_by x=>SizeOf.sizeOf x
end
end Go.Proofs.YtklapbhlhjdijaaGreatDoor
namespace Go.Proofs.YtklapbhlhjdijaaGreatDoor
open _root_.Go.Proofs.Tryz (prog)
open Go Go.RowKit Go.Ev Go.Dv
noncomputable section
attribute [local push_cast] eq_self iff_self
set_option maxRecDepth 100000
def zE:Ex:=.mk 0 0 [] []
def zT:Tm:=.mk 0 0 0 [] zE []
theorem qY.lt {σ:jA}{e n:Nat}{a:Z8 Addr}{len c:Nat}{cs:List Z6}(f:qY σ e n a len c cs){b:Nat}(g:blk a b):σ.lo≤b∧b<σ.next:=by
 obtain ⟨o,s,rfl⟩:=g
 rcases f.hat with ⟨e,_⟩|⟨q,_,e,h,d,_⟩
 ·cases e
 ·cases e;exact ⟨h,d⟩
theorem rW2 (t:Tm)(σ:jA):bsD (qq.m 26) (slT prog 26) 1 [(0,tmV t)] σ=some (Rw true 34 1 (qN [t]),σ):=by
 rw[jT0];cases t;kernel_rfl
theorem qY.flt {σ:jA}{e n:Nat}{a:Z8 Addr}{len c:Nat}{cs:List Z6}(h:qY σ e n a len c cs){p:Nat→Zb}(j:∀ b,blk a b→p b=true):qY (bA p σ) e n a len c cs:=by
 refine ⟨h.hlen,h.hone,?_⟩
 rcases h.hat with h0|⟨b,m,d,k,f,i,g⟩
 ·exact .inl h0
 ·exact .inr ⟨b,m,d,k,f,(cF σ (j b ⟨0,none,d⟩)).trans i,g⟩
end
end Go.Proofs.YtklapbhlhjdijaaGreatDoor
namespace Go.Proofs.YtklapbhlhjdijaaGreatDoor
open _root_.Go.Proofs.Tryz (prog)
open Go Go.RowKit Go.Ev Go.Dv
noncomputable section
attribute [local push_cast] eq_self iff_self
set_option maxRecDepth 100000
variable (G:Nat×Nat)
mutual
def kH:Tm→List Tm
 | .mk k a b s e l=>.mk k a b s e l :: (if k=12 then actH l else if k=11∨k=7 then kV l else [])
def kV:List Tm→List Tm
 | []=>[]
 | x :: l=>kH x++kV l
def actH:List Tm→List Tm
 | []=>[]
 | x :: _=>kH x
end
theorem gT0:∀ (a b:List Tm),kV (a++b)=kV a++kV b
 | [],b=>rfl
 | x :: a,b=>by rw[List.cons_append,kV,kV,gT0 a b,List.append_assoc]
theorem dC0 (l:List Tm):actH l=kV (l.take 1):=by
 cases l with
 | nil=>rfl
 | cons x l=>rw[actH,List.take_succ_cons,List.take_zero,kV,kV,List.append_nil]
theorem oP0 {l:List Tm}{i:Nat}{x:Tm}(h:l[i]?=some x):kV (l.take (i+1))=kV (l.take i)++kH x:=by
 rw[jY h,gT0,kV,kV,List.append_nil]
structure Yp (lid:Nat)(Y:List Tm→(Nat→Prop)→jA→Prop)(N:List Tm→Prop):Prop where
 lt:∀ {acc B σ},Y acc B σ→∀ k,B k→k<σ.next
 lo:∀ {acc B σ},Y acc B σ→σ.lo=1∧1≤σ.next∧lid<σ.next
 st:∀ {acc B σ σ'},Y acc B σ→jC σ σ' (λk=>¬ B k)→Y acc B σ'
 y:∀ {acc B σ},Y acc B σ→∀ x,smT x=true→N (acc++[x])→jE (pp G) H0 (.func (.yield lid) ⟨[]⟩ ⟨[]⟩) [tmV x] σ (λ_ v σ'=>v=.bool true∧∃ B',Y (acc++[x]) B' σ'∧(∀ k,B' k→B k∨σ.next≤k)∧jC σ σ' B)
 n:∀ {a b},N (a++b)→N a
def jR1 (Y:List Tm→(Nat→Prop)→jA→Prop)(h:List Tm)(B:Nat→Prop)(σ:jA)(v:Z6)(σ':jA):Prop:=v=.bool true∧∃ a,Y h a σ'∧(∀ k,a k→B k∨σ.next≤k)∧jC σ σ' B
inductive I63 (lid:Nat)(Y:List Tm→(Nat→Prop)→jA→Prop)(acc:List Tm)(B:Nat→Prop)(σ:jA)(l:List Tm):Nat→S→Prop
 | mk (i:Nat) (iv:Int) (h:jA) (B':Nat→Prop) {x0 x2 x3 x4 x5 x6 x7 x8 x9 xA xB xC xD xE xF xG xH xI xJ xK xL xM xN xO xP xT xU xV xW xX xY xZ yA:Z6} (hiv:iv=(i:Int)) (hi:i≤l.length) (hY:Y (acc++kV (l.take i)) B' h) (hB:∀ k,B' k→B k∨σ.next≤k) (g:jC σ h B) :
  I63 lid Y acc B σ l (l.length-i) ⟨(F37 x0 (.func (.yield lid) ⟨[]⟩ ⟨[]⟩) x2 x3 x4 x5 x6 x7 x8 x9 xA xB xC xD xE xF xG xH xI xJ xK xL xM xN xO xP (Rw false etm l.length (qN l)) (.int .i64 l.length) (.int .i64 iv) xT xU xV xW xX xY xZ yA),[],h⟩
theorem tI0 {lid:Nat}{Y:List Tm→(Nat→Prop)→jA→Prop}{N:List Tm→Prop}(T:Yp G lid Y N)(l:List Tm)(hll:l.length<100000000000)(hsl:dI l=true)
  (ih:∀ x∈l,∀ (a:List Tm) (B:Nat→Prop) (σ:jA),Y a B σ→N (a++kH x)→jH (pp G) H0 124 [tmV x,.func (.yield lid) ⟨[]⟩ ⟨[]⟩] σ (jR1 Y (a++kH x) B σ))
  (a:List Tm) (B:Nat→Prop) (σ:jA) (hY:Y a B σ) (hN:N (a++kV l)) {R:Z6→jA→Prop} (hR:∀ v σ',jR1 Y (a++kV l) B σ v σ'→R v σ') {x0 x2 x3 x4 x6 x7 x8 x9 xA xB Z I P p xG xH xI z J H L A M y V xR xS xT s D xW xX xY X yA:Z6} :
  dc3 (pp G) qq none iR0 ⟨(F37 x0 (.func (.yield lid) ⟨[]⟩ ⟨[]⟩) x2 x3 x4 (Rw false etm l.length (qN l)) x6 x7 x8 x9 xA xB Z I P p xG xH xI z J H L A M y V xR xS xT s D xW xX xY X yA),[],σ⟩ (@kR ⟨jR prog [.tmp 4] R⟩):=by
 rw[rH0]
 refine S0 ?_
 refine WD.loop4 (q:=qq) (jV G) Z7 (I63 lid Y a B σ l) ?_ _ _ (I63.mk 0 0 _ B rfl (Nat.zero_le _) (by rw[List.take_zero,kV,List.append_nil];exact hY) (λk f=>.inl f) (jC.refl _ _))
 intro m s1 hI
 cases hI with|mk i iv h B' C hi c w g=>
 subst C
 rw[rG0]
 obtain ⟨u,hl2,hl3⟩:=T.lo c
 by_cases d:(i:Int)<l.length
 ·obtain ⟨x,o⟩:=jT (l:=l) (i:=i) Z0
  have r:=List.mem_of_getElem? o
  have hp:=kS o
  have E:i*9+9≤l.length*9:=Z0
  refine S5 d @Z4 hp E u ?_
  obtain ⟨j,e⟩:∃ j,j=(h.add (O [.int .i64 0,.int .i64 0,.int .i64 0,.string (Tx []),.int .i64 0,.int .i64 0,.string (Tx []),.slice none 0 0,.slice none 0 0] 34 false)).put h.next (O (tmC x) 34 false):=⟨_,rfl⟩
  have t:jC h j (λ_=>False):=by rw[e];exact (by (repeat (first|exact Gr.refl _|assumption|(refine jC.put' ?_ _ _ (by first|omega|(simp only[push_cast];omega)))|(refine jC.add' ?_ _))))
  have hY1:=T.st c (t.mono λ_ _ h=>h.elim)
  rw[← e]
  have hN2:N ((a++kV (l.take i))++kH x):=by
   have b:kV l=kV (l.take (i+1))++kV (l.drop (i+1)):=by rw[← gT0,List.take_append_drop]
   rw[b,← List.append_assoc] at hN
   have:=T.n hN
   rw[oP0 o,← List.append_assoc] at this
   exact this
  refine jE.func (cap:=[]) (args:=[_,_]) (ih x r _ B' j hY1 hN2) ?_
  rintro _ σ2 ⟨rfl,B2,K,F,g2⟩
  refine S1 @Bool.not_true ?_
  have hn0:=t.next
  refine ⟨_,Z0,I63.mk (i+1) _ _ B2 Z2 Z0 (by rw[oP0 o,← List.append_assoc];exact K) (λk f=>?_) ?_⟩
  ·have hng:=g.next
   rcases F k f with b|b
   ·exact w k b
   ·exact .inr Z0
  ·exact (g.tr' t fun _ _ h => h.elim).tr' g2 fun k f hb => by
    rcases w k hb with b|b
    ·exact b
    ·omega
 ·have hie:i=l.length:=Z0
  subst hie
  rw[List.take_length] at c
  refine S1 d ?_
  rw[rF0]
  refine S0 ?_
  exact hR _ _ ⟨rfl,B',c,w,g⟩
theorem mS2 {lid:Nat}{Y:List Tm→(Nat→Prop)→jA→Prop}{N:List Tm→Prop}(i:Yp G lid Y N):∀ (x:Tm),smT x=true→∀ (c:List Tm) (B:Nat→Prop) (σ:jA),Y c B σ→N (c++kH x)→
   jH (pp G) H0 124 [tmV x,.func (.yield lid) ⟨[]⟩ ⟨[]⟩] σ (jR1 Y (c++kH x) B σ)
 | .mk k a b s e l,hs,c,B,σ,hY,hN=>by
  have M:=hs
  simp only[smT,Z5,decide_eq_true_eq] at hs
  obtain ⟨⟨w,hse⟩,p⟩:=hs
  have R:∀ x∈l,∀ (c:List Tm) (B:Nat→Prop) (σ:jA),Y c B σ→N (c++kH x)→jH (pp G) H0 124 [tmV x,.func (.yield lid) ⟨[]⟩ ⟨[]⟩] σ (jR1 Y (c++kH x) B σ):=λx u=>mS2 i x (qQ p x u)
  obtain ⟨J,hl2,hl3⟩:=i.lo hY
  refine jH.fir4 (q:=qq) (jV G) fB3 Z7 rfl rfl (wS2 ..) (by first|exact Nat.le_trans (show NGG≤1 by decide) Z0) ?_;rw[kY2]
  have Z:jC σ (σ.add (O (tmC (.mk k a b s e l)) 34 false)) (λ_=>False):=by (repeat (first|exact Gr.refl _|assumption|(refine jC.put' ?_ _ _ (by first|omega|(simp only[push_cast];omega)))|(refine jC.add' ?_ _)))
  have T:=i.st hY (Z.mono λ_ _ h=>h.elim)
  have E:N (c++[.mk k a b s e l]):=by
   rw[kH,← List.singleton_append,← List.append_assoc] at hN
   exact i.n hN
  refine S1 J ?_
  refine jE.mono (i.y T _ M E) ?_
  rintro _ _ r ⟨rfl,B2,f,t,F⟩
  have L:¬ B σ.next:=λX=>by have:=i.lt hY _ X;omega
  have z:cells r σ.next=some (tmC (.mk k a b s e l),34,false):=F.cellsE (by push_cast(disch:=first|omega|(apply id;push_cast;try omega))) (by push_cast(disch:=first|omega|(apply id;push_cast;try omega));omega) L
  have I:=F.next
  rw[jB] at I
  have d:r.lo=1:=(i.lo f).1
  have m:∀ (P:List Tm),kH (.mk k a b s e l)=.mk k a b s e l :: kV P→∀ v σ',jR1 Y ((c++[.mk k a b s e l])++kV P) B2 r v σ'→jR1 Y (c++kH (.mk k a b s e l)) B σ v σ':=by
   rintro P j v σ' ⟨rfl,B3,H,K,g3⟩
   refine ⟨rfl,B3,by rw[j,← List.singleton_append,← List.append_assoc];exact H,λA D=>?_,(Z.mono λ_ _ h=>h.elim).trans (F.tr' g3 λA D X=>?_) λ_ _ h=>h⟩
   ·rcases K A D with o|o
    ·rcases t A o with g|g
     ·exact .inl g
     ·rw[jB] at g;exact .inr Z0
    ·exact .inr Z0
   ·rcases t A X with g|g
    ·exact g
    ·omega
  have e0:(qN l).take ((l.take 1).length*9)=qN (l.take 1):=by rw[kQ0];congr 1;cases l<;>rfl
  rw[uX] at z
  by_cases o:k=12
  ·subst o
   have j:kH (.mk 12 a b s e l)=.mk 12 a b s e l :: kV (l.take 1):=by rw[kH,if_pos rfl,dC0]
   have hm:min 1 (l.length:Int)=((l.take 1).length:Int):=by rw[List.length_take];omega
   rw[j,← List.singleton_append,← List.append_assoc] at hN
   refine S7 z d @mP1 hm @Z4 @e0 @Bool.not_true ?_
   exact tI0 G i (l.take 1) (by rw[List.length_take];omega) (fN0 λx u=>qQ p x (List.mem_of_mem_take u)) (λx u=>R x (List.mem_of_mem_take u)) _ _ _ f hN (m _ j)
  ·by_cases g:k=11∨k=7
   ·have j:kH (.mk k a b s e l)=.mk k a b s e l :: kV l:=by rw[kH,if_neg o,if_pos g]
    rw[j,← List.singleton_append,← List.append_assoc] at hN
    by_cases C:k=11
    ·refine S5 z d o C @Bool.not_true ?_
     exact tI0 G i l w p R _ _ _ f hN (m l j)
    ·have V:k=7:=Z0
     refine S6 z d o C V @Bool.not_true ?_
     exact tI0 G i l w p R _ _ _ f hN (m l j)
   ·have j:kH (.mk k a b s e l)=.mk k a b s e l :: kV []:=by rw[kH,if_neg o,if_neg g];rfl
    have C:¬ k=11:=λh=>g (.inl h)
    have V:¬ k=7:=λh=>g (.inr h)
    refine S6 z d o C V @Bool.not_true ?_
    exact m [] j _ _ ⟨rfl,B2,by rw[kV,List.append_nil];exact f,λk D=>.inl D,jC.refl _ _⟩
 termination_by x=>SizeOf.sizeOf x
theorem dL2 (x:Tm)(σ:jA)(h:1≤σ.lo):jH (pp G) H0 93 [tmV x] σ (λv σ'=>v=.func (.func 123) ⟨[]⟩ ⟨[.pointer (some ⟨σ.next,0,none⟩)]⟩∧σ'=σ.add (O (tmC x) 34 false)):=by
 refine jH.fir4 (q:=qq) (jV G) fir93 Z7 rfl rfl (oZ0 ..) (by first|exact Nat.le_trans (show NGG≤1 by decide) Z0) ?_;rw[oX2]
 push_cast(disch:=first|omega|(apply id;push_cast;try omega))
 try exact ⟨rfl,rfl⟩
theorem uE2 {lid:Nat}{Y:List Tm→(Nat→Prop)→jA→Prop}{N:List Tm→Prop}(e:Yp G lid Y N)(x:Tm)(l:smT x=true)(b:Nat)(B:Nat→Prop)(σ:jA)(o:cells σ b=some (tmC x,34,false))(k:1≤b)(d:Y [] B σ)(i:N (kH x)) :
  jH (pp G) H0 123 [.func (.yield lid) ⟨[]⟩ ⟨[]⟩,.pointer (some ⟨b,0,none⟩)] σ (λ_ σ'=>jR1 Y (kH x) B σ (.bool true) σ'):=by
 obtain ⟨c,n,g⟩:=e.lo d
 refine jH.fir4 (q:=qq) (jV G) fC3 Z7 rfl rfl (wQ2 ..) (by first|exact Nat.le_trans (show NGG≤1 by decide) Z0) ?_;rw[kZ2]
 refine S2 o c ?_
 refine jE.func (cap:=[]) (args:=[_,_]) (mS2 G e x l [] B σ d i) ?_
 rintro _ m ⟨rfl,j,a,h,f⟩
 refine S0 ?_
 exact ⟨rfl,j,a,h,f⟩
def wS (h:List Tm):List Int:=(h.filter λx=>decide (x.k=14)).map Tm.a
def uW (x:Tm):List Int:=wS (kH x)
theorem nL2 (c:List Tm)(x:Tm):wS (c++[x])=wS c++(if x.k=14 then [x.a] else []):=by
 unfold wS
 rw[List.filter_append,List.map_append]
 congr 1
 by_cases h:x.k=14<;>simp[h]
theorem mB0 (h:List Tm):(wS h).length≤h.length:=by
 unfold wS
 rw[List.length_map]
 exact List.length_filter_le _ _
def tmW (t:Tm):VT:=F17 (tmV t) (.pointer (some ⟨1,0,none⟩)) (.slice none 0 0) (.pointer (some ⟨2,0,none⟩)) ud (tmV t) (.func (.func 123) ⟨[]⟩ ⟨[.pointer (some ⟨3,0,none⟩)]⟩) ud ud ud ud ud ud ud ud ud ud
def lpW (t:Tm):Loop:={ state:=.ready,pending:=none,fn:=0,tmps:=(tmW t).arr,params:=#[7],assign:=dH prog 48 0,body:=dH prog 48 1,defers:=4 }
structure Yw (t:Tm)(acc:List Tm)(B:Nat→Prop)(σ:jA):Prop where
 lo:σ.lo=1
 nx:6≤σ.next
 lp:σ.get 5=some ⟨.loop (lpW t),false⟩
 w:∃ q c,cells σ 2=some ([.slice q (wS acc).length c],25,false)∧qY σ eI 1 q (wS acc).length c (ivs (wS acc))∧(∀ k,blk q k→6≤k∧k<σ.next)∧B=λk=>k=5∨k=2∨blk q k
theorem setW (t x:Tm):gI (tmW t) ((#[7]:Array Nat).toList.zip [tmV x])=F17 (tmV t) (.pointer (some ⟨1,0,none⟩)) (.slice none 0 0) (.pointer (some ⟨2,0,none⟩)) ud (tmV t) (.func (.func 123) ⟨[]⟩ ⟨[.pointer (some ⟨3,0,none⟩)]⟩) (tmV x) ud ud ud ud ud ud ud ud ud:=Z7
theorem qL1 (x:Int)(σ:jA):bsD (qq.m 25) (slT prog 25) 1 [(0,.int .i64 x)] σ=some (Rw true eI 1 (ivs [x]),σ):=Z7
theorem yw (t:Tm):Yp G 5 (Yw t) (λd=>d.length<1000000000000) where
 lt:=λ{d B σ} hY k f=>by
  obtain ⟨P,hn,p,q,c,h1,Z,u,rfl⟩:=hY
  rcases f with rfl|rfl|f
  ·omega
  ·omega
  ·exact (u k f).2
 lo:=λ{d B σ} hY=>⟨hY.lo,by have:=hY.nx;omega,by have:=hY.nx;omega⟩
 n:=λ{a b} h=>by rw[List.length_append] at h;omega
 st:=λ{d B σ σ'} hY g=>by
  obtain ⟨P,hn,p,q,c,h1,Z,u,rfl⟩:=hY
  have hgn:=g.next
  refine ⟨g.lo.trans P,Z0,(g.get _ Z0 (λh=>h (.inl rfl))).trans p,q,c,g.cellsE h1 Z0 (λh=>h (.inr (.inl rfl))),Z.grew g (λb hb h=>h (.inr (.inr hb))),λk f=>⟨(u k f).1,by have:=(u k f).2;omega⟩,rfl⟩
 y:=λ{d B σ} hY x hsx hN=>by
  obtain ⟨P,hn,p,q,c,h1,Z,u,rfl⟩:=hY
  rw[List.length_append,List.length_singleton] at hN
  have hwl:=mB0 d
  refine jE.yield (q:=qq) (T:=tmW t) (jV G) (qR p Z0) Z0 rfl (by show 17<U;unfold U;omega) rfl cU2 cT2 (show dB NGG oK1=true by kernel_rfl) (show dB NGG oJ1=true by kernel_rfl) (by rw[P];exact (show NGG≤1 by decide)) ?_
  rw[show (lpW t).params=#[7] from rfl,setW,lC1]
  refine S0 ?_
  obtain ⟨s,r⟩:∃ s,s=(σ.add (O [.int .i64 0,.int .i64 0,.int .i64 0,.string (Tx []),.int .i64 0,.int .i64 0,.string (Tx []),.slice none 0 0,.slice none 0 0] 34 false)).put σ.next (O (tmC x) 34 false):=⟨_,rfl⟩
  have J:jC σ s (λ_=>False):=by rw[r];exact (by (repeat (first|exact Gr.refl _|assumption|(refine jC.put' ?_ _ _ (by first|omega|(simp only[push_cast];omega)))|(refine jC.add' ?_ _))))
  have c0:cells s σ.next=some (tmC x,34,false):=by rw[r];push_cast(disch:=first|omega|(apply id;push_cast;try omega))
  rw[← r]
  have hn0:σ.next+1≤s.next:=by rw[r];push_cast(disch:=first|omega|(apply id;push_cast;try omega));omega
  have hl0:s.lo=1:=by rw[J.lo,P]
  have k1:=J.cellsE h1 Z0 id
  have k2:=Z.grew J (λ_ _ h=>h)
  have klp:=(J.get _ Z0 id).trans p
  clear r
  simp only[kR,hi,yO0]
  rw[qR klp Z0]
  refine ⟨rfl,?_⟩
  rw[show (jN s 5 { lpW t with state:=.busy })=s.put 5 ⟨.loop { lpW t with state:=.busy },false⟩ from rfl]
  obtain ⟨i,j⟩:∃ i,i=s.put 5 ⟨.loop { lpW t with state:=.busy },false⟩:=⟨_,rfl⟩
  rw[← j]
  have C:jC s i (λk=>k=5):=by rw[j];exact jC.put _ _ _ λ_=>rfl
  have b0:=C.cellsE c0 Z0 Z0
  have Y:=C.cellsE k1 Z0 Z0
  have b2:=k2.grew C (λk f e=>by have:=u k f;omega)
  have N:i.get 5=some ⟨.loop { lpW t with state:=.busy },false⟩:=by rw[j];exact uV _ _
  have w:i.lo=1:=by rw[C.lo,hl0]
  have hn2:=C.next
  have gg:jC σ i (λk=>k=5∨k=2∨blk q k):=(J.mono λ_ _ h=>h.elim).tr' C λk _ h=>.inl h
  clear j C J
  rw[lB1]
  obtain ⟨I,A,K,xs,L,M⟩:=x
  rw[uX] at b0
  have l:=nL2 d (.mk I A K xs L M)
  have X : ∀ (D : S) (F : Z8 Addr) (H : Nat), D.h.get 5 = some ⟨.loop { lpW t with state := .busy }, false⟩ → D.h.lo = 1 → cells D.h 2 = some ([.slice F (wS (d ++ [.mk I A K xs L M])).length H], 25, false) → qY D.h eI 1 F (wS (d ++ [.mk I A K xs L M])).length H (ivs (wS (d ++ [.mk I A K xs L M]))) →
    (∀ k,blk F k→blk q k∨i.next≤k)→jC i D.h (λk=>k=2∨blk q k)→
    cZ 5 (λ(_:Zb) v σ'=>v=.bool true∧∃ B',Yw t (d++[.mk I A K xs L M]) B' σ'∧(∀ k,B' k→(k=5∨k=2∨blk q k)∨σ.next≤k)∧jC σ σ' (λk=>k=5∨k=2∨blk q k)) .normal D:=by
   rintro ⟨tm,df,o⟩ F H f1 f2 f3 f4 f5 f6
   simp only[cZ]
   rw[qR f1 Z0]
   have f7:i.next≤o.next:=f6.next
   have R:∀ k,blk F k→6≤k∧k<o.next:=λk f=>⟨by rcases f5 k f with h|h;exact (u k h).1;omega,(qY.lt f4 f).2⟩
   have E:jC o (jN o 5 (lpW t)) (λk=>k=5):=jC.put _ _ _ λ_=>rfl
   refine ⟨rfl,λk=>k=5∨k=2∨blk F k,⟨f2,(by show 6≤o.next;omega),uV _ _,F,H,E.cellsE f3 (by show _<o.next;omega) Z0,f4.grew E (λk f e=>by have:=R k f;omega),R,rfl⟩,λk f=>?_,(gg.tr' f6 λk f h=>.inr h).tr' E λk f h=>.inl h⟩
   ·rcases f with rfl|rfl|f
    ·exact .inl (.inl rfl)
    ·exact .inl (.inr (.inl rfl))
    ·rcases f5 k f with h|h
     ·exact .inl (.inr (.inr h))
     ·exact .inr Z0
  by_cases f:I=14
  ·subst f
   obtain ⟨a',H,σ',e,o',g',b'⟩:=cM (by_:=8) b2 Z0 Z0 (m:=1) (xs:=ivs [A]) rfl rfl Z0
   have hn':=g'.next
   have r1:=g'.cellsE Y Z0 (λh=>by have:=u _ h;omega)
   have rl:=(g'.get _ Z0 (λh=>by have:=u _ h;omega)).trans N
   have V:σ'.lo=1:=by rw[g'.lo,w]
   rw[if_pos (by rfl)] at l
   have z:(wS (d++[.mk 14 A K xs L M])).length=(wS d).length+1:=by rw[l];exact List.length_append
   push_cast(disch:=first|omega|(apply id;push_cast;try omega))[b0,Y,w,↓qL1,e,r1,V]
   have E:jC σ' (σ'.put 2 (O [.slice a' ((wS d).length+1) H] 25 false)) (λk=>k=2):=jC.put _ _ _ λ_=>rfl
   have hb':∀ k,blk a' k→¬ k=2:=λk f=>by
    rcases b' k f with h|h
    ·have:=u k h;omega
    ·omega
   refine X _ a' H ((E.get _ Z0 Z0).trans rl) (by push_cast(disch:=first|omega|(apply id;push_cast;try omega))[V]) (by rw[z];push_cast(disch:=first|omega|(apply id;push_cast;try omega))) ?_ b' ((g'.mono (T:=λk=>k=2∨blk q k) λ_ _ h=>.inr h).tr' E λ_ _ h=>.inl h)
   rw[z,l]
   show qY _ _ _ _ _ _ (ivs (wS d++[A]))
   rw[yG0]
   exact o'.grew E hb'
  ·rw[if_neg (by exact f),List.append_nil] at l
   refine S4 b0 Y f w ?_
   exact X _ q c N w (by rw[l];exact Y) (by rw[l];exact b2) (λk h=>.inl h) (jC.refl _ _)
theorem iJ0 {l:Nat}{s:S}{mk:List Nat}{R:jK→S→Prop}{v:Z6}{h:jA}{r:Loop}(f:qS h l=some r)(i:r.state=.ready)(e:r.pending=none)(d:R .normal ⟨s.tm,mk++s.df,jN h l { r with state:=.exhausted }⟩):qR0 l s mk R v h:=by
 have g:uS0 l ⟨s.tm,mk++s.df,h⟩=some (.normal,⟨s.tm,mk++s.df,jN h l { r with state:=.exhausted }⟩):=by
  unfold uS0
  rw[f]
  obtain ⟨m,k,fn,j,ps',a,c,b⟩:=r
  cases i
  cases e
  rfl
 unfold qR0
 rw[g]
 exact d
theorem fF1 (t:Tm)(H:smT t=true)(A:(kH t).length<1000000000000):jF (pp G) H0 48 [tmV t] (ivV (uW t)):=by
 refine cE G fir48 Z7 (dM0 ..) λC=>?_;rw[pZ2]
 refine S0 ?_
 refine jE.func (cap:=[]) (args:=[_]) (dL2 G t _ (by push_cast(disch:=first|omega|(apply id;push_cast;try omega)))) ?_
 rintro _ _ ⟨rfl,rfl⟩
 refine S0 ?_
 obtain ⟨σ,a⟩:∃ σ,σ=((H0.add (O (tmC t) 34 false)).add (O [.slice none 0 0] 25 false)).add (O (tmC t) 34 false):=⟨_,rfl⟩
 have i:σ.next=4:=by rw[a];push_cast(disch:=first|omega|(apply id;push_cast;try omega))
 have x:σ.lo=1:=by rw[a];push_cast(disch:=first|omega|(apply id;push_cast;try omega))
 have B:cells σ 2=some ([.slice none 0 0],25,false):=by rw[a];push_cast(disch:=first|omega|(apply id;push_cast;try omega))
 have E:cells σ 3=some (tmC t,34,false):=by rw[a];push_cast(disch:=first|omega|(apply id;push_cast;try omega))
 have L:jC H0 σ (λ_=>False):=by rw[a];exact (by (repeat (first|exact Gr.refl _|assumption|(refine jC.put' ?_ _ _ (by first|omega|(simp only[push_cast];omega)))|(refine jC.add' ?_ _))))
 rw[← a]
 clear a
 refine WD.range (q:=qq) (jV G) (f:=123) (captured:=[.pointer (some ⟨3,0,none⟩)]) rfl rfl ?_
 show jH _ _ _ (.func (.yield (σ.next+1)) _ _ :: _) ((σ.add _).add ⟨.loop { state:=.ready,pending:=none,fn:=0,tmps:=_,params:=_,assign:=_,body:=_,defers:=σ.next },false⟩) (qR0 (σ.next+1) _ [σ.next] _)
 rw[i]
 have n:jC σ ((σ.add ⟨.deferred (some []),false⟩).add ⟨.loop (lpW t),false⟩) (λ_=>False):=(jC.add _ _ _).trans (jC.add _ _ _) λ_ _ h=>h
 have p:Yw t [] (λk=>k=5∨k=2∨blk none k) ((σ.add ⟨.deferred (some []),false⟩).add ⟨.loop (lpW t),false⟩):=by
  refine ⟨by push_cast(disch:=first|omega|(apply id;push_cast;try omega))[x],by push_cast(disch:=first|omega|(apply id;push_cast;try omega))[i],kM _ _ (by rw[jB,i]),none,0,n.cellsE B Z0 id,qY.nil _ _ _,λk d=>?_,rfl⟩
  obtain ⟨o,s,e⟩:=d
  cases e
 refine (uE2 G (yw G t) t H 3 _ _ (n.cellsE E Z0 id) Z1 p A).mono ?_
 rintro v b ⟨-,B2,hY2,hB2,g2⟩
 obtain ⟨u,D,j,q,c,F,z,l,rfl⟩:=hY2
 have m:b.get 4=some ⟨.deferred (some []),false⟩:=by
  refine (g2.get _ (by rw[jB,jB];omega) ?_).trans ?_
  ·rintro (h|h|⟨o,s,e⟩)
   ·omega
   ·omega
   ·cases e
  ·rw[qF _ _ (by rw[jB];omega),kM _ _ i.symm]
 have g:jC b (jN b 5 { lpW t with state:=.exhausted }) (λk=>k=5):=jC.put _ _ _ λ_=>rfl
 refine iJ0 (qR j Z0) rfl rfl ?_
 generalize jN b 5 { lpW t with state:=.exhausted }=τ at g
 have I:=g.cellsE F Z0 Z0
 have J:=z.grew g (λk d e=>by have:=l k d;omega)
 have w:=(g.get _ Z0 Z0).trans m
 have y:τ.lo=1:=by rw[g.lo,u]
 have K:=mB0 (kH t)
 refine S0 ?_
 rw[yP1]
 refine S2 I y ?_
 rw[uR0 w Z0,show gQ [] (τ.put 4 ⟨.deferred none,false⟩)=some (τ.put 4 ⟨.deferred none,false⟩) from rfl]
 refine S0 ?_
 have r:jC τ (τ.put 4 ⟨.deferred none,false⟩) (λk=>k=4):=jC.put _ _ _ λ_=>rfl
 have:=qY.fz (P:=(pp G).P) (N:=1) (J.grew r (λk d e=>by have:=l k d;omega)) (by rfl) Z1 Z0 (.ids (qS0 _ _)) (λk d=>by have:=l k d;omega)
 exact this
structure St where
 k:Int
 p:List Int
 a:Int
def stC (s:St):List Z6:=[.int .i64 s.k,Rw false eI s.p.length (ivs s.p),.int .i64 s.a]
def stCs:List St→List Z6
 | []=>[]
 | x :: l=>stC x++stCs l
def stsV (l:List St):Z6:=Rw false 62 l.length (stCs l)
def spC (t b:Tm)(a:Z8 Addr)(n c:Nat):List Z6:=tmC t++(tmC b++[.slice a n c])
def spV (t b:Tm)(a:Z8 Addr)(n c:Nat):Z6:=.agg ⟨spC t b a n c⟩
theorem iA1 (t b:Tm)(a:Z8 Addr)(n c:Nat):(spV t b a n c).cells.toList=spC t b a n c:=rfl
theorem oK2 (t b:Tm)(a:Z8 Addr)(n c:Nat):(spC t b a n c).all one=true:=by cases t;cases b;rfl
theorem pO0 (t b:Tm)(a:Z8 Addr)(n c:Nat):(spC t b a n c).length=19:=by cases t;cases b;rfl
theorem spC_w (t b:Tm)(a:Z8 Addr)(n c:Nat):(spC t b a n c).take 19=spC t b a n c:=List.take_of_length_le (by rw[pO0];exact Z3 _)
theorem spC_t (t b:Tm)(a:Z8 Addr)(n c:Nat):(spC t b a n c).take 9=tmC t:=by cases t;rfl
theorem spC_b (t b:Tm)(a:Z8 Addr)(n c:Nat):((spC t b a n c).drop 9).take 9=tmC b:=by cases t;cases b;rfl
theorem spC_p (t b:Tm)(a:Z8 Addr)(n c:Nat):(spC t b a n c)[18]?=some (.slice a n c):=by cases t;cases b;rfl
theorem spC_0 (t b:Tm)(a:Z8 Addr)(n c:Nat):(spC t b a n c)[0]?=some (.int .i64 t.k):=by cases t;rfl
theorem spC_8 (t b:Tm)(a:Z8 Addr)(n c:Nat):(spC t b a n c)[8]?=some (Rw false etm t.l.length (qN t.l)):=by cases t;rfl
attribute [push_cast] iA1 oK2 pO0 spC_w spC_t spC_b spC_p spC_0 spC_8
def PwR (σ:jA)(q:Z8 Addr)(m c:Nat)(p:List Int):Prop:=(q=none∧m=0∧c=0∧p=[])∨∃ b,q=some ⟨b,0,none⟩∧σ.lo≤b∧b<σ.next∧σ.get b=some (O (ivs p) eI true)∧c=UC∧m=p.length
theorem PwR.grew {σ σ':jA}{S:Nat→Prop}{q:Z8 Addr}{m c:Nat}{p:List Int}(h:PwR σ q m c p)(g:jC σ σ' S)(e:∀ b,blk q b→¬ S b):PwR σ' q m c p:=by
 rcases h with h|⟨b,rfl,i,a,f,d⟩
 ·exact .inl h
 ·exact .inr ⟨b,rfl,by rw[g.lo];exact i,Nat.lt_of_lt_of_le a g.next,(g.get b a (e b ⟨0,none,rfl⟩)).trans f,d⟩
theorem PwR.fz {P:Z9}{σ:jA}{q:Z8 Addr}{m c:Nat}{p:List Int}(h:PwR σ q m c p)(a:szT P eI=some 1)(g:p.length<100000000000000){N:Nat}(e:∀ b,blk q b→N≤b):FzV P N σ (.slice q m c) (Rw false eI p.length (ivs p)):=by
 rcases h with ⟨rfl,rfl,rfl,rfl⟩|⟨b,rfl,i,f,d,rfl,rfl⟩
 ·exact .nil a Z1
 ·refine .sl (full:=ivs p) (m:=true) (e b ⟨0,none,rfl⟩) (by unfold Ev.cells;rw[d];rfl) a Z1 (by rw[bD];omega) (.inr ⟨rfl,Z3 _,by simp,by unfold U;omega⟩) ?_
  rw[List.drop_zero,List.take_of_length_le (by rw[bD];omega)]
  exact .ids (qS0 _ _)
theorem fZ1 {σ:jA}{e b n c:Nat}{cs:List Z6}(f:dT σ e (some ⟨b,0,none⟩) n c cs)(d:cs.all one=true):srcD 1 (.slice (some ⟨b,0,none⟩) n c) σ=some (n,cs):=by
 rcases f.hat with ⟨h,_⟩|⟨b',h,j,q,g,rfl,p⟩
 ·cases h
 ·cases h
  obtain ⟨m,rfl⟩:∃ m,n=m+1:=⟨n-1,Z0⟩
  have i:cells σ b=some (cs,e,true):=by unfold Ev.cells;rw[g];rfl
  have l:takeN cs 0 ((m+1)*1)=some cs:=mF0 cs (by rw[f.hlen];omega)
  have o:Nat.ble σ.lo b=true:=by simpa using j
  have a:uZ 1 (m+1) (.slice (some ⟨b,0,none⟩) (m+1) UC) σ=some cs:=by
   unfold uZ
   dsimp only
   rw[i]
   dsimp only
   rw[l]
   dsimp only
   rw[o]
  show (match lenV (.slice (some ⟨b,0,none⟩) (m+1) UC) with
   | some k=>match uZ 1 k (.slice (some ⟨b,0,none⟩) (m+1) UC) σ with | some xs=>if xs.length=k*1∧xs.all one=true then some (k,xs) else none | none=>none
   | none=>none)=_
  show (match uZ 1 (m+1) (.slice (some ⟨b,0,none⟩) (m+1) UC) σ with|some xs=>if xs.length=(m+1)*1∧xs.all one=true then some (m+1,xs) else none|none=>none)=_
  rw[a]
  dsimp only
  rw[if_pos ⟨by rw[f.hlen];omega,d⟩]
theorem row0I (σ:jA):bsD (qq.m 25) (slT prog 25) 0 [] σ=some (.slice (some ⟨σ.next,0,none⟩) 0 0,σ.add (O [] eI false)):=Z7
theorem wE3 {σ:jA}{a:Z8 Addr}{n c:Nat}{p:List Int}(i:dT σ eI a n c (ivs p))(w:σ.lo=1)(u:1≤σ.next)(z:p.length<1000000000000) :
  jH (pp G) H0 117 [.slice a n c] σ (λv σ'=>∃ q m k,v=.slice q m k∧PwR σ' q m k p∧jC σ σ' (λ_=>False)∧∀ b,blk q b→σ.next≤b):=by
 refine jH.fir4 (q:=qq) (jV G) fI3 Z7 rfl rfl (zO1 ..) (by first|exact Nat.le_trans (show NGG≤1 by decide) Z0) ?_;rw[yF2]
 have r:p.length=n:=by rw[← i.hlen,bD]
 rcases i.hat with ⟨rfl,rfl,rfl⟩|⟨b,rfl,A,y,x,rfl,t⟩
 ·have:p=[]:=List.length_eq_zero_iff.1 r
  subst this
  refine S0 ?_
  exact ⟨none,0,0,rfl,.inl ⟨rfl,rfl,rfl,rfl⟩,jC.refl _ _,λb j=>by obtain ⟨o,s,e⟩:=j;cases e⟩
 ·have l:jC σ (σ.add (O [] eI false)) (λ_=>False):=jC.add _ _ _
  have g:=i.grew l (λ_ _ h=>h)
  have f:=fZ1 g (yF0 p)
  subst r
  have d:=dJ2 (σ:=σ.add (O [] eI false)) (e:=eI) (k:=1) (by_:=8) (b:=σ.next) (n:=0) (m:=p.length) (cs:=[]) (xs:=ivs p) (qM _ _ _ _ rfl) (by rw[jM];omega) rfl (yF0 _) t Z0
  push_cast(disch:=first|omega|(apply id;push_cast;try omega))[↓row0I,f,d]
  refine ⟨_,_,_,rfl,.inr ⟨_,rfl,by simp only[jM];omega,by simp only[jB];omega,kM _ _ (by simp only[jB]),rfl,Z0⟩,l.trans (jC.add _ _ _) λ_ _ h=>h,λb j=>?_⟩
  obtain ⟨o,s,e⟩:=j
  cases e
  omega
theorem fV1 {σ:jA}{a:Z8 Addr}{n c:Nat}{p:List Int}(t b:Tm)(o:Int)(F:dT σ eI a n c (ivs p))(x:σ.lo=1)(J:1≤σ.next)(H:p.length<1000000000000) :
  jH (pp G) H0 83 [spV t b a n c,.int .i64 o] σ (λv σ'=>∃ q m k,v=.agg ⟨[.int .i64 t.k,.slice q m k,.int .i64 o]⟩∧PwR σ' q m k p∧jC σ σ' (λ_=>False)∧∀ b,blk q b→σ.next≤b):=by
 refine jH.fir4 (q:=qq) (jV G) fir83 Z7 rfl rfl (lV0 ..) (by first|exact Nat.le_trans (show NGG≤1 by decide) Z0) ?_;rw[pG2]
 refine S1 x ?_
 obtain ⟨f,d⟩:∃ f,f=(σ.add (O (spC t b a n c) 141 false)).add (O [.int .i64 0,.slice none 0 0,.int .i64 0] 62 false):=⟨_,rfl⟩
 have s:jC σ f (λ_=>False):=by rw[d];exact (by (repeat (first|exact Gr.refl _|assumption|(refine jC.put' ?_ _ _ (by first|omega|(simp only[push_cast];omega)))|(refine jC.add' ?_ _))))
 have A:cells f σ.next=some (spC t b a n c,141,false):=by rw[d];push_cast(disch:=first|omega|(apply id;push_cast;try omega))
 have z:cells f (σ.next+1)=some ([.int .i64 0,.slice none 0 0,.int .i64 0],62,false):=by rw[d];push_cast(disch:=first|omega|(apply id;push_cast;try omega))
 have E:f.next=σ.next+2:=by rw[d];push_cast(disch:=first|omega|(apply id;push_cast;try omega))
 have g:f.lo=1:=by rw[s.lo,x]
 have u:=F.grew s (λ_ _ h=>h)
 rw[← d]
 clear d
 refine jE.func (cap:=[]) (args:=[_]) (wE3 G u g Z0 H) ?_
 rintro _ l ⟨q,m,k,rfl,C,r,B⟩
 have D:=r.next
 have I:=r.cellsE A Z0 id
 have K:=r.cellsE z Z0 id
 have w:l.lo=1:=by rw[r.lo,g]
 refine S6 I K w A z g ?_
 have y:jC l (l.put (σ.next+1) (O [.int .i64 t.k,.slice q m k,.int .i64 o] 62 false)) (λk=>k=σ.next+1):=jC.put _ _ _ λ_=>rfl
 exact ⟨q,m,k,rfl,C.grew y (λb' i e=>by have:=B b' i;omega),(s.trans r λ_ _ h=>h).tr' y (λj L e=>by omega),λb' i=>by have:=B b' i;omega⟩
structure Sp where
 t:Tm
 b:Tm
 p:List Int
mutual
def spT:Tm→Tm→List Int→List Sp
 | .mk k a b s e l,u,p=>⟨.mk k a b s e l,u,p⟩ :: (if k=12 then spH l u p else if k=7 then spL l (.mk k a b s e l) p 0 else if k=11 then spL l u p 0 else [])
def spL:List Tm→Tm→List Int→Nat→List Sp
 | [],_,_,_=>[]
 | x :: l,u,p,i=>spT x u (p++[(i:Int)])++spL l u p (i+1)
def spH:List Tm→Tm→List Int→List Sp
 | [],_,_=>[]
 | x :: _,u,p=>spT x u (p++[((0:Nat):Int)])
end
theorem pN0:∀ (a b:List Tm) (u:Tm) (p:List Int) (j:Nat),spL (a++b) u p j=spL a u p j++spL b u p (j+a.length)
 | [],b,u,p,j=>rfl
 | x :: a,b,u,p,j=>by rw[List.cons_append,spL,spL,pN0 a b,List.append_assoc,List.length_cons,Nat.add_assoc j 1,Nat.add_comm 1]
theorem zX2 (l:List Tm)(u:Tm)(p:List Int):spH l u p=spL (l.take 1) u p 0:=by
 cases l with
 | nil=>rfl
 | cons x l=>rw[spH,List.take_succ_cons,List.take_zero,spL,spL,List.append_nil]
theorem qE1 {l:List Tm}{i:Nat}{x:Tm}(h:l[i]?=some x)(u:Tm)(p:List Int):spL (l.take (i+1)) u p 0=spL (l.take i) u p 0++spT x u (p++[(i:Int)]):=by
 have hi:(l.take i).length=i:=by rw[List.length_take];have:=(List.getElem?_eq_some_iff.1 h).1;omega
 rw[jY h,pN0,spL,spL,List.append_nil,hi,Nat.zero_add]
theorem uG2:∀ {l:List Tm} {x:Tm},x∈l→(kH x).length≤(kV l).length
 | y :: l,x,h=>by
  rw[kV,List.length_append]
  rcases List.mem_cons.1 h with rfl|h
  ·omega
  ·have:=uG2 h;omega
structure Ys (lid:Nat)(Y:List Sp→(Nat→Prop)→jA→Prop)(N:List Sp→Prop):Prop where
 lt:∀ {acc B σ},Y acc B σ→∀ k,B k→k<σ.next
 lo:∀ {acc B σ},Y acc B σ→σ.lo=1∧1≤σ.next∧lid<σ.next
 st:∀ {acc B σ σ'},Y acc B σ→jC σ σ' (λk=>¬ B k)→Y acc B σ'
 y:∀ {acc B σ},Y acc B σ→∀ (t b:Tm) (p:List Int) (a:Z8 Addr) (n c:Nat),smT t=true→smT b=true→dT σ eI a n c (ivs p)→(∀ k,blk a k→¬ B k)→p.length<1000000000000→(kH b).length<1000000000000→N (acc++[⟨t,b,p⟩])→
  jE (pp G) H0 (.func (.yield lid) ⟨[]⟩ ⟨[]⟩) [spV t b a n c] σ (λ_ v σ'=>v=.bool true∧∃ B',Y (acc++[⟨t,b,p⟩]) B' σ'∧(∀ k,B' k→B k∨σ.next≤k)∧jC σ σ' B)
 n:∀ {a b},N (a++b)→N a
def eW1 (Y:List Sp→(Nat→Prop)→jA→Prop)(h:List Sp)(B:Nat→Prop)(σ:jA)(v:Z6)(σ':jA):Prop:=v=.bool true∧∃ a,Y h a σ'∧(∀ k,a k→B k∨σ.next≤k)∧jC σ σ' B
def lC2 (lid:Nat)(Y:List Sp→(Nat→Prop)→jA→Prop)(N:List Sp→Prop)(x:Tm):Prop:=
 ∀ (u:Tm) (p:List Int) (h:List Sp) (B:Nat→Prop) (σ:jA) (a:Z8 Addr) (n c:Nat),smT u=true→(kH u).length<1000000000000→p.length+(kH x).length<1000000000000→dT σ eI a n c (ivs p)→(∀ k,blk a k→¬ B k)→Y h B σ→N (h++spT x u p)→
  jH (pp G) H0 116 [spV x u a n c,.func (.yield lid) ⟨[]⟩ ⟨[]⟩] σ (eW1 Y (h++spT x u p) B σ)
theorem rS1 {lid:Nat}{Y:List Sp→(Nat→Prop)→jA→Prop}{N:List Sp→Prop}(z:Ys G lid Y N){x:Tm}(P:lC2 G lid Y N x)(u:Tm)(p:List Int)(i:Int)(m:List Sp)(B:Nat→Prop)(h:jA){a:Z8 Addr}{n c:Nat}
  (hu:smT u=true) (X:(kH u).length<1000000000000) (K:p.length+1+(kH x).length<1000000000000) (J:dT h eI a n c (ivs p)) (Z:∀ k,blk a k→¬ B k) (F:Y m B h) (hN:N (m++spT x u (p++[i]))) :
  jH (pp G) H0 116 [spV x u (some ⟨h.next,0,none⟩) (n+1) UC,.func (.yield lid) ⟨[]⟩ ⟨[]⟩] (kA0 h eI a (ivs p) [.int .i64 i]) (eW1 Y (m++spT x u (p++[i])) B h):=by
 obtain ⟨hl1,hl2,hl3⟩:=z.lo F
 have A:=eO0 J [.int .i64 i]
 have hnx:=yE0 h eI a (ivs p) [.int .i64 i]
 have V:dT (kA0 h eI a (ivs p) [.int .i64 i]) eI (some ⟨h.next,0,none⟩) (n+1) UC (ivs (p++[i])):=by
  rw[yG0]
  exact gZ1 J Z0 _
 have R:=z.st F (A.mono λk _ d=>Z k d)
 have M:∀ k,blk (some (⟨h.next,0,none⟩:Addr)) k→¬ B k:=λk d f=>by
  obtain ⟨o,s,e⟩:=d
  cases e
  have:=z.lt F _ f
  omega
 have t:¬ B h.next:=λf=>by have:=z.lt F _ f;omega
 refine jH.back (P u (p++[i]) m B _ _ _ _ hu X (by rw[List.length_append];exact K) V M R hN) ?_
 rintro _ σ' ⟨rfl,I,C,g,g'⟩
 rcases J.hat with ⟨rfl,rfl,rfl⟩|⟨b,rfl,h1,h2,h3,rfl,h5⟩
 ·left
  refine ⟨rfl,I,C,λk d=>?_,⟨by have:=g'.next;omega,by rw[g'.lo,A.lo],λj H f=>(g'.get j Z0 f).trans (A.get j H (λd=>by obtain ⟨o,s,e⟩:=d;cases e))⟩⟩
  rcases g k d with q|q
  ·exact .inl q
  ·right;omega
 ·right
  have D:¬ B b:=Z b ⟨0,none,rfl⟩
  have hgn:=g'.next
  have e1:σ'.get b=some (qO h.next eI (ivs p)):=by
   rw[g'.get b Z0 D]
   have:=jN0 (h:=h) (b:=b) (x':=O (ivs p++[.int .i64 i]) eI true) (y:=qO h.next eI (ivs p)) b
   rw[if_pos rfl] at this
   exact this
  have e2:σ'.get h.next=some (O (ivs p++[.int .i64 i]) eI true):=by
   rw[g'.get h.next Z0 t]
   have:=jN0 (h:=h) (b:=b) (x':=O (ivs p++[.int .i64 i]) eI true) (y:=qO h.next eI (ivs p)) h.next
   rw[if_neg Z0,if_pos rfl] at this
   exact this
  have w:σ'.lo=h.lo:=by rw[g'.lo,A.lo]
  have v:∀ l:List Int,qB (ivs l)=true:=λl=>by
   induction l with
   | nil=>rfl
   | cons x l P=>exact P
  refine ⟨b,h.next,eI,ivs p,[.int .i64 i],(0,0),Z0,Z0,Z0,Z0,e1,e2,yF0 _,?_,v _,rfl,I,z.st C ⟨Z3 _,rfl,λj H f=>?_⟩,λk d=>?_,⟨by show h.next≤σ'.next;omega,w,λj H f=>?_⟩⟩
  ·have:ivs p++[.int .i64 i]=ivs (p++[i]):=(yG0 p [i]).symm
   rw[this]
   exact v _
  ·have E:I j:=Classical.not_not.1 f
   have T:j≠b:=λe=>by
    subst e
    rcases g j E with q|q
    ·exact D q
    ·omega
   have L:j≠h.next:=λe=>by
    subst e
    rcases g _ E with q|q
    ·exact t q
    ·omega
   rw[qC _ _ _ T,qC _ _ _ L]
  ·rcases g k d with q|q
   ·exact .inl q
   ·right;omega
  ·by_cases r:j=b
   ·subst r
    rw[uV,h3]
   ·rw[qC _ _ _ r,qC _ _ _ Z0,g'.get j Z0 f]
    exact A.get j H λd=>by obtain ⟨o,s,e⟩:=d;cases e;exact r rfl
theorem spB2 (t b:Tm)(a:Z8 Addr)(n c:Nat):bdV (plc prog 141) [(0,tmV t),(1,tmV b),(2,.slice a n c)]=some (spV t b a n c):=by cases t;cases b;kernel_rfl
theorem spC_f (t u:Tm)(a:Z8 Addr)(n c:Nat):tmC t++tmC t++List.drop 18 (spC t u a n c)=spC t t a n c:=by cases t;cases u;rfl
inductive J77 (lid:Nat)(Y:List Sp→(Nat→Prop)→jA→Prop)(acc:List Sp)(B:Nat→Prop)(σ:jA)(sb:Nat)(u:Tm)(p:List Int)(l:List Tm):Nat→S→Prop
 | mk (i:Nat) (iv:Int) (h:jA) (B':Nat→Prop) {x0 x3 x4 x5 x6 x7 x8 x9 xA xB xC xD xE xF xG xH xI xJ xK xL xM xN xO xP xQ xR xS xT xU xV xZ yA yB yC yD yE yF yG yH yI yJ yK yL yM yN yO yP:Z6} (hiv:iv=(i:Int)) (hi:i≤l.length) (hY:Y (acc++spL (l.take i) u p 0) B' h) (hB:∀ k,B' k→B k∨σ.next≤k) (g:jC σ h B) :
  J77 lid Y acc B σ sb u p l (l.length-i) ⟨(F52 x0 (.func (.yield lid) ⟨[]⟩ ⟨[]⟩) (.pointer (some ⟨sb,0,none⟩)) x3 x4 x5 x6 x7 x8 x9 xA xB xC xD xE xF xG xH xI xJ xK xL xM xN xO xP xQ xR xS xT xU xV (Rw false etm l.length (qN l)) (.int .i64 l.length) (.int .i64 iv) xZ yA yB yC yD yE yF yG yH yI yJ yK yL yM yN yO yP),[],h⟩
theorem lH0 {lid:Nat}{Y:List Sp→(Nat→Prop)→jA→Prop}{N:List Sp→Prop}(X:Ys G lid Y N)(t u:Tm)(p:List Int)(l:List Tm)(hll:l.length<100000000000)(hsl:dI l=true)(hu:smT u=true)(hau:(kH u).length<1000000000000)(hpl:p.length+1+(kV l).length<1000000000000)
  (ih:∀ x∈l,lC2 G lid Y N x) (f:List Sp) (B:Nat→Prop) (σ:jA) {a:Z8 Addr} {n c:Nat} (J:dT σ eI a n c (ivs p)) (V:∀ k,blk a k→¬ B k) {y:Nat} (j:cells σ y=some (spC t u a n c,141,false)) (M:y<σ.next) (hsl0:1≤y) (K:¬ B y)
  (hY:Y f B σ) (hN:N (f++spL l u p 0)) {R:Z6→jA→Prop} (hR:∀ v σ',eW1 Y (f++spL l u p 0) B σ v σ'→R v σ') {x0 x3 x4 x6 x7 x8 x9 xA xB xC xD xE xF xG xH xI xJ xK xL xM xN xO xP xQ xR xS xT xU xV xW xX xY xZ yA yB yC yD yE yF yG yH yI yJ yK yL yM yN yO yP:Z6} :
  dc3 (pp G) qq none iU0 ⟨(F52 x0 (.func (.yield lid) ⟨[]⟩ ⟨[]⟩) (.pointer (some ⟨y,0,none⟩)) x3 x4 (Rw false etm l.length (qN l)) x6 x7 x8 x9 xA xB xC xD xE xF xG xH xI xJ xK xL xM xN xO xP xQ xR xS xT xU xV xW xX xY xZ yA yB yC yD yE yF yG yH yI yJ yK yL yM yN yO yP),[],σ⟩ (@kR ⟨jR prog [.tmp 4] R⟩):=by
 have hsa:¬ blk a y:=λe=>by
  obtain ⟨o,s,rfl⟩:=e
  rcases J.hat with ⟨h,_⟩|⟨b,h,z,h2,h3,_⟩
  ·cases h
  ·cases h
   unfold Ev.cells at j
   rw[h3] at j
   have:=congrArg (λx=>x.2.2) (Option.some.inj j)
   cases this
 rw[rP0]
 refine S0 ?_
 refine WD.loop4 (q:=qq) (jV G) Z7 (J77 lid Y f B σ y u p l) ?_ _ _ (J77.mk 0 0 _ B rfl (Nat.zero_le _) (by rw[List.take_zero,spL,List.append_nil];exact hY) (λk e=>.inl e) (jC.refl _ _))
 intro m s1 hI
 cases hI with|mk i iv h B' hiv hi w T g=>
 subst hiv
 rw[rO0]
 obtain ⟨I,hl2,hl3⟩:=X.lo w
 by_cases E:(i:Int)<l.length
 ·obtain ⟨x,Z⟩:=jT (l:=l) (i:=i) Z0
  have F:=List.mem_of_getElem? Z
  have hp:=kS Z
  have hle:i*9+9≤l.length*9:=Z0
  have hgn:=g.next
  obtain ⟨d,r⟩:∃ d,d=(h.add (O [.int .i64 0,.int .i64 0,.int .i64 0,.string (Tx []),.int .i64 0,.int .i64 0,.string (Tx []),.slice none 0 0,.slice none 0 0] 34 false)).put h.next (O (tmC x) 34 false):=⟨_,rfl⟩
  have H:jC h d (λ_=>False):=by rw[r];exact (by (repeat (first|exact Gr.refl _|assumption|(refine jC.put' ?_ _ _ (by first|omega|(simp only[push_cast];omega)))|(refine jC.add' ?_ _))))
  have hn0:h.next+1=d.next:=by rw[r];push_cast(disch:=first|omega|(apply id;push_cast;try omega))
  have c1:cells d h.next=some (tmC x,34,false):=by rw[r];push_cast(disch:=first|omega|(apply id;push_cast;try omega))
  have hY1:=X.st w (H.mono λ_ _ h=>h.elim)
  have L:cells d y=_:=H.cellsE (g.cellsE j M K) Z0 id
  have D:=(J.grew g V).grew H (λ_ _ h=>h)
  have hb1:∀ k,blk a k→¬ B' k:=λk e hk'=>by
   rcases T k hk' with q|q
   ·exact V k e q
   ·obtain ⟨o,s,rfl⟩:=e
    rcases J.hat with ⟨h,_⟩|⟨b,h,_,h2,_⟩
    ·cases h
    ·cases h;omega
  have hpn:p.length=n:=by rw[← J.hlen,bD]
  have A:apS eI 1 8 (.slice a n c) (some (1,ivs [(i:Int)])) d=some (.slice (some ⟨d.next,0,none⟩) (n+1) UC,kA0 d eI a (ivs p) [.int .i64 i]):=gI2 (by_:=8) D (x:=.int .i64 i) rfl Z0
  have P:d.lo=1:=by rw[H.lo,I]
  have gl:=eO0 D [.int .i64 i]
  have hab:∀ k,blk a k→k<σ.next:=λk e=>by
   obtain ⟨o,s,rfl⟩:=e
   rcases J.hat with ⟨h,_⟩|⟨b,h,_,h2,_⟩
   ·cases h
   ·cases h;exact h2
  have d1:cells (kA0 d eI a (ivs p) [.int .i64 i]) h.next=_:=gl.cellsE c1 Z0 (λe=>by have:=hab _ e;omega)
  have d0:cells (kA0 d eI a (ivs p) [.int .i64 i]) y=_:=gl.cellsE L Z0 hsa
  have C:(kA0 d eI a (ivs p) [.int .i64 i]).lo=1:=by rw[iI0,P]
  obtain ⟨ρ,hρ⟩:∃ ρ,ρ=kA0 d eI a (ivs p) [.int .i64 i]:=⟨_,rfl⟩
  rw[← hρ] at A d0 d1 C
  have csh:=g.cellsE j M K
  push_cast(disch:=first|omega|(apply id;push_cast;try omega))[E,Z4,hp,hle,I,csh,↓qL1]
  rw[← r]
  push_cast(disch:=first|omega|(apply id;push_cast;try omega))[P,L,c1,↓qL1,A,d0,d1,C,↓spB2]
  subst hρ
  have hN2:N ((f++spL (l.take i) u p 0)++spT x u (p++[(i:Int)])):=by
   have z:spL l u p 0=spL (l.take (i+1)) u p 0++spL (l.drop (i+1)) u p (0+(l.take (i+1)).length):=by rw[← pN0,List.take_append_drop]
   rw[z,← List.append_assoc] at hN
   have:=X.n hN
   rw[qE1 Z,← List.append_assoc] at this
   exact this
  have hax:=uG2 F
  refine jE.func (cap:=[]) (args:=[_,_]) (rS1 G X (ih x F) u p i _ B' d hu hau Z0 D hb1 hY1 hN2) ?_
  rintro _ σ2 ⟨rfl,B2,hY2,hB2,g2⟩
  refine S1 @Bool.not_true ?_
  have hn2:=g2.next
  refine ⟨_,Z0,J77.mk (i+1) _ _ B2 Z2 Z0 (by rw[qE1 Z,← List.append_assoc];exact hY2) (λk e=>?_) ?_⟩
  ·rcases hB2 k e with z|z
   ·exact T k z
   ·exact .inr Z0
  ·exact (g.tr' H fun _ _ h => h.elim).tr' g2 fun k e V => by
    rcases T k V with z|z
    ·exact z
    ·omega
 ·have hie:i=l.length:=Z0
  subst hie
  rw[List.take_length] at w
  refine S1 E ?_
  rw[rN0]
  refine S0 ?_
  exact hR _ _ ⟨rfl,B',w,T,g⟩
theorem rR1 {lid:Nat}{Y:List Sp→(Nat→Prop)→jA→Prop}{N:List Sp→Prop}(t:Ys G lid Y N):∀ (x:Tm),smT x=true→lC2 G lid Y N x
 | .mk k a b s e l,hs=>by
  intro u p J B σ q n c hu M hpx ho I hY F
  have hs0:=hs
  simp only[smT,Z5,decide_eq_true_eq] at hs
  obtain ⟨⟨V,hse⟩,A⟩:=hs
  have ih:∀ x∈l,lC2 G lid Y N x:=λx hx=>rR1 t x (qQ A x hx)
  obtain ⟨hl1,hl2,hl3⟩:=t.lo hY
  have X:∀ k,blk q k→k<σ.next:=λk w=>by
   obtain ⟨o,s,rfl⟩:=w
   rcases ho.hat with ⟨h,_⟩|⟨b,h,_,f,_⟩
   ·cases h
   ·cases h;exact f
  have D:(kH (.mk k a b s e l)).length=1+(if k=12 then actH l else if k=11∨k=7 then kV l else []).length:=by rw[kH,List.length_cons];omega
  refine jH.fir4 (q:=qq) (jV G) fJ3 Z7 rfl rfl (zD3 ..) (by first|exact Nat.le_trans (show NGG≤1 by decide) Z0) ?_;rw[yG2]
  have g0:jC σ (σ.add (O (spC (.mk k a b s e l) u q n c) 141 false)) (λ_=>False):=jC.add _ _ _
  have hY1:=t.st hY (g0.mono λ_ _ h=>h.elim)
  have hN1:N (J++[⟨.mk k a b s e l,u,p⟩]):=by
   rw[spT,← List.singleton_append,← List.append_assoc] at F
   exact t.n F
  refine S1 hl1 ?_
  refine jE.mono (t.y hY1 (.mk k a b s e l) u p q n c hs0 hu (ho.grew g0 (λ_ _ h=>h)) I Z0 M hN1) ?_
  rintro _ _ j ⟨rfl,B2,r,C,g2⟩
  have hnB:¬ B σ.next:=λI=>by have:=t.lt hY _ I;omega
  have T:cells j σ.next=some (spC (.mk k a b s e l) u q n c,141,false):=g2.cellsE (qM _ _ _ _ rfl) (by rw[jB];omega) hnB
  have hn2:=g2.next
  rw[jB] at hn2
  have g:j.lo=1:=(t.lo r).1
  have H:=(ho.grew g0 (λ_ _ h=>h)).grew g2 I
  have i:¬ B2 σ.next:=λh=>by
   rcases C _ h with d|d
   ·exact hnB d
   ·rw[jB] at d;omega
  have z:∀ k,blk q k→¬ B2 k:=λk w h=>by
   rcases C _ h with d|d
   ·exact I k w d
   ·rw[jB] at d;have:=X k w;omega
  have E:∀ (K:jA) (L:List Sp),jC j K (λk=>k=σ.next)→spT (.mk k a b s e l) u p=⟨.mk k a b s e l,u,p⟩ :: L→∀ v σ',eW1 Y ((J++[⟨.mk k a b s e l,u,p⟩])++L) B2 K v σ'→eW1 Y (J++spT (.mk k a b s e l) u p) B σ v σ':=by
   rintro K L R m v σ' ⟨rfl,B3,hY3,hB3,g3⟩
   have hn3:=R.next
   refine ⟨rfl,B3,by rw[m,← List.singleton_append,← List.append_assoc];exact hY3,λk' w=>?_,(((g0.mono λ_ _ h=>h.elim).trans g2 λ_ _ h=>h).tr' R (λk' hk' e=>by omega)).tr' g3 λk' w I=>?_⟩
   ·rcases hB3 k' w with d|d
    ·rcases C k' d with f|f
     ·exact .inl f
     ·rw[jB] at f;exact .inr Z0
    ·exact .inr Z0
   ·rcases C k' I with f|f
    ·exact f
    ·rw[jB] at f;omega
  have e0:(qN l).take ((l.take 1).length*9)=qN (l.take 1):=by rw[kQ0];congr 1;cases l<;>rfl
  by_cases d:k=12
  ·subst d
   have m:spT (.mk 12 a b s e l) u p=⟨.mk 12 a b s e l,u,p⟩ :: spL (l.take 1) u p 0:=by rw[spT,if_pos rfl,zX2]
   have hm:min 1 (l.length:Int)=((l.take 1).length:Int):=by rw[List.length_take];omega
   rw[if_pos rfl,dC0] at D
   rw[m,← List.singleton_append,← List.append_assoc] at F
   push_cast(disch:=first|omega|(apply id;push_cast;try omega))[T,g,mP1,hm,Z4,e0,Bool.not_true,Tm.k_mk,Tm.l_mk]
   exact lH0 G t _ u p (l.take 1) (by rw[List.length_take];omega) (fN0 λx hx=>qQ A x (List.mem_of_mem_take hx)) hu M Z0 (λx hx=>ih x (List.mem_of_mem_take hx)) _ _ _ H z T Z0 Z0 i r F (E _ _ (jC.refl _ _) m)
  rw[if_neg d] at D
  by_cases f:k=7
  ·subst f
   have m:spT (.mk 7 a b s e l) u p=⟨.mk 7 a b s e l,u,p⟩ :: spL l (.mk 7 a b s e l) p 0:=by rw[spT,if_neg Z1,if_pos rfl]
   rw[if_pos (.inr rfl)] at D
   rw[m,← List.singleton_append,← List.append_assoc] at F
   have R:jC j (j.put σ.next (O (spC (.mk 7 a b s e l) (.mk 7 a b s e l) q n c) 141 false)) (λk=>k=σ.next):=jC.put _ _ _ λ_=>rfl
   generalize Z:Tm.mk 7 a b s e l=t0 at *
   have hk0:t0.k=7:=by rw[← Z];rfl
   have hl0:t0.l=l:=by rw[← Z];rfl
   have P:tmC t0++tmC t0++List.drop 18 (spC t0 u q n c)=spC t0 t0 q n c:=spC_f t0 u q n c
   refine S5 T g @Bool.not_true hk0 hl0 ?_
   rw[P]
   exact lH0 G t t0 t0 p l V A hs0 Z0 Z0 ih _ _ _ (H.grew R (λk w e=>by have:=X k w;omega)) z (by push_cast(disch:=first|omega|(apply id;push_cast;try omega))) (by show _<j.next;omega) Z0 i (t.st r (R.mono λk _ e=>by rw[e];exact i)) F (E _ _ R m)
  ·by_cases h3:k=11
   ·have m:spT (.mk k a b s e l) u p=⟨.mk k a b s e l,u,p⟩ :: spL l u p 0:=by rw[spT,if_neg d,if_neg f,if_pos h3]
    rw[if_pos (.inl h3)] at D
    rw[m,← List.singleton_append,← List.append_assoc] at F
    refine S8 T g d f h3 @Bool.not_true @Tm.k_mk @Tm.l_mk ?_
    exact lH0 G t _ u p l V A hu M Z0 ih _ _ _ H z T Z0 Z0 i r F (E _ _ (jC.refl _ _) m)
   ·have m:spT (.mk k a b s e l) u p=⟨.mk k a b s e l,u,p⟩ :: []:=by rw[spT,if_neg d,if_neg f,if_neg h3]
    refine S8 T g d f h3 @Bool.not_true @Tm.k_mk @Tm.l_mk ?_
    exact E _ [] (jC.refl _ _) m _ _ ⟨rfl,B2,by rw[List.append_nil];exact r,λk w=>.inl w,jC.refl _ _⟩
 termination_by x=>SizeOf.sizeOf x
end
end Go.Proofs.YtklapbhlhjdijaaGreatDoor
namespace Go.Proofs.YtklapbhlhjdijaaGreatDoor
open _root_.Go.Proofs.Tryz (prog)
open Go Go.RowKit Go.Ev Go.Dv
noncomputable section
attribute [local push_cast] eq_self iff_self
set_option maxRecDepth 100000
theorem u_a3:prog.underlying 171=some (.array 3 3):=Z7
theorem dO3:prog.eqGuardType prog.depth 171=false:=Z7
theorem sD2 (P:Z9):pv P program=some P:=rfl
theorem gN3 (a b c:Int):pv prog (part 3 ⟨[.int .i64 a,.int .i64 b,.int .i64 c]⟩ (0*1))=some (.int .i64 a)∧pv prog (part 3 ⟨[.int .i64 a,.int .i64 b,.int .i64 c]⟩ (1*1))=some (.int .i64 b)∧pv prog (part 3 ⟨[.int .i64 a,.int .i64 b,.int .i64 c]⟩ (2*1))=some (.int .i64 c):=⟨Z7,Z7,Z7⟩
theorem szA:pv prog (sizeOf 3)=some 1:=Z7
theorem eqI (d:Nat)(a b:Int):pv prog (Op.equalIn (d+1) 3 (.int .i64 a) (.int .i64 b))=some (a == b):=Z7
theorem sE2 {h:Type}(P:Z9)(c:Prop)[Decidable c](x y:Sem h):pv P (if c then x else y)=if c then pv P x else pv P y:=by split<;>rfl
theorem gE3 (d:Nat)(a b c h b' e:Int):pv prog (Op.equalIn (d+2) 171 (.agg ⟨[.int .i64 a,.int .i64 b,.int .i64 c]⟩) (.agg ⟨[.int .i64 h,.int .i64 b',.int .i64 e]⟩))=some (a == h&&b == b'&&c == e):=by
 rw[Op.equalIn]
 simp only[dM,qJ0 u_a3,Option.bind_some,szA]
 simp only[Std.Legacy.Range.forIn_eq_forIn_range',Std.Legacy.Range.size]
 rw[show List.range' 0 ((3-0+1-1) / 1)=[0,1,2] from rfl]
 have g:=gN3 a b c
 have f:=gN3 h b' e
 simp only[List.forIn_cons,List.forIn_nil,dM,sE2,g,f,eqI,Option.bind_some]
 cases k:(a == h)<;>cases i:(b == b')<;>cases j:(c == e)<;>simp[gS,dM,sE2,g,f,eqI,k,i,j]
theorem sF2 (a b c h b' d:Int):pv prog (Op.equal 171 (.agg ⟨[.int .i64 a,.int .i64 b,.int .i64 c]⟩) (.agg ⟨[.int .i64 h,.int .i64 b',.int .i64 d]⟩))=some (a == h&&b == b'&&c == d):=gE3 9998 a b c h b' d
theorem nD2 {x y:Zo}{a b c h b' d:Int}:jW prog .neq 171 x y (.agg ⟨[.int .i64 a,.int .i64 b,.int .i64 c]⟩) (.agg ⟨[.int .i64 h,.int .i64 b',.int .i64 d]⟩)=some (.bool (!decide (a=h∧b=b'∧c=d))):=by
 have f:pv prog (eqGuard .neq 171 x y (.agg ⟨[.int .i64 a,.int .i64 b,.int .i64 c]⟩) (.agg ⟨[.int .i64 h,.int .i64 b',.int .i64 d]⟩))=some ():=by
  simp only[eqGuard,sE2,dM,sD2,Option.bind_some,dO3,Bool.not_true,Bool.not_false,Bool.false_eq_true,if_false,if_true,gS]
 have g:pv prog (binOp .neq 171 (.agg ⟨[.int .i64 a,.int .i64 b,.int .i64 c]⟩) (.agg ⟨[.int .i64 h,.int .i64 b',.int .i64 d]⟩))=some (.bool (!(a == h&&b == b'&&c == d))):=by
  simp only[binOp,lV2,dM,sF2,Option.map_some,Option.bind_some,gS]
 have e:(a == h&&b == b'&&c == d)=decide (a=h∧b=b'∧c=d):=by
  rw[Bool.eq_iff_iff]
  simp[and_assoc]
 rw[← e]
 simp only[jW,pvF,flat,qB,Bool.and_self,dM,f,g,Option.bind_some]
end
end Go.Proofs.YtklapbhlhjdijaaGreatDoor
namespace Go.Proofs.YtklapbhlhjdijaaGreatDoor
open _root_.Go.Proofs.Tryz (prog)
open Go Go.RowKit Go.Ev Go.Dv
noncomputable section
attribute [local push_cast] eq_self iff_self
set_option maxRecDepth 100000
variable (G:Nat×Nat)
def jD:Tm→Tm
 | .mk k a b s e [x,y]=>if k=12 then (if (jD x).k=0 then jD y else .mk k a b s e [jD x,y]) else if k=11 then (if (jD x).k=0∧(jD y).k=0 then zT else .mk k a b s e [jD x,jD y]) else .mk k a b s e [x,y]
 | .mk k a b s e [x]=>if k=7 then (if (jD x).k=0 then zT else .mk k a b s e [jD x]) else .mk k a b s e [x]
 | .mk k a b s e l=>.mk k a b s e l
theorem jV1 (k a b:Int)(s:List Zu)(e:Ex)(l m:List Tm)(h:smE e=true):jF (pp G) H0 78 [tmV (.mk k a b s e l),Rw true etm m.length (qN m)] (tmV (.mk k a b s e m)):=by
 refine cE G eE3 Z7 (jQ1 ..) λc=>?_;rw[iV1]
 refine S0 ?_
 refine dK (qT1 G e h) ?_
 refine S1 @nZ0 ?_
 unfold tmV
 rw[uX]
 exact .agg (.cons (.id rfl) (.cons (.id rfl) (.cons (.id rfl) (.cons (.id rfl) (.cons (.id rfl) (.cons (.id rfl) (.cons (.id rfl) (.cons (.id (cM0 _ Z0 ..)) (.cons (.row (.ids (cV _ Z0 m))) .nil)))))))))
theorem yY2 (t u:Tm)(σ:jA):bsD (qq.m 26) (slT prog 26) 2 [(0,tmV t),(1,tmV u)] σ=some (Rw true 34 2 (qN [t,u]),σ):=by
 cases t;cases u;kernel_rfl
theorem lW0 (P:Z9)(N:Nat)(σ:jA)(a:szT P eE=some 4:=by rfl)(h:szT P etm=some 9:=by rfl):FzV P N σ (.agg ⟨ztm⟩) (tmV zT):=.agg (.cons (.id rfl) (.cons (.id rfl) (.cons (.id rfl) (.cons (.id rfl) (.cons (.id rfl) (.cons (.id rfl) (.cons (.id rfl) (.cons (.nil (size:=4) a Z1) (.cons (.nil (size:=9) h Z1) .nil)))))))))
theorem zH0 (x:Tm):(tmC x)[0]?=some (.int .i64 x.k):=by cases x;rfl
theorem tA2 (a b:Int)(s:List Zu)(e:Ex)(x y:Tm)(h:smE e=true)(f:jF (pp G) H0 39 [tmV x] (tmV (jD x)))(d:jF (pp G) H0 39 [tmV y] (tmV (jD y)))(c:jF (pp G) H0 79 [tmV y] (tmV y)):jF (pp G) H0 39 [tmV (.mk 12 a b s e [x,y])] (tmV (jD (.mk 12 a b s e [x,y]))):=by
 refine cE G nU0 Z7 (wC0 ..) λg=>?_;rw[uF0]
 rw[jD,if_pos rfl]
 refine S0 ?_
 refine dK (f) ?_
 generalize jD x=x'
 by_cases h0:x'.k=0
 ·rw[if_pos h0]
  refine S2 @zH0 @h0 ?_
  refine dK (d) ?_
  refine S0 ?_
  exact .id (uA0 1 Z1 _)
 ·rw[if_neg (by exact h0)]
  refine S2 @zH0 @h0 ?_
  refine dK (c) ?_
  push_cast(disch:=first|omega|(apply id;push_cast;try omega))[↓yY2]
  refine dK (jV1 G 12 a b s e [x,y] [x',y] h) ?_
  refine S0 ?_
  exact .id (uA0 1 Z1 (.mk 12 a b s e [x',y]))
theorem tB2 (a b:Int)(s:List Zu)(e:Ex)(x y:Tm)(d:smE e=true)(g:jF (pp G) H0 39 [tmV x] (tmV (jD x)))(f:jF (pp G) H0 39 [tmV y] (tmV (jD y))):jF (pp G) H0 39 [tmV (.mk 11 a b s e [x,y])] (tmV (jD (.mk 11 a b s e [x,y]))):=by
 refine cE G nU0 Z7 (wC0 ..) λi=>?_;rw[uF0]
 rw[jD,if_neg Z0,if_pos rfl]
 generalize jD x=x' at g ⊢
 generalize jD y=y' at f ⊢
 by_cases h0:x'.k=0
 ·by_cases c:y'.k=0
  ·rw[if_pos ⟨h0,c⟩]
   refine S0 ?_
   all_goals repeat' apply And.intro
   all_goals
    refine dK (g) ?_
    push_cast(disch:=first|omega|(apply id;push_cast;try omega))
   all_goals repeat' apply And.intro
   all_goals
    refine dK (f) ?_
    push_cast(disch:=first|omega|(apply id;push_cast;try omega))
   all_goals repeat' apply And.intro
   all_goals
    rw[wE0]
    push_cast(disch:=first|omega|(apply id;push_cast;try omega))[zH0,h0,c,↓yY2]
   all_goals repeat' apply And.intro
   all_goals exact lW0 prog _ _
  ·rw[if_neg (λh=>c h.2)]
   refine S0 ?_
   all_goals repeat' apply And.intro
   all_goals
    refine dK (g) ?_
    push_cast(disch:=first|omega|(apply id;push_cast;try omega))
   all_goals repeat' apply And.intro
   all_goals
    refine dK (f) ?_
    push_cast(disch:=first|omega|(apply id;push_cast;try omega))
   all_goals repeat' apply And.intro
   all_goals
    rw[wE0]
    push_cast(disch:=first|omega|(apply id;push_cast;try omega))[zH0,h0,c,↓yY2]
   all_goals repeat' apply And.intro
   all_goals
    refine dK (jV1 G 11 a b s e [x,y] [x',y'] d) ?_
    refine S0 ?_
    exact .id (uA0 1 Z1 (.mk 11 a b s e [x',y']))
 ·rw[if_neg (λh=>h0 h.1)]
  refine S0 ?_
  all_goals repeat' apply And.intro
  all_goals
   refine dK (g) ?_
   push_cast(disch:=first|omega|(apply id;push_cast;try omega))
  all_goals repeat' apply And.intro
  all_goals
   refine dK (f) ?_
   push_cast(disch:=first|omega|(apply id;push_cast;try omega))
  all_goals repeat' apply And.intro
  all_goals
   rw[wE0]
   push_cast(disch:=first|omega|(apply id;push_cast;try omega))[zH0,h0,↓yY2]
  all_goals repeat' apply And.intro
  all_goals
   refine dK (jV1 G 11 a b s e [x,y] [x',y'] d) ?_
   refine S0 ?_
   exact .id (uA0 1 Z1 (.mk 11 a b s e [x',y']))
theorem gY3 (a b:Int)(s:List Zu)(e:Ex)(x:Tm)(h:smE e=true)(c:jF (pp G) H0 39 [tmV x] (tmV (jD x))):jF (pp G) H0 39 [tmV (.mk 7 a b s e [x])] (tmV (jD (.mk 7 a b s e [x]))):=by
 refine cE G nU0 Z7 (wC0 ..) λd=>?_;rw[uF0]
 rw[jD,if_pos rfl]
 generalize jD x=x' at c ⊢
 refine S0 ?_
 refine dK (c) ?_
 by_cases h0:x'.k=0
 ·rw[if_pos h0]
  refine S2 @zH0 @h0 ?_
  exact lW0 prog _ _
 ·rw[if_neg h0]
  push_cast(disch:=first|omega|(apply id;push_cast;try omega))[zH0,h0,↓rW2]
  refine dK (jV1 G 7 a b s e [x] [x'] h) ?_
  refine S0 ?_
  exact .id (uA0 1 Z1 (.mk 7 a b s e [x']))
theorem gW3 (k a b:Int)(s:List Zu)(e:Ex)(l:List Tm)(p:l.length<100000000000)(c:jF (pp G) H0 79 [tmV (.mk k a b s e l)] (tmV (.mk k a b s e l)))(i:¬(k=12∧l.length=2))(m:¬(k=11∧l.length=2))(o:¬(k=7∧l.length=1)) :
  jF (pp G) H0 39 [tmV (.mk k a b s e l)] (tmV (jD (.mk k a b s e l))):=by
 have q:jD (.mk k a b s e l)=.mk k a b s e l:=by
  unfold jD
  split
  ·rename_i j;cases j;rw[if_neg (λh=>i ⟨h,rfl⟩),if_neg (λh=>m ⟨h,rfl⟩)]
  ·rename_i j;cases j;rw[if_neg (λh=>o ⟨h,rfl⟩)]
  ·rename_i j;cases j;rfl
 rw[q]
 refine cE G nU0 Z7 (wC0 ..) λr=>?_;rw[uF0]
 by_cases f:k=12
 ·have g:¬ (l.length:Int)=2:=λh=>i ⟨f,Z0⟩
  refine S2 f g ?_
  subst f
  try (rw[jX0];push_cast(disch:=first|omega|(apply id;push_cast;try omega)))
  refine dK (c) ?_
  refine S0 ?_
  exact .id (uA0 1 Z1 (.mk 12 a b s e l))
 by_cases d:k=11
 ·have g:¬ (l.length:Int)=2:=λh=>m ⟨d,Z0⟩
  refine S2 d g ?_
  subst d
  try (rw[jX0];push_cast(disch:=first|omega|(apply id;push_cast;try omega)))
  refine dK (c) ?_
  refine S0 ?_
  exact .id (uA0 1 Z1 (.mk 11 a b s e l))
 by_cases n:k=7
 ·have g:¬ (l.length:Int)=1:=λh=>o ⟨n,Z0⟩
  refine S2 n g ?_
  subst n
  try (rw[jX0];push_cast(disch:=first|omega|(apply id;push_cast;try omega)))
  refine dK (c) ?_
  refine S0 ?_
  exact .id (uA0 1 Z1 (.mk 7 a b s e l))
 refine S3 f d n ?_
 try (rw[jX0];push_cast(disch:=first|omega|(apply id;push_cast;try omega)))
 refine dK (c) ?_
 refine S0 ?_
 exact .id (uA0 1 Z1 (.mk k a b s e l))
theorem nH0:∀ (x:Tm),smT x=true→jF (pp G) H0 39 [tmV x] (tmV (jD x))
 | .mk k a b s e l,hs=>by
  have j:=hs
  simp only[smT,Z5,decide_eq_true_eq] at hs
  obtain ⟨⟨m,h⟩,i⟩:=hs
  have d:∀ x∈l,jF (pp G) H0 39 [tmV x] (tmV (jD x)):=λx o=>nH0 x (qQ i x o)
  by_cases g:k=12∧l.length=2
  ·obtain ⟨rfl,c⟩:=g
   obtain ⟨x,y,rfl⟩:∃ x y,l=[x,y]:=by
    match l,c with
    | [x,y],_=>exact ⟨x,y,rfl⟩
   exact tA2 G a b s e x y h (d x (by simp)) (d y (by simp)) (bX0 G y (qQ i y (by simp)))
  by_cases f:k=11∧l.length=2
  ·obtain ⟨rfl,c⟩:=f
   obtain ⟨x,y,rfl⟩:∃ x y,l=[x,y]:=by
    match l,c with
    | [x,y],_=>exact ⟨x,y,rfl⟩
   exact tB2 G a b s e x y h (d x (by simp)) (d y (by simp))
  by_cases n:k=7∧l.length=1
  ·obtain ⟨rfl,c⟩:=n
   obtain ⟨x,rfl⟩:∃ x,l=[x]:=by
    match l,c with
    | [x],_=>exact ⟨x,rfl⟩
   exact gY3 G a b s e x h (d x (by simp))
  exact gW3 G k a b s e l m (bX0 G _ j) g f n
 termination_by x=>SizeOf.sizeOf x
def stF (x:Sp):List St:=
 if x.t.k=0∨x.t.k=14∨x.t.k=12∨x.t.k=11∨x.t.k=7 then []
 else if x.t.k=8 then (if uW x.b=[] then [⟨8,x.p,0⟩] else [])
 else if x.t.k=10 then [⟨10,x.p,0⟩,⟨10,x.p,1⟩] else [⟨x.t.k,x.p,0⟩]
def stS (l:List Sp):List St:=l.flatMap stF
def enF (t:Tm):List St:=stS (spT (jD t) (jD t) [])
theorem zW2 (l:List Sp)(x:Sp):stS (l++[x])=stS l++stF x:=by simp[stS]
theorem oH2 (x:Sp):(stF x).length≤2:=by
 unfold stF
 split
 ·simp
 split
 ·split<;>simp
 split<;>simp
theorem pK0:∀ l:List Sp,(stS l).length≤2*l.length
 | []=>by simp[stS]
 | x :: l=>by
  have a:=oH2 x
  have h:=pK0 l
  simp only[stS,List.flatMap_cons,List.length_append,List.length_cons] at h ⊢
  omega
inductive bS (σ:jA)(Q:Nat→Prop):List St→List Z6→Prop
 | nil:bS σ Q [] []
 | cons {k a:Int} {p:List Int} {q:Z8 Addr} {m c:Nat} {l:List St} {cs:List Z6} (h:PwR σ q m c p) (hp:p.length<1000000000000) (hq:∀ b,blk q b→Q b) (hs:bS σ Q l cs):bS σ Q (⟨k,p,a⟩ :: l) ([.int .i64 k,.slice q m c,.int .i64 a]++cs)
theorem bS.grew {σ σ':jA}{S Q Q':Nat→Prop}(g:jC σ σ' S)(j:∀ k,Q k→k<σ.next→¬ S k∧Q' k){l:List St}{cs:List Z6}(h:bS σ Q l cs):bS σ' Q' l cs:=by
 induction h with
 | nil=>exact .nil
 | @cons k a p q m c l cs h t i u r=>
  have f:∀ b,blk q b→b<σ.next:=λb d=>by
   rcases h with ⟨rfl,_⟩|⟨b',rfl,_,n,_⟩
   ·obtain ⟨o,s,e⟩:=d;cases e
   ·obtain ⟨o,s,e⟩:=d;cases e;exact n
  exact .cons (h.grew g λb d=>(j b (i b d) (f b d)).1) t (λb d=>(j b (i b d) (f b d)).2) r
theorem bS.app {σ:jA}{Q:Nat→Prop}{l c:List St}{cs a:List Z6}(h:bS σ Q l cs)(b:bS σ Q c a):bS σ Q (l++c) (cs++a):=by
 induction h with
 | nil=>exact b
 | cons h e f g d=>rw[List.cons_append,List.append_assoc];exact .cons h e f d
theorem bS.len {σ:jA}{Q:Nat→Prop}{l:List St}{cs:List Z6}(h:bS σ Q l cs):cs.length=l.length*3:=by
 induction h with
 | nil=>rfl
 | cons h b d c a=>rw[List.length_append,a,List.length_cons];simp;omega
theorem bS.one {σ:jA}{Q:Nat→Prop}{l:List St}{cs:List Z6}(h:bS σ Q l cs):cs.all one=true:=by
 induction h with
 | nil=>rfl
 | cons h b d c a=>rw[List.all_append,a];rfl
theorem bS.fz {P:Z9}{N:Nat}{σ:jA}{Q:Nat→Prop}(a:szT P eI=some 1)(c:∀ b,Q b→N≤b){l:List St}{cs:List Z6}(h:bS σ Q l cs):FzL P N σ cs (stCs l):=by
 induction h with
 | nil=>exact .nil
 | cons h i f e d=>exact .cons (.id rfl) (.cons (h.fz a Z0 λb g=>c b (f b g)) (.cons (.id rfl) d))
def bH (cs:List Z6)(k:Nat):Prop:=∃ n c,Value.slice (some ⟨k,0,none⟩) n c∈cs
theorem jE0 {a b:List Z6}{k:Nat}:bH (a++b) k↔bH a k∨bH b k:=by
 unfold bH
 constructor
 ·rintro ⟨n,c,h⟩
  rcases List.mem_append.1 h with h|h
  ·exact .inl ⟨n,c,h⟩
  ·exact .inr ⟨n,c,h⟩
 ·rintro (⟨n,c,h⟩|⟨n,c,h⟩)
  ·exact ⟨n,c,List.mem_append_left _ h⟩
  ·exact ⟨n,c,List.mem_append_right _ h⟩
theorem kE0 {k a:Int}{q:Z8 Addr}{m c j:Nat}:bH [.int .i64 k,.slice q m c,.int .i64 a] j→blk q j:=by
 rintro ⟨n,b,h⟩
 simp only[List.mem_cons,List.not_mem_nil,or_false] at h
 rcases h with h|h|h
 ·cases h
 ·cases h;exact ⟨0,none,rfl⟩
 ·cases h
theorem bS.ins {σ:jA}{Q:Nat→Prop}{l:List St}{cs:List Z6}(h:bS σ Q l cs){k:Nat}(d:bH cs k):k<σ.next∧Q k:=by
 induction h with
 | nil=>obtain ⟨n,c,h⟩:=d;cases h
 | cons h j f m i=>
  rcases jE0.1 d with a|a
  ·have b:=kE0 a
   refine ⟨?_,f _ b⟩
   rcases h with ⟨rfl,_⟩|⟨b',rfl,_,g,_⟩
   ·obtain ⟨o,s,e⟩:=b;cases e
   ·obtain ⟨o,s,e⟩:=b;cases e;exact g
  ·exact i a
theorem bS.self {σ:jA}{Q:Nat→Prop}{l:List St}{cs:List Z6}(h:bS σ Q l cs):bS σ (λb=>Q b∧bH cs b) l cs:=by
 induction h with
 | nil=>exact .nil
 | @cons k a p q m c l cs h i f j g=>
  refine .cons h i (λb d=>⟨f b d,jE0.2 (.inl ?_)⟩) (g.grew (jC.refl σ (λ_=>False)) λb d _=>⟨id,d.1,jE0.2 (.inr d.2)⟩)
  rcases h with ⟨rfl,_⟩|⟨b',rfl,_⟩
  ·obtain ⟨o,s,e⟩:=d;cases e
  ·obtain ⟨o,s,e⟩:=d;cases e;exact ⟨m,c,by simp⟩
structure L1 (σ:jA)(l:List St)(q:Z8 Addr)(c:Nat)(cs:List Z6):Prop where
 cell:cells σ 2=some ([.slice q l.length c],53,false)
 own:qY σ 62 3 q l.length c cs
 rows:bS σ (λk=>6≤k∧¬ blk q k) l cs
 ids:∀ k,blk q k→6≤k∧k<σ.next
theorem L1.grew {σ σ':jA}{S:Nat→Prop}{l:List St}{q:Z8 Addr}{c:Nat}{cs:List Z6}(h:L1 σ l q c cs)(g:jC σ σ' S)(i:¬ S 2)(e:2<σ.next)(d:∀ k,6≤k→¬ S k):L1 σ' l q c cs:=by
 have:=g.next
 exact ⟨g.cellsE h.cell e i,h.own.grew g λb f=>d b (h.ids b f).1,h.rows.grew g λk a _=>⟨d k a.1,a⟩,λk a=>⟨(h.ids k a).1,by have:=(h.ids k a).2;omega⟩⟩
theorem L1.add {σ:jA}{l m:List St}{q:Z8 Addr}{c:Nat}{cs g:List Z6}(h:L1 σ l q c cs)(i:bS σ (λk=>6≤k∧¬ blk q k) m g)(t:σ.lo=1)(u:6≤σ.next)(v:l.length+m.length<3000000000000) :
  ∃ b d σ',apS 62 3 40 (.slice q l.length c) (some (m.length,g)) σ=some (.slice b (l.length+m.length) d,σ')∧jC σ σ' (blk q)∧cells σ' 2=some ([.slice q l.length c],53,false)∧
   L1 (σ'.put 2 (O [.slice b (l.length+m.length) d] 53 false)) (l++m) b d (cs++g)∧(∀ k,blk b k→blk q k∨σ.next≤k):=by
 obtain ⟨b,d,σ',s,o,g',b'⟩:=cM (by_:=40) h.own Z1 Z0 (m:=m.length) (xs:=g) i.len i.one Z0
 have r:=g'.next
 have f:∀ k,blk b k→6≤k∧k<σ'.next:=λk a=>⟨by rcases b' k a with q1|q1;exact (h.ids k q1).1;omega,(qY.lt o a).2⟩
 have n:jC σ' (σ'.put 2 (O [.slice b (l.length+m.length) d] 53 false)) (λk=>k=2):=jC.put _ _ _ λ_=>rfl
 refine ⟨b,d,σ',s,g',g'.cellsE h.cell Z0 (λa=>by have:=h.ids _ a;omega),⟨?_,?_,?_,λk a=>f k a⟩,b'⟩
 ·rw[List.length_append]
  exact jX _ _ _ _
 ·rw[List.length_append]
  exact o.grew n λk a e=>by have:=f k a;omega
 ·refine ((h.rows.app i).grew g' (Q':=λk=>6≤k∧¬ blk b k) λk a p=>⟨a.2,a.1,λj=>?_⟩).grew n λk a _=>⟨Z0,a⟩
  rcases b' k j with q1|q1
  ·exact a.2 q1
  ·omega
theorem rowS1 (k a:Int)(q:Z8 Addr)(m c:Nat)(σ:jA):bsD (qq.m 53) (slT prog 53) 1 [(0,.agg ⟨[.int .i64 k,.slice q m c,.int .i64 a]⟩)] σ=some (Rw true 62 1 [.int .i64 k,.slice q m c,.int .i64 a],σ):=Z7
theorem rowS2 (k a d b:Int)(q h:Z8 Addr)(m c f e:Nat)(σ:jA):bsD (qq.m 53) (slT prog 53) 2 [(0,.agg ⟨[.int .i64 k,.slice q m c,.int .i64 a]⟩),(1,.agg ⟨[.int .i64 d,.slice h f e,.int .i64 b]⟩)] σ=some (Rw true 62 2 [.int .i64 k,.slice q m c,.int .i64 a,.int .i64 d,.slice h f e,.int .i64 b],σ):=Z7
theorem iJ3 {ro:Z8 Nat}{t b:Tm}{p:List Int}{a:Z8 Addr}{n k:Nat}{l:List St}{q:Z8 Addr}{c:Nat}{cs:List Z6}{σ:jA}(h:L1 σ l q c cs)(g:σ.lo=1)(hn:6≤σ.next)(hl:l.length<1000000000000)
  (ho:dT σ eI a n k (ivs p)) (hp:p.length<1000000000000) {T:jK→S→Prop} {df:List Nat}
  (hT:∀ (tm:VT) (σ':jA) (q':Z8 Addr) (m:Nat) (i:List Z6),L1 σ' (l++[⟨t.k,p,0⟩]) q' m i→jC σ σ' (λk=>k=2∨blk q k)→(∀ k,blk q' k→blk q k∨σ.next≤k)→(∀ k,bH i k→bH cs k∨σ.next≤k)→T .normal ⟨tm,df,σ'⟩) {x0 x1 x2 x5 x6 x7 x8 x9 xA xB M C I r P Z xI y D B E z F x J X R xT u A xW xX xY L V yB K H:Z6} :
  dc3 (pp G) qq ro sR0 ⟨(F40 x0 x1 x2 (.pointer (some ⟨2,0,none⟩)) (Rpt 0 (spC t b a n k)) x5 x6 x7 x8 x9 xA xB M C I r P Z xI y D B E z F x J X R xT u A xW xX xY L V yB K H),df,σ⟩ T:=by
 rw[yU1]
 have hc:=h.cell
 refine S2 hc g ?_
 refine jE.func (cap:=[]) (args:=[_,_]) (fV1 G t b 0 ho g Z0 hp) ?_
 rintro _ j ⟨q1,m1,k1,rfl,v,o,f⟩
 have hn1:=o.next
 have h1:=h.grew o id Z0 (λ_ _ h=>h)
 have d:j.lo=1:=by rw[o.lo,g]
 have hr:bS j (λk=>6≤k∧¬ blk q k) [⟨t.k,p,0⟩] [.int .i64 t.k,.slice q1 m1 k1,.int .i64 0]:=.cons v hp (λb hb=>⟨by have:=f b hb;omega,λw=>by have:=f b hb;have:=h.ids b w;omega⟩) .nil
 obtain ⟨a',m,e,e2,g2,hc2,h2,b2⟩:=h1.add hr d Z0 (by simp;omega)
 have s:=h1.cell
 have N:e.lo=1:=by rw[g2.lo,d]
 simp only[List.length_singleton] at e2
 push_cast(disch:=first|omega|(apply id;push_cast;try omega))[s,d,↓rowS1,e2,hc2,N]
 have gp:jC e (e.put 2 (O [.slice a' (l.length+1) m] 53 false)) (λk=>k=2):=jC.put _ _ _ λ_=>rfl
 refine hT _ _ a' m _ h2 (((o.mono (T:=λk=>k=2∨blk q k) λ_ _ h=>h.elim).tr' g2 λk _ h=>.inr h).tr' gp λk _ h=>.inl h) (λk Y=>?_) λk Y=>?_
 ·rcases b2 k Y with q3|q3
  ·exact .inl q3
  ·exact .inr Z0
 ·rcases jE0.1 Y with q3|q3
  ·exact .inl q3
  ·exact .inr (f k (kE0 q3))
def fnE:Z6:=.func (.func 115) ⟨[]⟩ ⟨[.pointer (some ⟨3,0,none⟩)]⟩
def tmE (t n:Tm):VT:=F40 (tmV t) (.pointer (some ⟨1,0,none⟩)) (.slice none 0 0) (.pointer (some ⟨2,0,none⟩)) ud (tmV t) (tmV n) fnE ud ud ud ud ud ud ud ud ud ud ud ud ud ud ud ud ud ud ud ud ud ud ud ud ud ud ud ud ud ud ud ud
def lpE (t n:Tm):Loop:={ state:=.ready,pending:=none,fn:=0,tmps:=(tmE t n).arr,params:=#[8],assign:=dH prog 42 1,body:=dH prog 42 2,defers:=4 }
theorem setE (t n:Tm)(v:Z6):gI (tmE t n) ((#[8]:Array Nat).toList.zip [v])=F40 (tmV t) (.pointer (some ⟨1,0,none⟩)) (.slice none 0 0) (.pointer (some ⟨2,0,none⟩)) ud (tmV t) (tmV n) fnE v ud ud ud ud ud ud ud ud ud ud ud ud ud ud ud ud ud ud ud ud ud ud ud ud ud ud ud ud ud ud ud:=Z7
theorem setF4 {K P I N J L R M H o E C c q a i D F y d h k z m t s p j w e A r g f B l b x n:Z6}(u v:Z6):VT.set (F40 K P I N u J L R M H o E C c q a i D F y d h k z m t s p j w e A r g f B l b x n) 4 v=(F40 K P I N v J L R M H o E C c q a i D F y d h k z m t s p j w e A r g f B l b x n):=Z7
theorem getF4 {J N H M I K P L F o D B c q a i C E x d h k y m t s p j v e z r g f A l b w n:Z6}(u:Z6):VT.get (F40 J N H M u I K P L F o D B c q a i C E x d h k y m t s p j v e z r g f A l b w n) 4=u:=Z7
structure Ye (t n:Tm)(acc:List Sp)(B:Nat→Prop)(σ:jA):Prop where
 lo:σ.lo=1
 nx:6≤σ.next
 lp:σ.get 5=some ⟨.loop (lpE t n),false⟩
 w:∃ q c cs,L1 σ (stS acc) q c cs∧B=λk=>k=5∨k=2∨blk q k∨bH cs k
theorem ye (t I:Tm):Ys G 5 (Ye t I) (λm=>m.length<400000000000) where
 lt:=λ{m B σ} hY k d=>by
  obtain ⟨hl,hn,F,q,c,cs,z,rfl⟩:=hY
  rcases d with rfl|rfl|d|d
  ·omega
  ·omega
  ·exact (z.ids k d).2
  ·exact (z.rows.ins d).1
 lo:=λ{m B σ} hY=>⟨hY.lo,by have:=hY.nx;omega,by have:=hY.nx;omega⟩
 n:=λ{a b} h=>by rw[List.length_append] at h;omega
 st:=λ{m B σ σ'} hY g=>by
  obtain ⟨hl,hn,F,q,c,cs,z,rfl⟩:=hY
  have hgn:=g.next
  refine ⟨g.lo.trans hl,Z0,(g.get _ Z0 (λh=>h (.inl rfl))).trans F,q,c,cs,⟨g.cellsE z.cell Z0 (λh=>h (.inr (.inl rfl))),z.own.grew g (λb X h=>h (.inr (.inr (.inl X)))),z.rows.self.grew g λk d _=>⟨λh=>h (.inr (.inr (.inr d.2))),d.1⟩,λk d=>⟨(z.ids k d).1,by have:=(z.ids k d).2;omega⟩⟩,rfl⟩
 y:=λ{m B σ} hY tt bb p a n c hst hsb ho hba hp hab hN=>by
  obtain ⟨hl,hn,F,q,cc,cs,z,rfl⟩:=hY
  rw[List.length_append,List.length_singleton] at hN
  have hsl:=pK0 m
  refine jE.yieldG (q:=qq) (T:=tmE t I) (jV G) (qR F Z0) Z0 rfl (by show 40<U;unfold U;omega) rfl cW2 cV2 (show dB NGG oS1=true by kernel_rfl) (show dB NGG oR1=true by kernel_rfl) (by rw[hl];exact (show NGG≤1 by decide)) ?_
  rw[show (lpE t I).params=#[8] from rfl,setE,lE1]
  refine S0 ?_
  obtain ⟨J,A⟩:∃ J,J=(σ.add (O [.int .i64 0,.int .i64 0,.int .i64 0,.string (Tx []),.int .i64 0,.int .i64 0,.string (Tx []),.slice none 0 0,.slice none 0 0,.int .i64 0,.int .i64 0,.int .i64 0,.string (Tx []),.int .i64 0,.int .i64 0,.string (Tx []),.slice none 0 0,.slice none 0 0,.slice none 0 0] 141 false)).put σ.next (O (spC tt bb a n c) 141 false):=⟨_,rfl⟩
  have g0:jC σ J (λ_=>False):=by rw[A];exact (by (repeat (first|exact Gr.refl _|assumption|(refine jC.put' ?_ _ _ (by first|omega|(simp only[push_cast];omega)))|(refine jC.add' ?_ _))))
  have c0:cells J σ.next=some (spC tt bb a n c,141,false):=by rw[A];push_cast(disch:=first|omega|(apply id;push_cast;try omega))
  have hn0:σ.next+1≤J.next:=by rw[A];push_cast(disch:=first|omega|(apply id;push_cast;try omega));omega
  have hcg0:J.get σ.next=some (O (spC tt bb a n c) 141 false):=by rw[A];exact uV _ _
  rw[← A]
  have hl0:J.lo=1:=by rw[g0.lo,hl]
  have k1:=z.grew g0 id Z0 (λ_ _ h=>h)
  have klp:=(g0.get _ Z0 id).trans F
  clear A
  simp only[kR,hi,lQ0]
  rw[qR klp Z0]
  dsimp only
  refine ⟨rfl,?_⟩
  rw[show (jN J 5 { lpE t I with state:=.busy })=J.put 5 ⟨.loop { lpE t I with state:=.busy },false⟩ from rfl]
  obtain ⟨l,u⟩:∃ l,l=J.put 5 ⟨.loop { lpE t I with state:=.busy },false⟩:=⟨_,rfl⟩
  rw[← u]
  have C:jC J l (λk=>k=5):=by rw[u];exact jC.put _ _ _ λ_=>rfl
  have b0:=C.cellsE c0 Z0 Z0
  have E:=k1.grew C Z0 Z0 (λk d e=>by omega)
  have V:l.get 5=some ⟨.loop { lpE t I with state:=.busy },false⟩:=by rw[u];exact uV _ _
  have f:l.lo=1:=by rw[C.lo,hl0]
  have hn2:=C.next
  have x:=(ho.grew g0 (λ_ _ h=>h)).grew C (λk d e=>hba k d (.inl e))
  have hqn:∀ k,blk a k→k<σ.next:=λk d=>by
   obtain ⟨o,s,rfl⟩:=d
   rcases ho.hat with ⟨h,_⟩|⟨b,h,_,h2,_⟩
   ·cases h
   ·cases h;exact h2
  obtain ⟨fr1,hgb⟩:=gM b0
  have hcg:=hcg0
  have R:l.get σ.next=some (O (spC tt bb a n c) 141 false):=by rw[u,qC _ _ _ Z0];exact hcg
  refine ⟨_,jE3 (D:=⟨_,_,l⟩) (i:=σ.next) (k:=4) (by show l.lo≤_;omega) (by show _<l.next;omega) R (by rw[pO0];decide) (by show 4<40;decide) (getF4 _),?_⟩
  rw[setF4]
  show dc3 _ _ _ _ ⟨_,[],bA (λj=>!Nat.beq j σ.next) l⟩ _
  have gF:=bB2 l σ.next
  have hrn:∀ k,bH cs k→k<σ.next:=λk d=>(z.rows.ins d).1
  have E:L1 (bA (λj=>!Nat.beq j σ.next) l) (stS m) q cc cs:=⟨gF.cellsE E.cell Z0 Z0,E.own.grew gF (λk d e=>by have:=(z.ids k d).2;omega),E.rows.self.grew gF (λk d _=>⟨λe=>by have:=hrn k d.2;omega,d.1⟩),λk d=>⟨(E.ids k d).1,by rw[cE0];exact (E.ids k d).2⟩⟩
  have x:=x.grew gF (λk d e=>by have:=hqn k d;omega)
  have V:=(gF.get 5 Z0 Z0).trans V
  have f:(bA (λj=>!Nat.beq j σ.next) l).lo=1:=by rw[pT1,f]
  have hn3:=cE0 (λj=>!Nat.beq j σ.next) l
  have gg:jC σ (bA (λj=>!Nat.beq j σ.next) l) (λk=>k=5∨k=2∨blk q k∨bH cs k):=((g0.mono λ_ _ h=>h.elim).tr' C λk _ h=>.inl h).tr' gF λk d e=>by omega
  clear u C g0 hgb R gF b0 hcg
  generalize bA (λj=>!Nat.beq j σ.next) l=τ2' at *
  rw[lD1]
  have M:=zW2 m ⟨tt,bb,p⟩
  have N : ∀ (D : S) (K : Z8 Addr) (H : Nat) (r : List Z6), L1 D.h (stS (m ++ [⟨tt, bb, p⟩])) K H r → jC τ2' D.h (fun k => k = 2 ∨ blk q k) → (∀ k, blk K k → blk q k ∨ τ2'.next ≤ k) → (∀ k, bH r k → bH cs k ∨ τ2'.next ≤ k) →
    cZ 5 (λ(_:Zb) v σ'=>v=.bool true∧∃ B',Ye t I (m++[⟨tt,bb,p⟩]) B' σ'∧(∀ k,B' k→(k=5∨k=2∨blk q k∨bH cs k)∨σ.next≤k)∧jC σ σ' (λk=>k=5∨k=2∨blk q k∨bH cs k)) .normal D:=by
   rintro ⟨tm,df,w⟩ K H r f1 f2 f3 f4
   have f7:τ2'.next≤w.next:=f2.next
   have f8:w.lo=1:=f2.lo.trans f
   have f9:w.get 5=some ⟨.loop { lpE t I with state:=.busy },false⟩:=(f2.get _ Z0 (λd=>by
    rcases d with d|d
    ·omega
    ·have:=z.ids _ d;omega)).trans V
   simp only[cZ]
   rw[qR f9 Z0]
   have gp:jC w (jN w 5 (lpE t I)) (λk=>k=5):=jC.put _ _ _ λ_=>rfl
   refine ⟨rfl,λk=>k=5∨k=2∨blk K k∨bH r k,⟨f8,(by show 6≤w.next;omega),uV _ _,K,H,r,f1.grew gp Z0 (by show _<w.next;omega) (λk d e=>by omega),rfl⟩,λk d=>?_,(gg.tr' f2 λk d h=>.inr (by rcases h with h|h;exact .inl h;exact .inr (.inl h))).tr' gp λk d h=>.inl h⟩
   rcases d with rfl|rfl|d|d
   ·exact .inl (.inl rfl)
   ·exact .inl (.inr (.inl rfl))
   ·rcases f3 k d with h|h
    ·exact .inl (.inr (.inr (.inl h)))
    ·exact .inr Z0
   ·rcases f4 k d with h|h
    ·exact .inl (.inr (.inr (.inr h)))
    ·exact .inr Z0
  have none:stF ⟨tt,bb,p⟩=[]→∀ (tm:VT) (df:List Nat),cZ 5 (λ(_:Zb) v σ'=>v=.bool true∧∃ B',Ye t I (m++[⟨tt,bb,p⟩]) B' σ'∧(∀ k,B' k→(k=5∨k=2∨blk q k∨bH cs k)∨σ.next≤k)∧jC σ σ' (λk=>k=5∨k=2∨blk q k∨bH cs k)) .normal ⟨tm,df,τ2'⟩:=λhe tm df=>
   N _ q cc cs (by rw[M,he,List.append_nil];exact E) (jC.refl _ _) (λ_ h=>.inl h) (λ_ h=>.inl h)
  by_cases e1:tt.k=0
  ·refine S2 f @e1 ?_
   rw[jD0]
   refine S0 ?_
   exact none (by unfold stF;rw[if_pos (.inl e1)]) _ _
  by_cases e2:tt.k=14
  ·refine S3 f @e1 @e2 ?_
   rw[jD0]
   refine S0 ?_
   exact none (by unfold stF;rw[if_pos (.inr (.inl e2))]) _ _
  by_cases e3:tt.k=12
  ·refine S4 f @e1 @e2 @e3 ?_
   rw[jD0]
   refine S0 ?_
   exact none (by unfold stF;rw[if_pos (.inr (.inr (.inl e3)))]) _ _
  by_cases e4:tt.k=11
  ·refine S5 f @e1 @e2 @e3 @e4 ?_
   rw[jD0]
   refine S0 ?_
   exact none (by unfold stF;rw[if_pos (.inr (.inr (.inr (.inl e4))))]) _ _
  by_cases e5:tt.k=7
  ·refine S6 f @e1 @e2 @e3 @e4 @e5 ?_
   rw[jD0]
   refine S0 ?_
   exact none (by unfold stF;rw[if_pos (.inr (.inr (.inr (.inr e5))))]) _ _
  have e0:¬ (tt.k=0∨tt.k=14∨tt.k=12∨tt.k=11∨tt.k=7):=Z0
  have hss:(stS m).length<1000000000000:=Z0
  refine S6 f @e1 @e2 @e3 @e4 @e5 ?_
  rw[jD0]
  by_cases P:tt.k=8
  ·refine S2 f P ?_
   refine dK (fF1 G bb hsb Z0) ?_
   have hlv:lnD (some false) (ivV (uW bb))=some (.int .i64 (uW bb).length):=rfl
   by_cases hw:uW bb=[]
   ·have hw0:¬ (0:Int)<(uW bb).length:=by rw[hw];simp
    refine S2 hlv hw0 ?_
    refine iJ3 G E f Z0 hss x hp ?_
    intro tm σ' K H r r1 r2 r3 r4
    refine S0 ?_
    refine N _ K H r ?_ r2 r3 r4
    rw[M,show stF ⟨tt,bb,p⟩=[⟨tt.k,p,0⟩] by unfold stF;rw[if_neg e0,if_pos P,if_pos hw,P]]
    exact r1
   ·have hw':(0:Int)<(uW bb).length:=by have:=List.length_pos_iff.2 hw;omega
    refine S2 hlv hw' ?_
    exact none (by unfold stF;rw[if_neg e0,if_pos P,if_neg hw]) _ _
  by_cases e7:tt.k=10
  ·have hc1:=E.cell
   refine S4 f P @e7 hc1 ?_
   refine jE.func (cap:=[]) (args:=[_,_]) (fV1 G tt bb 0 x f Z0 hp) ?_
   rintro _ σ1 ⟨q1,m1,k1,rfl,hq1,g1,hb1⟩
   have n1:=g1.next
   have r1:=E.grew g1 id Z0 (λ_ _ h=>h)
   have hl3:σ1.lo=1:=by rw[g1.lo,f]
   have hc2:=r1.cell
   refine S2 hc2 hl3 ?_
   refine jE.func (cap:=[]) (args:=[_,_]) (fV1 G tt bb 1 (x.grew g1 (λ_ _ h=>h)) hl3 Z0 hp) ?_
   rintro _ σ2 ⟨q2,m2,k2,rfl,hq2,C,Z⟩
   have n2:=C.next
   have r2:=r1.grew C id Z0 (λ_ _ h=>h)
   have hl4:σ2.lo=1:=by rw[C.lo,hl3]
   have hr:bS σ2 (λk=>6≤k∧¬ blk q k) [⟨tt.k,p,0⟩,⟨tt.k,p,1⟩] ([.int .i64 tt.k,.slice q1 m1 k1,.int .i64 0]++([.int .i64 tt.k,.slice q2 m2 k2,.int .i64 1]++[])):=
    .cons (hq1.grew C (λ_ _ h=>h)) hp (λb X=>⟨by have:=hb1 b X;omega,λY=>by have:=hb1 b X;have:=E.ids b Y;omega⟩) (.cons hq2 hp (λb X=>⟨by have:=Z b X;omega,λY=>by have:=Z b X;have:=E.ids b Y;omega⟩) .nil)
   obtain ⟨a',H,L,e8,g3,hc4,h3,b3⟩:=r2.add hr hl4 Z0 (by simp;omega)
   have hc3:=r2.cell
   have hl5:L.lo=1:=by rw[g3.lo,hl4]
   have e9:apS 62 3 40 (.slice q (stS m).length cc) (some (2,[.int .i64 tt.k,.slice q1 m1 k1,.int .i64 0,.int .i64 tt.k,.slice q2 m2 k2,.int .i64 1])) σ2=some (.slice a' ((stS m).length+2) H,L):=e8
   rw[e7] at e9
   push_cast(disch:=first|omega|(apply id;push_cast;try omega))[hc3,hl4,e7,↓rowS2,e9,hc4,hl5]
   have gp:jC L (L.put 2 (O [.slice a' ((stS m).length+2) H] 53 false)) (λk=>k=2):=jC.put _ _ _ λ_=>rfl
   refine N _ a' H (cs++([.int .i64 tt.k,.slice q1 m1 k1,.int .i64 0]++([.int .i64 tt.k,.slice q2 m2 k2,.int .i64 1]++[]))) ?_ ((((g1.trans C λ_ _ h=>h).mono (T:=λk=>k=2∨blk q k) λ_ _ h=>h.elim).tr' g3 λk _ h=>.inr h).tr' gp λk _ h=>.inl h) (λk d=>?_) λk d=>?_
   ·rw[M,show stF ⟨tt,bb,p⟩=[⟨tt.k,p,0⟩,⟨tt.k,p,1⟩] by unfold stF;rw[if_neg e0,if_neg P,if_pos e7,e7]]
    exact h3
   ·rcases b3 k d with h|h
    ·exact .inl h
    ·exact .inr Z0
   ·rcases jE0.1 d with h|h
    ·exact .inl h
    ·rcases jE0.1 h with h|h
     ·exact .inr (by have:=hb1 k (kE0 h);omega)
     ·rw[List.append_nil] at h
      exact .inr (by have:=Z k (kE0 h);omega)
  ·refine S3 f P @e7 ?_
   refine iJ3 G E f Z0 hss x hp ?_
   intro tm σ' K H r r1 r2 r3 r4
   refine S0 ?_
   refine N _ K H r ?_ r2 r3 r4
   rw[M,show stF ⟨tt,bb,p⟩=[⟨tt.k,p,0⟩] by unfold stF;rw[if_neg e0,if_neg P,if_neg e7]]
   exact r1
theorem lL1 (x:Tm)(σ:jA)(h:1≤σ.lo):jH (pp G) H0 82 [tmV x] σ (λv σ'=>v=.func (.func 115) ⟨[]⟩ ⟨[.pointer (some ⟨σ.next,0,none⟩)]⟩∧σ'=σ.add (O (tmC x) 34 false)):=by
 refine jH.fir4 (q:=qq) (jV G) fir82 Z7 rfl rfl (oZ0 ..) (by first|exact Nat.le_trans (show NGG≤1 by decide) Z0) ?_;rw[pH2]
 push_cast(disch:=first|omega|(apply id;push_cast;try omega))
 try exact ⟨rfl,rfl⟩
theorem gR1 {lid:Nat}{Y:List Sp→(Nat→Prop)→jA→Prop}{N:List Sp→Prop}(f:Ys G lid Y N)(x:Tm)(g:smT x=true)(j:(kH x).length<1000000000000)(b:Nat)(B:Nat→Prop)(σ:jA)(v:cells σ b=some (tmC x,34,false))(p:1≤b)(d:Y [] B σ)(m:N (spT x x [])) :
  jH (pp G) H0 115 [.func (.yield lid) ⟨[]⟩ ⟨[]⟩,.pointer (some ⟨b,0,none⟩)] σ (λ_ σ'=>eW1 Y (spT x x []) B σ (.bool true) σ'):=by
 obtain ⟨c,u,l⟩:=f.lo d
 refine jH.fir4 (q:=qq) (jV G) fK3 Z7 rfl rfl (zO1 ..) (by first|exact Nat.le_trans (show NGG≤1 by decide) Z0) ?_;rw[yH2]
 push_cast(disch:=first|omega|(apply id;push_cast;try omega))[v,c,↓spB2]
 refine jE.func (cap:=[]) (args:=[_,_]) (rR1 G f x g x [] [] B σ none 0 0 g j (by rw[List.length_nil];omega) (dT.nil _ _) (λk r=>by obtain ⟨o,s,e⟩:=r;cases e) d m) ?_
 rintro _ t ⟨rfl,n,a,h,i⟩
 refine S0 ?_
 exact ⟨rfl,n,a,h,i⟩
mutual
theorem fM0:∀ (x u:Tm) (p:List Int),(spT x u p).length=(kH x).length
 | .mk k a b s e l,u,p=>by
  rw[spT,kH,List.length_cons,List.length_cons]
  by_cases h:k=12
  ·rw[if_pos h,if_pos h,oJ2 l]
  rw[if_neg h,if_neg h]
  by_cases d:k=7
  ·rw[if_pos d,if_pos (.inr d),pM0 l]
  rw[if_neg d]
  by_cases c:k=11
  ·rw[if_pos c,if_pos (.inl c),pM0 l]
  ·rw[if_neg c,if_neg Z0];rfl
theorem pM0:∀ (l:List Tm) (u:Tm) (p:List Int) (j:Nat),(spL l u p j).length=(kV l).length
 | [],_,_,_=>rfl
 | x :: l,u,p,j=>by rw[spL,kV,List.length_append,List.length_append,fM0 x,pM0 l]
theorem oJ2:∀ (l:List Tm) (u:Tm) (p:List Int),(spH l u p).length=(actH l).length
 | [],_,_=>rfl
 | x :: l,u,p=>by rw[spH,actH,fM0 x]
end
theorem rQ1 (t:Tm)(M:smT t=true)(F:smT (jD t)=true)(T:(kH (jD t)).length<400000000000):jF (pp G) H0 42 [tmV t] (stsV (enF t)):=by
 have l:=nH0 G t M
 unfold enF
 generalize D:jD t=nn at *
 refine cE G fir42 Z7 (zJ3 ..) λI=>?_;rw[rF2]
 refine S0 ?_
 refine WinD.of (q:=qq) (jV G) cX2 (show dB NGG oT1=true by kernel_rfl) ?_
 rw[lF1]
 refine S0 ?_
 refine dK (l) ?_
 refine S0 ?_
 refine jE.func (cap:=[]) (args:=[_]) (lL1 G nn _ (by push_cast(disch:=first|omega|(apply id;push_cast;try omega)))) ?_
 rintro _ _ ⟨rfl,rfl⟩
 refine S0 ?_
 obtain ⟨σ,a⟩:∃ σ,σ=((H0.add (O (tmC t) 34 false)).add (O [.slice none 0 0] 53 false)).add (O (tmC nn) 34 false):=⟨_,rfl⟩
 have j:σ.next=4:=by rw[a];push_cast(disch:=first|omega|(apply id;push_cast;try omega))
 have C:σ.lo=1:=by rw[a];push_cast(disch:=first|omega|(apply id;push_cast;try omega))
 have H:cells σ 2=some ([.slice none 0 0],53,false):=by rw[a];push_cast(disch:=first|omega|(apply id;push_cast;try omega))
 have K:cells σ 3=some (tmC nn,34,false):=by rw[a];push_cast(disch:=first|omega|(apply id;push_cast;try omega))
 rw[← a]
 clear a
 refine WD.range (q:=qq) (jV G) (f:=115) (captured:=[.pointer (some ⟨3,0,none⟩)]) rfl rfl ?_
 show jH _ _ _ (.func (.yield (σ.next+1)) _ _ :: _) ((σ.add _).add ⟨.loop { state:=.ready,pending:=none,fn:=0,tmps:=_,params:=_,assign:=_,body:=_,defers:=σ.next },false⟩) (qR0 (σ.next+1) _ [σ.next] _)
 rw[j]
 have w:jC σ ((σ.add ⟨.deferred (some []),false⟩).add ⟨.loop (lpE t nn),false⟩) (λ_=>False):=(jC.add _ _ _).trans (jC.add _ _ _) λ_ _ h=>h
 have y:Ye t nn [] (λk=>k=5∨k=2∨blk none k∨bH [] k) ((σ.add ⟨.deferred (some []),false⟩).add ⟨.loop (lpE t nn),false⟩):=by
  refine ⟨by push_cast(disch:=first|omega|(apply id;push_cast;try omega))[C],by push_cast(disch:=first|omega|(apply id;push_cast;try omega))[j],kM _ _ (by rw[jB,j]),none,0,[],⟨w.cellsE H Z0 id,qY.nil _ _ _,.nil,λk i=>?_⟩,rfl⟩
  obtain ⟨o,s,e⟩:=i
  cases e
 refine (gR1 G (ye G t nn) nn F Z0 3 _ _ (w.cellsE K Z0 id) Z1 y (by rw[fM0];exact T)).mono ?_
 rintro v d ⟨-,B2,hY2,hB2,g2⟩
 obtain ⟨A,J,m,q,c,cs,L,rfl⟩:=hY2
 have u:d.get 4=some ⟨.deferred (some []),false⟩:=by
  refine (g2.get _ (by rw[jB,jB];omega) ?_).trans ?_
  ·rintro (h|h|⟨o,s,e⟩|⟨n,c,e⟩)
   ·omega
   ·omega
   ·cases e
   ·cases e
  ·rw[qF _ _ (by rw[jB];omega),kM _ _ j.symm]
 have g:jC d (jN d 5 { lpE t nn with state:=.exhausted }) (λk=>k=5):=jC.put _ _ _ λ_=>rfl
 refine iJ0 (qR m Z0) rfl rfl ?_
 generalize jN d 5 { lpE t nn with state:=.exhausted }=τ at g
 have x:=L.grew g Z0 Z0 (λk i e=>by omega)
 have R:=x.cell
 have B:=(g.get _ Z0 Z0).trans u
 have E:τ.lo=1:=by rw[g.lo,A]
 have r:=pK0 (spT nn nn [])
 rw[fM0] at r
 refine S0 ?_
 rw[yV1]
 refine S2 R E ?_
 rw[uR0 B Z0,show gQ [] (τ.put 4 ⟨.deferred none,false⟩)=some (τ.put 4 ⟨.deferred none,false⟩) from rfl]
 refine S0 ?_
 have z:jC τ (τ.put 4 ⟨.deferred none,false⟩) (λk=>k=4):=jC.put _ _ _ λ_=>rfl
 have p:=x.grew z Z0 (by have:=g.next;omega) (λk i e=>by omega)
 exact qY.fz (P:=(pp G).P) (N:=1) p.own (by rfl) Z1 Z0 (p.rows.fz rfl λb V=>by omega) (λk i=>by have:=(p.ids k i).1;omega)
theorem fX1 (n:Nat)(h:0<n):∀ l:List St,scL n (stCs l)=true
 | []=>rfl
 | x :: l=>by
  rw[stCs]
  refine wF0 ?_ (fX1 n h l)
  simp[stC,scL,Ev.sc,Rw,h,qS0]
@[push_cast]theorem stsV_sc (n:Nat)(h:0<n)(l:List St):Ev.sc n (stsV l)=true:=by
 simp[stsV,scL,Ev.sc,Rw,h,fX1 n h l]
end
end Go.Proofs.YtklapbhlhjdijaaGreatDoor
