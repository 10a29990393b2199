/-
  A part of the proof: conditions over an abstract memory,and that they are enough for what the model's calls do. No condition of its own.
-/
import Derived.Test.YtdcjpmjmjinjmaaDoorEva
import Derived.Below
import Derived.Laws.StructEq
set_option linter.unusedSimpArgs false
set_option linter.unusedVariables false
namespace Go.Ev
open Go Go.RowKit
section
variable {F:Fence} {n:Nat} {P:Program} {ops:Array Oper} {Q:Exit→Act→World→Prop} {md:Region.Mode}
def anyX (F:Fence) (n:Nat) (P:Program) (md:Region.Mode) (ops:Array Oper) (Q:Exit→Act→World→Prop) (S:List Nat→World→Prop):Nat→Array Bool→List Nat→Act→World→Prop
 | 0,listed,_,a,w=>Region.ready md ops listed=[]∧Q .normal a w
 | fuel+1,listed,dn,a,w=>
  (Region.ready md ops listed=[]→Q .normal a w)∧
  ∀ i∈Region.ready md ops listed,opW F n P ops Q i (fun a' w'=>(S (i :: dn) w'∨w'=w)∧anyX F n P md ops Q S fuel (listed.setIfInBounds i true) (i :: dn) a' w') a w
theorem kM0 (hF:FW F) (hd:dF0 ops) {S:List Nat→World→Prop}:∀ (fuel:Nat) (listed:Array Bool) (dn:List Nat) (a:Act) (w:World),anyX F n P md ops Q S fuel listed dn a w→wpAnyIn F n P md ops Q fuel listed a w
 | 0,_,_,_,_,h=>h
 | fuel+1,_,dn,_,_,h=>⟨h.1,fun i hi=>jN1 hF hd (yH0 (fun a' w' h'=>kM0 hF hd fuel _ _ a' w' h'.2) (h.2 i hi))⟩
theorem gY0 {S S':List Nat→World→Prop} (hS:∀ i w,S i w→S' i w):∀ (fuel:Nat) (listed:Array Bool) (dn:List Nat) (a:Act) (w:World),anyX F n P md ops Q S fuel listed dn a w→anyX F n P md ops Q S' fuel listed dn a w
 | 0,_,_,_,_,h=>h
 | fuel+1,_,dn,_,_,h=>⟨h.1,fun i hi=>yH0 (fun a' w' h'=>⟨h'.1.imp (hS _ _) id,gY0 hS fuel _ _ a' w' h'.2⟩) (h.2 i hi)⟩
theorem gL1 {S:List Nat→World→Prop} (hS:∀ d d' w,(∀ x∈d,x∈d')→S d w→S d' w):∀ (fuel:Nat) (listed:Array Bool) (dn dn':List Nat) (a:Act) (w:World),(∀ x∈dn,x∈dn')→anyX F n P md ops Q S fuel listed dn a w→anyX F n P md ops Q S fuel listed dn' a w
 | 0,_,_,_,_,_,_,h=>h
 | fuel + 1, _, dn, dn', _, _, hd, h => ⟨h.1, fun i hi => yH0 (fun a' w' h' => by
   have hd':∀ x∈i :: dn,x∈i :: dn':=fun x hx=>by
    rcases List.mem_cons.1 hx with rfl|hx
    ·exact List.mem_cons_self ..
    ·exact List.mem_cons_of_mem _ (hd x hx)
   exact ⟨h'.1.imp (hS _ _ _ hd') id,gL1 hS fuel _ _ _ a' w' hd' h'.2⟩) (h.2 i hi)⟩
inductive Beh (md:Region.Mode) (ops:Array Oper):Nat→Nat→Prop
 | one {k:Nat} {ok:Oper} {e:Edge} (hk:ops[k]?=some ok) (he:e∈ok.after) (hb:Region.binds md e=true):Beh md ops k e.on
 | step {k i:Nat} {ok:Oper} {e:Edge} (hk:ops[k]?=some ok) (he:e∈ok.after) (hb:Region.binds md e=true) (h:Beh md ops e.on i):Beh md ops k i
theorem Beh.snoc {k j:Nat} (h:Beh md ops k j):∀ {oj:Oper} {e:Edge},ops[j]?=some oj→e∈oj.after→Region.binds md e=true→Beh md ops k e.on:=by
 induction h with
 | one hk he hb=>exact fun hj he' hb'=>.step hk he hb (.one hj he' hb')
 | step hk he hb _ ih=>exact fun hj he' hb'=>.step hk he hb (ih hj he' hb')
def gD0 (md:Region.Mode) (ops:Array Oper) (dn:List Nat) (i:Nat):Prop:=∀ k∈dn,¬ Beh md ops k i
structure bC (md:Region.Mode) (ops:Array Oper) (listed:Array Bool) (dn:List Nat):Prop where
 all:∀ k ok,ops[k]?=some ok→listed.getD k true=true→∀ e∈ok.after,Region.binds md e=true→listed.getD e.on true=true
 dn:∀ k∈dn,listed.getD k true=true
variable {S:List Nat→World→Prop} {T:World→Prop}
theorem bC.beh {listed:Array Bool} {dn:List Nat} (hc:bC md ops listed dn) {k i:Nat} (h:Beh md ops k i) (hk:listed.getD k true=true):listed.getD i true=true:=by
 induction h with
 | one hok he hb=>exact hc.all _ _ hok hk _ he hb
 | step hok he hb _ ih=>exact ih (hc.all _ _ hok hk _ he hb)
theorem jX0 {listed:Array Bool} {i j:Nat} (h:listed.getD j true=true):(listed.setIfInBounds i true).getD j true=true:=by
 by_cases e:i=j
 ·subst e
  rw[Array.getD_eq_getD_getElem?,Array.getElem?_setIfInBounds]
  simp only[if_true]
  split<;>rfl
 ·rw[getD_set_ne true e];exact h
theorem dR0 {listed:Array Bool} {i:Nat}:(listed.setIfInBounds i true).getD i true=true:=by
 rw[Array.getD_eq_getD_getElem?,Array.getElem?_setIfInBounds]
 simp only[if_true]
 split<;>rfl
theorem bC.list {listed:Array Bool} {dn:List Nat} (hc:bC md ops listed dn) {j:Nat} (hj:j∈Region.ready md ops listed):bC md ops (listed.setIfInBounds j true) dn:=by
 refine ⟨fun k ok hok hk e he hb=>jX0 ?_,fun k hk=>jX0 (hc.dn k hk)⟩
 by_cases hkj:j=k
 ·subst hkj
  obtain ⟨_,oj,hoj,hall⟩:=mem_ready.1 hj
  rw[hok] at hoj
  cases hoj
  have:=hall e he hb
  rcases Nat.lt_or_ge e.on listed.size with h'|h'
  ·simp[h'] at this ⊢;exact this
  ·simp[Array.getElem?_eq_none h'] at this ⊢
 ·rw[getD_set_ne true hkj] at hk
  exact hc.all k ok hok hk e he hb
theorem bC.step {listed:Array Bool} {dn:List Nat} (hc:bC md ops listed dn) {j:Nat} (hj:j∈Region.ready md ops listed):bC md ops (listed.setIfInBounds j true) (j :: dn):=
 ⟨(hc.list hj).all,fun k hk=>by
  rcases List.mem_cons.1 hk with rfl|hk
  ·exact dR0
  ·exact jX0 (hc.dn k hk)⟩
theorem tD0 {i:Nat} {oi:Oper} {v:Value} (hi:ops[i]?=some oi) (hsel:∀ (j:Nat) (o:Oper) cs b,ops[j]?=some o→o.op≠.select cs b)
  (hQ:∀ c a w,Q (.panic c) (a.put oi.dst v) w→Q (.panic c) a w) (hSm:∀ d d' w,(∀ x∈d,x∈d')→S d w→S d' w)
  (hST:∀ dn w,gD0 md ops dn i→S dn w→T w) :
  ∀ (fuel:Nat) (listed:Array Bool) (dn:List Nat) (a:Act) (w:World),
  (∀ j oj,ops[j]?=some oj→j≠i→listed.getD j true=false→(∀ e∈oj.after,Region.binds md e=true→e.on≠i)→oi.apart ops oj=true)→
  i∈Region.ready md ops listed→bC md ops listed dn→YieldsIf P ops T oi v a→T w→
  anyX F n P md ops Q S fuel (listed.setIfInBounds i true) dn (a.put oi.dst v) w→anyX F n P md ops Q S (fuel+1) listed dn a w:=by
 intro fuel
 induction fuel with
 | zero=>
  intro listed dn a w _ hr hc hy hT H
  refine ⟨fun h=>(by rw[h] at hr;cases hr),fun j hj=>?_⟩
  by_cases hji:j=i
  ·subst hji;exact Ev.YieldsIf.opW hi hy hT ⟨.inr rfl,H⟩
  ·have:=ready_mono hj hji
   rw[H.1] at this
   cases this
 | succ fuel ih=>
  intro listed dn a w hfree hr hc hy hT H
  refine ⟨fun h=>(by rw[h] at hr;cases hr),fun j hj=>?_⟩
  by_cases hji:j=i
  ·subst hji;exact Ev.YieldsIf.opW hi hy hT ⟨.inr rfl,gL1 hSm _ _ _ _ _ _ (fun x hx=>List.mem_cons_of_mem _ hx) H⟩
  ·have h1:=H.2 j (ready_mono hj hji)
   obtain ⟨hjun,oj,hoj,hall⟩:=mem_ready.1 hj
   have hun:listed.getD i true=false:=(mem_ready.1 hr).1
   have hnot:∀ e∈oj.after,Region.binds md e=true→e.on≠i:=fun e he hb heq=>by
    have h1:=hall e he hb
    have h0:=(mem_ready.1 hr).1
    rw[heq] at h1
    rcases Nat.lt_or_ge i listed.size with h'|h'
    ·simp[h'] at h0 h1;rw[h0] at h1;cases h1
    ·simp[Array.getElem?_eq_none h'] at h1
   have hnb:gD0 md ops (j :: dn) i:=fun k hk hbe=>by
    have:=(hc.step hj).beh hbe ((hc.step hj).dn k hk)
    rw[getD_set_ne true hji,hun] at this
    cases this
   have h2:=rV1 hoj (hfree j oj hoj hji hjun hnot) (fun cs b=>hsel i oi cs b hi) (fun cs b=>hsel j oj cs b hoj) hQ hy h1
   have hfree' : ∀ k ok, ops[k]? = some ok → k ≠ i → (listed.setIfInBounds j true).getD k true = false →
     (∀ e∈ok.after,Region.binds md e=true→e.on≠i)→oi.apart ops ok=true:=fun k ok hk hki hun hno=>by
    refine hfree k ok hk hki ?_ hno
    by_cases hjk:j=k
    ·subst hjk;exact hjun
    ·rw[getD_set_ne true hjk] at hun;exact hun
   refine yH0 (fun a' w' h3=>⟨h3.2.1,ih (listed.setIfInBounds j true) (j :: dn) a' w' hfree' (ready_mono hr (Ne.symm hji)) (hc.step hj) h3.1 ?_ ?_⟩) h2
   ·rcases h3.2.1 with hS|rfl
    ·exact hST _ w' hnb hS
    ·exact hT
   ·rw[Array.setIfInBounds_comm _ _ hji]
    exact h3.2.2
theorem zJ0 {i:Nat} {oi:Oper} {v:Value} {fuel:Nat} {listed:Array Bool} {dn:List Nat} {a:Act} {w:World} (hi:ops[i]?=some oi)
  (hs:Region.noSelect ops=true) (hf:Region.free md ops listed i=true) (hr:i∈Region.ready md ops listed) (hc:bC md ops listed dn)
  (hQ:∀ c a w,Q (.panic c) (a.put oi.dst v) w→Q (.panic c) a w) (hSm:∀ d d' w,(∀ x∈d,x∈d')→S d w→S d' w) (hST:∀ dn w,gD0 md ops dn i→S dn w→T w)
  (hy:YieldsIf P ops T oi v a) (hT:T w)
  (h:anyX F n P md ops Q S fuel (listed.setIfInBounds i true) dn (a.put oi.dst v) w):anyX F n P md ops Q S (fuel+1) listed dn a w:=
 tD0 hi (Region.noSelect_spec hs) hQ hSm hST fuel listed dn a w (Region.free_spec hi hf) hr hc hy hT h
theorem kV0 {id:Nat} {a:Act} {w:World} (hF:FW F) (hd:dF0 ops) (hm:P.follows .mixedOrders=true)
  (h:anyX F n P .any ops Q S ops.size (Array.replicate ops.size false) [] a { w with drawn:=w.drawn+1 }):(Code.region id ops true).wpIn F n P Q a w:=
 wpIn_region_any hm (kM0 hF hd _ _ _ _ _ h)
def kZ0 (P:Program) (ops:Array Oper) (Lc:List (Nat×Sem Go.Next×Value)) (dn:List Nat) (w:World):Prop:=
 ∀ x∈Lc,gD0 .any ops dn x.1→x.2.1.run P w=.ok (.value x.2.2) w
theorem kZ0.mono {Lc:List (Nat×Sem Go.Next×Value)} {d d':List Nat} {w:World} (hd:∀ x∈d,x∈d') (h:kZ0 P ops Lc d w):kZ0 P ops Lc d' w:=
 fun x hx hn=>h x hx fun k hk=>hn k (hd k hk)
end
end Go.Ev
namespace Go.Ev
open Go Go.RowKit
noncomputable section
theorem fA0:∀ (off:Nat) (vs cs:List Value),off+vs.length≤cs.length→setE off vs cs=some (setFrom cs off vs):=by
 have h0:∀ (vs cs:List Value),vs.length≤cs.length→gB0 vs cs=some (setFrom cs 0 vs):=by
  intro vs
  induction vs with
  | nil=>intro cs _;simp[gB0,setFrom]
  | cons v vs ih=>
   intro cs hl
   cases cs with
   | nil=>simp at hl
   | cons c cs=>
    have:=ih cs (by simpa using hl)
    show (Option.rec none (fun x=>some (v :: x)) (gB0 vs cs):Option (List Value))=_
    rw[this]
    simp[setFrom]
 intro off
 induction off with
 | zero=>intro vs cs hl;exact h0 vs cs (by omega)
 | succ off ih=>
  intro vs cs hl
  cases cs with
  | nil=>simp at hl
  | cons c cs=>
   have:=ih vs cs (by simp at hl;omega)
   show (Option.rec none (fun x=>some (c :: x)) (setE off vs cs):Option (List Value))=_
   rw[this]
   simp[setFrom,Nat.add_right_comm]
theorem jK0 (cs:List Value) (off n:Nat) (hle:off+n≤cs.length):takeN cs off n=some ((cs.drop off).take n):=by
 have h1:∀ (k:Nat) (l:List Value),k≤l.length→qL0 k l=some (l.take k):=by
  intro k
  induction k with
  | zero=>intro l _;rfl
  | succ k ih=>
   intro l hl
   cases l with
   | nil=>simp at hl
   | cons x l=>
    show (Option.rec none (fun y=>some (x :: y)) (qL0 k l):Option (List Value))=_
    rw[ih l (by simpa using hl)]
    rfl
 have h2:∀ (k:Nat) (l:List Value),k≤l.length→gQ0 k l=some (l.drop k):=by
  intro k
  induction k with
  | zero=>intro l _;rfl
  | succ k ih=>
   intro l hl
   cases l with
   | nil=>simp at hl
   | cons x l=>exact ih l (by simpa using hl)
 simp only[takeN,h2 off cs (by omega),h1 n (cs.drop off) (by simp;omega)]
def uZ0 (c a b:Value):Option Value:=match c with | .bool true=>some a | .bool false=>some b|_=>none
def extV (v:Value) (i:Nat):Option Value:=match v with | .tuple vs=>vs[i]?|_=>none
def unV (P:Program) (op:UnOp) (v:Value):Option Value:=pvF P (Op.unary op v) (flat v)
def fld (P:Program) (s:TypeId) (f:Nat):Option Nat:=match P.underlying s with
 | some (.struct fs)=>match fs[f]? with
  | some fl=>match szT P fl.type with
   | some (_+1)=>some fl.offset
   | _=>none
  | none=>none
 | _=>none
def faV (o:Option Nat) (v:Value):Option Value:=match o,v with
 | some o,.pointer (some a)=>some (.pointer (some (a.add o)))
 | _,_=>none
def uW (b:Bool) (n:Nat) (cs:List Value) (off:Nat):Option Value:=match b with
 | true=>if off+n≤cs.length then some (.agg ⟨(cs.drop off).take n⟩) else none
 | false=>cs[off]?
def knd (P:Program) (t:TypeId):Option (Bool×Nat):=match bU0 P t with
 | some true=>match szT P t with | some n=>some (true,n) | none=>none
 | some false=>some (false,0)
 | none=>none
theorem nR0 {P:Program} {t:TypeId} {b:Bool} {n:Nat} {cs:List Value} {off:Nat} {v:Value} (hk:knd P t=some (b,n)) (h:uW b n cs off=some v):dD0 P t cs off=some v:=by
 unfold knd at hk
 unfold dD0
 split at hk
 ·rename_i ha
  split at hk<;>cases hk
  rename_i hs
  simp only[uW] at h
  split at h<;>cases h
  rename_i hle
  have ht:=jK0 cs off n hle
  simp only[takeN] at ht
  rw[ha];simp only[hs]
  cases hd:gQ0 off cs with
  | none=>rw[hd] at ht;cases ht
  | some l=>rw[hd] at ht;simp only[ht]
 ·rename_i ha
  cases hk
  rw[ha];exact h
 ·cases hk
def fldT (P:Program) (s:TypeId) (f:Nat):Option (Bool×Nat×Nat):=match P.underlying s with
 | some (.struct fs)=>match fs[f]? with
  | some fl=>match knd P fl.type with
   | some (b,n)=>some (b,n,fl.offset)
   | none=>none
  | none=>none
 | _=>none
def fdV (f:Option (Bool×Nat×Nat)) (v:Value):Option Value:=match f,v with
 | some (b,n,off),.agg cs=>uW b n cs.toList off
 | _,_=>none
def esz (P:Program) (t:TypeId):Option (Option Nat×Nat):=match P.underlying t with
 | some (.slice e)=>match szT P e with | some n=>some (none,n) | none=>none
 | some (.array len e)=>match szT P e with | some n=>some (some len,n) | none=>none
 | _=>none
def iaV (z:Option (Option Nat×Nat)) (x i:Value):Option Value:=match z,x,i with
 | some (none,n),.slice (some a) len _,.int _ i=>if 0≤i∧i<len then some (.pointer (some (a.add (i.toNat*n)))) else none
 | some (some len,n),.pointer (some a),.int _ i=>if 0≤i∧i<len then some (.pointer (some (a.add (i.toNat*n)))) else none
 | _,_,_=>none
def ixT (P:Program) (t:TypeId):Option (Option (Bool×Nat×Nat×Nat)):=match P.underlying t with
 | some .string=>some none
 | some (.array len e)=>match knd P e,szT P e with
  | some (b,n),some z=>some (some (b,n,z,len))
  | _,_=>none
 | _=>none
def gB1 (s:ByteArray) (i:Nat):Int:=((s.data.toList.getD i 0).toNat:Int)
def ixV (z:Option (Option (Bool×Nat×Nat×Nat))) (x i:Value):Option Value:=match z,x,i with
 | some none,.string s,.int _ i=>if 0≤i∧i<s.size then some (.int .u8 (gB1 s i.toNat)) else none
 | some (some (b,n,z,len)),.agg cs,.int _ i=>if 0≤i∧i<len then uW b n cs.toList (i.toNat*z) else none
 | _,_,_=>none
def slV (P:Program) (t:TypeId) (x:Value) (lo hi mx:Option Value) (h:jA):Option Value:=match x with
 | .string s=>pvF P (Instr.sliceAt t (.string s) lo hi mx) (lo.all flat&&hi.all flat&&mx.all flat)
 | .slice a n c=>match uB P t a n c lo hi mx with | some v=>some v | none=>uA P t a n c lo hi mx h
 | .pointer (some a)=>jG0 P t a lo hi mx
 | _=>none
def ncV (v:Value):Option Value:=match v with
 | .pointer (some a)=>some (.pointer (some a))
 | .func (.func g) f c=>some (.func (.func g) f c)
 | _=>none
def isI (P:Program) (t:TypeId):Option Bool:=match P.underlying t with
 | some (.interface _)=>some true
 | some _=>some false
 | none=>none
def miV (b:Option Bool) (t:TypeId) (v:Value):Option Value:=match b with|some false=>some (.iface t v)|_=>none
def lnT (P:Program) (t:TypeId):Option Bool:=match P.underlying t with
 | some .string=>some true
 | some (.slice _)=>some false
 | _=>none
def lnB (b:Option Bool) (v:Value):Option Value:=match b,v with
 | some true,.string s=>some (.int .i64 s.size)
 | some false,.slice _ n _=>some (.int .i64 n)
 | _,_=>none
def mnV (P:Program) (ts:Array TypeId) (t:TypeId) (l:List Value):Option Value:=pvF P (Builtin.min_ ts t ⟨l⟩) (jT l)
def mxV (P:Program) (ts:Array TypeId) (t:TypeId) (l:List Value):Option Value:=pvF P (Builtin.max_ ts t ⟨l⟩) (jT l)
def plc (P:Program) (t:TypeId):Option (List (Nat×Nat)×List Value):=match P.info? t with
 | none=>none
 | some i=>match i.zero with
  | none=>none
  | some z=>match flat z,P.underlying t with
   | true,some (.struct fs)=>match placesOf P fs.toList with
    | some pl=>some (pl,z.cells.toList)
    | none=>none
   | true,some (.array len e)=>match szT P e with
    | some n=>some ((List.range len).map (fun i=>(i*n,n)),z.cells.toList)
    | none=>none
   | _,_=>none
def kV (pl:List (Nat×Nat)):List Value→List (Nat×Value)→Option (List Value)
 | cs,[]=>some cs
 | cs,(i,v) :: rest=>match pl[i]? with
  | some (off,n)=>if v.cells.toList.length=n∧off+n≤cs.length then kV pl (setFrom cs off v.cells.toList) rest else none
  | none=>none
def bdV (z:Option (List (Nat×Nat)×List Value)) (parts:List (Nat×Value)):Option Value:=match z with
 | some (pl,cs)=>match kV pl cs parts with
  | some cs'=>some (.agg ⟨cs'⟩)
  | none=>none
 | none=>none
theorem yJ0 {place:Nat→Option (Nat×Nat)} {pl:List (Nat×Nat)} (hp:∀ i x,pl[i]?=some x→place i=some x):∀ (parts:List (Nat×Value)) (cs cs':List Value),
  kV pl cs parts=some cs'→gN0 place cs parts=some cs'
 | [],cs,cs',h=>h
 | (i,v) :: rest,cs,cs',h=>by
  simp only[kV] at h
  split at h
  ·rename_i off n hx
   split at h
   ·rename_i hc
    have hs:=fA0 off v.cells.toList cs (by omega)
    have hb:Nat.beq v.cells.size n=true:=by
     rw[Nat.beq_eq];simpa using hc.1
    simp only[gN0,hp i _ hx,hb,hs]
    exact yJ0 hp rest _ cs' h
   ·cases h
  ·cases h
theorem yX2 {P:Program} {t:TypeId} {parts:List (Nat×Value)} {v:Value} (h:bdV (plc P t) parts=some v):gT0 P t parts=some v:=by
 unfold bdV plc at h
 unfold gT0
 cases hi:P.info? t with
 | none=>rw[hi] at h;cases h
 | some i=>
  rw[hi] at h
  dsimp only at h ⊢
  cases hz:i.zero with
  | none=>rw[hz] at h;cases h
  | some z=>
   rw[hz] at h
   dsimp only at h ⊢
   cases hf:flat z with
   | false=>rw[hf] at h;cases h
   | true=>
    rw[hf] at h
    cases hu:P.underlying t with
    | none=>rw[hu] at h;cases h
    | some d=>
     rw[hu] at h
     cases d with
     | struct fs=>
      dsimp only at h ⊢
      cases hp:placesOf P fs.toList with
      | none=>rw[hp] at h;cases h
      | some pl=>
       rw[hp] at h
       dsimp only at h ⊢
       split at h<;>cases h
       rename_i cs' hc
       rw[yJ0 (place:=fun i=>pl[i]?) (fun i x hx=>hx) _ _ _ hc]
     | array len e=>
      dsimp only at h ⊢
      cases hs:szT P e with
      | none=>rw[hs] at h;cases h
      | some n=>
       rw[hs] at h
       dsimp only at h ⊢
       split at h<;>cases h
       rename_i cs' hc
       rw[yJ0 (place:=fun i=>some (i*n,n)) (fun i x hx=>by
        rw[List.getElem?_map] at hx
        cases hr:(List.range len)[i]? with
        | none=>rw[hr] at hx;cases hx
        | some j=>
         rw[hr] at hx
         obtain ⟨_,hj⟩:=List.getElem?_eq_some_iff.1 hr
         simp at hj
         subst hj
         simpa using hx) _ _ _ hc]
     | _=>cases h
def btS (P : Program) (s d : TypeId) (x : Value) (h : jA) : Option Value := match P.underlying s, P.underlying d, x with
  | some (.slice e),some .string,.slice none _ _=>match P.underlying e with
   | some (.int .u8)=>some (.string .empty)
   | _=>none
  | some (.slice e),some .string,.slice (some _) 0 _=>match P.underlying e with
   | some (.int .u8)=>some (.string .empty)
   | _=>none
  | some (.slice e),some .string,.slice (some ⟨g,off,none⟩) n _=>match P.underlying e,cells h g with
   | some (.int .u8),some (cs,_,_)=>match takeN cs off n with
    | some l=>match bytesOf l with
     | some l=>some (.string ⟨⟨l⟩⟩)
     | none=>none
    | none=>none
   | _,_=>none
  | _,_,_=>none
def cvP (P:Program) (s d:TypeId) (v:Value):Option Value:=pvF P (convert s d v) (flat v)
def cvV (P:Program) (s d:TypeId) (v:Value) (h:jA):Option Value:=match cvP P s d v with|some u=>some u|none=>btS P s d v h
def bare (o : Op) (t : TypeId) : Oper := ⟨none, o, t, "", #[], none⟩
def tp (P:Program) (o:Op) (t:TypeId) (tm:VT):Option Value:=match o with
 | .move x=>some (ev tm x)
 | .assign x=>some (ev tm x)
 | .pick c a b=>uZ0 (ev tm c) (ev tm a) (ev tm b)
 | .extract x i=>extV (ev tm x) i
 | .binOp op ty x y _=>jE P op ty x y (ev tm x) (ev tm y)
 | .unOp op _ x=>unV P op (ev tm x)
 | .fieldAddr s x f=>faV (fld P s f) (ev tm x)
 | .field s x f=>fdV (fldT P s f) (ev tm x)
 | .indexAddr s x i=>iaV (esz P s) (ev tm x) (ev tm i)
 | .index s x i=>ixV (ixT P s) (ev tm x) (ev tm i)
 | .build ty parts=>bdV (plc P ty) (parts.toList.map fun x=>(x.1,ev tm x.2))
 | .makeFunc (.func g) f c=>some (.func (.func g) ⟨f.toList.map (ev tm)⟩ ⟨c.toList.map (ev tm)⟩)
 | .makeInterface ty x=>miV (isI P ty) ty (ev tm x)
 | .nilCheck x=>ncV (ev tm x)
 | .call ⟨.builtin .len,⟨[x]⟩,⟨[ty]⟩⟩=>lnB (lnT P ty) (ev tm x)
 | .call ⟨.builtin .min,args,ts⟩=>mnV P ts t (args.toList.map (ev tm))
 | .call ⟨.builtin .max,args,ts⟩=>mxV P ts t (args.toList.map (ev tm))
 | _=>none
def tv (P:Program) (o:Op) (t:TypeId) (tm:VT) (h:jA):Option Value:=match o with
 | .load ty a=>jJ P ty (ev tm a) h
 | .slice ty x lo hi mx=>slV P ty (ev tm x) (lo.map (ev tm)) (hi.map (ev tm)) (mx.map (ev tm)) h
 | .convert s d x=>cvV P s d (ev tm x) h
 | o=>tp P o t tm
def tailV (P:Program) (t:TypeId) (x:Value) (lo hi mx:Option Value) (h:jA):Option (Value×Value):=match x,mx with
 | .slice (some ⟨b,off,none⟩) len cap,none=>match P.underlying t,cells h b with
  | some (.slice e),some (cs,e',true)=>match szT P e with
   | some size=>match bounds len len none hi lo with
    | some (l, h', _) => if e' = e ∧ UC ≤ cap ∧ off = (cap - UC) * size ∧ 0 < size ∧ off + len * size ≤ cs.length ∧ l = len ∧ h' = len ∧ len < U then
      some (.slice (some ⟨b,off,none⟩) 0 0,.slice (some ⟨b,off+len*size,none⟩) 0 (cap+len)) else none
    | none=>none
   | none=>none
  | _,_=>none
 | _,_=>none
def tw (P:Program) (o:Op) (tm:VT) (h:jA):Option (Value×Value):=match o with
 | .slice ty x lo hi mx=>tailV P ty (ev tm x) (lo.map (ev tm)) (hi.map (ev tm)) (mx.map (ev tm)) h
 | _=>none
theorem qN1 {P:Program} {w:World} {t e:TypeId} {a:Option Addr} {len cap size l h m:Nat} {lo hi mx:Option Value} (hu:P.underlying t=some (.slice e)) (hs:szT P e=some size)
  (hbr:(Instr.sliceBounds true len cap lo hi mx).run P w=.ok (l,h,m) w) :
  (Instr.sliceAt t (.slice a len cap) lo hi mx).run P w=.ok (.slice (if m=l then a else a.map (·.add (l*size))) (h-l) (m-l)) w:=by
 simp only[Instr.sliceAt,Instr.slice,Sem.run_bind,jS hu,Result.andThen_ok,hbr,uV hs,Sem.run_pure]
theorem cA1 {g off l K h' size:Nat} {w:World} (q:Bool) (hq:q=true↔K=l) (h7:h'=l) :
  (Result.ok (.slice (if (Option.none:Option Nat).getD K=l then some ⟨g,off,none⟩ else (some (⟨g,off,none⟩:Addr)).map (·.add (l*size))) (h'-l) ((Option.none:Option Nat).getD K-l)) w:Result Value) =
  .ok (if q=true then .slice (some ⟨g,off,none⟩) 0 0 else .slice (some ⟨g,off+l*size,none⟩) 0 (K-l)) w:=by
 subst h7
 simp only[Option.getD_none,Option.map_some,addr_add]
 cases q with
 | true=>
  have hq:K=h':=hq.1 rfl
  simp[hq]
 | false=>
  have hq:¬ K=h':=fun e=>by have:=hq.2 e;cases this
  simp[hq]
theorem eS0 {p:Par} {t:TypeId} {x:Value} {lo hi mx:Option Value} {v1 v2:Value} {Γ:Gam} {h:jA} {w:World} (hr:jY p Γ h w) (he:tailV p.P t x lo hi mx h=some (v1,v2)) :
  ∃ g off len cap,x=.slice (some ⟨g,off,none⟩) len cap∧g<h.next∧
   ∀ q:Bool,(q=true↔Γ.k g-(cap-UC)=len)→(Instr.sliceAt t (con Γ x) (lo.map (con Γ)) (hi.map (con Γ)) (mx.map (con Γ))).run p.P w=.ok (con Γ (if q then v1 else v2)) w:=by
 unfold tailV at he
 split at he
 ·rename_i b off len cap
  split at he
  ·rename_i e cs e' hu hc
   split at he
   ·rename_i size hs
    split at he
    ·rename_i l h' m hbd
     split at he<;>cases he
     rename_i hcond
     obtain ⟨h1,h2,h3,h4,h5,h6,h7,h8⟩:=hcond
     subst h1 h6
     refine ⟨b,off,l,cap,rfl,?_⟩
     obtain ⟨hlt,rest,fr,hrow⟩:=hr.row hc (hr.m_own hc)
     refine ⟨hlt,?_⟩
     obtain ⟨ti,hti,hk⟩:=hrow.more rfl
     have hsz:ti.size=size:=by
      unfold szT at hs;rw[hti] at hs;simpa using hs
     rw[hsz] at hk
     have hcap:l≤Γ.k b-(cap-UC):=by
      have:(cap-UC+l)*size≤Γ.k b*size:=by
       rw[Nat.add_mul,← h3];omega
      have:=Nat.le_of_mul_le_mul_right this h4
      omega
     have hnot:¬ cap<UC:=by omega
     have hbr:=uO0 (P:=p.P) (w:=w) Γ true hbd hcap
     have hm:m=none:=by
      rcases (jP0 hbd).1 with ⟨_,h0⟩|⟨k,mm',h9,h0,hle⟩
      ·exact h0
      ·cases h9
     subst hm
     have hnk:¬ (cap+l<UC):=by omega
     have hsub:Γ.k b-(cap+l-UC)=Γ.k b-(cap-UC)-l:=by
      generalize UC=u at h2 ⊢
      omega
     have hcon:con Γ (.slice (some ⟨b,off,none⟩) l cap)=.slice (some ⟨Γ.b b,off,none⟩) l (Γ.k b-(cap-UC)):=by
      simp only[con,uC,if_neg hnot,wM]
     have hcon1:con Γ (.slice (some ⟨b,off,none⟩) 0 0)=.slice (some ⟨Γ.b b,off,none⟩) 0 0:=by
      simp only[con,uC,if_pos cC0,wM]
     have hcon2:con Γ (.slice (some ⟨b,off+l*size,none⟩) 0 (cap+l))=.slice (some ⟨Γ.b b,off+l*size,none⟩) 0 (Γ.k b-(cap-UC)-l):=by
      simp only[con,uC,if_neg hnk,wM,hsub]
     intro q hq
     rw[hcon]
     have hif : con Γ (if q = true then Value.slice (some ⟨b, off, none⟩) 0 0 else .slice (some ⟨b, off + l * size, none⟩) 0 (cap + l)) =
       if q=true then .slice (some ⟨Γ.b b,off,none⟩) 0 0 else .slice (some ⟨Γ.b b,off+l*size,none⟩) 0 (Γ.k b-(cap-UC)-l):=by
      cases q
      ·exact hcon2
      ·exact hcon1
     rw[hif]
     clear hcon hcon1 hcon2 hif hsub
     generalize Γ.k b-(cap-UC)=K at hbr hcap hq ⊢
     rw[qN1 hu hs hbr]
     exact cA1 q hq h7
    ·cases he
   ·cases he
  ·cases he
 ·cases he
theorem qE1 {p:Par} {Γ:Gam} {h:jA} {w:World} (hr:jY p Γ h w) {t:TypeId} {x:Value} {lo hi mx:Option Value} {v1 v2:Value} (he:tailV p.P t x lo hi mx h=some (v1,v2)) :
  ∃ b:Bool,∀ Γ' h' w',Ag Γ Γ' h.next→jY p Γ' h' w'→tailV p.P t x lo hi mx h'=some (v1,v2)→
   (Instr.sliceAt t (con Γ' x) (lo.map (con Γ')) (hi.map (con Γ')) (mx.map (con Γ'))).run p.P w'=.ok (con Γ' (if b then v1 else v2)) w':=by
 obtain ⟨g,off,len,cap,hx,hg,_⟩:=eS0 hr he
 obtain ⟨q,hq⟩:∃ q:Bool,q=true↔Γ.k g-(cap-UC)=len:=by
  by_cases hc:Γ.k g-(cap-UC)=len
  ·exact ⟨true,⟨fun _=>hc,fun _=>rfl⟩⟩
  ·exact ⟨false,⟨(fun e=>by cases e),fun e=>absurd e hc⟩⟩
 refine ⟨q,fun Γ' h' w' hag hr' he'=>?_⟩
 obtain ⟨g',off',len',cap',hx',hg',hrun⟩:=eS0 hr' he'
 rw[hx] at hx'
 simp only[Value.slice.injEq,Option.some.injEq,Addr.mk.injEq] at hx'
 obtain ⟨⟨rfl,rfl,_⟩,rfl,rfl⟩:=hx'
 rw[hag.k g hg] at hrun
 exact hrun q hq
theorem cB1 {P:Program} {n:Nat} {t:TypeId} {x:Value} {lo hi mx:Option Value} {h:jA} {v1 v2:Value} (hx:sc n x=true) (he:tailV P t x lo hi mx h=some (v1,v2)):sc n v1=true∧sc n v2=true:=by
 unfold tailV at he
 split at he
 ·split at he
  ·split at he
   ·split at he
    ·split at he<;>cases he
     exact ⟨hx,hx⟩
    ·cases he
   ·cases he
  ·cases he
 ·cases he
theorem gI1 {i n:Nat} (h:(i:Int)<n):Nat.blt i n=true:=by simp;omega
theorem nI0 {P:Program} {o:Op} {t:TypeId} {tm:VT} {v:Value} (h:tp P o t tm=some v):kO P (bare o t) tm=some v:=by
 unfold tp at h
 split at h
 ·exact h
 ·exact h
 ·exact h
 ·exact h
 ·exact h
 ·exact h
 ·rename_i s x f
  simp only[bare,kO]
  unfold faV fld at h
  cases hu:P.underlying s with
  | none=>rw[hu] at h;cases h
  | some d=>
   rw[hu] at h
   cases d with
   | struct fs=>
    dsimp only at h ⊢
    cases hf:fs[f]? with
    | none=>rw[hf] at h;cases h
    | some fl=>
     rw[hf] at h
     dsimp only at h ⊢
     cases hs:szT P fl.type with
     | none=>rw[hs] at h;cases h
     | some n=>
      rw[hs] at h
      cases n with
      | zero=>cases h
      | succ n=>
       dsimp only at h
       split at h
       ·rename_i h1 h2
        cases h1
        cases h
        rw[h2]
        simp only[hf,hs]
       ·cases h
   | _=>cases h
 ·rename_i s x f
  simp only[bare,kO]
  unfold fdV fldT at h
  cases hu:P.underlying s with
  | none=>rw[hu] at h;cases h
  | some d=>
   rw[hu] at h
   cases d with
   | struct fs=>
    dsimp only at h ⊢
    cases hf:fs[f]? with
    | none=>rw[hf] at h;cases h
    | some fl=>
     rw[hf] at h
     dsimp only at h ⊢
     cases hs:knd P fl.type with
     | none=>rw[hs] at h;cases h
     | some bn=>
      obtain ⟨b,n⟩:=bn
      rw[hs] at h
      dsimp only at h
      split at h
      ·rename_i h1 h2
       cases h1
       rw[h2]
       simp only[hf]
       exact nR0 hs h
      ·cases h
   | _=>cases h
 ·rename_i s x i
  simp only[bare,kO]
  unfold iaV esz at h
  cases hu:P.underlying s with
  | none=>rw[hu] at h;cases h
  | some d=>
   rw[hu] at h
   cases d with
   | slice e=>
    dsimp only at h ⊢
    cases hs:szT P e with
    | none=>rw[hs] at h;cases h
    | some n=>
     rw[hs] at h
     dsimp only at h
     split at h
     ·rename_i h1 h2 h3
      cases h1
      split at h<;>cases h
      rename_i hc
      obtain ⟨j,rfl⟩:=Int.eq_ofNat_of_zero_le hc.1
      have hc2:=hc.2
      rw[h2,h3]
      show (match Nat.blt j _,szT P e with|true,some size=>_|_,_=>none)=_
      rw[gI1 hc2,hs]
      rfl
     ·rename_i h1 _ _;cases h1
     ·cases h
   | array len e=>
    dsimp only at h ⊢
    cases hs:szT P e with
    | none=>rw[hs] at h;cases h
    | some n=>
     rw[hs] at h
     dsimp only at h
     split at h
     ·rename_i h1 _ _;cases h1
     ·rename_i h1 h2 h3
      cases h1
      split at h<;>cases h
      rename_i hc
      obtain ⟨j,rfl⟩:=Int.eq_ofNat_of_zero_le hc.1
      have hc2:=hc.2
      rw[h2,h3]
      show (match Nat.blt j _,szT P e with|true,some size=>_|_,_=>none)=_
      rw[gI1 hc2,hs]
      rfl
     ·cases h
   | _=>cases h
 ·rename_i s x i
  simp only[bare,kO]
  unfold ixV ixT at h
  cases hu:P.underlying s with
  | none=>rw[hu] at h;cases h
  | some d=>
   rw[hu] at h
   cases d with
   | string=>
    dsimp only at h
    split at h
    ·rename_i s' k i' h1 h2 h3
     split at h<;>cases h
     rename_i hc
     obtain ⟨j,rfl⟩:=Int.eq_ofNat_of_zero_le hc.1
     rw[h2,h3]
     have hj:j<s'.size:=by have:=hc.2;omega
     have hb:s'[j]?=some s'[j]:=getElem?_pos s' j hj
     have hg:s'.data.toList.getD j 0=s'[j]:=by
      have hj':j<s'.data.toList.length:=by rw[Array.length_toList];exact hj
      rw[List.getD_eq_getElem?_getD,List.getElem?_eq_getElem hj']
      rfl
     have hpv:∀ {α β:Type} (f:α→Sem β) (s:Sem α),pv P (s >>= f)=(pv P s).bind (fun a=>pv P (f a)):=by
      intro α β f s
      show pv P (Sem.bind s f)=_
      induction s with
      | pure a=>rfl
      | program k ih=>exact ih P
      | mark m k ih=>exact ih
      | _=>rfl
     have hpu:pv P (underlying s)=some .string:=by
      simp only[underlying,hpv]
      simp only[program,pv,Option.bind_some,hu]
      rfl
     have hpp:∀ {α:Type} (a:α),pv P (pure a:Sem α)=some a:=fun a=>rfl
     have hj0:(0:Int)≤(j:Int):=hc.1
     simp only[pvF,Instr.index,asIntOf,hpv,hpp,hpu,Option.bind_some,if_pos hj0,Int.toNat_natCast,hb,gB1,hg,flat]
    ·rename_i h1 _ _;cases h1
    ·cases h
   | array len e=>
    dsimp only at h
    cases hk:knd P e with
    | none=>rw[hk] at h;cases h
    | some bn=>
     obtain ⟨b,n⟩:=bn
     rw[hk] at h
     cases hs:szT P e with
     | none=>rw[hs] at h;cases h
     | some z=>
      rw[hs] at h
      dsimp only at h
      split at h
      ·rename_i h1 _ _;cases h1
      ·rename_i h1 h2 h3
       cases h1
       split at h
       ·rename_i hc
        obtain ⟨j,rfl⟩:=Int.eq_ofNat_of_zero_le hc.1
        have hc2:=hc.2
        rw[h2,h3]
        show (match Nat.blt j len, szT P e with
          | true,some size=>dD0 P e _ (j*size)
          | _,_=>none)=_
        simp only[gI1 hc2,hs]
        exact nR0 hk h
       ·cases h
      ·cases h
   | _=>cases h
 ·exact yX2 h
 ·rename_i g f c
  cases h
  simp only[bare,kO]
  congr 2
  ·exact Array.ext' (by simp)
  ·exact Array.ext' (by simp)
 ·rename_i ty x
  simp only[bare,kO]
  unfold miV isI at h
  cases hu:P.underlying ty with
  | none=>rw[hu] at h;cases h
  | some d=>
   rw[hu] at h
   cases d<;>first|exact h|(cases h;done)
 ·exact h
 ·rename_i x ty
  unfold lnB lnT at h
  show (match P.underlying ty,ev tm x with
   | some .string,.string s=>some (goInt s.size)
   | some (.slice _),.slice _ n _=>some (goInt n)
   | _,_=>none)=_
  cases hu:P.underlying ty with
  | none=>rw[hu] at h;cases h
  | some d=>
   rw[hu] at h
   cases d with
   | string=>
    dsimp only at h
    split at h
    ·rename_i h2;rw[h2];exact h
    ·rename_i h1 _;cases h1
    ·cases h
   | slice e=>
    dsimp only at h
    split at h
    ·rename_i h1 _;cases h1
    ·rename_i h2;rw[h2];exact h
    ·cases h
   | _=>cases h
 ·rename_i args ts
  have:(⟨args.toList.map (ev tm)⟩:Array Value)=args.map (ev tm):=Array.ext' (by simp)
  show pvF P (Builtin.min_ ts t (args.map (ev tm))) (jT (args.map (ev tm)).toList)=_
  rw[← this];exact h
 ·rename_i args ts
  have:(⟨args.toList.map (ev tm)⟩:Array Value)=args.map (ev tm):=Array.ext' (by simp)
  show pvF P (Builtin.max_ ts t (args.map (ev tm))) (jT (args.map (ev tm)).toList)=_
  rw[← this];exact h
 ·cases h
theorem bR1 {P:Program} {o:Op} {t:TypeId} {tm:VT} {h:jA} {v:Value} (he:tv P o t tm h=some v):kO P (bare o t) tm=some v∨zE0 P (bare o t) tm h=some v:=by
 unfold tv at he
 split at he
 ·exact .inr he
 ·rename_i ty x lo hi mx
  unfold slV at he
  simp only[bare,kO,zE0]
  split at he
  ·rename_i s hx;left;rw[hx];exact he
  ·rename_i a n c hx
   rw[hx]
   split at he
   ·rename_i u hu;cases he;left;exact hu
   ·right;exact he
  ·rename_i a hx;left;rw[hx];exact he
  ·cases he
 ·rename_i s d x
  unfold cvV at he
  split at he
  ·rename_i u hu;cases he;exact .inl hu
  ·exact .inr he
 ·exact .inl (nI0 he)
def jA.add (h:jA) (x:qH):jA:=(h.new x).2
def O (cs:List Value) (e:TypeId) (m:Bool):qH:=⟨.cells ⟨cs⟩ e,m⟩
theorem wU0 {h:jA} {e:TypeId} {cs:List Value} {m:Bool} (hf:uF h.next cs=true):mkRow h e cs m=some (h.next,h.add (O cs e m)):=by
 unfold mkRow jA.add O
 rw[hf]
 rw[jA.new_eq]
def zro (P:Program) (e:TypeId):Option (List Value):=match zeroOf P e with
 | some z=>match flat z with
  | true=>match uF 0 z.cells.toList with
   | true=>some z.cells.toList
   | false=>none
  | false=>none
 | none=>none
theorem bW0 {n m:Nat} (hle:n≤m) {l:List Value} (h:uF n l=true):uF m l=true:=by
 simp only[uS,Bool.and_eq_true] at h ⊢
 exact ⟨h.1,qK fun v hv=>qX hle v (qP h.2 v hv)⟩
def alE (z:Option (List Value)) (e:TypeId) (h:jA):Option (Value×jA):=match z with
 | some cs=>some (.pointer (some ⟨h.next,0,none⟩),h.add (O cs e false))
 | none=>none
def bxE (e:TypeId) (v:Value) (h:jA):Option (Value×jA):=if uF h.next v.cells.toList=true then some (.pointer (some ⟨h.next,0,none⟩),h.add (O v.cells.toList e false)) else none
def slT (P:Program) (t:TypeId):Option (TypeId×Nat×List Value):=match P.underlying t with
 | some (.slice e)=>match P.info? e with
  | some i=>match i.zero with
   | some z=>match Nat.beq z.cells.size i.size&&Nat.blt 0 i.size&&jT z.cells.toList&&uF 0 z.cells.toList with
    | true=>some (e,i.size,z.cells.toList)
    | false=>none
   | none=>none
  | none=>none
 | _=>none
def bsE (z:Option (TypeId×Nat×List Value)) (len:Nat) (parts:List (Nat×Value)) (h:jA):Option (Value×jA):=match z with
 | some (e, n, zs) => if len * n ≤ 16777216 then
   match kV ((List.range len).map (fun i=>(i*n,n))) (List.replicate len zs).flatten parts with
   | some cs=>if uF h.next cs=true then some (.slice (some ⟨h.next,0,none⟩) len len,h.add (O cs e false)) else none
   | none=>none
  else none
 | none=>none
def stE (n:Option Nat) (a v:Value) (h:jA):Option (Value×jA):=match n,a with
 | some n,.pointer (some ⟨b,off,none⟩)=>match cells h b with
  | some (cs,e,m)=>if v.cells.toList.length=n∧uF h.next v.cells.toList=true∧h.lo≤b∧off+n≤cs.length then some (undef,h.put b (O (setFrom cs off v.cells.toList) e m)) else none
  | none=>none
 | _,_=>none
def mkT (P:Program) (t:TypeId):Option (TypeId×Nat×Nat×List Value):=match P.underlying t with
 | some (.slice e)=>match P.info? e with
  | some i=>match i.zero with
   | some z=>match Nat.beq z.cells.size i.size&&Nat.blt 0 i.size&&jT z.cells.toList&&uF 0 z.cells.toList with
    | true=>some (e,i.size,i.bytes,z.cells.toList)
    | false=>none
   | none=>none
  | none=>none
 | _=>none
def msE (z:Option (TypeId×Nat×Nat×List Value)) (l c:Value) (h:jA):Option (Value×jA):=match z,l,c with
 | some (e, _, by_, zs), .int _ l, .int _ c => if 0 ≤ l ∧ l ≤ c ∧ c * by_ + c < 100000000000000 then
   some (.slice (some ⟨h.next,0,none⟩) l.toNat c.toNat,h.add (O (List.replicate c.toNat zs).flatten e false)) else none
 | _,_,_=>none
def te (P:Program) (o:Op) (t:TypeId) (tm:VT) (h:jA):Option (Value×jA):=match o with
 | .alloc e=>alE (zro P e) e h
 | .box e x=>bxE e (ev tm x) h
 | .buildSlice ty len parts=>bsE (slT P ty) len (parts.toList.map fun x=>(x.1,ev tm x.2)) h
 | .store ty a x=>stE (szT P ty) (ev tm a) (ev tm x) h
 | .makeSlice ty l c=>msE (mkT P ty) (ev tm l) (ev tm c) h
 | .call ⟨.builtin .append,⟨[s,x]⟩,⟨[sT,xT]⟩⟩=>uZ P sT xT (ev tm s) (ev tm x) h
 | o=>wD0 P (bare o t) tm h
theorem bK0 {zs:List Value} (n:Nat) (hz:uF 0 zs=true) (m:Nat):uF m (List.replicate n zs).flatten=true:=by
 have h:=bW0 (Nat.zero_le m) hz
 simp only[uS,Bool.and_eq_true,List.all_eq_true] at h ⊢
 have hall:∀ v∈(List.replicate n zs).flatten,v∈zs:=fun v hv=>by
  simp only[List.mem_flatten] at hv
  obtain ⟨l,hl,hv⟩:=hv
  rw[(List.mem_replicate.1 hl).2] at hv
  exact hv
 exact ⟨fun v hv=>h.1 v (hall v hv),qK fun v hv=>qP h.2 v (hall v hv)⟩
theorem bY1 {P:Program} {o:Op} {t:TypeId} {tm:VT} {h h':jA} {v:Value} (he:te P o t tm h=some (v,h')):wD0 P (bare o t) tm h=some (v,h'):=by
 unfold te at he
 split at he
 ·rename_i e
  unfold alE zro at he
  simp only[bare,wD0]
  cases hz:zeroOf P e with
  | none=>rw[hz] at he;cases he
  | some z=>
   rw[hz] at he
   dsimp only at he ⊢
   cases hf:flat z with
   | false=>rw[hf] at he;cases he
   | true=>
    rw[hf] at he
    dsimp only at he ⊢
    cases ho:uF 0 z.cells.toList with
    | false=>rw[ho] at he;cases he
    | true=>
     rw[ho] at he
     cases he
     rw[wU0 (bW0 (Nat.zero_le _) ho)]
 ·rename_i e x
  unfold bxE at he
  split at he<;>cases he
  rename_i ho
  simp only[bare,wD0,wU0 ho]
 ·rename_i ty len parts
  unfold bsE slT at he
  simp only[bare,wD0]
  cases hu:P.underlying ty with
  | none=>rw[hu] at he;cases he
  | some d=>
   rw[hu] at he
   cases d with
   | slice e=>
    dsimp only at he ⊢
    cases hi:P.info? e with
    | none=>rw[hi] at he;cases he
    | some i=>
     rw[hi] at he
     dsimp only at he ⊢
     cases hz:i.zero with
     | none=>rw[hz] at he;cases he
     | some z=>
      rw[hz] at he
      dsimp only at he ⊢
      cases hb:Nat.beq z.cells.size i.size&&Nat.blt 0 i.size&&jT z.cells.toList&&uF 0 z.cells.toList with
      | false=>rw[hb] at he;cases he
      | true=>
       rw[hb] at he
       dsimp only at he
       simp only[Bool.and_eq_true] at hb
       split at he
       ·rename_i hle
        split at he
        ·rename_i cs hc
         split at he<;>cases he
         rename_i ho
         have hle':Nat.ble (len*i.size) 16777216=true:=by simpa using hle
         have hb':(Nat.beq z.cells.size i.size&&Nat.blt 0 i.size&&jT z.cells.toList)=true:=by simp only[Bool.and_eq_true];exact hb.1
         rw[hle']
         simp only[hb']
         rw[show (parts.toList.map fun (x:Nat×Operand)=>(x.1,ev tm x.2))=(parts.toList.map fun (j,x)=>(j,ev tm x)) from rfl] at hc
         rw[yJ0 (place:=fun j=>some (j*i.size,i.size)) (fun j x hx=>by
          rw[List.getElem?_map] at hx
          cases hr:(List.range len)[j]? with
          | none=>rw[hr] at hx;cases hx
          | some k=>
           rw[hr] at hx
           obtain ⟨_,hj⟩:=List.getElem?_eq_some_iff.1 hr
           simp at hj
           subst hj
           simpa using hx) _ _ _ hc]
         simp only[wU0 ho]
        ·cases he
       ·cases he
   | _=>cases he
 ·rename_i ty a x
  unfold stE at he
  simp only[bare,wD0,dW0]
  split at he
  ·rename_i n b off hn ha
   rw[ha]
   dsimp only
   split at he
   ·rename_i cs e m hc
    split at he<;>cases he
    rename_i hcond
    obtain ⟨h1,h2,h3,h4⟩:=hcond
    rw[hc]
    simp only[hn]
    have hb:(Nat.beq (ev tm x).cells.size n&&uF h.next (ev tm x).cells.toList&&Nat.ble h.lo b)=true:=by
     simp only[Bool.and_eq_true,Nat.beq_eq,Nat.ble_eq]
     exact ⟨⟨by simpa using h1,h2⟩,h3⟩
    rw[hb]
    have hs:=fA0 off (ev tm x).cells.toList cs (by omega)
    simp only[setN,hs]
    rfl
   ·cases he
  ·cases he
 ·rename_i ty l c
  unfold msE mkT at he
  simp only[bare,wD0,iA0]
  cases hu:P.underlying ty with
  | none=>rw[hu] at he;cases he
  | some d=>
   rw[hu] at he
   cases d with
   | slice e=>
    dsimp only at he ⊢
    cases hi:P.info? e with
    | none=>rw[hi] at he;cases he
    | some i=>
     rw[hi] at he
     dsimp only at he
     cases hz:i.zero with
     | none=>rw[hz] at he;cases he
     | some z=>
      rw[hz] at he
      dsimp only at he
      cases hb:Nat.beq z.cells.size i.size&&Nat.blt 0 i.size&&jT z.cells.toList&&uF 0 z.cells.toList with
      | false=>rw[hb] at he;cases he
      | true=>
       rw[hb] at he
       dsimp only at he
       simp only[Bool.and_eq_true] at hb
       split at he
       ·rename_i h1 h2 h3
        cases h1
        split at he<;>cases he
        rename_i hc
        obtain ⟨hl,hlc,hlim⟩:=hc
        obtain ⟨l',rfl⟩:=Int.eq_ofNat_of_zero_le hl
        obtain ⟨c',rfl⟩:=Int.eq_ofNat_of_zero_le (Int.le_trans hl hlc)
        rw[h2,h3]
        have hb':(Nat.beq z.cells.size i.size&&Nat.blt 0 i.size&&jT z.cells.toList)=true:=by simp only[Bool.and_eq_true];exact hb.1
        have hc':(Nat.ble l' c'&&Nat.blt (c'*i.bytes+c') U)=true:=by
         simp only[Bool.and_eq_true,Nat.ble_eq,Nat.blt_eq]
         refine ⟨by omega,?_⟩
         have:((c'*i.bytes+c':Nat):Int)<100000000000000:=by rw[Int.natCast_add,Int.natCast_mul];exact hlim
         unfold U
         omega
        show (match P.info? e with
         | some i=>match Nat.ble l' c'&&Nat.blt (c'*i.bytes+c') U,i.zero with
          | true,some z=>match Nat.beq z.cells.size i.size&&Nat.blt 0 i.size&&jT z.cells.toList with
           | true=>match mkRow h e (List.replicate c' z.cells.toList).flatten false with
            | some (b,h')=>some (Value.slice (some ⟨b,0,none⟩) l' c',h')
            | none=>none
           | false=>none
          | _,_=>none
         | none=>none)=_
        rw[hi]
        simp only[hc',hz,hb',wU0 (bK0 c' hb.2 h.next),Int.toNat_natCast]
       ·cases he
   | _=>cases he
 ·exact he
 ·exact he
inductive Cl where|take|eff|call
structure It where
 d:Option Nat
 g:Option (Nat×Bool)
 c:Cl
 o:Op
 t:TypeId
inductive PT where
 | fin
 | no
 | bad
 | take (i:Nat) (rd:Bool) (x:It) (k:PT)
 | eff (i:Nat) (x:It) (bind:List Nat) (k alt:PT)
inductive IR where
 | bad
 | skip
 | ret
 | exit (i:Nat)
 | goto (l:Nat)
 | label (l:Nat)
 | ops (l:List It)
 | plan (p:PT)
 | seq (a b:IR)
 | cond (x:Operand) (a b:IR)
 | block (i:Nat) (b:IR)
 | loop (b:IR)
 | scope (b:Code)
 | range (g:Operand) (ps:Array Tmp) (a b:Code)
def clOf (P:Program) (o:Oper):Cl:=
 match o.op with
 | .call ⟨.value _,_,_⟩=>.call
 | _=>match sS1 P o with | true=>.eff | false=>.take
def isRd (o:Op):Bool:=
 match o with
 | .load _ _=>true
 | .slice _ _ _ _ _=>true
 | .convert _ _ _=>true
 | _=>false
def It.of (P:Program) (ops:Array Oper) (o:Oper):Option It:=
 match o.guard with
 | none=>some ⟨o.dst,none,clOf P o,o.op,o.type⟩
 | some (j,w)=>match ops[j]? with
  | some oj=>match oj.dst with
   | some d=>some ⟨o.dst,some (d,w),clOf P o,o.op,o.type⟩
   | none=>none
  | none=>none
def dO0 (P:Program) (ops:Array Oper):List Oper→Option (List It)
 | []=>some []
 | o :: l=>match It.of P ops o,dO0 P ops l with
  | some x,some l=>some (x :: l)
  | _,_=>none
def eQ1 (o:Oper):List Nat:=(o.after.toList.filter (Region.binds .any)).map (·.on)
def hasN (i:Nat):List Nat→Bool
 | []=>false
 | x :: l=>match Nat.beq x i with | true=>true | false=>hasN i l
def sZ0 (ops:Array Oper):Nat→List Nat→List Nat→List Nat
 | 0,_,acc=>acc
 | _+1,[],acc=>acc
 | n+1,j :: todo,acc=>match hasN j acc with
  | true=>sZ0 ops n todo acc
  | false=>match ops[j]? with
   | none=>sZ0 ops n todo acc
   | some oj=>sZ0 ops n (eQ1 oj++todo) (j :: acc)
def uU0 (ops:Array Oper) (o:Oper):List Nat:=sZ0 ops 1000 (eQ1 o) []
def mkPT (P:Program) (ops:Array Oper):Nat→Array Bool→PT
 | 0,listed=>match Region.ready .any ops listed with | []=>.fin | _=>.bad
 | n+1,listed=>match Region.ready .any ops listed with
  | []=>.fin
  | r :: rs=>match firstFree P ops listed (r :: rs) with
   | some (i,o)=>match It.of P ops o with
    | some x=>.take i (isRd o.op) x (mkPT P ops n (listed.setIfInBounds i true))
    | none=>.bad
   | none=>(r :: rs).foldr (fun r alt=>match ops[r]? with
    | some o=>match It.of P ops o with
     | some x=>.eff r x (uU0 ops o) (mkPT P ops n (listed.setIfInBounds r true)) alt
     | none=>.bad
    | none=>.bad) .no
def comp (P:Program):Code→IR
 | .skip=>.skip
 | .region _ ops d=>match d with
  | false=>match dO0 P ops ops.toList with
   | some l=>.ops l
   | none=>.bad
  | true=>.plan (mkPT P ops ops.size (Array.replicate ops.size false))
 | .seq a b=>.seq (comp P a) (comp P b)
 | .cond x a b=>.cond x (comp P a) (comp P b)
 | .block i b=>.block i (comp P b)
 | .loop b=>.loop (comp P b)
 | .rangeFunc g ps a b=>.range g ps a b
 | .exit i=>.exit i
 | .scope b=>.scope b
 | .label l=>.label l
 | .goto l=>.goto l
 | .ret=>.ret
 | .refuse _=>.bad
def subs:Code→List Code
 | .seq a b=>subs a++subs b
 | .cond _ a b=>subs a++subs b
 | .block _ b=>subs b
 | .loop b=>subs b
 | .rangeFunc _ _ a b=>a :: b :: (subs a++subs b)
 | .scope b=>b :: subs b
 | _=>[]
def kY (P:Program) (f k:Nat):Code:=
 match P.funcs[f]? with
 | some fn=>match fn.body with
  | some c=>((subs c)[k]?).getD .skip
  | none=>.skip
 | none=>.skip
structure FIR where
 n:Nat
 a:Nat
 rs:List ResultVar
 ir:IR
def fir (P:Program) (g:Nat):Option FIR:=
 match P.funcs[g]? with
 | some fn=>match fn.body with
  | some c=>some ⟨fn.ntmps,fn.params.size+fn.nfree,fn.results.toList,comp P c⟩
  | none=>none
 | none=>none
def oP (r:Option Value) (h:jA) (k:Value→jA→Prop):Prop:=match r with|some v=>k v h|none=>False
def oE (r:Option (Value×jA)) (k:Value→jA→Prop):Prop:=match r with|some (v,h)=>k v h|none=>False
def oT (r:Option Value) (r2:Option (Value×Value)) (h:jA) (k:Value→jA→Prop):Prop:=match r with
 | some v=>k v h
 | none=>match r2 with
  | some (a,b)=>k a h∧k b h
  | none=>False
def gV (v:Value) (w:Bool) (A B:Prop):Prop:=match v with | .bool b=>(b=w→A)∧(b≠w→B)|_=>B
def vgd (tm:VT) (g:Option (Nat×Bool)) (A B:Prop):Prop:=match g with|none=>A|some (d,w)=>gV (tm.get d) w A B
def vop (p:Par) (c:Cl) (o:Op) (t:TypeId) (tm:VT) (h:jA) (k:Value→jA→Prop):Prop:=
 match c with
 | .take=>oT (tv p.P o t tm h) (tw p.P o tm h) h k
 | .eff=>oE (te p.P o t tm h) k
 | .call=>match o with
  | .call ⟨.value f,args,_⟩=>yB0 p (ev tm f) (args.toList.map (ev tm)) h k
  | _=>False
def vops (p:Par):List It→VT→jA→(VT→jA→Prop)→Prop
 | [],tm,h,K=>K tm h
 | x :: l,tm,h,K=>vgd tm x.g (vop p x.c x.o x.t tm h fun v h'=>vops p l (put tm x.d v) h' K) (vops p l (put tm x.d undef) h K)
abbrev HL:=List (Nat×(jA→Option Value)×Value)
def bI0 (bind:List Nat) (h:jA):HL→Prop
 | []=>True
 | (i,rd,v) :: L=>(match bind.contains i with | true=>True | false=>rd h=some v)∧bI0 bind h L
def gR0 (bind:List Nat) (L:HL):HL:=L.filter fun e=>!bind.contains e.1
def uT (p:Par):PT→HL→VT→jA→(VT→jA→Prop)→Prop
 | .fin,_,tm,h,K=>K tm h
 | .no,_,_,_,_=>True
 | .bad,_,_,_,_=>False
 | .take i rd x k, L, tm, h, K => vgd tm x.g
   (match rd with
    | false=>oP (tp p.P x.o x.t tm) h fun v _=>uT p k L (put tm x.d v) h K
    | true=>match tv p.P x.o x.t tm h with
     | some v=>uT p k ((i,fun h'=>tv p.P x.o x.t tm h',v) :: L) (put tm x.d v) h K
     | none=>match tw p.P x.o tm h with
      | some (a,b)=>uT p k ((i,fun h'=>(tw p.P x.o tm h').map (·.1),a) :: L) (put tm x.d a) h K∧uT p k ((i,fun h'=>(tw p.P x.o tm h').map (·.2),b) :: L) (put tm x.d b) h K
      | none=>False)
   (uT p k L (put tm x.d undef) h K)
 | .eff _ x bind k alt,L,tm,h,K=>vgd tm x.g (vop p x.c x.o x.t tm h fun v h'=>bI0 bind h' L∧uT p k (gR0 bind L) (put tm x.d v) h' K) (uT p k (gR0 bind L) (put tm x.d undef) h K)∧uT p alt L tm h K
def uW0 (v:Value) (A B:Prop):Prop:=match v with | .bool b=>(b=true→A)∧(b=false→B)|_=>False
def W (p:Par) (ro:Option Nat) (ir:IR) (s:S) (R:jL→S→Prop):Prop:=∀ c,comp p.P c=ir→WP p ro c s R
def vc (p:Par) (ro:Option Nat):IR→S→(jL→S→Prop)→Prop
 | .bad,_,_=>False
 | .skip,s,R=>R .normal s
 | .ret,s,R=>R .ret s
 | .exit i,s,R=>R (.exit i) s
 | .goto l,s,R=>R (.goto l) s
 | .label _,s,R=>R .normal s
 | .ops l,s,R=>vops p l s.tm s.h fun tm h=>R .normal ⟨tm,s.df,h⟩
 | .plan t,s,R=>uT p t [] s.tm s.h fun tm h=>R .normal ⟨tm,s.df,h⟩
 | .seq a b,s,R=>vc p ro a s (cL0 (fun s1=>vc p ro b s1 R) R)
 | .cond x a b,s,R=>uW0 (ev s.tm x) (vc p ro a s R) (vc p ro b s R)
 | .block i b,s,R=>vc p ro b s (outR i R)
 | .loop b,s,R=>W p ro (.loop b) s R
 | .scope b,s,R=>WPin p ro b b s R
 | .range g ps a b,s,R=>W p ro (.range g ps a b) s R
theorem sX1 {v:Value} {w:Bool} {A B:Prop} (h:gV v w A B):(v=.bool w∧A)∨(v≠.bool w∧B):=by
 unfold gV at h
 split at h
 ·rename_i b
  by_cases e:b=w
  ·exact .inl ⟨by rw[e],h.1 e⟩
  ·exact .inr ⟨fun e2=>e (by cases e2;rfl),h.2 e⟩
 ·rename_i hne
  exact .inr ⟨fun e=>hne _ e,h⟩
theorem cF0 {P:Program} {ops:Array Oper} {o:Oper} {x:It} {tm:VT} {A B:Prop} (hx:It.of P ops o=some x) (h:vgd tm x.g A B) :
  (wanted ops.toList tm o=some true∧A)∨(wanted ops.toList tm o=some false∧B):=by
 unfold It.of at hx
 split at hx
 ·rename_i hg
  cases hx
  exact .inl ⟨by simp[wanted,hg],h⟩
 ·rename_i j w hg
  split at hx
  ·rename_i oj hj
   split at hx<;>cases hx
   rename_i d hd
   have hj':ops.toList[j]?=some oj:=by rw[Array.getElem?_toList];exact hj
   have hy:yl ops.toList tm j=match tm.get d with | .bool b=>some b|_=>none:=by
    simp only[yl,hj',hd]
    rfl
   rcases sX1 h with ⟨he,ha⟩|⟨hne,hb⟩
   ·refine .inl ⟨?_,ha⟩
    simp only[wanted,hg,hy,he]
    cases w<;>rfl
   ·refine .inr ⟨?_,hb⟩
    simp only[wanted,hg,hy]
    cases hv:tm.get d with
    | bool b=>rw[hv] at hne;cases b<;>cases w<;>simp_all
    | _=>rfl
  ·cases hx
theorem It.of_eq {P:Program} {ops:Array Oper} {o:Oper} {x:It} (hx:It.of P ops o=some x):x.d=o.dst∧x.c=clOf P o∧x.o=o.op∧x.t=o.type:=by
 unfold It.of at hx
 split at hx
 ·cases hx;exact ⟨rfl,rfl,rfl,rfl⟩
 ·split at hx
  ·split at hx<;>cases hx;exact ⟨rfl,rfl,rfl,rfl⟩
  ·cases hx
theorem mH0 (P:Program) (o:Oper) (tm:VT):kO P (bare o.op o.type) tm=kO P o tm:=rfl
theorem mG0 (P:Program) (o:Oper) (tm:VT) (h:jA):zE0 P (bare o.op o.type) tm h=zE0 P o tm h:=rfl
theorem jZ1 {p:Par} {Γ:Gam} {tm:VT} {h:jA} {ca:Act} {w:World} (hr:jY p Γ h w) (ht:Tm Γ p.NG tm ca) (hsc:∀ x∈tm.arr.toList,sc h.next x=true) {o:Oper}
  (hop:o.op.operands.all (uE p.NG)=true) {v:Value} (he:tv p.P o.op o.type tm h=some v):(execOp ca.eval o).run p.P w=.ok (.value (con Γ v)) w∧sc h.next v=true:=by
 rcases bR1 he with he|he
 ·rw[mH0] at he
  exact ⟨bX0 ht hop he w,fZ0 hr hsc hop he⟩
 ·rw[mG0] at he
  exact ⟨sR0 hr ht hop he,yE1 hr hsc hop he⟩
theorem lF1 {p:Par} {Γ:Gam} {tm:VT} {h:jA} {ca:Act} {w:World} (hr:jY p Γ h w) (ht:Tm Γ p.NG tm ca) (hsc:∀ x∈tm.arr.toList,sc h.next x=true) {o:Oper}
  (hop:o.op.operands.all (uE p.NG)=true) {v1 v2:Value} (he:tw p.P o.op tm h=some (v1,v2)) :
  ∃ b:Bool,(∀ Γ' h' w',Ag Γ Γ' h.next→h.next≤h'.next→jY p Γ' h' w'→tw p.P o.op tm h'=some (v1,v2)→(execOp ca.eval o).run p.P w'=.ok (.value (con Γ' (if b then v1 else v2))) w')∧sc h.next v1=true∧sc h.next v2=true:=by
 have hng:p.NG≤h.next:=by have:=hr.ng;have:=hr.gn;omega
 unfold tw at he
 split at he
 ·rename_i ty x lo hi mx ho
  have hscv:sc h.next (ev tm x)=true:=sQ0 hr hsc (by
   rw[Array.all_eq_true_iff_forall_mem] at hop;exact hop x (by simp[ho,Op.operands]))
  obtain ⟨b,hb⟩:=qE1 hr he
  refine ⟨b,fun Γ' h' w' hag hle hr' he'=>?_,cB1 hscv he⟩
  have ht':=ht.ag hsc hag hng
  have hev:∀ x∈o.op.operands,ca.eval x=con Γ' (ev tm x):=fun x hx=>ht'.eval (by
   rw[Array.all_eq_true_iff_forall_mem] at hop;exact hop x hx)
  have hx:=hev x (by simp[ho,Op.operands])
  have hlo:lo.map ca.eval=(lo.map (ev tm)).map (con Γ'):=by
   cases lo with
   | none=>rfl
   | some y=>simp[hev y (by simp[ho,Op.operands])]
  have hhi:hi.map ca.eval=(hi.map (ev tm)).map (con Γ'):=by
   cases hi with
   | none=>rfl
   | some y=>simp[hev y (by simp[ho,Op.operands])]
  have hmx:mx.map ca.eval=(mx.map (ev tm)).map (con Γ'):=by
   cases mx with
   | none=>rfl
   | some y=>simp[hev y (by simp[ho,Op.operands])]
  have he2:tailV p.P ty (ev tm x) (lo.map (ev tm)) (hi.map (ev tm)) (mx.map (ev tm)) h'=some (v1,v2):=by rw[ho] at he';exact he'
  have:=hb Γ' h' w' hag hr' he2
  simp only[execOp,ho,hx,hlo,hhi,hmx,Sem.run_bind,this,Result.andThen_ok,Sem.run_pure]
 ·cases he
theorem jV1 {p:Par} {Γ:Gam} {tm:VT} {h:jA} {ca:Act} {w:World} (hr:jY p Γ h w) (ht:Tm Γ p.NG tm ca) (hsc:∀ x∈tm.arr.toList,sc h.next x=true) {o:Oper} (hoo:qA0 p.NG o=true)
  {c:Cl} {R:Value→jA→Prop} (hv:vop p c o.op o.type tm h R) {F:Fence} (hF:FW F) {n:Nat} {K:Act→World→Prop} {Q:Exit→Act→World→Prop}
  (hK:∀ (v:Value) (h':jA) (Γ':Gam) (w':World),R v h'→Ag Γ Γ' h.next→h.next≤h'.next→Below p.B w w'→jY p Γ' h' w'→sc h'.next v=true→K (ca.put o.dst (con Γ' v)) w') :
  o.uponIn F n p.P ca K Q ((execOp ca.eval o).run p.P w):=by
 have hop:o.op.operands.all (uE p.NG)=true:=by simp only[qA0,Bool.and_eq_true] at hoo;exact hoo.1
 unfold vop at hv
 split at hv
 ·unfold oT at hv
  split at hv
  ·rename_i v he
   obtain ⟨hrun,hs⟩:=jZ1 hr ht hsc hop he
   rw[hrun]
   exact hK v h Γ w hv (Ag.refl _ _) (Nat.le_refl _) (Below.refl _ _) hr hs
  ·split at hv
   ·rename_i v1 v2 he
    obtain ⟨b,hrun,hs1,hs2⟩:=lF1 hr ht hsc hop he
    have hrun:=hrun Γ h w (Ag.refl _ _) (Nat.le_refl _) hr he
    rw[hrun]
    cases b with
    | true=>exact hK v1 h Γ w hv.1 (Ag.refl _ _) (Nat.le_refl _) (Below.refl _ _) hr hs1
    | false=>exact hK v2 h Γ w hv.2 (Ag.refl _ _) (Nat.le_refl _) (Below.refl _ _) hr hs2
   ·exact hv.elim
 ·unfold oE at hv
  split at hv
  ·rename_i v h' he
   have he':wD0 p.P o tm h=some (v,h'):=bY1 he
   have hs:=eA1 hr hsc hop he'
   obtain ⟨Γ',w',nx,h1,h2,h3,h4,h5,h6⟩:=yF1 hr ht hop he'
   rw[h1]
   rcases h2 with rfl|⟨rfl,rfl⟩
   ·exact hK v h' Γ' w' hv h3 h4 h6.below h5 hs
   ·exact hK undef h' Γ' w' hv h3 h4 h6.below h5 hs
  ·exact hv.elim
 ·split at hv
  ·rename_i f args ats ho
   have hev:∀ x∈o.op.operands,ca.eval x=con Γ (ev tm x):=fun x hx=>ht.eval (by
    rw[Array.all_eq_true_iff_forall_mem] at hop;exact hop x hx)
   have hscv:∀ x∈o.op.operands,sc h.next (ev tm x)=true:=fun x hx=>sQ0 hr hsc (by
    rw[Array.all_eq_true_iff_forall_mem] at hop;exact hop x hx)
   have hf:=hev f (by simp[ho,Op.operands,Call.operands])
   have hargs:args.map ca.eval=⟨(args.toList.map (ev tm)).map (con Γ)⟩:=by
    apply Array.ext'
    simp only[Array.toList_map,List.map_map]
    apply List.map_congr_left
    intro y hy
    exact hev y (by simp[ho,Op.operands,Call.operands];exact .inr (by simpa using hy))
   unfold yB0 at hv
   split at hv
   ·rename_i g captured hfe
    have hrun:(execOp ca.eval o).run p.P w=(callFunc g ⟨(args.toList.map (ev tm)++captured).map (con Γ)⟩).run p.P w:=by
     simp only[execOp,ho,resolve,hf,hfe,bA,kG0,Deferred.ofValue,Sem.run_bind,Sem.run_pure,Result.andThen_ok,invoke,hargs]
     simp
    rw[hrun]
    refine hv Γ w hr ?_ o F hF n ca K Q hK
    intro x hx
    simp only[List.mem_append,List.mem_map] at hx
    rcases hx with ⟨y,hy,rfl⟩|hx
    ·exact hscv y (by simp[ho,Op.operands,Call.operands];exact .inr (by simpa using hy))
    ·have:=hscv f (by simp[ho,Op.operands,Call.operands])
     rw[hfe] at this
     simp only[sc,Bool.and_eq_true] at this
     exact qP this.2 x hx
   ·rename_i l captured hfe
    have hrun:(execOp ca.eval o).run p.P w=(Instr.yield (Γ.b l) ⟨(args.toList.map (ev tm)).map (con Γ)⟩).run p.P w:=by
     simp only[execOp,ho,resolve,hf,hfe,bA,kG0,Deferred.ofValue,Sem.run_bind,Sem.run_pure,Result.andThen_ok,invoke,hargs]
     simp
    rw[hrun]
    refine hv Γ w hr ?_ o F hF n ca K Q hK
    intro x hx
    simp only[List.mem_map] at hx
    obtain ⟨y,hy,rfl⟩:=hx
    exact hscv y (by simp[ho,Op.operands,Call.operands];exact .inr (by simpa using hy))
   ·exact hv.elim
  ·exact hv.elim
structure bC1 (p:Par) (Γ:Gam) (h:jA) (w:World) (df:List Deferred) (K:VT→jA→Prop) (Q:Act→World→Prop):Prop where
 go:∀ tm' h' Γ' ca' w',K tm' h'→Ag Γ Γ' h.next→h.next≤h'.next→Below p.B w w'→jY p Γ' h' w'→Tm Γ' p.NG tm' ca'→(∀ x∈tm'.arr.toList,sc h'.next x=true)→ca'.defers=df→Q ca' w'
theorem bC1.step {p:Par} {Γ Γ':Gam} {h h1:jA} {w w':World} {df:List Deferred} {K:VT→jA→Prop} {Q:Act→World→Prop} (hn:bC1 p Γ h w df K Q)
  (hg:Ag Γ Γ' h.next) (hle:h.next≤h1.next) (hb:Below p.B w w'):bC1 p Γ' h1 w' df K Q:=
 ⟨fun tm' h' Γ'' ca' w'' hk hg' hle' hb' hr' ht' hs' hd'=>hn.go tm' h' Γ'' ca' w'' hk (hg.trans hg' hle) (by omega) (hb.trans hb') hr' ht' hs' hd'⟩
theorem bI1 {p:Par} {ops:Array Oper} (hops:∀ o∈ops.toList,qA0 p.NG o=true) {F:Fence} (hF:FW F) {n:Nat} {Q:Exit→Act→World→Prop} {df:List Deferred} {K:VT→jA→Prop} :
  ∀ (l:List Oper) (k:Nat) (xs:List It) (tm:VT) (h:jA),ops.toList.drop k=l→dO0 p.P ops l=some xs→vops p xs tm h K→
  ∀ (Γ:Gam) (ca:Act) (w:World),jY p Γ h w→Tm Γ p.NG tm ca→(∀ x∈tm.arr.toList,sc h.next x=true)→ca.defers=df→bC1 p Γ h w df K (fun a w=>Q .normal a w)→
  wpOpsIn F n p.P ops Q (List.range' k l.length) ca w:=by
 intro l
 induction l with
 | nil=>
  intro k xs tm h _ hxs he Γ ca w hr ht hs hd hn
  cases hxs
  simp only[List.length_nil,List.range'_zero,wpOpsIn]
  exact hn.go tm h Γ ca w he (Ag.refl _ _) (Nat.le_refl _) (Below.refl _ _) hr ht hs hd
 | cons o rest ih=>
  intro k xs tm h hl hxs he Γ ca w hr ht hs hd hn
  have hk:ops[k]?=some o:=by
   rw[← Array.getElem?_toList]
   have:(ops.toList.drop k)[0]?=some o:=by rw[hl];rfl
   simpa using this
  have hrest:ops.toList.drop (k+1)=rest:=by
   have:(ops.toList.drop k).drop 1=rest:=by rw[hl];rfl
   simpa[List.drop_drop,Nat.add_comm] using this
  have hoo:qA0 p.NG o=true:=hops o (by rw[← Array.getElem?_toList] at hk;exact List.mem_of_getElem? hk)
  have hpl:=qR0 hoo
  simp only[dO0] at hxs
  split at hxs<;>cases hxs
  rename_i x xs hx hxs
  obtain ⟨e1,e2,e3,e4⟩:=It.of_eq hx
  simp only[vops] at he
  simp only[List.length_cons,List.range'_succ,wpOpsIn,hk]
  have hw:=yO0 ht ops o
  have hng:p.NG≤h.next:=by have:=hr.ng;have:=hr.gn;omega
  rcases cF0 hx he with ⟨hwt,he⟩|⟨hwt,he⟩
  ·rw[hwt] at hw
   simp only[Option.getD_some] at hw
   simp only[hw,if_true]
   refine ⟨fun f _=>hF.fn f,?_⟩
   rw[Oper.semAt_eq _ _ _ hpl.1]
   rw[e3,e4] at he
   refine jV1 hr ht hs hoo he hF fun v h1 Γ' w' hv hg hle hbel hr' hsv=>?_
   rw[e1] at hv
   exact ih (k+1) xs _ h1 hrest hxs hv Γ' _ w' hr' (ht.put hs hg hng o.dst v) (wO0 ht.sm hs hle o.dst hsv) (by rw[put_defers];exact hd) (hn.step hg hle hbel)
  ·rw[hwt] at hw
   simp only[Option.getD_some] at hw
   simp only[hw,Bool.false_eq_true,if_false]
   refine ⟨fun f _=>hF.fn f,?_⟩
   have:=ht.put hs (Ag.refl Γ h.next) hng o.dst undef
   rw[qX0] at this
   rw[e1] at he
   exact ih (k+1) xs _ h hrest hxs he Γ _ w hr this (wO0 ht.sm hs (Nat.le_refl _) o.dst rfl) (by rw[put_defers];exact hd) hn
def bC0 (p:Par) (Γ:Gam) (n:Nat) (ops:Array Oper) (dn:List Nat) (L:HL) (Lc:List (Nat×Sem Go.Next×Value)):Prop:=
 ∀ x∈Lc,¬ gD0 .any ops dn x.1∨∃ rd v,(x.1,rd,v)∈L∧∀ Γ' h' w',Ag Γ Γ' n→n≤h'.next→jY p Γ' h' w'→rd h'=some v→x.2.1.run p.P w'=.ok (.value x.2.2) w'
theorem bC0.ag {p:Par} {Γ Γ':Gam} {n m:Nat} (hg:Ag Γ Γ' n) (hn:n≤m) {ops:Array Oper} {dn:List Nat} {L:HL} {Lc:List (Nat×Sem Go.Next×Value)} (h:bC0 p Γ n ops dn L Lc):bC0 p Γ' m ops dn L Lc:=fun x hx=>by
 rcases h x hx with h1|⟨rd,v,h1,h2⟩
 ·exact .inl h1
 ·exact .inr ⟨rd,v,h1,fun Γ'' h' w' hg' hle' hr' he=>h2 Γ'' h' w' (hg.trans hg' hn) (by omega) hr' he⟩
theorem bC0.cons {p:Par} {Γ:Gam} {n:Nat} {ops:Array Oper} {dn:List Nat} {L:HL} {Lc:List (Nat×Sem Go.Next×Value)} (h:bC0 p Γ n ops dn L Lc) {i:Nat} {rd:jA→Option Value} {v u:Value} {s:Sem Go.Next}
  (hr:∀ Γ' h' w',Ag Γ Γ' n→n≤h'.next→jY p Γ' h' w'→rd h'=some v→s.run p.P w'=.ok (.value u) w'):bC0 p Γ n ops dn ((i,rd,v) :: L) ((i,s,u) :: Lc):=fun x hx=>by
 rcases List.mem_cons.1 hx with rfl|hx
 ·exact .inr ⟨rd,v,List.mem_cons_self ..,hr⟩
 ·rcases h x hx with h1|⟨rd,v,h1,h2⟩
  ·exact .inl h1
  ·exact .inr ⟨rd,v,List.mem_cons_of_mem _ h1,h2⟩
theorem iG0 {o:Oper} {i:Nat} (h:i∈eQ1 o):∃ e∈o.after,Region.binds .any e=true∧e.on=i:=by
 simp only[eQ1,List.mem_map,List.mem_filter] at h
 obtain ⟨e,⟨h1,h2⟩,h3⟩:=h
 exact ⟨e,by simpa using h1,h2,h3⟩
theorem zI0 {ops:Array Oper} {k:Nat}:∀ (n:Nat) (todo acc:List Nat),(∀ i∈todo,Beh .any ops k i)→(∀ i∈acc,Beh .any ops k i)→∀ i∈sZ0 ops n todo acc,Beh .any ops k i
 | 0,_,_,_,ha=>ha
 | _+1,[],_,_,ha=>ha
 | n+1,j :: todo,acc,ht,ha=>by
  have ht':∀ i∈todo,Beh .any ops k i:=fun i hi=>ht i (List.mem_cons_of_mem _ hi)
  have hj:=ht j (List.mem_cons_self ..)
  unfold sZ0
  split
  ·exact zI0 n _ _ ht' ha
  ·split
   ·exact zI0 n _ _ ht' ha
   ·rename_i oj hoj
    refine zI0 n _ _ (fun i hi=>?_) (fun i hi=>?_)
    ·rcases List.mem_append.1 hi with hi|hi
     ·obtain ⟨e,h1,h2,rfl⟩:=iG0 hi
      exact hj.snoc hoj h1 h2
     ·exact ht' i hi
    ·rcases List.mem_cons.1 hi with rfl|hi
     ·exact hj
     ·exact ha i hi
theorem cA0 {ops:Array Oper} {k:Nat} {o:Oper} (hk:ops[k]?=some o) {i:Nat} (h:(uU0 ops o).contains i=true):Beh .any ops k i:=by
 rw[List.contains_iff_mem] at h
 refine zI0 1000 _ _ (fun i hi=>?_) (fun i hi=>(by cases hi)) i h
 obtain ⟨e,h1,h2,rfl⟩:=iG0 hi
 exact .one hk h1 h2
theorem fP0 {b:List Nat} {h:jA}:∀ {L:HL},bI0 b h L→∀ {i:Nat} {rd:jA→Option Value} {v:Value},(i,rd,v)∈L→b.contains i=false→rd h=some v
 | [],_,_,_,_,hm,_=>by cases hm
 | (i',rd',v') :: L,hk,i,rd,v,hm,hc=>by
  simp only[bI0] at hk
  rcases List.mem_cons.1 hm with e|hm
  ·cases e
   have h2:=hk.1
   rw[hc] at h2
   exact h2
  ·exact fP0 hk.2 hm hc
theorem gC0 {ops:Array Oper} {dn:List Nat} {j i:Nat} (h:gD0 .any ops (j :: dn) i):gD0 .any ops dn i:=fun k hk=>h k (List.mem_cons_of_mem _ hk)
theorem wQ1 {p:Par} {Γ:Gam} {h:jA} {w:World} {n:Nat} (hr:jY p Γ h w) (hn:n≤h.next) {ops:Array Oper} {j:Nat} {o:Oper} (hj:ops[j]?=some o) {dn:List Nat} {L:HL} {Lc:List (Nat×Sem Go.Next×Value)} (hy:bC0 p Γ n ops dn L Lc) (hk:bI0 (uU0 ops o) h L) :
  kZ0 p.P ops Lc (j :: dn) w:=fun x hx hno=>by
 rcases hy x hx with h1|⟨rd,v,h1,h2⟩
 ·exact absurd (gC0 hno) h1
 ·cases hc:(uU0 ops o).contains x.1 with
  | true=>
   exact absurd (cA0 hj hc) (hno j (List.mem_cons_self ..))
  | false=>exact h2 Γ h w (Ag.refl _ _) hn hr (fP0 hk h1 hc)
theorem bC0.step {p:Par} {Γ:Gam} {n:Nat} {ops:Array Oper} {dn:List Nat} {L:HL} {Lc:List (Nat×Sem Go.Next×Value)} (h:bC0 p Γ n ops dn L Lc) {j:Nat} {o:Oper} (hj:ops[j]?=some o):bC0 p Γ n ops (j :: dn) (gR0 (uU0 ops o) L) Lc:=fun x hx=>by
 rcases h x hx with h1|⟨rd,v,h1,h2⟩
 ·exact .inl fun hh=>h1 (gC0 hh)
 ·cases hc:(uU0 ops o).contains x.1 with
  | true=>
   exact .inl fun hh=>hh j (List.mem_cons_self ..) (cA0 hj hc)
  | false=>exact .inr ⟨rd,v,List.mem_filter.2 ⟨h1,by simp only[hc];rfl⟩,h2⟩
theorem fU0 {P:Program} {ops:Array Oper} {m:Nat→PT} {p:Par} {L:HL} {tm:VT} {h:jA} {K:VT→jA→Prop}:∀ (l:List Nat),
  uT p (l.foldr (fun r alt => match ops[r]? with
    | some o=>match It.of P ops o with
     | some x=>.eff r x (uU0 ops o) (m r) alt
     | none=>.bad
    | none=>.bad) .no) L tm h K→∀ r∈l,∃ o x,ops[r]?=some o∧It.of P ops o=some x∧
     vgd tm x.g (vop p x.c x.o x.t tm h fun v h'=>bI0 (uU0 ops o) h' L∧uT p (m r) (gR0 (uU0 ops o) L) (put tm x.d v) h' K) (uT p (m r) (gR0 (uU0 ops o) L) (put tm x.d undef) h K)
 | [],_,r,hr=>by cases hr
 | a :: l,hv,r,hr=>by
  simp only[List.foldr_cons] at hv
  split at hv
  ·rename_i o ho
   split at hv
   ·rename_i x hx
    simp only[uT] at hv
    rcases List.mem_cons.1 hr with rfl|hr
    ·exact ⟨o,x,ho,hx,hv.1⟩
    ·exact fU0 l hv.2 r hr
   ·exact hv.elim
  ·exact hv.elim
theorem jT1 {p:Par} {ops:Array Oper} (hops:∀ o∈ops.toList,qA0 p.NG o=true) {F:Fence} (hF:FW F) {n:Nat} {Q:Exit→Act→World→Prop}
  (hQ:∀ c a a' w,Q (.panic c) a w→Q (.panic c) a' w) {df:List Deferred} {K:VT→jA→Prop} :
  ∀ (fuel:Nat) (listed:Array Bool) (dn:List Nat) (L:HL) (tm:VT) (h:jA),bC .any ops listed dn→uT p (mkPT p.P ops fuel listed) L tm h K→
  ∀ (Γ:Gam) (ca:Act) (w:World) (Lc:List (Nat×Sem Go.Next×Value)),jY p Γ h w→Tm Γ p.NG tm ca→(∀ x∈tm.arr.toList,sc h.next x=true)→ca.defers=df→bC0 p Γ h.next ops dn L Lc→
  bC1 p Γ h w df K (fun a w=>Q .normal a w)→
  anyX F n p.P .any ops Q (kZ0 p.P ops Lc) fuel listed dn ca w:=by
 intro fuel
 have hsel:Region.noSelect ops=true:=by
  simp only[Region.noSelect,Array.all_eq_true_iff_forall_mem]
  intro o ho
  have:=qR0 (hops o (by simpa using ho))
  split
  ·rename_i cs b hc;exact absurd hc (this.2 cs b)
  ·rfl
 induction fuel with
 | zero=>
  intro listed dn L tm h hcl he Γ ca w Lc hr ht hs hd hL hn
  simp only[mkPT] at he
  split at he
  ·rename_i hrd
   exact ⟨hrd,hn.go tm h Γ ca w he (Ag.refl _ _) (Nat.le_refl _) (Below.refl _ _) hr ht hs hd⟩
  ·exact he.elim
 | succ fuel ih=>
  intro listed dn L tm h hcl he Γ ca w Lc hr ht hs hd hL hn
  have hng:p.NG≤h.next:=by have:=hr.ng;have:=hr.gn;omega
  simp only[mkPT] at he
  split at he
  ·rename_i hrd
   exact ⟨fun _=>hn.go tm h Γ ca w he (Ag.refl _ _) (Nat.le_refl _) (Below.refl _ _) hr ht hs hd,fun i hi=>by rw[hrd] at hi;cases hi⟩
  ·rename_i r rs hrd
   split at he
   ·rename_i i o hff
    obtain ⟨hi,hio,hfree,_⟩:=bL0 hff
    have hoo:qA0 p.NG o=true:=hops o (by rw[← Array.getElem?_toList] at hio;exact List.mem_of_getElem? hio)
    have hop:o.op.operands.all (uE p.NG)=true:=by simp only[qA0,Bool.and_eq_true] at hoo;exact hoo.1
    have hw:=yO0 ht ops o
    rw[← hrd] at hi
    split at he
    case h_2=>exact he.elim
    rename_i x hx
    obtain ⟨e1,e2,e3,e4⟩:=It.of_eq hx
    simp only[uT] at he
    rcases cF0 hx he with ⟨hwt,he⟩|⟨hwt,he⟩
    ·rw[hwt] at hw
     rw[e1,e3,e4] at he
     cases hrdb:isRd o.op with
     | false=>
      rw[hrdb] at he
      simp only at he
      unfold oP at he
      split at he
      case h_2=>exact he.elim
      rename_i v hv
      have hv':kO p.P o tm=some v:=nI0 hv
      have hscv:=fZ0 hr hs hop hv'
      refine zJ0 (v:=con Γ v) (T:=fun _=>True) hio hsel hfree hi hcl (fun c a w hq=>hQ _ _ _ _ hq) (fun d d' w hd=>kZ0.mono hd) (fun _ _ _ _=>trivial) (.inl ⟨hw,fun w _=>bX0 ht hop hv' w⟩) trivial ?_
      exact ih _ _ L _ h (hcl.list hi) he Γ _ w Lc hr (ht.put hs (Ag.refl Γ h.next) hng o.dst v) (wO0 ht.sm hs (Nat.le_refl _) o.dst hscv) (by rw[put_defers];exact hd) hL hn
     | true=>
      rw[hrdb] at he
      simp only at he
      split at he
      case h_2=>
       split at he
       case h_2=>exact he.elim
       rename_i v1 v2 hv
       obtain ⟨b,hrun,hs1,hs2⟩:=lF1 hr ht hs hop hv
       have hrun0:=hrun Γ h w (Ag.refl _ _) (Nat.le_refl _) hr hv
       have hscv:sc h.next (if b then v1 else v2)=true:=by cases b<;>assumption
       refine gY0 (S:=kZ0 p.P ops ((i,execOp ca.eval o,con Γ (if b then v1 else v2)) :: Lc)) (fun j w hh x hx=>hh x (List.mem_cons_of_mem _ hx)) _ _ _ _ _ ?_
       refine zJ0 (v:=con Γ (if b then v1 else v2)) (T:=fun w=>(execOp ca.eval o).run p.P w=.ok (.value (con Γ (if b then v1 else v2))) w) hio hsel hfree hi hcl (fun c a w hq=>hQ _ _ _ _ hq) (fun d d' w hd=>kZ0.mono hd)
        (fun dn w hno hS=>hS _ (List.mem_cons_self ..) hno) (.inl ⟨hw,fun w hh=>hh⟩) hrun0 ?_
       have hinv:∀ h',(∃ u,tw p.P o.op tm h'=some u)→tw p.P o.op tm h'=some (v1,v2):=fun h' hu=>by
        obtain ⟨u,hu⟩:=hu
        rw[hu]
        have h1:=hv
        unfold tw at h1 hu
        split at h1
        ·rename_i ho
         simp only[ho] at hu
         unfold tailV at h1 hu
         split at h1
         ·rename_i hx hmx
          simp only[hx,hmx] at hu
          split at h1
          ·rename_i hun hc
           split at h1
           ·rename_i hsz
            split at h1
            ·rename_i hbd
             split at h1<;>cases h1
             split at hu
             ·rename_i hun' hc'
              rw[hun] at hun'
              cases hun'
              rw[hsz] at hu
              simp only[hbd] at hu
              split at hu<;>cases hu
              rfl
             ·cases hu
            ·cases h1
           ·cases h1
          ·cases h1
         ·cases h1
        ·cases h1
       cases b with
       | true=>
        refine ih _ _ _ _ h (hcl.list hi) he.1 Γ _ w _ hr (ht.put hs (Ag.refl Γ h.next) hng o.dst v1) (wO0 ht.sm hs (Nat.le_refl _) o.dst hs1) (by rw[put_defers];exact hd) (hL.cons fun Γ' h' w' hg hle hr' he'=>?_) hn
        have h2:=hrun Γ' h' w' hg hle hr' (hinv h' (by
         have he':Option.map _ (tw p.P o.op tm h')=_:=he'
         cases htw:tw p.P o.op tm h' with
         | none=>rw[htw] at he';cases he'
         | some u=>exact ⟨u,rfl⟩))
        rw[h2]
        simp only[if_true,jO0 hg v1 hs1]
       | false=>
        refine ih _ _ _ _ h (hcl.list hi) he.2 Γ _ w _ hr (ht.put hs (Ag.refl Γ h.next) hng o.dst v2) (wO0 ht.sm hs (Nat.le_refl _) o.dst hs2) (by rw[put_defers];exact hd) (hL.cons fun Γ' h' w' hg hle hr' he'=>?_) hn
        have h2:=hrun Γ' h' w' hg hle hr' (hinv h' (by
         have he':Option.map _ (tw p.P o.op tm h')=_:=he'
         cases htw:tw p.P o.op tm h' with
         | none=>rw[htw] at he';cases he'
         | some u=>exact ⟨u,rfl⟩))
        rw[h2]
        simp only[Bool.false_eq_true,if_false,jO0 hg v2 hs2]
      rename_i v hv
      obtain ⟨hrun,hscv⟩:=jZ1 hr ht hs hop hv
      refine gY0 (S:=kZ0 p.P ops ((i,execOp ca.eval o,con Γ v) :: Lc)) (fun j w hh x hx=>hh x (List.mem_cons_of_mem _ hx)) _ _ _ _ _ ?_
      refine zJ0 (v:=con Γ v) (T:=fun w=>(execOp ca.eval o).run p.P w=.ok (.value (con Γ v)) w) hio hsel hfree hi hcl (fun c a w hq=>hQ _ _ _ _ hq) (fun d d' w hd=>kZ0.mono hd)
       (fun dn w hno hS=>hS _ (List.mem_cons_self ..) hno) (.inl ⟨hw,fun w hh=>hh⟩) hrun ?_
      refine ih _ _ _ _ h (hcl.list hi) he Γ _ w _ hr (ht.put hs (Ag.refl Γ h.next) hng o.dst v) (wO0 ht.sm hs (Nat.le_refl _) o.dst hscv) (by rw[put_defers];exact hd) (hL.cons fun Γ' h' w' hg hle hr' he'=>?_) hn
      have:=(jZ1 hr' (ht.ag hs hg hng) (fun x hx=>qX hle x (hs x hx)) hop he').1
      rw[this,jO0 hg v hscv]
    ·rw[hwt] at hw
     refine zJ0 (v:=undef) (T:=fun _=>True) hio hsel hfree hi hcl (fun c a w hq=>hQ _ _ _ _ hq) (fun d d' w hd=>kZ0.mono hd) (fun _ _ _ _=>trivial) (.inr ⟨hw,rfl⟩) trivial ?_
     have hput:=ht.put hs (Ag.refl Γ h.next) hng o.dst undef
     rw[qX0] at hput
     rw[e1] at he
     exact ih _ _ L _ h (hcl.list hi) he Γ _ w Lc hr hput (wO0 ht.sm hs (Nat.le_refl _) o.dst rfl) (by rw[put_defers];exact hd) hL hn
   ·refine ⟨fun h0=>(by rw[hrd] at h0;cases h0),fun i hi=>?_⟩
    rw[hrd] at hi
    obtain ⟨o,x,hio,hx,he⟩:=fU0 (m:=fun r=>mkPT p.P ops fuel (listed.setIfInBounds r true)) _ he i hi
    have hoo:qA0 p.NG o=true:=hops o (by rw[← Array.getElem?_toList] at hio;exact List.mem_of_getElem? hio)
    have hw:=yO0 ht ops o
    obtain ⟨e1,e2,e3,e4⟩:=It.of_eq hx
    unfold opW
    simp only[hio]
    rcases cF0 hx he with ⟨hwt,he⟩|⟨hwt,he⟩
    ·rw[hwt] at hw
     simp only[Option.getD_some] at hw
     simp only[hw,if_true]
     rw[e3,e4] at he
     refine jV1 hr ht hs hoo he hF fun v h1 Γ' w' hv hg hle hbel hr' hsv=>?_
     obtain ⟨hk,hv⟩:=hv
     rw[e1] at hv
     have hL':=hL.ag hg hle
     have hi':i∈Region.ready .any ops listed:=by rw[hrd];exact hi
     exact ⟨.inl (wQ1 hr' (Nat.le_refl _) hio hL' hk),ih _ _ _ _ h1 (hcl.step hi') hv Γ' _ w' Lc hr' (ht.put hs hg hng o.dst v) (wO0 ht.sm hs hle o.dst hsv) (by rw[put_defers];exact hd) (hL'.step hio) (hn.step hg hle hbel)⟩
    ·rw[hwt] at hw
     simp only[Option.getD_some] at hw
     simp only[hw,Bool.false_eq_true,if_false]
     have hput:=ht.put hs (Ag.refl Γ h.next) hng o.dst undef
     rw[qX0] at hput
     rw[e1] at he
     have hi':i∈Region.ready .any ops listed:=by rw[hrd];exact hi
     exact ⟨.inr trivial,ih _ _ _ _ h (hcl.step hi') he Γ _ w Lc hr hput (wO0 ht.sm hs (Nat.le_refl _) o.dst rfl) (by rw[put_defers];exact hd) (hL.step hio) hn⟩
theorem jZ0 {p:Par} (jX:uE0 p) {ro:Option Nat}:∀ (c:Code) (s:S) (R:jL→S→Prop),vc p ro (comp p.P c) s R→WP p ro c s R
 | .skip,s,R,h=>WP.skip h
 | .label l,s,R,h=>WP.label h
 | .exit i,s,R,h=>WP.exit h
 | .goto l,s,R,h=>WP.goto h
 | .ret,s,R,h=>WP.ret h
 | .refuse _,s,R,h=>h.elim
 | .seq a b, s, R, h => WP.seq (jZ0 jX a s _ h |>.mono fun e s' hr => by
   cases e with
   | normal=>exact jZ0 jX b s' R hr
   | exit i=>exact hr
   | goto l=>exact hr
   | ret=>exact hr)
 | .cond x a b,s,R,h=>by
  simp only[comp,vc] at h
  unfold uW0 at h
  split at h
  ·rename_i v hv
   exact WP.cond hv (fun e=>jZ0 jX a s R (h.1 e)) (fun e=>jZ0 jX b s R (h.2 e))
  ·exact h.elim
 | .block i b,s,R,h=>WP.block (jZ0 jX b s _ h)
 | .loop b,s,R,h=>h _ rfl
 | .scope b,s,R,h=>WP.scope h
 | .rangeFunc g ps a b,s,R,h=>h _ rfl
 | .region id ops draw,s,R,h=>by
  intro hok Γ ca w hst F n Q hF hro hl hQ
  simp only[qR,Array.all_eq_true_iff_forall_mem] at hok
  have hops:∀ o∈ops.toList,qA0 p.NG o=true:=fun o ho=>hok o (by simpa using ho)
  refine kP (by simp) ?_
  cases draw with
  | false=>
   simp only[comp] at h
   split at h
   case h_2=>exact h.elim
   rename_i xs hxs
   refine wpIn_region ?_
   have:=bI1 hops hF (n:=n) (Q:=Q) (df:=ca.defers) (K:=fun tm h=>R .normal ⟨tm,s.df,h⟩) ops.toList 0 xs s.tm s.h (by simp) hxs h Γ ca w hst.hr hst.tm hst.sc rfl
    ⟨fun tm' h' Γ' ca' w' hk hg hle hb hr ht hs hd=>hQ _ _ Γ' ca' w' hk hg hle hb ⟨ht,hs,hst.df_ag hg hle hd,hr⟩⟩
   rw[List.range_eq_range']
   simpa using this
  | true=>
   have h:uT p (mkPT p.P ops ops.size (Array.replicate ops.size false)) [] s.tm s.h (fun tm h=>R .normal ⟨tm,s.df,h⟩):=h
   have hnd:dF0 ops:=fun j o c hj=>(qR0 (hops o (by rw[← Array.getElem?_toList] at hj;exact List.mem_of_getElem? hj))).1 c
   have hq:(Code.region id ops true).wpIn F n p.P (fun e a w=>(∀ c,e≠.panic c)∧Q e a w) ca w:=by
    refine kV0 (S:=kZ0 p.P ops []) hF hnd jX.mixed ?_
    refine jT1 hops hF (fun c a a' w h=>absurd rfl (h.1 c)) ops.size _ [] [] s.tm s.h ⟨fun k ok hok hk=>by
     have hlt:k<ops.size:=by
      rcases Nat.lt_or_ge k ops.size with h'|h'
      ·exact h'
      ·rw[Array.getElem?_eq_none h'] at hok;cases hok
     simp[Array.getD,hlt] at hk,fun k hk=>by cases hk⟩ h Γ ca w.drew [] (hst.hr.of_heap rfl) hst.tm hst.sc rfl (fun x hx=>by cases hx) ?_
    refine ⟨fun tm' h' Γ' ca' w' hk hg hle hb hr ht hs hd=>⟨fun c h=>(by cases h),?_⟩⟩
    exact hQ _ _ Γ' ca' w' hk hg hle ((Below.refl p.B w).drew.trans hb) ⟨ht,hs,hst.df_ag hg hle hd,hr⟩
   exact wpIn_mono hq fun e a w h=>h.2
theorem W.round {p:Par} (jX:uE0 p) {ro:Option Nat} {b:IR} {s:S} {R:jL→S→Prop} (h:vc p ro b s (cL0 (fun s2=>W p ro (.loop b) s2 R) R)):W p ro (.loop b) s R:=by
 intro c hc
 cases c with
 | loop c=>
  have hc':=hc
  simp only[comp,IR.loop.injEq] at hc
  subst hc
  refine WP.round (jZ0 jX c s _ h |>.mono fun e s' hr=>?_)
  cases e with
  | normal=>exact hr _ rfl
  | exit i=>exact hr
  | goto l=>exact hr
  | ret=>exact hr
 | region id ops d=>
  cases d with
  | false=>simp only[comp] at hc;split at hc<;>cases hc
  | true=>cases hc
 | _=>cases hc
theorem W.range {p:Par} {ro:Option Nat} {g:Operand} {ps:Array Tmp} {a b:Code} {s:S} {R:jL→S→Prop} {l:Nat} {mk:List Nat} {h1:jA} (hent:kC0 ro s.tm ps a b s.h=some (l,mk,h1))
  {f:FuncId} {captured:List Value} (hgv:ev s.tm g=.func (.func f) #[] ⟨captured⟩) (hc:gJ p f (.func (.yield l) #[] #[] :: captured) h1 (qC0 l s mk R)):W p ro (.range g ps a b) s R:=by
 intro c hcc
 cases c with
 | rangeFunc g' ps' a' b'=>
  simp only[comp,IR.range.injEq] at hcc
  obtain ⟨rfl,rfl,rfl,rfl⟩:=hcc
  exact WP.range hent hgv hc
 | region id ops d=>
  cases d with
  | false=>simp only[comp] at hcc;split at hcc<;>cases hcc
  | true=>cases hcc
 | _=>cases hcc
theorem rY1 {r:Option Value} {r2:Option (Value×Value)} {h:jA} {k k':Value→jA→Prop} (hv:oT r r2 h k) (hk:∀ v h',k v h'→k' v h'):oT r r2 h k':=by
 cases r with
 | none=>cases r2 with
  | none=>exact hv
  | some x=>exact ⟨hk _ _ hv.1,hk _ _ hv.2⟩
 | some v=>exact hk _ _ hv
theorem rZ1 {r:Option (Value×jA)} {k k':Value→jA→Prop} (hv:oE r k) (hk:∀ v h',k v h'→k' v h'):oE r k':=by
 cases r with
 | none=>exact hv
 | some v=>exact hk _ _ hv
theorem nG0 {p:Par} {c:Cl} {o:Op} {t:TypeId} {tm:VT} {h:jA} {k k':Value→jA→Prop} (hv:vop p c o t tm h k) (hk:∀ v h',k v h'→k' v h'):vop p c o t tm h k':=by
 cases c with
 | take=>exact rY1 hv hk
 | eff=>exact rZ1 hv hk
 | call=>
  cases o with
  | call c=>
   obtain ⟨cl,args,ats⟩:=c
   cases cl with
   | value f=>exact yB0.mono hv hk
   | _=>exact hv
  | _=>exact hv
theorem sY1 {v:Value} {w:Bool} {A B A' B':Prop} (h:gV v w A B) (ha:A→A') (hb:B→B'):gV v w A' B':=by
 cases v with
 | bool b=>exact ⟨fun e=>ha (h.1 e),fun e=>hb (h.2 e)⟩
 | _=>exact hb h
theorem cG0 {tm:VT} {g:Option (Nat×Bool)} {A B A' B':Prop} (h:vgd tm g A B) (ha:A→A') (hb:B→B'):vgd tm g A' B':=by
 cases g with
 | none=>exact ha h
 | some x=>exact sY1 h ha hb
theorem qE0 {p:Par} {K K':VT→jA→Prop} (hK:∀ tm h,K tm h→K' tm h):∀ (l:List It) (tm:VT) (h:jA),vops p l tm h K→vops p l tm h K'
 | [],tm,h,hv=>hK tm h hv
 | x :: l,tm,h,hv=>cG0 hv (fun hv=>nG0 hv fun v h'=>qE0 hK l _ h') (qE0 hK l _ h)
theorem uJ {p:Par} {K K':VT→jA→Prop} (hK:∀ tm h,K tm h→K' tm h):∀ (t:PT) (L:HL) (tm:VT) (h:jA),uT p t L tm h K→uT p t L tm h K'
 | .fin,L,tm,h,hv=>hK tm h hv
 | .no,L,tm,h,hv=>trivial
 | .bad,L,tm,h,hv=>hv
 | .take i rd x k,L,tm,h,hv=>by
  simp only[uT] at hv ⊢
  refine cG0 hv (fun hv=>?_) (uJ hK k L _ h)
  cases rd with
  | false=>
   simp only[oP] at hv ⊢
   split
   ·rename_i hr;rw[hr] at hv;exact uJ hK k _ _ h hv
   ·rename_i hr;rw[hr] at hv;exact hv
  | true=>
   cases hr:tv p.P x.o x.t tm h with
   | some v=>rw[hr] at hv;exact uJ hK k _ _ h hv
   | none=>
    rw[hr] at hv
    simp only at hv ⊢
    cases hr2:tw p.P x.o tm h with
    | some v=>rw[hr2] at hv;exact ⟨uJ hK k _ _ h hv.1,uJ hK k _ _ h hv.2⟩
    | none=>rw[hr2] at hv;exact hv
 | .eff i x bind k alt,L,tm,h,hv=>by
  simp only[uT] at hv ⊢
  exact ⟨cG0 hv.1 (fun hv=>nG0 hv fun v h' hh=>⟨hh.1,uJ hK k _ _ h' hh.2⟩) (uJ hK k _ _ h),uJ hK alt L tm h hv.2⟩
theorem uN {p:Par} {ro:Option Nat}:∀ (ir:IR) (s:S) (R R':jL→S→Prop),(∀ e s',R e s'→R' e s')→vc p ro ir s R→vc p ro ir s R'
 | .bad,s,R,R',hR,h=>h
 | .skip,s,R,R',hR,h=>hR _ _ h
 | .ret,s,R,R',hR,h=>hR _ _ h
 | .exit i,s,R,R',hR,h=>hR _ _ h
 | .goto l,s,R,R',hR,h=>hR _ _ h
 | .label l,s,R,R',hR,h=>hR _ _ h
 | .ops l,s,R,R',hR,h=>qE0 (fun tm h=>hR _ _) l _ _ h
 | .plan t,s,R,R',hR,h=>uJ (fun tm h=>hR _ _) t _ _ _ h
 | .seq a b, s, R, R', hR, h => uN a s _ _ (fun e s' hh => by
   cases e with
   | normal=>exact uN b s' R R' hR hh
   | exit i=>exact hR _ _ hh
   | goto l=>exact hR _ _ hh
   | ret=>exact hR _ _ hh) h
 | .cond x a b,s,R,R',hR,h=>by
  simp only[vc] at h ⊢
  unfold uW0 at h ⊢
  split
  ·rename_i hv;simp only[hv] at h;exact ⟨fun e=>uN a s R R' hR (h.1 e),fun e=>uN b s R R' hR (h.2 e)⟩
  ·rename_i hne
   split at h
   ·rename_i hv;exact absurd hv (hne _)
   ·exact h
 | .block i b, s, R, R', hR, h => uN b s _ _ (fun e s' hh => by
   cases e with
   | exit j=>
    simp only[outR] at hh ⊢
    split
    ·rename_i e;rw[if_pos e] at hh;exact hR _ _ hh
    ·rename_i e;rw[if_neg e] at hh;exact hR _ _ hh
   | normal=>exact hR _ _ hh
   | goto l=>exact hR _ _ hh
   | ret=>exact hR _ _ hh) h
 | .loop b,s,R,R',hR,h=>fun c hc=>(h c hc).mono hR
 | .scope b,s,R,R',hR,h=>fun h1 h2 Γ ca w hst F n Q hF hro hl hQ=>h h1 h2 Γ ca w hst F n Q hF hro hl fun e s' Γ' ca' w' hr=>hQ e s' Γ' ca' w' (hR e s' hr)
 | .range g ps a b,s,R,R',hR,h=>fun c hc=>(h c hc).mono hR
@[congr] theorem oP_congr {r r':Option Value} {h:jA} {k:Value→jA→Prop} (e:r=r'):oP r h k=oP r' h k:=by rw[e]
@[congr] theorem oT_congr {r r':Option Value} {q:Option (Value×Value)} {h:jA} {k:Value→jA→Prop} (e:r=r'):oT r q h k=oT r' q h k:=by rw[e]
def oQ (q:Option (Value×Value)) (h:jA) (k:Value→jA→Prop):Prop:=match q with|some (a,b)=>k a h∧k b h|none=>False
@[congr] theorem oQ_congr {q q':Option (Value×Value)} {h:jA} {k:Value→jA→Prop} (e:q=q'):oQ q h k=oQ q' h k:=by rw[e]
def oW (q:Option (Value×Value)) (k1 k2:Value→Prop):Prop:=match q with|some (a,b)=>k1 a∧k2 b|none=>False
@[congr] theorem oW_congr {q q':Option (Value×Value)} {k1 k2:Value→Prop} (e:q=q'):oW q k1 k2=oW q' k1 k2:=by rw[e]
def oR (r:Option Value) (q:Option (Value×Value)) (k k1 k2:Value→Prop):Prop:=match r with
 | some v=>k v
 | none=>match q with
  | some (a,b)=>k1 a∧k2 b
  | none=>False
@[congr] theorem oR_congr {r r':Option Value} {q:Option (Value×Value)} {k k1 k2:Value→Prop} (e:r=r'):oR r q k k1 k2=oR r' q k k1 k2:=by rw[e]
@[congr] theorem oE_congr {r r':Option (Value×jA)} {k:Value→jA→Prop} (e:r=r'):oE r k=oE r' k:=by rw[e]
@[congr] theorem gV_congr {v v':Value} {w:Bool} {A B:Prop} (e:v=v'):gV v w A B=gV v' w A B:=by rw[e]
@[congr] theorem mV1 {v v':Value} {A B:Prop} (e:v=v'):uW0 v A B=uW0 v' A B:=by rw[e]
@[congr] theorem qT2 {p:Par} {f f':Value} {l l':List Value} {h:jA} {R:Value→jA→Prop} (e:f=f') (e2:l=l'):yB0 p f l h R=yB0 p f' l' h R:=by rw[e,e2]
@[congr] theorem qS2 {p:Par} {f:FuncId} {l l':List Value} {h:jA} {R:Value→jA→Prop} (e2:l=l'):yA0 p f l h R=yA0 p f l' h R:=by rw[e2]
@[congr] theorem qU2 {p:Par} {f:FuncId} {l l':List Value} {h:jA} {R:Value→jA→Prop} (e2:l=l'):gJ p f l h R=gJ p f l' h R:=by rw[e2]
@[congr] theorem W_congr {p:Par} {ro:Option Nat} {ir:IR} {s:S} {R:jL→S→Prop}:W p ro ir s R=W p ro ir s R:=rfl
@[congr] theorem vc_congr {p:Par} {ro:Option Nat} {ir:IR} {s:S} {R:jL→S→Prop}:vc p ro ir s R=vc p ro ir s R:=rfl
@[congr] theorem mT1 {p:Par} {t:PT} {L:HL} {tm:VT} {h:jA} {K:VT→jA→Prop}:uT p t L tm h K=uT p t L tm h K:=rfl
@[congr] theorem qV2 {p:Par} {l:List It} {tm:VT} {h:jA} {K:VT→jA→Prop}:vops p l tm h K=vops p l tm h K:=rfl
@[congr] theorem mO1 {p:Par} {l:Nat} {args args':List Value} {h:jA} {R:Value→jA→Prop} (e:args=args'):jQ0 p l args h R=jQ0 p l args' h R:=by rw[e]
section
variable {p:Par} {P:Program} {ro:Option Nat} {s:S} {R:jL→S→Prop}
def endM (P:Program) (rs:List ResultVar) (R:Value→jA→Prop) (tm:VT):Option jA→Prop
 | some h1=>oP (gQ P rs tm h1) h1 R
 | none=>False
theorem mI0 (h:jA):uL [] h=some h:=rfl
theorem jB2 (tm:VT) (h:jA):gQ P [] tm h=some (.tuple #[]):=rfl
theorem jA2 (tm:VT) (h:jA) (t:Nat):gQ P [.tmp t] tm h=some (tm.get t):=rfl
theorem tZ1 (tm:VT) (h:jA) (t u:Nat):gQ P [.tmp t,.tmp u] tm h=some (.tuple #[tm.get t,tm.get u]):=rfl
theorem tY1 (tm:VT) (h:jA) (t u v:Nat):gQ P [.tmp t,.tmp u,.tmp v] tm h=some (.tuple #[tm.get t,tm.get u,tm.get v]):=rfl
theorem tX1 (tm:VT) (h:jA) (t u v w:Nat):gQ P [.tmp t,.tmp u,.tmp v,.tmp w] tm h=some (.tuple #[tm.get t,tm.get u,tm.get v,tm.get w]):=rfl
theorem dZ1 (tm:VT) (h:jA) (a t:Nat):gQ P [.cell a t] tm h=jJ P t (tm.get a) h:=by
 simp only[gQ,qI.go]
 cases jJ P t (tm.get a) h<;>rfl
variable {K:VT→jA→Prop} {k:Value→jA→Prop}
def jR (A B:Prop):Prop:=A∧B
@[congr] theorem sN1 {A A' B:Prop} (e:A=A'):jR A B=jR A' B:=by rw[e]
theorem wR1 (b:List Nat) (h:jA):bI0 b h []=True:=rfl
variable {A B:Prop}
theorem dK1:gV (.bool true) true A B=A:=by simp[gV]
theorem dL1:gV (.bool true) false A B=B:=by simp[gV]
theorem dM1:gV (.bool false) true A B=B:=by simp[gV]
theorem dN1:gV (.bool false) false A B=A:=by simp[gV]
theorem put_s (n:Nat) (l:List (Nat×Value)) (i:Nat) (v:Value):put (FR n l) (some i) v=FR n ((i,v) :: l):=rfl
theorem put_n (tm:VT) (v:Value):put tm none v=tm:=rfl
theorem le_U {n:Nat} (h:n≤100000):n<U:=by unfold U;omega
theorem yH1 (i:Nat):kY0 i []=[]:=rfl
theorem sT0 (i:Nat) (v:Value) (l:List Value):kY0 i (v :: l)=kY0 (i+1) l++[(i,v)]:=rfl
variable {tm:VT} {h:jA} {t:TypeId}
theorem yA2 (i:Nat):ev tm (.tmp i)=tm.get i:=rfl
theorem dW1 (v:Value):ev tm (.const v)=v:=rfl
theorem tV1 (f:FuncId):ev tm (.func f)=.func (.func f) #[] #[]:=rfl
theorem yC1 (g:Nat):ev tm (.global g)=.pointer (some ⟨g,0,none⟩):=rfl
theorem gZ {α β:Type} (P:Program) (f:α→Sem β):∀ s:Sem α,pv P (s >>= f)=(pv P s).bind (fun a=>pv P (f a)):=by
 intro s
 show pv P (Sem.bind s f)=_
 induction s with
 | pure a=>rfl
 | program k ih=>exact ih P
 | mark m k ih=>exact ih
 | _=>rfl
theorem uQ {α:Type} (P:Program) (a:α):pv P (pure a:Sem α)=some a:=rfl
theorem lM1 {α β:Type} (P:Program) (f:α→β) (s:Sem α):pv P (f <$> s)=(pv P s).map f:=by
 show pv P (s >>= fun a=>pure (f a))=_
 rw[gZ]
 cases pv P s<;>rfl
theorem jU0 {d:TypeDesc} (h:P.underlying t=some d):pv P (underlying t)=some d:=by
 simp only[underlying,gZ]
 simp only[program,pv,Option.bind_some,h]
 rfl
theorem rR1 (a b:Value):uZ0 (.bool true) a b=some a:=rfl
theorem rS1 (a b:Value):uZ0 (.bool false) a b=some b:=rfl
theorem kV2 (l:List Value) (i:Nat):extV (.tuple ⟨l⟩) i=l[i]?:=by simp[extV]
theorem mW1 (b:Bool):unV P .not (.bool b)=some (.bool (!b)):=rfl
theorem fdV_a (b:Bool) (n off:Nat) (cs:List Value):fdV (some (b,n,off)) (.agg ⟨cs⟩)=uW b n cs off:=rfl
theorem rU1 (n:Nat) (cs:List Value) (off:Nat):uW false n cs off=cs[off]?:=rfl
theorem rT1 (n:Nat) (cs:List Value) (off:Nat):uW true n cs off=if off+n≤cs.length then some (.agg ⟨(cs.drop off).take n⟩) else none:=rfl
theorem zY2 (n b o len c:Nat) (k:IntKind) (i:Int) (h0:0≤i) (hi:i<len):iaV (some (none,n)) (.slice (some ⟨b,o,none⟩) len c) (.int k i)=some (.pointer (some ⟨b,o+i.toNat*n,none⟩)):=by
 simp[iaV,h0,hi,addr_add]
theorem zZ2 (n len b o:Nat) (k:IntKind) (i:Int) (h0:0≤i) (hi:i<len):iaV (some (some len,n)) (.pointer (some ⟨b,o,none⟩)) (.int k i)=some (.pointer (some ⟨b,o+i.toNat*n,none⟩)):=by
 simp[iaV,h0,hi,addr_add]
theorem ixV_s (s:ByteArray) (k:IntKind) (i:Int) (h0:0≤i) (hi:i<s.size):ixV (some none) (.string s) (.int k i)=some (.int .u8 (gB1 s i.toNat)):=by
 simp[ixV,h0,hi]
theorem ncV_p (a:Addr):ncV (.pointer (some a))=some (.pointer (some a)):=rfl
theorem ncV_f (g:FuncId) (f c:Array Value):ncV (.func (.func g) f c)=some (.func (.func g) f c):=rfl
theorem miV_f (t:TypeId) (v:Value):miV (some false) t v=some (.iface t v):=rfl
theorem lnB_l (a:Option Addr) (n c:Nat):lnB (some false) (.slice a n c)=some (.int .i64 n):=rfl
theorem bdV_s (pl:List (Nat×Nat)) (cs:List Value) (parts:List (Nat×Value)):bdV (some (pl,cs)) parts=(match kV pl cs parts with|some cs'=>some (.agg ⟨cs'⟩)|none=>none):=rfl
theorem kZ1 (pl:List (Nat×Nat)) (cs:List Value):kV pl cs []=some cs:=rfl
def kY1 (pl:List (Nat×Nat)) (cs:List Value) (v:Value) (rest:List (Nat×Value)):Option (Nat×Nat)→Option (List Value)
 | some (off,n)=>if v.cells.toList.length=n∧off+n≤cs.length then kV pl (setFrom cs off v.cells.toList) rest else none
 | none=>none
theorem sP0 (pl:List (Nat×Nat)) (cs:List Value) (i:Nat) (v:Value) (rest:List (Nat×Value)):kV pl cs ((i,v) :: rest)=kY1 pl cs v rest pl[i]?:=by
 first
 | (simp only[kV,kY1];done)
 | (simp only[kV,kY1];cases pl[i]?<;>rfl)
theorem tJ1 (pl:List (Nat×Nat)) (cs:List Value) (v:Value) (rest:List (Nat×Value)) (off n:Nat) (h1:v.cells.toList.length=n) (h2:off+n≤cs.length) :
  kY1 pl cs v rest (some (off,n))=kV pl (setFrom cs off v.cells.toList) rest:=by
 simp only[kY1,if_pos (And.intro h1 h2)]
theorem yP2 (s d:TypeId) (v u:Value) (hc:cvP P s d v=some u):cvV P s d v h=some u:=by simp only[cvV,hc]
section tvs
variable {t:TypeId} {tm:VT} {h:jA}
theorem nE1 (x:Operand):tp P (.move x) t tm=some (ev tm x):=rfl
theorem nB1 (x:Operand):tv P (.move x) t tm h=some (ev tm x):=rfl
theorem qB1 (x:Operand):tp P (.assign x) t tm=some (ev tm x):=rfl
theorem qA1 (x:Operand):tv P (.assign x) t tm h=some (ev tm x):=rfl
theorem nD1 (c a b:Operand):tp P (.pick c a b) t tm=uZ0 (ev tm c) (ev tm a) (ev tm b):=rfl
theorem nA1 (c a b:Operand):tv P (.pick c a b) t tm h=uZ0 (ev tm c) (ev tm a) (ev tm b):=rfl
theorem pK0 (x:Operand) (i:Nat):tp P (.extract x i) t tm=extV (ev tm x) i:=rfl
theorem pI0 (x:Operand) (i:Nat):tv P (.extract x i) t tm h=extV (ev tm x) i:=rfl
theorem uG2 (op:BinOp) (ty:TypeId) (x y:Operand) (yt:TypeId):tp P (.binOp op ty x y yt) t tm=jE P op ty x y (ev tm x) (ev tm y):=rfl
theorem uB2 (op:BinOp) (ty:TypeId) (x y:Operand) (yt:TypeId):tv P (.binOp op ty x y yt) t tm h=jE P op ty x y (ev tm x) (ev tm y):=rfl
theorem tp_un (op:UnOp) (ty:TypeId) (x:Operand):tp P (.unOp op ty x) t tm=unV P op (ev tm x):=rfl
theorem tv_un (op:UnOp) (ty:TypeId) (x:Operand):tv P (.unOp op ty x) t tm h=unV P op (ev tm x):=rfl
theorem tp_fa (s:TypeId) (x:Operand) (f:Nat):tp P (.fieldAddr s x f) t tm=faV (fld P s f) (ev tm x):=rfl
theorem tv_fa (s:TypeId) (x:Operand) (f:Nat):tv P (.fieldAddr s x f) t tm h=faV (fld P s f) (ev tm x):=rfl
theorem tp_fd (s:TypeId) (x:Operand) (f:Nat):tp P (.field s x f) t tm=fdV (fldT P s f) (ev tm x):=rfl
theorem tv_fd (s:TypeId) (x:Operand) (f:Nat):tv P (.field s x f) t tm h=fdV (fldT P s f) (ev tm x):=rfl
theorem tp_ia (s:TypeId) (x i:Operand):tp P (.indexAddr s x i) t tm=iaV (esz P s) (ev tm x) (ev tm i):=rfl
theorem tv_ia (s:TypeId) (x i:Operand):tv P (.indexAddr s x i) t tm h=iaV (esz P s) (ev tm x) (ev tm i):=rfl
theorem tp_ix (s:TypeId) (x i:Operand):tp P (.index s x i) t tm=ixV (ixT P s) (ev tm x) (ev tm i):=rfl
theorem tv_ix (s:TypeId) (x i:Operand):tv P (.index s x i) t tm h=ixV (ixT P s) (ev tm x) (ev tm i):=rfl
theorem tp_nc (x:Operand):tp P (.nilCheck x) t tm=ncV (ev tm x):=rfl
theorem tv_nc (x:Operand):tv P (.nilCheck x) t tm h=ncV (ev tm x):=rfl
theorem tp_mf (g:FuncId) (f c:List Operand):tp P (.makeFunc (.func g) ⟨f⟩ ⟨c⟩) t tm=some (.func (.func g) ⟨f.map (ev tm)⟩ ⟨c.map (ev tm)⟩):=rfl
theorem tv_mf (g:FuncId) (f c:List Operand):tv P (.makeFunc (.func g) ⟨f⟩ ⟨c⟩) t tm h=some (.func (.func g) ⟨f.map (ev tm)⟩ ⟨c.map (ev tm)⟩):=rfl
theorem tp_mi (ty:TypeId) (x:Operand):tp P (.makeInterface ty x) t tm=miV (isI P ty) ty (ev tm x):=rfl
theorem tv_mi (ty:TypeId) (x:Operand):tv P (.makeInterface ty x) t tm h=miV (isI P ty) ty (ev tm x):=rfl
theorem bU1 (ty:TypeId) (parts:List (Nat×Operand)):tp P (.build ty ⟨parts⟩) t tm=bdV (plc P ty) (parts.map fun x=>(x.1,ev tm x.2)):=rfl
theorem bT1 (ty:TypeId) (parts:List (Nat×Operand)):tv P (.build ty ⟨parts⟩) t tm h=bdV (plc P ty) (parts.map fun x=>(x.1,ev tm x.2)):=rfl
theorem uF2 (x:Operand) (ty:TypeId):tp P (.call ⟨.builtin .len,#[x],#[ty]⟩) t tm=lnB (lnT P ty) (ev tm x):=rfl
theorem uA2 (x:Operand) (ty:TypeId):tv P (.call ⟨.builtin .len,#[x],#[ty]⟩) t tm h=lnB (lnT P ty) (ev tm x):=rfl
theorem uD2 (args:List Operand) (ts:Array TypeId):tp P (.call ⟨.builtin .min,⟨args⟩,ts⟩) t tm=mnV P ts t (args.map (ev tm)):=rfl
theorem qY2 (args:List Operand) (ts:Array TypeId):tv P (.call ⟨.builtin .min,⟨args⟩,ts⟩) t tm h=mnV P ts t (args.map (ev tm)):=rfl
theorem uE2 (args:List Operand) (ts:Array TypeId):tp P (.call ⟨.builtin .max,⟨args⟩,ts⟩) t tm=mxV P ts t (args.map (ev tm)):=rfl
theorem qZ2 (args:List Operand) (ts:Array TypeId):tv P (.call ⟨.builtin .max,⟨args⟩,ts⟩) t tm h=mxV P ts t (args.map (ev tm)):=rfl
theorem nC1 (ty:TypeId) (a:Operand):tv P (.load ty a) t tm h=jJ P ty (ev tm a) h:=rfl
theorem bS1 (ty:TypeId) (x:Operand) (lo hi mx:Option Operand):tv P (.slice ty x lo hi mx) t tm h=slV P ty (ev tm x) (lo.map (ev tm)) (hi.map (ev tm)) (mx.map (ev tm)) h:=rfl
theorem pJ0 (s d:TypeId) (x:Operand):tv P (.convert s d x) t tm h=cvV P s d (ev tm x) h:=rfl
theorem bZ1 (e:TypeId):te P (.alloc e) t tm h=alE (zro P e) e h:=rfl
theorem uM2 (e:TypeId) (x:Operand):te P (.box e x) t tm h=bxE e (ev tm x) h:=rfl
theorem te_bs (ty:TypeId) (len:Nat) (parts:List (Nat×Operand)):te P (.buildSlice ty len ⟨parts⟩) t tm h=bsE (slT P ty) len (parts.map fun x=>(x.1,ev tm x.2)) h:=rfl
theorem bX1 (ty:TypeId) (a x:Operand):te P (.store ty a x) t tm h=stE (szT P ty) (ev tm a) (ev tm x) h:=rfl
theorem te_ms (ty:TypeId) (l c:Operand):te P (.makeSlice ty l c) t tm h=msE (mkT P ty) (ev tm l) (ev tm c) h:=rfl
theorem qD1 (s x:Operand) (sT xT:TypeId):te P (.call ⟨.builtin .append,#[s,x],#[sT,xT]⟩) t tm h=uZ P sT xT (ev tm s) (ev tm x) h:=rfl
end tvs
section bin
variable {x y:Operand} {ty:TypeId} {k:IntKind} {a b:Int}
theorem b_add:jE P .add ty x y (.int k a) (.int k b)=some (.int k (k.wrap (a+b))):=by
 simp[jE,eqGuard,binOp,Op.intArith,pvF,uQ,flat]
theorem b_sub:jE P .sub ty x y (.int k a) (.int k b)=some (.int k (k.wrap (a-b))):=by
 simp[jE,eqGuard,binOp,Op.intArith,pvF,uQ,flat]
theorem b_mul:jE P .mul ty x y (.int k a) (.int k b)=some (.int k (k.wrap (a*b))):=by
 simp[jE,eqGuard,binOp,Op.intArith,pvF,uQ,flat]
theorem b_quo (hb:b≠0):jE P .quo ty x y (.int k a) (.int k b)=some (.int k (k.wrap (a.tdiv b))):=by
 simp[jE,eqGuard,binOp,Op.intDiv,hb,pvF,uQ,flat]
theorem b_rem (hb:b≠0):jE P .rem ty x y (.int k a) (.int k b)=some (.int k (a.tmod b)):=by
 simp[jE,eqGuard,binOp,Op.intDiv,hb,pvF,uQ,flat]
theorem b_lss:jE P .lss ty x y (.int k a) (.int k b)=some (.bool (decide (a<b))):=by
 simp[jE,eqGuard,binOp,Op.intCmp,pvF,uQ,flat]
theorem b_leq:jE P .leq ty x y (.int k a) (.int k b)=some (.bool (decide (a≤b))):=by
 simp[jE,eqGuard,binOp,Op.intCmp,pvF,uQ,flat]
theorem b_gtr:jE P .gtr ty x y (.int k a) (.int k b)=some (.bool (decide (b<a))):=by
 simp[jE,eqGuard,binOp,Op.intCmp,pvF,uQ,flat]
theorem b_geq:jE P .geq ty x y (.int k a) (.int k b)=some (.bool (decide (b≤a))):=by
 simp[jE,eqGuard,binOp,Op.intCmp,pvF,uQ,flat]
theorem b_eql:jE P .eql ty x y (.int k a) (.int k b)=some (.bool (decide (a=b))):=by
 simp[jE,eqGuard,binOp,Op.intCmp,pvF,uQ,flat]
 rfl
theorem b_neq:jE P .neq ty x y (.int k a) (.int k b)=some (.bool (!decide (a=b))):=by
 simp[jE,eqGuard,binOp,Op.intCmp,pvF,uQ,flat]
 rfl
theorem yG1 (hu:P.underlying ty=some .bool) (a b:Bool):pv P (Op.equal ty (.bool a) (.bool b))=some (a == b):=by
 have h:∀ d:Nat,pv P (Op.equalIn (d+1) ty (.bool a) (.bool b))=some (a == b):=fun d=>by
  simp only[Op.equalIn,gZ,jU0 hu,Option.bind_some,uQ]
 exact h 9999
def isBool (P:Program) (t:TypeId):Bool:=match P.underlying t with|some .bool=>true|_=>false
theorem wT1 (h:isBool P ty=true):P.underlying ty=some .bool:=by
 unfold isBool at h;split at h
 ·assumption
 ·cases h
theorem yZ2 {a b:Bool} (hu:isBool P ty=true):jE P .neq ty x y (.bool a) (.bool b)=some (.bool (!(a == b))):=by
 simp[jE,eqGuard,binOp,pvF,lM1,yG1 (wT1 hu),flat]
theorem gA2 {a b:ByteArray}:jE P .eql ty x y (.string a) (.string b)=some (.bool (a.data.toList == b.data.toList)):=by
 simp only[jE,gU0]
theorem yY2 {a b:ByteArray}:jE P .neq ty x y (.string a) (.string b)=some (.bool (!(a.data.toList == b.data.toList))):=by
 simp only[jE,gU0]
def sR1 (P:Program) (t:TypeId):Bool:=match P.underlying t with|some (.slice _)=>true|_=>false
def isPtr (P:Program) (t:TypeId):Bool:=match P.underlying t with|some (.pointer _)=>true|_=>false
theorem gB2 {u:Option Addr} {n c n' c':Nat} (hu:sR1 P ty=true):jE P .eql ty x y (.slice u n c) (.slice none n' c')=some (.bool u.isNone):=by
 unfold sR1 at hu
 simp only[jE]
 split at hu
 ·rename_i h;rw[h]
 ·cases hu
end bin
theorem wrap_i64 {n:Int} (h1:-9223372036854775808≤n) (h2:n≤9223372036854775807):IntKind.i64.wrap n=n:=IntWalk.i64_in _ (by omega)
end
section
variable {p:Par} {P:Program} {t:TypeId} {tm:VT} {h:jA}
theorem jK (b:Nat) (x:qH):(h.put b x).next=h.next:=rfl
theorem wX (b:Nat) (x:qH):(h.put b x).lo=h.lo:=rfl
theorem jB (x:qH):(h.add x).next=h.next+1:=by unfold jA.add;rw[jA.new_eq]
theorem jN (x:qH):(h.add x).lo=h.lo:=by unfold jA.add;rw[jA.new_eq]
theorem qO (b:Nat) (x:qH):(h.put b x).get b=some x:=by rw[jA.get_put,if_pos rfl]
theorem jW (b:Nat) (x:qH) (i:Nat) (hi:i≠b):(h.put b x).get i=h.get i:=by rw[jA.get_put,if_neg hi]
theorem kP1 (x:qH) (i:Nat):(h.add x).get i=if i=h.next then some x else h.get i:=by
 unfold jA.add;rw[jA.new_eq];exact Tr.get_put h.t h.next x i
theorem qW (x:qH) (i:Nat) (hi:i=h.next):(h.add x).get i=some x:=by rw[kP1,if_pos hi]
theorem jV (x:qH) (i:Nat) (hi:i≠h.next):(h.add x).get i=h.get i:=by rw[kP1,if_neg hi]
theorem qT {h h':jA} {i j:Nat} (e:h.get i=h'.get j):cells h i=cells h' j:=by unfold cells;rw[e]
theorem jP (b:Nat) (cs:List Value) (e:TypeId) (m:Bool):cells (h.put b (O cs e m)) b=some (cs,e,m):=by unfold cells;rw[qO];rfl
theorem jG (b:Nat) (x:qH) (i:Nat) (hi:i≠b):cells (h.put b x) i=cells h i:=qT (jW b x i hi)
theorem qC (cs:List Value) (e:TypeId) (m:Bool) (i:Nat) (hi:i=h.next):cells (h.add (O cs e m)) i=some (cs,e,m):=by unfold cells;rw[qW _ _ hi];rfl
theorem qG (x:qH) (i:Nat) (hi:i≠h.next):cells (h.add x) i=cells h i:=qT (jV x i hi)
theorem kV1 (n:Nat) (b:Bool):fone n (.bool b)=true:=rfl
theorem dS1 (n:Nat) (k:IntKind) (b:Int):fone n (.int k b)=true:=rfl
theorem dR1 (n:Nat) (b:ByteArray):fone n (.string b)=true:=rfl
theorem tD1 (n:Nat):fone n (.pointer none)=true:=rfl
theorem tC1 (n a b:Nat):fone n (.slice none a b)=true:=rfl
theorem tG1 (n:Nat):fone n (.map none)=true:=rfl
theorem tF1 (n:Nat):fone n .nilFunc=true:=rfl
theorem tE1 (n:Nat):fone n .nilIface=true:=rfl
theorem kW1 (n:Nat):uF n []=true:=rfl
theorem q_scn (n:Nat):(scL n []=true)=True:=by simp[scL]
theorem q_scc (n:Nat) (v:Value) (l:List Value):(scL n (v :: l)=true)=(sc n v=true∧scL n l=true):=by simp[scL]
theorem q_scs (n b o l c:Nat):(sc n (.slice (some ⟨b,o,none⟩) l c)=true)=(b<n):=by simp[sc,scA]
theorem q_scb (n:Nat) (b:Bool):(sc n (.bool b)=true)=True:=by simp[sc]
theorem pG0 (k:IntKind) (b:Int):(Value.int k b).cells.toList=[.int k b]:=rfl
theorem iX0 (b:Bool):(Value.bool b).cells.toList=[.bool b]:=rfl
theorem pF0 (b:ByteArray):(Value.string b).cells.toList=[.string b]:=rfl
theorem bM1 (a:Option Addr):(Value.pointer a).cells.toList=[.pointer a]:=rfl
theorem bL1 (a:Option Addr) (n c:Nat):(Value.slice a n c).cells.toList=[.slice a n c]:=rfl
theorem bN1 (a:Option Nat):(Value.map a).cells.toList=[.map a]:=rfl
theorem bP1 (g:Fn) (a b:Array Value):(Value.func g a b).cells.toList=[.func g a b]:=rfl
theorem jY1:(Value.nilFunc).cells.toList=[.nilFunc]:=rfl
theorem bO1 (t:TypeId) (v:Value):(Value.iface t v).cells.toList=[.iface t v]:=rfl
theorem jX1:(Value.nilIface).cells.toList=[.nilIface]:=rfl
theorem bQ1 (l:List Value):(Value.agg ⟨l⟩).cells.toList=l:=rfl
def ldC (k:Option (Bool×Nat)) (off lo b:Nat) (c:Option (List Value×TypeId×Bool)):Option Value:=match c,k with
 | some (cs,_,_),some (q,n)=>match uW q n cs off with
  | some v=>seen lo b v
  | none=>none
 | _,_=>none
theorem zV0 (b off:Nat):jJ P t (.pointer (some ⟨b,off,none⟩)) h=ldC (knd P t) off h.lo b (cells h b):=by
 unfold jJ ldC knd
 dsimp only
 cases cells h b with
 | none=>rfl
 | some c=>
  obtain ⟨cs,e,m⟩:=c
  dsimp only
  cases bU0 P t with
  | none=>rfl
  | some q=>
   cases q with
   | false=>rfl
   | true=>
    dsimp only
    cases szT P t with
    | none=>rfl
    | some n=>
     simp only[uW]
     by_cases hle:off+n≤cs.length
     ·rw[jK0 cs off n hle,if_pos hle]
     ·rw[if_neg hle]
      cases ht:takeN cs off n with
      | some l=>exact absurd (yD0 ht).1 hle
      | none=>rfl
theorem sL1 (q:Bool) (n off lo b:Nat) (cs:List Value) (e:TypeId) (m:Bool) (hb:lo≤b):ldC (some (q,n)) off lo b (some (cs,e,m))=uW q n cs off:=by
 unfold ldC
 dsimp only
 have:Nat.ble lo b=true:=by simpa using hb
 cases uW q n cs off with
 | none=>rfl
 | some v=>simp only[seen,this]
theorem qR1 (lo b:Nat) (v:Value) (hv:flat v=true):seen lo b v=some v:=by
 unfold seen
 rw[kS1,wR lo v hv]
 cases Nat.ble lo b<;>rfl
theorem dD1 (q:Bool) (n off lo b:Nat) (cs:List Value) (e:TypeId) (m:Bool) (v:Value) (hp:uW q n cs off=some v) (hv:flat v=true):ldC (some (q,n)) off lo b (some (cs,e,m))=some v:=by
 unfold ldC
 dsimp only
 rw[hp]
 exact qR1 lo b v hv
def stC (n off:Nat) (v:Value) (h:jA) (b:Nat) (c:Option (List Value×TypeId×Bool)):Option (Value×jA):=match c with
 | some (cs,e,m)=>if v.cells.toList.length=n∧uF h.next v.cells.toList=true∧h.lo≤b∧off+n≤cs.length then some (undef,h.put b (O (setFrom cs off v.cells.toList) e m)) else none
 | none=>none
theorem uR2 (n b off:Nat) (v:Value):stE (some n) (.pointer (some ⟨b,off,none⟩)) v h=stC n off v h b (cells h b):=rfl
theorem alE_s (cs:List Value) (e:TypeId):alE (some cs) e h=some (.pointer (some ⟨h.next,0,none⟩),h.add (O cs e false)):=rfl
theorem msE_s (e n by_:Nat) (zs:List Value) (k j:IntKind) (l c:Int) (h1:0≤l) (h2:l≤c) (h3:c*by_+c<100000000000000) :
  msE (some (e,n,by_,zs)) (.int k l) (.int j c) h=some (.slice (some ⟨h.next,0,none⟩) l.toNat c.toNat,h.add (O (List.replicate c.toNat zs).flatten e false)):=by
 simp only[msE,if_pos (And.intro h1 (And.intro h2 h3))]
end
def appT (P:Program) (sT xT:TypeId):Option (TypeId×Nat×Nat):=match P.underlying sT with
 | some (.slice e)=>match P.underlying xT with
  | none=>none
  | some (.int _)=>none
  | some _=>match P.info? e with
   | some i=>match i.zero with
    | some z=>match Nat.beq z.cells.size i.size&&Nat.blt 0 i.size with
     | true=>some (e,i.size,i.bytes)
     | false=>none
    | none=>none
   | none=>none
 | _=>none
def slcT (P:Program) (t:TypeId):Option (Option (TypeId×Nat)):=match P.underlying t with
 | some .string=>some none
 | some (.slice e)=>match szT P e with | some n=>some (some (e,n)) | none=>none
 | _=>none
def cnvT (P:Program) (s d:TypeId):Option (Nat×Option IntKind×Nat):=match P.underlying s with
 | some (.int _)=>match P.underlying d with
  | some (.int k)=>some (0,some k,0)
  | _=>none
 | some .string=>match P.underlying d with
  | some .string=>some (4,none,0)
  | some (.slice e)=>match P.underlying e with
   | some (.int .u8)=>match szT P e with
    | some 1=>some (2,none,e)
    | _=>none
   | _=>none
  | _=>none
 | some (.slice e)=>match P.underlying e with
  | some (.int .u8)=>match P.underlying d with
   | some .string=>some (1,none,0)
   | some (.slice e')=>match Nat.beq s d&&Nat.beq e e' with
    | true=>some (3,none,e)
    | false=>none
   | _=>none
  | _=>none
 | _=>none
mutual
def pl:Value→Bool
 | .float _ _=>false
 | .slice (some _) _ c=>Nat.blt c UC
 | .func (.func _) ⟨f⟩ ⟨c⟩=>plL f&&plL c
 | .func _ _ _=>false
 | .iface _ v=>pl v
 | .agg ⟨cs⟩=>plL cs
 | .tuple ⟨vs⟩=>plL vs
 | _=>true
def plL:List Value→Bool
 | []=>true
 | v :: vs=>pl v&&plL vs
end
def idΓ (s:Nat→Int) (t:Nat→ByteArray):Gam:=⟨fun i=>i,fun _=>0,s,t⟩
mutual
theorem yT1 (s:Nat→Int) (t:Nat→ByteArray):∀ v,pl v=true→con (idΓ s t) v=v
 | .bool _,_=>rfl
 | .int _ _,_=>rfl
 | .float _ _,h=>by simp[pl] at h
 | .complex _ _ _,_=>rfl
 | .string _,_=>rfl
 | .pointer none,_=>rfl
 | .pointer (some _),_=>rfl
 | .slice none _ _,_=>rfl
 | .slice (some a) n c,h=>by
  have hc:c<UC:=by simpa[pl] using h
  simp only[con,wM,uC,if_pos hc,idΓ]
 | .map none,_=>rfl
 | .map (some _),_=>rfl
 | .chan _,_=>rfl
 | .func (.func g) ⟨f⟩ ⟨c⟩,h=>by
  simp only[pl,Bool.and_eq_true] at h
  simp only[con,kG0,kE0 s t f h.1,kE0 s t c h.2]
 | .func (.method _) _ _,h=>by simp[pl] at h
 | .func (.methodOf _ _) _ _,h=>by simp[pl] at h
 | .func (.via _ _ _ _) _ _,h=>by simp[pl] at h
 | .func (.yield _) _ _,h=>by simp[pl] at h
 | .nilFunc,_=>rfl
 | .iface t' v,h=>by
  simp only[pl] at h
  simp only[con,yT1 s t v h]
 | .nilIface,_=>rfl
 | .agg ⟨cs⟩,h=>by
  simp only[pl] at h
  simp only[con,kE0 s t cs h]
 | .tuple ⟨cs⟩,h=>by
  simp only[pl] at h
  simp only[con,kE0 s t cs h]
theorem kE0 (s:Nat→Int) (t:Nat→ByteArray):∀ l,plL l=true→conL (idΓ s t) l=l
 | [],_=>rfl
 | v :: vs,h=>by
  simp only[plL,Bool.and_eq_true] at h
  simp only[conL,yT1 s t v h.1,kE0 s t vs h.2]
end
def fix (G:Nat) (v:Value):Value:=if one v=true∧pl v=true∧sc G v=true then v else .chan none
theorem kR2 {G:Nat} {v:Value} (h1:one v=true) (h2:pl v=true) (h3:sc G v=true):fix G v=v:=if_pos ⟨h1,h2,h3⟩
theorem kQ2 {G:Nat} {v:Value} (h:sc G (fix G v)=true):fix G v=v∧one v=true∧pl v=true:=by
 unfold fix at h ⊢
 split
 ·rename_i hc;exact ⟨rfl,hc.1,hc.2.1⟩
 ·rename_i hc;rw[if_neg hc] at h;simp[sc] at h
def mP0 (G:Nat) (o:Option Obj):Option qH:=match o with
 | some (.cells c e _)=>some ⟨.cells (c.map (fix G)) e,false⟩
 | _=>none
def iH0 (G:Nat) (w:World):Nat→Tr
 | 0=>.nil
 | n+1=>match mP0 G w.heap[n]? with
  | some x=>(iH0 G w n).put n x
  | none=>iH0 G w n
theorem gV0 (G:Nat) (w:World):∀ (n i:Nat),(iH0 G w n).get i=if i<n then mP0 G w.heap[i]? else none
 | 0,i=>by simp[iH0,Tr.get_nil]
 | n+1,i=>by
  simp only[iH0]
  split
  ·rename_i x hx
   rw[Tr.get_put,gV0 G w n i]
   by_cases h:i=n
   ·subst h;simp[hx]
   ·by_cases h2:i<n
    ·simp[h,h2,Nat.lt_succ_of_lt h2]
    ·simp[h,h2];omega
  ·rename_i hx
   rw[gV0 G w n i]
   by_cases h:i=n
   ·subst h;simp[hx]
   ·by_cases h2:i<n
    ·simp[h2,Nat.lt_succ_of_lt h2]
    ·rw[if_neg h2,if_neg (by omega)]
def tB0 (G:Nat) (w:World):jA:=⟨iH0 G w w.heap.size,G,G⟩
theorem uA0 (G:Nat) (w:World) (i:Nat):(tB0 G w).get i=mP0 G w.heap[i]?:=by
 have:=gV0 G w w.heap.size i
 show (iH0 G w w.heap.size).get i=_
 rw[this]
 split
 ·rfl
 ·rw[Array.getElem?_eq_none (by omega)];rfl
theorem mQ0 {G:Nat} {w:World} {b:Nat} {c:Array Value} {e:TypeId} {fr:Nat×Nat} (hb:w.heap[b]?=some (.cells c e fr)):cells (tB0 G w) b=some (c.toList.map (fix G),e,false):=by
 unfold cells
 rw[uA0,hb]
 simp only[mP0]
 obtain ⟨l⟩:=c
 simp
theorem gK1 (P:Program) (NG G:Nat) (s:Nat→Int) (t:Nat→ByteArray) (w:World) (hNG:NG≤w.heap.size) (hG:w.heap.size≤G):jY ⟨P,NG,G,w.heap.size,s,t⟩ (idΓ s t) (tB0 G w) w:=by
 have key:∀ i x,(tB0 G w).get i=some x→i<w.heap.size∧∃ c e fr,w.heap[i]?=some (.cells c e fr)∧x=⟨.cells (c.map (fix G)) e,false⟩:=by
  intro i x hx
  rw[uA0] at hx
  unfold mP0 at hx
  split at hx
  ·rename_i c e fr hi
   cases hx
   exact ⟨(Array.getElem?_eq_some_iff.1 hi).1,c,e,fr,hi,rfl⟩
  ·cases hx
 refine ⟨fun i x hx=>?_,fun i x hx _ hi=>?_,fun i j x y hx _ _ _ hi _ _=>?_,fun g _=>rfl,fun i x _ hx _=>(key i x hx).1,rfl,Nat.le_refl _,⟨Nat.le_trans hNG hG,hNG⟩,Nat.le_refl _,⟨rfl,rfl⟩,iS0.no fun i x hx=>by obtain ⟨_,c,e,fr,_,rfl⟩:=key i x hx;rfl⟩
 ·obtain ⟨hlt,c,e,fr,hw,rfl⟩:=key i x hx
  refine ⟨Nat.lt_of_lt_of_le hlt hG,?_⟩
  simp only[OR]
  refine ⟨fun hG'=>absurd (Nat.lt_of_lt_of_le hlt hG) (Nat.not_lt.2 hG'),fun _=>⟨trivial,hlt,fun j v hj hv=>?_⟩⟩
  rw[Array.getElem?_map] at hj
  cases hcj:c[j]? with
  | none=>rw[hcj] at hj;cases hj
  | some u=>
   rw[hcj] at hj
   simp only[Option.map_some,Option.some.injEq] at hj
   subst hj
   obtain ⟨h1,h2,h3⟩:=kQ2 hv
   rw[h1]
   refine ⟨h2,?_⟩
   rw[yT1 s t u h3]
   have:w.heap[(idΓ s t).b i]?=some (.cells c e fr):=hw
   simp only[World.cell?,this]
   simpa using hcj
 ·have:=(key i x hx).1
  have hi:G≤i:=hi
  omega
 ·have:=(key i x hx).1
  have hi:G≤i:=hi
  omega
def cP0 (a:Option Addr):Prop:=a=a
def Sl (h:jA) (a:Option Addr) (cs:List Value):Prop:=
 (cs=[]∧cP0 a)∨∃ b off full e m,a=some ⟨b,off,none⟩∧cells h b=some (full,e,m)∧off+cs.length≤full.length∧(full.drop off).take cs.length=cs∧(h.lo≤b∨uF h.lo cs=true)
theorem qK1:cP0 none:=rfl
theorem cO0 (b o:Nat):cP0 (some ⟨b,o,none⟩):=rfl
theorem Sl.nil (h:jA) {a:Option Addr} (ha:cP0 a):Sl h a []:=.inl ⟨rfl,ha⟩
theorem Sl.row {h:jA} {b:Nat} {cs:List Value} {e:TypeId} {m:Bool} (hc:cells h b=some (cs,e,m)) (hb:h.lo≤b):Sl h (some ⟨b,0,none⟩) cs:=
 .inr ⟨b,0,cs,e,m,rfl,hc,by simp,by simp,.inl hb⟩
theorem Sl.spot {h:jA} {a:Option Addr} {cs:List Value} (hs:Sl h a cs):cP0 a:=by
 rcases hs with h0|⟨b,off,full,e,m,ha,h1,h2,h3,h4⟩
 ·exact h0.2
 ·rw[ha];exact cO0 b off
theorem cP0.map {a:Option Addr} (_:cP0 a) (i:Nat):cP0 (a.map (·.add i)):=rfl
theorem Sl.frame {h h':jA} {a:Option Addr} {cs:List Value} (hs:Sl h a cs) (hlo:h'.lo=h.lo) (hc:∀ b o,a=some ⟨b,o,none⟩→cs≠[]→cells h' b=cells h b):Sl h' a cs:=by
 rcases hs with h0|⟨b,off,full,e,m,ha,h1,h2,h3,h4⟩
 ·exact .inl h0
 ·by_cases h5:cs=[]
  ·exact .inl ⟨h5,by rw[ha];exact cO0 b off⟩
  ·exact .inr ⟨b,off,full,e,m,ha,by rw[hc b off ha h5];exact h1,h2,h3,by rw[hlo];exact h4⟩
theorem Sl.sub {h:jA} {a:Option Addr} {cs:List Value} (hs:Sl h a cs) (i k:Nat):Sl h (a.map (·.add i)) ((cs.drop i).take k):=by
 rcases hs with h0|⟨b,off,full,e,m,ha,h1,h2,h3,h4⟩
 ·left;exact ⟨by simp[h0.1],h0.2.map i⟩
 ·by_cases h5:(cs.drop i).take k=[]
  ·exact .inl ⟨h5,by rw[ha];exact (cO0 b off).map i⟩
  ·right
   have hi:i<cs.length:=by
    rcases Nat.lt_or_ge i cs.length with h6|h6
    ·exact h6
    ·exfalso;apply h5;rw[List.drop_eq_nil_of_le h6];simp
   refine ⟨b,off+i,full,e,m,by rw[ha,Option.map_some,addr_add],h1,?_,?_,?_⟩
   ·simp only[List.length_take,List.length_drop];omega
   ·have h7:cs.drop i=((full.drop off).take cs.length).drop i:=by rw[h3]
    have h8:cs.drop i=((full.drop off).drop i).take (cs.length-i):=by rw[h7,List.drop_take]
    rw[List.drop_drop] at h8
    have hlen:((cs.drop i).take k).length=min k (cs.length-i):=by simp
    rw[hlen,h8,List.take_take]
   ·rcases h4 with h4|h4
    ·exact .inl h4
    ·right
     simp only[uS,Bool.and_eq_true,List.all_eq_true] at h4 ⊢
     exact ⟨fun v hv=>h4.1 v (List.mem_of_mem_drop (List.mem_of_mem_take hv)),qK fun v hv=>qP h4.2 v (List.mem_of_mem_drop (List.mem_of_mem_take hv))⟩
theorem Sl.src {h:jA} {a:Option Addr} {cs:List Value} (hs:Sl h a cs) {n m c len:Nat} (hl:cs.length=m*n) (hn:0<n):qS n m (.slice a len c) h=some cs:=by
 unfold qS
 dsimp only
 cases m with
 | zero=>
  have:cs=[]:=List.length_eq_zero_iff.1 (by rw[hl];simp)
  rw[this]
 | succ m=>
  dsimp only
  rcases hs with h0|⟨b,off,full,e,mo,ha,h1,h2,h3,h4⟩
  ·rw[h0.1] at hl
   have:0<(m+1)*n:=Nat.mul_pos (Nat.succ_pos _) hn
   simp at hl;omega
  ·rw[ha]
   simp only[h1]
   rw[hl] at h2 h3
   simp only[jK0 full off ((m+1)*n) h2,h3]
   rcases h4 with h4|h4
   ·have:Nat.ble h.lo b=true:=by simpa using h4
    rw[this]
   ·rw[h4]
    cases Nat.ble h.lo b<;>rfl
def blk (a:Option Addr) (i:Nat):Prop:=∃ o s,a=some ⟨i,o,s⟩
structure jD (h h':jA) (S:Nat→Prop):Prop where
 next:h.next≤h'.next
 lo:h'.lo=h.lo
 get:∀ i,i<h.next→¬ S i→h'.get i=h.get i
theorem jD.refl (h:jA) (S:Nat→Prop):jD h h S:=⟨Nat.le_refl _,rfl,fun _ _ _=>rfl⟩
theorem jD.trans {h h1 h2:jA} {S T:Nat→Prop} (g:jD h h1 S) (g':jD h1 h2 T) (hT:∀ i,i<h.next→T i→S i):jD h h2 S:=
 ⟨Nat.le_trans g.next g'.next,g'.lo.trans g.lo,fun i hi hs=>(g'.get i (Nat.lt_of_lt_of_le hi g.next) (fun ht=>hs (hT i hi ht))).trans (g.get i hi hs)⟩
theorem jD.mono {h h':jA} {S T:Nat→Prop} (g:jD h h' S) (hT:∀ i,i<h.next→S i→T i):jD h h' T:=⟨g.next,g.lo,fun i hi hs=>g.get i hi fun h=>hs (hT i hi h)⟩
theorem jD.cells {h h':jA} {S:Nat→Prop} (g:jD h h' S) {i:Nat} (hi:i<h.next) (hs:¬ S i):cells h' i=cells h i:=qT (g.get i hi hs)
theorem jD.add (h:jA) (x:qH) (S:Nat→Prop):jD h (h.add x) S:=⟨by rw[jB];omega,jN x,fun i hi _=>jV x i (by omega)⟩
theorem jD.put (h:jA) (b:Nat) (x:qH) {S:Nat→Prop} (hb:b<h.next→S b):jD h (h.put b x) S:=⟨Nat.le_refl _,rfl,fun i hi hs=>jW b x i (fun e=>hs (by subst e;exact hb hi))⟩
theorem uC0 {P:Program} {sT xT e n by_:Nat} (h:appT P sT xT=some (e,n,by_)):∃ dx i z,P.underlying sT=some (.slice e)∧P.underlying xT=some dx∧(∀ k,dx≠.int k)∧P.info? e=some i∧i.zero=some z∧z.cells.size=n∧i.size=n∧i.bytes=by_∧0<n:=by
 unfold appT at h
 split at h
 ·rename_i e' hs
  split at h
  ·cases h
  ·cases h
  ·rename_i dx hdx hx
   split at h
   ·rename_i i hi
    split at h
    ·rename_i z hz
     split at h
     ·rename_i hb
      cases h
      simp only[Bool.and_eq_true,Nat.beq_eq,Nat.blt_eq] at hb
      exact ⟨dx,i,z,hs,hx,fun k e=>hdx k e,hi,hz,hb.1,rfl,rfl,hb.2⟩
     ·cases h
    ·cases h
   ·cases h
 ·cases h
def oO0 (e : TypeId) (i : TypeInfo) (base : Option Addr) (n cap : Nat) (x : Value) (m : Nat) (h : jA) : Option (Value × jA) :=
   let size:=i.size
   match qS size m x h with
   | none=>none
   | some new=>
    match Nat.blt cap UC with
    | true=>match Nat.ble (n+m) cap with
     | true=>match base with
      | none=>match new with | []=>some (.slice none (n+m) cap,h) | _=>none
      | some ⟨b,off,sp⟩=>match m with
       | 0=>some (.slice base (n+0) cap,h)
       | m+1=>match sp with
       | none=>match cells h b with
        | some (cs,e',mo)=>match Nat.ble h.lo b,setN cs (off+n*size) new with
         | true,some cs'=>some (.slice base (n+(m+1)) cap,h.put b ⟨.cells ⟨cs'⟩ e',mo⟩)
         | _,_=>none
        | none=>none
       | some _=>none
     | false=>match qS size n (.slice base n cap) h,(Nat.ble ((n+m)*i.bytes) 140737488355328&&Nat.blt (n+m) U),i.zero with
      | some old,true,some z=>match Nat.beq z.cells.size size&&Nat.blt 0 size with
       | true=>match mkRow h e (old++new) true with
        | some (b,h')=>some (.slice (some ⟨b,0,none⟩) (n+m) UC,h')
        | none=>none
       | false=>none
      | _,_,_=>none
    | false=>match base with
     | some ⟨b,0,none⟩=>match cells h b with
      | some (cs,e',true)=>match Nat.beq e' e&&Nat.beq cap UC&&Nat.ble h.lo b&&Nat.beq cs.length (n*size)&&(Nat.ble ((n+m)*i.bytes) 140737488355328&&Nat.blt (n+m) U),i.zero with
       | true,some z=>match Nat.beq z.cells.size size&&Nat.blt 0 size&&uF h.next new with
        | true=>some (.slice (some ⟨h.next,0,none⟩) (n+m) UC,{ t:=(h.t.put h.next ⟨.cells ⟨cs++new⟩ e,true⟩).put b (qB h.next e cs),next:=h.next+1,lo:=h.lo })
        | false=>none
       | _,_=>none
      | _=>none
     | _=>none
theorem kD0 {P:Program} {sT xT e:TypeId} {dx:TypeDesc} {i:TypeInfo} (hs:P.underlying sT=some (.slice e)) (hxT:P.underlying xT=some dx) (hni:∀ k,dx≠.int k) (hi:P.info? e=some i) {x:Value} {m:Nat} (hl:lenV x=some m) (base:Option Addr) (n cap:Nat) (h:jA) :
  uZ P sT xT (.slice base n cap) x h=oO0 e i base n cap x m h:=by
 unfold uZ
 rw[hs,hl,hxT]
 cases dx<;>first|exact absurd rfl (hni _)|(dsimp only;rw[hi];rfl)
section
variable {P:Program} {h:jA} {s d t:TypeId}
theorem yR2 {k:IntKind} (hT:cnvT P s d=some (0,some k,0)):∃ j,P.underlying s=some (.int j)∧P.underlying d=some (.int k):=by
 unfold cnvT at hT
 repeat' (first|(split at hT)|(cases hT;done))
 all_goals first|(cases hT;done)|skip
 all_goals (cases hT;exact ⟨_,by assumption,by assumption⟩)
theorem yQ2 {k:Option IntKind} {q:Nat} (hT:cnvT P s d=some (1,k,q)):∃ e,P.underlying s=some (.slice e)∧P.underlying e=some (.int .u8)∧P.underlying d=some .string:=by
 unfold cnvT at hT
 repeat' (first|(split at hT)|(cases hT;done))
 all_goals first|(cases hT;done)|skip
 all_goals exact ⟨_,by assumption,by assumption,by assumption⟩
theorem mK1 {k j:IntKind} {n:Int} (hT:cnvT P s d=some (0,some k,0)):cvV P s d (.int j n) h=some (.int k (k.wrap n)):=by
 obtain ⟨i,h1,h2⟩:=yR2 hT
 refine yP2 _ _ _ _ ?_
 simp only[cvP,flat,pvF,convert,gZ,jU0 h1,jU0 h2,Option.bind_some,Conv.intToInt,uQ]
def bv (l:List Int):List Value:=l.map (Value.int .u8)
def txt (l:List Int):ByteArray:=⟨⟨l.map fun n=>UInt8.ofNat n.toNat⟩⟩
theorem bytesOf_bv:∀ l:List Int,bytesOf (bv l)=some (l.map fun n=>UInt8.ofNat n.toNat)
 | []=>rfl
 | n :: l=>by
  have:=bytesOf_bv l
  simp only[bv,List.map_cons] at this ⊢
  simp only[bytesOf,this]
theorem yT2 (l:List Int):(bv l).length=l.length:=by simp[bv]
theorem jF2 {q:Nat} {k:Option IntKind} (hT:cnvT P s d=some (1,k,q)) {a:Option Addr} {n c:Nat} {l:List Int} (hs:Sl h a (bv l)) (hn:l.length=n):cvV P s d (.slice a n c) h=some (.string (txt l)):=by
 obtain ⟨e,h1,h2,h3⟩:=yQ2 hT
 cases a with
 | none=>
  have hl:l=[]:=by
   rcases hs with h0|⟨b,off,full,e,m,ha,_⟩
   ·simpa[bv] using h0.1
   ·cases ha
  subst hl
  have hf:flat (.slice none n c)=true:=rfl
  refine yP2 _ _ _ _ ?_
  simp only[cvP,hf,pvF,convert,gZ,jU0 h1,jU0 h2,jU0 h3,Option.bind_some,Conv.bytesToString,uQ]
  rfl
 | some a=>
  have hp:cvP P s d (.slice (some a) n c)=none:=rfl
  simp only[cvV,hp]
  rcases hs with h0|⟨b,off,full,e',m,ha,hc,h4,h5,_⟩
  ·have hl:l=[]:=by simpa[bv] using h0.1
   subst hl
   simp only[List.length_nil] at hn
   subst hn
   obtain ⟨b,off,sp⟩:=a
   simp only[btS,h1,h3,h2]
   rfl
  ·cases ha
   rw[yT2] at h4 h5
   subst hn
   cases l with
   | nil=>simp only[btS,h1,h3,h2,List.length_nil];rfl
   | cons x l=>
    have ht:=jK0 full off (x :: l).length h4
    rw[h5] at ht
    have hb:=bytesOf_bv (x :: l)
    simp only[List.length_cons] at ht
    simp only[btS,h1,h3,h2,hc,List.length_cons,ht,hb]
    rfl
def cvE (P : Program) (s d : TypeId) (v : Value) (h : jA) : Option (Value × jA) := match P.underlying s, P.underlying d, v with
  | some .string,some (.slice e),.string b=>match P.underlying e,szT P e with
   | some (.int .u8),some 1=>match Nat.blt b.size U with
    | true=>match mkRow h e (b.data.toList.map fun x=>.int .u8 x.toNat) true with
     | some (g,h')=>some (.slice (some ⟨g,0,none⟩) b.size UC,h')
     | none=>none
    | false=>none
   | _,_=>none
  | some (.slice _),some (.slice e),.slice (some ⟨g,off,spot⟩) n c=>dH0 P s d e g (.slice (some ⟨g,off,spot⟩) n c) h
  | _,_,_=>none
theorem te_cv (x:Operand) (tm:VT):te P (.convert s d x) t tm h=cvE P s d (ev tm x) h:=rfl
theorem wM1 (ts:Array TypeId) (t:TypeId) (k j:IntKind) (a b:Int):mnV P ts t [.int k a,.int j b]=some (.int k (min a b)):=by
 have:(if b<a then b else a)=min a b:=by omega
 simp only[mnV,jT,flat,Builtin.min_,List.foldlM,Builtin.min2,pvF]
 show pv P (pure (Value.int k (if b<a then b else a)))=_
 rw[this];rfl
structure Sv (h:jA) (e n:Nat) (a:Option Addr) (len c:Nat) (cs:List Value):Prop where
 hl:cs.length=len*n
 hs:Sl h a cs
 hc:(c<UC∧len≤c)∨(UC≤c∧∃ b off full,a=some ⟨b,off,none⟩∧cells h b=some (full,e,true)∧off=(c-UC)*n∧off+len*n≤full.length)
def loB (lo:Option Value) (h':Nat):Option Nat:=match lo with
 | none=>some 0
 | some (.int _ (.ofNat l))=>(match Nat.ble l h' with | true=>some l | false=>none)
 | some _=>none
def loR (m:Option Nat) (h':Nat):Option Nat→Option (Nat×Nat×Option Nat)
 | none=>none
 | some l=>some (l,h',m)
theorem gH1 (len top:Nat) (lo:Option Value):bounds len top none none lo=loR none len (loB lo len):=by
 unfold bounds loR loB;rfl
theorem gG1 (len top h':Nat) (k:IntKind) (lo:Option Value) (h:h'≤top):bounds len top none (some (.int k (.ofNat h'))) lo=loR none h' (loB lo h'):=by
 have:Nat.ble h' top=true:=by simpa using h
 unfold bounds;simp only[this];rfl
theorem gF1 (len top h' mm:Nat) (k j:IntKind) (lo:Option Value) (h:h'≤mm) (hm:mm≤top):bounds len top (some (.int j (.ofNat mm))) (some (.int k (.ofNat h'))) lo=loR (some mm) h' (loB lo h'):=by
 have h1:Nat.ble h' mm=true:=by simpa using h
 have h2:Nat.ble mm top=true:=by simpa using hm
 unfold bounds;simp only[h1,h2];rfl
theorem yM0 {len:Nat} {kl kh km:IntKind} {lo hi mx:Option Int} (h1:∀ x,mx=some x→0≤x∧x≤len) (h2:∀ x,hi=some x→0≤x∧x≤mx.getD len) (h3:hi=none→mx=none) (h4:∀ x,lo=some x→0≤x∧x≤hi.getD len) :
  bounds len len (mx.map (Value.int km)) (hi.map (Value.int kh)) (lo.map (Value.int kl))=some ((lo.getD 0).toNat,(hi.getD len).toNat,mx.map Int.toNat):=by
 have key:∀ h':Nat,(hi.getD len).toNat=h'→loB (lo.map (Value.int kl)) h'=some (lo.getD 0).toNat:=fun h' hh=>by
  cases lo with
  | none=>rfl
  | some x=>
   obtain ⟨p1,p2⟩:=h4 x rfl
   cases x with
   | negSucc n=>omega
   | ofNat n=>
    have:Nat.ble n h'=true:=by
     rw[← hh];simp only[Nat.ble_eq]
     have:(n:Int)≤hi.getD len:=p2
     omega
    simp only[loB,Option.map_some,this,Option.getD_some]
    rfl
 cases mx with
 | none=>
  cases hi with
  | none=>
   have:=key len (by simp)
   simp only[Option.map_none,Option.getD_none,Int.toNat_natCast] at this ⊢
   rw[gH1,this];rfl
  | some x=>
   obtain ⟨p1,p2⟩:=h2 x rfl
   cases x with
   | negSucc n=>omega
   | ofNat n=>
    have h5:n≤len:=by
     have:(n:Int)≤(len:Int):=p2
     omega
    have:=key n (by simp)
    simp only[Option.map_none,Option.map_some,Option.getD_some] at this ⊢
    rw[gG1 _ _ _ _ _ h5,this];rfl
 | some y=>
  obtain ⟨q1,q2⟩:=h1 y rfl
  cases hi with
  | none=>cases h3 rfl
  | some x=>
   obtain ⟨p1,p2⟩:=h2 x rfl
   cases y with
   | negSucc n=>omega
   | ofNat j=>
    cases x with
    | negSucc n=>omega
    | ofNat n=>
     have h5:j≤len:=by
      have:(j:Int)≤(len:Int):=q2
      omega
     have h6:n≤j:=by
      have:(n:Int)≤(j:Int):=p2
      omega
     have:=key n (by simp)
     simp only[Option.map_some,Option.getD_some] at this ⊢
     rw[gF1 _ _ _ _ _ _ _ h6 h5,this];rfl
end
end
end Go.Ev
namespace Go.Ev
open Go Go.RowKit
attribute [push_cast] mI0 jB2 jA2 tZ1 tY1 tX1 dZ1 wR1 put_s put_n yH1 sT0 yA2 dW1 tV1 yC1 rR1 rS1 kV2 mW1 fdV_a rU1 rT1 zY2 zZ2 ncV_p ncV_f miV_f lnB_l bdV_s kZ1 sP0 tJ1 nE1 nB1 qB1 qA1 nD1 nA1 pK0 pI0 uG2 uB2 tp_un tv_un tp_fa tv_fa tp_fd tv_fd tp_ia tv_ia tp_ix tv_ix tp_nc tv_nc tp_mf tv_mf tp_mi tv_mi bU1 bT1 uF2 uA2 uD2 qY2 uE2 qZ2 nC1 bS1 pJ0 bZ1 uM2 te_bs bX1 te_ms qD1 b_add b_sub b_mul b_quo b_rem b_lss b_leq b_gtr b_geq b_eql b_neq yZ2 gB2 wrap_i64 jK wX jB jN jP jG qC qG kV1 dS1 dR1 tD1 tC1 tG1 tF1 tE1 kW1 pG0 iX0 pF0 bM1 bL1 bN1 bP1 jY1 bO1 jX1 bQ1 zV0 sL1 uR2 alE_s msE_s setFrom List.take_zero List.take_succ_cons List.drop_zero List.drop_succ_cons List.take_nil List.drop_nil List.nil_append List.cons_append List.append_nil List.length_cons List.length_nil List.getElem?_cons_zero List.getElem?_cons_succ List.map_cons List.map_nil Option.map_some Option.map_none Nat.zero_add Nat.add_zero if_true if_false decide_true decide_false Bool.not_true Bool.not_false true_and and_true List.size_toArray or_true true_or List.mem_cons List.mem_nil_iff List.not_mem_nil or_false false_or Nat.zero_mul Nat.mul_one Nat.mul_zero Nat.lt_irrefl Option.isNone_some Option.isNone_none Nat.succ_ne_zero eq_self ite_true ite_false Int.natCast_zero Nat.sub_zero q_scn q_scc q_scs q_scb and_self
end Go.Ev
namespace Go.Ev
open Go Go.RowKit
noncomputable section
theorem qV0 {d:Nat} {ds:List Nat} {h:jA} {m:Bool} (hd:h.get d=some ⟨.deferred (some []),m⟩) (hlo:h.lo≤d):uL (d :: ds) h=uL ds (h.put d ⟨.deferred none,false⟩):=by
 have:Nat.ble h.lo d=true:=by simpa using hlo
 simp only[uL,hd,this]
theorem qE {h:jA} {l:Nat} {r:Loop} {m:Bool} (hg:h.get l=some ⟨.loop r,m⟩) (hlo:h.lo≤l):qF h l=some r:=by
 have:Nat.ble h.lo l=true:=by simpa using hlo
 unfold qF
 rw[hg]
 dsimp only
 rw[this]
end
end Go.Ev
namespace Go.Ev
open Go Go.RowKit
noncomputable section
abbrev Tx (l:List UInt8):ByteArray:=⟨⟨l⟩⟩
theorem gQ1 (l:List UInt8):(Tx l).size=l.length:=rfl
abbrev bt (l:List UInt8) (i:Nat):Int:=((l.getD i 0).toNat:Int)
section
variable {P:Program} {h:jA} {t:TypeId}
theorem ixV_t (l:List UInt8) (k:IntKind) (i:Int) (h0:0≤i) (hi:i<l.length):ixV (some none) (.string (Tx l)) (.int k i)=some (.int .u8 (bt l i.toNat)):=
 ixV_s (Tx l) k i h0 hi
theorem lnB_t (l:List UInt8):lnB (some true) (.string (Tx l))=some (.int .i64 l.length):=rfl
def lR0 (P:Program) (t:TypeId):Bool:=match P.underlying t with|some .string=>true|_=>false
theorem oB0 (hT:lR0 P t=true):P.underlying t=some .string:=by
 unfold lR0 at hT;split at hT
 ·assumption
 ·cases hT
def itO (s:ByteArray) (p:Nat):qH:=⟨.stringIter s p,false⟩
def rgE (q:Bool) (v:Value) (h:jA):Option (Value×jA):=match q,v with
 | true,.string s=>some (.pointer (some ⟨h.next,0,none⟩),h.add (itO s 0))
 | _,_=>none
theorem nJ0 {ty:TypeId} {x:Operand} {tm:VT} (hT:lR0 P ty=true):te P (.range ty x) t tm h=rgE true (ev tm x) h:=by
 have hu:=oB0 hT
 have e:te P (.range ty x) t tm h=wD0 P (bare (.range ty x) t) tm h:=rfl
 rw[e]
 simp only[bare,wD0,hu,jA.add]
 cases ev tm x<;>rfl
theorem rgE_s (s:ByteArray):rgE true (.string s) h=some (.pointer (some ⟨h.next,0,none⟩),h.add (itO s 0)):=rfl
def nxE (v : Value) (h : jA) : Option (Value × jA) := match v with
  | .pointer (some ⟨b,0,none⟩)=>match h.get b,Nat.ble h.lo b with
   | some ⟨.stringIter s pos,false⟩,true=>match Nat.blt pos s.size with
    | true=>some (.tuple #[.bool true,goInt pos,.int .i32 (Utf8.decode s pos).1],h.put b ⟨.stringIter s (pos+(Utf8.decode s pos).2),false⟩)
    | false=>some (.tuple #[.bool false],h)
   | _,_=>none
  | _=>none
theorem nI1 {x:Operand} {tm:VT}:te P (.next x true) t tm h=nxE (ev tm x) h:=rfl
theorem zD2 (b pos:Nat) (l:List UInt8) (hg:h.get b=some (itO (Tx l) pos)) (hlo:h.lo≤b) (hp:pos<l.length) :
  nxE (.pointer (some ⟨b,0,none⟩)) h=some (.tuple #[.bool true,.int .i64 pos,.int .i32 (Utf8.decode (Tx l) pos).1],h.put b (itO (Tx l) (pos+(Utf8.decode (Tx l) pos).2))):=by
 have h1:Nat.ble h.lo b=true:=by simpa using hlo
 have h2:Nat.blt pos (Tx l).size=true:=by simpa[gQ1] using hp
 simp only[nxE,hg,itO,h1,h2,goInt]
theorem zE2 (b pos:Nat) (l:List UInt8) (hg:h.get b=some (itO (Tx l) pos)) (hlo:h.lo≤b) (hp:l.length≤pos) :
  nxE (.pointer (some ⟨b,0,none⟩)) h=some (.tuple #[.bool false],h):=by
 have h1:Nat.ble h.lo b=true:=by simpa using hlo
 have h2:Nat.blt pos (Tx l).size=false:=by rw[Bool.eq_false_iff];simpa[gQ1] using hp
 simp only[nxE,hg,itO,h1,h2]
end
attribute [push_cast] ixV_t lnB_t nJ0 rgE_s nI1 zD2 zE2 qW qO jV jW qG mK1 te_cv
theorem W.loopI {p:Par} (jX:uE0 p) {ro:Option Nat} {b:IR} {R:jL→S→Prop} (I:Nat→S→Prop) (h:∀ n s1,I n s1→vc p ro b s1 (cL0 (fun s2=>∃ m,m<n∧I m s2) R)) :
  ∀ n s,I n s→W p ro (.loop b) s R:=by
 intro n
 induction n using Nat.strongRecOn with
 | ind n ih=>
  intro s hI
  refine W.round jX (uN _ _ _ _ ?_ (h n s hI))
  intro e s2 hr
  cases e with
  | normal=>obtain ⟨m,hm,h2⟩:=hr;exact ih m hm s2 h2
  | exit i=>exact hr
  | goto l=>exact hr
  | ret=>exact hr
theorem yP0 {p:Par} (jX:uE0 p) {ro:Option Nat} {b c:Code} {ir:IR} {s:S} {R:jL→S→Prop} (hc:comp p.P c=ir) (h:vc p ro ir s (yV0 p ro b R)):WPin p ro b c s R:=
 WPin.of (jZ0 jX c s _ (by rw[hc];exact h))
theorem cL1 {p:Par} {ro:Option Nat} {b:Code} {R:jL→S→Prop} {s:S}:yV0 p ro b R .normal s=R .normal s:=rfl
theorem cK1 {p:Par} {ro:Option Nat} {b:Code} {R:jL→S→Prop} {s:S}:yV0 p ro b R .ret s=R .ret s:=rfl
theorem cM1 {p:Par} {ro:Option Nat} {b:Code} {R:jL→S→Prop} {s:S} {i:Nat}:yV0 p ro b R (.exit i) s=R (.exit i) s:=rfl
attribute [push_cast] cL1 cK1 cM1
def gT (v:Value) (w:Bool) (A:Option Value) (B:Option (Value×Value)) (h:jA) (K:Value→jA→Prop):Prop:=gV v w (oT A B h K) (K undef h)
def gE (v:Value) (w:Bool) (A:Option (Value×jA)) (h:jA) (K:Value→jA→Prop):Prop:=gV v w (oE A K) (K undef h)
def gP (v:Value) (w:Bool) (A:Option Value) (h:jA) (K:Value→jA→Prop):Prop:=gV v w (oP A h K) (K undef h)
def gC (p:Par) (v:Value) (w:Bool) (f:Value) (args:List Value) (h:jA) (K:Value→jA→Prop):Prop:=gV v w (yB0 p f args h K) (K undef h)
@[congr] theorem gT_congr {v v':Value} {w:Bool} {A:Option Value} {B:Option (Value×Value)} {h:jA} {K:Value→jA→Prop} (e:v=v'):gT v w A B h K=gT v' w A B h K:=by rw[e]
@[congr] theorem gE_congr {v v':Value} {w:Bool} {A:Option (Value×jA)} {h:jA} {K:Value→jA→Prop} (e:v=v'):gE v w A h K=gE v' w A h K:=by rw[e]
@[congr] theorem gP_congr {v v':Value} {w:Bool} {A:Option Value} {h:jA} {K:Value→jA→Prop} (e:v=v'):gP v w A h K=gP v' w A h K:=by rw[e]
@[congr] theorem gC_congr {p:Par} {v v':Value} {w:Bool} {f:Value} {args:List Value} {h:jA} {K:Value→jA→Prop} (e:v=v'):gC p v w f args h K=gC p v' w f args h K:=by rw[e]
section
variable {p:Par} {w:Bool} {A:Option Value} {B:Option (Value×Value)} {E:Option (Value×jA)} {h:jA} {K:Value→jA→Prop} {f:Value} {args:List Value}
theorem gP_tt:gP (.bool true) true A h K=oP A h K:=dK1
theorem gP_ff:gP (.bool false) false A h K=oP A h K:=dN1
theorem gP_tf:gP (.bool true) false A h K=K undef h:=dL1
theorem gP_ft:gP (.bool false) true A h K=K undef h:=dM1
theorem gP_u:gP undef w A h K=K undef h:=propext Iff.rfl
end
def vop2 (p:Par) (g:Option (Nat×Bool)) (c:Cl) (o:Op) (t:TypeId) (tm:VT) (h:jA) (K:Value→jA→Prop):Prop:=
 match g with
 | none=>vop p c o t tm h K
 | some (d,w)=>match c with
  | .take=>gT (tm.get d) w (tv p.P o t tm h) (tw p.P o tm h) h K
  | .eff=>gE (tm.get d) w (te p.P o t tm h) h K
  | .call=>match o with
   | .call ⟨.value f,args,_⟩=>gC p (tm.get d) w (ev tm f) (args.toList.map (ev tm)) h K
   | _=>gV (tm.get d) w False (K undef h)
def mU1 (p:Par) (l:List It):VT→jA→(VT→jA→Prop)→Prop:=
 List.rec (motive:=fun _=>VT→jA→(VT→jA→Prop)→Prop) (fun tm h K=>K tm h)
  (fun x _ ih tm h K=>vop2 p x.g x.c x.o x.t tm h (fun v h'=>ih (put tm x.d v) h' K)) l
theorem nF0 (p:Par) (K:VT→jA→Prop):∀ (l:List It) (tm:VT) (h:jA),mU1 p l tm h K=vops p l tm h K
 | [],tm,h=>rfl
 | x :: l,tm,h=>by
  show vop2 p x.g x.c x.o x.t tm h (fun v h'=>mU1 p l (put tm x.d v) h' K)=_
  simp only[nF0 p K l,vops]
  obtain ⟨d,g,c,o,t⟩:=x
  cases g with
  | none=>rfl
  | some y=>
   obtain ⟨j,w⟩:=y
   cases c with
   | take=>rfl
   | eff=>rfl
   | call=>
    cases o with
    | call c=>obtain ⟨cl,args,ats⟩:=c;cases cl<;>rfl
    | _=>rfl
def isSl (o:Op):Bool:=match o with | .slice _ _ _ _ _=>true|_=>false
def kM (p:Par):PT→HL→VT→jA→(VT→jA→Prop)→Prop
 | .fin,_,tm,h,K=>K tm h
 | .no,_,_,_,_=>True
 | .bad,_,_,_,_=>False
 | .take i rd x k,L,tm,h,K=>match rd with
  | false=>match x.g with
   | none=>oP (tp p.P x.o x.t tm) h (fun v _=>kM p k L (put tm x.d v) h K)
   | some (d,w)=>gP (tm.get d) w (tp p.P x.o x.t tm) h (fun v _=>kM p k L (put tm x.d v) h K)
  | true=>vgd tm x.g (match isSl x.o with
   | false=>oP (tv p.P x.o x.t tm h) h (fun v _=>kM p k ((i,fun h'=>tv p.P x.o x.t tm h',v) :: L) (put tm x.d v) h K)
   | true => oR (tv p.P x.o x.t tm h) (tw p.P x.o tm h) (fun v => kM p k ((i, fun h' => tv p.P x.o x.t tm h', v) :: L) (put tm x.d v) h K)
     (fun v=>kM p k ((i,fun h'=>(tw p.P x.o tm h').map (·.1),v) :: L) (put tm x.d v) h K) (fun v=>kM p k ((i,fun h'=>(tw p.P x.o tm h').map (·.2),v) :: L) (put tm x.d v) h K))
   (kM p k L (put tm x.d undef) h K)
 | .eff _ x bind k alt,L,tm,h,K=>match alt with
  | .no=>vgd tm x.g (vop p x.c x.o x.t tm h fun v h'=>jR (bI0 bind h' L) (kM p k (gR0 bind L) (put tm x.d v) h' K)) (kM p k (gR0 bind L) (put tm x.d undef) h K)
  | alt=>vgd tm x.g (vop p x.c x.o x.t tm h fun v h'=>jR (bI0 bind h' L) (kM p k (gR0 bind L) (put tm x.d v) h' K)) (kM p k (gR0 bind L) (put tm x.d undef) h K)∧kM p alt L tm h K
theorem wI0 (p:Par) (K:VT→jA→Prop):∀ (t:PT) (L:HL) (tm:VT) (h:jA),kM p t L tm h K=uT p t L tm h K
 | .fin,L,tm,h=>rfl
 | .no,L,tm,h=>rfl
 | .bad,L,tm,h=>rfl
 | .take i rd x k,L,tm,h=>by
  simp only[kM,uT,wI0 p K k]
  cases rd with
  | false=>
   dsimp only
   cases x.g with
   | none=>rfl
   | some y=>obtain ⟨d,w⟩:=y;rfl
  | true=>
   dsimp only
   congr 1
   cases ho:isSl x.o with
   | true=>rfl
   | false=>
    have:tw p.P x.o tm h=none:=by
     unfold tw
     split
     ·rename_i he;rw[he] at ho;cases ho
     ·rfl
    simp only[this,oP]
 | .eff i x bind k alt,L,tm,h=>by
  simp only[uT,← wI0 p K k,← wI0 p K alt]
  cases alt with
  | no=>simp only[kM,jR,and_true]
  | _=>simp only[kM,jR]
def vc2 (p:Par) (ro:Option Nat):IR→S→(jL→S→Prop)→Prop
 | .bad,_,_=>False
 | .skip,s,R=>R .normal s
 | .ret,s,R=>R .ret s
 | .exit i,s,R=>R (.exit i) s
 | .goto l,s,R=>R (.goto l) s
 | .label _,s,R=>R .normal s
 | .ops l,s,R=>mU1 p l s.tm s.h fun tm h=>R .normal ⟨tm,s.df,h⟩
 | .plan t,s,R=>kM p t [] s.tm s.h fun tm h=>R .normal ⟨tm,s.df,h⟩
 | .seq a b,s,R=>vc2 p ro a s (cL0 (fun s1=>vc2 p ro b s1 R) R)
 | .cond x a b,s,R=>uW0 (ev s.tm x) (vc2 p ro a s R) (vc2 p ro b s R)
 | .block i b,s,R=>vc2 p ro b s (outR i R)
 | .loop b,s,R=>W p ro (.loop b) s R
 | .scope b,s,R=>WPin p ro b b s R
 | .range g ps a b,s,R=>W p ro (.range g ps a b) s R
theorem yQ0 (p:Par) (ro:Option Nat):∀ (ir:IR) (s:S) (R:jL→S→Prop),vc2 p ro ir s R=vc p ro ir s R
 | .bad,s,R=>rfl
 | .skip,s,R=>rfl
 | .ret,s,R=>rfl
 | .exit i,s,R=>rfl
 | .goto l,s,R=>rfl
 | .label l,s,R=>rfl
 | .ops l,s,R=>nF0 p _ l _ _
 | .plan t,s,R=>wI0 p _ t _ _ _
 | .seq a b,s,R=>by simp only[vc2,vc,yQ0 p ro a,yQ0 p ro b]
 | .cond x a b,s,R=>by simp only[vc2,vc,yQ0 p ro a,yQ0 p ro b]
 | .block i b,s,R=>yQ0 p ro b s _
 | .loop b,s,R=>rfl
 | .scope b,s,R=>rfl
 | .range g ps a b,s,R=>rfl
@[congr] theorem qX2 {p:Par} {ro:Option Nat} {ir:IR} {s:S} {R:jL→S→Prop}:vc2 p ro ir s R=vc2 p ro ir s R:=rfl
@[congr] theorem qW2 {p:Par} {ro:Option Nat} {a b:Code} {s:S} {R:jL→S→Prop}:WPin p ro a b s R=WPin p ro a b s R:=rfl
def fr0 (args:List Value) (n:Nat):VT:=VT.of (args++List.replicate (n-args.length) undef) n
def wQ (l:List (Option Value)):Option Value:=
 let rec go:List (Option Value)→Option (List Value)
  | []=>some []
  | x :: rs=>match x,go rs with | some v,some l=>some (v :: l) | _,_=>none
 match go l with
 | some [v]=>some v
 | some l=>some (.tuple ⟨l⟩)
 | none=>none
theorem wL2 (a:Value):wQ [some a]=some a:=rfl
theorem wK2 (a b:Value):wQ [some a,some b]=some (.tuple #[a,b]):=rfl
theorem wJ2 (a b c:Value):wQ [some a,some b,some c]=some (.tuple #[a,b,c]):=rfl
def rgV (P : Program) (ty : TypeId) (v : Value) (h : jA) : Option (Value × jA) := match P.underlying ty, v with
  | some .string,.string s=>some (.pointer (some ⟨h.next,0,none⟩),(h.new ⟨.stringIter s 0,false⟩).2)
  | _,_=>none
theorem rgV_s {P:Program} {ty:TypeId} {h:jA} (hT:lR0 P ty=true) (s:ByteArray):rgV P ty (.string s) h=some (.pointer (some ⟨h.next,0,none⟩),h.add (itO s 0)):=by
 simp only[rgV,oB0 hT,jA.add]
 rfl
attribute [push_cast] gP_tt gP_ff gP_tf gP_ft gP_u wL2 wK2 wJ2 rgV_s
theorem gJ.fir3 {p:Par} (jX:uE0 p) {g:FuncId} {f:FIR} (hf:Ev.fir p.P g=some f) {args:List Value} {h:jA} {R:Value→jA→Prop} {T:VT} (hn:Nat.ble args.length f.n=true) (hU:Nat.ble f.n 100000=true)
  (hT:T.arr=⟨args++List.replicate (f.n-args.length) undef⟩) (hv:h.lo≤h.next→vc2 p none f.ir ⟨T,[],h⟩ (jH p.P f.rs R)):gJ p g args h R:=by
 unfold Ev.fir at hf
 split at hf
 ·rename_i fn hfn
  split at hf<;>cases hf
  rename_i c hb
  have hU:fn.ntmps<U:=le_U (by simpa using hU)
  have hn:args.length≤fn.ntmps:=by simpa using hn
  refine gJ.body jX hfn hb hn hU ?_
  intro hok Γ ca w hst F n Q hF hro hl hQ
  have hlo:h.lo≤h.next:=by have:=hst.hr;rw[this.lo];exact this.gn
  have hsz:T.sz=fn.ntmps:=by
   have h1:=VT.arr_size T
   rw[← h1,hT]
   simp;omega
  have harr:T.arr=(FR fn.ntmps (kY0 0 args)).arr:=by
   rw[bD1 fn.ntmps hU args hn,hT]
   apply Array.ext';simp
  have hv':=hv hlo
  rw[yQ0] at hv'
  refine jZ0 jX c _ _ hv' hok Γ ca w ⟨⟨by show T.sz<U;rw[hsz];exact hU,?_,hst.tm.gl⟩,?_,hst.df,hst.hr⟩ F n Q hF hro hl hQ
  ·show _=T.arr.map _;rw[harr];exact hst.tm.tm
  ·show ∀ x∈T.arr.toList,_;rw[harr];exact hst.sc
 ·cases hf
abbrev Gr (h h':jA):Prop:=jD h h' (fun _=>False)
theorem Gr.refl (h:jA):Gr h h:=jD.refl _ _
theorem jD.put' {h h1:jA} {S:Nat→Prop} (g:jD h h1 S) (b:Nat) (x:qH) (hb:h.next≤b):jD h (h1.put b x) S:=⟨g.next,g.lo,fun i hi hs=>(jW b x i (by omega)).trans (g.get i hi hs)⟩
theorem jD.put'' {h h1:jA} {S:Nat→Prop} (g:jD h h1 S) (b:Nat) (x:qH) (hb:b<h.next→S b):jD h (h1.put b x) S:=⟨g.next,g.lo,fun i hi hs=>(jW b x i (fun e=>hs (by subst e;exact hb hi))).trans (g.get i hi hs)⟩
theorem jD.add' {h h1:jA} {S:Nat→Prop} (g:jD h h1 S) (x:qH):jD h (h1.add x) S:=⟨by rw[jB];have:=g.next;omega,(jN x).trans g.lo,fun i hi hs=>(jV x i (by have:=g.next;omega)).trans (g.get i hi hs)⟩
theorem jD.tr {h h1 h2:jA} {S:Nat→Prop} (g:jD h h1 S) (g':Gr h1 h2):jD h h2 S:=g.trans (g'.mono fun _ _ h=>h.elim) (fun _ _ h=>h)
theorem jD.tr' {h h1 h2:jA} {S T:Nat→Prop} (g:jD h h1 S) (g':jD h1 h2 T) (hT:∀ i,i<h.next→T i→S i):jD h h2 S:=g.trans g' hT
theorem jD.cellsE {h h':jA} {S:Nat→Prop} (g:jD h h' S) {i:Nat} {x:List Value×TypeId×Bool} (hc:Ev.cells h i=some x) (hi:i<h.next) (hs:¬ S i):Ev.cells h' i=some x:=(g.cells hi hs).trans hc
@[push_cast]theorem evRes_ct {P:Program} (tm:VT) (h:jA) (a t u:Nat):gQ P [.cell a t,.tmp u] tm h=wQ [jJ P t (tm.get a) h,some (tm.get u)]:=by
 simp only[gQ,qI.go]
 cases jJ P t (tm.get a) h<;>rfl
def hi.{u} {α:Type u} (a:α):α:=(fun (_:Par→Option Nat→IR→S→(jL→S→Prop)→Prop)=>a) vc
def jQ (k:S→Prop) (R:jL→S→Prop) (e:jL) (s:S):Prop:=hi (match e with | .normal=>k s|e=>R e s)
def jU (id:Nat) (R:jL→S→Prop) (e:jL) (s:S):Prop:=hi (match e with | .exit j=>if j=id then R .normal s else R (.exit j) s|e=>R e s)
theorem eQ0 (k:S→Prop) (R:jL→S→Prop):jQ k R=cL0 k R:=rfl
class WB where a:Prop
class WK where a:Value→jA→Prop
class WV where a:Value→Prop
class WR where a:jL→S→Prop
abbrev HE:=Nat×(jA→Option Value)×Value
class WE where a:Value→HE→Prop
class WC where a:Value→jA→Prop→Prop
def kb [x:WB]:Prop:=x.a
def kk [x:WK]:Value→jA→Prop:=x.a
def kR [x:WR]:jL→S→Prop:=hi x.a
def kc [x:WC]:Value→jA→Prop→Prop:=x.a
theorem zU2 (K:Value→jA→Prop) (v:Value) (h:jA):@kk ⟨K⟩ v h=K v h:=propext Iff.rfl
section
variable {A B:Prop} {w:Bool}
theorem bJ1:uW0 (.bool true) (@kb ⟨A⟩) (@kb ⟨B⟩)=A:=by simp[uW0,kb]
theorem bK1:uW0 (.bool false) (@kb ⟨A⟩) (@kb ⟨B⟩)=B:=by simp[uW0,kb]
theorem dG1:jR True (@kb ⟨B⟩)=B:=by simp[jR,kb]
end
section
variable {R:jL→S→Prop} {k:S→Prop} {s:S} {P:Program} {p:Par} {ro:Option Nat} {c:Code}
theorem kR_tn:@kR ⟨jQ k R⟩ .normal s=k s:=propext Iff.rfl
theorem kR_te (i:Nat):@kR ⟨jQ k R⟩ (.exit i) s=@kR ⟨R⟩ (.exit i) s:=propext Iff.rfl
theorem kR_tr:@kR ⟨jQ k R⟩ .ret s=@kR ⟨R⟩ .ret s:=propext Iff.rfl
theorem kR_on (i:Nat):@kR ⟨jU i R⟩ .normal s=@kR ⟨R⟩ .normal s:=propext Iff.rfl
theorem kR_oe (i j:Nat):@kR ⟨jU i R⟩ (.exit j) s=if j=i then @kR ⟨R⟩ .normal s else @kR ⟨R⟩ (.exit j) s:=propext Iff.rfl
theorem kR_or (i:Nat):@kR ⟨jU i R⟩ .ret s=@kR ⟨R⟩ .ret s:=propext Iff.rfl
theorem kR_k (e:jL):@kR ⟨@kR ⟨R⟩⟩ e s=@kR ⟨R⟩ e s:=propext Iff.rfl
theorem kR_fr (rs:List ResultVar) (Q:Value→jA→Prop):@kR ⟨jH P rs Q⟩ .ret s=endR P rs Q s:=propext Iff.rfl
end
attribute [push_cast] Bool.true_or Bool.false_or Bool.or_true Bool.or_false Bool.true_and Bool.false_and Bool.and_true Bool.and_false Bool.not_false ite_self
section
variable {p:Par} {P:Program} {h:jA} {k:Value→jA→Prop} {k0 k1 k2:Value→Prop}
theorem oP_s2 (v:Value):oP (some v) h k=k v h:=propext Iff.rfl
theorem oE_s2 (v:Value):oE (some (v,h)) k=k v h:=propext Iff.rfl
theorem yF2 {rs:List ResultVar} {R:Value→jA→Prop} (tm:VT) (df:List Nat):endR P rs R ⟨tm,df,h⟩=endM P rs R tm (uL df h):=propext Iff.rfl
theorem yG2 {rs:List ResultVar} {R:Value→jA→Prop} (tm:VT):endM P rs R tm (some h)=oP (gQ P rs tm h) h R:=propext Iff.rfl
end
attribute [push_cast] oP_s2 oE_s2 yF2 yG2
attribute [push_cast] zU2 bJ1 bK1 dG1 kR_tn kR_te kR_tr kR_on kR_oe kR_or kR_k kR_fr
def isNo:PT→Bool | .no=>true|_=>false
end
end Go.Ev
