/-
  A part of the proof: conditions over an abstract memory,and that they are enough for what the model's calls do. No condition of its own.
-/
import Derived.Test.YtklapbhlhjdijaaGreatDoorEva
import Derived.Below
import Derived.Laws.StructEq
set_option linter.unusedSimpArgs false
set_option linter.unusedVariables false
namespace Go.Ev
open Go Go.RowKit
section
variable {F:Fence} {n:Nat} {P:Z9} {ops:Array Oper} {Q:Exit→Act→Zw→Prop} {md:Region.Mode}
def anyX (F:Fence)(n:Nat)(P:Z9)(md:Region.Mode)(ops:Array Oper)(Q:Exit→Act→Zw→Prop)(S:List Nat→Zw→Prop):Nat→Array Zb→List Nat→Act→Zw→Prop
 | 0,listed,_,a,w=>Region.ready md ops listed=[]∧Q .normal a w
 | fuel+1,listed,dn,a,w=>
  (Region.ready md ops listed=[]→Q .normal a w)∧
  ∀ i∈Region.ready md ops listed,opW F n P ops Q i (λh w'=>(S (i :: dn) w'∨w'=w)∧anyX F n P md ops Q S fuel (listed.setIfInBounds i true) (i :: dn) h w') a w
theorem yR0 (e:FW F)(d:iE0 ops){S:List Nat→Zw→Prop}:∀ (fuel:Nat) (c:Array Zb) (b:List Nat) (a:Act) (w:Zw),anyX F n P md ops Q S fuel c b a w→wpAnyIn F n P md ops Q fuel c a w
 | 0,_,_,_,_,h=>h
 | fuel+1,_,b,_,_,h=>⟨h.1,λi hi=>eZ1 e d (gO0 (λf w' g=>yR0 e d fuel _ _ f w' g.2) (h.2 i hi))⟩
theorem cZ0 {S e:List Nat→Zw→Prop}(f:∀ i w,S i w→e i w):∀ (fuel:Nat) (c:Array Zb) (b:List Nat) (a:Act) (w:Zw),anyX F n P md ops Q S fuel c b a w→anyX F n P md ops Q e fuel c b a w
 | 0,_,_,_,_,h=>h
 | fuel+1,_,b,_,_,h=>⟨h.1,λi hi=>gO0 (λg w' d=>⟨d.1.imp (f _ _) id,cZ0 f fuel _ _ g w' d.2⟩) (h.2 i hi)⟩
theorem uA2 {S:List Nat→Zw→Prop}(l:∀ d j w,(∀ x∈d,x∈j)→S d w→S j w):∀ (fuel:Nat) (c:Array Zb) (f b:List Nat) (a:Act) (w:Zw),(∀ x∈f,x∈b)→anyX F n P md ops Q S fuel c f a w→anyX F n P md ops Q S fuel c b a w
 | 0,_,_,_,_,_,_,h=>h
 | fuel + 1, _, f, b, _, _, hd, h => ⟨h.1, fun i hi => gO0 (fun m w' k => by
   have e:∀ x∈i :: f,x∈i :: b:=λx g=>by
    rcases List.mem_cons.1 g with rfl|g
    ·exact List.mem_cons_self ..
    ·exact List.mem_cons_of_mem _ (hd x g)
   exact ⟨k.1.imp (l _ _ _ e) id,uA2 l fuel _ _ _ m w' e k.2⟩) (h.2 i hi)⟩
inductive Beh (md:Region.Mode)(ops:Array Oper):Nat→Nat→Prop
 | one {k:Nat} {ok:Oper} {e:Edge} (hk:ops[k]?=some ok) (he:e∈ok.after) (hb:Region.binds md e=true):Beh md ops k e.on
 | step {k i:Nat} {ok:Oper} {e:Edge} (hk:ops[k]?=some ok) (he:e∈ok.after) (hb:Region.binds md e=true) (h:Beh md ops e.on i):Beh md ops k i
theorem Beh.snoc {k j:Nat}(h:Beh md ops k j):∀ {i:Oper} {e:Edge},ops[j]?=some i→e∈i.after→Region.binds md e=true→Beh md ops k e.on:=by
 induction h with
 | one f d b=>exact λg c a=>.step f d b (.one g c a)
 | step f d b _ l=>exact λg c a=>.step f d b (l g c a)
def cA0 (md:Region.Mode)(ops:Array Oper)(h:List Nat)(i:Nat):Prop:=∀ k∈h,¬ Beh md ops k i
structure dR (md:Region.Mode)(ops:Array Oper)(listed:Array Zb)(dn:List Nat):Prop where
 all:∀ k ok,ops[k]?=some ok→listed.getD k true=true→∀ e∈ok.after,Region.binds md e=true→listed.getD e.on true=true
 dn:∀ k∈dn,listed.getD k true=true
variable {S:List Nat→Zw→Prop} {T:Zw→Prop}
theorem dR.beh {a:Array Zb}{j:List Nat}(f:dR md ops a j){k i:Nat}(h:Beh md ops k i)(e:a.getD k true=true):a.getD i true=true:=by
 induction h with
 | one c d b=>exact f.all _ _ c e _ d b
 | step c d b _ g=>exact g (f.all _ _ c e _ d b)
theorem qN0 {a:Array Zb}{i j:Nat}(h:a.getD j true=true):(a.setIfInBounds i true).getD j true=true:=by
 by_cases e:i=j
 ·subst e
  rw[Array.getD_eq_getD_getElem?,Array.getElem?_setIfInBounds]
  simp only[if_true]
  split<;>rfl
 ·rw[getD_set_ne true e];exact h
theorem iY0 {h:Array Zb}{i:Nat}:(h.setIfInBounds i true).getD i true=true:=by
 rw[Array.getD_eq_getD_getElem?,Array.getElem?_setIfInBounds]
 simp only[if_true]
 split<;>rfl
theorem dR.list {h:Array Zb}{m:List Nat}(o:dR md ops h m){j:Nat}(p:j∈Region.ready md ops h):dR md ops (h.setIfInBounds j true) m:=by
 refine ⟨λk ok d f e l i=>qN0 ?_,λk f=>qN0 (o.dn k f)⟩
 by_cases b:j=k
 ·subst b
  obtain ⟨_,q,a,c⟩:=mem_ready.1 p
  rw[d] at a
  cases a
  have:=c e l i
  rcases Nat.lt_or_ge e.on h.size with g|g
  ·simp[g] at this ⊢;exact this
  ·simp[Array.getElem?_eq_none g] at this ⊢
 ·rw[getD_set_ne true b] at f
  exact o.all k ok d f e l i
theorem dR.step {h:Array Zb}{c:List Nat}(b:dR md ops h c){j:Nat}(d:j∈Region.ready md ops h):dR md ops (h.setIfInBounds j true) (j :: c):=
 ⟨(b.list d).all,λk a=>by
  rcases List.mem_cons.1 a with rfl|a
  ·exact iY0
  ·exact qN0 (b.dn k a)⟩
theorem dB1 {i:Nat}{z:Oper}{v:Z6}(hi:ops[i]?=some z)(s:∀ (j:Nat) (o:Oper) cs b,ops[j]?=some o→o.op≠.select cs b)
  (hQ:∀ c a w,Q (.panic c) (a.put z.dst v) w→Q (.panic c) a w) (hSm:∀ d d' w,(∀ x∈d,x∈d')→S d w→S d' w)
  (hST:∀ m w,cA0 md ops m i→S m w→T w) :
  ∀ (fuel:Nat) (f:Array Zb) (m:List Nat) (a:Act) (w:Zw),
  (∀ j y,ops[j]?=some y→j≠i→f.getD j true=false→(∀ e∈y.after,Region.binds md e=true→e.on≠i)→z.apart ops y=true)→
  i∈Region.ready md ops f→dR md ops f m→YieldsIf P ops T z v a→T w→
  anyX F n P md ops Q S fuel (f.setIfInBounds i true) m (a.put z.dst v) w→anyX F n P md ops Q S (fuel+1) f m a w:=by
 intro fuel
 induction fuel with
 | zero=>
  intro f m a w _ t L I K H
  refine ⟨λh=>(by rw[h] at t;cases t),λj A=>?_⟩
  by_cases g:j=i
  ·subst g;exact Ev.YieldsIf.opW hi I K ⟨.inr rfl,H⟩
  ·have:=ready_mono A g
   rw[H.1] at this
   cases this
 | succ fuel ih=>
  intro f m a w l t L I K H
  refine ⟨λh=>(by rw[h] at t;cases t),λj A=>?_⟩
  by_cases g:j=i
  ·subst g;exact Ev.YieldsIf.opW hi I K ⟨.inr rfl,uA2 hSm _ _ _ _ _ _ (λx hx=>List.mem_cons_of_mem _ hx) H⟩
  ·have u:=H.2 j (ready_mono A g)
   obtain ⟨r,y,B,C⟩:=mem_ready.1 A
   have p:f.getD i true=false:=(mem_ready.1 t).1
   have D:∀ e∈y.after,Region.binds md e=true→e.on≠i:=λe he hb X=>by
    have u:=C e he hb
    have h0:=(mem_ready.1 t).1
    rw[X] at u
    rcases Nat.lt_or_ge i f.size with Z|Z
    ·simp[Z] at h0 u;rw[h0] at u;cases u
    ·simp[Array.getElem?_eq_none Z] at u
   have Y:cA0 md ops (j :: m) i:=λk N V=>by
    have:=(L.step A).beh V ((L.step A).dn k N)
    rw[getD_set_ne true g,p] at this
    cases this
   have h2:=sT2 B (l j y B g r D) (λcs b=>s i z cs b hi) (λcs b=>s j y cs b B) hQ I u
   have q : ∀ k ok, ops[k]? = some ok → k ≠ i → (f.setIfInBounds j true).getD k true = false →
     (∀ e∈ok.after,Region.binds md e=true→e.on≠i)→z.apart ops ok=true:=λk ok N M p R=>by
    refine l k ok N M ?_ R
    by_cases E:j=k
    ·subst E;exact r
    ·rw[getD_set_ne true E] at p;exact p
   refine gO0 (λa' w' J=>⟨J.2.1,ih (f.setIfInBounds j true) (j :: m) a' w' q (ready_mono t (Ne.symm g)) (L.step A) J.1 ?_ ?_⟩) h2
   ·rcases J.2.1 with hS|rfl
    ·exact hST _ w' Y hS
    ·exact K
   ·rw[Array.setIfInBounds_comm _ _ g]
    exact J.2.2
theorem kO0 {i:Nat}{f:Oper}{v:Z6}{fuel:Nat}{b:Array Zb}{e:List Nat}{a:Act}{w:Zw}(hi:ops[i]?=some f)
  (m:Region.noSelect ops=true) (o:Region.free md ops b i=true) (r:i∈Region.ready md ops b) (s:dR md ops b e)
  (q:∀ c a w,Q (.panic c) (a.put f.dst v) w→Q (.panic c) a w) (g:∀ d k w,(∀ x∈d,x∈k)→S d w→S k w) (j:∀ e w,cA0 md ops e i→S e w→T w)
  (l:YieldsIf P ops T f v a) (p:T w)
  (h:anyX F n P md ops Q S fuel (b.setIfInBounds i true) e (a.put f.dst v) w):anyX F n P md ops Q S (fuel+1) b e a w:=
 dB1 hi (Region.noSelect_spec m) q g j fuel b e a w (Region.free_spec hi o) r s l p h
theorem gA0 {id:Nat}{a:Act}{w:Zw}(d:FW F)(b:iE0 ops)(c:P.follows .mixedOrders=true)
  (h:anyX F n P .any ops Q S ops.size (Array.replicate ops.size false) [] a { w with drawn:=w.drawn+1 }):(Code.region id ops true).wpIn F n P Q a w:=
 wpIn_region_any c (yR0 d b _ _ _ _ _ h)
def gF0 (P:Z9)(ops:Array Oper)(a:List (Nat×Sem Go.Next×Z6))(h:List Nat)(w:Zw):Prop:=
 ∀ x∈a,cA0 .any ops h x.1→x.2.1.run P w=.ok (.value x.2.2) w
theorem gF0.mono {c:List (Nat×Sem Go.Next×Z6)}{d a:List Nat}{w:Zw}(g:∀ x∈d,x∈a)(h:gF0 P ops c d w):gF0 P ops c a w:=
 λx b e=>h x b λk f=>e k (g k f)
end
end Go.Ev
namespace Go.Ev
open Go Go.RowKit
noncomputable section
theorem mO0:∀ (off:Nat) (vs cs:List Z6),off+vs.length≤cs.length→setE off vs cs=some (setFrom cs off vs):=by
 have h0:∀ (vs cs:List Z6),vs.length≤cs.length→bY0 vs cs=some (setFrom cs 0 vs):=by
  intro vs
  induction vs with
  | nil=>intro cs _;simp[bY0,setFrom]
  | cons v vs a=>
   intro cs h
   cases cs with
   | nil=>simp at h
   | cons c cs=>
    have:=a cs (by simpa using h)
    show (Option.rec none (λx=>some (v :: x)) (bY0 vs cs):Z8 (List Z6))=_
    rw[this]
    simp[setFrom]
 intro off
 induction off with
 | zero=>intro vs cs h;exact h0 vs cs Z0
 | succ off a=>
  intro vs cs h
  cases cs with
  | nil=>simp at h
  | cons c cs=>
   have:=a vs cs (by simp at h;omega)
   show (Option.rec none (λx=>some (c :: x)) (setE off vs cs):Z8 (List Z6))=_
   rw[this]
   simp[setFrom,Nat.add_right_comm]
theorem jU0 (cs:List Z6)(off n:Nat)(b:off+n≤cs.length):takeN cs off n=some ((cs.drop off).take n):=by
 have c:∀ (k:Nat) (l:List Z6),k≤l.length→uE0 k l=some (l.take k):=by
  intro k
  induction k with
  | zero=>intro l _;rfl
  | succ k a=>
   intro l h
   cases l with
   | nil=>simp at h
   | cons x l=>
    show (Option.rec none (λy=>some (x :: y)) (uE0 k l):Z8 (List Z6))=_
    rw[a l (by simpa using h)]
    rfl
 have d:∀ (k:Nat) (l:List Z6),k≤l.length→cO0 k l=some (l.drop k):=by
  intro k
  induction k with
  | zero=>intro l _;rfl
  | succ k a=>
   intro l h
   cases l with
   | nil=>simp at h
   | cons x l=>exact a l (by simpa using h)
 simp only[takeN,d off cs Z0,c n (cs.drop off) (by simp;omega)]
def gB0 (c a b:Z6):Z8 Z6:=match c with | .bool true=>some a | .bool false=>some b|_=>none
def extV (v:Z6)(i:Nat):Z8 Z6:=match v with | .tuple vs=>vs[i]?|_=>none
def unV (P:Z9)(op:UnOp)(v:Z6):Z8 Z6:=pvF P (Op.unary op v) (flat v)
def fld (P:Z9)(s:Zt)(f:Nat):Z8 Nat:=match P.underlying s with
 | some (.struct fs)=>match fs[f]? with
  | some h=>match szT P h.type with
   | some (_+1)=>some h.offset
   | _=>none
  | none=>none
 | _=>none
def faV (o:Z8 Nat)(v:Z6):Z8 Z6:=match o,v with
 | some o,.pointer (some a)=>some (.pointer (some (a.add o)))
 | _,_=>none
def bG (b:Zb)(n:Nat)(cs:List Z6)(off:Nat):Z8 Z6:=match b with
 | true=>if off+n≤cs.length then some (.agg ⟨(cs.drop off).take n⟩) else none
 | false=>cs[off]?
def knd (P:Z9)(t:Zt):Z8 (Zb×Nat):=match eP0 P t with
 | some true=>match szT P t with | some n=>some (true,n) | none=>none
 | some false=>some (false,0)
 | none=>none
theorem qS1 {P:Z9}{t:Zt}{b:Zb}{n:Nat}{cs:List Z6}{off:Nat}{v:Z6}(a:knd P t=some (b,n))(h:bG b n cs off=some v):iB0 P t cs off=some v:=by
 unfold knd at a
 unfold iB0
 split at a
 ·rename_i e
  split at a<;>cases a
  rename_i g
  simp only[bG] at h
  split at h<;>cases h
  rename_i d
  have c:=jU0 cs off n d
  simp only[takeN] at c
  rw[e];simp only[g]
  cases f:cO0 off cs with
  | none=>rw[f] at c;cases c
  | some l=>rw[f] at c;simp only[c]
 ·rename_i e
  cases a
  rw[e];exact h
 ·cases a
def fldT (P:Z9)(s:Zt)(f:Nat):Z8 (Zb×Nat×Nat):=match P.underlying s with
 | some (.struct fs)=>match fs[f]? with
  | some h=>match knd P h.type with
   | some (b,n)=>some (b,n,h.offset)
   | none=>none
  | none=>none
 | _=>none
def fdV (f:Z8 (Zb×Nat×Nat))(v:Z6):Z8 Z6:=match f,v with
 | some (b,n,off),.agg cs=>bG b n cs.toList off
 | _,_=>none
def esz (P:Z9)(t:Zt):Z8 (Z8 Nat×Nat):=match P.underlying t with
 | some (.slice e)=>match szT P e with | some n=>some (none,n) | none=>none
 | some (.array len e)=>match szT P e with | some n=>some (some len,n) | none=>none
 | _=>none
def iaV (z:Z8 (Z8 Nat×Nat))(x i:Z6):Z8 Z6:=match z,x,i with
 | some (none,n),.slice (some a) len _,.int _ i=>if 0≤i∧i<len then some (.pointer (some (a.add (i.toNat*n)))) else none
 | some (some len,n),.pointer (some a),.int _ i=>if 0≤i∧i<len then some (.pointer (some (a.add (i.toNat*n)))) else none
 | _,_,_=>none
def ixT (P:Z9)(t:Zt):Z8 (Z8 (Zb×Nat×Nat×Nat)):=match P.underlying t with
 | some .string=>some none
 | some (.array len e)=>match knd P e,szT P e with
  | some (b,n),some z=>some (some (b,n,z,len))
  | _,_=>none
 | _=>none
def qL2 (s:ByteArray)(i:Nat):Int:=((s.data.toList.getD i 0).toNat:Int)
def ixV (z:Z8 (Z8 (Zb×Nat×Nat×Nat)))(x i:Z6):Z8 Z6:=match z,x,i with
 | some none,.string s,.int _ i=>if 0≤i∧i<s.size then some (.int .u8 (qL2 s i.toNat)) else none
 | some (some (b,n,z,len)),.agg cs,.int _ i=>if 0≤i∧i<len then bG b n cs.toList (i.toNat*z) else none
 | _,_,_=>none
def slV (P:Z9)(t:Zt)(x:Z6)(lo hi mx:Z8 Z6)(h:jA):Z8 Z6:=match x with
 | .string s=>pvF P (Instr.sliceAt t (.string s) lo hi mx) (lo.all flat&&hi.all flat&&mx.all flat)
 | .slice a n c=>match kU P t a n c lo hi mx with | some v=>some v | none=>kT P t a n c lo hi mx h
 | .pointer (some a)=>jK0 P t a lo hi mx
 | _=>none
def ncV (v:Z6):Z8 Z6:=match v with
 | .pointer (some a)=>some (.pointer (some a))
 | .func (.func g) f c=>some (.func (.func g) f c)
 | _=>none
def isI (P:Z9)(t:Zt):Z8 Zb:=match P.underlying t with
 | some (.interface _)=>some true
 | some _=>some false
 | none=>none
def miV (b:Z8 Zb)(t:Zt)(v:Z6):Z8 Z6:=match b with|some false=>some (.iface t v)|_=>none
def lnT (P:Z9)(t:Zt):Z8 Zb:=match P.underlying t with
 | some .string=>some true
 | some (.slice _)=>some false
 | _=>none
def lnB (b:Z8 Zb)(v:Z6):Z8 Z6:=match b,v with
 | some true,.string s=>some (.int .i64 s.size)
 | some false,.slice _ n _=>some (.int .i64 n)
 | _,_=>none
def mnV (P:Z9)(ts:Array Zt)(t:Zt)(l:List Z6):Z8 Z6:=pvF P (Builtin.min_ ts t ⟨l⟩) (qB l)
def mxV (P:Z9)(ts:Array Zt)(t:Zt)(l:List Z6):Z8 Z6:=pvF P (Builtin.max_ ts t ⟨l⟩) (qB l)
def plc (P:Z9)(t:Zt):Z8 (List (Nat×Nat)×List Z6):=match P.info? t with
 | none=>none
 | some i=>match i.zero with
  | none=>none
  | some z=>match flat z,P.underlying t with
   | true,some (.struct fs)=>match placesOf P fs.toList with
    | some pl=>some (pl,z.cells.toList)
    | none=>none
   | true,some (.array len e)=>match szT P e with
    | some n=>some ((List.range len).map (λi=>(i*n,n)),z.cells.toList)
    | none=>none
   | _,_=>none
def cA (pl:List (Nat×Nat)):List Z6→List (Nat×Z6)→Z8 (List Z6)
 | cs,[]=>some cs
 | cs,(i,v) :: rest=>match pl[i]? with
  | some (off,n)=>if v.cells.toList.length=n∧off+n≤cs.length then cA pl (setFrom cs off v.cells.toList) rest else none
  | none=>none
def bdV (z:Z8 (List (Nat×Nat)×List Z6))(h:List (Nat×Z6)):Z8 Z6:=match z with
 | some (pl,cs)=>match cA pl cs h with
  | some a=>some (.agg ⟨a⟩)
  | none=>none
 | none=>none
theorem gR0 {place:Nat→Z8 (Nat×Nat)}{pl:List (Nat×Nat)}(b:∀ i x,pl[i]?=some x→place i=some x):∀ (a:List (Nat×Z6)) (cs c:List Z6),
  cA pl cs a=some c→cK0 place cs a=some c
 | [],cs,c,h=>h
 | (i,v) :: rest,cs,c,h=>by
  simp only[cA] at h
  split at h
  ·rename_i off n d
   split at h
   ·rename_i g
    have f:=mO0 off v.cells.toList cs Z0
    have e:Nat.beq v.cells.size n=true:=by
     rw[Nat.beq_eq];simpa using g.1
    simp only[cK0,b i _ d,e,f]
    exact gR0 b rest _ c h
   ·cases h
  ·cases h
theorem nH3 {P:Z9}{t:Zt}{a:List (Nat×Z6)}{v:Z6}(h:bdV (plc P t) a=some v):cT0 P t a=some v:=by
 unfold bdV plc at h
 unfold cT0
 cases hi:P.info? t with
 | none=>rw[hi] at h;cases h
 | some i=>
  rw[hi] at h
  dsimp only at h ⊢
  cases m:i.zero with
  | none=>rw[m] at h;cases h
  | some z=>
   rw[m] at h
   dsimp only at h ⊢
   cases q:flat z with
   | false=>rw[q] at h;cases h
   | true=>
    rw[q] at h
    cases o:P.underlying t with
    | none=>rw[o] at h;cases h
    | some d=>
     rw[o] at h
     cases d with
     | struct r=>
      dsimp only at h ⊢
      cases p:placesOf P r.toList with
      | none=>rw[p] at h;cases h
      | some pl=>
       rw[p] at h
       dsimp only at h ⊢
       split at h<;>cases h
       rename_i b g
       rw[gR0 (place:=λi=>pl[i]?) (λi x c=>c) _ _ _ g]
     | array len e=>
      dsimp only at h ⊢
      cases l:szT P e with
      | none=>rw[l] at h;cases h
      | some n=>
       rw[l] at h
       dsimp only at h ⊢
       split at h<;>cases h
       rename_i b g
       rw[gR0 (place:=λi=>some (i*n,n)) (λi x c=>by
        rw[List.getElem?_map] at c
        cases f:(List.range len)[i]? with
        | none=>rw[f] at c;cases c
        | some j=>
         rw[f] at c
         obtain ⟨_,k⟩:=List.getElem?_eq_some_iff.1 f
         simp at k
         subst k
         simpa using c) _ _ _ g]
     | _=>cases h
def btS (P : Z9) (s d : Zt) (x : Z6) (h : jA) : Z8 Z6 := match P.underlying s, P.underlying d, x with
  | some (.slice e),some .string,.slice none _ _=>match P.underlying e with
   | some (.int .u8)=>some (.string .empty)
   | _=>none
  | some (.slice e),some .string,.slice (some _) 0 _=>match P.underlying e with
   | some (.int .u8)=>some (.string .empty)
   | _=>none
  | some (.slice e),some .string,.slice (some ⟨g,off,none⟩) n _=>match P.underlying e,cells h g with
   | some (.int .u8),some (cs,_,_)=>match takeN cs off n with
    | some l=>match bytesOf l with
     | some l=>some (.string ⟨⟨l⟩⟩)
     | none=>none
    | none=>none
   | _,_=>none
  | _,_,_=>none
def cvP (P:Z9)(s d:Zt)(v:Z6):Z8 Z6:=pvF P (convert s d v) (flat v)
def cvV (P:Z9)(s d:Zt)(v:Z6)(h:jA):Z8 Z6:=match cvP P s d v with|some u=>some u|none=>btS P s d v h
def bare (o : Op) (t : TypeId) : Oper := ⟨none, o, t, "", #[], none⟩
def tp (P:Z9)(o:Op)(t:Zt)(tm:VT):Z8 Z6:=match o with
 | .move x=>some (ev tm x)
 | .assign x=>some (ev tm x)
 | .pick c a b=>gB0 (ev tm c) (ev tm a) (ev tm b)
 | .extract x i=>extV (ev tm x) i
 | .binOp op ty x y _=>jW P op ty x y (ev tm x) (ev tm y)
 | .unOp op _ x=>unV P op (ev tm x)
 | .fieldAddr s x f=>faV (fld P s f) (ev tm x)
 | .field s x f=>fdV (fldT P s f) (ev tm x)
 | .indexAddr s x i=>iaV (esz P s) (ev tm x) (ev tm i)
 | .index s x i=>ixV (ixT P s) (ev tm x) (ev tm i)
 | .build ty h=>bdV (plc P ty) (h.toList.map λx=>(x.1,ev tm x.2))
 | .makeFunc (.func g) f c=>some (.func (.func g) ⟨f.toList.map (ev tm)⟩ ⟨c.toList.map (ev tm)⟩)
 | .makeInterface ty x=>miV (isI P ty) ty (ev tm x)
 | .nilCheck x=>ncV (ev tm x)
 | .call ⟨.builtin .len,⟨[x]⟩,⟨[ty]⟩⟩=>lnB (lnT P ty) (ev tm x)
 | .call ⟨.builtin .min,args,ts⟩=>mnV P ts t (args.toList.map (ev tm))
 | .call ⟨.builtin .max,args,ts⟩=>mxV P ts t (args.toList.map (ev tm))
 | _=>none
def tv (P:Z9)(o:Op)(t:Zt)(tm:VT)(h:jA):Z8 Z6:=match o with
 | .load ty a=>qL P ty (ev tm a) h
 | .slice ty x lo hi mx=>slV P ty (ev tm x) (lo.map (ev tm)) (hi.map (ev tm)) (mx.map (ev tm)) h
 | .convert s d x=>cvV P s d (ev tm x) h
 | o=>tp P o t tm
def tailV (P:Z9)(t:Zt)(x:Z6)(lo hi mx:Z8 Z6)(h:jA):Z8 (Z6×Z6):=match x,mx with
 | .slice (some ⟨b,off,none⟩) len cap,none=>match P.underlying t,cells h b with
  | some (.slice e),some (cs,e',true)=>match szT P e with
   | some size=>match bounds len len none hi lo with
    | some (l, h', _) => if e' = e ∧ UC ≤ cap ∧ off = (cap - UC) * size ∧ 0 < size ∧ off + len * size ≤ cs.length ∧ l = len ∧ h' = len ∧ len < U then
      some (.slice (some ⟨b,off,none⟩) 0 0,.slice (some ⟨b,off+len*size,none⟩) 0 (cap+len)) else none
    | none=>none
   | none=>none
  | _,_=>none
 | _,_=>none
def tw (P:Z9)(o:Op)(tm:VT)(h:jA):Z8 (Z6×Z6):=match o with
 | .slice ty x lo hi mx=>tailV P ty (ev tm x) (lo.map (ev tm)) (hi.map (ev tm)) (mx.map (ev tm)) h
 | _=>none
theorem iK1 {P:Z9}{w:Zw}{t e:Zt}{a:Z8 Addr}{len cap size l h m:Nat}{lo hi mx:Z8 Z6}(b:P.underlying t=some (.slice e))(d:szT P e=some size)
  (c:(Instr.sliceBounds true len cap lo hi mx).run P w=.ok (l,h,m) w) :
  (Instr.sliceAt t (.slice a len cap) lo hi mx).run P w=.ok (.slice (if m=l then a else a.map (·.add (l*size))) (h-l) (m-l)) w:=by
 simp only[Instr.sliceAt,Instr.slice,Sem.run_bind,qA b,Result.andThen_ok,c,bF d,Sem.run_pure]
theorem zU2 {g off l K a size:Nat}{w:Zw}(q:Zb)(h:q=true↔K=l)(c:a=l) :
  (Result.ok (.slice (if (Option.none:Z8 Nat).getD K=l then some ⟨g,off,none⟩ else (some (⟨g,off,none⟩:Addr)).map (·.add (l*size))) (a-l) ((Option.none:Z8 Nat).getD K-l)) w:Result Z6) =
  .ok (if q=true then .slice (some ⟨g,off,none⟩) 0 0 else .slice (some ⟨g,off+l*size,none⟩) 0 (K-l)) w:=by
 subst c
 simp only[Option.getD_none,Option.map_some,addr_add]
 cases q with
 | true=>
  have h:K=a:=h.1 rfl
  simp[h]
 | false=>
  have h:¬ K=a:=λe=>by have:=h.2 e;cases this
  simp[h]
theorem mG0 {p:Par}{t:Zt}{x:Z6}{lo hi mx:Z8 Z6}{I H:Z6}{a:Gam}{h:jA}{w:Zw}(L:qI p a h w)(c:tailV p.P t x lo hi mx h=some (I,H)) :
  ∃ g off len cap,x=.slice (some ⟨g,off,none⟩) len cap∧g<h.next∧
   ∀ q:Zb,(q=true↔a.k g-(cap-UC)=len)→(Instr.sliceAt t (con a x) (lo.map (con a)) (hi.map (con a)) (mx.map (con a))).run p.P w=.ok (con a (if q then I else H)) w:=by
 unfold tailV at c
 split at c
 ·rename_i b off len cap
  split at c
  ·rename_i e cs e' hu M
   split at c
   ·rename_i size A
    split at c
    ·rename_i l h' m v
     split at c<;>cases c
     rename_i o
     obtain ⟨N,h2,V,X,h5,Z,h7,h8⟩:=o
     subst N Z
     refine ⟨b,off,l,cap,rfl,?_⟩
     obtain ⟨D,J,fr,y⟩:=L.row M (L.m_own M)
     refine ⟨D,?_⟩
     obtain ⟨Y,B,T⟩:=y.more rfl
     have C:Y.size=size:=by
      unfold szT at A;rw[B] at A;simpa using A
     rw[C] at T
     have i:l≤a.k b-(cap-UC):=by
      have:(cap-UC+l)*size≤a.k b*size:=by
       rw[Nat.add_mul,← V];omega
      have:=Nat.le_of_mul_le_mul_right this X
      omega
     have r:¬ cap<UC:=Z0
     have s:=wM0 (P:=p.P) (w:=w) a true v i
     have hm:m=none:=by
      rcases (qD0 v).1 with ⟨_,h0⟩|⟨k,mm',h9,h0,R⟩
      ·exact h0
      ·cases h9
     subst hm
     have E:¬ (cap+l<UC):=Z0
     have n:a.k b-(cap+l-UC)=a.k b-(cap-UC)-l:=by
      generalize UC=u at h2 ⊢
      omega
     have j:con a (.slice (some ⟨b,off,none⟩) l cap)=.slice (some ⟨a.b b,off,none⟩) l (a.k b-(cap-UC)):=by
      simp only[con,kX,if_neg r,bJ]
     have f:con a (.slice (some ⟨b,off,none⟩) 0 0)=.slice (some ⟨a.b b,off,none⟩) 0 0:=by
      simp only[con,kX,if_pos dF0,bJ]
     have d:con a (.slice (some ⟨b,off+l*size,none⟩) 0 (cap+l))=.slice (some ⟨a.b b,off+l*size,none⟩) 0 (a.k b-(cap-UC)-l):=by
      simp only[con,kX,if_neg E,bJ,n]
     intro q F
     rw[j]
     have z : con a (if q = true then Value.slice (some ⟨b, off, none⟩) 0 0 else .slice (some ⟨b, off + l * size, none⟩) 0 (cap + l)) =
       if q=true then .slice (some ⟨a.b b,off,none⟩) 0 0 else .slice (some ⟨a.b b,off+l*size,none⟩) 0 (a.k b-(cap-UC)-l):=by
      cases q
      ·exact d
      ·exact f
     rw[z]
     clear j f d z n
     generalize a.k b-(cap-UC)=K at s i F ⊢
     rw[iK1 hu A s]
     exact zU2 q F h7
    ·cases c
   ·cases c
  ·cases c
 ·cases c
theorem fU1 {p:Par}{f:Gam}{h:jA}{w:Zw}(D:qI p f h w){t:Zt}{x:Z6}{lo hi mx:Z8 Z6}{o j:Z6}(B:tailV p.P t x lo hi mx h=some (o,j)) :
  ∃ b:Zb,∀ a n w',Ag f a h.next→qI p a n w'→tailV p.P t x lo hi mx n=some (o,j)→
   (Instr.sliceAt t (con a x) (lo.map (con a)) (hi.map (con a)) (mx.map (con a))).run p.P w'=.ok (con a (if b then o else j)) w':=by
 obtain ⟨g,off,len,cap,C,z,_⟩:=mG0 D B
 obtain ⟨q,y⟩:∃ q:Zb,q=true↔f.k g-(cap-UC)=len:=by
  by_cases v:f.k g-(cap-UC)=len
  ·exact ⟨true,⟨λ_=>v,λ_=>rfl⟩⟩
  ·exact ⟨false,⟨(λe=>by cases e),λe=>absurd e v⟩⟩
 refine ⟨q,λa n w' l m i=>?_⟩
 obtain ⟨g',r,s,u,d,A,c⟩:=mG0 m i
 rw[C] at d
 simp only[Value.slice.injEq,Option.some.injEq,Addr.mk.injEq] at d
 obtain ⟨⟨rfl,rfl,_⟩,rfl,rfl⟩:=d
 rw[l.k g z] at c
 exact c q y
theorem zV2 {P:Z9}{n:Nat}{t:Zt}{x:Z6}{lo hi mx:Z8 Z6}{h:jA}{d b:Z6}(c:sc n x=true)(a:tailV P t x lo hi mx h=some (d,b)):sc n d=true∧sc n b=true:=by
 unfold tailV at a
 split at a
 ·split at a
  ·split at a
   ·split at a
    ·split at a<;>cases a
     exact ⟨c,c⟩
    ·cases a
   ·cases a
  ·cases a
 ·cases a
theorem qU2 {i n:Nat}(h:(i:Int)<n):Nat.blt i n=true:=by simp;omega
theorem jZ1 {P:Z9}{o:Op}{t:Zt}{tm:VT}{v:Z6}(h:tp P o t tm=some v):cH P (bare o t) tm=some v:=by
 unfold tp at h
 split at h
 ·exact h
 ·exact h
 ·exact h
 ·exact h
 ·exact h
 ·exact h
 ·rename_i s x f
  simp only[bare,cH]
  unfold faV fld at h
  cases q:P.underlying s with
  | none=>rw[q] at h;cases h
  | some d=>
   rw[q] at h
   cases d with
   | struct J=>
    dsimp only at h ⊢
    cases A:J[f]? with
    | none=>rw[A] at h;cases h
    | some K=>
     rw[A] at h
     dsimp only at h ⊢
     cases p:szT P K.type with
     | none=>rw[p] at h;cases h
     | some n=>
      rw[p] at h
      cases n with
      | zero=>cases h
      | succ n=>
       dsimp only at h
       split at h
       ·rename_i l r
        cases l
        cases h
        rw[r]
        simp only[A,p]
       ·cases h
   | _=>cases h
 ·rename_i s x f
  simp only[bare,cH]
  unfold fdV fldT at h
  cases q:P.underlying s with
  | none=>rw[q] at h;cases h
  | some d=>
   rw[q] at h
   cases d with
   | struct J=>
    dsimp only at h ⊢
    cases A:J[f]? with
    | none=>rw[A] at h;cases h
    | some K=>
     rw[A] at h
     dsimp only at h ⊢
     cases p:knd P K.type with
     | none=>rw[p] at h;cases h
     | some M=>
      obtain ⟨b,n⟩:=M
      rw[p] at h
      dsimp only at h
      split at h
      ·rename_i l r
       cases l
       rw[r]
       simp only[A]
       exact qS1 p h
      ·cases h
   | _=>cases h
 ·rename_i s x i
  simp only[bare,cH]
  unfold iaV esz at h
  cases q:P.underlying s with
  | none=>rw[q] at h;cases h
  | some d=>
   rw[q] at h
   cases d with
   | slice e=>
    dsimp only at h ⊢
    cases p:szT P e with
    | none=>rw[p] at h;cases h
    | some n=>
     rw[p] at h
     dsimp only at h
     split at h
     ·rename_i l r y
      cases l
      split at h<;>cases h
      rename_i u
      obtain ⟨j,rfl⟩:=Int.eq_ofNat_of_zero_le u.1
      have w:=u.2
      rw[r,y]
      show (match Nat.blt j _,szT P e with|true,some size=>_|_,_=>none)=_
      rw[qU2 w,p]
      rfl
     ·rename_i l _ _;cases l
     ·cases h
   | array len e=>
    dsimp only at h ⊢
    cases p:szT P e with
    | none=>rw[p] at h;cases h
    | some n=>
     rw[p] at h
     dsimp only at h
     split at h
     ·rename_i l _ _;cases l
     ·rename_i l r y
      cases l
      split at h<;>cases h
      rename_i u
      obtain ⟨j,rfl⟩:=Int.eq_ofNat_of_zero_le u.1
      have w:=u.2
      rw[r,y]
      show (match Nat.blt j _,szT P e with|true,some size=>_|_,_=>none)=_
      rw[qU2 w,p]
      rfl
     ·cases h
   | _=>cases h
 ·rename_i s x i
  simp only[bare,cH]
  unfold ixV ixT at h
  cases q:P.underlying s with
  | none=>rw[q] at h;cases h
  | some d=>
   rw[q] at h
   cases d with
   | string=>
    dsimp only at h
    split at h
    ·rename_i s' k X l r y
     split at h<;>cases h
     rename_i u
     obtain ⟨j,rfl⟩:=Int.eq_ofNat_of_zero_le u.1
     rw[r,y]
     have N:j<s'.size:=by have:=u.2;omega
     have T:s'[j]?=some s'[j]:=getElem?_pos s' j N
     have V:s'.data.toList.getD j 0=s'[j]:=by
      have H:j<s'.data.toList.length:=by rw[Array.length_toList];exact N
      rw[List.getD_eq_getElem?_getD,List.getElem?_eq_getElem H]
      rfl
     have C:∀ {B R:Type} (f:B→Sem R) (s:Sem B),pv P (s >>= f)=(pv P s).bind (λa=>pv P (f a)):=by
      intro B R f s
      show pv P (Sem.bind s f)=_
      induction s with
      | pure a=>rfl
      | program k D=>exact D P
      | mark m k D=>exact D
      | _=>rfl
     have F:pv P (underlying s)=some .string:=by
      simp only[underlying,C]
      simp only[program,pv,Option.bind_some,q]
      rfl
     have L:∀ {B:Type} (a:B),pv P (pure a:Sem B)=some a:=λa=>rfl
     have I:(0:Int)≤(j:Int):=u.1
     simp only[pvF,Instr.index,asIntOf,C,L,F,Option.bind_some,if_pos I,Z4,T,qL2,V,flat]
    ·rename_i l _ _;cases l
    ·cases h
   | array len e=>
    dsimp only at h
    cases E:knd P e with
    | none=>rw[E] at h;cases h
    | some M=>
     obtain ⟨b,n⟩:=M
     rw[E] at h
     cases p:szT P e with
     | none=>rw[p] at h;cases h
     | some z=>
      rw[p] at h
      dsimp only at h
      split at h
      ·rename_i l _ _;cases l
      ·rename_i l r y
       cases l
       split at h
       ·rename_i u
        obtain ⟨j,rfl⟩:=Int.eq_ofNat_of_zero_le u.1
        have w:=u.2
        rw[r,y]
        show (match Nat.blt j len, szT P e with
          | true,some size=>iB0 P e _ (j*size)
          | _,_=>none)=_
        simp only[qU2 w,p]
        exact qS1 E h
       ·cases h
      ·cases h
   | _=>cases h
 ·exact nH3 h
 ·rename_i g f c
  cases h
  simp only[bare,cH]
  congr 2
  ·exact Array.ext' (by simp)
  ·exact Array.ext' (by simp)
 ·rename_i ty x
  simp only[bare,cH]
  unfold miV isI at h
  cases q:P.underlying ty with
  | none=>rw[q] at h;cases h
  | some d=>
   rw[q] at h
   cases d<;>first|exact h|(cases h;done)
 ·exact h
 ·rename_i x ty
  unfold lnB lnT at h
  show (match P.underlying ty,ev tm x with
   | some .string,.string s=>some (goInt s.size)
   | some (.slice _),.slice _ n _=>some (goInt n)
   | _,_=>none)=_
  cases q:P.underlying ty with
  | none=>rw[q] at h;cases h
  | some d=>
   rw[q] at h
   cases d with
   | string=>
    dsimp only at h
    split at h
    ·rename_i r;rw[r];exact h
    ·rename_i l _;cases l
    ·cases h
   | slice e=>
    dsimp only at h
    split at h
    ·rename_i l _;cases l
    ·rename_i r;rw[r];exact h
    ·cases h
   | _=>cases h
 ·rename_i args ts
  have:(⟨args.toList.map (ev tm)⟩:Array Z6)=args.map (ev tm):=Array.ext' (by simp)
  show pvF P (Builtin.min_ ts t (args.map (ev tm))) (qB (args.map (ev tm)).toList)=_
  rw[← this];exact h
 ·rename_i args ts
  have:(⟨args.toList.map (ev tm)⟩:Array Z6)=args.map (ev tm):=Array.ext' (by simp)
  show pvF P (Builtin.max_ ts t (args.map (ev tm))) (qB (args.map (ev tm)).toList)=_
  rw[← this];exact h
 ·cases h
theorem zL2 {P:Z9}{o:Op}{t:Zt}{tm:VT}{h:jA}{v:Z6}(b:tv P o t tm h=some v):cH P (bare o t) tm=some v∨kI0 P (bare o t) tm h=some v:=by
 unfold tv at b
 split at b
 ·exact .inr b
 ·rename_i ty x lo hi mx
  unfold slV at b
  simp only[bare,cH,kI0]
  split at b
  ·rename_i s e;left;rw[e];exact b
  ·rename_i a n c e
   rw[e]
   split at b
   ·rename_i u f;cases b;left;exact f
   ·right;exact b
  ·rename_i a e;left;rw[e];exact b
  ·cases b
 ·rename_i s d x
  unfold cvV at b
  split at b
  ·rename_i u f;cases b;exact .inl f
  ·exact .inr b
 ·exact .inl (jZ1 b)
def jA.add (h:jA)(x:qW):jA:=(h.new x).2
def O (cs:List Z6)(e:Zt)(m:Zb):qW:=⟨.cells ⟨cs⟩ e,m⟩
theorem zY0 {h:jA}{e:Zt}{cs:List Z6}{m:Zb}(a:gD h.next cs=true):mkRow h e cs m=some (h.next,h.add (O cs e m)):=by
 unfold mkRow jA.add O
 rw[a]
 rw[jA.new_eq]
def zro (P:Z9)(e:Zt):Z8 (List Z6):=match zeroOf P e with
 | some z=>match flat z with
  | true=>match gD 0 z.cells.toList with
   | true=>some z.cells.toList
   | false=>none
  | false=>none
 | none=>none
theorem eS0 {n m:Nat}(a:n≤m){l:List Z6}(h:gD n l=true):gD m l=true:=by
 simp only[gO,Z5] at h ⊢
 exact ⟨h.1,qK λv c=>kN a v (qJ h.2 v c)⟩
def alE (z:Z8 (List Z6))(e:Zt)(h:jA):Z8 (Z6×jA):=match z with
 | some cs=>some (.pointer (some ⟨h.next,0,none⟩),h.add (O cs e false))
 | none=>none
def bxE (e:Zt)(v:Z6)(h:jA):Z8 (Z6×jA):=if gD h.next v.cells.toList=true then some (.pointer (some ⟨h.next,0,none⟩),h.add (O v.cells.toList e false)) else none
def slT (P:Z9)(t:Zt):Z8 (Zt×Nat×List Z6):=match P.underlying t with
 | some (.slice e)=>match P.info? e with
  | some i=>match i.zero with
   | some z=>match Nat.beq z.cells.size i.size&&Nat.blt 0 i.size&&qB z.cells.toList&&gD 0 z.cells.toList with
    | true=>some (e,i.size,z.cells.toList)
    | false=>none
   | none=>none
  | none=>none
 | _=>none
def bsE (z:Z8 (Zt×Nat×List Z6))(len:Nat)(a:List (Nat×Z6))(h:jA):Z8 (Z6×jA):=match z with
 | some (e, n, zs) => if len * n ≤ 16777216 then
   match cA ((List.range len).map (λi=>(i*n,n))) (List.replicate len zs).flatten a with
   | some cs=>if gD h.next cs=true then some (.slice (some ⟨h.next,0,none⟩) len len,h.add (O cs e false)) else none
   | none=>none
  else none
 | none=>none
def stE (n:Z8 Nat)(a v:Z6)(h:jA):Z8 (Z6×jA):=match n,a with
 | some n,.pointer (some ⟨b,off,none⟩)=>match cells h b with
  | some (cs,e,m)=>if v.cells.toList.length=n∧gD h.next v.cells.toList=true∧h.lo≤b∧off+n≤cs.length then some (undef,h.put b (O (setFrom cs off v.cells.toList) e m)) else none
  | none=>none
 | _,_=>none
def mkT (P:Z9)(t:Zt):Z8 (Zt×Nat×Nat×List Z6):=match P.underlying t with
 | some (.slice e)=>match P.info? e with
  | some i=>match i.zero with
   | some z=>match Nat.beq z.cells.size i.size&&Nat.blt 0 i.size&&qB z.cells.toList&&gD 0 z.cells.toList with
    | true=>some (e,i.size,i.bytes,z.cells.toList)
    | false=>none
   | none=>none
  | none=>none
 | _=>none
def msE (z:Z8 (Zt×Nat×Nat×List Z6))(l c:Z6)(h:jA):Z8 (Z6×jA):=match z,l,c with
 | some (e, _, by_, zs), .int _ l, .int _ c => if 0 ≤ l ∧ l ≤ c ∧ c * by_ + c < 100000000000000 then
   some (.slice (some ⟨h.next,0,none⟩) l.toNat c.toNat,h.add (O (List.replicate c.toNat zs).flatten e false)) else none
 | _,_,_=>none
def te (P:Z9)(o:Op)(t:Zt)(tm:VT)(h:jA):Z8 (Z6×jA):=match o with
 | .alloc e=>alE (zro P e) e h
 | .box e x=>bxE e (ev tm x) h
 | .buildSlice ty len b=>bsE (slT P ty) len (b.toList.map λx=>(x.1,ev tm x.2)) h
 | .store ty a x=>stE (szT P ty) (ev tm a) (ev tm x) h
 | .makeSlice ty l c=>msE (mkT P ty) (ev tm l) (ev tm c) h
 | .call ⟨.builtin .append,⟨[s,x]⟩,⟨[sT,xT]⟩⟩=>bI P sT xT (ev tm s) (ev tm x) h
 | o=>wY0 P (bare o t) tm h
theorem dV0 {b:List Z6}(n:Nat)(e:gD 0 b=true)(m:Nat):gD m (List.replicate n b).flatten=true:=by
 have h:=eS0 (Nat.zero_le m) e
 simp only[gO,Z5,List.all_eq_true] at h ⊢
 have c:∀ v∈(List.replicate n b).flatten,v∈b:=λv a=>by
  simp only[List.mem_flatten] at a
  obtain ⟨l,d,a⟩:=a
  rw[(List.mem_replicate.1 d).2] at a
  exact a
 exact ⟨λv a=>h.1 v (c v a),qK λv a=>qJ h.2 v (c v a)⟩
theorem zS2 {P:Z9}{o:Op}{t:Zt}{tm:VT}{h E:jA}{v:Z6}(f:te P o t tm h=some (v,E)):wY0 P (bare o t) tm h=some (v,E):=by
 unfold te at f
 split at f
 ·rename_i e
  unfold alE zro at f
  simp only[bare,wY0]
  cases r:zeroOf P e with
  | none=>rw[r] at f;cases f
  | some z=>
   rw[r] at f
   dsimp only at f ⊢
   cases V:flat z with
   | false=>rw[V] at f;cases f
   | true=>
    rw[V] at f
    dsimp only at f ⊢
    cases s:gD 0 z.cells.toList with
    | false=>rw[s] at f;cases f
    | true=>
     rw[s] at f
     cases f
     rw[zY0 (eS0 (Nat.zero_le _) s)]
 ·rename_i e x
  unfold bxE at f
  split at f<;>cases f
  rename_i s
  simp only[bare,wY0,zY0 s]
 ·rename_i ty len p
  unfold bsE slT at f
  simp only[bare,wY0]
  cases C:P.underlying ty with
  | none=>rw[C] at f;cases f
  | some d=>
   rw[C] at f
   cases d with
   | slice e=>
    dsimp only at f ⊢
    cases hi:P.info? e with
    | none=>rw[hi] at f;cases f
    | some i=>
     rw[hi] at f
     dsimp only at f ⊢
     cases r:i.zero with
     | none=>rw[r] at f;cases f
     | some z=>
      rw[r] at f
      dsimp only at f ⊢
      cases g:Nat.beq z.cells.size i.size&&Nat.blt 0 i.size&&qB z.cells.toList&&gD 0 z.cells.toList with
      | false=>rw[g] at f;cases f
      | true=>
       rw[g] at f
       dsimp only at f
       simp only[Z5] at g
       split at f
       ·rename_i H
        split at f
        ·rename_i cs y
         split at f<;>cases f
         rename_i s
         have B:Nat.ble (len*i.size) 16777216=true:=by simpa using H
         have u:(Nat.beq z.cells.size i.size&&Nat.blt 0 i.size&&qB z.cells.toList)=true:=by simp only[Z5];exact g.1
         rw[B]
         simp only[u]
         rw[show (p.toList.map λ(x:Nat×Zo)=>(x.1,ev tm x.2))=(p.toList.map λ(j,x)=>(j,ev tm x)) from rfl] at y
         rw[gR0 (place:=λj=>some (j*i.size,i.size)) (λj x D=>by
          rw[List.getElem?_map] at D
          cases N:(List.range len)[j]? with
          | none=>rw[N] at D;cases D
          | some k=>
           rw[N] at D
           obtain ⟨_,R⟩:=List.getElem?_eq_some_iff.1 N
           simp at R
           subst R
           simpa using D) _ _ _ y]
         simp only[zY0 s]
        ·cases f
       ·cases f
   | _=>cases f
 ·rename_i ty a x
  unfold stE at f
  simp only[bare,wY0,lF0]
  split at f
  ·rename_i n b off X Z
   rw[Z]
   dsimp only
   split at f
   ·rename_i cs e m y
    split at f<;>cases f
    rename_i w
    obtain ⟨F,M,I,h4⟩:=w
    rw[y]
    simp only[X]
    have g:(Nat.beq (ev tm x).cells.size n&&gD h.next (ev tm x).cells.toList&&Nat.ble h.lo b)=true:=by
     simp only[Z5,Nat.beq_eq,Nat.ble_eq]
     exact ⟨⟨by simpa using F,M⟩,I⟩
    rw[g]
    have Y:=mO0 off (ev tm x).cells.toList cs Z0
    simp only[setN,Y]
    rfl
   ·cases f
  ·cases f
 ·rename_i ty l c
  unfold msE mkT at f
  simp only[bare,wY0,oB0]
  cases C:P.underlying ty with
  | none=>rw[C] at f;cases f
  | some d=>
   rw[C] at f
   cases d with
   | slice e=>
    dsimp only at f ⊢
    cases hi:P.info? e with
    | none=>rw[hi] at f;cases f
    | some i=>
     rw[hi] at f
     dsimp only at f
     cases r:i.zero with
     | none=>rw[r] at f;cases f
     | some z=>
      rw[r] at f
      dsimp only at f
      cases g:Nat.beq z.cells.size i.size&&Nat.blt 0 i.size&&qB z.cells.toList&&gD 0 z.cells.toList with
      | false=>rw[g] at f;cases f
      | true=>
       rw[g] at f
       dsimp only at f
       simp only[Z5] at g
       split at f
       ·rename_i F M I
        cases F
        split at f<;>cases f
        rename_i y
        obtain ⟨T,L,A⟩:=y
        obtain ⟨J,rfl⟩:=Int.eq_ofNat_of_zero_le T
        obtain ⟨q,rfl⟩:=Int.eq_ofNat_of_zero_le (Int.le_trans T L)
        rw[M,I]
        have u:(Nat.beq z.cells.size i.size&&Nat.blt 0 i.size&&qB z.cells.toList)=true:=by simp only[Z5];exact g.1
        have K:(Nat.ble J q&&Nat.blt (q*i.bytes+q) U)=true:=by
         simp only[Z5,Nat.ble_eq,Nat.blt_eq]
         refine ⟨Z0,?_⟩
         have:((q*i.bytes+q:Nat):Int)<100000000000000:=by rw[Int.natCast_add,Int.natCast_mul];exact A
         unfold U
         omega
        show (match P.info? e with
         | some i=>match Nat.ble J q&&Nat.blt (q*i.bytes+q) U,i.zero with
          | true,some z=>match Nat.beq z.cells.size i.size&&Nat.blt 0 i.size&&qB z.cells.toList with
           | true=>match mkRow h e (List.replicate q z.cells.toList).flatten false with
            | some (b,E)=>some (Value.slice (some ⟨b,0,none⟩) J q,E)
            | none=>none
           | false=>none
          | _,_=>none
         | none=>none)=_
        rw[hi]
        simp only[K,r,u,zY0 (dV0 q g.2 h.next),Z4]
       ·cases f
   | _=>cases f
 ·exact f
 ·exact f
inductive Cl where|take|eff|call
structure It where
 d:Z8 Nat
 g:Z8 (Nat×Zb)
 c:Cl
 o:Op
 t:Zt
inductive PT where
 | fin
 | no
 | bad
 | take (i:Nat) (rd:Zb) (x:It) (k:PT)
 | eff (i:Nat) (x:It) (bind:List Nat) (k alt:PT)
inductive IR where
 | bad
 | skip
 | ret
 | exit (i:Nat)
 | goto (l:Nat)
 | label (l:Nat)
 | ops (l:List It)
 | plan (p:PT)
 | seq (a b:IR)
 | cond (x:Zo) (a b:IR)
 | block (i:Nat) (b:IR)
 | loop (b:IR)
 | scope (b:Code)
 | range (g:Zo) (ps:Array Tmp) (a b:Code)
def clOf (P:Z9)(o:Oper):Cl:=
 match o.op with
 | .call ⟨.value _,_,_⟩=>.call
 | _=>match tU2 P o with | true=>.eff | false=>.take
def isRd (o:Op):Zb:=
 match o with
 | .load _ _=>true
 | .slice _ _ _ _ _=>true
 | .convert _ _ _=>true
 | _=>false
def It.of (P:Z9)(h:Array Oper)(o:Oper):Z8 It:=
 match o.guard with
 | none=>some ⟨o.dst,none,clOf P o,o.op,o.type⟩
 | some (j,w)=>match h[j]? with
  | some a=>match a.dst with
   | some d=>some ⟨o.dst,some (d,w),clOf P o,o.op,o.type⟩
   | none=>none
  | none=>none
def iL0 (P:Z9)(h:Array Oper):List Oper→Z8 (List It)
 | []=>some []
 | o :: l=>match It.of P h o,iL0 P h l with
  | some x,some l=>some (x :: l)
  | _,_=>none
def dE2 (o:Oper):List Nat:=(o.after.toList.filter (Region.binds .any)).map (·.on)
def hasN (i:Nat):List Nat→Zb
 | []=>false
 | x :: l=>match Nat.beq x i with | true=>true | false=>hasN i l
def cX1 (h:Array Oper):Nat→List Nat→List Nat→List Nat
 | 0,_,acc=>acc
 | _+1,[],acc=>acc
 | n+1,j :: todo,acc=>match hasN j acc with
  | true=>cX1 h n todo acc
  | false=>match h[j]? with
   | none=>cX1 h n todo acc
   | some a=>cX1 h n (dE2 a++todo) (j :: acc)
def wS0 (h:Array Oper)(o:Oper):List Nat:=cX1 h 1000 (dE2 o) []
def mkPT (P:Z9)(h:Array Oper):Nat→Array Zb→PT
 | 0,listed=>match Region.ready .any h listed with | []=>.fin | _=>.bad
 | n+1,listed=>match Region.ready .any h listed with
  | []=>.fin
  | r :: rs=>match firstFree P h listed (r :: rs) with
   | some (i,o)=>match It.of P h o with
    | some x=>.take i (isRd o.op) x (mkPT P h n (listed.setIfInBounds i true))
    | none=>.bad
   | none=>(r :: rs).foldr (λr a=>match h[r]? with
    | some o=>match It.of P h o with
     | some x=>.eff r x (wS0 h o) (mkPT P h n (listed.setIfInBounds r true)) a
     | none=>.bad
    | none=>.bad) .no
def comp (P:Z9):Code→IR
 | .skip=>.skip
 | .region _ h d=>match d with
  | false=>match iL0 P h h.toList with
   | some l=>.ops l
   | none=>.bad
  | true=>.plan (mkPT P h h.size (Array.replicate h.size false))
 | .seq a b=>.seq (comp P a) (comp P b)
 | .cond x a b=>.cond x (comp P a) (comp P b)
 | .block i b=>.block i (comp P b)
 | .loop b=>.loop (comp P b)
 | .rangeFunc g c a b=>.range g c a b
 | .exit i=>.exit i
 | .scope b=>.scope b
 | .label l=>.label l
 | .goto l=>.goto l
 | .ret=>.ret
 | .refuse _=>.bad
def subs:Code→List Code
 | .seq a b=>subs a++subs b
 | .cond _ a b=>subs a++subs b
 | .block _ b=>subs b
 | .loop b=>subs b
 | .rangeFunc _ _ a b=>a :: b :: (subs a++subs b)
 | .scope b=>b :: subs b
 | _=>[]
def dH (P:Z9)(f k:Nat):Code:=
 match P.funcs[f]? with
 | some fn=>match fn.body with
  | some c=>((subs c)[k]?).getD .skip
  | none=>.skip
 | none=>.skip
structure FIR where
 n:Nat
 a:Nat
 rs:List ResultVar
 ir:IR
def fir (P:Z9)(g:Nat):Z8 FIR:=
 match P.funcs[g]? with
 | some fn=>match fn.body with
  | some c=>some ⟨fn.ntmps,fn.params.size+fn.nfree,fn.results.toList,comp P c⟩
  | none=>none
 | none=>none
def oP (r:Z8 Z6)(h:jA)(k:Z6→jA→Prop):Prop:=match r with|some v=>k v h|none=>False
def oE (r:Z8 (Z6×jA))(k:Z6→jA→Prop):Prop:=match r with|some (v,h)=>k v h|none=>False
def oT (r:Z8 Z6)(c:Z8 (Z6×Z6))(h:jA)(k:Z6→jA→Prop):Prop:=match r with
 | some v=>k v h
 | none=>match c with
  | some (a,b)=>k a h∧k b h
  | none=>False
def gV (v:Z6)(w:Zb)(A B:Prop):Prop:=match v with | .bool b=>(b=w→A)∧(b≠w→B)|_=>B
def vgd (tm:VT)(g:Z8 (Nat×Zb))(A B:Prop):Prop:=match g with|none=>A|some (d,w)=>gV (tm.get d) w A B
def vop (p:Par)(c:Cl)(o:Op)(t:Zt)(tm:VT)(h:jA)(k:Z6→jA→Prop):Prop:=
 match c with
 | .take=>oT (tv p.P o t tm h) (tw p.P o tm h) h k
 | .eff=>oE (te p.P o t tm h) k
 | .call=>match o with
  | .call ⟨.value f,args,_⟩=>dO0 p (ev tm f) (args.toList.map (ev tm)) h k
  | _=>False
def vops (p:Par):List It→VT→jA→(VT→jA→Prop)→Prop
 | [],tm,h,K=>K tm h
 | x :: l,tm,h,K=>vgd tm x.g (vop p x.c x.o x.t tm h λv a=>vops p l (put tm x.d v) a K) (vops p l (put tm x.d undef) h K)
abbrev HL:=List (Nat×(jA→Z8 Z6)×Z6)
def dT0 (a:List Nat)(h:jA):HL→Prop
 | []=>True
 | (i,rd,v) :: L=>(match a.contains i with | true=>True | false=>rd h=some v)∧dT0 a h L
def cP0 (bind:List Nat)(L:HL):HL:=L.filter λe=>!bind.contains e.1
def bB (p:Par):PT→HL→VT→jA→(VT→jA→Prop)→Prop
 | .fin,_,tm,h,K=>K tm h
 | .no,_,_,_,_=>True
 | .bad,_,_,_,_=>False
 | .take i rd x k, L, tm, h, K => vgd tm x.g
   (match rd with
    | false=>oP (tp p.P x.o x.t tm) h λv _=>bB p k L (put tm x.d v) h K
    | true=>match tv p.P x.o x.t tm h with
     | some v=>bB p k ((i,λe=>tv p.P x.o x.t tm e,v) :: L) (put tm x.d v) h K
     | none=>match tw p.P x.o tm h with
      | some (a,b)=>bB p k ((i,λe=>(tw p.P x.o tm e).map (·.1),a) :: L) (put tm x.d a) h K∧bB p k ((i,λe=>(tw p.P x.o tm e).map (·.2),b) :: L) (put tm x.d b) h K
      | none=>False)
   (bB p k L (put tm x.d undef) h K)
 | .eff _ x bind k alt,L,tm,h,K=>vgd tm x.g (vop p x.c x.o x.t tm h λv e=>dT0 bind e L∧bB p k (cP0 bind L) (put tm x.d v) e K) (bB p k (cP0 bind L) (put tm x.d undef) h K)∧bB p alt L tm h K
def zE0 (v:Z6)(A B:Prop):Prop:=match v with | .bool b=>(b=true→A)∧(b=false→B)|_=>False
def W (p:Par)(ro:Z8 Nat)(h:IR)(s:S)(R:jK→S→Prop):Prop:=∀ c,comp p.P c=h→WP p ro c s R
def vc (p:Par)(ro:Z8 Nat):IR→S→(jK→S→Prop)→Prop
 | .bad,_,_=>False
 | .skip,s,R=>R .normal s
 | .ret,s,R=>R .ret s
 | .exit i,s,R=>R (.exit i) s
 | .goto l,s,R=>R (.goto l) s
 | .label _,s,R=>R .normal s
 | .ops l,s,R=>vops p l s.tm s.h λtm h=>R .normal ⟨tm,s.df,h⟩
 | .plan t,s,R=>bB p t [] s.tm s.h λtm h=>R .normal ⟨tm,s.df,h⟩
 | .seq a b,s,R=>vc p ro a s (fG0 (λc=>vc p ro b c R) R)
 | .cond x a b,s,R=>zE0 (ev s.tm x) (vc p ro a s R) (vc p ro b s R)
 | .block i b,s,R=>vc p ro b s (outR i R)
 | .loop b,s,R=>W p ro (.loop b) s R
 | .scope b,s,R=>WPin p ro b b s R
 | .range g ps a b,s,R=>W p ro (.range g ps a b) s R
theorem jA3 {v:Z6}{w:Zb}{A B:Prop}(h:gV v w A B):(v=.bool w∧A)∨(v≠.bool w∧B):=by
 unfold gV at h
 split at h
 ·rename_i b
  by_cases e:b=w
  ·exact .inl ⟨by rw[e],h.1 e⟩
  ·exact .inr ⟨λc=>e (by cases c;rfl),h.2 e⟩
 ·rename_i a
  exact .inr ⟨λe=>a _ e,h⟩
theorem fD0 {P:Z9}{a:Array Oper}{o:Oper}{x:It}{tm:VT}{A B:Prop}(c:It.of P a o=some x)(h:vgd tm x.g A B) :
  (wanted a.toList tm o=some true∧A)∨(wanted a.toList tm o=some false∧B):=by
 unfold It.of at c
 split at c
 ·rename_i e
  cases c
  exact .inl ⟨by simp[wanted,e],h⟩
 ·rename_i j w e
  split at c
  ·rename_i m n
   split at c<;>cases c
   rename_i d s
   have i:a.toList[j]?=some m:=by rw[Array.getElem?_toList];exact n
   have k:yl a.toList tm j=match tm.get d with | .bool b=>some b|_=>none:=by
    simp only[yl,i,s]
    rfl
   rcases jA3 h with ⟨q,r⟩|⟨f,l⟩
   ·refine .inl ⟨?_,r⟩
    simp only[wanted,e,k,q]
    cases w<;>rfl
   ·refine .inr ⟨?_,l⟩
    simp only[wanted,e,k]
    cases p:tm.get d with
    | bool b=>rw[p] at f;cases b<;>cases w<;>simp_all
    | _=>rfl
  ·cases c
theorem It.of_eq {P:Z9}{a:Array Oper}{o:Oper}{x:It}(h:It.of P a o=some x):x.d=o.dst∧x.c=clOf P o∧x.o=o.op∧x.t=o.type:=by
 unfold It.of at h
 split at h
 ·cases h;exact ⟨rfl,rfl,rfl,rfl⟩
 ·split at h
  ·split at h<;>cases h;exact ⟨rfl,rfl,rfl,rfl⟩
  ·cases h
theorem tF0 (P:Z9)(o:Oper)(tm:VT):cH P (bare o.op o.type) tm=cH P o tm:=rfl
theorem tE0 (P:Z9)(o:Oper)(tm:VT)(h:jA):kI0 P (bare o.op o.type) tm h=kI0 P o tm h:=rfl
theorem fO1 {p:Par}{e:Gam}{tm:VT}{h:jA}{f:Act}{w:Zw}(d:qI p e h w)(g:Tm e p.NG tm f)(b:∀ x∈tm.arr.toList,sc h.next x=true){o:Oper}
  (c:o.op.operands.all (gA p.NG)=true) {v:Z6} (a:tv p.P o.op o.type tm h=some v):(execOp f.eval o).run p.P w=.ok (.value (con e v)) w∧sc h.next v=true:=by
 rcases zL2 a with a|a
 ·rw[tF0] at a
  exact ⟨eV0 g c a w,oA0 d b c a⟩
 ·rw[tE0] at a
  exact ⟨bE1 d g c a,rM1 d b c a⟩
theorem lI2 {p:Par}{v:Gam}{tm:VT}{h:jA}{f:Act}{w:Zw}(r:qI p v h w)(H:Tm v p.NG tm f)(l:∀ x∈tm.arr.toList,sc h.next x=true){o:Oper}
  (d:o.op.operands.all (gA p.NG)=true) {n j:Z6} (k:tw p.P o.op tm h=some (n,j)) :
  ∃ b:Zb,(∀ a g w',Ag v a h.next→h.next≤g.next→qI p a g w'→tw p.P o.op tm g=some (n,j)→(execOp f.eval o).run p.P w'=.ok (.value (con a (if b then n else j))) w')∧sc h.next n=true∧sc h.next j=true:=by
 have u:p.NG≤h.next:=by have:=r.ng;have:=r.gn;omega
 unfold tw at k
 split at k
 ·rename_i ty x lo hi mx e
  have q:sc h.next (ev tm x)=true:=bD1 r l (by
   rw[Array.all_eq_true_iff_forall_mem] at d;exact d x (by simp[e,Op.operands]))
  obtain ⟨b,F⟩:=fU1 r k
  refine ⟨b,λa g w' m E C i=>?_,zV2 q k⟩
  have z:=H.ag l m u
  have c:∀ x∈o.op.operands,f.eval x=con a (ev tm x):=λx B=>z.eval (by
   rw[Array.all_eq_true_iff_forall_mem] at d;exact d x B)
  have B:=c x (by simp[e,Op.operands])
  have A:lo.map f.eval=(lo.map (ev tm)).map (con a):=by
   cases lo with
   | none=>rfl
   | some y=>simp[c y (by simp[e,Op.operands])]
  have t:hi.map f.eval=(hi.map (ev tm)).map (con a):=by
   cases hi with
   | none=>rfl
   | some y=>simp[c y (by simp[e,Op.operands])]
  have D:mx.map f.eval=(mx.map (ev tm)).map (con a):=by
   cases mx with
   | none=>rfl
   | some y=>simp[c y (by simp[e,Op.operands])]
  have s:tailV p.P ty (ev tm x) (lo.map (ev tm)) (hi.map (ev tm)) (mx.map (ev tm)) g=some (n,j):=by rw[e] at i;exact i
  have:=F a g w' m C s
  simp only[execOp,e,B,A,t,D,Sem.run_bind,this,Result.andThen_ok,Sem.run_pure]
 ·cases k
theorem fJ1 {p:Par}{i:Gam}{tm:VT}{h:jA}{s:Act}{w:Zw}(q:qI p i h w)(L:Tm i p.NG tm s)(u:∀ x∈tm.arr.toList,sc h.next x=true){o:Oper}(J:qP0 p.NG o=true)
  {c:Cl} {R:Z6→jA→Prop} (d:vop p c o.op o.type tm h R) {F:Fence} (hF:FW F) {n:Nat} {K:Act→Zw→Prop} {Q:Exit→Act→Zw→Prop}
  (C:∀ (v:Z6) (z:jA) (j:Gam) (w':Zw),R v z→Ag i j h.next→h.next≤z.next→Below p.B w w'→qI p j z w'→sc z.next v=true→K (s.put o.dst (con j v)) w') :
  o.uponIn F n p.P s K Q ((execOp s.eval o).run p.P w):=by
 have e:o.op.operands.all (gA p.NG)=true:=by simp only[qP0,Z5] at J;exact J.1
 unfold vop at d
 split at d
 ·unfold oT at d
  split at d
  ·rename_i v D
   obtain ⟨a,M⟩:=fO1 q L u e D
   rw[a]
   exact C v h i w d (Ag.refl _ _) (Z3 _) (Below.refl _ _) q M
  ·split at d
   ·rename_i v1 v2 D
    obtain ⟨b,a,T,N⟩:=lI2 q L u e D
    have a:=a i h w (Ag.refl _ _) (Z3 _) q D
    rw[a]
    cases b with
    | true=>exact C v1 h i w d.1 (Ag.refl _ _) (Z3 _) (Below.refl _ _) q T
    | false=>exact C v2 h i w d.2 (Ag.refl _ _) (Z3 _) (Below.refl _ _) q N
   ·exact d.elim
 ·unfold oE at d
  split at d
  ·rename_i v z D
   have H:wY0 p.P o tm h=some (v,z):=zS2 D
   have M:=bX2 q u e H
   obtain ⟨j,w',nx,h1,h2,X,Y,V,Z⟩:=rN1 q L e H
   rw[h1]
   rcases h2 with rfl|⟨rfl,rfl⟩
   ·exact C v z j w' d X Y Z.below V M
   ·exact C undef z j w' d X Y Z.below V M
  ·exact d.elim
 ·split at d
  ·rename_i f args ats A
   have I:∀ x∈o.op.operands,s.eval x=con i (ev tm x):=λx m=>L.eval (by
    rw[Array.all_eq_true_iff_forall_mem] at e;exact e x m)
   have r:∀ x∈o.op.operands,sc h.next (ev tm x)=true:=λx m=>bD1 q u (by
    rw[Array.all_eq_true_iff_forall_mem] at e;exact e x m)
   have hf:=I f (by simp[A,Op.operands,Call.operands])
   have k:args.map s.eval=⟨(args.toList.map (ev tm)).map (con i)⟩:=by
    apply Array.ext'
    simp only[Array.toList_map,List.map_map]
    apply List.map_congr_left
    intro y E
    exact I y (by simp[A,Op.operands,Call.operands];exact .inr (by simpa using E))
   unfold dO0 at d
   split at d
   ·rename_i g captured t
    have a:(execOp s.eval o).run p.P w=(callFunc g ⟨(args.toList.map (ev tm)++captured).map (con i)⟩).run p.P w:=by
     simp only[execOp,A,resolve,hf,t,dP,yN0,Deferred.ofValue,Sem.run_bind,Sem.run_pure,Result.andThen_ok,invoke,k]
     simp
    rw[a]
    refine d i w q ?_ o F hF n s K Q C
    intro x m
    simp only[List.mem_append,List.mem_map] at m
    rcases m with ⟨y,E,rfl⟩|m
    ·exact r y (by simp[A,Op.operands,Call.operands];exact .inr (by simpa using E))
    ·have:=r f (by simp[A,Op.operands,Call.operands])
     rw[t] at this
     simp only[sc,Z5] at this
     exact qJ this.2 x m
   ·rename_i l captured t
    have a:(execOp s.eval o).run p.P w=(Instr.yield (i.b l) ⟨(args.toList.map (ev tm)).map (con i)⟩).run p.P w:=by
     simp only[execOp,A,resolve,hf,t,dP,yN0,Deferred.ofValue,Sem.run_bind,Sem.run_pure,Result.andThen_ok,invoke,k]
     simp
    rw[a]
    refine d i w q ?_ o F hF n s K Q C
    intro x m
    simp only[List.mem_map] at m
    obtain ⟨y,E,rfl⟩:=m
    exact r y (by simp[A,Op.operands,Call.operands];exact .inr (by simpa using E))
   ·exact d.elim
  ·exact d.elim
structure wM2 (p:Par)(Γ:Gam)(h:jA)(w:Zw)(df:List Deferred)(K:VT→jA→Prop)(Q:Act→Zw→Prop):Prop where
 go:∀ tm' h' Γ' ca' w',K tm' h'→Ag Γ Γ' h.next→h.next≤h'.next→Below p.B w w'→qI p Γ' h' w'→Tm Γ' p.NG tm' ca'→(∀ x∈tm'.arr.toList,sc h'.next x=true)→ca'.defers=df→Q ca' w'
theorem wM2.step {p:Par}{o a:Gam}{h n:jA}{w w':Zw}{df:List Deferred}{K:VT→jA→Prop}{Q:Act→Zw→Prop}(r:wM2 p o h w df K Q)
  (u:Ag o a h.next) (b:h.next≤n.next) (s:Below p.B w w'):wM2 p a n w' df K Q:=
 ⟨λg v c l f t e q k j i d m=>r.go g v c l f t (u.trans e b) Z0 (s.trans k) j i d m⟩
theorem zA2 {p:Par}{c:Array Oper}(A:∀ o∈c.toList,qP0 p.NG o=true){F:Fence}(M:FW F){n:Nat}{Q:Exit→Act→Zw→Prop}{df:List Deferred}{K:VT→jA→Prop} :
  ∀ (l:List Oper) (k:Nat) (xs:List It) (tm:VT) (h:jA),c.toList.drop k=l→iL0 p.P c l=some xs→vops p xs tm h K→
  ∀ (i:Gam) (s:Act) (w:Zw),qI p i h w→Tm i p.NG tm s→(∀ x∈tm.arr.toList,sc h.next x=true)→s.defers=df→wM2 p i h w df K (λa w=>Q .normal a w)→
  wpOpsIn F n p.P c Q (List.range' k l.length) s w:=by
 intro l
 induction l with
 | nil=>
  intro k xs tm h _ b e i s w t g m D C
  cases b
  simp only[List.length_nil,List.range'_zero,wpOpsIn]
  exact C.go tm h i s w e (Ag.refl _ _) (Z3 _) (Below.refl _ _) t g m D
 | cons o j N=>
  intro k xs tm h X b e i s w t g m D C
  have H:c[k]?=some o:=by
   rw[← Array.getElem?_toList]
   have:(c.toList.drop k)[0]?=some o:=by rw[X];rfl
   simpa using this
  have d:c.toList.drop (k+1)=j:=by
   have:(c.toList.drop k).drop 1=j:=by rw[X];rfl
   simpa[List.drop_drop,Nat.add_comm] using this
  have B:qP0 p.NG o=true:=A o (by rw[← Array.getElem?_toList] at H;exact List.mem_of_getElem? H)
  have L:=uL0 B
  simp only[iL0] at b
  split at b<;>cases b
  rename_i x xs V b
  obtain ⟨Y,e2,e3,e4⟩:=It.of_eq V
  simp only[vops] at e
  simp only[List.length_cons,List.range'_succ,wpOpsIn,H]
  have r:=gW0 g c o
  have z:p.NG≤h.next:=by have:=t.ng;have:=t.gn;omega
  rcases fD0 V e with ⟨q,e⟩|⟨q,e⟩
  ·rw[q] at r
   simp only[Option.getD_some] at r
   simp only[r,if_true]
   refine ⟨λf _=>M.fn f,?_⟩
   rw[Oper.semAt_eq _ _ _ L.1]
   rw[e3,e4] at e
   refine fJ1 t g m B e M λv Z I w' T R u y J E=>?_
   rw[Y] at T
   exact N (k+1) xs _ Z d b T I _ w' J (g.put m R z o.dst v) (zP0 g.sm m u o.dst E) (by rw[put_defers];exact D) (C.step R u y)
  ·rw[q] at r
   simp only[Option.getD_some] at r
   simp only[r,Bool.false_eq_true,if_false]
   refine ⟨λf _=>M.fn f,?_⟩
   have:=g.put m (Ag.refl i h.next) z o.dst undef
   rw[uT0] at this
   rw[Y] at e
   exact N (k+1) xs _ h d b e i _ w t this (zP0 g.sm m (Z3 _) o.dst rfl) (by rw[put_defers];exact D) C
def dI0 (p:Par)(f:Gam)(n:Nat)(a:Array Oper)(d:List Nat)(L:HL)(e:List (Nat×Sem Go.Next×Z6)):Prop:=
 ∀ x∈e,¬ cA0 .any a d x.1∨∃ b v,(x.1,b,v)∈L∧∀ h c w',Ag f h n→n≤c.next→qI p h c w'→b c=some v→x.2.1.run p.P w'=.ok (.value x.2.2) w'
theorem dI0.ag {p:Par}{g c:Gam}{n m:Nat}(q:Ag g c n)(l:n≤m){a:Array Oper}{k:List Nat}{L:HL}{j:List (Nat×Sem Go.Next×Z6)}(h:dI0 p g n a k L j):dI0 p c m a k L j:=λx s=>by
 rcases h x s with d|⟨o,v,d,u⟩
 ·exact .inl d
 ·exact .inr ⟨o,v,d,λb t w' e i f r=>u b t w' (q.trans e l) Z0 f r⟩
theorem dI0.cons {p:Par}{e:Gam}{n:Nat}{c:Array Oper}{k:List Nat}{L:HL}{j:List (Nat×Sem Go.Next×Z6)}(h:dI0 p e n c k L j){i:Nat}{a:jA→Z8 Z6}{v u:Z6}{s:Sem Go.Next}
  (m:∀ b g w',Ag e b n→n≤g.next→qI p b g w'→a g=some v→s.run p.P w'=.ok (.value u) w'):dI0 p e n c k ((i,a,v) :: L) ((i,s,u) :: j):=λx f=>by
 rcases List.mem_cons.1 f with rfl|f
 ·exact .inr ⟨a,v,List.mem_cons_self ..,m⟩
 ·rcases h x f with d|⟨a,v,d,l⟩
  ·exact .inl d
  ·exact .inr ⟨a,v,List.mem_cons_of_mem _ d,l⟩
theorem oI0 {o:Oper}{i:Nat}(h:i∈dE2 o):∃ e∈o.after,Region.binds .any e=true∧e.on=i:=by
 simp only[dE2,List.mem_map,List.mem_filter] at h
 obtain ⟨e,⟨a,b⟩,c⟩:=h
 exact ⟨e,by simpa using a,b,c⟩
theorem kN0 {a:Array Oper}{k:Nat}:∀ (n:Nat) (h c:List Nat),(∀ i∈h,Beh .any a k i)→(∀ i∈c,Beh .any a k i)→∀ i∈cX1 a n h c,Beh .any a k i
 | 0,_,_,_,ha=>ha
 | _+1,[],_,_,ha=>ha
 | n+1,j :: h,c,ht,ha=>by
  have b:∀ i∈h,Beh .any a k i:=λi hi=>ht i (List.mem_cons_of_mem _ hi)
  have f:=ht j (List.mem_cons_self ..)
  unfold cX1
  split
  ·exact kN0 n _ _ b ha
  ·split
   ·exact kN0 n _ _ b ha
   ·rename_i m d
    refine kN0 n _ _ (λi hi=>?_) (λi hi=>?_)
    ·rcases List.mem_append.1 hi with hi|hi
     ·obtain ⟨e,g,l,rfl⟩:=oI0 hi
      exact f.snoc d g l
     ·exact b i hi
    ·rcases List.mem_cons.1 hi with rfl|hi
     ·exact f
     ·exact ha i hi
theorem eY0 {a:Array Oper}{k:Nat}{o:Oper}(b:a[k]?=some o){i:Nat}(h:(wS0 a o).contains i=true):Beh .any a k i:=by
 rw[List.contains_iff_mem] at h
 refine kN0 1000 _ _ (λi hi=>?_) (λi hi=>(by cases hi)) i h
 obtain ⟨e,c,d,rfl⟩:=oI0 hi
 exact .one b c d
theorem nP0 {b:List Nat}{h:jA}:∀ {L:HL},dT0 b h L→∀ {i:Nat} {c:jA→Z8 Z6} {v:Z6},(i,c,v)∈L→b.contains i=false→c h=some v
 | [],_,_,_,_,a,_=>by cases a
 | (i',rd',v') :: L,hk,i,c,v,a,hc=>by
  simp only[dT0] at hk
  rcases List.mem_cons.1 a with e|a
  ·cases e
   have d:=hk.1
   rw[hc] at d
   exact d
  ·exact nP0 hk.2 a hc
theorem bZ0 {a:Array Oper}{c:List Nat}{j i:Nat}(h:cA0 .any a (j :: c) i):cA0 .any a c i:=λk b=>h k (List.mem_cons_of_mem _ b)
theorem mY1 {p:Par}{d:Gam}{h:jA}{w:Zw}{n:Nat}(s:qI p d h w)(k:n≤h.next){a:Array Oper}{j:Nat}{o:Oper}(m:a[j]?=some o){f:List Nat}{L:HL}{e:List (Nat×Sem Go.Next×Z6)}(i:dI0 p d n a f L e)(l:dT0 (wS0 a o) h L) :
  gF0 p.P a e (j :: f) w:=λx q c=>by
 rcases i x q with b|⟨t,v,b,r⟩
 ·exact absurd (bZ0 c) b
 ·cases g:(wS0 a o).contains x.1 with
  | true=>
   exact absurd (eY0 m g) (c j (List.mem_cons_self ..))
  | false=>exact r d h w (Ag.refl _ _) k s (nP0 l b g)
theorem dI0.step {p:Par}{d:Gam}{n:Nat}{a:Array Oper}{f:List Nat}{L:HL}{e:List (Nat×Sem Go.Next×Z6)}(h:dI0 p d n a f L e){j:Nat}{o:Oper}(k:a[j]?=some o):dI0 p d n a (j :: f) (cP0 (wS0 a o) L) e:=λx l=>by
 rcases h x l with c|⟨i,v,c,m⟩
 ·exact .inl λb=>c (bZ0 b)
 ·cases g:(wS0 a o).contains x.1 with
  | true=>
   exact .inl λb=>b j (List.mem_cons_self ..) (eY0 k g)
  | false=>exact .inr ⟨i,v,List.mem_filter.2 ⟨c,by simp only[g];rfl⟩,m⟩
theorem nR0 {P:Z9}{b:Array Oper}{m:Nat→PT}{p:Par}{L:HL}{tm:VT}{h:jA}{K:VT→jA→Prop}:∀ (l:List Nat),
  bB p (l.foldr (fun r f => match b[r]? with
    | some o=>match It.of P b o with
     | some x=>.eff r x (wS0 b o) (m r) f
     | none=>.bad
    | none=>.bad) .no) L tm h K→∀ r∈l,∃ o x,b[r]?=some o∧It.of P b o=some x∧
     vgd tm x.g (vop p x.c x.o x.t tm h λv i=>dT0 (wS0 b o) i L∧bB p (m r) (cP0 (wS0 b o) L) (put tm x.d v) i K) (bB p (m r) (cP0 (wS0 b o) L) (put tm x.d undef) h K)
 | [],_,r,e=>by cases e
 | a :: l,hv,r,e=>by
  simp only[List.foldr_cons] at hv
  split at hv
  ·rename_i o j
   split at hv
   ·rename_i x k
    simp only[bB] at hv
    rcases List.mem_cons.1 e with rfl|e
    ·exact ⟨o,x,j,k,hv.1⟩
    ·exact nR0 l hv.2 r e
   ·exact hv.elim
  ·exact hv.elim
theorem fH1 {p:Par}{g:Array Oper}(hops:∀ o∈g.toList,qP0 p.NG o=true){F:Fence}(hF:FW F){n:Nat}{Q:Exit→Act→Zw→Prop}
  (hQ:∀ c a a' w,Q (.panic c) a w→Q (.panic c) a' w) {df:List Deferred} {K:VT→jA→Prop} :
  ∀ (fuel:Nat) (e:Array Zb) (dn:List Nat) (L:HL) (tm:VT) (h:jA),dR .any g e dn→bB p (mkPT p.P g fuel e) L tm h K→
  ∀ (k:Gam) (ca:Act) (w:Zw) (Lc:List (Nat×Sem Go.Next×Z6)),qI p k h w→Tm k p.NG tm ca→(∀ x∈tm.arr.toList,sc h.next x=true)→ca.defers=df→dI0 p k h.next g dn L Lc→
  wM2 p k h w df K (λa w=>Q .normal a w)→
  anyX F n p.P .any g Q (gF0 p.P g Lc) fuel e dn ca w:=by
 intro fuel
 have X:Region.noSelect g=true:=by
  simp only[Region.noSelect,Array.all_eq_true_iff_forall_mem]
  intro o ho
  have:=uL0 (hops o (by simpa using ho))
  split
  ·rename_i cs b hc;exact absurd hc (this.2 cs b)
  ·rfl
 induction fuel with
 | zero=>
  intro e dn L tm h q f k ca w Lc M s y C hL hn
  simp only[mkPT] at f
  split at f
  ·rename_i B
   exact ⟨B,hn.go tm h k ca w f (Ag.refl _ _) (Z3 _) (Below.refl _ _) M s y C⟩
  ·exact f.elim
 | succ fuel ih=>
  intro e dn L tm h q f k ca w Lc M s y C hL hn
  have E:p.NG≤h.next:=by have:=M.ng;have:=M.gn;omega
  simp only[mkPT] at f
  split at f
  ·rename_i B
   exact ⟨λ_=>hn.go tm h k ca w f (Ag.refl _ _) (Z3 _) (Below.refl _ _) M s y C,λi hi=>by rw[B] at hi;cases hi⟩
  ·rename_i r rs B
   split at f
   ·rename_i i o hff
    obtain ⟨hi,l,z,_⟩:=dW0 hff
    have hoo:qP0 p.NG o=true:=hops o (by rw[← Array.getElem?_toList] at l;exact List.mem_of_getElem? l)
    have hop:o.op.operands.all (gA p.NG)=true:=by simp only[qP0,Z5] at hoo;exact hoo.1
    have Y:=gW0 s g o
    rw[← B] at hi
    split at f
    case h_2=>exact f.elim
    rename_i x Z
    obtain ⟨e1,e2,e3,e4⟩:=It.of_eq Z
    simp only[bB] at f
    rcases fD0 Z f with ⟨R,f⟩|⟨R,f⟩
    ·rw[R] at Y
     rw[e1,e3,e4] at f
     cases hrdb:isRd o.op with
     | false=>
      rw[hrdb] at f
      simp only at f
      unfold oP at f
      split at f
      case h_2=>exact f.elim
      rename_i v hv
      have hv':cH p.P o tm=some v:=jZ1 hv
      have J:=oA0 M y hop hv'
      refine kO0 (v:=con k v) (T:=λ_=>True) l X z hi q (λc a w hq=>hQ _ _ _ _ hq) (λd d' w C=>gF0.mono C) (λ_ _ _ _=>trivial) (.inl ⟨Y,λw _=>eV0 s hop hv' w⟩) trivial ?_
      exact ih _ _ L _ h (q.list hi) f k _ w Lc M (s.put y (Ag.refl k h.next) E o.dst v) (zP0 s.sm y (Z3 _) o.dst J) (by rw[put_defers];exact C) hL hn
     | true=>
      rw[hrdb] at f
      simp only at f
      split at f
      case h_2=>
       split at f
       case h_2=>exact f.elim
       rename_i v1 v2 hv
       obtain ⟨b,I,hs1,hs2⟩:=lI2 M s y hop hv
       have hrun0:=I k h w (Ag.refl _ _) (Z3 _) M hv
       have J:sc h.next (if b then v1 else v2)=true:=by cases b<;>assumption
       refine cZ0 (S:=gF0 p.P g ((i,execOp ca.eval o,con k (if b then v1 else v2)) :: Lc)) (λj w hh x Z=>hh x (List.mem_cons_of_mem _ Z)) _ _ _ _ _ ?_
       refine kO0 (v:=con k (if b then v1 else v2)) (T:=λw=>(execOp ca.eval o).run p.P w=.ok (.value (con k (if b then v1 else v2))) w) l X z hi q (λc a w hq=>hQ _ _ _ _ hq) (λd d' w C=>gF0.mono C)
        (λdn w hno hS=>hS _ (List.mem_cons_self ..) hno) (.inl ⟨Y,λw hh=>hh⟩) hrun0 ?_
       have hinv:∀ V,(∃ u,tw p.P o.op tm V=some u)→tw p.P o.op tm V=some (v1,v2):=λV hu=>by
        obtain ⟨u,hu⟩:=hu
        rw[hu]
        have N:=hv
        unfold tw at N hu
        split at N
        ·rename_i ho
         simp only[ho] at hu
         unfold tailV at N hu
         split at N
         ·rename_i Z hmx
          simp only[Z,hmx] at hu
          split at N
          ·rename_i hun hc
           split at N
           ·rename_i hsz
            split at N
            ·rename_i hbd
             split at N<;>cases N
             split at hu
             ·rename_i hun' hc'
              rw[hun] at hun'
              cases hun'
              rw[hsz] at hu
              simp only[hbd] at hu
              split at hu<;>cases hu
              rfl
             ·cases hu
            ·cases N
           ·cases N
          ·cases N
         ·cases N
        ·cases N
       cases b with
       | true=>
        refine ih _ _ _ _ h (q.list hi) f.1 k _ w _ M (s.put y (Ag.refl k h.next) E o.dst v1) (zP0 s.sm y (Z3 _) o.dst hs1) (by rw[put_defers];exact C) (hL.cons λΓ' V w' hg A D t=>?_) hn
        have h2:=I Γ' V w' hg A D (hinv V (by
         have t:Option.map _ (tw p.P o.op tm V)=_:=t
         cases htw:tw p.P o.op tm V with
         | none=>rw[htw] at t;cases t
         | some u=>exact ⟨u,rfl⟩))
        rw[h2]
        simp only[if_true,qC0 hg v1 hs1]
       | false=>
        refine ih _ _ _ _ h (q.list hi) f.2 k _ w _ M (s.put y (Ag.refl k h.next) E o.dst v2) (zP0 s.sm y (Z3 _) o.dst hs2) (by rw[put_defers];exact C) (hL.cons λΓ' V w' hg A D t=>?_) hn
        have h2:=I Γ' V w' hg A D (hinv V (by
         have t:Option.map _ (tw p.P o.op tm V)=_:=t
         cases htw:tw p.P o.op tm V with
         | none=>rw[htw] at t;cases t
         | some u=>exact ⟨u,rfl⟩))
        rw[h2]
        simp only[Bool.false_eq_true,if_false,qC0 hg v2 hs2]
      rename_i v hv
      obtain ⟨I,J⟩:=fO1 M s y hop hv
      refine cZ0 (S:=gF0 p.P g ((i,execOp ca.eval o,con k v) :: Lc)) (λj w hh x Z=>hh x (List.mem_cons_of_mem _ Z)) _ _ _ _ _ ?_
      refine kO0 (v:=con k v) (T:=λw=>(execOp ca.eval o).run p.P w=.ok (.value (con k v)) w) l X z hi q (λc a w hq=>hQ _ _ _ _ hq) (λd d' w C=>gF0.mono C)
       (λdn w hno hS=>hS _ (List.mem_cons_self ..) hno) (.inl ⟨Y,λw hh=>hh⟩) I ?_
      refine ih _ _ _ _ h (q.list hi) f k _ w _ M (s.put y (Ag.refl k h.next) E o.dst v) (zP0 s.sm y (Z3 _) o.dst J) (by rw[put_defers];exact C) (hL.cons λΓ' V w' hg A D t=>?_) hn
      have:=(fO1 D (s.ag y hg E) (λx Z=>kN A x (y x Z)) hop t).1
      rw[this,qC0 hg v J]
    ·rw[R] at Y
     refine kO0 (v:=undef) (T:=λ_=>True) l X z hi q (λc a w hq=>hQ _ _ _ _ hq) (λd d' w C=>gF0.mono C) (λ_ _ _ _=>trivial) (.inr ⟨Y,rfl⟩) trivial ?_
     have H:=s.put y (Ag.refl k h.next) E o.dst undef
     rw[uT0] at H
     rw[e1] at f
     exact ih _ _ L _ h (q.list hi) f k _ w Lc M H (zP0 s.sm y (Z3 _) o.dst rfl) (by rw[put_defers];exact C) hL hn
   ·refine ⟨λh0=>(by rw[B] at h0;cases h0),λi hi=>?_⟩
    rw[B] at hi
    obtain ⟨o,x,l,Z,f⟩:=nR0 (m:=λr=>mkPT p.P g fuel (e.setIfInBounds r true)) _ f i hi
    have hoo:qP0 p.NG o=true:=hops o (by rw[← Array.getElem?_toList] at l;exact List.mem_of_getElem? l)
    have Y:=gW0 s g o
    obtain ⟨e1,e2,e3,e4⟩:=It.of_eq Z
    unfold opW
    simp only[l]
    rcases fD0 Z f with ⟨R,f⟩|⟨R,f⟩
    ·rw[R] at Y
     simp only[Option.getD_some] at Y
     simp only[Y,if_true]
     rw[e3,e4] at f
     refine fJ1 M s y hoo f hF λv N Γ' w' hv hg A hbel D hsv=>?_
     obtain ⟨hk,hv⟩:=hv
     rw[e1] at hv
     have hL':=hL.ag hg A
     have hi':i∈Region.ready .any g e:=by rw[B];exact hi
     exact ⟨.inl (mY1 D (Z3 _) l hL' hk),ih _ _ _ _ N (q.step hi') hv Γ' _ w' Lc D (s.put y hg E o.dst v) (zP0 s.sm y A o.dst hsv) (by rw[put_defers];exact C) (hL'.step l) (hn.step hg A hbel)⟩
    ·rw[R] at Y
     simp only[Option.getD_some] at Y
     simp only[Y,Bool.false_eq_true,if_false]
     have H:=s.put y (Ag.refl k h.next) E o.dst undef
     rw[uT0] at H
     rw[e1] at f
     have hi':i∈Region.ready .any g e:=by rw[B];exact hi
     exact ⟨.inr trivial,ih _ _ _ _ h (q.step hi') f k _ w Lc M H (zP0 s.sm y (Z3 _) o.dst rfl) (by rw[put_defers];exact C) (hL.step l) hn⟩
theorem qO0 {p:Par}(jV:wB0 p){ro:Z8 Nat}:∀ (c:Code) (s:S) (R:jK→S→Prop),vc p ro (comp p.P c) s R→WP p ro c s R
 | .skip,s,R,h=>WP.skip h
 | .label l,s,R,h=>WP.label h
 | .exit i,s,R,h=>WP.exit h
 | .goto l,s,R,h=>WP.goto h
 | .ret,s,R,h=>WP.ret h
 | .refuse _,s,R,h=>h.elim
 | .seq a b, s, R, h => WP.seq (qO0 jV a s _ h |>.mono fun e s' r => by
   cases e with
   | normal=>exact qO0 jV b s' R r
   | exit i=>exact r
   | goto l=>exact r
   | ret=>exact r)
 | .cond x a b,s,R,h=>by
  simp only[comp,vc] at h
  unfold zE0 at h
  split at h
  ·rename_i v hv
   exact WP.cond hv (λe=>qO0 jV a s R (h.1 e)) (λe=>qO0 jV b s R (h.2 e))
  ·exact h.elim
 | .block i b,s,R,h=>WP.block (qO0 jV b s _ h)
 | .loop b,s,R,h=>h _ rfl
 | .scope b,s,R,h=>WP.scope h
 | .rangeFunc g ps a b,s,R,h=>h _ rfl
 | .region id ops draw,s,R,h=>by
  intro q X C w d F n Q N Z hl Y
  simp only[uY,Array.all_eq_true_iff_forall_mem] at q
  have m:∀ o∈ops.toList,qP0 p.NG o=true:=λo ho=>q o (by simpa using ho)
  refine cI (by simp) ?_
  cases draw with
  | false=>
   simp only[comp] at h
   split at h
   case h_2=>exact h.elim
   rename_i xs J
   refine wpIn_region ?_
   have:=zA2 m N (n:=n) (Q:=Q) (df:=C.defers) (K:=λtm h=>R .normal ⟨tm,s.df,h⟩) ops.toList 0 xs s.tm s.h (by simp) J h X C w d.hr d.tm d.sc rfl
    ⟨λI A u y w' t z f D r E H L=>Y _ _ u y w' t z f D ⟨E,H,d.df_ag z f L,r⟩⟩
   rw[List.range_eq_range']
   simpa using this
  | true=>
   have h:bB p (mkPT p.P ops ops.size (Array.replicate ops.size false)) [] s.tm s.h (λtm h=>R .normal ⟨tm,s.df,h⟩):=h
   have M:iE0 ops:=λj o c V=>(uL0 (m o (by rw[← Array.getElem?_toList] at V;exact List.mem_of_getElem? V))).1 c
   have hq:(Code.region id ops true).wpIn F n p.P (λe a w=>(∀ c,e≠.panic c)∧Q e a w) C w:=by
    refine gA0 (S:=gF0 p.P ops []) N M jV.mixed ?_
    refine fH1 m N (λc a a' w h=>absurd rfl (h.1 c)) ops.size _ [] [] s.tm s.h ⟨λk ok q t=>by
     have T:k<ops.size:=by
      rcases Nat.lt_or_ge k ops.size with A|A
      ·exact A
      ·rw[Array.getElem?_eq_none A] at q;cases q
     simp[Array.getD,T] at t,λk t=>by cases t⟩ h X C w.drew [] (d.hr.of_heap rfl) d.tm d.sc rfl (λx hx=>by cases hx) ?_
    refine ⟨λI A u y w' t z f D r E H L=>⟨λc h=>(by cases h),?_⟩⟩
    exact Y _ _ u y w' t z f ((Below.refl p.B w).drew.trans D) ⟨E,H,d.df_ag z f L,r⟩
   exact wpIn_mono hq λe a w h=>h.2
theorem W.round {p:Par}(jV:wB0 p){ro:Z8 Nat}{b:IR}{s:S}{R:jK→S→Prop}(h:vc p ro b s (fG0 (λj=>W p ro (.loop b) j R) R)):W p ro (.loop b) s R:=by
 intro c a
 cases c with
 | loop c=>
  have k:=a
  simp only[comp,IR.loop.injEq] at a
  subst a
  refine WP.round (qO0 jV c s _ h |>.mono λe s' f=>?_)
  cases e with
  | normal=>exact f _ rfl
  | exit i=>exact f
  | goto l=>exact f
  | ret=>exact f
 | region id g d=>
  cases d with
  | false=>simp only[comp] at a;split at a<;>cases a
  | true=>cases a
 | _=>cases a
theorem W.range {p:Par}{ro:Z8 Nat}{g:Zo}{m:Array Tmp}{a b:Code}{s:S}{R:jK→S→Prop}{l:Nat}{mk:List Nat}{k:jA}(i:yJ0 ro s.tm m a b s.h=some (l,mk,k))
  {f:FuncId} {captured:List Z6} (j:ev s.tm g=.func (.func f) #[] ⟨captured⟩) (o:cP p f (.func (.yield l) #[] #[] :: captured) k (qR0 l s mk R)):W p ro (.range g m a b) s R:=by
 intro c e
 cases c with
 | rangeFunc g' ps' q b'=>
  simp only[comp,IR.range.injEq] at e
  obtain ⟨rfl,rfl,rfl,rfl⟩:=e
  exact WP.range i j o
 | region id n d=>
  cases d with
  | false=>simp only[comp] at e;split at e<;>cases e
  | true=>cases e
 | _=>cases e
theorem sW2 {r:Z8 Z6}{b:Z8 (Z6×Z6)}{h:jA}{k e:Z6→jA→Prop}(a:oT r b h k)(c:∀ v d,k v d→e v d):oT r b h e:=by
 cases r with
 | none=>cases b with
  | none=>exact a
  | some x=>exact ⟨c _ _ a.1,c _ _ a.2⟩
 | some v=>exact c _ _ a
theorem sX2 {r:Z8 (Z6×jA)}{k c:Z6→jA→Prop}(h:oE r k)(b:∀ v a,k v a→c v a):oE r c:=by
 cases r with
 | none=>exact h
 | some v=>exact b _ _ h
theorem jX1 {p:Par}{c:Cl}{o:Op}{t:Zt}{tm:VT}{h:jA}{k e:Z6→jA→Prop}(a:vop p c o t tm h k)(b:∀ v d,k v d→e v d):vop p c o t tm h e:=by
 cases c with
 | take=>exact sW2 a b
 | eff=>exact sX2 a b
 | call=>
  cases o with
  | call c=>
   obtain ⟨g,args,i⟩:=c
   cases g with
   | value f=>exact dO0.mono a b
   | _=>exact a
  | _=>exact a
theorem jB3 {v:Z6}{w:Zb}{A B a d:Prop}(h:gV v w A B)(f:A→a)(c:B→d):gV v w a d:=by
 cases v with
 | bool b=>exact ⟨λe=>f (h.1 e),λe=>c (h.2 e)⟩
 | _=>exact c h
theorem fE0 {tm:VT}{g:Z8 (Nat×Zb)}{A B a b:Prop}(h:vgd tm g A B)(c:A→a)(d:B→b):vgd tm g a b:=by
 cases g with
 | none=>exact c h
 | some x=>exact jB3 h c d
theorem qX0 {p:Par}{K b:VT→jA→Prop}(c:∀ tm h,K tm h→b tm h):∀ (l:List It) (tm:VT) (h:jA),vops p l tm h K→vops p l tm h b
 | [],tm,h,a=>c tm h a
 | x :: l,tm,h,a=>fE0 a (λa=>jX1 a λv d=>qX0 c l _ d) (qX0 c l _ h)
theorem gN {p:Par}{K f:VT→jA→Prop}(c:∀ tm h,K tm h→f tm h):∀ (t:PT) (L:HL) (tm:VT) (h:jA),bB p t L tm h K→bB p t L tm h f
 | .fin,L,tm,h,a=>c tm h a
 | .no,L,tm,h,a=>trivial
 | .bad,L,tm,h,a=>a
 | .take i rd x k,L,tm,h,a=>by
  simp only[bB] at a ⊢
  refine fE0 a (λa=>?_) (gN c k L _ h)
  cases rd with
  | false=>
   simp only[oP] at a ⊢
   split
   ·rename_i b;rw[b] at a;exact gN c k _ _ h a
   ·rename_i b;rw[b] at a;exact a
  | true=>
   cases b:tv p.P x.o x.t tm h with
   | some v=>rw[b] at a;exact gN c k _ _ h a
   | none=>
    rw[b] at a
    simp only at a ⊢
    cases d:tw p.P x.o tm h with
    | some v=>rw[d] at a;exact ⟨gN c k _ _ h a.1,gN c k _ _ h a.2⟩
    | none=>rw[d] at a;exact a
 | .eff i x bind k alt,L,tm,h,a=>by
  simp only[bB] at a ⊢
  exact ⟨fE0 a.1 (λa=>jX1 a λv g e=>⟨e.1,gN c k _ _ g e.2⟩) (gN c k _ _ h),gN c alt L tm h a.2⟩
theorem gR {p:Par}{ro:Z8 Nat}:∀ (y:IR) (s:S) (R d:jK→S→Prop),(∀ e s',R e s'→d e s')→vc p ro y s R→vc p ro y s d
 | .bad,s,R,d,hR,h=>h
 | .skip,s,R,d,hR,h=>hR _ _ h
 | .ret,s,R,d,hR,h=>hR _ _ h
 | .exit i,s,R,d,hR,h=>hR _ _ h
 | .goto l,s,R,d,hR,h=>hR _ _ h
 | .label l,s,R,d,hR,h=>hR _ _ h
 | .ops l,s,R,d,hR,h=>qX0 (λtm h=>hR _ _) l _ _ h
 | .plan t,s,R,d,hR,h=>gN (λtm h=>hR _ _) t _ _ _ h
 | .seq a b, s, R, d, hR, h => gR a s _ _ (fun e s' f => by
   cases e with
   | normal=>exact gR b s' R d hR f
   | exit i=>exact hR _ _ f
   | goto l=>exact hR _ _ f
   | ret=>exact hR _ _ f) h
 | .cond x a b,s,R,d,hR,h=>by
  simp only[vc] at h ⊢
  unfold zE0 at h ⊢
  split
  ·rename_i o;simp only[o] at h;exact ⟨λe=>gR a s R d hR (h.1 e),λe=>gR b s R d hR (h.2 e)⟩
  ·rename_i m
   split at h
   ·rename_i o;exact absurd o (m _)
   ·exact h
 | .block i b, s, R, d, hR, h => gR b s _ _ (fun e s' f => by
   cases e with
   | exit j=>
    simp only[outR] at f ⊢
    split
    ·rename_i e;rw[if_pos e] at f;exact hR _ _ f
    ·rename_i e;rw[if_neg e] at f;exact hR _ _ f
   | normal=>exact hR _ _ f
   | goto l=>exact hR _ _ f
   | ret=>exact hR _ _ f) h
 | .loop b,s,R,d,hR,h=>λc v=>(h c v).mono hR
 | .scope b,s,R,d,hR,h=>λz E A B w r F n Q D k C H=>h z E A B w r F n Q D k C λe s' q u w' I=>H e s' q u w' (hR e s' I)
 | .range g ps a b,s,R,d,hR,h=>λc v=>(h c v).mono hR
@[congr] theorem oP_congr {r c:Z8 Z6} {h:jA} {k:Z6→jA→Prop} (e:r=c):oP r h k=oP c h k:=by rw[e]
@[congr] theorem oT_congr {r c:Z8 Z6} {q:Z8 (Z6×Z6)} {h:jA} {k:Z6→jA→Prop} (e:r=c):oT r q h k=oT c q h k:=by rw[e]
def oQ (q:Z8 (Z6×Z6))(h:jA)(k:Z6→jA→Prop):Prop:=match q with|some (a,b)=>k a h∧k b h|none=>False
@[congr] theorem oQ_congr {q c:Z8 (Z6×Z6)} {h:jA} {k:Z6→jA→Prop} (e:q=c):oQ q h k=oQ c h k:=by rw[e]
def oW (q:Z8 (Z6×Z6))(d c:Z6→Prop):Prop:=match q with|some (a,b)=>d a∧c b|none=>False
@[congr] theorem oW_congr {q c:Z8 (Z6×Z6)} {d f:Z6→Prop} (e:q=c):oW q d f=oW c d f:=by rw[e]
def oR (r:Z8 Z6)(q:Z8 (Z6×Z6))(k c d:Z6→Prop):Prop:=match r with
 | some v=>k v
 | none=>match q with
  | some (a,b)=>c a∧d b
  | none=>False
@[congr] theorem oR_congr {r f:Z8 Z6} {q:Z8 (Z6×Z6)} {k c d:Z6→Prop} (e:r=f):oR r q k c d=oR f q k c d:=by rw[e]
@[congr] theorem oE_congr {r c:Z8 (Z6×jA)} {k:Z6→jA→Prop} (e:r=c):oE r k=oE c k:=by rw[e]
@[congr] theorem gV_congr {v c:Z6} {w:Zb} {A B:Prop} (e:v=c):gV v w A B=gV c w A B:=by rw[e]
@[congr] theorem nQ2 {v c:Z6} {A B:Prop} (e:v=c):zE0 v A B=zE0 c A B:=by rw[e]
@[congr] theorem zW3 {p:Par} {f c:Z6} {l d:List Z6} {h:jA} {R:Z6→jA→Prop} (e:f=c) (g:l=d):dO0 p f l h R=dO0 p c d h R:=by rw[e,g]
@[congr] theorem zV3 {p:Par} {f:FuncId} {l c:List Z6} {h:jA} {R:Z6→jA→Prop} (d:l=c):zC0 p f l h R=zC0 p f c h R:=by rw[d]
@[congr] theorem zX3 {p:Par} {f:FuncId} {l c:List Z6} {h:jA} {R:Z6→jA→Prop} (d:l=c):cP p f l h R=cP p f c h R:=by rw[d]
@[congr] theorem W_congr {p:Par} {ro:Z8 Nat} {c:IR} {s:S} {R:jK→S→Prop}:W p ro c s R=W p ro c s R:=rfl
@[congr] theorem vc_congr {p:Par} {ro:Z8 Nat} {c:IR} {s:S} {R:jK→S→Prop}:vc p ro c s R=vc p ro c s R:=rfl
@[congr] theorem nO2 {p:Par} {t:PT} {L:HL} {tm:VT} {h:jA} {K:VT→jA→Prop}:bB p t L tm h K=bB p t L tm h K:=rfl
@[congr] theorem zY3 {p:Par} {l:List It} {tm:VT} {h:jA} {K:VT→jA→Prop}:vops p l tm h K=vops p l tm h K:=rfl
@[congr] theorem nF2 {p:Par} {l:Nat} {args c:List Z6} {h:jA} {R:Z6→jA→Prop} (e:args=c):qF0 p l args h R=qF0 p l c h R:=by rw[e]
section
variable {p:Par} {P:Z9} {ro:Z8 Nat} {s:S} {R:jK→S→Prop}
def endM (P:Z9)(d:List ResultVar)(R:Z6→jA→Prop)(tm:VT):Z8 jA→Prop
 | some c=>oP (dF P d tm c) c R
 | none=>False
theorem tG0 (h:jA):gQ [] h=some h:=rfl
theorem qE3 (tm:VT)(h:jA):dF P [] tm h=some (.tuple #[]):=rfl
theorem qD3 (tm:VT)(h:jA)(t:Nat):dF P [.tmp t] tm h=some (tm.get t):=rfl
theorem qC3 (tm:VT)(h:jA)(t u:Nat):dF P [.tmp t,.tmp u] tm h=some (.tuple #[tm.get t,tm.get u]):=rfl
theorem qB3 (tm:VT)(h:jA)(t u v:Nat):dF P [.tmp t,.tmp u,.tmp v] tm h=some (.tuple #[tm.get t,tm.get u,tm.get v]):=rfl
theorem qA3 (tm:VT)(h:jA)(t u v w:Nat):dF P [.tmp t,.tmp u,.tmp v,.tmp w] tm h=some (.tuple #[tm.get t,tm.get u,tm.get v,tm.get w]):=rfl
theorem bW2 (tm:VT)(h:jA)(a t:Nat):dF P [.cell a t] tm h=qL P t (tm.get a) h:=by
 simp only[dF,qZ.go]
 cases qL P t (tm.get a) h<;>rfl
variable {K:VT→jA→Prop} {k:Z6→jA→Prop}
def bZ (A B:Prop):Prop:=A∧B
@[congr] theorem tP2 {A c B:Prop} (e:A=c):bZ A B=bZ c B:=by rw[e]
theorem mZ1 (b:List Nat)(h:jA):dT0 b h []=True:=rfl
variable {A B:Prop}
theorem bF2:gV (.bool true) true A B=A:=by simp[gV]
theorem bG2:gV (.bool true) false A B=B:=by simp[gV]
theorem bH2:gV (.bool false) true A B=B:=by simp[gV]
theorem bI2:gV (.bool false) false A B=A:=by simp[gV]
theorem put_s (n:Nat)(l:List (Nat×Z6))(i:Nat)(v:Z6):put (FR n l) (some i) v=FR n ((i,v) :: l):=rfl
theorem put_n (tm:VT)(v:Z6):put tm none v=tm:=rfl
theorem le_U {n:Nat}(h:n≤100000):n<U:=by unfold U;omega
theorem rP1 (i:Nat):gE0 i []=[]:=rfl
theorem bG1 (i:Nat)(v:Z6)(l:List Z6):gE0 i (v :: l)=gE0 (i+1) l++[(i,v)]:=rfl
variable {tm:VT} {h:jA} {t:Zt}
theorem iC3 (i:Nat):ev tm (.tmp i)=tm.get i:=rfl
theorem bT2 (v:Z6):ev tm (.const v)=v:=rfl
theorem jY3 (f:FuncId):ev tm (.func f)=.func (.func f) #[] #[]:=rfl
theorem rK1 (g:Nat):ev tm (.global g)=.pointer (some ⟨g,0,none⟩):=rfl
theorem dM {d e:Type}(P:Z9)(f:d→Sem e):∀ s:Sem d,pv P (s >>= f)=(pv P s).bind (λa=>pv P (f a)):=by
 intro s
 show pv P (Sem.bind s f)=_
 induction s with
 | pure a=>rfl
 | program k c=>exact c P
 | mark m k c=>exact c
 | _=>rfl
theorem gS {c:Type}(P:Z9)(a:c):pv P (pure a:Sem c)=some a:=rfl
theorem lV2 {c d:Type}(P:Z9)(f:c→d)(s:Sem c):pv P (f <$> s)=(pv P s).map f:=by
 show pv P (s >>= λa=>pure (f a))=_
 rw[dM]
 cases pv P s<;>rfl
theorem qJ0 {d:TypeDesc}(h:P.underlying t=some d):pv P (underlying t)=some d:=by
 simp only[underlying,dM]
 simp only[program,pv,Option.bind_some,h]
 rfl
theorem sP2 (a b:Z6):gB0 (.bool true) a b=some a:=rfl
theorem sQ2 (a b:Z6):gB0 (.bool false) a b=some b:=rfl
theorem fX3 (l:List Z6)(i:Nat):extV (.tuple ⟨l⟩) i=l[i]?:=by simp[extV]
theorem nR2 (b:Zb):unV P .not (.bool b)=some (.bool (!b)):=rfl
theorem fdV_a (b:Zb)(n off:Nat)(cs:List Z6):fdV (some (b,n,off)) (.agg ⟨cs⟩)=bG b n cs off:=rfl
theorem sS2 (n:Nat)(cs:List Z6)(off:Nat):bG false n cs off=cs[off]?:=rfl
theorem sR2 (n:Nat)(cs:List Z6)(off:Nat):bG true n cs off=if off+n≤cs.length then some (.agg ⟨(cs.drop off).take n⟩) else none:=rfl
theorem dJ3 (n b o len c:Nat)(k:IntKind)(i:Int)(h0:0≤i)(hi:i<len):iaV (some (none,n)) (.slice (some ⟨b,o,none⟩) len c) (.int k i)=some (.pointer (some ⟨b,o+i.toNat*n,none⟩)):=by
 simp[iaV,h0,hi,addr_add]
theorem dK3 (n len b o:Nat)(k:IntKind)(i:Int)(h0:0≤i)(hi:i<len):iaV (some (some len,n)) (.pointer (some ⟨b,o,none⟩)) (.int k i)=some (.pointer (some ⟨b,o+i.toNat*n,none⟩)):=by
 simp[iaV,h0,hi,addr_add]
theorem ixV_s (s:ByteArray)(k:IntKind)(i:Int)(h0:0≤i)(hi:i<s.size):ixV (some none) (.string s) (.int k i)=some (.int .u8 (qL2 s i.toNat)):=by
 simp[ixV,h0,hi]
theorem ncV_p (a:Addr):ncV (.pointer (some a))=some (.pointer (some a)):=rfl
theorem ncV_f (g:FuncId)(f c:Array Z6):ncV (.func (.func g) f c)=some (.func (.func g) f c):=rfl
theorem miV_f (t:Zt)(v:Z6):miV (some false) t v=some (.iface t v):=rfl
theorem lnB_l (a:Z8 Addr)(n c:Nat):lnB (some false) (.slice a n c)=some (.int .i64 n):=rfl
theorem bdV_s (pl:List (Nat×Nat))(cs:List Z6)(c:List (Nat×Z6)):bdV (some (pl,cs)) c=(match cA pl cs c with|some d=>some (.agg ⟨d⟩)|none=>none):=rfl
theorem rG1 (pl:List (Nat×Nat))(cs:List Z6):cA pl cs []=some cs:=rfl
def rF1 (pl:List (Nat×Nat))(cs:List Z6)(v:Z6)(c:List (Nat×Z6)):Z8 (Nat×Nat)→Z8 (List Z6)
 | some (off,n)=>if v.cells.toList.length=n∧off+n≤cs.length then cA pl (setFrom cs off v.cells.toList) c else none
 | none=>none
theorem bC1 (pl:List (Nat×Nat))(cs:List Z6)(i:Nat)(v:Z6)(c:List (Nat×Z6)):cA pl cs ((i,v) :: c)=rF1 pl cs v c pl[i]?:=by
 first
 | (simp only[cA,rF1];done)
 | (simp only[cA,rF1];cases pl[i]?<;>rfl)
theorem jN3 (pl:List (Nat×Nat))(cs:List Z6)(v:Z6)(c:List (Nat×Z6))(off n:Nat)(d:v.cells.toList.length=n)(e:off+n≤cs.length) :
  rF1 pl cs v c (some (off,n))=cA pl (setFrom cs off v.cells.toList) c:=by
 simp only[rF1,if_pos (And.intro d e)]
theorem nA3 (s d:Zt)(v u:Z6)(c:cvP P s d v=some u):cvV P s d v h=some u:=by simp only[cvV,c]
section tvs
variable {t:Zt} {tm:VT} {h:jA}
theorem nZ2 (x:Zo):tp P (.move x) t tm=some (ev tm x):=rfl
theorem nW2 (x:Zo):tv P (.move x) t tm h=some (ev tm x):=rfl
theorem fQ1 (x:Zo):tp P (.assign x) t tm=some (ev tm x):=rfl
theorem fP1 (x:Zo):tv P (.assign x) t tm h=some (ev tm x):=rfl
theorem nY2 (c a b:Zo):tp P (.pick c a b) t tm=gB0 (ev tm c) (ev tm a) (ev tm b):=rfl
theorem nV2 (c a b:Zo):tv P (.pick c a b) t tm h=gB0 (ev tm c) (ev tm a) (ev tm b):=rfl
theorem zY1 (x:Zo)(i:Nat):tp P (.extract x i) t tm=extV (ev tm x) i:=rfl
theorem zW1 (x:Zo)(i:Nat):tv P (.extract x i) t tm h=extV (ev tm x) i:=rfl
theorem kN3 (op:BinOp)(ty:Zt)(x y:Zo)(yt:Zt):tp P (.binOp op ty x y yt) t tm=jW P op ty x y (ev tm x) (ev tm y):=rfl
theorem kI3 (op:BinOp)(ty:Zt)(x y:Zo)(yt:Zt):tv P (.binOp op ty x y yt) t tm h=jW P op ty x y (ev tm x) (ev tm y):=rfl
theorem tp_un (op:UnOp)(ty:Zt)(x:Zo):tp P (.unOp op ty x) t tm=unV P op (ev tm x):=rfl
theorem tv_un (op:UnOp)(ty:Zt)(x:Zo):tv P (.unOp op ty x) t tm h=unV P op (ev tm x):=rfl
theorem tp_fa (s:Zt)(x:Zo)(f:Nat):tp P (.fieldAddr s x f) t tm=faV (fld P s f) (ev tm x):=rfl
theorem tv_fa (s:Zt)(x:Zo)(f:Nat):tv P (.fieldAddr s x f) t tm h=faV (fld P s f) (ev tm x):=rfl
theorem tp_fd (s:Zt)(x:Zo)(f:Nat):tp P (.field s x f) t tm=fdV (fldT P s f) (ev tm x):=rfl
theorem tv_fd (s:Zt)(x:Zo)(f:Nat):tv P (.field s x f) t tm h=fdV (fldT P s f) (ev tm x):=rfl
theorem tp_ia (s:Zt)(x i:Zo):tp P (.indexAddr s x i) t tm=iaV (esz P s) (ev tm x) (ev tm i):=rfl
theorem tv_ia (s:Zt)(x i:Zo):tv P (.indexAddr s x i) t tm h=iaV (esz P s) (ev tm x) (ev tm i):=rfl
theorem tp_ix (s:Zt)(x i:Zo):tp P (.index s x i) t tm=ixV (ixT P s) (ev tm x) (ev tm i):=rfl
theorem tv_ix (s:Zt)(x i:Zo):tv P (.index s x i) t tm h=ixV (ixT P s) (ev tm x) (ev tm i):=rfl
theorem tp_nc (x:Zo):tp P (.nilCheck x) t tm=ncV (ev tm x):=rfl
theorem tv_nc (x:Zo):tv P (.nilCheck x) t tm h=ncV (ev tm x):=rfl
theorem tp_mf (g:FuncId)(f c:List Zo):tp P (.makeFunc (.func g) ⟨f⟩ ⟨c⟩) t tm=some (.func (.func g) ⟨f.map (ev tm)⟩ ⟨c.map (ev tm)⟩):=rfl
theorem tv_mf (g:FuncId)(f c:List Zo):tv P (.makeFunc (.func g) ⟨f⟩ ⟨c⟩) t tm h=some (.func (.func g) ⟨f.map (ev tm)⟩ ⟨c.map (ev tm)⟩):=rfl
theorem tp_mi (ty:Zt)(x:Zo):tp P (.makeInterface ty x) t tm=miV (isI P ty) ty (ev tm x):=rfl
theorem tv_mi (ty:Zt)(x:Zo):tv P (.makeInterface ty x) t tm h=miV (isI P ty) ty (ev tm x):=rfl
theorem zO2 (ty:Zt)(c:List (Nat×Zo)):tp P (.build ty ⟨c⟩) t tm=bdV (plc P ty) (c.map λx=>(x.1,ev tm x.2)):=rfl
theorem zN2 (ty:Zt)(c:List (Nat×Zo)):tv P (.build ty ⟨c⟩) t tm h=bdV (plc P ty) (c.map λx=>(x.1,ev tm x.2)):=rfl
theorem kM3 (x:Zo)(ty:Zt):tp P (.call ⟨.builtin .len,#[x],#[ty]⟩) t tm=lnB (lnT P ty) (ev tm x):=rfl
theorem kH3 (x:Zo)(ty:Zt):tv P (.call ⟨.builtin .len,#[x],#[ty]⟩) t tm h=lnB (lnT P ty) (ev tm x):=rfl
theorem kK3 (args:List Zo)(ts:Array Zt):tp P (.call ⟨.builtin .min,⟨args⟩,ts⟩) t tm=mnV P ts t (args.map (ev tm)):=rfl
theorem kF3 (args:List Zo)(ts:Array Zt):tv P (.call ⟨.builtin .min,⟨args⟩,ts⟩) t tm h=mnV P ts t (args.map (ev tm)):=rfl
theorem kL3 (args:List Zo)(ts:Array Zt):tp P (.call ⟨.builtin .max,⟨args⟩,ts⟩) t tm=mxV P ts t (args.map (ev tm)):=rfl
theorem kG3 (args:List Zo)(ts:Array Zt):tv P (.call ⟨.builtin .max,⟨args⟩,ts⟩) t tm h=mxV P ts t (args.map (ev tm)):=rfl
theorem nX2 (ty:Zt)(a:Zo):tv P (.load ty a) t tm h=qL P ty (ev tm a) h:=rfl
theorem zM2 (ty:Zt)(x:Zo)(lo hi mx:Z8 Zo):tv P (.slice ty x lo hi mx) t tm h=slV P ty (ev tm x) (lo.map (ev tm)) (hi.map (ev tm)) (mx.map (ev tm)) h:=rfl
theorem zX1 (s d:Zt)(x:Zo):tv P (.convert s d x) t tm h=cvV P s d (ev tm x) h:=rfl
theorem zT2 (e:Zt):te P (.alloc e) t tm h=alE (zro P e) e h:=rfl
theorem kS3 (e:Zt)(x:Zo):te P (.box e x) t tm h=bxE e (ev tm x) h:=rfl
theorem te_bs (ty:Zt)(len:Nat)(c:List (Nat×Zo)):te P (.buildSlice ty len ⟨c⟩) t tm h=bsE (slT P ty) len (c.map λx=>(x.1,ev tm x.2)) h:=rfl
theorem zR2 (ty:Zt)(a x:Zo):te P (.store ty a x) t tm h=stE (szT P ty) (ev tm a) (ev tm x) h:=rfl
theorem te_ms (ty:Zt)(l c:Zo):te P (.makeSlice ty l c) t tm h=msE (mkT P ty) (ev tm l) (ev tm c) h:=rfl
theorem fT1 (s x:Zo)(d c:Zt):te P (.call ⟨.builtin .append,#[s,x],#[d,c]⟩) t tm h=bI P d c (ev tm s) (ev tm x) h:=rfl
end tvs
section bin
variable {x y:Zo} {ty:Zt} {k:IntKind} {a b:Int}
theorem b_add:jW P .add ty x y (.int k a) (.int k b)=some (.int k (k.wrap (a+b))):=by
 simp[jW,eqGuard,binOp,Op.intArith,pvF,gS,flat]
theorem b_sub:jW P .sub ty x y (.int k a) (.int k b)=some (.int k (k.wrap (a-b))):=by
 simp[jW,eqGuard,binOp,Op.intArith,pvF,gS,flat]
theorem b_mul:jW P .mul ty x y (.int k a) (.int k b)=some (.int k (k.wrap (a*b))):=by
 simp[jW,eqGuard,binOp,Op.intArith,pvF,gS,flat]
theorem b_quo (hb:b≠0):jW P .quo ty x y (.int k a) (.int k b)=some (.int k (k.wrap (a.tdiv b))):=by
 simp[jW,eqGuard,binOp,Op.intDiv,hb,pvF,gS,flat]
theorem b_rem (hb:b≠0):jW P .rem ty x y (.int k a) (.int k b)=some (.int k (a.tmod b)):=by
 simp[jW,eqGuard,binOp,Op.intDiv,hb,pvF,gS,flat]
theorem b_lss:jW P .lss ty x y (.int k a) (.int k b)=some (.bool (decide (a<b))):=by
 simp[jW,eqGuard,binOp,Op.intCmp,pvF,gS,flat]
theorem b_leq:jW P .leq ty x y (.int k a) (.int k b)=some (.bool (decide (a≤b))):=by
 simp[jW,eqGuard,binOp,Op.intCmp,pvF,gS,flat]
theorem b_gtr:jW P .gtr ty x y (.int k a) (.int k b)=some (.bool (decide (b<a))):=by
 simp[jW,eqGuard,binOp,Op.intCmp,pvF,gS,flat]
theorem b_geq:jW P .geq ty x y (.int k a) (.int k b)=some (.bool (decide (b≤a))):=by
 simp[jW,eqGuard,binOp,Op.intCmp,pvF,gS,flat]
theorem b_eql:jW P .eql ty x y (.int k a) (.int k b)=some (.bool (decide (a=b))):=by
 simp[jW,eqGuard,binOp,Op.intCmp,pvF,gS,flat]
 rfl
theorem b_neq:jW P .neq ty x y (.int k a) (.int k b)=some (.bool (!decide (a=b))):=by
 simp[jW,eqGuard,binOp,Op.intCmp,pvF,gS,flat]
 rfl
theorem rO1 (hu:P.underlying ty=some .bool)(a b:Zb):pv P (Op.equal ty (.bool a) (.bool b))=some (a == b):=by
 have h:∀ d:Nat,pv P (Op.equalIn (d+1) ty (.bool a) (.bool b))=some (a == b):=λd=>by
  simp only[Op.equalIn,dM,qJ0 hu,Option.bind_some,gS]
 exact h 9999
def isBool (P:Z9)(t:Zt):Zb:=match P.underlying t with|some .bool=>true|_=>false
theorem nA1 (h:isBool P ty=true):P.underlying ty=some .bool:=by
 unfold isBool at h;split at h
 ·assumption
 ·cases h
theorem nJ3 {a b:Zb}(c:isBool P ty=true):jW P .neq ty x y (.bool a) (.bool b)=some (.bool (!(a == b))):=by
 simp[jW,eqGuard,binOp,pvF,lV2,rO1 (nA1 c),flat]
theorem nK3 {a b:ByteArray}:jW P .eql ty x y (.string a) (.string b)=some (.bool (a.data.toList == b.data.toList)):=by
 simp only[jW,cU0]
theorem nI3 {a b:ByteArray}:jW P .neq ty x y (.string a) (.string b)=some (.bool (!(a.data.toList == b.data.toList))):=by
 simp only[jW,cU0]
def tT2 (P:Z9)(t:Zt):Zb:=match P.underlying t with|some (.slice _)=>true|_=>false
def isPtr (P:Z9)(t:Zt):Zb:=match P.underlying t with|some (.pointer _)=>true|_=>false
theorem nL3 {u:Z8 Addr}{n c e f:Nat}(d:tT2 P ty=true):jW P .eql ty x y (.slice u n c) (.slice none e f)=some (.bool u.isNone):=by
 unfold tT2 at d
 simp only[jW]
 split at d
 ·rename_i h;rw[h]
 ·cases d
end bin
theorem wrap_i64 {n:Int}(d:-9223372036854775808≤n)(c:n≤9223372036854775807):IntKind.i64.wrap n=n:=IntWalk.i64_in _ Z0
end
section
variable {p:Par} {P:Z9} {t:Zt} {tm:VT} {h:jA}
theorem jP (b:Nat)(x:qW):(h.put b x).next=h.next:=rfl
theorem cR (b:Nat)(x:qW):(h.put b x).lo=h.lo:=rfl
theorem jB (x:qW):(h.add x).next=h.next+1:=by unfold jA.add;rw[jA.new_eq]
theorem jM (x:qW):(h.add x).lo=h.lo:=by unfold jA.add;rw[jA.new_eq]
theorem uV (b:Nat)(x:qW):(h.put b x).get b=some x:=by rw[jA.get_put,if_pos rfl]
theorem qC (b:Nat)(x:qW)(i:Nat)(hi:i≠b):(h.put b x).get i=h.get i:=by rw[jA.get_put,if_neg hi]
theorem pV1 (x:qW)(i:Nat):(h.add x).get i=if i=h.next then some x else h.get i:=by
 unfold jA.add;rw[jA.new_eq];exact Tr.get_put h.t h.next x i
theorem kM (x:qW)(i:Nat)(hi:i=h.next):(h.add x).get i=some x:=by rw[pV1,if_pos hi]
theorem qF (x:qW)(i:Nat)(hi:i≠h.next):(h.add x).get i=h.get i:=by rw[pV1,if_neg hi]
theorem qV {h a:jA}{i j:Nat}(e:h.get i=a.get j):cells h i=cells a j:=by unfold cells;rw[e]
theorem jX (b:Nat)(cs:List Z6)(e:Zt)(m:Zb):cells (h.put b (O cs e m)) b=some (cs,e,m):=by unfold cells;rw[uV];rfl
theorem jL (b:Nat)(x:qW)(i:Nat)(hi:i≠b):cells (h.put b x) i=cells h i:=qV (qC b x i hi)
theorem qM (cs:List Z6)(e:Zt)(m:Zb)(i:Nat)(hi:i=h.next):cells (h.add (O cs e m)) i=some (cs,e,m):=by unfold cells;rw[kM _ _ hi];rfl
theorem kG (x:qW)(i:Nat)(hi:i≠h.next):cells (h.add x) i=cells h i:=qV (qF x i hi)
theorem rB1 (n:Nat)(b:Zb):fone n (.bool b)=true:=rfl
theorem bO2 (n:Nat)(k:IntKind)(b:Int):fone n (.int k b)=true:=rfl
theorem bN2 (n:Nat)(b:ByteArray):fone n (.string b)=true:=rfl
theorem jH3 (n:Nat):fone n (.pointer none)=true:=rfl
theorem jG3 (n a b:Nat):fone n (.slice none a b)=true:=rfl
theorem jK3 (n:Nat):fone n (.map none)=true:=rfl
theorem jJ3 (n:Nat):fone n .nilFunc=true:=rfl
theorem jI3 (n:Nat):fone n .nilIface=true:=rfl
theorem rC1 (n:Nat):gD n []=true:=rfl
theorem q_scn (n:Nat):(scL n []=true)=True:=by simp[scL]
theorem q_scc (n:Nat)(v:Z6)(l:List Z6):(scL n (v :: l)=true)=(sc n v=true∧scL n l=true):=by simp[scL]
theorem q_scs (n b o l c:Nat):(sc n (.slice (some ⟨b,o,none⟩) l c)=true)=(b<n):=by simp[sc,scA]
theorem q_scb (n:Nat)(b:Zb):(sc n (.bool b)=true)=True:=by simp[sc]
theorem zU1 (k:IntKind)(b:Int):(Value.int k b).cells.toList=[.int k b]:=rfl
theorem pD0 (b:Zb):(Value.bool b).cells.toList=[.bool b]:=rfl
theorem zT1 (b:ByteArray):(Value.string b).cells.toList=[.string b]:=rfl
theorem zE2 (a:Z8 Addr):(Value.pointer a).cells.toList=[.pointer a]:=rfl
theorem zD2 (a:Z8 Addr)(n c:Nat):(Value.slice a n c).cells.toList=[.slice a n c]:=rfl
theorem zF2 (a:Z8 Nat):(Value.map a).cells.toList=[.map a]:=rfl
theorem zH2 (g:Fn)(a b:Array Z6):(Value.func g a b).cells.toList=[.func g a b]:=rfl
theorem fM1:(Value.nilFunc).cells.toList=[.nilFunc]:=rfl
theorem zG2 (t:Zt)(v:Z6):(Value.iface t v).cells.toList=[.iface t v]:=rfl
theorem fL1:(Value.nilIface).cells.toList=[.nilIface]:=rfl
theorem zI2 (l:List Z6):(Value.agg ⟨l⟩).cells.toList=l:=rfl
def ldC (k:Z8 (Zb×Nat))(off lo b:Nat)(c:Z8 (List Z6×Zt×Zb)):Z8 Z6:=match c,k with
 | some (cs,_,_),some (q,n)=>match bG q n cs off with
  | some v=>seen lo b v
  | none=>none
 | _,_=>none
theorem yD0 (b off:Nat):qL P t (.pointer (some ⟨b,off,none⟩)) h=ldC (knd P t) off h.lo b (cells h b):=by
 unfold qL ldC knd
 dsimp only
 cases cells h b with
 | none=>rfl
 | some c=>
  obtain ⟨cs,e,m⟩:=c
  dsimp only
  cases eP0 P t with
  | none=>rfl
  | some q=>
   cases q with
   | false=>rfl
   | true=>
    dsimp only
    cases szT P t with
    | none=>rfl
    | some n=>
     simp only[bG]
     by_cases a:off+n≤cs.length
     ·rw[jU0 cs off n a,if_pos a]
     ·rw[if_neg a]
      cases d:takeN cs off n with
      | some l=>exact absurd (gH0 d).1 a
      | none=>rfl
theorem tM2 (q:Zb)(n off lo b:Nat)(cs:List Z6)(e:Zt)(m:Zb)(a:lo≤b):ldC (some (q,n)) off lo b (some (cs,e,m))=bG q n cs off:=by
 unfold ldC
 dsimp only
 have:Nat.ble lo b=true:=by simpa using a
 cases bG q n cs off with
 | none=>rfl
 | some v=>simp only[seen,this]
theorem iQ1 (lo b:Nat)(v:Z6)(a:flat v=true):seen lo b v=some v:=by
 unfold seen
 rw[pX1,bO lo v a]
 cases Nat.ble lo b<;>rfl
theorem gW2 (q:Zb)(n off lo b:Nat)(cs:List Z6)(e:Zt)(m:Zb)(v:Z6)(c:bG q n cs off=some v)(a:flat v=true):ldC (some (q,n)) off lo b (some (cs,e,m))=some v:=by
 unfold ldC
 dsimp only
 rw[c]
 exact iQ1 lo b v a
def stC (n off:Nat)(v:Z6)(h:jA)(b:Nat)(c:Z8 (List Z6×Zt×Zb)):Z8 (Z6×jA):=match c with
 | some (cs,e,m)=>if v.cells.toList.length=n∧gD h.next v.cells.toList=true∧h.lo≤b∧off+n≤cs.length then some (undef,h.put b (O (setFrom cs off v.cells.toList) e m)) else none
 | none=>none
theorem kY3 (n b off:Nat)(v:Z6):stE (some n) (.pointer (some ⟨b,off,none⟩)) v h=stC n off v h b (cells h b):=rfl
theorem alE_s (cs:List Z6)(e:Zt):alE (some cs) e h=some (.pointer (some ⟨h.next,0,none⟩),h.add (O cs e false)):=rfl
theorem msE_s (e n by_:Nat)(a:List Z6)(k j:IntKind)(l c:Int)(b:0≤l)(f:l≤c)(d:c*by_+c<100000000000000) :
  msE (some (e,n,by_,a)) (.int k l) (.int j c) h=some (.slice (some ⟨h.next,0,none⟩) l.toNat c.toNat,h.add (O (List.replicate c.toNat a).flatten e false)):=by
 simp only[msE,if_pos (And.intro b (And.intro f d))]
end
def appT (P:Z9)(h a:Zt):Z8 (Zt×Nat×Nat):=match P.underlying h with
 | some (.slice e)=>match P.underlying a with
  | none=>none
  | some (.int _)=>none
  | some _=>match P.info? e with
   | some i=>match i.zero with
    | some z=>match Nat.beq z.cells.size i.size&&Nat.blt 0 i.size with
     | true=>some (e,i.size,i.bytes)
     | false=>none
    | none=>none
   | none=>none
 | _=>none
def slcT (P:Z9)(t:Zt):Z8 (Z8 (Zt×Nat)):=match P.underlying t with
 | some .string=>some none
 | some (.slice e)=>match szT P e with | some n=>some (some (e,n)) | none=>none
 | _=>none
def cnvT (P:Z9)(s d:Zt):Z8 (Nat×Z8 IntKind×Nat):=match P.underlying s with
 | some (.int _)=>match P.underlying d with
  | some (.int k)=>some (0,some k,0)
  | _=>none
 | some .string=>match P.underlying d with
  | some .string=>some (4,none,0)
  | some (.slice e)=>match P.underlying e with
   | some (.int .u8)=>match szT P e with
    | some 1=>some (2,none,e)
    | _=>none
   | _=>none
  | _=>none
 | some (.slice e)=>match P.underlying e with
  | some (.int .u8)=>match P.underlying d with
   | some .string=>some (1,none,0)
   | some (.slice e')=>match Nat.beq s d&&Nat.beq e e' with
    | true=>some (3,none,e)
    | false=>none
   | _=>none
  | _=>none
 | _=>none
mutual
def pl:Z6→Zb
 | .float _ _=>false
 | .slice (some _) _ c=>Nat.blt c UC
 | .func (.func _) ⟨f⟩ ⟨c⟩=>plL f&&plL c
 | .func _ _ _=>false
 | .iface _ v=>pl v
 | .agg ⟨cs⟩=>plL cs
 | .tuple ⟨vs⟩=>plL vs
 | _=>true
def plL:List Z6→Zb
 | []=>true
 | v :: vs=>pl v&&plL vs
end
def idΓ (s:Nat→Int)(t:Nat→ByteArray):Gam:=⟨λi=>i,λ_=>0,s,t⟩
mutual
theorem qC2 (s:Nat→Int)(t:Nat→ByteArray):∀ v,pl v=true→con (idΓ s t) v=v
 | .bool _,_=>rfl
 | .int _ _,_=>rfl
 | .float _ _,h=>by simp[pl] at h
 | .complex _ _ _,_=>rfl
 | .string _,_=>rfl
 | .pointer none,_=>rfl
 | .pointer (some _),_=>rfl
 | .slice none _ _,_=>rfl
 | .slice (some a) n c,h=>by
  have b:c<UC:=by simpa[pl] using h
  simp only[con,bJ,kX,if_pos b,idΓ]
 | .map none,_=>rfl
 | .map (some _),_=>rfl
 | .chan _,_=>rfl
 | .func (.func g) ⟨f⟩ ⟨c⟩,h=>by
  simp only[pl,Z5] at h
  simp only[con,yN0,yL0 s t f h.1,yL0 s t c h.2]
 | .func (.method _) _ _,h=>by simp[pl] at h
 | .func (.methodOf _ _) _ _,h=>by simp[pl] at h
 | .func (.via _ _ _ _) _ _,h=>by simp[pl] at h
 | .func (.yield _) _ _,h=>by simp[pl] at h
 | .nilFunc,_=>rfl
 | .iface t' v,h=>by
  simp only[pl] at h
  simp only[con,qC2 s t v h]
 | .nilIface,_=>rfl
 | .agg ⟨cs⟩,h=>by
  simp only[pl] at h
  simp only[con,yL0 s t cs h]
 | .tuple ⟨cs⟩,h=>by
  simp only[pl] at h
  simp only[con,yL0 s t cs h]
theorem yL0 (s:Nat→Int)(t:Nat→ByteArray):∀ l,plL l=true→conL (idΓ s t) l=l
 | [],_=>rfl
 | v :: vs,h=>by
  simp only[plL,Z5] at h
  simp only[conL,qC2 s t v h.1,yL0 s t vs h.2]
end
def fix (G:Nat)(v:Z6):Z6:=if one v=true∧pl v=true∧sc G v=true then v else .chan none
theorem mM2 {G:Nat}{v:Z6}(h:one v=true)(c:pl v=true)(a:sc G v=true):fix G v=v:=if_pos ⟨h,c,a⟩
theorem eB3 {G:Nat}{v:Z6}(h:sc G (fix G v)=true):fix G v=v∧one v=true∧pl v=true:=by
 unfold fix at h ⊢
 split
 ·rename_i a;exact ⟨rfl,a.1,a.2.1⟩
 ·rename_i a;rw[if_neg a] at h;simp[sc] at h
def tP0 (G:Nat)(o:Z8 Obj):Z8 qW:=match o with
 | some (.cells c e _)=>some ⟨.cells (c.map (fix G)) e,false⟩
 | _=>none
def oJ0 (G:Nat)(w:Zw):Nat→Tr
 | 0=>.nil
 | n+1=>match tP0 G w.heap[n]? with
  | some x=>(oJ0 G w n).put n x
  | none=>oJ0 G w n
theorem cV0 (G:Nat)(w:Zw):∀ (n i:Nat),(oJ0 G w n).get i=if i<n then tP0 G w.heap[i]? else none
 | 0,i=>by simp[oJ0,Tr.get_nil]
 | n+1,i=>by
  simp only[oJ0]
  split
  ·rename_i x c
   rw[Tr.get_put,cV0 G w n i]
   by_cases h:i=n
   ·subst h;simp[c]
   ·by_cases a:i<n
    ·simp[h,a,Nat.lt_succ_of_lt a]
    ·simp[h,a];omega
  ·rename_i c
   rw[cV0 G w n i]
   by_cases h:i=n
   ·subst h;simp[c]
   ·by_cases a:i<n
    ·simp[a,Nat.lt_succ_of_lt a]
    ·rw[if_neg a,if_neg Z0]
def dA1 (G:Nat)(w:Zw):jA:=⟨oJ0 G w w.heap.size,G,G⟩
theorem uY0 (G:Nat)(w:Zw)(i:Nat):(dA1 G w).get i=tP0 G w.heap[i]?:=by
 have:=cV0 G w w.heap.size i
 show (oJ0 G w w.heap.size).get i=_
 rw[this]
 split
 ·rfl
 ·rw[Array.getElem?_eq_none Z0];rfl
theorem cW0 {G:Nat}{w:Zw}{b:Nat}{c:Array Z6}{e:Zt}{a:Nat×Nat}(h:w.heap[b]?=some (.cells c e a)):cells (dA1 G w) b=some (c.toList.map (fix G),e,false):=by
 unfold cells
 rw[uY0,h]
 simp only[tP0]
 obtain ⟨l⟩:=c
 simp
theorem qX2 (P:Z9)(NG G:Nat)(s:Nat→Int)(t:Nat→ByteArray)(w:Zw)(m:NG≤w.heap.size)(o:w.heap.size≤G):qI ⟨P,NG,G,w.heap.size,s,t⟩ (idΓ s t) (dA1 G w) w:=by
 have a:∀ i x,(dA1 G w).get i=some x→i<w.heap.size∧∃ c e l,w.heap[i]?=some (.cells c e l)∧x=⟨.cells (c.map (fix G)) e,false⟩:=by
  intro i x h
  rw[uY0] at h
  unfold tP0 at h
  split at h
  ·rename_i c e l hi
   cases h
   exact ⟨(Array.getElem?_eq_some_iff.1 hi).1,c,e,l,hi,rfl⟩
  ·cases h
 refine ⟨λi x h=>?_,λi x h _ hi=>?_,λi j x y h _ _ _ hi _ _=>?_,λg _=>rfl,λi x _ h _=>(a i x h).1,rfl,Z3 _,⟨Nat.le_trans m o,m⟩,Z3 _,⟨rfl,rfl⟩,oY0.no λi x h=>by obtain ⟨_,c,e,l,_,rfl⟩:=a i x h;rfl⟩
 ·obtain ⟨f,c,e,l,z,rfl⟩:=a i x h
  refine ⟨Nat.lt_of_lt_of_le f o,?_⟩
  simp only[OR]
  refine ⟨λn=>absurd (Nat.lt_of_lt_of_le f o) (Nat.not_lt.2 n),λ_=>⟨trivial,f,λj v k r=>?_⟩⟩
  rw[Array.getElem?_map] at k
  cases d:c[j]? with
  | none=>rw[d] at k;cases k
  | some u=>
   rw[d] at k
   simp only[Option.map_some,Option.some.injEq] at k
   subst k
   obtain ⟨p,A,q⟩:=eB3 r
   rw[p]
   refine ⟨A,?_⟩
   rw[qC2 s t u q]
   have:w.heap[(idΓ s t).b i]?=some (.cells c e l):=z
   simp only[World.cell?,this]
   simpa using d
 ·have:=(a i x h).1
  have hi:G≤i:=hi
  omega
 ·have:=(a i x h).1
  have hi:G≤i:=hi
  omega
def fL0 (a:Z8 Addr):Prop:=a=a
def Sl (h:jA)(a:Z8 Addr)(cs:List Z6):Prop:=
 (cs=[]∧fL0 a)∨∃ b off full e m,a=some ⟨b,off,none⟩∧cells h b=some (full,e,m)∧off+cs.length≤full.length∧(full.drop off).take cs.length=cs∧(h.lo≤b∨gD h.lo cs=true)
theorem pL0:fL0 none:=rfl
theorem fK0 (b o:Nat):fL0 (some ⟨b,o,none⟩):=rfl
theorem Sl.nil (h:jA){a:Z8 Addr}(c:fL0 a):Sl h a []:=.inl ⟨rfl,c⟩
theorem Sl.row {h:jA}{b:Nat}{cs:List Z6}{e:Zt}{m:Zb}(c:cells h b=some (cs,e,m))(a:h.lo≤b):Sl h (some ⟨b,0,none⟩) cs:=
 .inr ⟨b,0,cs,e,m,rfl,c,by simp,by simp,.inl a⟩
theorem Sl.spot {h:jA}{a:Z8 Addr}{cs:List Z6}(c:Sl h a cs):fL0 a:=by
 rcases c with h0|⟨b,off,full,e,m,d,f,j,g,i⟩
 ·exact h0.2
 ·rw[d];exact fK0 b off
theorem fL0.map {a:Z8 Addr}(_:fL0 a)(i:Nat):fL0 (a.map (·.add i)):=rfl
theorem Sl.frame {h f:jA}{a:Z8 Addr}{cs:List Z6}(l:Sl h a cs)(d:f.lo=h.lo)(p:∀ b o,a=some ⟨b,o,none⟩→cs≠[]→cells f b=cells h b):Sl f a cs:=by
 rcases l with h0|⟨b,off,full,e,m,c,i,n,j,k⟩
 ·exact .inl h0
 ·by_cases g:cs=[]
  ·exact .inl ⟨g,by rw[c];exact fK0 b off⟩
  ·exact .inr ⟨b,off,full,e,m,c,by rw[p b off c g];exact i,n,j,by rw[d];exact k⟩
theorem Sl.sub {h:jA}{a:Z8 Addr}{cs:List Z6}(q:Sl h a cs)(i k:Nat):Sl h (a.map (·.add i)) ((cs.drop i).take k):=by
 rcases q with h0|⟨b,off,full,e,m,n,o,s,p,c⟩
 ·left;exact ⟨by simp[h0.1],h0.2.map i⟩
 ·by_cases j:(cs.drop i).take k=[]
  ·exact .inl ⟨j,by rw[n];exact (fK0 b off).map i⟩
  ·right
   have hi:i<cs.length:=by
    rcases Nat.lt_or_ge i cs.length with f|f
    ·exact f
    ·exfalso;apply j;rw[List.drop_eq_nil_of_le f];simp
   refine ⟨b,off+i,full,e,m,by rw[n,Option.map_some,addr_add],o,?_,?_,?_⟩
   ·simp only[List.length_take,List.length_drop];omega
   ·have r:cs.drop i=((full.drop off).take cs.length).drop i:=by rw[p]
    have l:cs.drop i=((full.drop off).drop i).take (cs.length-i):=by rw[r,List.drop_take]
    rw[List.drop_drop] at l
    have d:((cs.drop i).take k).length=min k (cs.length-i):=by simp
    rw[d,l,List.take_take]
   ·rcases c with c|c
    ·exact .inl c
    ·right
     simp only[gO,Z5,List.all_eq_true] at c ⊢
     exact ⟨λv g=>c.1 v (List.mem_of_mem_drop (List.mem_of_mem_take g)),qK λv g=>qJ c.2 v (List.mem_of_mem_drop (List.mem_of_mem_take g))⟩
theorem Sl.src {h:jA}{a:Z8 Addr}{cs:List Z6}(l:Sl h a cs){n m c len:Nat}(f:cs.length=m*n)(k:0<n):uZ n m (.slice a len c) h=some cs:=by
 unfold uZ
 dsimp only
 cases m with
 | zero=>
  have:cs=[]:=List.length_eq_zero_iff.1 (by rw[f];simp)
  rw[this]
 | succ m=>
  dsimp only
  rcases l with h0|⟨b,off,full,e,p,o,j,i,g,d⟩
  ·rw[h0.1] at f
   have:0<(m+1)*n:=Nat.mul_pos (Nat.succ_pos _) k
   simp at f;omega
  ·rw[o]
   simp only[j]
   rw[f] at i g
   simp only[jU0 full off ((m+1)*n) i,g]
   rcases d with d|d
   ·have:Nat.ble h.lo b=true:=by simpa using d
    rw[this]
   ·rw[d]
    cases Nat.ble h.lo b<;>rfl
def blk (a:Z8 Addr)(i:Nat):Prop:=∃ o s,a=some ⟨i,o,s⟩
structure jC (h h':jA)(S:Nat→Prop):Prop where
 next:h.next≤h'.next
 lo:h'.lo=h.lo
 get:∀ i,i<h.next→¬ S i→h'.get i=h.get i
theorem jC.refl (h:jA)(S:Nat→Prop):jC h h S:=⟨Z3 _,rfl,λ_ _ _=>rfl⟩
theorem jC.trans {h a b:jA}{S T:Nat→Prop}(g:jC h a S)(g':jC a b T)(d:∀ i,i<h.next→T i→S i):jC h b S:=
 ⟨Nat.le_trans g.next g'.next,g'.lo.trans g.lo,λi hi c=>(g'.get i (Nat.lt_of_lt_of_le hi g.next) (λe=>c (d i hi e))).trans (g.get i hi c)⟩
theorem jC.mono {h a:jA}{S T:Nat→Prop}(g:jC h a S)(c:∀ i,i<h.next→S i→T i):jC h a T:=⟨g.next,g.lo,λi hi b=>g.get i hi λh=>b (c i hi h)⟩
theorem jC.cells {h a:jA}{S:Nat→Prop}(g:jC h a S){i:Nat}(hi:i<h.next)(c:¬ S i):cells a i=cells h i:=qV (g.get i hi c)
theorem jC.add (h:jA)(x:qW)(S:Nat→Prop):jC h (h.add x) S:=⟨by rw[jB];omega,jM x,λi hi _=>qF x i Z0⟩
theorem jC.put (h:jA)(b:Nat)(x:qW){S:Nat→Prop}(a:b<h.next→S b):jC h (h.put b x) S:=⟨Z3 _,rfl,λi hi c=>qC b x i (λe=>c (by subst e;exact a hi))⟩
theorem wA0 {P:Z9}{d f e n by_:Nat}(h:appT P d f=some (e,n,by_)):∃ a i z,P.underlying d=some (.slice e)∧P.underlying f=some a∧(∀ k,a≠.int k)∧P.info? e=some i∧i.zero=some z∧z.cells.size=n∧i.size=n∧i.bytes=by_∧0<n:=by
 unfold appT at h
 split at h
 ·rename_i m j
  split at h
  ·cases h
  ·cases h
  ·rename_i a b g
   split at h
   ·rename_i i hi
    split at h
    ·rename_i z l
     split at h
     ·rename_i c
      cases h
      simp only[Z5,Nat.beq_eq,Nat.blt_eq] at c
      exact ⟨a,i,z,j,g,λk e=>b k e,hi,l,c.1,rfl,rfl,c.2⟩
     ·cases h
    ·cases h
   ·cases h
 ·cases h
def wW1 (e : Zt) (i : TypeInfo) (base : Z8 Addr) (n cap : Nat) (x : Z6) (m : Nat) (h : jA) : Z8 (Z6 × jA) :=
   let size:=i.size
   match uZ size m x h with
   | none=>none
   | some new=>
    match Nat.blt cap UC with
    | true=>match Nat.ble (n+m) cap with
     | true=>match base with
      | none=>match new with | []=>some (.slice none (n+m) cap,h) | _=>none
      | some ⟨b,off,sp⟩=>match m with
       | 0=>some (.slice base (n+0) cap,h)
       | m+1=>match sp with
       | none=>match cells h b with
        | some (cs,e',mo)=>match Nat.ble h.lo b,setN cs (off+n*size) new with
         | true,some cs'=>some (.slice base (n+(m+1)) cap,h.put b ⟨.cells ⟨cs'⟩ e',mo⟩)
         | _,_=>none
        | none=>none
       | some _=>none
     | false=>match uZ size n (.slice base n cap) h,(Nat.ble ((n+m)*i.bytes) 140737488355328&&Nat.blt (n+m) U),i.zero with
      | some old,true,some z=>match Nat.beq z.cells.size size&&Nat.blt 0 size with
       | true=>match mkRow h e (old++new) true with
        | some (b,h')=>some (.slice (some ⟨b,0,none⟩) (n+m) UC,h')
        | none=>none
       | false=>none
      | _,_,_=>none
    | false=>match base with
     | some ⟨b,0,none⟩=>match cells h b with
      | some (cs,e',true)=>match Nat.beq e' e&&Nat.beq cap UC&&Nat.ble h.lo b&&Nat.beq cs.length (n*size)&&(Nat.ble ((n+m)*i.bytes) 140737488355328&&Nat.blt (n+m) U),i.zero with
       | true,some z=>match Nat.beq z.cells.size size&&Nat.blt 0 size&&gD h.next new with
        | true=>some (.slice (some ⟨h.next,0,none⟩) (n+m) UC,{ t:=(h.t.put h.next ⟨.cells ⟨cs++new⟩ e,true⟩).put b (qO h.next e cs),next:=h.next+1,lo:=h.lo })
        | false=>none
       | _,_=>none
      | _=>none
     | _=>none
theorem yK0 {P:Z9}{d f e:Zt}{c:TypeDesc}{i:TypeInfo}(j:P.underlying d=some (.slice e))(a:P.underlying f=some c)(b:∀ k,c≠.int k)(hi:P.info? e=some i){x:Z6}{m:Nat}(g:lenV x=some m)(base:Z8 Addr)(n cap:Nat)(h:jA) :
  bI P d f (.slice base n cap) x h=wW1 e i base n cap x m h:=by
 unfold bI
 rw[j,g,a]
 cases c<;>first|exact absurd rfl (b _)|(dsimp only;rw[hi];rfl)
section
variable {P:Z9} {h:jA} {s d t:Zt}
theorem nD3 {k:IntKind}(a:cnvT P s d=some (0,some k,0)):∃ j,P.underlying s=some (.int j)∧P.underlying d=some (.int k):=by
 unfold cnvT at a
 repeat' (first|(split at a)|(cases a;done))
 all_goals first|(cases a;done)|skip
 all_goals (cases a;exact ⟨_,by assumption,by assumption⟩)
theorem nC3 {k:Z8 IntKind}{q:Nat}(a:cnvT P s d=some (1,k,q)):∃ e,P.underlying s=some (.slice e)∧P.underlying e=some (.int .u8)∧P.underlying d=some .string:=by
 unfold cnvT at a
 repeat' (first|(split at a)|(cases a;done))
 all_goals first|(cases a;done)|skip
 all_goals exact ⟨_,by assumption,by assumption,by assumption⟩
theorem mY2 {k j:IntKind}{n:Int}(c:cnvT P s d=some (0,some k,0)):cvV P s d (.int j n) h=some (.int k (k.wrap n)):=by
 obtain ⟨i,a,b⟩:=nD3 c
 refine nA3 _ _ _ _ ?_
 simp only[cvP,flat,pvF,convert,dM,qJ0 a,qJ0 b,Option.bind_some,Conv.intToInt,gS]
def bv (l:List Int):List Z6:=l.map (Value.int .u8)
def txt (l:List Int):ByteArray:=⟨⟨l.map λn=>UInt8.ofNat n.toNat⟩⟩
theorem bytesOf_bv:∀ l:List Int,bytesOf (bv l)=some (l.map λn=>UInt8.ofNat n.toNat)
 | []=>rfl
 | n :: l=>by
  have:=bytesOf_bv l
  simp only[bv,List.map_cons] at this ⊢
  simp only[bytesOf,this]
theorem nF3 (l:List Int):(bv l).length=l.length:=by simp[bv]
theorem wA3 {q:Nat}{k:Z8 IntKind}(B:cnvT P s d=some (1,k,q)){a:Z8 Addr}{n c:Nat}{l:List Int}(w:Sl h a (bv l))(j:l.length=n):cvV P s d (.slice a n c) h=some (.string (txt l)):=by
 obtain ⟨e,f,i,g⟩:=nC3 B
 cases a with
 | none=>
  have r:l=[]:=by
   rcases w with h0|⟨b,off,full,e,m,p,_⟩
   ·simpa[bv] using h0.1
   ·cases p
  subst r
  have A:flat (.slice none n c)=true:=rfl
  refine nA3 _ _ _ _ ?_
  simp only[cvP,A,pvF,convert,dM,qJ0 f,qJ0 i,qJ0 g,Option.bind_some,Conv.bytesToString,gS]
  rfl
 | some a=>
  have z:cvP P s d (.slice (some a) n c)=none:=rfl
  simp only[cvV,z]
  rcases w with h0|⟨b,off,full,D,m,p,C,v,u,_⟩
  ·have r:l=[]:=by simpa[bv] using h0.1
   subst r
   simp only[List.length_nil] at j
   subst j
   obtain ⟨b,off,sp⟩:=a
   simp only[btS,f,g,i]
   rfl
  ·cases p
   rw[nF3] at v u
   subst j
   cases l with
   | nil=>simp only[btS,f,g,i,List.length_nil];rfl
   | cons x l=>
    have o:=jU0 full off (x :: l).length v
    rw[u] at o
    have y:=bytesOf_bv (x :: l)
    simp only[List.length_cons] at o
    simp only[btS,f,g,i,C,List.length_cons,o,y]
    rfl
def cvE (P : Z9) (s d : Zt) (v : Z6) (h : jA) : Z8 (Z6 × jA) := match P.underlying s, P.underlying d, v with
  | some .string,some (.slice e),.string b=>match P.underlying e,szT P e with
   | some (.int .u8),some 1=>match Nat.blt b.size U with
    | true=>match mkRow h e (b.data.toList.map λx=>.int .u8 x.toNat) true with
     | some (g,h')=>some (.slice (some ⟨g,0,none⟩) b.size UC,h')
     | none=>none
    | false=>none
   | _,_=>none
  | some (.slice _),some (.slice e),.slice (some ⟨g,off,spot⟩) n c=>iG0 P s d e g (.slice (some ⟨g,off,spot⟩) n c) h
  | _,_,_=>none
theorem te_cv (x:Zo)(tm:VT):te P (.convert s d x) t tm h=cvE P s d (ev tm x) h:=rfl
theorem mP1 (ts:Array Zt)(t:Zt)(k j:IntKind)(a b:Int):mnV P ts t [.int k a,.int j b]=some (.int k (min a b)):=by
 have:(if b<a then b else a)=min a b:=Z0
 simp only[mnV,qB,flat,Builtin.min_,List.foldlM,Builtin.min2,pvF]
 show pv P (pure (Value.int k (if b<a then b else a)))=_
 rw[this];rfl
def loB (lo:Z8 Z6)(a:Nat):Z8 Nat:=match lo with
 | none=>some 0
 | some (.int _ (.ofNat l))=>(match Nat.ble l a with | true=>some l | false=>none)
 | some _=>none
def loR (m:Z8 Nat)(a:Nat):Z8 Nat→Z8 (Nat×Nat×Z8 Nat)
 | none=>none
 | some l=>some (l,a,m)
theorem qR2 (len a:Nat)(lo:Z8 Z6):bounds len a none none lo=loR none len (loB lo len):=by
 unfold bounds loR loB;rfl
theorem qQ2 (len a c:Nat)(k:IntKind)(lo:Z8 Z6)(h:c≤a):bounds len a none (some (.int k (.ofNat c))) lo=loR none c (loB lo c):=by
 have:Nat.ble c a=true:=by simpa using h
 unfold bounds;simp only[this];rfl
theorem qP2 (len a b c:Nat)(k j:IntKind)(lo:Z8 Z6)(h:b≤c)(f:c≤a):bounds len a (some (.int j (.ofNat c))) (some (.int k (.ofNat b))) lo=loR (some c) b (loB lo b):=by
 have e:Nat.ble b c=true:=by simpa using h
 have g:Nat.ble c a=true:=by simpa using f
 unfold bounds;simp only[e,g];rfl
theorem gS0 {len:Nat}{kl kh km:IntKind}{lo hi mx:Z8 Int}(i:∀ x,mx=some x→0≤x∧x≤len)(g:∀ x,hi=some x→0≤x∧x≤mx.getD len)(k:hi=none→mx=none)(l:∀ x,lo=some x→0≤x∧x≤hi.getD len) :
  bounds len len (mx.map (Value.int km)) (hi.map (Value.int kh)) (lo.map (Value.int kl))=some ((lo.getD 0).toNat,(hi.getD len).toNat,mx.map Int.toNat):=by
 have a:∀ b:Nat,(hi.getD len).toNat=b→loB (lo.map (Value.int kl)) b=some (lo.getD 0).toNat:=λb m=>by
  cases lo with
  | none=>rfl
  | some x=>
   obtain ⟨f,c⟩:=l x rfl
   cases x with
   | negSucc n=>omega
   | ofNat n=>
    have:Nat.ble n b=true:=by
     rw[← m];simp only[Nat.ble_eq]
     have:(n:Int)≤hi.getD len:=c
     omega
    simp only[loB,Option.map_some,this,Option.getD_some]
    rfl
 cases mx with
 | none=>
  cases hi with
  | none=>
   have:=a len (by simp)
   simp only[Option.map_none,Option.getD_none,Z4] at this ⊢
   rw[qR2,this];rfl
  | some x=>
   obtain ⟨f,c⟩:=g x rfl
   cases x with
   | negSucc n=>omega
   | ofNat n=>
    have e:n≤len:=by
     have:(n:Int)≤(len:Int):=c
     omega
    have:=a n (by simp)
    simp only[Option.map_none,Option.map_some,Option.getD_some] at this ⊢
    rw[qQ2 _ _ _ _ _ e,this];rfl
 | some y=>
  obtain ⟨q1,q2⟩:=i y rfl
  cases hi with
  | none=>cases k rfl
  | some x=>
   obtain ⟨f,c⟩:=g x rfl
   cases y with
   | negSucc n=>omega
   | ofNat j=>
    cases x with
    | negSucc n=>omega
    | ofNat n=>
     have e:j≤len:=by
      have:(j:Int)≤(len:Int):=q2
      omega
     have o:n≤j:=by
      have:(n:Int)≤(j:Int):=c
      omega
     have:=a n (by simp)
     simp only[Option.map_some,Option.getD_some] at this ⊢
     rw[qP2 _ _ _ _ _ _ _ o e,this];rfl
end
end
end Go.Ev
namespace Go.Ev
open Go Go.RowKit
attribute [push_cast] tG0 qE3 qD3 qC3 qB3 qA3 bW2 mZ1 put_s put_n rP1 bG1 iC3 bT2 jY3 rK1 sP2 sQ2 fX3 nR2 fdV_a sS2 sR2 dJ3 dK3 ncV_p ncV_f miV_f lnB_l bdV_s rG1 bC1 jN3 nZ2 nW2 fQ1 fP1 nY2 nV2 zY1 zW1 kN3 kI3 tp_un tv_un tp_fa tv_fa tp_fd tv_fd tp_ia tv_ia tp_ix tv_ix tp_nc tv_nc tp_mf tv_mf tp_mi tv_mi zO2 zN2 kM3 kH3 kK3 kF3 kL3 kG3 nX2 zM2 zX1 zT2 kS3 te_bs zR2 te_ms fT1 b_add b_sub b_mul b_quo b_rem b_lss b_leq b_gtr b_geq b_eql b_neq nJ3 nL3 wrap_i64 jP cR jB jM jX jL qM kG rB1 bO2 bN2 jH3 jG3 jK3 jJ3 jI3 rC1 zU1 pD0 zT1 zE2 zD2 zF2 zH2 fM1 zG2 fL1 zI2 yD0 tM2 kY3 alE_s msE_s setFrom List.take_zero List.take_succ_cons List.drop_zero List.drop_succ_cons List.take_nil List.drop_nil List.nil_append List.cons_append List.append_nil List.length_cons List.length_nil List.getElem?_cons_zero List.getElem?_cons_succ List.map_cons List.map_nil Option.map_some Option.map_none Nat.zero_add Nat.add_zero if_true if_false decide_true decide_false Bool.not_true Bool.not_false true_and and_true List.size_toArray or_true true_or List.mem_cons List.mem_nil_iff List.not_mem_nil or_false false_or Nat.zero_mul Nat.mul_one Nat.mul_zero Nat.lt_irrefl Option.isNone_some Option.isNone_none Nat.succ_ne_zero eq_self ite_true ite_false Int.natCast_zero Nat.sub_zero q_scn q_scc q_scs q_scb and_self
end Go.Ev
namespace Go.Ev
open Go Go.RowKit
noncomputable section
theorem uR0 {d:Nat}{ds:List Nat}{h:jA}{m:Zb}(c:h.get d=some ⟨.deferred (some []),m⟩)(a:h.lo≤d):gQ (d :: ds) h=gQ ds (h.put d ⟨.deferred none,false⟩):=by
 have:Nat.ble h.lo d=true:=by simpa using a
 simp only[gQ,c,this]
theorem qR {h:jA}{l:Nat}{r:Loop}{m:Zb}(c:h.get l=some ⟨.loop r,m⟩)(a:h.lo≤l):qS h l=some r:=by
 have:Nat.ble h.lo l=true:=by simpa using a
 unfold qS
 rw[c]
 dsimp only
 rw[this]
end
end Go.Ev
namespace Go.Ev
open Go Go.RowKit
noncomputable section
abbrev Tx (l:List Zu):ByteArray:=⟨⟨l⟩⟩
theorem uK2 (l:List Zu):(Tx l).size=l.length:=rfl
abbrev bt (l:List Zu)(i:Nat):Int:=((l.getD i 0).toNat:Int)
section
variable {P:Z9} {h:jA} {t:Zt}
theorem ixV_t (l:List Zu)(k:IntKind)(i:Int)(h0:0≤i)(hi:i<l.length):ixV (some none) (.string (Tx l)) (.int k i)=some (.int .u8 (bt l i.toNat)):=
 ixV_s (Tx l) k i h0 hi
theorem lnB_t (l:List Zu):lnB (some true) (.string (Tx l))=some (.int .i64 l.length):=rfl
def sK0 (P:Z9)(t:Zt):Zb:=match P.underlying t with|some .string=>true|_=>false
theorem uK1 (a:sK0 P t=true):P.underlying t=some .string:=by
 unfold sK0 at a;split at a
 ·assumption
 ·cases a
def itO (s:ByteArray)(p:Nat):qW:=⟨.stringIter s p,false⟩
def rgE (q:Zb)(v:Z6)(h:jA):Z8 (Z6×jA):=match q,v with
 | true,.string s=>some (.pointer (some ⟨h.next,0,none⟩),h.add (itO s 0))
 | _,_=>none
theorem qA1 {ty:Zt}{x:Zo}{tm:VT}(a:sK0 P ty=true):te P (.range ty x) t tm h=rgE true (ev tm x) h:=by
 have c:=uK1 a
 have e:te P (.range ty x) t tm h=wY0 P (bare (.range ty x) t) tm h:=rfl
 rw[e]
 simp only[bare,wY0,c,jA.add]
 cases ev tm x<;>rfl
theorem rgE_s (s:ByteArray):rgE true (.string s) h=some (.pointer (some ⟨h.next,0,none⟩),h.add (itO s 0)):=rfl
def nxE (v : Z6) (h : jA) : Z8 (Z6 × jA) := match v with
  | .pointer (some ⟨b,0,none⟩)=>match h.get b,Nat.ble h.lo b with
   | some ⟨.stringIter s pos,false⟩,true=>match Nat.blt pos s.size with
    | true=>some (.tuple #[.bool true,goInt pos,.int .i32 (Utf8.decode s pos).1],h.put b ⟨.stringIter s (pos+(Utf8.decode s pos).2),false⟩)
    | false=>some (.tuple #[.bool false],h)
   | _,_=>none
  | _=>none
theorem oE2 {x:Zo}{tm:VT}:te P (.next x true) t tm h=nxE (ev tm x) h:=rfl
theorem gS3 (b pos:Nat)(l:List Zu)(e:h.get b=some (itO (Tx l) pos))(a:h.lo≤b)(d:pos<l.length) :
  nxE (.pointer (some ⟨b,0,none⟩)) h=some (.tuple #[.bool true,.int .i64 pos,.int .i32 (Utf8.decode (Tx l) pos).1],h.put b (itO (Tx l) (pos+(Utf8.decode (Tx l) pos).2))):=by
 have c:Nat.ble h.lo b=true:=by simpa using a
 have f:Nat.blt pos (Tx l).size=true:=by simpa[uK2] using d
 simp only[nxE,e,itO,c,f,goInt]
theorem gT3 (b pos:Nat)(l:List Zu)(e:h.get b=some (itO (Tx l) pos))(a:h.lo≤b)(d:l.length≤pos) :
  nxE (.pointer (some ⟨b,0,none⟩)) h=some (.tuple #[.bool false],h):=by
 have c:Nat.ble h.lo b=true:=by simpa using a
 have f:Nat.blt pos (Tx l).size=false:=by rw[Bool.eq_false_iff];simpa[uK2] using d
 simp only[nxE,e,itO,c,f]
end
attribute [push_cast] ixV_t lnB_t qA1 rgE_s oE2 gS3 gT3 kM uV qF qC kG mY2 te_cv
theorem W.loopI {p:Par}(jV:wB0 p){ro:Z8 Nat}{b:IR}{R:jK→S→Prop}(I:Nat→S→Prop)(h:∀ n d,I n d→vc p ro b d (fG0 (λc=>∃ m,m<n∧I m c) R)) :
  ∀ n s,I n s→W p ro (.loop b) s R:=by
 intro n
 induction n using Nat.strongRecOn with
 | ind n f=>
  intro s g
  refine W.round jV (gR _ _ _ _ ?_ (h n s g))
  intro e c a
  cases e with
  | normal=>obtain ⟨m,k,j⟩:=a;exact f m k c j
  | exit i=>exact a
  | goto l=>exact a
  | ret=>exact a
theorem gX0 {p:Par}(jV:wB0 p){ro:Z8 Nat}{b c:Code}{a:IR}{s:S}{R:jK→S→Prop}(d:comp p.P c=a)(h:vc p ro a s (bO0 p ro b R)):WPin p ro b c s R:=
 WPin.of (qO0 jV c s _ (by rw[d];exact h))
theorem yU2 {p:Par}{ro:Z8 Nat}{b:Code}{R:jK→S→Prop}{s:S}:bO0 p ro b R .normal s=R .normal s:=rfl
theorem yT2 {p:Par}{ro:Z8 Nat}{b:Code}{R:jK→S→Prop}{s:S}:bO0 p ro b R .ret s=R .ret s:=rfl
theorem yV2 {p:Par}{ro:Z8 Nat}{b:Code}{R:jK→S→Prop}{s:S}{i:Nat}:bO0 p ro b R (.exit i) s=R (.exit i) s:=rfl
attribute [push_cast] yU2 yT2 yV2
def gT (v:Z6)(w:Zb)(A:Z8 Z6)(B:Z8 (Z6×Z6))(h:jA)(K:Z6→jA→Prop):Prop:=gV v w (oT A B h K) (K undef h)
def gE (v:Z6)(w:Zb)(A:Z8 (Z6×jA))(h:jA)(K:Z6→jA→Prop):Prop:=gV v w (oE A K) (K undef h)
def gP (v:Z6)(w:Zb)(A:Z8 Z6)(h:jA)(K:Z6→jA→Prop):Prop:=gV v w (oP A h K) (K undef h)
def gC (p:Par)(v:Z6)(w:Zb)(f:Z6)(args:List Z6)(h:jA)(K:Z6→jA→Prop):Prop:=gV v w (dO0 p f args h K) (K undef h)
@[congr] theorem gT_congr {v a:Z6} {w:Zb} {A:Z8 Z6} {B:Z8 (Z6×Z6)} {h:jA} {K:Z6→jA→Prop} (e:v=a):gT v w A B h K=gT a w A B h K:=by rw[e]
@[congr] theorem gE_congr {v a:Z6} {w:Zb} {A:Z8 (Z6×jA)} {h:jA} {K:Z6→jA→Prop} (e:v=a):gE v w A h K=gE a w A h K:=by rw[e]
@[congr] theorem gP_congr {v a:Z6} {w:Zb} {A:Z8 Z6} {h:jA} {K:Z6→jA→Prop} (e:v=a):gP v w A h K=gP a w A h K:=by rw[e]
@[congr] theorem gC_congr {p:Par} {v a:Z6} {w:Zb} {f:Z6} {args:List Z6} {h:jA} {K:Z6→jA→Prop} (e:v=a):gC p v w f args h K=gC p a w f args h K:=by rw[e]
section
variable {p:Par} {w:Zb} {A:Z8 Z6} {B:Z8 (Z6×Z6)} {E:Z8 (Z6×jA)} {h:jA} {K:Z6→jA→Prop} {f:Z6} {args:List Z6}
theorem gP_tt:gP (.bool true) true A h K=oP A h K:=bF2
theorem gP_ff:gP (.bool false) false A h K=oP A h K:=bI2
theorem gP_tf:gP (.bool true) false A h K=K undef h:=bG2
theorem gP_ft:gP (.bool false) true A h K=K undef h:=bH2
theorem gP_u:gP undef w A h K=K undef h:=propext Iff.rfl
end
def vop2 (p:Par)(g:Z8 (Nat×Zb))(c:Cl)(o:Op)(t:Zt)(tm:VT)(h:jA)(K:Z6→jA→Prop):Prop:=
 match g with
 | none=>vop p c o t tm h K
 | some (d,w)=>match c with
  | .take=>gT (tm.get d) w (tv p.P o t tm h) (tw p.P o tm h) h K
  | .eff=>gE (tm.get d) w (te p.P o t tm h) h K
  | .call=>match o with
   | .call ⟨.value f,args,_⟩=>gC p (tm.get d) w (ev tm f) (args.toList.map (ev tm)) h K
   | _=>gV (tm.get d) w False (K undef h)
def nP2 (p:Par)(l:List It):VT→jA→(VT→jA→Prop)→Prop:=
 List.rec (motive:=λ_=>VT→jA→(VT→jA→Prop)→Prop) (λtm h K=>K tm h)
  (λx _ a tm h K=>vop2 p x.g x.c x.o x.t tm h (λv b=>a (put tm x.d v) b K)) l
theorem jW1 (p:Par)(K:VT→jA→Prop):∀ (l:List It) (tm:VT) (h:jA),nP2 p l tm h K=vops p l tm h K
 | [],tm,h=>rfl
 | x :: l,tm,h=>by
  show vop2 p x.g x.c x.o x.t tm h (λv e=>nP2 p l (put tm x.d v) e K)=_
  simp only[jW1 p K l,vops]
  obtain ⟨d,g,c,o,t⟩:=x
  cases g with
  | none=>rfl
  | some y=>
   obtain ⟨j,w⟩:=y
   cases c with
   | take=>rfl
   | eff=>rfl
   | call=>
    cases o with
    | call c=>obtain ⟨a,args,b⟩:=c;cases a<;>rfl
    | _=>rfl
def isSl (o:Op):Zb:=match o with | .slice _ _ _ _ _=>true|_=>false
def cC (p:Par):PT→HL→VT→jA→(VT→jA→Prop)→Prop
 | .fin,_,tm,h,K=>K tm h
 | .no,_,_,_,_=>True
 | .bad,_,_,_,_=>False
 | .take i rd x k,L,tm,h,K=>match rd with
  | false=>match x.g with
   | none=>oP (tp p.P x.o x.t tm) h (λv _=>cC p k L (put tm x.d v) h K)
   | some (d,w)=>gP (tm.get d) w (tp p.P x.o x.t tm) h (λv _=>cC p k L (put tm x.d v) h K)
  | true=>vgd tm x.g (match isSl x.o with
   | false=>oP (tv p.P x.o x.t tm h) h (λv _=>cC p k ((i,λa=>tv p.P x.o x.t tm a,v) :: L) (put tm x.d v) h K)
   | true => oR (tv p.P x.o x.t tm h) (tw p.P x.o tm h) (fun v => cC p k ((i, fun a => tv p.P x.o x.t tm a, v) :: L) (put tm x.d v) h K)
     (λv=>cC p k ((i,λa=>(tw p.P x.o tm a).map (·.1),v) :: L) (put tm x.d v) h K) (λv=>cC p k ((i,λa=>(tw p.P x.o tm a).map (·.2),v) :: L) (put tm x.d v) h K))
   (cC p k L (put tm x.d undef) h K)
 | .eff _ x bind k alt,L,tm,h,K=>match alt with
  | .no=>vgd tm x.g (vop p x.c x.o x.t tm h λv a=>bZ (dT0 bind a L) (cC p k (cP0 bind L) (put tm x.d v) a K)) (cC p k (cP0 bind L) (put tm x.d undef) h K)
  | alt=>vgd tm x.g (vop p x.c x.o x.t tm h λv a=>bZ (dT0 bind a L) (cC p k (cP0 bind L) (put tm x.d v) a K)) (cC p k (cP0 bind L) (put tm x.d undef) h K)∧cC p alt L tm h K
theorem zD0 (p:Par)(K:VT→jA→Prop):∀ (t:PT) (L:HL) (tm:VT) (h:jA),cC p t L tm h K=bB p t L tm h K
 | .fin,L,tm,h=>rfl
 | .no,L,tm,h=>rfl
 | .bad,L,tm,h=>rfl
 | .take i rd x k,L,tm,h=>by
  simp only[cC,bB,zD0 p K k]
  cases rd with
  | false=>
   dsimp only
   cases x.g with
   | none=>rfl
   | some y=>obtain ⟨d,w⟩:=y;rfl
  | true=>
   dsimp only
   congr 1
   cases a:isSl x.o with
   | true=>rfl
   | false=>
    have:tw p.P x.o tm h=none:=by
     unfold tw
     split
     ·rename_i c;rw[c] at a;cases a
     ·rfl
    simp only[this,oP]
 | .eff i x bind k alt,L,tm,h=>by
  simp only[bB,← zD0 p K k,← zD0 p K alt]
  cases alt with
  | no=>simp only[cC,bZ,and_true]
  | _=>simp only[cC,bZ]
def vc2 (p:Par)(ro:Z8 Nat):IR→S→(jK→S→Prop)→Prop
 | .bad,_,_=>False
 | .skip,s,R=>R .normal s
 | .ret,s,R=>R .ret s
 | .exit i,s,R=>R (.exit i) s
 | .goto l,s,R=>R (.goto l) s
 | .label _,s,R=>R .normal s
 | .ops l,s,R=>nP2 p l s.tm s.h λtm h=>R .normal ⟨tm,s.df,h⟩
 | .plan t,s,R=>cC p t [] s.tm s.h λtm h=>R .normal ⟨tm,s.df,h⟩
 | .seq a b,s,R=>vc2 p ro a s (fG0 (λc=>vc2 p ro b c R) R)
 | .cond x a b,s,R=>zE0 (ev s.tm x) (vc2 p ro a s R) (vc2 p ro b s R)
 | .block i b,s,R=>vc2 p ro b s (outR i R)
 | .loop b,s,R=>W p ro (.loop b) s R
 | .scope b,s,R=>WPin p ro b b s R
 | .range g ps a b,s,R=>W p ro (.range g ps a b) s R
theorem gY0 (p:Par)(ro:Z8 Nat):∀ (c:IR) (s:S) (R:jK→S→Prop),vc2 p ro c s R=vc p ro c s R
 | .bad,s,R=>rfl
 | .skip,s,R=>rfl
 | .ret,s,R=>rfl
 | .exit i,s,R=>rfl
 | .goto l,s,R=>rfl
 | .label l,s,R=>rfl
 | .ops l,s,R=>jW1 p _ l _ _
 | .plan t,s,R=>zD0 p _ t _ _ _
 | .seq a b,s,R=>by simp only[vc2,vc,gY0 p ro a,gY0 p ro b]
 | .cond x a b,s,R=>by simp only[vc2,vc,gY0 p ro a,gY0 p ro b]
 | .block i b,s,R=>gY0 p ro b s _
 | .loop b,s,R=>rfl
 | .scope b,s,R=>rfl
 | .range g ps a b,s,R=>rfl
@[congr] theorem kC3 {p:Par} {ro:Z8 Nat} {a:IR} {s:S} {R:jK→S→Prop}:vc2 p ro a s R=vc2 p ro a s R:=rfl
@[congr] theorem zZ3 {p:Par} {ro:Z8 Nat} {a b:Code} {s:S} {R:jK→S→Prop}:WPin p ro a b s R=WPin p ro a b s R:=rfl
def fr0 (args:List Z6)(n:Nat):VT:=VT.of (args++List.replicate (n-args.length) undef) n
def resC (l:List (Z8 Z6)):Z8 Z6:=
 let rec go:List (Z8 Z6)→Z8 (List Z6)
  | []=>some []
  | x :: rs=>match x,go rs with | some v,some l=>some (v :: l) | _,_=>none
 match go l with
 | some [v]=>some v
 | some l=>some (.tuple ⟨l⟩)
 | none=>none
theorem yV3 (a:Z6):resC [some a]=some a:=rfl
theorem yU3 (a b:Z6):resC [some a,some b]=some (.tuple #[a,b]):=rfl
theorem yT3 (a b c:Z6):resC [some a,some b,some c]=some (.tuple #[a,b,c]):=rfl
def rgV (P : Z9) (ty : Zt) (v : Z6) (h : jA) : Z8 (Z6 × jA) := match P.underlying ty, v with
  | some .string,.string s=>some (.pointer (some ⟨h.next,0,none⟩),(h.new ⟨.stringIter s 0,false⟩).2)
  | _,_=>none
theorem rgV_s {P:Z9}{ty:Zt}{h:jA}(a:sK0 P ty=true)(s:ByteArray):rgV P ty (.string s) h=some (.pointer (some ⟨h.next,0,none⟩),h.add (itO s 0)):=by
 simp only[rgV,uK1 a,jA.add]
 rfl
attribute [push_cast] gP_tt gP_ff gP_tf gP_ft gP_u yV3 yU3 yT3 rgV_s
theorem cP.fir3 {p:Par}(jV:wB0 p){g:FuncId}{f:FIR}(i:Ev.fir p.P g=some f){args:List Z6}{h:jA}{R:Z6→jA→Prop}{T:VT}(j:Nat.ble args.length f.n=true)(e:Nat.ble f.n 100000=true)
  (r:T.arr=⟨args++List.replicate (f.n-args.length) undef⟩) (v:h.lo≤h.next→vc2 p none f.ir ⟨T,[],h⟩ (jR p.P f.rs R)):cP p g args h R:=by
 unfold Ev.fir at i
 split at i
 ·rename_i fn l
  split at i<;>cases i
  rename_i c t
  have e:fn.ntmps<U:=le_U (by simpa using e)
  have j:args.length≤fn.ntmps:=by simpa using j
  refine cP.body jV l t j e ?_
  intro o u y w a F n Q C k z D
  have m:h.lo≤h.next:=by have:=a.hr;rw[this.lo];exact this.gn
  have q:T.sz=fn.ntmps:=by
   have s:=VT.arr_size T
   rw[← s,r]
   simp;omega
  have b:T.arr=(FR fn.ntmps (gE0 0 args)).arr:=by
   rw[wO2 fn.ntmps e args j,r]
   apply Array.ext';simp
  have d:=v m
  rw[gY0] at d
  refine qO0 jV c _ _ d o u y w ⟨⟨by show T.sz<U;rw[q];exact e,?_,a.tm.gl⟩,?_,a.df,a.hr⟩ F n Q C k z D
  ·show _=T.arr.map _;rw[b];exact a.tm.tm
  ·show ∀ x∈T.arr.toList,_;rw[b];exact a.sc
 ·cases i
abbrev Gr (h a:jA):Prop:=jC h a (λ_=>False)
theorem Gr.refl (h:jA):Gr h h:=jC.refl _ _
theorem jC.put' {h a:jA}{S:Nat→Prop}(g:jC h a S)(b:Nat)(x:qW)(d:h.next≤b):jC h (a.put b x) S:=⟨g.next,g.lo,λi hi c=>(qC b x i Z0).trans (g.get i hi c)⟩
theorem jC.put'' {h a:jA}{S:Nat→Prop}(g:jC h a S)(b:Nat)(x:qW)(d:b<h.next→S b):jC h (a.put b x) S:=⟨g.next,g.lo,λi hi c=>(qC b x i (λe=>c (by subst e;exact d hi))).trans (g.get i hi c)⟩
theorem jC.add' {h a:jA}{S:Nat→Prop}(g:jC h a S)(x:qW):jC h (a.add x) S:=⟨by rw[jB];have:=g.next;omega,(jM x).trans g.lo,λi hi c=>(qF x i (by have:=g.next;omega)).trans (g.get i hi c)⟩
theorem jC.tr {h a c:jA}{S:Nat→Prop}(g:jC h a S)(g':Gr a c):jC h c S:=g.trans (g'.mono λ_ _ h=>h.elim) (λ_ _ h=>h)
theorem jC.tr' {h a c:jA}{S T:Nat→Prop}(g:jC h a S)(g':jC a c T)(b:∀ i,i<h.next→T i→S i):jC h c S:=g.trans g' b
theorem jC.cellsE {h a:jA}{S:Nat→Prop}(g:jC h a S){i:Nat}{x:List Z6×Zt×Zb}(c:Ev.cells h i=some x)(hi:i<h.next)(b:¬ S i):Ev.cells a i=some x:=(g.cells hi b).trans c
@[push_cast]theorem evRes_ct {P:Z9}(tm:VT)(h:jA)(a t u:Nat):dF P [.cell a t,.tmp u] tm h=resC [qL P t (tm.get a) h,some (tm.get u)]:=by
 simp only[dF,qZ.go]
 cases qL P t (tm.get a) h<;>rfl
def hi.{u}{b:Type u}(a:b):b:=(λ(_:Par→Z8 Nat→IR→S→(jK→S→Prop)→Prop)=>a) vc
def bV (k:S→Prop)(R:jK→S→Prop)(e:jK)(s:S):Prop:=hi (match e with | .normal=>k s|e=>R e s)
def uS (id:Nat)(R:jK→S→Prop)(e:jK)(s:S):Prop:=hi (match e with | .exit j=>if j=id then R .normal s else R (.exit j) s|e=>R e s)
theorem mE0 (k:S→Prop)(R:jK→S→Prop):bV k R=fG0 k R:=rfl
class WB where a:Prop
class WK where a:Z6→jA→Prop
class WV where a:Z6→Prop
class WR where a:jK→S→Prop
class WC where a:Z6→jA→Prop→Prop
def kb [x:WB]:Prop:=x.a
def kk [x:WK]:Z6→jA→Prop:=x.a
def kv [x:WV]:Z6→Prop:=x.a
def kR [x:WR]:jK→S→Prop:=hi x.a
def kc [x:WC]:Z6→jA→Prop→Prop:=x.a
theorem bO3 (K:Z6→jA→Prop)(v:Z6)(h:jA):@kk ⟨K⟩ v h=K v h:=propext Iff.rfl
section
variable {A B:Prop} {w:Zb}
theorem zB2:zE0 (.bool true) (@kb ⟨A⟩) (@kb ⟨B⟩)=A:=by simp[zE0,kb]
theorem zC2:zE0 (.bool false) (@kb ⟨A⟩) (@kb ⟨B⟩)=B:=by simp[zE0,kb]
theorem gZ2:bZ True (@kb ⟨B⟩)=B:=by simp[bZ,kb]
end
section
variable {R:jK→S→Prop} {k:S→Prop} {s:S} {P:Z9} {p:Par} {ro:Z8 Nat} {c:Code}
theorem kR_tn:@kR ⟨bV k R⟩ .normal s=k s:=propext Iff.rfl
theorem kR_te (i:Nat):@kR ⟨bV k R⟩ (.exit i) s=@kR ⟨R⟩ (.exit i) s:=propext Iff.rfl
theorem kR_tr:@kR ⟨bV k R⟩ .ret s=@kR ⟨R⟩ .ret s:=propext Iff.rfl
theorem kR_on (i:Nat):@kR ⟨uS i R⟩ .normal s=@kR ⟨R⟩ .normal s:=propext Iff.rfl
theorem kR_oe (i j:Nat):@kR ⟨uS i R⟩ (.exit j) s=if j=i then @kR ⟨R⟩ .normal s else @kR ⟨R⟩ (.exit j) s:=propext Iff.rfl
theorem kR_or (i:Nat):@kR ⟨uS i R⟩ .ret s=@kR ⟨R⟩ .ret s:=propext Iff.rfl
theorem kR_k (e:jK):@kR ⟨@kR ⟨R⟩⟩ e s=@kR ⟨R⟩ e s:=propext Iff.rfl
theorem kR_fn (a:List ResultVar)(Q:Z6→jA→Prop):@kR ⟨jR P a Q⟩ .normal s=endR P a Q s:=propext Iff.rfl
theorem kR_fr (a:List ResultVar)(Q:Z6→jA→Prop):@kR ⟨jR P a Q⟩ .ret s=endR P a Q s:=propext Iff.rfl
end
attribute [push_cast] Bool.true_or Bool.false_or Bool.or_true Bool.or_false Bool.true_and Bool.false_and Bool.and_true Bool.and_false Bool.not_false ite_self
section
variable {p:Par} {P:Z9} {h:jA} {k:Z6→jA→Prop} {k0 k1 k2:Z6→Prop}
theorem oP_s2 (v:Z6):oP (some v) h k=k v h:=propext Iff.rfl
theorem oE_s2 (v:Z6):oE (some (v,h)) k=k v h:=propext Iff.rfl
theorem iH3 {a:List ResultVar}{R:Z6→jA→Prop}(tm:VT)(df:List Nat):endR P a R ⟨tm,df,h⟩=endM P a R tm (gQ df h):=propext Iff.rfl
theorem iI3 {a:List ResultVar}{R:Z6→jA→Prop}(tm:VT):endM P a R tm (some h)=oP (dF P a tm h) h R:=propext Iff.rfl
end
attribute [push_cast] oP_s2 oE_s2 iH3 iI3
attribute [push_cast] bO3 zB2 zC2 gZ2 kR_tn kR_te kR_tr kR_on kR_oe kR_or kR_k kR_fn kR_fr
def isNo:PT→Zb | .no=>true|_=>false
end
end Go.Ev
