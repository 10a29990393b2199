/-
  A part of the proof: conditions over an abstract memory,and that they are enough for what the model's calls do. No condition of its own.
-/
import Derived.CallsIn
import Derived.Laws.Sem
import Derived.OrdersHeld
import Derived.OrdersIn
import Derived.Below
import Derived.WalkKit
import Derived.WalkSpells
import Derived.WalkLawsBesides
import Derived.Laws.BytesString
import Derived.Laws.AppendOwn
import Derived.Laws.MakeOwn
import Derived.RangeFuncRecord
set_option linter.unusedSimpArgs false
set_option linter.unusedVariables false
namespace Go.Ev
open Go
noncomputable section
structure qH where
 o:Obj
 more:Bool
def qB (c:Nat) (e:TypeId) (cs:List Value):qH:=⟨.pending ⟨.pointer (some ⟨c,0,none⟩) :: cs⟩ e,true⟩
def notL (x:qH):Bool:=match x.o with | .pending ..=>false|_=>true
inductive Tr where
 | nil
 | node (l:Tr) (v:Option qH) (r:Tr)
def Tr.get (t:Tr):Nat→Option qH:=
 Tr.rec (motive:=fun _=>Nat→Option qH) (fun _=>none)
  (fun _ v _ gl gr i=>Nat.rec (motive:=fun _=>Option qH) v (fun j _=>Bool.rec (motive:=fun _=>Option qH) (gr (Nat.div j 2)) (gl (Nat.div j 2)) (Nat.beq (Nat.mod j 2) 0)) i) t
def Tr.go (i:Nat) (x:qH) (f:Tr→Nat→Tr) (l:Tr) (v:Option qH) (r:Tr):Tr:=
 Nat.rec (motive:=fun _=>Tr) (.node l (some x) r) (fun j _=>Bool.rec (motive:=fun _=>Tr) (.node l v (f r (Nat.div j 2))) (.node (f l (Nat.div j 2)) v r) (Nat.beq (Nat.mod j 2) 0)) i
def Tr.set (n:Nat) (t:Tr) (i:Nat) (x:qH):Tr:=
 Nat.rec (motive:=fun _=>Tr→Nat→Tr) (fun t _=>t)
  (fun _ f t i=>Tr.rec (motive:=fun _=>Tr) (Tr.go i x f .nil none .nil) (fun l v r _ _=>Tr.go i x f l v r) t) n t i
def Tr.put (t:Tr) (i:Nat) (x:qH):Tr:=Tr.set (Nat.succ i) t i x
structure jA where
 t:Tr
 next:Nat
 lo:Nat
inductive VTr where
 | nil
 | node (l:VTr) (v:Value) (r:VTr)
def VTr.get (t:VTr):Nat→Value:=
 VTr.rec (motive:=fun _=>Nat→Value) (fun _=>undef)
  (fun _ v _ gl gr i=>Nat.rec (motive:=fun _=>Value) v (fun j _=>Bool.rec (motive:=fun _=>Value) (gr (Nat.div j 2)) (gl (Nat.div j 2)) (Nat.beq (Nat.mod j 2) 0)) i) t
def VTr.go (i:Nat) (x:Value) (f:VTr→Nat→VTr) (l:VTr) (v:Value) (r:VTr):VTr:=
 Nat.rec (motive:=fun _=>VTr) (.node l x r) (fun j _=>Bool.rec (motive:=fun _=>VTr) (.node l v (f r (Nat.div j 2))) (.node (f l (Nat.div j 2)) v r) (Nat.beq (Nat.mod j 2) 0)) i
def VTr.set (n:Nat) (t:VTr) (i:Nat) (x:Value):VTr:=
 Nat.rec (motive:=fun _=>VTr→Nat→VTr) (fun t _=>t)
  (fun _ f t i=>VTr.rec (motive:=fun _=>VTr) (VTr.go i x f .nil undef .nil) (fun l v r _ _=>VTr.go i x f l v r) t) n t i
structure VT where
 sz:Nat
 t:VTr
def VT.get (T:VT) (i:Nat):Value:=VT.rec (motive:=fun _=>Value) (fun sz t=>Bool.rec (motive:=fun _=>Value) undef (t.get i) (Nat.ble (Nat.succ i) sz)) T
def VT.set (T:VT) (i:Nat) (v:Value):VT:=VT.rec (motive:=fun _=>VT) (fun sz t=>Bool.rec (motive:=fun _=>VT) ⟨sz,t⟩ ⟨sz,t.set 60 i v⟩ (Nat.ble (Nat.succ i) sz)) T
def VT.fill:VTr→Nat→List Value→VTr
 | t,_,[]=>t
 | t,i,v :: vs=>VT.fill (t.set 60 i v) (i+1) vs
def VT.of (l:List Value) (n:Nat):VT:=⟨l.length+(n-l.length),VT.fill .nil 0 l⟩
def VT.arr (T:VT):Array Value:=⟨(List.range T.sz).map T.t.get⟩
structure S where
 tm:VT
 df:List Nat
 h:jA
def jA.get (h:jA) (i:Nat):Option qH:=h.t.get i
def jA.put (h:jA) (i:Nat) (x:qH):jA:=match h with|⟨t,n,lo⟩=>⟨t.put i x,n,lo⟩
def jA.new (h:jA) (x:qH):Nat×jA:=match h with|⟨t,n,lo⟩=>match n with|0=>(0,⟨t.put 0 x,1,lo⟩)|m+1=>(m+1,⟨t.put (m+1) x,m+2,lo⟩)
@[irreducible] def U:Nat:=100000000000000
@[irreducible] def UC:Nat:=1152921504606846976
mutual
def flat:Value→Bool
 | .pointer a=>a.isNone
 | .slice a _ _=>a.isNone
 | .map r=>r.isNone
 | .chan _=>false
 | .float _ _=>false
 | .func (.func _) ⟨f⟩ ⟨c⟩=>jT f&&jT c
 | .func _ _ _=>false
 | .iface _ v=>flat v
 | .agg ⟨cs⟩=>jT cs
 | .tuple ⟨vs⟩=>jT vs
 | _=>true
def jT:List Value→Bool
 | []=>true
 | v :: vs=>flat v&&jT vs
end
def scA (n:Nat) (a:Addr):Bool:=Nat.blt a.block n
mutual
def sc (n:Nat):Value→Bool
 | .pointer (some a)=>scA n a
 | .slice (some a) _ _=>scA n a
 | .map (some r)=>Nat.blt r n
 | .chan _=>false
 | .func (.func _) ⟨f⟩ ⟨c⟩=>scL n f&&scL n c
 | .func (.yield l) ⟨f⟩ ⟨c⟩=>Nat.blt l n&&scL n f&&scL n c
 | .func _ _ _=>false
 | .iface _ v=>sc n v
 | .agg ⟨cs⟩=>scL n cs
 | .tuple ⟨vs⟩=>scL n vs
 | _=>true
def scL (n:Nat):List Value→Bool
 | []=>true
 | v :: vs=>sc n v&&scL n vs
end
def fscP (n:Nat) (a:Option Addr):Bool:=Option.rec (motive:=fun _=>Bool) true (fun a=>Addr.rec (motive:=fun _=>Bool) (fun b _ _=>Nat.ble (Nat.succ b) n) a) a
def fsc1 (n:Nat) (v:Value):Bool:=
 Value.casesOn v (fun _=>true) (fun _ _=>true) (fun _ _=>true) (fun _ _ _=>true) (fun _=>true) (fscP n) (fun a _ _=>fscP n a) (fun r=>sc n (.map r)) (fun _=>false)
  (fun f a b=>sc n (.func f a b)) true (fun t v=>sc n (.iface t v)) true (fun a=>sc n (.agg a)) (fun a=>sc n (.tuple a))
def fscL (n:Nat) (l:List Value):Bool:=List.rec (motive:=fun _=>Bool) true (fun v _ ih=>Bool.rec (motive:=fun _=>Bool) false ih (fsc1 n v)) l
def fone (n:Nat) (v:Value):Bool:=
 Value.casesOn v (fun _=>true) (fun _ _=>true) (fun _ _=>true) (fun _ _ _=>true) (fun _=>true) (fscP n) (fun a _ _=>fscP n a) (fun r=>sc n (.map r)) (fun _=>false)
  (fun f a b=>sc n (.func f a b)) true (fun t v=>sc n (.iface t v)) true (fun _=>false) (fun _=>false)
def uF (n:Nat) (l:List Value):Bool:=List.rec (motive:=fun _=>Bool) true (fun v _ ih=>Bool.rec (motive:=fun _=>Bool) false ih (fone n v)) l
def fsc (n:Nat) (v:Value):Bool:=
 Value.casesOn v (fun _=>true) (fun _ _=>true) (fun _ _=>true) (fun _ _ _=>true) (fun _=>true) (fscP n) (fun a _ _=>fscP n a) (fun r=>sc n (.map r)) (fun _=>false)
  (fun f a b=>sc n (.func f a b)) true (fun t v=>sc n (.iface t v)) true (fun a=>fscL n a.toList) (fun a=>fscL n a.toList)
def pv {α:Type} (P:Program):Sem α→Option α
 | .pure a=>some a
 | .program k=>pv P (k P)
 | .mark _ k=>pv P k
 | _=>none
def evG (g:Nat):Value:=.pointer (some ⟨g,0,none⟩)
def evF (f:FuncId):Value:=.func (.func f) #[] #[]
def ev (tm:VT) (o:Operand):Value:=Operand.rec (motive:=fun _=>Value) (VT.get tm) (fun v=>v) evG evF o
def cells (h:jA) (i:Nat):Option (List Value×TypeId×Bool):=
 match h.get i with
 | some ⟨.cells ⟨cs⟩ e _,m⟩=>some (cs,e,m)
 | _=>none
def beqB:List UInt8→List UInt8→Bool
 | [],[]=>true
 | x :: xs,y :: ys=>match Nat.beq x.toNat y.toNat with | true=>beqB xs ys | false=>false
 | _,_=>false
def bU0 (P:Program) (t:TypeId):Option Bool:=
 match P.underlying t with
 | some (.struct _) | some (.array _ _)=>some true
 | some _=>some false
 | none=>none
def szT (P:Program) (t:TypeId):Option Nat:=
 match P.info? t with
 | some i=>some i.size
 | none=>none
def uE (NG:Nat):Operand→Bool
 | .const v=>flat v
 | .global g=>Nat.blt g NG
 | _=>true
def qA0 (NG:Nat) (o:Oper):Bool:=o.op.operands.all (uE NG)&&(match o.op with | .defer _=>false | .select _ _=>false|_=>true)
def qR (NG:Nat):Code→Bool
 | .region _ ops _=>ops.all (qA0 NG)
 | .seq a b=>qR NG a&&qR NG b
 | .cond c a b=>uE NG c&&qR NG a&&qR NG b
 | .block _ b=>qR NG b
 | .loop b=>qR NG b
 | .rangeFunc f _ a b=>uE NG f&&qR NG a&&qR NG b
 | .scope b=>qR NG b
 | _=>true
def nV0 (NG : Nat) (fn : Func) : Bool := match fn.body with | some c => qR NG c && fn.name != "runtime.NumGoroutine" | none => true
def pvF (P:Program) (s:Sem Value) (x:Bool):Option Value:=
 match x with
 | true=>match pv P s with
  | some v=>match flat v with | true=>some v | false=>none
  | none=>none
 | false=>none
def jE (P:Program) (op:BinOp) (t:TypeId) (x y:Operand) (a b:Value):Option Value:=
 match op,a,b with
 | .eql,.string s,.string u=>some (.bool (beqB s.data.toList u.data.toList))
 | .neq,.string s,.string u=>some (.bool (!beqB s.data.toList u.data.toList))
 | .eql,.slice u _ _,.slice none _ _=>match P.underlying t with | some (.slice _)=>some (.bool u.isNone) | _=>none
 | .neq,.slice u _ _,.slice none _ _=>match P.underlying t with | some (.slice _)=>some (.bool (!u.isNone)) | _=>none
 | .eql,.pointer u,.pointer none=>match P.underlying t with | some (.pointer _)=>some (.bool u.isNone) | _=>none
 | .neq,.pointer u,.pointer none=>match P.underlying t with | some (.pointer _)=>some (.bool (!u.isNone)) | _=>none
 | _,_,_=>pvF P (do eqGuard op t x y a b;binOp op t a b) (flat a&&flat b)
def bounds (len top:Nat) (mx hi lo:Option Value):Option (Nat×Nat×Option Nat):=
 match (match mx with|none=>some none|some (.int _ (.ofNat m))=>(match Nat.ble m top with|true=>some (some m)|false=>none)|some _=>none:Option (Option Nat)) with
 | none=>none
 | some m=>
  match (match hi,m with
   | none,none=>some len
   | none,some _=>none
   | some (.int _ (.ofNat h)),none=>(match Nat.ble h top with | true=>some h | false=>none)
   | some (.int _ (.ofNat h)),some m=>(match Nat.ble h m with | true=>some h | false=>none)
   | some _,_=>none:Option Nat) with
  | none=>none
  | some h=>match (match lo with
   | none=>some 0
   | some (.int _ (.ofNat l))=>(match Nat.ble l h with | true=>some l | false=>none)
   | some _=>none:Option Nat) with
   | none=>none
   | some l=>some (l,h,m)
def uB (P:Program) (t:TypeId) (a:Option Addr) (len cap:Nat) (lo hi mx:Option Value):Option Value:=
 match P.underlying t with
 | some (.slice e)=>match szT P e,Nat.blt cap UC with
  | some size,true=>match bounds len cap mx hi lo with
   | some (l,h,m)=>
    let m:=m.getD cap
    match Nat.beq m l with
    | true=>some (.slice a (h-l) (m-l))
    | false=>some (.slice (a.map (·.add (l*size))) (h-l) (m-l))
   | none=>none
  | _,_=>none
 | _=>none
def qL0 (n:Nat) (l:List Value):Option (List Value):=
 Nat.rec (motive:=fun _=>List Value→Option (List Value)) (fun _=>some [])
  (fun _ f l=>List.rec (motive:=fun _=>Option (List Value)) none (fun v r _=>Option.rec (motive:=fun _=>Option (List Value)) none (fun x=>some (v :: x)) (f r)) l) n l
def gQ0 (n:Nat) (l:List Value):Option (List Value):=
 Nat.rec (motive:=fun _=>List Value→Option (List Value)) some
  (fun _ f l=>List.rec (motive:=fun _=>Option (List Value)) none (fun _ r _=>f r) l) n l
def gB0 (vs cs:List Value):Option (List Value):=
 List.rec (motive:=fun _=>List Value→Option (List Value)) some
  (fun v _ f cs=>List.rec (motive:=fun _=>Option (List Value)) none (fun _ r _=>Option.rec (motive:=fun _=>Option (List Value)) none (fun x=>some (v :: x)) (f r)) cs) vs cs
def setE (n:Nat) (vs cs:List Value):Option (List Value):=
 Nat.rec (motive:=fun _=>List Value→Option (List Value)) (gB0 vs)
  (fun _ f cs=>List.rec (motive:=fun _=>Option (List Value)) none (fun v r _=>Option.rec (motive:=fun _=>Option (List Value)) none (fun x=>some (v :: x)) (f r)) cs) n cs
def jG0 (P:Program) (t:TypeId) (a:Addr) (lo hi mx:Option Value):Option Value:=
 match P.underlying t with
 | some (.array n e)=>match szT P e,Nat.blt n U with
  | some size,true=>match bounds n n mx hi lo with
   | some (l,h,m)=>
    let m:=m.getD n
    match Nat.beq m l with
    | true=>some (.slice (some a) (h-l) (m-l))
    | false=>some (.slice (some (a.add (l*size))) (h-l) (m-l))
   | none=>none
  | _,_=>none
 | _=>none
def dD0 (P:Program) (t:TypeId) (cs:List Value) (off:Nat):Option Value:=
 match bU0 P t with
 | some true=>match szT P t with
  | some n=>match gQ0 off cs with
   | some l=>match qL0 n l with
    | some l=>some (.agg ⟨l⟩)
    | none=>none
   | none=>none
  | none=>none
 | some false=>cs[off]?
 | none=>none
def placesOf (P:Program):List Field→Option (List (Nat×Nat))
 | []=>some []
 | f :: fs=>match szT P f.type,placesOf P fs with
  | some n,some l=>some ((f.offset,n) :: l)
  | _,_=>none
def setFrom (cs:List Value) (off:Nat) (vs:List Value):List Value:=cs.take off++vs++cs.drop (off+vs.length)
def gN0 (place:Nat→Option (Nat×Nat)):List Value→List (Nat×Value)→Option (List Value)
 | cs,[]=>some cs
 | cs,(i,v) :: rest=>match place i with
  | none=>none
  | some (off,size)=>
   match Nat.beq v.cells.size size with
   | true=>match setE off v.cells.toList cs with
    | some cs'=>gN0 place cs' rest
    | none=>none
   | false=>none
def gT0 (P:Program) (t:TypeId) (parts:List (Nat×Value)):Option Value:=
 match P.info? t with
 | none=>none
 | some i=>match i.zero with
  | none=>none
  | some z=>match flat z,P.underlying t with
   | true,some (.struct fs)=>match placesOf P fs.toList with
    | some pl=>match gN0 (fun i=>pl[i]?) z.cells.toList parts with
     | some cs=>some (.agg ⟨cs⟩)
     | none=>none
    | none=>none
   | true,some (.array _ e)=>match szT P e with
    | some n=>match gN0 (fun i=>some (i*n,n)) z.cells.toList parts with
     | some cs=>some (.agg ⟨cs⟩)
     | none=>none
    | none=>none
   | _,_=>none
def kO (P:Program) (o:Oper) (tm:VT):Option Value:=
 match o.op with
 | .move x=>some (ev tm x)
 | .assign x=>some (ev tm x)
 | .pick c a b=>match ev tm c with | .bool true=>some (ev tm a) | .bool false=>some (ev tm b) | _=>none
 | .extract t i=>match ev tm t with | .tuple vs=>vs[i]? | _=>none
 | .binOp op t x y _=>jE P op t x y (ev tm x) (ev tm y)
 | .unOp op _ x=>pvF P (Op.unary op (ev tm x)) (flat (ev tm x))
 | .convert s d x=>pvF P (convert s d (ev tm x)) (flat (ev tm x))
 | .fieldAddr s x f=>match P.underlying s,ev tm x with
  | some (.struct fs),.pointer (some a)=>match fs[f]? with
   | some fl=>match szT P fl.type with
    | some (_+1)=>some (.pointer (some (a.add fl.offset)))
    | _=>none
   | none=>none
  | _,_=>none
 | .field t x f=>match P.underlying t,ev tm x with
  | some (.struct fs),.agg cs=>match fs[f]? with
   | some fl=>dD0 P fl.type cs.toList fl.offset
   | none=>none
  | _,_=>none
 | .indexAddr t x i=>match P.underlying t,ev tm x,ev tm i with
  | some (.slice e),.slice (some a) len _,.int _ (.ofNat n)=>match Nat.blt n len,szT P e with
   | true,some size=>some (.pointer (some (a.add (n*size))))
   | _,_=>none
  | some (.array len e),.pointer (some a),.int _ (.ofNat n)=>match Nat.blt n len,szT P e with
   | true,some size=>some (.pointer (some (a.add (n*size))))
   | _,_=>none
  | _,_,_=>none
 | .index t x i=>match ev tm x,ev tm i with
  | .string s,.int k n=>pvF P (Instr.index t (.string s) (.int k n)) true
  | .agg cs,.int _ (.ofNat n)=>match P.underlying t with
   | some (.array len e)=>match Nat.blt n len,szT P e with
    | true,some size=>dD0 P e cs.toList (n*size)
    | _,_=>none
   | _=>none
  | _,_=>none
 | .slice t x lo hi mx=>match ev tm x with
  | .string s=>pvF P (Instr.sliceAt t (.string s) (lo.map (ev tm)) (hi.map (ev tm)) (mx.map (ev tm))) ((lo.map (ev tm)).all flat&&(hi.map (ev tm)).all flat&&(mx.map (ev tm)).all flat)
  | .slice a n c=>uB P t a n c (lo.map (ev tm)) (hi.map (ev tm)) (mx.map (ev tm))
  | .pointer (some a)=>jG0 P t a (lo.map (ev tm)) (hi.map (ev tm)) (mx.map (ev tm))
  | _=>none
 | .build t parts=>gT0 P t (parts.toList.map fun (i,x)=>(i,ev tm x))
 | .makeFunc (.func g) f c=>some (.func (.func g) (f.map (ev tm)) (c.map (ev tm)))
 | .makeInterface t x=>match P.underlying t with
  | some (.interface _)=>none
  | some _=>some (.iface t (ev tm x))
  | none=>none
 | .nilCheck x=>match ev tm x with
  | .pointer (some a)=>some (.pointer (some a))
  | .func (.func g) f c=>some (.func (.func g) f c)
  | _=>none
 | .call { callee:=.builtin .len,args,argTypes }=>
  match args[0]?,argTypes[0]? with
  | some x,some t=>match P.underlying t,ev tm x with
   | some .string,.string s=>some (goInt s.size)
   | some (.slice _),.slice _ n _=>some (goInt n)
   | _,_=>none
  | _,_=>none
 | .call { callee:=.builtin .min,args,argTypes }=>pvF P (Builtin.min_ argTypes o.type (args.map (ev tm))) (jT (args.map (ev tm)).toList)
 | .call { callee:=.builtin .max,args,argTypes }=>pvF P (Builtin.max_ argTypes o.type (args.map (ev tm))) (jT (args.map (ev tm)).toList)
 | _=>none
def takeN (cs:List Value) (off n:Nat):Option (List Value):=Option.rec (motive:=fun _=>Option (List Value)) none (qL0 n) (gQ0 off cs)
def setN (cs:List Value) (off:Nat) (vs:List Value):Option (List Value):=setE off vs cs
def one (v:Value):Bool:=match v with | .agg _=>false | .tuple _=>false|_=>true
def mkRow (h:jA) (e:TypeId) (cs:List Value) (more:Bool):Option (Nat×jA):=
 match uF h.next cs with
 | true=>some (h.new ⟨.cells ⟨cs⟩ e,more⟩)
 | false=>none
def seen (lo b:Nat) (v:Value):Option Value:=Bool.rec (motive:=fun _=>Option Value) (Bool.rec (motive:=fun _=>Option Value) none (some v) (fsc lo v)) (some v) (Nat.ble lo b)
def jJ (P:Program) (t:TypeId) (a:Value) (h:jA):Option Value:=
 match a with
 | .pointer (some ⟨b,off,none⟩)=>match cells h b with
  | some (cs,_,_)=>match bU0 P t with
   | some true=>match szT P t with
    | some n=>match takeN cs off n with
     | some l=>seen h.lo b (.agg ⟨l⟩)
     | none=>none
    | none=>none
   | some false=>match cs[off]? with
    | some v=>seen h.lo b v
    | none=>none
   | none=>none
  | none=>none
 | _=>none
def dW0 (P:Program) (t:TypeId) (a:Value) (v:Value) (h:jA):Option jA:=
 match a with
 | .pointer (some ⟨b,off,none⟩)=>match cells h b,szT P t with
  | some (cs,e,m),some n=>match Nat.beq v.cells.size n&&uF h.next v.cells.toList&&Nat.ble h.lo b with
   | true=>match setN cs off v.cells.toList with
    | some cs'=>some (h.put b ⟨.cells ⟨cs'⟩ e,m⟩)
    | none=>none
   | false=>none
  | _,_=>none
 | _=>none
def qS (size n:Nat) (x:Value) (h:jA):Option (List Value):=
 match x with
 | .slice a _ _=>match n with
  | 0=>some []
  | n+1=>match a with
   | some ⟨b,off,none⟩=>match cells h b with
    | some (cs,_,_)=>match takeN cs off ((n+1)*size) with
     | some l=>Bool.rec (motive:=fun _=>Option (List Value)) (Bool.rec (motive:=fun _=>Option (List Value)) none (some l) (uF h.lo l)) (some l) (Nat.ble h.lo b)
     | none=>none
    | none=>none
   | _=>none
 | .string s=>match Nat.beq n s.size&&Nat.beq size 1 with
  | true=>some (s.data.toList.map fun b=>.int .u8 b.toNat)
  | false=>none
 | _=>none
def lenV:Value→Option Nat
 | .slice _ n _=>some n
 | .string s=>some s.size
 | _=>none
def uZ (P:Program) (sT xT:TypeId) (s x:Value) (h:jA):Option (Value×jA):=
 match P.underlying sT,s,lenV x with
 | some (.slice e),.slice base n cap,some m=>
  match (match P.underlying xT with|some (.int _)=>none|none=>none|some _=>P.info? e) with
  | none=>none
  | some i=>
   let size:=i.size
   match qS size m x h with
   | none=>none
   | some new=>
    match Nat.blt cap UC with
    | true=>match Nat.ble (n+m) cap with
     | true=>match base with
      | none=>match new with | []=>some (.slice none (n+m) cap,h) | _=>none
      | some ⟨b,off,sp⟩=>match m with
       | 0=>some (.slice base (n+0) cap,h)
       | m+1=>match sp with
       | none=>match cells h b with
        | some (cs,e',mo)=>match Nat.ble h.lo b,setN cs (off+n*size) new with
         | true,some cs'=>some (.slice base (n+(m+1)) cap,h.put b ⟨.cells ⟨cs'⟩ e',mo⟩)
         | _,_=>none
        | none=>none
       | some _=>none
     | false=>match qS size n s h,(Nat.ble ((n+m)*i.bytes) 140737488355328&&Nat.blt (n+m) U),i.zero with
      | some old,true,some z=>match Nat.beq z.cells.size size&&Nat.blt 0 size with
       | true=>match mkRow h e (old++new) true with
        | some (b,h')=>some (.slice (some ⟨b,0,none⟩) (n+m) UC,h')
        | none=>none
       | false=>none
      | _,_,_=>none
    | false=>match base with
     | some ⟨b,0,none⟩=>match cells h b with
      | some (cs,e',true)=>match Nat.beq e' e&&Nat.beq cap UC&&Nat.ble h.lo b&&Nat.beq cs.length (n*size)&&(Nat.ble ((n+m)*i.bytes) 140737488355328&&Nat.blt (n+m) U),i.zero with
       | true,some z=>match Nat.beq z.cells.size size&&Nat.blt 0 size&&uF h.next new with
        | true=>some (.slice (some ⟨h.next,0,none⟩) (n+m) UC,{ t:=(h.t.put h.next ⟨.cells ⟨cs++new⟩ e,true⟩).put b (qB h.next e cs),next:=h.next+1,lo:=h.lo })
        | false=>none
       | _,_=>none
      | _=>none
     | _=>none
 | _,_,_=>none
def iA0 (P:Program) (t:TypeId) (l c:Value) (h:jA):Option (Value×jA):=
 match P.underlying t,l,c with
 | some (.slice e),.int _ (.ofNat l),.int _ (.ofNat c)=>
  match P.info? e with
  | some i=>match Nat.ble l c&&Nat.blt (c*i.bytes+c) U,i.zero with
   | true,some z=>match Nat.beq z.cells.size i.size&&Nat.blt 0 i.size&&jT z.cells.toList with
    | true=>match mkRow h e (List.replicate c z.cells.toList).flatten false with
     | some (b,h')=>some (.slice (some ⟨b,0,none⟩) l c,h')
     | none=>none
    | false=>none
   | _,_=>none
  | none=>none
 | _,_,_=>none
def zeroOf (P:Program) (t:TypeId):Option Value:=match P.info? t with|some i=>i.zero|none=>none
def uA (P:Program) (t:TypeId) (a:Option Addr) (len cap:Nat) (lo hi mx:Option Value) (h:jA):Option Value:=
 match P.underlying t,a with
 | some (.slice e),some ⟨b,off,none⟩=>match szT P e,cells h b with
  | some size,some (cs,e',true)=>match Nat.beq e' e&&Nat.ble UC cap&&Nat.beq off ((cap-UC)*size)&&Nat.blt 0 size&&Nat.ble (off+len*size) cs.length&&Nat.blt len U with
   | true=>match bounds len len mx hi lo with
    | some (l,h,m)=>match m with
     | some m=>match Nat.beq m l with
      | true=>some (.slice (some ⟨b,off,none⟩) (h-l) (m-l))
      | false=>some (.slice (some ((⟨b,off,none⟩:Addr).add (l*size))) (h-l) (m-l))
     | none=>match Nat.blt l len with
      | true=>some (.slice (some ((⟨b,off,none⟩:Addr).add (l*size))) (h-l) (cap+l))
      | false=>none
    | none=>none
   | false=>none
  | _,_=>none
 | _,_=>none
def bytesOf:List Value→Option (List UInt8)
 | []=>some []
 | .int .u8 n :: vs=>match bytesOf vs with | some l=>some (UInt8.ofNat n.toNat :: l) | none=>none
 | _ :: _=>none
def zE0 (P:Program) (o:Oper) (tm:VT) (h:jA):Option Value:=
 match o.op with
 | .load t a=>jJ P t (ev tm a) h
 | .slice t x lo hi mx=>match ev tm x with
  | .slice a n c=>uA P t a n c (lo.map (ev tm)) (hi.map (ev tm)) (mx.map (ev tm)) h
  | _=>none
 | .convert s d x=>match P.underlying s,P.underlying d,ev tm x with
  | some (.slice e),some .string,.slice none _ _=>match P.underlying e with
   | some (.int .u8)=>some (.string .empty)
   | _=>none
  | some (.slice e),some .string,.slice (some _) 0 _=>match P.underlying e with
   | some (.int .u8)=>some (.string .empty)
   | _=>none
  | some (.slice e),some .string,.slice (some ⟨g,off,none⟩) n _=>match P.underlying e,cells h g with
   | some (.int .u8),some (cs,_,_)=>match takeN cs off n with
    | some l=>match bytesOf l with
     | some l=>some (.string ⟨⟨l⟩⟩)
     | none=>none
    | none=>none
   | _,_=>none
  | _,_,_=>none
 | _=>none
def dH0 (P:Program) (s d e:TypeId) (g:Nat) (v:Value) (h:jA):Option (Value×jA):=
 match P.underlying e,Nat.beq s d,Nat.ble h.lo g,h.get g with
 | some (.int .u8),true,true,some ⟨.cells _ _ _,_⟩=>some (v,h)
 | _,_,_,_=>none
def wD0 (P:Program) (o:Oper) (tm:VT) (h:jA):Option (Value×jA):=
 match o.op with
 | .alloc e=>match zeroOf P e with
  | some z=>match flat z with
   | true=>match mkRow h e z.cells.toList false with
    | some (b,h')=>some (.pointer (some ⟨b,0,none⟩),h')
    | none=>none
   | false=>none
  | none=>none
 | .box e x=>match mkRow h e (ev tm x).cells.toList false with
  | some (b,h')=>some (.pointer (some ⟨b,0,none⟩),h')
  | none=>none
 | .buildSlice t len parts=>match P.underlying t with
  | some (.slice e)=>match P.info? e with
   | some i=>match Nat.ble (len*i.size) 16777216,i.zero with
    | true,some z=>match Nat.beq z.cells.size i.size&&Nat.blt 0 i.size&&jT z.cells.toList with
     | true=>match gN0 (fun j=>some (j*i.size,i.size)) (List.replicate len z.cells.toList).flatten (parts.toList.map fun (j,x)=>(j,ev tm x)) with
      | some cs=>match mkRow h e cs false with
       | some (b,h')=>some (.slice (some ⟨b,0,none⟩) len len,h')
       | none=>none
      | none=>none
     | false=>none
    | _,_=>none
   | none=>none
  | _=>none
 | .store t a x=>match dW0 P t (ev tm a) (ev tm x) h with | some h'=>some (undef,h') | none=>none
 | .makeSlice t l c=>iA0 P t (ev tm l) (ev tm c) h
 | .call { callee:=.builtin .append,args,argTypes }=>
  match argTypes.toList,args.toList with
  | [sT,xT],[s,x]=>uZ P sT xT (ev tm s) (ev tm x) h
  | _,_=>none
 | .range t x=>match P.underlying t,ev tm x with
  | some .string,.string s=>some (.pointer (some ⟨h.next,0,none⟩),(h.new ⟨.stringIter s 0,false⟩).2)
  | _,_=>none
 | .next it true=>match ev tm it with
  | .pointer (some ⟨b,0,none⟩)=>match h.get b,Nat.ble h.lo b with
   | some ⟨.stringIter s pos,false⟩,true=>match Nat.blt pos s.size with
    | true=>some (.tuple #[.bool true,goInt pos,.int .i32 (Utf8.decode s pos).1],h.put b ⟨.stringIter s (pos+(Utf8.decode s pos).2),false⟩)
    | false=>some (.tuple #[.bool false],h)
   | _,_=>none
  | _=>none
 | .convert s d x=>match P.underlying s,P.underlying d,ev tm x with
  | some .string,some (.slice e),.string b=>match P.underlying e,szT P e with
   | some (.int .u8),some 1=>match Nat.blt b.size U with
    | true=>match mkRow h e (b.data.toList.map fun x=>.int .u8 x.toNat) true with
     | some (g,h')=>some (.slice (some ⟨g,0,none⟩) b.size UC,h')
     | none=>none
    | false=>none
   | _,_=>none
  | some (.slice _),some (.slice e),.slice (some ⟨g,off,spot⟩) n c=>dH0 P s d e g (.slice (some ⟨g,off,spot⟩) n c) h
  | _,_,_=>none
 | _=>none
def tO1 (P:Program) (tm:VT) (h:jA) (t:TypeId) (a:Operand):Option Value:=
 jJ P t (ev tm a) h
def tN1 (P:Program) (tm:VT) (h:jA) (t:TypeId) (x:Operand) (lo:Option Operand) (hi:Option Operand) (mx:Option Operand):Option Value:=
 match ev tm x with
  | .slice a n c=>uA P t a n c (lo.map (ev tm)) (hi.map (ev tm)) (mx.map (ev tm)) h
  | _=>none
def tM1 (P:Program) (tm:VT) (h:jA) (s:TypeId) (d:TypeId) (x:Operand):Option Value:=
 match P.underlying s,P.underlying d,ev tm x with
  | some (.slice e),some .string,.slice none _ _=>match P.underlying e with
   | some (.int .u8)=>some (.string .empty)
   | _=>none
  | some (.slice e),some .string,.slice (some _) 0 _=>match P.underlying e with
   | some (.int .u8)=>some (.string .empty)
   | _=>none
  | some (.slice e),some .string,.slice (some ⟨g,off,none⟩) n _=>match P.underlying e,cells h g with
   | some (.int .u8),some (cs,_,_)=>match takeN cs off n with
    | some l=>match bytesOf l with
     | some l=>some (.string ⟨⟨l⟩⟩)
     | none=>none
    | none=>none
   | _,_=>none
  | _,_,_=>none
def fRead (P:Program) (o:Oper) (tm:VT) (h:jA):Option Value:=
 match o.op with
 | .load t a=>tO1 P tm h t a
 | .slice t x lo hi mx=>tN1 P tm h t x lo hi mx
 | .convert s d x=>tM1 P tm h s d x
 | _=>none
inductive jL where
 | normal
 | exit (id:Nat)
 | goto (l:Nat)
 | ret
def qI (P:Program) (fn:Func) (tm:VT) (h:jA):Option Value:=
 let rec go:List ResultVar→Option (List Value)
  | []=>some []
  | .tmp t :: rs=>match go rs with | some l=>some (tm.get t :: l) | none=>none
  | .cell a t :: rs=>match jJ P t (tm.get a) h,go rs with | some v,some l=>some (v :: l) | _,_=>none
 match go fn.results.toList with
 | some [v]=>some v
 | some l=>some (.tuple ⟨l⟩)
 | none=>none
abbrev Rec:=Option Nat→Code→S→Option (jL×S)
abbrev Ext:=FuncId→List Value→jA→Option (Value×jA)
def put (tm:VT) (d:Option Tmp) (v:Value):VT:=match d with|some t=>tm.set t v|none=>tm
def uL:List Nat→jA→Option jA
 | [],h=>some h
 | d :: ds,h=>match h.get d with
  | some ⟨.deferred (some []),_⟩=>match Nat.ble h.lo d with
   | true=>uL ds (h.put d ⟨.deferred none,false⟩)
   | false=>none
  | _=>none
def yC2 (P:Program) (fn:Func) (s:S):Option (Value×jA):=
 match uL s.df s.h with
 | some h=>match qI P fn s.tm h with
  | some v=>some (v,h)
  | none=>none
 | none=>none
def yE2 (P:Program) (rec:Rec) (f:FuncId) (args:List Value) (h:jA):Option (Value×jA):=
 match P.funcs[f]? with
 | some fn=>match fn.body with
  | some c=>match Nat.blt (VT.of args fn.ntmps).sz U with
   | true=>match rec none c { tm:=VT.of args fn.ntmps,df:=[],h:=h } with
    | some (.normal,s)=>yC2 P fn s
    | some (.ret,s)=>yC2 P fn s
    | _=>none
   | false=>none
  | none=>none
 | none=>none
def yD2 (P:Program) (X:Ext) (rec:Rec) (f:FuncId) (args:List Value) (h:jA):Option (Value×jA):=
 match X f args h with
 | some r=>some r
 | none=>yE2 P rec f args h
def qF (h:jA) (l:Nat):Option Loop:=
 match h.get l with
 | some ⟨.loop r,_⟩=>match Nat.ble h.lo l with
  | true=>some r
  | false=>none
 | _=>none
def jM (h:jA) (l:Nat) (r:Loop):jA:=h.put l ⟨.loop r,false⟩
def kC0 (ro:Option Nat) (tm:VT) (ps:Array Tmp) (a b:Code) (h:jA):Option (Nat×List Nat×jA):=
 match ro with
 | some l=>match qF h l with
  | some r=>some (h.next,[],(h.new ⟨.loop { state:=.ready,pending:=none,fn:=0,tmps:=tm.arr,params:=ps,assign:=a,body:=b,defers:=r.defers },false⟩).2)
  | none=>none
 | none=>some (h.next+1,[h.next],((h.new ⟨.deferred (some []),false⟩).2.new ⟨.loop { state:=.ready,pending:=none,fn:=0,tmps:=tm.arr,params:=ps,assign:=a,body:=b,defers:=h.next },false⟩).2)
def jL.jump:jL→Option Code
 | .normal=>none
 | .exit id=>some (.exit id)
 | .goto l=>some (.goto l)
 | .ret=>some .ret
def uG:VT→List (Nat×Value)→VT
 | T,[]=>T
 | T,(t,v) :: l=>uG (T.set t v) l
def tW1 (rec:Rec) (l:Nat) (args:List Value) (h:jA):Option (Value×jA):=
 match qF h l with
 | some r=>match Nat.beq args.length r.params.toList.length&&Nat.blt (VT.of r.tmps.toList 0).sz U with
  | true=>match rec (some l) r.assign { tm:=uG (VT.of r.tmps.toList 0) (r.params.toList.zip args),df:=[],h:=h } with
   | some (.normal,s1)=>match qF s1.h l with
    | some r1=>match r1.state with
     | .ready=>match rec (some l) r.body { tm:=s1.tm,df:=s1.df,h:=jM s1.h l { r1 with state:=.busy } } with
      | some (e,s2)=>match qF s2.h l with
       | some r2=>some (.bool e.jump.isNone,jM s2.h l { r2 with state:=if e.jump.isNone then .ready else .done,pending:=e.jump })
       | none=>none
      | none=>none
     | _=>none
    | none=>none
   | _=>none
  | false=>none
 | none=>none
def qW0 (l:Nat) (s:S):Option (jL×S):=
 match qF s.h l with
 | some r=>match r.state with
  | .busy=>none
  | _=>
   let s':S:={ s with h:=jM s.h l { r with state:=.exhausted } }
   match r.pending with
   | none=>some (.normal,s')
   | some (.exit id)=>some (.exit id,s')
   | some (.goto t)=>some (.goto t,s')
   | some .ret=>some (.ret,s')
   | _=>none
 | none=>none
inductive Rz where
 | no
 | pure (v:Value)
 | read (v:Value)
 | eff (v:Value) (h:jA)
abbrev G:=VT→jA→Rz
def callV (P:Program) (X:Ext) (rec:Rec) (f:Value) (args:List Value) (h:jA):Option (Value×jA):=
 match f with
 | .func (.func g) ⟨[]⟩ ⟨captured⟩=>yD2 P X rec g (args++captured) h
 | .func (.yield l) ⟨[]⟩ _=>tW1 rec l args h
 | _=>none
def yl (ops:List Oper) (tm:VT) (j:Nat):Option Bool:=
 match ops[j]? with
 | some o=>match o.dst with
  | some d=>match tm.get d with
   | .bool b=>some b
   | _=>none
  | none=>none
 | none=>none
def wanted (ops:List Oper) (tm:VT) (o:Oper):Option Bool:=
 match o.guard with
 | none=>some true
 | some (j,w)=>some (match yl ops tm j with | some b=>(match b,w with | true,true=>true | false,false=>true | _,_=>false) | none=>false)
mutual
def beqV:Value→Value→Bool
 | .bool a,.bool b=>match a,b with | true,true=>true | false,false=>true | _,_=>false
 | .int k a,.int j b=>decide (k=j)&&decide (a=b)
 | .string a,.string b=>beqB a.data.toList b.data.toList
 | .float k a,.float j b=>decide (k=j)&&Nat.beq a b
 | .pointer a,.pointer b=>decide (a=b)
 | .slice a n c,.slice b m d=>decide (a=b)&&Nat.beq n m&&Nat.beq c d
 | .map a,.map b=>decide (a=b)
 | .func f ⟨xs⟩ ⟨ys⟩,.func g ⟨zs⟩ ⟨us⟩=>decide (f=g)&&beqL xs zs&&beqL ys us
 | .nilFunc,.nilFunc=>true
 | .nilIface,.nilIface=>true
 | .iface t v,.iface u w=>Nat.beq t u&&beqV v w
 | .agg ⟨xs⟩,.agg ⟨ys⟩=>beqL xs ys
 | .tuple ⟨xs⟩,.tuple ⟨ys⟩=>beqL xs ys
 | _,_=>false
def beqL:List Value→List Value→Bool
 | [],[]=>true
 | x :: xs,y :: ys=>beqV x y&&beqL xs ys
 | _,_=>false
end
def sS1 (P:Program) (o:Oper):Bool:=
 match o.op with
 | .alloc ..=>true
 | .box ..=>true
 | .buildSlice ..=>true
 | .store ..=>true
 | .makeSlice ..=>true
 | .range ..=>true
 | .next ..=>true
 | .call { callee:=.builtin .append,.. }=>true
 | .call { callee:=.value _,.. }=>true
 | .convert s d _=>match P.underlying s,P.underlying d with | some .string,some (.slice _)=>true | some (.slice _),some (.slice _)=>true | _,_=>false
 | _=>false
def firstFree (P:Program) (ops:Array Oper) (listed:Array Bool):List Nat→Option (Nat×Oper)
 | []=>none
 | i :: is=>match ops[i]? with
  | some o=>match sS1 P o with
   | true=>firstFree P ops listed is
   | false=>match Region.free .any ops listed i with
    | true=>some (i,o)
    | false=>firstFree P ops listed is
  | none=>firstFree P ops listed is
abbrev Held:=List (Nat×Oper×VT×Value)
def kept (P:Program) (o:Oper) (h:jA):Held→Bool
 | []=>true
 | (i,o',tm,v) :: L=>match o.after.toList.any fun e=>Region.binds .any e&&Nat.beq e.on i with
  | true=>kept P o h L
  | false=>match fRead P o' tm h with
   | some v'=>match beqV v v' with | true=>kept P o h L | false=>false
   | none=>false
abbrev ST:=S→Option (jL×S)
end
end Go.Ev
namespace Go.Ev
open Go Go.RowKit
structure Gam where
 b:Nat→Nat
 k:Nat→Nat
 s:Nat→Int        -- the numbers that stand behind a sign: a float is none of the program's
 t:Nat→ByteArray  -- the texts
def uC (Γ:Gam) (id c:Nat):Nat:=if c<UC then c else Γ.k id-(c-UC)
def wM (Γ:Gam) (a:Addr):Addr:={ a with block:=Γ.b a.block }
def kG0 (Γ:Gam):Fn→Fn
 | .yield l=>.yield (Γ.b l)
 | f=>f
mutual
def con (Γ:Gam):Value→Value
 | .pointer (some a)=>.pointer (some (wM Γ a))
 | .slice (some a) n c=>.slice (some (wM Γ a)) n (uC Γ a.block c)
 | .map (some r)=>.map (some (Γ.b r))
 | .float .f64 i=>.int .i64 (Γ.s i)
 | .float .f32 i=>.string (Γ.t i)
 | .func fn ⟨f⟩ ⟨c⟩=>.func (kG0 Γ fn) ⟨conL Γ f⟩ ⟨conL Γ c⟩
 | .iface t v=>.iface t (con Γ v)
 | .agg ⟨cs⟩=>.agg ⟨conL Γ cs⟩
 | .tuple ⟨vs⟩=>.tuple ⟨conL Γ vs⟩
 | v=>v
def conL (Γ:Gam):List Value→List Value
 | []=>[]
 | v :: vs=>con Γ v :: conL Γ vs
end
theorem bB (Γ:Gam):∀ l,conL Γ l=l.map (con Γ)
 | []=>rfl
 | v :: vs=>by simp[conL,bB Γ vs]
theorem qY0 (Γ:Gam) (cs:Array Value):con Γ (.agg cs)=.agg (cs.map (con Γ)):=by
 obtain ⟨l⟩:=cs;simp[con,bB]
theorem jN0 (Γ:Gam) (cs:Array Value):con Γ (.tuple cs)=.tuple (cs.map (con Γ)):=by
 obtain ⟨l⟩:=cs;simp[con,bB]
theorem bA (Γ:Gam) (fn:Fn) (f c:Array Value):con Γ (.func fn f c)=.func (kG0 Γ fn) (f.map (con Γ)) (c.map (con Γ)):=by
 obtain ⟨l⟩:=f;obtain ⟨m⟩:=c;simp[con,bB]
mutual
theorem qZ (Γ:Gam):∀ v,flat v=true→con Γ v=v
 | .bool _,_=>rfl
 | .int _ _,_=>rfl
 | .float _ _,h=>by simp[flat] at h
 | .complex _ _ _,_=>rfl
 | .string _,_=>rfl
 | .pointer none,_=>rfl
 | .pointer (some _),h=>by simp[flat] at h
 | .slice none _ _,_=>rfl
 | .slice (some _) _ _,h=>by simp[flat] at h
 | .map none,_=>rfl
 | .map (some _),h=>by simp[flat] at h
 | .chan _,h=>by simp[flat] at h
 | .func (.func g) ⟨f⟩ ⟨c⟩,h=>by
  simp only[flat,Bool.and_eq_true] at h
  simp only[con,kG0,gR Γ f h.1,gR Γ c h.2]
 | .func (.method _) _ _,h=>by simp[flat] at h
 | .func (.methodOf _ _) _ _,h=>by simp[flat] at h
 | .func (.via _ _ _ _) _ _,h=>by simp[flat] at h
 | .func (.yield _) _ _,h=>by simp[flat] at h
 | .nilFunc,_=>rfl
 | .iface t v,h=>by
  simp only[flat] at h
  simp only[con,qZ Γ v h]
 | .nilIface,_=>rfl
 | .agg ⟨cs⟩,h=>by
  simp only[flat] at h
  simp only[con,gR Γ cs h]
 | .tuple ⟨cs⟩,h=>by
  simp only[flat] at h
  simp only[con,gR Γ cs h]
theorem gR (Γ:Gam):∀ l,jT l=true→conL Γ l=l
 | [],_=>rfl
 | v :: vs,h=>by
  simp only[jT,Bool.and_eq_true] at h
  simp only[conL,qZ Γ v h.1,gR Γ vs h.2]
end
structure Ag (Γ Γ':Gam) (n:Nat):Prop where
 b:∀ i,i<n→Γ'.b i=Γ.b i
 k:∀ i,i<n→Γ'.k i=Γ.k i
 s:Γ'.s=Γ.s
 t:Γ'.t=Γ.t
theorem Ag.refl (Γ:Gam) (n:Nat):Ag Γ Γ n:=⟨fun _ _=>rfl,fun _ _=>rfl,rfl,rfl⟩
theorem Ag.trans {Γ Γ' Γ'':Gam} {n m:Nat} (h:Ag Γ Γ' n) (h':Ag Γ' Γ'' m) (hn:n≤m):Ag Γ Γ'' n:=
 ⟨fun i hi=>(h'.b i (by omega)).trans (h.b i hi),fun i hi=>(h'.k i (by omega)).trans (h.k i hi),h'.s.trans h.s,h'.t.trans h.t⟩
theorem yU1 {Γ Γ':Gam} {n:Nat} (h:Ag Γ Γ' n) {a:Addr} (ha:scA n a=true):wM Γ' a=wM Γ a:=by
 simp[scA] at ha
 simp[wM,h.b a.block ha]
mutual
theorem jO0 {Γ Γ':Gam} {n:Nat} (hg:Ag Γ Γ' n):∀ v,sc n v=true→con Γ' v=con Γ v
 | .bool _,_=>rfl
 | .int _ _,_=>rfl
 | .float .f64 _,_=>by simp only[con,hg.s]
 | .float .f32 _,_=>by simp only[con,hg.t]
 | .complex _ _ _,_=>rfl
 | .string _,_=>rfl
 | .pointer none,_=>rfl
 | .pointer (some _),h=>by simp only[sc] at h;simp only[con,yU1 hg h]
 | .slice none _ _,_=>rfl
 | .slice (some a) _ _,h=>by
  simp only[sc] at h
  have h2:a.block<n:=by simp[scA] at h;exact h
  simp only[con,yU1 hg h,uC,hg.k _ h2]
 | .map none,_=>rfl
 | .map (some _),h=>by simp[sc] at h;simp only[con,hg.b _ h]
 | .chan _,h=>by simp[sc] at h
 | .func (.func g) ⟨f⟩ ⟨c⟩,h=>by
  simp only[sc,Bool.and_eq_true] at h
  simp only[con,kG0,wH0 hg f h.1,wH0 hg c h.2]
 | .func (.method _) _ _,h=>by simp[sc] at h
 | .func (.methodOf _ _) _ _,h=>by simp[sc] at h
 | .func (.via _ _ _ _) _ _,h=>by simp[sc] at h
 | .func (.yield l) ⟨f⟩ ⟨c⟩,h=>by
  simp only[sc,Bool.and_eq_true,Nat.blt_eq] at h
  simp only[con,kG0,wH0 hg f h.1.2,wH0 hg c h.2,hg.b _ h.1.1]
 | .nilFunc,_=>rfl
 | .iface t v,h=>by
  simp only[sc] at h
  simp only[con,jO0 hg v h]
 | .nilIface,_=>rfl
 | .agg ⟨cs⟩,h=>by
  simp only[sc] at h
  simp only[con,wH0 hg cs h]
 | .tuple ⟨cs⟩,h=>by
  simp only[sc] at h
  simp only[con,wH0 hg cs h]
theorem wH0 {Γ Γ':Gam} {n:Nat} (hg:Ag Γ Γ' n):∀ l,scL n l=true→conL Γ' l=conL Γ l
 | [],_=>rfl
 | v :: vs,h=>by
  simp only[scL,Bool.and_eq_true] at h
  simp only[conL,jO0 hg v h.1,wH0 hg vs h.2]
end
mutual
theorem qX {n m:Nat} (hn:n≤m):∀ v,sc n v=true→sc m v=true
 | .bool _,_=>rfl
 | .int _ _,_=>rfl
 | .float _ _,_=>rfl
 | .complex _ _ _,_=>rfl
 | .string _,_=>rfl
 | .pointer none,_=>rfl
 | .pointer (some _),h=>by simp[sc,scA] at h ⊢;omega
 | .slice none _ _,_=>rfl
 | .slice (some a) _ _,h=>by simp[sc,scA] at h ⊢;omega
 | .map none,_=>rfl
 | .map (some _),h=>by simp[sc] at h ⊢;omega
 | .chan _,h=>by simp[sc] at h
 | .func (.func g) ⟨f⟩ ⟨c⟩,h=>by
  simp only[sc,Bool.and_eq_true] at h ⊢
  exact ⟨jT0 hn f h.1,jT0 hn c h.2⟩
 | .func (.method _) _ _,h=>by simp[sc] at h
 | .func (.methodOf _ _) _ _,h=>by simp[sc] at h
 | .func (.via _ _ _ _) _ _,h=>by simp[sc] at h
 | .func (.yield l) ⟨f⟩ ⟨c⟩,h=>by
  simp only[sc,Bool.and_eq_true,Nat.blt_eq] at h ⊢
  exact ⟨⟨by omega,jT0 hn f h.1.2⟩,jT0 hn c h.2⟩
 | .nilFunc,_=>rfl
 | .iface t v,h=>by
  simp only[sc] at h ⊢
  exact qX hn v h
 | .nilIface,_=>rfl
 | .agg ⟨cs⟩,h=>by
  simp only[sc] at h ⊢
  exact jT0 hn cs h
 | .tuple ⟨cs⟩,h=>by
  simp only[sc] at h ⊢
  exact jT0 hn cs h
theorem jT0 {n m:Nat} (hn:n≤m):∀ l,scL n l=true→scL m l=true
 | [],_=>rfl
 | v :: vs,h=>by
  simp only[scL,Bool.and_eq_true] at h ⊢
  exact ⟨qX hn v h.1,jT0 hn vs h.2⟩
end
mutual
theorem wR (n:Nat):∀ v,flat v=true→sc n v=true
 | .bool _,_=>rfl
 | .int _ _,_=>rfl
 | .float _ _,h=>by simp[flat] at h
 | .complex _ _ _,_=>rfl
 | .string _,_=>rfl
 | .pointer none,_=>rfl
 | .pointer (some _),h=>by simp[flat] at h
 | .slice none _ _,_=>rfl
 | .slice (some _) _ _,h=>by simp[flat] at h
 | .map none,_=>rfl
 | .map (some _),h=>by simp[flat] at h
 | .chan _,h=>by simp[flat] at h
 | .func (.func g) ⟨f⟩ ⟨c⟩,h=>by
  simp only[flat,Bool.and_eq_true] at h
  simp only[sc,uM0 n f h.1,uM0 n c h.2,Bool.and_self]
 | .func (.method _) _ _,h=>by simp[flat] at h
 | .func (.methodOf _ _) _ _,h=>by simp[flat] at h
 | .func (.via _ _ _ _) _ _,h=>by simp[flat] at h
 | .func (.yield _) _ _,h=>by simp[flat] at h
 | .nilFunc,_=>rfl
 | .iface t v,h=>by
  simp only[flat] at h
  simp only[sc,wR n v h]
 | .nilIface,_=>rfl
 | .agg ⟨cs⟩,h=>by
  simp only[flat] at h
  simp only[sc,uM0 n cs h]
 | .tuple ⟨cs⟩,h=>by
  simp only[flat] at h
  simp only[sc,uM0 n cs h]
theorem uM0 (n:Nat):∀ l,jT l=true→scL n l=true
 | [],_=>rfl
 | v :: vs,h=>by
  simp only[jT,Bool.and_eq_true] at h
  simp only[scL,wR n v h.1,uM0 n vs h.2,Bool.and_self]
end
theorem qP {n:Nat}:∀ {l:List Value},scL n l=true→∀ v∈l,sc n v=true
 | [],_,v,hv=>by cases hv
 | x :: xs,h,v,hv=>by
  simp only[scL,Bool.and_eq_true] at h
  cases hv with
  | head=>exact h.1
  | tail _ hv=>exact qP h.2 v hv
theorem qK {n:Nat}:∀ {l:List Value},(∀ v∈l,sc n v=true)→scL n l=true
 | [],_=>rfl
 | x :: xs,h=>by
  simp only[scL,Bool.and_eq_true]
  exact ⟨h x (List.mem_cons_self ..),qK fun v hv=>h v (List.mem_cons_of_mem _ hv)⟩
theorem zH0 (Γ:Gam) (v:Value):(con Γ v).cells=v.cells.map (con Γ):=by
 cases v with
 | agg cs=>rw[qY0];simp[Value.cells]
 | tuple cs=>rw[jN0];simp[Value.cells,jN0]
 | func fn f c=>rw[bA];simp[Value.cells,bA]
 | pointer a=>cases a<;>simp[con,Value.cells]
 | slice a _ _=>cases a<;>simp[con,Value.cells]
 | map a=>cases a<;>simp[con,Value.cells]
 | float k i=>cases k<;>simp[con,Value.cells]
 | _=>simp[con,Value.cells]
theorem lN0 (Γ:Gam) (v:Value):one (con Γ v)=one v:=by
 cases v with
 | agg cs=>rw[qY0];rfl
 | tuple cs=>rw[jN0];rfl
 | func fn f c=>rw[bA];rfl
 | pointer a=>cases a<;>rfl
 | slice a _ _=>cases a<;>rfl
 | map a=>cases a<;>rfl
 | float k i=>cases k<;>rfl
 | _=>rfl
theorem wT2 {α:Type} (P:Program):∀ (s:Sem α) (a:α),pv P s=some a→∀ w,s.run P w=.ok a w:=by
 intro s
 induction s with
 | pure a=>intro b h w;simp only[pv,Option.some.injEq] at h;subst h;rfl
 | program k ih=>intro b h w;simp only[pv] at h;exact ih P b h w
 | mark m k ih=>intro b h w;simp only[pv] at h;exact ih b h w
 | load=>intro b h;simp[pv] at h
 | store=>intro b h;simp[pv] at h
 | new=>intro b h;simp[pv] at h
 | shape=>intro b h;simp[pv] at h
 | freeze=>intro b h;simp[pv] at h
 | frozen=>intro b h;simp[pv] at h
 | getObj=>intro b h;simp[pv] at h
 | setObj=>intro b h;simp[pv] at h
 | choose=>intro b h;simp[pv] at h
 | sys=>intro b h;simp[pv] at h
 | halt=>intro b h;simp[pv] at h
end Go.Ev
namespace Go.Ev
open Go Go.RowKit
theorem oT0 {α:Type} (a b:α) (j:Nat):(Bool.rec (motive:=fun _=>α) a b (Nat.beq (Nat.mod j 2) 0):α)=if j % 2=0 then b else a:=by
 have e:Nat.mod j 2=j % 2:=rfl
 rw[e]
 cases h:Nat.beq (j % 2) 0 with
 | true=>simp only[Nat.beq_eq] at h;simp[h]
 | false=>
  have:¬ j % 2=0:=fun e=>by rw[e] at h;simp at h
  simp[this]
theorem VTr.get_nil (j:Nat):VTr.nil.get j=undef:=rfl
theorem VTr.get_node (l r:VTr) (v:Value) (j:Nat):(VTr.node l v r).get j=if j=0 then v else if (j-1) % 2=0 then l.get ((j-1) / 2) else r.get ((j-1) / 2):=by
 cases j with
 | zero=>rfl
 | succ j=>
  have:(VTr.node l v r).get (j+1)=Bool.rec (motive:=fun _=>Value) (r.get (Nat.div j 2)) (l.get (Nat.div j 2)) (Nat.beq (Nat.mod j 2) 0):=rfl
  rw[this,oT0]
  simp only[Nat.add_eq_zero_iff,Nat.succ_ne_self,and_false,if_false,Nat.add_sub_cancel]
  rfl
theorem VTr.go_succ (j:Nat) (x:Value) (f:VTr→Nat→VTr) (l r:VTr) (v:Value):VTr.go (j+1) x f l v r=if j % 2=0 then .node (f l (j / 2)) v r else .node l v (f r (j / 2)):=by
 have:VTr.go (j+1) x f l v r=Bool.rec (motive:=fun _=>VTr) (.node l v (f r (Nat.div j 2))) (.node (f l (Nat.div j 2)) v r) (Nat.beq (Nat.mod j 2) 0):=rfl
 rw[this,oT0]
 rfl
theorem VTr.go_zero (x:Value) (f:VTr→Nat→VTr) (l r:VTr) (v:Value):VTr.go 0 x f l v r=.node l x r:=rfl
theorem VTr.get_set:∀ (n:Nat) (t:VTr) (i:Nat) (x:Value) (j:Nat),i+1<2 ^ n→(VTr.set n t i x).get j=if j=i then x else t.get j:=by
 intro n
 induction n with
 | zero=>intro t i x j h;simp at h
 | succ n ih=>
  intro t i x j h
  have main : ∀ (l r : VTr) (v : Value), (∀ j, t.get j = (VTr.node l v r).get j) →
    (VTr.go i x (fun t i=>VTr.set n t i x) l v r).get j=if j=i then x else t.get j:=by
   intro l r v ht
   rw[ht j]
   cases i with
   | zero=>
    simp only[VTr.go_zero,VTr.get_node]
    by_cases hj:j=0<;>simp[hj]
   | succ k=>
    have hk:k / 2+1<2 ^ n:=by rw[Nat.pow_succ] at h;omega
    rw[VTr.go_succ]
    by_cases hb:k % 2=0
    ·simp only[hb,if_true,VTr.get_node,ih l _ x _ hk]
     by_cases hj:j=0
     ·subst hj;simp
     ·simp only[hj,if_false]
      by_cases hp:(j-1) % 2=0
      ·simp only[hp,if_true]
       by_cases he:j=k+1
       ·subst he;simp
       ·rw[if_neg (by omega),if_neg he]
      ·simp only[hp,if_false]
       rw[if_neg (by intro e;subst e;simp at hp;omega)]
    ·simp only[hb,if_false,VTr.get_node,ih r _ x _ hk]
     by_cases hj:j=0
     ·subst hj;simp
     ·simp only[hj,if_false]
      by_cases hp:(j-1) % 2=0
      ·simp only[hp,if_true]
       rw[if_neg (by intro e;subst e;simp at hp;omega)]
      ·simp only[hp,if_false]
       by_cases he:j=k+1
       ·subst he;simp
       ·rw[if_neg (by omega),if_neg he]
  cases t with
  | nil=>exact main .nil .nil undef (fun j=>by rw[VTr.get_nil,VTr.get_node];simp[VTr.get_nil])
  | node l v r=>exact main l r v (fun j=>rfl)
theorem U_lt:U+1<2 ^ 60:=by unfold U;decide
theorem U_le:U≤100000000000000:=by unfold U;decide
theorem cC0:0<UC:=by unfold UC;decide
theorem U_UC:U<UC:=by unfold U UC;decide
theorem zR2 {α:Type} (a b:α) (i n:Nat):(Bool.rec (motive:=fun _=>α) a b (Nat.ble (Nat.succ i) n):α)=if i<n then b else a:=by
 cases h:Nat.ble (Nat.succ i) n with
 | true=>simp only[Nat.ble_eq] at h;rw[if_pos (by omega)]
 | false=>
  rw[if_neg]
  intro e
  have:Nat.ble (Nat.succ i) n=true:=by simp only[Nat.ble_eq];omega
  rw[this] at h;cases h
theorem VT.get_eq (T:VT) (i:Nat):T.get i=if i<T.sz then T.t.get i else undef:=by
 obtain ⟨sz,t⟩:=T
 exact zR2 _ _ _ _
theorem VT.set_eq (T:VT) (i:Nat) (v:Value):T.set i v=if i<T.sz then ⟨T.sz,T.t.set 60 i v⟩ else T:=by
 obtain ⟨sz,t⟩:=T
 exact zR2 _ _ _ _
theorem VT.set_sz (T:VT) (i:Nat) (v:Value):(T.set i v).sz=T.sz:=by
 rw[VT.set_eq];split<;>rfl
theorem VT.arr_size (T:VT):T.arr.size=T.sz:=by simp[VT.arr]
theorem VT.arr_get? (T:VT) (i:Nat):T.arr[i]?=if i<T.sz then some (T.t.get i) else none:=by
 simp only[VT.arr,List.getElem?_toArray,List.getElem?_map]
 by_cases h:i<T.sz
 ·simp[h]
 ·rw[if_neg h,List.getElem?_eq_none (by simp;omega)];rfl
theorem VT.arr_getD (T:VT) (i:Nat):T.arr.getD i undef=T.get i:=by
 rw[Array.getD_eq_getD_getElem?,VT.arr_get?,VT.get_eq]
 split<;>rfl
theorem VT.arr_set (T:VT) (hU:T.sz<U) (i:Nat) (v:Value):(T.set i v).arr=T.arr.setIfInBounds i v:=by
 rw[VT.set_eq]
 split
 ·rename_i hi
  apply Array.ext_getElem?
  intro j
  rw[VT.arr_get?,Array.getElem?_setIfInBounds,VT.arr_get?,VT.arr_size]
  have hg:=VTr.get_set 60 T.t i v j (by have:=U_lt;omega)
  simp only[hg]
  by_cases hj:i=j
  ·subst hj;simp
  ·rw[if_neg hj,if_neg (Ne.symm hj)]
 ·rename_i hi
  apply Array.ext_getElem?
  intro j
  rw[Array.getElem?_setIfInBounds]
  by_cases hj:i=j
  ·subst hj;rw[if_pos rfl,VT.arr_size,if_neg hi,VT.arr_get?,if_neg hi]
  ·rw[if_neg hj]
theorem VT.fill_get:∀ (l:List Value) (t:VTr) (i j:Nat),i+l.length<U→(VT.fill t i l).get j=if i≤j∧j<i+l.length then l.getD (j-i) undef else t.get j
 | [],t,i,j,_=>by
  simp only[VT.fill,List.length_nil]
  rw[if_neg (by omega)]
 | v :: vs,t,i,j,h=>by
  simp only[List.length_cons] at h
  simp only[VT.fill,List.length_cons]
  rw[VT.fill_get vs _ (i+1) j (by omega),VTr.get_set 60 t i v j (by have:=U_lt;omega)]
  by_cases h1:i+1≤j∧j<i+1+vs.length
  ·rw[if_pos h1,if_pos (by omega)]
   have:j-i=(j-(i+1))+1:=by omega
   rw[this];rfl
  ·rw[if_neg h1]
   by_cases h2:j=i
   ·subst h2;rw[if_pos rfl,if_pos (by omega)];simp
   ·rw[if_neg h2,if_neg (by omega)]
theorem VT.of_arr (l:List Value) (n:Nat) (hU:(VT.of l n).sz<U):(VT.of l n).arr=⟨l⟩++Array.replicate (n-l.length) undef:=by
 have hU':l.length+(n-l.length)<U:=hU
 apply Array.ext_getElem?
 intro j
 rw[VT.arr_get?]
 have hsz:(VT.of l n).sz=l.length+(n-l.length):=rfl
 have ht:(VT.of l n).t.get j=if 0≤j∧j<0+l.length then l.getD (j-0) undef else undef:=VT.fill_get l .nil 0 j (by omega)
 rw[hsz,ht,Array.getElem?_append]
 simp only[List.size_toArray,Nat.zero_le,true_and,Nat.zero_add,Nat.sub_zero]
 by_cases h1:j<l.length
 ·rw[if_pos (by omega),if_pos h1,if_pos h1]
  simp[h1]
 ·rw[if_neg h1,if_neg h1]
  by_cases h2:j<l.length+(n-l.length)
  ·rw[if_pos h2,Array.getElem?_replicate,if_pos (by omega)]
  ·rw[if_neg h2,Array.getElem?_replicate,if_neg (by omega)]
theorem fB0:∀ (l:List (Nat×Value)) (T:VT),(uG T l).sz=T.sz
 | [],_=>rfl
 | (t,v) :: l,T=>by rw[uG,fB0 l,VT.set_sz]
theorem zR0:∀ (l:List (Nat×Value)) (T:VT),T.sz<U→(uG T l).arr=l.foldl (fun tmps x=>tmps.setIfInBounds x.1 x.2) T.arr
 | [],_,_=>rfl
 | (t,v) :: l,T,h=>by rw[uG,zR0 l _ (by rw[VT.set_sz];exact h),VT.arr_set T h];rfl
theorem qN (n:Nat) (a:Option Addr):fscP n a=sc n (.pointer a):=by
 cases a with
 | none=>rfl
 | some a=>
  obtain ⟨b,o,s⟩:=a
  rfl
theorem mB0 (n:Nat) (a:Option Addr) (l c:Nat):fscP n a=sc n (.slice a l c):=by
 rw[qN];cases a<;>simp[sc]
theorem mN1 (a b:Bool):(Bool.rec (motive:=fun _=>Bool) false b a:Bool)=(a&&b):=by cases a<;>rfl
theorem sZ1 (n:Nat) (v:Value):fsc1 n v=sc n v:=by
 cases v<;>first|rfl|exact qN n _|exact mB0 n _ _ _|simp[fsc1,sc]
theorem mC0 (n:Nat):∀ l,fscL n l=scL n l
 | []=>rfl
 | v :: l=>by
  have:fscL n (v :: l)=Bool.rec (motive:=fun _=>Bool) false (fscL n l) (fsc1 n v):=rfl
  rw[this,mN1,sZ1,mC0 n l]
  simp[scL]
theorem kS1 (n:Nat) (v:Value):fsc n v=sc n v:=by
 cases v with
 | agg cs=>obtain ⟨l⟩:=cs;exact (mC0 n l).trans (by simp[sc])
 | tuple cs=>obtain ⟨l⟩:=cs;exact (mC0 n l).trans (by simp[sc])
 | pointer a=>exact qN n a
 | slice a l c=>exact mB0 n a l c
 | _=>first | rfl | simp[fsc,sc]
theorem tH1 (n:Nat) (v:Value):fone n v=(one v&&sc n v):=by
 cases v<;>first|rfl|exact qN n _|exact mB0 n _ _ _|simp[fone,one,sc]
theorem uS (n:Nat):∀ l,uF n l=(l.all one&&scL n l)
 | []=>rfl
 | v :: l=>by
  have:uF n (v :: l)=Bool.rec (motive:=fun _=>Bool) false (uF n l) (fone n v):=rfl
  rw[this,mN1,tH1,uS n l]
  simp only[List.all_cons,scL]
  cases one v<;>cases sc n v<;>cases l.all one<;>rfl
theorem cM0:∀ (n:Nat) (l r:List Value),qL0 n l=some r→n≤l.length∧r=l.take n
 | 0,l,r,h=>by
  have:qL0 0 l=some []:=rfl
  rw[this] at h;cases h;simp
 | n+1,[],r,h=>by
  have:qL0 (n+1) []=none:=rfl
  rw[this] at h;cases h
 | n+1,v :: l,r,h=>by
  have:qL0 (n+1) (v :: l)=Option.rec (motive:=fun _=>Option (List Value)) none (fun x=>some (v :: x)) (qL0 n l):=rfl
  rw[this] at h
  cases ht:qL0 n l with
  | none=>rw[ht] at h;cases h
  | some x=>
   rw[ht] at h
   have h':some (v :: x)=some r:=h
   cases h'
   obtain ⟨h1,h2⟩:=cM0 n l x ht
   exact ⟨by simp;omega,by rw[h2];simp⟩
theorem eA0:∀ (n:Nat) (l r:List Value),gQ0 n l=some r→n≤l.length∧r=l.drop n
 | 0,l,r,h=>by
  have:gQ0 0 l=some l:=rfl
  rw[this] at h;cases h;simp
 | n+1,[],r,h=>by
  have:gQ0 (n+1) []=none:=rfl
  rw[this] at h;cases h
 | n+1,v :: l,r,h=>by
  have:gQ0 (n+1) (v :: l)=gQ0 n l:=rfl
  rw[this] at h
  obtain ⟨h1,h2⟩:=eA0 n l r h
  exact ⟨by simp;omega,by rw[h2];simp⟩
theorem yD0 {cs:List Value} {off n:Nat} {r:List Value} (h:takeN cs off n=some r):off+n≤cs.length∧r=(cs.drop off).take n:=by
 unfold takeN at h
 cases hd:gQ0 off cs with
 | none=>rw[hd] at h;cases h
 | some l=>
  rw[hd] at h
  have h':qL0 n l=some r:=h
  obtain ⟨h1,h2⟩:=eA0 _ _ _ hd
  obtain ⟨h3,h4⟩:=cM0 _ _ _ h'
  subst h2
  simp at h3
  exact ⟨by omega,h4⟩
theorem nK0:∀ (n:Nat) (l:List Value),n≤l.length→qL0 n l=some (l.take n)
 | 0,l,_=>by
  have:qL0 0 l=some []:=rfl
  rw[this];simp
 | n+1,[],h=>by simp at h
 | n+1,v :: l,h=>by
  have:qL0 (n+1) (v :: l)=Option.rec (motive:=fun _=>Option (List Value)) none (fun x=>some (v :: x)) (qL0 n l):=rfl
  rw[this,nK0 n l (by simpa using h)]
  rfl
theorem eR0 (cs:List Value) {n:Nat} (h:cs.length=n):takeN cs 0 n=some cs:=by
 have:takeN cs 0 n=qL0 n cs:=rfl
 rw[this,nK0 n cs (by omega),List.take_of_length_le (by omega)]
theorem nT0:∀ (vs cs r:List Value),gB0 vs cs=some r→vs.length≤cs.length∧r=vs++cs.drop vs.length
 | [],cs,r,h=>by
  have:gB0 [] cs=some cs:=rfl
  rw[this] at h;cases h;simp
 | v :: vs,[],r,h=>by
  have:gB0 (v :: vs) []=none:=rfl
  rw[this] at h;cases h
 | v :: vs,c :: cs,r,h=>by
  have:gB0 (v :: vs) (c :: cs)=Option.rec (motive:=fun _=>Option (List Value)) none (fun x=>some (v :: x)) (gB0 vs cs):=rfl
  rw[this] at h
  cases ht:gB0 vs cs with
  | none=>rw[ht] at h;cases h
  | some x=>
   rw[ht] at h
   have h':some (v :: x)=some r:=h
   cases h'
   obtain ⟨h1,h2⟩:=nT0 vs cs x ht
   exact ⟨by simp;omega,by rw[h2];simp⟩
theorem lH0:∀ (n:Nat) (vs cs r:List Value),setE n vs cs=some r→n+vs.length≤cs.length∧r=setFrom cs n vs
 | 0,vs,cs,r,h=>by
  have:setE 0 vs cs=gB0 vs cs:=rfl
  rw[this] at h
  obtain ⟨h1,h2⟩:=nT0 vs cs r h
  exact ⟨by omega,by rw[h2];simp[setFrom]⟩
 | n+1,vs,[],r,h=>by
  have:setE (n+1) vs []=none:=rfl
  rw[this] at h;cases h
 | n+1,vs,c :: cs,r,h=>by
  have:setE (n+1) vs (c :: cs)=Option.rec (motive:=fun _=>Option (List Value)) none (fun x=>some (c :: x)) (setE n vs cs):=rfl
  rw[this] at h
  cases ht:setE n vs cs with
  | none=>rw[ht] at h;cases h
  | some x=>
   rw[ht] at h
   have h':some (c :: x)=some r:=h
   cases h'
   obtain ⟨h1,h2⟩:=lH0 n vs cs x ht
   refine ⟨by simp;omega,?_⟩
   rw[h2]
   simp only[setFrom,List.take_succ_cons,List.cons_append]
   rw[show n+1+vs.length=(n+vs.length)+1 by omega,List.drop_succ_cons]
theorem lG0 {cs vs r:List Value} {off:Nat} (h:setN cs off vs=some r):off+vs.length≤cs.length∧r=setFrom cs off vs:=lH0 off vs cs r h
end Go.Ev
namespace Go.Ev
open Go Go.RowKit
structure Tm (Γ:Gam) (NG:Nat) (tm:VT) (ca:Act):Prop where
 sm:tm.sz<U
 tm:ca.tmps=tm.arr.map (con Γ)
 gl:∀ g,g<NG→Γ.b g=g
theorem qX0 (Γ:Gam):con Γ undef=undef:=rfl
theorem Tm.eval {Γ:Gam} {NG:Nat} {tm:VT} {ca:Act} (h:Tm Γ NG tm ca) {x:Operand} (hx:uE NG x=true):ca.eval x=con Γ (ev tm x):=by
 cases x with
 | tmp t=>
  have e:ev tm (.tmp t)=tm.get t:=rfl
  rw[e,← VT.arr_getD]
  simp only[Act.eval,h.tm,Array.getD_eq_getD_getElem?,Array.getElem?_map]
  cases tm.arr[t]?<;>simp[qX0]
 | const v=>exact (qZ Γ v hx).symm
 | global g=>
  have hg:g<NG:=by simpa[uE] using hx
  have e:ev tm (.global g)=.pointer (some ⟨g,0,none⟩):=rfl
  rw[e]
  simp[Act.eval,con,wM,h.gl g hg]
 | func f=>
  have e:ev tm (.func f)=.func (.func f) #[] #[]:=rfl
  rw[e]
  simp[Act.eval,con,kG0,conL]
theorem gU0:∀ (a b:List UInt8),beqB a b=(a == b)
 | [],[]=>rfl
 | [],_ :: _=>rfl
 | _ :: _,[]=>rfl
 | x :: xs,y :: ys=>by
  have h:Nat.beq x.toNat y.toNat=(x == y):=by
   by_cases e:x=y
   ·subst e;simp
   ·have:x.toNat≠y.toNat:=fun h=>e (UInt8.toNat_inj.1 h)
    have h1:Nat.beq x.toNat y.toNat=false:=by
     rw[Bool.eq_false_iff];intro h;exact this (Nat.eq_of_beq_eq_true h)
    rw[h1];simp[e]
  simp only[beqB,h,List.cons_beq_cons]
  cases hxy:(x == y) with
  | false=>simp
  | true=>simp[gU0 xs ys]
theorem uR {P:Program} {s:Sem Value} {x:Bool} {v:Value} (h:pvF P s x=some v):x=true∧flat v=true∧∀ w,s.run P w=.ok v w:=by
 unfold pvF at h
 cases x with
 | false=>simp at h
 | true=>
  cases hp:pv P s with
  | none=>simp[hp] at h
  | some u=>
   cases hf:flat u with
   | false=>simp[hp,hf] at h
   | true=>
    simp[hp,hf] at h
    subst h
    exact ⟨rfl,hf,wT2 P s u hp⟩
theorem jS {P:Program} {t:TypeId} {d:TypeDesc} (h:P.underlying t=some d) (w:World):(underlying t).run P w=.ok d w:=by
 simp[underlying,h]
theorem kP0 {P:Program} {t e:TypeId} (hu:P.underlying t=some (.slice e)) (a:Option Addr) (n c n' c':Nat) (w:World) :
  (Op.equal t (.slice a n c) (.slice none n' c')).run P w=.ok a.isNone w:=by
 have h:∀ d:Nat,(Op.equalIn (d+1) t (.slice a n c) (.slice none n' c')).run P w=.ok a.isNone w:=fun d=>by
  cases a<;>simp[Op.equalIn,jS hu]
 exact h 9999
theorem uS0 {P:Program} {t e:TypeId} (hu:P.underlying t=some (.pointer e)) (a:Option Addr) (w:World) :
  (Op.equal t (.pointer a) (.pointer none)).run P w=.ok a.isNone w:=by
 have h:∀ d:Nat,(Op.equalIn (d+1) t (.pointer a) (.pointer none)).run P w=.ok a.isNone w:=fun d=>by
  cases a<;>simp[Op.equalIn,jS hu]
 exact h 9999
theorem mO0 {P:Program} {op:BinOp} {t:TypeId} {x y:Operand} {a b v:Value} (Γ:Gam) (h:jE P op t x y a b=some v) (w:World) :
  (do eqGuard op t x y (con Γ a) (con Γ b);binOp op t (con Γ a) (con Γ b):Sem Value).run P w=.ok (con Γ v) w:=by
 unfold jE at h
 split at h
 ·injection h with h;subst h
  simp[con,eqGuard,binOp,Op.stringOp,gU0,ByteArray.toList_eq]
 ·injection h with h;subst h
  simp[con,eqGuard,binOp,Op.stringOp,gU0,ByteArray.toList_eq]
 ·rename_i u n c n' c'
  split at h<;>cases h
  rename_i e hu
  cases u<;>simp[con,eqGuard,binOp,kP0 hu]
 ·rename_i u n c n' c'
  split at h<;>cases h
  rename_i e hu
  cases u<;>simp[con,eqGuard,binOp,kP0 hu]
 ·rename_i u
  split at h<;>cases h
  rename_i e hu
  cases u<;>simp[con,eqGuard,binOp,uS0 hu]
 ·rename_i u
  split at h<;>cases h
  rename_i e hu
  cases u<;>simp[con,eqGuard,binOp,uS0 hu]
 ·obtain ⟨hf,hv,hr⟩:=uR h
  rw[Bool.and_eq_true] at hf
  rw[qZ Γ a hf.1,qZ Γ b hf.2,qZ Γ v hv]
  exact hr w
theorem uV {P:Program} {t:TypeId} {n:Nat} (h:szT P t=some n) (w:World):(sizeOf t).run P w=.ok n w:=by
 unfold szT at h
 split at h<;>cases h
 rename_i i hi
 simp[sizeOf,typeInfo,hi]
theorem wP0 {P:Program} {t:TypeId} {b:Bool} (h:bU0 P t=some b) (w:World):(isAgg t).run P w=.ok b w:=by
 unfold bU0 at h
 split at h<;>cases h
 ·rename_i hu;simp[isAgg,jS hu]
 ·rename_i hu;simp[isAgg,jS hu]
 ·rename_i d h1 h2 hu
  simp only[isAgg,Sem.run_bind,jS hu,Result.andThen_ok]
  cases d<;>simp_all
theorem fJ0 {P:Program} {t:TypeId} {cs:List Value} {off:Nat} {v:Value} (Γ:Gam) (h:dD0 P t cs off=some v) (w:World) :
  (part t ((⟨cs⟩:Array Value).map (con Γ)) off).run P w=.ok (con Γ v) w:=by
 unfold dD0 at h
 split at h
 ·rename_i ha
  split at h
  case h_2=>cases h
  rename_i n hn
  split at h
  case h_2=>cases h
  rename_i l hl
  split at h<;>cases h
  rename_i l' hl'
  obtain ⟨_,rfl⟩:=eA0 _ _ _ hl
  obtain ⟨_,rfl⟩:=cM0 _ _ _ hl'
  simp only[part,Sem.run_bind,wP0 ha,Result.andThen_ok,if_true,uV hn,Sem.run_pure]
  congr 1
  rw[qY0]
  congr 1
  apply Array.ext'
  simp[List.map_take,List.map_drop,List.extract_eq_take_drop]
 ·rename_i ha
  simp[part,wP0 ha,h]
 ·cases h
theorem yU0 (cs vs:List Value) (off:Nat) (h:off+vs.length≤cs.length) :
  (vs.zipIdx.foldl (fun (cs:Array Value) (x:Value×Nat)=>cs.setIfInBounds (off+x.2) x.1) ⟨cs⟩)=⟨setFrom cs off vs⟩:=by
 have key : ∀ (vs : List Value) (k : Nat) (cs : List Value), off + k + vs.length ≤ cs.length →
   ((vs.zipIdx k).foldl (fun (cs:Array Value) (x:Value×Nat)=>cs.setIfInBounds (off+x.2) x.1) ⟨cs⟩)=⟨setFrom cs (off+k) vs⟩:=by
  intro vs
  induction vs with
  | nil=>intro k cs _;simp[setFrom]
  | cons v vs ih=>
   intro k cs hl
   simp only[List.length_cons] at hl
   simp only[List.zipIdx_cons,List.foldl_cons]
   rw[show ((⟨cs⟩:Array Value).setIfInBounds (off+k) v)=⟨cs.set (off+k) v⟩ by apply Array.ext';simp]
   rw[ih (k+1) _ (by simp;omega)]
   congr 1
   simp only[setFrom,← Nat.add_assoc,List.length_cons]
   rw[List.take_set,List.drop_set]
   rw[if_pos (by omega)]
   have h1:cs.take (off+k+1)=cs.take (off+k)++[cs[off+k]'(by omega)]:=by
    rw[List.take_succ_eq_append_getElem]
   rw[h1]
   rw[List.set_append_right _ _ (by simp;omega)]
   have h2:off+k-(List.take (off+k) cs).length=0:=by simp;omega
   rw[h2]
   simp only[List.set_cons_zero,List.append_assoc,List.cons_append,List.nil_append]
   rw[show off+k+1+vs.length=off+k+vs.length+1 by omega]
 simpa using key vs 0 cs (by simpa using h)
theorem uX0 (Γ:Gam) (cs vs:List Value) (off:Nat):(setFrom cs off vs).map (con Γ)=setFrom (cs.map (con Γ)) off (vs.map (con Γ)):=by
 simp[setFrom]
theorem gM0 (Γ:Gam) (place:Nat→Option (Nat×Nat)):∀ (parts:List (Nat×Value)) (cs out:List Value),gN0 place cs parts=some out→
  Instr.fill place ⟨cs.map (con Γ)⟩ (parts.map fun x=>(x.1,con Γ x.2))=some ⟨out.map (con Γ)⟩:=by
 intro parts
 induction parts with
 | nil=>intro cs out h;simp only[gN0,Option.some.injEq] at h;subst h;simp[Instr.fill]
 | cons x rest ih=>
  obtain ⟨i,v⟩:=x
  intro cs out h
  simp only[gN0] at h
  cases hp:place i with
  | none=>simp[hp] at h
  | some os=>
   obtain ⟨off,size⟩:=os
   simp only[hp] at h
   split at h
   ·rename_i hb
    simp only[Nat.beq_eq] at hb
    split at h
    case h_2=>cases h
    rename_i cs' hcs
    obtain ⟨hb2,rfl⟩:=lH0 _ _ _ _ hcs
    simp only[List.map_cons,Instr.fill,hp,zH0,Array.size_map]
    rw[if_neg (by simp[hb];simpa[hb] using hb2)]
    have hz:(v.cells.map (con Γ)).zipIdx.foldl (fun (cs:Array Value) (x:Value×Nat)=>cs.setIfInBounds (off+x.2) x.1) ⟨cs.map (con Γ)⟩=⟨(setFrom cs off v.cells.toList).map (con Γ)⟩:=by
     rw[uX0,← yU0 _ _ _ (by simpa using hb2),← Array.foldl_toList]
     simp
    exact (congrArg (fun c=>Instr.fill place c _) hz).trans (ih _ _ h)
   ·cases h
theorem fV0 {v:Value} (h:flat v=true):jT v.cells.toList=true:=by
 cases v with
 | agg cs=>obtain ⟨l⟩:=cs;simpa[flat,Value.cells] using h
 | _=>simp_all [Value.cells,jT]
theorem kF0 {v:Value} (Γ:Gam) (h:flat v=true):v.cells.toList.map (con Γ)=v.cells.toList:=by
 rw[← bB];exact gR Γ _ (fV0 h)
theorem fI0 {P:Program} {w:World}:∀ {fs:List Field} {pl:List (Nat×Nat)},placesOf P fs=some pl→
  (fs.mapM fun f=>do pure (f.offset,← sizeOf f.type):Sem (List (Nat×Nat))).run P w=.ok pl w:=by
 intro fs
 induction fs with
 | nil=>intro pl h;simp[placesOf] at h;subst h;simp
 | cons f fs ih=>
  intro pl h
  simp only[placesOf] at h
  split at h<;>cases h
  rename_i n l hn hl
  simp only[List.mapM_cons,Sem.run_bind,uV hn,Result.andThen_ok,Sem.run_pure,ih hl]
theorem sX0 {P:Program} {t:TypeId} {parts:List (Nat×Value)} {v:Value} (Γ:Gam) (h:gT0 P t parts=some v) (w:World) :
  (Instr.build t ⟨parts.map fun x=>(x.1,con Γ x.2)⟩).run P w=.ok (con Γ v) w:=by
 unfold gT0 at h
 split at h
 ·cases h
 rename_i i hi
 split at h
 ·cases h
 rename_i z hz
 split at h
 ·rename_i fs hf hu
  split at h
  ·rename_i pl hpl
   split at h<;>cases h
   rename_i cs hcs
   have hr:=gM0 Γ _ _ _ _ hcs
   rw[kF0 Γ hf] at hr
   have hm:(fs.mapM fun f=>do pure (f.offset,← sizeOf f.type):Sem (Array (Nat×Nat))).run P w=.ok ⟨pl⟩ w:=by
    have h2:=fI0 (w:=w) hpl
    obtain ⟨fs⟩:=fs
    rw[List.mapM_toArray]
    simp only[Sem.run_map]
    simp only at h2
    rw[h2]
    simp
   have hr':Instr.fill (fun x=>(⟨pl⟩:Array (Nat×Nat))[x]?) z.cells (parts.map fun x=>(x.1,con Γ x.2))=some ⟨cs.map (con Γ)⟩:=by
    simpa using hr
   simp only[Instr.build,Sem.run_bind,zeroValue,typeInfo,run_program,Result.andThen_ok,hi,Sem.run_pure,hz,jS hu]
   rw[hm]
   simp only[Result.andThen_ok]
   simp only[hr',Sem.run_pure,qY0]
   simp
  ·cases h
 ·rename_i n e hf hu
  split at h
  ·rename_i n' hn
   split at h<;>cases h
   rename_i cs hcs
   have hr:=gM0 Γ _ _ _ _ hcs
   rw[kF0 Γ hf] at hr
   simp only[Instr.build,Sem.run_bind,zeroValue,typeInfo,run_program,Result.andThen_ok,hi,Sem.run_pure,hz,jS hu,uV hn]
   have hr':Instr.fill (fun i=>some (i*n',n')) z.cells (parts.map fun x=>(x.1,con Γ x.2))=some ⟨cs.map (con Γ)⟩:=hr
   simp only[hr',Sem.run_pure,qY0]
   simp
  ·cases h
 ·cases h
theorem uN0 (Γ:Gam) (a:Addr) (n:Nat):(wM Γ a).add n=wM Γ (a.add n):=by
 unfold Addr.add wM
 split<;>rfl
theorem kQ {P:Program} {w:World} (Γ:Gam) {k:IntKind} {n y:Nat} {code:BoundsCode} (h:n≤y) :
  (Instr.sliceBound (con Γ (.int k (n:Int))) y code).run P w=.ok n w:=by
 simp only[con]
 have:=run_sliceBound (P:=P) w k (n:Int) y code (Int.natCast_nonneg n) (Int.ofNat_le.2 h)
 simpa using this
theorem jP0 {len top:Nat} {mx hi lo:Option Value} {l h:Nat} {m:Option Nat} (hb:bounds len top mx hi lo=some (l,h,m)) :
  ((mx=none∧m=none)∨∃ k mm,mx=some (.int k (.ofNat mm))∧m=some mm∧mm≤top)∧
   ((hi=none∧m=none∧h=len)∨(∃ k,hi=some (.int k (.ofNat h))∧h≤m.getD top))∧
   ((lo=none∧l=0)∨(∃ k,lo=some (.int k (.ofNat l))∧l≤h)):=by
 unfold bounds at hb
 split at hb
 ·cases hb
 rename_i m' hm
 split at hb
 ·cases hb
 rename_i h' hh
 split at hb
 ·cases hb
 rename_i l' hl
 cases hb
 refine ⟨?_,?_,?_⟩
 ·split at hm
  ·cases hm;exact .inl ⟨rfl,rfl⟩
  ·rename_i k mm
   split at hm<;>cases hm
   rename_i hle
   exact .inr ⟨k,mm,rfl,rfl,by simpa using hle⟩
  ·cases hm
 ·split at hh
  ·cases hh;exact .inl ⟨rfl,rfl,rfl⟩
  ·cases hh
  ·rename_i k hv
   split at hh<;>cases hh
   rename_i hle
   exact .inr ⟨k,rfl,by simpa using hle⟩
  ·rename_i k hv mm
   split at hh<;>cases hh
   rename_i hle
   exact .inr ⟨k,rfl,by simpa using hle⟩
  ·cases hh
 ·split at hl
  ·cases hl;exact .inl ⟨rfl,rfl⟩
  ·rename_i k lv
   split at hl<;>cases hl
   rename_i hle
   exact .inr ⟨k,rfl,by simpa using hle⟩
  ·cases hl
theorem uO0 {P:Program} {w:World} {len top cap:Nat} {mx hi lo:Option Value} {l h:Nat} {m:Option Nat} (Γ:Gam) (isS:Bool)
  (hb:bounds len top mx hi lo=some (l,h,m)) (ht:top≤cap) :
  (Instr.sliceBounds isS len cap (lo.map (con Γ)) (hi.map (con Γ)) (mx.map (con Γ))).run P w=.ok (l,h,m.getD cap) w:=by
 have key:=jP0 hb
 obtain ⟨k1,k2,k3⟩:=key
 rcases k1 with ⟨rfl,rfl⟩|⟨k,mm,rfl,rfl,hmm⟩
 ·rcases k2 with ⟨rfl,_,rfl⟩|⟨k,rfl,hh⟩
  ·rcases k3 with ⟨rfl,rfl⟩|⟨k,rfl,hl⟩
   ·simp[Instr.sliceBounds]
   ·simp[Instr.sliceBounds,kQ Γ hl]
  ·have hh':h≤cap:=by simp at hh;omega
   rcases k3 with ⟨rfl,rfl⟩|⟨k,rfl,hl⟩
   ·simp[Instr.sliceBounds,kQ Γ hh']
   ·simp[Instr.sliceBounds,kQ Γ hh',kQ Γ hl]
 ·have hmm':mm≤cap:=by omega
  rcases k2 with ⟨_,h0,_⟩|⟨k,rfl,hh⟩
  ·cases h0
  ·simp only[Option.getD_some] at hh
   rcases k3 with ⟨rfl,rfl⟩|⟨k,rfl,hl⟩
   ·simp[Instr.sliceBounds,kQ Γ hmm',kQ Γ hh]
   ·simp[Instr.sliceBounds,kQ Γ hmm',kQ Γ hh,kQ Γ hl]
theorem cW0 {P:Program} {w:World} {t:TypeId} {a:Option Addr} {len cap:Nat} {lo hi mx:Option Value} {v:Value} (Γ:Gam)
  (h:uB P t a len cap lo hi mx=some v) :
  (Instr.sliceAt t (con Γ (.slice a len cap)) (lo.map (con Γ)) (hi.map (con Γ)) (mx.map (con Γ))).run P w=.ok (con Γ v) w:=by
 unfold uB at h
 split at h
 ·rename_i e hu
  split at h
  ·rename_i size hs hc
   split at h
   ·rename_i l hh m hb
    have hlt:cap<UC:=by simpa using hc
    have hc':∀ a:Option Addr,con Γ (.slice a len cap)=.slice (a.map (wM Γ)) len cap:=by
     intro a;cases a with
     | none=>simp[con]
     | some a=>simp[con,uC,hlt]
    have hc2:∀ (a:Option Addr) (n c:Nat),c≤cap→con Γ (.slice a n c)=.slice (a.map (wM Γ)) n c:=by
     intro a n c hcc;cases a with
     | none=>simp[con]
     | some a=>simp[con,uC,show c<UC by omega]
    rw[hc' a]
    have hbr:=uO0 (P:=P) (w:=w) Γ true hb (Nat.le_refl _)
    have hml:m.getD cap≤cap:=by
     rcases (jP0 hb).1 with ⟨_,rfl⟩|⟨k,mm,_,rfl,hle⟩
     ·simp
     ·simpa using hle
    simp only[Instr.sliceAt,Instr.slice,Sem.run_bind,jS hu,Result.andThen_ok,hbr,uV hs,Sem.run_pure]
    dsimp only at h
    split at h
    ·rename_i he
     simp only[Nat.beq_eq] at he
     cases h
     rw[hc2 _ _ _ (by omega),if_pos he]
    ·rename_i he
     have he':m.getD cap≠l:=fun e=>by rw[e] at he;simp at he
     cases h
     rw[hc2 _ _ _ (by omega),if_neg he']
     cases a<;>simp[uN0]
   ·cases h
  ·cases h
 ·cases h
theorem eX0 {P:Program} {w:World} {t:TypeId} {a:Addr} {lo hi mx:Option Value} {v:Value} (Γ:Gam) (h:jG0 P t a lo hi mx=some v) :
  (Instr.sliceAt t (con Γ (.pointer (some a))) (lo.map (con Γ)) (hi.map (con Γ)) (mx.map (con Γ))).run P w=.ok (con Γ v) w:=by
 unfold jG0 at h
 split at h
 ·rename_i n e hu
  split at h
  ·rename_i size hs hc
   split at h
   ·rename_i l hh m hb
    have hlt : n < UC := by have h1 : n < U := by simpa using hc
                            have:=U_UC;omega
    have hc2:∀ (a:Addr) (k c:Nat),c≤n→con Γ (.slice (some a) k c)=.slice (some (wM Γ a)) k c:=by
     intro a k c hcc
     simp[con,uC,show c<UC by omega]
    have hbr:=uO0 (P:=P) (w:=w) Γ false hb (Nat.le_refl _)
    have hml:m.getD n≤n:=by
     rcases (jP0 hb).1 with ⟨_,rfl⟩|⟨k,mm,_,rfl,hle⟩
     ·simp
     ·simpa using hle
    simp only[con,Instr.sliceAt,Instr.sureAddr,Sem.run_bind,jS hu,Result.andThen_ok,hbr,uV hs,Sem.run_pure]
    dsimp only at h
    split at h
    ·rename_i he
     simp only[Nat.beq_eq] at he
     cases h
     rw[hc2 _ _ _ (by omega),if_pos he]
    ·rename_i he
     have he':m.getD n≠l:=fun e=>by rw[e] at he;simp at he
     cases h
     rw[hc2 _ _ _ (by omega),if_neg he',uN0]
   ·cases h
  ·cases h
 ·cases h
end Go.Ev
namespace Go.Ev
open Go Go.RowKit
theorem bX0 {P:Program} {Γ:Gam} {NG:Nat} {tm:VT} {ca:Act} {o:Oper} {v:Value} (ht:Tm Γ NG tm ca)
  (hop:o.op.operands.all (uE NG)=true) (h:kO P o tm=some v) (w:World) :
  (execOp ca.eval o).run P w=.ok (.value (con Γ v)) w:=by
 have he:∀ x∈o.op.operands,ca.eval x=con Γ (ev tm x):=fun x hx=>ht.eval (by
  rw[Array.all_eq_true_iff_forall_mem] at hop;exact hop x hx)
 unfold kO at h
 split at h
 ·rename_i x ho
  cases h
  simp[execOp,ho,he x (by simp[ho,Op.operands])]
 ·rename_i x ho
  cases h
  simp[execOp,ho,he x (by simp[ho,Op.operands])]
 ·rename_i c a b ho
  have hc:=he c (by simp[ho,Op.operands])
  have ha:=he a (by simp[ho,Op.operands])
  have hb:=he b (by simp[ho,Op.operands])
  split at h<;>cases h
  ·rename_i hx;simp[execOp,ho,hc,hx,ha,con,asBool]
  ·rename_i hx;simp[execOp,ho,hc,hx,hb,con,asBool]
 ·rename_i t i ho
  have hc:=he t (by simp[ho,Op.operands])
  split at h
  ·rename_i vs hx
   simp[execOp,ho,hc,hx,jN0,Instr.extract,h]
  ·cases h
 ·rename_i op t x y yt ho
  have hx:=he x (by simp[ho,Op.operands])
  have hy:=he y (by simp[ho,Op.operands])
  have hr:=mO0 Γ h w
  simp only[Sem.run_bind] at hr
  simp only[execOp,ho,Sem.run_bind,hx,hy,hr,Result.andThen_ok,Sem.run_pure]
 ·rename_i op t x ho
  have hx:=he x (by simp[ho,Op.operands])
  obtain ⟨hf,hv,hr⟩:=uR h
  simp[execOp,ho,hx,qZ Γ _ hf,hr w,qZ Γ _ hv]
 ·rename_i s d x ho
  have hx:=he x (by simp[ho,Op.operands])
  obtain ⟨hf,hv,hr⟩:=uR h
  simp[execOp,ho,hx,qZ Γ _ hf,hr w,qZ Γ _ hv]
 ·rename_i s x f ho
  have hx:=he x (by simp[ho,Op.operands])
  split at h
  ·rename_i fs a hu hxe
   split at h
   ·rename_i fl hfl
    split at h<;>cases h
    rename_i n hn
    simp[execOp,ho,hx,hxe,con,Instr.fieldAt,jS hu,hfl,Instr.sureAddr,fieldPlace,uV hn,uN0]
   ·cases h
  ·cases h
 ·rename_i t x f ho
  have hx:=he x (by simp[ho,Op.operands])
  split at h
  ·rename_i fs cs hu hxe
   split at h
   ·rename_i fl hfl
    have hp:=fJ0 Γ h w
    simp only[Array.toArray_toList] at hp
    simp[execOp,ho,hx,hxe,qY0,Instr.field,jS hu,hfl,asAgg,hp]
   ·cases h
  ·cases h
 ·rename_i t x i ho
  have hx:=he x (by simp[ho,Op.operands])
  have hi:=he i (by simp[ho,Op.operands])
  split at h
  ·rename_i e a len c k n hu hxe hie
   split at h<;>cases h
   rename_i size hlt hs
   simp only[Nat.blt_eq] at hlt
   simp[execOp,ho,hx,hxe,hi,hie,con,Instr.indexAt,asIntOf,jS hu,uV hs,uN0,hlt]
  ·rename_i len e a k n hu hxe hie
   split at h<;>cases h
   rename_i size hlt hs
   simp only[Nat.blt_eq] at hlt
   simp[execOp,ho,hx,hxe,hi,hie,con,Instr.indexAt,asIntOf,jS hu,uV hs,uN0,hlt,Instr.sureAddr]
  ·cases h
 ·rename_i t x i ho
  have hx:=he x (by simp[ho,Op.operands])
  have hi:=he i (by simp[ho,Op.operands])
  split at h
  ·rename_i s k n hxe hie
   obtain ⟨_,hv,hr⟩:=uR h
   simp[execOp,ho,hx,hxe,hi,hie,con,hr w,qZ Γ _ hv]
  ·rename_i cs k n hxe hie
   split at h
   ·rename_i len e hu
    split at h
    ·rename_i size hlt hs
     simp only[Nat.blt_eq] at hlt
     have hp:=fJ0 Γ h w
     simp only[Array.toArray_toList] at hp
     simp[execOp,ho,hx,hxe,hi,hie,qY0,con,Instr.index,asIntOf,jS hu,uV hs,hlt,hp]
    ·cases h
   ·cases h
  ·cases h
 ·rename_i t x lo hi mx ho
  have hx:=he x (by simp[ho,Op.operands])
  have hlo:lo.map ca.eval=(lo.map (ev tm)).map (con Γ):=by
   cases lo with
   | none=>rfl
   | some y=>simp[he y (by simp[ho,Op.operands])]
  have hhi:hi.map ca.eval=(hi.map (ev tm)).map (con Γ):=by
   cases hi with
   | none=>rfl
   | some y=>simp[he y (by simp[ho,Op.operands])]
  have hmx:mx.map ca.eval=(mx.map (ev tm)).map (con Γ):=by
   cases mx with
   | none=>rfl
   | some y=>simp[he y (by simp[ho,Op.operands])]
  have fl:∀ x:Option Value,x.all flat=true→x.map (con Γ)=x:=fun x hx=>by
   cases x with
   | none=>rfl
   | some y=>simp at hx;simp[qZ Γ y hx]
  split at h
  ·rename_i s hxe
   obtain ⟨hf,hv,hr⟩:=uR h
   simp only[Bool.and_eq_true] at hf
   simp only[execOp,ho,hx,hxe,con,hlo,hhi,hmx,fl _ hf.1.1,fl _ hf.1.2,fl _ hf.2,Sem.run_bind,hr w,Result.andThen_ok,Sem.run_pure,qZ Γ _ hv]
  ·rename_i a n c hxe
   have hr:=cW0 (w:=w) Γ h
   simp only[execOp,ho,hx,hxe,hlo,hhi,hmx,Sem.run_bind,hr,Result.andThen_ok,Sem.run_pure]
  ·rename_i a hxe
   have hr:=eX0 (w:=w) Γ h
   simp only[execOp,ho,hx,hxe,hlo,hhi,hmx,Sem.run_bind,hr,Result.andThen_ok,Sem.run_pure]
  ·cases h
 ·rename_i t parts ho
  have hr:=sX0 Γ h w
  have hparts:(parts.map fun (x:Nat×Operand)=>(x.1,ca.eval x.2))=⟨(parts.toList.map fun (x:Nat×Operand)=>(x.1,ev tm x.2)).map fun x=>(x.1,con Γ x.2)⟩:=by
   apply Array.ext'
   simp only[Array.toList_map,List.map_map]
   apply List.map_congr_left
   intro y hy
   simp only[Function.comp]
   rw[he y.2 (by
    simp only[ho,Op.operands]
    simp only[List.mem_toArray,List.mem_map]
    exact ⟨y,hy,rfl⟩)]
  have hr':=hr
  simp only[execOp,ho,Sem.run_bind]
  rw[show (parts.map fun (i,x)=>(i,ca.eval x))=(parts.map fun (x:Nat×Operand)=>(x.1,ca.eval x.2)) from rfl,hparts]
  rw[show (parts.toList.map fun (x:Nat×Operand)=>(x.1,ev tm x.2))=(parts.toList.map fun (i,x)=>(i,ev tm x)) from rfl,hr']
  simp
 ·rename_i g f c ho
  cases h
  have hf:f.map ca.eval=(f.map (ev tm)).map (con Γ):=by
   rw[Array.map_map]
   apply Array.map_congr_left
   intro y hy;exact he y (by simp[ho,Op.operands,hy])
  have hc:c.map ca.eval=(c.map (ev tm)).map (con Γ):=by
   rw[Array.map_map]
   apply Array.map_congr_left
   intro y hy;exact he y (by simp[ho,Op.operands,hy])
  simp only[execOp,ho,Instr.makeFunc,Sem.run_bind,Sem.run_pure,Result.andThen_ok,bA,kG0,hf,hc]
 ·rename_i t x ho
  have hx:=he x (by simp[ho,Op.operands])
  split at h<;>cases h
  rename_i d hni hu
  simp only[execOp,ho,hx,Instr.makeInterface,Sem.run_bind,jS hu,Result.andThen_ok,con]
  cases d<;>first|simp|exact absurd rfl (hni _)
 ·rename_i x ho
  have hx:=he x (by simp[ho,Op.operands])
  split at h<;>cases h
  ·rename_i a hxe;simp[execOp,ho,hx,hxe,con]
  ·rename_i g f c hxe;simp[execOp,ho,hx,hxe,bA,kG0]
 ·rename_i args argTypes ho
  split at h
  ·rename_i x t hx0 ht0
   have hx:=he x (by simp only[ho,Op.operands,Call.operands];exact Array.mem_append.2 (.inr (Array.mem_of_getElem? hx0)))
   have hr0:(args.map ca.eval)[0]?=some (con Γ (ev tm x)):=by rw[Array.getElem?_map,hx0];simp[hx]
   split at h<;>cases h
   ·rename_i s hu hxe
    rw[hxe] at hr0
    simp[execOp,ho,resolve,invoke,builtin,Builtin.len_,ht0,hx0,hx,hxe,jS hu,con,goInt]
   ·rename_i e a n c hu hxe
    rw[hxe] at hr0
    cases a<;>simp[execOp,ho,resolve,invoke,builtin,Builtin.len_,ht0,hx0,hx,hxe,jS hu,con,goInt]
  ·cases h
 ·rename_i args argTypes ho
  obtain ⟨hf,hv,hr⟩:=uR h
  have hargs:args.map ca.eval=args.map (ev tm):=by
   apply Array.map_congr_left
   intro y hy
   rw[he y (by simp only[ho,Op.operands,Call.operands];exact Array.mem_append.2 (.inr hy))]
   refine qZ Γ _ ?_
   have h2:∀ (l:List Value),jT l=true→∀ v∈l,flat v=true:=fun l=>by
    induction l with
    | nil=>intro _ v hv;cases hv
    | cons a l ih=>intro hl v hv;simp only[jT,Bool.and_eq_true] at hl;cases hv with | head=>exact hl.1 | tail _ hv=>exact ih hl.2 v hv
   exact h2 _ hf _ (by simp;exact ⟨y,by simpa using hy,rfl⟩)
  simp[execOp,ho,resolve,invoke,builtin,hargs,hr w,qZ Γ _ hv]
 ·rename_i args argTypes ho
  obtain ⟨hf,hv,hr⟩:=uR h
  have hargs:args.map ca.eval=args.map (ev tm):=by
   apply Array.map_congr_left
   intro y hy
   rw[he y (by simp only[ho,Op.operands,Call.operands];exact Array.mem_append.2 (.inr hy))]
   refine qZ Γ _ ?_
   have h2:∀ (l:List Value),jT l=true→∀ v∈l,flat v=true:=fun l=>by
    induction l with
    | nil=>intro _ v hv;cases hv
    | cons a l ih=>intro hl v hv;simp only[jT,Bool.and_eq_true] at hl;cases hv with | head=>exact hl.1 | tail _ hv=>exact ih hl.2 v hv
   exact h2 _ hf _ (by simp;exact ⟨y,by simpa using hy,rfl⟩)
  simp[execOp,ho,resolve,invoke,builtin,hargs,hr w,qZ Γ _ hv]
 ·cases h
end Go.Ev
namespace Go.Ev
open Go Go.RowKit
theorem Tr.get_nil (j:Nat):Tr.nil.get j=none:=rfl
theorem Tr.get_node (l r:Tr) (v:Option qH) (j:Nat):(Tr.node l v r).get j=if j=0 then v else if (j-1) % 2=0 then l.get ((j-1) / 2) else r.get ((j-1) / 2):=by
 cases j with
 | zero=>rfl
 | succ j=>
  have:(Tr.node l v r).get (j+1)=Bool.rec (motive:=fun _=>Option qH) (r.get (Nat.div j 2)) (l.get (Nat.div j 2)) (Nat.beq (Nat.mod j 2) 0):=rfl
  rw[this,oT0]
  simp only[Nat.add_eq_zero_iff,Nat.succ_ne_self,and_false,if_false,Nat.add_sub_cancel]
  rfl
theorem Tr.go_succ (j:Nat) (x:qH) (f:Tr→Nat→Tr) (l r:Tr) (v:Option qH):Tr.go (j+1) x f l v r=if j % 2=0 then .node (f l (j / 2)) v r else .node l v (f r (j / 2)):=by
 have:Tr.go (j+1) x f l v r=Bool.rec (motive:=fun _=>Tr) (.node l v (f r (Nat.div j 2))) (.node (f l (Nat.div j 2)) v r) (Nat.beq (Nat.mod j 2) 0):=rfl
 rw[this,oT0]
 rfl
theorem Tr.go_zero (x:qH) (f:Tr→Nat→Tr) (l r:Tr) (v:Option qH):Tr.go 0 x f l v r=.node l (some x) r:=rfl
theorem Tr.get_set:∀ (n:Nat) (t:Tr) (i:Nat) (x:qH) (j:Nat),i+1<2 ^ n→(Tr.set n t i x).get j=if j=i then some x else t.get j:=by
 intro n
 induction n with
 | zero=>intro t i x j h;simp at h
 | succ n ih=>
  intro t i x j h
  have main : ∀ (l r : Tr) (v : Option qH), (∀ j, t.get j = (Tr.node l v r).get j) →
    (Tr.go i x (fun t i=>Tr.set n t i x) l v r).get j=if j=i then some x else t.get j:=by
   intro l r v ht
   rw[ht j]
   cases i with
   | zero=>
    simp only[Tr.go_zero,Tr.get_node]
    by_cases hj:j=0<;>simp[hj]
   | succ k=>
    have hk:k / 2+1<2 ^ n:=by rw[Nat.pow_succ] at h;omega
    rw[Tr.go_succ]
    by_cases hb:k % 2=0
    ·simp only[hb,if_true,Tr.get_node,ih l _ x _ hk]
     by_cases hj:j=0
     ·subst hj;simp
     ·simp only[hj,if_false]
      by_cases hp:(j-1) % 2=0
      ·simp only[hp,if_true]
       by_cases he:j=k+1
       ·subst he;simp
       ·rw[if_neg (by omega),if_neg he]
      ·simp only[hp,if_false]
       rw[if_neg (by intro e;subst e;simp at hp;omega)]
    ·simp only[hb,if_false,Tr.get_node,ih r _ x _ hk]
     by_cases hj:j=0
     ·subst hj;simp
     ·simp only[hj,if_false]
      by_cases hp:(j-1) % 2=0
      ·simp only[hp,if_true]
       rw[if_neg (by intro e;subst e;simp at hp;omega)]
      ·simp only[hp,if_false]
       by_cases he:j=k+1
       ·subst he;simp
       ·rw[if_neg (by omega),if_neg he]
  cases t with
  | nil=>exact main .nil .nil none (fun j=>by rw[Tr.get_nil,Tr.get_node];simp[Tr.get_nil])
  | node l v r=>exact main l r v (fun j=>rfl)
theorem Tr.get_put (t:Tr) (i:Nat) (x:qH) (j:Nat):(t.put i x).get j=if j=i then some x else t.get j:=
 Tr.get_set (i+1) t i x j Nat.lt_two_pow_self
theorem jA.get_put {h:jA} {i:Nat} {x:qH} (j:Nat):(h.put i x).get j=if j=i then some x else h.get j:=by
 obtain ⟨t,n,lo⟩:=h
 exact Tr.get_put t i x j
structure Par where
 P:Program
 NG:Nat
 G:Nat
 B:Nat
 sg:Nat→Int
 tg:Nat→ByteArray
def owned (x:qH):Bool:=match x.o with
 | .cells ..=>true
 | .stringIter ..=>true
 | .map ..=>true
 | .loop ..=>true
 | .deferred ..=>true
 | _=>false
def OR (p:Par) (Γ:Gam) (n:Nat) (w:World) (i:Nat) (x:qH):Prop:=
 match x.o with
 | .cells cs e _ => (p.G ≤ i → (∀ v ∈ cs.toList, one v = true ∧ sc n v = true) ∧ ∃ rest fr, w.heap[Γ.b i]? = some (.cells (cs.toList.map (con Γ) ++ rest).toArray e fr) ∧
   (cs.size+rest.length≤fr.1∨fr.2=fr.1)∧(x.more=false→rest=[])∧
   (x.more=true→∃ t,p.P.info? e=some t∧cs.size+rest.length=Γ.k i*t.size))∧
  (i<p.G→x.more=false∧Γ.b i<w.heap.size∧∀ j v,cs[j]?=some v→sc p.G v=true→one v=true∧w.cell? ⟨Γ.b i,j,none⟩=some (con Γ v))
 | .stringIter s q=>w.heap[Γ.b i]?=some (.stringIter s q)
 | .map es c=>False∧es.size=c
 | .loop r => (∀ v ∈ r.tmps.toList, sc n v = true) ∧ r.defers < n ∧ qR p.NG r.assign = true ∧ qR p.NG r.body = true ∧
   ∃ f,w.heap[Γ.b i]?=some (.loop { state:=r.state,pending:=r.pending,fn:=f,tmps:=r.tmps.map (con Γ),params:=r.params,assign:=r.assign,body:=r.body,defers:=Γ.b r.defers })
 | .deferred ds=>(ds=some []∨ds=none)∧w.heap[Γ.b i]?=some (.deferred ds)
 | _=>True
structure iS0 (p:Par) (Γ:Gam) (h:jA) (w:World):Prop where
 own:∀ b c e cs,h.get b=some (qB c e cs)→p.G≤b∧b<c∧c<h.next∧p.B≤Γ.b b∧Γ.b b<w.heap.size∧(∀ v∈cs,one v=true∧sc h.next v=true)∧(Γ.b c=Γ.b b→Γ.k c=Γ.k b)∧
  (Γ.b c≠Γ.b b→∃ rest fr,w.heap[Γ.b b]?=some (.cells (cs.map (con Γ)++rest).toArray e fr)∧(cs.length+rest.length≤fr.1∨fr.2=fr.1)∧∃ t,p.P.info? e=some t∧cs.length+rest.length=Γ.k b*t.size)
 tip:∀ b c e cs,h.get b=some (qB c e cs)→∀ j y,h.get j=some y→owned y=true→p.G≤j→Γ.b j=Γ.b b→c≤j∧Γ.b c=Γ.b b∧(∀ z,h.get c=some z→owned z=true→j=c)
 two:∀ a x e cs,h.get a=some (qB x e cs)→∀ b y e' cs',h.get b=some (qB y e' cs')→a<b→Γ.b a=Γ.b b→Γ.b x=Γ.b a∧x≤b
theorem dE0 {x:qH} (h:notL x=true) (c:Nat) (e:TypeId) (cs:List Value):x≠qB c e cs:=fun he=>by rw[he] at h;cases h
theorem iS0.no {p:Par} {Γ:Gam} {h:jA} {w:World} (hn:∀ b x,h.get b=some x→notL x=true):iS0 p Γ h w:=
 ⟨fun b c e cs hb=>absurd rfl (dE0 (hn b _ hb) c e cs),fun b c e cs hb=>absurd rfl (dE0 (hn b _ hb) c e cs),fun b c e cs hb=>absurd rfl (dE0 (hn b _ hb) c e cs)⟩
theorem iS0.step {p:Par} {Γ Γ':Gam} {h h':jA} {w w':World} (hl:iS0 p Γ h w) (hg:Ag Γ Γ' h.next) (hn:h.next≤h'.next) (hsz:w.heap.size≤w'.heap.size)
  (h1:∀ b x,h'.get b=some x→notL x=false→h.get b=some x)
  (h2:∀ j y,h'.get j=some y→owned y=true→p.G≤j→(∃ z,h.get j=some z∧owned z=true∧j<h.next)∨(h.next≤j∧w.heap.size≤Γ'.b j))
  (h3:∀ b c e cs,h.get b=some (qB c e cs)→Γ.b c≠Γ.b b→w'.heap[Γ.b b]?=w.heap[Γ.b b]?):iS0 p Γ' h' w':=by
 refine ⟨fun b c e cs hb=>?_,fun b c e cs hb j y hj ho hG he=>?_,fun a x e cs ha b y e' cs' hb hab he=>?_⟩
 ·have hb:=h1 b _ hb rfl
  obtain ⟨q1,q2,q3,q4,q5,q6,q7,q8⟩:=hl.own b c e cs hb
  have e1:Γ'.b b=Γ.b b:=hg.b b (by omega)
  have e2:Γ'.b c=Γ.b c:=hg.b c q3
  rw[e1,e2,hg.k c q3,hg.k b (by omega)]
  refine ⟨q1,q2,by omega,q4,by omega,fun v hv=>⟨(q6 v hv).1,qX hn v (q6 v hv).2⟩,q7,fun hne=>?_⟩
  obtain ⟨rest,fr,r1,r2,r3⟩:=q8 hne
  refine ⟨rest,fr,?_,r2,r3⟩
  rw[h3 b c e cs hb hne,r1]
  have:cs.map (con Γ')=cs.map (con Γ):=List.map_congr_left fun v hv=>jO0 hg v (q6 v hv).2
  rw[this]
 ·have hb:=h1 b _ hb rfl
  obtain ⟨q1,q2,q3,q4,q5,q6,q7,q8⟩:=hl.own b c e cs hb
  have e1:Γ'.b b=Γ.b b:=hg.b b (by omega)
  have e2:Γ'.b c=Γ.b c:=hg.b c q3
  rw[e1] at he ⊢
  rw[e2]
  rcases h2 j y hj ho hG with ⟨z,hz,hoz,hlt⟩|⟨_,hbig⟩
  ·rw[hg.b j hlt] at he
   obtain ⟨r1,r2,r3⟩:=hl.tip b c e cs hb j z hz hoz hG he
   refine ⟨r1,r2,fun u hu hou=>?_⟩
   rcases h2 c u hu hou (by omega) with ⟨z',hz',hoz',_⟩|⟨hbig,_⟩
   ·exact r3 z' hz' hoz'
   ·omega
  ·omega
 ·have ha:=h1 a _ ha rfl
  have hb:=h1 b _ hb rfl
  obtain ⟨q1,q2,q3,_⟩:=hl.own a x e cs ha
  obtain ⟨r1,r2,r3,_⟩:=hl.own b y e' cs' hb
  rw[hg.b a (by omega),hg.b b (by omega)] at he
  rw[hg.b a (by omega),hg.b x q3]
  exact hl.two a x e cs ha b y e' cs' hb hab he
structure jY (p:Par) (Γ:Gam) (h:jA) (w:World):Prop where
 obj:∀ i x,h.get i=some x→i<h.next∧OR p Γ h.next w i x
 base:∀ i x,h.get i=some x→owned x=true→p.G≤i→p.B≤Γ.b i
 inj:∀ i j x y,h.get i=some x→owned x=true→h.get j=some y→owned y=true→p.G≤i→p.G≤j→Γ.b i=Γ.b j→i=j
 gl:∀ g,g<p.NG→Γ.b g=g
 low:∀ i x,i<p.G→h.get i=some x→owned x=true→Γ.b i<p.B
 lo:h.lo=p.G
 gn:p.G≤h.next
 ng:p.NG≤p.G∧p.NG≤p.B
 size:p.B≤w.heap.size
 gs:Γ.s=p.sg∧Γ.t=p.tg
 lent:iS0 p Γ h w
structure Fr (p:Par) (Γ:Gam) (h:jA) (w w':World):Prop where
 below:Below p.B w w'
 low:∀ i x,h.get i=some x→owned x=true→i<h.lo→w'.heap[Γ.b i]?=w.heap[Γ.b i]?
theorem Fr.refl {p:Par} {Γ:Gam} {h:jA} (w:World):Fr p Γ h w w:=⟨Below.refl _ _,fun _ _ _ _ _=>rfl⟩
theorem OR.ag {p:Par} {Γ Γ':Gam} {n m:Nat} {w w':World} {i:Nat} {x:qH} (h:OR p Γ n w i x) (hg:Ag Γ Γ' n) (hn:n≤m) (hGn:p.G≤n) (hi:i<n)
  (hw:w'.heap[Γ.b i]?=w.heap[Γ.b i]?):OR p Γ' m w' i x:=by
 unfold OR at h ⊢
 have hb:Γ'.b i=Γ.b i:=hg.b i hi
 have hk:Γ'.k i=Γ.k i:=hg.k i hi
 split
 ·rename_i cs e fr0 ho
  simp only[ho] at h
  refine ⟨fun hG=>?_,fun hG=>?_⟩
  ·obtain ⟨h1,rest,fr,h2,h3,h4,h5⟩:=h.1 hG
   refine ⟨fun v hv=>⟨(h1 v hv).1,qX hn v (h1 v hv).2⟩,rest,fr,?_,h3,h4,by rw[hk];exact h5⟩
   rw[hb,hw,h2]
   have:cs.toList.map (con Γ')=cs.toList.map (con Γ):=List.map_congr_left fun v hv=>jO0 hg v (h1 v hv).2
   rw[this]
  ·obtain ⟨h1,h2,h3⟩:=h.2 hG
   refine ⟨h1,?_,fun j v hj hs=>?_⟩
   ·rw[hb]
    have:w.heap[Γ.b i]?.isSome=true:=by simp[h2]
    rw[← hw] at this
    simpa using this
   ·obtain ⟨h4,h5⟩:=h3 j v hj hs
    refine ⟨h4,?_⟩
    rw[jO0 hg v (qX hGn v hs)]
    simp only[World.cell?] at h5 ⊢
    rw[hb,hw];exact h5
 ·rename_i s q ho
  simp only[ho] at h
  rw[hb,hw,h]
 ·rename_i es c ho;simp only[ho] at h;exact h
 ·rename_i r ho
  simp only[ho] at h
  obtain ⟨h1,h2,h3,h4,f,h5⟩:=h
  refine ⟨fun v hv=>qX hn v (h1 v hv),by omega,h3,h4,f,?_⟩
  rw[hb,hw,h5,hg.b _ h2]
  have:r.tmps.map (con Γ')=r.tmps.map (con Γ):=Array.map_congr_left fun v hv=>jO0 hg v (h1 v (by simpa using hv))
  rw[this]
 ·rename_i ds ho
  simp only[ho] at h
  exact ⟨h.1,by rw[hb,hw,h.2]⟩
 ·trivial
end Go.Ev
namespace Go.Ev
open Go Go.RowKit
def wset (w:World) (g:Nat) (o:Obj):World:={ w with heap:=w.heap.setIfInBounds g o }
theorem qU (w:World) (g:Nat) (o:Obj) (h:g<w.heap.size) (j:Nat):(wset w g o).heap[j]?=if j=g then some o else w.heap[j]?:=by
 simp only[wset,Array.getElem?_setIfInBounds]
 by_cases e:g=j
 ·subst e;simp[h]
 ·rw[if_neg e,if_neg (Ne.symm e)]
theorem jE0 (w:World) (g:Nat) (o:Obj):(wset w g o).heap.size=w.heap.size:=by simp[wset]
theorem wF1 {v:Value} (h:one v=true):v.oneCell'=true:=by cases v<;>simp_all [one,Value.oneCell']
theorem addr_add (g o i:Nat):(⟨g,o,none⟩:Addr).add i=⟨g,o+i,none⟩:=by unfold Addr.add;split<;>simp_all
theorem gX (P:Program) (g o:Nat) (t:TypeId) (fr:Nat×Nat):∀ (vs:List Value) (i:Nat) (cur:List Value) (w:World),
  w.heap[g]?=some (.cells ⟨cur⟩ t fr)→(cur.length≤fr.1∨fr.2=fr.1)→o+i+vs.length≤cur.length→(∀ v∈vs,one v=true)→
  (storeCells ⟨g,o,none⟩ vs i).run P w=.ok () (wset w g (.cells ⟨setFrom cur (o+i) vs⟩ t fr))
 | [],i,cur,w,hg,_,_,_=>by
  have hlt:g<w.heap.size:=(Array.getElem?_eq_some_iff.1 hg).1
  simp only[storeCells,setFrom,List.append_nil,List.length_nil,Nat.add_zero,List.take_append_drop,Sem.run_pure]
  congr 1
  simp only[wset]
  have:w.heap.setIfInBounds g (.cells ⟨cur⟩ t fr)=w.heap:=by
   apply Array.ext_getElem?
   intro j
   rw[Array.getElem?_setIfInBounds]
   split
   ·rename_i e;subst e;rw[hg]
   ·rfl
  rw[this]
 | v :: rest,i,cur,w,hg,hf,hl,h1=>by
  have hlt:g<w.heap.size:=(Array.getElem?_eq_some_iff.1 hg).1
  simp only[List.length_cons] at hl
  have hi:o+i<cur.length:=by omega
  have hcell:w.cell? ⟨g,o+i,none⟩=some cur[o+i]:=by simp[World.cell?,hg,hi]
  have hfro:w.frozen? ⟨g,o+i,none⟩=false:=by
   obtain ⟨lo,hi'⟩:=fr
   simp only[World.frozen?,hg]
   simp only at hf
   rcases hf with hf|hf
   ·simp;intro;omega
   ·simp;intro;omega
  have hst:(store ((⟨g,o,none⟩:Addr).add i) v).run P w=.ok () (wset w g (.cells ⟨cur.set (o+i) v⟩ t fr)):=by
   rw[addr_add,run_store P w _ v _ (wF1 (h1 v (by simp))),hcell]
   simp only[hfro,Bool.false_eq_true,if_false]
   congr 1
   simp only[World.setCell,wset]
   congr 1
   apply Array.ext_getElem?
   intro j
   rw[Array.getElem?_setIfInBounds,Array.getElem?_modify]
   by_cases e:g=j
   ·subst e
    have hgg:w.heap[g]=.cells ⟨cur⟩ t fr:=by
     have:=hg;rw[Array.getElem?_eq_getElem hlt] at this;exact Option.some.inj this
    simp[hlt,hgg]
   ·simp[e]
  have hg':(wset w g (.cells ⟨cur.set (o+i) v⟩ t fr)).heap[g]?=some (.cells ⟨cur.set (o+i) v⟩ t fr):=by
   rw[qU _ _ _ hlt];simp
  have ih:=gX P g o t fr rest (i+1) (cur.set (o+i) v) _ hg' (by simpa using hf) (by simp;omega) (fun x hx=>h1 x (by simp[hx]))
  simp only[storeCells,Sem.run_bind,hst,Result.andThen_ok,ih]
  congr 1
  simp only[wset,Array.setIfInBounds_setIfInBounds]
  congr 3
  congr 1
  simp only[setFrom,List.length_cons]
  rw[show o+(i+1)=o+i+1 by omega]
  have h1':(cur.set (o+i) v).take (o+i+1)=cur.take (o+i)++[v]:=by
   rw[List.take_succ_eq_append_getElem (by simp;omega)]
   simp[List.take_set_of_le]
  rw[h1',List.drop_set]
  rw[if_pos (by omega)]
  simp
  omega
theorem bB0 {p:Par} {Γ:Gam} {n:Nat} {w:World} {i:Nat} {x:qH} (h:owned x=false):OR p Γ n w i x:=by
 unfold owned at h;unfold OR
 split<;>simp_all
theorem jK1 {p:Par} {Γ:Gam} {n:Nat} {w:World} {i:Nat} {x:qH} (h:OR p Γ n w i x) (ho:owned x=true):Γ.b i<w.heap.size:=by
 unfold owned at ho;unfold OR at h
 split at h
 ·by_cases hG:p.G≤i
  ·obtain ⟨_,rest,fr,h2,_⟩:=h.1 hG;exact (Array.getElem?_eq_some_iff.1 h2).1
  ·exact (h.2 (by omega)).2.1
 ·exact (Array.getElem?_eq_some_iff.1 h).1
 ·exact h.1.elim
 ·obtain ⟨_,_,_,_,f,h2⟩:=h;exact (Array.getElem?_eq_some_iff.1 h2).1
 ·exact (Array.getElem?_eq_some_iff.1 h.2).1
 ·split at ho<;>simp_all
theorem jY.of_heap {p:Par} {Γ:Gam} {h:jA} {w w':World} (hr:jY p Γ h w) (e:w'.heap=w.heap):jY p Γ h w':=
 { hr with
  obj:=fun i x hx=>⟨(hr.obj i x hx).1,(hr.obj i x hx).2.ag (Ag.refl _ _) (Nat.le_refl _) hr.gn (hr.obj i x hx).1 (by rw[e])⟩
  size:=by rw[e];exact hr.size
  lent:=hr.lent.step (Ag.refl _ _) (Nat.le_refl _) (by rw[e];exact Nat.le_refl _) (fun _ _ h _=>h) (fun j y hj ho _=>.inl ⟨y,hj,ho,(hr.obj j y hj).1⟩) (fun _ _ _ _ _ _=>by rw[e]) }
theorem jY.put {p:Par} {Γ:Gam} {h:jA} {w:World} (hr:jY p Γ h w) {b:Nat} {x x':qH} (hx:h.get b=some x) (ho:owned x=true)
  (hlo:h.lo≤b) {o:Obj} (hOR:OR p Γ h.next (wset w (Γ.b b) o) b x') (hnl:notL x'=true:=by rfl) :
  jY p Γ (h.put b x') (wset w (Γ.b b) o)∧Fr p Γ h w (wset w (Γ.b b) o):=by
 have hb:=(hr.obj b x hx).1
 have hlt:=jK1 (hr.obj b x hx).2 ho
 have hG:p.G≤b:=by rw[← hr.lo];exact hlo
 have hB:p.B≤Γ.b b:=hr.base b x hx ho hG
 have hne:∀ i y,h.get i=some y→owned y=true→i≠b→Γ.b i≠Γ.b b:=fun i y hy hoy hi e=>by
  by_cases hiG:p.G≤i
  ·exact hi (hr.inj i b y x hy hoy hx ho hiG hG e)
  ·have:=hr.low i y (by omega) hy hoy;omega
 have hown:∀ i y,(h.put b x').get i=some y→owned y=true→∃ z,h.get i=some z∧owned z=true:=fun i y hy hoy=>by
  rw[jA.get_put] at hy
  split at hy
  ·rename_i e;subst e;exact ⟨x,hx,ho⟩
  ·exact ⟨y,hy,hoy⟩
 refine ⟨⟨fun i y hy=>?_,fun i y hy hoy hi=>?_,fun i j y z hy hoy hz hoz hi hj e=>?_,hr.gl,fun i y hi hy hoy=>by
  obtain ⟨z,hz,hoz⟩:=hown i y hy hoy
  exact hr.low i z hi hz hoz,hr.lo,hr.gn,hr.ng,by rw[jE0];exact hr.size,hr.gs,hr.lent.step (Ag.refl _ _) (Nat.le_refl _) (by rw[jE0];exact Nat.le_refl _) (fun i y hy hny=>by
   rw[jA.get_put] at hy
   split at hy
   ·cases hy;rw[hnl] at hny;cases hny
   ·exact hy) (fun j y hj hoy _=>by
   obtain ⟨z,hz,hoz⟩:=hown j y hj hoy
   exact .inl ⟨z,hz,hoz,(hr.obj j z hz).1⟩) (fun i c e cs hi hne'=>by
   rw[qU _ _ _ hlt,if_neg fun he=>hne' (hr.lent.tip i c e cs hi b x hx ho hG he.symm).2.1])⟩,?_,?_⟩
 ·have hy0:=hy
  rw[jA.get_put] at hy
  split at hy
  ·rename_i e;subst e;cases hy;exact ⟨hb,hOR⟩
  ·rename_i e
   refine ⟨(hr.obj i y hy).1,?_⟩
   cases hoy:owned y with
   | false=>exact bB0 hoy
   | true=>
    refine (hr.obj i y hy).2.ag (Ag.refl _ _) (Nat.le_refl _) hr.gn (hr.obj i y hy).1 ?_
    rw[qU _ _ _ hlt,if_neg (hne i y hy hoy e)]
 ·obtain ⟨z,hz,hoz⟩:=hown i y hy hoy
  exact hr.base i z hz hoz hi
 ·obtain ⟨y',hy',hoy'⟩:=hown i y hy hoy
  obtain ⟨z',hz',hoz'⟩:=hown j z hz hoz
  exact hr.inj i j y' z' hy' hoy' hz' hoz' hi hj e
 ·refine ⟨rfl,rfl,rfl,by rw[jE0];exact Nat.le_refl _,fun k hk=>?_⟩
  rw[qU _ _ _ hlt,if_neg (by omega)]
 ·intro i y hy hoy hi
  rw[qU _ _ _ hlt,if_neg (hne i y hy hoy (by omega))]
def Gam.ext (Γ:Gam) (n b k:Nat):Gam:={ b:=fun i=>if i=n then b else Γ.b i,k:=fun i=>if i=n then k else Γ.k i,s:=Γ.s,t:=Γ.t }
theorem Gam.ext_ag (Γ:Gam) (n b k:Nat):Ag Γ (Γ.ext n b k) n:=⟨fun i hi=>by simp[Gam.ext];intro e;omega,fun i hi=>by simp[Gam.ext];intro e;omega,rfl,rfl⟩
theorem Gam.ext_b (Γ:Gam) (n b k:Nat):(Γ.ext n b k).b n=b:=by simp[Gam.ext]
theorem Gam.ext_k (Γ:Gam) (n b k:Nat):(Γ.ext n b k).k n=k:=by simp[Gam.ext]
theorem jA.new_eq (h:jA) (x:qH):h.new x=(h.next,{ t:=h.t.put h.next x,next:=h.next+1,lo:=h.lo }):=by
 obtain ⟨t,n,lo⟩:=h
 cases n<;>rfl
theorem jA.put_eq (h:jA) (i:Nat) (x:qH):h.put i x={ t:=h.t.put i x,next:=h.next,lo:=h.lo }:=by
 obtain ⟨t,n,lo⟩:=h
 rfl
theorem jY.new {p:Par} {Γ:Gam} {h:jA} {w:World} (hr:jY p Γ h w) {x:qH} {o:Obj} {k:Nat}
  (hOR:OR p (Γ.ext h.next w.heap.size k) (h.next+1) (w.alloc o) h.next x) (hnl:notL x=true:=by rfl) :
  jY p (Γ.ext h.next w.heap.size k) (h.new x).2 (w.alloc o)∧Fr p Γ h w (w.alloc o):=by
 rw[jA.new_eq]
 have hag:=Γ.ext_ag h.next w.heap.size k
 have hget:∀ j,({ t:=h.t.put h.next x,next:=h.next+1,lo:=h.lo }:jA).get j=if j=h.next then some x else h.get j:=fun j=>by
  simp only[jA.get]
  exact Tr.get_put h.t h.next x j
 have hheap:∀ i,i<w.heap.size→(w.alloc o).heap[i]?=w.heap[i]?:=fun i hi=>Below.heap_alloc w o i hi
 have hGn:∀ i,i<p.G→i<h.next:=fun i hi=>Nat.lt_of_lt_of_le hi hr.gn
 have hb:∀ i,i<h.next→(Γ.ext h.next w.heap.size k).b i=Γ.b i:=fun i hi=>hag.b i hi
 refine ⟨⟨fun i y hy => ?_, fun i y hy hoy hi => ?_, fun i j y z hy hoy hz hoz hi hj e => ?_, fun g hg => ?_, fun i y hi hy hoy => ?_, hr.lo, ?_, hr.ng, ?_, hr.gs, hr.lent.step hag (Nat.le_succ _) (by simp) (fun i y hy hny => by
   rw[hget] at hy
   split at hy
   ·cases hy;rw[hnl] at hny;cases hny
   ·exact hy) (fun j y hj hoy _=>by
   rw[hget] at hj
   split at hj
   ·rename_i e;subst e;exact .inr ⟨Nat.le_refl _,by rw[Gam.ext_b];exact Nat.le_refl _⟩
   ·exact .inl ⟨y,hj,hoy,(hr.obj j y hj).1⟩) (fun b c e cs hb _=>hheap _ (hr.lent.own b c e cs hb).2.2.2.2.1)⟩,?_,?_⟩
 ·rw[hget] at hy
  split at hy
  ·rename_i e;cases hy;subst e;exact ⟨Nat.lt_succ_self _,hOR⟩
  ·have hlt:=(hr.obj i y hy).1
   refine ⟨Nat.lt_succ_of_lt hlt,?_⟩
   cases hoy:owned y with
   | false=>exact bB0 hoy
   | true=>
    exact (hr.obj i y hy).2.ag hag (Nat.le_succ _) hr.gn hlt (hheap _ (jK1 (hr.obj i y hy).2 hoy))
 ·rw[hget] at hy
  split at hy
  ·rename_i e;subst e;rw[Gam.ext_b];exact hr.size
  ·rw[hb i (hr.obj i y hy).1];exact hr.base i y hy hoy hi
 ·rw[hget] at hy hz
  split at hy
  ·rename_i ei
   split at hz
   ·rename_i ej;omega
   ·have hlt:=(hr.obj j z hz).1
    have:=jK1 (hr.obj j z hz).2 hoz
    rw[hb j hlt] at e;subst ei;rw[Gam.ext_b] at e;omega
  ·have hlt:=(hr.obj i y hy).1
   have hli:=jK1 (hr.obj i y hy).2 hoy
   split at hz
   ·rename_i ej;subst ej;rw[hb i hlt,Gam.ext_b] at e;omega
   ·rw[hb i hlt,hb j (hr.obj j z hz).1] at e
    exact hr.inj i j y z hy hoy hz hoz hi hj e
 ·rw[hb g (hGn g (Nat.lt_of_lt_of_le hg hr.ng.1))];exact hr.gl g hg
 ·rw[hget] at hy
  split at hy
  ·rename_i e;have:=hGn i hi;omega
  ·rw[hb i (hGn i hi)];exact hr.low i y hi hy hoy
 ·exact Nat.le_succ_of_le hr.gn
 ·simp;have:=hr.size;omega
 ·exact (Below.refl _ _).alloc hr.size o
 ·intro i y hy hoy _
  exact hheap _ (jK1 (hr.obj i y hy).2 hoy)
end Go.Ev
namespace Go.Ev
open Go Go.RowKit
theorem uI {h:jA} {i:Nat} {cs:List Value} {e:TypeId} {m:Bool} (hc:cells h i=some (cs,e,m)):∃ fr0,h.get i=some ⟨.cells ⟨cs⟩ e fr0,m⟩:=by
 unfold cells at hc
 split at hc
 ·rename_i cs' e' fr m' hx;cases hc;exact ⟨fr,hx⟩
 ·cases hc
structure Row (p:Par) (Γ:Gam) (n:Nat) (w:World) (i:Nat) (cs:List Value) (e:TypeId) (m:Bool) (rest:List Value) (fr:Nat×Nat):Prop where
 ok:∀ v∈cs,one v=true∧sc n v=true
 heap:w.heap[Γ.b i]?=some (.cells ⟨cs.map (con Γ)++rest⟩ e fr)
 fr:cs.length+rest.length≤fr.1∨fr.2=fr.1
 no:m=false→rest=[]
 more:m=true→∃ t,p.P.info? e=some t∧cs.length+rest.length=Γ.k i*t.size
theorem jY.row {p:Par} {Γ:Gam} {h:jA} {w:World} (hr:jY p Γ h w) {i:Nat} {cs:List Value} {e:TypeId} {m:Bool} (hc:cells h i=some (cs,e,m)) (hG:p.G≤i) :
  i<h.next∧∃ rest fr,Row p Γ h.next w i cs e m rest fr:=by
 obtain ⟨fr0,hg⟩:=uI hc
 obtain ⟨hlt,hO⟩:=hr.obj i _ hg
 simp only[OR] at hO
 obtain ⟨h1,rest,fr,h2,h3,h4,h5⟩:=hO.1 hG
 exact ⟨hlt,rest,fr,h1,h2,h3,h4,h5⟩
theorem jY.cell {p:Par} {Γ:Gam} {h:jA} {w:World} (hr:jY p Γ h w) {i:Nat} {cs:List Value} {e:TypeId} {m:Bool} (hc:cells h i=some (cs,e,m)) {j:Nat} {v:Value} (hj:cs[j]?=some v)
  (hok:p.G≤i∨sc p.G v=true):one v=true∧sc h.next v=true∧w.cell? ⟨Γ.b i,j,none⟩=some (con Γ v):=by
 obtain ⟨fr0,hg⟩:=uI hc
 obtain ⟨hlt,hO⟩:=hr.obj i _ hg
 simp only[OR] at hO
 by_cases hG:p.G≤i
 ·obtain ⟨h1,rest,fr,h2,h3,h4,h5⟩:=hO.1 hG
  obtain ⟨h6,h7⟩:=h1 v (List.mem_of_getElem? hj)
  refine ⟨h6,h7,?_⟩
  rw[cell_of_row w _ j _ e fr h2]
  have hlt:j<cs.length:=(List.getElem?_eq_some_iff.1 hj).1
  simp only[List.getElem?_toArray]
  rw[List.getElem?_append_left (by simpa using hlt)]
  simp[hj]
 ·rcases hok with h0|h0
  ·exact absurd h0 hG
  ·obtain ⟨h1,h2⟩:=(hO.2 (by omega)).2.2 j v (by simpa using hj) h0
   exact ⟨h1,qX hr.gn v h0,h2⟩
theorem jY.m_own {p:Par} {Γ:Gam} {h:jA} {w:World} (hr:jY p Γ h w) {i:Nat} {cs:List Value} {e:TypeId} (hc:cells h i=some (cs,e,true)):p.G≤i:=by
 obtain ⟨fr0,hg⟩:=uI hc
 obtain ⟨hlt,hO⟩:=hr.obj i _ hg
 simp only[OR] at hO
 by_cases hG:p.G≤i
 ·exact hG
 ·have:=(hO.2 (by omega)).1;cases this
theorem qK0 {cs l:List Value} {off n:Nat} (h:takeN cs off n=some l):l.length=n∧off+n≤cs.length∧∀ j v,l[j]?=some v→cs[off+j]?=some v:=by
 obtain ⟨hb,rfl⟩:=yD0 h
 refine ⟨by simp;omega,hb,fun j v hj=>?_⟩
 rw[List.getElem?_take] at hj
 split at hj
 ·rwa [List.getElem?_drop] at hj
 ·cases hj
theorem uQ1 {P:Program} {w:World} {a:Addr} {l:List Value} {n:Nat} (hl:l.length=n) (h:∀ j v,l[j]?=some v→w.cell? (a.add j)=some v) :
  (loadCells a n).run P w=.ok ⟨l⟩ w:=by
 subst hl;exact run_loadCells_list w a l h
theorem jY.load {p:Par} {Γ:Gam} {h:jA} {w:World} (hr:jY p Γ h w) {i:Nat} {cs:List Value} {e:TypeId} {m:Bool} (hc:cells h i=some (cs,e,m))
  {off k:Nat} {l:List Value} (ht:takeN cs off k=some l) (hok:p.G≤i∨∀ v∈l,sc p.G v=true) (P:Program):(loadCells ⟨Γ.b i,off,none⟩ k).run P w=.ok ⟨l.map (con Γ)⟩ w:=by
 obtain ⟨hl,hle,hg⟩:=qK0 ht
 refine uQ1 (by simpa using hl) fun j v hj=>?_
 rw[List.getElem?_map] at hj
 cases hx:l[j]? with
 | none=>simp[hx] at hj
 | some u=>
  simp[hx] at hj
  subst hj
  rw[addr_add]
  exact (hr.cell hc (hg j u hx) (hok.imp id fun h0=>h0 u (List.mem_of_getElem? hx))).2.2
theorem seen_eq {p:Par} {Γ:Gam} {h:jA} {w:World} (hr:jY p Γ h w) {b:Nat} {v u:Value} (he:seen h.lo b v=some u):u=v∧(p.G≤b∨sc p.G v=true):=by
 unfold seen at he
 rw[kS1,hr.lo] at he
 cases hb:Nat.ble p.G b with
 | true=>rw[hb] at he;cases he;exact ⟨rfl,.inl (by simpa using hb)⟩
 | false=>
  rw[hb] at he
  cases hs:sc p.G v with
  | true=>rw[hs] at he;cases he;exact ⟨rfl,.inr rfl⟩
  | false=>rw[hs] at he;cases he
theorem bY0 {p:Par} {Γ:Gam} {h:jA} {w:World} (hr:jY p Γ h w) {t:TypeId} {a v:Value} (he:jJ p.P t a h=some v) :
  (Instr.loadAt t (con Γ a)).run p.P w=.ok (con Γ v) w:=by
 unfold jJ at he
 split at he
 ·rename_i b off
  split at he
  ·rename_i cs e m hc
   split at he
   ·rename_i ha
    split at he
    ·rename_i n hn
     split at he
     ·rename_i l hl
      obtain ⟨rfl,hok⟩:=seen_eq hr he
      have:=hr.load hc hl (hok.imp id fun h0 v hv=>qP h0 v hv) p.P
      simp[con,wM,Instr.loadAt,Instr.sureAddr,loadVar,wP0 ha,uV hn,this,bB]
     ·cases he
    ·cases he
   ·rename_i ha
    split at he
    ·rename_i u hu
     obtain ⟨rfl,hok⟩:=seen_eq hr he
     have:=(hr.cell hc hu hok).2.2
     simp[con,wM,Instr.loadAt,Instr.sureAddr,loadVar,wP0 ha,this]
    ·cases he
   ·cases he
  ·cases he
 ·cases he
theorem cU0 {p:Par} {Γ:Gam} {h:jA} {w:World} (hr:jY p Γ h w) {t:TypeId} {a:Option Addr} {len cap:Nat} {lo hi mx:Option Value} {v:Value}
  (he:uA p.P t a len cap lo hi mx h=some v) :
  (Instr.sliceAt t (con Γ (.slice a len cap)) (lo.map (con Γ)) (hi.map (con Γ)) (mx.map (con Γ))).run p.P w=.ok (con Γ v) w:=by
 unfold uA at he
 split at he
 ·rename_i e b off hu
  split at he
  ·rename_i size cs e' hs hc
   split at he
   ·rename_i hb
    simp only[Bool.and_eq_true,Nat.beq_eq,Nat.ble_eq,Nat.blt_eq] at hb
    obtain ⟨⟨⟨⟨⟨h1,h2⟩,h3⟩,h4⟩,h5⟩,h6⟩:=hb
    obtain ⟨hlt,rest,fr,hrow⟩:=hr.row hc (hr.m_own hc)
    obtain ⟨ti,hti,hk⟩:=hrow.more rfl
    have hsz:ti.size=size:=by
     unfold szT at hs;rw[← h1,hti] at hs;simpa using hs
    rw[hsz] at hk
    have hcap:len≤Γ.k b-(cap-UC):=by
     have:(cap-UC+len)*size≤Γ.k b*size:=by
      rw[Nat.add_mul,← h3];omega
     have:=Nat.le_of_mul_le_mul_right this h4
     omega
    have hnot:¬ cap<UC:=by omega
    split at he
    ·rename_i l hh m hbd
     have hbr:=uO0 (P:=p.P) (w:=w) Γ true hbd hcap
     have hkey:=jP0 hbd
     have hmle:∀ mm,m=some mm→mm≤len:=fun mm hm=>by
      rcases hkey.1 with ⟨_,h0⟩|⟨k,mm',_,h0,hle⟩
      ·rw[h0] at hm;cases hm
      ·rw[h0] at hm;cases hm;exact hle
     simp only[con,uC,if_neg hnot,Instr.sliceAt,Instr.slice,Sem.run_bind,jS hu,Result.andThen_ok,hbr,uV hs,Sem.run_pure]
     ·cases m with
      | some mm=>
       have hmm:=hmle mm rfl
       have hmU:mm<UC:=by have:=U_UC;omega
       simp only[Option.getD_some]
       dsimp only at he
       split at he
       ·rename_i e1;simp only[Nat.beq_eq] at e1;cases he
        have h8:=cC0
        simp[con,wM,uC,e1,h8]
       ·rename_i e1
        have e2:mm≠l:=fun e=>by rw[e] at e1;simp at e1
        cases he
        have h7:mm-l<UC:=by omega
        simp only[if_neg e2,Option.map_some,con,uC,uN0,addr_add,if_pos h7]
      | none=>
       dsimp only at he
       split at he<;>cases he
       rename_i hlen
       simp only[Nat.blt_eq] at hlen
       have hne:¬ (Γ.k b-(cap-UC)=l):=by omega
       have hnk:¬ (cap+l<UC):=by omega
       have hsub:Γ.k b-(cap-UC)-l=Γ.k b-(cap+l-UC):=by
        generalize UC=u at h2 ⊢
        omega
       have e2:con Γ (Value.slice (some ⟨b,off+l*size,none⟩) (hh-l) (cap+l))=Value.slice (some ⟨Γ.b b,off+l*size,none⟩) (hh-l) (Γ.k b-(cap-UC)-l):=by
        simp only[con,wM,uC]
        rw[if_neg hnk,hsub]
       rw[addr_add,e2,Option.getD_none,if_neg hne,Option.map_some,wM,addr_add]
    ·cases he
   ·cases he
  ·cases he
 ·cases he
theorem kS0:∀ {l:List Value} {bs:List UInt8},bytesOf l=some bs→∃ ns:List Int,l=ns.map (Value.int .u8)∧bs=ns.map fun n=>UInt8.ofNat n.toNat
 | [],bs,h=>by simp[bytesOf] at h;exact ⟨[],rfl,by simpa using h.symm⟩
 | .int .u8 n :: vs,bs,h=>by
  simp only[bytesOf] at h
  split at h<;>cases h
  rename_i l hl
  obtain ⟨ns,h1,h2⟩:=kS0 hl
  exact ⟨n :: ns,by simp[h1],by simp[h2]⟩
 | .int .i8 _ :: _,_,h=>by simp[bytesOf] at h
 | .int .i16 _ :: _,_,h=>by simp[bytesOf] at h
 | .int .i32 _ :: _,_,h=>by simp[bytesOf] at h
 | .int .i64 _ :: _,_,h=>by simp[bytesOf] at h
 | .int .u16 _ :: _,_,h=>by simp[bytesOf] at h
 | .int .u32 _ :: _,_,h=>by simp[bytesOf] at h
 | .int .u64 _ :: _,_,h=>by simp[bytesOf] at h
 | .bool _ :: _,_,h=>by simp[bytesOf] at h
 | .float _ _ :: _,_,h=>by simp[bytesOf] at h
 | .complex _ _ _ :: _,_,h=>by simp[bytesOf] at h
 | .string _ :: _,_,h=>by simp[bytesOf] at h
 | .pointer _ :: _,_,h=>by simp[bytesOf] at h
 | .slice _ _ _ :: _,_,h=>by simp[bytesOf] at h
 | .map _ :: _,_,h=>by simp[bytesOf] at h
 | .chan _ :: _,_,h=>by simp[bytesOf] at h
 | .func _ _ _ :: _,_,h=>by simp[bytesOf] at h
 | .nilFunc :: _,_,h=>by simp[bytesOf] at h
 | .iface _ _ :: _,_,h=>by simp[bytesOf] at h
 | .nilIface :: _,_,h=>by simp[bytesOf] at h
 | .agg _ :: _,_,h=>by simp[bytesOf] at h
 | .tuple _ :: _,_,h=>by simp[bytesOf] at h
theorem kB0:∀ (ns:List Int) (s:ByteArray),ns.foldl (fun r n=>r.push (UInt8.ofNat n.toNat)) s=⟨⟨s.data.toList++ns.map fun n=>UInt8.ofNat n.toNat⟩⟩
 | [],s=>by simp
 | n :: ns,s=>by
  rw[List.foldl_cons,kB0 ns]
  simp[ByteArray.push]
theorem sR0 {p:Par} {Γ:Gam} {h:jA} {w:World} (hr:jY p Γ h w) {tm:VT} {ca:Act} {o:Oper} {v:Value} (ht:Tm Γ p.NG tm ca)
  (hop:o.op.operands.all (uE p.NG)=true) (he:zE0 p.P o tm h=some v) :
  (execOp ca.eval o).run p.P w=.ok (.value (con Γ v)) w:=by
 have hev:∀ x∈o.op.operands,ca.eval x=con Γ (ev tm x):=fun x hx=>ht.eval (by
  rw[Array.all_eq_true_iff_forall_mem] at hop;exact hop x hx)
 unfold zE0 at he
 split at he
 ·rename_i t a ho
  have hx:=hev a (by simp[ho,Op.operands])
  simp only[execOp,ho,hx,Sem.run_bind,bY0 hr he,Result.andThen_ok,Sem.run_pure]
 ·rename_i t x lo hi mx ho
  have hx:=hev x (by simp[ho,Op.operands])
  have hlo:lo.map ca.eval=(lo.map (ev tm)).map (con Γ):=by
   cases lo with
   | none=>rfl
   | some y=>simp[hev y (by simp[ho,Op.operands])]
  have hhi:hi.map ca.eval=(hi.map (ev tm)).map (con Γ):=by
   cases hi with
   | none=>rfl
   | some y=>simp[hev y (by simp[ho,Op.operands])]
  have hmx:mx.map ca.eval=(mx.map (ev tm)).map (con Γ):=by
   cases mx with
   | none=>rfl
   | some y=>simp[hev y (by simp[ho,Op.operands])]
  split at he
  ·rename_i a n c hxe
   simp only[execOp,ho,hx,hxe,hlo,hhi,hmx,Sem.run_bind,cU0 hr he,Result.andThen_ok,Sem.run_pure]
  ·cases he
 ·rename_i s d x ho
  have hx:=hev x (by simp[ho,Op.operands])
  split at he
  ·rename_i e n c hs hd hxe
   split at he<;>cases he
   rename_i hu8
   simp only[execOp,ho,hx,hxe,con,Sem.run_bind]
   rw[run_convert_bytes_string w s d e _ _ _ hs hu8 hd]
   simp[Conv.bytesToString]
  ·rename_i e a c hs hd hxe
   split at he<;>cases he
   rename_i hu8
   simp only[execOp,ho,hx,hxe,con,wM,Sem.run_bind]
   rw[run_convert_bytes_string w s d e _ _ _ hs hu8 hd]
   have hld:(loadCells ⟨Γ.b a.block,a.off,a.spot⟩ 0).run p.P w=.ok (([]:List Int).map (Value.int .u8)).toArray w:=by
    simp[loadCells,loadCellsFrom]
   have hrun:=run_bytesToString w ⟨Γ.b a.block,a.off,a.spot⟩ 0 (uC Γ a.block c) [] hld
   rw[hrun,kB0]
   rfl
  ·rename_i e g off n c hne hs hd hxe
   split at he
   ·rename_i cs e' m hu8 hc
    split at he
    ·rename_i l hl
     split at he<;>cases he
     rename_i bs hbs
     obtain ⟨ns,h1,h2⟩:=kS0 hbs
     have hld:=hr.load hc hl (.inr fun v hv=>by
      rw[h1] at hv
      obtain ⟨k,_,rfl⟩:=List.mem_map.1 hv
      rfl) p.P
     rw[h1] at hld
     have hflat:(ns.map (Value.int .u8)).map (con Γ)=ns.map (Value.int .u8):=by
      rw[List.map_map];exact List.map_congr_left fun n _=>rfl
     rw[hflat] at hld
     have hrun:=run_bytesToString w ⟨Γ.b g,off,none⟩ n (uC Γ g c) ns hld
     simp only[execOp,ho,hx,hxe,con,wM,Sem.run_bind]
     rw[run_convert_bytes_string w s d e _ _ _ hs hu8 hd,hrun,kB0]
     simp[h2]
    ·cases he
   ·cases he
  ·cases he
 ·cases he
end Go.Ev
namespace Go.Ev
open Go Go.RowKit
def Out (p:Par) (Γ:Gam) (h:jA) (ca:Act) (o:Oper) (w:World) (v:Value) (h':jA):Prop:=
 ∃ Γ' w' nx,(execOp ca.eval o).run p.P w=.ok nx w'∧(nx=.value (con Γ' v)∨(nx=.skip∧v=undef))∧Ag Γ Γ' h.next∧h.next≤h'.next∧jY p Γ' h' w'∧Fr p Γ h w w'
theorem jF0 {p:Par} {Γ:Gam} {h:jA} {w:World} (hr:jY p Γ h w) {e:TypeId} {cs:List Value} {more:Bool} {b:Nat} {h':jA}
  (hm:mkRow h e cs more=some (b,h')) (rest:List Value) (k:Nat) (fr:Nat×Nat) (hfr:cs.length+rest.length≤fr.1∨fr.2=fr.1) (hno:more=false→rest=[])
  (hmore:more=true→∃ t,p.P.info? e=some t∧cs.length+rest.length=k*t.size) :
  b=h.next∧h'.next=h.next+1∧Ag Γ (Γ.ext h.next w.heap.size k) h.next∧
  jY p (Γ.ext h.next w.heap.size k) h' (w.alloc (.cells ⟨cs.map (con Γ)++rest⟩ e fr))∧Fr p Γ h w (w.alloc (.cells ⟨cs.map (con Γ)++rest⟩ e fr)):=by
 unfold mkRow at hm
 split at hm
 case h_2=>cases hm
 rename_i hb
 rw[jA.new_eq] at hm
 cases hm
 simp only[uS,Bool.and_eq_true,List.all_eq_true] at hb
 have hag:=Γ.ext_ag h.next w.heap.size k
 have hok:∀ v∈cs,one v=true∧sc h.next v=true:=fun v hv=>⟨hb.1 v hv,qP hb.2 v hv⟩
 have hmap:cs.map (con (Γ.ext h.next w.heap.size k))=cs.map (con Γ):=List.map_congr_left fun v hv=>jO0 hag v (hok v hv).2
 have:=jY.new (x:=⟨.cells ⟨cs⟩ e,more⟩) (o:=.cells ⟨cs.map (con Γ)++rest⟩ e fr) (k:=k) hr (by
  simp only[OR]
  refine ⟨fun _=>⟨fun v hv=>⟨(hok v hv).1,qX (Nat.le_succ _) v (hok v hv).2⟩,rest,fr,?_,by simpa using hfr,hno,?_⟩,fun h0=>absurd h0 (Nat.not_lt.2 hr.gn)⟩
  ·rw[Gam.ext_b,hmap];exact heap_alloc_new w _
  ·rw[Gam.ext_k];simpa using hmore)
 rw[jA.new_eq] at this
 exact ⟨rfl,rfl,hag,this.1,this.2⟩
theorem wG0 (Γ:Gam) (n b k:Nat):con (Γ.ext n b k) (.pointer (some ⟨n,0,none⟩))=.pointer (some ⟨b,0,none⟩):=by
 simp[con,wM,Gam.ext_b]
theorem fH0 (z:Array Value):∀ n,((Array.range (n*z.size)).map (z[· % z.size]!)).toList=(List.replicate n z.toList).flatten:=by
 intro n
 induction n with
 | zero=>simp
 | succ n ih=>
  have e:(n+1)*z.size=n*z.size+z.size:=by rw[Nat.add_mul];simp
  rw[e]
  simp only[Array.toList_map,Array.toList_range] at ih ⊢
  rw[List.range_add,List.map_append,ih,List.replicate_succ',List.flatten_append]
  congr 1
  simp only[List.map_map,List.flatten_singleton]
  apply List.ext_getElem
  ·simp
  ·intro i h1 h2
   simp at h1
   simp[Nat.add_comm,Nat.mod_eq_of_lt h1,getElem!_pos z i h1]
theorem mF0 {p:Par} {Γ:Gam} {h h':jA} {w:World} (hr:jY p Γ h w) {t:TypeId} {a v:Value} (he:dW0 p.P t a v h=some h') :
  ∃ w',(Instr.storeAt t (con Γ a) (con Γ v)).run p.P w=.ok () w'∧h'.next=h.next∧jY p Γ h' w'∧Fr p Γ h w w':=by
 unfold dW0 at he
 split at he
 ·rename_i b off
  split at he
  ·rename_i cs e m n hc hn
   split at he
   ·rename_i hb
    simp only[uS,Bool.and_eq_true,Nat.beq_eq,List.all_eq_true,Nat.ble_eq] at hb
    obtain ⟨⟨h1,h2,h3⟩,h4⟩:=hb
    split at he<;>cases he
    rename_i cs' hset
    obtain ⟨hle,rfl⟩:=lG0 hset
    obtain ⟨fr0,hg⟩:=uI hc
    have hG:p.G≤b:=by rw[← hr.lo];exact h4
    obtain ⟨hlt,rest,fr,hrow⟩:=hr.row hc hG
    have hst:=gX p.P (Γ.b b) off e fr (v.cells.toList.map (con Γ)) 0 (cs.map (con Γ)++rest) w hrow.heap
     (by simpa using hrow.fr) (by simp at hle ⊢;omega) (by
      intro x hx
      simp only[List.mem_map] at hx
      obtain ⟨y,hy,rfl⟩:=hx
      rw[lN0];exact h2 y hy)
    have hset:setFrom (cs.map (con Γ)++rest) (off+0) (v.cells.toList.map (con Γ))=(setFrom cs off v.cells.toList).map (con Γ)++rest:=by
     rw[uX0]
     simp only[setFrom,Nat.add_zero,List.length_map]
     rw[List.take_append_of_le_length (by simp at hle ⊢;omega),List.drop_append_of_le_length (by simp at hle ⊢;omega)]
     simp
    rw[hset] at hst
    have hlen:(setFrom cs off v.cells.toList).length=cs.length:=by
     simp only[setFrom,List.length_append,List.length_take,List.length_drop]
     omega
    have hok:∀ x∈setFrom cs off v.cells.toList,one x=true∧sc h.next x=true:=by
     intro x hx
     simp only[setFrom,List.mem_append] at hx
     rcases hx with (hx|hx)|hx
     ·exact hrow.ok x (List.mem_of_mem_take hx)
     ·exact ⟨h2 x hx,qP h3 x hx⟩
     ·exact hrow.ok x (List.mem_of_mem_drop hx)
    have hput:=hr.put (x':=⟨.cells ⟨setFrom cs off v.cells.toList⟩ e,m⟩) (o:=.cells ⟨(setFrom cs off v.cells.toList).map (con Γ)++rest⟩ e fr) hg rfl h4 (by
     simp only[OR]
     refine ⟨fun _=>⟨hok,rest,fr,?_,?_,hrow.no,fun hm=>?_⟩,fun h0=>absurd h0 (Nat.not_lt.2 hG)⟩
     ·rw[qU _ _ _ (Array.getElem?_eq_some_iff.1 hrow.heap).1];simp
     ·have:=hrow.fr;simpa[hlen] using this
     ·obtain ⟨ti,h5,h6⟩:=hrow.more hm
      exact ⟨ti,h5,by simpa[hlen] using h6⟩)
    refine ⟨_,?_,rfl,hput.1,hput.2⟩
    have hsz:((con Γ v).cells.size≠n)=False:=by
     rw[zH0];simp[h1]
    simp only[con,wM,Instr.storeAt,Instr.sureAddr,storeVar,Sem.run_bind,Sem.run_pure,Result.andThen_ok,uV hn,hsz,if_false]
    rw[zH0]
    simpa using hst
   ·cases he
  ·cases he
 ·cases he
theorem dB1 {P:Program} {w:World} {x:Value} {m:Nat} (Γ:Gam) (h:lenV x=some m):(Builtin.lenOf (con Γ x)).run P w=.ok m w:=by
 unfold lenV at h
 split at h<;>cases h
 ·rename_i a _;cases a<;>simp[con,Builtin.lenOf]
 ·simp[con,Builtin.lenOf]
theorem kO0 {p:Par} {Γ:Gam} {h:jA} {w:World} (hr:jY p Γ h w) {size n:Nat} {x:Value} {l:List Value} (he:qS size n x h=some l) :
  l.length=n*size∧(∀ v∈l,one v=true∧sc h.next v=true)∧∀ w',w'.heap=w.heap→(Builtin.firstCells size n (con Γ x)).run p.P w'=.ok ⟨l.map (con Γ)⟩ w':=by
 unfold qS at he
 split at he
 ·rename_i a len cap
  split at he
  ·cases he
   refine ⟨by simp,(fun v hv=>by cases hv),fun w' _=>?_⟩
   cases a<;>simp[con,Builtin.firstCells,loadCells,loadCellsFrom]
  split at he
  case h_2=>cases he
  rename_i b off
  split at he
  ·rename_i cs e m hc
   split at he
   ·rename_i l' hl
    have hok:l'=l∧(p.G≤b∨∀ v∈l',sc p.G v=true):=by
     rw[hr.lo] at he
     cases hb:Nat.ble p.G b with
     | true=>rw[hb] at he;cases he;exact ⟨rfl,.inl (by simpa using hb)⟩
     | false=>
      rw[hb] at he
      cases hs:uF p.G l' with
      | true=>
       rw[hs] at he;cases he
       simp only[uS,Bool.and_eq_true] at hs
       exact ⟨rfl,.inr fun v hv=>qP hs.2 v hv⟩
      | false=>rw[hs] at he;cases he
    obtain ⟨rfl,hok⟩:=hok
    refine ⟨(qK0 hl).1,fun v hv=>?_,fun w' hw=>?_⟩
    ·obtain ⟨j,hj⟩:=List.getElem?_of_mem hv
     have:=hr.cell hc ((qK0 hl).2.2 j v hj) (hok.imp id fun h0=>h0 v hv)
     exact ⟨this.1,this.2.1⟩
    ·have:=(hr.of_heap hw).load hc hl hok p.P
     simpa[con,wM,Builtin.firstCells] using this
   ·cases he
  ·cases he
 ·rename_i s
  split at he<;>cases he
  rename_i hb
  simp only[Bool.and_eq_true,Nat.beq_eq] at hb
  obtain ⟨h1,h2⟩:=hb
  subst h1 h2
  have hsz:s.data.toList.length=s.size:=Array.length_toList
  refine ⟨by rw[List.length_map,hsz,Nat.mul_one],fun v hv=>(by obtain ⟨u,_,rfl⟩:=List.mem_map.1 hv;exact ⟨rfl,rfl⟩),fun w' _=>?_⟩
  simp only[con,Builtin.firstCells,Sem.run_pure]
  congr 1
  apply Array.ext'
  rw[List.map_map]
  simp only[Array.toList_map]
  have hex:(s.extract 0 s.size).data.toList=s.data.toList:=by
   rw[ByteArray.data_extract]
   have:s.data.extract 0 s.size=s.data:=by
    rw[show s.size=s.data.size from rfl];exact Array.extract_size
   rw[this]
  rw[hex]
  rfl
 ·cases he
theorem uR0 {P:Program} {w:World} {sT xT ty e:TypeId} {i:TypeInfo} {base:Option Addr} {n m cap:Nat} {x:Value} {new:List Value} {dx:TypeDesc}
  (hs:P.underlying sT=some (.slice e)) (hxT:P.underlying xT=some dx) (hni:∀ k,dx≠.int k) (hi:P.info? e=some i) (hlen:(Builtin.lenOf x).run P w=.ok m w)
  (hnew:(Builtin.firstCells i.size m x).run P w=.ok ⟨new⟩ w) (hle:n+m≤cap) {w':World}
  (hst:(match base with|some a=>storeCells (a.add (n*i.size)) new|none=>pure ():Sem Unit).run P w=.ok () w') :
  (Builtin.append_ #[sT,xT] ty #[.slice base n cap,x]).run P w=.ok (.slice base (n+m) cap) w':=by
 have hz:(dx matches .int _)=false:=by cases dx<;>first|rfl|exact absurd rfl (hni _)
 simp only[Builtin.append_,List.getElem?_toArray,List.getElem?_cons_zero,List.getElem?_cons_succ,Sem.run_bind,jS hs,Result.andThen_ok,sizeOf,typeInfo,run_program,hi,Sem.run_pure,
  jS hxT,Bool.false_eq_true,if_false,hlen,if_pos hle,Bool.not_false,if_true,hnew]
 cases base with
 | none=>simp at hst ⊢;exact hst
 | some a=>simp at hst;simp[hst]
theorem gX0 {P:Program} {w:World} {sT xT ty e:TypeId} {i:TypeInfo} {z:Value} {base:Option Addr} {n m cap:Nat} {x:Value} {old new:List Value} {dx:TypeDesc}
  (hs:P.underlying sT=some (.slice e)) (hxT:P.underlying xT=some dx) (hni:∀ k,dx≠.int k) (hi:P.info? e=some i) (hz:i.zero=some z) (hlen:(Builtin.lenOf x).run P w=.ok m w)
  (hold:(Builtin.firstCells i.size n (.slice base n cap)).run P w.drew=.ok ⟨old⟩ w.drew)
  (hnew:(Builtin.firstCells i.size m x).run P w.drew=.ok ⟨new⟩ w.drew) (hgt:cap<n+m) (h63:((n+m:Nat):Int)≤9223372036854775807)
  (hfit:Builtin.nextslicecap (n+m) cap*i.bytes≤281474976710656) :
  (Builtin.append_ #[sT,xT] ty #[.slice base n cap,x]).run P w=.ok (.slice (some ⟨w.heap.size,0,none⟩) (n+m) (grownCap w (n+m) cap e))
   (w.drew.alloc (.cells ⟨old++new++(Builtin.zeroCells z.cells (grownCap w (n+m) cap e-(n+m))).toList⟩ e)):=by
 have hzz:(dx matches .int _)=false:=by cases dx<;>first|rfl|exact absurd rfl (hni _)
 have hn:¬ (n+m≤cap):=by omega
 have h63':¬ (((n+m:Nat):Int) > IntKind.i64.max):=by
  have:IntKind.i64.max=9223372036854775807:=by decide
  omega
 have h48':¬ (Builtin.nextslicecap (n+m) cap*i.bytes > 2 ^ 48):=by
  have:(2:Nat) ^ 48=281474976710656:=by decide
  omega
 simp only[Builtin.append_,List.getElem?_toArray,List.getElem?_cons_zero,List.getElem?_cons_succ,Sem.run_bind,jS hs,Result.andThen_ok,sizeOf,typeInfo,run_program,hi,Sem.run_pure,
  jS hxT,Bool.false_eq_true,if_false,hlen,if_neg hn,h63',false_and,h48',Bool.not_false,if_true]
 simp only[run_choose,Question.forced,Bool.false_eq_true,if_false,Result.andThen_ok,run_askRoom,World.drew_eq,zeroValue,typeInfo,Sem.run_bind,run_program,hi,hz,Sem.run_pure]
 rw[hold]
 simp only[Result.andThen_ok]
 rw[hnew]
 simp only[Result.andThen_ok,newRow,Sem.run_bind,run_newObj,Sem.run_pure,World.alloc_eq]
 simp only[grownCap]
 congr 2
 congr 1
 apply Array.ext'
 simp
def dead:qH:=⟨.number ⟨0,0,none⟩ false,false⟩
theorem jH0 {h:jA} {b:Nat} {x' y:qH} (j:Nat) :
  ({ t:=(h.t.put h.next x').put b y,next:=h.next+1,lo:=h.lo }:jA).get j=if j=b then some y else if j=h.next then some x' else h.get j:=by
 simp only[jA.get]
 rw[Tr.get_put _ b y j,Tr.get_put h.t h.next x' j]
theorem jY.lend {p:Par} {Γ:Gam} {h:jA} {w:World} (hr:jY p Γ h w) {b:Nat} {x x':qH} {e:TypeId} {cs:List Value} (hx:h.get b=some x) (ho:owned x=true) (hlo:h.lo≤b) (hcs:∀ v∈cs,one v=true∧sc h.next v=true)
  {o:Obj} (hOR:OR p (Γ.ext h.next (Γ.b b) (Γ.k b)) (h.next+1) (wset w (Γ.b b) o) h.next x') (hox:owned x'=true) :
  jY p (Γ.ext h.next (Γ.b b) (Γ.k b)) { t:=(h.t.put h.next x').put b (qB h.next e cs),next:=h.next+1,lo:=h.lo } (wset w (Γ.b b) o)∧Fr p Γ h w (wset w (Γ.b b) o):=by
 have hb:=(hr.obj b x hx).1
 have hlt:=jK1 (hr.obj b x hx).2 ho
 have hG:p.G≤b:=by rw[← hr.lo];exact hlo
 have hB:p.B≤Γ.b b:=hr.base b x hx ho hG
 have hag:=Γ.ext_ag h.next (Γ.b b) (Γ.k b)
 have hne:∀ i y,h.get i=some y→owned y=true→i≠b→Γ.b i≠Γ.b b:=fun i y hy hoy hi e=>by
  by_cases hiG:p.G≤i
  ·exact hi (hr.inj i b y x hy hoy hx ho hiG hG e)
  ·have:=hr.low i y (by omega) hy hoy;omega
 have hget:=fun j=>jH0 (h:=h) (b:=b) (x':=x') (y:=qB h.next e cs) j
 have hbb:∀ i,i<h.next→(Γ.ext h.next (Γ.b b) (Γ.k b)).b i=Γ.b i:=fun i hi=>hag.b i hi
 have hdead:owned (qB h.next e cs)=false:=rfl
 have hxL:notL x'=true:=by unfold owned at hox;unfold notL;split at hox<;>simp_all
 have hcase : ∀ i y, ({ t := (h.t.put h.next x').put b (qB h.next e cs), next := h.next + 1, lo := h.lo } : jA).get i = some y → owned y = true →
   (i=h.next∧y=x')∨(i≠h.next∧i≠b∧h.get i=some y∧i<h.next):=fun i y hy hoy=>by
  rw[hget] at hy
  split at hy
  ·cases hy;rw[hdead] at hoy;cases hoy
  ·rename_i e
   split at hy
   ·rename_i e2;cases hy;exact .inl ⟨e2,rfl⟩
   ·rename_i e2;exact .inr ⟨e2,e,hy,(hr.obj i y hy).1⟩
 have hlc : ∀ i c e' cs', ({ t := (h.t.put h.next x').put b (qB h.next e cs), next := h.next + 1, lo := h.lo } : jA).get i = some (qB c e' cs') →
   (i=b∧c=h.next∧cs'=cs)∨(i≠b∧h.get i=some (qB c e' cs')):=fun i c e' cs' hy=>by
  rw[hget] at hy
  split at hy
  ·rename_i e1
   simp only[qB,Option.some.injEq,qH.mk.injEq,Obj.pending.injEq,Array.mk.injEq,List.cons.injEq,Value.pointer.injEq,Addr.mk.injEq,and_true,true_and] at hy
   exact .inl ⟨e1,hy.1.1.symm,hy.1.2.symm⟩
  ·rename_i e1
   split at hy
   ·cases hy;exact absurd rfl (dE0 hxL _ _ _)
   ·exact .inr ⟨e1,hy⟩
 refine ⟨⟨fun i y hy=>?_,fun i y hy hoy hi=>?_,fun i j y z hy hoy hz hoz hi hj e=>?_,fun g hg=>?_,fun i y hi hy hoy=>?_,hr.lo,Nat.le_succ_of_le hr.gn,hr.ng,by rw[jE0];exact hr.size,hr.gs,⟨fun i c e' cs' hi=>?_,fun i c e' cs' hi j y hj hoy hjG he=>?_,fun a x1 e1 cs1 ha i y e' cs' hi hai he=>?_⟩⟩,?_,?_⟩
 ·cases hoy:owned y with
  | false=>
   refine ⟨?_,bB0 hoy⟩
   rw[hget] at hy
   split at hy
   ·rename_i e;rw[e];exact Nat.lt_succ_of_lt hb
   ·split at hy
    ·rename_i e;rw[e];exact Nat.lt_succ_self _
    ·exact Nat.lt_succ_of_lt (hr.obj i y hy).1
  | true=>
   rcases hcase i y hy hoy with ⟨rfl,rfl⟩|⟨h1,h2,h3,h4⟩
   ·exact ⟨Nat.lt_succ_self _,hOR⟩
   ·refine ⟨Nat.lt_succ_of_lt h4,(hr.obj i y h3).2.ag hag (Nat.le_succ _) hr.gn h4 ?_⟩
    rw[qU _ _ _ hlt,if_neg (hne i y h3 hoy h2)]
 ·rcases hcase i y hy hoy with ⟨rfl,rfl⟩|⟨h1,h2,h3,h4⟩
  ·rw[Gam.ext_b];exact hB
  ·rw[hbb i h4];exact hr.base i y h3 hoy hi
 ·rcases hcase i y hy hoy with ⟨rfl,rfl⟩|⟨h1,h2,h3,h4⟩
  ·rcases hcase j z hz hoz with ⟨rfl,rfl⟩|⟨k1,k2,k3,k4⟩
   ·rfl
   ·rw[Gam.ext_b,hbb j k4] at e;exact absurd e.symm (hne j z k3 hoz k2)
  ·rcases hcase j z hz hoz with ⟨rfl,rfl⟩|⟨k1,k2,k3,k4⟩
   ·rw[Gam.ext_b,hbb i h4] at e;exact absurd e (hne i y h3 hoy h2)
   ·rw[hbb i h4,hbb j k4] at e;exact hr.inj i j y z h3 hoy k3 hoz hi hj e
 ·rw[hbb g (by have:=hr.ng;have:=hr.gn;omega)];exact hr.gl g hg
 ·rcases hcase i y hy hoy with ⟨h1,-⟩|⟨h1,h2,h3,h4⟩
  ·have:=hr.gn;omega
  ·rw[hbb i h4];exact hr.low i y hi h3 hoy
 ·rcases hlc i c e' cs' hi with ⟨rfl,rfl,rfl⟩|⟨hne',hi⟩
  ·rw[Gam.ext_b,Gam.ext_k,hbb i hb,hag.k i hb]
   exact ⟨hG,hb,Nat.lt_succ_self _,hB,by rw[jE0];exact hlt,fun v hv=>⟨(hcs v hv).1,qX (Nat.le_succ _) v (hcs v hv).2⟩,fun _=>rfl,fun h=>absurd rfl h⟩
  ·obtain ⟨q1,q2,q3,q4,q5,q6,q7,q8⟩:=hr.lent.own i c e' cs' hi
   rw[hbb i (by omega),hbb c q3,hag.k c q3,hag.k i (by omega)]
   refine ⟨q1,q2,Nat.lt_succ_of_lt q3,q4,by rw[jE0];exact q5,fun v hv=>⟨(q6 v hv).1,qX (Nat.le_succ _) v (q6 v hv).2⟩,q7,fun hn=>?_⟩
   obtain ⟨rest,fr,r1,r2,r3⟩:=q8 hn
   refine ⟨rest,fr,?_,r2,r3⟩
   rw[qU _ _ _ hlt,if_neg fun he=>hn (hr.lent.tip i c e' cs' hi b x hx ho hG he.symm).2.1,r1]
   have:cs'.map (con (Γ.ext h.next (Γ.b b) (Γ.k b)))=cs'.map (con Γ):=List.map_congr_left fun v hv=>jO0 hag v (q6 v hv).2
   rw[this]
 ·rcases hlc i c e' cs' hi with ⟨rfl,rfl,rfl⟩|⟨hne',hi⟩
  ·rcases hcase j y hj hoy with ⟨rfl,-⟩|⟨h1,h2,h3,h4⟩
   ·exact ⟨Nat.le_refl _,he,fun _ _ _=>rfl⟩
   ·rw[hbb j h4,hbb i hb] at he
    exact absurd he (hne j y h3 hoy h2)
  ·obtain ⟨q1,q2,q3,_⟩:=hr.lent.own i c e' cs' hi
   rw[hbb i (by omega)] at he ⊢
   rw[hbb c q3]
   have hcc:∀ z,({ t:=(h.t.put h.next x').put b (qB h.next e cs),next:=h.next+1,lo:=h.lo }:jA).get c=some z→owned z=true→c≠b∧h.get c=some z:=fun z hz hoz=>by
    rcases hcase c z hz hoz with ⟨h1,-⟩|⟨h1,h2,h3,h4⟩
    ·omega
    ·exact ⟨h2,h3⟩
   rcases hcase j y hj hoy with ⟨rfl,-⟩|⟨h1,h2,h3,h4⟩
   ·rw[Gam.ext_b] at he
    obtain ⟨r1,r2,r3⟩:=hr.lent.tip i c e' cs' hi b x hx ho hG he
    refine ⟨by omega,r2,fun z hz hoz=>?_⟩
    obtain ⟨k1,k2⟩:=hcc z hz hoz
    exact absurd (r3 z k2 hoz).symm k1
   ·rw[hbb j h4] at he
    obtain ⟨r1,r2,r3⟩:=hr.lent.tip i c e' cs' hi j y h3 hoy hjG he
    exact ⟨r1,r2,fun z hz hoz=>r3 z (hcc z hz hoz).2 hoz⟩
 ·have hlo' : ∀ i c e' cs', ({ t := (h.t.put h.next x').put b (qB h.next e cs), next := h.next + 1, lo := h.lo } : jA).get i = some (qB c e' cs') → i < h.next := fun i c e' cs' hi => by
   rcases hlc i c e' cs' hi with ⟨rfl,_⟩|⟨_,hi⟩
   ·exact hb
   ·exact (hr.obj i _ hi).1
  rw[hbb a (hlo' _ _ _ _ ha),hbb i (hlo' _ _ _ _ hi)] at he
  rw[hbb a (hlo' _ _ _ _ ha)]
  rcases hlc a x1 e1 cs1 ha with ⟨rfl,rfl,rfl⟩|⟨hna,ha'⟩
  ·rcases hlc i y e' cs' hi with ⟨rfl,_⟩|⟨hni,hi'⟩
   ·omega
   ·obtain ⟨r1,r2,r3⟩:=hr.lent.tip i y e' cs' hi' a x hx ho hG he
    have:=(hr.lent.own i y e' cs' hi').2.1
    omega
  ·rw[hbb x1 (hr.lent.own a x1 e1 cs1 ha').2.2.1]
   rcases hlc i y e' cs' hi with ⟨rfl,_⟩|⟨hni,hi'⟩
   ·obtain ⟨r1,r2,r3⟩:=hr.lent.tip a x1 e1 cs1 ha' i x hx ho hG he.symm
    exact ⟨r2,r1⟩
   ·exact hr.lent.two a x1 e1 cs1 ha' i y e' cs' hi' hai he
 ·refine ⟨rfl,rfl,rfl,by rw[jE0];exact Nat.le_refl _,fun k hk=>?_⟩
  rw[qU _ _ _ hlt,if_neg (by omega)]
 ·intro i y hy hoy hi
  rw[qU _ _ _ hlt,if_neg (hne i y hy hoy (by omega))]
theorem jY.lendTo {p:Par} {Γ:Gam} {h:jA} {w:World} (hr:jY p Γ h w) {b c:Nat} {e:TypeId} {cs:List Value} {fr0:Nat×Nat} (hx:h.get b=some ⟨.cells ⟨cs⟩ e fr0,true⟩) (hlo:h.lo≤b) (hbc:b<c) (hc:c<h.next) (hne:Γ.b c≠Γ.b b) :
  jY p Γ (h.put b (qB c e cs)) w:=by
 have hG:p.G≤b:=by rw[← hr.lo];exact hlo
 have hb:=(hr.obj b _ hx).1
 have hOR:=(hr.obj b _ hx).2
 simp only[OR] at hOR
 obtain ⟨ok,rest,fr,r1,r2,-,r4⟩:=hOR.1 hG
 have hlt:Γ.b b<w.heap.size:=(Array.getElem?_eq_some_iff.1 r1).1
 have hown:∀ i y,(h.put b (qB c e cs)).get i=some y→owned y=true→i≠b∧h.get i=some y:=fun i y hy hoy=>by
  rw[jA.get_put] at hy
  split at hy
  ·cases hy;cases hoy
  ·rename_i hne;exact ⟨hne,hy⟩
 have hlc:∀ i d e' cs',(h.put b (qB c e cs)).get i=some (qB d e' cs')→(i=b∧d=c∧e'=e∧cs'=cs)∨(i≠b∧h.get i=some (qB d e' cs')):=fun i d e' cs' hy=>by
  rw[jA.get_put] at hy
  split at hy
  ·rename_i e1
   simp only[qB,Option.some.injEq,qH.mk.injEq,Obj.pending.injEq,Array.mk.injEq,List.cons.injEq,Value.pointer.injEq,Addr.mk.injEq,and_true,true_and] at hy
   exact .inl ⟨e1,hy.1.1.symm,hy.2.symm,hy.1.2.symm⟩
  ·rename_i hne;exact .inr ⟨hne,hy⟩
 refine ⟨fun i y hy=>?_,fun i y hy hoy hi=>hr.base i y (hown i y hy hoy).2 hoy hi,fun i j y z hy hoy hz hoz hi hj e=>hr.inj i j y z (hown i y hy hoy).2 hoy (hown j z hz hoz).2 hoz hi hj e,
  hr.gl,fun i y hi hy hoy=>hr.low i y hi (hown i y hy hoy).2 hoy,hr.lo,hr.gn,hr.ng,hr.size,hr.gs,⟨fun i d e' cs' hi=>?_,fun i d e' cs' hi j y hj hoy hjG he=>?_,fun a x1 e1 cs1 ha i y e' cs' hi hai he=>?_⟩⟩
 ·cases hoy:owned y with
  | false=>
   rw[jA.get_put] at hy
   split at hy
   ·rename_i e;subst e;exact ⟨hb,bB0 hoy⟩
   ·exact ⟨(hr.obj i y hy).1,bB0 hoy⟩
  | true=>exact hr.obj i y (hown i y hy hoy).2
 ·rcases hlc i d e' cs' hi with ⟨rfl,rfl,rfl,rfl⟩|⟨_,hi⟩
  ·exact ⟨hG,hbc,hc,hr.base i _ hx rfl hG,hlt,ok,fun h=>absurd h hne,fun _=>⟨rest,fr,r1,r2,r4 trivial⟩⟩
  ·exact hr.lent.own i d e' cs' hi
 ·obtain ⟨hjb,hj'⟩:=hown j y hj hoy
  rcases hlc i d e' cs' hi with ⟨rfl,rfl,rfl,rfl⟩|⟨_,hi⟩
  ·exact absurd (hr.inj j i y _ hj' hoy hx rfl hjG hG he) hjb
  ·obtain ⟨q1,q2,q3⟩:=hr.lent.tip i d e' cs' hi j y hj' hoy hjG he
   exact ⟨q1,q2,fun z hz hoz=>q3 z (hown d z hz hoz).2 hoz⟩
 ·rcases hlc a x1 e1 cs1 ha with ⟨rfl,rfl,rfl,rfl⟩|⟨hna,ha'⟩
  ·rcases hlc i y e' cs' hi with ⟨rfl,_⟩|⟨hni,hi'⟩
   ·omega
   ·obtain ⟨q1,q2,q3⟩:=hr.lent.tip i y e' cs' hi' a _ hx rfl hG he
    have:=(hr.lent.own i y e' cs' hi').2.1
    omega
  ·rcases hlc i y e' cs' hi with ⟨rfl,_⟩|⟨hni,hi'⟩
   ·obtain ⟨q1,q2,q3⟩:=hr.lent.tip a x1 e1 cs1 ha' i _ hx rfl hG he.symm
    exact ⟨q2,q1⟩
   ·exact hr.lent.two a x1 e1 cs1 ha' i y e' cs' hi' hai he
theorem jY.back {p:Par} {Γ:Gam} {h:jA} {w:World} (hr:jY p Γ h w) {b c:Nat} {e:TypeId} {cs ds:List Value} {fr0:Nat×Nat} (hb:h.get b=some (qB c e cs)) (hc:h.get c=some ⟨.cells ⟨cs++ds⟩ e fr0,true⟩) :
  jY p Γ ((h.put c dead).put b ⟨.cells ⟨cs⟩ e,true⟩) w:=by
 obtain ⟨q1,q2,q3,q4,q5,q6,q7,q8⟩:=hr.lent.own b c e cs hb
 have hcG:p.G≤c:=by omega
 have hget:∀ i,((h.put c dead).put b ⟨.cells ⟨cs⟩ e,true⟩).get i=if i=b then some ⟨.cells ⟨cs⟩ e,true⟩ else if i=c then some dead else h.get i:=fun i=>by
  rw[jA.get_put,jA.get_put]
 have hnx:((h.put c dead).put b ⟨.cells ⟨cs⟩ e,true⟩).next=h.next:=by obtain ⟨t,n,lo⟩:=h;rfl
 have hlo:((h.put c dead).put b ⟨.cells ⟨cs⟩ e,true⟩).lo=h.lo:=by obtain ⟨t,n,lo⟩:=h;rfl
 have hown:∀ i y,((h.put c dead).put b ⟨.cells ⟨cs⟩ e,true⟩).get i=some y→owned y=true→(i=b∧y=⟨.cells ⟨cs⟩ e,true⟩)∨(i≠b∧i≠c∧h.get i=some y):=fun i y hy hoy=>by
  rw[hget] at hy
  split at hy
  ·rename_i e1;cases hy;exact .inl ⟨e1,rfl⟩
  ·rename_i e1
   split at hy
   ·cases hy;cases hoy
   ·rename_i e2;exact .inr ⟨e1,e2,hy⟩
 have hlc:∀ i d e' cs',((h.put c dead).put b ⟨.cells ⟨cs⟩ e,true⟩).get i=some (qB d e' cs')→i≠b∧i≠c∧h.get i=some (qB d e' cs'):=fun i d e' cs' hy=>by
  rw[hget] at hy
  split at hy
  ·cases hy
  ·rename_i e1
   split at hy
   ·cases hy
   ·rename_i e2;exact ⟨e1,e2,hy⟩
 have htip:=hr.lent.tip b c e cs hb
 have hal:∀ i y,h.get i=some y→owned y=true→p.G≤i→Γ.b i=Γ.b b→i=c:=fun i y hy hoy hi he=>(htip i y hy hoy hi he).2.2 _ hc rfl
 have hblk:∃ rest fr,w.heap[Γ.b b]?=some (.cells (cs.map (con Γ)++rest).toArray e fr)∧(cs.length+rest.length≤fr.1∨fr.2=fr.1)∧∃ t,p.P.info? e=some t∧cs.length+rest.length=Γ.k b*t.size:=by
  by_cases hs:Γ.b c=Γ.b b
  ·have hOR:=(hr.obj c _ hc).2
   simp only[OR] at hOR
   obtain ⟨ok,rest,fr,r1,r2,-,r4⟩:=hOR.1 hcG
   obtain ⟨t,r5,r6⟩:=r4 trivial
   refine ⟨ds.map (con Γ)++rest,fr,?_,?_,t,r5,?_⟩
   ·rw[← hs,r1];simp
   ·simp only[List.size_toArray,List.length_append] at r2
    simp only[List.length_append,List.length_map];omega
   ·rw[← q7 hs,← r6];simp;omega
  ·exact q8 hs
 refine ⟨fun i y hy=>?_,fun i y hy hoy hi=>?_,fun i j y z hy hoy hz hoz hi hj e=>?_,hr.gl,fun i y hi hy hoy=>?_,by rw[hlo];exact hr.lo,by rw[hnx];exact hr.gn,hr.ng,hr.size,hr.gs,⟨fun i d e' cs' hi=>?_,fun i d e' cs' hi j y hj hoy hjG he=>?_,fun a x1 e1 cs1 ha i y e' cs' hi hai he=>?_⟩⟩
 ·rw[hnx]
  cases hoy:owned y with
  | false=>
   rw[hget] at hy
   split at hy
   ·cases hy;cases hoy
   ·split at hy
    ·rename_i e;subst e;exact ⟨q3,bB0 hoy⟩
    ·exact ⟨(hr.obj i y hy).1,bB0 hoy⟩
  | true=>
   rcases hown i y hy hoy with ⟨rfl,rfl⟩|⟨_,_,h3⟩
   ·refine ⟨by omega,?_⟩
    obtain ⟨rest,fr,r1,r2,r3⟩:=hblk
    simp only[OR]
    exact ⟨fun _=>⟨q6,rest,fr,r1,r2,(fun hm=>by cases hm),fun _=>r3⟩,fun h0=>absurd h0 (Nat.not_lt.2 q1)⟩
   ·exact hr.obj i y h3
 ·rcases hown i y hy hoy with ⟨rfl,rfl⟩|⟨_,_,h3⟩
  ·exact q4
  ·exact hr.base i y h3 hoy hi
 ·rcases hown i y hy hoy with ⟨rfl,rfl⟩|⟨h1,h2,h3⟩
  ·rcases hown j z hz hoz with ⟨rfl,rfl⟩|⟨k1,k2,k3⟩
   ·rfl
   ·exact absurd (hal j z k3 hoz hj e.symm) k2
  ·rcases hown j z hz hoz with ⟨rfl,rfl⟩|⟨k1,k2,k3⟩
   ·exact absurd (hal i y h3 hoy hi e) h2
   ·exact hr.inj i j y z h3 hoy k3 hoz hi hj e
 ·rcases hown i y hy hoy with ⟨rfl,rfl⟩|⟨_,_,h3⟩
  ·omega
  ·exact hr.low i y hi h3 hoy
 ·rw[hnx]
  exact hr.lent.own i d e' cs' (hlc i d e' cs' hi).2.2
 ·obtain ⟨n1,n2,hi'⟩:=hlc i d e' cs' hi
  obtain ⟨p1,p2,p3,_⟩:=hr.lent.own i d e' cs' hi'
  rcases hown j y hj hoy with ⟨rfl,rfl⟩|⟨k1,k2,k3⟩
  ·-- b is had again
   have hij:i<j:=by
    rcases Nat.lt_trichotomy i j with h|h|h
    ·exact h
    ·exact absurd h n1
    ·obtain ⟨t1,t2⟩:=hr.lent.two j c e cs hb i d e' cs' hi' h he
     have:=(hr.lent.tip i d e' cs' hi' c _ hc rfl hcG (by rw[t1,he])).1
     omega
   obtain ⟨t1,t2⟩:=hr.lent.two i d e' cs' hi' j c e cs hb hij he.symm
   refine ⟨t2,t1,fun z hz hoz=>?_⟩
   rcases hown d z hz hoz with ⟨rfl,_⟩|⟨_,m2,m3⟩
   ·rfl
   ·exact absurd (hal d z m3 hoz (by omega) (by rw[t1,he])) m2
  ·obtain ⟨r1,r2,r3⟩:=hr.lent.tip i d e' cs' hi' j y k3 hoy hjG he
   refine ⟨r1,r2,fun z hz hoz=>?_⟩
   rcases hown d z hz hoz with ⟨rfl,_⟩|⟨_,m2,m3⟩
   ·exact absurd (hal j y k3 hoy hjG (by rw[he,← r2])) k2
   ·exact r3 z m3 hoz
 ·exact hr.lent.two a x1 e1 cs1 (hlc a x1 e1 cs1 ha).2.2 i y e' cs' (hlc i y e' cs' hi).2.2 hai he
end Go.Ev
namespace Go.Ev
open Go Go.RowKit
theorem iC0 {p:Par} {Γ:Gam} {h h':jA} {w:World} (hr:jY p Γ h w) {sT xT ty:TypeId} {s x v:Value}
  (he:uZ p.P sT xT s x h=some (v,h')) :
  ∃ Γ' w',(Builtin.append_ #[sT,xT] ty #[con Γ s,con Γ x]).run p.P w=.ok (con Γ' v) w'∧Ag Γ Γ' h.next∧h.next≤h'.next∧jY p Γ' h' w'∧Fr p Γ h w w':=by
 unfold uZ at he
 split at he
 ·rename_i e base n cap m hs hlen
  split at he
  ·cases he
  rename_i i hi0
  have hi:p.P.info? e=some i∧∃ dx,p.P.underlying xT=some dx∧∀ k,dx≠.int k:=by
   split at hi0
   ·cases hi0
   ·cases hi0
   ·rename_i dx hdx hxT
    exact ⟨hi0,dx,hxT,fun k e=>hdx k e⟩
  obtain ⟨hi,dx,hxT,hni⟩:=hi
  dsimp only at he
  split at he
  ·cases he
  rename_i new hnew
  obtain ⟨hnl,hok0,hnr⟩:=kO0 hr hnew
  have hlr:=dB1 (P:=p.P) (w:=w) Γ hlen
  have hU:=U_le
  split at he
  ·rename_i hcap
   simp only[Nat.blt_eq] at hcap
   have hcs:con Γ (.slice base n cap)=.slice (base.map (wM Γ)) n cap:=by
    cases base with
    | none=>simp[con]
    | some a=>simp[con,uC,hcap]
   rw[hcs]
   split at he
   ·rename_i hle
    simp only[Nat.ble_eq] at hle
    split at he
    ·-- nil
     split at he<;>cases he
     refine ⟨Γ,w,?_,Ag.refl _ _,Nat.le_refl _,hr,Fr.refl w⟩
     simp only[Option.map_none,con]
     exact uR0 (base:=none) hs hxT hni hi hlr (hnr w rfl) hle (by simp)
    ·rename_i b off sp
     split at he
     ·cases he
      have hn0:new=[]:=List.length_eq_zero_iff.1 (by simpa using hnl)
      subst hn0
      refine ⟨Γ,w,?_,Ag.refl _ _,Nat.le_refl _,hr,Fr.refl w⟩
      have hcv:con Γ (.slice (some ⟨b,off,sp⟩) (n+0) cap)=.slice (some ⟨Γ.b b,off,sp⟩) (n+0) cap:=by simp[con,wM,uC,hcap]
      rw[hcv]
      exact uR0 (base:=some ⟨Γ.b b,off,sp⟩) hs hxT hni hi hlr (hnr w rfl) hle (by simp[storeCells])
     split at he
     rotate_left
     ·cases he
     split at he
     ·rename_i cs e' mo hc
      split at he<;>cases he
      rename_i cs' hlo hset
      simp only[Nat.ble_eq] at hlo
      obtain ⟨hle2,rfl⟩:=lG0 hset
      obtain ⟨fr0,hg⟩:=uI hc
      have hG:p.G≤b:=by rw[← hr.lo];exact hlo
      obtain ⟨hlt,rest,fr,hrow⟩:=hr.row hc hG
      have hok:=hok0
      have hst:=gX p.P (Γ.b b) (off+n*i.size) e' fr (new.map (con Γ)) 0 (cs.map (con Γ)++rest) w hrow.heap
       (by simpa using hrow.fr) (by simp at hle2 ⊢;omega) (by
        intro y hy
        simp only[List.mem_map] at hy
        obtain ⟨z,hz,rfl⟩:=hy
        rw[lN0];exact (hok z hz).1)
      have hset:setFrom (cs.map (con Γ)++rest) (off+n*i.size+0) (new.map (con Γ))=(setFrom cs (off+n*i.size) new).map (con Γ)++rest:=by
       rw[uX0]
       simp only[setFrom,Nat.add_zero,List.length_map]
       rw[List.take_append_of_le_length (by simp;omega),List.drop_append_of_le_length (by simp;omega)]
       simp
      rw[hset] at hst
      have hlen2:(setFrom cs (off+n*i.size) new).length=cs.length:=by
       simp only[setFrom,List.length_append,List.length_take,List.length_drop]
       omega
      have hput:=hr.put (x':=⟨.cells ⟨setFrom cs (off+n*i.size) new⟩ e',mo⟩) (o:=.cells ⟨(setFrom cs (off+n*i.size) new).map (con Γ)++rest⟩ e' fr) hg rfl hlo (by
       simp only[OR]
       refine ⟨fun _=>⟨fun y hy=>?_,rest,fr,?_,?_,hrow.no,fun hm=>?_⟩,fun h0=>absurd h0 (Nat.not_lt.2 hG)⟩
       ·simp only[setFrom,List.mem_append] at hy
        rcases hy with (hy|hy)|hy
        ·exact hrow.ok y (List.mem_of_mem_take hy)
        ·exact hok y hy
        ·exact hrow.ok y (List.mem_of_mem_drop hy)
       ·rw[qU _ _ _ (Array.getElem?_eq_some_iff.1 hrow.heap).1];simp
       ·have:=hrow.fr;simpa[hlen2] using this
       ·obtain ⟨ti,h5,h6⟩:=hrow.more hm
        exact ⟨ti,h5,by simpa[hlen2] using h6⟩)
      refine ⟨Γ,_,?_,Ag.refl _ _,Nat.le_refl _,hput.1,hput.2⟩
      have hcv:∀ m:Nat,con Γ (.slice (some ⟨b,off,none⟩) (n+(m+1)) cap)=.slice (some ⟨Γ.b b,off,none⟩) (n+(m+1)) cap:=fun m=>by simp[con,wM,uC,hcap]
      rw[hcv]
      have hb0:(some (⟨b,off,none⟩:Addr)).map (wM Γ)=some ⟨Γ.b b,off,none⟩:=rfl
      rw[hb0]
      refine uR0 (base:=some ⟨Γ.b b,off,none⟩) hs hxT hni hi hlr (hnr w rfl) hle ?_
      dsimp only;rw[addr_add];exact hst
     ·cases he
   ·rename_i hle
    have hgt:cap<n+m:=by
     have:Nat.ble (n+m) cap≠true:=by rw[hle];simp
     simp only[ne_eq,Nat.ble_eq] at this;omega
    split at he
    ·rename_i old z hold hbnd hz
     simp only[Bool.and_eq_true,Nat.ble_eq,Nat.blt_eq] at hbnd
     split at he
     ·rename_i hzz
      simp only[Bool.and_eq_true,Nat.beq_eq,Nat.blt_eq] at hzz
      split at he<;>cases he
      rename_i b h'' hmk
      obtain ⟨hol,_,hor⟩:=kO0 hr hold
      rw[hcs] at hor
      have hgr:=gX0 (ty:=ty) (base:=base.map (wM Γ)) (n:=n) (cap:=cap) hs hxT hni hi hz hlr (hor w.drew rfl) (hnr w.drew rfl) hgt (by omega)
       (growslice_fits hgt (by omega))
      have hmr:=jF0 (hr.of_heap (w':=w.drew) rfl) hmk (Builtin.zeroCells z.cells (grownCap w (n+m) cap e-(n+m))).toList (grownCap w (n+m) cap e) (0,0) (.inr rfl) (fun hm=>by cases hm) (fun _=>⟨i,hi,by
       simp only[List.length_append,hol,hnl,Array.length_toList,size_zeroCells,hzz.1]
       have hge:=grownCap_ge w (n+m) cap e
       rw[← Nat.add_mul,← Nat.add_mul]
       congr 1
       omega⟩)
      obtain ⟨h1,h2,h3,h4,h5⟩:=hmr
      subst h1
      refine ⟨_,_,?_,h3,by omega,h4,⟨(Below.refl p.B w).drew.trans h5.below,h5.low⟩⟩
      rw[hgr]
      have hcv:con (Γ.ext h.next w.drew.heap.size (grownCap w (n+m) cap e)) (.slice (some ⟨h.next,0,none⟩) (n+m) UC)=.slice (some ⟨w.heap.size,0,none⟩) (n+m) (grownCap w (n+m) cap e):=by
       simp only[con,wM,uC,Gam.ext_b,Gam.ext_k,Nat.lt_irrefl,if_false,Nat.sub_self,Nat.sub_zero]
       rfl
      rw[hcv,List.map_append]
     ·cases he
    ·cases he
  ·-- the tip of a row whose capacity is not known
   split at he
   ·rename_i b
    split at he
    ·rename_i cs e' hc
     split at he
     ·rename_i z hbb hz
      simp only[Bool.and_eq_true,Nat.beq_eq,Nat.ble_eq,Nat.blt_eq] at hbb
      obtain ⟨⟨⟨⟨he',hcU⟩,hlo⟩,hcl⟩,hbnd⟩:=hbb
      have he2:=he'.symm;subst he2
      split at he<;>cases he
      rename_i hz2
      simp only[uS,Bool.and_eq_true,Nat.beq_eq,Nat.blt_eq,List.all_eq_true] at hz2
      obtain ⟨⟨hzz,hz0⟩,hone,hscn⟩:=hz2
      obtain ⟨fr0,hg⟩:=uI hc
      have hG:p.G≤b:=by rw[← hr.lo];exact hlo
      obtain ⟨hlt,rest,fr,hrow⟩:=hr.row hc hG
      obtain ⟨ti,hti,hk⟩:=hrow.more rfl
      have hti':ti=i:=by rw[hi] at hti;exact (Option.some.inj hti).symm
      subst hti'
      have hok:∀ y∈new,one y=true∧sc h.next y=true:=fun y hy=>⟨hone y hy,qP hscn y hy⟩
      have hcs:con Γ (.slice (some ⟨b,0,none⟩) n cap)=.slice (some ⟨Γ.b b,0,none⟩) n (Γ.k b):=by
       simp only[con,wM,uC,hcU,Nat.lt_irrefl,if_false,Nat.sub_self,Nat.sub_zero]
      rw[hcs]
      by_cases hroom:n+m≤Γ.k b
      ·have hrl : new.length ≤ rest.length := by
        have:(n+m)*ti.size≤Γ.k b*ti.size:=Nat.mul_le_mul_right _ hroom
        rw[Nat.add_mul] at this
        omega
       have hst:=gX p.P (Γ.b b) (n*ti.size) e fr (new.map (con Γ)) 0 (cs.map (con Γ)++rest) w hrow.heap
        (by simpa using hrow.fr) (by simp;omega) (by
         intro y hy
         simp only[List.mem_map] at hy
         obtain ⟨z,hz,rfl⟩:=hy
         rw[lN0];exact hone z hz)
       have hset:setFrom (cs.map (con Γ)++rest) (n*ti.size+0) (new.map (con Γ))=(cs++new).map (con Γ)++rest.drop new.length:=by
        simp only[setFrom,Nat.add_zero,List.length_map,List.map_append]
        rw[List.take_append_of_le_length (by simp;omega),List.take_of_length_le (by simp;omega)]
        rw[List.drop_append,List.drop_eq_nil_of_le (by simp;omega)]
        simp only[List.length_map,List.nil_append]
        congr 2
        omega
       rw[hset] at hst
       have hmap:(cs++new).map (con (Γ.ext h.next (Γ.b b) (Γ.k b)))=(cs++new).map (con Γ):=List.map_congr_left fun y hy=>jO0 (Γ.ext_ag _ _ _) y (by
        rcases List.mem_append.1 hy with hy|hy
        ·exact (hrow.ok y hy).2
        ·exact (hok y hy).2)
       have hre:=hr.lend (x':=⟨.cells ⟨cs++new⟩ e,true⟩) (e:=e) (cs:=cs) (o:=.cells ⟨(cs++new).map (con Γ)++rest.drop new.length⟩ e fr) hg rfl hlo hrow.ok (by
        simp only[OR]
        refine ⟨fun _=>⟨fun y hy=>?_,rest.drop new.length,fr,?_,?_,fun hm=>(by cases hm),fun _=>⟨ti,hi,?_⟩⟩,fun h0=>absurd h0 (Nat.not_lt.2 hr.gn)⟩
        ·rcases List.mem_append.1 hy with hy|hy
         ·exact ⟨(hrow.ok y hy).1,qX (Nat.le_succ _) y (hrow.ok y hy).2⟩
         ·exact ⟨(hok y hy).1,qX (Nat.le_succ _) y (hok y hy).2⟩
        ·rw[Gam.ext_b,hmap,qU _ _ _ (Array.getElem?_eq_some_iff.1 hrow.heap).1];simp
        ·have:=hrow.fr
         simp only[List.size_toArray,List.length_append,List.length_drop]
         omega
        ·rw[Gam.ext_k]
         simp only[List.size_toArray,List.length_append,List.length_drop]
         omega) rfl
       refine ⟨_,_,?_,Γ.ext_ag _ _ _,Nat.le_succ _,hre.1,hre.2⟩
       have hcv:con (Γ.ext h.next (Γ.b b) (Γ.k b)) (.slice (some ⟨h.next,0,none⟩) (n+m) UC)=.slice (some ⟨Γ.b b,0,none⟩) (n+m) (Γ.k b):=by
        simp only[con,wM,uC,Gam.ext_b,Gam.ext_k,Nat.lt_irrefl,if_false,Nat.sub_self,Nat.sub_zero]
       rw[hcv]
       refine uR0 (base:=some ⟨Γ.b b,0,none⟩) hs hxT hni hi hlr (hnr w rfl) hroom ?_
       dsimp only;rw[addr_add,Nat.zero_add];exact hst
      ·have hgt:Γ.k b<n+m:=by omega
       have hol:(Builtin.firstCells ti.size n (.slice (some ⟨Γ.b b,0,none⟩) n (Γ.k b))).run p.P w.drew=.ok ⟨cs.map (con Γ)⟩ w.drew:=by
        have htk:takeN cs 0 (n*ti.size)=some cs:=eR0 cs hcl
        have:=(hr.of_heap (w':=w.drew) rfl).load hc htk (.inl hG) p.P
        simpa[Builtin.firstCells] using this
       have hgr:=gX0 (ty:=ty) (base:=some ⟨Γ.b b,0,none⟩) (n:=n) (cap:=Γ.k b) hs hxT hni hi hz hlr hol (hnr w.drew rfl) hgt (by omega)
        (growslice_fits hgt (by omega))
       have hmk:mkRow h e (cs++new) true=some (h.next,(h.new ⟨.cells ⟨cs++new⟩ e,true⟩).2):=by
        unfold mkRow
        have h1:uF h.next (cs++new)=true:=by
         simp only[uS,Bool.and_eq_true,List.all_eq_true]
         refine ⟨fun y hy=>?_,qK fun y hy=>?_⟩
         ·rcases List.mem_append.1 hy with hy|hy
          ·exact (hrow.ok y hy).1
          ·exact hone y hy
         ·rcases List.mem_append.1 hy with hy|hy
          ·exact (hrow.ok y hy).2
          ·exact (hok y hy).2
        rw[h1,jA.new_eq]
       have hmr:=jF0 (hr.of_heap (w':=w.drew) rfl) hmk (Builtin.zeroCells z.cells (grownCap w (n+m) (Γ.k b) e-(n+m))).toList (grownCap w (n+m) (Γ.k b) e) (0,0) (.inr rfl) (fun hm=>by cases hm) (fun _=>⟨ti,hi,by
        simp only[List.length_append,hcl,hnl,Array.length_toList,size_zeroCells,hzz]
        have hge:=grownCap_ge w (n+m) (Γ.k b) e
        rw[← Nat.add_mul,← Nat.add_mul]
        congr 1
        omega⟩)
       obtain ⟨_,h2,h3,h4,h5⟩:=hmr
       have hbn:b≠h.next:=by omega
       have hlend:=h4.lendTo (b:=b) (c:=h.next) (e:=e) (cs:=cs) (fr0:=fr0) (by rw[jA.new_eq];simp only[jA.get];rw[Tr.get_put _ h.next _ b,if_neg hbn];exact hg) (by rw[jA.new_eq];exact hlo) hlt (by rw[jA.new_eq];exact Nat.lt_succ_self _)
        (by rw[Gam.ext_b,h3.b b hlt];have:=(Array.getElem?_eq_some_iff.1 hrow.heap).1;show w.heap.size≠_;omega)
       rw[jA.new_eq,jA.put_eq] at hlend
       refine ⟨_,_,?_,h3,Nat.le_succ _,hlend,⟨(Below.refl p.B w).drew.trans h5.below,h5.low⟩⟩
       rw[hgr]
       have hcv:con (Γ.ext h.next w.drew.heap.size (grownCap w (n+m) (Γ.k b) e)) (.slice (some ⟨h.next,0,none⟩) (n+m) UC)=.slice (some ⟨w.heap.size,0,none⟩) (n+m) (grownCap w (n+m) (Γ.k b) e):=by
        simp only[con,wM,uC,Gam.ext_b,Gam.ext_k,Nat.lt_irrefl,if_false,Nat.sub_self,Nat.sub_zero]
        rfl
       rw[hcv,List.map_append]
     ·cases he
    ·cases he
   ·cases he
 ·cases he
end Go.Ev
namespace Go.Ev
open Go Go.RowKit
theorem qB0 (Γ:Gam) {z:List Value} (h:z.map (con Γ)=z) (n:Nat):((List.replicate n z).flatten).map (con Γ)=(List.replicate n z).flatten:=by
 induction n with
 | zero=>simp
 | succ n ih=>simp only[List.replicate_succ,List.flatten_cons,List.map_append,h,ih]
theorem sS0 {p:Par} {Γ:Gam} {h h':jA} {w:World} (hr:jY p Γ h w) {t:TypeId} {l c v:Value} (he:iA0 p.P t l c h=some (v,h')) :
  ∃ Γ' w',(Instr.makeSlice t (con Γ l) (con Γ c)).run p.P w=.ok (con Γ' v) w'∧Ag Γ Γ' h.next∧h.next≤h'.next∧jY p Γ' h' w'∧Fr p Γ h w w':=by
 have hU:=U_le
 unfold iA0 at he
 split at he
 ·rename_i e kl l kc c hs
  split at he
  ·rename_i i hi
   split at he
   ·rename_i z hb hz
    simp only[Bool.and_eq_true,Nat.ble_eq,Nat.blt_eq] at hb
    split at he
    ·rename_i hzz
     simp only[Bool.and_eq_true,Nat.beq_eq,Nat.blt_eq] at hzz
     obtain ⟨⟨hz1,hz2⟩,hzf⟩:=hzz
     split at he<;>cases he
     rename_i b h'' hmk
     have hm:(i.bytes:Int)*(c:Int)≤281474976710656:=by
      have:((i.bytes*c:Nat):Int)≤281474976710656:=by rw[Nat.mul_comm];omega
      rwa [Int.natCast_mul] at this
     have hrun:=run_make (P:=p.P) w t e i z hs hi hz kl kc (l:Int) (c:Int) (Int.natCast_nonneg _) (by omega) hm (by omega)
     obtain ⟨h1,h2,h3,h4,h5⟩:=jF0 hr hmk [] 0 (0,0) (.inr rfl) (fun _=>rfl) (fun hm=>by cases hm)
     subst h1
     refine ⟨_,_,?_,h3,by omega,h4,h5⟩
     have hzm:z.cells.toList.map (con Γ)=z.cells.toList:=by rw[← bB];exact gR Γ _ hzf
     have hcells:madeCells z.cells (c*i.size)=⟨((List.replicate c z.cells.toList).flatten).map (con Γ)++[]⟩:=by
      apply Array.ext'
      rw[qB0 Γ hzm,List.append_nil]
      have:=fH0 z.cells c
      rw[hz1] at this
      simpa[madeCells,hz1] using this
     simp only[con] at hrun ⊢
     have e1:Int.ofNat l=(l:Int):=rfl
     have e2:Int.ofNat c=(c:Int):=rfl
     rw[e1,e2,hrun]
     have hcU:c<UC:=by have:=U_UC;omega
     simp only[wM,uC,Gam.ext_b,if_pos hcU,Int.toNat_natCast,hcells]
    ·cases he
   ·cases he
  ·cases he
 ·cases he
theorem bJ0 {w:World} {g k:Nat} {c:Array Value} {e:TypeId} {fr:Nat×Nat} (hg:w.heap[g]?=some (.cells c e fr)) :
  w.freeze ⟨g,k,none⟩ 1=wset w g (.cells c e (if fr.1 == fr.2 then (k,k+1) else (min fr.1 k,max fr.2 (k+1)))):=by
 obtain ⟨lo,hi⟩:=fr
 simp only[World.freeze,if_neg (show ¬ (1:Nat)=0 by decide),wset]
 congr 1
 apply Array.ext_getElem?
 intro j
 rw[Array.getElem?_setIfInBounds,Array.getElem?_modify]
 have hlt:g<w.heap.size:=(Array.getElem?_eq_some_iff.1 hg).1
 by_cases hgj:g=j
 ·subst hgj
  have hgg:w.heap[g]=.cells c e (lo,hi):=by
   have:=hg;rw[Array.getElem?_eq_getElem hlt] at this;exact Option.some.inj this
  simp[hlt,hgg]
 ·simp[hgj]
theorem jY.of_get {p:Par} {Γ:Gam} {h h':jA} {w:World} (hr:jY p Γ h w) (hg:∀ i,h'.get i=h.get i) (hn:h'.next=h.next) (hl:h'.lo=h.lo):jY p Γ h' w:=
 ⟨fun i x hx=>by rw[hn];exact hr.obj i x (by rw[← hg];exact hx),fun i x hx=>hr.base i x (by rw[← hg];exact hx),fun i j x y hx ho hy=>hr.inj i j x y (by rw[← hg];exact hx) ho (by rw[← hg];exact hy),
  hr.gl,fun i y hi hy hoy=>hr.low i y hi (by rw[← hg];exact hy) hoy,by rw[hl];exact hr.lo,by rw[hn];exact hr.gn,hr.ng,hr.size,hr.gs,hr.lent.step (Ag.refl _ _) (by rw[hn];exact Nat.le_refl _) (Nat.le_refl _) (fun b x hb _=>by rw[← hg];exact hb) (fun j y hj ho _=>.inl ⟨y,by rw[← hg];exact hj,ho,(hr.obj j y (by rw[← hg];exact hj)).1⟩) (fun _ _ _ _ _ _=>rfl)⟩
theorem cY1 {p:Par} {Γ:Gam} {h:jA} {w:World} (hr:jY p Γ h w) {g off:Nat} {spot:Option Nat} {cs:Array Value} {e:TypeId} {fr0:Nat×Nat} {m:Bool} (hx:h.get g=some ⟨.cells cs e fr0,m⟩) (hlo:h.lo≤g) :
  ∃ w',(markStringish ⟨Γ.b g,off,spot⟩).run p.P w=.ok () w'∧jY p Γ h w'∧Fr p Γ h w w':=by
 have hG:p.G≤g:=by rw[← hr.lo];exact hlo
 have hO:=(hr.obj g _ hx).2
 simp only[OR] at hO
 obtain ⟨⟨h1,rest,fr,h2,h3,h4,h5⟩,_⟩:=And.intro (hO.1 hG) trivial
 obtain ⟨n,hn⟩:∃ n,n=cs.size+rest.length:=⟨_,rfl⟩
 have hsh:w.shape? (Γ.b g)=some (e,n):=by
  unfold World.shape?;rw[h2];simp[hn]
 have hfz:=bJ0 (k:=n) h2
 obtain ⟨hr',hfr⟩:=hr.put hx rfl hlo (x':=⟨.cells cs e fr0,m⟩) (o:=.cells (cs.toList.map (con Γ)++rest).toArray e (if fr.1 == fr.2 then (n,n+1) else (min fr.1 n,max fr.2 (n+1)))) (by
  simp only[OR]
  refine ⟨fun _=>⟨h1,rest,(if fr.1 == fr.2 then (n,n+1) else (min fr.1 n,max fr.2 (n+1))),?_,?_,h4,h5⟩,fun hlt=>absurd hlt (Nat.not_lt.2 hG)⟩
  ·rw[qU _ _ _ (Array.getElem?_eq_some_iff.1 h2).1,if_pos rfl]
  ·left
   split
   ·rw[hn];exact Nat.le_refl _
   ·rename_i hne
    rcases h3 with h3|h3
    ·show _≤min fr.1 n
     omega
    ·exact absurd (by simp[h3]) hne)
 refine ⟨_,?_,hr'.of_get (fun i=>by rw[jA.get_put];split<;>simp_all) rfl rfl,hfr⟩
 simp only[markStringish,Sem.run_bind,run_shape,hsh,Result.andThen_ok,run_freeze,hfz]
theorem yF1 {p:Par} {Γ:Gam} {h h':jA} {w:World} (hr:jY p Γ h w) {tm:VT} {ca:Act} {o:Oper} {v:Value} (ht:Tm Γ p.NG tm ca)
  (hop:o.op.operands.all (uE p.NG)=true) (he:wD0 p.P o tm h=some (v,h')):Out p Γ h ca o w v h':=by
 have hev:∀ x∈o.op.operands,ca.eval x=con Γ (ev tm x):=fun x hx=>ht.eval (by
  rw[Array.all_eq_true_iff_forall_mem] at hop;exact hop x hx)
 unfold wD0 at he
 split at he
 ·-- alloc
  rename_i e ho
  split at he
  ·rename_i z hz
   split at he
   ·rename_i hzf
    split at he<;>cases he
    rename_i b h'' hmk
    obtain ⟨h1,h2,h3,h4,h5⟩:=jF0 hr hmk [] 0 (0,0) (.inr rfl) (fun _=>rfl) (fun hm=>by cases hm)
    subst h1
    refine ⟨_,_,_,?_,.inl rfl,h3,by omega,h4,h5⟩
    have hzi:(zeroValue e).run p.P w=.ok z w:=by
     unfold zeroOf at hz
     split at hz
     ·rename_i i hi;simp[zeroValue,typeInfo,hi,hz]
     ·cases hz
    have hc:(⟨z.cells.toList.map (con Γ)++[]⟩:Array Value)=z.cells:=by
     apply Array.ext';rw[List.append_nil,kF0 Γ hzf]
    rw[wG0,hc]
    simp only[execOp,ho,Instr.alloc,Sem.run_bind,hzi,Result.andThen_ok,newVar,newRow,run_newObj,Sem.run_pure,World.alloc_eq]
   ·cases he
  ·cases he
 ·-- box
  rename_i e x ho
  have hx:=hev x (by simp[ho,Op.operands])
  split at he<;>cases he
  rename_i b h'' hmk
  obtain ⟨h1,h2,h3,h4,h5⟩:=jF0 hr hmk [] 0 (0,0) (.inr rfl) (fun _=>rfl) (fun hm=>by cases hm)
  subst h1
  refine ⟨_,_,_,?_,.inl rfl,h3,by omega,h4,h5⟩
  have hc:(⟨(ev tm x).cells.toList.map (con Γ)++[]⟩:Array Value)=(con Γ (ev tm x)).cells:=by
   apply Array.ext';rw[List.append_nil,zH0];simp
  rw[wG0,hc]
  simp only[execOp,ho,hx,Instr.box,Sem.run_bind,Result.andThen_ok,newVar,newRow,run_newObj,Sem.run_pure,World.alloc_eq]
 ·-- buildSlice
  rename_i t len parts ho
  split at he
  ·rename_i e hs
   split at he
   ·rename_i i hi
    split at he
    ·rename_i z hb hz
     simp only[Nat.ble_eq] at hb
     split at he
     ·rename_i hzz
      simp only[Bool.and_eq_true,Nat.beq_eq,Nat.blt_eq] at hzz
      obtain ⟨⟨hz1,hz2⟩,hzf⟩:=hzz
      split at he
      ·rename_i cs hcs
       split at he<;>cases he
       rename_i b h'' hmk
       obtain ⟨h1,h2,h3,h4,h5⟩:=jF0 hr hmk [] 0 (0,0) (.inr rfl) (fun _=>rfl) (fun hm=>by cases hm)
       subst h1
       refine ⟨_,_,_,?_,.inl rfl,h3,by omega,h4,h5⟩
       have hzm:z.cells.toList.map (con Γ)=z.cells.toList:=by rw[← bB];exact gR Γ _ hzf
       have hfill:=gM0 Γ _ _ _ _ hcs
       rw[qB0 Γ hzm] at hfill
       have hparts:(parts.map fun (x:Nat×Operand)=>(x.1,ca.eval x.2)).toList=(parts.toList.map fun (x:Nat×Operand)=>(x.1,ev tm x.2)).map fun x=>(x.1,con Γ x.2):=by
        simp only[Array.toList_map,List.map_map]
        apply List.map_congr_left
        intro y hy
        simp only[Function.comp]
        rw[hev y.2 (by
         simp only[ho,Op.operands]
         simp only[List.mem_toArray,List.mem_map]
         exact ⟨y,hy,rfl⟩)]
       have hU:=U_le
       have hb':¬ (len*i.size > 2 ^ 24):=by
        have:(2:Nat) ^ 24=16777216:=by decide
        omega
       have hrow:=fH0 z.cells len
       rw[hz1] at hrow
       have hz0:(zeroValue e).run p.P w=.ok z w:=by simp[zeroValue,typeInfo,hi,hz]
       have hlen0:len≤16777216:=by
        have:len*1≤len*i.size:=Nat.mul_le_mul_left _ hz2
        omega
       have hlenU:len<UC:=by
        have:(16777216:Nat)<UC:=by unfold UC;decide
        omega
       have hcv:con (Γ.ext h.next w.heap.size 0) (.slice (some ⟨h.next,0,none⟩) len len)=.slice (some ⟨w.heap.size,0,none⟩) len len:=by
        simp only[con,wM,uC,Gam.ext_b,if_pos hlenU]
       rw[hcv]
       simp only[execOp,ho,Instr.buildSlice,Sem.run_bind,jS hs,Result.andThen_ok,sizeOf,typeInfo,run_program,hi,Sem.run_pure,if_neg hb']
       rw[show (parts.map fun (i,x)=>(i,ca.eval x)).toList=(parts.map fun (x:Nat×Operand)=>(x.1,ca.eval x.2)).toList from rfl,hparts]
       rw[show (parts.toList.map fun (x:Nat×Operand)=>(x.1,ev tm x.2))=(parts.toList.map fun (i,x)=>(i,ev tm x)) from rfl]
       by_cases hl0:len*i.size=0
       ·have hlen : len = 0 := by
         rcases Nat.mul_eq_zero.1 hl0 with h0|h0
         ·exact h0
         ·omega
        subst hlen
        simp only[Nat.zero_mul,if_true,Sem.run_bind,Sem.run_pure,Result.andThen_ok] at hfill ⊢
        have hemp:((Array.range 0).map fun (x:Nat)=>(#[]:Array Value)[x % (#[]:Array Value).size]!)=⟨[]⟩:=by simp
        simp only[List.replicate_zero,List.flatten_nil] at hfill
        rw[hemp,hfill]
        simp[newRow]
       ·simp only[if_neg hl0,Sem.run_bind,hz0,Result.andThen_ok,Sem.run_pure]
        have harr:((Array.range (len*i.size)).map fun (x:Nat)=>z.cells[x % z.cells.size]!)=⟨(List.replicate len z.cells.toList).flatten⟩:=by
         apply Array.ext'
         rw[hz1]
         exact hrow
        rw[harr,hfill]
        simp[newRow]
      ·cases he
     ·cases he
    ·cases he
   ·cases he
  ·cases he
 ·-- store
  rename_i t a x ho
  have ha:=hev a (by simp[ho,Op.operands])
  have hx:=hev x (by simp[ho,Op.operands])
  split at he<;>cases he
  rename_i h2 hst
  obtain ⟨w',h3,h4,h5,h6⟩:=mF0 hr hst
  refine ⟨Γ,w',.skip,?_,.inr ⟨rfl,rfl⟩,Ag.refl _ _,by omega,h5,h6⟩
  simp only[execOp,ho,ha,hx,Sem.run_bind,h3,Result.andThen_ok,Sem.run_pure]
 ·-- makeSlice
  rename_i t l c ho
  have hl:=hev l (by simp[ho,Op.operands])
  have hc:=hev c (by simp[ho,Op.operands])
  obtain ⟨Γ',w',h1,h2,h3,h4,h5⟩:=sS0 hr he
  refine ⟨Γ',w',_,?_,.inl rfl,h2,h3,h4,h5⟩
  simp only[execOp,ho,hl,hc,Sem.run_bind,h1,Result.andThen_ok,Sem.run_pure]
 ·-- append
  rename_i args argTypes ho
  split at he
  ·rename_i sT xT s x hT hA
   have hT':argTypes=#[sT,xT]:=Array.ext' hT
   have hA':args=#[s,x]:=Array.ext' hA
   subst hT' hA'
   have hs:=hev s (by simp[ho,Op.operands,Call.operands])
   have hx:=hev x (by simp[ho,Op.operands,Call.operands])
   obtain ⟨Γ',w',h1,h2,h3,h4,h5⟩:=iC0 (ty:=o.type) hr he
   refine ⟨Γ',w',_,?_,.inl rfl,h2,h3,h4,h5⟩
   simp[execOp,ho,resolve,invoke,builtin,hs,hx,h1]
  ·cases he
 ·-- range
  rename_i t x ho
  have hx:=hev x (by simp[ho,Op.operands])
  split at he
  ·rename_i s hu hxe
   rw[jA.new_eq] at he
   cases he
   have hnew:=hr.new (x:=⟨.stringIter s 0,false⟩) (o:=.stringIter s 0) (k:=0) (by
    simp only[OR];rw[Gam.ext_b];exact heap_alloc_new w _)
   rw[jA.new_eq] at hnew
   refine ⟨_,_,_,?_,.inl rfl,Γ.ext_ag _ _ _,Nat.le_succ _,hnew.1,hnew.2⟩
   rw[wG0]
   simp[execOp,ho,hx,hxe,con,Instr.range,jS hu]
  ·cases he
 ·-- next
  rename_i it ho
  have hx:=hev it (by simp[ho,Op.operands])
  split at he
  ·rename_i b hxe
   split at he
   ·rename_i s pos hg hlo
    simp only[Nat.ble_eq] at hlo
    have hO:=(hr.obj b _ hg).2
    simp only[OR] at hO
    have hlt:=(Array.getElem?_eq_some_iff.1 hO).1
    split at he
    ·rename_i hps
     simp only[Nat.blt_eq] at hps
     cases he
     have hput:=hr.put (x':=⟨.stringIter s (pos+(Utf8.decode s pos).2),false⟩) (o:=.stringIter s (pos+(Utf8.decode s pos).2)) hg rfl hlo (by
      simp only[OR]
      rw[qU _ _ _ hlt];simp)
     refine ⟨Γ,_,_,?_,.inl rfl,Ag.refl _ _,Nat.le_refl _,hput.1,hput.2⟩
     simp[execOp,ho,hx,hxe,con,wM,Instr.next,getObj,setObj,Sem.run,hO,hps,goInt,conL,wset]
    ·rename_i hps
     have hps':¬ pos<s.size:=by
      intro hlt2
      have:Nat.blt pos s.size=true:=by simpa using hlt2
      rw[this] at hps;cases hps
     cases he
     refine ⟨Γ,w,_,?_,.inl rfl,Ag.refl _ _,Nat.le_refl _,hr,Fr.refl w⟩
     simp[execOp,ho,hx,hxe,con,wM,Instr.next,getObj,Sem.run,hO,hps',conL]
   ·cases he
  ·cases he
 ·-- convert
  rename_i s d x ho
  have hx:=hev x (by simp[ho,Op.operands])
  split at he
  ·rename_i e bs hs hd hxe
   split at he
   ·rename_i hu8 hsz
    split at he
    ·rename_i hbU
     simp only[Nat.blt_eq] at hbU
     split at he<;>cases he
     rename_i g h'' hmk
     obtain ⟨ti,hti,hts⟩:∃ ti,p.P.info? e=some ti∧ti.size=1:=by
      unfold szT at hsz
      split at hsz
      ·rename_i i hi;exact ⟨i,hi,by simpa using hsz⟩
      ·cases hsz
     have hge:=grownCap_ge w bs.size 0 e
     have hbl:bs.data.toList.length=bs.size:=Array.length_toList
     obtain ⟨h1,h2,h3,h4,h5⟩:=jF0 (hr.of_heap (w':=w.drew) rfl) hmk (List.replicate (grownCap w bs.size 0 e-bs.size) (.int .u8 0)) (grownCap w bs.size 0 e)
      (grownCap w bs.size 0 e,grownCap w bs.size 0 e+1) (.inl (by simp[hbl];omega)) (fun hm=>by cases hm) (fun _=>⟨ti,hti,by simp[hbl,hts];omega⟩)
     subst h1
     refine ⟨_,_,_,?_,.inl rfl,h3,by omega,h4,⟨(Below.refl p.B w).drew.trans h5.below,h5.low⟩⟩
     have hmapc:(bs.data.toList.map fun x=>Value.int .u8 (x.toNat:Int)).map (con Γ)=bs.data.toList.map fun x=>Value.int .u8 (x.toNat:Int):=by
      rw[List.map_map];exact List.map_congr_left fun _ _=>rfl
     have hcv:con (Γ.ext h.next w.drew.heap.size (grownCap w bs.size 0 e)) (.slice (some ⟨h.next,0,none⟩) bs.size UC)=.slice (some ⟨w.heap.size,0,none⟩) bs.size (grownCap w bs.size 0 e):=by
      simp only[con,wM,uC,Gam.ext_b,Gam.ext_k,Nat.lt_irrefl,if_false,Nat.sub_self,Nat.sub_zero]
      rfl
     rw[hcv,hmapc]
     obtain ⟨C,hC⟩:∃ C:List Value,C=(bs.data.toList.map fun x=>Value.int .u8 (x.toNat:Int))++List.replicate (grownCap w bs.size 0 e-bs.size) (.int .u8 0):=⟨_,rfl⟩
     have hCl:C.length=grownCap w bs.size 0 e:=by rw[hC];simp[hbl];omega
     have harr:((bs.data.map fun b=>Value.int .u8 (b.toNat:Int))++Array.replicate (grownCap w bs.size 0 e-bs.size) (.int .u8 0):Array Value)=⟨C⟩:=by
      apply Array.ext';rw[hC];simp
     rw[← hC]
     have hsh:(w.drew.alloc (.cells ⟨C⟩ e)).shape? w.heap.size=some (e,C.length):=by
      have:(w.drew.alloc (.cells ⟨C⟩ e)).heap[w.heap.size]?=some (.cells ⟨C⟩ e (0,0)):=heap_alloc_new w.drew _
      unfold World.shape?;rw[this];rfl
     have hfz:(w.drew.alloc (.cells ⟨C⟩ e)).freeze ⟨w.heap.size,C.length,none⟩ 1=w.drew.alloc (.cells ⟨C⟩ e (grownCap w bs.size 0 e,grownCap w bs.size 0 e+1)):=by
      simp only[World.freeze,World.alloc]
      rw[if_neg (by decide)]
      congr 1
      apply Array.ext_getElem?
      intro j
      rw[Array.getElem?_modify]
      by_cases ej:w.heap.size=j
      ·subst ej
       have e0:(w.drew.heap.push (Obj.cells ⟨C⟩ e))[w.heap.size]?=some (.cells ⟨C⟩ e (0,0)):=by
        rw[Array.getElem?_push];simp
       have e1:(w.drew.heap.push (Obj.cells ⟨C⟩ e (grownCap w bs.size 0 e,grownCap w bs.size 0 e+1)))[w.heap.size]?=some (.cells ⟨C⟩ e (grownCap w bs.size 0 e,grownCap w bs.size 0 e+1)):=by
        rw[Array.getElem?_push];simp
       rw[if_pos rfl,e0,e1]
       simp[hCl]
      ·rw[if_neg ej,Array.getElem?_push,Array.getElem?_push]
       simp[Ne.symm ej]
     simp only[execOp,ho,hx,hxe,con,convert,Sem.run_bind,jS hs,jS hd,jS hu8,Result.andThen_ok,Conv.stringToBytes,run_choose,Question.forced,Bool.false_eq_true,if_false,newRow,
      run_newObj,World.alloc_eq,Sem.run_pure,markStringish,run_shape,World.drew_eq]
     rw[show (Question.appendCap bs.size 0 e).cut (w.tape w.drawn (.appendCap bs.size 0 e))=grownCap w bs.size 0 e from rfl,harr]
     simp only[World.size_drew,hsh,run_freeze,Result.andThen_ok,hfz]
    ·cases he
   ·cases he
  ·rename_i e0 e g off spot n c hs hd hxe
   unfold dH0 at he
   split at he
   ·rename_i hu8 hsd hlo hgx
    cases he
    obtain ⟨w',h1,h2,h3⟩:=cY1 hr (off:=off) (spot:=spot) hgx (by simpa using hlo)
    have hsd:s=d:=by simpa using hsd
    subst hsd
    have hee:e0=e:=by rw[hs] at hd;cases hd;rfl
    subst hee
    refine ⟨Γ,w',_,?_,.inl rfl,Ag.refl _ _,Nat.le_refl _,h2,h3⟩
    have hcv:con Γ (.slice (some ⟨g,off,spot⟩) n c)=.slice (some ⟨Γ.b g,off,spot⟩) n (uC Γ g c):=rfl
    simp only[execOp,ho,hx,hxe,hcv,convert,Sem.run_bind,jS hs,jS hd,jS hu8,Result.andThen_ok,beq_self_eq_true,h1,Sem.run_pure]
   ·cases he
  ·cases he
 ·cases he
end Go.Ev
namespace Go.Ev
open Go Go.RowKit
structure FW (F:Fence):Prop where
 wide:F.plain=Fence.wide
theorem FW.fn {F:Fence} (h:FW F) (f:FuncId):F.fn f:=by
 have:F.plain.fn f:=by rw[h.wide];trivial
 exact this
theorem FW.depth {F:Fence} (h:FW F):F.depth=none:=by
 have:F.plain.depth=none:=by rw[h.wide];rfl
 exact this
section
variable {F:Fence} {n:Nat} {P:Program} {ops:Array Oper} {Q:Exit→Act→World→Prop} {md:Region.Mode}
def opW (F:Fence) (n:Nat) (P:Program) (ops:Array Oper) (Q:Exit→Act→World→Prop) (i:Nat) (K:Act→World→Prop) (a:Act) (w:World):Prop:=
 match ops[i]? with
 | none=>K a w
 | some o=>if Region.wanted o (yielded ops a.tmps) then o.uponIn F n P a K Q ((execOp a.eval o).run P w) else K (a.put o.dst undef) w
def dF0 (ops:Array Oper):Prop:=∀ (j:Nat) (o:Oper) (c:Call),ops[j]?=some o→o.op≠.defer c
theorem jN1 (hF:FW F) (hd:dF0 ops) {i:Nat} {K:Act→World→Prop} {a:Act} {w:World} (h:opW F n P ops Q i K a w):wpOpIn F n P ops Q i K a w:=by
 unfold opW at h
 unfold wpOpIn
 split
 ·rename_i ho;simp only[ho] at h;exact h
 ·rename_i o ho
  simp only[ho] at h
  split
  ·rename_i hw
   simp only[hw,if_true] at h
   refine ⟨fun f _=>hF.fn f,?_⟩
   rw[Oper.semAt_eq _ _ _ (fun c=>hd i o c ho)]
   exact h
  ·rename_i hw
   simp only[hw] at h
   exact ⟨fun f _=>hF.fn f,h⟩
theorem iY0 {o:Oper} {a:Act} {K K':Act→World→Prop} (h:∀ a w,K a w→K' a w) {r:Result Next} (hh:o.uponIn F n P a K Q r):o.uponIn F n P a K' Q r:=by
 cases r with
 | ok x w'=>
  cases x<;>simp only[Oper.uponIn] at hh ⊢<;>
   first
    | exact h _ _ hh
    | exact ⟨hh.1,CallsIn.mono hh.2 (fun e w'' he=>by cases e<;>first | exact h _ _ he | exact he)⟩
    | exact ⟨hh.1,RowsIn.mono hh.2 (fun _ _ he=>h _ _ he)⟩
    | exact ⟨hh.1,RoundIn.mono hh.2 (fun e w'' he=>by cases e<;>first | exact h _ _ he | exact he)⟩
 | halt x w'=>cases x<;>simp only[Oper.uponIn] at hh ⊢<;>exact hh
theorem yH0 {i:Nat} {a:Act} {w:World} {K K':Act→World→Prop} (h:∀ a w,K a w→K' a w) (hh:opW F n P ops Q i K a w):opW F n P ops Q i K' a w:=by
 unfold opW at *
 split
 ·rename_i ho;simp only[ho] at hh;exact h _ _ hh
 ·rename_i o ho
  simp only[ho] at hh
  split
  ·rename_i hw;simp only[hw,if_true] at hh;exact iY0 h hh
  ·rename_i hw;simp only[hw] at hh;exact h _ _ hh
variable {S:Nat→World→Prop} {T:World→Prop}
theorem YieldsIf.opW {i:Nat} {o:Oper} {v:Value} {a:Act} (hi:ops[i]?=some o) (hy:YieldsIf P ops T o v a)
  {K:Act→World→Prop} {w:World} (hS:T w) (h:K (a.put o.dst v) w):opW F n P ops Q i K a w:=by
 unfold Ev.opW
 simp only[hi]
 rcases hy with ⟨hw,hv⟩|⟨hw,rfl⟩
 ·simp only[hw,if_true,hv w hS,Oper.uponIn];exact h
 ·simp only[hw,Bool.false_eq_true,if_false];exact h
theorem pH0 {oi oj:Oper} {v:Value} {a:Act} {K:Act→World→Prop} (h2:∀ d,oi.dst=some d→oj.dst≠some d)
  (hk:∀ u,YieldsIf P ops T oi v (a.put oj.dst u))
  (hQ:∀ c a w,Q (.panic c) (a.put oi.dst v) w→Q (.panic c) a w) {r:Result Next}
  (h:oj.uponIn F n P (a.put oi.dst v) K Q r):oj.uponIn F n P a (fun a' w'=>YieldsIf P ops T oi v a'∧K (a'.put oi.dst v) w') Q r:=by
 have hput:∀ u,(a.put oj.dst u).put oi.dst v=(a.put oi.dst v).put oj.dst u:=fun u=>(Act.put_comm a v u h2).symm
 cases r with
 | ok x w'=>
  cases x<;>simp only[Oper.uponIn] at h ⊢
  case value u=>exact ⟨hk u,by rw[hput];exact h⟩
  case skip=>exact ⟨hk _,by rw[hput];exact h⟩
  case defer d=>
   refine ⟨(hk undef).of_same ?_ ?_,?_⟩
   ·cases oj.dst<;>rfl
   ·cases oj.dst<;>rfl
   ·have e:({ a with defers:=d :: a.defers }:Act).put oj.dst undef={ a.put oj.dst undef with defers:=d :: (a.put oj.dst undef).defers }:=by cases oj.dst<;>rfl
    have e2:({ a.put oj.dst undef with defers:=d :: (a.put oj.dst undef).defers }:Act).put oi.dst v={ (a.put oj.dst undef).put oi.dst v with defers:=d :: ((a.put oj.dst undef).put oi.dst v).defers }:=by cases oi.dst<;>rfl
    rw[e,e2,hput]
    have e3:({ a.put oi.dst v with defers:=d :: (a.put oi.dst v).defers }:Act).put oj.dst undef={ (a.put oi.dst v).put oj.dst undef with defers:=d :: ((a.put oi.dst v).put oj.dst undef).defers }:=by cases oj.dst<;>rfl
    rw[e3] at h
    exact h
  case enter f args=>
   refine ⟨h.1,CallsIn.mono h.2 fun e w'' he=>?_⟩
   cases e with
   | returned u=>exact ⟨hk u,by rw[hput];exact he⟩
   | panicked c=>exact hQ _ _ _ he
   | outgrown=>exact he
  case row row args=>exact ⟨h.1,RowsIn.mono h.2 fun u w'' he=>⟨hk u,by rw[hput];exact he⟩⟩
  case round l f tmps as bd=>
   refine ⟨h.1,RoundIn.mono h.2 fun e w'' he=>?_⟩
   cases e with
   | returned u=>exact ⟨hk u,by rw[hput];exact he⟩
   | panicked c=>exact hQ _ _ _ he
   | outgrown=>exact he
 | halt x w'=>
  cases x<;>simp only[Oper.uponIn] at h ⊢
  exact hQ _ _ _ h
theorem rV1 {j:Nat} {oi oj:Oper} {v:Value} (hj:ops[j]?=some oj) (hap:oi.apart ops oj=true)
  (hsi:∀ cs b,oi.op≠.select cs b) (hsj:∀ cs b,oj.op≠.select cs b)
  (hQ:∀ c a w,Q (.panic c) (a.put oi.dst v) w→Q (.panic c) a w) {K:Act→World→Prop} {a:Act} {w:World}
  (hy:YieldsIf P ops T oi v a) (h:opW F n P ops Q j K (a.put oi.dst v) w) :
  opW F n P ops Q j (fun a' w'=>YieldsIf P ops T oi v a'∧K (a'.put oi.dst v) w') a w:=by
 obtain ⟨h1,h2,h3⟩:=Oper.apart_spec hap
 have keep:∀ u,YieldsIf P ops T oi v (a.put oj.dst u):=fun u=>
  hy.of_same (execOp_put oi hsi a oj.dst u h3) (wanted_put oi a oj.dst u h3)
 unfold opW at *
 simp only[hj] at *
 rw[wanted_put oj a oi.dst v h1] at h
 split
 ·rename_i hw
  simp only[hw,if_true] at h
  rw[execOp_put oj hsj a oi.dst v h1] at h
  exact pH0 h2 keep hQ h
 ·rename_i hw
  simp only[hw] at h
  exact ⟨keep _,by rw[← Act.put_comm a v undef h2];exact h⟩
end
end Go.Ev
namespace Go.Ev
open Go Go.RowKit
def yA0 (p:Par) (g:FuncId) (args:List Value) (h:jA) (R:Value→jA→Prop):Prop:=
 ∀ (Γ:Gam) (w:World),jY p Γ h w→(∀ x∈args,sc h.next x=true)→∀ (o:Oper) (F:Fence),FW F→∀ (n:Nat) (a:Act) (K:Act→World→Prop) (Q:Exit→Act→World→Prop),
  (∀ (v:Value) (h':jA) (Γ':Gam) (w':World),R v h'→Ag Γ Γ' h.next→h.next≤h'.next→Below p.B w w'→jY p Γ' h' w'→sc h'.next v=true→K (a.put o.dst (con Γ' v)) w')→
  o.uponIn F n p.P a K Q ((callFunc g ⟨args.map (con Γ)⟩).run p.P w)
theorem yA0.mono {p:Par} {g:FuncId} {args:List Value} {h:jA} {R R':Value→jA→Prop} (hc:yA0 p g args h R) (hR:∀ v h',R v h'→R' v h'):yA0 p g args h R':=
 fun Γ w hr hs o F hF n a K Q hK=>hc Γ w hr hs o F hF n a K Q fun v h' Γ' w' hv=>hK v h' Γ' w' (hR v h' hv)
def marks (Γ:Gam) (l:List Nat):List Deferred:=l.map fun d=>{ target:=.collected (Γ.b d),args:=#[] }
theorem dG0 {Γ Γ':Gam} {n:Nat} (hg:Ag Γ Γ' n) {l:List Nat} (h:∀ d∈l,d<n):marks Γ' l=marks Γ l:=
 List.map_congr_left fun d hd=>by rw[hg.b d (h d hd)]
structure St (p:Par) (Γ:Gam) (s:S) (ca:Act) (w:World):Prop where
 tm:Tm Γ p.NG s.tm ca
 sc:∀ v∈s.tm.arr.toList,sc s.h.next v=true
 df:ca.defers=marks Γ s.df∧∀ d∈s.df,d<s.h.next
 hr:jY p Γ s.h w
def jL.con:jL→Exit
 | .normal=>.normal
 | .exit id=>.exit id
 | .goto l=>.goto l
 | .ret=>.ret
def start:Code→List Item
 | .loop b=>[.code b,.inLoop b]
 | c=>[.code c]
def yV1 (F:Fence) (n:Nat) (P:Program) (c:Code) (Q:Exit→Act→World→Prop) (a:Act) (w:World):Prop:=
 ∀ (b:Frame) (k:List Item) (cs:List Frame),b.roundOf=F.round→F.fn b.fn→F.room (cs.length+1+n)→
  ∃ e a' w',Q e a' w'∧ArrivesIn (Machine.fenced P F) P (lone (b.atR a (start c++k)) cs w) b k cs e a' w'
theorem gI {F:Fence} {n:Nat} {P:Program} {c:Code} {Q:Exit→Act→World→Prop} {a:Act} {w:World} (h:yV1 F n P c Q a w):c.wpIn F n P Q a w:=by
 intro b k cs hro hb hr
 obtain ⟨e,a',w',hq,harr⟩:=h b k cs hro hb hr
 refine ⟨e,a',w',hq,?_⟩
 cases c with
 | loop c=>exact .of_steps (.one (fenced_calm hb hr rfl) stepR_loop) harr
 | _=>exact harr
theorem kP {F:Fence} {n:Nat} {P:Program} {c:Code} {Q:Exit→Act→World→Prop} {a:Act} {w:World} (hc:∀ b,c≠.loop b) (h:c.wpIn F n P Q a w):yV1 F n P c Q a w:=by
 intro b k cs hro hb hr
 obtain ⟨e,a',w',hq,harr⟩:=h b k cs hro hb hr
 refine ⟨e,a',w',hq,?_⟩
 cases c with
 | loop c=>exact absurd rfl (hc c)
 | _=>exact harr
theorem sW0 {F:Fence} {n:Nat} {P:Program} {c:Code} {Q:Exit→Act→World→Prop} {a:Act} {w:World}
  (h:c.wpIn F n P (Exit.then (fun a' w'=>yV1 F n P (.loop c) Q a' w') Q) a w):yV1 F n P (.loop c) Q a w:=by
 intro b k cs hro hb hr
 obtain ⟨e,a₁,w₁,hq,harr⟩:=h b (.inLoop c :: k) cs hro hb hr
 cases e with
 | normal=>
  obtain ⟨e₂,a₂,w₂,hq₂,harr₂⟩:=hq b k cs hro hb hr
  exact ⟨e₂,a₂,w₂,hq₂,.of_steps (StepsIn.trans harr (.one (fenced_calm hb hr rfl) stepR_inLoop)) harr₂⟩
 | exit id=>exact ⟨_,a₁,w₁,hq,.pass (x:=.inLoop c) rfl (fun _ _=>.inl (by simp)) harr⟩
 | goto l=>exact ⟨_,a₁,w₁,hq,.pass (x:=.inLoop c) rfl (fun _ _=>.inl (by simp)) harr⟩
 | ret=>exact ⟨_,a₁,w₁,hq,.pass (x:=.inLoop c) rfl (fun _ _=>.inl (by simp)) harr⟩
 | panic ch=>exact ⟨_,a₁,w₁,hq,.pass (x:=.inLoop c) rfl (fun _ _=>.inl (by simp)) harr⟩
 | outgrown=>exact ⟨_,a₁,w₁,hq,.pass (x:=.inLoop c) rfl (fun _ _=>.inl (by simp)) harr⟩
theorem lB0 {P:Program} {b:Frame} {a:Act} {k:List Item} {cs:List Frame} {w:World} {c:Code} :
  step P (lone (b.atR a (.code (.scope c) :: k)) cs w)=.next (lone (b.atR a (.code c :: .inScope c :: k)) cs w):=
 step_lone_go (by simp[stepG,stepG.exec,Frame.atR])
theorem cN0 {P:Program} {b:Frame} {a:Act} {k:List Item} {cs:List Frame} {w:World} {c:Code} :
  step P (lone (b.atR a (.inScope c :: k)) cs w)=.next (lone (b.atR a k) cs w):=
 step_lone_go (by simp[stepG,stepG.exec,Frame.atR])
theorem pE0 {Γ:Gam} {NG:Nat} {tm:VT} {ca:Act} (h:Tm Γ NG tm ca) (ops:Array Oper) (j:Nat):yielded ops ca.tmps j=yl ops.toList tm j:=by
 unfold yielded yl
 rw[Array.getElem?_toList]
 cases ho:ops[j]? with
 | none=>simp
 | some o=>
  cases hd:o.dst with
  | none=>simp[hd]
  | some d=>
   simp only[hd,Option.bind_some,h.tm,Array.getElem?_map]
   rw[← VT.arr_getD,Array.getD_eq_getD_getElem?]
   cases hv:tm.arr[d]? with
   | none=>simp[undef]
   | some v=>
    cases v with
    | agg cs=>simp[qY0]
    | tuple cs=>simp[jN0]
    | func f a b=>simp[bA]
    | pointer a=>cases a<;>simp[con]
    | slice a _ _=>cases a<;>simp[con]
    | map a=>cases a<;>simp[con]
    | float k i=>cases k<;>simp[con]
    | _=>simp[con]
theorem yO0 {Γ:Gam} {NG:Nat} {tm:VT} {ca:Act} (h:Tm Γ NG tm ca) (ops:Array Oper) (o:Oper) :
  Region.wanted o (yielded ops ca.tmps)=(wanted ops.toList tm o).getD false:=by
 unfold Region.wanted wanted
 cases hg:o.guard with
 | none=>simp
 | some g=>
  obtain ⟨j,b⟩:=g
  simp only[pE0 h]
  cases hy:yl ops.toList tm j with
  | none=>simp
  | some c=>cases b<;>cases c<;>simp
theorem Tm.put {Γ Γ':Gam} {NG n:Nat} {tm:VT} {ca:Act} (h:Tm Γ NG tm ca) (hsc:∀ v∈tm.arr.toList,sc n v=true) (hg:Ag Γ Γ' n) (hn:NG≤n) (d:Option Tmp) (v:Value) :
  Tm Γ' NG (Ev.put tm d v) (ca.put d (con Γ' v)):=by
 have hmap:tm.arr.map (con Γ')=tm.arr.map (con Γ):=Array.map_congr_left fun x hx=>jO0 hg x (hsc x (by simpa using hx))
 refine ⟨?_,?_,fun g hgg=>(hg.b g (by omega)).trans (h.gl g hgg)⟩
 ·cases d with
  | none=>exact h.sm
  | some d=>simp only[Ev.put,VT.set_sz];exact h.sm
 ·cases d with
  | none=>simp only[Act.put,Ev.put,h.tm,hmap]
  | some d=>
   simp only[Act.put,Ev.put,h.tm,VT.arr_set _ h.sm,← hmap]
   simp
theorem wO0 {n m:Nat} {tm:VT} (hU:tm.sz<U) (hsc:∀ v∈tm.arr.toList,sc n v=true) (hn:n≤m) (d:Option Tmp) {v:Value} (hv:sc m v=true) :
  ∀ x∈(put tm d v).arr.toList,sc m x=true:=by
 intro x hx
 cases d with
 | none=>exact qX hn x (hsc x hx)
 | some d=>
  simp only[put,VT.arr_set _ hU,Array.toList_setIfInBounds] at hx
  rcases List.mem_or_eq_of_mem_set hx with h|h
  ·exact qX hn x (hsc x h)
  ·rw[h];exact hv
end Go.Ev
namespace Go.Ev
open Go Go.RowKit
theorem dX0 {p:Par} {Γ:Gam} {h:jA} {w:World} (hr:jY p Γ h w) {fn:Func} {tm:VT} {ca:Act} {v:Value} (ht:Tm Γ p.NG tm ca)
  (he:qI p.P fn tm h=some v):(results fn ca.tmps).run p.P w=.ok (con Γ v) w:=by
 have hget:∀ t,ca.tmps.getD t undef=con Γ (tm.get t):=fun t=>ht.eval (x:=.tmp t) rfl
 have hgo : ∀ (rs : List ResultVar) (l : List Value), qI.go p.P tm h rs = some l →
   (rs.mapM fun r=>(match r with
    | .tmp t=>pure (ca.tmps.getD t undef)
    | .cell a t=>do loadVar t (← asAddr (ca.tmps.getD a undef)):Sem Value)).run p.P w=.ok (l.map (con Γ)) w:=by
  intro rs
  induction rs with
  | nil=>intro l hl;simp[qI.go] at hl;subst hl;simp
  | cons r rs ih=>
   intro l hl
   cases r with
   | tmp t=>
    simp only[qI.go] at hl
    split at hl<;>cases hl
    rename_i l' hl'
    simp only[List.mapM_cons,Sem.run_bind,Sem.run_pure,Result.andThen_ok,ih l' hl',List.map_cons]
    rw[hget]
   | cell a t=>
    simp only[qI.go] at hl
    split at hl<;>cases hl
    rename_i v' l' hv' hl'
    have hld:=bY0 hr hv'
    have hev:jJ p.P t (tm.get a) h=some v':=hv'
    have hx:∃ b off,tm.get a=.pointer (some ⟨b,off,none⟩):=by
     unfold jJ at hev
     split at hev
     ·rename_i b off heq;exact ⟨b,off,heq⟩
     ·cases hev
    obtain ⟨b,off,hx⟩:=hx
    have hld2:(loadVar t ⟨Γ.b b,off,none⟩).run p.P w=.ok (con Γ v') w:=by
     rw[hx] at hld
     simpa[con,wM,Instr.loadAt,Instr.sureAddr] using hld
    have hga:ca.tmps.getD a undef=.pointer (some ⟨Γ.b b,off,none⟩):=by rw[hget,hx];rfl
    have haa:(asAddr (ca.tmps.getD a undef)).run p.P w=.ok ⟨Γ.b b,off,none⟩ w:=by rw[hga];rfl
    simp only[List.mapM_cons,Sem.run_bind,haa,Sem.run_pure,Result.andThen_ok,hld2,ih l' hl',List.map_cons]
 unfold qI at he
 have hm : ∀ l, qI.go p.P tm h fn.results.toList = some l → (fn.results.mapM fun r => (match r with
    | .tmp t=>pure (ca.tmps.getD t undef)
    | .cell a t=>do loadVar t (← asAddr (ca.tmps.getD a undef)):Sem Value)).run p.P w=.ok ⟨l.map (con Γ)⟩ w:=fun l hl=>by
  have h2:=hgo _ _ hl
  obtain ⟨rs,hrs⟩:∃ rs:List ResultVar,fn.results=⟨rs⟩:=⟨fn.results.toList,rfl⟩
  rw[hrs] at h2 ⊢
  rw[List.mapM_toArray]
  simp only[Sem.run_map]
  rw[h2]
  rfl
 split at he
 ·rename_i v' hl
  cases he
  have:=hm _ hl
  unfold results
  rw[Sem.run_bind]
  refine (congrArg (fun r=>Result.andThen r _) this).trans ?_
  simp
 ·rename_i l hne hl
  cases he
  have:=hm _ hl
  unfold results
  rw[Sem.run_bind]
  refine (congrArg (fun r=>Result.andThen r _) this).trans ?_
  simp only[Result.andThen_ok]
  have hsz:¬ ((⟨l.map (con Γ)⟩:Array Value).size=1):=by
   intro h1
   simp at h1
   obtain ⟨x,hx⟩:=List.length_eq_one_iff.1 h1
   exact hne x (by rw[hx])
  simp only[dif_neg hsz,Sem.run_pure,jN0]
  simp
 ·cases he
theorem gP0 {p:Par} {fn:Func} {F:Fence} {n:Nat} {R:Ending→World→Prop} {tmps:Array Value} {Γ:Gam}:∀ (ds:List Nat) (h h':jA) (w:World),jY p Γ h w→uL ds h=some h'→
  (∀ w',jY p Γ h' w'→h'.next=h.next→Below p.B w w'→LeavesInM F n p.P fn tmps R [] .returning w')→LeavesInM F n p.P fn tmps R (marks Γ ds) .returning w
 | [],h,h',w,hr,he,hk=>by
  simp only[uL,Option.some.injEq] at he
  subst he
  exact hk w hr rfl (Below.refl _ _)
 | d :: ds,h,h',w,hr,he,hk=>by
  simp only[uL] at he
  split at he
  ·rename_i m hd
   split at he
   ·rename_i hlo
    simp only[Nat.ble_eq] at hlo
    have hOR:=(hr.obj d _ hd).2
    simp only[OR] at hOR
    have hput:=hr.put (x':=⟨.deferred none,false⟩) (o:=.deferred none) hd rfl hlo (by
     simp only[OR]
     refine ⟨by simp,?_⟩
     rw[qU _ _ _ (Array.getElem?_eq_some_iff.1 hOR.2).1];simp)
    refine ⟨by simp,.inl ⟨Γ.b d,wset w (Γ.b d) (.deferred none),rfl,run_takeDeferred hOR.2,?_⟩⟩
    exact gP0 ds _ h' _ hput.1 he fun w' hr' hn hb=>hk w' hr' hn (hput.2.below.trans hb)
   ·cases he
  ·cases he
end Go.Ev
namespace Go.Ev
open Go Go.RowKit
def gM (Γ:Gam) (f:FuncId) (r:Loop):Loop:=
 { state:=r.state,pending:=r.pending,fn:=f,tmps:=r.tmps.map (con Γ),params:=r.params,assign:=r.assign,body:=r.body,defers:=Γ.b r.defers }
theorem wU {p:Par} {Γ:Gam} {h:jA} {w:World} (hr:jY p Γ h w) {l:Nat} {r:Loop} (hg:qF h l=some r) :
  (∃ m,h.get l=some ⟨.loop r,m⟩)∧h.lo≤l∧l<h.next∧(∀ v∈r.tmps.toList,sc h.next v=true)∧r.defers<h.next∧qR p.NG r.assign=true∧qR p.NG r.body=true∧
   ∃ f,w.heap[Γ.b l]?=some (.loop (gM Γ f r)):=by
 unfold qF at hg
 split at hg
 ·rename_i r0 m hget
  split at hg<;>cases hg
  rename_i hlo
  simp only[Nat.ble_eq] at hlo
  have ho:=hr.obj l _ hget
  have ho2:=ho.2
  simp only[OR] at ho2
  obtain ⟨h1,h2,h3,h4,f,h5⟩:=ho2
  exact ⟨⟨m,hget⟩,hlo,ho.1,h1,h2,h3,h4,f,h5⟩
 ·cases hg
theorem qP0 {p:Par} {Γ:Gam} {h:jA} {w:World} (hr:jY p Γ h w) {l:Nat} {r:Loop} {f:FuncId} (hg:qF h l=some r) (hw:w.heap[Γ.b l]?=some (.loop (gM Γ f r))) (st:LoopState) (pe:Option Code) :
  jY p Γ (jM h l { r with state:=st,pending:=pe }) (w.putObj (Γ.b l) (.loop { gM Γ f r with state:=st,pending:=pe }))∧
  Fr p Γ h w (w.putObj (Γ.b l) (.loop { gM Γ f r with state:=st,pending:=pe }))∧(jM h l { r with state:=st,pending:=pe }).next=h.next:=by
 obtain ⟨⟨m,hget⟩,hlo,hlt,h1,h2,h3,h4,_⟩:=wU hr hg
 have:=hr.put (x':=⟨.loop { r with state:=st,pending:=pe },false⟩) (o:=.loop { gM Γ f r with state:=st,pending:=pe }) hget rfl hlo (by
  simp only[OR]
  refine ⟨h1,h2,h3,h4,f,?_⟩
  rw[qU _ _ _ (Array.getElem?_eq_some_iff.1 hw).1]
  simp[gM])
 exact ⟨this.1,this.2,rfl⟩
theorem oH0 (Γ:Gam):∀ (ps:List (Nat×Value)) (tm:Array Value),
  (ps.map fun x=>(x.1,con Γ x.2)).foldl (fun tmps x=>tmps.setIfInBounds x.1 x.2) (tm.map (con Γ))=(ps.foldl (fun tmps x=>tmps.setIfInBounds x.1 x.2) tm).map (con Γ)
 | [],tm=>rfl
 | (t,v) :: ps,tm=>by
  simp only[List.map_cons,List.foldl_cons]
  rw[← oH0 Γ ps (tm.setIfInBounds t v)]
  congr 1
  simp
theorem kX1 {n:Nat}:∀ (ps:List (Nat×Value)) (tm:Array Value),(∀ x∈ps,sc n x.2=true)→(∀ x∈tm.toList,sc n x=true)→
  ∀ x∈(ps.foldl (fun tmps x=>tmps.setIfInBounds x.1 x.2) tm).toList,sc n x=true
 | [],tm,_,h=>h
 | (t,v) :: ps,tm,hp,h=>by
  simp only[List.foldl_cons]
  refine kX1 ps _ (fun x hx=>hp x (List.mem_cons_of_mem _ hx)) fun x hx=>?_
  simp only[Array.toList_setIfInBounds] at hx
  rcases List.mem_or_eq_of_mem_set hx with hx|hx
  ·exact h x hx
  ·rw[hx];exact hp (t,v) (List.mem_cons_self ..)
theorem eM0 (Γ:Gam) (ps:Array Tmp) (args tm:Array Value) :
  (ps.zip (args.map (con Γ))).foldl (fun tmps (t,a)=>tmps.setIfInBounds t a) (tm.map (con Γ))=((ps.zip args).foldl (fun tmps (t,a)=>tmps.setIfInBounds t a) tm).map (con Γ):=by
 have h:(ps.zip (args.map (con Γ))).toList=(ps.zip args).toList.map fun x=>(x.1,con Γ x.2):=by
  simp[Array.toList_zip,List.zip_map_right]
 rw[← Array.foldl_toList,← Array.foldl_toList,h]
 exact oH0 Γ _ tm
theorem iU0 {n:Nat} (ps:Array Tmp) {args tm:Array Value} (ha:∀ x∈args.toList,sc n x=true) (ht:∀ x∈tm.toList,sc n x=true) :
  ∀ x∈((ps.zip args).foldl (fun tmps (t,a)=>tmps.setIfInBounds t a) tm).toList,sc n x=true:=by
 rw[← Array.foldl_toList]
 refine kX1 _ tm (fun x hx=>?_) ht
 rw[Array.toList_zip] at hx
 exact ha _ (List.of_mem_zip hx).2
theorem nB0 (ps:Array Tmp) (args:List Value):(ps.zip (⟨args⟩:Array Value)).toList=ps.toList.zip args:=by simp[Array.toList_zip]
theorem cE0 (Γ:Gam) (ps:Array Tmp) (args:List Value) {T:VT} {tm:Array Value} (hU:T.sz<U) (hT:T.arr=tm) :
  (ps.zip (⟨args.map (con Γ)⟩:Array Value)).foldl (fun tmps (t,a)=>tmps.setIfInBounds t a) (tm.map (con Γ))=(uG T (ps.toList.zip args)).arr.map (con Γ):=by
 have h:=eM0 Γ ps ⟨args⟩ tm
 rw[show ((⟨args⟩:Array Value).map (con Γ))=⟨args.map (con Γ)⟩ by simp] at h
 rw[h,zR0 _ T hU,hT,← Array.foldl_toList,nB0]
theorem eL0 {n:Nat} (ps:Array Tmp) {args:List Value} {T:VT} {tm:Array Value} (hU:T.sz<U) (hT:T.arr=tm) (ha:∀ x∈args,sc n x=true) (ht:∀ x∈tm.toList,sc n x=true) :
  ∀ x∈(uG T (ps.toList.zip args)).arr.toList,sc n x=true:=by
 have h:=iU0 (n:=n) ps (args:=⟨args⟩) (tm:=tm) ha ht
 rw[← Array.foldl_toList,nB0] at h
 rw[zR0 _ T hU,hT]
 exact h
theorem sQ0 {p:Par} {Γ:Gam} {h:jA} {w:World} (hr:jY p Γ h w) {tm:VT} (hsc:∀ x∈tm.arr.toList,sc h.next x=true) {x:Operand} (hx:uE p.NG x=true):sc h.next (ev tm x)=true:=by
 cases x with
 | tmp t=>
  have e:ev tm (.tmp t)=tm.get t:=rfl
  rw[e,← VT.arr_getD,Array.getD_eq_getD_getElem?]
  cases hq:tm.arr[t]? with
  | none=>rfl
  | some y=>exact hsc y (by rw[← Array.getElem?_toList] at hq;exact List.mem_of_getElem? hq)
 | const y=>exact wR h.next y hx
 | global g=>
  simp[uE] at hx
  have e:ev tm (.global g)=.pointer (some ⟨g,0,none⟩):=rfl
  rw[e]
  have:=hr.gn;have:=hr.ng
  simp[sc,scA];omega
 | func f=>rfl
def RS (P:Program) (X:Ext) (rec:Rec) (o:Oper) (tm:VT) (h:jA):Rz→Prop
 | .no=>True
 | .pure v=>kO P o tm=some v
 | .read v=>zE0 P o tm h=some v
 | .eff v h'=>wD0 P o tm h=some (v,h')∨∃ f args ats,o.op=.call ⟨.value f,args,ats⟩∧callV P X rec (ev tm f) (args.toList.map (ev tm)) h=some (v,h')
section
variable {P:Program} {X:Ext} {rec:Rec} {o:Oper} {tm:VT} {h:jA}
end
end Go.Ev
namespace Go.Ev
open Go Go.RowKit
theorem qR0 {NG:Nat} {o:Oper} (h:qA0 NG o=true):(∀ c,o.op≠.defer c)∧∀ cs b,o.op≠.select cs b:=by
 simp only[qA0,Bool.and_eq_true] at h
 constructor
 ·intro c hc;rw[hc] at h;simp at h
 ·intro cs b hc;rw[hc] at h;simp at h
structure Next (p:Par) (Γ:Gam) (h:jA) (w:World) (tm':VT) (h':jA) (df:List Deferred) (Q:Act→World→Prop):Prop where
 go:∀ Γ' ca' w',Ag Γ Γ' h.next→h.next≤h'.next→Below p.B w w'→jY p Γ' h' w'→Tm Γ' p.NG tm' ca'→(∀ x∈tm'.arr.toList,sc h'.next x=true)→ca'.defers=df→Q ca' w'
theorem put_defers (a:Act) (d:Option Tmp) (v:Value):(a.put d v).defers=a.defers:=by cases d<;>rfl
theorem bL0 {P:Program} {ops:Array Oper} {listed:Array Bool}:∀ {is:List Nat} {i:Nat} {o:Oper},
  firstFree P ops listed is=some (i,o)→i∈is∧ops[i]?=some o∧Region.free .any ops listed i=true∧sS1 P o=false:=by
 intro is
 induction is with
 | nil=>intro i o he;simp[firstFree] at he
 | cons j is ih=>
  intro i o he
  simp only[firstFree] at he
  split at he
  ·rename_i o' ho
   split at he
   ·obtain ⟨h1,h2⟩:=ih he
    exact ⟨List.mem_cons_of_mem _ h1,h2⟩
   ·rename_i hne
    split at he
    ·rename_i hf
     cases he
     exact ⟨List.mem_cons_self ..,ho,hf,hne⟩
    ·obtain ⟨h1,h2⟩:=ih he
     exact ⟨List.mem_cons_of_mem _ h1,h2⟩
  ·obtain ⟨h1,h2⟩:=ih he
   exact ⟨List.mem_cons_of_mem _ h1,h2⟩
theorem St.df_ag {p:Par} {Γ Γ':Gam} {s:S} {ca ca':Act} {w:World} {m:Nat} (h:St p Γ s ca w) (hg:Ag Γ Γ' s.h.next) (hle:s.h.next≤m) (hd:ca'.defers=ca.defers) :
  ca'.defers=marks Γ' s.df∧∀ d∈s.df,d<m:=
 ⟨by rw[hd,h.df.1,dG0 hg h.df.2],fun d hd=>Nat.lt_of_lt_of_le (h.df.2 d hd) hle⟩
theorem Tm.ag {Γ Γ':Gam} {NG n:Nat} {tm:VT} {ca:Act} (h:Tm Γ NG tm ca) (hsc:∀ v∈tm.arr.toList,sc n v=true) (hg:Ag Γ Γ' n) (hn:NG≤n):Tm Γ' NG tm ca:=by
 exact h.put hsc hg hn none undef
theorem jA.new_next (h:jA) (x:qH):(h.new x).2.next=h.next+1:=by rw[jA.new_eq]
theorem mJ0 {p:Par} {Γ:Gam} {s:S} {ca:Act} {w:World} (hst:St p Γ s ca w) {ro:Option Nat} {ps:Array Tmp} {a b:Code} (ha:qR p.NG a=true) (hb:qR p.NG b=true) {l:Nat} {mk:List Nat} {h1:jA}
  (he:kC0 ro s.tm ps a b s.h=some (l,mk,h1)) (fn:FuncId) :
  ∃ Γ1 w1,(Instr.enterLoop fn ca.tmps ps a b (ro.map Γ.b)).run p.P w=.ok (Γ1.b l,marks Γ1 mk) w1∧Ag Γ Γ1 s.h.next∧s.h.next≤h1.next∧jY p Γ1 h1 w1∧Below p.B w w1∧l<h1.next∧∀ d∈mk,d<h1.next:=by
 have hr:=hst.hr
 unfold kC0 at he
 split at he
 ·rename_i l0
  split at he<;>cases he
  rename_i r hg
  obtain ⟨_,_,hlt,_,h12,_,_,f,hw⟩:=wU hr hg
  have hag:=Γ.ext_ag s.h.next w.heap.size 0
  have hnew:=jY.new (x:=⟨.loop { state:=.ready,pending:=none,fn:=0,tmps:=s.tm.arr,params:=ps,assign:=a,body:=b,defers:=r.defers },false⟩)
   (o:=.loop { state:=.ready,pending:=none,fn:=fn,tmps:=ca.tmps,params:=ps,assign:=a,body:=b,defers:=Γ.b r.defers }) (k:=0) hr (by
    simp only[OR]
    refine ⟨fun v hv=>qX (Nat.le_succ _) v (hst.sc v hv),Nat.lt_succ_of_lt h12,ha,hb,fn,?_⟩
    rw[Gam.ext_b,World.alloc_heap_new,hag.b _ h12,(hst.tm.ag hst.sc hag (by have:=hr.ng;have:=hr.gn;omega)).tm])
  refine ⟨_,_,?_,hag,by rw[jA.new_next];exact Nat.le_succ _,hnew.1,hnew.2.below,by rw[jA.new_next];exact Nat.lt_succ_self _,fun d hd=>by cases hd⟩
  simp only[Option.map_some,Instr.enterLoop,Sem.run_bind,run_getLoop hw,Result.andThen_ok,Sem.run_pure,run_newObj_alloc,Gam.ext_b,marks,List.map_nil]
  rfl
 ·cases he
  have hag1:=Γ.ext_ag s.h.next w.heap.size 0
  have hnew1 := jY.new (x := ⟨.deferred (some []), false⟩) (o := .deferred (some [])) (k := 0) hr (by
    simp only[OR]
    exact ⟨by simp,by rw[Gam.ext_b,World.alloc_heap_new]⟩)
  have hag2:=(Γ.ext s.h.next w.heap.size 0).ext_ag (s.h.next+1) (w.alloc (.deferred (some []))).heap.size 0
  have hag:Ag Γ ((Γ.ext s.h.next w.heap.size 0).ext (s.h.next+1) (w.alloc (.deferred (some []))).heap.size 0) s.h.next:=hag1.trans hag2 (Nat.le_succ _)
  have e1:(s.h.new ⟨.deferred (some []),false⟩).2.next=s.h.next+1:=jA.new_next _ _
  have hnew2:=jY.new (x:=⟨.loop { state:=.ready,pending:=none,fn:=0,tmps:=s.tm.arr,params:=ps,assign:=a,body:=b,defers:=s.h.next },false⟩)
   (o:=.loop { state:=.ready,pending:=none,fn:=fn,tmps:=ca.tmps,params:=ps,assign:=a,body:=b,defers:=w.heap.size }) (k:=0) hnew1.1 (by
    simp only[OR]
    refine ⟨fun v hv=>qX (by rw[e1];omega) v (hst.sc v hv),by rw[e1];omega,ha,hb,fn,?_⟩
    rw[e1,Gam.ext_b,World.alloc_heap_new,(hst.tm.ag hst.sc hag (by have:=hr.ng;have:=hr.gn;omega)).tm,hag2.b _ (Nat.lt_succ_self _),Gam.ext_b])
  rw[e1] at hnew2
  refine ⟨_,_,?_,hag,by rw[jA.new_next,e1];omega,hnew2.1,hnew1.2.below.trans hnew2.2.below,by rw[jA.new_next,e1];omega,fun d hd=>?_⟩
  ·rw[Option.map_none,run_enterLoop_outer]
   have e2:=hag2.b s.h.next (Nat.lt_succ_self _)
   rw[Gam.ext_b] at e2
   rw[Gam.ext_b,marks,List.map_cons,List.map_nil,e2,World.size_alloc]
  ·have:d=s.h.next:=by simpa using hd
   subst this
   rw[jA.new_next,e1]
   omega
def wZ0 (F:Fence) (n:Nat) (P:Program) (c:Code) (Q:Exit→Act→World→Prop) (rest:Code) (a:Act) (w:World):Prop:=
 ∀ (b:Frame) (k:List Item) (cs:List Frame),b.roundOf=F.round→F.fn b.fn→F.room (cs.length+1+n)→
  ∃ e a' w',Q e a' w'∧ArrivesIn (Machine.fenced P F) P (lone (b.atR a (.code rest :: .inScope c :: k)) cs w) b k cs e a' w'
def wN0 (F:Fence) (n:Nat) (P:Program) (c:Code) (Q:Exit→Act→World→Prop):Exit→Act→World→Prop
 | .goto l,a,w=>match findLabel c l with
  | some r=>wZ0 F n P c Q r a w
  | none=>Q (.goto l) a w
 | e,a,w=>Q e a w
theorem lZ0 {F:Fence} {n:Nat} {P:Program} {c rest:Code} {Q:Exit→Act→World→Prop} {a:Act} {w:World} (h:rest.wpIn F n P (wN0 F n P c Q) a w):wZ0 F n P c Q rest a w:=by
 intro b k cs hro hb hr
 obtain ⟨e,a₁,w₁,hq,harr⟩:=h b (.inScope c :: k) cs hro hb hr
 cases e with
 | normal=>exact ⟨.normal,a₁,w₁,hq,StepsIn.trans harr (.one (fenced_calm hb hr rfl) cN0)⟩
 | exit id=>exact ⟨.exit id,a₁,w₁,hq,fun k' hk=>harr.1 k' (by simpa[exitTo] using hk),fun hr' hk=>harr.2 hr' (by simpa[exitTo] using hk)⟩
 | goto l=>
  simp only[wN0] at hq
  cases hf:findLabel c l with
  | some r=>
   rw[hf] at hq
   have hq:wZ0 F n P c Q r a₁ w₁:=hq
   obtain ⟨e₂,a₂,w₂,hq₂,harr₂⟩:=hq b k cs hro hb hr
   exact ⟨e₂,a₂,w₂,hq₂,.of_steps (harr.1 _ (by simp[gotoIn,hf])) harr₂⟩
  | none=>
   rw[hf] at hq
   exact ⟨.goto l,a₁,w₁,hq,fun k' hk=>harr.1 k' (by simp[gotoIn,hf,hk]),fun hr' hk=>harr.2 hr' (by simp[gotoIn,hf,hk])⟩
 | ret=>exact ⟨_,a₁,w₁,hq,harr⟩
 | panic ch=>exact ⟨_,a₁,w₁,hq,harr⟩
 | outgrown=>exact ⟨_,a₁,w₁,hq,harr⟩
theorem iV0 {F:Fence} {n:Nat} {P:Program} {c:Code} {Q:Exit→Act→World→Prop} {a:Act} {w:World} (h:wZ0 F n P c Q c a w):(Code.scope c).wpIn F n P Q a w:=by
 intro b k cs hro hb hr
 obtain ⟨e,a₁,w₁,hq,harr⟩:=h b k cs hro hb hr
 exact ⟨e,a₁,w₁,hq,.of_steps (.one (fenced_calm hb hr rfl) lB0) harr⟩
theorem jA0 {NG:Nat}:∀ {c:Code} {l:Nat} {r:Code},qR NG c=true→findLabel c l=some r→qR NG r=true
 | .seq a b,l,r,h,hf=>by
  simp only[qR,Bool.and_eq_true] at h
  simp only[findLabel] at hf
  cases ha:findLabel a l with
  | some ra=>
   rw[ha] at hf
   cases hf
   simp only[qR,Bool.and_eq_true]
   exact ⟨jA0 h.1 ha,h.2⟩
  | none=>rw[ha] at hf;exact jA0 h.2 hf
 | .label l',l,r,_,hf=>by
  simp only[findLabel] at hf
  split at hf<;>cases hf
  rfl
 | .skip,_,_,_,hf=>by cases hf
 | .region _ _ _,_,_,_,hf=>by cases hf
 | .cond _ _ _,_,_,_,hf=>by cases hf
 | .block _ _,_,_,_,hf=>by cases hf
 | .loop _,_,_,_,hf=>by cases hf
 | .rangeFunc _ _ _ _,_,_,_,hf=>by cases hf
 | .exit _,_,_,_,hf=>by cases hf
 | .scope _,_,_,_,hf=>by cases hf
 | .goto _,_,_,_,hf=>by cases hf
 | .ret,_,_,_,hf=>by cases hf
 | .refuse _,_,_,_,hf=>by cases hf
end Go.Ev
namespace Go.Ev
open Go Go.RowKit
def h0:jA:={ t:=.nil,next:=0,lo:=0 }
theorem zB0:∀ {l:List Value},jT l=true→∀ v∈l,flat v=true
 | [],_,v,hv=>by cases hv
 | x :: xs,h,v,hv=>by
  simp only[jT,Bool.and_eq_true] at h
  cases hv with
  | head=>exact h.1
  | tail _ hv=>exact zB0 h.2 v hv
end Go.Ev
namespace Go.Ev
open Go Go.RowKit
theorem qO0 {n k:Nat} {a:Addr} (h:sc n (.pointer (some a))=true):sc n (.pointer (some (a.add k)))=true:=by
 simp only[sc,scA,Bool.and_eq_true] at h ⊢
 unfold Addr.add
 split
 ·exact h
 ·exact h
theorem uL1 {n k:Nat} {a:Option Addr} {l c l' c':Nat} (h:sc n (.slice a l c)=true):sc n (.slice (a.map (·.add k)) l' c')=true:=by
 cases a with
 | none=>rfl
 | some a=>exact qO0 (k:=k) (a:=a) h
theorem wF2 {n:Nat} {a:Option Addr} {l c l' c':Nat} (h:sc n (.slice a l c)=true):sc n (.slice a l' c')=true:=by
 cases a<;>exact h
theorem uN1 {n:Nat} {l:List Value} {i:Nat} {v:Value} (h:scL n l=true) (hv:l[i]?=some v):sc n v=true:=qP h v (List.mem_of_getElem? hv)
theorem kT0 {P:Program} {op:BinOp} {t:TypeId} {x y:Operand} {a b v:Value} (h:jE P op t x y a b=some v):flat v=true:=by
 unfold jE at h
 split at h
 ·cases h;rfl
 ·cases h;rfl
 ·split at h<;>cases h;rfl
 ·split at h<;>cases h;rfl
 ·split at h<;>cases h;rfl
 ·split at h<;>cases h;rfl
 ·exact (uR h).2.1
theorem nQ0 {P:Program} {n:Nat} {t:TypeId} {cs:List Value} {off:Nat} {v:Value} (hs:scL n cs=true) (h:dD0 P t cs off=some v):sc n v=true:=by
 unfold dD0 at h
 split at h
 ·split at h
  ·rename_i k _
   cases hd:gQ0 off cs with
   | none=>rw[hd] at h;cases h
   | some l=>
    rw[hd] at h
    dsimp only at h
    have ht:takeN cs off k=qL0 k l:=by simp only[takeN,hd]
    split at h<;>cases h
    rename_i l' hl'
    rw[← ht] at hl'
    refine qK fun u hu=>?_
    obtain ⟨j,hj⟩:=List.getElem?_of_mem hu
    exact uN1 hs ((qK0 hl').2.2 j u hj)
  ·cases h
 ·exact uN1 hs h
 ·cases h
theorem dV0 {n:Nat} {place:Nat→Option (Nat×Nat)}:∀ (parts:List (Nat×Value)) (cs cs':List Value),scL n cs=true→(∀ x∈parts,sc n x.2=true)→gN0 place cs parts=some cs'→scL n cs'=true
 | [],cs,cs',h,_,he=>by cases he;exact h
 | (i,v) :: rest,cs,cs',h,hp,he=>by
  simp only[gN0] at he
  split at he
  ·cases he
  ·split at he
   ·split at he
    ·rename_i cs1 hset
     refine dV0 rest cs1 cs' ?_ (fun x hx=>hp x (List.mem_cons_of_mem _ hx)) he
     obtain ⟨_,rfl⟩:=lG0 hset
     refine qK fun u hu=>?_
     simp only[setFrom,List.mem_append] at hu
     rcases hu with (hu|hu)|hu
     ·exact qP h u (List.mem_of_mem_take hu)
     ·have hv:=hp (i,v) (List.mem_cons_self ..)
      cases v with
      | agg cs=>exact qP hv u hu
      | _=>simp only[Value.cells,List.mem_singleton] at hu;subst hu;exact hv
     ·exact qP h u (List.mem_of_mem_drop hu)
    ·cases he
   ·cases he
theorem gC1 {P:Program} {n:Nat} {t:TypeId} {parts:List (Nat×Value)} {v:Value} (hp:∀ x∈parts,sc n x.2=true) (h:gT0 P t parts=some v):sc n v=true:=by
 unfold gT0 at h
 split at h
 ·cases h
 ·split at h
  ·cases h
  ·rename_i z _
   have hz:flat z=true→scL n z.cells.toList=true:=fun hf=>by
    have:=wR n z hf
    cases z with
    | agg cs=>exact this
    | _=>exact qK fun u hu=>by simp only[Value.cells,List.mem_singleton] at hu;subst hu;exact this
   split at h
   ·rename_i hf _
    split at h
    ·split at h<;>cases h
     rename_i cs hc
     exact dV0 _ _ _ (hz hf) hp hc
    ·cases h
   ·rename_i hf _
    split at h
    ·split at h<;>cases h
     rename_i cs hc
     exact dV0 _ _ _ (hz hf) hp hc
    ·cases h
   ·cases h
theorem fZ0 {p:Par} {Γ:Gam} {h:jA} {w:World} (hr:jY p Γ h w) {tm:VT} (hsc:∀ x∈tm.arr.toList,sc h.next x=true) {o:Oper}
  (hop:o.op.operands.all (uE p.NG)=true) {v:Value} (he:kO p.P o tm=some v):sc h.next v=true:=by
 have hv:∀ x∈o.op.operands,sc h.next (ev tm x)=true:=fun x hx=>sQ0 hr hsc (by
  rw[Array.all_eq_true_iff_forall_mem] at hop;exact hop x hx)
 unfold kO at he
 split at he
 ·rename_i x ho
  cases he
  exact hv x (by simp[ho,Op.operands])
 ·rename_i x ho
  cases he
  exact hv x (by simp[ho,Op.operands])
 ·rename_i c a b ho
  split at he<;>cases he
  ·exact hv a (by simp[ho,Op.operands])
  ·exact hv b (by simp[ho,Op.operands])
 ·rename_i t i ho
  have ht:=hv t (by simp[ho,Op.operands])
  split at he
  ·rename_i vs hx
   obtain ⟨vs⟩:=vs
   rw[hx] at ht
   exact uN1 (n:=h.next) (l:=vs) ht (by simpa using he)
  ·cases he
 ·exact wR _ _ (kT0 he)
 ·exact wR _ _ (uR he).2.1
 ·exact wR _ _ (uR he).2.1
 ·rename_i s x f ho
  have hx:=hv x (by simp[ho,Op.operands])
  split at he
  ·rename_i fs a _ hxe
   rw[hxe] at hx
   split at he
   ·split at he<;>cases he
    exact qO0 hx
   ·cases he
  ·cases he
 ·rename_i t x f ho
  have hx:=hv x (by simp[ho,Op.operands])
  split at he
  ·rename_i fs cs _ hxe
   obtain ⟨cs⟩:=cs
   rw[hxe] at hx
   split at he
   ·exact nQ0 hx he
   ·cases he
  ·cases he
 ·rename_i t x i ho
  have hx:=hv x (by simp[ho,Op.operands])
  split at he
  ·rename_i e a len cap k n _ hxe _
   rw[hxe] at hx
   split at he<;>cases he
   exact qO0 (a:=a) hx
  ·rename_i len e a k n _ hxe _
   rw[hxe] at hx
   split at he<;>cases he
   exact qO0 (a:=a) hx
  ·cases he
 ·rename_i t x i ho
  have hx:=hv x (by simp[ho,Op.operands])
  split at he
  ·exact wR _ _ (uR he).2.1
  ·rename_i cs k n hxe _
   obtain ⟨cs⟩:=cs
   rw[hxe] at hx
   split at he
   ·split at he
    ·exact nQ0 hx he
    ·cases he
   ·cases he
  ·cases he
 ·rename_i t x lo hi mx ho
  have hx:=hv x (by simp[ho,Op.operands])
  split at he
  ·exact wR _ _ (uR he).2.1
  ·rename_i a n c hxe
   rw[hxe] at hx
   unfold uB at he
   split at he
   ·split at he
    ·split at he
     ·dsimp only at he
      split at he<;>cases he
      ·exact wF2 hx
      ·exact uL1 hx
     ·cases he
    ·cases he
   ·cases he
  ·rename_i a hxe
   rw[hxe] at hx
   unfold jG0 at he
   split at he
   ·split at he
    ·split at he
     ·dsimp only at he
      split at he<;>cases he
      ·exact hx
      ·exact qO0 (a:=a) hx
     ·cases he
    ·cases he
   ·cases he
  ·cases he
 ·rename_i t parts ho
  refine gC1 (fun x hx=>?_) he
  obtain ⟨y,hy,rfl⟩:=List.mem_map.1 hx
  refine hv y.2 ?_
  simp only[ho,Op.operands,List.mem_toArray,List.mem_map]
  exact ⟨y,hy,rfl⟩
 ·rename_i g f c ho
  cases he
  have h1:∀ x∈f,sc h.next (ev tm x)=true:=fun x hx=>hv x (by simp[ho,Op.operands,hx])
  have h2:∀ x∈c,sc h.next (ev tm x)=true:=fun x hx=>hv x (by simp[ho,Op.operands,hx])
  show (scL h.next (f.map (ev tm)).toList&&scL h.next (c.map (ev tm)).toList)=true
  rw[Bool.and_eq_true]
  constructor
  ·refine qK fun u hu=>?_
   simp only[Array.toList_map,List.mem_map] at hu
   obtain ⟨y,hy,rfl⟩:=hu
   exact h1 y (by simpa using hy)
  ·refine qK fun u hu=>?_
   simp only[Array.toList_map,List.mem_map] at hu
   obtain ⟨y,hy,rfl⟩:=hu
   exact h2 y (by simpa using hy)
 ·rename_i t x ho
  have hx:=hv x (by simp[ho,Op.operands])
  split at he<;>cases he
  exact hx
 ·rename_i x ho
  have hx:=hv x (by simp[ho,Op.operands])
  split at he<;>cases he
  ·rename_i hxe;rw[hxe] at hx;exact hx
  ·rename_i hxe;rw[hxe] at hx;exact hx
 ·split at he
  ·split at he<;>cases he<;>rfl
  ·cases he
 ·exact wR _ _ (uR he).2.1
 ·exact wR _ _ (uR he).2.1
 ·cases he
theorem iB0 {p:Par} {Γ:Gam} {h:jA} {w:World} (hr:jY p Γ h w) {t:TypeId} {a v:Value} (he:jJ p.P t a h=some v):sc h.next v=true:=by
 unfold jJ at he
 split at he
 ·split at he
  ·rename_i cs e m hc
   split at he
   ·split at he
    ·split at he
     ·rename_i l hl
      obtain ⟨rfl,hok⟩:=seen_eq hr he
      refine qK fun u hu=>?_
      obtain ⟨j,hj⟩:=List.getElem?_of_mem hu
      refine (hr.cell hc ((qK0 hl).2.2 j u hj) ?_).2.1
      rcases hok with h0|h0
      ·exact .inl h0
      ·exact .inr (qP h0 u hu)
     ·cases he
    ·cases he
   ·split at he
    ·rename_i u hu
     obtain ⟨rfl,hok⟩:=seen_eq hr he
     exact (hr.cell hc hu hok).2.1
    ·cases he
   ·cases he
  ·cases he
 ·cases he
theorem yE1 {p:Par} {Γ:Gam} {h:jA} {w:World} (hr:jY p Γ h w) {tm:VT} (hsc:∀ x∈tm.arr.toList,sc h.next x=true) {o:Oper}
  (hop:o.op.operands.all (uE p.NG)=true) {v:Value} (he:zE0 p.P o tm h=some v):sc h.next v=true:=by
 have hv:∀ x∈o.op.operands,sc h.next (ev tm x)=true:=fun x hx=>sQ0 hr hsc (by
  rw[Array.all_eq_true_iff_forall_mem] at hop;exact hop x hx)
 unfold zE0 at he
 split at he
 ·exact iB0 hr he
 ·rename_i t x lo hi mx ho
  have hx:=hv x (by simp[ho,Op.operands])
  split at he
  ·rename_i a n c hxe
   rw[hxe] at hx
   unfold uA at he
   split at he
   ·split at he
    ·split at he
     ·split at he
      ·split at he
       ·split at he<;>cases he
        ·exact hx
        ·exact qO0 (a:=⟨_,_,none⟩) hx
       ·split at he<;>cases he
        exact qO0 (a:=⟨_,_,none⟩) hx
      ·cases he
     ·cases he
    ·cases he
   ·cases he
  ·cases he
 ·split at he
  ·split at he<;>cases he;rfl
  ·split at he<;>cases he;rfl
  ·split at he
   ·split at he
    ·split at he<;>cases he;rfl
    ·cases he
   ·cases he
  ·cases he
 ·cases he
theorem uJ0 {h:jA} {e:TypeId} {cs:List Value} {more:Bool} {b:Nat} {h':jA} (hm:mkRow h e cs more=some (b,h')):b=h.next∧h'.next=h.next+1:=by
 unfold mkRow at hm
 split at hm
 ·rw[jA.new_eq] at hm
  cases hm
  exact ⟨rfl,rfl⟩
 ·cases hm
theorem uM1 (n:Nat):sc (n+1) (.pointer (some ⟨n,0,none⟩))=true:=by simp[sc,scA]
theorem qN0 (n l c:Nat):sc (n+1) (.slice (some ⟨n,0,none⟩) l c)=true:=by simp[sc,scA]
theorem eA1 {p:Par} {Γ:Gam} {h h':jA} {w:World} (hr:jY p Γ h w) {tm:VT} (hsc:∀ x∈tm.arr.toList,sc h.next x=true) {o:Oper}
  (hop:o.op.operands.all (uE p.NG)=true) {v:Value} (he:wD0 p.P o tm h=some (v,h')):sc h'.next v=true:=by
 have hv:∀ x∈o.op.operands,sc h.next (ev tm x)=true:=fun x hx=>sQ0 hr hsc (by
  rw[Array.all_eq_true_iff_forall_mem] at hop;exact hop x hx)
 unfold wD0 at he
 split at he
 ·split at he
  ·split at he
   ·split at he<;>cases he
    rename_i hm
    obtain ⟨rfl,h2⟩:=uJ0 hm
    rw[h2];exact uM1 _
   ·cases he
  ·cases he
 ·split at he<;>cases he
  rename_i hm
  obtain ⟨rfl,h2⟩:=uJ0 hm
  rw[h2];exact uM1 _
 ·split at he
  ·split at he
   ·split at he
    ·split at he
     ·split at he
      ·split at he<;>cases he
       rename_i hm
       obtain ⟨rfl,h2⟩:=uJ0 hm
       rw[h2];exact qN0 _ _ _
      ·cases he
     ·cases he
    ·cases he
   ·cases he
  ·cases he
 ·split at he<;>cases he;rfl
 ·unfold iA0 at he
  split at he
  ·split at he
   ·split at he
    ·split at he
     ·split at he<;>cases he
      rename_i hm
      obtain ⟨rfl,h2⟩:=uJ0 hm
      rw[h2];exact qN0 _ _ _
     ·cases he
    ·cases he
   ·cases he
  ·cases he
 ·rename_i args argTypes ho
  split at he
  ·rename_i sT xT s x hT hA
   have hA':args=#[s,x]:=Array.ext' hA
   have hs:=hv s (by simp[ho,hA',Op.operands,Call.operands])
   unfold uZ at he
   split at he
   ·rename_i e base n cap m hs1 hs2 hlen
    rw[hs2] at hs
    split at he
    ·cases he
    dsimp only at he
    split at he
    ·cases he
    split at he
    ·split at he
     ·split at he
      ·split at he<;>cases he;rfl
      ·split at he
       ·cases he
        exact hs
       split at he
       rotate_left
       ·cases he
       split at he
       ·split at he<;>cases he
        exact hs
       ·cases he
     ·split at he
      ·split at he
       ·split at he<;>cases he
        rename_i hm
        obtain ⟨rfl,h2⟩:=uJ0 hm
        rw[h2];exact qN0 _ _ _
       ·cases he
      ·cases he
    ·split at he
     ·split at he
      ·split at he
       ·split at he<;>cases he
        exact qN0 _ _ _
       ·cases he
      ·cases he
     ·cases he
   ·cases he
  ·cases he
 ·split at he
  ·rw[jA.new_eq] at he
   cases he
   exact uM1 _
  ·cases he
 ·split at he
  ·split at he
   ·split at he<;>cases he<;>rfl
   ·cases he
  ·cases he
 ·rename_i s d x ho
  split at he
  ·split at he
   ·split at he
    ·split at he<;>cases he
     rename_i hm
     obtain ⟨rfl,h2⟩:=uJ0 hm
     rw[h2];exact qN0 _ _ _
    ·cases he
   ·cases he
  ·rename_i hxe
   unfold dH0 at he
   split at he
   ·cases he
    rw[← hxe];exact hv x (by simp[ho,Op.operands])
   ·cases he
  ·cases he
 ·cases he
end Go.Ev
namespace Go.Ev
open Go Go.RowKit
def WP (p:Par) (ro:Option Nat) (c:Code) (s:S) (R:jL→S→Prop):Prop:=
 qR p.NG c=true→∀ (Γ:Gam) (ca:Act) (w:World),St p Γ s ca w→∀ (F:Fence) (n:Nat) (Q:Exit→Act→World→Prop),FW F→F.round=ro.map Γ.b→(∀ l,ro=some l→l<s.h.next)→
  (∀ e s' Γ' ca' w',R e s'→Ag Γ Γ' s.h.next→s.h.next≤s'.h.next→Below p.B w w'→St p Γ' s' ca' w'→Q e.con ca' w')→yV1 F n p.P c Q ca w
def WPin (p:Par) (ro:Option Nat) (b c:Code) (s:S) (R:jL→S→Prop):Prop:=
 qR p.NG b=true→qR p.NG c=true→∀ (Γ:Gam) (ca:Act) (w:World),St p Γ s ca w→∀ (F:Fence) (n:Nat) (Q:Exit→Act→World→Prop),FW F→F.round=ro.map Γ.b→(∀ l,ro=some l→l<s.h.next)→
  (∀ e s' Γ' ca' w',R e s'→Ag Γ Γ' s.h.next→s.h.next≤s'.h.next→Below p.B w w'→St p Γ' s' ca' w'→Q e.con ca' w')→wZ0 F n p.P b Q c ca w
def jQ0 (p:Par) (l:Nat) (args:List Value) (h:jA) (R:Value→jA→Prop):Prop:=
 ∀ (Γ:Gam) (w:World),jY p Γ h w→(∀ x∈args,sc h.next x=true)→∀ (o:Oper) (F:Fence),FW F→∀ (n:Nat) (a:Act) (K:Act→World→Prop) (Q:Exit→Act→World→Prop),
  (∀ (v:Value) (h':jA) (Γ':Gam) (w':World),R v h'→Ag Γ Γ' h.next→h.next≤h'.next→Below p.B w w'→jY p Γ' h' w'→sc h'.next v=true→K (a.put o.dst (con Γ' v)) w')→
  o.uponIn F n p.P a K Q ((Instr.yield (Γ.b l) ⟨args.map (con Γ)⟩).run p.P w)
def yB0 (p:Par) (f:Value) (args:List Value) (h:jA) (R:Value→jA→Prop):Prop:=
 match f with
 | .func (.func g) ⟨[]⟩ ⟨captured⟩=>yA0 p g (args++captured) h R
 | .func (.yield l) ⟨[]⟩ _=>jQ0 p l args h R
 | _=>False
theorem jQ0.mono {p:Par} {l:Nat} {args:List Value} {h:jA} {R R':Value→jA→Prop} (hc:jQ0 p l args h R) (hR:∀ v h',R v h'→R' v h'):jQ0 p l args h R':=
 fun Γ w hr hs o F hF n a K Q hK=>hc Γ w hr hs o F hF n a K Q fun v h' Γ' w' hv=>hK v h' Γ' w' (hR v h' hv)
theorem yB0.mono {p:Par} {f:Value} {args:List Value} {h:jA} {R R':Value→jA→Prop} (hc:yB0 p f args h R) (hR:∀ v h',R v h'→R' v h'):yB0 p f args h R':=by
 unfold yB0 at hc ⊢
 split
 ·exact yA0.mono hc hR
 ·exact jQ0.mono hc hR
 ·rename_i h1 h2
  split at hc
  ·exact absurd rfl (h1 _ _)
  ·exact absurd rfl (h2 _ _)
  ·exact hc
theorem WP.mono {p:Par} {ro:Option Nat} {c:Code} {s:S} {R R':jL→S→Prop} (h:WP p ro c s R) (hR:∀ e s',R e s'→R' e s'):WP p ro c s R':=
 fun hok Γ ca w hst F n Q hF hro hl hQ=>h hok Γ ca w hst F n Q hF hro hl fun e s' Γ' ca' w' hr=>hQ e s' Γ' ca' w' (hR e s' hr)
section
variable {p:Par} {ro:Option Nat} {s:S} {R:jL→S→Prop}
theorem WP.skip (h:R .normal s):WP p ro .skip s R:=fun _ Γ ca w hst _ _ _ _ _ _ hQ=>kP (by simp) (wpIn_skip (hQ _ s Γ ca w h (Ag.refl _ _) (Nat.le_refl _) (Below.refl _ _) hst))
theorem WP.label {l:Nat} (h:R .normal s):WP p ro (.label l) s R:=fun _ Γ ca w hst _ _ _ _ _ _ hQ=>kP (by simp) (wpIn_label (hQ _ s Γ ca w h (Ag.refl _ _) (Nat.le_refl _) (Below.refl _ _) hst))
theorem WP.exit {i:Nat} (h:R (.exit i) s):WP p ro (.exit i) s R:=fun _ Γ ca w hst _ _ _ _ _ _ hQ=>kP (by simp) (wpIn_exit (hQ _ s Γ ca w h (Ag.refl _ _) (Nat.le_refl _) (Below.refl _ _) hst))
theorem WP.goto {l:Nat} (h:R (.goto l) s):WP p ro (.goto l) s R:=fun _ Γ ca w hst _ _ _ _ _ _ hQ=>kP (by simp) (wpIn_goto (hQ _ s Γ ca w h (Ag.refl _ _) (Nat.le_refl _) (Below.refl _ _) hst))
theorem WP.ret (h:R .ret s):WP p ro .ret s R:=fun _ Γ ca w hst _ _ _ _ _ _ hQ=>kP (by simp) (wpIn_ret (hQ _ s Γ ca w h (Ag.refl _ _) (Nat.le_refl _) (Below.refl _ _) hst))
theorem cZ0 {Γ Γ1:Gam} {m:Nat} {F:Fence} (hro:F.round=ro.map Γ.b) (hl:∀ l,ro=some l→l<m) (hg:Ag Γ Γ1 m):F.round=ro.map Γ1.b:=by
 rw[hro];cases ro with
 | none=>rfl
 | some l=>simp[hg.b l (hl l rfl)]
def cL0 (k:S→Prop) (R:jL→S→Prop) (e:jL) (s:S):Prop:=match e with | .normal=>k s|e=>R e s
theorem WP.seq {a b:Code} (h:WP p ro a s (cL0 (fun s1=>WP p ro b s1 R) R)):WP p ro (.seq a b) s R:=by
 intro hok Γ ca w hst F n Q hF hro hl hQ
 simp only[qR,Bool.and_eq_true] at hok
 refine kP (by simp) (wpIn_seq (gI (h hok.1 Γ ca w hst F n _ hF hro hl fun e s1 Γ1 ca1 w1 hr hg hle hb hst1=>?_)))
 cases e with
 | normal=>
  refine gI (hr hok.2 Γ1 ca1 w1 hst1 F n Q hF (cZ0 hro hl hg) (fun l e=>Nat.lt_of_lt_of_le (hl l e) hle) fun e2 s2 Γ2 ca2 w2 hr2 hg2 hle2 hb2 hst2=>?_)
  exact hQ e2 s2 Γ2 ca2 w2 hr2 (hg.trans hg2 hle) (Nat.le_trans hle hle2) (hb.trans hb2) hst2
 | exit i=>exact hQ _ s1 Γ1 ca1 w1 hr hg hle hb hst1
 | goto l=>exact hQ _ s1 Γ1 ca1 w1 hr hg hle hb hst1
 | ret=>exact hQ _ s1 Γ1 ca1 w1 hr hg hle hb hst1
theorem WP.cond {x:Operand} {a b:Code} {v:Bool} (hx:ev s.tm x=.bool v) (ha:v=true→WP p ro a s R) (hb:v=false→WP p ro b s R):WP p ro (.cond x a b) s R:=by
 intro hok Γ ca w hst F n Q hF hro hl hQ
 simp only[qR,Bool.and_eq_true] at hok
 have hx2:=hst.tm.eval hok.1.1
 refine kP (by simp) ?_
 cases v with
 | true=>exact wpIn_cond_true (by rw[hx2,hx];rfl) (gI (ha rfl hok.1.2 Γ ca w hst F n Q hF hro hl hQ))
 | false=>exact wpIn_cond_false (by rw[hx2,hx];rfl) (gI (hb rfl hok.2 Γ ca w hst F n Q hF hro hl hQ))
def outR (id:Nat) (R:jL→S→Prop) (e:jL) (s:S):Prop:=match e with | .exit j=>if j=id then R .normal s else R (.exit j) s|e=>R e s
theorem WP.block {id:Nat} {b:Code} (h:WP p ro b s (outR id R)):WP p ro (.block id b) s R:=by
 intro hok Γ ca w hst F n Q hF hro hl hQ
 simp only[qR] at hok
 refine kP (by simp) (wpIn_block (gI (h hok Γ ca w hst F n _ hF hro hl fun e s1 Γ1 ca1 w1 hr hg hle hb hst1=>?_)))
 cases e with
 | normal=>exact hQ _ s1 Γ1 ca1 w1 hr hg hle hb hst1
 | exit j=>
  simp only[outR] at hr
  by_cases hj:j=id
  ·rw[if_pos hj] at hr
   have:=hQ _ s1 Γ1 ca1 w1 hr hg hle hb hst1
   simp only[jL.con,Exit.inBlock,if_pos hj]
   exact this
  ·rw[if_neg hj] at hr
   have:=hQ _ s1 Γ1 ca1 w1 hr hg hle hb hst1
   simp only[jL.con,Exit.inBlock,if_neg hj]
   exact this
 | goto l=>exact hQ _ s1 Γ1 ca1 w1 hr hg hle hb hst1
 | ret=>exact hQ _ s1 Γ1 ca1 w1 hr hg hle hb hst1
theorem WP.round {b:Code} (h:WP p ro b s (cL0 (fun s2=>WP p ro (.loop b) s2 R) R)):WP p ro (.loop b) s R:=by
 intro hok Γ ca w hst F n Q hF hro hl hQ
 have hokb:qR p.NG b=true:=by simpa[qR] using hok
 refine sW0 (gI (h hokb Γ ca w hst F n _ hF hro hl fun e s2 Γ1 ca1 w1 hr hg hle hb hst1=>?_))
 cases e with
 | normal=>
  refine hr hok Γ1 ca1 w1 hst1 F n Q hF (cZ0 hro hl hg) (fun l e=>Nat.lt_of_lt_of_le (hl l e) hle) fun e2 s3 Γ2 ca2 w2 hr2 hg2 hle2 hb2 hst2=>?_
  exact hQ e2 s3 Γ2 ca2 w2 hr2 (hg.trans hg2 hle) (Nat.le_trans hle hle2) (hb.trans hb2) hst2
 | exit i=>exact hQ _ s2 Γ1 ca1 w1 hr hg hle hb hst1
 | goto l=>exact hQ _ s2 Γ1 ca1 w1 hr hg hle hb hst1
 | ret=>exact hQ _ s2 Γ1 ca1 w1 hr hg hle hb hst1
def yV0 (p:Par) (ro:Option Nat) (b:Code) (R:jL→S→Prop) (e:jL) (s:S):Prop:=
 match e with
 | .goto l=>match findLabel b l with
  | some rest=>WPin p ro b rest s R
  | none=>R (.goto l) s
 | e=>R e s
theorem WPin.of {b c:Code} (h:WP p ro c s (yV0 p ro b R)):WPin p ro b c s R:=by
 intro hokb hokc Γ ca w hst F n Q hF hro hl hQ
 refine lZ0 (gI (h hokc Γ ca w hst F n _ hF hro hl fun e s1 Γ1 ca1 w1 hr hg hle hb hst1=>?_))
 cases e with
 | goto l=>
  simp only[yV0] at hr
  show wN0 F n p.P b Q (.goto l) ca1 w1
  simp only[wN0]
  cases hf:findLabel b l with
  | some rest=>
   rw[hf] at hr
   refine hr hokb (jA0 hokb hf) Γ1 ca1 w1 hst1 F n Q hF (cZ0 hro hl hg) (fun l e=>Nat.lt_of_lt_of_le (hl l e) hle) fun e2 s3 Γ2 ca2 w2 hr2 hg2 hle2 hb2 hst2=>?_
   exact hQ e2 s3 Γ2 ca2 w2 hr2 (hg.trans hg2 hle) (Nat.le_trans hle hle2) (hb.trans hb2) hst2
  | none=>
   rw[hf] at hr
   exact hQ _ s1 Γ1 ca1 w1 hr hg hle hb hst1
 | normal=>exact hQ _ s1 Γ1 ca1 w1 hr hg hle hb hst1
 | exit i=>exact hQ _ s1 Γ1 ca1 w1 hr hg hle hb hst1
 | ret=>exact hQ _ s1 Γ1 ca1 w1 hr hg hle hb hst1
theorem WP.scope {b:Code} (h:WPin p ro b b s R):WP p ro (.scope b) s R:=by
 intro hok Γ ca w hst F n Q hF hro hl hQ
 simp only[qR] at hok
 exact kP (by simp) (iV0 (h hok hok Γ ca w hst F n Q hF hro hl hQ))
end
end Go.Ev
namespace Go.Ev
open Go Go.RowKit
noncomputable section
structure uE0 (p:Par):Prop where
 funcs:∀ (g:Nat) (fn:Func),p.P.funcs[g]?=some fn→nV0 p.NG fn=true
 mixed:p.P.follows .mixedOrders=true
def FR (n:Nat) (l:List (Nat×Value)):VT:=l.foldr (fun x T=>T.set x.1 x.2) (VT.of [] n)
theorem gD2 (n:Nat) (l:List (Nat×Value)):(FR n l).sz=n:=by
 induction l with
 | nil=>simp[FR,VT.of]
 | cons x l ih=>exact (VT.set_sz _ _ _).trans ih
theorem gE2 (n:Nat) (l:List (Nat×Value)) (i:Nat) (v:Value):(FR n l).set i v=FR n ((i,v) :: l):=rfl
theorem mV0 (n:Nat) (hU:n<U) (l:List (Nat×Value)) (i:Nat) (v:Value):(FR n ((i,v) :: l)).arr=(FR n l).arr.setIfInBounds i v:=by
 rw[← gE2,VT.arr_set _ (by rw[gD2];exact hU)]
theorem gF2 (n:Nat) (hU:n<U):(FR n []).arr=Array.replicate n undef:=by
 have:=VT.of_arr [] n (by simpa[VT.of] using hU)
 simpa[FR] using this
def kY0:Nat→List Value→List (Nat×Value)
 | _,[]=>[]
 | i,v :: l=>kY0 (i+1) l++[(i,v)]
theorem bD0 (n:Nat) (hU:n<U) (m:List (Nat×Value)):∀ (l:List (Nat×Value)),(FR n (l++m)).arr=l.foldr (fun x A=>A.setIfInBounds x.1 x.2) (FR n m).arr
 | []=>rfl
 | (i,v) :: l=>by
  rw[List.cons_append,mV0 n hU,bD0 n hU m l]
  rfl
theorem iD0:∀ (args:List Value) (i:Nat) (A:Array Value) (j:Nat),i+args.length≤A.size→
  ((kY0 i args).foldr (fun x A=>A.setIfInBounds x.1 x.2) A)[j]?=if i≤j∧j<i+args.length then args[j-i]? else A[j]?
 | [],i,A,j,_=>by simp[kY0];intro h1 h2;omega
 | v :: l,i,A,j,h=>by
  simp only[List.length_cons] at h
  simp only[kY0,List.foldr_append,List.foldr_cons,List.foldr_nil,List.length_cons]
  rw[iD0 l (i+1) (A.setIfInBounds i v) j (by simp;omega)]
  by_cases h1:i+1≤j∧j<i+1+l.length
  ·rw[if_pos h1,if_pos (by omega)]
   rw[show j-i=(j-(i+1))+1 by omega,List.getElem?_cons_succ]
  ·rw[if_neg h1]
   by_cases h2:j=i
   ·subst h2
    rw[if_pos (by omega)]
    simp[Array.getElem?_setIfInBounds]
    omega
   ·rw[if_neg (by omega),Array.getElem?_setIfInBounds,if_neg (Ne.symm h2)]
theorem bD1 (n:Nat) (hU:n<U) (args:List Value) (h:args.length≤n):(FR n (kY0 0 args)).arr=⟨args⟩++Array.replicate (n-args.length) undef:=by
 apply Array.ext_getElem?
 intro j
 have:=bD0 n hU [] (kY0 0 args)
 rw[List.append_nil] at this
 rw[this,gF2 n hU,iD0 args 0 _ j (by simpa using h)]
 simp only[Nat.zero_le,true_and,Nat.zero_add,Nat.sub_zero]
 rw[Array.getElem?_append]
 simp only[List.size_toArray,List.getElem?_toArray]
 split
 ·rfl
 ·rw[Array.getElem?_replicate,Array.getElem?_replicate]
  by_cases h3:j<n
  ·rw[if_pos h3,if_pos (by omega)]
  ·rw[if_neg h3,if_neg (by omega)]
def gQ (P:Program) (rs:List ResultVar) (tm:VT) (h:jA):Option Value:=
 match qI.go P tm h rs with
 | some [v]=>some v
 | some l=>some (.tuple ⟨l⟩)
 | none=>none
theorem dY1 (P:Program) (fn:Func) (tm:VT) (h:jA):qI P fn tm h=gQ P fn.results.toList tm h:=rfl
theorem dX1 {p:Par} {Γ:Gam} {h:jA} {w:World} (hr:jY p Γ h w) {tm:VT} (hsc:∀ x∈tm.arr.toList,sc h.next x=true) {rs:List ResultVar} {v:Value} (he:gQ p.P rs tm h=some v):sc h.next v=true:=by
 have hget:∀ t,sc h.next (tm.get t)=true:=fun t=>by
  rw[← VT.arr_getD,Array.getD_eq_getD_getElem?]
  cases hx:tm.arr[t]? with
  | none=>rfl
  | some x=>exact hsc x (by simpa using Array.mem_of_getElem? hx)
 have hgo:∀ (rs:List ResultVar) (l:List Value),qI.go p.P tm h rs=some l→∀ x∈l,sc h.next x=true:=by
  intro rs
  induction rs with
  | nil=>intro l he;cases he;intro x hx;cases hx
  | cons r rs ih=>
   intro l he
   cases r with
   | tmp t=>
    simp only[qI.go] at he
    split at he<;>cases he
    rename_i l' hl'
    intro x hx
    rcases List.mem_cons.1 hx with rfl|hx
    ·exact hget t
    ·exact ih l' hl' x hx
   | cell a t=>
    simp only[qI.go] at he
    split at he
    ·rename_i u l' hu hl'
     cases he
     intro x hx
     rcases List.mem_cons.1 hx with rfl|hx
     ·exact iB0 hr hu
     ·exact ih l' hl' x hx
    ·cases he
 unfold gQ at he
 split at he
 ·rename_i u hu;cases he;exact hgo _ _ hu _ (List.mem_singleton.2 rfl)
 ·rename_i l _ hl;cases he;exact qK (hgo _ _ hl)
 ·cases he
def endR (P:Program) (rs:List ResultVar) (R:Value→jA→Prop) (s:S):Prop:=
 match uL s.df s.h with
 | some h1=>match gQ P rs s.tm h1 with
  | some v=>R v h1
  | none=>False
 | none=>False
def jH (P:Program) (rs:List ResultVar) (R:Value→jA→Prop) (e:jL) (s:S):Prop:=
 match e with
 | .normal=>endR P rs R s
 | .ret=>endR P rs R s
 | _=>False
def gJ (p:Par) (g:FuncId) (args:List Value) (h:jA) (R:Value→jA→Prop):Prop:=
 ∀ (Γ:Gam) (w:World),jY p Γ h w→(∀ x∈args,sc h.next x=true)→(callFunc g ⟨args.map (con Γ)⟩).run p.P w=.ok (.enter g ⟨args.map (con Γ)⟩) w∧
  ∀ (F:Fence),FW F→∀ (n:Nat) (R':Ending→World→Prop),
   (∀ (v:Value) (h':jA) (Γ':Gam) (w':World),R v h'→Ag Γ Γ' h.next→h.next≤h'.next→Below p.B w w'→jY p Γ' h' w'→sc h'.next v=true→R' (.returned (con Γ' v)) w')→
   CallsIn F n p.P g ⟨args.map (con Γ)⟩ w R'
theorem gJ.mono {p:Par} {g:FuncId} {args:List Value} {h:jA} {R R':Value→jA→Prop} (hc:gJ p g args h R) (hR:∀ v h',R v h'→R' v h'):gJ p g args h R':=
 fun Γ w hr hs=>⟨(hc Γ w hr hs).1,fun F hF n S hS=>(hc Γ w hr hs).2 F hF n S fun v h' Γ' w' hv=>hS v h' Γ' w' (hR v h' hv)⟩
theorem gJ.w {p:Par} {g:FuncId} {args:List Value} {h:jA} {R:Value→jA→Prop} (hc:gJ p g args h R):yA0 p g args h R:=by
 intro Γ w hr hsc o F hF n a K Q hK
 obtain ⟨hrun,hcalls⟩:=hc Γ w hr hsc
 rw[hrun]
 refine ⟨fun hd=>(by rw[hF.depth] at hd;cases hd),?_⟩
 refine CallsIn.mono (hcalls F hF (n - 1) (fun e w'' => match e with
   | .returned v=>K (a.put o.dst v) w''
   | .panicked chain=>Q (.panic chain) a w''
   | .outgrown=>LetsOut Q) hK) fun e w'' he=>by cases e<;>exact he
theorem gJ.body {p:Par} (ok:uE0 p) {g:FuncId} {fn:Func} {c:Code} (hfn:p.P.funcs[g]?=some fn) (hb:fn.body=some c) {args:List Value} {h:jA} {R:Value→jA→Prop}
  (hn:args.length≤fn.ntmps) (hU:fn.ntmps<U) (hw:WP p none c ⟨FR fn.ntmps (kY0 0 args),[],h⟩ (jH p.P fn.results.toList R)):gJ p g args h R:=by
 intro Γ w hr hsc
 have hok:=ok.funcs g fn hfn
 simp only[nV0,hb,Bool.and_eq_true,bne_iff_ne,ne_eq] at hok
 have hrun:(callFunc g ⟨args.map (con Γ)⟩).run p.P w=.ok (.enter g ⟨args.map (con Γ)⟩) w:=by simp[callFunc,hfn,hok.2,hb]
 refine ⟨hrun,fun F hF n R' hK=>?_⟩
 have harr:=bD1 fn.ntmps hU args hn
 have hF':FW F.plain:=⟨hF.wide⟩
 refine (?_:CallsIn F.plain n p.P g ⟨args.map (con Γ)⟩ w R')
 refine callsIn_of_wp_marks hfn hb (hF.fn g) (gI (hw hok.1 Γ { tmps := (⟨args.map (con Γ)⟩ : Array Value) ++ Array.replicate (fn.ntmps - (⟨args.map (con Γ)⟩ : Array Value).size) undef, defers := [] } w
   ⟨⟨by rw[gD2];exact hU,by rw[harr];simp[qX0],hr.gl⟩,by
    intro x hx
    have hx:x∈(FR fn.ntmps (kY0 0 args)).arr.toList:=hx
    rw[harr] at hx
    simp only[Array.toList_append,List.mem_append] at hx
    rcases hx with hx|hx
    ·exact hsc x hx
    ·simp at hx;rw[hx.2];rfl,⟨rfl,fun d hd=>by cases hd⟩,hr⟩ F.plain n _ hF' rfl (fun l h=>by cases h) ?_)) rfl
 intro e s' Γ' ca' w' hfin hag hle hbel hst
 have hfin':endR p.P fn.results.toList R s':=by
  cases e with
  | normal=>exact hfin
  | ret=>exact hfin
  | exit i=>exact hfin.elim
  | goto l=>exact hfin.elim
 have hR:LeavesInM F.plain n p.P fn ca'.tmps R' ca'.defers .returning w':=by
  unfold endR at hfin'
  split at hfin'
  ·rename_i h1 hm
   split at hfin'
   ·rename_i v hres
    rw[hst.df.1]
    refine gP0 _ _ _ _ hst.hr hm fun w'' hr'' hn'' hb''=>?_
    refine ⟨_,dX0 hr'' hst.tm (by rw[dY1];exact hres),hK v h1 Γ' w'' hfin' hag (by rw[hn''];exact hle) (hbel.trans hb'') hr'' ?_⟩
    exact dX1 hr'' (fun x hx=>by rw[hn''];exact hst.sc x hx) hres
   ·exact hfin'.elim
  ·exact hfin'.elim
 cases e with
 | normal=>exact hR
 | ret=>exact hR
 | exit i=>exact hfin.elim
 | goto l=>exact hfin.elim
def nP0 (l:Nat) (R:Value→jA→Prop) (e:jL) (s2:S):Prop:=
 match qF s2.h l with
 | some r2=>R (.bool e.jump.isNone) (jM s2.h l { r2 with state:=if e.jump.isNone then .ready else .done,pending:=e.jump })
 | none=>False
def eD0 (p:Par) (l:Nat) (body:Code) (R:Value→jA→Prop) (e:jL) (s1:S):Prop:=
 match e with
 | .normal=>match qF s1.h l with
  | some r1=>r1.state=.ready∧WP p (some l) body ⟨s1.tm,s1.df,jM s1.h l { r1 with state:=.busy }⟩ (nP0 l R)
  | none=>False
 | _=>False
theorem jQ0.of {p:Par} {l:Nat} {r:Loop} {args:List Value} {h:jA} {R:Value→jA→Prop} {T:VT} (hg:qF h l=some r) (hT:r.tmps=T.arr) (hU:T.sz<U)
  (hlen:args.length=r.params.toList.length) (hw:WP p (some l) r.assign ⟨uG T (r.params.toList.zip args),[],h⟩ (eD0 p l r.body R)):jQ0 p l args h R:=by
 intro Γ w hr hsc o F hF n a K Q hK
 obtain ⟨_,hlo,hlt,h1,h2,h3,h4,f,hw0⟩:=wU hr hg
 rw[run_yield hw0 (by simpa[gM] using hlen)]
 rw[Oper.uponIn_round]
 refine ⟨fun hd=>(by rw[hF.depth] at hd;cases hd),roundIn_of_wpIn (hF.fn _) ?_⟩
 have hFr:FW (F.inRound (Γ.b l)):=⟨hF.wide⟩
 have htm:(gM Γ f r).tmps=r.tmps.map (con Γ):=rfl
 have hps:(gM Γ f r).params=r.params:=rfl
 have hof:T.arr=r.tmps:=hT.symm
 rw[htm,hps,cE0 Γ r.params args hU hof]
 refine gI (hw h3 Γ _ w ⟨⟨by rw[fB0];exact hU,rfl,hr.gl⟩,eL0 r.params hU hof hsc h1,⟨rfl,fun d hd=>by cases hd⟩,hr⟩ (F.inRound (Γ.b l)) (n-1) _ hFr rfl (fun l' e=>by cases e;exact hlt) ?_)
 intro e s1 Γ1 ca1 w1 hass hag1 hle1 hb1 hst
 cases e with
 | exit i=>exact hass.elim
 | goto l=>exact hass.elim
 | ret=>exact hass.elim
 | normal=>
  simp only[eD0] at hass
  split at hass
  case h_2=>exact hass.elim
  rename_i r1 hg1
  obtain ⟨hst1,hbody⟩:=hass
  obtain ⟨_,hlo1,hlt1,h11,h12,h13,h14,f1,hw1⟩:=wU hst.hr hg1
  have hbl:Γ1.b l=Γ.b l:=hag1.b l hlt
  have hp1:=qP0 hst.hr hg1 hw1 .busy r1.pending
  refine ⟨_,run_beginRound (r:=gM Γ1 f1 r1) (by rw[← hbl];exact hw1) hst1,?_⟩
  refine gI (hbody h4 Γ1 ca1 _ ⟨hst.tm,hst.sc,hst.df,by rw[hbl] at hp1;exact hp1.1⟩ (F.inRound (Γ.b l)) (n-1) _ hFr (by simp[hbl]) (fun l' e=>by cases e;exact hlt1) ?_)
  intro e s2 Γ2 ca2 w2 hrr hag2 hle2 hb2 hst2
  unfold nP0 at hrr
  split at hrr
  case h_2=>exact hrr.elim
  rename_i r2 hg2
  obtain ⟨_,hlo2,hlt2,h21,h22,h23,h24,f2,hw2⟩:=wU hst2.hr hg2
  have hag2':Ag Γ1 Γ2 s1.h.next:=hag2
  have hbl2:Γ2.b l=Γ.b l:=(hag2'.b l hlt1).trans hbl
  have hp2:=qP0 hst2.hr hg2 hw2 (if e.jump.isNone then .ready else .done) e.jump
  rw[hbl2] at hp2 hw2
  have hle2':s1.h.next≤s2.h.next:=hle2
  have hle1':h.next≤s1.h.next:=hle1
  have hbelow:Below p.B w w2:=hb1.trans (Below.trans (by rw[hbl] at hp1;exact hp1.2.1.below) hb2)
  have hend:∃ v w',(Instr.endRound (Γ.b l) e.jump).run p.P w2=.ok v w'∧K (a.put o.dst v) w':=by
   refine ⟨_,_,run_endRound (r:=gM Γ2 f2 r2) e.jump hw2,?_⟩
   have:=hK _ _ Γ2 _ hrr (hag1.trans hag2' hle1) (by have:=hp2.2.2;omega) (hbelow.trans hp2.2.1.below) hp2.1 rfl
   exact this
  cases e with
  | normal=>exact hend
  | exit id=>exact hend
  | goto t=>exact hend
  | ret=>exact hend
def qC0 (l:Nat) (s:S) (mk:List Nat) (R:jL→S→Prop) (_:Value) (h2:jA):Prop:=
 match qW0 l ⟨s.tm,mk++s.df,h2⟩ with
 | some (e,s')=>R e s'
 | none=>False
theorem WP.range {p:Par} {ro:Option Nat} {g:Operand} {ps:Array Tmp} {a b:Code} {s:S} {R:jL→S→Prop} {l:Nat} {mk:List Nat} {h1:jA} (hent:kC0 ro s.tm ps a b s.h=some (l,mk,h1))
  {f:FuncId} {captured:List Value} (hgv:ev s.tm g=.func (.func f) #[] ⟨captured⟩) (hc:gJ p f (.func (.yield l) #[] #[] :: captured) h1 (qC0 l s mk R)):WP p ro (.rangeFunc g ps a b) s R:=by
 intro hok Γ ca w hst F n Q hF hro hl hQ
 simp only[qR,Bool.and_eq_true] at hok
 refine kP (by simp) (wpIn_rangeFunc fun fn hfn=>?_)
 obtain ⟨Γ1,w1,hent1,hag1,hle1,hr1,hbel1,hl1',hmk1⟩:=mJ0 hst hok.1.2 hok.2 hent fn
 have hng:p.NG≤s.h.next:=by have:=hst.hr.ng;have:=hst.hr.gn;omega
 have htm1:=hst.tm.ag hst.sc hag1 hng
 have hg0:=htm1.eval hok.1.1
 rw[hgv,bA] at hg0
 have hscg:scL s.h.next captured=true:=by
  have:=sQ0 hst.hr hst.sc hok.1.1
  rw[hgv] at this
  simp only[sc,Bool.and_eq_true] at this
  exact this.2
 have hargs:(#[Value.func (.yield (Γ1.b l)) #[] #[]]++(⟨captured⟩:Array Value).map (con Γ1))=⟨(Value.func (.yield l) #[] #[] :: captured).map (con Γ1)⟩:=by
  apply Array.ext'
  simp[con,kG0,conL]
 have hbd := hc Γ1 w1 hr1 (fun x hx => by
   simp only[List.mem_cons] at hx
   rcases hx with hx|hx
   ·subst hx
    simp only[sc,scL,Bool.and_true,Nat.blt_eq]
    exact hl1'
   ·exact qX hle1 x (qP hscg x hx))
 have hbd2:=hbd.2 F hF (n-1) (rangePost F n p.P (Γ1.b l) Q { ca with defers:=marks Γ1 mk++ca.defers }) (by
  intro v h2 Γ2 w2 hlv hag2 hle2 hbel2 hr2 _
  unfold qC0 at hlv
  split at hlv
  case h_2=>exact hlv.elim
  rename_i e s' he
  unfold qW0 at he
  split at he
  ·rename_i r hg
   obtain ⟨_,_,_,_,_,_,_,f2,hw2⟩:=wU (h:=h2) hr2 hg
   have hbl:Γ2.b l=Γ1.b l:=hag2.b l hl1'
   have hput:=qP0 hr2 hg hw2 .exhausted r.pending
   rw[hbl] at hw2 hput
   split at he
   ·cases he
   ·rename_i hnb
    obtain ⟨W,hrunW,hrelW,hfrW⟩:∃ W,(Instr.endLoop (Γ1.b l)).run p.P w2=.ok r.pending W∧jY p Γ2 (jM h2 l { r with state:=.exhausted }) W∧Fr p Γ2 h2 w2 W:=
     ⟨_,run_endLoop (r:=gM Γ2 f2 r) hw2 hnb,hput.1,hput.2.1⟩
    have hag:Ag Γ Γ2 s.h.next:=hag1.trans hag2 hle1
    have hnx:(jM h2 l { r with state:=.exhausted }).next=h2.next:=rfl
    have hstn:St p Γ2 ({ tm:=s.tm,df:=mk++s.df,h:=jM h2 l { r with state:=.exhausted } }:S) { ca with defers:=marks Γ1 mk++ca.defers } W:=by
     refine ⟨?_,fun v hv=>qX (by rw[hnx];omega) v (hst.sc v hv),⟨?_,?_⟩,hrelW⟩
     ·have:=hst.tm.ag hst.sc hag hng
      exact ⟨this.sm,this.tm,this.gl⟩
     ·show marks Γ1 mk++ca.defers=marks Γ2 (mk++s.df)
      have e1:marks Γ2 (mk++s.df)=marks Γ2 mk++marks Γ2 s.df:=by simp[marks]
      rw[e1,hst.df.1,dG0 hag2 hmk1,dG0 hag hst.df.2]
     ·intro d hd
      simp only[List.mem_append] at hd
      rw[hnx]
      rcases hd with hd|hd
      ·have:=hmk1 d hd;omega
      ·have:=hst.df.2 d hd;omega
    have hbel:Below p.B w W:=(hbel1.trans hbel2).trans hfrW.below
    have hfin : ∀ (e0 : jL), some (e0, ({ tm := s.tm, df := mk ++ s.df, h := jM h2 l { r with state := .exhausted } } : S)) = some (e, s') →
      Q e0.con { ca with defers:=marks Γ1 mk++ca.defers } W:=fun e0 h1=>by
     cases h1
     exact hQ _ _ Γ2 _ _ hlv hag (by rw[hnx];omega) hbel hstn
    refine ⟨_,_,hrunW,?_⟩
    split at he
    ·rename_i hp
     rw[hp]
     exact hfin _ he
    ·rename_i id hp
     rw[hp]
     exact wpIn_exit (hfin _ he)
    ·rename_i tt hp
     rw[hp]
     exact wpIn_goto (hfin _ he)
    ·rename_i hp
     rw[hp]
     exact wpIn_ret (hfin _ he)
    ·cases he
  ·cases he)
 refine ⟨Γ1.b l,marks Γ1 mk,w1,{ target:=.fn (.func f) ((⟨captured⟩:Array Value).map (con Γ1)),args:=#[Value.func (.yield (Γ1.b l)) #[] #[]] },w1,f,⟨(Value.func (.yield l) #[] #[] :: captured).map (con Γ1)⟩,w1,by rw[hro];exact hent1,?_,fun f' _=>hF.fn f',?_,fun hd=>(by rw[hF.depth] at hd;cases hd),?_⟩
 ·simp only[resolve]
  rw[hg0]
  simp[Deferred.ofValue,kG0,Act.eval]
 ·simp only[invoke]
  rw[hargs]
  exact hbd.1
 ·exact hbd2
end
end Go.Ev
