/-
  A part of the proof: conditions over an abstract memory,and that they are enough for what the model's calls do. No condition of its own.
-/
import Derived.CallsIn
import Derived.Laws.Sem
import Derived.OrdersHeld
import Derived.OrdersIn
import Derived.Below
import Derived.WalkKit
import Derived.WalkSpells
import Derived.WalkLawsBesides
import Derived.Laws.BytesString
import Derived.Laws.AppendOwn
import Derived.Laws.MakeOwn
set_option linter.unusedSimpArgs false
set_option linter.unusedVariables false
namespace Go.Ev
open Go
noncomputable section
theorem Z0 {p:Prop}(h:p:=by omega):p:=h
theorem Z1 {p:Prop}(h:p:=by decide):p:=h
theorem Z2 {p:Prop}(h:p:=by first|rfl|omega):p:=h
theorem Z3(n:Nat):n≤n:=Nat.le_refl n
theorem Z4(n:Nat):(n:Int).toNat=n:=Int.toNat_natCast n
theorem Z5(a b:Bool):((a&&b)=true)=(a=true∧b=true):=Bool.and_eq_true a b
abbrev Z6:Type:=Go.Value
abbrev Z8.{u}(α:Type u):Type u:=Option α
abbrev Z9:=Go.Program
abbrev Zt:=Go.TypeId
abbrev Zu:=UInt8
abbrev Zw:=Go.World
abbrev Zb:=Bool
abbrev Zo:=Go.Operand
structure jV where
 o:Obj
 more:Zb
def kD (c:Nat)(e:Zt)(cs:List Z6):jV:=⟨.pending ⟨.pointer (some ⟨c,0,none⟩) :: cs⟩ e,true⟩
def notL (x:jV):Zb:=match x.o with | .pending ..=>false|_=>true
inductive Tr where
 | nil
 | node (l:Tr) (v:Z8 jV) (r:Tr)
def Tr.get (t:Tr):Nat→Z8 jV:=
 Tr.rec (motive:=λ_=>Nat→Z8 jV) (λ_=>none)
  (λ_ v _ gl gr i=>Nat.rec (motive:=λ_=>Z8 jV) v (λj _=>Bool.rec (motive:=λ_=>Z8 jV) (gr (Nat.div j 2)) (gl (Nat.div j 2)) (Nat.beq (Nat.mod j 2) 0)) i) t
def Tr.go (i:Nat)(x:jV)(f:Tr→Nat→Tr)(l:Tr)(v:Z8 jV)(r:Tr):Tr:=
 Nat.rec (motive:=λ_=>Tr) (.node l (some x) r) (λj _=>Bool.rec (motive:=λ_=>Tr) (.node l v (f r (Nat.div j 2))) (.node (f l (Nat.div j 2)) v r) (Nat.beq (Nat.mod j 2) 0)) i
def Tr.set (n:Nat)(t:Tr)(i:Nat)(x:jV):Tr:=
 Nat.rec (motive:=λ_=>Tr→Nat→Tr) (λt _=>t)
  (λ_ f t i=>Tr.rec (motive:=λ_=>Tr) (Tr.go i x f .nil none .nil) (λl v r _ _=>Tr.go i x f l v r) t) n t i
def Tr.put (t:Tr)(i:Nat)(x:jV):Tr:=Tr.set (Nat.succ i) t i x
structure jB where
 t:Tr
 next:Nat
 lo:Nat
inductive VTr where
 | nil
 | node (l:VTr) (v:Z6) (r:VTr)
def VTr.get (t:VTr):Nat→Z6:=
 VTr.rec (motive:=λ_=>Nat→Z6) (λ_=>undef)
  (λ_ v _ gl gr i=>Nat.rec (motive:=λ_=>Z6) v (λj _=>Bool.rec (motive:=λ_=>Z6) (gr (Nat.div j 2)) (gl (Nat.div j 2)) (Nat.beq (Nat.mod j 2) 0)) i) t
def VTr.go (i:Nat)(x:Z6)(f:VTr→Nat→VTr)(l:VTr)(v:Z6)(r:VTr):VTr:=
 Nat.rec (motive:=λ_=>VTr) (.node l x r) (λj _=>Bool.rec (motive:=λ_=>VTr) (.node l v (f r (Nat.div j 2))) (.node (f l (Nat.div j 2)) v r) (Nat.beq (Nat.mod j 2) 0)) i
def VTr.set (n:Nat)(t:VTr)(i:Nat)(x:Z6):VTr:=
 Nat.rec (motive:=λ_=>VTr→Nat→VTr) (λt _=>t)
  (λ_ f t i=>VTr.rec (motive:=λ_=>VTr) (VTr.go i x f .nil undef .nil) (λl v r _ _=>VTr.go i x f l v r) t) n t i
structure VT where
 sz:Nat
 t:VTr
def VT.get (T:VT)(i:Nat):Z6:=VT.rec (motive:=λ_=>Z6) (λsz t=>Bool.rec (motive:=λ_=>Z6) undef (t.get i) (Nat.ble (Nat.succ i) sz)) T
def VT.set (T:VT)(i:Nat)(v:Z6):VT:=VT.rec (motive:=λ_=>VT) (λsz t=>Bool.rec (motive:=λ_=>VT) ⟨sz,t⟩ ⟨sz,t.set 60 i v⟩ (Nat.ble (Nat.succ i) sz)) T
def VT.fill:VTr→Nat→List Z6→VTr
 | t,_,[]=>t
 | t,i,v :: vs=>VT.fill (t.set 60 i v) (i+1) vs
def VT.of (l:List Z6)(n:Nat):VT:=⟨l.length+(n-l.length),VT.fill .nil 0 l⟩
def VT.arr (T:VT):Array Z6:=⟨(List.range T.sz).map T.t.get⟩
structure S where
 tm:VT
 df:List Nat
 h:jB
def jB.get (h:jB)(i:Nat):Z8 jV:=h.t.get i
def jB.put (h:jB)(i:Nat)(x:jV):jB:=match h with|⟨t,n,lo⟩=>⟨t.put i x,n,lo⟩
def jB.new (h:jB)(x:jV):Nat×jB:=match h with|⟨t,n,lo⟩=>match n with|0=>(0,⟨t.put 0 x,1,lo⟩)|m+1=>(m+1,⟨t.put (m+1) x,m+2,lo⟩)
@[irreducible] def U:Nat:=100000000000000
@[irreducible] def UC:Nat:=1152921504606846976
mutual
def flat:Z6→Zb
 | .pointer a=>a.isNone
 | .slice a _ _=>a.isNone
 | .map r=>r.isNone
 | .chan _=>false
 | .float _ _=>false
 | .func (.func _) ⟨f⟩ ⟨c⟩=>qT f&&qT c
 | .func _ _ _=>false
 | .iface _ v=>flat v
 | .agg ⟨cs⟩=>qT cs
 | .tuple ⟨vs⟩=>qT vs
 | _=>true
def qT:List Z6→Zb
 | []=>true
 | v :: vs=>flat v&&qT vs
end
def scA (n:Nat)(a:Addr):Zb:=Nat.blt a.block n
mutual
def sc (n:Nat):Z6→Zb
 | .pointer (some a)=>scA n a
 | .slice (some a) _ _=>scA n a
 | .map (some r)=>Nat.blt r n
 | .chan _=>false
 | .func (.func _) ⟨f⟩ ⟨c⟩=>scL n f&&scL n c
 | .func (.yield l) ⟨f⟩ ⟨c⟩=>Nat.blt l n&&scL n f&&scL n c
 | .func _ _ _=>false
 | .iface _ v=>sc n v
 | .agg ⟨cs⟩=>scL n cs
 | .tuple ⟨vs⟩=>scL n vs
 | _=>true
def scL (n:Nat):List Z6→Zb
 | []=>true
 | v :: vs=>sc n v&&scL n vs
end
def fscP (n:Nat)(a:Z8 Addr):Zb:=Option.rec (motive:=λ_=>Zb) true (λa=>Addr.rec (motive:=λ_=>Zb) (λb _ _=>Nat.ble (Nat.succ b) n) a) a
def fsc1 (n:Nat)(v:Z6):Zb:=
 Value.casesOn v (λ_=>true) (λ_ _=>true) (λ_ _=>true) (λ_ _ _=>true) (λ_=>true) (fscP n) (λa _ _=>fscP n a) (λr=>sc n (.map r)) (λ_=>false)
  (λf a b=>sc n (.func f a b)) true (λt v=>sc n (.iface t v)) true (λa=>sc n (.agg a)) (λa=>sc n (.tuple a))
def fscL (n:Nat)(l:List Z6):Zb:=List.rec (motive:=λ_=>Zb) true (λv _ ih=>Bool.rec (motive:=λ_=>Zb) false ih (fsc1 n v)) l
def fone (n:Nat)(v:Z6):Zb:=
 Value.casesOn v (λ_=>true) (λ_ _=>true) (λ_ _=>true) (λ_ _ _=>true) (λ_=>true) (fscP n) (λa _ _=>fscP n a) (λr=>sc n (.map r)) (λ_=>false)
  (λf a b=>sc n (.func f a b)) true (λt v=>sc n (.iface t v)) true (λ_=>false) (λ_=>false)
def jT (n:Nat)(l:List Z6):Zb:=List.rec (motive:=λ_=>Zb) true (λv _ ih=>Bool.rec (motive:=λ_=>Zb) false ih (fone n v)) l
def fsc (n:Nat)(v:Z6):Zb:=
 Value.casesOn v (λ_=>true) (λ_ _=>true) (λ_ _=>true) (λ_ _ _=>true) (λ_=>true) (fscP n) (λa _ _=>fscP n a) (λr=>sc n (.map r)) (λ_=>false)
  (λf a b=>sc n (.func f a b)) true (λt v=>sc n (.iface t v)) true (λa=>fscL n a.toList) (λa=>fscL n a.toList)
def pv {α:Type}(P:Z9):Sem α→Z8 α
 | .pure a=>some a
 | .program k=>pv P (k P)
 | .mark _ k=>pv P k
 | _=>none
def evG (g:Nat):Z6:=.pointer (some ⟨g,0,none⟩)
def evF (f:FuncId):Z6:=.func (.func f) #[] #[]
def ev (tm:VT)(o:Zo):Z6:=Operand.rec (motive:=λ_=>Z6) (VT.get tm) (λv=>v) evG evF o
def cells (h:jB)(i:Nat):Z8 (List Z6×Zt×Zb):=
 match h.get i with
 | some ⟨.cells ⟨cs⟩ e _,m⟩=>some (cs,e,m)
 | _=>none
def beqB:List Zu→List Zu→Zb
 | [],[]=>true
 | x :: xs,y :: ys=>match Nat.beq x.toNat y.toNat with | true=>beqB xs ys | false=>false
 | _,_=>false
def gM0 (P:Z9)(t:Zt):Z8 Zb:=
 match P.underlying t with
 | some (.struct _) | some (.array _ _)=>some true
 | some _=>some false
 | none=>none
def szT (P:Z9)(t:Zt):Z8 Nat:=
 match P.info? t with
 | some i=>some i.size
 | none=>none
def qJ0 (NG:Nat):Zo→Zb
 | .const v=>flat v
 | .global g=>Nat.blt g NG
 | _=>true
def jY0 (NG:Nat)(o:Oper):Zb:=o.op.operands.all (qJ0 NG)&&(match o.op with | .defer _=>false | .select _ _=>false|_=>true)
def qR (NG:Nat):Code→Zb
 | .region _ ops _=>ops.all (jY0 NG)
 | .seq a b=>qR NG a&&qR NG b
 | .cond c a b=>qJ0 NG c&&qR NG a&&qR NG b
 | .block _ b=>qR NG b
 | .loop b=>qR NG b
 | .rangeFunc f _ a b=>qJ0 NG f&&qR NG a&&qR NG b
 | .scope b=>qR NG b
 | _=>true
def lN0 (NG : Nat) (fn : Func) : Bool := match fn.body with | some c => qR NG c && fn.name != "runtime.NumGoroutine" | none => true
def pvF (P:Z9)(s:Sem Z6)(x:Zb):Z8 Z6:=
 match x with
 | true=>match pv P s with
  | some v=>match flat v with | true=>some v | false=>none
  | none=>none
 | false=>none
def jF (P:Z9)(op:BinOp)(t:Zt)(x y:Zo)(a b:Z6):Z8 Z6:=
 match op,a,b with
 | .eql,.string s,.string u=>some (.bool (beqB s.data.toList u.data.toList))
 | .neq,.string s,.string u=>some (.bool (!beqB s.data.toList u.data.toList))
 | .eql,.slice u _ _,.slice none _ _=>match P.underlying t with | some (.slice _)=>some (.bool u.isNone) | _=>none
 | .neq,.slice u _ _,.slice none _ _=>match P.underlying t with | some (.slice _)=>some (.bool (!u.isNone)) | _=>none
 | .eql,.pointer u,.pointer none=>match P.underlying t with | some (.pointer _)=>some (.bool u.isNone) | _=>none
 | .neq,.pointer u,.pointer none=>match P.underlying t with | some (.pointer _)=>some (.bool (!u.isNone)) | _=>none
 | .eql,.map u,.map none=>match P.underlying t with | some (.map _ _)=>some (.bool u.isNone) | _=>none
 | .neq,.map u,.map none=>match P.underlying t with | some (.map _ _)=>some (.bool (!u.isNone)) | _=>none
 | _,_,_=>pvF P (do eqGuard op t x y a b;binOp op t a b) (flat a&&flat b)
def bounds (len top:Nat)(mx hi lo:Z8 Z6):Z8 (Nat×Nat×Z8 Nat):=
 match (match mx with|none=>some none|some (.int _ (.ofNat m))=>(match Nat.ble m top with|true=>some (some m)|false=>none)|some _=>none:Z8 (Z8 Nat)) with
 | none=>none
 | some m=>
  match (match hi,m with
   | none,none=>some len
   | none,some _=>none
   | some (.int _ (.ofNat h)),none=>(match Nat.ble h top with | true=>some h | false=>none)
   | some (.int _ (.ofNat h)),some m=>(match Nat.ble h m with | true=>some h | false=>none)
   | some _,_=>none:Z8 Nat) with
  | none=>none
  | some h=>match (match lo with
   | none=>some 0
   | some (.int _ (.ofNat l))=>(match Nat.ble l h with | true=>some l | false=>none)
   | some _=>none:Z8 Nat) with
   | none=>none
   | some l=>some (l,h,m)
def kC (P:Z9)(t:Zt)(a:Z8 Addr)(len cap:Nat)(lo hi mx:Z8 Z6):Z8 Z6:=
 match P.underlying t with
 | some (.slice e)=>match szT P e,Nat.blt cap UC with
  | some size,true=>match bounds len cap mx hi lo with
   | some (l,h,m)=>
    let m:=m.getD cap
    match Nat.beq m l with
    | true=>some (.slice a (h-l) (m-l))
    | false=>some (.slice (a.map (·.add (l*size))) (h-l) (m-l))
   | none=>none
  | _,_=>none
 | _=>none
def qD0 (n:Nat)(l:List Z6):Z8 (List Z6):=
 Nat.rec (motive:=λ_=>List Z6→Z8 (List Z6)) (λ_=>some [])
  (λ_ f l=>List.rec (motive:=λ_=>Z8 (List Z6)) none (λv r _=>Option.rec (motive:=λ_=>Z8 (List Z6)) none (λx=>some (v :: x)) (f r)) l) n l
def yI0 (n:Nat)(l:List Z6):Z8 (List Z6):=
 Nat.rec (motive:=λ_=>List Z6→Z8 (List Z6)) some
  (λ_ f l=>List.rec (motive:=λ_=>Z8 (List Z6)) none (λ_ r _=>f r) l) n l
def kR0 (vs cs:List Z6):Z8 (List Z6):=
 List.rec (motive:=λ_=>List Z6→Z8 (List Z6)) some
  (λv _ f cs=>List.rec (motive:=λ_=>Z8 (List Z6)) none (λ_ r _=>Option.rec (motive:=λ_=>Z8 (List Z6)) none (λx=>some (v :: x)) (f r)) cs) vs cs
def setE (n:Nat)(vs cs:List Z6):Z8 (List Z6):=
 Nat.rec (motive:=λ_=>List Z6→Z8 (List Z6)) (kR0 vs)
  (λ_ f cs=>List.rec (motive:=λ_=>Z8 (List Z6)) none (λv r _=>Option.rec (motive:=λ_=>Z8 (List Z6)) none (λx=>some (v :: x)) (f r)) cs) n cs
def qW0 (P:Z9)(t:Zt)(a:Addr)(lo hi mx:Z8 Z6):Z8 Z6:=
 match P.underlying t with
 | some (.array n e)=>match szT P e,Nat.blt n U with
  | some size,true=>match bounds n n mx hi lo with
   | some (l,h,m)=>
    let m:=m.getD n
    match Nat.beq m l with
    | true=>some (.slice (some a) (h-l) (m-l))
    | false=>some (.slice (some (a.add (l*size))) (h-l) (m-l))
   | none=>none
  | _,_=>none
 | _=>none
def kP0 (P:Z9)(t:Zt)(cs:List Z6)(off:Nat):Z8 Z6:=
 match gM0 P t with
 | some true=>match szT P t with
  | some n=>match yI0 off cs with
   | some l=>match qD0 n l with
    | some l=>some (.agg ⟨l⟩)
    | none=>none
   | none=>none
  | none=>none
 | some false=>cs[off]?
 | none=>none
def placesOf (P:Z9):List Field→Z8 (List (Nat×Nat))
 | []=>some []
 | f :: fs=>match szT P f.type,placesOf P fs with
  | some n,some l=>some ((f.offset,n) :: l)
  | _,_=>none
def jJ (cs:List Z6)(off:Nat)(vs:List Z6):List Z6:=cs.take off++vs++cs.drop (off+vs.length)
def zT0 (place:Nat→Z8 (Nat×Nat)):List Z6→List (Nat×Z6)→Z8 (List Z6)
 | cs,[]=>some cs
 | cs,(i,v) :: rest=>match place i with
  | none=>none
  | some (off,size)=>
   match Nat.beq v.cells.size size with
   | true=>match setE off v.cells.toList cs with
    | some cs'=>zT0 place cs' rest
    | none=>none
   | false=>none
def zN0 (P:Z9)(t:Zt)(parts:List (Nat×Z6)):Z8 Z6:=
 match P.info? t with
 | none=>none
 | some i=>match i.zero with
  | none=>none
  | some z=>match flat z,P.underlying t with
   | true,some (.struct fs)=>match placesOf P fs.toList with
    | some pl=>match zT0 (λi=>pl[i]?) z.cells.toList parts with
     | some cs=>some (.agg ⟨cs⟩)
     | none=>none
    | none=>none
   | true,some (.array _ e)=>match szT P e with
    | some n=>match zT0 (λi=>some (i*n,n)) z.cells.toList parts with
     | some cs=>some (.agg ⟨cs⟩)
     | none=>none
    | none=>none
   | _,_=>none
def bB (P:Z9)(o:Oper)(tm:VT):Z8 Z6:=
 match o.op with
 | .move x=>some (ev tm x)
 | .assign x=>some (ev tm x)
 | .pick c a b=>match ev tm c with | .bool true=>some (ev tm a) | .bool false=>some (ev tm b) | _=>none
 | .extract t i=>match ev tm t with | .tuple vs=>vs[i]? | _=>none
 | .binOp op t x y _=>jF P op t x y (ev tm x) (ev tm y)
 | .unOp op _ x=>pvF P (Op.unary op (ev tm x)) (flat (ev tm x))
 | .convert s d x=>pvF P (convert s d (ev tm x)) (flat (ev tm x))
 | .fieldAddr s x f=>match P.underlying s,ev tm x with
  | some (.struct fs),.pointer (some a)=>match fs[f]? with
   | some fl=>match szT P fl.type with
    | some (_+1)=>some (.pointer (some (a.add fl.offset)))
    | _=>none
   | none=>none
  | _,_=>none
 | .field t x f=>match P.underlying t,ev tm x with
  | some (.struct fs),.agg cs=>match fs[f]? with
   | some fl=>kP0 P fl.type cs.toList fl.offset
   | none=>none
  | _,_=>none
 | .indexAddr t x i=>match P.underlying t,ev tm x,ev tm i with
  | some (.slice e),.slice (some a) len _,.int _ (.ofNat n)=>match Nat.blt n len,szT P e with
   | true,some size=>some (.pointer (some (a.add (n*size))))
   | _,_=>none
  | some (.array len e),.pointer (some a),.int _ (.ofNat n)=>match Nat.blt n len,szT P e with
   | true,some size=>some (.pointer (some (a.add (n*size))))
   | _,_=>none
  | _,_,_=>none
 | .index t x i=>match ev tm x,ev tm i with
  | .string s,.int k n=>pvF P (Instr.index t (.string s) (.int k n)) true
  | .agg cs,.int _ (.ofNat n)=>match P.underlying t with
   | some (.array len e)=>match Nat.blt n len,szT P e with
    | true,some size=>kP0 P e cs.toList (n*size)
    | _,_=>none
   | _=>none
  | _,_=>none
 | .slice t x lo hi mx=>match ev tm x with
  | .string s=>pvF P (Instr.sliceAt t (.string s) (lo.map (ev tm)) (hi.map (ev tm)) (mx.map (ev tm))) ((lo.map (ev tm)).all flat&&(hi.map (ev tm)).all flat&&(mx.map (ev tm)).all flat)
  | .slice a n c=>kC P t a n c (lo.map (ev tm)) (hi.map (ev tm)) (mx.map (ev tm))
  | .pointer (some a)=>qW0 P t a (lo.map (ev tm)) (hi.map (ev tm)) (mx.map (ev tm))
  | _=>none
 | .build t parts=>zN0 P t (parts.toList.map λ(i,x)=>(i,ev tm x))
 | .makeFunc (.func g) f c=>some (.func (.func g) (f.map (ev tm)) (c.map (ev tm)))
 | .makeInterface t x=>match P.underlying t with
  | some (.interface _)=>none
  | some _=>some (.iface t (ev tm x))
  | none=>none
 | .nilCheck x=>match ev tm x with
  | .pointer (some a)=>some (.pointer (some a))
  | .func (.func g) f c=>some (.func (.func g) f c)
  | _=>none
 | .call { callee:=.builtin .len,args,argTypes }=>
  match args[0]?,argTypes[0]? with
  | some x,some t=>match P.underlying t,ev tm x with
   | some .string,.string s=>some (goInt s.size)
   | some (.slice _),.slice _ n _=>some (goInt n)
   | _,_=>none
  | _,_=>none
 | .call { callee:=.builtin .min,args,argTypes }=>pvF P (Builtin.min_ argTypes o.type (args.map (ev tm))) (qT (args.map (ev tm)).toList)
 | .call { callee:=.builtin .max,args,argTypes }=>pvF P (Builtin.max_ argTypes o.type (args.map (ev tm))) (qT (args.map (ev tm)).toList)
 | _=>none
def takeN (cs:List Z6)(off n:Nat):Z8 (List Z6):=Option.rec (motive:=λ_=>Z8 (List Z6)) none (qD0 n) (yI0 off cs)
def setN (cs:List Z6)(off:Nat)(vs:List Z6):Z8 (List Z6):=setE off vs cs
def one (v:Z6):Zb:=match v with | .agg _=>false | .tuple _=>false|_=>true
def bC (h:jB)(e:Zt)(cs:List Z6)(more:Zb):Z8 (Nat×jB):=
 match jT h.next cs with
 | true=>some (h.new ⟨.cells ⟨cs⟩ e,more⟩)
 | false=>none
def seen (lo b:Nat)(v:Z6):Z8 Z6:=Bool.rec (motive:=λ_=>Z8 Z6) (Bool.rec (motive:=λ_=>Z8 Z6) none (some v) (fsc lo v)) (some v) (Nat.ble lo b)
def jA (P:Z9)(t:Zt)(a:Z6)(h:jB):Z8 Z6:=
 match a with
 | .pointer (some ⟨b,off,none⟩)=>match cells h b with
  | some (cs,_,_)=>match gM0 P t with
   | some true=>match szT P t with
    | some n=>match takeN cs off n with
     | some l=>seen h.lo b (.agg ⟨l⟩)
     | none=>none
    | none=>none
   | some false=>match cs[off]? with
    | some v=>seen h.lo b v
    | none=>none
   | none=>none
  | none=>none
 | _=>none
def yF0 (P:Z9)(t:Zt)(a:Z6)(v:Z6)(h:jB):Z8 jB:=
 match a with
 | .pointer (some ⟨b,off,none⟩)=>match cells h b,szT P t with
  | some (cs,e,m),some n=>match Nat.beq v.cells.size n&&jT h.next v.cells.toList&&Nat.ble h.lo b with
   | true=>match setN cs off v.cells.toList with
    | some cs'=>some (h.put b ⟨.cells ⟨cs'⟩ e,m⟩)
    | none=>none
   | false=>none
  | _,_=>none
 | _=>none
def kL (size n:Nat)(x:Z6)(h:jB):Z8 (List Z6):=
 match x with
 | .slice a _ _=>match n with
  | 0=>some []
  | n+1=>match a with
   | some ⟨b,off,none⟩=>match cells h b with
    | some (cs,_,_)=>match takeN cs off ((n+1)*size) with
     | some l=>Bool.rec (motive:=λ_=>Z8 (List Z6)) (Bool.rec (motive:=λ_=>Z8 (List Z6)) none (some l) (jT h.lo l)) (some l) (Nat.ble h.lo b)
     | none=>none
    | none=>none
   | _=>none
 | .string s=>match Nat.beq n s.size&&Nat.beq size 1 with
  | true=>some (s.data.toList.map λb=>.int .u8 b.toNat)
  | false=>none
 | _=>none
def lenV:Z6→Z8 Nat
 | .slice _ n _=>some n
 | .string s=>some s.size
 | _=>none
def zV0 (e:Zt)(size n cap m:Nat)(base:Z8 Addr)(new:List Z6)(h:jB):Z8 (Z6×jB):=
 match base with
 | some ⟨b,off,none⟩=>match cells h b with
  | some (cs,e',true)=>match Nat.beq e' e&&Nat.ble UC cap&&Nat.beq off ((cap-UC)*size)&&Nat.blt 0 size&&Nat.blt (off+n*size) cs.length&&Nat.ble (off+(n+m)*size) cs.length&&Nat.ble h.lo b with
   | true=>match setN cs (off+n*size) new with
    | some cs'=>some (.slice (some ⟨b,off,none⟩) (n+m) cap,h.put b ⟨.cells ⟨cs'⟩ e',true⟩)
    | none=>none
   | false=>none
  | _=>none
 | _=>none
def jE (P:Z9)(sT xT:Zt)(s x:Z6)(h:jB):Z8 (Z6×jB):=
 match P.underlying sT,s,lenV x with
 | some (.slice e),.slice base n cap,some m=>
  match (match P.underlying xT with|some (.int _)=>none|none=>none|some _=>P.info? e) with
  | none=>none
  | some i=>
   let size:=i.size
   match kL size m x h with
   | none=>none
   | some new=>
    match Nat.blt cap UC with
    | true=>match Nat.ble (n+m) cap with
     | true=>match base with
      | none=>match new with | []=>some (.slice none (n+m) cap,h) | _=>none
      | some ⟨b,off,sp⟩=>match m with
       | 0=>some (.slice base (n+0) cap,h)
       | m+1=>match sp with
       | none=>match cells h b with
        | some (cs,e',mo)=>match Nat.ble h.lo b,setN cs (off+n*size) new with
         | true,some cs'=>some (.slice base (n+(m+1)) cap,h.put b ⟨.cells ⟨cs'⟩ e',mo⟩)
         | _,_=>none
        | none=>none
       | some _=>none
     | false=>match kL size n s h,(Nat.ble ((n+m)*i.bytes) 140737488355328&&Nat.blt (n+m) U),i.zero with
      | some old,true,some z=>match Nat.beq z.cells.size size&&Nat.blt 0 size with
       | true=>match bC h e (old++new) true with
        | some (b,h')=>some (.slice (some ⟨b,0,none⟩) (n+m) UC,h')
        | none=>none
       | false=>none
      | _,_,_=>none
    | false=>match zV0 e size n cap m base new h with
     | some r=>some r
     | none=>match base with
     | some ⟨b,0,none⟩=>match cells h b with
      | some (cs,e',true)=>match Nat.beq e' e&&Nat.beq cap UC&&Nat.ble h.lo b&&Nat.beq cs.length (n*size)&&(Nat.ble ((n+m)*i.bytes) 140737488355328&&Nat.blt (n+m) U),i.zero with
       | true,some z=>match Nat.beq z.cells.size size&&Nat.blt 0 size&&jT h.next new with
        | true=>some (.slice (some ⟨h.next,0,none⟩) (n+m) UC,{ t:=(h.t.put h.next ⟨.cells ⟨cs++new⟩ e,true⟩).put b (kD h.next e cs),next:=h.next+1,lo:=h.lo })
        | false=>none
       | _,_=>none
      | _=>none
     | _=>none
 | _,_,_=>none
def gS0 (P:Z9)(t:Zt)(l c:Z6)(h:jB):Z8 (Z6×jB):=
 match P.underlying t,l,c with
 | some (.slice e),.int _ (.ofNat l),.int _ (.ofNat c)=>
  match P.info? e with
  | some i=>match Nat.ble l c&&Nat.blt (c*i.bytes+c) U,i.zero with
   | true,some z=>match Nat.beq z.cells.size i.size&&Nat.blt 0 i.size&&qT z.cells.toList with
    | true=>match bC h e (List.replicate c z.cells.toList).flatten false with
     | some (b,h')=>some (.slice (some ⟨b,0,none⟩) l c,h')
     | none=>none
    | false=>none
   | _,_=>none
  | none=>none
 | _,_,_=>none
def zeroOf (P:Z9)(t:Zt):Z8 Z6:=match P.info? t with|some i=>i.zero|none=>none
def kB (P:Z9)(t:Zt)(a:Z8 Addr)(len cap:Nat)(lo hi mx:Z8 Z6)(h:jB):Z8 Z6:=
 match P.underlying t,a with
 | some (.slice e),some ⟨b,off,none⟩=>match szT P e,cells h b with
  | some size,some (cs,e',true)=>match Nat.beq e' e&&Nat.ble UC cap&&Nat.beq off ((cap-UC)*size)&&Nat.blt 0 size&&Nat.ble (off+len*size) cs.length&&Nat.blt len U with
   | true=>match bounds len len mx hi lo with
    | some (l,h,m)=>match m with
     | some m=>match Nat.beq m l with
      | true=>some (.slice (some ⟨b,off,none⟩) (h-l) (m-l))
      | false=>some (.slice (some ((⟨b,off,none⟩:Addr).add (l*size))) (h-l) (m-l))
     | none=>match Nat.blt l len with
      | true=>some (.slice (some ((⟨b,off,none⟩:Addr).add (l*size))) (h-l) (cap+l))
      | false=>none
    | none=>none
   | false=>none
  | _,_=>none
 | _,_=>none
def gS (P:Z9)(t:Zt)(a:Z8 Addr)(len cap:Nat)(lo hi mx:Z8 Z6)(h:jB):Z8 Z6:=
 match P.underlying t,a with
 | some (.slice e),some ⟨b,off,none⟩=>match szT P e,cells h b with
  | some size,some (cs,e',true)=>match Nat.beq e' e&&Nat.ble UC cap&&Nat.beq off ((cap-UC)*size)&&Nat.blt 0 size&&Nat.ble (off+len*size) cs.length&&Nat.blt (Nat.div (cs.length-off) size) U with
   | true=>match bounds len (Nat.div (cs.length-off) size) mx hi lo with
    | some (l, h, none) => match Nat.blt len h && Nat.blt l (Nat.div (cs.length - off) size) with
      | true=>some (.slice (some ((⟨b,off,none⟩:Addr).add (l*size))) (h-l) (cap+l))
      | false=>none
    | _=>none
   | false=>none
  | _,_=>none
 | _,_=>none
def bytesOf:List Z6→Z8 (List Zu)
 | []=>some []
 | .int .u8 n :: vs=>match bytesOf vs with | some l=>some (UInt8.ofNat n.toNat :: l) | none=>none
 | _ :: _=>none
def dataRead (P:Z9)(v:Z6)(h:jB):Z8 Z6:=
 match v with
 | .slice none _ _=>some (.pointer none)
 | .slice (some ⟨b,off,none⟩) _ c=>match Nat.blt c UC with
  | true=>match c with
   | 0=>none
   | _+1=>some (.pointer (some ⟨b,off,none⟩))
  | false=>match cells h b with
   | some (cs,e,true)=>match szT P e with
    | some size=>match Nat.blt 0 size&&Nat.blt ((c-UC)*size) cs.length with
     | true=>some (.pointer (some ⟨b,off,none⟩))
     | false=>none
    | none=>none
   | _=>none
 | _=>none
def mapOf (h:jB)(r:Nat):Z8 (List MapEntry×Nat):=
 match h.get r with
 | some ⟨.map ⟨es⟩ c,_⟩=>match Nat.ble h.lo r with | true=>some (es,c) | false=>none
 | _=>none
def bD (P:Z9)(kt:Zt)(k:Z6):Zb:=
 match P.underlying kt,k with
 | some (.int _),.int _ _=>true
 | some .string,.string _=>true
 | _,_=>false
def wS0 (a b:Z6):Z8 Zb:=
 match a,b with
 | .int k a,.int j b=>match decide (k=j) with | true=>some (decide (a=b)) | false=>none
 | .string a,.string b=>some (beqB a.data.toList b.data.toList)
 | _,_=>none
def bQ (k:Z6):List MapEntry→Nat→Z8 (Z8 (Nat×Z6))
 | [],_=>some none
 | e :: es,i=>match wS0 k e.key with
  | some true=>some (some (i,e.val))
  | some false=>bQ k es (i+1)
  | none=>none
def modE (k x:Z6):List MapEntry→Nat→List MapEntry
 | [],_=>[]
 | e :: es,0=>⟨k,x,e.born⟩ :: es
 | e :: es,i+1=>e :: modE k x es i
def delE:List MapEntry→Nat→List MapEntry
 | [],_=>[]
 | _ :: es,0=>es
 | e :: es,i+1=>e :: delE es i
def gV0 (m:Z6)(h:jB):Z8 (List MapEntry):=
 match m with
 | .map none=>some []
 | .map (some r)=>match mapOf h r with | some (es,_)=>some es | none=>none
 | _=>none
def okV2 (ok:Zb)(v:Z6)(b:Zb):Z6:=match ok with|true=>.tuple #[v,.bool b]|false=>v
def qG (P:Z9)(t:Zt)(x i:Z6)(ok:Zb)(h:jB):Z8 Z6:=
 match P.underlying t with
 | some (.map kt et)=>match bD P kt i,gV0 x h with
  | true,some es=>match bQ i es 0 with
   | some (some (_,v))=>some (okV2 ok v true)
   | some none=>match zeroOf P et with
    | some z=>match flat z with | true=>some (okV2 ok z false) | false=>none
    | none=>none
   | none=>none
  | _,_=>none
 | _=>none
def fK0:List Nat→Z8 Nat
 | []=>none
 | [x]=>some x
 | _ :: l=>fK0 l
def iJ0 (n:Nat):List MapEntry→Z8 MapEntry
 | []=>none
 | e :: es=>match Nat.beq e.born n with | true=>some e | false=>iJ0 n es
def jN0 (it:Z6)(h:jB):Z8 Z6:=
 match it with
 | .pointer (some ⟨b,0,none⟩)=>match h.get b,Nat.ble h.lo b with
  | some ⟨.mapIter (some m) _ ⟨seen⟩ last,_⟩,true=>match mapOf h m,fK0 seen with
   | some (es,c),some n=>match Nat.beq c last,iJ0 n es with
    | true,some e=>some (.tuple #[e.key,e.val])
    | _,_=>none
   | _,_=>none
  | _,_=>none
 | _=>none
def fI0 (P:Z9)(o:Oper)(tm:VT)(h:jB):Z8 Z6:=
 match o.op with
 | .lookup t x i ok=>qG P t (ev tm x) (ev tm i) ok h
 | .entry it=>jN0 (ev tm it) h
 | _=>none
def qA0 (h:jB)(r:Nat)(es:List MapEntry)(c:Nat):jB:=h.put r ⟨.map ⟨es⟩ c,false⟩
def uZ0 (P:Z9)(t:Zt)(m k x:Z6)(h:jB):Z8 (Z6×jB):=
 match P.underlying t,m with
 | some (.map kt _),.map (some r)=>match bD P kt k&&fsc h.next x,mapOf h r with
  | true,some (es,c)=>match bQ k es 0 with
   | some (some (i,_))=>some (undef,qA0 h r (modE k x es i) c)
   | some none=>some (undef,qA0 h r (es++[⟨k,x,c⟩]) (c+1))
   | none=>none
  | _,_=>none
 | _,_=>none
def uI0 (P:Z9)(t:Zt)(m k:Z6)(h:jB):Z8 (Z6×jB):=
 match P.underlying t with
 | some (.map kt _)=>match bD P kt k,m with
  | true,.map none=>some (.tuple #[],h)
  | true,.map (some r)=>match mapOf h r with
   | some (es,c)=>match bQ k es 0 with
    | some (some (i,_))=>some (.tuple #[],qA0 h r (delE es i) c)
    | some none=>some (.tuple #[],qA0 h r es c)
    | none=>none
   | none=>none
  | _,_=>none
 | _=>none
def rW0 (P:Z9)(e:Zt)(b off n:Nat)(h:jB):Z8 (Z6×jB):=
 match cells h b,zeroOf P e with
 | some (cs,t,m),some z=>match qT z.cells.toList&&z.cells.toList.all one&&Nat.ble h.lo b with
  | true=>match setN cs off (List.replicate n z.cells.toList).flatten with
   | some cs'=>some (.tuple #[],h.put b ⟨.cells ⟨cs'⟩ t,m⟩)
   | none=>none
  | false=>none
 | _,_=>none
def kS (P:Z9)(t:Zt)(m:Z6)(h:jB):Z8 (Z6×jB):=
 match P.underlying t with
 | some (.slice e)=>match m with
  | .slice none _ _=>some (.tuple #[],h)
  | .slice (some ⟨b,off,none⟩) n _=>match n with
   | 0=>some (.tuple #[],h)
   | n+1=>rW0 P e b off (n+1) h
  | _=>none
 | some (.map _ _)=>match m with
  | .map none=>some (.tuple #[],h)
  | .map (some r)=>match mapOf h r with
   | some (_,c)=>some (.tuple #[],qA0 h r [] c)
   | none=>none
  | _=>none
 | _=>none
def gK0 (P:Z9)(t:Zt)(r:Z8 Z6)(h:jB):Z8 (Z6×jB):=
 match P.underlying t,r with
 | some (.map _ _),none=>some (.map (some h.next),(h.new ⟨.map ⟨[]⟩ 0,false⟩).2)
 | _,_=>none
def mapRange (x:Z6)(h:jB):Z8 (Z6×jB):=
 match x with
 | .map none=>some (.pointer (some ⟨h.next,0,none⟩),(h.new ⟨.mapIter none 0 #[] 0,false⟩).2)
 | .map (some m)=>match mapOf h m with
  | some (_,c)=>some (.pointer (some ⟨h.next,0,none⟩),(h.new ⟨.mapIter (some m) c #[] c,false⟩).2)
  | none=>none
 | _=>none
def memN (n:Nat):List Nat→Zb
 | []=>false
 | x :: l=>match Nat.beq x n with | true=>true | false=>memN n l
def gZ (seen:List Nat):List MapEntry→List MapEntry
 | []=>[]
 | e :: es=>match memN e.born seen with | true=>gZ seen es | false=>e :: gZ seen es
def oldE (since:Nat):List MapEntry→List MapEntry
 | []=>[]
 | e :: es=>match Nat.blt e.born since with | true=>e :: oldE since es | false=>oldE since es
def newE (since:Nat):List MapEntry→List MapEntry
 | []=>[]
 | e :: es=>match Nat.blt e.born since with | true=>newE since es | false=>e :: newE since es
def yR0 (last:Nat):List MapEntry→Zb
 | []=>false
 | e :: es=>match Nat.blt e.born last with | true=>true | false=>yR0 last es
def endE {α:Type}(old:List MapEntry)(x:α):List α:=match old with|[]=>[x]|_ :: _=>[]
def jI0 (it:Z6)(h:jB):Z8 (List (Z6×jB)):=
 match it with
 | .pointer (some ⟨b,0,none⟩)=>match h.get b,Nat.ble h.lo b with
  | some ⟨.mapIter none _ _ _,_⟩,true=>some [(.tuple #[.bool false],h)]
  | some ⟨.mapIter (some m) since ⟨seen⟩ last,_⟩,true=>match mapOf h m with
   | some (es,c)=>match (seen.isEmpty || es.isEmpty || yR0 last es) with
    | true => some (endE (oldE since (gZ seen es)) (.tuple #[.bool false], h) ++
      (oldE since (gZ seen es)++newE since (gZ seen es)).map λe=>(.tuple #[.bool true,e.key,e.val],h.put b ⟨.mapIter (some m) since ⟨seen++[e.born]⟩ c,false⟩))
    | false=>none
   | none=>none
  | _,_=>none
 | _=>none
def one1 (r:Z8 (Z6×jB)):Z8 (List (Z6×jB)):=match r with|some x=>some [x]|none=>none
def mapE (P:Z9)(o:Op)(tm:VT)(h:jB):Z8 (List (Z6×jB)):=
 match o with
 | .makeMap t r=>one1 (gK0 P t (r.map (ev tm)) h)
 | .mapUpdate t m k x=>one1 (uZ0 P t (ev tm m) (ev tm k) (ev tm x) h)
 | .insert t m k x=>one1 (uZ0 P t (ev tm m) (ev tm k) (ev tm x) h)
 | .call ⟨.builtin .delete,args,ts⟩=>match args.toList,ts.toList with
  | [m,k],t :: _=>one1 (uI0 P t (ev tm m) (ev tm k) h)
  | _,_=>none
 | .call ⟨.builtin .clear,args,ts⟩=>match args.toList,ts.toList with
  | [m],[t]=>one1 (kS P t (ev tm m) h)
  | _,_=>none
 | .range t x=>match P.underlying t with
  | some (.map _ _)=>one1 (mapRange (ev tm x) h)
  | _=>none
 | .next it false=>jI0 (ev tm it) h
 | _=>none
def isMp (P:Z9)(o:Op):Zb:=
 match o with
 | .makeMap ..=>true
 | .mapUpdate ..=>true
 | .insert ..=>true
 | .call { callee:=.builtin .delete,.. }=>true
 | .call { callee:=.builtin .clear,.. }=>true
 | .range t _=>match P.underlying t with | some (.map _ _)=>true | _=>false
 | .next _ false=>true
 | _=>false
def zK0 (P:Z9)(o:Oper)(tm:VT)(h:jB):Z8 Z6:=
 match o.op with
 | .load t a=>jA P t (ev tm a) h
 | .slice t x lo hi mx=>match ev tm x with
  | .slice a n c=>match kB P t a n c (lo.map (ev tm)) (hi.map (ev tm)) (mx.map (ev tm)) h with
   | some v=>some v
   | none=>gS P t a n c (lo.map (ev tm)) (hi.map (ev tm)) (mx.map (ev tm)) h
  | _=>none
 | .convert s d x=>match P.underlying s,P.underlying d,ev tm x with
  | some (.slice e),some .string,.slice none _ _=>match P.underlying e with
   | some (.int .u8)=>some (.string .empty)
   | _=>none
  | some (.slice e),some .string,.slice (some _) 0 _=>match P.underlying e with
   | some (.int .u8)=>some (.string .empty)
   | _=>none
  | some (.slice e),some .string,.slice (some ⟨g,off,none⟩) n _=>match P.underlying e,cells h g with
   | some (.int .u8),some (cs,_,_)=>match takeN cs off n with
    | some l=>match bytesOf l with
     | some l=>some (.string ⟨⟨l⟩⟩)
     | none=>none
    | none=>none
   | _,_=>none
  | _,_,_=>none
 | _=>fI0 P o tm h
def kU0 (P:Z9)(s d e:Zt)(g:Nat)(v:Z6)(h:jB):Z8 (Z6×jB):=
 match P.underlying e,Nat.beq s d,Nat.ble h.lo g,h.get g with
 | some (.int .u8),true,true,some ⟨.cells _ _ _,_⟩=>some (v,h)
 | _,_,_,_=>none
def wE0 (P:Z9)(o:Oper)(tm:VT)(h:jB):Z8 (Z6×jB):=
 match o.op with
 | .alloc e=>match zeroOf P e with
  | some z=>match flat z with
   | true=>match bC h e z.cells.toList false with
    | some (b,h')=>some (.pointer (some ⟨b,0,none⟩),h')
    | none=>none
   | false=>none
  | none=>none
 | .box e x=>match bC h e (ev tm x).cells.toList false with
  | some (b,h')=>some (.pointer (some ⟨b,0,none⟩),h')
  | none=>none
 | .buildSlice t len parts=>match P.underlying t with
  | some (.slice e)=>match P.info? e with
   | some i=>match Nat.ble (len*i.size) 16777216,i.zero with
    | true,some z=>match Nat.beq z.cells.size i.size&&Nat.blt 0 i.size&&qT z.cells.toList with
     | true=>match zT0 (λj=>some (j*i.size,i.size)) (List.replicate len z.cells.toList).flatten (parts.toList.map λ(j,x)=>(j,ev tm x)) with
      | some cs=>match bC h e cs false with
       | some (b,h')=>some (.slice (some ⟨b,0,none⟩) len len,h')
       | none=>none
      | none=>none
     | false=>none
    | _,_=>none
   | none=>none
  | _=>none
 | .store t a x=>match yF0 P t (ev tm a) (ev tm x) h with | some h'=>some (undef,h') | none=>none
 | .makeSlice t l c=>gS0 P t (ev tm l) (ev tm c) h
 | .call { callee:=.builtin .append,args,argTypes }=>
  match argTypes.toList,args.toList with
  | [sT,xT],[s,x]=>jE P sT xT (ev tm s) (ev tm x) h
  | _,_=>none
 | .range t x=>match P.underlying t,ev tm x with
  | some .string,.string s=>some (.pointer (some ⟨h.next,0,none⟩),(h.new ⟨.stringIter s 0,false⟩).2)
  | _,_=>none
 | .next it true=>match ev tm it with
  | .pointer (some ⟨b,0,none⟩)=>match h.get b,Nat.ble h.lo b with
   | some ⟨.stringIter s pos,false⟩,true=>match Nat.blt pos s.size with
    | true=>some (.tuple #[.bool true,goInt pos,.int .i32 (Utf8.decode s pos).1],h.put b ⟨.stringIter s (pos+(Utf8.decode s pos).2),false⟩)
    | false=>some (.tuple #[.bool false],h)
   | _,_=>none
  | _=>none
 | .convert s d x=>match P.underlying s,P.underlying d,ev tm x with
  | some .string,some (.slice e),.string b=>match P.underlying e,szT P e with
   | some (.int .u8),some 1=>match Nat.blt b.size U with
    | true=>match bC h e (b.data.toList.map λx=>.int .u8 x.toNat) true with
     | some (g,h')=>some (.slice (some ⟨g,0,none⟩) b.size UC,h')
     | none=>none
    | false=>none
   | _,_=>none
  | some (.slice _),some (.slice e),.slice (some ⟨g,off,spot⟩) n c=>kU0 P s d e g (.slice (some ⟨g,off,spot⟩) n c) h
  | _,_,_=>none
 | _=>none
def fCmp (op:BinOp)(a b:Nat):Z8 Z6:=
 match op with
 | .lss=>some (.bool (Nat.blt a b))
 | .leq=>some (.bool (Nat.ble a b))
 | .gtr=>some (.bool (Nat.blt b a))
 | .geq=>some (.bool (Nat.ble b a))
 | .eql=>some (.bool (Nat.beq a b))
 | .neq=>some (.bool (!Nat.beq a b))
 | _=>none
def fBin (op:BinOp)(a b:Z6):Z8 Z6:=
 match a with
 | .int k (.ofNat a)=>match b with
  | .int j (.ofNat b)=>match decide (k=j) with
   | true=>fCmp op a b
   | false=>none
  | _=>none
 | _=>none
def iA1 (tm:VT)(c:Zo)(a:Zo)(b:Zo):Z8 Z6:=
 match ev tm c with | .bool true=>some (ev tm a) | .bool false=>some (ev tm b)|_=>none
def fZ1 (tm:VT)(t:Zo)(i:Nat):Z8 Z6:=
 match ev tm t with | .tuple vs=>vs[i]?|_=>none
def fY1 (P:Z9)(tm:VT)(op:BinOp)(t:Zt)(x:Zo)(y:Zo):Z8 Z6:=
 match fBin op (ev tm x) (ev tm y) with
  | some v=>some v
  | none=>jF P op t x y (ev tm x) (ev tm y)
def fX1 (P:Z9)(tm:VT)(op:UnOp)(x:Zo):Z8 Z6:=
 match op,ev tm x with
  | .not,.bool b=>some (.bool (!b))
  | op,v=>pvF P (Op.unary op v) (flat v)
def fW1 (P:Z9)(tm:VT)(s:Zt)(d:Zt)(x:Zo):Z8 Z6:=
 pvF P (convert s d (ev tm x)) (flat (ev tm x))
def fV1 (P:Z9)(tm:VT)(s:Zt)(x:Zo)(f:Nat):Z8 Z6:=
 match P.underlying s,ev tm x with
  | some (.struct fs),.pointer (some a)=>match fs[f]? with
   | some fl=>match szT P fl.type with
    | some (_+1)=>some (.pointer (some (a.add fl.offset)))
    | _=>none
   | none=>none
  | _,_=>none
def fU1 (P:Z9)(tm:VT)(t:Zt)(x:Zo)(f:Nat):Z8 Z6:=
 match P.underlying t,ev tm x with
  | some (.struct fs),.agg cs=>match fs[f]? with
   | some fl=>kP0 P fl.type cs.toList fl.offset
   | none=>none
  | _,_=>none
def fT1 (P:Z9)(tm:VT)(t:Zt)(x:Zo)(i:Zo):Z8 Z6:=
 match P.underlying t,ev tm x,ev tm i with
  | some (.slice e),.slice (some a) len _,.int _ (.ofNat n)=>match Nat.blt n len,szT P e with
   | true,some size=>some (.pointer (some (a.add (n*size))))
   | _,_=>none
  | some (.array len e),.pointer (some a),.int _ (.ofNat n)=>match Nat.blt n len,szT P e with
   | true,some size=>some (.pointer (some (a.add (n*size))))
   | _,_=>none
  | _,_,_=>none
def zT1 (P:Z9)(tm:VT)(t:Zt)(x:Zo)(i:Zo):Z8 Z6:=
 match ev tm x,ev tm i with
  | .string s,.int k n=>pvF P (Instr.index t (.string s) (.int k n)) true
  | .agg cs,.int _ (.ofNat n)=>match P.underlying t with
   | some (.array len e)=>match Nat.blt n len,szT P e with
    | true,some size=>kP0 P e cs.toList (n*size)
    | _,_=>none
   | _=>none
  | _,_=>none
def zS1 (P:Z9)(tm:VT)(t:Zt)(x:Zo)(lo:Z8 Zo)(hi:Z8 Zo)(mx:Z8 Zo):Z8 Z6:=
 match ev tm x with
  | .string s=>pvF P (Instr.sliceAt t (.string s) (lo.map (ev tm)) (hi.map (ev tm)) (mx.map (ev tm))) ((lo.map (ev tm)).all flat&&(hi.map (ev tm)).all flat&&(mx.map (ev tm)).all flat)
  | .slice a n c=>kC P t a n c (lo.map (ev tm)) (hi.map (ev tm)) (mx.map (ev tm))
  | .pointer (some a)=>qW0 P t a (lo.map (ev tm)) (hi.map (ev tm)) (mx.map (ev tm))
  | _=>none
def zR1 (P:Z9)(tm:VT)(t:Zt)(parts:Array (Nat×Zo)):Z8 Z6:=
 zN0 P t (parts.toList.map λ(i,x)=>(i,ev tm x))
def zQ1 (tm:VT)(g:FuncId)(f:Array Zo)(c:Array Zo):Z8 Z6:=
 some (.func (.func g) (f.map (ev tm)) (c.map (ev tm)))
def zP1 (P:Z9)(tm:VT)(t:Zt)(x:Zo):Z8 Z6:=
 match P.underlying t with
  | some (.interface _)=>none
  | some _=>some (.iface t (ev tm x))
  | none=>none
def zO1 (tm:VT)(x:Zo):Z8 Z6:=
 match ev tm x with
  | .pointer (some a)=>some (.pointer (some a))
  | .func (.func g) f c=>some (.func (.func g) f c)
  | _=>none
def zN1 (P : Z9) (tm : VT) (args : Array Zo) (argTypes : Array Zt) : Z8 Z6 :=
  match args[0]?,argTypes[0]? with
  | some x,some t=>match P.underlying t,ev tm x with
   | some .string,.string s=>some (goInt s.size)
   | some (.slice _),.slice _ n _=>some (goInt n)
   | _,_=>none
  | _,_=>none
def zM1 (P:Z9)(o:Oper)(tm:VT)(args:Array Zo)(argTypes:Array Zt):Z8 Z6:=
 pvF P (Builtin.min_ argTypes o.type (args.map (ev tm))) (qT (args.map (ev tm)).toList)
def zL1 (P:Z9)(o:Oper)(tm:VT)(args:Array Zo)(argTypes:Array Zt):Z8 Z6:=
 pvF P (Builtin.max_ argTypes o.type (args.map (ev tm))) (qT (args.map (ev tm)).toList)
def jT1 (P:Z9)(tm:VT)(h:jB)(t:Zt)(a:Zo):Z8 Z6:=
 jA P t (ev tm a) h
def jS1 (P:Z9)(tm:VT)(h:jB)(t:Zt)(x:Zo)(lo:Z8 Zo)(hi:Z8 Zo)(mx:Z8 Zo):Z8 Z6:=
 match ev tm x with
  | .slice a n c=>match kB P t a n c (lo.map (ev tm)) (hi.map (ev tm)) (mx.map (ev tm)) h with
   | some v=>some v
   | none=>gS P t a n c (lo.map (ev tm)) (hi.map (ev tm)) (mx.map (ev tm)) h
  | _=>none
def jR1 (P:Z9)(tm:VT)(h:jB)(s:Zt)(d:Zt)(x:Zo):Z8 Z6:=
 match P.underlying s,P.underlying d,ev tm x with
  | some (.slice e),some .string,.slice none _ _=>match P.underlying e with
   | some (.int .u8)=>some (.string .empty)
   | _=>none
  | some (.slice e),some .string,.slice (some _) 0 _=>match P.underlying e with
   | some (.int .u8)=>some (.string .empty)
   | _=>none
  | some (.slice e),some .string,.slice (some ⟨g,off,none⟩) n _=>match P.underlying e,cells h g with
   | some (.int .u8),some (cs,_,_)=>match takeN cs off n with
    | some l=>match bytesOf l with
     | some l=>some (.string ⟨⟨l⟩⟩)
     | none=>none
    | none=>none
   | _,_=>none
  | _,_,_=>none
def fRead (P:Z9)(o:Oper)(tm:VT)(h:jB):Z8 Z6:=
 match o.op with
 | .load t a=>jT1 P tm h t a
 | .slice t x lo hi mx=>jS1 P tm h t x lo hi mx
 | .convert s d x=>jR1 P tm h s d x
 | _=>none
def rN1 (P:Z9)(h:jB)(e:Zt):Z8 (Z6×jB):=
 match zeroOf P e with
  | some z=>match flat z with
   | true=>match bC h e z.cells.toList false with
    | some (b,h')=>some (.pointer (some ⟨b,0,none⟩),h')
    | none=>none
   | false=>none
  | none=>none
def rM1 (tm:VT)(h:jB)(e:Zt)(x:Zo):Z8 (Z6×jB):=
 match bC h e (ev tm x).cells.toList false with
  | some (b,h')=>some (.pointer (some ⟨b,0,none⟩),h')
  | none=>none
def rL1 (P:Z9)(tm:VT)(h:jB)(t:Zt)(len:Nat)(parts:Array (Nat×Zo)):Z8 (Z6×jB):=
 match P.underlying t with
  | some (.slice e)=>match P.info? e with
   | some i=>match Nat.ble (len*i.size) 16777216,i.zero with
    | true,some z=>match Nat.beq z.cells.size i.size&&Nat.blt 0 i.size&&qT z.cells.toList with
     | true=>match zT0 (λj=>some (j*i.size,i.size)) (List.replicate len z.cells.toList).flatten (parts.toList.map λ(j,x)=>(j,ev tm x)) with
      | some cs=>match bC h e cs false with
       | some (b,h')=>some (.slice (some ⟨b,0,none⟩) len len,h')
       | none=>none
      | none=>none
     | false=>none
    | _,_=>none
   | none=>none
  | _=>none
def rK1 (P:Z9)(tm:VT)(h:jB)(t:Zt)(a:Zo)(x:Zo):Z8 (Z6×jB):=
 match yF0 P t (ev tm a) (ev tm x) h with|some h'=>some (undef,h')|none=>none
def rJ1 (P:Z9)(tm:VT)(h:jB)(t:Zt)(l:Zo)(c:Zo):Z8 (Z6×jB):=
 gS0 P t (ev tm l) (ev tm c) h
def rI1 (P : Z9) (tm : VT) (h : jB) (args : Array Zo) (argTypes : Array Zt) : Z8 (Z6 × jB) :=
  match argTypes.toList,args.toList with
  | [sT,xT],[s,x]=>jE P sT xT (ev tm s) (ev tm x) h
  | _,_=>none
def rH1 (P:Z9)(tm:VT)(h:jB)(t:Zt)(x:Zo):Z8 (Z6×jB):=
 match P.underlying t,ev tm x with
  | some .string,.string s=>some (.pointer (some ⟨h.next,0,none⟩),(h.new ⟨.stringIter s 0,false⟩).2)
  | _,_=>none
def rG1 (tm:VT)(h:jB)(it:Zo):Z8 (Z6×jB):=
 match ev tm it with
  | .pointer (some ⟨b,0,none⟩)=>match h.get b,Nat.ble h.lo b with
   | some ⟨.stringIter s pos,false⟩,true=>match Nat.blt pos s.size with
    | true=>some (.tuple #[.bool true,goInt pos,.int .i32 (Utf8.decode s pos).1],h.put b ⟨.stringIter s (pos+(Utf8.decode s pos).2),false⟩)
    | false=>some (.tuple #[.bool false],h)
   | _,_=>none
  | _=>none
def rF1 (P:Z9)(tm:VT)(h:jB)(s:Zt)(d:Zt)(x:Zo):Z8 (Z6×jB):=
 match P.underlying s,P.underlying d,ev tm x with
  | some .string,some (.slice e),.string b=>match P.underlying e,szT P e with
   | some (.int .u8),some 1=>match Nat.blt b.size U with
    | true=>match bC h e (b.data.toList.map λx=>.int .u8 x.toNat) true with
     | some (g,h')=>some (.slice (some ⟨g,0,none⟩) b.size UC,h')
     | none=>none
    | false=>none
   | _,_=>none
  | some (.slice _),some (.slice e),.slice (some ⟨g,off,spot⟩) n c=>kU0 P s d e g (.slice (some ⟨g,off,spot⟩) n c) h
  | _,_,_=>none
inductive jL where
 | normal
 | exit (id:Nat)
 | goto (l:Nat)
 | ret
def qP (P:Z9)(fn:Func)(tm:VT)(h:jB):Z8 Z6:=
 let rec go:List ResultVar→Z8 (List Z6)
  | []=>some []
  | .tmp t :: rs=>match go rs with | some l=>some (tm.get t :: l) | none=>none
  | .cell a t :: rs=>match jA P t (tm.get a) h,go rs with | some v,some l=>some (v :: l) | _,_=>none
 match go fn.results.toList with
 | some [v]=>some v
 | some l=>some (.tuple ⟨l⟩)
 | none=>none
abbrev Rec:=Z8 Nat→Code→S→Z8 (jL×S)
abbrev Ext:=FuncId→List Z6→jB→Z8 (Z6×jB)
def put (tm:VT)(d:Z8 Tmp)(v:Z6):VT:=match d with|some t=>tm.set t v|none=>tm
def bR:List Nat→jB→Z8 jB
 | [],h=>some h
 | d :: ds,h=>match h.get d with
  | some ⟨.deferred (some []),_⟩=>match Nat.ble h.lo d with
   | true=>bR ds (h.put d ⟨.deferred none,false⟩)
   | false=>none
  | _=>none
def rR1 (P:Z9)(fn:Func)(s:S):Z8 (Z6×jB):=
 match bR s.df s.h with
 | some h=>match qP P fn s.tm h with
  | some v=>some (v,h)
  | none=>none
 | none=>none
def bQ1 (P:Z9)(rec:Rec)(f:FuncId)(args:List Z6)(h:jB):Z8 (Z6×jB):=
 match P.funcs[f]? with
 | some fn=>match fn.body with
  | some c=>match Nat.blt (VT.of args fn.ntmps).sz U with
   | true=>match rec none c { tm:=VT.of args fn.ntmps,df:=[],h:=h } with
    | some (.normal,s)=>rR1 P fn s
    | some (.ret,s)=>rR1 P fn s
    | _=>none
   | false=>none
  | none=>none
 | none=>none
def rS1 (P:Z9)(X:Ext)(rec:Rec)(f:FuncId)(args:List Z6)(h:jB):Z8 (Z6×jB):=
 match X f args h with
 | some r=>some r
 | none=>bQ1 P rec f args h
def qZ (h:jB)(l:Nat):Z8 Loop:=
 match h.get l with
 | some ⟨.loop r,_⟩=>match Nat.ble h.lo l with
  | true=>some r
  | false=>none
 | _=>none
def qY (h:jB)(l:Nat)(r:Loop):jB:=h.put l ⟨.loop r,false⟩
def uN0 (ro:Z8 Nat)(tm:VT)(ps:Array Tmp)(a b:Code)(h:jB):Z8 (Nat×List Nat×jB):=
 match ro with
 | some l=>match qZ h l with
  | some r=>some (h.next,[],(h.new ⟨.loop { state:=.ready,pending:=none,fn:=0,tmps:=tm.arr,params:=ps,assign:=a,body:=b,defers:=r.defers },false⟩).2)
  | none=>none
 | none=>some (h.next+1,[h.next],((h.new ⟨.deferred (some []),false⟩).2.new ⟨.loop { state:=.ready,pending:=none,fn:=0,tmps:=tm.arr,params:=ps,assign:=a,body:=b,defers:=h.next },false⟩).2)
def jL.jump:jL→Z8 Code
 | .normal=>none
 | .exit id=>some (.exit id)
 | .goto l=>some (.goto l)
 | .ret=>some .ret
def uG0:VT→List (Nat×Z6)→VT
 | T,[]=>T
 | T,(t,v) :: l=>uG0 (T.set t v) l
def iC1 (rec:Rec)(l:Nat)(args:List Z6)(h:jB):Z8 (Z6×jB):=
 match qZ h l with
 | some r=>match Nat.beq args.length r.params.toList.length&&Nat.blt (VT.of r.tmps.toList 0).sz U with
  | true=>match rec (some l) r.assign { tm:=uG0 (VT.of r.tmps.toList 0) (r.params.toList.zip args),df:=[],h:=h } with
   | some (.normal,s1)=>match qZ s1.h l with
    | some r1=>match r1.state with
     | .ready=>match rec (some l) r.body { tm:=s1.tm,df:=s1.df,h:=qY s1.h l { r1 with state:=.busy } } with
      | some (e,s2)=>match qZ s2.h l with
       | some r2=>some (.bool e.jump.isNone,qY s2.h l { r2 with state:=if e.jump.isNone then .ready else .done,pending:=e.jump })
       | none=>none
      | none=>none
     | _=>none
    | none=>none
   | _=>none
  | false=>none
 | none=>none
def cH0 (l:Nat)(s:S):Z8 (jL×S):=
 match qZ s.h l with
 | some r=>match r.state with
  | .busy=>none
  | _=>
   let s':S:={ s with h:=qY s.h l { r with state:=.exhausted } }
   match r.pending with
   | none=>some (.normal,s')
   | some (.exit id)=>some (.exit id,s')
   | some (.goto t)=>some (.goto t,s')
   | some .ret=>some (.ret,s')
   | _=>none
 | none=>none
inductive Rz where
 | no
 | pure (v:Z6)
 | read (v:Z6)
 | eff (v:Z6) (h:jB)
abbrev G:=VT→jB→Rz
def rP (r:Z8 Z6):Rz:=Option.rec (motive:=λ_=>Rz) .no Rz.pure r
def rE (r:Z8 (Z6×jB)):Rz:=Option.rec (motive:=λ_=>Rz) .no (λx=>Prod.rec (motive:=λ_=>Rz) Rz.eff x) r
def rR (r:Z8 Z6)(k:Rz):Rz:=Option.rec (motive:=λ_=>Rz) k Rz.read r
def rPR (r:Z8 Z6)(k:Rz):Rz:=Option.rec (motive:=λ_=>Rz) k Rz.pure r
def gNo:G:=λ_ _=>.no
def gNo1 {α:Type}(_:α):G:=gNo
def gNo2 {α β:Type}(_:α)(_:β):G:=gNo
def gNo3 {α β γ:Type}(_:α)(_:β)(_:γ):G:=gNo
def gNo4 {α β γ δ:Type}(_:α)(_:β)(_:γ)(_:δ):G:=gNo
def pL1 (x:Zo):G:=λtm _=>.pure (ev tm x)
def gPick (c a b:Zo):G:=λtm _=>rP (iA1 tm c a b)
def pX1 (P:Z9)(e:Zt):G:=λ_ h=>rE (rN1 P h e)
def gBox (e:Zt)(x:Zo):G:=λtm h=>rE (rM1 tm h e x)
def pW1 (P:Z9)(t:Zt)(parts:Array (Nat×Zo)):G:=λtm _=>rP (zR1 P tm t parts)
def fW0 (P:Z9)(t:Zt)(len:Nat)(parts:Array (Nat×Zo)):G:=λtm h=>rE (rL1 P tm h t len parts)
def gLoad (P:Z9)(t:Zt)(a:Zo):G:=λtm h=>rR (jT1 P tm h t a) .no
def pE1 (P:Z9)(t:Zt)(a x:Zo):G:=λtm h=>rE (rK1 P tm h t a x)
def tY0 (x:Zo):G:=λtm _=>rP (zO1 tm x)
def gBin (P:Z9)(op:BinOp)(t:Zt)(x y:Zo)(_:Zt):G:=λtm _=>rP (fY1 P tm op t x y)
def gUn (P:Z9)(op:UnOp)(_:Zt)(x:Zo):G:=λtm _=>rP (fX1 P tm op x)
def zG1 (P:Z9)(s d:Zt)(x:Zo):G:=λtm h=>rPR (fW1 P tm s d x) (rR (jR1 P tm h s d x) (rE (rF1 P tm h s d x)))
def yX0 (P:Z9)(t:Zt)(x:Zo):G:=λtm _=>rP (zP1 P tm t x)
def tZ0 (fn:Fn)(f c:Array Zo):G:=match fn with | .func g=>λtm _=>rP (zQ1 tm g f c)|_=>gNo
def nO0 (P:Z9)(t:Zt)(l c:Zo):G:=λtm h=>rE (rJ1 P tm h t l c)
def pF1 (P:Z9)(t:Zt)(x:Zo)(lo hi mx:Z8 Zo):G:=λtm h=>rPR (zS1 P tm t x lo hi mx) (rR (jS1 P tm h t x lo hi mx) .no)
def nQ0 (P:Z9)(s:Zt)(x:Zo)(f:Nat):G:=λtm _=>rP (fV1 P tm s x f)
def pN1 (P:Z9)(s:Zt)(x:Zo)(f:Nat):G:=λtm _=>rP (fU1 P tm s x f)
def nP0 (P:Z9)(t:Zt)(x i:Zo):G:=λtm _=>rP (fT1 P tm t x i)
def pM1 (P:Z9)(t:Zt)(x i:Zo):G:=λtm _=>rP (zT1 P tm t x i)
def pK1 (P:Z9)(t:Zt)(x:Zo):G:=λtm h=>rE (rH1 P tm h t x)
def gNext (it:Zo)(b:Zb):G:=match b with|true=>λtm h=>rE (rG1 tm h it)|false=>gNo
def zF1 (t:Zo)(i:Nat):G:=λtm _=>rP (fZ1 tm t i)
def zH1 (P:Z9)(o:Oper)(args:Array Zo)(ats:Array Zt)(b:Builtin):G:=
 match b with
 | .len=>λtm _=>rP (zN1 P tm args ats)
 | .append=>λtm h=>rE (rI1 P tm h args ats)
 | .min=>λtm _=>rP (zM1 P o tm args ats)
 | .max=>λtm _=>rP (zL1 P o tm args ats)
 | _=>gNo
def callV (P:Z9)(X:Ext)(rec:Rec)(f:Z6)(args:List Z6)(h:jB):Z8 (Z6×jB):=
 match f with
 | .func (.func g) ⟨[]⟩ ⟨captured⟩=>rS1 P X rec g (args++captured) h
 | .func (.yield l) ⟨[]⟩ _=>iC1 rec l args h
 | _=>none
def oZ1 (P:Z9)(X:Ext)(rec:Rec)(args:Array Zo)(f:Zo):G:=λtm h=>rE (callV P X rec (ev tm f) (args.toList.map (ev tm)) h)
def gCall (P:Z9)(X:Ext)(rec:Rec)(o:Oper)(c:Call):G:=
 Call.rec (motive:=λ_=>G) (λcl args ats=>Callee.rec (motive:=λ_=>G) (oZ1 P X rec args) gNo2 (zH1 P o args ats) cl) c
def evOp (P:Z9)(X:Ext)(rec:Rec)(o:Oper):G:=
 Op.rec (motive:=λ_=>G) pL1 pL1 gPick (pX1 P) gBox (pW1 P) (fW0 P) gNo4 (gLoad P) (pE1 P) gNo1 gNo1 tY0 (gBin P) (gUn P) (zG1 P) gNo2 (yX0 P) tZ0 gNo2 gNo2 (nO0 P) (pF1 P)
  (nQ0 P) (pN1 P) (nP0 P) (pM1 P) gNo4 gNo4 gNo3 gNo4 (pK1 P) gNext gNo1 gNo4 zF1 (gCall P X rec o) gNo1 gNo1 gNo1 gNo2 gNo3 gNo2 o.op
def yl (ops:List Oper)(tm:VT)(j:Nat):Z8 Zb:=
 match ops[j]? with
 | some o=>match o.dst with
  | some d=>match tm.get d with
   | .bool b=>some b
   | _=>none
  | none=>none
 | none=>none
def wanted (ops:List Oper)(tm:VT)(o:Oper):Z8 Zb:=
 match o.guard with
 | none=>some true
 | some (j,w)=>some (match yl ops tm j with | some b=>(match b,w with | true,true=>true | false,false=>true | _,_=>false) | none=>false)
abbrev KT:=VT→jB→Z8 (VT×jB)
def okE (k:KT)(tm:VT)(d:Z8 Tmp)(v:Z6)(h:jB):Z8 (VT×jB):=
 Bool.rec (motive:=λ_=>Z8 (VT×jB)) none (k (put tm d v) h) (fsc h.next v)
def okV (k:KT)(tm:VT)(d:Z8 Tmp)(h:jB)(v:Z6):Z8 (VT×jB):=
 Bool.rec (motive:=λ_=>Z8 (VT×jB)) none (k (put tm d v) h) (fsc h.next v)
def evOps (P:Z9)(X:Ext)(rec:Rec)(ops:List Oper)(l:List Oper):KT:=
 List.rec (motive:=λ_=>KT) (λtm h=>some (tm,h))
  (λo _ ih tm h=>match wanted ops tm o with
   | some true=>Rz.rec (motive:=λ_=>Z8 (VT×jB)) none (okV ih tm o.dst h) (okV ih tm o.dst h) (okE ih tm o.dst) (evOp P X rec o tm h)
   | _=>ih (put tm o.dst undef) h) l
mutual
def beqV:Z6→Z6→Zb
 | .bool a,.bool b=>match a,b with | true,true=>true | false,false=>true | _,_=>false
 | .int k a,.int j b=>decide (k=j)&&decide (a=b)
 | .string a,.string b=>beqB a.data.toList b.data.toList
 | .float k a,.float j b=>decide (k=j)&&Nat.beq a b
 | .pointer a,.pointer b=>decide (a=b)
 | .slice a n c,.slice b m d=>decide (a=b)&&Nat.beq n m&&Nat.beq c d
 | .map a,.map b=>decide (a=b)
 | .func f ⟨xs⟩ ⟨ys⟩,.func g ⟨zs⟩ ⟨us⟩=>decide (f=g)&&beqL xs zs&&beqL ys us
 | .nilFunc,.nilFunc=>true
 | .nilIface,.nilIface=>true
 | .iface t v,.iface u w=>Nat.beq t u&&beqV v w
 | .agg ⟨xs⟩,.agg ⟨ys⟩=>beqL xs ys
 | .tuple ⟨xs⟩,.tuple ⟨ys⟩=>beqL xs ys
 | _,_=>false
def beqL:List Z6→List Z6→Zb
 | [],[]=>true
 | x :: xs,y :: ys=>beqV x y&&beqL xs ys
 | _,_=>false
end
def zD1 (P:Z9)(o:Oper):Zb:=
 match o.op with
 | .alloc ..=>true
 | .box ..=>true
 | .buildSlice ..=>true
 | .store ..=>true
 | .makeSlice ..=>true
 | .range ..=>true
 | .next ..=>true
 | .makeMap ..=>true
 | .mapUpdate ..=>true
 | .insert ..=>true
 | .call { callee:=.builtin .delete,.. }=>true
 | .call { callee:=.builtin .clear,.. }=>true
 | .call { callee:=.builtin .append,.. }=>true
 | .call { callee:=.value _,.. }=>true
 | .convert s d _=>match P.underlying s,P.underlying d with | some .string,some (.slice _)=>true | some (.slice _),some (.slice _)=>true | _,_=>false
 | _=>false
def firstFree (P:Z9)(ops:Array Oper)(listed:Array Zb):List Nat→Z8 (Nat×Oper)
 | []=>none
 | i :: is=>match ops[i]? with
  | some o=>match zD1 P o with
   | true=>firstFree P ops listed is
   | false=>match Region.free .any ops listed i with
    | true=>some (i,o)
    | false=>firstFree P ops listed is
  | none=>firstFree P ops listed is
inductive PS where
 | take (i:Nat) (o:Oper)
 | eff (i:Nat) (o:Oper)
def sL0 (P:Z9)(ops:Array Oper):Nat→Array Zb→Z8 (List PS)
 | 0,listed=>match Region.ready .any ops listed with | []=>some [] | _=>none
 | n+1,listed=>match Region.ready .any ops listed with
  | []=>some []
  | r :: rs=>match firstFree P ops listed (r :: rs) with
   | some (i,o)=>match sL0 P ops n (listed.setIfInBounds i true) with
    | some pl=>some (.take i o :: pl)
    | none=>none
   | none=>match rs,ops[r]? with
    | [],some o=>match zD1 P o with
     | true=>match sL0 P ops n (listed.setIfInBounds r true) with
      | some pl=>some (.eff r o :: pl)
      | none=>none
     | false=>none
    | _,_=>none
abbrev Held:=List (Nat×Oper×VT×Z6)
def kept (P:Z9)(o:Oper)(h:jB):Held→Zb
 | []=>true
 | (i,o',tm,v) :: L=>match o.after.toList.any λe=>Region.binds .any e&&Nat.beq e.on i with
  | true=>kept P o h L
  | false=>match fRead P o' tm h with
   | some v'=>match beqV v v' with | true=>kept P o h L | false=>false
   | none=>false
def okH (P:Z9)(o:Oper)(L:Held)(k:KT)(tm:VT)(v:Z6)(h:jB):Z8 (VT×jB):=
 Bool.rec (motive:=λ_=>Z8 (VT×jB)) none (okE k tm o.dst v h) (kept P o h L)
def okVH (k:Z6→KT)(tm:VT)(d:Z8 Tmp)(h:jB)(v:Z6):Z8 (VT×jB):=
 Bool.rec (motive:=λ_=>Z8 (VT×jB)) none (k v (put tm d v) h) (fsc h.next v)
def gR0 (P:Z9)(X:Ext)(rec:Rec)(opl:List Oper):List PS→Held→KT
 | [],_,tm,h=>some (tm,h)
 | .take i o :: pl,L,tm,h=>match wanted opl tm o with
  | some true=>Rz.rec (motive:=λ_=>Z8 (VT×jB)) none (okV (gR0 P X rec opl pl L) tm o.dst h) (okVH (λv=>gR0 P X rec opl pl ((i,o,tm,v) :: L)) tm o.dst h) (λ_ _=>none) (evOp P X rec o tm h)
  | _=>gR0 P X rec opl pl L (put tm o.dst undef) h
 | .eff _ o :: pl,L,tm,h=>match wanted opl tm o with
  | some true=>Rz.rec (motive:=λ_=>Z8 (VT×jB)) none (λ_=>none) (λ_=>none) (okH P o L (gR0 P X rec opl pl L) tm) (evOp P X rec o tm h)
  | _=>gR0 P X rec opl pl L (put tm o.dst undef) h
abbrev ST:=S→Z8 (jL×S)
def cSkip:ST:=λs=>some (.normal,s)
def nI1 (k:ST)(r:Z8 (jL×S)):Z8 (jL×S):=
 Option.rec (motive:=λ_=>Z8 (jL×S)) none (λx=>Prod.rec (motive:=λ_=>Z8 (jL×S)) (λe s=>jL.rec (motive:=λ_=>Z8 (jL×S)) (k s) (λi=>some (.exit i,s)) (λl=>some (.goto l,s)) (some (.ret,s)) e) x) r
def outK (id:Nat)(r:Z8 (jL×S)):Z8 (jL×S):=
 match r with
 | some (.exit j,s1)=>match Nat.beq j id with | true=>some (.normal,s1) | false=>some (.exit j,s1)
 | r=>r
def rQ0 (rec:Rec)(ro:Z8 Nat)(b:Code):Nat→Z8 (jL×S)→Z8 (jL×S)
 | 0,r=>match r with
  | some (.goto _,_)=>none
  | r=>r
 | f+1,r=>match r with
  | some (.goto l,s1)=>match findLabel b l with
   | some rest=>rQ0 rec ro b f (rec ro rest s1)
   | none=>some (.goto l,s1)
  | r=>r
def regK (s:S)(r:Z8 (VT×jB)):Z8 (jL×S):=
 match r with
 | some (tm,h)=>some (.normal,{ tm:=tm,df:=s.df,h:=h })
 | none=>none
def iO1 (P:Z9)(X:Ext)(rec:Rec)(_:Nat)(ops:Array Oper)(draw:Zb):ST:=λs=>
 match draw with
 | false=>regK s (evOps P X rec ops.toList ops.toList s.tm s.h)
 | true=>match sL0 P ops ops.size (Array.replicate ops.size false) with
  | some pl=>regK s (gR0 P X rec ops.toList pl [] s.tm s.h)
  | none=>none
def cSeq (rec:Rec)(ro:Z8 Nat)(a b:Code)(_ _:ST):ST:=λs=>nI1 (rec ro b) (rec ro a s)
def cCond (rec:Rec)(ro:Z8 Nat)(x:Zo)(a b:Code)(_ _:ST):ST:=λs=>
 match ev s.tm x with
 | .bool true=>rec ro a s
 | .bool false=>rec ro b s
 | _=>none
def sB1 (rec:Rec)(ro:Z8 Nat)(id:Nat)(b:Code)(_:ST):ST:=λs=>outK id (rec ro b s)
def cLoop (rec:Rec)(ro:Z8 Nat)(b:Code)(_:ST):ST:=λs=>nI1 (rec ro (.loop b)) (rec ro b s)
def rY1 (rec:Rec)(ro:Z8 Nat)(b:Code)(_:ST):ST:=λs=>rQ0 rec ro b 100000 (rec ro b s)
def rZ1 (P:Z9)(rec:Rec)(ro:Z8 Nat)(g:Zo)(ps:Array Tmp)(a b:Code)(_ _:ST):ST:=λs=>
 match uN0 ro s.tm ps a b s.h,ev s.tm g with
 | some (l,mk,h1),.func (.func f) ⟨[]⟩ ⟨captured⟩=>match bQ1 P rec f (.func (.yield l) #[] #[] :: captured) h1 with
  | some (_,h2)=>cH0 l { s with df:=mk++s.df,h:=h2 }
  | none=>none
 | _,_=>none
def cExit (id:Nat):ST:=λs=>some (.exit id,s)
def sA1 (_:Nat):ST:=λs=>some (.normal,s)
def cGoto (l:Nat):ST:=λs=>some (.goto l,s)
def cRet:ST:=λs=>some (.ret,s)
def iP1 (_:String):ST:=λ_=>none
def rQ1 (P:Z9)(X:Ext)(rec:Rec)(ro:Z8 Nat)(c:Code):ST:=
 Code.rec (motive:=λ_=>ST) cSkip (iO1 P X rec) (cSeq rec ro) (cCond rec ro) (sB1 rec ro) (cLoop rec ro) (rZ1 P rec ro) cExit (rY1 rec ro) sA1 cGoto cRet iP1 c
def evC (P:Z9)(X:Ext)(n:Nat):Rec:=
 Nat.rec (motive:=λ_=>Rec) (λ_ _ _=>none) (λ_ rec=>rQ1 P X rec) n
end
end Go.Ev
namespace Go.Ev
open Go Go.RowKit
structure Gam where
 b:Nat→Nat
 k:Nat→Nat
 s:Nat→Int        -- the numbers that stand behind a sign: a float is none of the program's
 t:Nat→ByteArray  -- the texts
def qN (Γ:Gam)(id c:Nat):Nat:=if c<UC then c else Γ.k id-(c-UC)
def uZ (Γ:Gam)(a:Addr):Addr:={ a with block:=Γ.b a.block }
def wY0 (Γ:Gam):Fn→Fn
 | .yield l=>.yield (Γ.b l)
 | f=>f
mutual
def con (Γ:Gam):Z6→Z6
 | .pointer (some a)=>.pointer (some (uZ Γ a))
 | .slice (some a) n c=>.slice (some (uZ Γ a)) n (qN Γ a.block c)
 | .map (some r)=>.map (some (Γ.b r))
 | .float .f64 i=>.int .i64 (Γ.s i)
 | .float .f32 i=>.string (Γ.t i)
 | .func fn ⟨f⟩ ⟨c⟩=>.func (wY0 Γ fn) ⟨conL Γ f⟩ ⟨conL Γ c⟩
 | .iface t v=>.iface t (con Γ v)
 | .agg ⟨cs⟩=>.agg ⟨conL Γ cs⟩
 | .tuple ⟨vs⟩=>.tuple ⟨conL Γ vs⟩
 | v=>v
def conL (Γ:Gam):List Z6→List Z6
 | []=>[]
 | v :: vs=>con Γ v :: conL Γ vs
end
theorem bF (Γ:Gam):∀ l,conL Γ l=l.map (con Γ)
 | []=>rfl
 | v :: vs=>by simp[conL,bF Γ vs]
theorem qR0 (Γ:Gam)(cs:Array Z6):con Γ (.agg cs)=.agg (cs.map (con Γ)):=by
 obtain ⟨l⟩:=cs;simp[con,bF]
theorem jO0 (Γ:Gam)(cs:Array Z6):con Γ (.tuple cs)=.tuple (cs.map (con Γ)):=by
 obtain ⟨l⟩:=cs;simp[con,bF]
theorem bS (Γ:Gam)(fn:Fn)(f c:Array Z6):con Γ (.func fn f c)=.func (wY0 Γ fn) (f.map (con Γ)) (c.map (con Γ)):=by
 obtain ⟨l⟩:=f;obtain ⟨m⟩:=c;simp[con,bF]
mutual
theorem qC (Γ:Gam):∀ v,flat v=true→con Γ v=v
 | .bool _,_=>rfl
 | .int _ _,_=>rfl
 | .float _ _,h=>by simp[flat] at h
 | .complex _ _ _,_=>rfl
 | .string _,_=>rfl
 | .pointer none,_=>rfl
 | .pointer (some _),h=>by simp[flat] at h
 | .slice none _ _,_=>rfl
 | .slice (some _) _ _,h=>by simp[flat] at h
 | .map none,_=>rfl
 | .map (some _),h=>by simp[flat] at h
 | .chan _,h=>by simp[flat] at h
 | .func (.func g) ⟨f⟩ ⟨c⟩,h=>by
  simp only[flat,Z5] at h
  simp only[con,wY0,gW Γ f h.1,gW Γ c h.2]
 | .func (.method _) _ _,h=>by simp[flat] at h
 | .func (.methodOf _ _) _ _,h=>by simp[flat] at h
 | .func (.via _ _ _ _) _ _,h=>by simp[flat] at h
 | .func (.yield _) _ _,h=>by simp[flat] at h
 | .nilFunc,_=>rfl
 | .iface t v,h=>by
  simp only[flat] at h
  simp only[con,qC Γ v h]
 | .nilIface,_=>rfl
 | .agg ⟨cs⟩,h=>by
  simp only[flat] at h
  simp only[con,gW Γ cs h]
 | .tuple ⟨cs⟩,h=>by
  simp only[flat] at h
  simp only[con,gW Γ cs h]
theorem gW (Γ:Gam):∀ l,qT l=true→conL Γ l=l
 | [],_=>rfl
 | v :: vs,h=>by
  simp only[qT,Z5] at h
  simp only[conL,qC Γ v h.1,gW Γ vs h.2]
end
structure Ag (Γ Γ':Gam)(n:Nat):Prop where
 b:∀ i,i<n→Γ'.b i=Γ.b i
 k:∀ i,i<n→Γ'.k i=Γ.k i
 s:Γ'.s=Γ.s
 t:Γ'.t=Γ.t
theorem Ag.refl (Γ:Gam)(n:Nat):Ag Γ Γ n:=⟨λ_ _=>rfl,λ_ _=>rfl,rfl,rfl⟩
theorem Ag.trans {Γ Γ' Γ'':Gam}{n m:Nat}(h:Ag Γ Γ' n)(h':Ag Γ' Γ'' m)(hn:n≤m):Ag Γ Γ'' n:=
 ⟨λi hi=>(h'.b i Z0).trans (h.b i hi),λi hi=>(h'.k i Z0).trans (h.k i hi),h'.s.trans h.s,h'.t.trans h.t⟩
theorem qH1 {Γ Γ':Gam}{n:Nat}(h:Ag Γ Γ' n){a:Addr}(ha:scA n a=true):uZ Γ' a=uZ Γ a:=by
 simp[scA] at ha
 simp[uZ,h.b a.block ha]
mutual
theorem bT {Γ Γ':Gam}{n:Nat}(hg:Ag Γ Γ' n):∀ v,sc n v=true→con Γ' v=con Γ v
 | .bool _,_=>rfl
 | .int _ _,_=>rfl
 | .float .f64 _,_=>by simp only[con,hg.s]
 | .float .f32 _,_=>by simp only[con,hg.t]
 | .complex _ _ _,_=>rfl
 | .string _,_=>rfl
 | .pointer none,_=>rfl
 | .pointer (some _),h=>by simp only[sc] at h;simp only[con,qH1 hg h]
 | .slice none _ _,_=>rfl
 | .slice (some a) _ _,h=>by
  simp only[sc] at h
  have h2:a.block<n:=by simp[scA] at h;exact h
  simp only[con,qH1 hg h,qN,hg.k _ h2]
 | .map none,_=>rfl
 | .map (some _),h=>by simp[sc] at h;simp only[con,hg.b _ h]
 | .chan _,h=>by simp[sc] at h
 | .func (.func g) ⟨f⟩ ⟨c⟩,h=>by
  simp only[sc,Z5] at h
  simp only[con,wY0,uP0 hg f h.1,uP0 hg c h.2]
 | .func (.method _) _ _,h=>by simp[sc] at h
 | .func (.methodOf _ _) _ _,h=>by simp[sc] at h
 | .func (.via _ _ _ _) _ _,h=>by simp[sc] at h
 | .func (.yield l) ⟨f⟩ ⟨c⟩,h=>by
  simp only[sc,Z5,Nat.blt_eq] at h
  simp only[con,wY0,uP0 hg f h.1.2,uP0 hg c h.2,hg.b _ h.1.1]
 | .nilFunc,_=>rfl
 | .iface t v,h=>by
  simp only[sc] at h
  simp only[con,bT hg v h]
 | .nilIface,_=>rfl
 | .agg ⟨cs⟩,h=>by
  simp only[sc] at h
  simp only[con,uP0 hg cs h]
 | .tuple ⟨cs⟩,h=>by
  simp only[sc] at h
  simp only[con,uP0 hg cs h]
theorem uP0 {Γ Γ':Gam}{n:Nat}(hg:Ag Γ Γ' n):∀ l,scL n l=true→conL Γ' l=conL Γ l
 | [],_=>rfl
 | v :: vs,h=>by
  simp only[scL,Z5] at h
  simp only[conL,bT hg v h.1,uP0 hg vs h.2]
end
mutual
theorem qU {n m:Nat}(hn:n≤m):∀ v,sc n v=true→sc m v=true
 | .bool _,_=>rfl
 | .int _ _,_=>rfl
 | .float _ _,_=>rfl
 | .complex _ _ _,_=>rfl
 | .string _,_=>rfl
 | .pointer none,_=>rfl
 | .pointer (some _),h=>by simp[sc,scA] at h ⊢;omega
 | .slice none _ _,_=>rfl
 | .slice (some a) _ _,h=>by simp[sc,scA] at h ⊢;omega
 | .map none,_=>rfl
 | .map (some _),h=>by simp[sc] at h ⊢;omega
 | .chan _,h=>by simp[sc] at h
 | .func (.func g) ⟨f⟩ ⟨c⟩,h=>by
  simp only[sc,Z5] at h ⊢
  exact ⟨jT0 hn f h.1,jT0 hn c h.2⟩
 | .func (.method _) _ _,h=>by simp[sc] at h
 | .func (.methodOf _ _) _ _,h=>by simp[sc] at h
 | .func (.via _ _ _ _) _ _,h=>by simp[sc] at h
 | .func (.yield l) ⟨f⟩ ⟨c⟩,h=>by
  simp only[sc,Z5,Nat.blt_eq] at h ⊢
  exact ⟨⟨Z0,jT0 hn f h.1.2⟩,jT0 hn c h.2⟩
 | .nilFunc,_=>rfl
 | .iface t v,h=>by
  simp only[sc] at h ⊢
  exact qU hn v h
 | .nilIface,_=>rfl
 | .agg ⟨cs⟩,h=>by
  simp only[sc] at h ⊢
  exact jT0 hn cs h
 | .tuple ⟨cs⟩,h=>by
  simp only[sc] at h ⊢
  exact jT0 hn cs h
theorem jT0 {n m:Nat}(hn:n≤m):∀ l,scL n l=true→scL m l=true
 | [],_=>rfl
 | v :: vs,h=>by
  simp only[scL,Z5] at h ⊢
  exact ⟨qU hn v h.1,jT0 hn vs h.2⟩
end
mutual
theorem gB (n:Nat):∀ v,flat v=true→sc n v=true
 | .bool _,_=>rfl
 | .int _ _,_=>rfl
 | .float _ _,h=>by simp[flat] at h
 | .complex _ _ _,_=>rfl
 | .string _,_=>rfl
 | .pointer none,_=>rfl
 | .pointer (some _),h=>by simp[flat] at h
 | .slice none _ _,_=>rfl
 | .slice (some _) _ _,h=>by simp[flat] at h
 | .map none,_=>rfl
 | .map (some _),h=>by simp[flat] at h
 | .chan _,h=>by simp[flat] at h
 | .func (.func g) ⟨f⟩ ⟨c⟩,h=>by
  simp only[flat,Z5] at h
  simp only[sc,uB0 n f h.1,uB0 n c h.2,Bool.and_self]
 | .func (.method _) _ _,h=>by simp[flat] at h
 | .func (.methodOf _ _) _ _,h=>by simp[flat] at h
 | .func (.via _ _ _ _) _ _,h=>by simp[flat] at h
 | .func (.yield _) _ _,h=>by simp[flat] at h
 | .nilFunc,_=>rfl
 | .iface t v,h=>by
  simp only[flat] at h
  simp only[sc,gB n v h]
 | .nilIface,_=>rfl
 | .agg ⟨cs⟩,h=>by
  simp only[flat] at h
  simp only[sc,uB0 n cs h]
 | .tuple ⟨cs⟩,h=>by
  simp only[flat] at h
  simp only[sc,uB0 n cs h]
theorem uB0 (n:Nat):∀ l,qT l=true→scL n l=true
 | [],_=>rfl
 | v :: vs,h=>by
  simp only[qT,Z5] at h
  simp only[scL,gB n v h.1,uB0 n vs h.2,Bool.and_self]
end
theorem qV {n:Nat}:∀ {l:List Z6},scL n l=true→∀ v∈l,sc n v=true
 | [],_,v,hv=>by cases hv
 | x :: xs,h,v,hv=>by
  simp only[scL,Z5] at h
  cases hv with
  | head=>exact h.1
  | tail _ hv=>exact qV h.2 v hv
theorem qQ {n:Nat}:∀ {l:List Z6},(∀ v∈l,sc n v=true)→scL n l=true
 | [],_=>rfl
 | x :: xs,h=>by
  simp only[scL,Z5]
  exact ⟨h x (List.mem_cons_self ..),qQ λv hv=>h v (List.mem_cons_of_mem _ hv)⟩
theorem wI0 (Γ:Gam)(v:Z6):(con Γ v).cells=v.cells.map (con Γ):=by
 cases v with
 | agg cs=>rw[qR0];simp[Value.cells]
 | tuple cs=>rw[jO0];simp[Value.cells,jO0]
 | func fn f c=>rw[bS];simp[Value.cells,bS]
 | pointer a=>cases a<;>simp[con,Value.cells]
 | slice a _ _=>cases a<;>simp[con,Value.cells]
 | map a=>cases a<;>simp[con,Value.cells]
 | float k i=>cases k<;>simp[con,Value.cells]
 | _=>simp[con,Value.cells]
theorem bP0 (Γ:Gam)(v:Z6):one (con Γ v)=one v:=by
 cases v with
 | agg cs=>rw[qR0];rfl
 | tuple cs=>rw[jO0];rfl
 | func fn f c=>rw[bS];rfl
 | pointer a=>cases a<;>rfl
 | slice a _ _=>cases a<;>rfl
 | map a=>cases a<;>rfl
 | float k i=>cases k<;>rfl
 | _=>rfl
theorem oF1 {α:Type}(P:Z9):∀ (s:Sem α) (a:α),pv P s=some a→∀ w,s.run P w=.ok a w:=by
 intro s
 induction s with
 | pure a=>intro b h w;simp only[pv,Option.some.injEq] at h;subst h;rfl
 | program k ih=>intro b h w;simp only[pv] at h;exact ih P b h w
 | mark m k ih=>intro b h w;simp only[pv] at h;exact ih b h w
 | load=>intro b h;simp[pv] at h
 | store=>intro b h;simp[pv] at h
 | new=>intro b h;simp[pv] at h
 | shape=>intro b h;simp[pv] at h
 | freeze=>intro b h;simp[pv] at h
 | frozen=>intro b h;simp[pv] at h
 | getObj=>intro b h;simp[pv] at h
 | setObj=>intro b h;simp[pv] at h
 | choose=>intro b h;simp[pv] at h
 | sys=>intro b h;simp[pv] at h
 | halt=>intro b h;simp[pv] at h
end Go.Ev
namespace Go.Ev
open Go Go.RowKit
theorem mL0 {α:Type}(a b:α)(j:Nat):(Bool.rec (motive:=λ_=>α) a b (Nat.beq (Nat.mod j 2) 0):α)=if j % 2=0 then b else a:=by
 have e:Nat.mod j 2=j % 2:=rfl
 rw[e]
 cases h:Nat.beq (j % 2) 0 with
 | true=>simp only[Nat.beq_eq] at h;simp[h]
 | false=>
  have:¬ j % 2=0:=λe=>by rw[e] at h;simp at h
  simp[this]
theorem VTr.get_nil (j:Nat):VTr.nil.get j=undef:=rfl
theorem VTr.get_node (l r:VTr)(v:Z6)(j:Nat):(VTr.node l v r).get j=if j=0 then v else if (j-1) % 2=0 then l.get ((j-1) / 2) else r.get ((j-1) / 2):=by
 cases j with
 | zero=>rfl
 | succ j=>
  have:(VTr.node l v r).get (j+1)=Bool.rec (motive:=λ_=>Z6) (r.get (Nat.div j 2)) (l.get (Nat.div j 2)) (Nat.beq (Nat.mod j 2) 0):=rfl
  rw[this,mL0]
  simp only[Nat.add_eq_zero_iff,Nat.succ_ne_self,and_false,if_false,Nat.add_sub_cancel]
  rfl
theorem VTr.go_succ (j:Nat)(x:Z6)(f:VTr→Nat→VTr)(l r:VTr)(v:Z6):VTr.go (j+1) x f l v r=if j % 2=0 then .node (f l (j / 2)) v r else .node l v (f r (j / 2)):=by
 have:VTr.go (j+1) x f l v r=Bool.rec (motive:=λ_=>VTr) (.node l v (f r (Nat.div j 2))) (.node (f l (Nat.div j 2)) v r) (Nat.beq (Nat.mod j 2) 0):=rfl
 rw[this,mL0]
 rfl
theorem VTr.go_zero (x:Z6)(f:VTr→Nat→VTr)(l r:VTr)(v:Z6):VTr.go 0 x f l v r=.node l x r:=rfl
theorem VTr.get_set:∀ (n:Nat) (t:VTr) (i:Nat) (x:Z6) (j:Nat),i+1<2 ^ n→(VTr.set n t i x).get j=if j=i then x else t.get j:=by
 intro n
 induction n with
 | zero=>intro t i x j h;simp at h
 | succ n ih=>
  intro t i x j h
  have main : ∀ (l r : VTr) (v : Z6), (∀ j, t.get j = (VTr.node l v r).get j) →
    (VTr.go i x (λt i=>VTr.set n t i x) l v r).get j=if j=i then x else t.get j:=by
   intro l r v ht
   rw[ht j]
   cases i with
   | zero=>
    simp only[VTr.go_zero,VTr.get_node]
    by_cases hj:j=0<;>simp[hj]
   | succ k=>
    have hk:k / 2+1<2 ^ n:=by rw[Nat.pow_succ] at h;omega
    rw[VTr.go_succ]
    by_cases hb:k % 2=0
    ·simp only[hb,if_true,VTr.get_node,ih l _ x _ hk]
     by_cases hj:j=0
     ·subst hj;simp
     ·simp only[hj,if_false]
      by_cases hp:(j-1) % 2=0
      ·simp only[hp,if_true]
       by_cases he:j=k+1
       ·subst he;simp
       ·rw[if_neg Z0,if_neg he]
      ·simp only[hp,if_false]
       rw[if_neg (by intro e;subst e;simp at hp;omega)]
    ·simp only[hb,if_false,VTr.get_node,ih r _ x _ hk]
     by_cases hj:j=0
     ·subst hj;simp
     ·simp only[hj,if_false]
      by_cases hp:(j-1) % 2=0
      ·simp only[hp,if_true]
       rw[if_neg (by intro e;subst e;simp at hp;omega)]
      ·simp only[hp,if_false]
       by_cases he:j=k+1
       ·subst he;simp
       ·rw[if_neg Z0,if_neg he]
  cases t with
  | nil=>exact main .nil .nil undef (λj=>by rw[VTr.get_nil,VTr.get_node];simp[VTr.get_nil])
  | node l v r=>exact main l r v (λj=>rfl)
theorem U_lt:U+1<2 ^ 60:=by unfold U;decide
theorem U_le:U≤100000000000000:=by unfold U;decide
theorem eP0:0<UC:=by unfold UC;decide
theorem U_UC:U<UC:=by unfold U UC;decide
theorem oO1 {α:Type}(a b:α)(i n:Nat):(Bool.rec (motive:=λ_=>α) a b (Nat.ble (Nat.succ i) n):α)=if i<n then b else a:=by
 cases h:Nat.ble (Nat.succ i) n with
 | true=>simp only[Nat.ble_eq] at h;rw[if_pos Z0]
 | false=>
  rw[if_neg]
  intro e
  have:Nat.ble (Nat.succ i) n=true:=by simp only[Nat.ble_eq];omega
  rw[this] at h;cases h
theorem VT.get_eq (T:VT)(i:Nat):T.get i=if i<T.sz then T.t.get i else undef:=by
 obtain ⟨sz,t⟩:=T
 exact oO1 _ _ _ _
theorem VT.set_eq (T:VT)(i:Nat)(v:Z6):T.set i v=if i<T.sz then ⟨T.sz,T.t.set 60 i v⟩ else T:=by
 obtain ⟨sz,t⟩:=T
 exact oO1 _ _ _ _
theorem VT.set_sz (T:VT)(i:Nat)(v:Z6):(T.set i v).sz=T.sz:=by
 rw[VT.set_eq];split<;>rfl
theorem VT.arr_size (T:VT):T.arr.size=T.sz:=by simp[VT.arr]
theorem VT.arr_get? (T:VT)(i:Nat):T.arr[i]?=if i<T.sz then some (T.t.get i) else none:=by
 simp only[VT.arr,List.getElem?_toArray,List.getElem?_map]
 by_cases h:i<T.sz
 ·simp[h]
 ·rw[if_neg h,List.getElem?_eq_none (by simp;omega)];rfl
theorem VT.arr_getD (T:VT)(i:Nat):T.arr.getD i undef=T.get i:=by
 rw[Array.getD_eq_getD_getElem?,VT.arr_get?,VT.get_eq]
 split<;>rfl
theorem VT.arr_set (T:VT)(hU:T.sz<U)(i:Nat)(v:Z6):(T.set i v).arr=T.arr.setIfInBounds i v:=by
 rw[VT.set_eq]
 split
 ·rename_i hi
  apply Array.ext_getElem?
  intro j
  rw[VT.arr_get?,Array.getElem?_setIfInBounds,VT.arr_get?,VT.arr_size]
  have hg:=VTr.get_set 60 T.t i v j (by have:=U_lt;omega)
  simp only[hg]
  by_cases hj:i=j
  ·subst hj;simp
  ·rw[if_neg hj,if_neg (Ne.symm hj)]
 ·rename_i hi
  apply Array.ext_getElem?
  intro j
  rw[Array.getElem?_setIfInBounds]
  by_cases hj:i=j
  ·subst hj;rw[if_pos rfl,VT.arr_size,if_neg hi,VT.arr_get?,if_neg hi]
  ·rw[if_neg hj]
theorem VT.fill_get:∀ (l:List Z6) (t:VTr) (i j:Nat),i+l.length<U→(VT.fill t i l).get j=if i≤j∧j<i+l.length then l.getD (j-i) undef else t.get j
 | [],t,i,j,_=>by
  simp only[VT.fill,List.length_nil]
  rw[if_neg Z0]
 | v :: vs,t,i,j,h=>by
  simp only[List.length_cons] at h
  simp only[VT.fill,List.length_cons]
  rw[VT.fill_get vs _ (i+1) j Z0,VTr.get_set 60 t i v j (by have:=U_lt;omega)]
  by_cases h1:i+1≤j∧j<i+1+vs.length
  ·rw[if_pos h1,if_pos Z0]
   have:j-i=(j-(i+1))+1:=Z0
   rw[this];rfl
  ·rw[if_neg h1]
   by_cases h2:j=i
   ·subst h2;rw[if_pos rfl,if_pos Z0];simp
   ·rw[if_neg h2,if_neg Z0]
theorem VT.of_arr (l:List Z6)(n:Nat)(hU:(VT.of l n).sz<U):(VT.of l n).arr=⟨l⟩++Array.replicate (n-l.length) undef:=by
 have hU':l.length+(n-l.length)<U:=hU
 apply Array.ext_getElem?
 intro j
 rw[VT.arr_get?]
 have hsz:(VT.of l n).sz=l.length+(n-l.length):=rfl
 have ht:(VT.of l n).t.get j=if 0≤j∧j<0+l.length then l.getD (j-0) undef else undef:=VT.fill_get l .nil 0 j Z0
 rw[hsz,ht,Array.getElem?_append]
 simp only[List.size_toArray,Nat.zero_le,true_and,Nat.zero_add,Nat.sub_zero]
 by_cases h1:j<l.length
 ·rw[if_pos Z0,if_pos h1,if_pos h1]
  simp[h1]
 ·rw[if_neg h1,if_neg h1]
  by_cases h2:j<l.length+(n-l.length)
  ·rw[if_pos h2,Array.getElem?_replicate,if_pos Z0]
  ·rw[if_neg h2,Array.getElem?_replicate,if_neg Z0]
theorem cU0:∀ (l:List (Nat×Z6)) (T:VT),(uG0 T l).sz=T.sz
 | [],_=>rfl
 | (t,v) :: l,T=>by rw[uG0,cU0 l,VT.set_sz]
theorem wQ0:∀ (l:List (Nat×Z6)) (T:VT),T.sz<U→(uG0 T l).arr=l.foldl (λtmps x=>tmps.setIfInBounds x.1 x.2) T.arr
 | [],_,_=>rfl
 | (t,v) :: l,T,h=>by rw[uG0,wQ0 l _ (by rw[VT.set_sz];exact h),VT.arr_set T h];rfl
theorem cD0 (n:Nat)(a:Z8 Addr):fscP n a=sc n (.pointer a):=by
 cases a with
 | none=>rfl
 | some a=>
  obtain ⟨b,o,s⟩:=a
  rfl
theorem fX0 (n:Nat)(a:Z8 Addr)(l c:Nat):fscP n a=sc n (.slice a l c):=by
 rw[cD0];cases a<;>simp[sc]
theorem bU1 (a b:Zb):(Bool.rec (motive:=λ_=>Zb) false b a:Zb)=(a&&b):=by cases a<;>rfl
theorem fR1 (n:Nat)(v:Z6):fsc1 n v=sc n v:=by
 cases v<;>first|rfl|exact cD0 n _|exact fX0 n _ _ _|simp[fsc1,sc]
theorem fY0 (n:Nat):∀ l,fscL n l=scL n l
 | []=>rfl
 | v :: l=>by
  have:fscL n (v :: l)=Bool.rec (motive:=λ_=>Zb) false (fscL n l) (fsc1 n v):=rfl
  rw[this,bU1,fR1,fY0 n l]
  simp[scL]
theorem lY0 (n:Nat)(v:Z6):fsc n v=sc n v:=by
 cases v with
 | agg cs=>obtain ⟨l⟩:=cs;exact (fY0 n l).trans (by simp[sc])
 | tuple cs=>obtain ⟨l⟩:=cs;exact (fY0 n l).trans (by simp[sc])
 | pointer a=>exact cD0 n a
 | slice a l c=>exact fX0 n a l c
 | _=>first | rfl | simp[fsc,sc]
theorem qO0 (n:Nat)(v:Z6):fone n v=(one v&&sc n v):=by
 cases v<;>first|rfl|exact cD0 n _|exact fX0 n _ _ _|simp[fone,one,sc]
theorem kU (n:Nat):∀ l,jT n l=(l.all one&&scL n l)
 | []=>rfl
 | v :: l=>by
  have:jT n (v :: l)=Bool.rec (motive:=λ_=>Zb) false (jT n l) (fone n v):=rfl
  rw[this,bU1,qO0,kU n l]
  simp only[List.all_cons,scL]
  cases one v<;>cases sc n v<;>cases l.all one<;>rfl
theorem bI0:∀ (n:Nat) (l r:List Z6),qD0 n l=some r→n≤l.length∧r=l.take n
 | 0,l,r,h=>by
  have:qD0 0 l=some []:=rfl
  rw[this] at h;cases h;simp
 | n+1,[],r,h=>by
  have:qD0 (n+1) []=none:=rfl
  rw[this] at h;cases h
 | n+1,v :: l,r,h=>by
  have:qD0 (n+1) (v :: l)=Option.rec (motive:=λ_=>Z8 (List Z6)) none (λx=>some (v :: x)) (qD0 n l):=rfl
  rw[this] at h
  cases ht:qD0 n l with
  | none=>rw[ht] at h;cases h
  | some x=>
   rw[ht] at h
   have h':some (v :: x)=some r:=h
   cases h'
   obtain ⟨h1,h2⟩:=bI0 n l x ht
   exact ⟨by simp;omega,by rw[h2];simp⟩
theorem cI0:∀ (n:Nat) (l r:List Z6),yI0 n l=some r→n≤l.length∧r=l.drop n
 | 0,l,r,h=>by
  have:yI0 0 l=some l:=rfl
  rw[this] at h;cases h;simp
 | n+1,[],r,h=>by
  have:yI0 (n+1) []=none:=rfl
  rw[this] at h;cases h
 | n+1,v :: l,r,h=>by
  have:yI0 (n+1) (v :: l)=yI0 n l:=rfl
  rw[this] at h
  obtain ⟨h1,h2⟩:=cI0 n l r h
  exact ⟨by simp;omega,by rw[h2];simp⟩
theorem lA0 {cs:List Z6}{off n:Nat}{r:List Z6}(h:takeN cs off n=some r):off+n≤cs.length∧r=(cs.drop off).take n:=by
 unfold takeN at h
 cases hd:yI0 off cs with
 | none=>rw[hd] at h;cases h
 | some l=>
  rw[hd] at h
  have h':qD0 n l=some r:=h
  obtain ⟨h1,h2⟩:=cI0 _ _ _ hd
  obtain ⟨h3,h4⟩:=bI0 _ _ _ h'
  subst h2
  simp at h3
  exact ⟨Z0,h4⟩
theorem lB0:∀ (n:Nat) (l:List Z6),n≤l.length→qD0 n l=some (l.take n)
 | 0,l,_=>by
  have:qD0 0 l=some []:=rfl
  rw[this];simp
 | n+1,[],h=>by simp at h
 | n+1,v :: l,h=>by
  have:qD0 (n+1) (v :: l)=Option.rec (motive:=λ_=>Z8 (List Z6)) none (λx=>some (v :: x)) (qD0 n l):=rfl
  rw[this,lB0 n l (by simpa using h)]
  rfl
theorem rA0 (cs:List Z6){n:Nat}(h:cs.length=n):takeN cs 0 n=some cs:=by
 have:takeN cs 0 n=qD0 n cs:=rfl
 rw[this,lB0 n cs Z0,List.take_of_length_le Z0]
theorem lK0:∀ (vs cs r:List Z6),kR0 vs cs=some r→vs.length≤cs.length∧r=vs++cs.drop vs.length
 | [],cs,r,h=>by
  have:kR0 [] cs=some cs:=rfl
  rw[this] at h;cases h;simp
 | v :: vs,[],r,h=>by
  have:kR0 (v :: vs) []=none:=rfl
  rw[this] at h;cases h
 | v :: vs,c :: cs,r,h=>by
  have:kR0 (v :: vs) (c :: cs)=Option.rec (motive:=λ_=>Z8 (List Z6)) none (λx=>some (v :: x)) (kR0 vs cs):=rfl
  rw[this] at h
  cases ht:kR0 vs cs with
  | none=>rw[ht] at h;cases h
  | some x=>
   rw[ht] at h
   have h':some (v :: x)=some r:=h
   cases h'
   obtain ⟨h1,h2⟩:=lK0 vs cs x ht
   exact ⟨by simp;omega,by rw[h2];simp⟩
theorem fC0:∀ (n:Nat) (vs cs r:List Z6),setE n vs cs=some r→n+vs.length≤cs.length∧r=jJ cs n vs
 | 0,vs,cs,r,h=>by
  have:setE 0 vs cs=kR0 vs cs:=rfl
  rw[this] at h
  obtain ⟨h1,h2⟩:=lK0 vs cs r h
  exact ⟨Z0,by rw[h2];simp[jJ]⟩
 | n+1,vs,[],r,h=>by
  have:setE (n+1) vs []=none:=rfl
  rw[this] at h;cases h
 | n+1,vs,c :: cs,r,h=>by
  have:setE (n+1) vs (c :: cs)=Option.rec (motive:=λ_=>Z8 (List Z6)) none (λx=>some (c :: x)) (setE n vs cs):=rfl
  rw[this] at h
  cases ht:setE n vs cs with
  | none=>rw[ht] at h;cases h
  | some x=>
   rw[ht] at h
   have h':some (c :: x)=some r:=h
   cases h'
   obtain ⟨h1,h2⟩:=fC0 n vs cs x ht
   refine ⟨by simp;omega,?_⟩
   rw[h2]
   simp only[jJ,List.take_succ_cons,List.cons_append]
   rw[show n+1+vs.length=(n+vs.length)+1 by omega,List.drop_succ_cons]
theorem kM0 {cs vs r:List Z6}{off:Nat}(h:setN cs off vs=some r):off+vs.length≤cs.length∧r=jJ cs off vs:=fC0 off vs cs r h
end Go.Ev
namespace Go.Ev
open Go Go.RowKit
structure Tm (Γ:Gam)(NG:Nat)(tm:VT)(ca:Act):Prop where
 sm:tm.sz<U
 tm:ca.tmps=tm.arr.map (con Γ)
 gl:∀ g,g<NG→Γ.b g=g
theorem qQ0 (Γ:Gam):con Γ undef=undef:=rfl
theorem Tm.eval {Γ:Gam}{NG:Nat}{tm:VT}{ca:Act}(h:Tm Γ NG tm ca){x:Zo}(hx:qJ0 NG x=true):ca.eval x=con Γ (ev tm x):=by
 cases x with
 | tmp t=>
  have e:ev tm (.tmp t)=tm.get t:=rfl
  rw[e,← VT.arr_getD]
  simp only[Act.eval,h.tm,Array.getD_eq_getD_getElem?,Array.getElem?_map]
  cases tm.arr[t]?<;>simp[qQ0]
 | const v=>exact (qC Γ v hx).symm
 | global g=>
  have hg:g<NG:=by simpa[qJ0] using hx
  have e:ev tm (.global g)=.pointer (some ⟨g,0,none⟩):=rfl
  rw[e]
  simp[Act.eval,con,uZ,h.gl g hg]
 | func f=>
  have e:ev tm (.func f)=.func (.func f) #[] #[]:=rfl
  rw[e]
  simp[Act.eval,con,wY0,conL]
theorem qU0:∀ (a b:List Zu),beqB a b=(a == b)
 | [],[]=>rfl
 | [],_ :: _=>rfl
 | _ :: _,[]=>rfl
 | x :: xs,y :: ys=>by
  have h:Nat.beq x.toNat y.toNat=(x == y):=by
   by_cases e:x=y
   ·subst e;simp
   ·have:x.toNat≠y.toNat:=λh=>e (UInt8.toNat_inj.1 h)
    have h1:Nat.beq x.toNat y.toNat=false:=by
     rw[Bool.eq_false_iff];intro h;exact this (Nat.eq_of_beq_eq_true h)
    rw[h1];simp[e]
  simp only[beqB,h,List.cons_beq_cons]
  cases hxy:(x == y) with
  | false=>simp
  | true=>simp[qU0 xs ys]
theorem kZ {P:Z9}{s:Sem Z6}{x:Zb}{v:Z6}(h:pvF P s x=some v):x=true∧flat v=true∧∀ w,s.run P w=.ok v w:=by
 unfold pvF at h
 cases x with
 | false=>simp at h
 | true=>
  cases hp:pv P s with
  | none=>simp[hp] at h
  | some u=>
   cases hf:flat u with
   | false=>simp[hp,hf] at h
   | true=>
    simp[hp,hf] at h
    subst h
    exact ⟨rfl,hf,oF1 P s u hp⟩
theorem jM {P:Z9}{t:Zt}{d:TypeDesc}(h:P.underlying t=some d)(w:Zw):(underlying t).run P w=.ok d w:=by
 simp[underlying,h]
theorem zJ0 {P:Z9}{t e:Zt}(hu:P.underlying t=some (.slice e))(a:Z8 Addr)(n c n' c':Nat)(w:Zw) :
  (Op.equal t (.slice a n c) (.slice none n' c')).run P w=.ok a.isNone w:=by
 have h:∀ d:Nat,(Op.equalIn (d+1) t (.slice a n c) (.slice none n' c')).run P w=.ok a.isNone w:=λd=>by
  cases a<;>simp[Op.equalIn,jM hu]
 exact h 9999
theorem uH0 {P:Z9}{t e:Zt}(hu:P.underlying t=some (.pointer e))(a:Z8 Addr)(w:Zw) :
  (Op.equal t (.pointer a) (.pointer none)).run P w=.ok a.isNone w:=by
 have h:∀ d:Nat,(Op.equalIn (d+1) t (.pointer a) (.pointer none)).run P w=.ok a.isNone w:=λd=>by
  cases a<;>simp[Op.equalIn,jM hu]
 exact h 9999
theorem gG0 {P:Z9}{t k e:Zt}(hu:P.underlying t=some (.map k e))(a:Z8 Nat)(w:Zw) :
  (Op.equal t (.map a) (.map none)).run P w=.ok a.isNone w:=by
 have h:∀ d:Nat,(Op.equalIn (d+1) t (.map a) (.map none)).run P w=.ok a.isNone w:=λd=>by
  cases a<;>simp[Op.equalIn,jM hu]
 exact h 9999
theorem iK0 {P:Z9}{op:BinOp}{t:Zt}{x y:Zo}{a b v:Z6}(Γ:Gam)(h:jF P op t x y a b=some v)(w:Zw) :
  (do eqGuard op t x y (con Γ a) (con Γ b);binOp op t (con Γ a) (con Γ b):Sem Z6).run P w=.ok (con Γ v) w:=by
 unfold jF at h
 split at h
 ·injection h with h;subst h
  simp[con,eqGuard,binOp,Op.stringOp,qU0,ByteArray.toList_eq]
 ·injection h with h;subst h
  simp[con,eqGuard,binOp,Op.stringOp,qU0,ByteArray.toList_eq]
 ·rename_i u n c n' c'
  split at h<;>cases h
  rename_i e hu
  cases u<;>simp[con,eqGuard,binOp,zJ0 hu]
 ·rename_i u n c n' c'
  split at h<;>cases h
  rename_i e hu
  cases u<;>simp[con,eqGuard,binOp,zJ0 hu]
 ·rename_i u
  split at h<;>cases h
  rename_i e hu
  cases u<;>simp[con,eqGuard,binOp,uH0 hu]
 ·rename_i u
  split at h<;>cases h
  rename_i e hu
  cases u<;>simp[con,eqGuard,binOp,uH0 hu]
 ·rename_i u
  split at h<;>cases h
  rename_i e hu
  cases u<;>simp[con,eqGuard,binOp,gG0 hu]
 ·rename_i u
  split at h<;>cases h
  rename_i e hu
  cases u<;>simp[con,eqGuard,binOp,gG0 hu]
 ·obtain ⟨hf,hv,hr⟩:=kZ h
  rw[Z5] at hf
  rw[qC Γ a hf.1,qC Γ b hf.2,qC Γ v hv]
  exact hr w
theorem kG {P:Z9}{t:Zt}{n:Nat}(h:szT P t=some n)(w:Zw):(sizeOf t).run P w=.ok n w:=by
 unfold szT at h
 split at h<;>cases h
 rename_i i hi
 simp[sizeOf,typeInfo,hi]
theorem uX0 {P:Z9}{t:Zt}{b:Zb}(h:gM0 P t=some b)(w:Zw):(isAgg t).run P w=.ok b w:=by
 unfold gM0 at h
 split at h<;>cases h
 ·rename_i hu;simp[isAgg,jM hu]
 ·rename_i hu;simp[isAgg,jM hu]
 ·rename_i d h1 h2 hu
  simp only[isAgg,Sem.run_bind,jM hu,Result.andThen_ok]
  cases d<;>simp_all
theorem dD0 {P:Z9}{t:Zt}{cs:List Z6}{off:Nat}{v:Z6}(Γ:Gam)(h:kP0 P t cs off=some v)(w:Zw) :
  (part t ((⟨cs⟩:Array Z6).map (con Γ)) off).run P w=.ok (con Γ v) w:=by
 unfold kP0 at h
 split at h
 ·rename_i ha
  split at h
  case h_2=>cases h
  rename_i n hn
  split at h
  case h_2=>cases h
  rename_i l hl
  split at h<;>cases h
  rename_i l' hl'
  obtain ⟨_,rfl⟩:=cI0 _ _ _ hl
  obtain ⟨_,rfl⟩:=bI0 _ _ _ hl'
  simp only[part,Sem.run_bind,uX0 ha,Result.andThen_ok,if_true,kG hn,Sem.run_pure]
  congr 1
  rw[qR0]
  congr 1
  apply Array.ext'
  simp[List.map_take,List.map_drop,List.extract_eq_take_drop]
 ·rename_i ha
  simp[part,uX0 ha,h]
 ·cases h
theorem kN0 (cs vs:List Z6)(off:Nat)(h:off+vs.length≤cs.length) :
  (vs.zipIdx.foldl (λ(cs:Array Z6) (x:Z6×Nat)=>cs.setIfInBounds (off+x.2) x.1) ⟨cs⟩)=⟨jJ cs off vs⟩:=by
 have key : ∀ (vs : List Z6) (k : Nat) (cs : List Z6), off + k + vs.length ≤ cs.length →
   ((vs.zipIdx k).foldl (λ(cs:Array Z6) (x:Z6×Nat)=>cs.setIfInBounds (off+x.2) x.1) ⟨cs⟩)=⟨jJ cs (off+k) vs⟩:=by
  intro vs
  induction vs with
  | nil=>intro k cs _;simp[jJ]
  | cons v vs ih=>
   intro k cs hl
   simp only[List.length_cons] at hl
   simp only[List.zipIdx_cons,List.foldl_cons]
   rw[show ((⟨cs⟩:Array Z6).setIfInBounds (off+k) v)=⟨cs.set (off+k) v⟩ by apply Array.ext';simp]
   rw[ih (k+1) _ (by simp;omega)]
   congr 1
   simp only[jJ,← Nat.add_assoc,List.length_cons]
   rw[List.take_set,List.drop_set]
   rw[if_pos Z0]
   have h1:cs.take (off+k+1)=cs.take (off+k)++[cs[off+k]'Z0]:=by
    rw[List.take_succ_eq_append_getElem]
   rw[h1]
   rw[List.set_append_right _ _ (by simp;omega)]
   have h2:off+k-(List.take (off+k) cs).length=0:=by simp;omega
   rw[h2]
   simp only[List.set_cons_zero,List.append_assoc,List.cons_append,List.nil_append]
   rw[show off+k+1+vs.length=off+k+vs.length+1 by omega]
 simpa using key vs 0 cs (by simpa using h)
theorem jC0 (Γ:Gam)(cs vs:List Z6)(off:Nat):(jJ cs off vs).map (con Γ)=jJ (cs.map (con Γ)) off (vs.map (con Γ)):=by
 simp[jJ]
theorem yE0 (Γ:Gam)(place:Nat→Z8 (Nat×Nat)):∀ (parts:List (Nat×Z6)) (cs out:List Z6),zT0 place cs parts=some out→
  Instr.fill place ⟨cs.map (con Γ)⟩ (parts.map λx=>(x.1,con Γ x.2))=some ⟨out.map (con Γ)⟩:=by
 intro parts
 induction parts with
 | nil=>intro cs out h;simp only[zT0,Option.some.injEq] at h;subst h;simp[Instr.fill]
 | cons x rest ih=>
  obtain ⟨i,v⟩:=x
  intro cs out h
  simp only[zT0] at h
  cases hp:place i with
  | none=>simp[hp] at h
  | some os=>
   obtain ⟨off,size⟩:=os
   simp only[hp] at h
   split at h
   ·rename_i hb
    simp only[Nat.beq_eq] at hb
    split at h
    case h_2=>cases h
    rename_i cs' hcs
    obtain ⟨hb2,rfl⟩:=fC0 _ _ _ _ hcs
    simp only[List.map_cons,Instr.fill,hp,wI0,Array.size_map]
    rw[if_neg (by simp[hb];simpa[hb] using hb2)]
    have hz:(v.cells.map (con Γ)).zipIdx.foldl (λ(cs:Array Z6) (x:Z6×Nat)=>cs.setIfInBounds (off+x.2) x.1) ⟨cs.map (con Γ)⟩=⟨(jJ cs off v.cells.toList).map (con Γ)⟩:=by
     rw[jC0,← kN0 _ _ _ (by simpa using hb2),← Array.foldl_toList]
     simp
    exact (congrArg (λc=>Instr.fill place c _) hz).trans (ih _ _ h)
   ·cases h
theorem dZ0 {v:Z6}(h:flat v=true):qT v.cells.toList=true:=by
 cases v with
 | agg cs=>obtain ⟨l⟩:=cs;simpa[flat,Value.cells] using h
 | _=>simp_all [Value.cells,qT]
theorem wX0 {v:Z6}(Γ:Gam)(h:flat v=true):v.cells.toList.map (con Γ)=v.cells.toList:=by
 rw[← bF];exact gW Γ _ (dZ0 h)
theorem dC0 {P:Z9}{w:Zw}:∀ {fs:List Field} {pl:List (Nat×Nat)},placesOf P fs=some pl→
  (fs.mapM λf=>do pure (f.offset,← sizeOf f.type):Sem (List (Nat×Nat))).run P w=.ok pl w:=by
 intro fs
 induction fs with
 | nil=>intro pl h;simp[placesOf] at h;subst h;simp
 | cons f fs ih=>
  intro pl h
  simp only[placesOf] at h
  split at h<;>cases h
  rename_i n l hn hl
  simp only[List.mapM_cons,Sem.run_bind,kG hn,Result.andThen_ok,Sem.run_pure,ih hl]
theorem oB0 {P:Z9}{t:Zt}{parts:List (Nat×Z6)}{v:Z6}(Γ:Gam)(h:zN0 P t parts=some v)(w:Zw) :
  (Instr.build t ⟨parts.map λx=>(x.1,con Γ x.2)⟩).run P w=.ok (con Γ v) w:=by
 unfold zN0 at h
 split at h
 ·cases h
 rename_i i hi
 split at h
 ·cases h
 rename_i z hz
 split at h
 ·rename_i fs hf hu
  split at h
  ·rename_i pl hpl
   split at h<;>cases h
   rename_i cs hcs
   have hr:=yE0 Γ _ _ _ _ hcs
   rw[wX0 Γ hf] at hr
   have hm:(fs.mapM λf=>do pure (f.offset,← sizeOf f.type):Sem (Array (Nat×Nat))).run P w=.ok ⟨pl⟩ w:=by
    have h2:=dC0 (w:=w) hpl
    obtain ⟨fs⟩:=fs
    rw[List.mapM_toArray]
    simp only[Sem.run_map]
    simp only at h2
    rw[h2]
    simp
   have hr':Instr.fill (λx=>(⟨pl⟩:Array (Nat×Nat))[x]?) z.cells (parts.map λx=>(x.1,con Γ x.2))=some ⟨cs.map (con Γ)⟩:=by
    simpa using hr
   simp only[Instr.build,Sem.run_bind,zeroValue,typeInfo,run_program,Result.andThen_ok,hi,Sem.run_pure,hz,jM hu]
   rw[hm]
   simp only[Result.andThen_ok]
   simp only[hr',Sem.run_pure,qR0]
   simp
  ·cases h
 ·rename_i n e hf hu
  split at h
  ·rename_i n' hn
   split at h<;>cases h
   rename_i cs hcs
   have hr:=yE0 Γ _ _ _ _ hcs
   rw[wX0 Γ hf] at hr
   simp only[Instr.build,Sem.run_bind,zeroValue,typeInfo,run_program,Result.andThen_ok,hi,Sem.run_pure,hz,jM hu,kG hn]
   have hr':Instr.fill (λi=>some (i*n',n')) z.cells (parts.map λx=>(x.1,con Γ x.2))=some ⟨cs.map (con Γ)⟩:=hr
   simp only[hr',Sem.run_pure,qR0]
   simp
  ·cases h
 ·cases h
theorem uD0 (Γ:Gam)(a:Addr)(n:Nat):(uZ Γ a).add n=uZ Γ (a.add n):=by
 unfold Addr.add uZ
 split<;>rfl
theorem gU {P:Z9}{w:Zw}(Γ:Gam){k:IntKind}{n y:Nat}{code:BoundsCode}(h:n≤y) :
  (Instr.sliceBound (con Γ (.int k (n:Int))) y code).run P w=.ok n w:=by
 simp only[con]
 have:=run_sliceBound (P:=P) w k (n:Int) y code (Int.natCast_nonneg n) (Int.ofNat_le.2 h)
 simpa using this
theorem bK {len top:Nat}{mx hi lo:Z8 Z6}{l h:Nat}{m:Z8 Nat}(hb:bounds len top mx hi lo=some (l,h,m)) :
  ((mx=none∧m=none)∨∃ k mm,mx=some (.int k (.ofNat mm))∧m=some mm∧mm≤top)∧
   ((hi=none∧m=none∧h=len)∨(∃ k,hi=some (.int k (.ofNat h))∧h≤m.getD top))∧
   ((lo=none∧l=0)∨(∃ k,lo=some (.int k (.ofNat l))∧l≤h)):=by
 unfold bounds at hb
 split at hb
 ·cases hb
 rename_i m' hm
 split at hb
 ·cases hb
 rename_i h' hh
 split at hb
 ·cases hb
 rename_i l' hl
 cases hb
 refine ⟨?_,?_,?_⟩
 ·split at hm
  ·cases hm;exact .inl ⟨rfl,rfl⟩
  ·rename_i k mm
   split at hm<;>cases hm
   rename_i hle
   exact .inr ⟨k,mm,rfl,rfl,by simpa using hle⟩
  ·cases hm
 ·split at hh
  ·cases hh;exact .inl ⟨rfl,rfl,rfl⟩
  ·cases hh
  ·rename_i k hv
   split at hh<;>cases hh
   rename_i hle
   exact .inr ⟨k,rfl,by simpa using hle⟩
  ·rename_i k hv mm
   split at hh<;>cases hh
   rename_i hle
   exact .inr ⟨k,rfl,by simpa using hle⟩
  ·cases hh
 ·split at hl
  ·cases hl;exact .inl ⟨rfl,rfl⟩
  ·rename_i k lv
   split at hl<;>cases hl
   rename_i hle
   exact .inr ⟨k,rfl,by simpa using hle⟩
  ·cases hl
theorem jP0 {P:Z9}{w:Zw}{len top cap:Nat}{mx hi lo:Z8 Z6}{l h:Nat}{m:Z8 Nat}(Γ:Gam)(isS:Zb)
  (hb:bounds len top mx hi lo=some (l,h,m)) (ht:top≤cap) :
  (Instr.sliceBounds isS len cap (lo.map (con Γ)) (hi.map (con Γ)) (mx.map (con Γ))).run P w=.ok (l,h,m.getD cap) w:=by
 have key:=bK hb
 obtain ⟨k1,k2,k3⟩:=key
 rcases k1 with ⟨rfl,rfl⟩|⟨k,mm,rfl,rfl,hmm⟩
 ·rcases k2 with ⟨rfl,_,rfl⟩|⟨k,rfl,hh⟩
  ·rcases k3 with ⟨rfl,rfl⟩|⟨k,rfl,hl⟩
   ·simp[Instr.sliceBounds]
   ·simp[Instr.sliceBounds,gU Γ hl]
  ·have hh':h≤cap:=by simp at hh;omega
   rcases k3 with ⟨rfl,rfl⟩|⟨k,rfl,hl⟩
   ·simp[Instr.sliceBounds,gU Γ hh']
   ·simp[Instr.sliceBounds,gU Γ hh',gU Γ hl]
 ·have hmm':mm≤cap:=Z0
  rcases k2 with ⟨_,h0,_⟩|⟨k,rfl,hh⟩
  ·cases h0
  ·simp only[Option.getD_some] at hh
   rcases k3 with ⟨rfl,rfl⟩|⟨k,rfl,hl⟩
   ·simp[Instr.sliceBounds,gU Γ hmm',gU Γ hh]
   ·simp[Instr.sliceBounds,gU Γ hmm',gU Γ hh,gU Γ hl]
theorem bM0 {P:Z9}{w:Zw}{t:Zt}{a:Z8 Addr}{len cap:Nat}{lo hi mx:Z8 Z6}{v:Z6}(Γ:Gam)
  (h:kC P t a len cap lo hi mx=some v) :
  (Instr.sliceAt t (con Γ (.slice a len cap)) (lo.map (con Γ)) (hi.map (con Γ)) (mx.map (con Γ))).run P w=.ok (con Γ v) w:=by
 unfold kC at h
 split at h
 ·rename_i e hu
  split at h
  ·rename_i size hs hc
   split at h
   ·rename_i l hh m hb
    have hlt:cap<UC:=by simpa using hc
    have hc':∀ a:Z8 Addr,con Γ (.slice a len cap)=.slice (a.map (uZ Γ)) len cap:=by
     intro a;cases a with
     | none=>simp[con]
     | some a=>simp[con,qN,hlt]
    have hc2:∀ (a:Z8 Addr) (n c:Nat),c≤cap→con Γ (.slice a n c)=.slice (a.map (uZ Γ)) n c:=by
     intro a n c hcc;cases a with
     | none=>simp[con]
     | some a=>simp[con,qN,show c<UC by omega]
    rw[hc' a]
    have hbr:=jP0 (P:=P) (w:=w) Γ true hb (Z3 _)
    have hml:m.getD cap≤cap:=by
     rcases (bK hb).1 with ⟨_,rfl⟩|⟨k,mm,_,rfl,hle⟩
     ·simp
     ·simpa using hle
    simp only[Instr.sliceAt,Instr.slice,Sem.run_bind,jM hu,Result.andThen_ok,hbr,kG hs,Sem.run_pure]
    dsimp only at h
    split at h
    ·rename_i he
     simp only[Nat.beq_eq] at he
     cases h
     rw[hc2 _ _ _ Z0,if_pos he]
    ·rename_i he
     have he':m.getD cap≠l:=λe=>by rw[e] at he;simp at he
     cases h
     rw[hc2 _ _ _ Z0,if_neg he']
     cases a<;>simp[uD0]
   ·cases h
  ·cases h
 ·cases h
theorem cS0 {P:Z9}{w:Zw}{t:Zt}{a:Addr}{lo hi mx:Z8 Z6}{v:Z6}(Γ:Gam)(h:qW0 P t a lo hi mx=some v) :
  (Instr.sliceAt t (con Γ (.pointer (some a))) (lo.map (con Γ)) (hi.map (con Γ)) (mx.map (con Γ))).run P w=.ok (con Γ v) w:=by
 unfold qW0 at h
 split at h
 ·rename_i n e hu
  split at h
  ·rename_i size hs hc
   split at h
   ·rename_i l hh m hb
    have hlt : n < UC := by have h1 : n < U := by simpa using hc
                            have:=U_UC;omega
    have hc2:∀ (a:Addr) (k c:Nat),c≤n→con Γ (.slice (some a) k c)=.slice (some (uZ Γ a)) k c:=by
     intro a k c hcc
     simp[con,qN,show c<UC by omega]
    have hbr:=jP0 (P:=P) (w:=w) Γ false hb (Z3 _)
    have hml:m.getD n≤n:=by
     rcases (bK hb).1 with ⟨_,rfl⟩|⟨k,mm,_,rfl,hle⟩
     ·simp
     ·simpa using hle
    simp only[con,Instr.sliceAt,Instr.sureAddr,Sem.run_bind,jM hu,Result.andThen_ok,hbr,kG hs,Sem.run_pure]
    dsimp only at h
    split at h
    ·rename_i he
     simp only[Nat.beq_eq] at he
     cases h
     rw[hc2 _ _ _ Z0,if_pos he]
    ·rename_i he
     have he':m.getD n≠l:=λe=>by rw[e] at he;simp at he
     cases h
     rw[hc2 _ _ _ Z0,if_neg he',uD0]
   ·cases h
  ·cases h
 ·cases h
end Go.Ev
namespace Go.Ev
open Go Go.RowKit
theorem gQ0 {P:Z9}{Γ:Gam}{NG:Nat}{tm:VT}{ca:Act}{o:Oper}{v:Z6}(ht:Tm Γ NG tm ca)
  (hop:o.op.operands.all (qJ0 NG)=true) (h:bB P o tm=some v) (w:Zw) :
  (execOp ca.eval o).run P w=.ok (.value (con Γ v)) w:=by
 have he:∀ x∈o.op.operands,ca.eval x=con Γ (ev tm x):=λx hx=>ht.eval (by
  rw[Array.all_eq_true_iff_forall_mem] at hop;exact hop x hx)
 unfold bB at h
 split at h
 ·rename_i x ho
  cases h
  simp[execOp,ho,he x (by simp[ho,Op.operands])]
 ·rename_i x ho
  cases h
  simp[execOp,ho,he x (by simp[ho,Op.operands])]
 ·rename_i c a b ho
  have hc:=he c (by simp[ho,Op.operands])
  have ha:=he a (by simp[ho,Op.operands])
  have hb:=he b (by simp[ho,Op.operands])
  split at h<;>cases h
  ·rename_i hx;simp[execOp,ho,hc,hx,ha,con,asBool]
  ·rename_i hx;simp[execOp,ho,hc,hx,hb,con,asBool]
 ·rename_i t i ho
  have hc:=he t (by simp[ho,Op.operands])
  split at h
  ·rename_i vs hx
   simp[execOp,ho,hc,hx,jO0,Instr.extract,h]
  ·cases h
 ·rename_i op t x y yt ho
  have hx:=he x (by simp[ho,Op.operands])
  have hy:=he y (by simp[ho,Op.operands])
  have hr:=iK0 Γ h w
  simp only[Sem.run_bind] at hr
  simp only[execOp,ho,Sem.run_bind,hx,hy,hr,Result.andThen_ok,Sem.run_pure]
 ·rename_i op t x ho
  have hx:=he x (by simp[ho,Op.operands])
  obtain ⟨hf,hv,hr⟩:=kZ h
  simp[execOp,ho,hx,qC Γ _ hf,hr w,qC Γ _ hv]
 ·rename_i s d x ho
  have hx:=he x (by simp[ho,Op.operands])
  obtain ⟨hf,hv,hr⟩:=kZ h
  simp[execOp,ho,hx,qC Γ _ hf,hr w,qC Γ _ hv]
 ·rename_i s x f ho
  have hx:=he x (by simp[ho,Op.operands])
  split at h
  ·rename_i fs a hu hxe
   split at h
   ·rename_i fl hfl
    split at h<;>cases h
    rename_i n hn
    simp[execOp,ho,hx,hxe,con,Instr.fieldAt,jM hu,hfl,Instr.sureAddr,fieldPlace,kG hn,uD0]
   ·cases h
  ·cases h
 ·rename_i t x f ho
  have hx:=he x (by simp[ho,Op.operands])
  split at h
  ·rename_i fs cs hu hxe
   split at h
   ·rename_i fl hfl
    have hp:=dD0 Γ h w
    simp only[Array.toArray_toList] at hp
    simp[execOp,ho,hx,hxe,qR0,Instr.field,jM hu,hfl,asAgg,hp]
   ·cases h
  ·cases h
 ·rename_i t x i ho
  have hx:=he x (by simp[ho,Op.operands])
  have hi:=he i (by simp[ho,Op.operands])
  split at h
  ·rename_i e a len c k n hu hxe hie
   split at h<;>cases h
   rename_i size hlt hs
   simp only[Nat.blt_eq] at hlt
   simp[execOp,ho,hx,hxe,hi,hie,con,Instr.indexAt,asIntOf,jM hu,kG hs,uD0,hlt]
  ·rename_i len e a k n hu hxe hie
   split at h<;>cases h
   rename_i size hlt hs
   simp only[Nat.blt_eq] at hlt
   simp[execOp,ho,hx,hxe,hi,hie,con,Instr.indexAt,asIntOf,jM hu,kG hs,uD0,hlt,Instr.sureAddr]
  ·cases h
 ·rename_i t x i ho
  have hx:=he x (by simp[ho,Op.operands])
  have hi:=he i (by simp[ho,Op.operands])
  split at h
  ·rename_i s k n hxe hie
   obtain ⟨_,hv,hr⟩:=kZ h
   simp[execOp,ho,hx,hxe,hi,hie,con,hr w,qC Γ _ hv]
  ·rename_i cs k n hxe hie
   split at h
   ·rename_i len e hu
    split at h
    ·rename_i size hlt hs
     simp only[Nat.blt_eq] at hlt
     have hp:=dD0 Γ h w
     simp only[Array.toArray_toList] at hp
     simp[execOp,ho,hx,hxe,hi,hie,qR0,con,Instr.index,asIntOf,jM hu,kG hs,hlt,hp]
    ·cases h
   ·cases h
  ·cases h
 ·rename_i t x lo hi mx ho
  have hx:=he x (by simp[ho,Op.operands])
  have hlo:lo.map ca.eval=(lo.map (ev tm)).map (con Γ):=by
   cases lo with
   | none=>rfl
   | some y=>simp[he y (by simp[ho,Op.operands])]
  have hhi:hi.map ca.eval=(hi.map (ev tm)).map (con Γ):=by
   cases hi with
   | none=>rfl
   | some y=>simp[he y (by simp[ho,Op.operands])]
  have hmx:mx.map ca.eval=(mx.map (ev tm)).map (con Γ):=by
   cases mx with
   | none=>rfl
   | some y=>simp[he y (by simp[ho,Op.operands])]
  have fl:∀ x:Z8 Z6,x.all flat=true→x.map (con Γ)=x:=λx hx=>by
   cases x with
   | none=>rfl
   | some y=>simp at hx;simp[qC Γ y hx]
  split at h
  ·rename_i s hxe
   obtain ⟨hf,hv,hr⟩:=kZ h
   simp only[Z5] at hf
   simp only[execOp,ho,hx,hxe,con,hlo,hhi,hmx,fl _ hf.1.1,fl _ hf.1.2,fl _ hf.2,Sem.run_bind,hr w,Result.andThen_ok,Sem.run_pure,qC Γ _ hv]
  ·rename_i a n c hxe
   have hr:=bM0 (w:=w) Γ h
   simp only[execOp,ho,hx,hxe,hlo,hhi,hmx,Sem.run_bind,hr,Result.andThen_ok,Sem.run_pure]
  ·rename_i a hxe
   have hr:=cS0 (w:=w) Γ h
   simp only[execOp,ho,hx,hxe,hlo,hhi,hmx,Sem.run_bind,hr,Result.andThen_ok,Sem.run_pure]
  ·cases h
 ·rename_i t parts ho
  have hr:=oB0 Γ h w
  have hparts:(parts.map λ(x:Nat×Zo)=>(x.1,ca.eval x.2))=⟨(parts.toList.map λ(x:Nat×Zo)=>(x.1,ev tm x.2)).map λx=>(x.1,con Γ x.2)⟩:=by
   apply Array.ext'
   simp only[Array.toList_map,List.map_map]
   apply List.map_congr_left
   intro y hy
   simp only[Function.comp]
   rw[he y.2 (by
    simp only[ho,Op.operands]
    simp only[List.mem_toArray,List.mem_map]
    exact ⟨y,hy,rfl⟩)]
  have hr':=hr
  simp only[execOp,ho,Sem.run_bind]
  rw[show (parts.map λ(i,x)=>(i,ca.eval x))=(parts.map λ(x:Nat×Zo)=>(x.1,ca.eval x.2)) from rfl,hparts]
  rw[show (parts.toList.map λ(x:Nat×Zo)=>(x.1,ev tm x.2))=(parts.toList.map λ(i,x)=>(i,ev tm x)) from rfl,hr']
  simp
 ·rename_i g f c ho
  cases h
  have hf:f.map ca.eval=(f.map (ev tm)).map (con Γ):=by
   rw[Array.map_map]
   apply Array.map_congr_left
   intro y hy;exact he y (by simp[ho,Op.operands,hy])
  have hc:c.map ca.eval=(c.map (ev tm)).map (con Γ):=by
   rw[Array.map_map]
   apply Array.map_congr_left
   intro y hy;exact he y (by simp[ho,Op.operands,hy])
  simp only[execOp,ho,Instr.makeFunc,Sem.run_bind,Sem.run_pure,Result.andThen_ok,bS,wY0,hf,hc]
 ·rename_i t x ho
  have hx:=he x (by simp[ho,Op.operands])
  split at h<;>cases h
  rename_i d hni hu
  simp only[execOp,ho,hx,Instr.makeInterface,Sem.run_bind,jM hu,Result.andThen_ok,con]
  cases d<;>first|simp|exact absurd rfl (hni _)
 ·rename_i x ho
  have hx:=he x (by simp[ho,Op.operands])
  split at h<;>cases h
  ·rename_i a hxe;simp[execOp,ho,hx,hxe,con]
  ·rename_i g f c hxe;simp[execOp,ho,hx,hxe,bS,wY0]
 ·rename_i args argTypes ho
  split at h
  ·rename_i x t hx0 ht0
   have hx:=he x (by simp only[ho,Op.operands,Call.operands];exact Array.mem_append.2 (.inr (Array.mem_of_getElem? hx0)))
   have hr0:(args.map ca.eval)[0]?=some (con Γ (ev tm x)):=by rw[Array.getElem?_map,hx0];simp[hx]
   split at h<;>cases h
   ·rename_i s hu hxe
    rw[hxe] at hr0
    simp[execOp,ho,resolve,invoke,builtin,Builtin.len_,ht0,hx0,hx,hxe,jM hu,con,goInt]
   ·rename_i e a n c hu hxe
    rw[hxe] at hr0
    cases a<;>simp[execOp,ho,resolve,invoke,builtin,Builtin.len_,ht0,hx0,hx,hxe,jM hu,con,goInt]
  ·cases h
 ·rename_i args argTypes ho
  obtain ⟨hf,hv,hr⟩:=kZ h
  have hargs:args.map ca.eval=args.map (ev tm):=by
   apply Array.map_congr_left
   intro y hy
   rw[he y (by simp only[ho,Op.operands,Call.operands];exact Array.mem_append.2 (.inr hy))]
   refine qC Γ _ ?_
   have h2:∀ (l:List Z6),qT l=true→∀ v∈l,flat v=true:=λl=>by
    induction l with
    | nil=>intro _ v hv;cases hv
    | cons a l ih=>intro hl v hv;simp only[qT,Z5] at hl;cases hv with | head=>exact hl.1 | tail _ hv=>exact ih hl.2 v hv
   exact h2 _ hf _ (by simp;exact ⟨y,by simpa using hy,rfl⟩)
  simp[execOp,ho,resolve,invoke,builtin,hargs,hr w,qC Γ _ hv]
 ·rename_i args argTypes ho
  obtain ⟨hf,hv,hr⟩:=kZ h
  have hargs:args.map ca.eval=args.map (ev tm):=by
   apply Array.map_congr_left
   intro y hy
   rw[he y (by simp only[ho,Op.operands,Call.operands];exact Array.mem_append.2 (.inr hy))]
   refine qC Γ _ ?_
   have h2:∀ (l:List Z6),qT l=true→∀ v∈l,flat v=true:=λl=>by
    induction l with
    | nil=>intro _ v hv;cases hv
    | cons a l ih=>intro hl v hv;simp only[qT,Z5] at hl;cases hv with | head=>exact hl.1 | tail _ hv=>exact ih hl.2 v hv
   exact h2 _ hf _ (by simp;exact ⟨y,by simpa using hy,rfl⟩)
  simp[execOp,ho,resolve,invoke,builtin,hargs,hr w,qC Γ _ hv]
 ·cases h
end Go.Ev
namespace Go.Ev
open Go Go.RowKit
theorem Tr.get_nil (j:Nat):Tr.nil.get j=none:=rfl
theorem Tr.get_node (l r:Tr)(v:Z8 jV)(j:Nat):(Tr.node l v r).get j=if j=0 then v else if (j-1) % 2=0 then l.get ((j-1) / 2) else r.get ((j-1) / 2):=by
 cases j with
 | zero=>rfl
 | succ j=>
  have:(Tr.node l v r).get (j+1)=Bool.rec (motive:=λ_=>Z8 jV) (r.get (Nat.div j 2)) (l.get (Nat.div j 2)) (Nat.beq (Nat.mod j 2) 0):=rfl
  rw[this,mL0]
  simp only[Nat.add_eq_zero_iff,Nat.succ_ne_self,and_false,if_false,Nat.add_sub_cancel]
  rfl
theorem Tr.go_succ (j:Nat)(x:jV)(f:Tr→Nat→Tr)(l r:Tr)(v:Z8 jV):Tr.go (j+1) x f l v r=if j % 2=0 then .node (f l (j / 2)) v r else .node l v (f r (j / 2)):=by
 have:Tr.go (j+1) x f l v r=Bool.rec (motive:=λ_=>Tr) (.node l v (f r (Nat.div j 2))) (.node (f l (Nat.div j 2)) v r) (Nat.beq (Nat.mod j 2) 0):=rfl
 rw[this,mL0]
 rfl
theorem Tr.go_zero (x:jV)(f:Tr→Nat→Tr)(l r:Tr)(v:Z8 jV):Tr.go 0 x f l v r=.node l (some x) r:=rfl
theorem Tr.get_set:∀ (n:Nat) (t:Tr) (i:Nat) (x:jV) (j:Nat),i+1<2 ^ n→(Tr.set n t i x).get j=if j=i then some x else t.get j:=by
 intro n
 induction n with
 | zero=>intro t i x j h;simp at h
 | succ n ih=>
  intro t i x j h
  have main : ∀ (l r : Tr) (v : Z8 jV), (∀ j, t.get j = (Tr.node l v r).get j) →
    (Tr.go i x (λt i=>Tr.set n t i x) l v r).get j=if j=i then some x else t.get j:=by
   intro l r v ht
   rw[ht j]
   cases i with
   | zero=>
    simp only[Tr.go_zero,Tr.get_node]
    by_cases hj:j=0<;>simp[hj]
   | succ k=>
    have hk:k / 2+1<2 ^ n:=by rw[Nat.pow_succ] at h;omega
    rw[Tr.go_succ]
    by_cases hb:k % 2=0
    ·simp only[hb,if_true,Tr.get_node,ih l _ x _ hk]
     by_cases hj:j=0
     ·subst hj;simp
     ·simp only[hj,if_false]
      by_cases hp:(j-1) % 2=0
      ·simp only[hp,if_true]
       by_cases he:j=k+1
       ·subst he;simp
       ·rw[if_neg Z0,if_neg he]
      ·simp only[hp,if_false]
       rw[if_neg (by intro e;subst e;simp at hp;omega)]
    ·simp only[hb,if_false,Tr.get_node,ih r _ x _ hk]
     by_cases hj:j=0
     ·subst hj;simp
     ·simp only[hj,if_false]
      by_cases hp:(j-1) % 2=0
      ·simp only[hp,if_true]
       rw[if_neg (by intro e;subst e;simp at hp;omega)]
      ·simp only[hp,if_false]
       by_cases he:j=k+1
       ·subst he;simp
       ·rw[if_neg Z0,if_neg he]
  cases t with
  | nil=>exact main .nil .nil none (λj=>by rw[Tr.get_nil,Tr.get_node];simp[Tr.get_nil])
  | node l v r=>exact main l r v (λj=>rfl)
theorem Tr.get_put (t:Tr)(i:Nat)(x:jV)(j:Nat):(t.put i x).get j=if j=i then some x else t.get j:=
 Tr.get_set (i+1) t i x j Nat.lt_two_pow_self
theorem jB.get_put {h:jB}{i:Nat}{x:jV}(j:Nat):(h.put i x).get j=if j=i then some x else h.get j:=by
 obtain ⟨t,n,lo⟩:=h
 exact Tr.get_put t i x j
structure Par where
 P:Z9
 NG:Nat
 G:Nat
 B:Nat
 sg:Nat→Int
 tg:Nat→ByteArray
def keyF:Z6→Zb
 | .int _ _=>true
 | .string _=>true
 | _=>false
theorem bL {v:Z6}(h:keyF v=true):flat v=true:=by cases v<;>first|rfl|cases h
def qL (Γ:Gam)(e:MapEntry):MapEntry:=⟨e.key,con Γ e.val,e.born⟩
def owned (x:jV):Zb:=match x.o with
 | .cells ..=>true
 | .stringIter ..=>true
 | .map ..=>true
 | .mapIter ..=>true
 | .loop ..=>true
 | .deferred ..=>true
 | _=>false
def OR (p:Par)(Γ:Gam)(n:Nat)(w:Zw)(i:Nat)(x:jV):Prop:=
 match x.o with
 | .cells cs e _ => (p.G ≤ i → (∀ v ∈ cs.toList, one v = true ∧ sc n v = true) ∧ ∃ rest fr, w.heap[Γ.b i]? = some (.cells (cs.toList.map (con Γ) ++ rest).toArray e fr) ∧
   (cs.size+rest.length≤fr.1∨fr.2=fr.1)∧(x.more=false→rest=[])∧
   (x.more=true→∃ t,p.P.info? e=some t∧cs.size+rest.length=Γ.k i*t.size))∧
  (i<p.G→x.more=false∧Γ.b i<w.heap.size∧∀ j v,cs[j]?=some v→sc p.G v=true→one v=true∧w.cell? ⟨Γ.b i,j,none⟩=some (con Γ v))
 | .stringIter s q=>w.heap[Γ.b i]?=some (.stringIter s q)
 | .map es c=>(∀ e∈es.toList,keyF e.key=true∧sc n e.val=true)∧w.heap[Γ.b i]?=some (.map (es.map (qL Γ)) c)
 | .mapIter m a b c=>(∀ r,m=some r→r<n)∧w.heap[Γ.b i]?=some (.mapIter (m.map Γ.b) a b c)
 | .loop r => (∀ v ∈ r.tmps.toList, sc n v = true) ∧ r.defers < n ∧ qR p.NG r.assign = true ∧ qR p.NG r.body = true ∧
   ∃ f,w.heap[Γ.b i]?=some (.loop { state:=r.state,pending:=r.pending,fn:=f,tmps:=r.tmps.map (con Γ),params:=r.params,assign:=r.assign,body:=r.body,defers:=Γ.b r.defers })
 | .deferred ds=>(ds=some []∨ds=none)∧w.heap[Γ.b i]?=some (.deferred ds)
 | _=>True
structure iS0 (p:Par)(Γ:Gam)(h:jB)(w:Zw):Prop where
 own:∀ b c e cs,h.get b=some (kD c e cs)→p.G≤b∧b<c∧c<h.next∧p.B≤Γ.b b∧Γ.b b<w.heap.size∧(∀ v∈cs,one v=true∧sc h.next v=true)∧(Γ.b c=Γ.b b→Γ.k c=Γ.k b)∧
  (Γ.b c≠Γ.b b→∃ rest fr,w.heap[Γ.b b]?=some (.cells (cs.map (con Γ)++rest).toArray e fr)∧(cs.length+rest.length≤fr.1∨fr.2=fr.1)∧∃ t,p.P.info? e=some t∧cs.length+rest.length=Γ.k b*t.size)
 tip:∀ b c e cs,h.get b=some (kD c e cs)→∀ j y,h.get j=some y→owned y=true→p.G≤j→Γ.b j=Γ.b b→c≤j∧Γ.b c=Γ.b b∧(∀ z,h.get c=some z→owned z=true→j=c)
 two:∀ a x e cs,h.get a=some (kD x e cs)→∀ b y e' cs',h.get b=some (kD y e' cs')→a<b→Γ.b a=Γ.b b→Γ.b x=Γ.b a∧x≤b
theorem bQ0 {x:jV}(h:notL x=true)(c:Nat)(e:Zt)(cs:List Z6):x≠kD c e cs:=λhe=>by rw[he] at h;cases h
theorem iS0.no {p:Par}{Γ:Gam}{h:jB}{w:Zw}(hn:∀ b x,h.get b=some x→notL x=true):iS0 p Γ h w:=
 ⟨λb c e cs hb=>absurd rfl (bQ0 (hn b _ hb) c e cs),λb c e cs hb=>absurd rfl (bQ0 (hn b _ hb) c e cs),λb c e cs hb=>absurd rfl (bQ0 (hn b _ hb) c e cs)⟩
theorem iS0.step {p:Par}{Γ Γ':Gam}{h h':jB}{w w':Zw}(hl:iS0 p Γ h w)(hg:Ag Γ Γ' h.next)(hn:h.next≤h'.next)(hsz:w.heap.size≤w'.heap.size)
  (h1:∀ b x,h'.get b=some x→notL x=false→h.get b=some x)
  (h2:∀ j y,h'.get j=some y→owned y=true→p.G≤j→(∃ z,h.get j=some z∧owned z=true∧j<h.next)∨(h.next≤j∧w.heap.size≤Γ'.b j))
  (h3:∀ b c e cs,h.get b=some (kD c e cs)→Γ.b c≠Γ.b b→w'.heap[Γ.b b]?=w.heap[Γ.b b]?):iS0 p Γ' h' w':=by
 refine ⟨λb c e cs hb=>?_,λb c e cs hb j y hj ho hG he=>?_,λa x e cs ha b y e' cs' hb hab he=>?_⟩
 ·have hb:=h1 b _ hb rfl
  obtain ⟨q1,q2,q3,q4,q5,q6,q7,q8⟩:=hl.own b c e cs hb
  have e1:Γ'.b b=Γ.b b:=hg.b b Z0
  have e2:Γ'.b c=Γ.b c:=hg.b c q3
  rw[e1,e2,hg.k c q3,hg.k b Z0]
  refine ⟨q1,q2,Z0,q4,Z0,λv hv=>⟨(q6 v hv).1,qU hn v (q6 v hv).2⟩,q7,λhne=>?_⟩
  obtain ⟨rest,fr,r1,r2,r3⟩:=q8 hne
  refine ⟨rest,fr,?_,r2,r3⟩
  rw[h3 b c e cs hb hne,r1]
  have:cs.map (con Γ')=cs.map (con Γ):=List.map_congr_left λv hv=>bT hg v (q6 v hv).2
  rw[this]
 ·have hb:=h1 b _ hb rfl
  obtain ⟨q1,q2,q3,q4,q5,q6,q7,q8⟩:=hl.own b c e cs hb
  have e1:Γ'.b b=Γ.b b:=hg.b b Z0
  have e2:Γ'.b c=Γ.b c:=hg.b c q3
  rw[e1] at he ⊢
  rw[e2]
  rcases h2 j y hj ho hG with ⟨z,hz,hoz,hlt⟩|⟨_,hbig⟩
  ·rw[hg.b j hlt] at he
   obtain ⟨r1,r2,r3⟩:=hl.tip b c e cs hb j z hz hoz hG he
   refine ⟨r1,r2,λu hu hou=>?_⟩
   rcases h2 c u hu hou Z0 with ⟨z',hz',hoz',_⟩|⟨hbig,_⟩
   ·exact r3 z' hz' hoz'
   ·omega
  ·omega
 ·have ha:=h1 a _ ha rfl
  have hb:=h1 b _ hb rfl
  obtain ⟨q1,q2,q3,_⟩:=hl.own a x e cs ha
  obtain ⟨r1,r2,r3,_⟩:=hl.own b y e' cs' hb
  rw[hg.b a Z0,hg.b b Z0] at he
  rw[hg.b a Z0,hg.b x q3]
  exact hl.two a x e cs ha b y e' cs' hb hab he
structure jU (p:Par)(Γ:Gam)(h:jB)(w:Zw):Prop where
 obj:∀ i x,h.get i=some x→i<h.next∧OR p Γ h.next w i x
 base:∀ i x,h.get i=some x→owned x=true→p.G≤i→p.B≤Γ.b i
 inj:∀ i j x y,h.get i=some x→owned x=true→h.get j=some y→owned y=true→p.G≤i→p.G≤j→Γ.b i=Γ.b j→i=j
 gl:∀ g,g<p.NG→Γ.b g=g
 low:∀ i x,i<p.G→h.get i=some x→owned x=true→Γ.b i<p.B
 lo:h.lo=p.G
 gn:p.G≤h.next
 ng:p.NG≤p.G∧p.NG≤p.B
 size:p.B≤w.heap.size
 gs:Γ.s=p.sg∧Γ.t=p.tg
 lent:iS0 p Γ h w
structure Fr (p:Par)(Γ:Gam)(h:jB)(w w':Zw):Prop where
 below:Below p.B w w'
 low:∀ i x,h.get i=some x→owned x=true→i<h.lo→w'.heap[Γ.b i]?=w.heap[Γ.b i]?
theorem Fr.refl {p:Par}{Γ:Gam}{h:jB}(w:Zw):Fr p Γ h w w:=⟨Below.refl _ _,λ_ _ _ _ _=>rfl⟩
theorem OR.ag {p:Par}{Γ Γ':Gam}{n m:Nat}{w w':Zw}{i:Nat}{x:jV}(h:OR p Γ n w i x)(hg:Ag Γ Γ' n)(hn:n≤m)(hGn:p.G≤n)(hi:i<n)
  (hw:w'.heap[Γ.b i]?=w.heap[Γ.b i]?):OR p Γ' m w' i x:=by
 unfold OR at h ⊢
 have hb:Γ'.b i=Γ.b i:=hg.b i hi
 have hk:Γ'.k i=Γ.k i:=hg.k i hi
 split
 ·rename_i cs e fr0 ho
  simp only[ho] at h
  refine ⟨λhG=>?_,λhG=>?_⟩
  ·obtain ⟨h1,rest,fr,h2,h3,h4,h5⟩:=h.1 hG
   refine ⟨λv hv=>⟨(h1 v hv).1,qU hn v (h1 v hv).2⟩,rest,fr,?_,h3,h4,by rw[hk];exact h5⟩
   rw[hb,hw,h2]
   have:cs.toList.map (con Γ')=cs.toList.map (con Γ):=List.map_congr_left λv hv=>bT hg v (h1 v hv).2
   rw[this]
  ·obtain ⟨h1,h2,h3⟩:=h.2 hG
   refine ⟨h1,?_,λj v hj hs=>?_⟩
   ·rw[hb]
    have:w.heap[Γ.b i]?.isSome=true:=by simp[h2]
    rw[← hw] at this
    simpa using this
   ·obtain ⟨h4,h5⟩:=h3 j v hj hs
    refine ⟨h4,?_⟩
    rw[bT hg v (qU hGn v hs)]
    simp only[World.cell?] at h5 ⊢
    rw[hb,hw];exact h5
 ·rename_i s q ho
  simp only[ho] at h
  rw[hb,hw,h]
 ·rename_i es c ho
  simp only[ho] at h
  refine ⟨λe he=>⟨(h.1 e he).1,qU hn _ (h.1 e he).2⟩,?_⟩
  rw[hb,hw,h.2]
  have:es.map (qL Γ')=es.map (qL Γ):=Array.map_congr_left λe he=>by
   unfold qL;rw[bT hg _ (h.1 e (by simpa using he)).2]
  rw[this]
 ·rename_i m a b c ho
  simp only[ho] at h
  refine ⟨λr hr=>Nat.lt_of_lt_of_le (h.1 r hr) hn,?_⟩
  rw[hb,hw,h.2]
  cases m with
  | none=>rfl
  | some r=>simp only[Option.map_some,hg.b r (h.1 r rfl)]
 ·rename_i r ho
  simp only[ho] at h
  obtain ⟨h1,h2,h3,h4,f,h5⟩:=h
  refine ⟨λv hv=>qU hn v (h1 v hv),Z0,h3,h4,f,?_⟩
  rw[hb,hw,h5,hg.b _ h2]
  have:r.tmps.map (con Γ')=r.tmps.map (con Γ):=Array.map_congr_left λv hv=>bT hg v (h1 v (by simpa using hv))
  rw[this]
 ·rename_i ds ho
  simp only[ho] at h
  exact ⟨h.1,by rw[hb,hw,h.2]⟩
 ·trivial
end Go.Ev
namespace Go.Ev
open Go Go.RowKit
def wset (w:Zw)(g:Nat)(o:Obj):Zw:={ w with heap:=w.heap.setIfInBounds g o }
theorem qF (w:Zw)(g:Nat)(o:Obj)(h:g<w.heap.size)(j:Nat):(wset w g o).heap[j]?=if j=g then some o else w.heap[j]?:=by
 simp only[wset,Array.getElem?_setIfInBounds]
 by_cases e:g=j
 ·subst e;simp[h]
 ·rw[if_neg e,if_neg (Ne.symm e)]
theorem jB0 (w:Zw)(g:Nat)(o:Obj):(wset w g o).heap.size=w.heap.size:=by simp[wset]
theorem sF0 {v:Z6}(h:one v=true):v.oneCell'=true:=by cases v<;>simp_all [one,Value.oneCell']
theorem addr_add (g o i:Nat):(⟨g,o,none⟩:Addr).add i=⟨g,o+i,none⟩:=by unfold Addr.add;split<;>simp_all
theorem kK (P:Z9)(g o:Nat)(t:Zt)(fr:Nat×Nat):∀ (vs:List Z6) (i:Nat) (cur:List Z6) (w:Zw),
  w.heap[g]?=some (.cells ⟨cur⟩ t fr)→(cur.length≤fr.1∨fr.2=fr.1)→o+i+vs.length≤cur.length→(∀ v∈vs,one v=true)→
  (storeCells ⟨g,o,none⟩ vs i).run P w=.ok () (wset w g (.cells ⟨jJ cur (o+i) vs⟩ t fr))
 | [],i,cur,w,hg,_,_,_=>by
  have hlt:g<w.heap.size:=(Array.getElem?_eq_some_iff.1 hg).1
  simp only[storeCells,jJ,List.append_nil,List.length_nil,Nat.add_zero,List.take_append_drop,Sem.run_pure]
  congr 1
  simp only[wset]
  have:w.heap.setIfInBounds g (.cells ⟨cur⟩ t fr)=w.heap:=by
   apply Array.ext_getElem?
   intro j
   rw[Array.getElem?_setIfInBounds]
   split
   ·rename_i e;subst e;rw[hg]
   ·rfl
  rw[this]
 | v :: rest,i,cur,w,hg,hf,hl,h1=>by
  have hlt:g<w.heap.size:=(Array.getElem?_eq_some_iff.1 hg).1
  simp only[List.length_cons] at hl
  have hi:o+i<cur.length:=Z0
  have hcell:w.cell? ⟨g,o+i,none⟩=some cur[o+i]:=by simp[World.cell?,hg,hi]
  have hfro:w.frozen? ⟨g,o+i,none⟩=false:=by
   obtain ⟨lo,hi'⟩:=fr
   simp only[World.frozen?,hg]
   simp only at hf
   rcases hf with hf|hf
   ·simp;intro;omega
   ·simp;intro;omega
  have hst:(store ((⟨g,o,none⟩:Addr).add i) v).run P w=.ok () (wset w g (.cells ⟨cur.set (o+i) v⟩ t fr)):=by
   rw[addr_add,run_store P w _ v _ (sF0 (h1 v (by simp))),hcell]
   simp only[hfro,Bool.false_eq_true,if_false]
   congr 1
   simp only[World.setCell,wset]
   congr 1
   apply Array.ext_getElem?
   intro j
   rw[Array.getElem?_setIfInBounds,Array.getElem?_modify]
   by_cases e:g=j
   ·subst e
    have hgg:w.heap[g]=.cells ⟨cur⟩ t fr:=by
     have:=hg;rw[Array.getElem?_eq_getElem hlt] at this;exact Option.some.inj this
    simp[hlt,hgg]
   ·simp[e]
  have hg':(wset w g (.cells ⟨cur.set (o+i) v⟩ t fr)).heap[g]?=some (.cells ⟨cur.set (o+i) v⟩ t fr):=by
   rw[qF _ _ _ hlt];simp
  have ih:=kK P g o t fr rest (i+1) (cur.set (o+i) v) _ hg' (by simpa using hf) (by simp;omega) (λx hx=>h1 x (by simp[hx]))
  simp only[storeCells,Sem.run_bind,hst,Result.andThen_ok,ih]
  congr 1
  simp only[wset,Array.setIfInBounds_setIfInBounds]
  congr 3
  congr 1
  simp only[jJ,List.length_cons]
  rw[show o+(i+1)=o+i+1 by omega]
  have h1':(cur.set (o+i) v).take (o+i+1)=cur.take (o+i)++[v]:=by
   rw[List.take_succ_eq_append_getElem (by simp;omega)]
   simp[List.take_set_of_le]
  rw[h1',List.drop_set]
  rw[if_pos Z0]
  simp
  omega
theorem eR0 {p:Par}{Γ:Gam}{n:Nat}{w:Zw}{i:Nat}{x:jV}(h:owned x=false):OR p Γ n w i x:=by
 unfold owned at h;unfold OR
 split<;>simp_all
theorem pJ0 {p:Par}{Γ:Gam}{n:Nat}{w:Zw}{i:Nat}{x:jV}(h:OR p Γ n w i x)(ho:owned x=true):Γ.b i<w.heap.size:=by
 unfold owned at ho;unfold OR at h
 split at h
 ·by_cases hG:p.G≤i
  ·obtain ⟨_,rest,fr,h2,_⟩:=h.1 hG;exact (Array.getElem?_eq_some_iff.1 h2).1
  ·exact (h.2 Z0).2.1
 ·exact (Array.getElem?_eq_some_iff.1 h).1
 ·exact (Array.getElem?_eq_some_iff.1 h.2).1
 ·exact (Array.getElem?_eq_some_iff.1 h.2).1
 ·obtain ⟨_,_,_,_,f,h2⟩:=h;exact (Array.getElem?_eq_some_iff.1 h2).1
 ·exact (Array.getElem?_eq_some_iff.1 h.2).1
 ·split at ho<;>first|(simp_all;done)|(simp_all;rename_i hne heq;exact (hne _ _ _ _ rfl rfl rfl rfl).elim)
theorem jU.of_heap {p:Par}{Γ:Gam}{h:jB}{w w':Zw}(hr:jU p Γ h w)(e:w'.heap=w.heap):jU p Γ h w':=
 { hr with
  obj:=λi x hx=>⟨(hr.obj i x hx).1,(hr.obj i x hx).2.ag (Ag.refl _ _) (Z3 _) hr.gn (hr.obj i x hx).1 (by rw[e])⟩
  size:=by rw[e];exact hr.size
  lent:=hr.lent.step (Ag.refl _ _) (Z3 _) (by rw[e];exact Z3 _) (λ_ _ h _=>h) (λj y hj ho _=>.inl ⟨y,hj,ho,(hr.obj j y hj).1⟩) (λ_ _ _ _ _ _=>by rw[e]) }
theorem jU.put {p:Par}{Γ:Gam}{h:jB}{w:Zw}(hr:jU p Γ h w){b:Nat}{x x':jV}(hx:h.get b=some x)(ho:owned x=true)
  (hlo:h.lo≤b) {o:Obj} (hOR:OR p Γ h.next (wset w (Γ.b b) o) b x') (hnl:notL x'=true:=by rfl) :
  jU p Γ (h.put b x') (wset w (Γ.b b) o)∧Fr p Γ h w (wset w (Γ.b b) o):=by
 have hb:=(hr.obj b x hx).1
 have hlt:=pJ0 (hr.obj b x hx).2 ho
 have hG:p.G≤b:=by rw[← hr.lo];exact hlo
 have hB:p.B≤Γ.b b:=hr.base b x hx ho hG
 have hne:∀ i y,h.get i=some y→owned y=true→i≠b→Γ.b i≠Γ.b b:=λi y hy hoy hi e=>by
  by_cases hiG:p.G≤i
  ·exact hi (hr.inj i b y x hy hoy hx ho hiG hG e)
  ·have:=hr.low i y Z0 hy hoy;omega
 have hown:∀ i y,(h.put b x').get i=some y→owned y=true→∃ z,h.get i=some z∧owned z=true:=λi y hy hoy=>by
  rw[jB.get_put] at hy
  split at hy
  ·rename_i e;subst e;exact ⟨x,hx,ho⟩
  ·exact ⟨y,hy,hoy⟩
 refine ⟨⟨λi y hy=>?_,λi y hy hoy hi=>?_,λi j y z hy hoy hz hoz hi hj e=>?_,hr.gl,λi y hi hy hoy=>by
  obtain ⟨z,hz,hoz⟩:=hown i y hy hoy
  exact hr.low i z hi hz hoz,hr.lo,hr.gn,hr.ng,by rw[jB0];exact hr.size,hr.gs,hr.lent.step (Ag.refl _ _) (Z3 _) (by rw[jB0];exact Z3 _) (λi y hy hny=>by
   rw[jB.get_put] at hy
   split at hy
   ·cases hy;rw[hnl] at hny;cases hny
   ·exact hy) (λj y hj hoy _=>by
   obtain ⟨z,hz,hoz⟩:=hown j y hj hoy
   exact .inl ⟨z,hz,hoz,(hr.obj j z hz).1⟩) (λi c e cs hi hne'=>by
   rw[qF _ _ _ hlt,if_neg λhe=>hne' (hr.lent.tip i c e cs hi b x hx ho hG he.symm).2.1])⟩,?_,?_⟩
 ·have hy0:=hy
  rw[jB.get_put] at hy
  split at hy
  ·rename_i e;subst e;cases hy;exact ⟨hb,hOR⟩
  ·rename_i e
   refine ⟨(hr.obj i y hy).1,?_⟩
   cases hoy:owned y with
   | false=>exact eR0 hoy
   | true=>
    refine (hr.obj i y hy).2.ag (Ag.refl _ _) (Z3 _) hr.gn (hr.obj i y hy).1 ?_
    rw[qF _ _ _ hlt,if_neg (hne i y hy hoy e)]
 ·obtain ⟨z,hz,hoz⟩:=hown i y hy hoy
  exact hr.base i z hz hoz hi
 ·obtain ⟨y',hy',hoy'⟩:=hown i y hy hoy
  obtain ⟨z',hz',hoz'⟩:=hown j z hz hoz
  exact hr.inj i j y' z' hy' hoy' hz' hoz' hi hj e
 ·refine ⟨rfl,rfl,rfl,by rw[jB0];exact Z3 _,λk hk=>?_⟩
  rw[qF _ _ _ hlt,if_neg Z0]
 ·intro i y hy hoy hi
  rw[qF _ _ _ hlt,if_neg (hne i y hy hoy Z0)]
def Gam.ext (Γ:Gam)(n b k:Nat):Gam:={ b:=λi=>if i=n then b else Γ.b i,k:=λi=>if i=n then k else Γ.k i,s:=Γ.s,t:=Γ.t }
theorem Gam.ext_ag (Γ:Gam)(n b k:Nat):Ag Γ (Γ.ext n b k) n:=⟨λi hi=>by simp[Gam.ext];intro e;omega,λi hi=>by simp[Gam.ext];intro e;omega,rfl,rfl⟩
theorem Gam.ext_b (Γ:Gam)(n b k:Nat):(Γ.ext n b k).b n=b:=by simp[Gam.ext]
theorem Gam.ext_k (Γ:Gam)(n b k:Nat):(Γ.ext n b k).k n=k:=by simp[Gam.ext]
theorem jB.new_eq (h:jB)(x:jV):h.new x=(h.next,{ t:=h.t.put h.next x,next:=h.next+1,lo:=h.lo }):=by
 obtain ⟨t,n,lo⟩:=h
 cases n<;>rfl
theorem jB.put_eq (h:jB)(i:Nat)(x:jV):h.put i x={ t:=h.t.put i x,next:=h.next,lo:=h.lo }:=by
 obtain ⟨t,n,lo⟩:=h
 rfl
theorem jU.new {p:Par}{Γ:Gam}{h:jB}{w:Zw}(hr:jU p Γ h w){x:jV}{o:Obj}{k:Nat}
  (hOR:OR p (Γ.ext h.next w.heap.size k) (h.next+1) (w.alloc o) h.next x) (hnl:notL x=true:=by rfl) :
  jU p (Γ.ext h.next w.heap.size k) (h.new x).2 (w.alloc o)∧Fr p Γ h w (w.alloc o):=by
 rw[jB.new_eq]
 have hag:=Γ.ext_ag h.next w.heap.size k
 have hget:∀ j,({ t:=h.t.put h.next x,next:=h.next+1,lo:=h.lo }:jB).get j=if j=h.next then some x else h.get j:=λj=>by
  simp only[jB.get]
  exact Tr.get_put h.t h.next x j
 have hheap:∀ i,i<w.heap.size→(w.alloc o).heap[i]?=w.heap[i]?:=λi hi=>Below.heap_alloc w o i hi
 have hGn:∀ i,i<p.G→i<h.next:=λi hi=>Nat.lt_of_lt_of_le hi hr.gn
 have hb:∀ i,i<h.next→(Γ.ext h.next w.heap.size k).b i=Γ.b i:=λi hi=>hag.b i hi
 refine ⟨⟨fun i y hy => ?_, fun i y hy hoy hi => ?_, fun i j y z hy hoy hz hoz hi hj e => ?_, fun g hg => ?_, fun i y hi hy hoy => ?_, hr.lo, ?_, hr.ng, ?_, hr.gs, hr.lent.step hag (Nat.le_succ _) (by simp) (fun i y hy hny => by
   rw[hget] at hy
   split at hy
   ·cases hy;rw[hnl] at hny;cases hny
   ·exact hy) (λj y hj hoy _=>by
   rw[hget] at hj
   split at hj
   ·rename_i e;subst e;exact .inr ⟨Z3 _,by rw[Gam.ext_b];exact Z3 _⟩
   ·exact .inl ⟨y,hj,hoy,(hr.obj j y hj).1⟩) (λb c e cs hb _=>hheap _ (hr.lent.own b c e cs hb).2.2.2.2.1)⟩,?_,?_⟩
 ·rw[hget] at hy
  split at hy
  ·rename_i e;cases hy;subst e;exact ⟨Nat.lt_succ_self _,hOR⟩
  ·have hlt:=(hr.obj i y hy).1
   refine ⟨Nat.lt_succ_of_lt hlt,?_⟩
   cases hoy:owned y with
   | false=>exact eR0 hoy
   | true=>
    exact (hr.obj i y hy).2.ag hag (Nat.le_succ _) hr.gn hlt (hheap _ (pJ0 (hr.obj i y hy).2 hoy))
 ·rw[hget] at hy
  split at hy
  ·rename_i e;subst e;rw[Gam.ext_b];exact hr.size
  ·rw[hb i (hr.obj i y hy).1];exact hr.base i y hy hoy hi
 ·rw[hget] at hy hz
  split at hy
  ·rename_i ei
   split at hz
   ·rename_i ej;omega
   ·have hlt:=(hr.obj j z hz).1
    have:=pJ0 (hr.obj j z hz).2 hoz
    rw[hb j hlt] at e;subst ei;rw[Gam.ext_b] at e;omega
  ·have hlt:=(hr.obj i y hy).1
   have hli:=pJ0 (hr.obj i y hy).2 hoy
   split at hz
   ·rename_i ej;subst ej;rw[hb i hlt,Gam.ext_b] at e;omega
   ·rw[hb i hlt,hb j (hr.obj j z hz).1] at e
    exact hr.inj i j y z hy hoy hz hoz hi hj e
 ·rw[hb g (hGn g (Nat.lt_of_lt_of_le hg hr.ng.1))];exact hr.gl g hg
 ·rw[hget] at hy
  split at hy
  ·rename_i e;have:=hGn i hi;omega
  ·rw[hb i (hGn i hi)];exact hr.low i y hi hy hoy
 ·exact Nat.le_succ_of_le hr.gn
 ·simp;have:=hr.size;omega
 ·exact (Below.refl _ _).alloc hr.size o
 ·intro i y hy hoy _
  exact hheap _ (pJ0 (hr.obj i y hy).2 hoy)
end Go.Ev
namespace Go.Ev
open Go Go.RowKit
theorem kQ {p:Par}{Γ:Gam}{h:jB}{w:Zw}(hr:jU p Γ h w){r:Nat}{es:List MapEntry}{c:Nat}(hm:mapOf h r=some (es,c)) :
  (∃ m,h.get r=some ⟨.map ⟨es⟩ c,m⟩)∧h.lo≤r∧(∀ e∈es,keyF e.key=true∧sc h.next e.val=true)∧w.heap[Γ.b r]?=some (.map ⟨es.map (qL Γ)⟩ c):=by
 unfold mapOf at hm
 split at hm
 ·rename_i es' c' m hg
  split at hm<;>cases hm
  rename_i hlo
  simp only[Nat.ble_eq] at hlo
  have hO:=(hr.obj r _ hg).2
  simp only[OR] at hO
  exact ⟨⟨m,hg⟩,hlo,hO.1,by rw[hO.2];simp⟩
 ·cases hm
theorem kP {P:Z9}{w:Zw}{g c:Nat}{es:Array MapEntry}(h:w.heap[g]?=some (.map es c)):(getObj g).run P w=.ok (.map es c) w:=by
 simp[getObj,Sem.run,h]
theorem jL0 {P:Z9}{kt:Zt}{k:Z6}(h:bD P kt k=true):keyF k=true:=by
 unfold bD at h
 split at h<;>first|rfl|cases h
theorem run_checkKey {P:Z9}{kt:Zt}{k:Z6}(h:bD P kt k=true)(b:Zb)(w:Zw):(Instr.checkKey b 10000 kt k).run P w=.ok () w:=by
 have key:∀ d,(Instr.checkKey b (d+1) kt k).run P w=.ok () w:=λd=>by
  unfold bD at h
  split at h
  ·rename_i hu;simp[Instr.checkKey,jM hu]
  ·rename_i hu;simp[Instr.checkKey,jM hu]
  ·cases h
 exact key 9999
theorem mM0 (x y:ByteArray):(x == y)=beqB x.data.toList y.data.toList:=by
 simp[qU0,ByteArray.toList_eq]
 first
  | rfl
  | (obtain ⟨x⟩:=x;obtain ⟨y⟩:=y;rfl)
  | (rw [Bool.eq_iff_iff, beq_iff_eq (a := x.data)]; constructor
     ·intro h;rw[ByteArray.ext_iff.1 (by simpa using h)]
     ·intro h;rw[ByteArray.ext h];simp)
def lkR (ok:Zb)(z:Z6)(r:Z8 (Nat×Z6)):Z6:=match r with|some (_,v)=>okV2 ok v true|none=>okV2 ok z false
theorem eA0 {P:Z9}{Γ:Gam}{kt:Zt}{d:TypeDesc}(hu:P.underlying kt=some d){k:Z6}(hk:bD P kt k=true) :
  ∀ (es:List MapEntry) (i:Nat) (r:Z8 (Nat×Z6)),bQ k es i=some r→Instr.findNow d k (es.map (qL Γ)) i=some (r.map λx=>(x.1,con Γ x.2))
 | [],i,r,h=>by simp only[bQ,Option.some.injEq] at h;subst h;rfl
 | e :: es,i,r,h=>by
  have ih:=eA0 (Γ:=Γ) hu hk es (i+1)
  have hs:∀ c,wS0 k e.key=some c→Instr.sameNow d k e.key=some c:=λc hc=>by
   unfold bD at hk
   rw[hu] at hk
   split at hk
   ·rename_i hd;cases hd
    unfold wS0 at hc
    split at hc
    ·rename_i e1 e2
     cases e1
     split at hc<;>cases hc
     rename_i hkk
     have hkk:=of_decide_eq_true hkk
     rw[e2]
     simp only[Instr.sameNow,hkk,if_true]
     congr 1
    ·rename_i e1 e2;cases e1
    ·cases hc
   ·rename_i hd;cases hd
    unfold wS0 at hc
    split at hc
    ·rename_i e1 e2;cases e1
    ·rename_i e1 e2;cases e1;cases hc
     rw[e2]
     simp only[Instr.sameNow]
     rw[mM0]
    ·cases hc
   ·cases hk
  simp only[bQ] at h
  simp only[List.map_cons,Instr.findNow]
  have hke:(qL Γ e).key=e.key:=rfl
  rw[hke]
  split at h
  ·rename_i hq
   rw[hs _ hq]
   cases h
   rfl
  ·rename_i hq
   rw[hs _ hq]
   exact ih r h
  ·cases h
theorem run_findKey {P:Z9}{Γ:Gam}{kt:Zt}{k:Z6}(hk:bD P kt k=true){es:List MapEntry}{r:Z8 (Nat×Z6)}(h:bQ k es 0=some r)(w:Zw) :
  (Instr.findKey kt k (es.map (qL Γ))).run P w=.ok (r.map λx=>(x.1,con Γ x.2)) w:=by
 obtain ⟨d,hu⟩:∃ d,P.underlying kt=some d:=by
  unfold bD at hk
  split at hk
  ·rename_i hu;exact ⟨_,hu⟩
  ·rename_i hu;exact ⟨_,hu⟩
  ·cases hk
 simp only[Instr.findKey,Sem.run_bind,jM hu,Result.andThen_ok,eA0 (Γ:=Γ) hu hk es 0 r h]
 rfl
theorem gF0 {P:Z9}{e:Zt}{z:Z6}(hz:zeroOf P e=some z)(w:Zw):(zeroValue e).run P w=.ok z w:=by
 unfold zeroOf at hz
 split at hz
 ·rename_i i hi;simp[zeroValue,typeInfo,hi,hz]
 ·cases hz
theorem gU0 {p:Par}{Γ:Gam}{h:jB}{w:Zw}(hr:jU p Γ h w){m:Z6}{es:List MapEntry}(he:gV0 m h=some es) :
  (m=.map none∧es=[])∨∃ r c,m=.map (some r)∧mapOf h r=some (es,c):=by
 unfold gV0 at he
 split at he
 ·cases he;exact .inl ⟨rfl,rfl⟩
 ·rename_i r
  split at he<;>cases he
  rename_i c hm
  exact .inr ⟨r,c,rfl,hm⟩
 ·cases he
theorem dI0 {p:Par}{Γ:Gam}{h:jB}{w:Zw}(hr:jU p Γ h w){t:Zt}{x i v:Z6}{ok:Zb}(he:qG p.P t x i ok h=some v) :
  (Instr.lookup t (con Γ x) (con Γ i) ok).run p.P w=.ok (con Γ v) w∧(sc h.next v=true):=by
 unfold qG at he
 split at he
 ·rename_i kt et hu
  split at he
  ·rename_i es hk hes
   have hki:con Γ i=i:=qC Γ i (bL (jL0 hk))
   rw[hki]
   have fin : ∀ (r : Z8 (Nat × Z6)) (z : Z6), bQ i es 0 = some r → (r = none → zeroOf p.P et = some z ∧ flat z = true) →
     (Instr.lookup t (con Γ x) i ok).run p.P w=.ok (con Γ (lkR ok z r)) w:=λr z hf hz=>by
    have hkk:=run_findKey (Γ:=Γ) hk hf w
    have fin2 : ∀ m, (Instr.lookup t m i ok).run p.P w = (do
      Instr.checkKey (es.map (qL Γ)).isEmpty 10000 kt i
      let (v,ok') ← match ← Instr.findKey kt i (es.map (qL Γ)) with
       | some (_,v)=>pure (v,true)
       | none=>pure (← zeroValue et,false)
      pure (if ok then .tuple #[v,.bool ok'] else v):Sem Z6).run p.P w→
      (Instr.lookup t m i ok).run p.P w=.ok (con Γ (lkR ok z r)) w:=λm hm=>by
     rw[hm]
     simp only[Sem.run_bind,run_checkKey hk,Result.andThen_ok,hkk]
     cases r with
     | some y=>obtain ⟨j,v'⟩:=y;cases ok<;>simp[lkR,okV2,con,conL]
     | none=>
      obtain ⟨h1,h2⟩:=hz rfl
      cases ok<;>simp[lkR,gF0 h1,okV2,con,conL,qC Γ z h2]
    rcases gU0 hr hes with ⟨rfl,rfl⟩|⟨r',c,rfl,hm⟩
    ·refine fin2 _ ?_
     simp[con,Instr.lookup,jM hu]
     rfl
    ·obtain ⟨_,_,_,hw⟩:=kQ hr hm
     refine fin2 _ ?_
     simp only[con,Instr.lookup,Sem.run_bind,jM hu,Result.andThen_ok,kP hw,Sem.run_pure]
     simp
     rfl
   split at he
   ·rename_i j v' hf
    cases he
    refine ⟨fin (some (j,v')) undef hf (λh=>by cases h),?_⟩
    have hv:sc h.next v'=true:=by
     have hmem:∀ (es:List MapEntry) (n:Nat),bQ i es n=some (some (j,v'))→∃ e∈es,e.val=v':=by
      intro es
      induction es with
      | nil=>intro n hh;simp[bQ] at hh
      | cons e es ih=>
       intro n hh
       simp only[bQ] at hh
       split at hh
       ·cases hh;exact ⟨e,by simp,rfl⟩
       ·obtain ⟨e',h1,h2⟩:=ih _ hh;exact ⟨e',by simp[h1],h2⟩
       ·cases hh
     obtain ⟨e,he1,he2⟩:=hmem es 0 hf
     rcases gU0 hr hes with ⟨rfl,rfl⟩|⟨r',c,rfl,hm⟩
     ·cases he1
     ·rw[← he2];exact ((kQ hr hm).2.2.1 e he1).2
    cases ok
    ·exact hv
    ·simp[okV2,sc,scL,hv]
   ·rename_i hf
    split at he
    ·rename_i z hz
     split at he<;>cases he
     rename_i hzf
     refine ⟨fin none z hf λ_=>⟨hz,hzf⟩,?_⟩
     have:=gB h.next z hzf
     cases ok
     ·exact this
     ·simp[okV2,sc,scL,this]
    ·cases he
   ·cases he
  ·cases he
 ·cases he
theorem gL0:∀ {l:List Nat} {n:Nat},fK0 l=some n→l.getLast?=some n
 | [],n,h=>by simp[fK0] at h
 | [x],n,h=>by simp only[fK0,Option.some.injEq] at h;simp[h]
 | x :: y :: l,n,h=>by
  have h:fK0 (y :: l)=some n:=h
  have:=gL0 h
  rw[List.getLast?_cons_cons];exact this
theorem gX0 (Γ:Gam){n:Nat}:∀ {es:List MapEntry} {e:MapEntry},iJ0 n es=some e→(es.map (qL Γ)).find? (λx=>x.born == n)=some (qL Γ e)∧e∈es
 | [],e,h=>by simp[iJ0] at h
 | x :: es,e,h=>by
  simp only[iJ0] at h
  split at h
  ·rename_i hb;cases h
   have hb:=Nat.eq_of_beq_eq_true hb
   simp[qL,hb]
  ·rename_i hb
   obtain ⟨h1,h2⟩:=gX0 Γ h
   have hb:((qL Γ x).born == n)=false:=by
    rw[Bool.eq_false_iff];intro h0;rw[beq_iff_eq] at h0
    have:x.born=n:=h0
    rw[this] at hb;simp at hb
   rw[List.map_cons,List.find?_cons,hb]
   exact ⟨h1,by simp[h2]⟩
theorem kV0 {p:Par}{Γ:Gam}{h:jB}{w:Zw}(hr:jU p Γ h w){tm:VT}{ρ:Zo→Z6}{o:Oper}{v:Z6}(hev:∀ x∈o.op.operands,ρ x=con Γ (ev tm x))
  (he:fI0 p.P o tm h=some v):(execOp ρ o).run p.P w=.ok (.value (con Γ v)) w∧((∀ x∈o.op.operands,sc h.next (ev tm x)=true)→sc h.next v=true):=by
 unfold fI0 at he
 split at he
 ·rename_i t x i ok ho
  obtain ⟨h1,h2⟩:=dI0 hr he
  refine ⟨?_,λ_=>h2⟩
  simp only[execOp,ho,hev x (by simp[ho,Op.operands]),hev i (by simp[ho,Op.operands]),Sem.run_bind,h1,Result.andThen_ok,Sem.run_pure]
 ·rename_i it ho
  have hx:=hev it (by simp[ho,Op.operands])
  unfold jN0 at he
  split at he
  ·rename_i b hit
   split at he
   ·rename_i m a seen last mo hg hlo
    split at he
    ·rename_i es c n hm hl
     split at he<;>cases he
     rename_i hcl hbe
     rename_i e
     have hcl:=Nat.eq_of_beq_eq_true hcl
     subst hcl
     obtain ⟨hO1,hO2⟩:=(hr.obj b _ hg).2
     obtain ⟨_,_,hall,hw⟩:=kQ hr hm
     obtain ⟨hf1,hf2⟩:=gX0 Γ hbe
     obtain ⟨hk,hv⟩:=hall e hf2
     have hback:(⟨seen⟩:Array Nat).back?=some n:=by
      rw[← Array.getLast?_toList];exact gL0 hl
     have hget:(getObj (Γ.b b)).run p.P w=.ok (.mapIter (some (Γ.b m)) a ⟨seen⟩ c) w:=by simp[getObj,Sem.run,hO2]
     have hfa:(⟨es.map (qL Γ)⟩:Array MapEntry).find? (λx=>x.born == n)=some (qL Γ e):=by
      rw[← Array.find?_toList];exact hf1
     refine ⟨?_,λ_=>by simp[sc,scL,gB _ _ (bL hk),hv]⟩
     simp only[execOp,ho,hx,hit,con,uZ,Instr.entry,Sem.run_bind,hget,Result.andThen_ok,hback,kP hw,Sem.run_pure]
     simp only[bne_self_eq_false,Bool.false_eq_true,if_false,Sem.run_bind,Sem.run_pure,Result.andThen_ok,hfa]
     simp[qL,conL,qC Γ _ (bL hk)]
    ·cases he
   ·cases he
  ·cases he
 ·cases he
end Go.Ev
namespace Go.Ev
open Go Go.RowKit
theorem bM {h:jB}{i:Nat}{cs:List Z6}{e:Zt}{m:Zb}(hc:cells h i=some (cs,e,m)):∃ fr0,h.get i=some ⟨.cells ⟨cs⟩ e fr0,m⟩:=by
 unfold cells at hc
 split at hc
 ·rename_i cs' e' fr m' hx;cases hc;exact ⟨fr,hx⟩
 ·cases hc
structure Row (p:Par)(Γ:Gam)(n:Nat)(w:Zw)(i:Nat)(cs:List Z6)(e:Zt)(m:Zb)(rest:List Z6)(fr:Nat×Nat):Prop where
 ok:∀ v∈cs,one v=true∧sc n v=true
 heap:w.heap[Γ.b i]?=some (.cells ⟨cs.map (con Γ)++rest⟩ e fr)
 fr:cs.length+rest.length≤fr.1∨fr.2=fr.1
 no:m=false→rest=[]
 more:m=true→∃ t,p.P.info? e=some t∧cs.length+rest.length=Γ.k i*t.size
theorem jU.row {p:Par}{Γ:Gam}{h:jB}{w:Zw}(hr:jU p Γ h w){i:Nat}{cs:List Z6}{e:Zt}{m:Zb}(hc:cells h i=some (cs,e,m))(hG:p.G≤i) :
  i<h.next∧∃ rest fr,Row p Γ h.next w i cs e m rest fr:=by
 obtain ⟨fr0,hg⟩:=bM hc
 obtain ⟨hlt,hO⟩:=hr.obj i _ hg
 simp only[OR] at hO
 obtain ⟨h1,rest,fr,h2,h3,h4,h5⟩:=hO.1 hG
 exact ⟨hlt,rest,fr,h1,h2,h3,h4,h5⟩
theorem jU.cell {p:Par}{Γ:Gam}{h:jB}{w:Zw}(hr:jU p Γ h w){i:Nat}{cs:List Z6}{e:Zt}{m:Zb}(hc:cells h i=some (cs,e,m)){j:Nat}{v:Z6}(hj:cs[j]?=some v)
  (hok:p.G≤i∨sc p.G v=true):one v=true∧sc h.next v=true∧w.cell? ⟨Γ.b i,j,none⟩=some (con Γ v):=by
 obtain ⟨fr0,hg⟩:=bM hc
 obtain ⟨hlt,hO⟩:=hr.obj i _ hg
 simp only[OR] at hO
 by_cases hG:p.G≤i
 ·obtain ⟨h1,rest,fr,h2,h3,h4,h5⟩:=hO.1 hG
  obtain ⟨h6,h7⟩:=h1 v (List.mem_of_getElem? hj)
  refine ⟨h6,h7,?_⟩
  rw[cell_of_row w _ j _ e fr h2]
  have hlt:j<cs.length:=(List.getElem?_eq_some_iff.1 hj).1
  simp only[List.getElem?_toArray]
  rw[List.getElem?_append_left (by simpa using hlt)]
  simp[hj]
 ·rcases hok with h0|h0
  ·exact absurd h0 hG
  ·obtain ⟨h1,h2⟩:=(hO.2 Z0).2.2 j v (by simpa using hj) h0
   exact ⟨h1,qU hr.gn v h0,h2⟩
theorem jU.m_own {p:Par}{Γ:Gam}{h:jB}{w:Zw}(hr:jU p Γ h w){i:Nat}{cs:List Z6}{e:Zt}(hc:cells h i=some (cs,e,true)):p.G≤i:=by
 obtain ⟨fr0,hg⟩:=bM hc
 obtain ⟨hlt,hO⟩:=hr.obj i _ hg
 simp only[OR] at hO
 by_cases hG:p.G≤i
 ·exact hG
 ·have:=(hO.2 Z0).1;cases this
theorem qC0 {cs l:List Z6}{off n:Nat}(h:takeN cs off n=some l):l.length=n∧off+n≤cs.length∧∀ j v,l[j]?=some v→cs[off+j]?=some v:=by
 obtain ⟨hb,rfl⟩:=lA0 h
 refine ⟨by simp;omega,hb,λj v hj=>?_⟩
 rw[List.getElem?_take] at hj
 split at hj
 ·rwa [List.getElem?_drop] at hj
 ·cases hj
theorem rV0 {P:Z9}{w:Zw}{a:Addr}{l:List Z6}{n:Nat}(hl:l.length=n)(h:∀ j v,l[j]?=some v→w.cell? (a.add j)=some v) :
  (loadCells a n).run P w=.ok ⟨l⟩ w:=by
 subst hl;exact run_loadCells_list w a l h
theorem jU.load {p:Par}{Γ:Gam}{h:jB}{w:Zw}(hr:jU p Γ h w){i:Nat}{cs:List Z6}{e:Zt}{m:Zb}(hc:cells h i=some (cs,e,m))
  {off k:Nat} {l:List Z6} (ht:takeN cs off k=some l) (hok:p.G≤i∨∀ v∈l,sc p.G v=true) (P:Z9):(loadCells ⟨Γ.b i,off,none⟩ k).run P w=.ok ⟨l.map (con Γ)⟩ w:=by
 obtain ⟨hl,hle,hg⟩:=qC0 ht
 refine rV0 (by simpa using hl) λj v hj=>?_
 rw[List.getElem?_map] at hj
 cases hx:l[j]? with
 | none=>simp[hx] at hj
 | some u=>
  simp[hx] at hj
  subst hj
  rw[addr_add]
  exact (hr.cell hc (hg j u hx) (hok.imp id λh0=>h0 u (List.mem_of_getElem? hx))).2.2
theorem seen_eq {p:Par}{Γ:Gam}{h:jB}{w:Zw}(hr:jU p Γ h w){b:Nat}{v u:Z6}(he:seen h.lo b v=some u):u=v∧(p.G≤b∨sc p.G v=true):=by
 unfold seen at he
 rw[lY0,hr.lo] at he
 cases hb:Nat.ble p.G b with
 | true=>rw[hb] at he;cases he;exact ⟨rfl,.inl (by simpa using hb)⟩
 | false=>
  rw[hb] at he
  cases hs:sc p.G v with
  | true=>rw[hs] at he;cases he;exact ⟨rfl,.inr rfl⟩
  | false=>rw[hs] at he;cases he
theorem gT0 {p:Par}{Γ:Gam}{h:jB}{w:Zw}(hr:jU p Γ h w){t:Zt}{a v:Z6}(he:jA p.P t a h=some v) :
  (Instr.loadAt t (con Γ a)).run p.P w=.ok (con Γ v) w:=by
 unfold jA at he
 split at he
 ·rename_i b off
  split at he
  ·rename_i cs e m hc
   split at he
   ·rename_i ha
    split at he
    ·rename_i n hn
     split at he
     ·rename_i l hl
      obtain ⟨rfl,hok⟩:=seen_eq hr he
      have:=hr.load hc hl (hok.imp id λh0 v hv=>qV h0 v hv) p.P
      simp[con,uZ,Instr.loadAt,Instr.sureAddr,loadVar,uX0 ha,kG hn,this,bF]
     ·cases he
    ·cases he
   ·rename_i ha
    split at he
    ·rename_i u hu
     obtain ⟨rfl,hok⟩:=seen_eq hr he
     have:=(hr.cell hc hu hok).2.2
     simp[con,uZ,Instr.loadAt,Instr.sureAddr,loadVar,uX0 ha,this]
    ·cases he
   ·cases he
  ·cases he
 ·cases he
theorem bL0 {p:Par}{Γ:Gam}{h:jB}{w:Zw}(hr:jU p Γ h w){t:Zt}{a:Z8 Addr}{len cap:Nat}{lo hi mx:Z8 Z6}{v:Z6}
  (he:kB p.P t a len cap lo hi mx h=some v) :
  (Instr.sliceAt t (con Γ (.slice a len cap)) (lo.map (con Γ)) (hi.map (con Γ)) (mx.map (con Γ))).run p.P w=.ok (con Γ v) w:=by
 unfold kB at he
 split at he
 ·rename_i e b off hu
  split at he
  ·rename_i size cs e' hs hc
   split at he
   ·rename_i hb
    simp only[Z5,Nat.beq_eq,Nat.ble_eq,Nat.blt_eq] at hb
    obtain ⟨⟨⟨⟨⟨h1,h2⟩,h3⟩,h4⟩,h5⟩,h6⟩:=hb
    obtain ⟨hlt,rest,fr,hrow⟩:=hr.row hc (hr.m_own hc)
    obtain ⟨ti,hti,hk⟩:=hrow.more rfl
    have hsz:ti.size=size:=by
     unfold szT at hs;rw[← h1,hti] at hs;simpa using hs
    rw[hsz] at hk
    have hcap:len≤Γ.k b-(cap-UC):=by
     have:(cap-UC+len)*size≤Γ.k b*size:=by
      rw[Nat.add_mul,← h3];omega
     have:=Nat.le_of_mul_le_mul_right this h4
     omega
    have hnot:¬ cap<UC:=Z0
    split at he
    ·rename_i l hh m hbd
     have hbr:=jP0 (P:=p.P) (w:=w) Γ true hbd hcap
     have hkey:=bK hbd
     have hmle:∀ mm,m=some mm→mm≤len:=λmm hm=>by
      rcases hkey.1 with ⟨_,h0⟩|⟨k,mm',_,h0,hle⟩
      ·rw[h0] at hm;cases hm
      ·rw[h0] at hm;cases hm;exact hle
     simp only[con,qN,if_neg hnot,Instr.sliceAt,Instr.slice,Sem.run_bind,jM hu,Result.andThen_ok,hbr,kG hs,Sem.run_pure]
     ·cases m with
      | some mm=>
       have hmm:=hmle mm rfl
       have hmU:mm<UC:=by have:=U_UC;omega
       simp only[Option.getD_some]
       dsimp only at he
       split at he
       ·rename_i e1;simp only[Nat.beq_eq] at e1;cases he
        have h8:=eP0
        simp[con,uZ,qN,e1,h8]
       ·rename_i e1
        have e2:mm≠l:=λe=>by rw[e] at e1;simp at e1
        cases he
        have h7:mm-l<UC:=Z0
        simp only[if_neg e2,Option.map_some,con,qN,uD0,addr_add,if_pos h7]
      | none=>
       dsimp only at he
       split at he<;>cases he
       rename_i hlen
       simp only[Nat.blt_eq] at hlen
       have hne:¬ (Γ.k b-(cap-UC)=l):=Z0
       have hnk:¬ (cap+l<UC):=Z0
       have hsub:Γ.k b-(cap-UC)-l=Γ.k b-(cap+l-UC):=by
        generalize UC=u at h2 ⊢
        omega
       have e2:con Γ (Value.slice (some ⟨b,off+l*size,none⟩) (hh-l) (cap+l))=Value.slice (some ⟨Γ.b b,off+l*size,none⟩) (hh-l) (Γ.k b-(cap-UC)-l):=by
        simp only[con,uZ,qN]
        rw[if_neg hnk,hsub]
       rw[addr_add,e2,Option.getD_none,if_neg hne,Option.map_some,uZ,addr_add]
    ·cases he
   ·cases he
  ·cases he
 ·cases he
theorem bK0 {p:Par}{Γ:Gam}{h:jB}{w:Zw}(hr:jU p Γ h w){t:Zt}{a:Z8 Addr}{len cap:Nat}{lo hi mx:Z8 Z6}{v:Z6}
  (he:gS p.P t a len cap lo hi mx h=some v) :
  (Instr.sliceAt t (con Γ (.slice a len cap)) (lo.map (con Γ)) (hi.map (con Γ)) (mx.map (con Γ))).run p.P w=.ok (con Γ v) w:=by
 unfold gS at he
 split at he
 ·rename_i e b off hu
  split at he
  ·rename_i size cs e' hs hc
   split at he
   ·rename_i hb
    simp only[Z5,Nat.beq_eq,Nat.ble_eq,Nat.blt_eq] at hb
    obtain ⟨⟨⟨⟨⟨h1,h2⟩,h3⟩,h4⟩,h5⟩,h6⟩:=hb
    obtain ⟨hlt,rest,fr,hrow⟩:=hr.row hc (hr.m_own hc)
    obtain ⟨ti,hti,hk⟩:=hrow.more rfl
    have hsz:ti.size=size:=by
     unfold szT at hs;rw[← h1,hti] at hs;simpa using hs
    rw[hsz] at hk
    have h7:(cs.length-off).div size*size≤cs.length-off:=Nat.div_mul_le_self _ _
    have h8:len≤(cs.length-off).div size:=(Nat.le_div_iff_mul_le h4).2 Z0
    revert h6 h7 h8 he
    generalize (cs.length-off).div size=av
    intro he h6 h7 h8
    have hcap:av≤Γ.k b-(cap-UC):=by
     have:(cap-UC+av)*size≤Γ.k b*size:=by
      rw[Nat.add_mul,← h3];omega
     have:=Nat.le_of_mul_le_mul_right this h4
     omega
    have hnot:¬ cap<UC:=Z0
    split at he
    ·rename_i l hh hbd
     have hbr:=jP0 (P:=p.P) (w:=w) Γ true hbd hcap
     simp only[con,qN,if_neg hnot,Instr.sliceAt,Instr.slice,Sem.run_bind,jM hu,Result.andThen_ok,hbr,kG hs,Sem.run_pure]
     split at he<;>cases he
     rename_i hlen
     simp only[Z5,Nat.blt_eq] at hlen
     replace hlen:=hlen.2
     have hne:¬ (Γ.k b-(cap-UC)=l):=Z0
     have hnk:¬ (cap+l<UC):=Z0
     have hsub:Γ.k b-(cap-UC)-l=Γ.k b-(cap+l-UC):=by
      generalize UC=u at h2 ⊢
      omega
     have e2:con Γ (Value.slice (some ⟨b,off+l*size,none⟩) (hh-l) (cap+l))=Value.slice (some ⟨Γ.b b,off+l*size,none⟩) (hh-l) (Γ.k b-(cap-UC)-l):=by
      simp only[con,uZ,qN]
      rw[if_neg hnk,hsub]
     rw[addr_add,e2,Option.getD_none,if_neg hne,Option.map_some,uZ,addr_add]
    ·cases he
   ·cases he
  ·cases he
 ·cases he
theorem zM0:∀ {l:List Z6} {bs:List Zu},bytesOf l=some bs→∃ ns:List Int,l=ns.map (Value.int .u8)∧bs=ns.map λn=>UInt8.ofNat n.toNat
 | [],bs,h=>by simp[bytesOf] at h;exact ⟨[],rfl,by simpa using h.symm⟩
 | .int .u8 n :: vs,bs,h=>by
  simp only[bytesOf] at h
  split at h<;>cases h
  rename_i l hl
  obtain ⟨ns,h1,h2⟩:=zM0 hl
  exact ⟨n :: ns,by simp[h1],by simp[h2]⟩
 | .int .i8 _ :: _,_,h=>by simp[bytesOf] at h
 | .int .i16 _ :: _,_,h=>by simp[bytesOf] at h
 | .int .i32 _ :: _,_,h=>by simp[bytesOf] at h
 | .int .i64 _ :: _,_,h=>by simp[bytesOf] at h
 | .int .u16 _ :: _,_,h=>by simp[bytesOf] at h
 | .int .u32 _ :: _,_,h=>by simp[bytesOf] at h
 | .int .u64 _ :: _,_,h=>by simp[bytesOf] at h
 | .bool _ :: _,_,h=>by simp[bytesOf] at h
 | .float _ _ :: _,_,h=>by simp[bytesOf] at h
 | .complex _ _ _ :: _,_,h=>by simp[bytesOf] at h
 | .string _ :: _,_,h=>by simp[bytesOf] at h
 | .pointer _ :: _,_,h=>by simp[bytesOf] at h
 | .slice _ _ _ :: _,_,h=>by simp[bytesOf] at h
 | .map _ :: _,_,h=>by simp[bytesOf] at h
 | .chan _ :: _,_,h=>by simp[bytesOf] at h
 | .func _ _ _ :: _,_,h=>by simp[bytesOf] at h
 | .nilFunc :: _,_,h=>by simp[bytesOf] at h
 | .iface _ _ :: _,_,h=>by simp[bytesOf] at h
 | .nilIface :: _,_,h=>by simp[bytesOf] at h
 | .agg _ :: _,_,h=>by simp[bytesOf] at h
 | .tuple _ :: _,_,h=>by simp[bytesOf] at h
theorem wU0:∀ (ns:List Int) (s:ByteArray),ns.foldl (λr n=>r.push (UInt8.ofNat n.toNat)) s=⟨⟨s.data.toList++ns.map λn=>UInt8.ofNat n.toNat⟩⟩
 | [],s=>by simp
 | n :: ns,s=>by
  rw[List.foldl_cons,wU0 ns]
  simp[ByteArray.push]
theorem nT0 {p:Par}{Γ:Gam}{h:jB}{w:Zw}(hr:jU p Γ h w){tm:VT}{ca:Act}{o:Oper}{v:Z6}(ht:Tm Γ p.NG tm ca)
  (hop:o.op.operands.all (qJ0 p.NG)=true) (he:zK0 p.P o tm h=some v) :
  (execOp ca.eval o).run p.P w=.ok (.value (con Γ v)) w:=by
 have hev:∀ x∈o.op.operands,ca.eval x=con Γ (ev tm x):=λx hx=>ht.eval (by
  rw[Array.all_eq_true_iff_forall_mem] at hop;exact hop x hx)
 unfold zK0 at he
 split at he
 ·rename_i t a ho
  have hx:=hev a (by simp[ho,Op.operands])
  simp only[execOp,ho,hx,Sem.run_bind,gT0 hr he,Result.andThen_ok,Sem.run_pure]
 ·rename_i t x lo hi mx ho
  have hx:=hev x (by simp[ho,Op.operands])
  have hlo:lo.map ca.eval=(lo.map (ev tm)).map (con Γ):=by
   cases lo with
   | none=>rfl
   | some y=>simp[hev y (by simp[ho,Op.operands])]
  have hhi:hi.map ca.eval=(hi.map (ev tm)).map (con Γ):=by
   cases hi with
   | none=>rfl
   | some y=>simp[hev y (by simp[ho,Op.operands])]
  have hmx:mx.map ca.eval=(mx.map (ev tm)).map (con Γ):=by
   cases mx with
   | none=>rfl
   | some y=>simp[hev y (by simp[ho,Op.operands])]
  split at he
  ·rename_i a n c hxe
   split at he
   ·rename_i v' he'
    cases he
    simp only[execOp,ho,hx,hxe,hlo,hhi,hmx,Sem.run_bind,bL0 hr he',Result.andThen_ok,Sem.run_pure]
   ·simp only[execOp,ho,hx,hxe,hlo,hhi,hmx,Sem.run_bind,bK0 hr he,Result.andThen_ok,Sem.run_pure]
  ·cases he
 ·rename_i s d x ho
  have hx:=hev x (by simp[ho,Op.operands])
  split at he
  ·rename_i e n c hs hd hxe
   split at he<;>cases he
   rename_i hu8
   simp only[execOp,ho,hx,hxe,con,Sem.run_bind]
   rw[run_convert_bytes_string w s d e _ _ _ hs hu8 hd]
   simp[Conv.bytesToString]
  ·rename_i e a c hs hd hxe
   split at he<;>cases he
   rename_i hu8
   simp only[execOp,ho,hx,hxe,con,uZ,Sem.run_bind]
   rw[run_convert_bytes_string w s d e _ _ _ hs hu8 hd]
   have hld:(loadCells ⟨Γ.b a.block,a.off,a.spot⟩ 0).run p.P w=.ok (([]:List Int).map (Value.int .u8)).toArray w:=by
    simp[loadCells,loadCellsFrom]
   have hrun:=run_bytesToString w ⟨Γ.b a.block,a.off,a.spot⟩ 0 (qN Γ a.block c) [] hld
   rw[hrun,wU0]
   rfl
  ·rename_i e g off n c hne hs hd hxe
   split at he
   ·rename_i cs e' m hu8 hc
    split at he
    ·rename_i l hl
     split at he<;>cases he
     rename_i bs hbs
     obtain ⟨ns,h1,h2⟩:=zM0 hbs
     have hld:=hr.load hc hl (.inr λv hv=>by
      rw[h1] at hv
      obtain ⟨k,_,rfl⟩:=List.mem_map.1 hv
      rfl) p.P
     rw[h1] at hld
     have hflat:(ns.map (Value.int .u8)).map (con Γ)=ns.map (Value.int .u8):=by
      rw[List.map_map];exact List.map_congr_left λn _=>rfl
     rw[hflat] at hld
     have hrun:=run_bytesToString w ⟨Γ.b g,off,none⟩ n (qN Γ g c) ns hld
     simp only[execOp,ho,hx,hxe,con,uZ,Sem.run_bind]
     rw[run_convert_bytes_string w s d e _ _ _ hs hu8 hd,hrun,wU0]
     simp[h2]
    ·cases he
   ·cases he
  ·cases he
 ·exact (kV0 hr hev he).1
end Go.Ev
namespace Go.Ev
open Go Go.RowKit
def Out (p:Par)(Γ:Gam)(h:jB)(ca:Act)(o:Oper)(w:Zw)(v:Z6)(h':jB):Prop:=
 ∃ Γ' w' nx,(execOp ca.eval o).run p.P w=.ok nx w'∧(nx=.value (con Γ' v)∨(nx=.skip∧v=undef))∧Ag Γ Γ' h.next∧h.next≤h'.next∧jU p Γ' h' w'∧Fr p Γ h w w'
theorem jD0 {p:Par}{Γ:Gam}{h:jB}{w:Zw}(hr:jU p Γ h w){e:Zt}{cs:List Z6}{more:Zb}{b:Nat}{h':jB}
  (hm:bC h e cs more=some (b,h')) (rest:List Z6) (k:Nat) (fr:Nat×Nat) (hfr:cs.length+rest.length≤fr.1∨fr.2=fr.1) (hno:more=false→rest=[])
  (hmore:more=true→∃ t,p.P.info? e=some t∧cs.length+rest.length=k*t.size) :
  b=h.next∧h'.next=h.next+1∧Ag Γ (Γ.ext h.next w.heap.size k) h.next∧
  jU p (Γ.ext h.next w.heap.size k) h' (w.alloc (.cells ⟨cs.map (con Γ)++rest⟩ e fr))∧Fr p Γ h w (w.alloc (.cells ⟨cs.map (con Γ)++rest⟩ e fr)):=by
 unfold bC at hm
 split at hm
 case h_2=>cases hm
 rename_i hb
 rw[jB.new_eq] at hm
 cases hm
 simp only[kU,Z5,List.all_eq_true] at hb
 have hag:=Γ.ext_ag h.next w.heap.size k
 have hok:∀ v∈cs,one v=true∧sc h.next v=true:=λv hv=>⟨hb.1 v hv,qV hb.2 v hv⟩
 have hmap:cs.map (con (Γ.ext h.next w.heap.size k))=cs.map (con Γ):=List.map_congr_left λv hv=>bT hag v (hok v hv).2
 have:=jU.new (x:=⟨.cells ⟨cs⟩ e,more⟩) (o:=.cells ⟨cs.map (con Γ)++rest⟩ e fr) (k:=k) hr (by
  simp only[OR]
  refine ⟨λ_=>⟨λv hv=>⟨(hok v hv).1,qU (Nat.le_succ _) v (hok v hv).2⟩,rest,fr,?_,by simpa using hfr,hno,?_⟩,λh0=>absurd h0 (Nat.not_lt.2 hr.gn)⟩
  ·rw[Gam.ext_b,hmap];exact heap_alloc_new w _
  ·rw[Gam.ext_k];simpa using hmore)
 rw[jB.new_eq] at this
 exact ⟨rfl,rfl,hag,this.1,this.2⟩
theorem jG0 (Γ:Gam)(n b k:Nat):con (Γ.ext n b k) (.pointer (some ⟨n,0,none⟩))=.pointer (some ⟨b,0,none⟩):=by
 simp[con,uZ,Gam.ext_b]
theorem kO0 (z:Array Z6):∀ n,((Array.range (n*z.size)).map (z[· % z.size]!)).toList=(List.replicate n z.toList).flatten:=by
 intro n
 induction n with
 | zero=>simp
 | succ n ih=>
  have e:(n+1)*z.size=n*z.size+z.size:=by rw[Nat.add_mul];simp
  rw[e]
  simp only[Array.toList_map,Array.toList_range] at ih ⊢
  rw[List.range_add,List.map_append,ih,List.replicate_succ',List.flatten_append]
  congr 1
  simp only[List.map_map,List.flatten_singleton]
  apply List.ext_getElem
  ·simp
  ·intro i h1 h2
   simp at h1
   simp[Nat.add_comm,Nat.mod_eq_of_lt h1,getElem!_pos z i h1]
theorem iB0 {p:Par}{Γ:Gam}{h h':jB}{w:Zw}(hr:jU p Γ h w){t:Zt}{a v:Z6}(he:yF0 p.P t a v h=some h') :
  ∃ w',(Instr.storeAt t (con Γ a) (con Γ v)).run p.P w=.ok () w'∧h'.next=h.next∧jU p Γ h' w'∧Fr p Γ h w w':=by
 unfold yF0 at he
 split at he
 ·rename_i b off
  split at he
  ·rename_i cs e m n hc hn
   split at he
   ·rename_i hb
    simp only[kU,Z5,Nat.beq_eq,List.all_eq_true,Nat.ble_eq] at hb
    obtain ⟨⟨h1,h2,h3⟩,h4⟩:=hb
    split at he<;>cases he
    rename_i cs' hset
    obtain ⟨hle,rfl⟩:=kM0 hset
    obtain ⟨fr0,hg⟩:=bM hc
    have hG:p.G≤b:=by rw[← hr.lo];exact h4
    obtain ⟨hlt,rest,fr,hrow⟩:=hr.row hc hG
    have hst:=kK p.P (Γ.b b) off e fr (v.cells.toList.map (con Γ)) 0 (cs.map (con Γ)++rest) w hrow.heap
     (by simpa using hrow.fr) (by simp at hle ⊢;omega) (by
      intro x hx
      simp only[List.mem_map] at hx
      obtain ⟨y,hy,rfl⟩:=hx
      rw[bP0];exact h2 y hy)
    have hset:jJ (cs.map (con Γ)++rest) (off+0) (v.cells.toList.map (con Γ))=(jJ cs off v.cells.toList).map (con Γ)++rest:=by
     rw[jC0]
     simp only[jJ,Nat.add_zero,List.length_map]
     rw[List.take_append_of_le_length (by simp at hle ⊢;omega),List.drop_append_of_le_length (by simp at hle ⊢;omega)]
     simp
    rw[hset] at hst
    have hlen:(jJ cs off v.cells.toList).length=cs.length:=by
     simp only[jJ,List.length_append,List.length_take,List.length_drop]
     omega
    have hok:∀ x∈jJ cs off v.cells.toList,one x=true∧sc h.next x=true:=by
     intro x hx
     simp only[jJ,List.mem_append] at hx
     rcases hx with (hx|hx)|hx
     ·exact hrow.ok x (List.mem_of_mem_take hx)
     ·exact ⟨h2 x hx,qV h3 x hx⟩
     ·exact hrow.ok x (List.mem_of_mem_drop hx)
    have hput:=hr.put (x':=⟨.cells ⟨jJ cs off v.cells.toList⟩ e,m⟩) (o:=.cells ⟨(jJ cs off v.cells.toList).map (con Γ)++rest⟩ e fr) hg rfl h4 (by
     simp only[OR]
     refine ⟨λ_=>⟨hok,rest,fr,?_,?_,hrow.no,λhm=>?_⟩,λh0=>absurd h0 (Nat.not_lt.2 hG)⟩
     ·rw[qF _ _ _ (Array.getElem?_eq_some_iff.1 hrow.heap).1];simp
     ·have:=hrow.fr;simpa[hlen] using this
     ·obtain ⟨ti,h5,h6⟩:=hrow.more hm
      exact ⟨ti,h5,by simpa[hlen] using h6⟩)
    refine ⟨_,?_,rfl,hput.1,hput.2⟩
    have hsz:((con Γ v).cells.size≠n)=False:=by
     rw[wI0];simp[h1]
    simp only[con,uZ,Instr.storeAt,Instr.sureAddr,storeVar,Sem.run_bind,Sem.run_pure,Result.andThen_ok,kG hn,hsz,if_false]
    rw[wI0]
    simpa using hst
   ·cases he
  ·cases he
 ·cases he
theorem wY1 {P:Z9}{w:Zw}{x:Z6}{m:Nat}(Γ:Gam)(h:lenV x=some m):(Builtin.lenOf (con Γ x)).run P w=.ok m w:=by
 unfold lenV at h
 split at h<;>cases h
 ·rename_i a _;cases a<;>simp[con,Builtin.lenOf]
 ·simp[con,Builtin.lenOf]
theorem zF0 {p:Par}{Γ:Gam}{h:jB}{w:Zw}(hr:jU p Γ h w){size n:Nat}{x:Z6}{l:List Z6}(he:kL size n x h=some l) :
  l.length=n*size∧(∀ v∈l,one v=true∧sc h.next v=true)∧∀ w',w'.heap=w.heap→(Builtin.firstCells size n (con Γ x)).run p.P w'=.ok ⟨l.map (con Γ)⟩ w':=by
 unfold kL at he
 split at he
 ·rename_i a len cap
  split at he
  ·cases he
   refine ⟨by simp,(λv hv=>by cases hv),λw' _=>?_⟩
   cases a<;>simp[con,Builtin.firstCells,loadCells,loadCellsFrom]
  split at he
  case h_2=>cases he
  rename_i b off
  split at he
  ·rename_i cs e m hc
   split at he
   ·rename_i l' hl
    have hok:l'=l∧(p.G≤b∨∀ v∈l',sc p.G v=true):=by
     rw[hr.lo] at he
     cases hb:Nat.ble p.G b with
     | true=>rw[hb] at he;cases he;exact ⟨rfl,.inl (by simpa using hb)⟩
     | false=>
      rw[hb] at he
      cases hs:jT p.G l' with
      | true=>
       rw[hs] at he;cases he
       simp only[kU,Z5] at hs
       exact ⟨rfl,.inr λv hv=>qV hs.2 v hv⟩
      | false=>rw[hs] at he;cases he
    obtain ⟨rfl,hok⟩:=hok
    refine ⟨(qC0 hl).1,λv hv=>?_,λw' hw=>?_⟩
    ·obtain ⟨j,hj⟩:=List.getElem?_of_mem hv
     have:=hr.cell hc ((qC0 hl).2.2 j v hj) (hok.imp id λh0=>h0 v hv)
     exact ⟨this.1,this.2.1⟩
    ·have:=(hr.of_heap hw).load hc hl hok p.P
     simpa[con,uZ,Builtin.firstCells] using this
   ·cases he
  ·cases he
 ·rename_i s
  split at he<;>cases he
  rename_i hb
  simp only[Z5,Nat.beq_eq] at hb
  obtain ⟨h1,h2⟩:=hb
  subst h1 h2
  have hsz:s.data.toList.length=s.size:=Array.length_toList
  refine ⟨by rw[List.length_map,hsz,Nat.mul_one],λv hv=>(by obtain ⟨u,_,rfl⟩:=List.mem_map.1 hv;exact ⟨rfl,rfl⟩),λw' _=>?_⟩
  simp only[con,Builtin.firstCells,Sem.run_pure]
  congr 1
  apply Array.ext'
  rw[List.map_map]
  simp only[Array.toList_map]
  have hex:(s.extract 0 s.size).data.toList=s.data.toList:=by
   rw[ByteArray.data_extract]
   have:s.data.extract 0 s.size=s.data:=by
    rw[show s.size=s.data.size from rfl];exact Array.extract_size
   rw[this]
  rw[hex]
  rfl
 ·cases he
theorem jQ0 {P:Z9}{w:Zw}{sT xT ty e:Zt}{i:TypeInfo}{base:Z8 Addr}{n m cap:Nat}{x:Z6}{new:List Z6}{dx:TypeDesc}
  (hs:P.underlying sT=some (.slice e)) (hxT:P.underlying xT=some dx) (hni:∀ k,dx≠.int k) (hi:P.info? e=some i) (hlen:(Builtin.lenOf x).run P w=.ok m w)
  (hnew:(Builtin.firstCells i.size m x).run P w=.ok ⟨new⟩ w) (hle:n+m≤cap) {w':Zw}
  (hst:(match base with|some a=>storeCells (a.add (n*i.size)) new|none=>pure ():Sem Unit).run P w=.ok () w') :
  (Builtin.append_ #[sT,xT] ty #[.slice base n cap,x]).run P w=.ok (.slice base (n+m) cap) w':=by
 have hz:(dx matches .int _)=false:=by cases dx<;>first|rfl|exact absurd rfl (hni _)
 simp only[Builtin.append_,List.getElem?_toArray,List.getElem?_cons_zero,List.getElem?_cons_succ,Sem.run_bind,jM hs,Result.andThen_ok,sizeOf,typeInfo,run_program,hi,Sem.run_pure,
  jM hxT,Bool.false_eq_true,if_false,hlen,if_pos hle,Bool.not_false,if_true,hnew]
 cases base with
 | none=>simp at hst ⊢;exact hst
 | some a=>simp at hst;simp[hst]
theorem yN0 {P:Z9}{w:Zw}{sT xT ty e:Zt}{i:TypeInfo}{z:Z6}{base:Z8 Addr}{n m cap:Nat}{x:Z6}{old new:List Z6}{dx:TypeDesc}
  (hs:P.underlying sT=some (.slice e)) (hxT:P.underlying xT=some dx) (hni:∀ k,dx≠.int k) (hi:P.info? e=some i) (hz:i.zero=some z) (hlen:(Builtin.lenOf x).run P w=.ok m w)
  (hold:(Builtin.firstCells i.size n (.slice base n cap)).run P w.drew=.ok ⟨old⟩ w.drew)
  (hnew:(Builtin.firstCells i.size m x).run P w.drew=.ok ⟨new⟩ w.drew) (hgt:cap<n+m) (h63:((n+m:Nat):Int)≤9223372036854775807)
  (hfit:Builtin.nextslicecap (n+m) cap*i.bytes≤281474976710656) :
  (Builtin.append_ #[sT,xT] ty #[.slice base n cap,x]).run P w=.ok (.slice (some ⟨w.heap.size,0,none⟩) (n+m) (grownCap w (n+m) cap e))
   (w.drew.alloc (.cells ⟨old++new++(Builtin.zeroCells z.cells (grownCap w (n+m) cap e-(n+m))).toList⟩ e)):=by
 have hzz:(dx matches .int _)=false:=by cases dx<;>first|rfl|exact absurd rfl (hni _)
 have hn:¬ (n+m≤cap):=Z0
 have h63':¬ (((n+m:Nat):Int) > IntKind.i64.max):=by
  have:IntKind.i64.max=9223372036854775807:=by decide
  omega
 have h48':¬ (Builtin.nextslicecap (n+m) cap*i.bytes > 2 ^ 48):=by
  have:(2:Nat) ^ 48=281474976710656:=by decide
  omega
 simp only[Builtin.append_,List.getElem?_toArray,List.getElem?_cons_zero,List.getElem?_cons_succ,Sem.run_bind,jM hs,Result.andThen_ok,sizeOf,typeInfo,run_program,hi,Sem.run_pure,
  jM hxT,Bool.false_eq_true,if_false,hlen,if_neg hn,h63',false_and,h48',Bool.not_false,if_true]
 simp only[run_choose,Question.forced,Bool.false_eq_true,if_false,Result.andThen_ok,run_askRoom,World.drew_eq,zeroValue,typeInfo,Sem.run_bind,run_program,hi,hz,Sem.run_pure]
 rw[hold]
 simp only[Result.andThen_ok]
 rw[hnew]
 simp only[Result.andThen_ok,newRow,Sem.run_bind,run_newObj,Sem.run_pure,World.alloc_eq]
 simp only[grownCap]
 congr 2
 congr 1
 apply Array.ext'
 simp
theorem wC0 {h:jB}{b:Nat}{x' y:jV}(j:Nat) :
  ({ t:=(h.t.put h.next x').put b y,next:=h.next+1,lo:=h.lo }:jB).get j=if j=b then some y else if j=h.next then some x' else h.get j:=by
 simp only[jB.get]
 rw[Tr.get_put _ b y j,Tr.get_put h.t h.next x' j]
theorem jU.lend {p:Par}{Γ:Gam}{h:jB}{w:Zw}(hr:jU p Γ h w){b:Nat}{x x':jV}{e:Zt}{cs:List Z6}(hx:h.get b=some x)(ho:owned x=true)(hlo:h.lo≤b)(hcs:∀ v∈cs,one v=true∧sc h.next v=true)
  {o:Obj} (hOR:OR p (Γ.ext h.next (Γ.b b) (Γ.k b)) (h.next+1) (wset w (Γ.b b) o) h.next x') (hox:owned x'=true) :
  jU p (Γ.ext h.next (Γ.b b) (Γ.k b)) { t:=(h.t.put h.next x').put b (kD h.next e cs),next:=h.next+1,lo:=h.lo } (wset w (Γ.b b) o)∧Fr p Γ h w (wset w (Γ.b b) o):=by
 have hb:=(hr.obj b x hx).1
 have hlt:=pJ0 (hr.obj b x hx).2 ho
 have hG:p.G≤b:=by rw[← hr.lo];exact hlo
 have hB:p.B≤Γ.b b:=hr.base b x hx ho hG
 have hag:=Γ.ext_ag h.next (Γ.b b) (Γ.k b)
 have hne:∀ i y,h.get i=some y→owned y=true→i≠b→Γ.b i≠Γ.b b:=λi y hy hoy hi e=>by
  by_cases hiG:p.G≤i
  ·exact hi (hr.inj i b y x hy hoy hx ho hiG hG e)
  ·have:=hr.low i y Z0 hy hoy;omega
 have hget:=λj=>wC0 (h:=h) (b:=b) (x':=x') (y:=kD h.next e cs) j
 have hbb:∀ i,i<h.next→(Γ.ext h.next (Γ.b b) (Γ.k b)).b i=Γ.b i:=λi hi=>hag.b i hi
 have hdead:owned (kD h.next e cs)=false:=rfl
 have hxL:notL x'=true:=by unfold owned at hox;unfold notL;split at hox<;>simp_all
 have hcase : ∀ i y, ({ t := (h.t.put h.next x').put b (kD h.next e cs), next := h.next + 1, lo := h.lo } : jB).get i = some y → owned y = true →
   (i=h.next∧y=x')∨(i≠h.next∧i≠b∧h.get i=some y∧i<h.next):=λi y hy hoy=>by
  rw[hget] at hy
  split at hy
  ·cases hy;rw[hdead] at hoy;cases hoy
  ·rename_i e
   split at hy
   ·rename_i e2;cases hy;exact .inl ⟨e2,rfl⟩
   ·rename_i e2;exact .inr ⟨e2,e,hy,(hr.obj i y hy).1⟩
 have hlc : ∀ i c e' cs', ({ t := (h.t.put h.next x').put b (kD h.next e cs), next := h.next + 1, lo := h.lo } : jB).get i = some (kD c e' cs') →
   (i=b∧c=h.next∧cs'=cs)∨(i≠b∧h.get i=some (kD c e' cs')):=λi c e' cs' hy=>by
  rw[hget] at hy
  split at hy
  ·rename_i e1
   simp only[kD,Option.some.injEq,jV.mk.injEq,Obj.pending.injEq,Array.mk.injEq,List.cons.injEq,Value.pointer.injEq,Addr.mk.injEq,and_true,true_and] at hy
   exact .inl ⟨e1,hy.1.1.symm,hy.1.2.symm⟩
  ·rename_i e1
   split at hy
   ·cases hy;exact absurd rfl (bQ0 hxL _ _ _)
   ·exact .inr ⟨e1,hy⟩
 refine ⟨⟨λi y hy=>?_,λi y hy hoy hi=>?_,λi j y z hy hoy hz hoz hi hj e=>?_,λg hg=>?_,λi y hi hy hoy=>?_,hr.lo,Nat.le_succ_of_le hr.gn,hr.ng,by rw[jB0];exact hr.size,hr.gs,⟨λi c e' cs' hi=>?_,λi c e' cs' hi j y hj hoy hjG he=>?_,λa x1 e1 cs1 ha i y e' cs' hi hai he=>?_⟩⟩,?_,?_⟩
 ·cases hoy:owned y with
  | false=>
   refine ⟨?_,eR0 hoy⟩
   rw[hget] at hy
   split at hy
   ·rename_i e;rw[e];exact Nat.lt_succ_of_lt hb
   ·split at hy
    ·rename_i e;rw[e];exact Nat.lt_succ_self _
    ·exact Nat.lt_succ_of_lt (hr.obj i y hy).1
  | true=>
   rcases hcase i y hy hoy with ⟨rfl,rfl⟩|⟨h1,h2,h3,h4⟩
   ·exact ⟨Nat.lt_succ_self _,hOR⟩
   ·refine ⟨Nat.lt_succ_of_lt h4,(hr.obj i y h3).2.ag hag (Nat.le_succ _) hr.gn h4 ?_⟩
    rw[qF _ _ _ hlt,if_neg (hne i y h3 hoy h2)]
 ·rcases hcase i y hy hoy with ⟨rfl,rfl⟩|⟨h1,h2,h3,h4⟩
  ·rw[Gam.ext_b];exact hB
  ·rw[hbb i h4];exact hr.base i y h3 hoy hi
 ·rcases hcase i y hy hoy with ⟨rfl,rfl⟩|⟨h1,h2,h3,h4⟩
  ·rcases hcase j z hz hoz with ⟨rfl,rfl⟩|⟨k1,k2,k3,k4⟩
   ·rfl
   ·rw[Gam.ext_b,hbb j k4] at e;exact absurd e.symm (hne j z k3 hoz k2)
  ·rcases hcase j z hz hoz with ⟨rfl,rfl⟩|⟨k1,k2,k3,k4⟩
   ·rw[Gam.ext_b,hbb i h4] at e;exact absurd e (hne i y h3 hoy h2)
   ·rw[hbb i h4,hbb j k4] at e;exact hr.inj i j y z h3 hoy k3 hoz hi hj e
 ·rw[hbb g (by have:=hr.ng;have:=hr.gn;omega)];exact hr.gl g hg
 ·rcases hcase i y hy hoy with ⟨h1,-⟩|⟨h1,h2,h3,h4⟩
  ·have:=hr.gn;omega
  ·rw[hbb i h4];exact hr.low i y hi h3 hoy
 ·rcases hlc i c e' cs' hi with ⟨rfl,rfl,rfl⟩|⟨hne',hi⟩
  ·rw[Gam.ext_b,Gam.ext_k,hbb i hb,hag.k i hb]
   exact ⟨hG,hb,Nat.lt_succ_self _,hB,by rw[jB0];exact hlt,λv hv=>⟨(hcs v hv).1,qU (Nat.le_succ _) v (hcs v hv).2⟩,λ_=>rfl,λh=>absurd rfl h⟩
  ·obtain ⟨q1,q2,q3,q4,q5,q6,q7,q8⟩:=hr.lent.own i c e' cs' hi
   rw[hbb i Z0,hbb c q3,hag.k c q3,hag.k i Z0]
   refine ⟨q1,q2,Nat.lt_succ_of_lt q3,q4,by rw[jB0];exact q5,λv hv=>⟨(q6 v hv).1,qU (Nat.le_succ _) v (q6 v hv).2⟩,q7,λhn=>?_⟩
   obtain ⟨rest,fr,r1,r2,r3⟩:=q8 hn
   refine ⟨rest,fr,?_,r2,r3⟩
   rw[qF _ _ _ hlt,if_neg λhe=>hn (hr.lent.tip i c e' cs' hi b x hx ho hG he.symm).2.1,r1]
   have:cs'.map (con (Γ.ext h.next (Γ.b b) (Γ.k b)))=cs'.map (con Γ):=List.map_congr_left λv hv=>bT hag v (q6 v hv).2
   rw[this]
 ·rcases hlc i c e' cs' hi with ⟨rfl,rfl,rfl⟩|⟨hne',hi⟩
  ·rcases hcase j y hj hoy with ⟨rfl,-⟩|⟨h1,h2,h3,h4⟩
   ·exact ⟨Z3 _,he,λ_ _ _=>rfl⟩
   ·rw[hbb j h4,hbb i hb] at he
    exact absurd he (hne j y h3 hoy h2)
  ·obtain ⟨q1,q2,q3,_⟩:=hr.lent.own i c e' cs' hi
   rw[hbb i Z0] at he ⊢
   rw[hbb c q3]
   have hcc:∀ z,({ t:=(h.t.put h.next x').put b (kD h.next e cs),next:=h.next+1,lo:=h.lo }:jB).get c=some z→owned z=true→c≠b∧h.get c=some z:=λz hz hoz=>by
    rcases hcase c z hz hoz with ⟨h1,-⟩|⟨h1,h2,h3,h4⟩
    ·omega
    ·exact ⟨h2,h3⟩
   rcases hcase j y hj hoy with ⟨rfl,-⟩|⟨h1,h2,h3,h4⟩
   ·rw[Gam.ext_b] at he
    obtain ⟨r1,r2,r3⟩:=hr.lent.tip i c e' cs' hi b x hx ho hG he
    refine ⟨Z0,r2,λz hz hoz=>?_⟩
    obtain ⟨k1,k2⟩:=hcc z hz hoz
    exact absurd (r3 z k2 hoz).symm k1
   ·rw[hbb j h4] at he
    obtain ⟨r1,r2,r3⟩:=hr.lent.tip i c e' cs' hi j y h3 hoy hjG he
    exact ⟨r1,r2,λz hz hoz=>r3 z (hcc z hz hoz).2 hoz⟩
 ·have hlo' : ∀ i c e' cs', ({ t := (h.t.put h.next x').put b (kD h.next e cs), next := h.next + 1, lo := h.lo } : jB).get i = some (kD c e' cs') → i < h.next := fun i c e' cs' hi => by
   rcases hlc i c e' cs' hi with ⟨rfl,_⟩|⟨_,hi⟩
   ·exact hb
   ·exact (hr.obj i _ hi).1
  rw[hbb a (hlo' _ _ _ _ ha),hbb i (hlo' _ _ _ _ hi)] at he
  rw[hbb a (hlo' _ _ _ _ ha)]
  rcases hlc a x1 e1 cs1 ha with ⟨rfl,rfl,rfl⟩|⟨hna,ha'⟩
  ·rcases hlc i y e' cs' hi with ⟨rfl,_⟩|⟨hni,hi'⟩
   ·omega
   ·obtain ⟨r1,r2,r3⟩:=hr.lent.tip i y e' cs' hi' a x hx ho hG he
    have:=(hr.lent.own i y e' cs' hi').2.1
    omega
  ·rw[hbb x1 (hr.lent.own a x1 e1 cs1 ha').2.2.1]
   rcases hlc i y e' cs' hi with ⟨rfl,_⟩|⟨hni,hi'⟩
   ·obtain ⟨r1,r2,r3⟩:=hr.lent.tip a x1 e1 cs1 ha' i x hx ho hG he.symm
    exact ⟨r2,r1⟩
   ·exact hr.lent.two a x1 e1 cs1 ha' i y e' cs' hi' hai he
 ·refine ⟨rfl,rfl,rfl,by rw[jB0];exact Z3 _,λk hk=>?_⟩
  rw[qF _ _ _ hlt,if_neg Z0]
 ·intro i y hy hoy hi
  rw[qF _ _ _ hlt,if_neg (hne i y hy hoy Z0)]
theorem jU.lendTo {p:Par}{Γ:Gam}{h:jB}{w:Zw}(hr:jU p Γ h w){b c:Nat}{e:Zt}{cs:List Z6}{fr0:Nat×Nat}(hx:h.get b=some ⟨.cells ⟨cs⟩ e fr0,true⟩)(hlo:h.lo≤b)(hbc:b<c)(hc:c<h.next)(hne:Γ.b c≠Γ.b b) :
  jU p Γ (h.put b (kD c e cs)) w:=by
 have hG:p.G≤b:=by rw[← hr.lo];exact hlo
 have hb:=(hr.obj b _ hx).1
 have hOR:=(hr.obj b _ hx).2
 simp only[OR] at hOR
 obtain ⟨ok,rest,fr,r1,r2,-,r4⟩:=hOR.1 hG
 have hlt:Γ.b b<w.heap.size:=(Array.getElem?_eq_some_iff.1 r1).1
 have hown:∀ i y,(h.put b (kD c e cs)).get i=some y→owned y=true→i≠b∧h.get i=some y:=λi y hy hoy=>by
  rw[jB.get_put] at hy
  split at hy
  ·cases hy;cases hoy
  ·rename_i hne;exact ⟨hne,hy⟩
 have hlc:∀ i d e' cs',(h.put b (kD c e cs)).get i=some (kD d e' cs')→(i=b∧d=c∧e'=e∧cs'=cs)∨(i≠b∧h.get i=some (kD d e' cs')):=λi d e' cs' hy=>by
  rw[jB.get_put] at hy
  split at hy
  ·rename_i e1
   simp only[kD,Option.some.injEq,jV.mk.injEq,Obj.pending.injEq,Array.mk.injEq,List.cons.injEq,Value.pointer.injEq,Addr.mk.injEq,and_true,true_and] at hy
   exact .inl ⟨e1,hy.1.1.symm,hy.2.symm,hy.1.2.symm⟩
  ·rename_i hne;exact .inr ⟨hne,hy⟩
 refine ⟨λi y hy=>?_,λi y hy hoy hi=>hr.base i y (hown i y hy hoy).2 hoy hi,λi j y z hy hoy hz hoz hi hj e=>hr.inj i j y z (hown i y hy hoy).2 hoy (hown j z hz hoz).2 hoz hi hj e,
  hr.gl,λi y hi hy hoy=>hr.low i y hi (hown i y hy hoy).2 hoy,hr.lo,hr.gn,hr.ng,hr.size,hr.gs,⟨λi d e' cs' hi=>?_,λi d e' cs' hi j y hj hoy hjG he=>?_,λa x1 e1 cs1 ha i y e' cs' hi hai he=>?_⟩⟩
 ·cases hoy:owned y with
  | false=>
   rw[jB.get_put] at hy
   split at hy
   ·rename_i e;subst e;exact ⟨hb,eR0 hoy⟩
   ·exact ⟨(hr.obj i y hy).1,eR0 hoy⟩
  | true=>exact hr.obj i y (hown i y hy hoy).2
 ·rcases hlc i d e' cs' hi with ⟨rfl,rfl,rfl,rfl⟩|⟨_,hi⟩
  ·exact ⟨hG,hbc,hc,hr.base i _ hx rfl hG,hlt,ok,λh=>absurd h hne,λ_=>⟨rest,fr,r1,r2,r4 trivial⟩⟩
  ·exact hr.lent.own i d e' cs' hi
 ·obtain ⟨hjb,hj'⟩:=hown j y hj hoy
  rcases hlc i d e' cs' hi with ⟨rfl,rfl,rfl,rfl⟩|⟨_,hi⟩
  ·exact absurd (hr.inj j i y _ hj' hoy hx rfl hjG hG he) hjb
  ·obtain ⟨q1,q2,q3⟩:=hr.lent.tip i d e' cs' hi j y hj' hoy hjG he
   exact ⟨q1,q2,λz hz hoz=>q3 z (hown d z hz hoz).2 hoz⟩
 ·rcases hlc a x1 e1 cs1 ha with ⟨rfl,rfl,rfl,rfl⟩|⟨hna,ha'⟩
  ·rcases hlc i y e' cs' hi with ⟨rfl,_⟩|⟨hni,hi'⟩
   ·omega
   ·obtain ⟨q1,q2,q3⟩:=hr.lent.tip i y e' cs' hi' a _ hx rfl hG he
    have:=(hr.lent.own i y e' cs' hi').2.1
    omega
  ·rcases hlc i y e' cs' hi with ⟨rfl,_⟩|⟨hni,hi'⟩
   ·obtain ⟨q1,q2,q3⟩:=hr.lent.tip a x1 e1 cs1 ha' i _ hx rfl hG he.symm
    exact ⟨q2,q1⟩
   ·exact hr.lent.two a x1 e1 cs1 ha' i y e' cs' hi' hai he
end Go.Ev
