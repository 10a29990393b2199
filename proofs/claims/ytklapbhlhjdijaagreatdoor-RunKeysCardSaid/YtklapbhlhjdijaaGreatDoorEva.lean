/-
  A part of the proof: conditions over an abstract memory,and that they are enough for what the model's calls do. No condition of its own.
-/
import Derived.CallsIn
import Derived.Laws.Sem
import Derived.OrdersHeld
import Derived.OrdersIn
import Derived.Below
import Derived.WalkKit
import Derived.WalkSpells
import Derived.WalkLawsBesides
import Derived.Laws.BytesString
import Derived.Laws.AppendOwn
import Derived.Laws.MakeOwn
import Derived.RangeFuncRecord
set_option linter.unusedSimpArgs false
set_option linter.unusedVariables false
namespace Go.Ev
open Go
noncomputable section
theorem Z0 {p:Prop}(h:p:=by omega):p:=h
theorem Z1 {p:Prop}(h:p:=by decide):p:=h
theorem Z2 {p:Prop}(h:p:=by first|rfl|omega):p:=h
theorem Z3(n:Nat):n≤n:=Nat.le_refl n
theorem Z4(n:Nat):(n:Int).toNat=n:=Int.toNat_natCast n
theorem Z5(a b:Bool):((a&&b)=true)=(a=true∧b=true):=Bool.and_eq_true a b
abbrev Z6:Type:=Go.Value
abbrev Z8.{u}(α:Type u):Type u:=Option α
abbrev Z9:=Go.Program
abbrev Zt:=Go.TypeId
abbrev Zu:=UInt8
abbrev Zw:=Go.World
abbrev Zb:=Bool
abbrev Zo:=Go.Operand
structure qW where
 o:Obj
 more:Zb
def qO (c:Nat)(e:Zt)(cs:List Z6):qW:=⟨.pending ⟨.pointer (some ⟨c,0,none⟩) :: cs⟩ e,true⟩
def notL (x:qW):Zb:=match x.o with | .pending ..=>false|_=>true
inductive Tr where
 | nil
 | node (l:Tr) (v:Z8 qW) (r:Tr)
def Tr.get (t:Tr):Nat→Z8 qW:=
 Tr.rec (motive:=λ_=>Nat→Z8 qW) (λ_=>none)
  (λ_ v _ h gr i=>Nat.rec (motive:=λ_=>Z8 qW) v (λj _=>Bool.rec (motive:=λ_=>Z8 qW) (gr (Nat.div j 2)) (h (Nat.div j 2)) (Nat.beq (Nat.mod j 2) 0)) i) t
def Tr.go (i:Nat)(x:qW)(f:Tr→Nat→Tr)(l:Tr)(v:Z8 qW)(r:Tr):Tr:=
 Nat.rec (motive:=λ_=>Tr) (.node l (some x) r) (λj _=>Bool.rec (motive:=λ_=>Tr) (.node l v (f r (Nat.div j 2))) (.node (f l (Nat.div j 2)) v r) (Nat.beq (Nat.mod j 2) 0)) i
def Tr.set (n:Nat)(t:Tr)(i:Nat)(x:qW):Tr:=
 Nat.rec (motive:=λ_=>Tr→Nat→Tr) (λt _=>t)
  (λ_ f t i=>Tr.rec (motive:=λ_=>Tr) (Tr.go i x f .nil none .nil) (λl v r _ _=>Tr.go i x f l v r) t) n t i
def Tr.put (t:Tr)(i:Nat)(x:qW):Tr:=Tr.set (Nat.succ i) t i x
structure jA where
 t:Tr
 next:Nat
 lo:Nat
inductive VTr where
 | nil
 | node (l:VTr) (v:Z6) (r:VTr)
def VTr.get (t:VTr):Nat→Z6:=
 VTr.rec (motive:=λ_=>Nat→Z6) (λ_=>undef)
  (λ_ v _ h gr i=>Nat.rec (motive:=λ_=>Z6) v (λj _=>Bool.rec (motive:=λ_=>Z6) (gr (Nat.div j 2)) (h (Nat.div j 2)) (Nat.beq (Nat.mod j 2) 0)) i) t
def VTr.go (i:Nat)(x:Z6)(f:VTr→Nat→VTr)(l:VTr)(v:Z6)(r:VTr):VTr:=
 Nat.rec (motive:=λ_=>VTr) (.node l x r) (λj _=>Bool.rec (motive:=λ_=>VTr) (.node l v (f r (Nat.div j 2))) (.node (f l (Nat.div j 2)) v r) (Nat.beq (Nat.mod j 2) 0)) i
def VTr.set (n:Nat)(t:VTr)(i:Nat)(x:Z6):VTr:=
 Nat.rec (motive:=λ_=>VTr→Nat→VTr) (λt _=>t)
  (λ_ f t i=>VTr.rec (motive:=λ_=>VTr) (VTr.go i x f .nil undef .nil) (λl v r _ _=>VTr.go i x f l v r) t) n t i
structure VT where
 sz:Nat
 t:VTr
def VT.get (T:VT)(i:Nat):Z6:=VT.rec (motive:=λ_=>Z6) (λh t=>Bool.rec (motive:=λ_=>Z6) undef (t.get i) (Nat.ble (Nat.succ i) h)) T
def VT.set (T:VT)(i:Nat)(v:Z6):VT:=VT.rec (motive:=λ_=>VT) (λh t=>Bool.rec (motive:=λ_=>VT) ⟨h,t⟩ ⟨h,t.set 60 i v⟩ (Nat.ble (Nat.succ i) h)) T
def VT.fill:VTr→Nat→List Z6→VTr
 | t,_,[]=>t
 | t,i,v :: vs=>VT.fill (t.set 60 i v) (i+1) vs
def VT.of (l:List Z6)(n:Nat):VT:=⟨l.length+(n-l.length),VT.fill .nil 0 l⟩
def VT.arr (T:VT):Array Z6:=⟨(List.range T.sz).map T.t.get⟩
structure S where
 tm:VT
 df:List Nat
 h:jA
def jA.get (h:jA)(i:Nat):Z8 qW:=h.t.get i
def jA.put (h:jA)(i:Nat)(x:qW):jA:=match h with|⟨t,n,lo⟩=>⟨t.put i x,n,lo⟩
def jA.new (h:jA)(x:qW):Nat×jA:=match h with|⟨t,n,lo⟩=>match n with|0=>(0,⟨t.put 0 x,1,lo⟩)|m+1=>(m+1,⟨t.put (m+1) x,m+2,lo⟩)
@[irreducible] def U:Nat:=100000000000000
@[irreducible] def UC:Nat:=1152921504606846976
mutual
def flat:Z6→Zb
 | .pointer a=>a.isNone
 | .slice a _ _=>a.isNone
 | .map r=>r.isNone
 | .chan _=>false
 | .float _ _=>false
 | .func (.func _) ⟨f⟩ ⟨c⟩=>qB f&&qB c
 | .func _ _ _=>false
 | .iface _ v=>flat v
 | .agg ⟨cs⟩=>qB cs
 | .tuple ⟨vs⟩=>qB vs
 | _=>true
def qB:List Z6→Zb
 | []=>true
 | v :: vs=>flat v&&qB vs
end
def scA (n:Nat)(a:Addr):Zb:=Nat.blt a.block n
mutual
def sc (n:Nat):Z6→Zb
 | .pointer (some a)=>scA n a
 | .slice (some a) _ _=>scA n a
 | .map (some r)=>Nat.blt r n
 | .chan _=>false
 | .func (.func _) ⟨f⟩ ⟨c⟩=>scL n f&&scL n c
 | .func (.yield l) ⟨f⟩ ⟨c⟩=>Nat.blt l n&&scL n f&&scL n c
 | .func _ _ _=>false
 | .iface _ v=>sc n v
 | .agg ⟨cs⟩=>scL n cs
 | .tuple ⟨vs⟩=>scL n vs
 | _=>true
def scL (n:Nat):List Z6→Zb
 | []=>true
 | v :: vs=>sc n v&&scL n vs
end
def fscP (n:Nat)(a:Z8 Addr):Zb:=Option.rec (motive:=λ_=>Zb) true (λa=>Addr.rec (motive:=λ_=>Zb) (λb _ _=>Nat.ble (Nat.succ b) n) a) a
def fsc1 (n:Nat)(v:Z6):Zb:=
 Value.casesOn v (λ_=>true) (λ_ _=>true) (λ_ _=>true) (λ_ _ _=>true) (λ_=>true) (fscP n) (λa _ _=>fscP n a) (λr=>sc n (.map r)) (λ_=>false)
  (λf a b=>sc n (.func f a b)) true (λt v=>sc n (.iface t v)) true (λa=>sc n (.agg a)) (λa=>sc n (.tuple a))
def fscL (n:Nat)(l:List Z6):Zb:=List.rec (motive:=λ_=>Zb) true (λv _ h=>Bool.rec (motive:=λ_=>Zb) false h (fsc1 n v)) l
def fone (n:Nat)(v:Z6):Zb:=
 Value.casesOn v (λ_=>true) (λ_ _=>true) (λ_ _=>true) (λ_ _ _=>true) (λ_=>true) (fscP n) (λa _ _=>fscP n a) (λr=>sc n (.map r)) (λ_=>false)
  (λf a b=>sc n (.func f a b)) true (λt v=>sc n (.iface t v)) true (λ_=>false) (λ_=>false)
def gD (n:Nat)(l:List Z6):Zb:=List.rec (motive:=λ_=>Zb) true (λv _ h=>Bool.rec (motive:=λ_=>Zb) false h (fone n v)) l
def fsc (n:Nat)(v:Z6):Zb:=
 Value.casesOn v (λ_=>true) (λ_ _=>true) (λ_ _=>true) (λ_ _ _=>true) (λ_=>true) (fscP n) (λa _ _=>fscP n a) (λr=>sc n (.map r)) (λ_=>false)
  (λf a b=>sc n (.func f a b)) true (λt v=>sc n (.iface t v)) true (λa=>fscL n a.toList) (λa=>fscL n a.toList)
def pv {h:Type}(P:Z9):Sem h→Z8 h
 | .pure a=>some a
 | .program k=>pv P (k P)
 | .mark _ k=>pv P k
 | _=>none
def evG (g:Nat):Z6:=.pointer (some ⟨g,0,none⟩)
def evF (f:FuncId):Z6:=.func (.func f) #[] #[]
def ev (tm:VT)(o:Zo):Z6:=Operand.rec (motive:=λ_=>Z6) (VT.get tm) (λv=>v) evG evF o
def cells (h:jA)(i:Nat):Z8 (List Z6×Zt×Zb):=
 match h.get i with
 | some ⟨.cells ⟨cs⟩ e _,m⟩=>some (cs,e,m)
 | _=>none
def beqB:List Zu→List Zu→Zb
 | [],[]=>true
 | x :: xs,y :: ys=>match Nat.beq x.toNat y.toNat with | true=>beqB xs ys | false=>false
 | _,_=>false
def eP0 (P:Z9)(t:Zt):Z8 Zb:=
 match P.underlying t with
 | some (.struct _) | some (.array _ _)=>some true
 | some _=>some false
 | none=>none
def szT (P:Z9)(t:Zt):Z8 Nat:=
 match P.info? t with
 | some i=>some i.size
 | none=>none
def gA (NG:Nat):Zo→Zb
 | .const v=>flat v
 | .global g=>Nat.blt g NG
 | _=>true
def qP0 (NG:Nat)(o:Oper):Zb:=o.op.operands.all (gA NG)&&(match o.op with | .defer _=>false | .select _ _=>false|_=>true)
def uY (NG:Nat):Code→Zb
 | .region _ h _=>h.all (qP0 NG)
 | .seq a b=>uY NG a&&uY NG b
 | .cond c a b=>gA NG c&&uY NG a&&uY NG b
 | .block _ b=>uY NG b
 | .loop b=>uY NG b
 | .rangeFunc f _ a b=>gA NG f&&uY NG a&&uY NG b
 | .scope b=>uY NG b
 | _=>true
def qW1 (NG : Nat) (fn : Func) : Bool := match fn.body with | some c => uY NG c && fn.name != "runtime.NumGoroutine" | none => true
def pvF (P:Z9)(s:Sem Z6)(x:Zb):Z8 Z6:=
 match x with
 | true=>match pv P s with
  | some v=>match flat v with | true=>some v | false=>none
  | none=>none
 | false=>none
def jW (P:Z9)(op:BinOp)(t:Zt)(x y:Zo)(a b:Z6):Z8 Z6:=
 match op,a,b with
 | .eql,.string s,.string u=>some (.bool (beqB s.data.toList u.data.toList))
 | .neq,.string s,.string u=>some (.bool (!beqB s.data.toList u.data.toList))
 | .eql,.slice u _ _,.slice none _ _=>match P.underlying t with | some (.slice _)=>some (.bool u.isNone) | _=>none
 | .neq,.slice u _ _,.slice none _ _=>match P.underlying t with | some (.slice _)=>some (.bool (!u.isNone)) | _=>none
 | .eql,.pointer u,.pointer none=>match P.underlying t with | some (.pointer _)=>some (.bool u.isNone) | _=>none
 | .neq,.pointer u,.pointer none=>match P.underlying t with | some (.pointer _)=>some (.bool (!u.isNone)) | _=>none
 | _,_,_=>pvF P (do eqGuard op t x y a b;binOp op t a b) (flat a&&flat b)
def bounds (len a:Nat)(mx hi lo:Z8 Z6):Z8 (Nat×Nat×Z8 Nat):=
 match (match mx with|none=>some none|some (.int _ (.ofNat m))=>(match Nat.ble m a with|true=>some (some m)|false=>none)|some _=>none:Z8 (Z8 Nat)) with
 | none=>none
 | some m=>
  match (match hi,m with
   | none,none=>some len
   | none,some _=>none
   | some (.int _ (.ofNat h)),none=>(match Nat.ble h a with | true=>some h | false=>none)
   | some (.int _ (.ofNat h)),some m=>(match Nat.ble h m with | true=>some h | false=>none)
   | some _,_=>none:Z8 Nat) with
  | none=>none
  | some h=>match (match lo with
   | none=>some 0
   | some (.int _ (.ofNat l))=>(match Nat.ble l h with | true=>some l | false=>none)
   | some _=>none:Z8 Nat) with
   | none=>none
   | some l=>some (l,h,m)
def kU (P:Z9)(t:Zt)(a:Z8 Addr)(len cap:Nat)(lo hi mx:Z8 Z6):Z8 Z6:=
 match P.underlying t with
 | some (.slice e)=>match szT P e,Nat.blt cap UC with
  | some size,true=>match bounds len cap mx hi lo with
   | some (l,h,m)=>
    let m:=m.getD cap
    match Nat.beq m l with
    | true=>some (.slice a (h-l) (m-l))
    | false=>some (.slice (a.map (·.add (l*size))) (h-l) (m-l))
   | none=>none
  | _,_=>none
 | _=>none
def uE0 (n:Nat)(l:List Z6):Z8 (List Z6):=
 Nat.rec (motive:=λ_=>List Z6→Z8 (List Z6)) (λ_=>some [])
  (λ_ f l=>List.rec (motive:=λ_=>Z8 (List Z6)) none (λv r _=>Option.rec (motive:=λ_=>Z8 (List Z6)) none (λx=>some (v :: x)) (f r)) l) n l
def cO0 (n:Nat)(l:List Z6):Z8 (List Z6):=
 Nat.rec (motive:=λ_=>List Z6→Z8 (List Z6)) some
  (λ_ f l=>List.rec (motive:=λ_=>Z8 (List Z6)) none (λ_ r _=>f r) l) n l
def bY0 (vs cs:List Z6):Z8 (List Z6):=
 List.rec (motive:=λ_=>List Z6→Z8 (List Z6)) some
  (λv _ f cs=>List.rec (motive:=λ_=>Z8 (List Z6)) none (λ_ r _=>Option.rec (motive:=λ_=>Z8 (List Z6)) none (λx=>some (v :: x)) (f r)) cs) vs cs
def setE (n:Nat)(vs cs:List Z6):Z8 (List Z6):=
 Nat.rec (motive:=λ_=>List Z6→Z8 (List Z6)) (bY0 vs)
  (λ_ f cs=>List.rec (motive:=λ_=>Z8 (List Z6)) none (λv r _=>Option.rec (motive:=λ_=>Z8 (List Z6)) none (λx=>some (v :: x)) (f r)) cs) n cs
def jK0 (P:Z9)(t:Zt)(a:Addr)(lo hi mx:Z8 Z6):Z8 Z6:=
 match P.underlying t with
 | some (.array n e)=>match szT P e,Nat.blt n U with
  | some size,true=>match bounds n n mx hi lo with
   | some (l,h,m)=>
    let m:=m.getD n
    match Nat.beq m l with
    | true=>some (.slice (some a) (h-l) (m-l))
    | false=>some (.slice (some (a.add (l*size))) (h-l) (m-l))
   | none=>none
  | _,_=>none
 | _=>none
def iB0 (P:Z9)(t:Zt)(cs:List Z6)(off:Nat):Z8 Z6:=
 match eP0 P t with
 | some true=>match szT P t with
  | some n=>match cO0 off cs with
   | some l=>match uE0 n l with
    | some l=>some (.agg ⟨l⟩)
    | none=>none
   | none=>none
  | none=>none
 | some false=>cs[off]?
 | none=>none
def placesOf (P:Z9):List Field→Z8 (List (Nat×Nat))
 | []=>some []
 | f :: fs=>match szT P f.type,placesOf P fs with
  | some n,some l=>some ((f.offset,n) :: l)
  | _,_=>none
def setFrom (cs:List Z6)(off:Nat)(vs:List Z6):List Z6:=cs.take off++vs++cs.drop (off+vs.length)
def cK0 (place:Nat→Z8 (Nat×Nat)):List Z6→List (Nat×Z6)→Z8 (List Z6)
 | cs,[]=>some cs
 | cs,(i,v) :: rest=>match place i with
  | none=>none
  | some (off,size)=>
   match Nat.beq v.cells.size size with
   | true=>match setE off v.cells.toList cs with
    | some h=>cK0 place h rest
    | none=>none
   | false=>none
def cT0 (P:Z9)(t:Zt)(h:List (Nat×Z6)):Z8 Z6:=
 match P.info? t with
 | none=>none
 | some i=>match i.zero with
  | none=>none
  | some z=>match flat z,P.underlying t with
   | true,some (.struct fs)=>match placesOf P fs.toList with
    | some pl=>match cK0 (λi=>pl[i]?) z.cells.toList h with
     | some cs=>some (.agg ⟨cs⟩)
     | none=>none
    | none=>none
   | true,some (.array _ e)=>match szT P e with
    | some n=>match cK0 (λi=>some (i*n,n)) z.cells.toList h with
     | some cs=>some (.agg ⟨cs⟩)
     | none=>none
    | none=>none
   | _,_=>none
def cH (P:Z9)(o:Oper)(tm:VT):Z8 Z6:=
 match o.op with
 | .move x=>some (ev tm x)
 | .assign x=>some (ev tm x)
 | .pick c a b=>match ev tm c with | .bool true=>some (ev tm a) | .bool false=>some (ev tm b) | _=>none
 | .extract t i=>match ev tm t with | .tuple vs=>vs[i]? | _=>none
 | .binOp op t x y _=>jW P op t x y (ev tm x) (ev tm y)
 | .unOp op _ x=>pvF P (Op.unary op (ev tm x)) (flat (ev tm x))
 | .convert s d x=>pvF P (convert s d (ev tm x)) (flat (ev tm x))
 | .fieldAddr s x f=>match P.underlying s,ev tm x with
  | some (.struct fs),.pointer (some a)=>match fs[f]? with
   | some j=>match szT P j.type with
    | some (_+1)=>some (.pointer (some (a.add j.offset)))
    | _=>none
   | none=>none
  | _,_=>none
 | .field t x f=>match P.underlying t,ev tm x with
  | some (.struct fs),.agg cs=>match fs[f]? with
   | some j=>iB0 P j.type cs.toList j.offset
   | none=>none
  | _,_=>none
 | .indexAddr t x i=>match P.underlying t,ev tm x,ev tm i with
  | some (.slice e),.slice (some a) len _,.int _ (.ofNat n)=>match Nat.blt n len,szT P e with
   | true,some size=>some (.pointer (some (a.add (n*size))))
   | _,_=>none
  | some (.array len e),.pointer (some a),.int _ (.ofNat n)=>match Nat.blt n len,szT P e with
   | true,some size=>some (.pointer (some (a.add (n*size))))
   | _,_=>none
  | _,_,_=>none
 | .index t x i=>match ev tm x,ev tm i with
  | .string s,.int k n=>pvF P (Instr.index t (.string s) (.int k n)) true
  | .agg cs,.int _ (.ofNat n)=>match P.underlying t with
   | some (.array len e)=>match Nat.blt n len,szT P e with
    | true,some size=>iB0 P e cs.toList (n*size)
    | _,_=>none
   | _=>none
  | _,_=>none
 | .slice t x lo hi mx=>match ev tm x with
  | .string s=>pvF P (Instr.sliceAt t (.string s) (lo.map (ev tm)) (hi.map (ev tm)) (mx.map (ev tm))) ((lo.map (ev tm)).all flat&&(hi.map (ev tm)).all flat&&(mx.map (ev tm)).all flat)
  | .slice a n c=>kU P t a n c (lo.map (ev tm)) (hi.map (ev tm)) (mx.map (ev tm))
  | .pointer (some a)=>jK0 P t a (lo.map (ev tm)) (hi.map (ev tm)) (mx.map (ev tm))
  | _=>none
 | .build t h=>cT0 P t (h.toList.map λ(i,x)=>(i,ev tm x))
 | .makeFunc (.func g) f c=>some (.func (.func g) (f.map (ev tm)) (c.map (ev tm)))
 | .makeInterface t x=>match P.underlying t with
  | some (.interface _)=>none
  | some _=>some (.iface t (ev tm x))
  | none=>none
 | .nilCheck x=>match ev tm x with
  | .pointer (some a)=>some (.pointer (some a))
  | .func (.func g) f c=>some (.func (.func g) f c)
  | _=>none
 | .call { callee:=.builtin .len,args,argTypes }=>
  match args[0]?,argTypes[0]? with
  | some x,some t=>match P.underlying t,ev tm x with
   | some .string,.string s=>some (goInt s.size)
   | some (.slice _),.slice _ n _=>some (goInt n)
   | _,_=>none
  | _,_=>none
 | .call { callee:=.builtin .min,args,argTypes }=>pvF P (Builtin.min_ argTypes o.type (args.map (ev tm))) (qB (args.map (ev tm)).toList)
 | .call { callee:=.builtin .max,args,argTypes }=>pvF P (Builtin.max_ argTypes o.type (args.map (ev tm))) (qB (args.map (ev tm)).toList)
 | _=>none
def takeN (cs:List Z6)(off n:Nat):Z8 (List Z6):=Option.rec (motive:=λ_=>Z8 (List Z6)) none (uE0 n) (cO0 off cs)
def setN (cs:List Z6)(off:Nat)(vs:List Z6):Z8 (List Z6):=setE off vs cs
def one (v:Z6):Zb:=match v with | .agg _=>false | .tuple _=>false|_=>true
def mkRow (h:jA)(e:Zt)(cs:List Z6)(more:Zb):Z8 (Nat×jA):=
 match gD h.next cs with
 | true=>some (h.new ⟨.cells ⟨cs⟩ e,more⟩)
 | false=>none
def seen (lo b:Nat)(v:Z6):Z8 Z6:=Bool.rec (motive:=λ_=>Z8 Z6) (Bool.rec (motive:=λ_=>Z8 Z6) none (some v) (fsc lo v)) (some v) (Nat.ble lo b)
def qL (P:Z9)(t:Zt)(a:Z6)(h:jA):Z8 Z6:=
 match a with
 | .pointer (some ⟨b,off,none⟩)=>match cells h b with
  | some (cs,_,_)=>match eP0 P t with
   | some true=>match szT P t with
    | some n=>match takeN cs off n with
     | some l=>seen h.lo b (.agg ⟨l⟩)
     | none=>none
    | none=>none
   | some false=>match cs[off]? with
    | some v=>seen h.lo b v
    | none=>none
   | none=>none
  | none=>none
 | _=>none
def lF0 (P:Z9)(t:Zt)(a:Z6)(v:Z6)(h:jA):Z8 jA:=
 match a with
 | .pointer (some ⟨b,off,none⟩)=>match cells h b,szT P t with
  | some (cs,e,m),some n=>match Nat.beq v.cells.size n&&gD h.next v.cells.toList&&Nat.ble h.lo b with
   | true=>match setN cs off v.cells.toList with
    | some c=>some (h.put b ⟨.cells ⟨c⟩ e,m⟩)
    | none=>none
   | false=>none
  | _,_=>none
 | _=>none
def uZ (size n:Nat)(x:Z6)(h:jA):Z8 (List Z6):=
 match x with
 | .slice a _ _=>match n with
  | 0=>some []
  | n+1=>match a with
   | some ⟨b,off,none⟩=>match cells h b with
    | some (cs,_,_)=>match takeN cs off ((n+1)*size) with
     | some l=>Bool.rec (motive:=λ_=>Z8 (List Z6)) (Bool.rec (motive:=λ_=>Z8 (List Z6)) none (some l) (gD h.lo l)) (some l) (Nat.ble h.lo b)
     | none=>none
    | none=>none
   | _=>none
 | .string s=>match Nat.beq n s.size&&Nat.beq size 1 with
  | true=>some (s.data.toList.map λb=>.int .u8 b.toNat)
  | false=>none
 | _=>none
def lenV:Z6→Z8 Nat
 | .slice _ n _=>some n
 | .string s=>some s.size
 | _=>none
def bI (P:Z9)(a c:Zt)(s x:Z6)(h:jA):Z8 (Z6×jA):=
 match P.underlying a,s,lenV x with
 | some (.slice e),.slice base n cap,some m=>
  match (match P.underlying c with|some (.int _)=>none|none=>none|some _=>P.info? e) with
  | none=>none
  | some i=>
   let size:=i.size
   match uZ size m x h with
   | none=>none
   | some new=>
    match Nat.blt cap UC with
    | true=>match Nat.ble (n+m) cap with
     | true=>match base with
      | none=>match new with | []=>some (.slice none (n+m) cap,h) | _=>none
      | some ⟨b,off,sp⟩=>match m with
       | 0=>some (.slice base (n+0) cap,h)
       | m+1=>match sp with
       | none=>match cells h b with
        | some (cs,e',mo)=>match Nat.ble h.lo b,setN cs (off+n*size) new with
         | true,some cs'=>some (.slice base (n+(m+1)) cap,h.put b ⟨.cells ⟨cs'⟩ e',mo⟩)
         | _,_=>none
        | none=>none
       | some _=>none
     | false=>match uZ size n s h,(Nat.ble ((n+m)*i.bytes) 140737488355328&&Nat.blt (n+m) U),i.zero with
      | some old,true,some z=>match Nat.beq z.cells.size size&&Nat.blt 0 size with
       | true=>match mkRow h e (old++new) true with
        | some (b,h')=>some (.slice (some ⟨b,0,none⟩) (n+m) UC,h')
        | none=>none
       | false=>none
      | _,_,_=>none
    | false=>match base with
     | some ⟨b,0,none⟩=>match cells h b with
      | some (cs,e',true)=>match Nat.beq e' e&&Nat.beq cap UC&&Nat.ble h.lo b&&Nat.beq cs.length (n*size)&&(Nat.ble ((n+m)*i.bytes) 140737488355328&&Nat.blt (n+m) U),i.zero with
       | true,some z=>match Nat.beq z.cells.size size&&Nat.blt 0 size&&gD h.next new with
        | true=>some (.slice (some ⟨h.next,0,none⟩) (n+m) UC,{ t:=(h.t.put h.next ⟨.cells ⟨cs++new⟩ e,true⟩).put b (qO h.next e cs),next:=h.next+1,lo:=h.lo })
        | false=>none
       | _,_=>none
      | _=>none
     | _=>none
 | _,_,_=>none
def oB0 (P:Z9)(t:Zt)(l c:Z6)(h:jA):Z8 (Z6×jA):=
 match P.underlying t,l,c with
 | some (.slice e),.int _ (.ofNat l),.int _ (.ofNat c)=>
  match P.info? e with
  | some i=>match Nat.ble l c&&Nat.blt (c*i.bytes+c) U,i.zero with
   | true,some z=>match Nat.beq z.cells.size i.size&&Nat.blt 0 i.size&&qB z.cells.toList with
    | true=>match mkRow h e (List.replicate c z.cells.toList).flatten false with
     | some (b,h')=>some (.slice (some ⟨b,0,none⟩) l c,h')
     | none=>none
    | false=>none
   | _,_=>none
  | none=>none
 | _,_,_=>none
def zeroOf (P:Z9)(t:Zt):Z8 Z6:=match P.info? t with|some i=>i.zero|none=>none
def kT (P:Z9)(t:Zt)(a:Z8 Addr)(len cap:Nat)(lo hi mx:Z8 Z6)(h:jA):Z8 Z6:=
 match P.underlying t,a with
 | some (.slice e),some ⟨b,off,none⟩=>match szT P e,cells h b with
  | some size,some (cs,e',true)=>match Nat.beq e' e&&Nat.ble UC cap&&Nat.beq off ((cap-UC)*size)&&Nat.blt 0 size&&Nat.ble (off+len*size) cs.length&&Nat.blt len U with
   | true=>match bounds len len mx hi lo with
    | some (l,h,m)=>match m with
     | some m=>match Nat.beq m l with
      | true=>some (.slice (some ⟨b,off,none⟩) (h-l) (m-l))
      | false=>some (.slice (some ((⟨b,off,none⟩:Addr).add (l*size))) (h-l) (m-l))
     | none=>match Nat.blt l len with
      | true=>some (.slice (some ((⟨b,off,none⟩:Addr).add (l*size))) (h-l) (cap+l))
      | false=>none
    | none=>none
   | false=>none
  | _,_=>none
 | _,_=>none
def bytesOf:List Z6→Z8 (List Zu)
 | []=>some []
 | .int .u8 n :: vs=>match bytesOf vs with | some l=>some (UInt8.ofNat n.toNat :: l) | none=>none
 | _ :: _=>none
def kI0 (P:Z9)(o:Oper)(tm:VT)(h:jA):Z8 Z6:=
 match o.op with
 | .load t a=>qL P t (ev tm a) h
 | .slice t x lo hi mx=>match ev tm x with
  | .slice a n c=>kT P t a n c (lo.map (ev tm)) (hi.map (ev tm)) (mx.map (ev tm)) h
  | _=>none
 | .convert s d x=>match P.underlying s,P.underlying d,ev tm x with
  | some (.slice e),some .string,.slice none _ _=>match P.underlying e with
   | some (.int .u8)=>some (.string .empty)
   | _=>none
  | some (.slice e),some .string,.slice (some _) 0 _=>match P.underlying e with
   | some (.int .u8)=>some (.string .empty)
   | _=>none
  | some (.slice e),some .string,.slice (some ⟨g,off,none⟩) n _=>match P.underlying e,cells h g with
   | some (.int .u8),some (cs,_,_)=>match takeN cs off n with
    | some l=>match bytesOf l with
     | some l=>some (.string ⟨⟨l⟩⟩)
     | none=>none
    | none=>none
   | _,_=>none
  | _,_,_=>none
 | _=>none
def iG0 (P:Z9)(s d e:Zt)(g:Nat)(v:Z6)(h:jA):Z8 (Z6×jA):=
 match P.underlying e,Nat.beq s d,Nat.ble h.lo g,h.get g with
 | some (.int .u8),true,true,some ⟨.cells _ _ _,_⟩=>some (v,h)
 | _,_,_,_=>none
def wY0 (P:Z9)(o:Oper)(tm:VT)(h:jA):Z8 (Z6×jA):=
 match o.op with
 | .alloc e=>match zeroOf P e with
  | some z=>match flat z with
   | true=>match mkRow h e z.cells.toList false with
    | some (b,f)=>some (.pointer (some ⟨b,0,none⟩),f)
    | none=>none
   | false=>none
  | none=>none
 | .box e x=>match mkRow h e (ev tm x).cells.toList false with
  | some (b,f)=>some (.pointer (some ⟨b,0,none⟩),f)
  | none=>none
 | .buildSlice t len k=>match P.underlying t with
  | some (.slice e)=>match P.info? e with
   | some i=>match Nat.ble (len*i.size) 16777216,i.zero with
    | true,some z=>match Nat.beq z.cells.size i.size&&Nat.blt 0 i.size&&qB z.cells.toList with
     | true=>match cK0 (λj=>some (j*i.size,i.size)) (List.replicate len z.cells.toList).flatten (k.toList.map λ(j,x)=>(j,ev tm x)) with
      | some cs=>match mkRow h e cs false with
       | some (b,f)=>some (.slice (some ⟨b,0,none⟩) len len,f)
       | none=>none
      | none=>none
     | false=>none
    | _,_=>none
   | none=>none
  | _=>none
 | .store t a x=>match lF0 P t (ev tm a) (ev tm x) h with | some f=>some (undef,f) | none=>none
 | .makeSlice t l c=>oB0 P t (ev tm l) (ev tm c) h
 | .call { callee:=.builtin .append,args,argTypes }=>
  match argTypes.toList,args.toList with
  | [sT,xT],[s,x]=>bI P sT xT (ev tm s) (ev tm x) h
  | _,_=>none
 | .range t x=>match P.underlying t,ev tm x with
  | some .string,.string s=>some (.pointer (some ⟨h.next,0,none⟩),(h.new ⟨.stringIter s 0,false⟩).2)
  | _,_=>none
 | .next m true=>match ev tm m with
  | .pointer (some ⟨b,0,none⟩)=>match h.get b,Nat.ble h.lo b with
   | some ⟨.stringIter s pos,false⟩,true=>match Nat.blt pos s.size with
    | true=>some (.tuple #[.bool true,goInt pos,.int .i32 (Utf8.decode s pos).1],h.put b ⟨.stringIter s (pos+(Utf8.decode s pos).2),false⟩)
    | false=>some (.tuple #[.bool false],h)
   | _,_=>none
  | _=>none
 | .convert s d x=>match P.underlying s,P.underlying d,ev tm x with
  | some .string,some (.slice e),.string b=>match P.underlying e,szT P e with
   | some (.int .u8),some 1=>match Nat.blt b.size U with
    | true=>match mkRow h e (b.data.toList.map λx=>.int .u8 x.toNat) true with
     | some (g,f)=>some (.slice (some ⟨g,0,none⟩) b.size UC,f)
     | none=>none
    | false=>none
   | _,_=>none
  | some (.slice _),some (.slice e),.slice (some ⟨g,off,spot⟩) n c=>iG0 P s d e g (.slice (some ⟨g,off,spot⟩) n c) h
  | _,_,_=>none
 | _=>none
def jS3 (P:Z9)(tm:VT)(h:jA)(t:Zt)(a:Zo):Z8 Z6:=
 qL P t (ev tm a) h
def jR3 (P:Z9)(tm:VT)(h:jA)(t:Zt)(x:Zo)(lo:Z8 Zo)(hi:Z8 Zo)(mx:Z8 Zo):Z8 Z6:=
 match ev tm x with
  | .slice a n c=>kT P t a n c (lo.map (ev tm)) (hi.map (ev tm)) (mx.map (ev tm)) h
  | _=>none
def jQ3 (P:Z9)(tm:VT)(h:jA)(s:Zt)(d:Zt)(x:Zo):Z8 Z6:=
 match P.underlying s,P.underlying d,ev tm x with
  | some (.slice e),some .string,.slice none _ _=>match P.underlying e with
   | some (.int .u8)=>some (.string .empty)
   | _=>none
  | some (.slice e),some .string,.slice (some _) 0 _=>match P.underlying e with
   | some (.int .u8)=>some (.string .empty)
   | _=>none
  | some (.slice e),some .string,.slice (some ⟨g,off,none⟩) n _=>match P.underlying e,cells h g with
   | some (.int .u8),some (cs,_,_)=>match takeN cs off n with
    | some l=>match bytesOf l with
     | some l=>some (.string ⟨⟨l⟩⟩)
     | none=>none
    | none=>none
   | _,_=>none
  | _,_,_=>none
def fRead (P:Z9)(o:Oper)(tm:VT)(h:jA):Z8 Z6:=
 match o.op with
 | .load t a=>jS3 P tm h t a
 | .slice t x lo hi mx=>jR3 P tm h t x lo hi mx
 | .convert s d x=>jQ3 P tm h s d x
 | _=>none
inductive jK where
 | normal
 | exit (id:Nat)
 | goto (l:Nat)
 | ret
def qZ (P:Z9)(fn:Func)(tm:VT)(h:jA):Z8 Z6:=
 let rec go:List ResultVar→Z8 (List Z6)
  | []=>some []
  | .tmp t :: rs=>match go rs with | some l=>some (tm.get t :: l) | none=>none
  | .cell a t :: rs=>match qL P t (tm.get a) h,go rs with | some v,some l=>some (v :: l) | _,_=>none
 match go fn.results.toList with
 | some [v]=>some v
 | some l=>some (.tuple ⟨l⟩)
 | none=>none
abbrev Rec:=Z8 Nat→Code→S→Z8 (jK×S)
abbrev Ext:=FuncId→List Z6→jA→Z8 (Z6×jA)
def put (tm:VT)(d:Z8 Tmp)(v:Z6):VT:=match d with|some t=>tm.set t v|none=>tm
def gQ:List Nat→jA→Z8 jA
 | [],h=>some h
 | d :: ds,h=>match h.get d with
  | some ⟨.deferred (some []),_⟩=>match Nat.ble h.lo d with
   | true=>gQ ds (h.put d ⟨.deferred none,false⟩)
   | false=>none
  | _=>none
def iE3 (P:Z9)(fn:Func)(s:S):Z8 (Z6×jA):=
 match gQ s.df s.h with
 | some h=>match qZ P fn s.tm h with
  | some v=>some (v,h)
  | none=>none
 | none=>none
def iG3 (P:Z9)(rec:Rec)(f:FuncId)(args:List Z6)(h:jA):Z8 (Z6×jA):=
 match P.funcs[f]? with
 | some fn=>match fn.body with
  | some c=>match Nat.blt (VT.of args fn.ntmps).sz U with
   | true=>match rec none c { tm:=VT.of args fn.ntmps,df:=[],h:=h } with
    | some (.normal,s)=>iE3 P fn s
    | some (.ret,s)=>iE3 P fn s
    | _=>none
   | false=>none
  | none=>none
 | none=>none
def iF3 (P:Z9)(X:Ext)(rec:Rec)(f:FuncId)(args:List Z6)(h:jA):Z8 (Z6×jA):=
 match X f args h with
 | some r=>some r
 | none=>iG3 P rec f args h
def qS (h:jA)(l:Nat):Z8 Loop:=
 match h.get l with
 | some ⟨.loop r,_⟩=>match Nat.ble h.lo l with
  | true=>some r
  | false=>none
 | _=>none
def jN (h:jA)(l:Nat)(r:Loop):jA:=h.put l ⟨.loop r,false⟩
def yJ0 (ro:Z8 Nat)(tm:VT)(c:Array Tmp)(a b:Code)(h:jA):Z8 (Nat×List Nat×jA):=
 match ro with
 | some l=>match qS h l with
  | some r=>some (h.next,[],(h.new ⟨.loop { state:=.ready,pending:=none,fn:=0,tmps:=tm.arr,params:=c,assign:=a,body:=b,defers:=r.defers },false⟩).2)
  | none=>none
 | none=>some (h.next+1,[h.next],((h.new ⟨.deferred (some []),false⟩).2.new ⟨.loop { state:=.ready,pending:=none,fn:=0,tmps:=tm.arr,params:=c,assign:=a,body:=b,defers:=h.next },false⟩).2)
def jK.jump:jK→Z8 Code
 | .normal=>none
 | .exit id=>some (.exit id)
 | .goto l=>some (.goto l)
 | .ret=>some .ret
def gI:VT→List (Nat×Z6)→VT
 | T,[]=>T
 | T,(t,v) :: l=>gI (T.set t v) l
def jZ3 (rec:Rec)(l:Nat)(args:List Z6)(h:jA):Z8 (Z6×jA):=
 match qS h l with
 | some r=>match Nat.beq args.length r.params.toList.length&&Nat.blt (VT.of r.tmps.toList 0).sz U with
  | true=>match rec (some l) r.assign { tm:=gI (VT.of r.tmps.toList 0) (r.params.toList.zip args),df:=[],h:=h } with
   | some (.normal,s1)=>match qS s1.h l with
    | some a=>match a.state with
     | .ready=>match rec (some l) r.body { tm:=s1.tm,df:=s1.df,h:=jN s1.h l { a with state:=.busy } } with
      | some (e,s2)=>match qS s2.h l with
       | some c=>some (.bool e.jump.isNone,jN s2.h l { c with state:=if e.jump.isNone then .ready else .done,pending:=e.jump })
       | none=>none
      | none=>none
     | _=>none
    | none=>none
   | _=>none
  | false=>none
 | none=>none
def uS0 (l:Nat)(s:S):Z8 (jK×S):=
 match qS s.h l with
 | some r=>match r.state with
  | .busy=>none
  | _=>
   let s':S:={ s with h:=jN s.h l { r with state:=.exhausted } }
   match r.pending with
   | none=>some (.normal,s')
   | some (.exit id)=>some (.exit id,s')
   | some (.goto t)=>some (.goto t,s')
   | some .ret=>some (.ret,s')
   | _=>none
 | none=>none
inductive Rz where
 | no
 | pure (v:Z6)
 | read (v:Z6)
 | eff (v:Z6) (h:jA)
abbrev G:=VT→jA→Rz
def callV (P:Z9)(X:Ext)(rec:Rec)(f:Z6)(args:List Z6)(h:jA):Z8 (Z6×jA):=
 match f with
 | .func (.func g) ⟨[]⟩ ⟨captured⟩=>iF3 P X rec g (args++captured) h
 | .func (.yield l) ⟨[]⟩ _=>jZ3 rec l args h
 | _=>none
def yl (h:List Oper)(tm:VT)(j:Nat):Z8 Zb:=
 match h[j]? with
 | some o=>match o.dst with
  | some d=>match tm.get d with
   | .bool b=>some b
   | _=>none
  | none=>none
 | none=>none
def wanted (h:List Oper)(tm:VT)(o:Oper):Z8 Zb:=
 match o.guard with
 | none=>some true
 | some (j,w)=>some (match yl h tm j with | some b=>(match b,w with | true,true=>true | false,false=>true | _,_=>false) | none=>false)
mutual
def beqV:Z6→Z6→Zb
 | .bool a,.bool b=>match a,b with | true,true=>true | false,false=>true | _,_=>false
 | .int k a,.int j b=>decide (k=j)&&decide (a=b)
 | .string a,.string b=>beqB a.data.toList b.data.toList
 | .float k a,.float j b=>decide (k=j)&&Nat.beq a b
 | .pointer a,.pointer b=>decide (a=b)
 | .slice a n c,.slice b m d=>decide (a=b)&&Nat.beq n m&&Nat.beq c d
 | .map a,.map b=>decide (a=b)
 | .func f ⟨xs⟩ ⟨ys⟩,.func g ⟨h⟩ ⟨us⟩=>decide (f=g)&&beqL xs h&&beqL ys us
 | .nilFunc,.nilFunc=>true
 | .nilIface,.nilIface=>true
 | .iface t v,.iface u w=>Nat.beq t u&&beqV v w
 | .agg ⟨xs⟩,.agg ⟨ys⟩=>beqL xs ys
 | .tuple ⟨xs⟩,.tuple ⟨ys⟩=>beqL xs ys
 | _,_=>false
def beqL:List Z6→List Z6→Zb
 | [],[]=>true
 | x :: xs,y :: ys=>beqV x y&&beqL xs ys
 | _,_=>false
end
def tU2 (P:Z9)(o:Oper):Zb:=
 match o.op with
 | .alloc ..=>true
 | .box ..=>true
 | .buildSlice ..=>true
 | .store ..=>true
 | .makeSlice ..=>true
 | .range ..=>true
 | .next ..=>true
 | .call { callee:=.builtin .append,.. }=>true
 | .call { callee:=.value _,.. }=>true
 | .convert s d _=>match P.underlying s,P.underlying d with | some .string,some (.slice _)=>true | some (.slice _),some (.slice _)=>true | _,_=>false
 | _=>false
def firstFree (P:Z9)(a:Array Oper)(h:Array Zb):List Nat→Z8 (Nat×Oper)
 | []=>none
 | i :: is=>match a[i]? with
  | some o=>match tU2 P o with
   | true=>firstFree P a h is
   | false=>match Region.free .any a h i with
    | true=>some (i,o)
    | false=>firstFree P a h is
  | none=>firstFree P a h is
abbrev Held:=List (Nat×Oper×VT×Z6)
def kept (P:Z9)(o:Oper)(h:jA):Held→Zb
 | []=>true
 | (i,o',tm,v) :: L=>match o.after.toList.any λe=>Region.binds .any e&&Nat.beq e.on i with
  | true=>kept P o h L
  | false=>match fRead P o' tm h with
   | some a=>match beqV v a with | true=>kept P o h L | false=>false
   | none=>false
end
end Go.Ev
namespace Go.Ev
open Go Go.RowKit
structure Gam where
 b:Nat→Nat
 k:Nat→Nat
 s:Nat→Int        -- the numbers that stand behind a sign: a float is none of the program's
 t:Nat→ByteArray  -- the texts
def kX (h:Gam)(id c:Nat):Nat:=if c<UC then c else h.k id-(c-UC)
def bJ (h:Gam)(a:Addr):Addr:={ a with block:=h.b a.block }
def yN0 (h:Gam):Fn→Fn
 | .yield l=>.yield (h.b l)
 | f=>f
mutual
def con (h:Gam):Z6→Z6
 | .pointer (some a)=>.pointer (some (bJ h a))
 | .slice (some a) n c=>.slice (some (bJ h a)) n (kX h a.block c)
 | .map (some r)=>.map (some (h.b r))
 | .float .f64 i=>.int .i64 (h.s i)
 | .float .f32 i=>.string (h.t i)
 | .func fn ⟨f⟩ ⟨c⟩=>.func (yN0 h fn) ⟨conL h f⟩ ⟨conL h c⟩
 | .iface t v=>.iface t (con h v)
 | .agg ⟨cs⟩=>.agg ⟨conL h cs⟩
 | .tuple ⟨vs⟩=>.tuple ⟨conL h vs⟩
 | v=>v
def conL (h:Gam):List Z6→List Z6
 | []=>[]
 | v :: vs=>con h v :: conL h vs
end
theorem dQ (h:Gam):∀ l,conL h l=l.map (con h)
 | []=>rfl
 | v :: vs=>by simp[conL,dQ h vs]
theorem uU0 (h:Gam)(cs:Array Z6):con h (.agg cs)=.agg (cs.map (con h)):=by
 obtain ⟨l⟩:=cs;simp[con,dQ]
theorem qB0 (h:Gam)(cs:Array Z6):con h (.tuple cs)=.tuple (cs.map (con h)):=by
 obtain ⟨l⟩:=cs;simp[con,dQ]
theorem dP (h:Gam)(fn:Fn)(f c:Array Z6):con h (.func fn f c)=.func (yN0 h fn) (f.map (con h)) (c.map (con h)):=by
 obtain ⟨l⟩:=f;obtain ⟨m⟩:=c;simp[con,dQ]
mutual
theorem kQ (a:Gam):∀ v,flat v=true→con a v=v
 | .bool _,_=>rfl
 | .int _ _,_=>rfl
 | .float _ _,h=>by simp[flat] at h
 | .complex _ _ _,_=>rfl
 | .string _,_=>rfl
 | .pointer none,_=>rfl
 | .pointer (some _),h=>by simp[flat] at h
 | .slice none _ _,_=>rfl
 | .slice (some _) _ _,h=>by simp[flat] at h
 | .map none,_=>rfl
 | .map (some _),h=>by simp[flat] at h
 | .chan _,h=>by simp[flat] at h
 | .func (.func g) ⟨f⟩ ⟨c⟩,h=>by
  simp only[flat,Z5] at h
  simp only[con,yN0,dG a f h.1,dG a c h.2]
 | .func (.method _) _ _,h=>by simp[flat] at h
 | .func (.methodOf _ _) _ _,h=>by simp[flat] at h
 | .func (.via _ _ _ _) _ _,h=>by simp[flat] at h
 | .func (.yield _) _ _,h=>by simp[flat] at h
 | .nilFunc,_=>rfl
 | .iface t v,h=>by
  simp only[flat] at h
  simp only[con,kQ a v h]
 | .nilIface,_=>rfl
 | .agg ⟨cs⟩,h=>by
  simp only[flat] at h
  simp only[con,dG a cs h]
 | .tuple ⟨cs⟩,h=>by
  simp only[flat] at h
  simp only[con,dG a cs h]
theorem dG (a:Gam):∀ l,qB l=true→conL a l=l
 | [],_=>rfl
 | v :: vs,h=>by
  simp only[qB,Z5] at h
  simp only[conL,kQ a v h.1,dG a vs h.2]
end
structure Ag (Γ Γ':Gam)(n:Nat):Prop where
 b:∀ i,i<n→Γ'.b i=Γ.b i
 k:∀ i,i<n→Γ'.k i=Γ.k i
 s:Γ'.s=Γ.s
 t:Γ'.t=Γ.t
theorem Ag.refl (h:Gam)(n:Nat):Ag h h n:=⟨λ_ _=>rfl,λ_ _=>rfl,rfl,rfl⟩
theorem Ag.trans {e c a:Gam}{n m:Nat}(h:Ag e c n)(d:Ag c a m)(f:n≤m):Ag e a n:=
 ⟨λi hi=>(d.b i Z0).trans (h.b i hi),λi hi=>(d.k i Z0).trans (h.k i hi),d.s.trans h.s,d.t.trans h.t⟩
theorem qD2 {e c:Gam}{n:Nat}(h:Ag e c n){a:Addr}(d:scA n a=true):bJ c a=bJ e a:=by
 simp[scA] at d
 simp[bJ,h.b a.block d]
mutual
theorem qC0 {i e:Gam}{n:Nat}(d:Ag i e n):∀ v,sc n v=true→con e v=con i v
 | .bool _,_=>rfl
 | .int _ _,_=>rfl
 | .float .f64 _,_=>by simp only[con,d.s]
 | .float .f32 _,_=>by simp only[con,d.t]
 | .complex _ _ _,_=>rfl
 | .string _,_=>rfl
 | .pointer none,_=>rfl
 | .pointer (some _),h=>by simp only[sc] at h;simp only[con,qD2 d h]
 | .slice none _ _,_=>rfl
 | .slice (some a) _ _,h=>by
  simp only[sc] at h
  have j:a.block<n:=by simp[scA] at h;exact h
  simp only[con,qD2 d h,kX,d.k _ j]
 | .map none,_=>rfl
 | .map (some _),h=>by simp[sc] at h;simp only[con,d.b _ h]
 | .chan _,h=>by simp[sc] at h
 | .func (.func g) ⟨f⟩ ⟨c⟩,h=>by
  simp only[sc,Z5] at h
  simp only[con,yN0,zB0 d f h.1,zB0 d c h.2]
 | .func (.method _) _ _,h=>by simp[sc] at h
 | .func (.methodOf _ _) _ _,h=>by simp[sc] at h
 | .func (.via _ _ _ _) _ _,h=>by simp[sc] at h
 | .func (.yield l) ⟨f⟩ ⟨c⟩,h=>by
  simp only[sc,Z5,Nat.blt_eq] at h
  simp only[con,yN0,zB0 d f h.1.2,zB0 d c h.2,d.b _ h.1.1]
 | .nilFunc,_=>rfl
 | .iface t v,h=>by
  simp only[sc] at h
  simp only[con,qC0 d v h]
 | .nilIface,_=>rfl
 | .agg ⟨cs⟩,h=>by
  simp only[sc] at h
  simp only[con,zB0 d cs h]
 | .tuple ⟨cs⟩,h=>by
  simp only[sc] at h
  simp only[con,zB0 d cs h]
theorem zB0 {b a:Gam}{n:Nat}(c:Ag b a n):∀ l,scL n l=true→conL a l=conL b l
 | [],_=>rfl
 | v :: vs,h=>by
  simp only[scL,Z5] at h
  simp only[conL,qC0 c v h.1,zB0 c vs h.2]
end
mutual
theorem kN {n m:Nat}(b:n≤m):∀ v,sc n v=true→sc m v=true
 | .bool _,_=>rfl
 | .int _ _,_=>rfl
 | .float _ _,_=>rfl
 | .complex _ _ _,_=>rfl
 | .string _,_=>rfl
 | .pointer none,_=>rfl
 | .pointer (some _),h=>by simp[sc,scA] at h ⊢;omega
 | .slice none _ _,_=>rfl
 | .slice (some a) _ _,h=>by simp[sc,scA] at h ⊢;omega
 | .map none,_=>rfl
 | .map (some _),h=>by simp[sc] at h ⊢;omega
 | .chan _,h=>by simp[sc] at h
 | .func (.func g) ⟨f⟩ ⟨c⟩,h=>by
  simp only[sc,Z5] at h ⊢
  exact ⟨qI0 b f h.1,qI0 b c h.2⟩
 | .func (.method _) _ _,h=>by simp[sc] at h
 | .func (.methodOf _ _) _ _,h=>by simp[sc] at h
 | .func (.via _ _ _ _) _ _,h=>by simp[sc] at h
 | .func (.yield l) ⟨f⟩ ⟨c⟩,h=>by
  simp only[sc,Z5,Nat.blt_eq] at h ⊢
  exact ⟨⟨Z0,qI0 b f h.1.2⟩,qI0 b c h.2⟩
 | .nilFunc,_=>rfl
 | .iface t v,h=>by
  simp only[sc] at h ⊢
  exact kN b v h
 | .nilIface,_=>rfl
 | .agg ⟨cs⟩,h=>by
  simp only[sc] at h ⊢
  exact qI0 b cs h
 | .tuple ⟨cs⟩,h=>by
  simp only[sc] at h ⊢
  exact qI0 b cs h
theorem qI0 {n m:Nat}(a:n≤m):∀ l,scL n l=true→scL m l=true
 | [],_=>rfl
 | v :: vs,h=>by
  simp only[scL,Z5] at h ⊢
  exact ⟨kN a v h.1,qI0 a vs h.2⟩
end
mutual
theorem bO (n:Nat):∀ v,flat v=true→sc n v=true
 | .bool _,_=>rfl
 | .int _ _,_=>rfl
 | .float _ _,h=>by simp[flat] at h
 | .complex _ _ _,_=>rfl
 | .string _,_=>rfl
 | .pointer none,_=>rfl
 | .pointer (some _),h=>by simp[flat] at h
 | .slice none _ _,_=>rfl
 | .slice (some _) _ _,h=>by simp[flat] at h
 | .map none,_=>rfl
 | .map (some _),h=>by simp[flat] at h
 | .chan _,h=>by simp[flat] at h
 | .func (.func g) ⟨f⟩ ⟨c⟩,h=>by
  simp only[flat,Z5] at h
  simp only[sc,wJ0 n f h.1,wJ0 n c h.2,Bool.and_self]
 | .func (.method _) _ _,h=>by simp[flat] at h
 | .func (.methodOf _ _) _ _,h=>by simp[flat] at h
 | .func (.via _ _ _ _) _ _,h=>by simp[flat] at h
 | .func (.yield _) _ _,h=>by simp[flat] at h
 | .nilFunc,_=>rfl
 | .iface t v,h=>by
  simp only[flat] at h
  simp only[sc,bO n v h]
 | .nilIface,_=>rfl
 | .agg ⟨cs⟩,h=>by
  simp only[flat] at h
  simp only[sc,wJ0 n cs h]
 | .tuple ⟨cs⟩,h=>by
  simp only[flat] at h
  simp only[sc,wJ0 n cs h]
theorem wJ0 (n:Nat):∀ l,qB l=true→scL n l=true
 | [],_=>rfl
 | v :: vs,h=>by
  simp only[qB,Z5] at h
  simp only[scL,bO n v h.1,wJ0 n vs h.2,Bool.and_self]
end
theorem qJ {n:Nat}:∀ {l:List Z6},scL n l=true→∀ v∈l,sc n v=true
 | [],_,v,a=>by cases a
 | x :: xs,h,v,a=>by
  simp only[scL,Z5] at h
  cases a with
  | head=>exact h.1
  | tail _ a=>exact qJ h.2 v a
theorem qK {n:Nat}:∀ {l:List Z6},(∀ v∈l,sc n v=true)→scL n l=true
 | [],_=>rfl
 | x :: xs,h=>by
  simp only[scL,Z5]
  exact ⟨h x (List.mem_cons_self ..),qK λv a=>h v (List.mem_cons_of_mem _ a)⟩
theorem kL0 (h:Gam)(v:Z6):(con h v).cells=v.cells.map (con h):=by
 cases v with
 | agg cs=>rw[uU0];simp[Value.cells]
 | tuple cs=>rw[qB0];simp[Value.cells,qB0]
 | func fn f c=>rw[dP];simp[Value.cells,dP]
 | pointer a=>cases a<;>simp[con,Value.cells]
 | slice a _ _=>cases a<;>simp[con,Value.cells]
 | map a=>cases a<;>simp[con,Value.cells]
 | float k i=>cases k<;>simp[con,Value.cells]
 | _=>simp[con,Value.cells]
theorem sD0 (h:Gam)(v:Z6):one (con h v)=one v:=by
 cases v with
 | agg cs=>rw[uU0];rfl
 | tuple cs=>rw[qB0];rfl
 | func fn f c=>rw[dP];rfl
 | pointer a=>cases a<;>rfl
 | slice a _ _=>cases a<;>rfl
 | map a=>cases a<;>rfl
 | float k i=>cases k<;>rfl
 | _=>rfl
theorem gD3 {d:Type}(P:Z9):∀ (s:Sem d) (a:d),pv P s=some a→∀ w,s.run P w=.ok a w:=by
 intro s
 induction s with
 | pure a=>intro b h w;simp only[pv,Option.some.injEq] at h;subst h;rfl
 | program k c=>intro b h w;simp only[pv] at h;exact c P b h w
 | mark m k c=>intro b h w;simp only[pv] at h;exact c b h w
 | load=>intro b h;simp[pv] at h
 | store=>intro b h;simp[pv] at h
 | new=>intro b h;simp[pv] at h
 | shape=>intro b h;simp[pv] at h
 | freeze=>intro b h;simp[pv] at h
 | frozen=>intro b h;simp[pv] at h
 | getObj=>intro b h;simp[pv] at h
 | setObj=>intro b h;simp[pv] at h
 | choose=>intro b h;simp[pv] at h
 | sys=>intro b h;simp[pv] at h
 | halt=>intro b h;simp[pv] at h
end Go.Ev
namespace Go.Ev
open Go Go.RowKit
theorem zE1 {c:Type}(a b:c)(j:Nat):(Bool.rec (motive:=λ_=>c) a b (Nat.beq (Nat.mod j 2) 0):c)=if j % 2=0 then b else a:=by
 have e:Nat.mod j 2=j % 2:=rfl
 rw[e]
 cases h:Nat.beq (j % 2) 0 with
 | true=>simp only[Nat.beq_eq] at h;simp[h]
 | false=>
  have:¬ j % 2=0:=λe=>by rw[e] at h;simp at h
  simp[this]
theorem VTr.get_nil (j:Nat):VTr.nil.get j=undef:=rfl
theorem VTr.get_node (l r:VTr)(v:Z6)(j:Nat):(VTr.node l v r).get j=if j=0 then v else if (j-1) % 2=0 then l.get ((j-1) / 2) else r.get ((j-1) / 2):=by
 cases j with
 | zero=>rfl
 | succ j=>
  have:(VTr.node l v r).get (j+1)=Bool.rec (motive:=λ_=>Z6) (r.get (Nat.div j 2)) (l.get (Nat.div j 2)) (Nat.beq (Nat.mod j 2) 0):=rfl
  rw[this,zE1]
  simp only[Nat.add_eq_zero_iff,Nat.succ_ne_self,and_false,if_false,Nat.add_sub_cancel]
  rfl
theorem VTr.go_succ (j:Nat)(x:Z6)(f:VTr→Nat→VTr)(l r:VTr)(v:Z6):VTr.go (j+1) x f l v r=if j % 2=0 then .node (f l (j / 2)) v r else .node l v (f r (j / 2)):=by
 have:VTr.go (j+1) x f l v r=Bool.rec (motive:=λ_=>VTr) (.node l v (f r (Nat.div j 2))) (.node (f l (Nat.div j 2)) v r) (Nat.beq (Nat.mod j 2) 0):=rfl
 rw[this,zE1]
 rfl
theorem VTr.go_zero (x:Z6)(f:VTr→Nat→VTr)(l r:VTr)(v:Z6):VTr.go 0 x f l v r=.node l x r:=rfl
theorem VTr.get_set:∀ (n:Nat) (t:VTr) (i:Nat) (x:Z6) (j:Nat),i+1<2 ^ n→(VTr.set n t i x).get j=if j=i then x else t.get j:=by
 intro n
 induction n with
 | zero=>intro t i x j h;simp at h
 | succ n g=>
  intro t i x j h
  have a : ∀ (l r : VTr) (v : Z6), (∀ j, t.get j = (VTr.node l v r).get j) →
    (VTr.go i x (λt i=>VTr.set n t i x) l v r).get j=if j=i then x else t.get j:=by
   intro l r v o
   rw[o j]
   cases i with
   | zero=>
    simp only[VTr.go_zero,VTr.get_node]
    by_cases c:j=0<;>simp[c]
   | succ k=>
    have m:k / 2+1<2 ^ n:=by rw[Nat.pow_succ] at h;omega
    rw[VTr.go_succ]
    by_cases f:k % 2=0
    ·simp only[f,if_true,VTr.get_node,g l _ x _ m]
     by_cases c:j=0
     ·subst c;simp
     ·simp only[c,if_false]
      by_cases b:(j-1) % 2=0
      ·simp only[b,if_true]
       by_cases d:j=k+1
       ·subst d;simp
       ·rw[if_neg Z0,if_neg d]
      ·simp only[b,if_false]
       rw[if_neg (by intro e;subst e;simp at b;omega)]
    ·simp only[f,if_false,VTr.get_node,g r _ x _ m]
     by_cases c:j=0
     ·subst c;simp
     ·simp only[c,if_false]
      by_cases b:(j-1) % 2=0
      ·simp only[b,if_true]
       rw[if_neg (by intro e;subst e;simp at b;omega)]
      ·simp only[b,if_false]
       by_cases d:j=k+1
       ·subst d;simp
       ·rw[if_neg Z0,if_neg d]
  cases t with
  | nil=>exact a .nil .nil undef (λj=>by rw[VTr.get_nil,VTr.get_node];simp[VTr.get_nil])
  | node l v r=>exact a l r v (λj=>rfl)
theorem U_lt:U+1<2 ^ 60:=by unfold U;decide
theorem U_le:U≤100000000000000:=by unfold U;decide
theorem dF0:0<UC:=by unfold UC;decide
theorem U_UC:U<UC:=by unfold U UC;decide
theorem bL3 {c:Type}(a b:c)(i n:Nat):(Bool.rec (motive:=λ_=>c) a b (Nat.ble (Nat.succ i) n):c)=if i<n then b else a:=by
 cases h:Nat.ble (Nat.succ i) n with
 | true=>simp only[Nat.ble_eq] at h;rw[if_pos Z0]
 | false=>
  rw[if_neg]
  intro e
  have:Nat.ble (Nat.succ i) n=true:=by simp only[Nat.ble_eq];omega
  rw[this] at h;cases h
theorem VT.get_eq (T:VT)(i:Nat):T.get i=if i<T.sz then T.t.get i else undef:=by
 obtain ⟨h,t⟩:=T
 exact bL3 _ _ _ _
theorem VT.set_eq (T:VT)(i:Nat)(v:Z6):T.set i v=if i<T.sz then ⟨T.sz,T.t.set 60 i v⟩ else T:=by
 obtain ⟨h,t⟩:=T
 exact bL3 _ _ _ _
theorem VT.set_sz (T:VT)(i:Nat)(v:Z6):(T.set i v).sz=T.sz:=by
 rw[VT.set_eq];split<;>rfl
theorem VT.arr_size (T:VT):T.arr.size=T.sz:=by simp[VT.arr]
theorem VT.arr_get? (T:VT)(i:Nat):T.arr[i]?=if i<T.sz then some (T.t.get i) else none:=by
 simp only[VT.arr,List.getElem?_toArray,List.getElem?_map]
 by_cases h:i<T.sz
 ·simp[h]
 ·rw[if_neg h,List.getElem?_eq_none (by simp;omega)];rfl
theorem VT.arr_getD (T:VT)(i:Nat):T.arr.getD i undef=T.get i:=by
 rw[Array.getD_eq_getD_getElem?,VT.arr_get?,VT.get_eq]
 split<;>rfl
theorem VT.arr_set (T:VT)(c:T.sz<U)(i:Nat)(v:Z6):(T.set i v).arr=T.arr.setIfInBounds i v:=by
 rw[VT.set_eq]
 split
 ·rename_i hi
  apply Array.ext_getElem?
  intro j
  rw[VT.arr_get?,Array.getElem?_setIfInBounds,VT.arr_get?,VT.arr_size]
  have a:=VTr.get_set 60 T.t i v j (by have:=U_lt;omega)
  simp only[a]
  by_cases h:i=j
  ·subst h;simp
  ·rw[if_neg h,if_neg (Ne.symm h)]
 ·rename_i hi
  apply Array.ext_getElem?
  intro j
  rw[Array.getElem?_setIfInBounds]
  by_cases h:i=j
  ·subst h;rw[if_pos rfl,VT.arr_size,if_neg hi,VT.arr_get?,if_neg hi]
  ·rw[if_neg h]
theorem VT.fill_get:∀ (l:List Z6) (t:VTr) (i j:Nat),i+l.length<U→(VT.fill t i l).get j=if i≤j∧j<i+l.length then l.getD (j-i) undef else t.get j
 | [],t,i,j,_=>by
  simp only[VT.fill,List.length_nil]
  rw[if_neg Z0]
 | v :: vs,t,i,j,h=>by
  simp only[List.length_cons] at h
  simp only[VT.fill,List.length_cons]
  rw[VT.fill_get vs _ (i+1) j Z0,VTr.get_set 60 t i v j (by have:=U_lt;omega)]
  by_cases a:i+1≤j∧j<i+1+vs.length
  ·rw[if_pos a,if_pos Z0]
   have:j-i=(j-(i+1))+1:=Z0
   rw[this];rfl
  ·rw[if_neg a]
   by_cases c:j=i
   ·subst c;rw[if_pos rfl,if_pos Z0];simp
   ·rw[if_neg c,if_neg Z0]
theorem VT.of_arr (l:List Z6)(n:Nat)(b:(VT.of l n).sz<U):(VT.of l n).arr=⟨l⟩++Array.replicate (n-l.length) undef:=by
 have d:l.length+(n-l.length)<U:=b
 apply Array.ext_getElem?
 intro j
 rw[VT.arr_get?]
 have a:(VT.of l n).sz=l.length+(n-l.length):=rfl
 have e:(VT.of l n).t.get j=if 0≤j∧j<0+l.length then l.getD (j-0) undef else undef:=VT.fill_get l .nil 0 j Z0
 rw[a,e,Array.getElem?_append]
 simp only[List.size_toArray,Nat.zero_le,true_and,Nat.zero_add,Nat.sub_zero]
 by_cases h:j<l.length
 ·rw[if_pos Z0,if_pos h,if_pos h]
  simp[h]
 ·rw[if_neg h,if_neg h]
  by_cases c:j<l.length+(n-l.length)
  ·rw[if_pos c,Array.getElem?_replicate,if_pos Z0]
  ·rw[if_neg c,Array.getElem?_replicate,if_neg Z0]
theorem mP0:∀ (l:List (Nat×Z6)) (T:VT),(gI T l).sz=T.sz
 | [],_=>rfl
 | (t,v) :: l,T=>by rw[gI,mP0 l,VT.set_sz]
theorem kU0:∀ (l:List (Nat×Z6)) (T:VT),T.sz<U→(gI T l).arr=l.foldl (λtmps x=>tmps.setIfInBounds x.1 x.2) T.arr
 | [],_,_=>rfl
 | (t,v) :: l,T,h=>by rw[gI,kU0 l _ (by rw[VT.set_sz];exact h),VT.arr_set T h];rfl
theorem uT (n:Nat)(a:Z8 Addr):fscP n a=sc n (.pointer a):=by
 cases a with
 | none=>rfl
 | some a=>
  obtain ⟨b,o,s⟩:=a
  rfl
theorem sY0 (n:Nat)(a:Z8 Addr)(l c:Nat):fscP n a=sc n (.slice a l c):=by
 rw[uT];cases a<;>simp[sc]
theorem nE2 (a b:Zb):(Bool.rec (motive:=λ_=>Zb) false b a:Zb)=(a&&b):=by cases a<;>rfl
theorem jD3 (n:Nat)(v:Z6):fsc1 n v=sc n v:=by
 cases v<;>first|rfl|exact uT n _|exact sY0 n _ _ _|simp[fsc1,sc]
theorem sZ0 (n:Nat):∀ l,fscL n l=scL n l
 | []=>rfl
 | v :: l=>by
  have:fscL n (v :: l)=Bool.rec (motive:=λ_=>Zb) false (fscL n l) (fsc1 n v):=rfl
  rw[this,nE2,jD3,sZ0 n l]
  simp[scL]
theorem pX1 (n:Nat)(v:Z6):fsc n v=sc n v:=by
 cases v with
 | agg cs=>obtain ⟨l⟩:=cs;exact (sZ0 n l).trans (by simp[sc])
 | tuple cs=>obtain ⟨l⟩:=cs;exact (sZ0 n l).trans (by simp[sc])
 | pointer a=>exact uT n a
 | slice a l c=>exact sY0 n a l c
 | _=>first | rfl | simp[fsc,sc]
theorem jL3 (n:Nat)(v:Z6):fone n v=(one v&&sc n v):=by
 cases v<;>first|rfl|exact uT n _|exact sY0 n _ _ _|simp[fone,one,sc]
theorem gO (n:Nat):∀ l,gD n l=(l.all one&&scL n l)
 | []=>rfl
 | v :: l=>by
  have:gD n (v :: l)=Bool.rec (motive:=λ_=>Zb) false (gD n l) (fone n v):=rfl
  rw[this,nE2,jL3,gO n l]
  simp only[List.all_cons,scL]
  cases one v<;>cases sc n v<;>cases l.all one<;>rfl
theorem fH0:∀ (n:Nat) (l r:List Z6),uE0 n l=some r→n≤l.length∧r=l.take n
 | 0,l,r,h=>by
  have:uE0 0 l=some []:=rfl
  rw[this] at h;cases h;simp
 | n+1,[],r,h=>by
  have:uE0 (n+1) []=none:=rfl
  rw[this] at h;cases h
 | n+1,v :: l,r,h=>by
  have:uE0 (n+1) (v :: l)=Option.rec (motive:=λ_=>Z8 (List Z6)) none (λx=>some (v :: x)) (uE0 n l):=rfl
  rw[this] at h
  cases a:uE0 n l with
  | none=>rw[a] at h;cases h
  | some x=>
   rw[a] at h
   have c:some (v :: x)=some r:=h
   cases c
   obtain ⟨d,b⟩:=fH0 n l x a
   exact ⟨by simp;omega,by rw[b];simp⟩
theorem lJ0:∀ (n:Nat) (l r:List Z6),cO0 n l=some r→n≤l.length∧r=l.drop n
 | 0,l,r,h=>by
  have:cO0 0 l=some l:=rfl
  rw[this] at h;cases h;simp
 | n+1,[],r,h=>by
  have:cO0 (n+1) []=none:=rfl
  rw[this] at h;cases h
 | n+1,v :: l,r,h=>by
  have:cO0 (n+1) (v :: l)=cO0 n l:=rfl
  rw[this] at h
  obtain ⟨c,a⟩:=lJ0 n l r h
  exact ⟨by simp;omega,by rw[a];simp⟩
theorem gH0 {cs:List Z6}{off n:Nat}{r:List Z6}(h:takeN cs off n=some r):off+n≤cs.length∧r=(cs.drop off).take n:=by
 unfold takeN at h
 cases a:cO0 off cs with
 | none=>rw[a] at h;cases h
 | some l=>
  rw[a] at h
  have c:uE0 n l=some r:=h
  obtain ⟨f,e⟩:=lJ0 _ _ _ a
  obtain ⟨b,d⟩:=fH0 _ _ _ c
  subst e
  simp at b
  exact ⟨Z0,d⟩
theorem qB1:∀ (n:Nat) (l:List Z6),n≤l.length→uE0 n l=some (l.take n)
 | 0,l,_=>by
  have:uE0 0 l=some []:=rfl
  rw[this];simp
 | n+1,[],h=>by simp at h
 | n+1,v :: l,h=>by
  have:uE0 (n+1) (v :: l)=Option.rec (motive:=λ_=>Z8 (List Z6)) none (λx=>some (v :: x)) (uE0 n l):=rfl
  rw[this,qB1 n l (by simpa using h)]
  rfl
theorem mF0 (cs:List Z6){n:Nat}(h:cs.length=n):takeN cs 0 n=some cs:=by
 have:takeN cs 0 n=uE0 n cs:=rfl
 rw[this,qB1 n cs Z0,List.take_of_length_le Z0]
theorem qU1:∀ (vs cs r:List Z6),bY0 vs cs=some r→vs.length≤cs.length∧r=vs++cs.drop vs.length
 | [],cs,r,h=>by
  have:bY0 [] cs=some cs:=rfl
  rw[this] at h;cases h;simp
 | v :: vs,[],r,h=>by
  have:bY0 (v :: vs) []=none:=rfl
  rw[this] at h;cases h
 | v :: vs,c :: cs,r,h=>by
  have:bY0 (v :: vs) (c :: cs)=Option.rec (motive:=λ_=>Z8 (List Z6)) none (λx=>some (v :: x)) (bY0 vs cs):=rfl
  rw[this] at h
  cases a:bY0 vs cs with
  | none=>rw[a] at h;cases h
  | some x=>
   rw[a] at h
   have b:some (v :: x)=some r:=h
   cases b
   obtain ⟨e,d⟩:=qU1 vs cs x a
   exact ⟨by simp;omega,by rw[d];simp⟩
theorem pR0:∀ (n:Nat) (vs cs r:List Z6),setE n vs cs=some r→n+vs.length≤cs.length∧r=setFrom cs n vs
 | 0,vs,cs,r,h=>by
  have:setE 0 vs cs=bY0 vs cs:=rfl
  rw[this] at h
  obtain ⟨d,a⟩:=qU1 vs cs r h
  exact ⟨Z0,by rw[a];simp[setFrom]⟩
 | n+1,vs,[],r,h=>by
  have:setE (n+1) vs []=none:=rfl
  rw[this] at h;cases h
 | n+1,vs,c :: cs,r,h=>by
  have:setE (n+1) vs (c :: cs)=Option.rec (motive:=λ_=>Z8 (List Z6)) none (λx=>some (c :: x)) (setE n vs cs):=rfl
  rw[this] at h
  cases b:setE n vs cs with
  | none=>rw[b] at h;cases h
  | some x=>
   rw[b] at h
   have e:some (c :: x)=some r:=h
   cases e
   obtain ⟨d,a⟩:=pR0 n vs cs x b
   refine ⟨by simp;omega,?_⟩
   rw[a]
   simp only[setFrom,List.take_succ_cons,List.cons_append]
   rw[show n+1+vs.length=(n+vs.length)+1 by omega,List.drop_succ_cons]
theorem pQ0 {cs vs r:List Z6}{off:Nat}(h:setN cs off vs=some r):off+vs.length≤cs.length∧r=setFrom cs off vs:=pR0 off vs cs r h
end Go.Ev
namespace Go.Ev
open Go Go.RowKit
structure Tm (Γ:Gam)(NG:Nat)(tm:VT)(ca:Act):Prop where
 sm:tm.sz<U
 tm:ca.tmps=tm.arr.map (con Γ)
 gl:∀ g,g<NG→Γ.b g=g
theorem uT0 (h:Gam):con h undef=undef:=rfl
theorem Tm.eval {a:Gam}{NG:Nat}{tm:VT}{b:Act}(h:Tm a NG tm b){x:Zo}(c:gA NG x=true):b.eval x=con a (ev tm x):=by
 cases x with
 | tmp t=>
  have e:ev tm (.tmp t)=tm.get t:=rfl
  rw[e,← VT.arr_getD]
  simp only[Act.eval,h.tm,Array.getD_eq_getD_getElem?,Array.getElem?_map]
  cases tm.arr[t]?<;>simp[uT0]
 | const v=>exact (kQ a v c).symm
 | global g=>
  have d:g<NG:=by simpa[gA] using c
  have e:ev tm (.global g)=.pointer (some ⟨g,0,none⟩):=rfl
  rw[e]
  simp[Act.eval,con,bJ,h.gl g d]
 | func f=>
  have e:ev tm (.func f)=.func (.func f) #[] #[]:=rfl
  rw[e]
  simp[Act.eval,con,yN0,conL]
theorem cU0:∀ (a b:List Zu),beqB a b=(a == b)
 | [],[]=>rfl
 | [],_ :: _=>rfl
 | _ :: _,[]=>rfl
 | x :: xs,y :: ys=>by
  have h:Nat.beq x.toNat y.toNat=(x == y):=by
   by_cases e:x=y
   ·subst e;simp
   ·have:x.toNat≠y.toNat:=λh=>e (UInt8.toNat_inj.1 h)
    have c:Nat.beq x.toNat y.toNat=false:=by
     rw[Bool.eq_false_iff];intro h;exact this (Nat.eq_of_beq_eq_true h)
    rw[c];simp[e]
  simp only[beqB,h,List.cons_beq_cons]
  cases d:(x == y) with
  | false=>simp
  | true=>simp[cU0 xs ys]
theorem gU {P:Z9}{s:Sem Z6}{x:Zb}{v:Z6}(h:pvF P s x=some v):x=true∧flat v=true∧∀ w,s.run P w=.ok v w:=by
 unfold pvF at h
 cases x with
 | false=>simp at h
 | true=>
  cases a:pv P s with
  | none=>simp[a] at h
  | some u=>
   cases c:flat u with
   | false=>simp[a,c] at h
   | true=>
    simp[a,c] at h
    subst h
    exact ⟨rfl,c,gD3 P s u a⟩
theorem qA {P:Z9}{t:Zt}{d:TypeDesc}(h:P.underlying t=some d)(w:Zw):(underlying t).run P w=.ok d w:=by
 simp[underlying,h]
theorem yU0 {P:Z9}{t e:Zt}(g:P.underlying t=some (.slice e))(a:Z8 Addr)(n c b f:Nat)(w:Zw) :
  (Op.equal t (.slice a n c) (.slice none b f)).run P w=.ok a.isNone w:=by
 have h:∀ d:Nat,(Op.equalIn (d+1) t (.slice a n c) (.slice none b f)).run P w=.ok a.isNone w:=λd=>by
  cases a<;>simp[Op.equalIn,qA g]
 exact h 9999
theorem wR0 {P:Z9}{t e:Zt}(c:P.underlying t=some (.pointer e))(a:Z8 Addr)(w:Zw) :
  (Op.equal t (.pointer a) (.pointer none)).run P w=.ok a.isNone w:=by
 have h:∀ d:Nat,(Op.equalIn (d+1) t (.pointer a) (.pointer none)).run P w=.ok a.isNone w:=λd=>by
  cases a<;>simp[Op.equalIn,qA c]
 exact h 9999
theorem tO0 {P:Z9}{op:BinOp}{t:Zt}{x y:Zo}{a b v:Z6}(d:Gam)(h:jW P op t x y a b=some v)(w:Zw) :
  (do eqGuard op t x y (con d a) (con d b);binOp op t (con d a) (con d b):Sem Z6).run P w=.ok (con d v) w:=by
 unfold jW at h
 split at h
 ·injection h with h;subst h
  simp[con,eqGuard,binOp,Op.stringOp,cU0,ByteArray.toList_eq]
 ·injection h with h;subst h
  simp[con,eqGuard,binOp,Op.stringOp,cU0,ByteArray.toList_eq]
 ·rename_i u n c k j
  split at h<;>cases h
  rename_i e f
  cases u<;>simp[con,eqGuard,binOp,yU0 f]
 ·rename_i u n c k j
  split at h<;>cases h
  rename_i e f
  cases u<;>simp[con,eqGuard,binOp,yU0 f]
 ·rename_i u
  split at h<;>cases h
  rename_i e f
  cases u<;>simp[con,eqGuard,binOp,wR0 f]
 ·rename_i u
  split at h<;>cases h
  rename_i e f
  cases u<;>simp[con,eqGuard,binOp,wR0 f]
 ·obtain ⟨g,i,l⟩:=gU h
  rw[Z5] at g
  rw[kQ d a g.1,kQ d b g.2,kQ d v i]
  exact l w
theorem bF {P:Z9}{t:Zt}{n:Nat}(h:szT P t=some n)(w:Zw):(sizeOf t).run P w=.ok n w:=by
 unfold szT at h
 split at h<;>cases h
 rename_i i hi
 simp[sizeOf,typeInfo,hi]
theorem zQ0 {P:Z9}{t:Zt}{b:Zb}(h:eP0 P t=some b)(w:Zw):(isAgg t).run P w=.ok b w:=by
 unfold eP0 at h
 split at h<;>cases h
 ·rename_i a;simp[isAgg,qA a]
 ·rename_i a;simp[isAgg,qA a]
 ·rename_i d c e a
  simp only[isAgg,Sem.run_bind,qA a,Result.andThen_ok]
  cases d<;>simp_all
theorem nE0 {P:Z9}{t:Zt}{cs:List Z6}{off:Nat}{v:Z6}(b:Gam)(h:iB0 P t cs off=some v)(w:Zw) :
  (part t ((⟨cs⟩:Array Z6).map (con b)) off).run P w=.ok (con b v) w:=by
 unfold iB0 at h
 split at h
 ·rename_i a
  split at h
  case h_2=>cases h
  rename_i n d
  split at h
  case h_2=>cases h
  rename_i l e
  split at h<;>cases h
  rename_i f c
  obtain ⟨_,rfl⟩:=lJ0 _ _ _ e
  obtain ⟨_,rfl⟩:=fH0 _ _ _ c
  simp only[part,Sem.run_bind,zQ0 a,Result.andThen_ok,if_true,bF d,Sem.run_pure]
  congr 1
  rw[uU0]
  congr 1
  apply Array.ext'
  simp[List.map_take,List.map_drop,List.extract_eq_take_drop]
 ·rename_i a
  simp[part,zQ0 a,h]
 ·cases h
theorem bJ0 (cs vs:List Z6)(off:Nat)(h:off+vs.length≤cs.length) :
  (vs.zipIdx.foldl (λ(cs:Array Z6) (x:Z6×Nat)=>cs.setIfInBounds (off+x.2) x.1) ⟨cs⟩)=⟨setFrom cs off vs⟩:=by
 have a : ∀ (vs : List Z6) (k : Nat) (cs : List Z6), off + k + vs.length ≤ cs.length →
   ((vs.zipIdx k).foldl (λ(cs:Array Z6) (x:Z6×Nat)=>cs.setIfInBounds (off+x.2) x.1) ⟨cs⟩)=⟨setFrom cs (off+k) vs⟩:=by
  intro vs
  induction vs with
  | nil=>intro k cs _;simp[setFrom]
  | cons v vs d=>
   intro k cs b
   simp only[List.length_cons] at b
   simp only[List.zipIdx_cons,List.foldl_cons]
   rw[show ((⟨cs⟩:Array Z6).setIfInBounds (off+k) v)=⟨cs.set (off+k) v⟩ by apply Array.ext';simp]
   rw[d (k+1) _ (by simp;omega)]
   congr 1
   simp only[setFrom,← Nat.add_assoc,List.length_cons]
   rw[List.take_set,List.drop_set]
   rw[if_pos Z0]
   have c:cs.take (off+k+1)=cs.take (off+k)++[cs[off+k]'Z0]:=by
    rw[List.take_succ_eq_append_getElem]
   rw[c]
   rw[List.set_append_right _ _ (by simp;omega)]
   have e:off+k-(List.take (off+k) cs).length=0:=by simp;omega
   rw[e]
   simp only[List.set_cons_zero,List.append_assoc,List.cons_append,List.nil_append]
   rw[show off+k+1+vs.length=off+k+vs.length+1 by omega]
 simpa using a vs 0 cs (by simpa using h)
theorem wT0 (h:Gam)(cs vs:List Z6)(off:Nat):(setFrom cs off vs).map (con h)=setFrom (cs.map (con h)) off (vs.map (con h)):=by
 simp[setFrom]
theorem cJ0 (d:Gam)(place:Nat→Z8 (Nat×Nat)):∀ (a:List (Nat×Z6)) (cs b:List Z6),cK0 place cs a=some b→
  Instr.fill place ⟨cs.map (con d)⟩ (a.map λx=>(x.1,con d x.2))=some ⟨b.map (con d)⟩:=by
 intro a
 induction a with
 | nil=>intro cs b h;simp only[cK0,Option.some.injEq] at h;subst h;simp[Instr.fill]
 | cons x k l=>
  obtain ⟨i,v⟩:=x
  intro cs b h
  simp only[cK0] at h
  cases j:place i with
  | none=>simp[j] at h
  | some os=>
   obtain ⟨off,size⟩:=os
   simp only[j] at h
   split at h
   ·rename_i g
    simp only[Nat.beq_eq] at g
    split at h
    case h_2=>cases h
    rename_i n f
    obtain ⟨e,rfl⟩:=pR0 _ _ _ _ f
    simp only[List.map_cons,Instr.fill,j,kL0,Array.size_map]
    rw[if_neg (by simp[g];simpa[g] using e)]
    have m:(v.cells.map (con d)).zipIdx.foldl (λ(cs:Array Z6) (x:Z6×Nat)=>cs.setIfInBounds (off+x.2) x.1) ⟨cs.map (con d)⟩=⟨(setFrom cs off v.cells.toList).map (con d)⟩:=by
     rw[wT0,← bJ0 _ _ _ (by simpa using e),← Array.foldl_toList]
     simp
    exact (congrArg (λc=>Instr.fill place c _) m).trans (l _ _ h)
   ·cases h
theorem nT0 {v:Z6}(h:flat v=true):qB v.cells.toList=true:=by
 cases v with
 | agg cs=>obtain ⟨l⟩:=cs;simpa[flat,Value.cells] using h
 | _=>simp_all [Value.cells,qB]
theorem yM0 {v:Z6}(a:Gam)(h:flat v=true):v.cells.toList.map (con a)=v.cells.toList:=by
 rw[← dQ];exact dG a _ (nT0 h)
theorem nD0 {P:Z9}{w:Zw}:∀ {a:List Field} {pl:List (Nat×Nat)},placesOf P a=some pl→
  (a.mapM λf=>do pure (f.offset,← sizeOf f.type):Sem (List (Nat×Nat))).run P w=.ok pl w:=by
 intro a
 induction a with
 | nil=>intro pl h;simp[placesOf] at h;subst h;simp
 | cons f a d=>
  intro pl h
  simp only[placesOf] at h
  split at h<;>cases h
  rename_i n l c b
  simp only[List.mapM_cons,Sem.run_bind,bF c,Result.andThen_ok,Sem.run_pure,d b]
theorem cV1 {P:Z9}{t:Zt}{a:List (Nat×Z6)}{v:Z6}(c:Gam)(h:cT0 P t a=some v)(w:Zw) :
  (Instr.build t ⟨a.map λx=>(x.1,con c x.2)⟩).run P w=.ok (con c v) w:=by
 unfold cT0 at h
 split at h
 ·cases h
 rename_i i hi
 split at h
 ·cases h
 rename_i z o
 split at h
 ·rename_i j m k
  split at h
  ·rename_i pl l
   split at h<;>cases h
   rename_i cs b
   have g:=cJ0 c _ _ _ _ b
   rw[yM0 c m] at g
   have s:(j.mapM λf=>do pure (f.offset,← sizeOf f.type):Sem (Array (Nat×Nat))).run P w=.ok ⟨pl⟩ w:=by
    have p:=nD0 (w:=w) l
    obtain ⟨j⟩:=j
    rw[List.mapM_toArray]
    simp only[Sem.run_map]
    simp only at p
    rw[p]
    simp
   have d:Instr.fill (λx=>(⟨pl⟩:Array (Nat×Nat))[x]?) z.cells (a.map λx=>(x.1,con c x.2))=some ⟨cs.map (con c)⟩:=by
    simpa using g
   simp only[Instr.build,Sem.run_bind,zeroValue,typeInfo,run_program,Result.andThen_ok,hi,Sem.run_pure,o,qA k]
   rw[s]
   simp only[Result.andThen_ok]
   simp only[d,Sem.run_pure,uU0]
   simp
  ·cases h
 ·rename_i n e m k
  split at h
  ·rename_i q r
   split at h<;>cases h
   rename_i cs b
   have g:=cJ0 c _ _ _ _ b
   rw[yM0 c m] at g
   simp only[Instr.build,Sem.run_bind,zeroValue,typeInfo,run_program,Result.andThen_ok,hi,Sem.run_pure,o,qA k,bF r]
   have d:Instr.fill (λi=>some (i*q,q)) z.cells (a.map λx=>(x.1,con c x.2))=some ⟨cs.map (con c)⟩:=g
   simp only[d,Sem.run_pure,uU0]
   simp
  ·cases h
 ·cases h
theorem wL0 (h:Gam)(a:Addr)(n:Nat):(bJ h a).add n=bJ h (a.add n):=by
 unfold Addr.add bJ
 split<;>rfl
theorem cK {P:Z9}{w:Zw}(c:Gam){k:IntKind}{n y:Nat}{a:BoundsCode}(h:n≤y) :
  (Instr.sliceBound (con c (.int k (n:Int))) y a).run P w=.ok n w:=by
 simp only[con]
 have:=run_sliceBound (P:=P) w k (n:Int) y a (Int.natCast_nonneg n) (Int.ofNat_le.2 h)
 simpa using this
theorem qD0 {len d:Nat}{mx hi lo:Z8 Z6}{l h:Nat}{m:Z8 Nat}(c:bounds len d mx hi lo=some (l,h,m)) :
  ((mx=none∧m=none)∨∃ k e,mx=some (.int k (.ofNat e))∧m=some e∧e≤d)∧
   ((hi=none∧m=none∧h=len)∨(∃ k,hi=some (.int k (.ofNat h))∧h≤m.getD d))∧
   ((lo=none∧l=0)∨(∃ k,lo=some (.int k (.ofNat l))∧l≤h)):=by
 unfold bounds at c
 split at c
 ·cases c
 rename_i o g
 split at c
 ·cases c
 rename_i j b
 split at c
 ·cases c
 rename_i p f
 cases c
 refine ⟨?_,?_,?_⟩
 ·split at g
  ·cases g;exact .inl ⟨rfl,rfl⟩
  ·rename_i k e
   split at g<;>cases g
   rename_i a
   exact .inr ⟨k,e,rfl,rfl,by simpa using a⟩
  ·cases g
 ·split at b
  ·cases b;exact .inl ⟨rfl,rfl,rfl⟩
  ·cases b
  ·rename_i k i
   split at b<;>cases b
   rename_i a
   exact .inr ⟨k,rfl,by simpa using a⟩
  ·rename_i k i e
   split at b<;>cases b
   rename_i a
   exact .inr ⟨k,rfl,by simpa using a⟩
  ·cases b
 ·split at f
  ·cases f;exact .inl ⟨rfl,rfl⟩
  ·rename_i k n
   split at f<;>cases f
   rename_i a
   exact .inr ⟨k,rfl,by simpa using a⟩
  ·cases f
theorem wM0 {P:Z9}{w:Zw}{len e cap:Nat}{mx hi lo:Z8 Z6}{l h:Nat}{m:Z8 Nat}(a:Gam)(i:Zb)
  (o:bounds len e mx hi lo=some (l,h,m)) (s:e≤cap) :
  (Instr.sliceBounds i len cap (lo.map (con a)) (hi.map (con a)) (mx.map (con a))).run P w=.ok (l,h,m.getD cap) w:=by
 have g:=qD0 o
 obtain ⟨q,n,j⟩:=g
 rcases q with ⟨rfl,rfl⟩|⟨k,r,rfl,rfl,p⟩
 ·rcases n with ⟨rfl,_,rfl⟩|⟨k,rfl,d⟩
  ·rcases j with ⟨rfl,rfl⟩|⟨k,rfl,f⟩
   ·simp[Instr.sliceBounds]
   ·simp[Instr.sliceBounds,cK a f]
  ·have b:h≤cap:=by simp at d;omega
   rcases j with ⟨rfl,rfl⟩|⟨k,rfl,f⟩
   ·simp[Instr.sliceBounds,cK a b]
   ·simp[Instr.sliceBounds,cK a b,cK a f]
 ·have c:r≤cap:=Z0
  rcases n with ⟨_,h0,_⟩|⟨k,rfl,d⟩
  ·cases h0
  ·simp only[Option.getD_some] at d
   rcases j with ⟨rfl,rfl⟩|⟨k,rfl,f⟩
   ·simp[Instr.sliceBounds,cK a c,cK a d]
   ·simp[Instr.sliceBounds,cK a c,cK a d,cK a f]
theorem fS0 {P:Z9}{w:Zw}{t:Zt}{a:Z8 Addr}{len cap:Nat}{lo hi mx:Z8 Z6}{v:Z6}(b:Gam)
  (h:kU P t a len cap lo hi mx=some v) :
  (Instr.sliceAt t (con b (.slice a len cap)) (lo.map (con b)) (hi.map (con b)) (mx.map (con b))).run P w=.ok (con b v) w:=by
 unfold kU at h
 split at h
 ·rename_i e x
  split at h
  ·rename_i size u y
   split at h
   ·rename_i l z m q
    have o:cap<UC:=by simpa using y
    have p:∀ a:Z8 Addr,con b (.slice a len cap)=.slice (a.map (bJ b)) len cap:=by
     intro a;cases a with
     | none=>simp[con]
     | some a=>simp[con,kX,o]
    have f:∀ (a:Z8 Addr) (n c:Nat),c≤cap→con b (.slice a n c)=.slice (a.map (bJ b)) n c:=by
     intro a n c r;cases a with
     | none=>simp[con]
     | some a=>simp[con,kX,show c<UC by omega]
    rw[p a]
    have j:=wM0 (P:=P) (w:=w) b true q (Z3 _)
    have s:m.getD cap≤cap:=by
     rcases (qD0 q).1 with ⟨_,rfl⟩|⟨k,A,_,rfl,g⟩
     ·simp
     ·simpa using g
    simp only[Instr.sliceAt,Instr.slice,Sem.run_bind,qA x,Result.andThen_ok,j,bF u,Sem.run_pure]
    dsimp only at h
    split at h
    ·rename_i d
     simp only[Nat.beq_eq] at d
     cases h
     rw[f _ _ _ Z0,if_pos d]
    ·rename_i d
     have i:m.getD cap≠l:=λe=>by rw[e] at d;simp at d
     cases h
     rw[f _ _ _ Z0,if_neg i]
     cases a<;>simp[wL0]
   ·cases h
  ·cases h
 ·cases h
theorem mK0 {P:Z9}{w:Zw}{t:Zt}{a:Addr}{lo hi mx:Z8 Z6}{v:Z6}(Γ:Gam)(h:jK0 P t a lo hi mx=some v) :
  (Instr.sliceAt t (con Γ (.pointer (some a))) (lo.map (con Γ)) (hi.map (con Γ)) (mx.map (con Γ))).run P w=.ok (con Γ v) w:=by
 unfold jK0 at h
 split at h
 ·rename_i n e hu
  split at h
  ·rename_i size hs hc
   split at h
   ·rename_i l hh m hb
    have hlt : n < UC := by have h1 : n < U := by simpa using hc
                            have:=U_UC;omega
    have hc2:∀ (a:Addr) (k c:Nat),c≤n→con Γ (.slice (some a) k c)=.slice (some (bJ Γ a)) k c:=by
     intro a k c hcc
     simp[con,kX,show c<UC by omega]
    have hbr:=wM0 (P:=P) (w:=w) Γ false hb (Z3 _)
    have hml:m.getD n≤n:=by
     rcases (qD0 hb).1 with ⟨_,rfl⟩|⟨k,mm,_,rfl,hle⟩
     ·simp
     ·simpa using hle
    simp only[con,Instr.sliceAt,Instr.sureAddr,Sem.run_bind,qA hu,Result.andThen_ok,hbr,bF hs,Sem.run_pure]
    dsimp only at h
    split at h
    ·rename_i he
     simp only[Nat.beq_eq] at he
     cases h
     rw[hc2 _ _ _ Z0,if_pos he]
    ·rename_i he
     have he':m.getD n≠l:=λe=>by rw[e] at he;simp at he
     cases h
     rw[hc2 _ _ _ Z0,if_neg he',wL0]
   ·cases h
  ·cases h
 ·cases h
end Go.Ev
namespace Go.Ev
open Go Go.RowKit
theorem eV0 {P:Z9}{q:Gam}{NG:Nat}{tm:VT}{H:Act}{o:Oper}{v:Z6}(ht:Tm q NG tm H)
  (hop:o.op.operands.all (gA NG)=true) (h:cH P o tm=some v) (w:Zw) :
  (execOp H.eval o).run P w=.ok (.value (con q v)) w:=by
 have r:∀ x∈o.op.operands,H.eval x=con q (ev tm x):=λx p=>ht.eval (by
  rw[Array.all_eq_true_iff_forall_mem] at hop;exact hop x p)
 unfold cH at h
 split at h
 ·rename_i x j
  cases h
  simp[execOp,j,r x (by simp[j,Op.operands])]
 ·rename_i x j
  cases h
  simp[execOp,j,r x (by simp[j,Op.operands])]
 ·rename_i c a b j
  have X:=r c (by simp[j,Op.operands])
  have ha:=r a (by simp[j,Op.operands])
  have hb:=r b (by simp[j,Op.operands])
  split at h<;>cases h
  ·rename_i p;simp[execOp,j,X,p,ha,con,asBool]
  ·rename_i p;simp[execOp,j,X,p,hb,con,asBool]
 ·rename_i t i j
  have X:=r t (by simp[j,Op.operands])
  split at h
  ·rename_i vs p
   simp[execOp,j,X,p,qB0,Instr.extract,h]
  ·cases h
 ·rename_i op t x y yt j
  have p:=r x (by simp[j,Op.operands])
  have J:=r y (by simp[j,Op.operands])
  have B:=tO0 q h w
  simp only[Sem.run_bind] at B
  simp only[execOp,j,Sem.run_bind,p,J,B,Result.andThen_ok,Sem.run_pure]
 ·rename_i op t x j
  have p:=r x (by simp[j,Op.operands])
  obtain ⟨I,z,B⟩:=gU h
  simp[execOp,j,p,kQ q _ I,B w,kQ q _ z]
 ·rename_i s d x j
  have p:=r x (by simp[j,Op.operands])
  obtain ⟨I,z,B⟩:=gU h
  simp[execOp,j,p,kQ q _ I,B w,kQ q _ z]
 ·rename_i s x f j
  have p:=r x (by simp[j,Op.operands])
  split at h
  ·rename_i fs a E m
   split at h
   ·rename_i fl N
    split at h<;>cases h
    rename_i n hn
    simp[execOp,j,p,m,con,Instr.fieldAt,qA E,N,Instr.sureAddr,fieldPlace,bF hn,wL0]
   ·cases h
  ·cases h
 ·rename_i t x f j
  have p:=r x (by simp[j,Op.operands])
  split at h
  ·rename_i fs cs E m
   split at h
   ·rename_i fl N
    have hp:=nE0 q h w
    simp only[Array.toArray_toList] at hp
    simp[execOp,j,p,m,uU0,Instr.field,qA E,N,asAgg,hp]
   ·cases h
  ·cases h
 ·rename_i t x i j
  have p:=r x (by simp[j,Op.operands])
  have hi:=r i (by simp[j,Op.operands])
  split at h
  ·rename_i e a len c k n E m F
   split at h<;>cases h
   rename_i size C Z
   simp only[Nat.blt_eq] at C
   simp[execOp,j,p,m,hi,F,con,Instr.indexAt,asIntOf,qA E,bF Z,wL0,C]
  ·rename_i len e a k n E m F
   split at h<;>cases h
   rename_i size C Z
   simp only[Nat.blt_eq] at C
   simp[execOp,j,p,m,hi,F,con,Instr.indexAt,asIntOf,qA E,bF Z,wL0,C,Instr.sureAddr]
  ·cases h
 ·rename_i t x i j
  have p:=r x (by simp[j,Op.operands])
  have hi:=r i (by simp[j,Op.operands])
  split at h
  ·rename_i s k n m F
   obtain ⟨_,z,B⟩:=gU h
   simp[execOp,j,p,m,hi,F,con,B w,kQ q _ z]
  ·rename_i cs k n m F
   split at h
   ·rename_i len e E
    split at h
    ·rename_i size C Z
     simp only[Nat.blt_eq] at C
     have hp:=nE0 q h w
     simp only[Array.toArray_toList] at hp
     simp[execOp,j,p,m,hi,F,uU0,con,Instr.index,asIntOf,qA E,bF Z,C,hp]
    ·cases h
   ·cases h
  ·cases h
 ·rename_i t x lo hi mx j
  have p:=r x (by simp[j,Op.operands])
  have R:lo.map H.eval=(lo.map (ev tm)).map (con q):=by
   cases lo with
   | none=>rfl
   | some y=>simp[r y (by simp[j,Op.operands])]
  have M:hi.map H.eval=(hi.map (ev tm)).map (con q):=by
   cases hi with
   | none=>rfl
   | some y=>simp[r y (by simp[j,Op.operands])]
  have V:mx.map H.eval=(mx.map (ev tm)).map (con q):=by
   cases mx with
   | none=>rfl
   | some y=>simp[r y (by simp[j,Op.operands])]
  have fl:∀ x:Z8 Z6,x.all flat=true→x.map (con q)=x:=λx p=>by
   cases x with
   | none=>rfl
   | some y=>simp at p;simp[kQ q y p]
  split at h
  ·rename_i s m
   obtain ⟨I,z,B⟩:=gU h
   simp only[Z5] at I
   simp only[execOp,j,p,m,con,R,M,V,fl _ I.1.1,fl _ I.1.2,fl _ I.2,Sem.run_bind,B w,Result.andThen_ok,Sem.run_pure,kQ q _ z]
  ·rename_i a n c m
   have B:=fS0 (w:=w) q h
   simp only[execOp,j,p,m,R,M,V,Sem.run_bind,B,Result.andThen_ok,Sem.run_pure]
  ·rename_i a m
   have B:=mK0 (w:=w) q h
   simp only[execOp,j,p,m,R,M,V,Sem.run_bind,B,Result.andThen_ok,Sem.run_pure]
  ·cases h
 ·rename_i t u j
  have B:=cV1 q h w
  have L:(u.map λ(x:Nat×Zo)=>(x.1,H.eval x.2))=⟨(u.toList.map λ(x:Nat×Zo)=>(x.1,ev tm x.2)).map λx=>(x.1,con q x.2)⟩:=by
   apply Array.ext'
   simp only[Array.toList_map,List.map_map]
   apply List.map_congr_left
   intro y J
   simp only[Function.comp]
   rw[r y.2 (by
    simp only[j,Op.operands]
    simp only[List.mem_toArray,List.mem_map]
    exact ⟨y,J,rfl⟩)]
  have hr':=B
  simp only[execOp,j,Sem.run_bind]
  rw[show (u.map λ(i,x)=>(i,H.eval x))=(u.map λ(x:Nat×Zo)=>(x.1,H.eval x.2)) from rfl,L]
  rw[show (u.toList.map λ(x:Nat×Zo)=>(x.1,ev tm x.2))=(u.toList.map λ(i,x)=>(i,ev tm x)) from rfl,hr']
  simp
 ·rename_i g f c j
  cases h
  have I:f.map H.eval=(f.map (ev tm)).map (con q):=by
   rw[Array.map_map]
   apply Array.map_congr_left
   intro y J;exact r y (by simp[j,Op.operands,J])
  have X:c.map H.eval=(c.map (ev tm)).map (con q):=by
   rw[Array.map_map]
   apply Array.map_congr_left
   intro y J;exact r y (by simp[j,Op.operands,J])
  simp only[execOp,j,Instr.makeFunc,Sem.run_bind,Sem.run_pure,Result.andThen_ok,dP,yN0,I,X]
 ·rename_i t x j
  have p:=r x (by simp[j,Op.operands])
  split at h<;>cases h
  rename_i d hni E
  simp only[execOp,j,p,Instr.makeInterface,Sem.run_bind,qA E,Result.andThen_ok,con]
  cases d<;>first|simp|exact absurd rfl (hni _)
 ·rename_i x j
  have p:=r x (by simp[j,Op.operands])
  split at h<;>cases h
  ·rename_i a m;simp[execOp,j,p,m,con]
  ·rename_i g f c m;simp[execOp,j,p,m,dP,yN0]
 ·rename_i args A j
  split at h
  ·rename_i x t K ht0
   have p:=r x (by simp only[j,Op.operands,Call.operands];exact Array.mem_append.2 (.inr (Array.mem_of_getElem? K)))
   have Y:(args.map H.eval)[0]?=some (con q (ev tm x)):=by rw[Array.getElem?_map,K];simp[p]
   split at h<;>cases h
   ·rename_i s E m
    rw[m] at Y
    simp[execOp,j,resolve,invoke,builtin,Builtin.len_,ht0,K,p,m,qA E,con,goInt]
   ·rename_i e a n c E m
    rw[m] at Y
    cases a<;>simp[execOp,j,resolve,invoke,builtin,Builtin.len_,ht0,K,p,m,qA E,con,goInt]
  ·cases h
 ·rename_i args A j
  obtain ⟨I,z,B⟩:=gU h
  have D:args.map H.eval=args.map (ev tm):=by
   apply Array.map_congr_left
   intro y J
   rw[r y (by simp only[j,Op.operands,Call.operands];exact Array.mem_append.2 (.inr J))]
   refine kQ q _ ?_
   have h2:∀ (l:List Z6),qB l=true→∀ v∈l,flat v=true:=λl=>by
    induction l with
    | nil=>intro _ v z;cases z
    | cons a l ih=>intro T v z;simp only[qB,Z5] at T;cases z with | head=>exact T.1 | tail _ z=>exact ih T.2 v z
   exact h2 _ I _ (by simp;exact ⟨y,by simpa using J,rfl⟩)
  simp[execOp,j,resolve,invoke,builtin,D,B w,kQ q _ z]
 ·rename_i args A j
  obtain ⟨I,z,B⟩:=gU h
  have D:args.map H.eval=args.map (ev tm):=by
   apply Array.map_congr_left
   intro y J
   rw[r y (by simp only[j,Op.operands,Call.operands];exact Array.mem_append.2 (.inr J))]
   refine kQ q _ ?_
   have h2:∀ (l:List Z6),qB l=true→∀ v∈l,flat v=true:=λl=>by
    induction l with
    | nil=>intro _ v z;cases z
    | cons a l ih=>intro T v z;simp only[qB,Z5] at T;cases z with | head=>exact T.1 | tail _ z=>exact ih T.2 v z
   exact h2 _ I _ (by simp;exact ⟨y,by simpa using J,rfl⟩)
  simp[execOp,j,resolve,invoke,builtin,D,B w,kQ q _ z]
 ·cases h
end Go.Ev
namespace Go.Ev
open Go Go.RowKit
theorem Tr.get_nil (j:Nat):Tr.nil.get j=none:=rfl
theorem Tr.get_node (l r:Tr)(v:Z8 qW)(j:Nat):(Tr.node l v r).get j=if j=0 then v else if (j-1) % 2=0 then l.get ((j-1) / 2) else r.get ((j-1) / 2):=by
 cases j with
 | zero=>rfl
 | succ j=>
  have:(Tr.node l v r).get (j+1)=Bool.rec (motive:=λ_=>Z8 qW) (r.get (Nat.div j 2)) (l.get (Nat.div j 2)) (Nat.beq (Nat.mod j 2) 0):=rfl
  rw[this,zE1]
  simp only[Nat.add_eq_zero_iff,Nat.succ_ne_self,and_false,if_false,Nat.add_sub_cancel]
  rfl
theorem Tr.go_succ (j:Nat)(x:qW)(f:Tr→Nat→Tr)(l r:Tr)(v:Z8 qW):Tr.go (j+1) x f l v r=if j % 2=0 then .node (f l (j / 2)) v r else .node l v (f r (j / 2)):=by
 have:Tr.go (j+1) x f l v r=Bool.rec (motive:=λ_=>Tr) (.node l v (f r (Nat.div j 2))) (.node (f l (Nat.div j 2)) v r) (Nat.beq (Nat.mod j 2) 0):=rfl
 rw[this,zE1]
 rfl
theorem Tr.go_zero (x:qW)(f:Tr→Nat→Tr)(l r:Tr)(v:Z8 qW):Tr.go 0 x f l v r=.node l (some x) r:=rfl
theorem Tr.get_set:∀ (n:Nat) (t:Tr) (i:Nat) (x:qW) (j:Nat),i+1<2 ^ n→(Tr.set n t i x).get j=if j=i then some x else t.get j:=by
 intro n
 induction n with
 | zero=>intro t i x j h;simp at h
 | succ n g=>
  intro t i x j h
  have a : ∀ (l r : Tr) (v : Z8 qW), (∀ j, t.get j = (Tr.node l v r).get j) →
    (Tr.go i x (λt i=>Tr.set n t i x) l v r).get j=if j=i then some x else t.get j:=by
   intro l r v o
   rw[o j]
   cases i with
   | zero=>
    simp only[Tr.go_zero,Tr.get_node]
    by_cases c:j=0<;>simp[c]
   | succ k=>
    have m:k / 2+1<2 ^ n:=by rw[Nat.pow_succ] at h;omega
    rw[Tr.go_succ]
    by_cases f:k % 2=0
    ·simp only[f,if_true,Tr.get_node,g l _ x _ m]
     by_cases c:j=0
     ·subst c;simp
     ·simp only[c,if_false]
      by_cases b:(j-1) % 2=0
      ·simp only[b,if_true]
       by_cases d:j=k+1
       ·subst d;simp
       ·rw[if_neg Z0,if_neg d]
      ·simp only[b,if_false]
       rw[if_neg (by intro e;subst e;simp at b;omega)]
    ·simp only[f,if_false,Tr.get_node,g r _ x _ m]
     by_cases c:j=0
     ·subst c;simp
     ·simp only[c,if_false]
      by_cases b:(j-1) % 2=0
      ·simp only[b,if_true]
       rw[if_neg (by intro e;subst e;simp at b;omega)]
      ·simp only[b,if_false]
       by_cases d:j=k+1
       ·subst d;simp
       ·rw[if_neg Z0,if_neg d]
  cases t with
  | nil=>exact a .nil .nil none (λj=>by rw[Tr.get_nil,Tr.get_node];simp[Tr.get_nil])
  | node l v r=>exact a l r v (λj=>rfl)
theorem Tr.get_put (t:Tr)(i:Nat)(x:qW)(j:Nat):(t.put i x).get j=if j=i then some x else t.get j:=
 Tr.get_set (i+1) t i x j Nat.lt_two_pow_self
theorem jA.get_put {h:jA}{i:Nat}{x:qW}(j:Nat):(h.put i x).get j=if j=i then some x else h.get j:=by
 obtain ⟨t,n,lo⟩:=h
 exact Tr.get_put t i x j
structure Par where
 P:Z9
 NG:Nat
 G:Nat
 B:Nat
 sg:Nat→Int
 tg:Nat→ByteArray
def owned (x:qW):Zb:=match x.o with
 | .cells ..=>true
 | .stringIter ..=>true
 | .map ..=>true
 | .loop ..=>true
 | .deferred ..=>true
 | _=>false
def OR (p:Par)(a:Gam)(n:Nat)(w:Zw)(i:Nat)(x:qW):Prop:=
 match x.o with
 | .cells cs e _ => (p.G ≤ i → (∀ v ∈ cs.toList, one v = true ∧ sc n v = true) ∧ ∃ h d, w.heap[a.b i]? = some (.cells (cs.toList.map (con a) ++ h).toArray e d) ∧
   (cs.size+h.length≤d.1∨d.2=d.1)∧(x.more=false→h=[])∧
   (x.more=true→∃ t,p.P.info? e=some t∧cs.size+h.length=a.k i*t.size))∧
  (i<p.G→x.more=false∧a.b i<w.heap.size∧∀ j v,cs[j]?=some v→sc p.G v=true→one v=true∧w.cell? ⟨a.b i,j,none⟩=some (con a v))
 | .stringIter s q=>w.heap[a.b i]?=some (.stringIter s q)
 | .map g c=>False∧g.size=c
 | .loop r => (∀ v ∈ r.tmps.toList, sc n v = true) ∧ r.defers < n ∧ uY p.NG r.assign = true ∧ uY p.NG r.body = true ∧
   ∃ f,w.heap[a.b i]?=some (.loop { state:=r.state,pending:=r.pending,fn:=f,tmps:=r.tmps.map (con a),params:=r.params,assign:=r.assign,body:=r.body,defers:=a.b r.defers })
 | .deferred ds=>(ds=some []∨ds=none)∧w.heap[a.b i]?=some (.deferred ds)
 | _=>True
structure oY0 (p:Par)(Γ:Gam)(h:jA)(w:Zw):Prop where
 own:∀ b c e cs,h.get b=some (qO c e cs)→p.G≤b∧b<c∧c<h.next∧p.B≤Γ.b b∧Γ.b b<w.heap.size∧(∀ v∈cs,one v=true∧sc h.next v=true)∧(Γ.b c=Γ.b b→Γ.k c=Γ.k b)∧
  (Γ.b c≠Γ.b b→∃ rest fr,w.heap[Γ.b b]?=some (.cells (cs.map (con Γ)++rest).toArray e fr)∧(cs.length+rest.length≤fr.1∨fr.2=fr.1)∧∃ t,p.P.info? e=some t∧cs.length+rest.length=Γ.k b*t.size)
 tip:∀ b c e cs,h.get b=some (qO c e cs)→∀ j y,h.get j=some y→owned y=true→p.G≤j→Γ.b j=Γ.b b→c≤j∧Γ.b c=Γ.b b∧(∀ z,h.get c=some z→owned z=true→j=c)
 two:∀ a x e cs,h.get a=some (qO x e cs)→∀ b y e' cs',h.get b=some (qO y e' cs')→a<b→Γ.b a=Γ.b b→Γ.b x=Γ.b a∧x≤b
theorem iD0 {x:qW}(h:notL x=true)(c:Nat)(e:Zt)(cs:List Z6):x≠qO c e cs:=λa=>by rw[a] at h;cases h
theorem oY0.no {p:Par}{f:Gam}{h:jA}{w:Zw}(d:∀ b x,h.get b=some x→notL x=true):oY0 p f h w:=
 ⟨λb c e cs a=>absurd rfl (iD0 (d b _ a) c e cs),λb c e cs a=>absurd rfl (iD0 (d b _ a) c e cs),λb c e cs a=>absurd rfl (iD0 (d b _ a) c e cs)⟩
theorem oY0.step {p:Par}{i d:Gam}{h H:jA}{w w':Zw}(m:oY0 p i h w)(g:Ag i d h.next)(hn:h.next≤H.next)(hsz:w.heap.size≤w'.heap.size)
  (t:∀ b x,H.get b=some x→notL x=false→h.get b=some x)
  (Z:∀ j y,H.get j=some y→owned y=true→p.G≤j→(∃ z,h.get j=some z∧owned z=true∧j<h.next)∨(h.next≤j∧w.heap.size≤d.b j))
  (h3:∀ b c e cs,h.get b=some (qO c e cs)→i.b c≠i.b b→w'.heap[i.b b]?=w.heap[i.b b]?):oY0 p d H w':=by
 refine ⟨λb c e cs f=>?_,λb c e cs f j y hj ho Y l=>?_,λa x e cs E b y R q f I l=>?_⟩
 ·have f:=t b _ f rfl
  obtain ⟨q1,q2,q3,X,q5,D,V,T⟩:=m.own b c e cs f
  have P:d.b b=i.b b:=g.b b Z0
  have K:d.b c=i.b c:=g.b c q3
  rw[P,K,g.k c q3,g.k b Z0]
  refine ⟨q1,q2,Z0,X,Z0,λv B=>⟨(D v B).1,kN hn v (D v B).2⟩,V,λn=>?_⟩
  obtain ⟨s,fr,C,F,A⟩:=T n
  refine ⟨s,fr,?_,F,A⟩
  rw[h3 b c e cs f n,C]
  have:cs.map (con d)=cs.map (con i):=List.map_congr_left λv B=>qC0 g v (D v B).2
  rw[this]
 ·have f:=t b _ f rfl
  obtain ⟨q1,q2,q3,X,q5,D,V,T⟩:=m.own b c e cs f
  have P:d.b b=i.b b:=g.b b Z0
  have K:d.b c=i.b c:=g.b c q3
  rw[P] at l ⊢
  rw[K]
  rcases Z j y hj ho Y with ⟨z,hz,L,M⟩|⟨_,r⟩
  ·rw[g.b j M] at l
   obtain ⟨C,F,A⟩:=m.tip b c e cs f j z hz L Y l
   refine ⟨C,F,λu hu N=>?_⟩
   rcases Z c u hu N Z0 with ⟨z',J,o,_⟩|⟨r,_⟩
   ·exact A z' J o
   ·omega
  ·omega
 ·have E:=t a _ E rfl
  have f:=t b _ f rfl
  obtain ⟨q1,q2,q3,_⟩:=m.own a x e cs E
  obtain ⟨C,F,A,_⟩:=m.own b y R q f
  rw[g.b a Z0,g.b b Z0] at l
  rw[g.b a Z0,g.b x q3]
  exact m.two a x e cs E b y R q f I l
structure qI (p:Par)(Γ:Gam)(h:jA)(w:Zw):Prop where
 obj:∀ i x,h.get i=some x→i<h.next∧OR p Γ h.next w i x
 base:∀ i x,h.get i=some x→owned x=true→p.G≤i→p.B≤Γ.b i
 inj:∀ i j x y,h.get i=some x→owned x=true→h.get j=some y→owned y=true→p.G≤i→p.G≤j→Γ.b i=Γ.b j→i=j
 gl:∀ g,g<p.NG→Γ.b g=g
 low:∀ i x,i<p.G→h.get i=some x→owned x=true→Γ.b i<p.B
 lo:h.lo=p.G
 gn:p.G≤h.next
 ng:p.NG≤p.G∧p.NG≤p.B
 size:p.B≤w.heap.size
 gs:Γ.s=p.sg∧Γ.t=p.tg
 lent:oY0 p Γ h w
structure Fr (p:Par)(Γ:Gam)(h:jA)(w w':Zw):Prop where
 below:Below p.B w w'
 low:∀ i x,h.get i=some x→owned x=true→i<h.lo→w'.heap[Γ.b i]?=w.heap[Γ.b i]?
theorem Fr.refl {p:Par}{a:Gam}{h:jA}(w:Zw):Fr p a h w w:=⟨Below.refl _ _,λ_ _ _ _ _=>rfl⟩
theorem OR.ag {p:Par}{d a:Gam}{n m:Nat}{w w':Zw}{i:Nat}{x:qW}(h:OR p d n w i x)(y:Ag d a n)(H:n≤m)(E:p.G≤n)(hi:i<n)
  (z:w'.heap[d.b i]?=w.heap[d.b i]?):OR p a m w' i x:=by
 unfold OR at h ⊢
 have u:a.b i=d.b i:=y.b i hi
 have J:a.k i=d.k i:=y.k i hi
 split
 ·rename_i cs e fr0 g
  simp only[g] at h
  refine ⟨λF=>?_,λF=>?_⟩
  ·obtain ⟨l,D,L,C,A,B,t⟩:=h.1 F
   refine ⟨λv o=>⟨(l v o).1,kN H v (l v o).2⟩,D,L,?_,A,B,by rw[J];exact t⟩
   rw[u,z,C]
   have:cs.toList.map (con a)=cs.toList.map (con d):=List.map_congr_left λv o=>qC0 y v (l v o).2
   rw[this]
  ·obtain ⟨l,C,A⟩:=h.2 F
   refine ⟨l,?_,λj v K I=>?_⟩
   ·rw[u]
    have:w.heap[d.b i]?.isSome=true:=by simp[C]
    rw[← z] at this
    simpa using this
   ·obtain ⟨B,t⟩:=A j v K I
    refine ⟨B,?_⟩
    rw[qC0 y v (kN E v I)]
    simp only[World.cell?] at t ⊢
    rw[u,z];exact t
 ·rename_i s q g
  simp only[g] at h
  rw[u,z,h]
 ·rename_i M c g;simp only[g] at h;exact h
 ·rename_i r g
  simp only[g] at h
  obtain ⟨l,C,A,B,f,t⟩:=h
  refine ⟨λv o=>kN H v (l v o),Z0,A,B,f,?_⟩
  rw[u,z,t,y.b _ C]
  have:r.tmps.map (con a)=r.tmps.map (con d):=Array.map_congr_left λv o=>qC0 y v (l v (by simpa using o))
  rw[this]
 ·rename_i ds g
  simp only[g] at h
  exact ⟨h.1,by rw[u,z,h.2]⟩
 ·trivial
end Go.Ev
namespace Go.Ev
open Go Go.RowKit
def wset (w:Zw)(g:Nat)(o:Obj):Zw:={ w with heap:=w.heap.setIfInBounds g o }
theorem kK (w:Zw)(g:Nat)(o:Obj)(h:g<w.heap.size)(j:Nat):(wset w g o).heap[j]?=if j=g then some o else w.heap[j]?:=by
 simp only[wset,Array.getElem?_setIfInBounds]
 by_cases e:g=j
 ·subst e;simp[h]
 ·rw[if_neg e,if_neg (Ne.symm e)]
theorem jF0 (w:Zw)(g:Nat)(o:Obj):(wset w g o).heap.size=w.heap.size:=by simp[wset]
theorem mH1 {v:Z6}(h:one v=true):v.oneCell'=true:=by cases v<;>simp_all [one,Value.oneCell']
theorem addr_add (g o i:Nat):(⟨g,o,none⟩:Addr).add i=⟨g,o+i,none⟩:=by unfold Addr.add;split<;>simp_all
theorem dJ (P:Z9)(g o:Nat)(t:Zt)(a:Nat×Nat):∀ (vs:List Z6) (i:Nat) (h:List Z6) (w:Zw),
  w.heap[g]?=some (.cells ⟨h⟩ t a)→(h.length≤a.1∨a.2=a.1)→o+i+vs.length≤h.length→(∀ v∈vs,one v=true)→
  (storeCells ⟨g,o,none⟩ vs i).run P w=.ok () (wset w g (.cells ⟨setFrom h (o+i) vs⟩ t a))
 | [],i,h,w,hg,_,_,_=>by
  have c:g<w.heap.size:=(Array.getElem?_eq_some_iff.1 hg).1
  simp only[storeCells,setFrom,List.append_nil,List.length_nil,Nat.add_zero,List.take_append_drop,Sem.run_pure]
  congr 1
  simp only[wset]
  have:w.heap.setIfInBounds g (.cells ⟨h⟩ t a)=w.heap:=by
   apply Array.ext_getElem?
   intro j
   rw[Array.getElem?_setIfInBounds]
   split
   ·rename_i e;subst e;rw[hg]
   ·rfl
  rw[this]
 | v :: rest,i,h,w,hg,f,hl,h1=>by
  have c:g<w.heap.size:=(Array.getElem?_eq_some_iff.1 hg).1
  simp only[List.length_cons] at hl
  have hi:o+i<h.length:=Z0
  have b:w.cell? ⟨g,o+i,none⟩=some h[o+i]:=by simp[World.cell?,hg,hi]
  have d:w.frozen? ⟨g,o+i,none⟩=false:=by
   obtain ⟨lo,hi'⟩:=a
   simp only[World.frozen?,hg]
   simp only at f
   rcases f with f|f
   ·simp;intro;omega
   ·simp;intro;omega
  have l:(store ((⟨g,o,none⟩:Addr).add i) v).run P w=.ok () (wset w g (.cells ⟨h.set (o+i) v⟩ t a)):=by
   rw[addr_add,run_store P w _ v _ (mH1 (h1 v (by simp))),b]
   simp only[d,Bool.false_eq_true,if_false]
   congr 1
   simp only[World.setCell,wset]
   congr 1
   apply Array.ext_getElem?
   intro j
   rw[Array.getElem?_setIfInBounds,Array.getElem?_modify]
   by_cases e:g=j
   ·subst e
    have m:w.heap[g]=.cells ⟨h⟩ t a:=by
     have:=hg;rw[Array.getElem?_eq_getElem c] at this;exact Option.some.inj this
    simp[c,m]
   ·simp[e]
  have k:(wset w g (.cells ⟨h.set (o+i) v⟩ t a)).heap[g]?=some (.cells ⟨h.set (o+i) v⟩ t a):=by
   rw[kK _ _ _ c];simp
  have p:=dJ P g o t a rest (i+1) (h.set (o+i) v) _ k (by simpa using f) (by simp;omega) (λx q=>h1 x (by simp[q]))
  simp only[storeCells,Sem.run_bind,l,Result.andThen_ok,p]
  congr 1
  simp only[wset,Array.setIfInBounds_setIfInBounds]
  congr 3
  congr 1
  simp only[setFrom,List.length_cons]
  rw[show o+(i+1)=o+i+1 by omega]
  have n:(h.set (o+i) v).take (o+i+1)=h.take (o+i)++[v]:=by
   rw[List.take_succ_eq_append_getElem (by simp;omega)]
   simp[List.take_set_of_le]
  rw[n,List.drop_set]
  rw[if_pos Z0]
  simp
  omega
theorem dH0 {p:Par}{a:Gam}{n:Nat}{w:Zw}{i:Nat}{x:qW}(h:owned x=false):OR p a n w i x:=by
 unfold owned at h;unfold OR
 split<;>simp_all
theorem eV1 {p:Par}{e:Gam}{n:Nat}{w:Zw}{i:Nat}{x:qW}(h:OR p e n w i x)(c:owned x=true):e.b i<w.heap.size:=by
 unfold owned at c;unfold OR at h
 split at h
 ·by_cases g:p.G≤i
  ·obtain ⟨_,d,j,a,_⟩:=h.1 g;exact (Array.getElem?_eq_some_iff.1 a).1
  ·exact (h.2 Z0).2.1
 ·exact (Array.getElem?_eq_some_iff.1 h).1
 ·exact h.1.elim
 ·obtain ⟨_,_,_,_,f,a⟩:=h;exact (Array.getElem?_eq_some_iff.1 a).1
 ·exact (Array.getElem?_eq_some_iff.1 h.2).1
 ·split at c<;>simp_all
theorem qI.of_heap {p:Par}{d:Gam}{h:jA}{w w':Zw}(a:qI p d h w)(e:w'.heap=w.heap):qI p d h w':=
 { a with
  obj:=λi x c=>⟨(a.obj i x c).1,(a.obj i x c).2.ag (Ag.refl _ _) (Z3 _) a.gn (a.obj i x c).1 (by rw[e])⟩
  size:=by rw[e];exact a.size
  lent:=a.lent.step (Ag.refl _ _) (Z3 _) (by rw[e];exact Z3 _) (λ_ _ h _=>h) (λj y b f _=>.inl ⟨y,b,f,(a.obj j y b).1⟩) (λ_ _ _ _ _ _=>by rw[e]) }
theorem qI.put {p:Par}{m:Gam}{h:jA}{w:Zw}(f:qI p m h w){b:Nat}{x x':qW}(r:h.get b=some x)(u:owned x=true)
  (H:h.lo≤b) {o:Obj} (E:OR p m h.next (wset w (m.b b) o) b x') (L:notL x'=true:=by rfl) :
  qI p m (h.put b x') (wset w (m.b b) o)∧Fr p m h w (wset w (m.b b) o):=by
 have M:=(f.obj b x r).1
 have n:=eV1 (f.obj b x r).2 u
 have J:p.G≤b:=by rw[← f.lo];exact H
 have V:p.B≤m.b b:=f.base b x r u J
 have s:∀ i y,h.get i=some y→owned y=true→i≠b→m.b i≠m.b b:=λi y d a hi e=>by
  by_cases K:p.G≤i
  ·exact hi (f.inj i b y x d a r u K J e)
  ·have:=f.low i y Z0 d a;omega
 have g:∀ i y,(h.put b x').get i=some y→owned y=true→∃ z,h.get i=some z∧owned z=true:=λi y d a=>by
  rw[jA.get_put] at d
  split at d
  ·rename_i e;subst e;exact ⟨x,r,u⟩
  ·exact ⟨y,d,a⟩
 refine ⟨⟨λi y d=>?_,λi y d a hi=>?_,λi j y z d a q l hi D e=>?_,f.gl,λi y hi d a=>by
  obtain ⟨z,q,l⟩:=g i y d a
  exact f.low i z hi q l,f.lo,f.gn,f.ng,by rw[jF0];exact f.size,f.gs,f.lent.step (Ag.refl _ _) (Z3 _) (by rw[jF0];exact Z3 _) (λi y d t=>by
   rw[jA.get_put] at d
   split at d
   ·cases d;rw[L] at t;cases t
   ·exact d) (λj y D a _=>by
   obtain ⟨z,q,l⟩:=g j y D a
   exact .inl ⟨z,q,l,(f.obj j z q).1⟩) (λi c e cs hi C=>by
   rw[kK _ _ _ n,if_neg λN=>C (f.lent.tip i c e cs hi b x r u J N.symm).2.1])⟩,?_,?_⟩
 ·have P:=d
  rw[jA.get_put] at d
  split at d
  ·rename_i e;subst e;cases d;exact ⟨M,E⟩
  ·rename_i e
   refine ⟨(f.obj i y d).1,?_⟩
   cases a:owned y with
   | false=>exact dH0 a
   | true=>
    refine (f.obj i y d).2.ag (Ag.refl _ _) (Z3 _) f.gn (f.obj i y d).1 ?_
    rw[kK _ _ _ n,if_neg (s i y d a e)]
 ·obtain ⟨z,q,l⟩:=g i y d a
  exact f.base i z q l hi
 ·obtain ⟨T,F,v⟩:=g i y d a
  obtain ⟨R,I,A⟩:=g j z q l
  exact f.inj i j T R F v I A hi D e
 ·refine ⟨rfl,rfl,rfl,by rw[jF0];exact Z3 _,λk X=>?_⟩
  rw[kK _ _ _ n,if_neg Z0]
 ·intro i y d a hi
  rw[kK _ _ _ n,if_neg (s i y d a Z0)]
def Gam.ext (h:Gam)(n b k:Nat):Gam:={ b:=λi=>if i=n then b else h.b i,k:=λi=>if i=n then k else h.k i,s:=h.s,t:=h.t }
theorem Gam.ext_ag (h:Gam)(n b k:Nat):Ag h (h.ext n b k) n:=⟨λi hi=>by simp[Gam.ext];intro e;omega,λi hi=>by simp[Gam.ext];intro e;omega,rfl,rfl⟩
theorem Gam.ext_b (h:Gam)(n b k:Nat):(h.ext n b k).b n=b:=by simp[Gam.ext]
theorem Gam.ext_k (h:Gam)(n b k:Nat):(h.ext n b k).k n=k:=by simp[Gam.ext]
theorem jA.new_eq (h:jA)(x:qW):h.new x=(h.next,{ t:=h.t.put h.next x,next:=h.next+1,lo:=h.lo }):=by
 obtain ⟨t,n,lo⟩:=h
 cases n<;>rfl
theorem jA.put_eq (h:jA)(i:Nat)(x:qW):h.put i x={ t:=h.t.put i x,next:=h.next,lo:=h.lo }:=by
 obtain ⟨t,n,lo⟩:=h
 rfl
theorem qI.new {p:Par}{s:Gam}{h:jA}{w:Zw}(f:qI p s h w){x:qW}{o:Obj}{k:Nat}
  (D:OR p (s.ext h.next w.heap.size k) (h.next+1) (w.alloc o) h.next x) (E:notL x=true:=by rfl) :
  qI p (s.ext h.next w.heap.size k) (h.new x).2 (w.alloc o)∧Fr p s h w (w.alloc o):=by
 rw[jA.new_eq]
 have v:=s.ext_ag h.next w.heap.size k
 have l:∀ j,({ t:=h.t.put h.next x,next:=h.next+1,lo:=h.lo }:jA).get j=if j=h.next then some x else h.get j:=λj=>by
  simp only[jA.get]
  exact Tr.get_put h.t h.next x j
 have m:∀ i,i<w.heap.size→(w.alloc o).heap[i]?=w.heap[i]?:=λi hi=>Below.heap_alloc w o i hi
 have r:∀ i,i<p.G→i<h.next:=λi hi=>Nat.lt_of_lt_of_le hi f.gn
 have q:∀ i,i<h.next→(s.ext h.next w.heap.size k).b i=s.b i:=λi hi=>v.b i hi
 refine ⟨⟨fun i y a => ?_, fun i y a d hi => ?_, fun i j y z a d u C hi A e => ?_, fun g F => ?_, fun i y hi a d => ?_, f.lo, ?_, f.ng, ?_, f.gs, f.lent.step v (Nat.le_succ _) (by simp) (fun i y a B => by
   rw[l] at a
   split at a
   ·cases a;rw[E] at B;cases B
   ·exact a) (λj y A d _=>by
   rw[l] at A
   split at A
   ·rename_i e;subst e;exact .inr ⟨Z3 _,by rw[Gam.ext_b];exact Z3 _⟩
   ·exact .inl ⟨y,A,d,(f.obj j y A).1⟩) (λb c e cs q _=>m _ (f.lent.own b c e cs q).2.2.2.2.1)⟩,?_,?_⟩
 ·rw[l] at a
  split at a
  ·rename_i e;cases a;subst e;exact ⟨Nat.lt_succ_self _,D⟩
  ·have n:=(f.obj i y a).1
   refine ⟨Nat.lt_succ_of_lt n,?_⟩
   cases d:owned y with
   | false=>exact dH0 d
   | true=>
    exact (f.obj i y a).2.ag v (Nat.le_succ _) f.gn n (m _ (eV1 (f.obj i y a).2 d))
 ·rw[l] at a
  split at a
  ·rename_i e;subst e;rw[Gam.ext_b];exact f.size
  ·rw[q i (f.obj i y a).1];exact f.base i y a d hi
 ·rw[l] at a u
  split at a
  ·rename_i J
   split at u
   ·rename_i H;omega
   ·have n:=(f.obj j z u).1
    have:=eV1 (f.obj j z u).2 C
    rw[q j n] at e;subst J;rw[Gam.ext_b] at e;omega
  ·have n:=(f.obj i y a).1
   have I:=eV1 (f.obj i y a).2 d
   split at u
   ·rename_i H;subst H;rw[q i n,Gam.ext_b] at e;omega
   ·rw[q i n,q j (f.obj j z u).1] at e
    exact f.inj i j y z a d u C hi A e
 ·rw[q g (r g (Nat.lt_of_lt_of_le F f.ng.1))];exact f.gl g F
 ·rw[l] at a
  split at a
  ·rename_i e;have:=r i hi;omega
  ·rw[q i (r i hi)];exact f.low i y hi a d
 ·exact Nat.le_succ_of_le f.gn
 ·simp;have:=f.size;omega
 ·exact (Below.refl _ _).alloc f.size o
 ·intro i y a d _
  exact m _ (eV1 (f.obj i y a).2 d)
end Go.Ev
namespace Go.Ev
open Go Go.RowKit
theorem gM {h:jA}{i:Nat}{cs:List Z6}{e:Zt}{m:Zb}(a:cells h i=some (cs,e,m)):∃ fr0,h.get i=some ⟨.cells ⟨cs⟩ e fr0,m⟩:=by
 unfold cells at a
 split at a
 ·rename_i b g d f c;cases a;exact ⟨d,c⟩
 ·cases a
structure Row (p:Par)(Γ:Gam)(n:Nat)(w:Zw)(i:Nat)(cs:List Z6)(e:Zt)(m:Zb)(rest:List Z6)(fr:Nat×Nat):Prop where
 ok:∀ v∈cs,one v=true∧sc n v=true
 heap:w.heap[Γ.b i]?=some (.cells ⟨cs.map (con Γ)++rest⟩ e fr)
 fr:cs.length+rest.length≤fr.1∨fr.2=fr.1
 no:m=false→rest=[]
 more:m=true→∃ t,p.P.info? e=some t∧cs.length+rest.length=Γ.k i*t.size
theorem qI.row {p:Par}{d:Gam}{h:jA}{w:Zw}(r:qI p d h w){i:Nat}{cs:List Z6}{e:Zt}{m:Zb}(s:cells h i=some (cs,e,m))(o:p.G≤i) :
  i<h.next∧∃ a c,Row p d h.next w i cs e m a c:=by
 obtain ⟨fr0,k⟩:=gM s
 obtain ⟨b,f⟩:=r.obj i _ k
 simp only[OR] at f
 obtain ⟨g,a,c,q,l,n,j⟩:=f.1 o
 exact ⟨b,a,c,g,q,l,n,j⟩
theorem qI.cell {p:Par}{f:Gam}{h:jA}{w:Zw}(q:qI p f h w){i:Nat}{cs:List Z6}{e:Zt}{m:Zb}(x:cells h i=some (cs,e,m)){j:Nat}{v:Z6}(c:cs[j]?=some v)
  (l:p.G≤i∨sc p.G v=true):one v=true∧sc h.next v=true∧w.cell? ⟨f.b i,j,none⟩=some (con f v):=by
 obtain ⟨fr0,r⟩:=gM x
 obtain ⟨a,g⟩:=q.obj i _ r
 simp only[OR] at g
 by_cases n:p.G≤i
 ·obtain ⟨d,o,t,k,z,A,y⟩:=g.1 n
  obtain ⟨s,u⟩:=d v (List.mem_of_getElem? c)
  refine ⟨s,u,?_⟩
  rw[cell_of_row w _ j _ e t k]
  have a:j<cs.length:=(List.getElem?_eq_some_iff.1 c).1
  simp only[List.getElem?_toArray]
  rw[List.getElem?_append_left (by simpa using a)]
  simp[c]
 ·rcases l with h0|h0
  ·exact absurd h0 n
  ·obtain ⟨d,k⟩:=(g.2 Z0).2.2 j v (by simpa using c) h0
   exact ⟨d,kN q.gn v h0,k⟩
theorem qI.m_own {p:Par}{j:Gam}{h:jA}{w:Zw}(f:qI p j h w){i:Nat}{cs:List Z6}{e:Zt}(c:cells h i=some (cs,e,true)):p.G≤i:=by
 obtain ⟨fr0,d⟩:=gM c
 obtain ⟨b,a⟩:=f.obj i _ d
 simp only[OR] at a
 by_cases g:p.G≤i
 ·exact g
 ·have:=(a.2 Z0).1;cases this
theorem uD0 {cs l:List Z6}{off n:Nat}(h:takeN cs off n=some l):l.length=n∧off+n≤cs.length∧∀ j v,l[j]?=some v→cs[off+j]?=some v:=by
 obtain ⟨c,rfl⟩:=gH0 h
 refine ⟨by simp;omega,c,λj v a=>?_⟩
 rw[List.getElem?_take] at a
 split at a
 ·rwa [List.getElem?_drop] at a
 ·cases a
theorem lM1 {P:Z9}{w:Zw}{a:Addr}{l:List Z6}{n:Nat}(c:l.length=n)(h:∀ j v,l[j]?=some v→w.cell? (a.add j)=some v) :
  (loadCells a n).run P w=.ok ⟨l⟩ w:=by
 subst c;exact run_loadCells_list w a l h
theorem qI.load {p:Par}{d:Gam}{h:jA}{w:Zw}(r:qI p d h w){i:Nat}{cs:List Z6}{e:Zt}{m:Zb}(s:cells h i=some (cs,e,m))
  {off k:Nat} {l:List Z6} (o:takeN cs off k=some l) (f:p.G≤i∨∀ v∈l,sc p.G v=true) (P:Z9):(loadCells ⟨d.b i,off,none⟩ k).run P w=.ok ⟨l.map (con d)⟩ w:=by
 obtain ⟨q,g,n⟩:=uD0 o
 refine lM1 (by simpa using q) λj v a=>?_
 rw[List.getElem?_map] at a
 cases c:l[j]? with
 | none=>simp[c] at a
 | some u=>
  simp[c] at a
  subst a
  rw[addr_add]
  exact (r.cell s (n j u c) (f.imp id λh0=>h0 u (List.mem_of_getElem? c))).2.2
theorem seen_eq {p:Par}{f:Gam}{h:jA}{w:Zw}(e:qI p f h w){b:Nat}{v u:Z6}(a:seen h.lo b v=some u):u=v∧(p.G≤b∨sc p.G v=true):=by
 unfold seen at a
 rw[pX1,e.lo] at a
 cases c:Nat.ble p.G b with
 | true=>rw[c] at a;cases a;exact ⟨rfl,.inl (by simpa using c)⟩
 | false=>
  rw[c] at a
  cases d:sc p.G v with
  | true=>rw[d] at a;cases a;exact ⟨rfl,.inr rfl⟩
  | false=>rw[d] at a;cases a
theorem eW0 {p:Par}{g:Gam}{h:jA}{w:Zw}(f:qI p g h w){t:Zt}{a v:Z6}(c:qL p.P t a h=some v) :
  (Instr.loadAt t (con g a)).run p.P w=.ok (con g v) w:=by
 unfold qL at c
 split at c
 ·rename_i b off
  split at c
  ·rename_i cs e m j
   split at c
   ·rename_i i
    split at c
    ·rename_i n k
     split at c
     ·rename_i l r
      obtain ⟨rfl,d⟩:=seen_eq f c
      have:=f.load j r (d.imp id λh0 v o=>qJ h0 v o) p.P
      simp[con,bJ,Instr.loadAt,Instr.sureAddr,loadVar,zQ0 i,bF k,this,dQ]
     ·cases c
    ·cases c
   ·rename_i i
    split at c
    ·rename_i u q
     obtain ⟨rfl,d⟩:=seen_eq f c
     have:=(f.cell j q d).2.2
     simp[con,bJ,Instr.loadAt,Instr.sureAddr,loadVar,zQ0 i,this]
    ·cases c
   ·cases c
  ·cases c
 ·cases c
theorem fQ0 {p:Par}{d:Gam}{h:jA}{w:Zw}(L:qI p d h w){t:Zt}{a:Z8 Addr}{len cap:Nat}{lo hi mx:Z8 Z6}{v:Z6}
  (c:kT p.P t a len cap lo hi mx h=some v) :
  (Instr.sliceAt t (con d (.slice a len cap)) (lo.map (con d)) (hi.map (con d)) (mx.map (con d))).run p.P w=.ok (con d v) w:=by
 unfold kT at c
 split at c
 ·rename_i e b off hu
  split at c
  ·rename_i size cs e' y M
   split at c
   ·rename_i I
    simp only[Z5,Nat.beq_eq,Nat.ble_eq,Nat.blt_eq] at I
    obtain ⟨⟨⟨⟨⟨N,h2⟩,V⟩,X⟩,h5⟩,h6⟩:=I
    obtain ⟨hlt,K,fr,r⟩:=L.row M (L.m_own M)
    obtain ⟨Z,D,R⟩:=r.more rfl
    have F:Z.size=size:=by
     unfold szT at y;rw[← N,D] at y;simpa using y
    rw[F] at R
    have g:len≤d.k b-(cap-UC):=by
     have:(cap-UC+len)*size≤d.k b*size:=by
      rw[Nat.add_mul,← V];omega
     have:=Nat.le_of_mul_le_mul_right this X
     omega
    have i:¬ cap<UC:=Z0
    split at c
    ·rename_i l J m n
     have C:=wM0 (P:=p.P) (w:=w) d true n g
     have j:=qD0 n
     have x:∀ f,m=some f→f≤len:=λf z=>by
      rcases j.1 with ⟨_,h0⟩|⟨k,mm',_,h0,A⟩
      ·rw[h0] at z;cases z
      ·rw[h0] at z;cases z;exact A
     simp only[con,kX,if_neg i,Instr.sliceAt,Instr.slice,Sem.run_bind,qA hu,Result.andThen_ok,C,bF y,Sem.run_pure]
     ·cases m with
      | some f=>
       have hmm:=x f rfl
       have T:f<UC:=by have:=U_UC;omega
       simp only[Option.getD_some]
       dsimp only at c
       split at c
       ·rename_i s;simp only[Nat.beq_eq] at s;cases c
        have Y:=dF0
        simp[con,bJ,kX,s,Y]
       ·rename_i s
        have E:f≠l:=λe=>by rw[e] at s;simp at s
        cases c
        have h7:f-l<UC:=Z0
        simp only[if_neg E,Option.map_some,con,kX,wL0,addr_add,if_pos h7]
      | none=>
       dsimp only at c
       split at c<;>cases c
       rename_i o
       simp only[Nat.blt_eq] at o
       have B:¬ (d.k b-(cap-UC)=l):=Z0
       have H:¬ (cap+l<UC):=Z0
       have q:d.k b-(cap-UC)-l=d.k b-(cap+l-UC):=by
        generalize UC=u at h2 ⊢
        omega
       have E:con d (Value.slice (some ⟨b,off+l*size,none⟩) (J-l) (cap+l))=Value.slice (some ⟨d.b b,off+l*size,none⟩) (J-l) (d.k b-(cap-UC)-l):=by
        simp only[con,bJ,kX]
        rw[if_neg H,q]
       rw[addr_add,E,Option.getD_none,if_neg B,Option.map_some,bJ,addr_add]
    ·cases c
   ·cases c
  ·cases c
 ·cases c
theorem yX0:∀ {l:List Z6} {a:List Zu},bytesOf l=some a→∃ c:List Int,l=c.map (Value.int .u8)∧a=c.map λn=>UInt8.ofNat n.toNat
 | [],a,h=>by simp[bytesOf] at h;exact ⟨[],rfl,by simpa using h.symm⟩
 | .int .u8 n :: vs,a,h=>by
  simp only[bytesOf] at h
  split at h<;>cases h
  rename_i l d
  obtain ⟨c,b,e⟩:=yX0 d
  exact ⟨n :: c,by simp[b],by simp[e]⟩
 | .int .i8 _ :: _,_,h=>by simp[bytesOf] at h
 | .int .i16 _ :: _,_,h=>by simp[bytesOf] at h
 | .int .i32 _ :: _,_,h=>by simp[bytesOf] at h
 | .int .i64 _ :: _,_,h=>by simp[bytesOf] at h
 | .int .u16 _ :: _,_,h=>by simp[bytesOf] at h
 | .int .u32 _ :: _,_,h=>by simp[bytesOf] at h
 | .int .u64 _ :: _,_,h=>by simp[bytesOf] at h
 | .bool _ :: _,_,h=>by simp[bytesOf] at h
 | .float _ _ :: _,_,h=>by simp[bytesOf] at h
 | .complex _ _ _ :: _,_,h=>by simp[bytesOf] at h
 | .string _ :: _,_,h=>by simp[bytesOf] at h
 | .pointer _ :: _,_,h=>by simp[bytesOf] at h
 | .slice _ _ _ :: _,_,h=>by simp[bytesOf] at h
 | .map _ :: _,_,h=>by simp[bytesOf] at h
 | .chan _ :: _,_,h=>by simp[bytesOf] at h
 | .func _ _ _ :: _,_,h=>by simp[bytesOf] at h
 | .nilFunc :: _,_,h=>by simp[bytesOf] at h
 | .iface _ _ :: _,_,h=>by simp[bytesOf] at h
 | .nilIface :: _,_,h=>by simp[bytesOf] at h
 | .agg _ :: _,_,h=>by simp[bytesOf] at h
 | .tuple _ :: _,_,h=>by simp[bytesOf] at h
theorem yI0:∀ (h:List Int) (s:ByteArray),h.foldl (λr n=>r.push (UInt8.ofNat n.toNat)) s=⟨⟨s.data.toList++h.map λn=>UInt8.ofNat n.toNat⟩⟩
 | [],s=>by simp
 | n :: h,s=>by
  rw[List.foldl_cons,yI0 h]
  simp[ByteArray.push]
theorem bE1 {p:Par}{j:Gam}{h:jA}{w:Zw}(N:qI p j h w){tm:VT}{D:Act}{o:Oper}{v:Z6}(X:Tm j p.NG tm D)
  (H:o.op.operands.all (gA p.NG)=true) (f:kI0 p.P o tm h=some v) :
  (execOp D.eval o).run p.P w=.ok (.value (con j v)) w:=by
 have r:∀ x∈o.op.operands,D.eval x=con j (ev tm x):=λx B=>X.eval (by
  rw[Array.all_eq_true_iff_forall_mem] at H;exact H x B)
 unfold kI0 at f
 split at f
 ·rename_i t a q
  have B:=r a (by simp[q,Op.operands])
  simp only[execOp,q,B,Sem.run_bind,eW0 N f,Result.andThen_ok,Sem.run_pure]
 ·rename_i t x lo hi mx q
  have B:=r x (by simp[q,Op.operands])
  have L:lo.map D.eval=(lo.map (ev tm)).map (con j):=by
   cases lo with
   | none=>rfl
   | some y=>simp[r y (by simp[q,Op.operands])]
  have J:hi.map D.eval=(hi.map (ev tm)).map (con j):=by
   cases hi with
   | none=>rfl
   | some y=>simp[r y (by simp[q,Op.operands])]
  have M:mx.map D.eval=(mx.map (ev tm)).map (con j):=by
   cases mx with
   | none=>rfl
   | some y=>simp[r y (by simp[q,Op.operands])]
  split at f
  ·rename_i a n c i
   simp only[execOp,q,B,i,L,J,M,Sem.run_bind,fQ0 N f,Result.andThen_ok,Sem.run_pure]
  ·cases f
 ·rename_i s d x q
  have B:=r x (by simp[q,Op.operands])
  split at f
  ·rename_i e n c E F i
   split at f<;>cases f
   rename_i u
   simp only[execOp,q,B,i,con,Sem.run_bind]
   rw[run_convert_bytes_string w s d e _ _ _ E u F]
   simp[Conv.bytesToString]
  ·rename_i e a c E F i
   split at f<;>cases f
   rename_i u
   simp only[execOp,q,B,i,con,bJ,Sem.run_bind]
   rw[run_convert_bytes_string w s d e _ _ _ E u F]
   have z:(loadCells ⟨j.b a.block,a.off,a.spot⟩ 0).run p.P w=.ok (([]:List Int).map (Value.int .u8)).toArray w:=by
    simp[loadCells,loadCellsFrom]
   have A:=run_bytesToString w ⟨j.b a.block,a.off,a.spot⟩ 0 (kX j a.block c) [] z
   rw[A,yI0]
   rfl
  ·rename_i e g off n c V E F i
   split at f
   ·rename_i cs e' m u hc
    split at f
    ·rename_i l Y
     split at f<;>cases f
     rename_i bs K
     obtain ⟨I,R,Z⟩:=yX0 K
     have z:=N.load hc Y (.inr λv T=>by
      rw[R] at T
      obtain ⟨k,_,rfl⟩:=List.mem_map.1 T
      rfl) p.P
     rw[R] at z
     have C:(I.map (Value.int .u8)).map (con j)=I.map (Value.int .u8):=by
      rw[List.map_map];exact List.map_congr_left λn _=>rfl
     rw[C] at z
     have A:=run_bytesToString w ⟨j.b g,off,none⟩ n (kX j g c) I z
     simp only[execOp,q,B,i,con,bJ,Sem.run_bind]
     rw[run_convert_bytes_string w s d e _ _ _ E u F,A,yI0]
     simp[Z]
    ·cases f
   ·cases f
  ·cases f
 ·cases f
end Go.Ev
namespace Go.Ev
open Go Go.RowKit
def Out (p:Par)(d:Gam)(h:jA)(e:Act)(o:Oper)(w:Zw)(v:Z6)(b:jA):Prop:=
 ∃ a w' c,(execOp e.eval o).run p.P w=.ok c w'∧(c=.value (con a v)∨(c=.skip∧v=undef))∧Ag d a h.next∧h.next≤b.next∧qI p a b w'∧Fr p d h w w'
theorem jH0 {p:Par}{c:Gam}{h:jA}{w:Zw}(u:qI p c h w){e:Zt}{cs:List Z6}{more:Zb}{b:Nat}{r:jA}
  (m:mkRow h e cs more=some (b,r)) (a:List Z6) (k:Nat) (d:Nat×Nat) (s:cs.length+a.length≤d.1∨d.2=d.1) (q:more=false→a=[])
  (g:more=true→∃ t,p.P.info? e=some t∧cs.length+a.length=k*t.size) :
  b=h.next∧r.next=h.next+1∧Ag c (c.ext h.next w.heap.size k) h.next∧
  qI p (c.ext h.next w.heap.size k) r (w.alloc (.cells ⟨cs.map (con c)++a⟩ e d))∧Fr p c h w (w.alloc (.cells ⟨cs.map (con c)++a⟩ e d)):=by
 unfold mkRow at m
 split at m
 case h_2=>cases m
 rename_i n
 rw[jA.new_eq] at m
 cases m
 simp only[gO,Z5,List.all_eq_true] at n
 have j:=c.ext_ag h.next w.heap.size k
 have i:∀ v∈cs,one v=true∧sc h.next v=true:=λv f=>⟨n.1 v f,qJ n.2 v f⟩
 have l:cs.map (con (c.ext h.next w.heap.size k))=cs.map (con c):=List.map_congr_left λv f=>qC0 j v (i v f).2
 have:=qI.new (x:=⟨.cells ⟨cs⟩ e,more⟩) (o:=.cells ⟨cs.map (con c)++a⟩ e d) (k:=k) u (by
  simp only[OR]
  refine ⟨λ_=>⟨λv f=>⟨(i v f).1,kN (Nat.le_succ _) v (i v f).2⟩,a,d,?_,by simpa using s,q,?_⟩,λh0=>absurd h0 (Nat.not_lt.2 u.gn)⟩
  ·rw[Gam.ext_b,l];exact heap_alloc_new w _
  ·rw[Gam.ext_k];simpa using g)
 rw[jA.new_eq] at this
 exact ⟨rfl,rfl,j,this.1,this.2⟩
theorem zA0 (h:Gam)(n b k:Nat):con (h.ext n b k) (.pointer (some ⟨n,0,none⟩))=.pointer (some ⟨b,0,none⟩):=by
 simp[con,bJ,Gam.ext_b]
theorem mV0 (z:Array Z6):∀ n,((Array.range (n*z.size)).map (z[· % z.size]!)).toList=(List.replicate n z.toList).flatten:=by
 intro n
 induction n with
 | zero=>simp
 | succ n a=>
  have e:(n+1)*z.size=n*z.size+z.size:=by rw[Nat.add_mul];simp
  rw[e]
  simp only[Array.toList_map,Array.toList_range] at a ⊢
  rw[List.range_add,List.map_append,a,List.replicate_succ',List.flatten_append]
  congr 1
  simp only[List.map_map,List.flatten_singleton]
  apply List.ext_getElem
  ·simp
  ·intro i h c
   simp at h
   simp[Nat.add_comm,Nat.mod_eq_of_lt h,getElem!_pos z i h]
theorem tD0 {p:Par}{f:Gam}{h u:jA}{w:Zw}(B:qI p f h w){t:Zt}{a v:Z6}(j:lF0 p.P t a v h=some u) :
  ∃ w',(Instr.storeAt t (con f a) (con f v)).run p.P w=.ok () w'∧u.next=h.next∧qI p f u w'∧Fr p f h w w':=by
 unfold lF0 at j
 split at j
 ·rename_i b off
  split at j
  ·rename_i cs e m n H K
   split at j
   ·rename_i C
    simp only[gO,Z5,Nat.beq_eq,List.all_eq_true,Nat.ble_eq] at C
    obtain ⟨⟨I,F,N⟩,D⟩:=C
    split at j<;>cases j
    rename_i V i
    obtain ⟨q,rfl⟩:=pQ0 i
    obtain ⟨fr0,M⟩:=gM H
    have E:p.G≤b:=by rw[← B.lo];exact D
    obtain ⟨Y,d,s,c⟩:=B.row H E
    have r:=dJ p.P (f.b b) off e s (v.cells.toList.map (con f)) 0 (cs.map (con f)++d) w c.heap
     (by simpa using c.fr) (by simp at q ⊢;omega) (by
      intro x g
      simp only[List.mem_map] at g
      obtain ⟨y,J,rfl⟩:=g
      rw[sD0];exact F y J)
    have i:setFrom (cs.map (con f)++d) (off+0) (v.cells.toList.map (con f))=(setFrom cs off v.cells.toList).map (con f)++d:=by
     rw[wT0]
     simp only[setFrom,Nat.add_zero,List.length_map]
     rw[List.take_append_of_le_length (by simp at q ⊢;omega),List.drop_append_of_le_length (by simp at q ⊢;omega)]
     simp
    rw[i] at r
    have l:(setFrom cs off v.cells.toList).length=cs.length:=by
     simp only[setFrom,List.length_append,List.length_take,List.length_drop]
     omega
    have z:∀ x∈setFrom cs off v.cells.toList,one x=true∧sc h.next x=true:=by
     intro x g
     simp only[setFrom,List.mem_append] at g
     rcases g with (g|g)|g
     ·exact c.ok x (List.mem_of_mem_take g)
     ·exact ⟨F x g,qJ N x g⟩
     ·exact c.ok x (List.mem_of_mem_drop g)
    have k:=B.put (x':=⟨.cells ⟨setFrom cs off v.cells.toList⟩ e,m⟩) (o:=.cells ⟨(setFrom cs off v.cells.toList).map (con f)++d⟩ e s) M rfl D (by
     simp only[OR]
     refine ⟨λ_=>⟨z,d,s,?_,?_,c.no,λX=>?_⟩,λh0=>absurd h0 (Nat.not_lt.2 E)⟩
     ·rw[kK _ _ _ (Array.getElem?_eq_some_iff.1 c.heap).1];simp
     ·have:=c.fr;simpa[l] using this
     ·obtain ⟨R,L,T⟩:=c.more X
      exact ⟨R,L,by simpa[l] using T⟩)
    refine ⟨_,?_,rfl,k.1,k.2⟩
    have A:((con f v).cells.size≠n)=False:=by
     rw[kL0];simp[I]
    simp only[con,bJ,Instr.storeAt,Instr.sureAddr,storeVar,Sem.run_bind,Sem.run_pure,Result.andThen_ok,bF K,A,if_false]
    rw[kL0]
    simpa using r
   ·cases j
  ·cases j
 ·cases j
theorem gT2 {P:Z9}{w:Zw}{x:Z6}{m:Nat}(c:Gam)(h:lenV x=some m):(Builtin.lenOf (con c x)).run P w=.ok m w:=by
 unfold lenV at h
 split at h<;>cases h
 ·rename_i a _;cases a<;>simp[con,Builtin.lenOf]
 ·simp[con,Builtin.lenOf]
theorem yT0 {p:Par}{k:Gam}{h:jA}{w:Zw}(t:qI p k h w){size n:Nat}{x:Z6}{l:List Z6}(c:uZ size n x h=some l) :
  l.length=n*size∧(∀ v∈l,one v=true∧sc h.next v=true)∧∀ w',w'.heap=w.heap→(Builtin.firstCells size n (con k x)).run p.P w'=.ok ⟨l.map (con k)⟩ w':=by
 unfold uZ at c
 split at c
 ·rename_i a len cap
  split at c
  ·cases c
   refine ⟨by simp,(λv f=>by cases f),λw' _=>?_⟩
   cases a<;>simp[con,Builtin.firstCells,loadCells,loadCellsFrom]
  split at c
  case h_2=>cases c
  rename_i b off
  split at c
  ·rename_i cs e m z
   split at c
   ·rename_i y q
    have d:y=l∧(p.G≤b∨∀ v∈y,sc p.G v=true):=by
     rw[t.lo] at c
     cases g:Nat.ble p.G b with
     | true=>rw[g] at c;cases c;exact ⟨rfl,.inl (by simpa using g)⟩
     | false=>
      rw[g] at c
      cases i:gD p.G y with
      | true=>
       rw[i] at c;cases c
       simp only[gO,Z5] at i
       exact ⟨rfl,.inr λv f=>qJ i.2 v f⟩
      | false=>rw[i] at c;cases c
    obtain ⟨rfl,d⟩:=d
    refine ⟨(uD0 q).1,λv f=>?_,λw' C=>?_⟩
    ·obtain ⟨j,B⟩:=List.getElem?_of_mem f
     have:=t.cell z ((uD0 q).2.2 j v B) (d.imp id λh0=>h0 v f)
     exact ⟨this.1,this.2.1⟩
    ·have:=(t.of_heap C).load z q d p.P
     simpa[con,bJ,Builtin.firstCells] using this
   ·cases c
  ·cases c
 ·rename_i s
  split at c<;>cases c
  rename_i g
  simp only[Z5,Nat.beq_eq] at g
  obtain ⟨A,D⟩:=g
  subst A D
  have r:s.data.toList.length=s.size:=Array.length_toList
  refine ⟨by rw[List.length_map,r,Nat.mul_one],λv f=>(by obtain ⟨u,_,rfl⟩:=List.mem_map.1 f;exact ⟨rfl,rfl⟩),λw' _=>?_⟩
  simp only[con,Builtin.firstCells,Sem.run_pure]
  congr 1
  apply Array.ext'
  rw[List.map_map]
  simp only[Array.toList_map]
  have o:(s.extract 0 s.size).data.toList=s.data.toList:=by
   rw[ByteArray.data_extract]
   have:s.data.extract 0 s.size=s.data:=by
    rw[show s.size=s.data.size from rfl];exact Array.extract_size
   rw[this]
  rw[o]
  rfl
 ·cases c
theorem wO0 {P:Z9}{w:Zw}{l o ty e:Zt}{i:TypeInfo}{base:Z8 Addr}{n m cap:Nat}{x:Z6}{new:List Z6}{d:TypeDesc}
  (p:P.underlying l=some (.slice e)) (g:P.underlying o=some d) (j:∀ k,d≠.int k) (hi:P.info? e=some i) (b:(Builtin.lenOf x).run P w=.ok m w)
  (c:(Builtin.firstCells i.size m x).run P w=.ok ⟨new⟩ w) (f:n+m≤cap) {w':Zw}
  (h:(match base with|some a=>storeCells (a.add (n*i.size)) new|none=>pure ():Sem Unit).run P w=.ok () w') :
  (Builtin.append_ #[l,o] ty #[.slice base n cap,x]).run P w=.ok (.slice base (n+m) cap) w':=by
 have q:(d matches .int _)=false:=by cases d<;>first|rfl|exact absurd rfl (j _)
 simp only[Builtin.append_,List.getElem?_toArray,List.getElem?_cons_zero,List.getElem?_cons_succ,Sem.run_bind,qA p,Result.andThen_ok,sizeOf,typeInfo,run_program,hi,Sem.run_pure,
  qA g,Bool.false_eq_true,if_false,b,if_pos f,Bool.not_false,if_true,c]
 cases base with
 | none=>simp at h ⊢;exact h
 | some a=>simp at h;simp[h]
theorem cY0 {P:Z9}{w:Zw}{o q ty e:Zt}{i:TypeInfo}{z:Z6}{base:Z8 Addr}{n m cap:Nat}{x:Z6}{h new:List Z6}{g:TypeDesc}
  (u:P.underlying o=some (.slice e)) (j:P.underlying q=some g) (l:∀ k,g≠.int k) (hi:P.info? e=some i) (v:i.zero=some z) (f:(Builtin.lenOf x).run P w=.ok m w)
  (c:(Builtin.firstCells i.size n (.slice base n cap)).run P w.drew=.ok ⟨h⟩ w.drew)
  (a:(Builtin.firstCells i.size m x).run P w.drew=.ok ⟨new⟩ w.drew) (s:cap<n+m) (y:((n+m:Nat):Int)≤9223372036854775807)
  (p:Builtin.nextslicecap (n+m) cap*i.bytes≤281474976710656) :
  (Builtin.append_ #[o,q] ty #[.slice base n cap,x]).run P w=.ok (.slice (some ⟨w.heap.size,0,none⟩) (n+m) (grownCap w (n+m) cap e))
   (w.drew.alloc (.cells ⟨h++new++(Builtin.zeroCells z.cells (grownCap w (n+m) cap e-(n+m))).toList⟩ e)):=by
 have t:(g matches .int _)=false:=by cases g<;>first|rfl|exact absurd rfl (l _)
 have r:¬ (n+m≤cap):=Z0
 have b:¬ (((n+m:Nat):Int) > IntKind.i64.max):=by
  have:IntKind.i64.max=9223372036854775807:=by decide
  omega
 have d:¬ (Builtin.nextslicecap (n+m) cap*i.bytes > 2 ^ 48):=by
  have:(2:Nat) ^ 48=281474976710656:=by decide
  omega
 simp only[Builtin.append_,List.getElem?_toArray,List.getElem?_cons_zero,List.getElem?_cons_succ,Sem.run_bind,qA u,Result.andThen_ok,sizeOf,typeInfo,run_program,hi,Sem.run_pure,
  qA j,Bool.false_eq_true,if_false,f,if_neg r,b,false_and,d,Bool.not_false,if_true]
 simp only[run_choose,Question.forced,Bool.false_eq_true,if_false,Result.andThen_ok,run_askRoom,World.drew_eq,zeroValue,typeInfo,Sem.run_bind,run_program,hi,v,Sem.run_pure]
 rw[c]
 simp only[Result.andThen_ok]
 rw[a]
 simp only[Result.andThen_ok,newRow,Sem.run_bind,run_newObj,Sem.run_pure,World.alloc_eq]
 simp only[grownCap]
 congr 2
 congr 1
 apply Array.ext'
 simp
def dead:qW:=⟨.number ⟨0,0,none⟩ false,false⟩
theorem jN0 {h:jA}{b:Nat}{x' y:qW}(j:Nat) :
  ({ t:=(h.t.put h.next x').put b y,next:=h.next+1,lo:=h.lo }:jA).get j=if j=b then some y else if j=h.next then some x' else h.get j:=by
 simp only[jA.get]
 rw[Tr.get_put _ b y j,Tr.get_put h.t h.next x' j]
theorem qI.lend {p:Par}{r:Gam}{h:jA}{w:Zw}(q:qI p r h w){b:Nat}{x x':qW}{e:Zt}{cs:List Z6}(P:h.get b=some x)(ho:owned x=true)(hlo:h.lo≤b)(hcs:∀ v∈cs,one v=true∧sc h.next v=true)
  {o:Obj} (hOR:OR p (r.ext h.next (r.b b) (r.k b)) (h.next+1) (wset w (r.b b) o) h.next x') (hox:owned x'=true) :
  qI p (r.ext h.next (r.b b) (r.k b)) { t:=(h.t.put h.next x').put b (qO h.next e cs),next:=h.next+1,lo:=h.lo } (wset w (r.b b) o)∧Fr p r h w (wset w (r.b b) o):=by
 have hb:=(q.obj b x P).1
 have K:=eV1 (q.obj b x P).2 ho
 have hG:p.G≤b:=by rw[← q.lo];exact hlo
 have hB:p.B≤r.b b:=q.base b x P ho hG
 have E:=r.ext_ag h.next (r.b b) (r.k b)
 have J:∀ i y,h.get i=some y→owned y=true→i≠b→r.b i≠r.b b:=λi y n d hi e=>by
  by_cases hiG:p.G≤i
  ·exact hi (q.inj i b y x n d P ho hiG hG e)
  ·have:=q.low i y Z0 n d;omega
 have I:=λj=>jN0 (h:=h) (b:=b) (x':=x') (y:=qO h.next e cs) j
 have l:∀ i,i<h.next→(r.ext h.next (r.b b) (r.k b)).b i=r.b i:=λi hi=>E.b i hi
 have Z:owned (qO h.next e cs)=false:=rfl
 have hxL:notL x'=true:=by unfold owned at hox;unfold notL;split at hox<;>simp_all
 have m : ∀ i y, ({ t := (h.t.put h.next x').put b (qO h.next e cs), next := h.next + 1, lo := h.lo } : jA).get i = some y → owned y = true →
   (i=h.next∧y=x')∨(i≠h.next∧i≠b∧h.get i=some y∧i<h.next):=λi y n d=>by
  rw[I] at n
  split at n
  ·cases n;rw[Z] at d;cases d
  ·rename_i e
   split at n
   ·rename_i e2;cases n;exact .inl ⟨e2,rfl⟩
   ·rename_i e2;exact .inr ⟨e2,e,n,(q.obj i y n).1⟩
 have F : ∀ i c u f, ({ t := (h.t.put h.next x').put b (qO h.next e cs), next := h.next + 1, lo := h.lo } : jA).get i = some (qO c u f) →
   (i=b∧c=h.next∧f=cs)∨(i≠b∧h.get i=some (qO c u f)):=λi c u f n=>by
  rw[I] at n
  split at n
  ·rename_i R
   simp only[qO,Option.some.injEq,qW.mk.injEq,Obj.pending.injEq,Array.mk.injEq,List.cons.injEq,Value.pointer.injEq,Addr.mk.injEq,and_true,true_and] at n
   exact .inl ⟨R,n.1.1.symm,n.1.2.symm⟩
  ·rename_i R
   split at n
   ·cases n;exact absurd rfl (iD0 hxL _ _ _)
   ·exact .inr ⟨R,n⟩
 refine ⟨⟨λi y n=>?_,λi y n d hi=>?_,λi j y z n d V s hi hj e=>?_,λg hg=>?_,λi y hi n d=>?_,q.lo,Nat.le_succ_of_le q.gn,q.ng,by rw[jF0];exact q.size,q.gs,⟨λi c u f hi=>?_,λi c u f hi j y hj d hjG A=>?_,λa x1 R M ha i y u f hi hai A=>?_⟩⟩,?_,?_⟩
 ·cases d:owned y with
  | false=>
   refine ⟨?_,dH0 d⟩
   rw[I] at n
   split at n
   ·rename_i e;rw[e];exact Nat.lt_succ_of_lt hb
   ·split at n
    ·rename_i e;rw[e];exact Nat.lt_succ_self _
    ·exact Nat.lt_succ_of_lt (q.obj i y n).1
  | true=>
   rcases m i y n d with ⟨rfl,rfl⟩|⟨T,L,C,D⟩
   ·exact ⟨Nat.lt_succ_self _,hOR⟩
   ·refine ⟨Nat.lt_succ_of_lt D,(q.obj i y C).2.ag E (Nat.le_succ _) q.gn D ?_⟩
    rw[kK _ _ _ K,if_neg (J i y C d L)]
 ·rcases m i y n d with ⟨rfl,rfl⟩|⟨T,L,C,D⟩
  ·rw[Gam.ext_b];exact hB
  ·rw[l i D];exact q.base i y C d hi
 ·rcases m i y n d with ⟨rfl,rfl⟩|⟨T,L,C,D⟩
  ·rcases m j z V s with ⟨rfl,rfl⟩|⟨k1,k2,k3,k4⟩
   ·rfl
   ·rw[Gam.ext_b,l j k4] at e;exact absurd e.symm (J j z k3 s k2)
  ·rcases m j z V s with ⟨rfl,rfl⟩|⟨k1,k2,k3,k4⟩
   ·rw[Gam.ext_b,l i D] at e;exact absurd e (J i y C d L)
   ·rw[l i D,l j k4] at e;exact q.inj i j y z C d k3 s hi hj e
 ·rw[l g (by have:=q.ng;have:=q.gn;omega)];exact q.gl g hg
 ·rcases m i y n d with ⟨T,-⟩|⟨T,L,C,D⟩
  ·have:=q.gn;omega
  ·rw[l i D];exact q.low i y hi C d
 ·rcases F i c u f hi with ⟨rfl,rfl,rfl⟩|⟨hne',hi⟩
  ·rw[Gam.ext_b,Gam.ext_k,l i hb,E.k i hb]
   exact ⟨hG,hb,Nat.lt_succ_self _,hB,by rw[jF0];exact K,λv hv=>⟨(hcs v hv).1,kN (Nat.le_succ _) v (hcs v hv).2⟩,λ_=>rfl,λh=>absurd rfl h⟩
  ·obtain ⟨q1,q2,q3,q4,q5,q6,q7,q8⟩:=q.lent.own i c u f hi
   rw[l i Z0,l c q3,E.k c q3,E.k i Z0]
   refine ⟨q1,q2,Nat.lt_succ_of_lt q3,q4,by rw[jF0];exact q5,λv hv=>⟨(q6 v hv).1,kN (Nat.le_succ _) v (q6 v hv).2⟩,q7,λhn=>?_⟩
   obtain ⟨rest,fr,r1,N,X⟩:=q8 hn
   refine ⟨rest,fr,?_,N,X⟩
   rw[kK _ _ _ K,if_neg λA=>hn (q.lent.tip i c u f hi b x P ho hG A.symm).2.1,r1]
   have:f.map (con (r.ext h.next (r.b b) (r.k b)))=f.map (con r):=List.map_congr_left λv hv=>qC0 E v (q6 v hv).2
   rw[this]
 ·rcases F i c u f hi with ⟨rfl,rfl,rfl⟩|⟨hne',hi⟩
  ·rcases m j y hj d with ⟨rfl,-⟩|⟨T,L,C,D⟩
   ·exact ⟨Z3 _,A,λ_ _ _=>rfl⟩
   ·rw[l j D,l i hb] at A
    exact absurd A (J j y C d L)
  ·obtain ⟨q1,q2,q3,_⟩:=q.lent.own i c u f hi
   rw[l i Z0] at A ⊢
   rw[l c q3]
   have hcc:∀ z,({ t:=(h.t.put h.next x').put b (qO h.next e cs),next:=h.next+1,lo:=h.lo }:jA).get c=some z→owned z=true→c≠b∧h.get c=some z:=λz V s=>by
    rcases m c z V s with ⟨T,-⟩|⟨T,L,C,D⟩
    ·omega
    ·exact ⟨L,C⟩
   rcases m j y hj d with ⟨rfl,-⟩|⟨T,L,C,D⟩
   ·rw[Gam.ext_b] at A
    obtain ⟨r1,N,X⟩:=q.lent.tip i c u f hi b x P ho hG A
    refine ⟨Z0,N,λz V s=>?_⟩
    obtain ⟨k1,k2⟩:=hcc z V s
    exact absurd (X z k2 s).symm k1
   ·rw[l j D] at A
    obtain ⟨r1,N,X⟩:=q.lent.tip i c u f hi j y C d hjG A
    exact ⟨r1,N,λz V s=>X z (hcc z V s).2 s⟩
 ·have H : ∀ i c u f, ({ t := (h.t.put h.next x').put b (qO h.next e cs), next := h.next + 1, lo := h.lo } : jA).get i = some (qO c u f) → i < h.next := fun i c u f hi => by
   rcases F i c u f hi with ⟨rfl,_⟩|⟨_,hi⟩
   ·exact hb
   ·exact (q.obj i _ hi).1
  rw[l a (H _ _ _ _ ha),l i (H _ _ _ _ hi)] at A
  rw[l a (H _ _ _ _ ha)]
  rcases F a x1 R M ha with ⟨rfl,rfl,rfl⟩|⟨hna,Y⟩
  ·rcases F i y u f hi with ⟨rfl,_⟩|⟨hni,hi'⟩
   ·omega
   ·obtain ⟨r1,N,X⟩:=q.lent.tip i y u f hi' a x P ho hG A
    have:=(q.lent.own i y u f hi').2.1
    omega
  ·rw[l x1 (q.lent.own a x1 R M Y).2.2.1]
   rcases F i y u f hi with ⟨rfl,_⟩|⟨hni,hi'⟩
   ·obtain ⟨r1,N,X⟩:=q.lent.tip a x1 R M Y i x P ho hG A.symm
    exact ⟨N,r1⟩
   ·exact q.lent.two a x1 R M Y i y u f hi' hai A
 ·refine ⟨rfl,rfl,rfl,by rw[jF0];exact Z3 _,λk hk=>?_⟩
  rw[kK _ _ _ K,if_neg Z0]
 ·intro i y n d hi
  rw[kK _ _ _ K,if_neg (J i y n d Z0)]
theorem qI.lendTo {p:Par}{A:Gam}{h:jA}{w:Zw}(m:qI p A h w){b c:Nat}{e:Zt}{cs:List Z6}{fr0:Nat×Nat}(u:h.get b=some ⟨.cells ⟨cs⟩ e fr0,true⟩)(K:h.lo≤b)(P:b<c)(X:c<h.next)(o:A.b c≠A.b b) :
  qI p A (h.put b (qO c e cs)) w:=by
 have v:p.G≤b:=by rw[← m.lo];exact K
 have R:=(m.obj b _ u).1
 have B:=(m.obj b _ u).2
 simp only[OR] at B
 obtain ⟨ok,rest,fr,r1,r2,-,r4⟩:=B.1 v
 have N:A.b b<w.heap.size:=(Array.getElem?_eq_some_iff.1 r1).1
 have l:∀ i y,(h.put b (qO c e cs)).get i=some y→owned y=true→i≠b∧h.get i=some y:=λi y k f=>by
  rw[jA.get_put] at k
  split at k
  ·cases k;cases f
  ·rename_i o;exact ⟨o,k⟩
 have r:∀ i d n g,(h.put b (qO c e cs)).get i=some (qO d n g)→(i=b∧d=c∧n=e∧g=cs)∨(i≠b∧h.get i=some (qO d n g)):=λi d n g k=>by
  rw[jA.get_put] at k
  split at k
  ·rename_i E
   simp only[qO,Option.some.injEq,qW.mk.injEq,Obj.pending.injEq,Array.mk.injEq,List.cons.injEq,Value.pointer.injEq,Addr.mk.injEq,and_true,true_and] at k
   exact .inl ⟨E,k.1.1.symm,k.2.symm,k.1.2.symm⟩
  ·rename_i o;exact .inr ⟨o,k⟩
 refine ⟨λi y k=>?_,λi y k f hi=>m.base i y (l i y k f).2 f hi,λi j y z k f J q hi H e=>m.inj i j y z (l i y k f).2 f (l j z J q).2 q hi H e,
  m.gl,λi y hi k f=>m.low i y hi (l i y k f).2 f,m.lo,m.gn,m.ng,m.size,m.gs,⟨λi d n g hi=>?_,λi d n g hi j y H f D t=>?_,λa F E s V i y n g hi L t=>?_⟩⟩
 ·cases f:owned y with
  | false=>
   rw[jA.get_put] at k
   split at k
   ·rename_i e;subst e;exact ⟨R,dH0 f⟩
   ·exact ⟨(m.obj i y k).1,dH0 f⟩
  | true=>exact m.obj i y (l i y k f).2
 ·rcases r i d n g hi with ⟨rfl,rfl,rfl,rfl⟩|⟨_,hi⟩
  ·exact ⟨v,P,X,m.base i _ u rfl v,N,ok,λh=>absurd h o,λ_=>⟨rest,fr,r1,r2,r4 trivial⟩⟩
  ·exact m.lent.own i d n g hi
 ·obtain ⟨I,x⟩:=l j y H f
  rcases r i d n g hi with ⟨rfl,rfl,rfl,rfl⟩|⟨_,hi⟩
  ·exact absurd (m.inj j i y _ x f u rfl D v t) I
  ·obtain ⟨q1,q2,q3⟩:=m.lent.tip i d n g hi j y x f D t
   exact ⟨q1,q2,λz J q=>q3 z (l d z J q).2 q⟩
 ·rcases r a F E s V with ⟨rfl,rfl,rfl,rfl⟩|⟨T,C⟩
  ·rcases r i y n g hi with ⟨rfl,_⟩|⟨M,hi'⟩
   ·omega
   ·obtain ⟨q1,q2,q3⟩:=m.lent.tip i y n g hi' a _ u rfl v t
    have:=(m.lent.own i y n g hi').2.1
    omega
  ·rcases r i y n g hi with ⟨rfl,_⟩|⟨M,hi'⟩
   ·obtain ⟨q1,q2,q3⟩:=m.lent.tip a F E s C i _ u rfl v t.symm
    exact ⟨q2,q1⟩
   ·exact m.lent.two a F E s C i y n g hi' L t
theorem qI.back {p:Par}{x:Gam}{h:jA}{w:Zw}(r:qI p x h w){b c:Nat}{e:Zt}{cs ds:List Z6}{fr0:Nat×Nat}(Z:h.get b=some (qO c e cs))(hc:h.get c=some ⟨.cells ⟨cs++ds⟩ e fr0,true⟩) :
  qI p x ((h.put c dead).put b ⟨.cells ⟨cs⟩ e,true⟩) w:=by
 obtain ⟨q1,q2,q3,q4,q5,q6,q7,q8⟩:=r.lent.own b c e cs Z
 have M:p.G≤c:=Z0
 have u:∀ i,((h.put c dead).put b ⟨.cells ⟨cs⟩ e,true⟩).get i=if i=b then some ⟨.cells ⟨cs⟩ e,true⟩ else if i=c then some dead else h.get i:=λi=>by
  rw[jA.get_put,jA.get_put]
 have F:((h.put c dead).put b ⟨.cells ⟨cs⟩ e,true⟩).next=h.next:=by obtain ⟨t,n,lo⟩:=h;rfl
 have hlo:((h.put c dead).put b ⟨.cells ⟨cs⟩ e,true⟩).lo=h.lo:=by obtain ⟨t,n,lo⟩:=h;rfl
 have l:∀ i y,((h.put c dead).put b ⟨.cells ⟨cs⟩ e,true⟩).get i=some y→owned y=true→(i=b∧y=⟨.cells ⟨cs⟩ e,true⟩)∨(i≠b∧i≠c∧h.get i=some y):=λi y m f=>by
  rw[u] at m
  split at m
  ·rename_i C;cases m;exact .inl ⟨C,rfl⟩
  ·rename_i C
   split at m
   ·cases m;cases f
   ·rename_i e2;exact .inr ⟨C,e2,m⟩
 have B:∀ i d s g,((h.put c dead).put b ⟨.cells ⟨cs⟩ e,true⟩).get i=some (qO d s g)→i≠b∧i≠c∧h.get i=some (qO d s g):=λi d s g m=>by
  rw[u] at m
  split at m
  ·cases m
  ·rename_i C
   split at m
   ·cases m
   ·rename_i e2;exact ⟨C,e2,m⟩
 have N:=r.lent.tip b c e cs Z
 have A:∀ i y,h.get i=some y→owned y=true→p.G≤i→x.b i=x.b b→i=c:=λi y m f hi v=>(N i y m f hi v).2.2 _ hc rfl
 have R:∃ o E,w.heap[x.b b]?=some (.cells (cs.map (con x)++o).toArray e E)∧(cs.length+o.length≤E.1∨E.2=E.1)∧∃ t,p.P.info? e=some t∧cs.length+o.length=x.k b*t.size:=by
  by_cases hs:x.b c=x.b b
  ·have L:=(r.obj c _ hc).2
   simp only[OR] at L
   obtain ⟨ok,o,E,V,H,-,r4⟩:=L.1 M
   obtain ⟨t,r5,r6⟩:=r4 trivial
   refine ⟨ds.map (con x)++o,E,?_,?_,t,r5,?_⟩
   ·rw[← hs,V];simp
   ·simp only[List.size_toArray,List.length_append] at H
    simp only[List.length_append,List.length_map];omega
   ·rw[← q7 hs,← r6];simp;omega
  ·exact q8 hs
 refine ⟨λi y m=>?_,λi y m f hi=>?_,λi j y z m f J q hi X e=>?_,r.gl,λi y hi m f=>?_,by rw[hlo];exact r.lo,by rw[F];exact r.gn,r.ng,r.size,r.gs,⟨λi d s g hi=>?_,λi d s g hi j y X f K v=>?_,λa x1 C T ha i y s g hi hai v=>?_⟩⟩
 ·rw[F]
  cases f:owned y with
  | false=>
   rw[u] at m
   split at m
   ·cases m;cases f
   ·split at m
    ·rename_i e;subst e;exact ⟨q3,dH0 f⟩
    ·exact ⟨(r.obj i y m).1,dH0 f⟩
  | true=>
   rcases l i y m f with ⟨rfl,rfl⟩|⟨_,_,D⟩
   ·refine ⟨Z0,?_⟩
    obtain ⟨o,E,V,H,r3⟩:=R
    simp only[OR]
    exact ⟨λ_=>⟨q6,o,E,V,H,(λhm=>by cases hm),λ_=>r3⟩,λh0=>absurd h0 (Nat.not_lt.2 q1)⟩
   ·exact r.obj i y D
 ·rcases l i y m f with ⟨rfl,rfl⟩|⟨_,_,D⟩
  ·exact q4
  ·exact r.base i y D f hi
 ·rcases l i y m f with ⟨rfl,rfl⟩|⟨h1,h2,D⟩
  ·rcases l j z J q with ⟨rfl,rfl⟩|⟨k1,k2,I⟩
   ·rfl
   ·exact absurd (A j z I q X e.symm) k2
  ·rcases l j z J q with ⟨rfl,rfl⟩|⟨k1,k2,I⟩
   ·exact absurd (A i y D f hi e) h2
   ·exact r.inj i j y z D f I q hi X e
 ·rcases l i y m f with ⟨rfl,rfl⟩|⟨_,_,D⟩
  ·omega
  ·exact r.low i y hi D f
 ·rw[F]
  exact r.lent.own i d s g (B i d s g hi).2.2
 ·obtain ⟨n1,n2,hi'⟩:=B i d s g hi
  obtain ⟨p1,p2,p3,_⟩:=r.lent.own i d s g hi'
  rcases l j y X f with ⟨rfl,rfl⟩|⟨k1,k2,I⟩
  ·-- b is had again
   have hij:i<j:=by
    rcases Nat.lt_trichotomy i j with h|h|h
    ·exact h
    ·exact absurd h n1
    ·obtain ⟨Y,t2⟩:=r.lent.two j c e cs Z i d s g hi' h v
     have:=(r.lent.tip i d s g hi' c _ hc rfl M (by rw[Y,v])).1
     omega
   obtain ⟨Y,t2⟩:=r.lent.two i d s g hi' j c e cs Z hij v.symm
   refine ⟨t2,Y,λz J q=>?_⟩
   rcases l d z J q with ⟨rfl,_⟩|⟨_,m2,m3⟩
   ·rfl
   ·exact absurd (A d z m3 q Z0 (by rw[Y,v])) m2
  ·obtain ⟨V,H,r3⟩:=r.lent.tip i d s g hi' j y I f K v
   refine ⟨V,H,λz J q=>?_⟩
   rcases l d z J q with ⟨rfl,_⟩|⟨_,m2,m3⟩
   ·exact absurd (A j y I f K (by rw[v,← H])) k2
   ·exact r3 z m3 q
 ·exact r.lent.two a x1 C T (B a x1 C T ha).2.2 i y s g (B i y s g hi).2.2 hai v
end Go.Ev
namespace Go.Ev
open Go Go.RowKit
theorem oD0 {p:Par}{f:Gam}{h h':jA}{w:Zw}(D:qI p f h w){sT xT ty:Zt}{s x v:Z6}
  (l:bI p.P sT xT s x h=some (v,h')) :
  ∃ Γ' w',(Builtin.append_ #[sT,xT] ty #[con f s,con f x]).run p.P w=.ok (con Γ' v) w'∧Ag f Γ' h.next∧h.next≤h'.next∧qI p Γ' h' w'∧Fr p f h w w':=by
 unfold bI at l
 split at l
 ·rename_i e base n cap m hs hlen
  split at l
  ·cases l
  rename_i i Y
  have hi:p.P.info? e=some i∧∃ dx,p.P.underlying xT=some dx∧∀ k,dx≠.int k:=by
   split at Y
   ·cases Y
   ·cases Y
   ·rename_i dx hdx t
    exact ⟨Y,dx,t,λk e=>hdx k e⟩
  obtain ⟨hi,dx,t,E⟩:=hi
  dsimp only at l
  split at l
  ·cases l
  rename_i new hnew
  obtain ⟨hnl,hok0,I⟩:=yT0 D hnew
  have F:=gT2 (P:=p.P) (w:=w) f hlen
  have hU:=U_le
  split at l
  ·rename_i C
   simp only[Nat.blt_eq] at C
   have V:con f (.slice base n cap)=.slice (base.map (bJ f)) n cap:=by
    cases base with
    | none=>simp[con]
    | some a=>simp[con,kX,C]
   rw[V]
   split at l
   ·rename_i H
    simp only[Nat.ble_eq] at H
    split at l
    ·-- nil
     split at l<;>cases l
     refine ⟨f,w,?_,Ag.refl _ _,Z3 _,D,Fr.refl w⟩
     simp only[Option.map_none,con]
     exact wO0 (base:=none) hs t E hi F (I w rfl) H (by simp)
    ·rename_i b off sp
     split at l
     ·cases l
      have hn0:new=[]:=List.length_eq_zero_iff.1 (by simpa using hnl)
      subst hn0
      refine ⟨f,w,?_,Ag.refl _ _,Z3 _,D,Fr.refl w⟩
      have q:con f (.slice (some ⟨b,off,sp⟩) (n+0) cap)=.slice (some ⟨f.b b,off,sp⟩) (n+0) cap:=by simp[con,bJ,kX,C]
      rw[q]
      exact wO0 (base:=some ⟨f.b b,off,sp⟩) hs t E hi F (I w rfl) H (by simp[storeCells])
     split at l
     rotate_left
     ·cases l
     split at l
     ·rename_i cs e' mo hc
      split at l<;>cases l
      rename_i cs' u r
      simp only[Nat.ble_eq] at u
      obtain ⟨hle2,rfl⟩:=pQ0 r
      obtain ⟨fr0,hg⟩:=gM hc
      have hG:p.G≤b:=by rw[← D.lo];exact u
      obtain ⟨hlt,j,fr,d⟩:=D.row hc hG
      have A:=hok0
      have M:=dJ p.P (f.b b) (off+n*i.size) e' fr (new.map (con f)) 0 (cs.map (con f)++j) w d.heap
       (by simpa using d.fr) (by simp at hle2 ⊢;omega) (by
        intro y g
        simp only[List.mem_map] at g
        obtain ⟨z,hz,rfl⟩:=g
        rw[sD0];exact (A z hz).1)
      have r:setFrom (cs.map (con f)++j) (off+n*i.size+0) (new.map (con f))=(setFrom cs (off+n*i.size) new).map (con f)++j:=by
       rw[wT0]
       simp only[setFrom,Nat.add_zero,List.length_map]
       rw[List.take_append_of_le_length (by simp;omega),List.drop_append_of_le_length (by simp;omega)]
       simp
      rw[r] at M
      have N:(setFrom cs (off+n*i.size) new).length=cs.length:=by
       simp only[setFrom,List.length_append,List.length_take,List.length_drop]
       omega
      have Z:=D.put (x':=⟨.cells ⟨setFrom cs (off+n*i.size) new⟩ e',mo⟩) (o:=.cells ⟨(setFrom cs (off+n*i.size) new).map (con f)++j⟩ e' fr) hg rfl u (by
       simp only[OR]
       refine ⟨λ_=>⟨λy g=>?_,j,fr,?_,?_,d.no,λhm=>?_⟩,λh0=>absurd h0 (Nat.not_lt.2 hG)⟩
       ·simp only[setFrom,List.mem_append] at g
        rcases g with (g|g)|g
        ·exact d.ok y (List.mem_of_mem_take g)
        ·exact A y g
        ·exact d.ok y (List.mem_of_mem_drop g)
       ·rw[kK _ _ _ (Array.getElem?_eq_some_iff.1 d.heap).1];simp
       ·have:=d.fr;simpa[N] using this
       ·obtain ⟨J,h5,h6⟩:=d.more hm
        exact ⟨J,h5,by simpa[N] using h6⟩)
      refine ⟨f,_,?_,Ag.refl _ _,Z3 _,Z.1,Z.2⟩
      have q:∀ m:Nat,con f (.slice (some ⟨b,off,none⟩) (n+(m+1)) cap)=.slice (some ⟨f.b b,off,none⟩) (n+(m+1)) cap:=λm=>by simp[con,bJ,kX,C]
      rw[q]
      have hb0:(some (⟨b,off,none⟩:Addr)).map (bJ f)=some ⟨f.b b,off,none⟩:=rfl
      rw[hb0]
      refine wO0 (base:=some ⟨f.b b,off,none⟩) hs t E hi F (I w rfl) H ?_
      dsimp only;rw[addr_add];exact M
     ·cases l
   ·rename_i H
    have K:cap<n+m:=by
     have:Nat.ble (n+m) cap≠true:=by rw[H];simp
     simp only[ne_eq,Nat.ble_eq] at this;omega
    split at l
    ·rename_i old z hold hbnd hz
     simp only[Z5,Nat.ble_eq,Nat.blt_eq] at hbnd
     split at l
     ·rename_i X
      simp only[Z5,Nat.beq_eq,Nat.blt_eq] at X
      split at l<;>cases l
      rename_i b h'' hmk
      obtain ⟨hol,_,hor⟩:=yT0 D hold
      rw[V] at hor
      have hgr:=cY0 (ty:=ty) (base:=base.map (bJ f)) (n:=n) (cap:=cap) hs t E hi hz F (hor w.drew rfl) (I w.drew rfl) K Z0
       (growslice_fits K Z0)
      have hmr:=jH0 (D.of_heap (w':=w.drew) rfl) hmk (Builtin.zeroCells z.cells (grownCap w (n+m) cap e-(n+m))).toList (grownCap w (n+m) cap e) (0,0) (.inr rfl) (λhm=>by cases hm) (λ_=>⟨i,hi,by
       simp only[List.length_append,hol,hnl,Array.length_toList,size_zeroCells,X.1]
       have hge:=grownCap_ge w (n+m) cap e
       rw[← Nat.add_mul,← Nat.add_mul]
       congr 1
       omega⟩)
      obtain ⟨h1,h2,h3,h4,h5⟩:=hmr
      subst h1
      refine ⟨_,_,?_,h3,Z0,h4,⟨(Below.refl p.B w).drew.trans h5.below,h5.low⟩⟩
      rw[hgr]
      have q:con (f.ext h.next w.drew.heap.size (grownCap w (n+m) cap e)) (.slice (some ⟨h.next,0,none⟩) (n+m) UC)=.slice (some ⟨w.heap.size,0,none⟩) (n+m) (grownCap w (n+m) cap e):=by
       simp only[con,bJ,kX,Gam.ext_b,Gam.ext_k,Nat.lt_irrefl,if_false,Nat.sub_self,Nat.sub_zero]
       rfl
      rw[q,List.map_append]
     ·cases l
    ·cases l
  ·-- the tip of a row whose capacity is not known
   split at l
   ·rename_i b
    split at l
    ·rename_i cs e' hc
     split at l
     ·rename_i z hbb hz
      simp only[Z5,Nat.beq_eq,Nat.ble_eq,Nat.blt_eq] at hbb
      obtain ⟨⟨⟨⟨he',hcU⟩,u⟩,hcl⟩,hbnd⟩:=hbb
      have he2:=he'.symm;subst he2
      split at l<;>cases l
      rename_i hz2
      simp only[gO,Z5,Nat.beq_eq,Nat.blt_eq,List.all_eq_true] at hz2
      obtain ⟨⟨X,hz0⟩,T,hscn⟩:=hz2
      obtain ⟨fr0,hg⟩:=gM hc
      have hG:p.G≤b:=by rw[← D.lo];exact u
      obtain ⟨hlt,j,fr,d⟩:=D.row hc hG
      obtain ⟨J,hti,hk⟩:=d.more rfl
      have hti':J=i:=by rw[hi] at hti;exact (Option.some.inj hti).symm
      subst hti'
      have A:∀ y∈new,one y=true∧sc h.next y=true:=λy g=>⟨T y g,qJ hscn y g⟩
      have V:con f (.slice (some ⟨b,0,none⟩) n cap)=.slice (some ⟨f.b b,0,none⟩) n (f.k b):=by
       simp only[con,bJ,kX,hcU,Nat.lt_irrefl,if_false,Nat.sub_self,Nat.sub_zero]
      rw[V]
      by_cases R:n+m≤f.k b
      ·have hrl : new.length ≤ j.length := by
        have:(n+m)*J.size≤f.k b*J.size:=Nat.mul_le_mul_right _ R
        rw[Nat.add_mul] at this
        omega
       have M:=dJ p.P (f.b b) (n*J.size) e fr (new.map (con f)) 0 (cs.map (con f)++j) w d.heap
        (by simpa using d.fr) (by simp;omega) (by
         intro y g
         simp only[List.mem_map] at g
         obtain ⟨z,hz,rfl⟩:=g
         rw[sD0];exact T z hz)
       have r:setFrom (cs.map (con f)++j) (n*J.size+0) (new.map (con f))=(cs++new).map (con f)++j.drop new.length:=by
        simp only[setFrom,Nat.add_zero,List.length_map,List.map_append]
        rw[List.take_append_of_le_length (by simp;omega),List.take_of_length_le (by simp;omega)]
        rw[List.drop_append,List.drop_eq_nil_of_le (by simp;omega)]
        simp only[List.length_map,List.nil_append]
        congr 2
        omega
       rw[r] at M
       have hmap:(cs++new).map (con (f.ext h.next (f.b b) (f.k b)))=(cs++new).map (con f):=List.map_congr_left λy g=>qC0 (f.ext_ag _ _ _) y (by
        rcases List.mem_append.1 g with g|g
        ·exact (d.ok y g).2
        ·exact (A y g).2)
       have hre:=D.lend (x':=⟨.cells ⟨cs++new⟩ e,true⟩) (e:=e) (cs:=cs) (o:=.cells ⟨(cs++new).map (con f)++j.drop new.length⟩ e fr) hg rfl u d.ok (by
        simp only[OR]
        refine ⟨λ_=>⟨λy g=>?_,j.drop new.length,fr,?_,?_,λhm=>(by cases hm),λ_=>⟨J,hi,?_⟩⟩,λh0=>absurd h0 (Nat.not_lt.2 D.gn)⟩
        ·rcases List.mem_append.1 g with g|g
         ·exact ⟨(d.ok y g).1,kN (Nat.le_succ _) y (d.ok y g).2⟩
         ·exact ⟨(A y g).1,kN (Nat.le_succ _) y (A y g).2⟩
        ·rw[Gam.ext_b,hmap,kK _ _ _ (Array.getElem?_eq_some_iff.1 d.heap).1];simp
        ·have:=d.fr
         simp only[List.size_toArray,List.length_append,List.length_drop]
         omega
        ·rw[Gam.ext_k]
         simp only[List.size_toArray,List.length_append,List.length_drop]
         omega) rfl
       refine ⟨_,_,?_,f.ext_ag _ _ _,Nat.le_succ _,hre.1,hre.2⟩
       have q:con (f.ext h.next (f.b b) (f.k b)) (.slice (some ⟨h.next,0,none⟩) (n+m) UC)=.slice (some ⟨f.b b,0,none⟩) (n+m) (f.k b):=by
        simp only[con,bJ,kX,Gam.ext_b,Gam.ext_k,Nat.lt_irrefl,if_false,Nat.sub_self,Nat.sub_zero]
       rw[q]
       refine wO0 (base:=some ⟨f.b b,0,none⟩) hs t E hi F (I w rfl) R ?_
       dsimp only;rw[addr_add,Nat.zero_add];exact M
      ·have K:f.k b<n+m:=Z0
       have hol:(Builtin.firstCells J.size n (.slice (some ⟨f.b b,0,none⟩) n (f.k b))).run p.P w.drew=.ok ⟨cs.map (con f)⟩ w.drew:=by
        have htk:takeN cs 0 (n*J.size)=some cs:=mF0 cs hcl
        have:=(D.of_heap (w':=w.drew) rfl).load hc htk (.inl hG) p.P
        simpa[Builtin.firstCells] using this
       have hgr:=cY0 (ty:=ty) (base:=some ⟨f.b b,0,none⟩) (n:=n) (cap:=f.k b) hs t E hi hz F hol (I w.drew rfl) K Z0
        (growslice_fits K Z0)
       have hmk:mkRow h e (cs++new) true=some (h.next,(h.new ⟨.cells ⟨cs++new⟩ e,true⟩).2):=by
        unfold mkRow
        have h1:gD h.next (cs++new)=true:=by
         simp only[gO,Z5,List.all_eq_true]
         refine ⟨λy g=>?_,qK λy g=>?_⟩
         ·rcases List.mem_append.1 g with g|g
          ·exact (d.ok y g).1
          ·exact T y g
         ·rcases List.mem_append.1 g with g|g
          ·exact (d.ok y g).2
          ·exact (A y g).2
        rw[h1,jA.new_eq]
       have hmr:=jH0 (D.of_heap (w':=w.drew) rfl) hmk (Builtin.zeroCells z.cells (grownCap w (n+m) (f.k b) e-(n+m))).toList (grownCap w (n+m) (f.k b) e) (0,0) (.inr rfl) (λhm=>by cases hm) (λ_=>⟨J,hi,by
        simp only[List.length_append,hcl,hnl,Array.length_toList,size_zeroCells,X]
        have hge:=grownCap_ge w (n+m) (f.k b) e
        rw[← Nat.add_mul,← Nat.add_mul]
        congr 1
        omega⟩)
       obtain ⟨_,h2,h3,h4,h5⟩:=hmr
       have hbn:b≠h.next:=Z0
       have L:=h4.lendTo (b:=b) (c:=h.next) (e:=e) (cs:=cs) (fr0:=fr0) (by rw[jA.new_eq];simp only[jA.get];rw[Tr.get_put _ h.next _ b,if_neg hbn];exact hg) (by rw[jA.new_eq];exact u) hlt (by rw[jA.new_eq];exact Nat.lt_succ_self _)
        (by rw[Gam.ext_b,h3.b b hlt];have:=(Array.getElem?_eq_some_iff.1 d.heap).1;show w.heap.size≠_;omega)
       rw[jA.new_eq,jA.put_eq] at L
       refine ⟨_,_,?_,h3,Nat.le_succ _,L,⟨(Below.refl p.B w).drew.trans h5.below,h5.low⟩⟩
       rw[hgr]
       have q:con (f.ext h.next w.drew.heap.size (grownCap w (n+m) (f.k b) e)) (.slice (some ⟨h.next,0,none⟩) (n+m) UC)=.slice (some ⟨w.heap.size,0,none⟩) (n+m) (grownCap w (n+m) (f.k b) e):=by
        simp only[con,bJ,kX,Gam.ext_b,Gam.ext_k,Nat.lt_irrefl,if_false,Nat.sub_self,Nat.sub_zero]
        rfl
       rw[q,List.map_append]
     ·cases l
    ·cases l
   ·cases l
 ·cases l
end Go.Ev
namespace Go.Ev
open Go Go.RowKit
theorem flatten_len (z:List Z6)(n:Nat):(List.replicate n z).flatten.length=n*z.length:=by
 induction n with
 | zero=>simp
 | succ n h=>simp[List.replicate_succ,h,Nat.add_mul,Nat.add_comm]
theorem qQ0 (a:Gam){z:List Z6}(h:z.map (con a)=z)(n:Nat):((List.replicate n z).flatten).map (con a)=(List.replicate n z).flatten:=by
 induction n with
 | zero=>simp
 | succ n c=>simp only[List.replicate_succ,List.flatten_cons,List.map_append,h,c]
theorem bF1 {p:Par}{d:Gam}{h o:jA}{w:Zw}(K:qI p d h w){t:Zt}{l c v:Z6}(a:oB0 p.P t l c h=some (v,o)) :
  ∃ j w',(Instr.makeSlice t (con d l) (con d c)).run p.P w=.ok (con j v) w'∧Ag d j h.next∧h.next≤o.next∧qI p j o w'∧Fr p d h w w':=by
 have L:=U_le
 unfold oB0 at a
 split at a
 ·rename_i e kl l kc c D
  split at a
  ·rename_i i hi
   split at a
   ·rename_i z y E
    simp only[Z5,Nat.ble_eq,Nat.blt_eq] at y
    split at a
    ·rename_i k
     simp only[Z5,Nat.beq_eq,Nat.blt_eq] at k
     obtain ⟨⟨m,H⟩,s⟩:=k
     split at a<;>cases a
     rename_i b I q
     have r:(i.bytes:Int)*(c:Int)≤281474976710656:=by
      have:((i.bytes*c:Nat):Int)≤281474976710656:=by rw[Nat.mul_comm];omega
      rwa [Int.natCast_mul] at this
     have g:=run_make (P:=p.P) w t e i z D hi E kl kc (l:Int) (c:Int) (Int.natCast_nonneg _) Z0 r Z0
     obtain ⟨x,M,B,C,A⟩:=jH0 K q [] 0 (0,0) (.inr rfl) (λ_=>rfl) (λr=>by cases r)
     subst x
     refine ⟨_,_,?_,B,Z0,C,A⟩
     have n:z.cells.toList.map (con d)=z.cells.toList:=by rw[← dQ];exact dG d _ s
     have f:madeCells z.cells (c*i.size)=⟨((List.replicate c z.cells.toList).flatten).map (con d)++[]⟩:=by
      apply Array.ext'
      rw[qQ0 d n,List.append_nil]
      have:=mV0 z.cells c
      rw[m] at this
      simpa[madeCells,m] using this
     simp only[con] at g ⊢
     have J:Int.ofNat l=(l:Int):=rfl
     have F:Int.ofNat c=(c:Int):=rfl
     rw[J,F,g]
     have u:c<UC:=by have:=U_UC;omega
     simp only[bJ,kX,Gam.ext_b,if_pos u,Z4,f]
    ·cases a
   ·cases a
  ·cases a
 ·cases a
theorem dU0 {w:Zw}{g k:Nat}{c:Array Z6}{e:Zt}{h:Nat×Nat}(f:w.heap[g]?=some (.cells c e h)) :
  w.freeze ⟨g,k,none⟩ 1=wset w g (.cells c e (if h.1 == h.2 then (k,k+1) else (min h.1 k,max h.2 (k+1)))):=by
 obtain ⟨lo,hi⟩:=h
 simp only[World.freeze,if_neg (show ¬ (1:Nat)=0 by decide),wset]
 congr 1
 apply Array.ext_getElem?
 intro j
 rw[Array.getElem?_setIfInBounds,Array.getElem?_modify]
 have b:g<w.heap.size:=(Array.getElem?_eq_some_iff.1 f).1
 by_cases a:g=j
 ·subst a
  have d:w.heap[g]=.cells c e (lo,hi):=by
   have:=f;rw[Array.getElem?_eq_getElem b] at this;exact Option.some.inj this
  simp[b,d]
 ·simp[a]
theorem qI.of_get {p:Par}{n:Gam}{h e:jA}{w:Zw}(a:qI p n h w)(c:∀ i,e.get i=h.get i)(g:e.next=h.next)(q:e.lo=h.lo):qI p n e w:=
 ⟨λi x d=>by rw[g];exact a.obj i x (by rw[← c];exact d),λi x d=>a.base i x (by rw[← c];exact d),λi j x y d l f=>a.inj i j x y (by rw[← c];exact d) l (by rw[← c];exact f),
  a.gl,λi y hi f k=>a.low i y hi (by rw[← c];exact f) k,by rw[q];exact a.lo,by rw[g];exact a.gn,a.ng,a.size,a.gs,a.lent.step (Ag.refl _ _) (by rw[g];exact Z3 _) (Z3 _) (λb x o _=>by rw[← c];exact o) (λj y m l _=>.inl ⟨y,by rw[← c];exact m,l,(a.obj j y (by rw[← c];exact m)).1⟩) (λ_ _ _ _ _ _=>rfl)⟩
theorem gP2 {p:Par}{d:Gam}{h:jA}{w:Zw}(x:qI p d h w){g off:Nat}{spot:Z8 Nat}{cs:Array Z6}{e:Zt}{fr0:Nat×Nat}{m:Zb}(z:h.get g=some ⟨.cells cs e fr0,m⟩)(f:h.lo≤g) :
  ∃ w',(markStringish ⟨d.b g,off,spot⟩).run p.P w=.ok () w'∧qI p d h w'∧Fr p d h w w':=by
 have B:p.G≤g:=by rw[← x.lo];exact f
 have A:=(x.obj g _ z).2
 simp only[OR] at A
 obtain ⟨⟨C,a,c,s,j,E,D⟩,_⟩:=And.intro (A.1 B) trivial
 obtain ⟨n,y⟩:∃ n,n=cs.size+a.length:=⟨_,rfl⟩
 have v:w.shape? (d.b g)=some (e,n):=by
  unfold World.shape?;rw[s];simp[y]
 have t:=dU0 (k:=n) s
 obtain ⟨q,r⟩:=x.put z rfl f (x':=⟨.cells cs e fr0,m⟩) (o:=.cells (cs.toList.map (con d)++a).toArray e (if c.1 == c.2 then (n,n+1) else (min c.1 n,max c.2 (n+1)))) (by
  simp only[OR]
  refine ⟨λ_=>⟨C,a,(if c.1 == c.2 then (n,n+1) else (min c.1 n,max c.2 (n+1))),?_,?_,E,D⟩,λu=>absurd u (Nat.not_lt.2 B)⟩
  ·rw[kK _ _ _ (Array.getElem?_eq_some_iff.1 s).1,if_pos rfl]
  ·left
   split
   ·rw[y];exact Z3 _
   ·rename_i l
    rcases j with j|j
    ·show _≤min c.1 n
     omega
    ·exact absurd (by simp[j]) l)
 refine ⟨_,?_,q.of_get (λi=>by rw[jA.get_put];split<;>simp_all) rfl rfl,r⟩
 simp only[markStringish,Sem.run_bind,run_shape,v,Result.andThen_ok,run_freeze,t]
theorem rN1 {p:Par}{u:Gam}{h h':jA}{w:Zw}(M:qI p u h w){tm:VT}{ca:Act}{o:Oper}{v:Z6}(ht:Tm u p.NG tm ca)
  (hop:o.op.operands.all (gA p.NG)=true) (f:wY0 p.P o tm h=some (v,h')):Out p u h ca o w v h':=by
 have D:∀ x∈o.op.operands,ca.eval x=con u (ev tm x):=λx F=>ht.eval (by
  rw[Array.all_eq_true_iff_forall_mem] at hop;exact hop x F)
 unfold wY0 at f
 split at f
 ·-- alloc
  rename_i e q
  split at f
  ·rename_i z hz
   split at f
   ·rename_i hzf
    split at f<;>cases f
    rename_i b h'' I
    obtain ⟨K,Y,H,N,J⟩:=jH0 M I [] 0 (0,0) (.inr rfl) (λ_=>rfl) (λhm=>by cases hm)
    subst K
    refine ⟨_,_,_,?_,.inl rfl,H,Z0,N,J⟩
    have hzi:(zeroValue e).run p.P w=.ok z w:=by
     unfold zeroOf at hz
     split at hz
     ·rename_i i hi;simp[zeroValue,typeInfo,hi,hz]
     ·cases hz
    have hc:(⟨z.cells.toList.map (con u)++[]⟩:Array Z6)=z.cells:=by
     apply Array.ext';rw[List.append_nil,yM0 u hzf]
    rw[zA0,hc]
    simp only[execOp,q,Instr.alloc,Sem.run_bind,hzi,Result.andThen_ok,newVar,newRow,run_newObj,Sem.run_pure,World.alloc_eq]
   ·cases f
  ·cases f
 ·-- box
  rename_i e x q
  have F:=D x (by simp[q,Op.operands])
  split at f<;>cases f
  rename_i b h'' I
  obtain ⟨K,Y,H,N,J⟩:=jH0 M I [] 0 (0,0) (.inr rfl) (λ_=>rfl) (λhm=>by cases hm)
  subst K
  refine ⟨_,_,_,?_,.inl rfl,H,Z0,N,J⟩
  have hc:(⟨(ev tm x).cells.toList.map (con u)++[]⟩:Array Z6)=(con u (ev tm x)).cells:=by
   apply Array.ext';rw[List.append_nil,kL0];simp
  rw[zA0,hc]
  simp only[execOp,q,F,Instr.box,Sem.run_bind,Result.andThen_ok,newVar,newRow,run_newObj,Sem.run_pure,World.alloc_eq]
 ·-- buildSlice
  rename_i t len r q
  split at f
  ·rename_i e hs
   split at f
   ·rename_i i hi
    split at f
    ·rename_i z hb hz
     simp only[Nat.ble_eq] at hb
     split at f
     ·rename_i hzz
      simp only[Z5,Nat.beq_eq,Nat.blt_eq] at hzz
      obtain ⟨⟨hz1,hz2⟩,hzf⟩:=hzz
      split at f
      ·rename_i cs hcs
       split at f<;>cases f
       rename_i b h'' I
       obtain ⟨K,Y,H,N,J⟩:=jH0 M I [] 0 (0,0) (.inr rfl) (λ_=>rfl) (λhm=>by cases hm)
       subst K
       refine ⟨_,_,_,?_,.inl rfl,H,Z0,N,J⟩
       have hzm:z.cells.toList.map (con u)=z.cells.toList:=by rw[← dQ];exact dG u _ hzf
       have A:=cJ0 u _ _ _ _ hcs
       rw[qQ0 u hzm] at A
       have Z:(r.map λ(x:Nat×Zo)=>(x.1,ca.eval x.2)).toList=(r.toList.map λ(x:Nat×Zo)=>(x.1,ev tm x.2)).map λx=>(x.1,con u x.2):=by
        simp only[Array.toList_map,List.map_map]
        apply List.map_congr_left
        intro y hy
        simp only[Function.comp]
        rw[D y.2 (by
         simp only[q,Op.operands]
         simp only[List.mem_toArray,List.mem_map]
         exact ⟨y,hy,rfl⟩)]
       have hU:=U_le
       have hb':¬ (len*i.size > 2 ^ 24):=by
        have:(2:Nat) ^ 24=16777216:=by decide
        omega
       have hrow:=mV0 z.cells len
       rw[hz1] at hrow
       have hz0:(zeroValue e).run p.P w=.ok z w:=by simp[zeroValue,typeInfo,hi,hz]
       have hlen0:len≤16777216:=by
        have:len*1≤len*i.size:=Nat.mul_le_mul_left _ hz2
        omega
       have hlenU:len<UC:=by
        have:(16777216:Nat)<UC:=by unfold UC;decide
        omega
       have V:con (u.ext h.next w.heap.size 0) (.slice (some ⟨h.next,0,none⟩) len len)=.slice (some ⟨w.heap.size,0,none⟩) len len:=by
        simp only[con,bJ,kX,Gam.ext_b,if_pos hlenU]
       rw[V]
       simp only[execOp,q,Instr.buildSlice,Sem.run_bind,qA hs,Result.andThen_ok,sizeOf,typeInfo,run_program,hi,Sem.run_pure,if_neg hb']
       rw[show (r.map λ(i,x)=>(i,ca.eval x)).toList=(r.map λ(x:Nat×Zo)=>(x.1,ca.eval x.2)).toList from rfl,Z]
       rw[show (r.toList.map λ(x:Nat×Zo)=>(x.1,ev tm x.2))=(r.toList.map λ(i,x)=>(i,ev tm x)) from rfl]
       by_cases hl0:len*i.size=0
       ·have hlen : len = 0 := by
         rcases Nat.mul_eq_zero.1 hl0 with h0|h0
         ·exact h0
         ·omega
        subst hlen
        simp only[Nat.zero_mul,if_true,Sem.run_bind,Sem.run_pure,Result.andThen_ok] at A ⊢
        have hemp:((Array.range 0).map λ(x:Nat)=>(#[]:Array Z6)[x % (#[]:Array Z6).size]!)=⟨[]⟩:=by simp
        simp only[List.replicate_zero,List.flatten_nil] at A
        rw[hemp,A]
        simp[newRow]
       ·simp only[if_neg hl0,Sem.run_bind,hz0,Result.andThen_ok,Sem.run_pure]
        have X:((Array.range (len*i.size)).map λ(x:Nat)=>z.cells[x % z.cells.size]!)=⟨(List.replicate len z.cells.toList).flatten⟩:=by
         apply Array.ext'
         rw[hz1]
         exact hrow
        rw[X,A]
        simp[newRow]
      ·cases f
     ·cases f
    ·cases f
   ·cases f
  ·cases f
 ·-- store
  rename_i t a x q
  have ha:=D a (by simp[q,Op.operands])
  have F:=D x (by simp[q,Op.operands])
  split at f<;>cases f
  rename_i Y hst
  obtain ⟨w',H,N,J,h6⟩:=tD0 M hst
  refine ⟨u,w',.skip,?_,.inr ⟨rfl,rfl⟩,Ag.refl _ _,Z0,J,h6⟩
  simp only[execOp,q,ha,F,Sem.run_bind,H,Result.andThen_ok,Sem.run_pure]
 ·-- makeSlice
  rename_i t l c q
  have hl:=D l (by simp[q,Op.operands])
  have hc:=D c (by simp[q,Op.operands])
  obtain ⟨Γ',w',K,Y,H,N,J⟩:=bF1 M f
  refine ⟨Γ',w',_,?_,.inl rfl,Y,H,N,J⟩
  simp only[execOp,q,hl,hc,Sem.run_bind,K,Result.andThen_ok,Sem.run_pure]
 ·-- append
  rename_i args L q
  split at f
  ·rename_i sT xT s x hT hA
   have hT':L=#[sT,xT]:=Array.ext' hT
   have hA':args=#[s,x]:=Array.ext' hA
   subst hT' hA'
   have hs:=D s (by simp[q,Op.operands,Call.operands])
   have F:=D x (by simp[q,Op.operands,Call.operands])
   obtain ⟨Γ',w',K,Y,H,N,J⟩:=oD0 (ty:=o.type) M f
   refine ⟨Γ',w',_,?_,.inl rfl,Y,H,N,J⟩
   simp[execOp,q,resolve,invoke,builtin,hs,F,K]
  ·cases f
 ·-- range
  rename_i t x q
  have F:=D x (by simp[q,Op.operands])
  split at f
  ·rename_i s hu E
   rw[jA.new_eq] at f
   cases f
   have R:=M.new (x:=⟨.stringIter s 0,false⟩) (o:=.stringIter s 0) (k:=0) (by
    simp only[OR];rw[Gam.ext_b];exact heap_alloc_new w _)
   rw[jA.new_eq] at R
   refine ⟨_,_,_,?_,.inl rfl,u.ext_ag _ _ _,Nat.le_succ _,R.1,R.2⟩
   rw[zA0]
   simp[execOp,q,F,E,con,Instr.range,qA hu]
  ·cases f
 ·-- next
  rename_i it q
  have F:=D it (by simp[q,Op.operands])
  split at f
  ·rename_i b E
   split at f
   ·rename_i s pos hg hlo
    simp only[Nat.ble_eq] at hlo
    have hO:=(M.obj b _ hg).2
    simp only[OR] at hO
    have hlt:=(Array.getElem?_eq_some_iff.1 hO).1
    split at f
    ·rename_i T
     simp only[Nat.blt_eq] at T
     cases f
     have hput:=M.put (x':=⟨.stringIter s (pos+(Utf8.decode s pos).2),false⟩) (o:=.stringIter s (pos+(Utf8.decode s pos).2)) hg rfl hlo (by
      simp only[OR]
      rw[kK _ _ _ hlt];simp)
     refine ⟨u,_,_,?_,.inl rfl,Ag.refl _ _,Z3 _,hput.1,hput.2⟩
     simp[execOp,q,F,E,con,bJ,Instr.next,getObj,setObj,Sem.run,hO,T,goInt,conL,wset]
    ·rename_i T
     have hps':¬ pos<s.size:=by
      intro hlt2
      have:Nat.blt pos s.size=true:=by simpa using hlt2
      rw[this] at T;cases T
     cases f
     refine ⟨u,w,_,?_,.inl rfl,Ag.refl _ _,Z3 _,M,Fr.refl w⟩
     simp[execOp,q,F,E,con,bJ,Instr.next,getObj,Sem.run,hO,hps',conL]
   ·cases f
  ·cases f
 ·-- convert
  rename_i s d x q
  have F:=D x (by simp[q,Op.operands])
  split at f
  ·rename_i e m hs hd E
   split at f
   ·rename_i hu8 hsz
    split at f
    ·rename_i hbU
     simp only[Nat.blt_eq] at hbU
     split at f<;>cases f
     rename_i g h'' I
     obtain ⟨ti,hti,hts⟩:∃ ti,p.P.info? e=some ti∧ti.size=1:=by
      unfold szT at hsz
      split at hsz
      ·rename_i i hi;exact ⟨i,hi,by simpa using hsz⟩
      ·cases hsz
     have hge:=grownCap_ge w m.size 0 e
     have hbl:m.data.toList.length=m.size:=Array.length_toList
     obtain ⟨K,Y,H,N,J⟩:=jH0 (M.of_heap (w':=w.drew) rfl) I (List.replicate (grownCap w m.size 0 e-m.size) (.int .u8 0)) (grownCap w m.size 0 e)
      (grownCap w m.size 0 e,grownCap w m.size 0 e+1) (.inl (by simp[hbl];omega)) (λhm=>by cases hm) (λ_=>⟨ti,hti,by simp[hbl,hts];omega⟩)
     subst K
     refine ⟨_,_,_,?_,.inl rfl,H,Z0,N,⟨(Below.refl p.B w).drew.trans J.below,J.low⟩⟩
     have hmapc:(m.data.toList.map λx=>Value.int .u8 (x.toNat:Int)).map (con u)=m.data.toList.map λx=>Value.int .u8 (x.toNat:Int):=by
      rw[List.map_map];exact List.map_congr_left λ_ _=>rfl
     have V:con (u.ext h.next w.drew.heap.size (grownCap w m.size 0 e)) (.slice (some ⟨h.next,0,none⟩) m.size UC)=.slice (some ⟨w.heap.size,0,none⟩) m.size (grownCap w m.size 0 e):=by
      simp only[con,bJ,kX,Gam.ext_b,Gam.ext_k,Nat.lt_irrefl,if_false,Nat.sub_self,Nat.sub_zero]
      rfl
     rw[V,hmapc]
     obtain ⟨C,hC⟩:∃ C:List Z6,C=(m.data.toList.map λx=>Value.int .u8 (x.toNat:Int))++List.replicate (grownCap w m.size 0 e-m.size) (.int .u8 0):=⟨_,rfl⟩
     have hCl:C.length=grownCap w m.size 0 e:=by rw[hC];simp[hbl];omega
     have X:((m.data.map λb=>Value.int .u8 (b.toNat:Int))++Array.replicate (grownCap w m.size 0 e-m.size) (.int .u8 0):Array Z6)=⟨C⟩:=by
      apply Array.ext';rw[hC];simp
     rw[← hC]
     have hsh:(w.drew.alloc (.cells ⟨C⟩ e)).shape? w.heap.size=some (e,C.length):=by
      have:(w.drew.alloc (.cells ⟨C⟩ e)).heap[w.heap.size]?=some (.cells ⟨C⟩ e (0,0)):=heap_alloc_new w.drew _
      unfold World.shape?;rw[this];rfl
     have hfz:(w.drew.alloc (.cells ⟨C⟩ e)).freeze ⟨w.heap.size,C.length,none⟩ 1=w.drew.alloc (.cells ⟨C⟩ e (grownCap w m.size 0 e,grownCap w m.size 0 e+1)):=by
      simp only[World.freeze,World.alloc]
      rw[if_neg Z1]
      congr 1
      apply Array.ext_getElem?
      intro j
      rw[Array.getElem?_modify]
      by_cases ej:w.heap.size=j
      ·subst ej
       have e0:(w.drew.heap.push (Obj.cells ⟨C⟩ e))[w.heap.size]?=some (.cells ⟨C⟩ e (0,0)):=by
        rw[Array.getElem?_push];simp
       have e1:(w.drew.heap.push (Obj.cells ⟨C⟩ e (grownCap w m.size 0 e,grownCap w m.size 0 e+1)))[w.heap.size]?=some (.cells ⟨C⟩ e (grownCap w m.size 0 e,grownCap w m.size 0 e+1)):=by
        rw[Array.getElem?_push];simp
       rw[if_pos rfl,e0,e1]
       simp[hCl]
      ·rw[if_neg ej,Array.getElem?_push,Array.getElem?_push]
       simp[Ne.symm ej]
     simp only[execOp,q,F,E,con,convert,Sem.run_bind,qA hs,qA hd,qA hu8,Result.andThen_ok,Conv.stringToBytes,run_choose,Question.forced,Bool.false_eq_true,if_false,newRow,
      run_newObj,World.alloc_eq,Sem.run_pure,markStringish,run_shape,World.drew_eq]
     rw[show (Question.appendCap m.size 0 e).cut (w.tape w.drawn (.appendCap m.size 0 e))=grownCap w m.size 0 e from rfl,X]
     simp only[World.size_drew,hsh,run_freeze,Result.andThen_ok,hfz]
    ·cases f
   ·cases f
  ·rename_i e0 e g off spot n c hs hd E
   unfold iG0 at f
   split at f
   ·rename_i hu8 hsd hlo hgx
    cases f
    obtain ⟨w',K,Y,H⟩:=gP2 M (off:=off) (spot:=spot) hgx (by simpa using hlo)
    have hsd:s=d:=by simpa using hsd
    subst hsd
    have hee:e0=e:=by rw[hs] at hd;cases hd;rfl
    subst hee
    refine ⟨u,w',_,?_,.inl rfl,Ag.refl _ _,Z3 _,Y,H⟩
    have V:con u (.slice (some ⟨g,off,spot⟩) n c)=.slice (some ⟨u.b g,off,spot⟩) n (kX u g c):=rfl
    simp only[execOp,q,F,E,V,convert,Sem.run_bind,qA hs,qA hd,qA hu8,Result.andThen_ok,beq_self_eq_true,K,Sem.run_pure]
   ·cases f
  ·cases f
 ·cases f
end Go.Ev
namespace Go.Ev
open Go Go.RowKit
structure FW (F:Fence):Prop where
 wide:F.plain=Fence.wide
theorem FW.fn {F:Fence}(h:FW F)(f:FuncId):F.fn f:=by
 have:F.plain.fn f:=by rw[h.wide];trivial
 exact this
theorem FW.depth {F:Fence}(h:FW F):F.depth=none:=by
 have:F.plain.depth=none:=by rw[h.wide];rfl
 exact this
section
variable {F:Fence} {n:Nat} {P:Z9} {ops:Array Oper} {Q:Exit→Act→Zw→Prop} {md:Region.Mode}
def opW (F:Fence)(n:Nat)(P:Z9)(ops:Array Oper)(Q:Exit→Act→Zw→Prop)(i:Nat)(K:Act→Zw→Prop)(a:Act)(w:Zw):Prop:=
 match ops[i]? with
 | none=>K a w
 | some o=>if Region.wanted o (yielded ops a.tmps) then o.uponIn F n P a K Q ((execOp a.eval o).run P w) else K (a.put o.dst undef) w
def iE0 (ops:Array Oper):Prop:=∀ (j:Nat) (o:Oper) (c:Call),ops[j]?=some o→o.op≠.defer c
theorem eZ1 (e:FW F)(g:iE0 ops){i:Nat}{K:Act→Zw→Prop}{a:Act}{w:Zw}(h:opW F n P ops Q i K a w):wpOpIn F n P ops Q i K a w:=by
 unfold opW at h
 unfold wpOpIn
 split
 ·rename_i b;simp only[b] at h;exact h
 ·rename_i o b
  simp only[b] at h
  split
  ·rename_i d
   simp only[d,if_true] at h
   refine ⟨λf _=>e.fn f,?_⟩
   rw[Oper.semAt_eq _ _ _ (λc=>g i o c b)]
   exact h
  ·rename_i d
   simp only[d] at h
   exact ⟨λf _=>e.fn f,h⟩
theorem pE0 {o:Oper}{a:Act}{K f:Act→Zw→Prop}(h:∀ a w,K a w→f a w){r:Result Next}(c:o.uponIn F n P a K Q r):o.uponIn F n P a f Q r:=by
 cases r with
 | ok x w'=>
  cases x<;>simp only[Oper.uponIn] at c ⊢<;>
   first
    | exact h _ _ c
    | exact ⟨c.1,CallsIn.mono c.2 (λe d b=>by cases e<;>first | exact h _ _ b | exact b)⟩
    | exact ⟨c.1,RowsIn.mono c.2 (λ_ _ b=>h _ _ b)⟩
    | exact ⟨c.1,RoundIn.mono c.2 (λe d b=>by cases e<;>first | exact h _ _ b | exact b)⟩
 | halt x w'=>cases x<;>simp only[Oper.uponIn] at c ⊢<;>exact c
theorem gO0 {i:Nat}{a:Act}{w:Zw}{K e:Act→Zw→Prop}(h:∀ a w,K a w→e a w)(c:opW F n P ops Q i K a w):opW F n P ops Q i e a w:=by
 unfold opW at *
 split
 ·rename_i d;simp only[d] at c;exact h _ _ c
 ·rename_i o d
  simp only[d] at c
  split
  ·rename_i b;simp only[b,if_true] at c;exact pE0 h c
  ·rename_i b;simp only[b] at c;exact h _ _ c
variable {S:Nat→Zw→Prop} {T:Zw→Prop}
theorem YieldsIf.opW {i:Nat}{o:Oper}{v:Z6}{a:Act}(hi:ops[i]?=some o)(d:YieldsIf P ops T o v a)
  {K:Act→Zw→Prop} {w:Zw} (e:T w) (h:K (a.put o.dst v) w):opW F n P ops Q i K a w:=by
 unfold Ev.opW
 simp only[hi]
 rcases d with ⟨c,b⟩|⟨c,rfl⟩
 ·simp only[c,if_true,b w e,Oper.uponIn];exact h
 ·simp only[c,Bool.false_eq_true,if_false];exact h
theorem zV1 {i b:Oper}{v:Z6}{a:Act}{K:Act→Zw→Prop}(t:∀ d,i.dst=some d→b.dst≠some d)
  (k:∀ u,YieldsIf P ops T i v (a.put b.dst u))
  (o:∀ c a w,Q (.panic c) (a.put i.dst v) w→Q (.panic c) a w) {r:Result Next}
  (h:b.uponIn F n P (a.put i.dst v) K Q r):b.uponIn F n P a (λp w'=>YieldsIf P ops T i v p∧K (p.put i.dst v) w') Q r:=by
 have g:∀ u,(a.put b.dst u).put i.dst v=(a.put i.dst v).put b.dst u:=λu=>(Act.put_comm a v u t).symm
 cases r with
 | ok x w'=>
  cases x<;>simp only[Oper.uponIn] at h ⊢
  case value u=>exact ⟨k u,by rw[g];exact h⟩
  case skip=>exact ⟨k _,by rw[g];exact h⟩
  case defer d=>
   refine ⟨(k undef).of_same ?_ ?_,?_⟩
   ·cases b.dst<;>rfl
   ·cases b.dst<;>rfl
   ·have e:({ a with defers:=d :: a.defers }:Act).put b.dst undef={ a.put b.dst undef with defers:=d :: (a.put b.dst undef).defers }:=by cases b.dst<;>rfl
    have s:({ a.put b.dst undef with defers:=d :: (a.put b.dst undef).defers }:Act).put i.dst v={ (a.put b.dst undef).put i.dst v with defers:=d :: ((a.put b.dst undef).put i.dst v).defers }:=by cases i.dst<;>rfl
    rw[e,s,g]
    have q:({ a.put i.dst v with defers:=d :: (a.put i.dst v).defers }:Act).put b.dst undef={ (a.put i.dst v).put b.dst undef with defers:=d :: ((a.put i.dst v).put b.dst undef).defers }:=by cases b.dst<;>rfl
    rw[q] at h
    exact h
  case enter f args=>
   refine ⟨h.1,CallsIn.mono h.2 λe m j=>?_⟩
   cases e with
   | returned u=>exact ⟨k u,by rw[g];exact j⟩
   | panicked c=>exact o _ _ _ j
   | outgrown=>exact j
  case row row args=>exact ⟨h.1,RowsIn.mono h.2 λu m j=>⟨k u,by rw[g];exact j⟩⟩
  case round l f tmps as bd=>
   refine ⟨h.1,RoundIn.mono h.2 λe m j=>?_⟩
   cases e with
   | returned u=>exact ⟨k u,by rw[g];exact j⟩
   | panicked c=>exact o _ _ _ j
   | outgrown=>exact j
 | halt x w'=>
  cases x<;>simp only[Oper.uponIn] at h ⊢
  exact o _ _ _ h
theorem sT2 {j:Nat}{d e:Oper}{v:Z6}(s:ops[j]?=some e)(l:d.apart ops e=true)
  (i:∀ cs b,d.op≠.select cs b) (g:∀ cs b,e.op≠.select cs b)
  (t:∀ c a w,Q (.panic c) (a.put d.dst v) w→Q (.panic c) a w) {K:Act→Zw→Prop} {a:Act} {w:Zw}
  (r:YieldsIf P ops T d v a) (h:opW F n P ops Q j K (a.put d.dst v) w) :
  opW F n P ops Q j (λq w'=>YieldsIf P ops T d v q∧K (q.put d.dst v) w') a w:=by
 obtain ⟨m,p,o⟩:=Oper.apart_spec l
 have f:∀ u,YieldsIf P ops T d v (a.put e.dst u):=λu=>
  r.of_same (execOp_put d i a e.dst u o) (wanted_put d a e.dst u o)
 unfold opW at *
 simp only[s] at *
 rw[wanted_put e a d.dst v m] at h
 split
 ·rename_i k
  simp only[k,if_true] at h
  rw[execOp_put e g a d.dst v m] at h
  exact zV1 p f t h
 ·rename_i k
  simp only[k] at h
  exact ⟨f _,by rw[← Act.put_comm a v undef p];exact h⟩
end
end Go.Ev
namespace Go.Ev
open Go Go.RowKit
def zC0 (p:Par)(g:FuncId)(args:List Z6)(h:jA)(R:Z6→jA→Prop):Prop:=
 ∀ (d:Gam) (w:Zw),qI p d h w→(∀ x∈args,sc h.next x=true)→∀ (o:Oper) (F:Fence),FW F→∀ (n:Nat) (a:Act) (K:Act→Zw→Prop) (Q:Exit→Act→Zw→Prop),
  (∀ (v:Z6) (b:jA) (c:Gam) (w':Zw),R v b→Ag d c h.next→h.next≤b.next→Below p.B w w'→qI p c b w'→sc b.next v=true→K (a.put o.dst (con c v)) w')→
  o.uponIn F n p.P a K Q ((callFunc g ⟨args.map (con d)⟩).run p.P w)
theorem zC0.mono {p:Par}{g:FuncId}{args:List Z6}{h:jA}{R d:Z6→jA→Prop}(q:zC0 p g args h R)(k:∀ v c,R v c→d v c):zC0 p g args h d:=
 λe w m i o F l n a K Q j=>q e w m i o F l n a K Q λv c b w' f=>j v c b w' (k v c f)
def marks (h:Gam)(l:List Nat):List Deferred:=l.map λd=>{ target:=.collected (h.b d),args:=#[] }
theorem iF0 {c a:Gam}{n:Nat}(f:Ag c a n){l:List Nat}(h:∀ d∈l,d<n):marks a l=marks c l:=
 List.map_congr_left λd e=>by rw[f.b d (h d e)]
structure St (p:Par)(Γ:Gam)(s:S)(ca:Act)(w:Zw):Prop where
 tm:Tm Γ p.NG s.tm ca
 sc:∀ v∈s.tm.arr.toList,sc s.h.next v=true
 df:ca.defers=marks Γ s.df∧∀ d∈s.df,d<s.h.next
 hr:qI p Γ s.h w
def jK.con:jK→Exit
 | .normal=>.normal
 | .exit id=>.exit id
 | .goto l=>.goto l
 | .ret=>.ret
def start:Code→List Item
 | .loop b=>[.code b,.inLoop b]
 | c=>[.code c]
def qE2 (F:Fence)(n:Nat)(P:Z9)(c:Code)(Q:Exit→Act→Zw→Prop)(a:Act)(w:Zw):Prop:=
 ∀ (b:Frame) (k:List Item) (cs:List Frame),b.roundOf=F.round→F.fn b.fn→F.room (cs.length+1+n)→
  ∃ e h w',Q e h w'∧ArrivesIn (Machine.fenced P F) P (lone (b.atR a (start c++k)) cs w) b k cs e h w'
theorem cU {F:Fence}{n:Nat}{P:Z9}{c:Code}{Q:Exit→Act→Zw→Prop}{a:Act}{w:Zw}(h:qE2 F n P c Q a w):c.wpIn F n P Q a w:=by
 intro b k cs f g i
 obtain ⟨e,l,w',j,d⟩:=h b k cs f g i
 refine ⟨e,l,w',j,?_⟩
 cases c with
 | loop c=>exact .of_steps (.one (fenced_calm g i rfl) stepR_loop) d
 | _=>exact d
theorem cI {F:Fence}{n:Nat}{P:Z9}{c:Code}{Q:Exit→Act→Zw→Prop}{a:Act}{w:Zw}(m:∀ b,c≠.loop b)(h:c.wpIn F n P Q a w):qE2 F n P c Q a w:=by
 intro b k cs f g l
 obtain ⟨e,j,w',i,d⟩:=h b k cs f g l
 refine ⟨e,j,w',i,?_⟩
 cases c with
 | loop c=>exact absurd rfl (m c)
 | _=>exact d
theorem cU1 {F:Fence}{n:Nat}{P:Z9}{c:Code}{Q:Exit→Act→Zw→Prop}{a:Act}{w:Zw}
  (h:c.wpIn F n P (Exit.then (λu w'=>qE2 F n P (.loop c) Q u w') Q) a w):qE2 F n P (.loop c) Q a w:=by
 intro b k cs o s t
 obtain ⟨e,g,f,m,d⟩:=h b (.inLoop c :: k) cs o s t
 cases e with
 | normal=>
  obtain ⟨p,q,r,j,i⟩:=m b k cs o s t
  exact ⟨p,q,r,j,.of_steps (StepsIn.trans d (.one (fenced_calm s t rfl) stepR_inLoop)) i⟩
 | exit id=>exact ⟨_,g,f,m,.pass (x:=.inLoop c) rfl (λ_ _=>.inl (by simp)) d⟩
 | goto l=>exact ⟨_,g,f,m,.pass (x:=.inLoop c) rfl (λ_ _=>.inl (by simp)) d⟩
 | ret=>exact ⟨_,g,f,m,.pass (x:=.inLoop c) rfl (λ_ _=>.inl (by simp)) d⟩
 | panic v=>exact ⟨_,g,f,m,.pass (x:=.inLoop c) rfl (λ_ _=>.inl (by simp)) d⟩
 | outgrown=>exact ⟨_,g,f,m,.pass (x:=.inLoop c) rfl (λ_ _=>.inl (by simp)) d⟩
theorem pJ0 {P:Z9}{b:Frame}{a:Act}{k:List Item}{cs:List Frame}{w:Zw}{c:Code} :
  step P (lone (b.atR a (.code (.scope c) :: k)) cs w)=.next (lone (b.atR a (.code c :: .inScope c :: k)) cs w):=
 step_lone_go (by simp[stepG,stepG.exec,Frame.atR])
theorem fI0 {P:Z9}{b:Frame}{a:Act}{k:List Item}{cs:List Frame}{w:Zw}{c:Code} :
  step P (lone (b.atR a (.inScope c :: k)) cs w)=.next (lone (b.atR a k) cs w):=
 step_lone_go (by simp[stepG,stepG.exec,Frame.atR])
theorem zR1 {l:Gam}{NG:Nat}{tm:VT}{e:Act}(h:Tm l NG tm e)(c:Array Oper)(j:Nat):yielded c e.tmps j=yl c.toList tm j:=by
 unfold yielded yl
 rw[Array.getElem?_toList]
 cases n:c[j]? with
 | none=>simp
 | some o=>
  cases g:o.dst with
  | none=>simp[g]
  | some d=>
   simp only[g,Option.bind_some,h.tm,Array.getElem?_map]
   rw[← VT.arr_getD,Array.getD_eq_getD_getElem?]
   cases m:tm.arr[d]? with
   | none=>simp[undef]
   | some v=>
    cases v with
    | agg cs=>simp[uU0]
    | tuple cs=>simp[qB0]
    | func f a b=>simp[dP]
    | pointer a=>cases a<;>simp[con]
    | slice a _ _=>cases a<;>simp[con]
    | map a=>cases a<;>simp[con]
    | float k i=>cases k<;>simp[con]
    | _=>simp[con]
theorem gW0 {e:Gam}{NG:Nat}{tm:VT}{d:Act}(h:Tm e NG tm d)(a:Array Oper)(o:Oper) :
  Region.wanted o (yielded a d.tmps)=(wanted a.toList tm o).getD false:=by
 unfold Region.wanted wanted
 cases i:o.guard with
 | none=>simp
 | some g=>
  obtain ⟨j,b⟩:=g
  simp only[zR1 h]
  cases f:yl a.toList tm j with
  | none=>simp
  | some c=>cases b<;>cases c<;>simp
theorem Tm.put {i a:Gam}{NG n:Nat}{tm:VT}{j:Act}(h:Tm i NG tm j)(f:∀ v∈tm.arr.toList,sc n v=true)(k:Ag i a n)(m:NG≤n)(d:Z8 Tmp)(v:Z6) :
  Tm a NG (Ev.put tm d v) (j.put d (con a v)):=by
 have c:tm.arr.map (con a)=tm.arr.map (con i):=Array.map_congr_left λx l=>qC0 k x (f x (by simpa using l))
 refine ⟨?_,?_,λg e=>(k.b g Z0).trans (h.gl g e)⟩
 ·cases d with
  | none=>exact h.sm
  | some d=>simp only[Ev.put,VT.set_sz];exact h.sm
 ·cases d with
  | none=>simp only[Act.put,Ev.put,h.tm,c]
  | some d=>
   simp only[Act.put,Ev.put,h.tm,VT.arr_set _ h.sm,← c]
   simp
theorem zP0 {n m:Nat}{tm:VT}(e:tm.sz<U)(a:∀ v∈tm.arr.toList,sc n v=true)(b:n≤m)(d:Z8 Tmp){v:Z6}(f:sc m v=true) :
  ∀ x∈(put tm d v).arr.toList,sc m x=true:=by
 intro x c
 cases d with
 | none=>exact kN b x (a x c)
 | some d=>
  simp only[put,VT.arr_set _ e,Array.toList_setIfInBounds] at c
  rcases List.mem_or_eq_of_mem_set c with h|h
  ·exact kN b x (a x h)
  ·rw[h];exact f
end Go.Ev
namespace Go.Ev
open Go Go.RowKit
theorem lG0 {p:Par}{d:Gam}{h:jA}{w:Zw}(L:qI p d h w){fn:Func}{tm:VT}{e:Act}{v:Z6}(K:Tm d p.NG tm e)
  (o:qZ p.P fn tm h=some v):(results fn e.tmps).run p.P w=.ok (con d v) w:=by
 have g:∀ t,e.tmps.getD t undef=con d (tm.get t):=λt=>K.eval (x:=.tmp t) rfl
 have B : ∀ (f : List ResultVar) (l : List Z6), qZ.go p.P tm h f = some l →
   (f.mapM λr=>(match r with
    | .tmp t=>pure (e.tmps.getD t undef)
    | .cell a t=>do loadVar t (← asAddr (e.tmps.getD a undef)):Sem Z6)).run p.P w=.ok (l.map (con d)) w:=by
  intro f
  induction f with
  | nil=>intro l c;simp[qZ.go] at c;subst c;simp
  | cons r f H=>
   intro l c
   cases r with
   | tmp t=>
    simp only[qZ.go] at c
    split at c<;>cases c
    rename_i D i
    simp only[List.mapM_cons,Sem.run_bind,Sem.run_pure,Result.andThen_ok,H D i,List.map_cons]
    rw[g]
   | cell a t=>
    simp only[qZ.go] at c
    split at c<;>cases c
    rename_i E D m i
    have q:=eW0 L m
    have j:qL p.P t (tm.get a) h=some E:=m
    have k:∃ b off,tm.get a=.pointer (some ⟨b,off,none⟩):=by
     unfold qL at j
     split at j
     ·rename_i b off u;exact ⟨b,off,u⟩
     ·cases j
    obtain ⟨b,off,k⟩:=k
    have n:(loadVar t ⟨d.b b,off,none⟩).run p.P w=.ok (con d E) w:=by
     rw[k] at q
     simpa[con,bJ,Instr.loadAt,Instr.sureAddr] using q
    have C:e.tmps.getD a undef=.pointer (some ⟨d.b b,off,none⟩):=by rw[g,k];rfl
    have z:(asAddr (e.tmps.getD a undef)).run p.P w=.ok ⟨d.b b,off,none⟩ w:=by rw[C];rfl
    simp only[List.mapM_cons,Sem.run_bind,z,Sem.run_pure,Result.andThen_ok,n,H D i,List.map_cons]
 unfold qZ at o
 have J : ∀ l, qZ.go p.P tm h fn.results.toList = some l → (fn.results.mapM fun r => (match r with
    | .tmp t=>pure (e.tmps.getD t undef)
    | .cell a t=>do loadVar t (← asAddr (e.tmps.getD a undef)):Sem Z6)).run p.P w=.ok ⟨l.map (con d)⟩ w:=λl c=>by
  have I:=B _ _ c
  obtain ⟨f,y⟩:∃ f:List ResultVar,fn.results=⟨f⟩:=⟨fn.results.toList,rfl⟩
  rw[y] at I ⊢
  rw[List.mapM_toArray]
  simp only[Sem.run_map]
  rw[I]
  rfl
 split at o
 ·rename_i E c
  cases o
  have:=J _ c
  unfold results
  rw[Sem.run_bind]
  refine (congrArg (λr=>Result.andThen r _) this).trans ?_
  simp
 ·rename_i l s c
  cases o
  have:=J _ c
  unfold results
  rw[Sem.run_bind]
  refine (congrArg (λr=>Result.andThen r _) this).trans ?_
  simp only[Result.andThen_ok]
  have A:¬ ((⟨l.map (con d)⟩:Array Z6).size=1):=by
   intro F
   simp at F
   obtain ⟨x,k⟩:=List.length_eq_one_iff.1 F
   exact s x (by rw[k])
  simp only[dif_neg A,Sem.run_pure,qB0]
  simp
 ·cases o
theorem cN0 {p:Par}{fn:Func}{F:Fence}{n:Nat}{R:Ending→Zw→Prop}{tmps:Array Z6}{f:Gam}:∀ (ds:List Nat) (h e:jA) (w:Zw),qI p f h w→gQ ds h=some e→
  (∀ w',qI p f e w'→e.next=h.next→Below p.B w w'→LeavesInM F n p.P fn tmps R [] .returning w')→LeavesInM F n p.P fn tmps R (marks f ds) .returning w
 | [],h,e,w,hr,he,hk=>by
  simp only[gQ,Option.some.injEq] at he
  subst he
  exact hk w hr rfl (Below.refl _ _)
 | d :: ds,h,e,w,hr,he,hk=>by
  simp only[gQ] at he
  split at he
  ·rename_i m j
   split at he
   ·rename_i g
    simp only[Nat.ble_eq] at g
    have c:=(hr.obj d _ j).2
    simp only[OR] at c
    have a:=hr.put (x':=⟨.deferred none,false⟩) (o:=.deferred none) j rfl g (by
     simp only[OR]
     refine ⟨by simp,?_⟩
     rw[kK _ _ _ (Array.getElem?_eq_some_iff.1 c.2).1];simp)
    refine ⟨by simp,.inl ⟨f.b d,wset w (f.b d) (.deferred none),rfl,run_takeDeferred c.2,?_⟩⟩
    exact cN0 ds _ e _ a.1 he λw' i k l=>hk w' i k (a.2.below.trans l)
   ·cases he
  ·cases he
end Go.Ev
namespace Go.Ev
open Go Go.RowKit
def cW (a:Gam)(f:FuncId)(r:Loop):Loop:=
 { state:=r.state,pending:=r.pending,fn:=f,tmps:=r.tmps.map (con a),params:=r.params,assign:=r.assign,body:=r.body,defers:=a.b r.defers }
theorem bT {p:Par}{g:Gam}{h:jA}{w:Zw}(t:qI p g h w){l:Nat}{r:Loop}(c:qS h l=some r) :
  (∃ m,h.get l=some ⟨.loop r,m⟩)∧h.lo≤l∧l<h.next∧(∀ v∈r.tmps.toList,sc h.next v=true)∧r.defers<h.next∧uY p.NG r.assign=true∧uY p.NG r.body=true∧
   ∃ f,w.heap[g.b l]?=some (.loop (cW g f r)):=by
 unfold qS at c
 split at c
 ·rename_i u m a
  split at c<;>cases c
  rename_i e
  simp only[Nat.ble_eq] at e
  have i:=t.obj l _ a
  have d:=i.2
  simp only[OR] at d
  obtain ⟨j,s,n,q,f,k⟩:=d
  exact ⟨⟨m,a⟩,e,i.1,j,s,n,q,f,k⟩
 ·cases c
theorem uI0 {p:Par}{a:Gam}{h:jA}{w:Zw}(i:qI p a h w){l:Nat}{r:Loop}{f:FuncId}(k:qS h l=some r)(s:w.heap[a.b l]?=some (.loop (cW a f r)))(c:LoopState)(d:Z8 Code) :
  qI p a (jN h l { r with state:=c,pending:=d }) (w.putObj (a.b l) (.loop { cW a f r with state:=c,pending:=d }))∧
  Fr p a h w (w.putObj (a.b l) (.loop { cW a f r with state:=c,pending:=d }))∧(jN h l { r with state:=c,pending:=d }).next=h.next:=by
 obtain ⟨⟨m,e⟩,g,u,j,t,n,q,_⟩:=bT i k
 have:=i.put (x':=⟨.loop { r with state:=c,pending:=d },false⟩) (o:=.loop { cW a f r with state:=c,pending:=d }) e rfl g (by
  simp only[OR]
  refine ⟨j,t,n,q,f,?_⟩
  rw[kK _ _ _ (Array.getElem?_eq_some_iff.1 s).1]
  simp[cW])
 exact ⟨this.1,this.2,rfl⟩
theorem wS1 (c:Gam):∀ (a:List (Nat×Z6)) (tm:Array Z6),
  (a.map λx=>(x.1,con c x.2)).foldl (λtmps x=>tmps.setIfInBounds x.1 x.2) (tm.map (con c))=(a.foldl (λtmps x=>tmps.setIfInBounds x.1 x.2) tm).map (con c)
 | [],tm=>rfl
 | (t,v) :: a,tm=>by
  simp only[List.map_cons,List.foldl_cons]
  rw[← wS1 c a (tm.setIfInBounds t v)]
  congr 1
  simp
theorem rD1 {n:Nat}:∀ (c:List (Nat×Z6)) (tm:Array Z6),(∀ x∈c,sc n x.2=true)→(∀ x∈tm.toList,sc n x=true)→
  ∀ x∈(c.foldl (λtmps x=>tmps.setIfInBounds x.1 x.2) tm).toList,sc n x=true
 | [],tm,_,h=>h
 | (t,v) :: c,tm,hp,h=>by
  simp only[List.foldl_cons]
  refine rD1 c _ (λx a=>hp x (List.mem_cons_of_mem _ a)) λx a=>?_
  simp only[Array.toList_setIfInBounds] at a
  rcases List.mem_or_eq_of_mem_set a with a|a
  ·exact h x a
  ·rw[a];exact hp (t,v) (List.mem_cons_self ..)
theorem lY0 (c:Gam)(b:Array Tmp)(args tm:Array Z6) :
  (b.zip (args.map (con c))).foldl (λtmps (t,a)=>tmps.setIfInBounds t a) (tm.map (con c))=((b.zip args).foldl (λtmps (t,a)=>tmps.setIfInBounds t a) tm).map (con c):=by
 have h:(b.zip (args.map (con c))).toList=(b.zip args).toList.map λx=>(x.1,con c x.2):=by
  simp[Array.toList_zip,List.zip_map_right]
 rw[← Array.foldl_toList,← Array.foldl_toList,h]
 exact wS1 c _ tm
theorem pA0 {n:Nat}(b:Array Tmp){args tm:Array Z6}(d:∀ x∈args.toList,sc n x=true)(e:∀ x∈tm.toList,sc n x=true) :
  ∀ x∈((b.zip args).foldl (λtmps (t,a)=>tmps.setIfInBounds t a) tm).toList,sc n x=true:=by
 rw[← Array.foldl_toList]
 refine rD1 _ tm (λx c=>?_) e
 rw[Array.toList_zip] at c
 exact d _ (List.of_mem_zip c).2
theorem jS1 (a:Array Tmp)(args:List Z6):(a.zip (⟨args⟩:Array Z6)).toList=a.toList.zip args:=by simp[Array.toList_zip]
theorem fA0 (c:Gam)(b:Array Tmp)(args:List Z6){T:VT}{tm:Array Z6}(e:T.sz<U)(d:T.arr=tm) :
  (b.zip (⟨args.map (con c)⟩:Array Z6)).foldl (λtmps (t,a)=>tmps.setIfInBounds t a) (tm.map (con c))=(gI T (b.toList.zip args)).arr.map (con c):=by
 have h:=lY0 c b ⟨args⟩ tm
 rw[show ((⟨args⟩:Array Z6).map (con c))=⟨args.map (con c)⟩ by simp] at h
 rw[h,kU0 _ T e,d,← Array.foldl_toList,jS1]
theorem lX0 {n:Nat}(a:Array Tmp){args:List Z6}{T:VT}{tm:Array Z6}(c:T.sz<U)(b:T.arr=tm)(d:∀ x∈args,sc n x=true)(e:∀ x∈tm.toList,sc n x=true) :
  ∀ x∈(gI T (a.toList.zip args)).arr.toList,sc n x=true:=by
 have h:=pA0 (n:=n) a (args:=⟨args⟩) (tm:=tm) d e
 rw[← Array.foldl_toList,jS1] at h
 rw[kU0 _ T c,b]
 exact h
theorem bD1 {p:Par}{i:Gam}{h:jA}{w:Zw}(d:qI p i h w){tm:VT}(a:∀ x∈tm.arr.toList,sc h.next x=true){x:Zo}(c:gA p.NG x=true):sc h.next (ev tm x)=true:=by
 cases x with
 | tmp t=>
  have e:ev tm (.tmp t)=tm.get t:=rfl
  rw[e,← VT.arr_getD,Array.getD_eq_getD_getElem?]
  cases b:tm.arr[t]? with
  | none=>rfl
  | some y=>exact a y (by rw[← Array.getElem?_toList] at b;exact List.mem_of_getElem? b)
 | const y=>exact bO h.next y c
 | global g=>
  simp[gA] at c
  have e:ev tm (.global g)=.pointer (some ⟨g,0,none⟩):=rfl
  rw[e]
  have:=d.gn;have:=d.ng
  simp[sc,scA];omega
 | func f=>rfl
def RS (P:Z9)(X:Ext)(rec:Rec)(o:Oper)(tm:VT)(h:jA):Rz→Prop
 | .no=>True
 | .pure v=>cH P o tm=some v
 | .read v=>kI0 P o tm h=some v
 | .eff v c=>wY0 P o tm h=some (v,c)∨∃ f args a,o.op=.call ⟨.value f,args,a⟩∧callV P X rec (ev tm f) (args.toList.map (ev tm)) h=some (v,c)
section
variable {P:Z9} {X:Ext} {rec:Rec} {o:Oper} {tm:VT} {h:jA}
end
end Go.Ev
namespace Go.Ev
open Go Go.RowKit
theorem uL0 {NG:Nat}{o:Oper}(h:qP0 NG o=true):(∀ c,o.op≠.defer c)∧∀ cs b,o.op≠.select cs b:=by
 simp only[qP0,Z5] at h
 constructor
 ·intro c a;rw[a] at h;simp at h
 ·intro cs b a;rw[a] at h;simp at h
structure Next (p:Par)(Γ:Gam)(h:jA)(w:Zw)(tm':VT)(h':jA)(df:List Deferred)(Q:Act→Zw→Prop):Prop where
 go:∀ Γ' ca' w',Ag Γ Γ' h.next→h.next≤h'.next→Below p.B w w'→qI p Γ' h' w'→Tm Γ' p.NG tm' ca'→(∀ x∈tm'.arr.toList,sc h'.next x=true)→ca'.defers=df→Q ca' w'
theorem put_defers (a:Act)(d:Z8 Tmp)(v:Z6):(a.put d v).defers=a.defers:=by cases d<;>rfl
theorem dW0 {P:Z9}{c:Array Oper}{h:Array Zb}:∀ {is:List Nat} {i:Nat} {o:Oper},
  firstFree P c h is=some (i,o)→i∈is∧c[i]?=some o∧Region.free .any c h i=true∧tU2 P o=false:=by
 intro is
 induction is with
 | nil=>intro i o a;simp[firstFree] at a
 | cons j is e=>
  intro i o a
  simp only[firstFree] at a
  split at a
  ·rename_i l k
   split at a
   ·obtain ⟨b,d⟩:=e a
    exact ⟨List.mem_cons_of_mem _ b,d⟩
   ·rename_i f
    split at a
    ·rename_i g
     cases a
     exact ⟨List.mem_cons_self ..,k,g,f⟩
    ·obtain ⟨b,d⟩:=e a
     exact ⟨List.mem_cons_of_mem _ b,d⟩
  ·obtain ⟨b,d⟩:=e a
   exact ⟨List.mem_cons_of_mem _ b,d⟩
theorem St.df_ag {p:Par}{g c:Gam}{s:S}{f a:Act}{w:Zw}{m:Nat}(h:St p g s f w)(i:Ag g c s.h.next)(b:s.h.next≤m)(e:a.defers=f.defers) :
  a.defers=marks c s.df∧∀ d∈s.df,d<m:=
 ⟨by rw[e,h.df.1,iF0 i h.df.2],λd e=>Nat.lt_of_lt_of_le (h.df.2 d e) b⟩
theorem Tm.ag {d a:Gam}{NG n:Nat}{tm:VT}{b:Act}(h:Tm d NG tm b)(c:∀ v∈tm.arr.toList,sc n v=true)(f:Ag d a n)(e:NG≤n):Tm a NG tm b:=by
 exact h.put c f e none undef
theorem jA.new_next (h:jA)(x:qW):(h.new x).2.next=h.next+1:=by rw[jA.new_eq]
theorem tH0 {p:Par}{n:Gam}{s:S}{E:Act}{w:Zw}(e:St p n s E w){ro:Z8 Nat}{y:Array Tmp}{a b:Code}(K:uY p.NG a=true)(J:uY p.NG b=true){l:Nat}{mk:List Nat}{z:jA}
  (A:yJ0 ro s.tm y a b s.h=some (l,mk,z)) (fn:FuncId) :
  ∃ m I,(Instr.enterLoop fn E.tmps y a b (ro.map n.b)).run p.P w=.ok (m.b l,marks m mk) I∧Ag n m s.h.next∧s.h.next≤z.next∧qI p m z I∧Below p.B w I∧l<z.next∧∀ d∈mk,d<z.next:=by
 have t:=e.hr
 unfold yJ0 at A
 split at A
 ·rename_i T
  split at A<;>cases A
  rename_i r M
  obtain ⟨_,_,R,_,D,_,_,f,N⟩:=bT t M
  have g:=n.ext_ag s.h.next w.heap.size 0
  have q:=qI.new (x:=⟨.loop { state:=.ready,pending:=none,fn:=0,tmps:=s.tm.arr,params:=y,assign:=a,body:=b,defers:=r.defers },false⟩)
   (o:=.loop { state:=.ready,pending:=none,fn:=fn,tmps:=E.tmps,params:=y,assign:=a,body:=b,defers:=n.b r.defers }) (k:=0) t (by
    simp only[OR]
    refine ⟨λv F=>kN (Nat.le_succ _) v (e.sc v F),Nat.lt_succ_of_lt D,K,J,fn,?_⟩
    rw[Gam.ext_b,World.alloc_heap_new,g.b _ D,(e.tm.ag e.sc g (by have:=t.ng;have:=t.gn;omega)).tm])
  refine ⟨_,_,?_,g,by rw[jA.new_next];exact Nat.le_succ _,q.1,q.2.below,by rw[jA.new_next];exact Nat.lt_succ_self _,λd H=>by cases H⟩
  simp only[Option.map_some,Instr.enterLoop,Sem.run_bind,run_getLoop N,Result.andThen_ok,Sem.run_pure,run_newObj_alloc,Gam.ext_b,marks,List.map_nil]
  rfl
 ·cases A
  have C:=n.ext_ag s.h.next w.heap.size 0
  have j := qI.new (x := ⟨.deferred (some []), false⟩) (o := .deferred (some [])) (k := 0) t (by
    simp only[OR]
    exact ⟨by simp,by rw[Gam.ext_b,World.alloc_heap_new]⟩)
  have i:=(n.ext s.h.next w.heap.size 0).ext_ag (s.h.next+1) (w.alloc (.deferred (some []))).heap.size 0
  have g:Ag n ((n.ext s.h.next w.heap.size 0).ext (s.h.next+1) (w.alloc (.deferred (some []))).heap.size 0) s.h.next:=C.trans i (Nat.le_succ _)
  have u:(s.h.new ⟨.deferred (some []),false⟩).2.next=s.h.next+1:=jA.new_next _ _
  have c:=qI.new (x:=⟨.loop { state:=.ready,pending:=none,fn:=0,tmps:=s.tm.arr,params:=y,assign:=a,body:=b,defers:=s.h.next },false⟩)
   (o:=.loop { state:=.ready,pending:=none,fn:=fn,tmps:=E.tmps,params:=y,assign:=a,body:=b,defers:=w.heap.size }) (k:=0) j.1 (by
    simp only[OR]
    refine ⟨λv F=>kN (by rw[u];omega) v (e.sc v F),by rw[u];omega,K,J,fn,?_⟩
    rw[u,Gam.ext_b,World.alloc_heap_new,(e.tm.ag e.sc g (by have:=t.ng;have:=t.gn;omega)).tm,i.b _ (Nat.lt_succ_self _),Gam.ext_b])
  rw[u] at c
  refine ⟨_,_,?_,g,by rw[jA.new_next,u];omega,c.1,j.2.below.trans c.2.below,by rw[jA.new_next,u];omega,λd H=>?_⟩
  ·rw[Option.map_none,run_enterLoop_outer]
   have L:=i.b s.h.next (Nat.lt_succ_self _)
   rw[Gam.ext_b] at L
   rw[Gam.ext_b,marks,List.map_cons,List.map_nil,L,World.size_alloc]
  ·have:d=s.h.next:=by simpa using H
   subst this
   rw[jA.new_next,u]
   omega
def kD0 (F:Fence)(n:Nat)(P:Z9)(c:Code)(Q:Exit→Act→Zw→Prop)(h:Code)(a:Act)(w:Zw):Prop:=
 ∀ (b:Frame) (k:List Item) (cs:List Frame),b.roundOf=F.round→F.fn b.fn→F.room (cs.length+1+n)→
  ∃ e d w',Q e d w'∧ArrivesIn (Machine.fenced P F) P (lone (b.atR a (.code h :: .inScope c :: k)) cs w) b k cs e d w'
def zO0 (F:Fence)(n:Nat)(P:Z9)(c:Code)(Q:Exit→Act→Zw→Prop):Exit→Act→Zw→Prop
 | .goto l,a,w=>match findLabel c l with
  | some r=>kD0 F n P c Q r a w
  | none=>Q (.goto l) a w
 | e,a,w=>Q e a w
theorem sW0 {F:Fence}{n:Nat}{P:Z9}{c m:Code}{Q:Exit→Act→Zw→Prop}{a:Act}{w:Zw}(h:m.wpIn F n P (zO0 F n P c Q) a w):kD0 F n P c Q m a w:=by
 intro b k cs s y A
 obtain ⟨e,g,f,i,d⟩:=h b (.inScope c :: k) cs s y A
 cases e with
 | normal=>exact ⟨.normal,g,f,i,StepsIn.trans d (.one (fenced_calm y A rfl) fI0)⟩
 | exit id=>exact ⟨.exit id,g,f,i,λz o=>d.1 z (by simpa[exitTo] using o),λq o=>d.2 q (by simpa[exitTo] using o)⟩
 | goto l=>
  simp only[zO0] at i
  cases x:findLabel c l with
  | some r=>
   rw[x] at i
   have i:kD0 F n P c Q r g f:=i
   obtain ⟨t,u,v,p,j⟩:=i b k cs s y A
   exact ⟨t,u,v,p,.of_steps (d.1 _ (by simp[gotoIn,x])) j⟩
  | none=>
   rw[x] at i
   exact ⟨.goto l,g,f,i,λz o=>d.1 z (by simp[gotoIn,x,o]),λq o=>d.2 q (by simp[gotoIn,x,o])⟩
 | ret=>exact ⟨_,g,f,i,d⟩
 | panic B=>exact ⟨_,g,f,i,d⟩
 | outgrown=>exact ⟨_,g,f,i,d⟩
theorem pB0 {F:Fence}{n:Nat}{P:Z9}{c:Code}{Q:Exit→Act→Zw→Prop}{a:Act}{w:Zw}(h:kD0 F n P c Q c a w):(Code.scope c).wpIn F n P Q a w:=by
 intro b k cs i j l
 obtain ⟨e,f,d,m,g⟩:=h b k cs i j l
 exact ⟨e,f,d,m,.of_steps (.one (fenced_calm j l rfl) pJ0) g⟩
theorem jA0 {NG:Nat}:∀ {c:Code} {l:Nat} {r:Code},uY NG c=true→findLabel c l=some r→uY NG r=true
 | .seq a b,l,r,h,hf=>by
  simp only[uY,Z5] at h
  simp only[findLabel] at hf
  cases d:findLabel a l with
  | some e=>
   rw[d] at hf
   cases hf
   simp only[uY,Z5]
   exact ⟨jA0 h.1 d,h.2⟩
  | none=>rw[d] at hf;exact jA0 h.2 hf
 | .label l',l,r,_,hf=>by
  simp only[findLabel] at hf
  split at hf<;>cases hf
  rfl
 | .skip,_,_,_,hf=>by cases hf
 | .region _ _ _,_,_,_,hf=>by cases hf
 | .cond _ _ _,_,_,_,hf=>by cases hf
 | .block _ _,_,_,_,hf=>by cases hf
 | .loop _,_,_,_,hf=>by cases hf
 | .rangeFunc _ _ _ _,_,_,_,hf=>by cases hf
 | .exit _,_,_,_,hf=>by cases hf
 | .scope _,_,_,_,hf=>by cases hf
 | .goto _,_,_,_,hf=>by cases hf
 | .ret,_,_,_,hf=>by cases hf
 | .refuse _,_,_,_,hf=>by cases hf
end Go.Ev
namespace Go.Ev
open Go Go.RowKit
def h0:jA:={ t:=.nil,next:=0,lo:=0 }
theorem kF0:∀ {l:List Z6},qB l=true→∀ v∈l,flat v=true
 | [],_,v,a=>by cases a
 | x :: xs,h,v,a=>by
  simp only[qB,Z5] at h
  cases a with
  | head=>exact h.1
  | tail _ a=>exact kF0 h.2 v a
end Go.Ev
namespace Go.Ev
open Go Go.RowKit
theorem uH0 {n k:Nat}{a:Addr}(h:sc n (.pointer (some a))=true):sc n (.pointer (some (a.add k)))=true:=by
 simp only[sc,scA,Z5] at h ⊢
 unfold Addr.add
 split
 ·exact h
 ·exact h
theorem lH1 {n k:Nat}{a:Z8 Addr}{l c d b:Nat}(h:sc n (.slice a l c)=true):sc n (.slice (a.map (·.add k)) d b)=true:=by
 cases a with
 | none=>rfl
 | some a=>exact uH0 (k:=k) (a:=a) h
theorem yK3 {n:Nat}{a:Z8 Addr}{l c d b:Nat}(h:sc n (.slice a l c)=true):sc n (.slice a d b)=true:=by
 cases a<;>exact h
theorem lJ1 {n:Nat}{l:List Z6}{i:Nat}{v:Z6}(h:scL n l=true)(a:l[i]?=some v):sc n v=true:=qJ h v (List.mem_of_getElem? a)
theorem yZ0 {P:Z9}{op:BinOp}{t:Zt}{x y:Zo}{a b v:Z6}(h:jW P op t x y a b=some v):flat v=true:=by
 unfold jW at h
 split at h
 ·cases h;rfl
 ·cases h;rfl
 ·split at h<;>cases h;rfl
 ·split at h<;>cases h;rfl
 ·split at h<;>cases h;rfl
 ·split at h<;>cases h;rfl
 ·exact (gU h).2.1
theorem qR1 {P:Z9}{n:Nat}{t:Zt}{cs:List Z6}{off:Nat}{v:Z6}(b:scL n cs=true)(h:iB0 P t cs off=some v):sc n v=true:=by
 unfold iB0 at h
 split at h
 ·split at h
  ·rename_i k _
   cases c:cO0 off cs with
   | none=>rw[c] at h;cases h
   | some l=>
    rw[c] at h
    dsimp only at h
    have e:takeN cs off k=uE0 k l:=by simp only[takeN,c]
    split at h<;>cases h
    rename_i g a
    rw[← e] at a
    refine qK λu f=>?_
    obtain ⟨j,d⟩:=List.getElem?_of_mem f
    exact lJ1 b ((uD0 a).2.2 j u d)
  ·cases h
 ·exact lJ1 b h
 ·cases h
theorem lC0 {n:Nat}{place:Nat→Z8 (Nat×Nat)}:∀ (a:List (Nat×Z6)) (cs c:List Z6),scL n cs=true→(∀ x∈a,sc n x.2=true)→cK0 place cs a=some c→scL n c=true
 | [],cs,c,h,_,he=>by cases he;exact h
 | (i,v) :: rest,cs,c,h,hp,he=>by
  simp only[cK0] at he
  split at he
  ·cases he
  ·split at he
   ·split at he
    ·rename_i e d
     refine lC0 rest e c ?_ (λx g=>hp x (List.mem_cons_of_mem _ g)) he
     obtain ⟨_,rfl⟩:=pQ0 d
     refine qK λu b=>?_
     simp only[setFrom,List.mem_append] at b
     rcases b with (b|b)|b
     ·exact qJ h u (List.mem_of_mem_take b)
     ·have f:=hp (i,v) (List.mem_cons_self ..)
      cases v with
      | agg cs=>exact qJ f u b
      | _=>simp only[Value.cells,List.mem_singleton] at b;subst b;exact f
     ·exact qJ h u (List.mem_of_mem_drop b)
    ·cases he
   ·cases he
theorem qM2 {P:Z9}{n:Nat}{t:Zt}{a:List (Nat×Z6)}{v:Z6}(d:∀ x∈a,sc n x.2=true)(h:cT0 P t a=some v):sc n v=true:=by
 unfold cT0 at h
 split at h
 ·cases h
 ·split at h
  ·cases h
  ·rename_i z _
   have e:flat z=true→scL n z.cells.toList=true:=λc=>by
    have:=bO n z c
    cases z with
    | agg cs=>exact this
    | _=>exact qK λu f=>by simp only[Value.cells,List.mem_singleton] at f;subst f;exact this
   split at h
   ·rename_i c _
    split at h
    ·split at h<;>cases h
     rename_i cs b
     exact lC0 _ _ _ (e c) d b
    ·cases h
   ·rename_i c _
    split at h
    ·split at h<;>cases h
     rename_i cs b
     exact lC0 _ _ _ (e c) d b
    ·cases h
   ·cases h
theorem oA0 {p:Par}{H:Gam}{h:jA}{w:Zw}(K:qI p H h w){tm:VT}(C:∀ x∈tm.arr.toList,sc h.next x=true){o:Oper}
  (B:o.op.operands.all (gA p.NG)=true) {v:Z6} (d:cH p.P o tm=some v):sc h.next v=true:=by
 have r:∀ x∈o.op.operands,sc h.next (ev tm x)=true:=λx j=>bD1 K C (by
  rw[Array.all_eq_true_iff_forall_mem] at B;exact B x j)
 unfold cH at d
 split at d
 ·rename_i x q
  cases d
  exact r x (by simp[q,Op.operands])
 ·rename_i x q
  cases d
  exact r x (by simp[q,Op.operands])
 ·rename_i c a b q
  split at d<;>cases d
  ·exact r a (by simp[q,Op.operands])
  ·exact r b (by simp[q,Op.operands])
 ·rename_i t i q
  have E:=r t (by simp[q,Op.operands])
  split at d
  ·rename_i vs j
   obtain ⟨vs⟩:=vs
   rw[j] at E
   exact lJ1 (n:=h.next) (l:=vs) E (by simpa using d)
  ·cases d
 ·exact bO _ _ (yZ0 d)
 ·exact bO _ _ (gU d).2.1
 ·exact bO _ _ (gU d).2.1
 ·rename_i s x f q
  have j:=r x (by simp[q,Op.operands])
  split at d
  ·rename_i I a _ m
   rw[m] at j
   split at d
   ·split at d<;>cases d
    exact uH0 j
   ·cases d
  ·cases d
 ·rename_i t x f q
  have j:=r x (by simp[q,Op.operands])
  split at d
  ·rename_i I cs _ m
   obtain ⟨cs⟩:=cs
   rw[m] at j
   split at d
   ·exact qR1 j d
   ·cases d
  ·cases d
 ·rename_i t x i q
  have j:=r x (by simp[q,Op.operands])
  split at d
  ·rename_i e a len cap k n _ m _
   rw[m] at j
   split at d<;>cases d
   exact uH0 (a:=a) j
  ·rename_i len e a k n _ m _
   rw[m] at j
   split at d<;>cases d
   exact uH0 (a:=a) j
  ·cases d
 ·rename_i t x i q
  have j:=r x (by simp[q,Op.operands])
  split at d
  ·exact bO _ _ (gU d).2.1
  ·rename_i cs k n m _
   obtain ⟨cs⟩:=cs
   rw[m] at j
   split at d
   ·split at d
    ·exact qR1 j d
    ·cases d
   ·cases d
  ·cases d
 ·rename_i t x lo hi mx q
  have j:=r x (by simp[q,Op.operands])
  split at d
  ·exact bO _ _ (gU d).2.1
  ·rename_i a n c m
   rw[m] at j
   unfold kU at d
   split at d
   ·split at d
    ·split at d
     ·dsimp only at d
      split at d<;>cases d
      ·exact yK3 j
      ·exact lH1 j
     ·cases d
    ·cases d
   ·cases d
  ·rename_i a m
   rw[m] at j
   unfold jK0 at d
   split at d
   ·split at d
    ·split at d
     ·dsimp only at d
      split at d<;>cases d
      ·exact j
      ·exact uH0 (a:=a) j
     ·cases d
    ·cases d
   ·cases d
  ·cases d
 ·rename_i t D q
  refine qM2 (λx j=>?_) d
  obtain ⟨y,z,rfl⟩:=List.mem_map.1 j
  refine r y.2 ?_
  simp only[q,Op.operands,List.mem_toArray,List.mem_map]
  exact ⟨y,z,rfl⟩
 ·rename_i g f c q
  cases d
  have F:∀ x∈f,sc h.next (ev tm x)=true:=λx j=>r x (by simp[q,Op.operands,j])
  have J:∀ x∈c,sc h.next (ev tm x)=true:=λx j=>r x (by simp[q,Op.operands,j])
  show (scL h.next (f.map (ev tm)).toList&&scL h.next (c.map (ev tm)).toList)=true
  rw[Z5]
  constructor
  ·refine qK λu A=>?_
   simp only[Array.toList_map,List.mem_map] at A
   obtain ⟨y,z,rfl⟩:=A
   exact F y (by simpa using z)
  ·refine qK λu A=>?_
   simp only[Array.toList_map,List.mem_map] at A
   obtain ⟨y,z,rfl⟩:=A
   exact J y (by simpa using z)
 ·rename_i t x q
  have j:=r x (by simp[q,Op.operands])
  split at d<;>cases d
  exact j
 ·rename_i x q
  have j:=r x (by simp[q,Op.operands])
  split at d<;>cases d
  ·rename_i m;rw[m] at j;exact j
  ·rename_i m;rw[m] at j;exact j
 ·split at d
  ·split at d<;>cases d<;>rfl
  ·cases d
 ·exact bO _ _ (gU d).2.1
 ·exact bO _ _ (gU d).2.1
 ·cases d
theorem oC0 {p:Par}{k:Gam}{h:jA}{w:Zw}(f:qI p k h w){t:Zt}{a v:Z6}(c:qL p.P t a h=some v):sc h.next v=true:=by
 unfold qL at c
 split at c
 ·split at c
  ·rename_i cs e m g
   split at c
   ·split at c
    ·split at c
     ·rename_i l n
      obtain ⟨rfl,b⟩:=seen_eq f c
      refine qK λu d=>?_
      obtain ⟨j,i⟩:=List.getElem?_of_mem d
      refine (f.cell g ((uD0 n).2.2 j u i) ?_).2.1
      rcases b with h0|h0
      ·exact .inl h0
      ·exact .inr (qJ h0 u d)
     ·cases c
    ·cases c
   ·split at c
    ·rename_i u d
     obtain ⟨rfl,b⟩:=seen_eq f c
     exact (f.cell g d b).2.1
    ·cases c
   ·cases c
  ·cases c
 ·cases c
theorem rM1 {p:Par}{j:Gam}{h:jA}{w:Zw}(i:qI p j h w){tm:VT}(f:∀ x∈tm.arr.toList,sc h.next x=true){o:Oper}
  (e:o.op.operands.all (gA p.NG)=true) {v:Z6} (b:kI0 p.P o tm h=some v):sc h.next v=true:=by
 have k:∀ x∈o.op.operands,sc h.next (ev tm x)=true:=λx d=>bD1 i f (by
  rw[Array.all_eq_true_iff_forall_mem] at e;exact e x d)
 unfold kI0 at b
 split at b
 ·exact oC0 i b
 ·rename_i t x lo hi mx l
  have d:=k x (by simp[l,Op.operands])
  split at b
  ·rename_i a n c g
   rw[g] at d
   unfold kT at b
   split at b
   ·split at b
    ·split at b
     ·split at b
      ·split at b
       ·split at b<;>cases b
        ·exact d
        ·exact uH0 (a:=⟨_,_,none⟩) d
       ·split at b<;>cases b
        exact uH0 (a:=⟨_,_,none⟩) d
      ·cases b
     ·cases b
    ·cases b
   ·cases b
  ·cases b
 ·split at b
  ·split at b<;>cases b;rfl
  ·split at b<;>cases b;rfl
  ·split at b
   ·split at b
    ·split at b<;>cases b;rfl
    ·cases b
   ·cases b
  ·cases b
 ·cases b
theorem wG0 {h:jA}{e:Zt}{cs:List Z6}{more:Zb}{b:Nat}{c:jA}(a:mkRow h e cs more=some (b,c)):b=h.next∧c.next=h.next+1:=by
 unfold mkRow at a
 split at a
 ·rw[jA.new_eq] at a
  cases a
  exact ⟨rfl,rfl⟩
 ·cases a
theorem lI1 (n:Nat):sc (n+1) (.pointer (some ⟨n,0,none⟩))=true:=by simp[sc,scA]
theorem uG0 (n l c:Nat):sc (n+1) (.slice (some ⟨n,0,none⟩) l c)=true:=by simp[sc,scA]
theorem bX2 {p:Par}{z:Gam}{h u:jA}{w:Zw}(D:qI p z h w){tm:VT}(l:∀ x∈tm.arr.toList,sc h.next x=true){o:Oper}
  (g:o.op.operands.all (gA p.NG)=true) {v:Z6} (a:wY0 p.P o tm h=some (v,u)):sc u.next v=true:=by
 have t:∀ x∈o.op.operands,sc h.next (ev tm x)=true:=λx B=>bD1 D l (by
  rw[Array.all_eq_true_iff_forall_mem] at g;exact g x B)
 unfold wY0 at a
 split at a
 ·split at a
  ·split at a
   ·split at a<;>cases a
    rename_i b
    obtain ⟨rfl,c⟩:=wG0 b
    rw[c];exact lI1 _
   ·cases a
  ·cases a
 ·split at a<;>cases a
  rename_i b
  obtain ⟨rfl,c⟩:=wG0 b
  rw[c];exact lI1 _
 ·split at a
  ·split at a
   ·split at a
    ·split at a
     ·split at a
      ·split at a<;>cases a
       rename_i b
       obtain ⟨rfl,c⟩:=wG0 b
       rw[c];exact uG0 _ _ _
      ·cases a
     ·cases a
    ·cases a
   ·cases a
  ·cases a
 ·split at a<;>cases a;rfl
 ·unfold oB0 at a
  split at a
  ·split at a
   ·split at a
    ·split at a
     ·split at a<;>cases a
      rename_i b
      obtain ⟨rfl,c⟩:=wG0 b
      rw[c];exact uG0 _ _ _
     ·cases a
    ·cases a
   ·cases a
  ·cases a
 ·rename_i args f j
  split at a
  ·rename_i H E s x F A
   have r:args=#[s,x]:=Array.ext' A
   have k:=t s (by simp[j,r,Op.operands,Call.operands])
   unfold bI at a
   split at a
   ·rename_i e base n cap m C i y
    rw[i] at k
    split at a
    ·cases a
    dsimp only at a
    split at a
    ·cases a
    split at a
    ·split at a
     ·split at a
      ·split at a<;>cases a;rfl
      ·split at a
       ·cases a
        exact k
       split at a
       rotate_left
       ·cases a
       split at a
       ·split at a<;>cases a
        exact k
       ·cases a
     ·split at a
      ·split at a
       ·split at a<;>cases a
        rename_i b
        obtain ⟨rfl,c⟩:=wG0 b
        rw[c];exact uG0 _ _ _
       ·cases a
      ·cases a
    ·split at a
     ·split at a
      ·split at a
       ·split at a<;>cases a
        exact uG0 _ _ _
       ·cases a
      ·cases a
     ·cases a
   ·cases a
  ·cases a
 ·split at a
  ·rw[jA.new_eq] at a
   cases a
   exact lI1 _
  ·cases a
 ·split at a
  ·split at a
   ·split at a<;>cases a<;>rfl
   ·cases a
  ·cases a
 ·rename_i s d x j
  split at a
  ·split at a
   ·split at a
    ·split at a<;>cases a
     rename_i b
     obtain ⟨rfl,c⟩:=wG0 b
     rw[c];exact uG0 _ _ _
    ·cases a
   ·cases a
  ·rename_i q
   unfold iG0 at a
   split at a
   ·cases a
    rw[← q];exact t x (by simp[j,Op.operands])
   ·cases a
  ·cases a
 ·cases a
end Go.Ev
namespace Go.Ev
open Go Go.RowKit
def WP (p:Par)(ro:Z8 Nat)(c:Code)(s:S)(R:jK→S→Prop):Prop:=
 uY p.NG c=true→∀ (f:Gam) (g:Act) (w:Zw),St p f s g w→∀ (F:Fence) (n:Nat) (Q:Exit→Act→Zw→Prop),FW F→F.round=ro.map f.b→(∀ l,ro=some l→l<s.h.next)→
  (∀ e s' d a w',R e s'→Ag f d s.h.next→s.h.next≤s'.h.next→Below p.B w w'→St p d s' a w'→Q e.con a w')→qE2 F n p.P c Q g w
def WPin (p:Par)(ro:Z8 Nat)(b c:Code)(s:S)(R:jK→S→Prop):Prop:=
 uY p.NG b=true→uY p.NG c=true→∀ (f:Gam) (g:Act) (w:Zw),St p f s g w→∀ (F:Fence) (n:Nat) (Q:Exit→Act→Zw→Prop),FW F→F.round=ro.map f.b→(∀ l,ro=some l→l<s.h.next)→
  (∀ e s' d a w',R e s'→Ag f d s.h.next→s.h.next≤s'.h.next→Below p.B w w'→St p d s' a w'→Q e.con a w')→kD0 F n p.P b Q c g w
def qF0 (p:Par)(l:Nat)(args:List Z6)(h:jA)(R:Z6→jA→Prop):Prop:=
 ∀ (e:Gam) (w:Zw),qI p e h w→(∀ x∈args,sc h.next x=true)→∀ (o:Oper) (F:Fence),FW F→∀ (n:Nat) (a:Act) (K:Act→Zw→Prop) (Q:Exit→Act→Zw→Prop),
  (∀ (v:Z6) (d:jA) (c:Gam) (w':Zw),R v d→Ag e c h.next→h.next≤d.next→Below p.B w w'→qI p c d w'→sc d.next v=true→K (a.put o.dst (con c v)) w')→
  o.uponIn F n p.P a K Q ((Instr.yield (e.b l) ⟨args.map (con e)⟩).run p.P w)
def dO0 (p:Par)(f:Z6)(args:List Z6)(h:jA)(R:Z6→jA→Prop):Prop:=
 match f with
 | .func (.func g) ⟨[]⟩ ⟨captured⟩=>zC0 p g (args++captured) h R
 | .func (.yield l) ⟨[]⟩ _=>qF0 p l args h R
 | _=>False
theorem qF0.mono {p:Par}{l:Nat}{args:List Z6}{h:jA}{R d:Z6→jA→Prop}(q:qF0 p l args h R)(j:∀ v c,R v c→d v c):qF0 p l args h d:=
 λe w m g o F k n a K Q i=>q e w m g o F k n a K Q λv c b w' f=>i v c b w' (j v c f)
theorem dO0.mono {p:Par}{f:Z6}{args:List Z6}{h:jA}{R d:Z6→jA→Prop}(a:dO0 p f args h R)(b:∀ v c,R v c→d v c):dO0 p f args h d:=by
 unfold dO0 at a ⊢
 split
 ·exact zC0.mono a b
 ·exact qF0.mono a b
 ·rename_i e g
  split at a
  ·exact absurd rfl (e _ _)
  ·exact absurd rfl (g _ _)
  ·exact a
theorem WP.mono {p:Par}{ro:Z8 Nat}{c:Code}{s:S}{R i:jK→S→Prop}(h:WP p ro c s R)(m:∀ e s',R e s'→i e s'):WP p ro c s i:=
 λg j k w d F n Q o a l q=>h g j k w d F n Q o a l λe s' b f w' r=>q e s' b f w' (m e s' r)
section
variable {p:Par} {ro:Z8 Nat} {s:S} {R:jK→S→Prop}
theorem WP.skip (h:R .normal s):WP p ro .skip s R:=λ_ d c w a _ _ _ _ _ _ b=>cI (by simp) (wpIn_skip (b _ s d c w h (Ag.refl _ _) (Z3 _) (Below.refl _ _) a))
theorem WP.label {l:Nat}(h:R .normal s):WP p ro (.label l) s R:=λ_ d c w a _ _ _ _ _ _ b=>cI (by simp) (wpIn_label (b _ s d c w h (Ag.refl _ _) (Z3 _) (Below.refl _ _) a))
theorem WP.exit {i:Nat}(h:R (.exit i) s):WP p ro (.exit i) s R:=λ_ d c w a _ _ _ _ _ _ b=>cI (by simp) (wpIn_exit (b _ s d c w h (Ag.refl _ _) (Z3 _) (Below.refl _ _) a))
theorem WP.goto {l:Nat}(h:R (.goto l) s):WP p ro (.goto l) s R:=λ_ d c w a _ _ _ _ _ _ b=>cI (by simp) (wpIn_goto (b _ s d c w h (Ag.refl _ _) (Z3 _) (Below.refl _ _) a))
theorem WP.ret (h:R .ret s):WP p ro .ret s R:=λ_ d c w a _ _ _ _ _ _ b=>cI (by simp) (wpIn_ret (b _ s d c w h (Ag.refl _ _) (Z3 _) (Below.refl _ _) a))
theorem fV0 {c h:Gam}{m:Nat}{F:Fence}(a:F.round=ro.map c.b)(d:∀ l,ro=some l→l<m)(e:Ag c h m):F.round=ro.map h.b:=by
 rw[a];cases ro with
 | none=>rfl
 | some l=>simp[e.b l (d l rfl)]
def fG0 (k:S→Prop)(R:jK→S→Prop)(e:jK)(s:S):Prop:=match e with | .normal=>k s|e=>R e s
theorem WP.seq {a b:Code}(h:WP p ro a s (fG0 (λo=>WP p ro b o R) R)):WP p ro (.seq a b) s R:=by
 intro j I K w A F n Q H k B u
 simp only[uY,Z5] at j
 refine cI (by simp) (wpIn_seq (cU (h j.1 I K w A F n _ H k B λe o f g v x m d t c=>?_)))
 cases e with
 | normal=>
  refine cU (x j.2 f g v c F n Q H (fV0 k B m) (λl e=>Nat.lt_of_lt_of_le (B l e) d) λL M z C J D E q y r=>?_)
  exact u L M z C J D (m.trans E d) (Nat.le_trans d q) (t.trans y) r
 | exit i=>exact u _ o f g v x m d t c
 | goto l=>exact u _ o f g v x m d t c
 | ret=>exact u _ o f g v x m d t c
theorem WP.cond {x:Zo}{a b:Code}{v:Zb}(g:ev s.tm x=.bool v)(o:v=true→WP p ro a s R)(m:v=false→WP p ro b s R):WP p ro (.cond x a b) s R:=by
 intro h f i w c F n Q k d j l
 simp only[uY,Z5] at h
 have e:=c.tm.eval h.1.1
 refine cI (by simp) ?_
 cases v with
 | true=>exact wpIn_cond_true (by rw[e,g];rfl) (cU (o rfl h.1.2 f i w c F n Q k d j l))
 | false=>exact wpIn_cond_false (by rw[e,g];rfl) (cU (m rfl h.2 f i w c F n Q k d j l))
def outR (id:Nat)(R:jK→S→Prop)(e:jK)(s:S):Prop:=match e with | .exit j=>if j=id then R .normal s else R (.exit j) s|e=>R e s
theorem WP.block {id:Nat}{b:Code}(h:WP p ro b s (outR id R)):WP p ro (.block id b) s R:=by
 intro o x y w v F n Q A u z q
 simp only[uY] at o
 refine cI (by simp) (wpIn_block (cU (h o x y w v F n _ A u z λe m d f r g k c i a=>?_)))
 cases e with
 | normal=>exact q _ m d f r g k c i a
 | exit j=>
  simp only[outR] at g
  by_cases t:j=id
  ·rw[if_pos t] at g
   have:=q _ m d f r g k c i a
   simp only[jK.con,Exit.inBlock,if_pos t]
   exact this
  ·rw[if_neg t] at g
   have:=q _ m d f r g k c i a
   simp only[jK.con,Exit.inBlock,if_neg t]
   exact this
 | goto l=>exact q _ m d f r g k c i a
 | ret=>exact q _ m d f r g k c i a
theorem WP.round {b:Code}(h:WP p ro b s (fG0 (λr=>WP p ro (.loop b) r R) R)):WP p ro (.loop b) s R:=by
 intro o I L w A F n Q H g B u
 have q:uY p.NG b=true:=by simpa[uY] using o
 refine cU1 (cU (h q I L w A F n _ H g B λe r d f v x j c t a=>?_))
 cases e with
 | normal=>
  refine x o d f v a F n Q H (fV0 g B j) (λl e=>Nat.lt_of_lt_of_le (B l e) c) λM K z C J D E k y m=>?_
  exact u M K z C J D (j.trans E c) (Nat.le_trans c k) (t.trans y) m
 | exit i=>exact u _ r d f v x j c t a
 | goto l=>exact u _ r d f v x j c t a
 | ret=>exact u _ r d f v x j c t a
def bO0 (p:Par)(ro:Z8 Nat)(b:Code)(R:jK→S→Prop)(e:jK)(s:S):Prop:=
 match e with
 | .goto l=>match findLabel b l with
  | some h=>WPin p ro b h s R
  | none=>R (.goto l) s
 | e=>R e s
theorem WPin.of {b c:Code}(h:WP p ro c s (bO0 p ro b R)):WPin p ro b c s R:=by
 intro j x L T w B F n Q J q C v
 refine sW0 (cU (h x L T w B F n _ J q C λe y g f o k m d r a=>?_))
 cases e with
 | goto l=>
  simp only[bO0] at k
  show zO0 F n p.P b Q (.goto l) f o
  simp only[zO0]
  cases H:findLabel b l with
  | some K=>
   rw[H] at k
   refine k j (jA0 j H) g f o a F n Q J (fV0 q C m) (λl e=>Nat.lt_of_lt_of_le (C l e) d) λV N A D M E I t z u=>?_
   exact v V N A D M E (m.trans I d) (Nat.le_trans d t) (r.trans z) u
  | none=>
   rw[H] at k
   exact v _ y g f o k m d r a
 | normal=>exact v _ y g f o k m d r a
 | exit i=>exact v _ y g f o k m d r a
 | ret=>exact v _ y g f o k m d r a
theorem WP.scope {b:Code}(h:WPin p ro b b s R):WP p ro (.scope b) s R:=by
 intro a j e w d F n Q i c f g
 simp only[uY] at a
 exact cI (by simp) (pB0 (h a a j e w d F n Q i c f g))
end
end Go.Ev
namespace Go.Ev
open Go Go.RowKit
noncomputable section
structure wB0 (p:Par):Prop where
 funcs:∀ (g:Nat) (fn:Func),p.P.funcs[g]?=some fn→qW1 p.NG fn=true
 mixed:p.P.follows .mixedOrders=true
def FR (n:Nat)(l:List (Nat×Z6)):VT:=l.foldr (λx T=>T.set x.1 x.2) (VT.of [] n)
theorem nQ3 (n:Nat)(l:List (Nat×Z6)):(FR n l).sz=n:=by
 induction l with
 | nil=>simp[FR,VT.of]
 | cons x l h=>exact (VT.set_sz _ _ _).trans h
theorem nR3 (n:Nat)(l:List (Nat×Z6))(i:Nat)(v:Z6):(FR n l).set i v=FR n ((i,v) :: l):=rfl
theorem jM1 (n:Nat)(h:n<U)(l:List (Nat×Z6))(i:Nat)(v:Z6):(FR n ((i,v) :: l)).arr=(FR n l).arr.setIfInBounds i v:=by
 rw[← nR3,VT.arr_set _ (by rw[nQ3];exact h)]
theorem nS3 (n:Nat)(h:n<U):(FR n []).arr=Array.replicate n undef:=by
 have:=VT.of_arr [] n (by simpa[VT.of] using h)
 simpa[FR] using this
def gE0:Nat→List Z6→List (Nat×Z6)
 | _,[]=>[]
 | i,v :: l=>gE0 (i+1) l++[(i,v)]
theorem dJ0 (n:Nat)(h:n<U)(m:List (Nat×Z6)):∀ (l:List (Nat×Z6)),(FR n (l++m)).arr=l.foldr (λx A=>A.setIfInBounds x.1 x.2) (FR n m).arr
 | []=>rfl
 | (i,v) :: l=>by
  rw[List.cons_append,jM1 n h,dJ0 n h m l]
  rfl
theorem oE0:∀ (args:List Z6) (i:Nat) (A:Array Z6) (j:Nat),i+args.length≤A.size→
  ((gE0 i args).foldr (λx A=>A.setIfInBounds x.1 x.2) A)[j]?=if i≤j∧j<i+args.length then args[j-i]? else A[j]?
 | [],i,A,j,_=>by simp[gE0];intro a c;omega
 | v :: l,i,A,j,h=>by
  simp only[List.length_cons] at h
  simp only[gE0,List.foldr_append,List.foldr_cons,List.foldr_nil,List.length_cons]
  rw[oE0 l (i+1) (A.setIfInBounds i v) j (by simp;omega)]
  by_cases a:i+1≤j∧j<i+1+l.length
  ·rw[if_pos a,if_pos Z0]
   rw[show j-i=(j-(i+1))+1 by omega,List.getElem?_cons_succ]
  ·rw[if_neg a]
   by_cases c:j=i
   ·subst c
    rw[if_pos Z0]
    simp[Array.getElem?_setIfInBounds]
    omega
   ·rw[if_neg Z0,Array.getElem?_setIfInBounds,if_neg (Ne.symm c)]
theorem wO2 (n:Nat)(c:n<U)(args:List Z6)(h:args.length≤n):(FR n (gE0 0 args)).arr=⟨args⟩++Array.replicate (n-args.length) undef:=by
 apply Array.ext_getElem?
 intro j
 have:=dJ0 n c [] (gE0 0 args)
 rw[List.append_nil] at this
 rw[this,nS3 n c,oE0 args 0 _ j (by simpa using h)]
 simp only[Nat.zero_le,true_and,Nat.zero_add,Nat.sub_zero]
 rw[Array.getElem?_append]
 simp only[List.size_toArray,List.getElem?_toArray]
 split
 ·rfl
 ·rw[Array.getElem?_replicate,Array.getElem?_replicate]
  by_cases a:j<n
  ·rw[if_pos a,if_pos Z0]
  ·rw[if_neg a,if_neg Z0]
def dF (P:Z9)(a:List ResultVar)(tm:VT)(h:jA):Z8 Z6:=
 match qZ.go P tm h a with
 | some [v]=>some v
 | some l=>some (.tuple ⟨l⟩)
 | none=>none
theorem bV2 (P:Z9)(fn:Func)(tm:VT)(h:jA):qZ P fn tm h=dF P fn.results.toList tm h:=rfl
theorem bU2 {p:Par}{n:Gam}{h:jA}{w:Zw}(q:qI p n h w){tm:VT}(i:∀ x∈tm.arr.toList,sc h.next x=true){e:List ResultVar}{v:Z6}(c:dF p.P e tm h=some v):sc h.next v=true:=by
 have g:∀ t,sc h.next (tm.get t)=true:=λt=>by
  rw[← VT.arr_getD,Array.getD_eq_getD_getElem?]
  cases b:tm.arr[t]? with
  | none=>rfl
  | some x=>exact i x (by simpa using Array.mem_of_getElem? b)
 have f:∀ (e:List ResultVar) (l:List Z6),qZ.go p.P tm h e=some l→∀ x∈l,sc h.next x=true:=by
  intro e
  induction e with
  | nil=>intro l c;cases c;intro x b;cases b
  | cons r e m=>
   intro l c
   cases r with
   | tmp t=>
    simp only[qZ.go] at c
    split at c<;>cases c
    rename_i k d
    intro x b
    rcases List.mem_cons.1 b with rfl|b
    ·exact g t
    ·exact m k d x b
   | cell a t=>
    simp only[qZ.go] at c
    split at c
    ·rename_i u k j d
     cases c
     intro x b
     rcases List.mem_cons.1 b with rfl|b
     ·exact oC0 q j
     ·exact m k d x b
    ·cases c
 unfold dF at c
 split at c
 ·rename_i u j;cases c;exact f _ _ j _ (List.mem_singleton.2 rfl)
 ·rename_i l _ o;cases c;exact qK (f _ _ o)
 ·cases c
def endR (P:Z9)(c:List ResultVar)(R:Z6→jA→Prop)(s:S):Prop:=
 match gQ s.df s.h with
 | some a=>match dF P c s.tm a with
  | some v=>R v a
  | none=>False
 | none=>False
def jR (P:Z9)(h:List ResultVar)(R:Z6→jA→Prop)(e:jK)(s:S):Prop:=
 match e with
 | .normal=>endR P h R s
 | .ret=>endR P h R s
 | _=>False
def cP (p:Par)(g:FuncId)(args:List Z6)(h:jA)(R:Z6→jA→Prop):Prop:=
 ∀ (c:Gam) (w:Zw),qI p c h w→(∀ x∈args,sc h.next x=true)→(callFunc g ⟨args.map (con c)⟩).run p.P w=.ok (.enter g ⟨args.map (con c)⟩) w∧
  ∀ (F:Fence),FW F→∀ (n:Nat) (d:Ending→Zw→Prop),
   (∀ (v:Z6) (b:jA) (a:Gam) (w':Zw),R v b→Ag c a h.next→h.next≤b.next→Below p.B w w'→qI p a b w'→sc b.next v=true→d (.returned (con a v)) w')→
   CallsIn F n p.P g ⟨args.map (con c)⟩ w d
theorem cP.mono {p:Par}{g:FuncId}{args:List Z6}{h:jA}{R i:Z6→jA→Prop}(f:cP p g args h R)(k:∀ v a,R v a→i v a):cP p g args h i:=
 λb w e d=>⟨(f b w e d).1,λF l n S m=>(f b w e d).2 F l n S λv a c w' j=>m v a c w' (k v a j)⟩
theorem cP.w {p:Par}{g:FuncId}{args:List Z6}{h:jA}{R:Z6→jA→Prop}(s:cP p g args h R):zC0 p g args h R:=by
 intro l w r i o F k n a K Q q
 obtain ⟨f,c⟩:=s l w r i
 rw[f]
 refine ⟨λj=>(by rw[k.depth] at j;cases j),?_⟩
 refine CallsIn.mono (c F k (n - 1) (fun e b => match e with
   | .returned v=>K (a.put o.dst v) b
   | .panicked d=>Q (.panic d) a b
   | .outgrown=>LetsOut Q) q) λe b m=>by cases e<;>exact m
theorem cP.body {p:Par}(ok:wB0 p){g:FuncId}{fn:Func}{c:Code}(r:p.P.funcs[g]?=some fn)(C:fn.body=some c){args:List Z6}{h:jA}{R:Z6→jA→Prop}
  (X:args.length≤fn.ntmps) (K:fn.ntmps<U) (Y:WP p none c ⟨FR fn.ntmps (gE0 0 args),[],h⟩ (jR p.P fn.results.toList R)):cP p g args h R:=by
 intro t w N H
 have s:=ok.funcs g fn r
 simp only[qW1,C,Z5,bne_iff_ne,ne_eq] at s
 have A:(callFunc g ⟨args.map (con t)⟩).run p.P w=.ok (.enter g ⟨args.map (con t)⟩) w:=by simp[callFunc,r,s.2,C]
 refine ⟨A,λF M n T Z=>?_⟩
 have q:=wO2 fn.ntmps K args X
 have D:FW F.plain:=⟨M.wide⟩
 refine (?_:CallsIn F.plain n p.P g ⟨args.map (con t)⟩ w T)
 refine callsIn_of_wp_marks r C (M.fn g) (cU (Y s.1 t { tmps := (⟨args.map (con t)⟩ : Array Z6) ++ Array.replicate (fn.ntmps - (⟨args.map (con t)⟩ : Array Z6).size) undef, defers := [] } w
   ⟨⟨by rw[nQ3];exact K,by rw[q];simp[uT0],N.gl⟩,by
    intro x f
    have f:x∈(FR fn.ntmps (gE0 0 args)).arr.toList:=f
    rw[q] at f
    simp only[Array.toList_append,List.mem_append] at f
    rcases f with f|f
    ·exact H x f
    ·simp at f;rw[f.2];rfl,⟨rfl,λd hd=>by cases hd⟩,N⟩ F.plain n _ D rfl (λl h=>by cases h) ?_)) rfl
 intro e s' J y w' b I B u k
 have a:endR p.P fn.results.toList R s':=by
  cases e with
  | normal=>exact b
  | ret=>exact b
  | exit i=>exact b.elim
  | goto l=>exact b.elim
 have L:LeavesInM F.plain n p.P fn y.tmps T y.defers .returning w':=by
  unfold endR at a
  split at a
  ·rename_i V hm
   split at a
   ·rename_i v o
    rw[k.df.1]
    refine cN0 _ _ _ _ k.hr hm λE j m z=>?_
    refine ⟨_,lG0 j k.tm (by rw[bV2];exact o),Z v V J E a I (by rw[m];exact B) (u.trans z) j ?_⟩
    exact bU2 j (λx f=>by rw[m];exact k.sc x f) o
   ·exact a.elim
  ·exact a.elim
 cases e with
 | normal=>exact L
 | ret=>exact L
 | exit i=>exact b.elim
 | goto l=>exact b.elim
def qM1 (l:Nat)(R:Z6→jA→Prop)(e:jK)(a:S):Prop:=
 match qS a.h l with
 | some c=>R (.bool e.jump.isNone) (jN a.h l { c with state:=if e.jump.isNone then .ready else .done,pending:=e.jump })
 | none=>False
def lP0 (p:Par)(l:Nat)(body:Code)(R:Z6→jA→Prop)(e:jK)(a:S):Prop:=
 match e with
 | .normal=>match qS a.h l with
  | some c=>c.state=.ready∧WP p (some l) body ⟨a.tm,a.df,jN a.h l { c with state:=.busy }⟩ (qM1 l R)
  | none=>False
 | _=>False
theorem qF0.of {p:Par}{l:Nat}{r:Loop}{args:List Z6}{h:jA}{R:Z6→jA→Prop}{T:VT}(hg:qS h l=some r)(hT:r.tmps=T.arr)(hU:T.sz<U)
  (V:args.length=r.params.toList.length) (hw:WP p (some l) r.assign ⟨gI T (r.params.toList.zip args),[],h⟩ (lP0 p l r.body R)):qF0 p l args h R:=by
 intro k w hr hsc o F hF n a K Q hK
 obtain ⟨_,hlo,Z,h1,h2,h3,h4,f,hw0⟩:=bT hr hg
 rw[run_yield hw0 (by simpa[cW] using V)]
 rw[Oper.uponIn_round]
 refine ⟨λhd=>(by rw[hF.depth] at hd;cases hd),roundIn_of_wpIn (hF.fn _) ?_⟩
 have N:FW (F.inRound (k.b l)):=⟨hF.wide⟩
 have htm:(cW k f r).tmps=r.tmps.map (con k):=rfl
 have hps:(cW k f r).params=r.params:=rfl
 have hof:T.arr=r.tmps:=hT.symm
 rw[htm,hps,fA0 k r.params args hU hof]
 refine cU (hw h3 k _ w ⟨⟨by rw[mP0];exact hU,rfl,hr.gl⟩,lX0 r.params hU hof hsc h1,⟨rfl,λd hd=>by cases hd⟩,hr⟩ (F.inRound (k.b l)) (n-1) _ N rfl (λl' e=>by cases e;exact Z) ?_)
 intro e s1 u ca1 w1 c D H hb1 q
 cases e with
 | exit i=>exact c.elim
 | goto l=>exact c.elim
 | ret=>exact c.elim
 | normal=>
  simp only[lP0] at c
  split at c
  case h_2=>exact c.elim
  rename_i r1 L
  obtain ⟨hst1,I⟩:=c
  obtain ⟨_,hlo1,E,h11,h12,h13,h14,f1,hw1⟩:=bT q.hr L
  have m:u.b l=k.b l:=D.b l Z
  have z:=uI0 q.hr L hw1 .busy r1.pending
  refine ⟨_,run_beginRound (r:=cW u f1 r1) (by rw[← m];exact hw1) hst1,?_⟩
  refine cU (I h4 u ca1 _ ⟨q.tm,q.sc,q.df,by rw[m] at z;exact z.1⟩ (F.inRound (k.b l)) (n-1) _ N (by simp[m]) (λl' e=>by cases e;exact E) ?_)
  intro e s2 x ca2 w2 A Y M hb2 C
  unfold qM1 at A
  split at A
  case h_2=>exact A.elim
  rename_i r2 hg2
  obtain ⟨_,hlo2,hlt2,h21,h22,h23,h24,f2,J⟩:=bT C.hr hg2
  have j:Ag u x s1.h.next:=Y
  have X:x.b l=k.b l:=(j.b l E).trans m
  have s:=uI0 C.hr hg2 J (if e.jump.isNone then .ready else .done) e.jump
  rw[X] at s J
  have hle2':s1.h.next≤s2.h.next:=M
  have hle1':h.next≤s1.h.next:=H
  have y:Below p.B w w2:=hb1.trans (Below.trans (by rw[m] at z;exact z.2.1.below) hb2)
  have g:∃ v w',(Instr.endRound (k.b l) e.jump).run p.P w2=.ok v w'∧K (a.put o.dst v) w':=by
   refine ⟨_,_,run_endRound (r:=cW x f2 r2) e.jump J,?_⟩
   have:=hK _ _ x _ A (D.trans j H) (by have:=s.2.2;omega) (y.trans s.2.1.below) s.1 rfl
   exact this
  cases e with
  | normal=>exact g
  | exit id=>exact g
  | goto t=>exact g
  | ret=>exact g
def qR0 (l:Nat)(s:S)(mk:List Nat)(R:jK→S→Prop)(_:Z6)(h:jA):Prop:=
 match uS0 l ⟨s.tm,mk++s.df,h⟩ with
 | some (e,s')=>R e s'
 | none=>False
theorem WP.range {p:Par}{ro:Z8 Nat}{g:Zo}{ps:Array Tmp}{a b:Code}{s:S}{R:jK→S→Prop}{l:Nat}{mk:List Nat}{h1:jA}(hent:yJ0 ro s.tm ps a b s.h=some (l,mk,h1))
  {f:FuncId} {captured:List Z6} (hgv:ev s.tm g=.func (.func f) #[] ⟨captured⟩) (hc:cP p f (.func (.yield l) #[] #[] :: captured) h1 (qR0 l s mk R)):WP p ro (.rangeFunc g ps a b) s R:=by
 intro t Γ K w i F n Q hF hro hl hQ
 simp only[uY,Z5] at t
 refine cI (by simp) (wpIn_rangeFunc λfn hfn=>?_)
 obtain ⟨c,w1,Y,A,C,hr1,T,z,D⟩:=tH0 i t.1.2 t.2 hent fn
 have hng:p.NG≤s.h.next:=by have:=i.hr.ng;have:=i.hr.gn;omega
 have htm1:=i.tm.ag i.sc A hng
 have hg0:=htm1.eval t.1.1
 rw[hgv,dP] at hg0
 have hscg:scL s.h.next captured=true:=by
  have:=bD1 i.hr i.sc t.1.1
  rw[hgv] at this
  simp only[sc,Z5] at this
  exact this.2
 have V:(#[Value.func (.yield (c.b l)) #[] #[]]++(⟨captured⟩:Array Z6).map (con c))=⟨(Value.func (.yield l) #[] #[] :: captured).map (con c)⟩:=by
  apply Array.ext'
  simp[con,yN0,conL]
 have hbd := hc c w1 hr1 (fun x Z => by
   simp only[List.mem_cons] at Z
   rcases Z with Z|Z
   ·subst Z
    simp only[sc,scL,Bool.and_true,Nat.blt_eq]
    exact z
   ·exact kN C x (qJ hscg x Z))
 have hbd2:=hbd.2 F hF (n-1) (rangePost F n p.P (c.b l) Q { K with defers:=marks c mk++K.defers }) (by
  intro v N j w2 y q hle2 J hr2 _
  unfold qR0 at y
  split at y
  case h_2=>exact y.elim
  rename_i e s' m
  unfold uS0 at m
  split at m
  ·rename_i r hg
   obtain ⟨_,_,_,_,_,_,_,f2,I⟩:=bT (h:=N) hr2 hg
   have hbl:j.b l=c.b l:=q.b l z
   have o:=uI0 hr2 hg I .exhausted r.pending
   rw[hbl] at I o
   split at m
   ·cases m
   ·rename_i hnb
    obtain ⟨W,X,L,hfrW⟩:∃ W,(Instr.endLoop (c.b l)).run p.P w2=.ok r.pending W∧qI p j (jN N l { r with state:=.exhausted }) W∧Fr p j N w2 W:=
     ⟨_,run_endLoop (r:=cW j f2 r) I hnb,o.1,o.2.1⟩
    have E:Ag Γ j s.h.next:=A.trans q C
    have H:(jN N l { r with state:=.exhausted }).next=N.next:=rfl
    have hstn:St p j ({ tm:=s.tm,df:=mk++s.df,h:=jN N l { r with state:=.exhausted } }:S) { K with defers:=marks c mk++K.defers } W:=by
     refine ⟨?_,λv hv=>kN (by rw[H];omega) v (i.sc v hv),⟨?_,?_⟩,L⟩
     ·have:=i.tm.ag i.sc E hng
      exact ⟨this.sm,this.tm,this.gl⟩
     ·show marks c mk++K.defers=marks j (mk++s.df)
      have e1:marks j (mk++s.df)=marks j mk++marks j s.df:=by simp[marks]
      rw[e1,i.df.1,iF0 q D,iF0 E i.df.2]
     ·intro d u
      simp only[List.mem_append] at u
      rw[H]
      rcases u with u|u
      ·have:=D d u;omega
      ·have:=i.df.2 d u;omega
    have hbel:Below p.B w W:=(T.trans J).trans hfrW.below
    have k : ∀ (e0 : jK), some (e0, ({ tm := s.tm, df := mk ++ s.df, h := jN N l { r with state := .exhausted } } : S)) = some (e, s') →
      Q e0.con { K with defers:=marks c mk++K.defers } W:=λe0 h1=>by
     cases h1
     exact hQ _ _ j _ _ y E (by rw[H];omega) hbel hstn
    refine ⟨_,_,X,?_⟩
    split at m
    ·rename_i M
     rw[M]
     exact k _ m
    ·rename_i id M
     rw[M]
     exact wpIn_exit (k _ m)
    ·rename_i tt M
     rw[M]
     exact wpIn_goto (k _ m)
    ·rename_i M
     rw[M]
     exact wpIn_ret (k _ m)
    ·cases m
  ·cases m)
 refine ⟨c.b l,marks c mk,w1,{ target:=.fn (.func f) ((⟨captured⟩:Array Z6).map (con c)),args:=#[Value.func (.yield (c.b l)) #[] #[]] },w1,f,⟨(Value.func (.yield l) #[] #[] :: captured).map (con c)⟩,w1,by rw[hro];exact Y,?_,λf' _=>hF.fn f',?_,λu=>(by rw[hF.depth] at u;cases u),?_⟩
 ·simp only[resolve]
  rw[hg0]
  simp[Deferred.ofValue,yN0,Act.eval]
 ·simp only[invoke]
  rw[V]
  exact hbd.1
 ·exact hbd2
end
end Go.Ev
