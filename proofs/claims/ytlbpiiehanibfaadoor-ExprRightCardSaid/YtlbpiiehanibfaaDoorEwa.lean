/-
  A part of the proof: conditions over an abstract memory, and that they are enough for what the model's calls do. No condition of its own.
-/
import Derived.CallsIn
import Derived.Laws.Sem
import Derived.OrdersHeld
import Derived.OrdersIn
import Derived.Below
import Derived.WalkKit
import Derived.WalkSpells
import Derived.WalkLawsBesides
import Derived.Laws.BytesString
import Derived.Laws.AppendOwn
import Derived.Laws.MakeOwn
set_option linter.unusedSimpArgs false
set_option linter.unusedVariables false
namespace Go.Ew
open Go
noncomputable section
def bNo (b : Builtin) : Nat := Builtin.casesOn (motive := fun _ => Nat) b 0 1 2 3 4 5 6 7 8 9 10 11 12 13 14 15 16 17 18 19 20 21 22 23 24 25
def isUP (d : TypeDesc) : Bool := TypeDesc.casesOn (motive := fun _ => Bool) d false false (fun _ => false) (fun _ => false) (fun _ => false) false true (fun _ => false) (fun _ => false) (fun _ _ => false) (fun _ _ => false)
 (fun _ _ => false) (fun _ => false) (fun _ _ _ => false) (fun _ => false) (fun _ => false) (fun _ _ => false)
structure AObj where
 o : Obj
 more : Bool
inductive Tr where
 | nil
 | node (l : Tr) (v : Option AObj) (r : Tr)
def Tr.get (t : Tr) : Nat → Option AObj :=
 Tr.rec (motive := fun _ => Nat → Option AObj) (fun _ => none)
  (fun _ v _ gl gr i => Nat.rec (motive := fun _ => Option AObj) v (fun j _ => Bool.rec (motive := fun _ => Option AObj) (gr (Nat.div j 2)) (gl (Nat.div j 2)) (Nat.beq (Nat.mod j 2) 0)) i) t
def Tr.go (i : Nat) (x : AObj) (f : Tr → Nat → Tr) (l : Tr) (v : Option AObj) (r : Tr) : Tr :=
 Nat.rec (motive := fun _ => Tr) (.node l (some x) r) (fun j _ => Bool.rec (motive := fun _ => Tr) (.node l v (f r (Nat.div j 2))) (.node (f l (Nat.div j 2)) v r) (Nat.beq (Nat.mod j 2) 0)) i
def Tr.set (n : Nat) (t : Tr) (i : Nat) (x : AObj) : Tr :=
 Nat.rec (motive := fun _ => Tr → Nat → Tr) (fun t _ => t)
  (fun _ f t i => Tr.rec (motive := fun _ => Tr) (Tr.go i x f .nil none .nil) (fun l v r _ _ => Tr.go i x f l v r) t) n t i
def Tr.put (t : Tr) (i : Nat) (x : AObj) : Tr := Tr.set (Nat.succ i) t i x
structure Heap where
 t : Tr
 next : Nat
 lo : Nat
inductive VTr where
 | nil
 | node (l : VTr) (v : Value) (r : VTr)
def VTr.get (t : VTr) : Nat → Value :=
 VTr.rec (motive := fun _ => Nat → Value) (fun _ => undef)
  (fun _ v _ gl gr i => Nat.rec (motive := fun _ => Value) v (fun j _ => Bool.rec (motive := fun _ => Value) (gr (Nat.div j 2)) (gl (Nat.div j 2)) (Nat.beq (Nat.mod j 2) 0)) i) t
def VTr.go (i : Nat) (x : Value) (f : VTr → Nat → VTr) (l : VTr) (v : Value) (r : VTr) : VTr :=
 Nat.rec (motive := fun _ => VTr) (.node l x r) (fun j _ => Bool.rec (motive := fun _ => VTr) (.node l v (f r (Nat.div j 2))) (.node (f l (Nat.div j 2)) v r) (Nat.beq (Nat.mod j 2) 0)) i
def VTr.set (n : Nat) (t : VTr) (i : Nat) (x : Value) : VTr :=
 Nat.rec (motive := fun _ => VTr → Nat → VTr) (fun t _ => t)
  (fun _ f t i => VTr.rec (motive := fun _ => VTr) (VTr.go i x f .nil undef .nil) (fun l v r _ _ => VTr.go i x f l v r) t) n t i
structure VT where
 sz : Nat
 t : VTr
def VT.get (T : VT) (i : Nat) : Value := VT.rec (motive := fun _ => Value) (fun sz t => Bool.rec (motive := fun _ => Value) undef (t.get i) (Nat.ble (Nat.succ i) sz)) T
def VT.set (T : VT) (i : Nat) (v : Value) : VT := VT.rec (motive := fun _ => VT) (fun sz t => Bool.rec (motive := fun _ => VT) ⟨sz, t⟩ ⟨sz, t.set 60 i v⟩ (Nat.ble (Nat.succ i) sz)) T
def VT.fill : VTr → Nat → List Value → VTr
 | t, _, [] => t
 | t, i, v :: vs => VT.fill (t.set 60 i v) (i + 1) vs
def VT.of (l : List Value) (n : Nat) : VT := ⟨l.length + (n - l.length), VT.fill .nil 0 l⟩
def VT.arr (T : VT) : Array Value := ⟨(List.range T.sz).map T.t.get⟩
structure S where
 tm : VT
 df : List Nat
 h : Heap
def Heap.get (h : Heap) (i : Nat) : Option AObj := h.t.get i
def Heap.put (h : Heap) (i : Nat) (x : AObj) : Heap := match h with | ⟨t, n, lo⟩ => ⟨t.put i x, n, lo⟩
def Heap.new (h : Heap) (x : AObj) : Nat × Heap := match h with | ⟨t, n, lo⟩ => match n with | 0 => (0, ⟨t.put 0 x, 1, lo⟩) | m + 1 => (m + 1, ⟨t.put (m + 1) x, m + 2, lo⟩)
@[irreducible] def U : Nat := 100000000000000
@[irreducible] def UC : Nat := 1152921504606846976
mutual
def flat : Value → Bool
 | .pointer a => a.isNone
 | .slice a _ _ => a.isNone
 | .map r => r.isNone
 | .chan _ => false
 | .float _ _ => false
 | .func (.func _) ⟨f⟩ ⟨c⟩ => flatL f && flatL c
 | .func _ _ _ => false
 | .iface _ v => flat v
 | .agg ⟨cs⟩ => flatL cs
 | .tuple ⟨vs⟩ => flatL vs
 | _ => true
def flatL : List Value → Bool
 | [] => true
 | v :: vs => flat v && flatL vs
end
def scA (n : Nat) (a : Addr) : Bool := Nat.blt a.block n && a.spot.isNone
def scS (n : Nat) (a : Addr) (len : Nat) : Bool := Nat.blt a.block n && (a.spot.isNone || Nat.beq len 0)
mutual
def sc (n : Nat) : Value → Bool
 | .pointer (some a) => scA n a
 | .slice (some a) len _ => scS n a len
 | .map (some r) => Nat.blt r n
 | .chan _ => false
 | .func (.func _) ⟨f⟩ ⟨c⟩ => scL n f && scL n c
 | .func (.yield l) ⟨f⟩ ⟨c⟩ => Nat.blt l n && scL n f && scL n c
 | .func _ _ _ => false
 | .iface _ v => sc n v
 | .agg ⟨cs⟩ => scL n cs
 | .tuple ⟨vs⟩ => scL n vs
 | _ => true
def scL (n : Nat) : List Value → Bool
 | [] => true
 | v :: vs => sc n v && scL n vs
end
def fscP (n : Nat) (a : Option Addr) : Bool := Option.rec (motive := fun _ => Bool) true (fun a => Addr.rec (motive := fun _ => Bool) (fun b _ s => Bool.rec (motive := fun _ => Bool) false (Option.rec (motive := fun _ => Bool) true (fun _ => false) s) (Nat.ble (Nat.succ b) n)) a) a
def fscS (n : Nat) (a : Option Addr) (len : Nat) : Bool := Option.rec (motive := fun _ => Bool) true (fun a => Addr.rec (motive := fun _ => Bool) (fun b _ s => Bool.rec (motive := fun _ => Bool) false (Option.rec (motive := fun _ => Bool) true (fun _ => Nat.beq len 0) s) (Nat.ble (Nat.succ b) n)) a) a
def fsc1 (n : Nat) (v : Value) : Bool :=
 Value.casesOn v (fun _ => true) (fun _ _ => true) (fun _ _ => true) (fun _ _ _ => true) (fun _ => true) (fscP n) (fun a m _ => fscS n a m) (fun r => sc n (.map r)) (fun _ => false)
  (fun f a b => sc n (.func f a b)) true (fun t v => sc n (.iface t v)) true (fun a => sc n (.agg a)) (fun a => sc n (.tuple a))
def fscL (n : Nat) (l : List Value) : Bool := List.rec (motive := fun _ => Bool) true (fun v _ ih => Bool.rec (motive := fun _ => Bool) false ih (fsc1 n v)) l
def fone (n : Nat) (v : Value) : Bool :=
 Value.casesOn v (fun _ => true) (fun _ _ => true) (fun _ _ => true) (fun _ _ _ => true) (fun _ => true) (fscP n) (fun a m _ => fscS n a m) (fun r => sc n (.map r)) (fun _ => false)
  (fun f a b => sc n (.func f a b)) true (fun t v => sc n (.iface t v)) true (fun _ => false) (fun _ => false)
def foneL (n : Nat) (l : List Value) : Bool := List.rec (motive := fun _ => Bool) true (fun v _ ih => Bool.rec (motive := fun _ => Bool) false ih (fone n v)) l
def fsc (n : Nat) (v : Value) : Bool :=
 Value.casesOn v (fun _ => true) (fun _ _ => true) (fun _ _ => true) (fun _ _ _ => true) (fun _ => true) (fscP n) (fun a m _ => fscS n a m) (fun r => sc n (.map r)) (fun _ => false)
  (fun f a b => sc n (.func f a b)) true (fun t v => sc n (.iface t v)) true (fun a => fscL n a.toList) (fun a => fscL n a.toList)
def pv {α : Type} (P : Program) : Sem α → Option α
 | .pure a => some a
 | .program k => pv P (k P)
 | .mark _ k => pv P k
 | _ => none
def evG (g : Nat) : Value := .pointer (some ⟨g, 0, none⟩)
def evF (f : FuncId) : Value := .func (.func f) #[] #[]
def ev (tm : VT) (o : Operand) : Value := Operand.rec (motive := fun _ => Value) (VT.get tm) (fun v => v) evG evF o
def cells (h : Heap) (i : Nat) : Option (List Value × TypeId × Bool) :=
 match h.get i with
 | some ⟨.cells ⟨cs⟩ e _, m⟩ => some (cs, e, m)
 | _ => none
def beqB : List UInt8 → List UInt8 → Bool
 | [], [] => true
 | x :: xs, y :: ys => match Nat.beq x.toNat y.toNat with | true => beqB xs ys | false => false
 | _, _ => false
def isAggT (P : Program) (t : TypeId) : Option Bool :=
 match P.underlying t with
 | some (.struct _) | some (.array _ _) => some true
 | some _ => some false
 | none => none
def szT (P : Program) (t : TypeId) : Option Nat :=
 match P.info? t with
 | some i => some i.size
 | none => none
def okOpd (NG : Nat) : Operand → Bool
 | .const v => flat v
 | .global g => Nat.blt g NG
 | _ => true
def okOper (NG : Nat) (o : Oper) : Bool := o.op.operands.all (okOpd NG) && (match o.op with | .defer _ => false | .select _ _ => false | _ => true)
def okCode (NG : Nat) : Code → Bool
 | .region _ ops _ => ops.all (okOper NG)
 | .seq a b => okCode NG a && okCode NG b
 | .cond c a b => okOpd NG c && okCode NG a && okCode NG b
 | .block _ b => okCode NG b
 | .loop b => okCode NG b
 | .rangeFunc f _ a b => okOpd NG f && okCode NG a && okCode NG b
 | .scope b => okCode NG b
 | _ => true
def okFunc (NG : Nat) (fn : Func) : Bool := match fn.body with | some c => okCode NG c && fn.name != "runtime.NumGoroutine" | none => true
def pvF (P : Program) (s : Sem Value) (x : Bool) : Option Value :=
 match x with
 | true => match pv P s with
  | some v => match flat v with | true => some v | false => none
  | none => none
 | false => none
def ptrEq (P : Program) (e : TypeId) (a b : Addr) : Option Value :=
 match a, b with
 | ⟨ab, ao, none⟩, ⟨bb, bo, none⟩ => match szT P e with
  | some (_ + 1) => match Nat.beq ab bb with
   | true => some (.bool (Nat.beq ao bo))
   | false => none
  | _ => none
 | _, _ => none
def binPure (P : Program) (op : BinOp) (t : TypeId) (x y : Operand) (a b : Value) : Option Value :=
 match op, a, b with
 | .eql, .string s, .string u => some (.bool (beqB s.data.toList u.data.toList))
 | .neq, .string s, .string u => some (.bool (!beqB s.data.toList u.data.toList))
 | .eql, .slice u _ _, .slice none _ _ => match P.underlying t with | some (.slice _) => some (.bool u.isNone) | _ => none
 | .neq, .slice u _ _, .slice none _ _ => match P.underlying t with | some (.slice _) => some (.bool (!u.isNone)) | _ => none
 | .eql, .pointer u, .pointer none => match P.underlying t with | some (.pointer _) => some (.bool u.isNone) | _ => none
 | .neq, .pointer u, .pointer none => match P.underlying t with | some (.pointer _) => some (.bool (!u.isNone)) | _ => none
 | .eql, .map u, .map none => match P.underlying t with | some (.map _ _) => some (.bool u.isNone) | _ => none
 | .neq, .map u, .map none => match P.underlying t with | some (.map _ _) => some (.bool (!u.isNone)) | _ => none
 | .eql, .float .f64 i, .float .f64 j => match Nat.beq i j with | true => some (.bool true) | false => none
 | .neq, .float .f64 i, .float .f64 j => match Nat.beq i j with | true => some (.bool false) | false => none
 | .eql, .pointer (some a), .pointer (some b) => match P.underlying t with | some (.pointer e) => ptrEq P e a b | _ => none
 | .neq, .pointer (some a), .pointer (some b) => match P.underlying t with | some (.pointer e) => (match ptrEq P e a b with | some (.bool c) => some (.bool (!c)) | _ => none) | _ => none
 | _, _, _ => pvF P (do eqGuard op t x y a b; binOp op t a b) (flat a && flat b)
def bounds (len top : Nat) (mx hi lo : Option Value) : Option (Nat × Nat × Option Nat) :=
 match (match mx with | none => some none | some (.int _ (.ofNat m)) => (match Nat.ble m top with | true => some (some m) | false => none) | some _ => none : Option (Option Nat)) with
 | none => none
 | some m =>
  match (match hi, m with
   | none, none => some len
   | none, some _ => none
   | some (.int _ (.ofNat h)), none => (match Nat.ble h top with | true => some h | false => none)
   | some (.int _ (.ofNat h)), some m => (match Nat.ble h m with | true => some h | false => none)
   | some _, _ => none : Option Nat) with
  | none => none
  | some h => match (match lo with
   | none => some 0
   | some (.int _ (.ofNat l)) => (match Nat.ble l h with | true => some l | false => none)
   | some _ => none : Option Nat) with
   | none => none
   | some l => some (l, h, m)
def slicePure (P : Program) (t : TypeId) (a : Option Addr) (len cap : Nat) (lo hi mx : Option Value) : Option Value :=
 match P.underlying t with
 | some (.slice e) => match szT P e, Nat.blt cap UC with
  | some size, true => match bounds len cap mx hi lo with
   | some (l, h, m) =>
    let m := m.getD cap
    match Nat.beq m l with
    | true => some (.slice a (h - l) (m - l))
    | false => some (.slice (a.map (·.add (l * size))) (h - l) (m - l))
   | none => none
  | _, _ => none
 | _ => none
def takeE (n : Nat) (l : List Value) : Option (List Value) :=
 Nat.rec (motive := fun _ => List Value → Option (List Value)) (fun _ => some [])
  (fun _ f l => List.rec (motive := fun _ => Option (List Value)) none (fun v r _ => Option.rec (motive := fun _ => Option (List Value)) none (fun x => some (v :: x)) (f r)) l) n l
def dropE (n : Nat) (l : List Value) : Option (List Value) :=
 Nat.rec (motive := fun _ => List Value → Option (List Value)) some
  (fun _ f l => List.rec (motive := fun _ => Option (List Value)) none (fun _ r _ => f r) l) n l
def overE (vs cs : List Value) : Option (List Value) :=
 List.rec (motive := fun _ => List Value → Option (List Value)) some
  (fun v _ f cs => List.rec (motive := fun _ => Option (List Value)) none (fun _ r _ => Option.rec (motive := fun _ => Option (List Value)) none (fun x => some (v :: x)) (f r)) cs) vs cs
def setE (n : Nat) (vs cs : List Value) : Option (List Value) :=
 Nat.rec (motive := fun _ => List Value → Option (List Value)) (overE vs)
  (fun _ f cs => List.rec (motive := fun _ => Option (List Value)) none (fun v r _ => Option.rec (motive := fun _ => Option (List Value)) none (fun x => some (v :: x)) (f r)) cs) n cs
def sliceArr (P : Program) (t : TypeId) (a : Addr) (lo hi mx : Option Value) : Option Value :=
 match P.underlying t with
 | some (.array n e) => match szT P e, Nat.blt n U with
  | some size, true => match bounds n n mx hi lo with
   | some (l, h, m) =>
    let m := m.getD n
    match Nat.beq m l with
    | true => some (.slice (some a) (h - l) (m - l))
    | false => some (.slice (some (a.add (l * size))) (h - l) (m - l))
   | none => none
  | _, _ => none
 | _ => none
def partV (P : Program) (t : TypeId) (cs : List Value) (off : Nat) : Option Value :=
 match isAggT P t with
 | some true => match szT P t with
  | some n => match dropE off cs with
   | some l => match takeE n l with
    | some l => some (.agg ⟨l⟩)
    | none => none
   | none => none
  | none => none
 | some false => cs[off]?
 | none => none
def placesOf (P : Program) : List Field → Option (List (Nat × Nat))
 | [] => some []
 | f :: fs => match szT P f.type, placesOf P fs with
  | some n, some l => some ((f.offset, n) :: l)
  | _, _ => none
def setFrom (cs : List Value) (off : Nat) (vs : List Value) : List Value := cs.take off ++ vs ++ cs.drop (off + vs.length)
def fillL (place : Nat → Option (Nat × Nat)) : List Value → List (Nat × Value) → Option (List Value)
 | cs, [] => some cs
 | cs, (i, v) :: rest => match place i with
  | none => none
  | some (off, size) =>
   match Nat.beq v.cells.size size with
   | true => match setE off v.cells.toList cs with
    | some cs' => fillL place cs' rest
    | none => none
   | false => none
def buildV (P : Program) (t : TypeId) (parts : List (Nat × Value)) : Option Value :=
 match P.info? t with
 | none => none
 | some i => match i.zero with
  | none => none
  | some z => match flat z, P.underlying t with
   | true, some (.struct fs) => match placesOf P fs.toList with
    | some pl => match fillL (fun i => pl[i]?) z.cells.toList parts with
     | some cs => some (.agg ⟨cs⟩)
     | none => none
    | none => none
   | true, some (.array _ e) => match szT P e with
    | some n => match fillL (fun i => some (i * n, n)) z.cells.toList parts with
     | some cs => some (.agg ⟨cs⟩)
     | none => none
    | none => none
   | _, _ => none
def evPure (P : Program) (o : Oper) (tm : VT) : Option Value :=
 match o.op with
 | .move x => some (ev tm x)
 | .assign x => some (ev tm x)
 | .pick c a b => match ev tm c with | .bool true => some (ev tm a) | .bool false => some (ev tm b) | _ => none
 | .extract t i => match ev tm t with | .tuple vs => vs[i]? | _ => none
 | .binOp op t x y _ => binPure P op t x y (ev tm x) (ev tm y)
 | .unOp op _ x => pvF P (Op.unary op (ev tm x)) (flat (ev tm x))
 | .convert s d x => pvF P (convert s d (ev tm x)) (flat (ev tm x))
 | .fieldAddr s x f => match P.underlying s, ev tm x with
  | some (.struct fs), .pointer (some a) => match fs[f]? with
   | some fl => match szT P fl.type with
    | some (_ + 1) => some (.pointer (some (a.add fl.offset)))
    | _ => none
   | none => none
  | _, _ => none
 | .field t x f => match P.underlying t, ev tm x with
  | some (.struct fs), .agg cs => match fs[f]? with
   | some fl => partV P fl.type cs.toList fl.offset
   | none => none
  | _, _ => none
 | .indexAddr t x i => match P.underlying t, ev tm x, ev tm i with
  | some (.slice e), .slice (some a) len _, .int _ (.ofNat n) => match Nat.blt n len, szT P e with
   | true, some size => some (.pointer (some (a.add (n * size))))
   | _, _ => none
  | some (.array len e), .pointer (some a), .int _ (.ofNat n) => match Nat.blt n len, szT P e with
   | true, some size => some (.pointer (some (a.add (n * size))))
   | _, _ => none
  | _, _, _ => none
 | .index t x i => match ev tm x, ev tm i with
  | .string s, .int k n => pvF P (Instr.index t (.string s) (.int k n)) true
  | .agg cs, .int _ (.ofNat n) => match P.underlying t with
   | some (.array len e) => match Nat.blt n len, szT P e with
    | true, some size => partV P e cs.toList (n * size)
    | _, _ => none
   | _ => none
  | _, _ => none
 | .slice t x lo hi mx => match ev tm x with
  | .string s => pvF P (Instr.sliceAt t (.string s) (lo.map (ev tm)) (hi.map (ev tm)) (mx.map (ev tm))) ((lo.map (ev tm)).all flat && (hi.map (ev tm)).all flat && (mx.map (ev tm)).all flat)
  | .slice a n c => slicePure P t a n c (lo.map (ev tm)) (hi.map (ev tm)) (mx.map (ev tm))
  | .pointer (some a) => sliceArr P t a (lo.map (ev tm)) (hi.map (ev tm)) (mx.map (ev tm))
  | _ => none
 | .build t parts => buildV P t (parts.toList.map fun (i, x) => (i, ev tm x))
 | .makeFunc (.func g) f c => some (.func (.func g) (f.map (ev tm)) (c.map (ev tm)))
 | .makeInterface t x => match P.underlying t with
  | some (.interface _) => none
  | some _ => some (.iface t (ev tm x))
  | none => none
 | .nilCheck x => match ev tm x with
  | .pointer (some a) => some (.pointer (some a))
  | .func (.func g) f c => some (.func (.func g) f c)
  | _ => none
 | .call { callee := .builtin .len, args, argTypes } =>
  match args[0]?, argTypes[0]? with
  | some x, some t => match P.underlying t, ev tm x with
   | some .string, .string s => some (goInt s.size)
   | some (.slice _), .slice _ n _ => some (goInt n)
   | _, _ => none
  | _, _ => none
 | .call { callee := .builtin .min, args, argTypes } => pvF P (Builtin.min_ argTypes o.type (args.map (ev tm))) (flatL (args.map (ev tm)).toList)
 | .call { callee := .builtin .max, args, argTypes } => pvF P (Builtin.max_ argTypes o.type (args.map (ev tm))) (flatL (args.map (ev tm)).toList)
 | _ => none
def takeN (cs : List Value) (off n : Nat) : Option (List Value) := Option.rec (motive := fun _ => Option (List Value)) none (takeE n) (dropE off cs)
def setN (cs : List Value) (off : Nat) (vs : List Value) : Option (List Value) := setE off vs cs
def one (v : Value) : Bool := match v with | .agg _ => false | .tuple _ => false | _ => true
def lkOf (x : AObj) : Nat × Nat := match x.o with | .cells _ _ fr => fr | _ => (0, 0)
def ch (h : Heap) (i : Nat) : Nat := match h.get i with | some x => (lkOf x).1 | none => 0
def pa (h : Heap) (i : Nat) : Nat := match h.get i with | some x => (lkOf x).2 | none => 0
def gone : AObj := ⟨.number ⟨0, 0, none⟩ false, false⟩
def jO (h : Heap) (b : Nat) (lk : Nat × Nat) : Heap := match h.get b with | some ⟨.cells cs e _, m⟩ => h.put b ⟨.cells cs e lk, m⟩ | _ => h
def cutC : Nat → Heap → Nat → Option Heap
 | 0, _, _ => none
 | f + 1, h, b => match ch h b with
  | 0 => some h
  | c + 1 => match cutC f h c with
   | some h1 => some (jO (h1.put c gone) b (0, pa h1 b))
   | none => none
def cutP : Nat → Heap → Nat → Option Heap
 | 0, _, _ => none
 | f + 1, h, b => match pa h b with
  | 0 => some h
  | c + 1 => match cutP f h c with
   | some h1 => some (jO (h1.put c gone) b (ch h1 b, 0))
   | none => none
def aloneB (h : Heap) (b : Nat) : Bool := match h.get b with
 | some ⟨.cells _ _ (0, 0), _⟩ => true
 | _ => false
def detach (h : Heap) (b : Nat) : Option Heap := match aloneB h b with
 | true => some h
 | false => match cutC 100000 h b with
  | some h1 => cutP 100000 h1 b
  | none => none
def mkRow (h : Heap) (e : TypeId) (cs : List Value) (more : Bool) : Option (Nat × Heap) :=
 match foneL h.next cs with
 | true => some (h.new ⟨.cells ⟨cs⟩ e, more⟩)
 | false => none
def seen (lo b : Nat) (v : Value) : Option Value := Bool.rec (motive := fun _ => Option Value) (Bool.rec (motive := fun _ => Option Value) none (some v) (fsc lo v)) (some v) (Nat.ble lo b)
def evLoad (P : Program) (t : TypeId) (a : Value) (h : Heap) : Option Value :=
 match a with
 | .pointer (some ⟨b, off, none⟩) => match cells h b with
  | some (cs, _, _) => match isAggT P t with
   | some true => match szT P t with
    | some n => match takeN cs off n with
     | some l => seen h.lo b (.agg ⟨l⟩)
     | none => none
    | none => none
   | some false => match cs[off]? with
    | some v => seen h.lo b v
    | none => none
   | none => none
  | none => none
 | _ => none
def evStore (P : Program) (t : TypeId) (a : Value) (v : Value) (h : Heap) : Option Heap :=
 match a with
 | .pointer (some ⟨b, off, none⟩) => match detach h b with
  | none => none
  | some h => match cells h b, szT P t with
   | some (cs, e, m), some n => match Nat.beq v.cells.size n && foneL h.next v.cells.toList && Nat.ble h.lo b with
    | true => match setN cs off v.cells.toList with
     | some cs' => some (h.put b ⟨.cells ⟨cs'⟩ e, m⟩)
     | none => none
    | false => none
   | _, _ => none
 | _ => none
def srcCells (size n : Nat) (x : Value) (h : Heap) : Option (List Value) :=
 match x with
 | .slice a _ _ => match n with
  | 0 => some []
  | n + 1 => match a with
   | some ⟨b, off, none⟩ => match cells h b with
    | some (cs, _, _) => match takeN cs off ((n + 1) * size) with
     | some l => Bool.rec (motive := fun _ => Option (List Value)) (Bool.rec (motive := fun _ => Option (List Value)) none (some l) (foneL h.lo l)) (some l) (Nat.ble h.lo b)
     | none => none
    | none => none
   | _ => none
 | .string s => match Nat.beq n s.size && Nat.beq size 1 with
  | true => some (s.data.toList.map fun b => .int .u8 b.toNat)
  | false => none
 | _ => none
def lenV : Value → Option Nat
 | .slice _ n _ => some n
 | .string s => some s.size
 | _ => none
def appIn (e : TypeId) (size n cap m : Nat) (base : Option Addr) (new : List Value) (h : Heap) : Option (Value × Heap) :=
 match base with
 | some ⟨b, off, none⟩ => match cells h b with
  | some (cs, e', true) => match Nat.beq e' e && Nat.ble UC cap && Nat.beq off ((cap - UC) * size) && Nat.blt 0 size && Nat.ble (off + (n + m) * size) cs.length && Nat.ble h.lo b with
   | true => match m with
    | 0 => some (.slice (some ⟨b, off, none⟩) (n + 0) cap, h)
    | m + 1 => match aloneB h b, setN cs (off + n * size) new with
     | true, some cs' => some (.slice (some ⟨b, off, none⟩) (n + (m + 1)) cap, h.put b ⟨.cells ⟨cs'⟩ e', true⟩)
     | _, _ => none
   | false => none
  | _ => none
 | _ => none
def appTip (e : TypeId) (i : TypeInfo) (size n cap m : Nat) (base : Option Addr) (new : List Value) (h : Heap) : Option (Value × Heap) :=
     match base with
     | some ⟨b, 0, none⟩ => match cutC 100000 h b with
      | none => none
      | some h => match cells h b with
       | some (cs, e', true) => match Nat.beq e' e && Nat.beq cap UC && Nat.ble h.lo b && Nat.beq cs.length (n * size) && Nat.blt ((n + m) * i.bytes + (n + m)) U, i.zero with
        | true, some z => match Nat.beq z.cells.size size && Nat.blt 0 size && foneL h.next new with
         | true => some (.slice (some ⟨h.next, 0, none⟩) (n + m) UC, ((jO h b (h.next + 1, pa h b)).new ⟨.cells ⟨cs ++ new⟩ e (0, b + 1), true⟩).2)
         | false => none
        | _, _ => none
       | _ => none
     | _ => none
def evAppend (P : Program) (sT xT : TypeId) (s x : Value) (h : Heap) : Option (Value × Heap) :=
 match P.underlying sT, s, lenV x with
 | some (.slice e), .slice base n cap, some m =>
  match (match P.underlying xT with | some (.int _) => none | none => none | some _ => P.info? e) with
  | none => none
  | some i =>
   let size := i.size
   match srcCells size m x h with
   | none => none
   | some new =>
    match Nat.blt cap UC with
    | true => match Nat.ble (n + m) cap with
     | true => match base with
      | none => match new with | [] => some (.slice none (n + m) cap, h) | _ => none
      | some ⟨b, off, none⟩ => match m with
       | 0 => some (.slice base (n + 0) cap, h)
       | m + 1 => match cells h b with
       | some (cs, e', mo) => match Nat.ble h.lo b && aloneB h b, setN cs (off + n * size) new with
        | true, some cs' => some (.slice base (n + (m + 1)) cap, h.put b ⟨.cells ⟨cs'⟩ e', mo⟩)
        | _, _ => none
       | none => none
      | _ => none
     | false => match srcCells size n s h, Nat.blt ((n + m) * i.bytes + (n + m)) U, i.zero with
      | some old, true, some z => match Nat.beq z.cells.size size && Nat.blt 0 size with
       | true => match mkRow h e (old ++ new) true with
        | some (b, h') => some (.slice (some ⟨b, 0, none⟩) (n + m) UC, h')
        | none => none
       | false => none
      | _, _, _ => none
    | false => match appIn e size n cap m base new h with
     | some r => some r
     | none => appTip e i size n cap m base new h
 | _, _, _ => none
def evMake (P : Program) (t : TypeId) (l c : Value) (h : Heap) : Option (Value × Heap) :=
 match P.underlying t, l, c with
 | some (.slice e), .int _ (.ofNat l), .int _ (.ofNat c) =>
  match P.info? e with
  | some i => match Nat.ble l c && Nat.blt (c * i.bytes + c) U, i.zero with
   | true, some z => match Nat.beq z.cells.size i.size && Nat.blt 0 i.size && flatL z.cells.toList with
    | true => match mkRow h e (List.replicate c z.cells.toList).flatten false with
     | some (b, h') => some (.slice (some ⟨b, 0, none⟩) l c, h')
     | none => none
    | false => none
   | _, _ => none
  | none => none
 | _, _, _ => none
def zeroOf (P : Program) (t : TypeId) : Option Value := match P.info? t with | some i => i.zero | none => none
def sliceRead (P : Program) (t : TypeId) (a : Option Addr) (len cap : Nat) (lo hi mx : Option Value) (h : Heap) : Option Value :=
 match P.underlying t, a with
 | some (.slice e), some ⟨b, off, none⟩ => match szT P e, cells h b with
  | some size, some (cs, e', true) => match Nat.beq e' e && Nat.ble UC cap && Nat.beq off ((cap - UC) * size) && Nat.blt 0 size && Nat.ble (off + len * size) cs.length && Nat.blt (Nat.div (cs.length - off) size) U with
   | true => match bounds len (Nat.div (cs.length - off) size) mx hi lo with
    | some (l, h, m) => match m with
     | some m => match Nat.beq m l with
      | true => some (.slice (some ⟨b, off, none⟩) (h - l) (m - l))
      | false => some (.slice (some ((⟨b, off, none⟩ : Addr).add (l * size))) (h - l) (m - l))
     | none => match Nat.blt l (Nat.div (cs.length - off) size) with
      | true => some (.slice (some ((⟨b, off, none⟩ : Addr).add (l * size))) (h - l) (cap + l))
      | false => match l with
       | 0 => some (.slice (some ⟨b, off, none⟩) (h - 0) (cap + 0))
       | l + 1 => some (.slice (some ⟨b, off, some (off + (l + 1) * size)⟩) (h - (l + 1)) (cap + (l + 1)))
    | none => none
   | false => none
  | _, _ => none
 | _, _ => none
def bytesOf : List Value → Option (List UInt8)
 | [] => some []
 | .int .u8 n :: vs => match bytesOf vs with | some l => some (UInt8.ofNat n.toNat :: l) | none => none
 | _ :: _ => none
def dataRead (P : Program) (v : Value) (h : Heap) : Option Value :=
 match v with
 | .slice none _ _ => some (.pointer none)
 | .slice (some ⟨b, off, none⟩) _ c => match Nat.blt c UC with
  | true => match c with
   | 0 => none
   | _ + 1 => some (.pointer (some ⟨b, off, none⟩))
  | false => match cells h b with
   | some (cs, e, true) => match szT P e with
    | some size => match Nat.blt 0 size && Nat.blt ((c - UC) * size) cs.length with
     | true => some (.pointer (some ⟨b, off, none⟩))
     | false => none
    | none => none
   | _ => none
 | _ => none
def jH : List Value → Option (List UInt8)
 | [] => some []
 | .int .u8 (.ofNat m) :: vs => match Nat.blt m 256, jH vs with
  | true, some l => some (UInt8.ofNat m :: l)
  | _, _ => none
 | _ :: _ => none
def strEff (P : Program) (pt : TypeId) (p n : Value) (h : Heap) : Option (Value × Heap) :=
 match p, n with
 | .pointer q, .int .i64 (.ofNat n) => match n with
  | 0 => some (.string .empty, h)
  | n + 1 => match q with
   | some ⟨b, 0, none⟩ => match detach h b with
    | none => none
    | some h => match P.underlying pt, cells h b, Nat.ble h.lo b with
    | some (.pointer e), some (cs, e', _), true => match Nat.beq e e' && Nat.beq (P.cellsOf e) 1 && Nat.blt n U, takeN cs 0 (n + 1) with
     | true, some l => match jH l with
      | some bs => some (.string ⟨⟨bs⟩⟩, h.put b ⟨.number ⟨0, 0, none⟩ false, false⟩)
      | none => none
     | _, _ => none
    | _, _, _ => none
   | _ => none
 | _, _ => none
def mapOf (h : Heap) (r : Nat) : Option (List MapEntry × Nat) :=
 match h.get r with
 | some ⟨.map ⟨es⟩ c, _⟩ => match Nat.ble h.lo r with | true => some (es, c) | false => none
 | _ => none
def keyOk (P : Program) (kt : TypeId) (k : Value) : Bool :=
 match P.underlying kt, k with
 | some (.int _), .int _ _ => true
 | some .string, .string _ => true
 | _, _ => false
def keyEq (a b : Value) : Option Bool :=
 match a, b with
 | .int k a, .int j b => match decide (k = j) with | true => some (decide (a = b)) | false => none
 | .string a, .string b => some (beqB a.data.toList b.data.toList)
 | _, _ => none
def findE (k : Value) : List MapEntry → Nat → Option (Option (Nat × Value))
 | [], _ => some none
 | e :: es, i => match keyEq k e.key with
  | some true => some (some (i, e.val))
  | some false => findE k es (i + 1)
  | none => none
def modE (k x : Value) : List MapEntry → Nat → List MapEntry
 | [], _ => []
 | e :: es, 0 => ⟨k, x, e.born⟩ :: es
 | e :: es, i + 1 => e :: modE k x es i
def delE : List MapEntry → Nat → List MapEntry
 | [], _ => []
 | _ :: es, 0 => es
 | e :: es, i + 1 => e :: delE es i
def entsOf (m : Value) (h : Heap) : Option (List MapEntry) :=
 match m with
 | .map none => some []
 | .map (some r) => match mapOf h r with | some (es, _) => some es | none => none
 | _ => none
def okV2 (ok : Bool) (v : Value) (b : Bool) : Value := match ok with | true => .tuple #[v, .bool b] | false => v
def lookRead (P : Program) (t : TypeId) (x i : Value) (ok : Bool) (h : Heap) : Option Value :=
 match P.underlying t with
 | some (.map kt et) => match keyOk P kt i, entsOf x h with
  | true, some es => match findE i es 0 with
   | some (some (_, v)) => some (okV2 ok v true)
   | some none => match zeroOf P et with
    | some z => match flat z with | true => some (okV2 ok z false) | false => none
    | none => none
   | none => none
  | _, _ => none
 | _ => none
def mapLen (P : Program) (t : TypeId) (x : Value) (h : Heap) : Option Value :=
 match P.underlying t with
 | some (.map _ _) => match entsOf x h with | some es => some (goInt es.length) | none => none
 | _ => none
def lastN : List Nat → Option Nat
 | [] => none
 | [x] => some x
 | _ :: l => lastN l
def bornE (n : Nat) : List MapEntry → Option MapEntry
 | [] => none
 | e :: es => match Nat.beq e.born n with | true => some e | false => bornE n es
def entryRead (it : Value) (h : Heap) : Option Value :=
 match it with
 | .pointer (some ⟨b, 0, none⟩) => match h.get b, Nat.ble h.lo b with
  | some ⟨.mapIter (some m) _ ⟨seen⟩ last, _⟩, true => match mapOf h m, lastN seen with
   | some (es, c), some n => match Nat.beq c last, bornE n es with
    | true, some e => some (.tuple #[e.key, e.val])
    | _, _ => none
   | _, _ => none
  | _, _ => none
 | _ => none
def mapRead (P : Program) (o : Oper) (tm : VT) (h : Heap) : Option Value :=
 match o.op with
 | .lookup t x i ok => lookRead P t (ev tm x) (ev tm i) ok h
 | .entry it => entryRead (ev tm it) h
 | .call { callee := .builtin .len, args, argTypes } => match args.toList, argTypes.toList with
  | [x], [t] => mapLen P t (ev tm x) h
  | _, _ => none
 | .call { callee := .builtin b, args, .. } => match bNo b, args.toList with
  | 20, [x] => dataRead P (ev tm x) h
  | _, _ => none
 | _ => none
def mapPut (h : Heap) (r : Nat) (es : List MapEntry) (c : Nat) : Heap := h.put r ⟨.map ⟨es⟩ c, false⟩
def mapSet (P : Program) (t : TypeId) (m k x : Value) (h : Heap) : Option (Value × Heap) :=
 match P.underlying t, m with
 | some (.map kt _), .map (some r) => match keyOk P kt k && fsc h.next x, mapOf h r with
  | true, some (es, c) => match findE k es 0 with
   | some (some (i, _)) => some (undef, mapPut h r (modE k x es i) c)
   | some none => some (undef, mapPut h r (es ++ [⟨k, x, c⟩]) (c + 1))
   | none => none
  | _, _ => none
 | _, _ => none
def mapDel (P : Program) (t : TypeId) (m k : Value) (h : Heap) : Option (Value × Heap) :=
 match P.underlying t with
 | some (.map kt _) => match keyOk P kt k, m with
  | true, .map none => some (.tuple #[], h)
  | true, .map (some r) => match mapOf h r with
   | some (es, c) => match findE k es 0 with
    | some (some (i, _)) => some (.tuple #[], mapPut h r (delE es i) c)
    | some none => some (.tuple #[], mapPut h r es c)
    | none => none
   | none => none
  | _, _ => none
 | _ => none
def rowClr (P : Program) (e : TypeId) (b off n : Nat) (h : Heap) : Option (Value × Heap) :=
 match detach h b with
 | none => none
 | some h => match cells h b, zeroOf P e with
 | some (cs, t, m), some z => match flatL z.cells.toList && z.cells.toList.all one && Nat.ble h.lo b with
  | true => match setN cs off (List.replicate n z.cells.toList).flatten with
   | some cs' => some (.tuple #[], h.put b ⟨.cells ⟨cs'⟩ t, m⟩)
   | none => none
  | false => none
 | _, _ => none
def mapClr (P : Program) (t : TypeId) (m : Value) (h : Heap) : Option (Value × Heap) :=
 match P.underlying t with
 | some (.slice e) => match m with
  | .slice none _ _ => some (.tuple #[], h)
  | .slice (some ⟨b, off, none⟩) n _ => match n with
   | 0 => some (.tuple #[], h)
   | n + 1 => rowClr P e b off (n + 1) h
  | _ => none
 | some (.map _ _) => match m with
  | .map none => some (.tuple #[], h)
  | .map (some r) => match mapOf h r with
   | some (_, c) => some (.tuple #[], mapPut h r [] c)
   | none => none
  | _ => none
 | _ => none
def mapNew (P : Program) (t : TypeId) (r : Option Value) (h : Heap) : Option (Value × Heap) :=
 match P.underlying t, r with
 | some (.map _ _), none => some (.map (some h.next), (h.new ⟨.map ⟨[]⟩ 0, false⟩).2)
 | _, _ => none
def mapRange (x : Value) (h : Heap) : Option (Value × Heap) :=
 match x with
 | .map none => some (.pointer (some ⟨h.next, 0, none⟩), (h.new ⟨.mapIter none 0 #[] 0, false⟩).2)
 | .map (some m) => match mapOf h m with
  | some (_, c) => some (.pointer (some ⟨h.next, 0, none⟩), (h.new ⟨.mapIter (some m) c #[] c, false⟩).2)
  | none => none
 | _ => none
def memN (n : Nat) : List Nat → Bool
 | [] => false
 | x :: l => match Nat.beq x n with | true => true | false => memN n l
def leftE (seen : List Nat) : List MapEntry → List MapEntry
 | [] => []
 | e :: es => match memN e.born seen with | true => leftE seen es | false => e :: leftE seen es
def oldE (since : Nat) : List MapEntry → List MapEntry
 | [] => []
 | e :: es => match Nat.blt e.born since with | true => e :: oldE since es | false => oldE since es
def newE (since : Nat) : List MapEntry → List MapEntry
 | [] => []
 | e :: es => match Nat.blt e.born since with | true => newE since es | false => e :: newE since es
def anyOld (last : Nat) : List MapEntry → Bool
 | [] => false
 | e :: es => match Nat.blt e.born last with | true => true | false => anyOld last es
def mapNext (it : Value) (h : Heap) : Option (Value × Heap) :=
 match it with
 | .pointer (some ⟨b, 0, none⟩) => match h.get b, Nat.ble h.lo b with
  | some ⟨.mapIter none _ _ _, _⟩, true => some (.tuple #[.bool false], h)
  | some ⟨.mapIter (some m) since ⟨seen⟩ last, _⟩, true => match mapOf h m with
   | some (es, c) => match (seen.isEmpty || es.isEmpty || anyOld last es), oldE since (leftE seen es), newE since (leftE seen es) with
    | true, [], [] => some (.tuple #[.bool false], h)
    | true, [e], [] => some (.tuple #[.bool true, e.key, e.val], h.put b ⟨.mapIter (some m) since ⟨seen ++ [e.born]⟩ c, false⟩)
    | _, _, _ => none
   | none => none
  | _, _ => none
 | _ => none
def mapEff (P : Program) (o : Oper) (tm : VT) (h : Heap) : Option (Value × Heap) :=
 match o.op with
 | .makeMap t r => mapNew P t (r.map (ev tm)) h
 | .mapUpdate t m k x => mapSet P t (ev tm m) (ev tm k) (ev tm x) h
 | .insert t m k x => mapSet P t (ev tm m) (ev tm k) (ev tm x) h
 | .call { callee := .builtin .delete, args, argTypes } => match args.toList, argTypes.toList with
  | [m, k], t :: _ => mapDel P t (ev tm m) (ev tm k) h
  | _, _ => none
 | .call { callee := .builtin .clear, args, argTypes } => match args.toList, argTypes.toList with
  | [m], [t] => mapClr P t (ev tm m) h
  | _, _ => none
 | .next it false => mapNext (ev tm it) h
 | .call { callee := .builtin b, args, argTypes } => match bNo b, argTypes.toList, args.toList with
  | 21, [pt, _], [x, n] => strEff P pt (ev tm x) (ev tm n) h
  | _, _, _ => none
 | _ => none
def ptrConv (P : Program) (s d : TypeId) (x : Value) (h : Heap) : Option Value :=
 match P.underlying s, P.underlying d, x with
 | some S, some D, .pointer (some ⟨b, off, none⟩) => match isUP S, isUP D with
  | false, true => match S with
   | .pointer t => match szT P t, cells h b with
    | some (_ + 1), some (cs, _, _) => match Nat.ble h.lo b && Nat.blt off cs.length with | true => some x | false => none
    | _, _ => none
   | _ => none
  | true, false => match D with
   | .pointer u => match cells h b with
    | some (cs, e, false) => match Nat.ble h.lo b && (szT P u).isSome && liesAt P P.depth e (cs.length / P.cellsOf e) off u 1 with | true => some x | false => none
    | _ => none
   | _ => none
  | _, _ => none
 | _, _, _ => none
def evRead (P : Program) (o : Oper) (tm : VT) (h : Heap) : Option Value :=
 match o.op with
 | .load t a => evLoad P t (ev tm a) h
 | .slice t x lo hi mx => match ev tm x with
  | .slice a n c => sliceRead P t a n c (lo.map (ev tm)) (hi.map (ev tm)) (mx.map (ev tm)) h
  | _ => none
 | .convert s d x => match P.underlying s, P.underlying d, ev tm x with
  | some (.slice e), some .string, .slice none _ _ => match P.underlying e with
   | some (.int .u8) => some (.string .empty)
   | _ => none
  | some (.slice e), some .string, .slice (some ⟨_, _, none⟩) 0 _ => match P.underlying e with
   | some (.int .u8) => some (.string .empty)
   | _ => none
  | some (.slice e), some .string, .slice (some ⟨g, off, none⟩) n _ => match P.underlying e, cells h g with
   | some (.int .u8), some (cs, _, _) => match takeN cs off n with
    | some l => match bytesOf l with
     | some l => some (.string ⟨⟨l⟩⟩)
     | none => none
    | none => none
   | _, _ => none
  | _, _, _ => ptrConv P s d (ev tm x) h
 | _ => mapRead P o tm h
def markEff (P : Program) (s d e : TypeId) (g : Nat) (v : Value) (h : Heap) : Option (Value × Heap) :=
 match P.underlying e, Nat.beq s d, Nat.ble h.lo g && aloneB h g, h.get g with
 | some (.int .u8), true, true, some ⟨.cells _ _ _, _⟩ => some (v, h)
 | _, _, _, _ => none
def evEff (P : Program) (o : Oper) (tm : VT) (h : Heap) : Option (Value × Heap) :=
 match o.op with
 | .alloc e => match zeroOf P e with
  | some z => match flat z with
   | true => match mkRow h e z.cells.toList false with
    | some (b, h') => some (.pointer (some ⟨b, 0, none⟩), h')
    | none => none
   | false => none
  | none => none
 | .box e x => match mkRow h e (ev tm x).cells.toList false with
  | some (b, h') => some (.pointer (some ⟨b, 0, none⟩), h')
  | none => none
 | .buildSlice t len parts => match P.underlying t with
  | some (.slice e) => match P.info? e with
   | some i => match Nat.ble (len * i.size) 16777216, i.zero with
    | true, some z => match Nat.beq z.cells.size i.size && Nat.blt 0 i.size && flatL z.cells.toList with
     | true => match fillL (fun j => some (j * i.size, i.size)) (List.replicate len z.cells.toList).flatten (parts.toList.map fun (j, x) => (j, ev tm x)) with
      | some cs => match mkRow h e cs false with
       | some (b, h') => some (.slice (some ⟨b, 0, none⟩) len len, h')
       | none => none
      | none => none
     | false => none
    | _, _ => none
   | none => none
  | _ => none
 | .store t a x => match evStore P t (ev tm a) (ev tm x) h with | some h' => some (undef, h') | none => none
 | .makeSlice t l c => evMake P t (ev tm l) (ev tm c) h
 | .call { callee := .builtin .append, args, argTypes } =>
  match argTypes.toList, args.toList with
  | [sT, xT], [s, x] => evAppend P sT xT (ev tm s) (ev tm x) h
  | _, _ => none
 | .range t x => match P.underlying t, ev tm x with
  | some .string, .string s => some (.pointer (some ⟨h.next, 0, none⟩), (h.new ⟨.stringIter s 0, false⟩).2)
  | some (.map _ _), x => mapRange x h
  | _, _ => none
 | .next it true => match ev tm it with
  | .pointer (some ⟨b, 0, none⟩) => match h.get b, Nat.ble h.lo b with
   | some ⟨.stringIter s pos, false⟩, true => match Nat.blt pos s.size with
    | true => some (.tuple #[.bool true, goInt pos, .int .i32 (Utf8.decode s pos).1], h.put b ⟨.stringIter s (pos + (Utf8.decode s pos).2), false⟩)
    | false => some (.tuple #[.bool false], h)
   | _, _ => none
  | _ => none
 | .convert s d x => match P.underlying s, P.underlying d, ev tm x with
  | some .string, some (.slice e), .string b => match P.underlying e, szT P e with
   | some (.int .u8), some 1 => match Nat.blt b.size U with
    | true => match mkRow h e (b.data.toList.map fun x => .int .u8 x.toNat) true with
     | some (g, h') => some (.slice (some ⟨g, 0, none⟩) b.size UC, h')
     | none => none
    | false => none
   | _, _ => none
  | some (.slice _), some (.slice e), .slice (some ⟨g, off, none⟩) n c => markEff P s d e g (.slice (some ⟨g, off, none⟩) n c) h
  | _, _, _ => none
 | _ => mapEff P o tm h
def fCmp (op : BinOp) (a b : Nat) : Option Value :=
 match op with
 | .lss => some (.bool (Nat.blt a b))
 | .leq => some (.bool (Nat.ble a b))
 | .gtr => some (.bool (Nat.blt b a))
 | .geq => some (.bool (Nat.ble b a))
 | .eql => some (.bool (Nat.beq a b))
 | .neq => some (.bool (!Nat.beq a b))
 | _ => none
def fBin (op : BinOp) (a b : Value) : Option Value :=
 match a with
 | .int k (.ofNat a) => match b with
  | .int j (.ofNat b) => match decide (k = j) with
   | true => fCmp op a b
   | false => none
  | _ => none
 | _ => none
def fPure_2 (tm : VT) (c : Operand) (a : Operand) (b : Operand) : Option Value :=
 match ev tm c with | .bool true => some (ev tm a) | .bool false => some (ev tm b) | _ => none
def fPure_3 (tm : VT) (t : Operand) (i : Nat) : Option Value :=
 match ev tm t with | .tuple vs => vs[i]? | _ => none
def fPure_4 (P : Program) (tm : VT) (op : BinOp) (t : TypeId) (x : Operand) (y : Operand) : Option Value :=
 match fBin op (ev tm x) (ev tm y) with
  | some v => some v
  | none => binPure P op t x y (ev tm x) (ev tm y)
def fPure_5 (P : Program) (tm : VT) (op : UnOp) (x : Operand) : Option Value :=
 match op, ev tm x with
  | .not, .bool b => some (.bool (!b))
  | op, v => pvF P (Op.unary op v) (flat v)
def fPure_6 (P : Program) (tm : VT) (s : TypeId) (d : TypeId) (x : Operand) : Option Value :=
 pvF P (convert s d (ev tm x)) (flat (ev tm x))
def fPure_7 (P : Program) (tm : VT) (s : TypeId) (x : Operand) (f : Nat) : Option Value :=
 match P.underlying s, ev tm x with
  | some (.struct fs), .pointer (some a) => match fs[f]? with
   | some fl => match szT P fl.type with
    | some (_ + 1) => some (.pointer (some (a.add fl.offset)))
    | _ => none
   | none => none
  | _, _ => none
def fPure_8 (P : Program) (tm : VT) (t : TypeId) (x : Operand) (f : Nat) : Option Value :=
 match P.underlying t, ev tm x with
  | some (.struct fs), .agg cs => match fs[f]? with
   | some fl => partV P fl.type cs.toList fl.offset
   | none => none
  | _, _ => none
def fPure_9 (P : Program) (tm : VT) (t : TypeId) (x : Operand) (i : Operand) : Option Value :=
 match P.underlying t, ev tm x, ev tm i with
  | some (.slice e), .slice (some a) len _, .int _ (.ofNat n) => match Nat.blt n len, szT P e with
   | true, some size => some (.pointer (some (a.add (n * size))))
   | _, _ => none
  | some (.array len e), .pointer (some a), .int _ (.ofNat n) => match Nat.blt n len, szT P e with
   | true, some size => some (.pointer (some (a.add (n * size))))
   | _, _ => none
  | _, _, _ => none
def fPure_10 (P : Program) (tm : VT) (t : TypeId) (x : Operand) (i : Operand) : Option Value :=
 match ev tm x, ev tm i with
  | .string s, .int k n => pvF P (Instr.index t (.string s) (.int k n)) true
  | .agg cs, .int _ (.ofNat n) => match P.underlying t with
   | some (.array len e) => match Nat.blt n len, szT P e with
    | true, some size => partV P e cs.toList (n * size)
    | _, _ => none
   | _ => none
  | _, _ => none
def fPure_11 (P : Program) (tm : VT) (t : TypeId) (x : Operand) (lo : Option Operand) (hi : Option Operand) (mx : Option Operand) : Option Value :=
 match ev tm x with
  | .string s => pvF P (Instr.sliceAt t (.string s) (lo.map (ev tm)) (hi.map (ev tm)) (mx.map (ev tm))) ((lo.map (ev tm)).all flat && (hi.map (ev tm)).all flat && (mx.map (ev tm)).all flat)
  | .slice a n c => slicePure P t a n c (lo.map (ev tm)) (hi.map (ev tm)) (mx.map (ev tm))
  | .pointer (some a) => sliceArr P t a (lo.map (ev tm)) (hi.map (ev tm)) (mx.map (ev tm))
  | _ => none
def fPure_12 (P : Program) (tm : VT) (t : TypeId) (parts : Array (Nat × Operand)) : Option Value :=
 buildV P t (parts.toList.map fun (i, x) => (i, ev tm x))
def fPure_13 (tm : VT) (g : FuncId) (f : Array Operand) (c : Array Operand) : Option Value :=
 some (.func (.func g) (f.map (ev tm)) (c.map (ev tm)))
def fPure_14 (P : Program) (tm : VT) (t : TypeId) (x : Operand) : Option Value :=
 match P.underlying t with
  | some (.interface _) => none
  | some _ => some (.iface t (ev tm x))
  | none => none
def fPure_15 (tm : VT) (x : Operand) : Option Value :=
 match ev tm x with
  | .pointer (some a) => some (.pointer (some a))
  | .func (.func g) f c => some (.func (.func g) f c)
  | _ => none
def fPure_16 (P : Program) (tm : VT) (args : Array Operand) (argTypes : Array TypeId) : Option Value :=
  match args[0]?, argTypes[0]? with
  | some x, some t => match P.underlying t, ev tm x with
   | some .string, .string s => some (goInt s.size)
   | some (.slice _), .slice _ n _ => some (goInt n)
   | _, _ => none
  | _, _ => none
def fPure_17 (P : Program) (o : Oper) (tm : VT) (args : Array Operand) (argTypes : Array TypeId) : Option Value :=
 pvF P (Builtin.min_ argTypes o.type (args.map (ev tm))) (flatL (args.map (ev tm)).toList)
def fPure_18 (P : Program) (o : Oper) (tm : VT) (args : Array Operand) (argTypes : Array TypeId) : Option Value :=
 pvF P (Builtin.max_ argTypes o.type (args.map (ev tm))) (flatL (args.map (ev tm)).toList)
def fRead_0 (P : Program) (tm : VT) (h : Heap) (t : TypeId) (a : Operand) : Option Value :=
 evLoad P t (ev tm a) h
def fRead_1 (P : Program) (tm : VT) (h : Heap) (t : TypeId) (x : Operand) (lo : Option Operand) (hi : Option Operand) (mx : Option Operand) : Option Value :=
 match ev tm x with
  | .slice a n c => sliceRead P t a n c (lo.map (ev tm)) (hi.map (ev tm)) (mx.map (ev tm)) h
  | _ => none
def fRead_2 (P : Program) (tm : VT) (h : Heap) (s : TypeId) (d : TypeId) (x : Operand) : Option Value :=
 match P.underlying s, P.underlying d, ev tm x with
  | some (.slice e), some .string, .slice none _ _ => match P.underlying e with
   | some (.int .u8) => some (.string .empty)
   | _ => none
  | some (.slice e), some .string, .slice (some ⟨_, _, none⟩) 0 _ => match P.underlying e with
   | some (.int .u8) => some (.string .empty)
   | _ => none
  | some (.slice e), some .string, .slice (some ⟨g, off, none⟩) n _ => match P.underlying e, cells h g with
   | some (.int .u8), some (cs, _, _) => match takeN cs off n with
    | some l => match bytesOf l with
     | some l => some (.string ⟨⟨l⟩⟩)
     | none => none
    | none => none
   | _, _ => none
  | _, _, _ => ptrConv P s d (ev tm x) h
def fRead (P : Program) (o : Oper) (tm : VT) (h : Heap) : Option Value :=
 match o.op with
 | .load t a => fRead_0 P tm h t a
 | .slice t x lo hi mx => fRead_1 P tm h t x lo hi mx
 | .convert s d x => fRead_2 P tm h s d x
 | _ => mapRead P o tm h
def fEff_0 (P : Program) (h : Heap) (e : TypeId) : Option (Value × Heap) :=
 match zeroOf P e with
  | some z => match flat z with
   | true => match mkRow h e z.cells.toList false with
    | some (b, h') => some (.pointer (some ⟨b, 0, none⟩), h')
    | none => none
   | false => none
  | none => none
def fEff_1 (tm : VT) (h : Heap) (e : TypeId) (x : Operand) : Option (Value × Heap) :=
 match mkRow h e (ev tm x).cells.toList false with
  | some (b, h') => some (.pointer (some ⟨b, 0, none⟩), h')
  | none => none
def fEff_2 (P : Program) (tm : VT) (h : Heap) (t : TypeId) (len : Nat) (parts : Array (Nat × Operand)) : Option (Value × Heap) :=
 match P.underlying t with
  | some (.slice e) => match P.info? e with
   | some i => match Nat.ble (len * i.size) 16777216, i.zero with
    | true, some z => match Nat.beq z.cells.size i.size && Nat.blt 0 i.size && flatL z.cells.toList with
     | true => match fillL (fun j => some (j * i.size, i.size)) (List.replicate len z.cells.toList).flatten (parts.toList.map fun (j, x) => (j, ev tm x)) with
      | some cs => match mkRow h e cs false with
       | some (b, h') => some (.slice (some ⟨b, 0, none⟩) len len, h')
       | none => none
      | none => none
     | false => none
    | _, _ => none
   | none => none
  | _ => none
def fEff_3 (P : Program) (tm : VT) (h : Heap) (t : TypeId) (a : Operand) (x : Operand) : Option (Value × Heap) :=
 match evStore P t (ev tm a) (ev tm x) h with | some h' => some (undef, h') | none => none
def fEff_4 (P : Program) (tm : VT) (h : Heap) (t : TypeId) (l : Operand) (c : Operand) : Option (Value × Heap) :=
 evMake P t (ev tm l) (ev tm c) h
def fEff_5 (P : Program) (tm : VT) (h : Heap) (args : Array Operand) (argTypes : Array TypeId) : Option (Value × Heap) :=
  match argTypes.toList, args.toList with
  | [sT, xT], [s, x] => evAppend P sT xT (ev tm s) (ev tm x) h
  | _, _ => none
def fEff_6 (P : Program) (tm : VT) (h : Heap) (t : TypeId) (x : Operand) : Option (Value × Heap) :=
 match P.underlying t, ev tm x with
  | some .string, .string s => some (.pointer (some ⟨h.next, 0, none⟩), (h.new ⟨.stringIter s 0, false⟩).2)
  | some (.map _ _), x => mapRange x h
  | _, _ => none
def fEff_7 (tm : VT) (h : Heap) (it : Operand) : Option (Value × Heap) :=
 match ev tm it with
  | .pointer (some ⟨b, 0, none⟩) => match h.get b, Nat.ble h.lo b with
   | some ⟨.stringIter s pos, false⟩, true => match Nat.blt pos s.size with
    | true => some (.tuple #[.bool true, goInt pos, .int .i32 (Utf8.decode s pos).1], h.put b ⟨.stringIter s (pos + (Utf8.decode s pos).2), false⟩)
    | false => some (.tuple #[.bool false], h)
   | _, _ => none
  | _ => none
def fEff_8 (P : Program) (tm : VT) (h : Heap) (s : TypeId) (d : TypeId) (x : Operand) : Option (Value × Heap) :=
 match P.underlying s, P.underlying d, ev tm x with
  | some .string, some (.slice e), .string b => match P.underlying e, szT P e with
   | some (.int .u8), some 1 => match Nat.blt b.size U with
    | true => match mkRow h e (b.data.toList.map fun x => .int .u8 x.toNat) true with
     | some (g, h') => some (.slice (some ⟨g, 0, none⟩) b.size UC, h')
     | none => none
    | false => none
   | _, _ => none
  | some (.slice _), some (.slice e), .slice (some ⟨g, off, none⟩) n c => markEff P s d e g (.slice (some ⟨g, off, none⟩) n c) h
  | _, _, _ => none
inductive XExit where
 | normal
 | exit (id : Nat)
 | goto (l : Nat)
 | ret
def evResults (P : Program) (fn : Func) (tm : VT) (h : Heap) : Option Value :=
 let rec go : List ResultVar → Option (List Value)
  | [] => some []
  | .tmp t :: rs => match go rs with | some l => some (tm.get t :: l) | none => none
  | .cell a t :: rs => match evLoad P t (tm.get a) h, go rs with | some v, some l => some (v :: l) | _, _ => none
 match go fn.results.toList with
 | some [v] => some v
 | some l => some (.tuple ⟨l⟩)
 | none => none
abbrev Rec := Option Nat → Code → S → Option (XExit × S)
abbrev Ext := FuncId → List Value → Heap → Option (Value × Heap)
def put (tm : VT) (d : Option Tmp) (v : Value) : VT := match d with | some t => tm.set t v | none => tm
def evMarks : List Nat → Heap → Option Heap
 | [], h => some h
 | d :: ds, h => match h.get d with
  | some ⟨.deferred (some []), _⟩ => match Nat.ble h.lo d with
   | true => evMarks ds (h.put d ⟨.deferred none, false⟩)
   | false => none
  | _ => none
def evEnd (P : Program) (fn : Func) (s : S) : Option (Value × Heap) :=
 match evMarks s.df s.h with
 | some h => match evResults P fn s.tm h with
  | some v => some (v, h)
  | none => none
 | none => none
def evBody (P : Program) (rec : Rec) (f : FuncId) (args : List Value) (h : Heap) : Option (Value × Heap) :=
 match P.funcs[f]? with
 | some fn => match fn.body with
  | some c => match Nat.blt (VT.of args fn.ntmps).sz U with
   | true => match rec none c { tm := VT.of args fn.ntmps, df := [], h := h } with
    | some (.normal, s) => evEnd P fn s
    | some (.ret, s) => evEnd P fn s
    | _ => none
   | false => none
  | none => none
 | none => none
def evCall (P : Program) (X : Ext) (rec : Rec) (f : FuncId) (args : List Value) (h : Heap) : Option (Value × Heap) :=
 match X f args h with
 | some r => some r
 | none => evBody P rec f args h
def getLoopA (h : Heap) (l : Nat) : Option Loop :=
 match h.get l with
 | some ⟨.loop r, _⟩ => match Nat.ble h.lo l with
  | true => some r
  | false => none
 | _ => none
def putLoopA (h : Heap) (l : Nat) (r : Loop) : Heap := h.put l ⟨.loop r, false⟩
def evEnter (ro : Option Nat) (tm : VT) (ps : Array Tmp) (a b : Code) (h : Heap) : Option (Nat × List Nat × Heap) :=
 match ro with
 | some l => match getLoopA h l with
  | some r => some (h.next, [], (h.new ⟨.loop { state := .ready, pending := none, fn := 0, tmps := tm.arr, params := ps, assign := a, body := b, defers := r.defers }, false⟩).2)
  | none => none
 | none => some (h.next + 1, [h.next], ((h.new ⟨.deferred (some []), false⟩).2.new ⟨.loop { state := .ready, pending := none, fn := 0, tmps := tm.arr, params := ps, assign := a, body := b, defers := h.next }, false⟩).2)
def XExit.jump : XExit → Option Code
 | .normal => none
 | .exit id => some (.exit id)
 | .goto l => some (.goto l)
 | .ret => some .ret
def setAll : VT → List (Nat × Value) → VT
 | T, [] => T
 | T, (t, v) :: l => setAll (T.set t v) l
def evYield (rec : Rec) (l : Nat) (args : List Value) (h : Heap) : Option (Value × Heap) :=
 match getLoopA h l with
 | some r => match Nat.beq args.length r.params.toList.length && Nat.blt (VT.of r.tmps.toList 0).sz U with
  | true => match rec (some l) r.assign { tm := setAll (VT.of r.tmps.toList 0) (r.params.toList.zip args), df := [], h := h } with
   | some (.normal, s1) => match getLoopA s1.h l with
    | some r1 => match r1.state with
     | .ready => match rec (some l) r.body { tm := s1.tm, df := s1.df, h := putLoopA s1.h l { r1 with state := .busy } } with
      | some (e, s2) => match getLoopA s2.h l with
       | some r2 => some (.bool e.jump.isNone, putLoopA s2.h l { r2 with state := if e.jump.isNone then .ready else .done, pending := e.jump })
       | none => none
      | none => none
     | _ => none
    | none => none
   | _ => none
  | false => none
 | none => none
def evLeave (l : Nat) (s : S) : Option (XExit × S) :=
 match getLoopA s.h l with
 | some r => match r.state with
  | .busy => none
  | _ =>
   let s' : S := { s with h := putLoopA s.h l { r with state := .exhausted } }
   match r.pending with
   | none => some (.normal, s')
   | some (.exit id) => some (.exit id, s')
   | some (.goto t) => some (.goto t, s')
   | some .ret => some (.ret, s')
   | _ => none
 | none => none
inductive Rz where
 | no
 | pure (v : Value)
 | read (v : Value)
 | eff (v : Value) (h : Heap)
abbrev G := VT → Heap → Rz
def rP (r : Option Value) : Rz := Option.rec (motive := fun _ => Rz) .no Rz.pure r
def rE (r : Option (Value × Heap)) : Rz := Option.rec (motive := fun _ => Rz) .no (fun x => Prod.rec (motive := fun _ => Rz) Rz.eff x) r
def rR (r : Option Value) (k : Rz) : Rz := Option.rec (motive := fun _ => Rz) k Rz.read r
def rPR (r : Option Value) (k : Rz) : Rz := Option.rec (motive := fun _ => Rz) k Rz.pure r
def gNo : G := fun _ _ => .no
def gNo1 {α : Type} (_ : α) : G := gNo
def gNo2 {α β : Type} (_ : α) (_ : β) : G := gNo
def gNo3 {α β γ : Type} (_ : α) (_ : β) (_ : γ) : G := gNo
def gNo4 {α β γ δ : Type} (_ : α) (_ : β) (_ : γ) (_ : δ) : G := gNo
def gMove (x : Operand) : G := fun tm _ => .pure (ev tm x)
def gPick (c a b : Operand) : G := fun tm _ => rP (fPure_2 tm c a b)
def gAlloc (P : Program) (e : TypeId) : G := fun _ h => rE (fEff_0 P h e)
def gBox (e : TypeId) (x : Operand) : G := fun tm h => rE (fEff_1 tm h e x)
def gBuild (P : Program) (t : TypeId) (parts : Array (Nat × Operand)) : G := fun tm _ => rP (fPure_12 P tm t parts)
def gBuildSlice (P : Program) (t : TypeId) (len : Nat) (parts : Array (Nat × Operand)) : G := fun tm h => rE (fEff_2 P tm h t len parts)
def gLoad (P : Program) (t : TypeId) (a : Operand) : G := fun tm h => rR (fRead_0 P tm h t a) .no
def gStore (P : Program) (t : TypeId) (a x : Operand) : G := fun tm h => rE (fEff_3 P tm h t a x)
def gNilCheck (x : Operand) : G := fun tm _ => rP (fPure_15 tm x)
def gBin (P : Program) (op : BinOp) (t : TypeId) (x y : Operand) (_ : TypeId) : G := fun tm _ => rP (fPure_4 P tm op t x y)
def gUn (P : Program) (op : UnOp) (_ : TypeId) (x : Operand) : G := fun tm _ => rP (fPure_5 P tm op x)
def gConvert (P : Program) (s d : TypeId) (x : Operand) : G := fun tm h => rPR (fPure_6 P tm s d x) (rR (fRead_2 P tm h s d x) (rE (fEff_8 P tm h s d x)))
def gMakeInterface (P : Program) (t : TypeId) (x : Operand) : G := fun tm _ => rP (fPure_14 P tm t x)
def gMakeFunc (fn : Fn) (f c : Array Operand) : G := match fn with | .func g => fun tm _ => rP (fPure_13 tm g f c) | _ => gNo
def gMakeSlice (P : Program) (t : TypeId) (l c : Operand) : G := fun tm h => rE (fEff_4 P tm h t l c)
def gSlice (P : Program) (t : TypeId) (x : Operand) (lo hi mx : Option Operand) : G := fun tm h => rPR (fPure_11 P tm t x lo hi mx) (rR (fRead_1 P tm h t x lo hi mx) .no)
def gFieldAddr (P : Program) (s : TypeId) (x : Operand) (f : Nat) : G := fun tm _ => rP (fPure_7 P tm s x f)
def gField (P : Program) (s : TypeId) (x : Operand) (f : Nat) : G := fun tm _ => rP (fPure_8 P tm s x f)
def gIndexAddr (P : Program) (t : TypeId) (x i : Operand) : G := fun tm _ => rP (fPure_9 P tm t x i)
def gIndex (P : Program) (t : TypeId) (x i : Operand) : G := fun tm _ => rP (fPure_10 P tm t x i)
def gRange (P : Program) (t : TypeId) (x : Operand) : G := fun tm h => rE (fEff_6 P tm h t x)
def gMapEff (P : Program) (o : Oper) : G := fun tm h => rE (mapEff P o tm h)
def gMapRead (P : Program) (o : Oper) : G := fun tm h => rR (mapRead P o tm h) .no
def gNext (P : Program) (o : Oper) (it : Operand) (b : Bool) : G := match b with | true => fun tm h => rE (fEff_7 tm h it) | false => gMapEff P o
def gExtract (t : Operand) (i : Nat) : G := fun tm _ => rP (fPure_3 tm t i)
def gBuiltin (P : Program) (o : Oper) (args : Array Operand) (ats : Array TypeId) (b : Builtin) : G :=
 match b with
 | .len => fun tm h => rPR (fPure_16 P tm args ats) (rR (mapRead P o tm h) .no)
 | .delete => gMapEff P o
 | .clear => gMapEff P o
 | .append => fun tm h => rE (fEff_5 P tm h args ats)
 | .min => fun tm _ => rP (fPure_17 P o tm args ats)
 | .max => fun tm _ => rP (fPure_18 P o tm args ats)
 | b => match bNo b with
  | 20 => gMapRead P o
  | 21 => gMapEff P o
  | _ => gNo
def callV (P : Program) (X : Ext) (rec : Rec) (f : Value) (args : List Value) (h : Heap) : Option (Value × Heap) :=
 match f with
 | .func (.func g) ⟨[]⟩ ⟨captured⟩ => evCall P X rec g (args ++ captured) h
 | .func (.yield l) ⟨[]⟩ _ => evYield rec l args h
 | _ => none
def gValue (P : Program) (X : Ext) (rec : Rec) (args : Array Operand) (f : Operand) : G := fun tm h => rE (callV P X rec (ev tm f) (args.toList.map (ev tm)) h)
def gCall (P : Program) (X : Ext) (rec : Rec) (o : Oper) (c : Call) : G :=
 Call.rec (motive := fun _ => G) (fun cl args ats => Callee.rec (motive := fun _ => G) (gValue P X rec args) gNo2 (gBuiltin P o args ats) cl) c
def evOp (P : Program) (X : Ext) (rec : Rec) (o : Oper) : G :=
 Op.rec (motive := fun _ => G) gMove gMove gPick (gAlloc P) gBox (gBuild P) (gBuildSlice P) (fun _ _ _ _ => gMapEff P o) (gLoad P) (gStore P) gNo1 gNo1 gNilCheck (gBin P) (gUn P) (gConvert P) gNo2 (gMakeInterface P) gMakeFunc (fun _ _ => gMapEff P o) gNo2 (gMakeSlice P) (gSlice P)
  (gFieldAddr P) (gField P) (gIndexAddr P) (gIndex P) (fun _ _ _ _ => gMapRead P o) (fun _ _ _ _ => gMapEff P o) gNo3 gNo4 (gRange P) (gNext P o) (fun _ => gMapRead P o) gNo4 gExtract (gCall P X rec o) gNo1 gNo1 gNo1 gNo2 gNo3 gNo2 o.op
def yl (ops : List Oper) (tm : VT) (j : Nat) : Option Bool :=
 match ops[j]? with
 | some o => match o.dst with
  | some d => match tm.get d with
   | .bool b => some b
   | _ => none
  | none => none
 | none => none
def wanted (ops : List Oper) (tm : VT) (o : Oper) : Option Bool :=
 match o.guard with
 | none => some true
 | some (j, w) => some (match yl ops tm j with | some b => (match b, w with | true, true => true | false, false => true | _, _ => false) | none => false)
abbrev KT := VT → Heap → Option (VT × Heap)
def okE (k : KT) (tm : VT) (d : Option Tmp) (v : Value) (h : Heap) : Option (VT × Heap) :=
 Bool.rec (motive := fun _ => Option (VT × Heap)) none (k (put tm d v) h) (fsc h.next v)
def okV (k : KT) (tm : VT) (d : Option Tmp) (h : Heap) (v : Value) : Option (VT × Heap) :=
 Bool.rec (motive := fun _ => Option (VT × Heap)) none (k (put tm d v) h) (fsc h.next v)
def evOps (P : Program) (X : Ext) (rec : Rec) (ops : List Oper) (l : List Oper) : KT :=
 List.rec (motive := fun _ => KT) (fun tm h => some (tm, h))
  (fun o _ ih tm h => match wanted ops tm o with
   | some true => Rz.rec (motive := fun _ => Option (VT × Heap)) none (okV ih tm o.dst h) (okV ih tm o.dst h) (okE ih tm o.dst) (evOp P X rec o tm h)
   | _ => ih (put tm o.dst undef) h) l
mutual
def beqV : Value → Value → Bool
 | .bool a, .bool b => match a, b with | true, true => true | false, false => true | _, _ => false
 | .int k a, .int j b => decide (k = j) && decide (a = b)
 | .string a, .string b => beqB a.data.toList b.data.toList
 | .float k a, .float j b => decide (k = j) && Nat.beq a b
 | .pointer a, .pointer b => decide (a = b)
 | .slice a n c, .slice b m d => decide (a = b) && Nat.beq n m && Nat.beq c d
 | .map a, .map b => decide (a = b)
 | .func f ⟨xs⟩ ⟨ys⟩, .func g ⟨zs⟩ ⟨us⟩ => decide (f = g) && beqL xs zs && beqL ys us
 | .nilFunc, .nilFunc => true
 | .nilIface, .nilIface => true
 | .iface t v, .iface u w => Nat.beq t u && beqV v w
 | .agg ⟨xs⟩, .agg ⟨ys⟩ => beqL xs ys
 | .tuple ⟨xs⟩, .tuple ⟨ys⟩ => beqL xs ys
 | _, _ => false
def beqL : List Value → List Value → Bool
 | [], [] => true
 | x :: xs, y :: ys => beqV x y && beqL xs ys
 | _, _ => false
end
def isEff (P : Program) (o : Oper) : Bool :=
 match o.op with
 | .alloc .. => true
 | .box .. => true
 | .buildSlice .. => true
 | .store .. => true
 | .makeSlice .. => true
 | .range .. => true
 | .next .. => true
 | .makeMap .. => true
 | .mapUpdate .. => true
 | .insert .. => true
 | .call { callee := .builtin .delete, .. } => true
 | .call { callee := .builtin .clear, .. } => true
 | .call { callee := .builtin .append, .. } => true
 | .call { callee := .value _, .. } => true
 | .call { callee := .builtin b, .. } => Nat.beq (bNo b) 21
 | .convert s d _ => match P.underlying s, P.underlying d with | some .string, some (.slice _) => true | some (.slice _), some (.slice _) => true | _, _ => false
 | _ => false
def firstFree (P : Program) (ops : Array Oper) (listed : Array Bool) : List Nat → Option (Nat × Oper)
 | [] => none
 | i :: is => match ops[i]? with
  | some o => match isEff P o with
   | true => firstFree P ops listed is
   | false => match Region.free .any ops listed i with
    | true => some (i, o)
    | false => firstFree P ops listed is
  | none => firstFree P ops listed is
inductive PS where
 | take (i : Nat) (o : Oper)
 | eff (i : Nat) (o : Oper)
 | late (i : Nat) (o : Oper)
def mkPlan (P : Program) (ops : Array Oper) : Nat → Array Bool → Option (List PS)
 | 0, listed => match Region.ready .any ops listed with | [] => some [] | _ => none
 | n + 1, listed => match Region.ready .any ops listed with
  | [] => some []
  | r :: rs => match firstFree P ops listed (r :: rs) with
   | some (i, o) => match mkPlan P ops n (listed.setIfInBounds i true) with
    | some pl => some (.take i o :: pl)
    | none => none
   | none => match rs, ops[r]? with
    | [], some o => match isEff P o with
     | true => match mkPlan P ops n (listed.setIfInBounds r true) with
      | some pl => some (.eff r o :: pl)
      | none => none
     | false => none
    | _, _ => none
structure FrT where
 e : TypeId
 cs : List Value
 sl : Option (Nat × Nat)
def FrT.val (x : FrT) (k : Nat) : Value := match x.sl with
 | none => .pointer (some ⟨k, 0, none⟩)
 | some (l, c) => .slice (some ⟨k, 0, none⟩) l c
def frAlloc (P : Program) (e : TypeId) : Option FrT := match zeroOf P e with
 | some z => match flatL z.cells.toList && z.cells.toList.all one with
  | true => some ⟨e, z.cells.toList, none⟩
  | false => none
 | none => none
def frMake (P : Program) (t : TypeId) (l c : Value) : Option FrT :=
 match P.underlying t, l, c with
 | some (.slice e), .int _ (.ofNat l), .int _ (.ofNat c) =>
  match P.info? e with
  | some i => match Nat.ble l c && Nat.blt (c * i.bytes + c) U, i.zero with
   | true, some z => match Nat.beq z.cells.size i.size && Nat.blt 0 i.size && flatL (List.replicate c z.cells.toList).flatten && (List.replicate c z.cells.toList).flatten.all one with
    | true => some ⟨e, (List.replicate c z.cells.toList).flatten, some (l, c)⟩
    | false => none
   | _, _ => none
  | none => none
 | _, _, _ => none
def frBuild (P : Program) (t : TypeId) (len : Nat) (parts : List (Nat × Value)) : Option FrT :=
 match P.underlying t with
 | some (.slice e) => match P.info? e with
  | some i => match Nat.ble (len * i.size) 16777216, i.zero with
   | true, some z => match Nat.beq z.cells.size i.size && Nat.blt 0 i.size && flatL z.cells.toList with
    | true => match fillL (fun j => some (j * i.size, i.size)) (List.replicate len z.cells.toList).flatten parts with
     | some cs => match flatL cs && cs.all one with
      | true => some ⟨e, cs, some (len, len)⟩
      | false => none
     | none => none
    | false => none
   | _, _ => none
  | none => none
 | _ => none
def frOf (P : Program) (l0 : Array Bool) (tm : VT) (o : Oper) : Option FrT :=
 match o.guard.isNone && o.dst.isSome && (o.after.toList.all fun e => !Region.binds .any e || l0.getD e.on false) with
 | true => match o.op with
  | .alloc e => frAlloc P e
  | .makeSlice t l c => frMake P t (ev tm l) (ev tm c)
  | .buildSlice t len parts => frBuild P t len (parts.toList.map fun (j, x) => (j, ev tm x))
  | _ => none
 | false => none
def frKind (k : Nat) (o : Option Oper) : Bool := match k, o with
 | 0, _ => true
 | 1, some o => (match o.op with | .alloc _ => true | _ => false)
 | _, some o => (match o.op with | .makeSlice .. => true | .buildSlice .. => true | _ => false)
 | _, none => false
def frAt (P : Program) (ops : Array Oper) (l0 : Array Bool) (tm : VT) (k : Nat) (i : Nat) : Option FrT := match frKind k ops[i]? && Region.free .any ops l0 i with
 | true => match ops[i]? with
  | some o => frOf P l0 tm o
  | none => none
 | false => none
def qU (fa : Nat → Option FrT) (i : Nat) : Bool := (fa i).isSome
def listAll (fa : Nat → Option FrT) (ops : Array Oper) (listed : Array Bool) : Array Bool := (List.range ops.size).foldl (fun l i => match qU fa i with | true => l.setIfInBounds i true | false => l) listed
def depsOk (fa : Nat → Option FrT) (ops : Array Oper) (listed : Array Bool) (r : Nat) : Bool :=
 (Region.ready .any ops (listAll (fun i => match Nat.beq i r with | true => none | false => fa i) ops listed)).all (qU fa)
def qE (P : Program) (fa : Nat → Option FrT) (ops : Array Oper) : Nat → Array Bool → Option (List PS)
 | 0, listed => match Region.ready .any ops listed with | [] => some [] | _ => none
 | n + 1, listed => match Region.ready .any ops listed with
  | [] => some []
  | r :: rs => match firstFree P ops listed (r :: rs) with
   | some (i, o) => match qE P fa ops n (listed.setIfInBounds i true) with
    | some pl => some (.take i o :: pl)
    | none => none
   | none => match (r :: rs).filter (fun i => !qU fa i), Region.ready .any ops (listAll fa ops listed) with
    | [q], [q'] => match Nat.beq q q', ops[q]?, qE P fa ops n (listed.setIfInBounds q true) with
     | true, some o, some pl => match isEff P o with
      | true => some (.eff q o :: pl)
      | false => none
     | _, _, _ => none
    | [], _ => match depsOk fa ops listed r, ops[r]?, qE P fa ops n (listed.setIfInBounds r true) with
     | true, some o, some pl => some (.late r o :: pl)
     | _, _, _ => none
    | _, _ => none
def jL (P : Program) (ops : Array Oper) : Nat → Array Bool → List (Nat × Oper) × Array Bool × Nat
 | 0, l => ([], l, 0)
 | n + 1, l => match firstFree P ops l (Region.ready .any ops l) with
  | some (i, o) => ((i, o) :: (jL P ops n (l.setIfInBounds i true)).1, (jL P ops n (l.setIfInBounds i true)).2)
  | none => ([], l, n + 1)
abbrev Held := List (Nat × Oper × VT × Value)
def kept (P : Program) (o : Oper) (h : Heap) : Held → Bool
 | [] => true
 | (i, o', tm, v) :: L => match o.after.toList.any fun e => Region.binds .any e && Nat.beq e.on i with
  | true => kept P o h L
  | false => match fRead P o' tm h with
   | some v' => match beqV v v' with | true => kept P o h L | false => false
   | none => false
def okH (P : Program) (o : Oper) (L : Held) (k : KT) (tm : VT) (v : Value) (h : Heap) : Option (VT × Heap) :=
 Bool.rec (motive := fun _ => Option (VT × Heap)) none (okE k tm o.dst v h) (kept P o h L)
def qA (P : Program) (h : Heap) : Held → Bool
 | [] => true
 | (_, o', tm, v) :: L => match fRead P o' tm h with
   | some v' => match beqV v v' with | true => qA P h L | false => false
   | none => false
def okHL (P : Program) (d : Option Tmp) (L : Held) (k : KT) (tm : VT) (v : Value) (h : Heap) : Option (VT × Heap) :=
 Bool.rec (motive := fun _ => Option (VT × Heap)) none (okE k tm d v h) (qA P h L)
def okRd (P : Program) (x : Nat × Oper × VT × Value) (k : KT) : KT := fun tm h => Bool.rec (motive := fun _ => Option (VT × Heap)) none (k tm h) (qA P h [x])
def okVH (k : Value → KT) (tm : VT) (d : Option Tmp) (h : Heap) (v : Value) : Option (VT × Heap) :=
 Bool.rec (motive := fun _ => Option (VT × Heap)) none (k v (put tm d v) h) (fsc h.next v)
def evPlan (P : Program) (X : Ext) (rec : Rec) (opl : List Oper) : List PS → Held → KT
 | [], _, tm, h => some (tm, h)
 | .take i o :: pl, L, tm, h => match wanted opl tm o with
  | some true => Rz.rec (motive := fun _ => Option (VT × Heap)) none (okV (evPlan P X rec opl pl L) tm o.dst h) (okVH (fun v => evPlan P X rec opl pl ((i, o, tm, v) :: L)) tm o.dst h) (fun _ _ => none) (evOp P X rec o tm h)
  | _ => evPlan P X rec opl pl L (put tm o.dst undef) h
 | .eff _ o :: pl, L, tm, h => match wanted opl tm o with
  | some true => Rz.rec (motive := fun _ => Option (VT × Heap)) none (fun _ => none) (fun _ => none) (okH P o L (evPlan P X rec opl pl L) tm) (evOp P X rec o tm h)
  | _ => evPlan P X rec opl pl L (put tm o.dst undef) h
 | .late _ _ :: _, _, _, _ => none
def jW (P : Program) (X : Ext) (rec : Rec) (fa : Nat → Option FrT) (opl : List Oper) : List PS → Held → KT
 | [], _, tm, h => some (tm, h)
 | .take i o :: pl, L, tm, h => match wanted opl tm o with
  | some true => Rz.rec (motive := fun _ => Option (VT × Heap)) none (okV (jW P X rec fa opl pl L) tm o.dst h) (okVH (fun v => okRd P (i, o, tm, v) (jW P X rec fa opl pl ((i, o, tm, v) :: L))) tm o.dst h) (fun _ _ => none) (evOp P X rec o tm h)
  | _ => jW P X rec fa opl pl L (put tm o.dst undef) h
 | .eff _ o :: pl, L, tm, h => match wanted opl tm o with
  | some true => Rz.rec (motive := fun _ => Option (VT × Heap)) none (fun _ => none) (fun _ => none) (okHL P o.dst L (jW P X rec fa opl pl L) tm) (evOp P X rec o tm h)
  | _ => jW P X rec fa opl pl L (put tm o.dst undef) h
 | .late i o :: pl, L, tm, h => match fa i with
  | some x => okHL P o.dst L (jW P X rec fa opl pl L) tm (x.val h.next) (h.new ⟨.cells ⟨x.cs⟩ x.e (0, 0), false⟩).2
  | none => none
def evLate (P : Program) (X : Ext) (rec : Rec) (ops : Array Oper) (l0 : Array Bool) (n : Nat) (L : Held) (tm : VT) (h : Heap) : Option (VT × Heap) :=
 match qE P (frAt P ops l0 tm 0) ops n l0 with
 | some pl => jW P X rec (frAt P ops l0 tm 0) ops.toList pl L tm h
 | none => match qE P (frAt P ops l0 tm 1) ops n l0 with
  | some pl => jW P X rec (frAt P ops l0 tm 1) ops.toList pl L tm h
  | none => match qE P (frAt P ops l0 tm 2) ops n l0 with
   | some pl => jW P X rec (frAt P ops l0 tm 2) ops.toList pl L tm h
   | none => none
def evTakes (P : Program) (X : Ext) (rec : Rec) (opl : List Oper) (K : Held → KT) : List (Nat × Oper) → Held → KT
 | [], L, tm, h => K L tm h
 | (i, o) :: ts, L, tm, h => match wanted opl tm o with
  | some true => Rz.rec (motive := fun _ => Option (VT × Heap)) none (okV (evTakes P X rec opl K ts L) tm o.dst h) (okVH (fun v => okRd P (i, o, tm, v) (evTakes P X rec opl K ts ((i, o, tm, v) :: L))) tm o.dst h) (fun _ _ => none) (evOp P X rec o tm h)
  | _ => evTakes P X rec opl K ts L (put tm o.dst undef) h
abbrev ST := S → Option (XExit × S)
def cSkip : ST := fun s => some (.normal, s)
def thenK (k : ST) (r : Option (XExit × S)) : Option (XExit × S) :=
 Option.rec (motive := fun _ => Option (XExit × S)) none (fun x => Prod.rec (motive := fun _ => Option (XExit × S)) (fun e s => XExit.rec (motive := fun _ => Option (XExit × S)) (k s) (fun i => some (.exit i, s)) (fun l => some (.goto l, s)) (some (.ret, s)) e) x) r
def outK (id : Nat) (r : Option (XExit × S)) : Option (XExit × S) :=
 match r with
 | some (.exit j, s1) => match Nat.beq j id with | true => some (.normal, s1) | false => some (.exit j, s1)
 | r => r
def scopeGo (rec : Rec) (ro : Option Nat) (b : Code) : Nat → Option (XExit × S) → Option (XExit × S)
 | 0, r => match r with
  | some (.goto _, _) => none
  | r => r
 | f + 1, r => match r with
  | some (.goto l, s1) => match findLabel b l with
   | some rest => scopeGo rec ro b f (rec ro rest s1)
   | none => some (.goto l, s1)
  | r => r
def regK (s : S) (r : Option (VT × Heap)) : Option (XExit × S) :=
 match r with
 | some (tm, h) => some (.normal, { tm := tm, df := s.df, h := h })
 | none => none
def cRegion (P : Program) (X : Ext) (rec : Rec) (_ : Nat) (ops : Array Oper) (draw : Bool) : ST := fun s =>
 match draw with
 | false => regK s (evOps P X rec ops.toList ops.toList s.tm s.h)
 | true => match mkPlan P ops ops.size (Array.replicate ops.size false) with
  | some pl => regK s (evPlan P X rec ops.toList pl [] s.tm s.h)
  | none => match jL P ops ops.size (Array.replicate ops.size false) with
   | (ts, l0, n) => regK s (evTakes P X rec ops.toList (evLate P X rec ops l0 n) ts [] s.tm s.h)
def cSeq (rec : Rec) (ro : Option Nat) (a b : Code) (_ _ : ST) : ST := fun s => thenK (rec ro b) (rec ro a s)
def cCond (rec : Rec) (ro : Option Nat) (x : Operand) (a b : Code) (_ _ : ST) : ST := fun s =>
 match ev s.tm x with
 | .bool true => rec ro a s
 | .bool false => rec ro b s
 | _ => none
def cBlock (rec : Rec) (ro : Option Nat) (id : Nat) (b : Code) (_ : ST) : ST := fun s => outK id (rec ro b s)
def cLoop (rec : Rec) (ro : Option Nat) (b : Code) (_ : ST) : ST := fun s => thenK (rec ro (.loop b)) (rec ro b s)
def cScope (rec : Rec) (ro : Option Nat) (b : Code) (_ : ST) : ST := fun s => scopeGo rec ro b 100000 (rec ro b s)
def cRange (P : Program) (rec : Rec) (ro : Option Nat) (g : Operand) (ps : Array Tmp) (a b : Code) (_ _ : ST) : ST := fun s =>
 match evEnter ro s.tm ps a b s.h, ev s.tm g with
 | some (l, mk, h1), .func (.func f) ⟨[]⟩ ⟨captured⟩ => match evBody P rec f (.func (.yield l) #[] #[] :: captured) h1 with
  | some (_, h2) => evLeave l { s with df := mk ++ s.df, h := h2 }
  | none => none
 | _, _ => none
def cExit (id : Nat) : ST := fun s => some (.exit id, s)
def cLabel (_ : Nat) : ST := fun s => some (.normal, s)
def cGoto (l : Nat) : ST := fun s => some (.goto l, s)
def cRet : ST := fun s => some (.ret, s)
def cRefuse (_ : String) : ST := fun _ => none
def evStep (P : Program) (X : Ext) (rec : Rec) (ro : Option Nat) (c : Code) : ST :=
 Code.rec (motive := fun _ => ST) cSkip (cRegion P X rec) (cSeq rec ro) (cCond rec ro) (cBlock rec ro) (cLoop rec ro) (cRange P rec ro) cExit (cScope rec ro) cLabel cGoto cRet cRefuse c
def evC (P : Program) (X : Ext) (n : Nat) : Rec :=
 Nat.rec (motive := fun _ => Rec) (fun _ _ _ => none) (fun _ rec => evStep P X rec) n
end
end Go.Ew
namespace Go.Ew
open Go Go.RowKit
structure Gam where
 b : Nat → Nat
 k : Nat → Nat
 s : Nat → Int        -- the numbers that stand behind a sign: a float is none of the program's
 t : Nat → ByteArray  -- the texts
def conCap (Γ : Gam) (id c : Nat) : Nat := if c < UC then c else Γ.k id - (c - UC)
def conA (Γ : Gam) (a : Addr) : Addr := { a with block := Γ.b a.block }
def conS (Γ : Gam) (a : Addr) (n c : Nat) : Addr :=
 match n, a with
 | 0, ⟨b, off, some s⟩ => if c < UC then ⟨Γ.b b, off, some s⟩ else ⟨Γ.b b, if Γ.k b - (c - UC) = 0 then off else s, none⟩
 | _, _ => conA Γ a
def conFn (Γ : Gam) : Fn → Fn
 | .yield l => .yield (Γ.b l)
 | f => f
mutual
def con (Γ : Gam) : Value → Value
 | .pointer (some a) => .pointer (some (conA Γ a))
 | .slice (some a) n c => .slice (some (conS Γ a n c)) n (conCap Γ a.block c)
 | .map (some r) => .map (some (Γ.b r))
 | .float .f64 i => .int .i64 (Γ.s i)
 | .float .f32 i => .string (Γ.t i)
 | .func fn ⟨f⟩ ⟨c⟩ => .func (conFn Γ fn) ⟨conL Γ f⟩ ⟨conL Γ c⟩
 | .iface t v => .iface t (con Γ v)
 | .agg ⟨cs⟩ => .agg ⟨conL Γ cs⟩
 | .tuple ⟨vs⟩ => .tuple ⟨conL Γ vs⟩
 | v => v
def conL (Γ : Gam) : List Value → List Value
 | [] => []
 | v :: vs => con Γ v :: conL Γ vs
end
theorem jC (Γ : Gam) (b off n c : Nat) : conS Γ ⟨b, off, none⟩ n c = ⟨Γ.b b, off, none⟩ := by cases n <;> rfl
theorem conS_lt (Γ : Gam) (a : Addr) {n c : Nat} (h : c < UC) : conS Γ a n c = conA Γ a := by
 obtain ⟨b, off, s⟩ := a
 cases n <;> cases s <;> simp [conS, conA, h]
theorem conS_pos (Γ : Gam) (a : Addr) {n c : Nat} (h : 0 < n) : conS Γ a n c = conA Γ a := by
 obtain ⟨b, off, s⟩ := a
 cases n with
 | zero => omega
 | succ n => rfl
theorem conL_map (Γ : Gam) : ∀ l, conL Γ l = l.map (con Γ)
 | [] => rfl
 | v :: vs => by simp [conL, conL_map Γ vs]
theorem con_agg (Γ : Gam) (cs : Array Value) : con Γ (.agg cs) = .agg (cs.map (con Γ)) := by
 obtain ⟨l⟩ := cs; simp [con, conL_map]
theorem con_tuple (Γ : Gam) (cs : Array Value) : con Γ (.tuple cs) = .tuple (cs.map (con Γ)) := by
 obtain ⟨l⟩ := cs; simp [con, conL_map]
theorem con_func (Γ : Gam) (fn : Fn) (f c : Array Value) : con Γ (.func fn f c) = .func (conFn Γ fn) (f.map (con Γ)) (c.map (con Γ)) := by
 obtain ⟨l⟩ := f; obtain ⟨m⟩ := c; simp [con, conL_map]
mutual
theorem con_flat (Γ : Gam) : ∀ v, flat v = true → con Γ v = v
 | .bool _, _ => rfl
 | .int _ _, _ => rfl
 | .float _ _, h => by simp [flat] at h
 | .complex _ _ _, _ => rfl
 | .string _, _ => rfl
 | .pointer none, _ => rfl
 | .pointer (some _), h => by simp [flat] at h
 | .slice none _ _, _ => rfl
 | .slice (some _) _ _, h => by simp [flat] at h
 | .map none, _ => rfl
 | .map (some _), h => by simp [flat] at h
 | .chan _, h => by simp [flat] at h
 | .func (.func g) ⟨f⟩ ⟨c⟩, h => by
  simp only [flat, Bool.and_eq_true] at h
  simp only [con, conFn, conL_flat Γ f h.1, conL_flat Γ c h.2]
 | .func (.method _) _ _, h => by simp [flat] at h
 | .func (.methodOf _ _) _ _, h => by simp [flat] at h
 | .func (.via _ _ _ _) _ _, h => by simp [flat] at h
 | .func (.yield _) _ _, h => by simp [flat] at h
 | .nilFunc, _ => rfl
 | .iface t v, h => by
  simp only [flat] at h
  simp only [con, con_flat Γ v h]
 | .nilIface, _ => rfl
 | .agg ⟨cs⟩, h => by
  simp only [flat] at h
  simp only [con, conL_flat Γ cs h]
 | .tuple ⟨cs⟩, h => by
  simp only [flat] at h
  simp only [con, conL_flat Γ cs h]
theorem conL_flat (Γ : Gam) : ∀ l, flatL l = true → conL Γ l = l
 | [], _ => rfl
 | v :: vs, h => by
  simp only [flatL, Bool.and_eq_true] at h
  simp only [conL, con_flat Γ v h.1, conL_flat Γ vs h.2]
end
structure Ag (Γ Γ' : Gam) (n : Nat) : Prop where
 b : ∀ i, i < n → Γ'.b i = Γ.b i
 k : ∀ i, i < n → Γ'.k i = Γ.k i
 s : Γ'.s = Γ.s
 t : Γ'.t = Γ.t
theorem Ag.refl (Γ : Gam) (n : Nat) : Ag Γ Γ n := ⟨fun _ _ => rfl, fun _ _ => rfl, rfl, rfl⟩
theorem Ag.trans {Γ Γ' Γ'' : Gam} {n m : Nat} (h : Ag Γ Γ' n) (h' : Ag Γ' Γ'' m) (hn : n ≤ m) : Ag Γ Γ'' n :=
 ⟨fun i hi => (h'.b i (by omega)).trans (h.b i hi), fun i hi => (h'.k i (by omega)).trans (h.k i hi), h'.s.trans h.s, h'.t.trans h.t⟩
theorem conS_ag {Γ Γ' : Gam} {n : Nat} (h : Ag Γ Γ' n) {a : Addr} (ha : a.block < n) (m c : Nat) : conS Γ' a m c = conS Γ a m c := by
 obtain ⟨b, off, s⟩ := a
 have h1 := h.b b ha
 have h2 := h.k b ha
 cases m <;> cases s <;> simp only [conS, conA, h1, h2]
theorem conA_ag {Γ Γ' : Gam} {n : Nat} (h : Ag Γ Γ' n) {a : Addr} (ha : scA n a = true) : conA Γ' a = conA Γ a := by
 simp [scA] at ha
 simp [conA, h.b a.block ha.1]
mutual
theorem con_ag {Γ Γ' : Gam} {n : Nat} (hg : Ag Γ Γ' n) : ∀ v, sc n v = true → con Γ' v = con Γ v
 | .bool _, _ => rfl
 | .int _ _, _ => rfl
 | .float .f64 _, _ => by simp only [con, hg.s]
 | .float .f32 _, _ => by simp only [con, hg.t]
 | .complex _ _ _, _ => rfl
 | .string _, _ => rfl
 | .pointer none, _ => rfl
 | .pointer (some _), h => by simp only [sc] at h; simp only [con, conA_ag hg h]
 | .slice none _ _, _ => rfl
 | .slice (some a) _ _, h => by
  simp only [sc] at h
  have h2 : a.block < n := by simp [scS] at h; exact h.1
  simp only [con, conS_ag hg h2, conCap, hg.k _ h2]
 | .map none, _ => rfl
 | .map (some _), h => by simp [sc] at h; simp only [con, hg.b _ h]
 | .chan _, h => by simp [sc] at h
 | .func (.func g) ⟨f⟩ ⟨c⟩, h => by
  simp only [sc, Bool.and_eq_true] at h
  simp only [con, conFn, conL_ag hg f h.1, conL_ag hg c h.2]
 | .func (.method _) _ _, h => by simp [sc] at h
 | .func (.methodOf _ _) _ _, h => by simp [sc] at h
 | .func (.via _ _ _ _) _ _, h => by simp [sc] at h
 | .func (.yield l) ⟨f⟩ ⟨c⟩, h => by
  simp only [sc, Bool.and_eq_true, Nat.blt_eq] at h
  simp only [con, conFn, conL_ag hg f h.1.2, conL_ag hg c h.2, hg.b _ h.1.1]
 | .nilFunc, _ => rfl
 | .iface t v, h => by
  simp only [sc] at h
  simp only [con, con_ag hg v h]
 | .nilIface, _ => rfl
 | .agg ⟨cs⟩, h => by
  simp only [sc] at h
  simp only [con, conL_ag hg cs h]
 | .tuple ⟨cs⟩, h => by
  simp only [sc] at h
  simp only [con, conL_ag hg cs h]
theorem conL_ag {Γ Γ' : Gam} {n : Nat} (hg : Ag Γ Γ' n) : ∀ l, scL n l = true → conL Γ' l = conL Γ l
 | [], _ => rfl
 | v :: vs, h => by
  simp only [scL, Bool.and_eq_true] at h
  simp only [conL, con_ag hg v h.1, conL_ag hg vs h.2]
end
mutual
theorem sc_mono {n m : Nat} (hn : n ≤ m) : ∀ v, sc n v = true → sc m v = true
 | .bool _, _ => rfl
 | .int _ _, _ => rfl
 | .float _ _, _ => rfl
 | .complex _ _ _, _ => rfl
 | .string _, _ => rfl
 | .pointer none, _ => rfl
 | .pointer (some _), h => by simp [sc, scA] at h ⊢; exact ⟨by omega, h.2⟩
 | .slice none _ _, _ => rfl
 | .slice (some a) _ _, h => by simp [sc, scS] at h ⊢; exact ⟨by omega, h.2⟩
 | .map none, _ => rfl
 | .map (some _), h => by simp [sc] at h ⊢; omega
 | .chan _, h => by simp [sc] at h
 | .func (.func g) ⟨f⟩ ⟨c⟩, h => by
  simp only [sc, Bool.and_eq_true] at h ⊢
  exact ⟨scL_mono hn f h.1, scL_mono hn c h.2⟩
 | .func (.method _) _ _, h => by simp [sc] at h
 | .func (.methodOf _ _) _ _, h => by simp [sc] at h
 | .func (.via _ _ _ _) _ _, h => by simp [sc] at h
 | .func (.yield l) ⟨f⟩ ⟨c⟩, h => by
  simp only [sc, Bool.and_eq_true, Nat.blt_eq] at h ⊢
  exact ⟨⟨by omega, scL_mono hn f h.1.2⟩, scL_mono hn c h.2⟩
 | .nilFunc, _ => rfl
 | .iface t v, h => by
  simp only [sc] at h ⊢
  exact sc_mono hn v h
 | .nilIface, _ => rfl
 | .agg ⟨cs⟩, h => by
  simp only [sc] at h ⊢
  exact scL_mono hn cs h
 | .tuple ⟨cs⟩, h => by
  simp only [sc] at h ⊢
  exact scL_mono hn cs h
theorem scL_mono {n m : Nat} (hn : n ≤ m) : ∀ l, scL n l = true → scL m l = true
 | [], _ => rfl
 | v :: vs, h => by
  simp only [scL, Bool.and_eq_true] at h ⊢
  exact ⟨sc_mono hn v h.1, scL_mono hn vs h.2⟩
end
mutual
theorem flat_sc (n : Nat) : ∀ v, flat v = true → sc n v = true
 | .bool _, _ => rfl
 | .int _ _, _ => rfl
 | .float _ _, h => by simp [flat] at h
 | .complex _ _ _, _ => rfl
 | .string _, _ => rfl
 | .pointer none, _ => rfl
 | .pointer (some _), h => by simp [flat] at h
 | .slice none _ _, _ => rfl
 | .slice (some _) _ _, h => by simp [flat] at h
 | .map none, _ => rfl
 | .map (some _), h => by simp [flat] at h
 | .chan _, h => by simp [flat] at h
 | .func (.func g) ⟨f⟩ ⟨c⟩, h => by
  simp only [flat, Bool.and_eq_true] at h
  simp only [sc, flatL_sc n f h.1, flatL_sc n c h.2, Bool.and_self]
 | .func (.method _) _ _, h => by simp [flat] at h
 | .func (.methodOf _ _) _ _, h => by simp [flat] at h
 | .func (.via _ _ _ _) _ _, h => by simp [flat] at h
 | .func (.yield _) _ _, h => by simp [flat] at h
 | .nilFunc, _ => rfl
 | .iface t v, h => by
  simp only [flat] at h
  simp only [sc, flat_sc n v h]
 | .nilIface, _ => rfl
 | .agg ⟨cs⟩, h => by
  simp only [flat] at h
  simp only [sc, flatL_sc n cs h]
 | .tuple ⟨cs⟩, h => by
  simp only [flat] at h
  simp only [sc, flatL_sc n cs h]
theorem flatL_sc (n : Nat) : ∀ l, flatL l = true → scL n l = true
 | [], _ => rfl
 | v :: vs, h => by
  simp only [flatL, Bool.and_eq_true] at h
  simp only [scL, flat_sc n v h.1, flatL_sc n vs h.2, Bool.and_self]
end
theorem scL_all {n : Nat} : ∀ {l : List Value}, scL n l = true → ∀ v ∈ l, sc n v = true
 | [], _, v, hv => by cases hv
 | x :: xs, h, v, hv => by
  simp only [scL, Bool.and_eq_true] at h
  cases hv with
  | head => exact h.1
  | tail _ hv => exact scL_all h.2 v hv
theorem con_cells (Γ : Gam) (v : Value) : (con Γ v).cells = v.cells.map (con Γ) := by
 cases v with
 | agg cs => rw [con_agg]; simp [Value.cells]
 | tuple cs => rw [con_tuple]; simp [Value.cells, con_tuple]
 | func fn f c => rw [con_func]; simp [Value.cells, con_func]
 | pointer a => cases a <;> simp [con, Value.cells]
 | slice a _ _ => cases a <;> simp [con, Value.cells]
 | map a => cases a <;> simp [con, Value.cells]
 | float k i => cases k <;> simp [con, Value.cells]
 | _ => simp [con, Value.cells]
theorem one_con (Γ : Gam) (v : Value) : one (con Γ v) = one v := by
 cases v with
 | agg cs => rw [con_agg]; rfl
 | tuple cs => rw [con_tuple]; rfl
 | func fn f c => rw [con_func]; rfl
 | pointer a => cases a <;> rfl
 | slice a _ _ => cases a <;> rfl
 | map a => cases a <;> rfl
 | float k i => cases k <;> rfl
 | _ => rfl
theorem pv_run {α : Type} (P : Program) : ∀ (s : Sem α) (a : α), pv P s = some a → ∀ w, s.run P w = .ok a w := by
 intro s
 induction s with
 | pure a => intro b h w; simp only [pv, Option.some.injEq] at h; subst h; rfl
 | program k ih => intro b h w; simp only [pv] at h; exact ih P b h w
 | mark m k ih => intro b h w; simp only [pv] at h; exact ih b h w
 | load => intro b h; simp [pv] at h
 | store => intro b h; simp [pv] at h
 | new => intro b h; simp [pv] at h
 | shape => intro b h; simp [pv] at h
 | freeze => intro b h; simp [pv] at h
 | frozen => intro b h; simp [pv] at h
 | getObj => intro b h; simp [pv] at h
 | setObj => intro b h; simp [pv] at h
 | choose => intro b h; simp [pv] at h
 | sys => intro b h; simp [pv] at h
 | halt => intro b h; simp [pv] at h
end Go.Ew
namespace Go.Ew
open Go Go.RowKit
theorem bitRec {α : Type} (a b : α) (j : Nat) : (Bool.rec (motive := fun _ => α) a b (Nat.beq (Nat.mod j 2) 0) : α) = if j % 2 = 0 then b else a := by
 have e : Nat.mod j 2 = j % 2 := rfl
 rw [e]
 cases h : Nat.beq (j % 2) 0 with
 | true => simp only [Nat.beq_eq] at h; simp [h]
 | false =>
  have : ¬ j % 2 = 0 := fun e => by rw [e] at h; simp at h
  simp [this]
theorem VTr.get_nil (j : Nat) : VTr.nil.get j = undef := rfl
theorem VTr.get_node (l r : VTr) (v : Value) (j : Nat) : (VTr.node l v r).get j = if j = 0 then v else if (j - 1) % 2 = 0 then l.get ((j - 1) / 2) else r.get ((j - 1) / 2) := by
 cases j with
 | zero => rfl
 | succ j =>
  have : (VTr.node l v r).get (j + 1) = Bool.rec (motive := fun _ => Value) (r.get (Nat.div j 2)) (l.get (Nat.div j 2)) (Nat.beq (Nat.mod j 2) 0) := rfl
  rw [this, bitRec]
  simp only [Nat.add_eq_zero_iff, Nat.succ_ne_self, and_false, if_false, Nat.add_sub_cancel]
  rfl
theorem VTr.go_succ (j : Nat) (x : Value) (f : VTr → Nat → VTr) (l r : VTr) (v : Value) : VTr.go (j + 1) x f l v r = if j % 2 = 0 then .node (f l (j / 2)) v r else .node l v (f r (j / 2)) := by
 have : VTr.go (j + 1) x f l v r = Bool.rec (motive := fun _ => VTr) (.node l v (f r (Nat.div j 2))) (.node (f l (Nat.div j 2)) v r) (Nat.beq (Nat.mod j 2) 0) := rfl
 rw [this, bitRec]
 rfl
theorem VTr.go_zero (x : Value) (f : VTr → Nat → VTr) (l r : VTr) (v : Value) : VTr.go 0 x f l v r = .node l x r := rfl
theorem VTr.get_set : ∀ (n : Nat) (t : VTr) (i : Nat) (x : Value) (j : Nat), i + 1 < 2 ^ n → (VTr.set n t i x).get j = if j = i then x else t.get j := by
 intro n
 induction n with
 | zero => intro t i x j h; simp at h
 | succ n ih =>
  intro t i x j h
  have main : ∀ (l r : VTr) (v : Value), (∀ j, t.get j = (VTr.node l v r).get j) →
    (VTr.go i x (fun t i => VTr.set n t i x) l v r).get j = if j = i then x else t.get j := by
   intro l r v ht
   rw [ht j]
   cases i with
   | zero =>
    simp only [VTr.go_zero, VTr.get_node]
    by_cases hj : j = 0 <;> simp [hj]
   | succ k =>
    have hk : k / 2 + 1 < 2 ^ n := by rw [Nat.pow_succ] at h; omega
    rw [VTr.go_succ]
    by_cases hb : k % 2 = 0
    ·simp only [hb, if_true, VTr.get_node, ih l _ x _ hk]
     by_cases hj : j = 0
     ·subst hj; simp
     ·simp only [hj, if_false]
      by_cases hp : (j - 1) % 2 = 0
      ·simp only [hp, if_true]
       by_cases he : j = k + 1
       ·subst he; simp
       ·rw [if_neg (by omega), if_neg he]
      ·simp only [hp, if_false]
       rw [if_neg (by intro e; subst e; simp at hp; omega)]
    ·simp only [hb, if_false, VTr.get_node, ih r _ x _ hk]
     by_cases hj : j = 0
     ·subst hj; simp
     ·simp only [hj, if_false]
      by_cases hp : (j - 1) % 2 = 0
      ·simp only [hp, if_true]
       rw [if_neg (by intro e; subst e; simp at hp; omega)]
      ·simp only [hp, if_false]
       by_cases he : j = k + 1
       ·subst he; simp
       ·rw [if_neg (by omega), if_neg he]
  cases t with
  | nil => exact main .nil .nil undef (fun j => by rw [VTr.get_nil, VTr.get_node]; simp [VTr.get_nil])
  | node l v r => exact main l r v (fun j => rfl)
theorem U_lt : U + 1 < 2 ^ 60 := by unfold U; decide
theorem U_le : U ≤ 100000000000000 := by unfold U; decide
theorem UC_pos : 0 < UC := by unfold UC; decide
theorem U_UC : U < UC := by unfold U UC; decide
theorem ltRec {α : Type} (a b : α) (i n : Nat) : (Bool.rec (motive := fun _ => α) a b (Nat.ble (Nat.succ i) n) : α) = if i < n then b else a := by
 cases h : Nat.ble (Nat.succ i) n with
 | true => simp only [Nat.ble_eq] at h; rw [if_pos (by omega)]
 | false =>
  rw [if_neg]
  intro e
  have : Nat.ble (Nat.succ i) n = true := by simp only [Nat.ble_eq]; omega
  rw [this] at h; cases h
theorem VT.get_eq (T : VT) (i : Nat) : T.get i = if i < T.sz then T.t.get i else undef := by
 obtain ⟨sz, t⟩ := T
 exact ltRec _ _ _ _
theorem VT.set_eq (T : VT) (i : Nat) (v : Value) : T.set i v = if i < T.sz then ⟨T.sz, T.t.set 60 i v⟩ else T := by
 obtain ⟨sz, t⟩ := T
 exact ltRec _ _ _ _
theorem VT.set_sz (T : VT) (i : Nat) (v : Value) : (T.set i v).sz = T.sz := by
 rw [VT.set_eq]; split <;> rfl
theorem VT.arr_size (T : VT) : T.arr.size = T.sz := by simp [VT.arr]
theorem VT.arr_get? (T : VT) (i : Nat) : T.arr[i]? = if i < T.sz then some (T.t.get i) else none := by
 simp only [VT.arr, List.getElem?_toArray, List.getElem?_map]
 by_cases h : i < T.sz
 ·simp [h]
 ·rw [if_neg h, List.getElem?_eq_none (by simp; omega)]; rfl
theorem VT.arr_getD (T : VT) (i : Nat) : T.arr.getD i undef = T.get i := by
 rw [Array.getD_eq_getD_getElem?, VT.arr_get?, VT.get_eq]
 split <;> rfl
theorem VT.arr_set (T : VT) (hU : T.sz < U) (i : Nat) (v : Value) : (T.set i v).arr = T.arr.setIfInBounds i v := by
 rw [VT.set_eq]
 split
 ·rename_i hi
  apply Array.ext_getElem?
  intro j
  rw [VT.arr_get?, Array.getElem?_setIfInBounds, VT.arr_get?, VT.arr_size]
  have hg := VTr.get_set 60 T.t i v j (by have := U_lt; omega)
  simp only [hg]
  by_cases hj : i = j
  ·subst hj; simp
  ·rw [if_neg hj, if_neg (Ne.symm hj)]
 ·rename_i hi
  apply Array.ext_getElem?
  intro j
  rw [Array.getElem?_setIfInBounds]
  by_cases hj : i = j
  ·subst hj; rw [if_pos rfl, VT.arr_size, if_neg hi, VT.arr_get?, if_neg hi]
  ·rw [if_neg hj]
theorem VT.fill_get : ∀ (l : List Value) (t : VTr) (i j : Nat), i + l.length < U → (VT.fill t i l).get j = if i ≤ j ∧ j < i + l.length then l.getD (j - i) undef else t.get j
 | [], t, i, j, _ => by
  simp only [VT.fill, List.length_nil]
  rw [if_neg (by omega)]
 | v :: vs, t, i, j, h => by
  simp only [List.length_cons] at h
  simp only [VT.fill, List.length_cons]
  rw [VT.fill_get vs _ (i + 1) j (by omega), VTr.get_set 60 t i v j (by have := U_lt; omega)]
  by_cases h1 : i + 1 ≤ j ∧ j < i + 1 + vs.length
  ·rw [if_pos h1, if_pos (by omega)]
   have : j - i = (j - (i + 1)) + 1 := by omega
   rw [this]; rfl
  ·rw [if_neg h1]
   by_cases h2 : j = i
   ·subst h2; rw [if_pos rfl, if_pos (by omega)]; simp
   ·rw [if_neg h2, if_neg (by omega)]
theorem VT.of_arr (l : List Value) (n : Nat) (hU : (VT.of l n).sz < U) : (VT.of l n).arr = ⟨l⟩ ++ Array.replicate (n - l.length) undef := by
 have hU' : l.length + (n - l.length) < U := hU
 apply Array.ext_getElem?
 intro j
 rw [VT.arr_get?]
 have hsz : (VT.of l n).sz = l.length + (n - l.length) := rfl
 have ht : (VT.of l n).t.get j = if 0 ≤ j ∧ j < 0 + l.length then l.getD (j - 0) undef else undef := VT.fill_get l .nil 0 j (by omega)
 rw [hsz, ht, Array.getElem?_append]
 simp only [List.size_toArray, Nat.zero_le, true_and, Nat.zero_add, Nat.sub_zero]
 by_cases h1 : j < l.length
 ·rw [if_pos (by omega), if_pos h1, if_pos h1]
  simp [h1]
 ·rw [if_neg h1, if_neg h1]
  by_cases h2 : j < l.length + (n - l.length)
  ·rw [if_pos h2, Array.getElem?_replicate, if_pos (by omega)]
  ·rw [if_neg h2, Array.getElem?_replicate, if_neg (by omega)]
theorem setAll_sz : ∀ (l : List (Nat × Value)) (T : VT), (setAll T l).sz = T.sz
 | [], _ => rfl
 | (t, v) :: l, T => by rw [setAll, setAll_sz l, VT.set_sz]
theorem setAll_arr : ∀ (l : List (Nat × Value)) (T : VT), T.sz < U → (setAll T l).arr = l.foldl (fun tmps x => tmps.setIfInBounds x.1 x.2) T.arr
 | [], _, _ => rfl
 | (t, v) :: l, T, h => by rw [setAll, setAll_arr l _ (by rw [VT.set_sz]; exact h), VT.arr_set T h]; rfl
theorem fscP_eq (n : Nat) (a : Option Addr) : fscP n a = sc n (.pointer a) := by
 cases a with
 | none => rfl
 | some a =>
  obtain ⟨b, o, s⟩ := a
  have : fscP n (some ⟨b, o, s⟩) = Bool.rec (motive := fun _ => Bool) false (Option.rec (motive := fun _ => Bool) true (fun _ => false) s) (Nat.ble (Nat.succ b) n) := rfl
  rw [this, ltRec]
  simp only [sc, scA]
  by_cases h : b < n
  ·cases s <;> simp [h]
  ·simp [h]
theorem fscS_eq (n : Nat) (a : Option Addr) (l c : Nat) : fscS n a l = sc n (.slice a l c) := by
 cases a with
 | none => rfl
 | some a =>
  obtain ⟨b, o, s⟩ := a
  have : fscS n (some ⟨b, o, s⟩) l = Bool.rec (motive := fun _ => Bool) false (Option.rec (motive := fun _ => Bool) true (fun _ => Nat.beq l 0) s) (Nat.ble (Nat.succ b) n) := rfl
  rw [this, ltRec]
  simp only [sc, scS]
  by_cases h : b < n
  ·cases s <;> simp [h]
  ·simp [h]
theorem andRec (a b : Bool) : (Bool.rec (motive := fun _ => Bool) false b a : Bool) = (a && b) := by cases a <;> rfl
theorem fsc1_eq (n : Nat) (v : Value) : fsc1 n v = sc n v := by
 cases v <;> first | rfl | exact fscP_eq n _ | exact fscS_eq n _ _ _ | simp [fsc1, sc]
theorem fscL_eq (n : Nat) : ∀ l, fscL n l = scL n l
 | [] => rfl
 | v :: l => by
  have : fscL n (v :: l) = Bool.rec (motive := fun _ => Bool) false (fscL n l) (fsc1 n v) := rfl
  rw [this, andRec, fsc1_eq, fscL_eq n l]
  simp [scL]
theorem fsc_eq (n : Nat) (v : Value) : fsc n v = sc n v := by
 cases v with
 | agg cs => obtain ⟨l⟩ := cs; exact (fscL_eq n l).trans (by simp [sc])
 | tuple cs => obtain ⟨l⟩ := cs; exact (fscL_eq n l).trans (by simp [sc])
 | pointer a => exact fscP_eq n a
 | slice a l c => exact fscS_eq n a l c
 | _ => first | rfl | simp [fsc, sc]
theorem fone_eq (n : Nat) (v : Value) : fone n v = (one v && sc n v) := by
 cases v <;> first | rfl | exact fscP_eq n _ | exact fscS_eq n _ _ _ | simp [fone, one, sc]
theorem foneL_eq (n : Nat) : ∀ l, foneL n l = (l.all one && scL n l)
 | [] => rfl
 | v :: l => by
  have : foneL n (v :: l) = Bool.rec (motive := fun _ => Bool) false (foneL n l) (fone n v) := rfl
  rw [this, andRec, fone_eq, foneL_eq n l]
  simp only [List.all_cons, scL]
  cases one v <;> cases sc n v <;> cases l.all one <;> rfl
theorem takeE_eq : ∀ (n : Nat) (l r : List Value), takeE n l = some r → n ≤ l.length ∧ r = l.take n
 | 0, l, r, h => by
  have : takeE 0 l = some [] := rfl
  rw [this] at h; cases h; simp
 | n + 1, [], r, h => by
  have : takeE (n + 1) [] = none := rfl
  rw [this] at h; cases h
 | n + 1, v :: l, r, h => by
  have : takeE (n + 1) (v :: l) = Option.rec (motive := fun _ => Option (List Value)) none (fun x => some (v :: x)) (takeE n l) := rfl
  rw [this] at h
  cases ht : takeE n l with
  | none => rw [ht] at h; cases h
  | some x =>
   rw [ht] at h
   have h' : some (v :: x) = some r := h
   cases h'
   obtain ⟨h1, h2⟩ := takeE_eq n l x ht
   exact ⟨by simp; omega, by rw [h2]; simp⟩
theorem dropE_eq : ∀ (n : Nat) (l r : List Value), dropE n l = some r → n ≤ l.length ∧ r = l.drop n
 | 0, l, r, h => by
  have : dropE 0 l = some l := rfl
  rw [this] at h; cases h; simp
 | n + 1, [], r, h => by
  have : dropE (n + 1) [] = none := rfl
  rw [this] at h; cases h
 | n + 1, v :: l, r, h => by
  have : dropE (n + 1) (v :: l) = dropE n l := rfl
  rw [this] at h
  obtain ⟨h1, h2⟩ := dropE_eq n l r h
  exact ⟨by simp; omega, by rw [h2]; simp⟩
theorem takeN_eq {cs : List Value} {off n : Nat} {r : List Value} (h : takeN cs off n = some r) : off + n ≤ cs.length ∧ r = (cs.drop off).take n := by
 unfold takeN at h
 cases hd : dropE off cs with
 | none => rw [hd] at h; cases h
 | some l =>
  rw [hd] at h
  have h' : takeE n l = some r := h
  obtain ⟨h1, h2⟩ := dropE_eq _ _ _ hd
  obtain ⟨h3, h4⟩ := takeE_eq _ _ _ h'
  subst h2
  simp at h3
  exact ⟨by omega, h4⟩
theorem takeE_of : ∀ (n : Nat) (l : List Value), n ≤ l.length → takeE n l = some (l.take n)
 | 0, l, _ => by
  have : takeE 0 l = some [] := rfl
  rw [this]; simp
 | n + 1, [], h => by simp at h
 | n + 1, v :: l, h => by
  have : takeE (n + 1) (v :: l) = Option.rec (motive := fun _ => Option (List Value)) none (fun x => some (v :: x)) (takeE n l) := rfl
  rw [this, takeE_of n l (by simpa using h)]
  rfl
theorem takeN_all (cs : List Value) {n : Nat} (h : cs.length = n) : takeN cs 0 n = some cs := by
 have : takeN cs 0 n = takeE n cs := rfl
 rw [this, takeE_of n cs (by omega), List.take_of_length_le (by omega)]
theorem overE_eq : ∀ (vs cs r : List Value), overE vs cs = some r → vs.length ≤ cs.length ∧ r = vs ++ cs.drop vs.length
 | [], cs, r, h => by
  have : overE [] cs = some cs := rfl
  rw [this] at h; cases h; simp
 | v :: vs, [], r, h => by
  have : overE (v :: vs) [] = none := rfl
  rw [this] at h; cases h
 | v :: vs, c :: cs, r, h => by
  have : overE (v :: vs) (c :: cs) = Option.rec (motive := fun _ => Option (List Value)) none (fun x => some (v :: x)) (overE vs cs) := rfl
  rw [this] at h
  cases ht : overE vs cs with
  | none => rw [ht] at h; cases h
  | some x =>
   rw [ht] at h
   have h' : some (v :: x) = some r := h
   cases h'
   obtain ⟨h1, h2⟩ := overE_eq vs cs x ht
   exact ⟨by simp; omega, by rw [h2]; simp⟩
theorem setE_eq : ∀ (n : Nat) (vs cs r : List Value), setE n vs cs = some r → n + vs.length ≤ cs.length ∧ r = setFrom cs n vs
 | 0, vs, cs, r, h => by
  have : setE 0 vs cs = overE vs cs := rfl
  rw [this] at h
  obtain ⟨h1, h2⟩ := overE_eq vs cs r h
  exact ⟨by omega, by rw [h2]; simp [setFrom]⟩
 | n + 1, vs, [], r, h => by
  have : setE (n + 1) vs [] = none := rfl
  rw [this] at h; cases h
 | n + 1, vs, c :: cs, r, h => by
  have : setE (n + 1) vs (c :: cs) = Option.rec (motive := fun _ => Option (List Value)) none (fun x => some (c :: x)) (setE n vs cs) := rfl
  rw [this] at h
  cases ht : setE n vs cs with
  | none => rw [ht] at h; cases h
  | some x =>
   rw [ht] at h
   have h' : some (c :: x) = some r := h
   cases h'
   obtain ⟨h1, h2⟩ := setE_eq n vs cs x ht
   refine ⟨by simp; omega, ?_⟩
   rw [h2]
   simp only [setFrom, List.take_succ_cons, List.cons_append]
   rw [show n + 1 + vs.length = (n + vs.length) + 1 by omega, List.drop_succ_cons]
theorem setN_eq {cs vs r : List Value} {off : Nat} (h : setN cs off vs = some r) : off + vs.length ≤ cs.length ∧ r = setFrom cs off vs := setE_eq off vs cs r h
end Go.Ew
namespace Go.Ew
open Go Go.RowKit
structure Tm (Γ : Gam) (NG : Nat) (tm : VT) (ca : Act) : Prop where
 sm : tm.sz < U
 tm : ca.tmps = tm.arr.map (con Γ)
 gl : ∀ g, g < NG → Γ.b g = g
theorem con_undef (Γ : Gam) : con Γ undef = undef := rfl
theorem Tm.eval {Γ : Gam} {NG : Nat} {tm : VT} {ca : Act} (h : Tm Γ NG tm ca) {x : Operand} (hx : okOpd NG x = true) : ca.eval x = con Γ (ev tm x) := by
 cases x with
 | tmp t =>
  have e : ev tm (.tmp t) = tm.get t := rfl
  rw [e, ← VT.arr_getD]
  simp only [Act.eval, h.tm, Array.getD_eq_getD_getElem?, Array.getElem?_map]
  cases tm.arr[t]? <;> simp [con_undef]
 | const v => exact (con_flat Γ v hx).symm
 | global g =>
  have hg : g < NG := by simpa [okOpd] using hx
  have e : ev tm (.global g) = .pointer (some ⟨g, 0, none⟩) := rfl
  rw [e]
  simp [Act.eval, con, conA, h.gl g hg]
 | func f =>
  have e : ev tm (.func f) = .func (.func f) #[] #[] := rfl
  rw [e]
  simp [Act.eval, con, conFn, conL]
theorem beqB_eq : ∀ (a b : List UInt8), beqB a b = (a == b)
 | [], [] => rfl
 | [], _ :: _ => rfl
 | _ :: _, [] => rfl
 | x :: xs, y :: ys => by
  have h : Nat.beq x.toNat y.toNat = (x == y) := by
   by_cases e : x = y
   ·subst e; simp
   ·have : x.toNat ≠ y.toNat := fun h => e (UInt8.toNat_inj.1 h)
    have h1 : Nat.beq x.toNat y.toNat = false := by
     rw [Bool.eq_false_iff]; intro h; exact this (Nat.eq_of_beq_eq_true h)
    rw [h1]; simp [e]
  simp only [beqB, h, List.cons_beq_cons]
  cases hxy : (x == y) with
  | false => simp
  | true => simp [beqB_eq xs ys]
theorem pvF_run {P : Program} {s : Sem Value} {x : Bool} {v : Value} (h : pvF P s x = some v) : x = true ∧ flat v = true ∧ ∀ w, s.run P w = .ok v w := by
 unfold pvF at h
 cases x with
 | false => simp at h
 | true =>
  cases hp : pv P s with
  | none => simp [hp] at h
  | some u =>
   cases hf : flat u with
   | false => simp [hp, hf] at h
   | true =>
    simp [hp, hf] at h
    subst h
    exact ⟨rfl, hf, pv_run P s u hp⟩
theorem run_under {P : Program} {t : TypeId} {d : TypeDesc} (h : P.underlying t = some d) (w : World) : (underlying t).run P w = .ok d w := by
 simp [underlying, h]
theorem run_eq_slice {P : Program} {t e : TypeId} (hu : P.underlying t = some (.slice e)) (a : Option Addr) (n c n' c' : Nat) (w : World) :
  (Op.equal t (.slice a n c) (.slice none n' c')).run P w = .ok a.isNone w := by
 have h : ∀ d : Nat, (Op.equalIn (d + 1) t (.slice a n c) (.slice none n' c')).run P w = .ok a.isNone w := fun d => by
  cases a <;> simp [Op.equalIn, run_under hu]
 exact h 9999
theorem run_eq_pointer {P : Program} {t e : TypeId} (hu : P.underlying t = some (.pointer e)) (a : Option Addr) (w : World) :
  (Op.equal t (.pointer a) (.pointer none)).run P w = .ok a.isNone w := by
 have h : ∀ d : Nat, (Op.equalIn (d + 1) t (.pointer a) (.pointer none)).run P w = .ok a.isNone w := fun d => by
  cases a <;> simp [Op.equalIn, run_under hu]
 exact h 9999
theorem run_eq_map {P : Program} {t k e : TypeId} (hu : P.underlying t = some (.map k e)) (a : Option Nat) (w : World) :
  (Op.equal t (.map a) (.map none)).run P w = .ok a.isNone w := by
 have h : ∀ d : Nat, (Op.equalIn (d + 1) t (.map a) (.map none)).run P w = .ok a.isNone w := fun d => by
  cases a <;> simp [Op.equalIn, run_under hu]
 exact h 9999
theorem run_size0 {P : Program} {t : TypeId} {n : Nat} (h : szT P t = some n) (w : World) : (sizeOf t).run P w = .ok n w := by
 unfold szT at h
 split at h
 ·rename_i i hi; cases h; simp [sizeOf, typeInfo, hi]
 ·cases h
theorem run_eq_places {P : Program} {t e : TypeId} (hu : P.underlying t = some (.pointer e)) {n : Nat} (hs : szT P e = some (n + 1)) (b ao bo : Nat) (w : World) :
  (Op.equal t (.pointer (some ⟨b, ao, none⟩)) (.pointer (some ⟨b, bo, none⟩))).run P w = .ok (Nat.beq ao bo) w := by
 have h : ∀ d : Nat, (Op.equalIn (d + 1) t (.pointer (some ⟨b, ao, none⟩)) (.pointer (some ⟨b, bo, none⟩))).run P w = .ok (Nat.beq ao bo) w := fun d => by
  have hd : ((⟨b, ao, none⟩ : Addr) == ⟨b, bo, none⟩) = Nat.beq ao bo := by
   rw [Bool.eq_iff_iff, beq_iff_eq, Nat.beq_eq]
   simp
  simp [Op.equalIn, run_under hu, run_size0 hs, sameAddr]
  exact hd
 exact h 9999
theorem binPure_run {P : Program} {op : BinOp} {t : TypeId} {x y : Operand} {a b v : Value} (Γ : Gam) (h : binPure P op t x y a b = some v) (w : World) :
  (do eqGuard op t x y (con Γ a) (con Γ b); binOp op t (con Γ a) (con Γ b) : Sem Value).run P w = .ok (con Γ v) w := by
 unfold binPure at h
 split at h
 ·injection h with h; subst h
  simp [con, eqGuard, binOp, Op.stringOp, beqB_eq, ByteArray.toList_eq]
 ·injection h with h; subst h
  simp [con, eqGuard, binOp, Op.stringOp, beqB_eq, ByteArray.toList_eq]
 ·rename_i u n c n' c'
  split at h <;> cases h
  rename_i e hu
  cases u <;> simp [con, eqGuard, binOp, run_eq_slice hu]
 ·rename_i u n c n' c'
  split at h <;> cases h
  rename_i e hu
  cases u <;> simp [con, eqGuard, binOp, run_eq_slice hu]
 ·rename_i u
  split at h <;> cases h
  rename_i e hu
  cases u <;> simp [con, eqGuard, binOp, run_eq_pointer hu]
 ·rename_i u
  split at h <;> cases h
  rename_i e hu
  cases u <;> simp [con, eqGuard, binOp, run_eq_pointer hu]
 ·rename_i u
  split at h <;> cases h
  rename_i e hu
  cases u <;> simp [con, eqGuard, binOp, run_eq_map hu]
 ·rename_i u
  split at h <;> cases h
  rename_i e hu
  cases u <;> simp [con, eqGuard, binOp, run_eq_map hu]
 ·split at h <;> cases h
  rename_i hb
  have hb := Nat.eq_of_beq_eq_true hb
  subst hb
  simp [con, eqGuard, binOp, Op.intCmp]
 ·split at h <;> cases h
  rename_i hb
  have hb := Nat.eq_of_beq_eq_true hb
  subst hb
  simp [con, eqGuard, binOp, Op.intCmp]
 ·rename_i a b
  split at h
  ·rename_i e hu
   unfold ptrEq at h
   split at h
   ·split at h
    ·rename_i hs
     split at h <;> cases h
     rename_i hb
     have hb := Nat.eq_of_beq_eq_true hb
     subst hb
     simp [con, conA, eqGuard, binOp, run_eq_places hu hs]
    ·cases h
   ·cases h
  ·cases h
 ·rename_i a b
  split at h
  ·rename_i e hu
   split at h <;> cases h
   rename_i c h
   unfold ptrEq at h
   split at h
   ·split at h
    ·rename_i hs
     split at h <;> cases h
     rename_i hb
     have hb := Nat.eq_of_beq_eq_true hb
     subst hb
     simp [con, conA, eqGuard, binOp, run_eq_places hu hs]
    ·cases h
   ·cases h
  ·cases h
 ·obtain ⟨hf, hv, hr⟩ := pvF_run h
  rw [Bool.and_eq_true] at hf
  rw [con_flat Γ a hf.1, con_flat Γ b hf.2, con_flat Γ v hv]
  exact hr w
theorem run_size {P : Program} {t : TypeId} {n : Nat} (h : szT P t = some n) (w : World) : (sizeOf t).run P w = .ok n w := by
 unfold szT at h
 split at h <;> cases h
 rename_i i hi
 simp [sizeOf, typeInfo, hi]
theorem run_isAgg {P : Program} {t : TypeId} {b : Bool} (h : isAggT P t = some b) (w : World) : (isAgg t).run P w = .ok b w := by
 unfold isAggT at h
 split at h <;> cases h
 ·rename_i hu; simp [isAgg, run_under hu]
 ·rename_i hu; simp [isAgg, run_under hu]
 ·rename_i d h1 h2 hu
  simp only [isAgg, Sem.run_bind, run_under hu, Result.andThen_ok]
  cases d <;> simp_all
theorem partV_run {P : Program} {t : TypeId} {cs : List Value} {off : Nat} {v : Value} (Γ : Gam) (h : partV P t cs off = some v) (w : World) :
  (part t ((⟨cs⟩ : Array Value).map (con Γ)) off).run P w = .ok (con Γ v) w := by
 unfold partV at h
 split at h
 ·rename_i ha
  split at h
  case h_2 => cases h
  rename_i n hn
  split at h
  case h_2 => cases h
  rename_i l hl
  split at h <;> cases h
  rename_i l' hl'
  obtain ⟨_, rfl⟩ := dropE_eq _ _ _ hl
  obtain ⟨_, rfl⟩ := takeE_eq _ _ _ hl'
  simp only [part, Sem.run_bind, run_isAgg ha, Result.andThen_ok, if_true, run_size hn, Sem.run_pure]
  congr 1
  rw [con_agg]
  congr 1
  apply Array.ext'
  simp [List.map_take, List.map_drop, List.extract_eq_take_drop]
 ·rename_i ha
  simp [part, run_isAgg ha, h]
 ·cases h
theorem setFrom_toArray (cs vs : List Value) (off : Nat) (h : off + vs.length ≤ cs.length) :
  (vs.zipIdx.foldl (fun (cs : Array Value) (x : Value × Nat) => cs.setIfInBounds (off + x.2) x.1) ⟨cs⟩) = ⟨setFrom cs off vs⟩ := by
 have key : ∀ (vs : List Value) (k : Nat) (cs : List Value), off + k + vs.length ≤ cs.length →
   ((vs.zipIdx k).foldl (fun (cs : Array Value) (x : Value × Nat) => cs.setIfInBounds (off + x.2) x.1) ⟨cs⟩) = ⟨setFrom cs (off + k) vs⟩ := by
  intro vs
  induction vs with
  | nil => intro k cs _; simp [setFrom]
  | cons v vs ih =>
   intro k cs hl
   simp only [List.length_cons] at hl
   simp only [List.zipIdx_cons, List.foldl_cons]
   rw [show ((⟨cs⟩ : Array Value).setIfInBounds (off + k) v) = ⟨cs.set (off + k) v⟩ by apply Array.ext'; simp]
   rw [ih (k + 1) _ (by simp; omega)]
   congr 1
   simp only [setFrom, ← Nat.add_assoc, List.length_cons]
   rw [List.take_set, List.drop_set]
   rw [if_pos (by omega)]
   have h1 : cs.take (off + k + 1) = cs.take (off + k) ++ [cs[off + k]'(by omega)] := by
    rw [List.take_succ_eq_append_getElem]
   rw [h1]
   rw [List.set_append_right _ _ (by simp; omega)]
   have h2 : off + k - (List.take (off + k) cs).length = 0 := by simp; omega
   rw [h2]
   simp only [List.set_cons_zero, List.append_assoc, List.cons_append, List.nil_append]
   rw [show off + k + 1 + vs.length = off + k + vs.length + 1 by omega]
 simpa using key vs 0 cs (by simpa using h)
theorem setFrom_map (Γ : Gam) (cs vs : List Value) (off : Nat) : (setFrom cs off vs).map (con Γ) = setFrom (cs.map (con Γ)) off (vs.map (con Γ)) := by
 simp [setFrom]
theorem fillL_run (Γ : Gam) (place : Nat → Option (Nat × Nat)) : ∀ (parts : List (Nat × Value)) (cs out : List Value), fillL place cs parts = some out →
  Instr.fill place ⟨cs.map (con Γ)⟩ (parts.map fun x => (x.1, con Γ x.2)) = some ⟨out.map (con Γ)⟩ := by
 intro parts
 induction parts with
 | nil => intro cs out h; simp only [fillL, Option.some.injEq] at h; subst h; simp [Instr.fill]
 | cons x rest ih =>
  obtain ⟨i, v⟩ := x
  intro cs out h
  simp only [fillL] at h
  cases hp : place i with
  | none => simp [hp] at h
  | some os =>
   obtain ⟨off, size⟩ := os
   simp only [hp] at h
   split at h
   ·rename_i hb
    simp only [Nat.beq_eq] at hb
    split at h
    case h_2 => cases h
    rename_i cs' hcs
    obtain ⟨hb2, rfl⟩ := setE_eq _ _ _ _ hcs
    simp only [List.map_cons, Instr.fill, hp, con_cells, Array.size_map]
    rw [if_neg (by simp [hb]; simpa [hb] using hb2)]
    have hz : (v.cells.map (con Γ)).zipIdx.foldl (fun (cs : Array Value) (x : Value × Nat) => cs.setIfInBounds (off + x.2) x.1) ⟨cs.map (con Γ)⟩ = ⟨(setFrom cs off v.cells.toList).map (con Γ)⟩ := by
     rw [setFrom_map, ← setFrom_toArray _ _ _ (by simpa using hb2), ← Array.foldl_toList]
     simp
    exact (congrArg (fun c => Instr.fill place c _) hz).trans (ih _ _ h)
   ·cases h
theorem flatL_toList {v : Value} (h : flat v = true) : flatL v.cells.toList = true := by
 cases v with
 | agg cs => obtain ⟨l⟩ := cs; simpa [flat, Value.cells] using h
 | _ => simp_all [Value.cells, flatL]
theorem conL_cells {v : Value} (Γ : Gam) (h : flat v = true) : v.cells.toList.map (con Γ) = v.cells.toList := by
 rw [← conL_map]; exact conL_flat Γ _ (flatL_toList h)
theorem placesOf_run {P : Program} {w : World} : ∀ {fs : List Field} {pl : List (Nat × Nat)}, placesOf P fs = some pl →
  (fs.mapM fun f => do pure (f.offset, ← sizeOf f.type) : Sem (List (Nat × Nat))).run P w = .ok pl w := by
 intro fs
 induction fs with
 | nil => intro pl h; simp [placesOf] at h; subst h; simp
 | cons f fs ih =>
  intro pl h
  simp only [placesOf] at h
  split at h <;> cases h
  rename_i n l hn hl
  simp only [List.mapM_cons, Sem.run_bind, run_size hn, Result.andThen_ok, Sem.run_pure, ih hl]
theorem buildV_run {P : Program} {t : TypeId} {parts : List (Nat × Value)} {v : Value} (Γ : Gam) (h : buildV P t parts = some v) (w : World) :
  (Instr.build t ⟨parts.map fun x => (x.1, con Γ x.2)⟩).run P w = .ok (con Γ v) w := by
 unfold buildV at h
 split at h
 ·cases h
 rename_i i hi
 split at h
 ·cases h
 rename_i z hz
 split at h
 ·rename_i fs hf hu
  split at h
  ·rename_i pl hpl
   split at h <;> cases h
   rename_i cs hcs
   have hr := fillL_run Γ _ _ _ _ hcs
   rw [conL_cells Γ hf] at hr
   have hm : (fs.mapM fun f => do pure (f.offset, ← sizeOf f.type) : Sem (Array (Nat × Nat))).run P w = .ok ⟨pl⟩ w := by
    have h2 := placesOf_run (w := w) hpl
    obtain ⟨fs⟩ := fs
    rw [List.mapM_toArray]
    simp only [Sem.run_map]
    simp only at h2
    rw [h2]
    simp
   have hr' : Instr.fill (fun x => (⟨pl⟩ : Array (Nat × Nat))[x]?) z.cells (parts.map fun x => (x.1, con Γ x.2)) = some ⟨cs.map (con Γ)⟩ := by
    simpa using hr
   simp only [Instr.build, Sem.run_bind, zeroValue, typeInfo, run_program, Result.andThen_ok, hi, Sem.run_pure, hz, run_under hu]
   rw [hm]
   simp only [Result.andThen_ok]
   simp only [hr', Sem.run_pure, con_agg]
   simp
  ·cases h
 ·rename_i n e hf hu
  split at h
  ·rename_i n' hn
   split at h <;> cases h
   rename_i cs hcs
   have hr := fillL_run Γ _ _ _ _ hcs
   rw [conL_cells Γ hf] at hr
   simp only [Instr.build, Sem.run_bind, zeroValue, typeInfo, run_program, Result.andThen_ok, hi, Sem.run_pure, hz, run_under hu, run_size hn]
   have hr' : Instr.fill (fun i => some (i * n', n')) z.cells (parts.map fun x => (x.1, con Γ x.2)) = some ⟨cs.map (con Γ)⟩ := hr
   simp only [hr', Sem.run_pure, con_agg]
   simp
  ·cases h
 ·cases h
theorem conA_add (Γ : Gam) (a : Addr) (n : Nat) : (conA Γ a).add n = conA Γ (a.add n) := by
 unfold Addr.add conA
 split <;> rfl
theorem run_bound {P : Program} {w : World} (Γ : Gam) {k : IntKind} {n y : Nat} {code : BoundsCode} (h : n ≤ y) :
  (Instr.sliceBound (con Γ (.int k (n : Int))) y code).run P w = .ok n w := by
 simp only [con]
 have := run_sliceBound (P := P) w k (n : Int) y code (Int.natCast_nonneg n) (Int.ofNat_le.2 h)
 simpa using this
theorem bounds_key {len top : Nat} {mx hi lo : Option Value} {l h : Nat} {m : Option Nat} (hb : bounds len top mx hi lo = some (l, h, m)) :
  ((mx = none ∧ m = none) ∨ ∃ k mm, mx = some (.int k (.ofNat mm)) ∧ m = some mm ∧ mm ≤ top) ∧
   ((hi = none ∧ m = none ∧ h = len) ∨ (∃ k, hi = some (.int k (.ofNat h)) ∧ h ≤ m.getD top)) ∧
   ((lo = none ∧ l = 0) ∨ (∃ k, lo = some (.int k (.ofNat l)) ∧ l ≤ h)) := by
 unfold bounds at hb
 split at hb
 ·cases hb
 rename_i m' hm
 split at hb
 ·cases hb
 rename_i h' hh
 split at hb
 ·cases hb
 rename_i l' hl
 cases hb
 refine ⟨?_, ?_, ?_⟩
 ·split at hm
  ·cases hm; exact .inl ⟨rfl, rfl⟩
  ·rename_i k mm
   split at hm <;> cases hm
   rename_i hle
   exact .inr ⟨k, mm, rfl, rfl, by simpa using hle⟩
  ·cases hm
 ·split at hh
  ·cases hh; exact .inl ⟨rfl, rfl, rfl⟩
  ·cases hh
  ·rename_i k hv
   split at hh <;> cases hh
   rename_i hle
   exact .inr ⟨k, rfl, by simpa using hle⟩
  ·rename_i k hv mm
   split at hh <;> cases hh
   rename_i hle
   exact .inr ⟨k, rfl, by simpa using hle⟩
  ·cases hh
 ·split at hl
  ·cases hl; exact .inl ⟨rfl, rfl⟩
  ·rename_i k lv
   split at hl <;> cases hl
   rename_i hle
   exact .inr ⟨k, rfl, by simpa using hle⟩
  ·cases hl
theorem bounds_run {P : Program} {w : World} {len top cap : Nat} {mx hi lo : Option Value} {l h : Nat} {m : Option Nat} (Γ : Gam) (isS : Bool)
  (hb : bounds len top mx hi lo = some (l, h, m)) (ht : top ≤ cap) :
  (Instr.sliceBounds isS len cap (lo.map (con Γ)) (hi.map (con Γ)) (mx.map (con Γ))).run P w = .ok (l, h, m.getD cap) w := by
 have key := bounds_key hb
 obtain ⟨k1, k2, k3⟩ := key
 rcases k1 with ⟨rfl, rfl⟩ | ⟨k, mm, rfl, rfl, hmm⟩
 ·rcases k2 with ⟨rfl, _, rfl⟩ | ⟨k, rfl, hh⟩
  ·rcases k3 with ⟨rfl, rfl⟩ | ⟨k, rfl, hl⟩
   ·simp [Instr.sliceBounds]
   ·simp [Instr.sliceBounds, run_bound Γ hl]
  ·have hh' : h ≤ cap := by simp at hh; omega
   rcases k3 with ⟨rfl, rfl⟩ | ⟨k, rfl, hl⟩
   ·simp [Instr.sliceBounds, run_bound Γ hh']
   ·simp [Instr.sliceBounds, run_bound Γ hh', run_bound Γ hl]
 ·have hmm' : mm ≤ cap := by omega
  rcases k2 with ⟨_, h0, _⟩ | ⟨k, rfl, hh⟩
  ·cases h0
  ·simp only [Option.getD_some] at hh
   rcases k3 with ⟨rfl, rfl⟩ | ⟨k, rfl, hl⟩
   ·simp [Instr.sliceBounds, run_bound Γ hmm', run_bound Γ hh]
   ·simp [Instr.sliceBounds, run_bound Γ hmm', run_bound Γ hh, run_bound Γ hl]
theorem slicePure_run {P : Program} {w : World} {t : TypeId} {a : Option Addr} {len cap : Nat} {lo hi mx : Option Value} {v : Value} (Γ : Gam)
  (h : slicePure P t a len cap lo hi mx = some v) :
  (Instr.sliceAt t (con Γ (.slice a len cap)) (lo.map (con Γ)) (hi.map (con Γ)) (mx.map (con Γ))).run P w = .ok (con Γ v) w := by
 unfold slicePure at h
 split at h
 ·rename_i e hu
  split at h
  ·rename_i size hs hc
   split at h
   ·rename_i l hh m hb
    have hlt : cap < UC := by simpa using hc
    have hc' : ∀ a : Option Addr, con Γ (.slice a len cap) = .slice (a.map (conA Γ)) len cap := by
     intro a; cases a with
     | none => simp [con]
     | some a => simp [con, conCap, hlt, conS_lt Γ a hlt]
    have hc2 : ∀ (a : Option Addr) (n c : Nat), c ≤ cap → con Γ (.slice a n c) = .slice (a.map (conA Γ)) n c := by
     intro a n c hcc; cases a with
     | none => simp [con]
     | some a => have hcu : c < UC := by omega
                 simp [con, conCap, hcu, conS_lt Γ a hcu]
    rw [hc' a]
    have hbr := bounds_run (P := P) (w := w) Γ true hb (Nat.le_refl _)
    have hml : m.getD cap ≤ cap := by
     rcases (bounds_key hb).1 with ⟨_, rfl⟩ | ⟨k, mm, _, rfl, hle⟩
     ·simp
     ·simpa using hle
    simp only [Instr.sliceAt, Instr.slice, Sem.run_bind, run_under hu, Result.andThen_ok, hbr, run_size hs, Sem.run_pure]
    dsimp only at h
    split at h
    ·rename_i he
     simp only [Nat.beq_eq] at he
     cases h
     rw [hc2 _ _ _ (by omega), if_pos he]
    ·rename_i he
     have he' : m.getD cap ≠ l := fun e => by rw [e] at he; simp at he
     cases h
     rw [hc2 _ _ _ (by omega), if_neg he']
     cases a <;> simp [conA_add]
   ·cases h
  ·cases h
 ·cases h
theorem sliceArr_run {P : Program} {w : World} {t : TypeId} {a : Addr} {lo hi mx : Option Value} {v : Value} (Γ : Gam) (h : sliceArr P t a lo hi mx = some v) :
  (Instr.sliceAt t (con Γ (.pointer (some a))) (lo.map (con Γ)) (hi.map (con Γ)) (mx.map (con Γ))).run P w = .ok (con Γ v) w := by
 unfold sliceArr at h
 split at h
 ·rename_i n e hu
  split at h
  ·rename_i size hs hc
   split at h
   ·rename_i l hh m hb
    have hlt : n < UC := by have h1 : n < U := by simpa using hc
                            have := U_UC; omega
    have hc2 : ∀ (a : Addr) (k c : Nat), c ≤ n → con Γ (.slice (some a) k c) = .slice (some (conA Γ a)) k c := by
     intro a k c hcc
     have hcu : c < UC := by omega
     simp [con, conCap, hcu, conS_lt Γ a hcu]
    have hbr := bounds_run (P := P) (w := w) Γ false hb (Nat.le_refl _)
    have hml : m.getD n ≤ n := by
     rcases (bounds_key hb).1 with ⟨_, rfl⟩ | ⟨k, mm, _, rfl, hle⟩
     ·simp
     ·simpa using hle
    simp only [con, Instr.sliceAt, Instr.sureAddr, Sem.run_bind, run_under hu, Result.andThen_ok, hbr, run_size hs, Sem.run_pure]
    dsimp only at h
    split at h
    ·rename_i he
     simp only [Nat.beq_eq] at he
     cases h
     rw [hc2 _ _ _ (by omega), if_pos he]
    ·rename_i he
     have he' : m.getD n ≠ l := fun e => by rw [e] at he; simp at he
     cases h
     rw [hc2 _ _ _ (by omega), if_neg he', conA_add]
   ·cases h
  ·cases h
 ·cases h
end Go.Ew
namespace Go.Ew
open Go Go.RowKit
theorem evPure_run {P : Program} {Γ : Gam} {NG : Nat} {tm : VT} {ca : Act} {o : Oper} {v : Value} (ht : Tm Γ NG tm ca)
  (hop : o.op.operands.all (okOpd NG) = true) (h : evPure P o tm = some v) (w : World) :
  (execOp ca.eval o).run P w = .ok (.value (con Γ v)) w := by
 have he : ∀ x ∈ o.op.operands, ca.eval x = con Γ (ev tm x) := fun x hx => ht.eval (by
  rw [Array.all_eq_true_iff_forall_mem] at hop; exact hop x hx)
 unfold evPure at h
 split at h
 ·rename_i x ho
  cases h
  simp [execOp, ho, he x (by simp [ho, Op.operands])]
 ·rename_i x ho
  cases h
  simp [execOp, ho, he x (by simp [ho, Op.operands])]
 ·rename_i c a b ho
  have hc := he c (by simp [ho, Op.operands])
  have ha := he a (by simp [ho, Op.operands])
  have hb := he b (by simp [ho, Op.operands])
  split at h <;> cases h
  ·rename_i hx; simp [execOp, ho, hc, hx, ha, con, asBool]
  ·rename_i hx; simp [execOp, ho, hc, hx, hb, con, asBool]
 ·rename_i t i ho
  have hc := he t (by simp [ho, Op.operands])
  split at h
  ·rename_i vs hx
   simp [execOp, ho, hc, hx, con_tuple, Instr.extract, h]
  ·cases h
 ·rename_i op t x y yt ho
  have hx := he x (by simp [ho, Op.operands])
  have hy := he y (by simp [ho, Op.operands])
  have hr := binPure_run Γ h w
  simp only [Sem.run_bind] at hr
  simp only [execOp, ho, Sem.run_bind, hx, hy, hr, Result.andThen_ok, Sem.run_pure]
 ·rename_i op t x ho
  have hx := he x (by simp [ho, Op.operands])
  obtain ⟨hf, hv, hr⟩ := pvF_run h
  simp [execOp, ho, hx, con_flat Γ _ hf, hr w, con_flat Γ _ hv]
 ·rename_i s d x ho
  have hx := he x (by simp [ho, Op.operands])
  obtain ⟨hf, hv, hr⟩ := pvF_run h
  simp [execOp, ho, hx, con_flat Γ _ hf, hr w, con_flat Γ _ hv]
 ·rename_i s x f ho
  have hx := he x (by simp [ho, Op.operands])
  split at h
  ·rename_i fs a hu hxe
   split at h
   ·rename_i fl hfl
    split at h <;> cases h
    rename_i n hn
    simp [execOp, ho, hx, hxe, con, Instr.fieldAt, run_under hu, hfl, Instr.sureAddr, fieldPlace, run_size hn, conA_add]
   ·cases h
  ·cases h
 ·rename_i t x f ho
  have hx := he x (by simp [ho, Op.operands])
  split at h
  ·rename_i fs cs hu hxe
   split at h
   ·rename_i fl hfl
    have hp := partV_run Γ h w
    simp only [Array.toArray_toList] at hp
    simp [execOp, ho, hx, hxe, con_agg, Instr.field, run_under hu, hfl, asAgg, hp]
   ·cases h
  ·cases h
 ·rename_i t x i ho
  have hx := he x (by simp [ho, Op.operands])
  have hi := he i (by simp [ho, Op.operands])
  split at h
  ·rename_i e a len c k n hu hxe hie
   split at h <;> cases h
   rename_i size hlt hs
   simp only [Nat.blt_eq] at hlt
   simp [execOp, ho, hx, hxe, hi, hie, con, conS_pos Γ a (show 0 < len by omega), Instr.indexAt, asIntOf, run_under hu, run_size hs, conA_add, hlt]
  ·rename_i len e a k n hu hxe hie
   split at h <;> cases h
   rename_i size hlt hs
   simp only [Nat.blt_eq] at hlt
   simp [execOp, ho, hx, hxe, hi, hie, con, Instr.indexAt, asIntOf, run_under hu, run_size hs, conA_add, hlt, Instr.sureAddr]
  ·cases h
 ·rename_i t x i ho
  have hx := he x (by simp [ho, Op.operands])
  have hi := he i (by simp [ho, Op.operands])
  split at h
  ·rename_i s k n hxe hie
   obtain ⟨_, hv, hr⟩ := pvF_run h
   simp [execOp, ho, hx, hxe, hi, hie, con, hr w, con_flat Γ _ hv]
  ·rename_i cs k n hxe hie
   split at h
   ·rename_i len e hu
    split at h
    ·rename_i size hlt hs
     simp only [Nat.blt_eq] at hlt
     have hp := partV_run Γ h w
     simp only [Array.toArray_toList] at hp
     simp [execOp, ho, hx, hxe, hi, hie, con_agg, con, Instr.index, asIntOf, run_under hu, run_size hs, hlt, hp]
    ·cases h
   ·cases h
  ·cases h
 ·rename_i t x lo hi mx ho
  have hx := he x (by simp [ho, Op.operands])
  have hlo : lo.map ca.eval = (lo.map (ev tm)).map (con Γ) := by
   cases lo with
   | none => rfl
   | some y => simp [he y (by simp [ho, Op.operands])]
  have hhi : hi.map ca.eval = (hi.map (ev tm)).map (con Γ) := by
   cases hi with
   | none => rfl
   | some y => simp [he y (by simp [ho, Op.operands])]
  have hmx : mx.map ca.eval = (mx.map (ev tm)).map (con Γ) := by
   cases mx with
   | none => rfl
   | some y => simp [he y (by simp [ho, Op.operands])]
  have fl : ∀ x : Option Value, x.all flat = true → x.map (con Γ) = x := fun x hx => by
   cases x with
   | none => rfl
   | some y => simp at hx; simp [con_flat Γ y hx]
  split at h
  ·rename_i s hxe
   obtain ⟨hf, hv, hr⟩ := pvF_run h
   simp only [Bool.and_eq_true] at hf
   simp only [execOp, ho, hx, hxe, con, hlo, hhi, hmx, fl _ hf.1.1, fl _ hf.1.2, fl _ hf.2, Sem.run_bind, hr w, Result.andThen_ok, Sem.run_pure, con_flat Γ _ hv]
  ·rename_i a n c hxe
   have hr := slicePure_run (w := w) Γ h
   simp only [execOp, ho, hx, hxe, hlo, hhi, hmx, Sem.run_bind, hr, Result.andThen_ok, Sem.run_pure]
  ·rename_i a hxe
   have hr := sliceArr_run (w := w) Γ h
   simp only [execOp, ho, hx, hxe, hlo, hhi, hmx, Sem.run_bind, hr, Result.andThen_ok, Sem.run_pure]
  ·cases h
 ·rename_i t parts ho
  have hr := buildV_run Γ h w
  have hparts : (parts.map fun (x : Nat × Operand) => (x.1, ca.eval x.2)) = ⟨(parts.toList.map fun (x : Nat × Operand) => (x.1, ev tm x.2)).map fun x => (x.1, con Γ x.2)⟩ := by
   apply Array.ext'
   simp only [Array.toList_map, List.map_map]
   apply List.map_congr_left
   intro y hy
   simp only [Function.comp]
   rw [he y.2 (by
    simp only [ho, Op.operands]
    simp only [List.mem_toArray, List.mem_map]
    exact ⟨y, hy, rfl⟩)]
  have hr' := hr
  simp only [execOp, ho, Sem.run_bind]
  rw [show (parts.map fun (i, x) => (i, ca.eval x)) = (parts.map fun (x : Nat × Operand) => (x.1, ca.eval x.2)) from rfl, hparts]
  rw [show (parts.toList.map fun (x : Nat × Operand) => (x.1, ev tm x.2)) = (parts.toList.map fun (i, x) => (i, ev tm x)) from rfl, hr']
  simp
 ·rename_i g f c ho
  cases h
  have hf : f.map ca.eval = (f.map (ev tm)).map (con Γ) := by
   rw [Array.map_map]
   apply Array.map_congr_left
   intro y hy; exact he y (by simp [ho, Op.operands, hy])
  have hc : c.map ca.eval = (c.map (ev tm)).map (con Γ) := by
   rw [Array.map_map]
   apply Array.map_congr_left
   intro y hy; exact he y (by simp [ho, Op.operands, hy])
  simp only [execOp, ho, Instr.makeFunc, Sem.run_bind, Sem.run_pure, Result.andThen_ok, con_func, conFn, hf, hc]
 ·rename_i t x ho
  have hx := he x (by simp [ho, Op.operands])
  split at h <;> cases h
  rename_i d hni hu
  simp only [execOp, ho, hx, Instr.makeInterface, Sem.run_bind, run_under hu, Result.andThen_ok, con]
  cases d <;> first | simp | exact absurd rfl (hni _)
 ·rename_i x ho
  have hx := he x (by simp [ho, Op.operands])
  split at h <;> cases h
  ·rename_i a hxe; simp [execOp, ho, hx, hxe, con]
  ·rename_i g f c hxe; simp [execOp, ho, hx, hxe, con_func, conFn]
 ·rename_i args argTypes ho
  split at h
  ·rename_i x t hx0 ht0
   have hx := he x (by simp only [ho, Op.operands, Call.operands]; exact Array.mem_append.2 (.inr (Array.mem_of_getElem? hx0)))
   have hr0 : (args.map ca.eval)[0]? = some (con Γ (ev tm x)) := by rw [Array.getElem?_map, hx0]; simp [hx]
   split at h <;> cases h
   ·rename_i s hu hxe
    rw [hxe] at hr0
    simp [execOp, ho, resolve, invoke, builtin, Builtin.len_, ht0, hx0, hx, hxe, run_under hu, con, goInt]
   ·rename_i e a n c hu hxe
    rw [hxe] at hr0
    cases a <;> simp [execOp, ho, resolve, invoke, builtin, Builtin.len_, ht0, hx0, hx, hxe, run_under hu, con, goInt]
  ·cases h
 ·rename_i args argTypes ho
  obtain ⟨hf, hv, hr⟩ := pvF_run h
  have hargs : args.map ca.eval = args.map (ev tm) := by
   apply Array.map_congr_left
   intro y hy
   rw [he y (by simp only [ho, Op.operands, Call.operands]; exact Array.mem_append.2 (.inr hy))]
   refine con_flat Γ _ ?_
   have h2 : ∀ (l : List Value), flatL l = true → ∀ v ∈ l, flat v = true := fun l => by
    induction l with
    | nil => intro _ v hv; cases hv
    | cons a l ih => intro hl v hv; simp only [flatL, Bool.and_eq_true] at hl; cases hv with | head => exact hl.1 | tail _ hv => exact ih hl.2 v hv
   exact h2 _ hf _ (by simp; exact ⟨y, by simpa using hy, rfl⟩)
  simp [execOp, ho, resolve, invoke, builtin, hargs, hr w, con_flat Γ _ hv]
 ·rename_i args argTypes ho
  obtain ⟨hf, hv, hr⟩ := pvF_run h
  have hargs : args.map ca.eval = args.map (ev tm) := by
   apply Array.map_congr_left
   intro y hy
   rw [he y (by simp only [ho, Op.operands, Call.operands]; exact Array.mem_append.2 (.inr hy))]
   refine con_flat Γ _ ?_
   have h2 : ∀ (l : List Value), flatL l = true → ∀ v ∈ l, flat v = true := fun l => by
    induction l with
    | nil => intro _ v hv; cases hv
    | cons a l ih => intro hl v hv; simp only [flatL, Bool.and_eq_true] at hl; cases hv with | head => exact hl.1 | tail _ hv => exact ih hl.2 v hv
   exact h2 _ hf _ (by simp; exact ⟨y, by simpa using hy, rfl⟩)
  simp [execOp, ho, resolve, invoke, builtin, hargs, hr w, con_flat Γ _ hv]
 ·cases h
end Go.Ew
namespace Go.Ew
open Go Go.RowKit
theorem Tr.get_nil (j : Nat) : Tr.nil.get j = none := rfl
theorem Tr.get_node (l r : Tr) (v : Option AObj) (j : Nat) : (Tr.node l v r).get j = if j = 0 then v else if (j - 1) % 2 = 0 then l.get ((j - 1) / 2) else r.get ((j - 1) / 2) := by
 cases j with
 | zero => rfl
 | succ j =>
  have : (Tr.node l v r).get (j + 1) = Bool.rec (motive := fun _ => Option AObj) (r.get (Nat.div j 2)) (l.get (Nat.div j 2)) (Nat.beq (Nat.mod j 2) 0) := rfl
  rw [this, bitRec]
  simp only [Nat.add_eq_zero_iff, Nat.succ_ne_self, and_false, if_false, Nat.add_sub_cancel]
  rfl
theorem Tr.go_succ (j : Nat) (x : AObj) (f : Tr → Nat → Tr) (l r : Tr) (v : Option AObj) : Tr.go (j + 1) x f l v r = if j % 2 = 0 then .node (f l (j / 2)) v r else .node l v (f r (j / 2)) := by
 have : Tr.go (j + 1) x f l v r = Bool.rec (motive := fun _ => Tr) (.node l v (f r (Nat.div j 2))) (.node (f l (Nat.div j 2)) v r) (Nat.beq (Nat.mod j 2) 0) := rfl
 rw [this, bitRec]
 rfl
theorem Tr.go_zero (x : AObj) (f : Tr → Nat → Tr) (l r : Tr) (v : Option AObj) : Tr.go 0 x f l v r = .node l (some x) r := rfl
theorem Tr.get_set : ∀ (n : Nat) (t : Tr) (i : Nat) (x : AObj) (j : Nat), i + 1 < 2 ^ n → (Tr.set n t i x).get j = if j = i then some x else t.get j := by
 intro n
 induction n with
 | zero => intro t i x j h; simp at h
 | succ n ih =>
  intro t i x j h
  have main : ∀ (l r : Tr) (v : Option AObj), (∀ j, t.get j = (Tr.node l v r).get j) →
    (Tr.go i x (fun t i => Tr.set n t i x) l v r).get j = if j = i then some x else t.get j := by
   intro l r v ht
   rw [ht j]
   cases i with
   | zero =>
    simp only [Tr.go_zero, Tr.get_node]
    by_cases hj : j = 0 <;> simp [hj]
   | succ k =>
    have hk : k / 2 + 1 < 2 ^ n := by rw [Nat.pow_succ] at h; omega
    rw [Tr.go_succ]
    by_cases hb : k % 2 = 0
    ·simp only [hb, if_true, Tr.get_node, ih l _ x _ hk]
     by_cases hj : j = 0
     ·subst hj; simp
     ·simp only [hj, if_false]
      by_cases hp : (j - 1) % 2 = 0
      ·simp only [hp, if_true]
       by_cases he : j = k + 1
       ·subst he; simp
       ·rw [if_neg (by omega), if_neg he]
      ·simp only [hp, if_false]
       rw [if_neg (by intro e; subst e; simp at hp; omega)]
    ·simp only [hb, if_false, Tr.get_node, ih r _ x _ hk]
     by_cases hj : j = 0
     ·subst hj; simp
     ·simp only [hj, if_false]
      by_cases hp : (j - 1) % 2 = 0
      ·simp only [hp, if_true]
       rw [if_neg (by intro e; subst e; simp at hp; omega)]
      ·simp only [hp, if_false]
       by_cases he : j = k + 1
       ·subst he; simp
       ·rw [if_neg (by omega), if_neg he]
  cases t with
  | nil => exact main .nil .nil none (fun j => by rw [Tr.get_nil, Tr.get_node]; simp [Tr.get_nil])
  | node l v r => exact main l r v (fun j => rfl)
theorem Tr.get_put (t : Tr) (i : Nat) (x : AObj) (j : Nat) : (t.put i x).get j = if j = i then some x else t.get j :=
 Tr.get_set (i + 1) t i x j Nat.lt_two_pow_self
theorem Heap.get_put {h : Heap} {i : Nat} {x : AObj} (j : Nat) : (h.put i x).get j = if j = i then some x else h.get j := by
 obtain ⟨t, n, lo⟩ := h
 exact Tr.get_put t i x j
def nCells (x : AObj) : Nat := match x.o with | .cells cs _ _ => cs.size | _ => 0
noncomputable def ln (h : Heap) (i : Nat) : Nat := match h.get i with | some x => nCells x | none => 0
def lkO (o : Option AObj) : Nat × Nat := match o with | some x => lkOf x | none => (0, 0)
theorem ch_eq (h : Heap) (i : Nat) : ch h i = (lkO (h.get i)).1 := by unfold ch lkO; cases h.get i <;> rfl
theorem pa_eq (h : Heap) (i : Nat) : pa h i = (lkO (h.get i)).2 := by unfold pa lkO; cases h.get i <;> rfl
def lnO (o : Option AObj) : Nat := match o with | some x => nCells x | none => 0
theorem ln_eq (h : Heap) (i : Nat) : ln h i = lnO (h.get i) := by unfold ln lnO; cases h.get i <;> rfl
inductive Desc (h : Heap) : Nat → Nat → Prop
 | refl (i : Nat) : Desc h i i
 | step {i c j : Nat} : ch h i = c + 1 → Desc h c j → Desc h i j
structure Lnk (h : Heap) : Prop where
 cp : ∀ i c, ch h i = c + 1 → pa h c = i + 1 ∧ ln h i ≤ ln h c ∧ i < c
 pc : ∀ i c, pa h c = i + 1 → ch h i = c + 1
theorem Desc.trans {h : Heap} {i j k : Nat} (a : Desc h i j) (b : Desc h j k) : Desc h i k := by
 induction a with
 | refl => exact b
 | step h1 _ ih => exact .step h1 (ih b)
theorem Desc.congr {h h' : Heap} (hc : ∀ i, ch h' i = ch h i) {i j : Nat} (a : Desc h i j) : Desc h' i j := by
 induction a with
 | refl => exact .refl _
 | step h1 _ ih => exact .step ((hc _).trans h1) ih
theorem Desc.leaf {h : Heap} {i j : Nat} (a : Desc h i j) (hi : ch h i = 0) : i = j := by
 cases a with
 | refl => rfl
 | step h1 _ => rw [hi] at h1; cases h1
theorem Desc.root {h : Heap} (hl : Lnk h) {i j : Nat} (a : Desc h i j) (hj : pa h j = 0) : i = j := by
 induction a with
 | refl => rfl
 | step h1 h2 ih =>
  have := ih hj
  subst this
  have := (hl.cp _ _ h1).1
  rw [hj] at this; cases this
theorem Desc.len {h : Heap} (hl : Lnk h) {i j : Nat} (a : Desc h i j) : ln h i ≤ ln h j := by
 induction a with
 | refl => exact Nat.le_refl _
 | step h1 _ ih => exact Nat.le_trans (hl.cp _ _ h1).2.1 ih
theorem Lnk.congr {h h' : Heap} (hl : Lnk h) (hc : ∀ i, ch h' i = ch h i) (hp : ∀ i, pa h' i = pa h i) (hn : ∀ i, ch h i ≠ 0 ∨ pa h i ≠ 0 → ln h' i = ln h i) : Lnk h' :=
 ⟨fun i c hi => by
  rw [hc] at hi
  obtain ⟨h1, h2, h3⟩ := hl.cp i c hi
  rw [hp, hn i (.inl (by rw [hi]; exact Nat.succ_ne_zero _)), hn c (.inr (by rw [h1]; exact Nat.succ_ne_zero _))]
  exact ⟨h1, h2, h3⟩, fun i c hi => by rw [hc]; rw [hp] at hi; exact hl.pc i c hi⟩
structure jN (B : Nat → Prop) (w w' : World) : Prop where
 os : w'.os = w.os
 tape : w'.tape = w.tape
 output : w'.output = w.output
 size : w.heap.size ≤ w'.heap.size
 block : ∀ k, B k → w'.heap[k]? = w.heap[k]?
theorem jN.refl (B : Nat → Prop) (w : World) : jN B w w := ⟨rfl, rfl, rfl, Nat.le_refl _, fun _ _ => rfl⟩
theorem jN.trans {B : Nat → Prop} {a b c : World} (h : jN B a b) (k : jN B b c) : jN B a c :=
 ⟨k.os.trans h.os, k.tape.trans h.tape, k.output.trans h.output, Nat.le_trans h.size k.size, fun i hi => (k.block i hi).trans (h.block i hi)⟩
theorem jN.drew {B : Nat → Prop} {a w : World} (h : jN B a w) : jN B a w.drew := ⟨h.os, h.tape, h.output, h.size, h.block⟩
theorem jN.alloc {B : Nat → Prop} {a w : World} (h : jN B a w) (hB : ∀ k, B k → k < w.heap.size) (o : Obj) : jN B a (w.alloc o) :=
 h.trans ⟨rfl, rfl, rfl, by simp, fun k hk => Below.heap_alloc _ _ _ (hB k hk)⟩
theorem jN.mono {B B' : Nat → Prop} {w w' : World} (h : jN B w w') (hB : ∀ k, B' k → B k) : jN B' w w' := ⟨h.os, h.tape, h.output, h.size, fun k hk => h.block k (hB k hk)⟩
theorem jN.below {n : Nat} {w w' : World} (h : jN (fun k => k < n) w w') : Below n w w' := ⟨h.os, h.tape, h.output, h.size, h.block⟩
structure Par where
 P : Program
 NG : Nat
 G : Nat
 B : Nat → Prop
 sg : Nat → Int
 tg : Nat → ByteArray
def owned (x : AObj) : Bool := match x.o with
 | .cells .. => true
 | .stringIter .. => true
 | .map .. => true
 | .mapIter .. => true
 | .loop .. => true
 | .deferred .. => true
 | _ => false
def keyF : Value → Bool
 | .int _ _ => true
 | .string _ => true
 | _ => false
theorem qS {v : Value} (h : keyF v = true) : flat v = true := by cases v <;> first | rfl | cases h
def jJ (Γ : Gam) (e : MapEntry) : MapEntry := ⟨e.key, con Γ e.val, e.born⟩
def OR (p : Par) (Γ : Gam) (n : Nat) (w : World) (i : Nat) (x : AObj) : Prop :=
 match x.o with
 | .cells cs e _ => (p.G ≤ i → (∀ v ∈ cs.toList, one v = true ∧ sc n v = true) ∧ ∃ rest fr, w.heap[Γ.b i]? = some (.cells (cs.toList.map (con Γ) ++ rest).toArray e fr) ∧
   (cs.size + rest.length ≤ fr.1 ∨ fr.2 = fr.1) ∧ (x.more = false → rest = []) ∧
   (x.more = true → ∃ t, p.P.info? e = some t ∧ cs.size + rest.length = Γ.k i * t.size)) ∧
  (i < p.G → x.more = false ∧ Γ.b i < w.heap.size ∧ ∀ j v, cs[j]? = some v → sc p.G v = true → one v = true ∧ w.cell? ⟨Γ.b i, j, none⟩ = some (con Γ v))
 | .stringIter s q => w.heap[Γ.b i]? = some (.stringIter s q)
 | .map es c => (∀ e ∈ es.toList, keyF e.key = true ∧ sc n e.val = true) ∧ w.heap[Γ.b i]? = some (.map (es.map (jJ Γ)) c)
 | .mapIter m a b c => (∀ r, m = some r → r < n) ∧ w.heap[Γ.b i]? = some (.mapIter (m.map Γ.b) a b c)
 | .loop r => (∀ v ∈ r.tmps.toList, sc n v = true) ∧ r.defers < n ∧ okCode p.NG r.assign = true ∧ okCode p.NG r.body = true ∧
   ∃ f, w.heap[Γ.b i]? = some (.loop { state := r.state, pending := r.pending, fn := f, tmps := r.tmps.map (con Γ), params := r.params, assign := r.assign, body := r.body, defers := Γ.b r.defers })
 | .deferred ds => (ds = some [] ∨ ds = none) ∧ w.heap[Γ.b i]? = some (.deferred ds)
 | _ => True
structure HRel (p : Par) (Γ : Gam) (h : Heap) (w : World) : Prop where
 obj : ∀ i x, h.get i = some x → i < h.next ∧ OR p Γ h.next w i x
 base : ∀ i x, h.get i = some x → owned x = true → p.G ≤ i → ¬ p.B (Γ.b i)
 inj : ∀ i j x y, h.get i = some x → owned x = true → h.get j = some y → owned y = true → p.G ≤ i → p.G ≤ j → Γ.b i = Γ.b j → Desc h i j ∨ Desc h j i
 lnk : Lnk h
 gl : ∀ g, g < p.NG → Γ.b g = g
 low : ∀ i, i < p.G → p.B (Γ.b i)
 lo : h.lo = p.G
 gn : p.G ≤ h.next
 ng : p.NG ≤ p.G
 size : ∀ k, p.B k → k < w.heap.size
 gs : Γ.s = p.sg ∧ Γ.t = p.tg
structure Fr (p : Par) (Γ : Gam) (h : Heap) (w w' : World) : Prop where
 below : jN p.B w w'
theorem Fr.refl {p : Par} {Γ : Gam} {h : Heap} (w : World) : Fr p Γ h w w := ⟨jN.refl _ _⟩
theorem OR.ag {p : Par} {Γ Γ' : Gam} {n m : Nat} {w w' : World} {i : Nat} {x : AObj} (h : OR p Γ n w i x) (hg : Ag Γ Γ' n) (hn : n ≤ m) (hGn : p.G ≤ n) (hi : i < n)
  (hw : w'.heap[Γ.b i]? = w.heap[Γ.b i]?) : OR p Γ' m w' i x := by
 unfold OR at h ⊢
 have hb : Γ'.b i = Γ.b i := hg.b i hi
 have hk : Γ'.k i = Γ.k i := hg.k i hi
 split
 ·rename_i cs e fr0 ho
  simp only [ho] at h
  refine ⟨fun hG => ?_, fun hG => ?_⟩
  ·obtain ⟨h1, rest, fr, h2, h3, h4, h5⟩ := h.1 hG
   refine ⟨fun v hv => ⟨(h1 v hv).1, sc_mono hn v (h1 v hv).2⟩, rest, fr, ?_, h3, h4, by rw [hk]; exact h5⟩
   rw [hb, hw, h2]
   have : cs.toList.map (con Γ') = cs.toList.map (con Γ) := List.map_congr_left fun v hv => con_ag hg v (h1 v hv).2
   rw [this]
  ·obtain ⟨h1, h2, h3⟩ := h.2 hG
   refine ⟨h1, ?_, fun j v hj hs => ?_⟩
   ·rw [hb]
    have : w.heap[Γ.b i]?.isSome = true := by simp [h2]
    rw [← hw] at this
    simpa using this
   ·obtain ⟨h4, h5⟩ := h3 j v hj hs
    refine ⟨h4, ?_⟩
    rw [con_ag hg v (sc_mono hGn v hs)]
    simp only [World.cell?] at h5 ⊢
    rw [hb, hw]; exact h5
 ·rename_i s q ho
  simp only [ho] at h
  rw [hb, hw, h]
 ·rename_i es c ho
  simp only [ho] at h
  refine ⟨fun e he => ⟨(h.1 e he).1, sc_mono hn _ (h.1 e he).2⟩, ?_⟩
  rw [hb, hw, h.2]
  have : es.map (jJ Γ') = es.map (jJ Γ) := Array.map_congr_left fun e he => by
   unfold jJ; rw [con_ag hg _ (h.1 e (by simpa using he)).2]
  rw [this]
 ·rename_i m a b c ho
  simp only [ho] at h
  refine ⟨fun r hr => Nat.lt_of_lt_of_le (h.1 r hr) hn, ?_⟩
  rw [hb, hw, h.2]
  cases m with
  | none => rfl
  | some r => simp only [Option.map_some, hg.b r (h.1 r rfl)]
 ·rename_i r ho
  simp only [ho] at h
  obtain ⟨h1, h2, h3, h4, f, h5⟩ := h
  refine ⟨fun v hv => sc_mono hn v (h1 v hv), by omega, h3, h4, f, ?_⟩
  rw [hb, hw, h5, hg.b _ h2]
  have : r.tmps.map (con Γ') = r.tmps.map (con Γ) := Array.map_congr_left fun v hv => con_ag hg v (h1 v (by simpa using hv))
  rw [this]
 ·rename_i ds ho
  simp only [ho] at h
  exact ⟨h.1, by rw [hb, hw, h.2]⟩
 ·trivial
end Go.Ew
namespace Go.Ew
open Go Go.RowKit
def wset (w : World) (g : Nat) (o : Obj) : World := { w with heap := w.heap.setIfInBounds g o }
theorem wset_heap (w : World) (g : Nat) (o : Obj) (h : g < w.heap.size) (j : Nat) : (wset w g o).heap[j]? = if j = g then some o else w.heap[j]? := by
 simp only [wset, Array.getElem?_setIfInBounds]
 by_cases e : g = j
 ·subst e; simp [h]
 ·rw [if_neg e, if_neg (Ne.symm e)]
theorem wset_size (w : World) (g : Nat) (o : Obj) : (wset w g o).heap.size = w.heap.size := by simp [wset]
theorem one_cell' {v : Value} (h : one v = true) : v.oneCell' = true := by cases v <;> simp_all [one, Value.oneCell']
theorem addr_add (g o i : Nat) : (⟨g, o, none⟩ : Addr).add i = ⟨g, o + i, none⟩ := by unfold Addr.add; split <;> simp_all
theorem storeCells_run (P : Program) (g o : Nat) (t : TypeId) (fr : Nat × Nat) : ∀ (vs : List Value) (i : Nat) (cur : List Value) (w : World),
  w.heap[g]? = some (.cells ⟨cur⟩ t fr) → (cur.length ≤ fr.1 ∨ fr.2 = fr.1) → o + i + vs.length ≤ cur.length → (∀ v ∈ vs, one v = true) →
  (storeCells ⟨g, o, none⟩ vs i).run P w = .ok () (wset w g (.cells ⟨setFrom cur (o + i) vs⟩ t fr))
 | [], i, cur, w, hg, _, _, _ => by
  have hlt : g < w.heap.size := (Array.getElem?_eq_some_iff.1 hg).1
  simp only [storeCells, setFrom, List.append_nil, List.length_nil, Nat.add_zero, List.take_append_drop, Sem.run_pure]
  congr 1
  simp only [wset]
  have : w.heap.setIfInBounds g (.cells ⟨cur⟩ t fr) = w.heap := by
   apply Array.ext_getElem?
   intro j
   rw [Array.getElem?_setIfInBounds]
   split
   ·rename_i e; subst e; rw [hg]
   ·rfl
  rw [this]
 | v :: rest, i, cur, w, hg, hf, hl, h1 => by
  have hlt : g < w.heap.size := (Array.getElem?_eq_some_iff.1 hg).1
  simp only [List.length_cons] at hl
  have hi : o + i < cur.length := by omega
  have hcell : w.cell? ⟨g, o + i, none⟩ = some cur[o + i] := by simp [World.cell?, hg, hi]
  have hfro : w.frozen? ⟨g, o + i, none⟩ = false := by
   obtain ⟨lo, hi'⟩ := fr
   simp only [World.frozen?, hg]
   simp only at hf
   rcases hf with hf | hf
   ·simp; intro; omega
   ·simp; intro; omega
  have hst : (store ((⟨g, o, none⟩ : Addr).add i) v).run P w = .ok () (wset w g (.cells ⟨cur.set (o + i) v⟩ t fr)) := by
   rw [addr_add, run_store P w _ v _ (one_cell' (h1 v (by simp))), hcell]
   simp only [hfro, Bool.false_eq_true, if_false]
   congr 1
   simp only [World.setCell, wset]
   congr 1
   apply Array.ext_getElem?
   intro j
   rw [Array.getElem?_setIfInBounds, Array.getElem?_modify]
   by_cases e : g = j
   ·subst e
    have hgg : w.heap[g] = .cells ⟨cur⟩ t fr := by
     have := hg; rw [Array.getElem?_eq_getElem hlt] at this; exact Option.some.inj this
    simp [hlt, hgg]
   ·simp [e]
  have hg' : (wset w g (.cells ⟨cur.set (o + i) v⟩ t fr)).heap[g]? = some (.cells ⟨cur.set (o + i) v⟩ t fr) := by
   rw [wset_heap _ _ _ hlt]; simp
  have ih := storeCells_run P g o t fr rest (i + 1) (cur.set (o + i) v) _ hg' (by simpa using hf) (by simp; omega) (fun x hx => h1 x (by simp [hx]))
  simp only [storeCells, Sem.run_bind, hst, Result.andThen_ok, ih]
  congr 1
  simp only [wset, Array.setIfInBounds_setIfInBounds]
  congr 3
  congr 1
  simp only [setFrom, List.length_cons]
  rw [show o + (i + 1) = o + i + 1 by omega]
  have h1' : (cur.set (o + i) v).take (o + i + 1) = cur.take (o + i) ++ [v] := by
   rw [List.take_succ_eq_append_getElem (by simp; omega)]
   simp [List.take_set_of_le]
  rw [h1', List.drop_set]
  rw [if_pos (by omega)]
  simp
  omega
theorem OR_not {p : Par} {Γ : Gam} {n : Nat} {w : World} {i : Nat} {x : AObj} (h : owned x = false) : OR p Γ n w i x := by
 unfold owned at h; unfold OR
 split <;> simp_all
theorem OR_lt {p : Par} {Γ : Gam} {n : Nat} {w : World} {i : Nat} {x : AObj} (h : OR p Γ n w i x) (ho : owned x = true) : Γ.b i < w.heap.size := by
 unfold owned at ho; unfold OR at h
 split at h
 ·by_cases hG : p.G ≤ i
  ·obtain ⟨_, rest, fr, h2, _⟩ := h.1 hG; exact (Array.getElem?_eq_some_iff.1 h2).1
  ·exact (h.2 (by omega)).2.1
 ·exact (Array.getElem?_eq_some_iff.1 h).1
 ·exact (Array.getElem?_eq_some_iff.1 h.2).1
 ·exact (Array.getElem?_eq_some_iff.1 h.2).1
 ·obtain ⟨_, _, _, _, f, h2⟩ := h; exact (Array.getElem?_eq_some_iff.1 h2).1
 ·exact (Array.getElem?_eq_some_iff.1 h.2).1
 ·split at ho <;> first | (simp_all; done) | (simp_all; rename_i hne heq; exact (hne _ _ _ _ rfl rfl rfl rfl).elim)
theorem HRel.of_heap {p : Par} {Γ : Gam} {h : Heap} {w w' : World} (hr : HRel p Γ h w) (e : w'.heap = w.heap) : HRel p Γ h w' :=
 { hr with
  obj := fun i x hx => ⟨(hr.obj i x hx).1, (hr.obj i x hx).2.ag (Ag.refl _ _) (Nat.le_refl _) hr.gn (hr.obj i x hx).1 (by rw [e])⟩
  size := by rw [e]; exact hr.size }
theorem upd_ch {h h' : Heap} {b : Nat} {x' : AObj} (hg : ∀ j, h'.get j = if j = b then some x' else h.get j) (hl : lkO (h.get b) = (0, 0)) (hl' : lkOf x' = (0, 0)) : (∀ i, ch h' i = ch h i) ∧ (∀ i, pa h' i = pa h i) ∧ (∀ i, ch h i ≠ 0 ∨ pa h i ≠ 0 → ln h' i = ln h i) := by
 have hlk : ∀ i, lkO (h'.get i) = lkO (h.get i) := fun i => by
  rw [hg]
  by_cases e : i = b
  ·rw [if_pos e, e, hl]; exact hl'
  ·rw [if_neg e]
 refine ⟨fun i => by rw [ch_eq, ch_eq, hlk], fun i => by rw [pa_eq, pa_eq, hlk], fun i hi => ?_⟩
 rw [ln_eq, ln_eq, hg]
 by_cases e : i = b
 ·rw [ch_eq, pa_eq, e, hl] at hi; simp at hi
 ·rw [if_neg e]
theorem put_ch {h : Heap} {b : Nat} {x x' : AObj} (hx : h.get b = some x) (hl : lkOf x = (0, 0)) (hl' : lkOf x' = (0, 0)) : (∀ i, ch (h.put b x') i = ch h i) ∧ (∀ i, pa (h.put b x') i = pa h i) ∧ (∀ i, ch h i ≠ 0 ∨ pa h i ≠ 0 → ln (h.put b x') i = ln h i) :=
 upd_ch (fun j => Heap.get_put j) (by rw [hx]; exact hl) hl'
theorem lk_ch {h : Heap} {b : Nat} {x : AObj} (hx : h.get b = some x) (hl : lkOf x = (0, 0)) : ch h b = 0 ∧ pa h b = 0 := by
 rw [ch_eq, pa_eq, hx]; exact ⟨congrArg Prod.fst hl, congrArg Prod.snd hl⟩
theorem HRel.put {p : Par} {Γ : Gam} {h : Heap} {w : World} (hr : HRel p Γ h w) {b : Nat} {x x' : AObj} (hx : h.get b = some x) (ho : owned x = true)
  (hlo : h.lo ≤ b) {o : Obj} (hOR : OR p Γ h.next (wset w (Γ.b b) o) b x') (hl : lkOf x = (0, 0)) (hl' : lkOf x' = (0, 0)) :
  HRel p Γ (h.put b x') (wset w (Γ.b b) o) ∧ Fr p Γ h w (wset w (Γ.b b) o) := by
 have hb := (hr.obj b x hx).1
 have hlt := OR_lt (hr.obj b x hx).2 ho
 have hG : p.G ≤ b := by rw [← hr.lo]; exact hlo
 have hB : ¬ p.B (Γ.b b) := hr.base b x hx ho hG
 obtain ⟨hc0, hp0⟩ := lk_ch hx hl
 obtain ⟨hch, hpa, hln⟩ := put_ch hx hl hl'
 have hne : ∀ i y, h.get i = some y → owned y = true → i ≠ b → Γ.b i ≠ Γ.b b := fun i y hy hoy hi e => by
  by_cases hiG : p.G ≤ i
  ·rcases hr.inj i b y x hy hoy hx ho hiG hG e with h1 | h1
   ·exact hi (h1.root hr.lnk hp0)
   ·exact hi (h1.leaf hc0).symm
  ·exact hB (e ▸ hr.low i (by omega))
 have hown : ∀ i y, (h.put b x').get i = some y → owned y = true → ∃ z, h.get i = some z ∧ owned z = true := fun i y hy hoy => by
  rw [Heap.get_put] at hy
  split at hy
  ·rename_i e; subst e; exact ⟨x, hx, ho⟩
  ·exact ⟨y, hy, hoy⟩
 refine ⟨⟨fun i y hy => ?_, fun i y hy hoy hi => ?_, fun i j y z hy hoy hz hoz hi hj e => ?_, hr.lnk.congr hch hpa hln, hr.gl, hr.low, hr.lo, hr.gn, hr.ng, by rw [wset_size]; exact hr.size, hr.gs⟩, ⟨?_⟩⟩
 ·have hy0 := hy
  rw [Heap.get_put] at hy
  split at hy
  ·rename_i e; subst e; cases hy; exact ⟨hb, hOR⟩
  ·rename_i e
   refine ⟨(hr.obj i y hy).1, ?_⟩
   cases hoy : owned y with
   | false => exact OR_not hoy
   | true =>
    refine (hr.obj i y hy).2.ag (Ag.refl _ _) (Nat.le_refl _) hr.gn (hr.obj i y hy).1 ?_
    rw [wset_heap _ _ _ hlt, if_neg (hne i y hy hoy e)]
 ·obtain ⟨z, hz, hoz⟩ := hown i y hy hoy
  exact hr.base i z hz hoz hi
 ·obtain ⟨y', hy', hoy'⟩ := hown i y hy hoy
  obtain ⟨z', hz', hoz'⟩ := hown j z hz hoz
  exact (hr.inj i j y' z' hy' hoy' hz' hoz' hi hj e).imp (·.congr hch) (·.congr hch)
 ·refine ⟨rfl, rfl, rfl, by rw [wset_size]; exact Nat.le_refl _, fun k hk => ?_⟩
  rw [wset_heap _ _ _ hlt, if_neg (fun (e : k = Γ.b b) => hB (e ▸ hk))]
def Gam.ext (Γ : Gam) (n b k : Nat) : Gam := { b := fun i => if i = n then b else Γ.b i, k := fun i => if i = n then k else Γ.k i, s := Γ.s, t := Γ.t }
theorem Gam.ext_ag (Γ : Gam) (n b k : Nat) : Ag Γ (Γ.ext n b k) n := ⟨fun i hi => by simp [Gam.ext]; intro e; omega, fun i hi => by simp [Gam.ext]; intro e; omega, rfl, rfl⟩
theorem Gam.ext_b (Γ : Gam) (n b k : Nat) : (Γ.ext n b k).b n = b := by simp [Gam.ext]
theorem Gam.ext_k (Γ : Gam) (n b k : Nat) : (Γ.ext n b k).k n = k := by simp [Gam.ext]
theorem Heap.new_eq (h : Heap) (x : AObj) : h.new x = (h.next, { t := h.t.put h.next x, next := h.next + 1, lo := h.lo }) := by
 obtain ⟨t, n, lo⟩ := h
 cases n <;> rfl
theorem Heap.put_eq (h : Heap) (i : Nat) (x : AObj) : h.put i x = { t := h.t.put i x, next := h.next, lo := h.lo } := by
 obtain ⟨t, n, lo⟩ := h
 rfl
theorem HRel.new {p : Par} {Γ : Gam} {h : Heap} {w : World} (hr : HRel p Γ h w) {x : AObj} {o : Obj} {k : Nat}
  (hOR : OR p (Γ.ext h.next w.heap.size k) (h.next + 1) (w.alloc o) h.next x) (hl : lkOf x = (0, 0) := by rfl) :
  HRel p (Γ.ext h.next w.heap.size k) (h.new x).2 (w.alloc o) ∧ Fr p Γ h w (w.alloc o) := by
 rw [Heap.new_eq]
 have hag := Γ.ext_ag h.next w.heap.size k
 have hget : ∀ j, ({ t := h.t.put h.next x, next := h.next + 1, lo := h.lo } : Heap).get j = if j = h.next then some x else h.get j := fun j => by
  simp only [Heap.get]
  exact Tr.get_put h.t h.next x j
 have hnone : h.get h.next = none := by
  cases hq : h.get h.next with
  | none => rfl
  | some y => exact absurd (hr.obj _ y hq).1 (Nat.lt_irrefl _)
 obtain ⟨hch, hpa, hln⟩ := upd_ch (h' := ({ t := h.t.put h.next x, next := h.next + 1, lo := h.lo } : Heap)) hget (by rw [hnone]; rfl) hl
 have hheap : ∀ i, i < w.heap.size → (w.alloc o).heap[i]? = w.heap[i]? := fun i hi => Below.heap_alloc w o i hi
 have hGn : ∀ i, i < p.G → i < h.next := fun i hi => Nat.lt_of_lt_of_le hi hr.gn
 have hb : ∀ i, i < h.next → (Γ.ext h.next w.heap.size k).b i = Γ.b i := fun i hi => hag.b i hi
 refine ⟨⟨fun i y hy => ?_, fun i y hy hoy hi => ?_, fun i j y z hy hoy hz hoz hi hj e => ?_, hr.lnk.congr hch hpa hln, fun g hg => ?_, fun i hi => ?_, hr.lo, ?_, hr.ng, ?_, hr.gs⟩, ⟨?_⟩⟩
 ·rw [hget] at hy
  split at hy
  ·rename_i e; cases hy; subst e; exact ⟨Nat.lt_succ_self _, hOR⟩
  ·have hlt := (hr.obj i y hy).1
   refine ⟨Nat.lt_succ_of_lt hlt, ?_⟩
   cases hoy : owned y with
   | false => exact OR_not hoy
   | true =>
    exact (hr.obj i y hy).2.ag hag (Nat.le_succ _) hr.gn hlt (hheap _ (OR_lt (hr.obj i y hy).2 hoy))
 ·rw [hget] at hy
  split at hy
  ·rename_i e; subst e; rw [Gam.ext_b]; exact fun hk => Nat.lt_irrefl _ (hr.size _ hk)
  ·rw [hb i (hr.obj i y hy).1]; exact hr.base i y hy hoy hi
 ·rw [hget] at hy hz
  split at hy
  ·rename_i ei
   split at hz
   ·rename_i ej; subst ei; subst ej; exact .inl (.refl _)
   ·have hlt := (hr.obj j z hz).1
    have := OR_lt (hr.obj j z hz).2 hoz
    rw [hb j hlt] at e; subst ei; rw [Gam.ext_b] at e; omega
  ·have hlt := (hr.obj i y hy).1
   have hli := OR_lt (hr.obj i y hy).2 hoy
   split at hz
   ·rename_i ej; subst ej; rw [hb i hlt, Gam.ext_b] at e; omega
   ·rw [hb i hlt, hb j (hr.obj j z hz).1] at e
    exact (hr.inj i j y z hy hoy hz hoz hi hj e).imp (·.congr hch) (·.congr hch)
 ·rw [hb g (hGn g (Nat.lt_of_lt_of_le hg hr.ng))]; exact hr.gl g hg
 ·rw [hb i (hGn i hi)]; exact hr.low i hi
 ·exact Nat.le_succ_of_le hr.gn
 ·intro k hk; simp; have := hr.size k hk; omega
 ·exact (jN.refl _ _).alloc hr.size o
end Go.Ew
namespace Go.Ew
open Go Go.RowKit
def unl (x : AObj) : AObj := match x with | ⟨.cells cs e _, m⟩ => ⟨.cells cs e (0, 0), m⟩ | x => x
theorem unl_cells {cs : Array Value} {e : TypeId} {fr : Nat × Nat} {m : Bool} {x : AObj} (h : unl x = unl ⟨.cells cs e fr, m⟩) : ∃ fr', x = ⟨.cells cs e fr', m⟩ := by
 obtain ⟨o, m'⟩ := x
 cases o <;> simp only [unl, AObj.mk.injEq, Obj.cells.injEq, reduceCtorEq, false_and] at h
 obtain ⟨⟨rfl, rfl, _⟩, rfl⟩ := h
 exact ⟨_, rfl⟩
theorem unl_or {p : Par} {Γ : Gam} {n : Nat} {w : World} {i : Nat} {x x' : AObj} (h : unl x' = unl x) (ho : OR p Γ n w i x) : OR p Γ n w i x' := by
 obtain ⟨o, m⟩ := x
 cases o
 case cells cs e fr =>
  obtain ⟨fr', rfl⟩ := unl_cells h
  exact ho
 all_goals
  obtain ⟨o', m'⟩ := x'
  cases o' <;> simp only [unl, AObj.mk.injEq, reduceCtorEq, false_and] at h
  obtain ⟨h1, rfl⟩ := h
  rw [h1]; exact ho
theorem qQ {x x' : AObj} (h : unl x' = unl x) : owned x' = owned x := by
 obtain ⟨o, m⟩ := x
 cases o
 case cells cs e fr =>
  obtain ⟨fr', rfl⟩ := unl_cells h
  rfl
 all_goals
  obtain ⟨o', m'⟩ := x'
  cases o' <;> simp only [unl, AObj.mk.injEq, reduceCtorEq, false_and] at h
  obtain ⟨h1, rfl⟩ := h
  rw [h1]
theorem HRel.sub {p : Par} {Γ : Gam} {h h' : Heap} {w : World} (hr : HRel p Γ h w) (hn : h'.next = h.next) (hl : h'.lo = h.lo)
  (hg : ∀ i x', h'.get i = some x' → ∃ x, h.get i = some x ∧ (unl x' = unl x ∨ owned x' = false)) (hk : Lnk h')
  (hd : ∀ i j x y, h'.get i = some x → owned x = true → h'.get j = some y → owned y = true → Desc h i j → Desc h' i j) : HRel p Γ h' w := by
 refine ⟨fun i x' hx => ?_, fun i x' hx ho hi => ?_, fun i j x' y' hx hox hy hoy hi hj e => ?_, hk, hr.gl, hr.low, hl.trans hr.lo, by rw [hn]; exact hr.gn, hr.ng, hr.size, hr.gs⟩
 ·obtain ⟨x, hx0, h1⟩ := hg i x' hx
  rw [hn]
  refine ⟨(hr.obj i x hx0).1, ?_⟩
  rcases h1 with h1 | h1
  ·exact unl_or h1 (hr.obj i x hx0).2
  ·exact OR_not h1
 ·obtain ⟨x, hx0, h1 | h1⟩ := hg i x' hx
  ·exact hr.base i x hx0 (by rw [← qQ h1]; exact ho) hi
  ·rw [h1] at ho; cases ho
 ·obtain ⟨x, hx0, h1 | h1⟩ := hg i x' hx
  ·obtain ⟨y, hy0, h2 | h2⟩ := hg j y' hy
   ·exact (hr.inj i j x y hx0 (by rw [← qQ h1]; exact hox) hy0 (by rw [← qQ h2]; exact hoy) hi hj e).imp (hd i j x' y' hx hox hy hoy) (hd j i y' x' hy hoy hx hox)
   ·rw [h2] at hoy; cases hoy
  ·rw [h1] at hox; cases hox
theorem ch_get {h : Heap} {b c : Nat} (e : ch h b = c + 1) : ∃ cs ty fr m, h.get b = some ⟨.cells cs ty fr, m⟩ := by
 rw [ch_eq] at e
 cases hx : h.get b with
 | none => rw [hx] at e; cases e
 | some x =>
  obtain ⟨o, m⟩ := x
  rw [hx] at e
  cases o <;> simp only [lkO, lkOf] at e <;> first | exact ⟨_, _, _, _, rfl⟩ | (cases e)
theorem pa_get {h : Heap} {b c : Nat} (e : pa h b = c + 1) : ∃ cs ty fr m, h.get b = some ⟨.cells cs ty fr, m⟩ := by
 rw [pa_eq] at e
 cases hx : h.get b with
 | none => rw [hx] at e; cases e
 | some x =>
  obtain ⟨o, m⟩ := x
  rw [hx] at e
  cases o <;> simp only [lkO, lkOf] at e <;> first | exact ⟨_, _, _, _, rfl⟩ | (cases e)
theorem relink_get {h : Heap} {b : Nat} {cs : Array Value} {ty : TypeId} {fr : Nat × Nat} {m : Bool} (hb : h.get b = some ⟨.cells cs ty fr, m⟩) (lk : Nat × Nat) (j : Nat) :
  (jO h b lk).get j = if j = b then some ⟨.cells cs ty lk, m⟩ else h.get j := by
 unfold jO; rw [hb]; exact Heap.get_put j
theorem relink_nl (h : Heap) (b : Nat) (lk : Nat × Nat) : (jO h b lk).next = h.next ∧ (jO h b lk).lo = h.lo := by
 unfold jO; split
 ·exact ⟨rfl, rfl⟩
 ·exact ⟨rfl, rfl⟩
theorem cut_get {h : Heap} {b c : Nat} {cs : Array Value} {ty : TypeId} {fr : Nat × Nat} {m : Bool} (hb : h.get b = some ⟨.cells cs ty fr, m⟩) (hbc : b ≠ c) (lk : Nat × Nat) (j : Nat) :
  (jO (h.put c gone) b lk).get j = if j = b then some ⟨.cells cs ty lk, m⟩ else if j = c then some gone else h.get j := by
 rw [relink_get (by rw [Heap.get_put, if_neg hbc]; exact hb), Heap.get_put]
theorem cut_nl (h : Heap) (b c : Nat) (lk : Nat × Nat) : (jO (h.put c gone) b lk).next = h.next ∧ (jO (h.put c gone) b lk).lo = h.lo := by
 obtain ⟨h1, h2⟩ := relink_nl (h.put c gone) b lk
 exact ⟨h1, h2⟩
theorem cut_links {h : Heap} {b c : Nat} {cs : Array Value} {ty : TypeId} {fr : Nat × Nat} {m : Bool} (hb : h.get b = some ⟨.cells cs ty fr, m⟩) (hbc : b ≠ c) (lk : Nat × Nat) (j : Nat) :
  ch (jO (h.put c gone) b lk) j = (if j = b then lk.1 else if j = c then 0 else ch h j) ∧
  pa (jO (h.put c gone) b lk) j = (if j = b then lk.2 else if j = c then 0 else pa h j) ∧ (j ≠ c → ln (jO (h.put c gone) b lk) j = ln h j) := by
 have hg := cut_get hb hbc lk j
 refine ⟨?_, ?_, fun hj => ?_⟩
 ·rw [ch_eq, hg, ch_eq]
  by_cases e : j = b
  ·rw [if_pos e, if_pos e]; rfl
  ·rw [if_neg e, if_neg e]
   by_cases e2 : j = c
   ·rw [if_pos e2, if_pos e2]; rfl
   ·rw [if_neg e2, if_neg e2]
 ·rw [pa_eq, hg, pa_eq]
  by_cases e : j = b
  ·rw [if_pos e, if_pos e]; rfl
  ·rw [if_neg e, if_neg e]
   by_cases e2 : j = c
   ·rw [if_pos e2, if_pos e2]; rfl
   ·rw [if_neg e2, if_neg e2]
 ·rw [ln_eq, hg, ln_eq]
  by_cases e : j = b
  ·rw [if_pos e, e, hb]; rfl
  ·rw [if_neg e, if_neg hj]
theorem HRel.leaf {p : Par} {Γ : Gam} {h : Heap} {w : World} (hr : HRel p Γ h w) {b c : Nat} (e : ch h b = c + 1) (hc : ch h c = 0) : HRel p Γ (jO (h.put c gone) b (0, pa h b)) w := by
 obtain ⟨cs, ty, fr, m, hb⟩ := ch_get e
 have hbc : b ≠ c := fun q => by rw [← q] at hc; rw [hc] at e; cases e
 have hL := cut_links hb hbc (0, pa h b)
 have hG := cut_get hb hbc (0, pa h b)
 obtain ⟨hN1, hN2⟩ := cut_nl h b c (0, pa h b)
 obtain ⟨hpc, _, _⟩ := hr.lnk.cp b c e
 generalize jO (h.put c gone) b (0, pa h b) = h' at hL hG hN1 hN2 ⊢
 have hchn : ∀ i d, ch h' i = d + 1 → i ≠ b ∧ i ≠ c ∧ ch h i = d + 1 := fun i d hi => by
  rw [(hL i).1] at hi
  by_cases q : i = b
  ·rw [if_pos q] at hi; cases hi
  ·rw [if_neg q] at hi
   by_cases q2 : i = c
   ·rw [if_pos q2] at hi; cases hi
   ·rw [if_neg q2] at hi; exact ⟨q, q2, hi⟩
 refine hr.sub hN1 hN2 (fun i x' hx => ?_) ⟨fun i d hi => ?_, fun i d hi => ?_⟩ (fun i j x y hx hox hy hoy hd => ?_)
 ·rw [hG] at hx
  by_cases q : i = b
  ·rw [if_pos q] at hx; cases hx; subst q; exact ⟨_, hb, .inl rfl⟩
  ·rw [if_neg q] at hx
   by_cases q2 : i = c
   ·rw [if_pos q2] at hx; cases hx; subst q2
    obtain ⟨_, _, _, _, hc'⟩ := pa_get hpc
    exact ⟨_, hc', .inr rfl⟩
   ·rw [if_neg q2] at hx; exact ⟨_, hx, .inl rfl⟩
 ·obtain ⟨q, q2, hi⟩ := hchn i d hi
  obtain ⟨h1, h2, h3⟩ := hr.lnk.cp i d hi
  have hdc : d ≠ c := fun e1 => by rw [e1, hpc] at h1; exact q (Nat.succ.inj h1).symm
  refine ⟨?_, ?_, h3⟩
  ·rw [(hL d).2.1]
   by_cases q3 : d = b
   ·rw [if_pos q3, ← q3]; exact h1
   ·rw [if_neg q3, if_neg hdc]; exact h1
  ·rw [(hL i).2.2 q2, (hL d).2.2 hdc]; exact h2
 ·have hdc : d ≠ c := fun e1 => by
   rw [(hL d).2.1, if_neg (by rw [e1]; exact hbc.symm), if_pos e1] at hi; cases hi
  have hd' : pa h d = i + 1 := by
   rw [(hL d).2.1] at hi
   by_cases q3 : d = b
   ·rw [if_pos q3] at hi; rw [q3]; exact hi
   ·rw [if_neg q3, if_neg hdc] at hi; exact hi
  have h1 := hr.lnk.pc i d hd'
  rw [(hL i).1, if_neg (fun q => by rw [q, e] at h1; exact hdc (Nat.succ.inj h1).symm), if_neg (fun q => by rw [q, hc] at h1; cases h1)]
  exact h1
 ·have hjc : j ≠ c := fun q => by
   rw [hG, if_neg (by rw [q]; exact hbc.symm), if_pos q] at hy; cases hy; cases hoy
  clear hx hox hy hoy
  induction hd with
  | refl => exact .refl _
  | step h1 h2 ih =>
   rename_i i c' j
   have h3 : c' ≠ c := fun q => hjc (by rw [q] at h2; exact (h2.leaf hc).symm)
   refine .step (c := c') ?_ (ih hjc)
   rw [(hL i).1, if_neg (fun q => by rw [q, e] at h1; exact h3 (Nat.succ.inj h1).symm), if_neg (fun q => by rw [q, hc] at h1; cases h1)]
   exact h1
theorem HRel.root {p : Par} {Γ : Gam} {h : Heap} {w : World} (hr : HRel p Γ h w) {b c : Nat} (e : pa h b = c + 1) (hc : pa h c = 0) : HRel p Γ (jO (h.put c gone) b (ch h b, 0)) w := by
 obtain ⟨cs, ty, fr, m, hb⟩ := pa_get e
 have hbc : b ≠ c := fun q => by rw [← q] at hc; rw [hc] at e; cases e
 have hL := cut_links hb hbc (ch h b, 0)
 have hG := cut_get hb hbc (ch h b, 0)
 obtain ⟨hN1, hN2⟩ := cut_nl h b c (ch h b, 0)
 have hcb := hr.lnk.pc c b e
 generalize jO (h.put c gone) b (ch h b, 0) = h' at hL hG hN1 hN2 ⊢
 have hch : ∀ i d, ch h' i = d + 1 → i ≠ c ∧ ch h i = d + 1 := fun i d hi => by
  rw [(hL i).1] at hi
  by_cases q : i = b
  ·rw [if_pos q] at hi; exact ⟨by rw [q]; exact hbc, by rw [q]; exact hi⟩
  ·rw [if_neg q] at hi
   by_cases q2 : i = c
   ·rw [if_pos q2] at hi; cases hi
   ·rw [if_neg q2] at hi; exact ⟨q2, hi⟩
 have hch' : ∀ i, i ≠ c → ch h' i = ch h i := fun i hi => by
  rw [(hL i).1]
  by_cases q : i = b
  ·rw [if_pos q, q]
  ·rw [if_neg q, if_neg hi]
 refine hr.sub hN1 hN2 (fun i x' hx => ?_) ⟨fun i d hi => ?_, fun i d hi => ?_⟩ (fun i j x y hx hox hy hoy hd => ?_)
 ·rw [hG] at hx
  by_cases q : i = b
  ·rw [if_pos q] at hx; cases hx; subst q; exact ⟨_, hb, .inl rfl⟩
  ·rw [if_neg q] at hx
   by_cases q2 : i = c
   ·rw [if_pos q2] at hx; cases hx; subst q2
    obtain ⟨_, _, _, _, hc'⟩ := ch_get hcb
    exact ⟨_, hc', .inr rfl⟩
   ·rw [if_neg q2] at hx; exact ⟨_, hx, .inl rfl⟩
 ·obtain ⟨q2, hi⟩ := hch i d hi
  obtain ⟨h1, h2, h3⟩ := hr.lnk.cp i d hi
  have hdb : d ≠ b := fun e1 => by rw [e1, e] at h1; exact q2 (Nat.succ.inj h1).symm
  have hdc : d ≠ c := fun e1 => by rw [e1, hc] at h1; cases h1
  refine ⟨?_, ?_, h3⟩
  ·rw [(hL d).2.1, if_neg hdb, if_neg hdc]; exact h1
  ·rw [(hL i).2.2 q2, (hL d).2.2 hdc]; exact h2
 ·have hdb : d ≠ b := fun e1 => by rw [(hL d).2.1, if_pos e1] at hi; cases hi
  have hdc : d ≠ c := fun e1 => by rw [(hL d).2.1, if_neg hdb, if_pos e1] at hi; cases hi
  rw [(hL d).2.1, if_neg hdb, if_neg hdc] at hi
  have h1 := hr.lnk.pc i d hi
  rw [hch' i (fun q => by rw [q, hcb] at h1; exact hdb (Nat.succ.inj h1).symm)]
  exact h1
 ·have hic : i ≠ c := fun q => by
   rw [hG, if_neg (by rw [q]; exact hbc.symm), if_pos q] at hx; cases hx; cases hox
  clear hx hox hy hoy
  induction hd with
  | refl => exact .refl _
  | step h1 h2 ih =>
   rename_i i c' j
   have h3 : c' ≠ c := fun q => by
    have := (hr.lnk.cp _ _ h1).1
    rw [q, hc] at this; cases this
   exact .step (by rw [hch' i hic]; exact h1) (ih h3)
theorem cutC_spec {p : Par} {Γ : Gam} {w : World} : ∀ (f : Nat) (h : Heap) (b : Nat) (h' : Heap), cutC f h b = some h' → HRel p Γ h w →
  HRel p Γ h' w ∧ h'.next = h.next ∧ h'.lo = h.lo ∧ ch h' b = 0 ∧ pa h' b = pa h b ∧ (∀ i, i < b → h'.get i = h.get i) ∧ (∀ x, h.get b = some x → ∃ x', h'.get b = some x' ∧ unl x' = unl x)
 | 0, _, _, _, e, _ => by simp [cutC] at e
 | f + 1, h, b, h', e, hr => by
  unfold cutC at e
  split at e
  ·rename_i hc; cases e
   exact ⟨hr, rfl, rfl, hc, rfl, fun _ _ => rfl, fun x hx => ⟨x, hx, rfl⟩⟩
  ·rename_i c hc
   split at e
   ·rename_i h1 hcut
    cases e
    obtain ⟨r1, n1, l1, c1, p1, g1, s1⟩ := cutC_spec f h c h1 hcut hr
    have hbc := (hr.lnk.cp b c hc).2.2
    have hb1 := g1 b hbc
    have hch : ch h1 b = c + 1 := by rw [ch_eq, hb1, ← ch_eq]; exact hc
    have hpa : pa h1 b = pa h b := by rw [pa_eq, hb1, ← pa_eq]
    obtain ⟨cs, ty, fr, m, hb⟩ := ch_get hch
    have hL := cut_links hb (Nat.ne_of_lt hbc) (0, pa h1 b) b
    obtain ⟨hN1, hN2⟩ := cut_nl h1 b c (0, pa h1 b)
    refine ⟨r1.leaf hch c1, hN1.trans n1, hN2.trans l1, ?_, ?_, fun i hi => ?_, fun x hx => ?_⟩
    ·rw [hL.1, if_pos rfl]
    ·rw [hL.2.1, if_pos rfl]; exact hpa
    ·rw [cut_get hb (Nat.ne_of_lt hbc), if_neg (by omega), if_neg (by omega)]; exact g1 i (by omega)
    ·rw [cut_get hb (Nat.ne_of_lt hbc), if_pos rfl]
     rw [← hb1, hb] at hx; cases hx
     exact ⟨_, rfl, rfl⟩
   ·cases e
theorem cutP_spec {p : Par} {Γ : Gam} {w : World} : ∀ (f : Nat) (h : Heap) (b : Nat) (h' : Heap), cutP f h b = some h' → HRel p Γ h w →
  HRel p Γ h' w ∧ h'.next = h.next ∧ h'.lo = h.lo ∧ pa h' b = 0 ∧ ch h' b = ch h b ∧ (∀ i, b < i → h'.get i = h.get i) ∧ (∀ x, h.get b = some x → ∃ x', h'.get b = some x' ∧ unl x' = unl x)
 | 0, _, _, _, e, _ => by simp [cutP] at e
 | f + 1, h, b, h', e, hr => by
  unfold cutP at e
  split at e
  ·rename_i hc; cases e
   exact ⟨hr, rfl, rfl, hc, rfl, fun _ _ => rfl, fun x hx => ⟨x, hx, rfl⟩⟩
  ·rename_i c hc
   split at e
   ·rename_i h1 hcut
    cases e
    obtain ⟨r1, n1, l1, c1, p1, g1, s1⟩ := cutP_spec f h c h1 hcut hr
    have hbc := (hr.lnk.cp c b (hr.lnk.pc c b hc)).2.2
    have hb1 := g1 b hbc
    have hpa : pa h1 b = c + 1 := by rw [pa_eq, hb1, ← pa_eq]; exact hc
    have hch : ch h1 b = ch h b := by rw [ch_eq, hb1, ← ch_eq]
    obtain ⟨cs, ty, fr, m, hb⟩ := pa_get hpa
    have hL := cut_links hb (Nat.ne_of_gt hbc) (ch h1 b, 0) b
    obtain ⟨hN1, hN2⟩ := cut_nl h1 b c (ch h1 b, 0)
    refine ⟨r1.root hpa c1, hN1.trans n1, hN2.trans l1, ?_, ?_, fun i hi => ?_, fun x hx => ?_⟩
    ·rw [hL.2.1, if_pos rfl]
    ·rw [hL.1, if_pos rfl]; exact hch
    ·rw [cut_get hb (Nat.ne_of_gt hbc), if_neg (by omega), if_neg (by omega)]; exact g1 i (by omega)
    ·rw [cut_get hb (Nat.ne_of_gt hbc), if_pos rfl]
     rw [← hb1, hb] at hx; cases hx
     exact ⟨_, rfl, rfl⟩
   ·cases e
theorem lone_spec {h : Heap} {b : Nat} (e : aloneB h b = true) {x : AObj} (hx : h.get b = some x) : lkOf x = (0, 0) := by
 unfold aloneB at e
 split at e
 ·rename_i hb; rw [hx] at hb; cases hb; rfl
 ·cases e
theorem detach_spec {p : Par} {Γ : Gam} {w : World} {h h' : Heap} {b : Nat} (e : detach h b = some h') (hr : HRel p Γ h w) :
  HRel p Γ h' w ∧ h'.next = h.next ∧ h'.lo = h.lo ∧ ∀ x, h'.get b = some x → lkOf x = (0, 0) := by
 unfold detach at e
 split at e
 ·rename_i hl
  cases e
  exact ⟨hr, rfl, rfl, fun x hx => lone_spec hl hx⟩
 ·split at e
  ·rename_i h1 hc
   obtain ⟨r1, n1, l1, c1, p1, g1, s1⟩ := cutC_spec _ _ _ _ hc hr
   obtain ⟨r2, n2, l2, c2, p2, g2, s2⟩ := cutP_spec _ _ _ _ e r1
   refine ⟨r2, n2.trans n1, l2.trans l1, fun x hx => ?_⟩
   rw [pa_eq, hx] at c2
   rw [c1, ch_eq, hx] at p2
   exact Prod.ext p2 c2
  ·cases e
theorem Lnk.none {h : Heap} (hn : ∀ i x, h.get i = some x → lkOf x = (0, 0)) : Lnk h := by
 have h0 : ∀ i, lkO (h.get i) = (0, 0) := fun i => by
  cases hx : h.get i with
  | none => rfl
  | some x => exact hn i x hx
 exact ⟨fun i c hi => (by rw [ch_eq, h0] at hi; cases hi), fun i c hi => (by rw [pa_eq, h0] at hi; cases hi)⟩
theorem OR.tail {p : Par} {Γ : Gam} {n : Nat} {w : World} {i : Nat} {cs : Array Value} {e e' : TypeId} {lk fr : Nat × Nat} {m : Bool} {L L' : List Value} (ho : OR p Γ n w i ⟨.cells cs e lk, m⟩) (hi : p.G ≤ i)
  (hw : w.heap[Γ.b i]? = some (.cells ⟨L⟩ e' fr)) (hlen : L'.length = L.length) (htk : L'.take cs.size = L.take cs.size) :
  OR p Γ n (wset w (Γ.b i) (.cells ⟨L'⟩ e' fr)) i ⟨.cells cs e lk, m⟩ := by
 simp only [OR] at ho ⊢
 refine ⟨fun _ => ?_, fun h0 => absurd h0 (Nat.not_lt.2 hi)⟩
 obtain ⟨h1, rest, fr0, h2, h3, h4, h5⟩ := ho.1 hi
 rw [h2] at hw
 simp only [Option.some.injEq, Obj.cells.injEq, Array.mk.injEq] at hw
 obtain ⟨hL, he, hf⟩ := hw
 have hLl : L.length = cs.size + rest.length := by rw [← hL]; simp
 have hc : L'.take cs.size = cs.toList.map (con Γ) := by
  rw [htk, ← hL, List.take_append_of_le_length (by simp), List.take_of_length_le (by simp)]
 refine ⟨h1, L'.drop cs.size, fr0, ?_, ?_, fun hm => ?_, fun hm => ?_⟩
 ·rw [wset_heap _ _ _ (Array.getElem?_eq_some_iff.1 h2).1, if_pos rfl, ← hc, List.take_append_drop, he, hf]
 ·rw [List.length_drop, hlen, hLl]; simpa using h3
 ·have := h4 hm
  rw [this] at hLl
  exact List.drop_eq_nil_of_le (by rw [hlen, hLl]; simp)
 ·obtain ⟨t, h6, h7⟩ := h5 hm
  refine ⟨t, h6, ?_⟩
  rw [List.length_drop, hlen, hLl, ← h7]
  omega
theorem fork_get {h : Heap} {b : Nat} {cs : Array Value} {ty : TypeId} {fr : Nat × Nat} {m : Bool} (hb : h.get b = some ⟨.cells cs ty fr, m⟩) (lk : Nat × Nat) (x' : AObj) (j : Nat) :
  ((jO h b lk).new x').2.get j = if j = h.next then some x' else if j = b then some ⟨.cells cs ty lk, m⟩ else h.get j := by
 rw [Heap.new_eq, (relink_nl h b lk).1]
 simp only [Heap.get]
 rw [Tr.get_put]
 have := relink_get hb lk j
 simp only [Heap.get] at this
 rw [this]
theorem HRel.fork {p : Par} {Γ : Gam} {h : Heap} {w w' : World} (hr : HRel p Γ h w) {b g k : Nat} {cs cs' : Array Value} {ty ty' : TypeId} {fr : Nat × Nat} {m m' : Bool}
  (hb : h.get b = some ⟨.cells cs ty fr, m⟩) (hc : ch h b = 0) (hG : p.G ≤ b) (hle : cs.size ≤ cs'.size)
  (hg : g = Γ.b b ∨ g = w.heap.size) (hsz : w.heap.size ≤ w'.heap.size)
  (hold : ∀ i x, h.get i = some x → owned x = true → OR p Γ h.next w i x → OR p Γ h.next w' i x)
  (hnew : OR p (Γ.ext h.next g k) (h.next + 1) w' h.next ⟨.cells cs' ty' (0, b + 1), m'⟩) :
  HRel p (Γ.ext h.next g k) ((jO h b (h.next + 1, pa h b)).new ⟨.cells cs' ty' (0, b + 1), m'⟩).2 w' := by
 have hgt := fork_get hb (h.next + 1, pa h b) ⟨.cells cs' ty' (0, b + 1), m'⟩
 have hN : ((jO h b (h.next + 1, pa h b)).new ⟨.cells cs' ty' (0, b + 1), m'⟩).2.next = h.next + 1 := by rw [Heap.new_eq, (relink_nl h b _).1]
 have hLo : ((jO h b (h.next + 1, pa h b)).new ⟨.cells cs' ty' (0, b + 1), m'⟩).2.lo = h.lo := by rw [Heap.new_eq, (relink_nl h b _).2]
 generalize ((jO h b (h.next + 1, pa h b)).new ⟨.cells cs' ty' (0, b + 1), m'⟩).2 = h' at hgt hN hLo ⊢
 have hag := Γ.ext_ag h.next g k
 have hbn := (hr.obj b _ hb).1
 have hnone : h.get h.next = none := by
  cases hq : h.get h.next with
  | none => rfl
  | some y => exact absurd (hr.obj _ y hq).1 (Nat.lt_irrefl _)
 have hch : ∀ j, ch h' j = if j = h.next then 0 else if j = b then h.next + 1 else ch h j := fun j => by
  rw [ch_eq, hgt]
  by_cases q : j = h.next
  ·rw [if_pos q, if_pos q]; rfl
  ·rw [if_neg q, if_neg q]
   by_cases q2 : j = b
   ·rw [if_pos q2, if_pos q2]; rfl
   ·rw [if_neg q2, if_neg q2, ch_eq]
 have hpa : ∀ j, pa h' j = if j = h.next then b + 1 else pa h j := fun j => by
  rw [pa_eq, hgt]
  by_cases q : j = h.next
  ·rw [if_pos q, if_pos q]; rfl
  ·rw [if_neg q, if_neg q]
   by_cases q2 : j = b
   ·rw [if_pos q2, q2]; rfl
   ·rw [if_neg q2, pa_eq]
 have hln : ∀ j, ln h' j = if j = h.next then cs'.size else ln h j := fun j => by
  rw [ln_eq, hgt]
  by_cases q : j = h.next
  ·rw [if_pos q, if_pos q]; rfl
  ·rw [if_neg q, if_neg q]
   by_cases q2 : j = b
   ·rw [if_pos q2, q2, ln_eq, hb]; rfl
   ·rw [if_neg q2, ln_eq]
 have hpn : pa h h.next = 0 := by rw [pa_eq, hnone]; rfl
 have hcn : ch h h.next = 0 := by rw [ch_eq, hnone]; rfl
 have hdesc : ∀ i j, Desc h i j → Desc h' i j := fun i j hd => by
  induction hd with
  | refl => exact .refl _
  | step h1 h2 ih =>
   rename_i i c j
   refine .step (c := c) ?_ ih
   rw [hch, if_neg (fun q => by rw [q, hcn] at h1; cases h1), if_neg (fun q => by rw [q, hc] at h1; cases h1)]
   exact h1
 have hGn : ∀ i, i < p.G → i < h.next := fun i hi => Nat.lt_of_lt_of_le hi hr.gn
 have hbb : ∀ i, i < h.next → (Γ.ext h.next g k).b i = Γ.b i := fun i hi => hag.b i hi
 have horig : ∀ i x, h'.get i = some x → i ≠ h.next → ∃ y, h.get i = some y ∧ unl x = unl y := fun i x hx hi => by
  rw [hgt, if_neg hi] at hx
  by_cases q : i = b
  ·rw [if_pos q] at hx; cases hx; exact ⟨⟨.cells cs ty fr, m⟩, by rw [q]; exact hb, rfl⟩
  ·rw [if_neg q] at hx; exact ⟨x, hx, rfl⟩
 have htip : ∀ j y, h'.get j = some y → owned y = true → p.G ≤ j → j ≠ h.next → g = Γ.b j → Desc h' j h.next := fun j y hy hoy hj hjn e => by
  obtain ⟨y0, hy0, hu⟩ := horig j y hy hjn
  have hoy0 : owned y0 = true := by rw [← qQ hu]; exact hoy
  rcases hg with hg | hg
  ·have hd : Desc h j b := by
    rcases hr.inj j b y0 _ hy0 hoy0 hb rfl hj hG (e.symm.trans hg) with q | q
    ·exact q
    ·rw [q.leaf hc]; exact .refl _
   refine (hdesc _ _ hd).trans (.step (c := h.next) ?_ (.refl _))
   rw [hch, if_neg (Nat.ne_of_lt hbn), if_pos rfl]
  ·have := OR_lt (hr.obj j y0 hy0).2 hoy0
   omega
 refine ⟨fun i x hx => ?_, fun i x hx ho hi => ?_, fun i j x y hx hox hy hoy hi hj e => ?_, ⟨fun i c hi => ?_, fun i c hi => ?_⟩, fun q hq => ?_, fun i hi => ?_, hLo.trans hr.lo, ?_, hr.ng, fun q hq => Nat.lt_of_lt_of_le (hr.size q hq) hsz, hr.gs⟩
 ·by_cases q : i = h.next
  ·rw [hgt, if_pos q] at hx; cases hx
   rw [hN, q]; exact ⟨Nat.lt_succ_self _, hnew⟩
  ·obtain ⟨y, hy, hu⟩ := horig i x hx q
   have hlt := (hr.obj i y hy).1
   rw [hN]
   refine ⟨Nat.lt_succ_of_lt hlt, ?_⟩
   cases hox : owned x with
   | false => exact OR_not hox
   | true => exact unl_or hu ((hold i y hy (by rw [← qQ hu]; exact hox) (hr.obj i y hy).2).ag hag (Nat.le_succ _) hr.gn hlt rfl)
 ·by_cases q : i = h.next
  ·rw [q, Gam.ext_b]
   rcases hg with hg | hg
   ·rw [hg]; exact hr.base b _ hb rfl hG
   ·rw [hg]; exact fun hk => Nat.lt_irrefl _ (hr.size _ hk)
  ·obtain ⟨y, hy, hu⟩ := horig i x hx q
   rw [hbb i (hr.obj i y hy).1]
   exact hr.base i y hy (by rw [← qQ hu]; exact ho) hi
 ·by_cases qi : i = h.next
  ·by_cases qj : j = h.next
   ·rw [qi, qj]; exact .inl (.refl _)
   ·obtain ⟨y0, hy0, hu⟩ := horig j y hy qj
    rw [qi, Gam.ext_b, hbb j (hr.obj j y0 hy0).1] at e
    rw [qi]; exact .inr (htip j y hy hoy hj qj e)
  ·obtain ⟨x0, hx0, hux⟩ := horig i x hx qi
   have hli := (hr.obj i x0 hx0).1
   by_cases qj : j = h.next
   ·rw [qj, Gam.ext_b, hbb i hli] at e
    rw [qj]; exact .inl (htip i x hx hox hi qi e.symm)
   ·obtain ⟨y0, hy0, hu⟩ := horig j y hy qj
    rw [hbb i hli, hbb j (hr.obj j y0 hy0).1] at e
    exact (hr.inj i j x0 y0 hx0 (by rw [← qQ hux]; exact hox) hy0 (by rw [← qQ hu]; exact hoy) hi hj e).imp (hdesc _ _) (hdesc _ _)
 ·rw [hch] at hi
  by_cases q : i = h.next
  ·rw [if_pos q] at hi; cases hi
  ·rw [if_neg q] at hi
   by_cases q2 : i = b
   ·rw [if_pos q2] at hi
    have hcn' : c = h.next := (Nat.succ.inj hi).symm
    subst hcn'
    rw [hpa, if_pos rfl, hln, if_neg q, hln, if_pos rfl, q2]
    refine ⟨rfl, ?_, hbn⟩
    rw [ln_eq, hb]; exact hle
   ·rw [if_neg q2] at hi
    obtain ⟨h1, h2, h3⟩ := hr.lnk.cp i c hi
    have hcn2 : c ≠ h.next := fun q3 => by rw [q3, hpn] at h1; cases h1
    rw [hpa, if_neg hcn2, hln, if_neg q, hln, if_neg hcn2]
    exact ⟨h1, h2, h3⟩
 ·rw [hpa] at hi
  by_cases q : c = h.next
  ·rw [if_pos q] at hi
   have hib : i = b := (Nat.succ.inj hi).symm
   rw [hch, hib, if_neg (Nat.ne_of_lt hbn), if_pos rfl, q]
  ·rw [if_neg q] at hi
   have h1 := hr.lnk.pc i c hi
   rw [hch, if_neg (fun q => by rw [q, hcn] at h1; cases h1), if_neg (fun q => by rw [q, hc] at h1; cases h1)]
   exact h1
 ·rw [hbb q (hGn q (Nat.lt_of_lt_of_le hq hr.ng))]; exact hr.gl q hq
 ·rw [hbb i (hGn i hi)]; exact hr.low i hi
 ·rw [hN]; exact Nat.le_succ_of_le hr.gn
theorem HRel.behind {p : Par} {Γ : Gam} {h : Heap} {w : World} (hr : HRel p Γ h w) {b : Nat} {cs : Array Value} {ty e : TypeId} {lk fr : Nat × Nat} {m : Bool} {L L' : List Value}
  (hb : h.get b = some ⟨.cells cs ty lk, m⟩) (hc : ch h b = 0) (hG : p.G ≤ b) (hw : w.heap[Γ.b b]? = some (.cells ⟨L⟩ e fr)) (hlen : L'.length = L.length) (htk : L'.take cs.size = L.take cs.size) :
  ∀ i x, h.get i = some x → owned x = true → OR p Γ h.next w i x → OR p Γ h.next (wset w (Γ.b b) (.cells ⟨L'⟩ e fr)) i x := by
 intro i x hx ho hor
 have hlt := (Array.getElem?_eq_some_iff.1 hw).1
 by_cases q : Γ.b i = Γ.b b
 ·have hiG : p.G ≤ i := by
   rcases Nat.lt_or_ge i p.G with q2 | q2
   ·exact absurd (q ▸ hr.low i q2) (hr.base b _ hb rfl hG)
   ·exact q2
  have hd : Desc h i b := by
   rcases hr.inj i b x _ hx ho hb rfl hiG hG q with q | q
   ·exact q
   ·rw [q.leaf hc]; exact .refl _
  have hl := hd.len hr.lnk
  have hcell : ∃ cs0 ty0 lk0 m0, x = ⟨.cells cs0 ty0 lk0, m0⟩ := by
   cases hd with
   | refl => rw [hb] at hx; cases hx; exact ⟨_, _, _, _, rfl⟩
   | step h1 _ =>
    obtain ⟨cs0, ty0, lk0, m0, hx0⟩ := ch_get h1
    rw [hx] at hx0; cases hx0; exact ⟨_, _, _, _, rfl⟩
  obtain ⟨cs0, ty0, lk0, m0, rfl⟩ := hcell
  have hl2 : cs0.size ≤ cs.size := by
   rw [ln_eq, ln_eq, hx, hb] at hl; exact hl
  rw [← q] at hw ⊢
  refine hor.tail hiG hw hlen ?_
  have := congrArg (List.take cs0.size) htk
  rw [List.take_take, List.take_take, Nat.min_eq_left hl2] at this
  exact this
 ·refine hor.ag (Ag.refl _ _) (Nat.le_refl _) hr.gn (hr.obj i x hx).1 ?_
  rw [wset_heap _ _ _ hlt, if_neg q]
end Go.Ew
namespace Go.Ew
open Go Go.RowKit
theorem jX {p : Par} {Γ : Gam} {h : Heap} {w : World} (hr : HRel p Γ h w) {r : Nat} {es : List MapEntry} {c : Nat} (hm : mapOf h r = some (es, c)) :
  (∃ m, h.get r = some ⟨.map ⟨es⟩ c, m⟩) ∧ h.lo ≤ r ∧ (∀ e ∈ es, keyF e.key = true ∧ sc h.next e.val = true) ∧ w.heap[Γ.b r]? = some (.map ⟨es.map (jJ Γ)⟩ c) := by
 unfold mapOf at hm
 split at hm
 ·rename_i es' c' m hg
  split at hm <;> cases hm
  rename_i hlo
  simp only [Nat.ble_eq] at hlo
  have hO := (hr.obj r _ hg).2
  simp only [OR] at hO
  exact ⟨⟨m, hg⟩, hlo, hO.1, by rw [hO.2]; simp⟩
 ·cases hm
theorem jS {P : Program} {w : World} {g c : Nat} {es : Array MapEntry} (h : w.heap[g]? = some (.map es c)) : (getObj g).run P w = .ok (.map es c) w := by
 simp [getObj, Sem.run, h]
theorem keyOk_key {P : Program} {kt : TypeId} {k : Value} (h : keyOk P kt k = true) : keyF k = true := by
 unfold keyOk at h
 split at h <;> first | rfl | cases h
theorem run_checkKey {P : Program} {kt : TypeId} {k : Value} (h : keyOk P kt k = true) (b : Bool) (w : World) : (Instr.checkKey b 10000 kt k).run P w = .ok () w := by
 have key : ∀ d, (Instr.checkKey b (d + 1) kt k).run P w = .ok () w := fun d => by
  unfold keyOk at h
  split at h
  ·rename_i hu; simp [Instr.checkKey, run_under hu]
  ·rename_i hu; simp [Instr.checkKey, run_under hu]
  ·cases h
 exact key 9999
theorem ba_beq (x y : ByteArray) : (x == y) = beqB x.data.toList y.data.toList := by
 simp [beqB_eq, ByteArray.toList_eq]
 first
  | rfl
  | (obtain ⟨x⟩ := x; obtain ⟨y⟩ := y; rfl)
  | (rw [Bool.eq_iff_iff, beq_iff_eq (a := x.data)]; constructor
     ·intro h; rw [ByteArray.ext_iff.1 (by simpa using h)]
     ·intro h; rw [ByteArray.ext h]; simp)
def lkR (ok : Bool) (z : Value) (r : Option (Nat × Value)) : Value := match r with | some (_, v) => okV2 ok v true | none => okV2 ok z false
theorem findE_now {P : Program} {Γ : Gam} {kt : TypeId} {d : TypeDesc} (hu : P.underlying kt = some d) {k : Value} (hk : keyOk P kt k = true) :
  ∀ (es : List MapEntry) (i : Nat) (r : Option (Nat × Value)), findE k es i = some r → Instr.findNow d k (es.map (jJ Γ)) i = some (r.map fun x => (x.1, con Γ x.2))
 | [], i, r, h => by simp only [findE, Option.some.injEq] at h; subst h; rfl
 | e :: es, i, r, h => by
  have ih := findE_now (Γ := Γ) hu hk es (i + 1)
  have hs : ∀ c, keyEq k e.key = some c → Instr.sameNow d k e.key = some c := fun c hc => by
   unfold keyOk at hk
   rw [hu] at hk
   split at hk
   ·rename_i hd; cases hd
    unfold keyEq at hc
    split at hc
    ·rename_i e1 e2
     cases e1
     split at hc <;> cases hc
     rename_i hkk
     have hkk := of_decide_eq_true hkk
     rw [e2]
     simp only [Instr.sameNow, hkk, if_true]
     congr 1
    ·rename_i e1 e2; cases e1
    ·cases hc
   ·rename_i hd; cases hd
    unfold keyEq at hc
    split at hc
    ·rename_i e1 e2; cases e1
    ·rename_i e1 e2; cases e1; cases hc
     rw [e2]
     simp only [Instr.sameNow]
     rw [ba_beq]
    ·cases hc
   ·cases hk
  simp only [findE] at h
  simp only [List.map_cons, Instr.findNow]
  have hke : (jJ Γ e).key = e.key := rfl
  rw [hke]
  split at h
  ·rename_i hq
   rw [hs _ hq]
   cases h
   rfl
  ·rename_i hq
   rw [hs _ hq]
   exact ih r h
  ·cases h
theorem run_findKey {P : Program} {Γ : Gam} {kt : TypeId} {k : Value} (hk : keyOk P kt k = true) {es : List MapEntry} {r : Option (Nat × Value)} (h : findE k es 0 = some r) (w : World) :
  (Instr.findKey kt k (es.map (jJ Γ))).run P w = .ok (r.map fun x => (x.1, con Γ x.2)) w := by
 obtain ⟨d, hu⟩ : ∃ d, P.underlying kt = some d := by
  unfold keyOk at hk
  split at hk
  ·rename_i hu; exact ⟨_, hu⟩
  ·rename_i hu; exact ⟨_, hu⟩
  ·cases hk
 simp only [Instr.findKey, Sem.run_bind, run_under hu, Result.andThen_ok, findE_now (Γ := Γ) hu hk es 0 r h]
 rfl
theorem run_zeroOf {P : Program} {e : TypeId} {z : Value} (hz : zeroOf P e = some z) (w : World) : (zeroValue e).run P w = .ok z w := by
 unfold zeroOf at hz
 split at hz
 ·rename_i i hi; simp [zeroValue, typeInfo, hi, hz]
 ·cases hz
theorem entsOf_run {p : Par} {Γ : Gam} {h : Heap} {w : World} (hr : HRel p Γ h w) {m : Value} {es : List MapEntry} (he : entsOf m h = some es) :
  (m = .map none ∧ es = []) ∨ ∃ r c, m = .map (some r) ∧ mapOf h r = some (es, c) := by
 unfold entsOf at he
 split at he
 ·cases he; exact .inl ⟨rfl, rfl⟩
 ·rename_i r
  split at he <;> cases he
  rename_i c hm
  exact .inr ⟨r, c, rfl, hm⟩
 ·cases he
theorem lookRead_run {p : Par} {Γ : Gam} {h : Heap} {w : World} (hr : HRel p Γ h w) {t : TypeId} {x i v : Value} {ok : Bool} (he : lookRead p.P t x i ok h = some v) :
  (Instr.lookup t (con Γ x) (con Γ i) ok).run p.P w = .ok (con Γ v) w ∧ (sc h.next v = true) := by
 unfold lookRead at he
 split at he
 ·rename_i kt et hu
  split at he
  ·rename_i es hk hes
   have hki : con Γ i = i := con_flat Γ i (qS (keyOk_key hk))
   rw [hki]
   have fin : ∀ (r : Option (Nat × Value)) (z : Value), findE i es 0 = some r → (r = none → zeroOf p.P et = some z ∧ flat z = true) →
     (Instr.lookup t (con Γ x) i ok).run p.P w = .ok (con Γ (lkR ok z r)) w := fun r z hf hz => by
    have hkk := run_findKey (Γ := Γ) hk hf w
    have fin2 : ∀ m, (Instr.lookup t m i ok).run p.P w = (do
      Instr.checkKey (es.map (jJ Γ)).isEmpty 10000 kt i
      let (v, ok') ← match ← Instr.findKey kt i (es.map (jJ Γ)) with
       | some (_, v) => pure (v, true)
       | none => pure (← zeroValue et, false)
      pure (if ok then .tuple #[v, .bool ok'] else v) : Sem Value).run p.P w →
      (Instr.lookup t m i ok).run p.P w = .ok (con Γ (lkR ok z r)) w := fun m hm => by
     rw [hm]
     simp only [Sem.run_bind, run_checkKey hk, Result.andThen_ok, hkk]
     cases r with
     | some y => obtain ⟨j, v'⟩ := y; cases ok <;> simp [lkR, okV2, con, conL]
     | none =>
      obtain ⟨h1, h2⟩ := hz rfl
      cases ok <;> simp [lkR, run_zeroOf h1, okV2, con, conL, con_flat Γ z h2]
    rcases entsOf_run hr hes with ⟨rfl, rfl⟩ | ⟨r', c, rfl, hm⟩
    ·refine fin2 _ ?_
     simp [con, Instr.lookup, run_under hu]
     rfl
    ·obtain ⟨_, _, _, hw⟩ := jX hr hm
     refine fin2 _ ?_
     simp only [con, Instr.lookup, Sem.run_bind, run_under hu, Result.andThen_ok, jS hw, Sem.run_pure]
     simp
     rfl
   split at he
   ·rename_i j v' hf
    cases he
    refine ⟨fin (some (j, v')) undef hf (fun h => by cases h), ?_⟩
    have hv : sc h.next v' = true := by
     have hmem : ∀ (es : List MapEntry) (n : Nat), findE i es n = some (some (j, v')) → ∃ e ∈ es, e.val = v' := by
      intro es
      induction es with
      | nil => intro n hh; simp [findE] at hh
      | cons e es ih =>
       intro n hh
       simp only [findE] at hh
       split at hh
       ·cases hh; exact ⟨e, by simp, rfl⟩
       ·obtain ⟨e', h1, h2⟩ := ih _ hh; exact ⟨e', by simp [h1], h2⟩
       ·cases hh
     obtain ⟨e, he1, he2⟩ := hmem es 0 hf
     rcases entsOf_run hr hes with ⟨rfl, rfl⟩ | ⟨r', c, rfl, hm⟩
     ·cases he1
     ·rw [← he2]; exact ((jX hr hm).2.2.1 e he1).2
    cases ok
    ·exact hv
    ·simp [okV2, sc, scL, hv]
   ·rename_i hf
    split at he
    ·rename_i z hz
     split at he <;> cases he
     rename_i hzf
     refine ⟨fin none z hf fun _ => ⟨hz, hzf⟩, ?_⟩
     have := flat_sc h.next z hzf
     cases ok
     ·exact this
     ·simp [okV2, sc, scL, this]
    ·cases he
   ·cases he
  ·cases he
 ·cases he
theorem lastN_back : ∀ {l : List Nat} {n : Nat}, lastN l = some n → l.getLast? = some n
 | [], n, h => by simp [lastN] at h
 | [x], n, h => by simp only [lastN, Option.some.injEq] at h; simp [h]
 | x :: y :: l, n, h => by
  have h : lastN (y :: l) = some n := h
  have := lastN_back h
  rw [List.getLast?_cons_cons]; exact this
theorem bornE_find (Γ : Gam) {n : Nat} : ∀ {es : List MapEntry} {e : MapEntry}, bornE n es = some e → (es.map (jJ Γ)).find? (fun x => x.born == n) = some (jJ Γ e) ∧ e ∈ es
 | [], e, h => by simp [bornE] at h
 | x :: es, e, h => by
  simp only [bornE] at h
  split at h
  ·rename_i hb; cases h
   have hb := Nat.eq_of_beq_eq_true hb
   simp [jJ, hb]
  ·rename_i hb
   obtain ⟨h1, h2⟩ := bornE_find Γ h
   have hb : ((jJ Γ x).born == n) = false := by
    rw [Bool.eq_false_iff]; intro h0; rw [beq_iff_eq] at h0
    have : x.born = n := h0
    rw [this] at hb; simp at hb
   rw [List.map_cons, List.find?_cons, hb]
   exact ⟨h1, by simp [h2]⟩
end Go.Ew
namespace Go.Ew
open Go Go.RowKit
theorem cells_get {h : Heap} {i : Nat} {cs : List Value} {e : TypeId} {m : Bool} (hc : cells h i = some (cs, e, m)) : ∃ fr0, h.get i = some ⟨.cells ⟨cs⟩ e fr0, m⟩ := by
 unfold cells at hc
 split at hc
 ·rename_i cs' e' fr m' hx; cases hc; exact ⟨fr, hx⟩
 ·cases hc
structure Row (p : Par) (Γ : Gam) (n : Nat) (w : World) (i : Nat) (cs : List Value) (e : TypeId) (m : Bool) (rest : List Value) (fr : Nat × Nat) : Prop where
 ok : ∀ v ∈ cs, one v = true ∧ sc n v = true
 heap : w.heap[Γ.b i]? = some (.cells ⟨cs.map (con Γ) ++ rest⟩ e fr)
 fr : cs.length + rest.length ≤ fr.1 ∨ fr.2 = fr.1
 no : m = false → rest = []
 more : m = true → ∃ t, p.P.info? e = some t ∧ cs.length + rest.length = Γ.k i * t.size
theorem HRel.row {p : Par} {Γ : Gam} {h : Heap} {w : World} (hr : HRel p Γ h w) {i : Nat} {cs : List Value} {e : TypeId} {m : Bool} (hc : cells h i = some (cs, e, m)) (hG : p.G ≤ i) :
  i < h.next ∧ ∃ rest fr, Row p Γ h.next w i cs e m rest fr := by
 obtain ⟨fr0, hg⟩ := cells_get hc
 obtain ⟨hlt, hO⟩ := hr.obj i _ hg
 simp only [OR] at hO
 obtain ⟨h1, rest, fr, h2, h3, h4, h5⟩ := hO.1 hG
 exact ⟨hlt, rest, fr, h1, h2, h3, h4, h5⟩
theorem HRel.cell {p : Par} {Γ : Gam} {h : Heap} {w : World} (hr : HRel p Γ h w) {i : Nat} {cs : List Value} {e : TypeId} {m : Bool} (hc : cells h i = some (cs, e, m)) {j : Nat} {v : Value} (hj : cs[j]? = some v)
  (hok : p.G ≤ i ∨ sc p.G v = true) : one v = true ∧ sc h.next v = true ∧ w.cell? ⟨Γ.b i, j, none⟩ = some (con Γ v) := by
 obtain ⟨fr0, hg⟩ := cells_get hc
 obtain ⟨hlt, hO⟩ := hr.obj i _ hg
 simp only [OR] at hO
 by_cases hG : p.G ≤ i
 ·obtain ⟨h1, rest, fr, h2, h3, h4, h5⟩ := hO.1 hG
  obtain ⟨h6, h7⟩ := h1 v (List.mem_of_getElem? hj)
  refine ⟨h6, h7, ?_⟩
  rw [cell_of_row w _ j _ e fr h2]
  have hlt : j < cs.length := (List.getElem?_eq_some_iff.1 hj).1
  simp only [List.getElem?_toArray]
  rw [List.getElem?_append_left (by simpa using hlt)]
  simp [hj]
 ·rcases hok with h0 | h0
  ·exact absurd h0 hG
  ·obtain ⟨h1, h2⟩ := (hO.2 (by omega)).2.2 j v (by simpa using hj) h0
   exact ⟨h1, sc_mono hr.gn v h0, h2⟩
theorem HRel.m_own {p : Par} {Γ : Gam} {h : Heap} {w : World} (hr : HRel p Γ h w) {i : Nat} {cs : List Value} {e : TypeId} (hc : cells h i = some (cs, e, true)) : p.G ≤ i := by
 obtain ⟨fr0, hg⟩ := cells_get hc
 obtain ⟨hlt, hO⟩ := hr.obj i _ hg
 simp only [OR] at hO
 by_cases hG : p.G ≤ i
 ·exact hG
 ·have := (hO.2 (by omega)).1; cases this
theorem takeN_get {cs l : List Value} {off n : Nat} (h : takeN cs off n = some l) : l.length = n ∧ off + n ≤ cs.length ∧ ∀ j v, l[j]? = some v → cs[off + j]? = some v := by
 obtain ⟨hb, rfl⟩ := takeN_eq h
 refine ⟨by simp; omega, hb, fun j v hj => ?_⟩
 rw [List.getElem?_take] at hj
 split at hj
 ·rwa [List.getElem?_drop] at hj
 ·cases hj
theorem run_loadL {P : Program} {w : World} {a : Addr} {l : List Value} {n : Nat} (hl : l.length = n) (h : ∀ j v, l[j]? = some v → w.cell? (a.add j) = some v) :
  (loadCells a n).run P w = .ok ⟨l⟩ w := by
 subst hl; exact run_loadCells_list w a l h
theorem HRel.load {p : Par} {Γ : Gam} {h : Heap} {w : World} (hr : HRel p Γ h w) {i : Nat} {cs : List Value} {e : TypeId} {m : Bool} (hc : cells h i = some (cs, e, m))
  {off k : Nat} {l : List Value} (ht : takeN cs off k = some l) (hok : p.G ≤ i ∨ ∀ v ∈ l, sc p.G v = true) (P : Program) : (loadCells ⟨Γ.b i, off, none⟩ k).run P w = .ok ⟨l.map (con Γ)⟩ w := by
 obtain ⟨hl, hle, hg⟩ := takeN_get ht
 refine run_loadL (by simpa using hl) fun j v hj => ?_
 rw [List.getElem?_map] at hj
 cases hx : l[j]? with
 | none => simp [hx] at hj
 | some u =>
  simp [hx] at hj
  subst hj
  rw [addr_add]
  exact (hr.cell hc (hg j u hx) (hok.imp id fun h0 => h0 u (List.mem_of_getElem? hx))).2.2
theorem seen_eq {p : Par} {Γ : Gam} {h : Heap} {w : World} (hr : HRel p Γ h w) {b : Nat} {v u : Value} (he : seen h.lo b v = some u) : u = v ∧ (p.G ≤ b ∨ sc p.G v = true) := by
 unfold seen at he
 rw [fsc_eq, hr.lo] at he
 cases hb : Nat.ble p.G b with
 | true => rw [hb] at he; cases he; exact ⟨rfl, .inl (by simpa using hb)⟩
 | false =>
  rw [hb] at he
  cases hs : sc p.G v with
  | true => rw [hs] at he; cases he; exact ⟨rfl, .inr rfl⟩
  | false => rw [hs] at he; cases he
theorem evLoad_run {p : Par} {Γ : Gam} {h : Heap} {w : World} (hr : HRel p Γ h w) {t : TypeId} {a v : Value} (he : evLoad p.P t a h = some v) :
  (Instr.loadAt t (con Γ a)).run p.P w = .ok (con Γ v) w := by
 unfold evLoad at he
 split at he
 ·rename_i b off
  split at he
  ·rename_i cs e m hc
   split at he
   ·rename_i ha
    split at he
    ·rename_i n hn
     split at he
     ·rename_i l hl
      obtain ⟨rfl, hok⟩ := seen_eq hr he
      have := hr.load hc hl (hok.imp id fun h0 v hv => scL_all h0 v hv) p.P
      simp [con, conA, Instr.loadAt, Instr.sureAddr, loadVar, run_isAgg ha, run_size hn, this, conL_map]
     ·cases he
    ·cases he
   ·rename_i ha
    split at he
    ·rename_i u hu
     obtain ⟨rfl, hok⟩ := seen_eq hr he
     have := (hr.cell hc hu hok).2.2
     simp [con, conA, Instr.loadAt, Instr.sureAddr, loadVar, run_isAgg ha, this]
    ·cases he
   ·cases he
  ·cases he
 ·cases he
theorem sliceRead_run {p : Par} {Γ : Gam} {h : Heap} {w : World} (hr : HRel p Γ h w) {t : TypeId} {a : Option Addr} {len cap : Nat} {lo hi mx : Option Value} {v : Value}
  (he : sliceRead p.P t a len cap lo hi mx h = some v) :
  (Instr.sliceAt t (con Γ (.slice a len cap)) (lo.map (con Γ)) (hi.map (con Γ)) (mx.map (con Γ))).run p.P w = .ok (con Γ v) w := by
 unfold sliceRead at he
 split at he
 ·rename_i e b off hu
  split at he
  ·rename_i size cs e' hs hc
   split at he
   ·rename_i hb
    simp only [Bool.and_eq_true, Nat.beq_eq, Nat.ble_eq, Nat.blt_eq] at hb
    obtain ⟨⟨⟨⟨⟨h1, h2⟩, h3⟩, h4⟩, h5⟩, h6⟩ := hb
    obtain ⟨hlt, rest, fr, hrow⟩ := hr.row hc (hr.m_own hc)
    obtain ⟨ti, hti, hk⟩ := hrow.more rfl
    have hsz : ti.size = size := by
     unfold szT at hs; rw [← h1, hti] at hs; simpa using hs
    rw [hsz] at hk
    have h7 : (cs.length - off).div size * size ≤ cs.length - off := Nat.div_mul_le_self _ _
    have h8 : len ≤ (cs.length - off).div size := (Nat.le_div_iff_mul_le h4).2 (by omega)
    revert h6 h7 h8 he
    generalize (cs.length - off).div size = av
    intro he h6 h7 h8
    have hcap : av ≤ Γ.k b - (cap - UC) := by
     have : (cap - UC + av) * size ≤ Γ.k b * size := by
      rw [Nat.add_mul, ← h3]; omega
     have := Nat.le_of_mul_le_mul_right this h4
     omega
    have hnot : ¬ cap < UC := by omega
    split at he
    ·rename_i l hh m hbd
     have hbr := bounds_run (P := p.P) (w := w) Γ true hbd hcap
     have hkey := bounds_key hbd
     have hmle : ∀ mm, m = some mm → mm ≤ av := fun mm hm => by
      rcases hkey.1 with ⟨_, h0⟩ | ⟨k, mm', _, h0, hle⟩
      ·rw [h0] at hm; cases hm
      ·rw [h0] at hm; cases hm; exact hle
     simp only [con, jC, conCap, if_neg hnot, Instr.sliceAt, Instr.slice, Sem.run_bind, run_under hu, Result.andThen_ok, hbr, run_size hs, Sem.run_pure]
     ·cases m with
      | some mm =>
       have hmm := hmle mm rfl
       have hmU : mm < UC := by have := U_UC; omega
       simp only [Option.getD_some]
       dsimp only at he
       split at he
       ·rename_i e1; simp only [Nat.beq_eq] at e1; cases he
        have h8 := UC_pos
        simp [con, jC, conCap, e1, h8]
       ·rename_i e1
        have e2 : mm ≠ l := fun e => by rw [e] at e1; simp at e1
        cases he
        have h7 : mm - l < UC := by omega
        simp only [if_neg e2, Option.map_some, con, conCap, jC, addr_add, if_pos h7]
      | none =>
       dsimp only at he
       have hlh : l ≤ hh ∧ hh ≤ av := by
        refine ⟨?_, ?_⟩
        ·rcases hkey.2.2 with ⟨_, h0⟩ | ⟨k, _, h0⟩ <;> omega
        ·rcases hkey.2.1 with ⟨_, _, h0⟩ | ⟨k, _, h0⟩
         ·omega
         ·exact h0
       have hnk : ¬ (cap + l < UC) := by omega
       have hsub : Γ.k b - (cap - UC) - l = Γ.k b - (cap + l - UC) := by
        generalize UC = u at h2 ⊢
        omega
       split at he
       ·rename_i hlen
        cases he
        simp only [Nat.blt_eq] at hlen
        have hne : ¬ (Γ.k b - (cap - UC) = l) := by omega
        have e2 : con Γ (Value.slice (some ⟨b, off + l * size, none⟩) (hh - l) (cap + l)) = Value.slice (some ⟨Γ.b b, off + l * size, none⟩) (hh - l) (Γ.k b - (cap - UC) - l) := by
         simp only [con, jC, conCap]
         rw [if_neg hnk, hsub]
        rw [addr_add, e2, Option.getD_none, if_neg hne, Option.map_some, addr_add]
       ·rename_i hlen
        cases l with
        | zero =>
         dsimp only at he
         cases he
         have e2 : con Γ (Value.slice (some ⟨b, off, none⟩) (hh - 0) (cap + 0)) = Value.slice (some ⟨Γ.b b, off, none⟩) (hh - 0) (Γ.k b - (cap - UC) - 0) := by
          simp only [con, jC, conCap]
          rw [if_neg hnk, hsub]
         rw [e2, Option.getD_none]
         by_cases he1 : Γ.k b - (cap - UC) = 0
         ·rw [if_pos he1]
         ·rw [if_neg he1, Option.map_some, addr_add, Nat.zero_mul, Nat.add_zero]
        | succ l1 =>
         dsimp only at he
         cases he
         have hl1 : l1 + 1 = av := by
          have : ¬ (l1 + 1 < av) := fun h0 => by
           have h9 : Nat.blt (l1 + 1) av = true := by rw [Nat.blt_eq]; exact h0
           rw [h9] at hlen; cases hlen
          omega
         have hz : hh - (l1 + 1) = 0 := by omega
         rw [hz]
         have hq : Γ.k b - (cap + (l1 + 1) - UC) = 0 ↔ Γ.k b - (cap - UC) = l1 + 1 := by rw [← hsub]; omega
         have e2 : con Γ (Value.slice (some ⟨b, off, some (off + (l1 + 1) * size)⟩) 0 (cap + (l1 + 1))) = Value.slice (some ⟨Γ.b b, if Γ.k b - (cap + (l1 + 1) - UC) = 0 then off else off + (l1 + 1) * size, none⟩) 0 (Γ.k b - (cap - UC) - (l1 + 1)) := by
          rw [hsub]
          revert hnk
          generalize cap + (l1 + 1) = c2
          intro hnk
          simp only [con, conS, conCap]
          rw [if_neg hnk, if_neg hnk]
         rw [e2, Option.getD_none]
         by_cases he1 : Γ.k b - (cap - UC) = l1 + 1
         ·rw [if_pos he1, if_pos (hq.2 he1)]
         ·rw [if_neg he1, if_neg (fun h0 => he1 (hq.1 h0)), Option.map_some, addr_add]
    ·cases he
   ·cases he
  ·cases he
 ·cases he
theorem bytesOf_ints : ∀ {l : List Value} {bs : List UInt8}, bytesOf l = some bs → ∃ ns : List Int, l = ns.map (Value.int .u8) ∧ bs = ns.map fun n => UInt8.ofNat n.toNat
 | [], bs, h => by simp [bytesOf] at h; exact ⟨[], rfl, by simpa using h.symm⟩
 | .int .u8 n :: vs, bs, h => by
  simp only [bytesOf] at h
  split at h <;> cases h
  rename_i l hl
  obtain ⟨ns, h1, h2⟩ := bytesOf_ints hl
  exact ⟨n :: ns, by simp [h1], by simp [h2]⟩
 | .int .i8 _ :: _, _, h => by simp [bytesOf] at h
 | .int .i16 _ :: _, _, h => by simp [bytesOf] at h
 | .int .i32 _ :: _, _, h => by simp [bytesOf] at h
 | .int .i64 _ :: _, _, h => by simp [bytesOf] at h
 | .int .u16 _ :: _, _, h => by simp [bytesOf] at h
 | .int .u32 _ :: _, _, h => by simp [bytesOf] at h
 | .int .u64 _ :: _, _, h => by simp [bytesOf] at h
 | .bool _ :: _, _, h => by simp [bytesOf] at h
 | .float _ _ :: _, _, h => by simp [bytesOf] at h
 | .complex _ _ _ :: _, _, h => by simp [bytesOf] at h
 | .string _ :: _, _, h => by simp [bytesOf] at h
 | .pointer _ :: _, _, h => by simp [bytesOf] at h
 | .slice _ _ _ :: _, _, h => by simp [bytesOf] at h
 | .map _ :: _, _, h => by simp [bytesOf] at h
 | .chan _ :: _, _, h => by simp [bytesOf] at h
 | .func _ _ _ :: _, _, h => by simp [bytesOf] at h
 | .nilFunc :: _, _, h => by simp [bytesOf] at h
 | .iface _ _ :: _, _, h => by simp [bytesOf] at h
 | .nilIface :: _, _, h => by simp [bytesOf] at h
 | .agg _ :: _, _, h => by simp [bytesOf] at h
 | .tuple _ :: _, _, h => by simp [bytesOf] at h
theorem foldl_push : ∀ (ns : List Int) (s : ByteArray), ns.foldl (fun r n => r.push (UInt8.ofNat n.toNat)) s = ⟨⟨s.data.toList ++ ns.map fun n => UInt8.ofNat n.toNat⟩⟩
 | [], s => by simp
 | n :: ns, s => by
  rw [List.foldl_cons, foldl_push ns]
  simp [ByteArray.push]
theorem data_eq {b : Builtin} (hb : bNo b = 20) (ts : Array TypeId) (ty : TypeId) (cs : Array Bool) (P : Program) (w : World) :
  (∀ (a : Addr) (n c : Nat), c ≠ 0 → (builtin b ts ty cs #[.slice (some a) n c]).run P w = .ok (.value (.pointer (some a))) w) ∧
  (∀ (n c : Nat), (builtin b ts ty cs #[.slice none n c]).run P w = .ok (.value (.pointer none)) w) := by
 cases b <;> first
  | (exact absurd hb (by decide))
  | (refine ⟨fun a n c hc => ?_, fun n c => rfl⟩
     obtain ⟨k, rfl⟩ : ∃ k, c = k + 1 := ⟨c - 1, by omega⟩
     rfl)
theorem dataRead_run {p : Par} {Γ : Gam} {h : Heap} {w : World} (hr : HRel p Γ h w) {b : Builtin} (hb : bNo b = 20) {v u : Value} (he : dataRead p.P v h = some u) (ts : Array TypeId) (ty : TypeId) {cs : Array Bool} :
  (builtin b ts ty cs #[con Γ v]).run p.P w = .ok (.value (con Γ u)) w ∧ (sc h.next v = true → sc h.next u = true) := by
 obtain ⟨key, keyn⟩ := data_eq hb ts ty cs p.P w
 unfold dataRead at he
 split at he
 ·cases he; exact ⟨keyn _ _, fun _ => rfl⟩
 ·rename_i b off n c
  split at he
  ·rename_i hc
   simp only [Nat.blt_eq] at hc
   split at he <;> cases he
   simp only [con, jC, conCap, if_pos hc]
   exact ⟨key _ _ _ (by omega), fun h => by simpa [sc, scS, scA] using h⟩
  ·rename_i hc
   split at he
   ·rename_i cs' e hcl
    split at he
    ·rename_i size hs
     split at he <;> cases he
     rename_i hb
     simp only [Bool.and_eq_true, Nat.blt_eq] at hb
     have hcU : ¬ c < UC := fun e => by
      have : Nat.blt c UC = true := by simp only [Nat.blt_eq]; exact e
      rw [this] at hc; cases hc
     obtain ⟨hlt, rest, fr, hrow⟩ := hr.row hcl (hr.m_own hcl)
     obtain ⟨t, ht, hk⟩ := hrow.more rfl
     have hst : size = t.size := by
      unfold szT at hs
      rw [ht] at hs
      exact (Option.some.inj hs).symm
     simp only [con, jC, conCap, if_neg hcU]
     refine ⟨key _ _ _ ?_, fun h => by simpa [sc, scS, scA] using h⟩
     have h1 : (c - UC) * size < Γ.k b * size := by rw [hst, ← hk, ← hst]; omega
     have := Nat.lt_of_mul_lt_mul_right h1
     show Γ.k b - (c - UC) ≠ 0
     omega
    ·cases he
   ·cases he
 ·cases he
theorem ptrConv_run {p : Par} {Γ : Gam} {h : Heap} {w : World} (hr : HRel p Γ h w) {s d : TypeId} {x v : Value} (he : ptrConv p.P s d x h = some v) :
  v = x ∧ (convert s d (con Γ x)).run p.P w = .ok (con Γ x) w := by
 unfold ptrConv at he
 split at he
 ·rename_i S D b off hs hd
  split at he
  ·rename_i hS hD
   split at he
   ·rename_i t
    split at he
    ·rename_i n cs e m hsz hc
     split at he <;> cases he
     rename_i hb
     simp only [Bool.and_eq_true, Nat.ble_eq, Nat.blt_eq] at hb
     refine ⟨rfl, ?_⟩
     have hG : p.G ≤ b := by rw [← hr.lo]; exact hb.1
     obtain ⟨hlt, rest, fr, hrow⟩ := hr.row hc hG
     have hsh : w.shape? (Γ.b b) = some (e, (cs.map (con Γ) ++ rest).length) := by
      unfold World.shape?; rw [hrow.heap]; rfl
     have hn : off < (cs.map (con Γ) ++ rest).length := by simp; omega
     generalize (cs.map (con Γ) ++ rest).length = L at hsh hn
     cases D <;> first
      | (simp [isUP] at hD; done)
      | (simp only [con, conA, convert, Sem.run_bind, run_under hs, run_under hd, Result.andThen_ok]
         change Sem.run p.P (underlying s >>= _) w = _
         simp only [Sem.run_bind, run_under hs, run_under hd, Result.andThen_ok]
         simp [Conv.seenAt, viewAt, cellsIn, hsh, run_size0 hsz]
         try (intro h1; omega))
    ·cases he
   ·cases he
  ·rename_i hS hD
   split at he
   ·rename_i u
    split at he
    ·rename_i cs e hc
     split at he <;> cases he
     rename_i hb
     simp only [Bool.and_eq_true, Nat.ble_eq] at hb
     refine ⟨rfl, ?_⟩
     have hG : p.G ≤ b := by rw [← hr.lo]; exact hb.1.1
     obtain ⟨hlt, rest, fr, hrow⟩ := hr.row hc hG
     have hrest := hrow.no rfl
     subst hrest
     have hsh : w.shape? (Γ.b b) = some (e, cs.length) := by
      unfold World.shape?; rw [hrow.heap]; simp
     have hsz : (variablesAt ⟨Γ.b b, off, none⟩ u 1).run p.P w = .ok true w := by
      simp [variablesAt, hsh, hb.2]
     obtain ⟨n, hn⟩ : ∃ n, szT p.P u = some n := Option.isSome_iff_exists.1 hb.1.2
     cases S <;> first
      | (simp [isUP] at hS; done)
      | (simp only [con, conA, convert, Sem.run_bind, run_under hs, run_under hd, Result.andThen_ok]
         change Sem.run p.P (underlying s >>= _) w = _
         simp only [Sem.run_bind, run_under hs, run_under hd, Result.andThen_ok]
         simp [Conv.seenAt, viewAt, hsh, hsz, run_size0 hn])
    ·cases he
   ·cases he
  ·cases he
 ·cases he
theorem mapRead_run {p : Par} {Γ : Gam} {h : Heap} {w : World} (hr : HRel p Γ h w) {tm : VT} {ρ : Operand → Value} {o : Oper} {v : Value} (hev : ∀ x ∈ o.op.operands, ρ x = con Γ (ev tm x))
  (he : mapRead p.P o tm h = some v) : (execOp ρ o).run p.P w = .ok (.value (con Γ v)) w ∧ ((∀ x ∈ o.op.operands, sc h.next (ev tm x) = true) → sc h.next v = true) := by
 unfold mapRead at he
 split at he
 ·rename_i t x i ok ho
  obtain ⟨h1, h2⟩ := lookRead_run hr he
  refine ⟨?_, fun _ => h2⟩
  simp only [execOp, ho, hev x (by simp [ho, Op.operands]), hev i (by simp [ho, Op.operands]), Sem.run_bind, h1, Result.andThen_ok, Sem.run_pure]
 ·rename_i it ho
  have hx := hev it (by simp [ho, Op.operands])
  unfold entryRead at he
  split at he
  ·rename_i b hit
   split at he
   ·rename_i m a seen last mo hg hlo
    split at he
    ·rename_i es c n hm hl
     split at he <;> cases he
     rename_i hcl hbe
     rename_i e
     have hcl := Nat.eq_of_beq_eq_true hcl
     subst hcl
     obtain ⟨hO1, hO2⟩ := (hr.obj b _ hg).2
     obtain ⟨_, _, hall, hw⟩ := jX hr hm
     obtain ⟨hf1, hf2⟩ := bornE_find Γ hbe
     obtain ⟨hk, hv⟩ := hall e hf2
     have hback : (⟨seen⟩ : Array Nat).back? = some n := by
      rw [← Array.getLast?_toList]; exact lastN_back hl
     have hget : (getObj (Γ.b b)).run p.P w = .ok (.mapIter (some (Γ.b m)) a ⟨seen⟩ c) w := by simp [getObj, Sem.run, hO2]
     have hfa : (⟨es.map (jJ Γ)⟩ : Array MapEntry).find? (fun x => x.born == n) = some (jJ Γ e) := by
      rw [← Array.find?_toList]; exact hf1
     refine ⟨?_, fun _ => by simp [sc, scL, flat_sc _ _ (qS hk), hv]⟩
     simp only [execOp, ho, hx, hit, con, conA, Instr.entry, Sem.run_bind, hget, Result.andThen_ok, hback, jS hw, Sem.run_pure]
     simp only [bne_self_eq_false, Bool.false_eq_true, if_false, Sem.run_bind, Sem.run_pure, Result.andThen_ok, hfa]
     simp [jJ, conL, con_flat Γ _ (qS hk)]
    ·cases he
   ·cases he
  ·cases he
 ·rename_i args ats ho
  split at he
  ·rename_i x t hA hT
   have hT' : ats = #[t] := Array.ext' hT
   have hA' : args = #[x] := Array.ext' hA
   subst hT' hA'
   have hx := hev x (by simp [ho, Op.operands, Call.operands])
   unfold mapLen at he
   split at he
   ·rename_i hu
    split at he <;> cases he
    rename_i es hes
    refine ⟨?_, fun _ => rfl⟩
    rcases entsOf_run hr hes with ⟨hm, rfl⟩ | ⟨r', c, hm, hm2⟩
    ·simp [execOp, ho, resolve, invoke, builtin, hx, hm, con, Builtin.len_, run_under hu]
     rfl
    ·obtain ⟨_, _, _, hw⟩ := jX hr hm2
     simp [execOp, ho, resolve, invoke, builtin, hx, hm, con, Builtin.len_, run_under hu, jS hw]
     rfl
   ·cases he
  ·cases he
 ·rename_i b args ats hbl ho
  split at he
  ·rename_i x hb hA
   have hA' : args = #[x] := Array.ext' hA
   have hx := hev x (by simp [ho, hA', Op.operands, Call.operands])
   refine ⟨?_, fun hsv => (dataRead_run hr hb he ats o.type (cs := #[])).2 (hsv x (by simp [ho, hA', Op.operands, Call.operands]))⟩
   subst hA'
   simp [execOp, ho, resolve, invoke, hx]
   exact (dataRead_run hr hb he ats o.type).1
  ·cases he
 ·cases he
theorem evRead_run {p : Par} {Γ : Gam} {h : Heap} {w : World} (hr : HRel p Γ h w) {tm : VT} {ca : Act} {o : Oper} {v : Value} (ht : Tm Γ p.NG tm ca)
  (hop : o.op.operands.all (okOpd p.NG) = true) (he : evRead p.P o tm h = some v) :
  (execOp ca.eval o).run p.P w = .ok (.value (con Γ v)) w := by
 have hev : ∀ x ∈ o.op.operands, ca.eval x = con Γ (ev tm x) := fun x hx => ht.eval (by
  rw [Array.all_eq_true_iff_forall_mem] at hop; exact hop x hx)
 unfold evRead at he
 split at he
 ·rename_i t a ho
  have hx := hev a (by simp [ho, Op.operands])
  simp only [execOp, ho, hx, Sem.run_bind, evLoad_run hr he, Result.andThen_ok, Sem.run_pure]
 ·rename_i t x lo hi mx ho
  have hx := hev x (by simp [ho, Op.operands])
  have hlo : lo.map ca.eval = (lo.map (ev tm)).map (con Γ) := by
   cases lo with
   | none => rfl
   | some y => simp [hev y (by simp [ho, Op.operands])]
  have hhi : hi.map ca.eval = (hi.map (ev tm)).map (con Γ) := by
   cases hi with
   | none => rfl
   | some y => simp [hev y (by simp [ho, Op.operands])]
  have hmx : mx.map ca.eval = (mx.map (ev tm)).map (con Γ) := by
   cases mx with
   | none => rfl
   | some y => simp [hev y (by simp [ho, Op.operands])]
  split at he
  ·rename_i a n c hxe
   simp only [execOp, ho, hx, hxe, hlo, hhi, hmx, Sem.run_bind, sliceRead_run hr he, Result.andThen_ok, Sem.run_pure]
  ·cases he
 ·rename_i s d x ho
  have hx := hev x (by simp [ho, Op.operands])
  split at he
  ·rename_i e n c hs hd hxe
   split at he <;> cases he
   rename_i hu8
   simp only [execOp, ho, hx, hxe, con, Sem.run_bind]
   rw [run_convert_bytes_string w s d e _ _ _ hs hu8 hd]
   simp [Conv.bytesToString]
  ·rename_i e g off c hs hd hxe
   split at he <;> cases he
   rename_i hu8
   simp only [execOp, ho, hx, hxe, con, jC, Sem.run_bind]
   rw [run_convert_bytes_string w s d e _ _ _ hs hu8 hd]
   have hld : (loadCells ⟨Γ.b g, off, none⟩ 0).run p.P w = .ok (([] : List Int).map (Value.int .u8)).toArray w := by
    simp [loadCells, loadCellsFrom]
   have hrun := run_bytesToString w ⟨Γ.b g, off, none⟩ 0 (conCap Γ g c) [] hld
   rw [hrun, foldl_push]
   rfl
  ·rename_i e g off n c hne hs hd hxe
   split at he
   ·rename_i cs e' m hu8 hc
    split at he
    ·rename_i l hl
     split at he <;> cases he
     rename_i bs hbs
     obtain ⟨ns, h1, h2⟩ := bytesOf_ints hbs
     have hld := hr.load hc hl (.inr fun v hv => by
      rw [h1] at hv
      obtain ⟨k, _, rfl⟩ := List.mem_map.1 hv
      rfl) p.P
     rw [h1] at hld
     have hflat : (ns.map (Value.int .u8)).map (con Γ) = ns.map (Value.int .u8) := by
      rw [List.map_map]; exact List.map_congr_left fun n _ => rfl
     rw [hflat] at hld
     have hrun := run_bytesToString w ⟨Γ.b g, off, none⟩ n (conCap Γ g c) ns hld
     simp only [execOp, ho, hx, hxe, con, jC, Sem.run_bind]
     rw [run_convert_bytes_string w s d e _ _ _ hs hu8 hd, hrun, foldl_push]
     simp [h2]
    ·cases he
   ·cases he
  ·obtain ⟨h1, h2⟩ := ptrConv_run hr he
   rw [h1]
   simp only [execOp, ho, hx, Sem.run_bind, h2, Result.andThen_ok, Sem.run_pure]
 ·exact (mapRead_run hr hev he).1
end Go.Ew
namespace Go.Ew
open Go Go.RowKit
def Out (p : Par) (Γ : Gam) (h : Heap) (ca : Act) (o : Oper) (w : World) (v : Value) (h' : Heap) : Prop :=
 ∃ Γ' w' nx, (execOp ca.eval o).run p.P w = .ok nx w' ∧ (nx = .value (con Γ' v) ∨ (nx = .skip ∧ v = undef)) ∧ Ag Γ Γ' h.next ∧ h.next ≤ h'.next ∧ HRel p Γ' h' w' ∧ Fr p Γ h w w'
theorem mkRow_run {p : Par} {Γ : Gam} {h : Heap} {w : World} (hr : HRel p Γ h w) {e : TypeId} {cs : List Value} {more : Bool} {b : Nat} {h' : Heap}
  (hm : mkRow h e cs more = some (b, h')) (rest : List Value) (k : Nat) (fr : Nat × Nat) (hfr : cs.length + rest.length ≤ fr.1 ∨ fr.2 = fr.1) (hno : more = false → rest = [])
  (hmore : more = true → ∃ t, p.P.info? e = some t ∧ cs.length + rest.length = k * t.size) :
  b = h.next ∧ h'.next = h.next + 1 ∧ Ag Γ (Γ.ext h.next w.heap.size k) h.next ∧
  HRel p (Γ.ext h.next w.heap.size k) h' (w.alloc (.cells ⟨cs.map (con Γ) ++ rest⟩ e fr)) ∧ Fr p Γ h w (w.alloc (.cells ⟨cs.map (con Γ) ++ rest⟩ e fr)) := by
 unfold mkRow at hm
 split at hm
 case h_2 => cases hm
 rename_i hb
 rw [Heap.new_eq] at hm
 cases hm
 simp only [foneL_eq, Bool.and_eq_true, List.all_eq_true] at hb
 have hag := Γ.ext_ag h.next w.heap.size k
 have hok : ∀ v ∈ cs, one v = true ∧ sc h.next v = true := fun v hv => ⟨hb.1 v hv, scL_all hb.2 v hv⟩
 have hmap : cs.map (con (Γ.ext h.next w.heap.size k)) = cs.map (con Γ) := List.map_congr_left fun v hv => con_ag hag v (hok v hv).2
 have := HRel.new (x := ⟨.cells ⟨cs⟩ e, more⟩) (o := .cells ⟨cs.map (con Γ) ++ rest⟩ e fr) (k := k) hr (by
  simp only [OR]
  refine ⟨fun _ => ⟨fun v hv => ⟨(hok v hv).1, sc_mono (Nat.le_succ _) v (hok v hv).2⟩, rest, fr, ?_, by simpa using hfr, hno, ?_⟩, fun h0 => absurd h0 (Nat.not_lt.2 hr.gn)⟩
  ·rw [Gam.ext_b, hmap]; exact heap_alloc_new w _
  ·rw [Gam.ext_k]; simpa using hmore)
 rw [Heap.new_eq] at this
 exact ⟨rfl, rfl, hag, this.1, this.2⟩
theorem con_ptr_ext (Γ : Gam) (n b k : Nat) : con (Γ.ext n b k) (.pointer (some ⟨n, 0, none⟩)) = .pointer (some ⟨b, 0, none⟩) := by
 simp [con, conA, Gam.ext_b]
theorem rep_cells (z : Array Value) : ∀ n, ((Array.range (n * z.size)).map (z[· % z.size]!)).toList = (List.replicate n z.toList).flatten := by
 intro n
 induction n with
 | zero => simp
 | succ n ih =>
  have e : (n + 1) * z.size = n * z.size + z.size := by rw [Nat.add_mul]; simp
  rw [e]
  simp only [Array.toList_map, Array.toList_range] at ih ⊢
  rw [List.range_add, List.map_append, ih, List.replicate_succ', List.flatten_append]
  congr 1
  simp only [List.map_map, List.flatten_singleton]
  apply List.ext_getElem
  ·simp
  ·intro i h1 h2
   simp at h1
   simp [Nat.add_comm, Nat.mod_eq_of_lt h1, getElem!_pos z i h1]
theorem evStore_run {p : Par} {Γ : Gam} {h h' : Heap} {w : World} (hr : HRel p Γ h w) {t : TypeId} {a v : Value} (he : evStore p.P t a v h = some h') :
  ∃ w', (Instr.storeAt t (con Γ a) (con Γ v)).run p.P w = .ok () w' ∧ h'.next = h.next ∧ HRel p Γ h' w' ∧ Fr p Γ h w w' := by
 unfold evStore at he
 split at he
 ·rename_i b off
  split at he
  ·cases he
  rename_i h1 hdet
  obtain ⟨hr, n1, l1, k1⟩ := detach_spec hdet hr
  split at he
  ·rename_i cs e m n hc hn
   split at he
   ·rename_i hb
    simp only [foneL_eq, Bool.and_eq_true, Nat.beq_eq, List.all_eq_true, Nat.ble_eq] at hb
    obtain ⟨⟨hh1, h2, h3⟩, h4⟩ := hb
    split at he <;> cases he
    rename_i cs' hset
    obtain ⟨hle, rfl⟩ := setN_eq hset
    obtain ⟨fr0, hg⟩ := cells_get hc
    have hG : p.G ≤ b := by rw [← hr.lo]; exact h4
    obtain ⟨hlt, rest, fr, hrow⟩ := hr.row hc hG
    have hst := storeCells_run p.P (Γ.b b) off e fr (v.cells.toList.map (con Γ)) 0 (cs.map (con Γ) ++ rest) w hrow.heap
     (by simpa using hrow.fr) (by simp at hle ⊢; omega) (by
      intro x hx
      simp only [List.mem_map] at hx
      obtain ⟨y, hy, rfl⟩ := hx
      rw [one_con]; exact h2 y hy)
    have hset : setFrom (cs.map (con Γ) ++ rest) (off + 0) (v.cells.toList.map (con Γ)) = (setFrom cs off v.cells.toList).map (con Γ) ++ rest := by
     rw [setFrom_map]
     simp only [setFrom, Nat.add_zero, List.length_map]
     rw [List.take_append_of_le_length (by simp at hle ⊢; omega), List.drop_append_of_le_length (by simp at hle ⊢; omega)]
     simp
    rw [hset] at hst
    have hlen : (setFrom cs off v.cells.toList).length = cs.length := by
     simp only [setFrom, List.length_append, List.length_take, List.length_drop]
     omega
    have hok : ∀ x ∈ setFrom cs off v.cells.toList, one x = true ∧ sc h1.next x = true := by
     intro x hx
     simp only [setFrom, List.mem_append] at hx
     rcases hx with (hx | hx) | hx
     ·exact hrow.ok x (List.mem_of_mem_take hx)
     ·exact ⟨h2 x hx, scL_all h3 x hx⟩
     ·exact hrow.ok x (List.mem_of_mem_drop hx)
    have hput := hr.put (x' := ⟨.cells ⟨setFrom cs off v.cells.toList⟩ e, m⟩) (o := .cells ⟨(setFrom cs off v.cells.toList).map (con Γ) ++ rest⟩ e fr) hg rfl h4 (hl := k1 _ hg) (hl' := rfl) (by
     simp only [OR]
     refine ⟨fun _ => ⟨hok, rest, fr, ?_, ?_, hrow.no, fun hm => ?_⟩, fun h0 => absurd h0 (Nat.not_lt.2 hG)⟩
     ·rw [wset_heap _ _ _ (Array.getElem?_eq_some_iff.1 hrow.heap).1]; simp
     ·have := hrow.fr; simpa [hlen] using this
     ·obtain ⟨ti, h5, h6⟩ := hrow.more hm
      exact ⟨ti, h5, by simpa [hlen] using h6⟩)
    refine ⟨_, ?_, n1, hput.1, ⟨hput.2.below⟩⟩
    have hsz : ((con Γ v).cells.size ≠ n) = False := by
     rw [con_cells]; simp [hh1]
    simp only [con, conA, Instr.storeAt, Instr.sureAddr, storeVar, Sem.run_bind, Sem.run_pure, Result.andThen_ok, run_size hn, hsz, if_false]
    rw [con_cells]
    simpa using hst
   ·cases he
  ·cases he
 ·cases he
theorem lenV_run {P : Program} {w : World} {x : Value} {m : Nat} (Γ : Gam) (h : lenV x = some m) : (Builtin.lenOf (con Γ x)).run P w = .ok m w := by
 unfold lenV at h
 split at h <;> cases h
 ·rename_i a _; cases a <;> simp [con, Builtin.lenOf]
 ·simp [con, Builtin.lenOf]
theorem srcCells_run {p : Par} {Γ : Gam} {h : Heap} {w : World} (hr : HRel p Γ h w) {size n : Nat} {x : Value} {l : List Value} (he : srcCells size n x h = some l) :
  l.length = n * size ∧ (∀ v ∈ l, one v = true ∧ sc h.next v = true) ∧ ∀ w', w'.heap = w.heap → (Builtin.firstCells size n (con Γ x)).run p.P w' = .ok ⟨l.map (con Γ)⟩ w' := by
 unfold srcCells at he
 split at he
 ·rename_i a len cap
  split at he
  ·cases he
   refine ⟨by simp, (fun v hv => by cases hv), fun w' _ => ?_⟩
   cases a <;> simp [con, Builtin.firstCells, loadCells, loadCellsFrom]
  split at he
  case h_2 => cases he
  rename_i b off
  split at he
  ·rename_i cs e m hc
   split at he
   ·rename_i l' hl
    have hok : l' = l ∧ (p.G ≤ b ∨ ∀ v ∈ l', sc p.G v = true) := by
     rw [hr.lo] at he
     cases hb : Nat.ble p.G b with
     | true => rw [hb] at he; cases he; exact ⟨rfl, .inl (by simpa using hb)⟩
     | false =>
      rw [hb] at he
      cases hs : foneL p.G l' with
      | true =>
       rw [hs] at he; cases he
       simp only [foneL_eq, Bool.and_eq_true] at hs
       exact ⟨rfl, .inr fun v hv => scL_all hs.2 v hv⟩
      | false => rw [hs] at he; cases he
    obtain ⟨rfl, hok⟩ := hok
    refine ⟨(takeN_get hl).1, fun v hv => ?_, fun w' hw => ?_⟩
    ·obtain ⟨j, hj⟩ := List.getElem?_of_mem hv
     have := hr.cell hc ((takeN_get hl).2.2 j v hj) (hok.imp id fun h0 => h0 v hv)
     exact ⟨this.1, this.2.1⟩
    ·have := (hr.of_heap hw).load hc hl hok p.P
     simpa [con, conA, jC, Builtin.firstCells] using this
   ·cases he
  ·cases he
 ·rename_i s
  split at he <;> cases he
  rename_i hb
  simp only [Bool.and_eq_true, Nat.beq_eq] at hb
  obtain ⟨h1, h2⟩ := hb
  subst h1 h2
  have hsz : s.data.toList.length = s.size := Array.length_toList
  refine ⟨by rw [List.length_map, hsz, Nat.mul_one], fun v hv => (by obtain ⟨u, _, rfl⟩ := List.mem_map.1 hv; exact ⟨rfl, rfl⟩), fun w' _ => ?_⟩
  simp only [con, Builtin.firstCells, Sem.run_pure]
  congr 1
  apply Array.ext'
  rw [List.map_map]
  simp only [Array.toList_map]
  have hex : (s.extract 0 s.size).data.toList = s.data.toList := by
   rw [ByteArray.data_extract]
   have : s.data.extract 0 s.size = s.data := by
    rw [show s.size = s.data.size from rfl]; exact Array.extract_size
   rw [this]
  rw [hex]
  rfl
 ·cases he
theorem append_fit {P : Program} {w : World} {sT xT ty e : TypeId} {i : TypeInfo} {base : Option Addr} {n m cap : Nat} {x : Value} {new : List Value} {dx : TypeDesc}
  (hs : P.underlying sT = some (.slice e)) (hxT : P.underlying xT = some dx) (hni : ∀ k, dx ≠ .int k) (hi : P.info? e = some i) (hlen : (Builtin.lenOf x).run P w = .ok m w)
  (hnew : (Builtin.firstCells i.size m x).run P w = .ok ⟨new⟩ w) (hle : n + m ≤ cap) {w' : World}
  (hst : (match base with | some a => storeCells (a.add (n * i.size)) new | none => pure () : Sem Unit).run P w = .ok () w') :
  (Builtin.append_ #[sT, xT] ty #[.slice base n cap, x]).run P w = .ok (.slice base (n + m) cap) w' := by
 have hz : (dx matches .int _) = false := by cases dx <;> first | rfl | exact absurd rfl (hni _)
 simp only [Builtin.append_, List.getElem?_toArray, List.getElem?_cons_zero, List.getElem?_cons_succ, Sem.run_bind, run_under hs, Result.andThen_ok, sizeOf, typeInfo, run_program, hi, Sem.run_pure,
  run_under hxT, Bool.false_eq_true, if_false, hlen, if_pos hle, Bool.not_false, if_true, hnew]
 cases base with
 | none => simp at hst ⊢; exact hst
 | some a => simp at hst; simp [hst]
theorem append_grow {P : Program} {w : World} {sT xT ty e : TypeId} {i : TypeInfo} {z : Value} {base : Option Addr} {n m cap : Nat} {x : Value} {old new : List Value} {dx : TypeDesc}
  (hs : P.underlying sT = some (.slice e)) (hxT : P.underlying xT = some dx) (hni : ∀ k, dx ≠ .int k) (hi : P.info? e = some i) (hz : i.zero = some z) (hlen : (Builtin.lenOf x).run P w = .ok m w)
  (hold : (Builtin.firstCells i.size n (.slice base n cap)).run P w.drew = .ok ⟨old⟩ w.drew)
  (hnew : (Builtin.firstCells i.size m x).run P w.drew = .ok ⟨new⟩ w.drew) (hgt : cap < n + m) (h63 : ((n + m : Nat) : Int) ≤ 9223372036854775807)
  (hfit : Builtin.nextslicecap (n + m) cap * i.bytes ≤ 281474976710656) :
  (Builtin.append_ #[sT, xT] ty #[.slice base n cap, x]).run P w = .ok (.slice (some ⟨w.heap.size, 0, none⟩) (n + m) (grownCap w (n + m) cap e))
   (w.drew.alloc (.cells ⟨old ++ new ++ (Builtin.zeroCells z.cells (grownCap w (n + m) cap e - (n + m))).toList⟩ e)) := by
 have hzz : (dx matches .int _) = false := by cases dx <;> first | rfl | exact absurd rfl (hni _)
 have hn : ¬ (n + m ≤ cap) := by omega
 have h63' : ¬ (((n + m : Nat) : Int) > IntKind.i64.max) := by
  have : IntKind.i64.max = 9223372036854775807 := by decide
  omega
 have h48' : ¬ (Builtin.nextslicecap (n + m) cap * i.bytes > 2 ^ 48) := by
  have : (2 : Nat) ^ 48 = 281474976710656 := by decide
  omega
 simp only [Builtin.append_, List.getElem?_toArray, List.getElem?_cons_zero, List.getElem?_cons_succ, Sem.run_bind, run_under hs, Result.andThen_ok, sizeOf, typeInfo, run_program, hi, Sem.run_pure,
  run_under hxT, Bool.false_eq_true, if_false, hlen, if_neg hn, h63', false_and, h48', Bool.not_false, if_true]
 simp only [run_choose, Question.forced, Bool.false_eq_true, if_false, Result.andThen_ok, run_askRoom, World.drew_eq, zeroValue, typeInfo, Sem.run_bind, run_program, hi, hz, Sem.run_pure]
 rw [hold]
 simp only [Result.andThen_ok]
 rw [hnew]
 simp only [Result.andThen_ok, newRow, Sem.run_bind, run_newObj, Sem.run_pure, World.alloc_eq]
 simp only [grownCap]
 congr 2
 congr 1
 apply Array.ext'
 simp
end Go.Ew
