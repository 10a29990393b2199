/-
  WireForgets at given residues: what is run.
-/
import Derived.Test.YtlcojdfgfodphaaBase
namespace Go.Proofs.Ytlcojdfgfodphaa.wireForgets
open Go Go.RowKit Go.Ev
set_option linter.unusedVariables false
noncomputable section
def tabK (r0 : Nat) (b1 : Bool) : List (List Value × Value) := [([.float .f64 0, .int .i64 (30 : Nat)], .int .i64 (r0 : Nat))]
def runK (r0 : Nat) (b1 : Bool) : Option (Value × Heap) := evCall Try.prog (XW (tabK r0 b1)) (evC Try.prog (XW (tabK r0 b1)) 400) 6 [.float .f64 0, .bool b1] (laidHeap 0 LL)
end
end Go.Proofs.Ytlcojdfgfodphaa.wireForgets
