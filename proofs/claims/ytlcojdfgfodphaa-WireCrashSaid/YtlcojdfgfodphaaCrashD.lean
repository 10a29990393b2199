/-
  WireCrash at given residues: what is run.
-/
import Derived.Test.YtlcojdfgfodphaaBase
namespace Go.Proofs.Ytlcojdfgfodphaa.wireCrash
open Go Go.RowKit Go.Ev
set_option linter.unusedVariables false
noncomputable section
def tabK (b1 : Bool) (r0 : Nat) : List (List Value × Value) := [([.float .f64 2, .int .i64 (2 : Nat)], .int .i64 (r0 : Nat))]
def runK (b1 : Bool) (r0 : Nat) : Option (Value × Heap) := evCall Try.prog (XW (tabK b1 r0)) (evC Try.prog (XW (tabK b1 r0)) 400) 5 [.float .f64 0, .bool b1, .float .f64 2] (laidHeap 0 LL)
end
end Go.Proofs.Ytlcojdfgfodphaa.wireCrash
