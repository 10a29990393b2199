/-
  CheckKnown at given residues: what is run.
-/
import Derived.Test.YthjdeeninnkjkaaGreatDoorBase
namespace Go.Proofs.YthjdeeninnkjkaaGreatDoor.checkKnown
open Go Go.RowKit Go.Ev
set_option linter.unusedVariables false
noncomputable section
def tabK (r0 : Nat) : List (List Value × Value) := [([.float .f64 0, .int .i64 (7 : Nat)], .int .i64 (r0 : Nat))]
def runK (r0 : Nat) : Option (Value × Heap) := evCall Tryz.prog (XW (tabK r0)) (evC Tryz.prog (XW (tabK r0)) 400) 4 [.float .f64 0] (laidHeap 7 LL)
end
end Go.Proofs.YthjdeeninnkjkaaGreatDoor.checkKnown
