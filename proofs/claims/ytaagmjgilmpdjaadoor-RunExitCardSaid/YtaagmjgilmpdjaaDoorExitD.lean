/-
  RunExit at given residues: what is run.
-/
import Derived.Test.YtaagmjgilmpdjaaDoorBase
namespace Go.Proofs.YtaagmjgilmpdjaaDoor.runExit
open Go Go.RowKit Go.Ev
set_option linter.unusedVariables false
noncomputable section
def tabK (r0 : Nat) (b1 : Bool) (b2 : Bool) : List (List Value × Value) := [([.float .f64 0, .int .i64 (5 : Nat)], .int .i64 (r0 : Nat))]
def runK (r0 : Nat) (b1 : Bool) (b2 : Bool) : Option (Value × Heap) := evCall Tryd.prog (XW (tabK r0 b1 b2)) (evC Tryd.prog (XW (tabK r0 b1 b2)) 400) 4 [.float .f64 0, .bool b1, .bool b2] (laidHeap 1 LL)
end
end Go.Proofs.YtaagmjgilmpdjaaDoor.runExit
