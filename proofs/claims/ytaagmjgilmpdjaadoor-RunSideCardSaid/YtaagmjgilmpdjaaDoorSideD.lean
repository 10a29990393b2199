/-
  RunSide at given residues: what is run.
-/
import Derived.Test.YtaagmjgilmpdjaaDoorBase
namespace Go.Proofs.YtaagmjgilmpdjaaDoor.runSide
open Go Go.RowKit Go.Ev
set_option linter.unusedVariables false
noncomputable section
def tabK (r0 : Nat) (r1 : Nat) (r2 : Nat) : List (List Value × Value) := [([.float .f64 0, .int .i64 (4 : Nat)], .int .i64 (r0 : Nat)), ([.float .f64 1, .int .i64 (2 : Nat)], .int .i64 (r1 : Nat)), ([.float .f64 1001, .int .i64 (3 : Nat)], .int .i64 (r2 : Nat))]
def runK (r0 : Nat) (r1 : Nat) (r2 : Nat) : Option (Value × Heap) := evCall Tryd.prog (XW (tabK r0 r1 r2)) (evC Tryd.prog (XW (tabK r0 r1 r2)) 400) 5 [.float .f64 0, .float .f64 1] (laidHeap 1 LL)
end
end Go.Proofs.YtaagmjgilmpdjaaDoor.runSide
