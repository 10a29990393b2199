/-
  WireLost at given residues: what is run.
-/
import Derived.Test.YtlcojdfgfodphaaBase
namespace Go.Proofs.Ytlcojdfgfodphaa.wireLost
open Go Go.RowKit Go.Ev
set_option linter.unusedVariables false
noncomputable section
def tabK (r0 : Nat) : List (List Value × Value) := [([.float .f64 2, .int .i64 (6 : Nat)], .int .i64 (r0 : Nat))]
def runK (r0 : Nat) : Option (Value × Heap) := evCall Try.prog (XW (tabK r0)) (evC Try.prog (XW (tabK r0)) 400) 4 [.float .f64 0, .float .f64 1, .float .f64 2] (laidHeap 0 LL)
end
end Go.Proofs.Ytlcojdfgfodphaa.wireLost
