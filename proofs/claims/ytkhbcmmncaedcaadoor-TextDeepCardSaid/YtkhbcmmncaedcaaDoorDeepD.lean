/-
  TextDeep at given residues: what is run.
-/
import Derived.Test.YtkhbcmmncaedcaaDoorBase
namespace Go.Proofs.YtkhbcmmncaedcaaDoor.textDeep
open Go Go.RowKit Go.Ev
noncomputable section
def tabK (r0 : Nat) : List (List Value × Value) := [([.float .f64 0, .int .i64 (30 : Nat)], .int .i64 (r0 : Nat))]
def runK (r0 : Nat) : Option (Value × Heap) := evCall Tryd.prog (XW (tabK r0)) (evC Tryd.prog (XW (tabK r0)) 400) 4 [.float .f64 0] (laidHeap 7 LL)
end
end Go.Proofs.YtkhbcmmncaedcaaDoor.textDeep
