/-
  StepsKinds at given residues: what is run.
-/
import Derived.Test.YtndfdknpegogmaaBase
namespace Go.Proofs.Ytndfdknpegogmaa.stepsKinds
open Go Go.RowKit Go.Ev
noncomputable section
def tabK (r0 : Nat) : List (List Value × Value) := [([.float .f64 0, .int .i64 (15 : Nat)], .int .i64 (r0 : Nat))]
def runK (r0 : Nat) : Option (Value × Heap) := evCall Try.prog (XW (tabK r0)) (evC Try.prog (XW (tabK r0)) 400) 4 [.float .f64 0] (laidHeap 0 LL)
end
end Go.Proofs.Ytndfdknpegogmaa.stepsKinds
