/-
  StepsExit at given residues: what is run.
-/
import Derived.Test.YtndfdknpegogmaaBase
namespace Go.Proofs.Ytndfdknpegogmaa.stepsExit
open Go Go.RowKit Go.Ev
set_option linter.unusedVariables false
noncomputable section
def tabK (b0 : Bool) (b1 : Bool) (r0 : Nat) : List (List Value × Value) := [([.float .f64 2, .int .i64 (4 : Nat)], .int .i64 (r0 : Nat))]
def runK (b0 : Bool) (b1 : Bool) (r0 : Nat) : Option (Value × Heap) := evCall Try.prog (XW (tabK b0 b1 r0)) (evC Try.prog (XW (tabK b0 b1 r0)) 400) 3 [.bool b0, .bool b1, .float .f64 2] (laidHeap 0 LL)
end
end Go.Proofs.Ytndfdknpegogmaa.stepsExit
