/-
  Cases of StepsExit, each run.
-/
import Derived.Test.YtndfdknpegogmaaExitD
namespace Go.Proofs.Ytndfdknpegogmaa.stepsExit
open Go Go.RowKit Go.Ev
set_option maxRecDepth 100000
theorem c_f_f_0 : okR (runK false false 0) = true := by kernel_rfl
theorem c_f_f_1 : okR (runK false false 1) = true := by kernel_rfl
theorem c_f_f_2 : okR (runK false false 2) = true := by kernel_rfl
theorem c_f_f_3 : okR (runK false false 3) = true := by kernel_rfl
end Go.Proofs.Ytndfdknpegogmaa.stepsExit
