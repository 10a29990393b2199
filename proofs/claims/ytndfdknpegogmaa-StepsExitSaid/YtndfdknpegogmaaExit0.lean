/-
  Cases of StepsExit, each run.
-/
import Derived.Test.YtndfdknpegogmaaExitD
namespace Go.Proofs.Ytndfdknpegogmaa.stepsExit
open Go Go.RowKit Go.Ev
set_option maxRecDepth 100000
theorem c_t_t_0 : okR (runK true true 0) = true := by kernel_rfl
theorem c_t_t_1 : okR (runK true true 1) = true := by kernel_rfl
theorem c_t_t_2 : okR (runK true true 2) = true := by kernel_rfl
theorem c_t_t_3 : okR (runK true true 3) = true := by kernel_rfl
end Go.Proofs.Ytndfdknpegogmaa.stepsExit
