/-
  Cases of StepsExit, each run.
-/
import Derived.Test.YtndfdknpegogmaaExitD
namespace Go.Proofs.Ytndfdknpegogmaa.stepsExit
open Go Go.RowKit Go.Ev
set_option maxRecDepth 100000
theorem c_t_f_0 : okR (runK true false 0) = true := by kernel_rfl
theorem c_t_f_1 : okR (runK true false 1) = true := by kernel_rfl
theorem c_t_f_2 : okR (runK true false 2) = true := by kernel_rfl
theorem c_t_f_3 : okR (runK true false 3) = true := by kernel_rfl
end Go.Proofs.Ytndfdknpegogmaa.stepsExit
