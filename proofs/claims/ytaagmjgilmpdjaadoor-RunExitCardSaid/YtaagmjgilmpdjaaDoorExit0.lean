/-
  Cases of RunExit, each run.
-/
import Derived.Test.YtaagmjgilmpdjaaDoorExitD
namespace Go.Proofs.YtaagmjgilmpdjaaDoor.runExit
open Go Go.RowKit Go.Ev
set_option maxRecDepth 100000
theorem c_0_t_t : okR (runK 0 true true) = true := by kernel_rfl
theorem c_0_t_f : okR (runK 0 true false) = true := by kernel_rfl
theorem c_0_f_t : okR (runK 0 false true) = true := by kernel_rfl
theorem c_0_f_f : okR (runK 0 false false) = true := by kernel_rfl
end Go.Proofs.YtaagmjgilmpdjaaDoor.runExit
