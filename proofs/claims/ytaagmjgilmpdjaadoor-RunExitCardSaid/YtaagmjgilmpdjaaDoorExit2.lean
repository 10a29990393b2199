/-
  Cases of RunExit, each run.
-/
import Derived.Test.YtaagmjgilmpdjaaDoorExitD
namespace Go.Proofs.YtaagmjgilmpdjaaDoor.runExit
open Go Go.RowKit Go.Ev
set_option maxRecDepth 100000
theorem c_2_t_t : okR (runK 2 true true) = true := by kernel_rfl
theorem c_2_t_f : okR (runK 2 true false) = true := by kernel_rfl
theorem c_2_f_t : okR (runK 2 false true) = true := by kernel_rfl
theorem c_2_f_f : okR (runK 2 false false) = true := by kernel_rfl
end Go.Proofs.YtaagmjgilmpdjaaDoor.runExit
