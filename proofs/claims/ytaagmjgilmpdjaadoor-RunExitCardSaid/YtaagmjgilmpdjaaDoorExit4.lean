/-
  Cases of RunExit, each run.
-/
import Derived.Test.YtaagmjgilmpdjaaDoorExitD
namespace Go.Proofs.YtaagmjgilmpdjaaDoor.runExit
open Go Go.RowKit Go.Ev
set_option maxRecDepth 100000
theorem c_4_t_t : okR (runK 4 true true) = true := by kernel_rfl
theorem c_4_t_f : okR (runK 4 true false) = true := by kernel_rfl
theorem c_4_f_t : okR (runK 4 false true) = true := by kernel_rfl
theorem c_4_f_f : okR (runK 4 false false) = true := by kernel_rfl
end Go.Proofs.YtaagmjgilmpdjaaDoor.runExit
