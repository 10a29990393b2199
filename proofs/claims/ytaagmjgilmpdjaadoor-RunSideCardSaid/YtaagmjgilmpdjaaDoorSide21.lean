/-
  Cases of RunSide, each run.
-/
import Derived.Test.YtaagmjgilmpdjaaDoorSideD
namespace Go.Proofs.YtaagmjgilmpdjaaDoor.runSide
open Go Go.RowKit Go.Ev
set_option maxRecDepth 100000
theorem c_3_1_0 : okR (runK 3 1 0) = true := by kernel_rfl
end Go.Proofs.YtaagmjgilmpdjaaDoor.runSide
