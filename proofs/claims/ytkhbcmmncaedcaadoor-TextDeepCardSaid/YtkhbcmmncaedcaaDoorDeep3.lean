/-
  Cases of TextDeep, each run.
-/
import Derived.Test.YtkhbcmmncaedcaaDoorDeepD
namespace Go.Proofs.YtkhbcmmncaedcaaDoor.textDeep
open Go Go.RowKit Go.Ev
set_option maxRecDepth 100000
theorem c_24 : okR (runK 24) = true := by kernel_rfl
theorem c_25 : okR (runK 25) = true := by kernel_rfl
theorem c_26 : okR (runK 26) = true := by kernel_rfl
theorem c_27 : okR (runK 27) = true := by kernel_rfl
theorem c_28 : okR (runK 28) = true := by kernel_rfl
theorem c_29 : okR (runK 29) = true := by kernel_rfl
end Go.Proofs.YtkhbcmmncaedcaaDoor.textDeep
