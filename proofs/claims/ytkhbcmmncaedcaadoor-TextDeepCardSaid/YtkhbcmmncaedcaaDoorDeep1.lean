/-
  Cases of TextDeep, each run.
-/
import Derived.Test.YtkhbcmmncaedcaaDoorDeepD
namespace Go.Proofs.YtkhbcmmncaedcaaDoor.textDeep
open Go Go.RowKit Go.Ev
set_option maxRecDepth 100000
theorem c_8 : okR (runK 8) = true := by kernel_rfl
theorem c_9 : okR (runK 9) = true := by kernel_rfl
theorem c_10 : okR (runK 10) = true := by kernel_rfl
theorem c_11 : okR (runK 11) = true := by kernel_rfl
theorem c_12 : okR (runK 12) = true := by kernel_rfl
theorem c_13 : okR (runK 13) = true := by kernel_rfl
theorem c_14 : okR (runK 14) = true := by kernel_rfl
theorem c_15 : okR (runK 15) = true := by kernel_rfl
end Go.Proofs.YtkhbcmmncaedcaaDoor.textDeep
