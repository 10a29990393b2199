/-
  Cases of TextDeep, each run.
-/
import Derived.Test.YtkhbcmmncaedcaaDoorDeepD
namespace Go.Proofs.YtkhbcmmncaedcaaDoor.textDeep
open Go Go.RowKit Go.Ev
set_option maxRecDepth 100000
theorem c_16 : okR (runK 16) = true := by kernel_rfl
theorem c_17 : okR (runK 17) = true := by kernel_rfl
theorem c_18 : okR (runK 18) = true := by kernel_rfl
theorem c_19 : okR (runK 19) = true := by kernel_rfl
theorem c_20 : okR (runK 20) = true := by kernel_rfl
theorem c_21 : okR (runK 21) = true := by kernel_rfl
theorem c_22 : okR (runK 22) = true := by kernel_rfl
theorem c_23 : okR (runK 23) = true := by kernel_rfl
end Go.Proofs.YtkhbcmmncaedcaaDoor.textDeep
