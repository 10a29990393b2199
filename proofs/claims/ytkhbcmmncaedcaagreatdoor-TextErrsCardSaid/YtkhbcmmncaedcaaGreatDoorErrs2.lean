/-
  Cases of TextErrs, each run.
-/
import Derived.Test.YtkhbcmmncaedcaaGreatDoorErrsD
namespace Go.Proofs.YtkhbcmmncaedcaaGreatDoor.textErrs
open Go Go.RowKit Go.Ev
set_option maxRecDepth 100000
theorem c_12 : okR (runK 12) = true := by kernel_rfl
theorem c_13 : okR (runK 13) = true := by kernel_rfl
theorem c_14 : okR (runK 14) = true := by kernel_rfl
theorem c_15 : okR (runK 15) = true := by kernel_rfl
theorem c_16 : okR (runK 16) = true := by kernel_rfl
theorem c_17 : okR (runK 17) = true := by kernel_rfl
end Go.Proofs.YtkhbcmmncaedcaaGreatDoor.textErrs
