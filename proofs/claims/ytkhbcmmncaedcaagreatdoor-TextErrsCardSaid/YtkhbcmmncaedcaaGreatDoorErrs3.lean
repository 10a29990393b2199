/-
  Cases of TextErrs, each run.
-/
import Derived.Test.YtkhbcmmncaedcaaGreatDoorErrsD
namespace Go.Proofs.YtkhbcmmncaedcaaGreatDoor.textErrs
open Go Go.RowKit Go.Ev
set_option maxRecDepth 100000
theorem c_18 : okR (runK 18) = true := by kernel_rfl
theorem c_19 : okR (runK 19) = true := by kernel_rfl
theorem c_20 : okR (runK 20) = true := by kernel_rfl
theorem c_21 : okR (runK 21) = true := by kernel_rfl
end Go.Proofs.YtkhbcmmncaedcaaGreatDoor.textErrs
