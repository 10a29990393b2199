/-
  Cases of TextErrs, each run.
-/
import Derived.Test.YtkhbcmmncaedcaaGreatDoorErrsD
namespace Go.Proofs.YtkhbcmmncaedcaaGreatDoor.textErrs
open Go Go.RowKit Go.Ev
set_option maxRecDepth 100000
theorem c_6 : okR (runK 6) = true := by kernel_rfl
theorem c_7 : okR (runK 7) = true := by kernel_rfl
theorem c_8 : okR (runK 8) = true := by kernel_rfl
theorem c_9 : okR (runK 9) = true := by kernel_rfl
theorem c_10 : okR (runK 10) = true := by kernel_rfl
theorem c_11 : okR (runK 11) = true := by kernel_rfl
end Go.Proofs.YtkhbcmmncaedcaaGreatDoor.textErrs
