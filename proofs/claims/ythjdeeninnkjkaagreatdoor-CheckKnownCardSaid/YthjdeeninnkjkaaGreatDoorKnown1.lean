/-
  Cases of CheckKnown, each run.
-/
import Derived.Test.YthjdeeninnkjkaaGreatDoorKnownD
namespace Go.Proofs.YthjdeeninnkjkaaGreatDoor.checkKnown
open Go Go.RowKit Go.Ev
set_option maxRecDepth 100000
theorem c_4 : okR (runK 4) = true := by kernel_rfl
theorem c_5 : okR (runK 5) = true := by kernel_rfl
theorem c_6 : okR (runK 6) = true := by kernel_rfl
end Go.Proofs.YthjdeeninnkjkaaGreatDoor.checkKnown
