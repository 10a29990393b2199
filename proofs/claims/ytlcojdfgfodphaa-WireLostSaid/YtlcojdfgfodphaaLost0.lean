/-
  Cases of WireLost, each run.
-/
import Derived.Test.YtlcojdfgfodphaaLostD
namespace Go.Proofs.Ytlcojdfgfodphaa.wireLost
open Go Go.RowKit Go.Ev
set_option maxRecDepth 100000
theorem c_0 : okR (runK 0) = true := by kernel_rfl
theorem c_1 : okR (runK 1) = true := by kernel_rfl
theorem c_2 : okR (runK 2) = true := by kernel_rfl
theorem c_3 : okR (runK 3) = true := by kernel_rfl
theorem c_4 : okR (runK 4) = true := by kernel_rfl
theorem c_5 : okR (runK 5) = true := by kernel_rfl
end Go.Proofs.Ytlcojdfgfodphaa.wireLost
