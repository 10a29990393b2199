/-
  Cases of WireCrash, each run.
-/
import Derived.Test.YtlcojdfgfodphaaCrashD
namespace Go.Proofs.Ytlcojdfgfodphaa.wireCrash
open Go Go.RowKit Go.Ev
set_option maxRecDepth 100000
theorem c_t_0 : okR (runK true 0) = true := by kernel_rfl
theorem c_t_1 : okR (runK true 1) = true := by kernel_rfl
theorem c_f_0 : okR (runK false 0) = true := by kernel_rfl
theorem c_f_1 : okR (runK false 1) = true := by kernel_rfl
end Go.Proofs.Ytlcojdfgfodphaa.wireCrash
