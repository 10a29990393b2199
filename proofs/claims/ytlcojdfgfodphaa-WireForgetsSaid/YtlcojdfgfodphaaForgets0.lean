/-
  Cases of WireForgets, each run.
-/
import Derived.Test.YtlcojdfgfodphaaForgetsD
namespace Go.Proofs.Ytlcojdfgfodphaa.wireForgets
open Go Go.RowKit Go.Ev
set_option maxRecDepth 100000
theorem c_0_t : okR (runK 0 true) = true := by kernel_rfl
theorem c_0_f : okR (runK 0 false) = true := by kernel_rfl
theorem c_1_t : okR (runK 1 true) = true := by kernel_rfl
theorem c_1_f : okR (runK 1 false) = true := by kernel_rfl
theorem c_2_t : okR (runK 2 true) = true := by kernel_rfl
theorem c_2_f : okR (runK 2 false) = true := by kernel_rfl
theorem c_3_t : okR (runK 3 true) = true := by kernel_rfl
theorem c_3_f : okR (runK 3 false) = true := by kernel_rfl
theorem c_4_t : okR (runK 4 true) = true := by kernel_rfl
theorem c_4_f : okR (runK 4 false) = true := by kernel_rfl
theorem c_5_t : okR (runK 5 true) = true := by kernel_rfl
theorem c_5_f : okR (runK 5 false) = true := by kernel_rfl
theorem c_6_t : okR (runK 6 true) = true := by kernel_rfl
theorem c_6_f : okR (runK 6 false) = true := by kernel_rfl
theorem c_7_t : okR (runK 7 true) = true := by kernel_rfl
theorem c_7_f : okR (runK 7 false) = true := by kernel_rfl
theorem c_8_t : okR (runK 8 true) = true := by kernel_rfl
theorem c_8_f : okR (runK 8 false) = true := by kernel_rfl
theorem c_9_t : okR (runK 9 true) = true := by kernel_rfl
theorem c_9_f : okR (runK 9 false) = true := by kernel_rfl
end Go.Proofs.Ytlcojdfgfodphaa.wireForgets
