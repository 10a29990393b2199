/-
  Cases of WireForgets, each run.
-/
import Derived.Test.YtlcojdfgfodphaaForgetsD
namespace Go.Proofs.Ytlcojdfgfodphaa.wireForgets
open Go Go.RowKit Go.Ev
set_option maxRecDepth 100000
theorem c_20_t : okR (runK 20 true) = true := by kernel_rfl
theorem c_20_f : okR (runK 20 false) = true := by kernel_rfl
theorem c_21_t : okR (runK 21 true) = true := by kernel_rfl
theorem c_21_f : okR (runK 21 false) = true := by kernel_rfl
theorem c_22_t : okR (runK 22 true) = true := by kernel_rfl
theorem c_22_f : okR (runK 22 false) = true := by kernel_rfl
theorem c_23_t : okR (runK 23 true) = true := by kernel_rfl
theorem c_23_f : okR (runK 23 false) = true := by kernel_rfl
theorem c_24_t : okR (runK 24 true) = true := by kernel_rfl
theorem c_24_f : okR (runK 24 false) = true := by kernel_rfl
theorem c_25_t : okR (runK 25 true) = true := by kernel_rfl
theorem c_25_f : okR (runK 25 false) = true := by kernel_rfl
theorem c_26_t : okR (runK 26 true) = true := by kernel_rfl
theorem c_26_f : okR (runK 26 false) = true := by kernel_rfl
theorem c_27_t : okR (runK 27 true) = true := by kernel_rfl
theorem c_27_f : okR (runK 27 false) = true := by kernel_rfl
theorem c_28_t : okR (runK 28 true) = true := by kernel_rfl
theorem c_28_f : okR (runK 28 false) = true := by kernel_rfl
theorem c_29_t : okR (runK 29 true) = true := by kernel_rfl
theorem c_29_f : okR (runK 29 false) = true := by kernel_rfl
end Go.Proofs.Ytlcojdfgfodphaa.wireForgets
