/-
  Cases of WireForgets, each run.
-/
import Derived.Test.YtlcojdfgfodphaaForgetsD
namespace Go.Proofs.Ytlcojdfgfodphaa.wireForgets
open Go Go.RowKit Go.Ev
set_option maxRecDepth 100000
theorem c_10_t : okR (runK 10 true) = true := by kernel_rfl
theorem c_10_f : okR (runK 10 false) = true := by kernel_rfl
theorem c_11_t : okR (runK 11 true) = true := by kernel_rfl
theorem c_11_f : okR (runK 11 false) = true := by kernel_rfl
theorem c_12_t : okR (runK 12 true) = true := by kernel_rfl
theorem c_12_f : okR (runK 12 false) = true := by kernel_rfl
theorem c_13_t : okR (runK 13 true) = true := by kernel_rfl
theorem c_13_f : okR (runK 13 false) = true := by kernel_rfl
theorem c_14_t : okR (runK 14 true) = true := by kernel_rfl
theorem c_14_f : okR (runK 14 false) = true := by kernel_rfl
theorem c_15_t : okR (runK 15 true) = true := by kernel_rfl
theorem c_15_f : okR (runK 15 false) = true := by kernel_rfl
theorem c_16_t : okR (runK 16 true) = true := by kernel_rfl
theorem c_16_f : okR (runK 16 false) = true := by kernel_rfl
theorem c_17_t : okR (runK 17 true) = true := by kernel_rfl
theorem c_17_f : okR (runK 17 false) = true := by kernel_rfl
theorem c_18_t : okR (runK 18 true) = true := by kernel_rfl
theorem c_18_f : okR (runK 18 false) = true := by kernel_rfl
theorem c_19_t : okR (runK 19 true) = true := by kernel_rfl
theorem c_19_f : okR (runK 19 false) = true := by kernel_rfl
end Go.Proofs.Ytlcojdfgfodphaa.wireForgets
