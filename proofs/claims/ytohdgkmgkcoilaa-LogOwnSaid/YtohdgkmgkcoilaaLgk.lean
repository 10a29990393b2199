/-
  A part of the proof: what the program's functions hand back, as theorems. No condition but those that each theorem names.
-/
import Derived.Test.YtohdgkmgkcoilaaLga
import Derived.Test.YtohdgkmgkcoilaaEwb
set_option linter.unusedSimpArgs false
set_option linter.unusedVariables false
namespace Go.Proofs.Ytohdgkmgkcoilaa.kn
open Go Go.RowKit Go.Ew
set_option maxRecDepth 100000
noncomputable section
theorem funcs_ok : Try.prog.funcs.all (okFunc 0) = true := by kernel_rfl
theorem funcs_ok' (g : Nat) (fn : Func) (h : Try.prog.funcs[g]? = some fn) : okFunc 0 fn = true := by
  have := funcs_ok
  rw [Array.all_eq_true_iff_forall_mem] at this
  exact this fn (Array.mem_of_getElem? h)
theorem known_ev : (evCall Try.prog noX (evC Try.prog noX 400) 13 [] (laidHeap 0 [])).map (·.1) = some (.bool true) := by kernel_rfl
theorem laidW (w : World) : LaidW 0 [] w := ⟨Nat.zero_le _, fun x hx => by cases hx⟩
theorem known_calls (w : World) : Calls Try.prog 13 #[] w fun e w' => e = .returned (.bool true) ∧ Go.RowKit.Below w.heap.size w w' := by
  have h := calls_fin (P := Try.prog) (X := noX) (sg := fun _ => 0) (tg := fun _ => .empty) (N := 400) (args := []) (v := .bool true) funcs_ok' Go.Proofs.Ytohdgkmgkcoilaa.mixed (fun B => noX_sound _) rfl Try.func13 rfl rfl known_ev rfl rfl w (laidW w)
  simpa using h
end
end Go.Proofs.Ytohdgkmgkcoilaa.kn
namespace Go.Proofs.Ytohdgkmgkcoilaa
open Go Go.RowKit Go.Ev
theorem known_w (G : Nat) (h : Heap) : CallE (pp G) 13 [] h (fun v h' => v = .bool true ∧ h' = h) :=
  CallE.of_calls (good G) Try.func13 rfl rfl rfl kn.known_calls
end Go.Proofs.Ytohdgkmgkcoilaa
