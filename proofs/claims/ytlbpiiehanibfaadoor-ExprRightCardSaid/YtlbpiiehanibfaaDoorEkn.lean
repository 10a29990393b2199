/-
  What other texts of this seat take: the function 'within' at any number, 'known', the functions without a body. No condition but those that each theorem names.
-/
import Derived.Test.YtlbpiiehanibfaaDoorEwb
import Derived.Test.YtlbpiiehanibfaaDoorEvd
import Derived.Test.YtlbpiiehanibfaaDoorExa
import Derived.Test.YtlbpiiehanibfaaDoorProg
import Derived.KernelRfl
import Derived.WalkKit
import Derived.WalkSpells
set_option linter.unusedSimpArgs false
set_option linter.unusedVariables false
namespace Go.Proofs.YtlbpiiehanibfaaDoor.kn
open Go Go.RowKit Go.Ew
set_option maxRecDepth 100000
noncomputable section
theorem funcs_ok : Tryd.prog.funcs.all (okFunc 6) = true := by kernel_rfl
theorem mixed : Tryd.prog.follows .mixedOrders = true := by kernel_rfl
theorem funcs_ok' (g : Nat) (fn : Func) (h : Tryd.prog.funcs[g]? = some fn) : okFunc 6 fn = true := by
 have := funcs_ok
 rw [Array.all_eq_true_iff_forall_mem] at this
 exact this fn (Array.mem_of_getElem? h)
theorem LL_ok : okPl 6 LL = true := by kernel_rfl
theorem same_run (y : Value) (w : World) : (callFunc 75 #[y]).run Tryd.prog w = .ok (.value y) w := by
 have hf : Tryd.prog.funcs[75]? = some Tryd.f75 := rfl
 have hname0 : (Tryd.f75.name == "runtime.NumGoroutine") = false := by kernel_rfl
 have hname : ¬ Tryd.f75.name = "runtime.NumGoroutine" := by simpa using hname0
 have hb : Tryd.f75.body = none := by kernel_rfl
 have hn : Extern.findNext Tryd.f75 = none := by kernel_rfl
 have he : Extern.find Tryd.f75 = some Extern.AbiNoEscape.same := by kernel_rfl
 have hs : Extern.AbiNoEscape.same #[y] = pure y := rfl
 simp [callFunc, hf, hname, hb, hn, he, hs]
def X0 : Ext := orX (sameX 75) (noX)
theorem X0_sound (sg : Nat → Int) (tg : Nat → ByteArray) (B : Nat → Prop) : SoundX ⟨Tryd.prog, 6, 6, B, sg, tg⟩ X0 := orX_sound (sameX_sound same_run) (noX_sound _)
theorem known_ev : (evCall Tryd.prog X0 (evC Tryd.prog X0 400) 13 [] (laidHeap 6 LL)).map (·.1) = some (.bool true) := by kernel_rfl
theorem known_calls (w : World) (hw : LaidW 6 LL w) : Calls Tryd.prog 13 #[] w fun e w' => e = .returned (.bool true) ∧ Below w.heap.size w w' := by
 have h := calls_fin (X := X0) (N := 400) (args := []) (v := .bool true) funcs_ok' mixed (X0_sound (fun _ => 0) (fun _ => .empty)) LL_ok Tryd.func13 rfl rfl known_ev rfl rfl w hw
 simpa using h
end
end Go.Proofs.YtlbpiiehanibfaaDoor.kn
namespace Go.Proofs.YtlbpiiehanibfaaDoor
open Go Go.RowKit Go.Ev Go.Dv
theorem known_f (G : Nat × Nat) : jF (pp G) H0 13 [] (.bool true) :=
 jF.of_known (qD G) Tryd.func13 rfl rfl (fun x hx => by
  simp only [LL, List.mem_cons, List.not_mem_nil, or_false] at hx
  subst hx
  exact ⟨rfl, rfl, by show (0 : Nat) < 6; omega, by show (0 : Nat) < 6; omega⟩) fun w hsz hl => kn.known_calls w ⟨hsz, fun x hx => ⟨by
  simp only [LL, List.mem_cons, List.not_mem_nil, or_false] at hx
  subst hx
  show (0 : Nat) < 6
  omega, hl x hx⟩⟩
end Go.Proofs.YtlbpiiehanibfaaDoor
