/-
  A part of the proof: conditions over an abstract memory, and that they are enough for what the model's calls do. No condition of its own.
-/
import Derived.Test.YtlbpiiehanibfaaDoorEvd
set_option linter.unusedSimpArgs false
set_option linter.unusedVariables false
namespace Go.Dv
open Go Go.RowKit Go.Ev
noncomputable section
def orB (a b : Bool) : Bool := match a with | true => true | false => b
theorem orB_t (b : Bool) : orB true b = true := rfl
theorem orB_f (b : Bool) : orB false b = b := rfl
theorem memN_c (i x : Nat) (l : List Nat) : memN i (x :: l) = orB (decide (i = x)) (memN i l) := by
 by_cases h : i = x
 ·rw [memN_t h, decide_eq_true h]; rfl
 ·rw [memN_f h, decide_eq_false h]; rfl
attribute [push_cast] orB_t orB_f memN_c
section
variable {p : Par} {H : Heap}
end
def flt (p : Nat → Bool) : Tr → Tr
 | .nil => .nil
 | .node l v r => .node (flt (fun k => p (2 * k + 1)) l) (if p 0 then v else none) (flt (fun k => p (2 * k + 2)) r)
def hflt (p : Nat → Bool) (σ : Heap) : Heap := ⟨flt p σ.t, σ.next, σ.lo⟩
theorem hflt_next (p : Nat → Bool) (σ : Heap) : (hflt p σ).next = σ.next := rfl
theorem hflt_lo (p : Nat → Bool) (σ : Heap) : (hflt p σ).lo = σ.lo := rfl
attribute [push_cast] hflt_next hflt_lo
section
variable {p : Par} {H : Heap}
end
section
variable {p : Par} {H : Heap}
end
section
variable {p : Par} {H : Heap}
theorem jA.dataI {f : FuncId} {args : List Value} {σ : Heap} {d : Value} {K : Bool → Value → Heap → Prop} (hc : jC p H f args d) (hz : scL H.next args = true ∧ scL σ.lo args = true ∧ sc σ.lo d = true) (hK : K true d σ) :
  jA p H (.func (.func f) ⟨[]⟩ ⟨[]⟩) args σ K :=
 jA.data (cap := []) hc (by rw [List.append_nil]; exact FzL.ids hz.1) (by rw [List.append_nil]; exact hz.2.1) hz.2.2 hK
end
section
variable {p : Par} {H : Heap}
end
section
variable {P : Program} {n : Nat} {L : List (Nat × List Value)} {w : World}
end
end
end Go.Dv
