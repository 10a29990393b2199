/-
  A part of the proof: what the program's functions hand back, as theorems. No condition but those that each theorem names.
-/
import Derived.Test.YtgeakofgklcipaaDoorTa
import Derived.Test.YtgeakofgklcipaaDoorExb
import Derived.Test.YtgeakofgklcipaaDoorExc
set_option linter.unusedSimpArgs false
set_option linter.unusedVariables false
namespace Go.Proofs.YtgeakofgklcipaaDoor
open Go Go.RowKit Go.Ev Go.Dv
noncomputable section
set_option maxRecDepth 100000
variable (G : Nat × Nat)
theorem within2_f (a n : Int) (hn : 0 < n) (hn2 : n < 1000000000000) : jG (pp G) H0 83 [.int .i64 a, .int .i64 n] (.int .i64 (withF a n)) := by
 have hlo : H0.lo ≤ H0.next := Nat.le_refl _; refine jG.cut (jO.fir4 (q := qq) (jQ G) fir83 (by kernel_rfl) rfl rfl (F15_arr ..) (show NGG ≤ H0.lo by rw [qM]; decide) ?_); rw [sd_ir83]
 have h0 : ¬ n = 0 := by omega
 have h1 : ¬ n = -1 := by omega
 have h2 := withF_lt (a := a) hn
 unfold withF at h2 ⊢
 by_cases h : a.tmod n < 0
 ·rw [if_pos h]
  rw [if_pos h] at h2
  have h3 : IntKind.i64.wrap (a.tmod n + n) = a.tmod n + n := W_in (by unfold In; omega)
  simp (disch:=first|omega|(refine id ?_;simp only[push_cast];try omega)) only [push_cast,simprocAttr,h,h0,h1,h3]
  exact .id rfl
 ·rw [if_neg h]
  rw [if_neg h] at h2
  simp (disch:=first|omega|(refine id ?_;simp only[push_cast];try omega)) only [push_cast,simprocAttr,h,h0,h1]
  exact .id rfl
theorem within5_f (a n : Int) (hn : 0 < n) (hn2 : n < 1000000000000) : jG (pp G) H0 27 [.int .i64 a, .int .i64 n] (.int .i64 (withF a n)) := by
 have hlo : H0.lo ≤ H0.next := Nat.le_refl _; refine jG.cut (jO.fir4 (q := qq) (jQ G) fir27 (by kernel_rfl) rfl rfl (F15_arr ..) (show NGG ≤ H0.lo by rw [qM]; decide) ?_); rw [sd_ir27]
 have h0 : ¬ n = 0 := by omega
 have h1 : ¬ n = -1 := by omega
 have h2 := withF_lt (a := a) hn
 unfold withF at h2 ⊢
 by_cases h : a.tmod n < 0
 ·rw [if_pos h]
  rw [if_pos h] at h2
  have h3 : IntKind.i64.wrap (a.tmod n + n) = a.tmod n + n := W_in (by unfold In; omega)
  simp (disch:=first|omega|(refine id ?_;simp only[push_cast];try omega)) only [push_cast,simprocAttr,h,h0,h1,h3]
  exact .id rfl
 ·rw [if_neg h]
  rw [if_neg h] at h2
  simp (disch:=first|omega|(refine id ?_;simp only[push_cast];try omega)) only [push_cast,simprocAttr,h,h0,h1]
  exact .id rfl
end
end Go.Proofs.YtgeakofgklcipaaDoor
