/-
  StepsKinds: for every number the kind that it picks, alone, has just so many steps.
  Condition: none.
-/
import Derived.Test.YtndfdknpegogmaaRows
import Derived.Test.YtndfdknpegogmaaKinds0
import Derived.ProofKit
import Derived.OpenShut
namespace Go.Proofs.Ytndfdknpegogmaa.stepsKinds
open Go Go.ChangeShapes Go.WideShapes Go.ChangeAt Go.RowKit Go.Ev
set_option linter.unusedVariables false
set_option maxRecDepth 100000
theorem all : ∀ r0 : Nat, r0 < (15) → okR (runK r0) = true
  | 0, _ => c_0
  | 1, _ => c_1
  | 2, _ => c_2
  | 3, _ => c_3
  | 4, _ => c_4
  | 5, _ => c_5
  | 6, _ => c_6
  | 7, _ => c_7
  | 8, _ => c_8
  | 9, _ => c_9
  | 10, _ => c_10
  | 11, _ => c_11
  | 12, _ => c_12
  | 13, _ => c_13
  | 14, _ => c_14
  | n + 15, h => by omega
def sgK (a0 : Int) : Nat → Int := fun i => if i = 0 then a0 else 0
theorem walk (a0 : Int) (w0 : (Lit.int .i64 a0).wf = true) (w : World) (hw : LaidW 0 LL w) :
    Calls Try.prog 4 #[.int .i64 a0] w fun e w' => e = .returned (.bool true) ∧ Below w.heap.size w w' := by
  obtain ⟨r0, hr0, lr0⟩ := Wi_nat a0 (15) (by omega)
  have hev := all r0 lr0
  have h := calls_fin (X := XW (tabK r0)) (N := 400) (args := [.float .f64 0]) (v := .bool true) (sg := sgK a0) (tg := fun _ => .empty) funcs_ok' mixed (fun B => XW_sound (List.forall_mem_cons.2 ⟨row_ok (sg := sgK a0) (i := 0) hr0 (by omega) (by omega), (fun x hx => by cases hx)⟩)) LL_ok Try.func4 rfl rfl (okR_eq hev) rfl rfl w hw
  have hc : (⟨[.float .f64 0].map (con0 (sgK a0) (fun _ => .empty))⟩ : Array Value) = #[.int .i64 a0] := by simp [con0, con, sgK]
  rw [hc] at h
  exact h
theorem own : ownKnob Try.prog.godebug = none := by kernel_rfl
theorem laidW (w : World) : LaidW 0 LL w := ⟨Nat.zero_le _, fun x hx => by cases hx⟩
set_option maxRecDepth 100000 in
theorem lifted (os : Os) (started : os.Started) (H : Type) (enc : TypeId × Value → H) :
    ReturnsInHanded {} Try.checked os 4 .any (Rows.stepsKindsSpec.pre6 enc Try.prog Try.f4 Rows.stepsKindsRow.domain false) (Rows.stepsKindsSpec.post enc Try.prog Try.f4 false true false false) := by
  refine returnsInHanded_of_change (C := Try.checked) own started (by kernel_rfl) Try.func4
    (ChangeSpec.witness6 (enc := enc) (C := Try.checked) false ⟨#[], #[.int .i64 0], []⟩ 8 (by kernel_rfl) (by kernel_rfl) (by kernel_rfl) (by kernel_rfl)) ?_
  intro W base args ds gs before hval0 hW hcnd _
  have hval : ∀ (j : Nat) t v, Try.f4.params[j]? = some t → args[j]? = some v → Value.okWide Try.prog W .any base t v := hval0
  have hW' := hW
  obtain ⟨p, q, hA0, hV, rfl, hfz, hnd⟩ := hW
  have hA : DataW.TrodAll enc Try.prog W 0 (fun _ => true) true Try.f4.params.toList args.toList ds p := hA0
  rw [Try.params4] at hA hval
  obtain ⟨v0, vs0, d0, ds0, p0, q0, hargs, rfl, rfl, h0, r0⟩ := trodAll_cons hA
  obtain ⟨rfl, rfl, rfl⟩ := trodAll_nil r0
  obtain rfl : args = #[v0] := by cases args; simp_all
  obtain ⟨rfl, rfl⟩ := trodVars_none hV
  obtain ⟨a0, rfl, rfl, rfl, w0⟩ := open_int Try.underlying3 (hval 0 3 v0 rfl rfl) h0
  clear hA0 hval0
  simp only [List.append_nil] at hW'
  refine (walk a0 w0 W (laidW W)).mono fun e W' ⟨he, bel⟩ => ?_
  subst he
  exact ⟨_, rfl, _, _, _, [], _, [], hW', trodAll_mk1 (shut_bool Try.underlying4 _), (trodAll_cons_mk (shut_int Try.underlying3 w0) trodAll_mk0), rfl, bel.frame _, fun h => by cases h⟩

theorem over : Rows.stepsKindsRow.holds Try.pinned (OpenSpec.ofChange Rows.stepsKindsSpec) :=
  OpenClaim.holds_of_wide 4 Try.f4 rfl rfl rfl rfl rfl rfl rfl ⟨rfl, rfl, rfl, rfl, rfl⟩ rfl rfl rfl rfl rfl (by kernel_rfl) Try.func4 (by kernel_rfl)
    (of_decide_eq_true (by kernel_rfl)) (by unfold Func.isWrapper; first | (rw [if_pos (by decide +kernel)]; kernel_rfl) | (rw [if_neg (by decide +kernel)]; exact ⟨rfl, rfl⟩))
    (fun os started H enc _ => lifted os started H enc)

theorem proved : Rows.StepsKindsSaid :=
  over

end Go.Proofs.Ytndfdknpegogmaa.stepsKinds
