/-
  WireForgets: whatever the ticks: what is forgotten is not asked again, and what comes back of it is not told; asked anew it is.
  Condition: none.
-/
import Derived.Test.YtlcojdfgfodphaaRows
import Derived.Test.YtlcojdfgfodphaaForgets0
import Derived.Test.YtlcojdfgfodphaaForgets1
import Derived.Test.YtlcojdfgfodphaaForgets2
import Derived.ProofKit
import Derived.OpenShut
namespace Go.Proofs.Ytlcojdfgfodphaa.wireForgets
open Go Go.ChangeShapes Go.WideShapes Go.ChangeAt Go.RowKit Go.Ev
set_option linter.unusedVariables false
set_option maxRecDepth 100000
theorem all_0 : ∀ b1 : Bool, okR (runK 0 b1) = true
  | true => c_0_t
  | false => c_0_f
theorem all_1 : ∀ b1 : Bool, okR (runK 1 b1) = true
  | true => c_1_t
  | false => c_1_f
theorem all_2 : ∀ b1 : Bool, okR (runK 2 b1) = true
  | true => c_2_t
  | false => c_2_f
theorem all_3 : ∀ b1 : Bool, okR (runK 3 b1) = true
  | true => c_3_t
  | false => c_3_f
theorem all_4 : ∀ b1 : Bool, okR (runK 4 b1) = true
  | true => c_4_t
  | false => c_4_f
theorem all_5 : ∀ b1 : Bool, okR (runK 5 b1) = true
  | true => c_5_t
  | false => c_5_f
theorem all_6 : ∀ b1 : Bool, okR (runK 6 b1) = true
  | true => c_6_t
  | false => c_6_f
theorem all_7 : ∀ b1 : Bool, okR (runK 7 b1) = true
  | true => c_7_t
  | false => c_7_f
theorem all_8 : ∀ b1 : Bool, okR (runK 8 b1) = true
  | true => c_8_t
  | false => c_8_f
theorem all_9 : ∀ b1 : Bool, okR (runK 9 b1) = true
  | true => c_9_t
  | false => c_9_f
theorem all_10 : ∀ b1 : Bool, okR (runK 10 b1) = true
  | true => c_10_t
  | false => c_10_f
theorem all_11 : ∀ b1 : Bool, okR (runK 11 b1) = true
  | true => c_11_t
  | false => c_11_f
theorem all_12 : ∀ b1 : Bool, okR (runK 12 b1) = true
  | true => c_12_t
  | false => c_12_f
theorem all_13 : ∀ b1 : Bool, okR (runK 13 b1) = true
  | true => c_13_t
  | false => c_13_f
theorem all_14 : ∀ b1 : Bool, okR (runK 14 b1) = true
  | true => c_14_t
  | false => c_14_f
theorem all_15 : ∀ b1 : Bool, okR (runK 15 b1) = true
  | true => c_15_t
  | false => c_15_f
theorem all_16 : ∀ b1 : Bool, okR (runK 16 b1) = true
  | true => c_16_t
  | false => c_16_f
theorem all_17 : ∀ b1 : Bool, okR (runK 17 b1) = true
  | true => c_17_t
  | false => c_17_f
theorem all_18 : ∀ b1 : Bool, okR (runK 18 b1) = true
  | true => c_18_t
  | false => c_18_f
theorem all_19 : ∀ b1 : Bool, okR (runK 19 b1) = true
  | true => c_19_t
  | false => c_19_f
theorem all_20 : ∀ b1 : Bool, okR (runK 20 b1) = true
  | true => c_20_t
  | false => c_20_f
theorem all_21 : ∀ b1 : Bool, okR (runK 21 b1) = true
  | true => c_21_t
  | false => c_21_f
theorem all_22 : ∀ b1 : Bool, okR (runK 22 b1) = true
  | true => c_22_t
  | false => c_22_f
theorem all_23 : ∀ b1 : Bool, okR (runK 23 b1) = true
  | true => c_23_t
  | false => c_23_f
theorem all_24 : ∀ b1 : Bool, okR (runK 24 b1) = true
  | true => c_24_t
  | false => c_24_f
theorem all_25 : ∀ b1 : Bool, okR (runK 25 b1) = true
  | true => c_25_t
  | false => c_25_f
theorem all_26 : ∀ b1 : Bool, okR (runK 26 b1) = true
  | true => c_26_t
  | false => c_26_f
theorem all_27 : ∀ b1 : Bool, okR (runK 27 b1) = true
  | true => c_27_t
  | false => c_27_f
theorem all_28 : ∀ b1 : Bool, okR (runK 28 b1) = true
  | true => c_28_t
  | false => c_28_f
theorem all_29 : ∀ b1 : Bool, okR (runK 29 b1) = true
  | true => c_29_t
  | false => c_29_f
theorem all : ∀ r0 : Nat, r0 < (30) → ∀ b1 : Bool, okR (runK r0 b1) = true
  | 0, _ => all_0
  | 1, _ => all_1
  | 2, _ => all_2
  | 3, _ => all_3
  | 4, _ => all_4
  | 5, _ => all_5
  | 6, _ => all_6
  | 7, _ => all_7
  | 8, _ => all_8
  | 9, _ => all_9
  | 10, _ => all_10
  | 11, _ => all_11
  | 12, _ => all_12
  | 13, _ => all_13
  | 14, _ => all_14
  | 15, _ => all_15
  | 16, _ => all_16
  | 17, _ => all_17
  | 18, _ => all_18
  | 19, _ => all_19
  | 20, _ => all_20
  | 21, _ => all_21
  | 22, _ => all_22
  | 23, _ => all_23
  | 24, _ => all_24
  | 25, _ => all_25
  | 26, _ => all_26
  | 27, _ => all_27
  | 28, _ => all_28
  | 29, _ => all_29
  | n + 30, h => by omega
def sgK (a0 : Int) : Nat → Int := fun i => if i = 0 then a0 else 0
theorem walk (a0 : Int) (a1 : Bool) (w0 : (Lit.int .i64 a0).wf = true) (w : World) (hw : LaidW 0 LL w) :
    Calls Try.prog 6 #[.int .i64 a0, .bool a1] w fun e w' => e = .returned (.bool true) ∧ Below w.heap.size w w' := by
  obtain ⟨r0, hr0, lr0⟩ := Wi_nat a0 (30) (by omega)
  have hev := all r0 lr0 a1
  have h := calls_fin (X := XW (tabK r0 a1)) (N := 400) (args := [.float .f64 0, .bool a1]) (v := .bool true) (sg := sgK a0) (tg := fun _ => .empty) funcs_ok' mixed (fun B => XW_sound (List.forall_mem_cons.2 ⟨row_ok (sg := sgK a0) (i := 0) hr0 (by omega) (by omega), (fun x hx => by cases hx)⟩)) LL_ok Try.func6 rfl rfl (okR_eq hev) rfl rfl w hw
  have hc : (⟨[.float .f64 0, .bool a1].map (con0 (sgK a0) (fun _ => .empty))⟩ : Array Value) = #[.int .i64 a0, .bool a1] := by simp [con0, con, sgK]
  rw [hc] at h
  exact h
theorem own : ownKnob Try.prog.godebug = none := by kernel_rfl
theorem laidW (w : World) : LaidW 0 LL w := ⟨Nat.zero_le _, fun x hx => by cases hx⟩
set_option maxRecDepth 100000 in
theorem lifted (os : Os) (started : os.Started) (H : Type) (enc : TypeId × Value → H) :
    ReturnsInHanded {} Try.checked os 6 .any (Rows.wireForgetsSpec.pre6 enc Try.prog Try.f6 Rows.wireForgetsRow.domain false) (Rows.wireForgetsSpec.post enc Try.prog Try.f6 false true false false) := by
  refine returnsInHanded_of_change (C := Try.checked) own started (by kernel_rfl) Try.func6
    (ChangeSpec.witness6 (enc := enc) (C := Try.checked) false ⟨#[], #[.int .i64 0, .bool false], []⟩ 8 (by kernel_rfl) (by kernel_rfl) (by kernel_rfl) (by kernel_rfl)) ?_
  intro W base args ds gs before hval0 hW hcnd _
  have hval : ∀ (j : Nat) t v, Try.f6.params[j]? = some t → args[j]? = some v → Value.okWide Try.prog W .any base t v := hval0
  have hW' := hW
  obtain ⟨p, q, hA0, hV, rfl, hfz, hnd⟩ := hW
  have hA : DataW.TrodAll enc Try.prog W 0 (fun _ => true) true Try.f6.params.toList args.toList ds p := hA0
  rw [Try.params6] at hA hval
  obtain ⟨v0, vs0, d0, ds0, p0, q0, hargs, rfl, rfl, h0, r0⟩ := trodAll_cons hA
  obtain ⟨v1, vs1, d1, ds1, p1, q1, rfl, rfl, rfl, h1, r1⟩ := trodAll_cons r0
  obtain ⟨rfl, rfl, rfl⟩ := trodAll_nil r1
  obtain rfl : args = #[v0, v1] := by cases args; simp_all
  obtain ⟨rfl, rfl⟩ := trodVars_none hV
  obtain ⟨a0, rfl, rfl, rfl, w0⟩ := open_int Try.underlying3 (hval 0 3 v0 rfl rfl) h0
  obtain ⟨a1, rfl, rfl, rfl⟩ := open_bool Try.underlying4 (hval 1 4 v1 rfl rfl) h1
  clear hA0 hval0
  simp only [List.append_nil] at hW'
  refine (walk a0 a1 w0 W (laidW W)).mono fun e W' ⟨he, bel⟩ => ?_
  subst he
  exact ⟨_, rfl, _, _, _, [], _, [], hW', trodAll_mk1 (shut_bool Try.underlying4 _), (trodAll_cons_mk (shut_int Try.underlying3 w0) (trodAll_cons_mk (shut_bool Try.underlying4 _) trodAll_mk0)), rfl, bel.frame _, fun h => by cases h⟩

theorem over : Rows.wireForgetsRow.holds Try.pinned (OpenSpec.ofChange Rows.wireForgetsSpec) :=
  OpenClaim.holds_of_wide 6 Try.f6 rfl rfl rfl rfl rfl rfl rfl ⟨rfl, rfl, rfl, rfl, rfl⟩ rfl rfl rfl rfl rfl (by kernel_rfl) Try.func6 (by kernel_rfl)
    (of_decide_eq_true (by kernel_rfl)) (by unfold Func.isWrapper; first | (rw [if_pos (by decide +kernel)]; kernel_rfl) | (rw [if_neg (by decide +kernel)]; exact ⟨rfl, rfl⟩))
    (fun os started H enc _ => lifted os started H enc)

theorem proved : Rows.WireForgetsSaid :=
  over

end Go.Proofs.Ytlcojdfgfodphaa.wireForgets
