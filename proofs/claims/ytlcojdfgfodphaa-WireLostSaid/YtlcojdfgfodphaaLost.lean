/-
  WireLost: whatever the key, the value, however often doubled: what is dropped flies no more; what flies twice is delivered twice, and applied once.
  Condition: none.
-/
import Derived.Test.YtlcojdfgfodphaaRows
import Derived.Test.YtlcojdfgfodphaaLost0
import Derived.ProofKit
import Derived.OpenShut
namespace Go.Proofs.Ytlcojdfgfodphaa.wireLost
open Go Go.ChangeShapes Go.WideShapes Go.ChangeAt Go.RowKit Go.Ev
set_option linter.unusedVariables false
set_option maxRecDepth 100000
theorem all : ∀ r0 : Nat, r0 < (6) → okR (runK r0) = true
  | 0, _ => c_0
  | 1, _ => c_1
  | 2, _ => c_2
  | 3, _ => c_3
  | 4, _ => c_4
  | 5, _ => c_5
  | n + 6, h => by omega
def sgK (a0 : Int) (a1 : Int) (a2 : Int) : Nat → Int := fun i => if i = 0 then a0 else if i = 1 then a1 else if i = 2 then a2 else 0
theorem walk (a0 : Int) (a1 : Int) (a2 : Int) (w0 : (Lit.int .i64 a0).wf = true) (w1 : (Lit.int .i64 a1).wf = true) (w2 : (Lit.int .i64 a2).wf = true) (w : World) (hw : LaidW 0 LL w) :
    Calls Try.prog 4 #[.int .i64 a0, .int .i64 a1, .int .i64 a2] w fun e w' => e = .returned (.bool true) ∧ Below w.heap.size w w' := by
  obtain ⟨r0, hr0, lr0⟩ := Wi_nat a2 (6) (by omega)
  have hev := all r0 lr0
  have h := calls_fin (X := XW (tabK r0)) (N := 400) (args := [.float .f64 0, .float .f64 1, .float .f64 2]) (v := .bool true) (sg := sgK a0 a1 a2) (tg := fun _ => .empty) funcs_ok' mixed (fun B => XW_sound (List.forall_mem_cons.2 ⟨row_ok (sg := sgK a0 a1 a2) (i := 2) hr0 (by omega) (by omega), (fun x hx => by cases hx)⟩)) LL_ok Try.func4 rfl rfl (okR_eq hev) rfl rfl w hw
  have hc : (⟨[.float .f64 0, .float .f64 1, .float .f64 2].map (con0 (sgK a0 a1 a2) (fun _ => .empty))⟩ : Array Value) = #[.int .i64 a0, .int .i64 a1, .int .i64 a2] := by simp [con0, con, sgK, dv]
  rw [hc] at h
  exact h
theorem own : ownKnob Try.prog.godebug = none := by kernel_rfl
theorem laidW (w : World) : LaidW 0 LL w := ⟨Nat.zero_le _, fun x hx => by cases hx⟩
set_option maxRecDepth 100000 in
theorem lifted (os : Os) (started : os.Started) (H : Type) (enc : TypeId × Value → H) :
    ReturnsInHanded {} Try.checked os 4 .any (Rows.wireLostSpec.pre6 enc Try.prog Try.f4 Rows.wireLostRow.domain false) (Rows.wireLostSpec.post enc Try.prog Try.f4 false true false false) := by
  refine returnsInHanded_of_change (C := Try.checked) own started (by kernel_rfl) Try.func4
    (ChangeSpec.witness6 (enc := enc) (C := Try.checked) false ⟨#[], #[.int .i64 0, .int .i64 0, .int .i64 0], []⟩ 8 (by kernel_rfl) (by kernel_rfl) (by kernel_rfl) (by kernel_rfl)) ?_
  intro W base args ds gs before hval0 hW hcnd _
  have hval : ∀ (j : Nat) t v, Try.f4.params[j]? = some t → args[j]? = some v → Value.okWide Try.prog W .any base t v := hval0
  have hW' := hW
  obtain ⟨p, q, hA0, hV, rfl, hfz, hnd⟩ := hW
  have hA : DataW.TrodAll enc Try.prog W 0 (fun _ => true) true Try.f4.params.toList args.toList ds p := hA0
  rw [Try.params4] at hA hval
  obtain ⟨v0, vs0, d0, ds0, p0, q0, hargs, rfl, rfl, h0, r0⟩ := trodAll_cons hA
  obtain ⟨v1, vs1, d1, ds1, p1, q1, rfl, rfl, rfl, h1, r1⟩ := trodAll_cons r0
  obtain ⟨v2, vs2, d2, ds2, p2, q2, rfl, rfl, rfl, h2, r2⟩ := trodAll_cons r1
  obtain ⟨rfl, rfl, rfl⟩ := trodAll_nil r2
  obtain rfl : args = #[v0, v1, v2] := by cases args; simp_all
  obtain ⟨rfl, rfl⟩ := trodVars_none hV
  obtain ⟨a0, rfl, rfl, rfl, w0⟩ := open_int Try.underlying3 (hval 0 3 v0 rfl rfl) h0
  obtain ⟨a1, rfl, rfl, rfl, w1⟩ := open_int Try.underlying3 (hval 1 3 v1 rfl rfl) h1
  obtain ⟨a2, rfl, rfl, rfl, w2⟩ := open_int Try.underlying3 (hval 2 3 v2 rfl rfl) h2
  clear hA0 hval0
  simp only [List.append_nil] at hW'
  refine (walk a0 a1 a2 w0 w1 w2 W (laidW W)).mono fun e W' ⟨he, bel⟩ => ?_
  subst he
  exact ⟨_, rfl, _, _, _, [], _, [], hW', trodAll_mk1 (shut_bool Try.underlying4 _), (trodAll_cons_mk (shut_int Try.underlying3 w0) (trodAll_cons_mk (shut_int Try.underlying3 w1) (trodAll_cons_mk (shut_int Try.underlying3 w2) trodAll_mk0))), rfl, bel.frame _, fun h => by cases h⟩

theorem over : Rows.wireLostRow.holds Try.pinned (OpenSpec.ofChange Rows.wireLostSpec) :=
  OpenClaim.holds_of_wide 4 Try.f4 rfl rfl rfl rfl rfl rfl rfl ⟨rfl, rfl, rfl, rfl, rfl⟩ rfl rfl rfl rfl rfl (by kernel_rfl) Try.func4 (by kernel_rfl)
    (of_decide_eq_true (by kernel_rfl)) (by unfold Func.isWrapper; first | (rw [if_pos (by decide +kernel)]; kernel_rfl) | (rw [if_neg (by decide +kernel)]; exact ⟨rfl, rfl⟩))
    (fun os started H enc _ => lifted os started H enc)

theorem proved : Rows.WireLostSaid :=
  over

end Go.Proofs.Ytlcojdfgfodphaa.wireLost
