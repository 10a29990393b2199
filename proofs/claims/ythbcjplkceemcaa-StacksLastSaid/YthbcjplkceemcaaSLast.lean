/-
  StacksLast: whatever the number, what is pushed last is what the reversed stack has first.
  Condition: none.
-/
import Derived.Test.YthbcjplkceemcaaRows
import Derived.Test.YthbcjplkceemcaaBase
import Derived.ProofKit
import Derived.OpenShut
namespace Go.Proofs.Ythbcjplkceemcaa.stacksLast
open Go.ChangeShapes Go.WideShapes Go.ChangeAt Go.RowKit Go.Ev
set_option linter.unusedVariables false

/-- known holds; within, at the number that is handed in, is r. -/
def XK (r : Nat) : Ext := fun f a => match f, a with
  | 7, [] => some (.bool true)
  | 8, [.float .f64 0, .int .i64 30] => some (.int .i64 r)
  | _, _ => none

theorem okK (a : Int) (r : Nat) (h : Wi a 30 = r) (tg : Nat → ByteArray) (B : Nat) : Ok ⟨Try.prog, 0, 0, B, fun _ => a, tg⟩ (XK r) where
  funcs := funcs_ok'
  mixed := mixed
  ext := by
    intro g args v hx Γ w hs _
    unfold XK at hx
    split at hx
    · cases hx
      refine .inr ⟨by kernel_rfl, ?_⟩
      exact known6_calls w
    · cases hx
      have h0 : Γ.s 0 = a := by rw [hs]
      refine .inr ⟨by kernel_rfl, ?_⟩
      have hc : (⟨[Value.float .f64 0, Value.int .i64 30].map (con Γ)⟩ : Array Value) = #[.int .i64 a, .int .i64 30] := by simp [con, h0]
      rw [hc]
      refine (within6_calls a 30 w (by decide) (by decide)).mono fun e w' he => ?_
      obtain ⟨rfl, rfl⟩ := he
      exact ⟨by rw [h], Below.refl _ _⟩
    · cases hx

noncomputable def runK (r : Nat) : Option (Value × Heap) := evCall Try.prog (XK r) (evC Try.prog (XK r) 300) 3 [.float .f64 0] h0
theorem r0 : okR (runK 0) = true := by kernel_rfl
theorem r1 : okR (runK 1) = true := by kernel_rfl
theorem r2 : okR (runK 2) = true := by kernel_rfl
theorem r3 : okR (runK 3) = true := by kernel_rfl
theorem r4 : okR (runK 4) = true := by kernel_rfl
theorem r5 : okR (runK 5) = true := by kernel_rfl
theorem r6 : okR (runK 6) = true := by kernel_rfl
theorem r7 : okR (runK 7) = true := by kernel_rfl
theorem r8 : okR (runK 8) = true := by kernel_rfl
theorem r9 : okR (runK 9) = true := by kernel_rfl
theorem r10 : okR (runK 10) = true := by kernel_rfl
theorem r11 : okR (runK 11) = true := by kernel_rfl
theorem r12 : okR (runK 12) = true := by kernel_rfl
theorem r13 : okR (runK 13) = true := by kernel_rfl
theorem r14 : okR (runK 14) = true := by kernel_rfl
theorem r15 : okR (runK 15) = true := by kernel_rfl
theorem r16 : okR (runK 16) = true := by kernel_rfl
theorem r17 : okR (runK 17) = true := by kernel_rfl
theorem r18 : okR (runK 18) = true := by kernel_rfl
theorem r19 : okR (runK 19) = true := by kernel_rfl
theorem r20 : okR (runK 20) = true := by kernel_rfl
theorem r21 : okR (runK 21) = true := by kernel_rfl
theorem r22 : okR (runK 22) = true := by kernel_rfl
theorem r23 : okR (runK 23) = true := by kernel_rfl
theorem r24 : okR (runK 24) = true := by kernel_rfl
theorem r25 : okR (runK 25) = true := by kernel_rfl
theorem r26 : okR (runK 26) = true := by kernel_rfl
theorem r27 : okR (runK 27) = true := by kernel_rfl
theorem r28 : okR (runK 28) = true := by kernel_rfl
theorem r29 : okR (runK 29) = true := by kernel_rfl
theorem all_r : ∀ r, r < 30 → okR (runK r) = true
  | 0, _ => r0
  | 1, _ => r1
  | 2, _ => r2
  | 3, _ => r3
  | 4, _ => r4
  | 5, _ => r5
  | 6, _ => r6
  | 7, _ => r7
  | 8, _ => r8
  | 9, _ => r9
  | 10, _ => r10
  | 11, _ => r11
  | 12, _ => r12
  | 13, _ => r13
  | 14, _ => r14
  | 15, _ => r15
  | 16, _ => r16
  | 17, _ => r17
  | 18, _ => r18
  | 19, _ => r19
  | 20, _ => r20
  | 21, _ => r21
  | 22, _ => r22
  | 23, _ => r23
  | 24, _ => r24
  | 25, _ => r25
  | 26, _ => r26
  | 27, _ => r27
  | 28, _ => r28
  | 29, _ => r29
  | n + 30, h => by omega

theorem own : ownKnob Try.prog.godebug = none := by kernel_rfl

theorem walk (a0 : Int) (w0 : (Lit.int .i64 a0).wf = true) (w : World) :
    Calls Try.prog 3 #[.int .i64 a0] w fun e w' => e = .returned (.bool true) ∧ Below w.heap.size w w' := by
  obtain ⟨r, h, hlt⟩ := Wi_nat a0 30 (by decide)
  have hev := all_r r hlt
  have h := calls_of_ev (X := XK r) (N := 300) (args := [.float .f64 0]) (v := .bool true) (fun B => okK a0 r h (fun _ => .empty) B) Try.func3 rfl rfl (okR_eq hev) rfl rfl w
  have hc : (⟨[Value.float .f64 0].map (con0 (fun _ => a0) (fun _ => .empty))⟩ : Array Value) = #[.int .i64 a0] := by simp [con0, con]
  rw [hc] at h
  exact h

set_option maxRecDepth 100000 in
theorem lifted (os : Os) (started : os.Started) (H : Type) (enc : TypeId × Value → H) :
    ReturnsInHanded {} Try.checked os 3 .any (Rows.stacksLastSpec.pre6 enc Try.prog Try.f3 Rows.stacksLastRow.domain false) (Rows.stacksLastSpec.post enc Try.prog Try.f3 false true false false) := by
  refine returnsInHanded_of_change (C := Try.checked) own started (by kernel_rfl) Try.func3
    (ChangeSpec.witness6 (enc := enc) (C := Try.checked) false ⟨#[], #[.int .i64 0], []⟩ 8 (by kernel_rfl) (by kernel_rfl) (by kernel_rfl) (by kernel_rfl)) ?_
  intro W base args ds gs before hval0 hW hcnd _
  have hval : ∀ (j : Nat) t v, Try.f3.params[j]? = some t → args[j]? = some v → Value.okWide Try.prog W .any base t v := hval0
  have hW' := hW
  obtain ⟨p, q, hA0, hV, rfl, hfz, hnd⟩ := hW
  have hA : DataW.TrodAll enc Try.prog W 0 (fun _ => true) true Try.f3.params.toList args.toList ds p := hA0
  rw [Try.params3] at hA hval
  obtain ⟨v0, vs0, d0, ds0, p0, q0, hargs, rfl, rfl, h0, r0⟩ := trodAll_cons hA
  obtain ⟨rfl, rfl, rfl⟩ := trodAll_nil r0
  obtain rfl : args = #[v0] := by cases args; simp_all
  obtain ⟨rfl, rfl⟩ := trodVars_none hV
  obtain ⟨a0, rfl, rfl, rfl, w0⟩ := open_int Try.underlying3 (hval 0 3 v0 rfl rfl) h0
  clear hA0 hval0
  refine (walk a0 w0 W).mono fun e W' ⟨he, bel⟩ => ?_
  subst he
  exact ⟨_, rfl, _, _, _, [], _, [], hW', trodAll_mk1 (shut_bool Try.underlying4 _), (trodAll_cons_mk (shut_int Try.underlying3 w0) trodAll_mk0), rfl, bel.frame _, fun h => by cases h⟩

theorem over : Rows.stacksLastRow.holds Try.pinned (OpenSpec.ofChange Rows.stacksLastSpec) :=
  OpenClaim.holds_of_wide 3 Try.f3 rfl rfl rfl rfl rfl rfl rfl ⟨rfl, rfl, rfl, rfl, rfl⟩ rfl rfl rfl rfl rfl (by kernel_rfl) Try.func3 (by kernel_rfl)
    (of_decide_eq_true (by kernel_rfl)) (by unfold Func.isWrapper; first | (rw [if_pos (by decide +kernel)]; kernel_rfl) | (rw [if_neg (by decide +kernel)]; exact ⟨rfl, rfl⟩))
    (fun os started H enc _ => lifted os started H enc)

theorem proved : Rows.StacksLastSaid :=
  over
#print axioms proved
end Go.Proofs.Ythbcjplkceemcaa.stacksLast
