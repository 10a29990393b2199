/-
  StacksRun: whatever both numbers, what is merged, then reversed, stands in the order last first.
  Condition: none.
-/
import Derived.Test.YthbcjplkceemcaaRows
import Derived.Test.YthbcjplkceemcaaBase
import Derived.ProofKit
import Derived.OpenShut
namespace Go.Proofs.Ythbcjplkceemcaa.stacksRun
open Go.ChangeShapes Go.WideShapes Go.ChangeAt Go.RowKit Go.Ev
set_option linter.unusedVariables false

/-- known holds; within, at the numbers that are handed in, is r and q. -/
def XK (r q : Nat) : Ext := fun f a => match f, a with
  | 7, [] => some (.bool true)
  | 8, [.float .f64 0, .int .i64 8] => some (.int .i64 r)
  | 8, [.float .f64 1, .int .i64 8] => some (.int .i64 q)
  | _, _ => none

def sg (a b : Int) : Nat → Int | 0 => a | _ => b

theorem okK (a b : Int) (r q : Nat) (h : Wi a 8 = r) (h' : Wi b 8 = q) (tg : Nat → ByteArray) (B : Nat) : Ok ⟨Try.prog, 0, 0, B, sg a b, tg⟩ (XK r q) where
  funcs := funcs_ok'
  mixed := mixed
  ext := by
    intro g args v hx Γ w hs _
    unfold XK at hx
    split at hx
    · cases hx
      refine .inr ⟨by kernel_rfl, ?_⟩
      exact known6_calls w
    · cases hx
      have h0 : Γ.s 0 = a := by rw [hs]; rfl
      refine .inr ⟨by kernel_rfl, ?_⟩
      have hc : (⟨[Value.float .f64 0, Value.int .i64 8].map (con Γ)⟩ : Array Value) = #[.int .i64 a, .int .i64 8] := by simp [con, h0]
      rw [hc]
      refine (within6_calls a 8 w (by decide) (by decide)).mono fun e w' he => ?_
      obtain ⟨rfl, rfl⟩ := he
      exact ⟨by rw [h], Below.refl _ _⟩
    · cases hx
      have h0 : Γ.s 1 = b := by rw [hs]; rfl
      refine .inr ⟨by kernel_rfl, ?_⟩
      have hc : (⟨[Value.float .f64 1, Value.int .i64 8].map (con Γ)⟩ : Array Value) = #[.int .i64 b, .int .i64 8] := by simp [con, h0]
      rw [hc]
      refine (within6_calls b 8 w (by decide) (by decide)).mono fun e w' he => ?_
      obtain ⟨rfl, rfl⟩ := he
      exact ⟨by rw [h'], Below.refl _ _⟩
    · cases hx

noncomputable def runK (r q : Nat) : Option (Value × Heap) := evCall Try.prog (XK r q) (evC Try.prog (XK r q) 300) 4 [.float .f64 0, .float .f64 1] h0
theorem r0 : ((List.range 8).all fun q => okR (runK 0 q)) = true := by kernel_rfl
theorem r1 : ((List.range 8).all fun q => okR (runK 1 q)) = true := by kernel_rfl
theorem r2 : ((List.range 8).all fun q => okR (runK 2 q)) = true := by kernel_rfl
theorem r3 : ((List.range 8).all fun q => okR (runK 3 q)) = true := by kernel_rfl
theorem r4 : ((List.range 8).all fun q => okR (runK 4 q)) = true := by kernel_rfl
theorem r5 : ((List.range 8).all fun q => okR (runK 5 q)) = true := by kernel_rfl
theorem r6 : ((List.range 8).all fun q => okR (runK 6 q)) = true := by kernel_rfl
theorem r7 : ((List.range 8).all fun q => okR (runK 7 q)) = true := by kernel_rfl
theorem all_r : ∀ r, r < 8 → ((List.range 8).all fun q => okR (runK r q)) = true
  | 0, _ => r0
  | 1, _ => r1
  | 2, _ => r2
  | 3, _ => r3
  | 4, _ => r4
  | 5, _ => r5
  | 6, _ => r6
  | 7, _ => r7
  | n + 8, h => by omega

theorem own : ownKnob Try.prog.godebug = none := by kernel_rfl

theorem walk (a0 : Int) (a1 : Int) (w0 : (Lit.int .i64 a0).wf = true) (w1 : (Lit.int .i64 a1).wf = true) (w : World) :
    Calls Try.prog 4 #[.int .i64 a0, .int .i64 a1] w fun e w' => e = .returned (.bool true) ∧ Below w.heap.size w w' := by
  obtain ⟨r, h, hlt⟩ := Wi_nat a0 8 (by decide)
  obtain ⟨q, h', hlt'⟩ := Wi_nat a1 8 (by decide)
  have hev := List.all_eq_true.1 (all_r r hlt) q (List.mem_range.2 hlt')
  have h := calls_of_ev (X := XK r q) (N := 300) (args := [.float .f64 0, .float .f64 1]) (v := .bool true) (fun B => okK a0 a1 r q h h' (fun _ => .empty) B) Try.func4 rfl rfl (okR_eq hev) rfl rfl w
  have hc : (⟨[Value.float .f64 0, .float .f64 1].map (con0 (sg a0 a1) (fun _ => .empty))⟩ : Array Value) = #[.int .i64 a0, .int .i64 a1] := by simp [con0, con, sg]
  rw [hc] at h
  exact h

set_option maxRecDepth 100000 in
theorem lifted (os : Os) (started : os.Started) (H : Type) (enc : TypeId × Value → H) :
    ReturnsInHanded {} Try.checked os 4 .any (Rows.stacksRunSpec.pre6 enc Try.prog Try.f4 Rows.stacksRunRow.domain false) (Rows.stacksRunSpec.post enc Try.prog Try.f4 false true false false) := by
  refine returnsInHanded_of_change (C := Try.checked) own started (by kernel_rfl) Try.func4
    (ChangeSpec.witness6 (enc := enc) (C := Try.checked) false ⟨#[], #[.int .i64 0, .int .i64 0], []⟩ 8 (by kernel_rfl) (by kernel_rfl) (by kernel_rfl) (by kernel_rfl)) ?_
  intro W base args ds gs before hval0 hW hcnd _
  have hval : ∀ (j : Nat) t v, Try.f4.params[j]? = some t → args[j]? = some v → Value.okWide Try.prog W .any base t v := hval0
  have hW' := hW
  obtain ⟨p, q, hA0, hV, rfl, hfz, hnd⟩ := hW
  have hA : DataW.TrodAll enc Try.prog W 0 (fun _ => true) true Try.f4.params.toList args.toList ds p := hA0
  rw [Try.params4] at hA hval
  obtain ⟨v0, vs0, d0, ds0, p0, q0, hargs, rfl, rfl, h0, r0⟩ := trodAll_cons hA
  obtain ⟨v1, vs1, d1, ds1, p1, q1, rfl, rfl, rfl, h1, r1⟩ := trodAll_cons r0
  obtain ⟨rfl, rfl, rfl⟩ := trodAll_nil r1
  obtain rfl : args = #[v0, v1] := by cases args; simp_all
  obtain ⟨rfl, rfl⟩ := trodVars_none hV
  obtain ⟨a0, rfl, rfl, rfl, w0⟩ := open_int Try.underlying3 (hval 0 3 v0 rfl rfl) h0
  obtain ⟨a1, rfl, rfl, rfl, w1⟩ := open_int Try.underlying3 (hval 1 3 v1 rfl rfl) h1
  clear hA0 hval0
  refine (walk a0 a1 w0 w1 W).mono fun e W' ⟨he, bel⟩ => ?_
  subst he
  exact ⟨_, rfl, _, _, _, [], _, [], hW', trodAll_mk1 (shut_bool Try.underlying4 _), (trodAll_cons_mk (shut_int Try.underlying3 w0) (trodAll_cons_mk (shut_int Try.underlying3 w1) trodAll_mk0)), rfl, bel.frame _, fun h => by cases h⟩

theorem over : Rows.stacksRunRow.holds Try.pinned (OpenSpec.ofChange Rows.stacksRunSpec) :=
  OpenClaim.holds_of_wide 4 Try.f4 rfl rfl rfl rfl rfl rfl rfl ⟨rfl, rfl, rfl, rfl, rfl⟩ rfl rfl rfl rfl rfl (by kernel_rfl) Try.func4 (by kernel_rfl)
    (of_decide_eq_true (by kernel_rfl)) (by unfold Func.isWrapper; first | (rw [if_pos (by decide +kernel)]; kernel_rfl) | (rw [if_neg (by decide +kernel)]; exact ⟨rfl, rfl⟩))
    (fun os started H enc _ => lifted os started H enc)

theorem proved : Rows.StacksRunSaid :=
  over
#print axioms proved
end Go.Proofs.Ythbcjplkceemcaa.stacksRun
