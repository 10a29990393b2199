/-
  LexKnown: for each number the text that it picks is refused at its place, or has so many signs.
  Condition: none.
-/
import Derived.Test.YthjcdbbomfmphaaRows
import Derived.Test.YthjcdbbomfmphaaBase
import Derived.ProofKit
import Derived.OpenShut
namespace Go.Proofs.Ythjcdbbomfmphaa.lexKnown
open Go.ChangeShapes Go.WideShapes Go.ChangeAt Go.RowKit Go.Ev
set_option linter.unusedVariables false

/-- known holds; within, at the number that is handed in, is r. -/
def XK (r : Nat) : Ext := fun f a => match f, a with
  | 13, [] => some (.bool true)
  | 15, [.float .f64 0, .int .i64 20] => some (.int .i64 r)
  | 39, [.string s, .int .u8 c] => some (.int .i64 (Lib.indexByte s.data.toList c.toNat.toUInt8))
  | _, _ => none

theorem okK (a : Int) (r : Nat) (h : Wi a 20 = r) (tg : Nat → ByteArray) (B : Nat) : Ok ⟨Try.prog, 0, 0, B, fun _ => a, tg⟩ (XK r) where
  funcs := funcs_ok'
  mixed := mixed
  ext := by
    intro g args v hx Γ w hs _
    unfold XK at hx
    split at hx
    · cases hx
      refine .inr ⟨by kernel_rfl, ?_⟩
      exact known_calls w
    · cases hx
      have h0 : Γ.s 0 = a := by rw [hs]
      refine .inr ⟨by kernel_rfl, ?_⟩
      have hc : (⟨[Value.float .f64 0, Value.int .i64 20].map (con Γ)⟩ : Array Value) = #[.int .i64 a, .int .i64 20] := by simp [con, h0]
      rw [hc]
      refine (within_calls a 20 w (by decide) (by decide)).mono fun e w' he => ?_
      obtain ⟨rfl, rfl⟩ := he
      exact ⟨by rw [h], Below.refl _ _⟩
    · cases hx; exact .inl (index_run _ _ w)
    · cases hx

noncomputable def runK (r : Nat) : Option (Value × Heap) := evCall Try.prog (XK r) (evC Try.prog (XK r) 200) 7 #[.float .f64 0] h0
def okR : Option (Value × Heap) → Bool | some (.bool true, _) => true | _ => false
theorem okR_eq {x : Option (Value × Heap)} (h : okR x = true) : x.map (·.1) = some (.bool true) := by
  unfold okR at h
  split at h
  · rfl
  · cases h
theorem all_r : ((List.range 20).all fun r => okR (runK r)) = true := by kernel_rfl

theorem walk (a0 : Int) (w0 : (Lit.int .i64 a0).wf = true) (w : World) :
    Calls Try.prog 7 #[.int .i64 a0] w fun e w' => e = .returned (.bool true) ∧ Below w.heap.size w w' := by
  have hr := Wi_range a0 20 (by decide)
  obtain ⟨r, h⟩ : ∃ r : Nat, Wi a0 20 = r := ⟨(Wi a0 20).toNat, by omega⟩
  have hlt : r < 20 := by omega
  have hev := List.all_eq_true.1 all_r r (List.mem_range.2 hlt)
  have h := calls_of_ev (X := XK r) (N := 200) (args := #[.float .f64 0]) (v := .bool true) (fun B => okK a0 r h (fun _ => .empty) B) Try.func7 rfl rfl (okR_eq hev) rfl rfl w
  have hc : (#[Value.float .f64 0] : Array Value).map (con0 (fun _ => a0) (fun _ => .empty)) = #[.int .i64 a0] := by simp [con0, con]
  rw [hc] at h
  exact h

theorem own : ownKnob Try.prog.godebug = none := by kernel_rfl

set_option maxRecDepth 100000 in
theorem lifted (os : Os) (started : os.Started) (H : Type) (enc : TypeId × Value → H) :
    ReturnsInHanded {} Try.checked os 7 .any (Rows.lexKnownSpec.pre6 enc Try.prog Try.f7 Rows.lexKnownRow.domain false) (Rows.lexKnownSpec.post enc Try.prog Try.f7 false true false false) := by
  refine returnsInHanded_of_change (C := Try.checked) own started (by kernel_rfl) Try.func7
    (ChangeSpec.witness6 (enc := enc) (C := Try.checked) false ⟨#[], #[.int .i64 0], []⟩ 8 (by kernel_rfl) (by kernel_rfl) (by kernel_rfl) (by kernel_rfl)) ?_
  intro W base args ds gs before hval0 hW hcnd _
  have hval : ∀ (j : Nat) t v, Try.f7.params[j]? = some t → args[j]? = some v → Value.okWide Try.prog W .any base t v := hval0
  have hW' := hW
  obtain ⟨p, q, hA0, hV, rfl, hfz, hnd⟩ := hW
  have hA : DataW.TrodAll enc Try.prog W 0 (fun _ => true) true Try.f7.params.toList args.toList ds p := hA0
  rw [Try.params7] at hA hval
  obtain ⟨v0, vs0, d0, ds0, p0, q0, hargs, rfl, rfl, h0, r0⟩ := trodAll_cons hA
  obtain ⟨rfl, rfl, rfl⟩ := trodAll_nil r0
  obtain rfl : args = #[v0] := by cases args; simp_all
  obtain ⟨rfl, rfl⟩ := trodVars_none hV
  obtain ⟨a0, rfl, rfl, rfl, w0⟩ := open_int Try.underlying3 (hval 0 3 v0 rfl rfl) h0
  clear hA0 hval0
  refine (walk a0 w0 W).mono fun e W' ⟨he, bel⟩ => ?_
  subst he
  exact ⟨_, rfl, _, _, _, [], _, [], hW', trodAll_mk1 (shut_bool Try.underlying4 _), (trodAll_cons_mk (shut_int Try.underlying3 w0) trodAll_mk0), rfl, bel.frame _, fun h => by cases h⟩

theorem over : Rows.lexKnownRow.holds Try.pinned (OpenSpec.ofChange Rows.lexKnownSpec) :=
  OpenClaim.holds_of_wide 7 Try.f7 rfl rfl rfl rfl rfl rfl rfl ⟨rfl, rfl, rfl, rfl, rfl⟩ rfl rfl rfl rfl rfl (by kernel_rfl) Try.func7 (by kernel_rfl)
    (of_decide_eq_true (by kernel_rfl)) (by unfold Func.isWrapper; first | (rw [if_pos (by decide +kernel)]; kernel_rfl) | (rw [if_neg (by decide +kernel)]; exact ⟨rfl, rfl⟩))
    (fun os started H enc _ => lifted os started H enc)

theorem proved : Rows.LexKnownSaid :=
  over
#print axioms proved
end Go.Proofs.Ythjcdbbomfmphaa.lexKnown
