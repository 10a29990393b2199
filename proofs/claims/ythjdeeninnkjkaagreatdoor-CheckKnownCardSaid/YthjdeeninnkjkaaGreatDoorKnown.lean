/-
  CheckKnown: for every number the procedure that it picks: bare or not, and in front, as told.
  Condition: none beyond what the card ties (package variables as the program's text lays them).
-/
import Derived.Test.YthjdeeninnkjkaaGreatDoorRows
import Derived.Test.YthjdeeninnkjkaaGreatDoorTie
import Derived.Test.YthjdeeninnkjkaaGreatDoorCards
import Derived.SevenTiedAt
import Derived.LaidMore
import Derived.Stop.Joined
import Derived.Test.YthjdeeninnkjkaaGreatDoorKnown0
import Derived.Test.YthjdeeninnkjkaaGreatDoorKnown1
import Derived.ProofKit
import Derived.OpenShut
namespace Go.Proofs.YthjdeeninnkjkaaGreatDoor.checkKnown
open Go Go.ChangeShapes Go.WideShapes Go.ChangeAt Go.RowKit Go.Ev
set_option linter.unusedVariables false
set_option maxRecDepth 100000
theorem all : ∀ r0 : Nat, r0 < (7) → okR (runK r0) = true
  | 0, _ => c_0
  | 1, _ => c_1
  | 2, _ => c_2
  | 3, _ => c_3
  | 4, _ => c_4
  | 5, _ => c_5
  | 6, _ => c_6
  | n + 7, h => by omega
def sgK (a0 : Int) : Nat → Int := fun i => if i = 0 then a0 else 0
theorem walk (a0 : Int) (w0 : (Lit.int .i64 a0).wf = true) (w : World) (hw : LaidW 7 LL w) :
    Calls Tryz.prog 4 #[.int .i64 a0] w fun e w' => e = .returned (.bool true) ∧ Below w.heap.size w w' := by
  obtain ⟨r0, hr0, lr0⟩ := Wi_nat a0 (7) (by omega)
  have hev := all r0 lr0
  have h := calls_fin (X := XW (tabK r0)) (N := 400) (args := [.float .f64 0]) (v := .bool true) (sg := sgK a0) (tg := fun _ => .empty) funcs_ok' mixed (fun B => XW_sound (List.forall_mem_cons.2 ⟨row_ok (sg := sgK a0) (i := 0) hr0 (by omega) (by omega), (fun x hx => by cases hx)⟩)) LL_ok Tryz.func4 rfl rfl (okR_eq hev) rfl rfl w hw
  have hc : (⟨[.float .f64 0].map (con0 (sgK a0) (fun _ => .empty))⟩ : Array Value) = #[.int .i64 a0] := by simp [con0, con, sgK]
  rw [hc] at h
  exact h
theorem own : ownKnob Tryz.prog.godebug = none := by kernel_rfl
def laidK : List (String × DataW Unit) := [("math/bits.deBruijn32tab", Rows.laid_math_bits_deBruijn32tab), ("math/bits.deBruijn64tab", Rows.laid_math_bits_deBruijn64tab), ("internal/strconv.uint64pow10", Rows.laid_internal_strconv_uint64pow10), ("strconv.ErrRange", Rows.laid_strconv_ErrRange), ("strconv.ErrSyntax", Rows.laid_strconv_ErrSyntax), ("penance/expr.operators", Rows.laid_penance_expr_operators)]
theorem v4 : VarAt Tryz.prog laidK "penance/expr.operators" 4 Rows.laid_penance_expr_operators := ⟨by simp [laidK], rfl, by kernel_rfl⟩
theorem vTop : VarAt Tryz.prog laidK "math/bits.deBruijn64tab" 6 Rows.laid_math_bits_deBruijn64tab := ⟨by simp [laidK], rfl, by kernel_rfl⟩
theorem laidW {w : World} (h : laidMetH Tryz.prog laidK w) : LaidW 7 LL w := ⟨vTop.size h, fun x hx => by
    simp only [LL, List.mem_cons, List.not_mem_nil, or_false] at hx
    rcases hx with rfl
    · exact ⟨by decide, v4.cell h (n := 8) (by kernel_rfl) rfl⟩⟩
theorem door_met (os : Os) (args : Array Value) : laidMetH Tryz.prog laidK ((World.doorLaid Tryz.prog 400 os).forCall (fun _ _ => 0) ⟨#[], args, []⟩).memory :=
  laidMetH_of_parts3 (fuel := 8) (laidMet_of_run' 8 (by kernel_rfl) (by kernel_rfl)) (by kernel_rfl) (by kernel_rfl)
set_option maxRecDepth 100000 in
theorem lifted (os : Os) (started : os.Started) (H : Type) (enc : TypeId × Value → H) :
    ReturnsInHanded {} Tryz.checked os 4 .any (fun w args => (Rows.checkKnownSpec.pre enc Tryz.prog Tryz.f4 [] false w args ∧ laidMetH Tryz.prog laidK w) ∧ sizedMet enc Tryz.prog Tryz.f4 (OpenSpec.ofChange Rows.checkKnownSpec) false w args)
      (Rows.checkKnownSpec.post enc Tryz.prog Tryz.f4 false true false false) := by
  refine returnsInHanded_of_change_and (C := Tryz.checked) (X := fun w _ => laidMetH Tryz.prog laidK w) (fun _ _ _ hh h => h.of_heap hh) own started (by kernel_rfl) Tryz.func4
    (ChangeSpec.witness_shaped (enc := enc) (C := Tryz.checked) (os := os) (X := fun w _ => laidMetH Tryz.prog laidK w) false (World.doorLaid Tryz.prog 400 os) #[.int .i64 0] 8 rfl (World.shaped_of_RefB (by kernel_rfl) (by kernel_rfl)) (by kernel_rfl) (by kernel_rfl) (by kernel_rfl) (door_met os _)) ?_
  intro W base args ds gs before hval0 hW _ _ hL _
  have hval : ∀ (j : Nat) t v, Tryz.f4.params[j]? = some t → args[j]? = some v → Value.okWide Tryz.prog W .any base t v := hval0
  have hW' := hW
  obtain ⟨p, q, hA0, hV, rfl, hfz, hnd⟩ := hW
  have hA : DataW.TrodAll enc Tryz.prog W 0 (fun _ => true) true Tryz.f4.params.toList args.toList ds p := hA0
  rw [Tryz.params4] at hA hval
  obtain ⟨v0, vs0, d0, ds0, p0, q0, hargs, rfl, rfl, h0, r0⟩ := trodAll_cons hA
  obtain ⟨rfl, rfl, rfl⟩ := trodAll_nil r0
  obtain rfl : args = #[v0] := by cases args; simp_all
  obtain ⟨rfl, rfl⟩ := trodVars_none hV
  obtain ⟨a0, rfl, rfl, rfl, w0⟩ := open_int Tryz.underlying3 (hval 0 3 v0 rfl rfl) h0
  clear hA0 hval0
  simp only [List.append_nil] at hW'
  refine (walk a0 w0 W (laidW hL)).mono fun e W' ⟨he, bel⟩ => ?_
  subst he
  exact ⟨_, rfl, _, _, _, [], _, [], hW', trodAll_mk1 (shut_bool Tryz.underlying4 _), (trodAll_cons_mk (shut_int Tryz.underlying3 w0) trodAll_mk0), rfl, bel.frame _, fun h => by cases h⟩

theorem over : Rows.checkKnownRow.holds Tryz.pinned (OpenSpec.ofChange Rows.checkKnownSpec) :=
  OpenClaim.holds_of_wide 4 Tryz.f4 rfl rfl rfl rfl rfl rfl rfl ⟨rfl, rfl, rfl, rfl, rfl⟩ rfl rfl rfl rfl rfl (by kernel_rfl) Tryz.func4 (by kernel_rfl)
    (of_decide_eq_true (by kernel_rfl)) (by unfold Func.isWrapper; first | (rw [if_pos (by decide +kernel)]; kernel_rfl) | (rw [if_neg (by decide +kernel)]; exact ⟨rfl, rfl⟩))
    (fun os started H enc _ => lifted os started H enc)

theorem bare : Rows.CheckKnownSaid :=
  over


theorem proved : Rows.CheckKnownCardSaid :=
  Claim7.holds_tied_plain_at .later [] [.data, .data, .data, .sentinel, .sentinel, .data] true (true, "8974ada82ba57c9ac07cff4907a41273673de73afd3c981b2432ca23080c5530") true
    bare (fun _ h => by cases h) (by kernel_rfl) (fun _ h => by cases h) checkKnown_row_tie rfl ⟨rfl, rfl⟩ (by kernel_rfl) rfl
    (fun f fn hf hfn => by
      obtain rfl : f = 4 := Option.some.inj ((show Tryz.prog.funcNamed "penance/penancelaw4.CheckKnown" = some 4 by kernel_rfl).symm.trans hf) |>.symm
      obtain rfl : fn = Tryz.f4 := (Option.some.inj (Tryz.func4.symm.trans hfn)).symm
      exact ⟨by kernel_rfl, fun j t ht => by
        rw [Tryz.params4] at ht
        have hm : t ∈ [3] := by simpa using Array.mem_of_getElem? ht
        have hall : ([3].all fun u => !Tryz.prog.wantsStandIn u) = true := by kernel_rfl
        exact (show Tryz.prog.wantsStandIn t = false by simpa using List.all_eq_true.1 hall t hm)⟩)
    (by kernel_rfl)
end Go.Proofs.YthjdeeninnkjkaaGreatDoor.checkKnown
