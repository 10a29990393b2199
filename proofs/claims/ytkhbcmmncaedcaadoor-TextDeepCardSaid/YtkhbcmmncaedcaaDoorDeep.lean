/-
  TextDeep: for every number: twenty braces may be in one another, one more may not, told where it stands.
  Condition: none beyond what the card ties (package variables as the program's text lays them).
-/
import Derived.Test.YtkhbcmmncaedcaaDoorRows
import Derived.Test.YtkhbcmmncaedcaaDoorTie
import Derived.Test.YtkhbcmmncaedcaaDoorCards
import Derived.SevenTiedAt
import Derived.LaidMore
import Derived.Stop.Joined
import Derived.Test.YtkhbcmmncaedcaaDoorDeep0
import Derived.Test.YtkhbcmmncaedcaaDoorDeep1
import Derived.Test.YtkhbcmmncaedcaaDoorDeep2
import Derived.Test.YtkhbcmmncaedcaaDoorDeep3
import Derived.ProofKit
import Derived.OpenShut
namespace Go.Proofs.YtkhbcmmncaedcaaDoor.textDeep
open Go Go.ChangeShapes Go.WideShapes Go.ChangeAt Go.RowKit Go.Ev
set_option linter.unusedVariables false
set_option maxRecDepth 100000
theorem all : ∀ r0 : Nat, r0 < (30) → okR (runK r0) = true
  | 0, _ => c_0
  | 1, _ => c_1
  | 2, _ => c_2
  | 3, _ => c_3
  | 4, _ => c_4
  | 5, _ => c_5
  | 6, _ => c_6
  | 7, _ => c_7
  | 8, _ => c_8
  | 9, _ => c_9
  | 10, _ => c_10
  | 11, _ => c_11
  | 12, _ => c_12
  | 13, _ => c_13
  | 14, _ => c_14
  | 15, _ => c_15
  | 16, _ => c_16
  | 17, _ => c_17
  | 18, _ => c_18
  | 19, _ => c_19
  | 20, _ => c_20
  | 21, _ => c_21
  | 22, _ => c_22
  | 23, _ => c_23
  | 24, _ => c_24
  | 25, _ => c_25
  | 26, _ => c_26
  | 27, _ => c_27
  | 28, _ => c_28
  | 29, _ => c_29
  | n + 30, h => by omega
def sgK (a0 : Int) : Nat → Int := fun i => if i = 0 then a0 else 0
theorem walk (a0 : Int) (w0 : (Lit.int .i64 a0).wf = true) (w : World) (hw : LaidW 7 LL w) :
    Calls Tryd.prog 4 #[.int .i64 a0] w fun e w' => e = .returned (.bool true) ∧ Below w.heap.size w w' := by
  obtain ⟨r0, hr0, lr0⟩ := Wi_nat a0 (30) (by omega)
  have hev := all r0 lr0
  have h := calls_fin (X := XW (tabK r0)) (N := 400) (args := [.float .f64 0]) (v := .bool true) (sg := sgK a0) (tg := fun _ => .empty) funcs_ok' mixed (fun B => XW_sound (List.forall_mem_cons.2 ⟨row_ok (sg := sgK a0) (i := 0) hr0 (by omega) (by omega), (fun x hx => by cases hx)⟩)) LL_ok Tryd.func4 rfl rfl (okR_eq hev) rfl rfl w hw
  have hc : (⟨[.float .f64 0].map (con0 (sgK a0) (fun _ => .empty))⟩ : Array Value) = #[.int .i64 a0] := by simp [con0, con, sgK]
  rw [hc] at h
  exact h
theorem own : ownKnob Tryd.prog.godebug = none := by kernel_rfl
def laidK : List (String × DataW Unit) := [("math/bits.deBruijn32tab", Rows.laid_math_bits_deBruijn32tab), ("math/bits.deBruijn64tab", Rows.laid_math_bits_deBruijn64tab), ("internal/strconv.uint64pow10", Rows.laid_internal_strconv_uint64pow10), ("strconv.ErrRange", Rows.laid_strconv_ErrRange), ("strconv.ErrSyntax", Rows.laid_strconv_ErrSyntax), ("penance/expr.operators", Rows.laid_penance_expr_operators)]
theorem v1 : VarAt Tryd.prog laidK "internal/strconv.uint64pow10" 1 Rows.laid_internal_strconv_uint64pow10 := ⟨by simp [laidK], rfl, by kernel_rfl⟩
theorem v6 : VarAt Tryd.prog laidK "penance/expr.operators" 6 Rows.laid_penance_expr_operators := ⟨by simp [laidK], rfl, by kernel_rfl⟩
theorem vTop : VarAt Tryd.prog laidK "penance/expr.operators" 6 Rows.laid_penance_expr_operators := ⟨by simp [laidK], rfl, by kernel_rfl⟩
theorem laidW {w : World} (h : laidMetH Tryd.prog laidK w) : LaidW 7 LL w := ⟨vTop.size h, fun x hx => by
    simp only [LL, List.mem_cons, List.not_mem_nil, or_false] at hx
    rcases hx with rfl | rfl
    · exact ⟨by decide, v1.cell h (n := 8) (by kernel_rfl) rfl⟩
    · exact ⟨by decide, v6.cell h (n := 8) (by kernel_rfl) rfl⟩⟩
theorem door_met (os : Os) (args : Array Value) : laidMetH Tryd.prog laidK ((World.doorLaid Tryd.prog 400 os).forCall (fun _ _ => 0) ⟨#[], args, []⟩).memory :=
  laidMetH_of_parts3 (fuel := 8) (laidMet_of_run' 8 (by kernel_rfl) (by kernel_rfl)) (by kernel_rfl) (by kernel_rfl)
set_option maxRecDepth 100000 in
theorem lifted (os : Os) (started : os.Started) (H : Type) (enc : TypeId × Value → H) :
    ReturnsInHanded {} Tryd.checked os 4 .any (fun w args => (Rows.textDeepSpec.pre enc Tryd.prog Tryd.f4 [] false w args ∧ laidMetH Tryd.prog laidK w) ∧ sizedMet enc Tryd.prog Tryd.f4 (OpenSpec.ofChange Rows.textDeepSpec) false w args)
      (Rows.textDeepSpec.post enc Tryd.prog Tryd.f4 false true false false) := by
  refine returnsInHanded_of_change_and (C := Tryd.checked) (X := fun w _ => laidMetH Tryd.prog laidK w) (fun _ _ _ hh h => h.of_heap hh) own started (by kernel_rfl) Tryd.func4
    (ChangeSpec.witness_shaped (enc := enc) (C := Tryd.checked) (os := os) (X := fun w _ => laidMetH Tryd.prog laidK w) false (World.doorLaid Tryd.prog 400 os) #[.int .i64 0] 8 rfl (World.shaped_of_RefB (by kernel_rfl) (by kernel_rfl)) (by kernel_rfl) (by kernel_rfl) (by kernel_rfl) (door_met os _)) ?_
  intro W base args ds gs before hval0 hW _ _ hL _
  have hval : ∀ (j : Nat) t v, Tryd.f4.params[j]? = some t → args[j]? = some v → Value.okWide Tryd.prog W .any base t v := hval0
  have hW' := hW
  obtain ⟨p, q, hA0, hV, rfl, hfz, hnd⟩ := hW
  have hA : DataW.TrodAll enc Tryd.prog W 0 (fun _ => true) true Tryd.f4.params.toList args.toList ds p := hA0
  rw [Tryd.params4] at hA hval
  obtain ⟨v0, vs0, d0, ds0, p0, q0, hargs, rfl, rfl, h0, r0⟩ := trodAll_cons hA
  obtain ⟨rfl, rfl, rfl⟩ := trodAll_nil r0
  obtain rfl : args = #[v0] := by cases args; simp_all
  obtain ⟨rfl, rfl⟩ := trodVars_none hV
  obtain ⟨a0, rfl, rfl, rfl, w0⟩ := open_int Tryd.underlying3 (hval 0 3 v0 rfl rfl) h0
  clear hA0 hval0
  simp only [List.append_nil] at hW'
  refine (walk a0 w0 W (laidW hL)).mono fun e W' ⟨he, bel⟩ => ?_
  subst he
  exact ⟨_, rfl, _, _, _, [], _, [], hW', trodAll_mk1 (shut_bool Tryd.underlying4 _), (trodAll_cons_mk (shut_int Tryd.underlying3 w0) trodAll_mk0), rfl, bel.frame _, fun h => by cases h⟩

theorem over : Rows.textDeepRow.holds Tryd.pinned (OpenSpec.ofChange Rows.textDeepSpec) :=
  OpenClaim.holds_of_wide 4 Tryd.f4 rfl rfl rfl rfl rfl rfl rfl ⟨rfl, rfl, rfl, rfl, rfl⟩ rfl rfl rfl rfl rfl (by kernel_rfl) Tryd.func4 (by kernel_rfl)
    (of_decide_eq_true (by kernel_rfl)) (by unfold Func.isWrapper; first | (rw [if_pos (by decide +kernel)]; kernel_rfl) | (rw [if_neg (by decide +kernel)]; exact ⟨rfl, rfl⟩))
    (fun os started H enc _ => lifted os started H enc)

theorem bare : Rows.TextDeepSaid :=
  over


theorem proved : Rows.TextDeepCardSaid :=
  Claim7.holds_tied_plain_at .later [] [.data, .data, .data, .sentinel, .sentinel, .data] true (true, "6c3c19ed531c88fd14c70e8f0a8a3d5f7eb715605cc35cf70e68dae9896c769a") true
    bare (fun _ h => by cases h) (by kernel_rfl) (fun _ h => by cases h) textDeep_row_tie rfl ⟨rfl, rfl⟩ (by kernel_rfl) rfl
    (fun f fn hf hfn => by
      obtain rfl : f = 4 := Option.some.inj ((show Tryd.prog.funcNamed "penance/penancelaw3.TextDeep" = some 4 by kernel_rfl).symm.trans hf) |>.symm
      obtain rfl : fn = Tryd.f4 := (Option.some.inj (Tryd.func4.symm.trans hfn)).symm
      exact ⟨by kernel_rfl, fun j t ht => by
        rw [Tryd.params4] at ht
        have hm : t ∈ [3] := by simpa using Array.mem_of_getElem? ht
        have hall : ([3].all fun u => !Tryd.prog.wantsStandIn u) = true := by kernel_rfl
        exact (show Tryd.prog.wantsStandIn t = false by simpa using List.all_eq_true.1 hall t hm)⟩)
    (by kernel_rfl)
end Go.Proofs.YtkhbcmmncaedcaaDoor.textDeep
