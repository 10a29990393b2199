/-
  RunSide: whatever two processes stand side by side: the steps of the one and of the other lead, in either order, to the same.
  Condition: none beyond what the card ties (package variables as the program's text lays them).
-/
import Derived.Test.YtaagmjgilmpdjaaDoorRows
import Derived.Test.YtaagmjgilmpdjaaDoorTie
import Derived.Test.YtaagmjgilmpdjaaDoorCards
import Derived.SevenTiedAt
import Derived.LaidMore
import Derived.Stop.Joined
import Derived.Test.YtaagmjgilmpdjaaDoorSide0
import Derived.Test.YtaagmjgilmpdjaaDoorSide1
import Derived.Test.YtaagmjgilmpdjaaDoorSide2
import Derived.Test.YtaagmjgilmpdjaaDoorSide3
import Derived.Test.YtaagmjgilmpdjaaDoorSide4
import Derived.Test.YtaagmjgilmpdjaaDoorSide5
import Derived.Test.YtaagmjgilmpdjaaDoorSide6
import Derived.Test.YtaagmjgilmpdjaaDoorSide7
import Derived.Test.YtaagmjgilmpdjaaDoorSide8
import Derived.Test.YtaagmjgilmpdjaaDoorSide9
import Derived.Test.YtaagmjgilmpdjaaDoorSide10
import Derived.Test.YtaagmjgilmpdjaaDoorSide11
import Derived.Test.YtaagmjgilmpdjaaDoorSide12
import Derived.Test.YtaagmjgilmpdjaaDoorSide13
import Derived.Test.YtaagmjgilmpdjaaDoorSide14
import Derived.Test.YtaagmjgilmpdjaaDoorSide15
import Derived.Test.YtaagmjgilmpdjaaDoorSide16
import Derived.Test.YtaagmjgilmpdjaaDoorSide17
import Derived.Test.YtaagmjgilmpdjaaDoorSide18
import Derived.Test.YtaagmjgilmpdjaaDoorSide19
import Derived.Test.YtaagmjgilmpdjaaDoorSide20
import Derived.Test.YtaagmjgilmpdjaaDoorSide21
import Derived.Test.YtaagmjgilmpdjaaDoorSide22
import Derived.Test.YtaagmjgilmpdjaaDoorSide23
import Derived.ProofKit
import Derived.OpenShut
namespace Go.Proofs.YtaagmjgilmpdjaaDoor.runSide
open Go Go.ChangeShapes Go.WideShapes Go.ChangeAt Go.RowKit Go.Ev
set_option linter.unusedVariables false
set_option maxRecDepth 100000
theorem all_0_0 : ∀ r2 : Nat, r2 < (3) → okR (runK 0 0 r2) = true
  | 0, _ => c_0_0_0
  | 1, _ => c_0_0_1
  | 2, _ => c_0_0_2
  | n + 3, h => by omega
theorem all_0_1 : ∀ r2 : Nat, r2 < (3) → okR (runK 0 1 r2) = true
  | 0, _ => c_0_1_0
  | 1, _ => c_0_1_1
  | 2, _ => c_0_1_2
  | n + 3, h => by omega
theorem all_0 : ∀ r1 : Nat, r1 < (2) → ∀ r2 : Nat, r2 < (3) → okR (runK 0 r1 r2) = true
  | 0, _ => all_0_0
  | 1, _ => all_0_1
  | n + 2, h => by omega
theorem all_1_0 : ∀ r2 : Nat, r2 < (3) → okR (runK 1 0 r2) = true
  | 0, _ => c_1_0_0
  | 1, _ => c_1_0_1
  | 2, _ => c_1_0_2
  | n + 3, h => by omega
theorem all_1_1 : ∀ r2 : Nat, r2 < (3) → okR (runK 1 1 r2) = true
  | 0, _ => c_1_1_0
  | 1, _ => c_1_1_1
  | 2, _ => c_1_1_2
  | n + 3, h => by omega
theorem all_1 : ∀ r1 : Nat, r1 < (2) → ∀ r2 : Nat, r2 < (3) → okR (runK 1 r1 r2) = true
  | 0, _ => all_1_0
  | 1, _ => all_1_1
  | n + 2, h => by omega
theorem all_2_0 : ∀ r2 : Nat, r2 < (3) → okR (runK 2 0 r2) = true
  | 0, _ => c_2_0_0
  | 1, _ => c_2_0_1
  | 2, _ => c_2_0_2
  | n + 3, h => by omega
theorem all_2_1 : ∀ r2 : Nat, r2 < (3) → okR (runK 2 1 r2) = true
  | 0, _ => c_2_1_0
  | 1, _ => c_2_1_1
  | 2, _ => c_2_1_2
  | n + 3, h => by omega
theorem all_2 : ∀ r1 : Nat, r1 < (2) → ∀ r2 : Nat, r2 < (3) → okR (runK 2 r1 r2) = true
  | 0, _ => all_2_0
  | 1, _ => all_2_1
  | n + 2, h => by omega
theorem all_3_0 : ∀ r2 : Nat, r2 < (3) → okR (runK 3 0 r2) = true
  | 0, _ => c_3_0_0
  | 1, _ => c_3_0_1
  | 2, _ => c_3_0_2
  | n + 3, h => by omega
theorem all_3_1 : ∀ r2 : Nat, r2 < (3) → okR (runK 3 1 r2) = true
  | 0, _ => c_3_1_0
  | 1, _ => c_3_1_1
  | 2, _ => c_3_1_2
  | n + 3, h => by omega
theorem all_3 : ∀ r1 : Nat, r1 < (2) → ∀ r2 : Nat, r2 < (3) → okR (runK 3 r1 r2) = true
  | 0, _ => all_3_0
  | 1, _ => all_3_1
  | n + 2, h => by omega
theorem all : ∀ r0 : Nat, r0 < (4) → ∀ r1 : Nat, r1 < (2) → ∀ r2 : Nat, r2 < (3) → okR (runK r0 r1 r2) = true
  | 0, _ => all_0
  | 1, _ => all_1
  | 2, _ => all_2
  | 3, _ => all_3
  | n + 4, h => by omega
def sgK (a0 : Int) (a1 : Int) : Nat → Int := fun i => if i = 0 then a0 else if i = 1 then a1 else 0
theorem walk (a0 : Int) (a1 : Int) (w0 : (Lit.int .i64 a0).wf = true) (w1 : (Lit.int .i64 a1).wf = true) (w : World) (hw : LaidW 1 LL w) :
    Calls Tryd.prog 5 #[.int .i64 a0, .int .i64 a1] w fun e w' => e = .returned (.bool true) ∧ Below w.heap.size w w' := by
  obtain ⟨r0, hr0, lr0⟩ := Wi_nat a0 (4) (by omega)
  obtain ⟨r1, hr1, lr1⟩ := Wi_nat a1 (2) (by omega)
  obtain ⟨r2, hr2, lr2⟩ := Wi_nat (IntKind.i64.wrap (a1.tdiv 2)) (3) (by omega)
  have hev := all r0 lr0 r1 lr1 r2 lr2
  have h := calls_fin (X := XW (tabK r0 r1 r2)) (N := 400) (args := [.float .f64 0, .float .f64 1]) (v := .bool true) (sg := sgK a0 a1) (tg := fun _ => .empty) funcs_ok' mixed (fun B => XW_sound (List.forall_mem_cons.2 ⟨row_ok (sg := sgK a0 a1) (i := 0) hr0 (by omega) (by omega), (List.forall_mem_cons.2 ⟨row_ok (sg := sgK a0 a1) (i := 1) hr1 (by omega) (by omega), (List.forall_mem_cons.2 ⟨row_ok (sg := sgK a0 a1) (i := 1001) hr2 (by omega) (by omega), (fun x hx => by cases hx)⟩)⟩)⟩)) LL_ok Tryd.func5 rfl rfl (okR_eq hev) rfl rfl w hw
  have hc : (⟨[.float .f64 0, .float .f64 1].map (con0 (sgK a0 a1) (fun _ => .empty))⟩ : Array Value) = #[.int .i64 a0, .int .i64 a1] := by simp [con0, con, sgK, dv]
  rw [hc] at h
  exact h
theorem own : ownKnob Tryd.prog.godebug = none := by kernel_rfl
def laidK : List (String × DataW Unit) := [("penance/term.shapes", Rows.laid_penance_term_shapes)]
theorem v0 : VarAt Tryd.prog laidK "penance/term.shapes" 0 Rows.laid_penance_term_shapes := ⟨by simp [laidK], rfl, by kernel_rfl⟩
theorem vTop : VarAt Tryd.prog laidK "penance/term.shapes" 0 Rows.laid_penance_term_shapes := ⟨by simp [laidK], rfl, by kernel_rfl⟩
theorem laidW {w : World} (h : laidMetH Tryd.prog laidK w) : LaidW 1 LL w := ⟨vTop.size h, fun x hx => by
    simp only [LL, List.mem_cons, List.not_mem_nil, or_false] at hx
    rcases hx with rfl
    · exact ⟨by decide, v0.cell h (n := 8) (by kernel_rfl) rfl⟩⟩
theorem door_met (os : Os) (args : Array Value) : laidMetH Tryd.prog laidK ((World.doorLaid Tryd.prog 400 os).forCall (fun _ _ => 0) ⟨#[], args, []⟩).memory :=
  laidMetH_of_parts3 (fuel := 8) (laidMet_of_run' 8 (by kernel_rfl) (by kernel_rfl)) (by kernel_rfl) (by kernel_rfl)
set_option maxRecDepth 100000 in
theorem lifted (os : Os) (started : os.Started) (H : Type) (enc : TypeId × Value → H) :
    ReturnsInHanded {} Tryd.checked os 5 .any (fun w args => (Rows.runSideSpec.pre enc Tryd.prog Tryd.f5 [] false w args ∧ laidMetH Tryd.prog laidK w) ∧ sizedMet enc Tryd.prog Tryd.f5 (OpenSpec.ofChange Rows.runSideSpec) false w args)
      (Rows.runSideSpec.post enc Tryd.prog Tryd.f5 false true false false) := by
  refine returnsInHanded_of_change_and (C := Tryd.checked) (X := fun w _ => laidMetH Tryd.prog laidK w) (fun _ _ _ hh h => h.of_heap hh) own started (by kernel_rfl) Tryd.func5
    (ChangeSpec.witness_shaped (enc := enc) (C := Tryd.checked) (os := os) (X := fun w _ => laidMetH Tryd.prog laidK w) false (World.doorLaid Tryd.prog 400 os) #[.int .i64 0, .int .i64 0] 8 rfl (World.shaped_of_RefB (by kernel_rfl) (by kernel_rfl)) (by kernel_rfl) (by kernel_rfl) (by kernel_rfl) (door_met os _)) ?_
  intro W base args ds gs before hval0 hW _ _ hL _
  have hval : ∀ (j : Nat) t v, Tryd.f5.params[j]? = some t → args[j]? = some v → Value.okWide Tryd.prog W .any base t v := hval0
  have hW' := hW
  obtain ⟨p, q, hA0, hV, rfl, hfz, hnd⟩ := hW
  have hA : DataW.TrodAll enc Tryd.prog W 0 (fun _ => true) true Tryd.f5.params.toList args.toList ds p := hA0
  rw [Tryd.params5] at hA hval
  obtain ⟨v0, vs0, d0, ds0, p0, q0, hargs, rfl, rfl, h0, r0⟩ := trodAll_cons hA
  obtain ⟨v1, vs1, d1, ds1, p1, q1, rfl, rfl, rfl, h1, r1⟩ := trodAll_cons r0
  obtain ⟨rfl, rfl, rfl⟩ := trodAll_nil r1
  obtain rfl : args = #[v0, v1] := by cases args; simp_all
  obtain ⟨rfl, rfl⟩ := trodVars_none hV
  obtain ⟨a0, rfl, rfl, rfl, w0⟩ := open_int Tryd.underlying3 (hval 0 3 v0 rfl rfl) h0
  obtain ⟨a1, rfl, rfl, rfl, w1⟩ := open_int Tryd.underlying3 (hval 1 3 v1 rfl rfl) h1
  clear hA0 hval0
  simp only [List.append_nil] at hW'
  refine (walk a0 a1 w0 w1 W (laidW hL)).mono fun e W' ⟨he, bel⟩ => ?_
  subst he
  exact ⟨_, rfl, _, _, _, [], _, [], hW', trodAll_mk1 (shut_bool Tryd.underlying4 _), (trodAll_cons_mk (shut_int Tryd.underlying3 w0) (trodAll_cons_mk (shut_int Tryd.underlying3 w1) trodAll_mk0)), rfl, bel.frame _, fun h => by cases h⟩

theorem over : Rows.runSideRow.holds Tryd.pinned (OpenSpec.ofChange Rows.runSideSpec) :=
  OpenClaim.holds_of_wide 5 Tryd.f5 rfl rfl rfl rfl rfl rfl rfl ⟨rfl, rfl, rfl, rfl, rfl⟩ rfl rfl rfl rfl rfl (by kernel_rfl) Tryd.func5 (by kernel_rfl)
    (of_decide_eq_true (by kernel_rfl)) (by unfold Func.isWrapper; first | (rw [if_pos (by decide +kernel)]; kernel_rfl) | (rw [if_neg (by decide +kernel)]; exact ⟨rfl, rfl⟩))
    (fun os started H enc _ => lifted os started H enc)

theorem bare : Rows.RunSideSaid :=
  over


theorem proved : Rows.RunSideCardSaid :=
  Claim7.holds_tied_plain_at .later [] [.data] true (true, "db80d303d78956f5c60dbb46b61a10e8afe86f6b64932a0123899d0fe454033c") false
    bare (fun _ h => by cases h) (by kernel_rfl) (fun _ h => by cases h) runSide_row_tie rfl ⟨rfl, rfl⟩ (by kernel_rfl) rfl
    (fun f fn hf hfn => by
      obtain rfl : f = 5 := Option.some.inj ((show Tryd.prog.funcNamed "penance/penancelaw8.RunSide" = some 5 by kernel_rfl).symm.trans hf) |>.symm
      obtain rfl : fn = Tryd.f5 := (Option.some.inj (Tryd.func5.symm.trans hfn)).symm
      exact ⟨by kernel_rfl, fun j t ht => by
        rw [Tryd.params5] at ht
        have hm : t ∈ [3, 3] := by simpa using Array.mem_of_getElem? ht
        have hall : ([3, 3].all fun u => !Tryd.prog.wantsStandIn u) = true := by kernel_rfl
        exact (show Tryd.prog.wantsStandIn t = false by simpa using List.all_eq_true.1 hall t hm)⟩)
    (by kernel_rfl)
end Go.Proofs.YtaagmjgilmpdjaaDoor.runSide
