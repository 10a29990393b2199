/-
  RunExit: however deep: an exit ends its block and all that is in it, and no more; in none it ends all.
  Condition: none beyond what the card ties (package variables as the program's text lays them).
-/
import Derived.Test.YtaagmjgilmpdjaaDoorRows
import Derived.Test.YtaagmjgilmpdjaaDoorTie
import Derived.Test.YtaagmjgilmpdjaaDoorCards
import Derived.SevenTiedAt
import Derived.LaidMore
import Derived.Stop.Joined
import Derived.Test.YtaagmjgilmpdjaaDoorExit0
import Derived.Test.YtaagmjgilmpdjaaDoorExit1
import Derived.Test.YtaagmjgilmpdjaaDoorExit2
import Derived.Test.YtaagmjgilmpdjaaDoorExit3
import Derived.Test.YtaagmjgilmpdjaaDoorExit4
import Derived.ProofKit
import Derived.OpenShut
namespace Go.Proofs.YtaagmjgilmpdjaaDoor.runExit
open Go Go.ChangeShapes Go.WideShapes Go.ChangeAt Go.RowKit Go.Ev
set_option linter.unusedVariables false
set_option maxRecDepth 100000
theorem all_0_t : ∀ b2 : Bool, okR (runK 0 true b2) = true
  | true => c_0_t_t
  | false => c_0_t_f
theorem all_0_f : ∀ b2 : Bool, okR (runK 0 false b2) = true
  | true => c_0_f_t
  | false => c_0_f_f
theorem all_0 : ∀ b1 : Bool, ∀ b2 : Bool, okR (runK 0 b1 b2) = true
  | true => all_0_t
  | false => all_0_f
theorem all_1_t : ∀ b2 : Bool, okR (runK 1 true b2) = true
  | true => c_1_t_t
  | false => c_1_t_f
theorem all_1_f : ∀ b2 : Bool, okR (runK 1 false b2) = true
  | true => c_1_f_t
  | false => c_1_f_f
theorem all_1 : ∀ b1 : Bool, ∀ b2 : Bool, okR (runK 1 b1 b2) = true
  | true => all_1_t
  | false => all_1_f
theorem all_2_t : ∀ b2 : Bool, okR (runK 2 true b2) = true
  | true => c_2_t_t
  | false => c_2_t_f
theorem all_2_f : ∀ b2 : Bool, okR (runK 2 false b2) = true
  | true => c_2_f_t
  | false => c_2_f_f
theorem all_2 : ∀ b1 : Bool, ∀ b2 : Bool, okR (runK 2 b1 b2) = true
  | true => all_2_t
  | false => all_2_f
theorem all_3_t : ∀ b2 : Bool, okR (runK 3 true b2) = true
  | true => c_3_t_t
  | false => c_3_t_f
theorem all_3_f : ∀ b2 : Bool, okR (runK 3 false b2) = true
  | true => c_3_f_t
  | false => c_3_f_f
theorem all_3 : ∀ b1 : Bool, ∀ b2 : Bool, okR (runK 3 b1 b2) = true
  | true => all_3_t
  | false => all_3_f
theorem all_4_t : ∀ b2 : Bool, okR (runK 4 true b2) = true
  | true => c_4_t_t
  | false => c_4_t_f
theorem all_4_f : ∀ b2 : Bool, okR (runK 4 false b2) = true
  | true => c_4_f_t
  | false => c_4_f_f
theorem all_4 : ∀ b1 : Bool, ∀ b2 : Bool, okR (runK 4 b1 b2) = true
  | true => all_4_t
  | false => all_4_f
theorem all : ∀ r0 : Nat, r0 < (5) → ∀ b1 : Bool, ∀ b2 : Bool, okR (runK r0 b1 b2) = true
  | 0, _ => all_0
  | 1, _ => all_1
  | 2, _ => all_2
  | 3, _ => all_3
  | 4, _ => all_4
  | n + 5, h => by omega
def sgK (a0 : Int) : Nat → Int := fun i => if i = 0 then a0 else 0
theorem walk (a0 : Int) (a1 : Bool) (a2 : Bool) (w0 : (Lit.int .i64 a0).wf = true) (w : World) (hw : LaidW 1 LL w) :
    Calls Tryd.prog 4 #[.int .i64 a0, .bool a1, .bool a2] w fun e w' => e = .returned (.bool true) ∧ Below w.heap.size w w' := by
  obtain ⟨r0, hr0, lr0⟩ := Wi_nat a0 (5) (by omega)
  have hev := all r0 lr0 a1 a2
  have h := calls_fin (X := XW (tabK r0 a1 a2)) (N := 400) (args := [.float .f64 0, .bool a1, .bool a2]) (v := .bool true) (sg := sgK a0) (tg := fun _ => .empty) funcs_ok' mixed (fun B => XW_sound (List.forall_mem_cons.2 ⟨row_ok (sg := sgK a0) (i := 0) hr0 (by omega) (by omega), (fun x hx => by cases hx)⟩)) LL_ok Tryd.func4 rfl rfl (okR_eq hev) rfl rfl w hw
  have hc : (⟨[.float .f64 0, .bool a1, .bool a2].map (con0 (sgK a0) (fun _ => .empty))⟩ : Array Value) = #[.int .i64 a0, .bool a1, .bool a2] := by simp [con0, con, sgK]
  rw [hc] at h
  exact h
theorem own : ownKnob Tryd.prog.godebug = none := by kernel_rfl
def laidK : List (String × DataW Unit) := [("penance/term.shapes", Rows.laid_penance_term_shapes)]
theorem v0 : VarAt Tryd.prog laidK "penance/term.shapes" 0 Rows.laid_penance_term_shapes := ⟨by simp [laidK], rfl, by kernel_rfl⟩
theorem vTop : VarAt Tryd.prog laidK "penance/term.shapes" 0 Rows.laid_penance_term_shapes := ⟨by simp [laidK], rfl, by kernel_rfl⟩
theorem laidW {w : World} (h : laidMetH Tryd.prog laidK w) : LaidW 1 LL w := ⟨vTop.size h, fun x hx => by
    simp only [LL, List.mem_cons, List.not_mem_nil, or_false] at hx
    rcases hx with rfl
    · exact ⟨by decide, v0.cell h (n := 8) (by kernel_rfl) rfl⟩⟩
theorem door_met (os : Os) (args : Array Value) : laidMetH Tryd.prog laidK ((World.doorLaid Tryd.prog 400 os).forCall (fun _ _ => 0) ⟨#[], args, []⟩).memory :=
  laidMetH_of_parts3 (fuel := 8) (laidMet_of_run' 8 (by kernel_rfl) (by kernel_rfl)) (by kernel_rfl) (by kernel_rfl)
set_option maxRecDepth 100000 in
theorem lifted (os : Os) (started : os.Started) (H : Type) (enc : TypeId × Value → H) :
    ReturnsInHanded {} Tryd.checked os 4 .any (fun w args => (Rows.runExitSpec.pre enc Tryd.prog Tryd.f4 [] false w args ∧ laidMetH Tryd.prog laidK w) ∧ sizedMet enc Tryd.prog Tryd.f4 (OpenSpec.ofChange Rows.runExitSpec) false w args)
      (Rows.runExitSpec.post enc Tryd.prog Tryd.f4 false true false false) := by
  refine returnsInHanded_of_change_and (C := Tryd.checked) (X := fun w _ => laidMetH Tryd.prog laidK w) (fun _ _ _ hh h => h.of_heap hh) own started (by kernel_rfl) Tryd.func4
    (ChangeSpec.witness_shaped (enc := enc) (C := Tryd.checked) (os := os) (X := fun w _ => laidMetH Tryd.prog laidK w) false (World.doorLaid Tryd.prog 400 os) #[.int .i64 0, .bool false, .bool false] 8 rfl (World.shaped_of_RefB (by kernel_rfl) (by kernel_rfl)) (by kernel_rfl) (by kernel_rfl) (by kernel_rfl) (door_met os _)) ?_
  intro W base args ds gs before hval0 hW _ _ hL _
  have hval : ∀ (j : Nat) t v, Tryd.f4.params[j]? = some t → args[j]? = some v → Value.okWide Tryd.prog W .any base t v := hval0
  have hW' := hW
  obtain ⟨p, q, hA0, hV, rfl, hfz, hnd⟩ := hW
  have hA : DataW.TrodAll enc Tryd.prog W 0 (fun _ => true) true Tryd.f4.params.toList args.toList ds p := hA0
  rw [Tryd.params4] at hA hval
  obtain ⟨v0, vs0, d0, ds0, p0, q0, hargs, rfl, rfl, h0, r0⟩ := trodAll_cons hA
  obtain ⟨v1, vs1, d1, ds1, p1, q1, rfl, rfl, rfl, h1, r1⟩ := trodAll_cons r0
  obtain ⟨v2, vs2, d2, ds2, p2, q2, rfl, rfl, rfl, h2, r2⟩ := trodAll_cons r1
  obtain ⟨rfl, rfl, rfl⟩ := trodAll_nil r2
  obtain rfl : args = #[v0, v1, v2] := by cases args; simp_all
  obtain ⟨rfl, rfl⟩ := trodVars_none hV
  obtain ⟨a0, rfl, rfl, rfl, w0⟩ := open_int Tryd.underlying3 (hval 0 3 v0 rfl rfl) h0
  obtain ⟨a1, rfl, rfl, rfl⟩ := open_bool Tryd.underlying4 (hval 1 4 v1 rfl rfl) h1
  obtain ⟨a2, rfl, rfl, rfl⟩ := open_bool Tryd.underlying4 (hval 2 4 v2 rfl rfl) h2
  clear hA0 hval0
  simp only [List.append_nil] at hW'
  refine (walk a0 a1 a2 w0 W (laidW hL)).mono fun e W' ⟨he, bel⟩ => ?_
  subst he
  exact ⟨_, rfl, _, _, _, [], _, [], hW', trodAll_mk1 (shut_bool Tryd.underlying4 _), (trodAll_cons_mk (shut_int Tryd.underlying3 w0) (trodAll_cons_mk (shut_bool Tryd.underlying4 _) (trodAll_cons_mk (shut_bool Tryd.underlying4 _) trodAll_mk0))), rfl, bel.frame _, fun h => by cases h⟩

theorem over : Rows.runExitRow.holds Tryd.pinned (OpenSpec.ofChange Rows.runExitSpec) :=
  OpenClaim.holds_of_wide 4 Tryd.f4 rfl rfl rfl rfl rfl rfl rfl ⟨rfl, rfl, rfl, rfl, rfl⟩ rfl rfl rfl rfl rfl (by kernel_rfl) Tryd.func4 (by kernel_rfl)
    (of_decide_eq_true (by kernel_rfl)) (by unfold Func.isWrapper; first | (rw [if_pos (by decide +kernel)]; kernel_rfl) | (rw [if_neg (by decide +kernel)]; exact ⟨rfl, rfl⟩))
    (fun os started H enc _ => lifted os started H enc)

theorem bare : Rows.RunExitSaid :=
  over


theorem proved : Rows.RunExitCardSaid :=
  Claim7.holds_tied_plain_at .later [] [.data] true (true, "db80d303d78956f5c60dbb46b61a10e8afe86f6b64932a0123899d0fe454033c") false
    bare (fun _ h => by cases h) (by kernel_rfl) (fun _ h => by cases h) runExit_row_tie rfl ⟨rfl, rfl⟩ (by kernel_rfl) rfl
    (fun f fn hf hfn => by
      obtain rfl : f = 4 := Option.some.inj ((show Tryd.prog.funcNamed "penance/penancelaw8.RunExit" = some 4 by kernel_rfl).symm.trans hf) |>.symm
      obtain rfl : fn = Tryd.f4 := (Option.some.inj (Tryd.func4.symm.trans hfn)).symm
      exact ⟨by kernel_rfl, fun j t ht => by
        rw [Tryd.params4] at ht
        have hm : t ∈ [3, 4, 4] := by simpa using Array.mem_of_getElem? ht
        have hall : ([3, 4, 4].all fun u => !Tryd.prog.wantsStandIn u) = true := by kernel_rfl
        exact (show Tryd.prog.wantsStandIn t = false by simpa using List.all_eq_true.1 hall t hm)⟩)
    (by kernel_rfl)
end Go.Proofs.YtaagmjgilmpdjaaDoor.runExit
