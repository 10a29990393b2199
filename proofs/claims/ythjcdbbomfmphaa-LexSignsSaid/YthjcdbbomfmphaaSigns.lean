/-
  A part of the proof: what the program's functions hand back, as theorems. No condition but those that each theorem names.
-/
import Derived.Test.YthjcdbbomfmphaaLxg
import Derived.Test.YthjcdbbomfmphaaEvd
import Derived.ChangeMaps5
import Derived.Test.YthjcdbbomfmphaaRows
import Derived.ProofKit
import Derived.OpenShut
import Derived.Carry
import Derived.SizedLaws
set_option linter.unusedSimpArgs false
set_option linter.unusedVariables false
namespace Go.Proofs.Ythjcdbbomfmphaa.lexSigns
open Go.ChangeShapes Go.WideShapes Go.ChangeAt Go.RowKit Go.Ev
set_option linter.unusedVariables false
set_option maxRecDepth 100000

theorem own : ownKnob Try.prog.godebug = none := by kernel_rfl
theorem laid : laidOutB Try.prog = true := by kernel_rfl

theorem base_sl {W : World} {b off len : Nat} {zs : List Int} (hl : len ≤ zs.length) (hc : ∀ i, i < zs.length → W.cell? ((⟨b, off, none⟩ : Addr).add i) = some (.int .i64 (zs.getD i 0))) :
    Sl (baseH W) (some ⟨b, off, none⟩) (ivs (zs.take len)) := by
  have hlen : (ivs (zs.take len)).length = len := by rw [ivs_len, List.length_take]; omega
  cases hz : len with
  | zero => subst hz; exact Sl.nil _ (spotN_s b off)
  | succ m =>
    have key : ∀ i, i < len → ∃ cs e, cells (baseH W) b = some (cs, e, false) ∧ cs[off + i]? = some (.int .i64 (zs.getD i 0)) := fun i hi => by
      have h1 := hc i (by omega)
      rw [addr_add] at h1
      exact baseH_cell h1 rfl rfl rfl
    obtain ⟨cs, e, h1, h2⟩ := key 0 (by omega)
    have all : ∀ i, i < len → cs[off + i]? = some (.int .i64 (zs.getD i 0)) := fun i hi => by
      obtain ⟨cs', e', h3, h4⟩ := key i hi
      rw [h1] at h3
      cases h3
      exact h4
    have hle : off + len ≤ cs.length := by
      have := (List.getElem?_eq_some_iff.1 (all (len - 1) (by omega))).1
      omega
    rw [← hz]
    refine .inr ⟨b, off, cs, e, false, rfl, h1, by rw [hlen]; exact hle, ?_, .inr ?_⟩
    · rw [hlen]
      apply List.ext_getElem?
      intro i
      by_cases hi : i < len
      · rw [List.getElem?_take, if_pos hi, List.getElem?_drop, all i hi, ivs_get (by rw [List.length_take]; omega)]
        simp only [List.getD_eq_getElem?_getD, List.getElem?_take, if_pos hi]
      · rw [List.getElem?_eq_none (by rw [List.length_take]; omega), List.getElem?_eq_none (by rw [hlen]; omega)]
    · generalize zs.take len = ys
      induction ys with
      | nil => rfl
      | cons y ys ih => exact foneL_cons _ _ _ rfl ih

theorem lifted (os : Os) (started : os.Started) (H : Type) (enc : TypeId × Value → H) :
    ReturnsInHanded {} Try.checked os 3 .any (Rows.lexSignsSpec.pre6 enc Try.prog Try.f3 Rows.lexSignsRow.domain false) (Rows.lexSignsSpec.post enc Try.prog Try.f3 false true false false) := by
  refine returnsInHanded_of_change_sized (C := Try.checked) own started (by kernel_rfl) Try.func3
    (ChangeSpec.witness6 (enc := enc) (C := Try.checked) false ⟨#[], #[.slice none 0 0, .int .i64 0, .int .u8 0, .int .i64 0, .string .empty, .string .empty], []⟩ 8 (by kernel_rfl) (by kernel_rfl) (by kernel_rfl) (by kernel_rfl)) ?_
  intro W base args ds gs before hval0 hW hcnd hsz _
  have hval : ∀ (j : Nat) t v, Try.f3.params[j]? = some t → args[j]? = some v → Value.okWide Try.prog W .any base t v := hval0
  have hW' := hW
  have hlt := hW.lt
  obtain ⟨p, q, hA0, hV, rfl, hfz, hnd⟩ := hW
  have hA : DataW.TrodAll enc Try.prog W 0 (fun _ => true) true Try.f3.params.toList args.toList ds p := hA0
  rw [Try.params3] at hA hval
  obtain ⟨v0, vs0, d0, ds0, p0, q0, hargs, rfl, rfl, h0, r0⟩ := trodAll_cons hA
  obtain ⟨v1, vs1, d1, ds1, p1, q1, rfl, rfl, rfl, h1, r1⟩ := trodAll_cons r0
  obtain ⟨v2, vs2, d2, ds2, p2, q2, rfl, rfl, rfl, h2, r2⟩ := trodAll_cons r1
  obtain ⟨v3, vs3, d3, ds3, p3, q3, rfl, rfl, rfl, h3, r3⟩ := trodAll_cons r2
  obtain ⟨v4, vs4, d4, ds4, p4, q4, rfl, rfl, rfl, h4, r4⟩ := trodAll_cons r3
  obtain ⟨v5, vs5, d5, ds5, p5, q5, rfl, rfl, rfl, h5, r5⟩ := trodAll_cons r4
  obtain ⟨rfl, rfl, rfl⟩ := trodAll_nil r5
  obtain rfl : args = #[v0, v1, v2, v3, v4, v5] := by cases args; simp_all
  obtain ⟨rfl, rfl⟩ := trodVars_none hV
  have hv0 := hval 0 22 v0 rfl rfl
  obtain ⟨a1, len1, cap1, rfl⟩ := okWide_slice Try.underlying22 hv0
  have h1' := h1
  have h2' := h2
  have h0' := h0
  have h3' := h3
  have h4' := h4
  have h5' := h5
  obtain ⟨n1, rfl, _, _, _⟩ := open_int Try.underlying3 (hval 1 3 v1 rfl rfl) h1
  obtain ⟨n2, rfl, _, _, _⟩ := open_int Try.underlying5 (hval 2 5 v2 rfl rfl) h2
  obtain ⟨n3, rfl, _, _, _⟩ := open_int Try.underlying3 (hval 3 3 v3 rfl rfl) h3
  obtain ⟨m4, rfl, _⟩ := Go.ChangeMaps.open_string Try.underlying9 (hval 4 9 v4 rfl rfl) h4
  obtain ⟨m5, rfl, _⟩ := Go.ChangeMaps.open_string Try.underlying9 (hval 5 9 v5 rfl rfl) h5
  obtain ⟨fuel, hf⟩ := h0
  have hrun : Calls Try.prog 3 #[.slice a1 len1 cap1, .int .i64 n1, .int .u8 n2, .int .i64 n3, .string m4, .string m5] W fun e W' => e = .returned (.bool true) ∧ Below W.heap.size W W' := by
    obtain ⟨⟨M⟩⟩ := m4
    obtain ⟨⟨R⟩⟩ := m5
    rcases open_ints (k := .i64) Try.underlying22 Try.underlying3 (by kernel_rfl) hf with ⟨h1, _⟩ | ⟨a, len, cap, zs, h1, _, hle, hmx, hzl, hx, hcells, _⟩
    · cases h1
      exact calls_of_callE (P := Try.prog) (NG := 0) (s := fun _ => 0) (t := fun _ => .empty) (Nat.zero_le _) (lsigns_w W.heap.size (baseH W) [] none 0 (Sl.nil _ spotN_n) (fun b hb => by obtain ⟨o, s, hb⟩ := hb; cases hb) n1 n2 n3 M R) rfl rfl rfl
    · cases h1
      simp only [Value.okWide, Try.underlying22, Cell.okWide, Cell.ok, World.has] at hv0
      obtain ⟨_, _, _, hspot, row, cells', hshape, _⟩ := hv0
      obtain ⟨b, off, sp⟩ := a
      have hspot : sp = none := hspot
      subst hspot
      have hbl : b < W.heap.size := by
        rcases Nat.lt_or_ge b W.heap.size with h2 | h2
        · exact h2
        · simp [World.shape?, Array.getElem?_eq_none h2] at hshape
      have hzl : zs.length = cap1 := hzl
      have hcap : cap1 < UC := by
        have h3 := sized_slice hsz (j := 0) (t := 22) (e := 3) (elems := lits .i64 (zs.take len1)) (spare := lits .i64 (zs.drop len1)) rfl (by cases hx; rfl) Try.underlying22
        have h4 : Try.checked.prog.bytesOf 3 = 8 := by kernel_rfl
        rw [h4] at h3
        simp only [lits, List.length_map, List.length_take, List.length_drop] at h3
        have h5 : reachBytes = 140737488351232 := rfl
        have h6 := U_UC
        unfold U at h6
        omega
      have hlen : (zs.take len1).length = len1 := by rw [List.length_take]; omega
      have hsl := base_sl (W := W) (b := b) (off := off) (len := len1) (zs := zs) (by omega) hcells
      have hcall := lsigns_w W.heap.size (baseH W) (zs.take len1) (some ⟨b, off, none⟩) cap1 hsl (fun b' hb => by obtain ⟨o, s, hb⟩ := hb; cases hb; exact hbl) n1 n2 n3 M R
      rw [hlen] at hcall
      exact calls_of_callE (P := Try.prog) (NG := 0) (s := fun _ => 0) (t := fun _ => .empty) (Nat.zero_le _) hcall (by simp only [plL, pl, Bool.and_true]; simpa using hcap) (by simp only [scL, sc, scA, Bool.and_true]; simpa using hbl) rfl
  refine hrun.mono fun e W' ⟨he, bel⟩ => ?_
  subst he
  exact ⟨_, rfl, _, _, _, [], _, [], hW', trodAll_mk1 (shut_bool Try.underlying4 _), trodAll_cons_mk (Below.trod laid (by kernel_rfl) (of_decide_eq_true (by kernel_rfl)) h0' bel (fun x hx => hlt x (by simp [hx]))) (trodAll_cons_mk (Below.trod laid (by kernel_rfl) (of_decide_eq_true (by kernel_rfl)) h1' bel (fun x hx => hlt x (by simp [hx]))) (trodAll_cons_mk (Below.trod laid (by kernel_rfl) (of_decide_eq_true (by kernel_rfl)) h2' bel (fun x hx => hlt x (by simp [hx]))) (trodAll_cons_mk (Below.trod laid (by kernel_rfl) (of_decide_eq_true (by kernel_rfl)) h3' bel (fun x hx => hlt x (by simp [hx]))) (trodAll_cons_mk (Below.trod laid (by kernel_rfl) (of_decide_eq_true (by kernel_rfl)) h4' bel (fun x hx => hlt x (by simp [hx]))) (trodAll_cons_mk (Below.trod laid (by kernel_rfl) (of_decide_eq_true (by kernel_rfl)) h5' bel (fun x hx => hlt x (by simp [hx]))) trodAll_mk0))))), rfl, bel.frame _, fun h => by cases h⟩

theorem over : Rows.lexSignsRow.holds Try.pinned (OpenSpec.ofChange Rows.lexSignsSpec) :=
  OpenClaim.holds_of_wide 3 Try.f3 rfl rfl rfl rfl rfl rfl rfl ⟨rfl, rfl, rfl, rfl, rfl⟩ rfl rfl rfl rfl rfl (by kernel_rfl) Try.func3 (by kernel_rfl)
    (of_decide_eq_true (by kernel_rfl)) (by unfold Func.isWrapper; first | (rw [if_pos (by decide +kernel)]; kernel_rfl) | (rw [if_neg (by decide +kernel)]; exact ⟨rfl, rfl⟩))
    (fun os started H enc _ => lifted os started H enc)

theorem proved : Rows.LexSignsSaid :=
  over
end Go.Proofs.Ythjcdbbomfmphaa.lexSigns
