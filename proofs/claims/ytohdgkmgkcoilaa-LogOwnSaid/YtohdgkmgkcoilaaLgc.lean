/-
  A part of the proof: what the program's functions hand back, as theorems. No condition but those that each theorem names.
-/
import Derived.Test.YtohdgkmgkcoilaaLgb
set_option linter.unusedSimpArgs false
set_option linter.unusedVariables false
namespace Go.Proofs.Ytohdgkmgkcoilaa
open Go Go.RowKit Go.Ev
noncomputable section
set_option linter.unusedSimpArgs false
set_option linter.unusedVariables false
variable (G : Nat) (h : Heap)

/-- numbers as cells -/
def ivs (xs : List Int) : List Value := xs.map (Value.int .i64)
theorem ivs_get {xs : List Int} {i : Nat} (hi : i < xs.length) : (ivs xs)[i]? = some (.int .i64 (xs.getD i 0)) := by
  simp only [ivs, List.getElem?_map, List.getElem?_eq_getElem hi, Option.map_some, List.getD_eq_getElem?_getD, Option.getD_some]
theorem ivs_len (xs : List Int) : (ivs xs).length = xs.length := by simp [ivs]
theorem Sl_ld {h : Heap} {b off : Nat} {cs : List Value} (hs : Sl h (some ⟨b, off, none⟩) cs) {i : Nat} {v : Value} (hv : cs[i]? = some v) :
    ldC (some (false, 0)) (off + i) h.lo b (cells h b) = some v := by
  obtain ⟨b', off', e, hl⟩ := hs.load T_knd_3 hv
  cases e
  rw [load_eq, T_knd_3] at hl
  exact hl
theorem repl_flat (k : Nat) : (List.replicate k [Value.int .u8 0]).flatten = bv (List.replicate k 0) := by
  induction k with
  | zero => rfl
  | succ k ih => rw [List.replicate_succ, List.flatten_cons, ih, List.replicate_succ]; rfl

end
end Go.Proofs.Ytohdgkmgkcoilaa
