/-
  Contracts of this seat's functions that other texts take: the two withins, the two knowns.
-/
import Derived.Test.YthbcjplkceemcaaProg
import Derived.Test.YthbcjplkceemcaaEv
import Derived.KernelRfl
import Derived.WalkKit
import Derived.WalkSpells
namespace Go.Proofs.Ythbcjplkceemcaa
open Go.RowKit Go.Ev

def Wi (a m : Int) : Int := if a.tmod m < 0 then a.tmod m + m else a.tmod m

theorem Wi_range (a m : Int) (h1 : 1 ≤ m) : 0 ≤ Wi a m ∧ Wi a m < m := by
  have hlt := Int.tmod_lt_of_pos a (show 0 < m by omega)
  have hgt := Int.lt_tmod_of_pos a (show 0 < m by omega)
  unfold Wi
  split <;> omega

theorem Wi_nat (a : Int) (m : Nat) (h1 : 1 ≤ m) : ∃ r : Nat, Wi a m = r ∧ r < m := by
  have := Wi_range a m (by omega)
  exact ⟨(Wi a m).toNat, by omega, by omega⟩

theorem within6_calls (a m : Int) (w : World) (h1 : 1 ≤ m) (h2 : m ≤ 4611686018427387904) :
    Calls Try.prog 8 #[.int .i64 a, .int .i64 m] w fun e w' => e = .returned (.int .i64 (Wi a m)) ∧ w = w' := by
  have hlt := Int.tmod_lt_of_pos a (show 0 < m by omega)
  have hgt : -m < a.tmod m := by
    have := Int.lt_tmod_of_pos a (show 0 < m by omega)
    omega
  by_cases h : a.tmod m < 0
  · have hW : Wi a m = a.tmod m + m := by rw [Wi, if_pos h]
    rw [hW]
    clear hW
    go_enter Try.func8, Try.ntmps8
    go_wp2
    go_ret
    exact ⟨rfl, rfl⟩
  · have hW : Wi a m = a.tmod m := by rw [Wi, if_neg h]
    rw [hW]
    clear hW
    go_enter Try.func8, Try.ntmps8
    go_wp2
    go_ret
    exact ⟨rfl, rfl⟩

theorem within7_calls (a m : Int) (w : World) (h1 : 1 ≤ m) (h2 : m ≤ 4611686018427387904) :
    Calls Try.prog 13 #[.int .i64 a, .int .i64 m] w fun e w' => e = .returned (.int .i64 (Wi a m)) ∧ w = w' := by
  have hlt := Int.tmod_lt_of_pos a (show 0 < m by omega)
  have hgt : -m < a.tmod m := by
    have := Int.lt_tmod_of_pos a (show 0 < m by omega)
    omega
  by_cases h : a.tmod m < 0
  · have hW : Wi a m = a.tmod m + m := by rw [Wi, if_pos h]
    rw [hW]
    clear hW
    go_enter Try.func13, Try.ntmps13
    go_wp2
    go_ret
    exact ⟨rfl, rfl⟩
  · have hW : Wi a m = a.tmod m := by rw [Wi, if_neg h]
    rw [hW]
    clear hW
    go_enter Try.func13, Try.ntmps13
    go_wp2
    go_ret
    exact ⟨rfl, rfl⟩

theorem funcs_ok : Try.prog.funcs.all (okFunc 0) = true := by kernel_rfl
theorem mixed : Try.prog.follows .mixedOrders = true := by kernel_rfl

theorem funcs_ok' (g : Nat) (fn : Func) (h : Try.prog.funcs[g]? = some fn) : okFunc 0 fn = true := by
  have := funcs_ok
  rw [Array.all_eq_true_iff_forall_mem] at this
  exact this fn (Array.mem_of_getElem? h)

/-- Nothing stands for a function. -/
def X0 : Ext := fun _ _ => none

theorem ok0 (sg : Nat → Int) (tg : Nat → ByteArray) (B : Nat) : Ok ⟨Try.prog, 0, 0, B, sg, tg⟩ X0 where
  funcs := funcs_ok'
  mixed := mixed
  ext := by
    intro g args v h Γ w _ _
    cases h

theorem known6_ev : (evCall Try.prog X0 (evC Try.prog X0 300) 7 [] h0).map (·.1) = some (.bool true) := by kernel_rfl

theorem known6_calls (w : World) : Calls Try.prog 7 #[] w fun e w' => e = .returned (.bool true) ∧ Below w.heap.size w w' := by
  have h := calls_of_ev (X := X0) (N := 300) (args := []) (v := .bool true) (fun B => ok0 (fun _ => 0) (fun _ => .empty) B) Try.func7 rfl rfl known6_ev rfl rfl w
  simpa using h

def okR : Option (Value × Heap) → Bool | some (.bool true, _) => true | _ => false
theorem okR_eq {x : Option (Value × Heap)} (h : okR x = true) : x.map (·.1) = some (.bool true) := by
  unfold okR at h
  split at h
  · rfl
  · cases h
end Go.Proofs.Ythbcjplkceemcaa
