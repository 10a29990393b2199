/-
  What other texts of this seat take: the function 'within' at any number, 'known', the functions without a body. No condition but those that each theorem names.
-/
import Derived.Test.YtaagmjgilmpdjaaDoorEvb
import Derived.Test.YtaagmjgilmpdjaaDoorProg
import Derived.KernelRfl
import Derived.WalkKit
import Derived.WalkSpells
namespace Go.Proofs.YtaagmjgilmpdjaaDoor
open Go Go.RowKit Go.Ev
set_option maxRecDepth 100000
noncomputable section

def Wi (a m : Int) : Int := if a.tmod m < 0 then a.tmod m + m else a.tmod m
theorem Wi_range (a m : Int) (h1 : 1 ≤ m) : 0 ≤ Wi a m ∧ Wi a m < m := by
  have hlt := Int.tmod_lt_of_pos a (show 0 < m by omega)
  have hgt := Int.lt_tmod_of_pos a (show 0 < m by omega)
  unfold Wi
  split <;> omega
theorem Wi_nat (a : Int) (m : Nat) (h1 : 1 ≤ m) : ∃ r : Nat, Wi a m = r ∧ r < m := by
  have := Wi_range a m (by omega)
  exact ⟨(Wi a m).toNat, by omega, by omega⟩

theorem within_calls (a m : Int) (w : World) (h1 : 1 ≤ m) (h2 : m ≤ 4611686018427387904) :
    Calls Tryd.prog 7 #[.int .i64 a, .int .i64 m] w fun e w' => e = .returned (.int .i64 (Wi a m)) ∧ w = w' := by
  have hlt := Int.tmod_lt_of_pos a (show 0 < m by omega)
  have hgt : -m < a.tmod m := by
    have := Int.lt_tmod_of_pos a (show 0 < m by omega)
    omega
  by_cases h : a.tmod m < 0
  · have hW : Wi a m = a.tmod m + m := by rw [Wi, if_pos h]
    rw [hW]
    clear hW
    go_enter Tryd.func7, Tryd.ntmps7
    go_wp2
    go_ret
    exact ⟨rfl, rfl⟩
  · have hW : Wi a m = a.tmod m := by rw [Wi, if_neg h]
    rw [hW]
    clear hW
    go_enter Tryd.func7, Tryd.ntmps7
    go_wp2
    go_ret
    exact ⟨rfl, rfl⟩

theorem funcs_ok : Tryd.prog.funcs.all (okFunc 1) = true := by kernel_rfl
theorem mixed : Tryd.prog.follows .mixedOrders = true := by kernel_rfl
theorem funcs_ok' (g : Nat) (fn : Func) (h : Tryd.prog.funcs[g]? = some fn) : okFunc 1 fn = true := by
  have := funcs_ok
  rw [Array.all_eq_true_iff_forall_mem] at this
  exact this fn (Array.mem_of_getElem? h)

/-- what the package variables that are read hold -/
def LL : List (Nat × List Value) := [(0, [.int .i64 0, .int .i64 0, .int .i64 0, .int .i64 0, .int .i64 0, .int .i64 2, .int .i64 0, .int .i64 1, .int .i64 0, .int .i64 0, .int .i64 1, .int .i64 0, .int .i64 0, .int .i64 1, .int .i64 0, .int .i64 3, .int .i64 0, .int .i64 0, .int .i64 0, .int .i64 1, .int .i64 3, .int .i64 0, .int .i64 0, .int .i64 0, .int .i64 0, .int .i64 3, .int .i64 0, .int .i64 0, .int .i64 0, .int .i64 0, .int .i64 3, .int .i64 3, .int .i64 0, .int .i64 0, .int .i64 0, .int .i64 0, .int .i64 0, .int .i64 0, .int .i64 0, .int .i64 1, .int .i64 0, .int .i64 0, .int .i64 0, .int .i64 0, .int .i64 0, .int .i64 0, .int .i64 0, .int .i64 0, .int .i64 1, .int .i64 2, .int .i64 0, .int .i64 0, .int .i64 0, .int .i64 0, .int .i64 2, .int .i64 0, .int .i64 0, .int .i64 0, .int .i64 0, .int .i64 2, .int .i64 0, .int .i64 0, .int .i64 0, .int .i64 0, .int .i64 2, .int .i64 4, .int .i64 0, .int .i64 0, .int .i64 0, .int .i64 0, .int .i64 5, .int .i64 2, .int .i64 1, .int .i64 0, .int .i64 0])]
theorem LL_ok : okPl 1 LL = true := by kernel_rfl

def X0 : Ext := noX
theorem X0_sound (sg : Nat → Int) (tg : Nat → ByteArray) (B : Nat → Prop) : SoundX ⟨Tryd.prog, 1, 1, B, sg, tg⟩ X0 := noX_sound _

theorem known_ev : (evCall Tryd.prog X0 (evC Tryd.prog X0 400) 6 [] (laidHeap 1 LL)).map (·.1) = some (.bool true) := by kernel_rfl
theorem known_calls (w : World) (hw : LaidW 1 LL w) : Calls Tryd.prog 6 #[] w fun e w' => e = .returned (.bool true) ∧ Below w.heap.size w w' := by
  have h := calls_fin (X := X0) (N := 400) (args := []) (v := .bool true) funcs_ok' mixed (X0_sound (fun _ => 0) (fun _ => .empty)) LL_ok Tryd.func6 rfl rfl known_ev rfl rfl w hw
  simpa using h

def XW (t : List (List Value × Value)) : Ext := orX (knownX 6 LL) (orX (tabX 7 t) X0)
theorem XW_sound {t : List (List Value × Value)} {sg : Nat → Int} {tg : Nat → ByteArray} {B : Nat → Prop} (ht : ∀ x ∈ t, flat x.2 = true ∧ ∀ (Γ : Gam) (w : World), Γ.s = sg → Γ.t = tg →
    Calls Tryd.prog 7 ⟨x.1.map (con Γ)⟩ w fun e w' => e = .returned x.2 ∧ Below w.heap.size w w') : SoundX ⟨Tryd.prog, 1, 1, B, sg, tg⟩ (XW t) :=
  orX_sound (knownX_sound rfl rfl LL_ok (by kernel_rfl) known_calls) (orX_sound (tabX_sound (by kernel_rfl) ht) (X0_sound sg tg B))

/-- a row of the table: a number's residue -/
theorem row_ok {sg : Nat → Int} {tg : Nat → ByteArray} {i : Nat} {m : Int} {r : Nat} (h : Wi (dv sg i) m = r) (h1 : 1 ≤ m) (h2 : m ≤ 4611686018427387904) :
    flat (.int .i64 r) = true ∧ ∀ (Γ : Gam) (w : World), Γ.s = sg → Γ.t = tg →
    Calls Tryd.prog 7 ⟨[.float .f64 i, .int .i64 m].map (con Γ)⟩ w fun e w' => e = .returned (.int .i64 r) ∧ Below w.heap.size w w' := by
  refine ⟨rfl, fun Γ w hs _ => ?_⟩
  have hc : (⟨[Value.float .f64 i, Value.int .i64 m].map (con Γ)⟩ : Array Value) = #[.int .i64 (dv sg i), .int .i64 m] := by simp [con, hs]
  rw [hc]
  refine (within_calls (dv sg i) m w h1 h2).mono fun e w' he => ?_
  obtain ⟨rfl, rfl⟩ := he
  exact ⟨by rw [h], Below.refl _ _⟩
def okR : Option (Value × Heap) → Bool | some (.bool true, _) => true | _ => false
theorem okR_eq {x : Option (Value × Heap)} (h : okR x = true) : x.map (·.1) = some (.bool true) := by
  unfold okR at h
  split at h
  · rfl
  · cases h
end
end Go.Proofs.YtaagmjgilmpdjaaDoor
