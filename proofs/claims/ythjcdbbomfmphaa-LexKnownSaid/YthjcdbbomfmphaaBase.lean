/-
  Contracts of this seat's functions that other texts take: within, known, the native IndexByteString.
-/
import Derived.Test.YthjcdbbomfmphaaProg
import Derived.Test.YthjcdbbomfmphaaEv
import Derived.KernelRfl
import Derived.WalkKit
import Derived.WalkSpells
import Derived.Lib.Bytealg
namespace Go.Proofs.Ythjcdbbomfmphaa
open Go.RowKit Go.Ev

def Wi (a m : Int) : Int := if a.tmod m < 0 then a.tmod m + m else a.tmod m

theorem Wi_range (a m : Int) (h1 : 1 ≤ m) : 0 ≤ Wi a m ∧ Wi a m < m := by
  have hlt := Int.tmod_lt_of_pos a (show 0 < m by omega)
  have hgt := Int.lt_tmod_of_pos a (show 0 < m by omega)
  unfold Wi
  split <;> omega

theorem within_calls (a m : Int) (w : World) (h1 : 1 ≤ m) (h2 : m ≤ 4611686018427387904) :
    Calls Try.prog 15 #[.int .i64 a, .int .i64 m] w fun e w' => e = .returned (.int .i64 (Wi a m)) ∧ w = w' := by
  have hlt := Int.tmod_lt_of_pos a (show 0 < m by omega)
  have hgt : -m < a.tmod m := by
    have := Int.lt_tmod_of_pos a (show 0 < m by omega)
    omega
  by_cases h : a.tmod m < 0
  · have hW : Wi a m = a.tmod m + m := by rw [Wi, if_pos h]
    rw [hW]
    clear hW
    go_enter Try.func15, Try.ntmps15
    go_wp2
    go_ret
    exact ⟨rfl, rfl⟩
  · have hW : Wi a m = a.tmod m := by rw [Wi, if_neg h]
    rw [hW]
    clear hW
    go_enter Try.func15, Try.ntmps15
    go_wp2
    go_ret
    exact ⟨rfl, rfl⟩

theorem funcs_ok : Try.prog.funcs.all (okFunc 0) = true := by kernel_rfl
theorem mixed : Try.prog.follows .mixedOrders = true := by kernel_rfl

theorem funcs_ok' (g : Nat) (fn : Func) (h : Try.prog.funcs[g]? = some fn) : okFunc 0 fn = true := by
  have := funcs_ok
  rw [Array.all_eq_true_iff_forall_mem] at this
  exact this fn (Array.mem_of_getElem? h)

theorem index_run (s : ByteArray) (c : Int) (w : World) :
    (callFunc 39 #[.string s, .int .u8 c]).run Try.prog w = .ok (.value (.int .i64 (Lib.indexByte s.data.toList c.toNat.toUInt8))) w := by
  have hf : Try.prog.funcs[39]? = some Try.f39 := rfl
  have hname0 : (Try.f39.name == "runtime.NumGoroutine") = false := by kernel_rfl
  have hname : ¬ Try.f39.name = "runtime.NumGoroutine" := by simpa using hname0
  have hb : Try.f39.body = none := by kernel_rfl
  have hn : Extern.findNext Try.f39 = none := by kernel_rfl
  have he : Extern.find Try.f39 = some Extern.BytealgIndexByte.indexByte := by kernel_rfl
  have hr := Lib.run_indexByteString (P := Try.prog) s c w
  simp [callFunc, hf, hname, hb, hn, he, hr]

/-- The native function alone. -/
def X0 : Ext := fun f a => match f, a with
  | 39, [.string s, .int .u8 c] => some (.int .i64 (Lib.indexByte s.data.toList c.toNat.toUInt8))
  | _, _ => none

theorem ok0 (sg : Nat → Int) (tg : Nat → ByteArray) (B : Nat) : Ok ⟨Try.prog, 0, 0, B, sg, tg⟩ X0 where
  funcs := funcs_ok'
  mixed := mixed
  ext := by
    intro g args v h Γ w _ _
    unfold X0 at h
    split at h
    · cases h; exact .inl (index_run _ _ w)
    · cases h

theorem known_ev : (evCall Try.prog X0 (evC Try.prog X0 200) 13 #[] h0).map (·.1) = some (.bool true) := by kernel_rfl

theorem known_calls (w : World) : Calls Try.prog 13 #[] w fun e w' => e = .returned (.bool true) ∧ Below w.heap.size w w' := by
  have h := calls_of_ev (X := X0) (N := 200) (args := #[]) (v := .bool true) (fun B => ok0 (fun _ => 0) (fun _ => .empty) B) Try.func13 rfl rfl known_ev rfl rfl w
  simpa using h
end Go.Proofs.Ythjcdbbomfmphaa
