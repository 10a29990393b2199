/-
  A part of the proof: conditions over an abstract memory, and that they are enough for what the model's calls do. No condition of its own.
-/
import Derived.Test.YtohdgkmgkcoilaaEvc
import Derived.Below
import Derived.Laws.StructEq
set_option linter.unusedSimpArgs false
set_option linter.unusedVariables false
namespace Go.Ev
open Go Go.RowKit
noncomputable section
/-- of an append: the elements' type, their cells, their bytes -/
def appT (P : Program) (sT xT : TypeId) : Option (TypeId × Nat × Nat) := match P.underlying sT with
  | some (.slice e) => match P.underlying xT with
    | none => none
    | some (.int _) => none
    | some _ => match P.info? e with
      | some i => match i.zero with
        | some z => match Nat.beq z.cells.size i.size && Nat.blt 0 i.size with
          | true => some (e, i.size, i.bytes)
          | false => none
        | none => none
      | none => none
  | _ => none
/-- what is sliced -/
def slcT (P : Program) (t : TypeId) : Option (Option (TypeId × Nat)) := match P.underlying t with
  | some .string => some none
  | some (.slice e) => match szT P e with | some n => some (some (e, n)) | none => none
  | _ => none
/-- what is turned into what: 0 a number, 1 bytes into a text, 2 a text into bytes, 3 bytes into bytes, 4 a text into a text -/
def cnvT (P : Program) (s d : TypeId) : Option (Nat × Option IntKind × Nat) := match P.underlying s with
  | some (.int _) => match P.underlying d with
    | some (.int k) => some (0, some k, 0)
    | _ => none
  | some .string => match P.underlying d with
    | some .string => some (4, none, 0)
    | some (.slice e) => match P.underlying e with
      | some (.int .u8) => match szT P e with
        | some 1 => some (2, none, e)
        | _ => none
      | _ => none
    | _ => none
  | some (.slice e) => match P.underlying e with
    | some (.int .u8) => match P.underlying d with
      | some .string => some (1, none, 0)
      | some (.slice e') => match Nat.beq s d && Nat.beq e e' with
        | true => some (3, none, e)
        | false => none
      | _ => none
    | _ => none
  | _ => none
end
end Go.Ev

namespace Go.Ev
open Go Go.RowKit
noncomputable section

/-! ### A memory that is there already -/
mutual
/-- no numbers that stand for others -/
def pl : Value → Bool
  | .float _ _ => false
  | .slice (some _) _ c => Nat.blt c UC
  | .func (.func _) ⟨f⟩ ⟨c⟩ => plL f && plL c
  | .func _ _ _ => false
  | .iface _ v => pl v
  | .agg ⟨cs⟩ => plL cs
  | .tuple ⟨vs⟩ => plL vs
  | _ => true
def plL : List Value → Bool
  | [] => true
  | v :: vs => pl v && plL vs
end

def idΓ (s : Nat → Int) (t : Nat → ByteArray) : Gam := ⟨fun i => i, fun _ => 0, s, t⟩
mutual
theorem con_pl (s : Nat → Int) (t : Nat → ByteArray) : ∀ v, pl v = true → con (idΓ s t) v = v
  | .bool _, _ => rfl
  | .int _ _, _ => rfl
  | .float _ _, h => by simp [pl] at h
  | .complex _ _ _, _ => rfl
  | .string _, _ => rfl
  | .pointer none, _ => rfl
  | .pointer (some _), _ => rfl
  | .slice none _ _, _ => rfl
  | .slice (some a) n c, h => by
    have hc : c < UC := by simpa [pl] using h
    simp only [con, conA, conCap, if_pos hc, idΓ]
  | .map none, _ => rfl
  | .map (some _), _ => rfl
  | .chan _, _ => rfl
  | .func (.func g) ⟨f⟩ ⟨c⟩, h => by
    simp only [pl, Bool.and_eq_true] at h
    simp only [con, conFn, conL_pl s t f h.1, conL_pl s t c h.2]
  | .func (.method _) _ _, h => by simp [pl] at h
  | .func (.methodOf _ _) _ _, h => by simp [pl] at h
  | .func (.via _ _ _ _) _ _, h => by simp [pl] at h
  | .func (.yield _) _ _, h => by simp [pl] at h
  | .nilFunc, _ => rfl
  | .iface t' v, h => by
    simp only [pl] at h
    simp only [con, con_pl s t v h]
  | .nilIface, _ => rfl
  | .agg ⟨cs⟩, h => by
    simp only [pl] at h
    simp only [con, conL_pl s t cs h]
  | .tuple ⟨cs⟩, h => by
    simp only [pl] at h
    simp only [con, conL_pl s t cs h]
theorem conL_pl (s : Nat → Int) (t : Nat → ByteArray) : ∀ l, plL l = true → conL (idΓ s t) l = l
  | [], _ => rfl
  | v :: vs, h => by
    simp only [plL, Bool.and_eq_true] at h
    simp only [conL, con_pl s t v h.1, conL_pl s t vs h.2]
end

/-- a cell as it is, or a sign that nothing is said of it -/
def fix (G : Nat) (v : Value) : Value := if one v = true ∧ pl v = true ∧ sc G v = true then v else .chan none
theorem fix_ok {G : Nat} {v : Value} (h1 : one v = true) (h2 : pl v = true) (h3 : sc G v = true) : fix G v = v := if_pos ⟨h1, h2, h3⟩
theorem fix_sc {G : Nat} {v : Value} (h : sc G (fix G v) = true) : fix G v = v ∧ one v = true ∧ pl v = true := by
  unfold fix at h ⊢
  split
  · rename_i hc; exact ⟨rfl, hc.1, hc.2.1⟩
  · rename_i hc; rw [if_neg hc] at h; simp [sc] at h

def baseO (G : Nat) (o : Option Obj) : Option AObj := match o with
  | some (.cells c e _) => some ⟨.cells (c.map (fix G)) e, false⟩
  | _ => none
def baseT (w : World) : Nat → Tr
  | 0 => .nil
  | n + 1 => match baseO w.heap.size w.heap[n]? with
    | some x => (baseT w n).put n x
    | none => baseT w n
theorem baseT_get (w : World) : ∀ (n i : Nat), (baseT w n).get i = if i < n then baseO w.heap.size w.heap[i]? else none
  | 0, i => by simp [baseT, Tr.get_nil]
  | n + 1, i => by
    simp only [baseT]
    split
    · rename_i x hx
      rw [Tr.get_put, baseT_get w n i]
      by_cases h : i = n
      · subst h; simp [hx]
      · by_cases h2 : i < n
        · simp [h, h2, Nat.lt_succ_of_lt h2]
        · simp [h, h2]; omega
    · rename_i hx
      rw [baseT_get w n i]
      by_cases h : i = n
      · subst h; simp [hx]
      · by_cases h2 : i < n
        · simp [h2, Nat.lt_succ_of_lt h2]
        · rw [if_neg h2, if_neg (by omega)]
/-- all that is there, to be read alone -/
def baseH (w : World) : Heap := ⟨baseT w w.heap.size, w.heap.size, w.heap.size⟩
theorem baseH_get (w : World) (i : Nat) : (baseH w).get i = baseO w.heap.size w.heap[i]? := by
  have := baseT_get w w.heap.size i
  show (baseT w w.heap.size).get i = _
  rw [this]
  split
  · rfl
  · rw [Array.getElem?_eq_none (by omega)]; rfl
theorem baseH_cells {w : World} {b : Nat} {c : Array Value} {e : TypeId} {fr : Nat × Nat} (hb : w.heap[b]? = some (.cells c e fr)) : cells (baseH w) b = some (c.toList.map (fix w.heap.size), e, false) := by
  unfold cells
  rw [baseH_get, hb]
  simp only [baseO]
  obtain ⟨l⟩ := c
  simp

/-- A cell that is read as it is. -/
theorem baseH_cell {w : World} {b off : Nat} {v : Value} (hc : w.cell? ⟨b, off, none⟩ = some v) (h1 : one v = true) (h2 : pl v = true) (h3 : sc w.heap.size v = true) :
    ∃ cs e, cells (baseH w) b = some (cs, e, false) ∧ cs[off]? = some v := by
  simp only [World.cell?] at hc
  split at hc
  · rename_i c e fr hb
    refine ⟨_, _, baseH_cells hb, ?_⟩
    have hc : c[off]? = some v := by simpa using hc
    rw [List.getElem?_map, Array.getElem?_toList, hc, Option.map_some, fix_ok h1 h2 h3]
  · cases hc

theorem baseH_rel (P : Program) (NG : Nat) (s : Nat → Int) (t : Nat → ByteArray) (w : World) (hNG : NG ≤ w.heap.size) : HRel ⟨P, NG, w.heap.size, w.heap.size, s, t⟩ (idΓ s t) (baseH w) w := by
  have key : ∀ i x, (baseH w).get i = some x → i < w.heap.size ∧ ∃ c e fr, w.heap[i]? = some (.cells c e fr) ∧ x = ⟨.cells (c.map (fix w.heap.size)) e, false⟩ := by
    intro i x hx
    rw [baseH_get] at hx
    unfold baseO at hx
    split at hx
    · rename_i c e fr hi
      cases hx
      exact ⟨(Array.getElem?_eq_some_iff.1 hi).1, c, e, fr, hi, rfl⟩
    · cases hx
  refine ⟨fun i x hx => ?_, fun i x hx _ hi => ?_, fun i j x y hx _ _ _ hi _ _ => ?_, fun g _ => rfl, fun i hi => hi, rfl, Nat.le_refl _, hNG, Nat.le_refl _, rfl, rfl⟩
  · obtain ⟨hlt, c, e, fr, hw, rfl⟩ := key i x hx
    refine ⟨hlt, ?_⟩
    simp only [OR]
    refine ⟨fun hG => absurd hlt (Nat.not_lt.2 hG), fun _ => ⟨trivial, hlt, fun j v hj hv => ?_⟩⟩
    rw [Array.getElem?_map] at hj
    cases hcj : c[j]? with
    | none => rw [hcj] at hj; cases hj
    | some u =>
      rw [hcj] at hj
      simp only [Option.map_some, Option.some.injEq] at hj
      subst hj
      obtain ⟨h1, h2, h3⟩ := fix_sc hv
      rw [h1]
      refine ⟨h2, ?_⟩
      rw [con_pl s t u h3]
      have : w.heap[(idΓ s t).b i]? = some (.cells c e fr) := hw
      simp only [World.cell?, this]
      simpa using hcj
  · have := (key i x hx).1
    have hi : w.heap.size ≤ i := hi
    omega
  · have := (key i x hx).1
    have hi : w.heap.size ≤ i := hi
    omega

/-- **WHAT A CALL COMES TO BY AN ABSTRACT MEMORY, IT COMES TO.** -/
theorem calls_of_callE {P : Program} {NG : Nat} {s : Nat → Int} {t : Nat → ByteArray} {w : World} (hNG : NG ≤ w.heap.size) {f : FuncId} {args : List Value} {v : Value}
    (hc : CallE ⟨P, NG, w.heap.size, w.heap.size, s, t⟩ f args (baseH w) fun u _ => u = v) (hpl : plL args = true) (hsc : scL w.heap.size args = true) (hv : flat v = true) :
    Calls P f ⟨args⟩ w fun e w' => e = .returned v ∧ Below w.heap.size w w' := by
  have hrel := baseH_rel P NG s t w hNG
  obtain ⟨_, h2⟩ := hc _ w hrel (fun x hx => scL_all hsc x hx)
  have hargs : (⟨args.map (con (idΓ s t))⟩ : Array Value) = ⟨args⟩ := by
    rw [← conL_map, conL_pl s t args hpl]
  have h3 := h2 Fence.wide ⟨rfl⟩ 0 (fun e w' => e = .returned v ∧ Below w.heap.size w w') (fun u h' Γ' w' hu _ _ hb _ _ => by
    subst hu
    exact ⟨by rw [con_flat Γ' u hv], hb⟩)
  rw [hargs] at h3
  exact callsIn_wide.1 h3

/-- A contract of the model's, of a function that hands back what leads nowhere. -/
theorem CallE.of_calls {p : Par} {g : FuncId} {fn : Func} {c : Code} (good : GoodP p) (hfn : p.P.funcs[g]? = some fn) (hb : fn.body = some c) {args : List Value} {h : Heap} {v : Value} (hv : flat v = true) (hargs : flatL args = true)
    (hc : ∀ w, Calls p.P g ⟨args⟩ w fun e w' => e = .returned v ∧ Below w.heap.size w w') : CallE p g args h fun u h' => u = v ∧ h' = h := by
  intro Γ w hr _
  have hok := good.funcs g fn hfn
  simp only [okFunc, hb, Bool.and_eq_true, bne_iff_ne, ne_eq] at hok
  have e : (⟨args.map (con Γ)⟩ : Array Value) = ⟨args⟩ := by rw [← conL_map, conL_flat Γ args hargs]
  rw [e]
  refine ⟨by simp [callFunc, hfn, hok.2, hb], fun F hF n R' hK => CallsIn.mono (hF.calls (hc w)) fun e w' hh => ?_⟩
  obtain ⟨rfl, hbel⟩ := hh
  have := hK v h Γ w' ⟨rfl, rfl⟩ (Ag.refl _ _) (Nat.le_refl _) (hbel.mono hr.size) (hr.of_below hbel) (flat_sc _ v hv)
  rw [con_flat Γ v hv] at this
  exact this
end
end Go.Ev

namespace Go.Ev
open Go Go.RowKit
noncomputable section

/-! ### Slices whose cells are known -/
/-- cells that lie in a row -/
def spotN (a : Option Addr) : Prop := ∀ b o s, a = some ⟨b, o, s⟩ → s = none
def Sl (h : Heap) (a : Option Addr) (cs : List Value) : Prop :=
  (cs = [] ∧ spotN a) ∨ ∃ b off full e m, a = some ⟨b, off, none⟩ ∧ cells h b = some (full, e, m) ∧ off + cs.length ≤ full.length ∧ (full.drop off).take cs.length = cs ∧ (h.lo ≤ b ∨ foneL h.lo cs = true)

theorem spotN_n : spotN none := fun _ _ _ e => by cases e
theorem spotN_s (b o : Nat) : spotN (some ⟨b, o, none⟩) := fun _ _ _ e => by cases e; rfl
theorem Sl.nil (h : Heap) {a : Option Addr} (ha : spotN a) : Sl h a [] := .inl ⟨rfl, ha⟩
theorem Sl.row {h : Heap} {b : Nat} {cs : List Value} {e : TypeId} {m : Bool} (hc : cells h b = some (cs, e, m)) (hb : h.lo ≤ b) : Sl h (some ⟨b, 0, none⟩) cs :=
  .inr ⟨b, 0, cs, e, m, rfl, hc, by simp, by simp, .inl hb⟩

/-- The same memory, but for what does not matter. -/
theorem Sl.spot {h : Heap} {a : Option Addr} {cs : List Value} (hs : Sl h a cs) : spotN a := by
  rcases hs with h0 | ⟨b, off, full, e, m, ha, h1, h2, h3, h4⟩
  · exact h0.2
  · rw [ha]; exact spotN_s b off
theorem spotN.map {a : Option Addr} (h : spotN a) (i : Nat) : spotN (a.map (·.add i)) := by
  cases a with
  | none => exact spotN_n
  | some x =>
    obtain ⟨b, o, s⟩ := x
    have := h b o s rfl
    subst this
    rw [Option.map_some, addr_add]
    exact spotN_s _ _

theorem Sl.frame {h h' : Heap} {a : Option Addr} {cs : List Value} (hs : Sl h a cs) (hlo : h'.lo = h.lo) (hc : ∀ b o, a = some ⟨b, o, none⟩ → cs ≠ [] → cells h' b = cells h b) : Sl h' a cs := by
  rcases hs with h0 | ⟨b, off, full, e, m, ha, h1, h2, h3, h4⟩
  · exact .inl h0
  · by_cases h5 : cs = []
    · exact .inl ⟨h5, by rw [ha]; exact spotN_s b off⟩
    · exact .inr ⟨b, off, full, e, m, ha, by rw [hc b off ha h5]; exact h1, h2, h3, by rw [hlo]; exact h4⟩

theorem Sl.sub {h : Heap} {a : Option Addr} {cs : List Value} (hs : Sl h a cs) (i k : Nat) : Sl h (a.map (·.add i)) ((cs.drop i).take k) := by
  rcases hs with h0 | ⟨b, off, full, e, m, ha, h1, h2, h3, h4⟩
  · left; exact ⟨by simp [h0.1], h0.2.map i⟩
  · by_cases h5 : (cs.drop i).take k = []
    · exact .inl ⟨h5, by rw [ha]; exact (spotN_s b off).map i⟩
    · right
      have hi : i < cs.length := by
        rcases Nat.lt_or_ge i cs.length with h6 | h6
        · exact h6
        · exfalso; apply h5; rw [List.drop_eq_nil_of_le h6]; simp
      refine ⟨b, off + i, full, e, m, by rw [ha, Option.map_some, addr_add], h1, ?_, ?_, ?_⟩
      · simp only [List.length_take, List.length_drop]; omega
      · have h7 : cs.drop i = ((full.drop off).take cs.length).drop i := by rw [h3]
        have h8 : cs.drop i = ((full.drop off).drop i).take (cs.length - i) := by rw [h7, List.drop_take]
        rw [List.drop_drop] at h8
        have hlen : ((cs.drop i).take k).length = min k (cs.length - i) := by simp
        rw [hlen, h8, List.take_take]
      · rcases h4 with h4 | h4
        · exact .inl h4
        · right
          simp only [foneL_eq, Bool.and_eq_true, List.all_eq_true] at h4 ⊢
          exact ⟨fun v hv => h4.1 v (List.mem_of_mem_drop (List.mem_of_mem_take hv)), scL_of_all fun v hv => scL_all h4.2 v (List.mem_of_mem_drop (List.mem_of_mem_take hv))⟩
theorem Sl.sub0 {h : Heap} {a : Option Addr} {cs : List Value} (hs : Sl h a cs) (k : Nat) : Sl h a (cs.take k) := by
  have := hs.sub 0 k
  have e : a.map (·.add 0) = a := by cases a <;> rfl
  rw [e] at this
  simpa using this

/-- An element that is read. -/
theorem Sl.load {P : Program} {h : Heap} {a : Option Addr} {cs : List Value} (hs : Sl h a cs) {t : TypeId} (hk : knd P t = some (false, 0)) {i : Nat} {v : Value} (hv : cs[i]? = some v) :
    ∃ b off, a = some ⟨b, off, none⟩ ∧ evLoad P t (.pointer (some ⟨b, off + i, none⟩)) h = some v := by
  rcases hs with h0 | ⟨b, off, full, e, m, ha, h1, h2, h3, h4⟩
  · rw [h0.1] at hv; cases hv
  · refine ⟨b, off, ha, ?_⟩
    have hi : i < cs.length := (List.getElem?_eq_some_iff.1 hv).1
    have hf : full[off + i]? = some v := by
      rw [← h3, List.getElem?_take, if_pos hi, List.getElem?_drop] at hv
      exact hv
    rw [load_eq, h1, hk]
    simp only [ldC, partL, hf]
    rcases h4 with h4 | h4
    · have : Nat.ble h.lo b = true := by simpa using h4
      simp only [seen, this]
    · simp only [foneL_eq, Bool.and_eq_true] at h4
      have hsv : sc h.lo v = true := scL_all h4.2 v (List.mem_of_getElem? hv)
      unfold seen
      rw [fsc_eq, hsv]
      cases Nat.ble h.lo b <;> rfl

/-- An element of parts that is read. -/
theorem Sl.loadA {P : Program} {h : Heap} {a : Option Addr} {cs : List Value} (hs : Sl h a cs) {t : TypeId} {n : Nat} (hk : knd P t = some (true, n)) {i : Nat} (hn : 0 < n) (hi : i * n + n ≤ cs.length) :
    ∃ b off, a = some ⟨b, off, none⟩ ∧ evLoad P t (.pointer (some ⟨b, off + i * n, none⟩)) h = some (.agg ⟨(cs.drop (i * n)).take n⟩) := by
  have hsub := hs.sub (i * n) n
  have hlen : ((cs.drop (i * n)).take n).length = n := by simp; omega
  rcases hs with h0 | ⟨b, off, full, e, m, ha, h1, h2, h3, h4⟩
  · rw [h0.1] at hi; simp at hi; omega
  · refine ⟨b, off, ha, ?_⟩
    rcases hsub with h5 | ⟨b', off', full', e', m', ha', h1', h2', h3', h4'⟩
    · rw [h5.1] at hlen; simp at hlen; omega
    · rw [ha, Option.map_some, addr_add] at ha'
      simp only [Option.some.injEq, Addr.mk.injEq, and_true] at ha'
      obtain ⟨rfl, rfl⟩ := ha'
      rw [h1] at h1'
      cases h1'
      rw [load_eq, h1, hk]
      rw [hlen] at h2' h3'
      simp only [ldC, partL, if_pos h2', h3']
      rcases h4' with h4' | h4'
      · have : Nat.ble h.lo b = true := by simpa using h4'
        simp only [seen, this]
      · simp only [foneL_eq, Bool.and_eq_true] at h4'
        have hsv : sc h.lo (.agg ⟨(cs.drop (i * n)).take n⟩) = true := h4'.2
        unfold seen
        rw [fsc_eq, hsv]
        cases Nat.ble h.lo b <;> rfl

/-- What is appended out of it. -/
theorem Sl.src {h : Heap} {a : Option Addr} {cs : List Value} (hs : Sl h a cs) {n m c len : Nat} (hl : cs.length = m * n) (hn : 0 < n) : srcCells n m (.slice a len c) h = some cs := by
  unfold srcCells
  dsimp only
  cases m with
  | zero =>
    have : cs = [] := List.length_eq_zero_iff.1 (by rw [hl]; simp)
    rw [this]
  | succ m =>
    dsimp only
    rcases hs with h0 | ⟨b, off, full, e, mo, ha, h1, h2, h3, h4⟩
    · rw [h0.1] at hl
      have : 0 < (m + 1) * n := Nat.mul_pos (Nat.succ_pos _) hn
      simp at hl; omega
    · rw [ha]
      simp only [h1]
      rw [hl] at h2 h3
      simp only [takeN_some full off ((m + 1) * n) h2, h3]
      rcases h4 with h4 | h4
      · have : Nat.ble h.lo b = true := by simpa using h4
        rw [this]
      · rw [h4]
        cases Nat.ble h.lo b <;> rfl

/-! ### Slices that may be appended to -/
/-- none; or a row of its own, whole -/
structure Own (h : Heap) (e n : Nat) (a : Option Addr) (len c : Nat) (cs : List Value) : Prop where
  hlen : cs.length = len * n
  hfone : foneL h.next cs = true
  hat : (a = none ∧ len = 0 ∧ c = 0) ∨ ∃ b m, a = some ⟨b, 0, none⟩ ∧ h.lo ≤ b ∧ b < h.next ∧ cells h b = some (cs, e, m) ∧ ((m = true ∧ c = UC) ∨ (m = false ∧ c = len))

theorem Own.nil (h : Heap) (e n : Nat) : Own h e n none 0 0 [] := ⟨by simp, rfl, .inl ⟨rfl, rfl, rfl⟩⟩
theorem Own.sl {h : Heap} {e n : Nat} {a : Option Addr} {len c : Nat} {cs : List Value} (ho : Own h e n a len c cs) : Sl h a cs := by
  rcases ho.hat with ⟨h0, h1, _⟩ | ⟨b, m, ha, h1, h2, h3, _⟩
  · left; exact ⟨List.length_eq_zero_iff.1 (by rw [ho.hlen, h1]; simp), by rw [h0]; exact spotN_n⟩
  · rw [ha]; exact Sl.row h3 h1
/-- the row's block: none, or one -/
def blk (a : Option Addr) (i : Nat) : Prop := ∃ o s, a = some ⟨i, o, s⟩
theorem Own.frame {h h' : Heap} {e n : Nat} {a : Option Addr} {len c : Nat} {cs : List Value} (ho : Own h e n a len c cs) (hlo : h'.lo = h.lo) (hn : h.next ≤ h'.next) (hc : ∀ b, blk a b → b < h.next → cells h' b = cells h b) : Own h' e n a len c cs := by
  refine ⟨ho.hlen, foneL_mono hn ho.hfone, ?_⟩
  rcases ho.hat with h0 | ⟨b, m, ha, h1, h2, h3, h4⟩
  · exact .inl h0
  · exact .inr ⟨b, m, ha, by rw [hlo]; exact h1, by omega, by rw [hc b ⟨0, none, ha⟩ h2]; exact h3, h4⟩

/-- what an append may turn: the row that is appended to -/
structure Grew (h h' : Heap) (S : Nat → Prop) : Prop where
  next : h.next ≤ h'.next
  lo : h'.lo = h.lo
  get : ∀ i, i < h.next → ¬ S i → h'.get i = h.get i
theorem Grew.refl (h : Heap) (S : Nat → Prop) : Grew h h S := ⟨Nat.le_refl _, rfl, fun _ _ _ => rfl⟩
theorem Grew.trans {h h1 h2 : Heap} {S T : Nat → Prop} (g : Grew h h1 S) (g' : Grew h1 h2 T) (hT : ∀ i, i < h.next → T i → S i) : Grew h h2 S :=
  ⟨Nat.le_trans g.next g'.next, g'.lo.trans g.lo, fun i hi hs => (g'.get i (Nat.lt_of_lt_of_le hi g.next) (fun ht => hs (hT i hi ht))).trans (g.get i hi hs)⟩
theorem Grew.mono {h h' : Heap} {S T : Nat → Prop} (g : Grew h h' S) (hT : ∀ i, i < h.next → S i → T i) : Grew h h' T := ⟨g.next, g.lo, fun i hi hs => g.get i hi fun h => hs (hT i hi h)⟩
theorem Grew.cells {h h' : Heap} {S : Nat → Prop} (g : Grew h h' S) {i : Nat} (hi : i < h.next) (hs : ¬ S i) : cells h' i = cells h i := cells_of_get (g.get i hi hs)
theorem Grew.add (h : Heap) (x : AObj) (S : Nat → Prop) : Grew h (h.add x) S := ⟨by rw [next_add]; omega, lo_add x, fun i hi _ => get_add_n x i (by omega)⟩
theorem Grew.put (h : Heap) (b : Nat) (x : AObj) {S : Nat → Prop} (hb : b < h.next → S b) : Grew h (h.put b x) S := ⟨Nat.le_refl _, rfl, fun i hi hs => get_put_n b x i (fun e => hs (by subst e; exact hb hi))⟩
theorem Sl.grew {h h' : Heap} {S : Nat → Prop} {a : Option Addr} {cs : List Value} (hs : Sl h a cs) (g : Grew h h' S) (hS : ∀ b, blk a b → cs ≠ [] → b < h.next ∧ ¬ S b) : Sl h' a cs :=
  hs.frame g.lo fun b o ha hne => (by obtain ⟨h1, h2⟩ := hS b ⟨o, none, ha⟩ hne; exact g.cells h1 h2)
theorem Own.grew {h h' : Heap} {S : Nat → Prop} {e n : Nat} {a : Option Addr} {len c : Nat} {cs : List Value} (ho : Own h e n a len c cs) (g : Grew h h' S) (hS : ∀ b, blk a b → b < h.next → ¬ S b) : Own h' e n a len c cs :=
  ho.frame g.lo g.next fun b hb hlt => g.cells hlt (hS b hb hlt)

theorem appT_spec {P : Program} {sT xT e n by_ : Nat} (h : appT P sT xT = some (e, n, by_)) : ∃ dx i z, P.underlying sT = some (.slice e) ∧ P.underlying xT = some dx ∧ (∀ k, dx ≠ .int k) ∧ P.info? e = some i ∧ i.zero = some z ∧ z.cells.size = n ∧ i.size = n ∧ i.bytes = by_ ∧ 0 < n := by
  unfold appT at h
  split at h
  · rename_i e' hs
    split at h
    · cases h
    · cases h
    · rename_i dx hdx hx
      split at h
      · rename_i i hi
        split at h
        · rename_i z hz
          split at h
          · rename_i hb
            cases h
            simp only [Bool.and_eq_true, Nat.beq_eq, Nat.blt_eq] at hb
            exact ⟨dx, i, z, hs, hx, fun k e => hdx k e, hi, hz, hb.1, rfl, rfl, hb.2⟩
          · cases h
        · cases h
      · cases h
  · cases h

/-- what an append comes to, its types looked up -/
def evAppB (e : TypeId) (i : TypeInfo) (base : Option Addr) (n cap : Nat) (x : Value) (m : Nat) (h : Heap) : Option (Value × Heap) :=
      let size := i.size
      match srcCells size m x h with
      | none => none
      | some new =>
        match Nat.blt cap UC with
        | true => match Nat.ble (n + m) cap with
          | true => match base with
            | none => match new with | [] => some (.slice none (n + m) cap, h) | _ => none
            | some ⟨b, off, none⟩ => match m with
             | 0 => some (.slice base (n + 0) cap, h)
             | m + 1 => match cells h b with
              | some (cs, e', mo) => match Nat.ble h.lo b, setN cs (off + n * size) new with
                | true, some cs' => some (.slice base (n + (m + 1)) cap, h.put b ⟨.cells ⟨cs'⟩ e', mo⟩)
                | _, _ => none
              | none => none
            | _ => none
          | false => match srcCells size n (.slice base n cap) h, Nat.blt ((n + m) * i.bytes + (n + m)) U, i.zero with
            | some old, true, some z => match Nat.beq z.cells.size size && Nat.blt 0 size with
              | true => match mkRow h e (old ++ new) true with
                | some (b, h') => some (.slice (some ⟨b, 0, none⟩) (n + m) UC, h')
                | none => none
              | false => none
            | _, _, _ => none
        | false => match base with
          | some ⟨b, 0, none⟩ => match cells h b with
            | some (cs, e', true) => match Nat.beq e' e && Nat.beq cap UC && Nat.ble h.lo b && Nat.beq cs.length (n * size) && Nat.blt ((n + m) * i.bytes + (n + m)) U, i.zero with
              | true, some z => match Nat.beq z.cells.size size && Nat.blt 0 size && foneL h.next new with
                | true => some (.slice (some ⟨h.next, 0, none⟩) (n + m) UC, { t := (h.t.put b ⟨.number ⟨0, 0, none⟩ false, false⟩).put h.next ⟨.cells ⟨cs ++ new⟩ e, true⟩, next := h.next + 1, lo := h.lo })
                | false => none
              | _, _ => none
            | _ => none
          | _ => none

theorem evAppend_b {P : Program} {sT xT e : TypeId} {dx : TypeDesc} {i : TypeInfo} (hs : P.underlying sT = some (.slice e)) (hxT : P.underlying xT = some dx) (hni : ∀ k, dx ≠ .int k) (hi : P.info? e = some i) {x : Value} {m : Nat} (hl : lenV x = some m) (base : Option Addr) (n cap : Nat) (h : Heap) :
    evAppend P sT xT (.slice base n cap) x h = evAppB e i base n cap x m h := by
  unfold evAppend
  rw [hs, hl, hxT]
  cases dx <;> first | exact absurd rfl (hni _) | (dsimp only; rw [hi]; rfl)

theorem own_append {P : Program} {sT xT e n by_ : Nat} (hT : appT P sT xT = some (e, n, by_)) {h : Heap} {a : Option Addr} {len c : Nat} {cs : List Value} (ho : Own h e n a len c cs) (hln : h.lo ≤ h.next)
    {x : Value} {m : Nat} {xs : List Value} (hl : lenV x = some m) (hx : srcCells n m x h = some xs) (hxl : xs.length = m * n) (hxf : foneL h.next xs = true) (hb : (len + m) * by_ + (len + m) < 100000000000000) :
    ∃ a' c' h', evAppend P sT xT (.slice a len c) x h = some (.slice a' (len + m) c', h') ∧ Own h' e n a' (len + m) c' (cs ++ xs) ∧ Grew h h' (blk a) ∧ (∀ b, blk a' b → blk a b ∨ h.next ≤ b) := by
  obtain ⟨dx, i, z, hs, hxT, hni, hi, hz, hzz, hsz, hby, hn⟩ := appT_spec hT
  have hlen : (cs ++ xs).length = (len + m) * n := by rw [List.length_append, ho.hlen, hxl, Nat.add_mul]
  have hfon : foneL h.next (cs ++ xs) = true := by
    have h1 := ho.hfone
    simp only [foneL_eq, Bool.and_eq_true, List.all_eq_true] at h1 hxf ⊢
    refine ⟨fun v hv => ?_, scL_of_all fun v hv => ?_⟩
    · rcases List.mem_append.1 hv with hv | hv
      · exact h1.1 v hv
      · exact hxf.1 v hv
    · rcases List.mem_append.1 hv with hv | hv
      · exact scL_all h1.2 v hv
      · exact scL_all hxf.2 v hv
  have hbnd : Nat.blt ((len + m) * i.bytes + (len + m)) U = true := by
    rw [hby]; simp only [Nat.blt_eq]; unfold U; exact hb
  have hcond : (Nat.beq z.cells.size i.size && Nat.blt 0 i.size) = true := by
    rw [hsz]; simp only [Bool.and_eq_true, Nat.beq_eq, Nat.blt_eq]; exact ⟨hzz, hn⟩
  have hgrow : ∀ (base : Option Addr) (cap : Nat), Nat.blt cap UC = true → Nat.ble (len + m) cap = false → srcCells n len (.slice base len cap) h = some cs →
      evAppend P sT xT (.slice base len cap) x h = some (.slice (some ⟨h.next, 0, none⟩) (len + m) UC, h.add (O (cs ++ xs) e true)) := by
    intro base cap h1 h2 h3
    rw [evAppend_b hs hxT hni hi hl]
    unfold evAppB
    dsimp only
    rw [hsz, hx, h1]
    dsimp only
    rw [h2]
    dsimp only
    rw [h3, hz]
    rw [hsz] at hcond
    simp only [hbnd, hcond, mkRow_eq hfon]
  have hfresh : ∀ q, Own (h.add (O (cs ++ xs) e true)) e n (some ⟨h.next, 0, none⟩) (len + m) UC (cs ++ xs) ∧ Grew h (h.add (O (cs ++ xs) e true)) q ∧ (∀ b, blk (some (⟨h.next, 0, none⟩ : Addr)) b → blk a b ∨ h.next ≤ b) := fun q =>
    ⟨⟨hlen, foneL_mono (by rw [next_add]; omega) hfon, .inr ⟨h.next, true, rfl, by rw [lo_add]; exact hln, by rw [next_add]; omega, cells_add_s _ _ _ _ rfl, .inl ⟨rfl, rfl⟩⟩⟩, Grew.add _ _ _, fun b hb => by
      obtain ⟨o, s, hb⟩ := hb
      right
      cases hb
      exact Nat.le_refl _⟩
  rcases ho.hat with ⟨rfl, rfl, rfl⟩ | ⟨b, mo, rfl, h1, h2, h3, h4⟩
  · -- none
    have hcs : cs = [] := List.length_eq_zero_iff.1 (by rw [ho.hlen]; simp)
    cases m with
    | zero =>
      have hxs : xs = [] := List.length_eq_zero_iff.1 (by rw [hxl]; simp)
      subst hcs hxs
      refine ⟨none, 0, h, ?_, ho, Grew.refl _ _, fun b hb => .inl hb⟩
      rw [evAppend_b hs hxT hni hi hl]
      unfold evAppB
      dsimp only
      rw [hsz, hx]
      have : Nat.blt 0 UC = true := by simp only [Nat.blt_eq]; exact UC_pos
      rw [this]
    | succ m =>
      have h0 : Nat.blt 0 UC = true := by simp only [Nat.blt_eq]; exact UC_pos
      have h5 : Nat.ble (0 + (m + 1)) 0 = false := by rw [Bool.eq_false_iff]; simp
      obtain ⟨q1, q2, q3⟩ := hfresh (blk none)
      exact ⟨_, _, _, hgrow none 0 h0 h5 (by rw [hcs]; rfl), q1, q2, q3⟩
  · rcases h4 with ⟨rfl, rfl⟩ | ⟨rfl, rfl⟩
    · -- a row whose capacity is not known
      refine ⟨some ⟨h.next, 0, none⟩, UC, { t := (h.t.put b ⟨.number ⟨0, 0, none⟩ false, false⟩).put h.next ⟨.cells ⟨cs ++ xs⟩ e, true⟩, next := h.next + 1, lo := h.lo }, ?_, ?_, ?_, ?_⟩
      · rw [evAppend_b hs hxT hni hi hl]
        unfold evAppB
        dsimp only
        rw [hsz, hx]
        have h0 : Nat.blt UC UC = false := by rw [Bool.eq_false_iff]; simp
        have h5 : (Nat.beq e e && Nat.beq UC UC && Nat.ble h.lo b && Nat.beq cs.length (len * n) && Nat.blt ((len + m) * i.bytes + (len + m)) U) = true := by
          simp only [Bool.and_eq_true, Nat.beq_eq, Nat.ble_eq]
          exact ⟨⟨⟨⟨trivial, trivial⟩, h1⟩, ho.hlen⟩, hbnd⟩
        rw [hsz] at hcond
        have h6 : (Nat.beq z.cells.size n && Nat.blt 0 n && foneL h.next xs) = true := by rw [hcond, hxf]; rfl
        simp only [h0, h3, h5, hz, h6]
      · refine ⟨hlen, foneL_mono (Nat.le_succ _) hfon, .inr ⟨h.next, true, rfl, by show h.lo ≤ h.next; omega, Nat.lt_succ_self _, ?_, .inl ⟨rfl, rfl⟩⟩⟩
        unfold Ev.cells
        have := get_move (h := h) (b := b) (x' := ⟨.cells ⟨cs ++ xs⟩ e, true⟩) h.next
        rw [if_pos rfl] at this
        unfold dead at this
        rw [this]
      · refine ⟨Nat.le_succ _, rfl, fun j hj hb => ?_⟩
        have := get_move (h := h) (b := b) (x' := ⟨.cells ⟨cs ++ xs⟩ e, true⟩) j
        rw [if_neg (by omega), if_neg (fun e => hb ⟨0, none, by rw [e]⟩)] at this
        unfold dead at this
        exact this
      · intro j hj
        obtain ⟨o, s, hj⟩ := hj
        cases hj
        exact .inr (Nat.le_refl _)
    · have hc : c < UC := by
        have : c ≤ (c + m) * by_ + (c + m) := by omega
        have := U_UC
        unfold U at this
        omega
      have h0 : Nat.blt c UC = true := by simpa using hc
      cases m with
      | zero =>
        have hxs : xs = [] := List.length_eq_zero_iff.1 (by rw [hxl]; simp)
        subst hxs
        refine ⟨some ⟨b, 0, none⟩, c, h, ?_, by simpa using ho, Grew.refl _ _, fun b hb => .inl hb⟩
        rw [evAppend_b hs hxT hni hi hl]
        unfold evAppB
        dsimp only
        rw [hsz, hx, h0]
        dsimp only
        have : Nat.ble (c + 0) c = true := by simp
        rw [this]
      | succ m =>
        have h5 : Nat.ble (c + (m + 1)) c = false := by rw [Bool.eq_false_iff]; simp
        obtain ⟨q1, q2, q3⟩ := hfresh (blk (some ⟨b, 0, none⟩))
        exact ⟨_, _, _, hgrow _ c h0 h5 (ho.sl.src ho.hlen hn), q1, q2, q3⟩
end
end Go.Ev

namespace Go.Ev
open Go Go.RowKit
noncomputable section
section
variable {P : Program} {h : Heap} {s d t : TypeId}

/-! ### Conversions -/
theorem cnvT_0 {k : IntKind} (hT : cnvT P s d = some (0, some k, 0)) : ∃ j, P.underlying s = some (.int j) ∧ P.underlying d = some (.int k) := by
  unfold cnvT at hT
  repeat' (first | (split at hT) | (cases hT; done))
  all_goals first | (cases hT; done) | skip
  all_goals (cases hT; exact ⟨_, by assumption, by assumption⟩)
theorem cnvT_1 {k : Option IntKind} {q : Nat} (hT : cnvT P s d = some (1, k, q)) : ∃ e, P.underlying s = some (.slice e) ∧ P.underlying e = some (.int .u8) ∧ P.underlying d = some .string := by
  unfold cnvT at hT
  repeat' (first | (split at hT) | (cases hT; done))
  all_goals first | (cases hT; done) | skip
  all_goals exact ⟨_, by assumption, by assumption, by assumption⟩
theorem cnvT_2 {k : Option IntKind} {e : Nat} (hT : cnvT P s d = some (2, k, e)) : P.underlying s = some .string ∧ P.underlying d = some (.slice e) ∧ P.underlying e = some (.int .u8) ∧ szT P e = some 1 := by
  unfold cnvT at hT
  repeat' (first | (split at hT) | (cases hT; done))
  all_goals first | (cases hT; done) | skip
  all_goals (cases hT; exact ⟨by assumption, by assumption, by assumption, by assumption⟩)
theorem cnvT_3 {k : Option IntKind} {e : Nat} (hT : cnvT P s d = some (3, k, e)) : s = d ∧ P.underlying s = some (.slice e) ∧ P.underlying e = some (.int .u8) ∧ P.underlying d = some (.slice e) := by
  unfold cnvT at hT
  repeat' (first | (split at hT) | (cases hT; done))
  all_goals first | (cases hT; done) | skip
  all_goals (rename_i hb; simp only [Bool.and_eq_true, Nat.beq_eq] at hb; obtain ⟨rfl, rfl⟩ := hb; cases hT; exact ⟨rfl, by assumption, by assumption, by assumption⟩)
theorem cnvT_4 {k : Option IntKind} {q : Nat} (hT : cnvT P s d = some (4, k, q)) : P.underlying s = some .string ∧ P.underlying d = some .string := by
  unfold cnvT at hT
  repeat' (first | (split at hT) | (cases hT; done))
  all_goals first | (cases hT; done) | skip
  all_goals exact ⟨by assumption, by assumption⟩

theorem cv_int {k j : IntKind} {n : Int} (hT : cnvT P s d = some (0, some k, 0)) : cvV P s d (.int j n) h = some (.int k (k.wrap n)) := by
  obtain ⟨i, h1, h2⟩ := cnvT_0 hT
  refine cvV_p _ _ _ _ ?_
  simp only [cvP, flat, pvF, convert, pv_bind, pv_under h1, pv_under h2, Option.bind_some, Conv.intToInt, pv_pure]
theorem cv_same {b : ByteArray} {q : Nat} {k : Option IntKind} (hT : cnvT P s d = some (4, k, q)) : cvV P s d (.string b) h = some (.string b) := by
  obtain ⟨h1, h2⟩ := cnvT_4 hT
  refine cvV_p _ _ _ _ ?_
  simp only [cvP, flat, pvF, convert, pv_bind, pv_under h1, pv_under h2, Option.bind_some, pv_pure]

/-- a row of bytes -/
def bv (l : List Int) : List Value := l.map (Value.int .u8)
/-- the text of bytes -/
def txt (l : List Int) : ByteArray := ⟨⟨l.map fun n => UInt8.ofNat n.toNat⟩⟩
theorem bytesOf_bv : ∀ l : List Int, bytesOf (bv l) = some (l.map fun n => UInt8.ofNat n.toNat)
  | [] => rfl
  | n :: l => by
    have := bytesOf_bv l
    simp only [bv, List.map_cons] at this ⊢
    simp only [bytesOf, this]
theorem bv_len (l : List Int) : (bv l).length = l.length := by simp [bv]
theorem bv_app (l m : List Int) : bv (l ++ m) = bv l ++ bv m := by simp [bv]
theorem bv_take (l : List Int) (k : Nat) : bv (l.take k) = (bv l).take k := by simp [bv, List.map_take]
theorem bv_drop (l : List Int) (k : Nat) : bv (l.drop k) = (bv l).drop k := by simp [bv, List.map_drop]
theorem bv_get (l : List Int) (i : Nat) : (bv l)[i]? = l[i]?.map (Value.int .u8) := by simp [bv]
theorem fone_bv (n : Nat) : ∀ l : List Int, foneL n (bv l) = true
  | [] => rfl
  | x :: l => foneL_cons n _ _ rfl (fone_bv n l)

theorem cv_text {q : Nat} {k : Option IntKind} (hT : cnvT P s d = some (1, k, q)) {a : Option Addr} {n c : Nat} {l : List Int} (hs : Sl h a (bv l)) (hn : l.length = n) : cvV P s d (.slice a n c) h = some (.string (txt l)) := by
  obtain ⟨e, h1, h2, h3⟩ := cnvT_1 hT
  cases a with
  | none =>
    have hl : l = [] := by
      rcases hs with h0 | ⟨b, off, full, e, m, ha, _⟩
      · simpa [bv] using h0.1
      · cases ha
    subst hl
    have hf : flat (.slice none n c) = true := rfl
    refine cvV_p _ _ _ _ ?_
    simp only [cvP, hf, pvF, convert, pv_bind, pv_under h1, pv_under h2, pv_under h3, Option.bind_some, Conv.bytesToString, pv_pure]
    rfl
  | some a =>
    have hp : cvP P s d (.slice (some a) n c) = none := rfl
    simp only [cvV, hp]
    rcases hs with h0 | ⟨b, off, full, e', m, ha, hc, h4, h5, _⟩
    · have hl : l = [] := by simpa [bv] using h0.1
      subst hl
      simp only [List.length_nil] at hn
      subst hn
      obtain ⟨b, off, sp⟩ := a
      have := h0.2 _ _ _ rfl
      subst this
      simp only [btS, h1, h3, h2]
      rfl
    · cases ha
      rw [bv_len] at h4 h5
      subst hn
      cases l with
      | nil => simp only [btS, h1, h3, h2, List.length_nil]; rfl
      | cons x l =>
        have ht := takeN_some full off (x :: l).length h4
        rw [h5] at ht
        have hb := bytesOf_bv (x :: l)
        simp only [List.length_cons] at ht
        simp only [btS, h1, h3, h2, hc, List.length_cons, ht, hb]
        rfl

def cvE (P : Program) (s d : TypeId) (v : Value) (h : Heap) : Option (Value × Heap) := match P.underlying s, P.underlying d, v with
    | some .string, some (.slice e), .string b => match P.underlying e, szT P e with
      | some (.int .u8), some 1 => match Nat.blt b.size U with
        | true => match mkRow h e (b.data.toList.map fun x => .int .u8 x.toNat) true with
          | some (g, h') => some (.slice (some ⟨g, 0, none⟩) b.size UC, h')
          | none => none
        | false => none
      | _, _ => none
    | some (.slice _), some (.slice e), .slice (some ⟨g, off, spot⟩) n c => markEff P s d e g (.slice (some ⟨g, off, spot⟩) n c) h
    | _, _, _ => none
theorem te_cv (x : Operand) (tm : VT) : te P (.convert s d x) t tm h = cvE P s d (ev tm x) h := rfl
theorem cvE_mark {q : Nat} {k : Option IntKind} (hT : cnvT P s d = some (3, k, q)) {g off n c : Nat} {sp : Option Nat} {r : List Value × TypeId × Bool} (hlo : h.lo ≤ g) (hc : cells h g = some r) :
    cvE P s d (.slice (some ⟨g, off, sp⟩) n c) h = some (.slice (some ⟨g, off, sp⟩) n c, h) := by
  obtain ⟨rfl, h1, h2, h3⟩ := cnvT_3 hT
  obtain ⟨cs, e, m⟩ := r
  obtain ⟨fr, hg⟩ := cells_get hc
  have h4 : Nat.ble h.lo g = true := by simpa using hlo
  have h5 : Nat.beq s s = true := by simp
  simp only [cvE, h1, markEff, h2, h4, h5, hg]
theorem cvE_bytes {q : Nat} {k : Option IntKind} (hT : cnvT P s d = some (2, k, q)) {b : ByteArray} (hb : b.size < 100000000000000) :
    cvE P s d (.string b) h = some (.slice (some ⟨h.next, 0, none⟩) b.size UC, h.add (O (b.data.toList.map fun x => .int .u8 x.toNat) q true)) := by
  obtain ⟨h1, h2, h3, h4⟩ := cnvT_2 hT
  have h5 : Nat.blt b.size U = true := by simp only [Nat.blt_eq]; unfold U; exact hb
  have hf : foneL h.next (b.data.toList.map fun x => Value.int .u8 x.toNat) = true := by
    have := fone_bv h.next (b.data.toList.map fun x => ((x.toNat : Nat) : Int))
    simp only [bv, List.map_map] at this
    exact this
  simp only [cvE, h1, h2, h3, h4, h5, mkRow_eq hf]

/-! ### Least and greatest -/
theorem mnV_int (ts : Array TypeId) (t : TypeId) (k j : IntKind) (a b : Int) : mnV P ts t [.int k a, .int j b] = some (.int k (min a b)) := by
  have : (if b < a then b else a) = min a b := by omega
  simp only [mnV, flatL, flat, Builtin.min_, List.foldlM, Builtin.min2, pvF]
  show pv P (pure (Value.int k (if b < a then b else a))) = _
  rw [this]; rfl
theorem mxV_int (ts : Array TypeId) (t : TypeId) (k j : IntKind) (a b : Int) : mxV P ts t [.int k a, .int j b] = some (.int k (max a b)) := by
  have : (if a < b then b else a) = max a b := by omega
  simp only [mxV, flatL, flat, Builtin.max_, List.foldlM, Builtin.max2, pvF]
  show pv P (pure (Value.int k (if a < b then b else a))) = _
  rw [this]; rfl

/-! ### Slices of any kind, and their pieces -/
theorem slcT_s {e n : Nat} (hT : slcT P t = some (some (e, n))) : P.underlying t = some (.slice e) ∧ szT P e = some n := by
  unfold slcT at hT
  split at hT
  · cases hT
  · rename_i e' hu
    split at hT
    · rename_i n' hn; cases hT; exact ⟨hu, hn⟩
    · cases hT
  · cases hT

structure Sv (h : Heap) (e n : Nat) (a : Option Addr) (len c : Nat) (cs : List Value) : Prop where
  hl : cs.length = len * n
  hs : Sl h a cs
  hc : (c < UC ∧ len ≤ c) ∨ (UC ≤ c ∧ ∃ b off full, a = some ⟨b, off, none⟩ ∧ cells h b = some (full, e, true) ∧ off = (c - UC) * n ∧ off + len * n ≤ full.length)

theorem Sv.known {e n : Nat} {a : Option Addr} {len c : Nat} {cs : List Value} (hl : cs.length = len * n) (hs : Sl h a cs) (h1 : c < UC) (h2 : len ≤ c) : Sv h e n a len c cs := ⟨hl, hs, .inl ⟨h1, h2⟩⟩

theorem Own.sv {e n : Nat} {a : Option Addr} {len c : Nat} {cs : List Value} (ho : Own h e n a len c cs) (hU : len < 100000000000000) : Sv h e n a len c cs := by
  refine ⟨ho.hlen, ho.sl, ?_⟩
  have hUC := U_UC
  unfold U at hUC
  rcases ho.hat with ⟨_, h1, h2⟩ | ⟨b, m, ha, h1, h2, h3, h4⟩
  · left; omega
  · rcases h4 with ⟨rfl, h4⟩ | ⟨_, h4⟩
    · right
      exact ⟨by omega, b, 0, cs, ha, h3, by rw [h4]; simp, by rw [ho.hlen]; omega⟩
    · left; omega

def loB (lo : Option Value) (h' : Nat) : Option Nat := match lo with
  | none => some 0
  | some (.int _ (.ofNat l)) => (match Nat.ble l h' with | true => some l | false => none)
  | some _ => none
def loR (m : Option Nat) (h' : Nat) : Option Nat → Option (Nat × Nat × Option Nat)
  | none => none
  | some l => some (l, h', m)
theorem bounds_nn (len top : Nat) (lo : Option Value) : bounds len top none none lo = loR none len (loB lo len) := by
  unfold bounds loR loB; rfl
theorem bounds_ns (len top h' : Nat) (k : IntKind) (lo : Option Value) (h : h' ≤ top) : bounds len top none (some (.int k (.ofNat h'))) lo = loR none h' (loB lo h') := by
  have : Nat.ble h' top = true := by simpa using h
  unfold bounds; simp only [this]; rfl
theorem bounds_ss (len top h' mm : Nat) (k j : IntKind) (lo : Option Value) (h : h' ≤ mm) (hm : mm ≤ top) : bounds len top (some (.int j (.ofNat mm))) (some (.int k (.ofNat h'))) lo = loR (some mm) h' (loB lo h') := by
  have h1 : Nat.ble h' mm = true := by simpa using h
  have h2 : Nat.ble mm top = true := by simpa using hm
  unfold bounds; simp only [h1, h2]; rfl

theorem bounds_up {len top top' : Nat} {mx hi lo : Option Value} {l h' : Nat} {m : Option Nat} (hb : bounds len top mx hi lo = some (l, h', m)) (ht : top ≤ top') : bounds len top' mx hi lo = some (l, h', m) := by
  obtain ⟨k1, k2, k3⟩ := bounds_key hb
  have key3 : loB lo h' = some l := by
    rcases k3 with ⟨rfl, rfl⟩ | ⟨k, rfl, hl⟩
    · rfl
    · have : Nat.ble l h' = true := by simpa using hl
      simp only [loB, this]
  rcases k1 with ⟨rfl, rfl⟩ | ⟨k, mm, rfl, rfl, hmm⟩
  · rcases k2 with ⟨rfl, _, rfl⟩ | ⟨k, rfl, hh⟩
    · rw [bounds_nn, key3]; rfl
    · rw [bounds_ns _ _ _ _ _ (by simp at hh; omega), key3]; rfl
  · rcases k2 with ⟨_, h0, _⟩ | ⟨k, rfl, hh⟩
    · cases h0
    · rw [bounds_ss _ _ _ _ _ _ _ (by simpa using hh) (by omega), key3]; rfl

theorem bounds_le {len top : Nat} {mx hi lo : Option Value} {l h' : Nat} {m : Option Nat} (hb : bounds len top mx hi lo = some (l, h', m)) (ht : len ≤ top) : l ≤ h' ∧ h' ≤ top ∧ ∀ m', m = some m' → h' ≤ m' ∧ m' ≤ top := by
  obtain ⟨k1, k2, k3⟩ := bounds_key hb
  have hle : l ≤ h' := by rcases k3 with ⟨_, rfl⟩ | ⟨_, _, hl⟩ <;> omega
  rcases k1 with ⟨_, rfl⟩ | ⟨_, mm, _, rfl, hmm⟩
  · rcases k2 with ⟨_, _, rfl⟩ | ⟨_, _, hh⟩
    · exact ⟨hle, ht, fun m' e => by cases e⟩
    · exact ⟨hle, by simpa using hh, fun m' e => by cases e⟩
  · rcases k2 with ⟨_, h0, _⟩ | ⟨_, _, hh⟩
    · cases h0
    · simp only [Option.getD_some] at hh
      exact ⟨hle, by omega, fun m' e => by cases e; exact ⟨hh, hmm⟩⟩

theorem szT_pos_of {e n : Nat} (hn : 0 < n) : Nat.blt 0 n = true := by simpa using hn

/-- **A PIECE OF A SLICE, OF WHATEVER CAPACITY.** -/
theorem sl_any {e n : Nat} (hT : slcT P t = some (some (e, n))) (hn : 0 < n) {a : Option Addr} {len c : Nat} {cs : List Value} (sv : Sv h e n a len c cs) (hU : len < 100000000000000)
    {lo hi mx : Option Value} {l h' : Nat} {m : Option Nat} (hb : bounds len len mx hi lo = some (l, h', m)) :
    (∃ a' c', slV P t (.slice a len c) lo hi mx h = some (.slice a' (h' - l) c') ∧ Sv h e n a' (h' - l) c' ((cs.drop (l * n)).take ((h' - l) * n)) ∧ (∀ m', m = some m' → c' = m' - l)) ∨
    (m = none ∧ h' - l = 0 ∧ slV P t (.slice a len c) lo hi mx h = none ∧ ∃ a1 c1 a2 c2, tailV P t (.slice a len c) lo hi mx h = some (.slice a1 0 c1, .slice a2 0 c2) ∧ Sv h e n a1 0 c1 [] ∧ Sv h e n a2 0 c2 []) := by
  obtain ⟨hu, hs⟩ := slcT_s hT
  obtain ⟨hlh, hhl, hml⟩ := bounds_le hb (Nat.le_refl _)
  have hUC : 100000000000000 < UC := by have := U_UC; unfold U at this; omega
  have hlen' : ((cs.drop (l * n)).take ((h' - l) * n)).length = (h' - l) * n := by
    rw [List.length_take, List.length_drop, sv.hl, ← Nat.sub_mul]
    exact Nat.min_eq_left (Nat.mul_le_mul_right n (by omega))
  rcases sv.hc with ⟨hc1, hc2⟩ | ⟨hc1, b, off, full, ha, hcb, hoff, hfull⟩
  · left
    have hb2 := bounds_up hb hc2
    have hbc : Nat.blt c UC = true := by simpa using hc1
    have hM : h' ≤ m.getD c ∧ m.getD c ≤ c := by
      cases m with
      | none => simp only [Option.getD_none]; omega
      | some m' => have := hml m' rfl; simp only [Option.getD_some]; omega
    have hcap : ∀ m', m = some m' → m.getD c - l = m' - l := fun m' e => by rw [e, Option.getD_some]
    cases hml2 : Nat.beq (m.getD c) l with
    | true =>
      have hml3 : m.getD c = l := by simpa using hml2
      have h0 : h' - l = 0 := by omega
      refine ⟨a, m.getD c - l, ?_, ⟨hlen', ?_, .inl ⟨by omega, by omega⟩⟩, hcap⟩
      · simp only [slV, slicePure, hu, hs, hbc, hb2, hml2]
      · rw [h0]; simp only [Nat.zero_mul, List.take_zero]; exact Sl.nil h sv.hs.spot
    | false =>
      refine ⟨a.map (·.add (l * n)), m.getD c - l, ?_, ⟨hlen', sv.hs.sub _ _, .inl ⟨by omega, by omega⟩⟩, hcap⟩
      simp only [slV, slicePure, hu, hs, hbc, hb2, hml2]
  · subst ha
    have hbc : Nat.blt c UC = false := by rw [Bool.eq_false_iff]; simp; omega
    have hk : (Nat.beq e e && Nat.ble UC c && Nat.beq off ((c - UC) * n) && Nat.blt 0 n && Nat.ble (off + len * n) full.length && Nat.blt len U) = true := by
      simp only [Bool.and_eq_true, Nat.beq_eq, Nat.ble_eq, Nat.blt_eq]
      refine ⟨⟨⟨⟨⟨trivial, hc1⟩, hoff⟩, hn⟩, hfull⟩, ?_⟩
      unfold U; exact hU
    cases m with
    | some m' =>
      left
      obtain ⟨h3, h4⟩ := hml m' rfl
      cases hml2 : Nat.beq m' l with
      | true =>
        have hml3 : m' = l := by simpa using hml2
        have h0 : h' - l = 0 := by omega
        refine ⟨some ⟨b, off, none⟩, m' - l, ?_, ⟨hlen', ?_, .inl ⟨by omega, by omega⟩⟩, fun _ e => by cases e; rfl⟩
        · simp only [slV, slicePure, hu, hs, hbc, sliceRead, hcb, hk, hb, hml2]
        · rw [h0]; simp only [Nat.zero_mul, List.take_zero]; exact Sl.nil h (spotN_s b off)
      | false =>
        refine ⟨some ⟨b, off + l * n, none⟩, m' - l, ?_, ⟨hlen', by have := sv.hs.sub (l * n) ((h' - l) * n); rw [Option.map_some, addr_add] at this; exact this, .inl ⟨by omega, by omega⟩⟩, fun _ e => by cases e; rfl⟩
        simp only [slV, slicePure, hu, hs, hbc, sliceRead, hcb, hk, hb, hml2, addr_add]
    | none =>
      by_cases hll : l < len
      · left
        have hll2 : Nat.blt l len = true := by simpa using hll
        refine ⟨some ⟨b, off + l * n, none⟩, c + l, ?_, ⟨hlen', by have := sv.hs.sub (l * n) ((h' - l) * n); rw [Option.map_some, addr_add] at this; exact this, .inr ⟨by omega, b, off + l * n, full, rfl, hcb, ?_, ?_⟩⟩, fun _ e => by cases e⟩
        · simp only [slV, slicePure, hu, hs, hbc, sliceRead, hcb, hk, hb, hll2, addr_add]
        · rw [hoff, ← Nat.add_mul]; congr 1; omega
        · have : l * n + (h' - l) * n = h' * n := by rw [← Nat.add_mul]; congr 1; omega
          have := Nat.mul_le_mul_right n hhl
          omega
      · right
        have hl2 : l = len := by omega
        have hh2 : h' = len := by omega
        have hll2 : Nat.blt l len = false := by rw [Bool.eq_false_iff]; simp; omega
        have hmx : mx = none := by
          rcases (bounds_key hb).1 with ⟨h0, _⟩ | ⟨_, _, _, h0, _⟩
          · exact h0
          · cases h0
        subst hmx
        refine ⟨rfl, by omega, ?_, some ⟨b, off, none⟩, 0, some ⟨b, off + len * n, none⟩, c + len, ?_, ⟨by simp, Sl.nil h (spotN_s _ _), .inl ⟨by omega, by omega⟩⟩, ⟨by simp, Sl.nil h (spotN_s _ _), .inr ⟨by omega, b, off + len * n, full, rfl, hcb, ?_, by omega⟩⟩⟩
        · simp only [slV, slicePure, hu, hs, hbc, sliceRead, hcb, hk, hb, hll2]
        · simp only [tailV, hu, hcb, hs, hb]
          rw [if_pos ⟨trivial, hc1, hoff, hn, hfull, hl2, hh2, by unfold U; exact hU⟩]
        · rw [hoff, ← Nat.add_mul]; congr 1; omega

/-- the same as a condition -/
theorem slO {e n : Nat} (hT : slcT P t = some (some (e, n))) (hn : 0 < n) {a : Option Addr} {len c : Nat} {cs : List Value} (sv : Sv h e n a len c cs) (hU : len < 100000000000000)
    {lo hi mx : Option Value} {l h' : Nat} {m : Option Nat} (hb : bounds len len mx hi lo = some (l, h', m)) {k : Value → Heap → Prop}
    (hk : ∀ a' c', Sv h e n a' (h' - l) c' ((cs.drop (l * n)).take ((h' - l) * n)) → (∀ m', m = some m' → c' = m' - l) → k (.slice a' (h' - l) c') h) :
    oT (slV P t (.slice a len c) lo hi mx h) (tailV P t (.slice a len c) lo hi mx h) h k := by
  rcases sl_any hT hn sv hU hb with ⟨a', c', h1, h2, h3⟩ | ⟨rfl, h0, h1, a1, c1, a2, c2, h4, h5, h6⟩
  · rw [h1]; exact hk a' c' h2 h3
  · rw [h1, h4]
    rw [h0] at hk
    simp only [Nat.zero_mul, List.take_zero] at hk
    exact And.intro (hk _ _ h5 (fun _ e => (by cases e))) (hk _ _ h6 (fun _ e => (by cases e)))

/-- bounds that are numbers -/
theorem bounds_i {len : Nat} {kl kh km : IntKind} {lo hi mx : Option Int} (h1 : ∀ x, mx = some x → 0 ≤ x ∧ x ≤ len) (h2 : ∀ x, hi = some x → 0 ≤ x ∧ x ≤ mx.getD len) (h3 : hi = none → mx = none) (h4 : ∀ x, lo = some x → 0 ≤ x ∧ x ≤ hi.getD len) :
    bounds len len (mx.map (Value.int km)) (hi.map (Value.int kh)) (lo.map (Value.int kl)) = some ((lo.getD 0).toNat, (hi.getD len).toNat, mx.map Int.toNat) := by
  have key : ∀ h' : Nat, (hi.getD len).toNat = h' → loB (lo.map (Value.int kl)) h' = some (lo.getD 0).toNat := fun h' hh => by
    cases lo with
    | none => rfl
    | some x =>
      obtain ⟨p1, p2⟩ := h4 x rfl
      cases x with
      | negSucc n => omega
      | ofNat n =>
        have : Nat.ble n h' = true := by
          rw [← hh]; simp only [Nat.ble_eq]
          have : (n : Int) ≤ hi.getD len := p2
          omega
        simp only [loB, Option.map_some, this, Option.getD_some]
        rfl
  cases mx with
  | none =>
    cases hi with
    | none =>
      have := key len (by simp)
      simp only [Option.map_none, Option.getD_none, Int.toNat_natCast] at this ⊢
      rw [bounds_nn, this]; rfl
    | some x =>
      obtain ⟨p1, p2⟩ := h2 x rfl
      cases x with
      | negSucc n => omega
      | ofNat n =>
        have h5 : n ≤ len := by
          have : (n : Int) ≤ (len : Int) := p2
          omega
        have := key n (by simp)
        simp only [Option.map_none, Option.map_some, Option.getD_some] at this ⊢
        rw [bounds_ns _ _ _ _ _ h5, this]; rfl
  | some y =>
    obtain ⟨q1, q2⟩ := h1 y rfl
    cases hi with
    | none => cases h3 rfl
    | some x =>
      obtain ⟨p1, p2⟩ := h2 x rfl
      cases y with
      | negSucc n => omega
      | ofNat j =>
        cases x with
        | negSucc n => omega
        | ofNat n =>
          have h5 : j ≤ len := by
            have : (j : Int) ≤ (len : Int) := q2
            omega
          have h6 : n ≤ j := by
            have : (n : Int) ≤ (j : Int) := p2
            omega
          have := key n (by simp)
          simp only [Option.map_some, Option.getD_some] at this ⊢
          rw [bounds_ss _ _ _ _ _ _ _ h6 h5, this]; rfl
end
end
end Go.Ev

namespace Go.Ev
open Go Go.RowKit
attribute [push_cast] evMarks_nil evRes_0 evRes_1 evRes_2 evRes_3 evRes_4 evRes_c1 keptP_nil keptP_cons CallV_func0 put_s put_n FR_g FR_g0 enumA_nil enumA_cons ev_tmp ev_const ev_func ev_global pickV_t pickV_f extV_t unV_not unV_neg faV_p fdV_a partL_f partL_t iaV_s iaV_a ixV_a ncV_p ncV_f miV_f lnB_l bdV_s fillP_nil fillP_cons fillQ_s tp_move tv_move tp_assign tv_assign tp_pick tv_pick tp_extract tv_extract tp_bin tv_bin tp_un tv_un tp_fa tv_fa tp_fd tv_fd tp_ia tv_ia tp_ix tv_ix tp_nc tv_nc tp_mf tv_mf tp_mi tv_mi tp_build tv_build tp_len tv_len tp_min tv_min tp_max tv_max tv_load tv_slice tv_convert te_alloc te_box te_bs te_store te_ms te_append b_add b_sub b_mul b_quo b_rem b_lss b_leq b_gtr b_geq b_eql b_neq b_shr b_shl b_eqlb b_neqb b_eqln b_neqn b_eqlp b_neqp wrap_i64 next_put lo_put next_add lo_add cells_put_s cells_put_n cells_add_s cells_add_n fone_bool fone_int fone_str fone_p0 fone_s0 fone_m0 fone_nf fone_ni fone_p fone_s foneL_nil foneL_cons vcells_int vcells_bool vcells_str vcells_p vcells_s vcells_m vcells_f vcells_nf vcells_i vcells_ni vcells_a load_eq ldC_own stE_eq stC_s bxE_s alE_s bsE_eq bsC_s msE_s setFrom List.take_zero List.take_succ_cons List.drop_zero List.drop_succ_cons List.take_nil List.drop_nil List.nil_append List.cons_append List.append_nil List.length_cons List.length_nil List.getElem?_cons_zero List.getElem?_cons_succ List.map_cons List.map_nil Option.map_some Option.map_none Nat.zero_add Nat.add_zero if_true if_false decide_true decide_false Bool.not_true Bool.not_false true_and and_true List.size_toArray or_true true_or List.mem_cons List.mem_nil_iff List.not_mem_nil or_false false_or Nat.zero_mul Nat.mul_one Nat.mul_zero Nat.lt_irrefl Option.isNone_some Option.isNone_none Nat.succ_ne_zero eq_self ite_true ite_false Int.natCast_zero Nat.sub_zero q_bool q_int q_str q_p0 q_s0 q_m0 q_nf q_ni q_p q_s q_nil q_cons q_func q_scn q_scc q_scp q_scs q_sci q_scb q_sct and_self
end Go.Ev

namespace Go.Ev
open Go Go.RowKit
noncomputable section

/-! ### A loop over a function: each round falls through -/
theorem evMarks_cons {d : Nat} {ds : List Nat} {h : Heap} {m : Bool} (hd : h.get d = some ⟨.deferred (some []), m⟩) (hlo : h.lo ≤ d) : evMarks (d :: ds) h = evMarks ds (h.put d ⟨.deferred none, false⟩) := by
  have : Nat.ble h.lo d = true := by simpa using hlo
  simp only [evMarks, hd, this]

theorem getLoopA_of {h : Heap} {l : Nat} {r : Loop} {m : Bool} (hg : h.get l = some ⟨.loop r, m⟩) (hlo : h.lo ≤ l) : getLoopA h l = some r := by
  have : Nat.ble h.lo l = true := by simpa using hlo
  unfold getLoopA
  rw [hg]
  dsimp only
  rw [this]

/-- what a loop over a function is, between two rounds -/
structure LoopAt (h0 : Heap) (r : Loop) (h : Heap) : Prop where
  next : h0.next + 2 ≤ h.next
  lo : h.lo = h0.lo
  mark : h.get h0.next = some ⟨.deferred (some []), false⟩
  loop : h.get (h0.next + 1) = some ⟨.loop r, false⟩

theorem LoopAt.grew {h0 h h' : Heap} {r : Loop} {S : Nat → Prop} (q : LoopAt h0 r h) (g : Grew h h' S) (hd : ¬ S h0.next) (hl : ¬ S (h0.next + 1)) : LoopAt h0 r h' := by
  have := q.next
  exact ⟨Nat.le_trans q.next g.next, g.lo.trans q.lo, (g.get _ (by omega) hd).trans q.mark, (g.get _ (by omega) hl).trans q.loop⟩

theorem W.each {p : Par} (good : GoodP p) {tm : VT} {df : List Nat} {h : Heap} {R : XExit → S → Prop} {g : Operand} {ps : Array Tmp} {a b : Code} {aIR bIR : IR} (ha : comp p.P a = aIR) (hb : comp p.P b = bIR) (hU : tm.sz < U)
    {f : FuncId} {captured : List Value} (hgv : ev tm g = .func (.func f) #[] ⟨captured⟩) (hlo : h.lo ≤ h.next)
    (N : Nat) (J : Nat → Heap → Prop) (S T : Nat → Prop) (It : Nat → Heap → List Value → Prop) (A : List Value → VT)
    (hST : ¬ S h.next ∧ ¬ S (h.next + 1) ∧ ¬ T h.next ∧ ¬ T (h.next + 1))
    (hJ0 : J 0 h) (hJ : ∀ i h2 h3, J i h2 → h.next ≤ h2.next → h2.lo = h.lo → Grew h2 h3 (fun k => k = h.next + 1 ∨ T k) → J i h3)
    (hlen : ∀ i h2 args, It i h2 args → args.length = ps.toList.length)
    (hIt : ∀ i h2 h3 args, It i h2 args → h.next + 2 ≤ h2.next → h2.lo = h.lo → Grew h2 h3 (fun k => k = h.next + 1) → It i h3 args)
    (hA : ∀ i h2 args, It i h2 args → vc p (some (h.next + 1)) aIR ⟨setAll tm (ps.toList.zip args), [], h2⟩ (fun e s1 => e = .normal ∧ s1 = ⟨A args, [], h2⟩))
    (step : ∀ i h2 args, i < N → J i h2 → h.next + 2 ≤ h2.next → h2.lo = h.lo → It i h2 args → vc p (some (h.next + 1)) bIR ⟨A args, [], h2⟩ (fun e s2 => e = .normal ∧ J (i + 1) s2.h ∧ Grew h2 s2.h S))
    (iter : ∀ (h1 : Heap) (Y : Nat → Heap → Prop), Grew h h1 (fun _ => False) → h1.next = h.next + 2 → Y 0 h1 →
      (∀ i h2 args, i < N → Y i h2 → h.next + 2 ≤ h2.next → h2.lo = h.lo → It i h2 args → YieldW p (h.next + 1) args h2 (fun v h3 => v = .bool true ∧ Y (i + 1) h3 ∧ Grew h2 h3 (fun k => S k ∨ k = h.next + 1))) →
      (∀ i h2 h3, Y i h2 → Grew h2 h3 T → Y i h3) →
      CallE p f (.func (.yield (h.next + 1)) #[] #[] :: captured) h1 (fun _ h2 => Y N h2 ∧ Grew h1 h2 (fun k => S k ∨ T k ∨ k = h.next + 1)))
    (hR : ∀ h2, J N h2 → Grew h h2 (fun k => S k ∨ T k) → h.next + 2 ≤ h2.next → h2.get h.next = some ⟨.deferred (some []), false⟩ → R .normal ⟨tm, h.next :: df, h2⟩) :
    W p none (.range g ps a b) ⟨tm, df, h⟩ R := by
  let r : Loop := { state := .ready, pending := none, fn := 0, tmps := tm.arr, params := ps, assign := a, body := b, defers := h.next }
  let h1 : Heap := (h.add ⟨.deferred (some []), false⟩).add ⟨.loop r, false⟩
  have hn1 : h1.next = h.next + 2 := by simp only [h1, next_add]
  have hlo1 : h1.lo = h.lo := by simp only [h1, lo_add]
  have hent : evEnter none tm ps a b h = some (h.next + 1, [h.next], h1) := by
    simp only [evEnter, h1, Heap.add]
    rw [Heap.new_eq, Heap.new_eq]
  have hg1 : Grew h h1 (fun _ => False) := (Grew.add h _ _).trans (Grew.add _ _ _) fun i _ h => h
  have hL1 : LoopAt h r h1 := by
    refine ⟨by omega, hlo1, ?_, ?_⟩
    · show ((h.add _).add _).get h.next = _
      rw [get_add_n _ _ (by rw [next_add]; omega), get_add_s _ _ rfl]
    · show ((h.add _).add _).get (h.next + 1) = _
      rw [get_add_s _ _ (by rw [next_add])]
  refine W.range hent hgv ?_
  refine (iter h1 (fun i h2 => J i h2 ∧ LoopAt h r h2) hg1 hn1 ⟨hJ 0 h h1 hJ0 (Nat.le_refl _) rfl (hg1.mono fun _ _ h => h.elim), hL1⟩ ?_ ?_).mono ?_
  · -- a round
    intro i h2 args hi ⟨hJ2, hL⟩ hn hl2 hargs
    have hlol : h2.lo ≤ h.next + 1 := by rw [hl2]; omega
    have hgl : getLoopA h2 (h.next + 1) = some r := getLoopA_of hL.loop hlol
    refine YieldW.of hgl (T := tm) rfl hU (hlen i h2 args hargs) ?_
    refine WP.mono (R := fun e s1 => e = .normal ∧ s1 = ⟨A args, [], h2⟩) (vc_run good a _ _ ?_) ?_
    · rw [ha]; exact hA i h2 args hargs
    · rintro e s1 ⟨rfl, rfl⟩
      simp only [assignR, hgl]
      refine ⟨rfl, ?_⟩
      have hgp : Grew h2 (putLoopA h2 (h.next + 1) { r with state := .busy }) (fun k => k = h.next + 1) := Grew.put _ _ _ fun _ => rfl
      have hJ3 := hJ i h2 _ hJ2 (by omega) hl2 (hgp.mono fun _ _ h => .inl h)
      have hIt3 := hIt i h2 _ args hargs hn hl2 hgp
      have hL3 : LoopAt h { r with state := .busy } (putLoopA h2 (h.next + 1) { r with state := .busy }) :=
        ⟨hn, hl2, (hgp.get _ (by omega) (by simp)).trans hL.mark, get_put_s _ _⟩
      refine WP.mono (R := fun e s2 => e = .normal ∧ J (i + 1) s2.h ∧ Grew (putLoopA h2 (h.next + 1) { r with state := .busy }) s2.h S) (vc_run good b _ _ ?_) ?_
      · rw [hb]; exact step i _ args hi hJ3 hn hl2 hIt3
      · rintro e s2 ⟨rfl, hJ4, hg4⟩
        have hL4 := hL3.grew hg4 hST.1 hST.2.1
        have hgl4 : getLoopA s2.h (h.next + 1) = some { r with state := .busy } := getLoopA_of hL4.loop (by rw [hL4.lo]; omega)
        simp only [roundR, hgl4]
        have hgp4 : ∀ x, Grew s2.h (putLoopA s2.h (h.next + 1) x) (fun k => k = h.next + 1) := fun x => Grew.put _ _ _ fun _ => rfl
        have hn4 := hL4.next
        refine ⟨rfl, ⟨hJ _ _ _ hJ4 (by omega) hL4.lo ((hgp4 _).mono fun _ _ h => .inl h), hL4.next, hL4.lo, ((hgp4 _).get _ (by omega) (by simp)).trans hL4.mark, get_put_s _ _⟩, ?_⟩
        exact (hgp.mono fun _ _ h => .inr h).trans ((hg4.mono fun _ _ h => .inl h).trans ((hgp4 _).mono fun _ _ h => .inr h) fun _ _ h => h) fun _ _ h => h
  · intro i h2 h3 ⟨hJ2, hL⟩ hg
    have := hL.next
    exact ⟨hJ i h2 h3 hJ2 (by omega) hL.lo (hg.mono fun _ _ h => .inr h), hL.grew hg hST.2.2.1 hST.2.2.2⟩
  · rintro v h2 ⟨⟨hJ2, hL⟩, hg⟩
    have hn := hL.next
    have hgl : getLoopA h2 (h.next + 1) = some r := getLoopA_of hL.loop (by rw [hL.lo]; omega)
    simp only [leaveR, evLeave, hgl]
    have hgp : ∀ x, Grew h2 (putLoopA h2 (h.next + 1) x) (fun k => k = h.next + 1) := fun x => Grew.put _ _ _ fun _ => rfl
    refine hR _ (hJ _ _ _ hJ2 (by omega) hL.lo ((hgp _).mono fun _ _ h => .inl h)) ?_ hn ?_
    · refine (hg1.mono fun _ _ h => h.elim).trans (hg.trans ((hgp _).mono fun _ _ h => .inr (.inr h)) fun _ _ h => h) fun i hi h => ?_
      rcases h with h | h | h
      · exact .inl h
      · exact .inr h
      · omega
    · exact ((hgp _).get _ (by omega) (by simp)).trans hL.mark
end
end Go.Ev

namespace Go.Ev
open Go Go.RowKit
set_option linter.unusedSimpArgs false
noncomputable section

/-! ### Texts as rows of bytes -/
abbrev Tx (l : List UInt8) : ByteArray := ⟨⟨l⟩⟩
theorem Tx_size (l : List UInt8) : (Tx l).size = l.length := rfl
theorem Tx_app (a b : List UInt8) : Tx a ++ Tx b = Tx (a ++ b) := by
  apply ByteArray.ext
  simp [ByteArray.data_append]
theorem Tx_extract (l : List UInt8) (a b : Nat) : (Tx l).extract a b = Tx ((l.drop a).take (b - a)) := by
  apply ByteArray.ext
  apply Array.ext'
  simp [ByteArray.data_extract, List.take_drop]
theorem Tx_empty : ByteArray.empty = Tx [] := rfl
/-- a byte as a number -/
abbrev bt (l : List UInt8) (i : Nat) : Int := ((l.getD i 0).toNat : Int)
theorem byteAt_Tx (l : List UInt8) (i : Nat) : byteAt (Tx l) i = bt l i := rfl

section
variable {P : Program} {h : Heap} {t : TypeId}

theorem pv_bound {k : IntKind} {i : Int} {y : Nat} {c : BoundsCode} (h0 : 0 ≤ i) (h1 : i ≤ y) : pv P (Instr.sliceBound (.int k i) y c) = some i.toNat := by
  simp only [Instr.sliceBound, asIntOf, pv_bind, pv_pure, Option.bind_some]
  rw [if_pos ⟨h0, h1⟩]
  rfl
theorem slV_lh {k j : IntKind} {a b : Int} {l : List UInt8} (hT : slcT P t = some none) (h0 : 0 ≤ a) (h1 : a ≤ b) (h2 : b ≤ l.length) :
    slV P t (.string (Tx l)) (some (.int k a)) (some (.int j b)) none h = some (.string (Tx ((l.drop a.toNat).take (b.toNat - a.toNat)))) := by
  have hu : P.underlying t = some .string := by
    unfold slcT at hT; split at hT
    · assumption
    · split at hT <;> cases hT
    · cases hT
  have e1 := pv_bound (P := P) (k := j) (c := .sliceAlen) (show 0 ≤ b by omega) (show b ≤ (Tx l).size from h2)
  have e2 := pv_bound (P := P) (k := k) (c := .sliceB) h0 (show a ≤ (b.toNat : Int) by omega)
  simp only [slV, Option.all_some, Option.all_none, flat, Bool.and_self, pvF, Instr.sliceAt, Instr.slice, pv_bind, pv_under hu, Option.bind_some, Option.isSome_none, Bool.false_eq_true, if_false, Instr.sliceBounds, pv_pure, e1, e2, Tx_extract]
theorem slV_l {k : IntKind} {a : Int} {l : List UInt8} (hT : slcT P t = some none) (h0 : 0 ≤ a) (h1 : a ≤ l.length) :
    slV P t (.string (Tx l)) (some (.int k a)) none none h = some (.string (Tx (l.drop a.toNat))) := by
  have hu : P.underlying t = some .string := by
    unfold slcT at hT; split at hT
    · assumption
    · split at hT <;> cases hT
    · cases hT
  have e2 := pv_bound (P := P) (k := k) (c := .sliceB) h0 (show a ≤ ((Tx l).size : Int) from h1)
  have e3 : (l.drop a.toNat).take ((Tx l).size - a.toNat) = l.drop a.toNat := List.take_of_length_le (by simp [Tx_size])
  simp only [slV, Option.all_some, Option.all_none, flat, Bool.and_self, Bool.and_true, pvF, Instr.sliceAt, Instr.slice, pv_bind, pv_under hu, Option.bind_some, Option.isSome_none, Bool.false_eq_true, if_false, Instr.sliceBounds, pv_pure, e2, Tx_extract, e3]
theorem slV_h {j : IntKind} {b : Int} {l : List UInt8} (hT : slcT P t = some none) (h0 : 0 ≤ b) (h2 : b ≤ l.length) :
    slV P t (.string (Tx l)) none (some (.int j b)) none h = some (.string (Tx (l.take b.toNat))) := by
  have hu : P.underlying t = some .string := by
    unfold slcT at hT; split at hT
    · assumption
    · split at hT <;> cases hT
    · cases hT
  have e1 := pv_bound (P := P) (k := j) (c := .sliceAlen) h0 (show b ≤ (Tx l).size from h2)
  simp only [slV, Option.all_some, Option.all_none, flat, Bool.and_self, Bool.and_true, Bool.true_and, pvF, Instr.sliceAt, Instr.slice, pv_bind, pv_under hu, Option.bind_some, Option.isSome_none, Bool.false_eq_true, if_false, Instr.sliceBounds, pv_pure, e1, Tx_extract, Nat.sub_zero, List.drop_zero]

theorem ixV_t (l : List UInt8) (k : IntKind) (i : Int) (h0 : 0 ≤ i) (hi : i < l.length) : ixV (some none) (.string (Tx l)) (.int k i) = some (.int .u8 (bt l i.toNat)) :=
  ixV_s (Tx l) k i h0 hi
theorem lnB_t (l : List UInt8) : lnB (some true) (.string (Tx l)) = some (.int .i64 l.length) := rfl
theorem b_eqlt {x y : Operand} {ty : TypeId} {a b : List UInt8} : binPure P .eql ty x y (.string (Tx a)) (.string (Tx b)) = some (.bool (decide (a = b))) := by
  rw [b_eqls]; congr 2; rw [Bool.eq_iff_iff]; simp
theorem b_neqt {x y : Operand} {ty : TypeId} {a b : List UInt8} : binPure P .neq ty x y (.string (Tx a)) (.string (Tx b)) = some (.bool (!decide (a = b))) := by
  rw [b_neqs]; congr 2; rw [Bool.eq_iff_iff]; simp
theorem b_addt {x y : Operand} {ty : TypeId} {a b : List UInt8} (hs : a.length + b.length ≤ 9223372036854775807) : binPure P .add ty x y (.string (Tx a)) (.string (Tx b)) = some (.string (Tx (a ++ b))) := by
  rw [b_adds (a := Tx a) (b := Tx b) hs, Tx_app]

/-! ### A text gone through -/
def isStr (P : Program) (t : TypeId) : Bool := match P.underlying t with | some .string => true | _ => false
theorem isStr_eq (hT : isStr P t = true) : P.underlying t = some .string := by
  unfold isStr at hT; split at hT
  · assumption
  · cases hT
def itO (s : ByteArray) (p : Nat) : AObj := ⟨.stringIter s p, false⟩
def rgE (q : Bool) (v : Value) (h : Heap) : Option (Value × Heap) := match q, v with
  | true, .string s => some (.pointer (some ⟨h.next, 0, none⟩), h.add (itO s 0))
  | _, _ => none
theorem te_range {ty : TypeId} {x : Operand} {tm : VT} (hT : isStr P ty = true) : te P (.range ty x) t tm h = rgE true (ev tm x) h := by
  have hu := isStr_eq hT
  have e : te P (.range ty x) t tm h = evEff P (bare (.range ty x) t) tm h := rfl
  rw [e]
  simp only [bare, evEff, hu, Heap.add]
  cases ev tm x <;> rfl
theorem rgE_s (s : ByteArray) : rgE true (.string s) h = some (.pointer (some ⟨h.next, 0, none⟩), h.add (itO s 0)) := rfl
def nxE (v : Value) (h : Heap) : Option (Value × Heap) := match v with
    | .pointer (some ⟨b, 0, none⟩) => match h.get b, Nat.ble h.lo b with
      | some ⟨.stringIter s pos, false⟩, true => match Nat.blt pos s.size with
        | true => some (.tuple #[.bool true, goInt pos, .int .i32 (Utf8.decode s pos).1], h.put b ⟨.stringIter s (pos + (Utf8.decode s pos).2), false⟩)
        | false => some (.tuple #[.bool false], h)
      | _, _ => none
    | _ => none
theorem te_next {x : Operand} {tm : VT} : te P (.next x true) t tm h = nxE (ev tm x) h := rfl
theorem nxE_t (b pos : Nat) (l : List UInt8) (hg : h.get b = some (itO (Tx l) pos)) (hlo : h.lo ≤ b) (hp : pos < l.length) :
    nxE (.pointer (some ⟨b, 0, none⟩)) h = some (.tuple #[.bool true, .int .i64 pos, .int .i32 (Utf8.decode (Tx l) pos).1], h.put b (itO (Tx l) (pos + (Utf8.decode (Tx l) pos).2))) := by
  have h1 : Nat.ble h.lo b = true := by simpa using hlo
  have h2 : Nat.blt pos (Tx l).size = true := by simpa [Tx_size] using hp
  simp only [nxE, hg, itO, h1, h2, goInt]
theorem nxE_f (b pos : Nat) (l : List UInt8) (hg : h.get b = some (itO (Tx l) pos)) (hlo : h.lo ≤ b) (hp : l.length ≤ pos) :
    nxE (.pointer (some ⟨b, 0, none⟩)) h = some (.tuple #[.bool false], h) := by
  have h1 : Nat.ble h.lo b = true := by simpa using hlo
  have h2 : Nat.blt pos (Tx l).size = false := by rw [Bool.eq_false_iff]; simpa [Tx_size] using hp
  simp only [nxE, hg, itO, h1, h2]

/-! ### What is asked where a number is -/
theorem vcond_dec {c : Prop} [Decidable c] {A B : Prop} (ha : c → A) (hb : ¬ c → B) : vcond (.bool (decide c)) A B := ⟨fun e => ha (of_decide_eq_true e), fun e => hb (of_decide_eq_false e)⟩
theorem vcond_ndec {c : Prop} [Decidable c] {A B : Prop} (ha : ¬ c → A) (hb : c → B) : vcond (.bool (!decide c)) A B := ⟨fun e => ha (by simpa using e), fun e => hb (by simpa using e)⟩
theorem gV_dec {c : Prop} [Decidable c] {A B : Prop} (ha : c → A) (hb : ¬ c → B) : gV (.bool (decide c)) true A B := ⟨fun e => ha (of_decide_eq_true e), fun e => hb (fun hc => e (decide_eq_true hc))⟩
theorem gV_decf {c : Prop} [Decidable c] {A B : Prop} (ha : ¬ c → A) (hb : c → B) : gV (.bool (decide c)) false A B := ⟨fun e => ha (of_decide_eq_false e), fun e => hb (by by_cases hc : c; exact hc; exact absurd (decide_eq_false hc) e)⟩
theorem gV_ndec {c : Prop} [Decidable c] {A B : Prop} (ha : ¬ c → A) (hb : c → B) : gV (.bool (!decide c)) true A B := ⟨fun e => ha (by simpa using e), fun e => hb (by simpa using e)⟩
theorem gV_ndecf {c : Prop} [Decidable c] {A B : Prop} (ha : c → A) (hb : ¬ c → B) : gV (.bool (!decide c)) false A B := ⟨fun e => ha (by simpa using e), fun e => hb (by simpa using e)⟩
end
end
end Go.Ev

namespace Go.Ev
open Go Go.RowKit
noncomputable section
attribute [push_cast] slV_lh slV_l slV_h ixV_t lnB_t b_eqlt b_neqt b_addt te_range rgE_s te_next nxE_t nxE_f get_add_s get_put_s get_add_n get_put_n cells_add_n cv_int te_cv

theorem CallE.firg {p : Par} (good : GoodP p) {g : FuncId} {f : FIR} (hf : Ev.fir p.P g = some f) {args : List Value} {h : Heap} {R : Value → Heap → Prop} (hn : Nat.ble args.length f.n = true) (hU : f.n < U)
    (hv : h.lo ≤ h.next → vc p none f.ir ⟨FR f.n (enumA 0 args), [], h⟩ (finR p.P f.rs R)) : CallE p g args h R := by
  intro Γ w hr hs
  exact CallE.fir good hf hn hU (hv (by rw [hr.lo]; exact hr.gn)) Γ w hr hs

theorem CallE.to {p : Par} {g : FuncId} {args : List Value} {h : Heap} {R k : Value → Heap → Prop} (hc : CallE p g args h R) (hk : ∀ v h', R v h' → k v h') : CallW p g args h k := (hc.mono hk).w

theorem W.loopI {p : Par} (good : GoodP p) {ro : Option Nat} {b : IR} {R : XExit → S → Prop} (I : Nat → S → Prop) (h : ∀ n s1, I n s1 → vc p ro b s1 (thenR (fun s2 => ∃ m, m < n ∧ I m s2) R)) :
    ∀ n s, I n s → W p ro (.loop b) s R := by
  intro n
  induction n using Nat.strongRecOn with
  | ind n ih =>
    intro s hI
    refine W.round good (vc_mono _ _ _ _ ?_ (h n s hI))
    intro e s2 hr
    cases e with
    | normal => obtain ⟨m, hm, h2⟩ := hr; exact ih m hm s2 h2
    | exit i => exact hr
    | goto l => exact hr
    | ret => exact hr

theorem vc_scope_of {p : Par} (good : GoodP p) {ro : Option Nat} {b c : Code} {ir : IR} {s : S} {R : XExit → S → Prop} (hc : comp p.P c = ir) (h : vc p ro ir s (scopeR p ro b R)) : WPin p ro b c s R :=
  WPin.of (vc_run good c s _ (by rw [hc]; exact h))
theorem scopeR_n {p : Par} {ro : Option Nat} {b : Code} {R : XExit → S → Prop} {s : S} : scopeR p ro b R .normal s = R .normal s := rfl
theorem scopeR_r {p : Par} {ro : Option Nat} {b : Code} {R : XExit → S → Prop} {s : S} : scopeR p ro b R .ret s = R .ret s := rfl
theorem scopeR_e {p : Par} {ro : Option Nat} {b : Code} {R : XExit → S → Prop} {s : S} {i : Nat} : scopeR p ro b R (.exit i) s = R (.exit i) s := rfl
attribute [push_cast] scopeR_n scopeR_r scopeR_e
end
end Go.Ev

namespace Go.Ev
open Go Go.RowKit
set_option linter.unusedSimpArgs false
noncomputable section

/-! ### The same conditions, each followed by what comes behind it once -/
def gT (v : Value) (w : Bool) (A : Option Value) (B : Option (Value × Value)) (h : Heap) (K : Value → Heap → Prop) : Prop := gV v w (oT A B h K) (K undef h)
def gE (v : Value) (w : Bool) (A : Option (Value × Heap)) (h : Heap) (K : Value → Heap → Prop) : Prop := gV v w (oE A K) (K undef h)
def gP (v : Value) (w : Bool) (A : Option Value) (h : Heap) (K : Value → Heap → Prop) : Prop := gV v w (oP A h K) (K undef h)
def gC (p : Par) (v : Value) (w : Bool) (f : Value) (args : List Value) (h : Heap) (K : Value → Heap → Prop) : Prop := gV v w (CallV p f args h K) (K undef h)
@[congr] theorem gT_congr {v v' : Value} {w : Bool} {A : Option Value} {B : Option (Value × Value)} {h : Heap} {K : Value → Heap → Prop} (e : v = v') : gT v w A B h K = gT v' w A B h K := by rw [e]
@[congr] theorem gE_congr {v v' : Value} {w : Bool} {A : Option (Value × Heap)} {h : Heap} {K : Value → Heap → Prop} (e : v = v') : gE v w A h K = gE v' w A h K := by rw [e]
@[congr] theorem gP_congr {v v' : Value} {w : Bool} {A : Option Value} {h : Heap} {K : Value → Heap → Prop} (e : v = v') : gP v w A h K = gP v' w A h K := by rw [e]
@[congr] theorem gC_congr {p : Par} {v v' : Value} {w : Bool} {f : Value} {args : List Value} {h : Heap} {K : Value → Heap → Prop} (e : v = v') : gC p v w f args h K = gC p v' w f args h K := by rw [e]
section
variable {p : Par} {w : Bool} {A : Option Value} {B : Option (Value × Value)} {E : Option (Value × Heap)} {h : Heap} {K : Value → Heap → Prop} {f : Value} {args : List Value}
theorem gT_tt : gT (.bool true) true A B h K = oT A B h K := gV_tt
theorem gT_ff : gT (.bool false) false A B h K = oT A B h K := gV_ff
theorem gT_tf : gT (.bool true) false A B h K = K undef h := gV_tf
theorem gT_ft : gT (.bool false) true A B h K = K undef h := gV_ft
theorem gT_u : gT undef w A B h K = K undef h := propext Iff.rfl
theorem gE_tt : gE (.bool true) true E h K = oE E K := gV_tt
theorem gE_ff : gE (.bool false) false E h K = oE E K := gV_ff
theorem gE_tf : gE (.bool true) false E h K = K undef h := gV_tf
theorem gE_ft : gE (.bool false) true E h K = K undef h := gV_ft
theorem gE_u : gE undef w E h K = K undef h := propext Iff.rfl
theorem gP_tt : gP (.bool true) true A h K = oP A h K := gV_tt
theorem gP_ff : gP (.bool false) false A h K = oP A h K := gV_ff
theorem gP_tf : gP (.bool true) false A h K = K undef h := gV_tf
theorem gP_ft : gP (.bool false) true A h K = K undef h := gV_ft
theorem gP_u : gP undef w A h K = K undef h := propext Iff.rfl
theorem gC_tt : gC p (.bool true) true f args h K = CallV p f args h K := gV_tt
theorem gC_ff : gC p (.bool false) false f args h K = CallV p f args h K := gV_ff
theorem gC_tf : gC p (.bool true) false f args h K = K undef h := gV_tf
theorem gC_ft : gC p (.bool false) true f args h K = K undef h := gV_ft
theorem gC_u : gC p undef w f args h K = K undef h := propext Iff.rfl
end

def vop2 (p : Par) (g : Option (Nat × Bool)) (c : Cl) (o : Op) (t : TypeId) (tm : VT) (h : Heap) (K : Value → Heap → Prop) : Prop :=
  match g with
  | none => vop p c o t tm h K
  | some (d, w) => match c with
    | .take => gT (tm.get d) w (tv p.P o t tm h) (tw p.P o tm h) h K
    | .eff => gE (tm.get d) w (te p.P o t tm h) h K
    | .call => match o with
      | .call ⟨.value f, args, _⟩ => gC p (tm.get d) w (ev tm f) (args.toList.map (ev tm)) h K
      | _ => gV (tm.get d) w False (K undef h)
def vops2 (p : Par) (l : List It) : VT → Heap → (VT → Heap → Prop) → Prop :=
  List.rec (motive := fun _ => VT → Heap → (VT → Heap → Prop) → Prop) (fun tm h K => K tm h)
    (fun x _ ih tm h K => vop2 p x.g x.c x.o x.t tm h (fun v h' => ih (put tm x.d v) h' K)) l
theorem vops2_eq (p : Par) (K : VT → Heap → Prop) : ∀ (l : List It) (tm : VT) (h : Heap), vops2 p l tm h K = vops p l tm h K
  | [], tm, h => rfl
  | x :: l, tm, h => by
    show vop2 p x.g x.c x.o x.t tm h (fun v h' => vops2 p l (put tm x.d v) h' K) = _
    simp only [vops2_eq p K l, vops]
    obtain ⟨d, g, c, o, t⟩ := x
    cases g with
    | none => rfl
    | some y =>
      obtain ⟨j, w⟩ := y
      cases c with
      | take => rfl
      | eff => rfl
      | call =>
        cases o with
        | call c => obtain ⟨cl, args, ats⟩ := c; cases cl <;> rfl
        | _ => rfl
def isSl (o : Op) : Bool := match o with | .slice _ _ _ _ _ => true | _ => false
def vplan2 (p : Par) : PT → HL → VT → Heap → (VT → Heap → Prop) → Prop
  | .fin, _, tm, h, K => K tm h
  | .no, _, _, _, _ => True
  | .bad, _, _, _, _ => False
  | .take i rd x k, L, tm, h, K => match rd with
    | false => match x.g with
      | none => oP (tp p.P x.o x.t tm) h (fun v _ => vplan2 p k L (put tm x.d v) h K)
      | some (d, w) => gP (tm.get d) w (tp p.P x.o x.t tm) h (fun v _ => vplan2 p k L (put tm x.d v) h K)
    | true => vgd tm x.g (match isSl x.o with
      | false => oP (tv p.P x.o x.t tm h) h (fun v _ => vplan2 p k ((i, fun h' => tv p.P x.o x.t tm h', v) :: L) (put tm x.d v) h K)
      | true => oR (tv p.P x.o x.t tm h) (tw p.P x.o tm h) (fun v => vplan2 p k ((i, fun h' => tv p.P x.o x.t tm h', v) :: L) (put tm x.d v) h K)
          (fun v => vplan2 p k ((i, fun h' => (tw p.P x.o tm h').map (·.1), v) :: L) (put tm x.d v) h K) (fun v => vplan2 p k ((i, fun h' => (tw p.P x.o tm h').map (·.2), v) :: L) (put tm x.d v) h K))
      (vplan2 p k L (put tm x.d undef) h K)
  | .eff _ x bind k alt, L, tm, h, K => match alt with
    | .no => vgd tm x.g (vop p x.c x.o x.t tm h fun v h' => keptK (keptP bind h' L) (vplan2 p k L (put tm x.d v) h' K)) (vplan2 p k L (put tm x.d undef) h K)
    | alt => vgd tm x.g (vop p x.c x.o x.t tm h fun v h' => keptK (keptP bind h' L) (vplan2 p k L (put tm x.d v) h' K)) (vplan2 p k L (put tm x.d undef) h K) ∧ vplan2 p alt L tm h K

theorem vplan2_eq (p : Par) (K : VT → Heap → Prop) : ∀ (t : PT) (L : HL) (tm : VT) (h : Heap), vplan2 p t L tm h K = vplan p t L tm h K
  | .fin, L, tm, h => rfl
  | .no, L, tm, h => rfl
  | .bad, L, tm, h => rfl
  | .take i rd x k, L, tm, h => by
    simp only [vplan2, vplan, vplan2_eq p K k]
    cases rd with
    | false =>
      dsimp only
      cases x.g with
      | none => rfl
      | some y => obtain ⟨d, w⟩ := y; rfl
    | true =>
      dsimp only
      congr 1
      cases ho : isSl x.o with
      | true => rfl
      | false =>
        have : tw p.P x.o tm h = none := by
          unfold tw
          split
          · rename_i he; rw [he] at ho; cases ho
          · rfl
        simp only [this, oP]
  | .eff i x bind k alt, L, tm, h => by
    simp only [vplan, ← vplan2_eq p K k, ← vplan2_eq p K alt]
    cases alt with
    | no => simp only [vplan2, keptK, and_true]
    | _ => simp only [vplan2, keptK]

def vc2 (p : Par) (ro : Option Nat) : IR → S → (XExit → S → Prop) → Prop
  | .bad, _, _ => False
  | .skip, s, R => R .normal s
  | .ret, s, R => R .ret s
  | .exit i, s, R => R (.exit i) s
  | .goto l, s, R => R (.goto l) s
  | .label _, s, R => R .normal s
  | .ops l, s, R => vops2 p l s.tm s.h fun tm h => R .normal ⟨tm, s.df, h⟩
  | .plan t, s, R => vplan2 p t [] s.tm s.h fun tm h => R .normal ⟨tm, s.df, h⟩
  | .seq a b, s, R => vc2 p ro a s (thenR (fun s1 => vc2 p ro b s1 R) R)
  | .cond x a b, s, R => vcond (ev s.tm x) (vc2 p ro a s R) (vc2 p ro b s R)
  | .block i b, s, R => vc2 p ro b s (outR i R)
  | .loop b, s, R => W p ro (.loop b) s R
  | .scope b, s, R => WPin p ro b b s R
  | .range g ps a b, s, R => W p ro (.range g ps a b) s R
theorem vc2_eq (p : Par) (ro : Option Nat) : ∀ (ir : IR) (s : S) (R : XExit → S → Prop), vc2 p ro ir s R = vc p ro ir s R
  | .bad, s, R => rfl
  | .skip, s, R => rfl
  | .ret, s, R => rfl
  | .exit i, s, R => rfl
  | .goto l, s, R => rfl
  | .label l, s, R => rfl
  | .ops l, s, R => vops2_eq p _ l _ _
  | .plan t, s, R => vplan2_eq p _ t _ _ _
  | .seq a b, s, R => by simp only [vc2, vc, vc2_eq p ro a, vc2_eq p ro b]
  | .cond x a b, s, R => by simp only [vc2, vc, vc2_eq p ro a, vc2_eq p ro b]
  | .block i b, s, R => vc2_eq p ro b s _
  | .loop b, s, R => rfl
  | .scope b, s, R => rfl
  | .range g ps a b, s, R => rfl
@[congr] theorem vc2_congr {p : Par} {ro : Option Nat} {ir : IR} {s : S} {R : XExit → S → Prop} : vc2 p ro ir s R = vc2 p ro ir s R := rfl
@[congr] theorem WPin_congr {p : Par} {ro : Option Nat} {a b : Code} {s : S} {R : XExit → S → Prop} : WPin p ro a b s R = WPin p ro a b s R := rfl

theorem vc2_mono {p : Par} {ro : Option Nat} {ir : IR} {s : S} {R R' : XExit → S → Prop} (hR : ∀ e s', R e s' → R' e s') (h : vc2 p ro ir s R) : vc2 p ro ir s R' := by
  rw [vc2_eq] at h ⊢; exact vc_mono ir s R R' hR h

/-- the frame at a function's beginning -/
def fr0 (args : List Value) (n : Nat) : VT := VT.of (args ++ List.replicate (n - args.length) undef) n

theorem CallE.fir2 {p : Par} (good : GoodP p) {g : FuncId} {f : FIR} (hf : Ev.fir p.P g = some f) {args : List Value} {h : Heap} {R : Value → Heap → Prop} (hn : Nat.ble args.length f.n = true) (hU : f.n ≤ 100000)
    (hv : h.lo ≤ h.next → vc2 p none f.ir ⟨fr0 args f.n, [], h⟩ (finR p.P f.rs R)) : CallE p g args h R := by
  unfold Ev.fir at hf
  split at hf
  · rename_i fn hfn
    split at hf <;> cases hf
    rename_i c hb
    have hU : fn.ntmps < U := le_U hU
    have hn : args.length ≤ fn.ntmps := by simpa using hn
    refine CallE.body good hfn hb hn hU ?_
    intro hok Γ ca w hst F n Q hF hro hl hQ
    have hlo : h.lo ≤ h.next := by have := hst.hr; rw [this.lo]; exact this.gn
    have hlen : (args ++ List.replicate (fn.ntmps - args.length) undef).length = fn.ntmps := by simp; omega
    have hsz : (fr0 args fn.ntmps).sz = fn.ntmps := by
      show (args ++ List.replicate (fn.ntmps - args.length) undef).length + (fn.ntmps - (args ++ List.replicate (fn.ntmps - args.length) undef).length) = _
      rw [hlen]; omega
    have harr : (fr0 args fn.ntmps).arr = (FR fn.ntmps (enumA 0 args)).arr := by
      rw [FR_args fn.ntmps hU args hn]
      unfold fr0
      rw [VT.of_arr _ _ (by show (fr0 args fn.ntmps).sz < U; rw [hsz]; exact hU), hlen]
      apply Array.ext'; simp
    have hv' := hv hlo
    rw [vc2_eq] at hv'
    refine vc_run good c _ _ hv' hok Γ ca w ⟨⟨by show (fr0 args fn.ntmps).sz < U; rw [hsz]; exact hU, ?_, hst.tm.gl⟩, ?_, hst.df, hst.hr⟩ F n Q hF hro hl hQ
    · show _ = (fr0 args fn.ntmps).arr.map _; rw [harr]; exact hst.tm.tm
    · show ∀ x ∈ (fr0 args fn.ntmps).arr.toList, _; rw [harr]; exact hst.sc
  · cases hf

theorem W.loop2 {p : Par} (good : GoodP p) {ro : Option Nat} {b : IR} {R : XExit → S → Prop} (I : Nat → S → Prop) (h : ∀ n s1, I n s1 → vc2 p ro b s1 (thenR (fun s2 => ∃ m, m < n ∧ I m s2) R)) :
    ∀ n s, I n s → W p ro (.loop b) s R := W.loopI good I fun n s1 hI => by rw [← vc2_eq]; exact h n s1 hI
theorem vc2_scope_of {p : Par} (good : GoodP p) {ro : Option Nat} {b c : Code} {ir : IR} {s : S} {R : XExit → S → Prop} (hc : comp p.P c = ir) (h : vc2 p ro ir s (scopeR p ro b R)) : WPin p ro b c s R :=
  vc_scope_of good hc (by rw [← vc2_eq]; exact h)

def resC (l : List (Option Value)) : Option Value :=
  let rec go : List (Option Value) → Option (List Value)
    | [] => some []
    | x :: rs => match x, go rs with | some v, some l => some (v :: l) | _, _ => none
  match go l with
  | some [v] => some v
  | some l => some (.tuple ⟨l⟩)
  | none => none
theorem resC_1 (a : Value) : resC [some a] = some a := rfl
theorem resC_2 (a b : Value) : resC [some a, some b] = some (.tuple #[a, b]) := rfl
theorem resC_3 (a b c : Value) : resC [some a, some b, some c] = some (.tuple #[a, b, c]) := rfl
def rgV (P : Program) (ty : TypeId) (v : Value) (h : Heap) : Option (Value × Heap) := match P.underlying ty, v with
    | some .string, .string s => some (.pointer (some ⟨h.next, 0, none⟩), (h.new ⟨.stringIter s 0, false⟩).2)
    | _, _ => none
theorem rgV_s {P : Program} {ty : TypeId} {h : Heap} (hT : isStr P ty = true) (s : ByteArray) : rgV P ty (.string s) h = some (.pointer (some ⟨h.next, 0, none⟩), h.add (itO s 0)) := by
  simp only [rgV, isStr_eq hT, Heap.add]
  rfl
attribute [push_cast] gT_tt gT_ff gT_tf gT_ft gT_u gE_tt gE_ff gE_tf gE_ft gE_u gP_tt gP_ff gP_tf gP_ft gP_u gC_tt gC_ff gC_tf gC_ft gC_u resC_1 resC_2 resC_3 rgV_s
end
end Go.Ev
namespace Go.Ev
open Go Go.RowKit
noncomputable section
theorem CallE.fir3 {p : Par} (good : GoodP p) {g : FuncId} {f : FIR} (hf : Ev.fir p.P g = some f) {args : List Value} {h : Heap} {R : Value → Heap → Prop} {T : VT} (hn : Nat.ble args.length f.n = true) (hU : Nat.ble f.n 100000 = true)
    (hT : T.arr = ⟨args ++ List.replicate (f.n - args.length) undef⟩) (hv : h.lo ≤ h.next → vc2 p none f.ir ⟨T, [], h⟩ (finR p.P f.rs R)) : CallE p g args h R := by
  unfold Ev.fir at hf
  split at hf
  · rename_i fn hfn
    split at hf <;> cases hf
    rename_i c hb
    have hU : fn.ntmps < U := le_U (by simpa using hU)
    have hn : args.length ≤ fn.ntmps := by simpa using hn
    refine CallE.body good hfn hb hn hU ?_
    intro hok Γ ca w hst F n Q hF hro hl hQ
    have hlo : h.lo ≤ h.next := by have := hst.hr; rw [this.lo]; exact this.gn
    have hsz : T.sz = fn.ntmps := by
      have h1 := VT.arr_size T
      rw [← h1, hT]
      simp; omega
    have harr : T.arr = (FR fn.ntmps (enumA 0 args)).arr := by
      rw [FR_args fn.ntmps hU args hn, hT]
      apply Array.ext'; simp
    have hv' := hv hlo
    rw [vc2_eq] at hv'
    refine vc_run good c _ _ hv' hok Γ ca w ⟨⟨by show T.sz < U; rw [hsz]; exact hU, ?_, hst.tm.gl⟩, ?_, hst.df, hst.hr⟩ F n Q hF hro hl hQ
    · show _ = T.arr.map _; rw [harr]; exact hst.tm.tm
    · show ∀ x ∈ T.arr.toList, _; rw [harr]; exact hst.sc
  · cases hf
end
end Go.Ev

namespace Go.Ev
open Go Go.RowKit
noncomputable section
abbrev Gr (h h' : Heap) : Prop := Grew h h' (fun _ => False)
theorem Gr.refl (h : Heap) : Gr h h := Grew.refl _ _
theorem Grew.put' {h h1 : Heap} {S : Nat → Prop} (g : Grew h h1 S) (b : Nat) (x : AObj) (hb : h.next ≤ b) : Grew h (h1.put b x) S := ⟨g.next, g.lo, fun i hi hs => (get_put_n b x i (by omega)).trans (g.get i hi hs)⟩
theorem Grew.put'' {h h1 : Heap} {S : Nat → Prop} (g : Grew h h1 S) (b : Nat) (x : AObj) (hb : b < h.next → S b) : Grew h (h1.put b x) S := ⟨g.next, g.lo, fun i hi hs => (get_put_n b x i (fun e => hs (by subst e; exact hb hi))).trans (g.get i hi hs)⟩
theorem Grew.add' {h h1 : Heap} {S : Nat → Prop} (g : Grew h h1 S) (x : AObj) : Grew h (h1.add x) S := ⟨by rw [next_add]; have := g.next; omega, (lo_add x).trans g.lo, fun i hi hs => (get_add_n x i (by have := g.next; omega)).trans (g.get i hi hs)⟩
theorem Grew.tr {h h1 h2 : Heap} {S : Nat → Prop} (g : Grew h h1 S) (g' : Gr h1 h2) : Grew h h2 S := g.trans (g'.mono fun _ _ h => h.elim) (fun _ _ h => h)
theorem Grew.tr' {h h1 h2 : Heap} {S T : Nat → Prop} (g : Grew h h1 S) (g' : Grew h1 h2 T) (hT : ∀ i, i < h.next → T i → S i) : Grew h h2 S := g.trans g' hT
theorem Grew.cellsE {h h' : Heap} {S : Nat → Prop} (g : Grew h h' S) {i : Nat} {x : List Value × TypeId × Bool} (hc : Ev.cells h i = some x) (hi : i < h.next) (hs : ¬ S i) : Ev.cells h' i = some x := (g.cells hi hs).trans hc
theorem Gr.cells {h h' : Heap} (g : Gr h h') {i : Nat} {x : List Value × TypeId × Bool} (hc : Ev.cells h i = some x) (hi : i < h.next) : Ev.cells h' i = some x := (Grew.cells g hi (fun h => h)).trans hc
theorem Gr.getE {h h' : Heap} (g : Gr h h') {i : Nat} {x : AObj} (hc : h.get i = some x) (hi : i < h.next) : h'.get i = some x := (g.get i hi (fun h => h)).trans hc
theorem Gr.slE {h h' : Heap} (g : Gr h h') {a : Option Addr} {cs : List Value} (hs : Sl h a cs) (hb : ∀ b, blk a b → b < h.next) : Sl h' a cs := Sl.grew hs g fun b h1 _ => ⟨hb b h1, fun h => h⟩
theorem Gr.ownE {h h' : Heap} (g : Gr h h') {e n : Nat} {a : Option Addr} {len c : Nat} {cs : List Value} (ho : Own h e n a len c cs) : Own h' e n a len c cs := ho.grew g fun _ _ _ h => h
theorem evRes_ct {P : Program} (tm : VT) (h : Heap) (a t u : Nat) : evRes P [.cell a t, .tmp u] tm h = resC [evLoad P t (tm.get a) h, some (tm.get u)] := by
  simp only [evRes, evResults.go]
  cases evLoad P t (tm.get a) h <;> rfl
theorem evRes_cc {P : Program} (tm : VT) (h : Heap) (a t u s : Nat) : evRes P [.cell a t, .cell u s] tm h = resC [evLoad P t (tm.get a) h, evLoad P s (tm.get u) h] := by
  simp only [evRes, evResults.go]
  cases evLoad P t (tm.get a) h <;> cases evLoad P s (tm.get u) h <;> rfl
attribute [push_cast] evRes_ct evRes_cc
end
end Go.Ev

namespace Go.Ev
open Go Go.RowKit
set_option linter.unusedSimpArgs false
noncomputable section

/-! ### What comes behind, out of reach till it is its turn -/
/-- unfolded ahead of all else by the kernel -/
def hi.{u} {α : Type u} (a : α) : α := (fun (_ : Par → Option Nat → IR → S → (XExit → S → Prop) → Prop) => a) vc
def thenR3 (k : S → Prop) (R : XExit → S → Prop) (e : XExit) (s : S) : Prop := hi (match e with | .normal => k s | e => R e s)
def outR3 (id : Nat) (R : XExit → S → Prop) (e : XExit) (s : S) : Prop := hi (match e with | .exit j => if j = id then R .normal s else R (.exit j) s | e => R e s)
theorem thenR3_eq (k : S → Prop) (R : XExit → S → Prop) : thenR3 k R = thenR k R := rfl
theorem outR3_eq (i : Nat) (R : XExit → S → Prop) : outR3 i R = outR i R := rfl
class WB where a : Prop
class WK where a : Value → Heap → Prop
class WV where a : Value → Prop
class WR where a : XExit → S → Prop
abbrev HE := Nat × (Heap → Option Value) × Value
class WE where a : Value → HE → Prop
class WC where a : Value → Heap → Prop → Prop
def kb [x : WB] : Prop := x.a
def kk [x : WK] : Value → Heap → Prop := x.a
def kv [x : WV] : Value → Prop := x.a
def kR [x : WR] : XExit → S → Prop := hi x.a
def ke [x : WE] : Value → HE → Prop := x.a
def kc [x : WC] : Value → Heap → Prop → Prop := x.a
theorem kk_app (K : Value → Heap → Prop) (v : Value) (h : Heap) : @kk ⟨K⟩ v h = K v h := propext Iff.rfl
theorem kv_app (K : Value → Prop) (v : Value) : @kv ⟨K⟩ v = K v := propext Iff.rfl
theorem ke_app (K : Value → HE → Prop) (v : Value) (e : HE) : @ke ⟨K⟩ v e = K v e := propext Iff.rfl
theorem kc_app (K : Value → Heap → Prop → Prop) (v : Value) (h : Heap) (c : Prop) : @kc ⟨K⟩ v h c = K v h c := propext Iff.rfl
section
variable {A B : Prop} {w : Bool}
theorem vcond_tb : vcond (.bool true) (@kb ⟨A⟩) (@kb ⟨B⟩) = A := by simp [vcond, kb]
theorem vcond_fb : vcond (.bool false) (@kb ⟨A⟩) (@kb ⟨B⟩) = B := by simp [vcond, kb]
theorem vcond_d {c : Prop} [Decidable c] (ha : c → A) (hb : ¬ c → B) : vcond (.bool (decide c)) (@kb ⟨A⟩) (@kb ⟨B⟩) := vcond_dec ha hb
theorem vcond_nd {c : Prop} [Decidable c] (ha : ¬ c → A) (hb : c → B) : vcond (.bool (!decide c)) (@kb ⟨A⟩) (@kb ⟨B⟩) := vcond_ndec ha hb
theorem vcond_b {c : Bool} (ha : c = true → A) (hb : c = false → B) : vcond (.bool c) (@kb ⟨A⟩) (@kb ⟨B⟩) := vcond_split ha hb
theorem gV_ttb : gV (.bool true) true (@kb ⟨A⟩) (@kb ⟨B⟩) = A := gV_tt
theorem gV_tfb : gV (.bool true) false (@kb ⟨A⟩) (@kb ⟨B⟩) = B := gV_tf
theorem gV_ftb : gV (.bool false) true (@kb ⟨A⟩) (@kb ⟨B⟩) = B := gV_ft
theorem gV_ffb : gV (.bool false) false (@kb ⟨A⟩) (@kb ⟨B⟩) = A := gV_ff
theorem gV_ub : gV undef w (@kb ⟨A⟩) (@kb ⟨B⟩) = B := propext Iff.rfl
theorem keptK_tb : keptK True (@kb ⟨B⟩) = B := by simp [keptK, kb]
end
section
variable {R : XExit → S → Prop} {k : S → Prop} {s : S} {P : Program} {p : Par} {ro : Option Nat} {c : Code}
theorem kR_tn : @kR ⟨thenR3 k R⟩ .normal s = k s := propext Iff.rfl
theorem kR_te (i : Nat) : @kR ⟨thenR3 k R⟩ (.exit i) s = @kR ⟨R⟩ (.exit i) s := propext Iff.rfl
theorem kR_tg (i : Nat) : @kR ⟨thenR3 k R⟩ (.goto i) s = @kR ⟨R⟩ (.goto i) s := propext Iff.rfl
theorem kR_tr : @kR ⟨thenR3 k R⟩ .ret s = @kR ⟨R⟩ .ret s := propext Iff.rfl
theorem kR_on (i : Nat) : @kR ⟨outR3 i R⟩ .normal s = @kR ⟨R⟩ .normal s := propext Iff.rfl
theorem kR_oe (i j : Nat) : @kR ⟨outR3 i R⟩ (.exit j) s = if j = i then @kR ⟨R⟩ .normal s else @kR ⟨R⟩ (.exit j) s := propext Iff.rfl
theorem kR_og (i j : Nat) : @kR ⟨outR3 i R⟩ (.goto j) s = @kR ⟨R⟩ (.goto j) s := propext Iff.rfl
theorem kR_or (i : Nat) : @kR ⟨outR3 i R⟩ .ret s = @kR ⟨R⟩ .ret s := propext Iff.rfl
theorem kR_k (e : XExit) : @kR ⟨@kR ⟨R⟩⟩ e s = @kR ⟨R⟩ e s := propext Iff.rfl
theorem kR_fn (rs : List ResultVar) (Q : Value → Heap → Prop) : @kR ⟨finR P rs Q⟩ .normal s = endR P rs Q s := propext Iff.rfl
theorem kR_fr (rs : List ResultVar) (Q : Value → Heap → Prop) : @kR ⟨finR P rs Q⟩ .ret s = endR P rs Q s := propext Iff.rfl
theorem kR_sn : @kR ⟨scopeR p ro c R⟩ .normal s = @kR ⟨R⟩ .normal s := propext Iff.rfl
theorem kR_sr : @kR ⟨scopeR p ro c R⟩ .ret s = @kR ⟨R⟩ .ret s := propext Iff.rfl
theorem kR_se (i : Nat) : @kR ⟨scopeR p ro c R⟩ (.exit i) s = @kR ⟨R⟩ (.exit i) s := propext Iff.rfl
end
attribute [push_cast] Bool.true_or Bool.false_or Bool.or_true Bool.or_false Bool.true_and Bool.false_and Bool.and_true Bool.and_false Bool.not_false ite_self
section
variable {p : Par} {P : Program} {h : Heap} {k : Value → Heap → Prop} {k0 k1 k2 : Value → Prop}
theorem oP_s2 (v : Value) : oP (some v) h k = k v h := propext Iff.rfl
theorem oE_s2 (v : Value) : oE (some (v, h)) k = k v h := propext Iff.rfl
theorem oT_s2 (v : Value) (q : Option (Value × Value)) : oT (some v) q h k = k v h := propext Iff.rfl
theorem oT_n2 (a b : Value) : oT none (some (a, b)) h k = (k a h ∧ k b h) := propext Iff.rfl
theorem oR_s2 (v : Value) (q : Option (Value × Value)) : oR (some v) q k0 k1 k2 = k0 v := propext Iff.rfl
theorem oR_n2 (a b : Value) : oR none (some (a, b)) k0 k1 k2 = (k1 a ∧ k2 b) := propext Iff.rfl
theorem CallV_f2 (g : FuncId) (c : List Value) (args : List Value) : CallV p (.func (.func g) ⟨[]⟩ ⟨c⟩) args h k = CallW p g (args ++ c) h k := propext Iff.rfl
theorem CallV_y2 (l : Nat) (args : List Value) : CallV p (.func (.yield l) #[] #[]) args h k = YieldW p l args h k := propext Iff.rfl
theorem endR_2 {rs : List ResultVar} {R : Value → Heap → Prop} (tm : VT) (df : List Nat) : endR P rs R ⟨tm, df, h⟩ = endM P rs R tm (evMarks df h) := propext Iff.rfl
theorem endM_2 {rs : List ResultVar} {R : Value → Heap → Prop} (tm : VT) : endM P rs R tm (some h) = oP (evRes P rs tm h) h R := propext Iff.rfl
end
attribute [push_cast] oP_s2 oE_s2 oT_s2 oT_n2 oR_s2 oR_n2 CallV_f2 CallV_y2 endR_2 endM_2
attribute [push_cast] kk_app kv_app ke_app kc_app vcond_tb vcond_fb gV_ttb gV_tfb gV_ftb gV_ffb gV_ub keptK_tb kR_tn kR_te kR_tg kR_tr kR_on kR_oe kR_og kR_or kR_k kR_fn kR_fr kR_sn kR_sr kR_se

theorem W.loop3 {p : Par} (good : GoodP p) {ro : Option Nat} {b : IR} {R : XExit → S → Prop} (I : Nat → S → Prop) (h : ∀ n s1, I n s1 → vc2 p ro b s1 (@kR ⟨(thenR3 (fun s2 => ∃ m, m < n ∧ I m s2) R)⟩)) :
    ∀ n s, I n s → W p ro (.loop b) s R := W.loop2 good I h
theorem vc2_scope_k {p : Par} (good : GoodP p) {ro : Option Nat} {b c : Code} {ir : IR} {s : S} {R : XExit → S → Prop} (hc : comp p.P c = ir) (h : vc2 p ro ir s (@kR ⟨(scopeR p ro b R)⟩)) : WPin p ro b c s R :=
  vc2_scope_of good hc h

/-! ### Regions in any order, what is guarded followed once -/
theorem vplan_L {p : Par} {K : VT → Heap → Prop} : ∀ (t : PT) (L L' : HL) (tm : VT) (h : Heap), (∀ b h, keptP b h L = keptP b h L') → vplan p t L tm h K = vplan p t L' tm h K
  | .fin, L, L', tm, h, hL => rfl
  | .no, L, L', tm, h, hL => rfl
  | .bad, L, L', tm, h, hL => rfl
  | .take i rd x k, L, L', tm, h, hL => by
    have hc : ∀ e b h, keptP b h (e :: L) = keptP b h (e :: L') := fun e b h => by obtain ⟨i, r, v⟩ := e; simp only [keptP, hL]
    simp only [vplan, vplan_L k L L' _ _ hL, vplan_L k (_ :: L) (_ :: L') _ _ (hc _)]
  | .eff i x bind k alt, L, L', tm, h, hL => by
    simp only [vplan, vplan_L k L L' _ _ hL, vplan_L alt L L' _ _ hL, hL]
def dum (i : Nat) : HE := (i, fun _ => some undef, undef)
theorem vplan_dum {p : Par} {K : VT → Heap → Prop} (t : PT) (i : Nat) (L : HL) (tm : VT) (h : Heap) : vplan p t (dum i :: L) tm h K = vplan p t L tm h K := by
  refine vplan_L _ _ _ _ _ fun b h => ?_
  simp only [dum, keptP]
  cases b.contains i <;> simp
def gRd (v : Value) (w : Bool) (A : Option Value) (i : Nat) (rd : Heap → Option Value) (h : Heap) (K : Value → HE → Prop) : Prop := gV v w (oP A h (fun v _ => K v (i, rd, v))) (K undef (dum i))
def gEk (v : Value) (w : Bool) (E : Option (Value × Heap)) (b : List Nat) (L : HL) (h : Heap) (K : Value → Heap → Prop → Prop) : Prop := gV v w (oE E (fun v h' => K v h' (keptP b h' L))) (K undef h True)
def gCk (p : Par) (v : Value) (w : Bool) (f : Value) (args : List Value) (b : List Nat) (L : HL) (h : Heap) (K : Value → Heap → Prop → Prop) : Prop := gV v w (CallV p f args h (fun v h' => K v h' (keptP b h' L))) (K undef h True)
theorem gRd_tt {A : Option Value} {i : Nat} {rd : Heap → Option Value} {h : Heap} {K : Value → HE → Prop} : gRd (.bool true) true A i rd h K = oP A h (fun v _ => K v (i, rd, v)) := gV_tt
theorem gRd_ff {A : Option Value} {i : Nat} {rd : Heap → Option Value} {h : Heap} {K : Value → HE → Prop} : gRd (.bool false) false A i rd h K = oP A h (fun v _ => K v (i, rd, v)) := gV_ff
theorem gRd_tf {A : Option Value} {i : Nat} {rd : Heap → Option Value} {h : Heap} {K : Value → HE → Prop} : gRd (.bool true) false A i rd h K = K undef (dum i) := gV_tf
theorem gRd_ft {A : Option Value} {i : Nat} {rd : Heap → Option Value} {h : Heap} {K : Value → HE → Prop} : gRd (.bool false) true A i rd h K = K undef (dum i) := gV_ft
theorem gEk_tt {E : Option (Value × Heap)} {b : List Nat} {L : HL} {h : Heap} {K : Value → Heap → Prop → Prop} : gEk (.bool true) true E b L h K = oE E (fun v h' => K v h' (keptP b h' L)) := gV_tt
theorem gEk_ff {E : Option (Value × Heap)} {b : List Nat} {L : HL} {h : Heap} {K : Value → Heap → Prop → Prop} : gEk (.bool false) false E b L h K = oE E (fun v h' => K v h' (keptP b h' L)) := gV_ff
theorem gEk_tf {E : Option (Value × Heap)} {b : List Nat} {L : HL} {h : Heap} {K : Value → Heap → Prop → Prop} : gEk (.bool true) false E b L h K = K undef h True := gV_tf
theorem gEk_ft {E : Option (Value × Heap)} {b : List Nat} {L : HL} {h : Heap} {K : Value → Heap → Prop → Prop} : gEk (.bool false) true E b L h K = K undef h True := gV_ft
theorem gCk_tt {p : Par} {f : Value} {args : List Value} {b : List Nat} {L : HL} {h : Heap} {K : Value → Heap → Prop → Prop} : gCk p (.bool true) true f args b L h K = CallV p f args h (fun v h' => K v h' (keptP b h' L)) := gV_tt
theorem gCk_ff {p : Par} {f : Value} {args : List Value} {b : List Nat} {L : HL} {h : Heap} {K : Value → Heap → Prop → Prop} : gCk p (.bool false) false f args b L h K = CallV p f args h (fun v h' => K v h' (keptP b h' L)) := gV_ff
theorem gCk_tf {p : Par} {f : Value} {args : List Value} {b : List Nat} {L : HL} {h : Heap} {K : Value → Heap → Prop → Prop} : gCk p (.bool true) false f args b L h K = K undef h True := gV_tf
theorem gCk_ft {p : Par} {f : Value} {args : List Value} {b : List Nat} {L : HL} {h : Heap} {K : Value → Heap → Prop → Prop} : gCk p (.bool false) true f args b L h K = K undef h True := gV_ft
attribute [push_cast] gRd_tt gRd_ff gRd_tf gRd_ft gEk_tt gEk_ff gEk_tf gEk_ft gCk_tt gCk_ff gCk_tf gCk_ft dum

abbrev KP := HL → VT → Heap → (VT → Heap → Prop) → Prop
def isNo : PT → Bool | .no => true | _ => false
def pTakeP (p : Par) (x : It) (ih : KP) : KP := fun L tm h K => match x.g with
  | none => oP (tp p.P x.o x.t tm) h (@kk ⟨fun v _ => ih L (put tm x.d v) h K⟩)
  | some (d, w) => gP (tm.get d) w (tp p.P x.o x.t tm) h (@kk ⟨fun v _ => ih L (put tm x.d v) h K⟩)
def pTakeR (p : Par) (i : Nat) (x : It) (ih : KP) : KP := fun L tm h K => match x.g with
  | none => oP (tv p.P x.o x.t tm h) h (@kk ⟨fun v _ => ih ((i, fun h' => tv p.P x.o x.t tm h', v) :: L) (put tm x.d v) h K⟩)
  | some (d, w) => gRd (tm.get d) w (tv p.P x.o x.t tm h) i (fun h' => tv p.P x.o x.t tm h') h (@ke ⟨fun v e => ih (e :: L) (put tm x.d v) h K⟩)
def pTakeS1 (p : Par) (i : Nat) (x : It) (ih : KP) : KP := fun L tm h K => oR (tv p.P x.o x.t tm h) (tw p.P x.o tm h) (@kv ⟨fun v => ih ((i, fun h' => tv p.P x.o x.t tm h', v) :: L) (put tm x.d v) h K⟩)
          (@kv ⟨fun v => ih ((i, fun h' => (tw p.P x.o tm h').map (·.1), v) :: L) (put tm x.d v) h K⟩) (@kv ⟨fun v => ih ((i, fun h' => (tw p.P x.o tm h').map (·.2), v) :: L) (put tm x.d v) h K⟩)
def pTakeS (p : Par) (i : Nat) (x : It) (ih : KP) : KP := fun L tm h K => match x.g with
  | none => pTakeS1 p i x ih L tm h K
  | some (d, w) => gV (tm.get d) w (@kb ⟨pTakeS1 p i x ih L tm h K⟩) (@kb ⟨ih L (put tm x.d undef) h K⟩)
def pEff (p : Par) (x : It) (bind : List Nat) (ih : KP) : KP := fun L tm h K => match x.g, x.c, x.o with
      | some (d, w), .eff, _ => gEk (tm.get d) w (te p.P x.o x.t tm h) bind L h (@kc ⟨fun v h' c => keptK c (@kb ⟨ih L (put tm x.d v) h' K⟩)⟩)
      | some (d, w), .call, .call ⟨.value f, args, _⟩ => gCk p (tm.get d) w (ev tm f) (args.toList.map (ev tm)) bind L h (@kc ⟨fun v h' c => keptK c (@kb ⟨ih L (put tm x.d v) h' K⟩)⟩)
      | _, _, _ => vgd tm x.g (vop p x.c x.o x.t tm h (@kk ⟨fun v h' => keptK (keptP bind h' L) (@kb ⟨ih L (put tm x.d v) h' K⟩)⟩)) (ih L (put tm x.d undef) h K)
def pTk (p : Par) (i : Nat) (rd : Bool) (x : It) (ih : KP) : KP :=
  Bool.rec (motive := fun _ => KP) (pTakeP p x ih) (Bool.rec (motive := fun _ => KP) (pTakeR p i x ih) (pTakeS p i x ih) (isSl x.o)) rd
def vplan3 (p : Par) (t : PT) : KP :=
  PT.rec (motive := fun _ => KP) (fun _ tm h K => K tm h) (fun _ _ _ _ => True) (fun _ _ _ _ => False)
    (fun i rd x _ ih => pTk p i rd x ih)
    (fun _ x bind _ alt ih ih2 => Bool.rec (motive := fun _ => KP) (fun L tm h K => pEff p x bind ih L tm h K ∧ ih2 L tm h K) (pEff p x bind ih) (isNo alt)) t

theorem vplan3_eq (p : Par) (K : VT → Heap → Prop) : ∀ (t : PT) (L : HL) (tm : VT) (h : Heap), vplan3 p t L tm h K = vplan p t L tm h K
  | .fin, L, tm, h => rfl
  | .no, L, tm, h => rfl
  | .bad, L, tm, h => rfl
  | .take i rd x k, L, tm, h => by
    have ih := vplan3_eq p K k
    show pTk p i rd x (vplan3 p k) L tm h K = _
    unfold pTk
    simp only [vplan]
    cases rd with
    | false =>
      dsimp only
      unfold pTakeP
      simp only [ih, kk]
      cases x.g with
      | none => rfl
      | some y => obtain ⟨d, w⟩ := y; rfl
    | true =>
      dsimp only
      cases ho : isSl x.o with
      | true =>
        dsimp only
        unfold pTakeS pTakeS1
        simp only [ih, kv, kb]
        cases x.g with
        | none => rfl
        | some y => obtain ⟨d, w⟩ := y; rfl
      | false =>
        dsimp only
        unfold pTakeR
        simp only [ih, kk, ke]
        have : tw p.P x.o tm h = none := by
          unfold tw
          split
          · rename_i he; rw [he] at ho; cases ho
          · rfl
        simp only [this]
        cases x.g with
        | none => rfl
        | some y =>
          obtain ⟨d, w⟩ := y
          simp only [gRd, vplan_dum, vgd, oP]
  | .eff i x bind k alt, L, tm, h => by
    have ih := vplan3_eq p K k
    have e : pEff p x bind (vplan3 p k) L tm h K = vgd tm x.g (vop p x.c x.o x.t tm h fun v h' => keptP bind h' L ∧ vplan p k L (put tm x.d v) h' K) (vplan p k L (put tm x.d undef) h K) := by
      unfold pEff
      simp only [ih, kb, kk, kc]
      split
      · rename_i d w hg hc
        simp only [hg, hc, gEk, vgd, vop, keptK, true_and]
      · rename_i d w f args _ hg hc ho
        simp only [hg, hc, ho, gCk, vgd, vop, keptK, true_and]
      · rfl
    show (Bool.rec (motive := fun _ => KP) (fun L tm h K => pEff p x bind (vplan3 p k) L tm h K ∧ vplan3 p alt L tm h K) (pEff p x bind (vplan3 p k)) (isNo alt) : KP) L tm h K = _
    simp only [vplan, ← vplan3_eq p K alt]
    cases alt with
    | no =>
      show pEff p x bind (vplan3 p k) L tm h K = _
      rw [e]
      exact (and_true _).symm
    | _ => exact congrArg (· ∧ _) e

def vops3 (p : Par) (l : List It) : VT → Heap → (VT → Heap → Prop) → Prop :=
  List.rec (motive := fun _ => VT → Heap → (VT → Heap → Prop) → Prop) (fun tm h K => K tm h)
    (fun x _ ih tm h K => vop2 p x.g x.c x.o x.t tm h (@kk ⟨(fun v h' => ih (put tm x.d v) h' K)⟩)) l
theorem vops3_eq (p : Par) (K : VT → Heap → Prop) : ∀ (l : List It) (tm : VT) (h : Heap), vops3 p l tm h K = vops2 p l tm h K
  | [], tm, h => rfl
  | x :: l, tm, h => by
    show vop2 p x.g x.c x.o x.t tm h (@kk ⟨(fun v h' => vops3 p l (put tm x.d v) h' K)⟩) = vop2 p x.g x.c x.o x.t tm h (fun v h' => vops2 p l (put tm x.d v) h' K)
    simp only [vops3_eq p K l, kk]
def vc3 (p : Par) (ro : Option Nat) : IR → S → (XExit → S → Prop) → Prop
  | .bad, _, _ => False
  | .skip, s, R => R .normal s
  | .ret, s, R => R .ret s
  | .exit i, s, R => R (.exit i) s
  | .goto l, s, R => R (.goto l) s
  | .label _, s, R => R .normal s
  | .ops l, s, R => vops3 p l s.tm s.h fun tm h => R .normal ⟨tm, s.df, h⟩
  | .plan t, s, R => vplan3 p t [] s.tm s.h fun tm h => R .normal ⟨tm, s.df, h⟩
  | .seq a b, s, R => vc3 p ro a s (thenR3 (fun s1 => vc3 p ro b s1 (@kR ⟨R⟩)) R)
  | .cond x a b, s, R => vcond (ev s.tm x) (@kb ⟨(vc3 p ro a s R)⟩) (@kb ⟨(vc3 p ro b s R)⟩)
  | .block i b, s, R => vc3 p ro b s (outR3 i R)
  | .loop b, s, R => W p ro (.loop b) s (@kR ⟨R⟩)
  | .scope b, s, R => WPin p ro b b s (@kR ⟨R⟩)
  | .range g ps a b, s, R => W p ro (.range g ps a b) s (@kR ⟨R⟩)
theorem vc3_eq (p : Par) (ro : Option Nat) : ∀ (ir : IR) (s : S) (R : XExit → S → Prop), vc3 p ro ir s R = vc p ro ir s R
  | .bad, s, R => rfl
  | .skip, s, R => rfl
  | .ret, s, R => rfl
  | .exit i, s, R => rfl
  | .goto l, s, R => rfl
  | .label l, s, R => rfl
  | .ops l, s, R => (vops3_eq p _ l _ _).trans (vops2_eq p _ l _ _)
  | .plan t, s, R => vplan3_eq p _ t _ _ _
  | .seq a b, s, R => by simp only [vc3, vc, vc3_eq p ro a, vc3_eq p ro b, kR, kb, thenR3_eq, hi]
  | .cond x a b, s, R => by simp only [vc3, vc, vc3_eq p ro a, vc3_eq p ro b, kR, kb, thenR3_eq, hi]
  | .block i b, s, R => vc3_eq p ro b s _
  | .loop b, s, R => rfl
  | .scope b, s, R => rfl
  | .range g ps a b, s, R => rfl
theorem vc3_2 (p : Par) (ro : Option Nat) (ir : IR) (s : S) (R : XExit → S → Prop) : vc3 p ro ir s R = vc2 p ro ir s R := by rw [vc3_eq, vc2_eq]
theorem CallE.fir4 {p : Par} (good : GoodP p) {g : FuncId} {f : FIR} (hf : Ev.fir p.P g = some f) {args : List Value} {h : Heap} {R : Value → Heap → Prop} {T : VT} (hn : Nat.ble args.length f.n = true) (hU : Nat.ble f.n 100000 = true)
    (hT : T.arr = ⟨args ++ List.replicate (f.n - args.length) undef⟩) (hv : h.lo ≤ h.next → vc3 p none f.ir ⟨T, [], h⟩ (finR p.P f.rs R)) : CallE p g args h R :=
  CallE.fir3 good hf hn hU hT fun hlo => by rw [← vc3_2]; exact hv hlo
theorem W.loop4 {p : Par} (good : GoodP p) {ro : Option Nat} {b : IR} {R : XExit → S → Prop} (I : Nat → S → Prop) (h : ∀ n s1, I n s1 → vc3 p ro b s1 (@kR ⟨(thenR3 (fun s2 => ∃ m, m < n ∧ I m s2) R)⟩)) :
    ∀ n s, I n s → W p ro (.loop b) s R := W.loop3 good I fun n s1 hI => by rw [← vc3_2]; exact h n s1 hI
theorem vc3_scope {p : Par} (good : GoodP p) {ro : Option Nat} {b c : Code} {ir : IR} {s : S} {R : XExit → S → Prop} (hc : comp p.P c = ir) (h : vc3 p ro ir s (@kR ⟨(scopeR p ro b R)⟩)) : WPin p ro b c s R :=
  vc2_scope_k good hc (by rw [← vc3_2]; exact h)
end
end Go.Ev
