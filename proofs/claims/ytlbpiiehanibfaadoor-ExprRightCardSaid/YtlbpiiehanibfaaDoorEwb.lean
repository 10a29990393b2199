/-
  A part of the proof: conditions over an abstract memory, and that they are enough for what the model's calls do. No condition of its own.
-/
import Derived.Test.YtlbpiiehanibfaaDoorEwa
import Derived.Lib.FrozenHead
import Derived.RangeFuncRecord
import Derived.LaidHandle
import Derived.Lib.Bytealg
set_option linter.unusedSimpArgs false
set_option linter.unusedVariables false
namespace Go.Ew
open Go Go.RowKit
theorem map_flatten_flat' (Γ : Gam) {z : List Value} (h : z.map (con Γ) = z) (n : Nat) : ((List.replicate n z).flatten).map (con Γ) = (List.replicate n z).flatten := by
 induction n with
 | zero => rfl
 | succ n ih => simp [List.replicate_succ, h, ih]
theorem run_setObj {P : Program} {w : World} {g : Nat} {o o' : Obj} (h : w.heap[g]? = some o) (hc : ∀ c e f, o ≠ .cells c e f) : (setObj g o').run P w = .ok () (wset w g o') := by
 simp only [setObj, Sem.run]
 rw [h]
 cases o <;> first | rfl | (exact absurd rfl (hc _ _ _))
theorem ents_put {p : Par} {Γ : Gam} {h : Heap} {w : World} (hr : HRel p Γ h w) {r : Nat} {es : List MapEntry} {c : Nat} (hm : mapOf h r = some (es, c)) {es' : List MapEntry} {c' : Nat}
  (hes : ∀ e ∈ es', keyF e.key = true ∧ sc h.next e.val = true) :
  HRel p Γ (mapPut h r es' c') (wset w (Γ.b r) (.map ⟨es'.map (jJ Γ)⟩ c')) ∧ Fr p Γ h w (wset w (Γ.b r) (.map ⟨es'.map (jJ Γ)⟩ c')) := by
 obtain ⟨⟨m, hg⟩, hlo, _, hw⟩ := jX hr hm
 refine hr.put hg rfl hlo ?_ rfl rfl
 simp only [OR]
 refine ⟨hes, ?_⟩
 rw [wset_heap _ _ _ (Array.getElem?_eq_some_iff.1 hw).1]
 simp
theorem modE_mem {k x : Value} : ∀ {es : List MapEntry} {i : Nat} {e : MapEntry}, e ∈ modE k x es i → e ∈ es ∨ (e.key = k ∧ e.val = x)
 | [], _, e, h => by simp [modE] at h
 | y :: es, 0, e, h => by
  simp only [modE, List.mem_cons] at h
  rcases h with rfl | h
  ·exact .inr ⟨rfl, rfl⟩
  ·exact .inl (by simp [h])
 | y :: es, i + 1, e, h => by
  simp only [modE, List.mem_cons] at h
  rcases h with rfl | h
  ·exact .inl (by simp)
  ·rcases modE_mem h with h | h
   ·exact .inl (by simp [h])
   ·exact .inr h
theorem modE_run (Γ : Gam) {k x : Value} : ∀ (es : List MapEntry) (i : Nat), (modE k x es i).map (jJ Γ) = (es.map (jJ Γ)).modify i (fun e => { e with key := k, val := con Γ x })
 | [], i => by simp [modE]
 | y :: es, 0 => by simp [modE, jJ]
 | y :: es, i + 1 => by simp [modE, modE_run Γ es i]
theorem delE_mem : ∀ {es : List MapEntry} {i : Nat} {e : MapEntry}, e ∈ delE es i → e ∈ es
 | [], _, e, h => by simp [delE] at h
 | y :: es, 0, e, h => by simp only [delE] at h; simp [h]
 | y :: es, i + 1, e, h => by
  simp only [delE, List.mem_cons] at h
  rcases h with rfl | h
  ·simp
  ·simp [delE_mem h]
theorem delE_run (Γ : Gam) : ∀ (es : List MapEntry) (i : Nat), (delE es i).map (jJ Γ) = (es.map (jJ Γ)).eraseIdx i
 | [], i => by simp [delE]
 | y :: es, 0 => by simp [delE]
 | y :: es, i + 1 => by simp [delE, delE_run Γ es i]
theorem findE_at {k : Value} : ∀ {es : List MapEntry} {n i : Nat} {v : Value}, findE k es n = some (some (i, v)) → n ≤ i ∧ ∃ e, es[i - n]? = some e ∧ keyEq k e.key = some true
 | [], n, i, v, h => by simp [findE] at h
 | e :: es, n, i, v, h => by
  simp only [findE] at h
  split at h
  ·rename_i hk; cases h; exact ⟨Nat.le_refl _, e, by simp, hk⟩
  ·obtain ⟨h1, e', h2, h3⟩ := findE_at h
   refine ⟨by omega, e', ?_, h3⟩
   obtain ⟨j, hj⟩ : ∃ j, i - n = j + 1 := ⟨i - (n + 1), by omega⟩
   rw [hj, List.getElem?_cons_succ, ← h2]
   congr 1; omega
  ·cases h
theorem sameBits_key {a b : Value} (h : keyEq a b = some true) (n : Nat) : Instr.sameBits n b a = true := by
 unfold keyEq at h
 split at h
 ·split at h
  ·rename_i hk
   have hk := of_decide_eq_true hk
   subst hk
   simp only [Option.some.injEq, decide_eq_true_eq] at h
   subst h
   cases n <;> simp [Instr.sameBits]
  ·cases h
 ·simp only [Option.some.injEq] at h
  rw [← ba_beq] at h
  rename_i x y
  have : (y == x) = true := by
   rw [ba_beq, beqB_eq, beq_iff_eq]
   rw [ba_beq, beqB_eq, beq_iff_eq] at h
   exact h.symm
  cases n <;> simpa [Instr.sameBits] using this
 ·cases h
theorem run_keyStays {P : Program} {a b : Value} (h : keyEq a b = some true) (w : World) : (Instr.keyThatStays b a).run P w = .ok a w := by
 simp [Instr.keyThatStays, sameBits_key h]
theorem mapSet_run {p : Par} {Γ : Gam} {h h' : Heap} {w : World} (hr : HRel p Γ h w) {t : TypeId} {m k x v : Value} (he : mapSet p.P t m k x h = some (v, h')) :
  v = undef ∧ h'.next = h.next ∧ ∃ w', (Instr.mapUpdate t (con Γ m) (con Γ k) (con Γ x)).run p.P w = .ok () w' ∧ HRel p Γ h' w' ∧ Fr p Γ h w w' := by
 unfold mapSet at he
 split at he
 ·rename_i kt et r hu
  split at he
  ·rename_i es c hk hm
   simp only [Bool.and_eq_true, fsc_eq] at hk
   obtain ⟨hk, hx⟩ := hk
   have hki : con Γ k = k := con_flat Γ k (qS (keyOk_key hk))
   obtain ⟨_, hlo, hall, hw⟩ := jX hr hm
   have hnc : ∀ (c' : Array Value) e f, (Obj.map ⟨es.map (jJ Γ)⟩ c) ≠ .cells c' e f := fun _ _ _ h => by cases h
   have nx : ∀ (es' : List MapEntry) (c' : Nat), (mapPut h r es' c').next = h.next := fun es' c' => by unfold mapPut; rw [Heap.put_eq]
   split at he
   ·rename_i i u hf
    cases he
    obtain ⟨_, e, hei, heq⟩ := findE_at hf
    simp only [Nat.sub_zero] at hei
    have hput := ents_put hr hm (es' := modE k x es i) (c' := c) (fun e he => by
     rcases modE_mem he with h1 | ⟨h1, h2⟩
     ·exact hall e h1
     ·rw [h1, h2]; exact ⟨keyOk_key hk, hx⟩)
    refine ⟨rfl, nx _ _, _, ?_, hput.1, hput.2⟩
    have hek : ((((⟨es.map (jJ Γ)⟩ : Array MapEntry)[i]?).map (·.key)).getD k) = e.key := by
     simp [hei, jJ]
    simp only [con, hki, Instr.mapUpdate, Sem.run_bind, run_under hu, Result.andThen_ok, jS hw, run_checkKey hk, run_findKey (Γ := Γ) hk hf, Option.map_some]
    rw [hek, run_keyStays heq, Result.andThen_ok, run_setObj hw hnc]
    congr 2
    have : (⟨es.map (jJ Γ)⟩ : Array MapEntry).modify i (fun e => { e with key := k, val := con Γ x }) = ⟨(modE k x es i).map (jJ Γ)⟩ := by
     apply Array.ext'
     rw [Array.toList_modify, modE_run]
    rw [this]
   ·rename_i hf
    cases he
    have hput := ents_put hr hm (es' := es ++ [⟨k, x, c⟩]) (c' := c + 1) (fun e he => by
     simp only [List.mem_append, List.mem_singleton] at he
     rcases he with h1 | rfl
     ·exact hall e h1
     ·exact ⟨keyOk_key hk, hx⟩)
    refine ⟨rfl, nx _ _, _, ?_, hput.1, hput.2⟩
    simp only [con, hki, Instr.mapUpdate, Sem.run_bind, run_under hu, Result.andThen_ok, jS hw, run_checkKey hk, run_findKey (Γ := Γ) hk hf, Option.map_none]
    rw [run_setObj hw hnc]
    congr 2
    simp [jJ]
   ·cases he
  ·cases he
 ·cases he
theorem mapDel_run {p : Par} {Γ : Gam} {h h' : Heap} {w : World} (hr : HRel p Γ h w) {t ty : TypeId} {ts : List TypeId} {m k v : Value} (he : mapDel p.P t m k h = some (v, h')) :
  v = .tuple #[] ∧ h'.next = h.next ∧ ∃ w', (Builtin.delete_ ⟨t :: ts⟩ ty #[con Γ m, con Γ k]).run p.P w = .ok (.tuple #[]) w' ∧ HRel p Γ h' w' ∧ Fr p Γ h w w' := by
 unfold mapDel at he
 split at he
 ·rename_i kt et hu
  split at he
  ·rename_i hk
   cases he
   have hki : con Γ k = k := con_flat Γ k (qS (keyOk_key hk))
   refine ⟨rfl, rfl, w, ?_, hr, Fr.refl w⟩
   simp [Builtin.delete_, con, hki, run_under hu, run_checkKey hk]
  ·rename_i r hk
   have hki : con Γ k = k := con_flat Γ k (qS (keyOk_key hk))
   split at he
   ·rename_i es c hm
    obtain ⟨_, hlo, hall, hw⟩ := jX hr hm
    have hnc : ∀ (c' : Array Value) e f, (Obj.map ⟨es.map (jJ Γ)⟩ c) ≠ .cells c' e f := fun _ _ _ h => by cases h
    have nx : ∀ (es' : List MapEntry) (c' : Nat), (mapPut h r es' c').next = h.next := fun es' c' => by unfold mapPut; rw [Heap.put_eq]
    split at he
    ·rename_i i u hf
     cases he
     have hput := ents_put hr hm (es' := delE es i) (c' := c) (fun e he => hall e (delE_mem he))
     refine ⟨rfl, nx _ _, _, ?_, hput.1, hput.2⟩
     simp [Builtin.delete_, con, hki, run_under hu, jS hw, run_checkKey hk, run_findKey (Γ := Γ) hk hf]
     rw [run_setObj hw hnc, Result.andThen_ok]
     congr 3
     apply Array.ext'
     simp [delE_run]
    ·rename_i hf
     cases he
     have hput := ents_put hr hm (es' := es) (c' := c) hall
     refine ⟨rfl, nx _ _, _, ?_, hput.1, hput.2⟩
     simp [Builtin.delete_, con, hki, run_under hu, jS hw, run_checkKey hk, run_findKey (Γ := Γ) hk hf]
     rw [run_setObj hw hnc]
     rfl
    ·cases he
   ·cases he
  ·cases he
 ·cases he
theorem mapClr_run {p : Par} {Γ : Gam} {h h' : Heap} {w : World} (hr : HRel p Γ h w) {t ty : TypeId} {m v : Value} (he : mapClr p.P t m h = some (v, h')) :
  v = .tuple #[] ∧ h'.next = h.next ∧ ∃ w', (Builtin.clear_ #[t] ty #[con Γ m]).run p.P w = .ok (.tuple #[]) w' ∧ HRel p Γ h' w' ∧ Fr p Γ h w w' := by
 unfold mapClr at he
 split at he
 ·rename_i e hu
  split at he
  ·cases he
   exact ⟨rfl, rfl, w, by simp [Builtin.clear_, con, run_under hu], hr, Fr.refl w⟩
  ·rename_i b off n c
   split at he
   ·cases he
    exact ⟨rfl, rfl, w, by simp [Builtin.clear_, con, conA, run_under hu], hr, Fr.refl w⟩
   ·rename_i n
    unfold rowClr at he
    split at he
    ·cases he
    rename_i h1 hdet
    obtain ⟨hr, n1, l1, k1⟩ := detach_spec hdet hr
    split at he
    ·rename_i cs ct mo z hc hz
     split at he
     ·rename_i hb
      simp only [Bool.and_eq_true, List.all_eq_true, Nat.ble_eq] at hb
      obtain ⟨⟨hzf, hz1⟩, h4⟩ := hb
      split at he <;> cases he
      rename_i cs' hset
      obtain ⟨hle, rfl⟩ := setN_eq hset
      obtain ⟨fr0, hg⟩ := cells_get hc
      have hG : p.G ≤ b := by rw [← hr.lo]; exact h4
      obtain ⟨hlt, rest, fr, hrow⟩ := hr.row hc hG
      have hmem : ∀ x ∈ (List.replicate (n + 1) z.cells.toList).flatten, x ∈ z.cells.toList := fun x hx => by
       simp only [List.mem_flatten] at hx
       obtain ⟨l, hl, hx⟩ := hx
       rw [(List.mem_replicate.1 hl).2] at hx
       exact hx
      have hzm : z.cells.toList.map (con Γ) = z.cells.toList := by rw [← conL_map]; exact conL_flat Γ _ hzf
      have hmap := map_flatten_flat' Γ hzm (n + 1)
      have hst := storeCells_run p.P (Γ.b b) off ct fr ((List.replicate (n + 1) z.cells.toList).flatten) 0 (cs.map (con Γ) ++ rest) w hrow.heap
       (by simpa using hrow.fr) (by simp only [List.length_append, List.length_map] at hle ⊢; omega) (fun x hx => hz1 x (hmem x hx))
      have hset : setFrom (cs.map (con Γ) ++ rest) (off + 0) ((List.replicate (n + 1) z.cells.toList).flatten) = (setFrom cs off ((List.replicate (n + 1) z.cells.toList).flatten)).map (con Γ) ++ rest := by
       rw [setFrom_map, hmap]
       generalize (List.replicate (n + 1) z.cells.toList).flatten = L at hle ⊢
       simp only [setFrom, Nat.add_zero, List.length_map]
       rw [List.take_append_of_le_length (by simp; omega), List.drop_append_of_le_length (by simp; omega)]
       simp
      rw [hset] at hst
      have hlen : (setFrom cs off ((List.replicate (n + 1) z.cells.toList).flatten)).length = cs.length := by
       generalize (List.replicate (n + 1) z.cells.toList).flatten = L at hle ⊢
       simp only [setFrom, List.length_append, List.length_take, List.length_drop]
       omega
      have hok : ∀ x ∈ setFrom cs off ((List.replicate (n + 1) z.cells.toList).flatten), one x = true ∧ sc h1.next x = true := by
       intro x hx
       simp only [setFrom, List.mem_append] at hx
       rcases hx with (hx | hx) | hx
       ·exact hrow.ok x (List.mem_of_mem_take hx)
       ·exact ⟨hz1 x (hmem x hx), scL_all (flatL_sc h1.next _ hzf) x (hmem x hx)⟩
       ·exact hrow.ok x (List.mem_of_mem_drop hx)
      have hput := hr.put (x' := ⟨.cells ⟨setFrom cs off ((List.replicate (n + 1) z.cells.toList).flatten)⟩ ct, mo⟩) (o := .cells ⟨(setFrom cs off ((List.replicate (n + 1) z.cells.toList).flatten)).map (con Γ) ++ rest⟩ ct fr) hg rfl h4 (hl := k1 _ hg) (hl' := rfl) (by
       simp only [OR]
       refine ⟨fun _ => ⟨hok, rest, fr, ?_, ?_, hrow.no, ?_⟩, fun h0 => absurd h0 (Nat.not_lt.2 hG)⟩
       ·rw [wset_heap _ _ _ (Array.getElem?_eq_some_iff.1 hrow.heap).1]; simp
       ·have := hrow.fr
        simp only [List.size_toArray, hlen]; exact this
       ·intro hm
        obtain ⟨ti, hh1, h2⟩ := hrow.more hm
        exact ⟨ti, hh1, by simp only [List.size_toArray, hlen]; exact h2⟩)
      refine ⟨rfl, by rw [Heap.put_eq]; exact n1, _, ?_, hput.1, ⟨hput.2.below⟩⟩
      have hzc : (Builtin.zeroCells z.cells (n + 1)).toList = (List.replicate (n + 1) z.cells.toList).flatten := rep_cells z.cells (n + 1)
      simp only [Builtin.clear_, con, jC, Sem.run_bind, run_under hu, Result.andThen_ok, List.getElem?_toArray, List.getElem?_cons_zero]
      simp only [Sem.run_bind, run_under hu, run_zeroOf hz, Result.andThen_ok, hzc, hst, Sem.run_pure]
     ·cases he
    ·cases he
  ·cases he
 ·rename_i hu
  split at he
  ·cases he
   exact ⟨rfl, rfl, w, by simp [Builtin.clear_, con, run_under hu], hr, Fr.refl w⟩
  ·rename_i r
   split at he
   ·rename_i es c hm
    cases he
    obtain ⟨_, hlo, hall, hw⟩ := jX hr hm
    have hnc : ∀ (c' : Array Value) e f, (Obj.map ⟨es.map (jJ Γ)⟩ c) ≠ .cells c' e f := fun _ _ _ h => by cases h
    have hput := ents_put hr hm (es' := []) (c' := c) (fun e he => by cases he)
    refine ⟨rfl, by unfold mapPut; rw [Heap.put_eq], _, ?_, hput.1, hput.2⟩
    simp [Builtin.clear_, con, run_under hu, jS hw]
    rw [run_setObj hw hnc]
    rfl
   ·cases he
  ·cases he
 ·cases he
theorem mapNew_run {p : Par} {Γ : Gam} {h : Heap} {w : World} (hr : HRel p Γ h w) :
  HRel p (Γ.ext h.next w.heap.size 0) (h.new ⟨.map ⟨[]⟩ 0, false⟩).2 (w.alloc (.map #[] 0)) ∧ Fr p Γ h w (w.alloc (.map #[] 0)) := by
 refine hr.new (x := ⟨.map ⟨[]⟩ 0, false⟩) (o := .map #[] 0) (k := 0) ?_
 simp only [OR]
 refine ⟨fun e he => by simp at he, ?_⟩
 rw [Gam.ext_b]
 have : Array.map (jJ (Γ.ext h.next w.heap.size 0)) ⟨[]⟩ = #[] := by simp
 rw [this]
 exact heap_alloc_new w _
theorem mapIter_new {p : Par} {Γ : Gam} {h : Heap} {w : World} (hr : HRel p Γ h w) (m : Option Nat) (hm : ∀ r, m = some r → r < h.next) (c : Nat) :
  HRel p (Γ.ext h.next w.heap.size 0) (h.new ⟨.mapIter m c #[] c, false⟩).2 (w.alloc (.mapIter (m.map Γ.b) c #[] c)) ∧ Fr p Γ h w (w.alloc (.mapIter (m.map Γ.b) c #[] c)) := by
 refine hr.new (x := ⟨.mapIter m c #[] c, false⟩) (o := .mapIter (m.map Γ.b) c #[] c) (k := 0) ?_
 simp only [OR]
 refine ⟨fun r hr' => Nat.lt_succ_of_lt (hm r hr'), ?_⟩
 rw [Gam.ext_b]
 have : m.map (Γ.ext h.next w.heap.size 0).b = m.map Γ.b := by
  cases m with
  | none => rfl
  | some r => simp only [Option.map_some, (Γ.ext_ag h.next w.heap.size 0).b r (hm r rfl)]
 rw [this]
 exact heap_alloc_new w _
theorem memN_eq (n : Nat) : ∀ l : List Nat, memN n l = l.contains n
 | [] => rfl
 | x :: l => by
  simp only [memN, List.contains_cons, memN_eq n l]
  have hb : Nat.beq x n = (n == x) := by
   rw [Bool.eq_iff_iff, Nat.beq_eq, beq_iff_eq]; exact ⟨fun h => h.symm, fun h => h.symm⟩
  rw [hb]
  cases (n == x) <;> simp
theorem leftE_run (Γ : Gam) (seen : List Nat) : ∀ es : List MapEntry, (es.map (jJ Γ)).filter (fun e => !(⟨seen⟩ : Array Nat).contains e.born) = (leftE seen es).map (jJ Γ)
 | [] => rfl
 | e :: es => by
  have hc : (⟨seen⟩ : Array Nat).contains (jJ Γ e).born = memN e.born seen := by rw [memN_eq]; simp [jJ]
  simp only [List.map_cons, List.filter_cons, leftE, hc, leftE_run Γ seen es]
  cases memN e.born seen <;> simp
theorem oldE_run (Γ : Gam) (since : Nat) : ∀ es : List MapEntry, (es.map (jJ Γ)).filter (fun e => decide (e.born < since)) = (oldE since es).map (jJ Γ)
 | [] => rfl
 | e :: es => by
  have hc : decide ((jJ Γ e).born < since) = Nat.blt e.born since := by
   rw [Bool.eq_iff_iff, decide_eq_true_iff, Nat.blt_eq]; rfl
  simp only [List.map_cons, List.filter_cons, oldE, hc, oldE_run Γ since es]
  cases Nat.blt e.born since <;> simp
theorem newE_run (Γ : Gam) (since : Nat) : ∀ es : List MapEntry, (es.map (jJ Γ)).filter (fun e => decide (e.born ≥ since)) = (newE since es).map (jJ Γ)
 | [] => rfl
 | e :: es => by
  have hc : decide ((jJ Γ e).born ≥ since) = !Nat.blt e.born since := by
   cases hb : Nat.blt e.born since with
   | true => simp only [Nat.blt_eq] at hb; simp only [Bool.not_true, decide_eq_false_iff_not, ge_iff_le, Nat.not_le]; exact hb
   | false =>
    have : ¬ e.born < since := fun h => by
     have : Nat.blt e.born since = true := by simpa using h
     rw [this] at hb; cases hb
    simp only [Bool.not_false, decide_eq_true_eq, ge_iff_le]; exact Nat.not_lt.1 this
  simp only [List.map_cons, List.filter_cons, newE, hc, newE_run Γ since es]
  cases Nat.blt e.born since <;> simp
theorem anyOld_run (Γ : Gam) (last : Nat) : ∀ es : List MapEntry, anyOld last es = true → (es.map (jJ Γ)).all (fun e => decide (e.born ≥ last)) = false
 | [], h => by cases h
 | e :: es, h => by
  simp only [anyOld] at h
  simp only [List.map_cons, List.all_cons]
  split at h
  ·rename_i hb
   simp only [Nat.blt_eq] at hb
   have : decide ((jJ Γ e).born ≥ last) = false := by simp only [decide_eq_false_iff_not, ge_iff_le, Nat.not_le]; exact hb
   rw [this, Bool.false_and]
  ·rw [anyOld_run Γ last es h, Bool.and_false]
theorem mapNext_run {p : Par} {Γ : Gam} {h h' : Heap} {w : World} (hr : HRel p Γ h w) {it v : Value} {ty : TypeId} (he : mapNext it h = some (v, h')) :
  sc h'.next v = true ∧ h'.next = h.next ∧ ∃ w', (Instr.next (con Γ it) false ty).run p.P w = .ok (con Γ v) w' ∧ HRel p Γ h' w' ∧ Fr p Γ h w w' := by
 unfold mapNext at he
 split at he
 ·rename_i b
  split at he
  ·rename_i a c d mo hg hlo
   cases he
   obtain ⟨hO1, hO2⟩ := (hr.obj b _ hg).2
   refine ⟨rfl, rfl, w, ?_, hr, Fr.refl w⟩
   simp [con, conA, Instr.next, getObj, Sem.run, hO2, conL]
  ·rename_i m since seen last mo hg hlo
   simp only [Nat.ble_eq] at hlo
   split at he
   ·rename_i es c hm
    obtain ⟨hO1, hO2⟩ := (hr.obj b _ hg).2
    obtain ⟨_, _, hall, hw⟩ := jX hr hm
    have hget : (getObj (Γ.b b)).run p.P w = .ok (.mapIter (some (Γ.b m)) since ⟨seen⟩ last) w := by simp [getObj, Sem.run, hO2]
    have hf1 : (⟨es.map (jJ Γ)⟩ : Array MapEntry).filter (fun e => !(⟨seen⟩ : Array Nat).contains e.born) = ⟨(leftE seen es).map (jJ Γ)⟩ := by
     apply Array.ext'; rw [Array.toList_filter]; exact leftE_run Γ seen es
    have hf2 : (⟨(leftE seen es).map (jJ Γ)⟩ : Array MapEntry).filter (fun e => decide (e.born < since)) = ⟨(oldE since (leftE seen es)).map (jJ Γ)⟩ := by
     apply Array.ext'; rw [Array.toList_filter]; exact oldE_run Γ since _
    have hf3 : (⟨(leftE seen es).map (jJ Γ)⟩ : Array MapEntry).filter (fun e => decide (e.born ≥ since)) = ⟨(newE since (leftE seen es)).map (jJ Γ)⟩ := by
     apply Array.ext'; rw [Array.toList_filter]; exact newE_run Γ since _
    have hgd : (seen.isEmpty || es.isEmpty || anyOld last es) = true → (!(⟨seen⟩ : Array Nat).isEmpty && !(⟨es.map (jJ Γ)⟩ : Array MapEntry).isEmpty && (⟨es.map (jJ Γ)⟩ : Array MapEntry).all (fun e => decide (e.born ≥ last))) = false := fun hq => by
     simp only [Bool.or_eq_true] at hq
     rcases hq with (hq | hq) | hq
     ·have : (⟨seen⟩ : Array Nat).isEmpty = true := by simpa using hq
      rw [this]; rfl
     ·have : (⟨es.map (jJ Γ)⟩ : Array MapEntry).isEmpty = true := by simpa using hq
      rw [this]; simp
     ·have : (⟨es.map (jJ Γ)⟩ : Array MapEntry).all (fun e => decide (e.born ≥ last)) = false := by
       rw [← Array.all_toList]; exact anyOld_run Γ last es hq
      rw [this]; simp
    split at he
    ·rename_i hq ho hn
     cases he
     have hgd := hgd hq
     refine ⟨rfl, rfl, w, ?_, hr, Fr.refl w⟩
     simp only [con, conA, Instr.next, Sem.run_bind, hget, Result.andThen_ok, jS hw, hgd, Bool.false_eq_true, if_false, Sem.run_pure]
     simp only [hf1, hf2, hf3, ho, hn]
     simp [Question.forced, conL]
     rfl
    ·rename_i e hq ho hn
     cases he
     have hgd := hgd hq
     have hmem : e ∈ es := by
      have h1 : ∀ l : List MapEntry, ∀ x ∈ oldE since l, x ∈ l := by
       intro l; induction l with
       | nil => intro x hx; cases hx
       | cons y l ih =>
        intro x hx; simp only [oldE] at hx
        split at hx
        ·rcases List.mem_cons.1 hx with rfl | hx
         ·simp
         ·simp [ih x hx]
        ·simp [ih x hx]
      have h2 : ∀ l : List MapEntry, ∀ x ∈ leftE seen l, x ∈ l := by
       intro l; induction l with
       | nil => intro x hx; cases hx
       | cons y l ih =>
        intro x hx; simp only [leftE] at hx
        split at hx
        ·simp [ih x hx]
        ·rcases List.mem_cons.1 hx with rfl | hx
         ·simp
         ·simp [ih x hx]
      exact h2 _ _ (h1 _ _ (by rw [ho]; simp))
     obtain ⟨hk, hv⟩ := hall e hmem
     have hput := hr.put (x' := ⟨.mapIter (some m) since ⟨seen ++ [e.born]⟩ c, false⟩) (o := .mapIter (some (Γ.b m)) since ⟨seen ++ [e.born]⟩ c) hg rfl hlo (hl := rfl) (hl' := rfl) (by
      simp only [OR]
      refine ⟨hO1, ?_⟩
      rw [wset_heap _ _ _ (Array.getElem?_eq_some_iff.1 hO2).1]; simp)
     refine ⟨by rw [Heap.put_eq]; simp [sc, scL, flat_sc _ _ (qS hk), hv], by rw [Heap.put_eq], _, ?_, hput.1, hput.2⟩
     have hnc : ∀ (c' : Array Value) e f, (Obj.mapIter (some (Γ.b m)) since ⟨seen⟩ last) ≠ .cells c' e f := fun _ _ _ h => by cases h
     simp only [con, conA, Instr.next, Sem.run_bind, hget, Result.andThen_ok, jS hw, hgd, Bool.false_eq_true, if_false, Sem.run_pure]
     simp only [hf1, hf2, hf3, ho, hn]
     simp [Question.forced, conL, jJ, con_flat Γ _ (qS hk), run_setObj hO2 hnc]
     rfl
    ·cases he
   ·cases he
  ·cases he
 ·cases he
theorem mapRange_run {p : Par} {Γ : Gam} {h h' : Heap} {w : World} (hr : HRel p Γ h w) {ca : Act} {tm : VT} {o : Oper} {t kt et : TypeId} {x : Operand} {v : Value} (ho : o.op = .range t x) (hx : ca.eval x = con Γ (ev tm x))
  (hu : p.P.underlying t = some (.map kt et)) (he : mapRange (ev tm x) h = some (v, h')) : Out p Γ h ca o w v h' ∧ sc h'.next v = true := by
 unfold mapRange at he
 have hn : ∀ y, (h.new y).2.next = h.next + 1 := fun y => by rw [Heap.new_eq]
 split at he
 ·rename_i hxe
  cases he
  have hnew := mapIter_new hr none (fun r h => by cases h) 0
  refine ⟨⟨_, _, _, ?_, .inl rfl, Γ.ext_ag _ _ _, by rw [hn]; omega, hnew.1, hnew.2⟩, by rw [hn]; simp [sc, scA]⟩
  rw [con_ptr_ext]
  simp [execOp, ho, hx, hxe, con, Instr.range, run_under hu]
 ·rename_i m hxe
  split at he <;> cases he
  rename_i es c hm
  obtain ⟨⟨mo, hg⟩, _, hall, hw⟩ := jX hr hm
  have hnew := mapIter_new hr (some m) (fun r h => by cases h; exact (hr.obj m _ hg).1) c
  refine ⟨⟨_, _, _, ?_, .inl rfl, Γ.ext_ag _ _ _, by rw [hn]; omega, hnew.1, hnew.2⟩, by rw [hn]; simp [sc, scA]⟩
  rw [con_ptr_ext]
  simp [execOp, ho, hx, hxe, con, Instr.range, run_under hu, jS hw]
 ·cases he
end Go.Ew
namespace Go.Ew
open Go Go.RowKit
theorem appIn_run {p : Par} {Γ : Gam} {h h' : Heap} {w : World} (hr : HRel p Γ h w) {sT xT ty : TypeId} {x v : Value} {e : TypeId} {n cap m : Nat} {base : Option Addr} {new : List Value} {i : TypeInfo} {dx : TypeDesc}
  (hs : p.P.underlying sT = some (.slice e)) (hxT : p.P.underlying xT = some dx) (hni : ∀ k, dx ≠ .int k) (hi : p.P.info? e = some i) (hlr : (Builtin.lenOf (con Γ x)).run p.P w = .ok m w)
  (hnl : new.length = m * i.size) (hok0 : ∀ v ∈ new, one v = true ∧ sc h.next v = true)
  (hnr : ∀ w' : World, w'.heap = w.heap → (Builtin.firstCells i.size m (con Γ x)).run p.P w' = .ok ⟨new.map (con Γ)⟩ w')
  (he : appIn e i.size n cap m base new h = some (v, h')) :
  ∃ Γ' w', (Builtin.append_ #[sT, xT] ty #[con Γ (.slice base n cap), con Γ x]).run p.P w = .ok (con Γ' v) w' ∧ Ag Γ Γ' h.next ∧ h.next ≤ h'.next ∧ HRel p Γ' h' w' ∧ Fr p Γ h w w' := by
 unfold appIn at he
 split at he
 ·rename_i b off
  split at he
  ·rename_i cs e' hc
   split at he
   ·rename_i hb
    simp only [Bool.and_eq_true, Nat.beq_eq, Nat.ble_eq, Nat.blt_eq] at hb
    obtain ⟨⟨⟨⟨⟨h1, h2⟩, h3⟩, h4⟩, h5⟩, hlo⟩ := hb
    have hG : p.G ≤ b := by rw [← hr.lo]; exact hlo
    obtain ⟨hlt, rest, fr, hrow⟩ := hr.row hc hG
    obtain ⟨ti, hti, hk⟩ := hrow.more rfl
    have htii : ti = i := by rw [h1, hi] at hti; exact (Option.some.inj hti).symm
    subst htii
    have hroom : n + m ≤ Γ.k b - (cap - UC) := by
     have : (cap - UC + (n + m)) * ti.size ≤ Γ.k b * ti.size := by
      rw [Nat.add_mul, ← h3]; omega
     have := Nat.le_of_mul_le_mul_right this h4
     omega
    have hnot : ¬ cap < UC := by omega
    have hcv : ∀ k, con Γ (.slice (some ⟨b, off, none⟩) k cap) = .slice (some ⟨Γ.b b, off, none⟩) k (Γ.k b - (cap - UC)) := fun k => by
     simp only [con, jC, conCap]; rw [if_neg hnot]
    rw [hcv]
    cases m with
    | zero =>
     dsimp only at he
     cases he
     have hn0 : new = [] := List.length_eq_zero_iff.1 (by simpa using hnl)
     subst hn0
     refine ⟨Γ, w, ?_, Ag.refl _ _, Nat.le_refl _, hr, Fr.refl w⟩
     rw [hcv]
     exact append_fit (base := some ⟨Γ.b b, off, none⟩) hs hxT hni hi hlr (hnr w rfl) hroom (by simp [storeCells])
    | succ m =>
     dsimp only at he
     split at he <;> cases he
     rename_i cs' hlone hset
     obtain ⟨hle2, rfl⟩ := setN_eq hset
     obtain ⟨fr0, hg⟩ := cells_get hc
     have hok := hok0
     have hst := storeCells_run p.P (Γ.b b) (off + n * ti.size) e' fr (new.map (con Γ)) 0 (cs.map (con Γ) ++ rest) w hrow.heap
      (by simpa using hrow.fr) (by simp at hle2 ⊢; omega) (by
       intro y hy
       simp only [List.mem_map] at hy
       obtain ⟨z, hz, rfl⟩ := hy
       rw [one_con]; exact (hok z hz).1)
     have hset : setFrom (cs.map (con Γ) ++ rest) (off + n * ti.size + 0) (new.map (con Γ)) = (setFrom cs (off + n * ti.size) new).map (con Γ) ++ rest := by
      rw [setFrom_map]
      simp only [setFrom, Nat.add_zero, List.length_map]
      rw [List.take_append_of_le_length (by simp; omega), List.drop_append_of_le_length (by simp; omega)]
      simp
     rw [hset] at hst
     have hlen2 : (setFrom cs (off + n * ti.size) new).length = cs.length := by
      simp only [setFrom, List.length_append, List.length_take, List.length_drop]
      omega
     have hput := hr.put (x' := ⟨.cells ⟨setFrom cs (off + n * ti.size) new⟩ e', true⟩) (o := .cells ⟨(setFrom cs (off + n * ti.size) new).map (con Γ) ++ rest⟩ e' fr) hg rfl hlo (hl := lone_spec hlone hg) (hl' := rfl) (by
      simp only [OR]
      refine ⟨fun _ => ⟨fun y hy => ?_, rest, fr, ?_, ?_, hrow.no, fun hm => ?_⟩, fun h0 => absurd h0 (Nat.not_lt.2 hG)⟩
      ·simp only [setFrom, List.mem_append] at hy
       rcases hy with (hy | hy) | hy
       ·exact hrow.ok y (List.mem_of_mem_take hy)
       ·exact hok y hy
       ·exact hrow.ok y (List.mem_of_mem_drop hy)
      ·rw [wset_heap _ _ _ (Array.getElem?_eq_some_iff.1 hrow.heap).1]; simp
      ·have := hrow.fr; simpa [hlen2] using this
      ·exact ⟨ti, hti, by simpa [hlen2] using hk⟩)
     refine ⟨Γ, _, ?_, Ag.refl _ _, Nat.le_refl _, hput.1, hput.2⟩
     rw [hcv]
     refine append_fit (base := some ⟨Γ.b b, off, none⟩) hs hxT hni hi hlr (hnr w rfl) hroom ?_
     dsimp only; rw [addr_add]; exact hst
   ·cases he
  ·cases he
 ·cases he
theorem evAppend_run {p : Par} {Γ : Gam} {h h' : Heap} {w : World} (hr : HRel p Γ h w) {sT xT ty : TypeId} {s x v : Value}
  (he : evAppend p.P sT xT s x h = some (v, h')) :
  ∃ Γ' w', (Builtin.append_ #[sT, xT] ty #[con Γ s, con Γ x]).run p.P w = .ok (con Γ' v) w' ∧ Ag Γ Γ' h.next ∧ h.next ≤ h'.next ∧ HRel p Γ' h' w' ∧ Fr p Γ h w w' := by
 unfold evAppend at he
 split at he
 ·rename_i e base n cap m hs hlen
  split at he
  ·cases he
  rename_i i hi0
  have hi : p.P.info? e = some i ∧ ∃ dx, p.P.underlying xT = some dx ∧ ∀ k, dx ≠ .int k := by
   split at hi0
   ·cases hi0
   ·cases hi0
   ·rename_i dx hdx hxT
    exact ⟨hi0, dx, hxT, fun k e => hdx k e⟩
  obtain ⟨hi, dx, hxT, hni⟩ := hi
  dsimp only at he
  split at he
  ·cases he
  rename_i new hnew
  obtain ⟨hnl, hok0, hnr⟩ := srcCells_run hr hnew
  have hlr := lenV_run (P := p.P) (w := w) Γ hlen
  have hU := U_le
  split at he
  ·rename_i hcap
   simp only [Nat.blt_eq] at hcap
   have hcs : con Γ (.slice base n cap) = .slice (base.map (conA Γ)) n cap := by
    cases base with
    | none => simp [con]
    | some a => simp [con, conCap, hcap, conS_lt Γ a hcap]
   rw [hcs]
   split at he
   ·rename_i hle
    simp only [Nat.ble_eq] at hle
    split at he
    ·-- nil
     split at he <;> cases he
     refine ⟨Γ, w, ?_, Ag.refl _ _, Nat.le_refl _, hr, Fr.refl w⟩
     simp only [Option.map_none, con]
     exact append_fit (base := none) hs hxT hni hi hlr (hnr w rfl) hle (by simp)
    ·rename_i b off
     split at he
     ·cases he
      have hn0 : new = [] := List.length_eq_zero_iff.1 (by simpa using hnl)
      subst hn0
      refine ⟨Γ, w, ?_, Ag.refl _ _, Nat.le_refl _, hr, Fr.refl w⟩
      have hcv : con Γ (.slice (some ⟨b, off, none⟩) (n + 0) cap) = .slice (some ⟨Γ.b b, off, none⟩) (n + 0) cap := by simp [con, conA, jC, conCap, hcap]
      rw [hcv]
      exact append_fit (base := some ⟨Γ.b b, off, none⟩) hs hxT hni hi hlr (hnr w rfl) hle (by simp [storeCells])
     split at he
     ·rename_i m _ cs e' mo hc
      split at he <;> cases he
      rename_i cs' hlo hset
      simp only [Bool.and_eq_true, Nat.ble_eq] at hlo
      obtain ⟨hlo, hlone⟩ := hlo
      obtain ⟨hle2, rfl⟩ := setN_eq hset
      obtain ⟨fr0, hg⟩ := cells_get hc
      have hG : p.G ≤ b := by rw [← hr.lo]; exact hlo
      obtain ⟨hlt, rest, fr, hrow⟩ := hr.row hc hG
      have hok := hok0
      have hst := storeCells_run p.P (Γ.b b) (off + n * i.size) e' fr (new.map (con Γ)) 0 (cs.map (con Γ) ++ rest) w hrow.heap
       (by simpa using hrow.fr) (by simp at hle2 ⊢; omega) (by
        intro y hy
        simp only [List.mem_map] at hy
        obtain ⟨z, hz, rfl⟩ := hy
        rw [one_con]; exact (hok z hz).1)
      have hset : setFrom (cs.map (con Γ) ++ rest) (off + n * i.size + 0) (new.map (con Γ)) = (setFrom cs (off + n * i.size) new).map (con Γ) ++ rest := by
       rw [setFrom_map]
       simp only [setFrom, Nat.add_zero, List.length_map]
       rw [List.take_append_of_le_length (by simp; omega), List.drop_append_of_le_length (by simp; omega)]
       simp
      rw [hset] at hst
      have hlen2 : (setFrom cs (off + n * i.size) new).length = cs.length := by
       simp only [setFrom, List.length_append, List.length_take, List.length_drop]
       omega
      have hput := hr.put (x' := ⟨.cells ⟨setFrom cs (off + n * i.size) new⟩ e', mo⟩) (o := .cells ⟨(setFrom cs (off + n * i.size) new).map (con Γ) ++ rest⟩ e' fr) hg rfl hlo (hl := lone_spec hlone hg) (hl' := rfl) (by
       simp only [OR]
       refine ⟨fun _ => ⟨fun y hy => ?_, rest, fr, ?_, ?_, hrow.no, fun hm => ?_⟩, fun h0 => absurd h0 (Nat.not_lt.2 hG)⟩
       ·simp only [setFrom, List.mem_append] at hy
        rcases hy with (hy | hy) | hy
        ·exact hrow.ok y (List.mem_of_mem_take hy)
        ·exact hok y hy
        ·exact hrow.ok y (List.mem_of_mem_drop hy)
       ·rw [wset_heap _ _ _ (Array.getElem?_eq_some_iff.1 hrow.heap).1]; simp
       ·have := hrow.fr; simpa [hlen2] using this
       ·obtain ⟨ti, h5, h6⟩ := hrow.more hm
        exact ⟨ti, h5, by simpa [hlen2] using h6⟩)
      refine ⟨Γ, _, ?_, Ag.refl _ _, Nat.le_refl _, hput.1, hput.2⟩
      have hcv : con Γ (.slice (some ⟨b, off, none⟩) (n + (m + 1)) cap) = .slice (some ⟨Γ.b b, off, none⟩) (n + (m + 1)) cap := by simp [con, conA, jC, conCap, hcap]
      rw [hcv]
      have hb0 : (some (⟨b, off, none⟩ : Addr)).map (conA Γ) = some ⟨Γ.b b, off, none⟩ := rfl
      rw [hb0]
      refine append_fit (base := some ⟨Γ.b b, off, none⟩) hs hxT hni hi hlr (hnr w rfl) hle ?_
      dsimp only; rw [addr_add]; exact hst
     ·cases he
    ·cases he
   ·rename_i hle
    have hgt : cap < n + m := by
     have : Nat.ble (n + m) cap ≠ true := by rw [hle]; simp
     simp only [ne_eq, Nat.ble_eq] at this; omega
    split at he
    ·rename_i old z hold hbnd hz
     simp only [Nat.blt_eq] at hbnd
     split at he
     ·rename_i hzz
      simp only [Bool.and_eq_true, Nat.beq_eq, Nat.blt_eq] at hzz
      split at he <;> cases he
      rename_i b h'' hmk
      obtain ⟨hol, _, hor⟩ := srcCells_run hr hold
      rw [hcs] at hor
      have hgr := append_grow (ty := ty) (base := base.map (conA Γ)) (n := n) (cap := cap) hs hxT hni hi hz hlr (hor w.drew rfl) (hnr w.drew rfl) hgt (by omega)
       (growslice_fits hgt (by omega))
      have hmr := mkRow_run (hr.of_heap (w' := w.drew) rfl) hmk (Builtin.zeroCells z.cells (grownCap w (n + m) cap e - (n + m))).toList (grownCap w (n + m) cap e) (0, 0) (.inr rfl) (fun hm => by cases hm) (fun _ => ⟨i, hi, by
       simp only [List.length_append, hol, hnl, Array.length_toList, size_zeroCells, hzz.1]
       have hge := grownCap_ge w (n + m) cap e
       rw [← Nat.add_mul, ← Nat.add_mul]
       congr 1
       omega⟩)
      obtain ⟨h1, h2, h3, h4, h5⟩ := hmr
      subst h1
      refine ⟨_, _, ?_, h3, by omega, h4, ⟨(jN.refl p.B w).drew.trans h5.below⟩⟩
      rw [hgr]
      have hcv : con (Γ.ext h.next w.drew.heap.size (grownCap w (n + m) cap e)) (.slice (some ⟨h.next, 0, none⟩) (n + m) UC) = .slice (some ⟨w.heap.size, 0, none⟩) (n + m) (grownCap w (n + m) cap e) := by
       simp only [con, jC, conCap, Gam.ext_b, Gam.ext_k, Nat.lt_irrefl, if_false, Nat.sub_self, Nat.sub_zero]
       rfl
      rw [hcv, List.map_append]
     ·cases he
    ·cases he
  ·-- room that is known, or the tip of a row whose capacity is not known
   split at he
   ·rename_i r hin
    cases he
    exact appIn_run hr hs hxT hni hi hlr hnl hok0 hnr hin
   rename_i hnin
   clear hnin
   unfold appTip at he
   split at he
   ·rename_i b
    split at he
    ·cases he
    rename_i h1 hcut
    obtain ⟨hr1, n1, l1, c1, p1, g1, s1⟩ := cutC_spec _ _ _ _ hcut hr
    split at he
    ·rename_i cs e' hc
     split at he
     ·rename_i z hbb hz
      simp only [Bool.and_eq_true, Nat.beq_eq, Nat.ble_eq, Nat.blt_eq] at hbb
      obtain ⟨⟨⟨⟨he', hcU⟩, hlo⟩, hcl⟩, hbnd⟩ := hbb
      have he2 := he'.symm; subst he2
      split at he <;> cases he
      rename_i hz2
      simp only [foneL_eq, Bool.and_eq_true, Nat.beq_eq, Nat.blt_eq, List.all_eq_true] at hz2
      obtain ⟨⟨hzz, hz0⟩, hone, hscn⟩ := hz2
      obtain ⟨fr0, hg⟩ := cells_get hc
      have hG : p.G ≤ b := by rw [← hr1.lo]; exact hlo
      obtain ⟨hlt, rest, fr, hrow⟩ := hr1.row hc hG
      obtain ⟨ti, hti, hk⟩ := hrow.more rfl
      have hti' : ti = i := by rw [hi] at hti; exact (Option.some.inj hti).symm
      subst hti'
      have hok : ∀ y ∈ new, one y = true ∧ sc h1.next y = true := fun y hy => ⟨hone y hy, scL_all hscn y hy⟩
      have hok2 : ∀ y ∈ cs ++ new, one y = true ∧ sc h1.next y = true := fun y hy => by
       rcases List.mem_append.1 hy with hy | hy
       ·exact hrow.ok y hy
       ·exact hok y hy
      have hcs : con Γ (.slice (some ⟨b, 0, none⟩) n cap) = .slice (some ⟨Γ.b b, 0, none⟩) n (Γ.k b) := by
       simp only [con, jC, conCap, hcU, Nat.lt_irrefl, if_false, Nat.sub_self, Nat.sub_zero]
      have hmapx : ∀ g k, (cs ++ new).map (con (Γ.ext h1.next g k)) = (cs ++ new).map (con Γ) := fun g k => List.map_congr_left fun y hy => con_ag (Γ.ext_ag _ _ _) y (hok2 y hy).2
      have hNx : ∀ lk x', h.next ≤ ((jO h1 b lk).new x').2.next := fun lk x' => by
       rw [Heap.new_eq, (relink_nl h1 b lk).1, n1]; exact Nat.le_succ _
      rw [hcs]
      by_cases hroom : n + m ≤ Γ.k b
      ·have hrl : new.length ≤ rest.length := by
        have : (n + m) * ti.size ≤ Γ.k b * ti.size := Nat.mul_le_mul_right _ hroom
        rw [Nat.add_mul] at this
        omega
       have hst := storeCells_run p.P (Γ.b b) (n * ti.size) e fr (new.map (con Γ)) 0 (cs.map (con Γ) ++ rest) w hrow.heap
        (by simpa using hrow.fr) (by simp; omega) (by
         intro y hy
         simp only [List.mem_map] at hy
         obtain ⟨z, hz, rfl⟩ := hy
         rw [one_con]; exact hone z hz)
       have hset : setFrom (cs.map (con Γ) ++ rest) (n * ti.size + 0) (new.map (con Γ)) = (cs ++ new).map (con Γ) ++ rest.drop new.length := by
        simp only [setFrom, Nat.add_zero, List.length_map, List.map_append]
        rw [List.take_append_of_le_length (by simp; omega), List.take_of_length_le (by simp; omega)]
        rw [List.drop_append, List.drop_eq_nil_of_le (by simp; omega)]
        simp only [List.length_map, List.nil_append]
        congr 2
        omega
       rw [hset] at hst
       have hlt2 := (Array.getElem?_eq_some_iff.1 hrow.heap).1
       have hbeh := hr1.behind (L' := (cs ++ new).map (con Γ) ++ rest.drop new.length) hg c1 hG hrow.heap (by simp; omega) (by
        rw [List.map_append, List.append_assoc, List.take_append_of_le_length (by simp), List.take_append_of_le_length (by simp)])
       have hre := hr1.fork (g := Γ.b b) (k := Γ.k b) (cs' := ⟨cs ++ new⟩) (ty' := e) (m' := true) hg c1 hG (by simp) (.inl rfl) (by rw [wset_size]; exact Nat.le_refl _) hbeh (by
        simp only [OR]
        refine ⟨fun _ => ⟨fun y hy => ⟨(hok2 y hy).1, sc_mono (Nat.le_succ _) y (hok2 y hy).2⟩, rest.drop new.length, fr, ?_, ?_, fun hm => (by cases hm), fun _ => ⟨ti, hi, ?_⟩⟩, fun h0 => absurd h0 (Nat.not_lt.2 hr1.gn)⟩
        ·rw [Gam.ext_b, hmapx, wset_heap _ _ _ hlt2]; simp
        ·have := hrow.fr
         simp only [List.size_toArray, List.length_append, List.length_drop]
         omega
        ·rw [Gam.ext_k]
         simp only [List.size_toArray, List.length_append, List.length_drop]
         omega)
       refine ⟨_, _, ?_, by rw [← n1]; exact Γ.ext_ag _ _ _, hNx _ _, hre, ⟨⟨rfl, rfl, rfl, by rw [wset_size]; exact Nat.le_refl _, fun q hq => ?_⟩⟩⟩
       ·have hcv : con (Γ.ext h1.next (Γ.b b) (Γ.k b)) (.slice (some ⟨h1.next, 0, none⟩) (n + m) UC) = .slice (some ⟨Γ.b b, 0, none⟩) (n + m) (Γ.k b) := by
         simp only [con, jC, conCap, Gam.ext_b, Gam.ext_k, Nat.lt_irrefl, if_false, Nat.sub_self, Nat.sub_zero]
        rw [hcv]
        refine append_fit (base := some ⟨Γ.b b, 0, none⟩) hs hxT hni hi hlr (hnr w rfl) hroom ?_
        dsimp only; rw [addr_add, Nat.zero_add]; exact hst
       ·rw [wset_heap _ _ _ hlt2, if_neg (fun (e : q = Γ.b b) => hr1.base b _ hg rfl hG (e ▸ hq))]
      ·have hgt : Γ.k b < n + m := by omega
       have hol : (Builtin.firstCells ti.size n (.slice (some ⟨Γ.b b, 0, none⟩) n (Γ.k b))).run p.P w.drew = .ok ⟨cs.map (con Γ)⟩ w.drew := by
        have htk : takeN cs 0 (n * ti.size) = some cs := takeN_all cs hcl
        have := (hr1.of_heap (w' := w.drew) rfl).load hc htk (.inl hG) p.P
        simpa [Builtin.firstCells] using this
       have hgr := append_grow (ty := ty) (base := some ⟨Γ.b b, 0, none⟩) (n := n) (cap := Γ.k b) hs hxT hni hi hz hlr hol (hnr w.drew rfl) hgt (by omega)
        (growslice_fits hgt (by omega))
       have hrd := hr1.of_heap (w' := w.drew) rfl
       have hge := grownCap_ge w (n + m) (Γ.k b) e
       have hre := hrd.fork (g := w.drew.heap.size) (k := grownCap w (n + m) (Γ.k b) e) (cs' := ⟨cs ++ new⟩) (ty' := e) (m' := true)
        (w' := w.drew.alloc (.cells ⟨(cs ++ new).map (con Γ) ++ (Builtin.zeroCells z.cells (grownCap w (n + m) (Γ.k b) e - (n + m))).toList⟩ e (0, 0))) hg c1 hG (by simp) (.inr rfl) (by simp)
        (fun i x hx ho hor => hor.ag (Ag.refl _ _) (Nat.le_refl _) hr1.gn (hr1.obj i x hx).1 (Below.heap_alloc _ _ _ (OR_lt hor ho))) (by
        simp only [OR]
        refine ⟨fun _ => ⟨fun y hy => ⟨(hok2 y hy).1, sc_mono (Nat.le_succ _) y (hok2 y hy).2⟩, (Builtin.zeroCells z.cells (grownCap w (n + m) (Γ.k b) e - (n + m))).toList, (0, 0), ?_, .inr rfl, fun hm => (by cases hm), fun _ => ⟨ti, hi, ?_⟩⟩, fun h0 => absurd h0 (Nat.not_lt.2 hr1.gn)⟩
        ·rw [Gam.ext_b, hmapx]; exact heap_alloc_new _ _
        ·rw [Gam.ext_k]
         simp only [List.size_toArray, List.length_append, hcl, hnl, Array.length_toList, size_zeroCells, hzz]
         rw [← Nat.add_mul, ← Nat.add_mul]
         congr 1
         omega)
       refine ⟨_, _, ?_, by rw [← n1]; exact Γ.ext_ag _ _ _, hNx _ _, hre, ⟨((jN.refl p.B w).drew).alloc hrd.size _⟩⟩
       rw [hgr]
       have hcv : con (Γ.ext h1.next w.drew.heap.size (grownCap w (n + m) (Γ.k b) e)) (.slice (some ⟨h1.next, 0, none⟩) (n + m) UC) = .slice (some ⟨w.heap.size, 0, none⟩) (n + m) (grownCap w (n + m) (Γ.k b) e) := by
        simp only [con, jC, conCap, Gam.ext_b, Gam.ext_k, Nat.lt_irrefl, if_false, Nat.sub_self, Nat.sub_zero]
        rfl
       rw [hcv, List.map_append]
     ·cases he
    ·cases he
   ·cases he
 ·cases he
end Go.Ew
namespace Go.Ew
open Go Go.RowKit
theorem map_flatten_flat (Γ : Gam) {z : List Value} (h : z.map (con Γ) = z) (n : Nat) : ((List.replicate n z).flatten).map (con Γ) = (List.replicate n z).flatten := by
 induction n with
 | zero => simp
 | succ n ih => simp only [List.replicate_succ, List.flatten_cons, List.map_append, h, ih]
theorem evMake_run {p : Par} {Γ : Gam} {h h' : Heap} {w : World} (hr : HRel p Γ h w) {t : TypeId} {l c v : Value} (he : evMake p.P t l c h = some (v, h')) :
  ∃ Γ' w', (Instr.makeSlice t (con Γ l) (con Γ c)).run p.P w = .ok (con Γ' v) w' ∧ Ag Γ Γ' h.next ∧ h.next ≤ h'.next ∧ HRel p Γ' h' w' ∧ Fr p Γ h w w' := by
 have hU := U_le
 unfold evMake at he
 split at he
 ·rename_i e kl l kc c hs
  split at he
  ·rename_i i hi
   split at he
   ·rename_i z hb hz
    simp only [Bool.and_eq_true, Nat.ble_eq, Nat.blt_eq] at hb
    split at he
    ·rename_i hzz
     simp only [Bool.and_eq_true, Nat.beq_eq, Nat.blt_eq] at hzz
     obtain ⟨⟨hz1, hz2⟩, hzf⟩ := hzz
     split at he <;> cases he
     rename_i b h'' hmk
     have hm : (i.bytes : Int) * (c : Int) ≤ 281474976710656 := by
      have : ((i.bytes * c : Nat) : Int) ≤ 281474976710656 := by rw [Nat.mul_comm]; omega
      rwa [Int.natCast_mul] at this
     have hrun := run_make (P := p.P) w t e i z hs hi hz kl kc (l : Int) (c : Int) (Int.natCast_nonneg _) (by omega) hm (by omega)
     obtain ⟨h1, h2, h3, h4, h5⟩ := mkRow_run hr hmk [] 0 (0, 0) (.inr rfl) (fun _ => rfl) (fun hm => by cases hm)
     subst h1
     refine ⟨_, _, ?_, h3, by omega, h4, h5⟩
     have hzm : z.cells.toList.map (con Γ) = z.cells.toList := by rw [← conL_map]; exact conL_flat Γ _ hzf
     have hcells : madeCells z.cells (c * i.size) = ⟨((List.replicate c z.cells.toList).flatten).map (con Γ) ++ []⟩ := by
      apply Array.ext'
      rw [map_flatten_flat Γ hzm, List.append_nil]
      have := rep_cells z.cells c
      rw [hz1] at this
      simpa [madeCells, hz1] using this
     simp only [con] at hrun ⊢
     have e1 : Int.ofNat l = (l : Int) := rfl
     have e2 : Int.ofNat c = (c : Int) := rfl
     rw [e1, e2, hrun]
     have hcU : c < UC := by have := U_UC; omega
     simp only [jC, conCap, Gam.ext_b, if_pos hcU, Int.toNat_natCast, hcells]
    ·cases he
   ·cases he
  ·cases he
 ·cases he
theorem bytesEx_eq : ∀ {l : List Value} {bs : List UInt8}, jH l = some bs → l = bs.map fun x => .int .u8 x.toNat
 | [], bs, h => by cases h; rfl
 | .int .u8 (.ofNat m) :: vs, bs, h => by
  simp only [jH] at h
  split at h <;> cases h
  rename_i l hm hl
  simp only [Nat.blt_eq] at hm
  rw [List.map_cons, ← bytesEx_eq hl]
  congr 2
  simp [Nat.mod_eq_of_lt hm]
 | .int .u8 (.negSucc _) :: _, _, h => by simp [jH] at h
 | .bool _ :: _, _, h => by simp [jH] at h
 | .float _ _ :: _, _, h => by simp [jH] at h
 | .complex _ _ _ :: _, _, h => by simp [jH] at h
 | .string _ :: _, _, h => by simp [jH] at h
 | .pointer _ :: _, _, h => by simp [jH] at h
 | .slice _ _ _ :: _, _, h => by simp [jH] at h
 | .map _ :: _, _, h => by simp [jH] at h
 | .chan _ :: _, _, h => by simp [jH] at h
 | .func _ _ _ :: _, _, h => by simp [jH] at h
 | .nilFunc :: _, _, h => by simp [jH] at h
 | .iface _ _ :: _, _, h => by simp [jH] at h
 | .nilIface :: _, _, h => by simp [jH] at h
 | .agg _ :: _, _, h => by simp [jH] at h
 | .tuple _ :: _, _, h => by simp [jH] at h
 | .int k n :: vs, bs, h => by
  cases k <;> first | (cases n <;> simp [jH] at h; done) | skip
  cases n with
  | ofNat m =>
   simp only [jH] at h
   split at h <;> cases h
   rename_i l hm hl
   simp only [Nat.blt_eq] at hm
   rw [List.map_cons, ← bytesEx_eq hl]
   congr 2
   simp [Nat.mod_eq_of_lt hm]
  | negSucc m => simp [jH] at h
theorem freeze_wset {w : World} {g n : Nat} {c : Array Value} {e : TypeId} {fr : Nat × Nat} (hg : w.heap[g]? = some (.cells c e fr)) (hn : n ≠ 0) : ∃ o, w.freeze ⟨g, 0, none⟩ n = wset w g o := by
 refine ⟨.cells c e (if fr.1 == fr.2 then (0, 0 + n) else (min fr.1 0, max fr.2 (0 + n))), ?_⟩
 obtain ⟨lo, hi⟩ := fr
 simp only [World.freeze, if_neg hn, wset]
 congr 1
 apply Array.ext_getElem?
 intro j
 rw [Array.getElem?_setIfInBounds, Array.getElem?_modify]
 have hlt : g < w.heap.size := (Array.getElem?_eq_some_iff.1 hg).1
 by_cases hgj : g = j
 ·subst hgj
  have hgg : w.heap[g] = .cells c e (lo, hi) := by
   have := hg; rw [Array.getElem?_eq_getElem hlt] at this; exact Option.some.inj this
  simp [hlt, hgg]
 ·simp [hgj]
theorem freeze_wset_at {w : World} {g k : Nat} {c : Array Value} {e : TypeId} {fr : Nat × Nat} (hg : w.heap[g]? = some (.cells c e fr)) :
  w.freeze ⟨g, k, none⟩ 1 = wset w g (.cells c e (if fr.1 == fr.2 then (k, k + 1) else (min fr.1 k, max fr.2 (k + 1)))) := by
 obtain ⟨lo, hi⟩ := fr
 simp only [World.freeze, if_neg (show ¬ (1 : Nat) = 0 by decide), wset]
 congr 1
 apply Array.ext_getElem?
 intro j
 rw [Array.getElem?_setIfInBounds, Array.getElem?_modify]
 have hlt : g < w.heap.size := (Array.getElem?_eq_some_iff.1 hg).1
 by_cases hgj : g = j
 ·subst hgj
  have hgg : w.heap[g] = .cells c e (lo, hi) := by
   have := hg; rw [Array.getElem?_eq_getElem hlt] at this; exact Option.some.inj this
  simp [hlt, hgg]
 ·simp [hgj]
theorem HRel.of_get {p : Par} {Γ : Gam} {h h' : Heap} {w : World} (hr : HRel p Γ h w) (hg : ∀ i, h'.get i = h.get i) (hn : h'.next = h.next) (hl : h'.lo = h.lo) : HRel p Γ h' w :=
 have hc : ∀ i, ch h' i = ch h i := fun i => by rw [ch_eq, ch_eq, hg]
 ⟨fun i x hx => by rw [hn]; exact hr.obj i x (by rw [← hg]; exact hx), fun i x hx => hr.base i x (by rw [← hg]; exact hx), fun i j x y hx ho hy hoy hi hj e => (hr.inj i j x y (by rw [← hg]; exact hx) ho (by rw [← hg]; exact hy) hoy hi hj e).imp (·.congr hc) (·.congr hc),
  hr.lnk.congr hc (fun i => by rw [pa_eq, pa_eq, hg]) (fun i _ => by rw [ln_eq, ln_eq, hg]), hr.gl, hr.low, by rw [hl]; exact hr.lo, by rw [hn]; exact hr.gn, hr.ng, hr.size, hr.gs⟩
theorem mark_run {p : Par} {Γ : Gam} {h : Heap} {w : World} (hr : HRel p Γ h w) {g off : Nat} {spot : Option Nat} {cs : Array Value} {e : TypeId} {fr0 : Nat × Nat} {m : Bool} (hx : h.get g = some ⟨.cells cs e fr0, m⟩) (hlo : h.lo ≤ g) (hl : lkOf ⟨.cells cs e fr0, m⟩ = (0, 0)) :
  ∃ w', (markStringish ⟨Γ.b g, off, spot⟩).run p.P w = .ok () w' ∧ HRel p Γ h w' ∧ Fr p Γ h w w' := by
 have hG : p.G ≤ g := by rw [← hr.lo]; exact hlo
 have hO := (hr.obj g _ hx).2
 simp only [OR] at hO
 obtain ⟨⟨h1, rest, fr, h2, h3, h4, h5⟩, _⟩ := And.intro (hO.1 hG) trivial
 obtain ⟨n, hn⟩ : ∃ n, n = cs.size + rest.length := ⟨_, rfl⟩
 have hsh : w.shape? (Γ.b g) = some (e, n) := by
  unfold World.shape?; rw [h2]; simp [hn]
 have hfz := freeze_wset_at (k := n) h2
 obtain ⟨hr', hfr⟩ := hr.put hx rfl hlo (x' := ⟨.cells cs e fr0, m⟩) (o := .cells (cs.toList.map (con Γ) ++ rest).toArray e (if fr.1 == fr.2 then (n, n + 1) else (min fr.1 n, max fr.2 (n + 1)))) (hl := hl) (hl' := hl) (by
  simp only [OR]
  refine ⟨fun _ => ⟨h1, rest, (if fr.1 == fr.2 then (n, n + 1) else (min fr.1 n, max fr.2 (n + 1))), ?_, ?_, h4, h5⟩, fun hlt => absurd hlt (Nat.not_lt.2 hG)⟩
  ·rw [wset_heap _ _ _ (Array.getElem?_eq_some_iff.1 h2).1, if_pos rfl]
  ·left
   split
   ·rw [hn]; exact Nat.le_refl _
   ·rename_i hne
    rcases h3 with h3 | h3
    ·show _ ≤ min fr.1 n
     omega
    ·exact absurd (by simp [h3]) hne)
 refine ⟨_, ?_, hr'.of_get (fun i => by rw [Heap.get_put]; split <;> simp_all) rfl rfl, hfr⟩
 simp only [markStringish, Sem.run_bind, run_shape, hsh, Result.andThen_ok, run_freeze, hfz]
theorem str_eq {b : Builtin} (hb : bNo b = 21) (pt it ty : TypeId) (cs : Array Bool) (a : Addr) (k : Int) : ∃ (A B : Sem PUnit) (C : Sem Value),
  builtin b #[pt, it] ty cs #[.pointer (some a), .int .i64 k] = (do pure (.value (← (do
   let n ← asInt (.int .i64 k)
   if n < 0 then A
   if n > IntKind.i64.max then B
   if n = 0 then pure (.string .empty)
   else if ← variablesAt a (← elemOf pt) n.toNat then do
    let s ← loadBytes a .empty n.toNat
    freeze a n.toNat
    pure (.string s)
   else C : Sem Value)))) := by
 cases b <;> first
  | (exact absurd hb (by decide))
  | exact ⟨_, _, _, rfl⟩
theorem str_none {b : Builtin} (hb : bNo b = 21) (pt it ty : TypeId) (cs : Array Bool) : ∃ (A B : Sem PUnit) (C : Sem Value),
  builtin b #[pt, it] ty cs #[.pointer none, .int .i64 0] = (do pure (.value (← (do
   let n ← asInt (.int .i64 0)
   if n < 0 then A
   if n > IntKind.i64.max then B
   if n = 0 then pure (.string .empty)
   else C : Sem Value)))) := by
 cases b <;> first
  | (exact absurd hb (by decide))
  | exact ⟨_, _, _, rfl⟩
theorem strEff_run {p : Par} {Γ : Gam} {h h' : Heap} {w : World} (hr : HRel p Γ h w) {b : Builtin} (hb : bNo b = 21) {pt it ty : TypeId} {a n v : Value} (he : strEff p.P pt a n h = some (v, h')) :
  ∃ w', (∀ cs, (builtin b #[pt, it] ty cs #[con Γ a, con Γ n]).run p.P w = .ok (.value (con Γ v)) w') ∧ h'.next = h.next ∧ HRel p Γ h' w' ∧ Fr p Γ h w w' ∧ sc h'.next v = true := by
 have hmax : IntKind.i64.max = 9223372036854775807 := rfl
 unfold strEff at he
 split at he
 ·rename_i q n
  split at he
  ·cases he
   refine ⟨w, fun cs => ?_, rfl, hr, Fr.refl w, rfl⟩
   cases q with
   | none =>
    obtain ⟨A, B, C, hq⟩ := str_none hb pt it ty cs
    show (builtin b #[pt, it] ty cs #[.pointer none, .int .i64 0]).run p.P w = _
    rw [hq]
    simp [asInt, asIntOf, hmax, con]
   | some a =>
    obtain ⟨A, B, C, hq⟩ := str_eq hb pt it ty cs (conA Γ a) 0
    show (builtin b #[pt, it] ty cs #[.pointer (some (conA Γ a)), .int .i64 0]).run p.P w = _
    rw [hq]
    simp [asInt, asIntOf, hmax, con]
  ·rename_i n
   split at he
   ·rename_i g
    split at he
    ·cases he
    rename_i hd hdet
    obtain ⟨hr, n1, l1, k1⟩ := detach_spec hdet hr
    split at he
    ·rename_i e cs0 e' m hp hc hlo
     split at he
     ·rename_i l hbb hl
      split at he <;> cases he
      rename_i bs hbs
      simp only [Bool.and_eq_true, Nat.beq_eq, Nat.blt_eq] at hbb
      obtain ⟨⟨rfl, hce⟩, hnU⟩ := hbb
      simp only [Nat.ble_eq] at hlo
      obtain ⟨fr0, hg⟩ := cells_get hc
      have hG : p.G ≤ g := by rw [← hr.lo]; exact hlo
      obtain ⟨hlt, rest, fr, hrow⟩ := hr.row hc hG
      have hl2 := bytesEx_eq hbs
      obtain ⟨h1, h2, h3⟩ := takeN_get hl
      have hlen : bs.length = n + 1 := by rw [← h1, hl2, List.length_map]
      have hU := U_le
      have hcell : ∀ j x, bs[j]? = some x → w.cell? ((⟨Γ.b g, 0, none⟩ : Addr).add j) = some (.int .u8 x.toNat) := fun j x hx => by
       rw [addr_add, Nat.zero_add]
       have := h3 j (.int .u8 x.toNat) (by rw [hl2, List.getElem?_map, hx]; rfl)
       rw [Nat.zero_add] at this
       exact (hr.cell hc this (.inl hG)).2.2
      have hsh : w.shape? (Γ.b g) = some (e, (cs0.map (con Γ) ++ rest).length) := by simp [World.shape?, hrow.heap]
      have hlb := Lib.run_loadBytes (P := p.P) w bs ⟨Γ.b g, 0, none⟩ .empty hcell
      have hlies := Lib.liesAt_bytes (P := p.P) hce ((cs0.map (con Γ) ++ rest).length / p.P.cellsOf e) bs.length (by rw [hce]; simp; omega)
      generalize (cs0.map (con Γ) ++ rest).length = LL at hsh hlies
      obtain ⟨o, ho⟩ := freeze_wset (n := bs.length) hrow.heap (by omega)
      have hput := hr.put (x' := ⟨.number ⟨0, 0, none⟩ false, false⟩) (o := o) hg rfl hlo (OR_not rfl) (k1 _ hg) rfl
      refine ⟨_, fun cs => ?_, n1, hput.1, ⟨hput.2.below⟩, rfl⟩
      obtain ⟨A, B, C, hq⟩ := str_eq hb pt it ty cs ⟨Γ.b g, 0, none⟩ (bs.length : Int)
      have hq2 : (builtin b #[pt, it] ty cs #[.pointer (some ⟨Γ.b g, 0, none⟩), .int .i64 (bs.length : Int)]).run p.P w = .ok (.value (.string ⟨bs.toArray⟩)) (w.freeze ⟨Γ.b g, 0, none⟩ bs.length) := by
       rw [hq]
       have h63' : ¬ (9223372036854775807 : Int) < (bs.length : Int) := by omega
       have hneg : ¬ (bs.length : Int) < 0 := by omega
       have hl0 : bs.length ≠ 0 := by omega
       have hb0 : bs ≠ [] := fun e => hl0 (by rw [e]; rfl)
       simp [asInt, asIntOf, hmax, h63', hneg, hb0, variablesAt, hsh, elemOf, run_under hp, hlies, hlb]
      rw [ho, hlen] at hq2
      exact hq2
     ·cases he
    ·cases he
   ·cases he
 ·cases he
theorem mapEff_run {p : Par} {Γ : Gam} {h h' : Heap} {w : World} (hr : HRel p Γ h w) {tm : VT} {ca : Act} {o : Oper} {v : Value} (hev : ∀ x ∈ o.op.operands, ca.eval x = con Γ (ev tm x))
  (he : mapEff p.P o tm h = some (v, h')) : Out p Γ h ca o w v h' ∧ sc h'.next v = true := by
 unfold mapEff at he
 split at he
 ·rename_i t r ho
  have hnew := mapNew_run hr
  unfold mapNew at he
  have hcv : con (Γ.ext h.next w.heap.size 0) (.map (some h.next)) = .map (some w.heap.size) := by simp [con, Gam.ext_b]
  have hn : (h.new ⟨.map ⟨[]⟩ 0, false⟩).2.next = h.next + 1 := by rw [Heap.new_eq]
  split at he
  ·rename_i hu hre
   cases he
   refine ⟨⟨_, _, _, ?_, .inl rfl, Γ.ext_ag _ _ _, by rw [hn]; omega, hnew.1, hnew.2⟩, by rw [hn]; simp [sc]⟩
   cases r with
   | some x => cases hre
   | none =>
    rw [hcv]
    simp [execOp, ho, Instr.makeMap]
  ·cases he
 ·rename_i t m k x ho
  obtain ⟨rfl, h1, w', h2, h3, h4⟩ := mapSet_run hr he
  refine ⟨⟨Γ, w', .skip, ?_, .inr ⟨rfl, rfl⟩, Ag.refl _ _, by omega, h3, h4⟩, rfl⟩
  simp only [execOp, ho, hev m (by simp [ho, Op.operands]), hev k (by simp [ho, Op.operands]), hev x (by simp [ho, Op.operands]), Sem.run_bind, h2, Result.andThen_ok, Sem.run_pure]
 ·rename_i t m k x ho
  obtain ⟨rfl, h1, w', h2, h3, h4⟩ := mapSet_run hr he
  refine ⟨⟨Γ, w', .skip, ?_, .inr ⟨rfl, rfl⟩, Ag.refl _ _, by omega, h3, h4⟩, rfl⟩
  simp only [execOp, ho, hev m (by simp [ho, Op.operands]), hev k (by simp [ho, Op.operands]), hev x (by simp [ho, Op.operands]), Sem.run_bind, h2, Result.andThen_ok, Sem.run_pure]
 ·rename_i args ats ho
  split at he
  ·rename_i m k t ts hA hT
   have hT' : ats = ⟨t :: ts⟩ := Array.ext' hT
   have hA' : args = #[m, k] := Array.ext' hA
   subst hT' hA'
   have hm := hev m (by simp [ho, Op.operands, Call.operands])
   have hk := hev k (by simp [ho, Op.operands, Call.operands])
   obtain ⟨rfl, h1, w', h2, h3, h4⟩ := mapDel_run (ty := o.type) (ts := ts) hr he
   refine ⟨⟨Γ, w', _, ?_, .inl rfl, Ag.refl _ _, by omega, h3, h4⟩, by simp [sc, scL]⟩
   simp [execOp, ho, resolve, invoke, builtin, hm, hk, h2, con, conL]
  ·cases he
 ·rename_i args ats ho
  split at he
  ·rename_i m t hA hT
   have hT' : ats = #[t] := Array.ext' hT
   have hA' : args = #[m] := Array.ext' hA
   subst hT' hA'
   have hm := hev m (by simp [ho, Op.operands, Call.operands])
   obtain ⟨rfl, h1, w', h2, h3, h4⟩ := mapClr_run (ty := o.type) hr he
   refine ⟨⟨Γ, w', _, ?_, .inl rfl, Ag.refl _ _, by omega, h3, h4⟩, by simp [sc, scL]⟩
   simp [execOp, ho, resolve, invoke, builtin, hm, h2, con, conL]
  ·cases he
 ·rename_i it ho
  obtain ⟨h0, h1, w', h2, h3, h4⟩ := mapNext_run (ty := o.type) hr he
  refine ⟨⟨Γ, w', _, ?_, .inl rfl, Ag.refl _ _, by omega, h3, h4⟩, h0⟩
  simp only [execOp, ho, hev it (by simp [ho, Op.operands]), Sem.run_bind, h2, Result.andThen_ok, Sem.run_pure]
 ·rename_i b args ats _ _ ho
  split at he
  ·rename_i pt it x n hb hT hA
   have hT' : ats = #[pt, it] := Array.ext' hT
   have hA' : args = #[x, n] := Array.ext' hA
   subst hT' hA'
   have hs := hev x (by simp [ho, Op.operands, Call.operands])
   have hx := hev n (by simp [ho, Op.operands, Call.operands])
   obtain ⟨w', h1, h2, h3, h4, h5⟩ := strEff_run (it := it) (ty := o.type) hr hb he
   refine ⟨⟨Γ, w', _, ?_, .inl rfl, Ag.refl _ _, by rw [h2]; exact Nat.le_refl _, h3, h4⟩, h5⟩
   simp [execOp, ho, resolve, invoke, hs, hx, h1]
  ·cases he
 ·cases he
theorem evEff_run {p : Par} {Γ : Gam} {h h' : Heap} {w : World} (hr : HRel p Γ h w) {tm : VT} {ca : Act} {o : Oper} {v : Value} (ht : Tm Γ p.NG tm ca)
  (hop : o.op.operands.all (okOpd p.NG) = true) (he : evEff p.P o tm h = some (v, h')) : Out p Γ h ca o w v h' := by
 have hev : ∀ x ∈ o.op.operands, ca.eval x = con Γ (ev tm x) := fun x hx => ht.eval (by
  rw [Array.all_eq_true_iff_forall_mem] at hop; exact hop x hx)
 unfold evEff at he
 split at he
 ·-- alloc
  rename_i e ho
  split at he
  ·rename_i z hz
   split at he
   ·rename_i hzf
    split at he <;> cases he
    rename_i b h'' hmk
    obtain ⟨h1, h2, h3, h4, h5⟩ := mkRow_run hr hmk [] 0 (0, 0) (.inr rfl) (fun _ => rfl) (fun hm => by cases hm)
    subst h1
    refine ⟨_, _, _, ?_, .inl rfl, h3, by omega, h4, h5⟩
    have hzi : (zeroValue e).run p.P w = .ok z w := by
     unfold zeroOf at hz
     split at hz
     ·rename_i i hi; simp [zeroValue, typeInfo, hi, hz]
     ·cases hz
    have hc : (⟨z.cells.toList.map (con Γ) ++ []⟩ : Array Value) = z.cells := by
     apply Array.ext'; rw [List.append_nil, conL_cells Γ hzf]
    rw [con_ptr_ext, hc]
    simp only [execOp, ho, Instr.alloc, Sem.run_bind, hzi, Result.andThen_ok, newVar, newRow, run_newObj, Sem.run_pure, World.alloc_eq]
   ·cases he
  ·cases he
 ·-- box
  rename_i e x ho
  have hx := hev x (by simp [ho, Op.operands])
  split at he <;> cases he
  rename_i b h'' hmk
  obtain ⟨h1, h2, h3, h4, h5⟩ := mkRow_run hr hmk [] 0 (0, 0) (.inr rfl) (fun _ => rfl) (fun hm => by cases hm)
  subst h1
  refine ⟨_, _, _, ?_, .inl rfl, h3, by omega, h4, h5⟩
  have hc : (⟨(ev tm x).cells.toList.map (con Γ) ++ []⟩ : Array Value) = (con Γ (ev tm x)).cells := by
   apply Array.ext'; rw [List.append_nil, con_cells]; simp
  rw [con_ptr_ext, hc]
  simp only [execOp, ho, hx, Instr.box, Sem.run_bind, Result.andThen_ok, newVar, newRow, run_newObj, Sem.run_pure, World.alloc_eq]
 ·-- buildSlice
  rename_i t len parts ho
  split at he
  ·rename_i e hs
   split at he
   ·rename_i i hi
    split at he
    ·rename_i z hb hz
     simp only [Nat.ble_eq] at hb
     split at he
     ·rename_i hzz
      simp only [Bool.and_eq_true, Nat.beq_eq, Nat.blt_eq] at hzz
      obtain ⟨⟨hz1, hz2⟩, hzf⟩ := hzz
      split at he
      ·rename_i cs hcs
       split at he <;> cases he
       rename_i b h'' hmk
       obtain ⟨h1, h2, h3, h4, h5⟩ := mkRow_run hr hmk [] 0 (0, 0) (.inr rfl) (fun _ => rfl) (fun hm => by cases hm)
       subst h1
       refine ⟨_, _, _, ?_, .inl rfl, h3, by omega, h4, h5⟩
       have hzm : z.cells.toList.map (con Γ) = z.cells.toList := by rw [← conL_map]; exact conL_flat Γ _ hzf
       have hfill := fillL_run Γ _ _ _ _ hcs
       rw [map_flatten_flat Γ hzm] at hfill
       have hparts : (parts.map fun (x : Nat × Operand) => (x.1, ca.eval x.2)).toList = (parts.toList.map fun (x : Nat × Operand) => (x.1, ev tm x.2)).map fun x => (x.1, con Γ x.2) := by
        simp only [Array.toList_map, List.map_map]
        apply List.map_congr_left
        intro y hy
        simp only [Function.comp]
        rw [hev y.2 (by
         simp only [ho, Op.operands]
         simp only [List.mem_toArray, List.mem_map]
         exact ⟨y, hy, rfl⟩)]
       have hU := U_le
       have hb' : ¬ (len * i.size > 2 ^ 24) := by
        have : (2 : Nat) ^ 24 = 16777216 := by decide
        omega
       have hrow := rep_cells z.cells len
       rw [hz1] at hrow
       have hz0 : (zeroValue e).run p.P w = .ok z w := by simp [zeroValue, typeInfo, hi, hz]
       have hlen0 : len ≤ 16777216 := by
        have : len * 1 ≤ len * i.size := Nat.mul_le_mul_left _ hz2
        omega
       have hlenU : len < UC := by
        have : (16777216 : Nat) < UC := by unfold UC; decide
        omega
       have hcv : con (Γ.ext h.next w.heap.size 0) (.slice (some ⟨h.next, 0, none⟩) len len) = .slice (some ⟨w.heap.size, 0, none⟩) len len := by
        simp only [con, jC, conCap, Gam.ext_b, if_pos hlenU]
       rw [hcv]
       simp only [execOp, ho, Instr.buildSlice, Sem.run_bind, run_under hs, Result.andThen_ok, sizeOf, typeInfo, run_program, hi, Sem.run_pure, if_neg hb']
       rw [show (parts.map fun (i, x) => (i, ca.eval x)).toList = (parts.map fun (x : Nat × Operand) => (x.1, ca.eval x.2)).toList from rfl, hparts]
       rw [show (parts.toList.map fun (x : Nat × Operand) => (x.1, ev tm x.2)) = (parts.toList.map fun (i, x) => (i, ev tm x)) from rfl]
       by_cases hl0 : len * i.size = 0
       ·have hlen : len = 0 := by
         rcases Nat.mul_eq_zero.1 hl0 with h0 | h0
         ·exact h0
         ·omega
        subst hlen
        simp only [Nat.zero_mul, if_true, Sem.run_bind, Sem.run_pure, Result.andThen_ok] at hfill ⊢
        have hemp : ((Array.range 0).map fun (x : Nat) => (#[] : Array Value)[x % (#[] : Array Value).size]!) = ⟨[]⟩ := by simp
        simp only [List.replicate_zero, List.flatten_nil] at hfill
        rw [hemp, hfill]
        simp [newRow]
       ·simp only [if_neg hl0, Sem.run_bind, hz0, Result.andThen_ok, Sem.run_pure]
        have harr : ((Array.range (len * i.size)).map fun (x : Nat) => z.cells[x % z.cells.size]!) = ⟨(List.replicate len z.cells.toList).flatten⟩ := by
         apply Array.ext'
         rw [hz1]
         exact hrow
        rw [harr, hfill]
        simp [newRow]
      ·cases he
     ·cases he
    ·cases he
   ·cases he
  ·cases he
 ·-- store
  rename_i t a x ho
  have ha := hev a (by simp [ho, Op.operands])
  have hx := hev x (by simp [ho, Op.operands])
  split at he <;> cases he
  rename_i h2 hst
  obtain ⟨w', h3, h4, h5, h6⟩ := evStore_run hr hst
  refine ⟨Γ, w', .skip, ?_, .inr ⟨rfl, rfl⟩, Ag.refl _ _, by omega, h5, h6⟩
  simp only [execOp, ho, ha, hx, Sem.run_bind, h3, Result.andThen_ok, Sem.run_pure]
 ·-- makeSlice
  rename_i t l c ho
  have hl := hev l (by simp [ho, Op.operands])
  have hc := hev c (by simp [ho, Op.operands])
  obtain ⟨Γ', w', h1, h2, h3, h4, h5⟩ := evMake_run hr he
  refine ⟨Γ', w', _, ?_, .inl rfl, h2, h3, h4, h5⟩
  simp only [execOp, ho, hl, hc, Sem.run_bind, h1, Result.andThen_ok, Sem.run_pure]
 ·-- append
  rename_i args argTypes ho
  split at he
  ·rename_i sT xT s x hT hA
   have hT' : argTypes = #[sT, xT] := Array.ext' hT
   have hA' : args = #[s, x] := Array.ext' hA
   subst hT' hA'
   have hs := hev s (by simp [ho, Op.operands, Call.operands])
   have hx := hev x (by simp [ho, Op.operands, Call.operands])
   obtain ⟨Γ', w', h1, h2, h3, h4, h5⟩ := evAppend_run (ty := o.type) hr he
   refine ⟨Γ', w', _, ?_, .inl rfl, h2, h3, h4, h5⟩
   simp [execOp, ho, resolve, invoke, builtin, hs, hx, h1]
  ·cases he
 ·-- range
  rename_i t x ho
  have hx := hev x (by simp [ho, Op.operands])
  split at he
  ·rename_i s hu hxe
   rw [Heap.new_eq] at he
   cases he
   have hnew := hr.new (x := ⟨.stringIter s 0, false⟩) (o := .stringIter s 0) (k := 0) (by
    simp only [OR]; rw [Gam.ext_b]; exact heap_alloc_new w _)
   rw [Heap.new_eq] at hnew
   refine ⟨_, _, _, ?_, .inl rfl, Γ.ext_ag _ _ _, Nat.le_succ _, hnew.1, hnew.2⟩
   rw [con_ptr_ext]
   simp [execOp, ho, hx, hxe, con, Instr.range, run_under hu]
  ·rename_i hu
   exact (mapRange_run hr ho hx hu he).1
  ·cases he
 ·-- next
  rename_i it ho
  have hx := hev it (by simp [ho, Op.operands])
  split at he
  ·rename_i b hxe
   split at he
   ·rename_i s pos hg hlo
    simp only [Nat.ble_eq] at hlo
    have hO := (hr.obj b _ hg).2
    simp only [OR] at hO
    have hlt := (Array.getElem?_eq_some_iff.1 hO).1
    split at he
    ·rename_i hps
     simp only [Nat.blt_eq] at hps
     cases he
     have hput := hr.put (x' := ⟨.stringIter s (pos + (Utf8.decode s pos).2), false⟩) (o := .stringIter s (pos + (Utf8.decode s pos).2)) hg rfl hlo (hl := rfl) (hl' := rfl) (by
      simp only [OR]
      rw [wset_heap _ _ _ hlt]; simp)
     refine ⟨Γ, _, _, ?_, .inl rfl, Ag.refl _ _, Nat.le_refl _, hput.1, hput.2⟩
     simp [execOp, ho, hx, hxe, con, conA, Instr.next, getObj, setObj, Sem.run, hO, hps, goInt, conL, wset]
    ·rename_i hps
     have hps' : ¬ pos < s.size := by
      intro hlt2
      have : Nat.blt pos s.size = true := by simpa using hlt2
      rw [this] at hps; cases hps
     cases he
     refine ⟨Γ, w, _, ?_, .inl rfl, Ag.refl _ _, Nat.le_refl _, hr, Fr.refl w⟩
     simp [execOp, ho, hx, hxe, con, conA, Instr.next, getObj, Sem.run, hO, hps', conL]
   ·cases he
  ·cases he
 ·-- convert
  rename_i s d x ho
  have hx := hev x (by simp [ho, Op.operands])
  split at he
  ·rename_i e bs hs hd hxe
   split at he
   ·rename_i hu8 hsz
    split at he
    ·rename_i hbU
     simp only [Nat.blt_eq] at hbU
     split at he <;> cases he
     rename_i g h'' hmk
     obtain ⟨ti, hti, hts⟩ : ∃ ti, p.P.info? e = some ti ∧ ti.size = 1 := by
      unfold szT at hsz
      split at hsz
      ·rename_i i hi; exact ⟨i, hi, by simpa using hsz⟩
      ·cases hsz
     have hge := grownCap_ge w bs.size 0 e
     have hbl : bs.data.toList.length = bs.size := Array.length_toList
     obtain ⟨h1, h2, h3, h4, h5⟩ := mkRow_run (hr.of_heap (w' := w.drew) rfl) hmk (List.replicate (grownCap w bs.size 0 e - bs.size) (.int .u8 0)) (grownCap w bs.size 0 e)
      (grownCap w bs.size 0 e, grownCap w bs.size 0 e + 1) (.inl (by simp [hbl]; omega)) (fun hm => by cases hm) (fun _ => ⟨ti, hti, by simp [hbl, hts]; omega⟩)
     subst h1
     refine ⟨_, _, _, ?_, .inl rfl, h3, by omega, h4, ⟨(jN.refl p.B w).drew.trans h5.below⟩⟩
     have hmapc : (bs.data.toList.map fun x => Value.int .u8 (x.toNat : Int)).map (con Γ) = bs.data.toList.map fun x => Value.int .u8 (x.toNat : Int) := by
      rw [List.map_map]; exact List.map_congr_left fun _ _ => rfl
     have hcv : con (Γ.ext h.next w.drew.heap.size (grownCap w bs.size 0 e)) (.slice (some ⟨h.next, 0, none⟩) bs.size UC) = .slice (some ⟨w.heap.size, 0, none⟩) bs.size (grownCap w bs.size 0 e) := by
      simp only [con, jC, conCap, Gam.ext_b, Gam.ext_k, Nat.lt_irrefl, if_false, Nat.sub_self, Nat.sub_zero]
      rfl
     rw [hcv, hmapc]
     obtain ⟨C, hC⟩ : ∃ C : List Value, C = (bs.data.toList.map fun x => Value.int .u8 (x.toNat : Int)) ++ List.replicate (grownCap w bs.size 0 e - bs.size) (.int .u8 0) := ⟨_, rfl⟩
     have hCl : C.length = grownCap w bs.size 0 e := by rw [hC]; simp [hbl]; omega
     have harr : ((bs.data.map fun b => Value.int .u8 (b.toNat : Int)) ++ Array.replicate (grownCap w bs.size 0 e - bs.size) (.int .u8 0) : Array Value) = ⟨C⟩ := by
      apply Array.ext'; rw [hC]; simp
     rw [← hC]
     have hsh : (w.drew.alloc (.cells ⟨C⟩ e)).shape? w.heap.size = some (e, C.length) := by
      have : (w.drew.alloc (.cells ⟨C⟩ e)).heap[w.heap.size]? = some (.cells ⟨C⟩ e (0, 0)) := heap_alloc_new w.drew _
      unfold World.shape?; rw [this]; rfl
     have hfz : (w.drew.alloc (.cells ⟨C⟩ e)).freeze ⟨w.heap.size, C.length, none⟩ 1 = w.drew.alloc (.cells ⟨C⟩ e (grownCap w bs.size 0 e, grownCap w bs.size 0 e + 1)) := by
      simp only [World.freeze, World.alloc]
      rw [if_neg (by decide)]
      congr 1
      apply Array.ext_getElem?
      intro j
      rw [Array.getElem?_modify]
      by_cases ej : w.heap.size = j
      ·subst ej
       have e0 : (w.drew.heap.push (Obj.cells ⟨C⟩ e))[w.heap.size]? = some (.cells ⟨C⟩ e (0, 0)) := by
        rw [Array.getElem?_push]; simp
       have e1 : (w.drew.heap.push (Obj.cells ⟨C⟩ e (grownCap w bs.size 0 e, grownCap w bs.size 0 e + 1)))[w.heap.size]? = some (.cells ⟨C⟩ e (grownCap w bs.size 0 e, grownCap w bs.size 0 e + 1)) := by
        rw [Array.getElem?_push]; simp
       rw [if_pos rfl, e0, e1]
       simp [hCl]
      ·rw [if_neg ej, Array.getElem?_push, Array.getElem?_push]
       simp [Ne.symm ej]
     simp only [execOp, ho, hx, hxe, con, convert, Sem.run_bind, run_under hs, run_under hd, run_under hu8, Result.andThen_ok, Conv.stringToBytes, run_choose, Question.forced, Bool.false_eq_true, if_false, newRow,
      run_newObj, World.alloc_eq, Sem.run_pure, markStringish, run_shape, World.drew_eq]
     rw [show (Question.appendCap bs.size 0 e).cut (w.tape w.drawn (.appendCap bs.size 0 e)) = grownCap w bs.size 0 e from rfl, harr]
     simp only [World.size_drew, hsh, run_freeze, Result.andThen_ok, hfz]
    ·cases he
   ·cases he
  ·rename_i e0 e g off n c hs hd hxe
   unfold markEff at he
   split at he
   ·rename_i hu8 hsd hlo hgx
    cases he
    obtain ⟨w', h1, h2, h3⟩ := mark_run hr (off := off) (spot := none) hgx (by simp only [Bool.and_eq_true, Nat.ble_eq] at hlo; exact hlo.1) (by simp only [Bool.and_eq_true] at hlo; exact lone_spec hlo.2 hgx)
    have hsd : s = d := by simpa using hsd
    subst hsd
    have hee : e0 = e := by rw [hs] at hd; cases hd; rfl
    subst hee
    refine ⟨Γ, w', _, ?_, .inl rfl, Ag.refl _ _, Nat.le_refl _, h2, h3⟩
    have hcv : con Γ (.slice (some ⟨g, off, none⟩) n c) = .slice (some ⟨Γ.b g, off, none⟩) n (conCap Γ g c) := by simp only [con, jC]
    simp only [execOp, ho, hx, hxe, hcv, convert, Sem.run_bind, run_under hs, run_under hd, run_under hu8, Result.andThen_ok, beq_self_eq_true, h1, Sem.run_pure]
   ·cases he
  ·cases he
 ·exact (mapEff_run hr hev he).1
end Go.Ew
namespace Go.Ew
open Go Go.RowKit
structure FW (F : Fence) : Prop where
 wide : F.plain = Fence.wide
theorem FW.fn {F : Fence} (h : FW F) (f : FuncId) : F.fn f := by
 have : F.plain.fn f := by rw [h.wide]; trivial
 exact this
theorem FW.depth {F : Fence} (h : FW F) : F.depth = none := by
 have : F.plain.depth = none := by rw [h.wide]; rfl
 exact this
section
variable {F : Fence} {n : Nat} {P : Program} {ops : Array Oper} {Q : Exit → Act → World → Prop} {md : Region.Mode}
def opW (F : Fence) (n : Nat) (P : Program) (ops : Array Oper) (Q : Exit → Act → World → Prop) (i : Nat) (K : Act → World → Prop) (a : Act) (w : World) : Prop :=
 match ops[i]? with
 | none => K a w
 | some o => if Region.wanted o (yielded ops a.tmps) then o.uponIn F n P a K Q ((execOp a.eval o).run P w) else K (a.put o.dst undef) w
def noDefer (ops : Array Oper) : Prop := ∀ (j : Nat) (o : Oper) (c : Call), ops[j]? = some o → o.op ≠ .defer c
theorem wpOpIn_of (hF : FW F) (hd : noDefer ops) {i : Nat} {K : Act → World → Prop} {a : Act} {w : World} (h : opW F n P ops Q i K a w) : wpOpIn F n P ops Q i K a w := by
 unfold opW at h
 unfold wpOpIn
 split
 ·rename_i ho; simp only [ho] at h; exact h
 ·rename_i o ho
  simp only [ho] at h
  split
  ·rename_i hw
   simp only [hw, if_true] at h
   refine ⟨fun f _ => hF.fn f, ?_⟩
   rw [Oper.semAt_eq _ _ _ (fun c => hd i o c ho)]
   exact h
  ·rename_i hw
   simp only [hw] at h
   exact ⟨fun f _ => hF.fn f, h⟩
theorem uponIn_mono {o : Oper} {a : Act} {K K' : Act → World → Prop} (h : ∀ a w, K a w → K' a w) {r : Result Next} (hh : o.uponIn F n P a K Q r) : o.uponIn F n P a K' Q r := by
 cases r with
 | ok x w' =>
  cases x <;> simp only [Oper.uponIn] at hh ⊢ <;>
   first
    | exact h _ _ hh
    | exact ⟨hh.1, CallsIn.mono hh.2 (fun e w'' he => by cases e <;> first | exact h _ _ he | exact he)⟩
    | exact ⟨hh.1, RowsIn.mono hh.2 (fun _ _ he => h _ _ he)⟩
    | exact ⟨hh.1, RoundIn.mono hh.2 (fun e w'' he => by cases e <;> first | exact h _ _ he | exact he)⟩
 | halt x w' => cases x <;> simp only [Oper.uponIn] at hh ⊢ <;> exact hh
theorem opW_mono {i : Nat} {a : Act} {w : World} {K K' : Act → World → Prop} (h : ∀ a w, K a w → K' a w) (hh : opW F n P ops Q i K a w) : opW F n P ops Q i K' a w := by
 unfold opW at *
 split
 ·rename_i ho; simp only [ho] at hh; exact h _ _ hh
 ·rename_i o ho
  simp only [ho] at hh
  split
  ·rename_i hw; simp only [hw, if_true] at hh; exact uponIn_mono h hh
  ·rename_i hw; simp only [hw] at hh; exact h _ _ hh
def anyW (F : Fence) (n : Nat) (P : Program) (md : Region.Mode) (ops : Array Oper) (Q : Exit → Act → World → Prop) (S : Nat → World → Prop) : Nat → Array Bool → Act → World → Prop
 | 0, listed, a, w => Region.ready md ops listed = [] ∧ Q .normal a w
 | fuel + 1, listed, a, w =>
  (Region.ready md ops listed = [] → Q .normal a w) ∧
  ∀ i ∈ Region.ready md ops listed, opW F n P ops Q i (fun a' w' => (S i w' ∨ w' = w) ∧ anyW F n P md ops Q S fuel (listed.setIfInBounds i true) a' w') a w
theorem wpAnyIn_of (hF : FW F) (hd : noDefer ops) {S : Nat → World → Prop} : ∀ (fuel : Nat) (listed : Array Bool) (a : Act) (w : World), anyW F n P md ops Q S fuel listed a w → wpAnyIn F n P md ops Q fuel listed a w
 | 0, _, _, _, h => h
 | fuel + 1, _, _, _, h => ⟨h.1, fun i hi => wpOpIn_of hF hd (opW_mono (fun a' w' h' => wpAnyIn_of hF hd fuel _ a' w' h'.2) (h.2 i hi))⟩
theorem anyW_mono {S S' : Nat → World → Prop} (hS : ∀ i w, S i w → S' i w) : ∀ (fuel : Nat) (listed : Array Bool) (a : Act) (w : World), anyW F n P md ops Q S fuel listed a w → anyW F n P md ops Q S' fuel listed a w
 | 0, _, _, _, h => h
 | fuel + 1, _, _, _, h => ⟨h.1, fun i hi => opW_mono (fun a' w' h' => ⟨h'.1.imp (hS _ _) id, anyW_mono hS fuel _ a' w' h'.2⟩) (h.2 i hi)⟩
variable {S : Nat → World → Prop} {T : World → Prop}
theorem YieldsIf.opW {i : Nat} {o : Oper} {v : Value} {a : Act} (hi : ops[i]? = some o) (hy : YieldsIf P ops T o v a)
  {K : Act → World → Prop} {w : World} (hS : T w) (h : K (a.put o.dst v) w) : opW F n P ops Q i K a w := by
 unfold Ew.opW
 simp only [hi]
 rcases hy with ⟨hw, hv⟩ | ⟨hw, rfl⟩
 ·simp only [hw, if_true, hv w hS, Oper.uponIn]; exact h
 ·simp only [hw, Bool.false_eq_true, if_false]; exact h
theorem uponIn_put {oi oj : Oper} {v : Value} {a : Act} {K : Act → World → Prop} (h2 : ∀ d, oi.dst = some d → oj.dst ≠ some d)
  (hk : ∀ u, YieldsIf P ops T oi v (a.put oj.dst u))
  (hQ : ∀ c a w, Q (.panic c) (a.put oi.dst v) w → Q (.panic c) a w) {r : Result Next}
  (h : oj.uponIn F n P (a.put oi.dst v) K Q r) : oj.uponIn F n P a (fun a' w' => YieldsIf P ops T oi v a' ∧ K (a'.put oi.dst v) w') Q r := by
 have hput : ∀ u, (a.put oj.dst u).put oi.dst v = (a.put oi.dst v).put oj.dst u := fun u => (Act.put_comm a v u h2).symm
 cases r with
 | ok x w' =>
  cases x <;> simp only [Oper.uponIn] at h ⊢
  case value u => exact ⟨hk u, by rw [hput]; exact h⟩
  case skip => exact ⟨hk _, by rw [hput]; exact h⟩
  case defer d =>
   refine ⟨(hk undef).of_same ?_ ?_, ?_⟩
   ·cases oj.dst <;> rfl
   ·cases oj.dst <;> rfl
   ·have e : ({ a with defers := d :: a.defers } : Act).put oj.dst undef = { a.put oj.dst undef with defers := d :: (a.put oj.dst undef).defers } := by cases oj.dst <;> rfl
    have e2 : ({ a.put oj.dst undef with defers := d :: (a.put oj.dst undef).defers } : Act).put oi.dst v = { (a.put oj.dst undef).put oi.dst v with defers := d :: ((a.put oj.dst undef).put oi.dst v).defers } := by cases oi.dst <;> rfl
    rw [e, e2, hput]
    have e3 : ({ a.put oi.dst v with defers := d :: (a.put oi.dst v).defers } : Act).put oj.dst undef = { (a.put oi.dst v).put oj.dst undef with defers := d :: ((a.put oi.dst v).put oj.dst undef).defers } := by cases oj.dst <;> rfl
    rw [e3] at h
    exact h
  case enter f args =>
   refine ⟨h.1, CallsIn.mono h.2 fun e w'' he => ?_⟩
   cases e with
   | returned u => exact ⟨hk u, by rw [hput]; exact he⟩
   | panicked c => exact hQ _ _ _ he
   | outgrown => exact he
  case row row args => exact ⟨h.1, RowsIn.mono h.2 fun u w'' he => ⟨hk u, by rw [hput]; exact he⟩⟩
  case round l f tmps as bd =>
   refine ⟨h.1, RoundIn.mono h.2 fun e w'' he => ?_⟩
   cases e with
   | returned u => exact ⟨hk u, by rw [hput]; exact he⟩
   | panicked c => exact hQ _ _ _ he
   | outgrown => exact he
 | halt x w' =>
  cases x <;> simp only [Oper.uponIn] at h ⊢
  exact hQ _ _ _ h
theorem opW_put {j : Nat} {oi oj : Oper} {v : Value} (hj : ops[j]? = some oj) (hap : oi.apart ops oj = true)
  (hsi : ∀ cs b, oi.op ≠ .select cs b) (hsj : ∀ cs b, oj.op ≠ .select cs b)
  (hQ : ∀ c a w, Q (.panic c) (a.put oi.dst v) w → Q (.panic c) a w) {K : Act → World → Prop} {a : Act} {w : World}
  (hy : YieldsIf P ops T oi v a) (h : opW F n P ops Q j K (a.put oi.dst v) w) :
  opW F n P ops Q j (fun a' w' => YieldsIf P ops T oi v a' ∧ K (a'.put oi.dst v) w') a w := by
 obtain ⟨h1, h2, h3⟩ := Oper.apart_spec hap
 have keep : ∀ u, YieldsIf P ops T oi v (a.put oj.dst u) := fun u =>
  hy.of_same (execOp_put oi hsi a oj.dst u h3) (wanted_put oi a oj.dst u h3)
 unfold opW at *
 simp only [hj] at *
 rw [wanted_put oj a oi.dst v h1] at h
 split
 ·rename_i hw
  simp only [hw, if_true] at h
  rw [execOp_put oj hsj a oi.dst v h1] at h
  exact uponIn_put h2 keep hQ h
 ·rename_i hw
  simp only [hw] at h
  exact ⟨keep _, by rw [← Act.put_comm a v undef h2]; exact h⟩
theorem anyW_first {i : Nat} {oi : Oper} {v : Value} (hi : ops[i]? = some oi) (hsel : ∀ (j : Nat) (o : Oper) cs b, ops[j]? = some o → o.op ≠ .select cs b)
  (hQ : ∀ c a w, Q (.panic c) (a.put oi.dst v) w → Q (.panic c) a w)
  (hST : ∀ j oj w, ops[j]? = some oj → (∀ e ∈ oj.after, Region.binds md e = true → e.on ≠ i) → S j w → T w) :
  ∀ (fuel : Nat) (listed : Array Bool) (a : Act) (w : World),
  (∀ j oj, ops[j]? = some oj → j ≠ i → listed.getD j true = false → (∀ e ∈ oj.after, Region.binds md e = true → e.on ≠ i) → oi.apart ops oj = true) →
  i ∈ Region.ready md ops listed → YieldsIf P ops T oi v a → T w →
  anyW F n P md ops Q S fuel (listed.setIfInBounds i true) (a.put oi.dst v) w → anyW F n P md ops Q S (fuel + 1) listed a w := by
 intro fuel
 induction fuel with
 | zero =>
  intro listed a w _ hr hy hT H
  refine ⟨fun h => (by rw [h] at hr; cases hr), fun j hj => ?_⟩
  by_cases hji : j = i
  ·subst hji; exact Ew.YieldsIf.opW hi hy hT ⟨.inr rfl, H⟩
  ·have := ready_mono hj hji
   rw [H.1] at this
   cases this
 | succ fuel ih =>
  intro listed a w hfree hr hy hT H
  refine ⟨fun h => (by rw [h] at hr; cases hr), fun j hj => ?_⟩
  by_cases hji : j = i
  ·subst hji; exact Ew.YieldsIf.opW hi hy hT ⟨.inr rfl, H⟩
  ·have h1 := H.2 j (ready_mono hj hji)
   obtain ⟨hjun, oj, hoj, hall⟩ := mem_ready.1 hj
   have hnot : ∀ e ∈ oj.after, Region.binds md e = true → e.on ≠ i := fun e he hb heq => by
    have h1 := hall e he hb
    have h0 := (mem_ready.1 hr).1
    rw [heq] at h1
    rcases Nat.lt_or_ge i listed.size with h' | h'
    ·simp [h'] at h0 h1; rw [h0] at h1; cases h1
    ·simp [Array.getElem?_eq_none h'] at h1
   have h2 := opW_put hoj (hfree j oj hoj hji hjun hnot) (fun cs b => hsel i oi cs b hi) (fun cs b => hsel j oj cs b hoj) hQ hy h1
   have hfree' : ∀ k ok, ops[k]? = some ok → k ≠ i → (listed.setIfInBounds j true).getD k true = false →
     (∀ e ∈ ok.after, Region.binds md e = true → e.on ≠ i) → oi.apart ops ok = true := fun k ok hk hki hun hno => by
    refine hfree k ok hk hki ?_ hno
    by_cases hjk : j = k
    ·subst hjk; exact hjun
    ·rw [getD_set_ne true hjk] at hun; exact hun
   refine opW_mono (fun a' w' h3 => ⟨h3.2.1, ih (listed.setIfInBounds j true) a' w' hfree' (ready_mono hr (Ne.symm hji)) h3.1 ?_ ?_⟩) h2
   ·rcases h3.2.1 with hS | rfl
    ·exact hST j oj w' hoj hnot hS
    ·exact hT
   ·rw [Array.setIfInBounds_comm _ _ hji]
    exact h3.2.2
theorem qK {i : Nat} {oi : Oper} {v : Value} {fuel : Nat} {listed : Array Bool} {a : Act} {w : World} (hi : ops[i]? = some oi)
  (hs : Region.noSelect ops = true) (hf : Region.free md ops listed i = true) (hr : i ∈ Region.ready md ops listed)
  (hQ : ∀ c a w, Q (.panic c) (a.put oi.dst v) w → Q (.panic c) a w) (hST : ∀ j oj w, ops[j]? = some oj → (∀ e ∈ oj.after, Region.binds md e = true → e.on ≠ i) → S j w → T w)
  (hy : YieldsIf P ops T oi v a) (hT : T w)
  (h : anyW F n P md ops Q S fuel (listed.setIfInBounds i true) (a.put oi.dst v) w) : anyW F n P md ops Q S (fuel + 1) listed a w :=
 anyW_first hi (Region.noSelect_spec hs) hQ hST fuel listed a w (Region.free_spec hi hf) hr hy hT h
theorem wpIn_region_anyW {id : Nat} {a : Act} {w : World} (hF : FW F) (hd : noDefer ops) (hm : P.follows .mixedOrders = true)
  (h : anyW F n P .any ops Q S ops.size (Array.replicate ops.size false) a { w with drawn := w.drawn + 1 }) : (Code.region id ops true).wpIn F n P Q a w :=
 wpIn_region_any hm (wpAnyIn_of hF hd _ _ _ _ h)
end
end Go.Ew
namespace Go.Ew
open Go Go.RowKit
mutual
theorem beqV_eq : ∀ (a b : Value), beqV a b = true → a = b
 | .bool a, b, h => by cases b <;> simp [beqV] at h; rename_i c; cases a <;> cases c <;> simp_all
 | .int k a, b, h => by cases b <;> simp [beqV] at h; simp [h]
 | .float k a, b, h => by cases b <;> simp [beqV] at h; simp [h]
 | .complex _ _ _, b, h => by cases b <;> simp [beqV] at h
 | .string a, b, h => by
  cases b <;> simp [beqV] at h
  rename_i c
  rw [beqB_eq] at h
  have : a.data.toList = c.data.toList := by simpa using h
  have h2 : a.data = c.data := Array.ext' this
  cases a; cases c; simp_all
 | .pointer a, b, h => by cases b <;> simp [beqV] at h; simp [h]
 | .slice a n c, b, h => by cases b <;> simp [beqV] at h; simp [h]
 | .map a, b, h => by cases b <;> simp [beqV] at h; simp [h]
 | .chan _, b, h => by cases b <;> simp [beqV] at h
 | .func f ⟨xs⟩ ⟨ys⟩, b, h => by
  cases b with
  | func g zs us =>
   obtain ⟨zs⟩ := zs; obtain ⟨us⟩ := us
   simp only [beqV, Bool.and_eq_true, decide_eq_true_eq] at h
   rw [h.1.1, beqL_eq xs zs h.1.2, beqL_eq ys us h.2]
  | _ => simp [beqV] at h
 | .nilFunc, b, h => by cases b <;> simp [beqV] at h; rfl
 | .nilIface, b, h => by cases b <;> simp [beqV] at h; rfl
 | .iface t v, b, h => by
  cases b with
  | iface u w =>
   simp only [beqV, Bool.and_eq_true, Nat.beq_eq] at h
   rw [h.1, beqV_eq v w h.2]
  | _ => simp [beqV] at h
 | .agg ⟨xs⟩, b, h => by
  cases b with
  | agg zs => obtain ⟨zs⟩ := zs; simp only [beqV] at h; rw [beqL_eq xs zs h]
  | _ => simp [beqV] at h
 | .tuple ⟨xs⟩, b, h => by
  cases b with
  | tuple zs => obtain ⟨zs⟩ := zs; simp only [beqV] at h; rw [beqL_eq xs zs h]
  | _ => simp [beqV] at h
theorem beqL_eq : ∀ (a b : List Value), beqL a b = true → a = b
 | [], b, h => by cases b <;> simp [beqL] at h; rfl
 | x :: xs, b, h => by
  cases b with
  | nil => simp [beqL] at h
  | cons y ys =>
   simp only [beqL, Bool.and_eq_true] at h
   rw [beqV_eq x y h.1, beqL_eq xs ys h.2]
end
def CallW (p : Par) (g : FuncId) (args : List Value) (h : Heap) (R : Value → Heap → Prop) : Prop :=
 ∀ (Γ : Gam) (w : World), HRel p Γ h w → (∀ x ∈ args, sc h.next x = true) → ∀ (o : Oper) (F : Fence), FW F → ∀ (n : Nat) (a : Act) (K : Act → World → Prop) (Q : Exit → Act → World → Prop),
  (∀ (v : Value) (h' : Heap) (Γ' : Gam) (w' : World), R v h' → Ag Γ Γ' h.next → h.next ≤ h'.next → jN p.B w w' → HRel p Γ' h' w' → sc h'.next v = true → K (a.put o.dst (con Γ' v)) w') →
  o.uponIn F n p.P a K Q ((callFunc g ⟨args.map (con Γ)⟩).run p.P w)
structure Ok (p : Par) (X : Ext) : Prop where
 funcs : ∀ (g : Nat) (fn : Func), p.P.funcs[g]? = some fn → okFunc p.NG fn = true
 mixed : p.P.follows .mixedOrders = true
 ext : ∀ (g : Nat) (args : List Value) (h : Heap) (v : Value) (h' : Heap), X g args h = some (v, h') → CallW p g args h fun v' h'' => v' = v ∧ h'' = h'
def marks (Γ : Gam) (l : List Nat) : List Deferred := l.map fun d => { target := .collected (Γ.b d), args := #[] }
theorem marks_ag {Γ Γ' : Gam} {n : Nat} (hg : Ag Γ Γ' n) {l : List Nat} (h : ∀ d ∈ l, d < n) : marks Γ' l = marks Γ l :=
 List.map_congr_left fun d hd => by rw [hg.b d (h d hd)]
structure St (p : Par) (Γ : Gam) (s : S) (ca : Act) (w : World) : Prop where
 tm : Tm Γ p.NG s.tm ca
 sc : ∀ v ∈ s.tm.arr.toList, sc s.h.next v = true
 df : ca.defers = marks Γ s.df ∧ ∀ d ∈ s.df, d < s.h.next
 hr : HRel p Γ s.h w
def XExit.con : XExit → Exit
 | .normal => .normal
 | .exit id => .exit id
 | .goto l => .goto l
 | .ret => .ret
def start : Code → List Item
 | .loop b => [.code b, .inLoop b]
 | c => [.code c]
def codeW (F : Fence) (n : Nat) (P : Program) (c : Code) (Q : Exit → Act → World → Prop) (a : Act) (w : World) : Prop :=
 ∀ (b : Frame) (k : List Item) (cs : List Frame), b.roundOf = F.round → F.fn b.fn → F.room (cs.length + 1 + n) →
  ∃ e a' w', Q e a' w' ∧ ArrivesIn (Machine.fenced P F) P (lone (b.atR a (start c ++ k)) cs w) b k cs e a' w'
theorem codeW_wp {F : Fence} {n : Nat} {P : Program} {c : Code} {Q : Exit → Act → World → Prop} {a : Act} {w : World} (h : codeW F n P c Q a w) : c.wpIn F n P Q a w := by
 intro b k cs hro hb hr
 obtain ⟨e, a', w', hq, harr⟩ := h b k cs hro hb hr
 refine ⟨e, a', w', hq, ?_⟩
 cases c with
 | loop c => exact .of_steps (.one (fenced_calm hb hr rfl) stepR_loop) harr
 | _ => exact harr
theorem codeW_of {F : Fence} {n : Nat} {P : Program} {c : Code} {Q : Exit → Act → World → Prop} {a : Act} {w : World} (hc : ∀ b, c ≠ .loop b) (h : c.wpIn F n P Q a w) : codeW F n P c Q a w := by
 intro b k cs hro hb hr
 obtain ⟨e, a', w', hq, harr⟩ := h b k cs hro hb hr
 refine ⟨e, a', w', hq, ?_⟩
 cases c with
 | loop c => exact absurd rfl (hc c)
 | _ => exact harr
theorem codeW_loop {F : Fence} {n : Nat} {P : Program} {c : Code} {Q : Exit → Act → World → Prop} {a : Act} {w : World}
  (h : c.wpIn F n P (Exit.then (fun a' w' => codeW F n P (.loop c) Q a' w') Q) a w) : codeW F n P (.loop c) Q a w := by
 intro b k cs hro hb hr
 obtain ⟨e, a₁, w₁, hq, harr⟩ := h b (.inLoop c :: k) cs hro hb hr
 cases e with
 | normal =>
  obtain ⟨e₂, a₂, w₂, hq₂, harr₂⟩ := hq b k cs hro hb hr
  exact ⟨e₂, a₂, w₂, hq₂, .of_steps (StepsIn.trans harr (.one (fenced_calm hb hr rfl) stepR_inLoop)) harr₂⟩
 | exit id => exact ⟨_, a₁, w₁, hq, .pass (x := .inLoop c) rfl (fun _ _ => .inl (by simp)) harr⟩
 | goto l => exact ⟨_, a₁, w₁, hq, .pass (x := .inLoop c) rfl (fun _ _ => .inl (by simp)) harr⟩
 | ret => exact ⟨_, a₁, w₁, hq, .pass (x := .inLoop c) rfl (fun _ _ => .inl (by simp)) harr⟩
 | panic ch => exact ⟨_, a₁, w₁, hq, .pass (x := .inLoop c) rfl (fun _ _ => .inl (by simp)) harr⟩
 | outgrown => exact ⟨_, a₁, w₁, hq, .pass (x := .inLoop c) rfl (fun _ _ => .inl (by simp)) harr⟩
theorem stepR_scope {P : Program} {b : Frame} {a : Act} {k : List Item} {cs : List Frame} {w : World} {c : Code} :
  step P (lone (b.atR a (.code (.scope c) :: k)) cs w) = .next (lone (b.atR a (.code c :: .inScope c :: k)) cs w) :=
 step_lone_go (by simp [stepG, stepG.exec, Frame.atR])
theorem stepR_inScope {P : Program} {b : Frame} {a : Act} {k : List Item} {cs : List Frame} {w : World} {c : Code} :
  step P (lone (b.atR a (.inScope c :: k)) cs w) = .next (lone (b.atR a k) cs w) :=
 step_lone_go (by simp [stepG, stepG.exec, Frame.atR])
theorem yl_yielded {Γ : Gam} {NG : Nat} {tm : VT} {ca : Act} (h : Tm Γ NG tm ca) (ops : Array Oper) (j : Nat) : yielded ops ca.tmps j = yl ops.toList tm j := by
 unfold yielded yl
 rw [Array.getElem?_toList]
 cases ho : ops[j]? with
 | none => simp
 | some o =>
  cases hd : o.dst with
  | none => simp [hd]
  | some d =>
   simp only [hd, Option.bind_some, h.tm, Array.getElem?_map]
   rw [← VT.arr_getD, Array.getD_eq_getD_getElem?]
   cases hv : tm.arr[d]? with
   | none => simp [undef]
   | some v =>
    cases v with
    | agg cs => simp [con_agg]
    | tuple cs => simp [con_tuple]
    | func f a b => simp [con_func]
    | pointer a => cases a <;> simp [con]
    | slice a _ _ => cases a <;> simp [con]
    | map a => cases a <;> simp [con]
    | float k i => cases k <;> simp [con]
    | _ => simp [con]
theorem wanted_eq {Γ : Gam} {NG : Nat} {tm : VT} {ca : Act} (h : Tm Γ NG tm ca) (ops : Array Oper) (o : Oper) :
  Region.wanted o (yielded ops ca.tmps) = (wanted ops.toList tm o).getD false := by
 unfold Region.wanted wanted
 cases hg : o.guard with
 | none => simp
 | some g =>
  obtain ⟨j, b⟩ := g
  simp only [yl_yielded h]
  cases hy : yl ops.toList tm j with
  | none => simp
  | some c => cases b <;> cases c <;> simp
theorem Tm.put {Γ Γ' : Gam} {NG n : Nat} {tm : VT} {ca : Act} (h : Tm Γ NG tm ca) (hsc : ∀ v ∈ tm.arr.toList, sc n v = true) (hg : Ag Γ Γ' n) (hn : NG ≤ n) (d : Option Tmp) (v : Value) :
  Tm Γ' NG (Ew.put tm d v) (ca.put d (con Γ' v)) := by
 have hmap : tm.arr.map (con Γ') = tm.arr.map (con Γ) := Array.map_congr_left fun x hx => con_ag hg x (hsc x (by simpa using hx))
 refine ⟨?_, ?_, fun g hgg => (hg.b g (by omega)).trans (h.gl g hgg)⟩
 ·cases d with
  | none => exact h.sm
  | some d => simp only [Ew.put, VT.set_sz]; exact h.sm
 ·cases d with
  | none => simp only [Act.put, Ew.put, h.tm, hmap]
  | some d =>
   simp only [Act.put, Ew.put, h.tm, VT.arr_set _ h.sm, ← hmap]
   simp
theorem sc_put {n m : Nat} {tm : VT} (hU : tm.sz < U) (hsc : ∀ v ∈ tm.arr.toList, sc n v = true) (hn : n ≤ m) (d : Option Tmp) {v : Value} (hv : sc m v = true) :
  ∀ x ∈ (put tm d v).arr.toList, sc m x = true := by
 intro x hx
 cases d with
 | none => exact sc_mono hn x (hsc x hx)
 | some d =>
  simp only [put, VT.arr_set _ hU, Array.toList_setIfInBounds] at hx
  rcases List.mem_or_eq_of_mem_set hx with h | h
  ·exact sc_mono hn x (hsc x h)
  ·rw [h]; exact hv
end Go.Ew
namespace Go.Ew
open Go Go.RowKit
def CodeS (p : Par) (ro : Option Nat) (c : Code) (s : S) (e : XExit) (s' : S) : Prop :=
 ∀ (Γ : Gam) (ca : Act) (w : World), St p Γ s ca w → ∀ (F : Fence) (n : Nat) (Q : Exit → Act → World → Prop), FW F → F.round = ro.map Γ.b → (∀ l, ro = some l → l < s.h.next) →
  (∀ Γ' ca' w', Ag Γ Γ' s.h.next → s.h.next ≤ s'.h.next → jN p.B w w' → St p Γ' s' ca' w' → Q e.con ca' w') → codeW F n p.P c Q ca w
def RecS (p : Par) (rec : Rec) : Prop := ∀ ro c s e s', rec ro c s = some (e, s') → okCode p.NG c = true → CodeS p ro c s e s'
theorem evResults_run {p : Par} {Γ : Gam} {h : Heap} {w : World} (hr : HRel p Γ h w) {fn : Func} {tm : VT} {ca : Act} {v : Value} (ht : Tm Γ p.NG tm ca)
  (he : evResults p.P fn tm h = some v) : (results fn ca.tmps).run p.P w = .ok (con Γ v) w := by
 have hget : ∀ t, ca.tmps.getD t undef = con Γ (tm.get t) := fun t => ht.eval (x := .tmp t) rfl
 have hgo : ∀ (rs : List ResultVar) (l : List Value), evResults.go p.P tm h rs = some l →
   (rs.mapM fun r => (match r with
    | .tmp t => pure (ca.tmps.getD t undef)
    | .cell a t => do loadVar t (← asAddr (ca.tmps.getD a undef)) : Sem Value)).run p.P w = .ok (l.map (con Γ)) w := by
  intro rs
  induction rs with
  | nil => intro l hl; simp [evResults.go] at hl; subst hl; simp
  | cons r rs ih =>
   intro l hl
   cases r with
   | tmp t =>
    simp only [evResults.go] at hl
    split at hl <;> cases hl
    rename_i l' hl'
    simp only [List.mapM_cons, Sem.run_bind, Sem.run_pure, Result.andThen_ok, ih l' hl', List.map_cons]
    rw [hget]
   | cell a t =>
    simp only [evResults.go] at hl
    split at hl <;> cases hl
    rename_i v' l' hv' hl'
    have hld := evLoad_run hr hv'
    have hev : evLoad p.P t (tm.get a) h = some v' := hv'
    have hx : ∃ b off, tm.get a = .pointer (some ⟨b, off, none⟩) := by
     unfold evLoad at hev
     split at hev
     ·rename_i b off heq; exact ⟨b, off, heq⟩
     ·cases hev
    obtain ⟨b, off, hx⟩ := hx
    have hld2 : (loadVar t ⟨Γ.b b, off, none⟩).run p.P w = .ok (con Γ v') w := by
     rw [hx] at hld
     simpa [con, conA, Instr.loadAt, Instr.sureAddr] using hld
    have hga : ca.tmps.getD a undef = .pointer (some ⟨Γ.b b, off, none⟩) := by rw [hget, hx]; rfl
    have haa : (asAddr (ca.tmps.getD a undef)).run p.P w = .ok ⟨Γ.b b, off, none⟩ w := by rw [hga]; rfl
    simp only [List.mapM_cons, Sem.run_bind, haa, Sem.run_pure, Result.andThen_ok, hld2, ih l' hl', List.map_cons]
 unfold evResults at he
 have hm : ∀ l, evResults.go p.P tm h fn.results.toList = some l → (fn.results.mapM fun r => (match r with
    | .tmp t => pure (ca.tmps.getD t undef)
    | .cell a t => do loadVar t (← asAddr (ca.tmps.getD a undef)) : Sem Value)).run p.P w = .ok ⟨l.map (con Γ)⟩ w := fun l hl => by
  have h2 := hgo _ _ hl
  obtain ⟨rs, hrs⟩ : ∃ rs : List ResultVar, fn.results = ⟨rs⟩ := ⟨fn.results.toList, rfl⟩
  rw [hrs] at h2 ⊢
  rw [List.mapM_toArray]
  simp only [Sem.run_map]
  rw [h2]
  rfl
 split at he
 ·rename_i v' hl
  cases he
  have := hm _ hl
  unfold results
  rw [Sem.run_bind]
  refine (congrArg (fun r => Result.andThen r _) this).trans ?_
  simp
 ·rename_i l hne hl
  cases he
  have := hm _ hl
  unfold results
  rw [Sem.run_bind]
  refine (congrArg (fun r => Result.andThen r _) this).trans ?_
  simp only [Result.andThen_ok]
  have hsz : ¬ ((⟨l.map (con Γ)⟩ : Array Value).size = 1) := by
   intro h1
   simp at h1
   obtain ⟨x, hx⟩ := List.length_eq_one_iff.1 h1
   exact hne x (by rw [hx])
  simp only [dif_neg hsz, Sem.run_pure, con_tuple]
  simp
 ·cases he
theorem evMarks_run {p : Par} {fn : Func} {F : Fence} {n : Nat} {R : Ending → World → Prop} {tmps : Array Value} {Γ : Gam} : ∀ (ds : List Nat) (h h' : Heap) (w : World), HRel p Γ h w → evMarks ds h = some h' →
  (∀ w', HRel p Γ h' w' → h'.next = h.next → jN p.B w w' → LeavesInM F n p.P fn tmps R [] .returning w') → LeavesInM F n p.P fn tmps R (marks Γ ds) .returning w
 | [], h, h', w, hr, he, hk => by
  simp only [evMarks, Option.some.injEq] at he
  subst he
  exact hk w hr rfl (jN.refl _ _)
 | d :: ds, h, h', w, hr, he, hk => by
  simp only [evMarks] at he
  split at he
  ·rename_i m hd
   split at he
   ·rename_i hlo
    simp only [Nat.ble_eq] at hlo
    have hOR := (hr.obj d _ hd).2
    simp only [OR] at hOR
    have hput := hr.put (x' := ⟨.deferred none, false⟩) (o := .deferred none) hd rfl hlo (hl := rfl) (hl' := rfl) (by
     simp only [OR]
     refine ⟨by simp, ?_⟩
     rw [wset_heap _ _ _ (Array.getElem?_eq_some_iff.1 hOR.2).1]; simp)
    refine ⟨by simp, .inl ⟨Γ.b d, wset w (Γ.b d) (.deferred none), rfl, run_takeDeferred hOR.2, ?_⟩⟩
    exact evMarks_run ds _ h' _ hput.1 he fun w' hr' hn hb => hk w' hr' hn (hput.2.below.trans hb)
   ·cases he
  ·cases he
theorem evBody_run {p : Par} {X : Ext} (ok : Ok p X) {rec : Rec} (hrec : RecS p rec) {Γ : Gam} {h h' : Heap} {w : World} (hr : HRel p Γ h w) {g : FuncId} {args : List Value} {v : Value}
  (he : evBody p.P rec g args h = some (v, h')) (hsc : ∀ x ∈ args, sc h.next x = true) {F : Fence} (hF : FW F) {n : Nat} {R : Ending → World → Prop}
  (hR : ∀ Γ' w', Ag Γ Γ' h.next → h.next ≤ h'.next → jN p.B w w' → HRel p Γ' h' w' → R (.returned (con Γ' v)) w') :
  (callFunc g ⟨args.map (con Γ)⟩).run p.P w = .ok (.enter g ⟨args.map (con Γ)⟩) w ∧ CallsIn F n p.P g ⟨args.map (con Γ)⟩ w R := by
 unfold evBody at he
 split at he
 ·rename_i fn hfn
  split at he
  ·rename_i c hb
   have hok := ok.funcs g fn hfn
   simp only [okFunc, hb, Bool.and_eq_true, bne_iff_ne, ne_eq] at hok
   refine ⟨by simp [callFunc, hfn, hok.2, hb], ?_⟩
   split at he
   case h_2 => cases he
   rename_i hUs
   simp only [Nat.blt_eq] at hUs
   have hrec' : ∀ e s', rec none c { tm := VT.of args fn.ntmps, df := [], h := h } = some (e, s') → (e = .normal ∨ e = .ret) → evEnd p.P fn s' = some (v, h') →
     CallsIn F n p.P g ⟨args.map (con Γ)⟩ w R := by
    intro e s' hev hee hend
    have harr := VT.of_arr args fn.ntmps hUs
    have hcs := hrec none c _ e s' hev hok.1 Γ { tmps := (⟨args.map (con Γ)⟩ : Array Value) ++ Array.replicate (fn.ntmps - (⟨args.map (con Γ)⟩ : Array Value).size) undef, defers := [] } w
     ⟨⟨hUs, by rw [harr]; simp [con_undef], hr.gl⟩, by
      intro x hx
      have hx : x ∈ (VT.of args fn.ntmps).arr.toList := hx
      rw [harr] at hx
      simp only [Array.toList_append, List.mem_append] at hx
      rcases hx with hx | hx
      ·exact hsc x hx
      ·simp at hx; rw [hx.2]; rfl, ⟨rfl, fun d hd => by cases hd⟩, hr⟩
    have hF' : FW F.plain := ⟨hF.wide⟩
    have hcalls : CallsIn F.plain n p.P g ⟨args.map (con Γ)⟩ w R := by
     refine callsIn_of_wp_marks hfn hb (hF.fn g) (codeW_wp (hcs F.plain n _ hF' rfl (fun l h => by cases h) ?_)) rfl
     intro Γ' ca' w' hag hle hbel hst
     unfold evEnd at hend
     split at hend
     ·rename_i h1 hm
      split at hend <;> cases hend
      rename_i hres
      have hR : LeavesInM F.plain n p.P fn ca'.tmps R ca'.defers .returning w' := by
       rw [hst.df.1]
       refine evMarks_run _ _ _ _ hst.hr hm fun w'' hr'' hn'' hb'' => ?_
       exact ⟨_, evResults_run hr'' hst.tm hres, hR Γ' w'' hag (by rw [hn'']; exact hle) (hbel.trans hb'') hr''⟩
      rcases hee with rfl | rfl
      ·exact hR
      ·exact hR
     ·cases hend
    exact hcalls
   split at he
   ·rename_i s' hev
    exact hrec' _ _ hev (.inl rfl) he
   ·rename_i s' hev
    exact hrec' _ _ hev (.inr rfl) he
   ·cases he
  ·cases he
 ·cases he
theorem evCall_run {p : Par} {X : Ext} (ok : Ok p X) {rec : Rec} (hrec : RecS p rec) {Γ : Gam} {h h' : Heap} {w : World} (hr : HRel p Γ h w) {g : FuncId} {args : List Value} {v : Value}
  (he : evCall p.P X rec g args h = some (v, h')) (hsc : ∀ x ∈ args, sc h.next x = true) (o : Oper) {F : Fence} (hF : FW F) {n : Nat} {a : Act} {K : Act → World → Prop} {Q : Exit → Act → World → Prop}
  (hK : ∀ Γ' w', Ag Γ Γ' h.next → h.next ≤ h'.next → jN p.B w w' → HRel p Γ' h' w' → K (a.put o.dst (con Γ' v)) w') :
  o.uponIn F n p.P a K Q ((callFunc g ⟨args.map (con Γ)⟩).run p.P w) := by
 unfold evCall at he
 split at he
 ·rename_i u hx
  cases he
  refine ok.ext g args h v h' hx Γ w hr hsc o F hF n a K Q fun v' h'' Γ' w' hvh hag hle hb hr' _ => ?_
  obtain ⟨rfl, rfl⟩ := hvh
  exact hK Γ' w' hag hle hb hr'
 ·have h2 := evBody_run ok hrec hr he hsc hF (n := n - 1) (R := fun e w'' => match e with
   | .returned v => K (a.put o.dst v) w''
   | .panicked chain => Q (.panic chain) a w''
   | .outgrown => LetsOut Q) hK
  rw [h2.1]
  exact ⟨fun hd => (by rw [hF.depth] at hd; cases hd), CallsIn.mono h2.2 fun e w'' he => by cases e <;> exact he⟩
end Go.Ew
namespace Go.Ew
open Go Go.RowKit
def qP (Γ : Gam) (f : FuncId) (r : Loop) : Loop :=
 { state := r.state, pending := r.pending, fn := f, tmps := r.tmps.map (con Γ), params := r.params, assign := r.assign, body := r.body, defers := Γ.b r.defers }
theorem qF {p : Par} {Γ : Gam} {h : Heap} {w : World} (hr : HRel p Γ h w) {l : Nat} {r : Loop} (hg : getLoopA h l = some r) :
  (∃ m, h.get l = some ⟨.loop r, m⟩) ∧ h.lo ≤ l ∧ l < h.next ∧ (∀ v ∈ r.tmps.toList, sc h.next v = true) ∧ r.defers < h.next ∧ okCode p.NG r.assign = true ∧ okCode p.NG r.body = true ∧
   ∃ f, w.heap[Γ.b l]? = some (.loop (qP Γ f r)) := by
 unfold getLoopA at hg
 split at hg
 ·rename_i r0 m hget
  split at hg <;> cases hg
  rename_i hlo
  simp only [Nat.ble_eq] at hlo
  have ho := hr.obj l _ hget
  have ho2 := ho.2
  simp only [OR] at ho2
  obtain ⟨h1, h2, h3, h4, f, h5⟩ := ho2
  exact ⟨⟨m, hget⟩, hlo, ho.1, h1, h2, h3, h4, f, h5⟩
 ·cases hg
theorem putLoopA_run {p : Par} {Γ : Gam} {h : Heap} {w : World} (hr : HRel p Γ h w) {l : Nat} {r : Loop} {f : FuncId} (hg : getLoopA h l = some r) (hw : w.heap[Γ.b l]? = some (.loop (qP Γ f r))) (st : LoopState) (pe : Option Code) :
  HRel p Γ (putLoopA h l { r with state := st, pending := pe }) (w.putObj (Γ.b l) (.loop { qP Γ f r with state := st, pending := pe })) ∧
  Fr p Γ h w (w.putObj (Γ.b l) (.loop { qP Γ f r with state := st, pending := pe })) ∧ (putLoopA h l { r with state := st, pending := pe }).next = h.next := by
 obtain ⟨⟨m, hget⟩, hlo, hlt, h1, h2, h3, h4, _⟩ := qF hr hg
 have := hr.put (x' := ⟨.loop { r with state := st, pending := pe }, false⟩) (o := .loop { qP Γ f r with state := st, pending := pe }) hget rfl hlo (hl := rfl) (hl' := rfl) (by
  simp only [OR]
  refine ⟨h1, h2, h3, h4, f, ?_⟩
  rw [wset_heap _ _ _ (Array.getElem?_eq_some_iff.1 hw).1]
  simp [qP])
 exact ⟨this.1, this.2, rfl⟩
theorem fold_con (Γ : Gam) : ∀ (ps : List (Nat × Value)) (tm : Array Value),
  (ps.map fun x => (x.1, con Γ x.2)).foldl (fun tmps x => tmps.setIfInBounds x.1 x.2) (tm.map (con Γ)) = (ps.foldl (fun tmps x => tmps.setIfInBounds x.1 x.2) tm).map (con Γ)
 | [], tm => rfl
 | (t, v) :: ps, tm => by
  simp only [List.map_cons, List.foldl_cons]
  rw [← fold_con Γ ps (tm.setIfInBounds t v)]
  congr 1
  simp
theorem fold_sc {n : Nat} : ∀ (ps : List (Nat × Value)) (tm : Array Value), (∀ x ∈ ps, sc n x.2 = true) → (∀ x ∈ tm.toList, sc n x = true) →
  ∀ x ∈ (ps.foldl (fun tmps x => tmps.setIfInBounds x.1 x.2) tm).toList, sc n x = true
 | [], tm, _, h => h
 | (t, v) :: ps, tm, hp, h => by
  simp only [List.foldl_cons]
  refine fold_sc ps _ (fun x hx => hp x (List.mem_cons_of_mem _ hx)) fun x hx => ?_
  simp only [Array.toList_setIfInBounds] at hx
  rcases List.mem_or_eq_of_mem_set hx with hx | hx
  ·exact h x hx
  ·rw [hx]; exact hp (t, v) (List.mem_cons_self ..)
theorem zip_fold_con (Γ : Gam) (ps : Array Tmp) (args tm : Array Value) :
  (ps.zip (args.map (con Γ))).foldl (fun tmps (t, a) => tmps.setIfInBounds t a) (tm.map (con Γ)) = ((ps.zip args).foldl (fun tmps (t, a) => tmps.setIfInBounds t a) tm).map (con Γ) := by
 have h : (ps.zip (args.map (con Γ))).toList = (ps.zip args).toList.map fun x => (x.1, con Γ x.2) := by
  simp [Array.toList_zip, List.zip_map_right]
 rw [← Array.foldl_toList, ← Array.foldl_toList, h]
 exact fold_con Γ _ tm
theorem zip_fold_sc {n : Nat} (ps : Array Tmp) {args tm : Array Value} (ha : ∀ x ∈ args.toList, sc n x = true) (ht : ∀ x ∈ tm.toList, sc n x = true) :
  ∀ x ∈ ((ps.zip args).foldl (fun tmps (t, a) => tmps.setIfInBounds t a) tm).toList, sc n x = true := by
 rw [← Array.foldl_toList]
 refine fold_sc _ tm (fun x hx => ?_) ht
 rw [Array.toList_zip] at hx
 exact ha _ (List.of_mem_zip hx).2
theorem zip_list (ps : Array Tmp) (args : List Value) : (ps.zip (⟨args⟩ : Array Value)).toList = ps.toList.zip args := by simp [Array.toList_zip]
theorem zip_fold_con' (Γ : Gam) (ps : Array Tmp) (args : List Value) {T : VT} {tm : Array Value} (hU : T.sz < U) (hT : T.arr = tm) :
  (ps.zip (⟨args.map (con Γ)⟩ : Array Value)).foldl (fun tmps (t, a) => tmps.setIfInBounds t a) (tm.map (con Γ)) = (setAll T (ps.toList.zip args)).arr.map (con Γ) := by
 have h := zip_fold_con Γ ps ⟨args⟩ tm
 rw [show ((⟨args⟩ : Array Value).map (con Γ)) = ⟨args.map (con Γ)⟩ by simp] at h
 rw [h, setAll_arr _ T hU, hT, ← Array.foldl_toList, zip_list]
theorem zip_fold_sc' {n : Nat} (ps : Array Tmp) {args : List Value} {T : VT} {tm : Array Value} (hU : T.sz < U) (hT : T.arr = tm) (ha : ∀ x ∈ args, sc n x = true) (ht : ∀ x ∈ tm.toList, sc n x = true) :
  ∀ x ∈ (setAll T (ps.toList.zip args)).arr.toList, sc n x = true := by
 have h := zip_fold_sc (n := n) ps (args := ⟨args⟩) (tm := tm) ha ht
 rw [← Array.foldl_toList, zip_list] at h
 rw [setAll_arr _ T hU, hT]
 exact h
theorem evYield_run {p : Par} {rec : Rec} (hrec : RecS p rec) {Γ : Gam} {h h' : Heap} {w : World} (hr : HRel p Γ h w) {l : Nat} {args : List Value} {v : Value}
  (he : evYield rec l args h = some (v, h')) (hsc : ∀ x ∈ args, sc h.next x = true) (o : Oper) {F : Fence} (hF : FW F) {n : Nat} {a : Act} {K : Act → World → Prop} {Q : Exit → Act → World → Prop}
  (hK : ∀ Γ' w', Ag Γ Γ' h.next → h.next ≤ h'.next → jN p.B w w' → HRel p Γ' h' w' → K (a.put o.dst (con Γ' v)) w') :
  o.uponIn F n p.P a K Q ((Instr.yield (Γ.b l) ⟨args.map (con Γ)⟩).run p.P w) := by
 unfold evYield at he
 split at he
 ·rename_i r hg
  obtain ⟨_, hlo, hlt, h1, h2, h3, h4, f, hw⟩ := qF hr hg
  split at he
  ·rename_i hsz
   simp only [Bool.and_eq_true, Nat.beq_eq, Nat.blt_eq] at hsz
   obtain ⟨hsz, hUs⟩ := hsz
   split at he
   ·rename_i s1 hev1
    split at he
    ·rename_i r1 hg1
     split at he
     ·rename_i hst1
      split at he
      ·rename_i e s2 hev2
       split at he <;> cases he
       rename_i r2 hg2
       rw [run_yield hw (by simpa [qP] using hsz)]
       have hof : (VT.of r.tmps.toList 0).arr = r.tmps := by rw [VT.of_arr _ _ hUs]; simp
       rw [Oper.uponIn_round]
       refine ⟨fun hd => (by rw [hF.depth] at hd; cases hd), roundIn_of_wpIn (hF.fn _) ?_⟩
       have hFr : FW (F.inRound (Γ.b l)) := ⟨hF.wide⟩
       have htm : (qP Γ f r).tmps = r.tmps.map (con Γ) := rfl
       have hps : (qP Γ f r).params = r.params := rfl
       rw [htm, hps, zip_fold_con' Γ r.params args hUs hof]
       refine codeW_wp (hrec _ _ _ _ _ hev1 h3 Γ _ w ⟨⟨by rw [setAll_sz]; exact hUs, rfl, hr.gl⟩, zip_fold_sc' r.params hUs hof hsc h1, ⟨rfl, fun d hd => by cases hd⟩, hr⟩ (F.inRound (Γ.b l)) (n - 1) _ hFr rfl (fun l' e => by cases e; exact hlt) ?_)
       intro Γ1 ca1 w1 hag1 hle1 hb1 hst
       obtain ⟨_, hlo1, hlt1, h11, h12, h13, h14, f1, hw1⟩ := qF hst.hr hg1
       have hbl : Γ1.b l = Γ.b l := hag1.b l hlt
       have hp1 := putLoopA_run hst.hr hg1 hw1 .busy r1.pending
       refine ⟨_, run_beginRound (r := qP Γ1 f1 r1) (by rw [← hbl]; exact hw1) hst1, ?_⟩
       refine codeW_wp (hrec _ _ _ _ _ hev2 h4 Γ1 ca1 _ ⟨hst.tm, hst.sc, hst.df, by rw [hbl] at hp1; exact hp1.1⟩ (F.inRound (Γ.b l)) (n - 1) _ hFr (by simp [hbl]) (fun l' e => by cases e; exact hlt1) ?_)
       intro Γ2 ca2 w2 hag2 hle2 hb2 hst2
       obtain ⟨_, hlo2, hlt2, h21, h22, h23, h24, f2, hw2⟩ := qF hst2.hr hg2
       have hag2' : Ag Γ1 Γ2 s1.h.next := hag2
       have hbl2 : Γ2.b l = Γ.b l := (hag2'.b l hlt1).trans hbl
       have hp2 := putLoopA_run hst2.hr hg2 hw2 (if e.jump.isNone then .ready else .done) e.jump
       rw [hbl2] at hp2 hw2
       have hle2' : s1.h.next ≤ s2.h.next := hle2
       have hle1' : h.next ≤ s1.h.next := hle1
       have hbelow : jN p.B w w2 := hb1.trans (jN.trans (by rw [hbl] at hp1; exact hp1.2.1.below) hb2)
       have hend : ∃ v w', (Instr.endRound (Γ.b l) e.jump).run p.P w2 = .ok v w' ∧ K (a.put o.dst v) w' := by
        refine ⟨_, _, run_endRound (r := qP Γ2 f2 r2) e.jump hw2, ?_⟩
        have := hK Γ2 _ (hag1.trans hag2' hle1) (by have := hp2.2.2; omega) (hbelow.trans hp2.2.1.below) hp2.1
        exact this
       cases e with
       | normal => exact hend
       | exit id => exact hend
       | goto t => exact hend
       | ret => exact hend
      ·cases he
     ·cases he
    ·cases he
   ·cases he
  ·cases he
 ·cases he
theorem ev_sc {p : Par} {Γ : Gam} {h : Heap} {w : World} (hr : HRel p Γ h w) {tm : VT} (hsc : ∀ x ∈ tm.arr.toList, sc h.next x = true) {x : Operand} (hx : okOpd p.NG x = true) : sc h.next (ev tm x) = true := by
 cases x with
 | tmp t =>
  have e : ev tm (.tmp t) = tm.get t := rfl
  rw [e, ← VT.arr_getD, Array.getD_eq_getD_getElem?]
  cases hq : tm.arr[t]? with
  | none => rfl
  | some y => exact hsc y (by rw [← Array.getElem?_toList] at hq; exact List.mem_of_getElem? hq)
 | const y => exact flat_sc h.next y hx
 | global g =>
  simp [okOpd] at hx
  have e : ev tm (.global g) = .pointer (some ⟨g, 0, none⟩) := rfl
  rw [e]
  have := hr.gn; have := hr.ng
  simp [sc, scA]; omega
 | func f => rfl
def RS (P : Program) (X : Ext) (rec : Rec) (o : Oper) (tm : VT) (h : Heap) : Rz → Prop
 | .no => True
 | .pure v => evPure P o tm = some v
 | .read v => evRead P o tm h = some v
 | .eff v h' => evEff P o tm h = some (v, h') ∨ ∃ f args ats, o.op = .call ⟨.value f, args, ats⟩ ∧ callV P X rec (ev tm f) (args.toList.map (ev tm)) h = some (v, h')
section
variable {P : Program} {X : Ext} {rec : Rec} {o : Oper} {tm : VT} {h : Heap}
theorem RS_rP {r : Option Value} (hr : ∀ v, r = some v → evPure P o tm = some v) : RS P X rec o tm h (rP r) := by
 cases r with
 | none => trivial
 | some v => exact hr v rfl
theorem RS_rPR {r : Option Value} {k : Rz} (hr : ∀ v, r = some v → evPure P o tm = some v) (hk : RS P X rec o tm h k) : RS P X rec o tm h (rPR r k) := by
 cases r with
 | none => exact hk
 | some v => exact hr v rfl
theorem RS_rR {r : Option Value} {k : Rz} (hr : ∀ v, r = some v → evRead P o tm h = some v) (hk : RS P X rec o tm h k) : RS P X rec o tm h (rR r k) := by
 cases r with
 | none => exact hk
 | some v => exact hr v rfl
theorem RS_rE {r : Option (Value × Heap)} (hr : ∀ v h', r = some (v, h') → RS P X rec o tm h (.eff v h')) : RS P X rec o tm h (rE r) := by
 cases r with
 | none => trivial
 | some x => obtain ⟨v, h'⟩ := x; exact hr v h' rfl
end
theorem fBin_run {P : Program} {op : BinOp} {t : TypeId} {x y : Operand} {a b v : Value} (he : fBin op a b = some v) : binPure P op t x y a b = some v := by
 unfold fBin at he
 split at he
 ·rename_i k a
  split at he
  ·rename_i j b
   split at he
   ·rename_i hk
    have hk : k = j := of_decide_eq_true hk
    subst hk
    have hpv : ∀ s : Sem Value, (∀ u, pv P s = some u → flat u = true → pvF P s (flat (.int k (.ofNat a)) && flat (.int k (.ofNat b))) = some u) := fun s u hu hf => by
     simp [pvF, flat, hu, hf]
    unfold fCmp at he
    split at he <;> cases he
    all_goals
     unfold binPure
     refine hpv _ _ ?_ rfl
     simp only [eqGuard, binOp, Op.intCmp, ne_eq, not_true_eq_false, if_false]
    ·show some (Value.bool (decide ((Int.ofNat a) < Int.ofNat b))) = _
     congr 2
     rw [Bool.eq_iff_iff, decide_eq_true_iff, Nat.blt_eq]
     exact Int.ofNat_lt
    ·show some (Value.bool (decide ((Int.ofNat a) ≤ Int.ofNat b))) = _
     congr 2
     rw [Bool.eq_iff_iff, decide_eq_true_iff, Nat.ble_eq]
     exact Int.ofNat_le
    ·show some (Value.bool (decide ((Int.ofNat a) > Int.ofNat b))) = _
     congr 2
     rw [Bool.eq_iff_iff, decide_eq_true_iff, Nat.blt_eq]
     exact Int.ofNat_lt
    ·show some (Value.bool (decide ((Int.ofNat a) ≥ Int.ofNat b))) = _
     congr 2
     rw [Bool.eq_iff_iff, decide_eq_true_iff, Nat.ble_eq]
     exact Int.ofNat_le
    ·show some (Value.bool (Int.ofNat a == Int.ofNat b)) = _
     congr 2
     rw [Bool.eq_iff_iff, beq_iff_eq, Nat.beq_eq]
     exact Int.ofNat_inj
    ·show some (Value.bool (!(Int.ofNat a == Int.ofNat b))) = _
     congr 2
     congr 1
     rw [Bool.eq_iff_iff, beq_iff_eq, Nat.beq_eq]
     exact Int.ofNat_inj
   ·cases he
  ·cases he
 ·cases he
theorem evOp_spec (P : Program) (X : Ext) (rec : Rec) (o : Oper) (tm : VT) (h : Heap) : RS P X rec o tm h (evOp P X rec o tm h) := by
 obtain ⟨dst, op, type, after, guard, pos⟩ := o
 cases op
 case move x => exact rfl
 case assign x => exact rfl
 case pick c a b => exact RS_rP fun v hv => hv
 case alloc e => exact RS_rE fun v h' hv => .inl hv
 case box e x => exact RS_rE fun v h' hv => .inl hv
 case build t parts => exact RS_rP fun v hv => hv
 case buildSlice t len parts => exact RS_rE fun v h' hv => .inl hv
 case load t a => exact RS_rR (fun v hv => hv) trivial
 case store t a x => exact RS_rE fun v h' hv => .inl hv
 case nilCheck x => exact RS_rP fun v hv => hv
 case binOp op t x y yt =>
  refine RS_rP fun v hv => ?_
  show binPure P op t x y (ev tm x) (ev tm y) = some v
  unfold fPure_4 at hv
  split at hv
  ·rename_i u hu
   cases hv
   exact fBin_run hu
  ·exact hv
 case unOp op t x =>
  refine RS_rP fun v hv => ?_
  show pvF P (Op.unary op (ev tm x)) (flat (ev tm x)) = some v
  unfold fPure_5 at hv
  split at hv
  ·rename_i b hb
   rw [hb]
   exact hv
  ·exact hv
 case convert s d x => exact RS_rPR (fun v hv => hv) (RS_rR (fun v hv => hv) (RS_rE fun v h' hv => .inl hv))
 case makeInterface t x => exact RS_rP fun v hv => hv
 case makeFunc fn f c => cases fn <;> first | exact RS_rP fun v hv => hv | trivial
 case makeSlice t l c => exact RS_rE fun v h' hv => .inl hv
 case slice t x lo hi mx => exact RS_rPR (fun v hv => hv) (RS_rR (fun v hv => hv) trivial)
 case fieldAddr s x f => exact RS_rP fun v hv => hv
 case field s x f => exact RS_rP fun v hv => hv
 case indexAddr t x i => exact RS_rP fun v hv => hv
 case index t x i => exact RS_rP fun v hv => hv
 case range t x => exact RS_rE fun v h' hv => .inl hv
 case lookup t x i ok => exact RS_rR (fun v hv => hv) trivial
 case entry it => exact RS_rR (fun v hv => hv) trivial
 case makeMap t r => exact RS_rE fun v h' hv => .inl hv
 case mapUpdate t m k x => exact RS_rE fun v h' hv => .inl hv
 case insert t m k x => exact RS_rE fun v h' hv => .inl hv
 case next it b => cases b <;> first | exact RS_rE fun v h' hv => .inl hv | trivial
 case extract t i => exact RS_rP fun v hv => hv
 case call c =>
  obtain ⟨cl, args, ats⟩ := c
  cases cl with
  | value f => exact RS_rE fun v h' hv => .inr ⟨f, args, ats, rfl, hv⟩
  | invoke r m => trivial
  | builtin b => cases b <;> first | exact RS_rP fun v hv => hv | exact RS_rPR (fun v hv => hv) (RS_rR (fun v hv => hv) trivial) | exact RS_rE fun v h' hv => .inl hv | exact RS_rR (fun v hv => hv) trivial | trivial
 all_goals trivial
theorem evOp_run {p : Par} {X : Ext} (ok : Ok p X) {rec : Rec} (hrec : RecS p rec) {Γ : Gam} {tm : VT} {h h' : Heap} {ca : Act} {w : World} (hr : HRel p Γ h w) (ht : Tm Γ p.NG tm ca)
  (hsc : ∀ x ∈ tm.arr.toList, sc h.next x = true) {o : Oper} (hop : okOper p.NG o = true) {v : Value} (he : RS p.P X rec o tm h (.eff v h'))
  {F : Fence} (hF : FW F) {n : Nat} {K : Act → World → Prop} {Q : Exit → Act → World → Prop}
  (hK : ∀ Γ' w', Ag Γ Γ' h.next → h.next ≤ h'.next → jN p.B w w' → HRel p Γ' h' w' → K (ca.put o.dst (con Γ' v)) w') :
  o.uponIn F n p.P ca K Q ((execOp ca.eval o).run p.P w) := by
 simp only [okOper, Bool.and_eq_true] at hop
 rcases he with hp | ⟨f, args, ats, ho, hp⟩
 ·obtain ⟨Γ', w', nx, h1, h2, h3, h4, h5, h6⟩ := evEff_run hr ht hop.1 hp
  rw [h1]
  rcases h2 with rfl | ⟨rfl, rfl⟩
  ·exact hK Γ' w' h3 h4 h6.below h5
  ·exact hK Γ' w' h3 h4 h6.below h5
 ·have hev : ∀ x ∈ o.op.operands, ca.eval x = con Γ (ev tm x) := fun x hx => ht.eval (by
   have := hop.1
   rw [Array.all_eq_true_iff_forall_mem] at this; exact this x hx)
  have hf := hev f (by simp [ho, Op.operands, Call.operands])
  have hargs : args.map ca.eval = ⟨(args.toList.map (ev tm)).map (con Γ)⟩ := by
   apply Array.ext'
   simp only [Array.toList_map, List.map_map]
   apply List.map_congr_left
   intro y hy
   exact hev y (by simp [ho, Op.operands, Call.operands]; exact .inr (by simpa using hy))
  have hscv : ∀ x ∈ o.op.operands, sc h.next (ev tm x) = true := fun x hx => by
   have hx2 : okOpd p.NG x = true := by
    have := hop.1
    rw [Array.all_eq_true_iff_forall_mem] at this; exact this x hx
   exact ev_sc hr hsc hx2
  unfold callV at hp
  split at hp
  ·rename_i g captured hfe
   have hrun : (execOp ca.eval o).run p.P w = (callFunc g ⟨(args.toList.map (ev tm) ++ captured).map (con Γ)⟩).run p.P w := by
    simp only [execOp, ho, resolve, hf, hfe, con_func, conFn, Deferred.ofValue, Sem.run_bind, Sem.run_pure, Result.andThen_ok, invoke, hargs]
    simp
   rw [hrun]
   refine evCall_run ok hrec hr hp ?_ o hF hK
   intro x hx
   simp only [List.mem_append, List.mem_map] at hx
   rcases hx with ⟨y, hy, rfl⟩ | hx
   ·exact hscv y (by simp [ho, Op.operands, Call.operands]; exact .inr (by simpa using hy))
   ·have := hscv f (by simp [ho, Op.operands, Call.operands])
    rw [hfe] at this
    simp only [sc, Bool.and_eq_true] at this
    exact scL_all this.2 x hx
  ·rename_i l captured hfe
   have hrun : (execOp ca.eval o).run p.P w = (Instr.yield (Γ.b l) ⟨(args.toList.map (ev tm)).map (con Γ)⟩).run p.P w := by
    simp only [execOp, ho, resolve, hf, hfe, con_func, conFn, Deferred.ofValue, Sem.run_bind, Sem.run_pure, Result.andThen_ok, invoke, hargs]
    simp
   rw [hrun]
   refine evYield_run hrec hr hp ?_ o hF hK
   intro x hx
   simp only [List.mem_map] at hx
   obtain ⟨y, hy, rfl⟩ := hx
   exact hscv y (by simp [ho, Op.operands, Call.operands]; exact .inr (by simpa using hy))
  ·cases hp
end Go.Ew
namespace Go.Ew
open Go Go.RowKit
theorem okOper_plain {NG : Nat} {o : Oper} (h : okOper NG o = true) : (∀ c, o.op ≠ .defer c) ∧ ∀ cs b, o.op ≠ .select cs b := by
 simp only [okOper, Bool.and_eq_true] at h
 constructor
 ·intro c hc; rw [hc] at h; simp at h
 ·intro cs b hc; rw [hc] at h; simp at h
structure Next (p : Par) (Γ : Gam) (h : Heap) (w : World) (tm' : VT) (h' : Heap) (df : List Deferred) (Q : Act → World → Prop) : Prop where
 go : ∀ Γ' ca' w', Ag Γ Γ' h.next → h.next ≤ h'.next → jN p.B w w' → HRel p Γ' h' w' → Tm Γ' p.NG tm' ca' → (∀ x ∈ tm'.arr.toList, sc h'.next x = true) → ca'.defers = df → Q ca' w'
theorem Next.step {p : Par} {Γ Γ' : Gam} {h h1 h' : Heap} {w w' : World} {tm' : VT} {df : List Deferred} {Q : Act → World → Prop} (hn : Next p Γ h w tm' h' df Q)
  (hg : Ag Γ Γ' h.next) (hle : h.next ≤ h1.next) (hb : jN p.B w w') : Next p Γ' h1 w' tm' h' df Q :=
 ⟨fun Γ'' ca' w'' hg' hle' hb' hr' ht' hs' hd' => hn.go Γ'' ca' w'' (hg.trans hg' hle) (by omega) (hb.trans hb') hr' ht' hs' hd'⟩
theorem put_defers (a : Act) (d : Option Tmp) (v : Value) : (a.put d v).defers = a.defers := by cases d <;> rfl
theorem okV_spec {k : KT} {tm : VT} {d : Option Tmp} {h : Heap} {v : Value} {r : VT × Heap} (he : okV k tm d h v = some r) : sc h.next v = true ∧ k (put tm d v) h = some r := by
 unfold okV at he
 rw [fsc_eq] at he
 cases hs : sc h.next v with
 | true => rw [hs] at he; exact ⟨rfl, he⟩
 | false => rw [hs] at he; cases he
theorem okVH_spec {k : Value → KT} {tm : VT} {d : Option Tmp} {h : Heap} {v : Value} {r : VT × Heap} (he : okVH k tm d h v = some r) : sc h.next v = true ∧ k v (put tm d v) h = some r := by
 unfold okVH at he
 rw [fsc_eq] at he
 cases hs : sc h.next v with
 | true => rw [hs] at he; exact ⟨rfl, he⟩
 | false => rw [hs] at he; cases he
theorem okE_spec {k : KT} {tm : VT} {d : Option Tmp} {h : Heap} {v : Value} {r : VT × Heap} (he : okE k tm d v h = some r) : sc h.next v = true ∧ k (put tm d v) h = some r := by
 unfold okE at he
 rw [fsc_eq] at he
 cases hs : sc h.next v with
 | true => rw [hs] at he; exact ⟨rfl, he⟩
 | false => rw [hs] at he; cases he
theorem okH_spec {P : Program} {o : Oper} {L : Held} {k : KT} {tm : VT} {h : Heap} {v : Value} {r : VT × Heap} (he : okH P o L k tm v h = some r) :
  kept P o h L = true ∧ sc h.next v = true ∧ k (put tm o.dst v) h = some r := by
 unfold okH at he
 cases hs : kept P o h L with
 | true => rw [hs] at he; exact ⟨rfl, okE_spec he⟩
 | false => rw [hs] at he; cases he
theorem evOps_cons (P : Program) (X : Ext) (rec : Rec) (ops : List Oper) (o : Oper) (l : List Oper) (tm : VT) (h : Heap) :
  evOps P X rec ops (o :: l) tm h = match wanted ops tm o with
   | some true => Rz.rec (motive := fun _ => Option (VT × Heap)) none (okV (evOps P X rec ops l) tm o.dst h) (okV (evOps P X rec ops l) tm o.dst h) (okE (evOps P X rec ops l) tm o.dst) (evOp P X rec o tm h)
   | _ => evOps P X rec ops l (put tm o.dst undef) h := rfl
theorem evOps_run {p : Par} {X : Ext} (ok : Ok p X) {rec : Rec} (hrec : RecS p rec) {ops : Array Oper} (hops : ∀ o ∈ ops.toList, okOper p.NG o = true) {F : Fence} (hF : FW F) {n : Nat} {Q : Exit → Act → World → Prop}
  {df : List Deferred} : ∀ (l : List Oper) (k : Nat) (tm : VT) (h : Heap) (tm' : VT) (h' : Heap), ops.toList.drop k = l → evOps p.P X rec ops.toList l tm h = some (tm', h') →
  ∀ (Γ : Gam) (ca : Act) (w : World), HRel p Γ h w → Tm Γ p.NG tm ca → (∀ x ∈ tm.arr.toList, sc h.next x = true) → ca.defers = df → Next p Γ h w tm' h' df (fun a w => Q .normal a w) →
  wpOpsIn F n p.P ops Q (List.range' k l.length) ca w := by
 intro l
 induction l with
 | nil =>
  intro k tm h tm' h' _ he Γ ca w hr ht hs hd hn
  have he : some (tm, h) = some (tm', h') := he
  cases he
  simp only [List.length_nil, List.range'_zero, wpOpsIn]
  exact hn.go Γ ca w (Ag.refl _ _) (Nat.le_refl _) (jN.refl _ _) hr ht hs hd
 | cons o rest ih =>
  intro k tm h tm' h' hl he Γ ca w hr ht hs hd hn
  have hk : ops[k]? = some o := by
   rw [← Array.getElem?_toList]
   have : (ops.toList.drop k)[0]? = some o := by rw [hl]; rfl
   simpa using this
  have hrest : ops.toList.drop (k + 1) = rest := by
   have : (ops.toList.drop k).drop 1 = rest := by rw [hl]; rfl
   simpa [List.drop_drop, Nat.add_comm] using this
  have hoo : okOper p.NG o = true := hops o (by rw [← Array.getElem?_toList] at hk; exact List.mem_of_getElem? hk)
  have hpl := okOper_plain hoo
  simp only [List.length_cons, List.range'_succ, wpOpsIn, hk]
  have hw := wanted_eq ht ops o
  rw [evOps_cons] at he
  have hop : o.op.operands.all (okOpd p.NG) = true := by simp only [okOper, Bool.and_eq_true] at hoo; exact hoo.1
  have hng : p.NG ≤ h.next := by have := hr.ng; have := hr.gn; omega
  split at he
  ·rename_i hwt
   rw [hwt] at hw
   simp only [Option.getD_some] at hw
   simp only [hw, if_true]
   refine ⟨fun f _ => hF.fn f, ?_⟩
   rw [Oper.semAt_eq _ _ _ hpl.1]
   have hsp := evOp_spec p.P X rec o tm h
   have same : ∀ v, (execOp ca.eval o).run p.P w = .ok (.value (con Γ v)) w → okV (evOps p.P X rec ops.toList rest) tm o.dst h v = some (tm', h') →
     o.uponIn F n p.P ca (wpOpsIn F n p.P ops Q (List.range' (k + 1) rest.length)) Q ((execOp ca.eval o).run p.P w) := fun v hrun hok => by
    obtain ⟨hsv, hk'⟩ := okV_spec hok
    rw [hrun]
    exact ih (k + 1) _ h tm' h' hrest hk' Γ _ w hr (ht.put hs (Ag.refl Γ h.next) hng o.dst v) (sc_put ht.sm hs (Nat.le_refl _) o.dst hsv) (by rw [put_defers]; exact hd) hn
   cases hz : evOp p.P X rec o tm h with
   | no => rw [hz] at he; cases he
   | pure v =>
    rw [hz] at he hsp
    exact same v (evPure_run ht hop hsp w) he
   | read v =>
    rw [hz] at he hsp
    exact same v (evRead_run hr ht hop hsp) he
   | eff v h1 =>
    rw [hz] at he hsp
    obtain ⟨hsv, hk'⟩ := okE_spec he
    refine evOp_run ok hrec hr ht hs hoo hsp hF fun Γ' w' hg hle hbel hr' => ?_
    exact ih (k + 1) _ h1 tm' h' hrest hk' Γ' _ w' hr' (ht.put hs hg hng o.dst v) (sc_put ht.sm hs hle o.dst hsv) (by rw [put_defers]; exact hd) (hn.step hg hle hbel)
  ·rename_i hwt
   have hw' : Region.wanted o (yielded ops ca.tmps) = false := by
    rw [hw]
    cases hq : wanted ops.toList tm o with
    | none => rfl
    | some b => cases b with
     | false => rfl
     | true => exact absurd hq hwt
   simp only [hw', Bool.false_eq_true, if_false]
   refine ⟨fun f _ => hF.fn f, ?_⟩
   have := ht.put hs (Ag.refl Γ h.next) hng o.dst undef
   rw [con_undef] at this
   exact ih (k + 1) _ h tm' h' hrest he Γ _ w hr this (sc_put ht.sm hs (Nat.le_refl _) o.dst rfl) (by rw [put_defers]; exact hd) hn
def HeldC (P : Program) (ops : Array Oper) (Lc : List (Nat × Sem Go.Next × Value)) (j : Nat) (w : World) : Prop :=
 ∀ x ∈ Lc, (∀ oj, ops[j]? = some oj → ∀ e ∈ oj.after, Region.binds .any e = true → e.on ≠ x.1) → x.2.1.run P w = .ok (.value x.2.2) w
def HeldR (p : Par) (Γ : Gam) (n : Nat) : Held → List (Nat × Sem Go.Next × Value) → Prop
 | [], [] => True
 | (i, o, tm0, v) :: L, (j, s, u) :: Lc => (i = j ∧ ∃ ca0, Tm Γ p.NG tm0 ca0 ∧ (∀ x ∈ tm0.arr.toList, sc n x = true) ∧ o.op.operands.all (okOpd p.NG) = true ∧ s = execOp ca0.eval o ∧ u = con Γ v ∧ sc n v = true) ∧ HeldR p Γ n L Lc
 | _, _ => False
theorem HeldR.ag {p : Par} {Γ Γ' : Gam} {n m : Nat} (hg : Ag Γ Γ' n) (hn : n ≤ m) (hng : p.NG ≤ n) : ∀ {L : Held} {Lc : List (Nat × Sem Go.Next × Value)}, HeldR p Γ n L Lc → HeldR p Γ' m L Lc
 | [], [], _ => trivial
 | [], _ :: _, h => h.elim
 | _ :: _, [], h => by simp [HeldR] at h
 | (i, o, tm0, v) :: L, (j, s, u) :: Lc, h => by
  obtain ⟨⟨h0, ca0, h1, h2, h3, h4, h5, h6⟩, h7⟩ := h
  refine ⟨⟨h0, ca0, ?_, fun x hx => sc_mono hn x (h2 x hx), h3, h4, by rw [h5, con_ag hg v h6], sc_mono hn v h6⟩, h7.ag hg hn hng⟩
  exact h1.put h2 hg hng none undef
theorem fRead_eq {P : Program} {o : Oper} {tm : VT} {h : Heap} {v : Value} (he : fRead P o tm h = some v) : evRead P o tm h = some v := by
 obtain ⟨dst, op, type, after, guard, pos⟩ := o
 cases op
 case call c =>
  obtain ⟨cl, args, ats⟩ := c
  cases cl with
  | builtin b => cases b <;> exact he
  | value f => exact he
  | invoke r m => exact he
 all_goals exact he
theorem kept_run {p : Par} {Γ : Gam} {n : Nat} {h : Heap} {w : World} (hr : HRel p Γ h w) {ops : Array Oper} {j : Nat} {o : Oper} (hj : ops[j]? = some o) :
  ∀ {L : Held} {Lc : List (Nat × Sem Go.Next × Value)}, HeldR p Γ n L Lc → kept p.P o h L = true → HeldC p.P ops Lc j w
 | [], [], _, _ => fun x hx => by cases hx
 | [], _ :: _, h, _ => h.elim
 | _ :: _, [], h, _ => by simp [HeldR] at h
 | (i, o', tm, v) :: L, (i', s, u) :: Lc, hh, hk => by
  obtain ⟨⟨h0, ca0, h1, h2, h3, h4, h5, h6⟩, h7⟩ := hh
  subst h0
  simp only [kept] at hk
  intro x hx hno
  split at hk
  ·rename_i hed
   cases hx with
   | head =>
    simp only [List.any_eq_true, Bool.and_eq_true, Nat.beq_eq] at hed
    obtain ⟨e, he, hb, hon⟩ := hed
    exact absurd hon (hno o hj e (by simpa using he) hb)
   | tail _ hx => exact kept_run hr hj h7 hk x hx hno
  ·split at hk
   ·rename_i v' hv'
    split at hk
    ·rename_i hbq
     cases hx with
     | head =>
      have := beqV_eq v v' hbq
      subst this
      rw [h4, h5]
      exact evRead_run hr h1 h3 (fRead_eq hv')
     | tail _ hx => exact kept_run hr hj h7 hk x hx hno
    ·cases hk
   ·cases hk
theorem firstFree_spec {P : Program} {ops : Array Oper} {listed : Array Bool} : ∀ {is : List Nat} {i : Nat} {o : Oper},
  firstFree P ops listed is = some (i, o) → i ∈ is ∧ ops[i]? = some o ∧ Region.free .any ops listed i = true ∧ isEff P o = false := by
 intro is
 induction is with
 | nil => intro i o he; simp [firstFree] at he
 | cons j is ih =>
  intro i o he
  simp only [firstFree] at he
  split at he
  ·rename_i o' ho
   split at he
   ·obtain ⟨h1, h2⟩ := ih he
    exact ⟨List.mem_cons_of_mem _ h1, h2⟩
   ·rename_i hne
    split at he
    ·rename_i hf
     cases he
     exact ⟨List.mem_cons_self .., ho, hf, hne⟩
    ·obtain ⟨h1, h2⟩ := ih he
     exact ⟨List.mem_cons_of_mem _ h1, h2⟩
  ·obtain ⟨h1, h2⟩ := ih he
   exact ⟨List.mem_cons_of_mem _ h1, h2⟩
theorem evPlan_run {p : Par} {X : Ext} (ok : Ok p X) {rec : Rec} (hrec : RecS p rec) {ops : Array Oper} (hops : ∀ o ∈ ops.toList, okOper p.NG o = true) {F : Fence} (hF : FW F) {n : Nat} {Q : Exit → Act → World → Prop}
  (hQ : ∀ c a a' w, Q (.panic c) a w → Q (.panic c) a' w) {df : List Deferred} :
  ∀ (fuel : Nat) (listed : Array Bool) (pl : List PS) (L : Held) (tm : VT) (h : Heap) (tm' : VT) (h' : Heap), mkPlan p.P ops fuel listed = some pl → evPlan p.P X rec ops.toList pl L tm h = some (tm', h') →
  ∀ (Γ : Gam) (ca : Act) (w : World) (Lc : List (Nat × Sem Go.Next × Value)), HRel p Γ h w → Tm Γ p.NG tm ca → (∀ x ∈ tm.arr.toList, sc h.next x = true) → ca.defers = df → HeldR p Γ h.next L Lc →
  Next p Γ h w tm' h' df (fun a w => Q .normal a w) →
  anyW F n p.P .any ops Q (HeldC p.P ops Lc) fuel listed ca w := by
 intro fuel
 have hsel : Region.noSelect ops = true := by
  simp only [Region.noSelect, Array.all_eq_true_iff_forall_mem]
  intro o ho
  have := okOper_plain (hops o (by simpa using ho))
  split
  ·rename_i cs b hc; exact absurd hc (this.2 cs b)
  ·rfl
 induction fuel with
 | zero =>
  intro listed pl L tm h tm' h' hpl he Γ ca w Lc hr ht hs hd hL hn
  simp only [mkPlan] at hpl
  split at hpl <;> cases hpl
  rename_i hrd
  simp only [evPlan, Option.some.injEq, Prod.mk.injEq] at he
  obtain ⟨rfl, rfl⟩ := he
  exact ⟨hrd, hn.go Γ ca w (Ag.refl _ _) (Nat.le_refl _) (jN.refl _ _) hr ht hs hd⟩
 | succ fuel ih =>
  intro listed pl L tm h tm' h' hpl he Γ ca w Lc hr ht hs hd hL hn
  have hng : p.NG ≤ h.next := by have := hr.ng; have := hr.gn; omega
  simp only [mkPlan] at hpl
  split at hpl
  ·rename_i hrd
   cases hpl
   simp only [evPlan, Option.some.injEq, Prod.mk.injEq] at he
   obtain ⟨rfl, rfl⟩ := he
   exact ⟨fun _ => hn.go Γ ca w (Ag.refl _ _) (Nat.le_refl _) (jN.refl _ _) hr ht hs hd, fun i hi => by rw [hrd] at hi; cases hi⟩
  ·rename_i r rs hrd
   split at hpl
   ·rename_i i o hff
    obtain ⟨hi, hio, hfree, _⟩ := firstFree_spec hff
    have hoo : okOper p.NG o = true := hops o (by rw [← Array.getElem?_toList] at hio; exact List.mem_of_getElem? hio)
    have hop : o.op.operands.all (okOpd p.NG) = true := by simp only [okOper, Bool.and_eq_true] at hoo; exact hoo.1
    have hw := wanted_eq ht ops o
    split at hpl <;> cases hpl
    rename_i pl hpl'
    rw [← hrd] at hi
    simp only [evPlan] at he
    split at he
    ·rename_i hwt
     rw [hwt] at hw
     have hsp := evOp_spec p.P X rec o tm h
     cases hz : evOp p.P X rec o tm h with
     | no => rw [hz] at he; cases he
     | pure v =>
      rw [hz] at he hsp
      obtain ⟨hscv, he⟩ := okV_spec he
      refine qK (v := con Γ v) (T := fun _ => True) hio hsel hfree hi (fun c a w hq => hQ _ _ _ _ hq) (fun _ _ _ _ _ _ => trivial) (.inl ⟨hw, fun w _ => evPure_run ht hop hsp w⟩) trivial ?_
      exact ih _ pl L _ h tm' h' hpl' he Γ _ w Lc hr (ht.put hs (Ag.refl Γ h.next) hng o.dst v) (sc_put ht.sm hs (Nat.le_refl _) o.dst hscv) (by rw [put_defers]; exact hd) hL hn
     | read v =>
      rw [hz] at he hsp
      obtain ⟨hscv, he⟩ := okVH_spec he
      have hrun := evRead_run hr ht hop hsp
      refine anyW_mono (S := HeldC p.P ops ((i, execOp ca.eval o, con Γ v) :: Lc)) (fun j w hh x hx => hh x (List.mem_cons_of_mem _ hx)) _ _ _ _ ?_
      refine qK (v := con Γ v) (T := fun w => (execOp ca.eval o).run p.P w = .ok (.value (con Γ v)) w) hio hsel hfree hi (fun c a w hq => hQ _ _ _ _ hq)
       (fun j oj w hj hno hS => hS _ (List.mem_cons_self ..) (fun oj' hj' => by rw [hj] at hj'; cases hj'; exact hno)) (.inl ⟨hw, fun w hh => hh⟩) hrun ?_
      exact ih _ pl ((i, o, tm, v) :: L) _ h tm' h' hpl' he Γ _ w _ hr (ht.put hs (Ag.refl Γ h.next) hng o.dst v) (sc_put ht.sm hs (Nat.le_refl _) o.dst hscv) (by rw [put_defers]; exact hd)
       ⟨⟨rfl, ca, ht, hs, hop, rfl, rfl, hscv⟩, hL⟩ hn
     | eff v h1 => rw [hz] at he; cases he
    ·rename_i hwt
     have hw' : Region.wanted o (yielded ops ca.tmps) = false := by
      rw [hw]
      cases hq : wanted ops.toList tm o with
      | none => rfl
      | some b => cases b with
       | false => rfl
       | true => exact absurd hq hwt
     refine qK (v := undef) (T := fun _ => True) hio hsel hfree hi (fun c a w hq => hQ _ _ _ _ hq) (fun _ _ _ _ _ _ => trivial) (.inr ⟨hw', rfl⟩) trivial ?_
     have hput := ht.put hs (Ag.refl Γ h.next) hng o.dst undef
     rw [con_undef] at hput
     exact ih _ pl L _ h tm' h' hpl' he Γ _ w Lc hr hput (sc_put ht.sm hs (Nat.le_refl _) o.dst rfl) (by rw [put_defers]; exact hd) hL hn
   ·split at hpl
    ·rename_i o hio _
     split at hpl
     ·split at hpl <;> cases hpl
      rename_i pl hpl'
      have hoo : okOper p.NG o = true := hops o (by rw [← Array.getElem?_toList] at hio; exact List.mem_of_getElem? hio)
      have hw := wanted_eq ht ops o
      refine ⟨fun h0 => (by rw [hrd] at h0; cases h0), fun i hi => ?_⟩
      rw [hrd] at hi
      have hir : i = r := by simpa using hi
      subst hir
      unfold opW
      simp only [hio]
      simp only [evPlan] at he
      split at he
      ·rename_i hwt
       rw [hwt] at hw
       simp only [Option.getD_some] at hw
       simp only [hw, if_true]
       have hsp := evOp_spec p.P X rec o tm h
       cases hz : evOp p.P X rec o tm h with
       | no => rw [hz] at he; cases he
       | pure v => rw [hz] at he; cases he
       | read v => rw [hz] at he; cases he
       | eff v h1 =>
        rw [hz] at he hsp
        obtain ⟨hkp, hscv, he⟩ := okH_spec he
        refine evOp_run ok hrec hr ht hs hoo hsp hF fun Γ' w' hg hle hbel hr' => ?_
        have hL' := hL.ag hg hle hng
        exact ⟨.inl (kept_run hr' hio hL' hkp), ih _ pl L _ h1 tm' h' hpl' he Γ' _ w' Lc hr' (ht.put hs hg hng o.dst v) (sc_put ht.sm hs hle o.dst hscv) (by rw [put_defers]; exact hd) hL' (hn.step hg hle hbel)⟩
      ·rename_i hwt
       have hw' : Region.wanted o (yielded ops ca.tmps) = false := by
        rw [hw]
        cases hq : wanted ops.toList tm o with
        | none => rfl
        | some b => cases b with
         | false => rfl
         | true => exact absurd hq hwt
       simp only [hw', Bool.false_eq_true, if_false]
       have hput := ht.put hs (Ag.refl Γ h.next) hng o.dst undef
       rw [con_undef] at hput
       exact ⟨.inr trivial, ih _ pl L _ h tm' h' hpl' he Γ _ w Lc hr hput (sc_put ht.sm hs (Nat.le_refl _) o.dst rfl) (by rw [put_defers]; exact hd) hL hn⟩
     ·cases hpl
    ·cases hpl
structure Pn where
 j : Nat
 d : Option Tmp
 B : Nat
 t : FrT
def ptrB (k : Nat) : Value := .pointer (some ⟨k, 0, none⟩)
def qT (D : List Pn) (a : Act) : Act := D.foldr (fun x a => a.put x.d (x.t.val x.B)) a
def qX (D : List Pn) (l : Array Bool) : Array Bool := D.foldr (fun x l => l.setIfInBounds x.j true) l
def pD (p : Par) (D : List Pn) : Par := { p with B := fun k => p.B k ∨ ∃ x ∈ D, x.B = k }
structure PnOk (p : Par) (fa : Nat → Option FrT) (ops : Array Oper) (listed : Array Bool) (w : World) (x : Pn) : Prop where
 op : ∃ o, ops[x.j]? = some o ∧ fa x.j = some x.t ∧ o.dst = x.d
 un : listed.getD x.j true = false
 cell : w.heap[x.B]? = some (.cells ⟨x.t.cs⟩ x.t.e)
 free : ¬ p.B x.B
structure FaOk (P : Program) (ops : Array Oper) (l0 : Array Bool) (fa : Nat → Option FrT) : Prop where
 spec : ∀ i x, fa i = some x → ∃ o, ops[i]? = some o ∧ o.guard = none ∧ isEff P o = true ∧ (∀ e ∈ o.after, Region.binds .any e = true → l0.getD e.on false = true) ∧ flatL x.cs = true ∧ x.cs.all one = true ∧
  (∀ l c, x.sl = some (l, c) → c < UC) ∧ Region.free .any ops l0 i = true ∧ (∀ cs b, o.op ≠ .select cs b)
 size : l0.size = ops.size
def FaA (P : Program) (ops : Array Oper) (fa : Nat → Option FrT) (listed : Array Bool) (ca : Act) : Prop :=
 ∀ i x o, fa i = some x → listed.getD i true = false → ops[i]? = some o → ∀ w, (execOp ca.eval o).run P w = .ok (.value (x.val w.heap.size)) (w.alloc (.cells ⟨x.cs⟩ x.e))
theorem flatL_mem : ∀ {l : List Value}, flatL l = true → ∀ v ∈ l, flat v = true
 | [], _, v, hv => by cases hv
 | x :: xs, h, v, hv => by
  simp only [flatL, Bool.and_eq_true] at h
  cases hv with
  | head => exact h.1
  | tail _ hv => exact flatL_mem h.2 v hv
theorem HRel.congB {p : Par} {B' : Nat → Prop} {Γ : Gam} {h : Heap} {w : World} (hB : ∀ k, B' k ↔ p.B k) (hr : HRel { p with B := B' } Γ h w) : HRel p Γ h w :=
 ⟨hr.obj, fun i x h1 h2 h3 h4 => hr.base i x h1 h2 h3 ((hB _).2 h4), hr.inj, hr.lnk, hr.gl, fun i hi => (hB _).1 (hr.low i hi), hr.lo, hr.gn, hr.ng, fun k hk => hr.size k ((hB k).2 hk), hr.gs⟩
theorem putD_put {D : List Pn} {d : Option Tmp} (hd : ∀ x ∈ D, ∀ t, x.d = some t → d ≠ some t) (a : Act) (v : Value) : (qT D a).put d v = qT D (a.put d v) := by
 induction D with
 | nil => rfl
 | cons x D ih =>
  show ((qT D a).put x.d (x.t.val x.B)).put d v = (qT D (a.put d v)).put x.d (x.t.val x.B)
  rw [Act.put_comm _ _ _ (hd x (by simp)), ih (fun y hy => hd y (by simp [hy]))]
theorem putD_exec {D : List Pn} {ops : Array Oper} {o : Oper} (hs : ∀ cs b, o.op ≠ .select cs b) (hd : ∀ x ∈ D, ∀ t, x.d = some t → t ∉ o.looksAt ops) (a : Act) : execOp (qT D a).eval o = execOp a.eval o := by
 induction D with
 | nil => rfl
 | cons x D ih =>
  show execOp ((qT D a).put x.d (x.t.val x.B)).eval o = _
  rw [execOp_put o hs _ _ _ (hd x (by simp)), ih (fun y hy => hd y (by simp [hy]))]
theorem putD_wanted {D : List Pn} {ops : Array Oper} {o : Oper} (hd : ∀ x ∈ D, ∀ t, x.d = some t → t ∉ o.looksAt ops) (a : Act) :
  Region.wanted o (yielded ops (qT D a).tmps) = Region.wanted o (yielded ops a.tmps) := by
 induction D with
 | nil => rfl
 | cons x D ih =>
  show Region.wanted o (yielded ops ((qT D a).put x.d (x.t.val x.B)).tmps) = _
  rw [wanted_put o _ _ _ (hd x (by simp)), ih (fun y hy => hd y (by simp [hy]))]
theorem putD_def {D : List Pn} {a : Act} {l : List Deferred} : qT D { a with defers := l } = { qT D a with defers := l } := by
 induction D with
 | nil => rfl
 | cons x D ih =>
  show (qT D { a with defers := l }).put x.d (x.t.val x.B) = { (qT D a).put x.d (x.t.val x.B) with defers := l }
  rw [ih]; cases x.d <;> rfl
theorem putD_defers (D : List Pn) (a : Act) : (qT D a).defers = a.defers := by
 induction D with
 | nil => rfl
 | cons x D ih => show ((qT D a).put x.d (x.t.val x.B)).defers = _; rw [put_defers, ih]
theorem uponIn_putD {F : Fence} {n : Nat} {P : Program} {Q : Exit → Act → World → Prop} {D : List Pn} {o : Oper} {a : Act} {K : Act → World → Prop} (hc : ∀ (a : Act) (u : Value), (qT D a).put o.dst u = qT D (a.put o.dst u))
  (hQ : ∀ c a a' w, Q (.panic c) a w → Q (.panic c) a' w) {r : Result Go.Next} (h : o.uponIn F n P a (fun a' w => K (qT D a') w) Q r) : o.uponIn F n P (qT D a) K Q r := by
 cases r with
 | ok x w' =>
  cases x <;> simp only [Oper.uponIn] at h ⊢
  case value u => rw [hc]; exact h
  case skip => rw [hc]; exact h
  case defer d =>
   have e : ({ qT D a with defers := d :: (qT D a).defers } : Act) = qT D { a with defers := d :: a.defers } :=
    (congrArg (fun l => ({ qT D a with defers := l } : Act)) (congrArg (fun l => d :: l) (putD_defers D a))).trans putD_def.symm
   rw [e, hc]; exact h
  case enter f args =>
   refine ⟨h.1, CallsIn.mono h.2 fun e w'' he => ?_⟩
   cases e with
   | returned u => show K _ _; rw [hc]; exact he
   | panicked c => exact hQ _ _ _ _ he
   | outgrown => exact he
  case row row args => exact ⟨h.1, RowsIn.mono h.2 fun u w'' he => by rw [hc]; exact he⟩
  case round l f tmps as bd =>
   refine ⟨h.1, RoundIn.mono h.2 fun e w'' he => ?_⟩
   cases e with
   | returned u => show K _ _; rw [hc]; exact he
   | panicked c => exact hQ _ _ _ _ he
   | outgrown => exact he
 | halt x w' =>
  cases x <;> simp only [Oper.uponIn] at h ⊢
  exact hQ _ _ _ _ h
theorem listD_set {D : List Pn} {i : Nat} (hi : ∀ x ∈ D, x.j ≠ i) (l : Array Bool) : (qX D l).setIfInBounds i true = qX D (l.setIfInBounds i true) := by
 induction D with
 | nil => rfl
 | cons x D ih =>
  show ((qX D l).setIfInBounds x.j true).setIfInBounds i true = (qX D (l.setIfInBounds i true)).setIfInBounds x.j true
  rw [Array.setIfInBounds_comm _ _ (hi x (by simp)), ih (fun y hy => hi y (by simp [hy]))]
theorem listD_ne {D : List Pn} {l : Array Bool} {j : Nat} (hj : ∀ x ∈ D, x.j ≠ j) (d : Bool) : (qX D l).getD j d = l.getD j d := by
 induction D with
 | nil => rfl
 | cons x D ih =>
  show ((qX D l).setIfInBounds x.j true).getD j d = _
  rw [getD_set_ne d (hj x (by simp)), ih (fun y hy => hj y (by simp [hy]))]
theorem getD_tf {l : Array Bool} {j : Nat} : l.getD j true = false → l.getD j false = false := fun h => by
 rcases Nat.lt_or_ge j l.size with h' | h'
 ·simp [h'] at h ⊢; exact h
 ·simp [Array.getElem?_eq_none h']
theorem getD_set_self {l : Array Bool} {j : Nat} : (l.setIfInBounds j true).getD j true = true := by
 rcases Nat.lt_or_ge j l.size with h' | h'
 ·simp [h']
 ·simp [h']
theorem listD_un {D : List Pn} {l : Array Bool} {j : Nat} (h : (qX D l).getD j true = false) : l.getD j true = false ∧ ∀ x ∈ D, x.j ≠ j := by
 induction D with
 | nil => exact ⟨h, fun x hx => by cases hx⟩
 | cons x D ih =>
  have h : ((qX D l).setIfInBounds x.j true).getD j true = false := h
  have hne : x.j ≠ j := fun e => by subst e; rw [getD_set_self] at h; cases h
  rw [getD_set_ne true hne] at h
  obtain ⟨h1, h2⟩ := ih h
  exact ⟨h1, fun y hy => by rcases List.mem_cons.1 hy with e | hy; · rw [e]; exact hne
                            ·exact h2 y hy⟩
theorem listD_ready {D : List Pn} {ops : Array Oper} {l : Array Bool} {i : Nat} (hi : i ∈ Region.ready .any ops l) (hne : ∀ x ∈ D, x.j ≠ i) : i ∈ Region.ready .any ops (qX D l) := by
 induction D with
 | nil => exact hi
 | cons x D ih => exact ready_mono (ih (fun y hy => hne y (by simp [hy]))) (Ne.symm (hne x (by simp)))
theorem free_listD {D : List Pn} {ops : Array Oper} {l : Array Bool} {i : Nat} (h : Region.free .any ops l i = true) : Region.free .any ops (qX D l) i = true := by
 unfold Region.free at h ⊢
 cases hi : ops[i]? with
 | none => rw [hi] at h; cases h
 | some oi =>
  rw [hi] at h
  simp only [List.all_eq_true, List.mem_range, Bool.or_eq_true] at h ⊢
  intro j hj
  rcases h j hj with (h1 | h1) | h1
  ·exact .inl (.inl h1)
  ·refine .inl (.inr ?_)
   cases hb : (qX D l).getD j true with
   | true => rfl
   | false => rw [(listD_un hb).1] at h1; cases h1
  ·exact .inr h1
theorem isFr_some {fa : Nat → Option FrT} {i : Nat} (h : qU fa i = true) : ∃ x, fa i = some x := by
 unfold qU at h
 exact Option.isSome_iff_exists.1 h
theorem fresh_ready {P : Program} {ops : Array Oper} {l0 l : Array Bool} {fa : Nat → Option FrT} (hF : FaOk P ops l0 fa) (hl : ∀ j, l0.getD j false = true → l.getD j false = true) {j : Nat} (hf : qU fa j = true) (hu : l.getD j true = false) : j ∈ Region.ready .any ops l := by
 obtain ⟨x, hx⟩ := isFr_some hf
 obtain ⟨o, ho, _, _, ha, _⟩ := hF.spec j x hx
 exact mem_ready.2 ⟨hu, o, ho, fun e he hb => hl _ (ha e he hb)⟩
theorem un_l0 {l0 l : Array Bool} {n : Nat} (hs : l0.size = n) (hl : ∀ j, l0.getD j false = true → l.getD j false = true) {k : Nat} (hk : k < n) (hu : l.getD k true = false) : l0.getD k true = false := by
 have h1 : l.getD k false = false := getD_tf hu
 cases h : l0.getD k true with
 | false => rfl
 | true =>
  have : l0.getD k false = true := by
   have hlt : k < l0.size := by omega
   simp only [Array.getD_eq_getD_getElem?, Array.getElem?_eq_getElem hlt, Option.getD_some] at h ⊢
   exact h
  rw [hl k this] at h1; cases h1
theorem fresh_apart {P : Program} {ops : Array Oper} {l0 l : Array Bool} {fa : Nat → Option FrT} (hF : FaOk P ops l0 fa) (hl : ∀ j, l0.getD j false = true → l.getD j false = true) {j k : Nat} {oj ok : Oper} {x : FrT} (hj : ops[j]? = some oj) (hf : fa j = some x) (hk : ops[k]? = some ok) (hne : k ≠ j)
  (hu : l.getD k true = false) (hno : ∀ e ∈ ok.after, Region.binds .any e = true → e.on ≠ j) : oj.apart ops ok = true := by
 obtain ⟨o, ho, _, _, _, _, _, _, hfree, _⟩ := hF.spec j x hf
 exact Region.free_spec hj hfree k ok hk hne (un_l0 hF.size hl (Array.getElem?_eq_some_iff.1 hk).1 hu) hno
theorem FaA.put {P : Program} {ops : Array Oper} {l0 l : Array Bool} {fa : Nat → Option FrT} (hF : FaOk P ops l0 fa) (hl : ∀ j, l0.getD j false = true → l.getD j false = true) {ca : Act} (h : FaA P ops fa l ca) {k : Nat} {ok : Oper} (hk : ops[k]? = some ok)
  (hr : k ∈ Region.ready .any ops l) (v : Value) : FaA P ops fa (l.setIfInBounds k true) (ca.put ok.dst v) := by
 intro i x o hx hu hi w
 obtain ⟨hku, o', ho', hall⟩ := mem_ready.1 hr
 rw [hk] at ho'; cases ho'
 have hne : k ≠ i := fun e => by subst e; rw [getD_set_self] at hu; cases hu
 rw [getD_set_ne true hne] at hu
 obtain ⟨_, _, _, _, _, _, _, _, _, hs⟩ := hF.spec i x hx
 have hap := fresh_apart hF hl hi hx hk hne hku (fun e he hb hon => by
  have := hall e he hb
  rw [hon, getD_tf hu] at this; cases this)
 obtain ⟨_, _, h3⟩ := Oper.apart_spec hap
 have hs' : ∀ cs b, o.op ≠ .select cs b := by
  obtain ⟨o2, ho2, _, _, _, _, _, _, _, hs2⟩ := hF.spec i x hx
  rw [hi] at ho2; cases ho2; exact hs2
 rw [execOp_put (ops := ops) o hs' _ _ _ (fun d hd => h3 d hd)]
 exact h i x o hx hu hi w
theorem listAll_gen {fa : Nat → Option FrT} (i : Nat) : ∀ (l : List Nat) (a : Array Bool), (l.foldl (fun l i => match qU fa i with | true => l.setIfInBounds i true | false => l) a).getD i true = false ↔
  a.getD i true = false ∧ (i ∈ l → qU fa i = false)
 | [], a => by simp
 | x :: l, a => by
  rw [List.foldl_cons, listAll_gen i l]
  cases hx : qU fa x with
  | false =>
   dsimp only
   constructor
   ·rintro ⟨h1, h2⟩
    refine ⟨h1, fun h => ?_⟩
    rcases List.mem_cons.1 h with e | h
    ·rw [e]; exact hx
    ·exact h2 h
   ·rintro ⟨h1, h2⟩
    exact ⟨h1, fun h => h2 (by simp [h])⟩
  | true =>
   dsimp only
   by_cases e : x = i
   ·subst e
    rw [getD_set_self]
    constructor
    ·rintro ⟨h1, _⟩; cases h1
    ·rintro ⟨_, h2⟩
     have := h2 (by simp); rw [hx] at this; cases this
   ·rw [getD_set_ne true e]
    constructor
    ·rintro ⟨h1, h2⟩
     refine ⟨h1, fun h => ?_⟩
     rcases List.mem_cons.1 h with e2 | h
     ·exact absurd e2.symm e
     ·exact h2 h
    ·rintro ⟨h1, h2⟩
     exact ⟨h1, fun h => h2 (by simp [h])⟩
theorem listAll_true {fa : Nat → Option FrT} (j : Nat) : ∀ (l : List Nat) (a : Array Bool), a.getD j false = true ∨ (j ∈ l ∧ qU fa j = true ∧ j < a.size) →
  (l.foldl (fun l i => match qU fa i with | true => l.setIfInBounds i true | false => l) a).getD j false = true
 | [], a, h => by rcases h with h | h; · exact h
                  ·cases h.1
 | x :: l, a, h => by
  rw [List.foldl_cons]
  refine listAll_true j l _ ?_
  cases hx : qU fa x with
  | false =>
   dsimp only
   rcases h with h | ⟨h1, h2, h3⟩
   ·exact .inl h
   ·rcases List.mem_cons.1 h1 with e | h1
    ·rw [← e, h2] at hx; cases hx
    ·exact .inr ⟨h1, h2, h3⟩
  | true =>
   dsimp only
   rcases h with h | ⟨h1, h2, h3⟩
   ·exact .inl (getD_set_true h)
   ·by_cases e : x = j
    ·subst e; left; simp [h3]
    ·rcases List.mem_cons.1 h1 with e2 | h1
     ·exact absurd e2.symm e
     ·exact .inr ⟨h1, h2, by simpa using h3⟩
theorem fresh_count {P : Program} {ops : Array Oper} {l0 : Array Bool} {fa : Nat → Option FrT} (hF : FaOk P ops l0 fa) : ∀ (n : Nat) (listed : Array Bool) (pl : List PS), (∀ j, l0.getD j false = true → listed.getD j false = true) → qE P fa ops n listed = some pl → ∀ J : List Nat, J.Nodup → (∀ j ∈ J, qU fa j = true ∧ listed.getD j true = false) → J.length ≤ n
 | 0, listed, pl, hl, h, J, hn, hJ => by
  unfold qE at h
  split at h <;> cases h
  rename_i hrd
  cases J with
  | nil => simp
  | cons j J =>
   have := fresh_ready hF hl (hJ j (by simp)).1 (hJ j (by simp)).2
   rw [hrd] at this; cases this
 | n + 1, listed, pl, hl, h, J, hn, hJ => by
  have step : ∀ i pl', qE P fa ops n (listed.setIfInBounds i true) = some pl' → J.length ≤ n + 1 := fun i pl' h' => by
   have := fresh_count hF n _ pl' (fun j hj => getD_set_true (hl j hj)) h' (J.erase i) (hn.erase i) (fun j hj => by
    have hm := List.mem_of_mem_erase hj
    have hne : i ≠ j := fun e => by subst e; exact hn.not_mem_erase hj
    exact ⟨(hJ j hm).1, by rw [getD_set_ne true hne]; exact (hJ j hm).2⟩)
   have h2 := List.length_erase_le (a := i) (l := J)
   have h3 : J.length ≤ (J.erase i).length + 1 := by rw [List.length_erase]; split <;> omega
   omega
  unfold qE at h
  split at h
  ·rename_i hrd
   cases J with
   | nil => simp
   | cons j J =>
    have := fresh_ready hF hl (hJ j (by simp)).1 (hJ j (by simp)).2
    rw [hrd] at this; cases this
  ·split at h
   ·split at h <;> cases h
    rename_i hp; exact step _ _ hp
   ·split at h
    ·split at h
     ·rename_i hp
      split at h <;> cases h
      exact step _ _ hp
     ·cases h
    ·split at h
     ·rename_i hp; cases h; exact step _ _ hp
     ·cases h
    ·cases h
theorem keptAll_run {p : Par} {Γ : Gam} {n : Nat} {h : Heap} {w : World} (hr : HRel p Γ h w) {NG : Nat} (hN : p.NG = NG) {p0 : Par} (hP : p0.P = p.P) (hN0 : p0.NG = p.NG) :
  ∀ {L : Held} {Lc : List (Nat × Sem Go.Next × Value)}, HeldR p0 Γ n L Lc → qA p.P h L = true → ∀ x ∈ Lc, x.2.1.run p.P w = .ok (.value x.2.2) w
 | [], [], _, _ => fun x hx => by cases hx
 | [], _ :: _, h, _ => h.elim
 | _ :: _, [], h, _ => by simp [HeldR] at h
 | (i, o', tm, v) :: L, (i', s, u) :: Lc, hh, hk => by
  obtain ⟨⟨h0, ca0, h1, h2, h3, h4, h5, h6⟩, h7⟩ := hh
  simp only [qA] at hk
  intro x hx
  split at hk
  ·rename_i v' hv'
   split at hk
   ·rename_i hbq
    cases hx with
    | head =>
     have := beqV_eq v v' hbq
     subst this
     rw [h4, h5]
     rw [hN0] at h1 h3
     exact evRead_run hr h1 h3 (fRead_eq hv')
    | tail _ hx => exact keptAll_run hr hN hP hN0 h7 hk x hx
   ·cases hk
  ·cases hk
theorem okHL_spec {P : Program} {d : Option Tmp} {L : Held} {k : KT} {tm : VT} {h : Heap} {v : Value} {r : VT × Heap} (he : okHL P d L k tm v h = some r) :
  qA P h L = true ∧ sc h.next v = true ∧ k (put tm d v) h = some r := by
 unfold okHL at he
 cases hk : qA P h L with
 | false => rw [hk] at he; cases he
 | true => rw [hk] at he; exact ⟨rfl, okE_spec he⟩
theorem HRel.protect {p : Par} {D : List Pn} {Γ : Gam} {h : Heap} {w : World} (hr : HRel (pD p D) Γ h w) (x : Pn) (hx : x.B = w.heap.size) (o : Obj) : HRel (pD p (x :: D)) Γ h (w.alloc o) := by
 have hheap : ∀ i, i < w.heap.size → (w.alloc o).heap[i]? = w.heap[i]? := fun i hi => Below.heap_alloc w o i hi
 refine ⟨fun i y hy => ⟨(hr.obj i y hy).1, ?_⟩, fun i y hy ho hi hB => ?_, hr.inj, hr.lnk, hr.gl, fun i hi => ?_, hr.lo, hr.gn, hr.ng, fun k hk => ?_, hr.gs⟩
 ·cases ho : owned y with
  | false => exact OR_not ho
  | true => exact OR.ag (p := pD p D) (hr.obj i y hy).2 (Ag.refl _ _) (Nat.le_refl _) hr.gn (hr.obj i y hy).1 (hheap _ (OR_lt (hr.obj i y hy).2 ho))
 ·have h1 := hr.base i y hy ho hi
  have h2 := OR_lt (hr.obj i y hy).2 ho
  rcases hB with hB | ⟨z, hz, hB⟩
  ·exact h1 (.inl hB)
  ·rcases List.mem_cons.1 hz with e | hz
   ·subst e; omega
   ·exact h1 (.inr ⟨z, hz, hB⟩)
 ·rcases hr.low i hi with h1 | ⟨z, hz, h1⟩
  ·exact .inl h1
  ·exact .inr ⟨z, by simp [hz], h1⟩
 ·have hs : (w.alloc o).heap.size = w.heap.size + 1 := by simp
  rw [hs]
  rcases hk with hk | ⟨z, hz, hk⟩
  ·exact Nat.lt_succ_of_lt (hr.size k (.inl hk))
  ·rcases List.mem_cons.1 hz with e | hz
   ·subst e; omega
   ·exact Nat.lt_succ_of_lt (hr.size k (.inr ⟨z, hz, hk⟩))
theorem HRel.adopt {p : Par} {D D' : List Pn} {Γ : Gam} {h : Heap} {w : World} (hr : HRel (pD p D) Γ h w) (hlow : ∀ i, i < p.G → p.B (Γ.b i)) {x : Pn} (hx : x ∈ D) (hsub : ∀ y ∈ D', y ∈ D ∧ y.B ≠ x.B) (hfree : ¬ p.B x.B)
  (hflat : flatL x.t.cs = true) (h1 : x.t.cs.all one = true) (hc : w.heap[x.B]? = some (.cells ⟨x.t.cs⟩ x.t.e)) :
  HRel (pD p D') (Γ.ext h.next x.B 0) (h.new ⟨.cells ⟨x.t.cs⟩ x.t.e (0, 0), false⟩).2 w := by
 rw [Heap.new_eq]
 have hag := Γ.ext_ag h.next x.B 0
 have hget : ∀ j, ({ t := h.t.put h.next ⟨.cells ⟨x.t.cs⟩ x.t.e (0, 0), false⟩, next := h.next + 1, lo := h.lo } : Heap).get j = if j = h.next then some ⟨.cells ⟨x.t.cs⟩ x.t.e (0, 0), false⟩ else h.get j := fun j => by
  simp only [Heap.get]
  exact Tr.get_put h.t h.next _ j
 have hnone : h.get h.next = none := by
  cases hq : h.get h.next with
  | none => rfl
  | some y => exact absurd (hr.obj _ y hq).1 (Nat.lt_irrefl _)
 obtain ⟨hch, hpa, hln⟩ := upd_ch (h' := ({ t := h.t.put h.next ⟨.cells ⟨x.t.cs⟩ x.t.e (0, 0), false⟩, next := h.next + 1, lo := h.lo } : Heap)) hget (by rw [hnone]; rfl) rfl
 have hGn : ∀ i, i < p.G → i < h.next := fun i hi => Nat.lt_of_lt_of_le hi hr.gn
 have hb : ∀ i, i < h.next → (Γ.ext h.next x.B 0).b i = Γ.b i := fun i hi => hag.b i hi
 have hBsub : ∀ k, (pD p D').B k → (pD p D).B k := fun k hk => by
  rcases hk with hk | ⟨y, hy, hk⟩
  ·exact .inl hk
  ·exact .inr ⟨y, (hsub y hy).1, hk⟩
 have hnot : ¬ (pD p D').B x.B := fun hk => by
  rcases hk with hk | ⟨y, hy, hk⟩
  ·exact hfree hk
  ·exact (hsub y hy).2 hk
 have hin : (pD p D).B x.B := .inr ⟨x, hx, rfl⟩
 refine ⟨fun i y hy => ?_, fun i y hy hoy hi => ?_, fun i j y z hy hoy hz hoz hi hj e => ?_, hr.lnk.congr hch hpa hln, fun g hg => ?_, fun i hi => ?_, hr.lo, Nat.le_succ_of_le hr.gn, hr.ng, fun k hk => hr.size k (hBsub k hk), hr.gs⟩
 ·rw [hget] at hy
  split at hy
  ·rename_i e; cases hy; subst e
   refine ⟨Nat.lt_succ_self _, ?_⟩
   simp only [OR]
   refine ⟨fun _ => ⟨fun v hv => ⟨List.all_eq_true.1 h1 v hv, flat_sc _ v (flatL_mem hflat v hv)⟩, [], (0, 0), ?_, .inr rfl, fun _ => rfl, fun hm => by cases hm⟩, fun h0 => absurd h0 (Nat.not_lt.2 hr.gn)⟩
   rw [Gam.ext_b, hc]
   have : x.t.cs.map (con (Γ.ext h.next x.B 0)) = x.t.cs := by rw [← conL_map]; exact conL_flat _ _ hflat
   rw [this, List.append_nil]
  ·have hlt := (hr.obj i y hy).1
   refine ⟨Nat.lt_succ_of_lt hlt, ?_⟩
   exact OR.ag (p := pD p D) (hr.obj i y hy).2 hag (Nat.le_succ _) hr.gn hlt rfl
 ·rw [hget] at hy
  split at hy
  ·rename_i e; subst e; rw [Gam.ext_b]; exact hnot
  ·rw [hb i (hr.obj i y hy).1]; exact fun hk => hr.base i y hy hoy hi (hBsub _ hk)
 ·rw [hget] at hy hz
  split at hy
  ·rename_i ei
   split at hz
   ·rename_i ej; subst ei; subst ej; exact .inl (.refl _)
   ·rw [hb j (hr.obj j z hz).1] at e; subst ei; rw [Gam.ext_b] at e
    exact absurd (e ▸ hin) (hr.base j z hz hoz hj)
  ·split at hz
   ·rename_i ej; subst ej; rw [hb i (hr.obj i y hy).1, Gam.ext_b] at e
    exact absurd (e ▸ hin) (hr.base i y hy hoy hi)
   ·rw [hb i (hr.obj i y hy).1, hb j (hr.obj j z hz).1] at e
    exact (hr.inj i j y z hy hoy hz hoz hi hj e).imp (·.congr hch) (·.congr hch)
 ·rw [hb g (hGn g (Nat.lt_of_lt_of_le hg hr.ng))]; exact hr.gl g hg
 ·rw [hb i (hGn i hi)]; exact .inl (hlow i hi)
theorem run_fresh {P : Program} {ρ : Operand → Value} {o : Oper} {e : TypeId} {z : Value} (ho : o.op = .alloc e) (hz : zeroOf P e = some z) (w : World) :
  (execOp ρ o).run P w = .ok (.value (ptrB w.heap.size)) (w.alloc (.cells z.cells e)) := by
 have hzi := run_zeroOf hz w
 simp only [execOp, ho, Instr.alloc, Sem.run_bind, hzi, Result.andThen_ok, newVar, newRow, run_newObj, Sem.run_pure, World.alloc_eq, ptrB]
theorem con_val (Γ : Gam) (n b k : Nat) {x : FrT} (hc : ∀ l c, x.sl = some (l, c) → c < UC) : con (Γ.ext n b k) (x.val n) = x.val b := by
 unfold FrT.val
 cases hs : x.sl with
 | none => exact con_ptr_ext Γ n b k
 | some y =>
  obtain ⟨l, c⟩ := y
  simp [con, jC, conCap, Gam.ext_b, hc l c hs]
theorem putD_pop {D : List Pn} (hd : ∀ x ∈ D, ∀ y ∈ D, x.j ≠ y.j → ∀ t, x.d = some t → y.d ≠ some t) (hn : (D.map Pn.j).Nodup) {x : Pn} (hx : x ∈ D) (a : Act) (l : Array Bool) :
  qT D a = qT (D.filter fun y => y.j != x.j) (a.put x.d (x.t.val x.B)) ∧ qX D l = qX (D.filter fun y => y.j != x.j) (l.setIfInBounds x.j true) ∧ (D.filter fun y => y.j != x.j).length + 1 = D.length := by
 induction D with
 | nil => cases hx
 | cons y D ih =>
  rw [List.map_cons, List.nodup_cons] at hn
  rcases List.mem_cons.1 hx with e | hx'
  ·subst e
   have hf : (List.filter (fun y => y.j != x.j) (x :: D)) = D := by
    rw [List.filter_cons]
    simp only [bne_self_eq_false, Bool.false_eq_true, if_false]
    rw [List.filter_eq_self]
    intro z hz
    simp only [bne_iff_ne, ne_eq]
    exact fun e => hn.1 (List.mem_map.2 ⟨z, hz, e⟩)
   rw [hf]
   have hne : ∀ z ∈ D, z.j ≠ x.j := fun z hz e => hn.1 (List.mem_map.2 ⟨z, hz, e⟩)
   exact ⟨putD_put (fun z hz t ht => hd z (by simp [hz]) x (by simp) (hne z hz) t ht) a _, listD_set hne l, rfl⟩
  ·have hne : y.j ≠ x.j := fun e => hn.1 (List.mem_map.2 ⟨x, hx', e.symm⟩)
   obtain ⟨h1, h2, h3⟩ := ih (fun u hu v hv => hd u (by simp [hu]) v (by simp [hv])) hn.2 hx'
   have hf : (List.filter (fun z => z.j != x.j) (y :: D)) = y :: D.filter (fun z => z.j != x.j) := by
    rw [List.filter_cons]; simp [hne]
   rw [hf]
   refine ⟨?_, ?_, by simp only [List.length_cons]; omega⟩
   ·show (qT D a).put y.d _ = (qT (D.filter _) _).put y.d _
    rw [h1]
   ·show (qX D l).setIfInBounds y.j true = (qX (D.filter _) _).setIfInBounds y.j true
    rw [h2]
theorem okRd_spec {P : Program} {x : Nat × Oper × VT × Value} {k : KT} {tm : VT} {h : Heap} {r : VT × Heap} (he : okRd P x k tm h = some r) : qA P h [x] = true ∧ k tm h = some r := by
 unfold okRd at he
 cases hk : qA P h [x] with
 | false => rw [hk] at he; cases he
 | true => rw [hk] at he; exact ⟨rfl, he⟩
theorem keptAll_cons {P : Program} {x : Nat × Oper × VT × Value} {h : Heap} {L : Held} (h1 : qA P h [x] = true) (h2 : qA P h L = true) : qA P h (x :: L) = true := by
 obtain ⟨i, o, tm, v⟩ := x
 simp only [qA] at h1 ⊢
 split at h1
 ·split at h1
  ·simp only [*]
  ·cases h1
 ·cases h1
theorem evPlanL_run {p : Par} {X : Ext} (ok : ∀ B, Ok { p with B := B } X) {rec : Rec} (hrec : ∀ B, RecS { p with B := B } rec) {ops : Array Oper} (hops : ∀ o ∈ ops.toList, okOper p.NG o = true) {F : Fence} (hF : FW F) {n0 : Nat} {Q : Exit → Act → World → Prop}
  (hQ : ∀ c a a' w, Q (.panic c) a w → Q (.panic c) a' w) {df : List Deferred} {l0 : Array Bool} {fa : Nat → Option FrT} (hF0 : FaOk p.P ops l0 fa) :
  ∀ (N m n : Nat) (listed : Array Bool) (pl : List PS) (L : Held) (tm : VT) (h : Heap) (tm' : VT) (h' : Heap) (D : List Pn), m + n ≤ N → m + D.length = n → (∀ j, l0.getD j false = true → listed.getD j false = true) → qE p.P fa ops n listed = some pl → jW p.P X rec fa ops.toList pl L tm h = some (tm', h') →
  ∀ (Γ : Gam) (ca : Act) (w : World) (Lc : List (Nat × Sem Go.Next × Value)), HRel (pD p D) Γ h w → (∀ i, i < p.G → p.B (Γ.b i)) → Tm Γ p.NG tm ca → (∀ x ∈ tm.arr.toList, sc h.next x = true) → ca.defers = df → HeldR p Γ h.next L Lc → qA p.P h L = true →
  FaA p.P ops fa listed ca → (∀ x ∈ D, PnOk p fa ops listed w x) → (D.map Pn.j).Nodup → (∀ x ∈ D, ∀ y ∈ D, x.j ≠ y.j → x.B ≠ y.B) →
  Next p Γ h w tm' h' df (fun a w => Q .normal a w) →
  anyW F n0 p.P .any ops Q (HeldC p.P ops Lc) m (qX D listed) (qT D ca) w := by
 intro N
 have hsel : Region.noSelect ops = true := by
  simp only [Region.noSelect, Array.all_eq_true_iff_forall_mem]
  intro o ho
  have := okOper_plain (hops o (by simpa using ho))
  split
  ·rename_i cs b hc; exact absurd hc (this.2 cs b)
  ·rfl
 have hoo : ∀ {i : Nat} {o : Oper}, ops[i]? = some o → okOper p.NG o = true := fun {i o} hio => hops o (by rw [← Array.getElem?_toList] at hio; exact List.mem_of_getElem? hio)
 induction N with
 | zero =>
  intro m n listed pl L tm h tm' h' D hN hmn hll hpl he Γ ca w Lc hr hlow ht hs hd hL hka hA hD hDn hDB hn
  obtain rfl : m = 0 := by omega
  obtain rfl : n = 0 := by omega
  obtain rfl : D = [] := List.length_eq_zero_iff.1 (by omega)
  unfold qE at hpl
  split at hpl <;> cases hpl
  rename_i hrd
  simp only [jW, Option.some.injEq, Prod.mk.injEq] at he
  obtain ⟨rfl, rfl⟩ := he
  exact ⟨hrd, hn.go Γ ca w (Ag.refl _ _) (Nat.le_refl _) (jN.refl _ _) (HRel.congB (B' := (pD p []).B) (fun k => by simp [pD]) hr) ht hs hd⟩
 | succ N ih =>
  intro m n listed pl L tm h tm' h' D hN hmn hll hpl he Γ ca w Lc hr hlow ht hs hd hL hka hA hD hDn hDB hn
  have hng : p.NG ≤ h.next := by have := hr.ng; have := hr.gn; exact Nat.le_trans ‹p.NG ≤ p.G› ‹p.G ≤ h.next›
  have hfresh : ∀ x ∈ D, qU fa x.j = true := fun x hx => by
   obtain ⟨⟨o, ho, hfo, _⟩, _⟩ := hD x hx
   unfold qU; rw [hfo]; rfl
  have hlls : ∀ i, ∀ j, l0.getD j false = true → (listed.setIfInBounds i true).getD j false = true := fun i j hj => getD_set_true (hll j hj)
  have hcnt : D.length ≤ n := by omega
  have hJ : ∀ j ∈ D.map Pn.j, qU fa j = true ∧ listed.getD j true = false := fun j hj => by
   obtain ⟨x, hx, rfl⟩ := List.mem_map.1 hj
   exact ⟨hfresh x hx, (hD x hx).un⟩
  have hap : ∀ {i : Nat} {o : Oper}, ops[i]? = some o → qU fa i = false → i ∈ Region.ready .any ops listed → ∀ x ∈ D, (∀ t, x.d = some t → t ∉ o.looksAt ops) ∧ (∀ t, x.d = some t → o.dst ≠ some t) := fun {i o} hio hnf hi x hx => by
   obtain ⟨⟨ox, hox, hfx, hdx⟩, hun, _, _⟩ := hD x hx
   have hne : i ≠ x.j := fun e => by subst e; rw [hfresh x hx] at hnf; cases hnf
   have := fresh_apart hF0 hll hox hfx hio hne (mem_ready.1 hi).1 (fun e he hb hon => by
    obtain ⟨_, o', ho', hall⟩ := mem_ready.1 hi
    rw [hio] at ho'; cases ho'
    have := hall e he hb
    rw [hon, getD_tf hun] at this; cases this)
   obtain ⟨h1, h2, _⟩ := Oper.apart_spec this
   rw [hdx] at h1 h2
   exact ⟨h1, h2⟩
  have hpair : ∀ x ∈ D, ∀ y ∈ D, x.j ≠ y.j → ∀ t, x.d = some t → y.d ≠ some t := fun x hx y hy hne t ht' => by
   obtain ⟨⟨ox, hox, hfx, hdx⟩, hunx, _⟩ := hD x hx
   obtain ⟨⟨oy, hoy, hfy, hdy⟩, huny, _⟩ := hD y hy
   have := fresh_apart hF0 hll hox hfx hoy (Ne.symm hne) huny (fun e he hb hon => by
    obtain ⟨oy', hoy', _, _, ha, _⟩ := hF0.spec _ _ hfy
    rw [hoy] at hoy'; cases hoy'
    have := hll _ (ha e he hb)
    rw [hon, getD_tf hunx] at this; cases this)
   obtain ⟨_, h2, _⟩ := Oper.apart_spec this
   rw [← hdy]; exact h2 t (by rw [hdx]; exact ht')
  have early : ∀ (m' : Nat), m = m' + 1 → ∀ i ∈ Region.ready .any ops (qX D listed), qU fa i = true →
    opW F n0 p.P ops Q i (fun a' w' => (HeldC p.P ops Lc i w' ∨ w' = w) ∧ anyW F n0 p.P .any ops Q (HeldC p.P ops Lc) m' ((qX D listed).setIfInBounds i true) a' w') (qT D ca) w := fun m' hm i hi hf => by
   obtain ⟨xt, hfo⟩ := isFr_some hf
   obtain ⟨o, hio, hg, _, haf, hzf, hz1, hcU, _, hsl⟩ := hF0.spec i xt hfo
   obtain ⟨hun, hniD⟩ := listD_un (mem_ready.1 hi).1
   have hlook : ∀ y ∈ D, ∀ t, y.d = some t → t ∉ o.looksAt ops := fun y hy t ht' => by
    obtain ⟨⟨oy, hoy, hfy, hdy⟩, huny, _⟩ := hD y hy
    have := fresh_apart hF0 hll hoy hfy hio (fun e => hniD y hy e.symm) hun (fun e he hb hon => by
     have := hll _ (haf e he hb)
     rw [hon, getD_tf huny] at this; cases this)
    exact (Oper.apart_spec this).1 t (by rw [hdy]; exact ht')
   have hexe := putD_exec (ops := ops) (o := o) hsl hlook ca
   have hrunf := hA i xt o hfo hun hio w
   unfold opW
   simp only [hio]
   have hwt : Region.wanted o (yielded ops (qT D ca).tmps) = true := by unfold Region.wanted; rw [hg]
   rw [hexe]
   simp only [hwt, if_true, hrunf, Oper.uponIn]
   let x : Pn := ⟨i, o.dst, w.heap.size, xt⟩
   have hr1 : HRel (pD p (x :: D)) Γ h (w.alloc (.cells ⟨xt.cs⟩ xt.e)) := hr.protect x rfl _
   have hfreeB : ¬ p.B w.heap.size := fun hk => Nat.lt_irrefl _ (hr.size _ (.inl hk))
   have hkeep : jN p.B w (w.alloc (.cells ⟨xt.cs⟩ xt.e)) := (jN.refl _ _).alloc (fun k hk => hr.size k (.inl hk)) _
   refine ⟨.inl fun y hy _ => keptAll_run (p := pD p (x :: D)) (p0 := p) hr1 rfl rfl rfl hL hka y hy, ?_⟩
   refine ih m' n listed pl L tm h tm' h' (x :: D) (by omega) (by simp only [List.length_cons]; omega) hll hpl he Γ ca _ Lc hr1 hlow ht hs hd hL hka hA ?_ ?_ ?_ (hn.step (Ag.refl _ _) (Nat.le_refl _) hkeep)
   ·intro y hy
    rcases List.mem_cons.1 hy with e2 | hy
    ·subst e2
     exact ⟨⟨o, hio, hfo, rfl⟩, hun, heap_alloc_new w _, hfreeB⟩
    ·have hyo := hD y hy
     refine ⟨hyo.op, hyo.un, ?_, hyo.free⟩
     rw [Below.heap_alloc w _ _ (Array.getElem?_eq_some_iff.1 hyo.cell).1]; exact hyo.cell
   ·rw [List.map_cons, List.nodup_cons]
    refine ⟨fun hm => ?_, hDn⟩
    obtain ⟨y, hy, e2⟩ := List.mem_map.1 hm
    exact hniD y hy e2
   ·have hlt : ∀ y ∈ D, y.B < w.heap.size := fun y hy => (Array.getElem?_eq_some_iff.1 (hD y hy).cell).1
    intro y hy u hu hne
    rcases List.mem_cons.1 hy with e2 | hy <;> rcases List.mem_cons.1 hu with e3 | hu
    ·subst e2; subst e3; exact absurd rfl hne
    ·subst e2; have := hlt u hu; show w.heap.size ≠ u.B; omega
    ·subst e3; have := hlt y hy; show y.B ≠ w.heap.size; omega
    ·exact hDB y hy u hu hne
  cases n with
  | zero =>
   obtain rfl : m = 0 := by omega
   obtain rfl : D = [] := List.length_eq_zero_iff.1 (by omega)
   unfold qE at hpl
   split at hpl <;> cases hpl
   rename_i hrd
   simp only [jW, Option.some.injEq, Prod.mk.injEq] at he
   obtain ⟨rfl, rfl⟩ := he
   exact ⟨hrd, hn.go Γ ca w (Ag.refl _ _) (Nat.le_refl _) (jN.refl _ _) (HRel.congB (B' := (pD p []).B) (fun k => by simp [pD]) hr) ht hs hd⟩
  | succ n =>
   have hpl0 := hpl
   unfold qE at hpl
   split at hpl
   ·rename_i hrd
    cases hpl
    simp only [jW, Option.some.injEq, Prod.mk.injEq] at he
    obtain ⟨rfl, rfl⟩ := he
    have hDe : D = [] := by
     cases D with
     | nil => rfl
     | cons x D =>
      have := fresh_ready hF0 hll (hfresh x (by simp)) (hD x (by simp)).un
      rw [hrd] at this; cases this
    subst hDe
    have hfin : Q .normal ca w := hn.go Γ ca w (Ag.refl _ _) (Nat.le_refl _) (jN.refl _ _) (HRel.congB (B' := (pD p []).B) (fun k => by simp [pD]) hr) ht hs hd
    cases m with
    | zero => exact ⟨hrd, hfin⟩
    | succ m => exact ⟨fun _ => hfin, fun i hi => by have hi : i ∈ Region.ready .any ops listed := hi; rw [hrd] at hi; cases hi⟩
   ·rename_i r rs hrd
    split at hpl
    ·-- one that may be taken first
     rename_i i o hff
     obtain ⟨hi, hio, hfree, hne⟩ := firstFree_spec hff
     rw [← hrd] at hi
     have hop : o.op.operands.all (okOpd p.NG) = true := by have := hoo hio; simp only [okOper, Bool.and_eq_true] at this; exact this.1
     have hnf : qU fa i = false := by
      cases hfb : qU fa i with
      | false => rfl
      | true =>
       obtain ⟨xt, hxt⟩ := isFr_some hfb
       obtain ⟨o', ho', _, heff, _⟩ := hF0.spec i xt hxt
       rw [hio] at ho'; cases ho'
       rw [heff] at hne; cases hne
     have hij : ∀ x ∈ D, x.j ≠ i := fun x hx e => by subst e; rw [hfresh x hx] at hnf; cases hnf
     split at hpl <;> cases hpl
     rename_i pl hpl'
     cases m with
     | zero =>
      have := fresh_count hF0 n _ pl (hlls _) hpl' (D.map Pn.j) hDn (fun j hj => ⟨(hJ j hj).1, by
       obtain ⟨x, hx, rfl⟩ := List.mem_map.1 hj
       rw [getD_set_ne true (Ne.symm (hij x hx))]; exact (hD x hx).un⟩)
      rw [List.length_map] at this; omega
     | succ m =>
      have hapi := hap hio hnf hi
      have hD' : ∀ x ∈ D, PnOk p fa ops (listed.setIfInBounds i true) w x := fun x hx => ⟨(hD x hx).op, by rw [getD_set_ne true (Ne.symm (hij x hx))]; exact (hD x hx).un, (hD x hx).cell, (hD x hx).free⟩
      have hw := wanted_eq ht ops o
      have hwD := putD_wanted (fun x hx => (hapi x hx).1) ca
      have hexD := putD_exec (ops := ops) (o := o) (fun cs b => (okOper_plain (hoo hio)).2 cs b) (fun x hx => (hapi x hx).1) ca
      have hpp := fun v => putD_put (fun x hx => (hapi x hx).2) ca v
      have hi' := listD_ready (D := D) hi hij
      have hfree' := free_listD (D := D) hfree
      simp only [jW] at he
      split at he
      ·rename_i hwt
       rw [hwt] at hw
       have hsp := evOp_spec p.P X rec o tm h
       cases hz : evOp p.P X rec o tm h with
       | no => rw [hz] at he; cases he
       | pure v =>
        rw [hz] at he hsp
        obtain ⟨hscv, he⟩ := okV_spec he
        refine qK (v := con Γ v) (T := fun _ => True) hio hsel hfree' hi' (fun c a w hq => hQ _ _ _ _ hq) (fun _ _ _ _ _ _ => trivial) (.inl ⟨hwD.trans hw, fun w _ => by rw [hexD]; exact evPure_run ht hop hsp w⟩) trivial ?_
        rw [listD_set hij, hpp]
        exact ih m n _ pl L _ h tm' h' D (by omega) (by omega) (hlls _) hpl' he Γ _ w Lc hr hlow (ht.put hs (Ag.refl Γ h.next) hng o.dst v) (sc_put ht.sm hs (Nat.le_refl _) o.dst hscv) (by rw [put_defers]; exact hd) hL hka (hA.put hF0 hll hio hi _) hD' hDn hDB hn
       | read v =>
        rw [hz] at he hsp
        obtain ⟨hscv, he⟩ := okVH_spec he
        obtain ⟨hkr1, he⟩ := okRd_spec he
        have hkr := keptAll_cons hkr1 hka
        have hrun := evRead_run (p := pD p D) hr ht hop hsp
        refine anyW_mono (S := HeldC p.P ops ((i, execOp ca.eval o, con Γ v) :: Lc)) (fun j w hh x hx => hh x (List.mem_cons_of_mem _ hx)) _ _ _ _ ?_
        refine qK (v := con Γ v) (T := fun w => (execOp ca.eval o).run p.P w = .ok (.value (con Γ v)) w) hio hsel hfree' hi' (fun c a w hq => hQ _ _ _ _ hq)
         (fun j oj w hj hno hS => hS _ (List.mem_cons_self ..) (fun oj' hj' => by rw [hj] at hj'; cases hj'; exact hno)) (.inl ⟨hwD.trans hw, fun w hh => by rw [hexD]; exact hh⟩) hrun ?_
        rw [listD_set hij, hpp]
        refine ih m n _ pl ((i, o, tm, v) :: L) _ h tm' h' D (by omega) (by omega) (hlls _) hpl' he Γ _ w _ hr hlow (ht.put hs (Ag.refl Γ h.next) hng o.dst v) (sc_put ht.sm hs (Nat.le_refl _) o.dst hscv) (by rw [put_defers]; exact hd)
         ⟨⟨rfl, ca, ht, hs, hop, rfl, rfl, hscv⟩, hL⟩ hkr (hA.put hF0 hll hio hi _) hD' hDn hDB hn
       | eff v h1 => rw [hz] at he; cases he
      ·rename_i hwt
       have hw' : Region.wanted o (yielded ops (qT D ca).tmps) = false := by
        rw [hwD, hw]
        cases hq : wanted ops.toList tm o with
        | none => rfl
        | some b => cases b with
         | false => rfl
         | true => exact absurd hq hwt
       refine qK (v := undef) (T := fun _ => True) hio hsel hfree' hi' (fun c a w hq => hQ _ _ _ _ hq) (fun _ _ _ _ _ _ => trivial) (.inr ⟨hw', rfl⟩) trivial ?_
       have hput := ht.put hs (Ag.refl Γ h.next) hng o.dst undef
       rw [con_undef] at hput
       rw [listD_set hij, hpp]
       exact ih m n _ pl L _ h tm' h' D (by omega) (by omega) (hlls _) hpl' he Γ _ w Lc hr hlow hput (sc_put ht.sm hs (Nat.le_refl _) o.dst rfl) (by rw [put_defers]; exact hd) hL hka (hA.put hF0 hll hio hi _) hD' hDn hDB hn
    ·split at hpl
     ·-- the one that turns memory
      rename_i q q' hq hq'
      split at hpl
      ·rename_i o pl1 hqq hio hpl'
       split at hpl <;> cases hpl
       have hqq := Nat.eq_of_beq_eq_true hqq
       subst hqq
       have hqm : q ∈ (r :: rs).filter (fun i => !qU fa i) := by rw [hq]; simp
       obtain ⟨hqr, hqf⟩ := List.mem_filter.1 hqm
       rw [← hrd] at hqr
       have hnf : qU fa q = false := by simpa using hqf
       have hij : ∀ x ∈ D, x.j ≠ q := fun x hx e => by subst e; rw [hfresh x hx] at hnf; cases hnf
       cases m with
       | zero =>
        have := fresh_count hF0 n _ pl1 (hlls _) hpl' (D.map Pn.j) hDn (fun j hj => ⟨(hJ j hj).1, by
         obtain ⟨x, hx, rfl⟩ := List.mem_map.1 hj
         rw [getD_set_ne true (Ne.symm (hij x hx))]; exact (hD x hx).un⟩)
        rw [List.length_map] at this; omega
       | succ m =>
        refine ⟨fun h0 => (by have := listD_ready (D := D) hqr hij; rw [h0] at this; cases this), fun i hi => ?_⟩
        cases hif : qU fa i with
        | true => exact early m rfl i hi hif
        | false =>
         have hiq : i = q := by
          have : i ∈ Region.ready .any ops (listAll fa ops listed) := by
           obtain ⟨hun, o', ho', hall⟩ := mem_ready.1 hi
           refine mem_ready.2 ⟨(listAll_gen i _ _).2 ⟨(listD_un hun).1, fun _ => hif⟩, o', ho', fun e he hb => ?_⟩
           have h1 := hall e he hb
           refine listAll_true _ _ _ ?_
           by_cases hex : ∃ x ∈ D, x.j = e.on
           ·obtain ⟨x, hx, hxe⟩ := hex
            right
            have hlt : x.j < listed.size := by
             rcases Nat.lt_or_ge x.j listed.size with h' | h'
             ·exact h'
             ·have := (hD x hx).un; simp [Array.getElem?_eq_none h'] at this
            obtain ⟨⟨ox, hox, _⟩, _⟩ := hD x hx
            rw [← hxe]
            exact ⟨List.mem_range.2 (Array.getElem?_eq_some_iff.1 hox).1, hfresh x hx, hlt⟩
           ·left
            rw [listD_ne (fun x hx e => hex ⟨x, hx, e⟩)] at h1
            exact h1
          rw [hq'] at this
          simpa using this
         subst hiq
         have hapi := hap hio hnf hqr
         have hw := wanted_eq ht ops o
         have hwD := putD_wanted (fun x hx => (hapi x hx).1) ca
         have hexD := putD_exec (ops := ops) (o := o) (fun cs b => (okOper_plain (hoo hio)).2 cs b) (fun x hx => (hapi x hx).1) ca
         unfold opW
         simp only [hio]
         rw [hwD, hexD]
         simp only [jW] at he
         split at he
         ·rename_i hwt
          rw [hwt] at hw
          simp only [Option.getD_some] at hw
          simp only [hw, if_true]
          have hsp := evOp_spec p.P X rec o tm h
          cases hz : evOp p.P X rec o tm h with
          | no => rw [hz] at he; cases he
          | pure v => rw [hz] at he; cases he
          | read v => rw [hz] at he; cases he
          | eff v h1 =>
           rw [hz] at he hsp
           obtain ⟨hkp, hscv, he⟩ := okHL_spec he
           refine uponIn_putD (fun a u => putD_put (fun x hx => (hapi x hx).2) a u) hQ ?_
           refine evOp_run (p := pD p D) (ok _) (hrec _) hr ht hs (hoo hio) hsp hF fun Γ' w' hg hle hbel hr' => ?_
           have hL' := hL.ag hg hle hng
           have hD' : ∀ x ∈ D, PnOk p fa ops (listed.setIfInBounds i true) w' x := fun x hx => ⟨(hD x hx).op, by rw [getD_set_ne true (Ne.symm (hij x hx))]; exact (hD x hx).un, by rw [hbel.block x.B (.inr ⟨x, hx, rfl⟩)]; exact (hD x hx).cell, (hD x hx).free⟩
           refine ⟨.inl fun y hy _ => keptAll_run (p := pD p D) (p0 := p) hr' rfl rfl rfl hL' hkp y hy, ?_⟩
           rw [listD_set hij]
           exact ih m n _ pl1 L _ h1 tm' h' D (by omega) (by omega) (hlls _) hpl' he Γ' _ w' Lc hr' (fun j hj => by rw [hg.b j (Nat.lt_of_lt_of_le hj hr.gn)]; exact hlow j hj) (ht.put hs hg hng o.dst v) (sc_put ht.sm hs hle o.dst hscv) (by rw [put_defers]; exact hd) hL' hkp (hA.put hF0 hll hio hqr _) hD' hDn hDB (hn.step hg hle (hbel.mono fun k hk => .inl hk))
         ·rename_i hwt
          have hw' : Region.wanted o (yielded ops ca.tmps) = false := by
           rw [hw]
           cases hq : wanted ops.toList tm o with
           | none => rfl
           | some b => cases b with
            | false => rfl
            | true => exact absurd hq hwt
          simp only [hw', Bool.false_eq_true, if_false]
          have hD' : ∀ x ∈ D, PnOk p fa ops (listed.setIfInBounds i true) w x := fun x hx => ⟨(hD x hx).op, by rw [getD_set_ne true (Ne.symm (hij x hx))]; exact (hD x hx).un, (hD x hx).cell, (hD x hx).free⟩
          have hput := ht.put hs (Ag.refl Γ h.next) hng o.dst undef
          rw [con_undef] at hput
          refine ⟨.inr trivial, ?_⟩
          rw [listD_set hij, putD_put (fun x hx => (hapi x hx).2) ca _]
          exact ih m n _ pl1 L _ h tm' h' D (by omega) (by omega) (hlls _) hpl' he Γ _ w Lc hr hlow hput (sc_put ht.sm hs (Nat.le_refl _) o.dst rfl) (by rw [put_defers]; exact hd) hL hka (hA.put hF0 hll hio hqr _) hD' hDn hDB hn
      ·cases hpl
     ·-- a new variable, at its turn
      rename_i hq
      split at hpl
      ·rename_i o pl1 hdep hio hpl'
       cases hpl
       have hrr : r ∈ Region.ready .any ops listed := by rw [hrd]; simp
       have hrf : qU fa r = true := by
        cases hf : qU fa r with
        | true => rfl
        | false =>
         have : r ∈ (r :: rs).filter (fun i => !qU fa i) := List.mem_filter.2 ⟨by simp, by rw [hf]; rfl⟩
         rw [hq] at this; cases this
       have hrun : listed.getD r true = false := (mem_ready.1 hrr).1
       by_cases hex : ∃ x ∈ D, x.j = r
       ·obtain ⟨x, hx, hxr⟩ := hex
        subst hxr
        obtain ⟨⟨ox, hox, hfx, hdx⟩, hunx, hcx, hfx2⟩ := hD x hx
        rw [hio] at hox; cases hox
        obtain ⟨_, _, _, _, _, hzf, hz1, hcU, _, _⟩ := hF0.spec _ _ hfx
        obtain ⟨hp1, hp2, hp3⟩ := putD_pop hpair hDn hx ca listed
        rw [hp1, hp2]
        simp only [jW, hfx] at he
        ·obtain ⟨hkp, hscv, he⟩ := okHL_spec he
         have hsub : ∀ y ∈ D.filter (fun y => y.j != x.j), y ∈ D ∧ y.B ≠ x.B := fun y hy => by
          obtain ⟨h1, h2⟩ := List.mem_filter.1 hy
          exact ⟨h1, hDB y h1 x hx (by simpa using h2)⟩
         have hr1 := hr.adopt hlow hx hsub hfx2 hzf hz1 hcx
         have hg := Γ.ext_ag h.next x.B 0
         have hle : h.next ≤ (h.new ⟨.cells ⟨x.t.cs⟩ x.t.e (0, 0), false⟩).2.next := by rw [Heap.new_eq]; exact Nat.le_succ _
         have hcv : con (Γ.ext h.next x.B 0) (x.t.val h.next) = x.t.val x.B := con_val Γ h.next x.B 0 hcU
         have htp := ht.put hs hg hng o.dst (x.t.val h.next)
         rw [hcv, hdx] at htp
         refine ih m n _ pl1 L _ _ tm' h' _ (by omega) (by omega) (hlls _) hpl' he _ _ w Lc hr1 (fun j hj => by rw [hg.b j (Nat.lt_of_lt_of_le hj hr.gn)]; exact hlow j hj) (by rw [hdx]; exact htp) (sc_put ht.sm hs hle o.dst hscv) (by rw [put_defers]; exact hd) (hL.ag hg hle hng) hkp (by rw [← hdx]; exact hA.put hF0 hll hio hrr _) ?_ ?_ ?_ (hn.step hg hle (jN.refl _ _))
         ·intro y hy
          obtain ⟨h1, h2⟩ := List.mem_filter.1 hy
          have h2 : y.j ≠ x.j := by simpa using h2
          exact ⟨(hD y h1).op, by rw [getD_set_ne true (Ne.symm h2)]; exact (hD y h1).un, (hD y h1).cell, (hD y h1).free⟩
         ·exact List.Nodup.sublist (List.Sublist.map _ List.filter_sublist) hDn
         ·intro y hy u hu hne
          exact hDB y (List.mem_filter.1 hy).1 u (List.mem_filter.1 hu).1 hne
       ·have hrD : r ∈ Region.ready .any ops (qX D listed) := listD_ready hrr (fun x hx e => hex ⟨x, hx, e⟩)
        cases m with
        | zero =>
         have := fresh_count hF0 (n + 1) listed _ hll hpl0 (r :: D.map Pn.j) (by
          rw [List.nodup_cons]
          exact ⟨fun hm => by obtain ⟨x, hx, e⟩ := List.mem_map.1 hm; exact hex ⟨x, hx, e⟩, hDn⟩) (fun j hj => by
          rcases List.mem_cons.1 hj with e | hj
          ·subst e; exact ⟨hrf, hrun⟩
          ·exact hJ j hj)
         simp only [List.length_cons, List.length_map] at this; omega
        | succ m =>
         refine ⟨fun h0 => (by rw [h0] at hrD; cases hrD), fun i hi => ?_⟩
         cases hif : qU fa i with
         | true => exact early m rfl i hi hif
         | false =>
          exfalso
          obtain ⟨hun, o', ho', hall⟩ := mem_ready.1 hi
          have hun2 := (listD_un hun).1
          unfold depsOk at hdep
          rw [List.all_eq_true] at hdep
          have hne : i ≠ r := fun e => by subst e; rw [hrf] at hif; cases hif
          have hif2 : qU (fun k => match Nat.beq k r with | true => none | false => fa k) i = false := by
           unfold qU at hif ⊢
           cases hb : Nat.beq i r with
           | true => simp only [hb]; rfl
           | false => simp only [hb]; exact hif
          have hin : i ∈ Region.ready .any ops (listAll (fun k => match Nat.beq k r with | true => none | false => fa k) ops listed) := by
           refine mem_ready.2 ⟨(listAll_gen i _ _).2 ⟨hun2, fun _ => hif2⟩, o', ho', fun e he hb => ?_⟩
           have h1 := hall e he hb
           refine listAll_true _ _ _ ?_
           by_cases hex2 : ∃ x ∈ D, x.j = e.on
           ·obtain ⟨x, hx, hxe⟩ := hex2
            right
            have hlt : x.j < listed.size := by
             rcases Nat.lt_or_ge x.j listed.size with h' | h'
             ·exact h'
             ·have := (hD x hx).un; simp [Array.getElem?_eq_none h'] at this
            obtain ⟨⟨ox, hox, _⟩, _⟩ := hD x hx
            rw [← hxe]
            have hxr : Nat.beq x.j r = false := by
             cases hb2 : Nat.beq x.j r with
             | false => rfl
             | true => exact absurd ⟨x, hx, Nat.eq_of_beq_eq_true hb2⟩ hex
            refine ⟨List.mem_range.2 (Array.getElem?_eq_some_iff.1 hox).1, ?_, hlt⟩
            have h3 := hfresh x hx
            unfold qU at h3 ⊢
            simp only [hxr]
            exact h3
           ·left
            rw [listD_ne (fun x hx e => hex2 ⟨x, hx, e⟩)] at h1
            exact h1
          have := hdep i hin
          rw [hif] at this; cases this
      ·cases hpl
     ·cases hpl
theorem mkTakes_size {P : Program} {ops : Array Oper} : ∀ (n : Nat) (l : Array Bool), (jL P ops n l).2.1.size = l.size
 | 0, l => rfl
 | n + 1, l => by
  unfold jL
  split
  ·exact (mkTakes_size n _).trans (by simp)
  ·rfl
theorem evTakes_run {p : Par} {X : Ext} {rec : Rec} {ops : Array Oper} (hops : ∀ o ∈ ops.toList, okOper p.NG o = true) {F : Fence} {n0 : Nat} {Q : Exit → Act → World → Prop}
  (hQ : ∀ c a a' w, Q (.panic c) a w → Q (.panic c) a' w) {df : List Deferred} {Γ : Gam} {h : Heap} {w : World} (hr : HRel p Γ h w) {K : Held → KT} {r : VT × Heap} {n1 : Nat} {l1 : Array Bool}
  (hK : ∀ (L : Held) (tm : VT) (ca : Act) (Lc : List (Nat × Sem Go.Next × Value)), K L tm h = some r → Tm Γ p.NG tm ca → (∀ x ∈ tm.arr.toList, sc h.next x = true) → ca.defers = df → HeldR p Γ h.next L Lc → qA p.P h L = true →
   anyW F n0 p.P .any ops Q (HeldC p.P ops Lc) n1 l1 ca w) :
  ∀ (n : Nat) (listed : Array Bool) (L : Held) (tm : VT) (ca : Act) (Lc : List (Nat × Sem Go.Next × Value)), (jL p.P ops n listed).2 = (l1, n1) → evTakes p.P X rec ops.toList K (jL p.P ops n listed).1 L tm h = some r →
   Tm Γ p.NG tm ca → (∀ x ∈ tm.arr.toList, sc h.next x = true) → ca.defers = df → HeldR p Γ h.next L Lc → qA p.P h L = true → anyW F n0 p.P .any ops Q (HeldC p.P ops Lc) n listed ca w := by
 have hsel : Region.noSelect ops = true := by
  simp only [Region.noSelect, Array.all_eq_true_iff_forall_mem]
  intro o ho
  have := okOper_plain (hops o (by simpa using ho))
  split
  ·rename_i cs b hc; exact absurd hc (this.2 cs b)
  ·rfl
 have hng : p.NG ≤ h.next := by have := hr.ng; have := hr.gn; exact Nat.le_trans ‹p.NG ≤ p.G› ‹p.G ≤ h.next›
 have hoo : ∀ {i : Nat} {o : Oper}, ops[i]? = some o → okOper p.NG o = true := fun {i o} hio => hops o (by rw [← Array.getElem?_toList] at hio; exact List.mem_of_getElem? hio)
 intro n
 induction n with
 | zero =>
  intro listed L tm ca Lc hm he ht hs hd hL hka
  simp only [jL, Prod.mk.injEq] at hm
  obtain ⟨rfl, rfl⟩ := hm
  exact hK L tm ca Lc he ht hs hd hL hka
 | succ n ih =>
  intro listed L tm ca Lc hm he ht hs hd hL hka
  cases hff : firstFree p.P ops listed (Region.ready .any ops listed) with
  | none =>
   simp only [jL, hff, Prod.mk.injEq] at hm he
   obtain ⟨rfl, rfl⟩ := hm
   exact hK L tm ca Lc he ht hs hd hL hka
  | some io =>
   obtain ⟨i, o⟩ := io
   obtain ⟨hi, hio, hfree, hne⟩ := firstFree_spec hff
   have hop : o.op.operands.all (okOpd p.NG) = true := by have := hoo hio; simp only [okOper, Bool.and_eq_true] at this; exact this.1
   have hw := wanted_eq ht ops o
   simp only [jL, hff] at hm he
   simp only [evTakes] at he
   split at he
   ·rename_i hwt
    rw [hwt] at hw
    have hsp := evOp_spec p.P X rec o tm h
    cases hz : evOp p.P X rec o tm h with
    | no => rw [hz] at he; cases he
    | pure v =>
     rw [hz] at he hsp
     obtain ⟨hscv, he⟩ := okV_spec he
     refine qK (v := con Γ v) (T := fun _ => True) hio hsel hfree hi (fun c a w hq => hQ _ _ _ _ hq) (fun _ _ _ _ _ _ => trivial) (.inl ⟨hw, fun w _ => evPure_run ht hop hsp w⟩) trivial ?_
     exact ih _ L _ _ Lc hm he (ht.put hs (Ag.refl Γ h.next) hng o.dst v) (sc_put ht.sm hs (Nat.le_refl _) o.dst hscv) (by rw [put_defers]; exact hd) hL hka
    | read v =>
     rw [hz] at he hsp
     obtain ⟨hscv, he⟩ := okVH_spec he
     obtain ⟨hkr1, he⟩ := okRd_spec he
     have hkr := keptAll_cons hkr1 hka
     have hrun := evRead_run hr ht hop hsp
     refine anyW_mono (S := HeldC p.P ops ((i, execOp ca.eval o, con Γ v) :: Lc)) (fun j w hh x hx => hh x (List.mem_cons_of_mem _ hx)) _ _ _ _ ?_
     refine qK (v := con Γ v) (T := fun w => (execOp ca.eval o).run p.P w = .ok (.value (con Γ v)) w) hio hsel hfree hi (fun c a w hq => hQ _ _ _ _ hq)
      (fun j oj w hj hno hS => hS _ (List.mem_cons_self ..) (fun oj' hj' => by rw [hj] at hj'; cases hj'; exact hno)) (.inl ⟨hw, fun w hh => hh⟩) hrun ?_
     exact ih _ ((i, o, tm, v) :: L) _ _ _ hm he (ht.put hs (Ag.refl Γ h.next) hng o.dst v) (sc_put ht.sm hs (Nat.le_refl _) o.dst hscv) (by rw [put_defers]; exact hd)
      ⟨⟨rfl, ca, ht, hs, hop, rfl, rfl, hscv⟩, hL⟩ hkr
    | eff v h1 => rw [hz] at he; cases he
   ·rename_i hwt
    have hw' : Region.wanted o (yielded ops ca.tmps) = false := by
     rw [hw]
     cases hq : wanted ops.toList tm o with
     | none => rfl
     | some b => cases b with
      | false => rfl
      | true => exact absurd hq hwt
    refine qK (v := undef) (T := fun _ => True) hio hsel hfree hi (fun c a w hq => hQ _ _ _ _ hq) (fun _ _ _ _ _ _ => trivial) (.inr ⟨hw', rfl⟩) trivial ?_
    have hput := ht.put hs (Ag.refl Γ h.next) hng o.dst undef
    rw [con_undef] at hput
    exact ih _ L _ _ Lc hm he hput (sc_put ht.sm hs (Nat.le_refl _) o.dst rfl) (by rw [put_defers]; exact hd) hL hka
theorem frAlloc_spec {P : Program} {e : TypeId} {x : FrT} (h : frAlloc P e = some x) : ∃ z, zeroOf P e = some z ∧ x = ⟨e, z.cells.toList, none⟩ ∧ flatL z.cells.toList = true ∧ z.cells.toList.all one = true := by
 unfold frAlloc at h
 split at h
 ·rename_i z hz
  split at h <;> cases h
  rename_i hb
  simp only [Bool.and_eq_true] at hb
  exact ⟨z, hz, rfl, hb.1, hb.2⟩
 ·cases h
theorem frMake_spec {P : Program} {t : TypeId} {lv cv : Value} {x : FrT} (h : frMake P t lv cv = some x) : flatL x.cs = true ∧ x.cs.all one = true ∧ (∀ l c, x.sl = some (l, c) → c < UC) ∧
  ∀ (Γ : Gam) (w : World), (Instr.makeSlice t (con Γ lv) (con Γ cv)).run P w = .ok (x.val w.heap.size) (w.alloc (.cells ⟨x.cs⟩ x.e)) := by
 have hU := U_le
 unfold frMake at h
 split at h
 ·rename_i e kl l kc c hs
  split at h
  ·rename_i i hi
   split at h
   ·rename_i z hb hz
    simp only [Bool.and_eq_true, Nat.ble_eq, Nat.blt_eq] at hb
    split at h <;> cases h
    rename_i hzz
    simp only [Bool.and_eq_true, Nat.beq_eq, Nat.blt_eq] at hzz
    obtain ⟨⟨⟨hz1, hz2⟩, hzf⟩, hzo⟩ := hzz
    refine ⟨hzf, hzo, fun l' c' e' => ?_, fun Γ w => ?_⟩
    ·cases e'; have := U_UC; omega
    ·have hm : (i.bytes : Int) * (c : Int) ≤ 281474976710656 := by
      have : ((i.bytes * c : Nat) : Int) ≤ 281474976710656 := by rw [Nat.mul_comm]; omega
      rwa [Int.natCast_mul] at this
     have hrun := run_make (P := P) w t e i z hs hi hz kl kc (l : Int) (c : Int) (Int.natCast_nonneg _) (by omega) hm (by omega)
     have hcells : madeCells z.cells (c * i.size) = ⟨(List.replicate c z.cells.toList).flatten⟩ := by
      apply Array.ext'
      have := rep_cells z.cells c
      rw [hz1] at this
      simpa [madeCells, hz1] using this
     simp only [con] at hrun ⊢
     have e1 : Int.ofNat l = (l : Int) := rfl
     have e2 : Int.ofNat c = (c : Int) := rfl
     rw [e1, e2, hrun]
     simp only [Int.toNat_natCast, hcells, FrT.val]
   ·cases h
  ·cases h
 ·cases h
theorem frBuild_spec {P : Program} {t : TypeId} {len : Nat} {parts : List (Nat × Value)} {x : FrT} (h : frBuild P t len parts = some x) : flatL x.cs = true ∧ x.cs.all one = true ∧ (∀ l c, x.sl = some (l, c) → c < UC) ∧
  ∀ (Γ : Gam) (w : World), (Instr.buildSlice t len ⟨parts.map fun y => (y.1, con Γ y.2)⟩).run P w = .ok (x.val w.heap.size) (w.alloc (.cells ⟨x.cs⟩ x.e)) := by
 unfold frBuild at h
 split at h
 ·rename_i e hs
  split at h
  ·rename_i i hi
   split at h
   ·rename_i z hb hz
    simp only [Nat.ble_eq] at hb
    split at h
    ·rename_i hzz
     simp only [Bool.and_eq_true, Nat.beq_eq, Nat.blt_eq] at hzz
     obtain ⟨⟨hz1, hz2⟩, hzf⟩ := hzz
     split at h
     ·rename_i cs hcs
      split at h <;> cases h
      rename_i hfo
      rw [Bool.and_eq_true] at hfo
      have hlen0 : len ≤ 16777216 := by
       have : len * 1 ≤ len * i.size := Nat.mul_le_mul_left _ hz2
       omega
      have hlenU : len < UC := by
       have : (16777216 : Nat) < UC := by unfold UC; decide
       omega
      refine ⟨hfo.1, hfo.2, fun l c e => by cases e; exact hlenU, fun Γ w => ?_⟩
      have hzm : z.cells.toList.map (con Γ) = z.cells.toList := by rw [← conL_map]; exact conL_flat Γ _ hzf
      have hfill := fillL_run Γ _ _ _ _ hcs
      rw [map_flatten_flat Γ hzm] at hfill
      have hcm : cs.map (con Γ) = cs := by rw [← conL_map]; exact conL_flat Γ _ hfo.1
      rw [hcm] at hfill
      have hb' : ¬ (len * i.size > 2 ^ 24) := by
       have : (2 : Nat) ^ 24 = 16777216 := by decide
       omega
      have hrow := rep_cells z.cells len
      rw [hz1] at hrow
      have hz0 : (zeroValue e).run P w = .ok z w := by simp [zeroValue, typeInfo, hi, hz]
      simp only [Instr.buildSlice, Sem.run_bind, run_under hs, Result.andThen_ok, sizeOf, typeInfo, run_program, hi, Sem.run_pure, if_neg hb']
      by_cases hl0 : len * i.size = 0
      ·have hlen : len = 0 := by
        rcases Nat.mul_eq_zero.1 hl0 with h0 | h0
        ·exact h0
        ·omega
       subst hlen
       simp only [Nat.zero_mul, if_true, Sem.run_bind, Sem.run_pure, Result.andThen_ok] at hfill ⊢
       have hemp : ((Array.range 0).map fun (x : Nat) => (#[] : Array Value)[x % (#[] : Array Value).size]!) = ⟨[]⟩ := by simp
       simp only [List.replicate_zero, List.flatten_nil] at hfill
       rw [hemp, hfill]
       simp [newRow, FrT.val]
      ·simp only [if_neg hl0, Sem.run_bind, hz0, Result.andThen_ok, Sem.run_pure]
       have harr : ((Array.range (len * i.size)).map fun (x : Nat) => z.cells[x % z.cells.size]!) = ⟨(List.replicate len z.cells.toList).flatten⟩ := by
        apply Array.ext'
        rw [hz1]
        exact hrow
       rw [harr, hfill]
       simp [newRow, FrT.val]
     ·cases h
    ·cases h
   ·cases h
  ·cases h
 ·cases h
theorem frAt_get {P : Program} {ops : Array Oper} {l0 : Array Bool} {tm : VT} {k i : Nat} {x : FrT} (h : frAt P ops l0 tm k i = some x) : Region.free .any ops l0 i = true ∧ ∃ o, ops[i]? = some o ∧ o.guard = none ∧ (∀ e ∈ o.after, Region.binds .any e = true → l0.getD e.on false = true) ∧
  ((∃ e, o.op = .alloc e ∧ frAlloc P e = some x) ∨ (∃ t l c, o.op = .makeSlice t l c ∧ frMake P t (ev tm l) (ev tm c) = some x) ∨ ∃ t len parts, o.op = .buildSlice t len parts ∧ frBuild P t len (parts.toList.map fun (j, x) => (j, ev tm x)) = some x) := by
 unfold frAt at h
 split at h
 ·rename_i hfree
  have hfree := (Bool.and_eq_true _ _ ▸ hfree : _ ∧ _).2
  split at h
  ·rename_i o ho
   unfold frOf at h
   split at h
   ·rename_i hb
    simp only [Bool.and_eq_true, List.all_eq_true, Bool.or_eq_true, Bool.not_eq_true', Option.isNone_iff_eq_none] at hb
    refine ⟨hfree, o, ho, hb.1.1, fun e he hbe => ?_, ?_⟩
    ·rcases hb.2 e (by simpa using he) with h1 | h1
     ·rw [hbe] at h1; cases h1
     ·exact h1
    ·split at h
     ·rename_i e hop; exact .inl ⟨e, hop, h⟩
     ·rename_i t l c hop; exact .inr (.inl ⟨t, l, c, hop, h⟩)
     ·rename_i t l c hop; exact .inr (.inr ⟨t, l, c, hop, h⟩)
     ·cases h
   ·cases h
  ·cases h
 ·cases h
theorem frAt_ok {P : Program} {ops : Array Oper} {l0 : Array Bool} {tm : VT} {k : Nat} (hs : l0.size = ops.size) : FaOk P ops l0 (frAt P ops l0 tm k) := by
 refine ⟨fun i x hx => ?_, hs⟩
 obtain ⟨hfree, o, ho, hg, haf, hop⟩ := frAt_get hx
 rcases hop with ⟨e, hop, h⟩ | ⟨t, l, c, hop, h⟩ | ⟨t, l, c, hop, h⟩
 ·obtain ⟨z, hz, rfl, h1, h2⟩ := frAlloc_spec h
  exact ⟨o, ho, hg, by unfold isEff; rw [hop], haf, h1, h2, fun l c e => (by cases e), hfree, fun cs b e => by rw [hop] at e; cases e⟩
 ·obtain ⟨h1, h2, h3, _⟩ := frMake_spec h
  exact ⟨o, ho, hg, by unfold isEff; rw [hop], haf, h1, h2, h3, hfree, fun cs b e => by rw [hop] at e; cases e⟩
 ·obtain ⟨h1, h2, h3, _⟩ := frBuild_spec h
  exact ⟨o, ho, hg, by unfold isEff; rw [hop], haf, h1, h2, h3, hfree, fun cs b e => by rw [hop] at e; cases e⟩
theorem frAt_A {P : Program} {ops : Array Oper} {NG : Nat} (hops : ∀ o ∈ ops.toList, okOper NG o = true) {l0 listed : Array Bool} {tm : VT} {k : Nat} {Γ : Gam} {ca : Act} (ht : Tm Γ NG tm ca) : FaA P ops (frAt P ops l0 tm k) listed ca := by
 intro i x o hx _ hi w
 obtain ⟨_, o', ho, _, _, hop⟩ := frAt_get hx
 rw [hi] at ho; cases ho
 have hok : okOper NG o = true := hops o (by rw [← Array.getElem?_toList] at hi; exact List.mem_of_getElem? hi)
 rcases hop with ⟨e, hop, h⟩ | ⟨t, l, c, hop, h⟩ | ⟨t, len, parts, hop, h⟩
 ·obtain ⟨z, hz, rfl, _, _⟩ := frAlloc_spec h
  exact run_fresh hop hz w
 ·obtain ⟨_, _, _, h4⟩ := frMake_spec h
  simp only [okOper, Bool.and_eq_true, hop, Op.operands, Array.all_eq_true_iff_forall_mem] at hok
  have hl := ht.eval (hok.1 l (by simp))
  have hc := ht.eval (hok.1 c (by simp))
  simp only [execOp, hop, hl, hc, Sem.run_bind, h4 Γ w, Result.andThen_ok, Sem.run_pure]
 ·obtain ⟨_, _, _, h4⟩ := frBuild_spec h
  simp only [okOper, Bool.and_eq_true, hop, Op.operands, Array.all_eq_true_iff_forall_mem] at hok
  have hparts : (parts.map fun (x : Nat × Operand) => (x.1, ca.eval x.2)).toList = (parts.toList.map fun (x : Nat × Operand) => (x.1, ev tm x.2)).map fun x => (x.1, con Γ x.2) := by
   simp only [Array.toList_map, List.map_map]
   apply List.map_congr_left
   intro y hy
   simp only [Function.comp]
   rw [ht.eval (hok.1 y.2 (by
    simp only [List.mem_toArray, List.mem_map]
    exact ⟨y, hy, rfl⟩))]
  have h5 := h4 Γ w
  rw [show (parts.toList.map fun (x : Nat × Operand) => match x with | (j, x) => (j, ev tm x)) = (parts.toList.map fun (x : Nat × Operand) => (x.1, ev tm x.2)) from rfl, ← hparts] at h5
  simp only [execOp, hop, Sem.run_bind, Result.andThen_ok, Sem.run_pure]
  have h6 : (⟨(parts.map fun (x : Nat × Operand) => (x.1, ca.eval x.2)).toList⟩ : Array (Nat × Value)) = parts.map fun (i, x) => (i, ca.eval x) := rfl
  rw [h6] at h5
  rw [h5]
  simp only [Result.andThen_ok, Sem.run_pure]
theorem St.df_ag {p : Par} {Γ Γ' : Gam} {s : S} {ca ca' : Act} {w : World} {m : Nat} (h : St p Γ s ca w) (hg : Ag Γ Γ' s.h.next) (hle : s.h.next ≤ m) (hd : ca'.defers = ca.defers) :
  ca'.defers = marks Γ' s.df ∧ ∀ d ∈ s.df, d < m :=
 ⟨by rw [hd, h.df.1, marks_ag hg h.df.2], fun d hd => Nat.lt_of_lt_of_le (h.df.2 d hd) hle⟩
theorem St.next {p : Par} {Γ : Gam} {s : S} {ca : Act} {w : World} (h : St p Γ s ca w) {tm' : VT} {h' : Heap} {Q : Act → World → Prop} {e : XExit} {Q' : Exit → Act → World → Prop}
  (hQ : ∀ Γ' ca' w', Ag Γ Γ' s.h.next → s.h.next ≤ h'.next → jN p.B w w' → St p Γ' { s with tm := tm', h := h' } ca' w' → Q' e.con ca' w') (he : ∀ a w, Q' e.con a w → Q a w) :
  Next p Γ s.h w tm' h' ca.defers Q :=
 ⟨fun Γ' ca' w' hg hle hb hr ht hs hd => he _ _ (hQ Γ' ca' w' hg hle hb ⟨ht, hs, h.df_ag hg hle hd, hr⟩)⟩
theorem Tm.ag {Γ Γ' : Gam} {NG n : Nat} {tm : VT} {ca : Act} (h : Tm Γ NG tm ca) (hsc : ∀ v ∈ tm.arr.toList, sc n v = true) (hg : Ag Γ Γ' n) (hn : NG ≤ n) : Tm Γ' NG tm ca := by
 exact h.put hsc hg hn none undef
theorem Heap.new_next (h : Heap) (x : AObj) : (h.new x).2.next = h.next + 1 := by rw [Heap.new_eq]
theorem evEnter_run {p : Par} {Γ : Gam} {s : S} {ca : Act} {w : World} (hst : St p Γ s ca w) {ro : Option Nat} {ps : Array Tmp} {a b : Code} (ha : okCode p.NG a = true) (hb : okCode p.NG b = true) {l : Nat} {mk : List Nat} {h1 : Heap}
  (he : evEnter ro s.tm ps a b s.h = some (l, mk, h1)) (fn : FuncId) :
  ∃ Γ1 w1, (Instr.enterLoop fn ca.tmps ps a b (ro.map Γ.b)).run p.P w = .ok (Γ1.b l, marks Γ1 mk) w1 ∧ Ag Γ Γ1 s.h.next ∧ s.h.next ≤ h1.next ∧ HRel p Γ1 h1 w1 ∧ jN p.B w w1 ∧ l < h1.next ∧ ∀ d ∈ mk, d < h1.next := by
 have hr := hst.hr
 unfold evEnter at he
 split at he
 ·rename_i l0
  split at he <;> cases he
  rename_i r hg
  obtain ⟨_, _, hlt, _, h12, _, _, f, hw⟩ := qF hr hg
  have hag := Γ.ext_ag s.h.next w.heap.size 0
  have hnew := HRel.new (x := ⟨.loop { state := .ready, pending := none, fn := 0, tmps := s.tm.arr, params := ps, assign := a, body := b, defers := r.defers }, false⟩)
   (o := .loop { state := .ready, pending := none, fn := fn, tmps := ca.tmps, params := ps, assign := a, body := b, defers := Γ.b r.defers }) (k := 0) hr (by
    simp only [OR]
    refine ⟨fun v hv => sc_mono (Nat.le_succ _) v (hst.sc v hv), Nat.lt_succ_of_lt h12, ha, hb, fn, ?_⟩
    rw [Gam.ext_b, World.alloc_heap_new, hag.b _ h12, (hst.tm.ag hst.sc hag (by have := hr.ng; have := hr.gn; omega)).tm])
  refine ⟨_, _, ?_, hag, by rw [Heap.new_next]; exact Nat.le_succ _, hnew.1, hnew.2.below, by rw [Heap.new_next]; exact Nat.lt_succ_self _, fun d hd => by cases hd⟩
  simp only [Option.map_some, Instr.enterLoop, Sem.run_bind, run_getLoop hw, Result.andThen_ok, Sem.run_pure, run_newObj_alloc, Gam.ext_b, marks, List.map_nil]
  rfl
 ·cases he
  have hag1 := Γ.ext_ag s.h.next w.heap.size 0
  have hnew1 := HRel.new (x := ⟨.deferred (some []), false⟩) (o := .deferred (some [])) (k := 0) hr (by
    simp only [OR]
    exact ⟨by simp, by rw [Gam.ext_b, World.alloc_heap_new]⟩)
  have hag2 := (Γ.ext s.h.next w.heap.size 0).ext_ag (s.h.next + 1) (w.alloc (.deferred (some []))).heap.size 0
  have hag : Ag Γ ((Γ.ext s.h.next w.heap.size 0).ext (s.h.next + 1) (w.alloc (.deferred (some []))).heap.size 0) s.h.next := hag1.trans hag2 (Nat.le_succ _)
  have e1 : (s.h.new ⟨.deferred (some []), false⟩).2.next = s.h.next + 1 := Heap.new_next _ _
  have hnew2 := HRel.new (x := ⟨.loop { state := .ready, pending := none, fn := 0, tmps := s.tm.arr, params := ps, assign := a, body := b, defers := s.h.next }, false⟩)
   (o := .loop { state := .ready, pending := none, fn := fn, tmps := ca.tmps, params := ps, assign := a, body := b, defers := w.heap.size }) (k := 0) hnew1.1 (by
    simp only [OR]
    refine ⟨fun v hv => sc_mono (by rw [e1]; omega) v (hst.sc v hv), by rw [e1]; omega, ha, hb, fn, ?_⟩
    rw [e1, Gam.ext_b, World.alloc_heap_new, (hst.tm.ag hst.sc hag (by have := hr.ng; have := hr.gn; omega)).tm, hag2.b _ (Nat.lt_succ_self _), Gam.ext_b])
  rw [e1] at hnew2
  refine ⟨_, _, ?_, hag, by rw [Heap.new_next, e1]; omega, hnew2.1, hnew1.2.below.trans hnew2.2.below, by rw [Heap.new_next, e1]; omega, fun d hd => ?_⟩
  ·rw [Option.map_none, run_enterLoop_outer]
   have e2 := hag2.b s.h.next (Nat.lt_succ_self _)
   rw [Gam.ext_b] at e2
   rw [Gam.ext_b, marks, List.map_cons, List.map_nil, e2, World.size_alloc]
  ·have : d = s.h.next := by simpa using hd
   subst this
   rw [Heap.new_next, e1]
   omega
theorem thenK_spec {k : ST} {r : Option (XExit × S)} {e : XExit} {s' : S} (h : thenK k r = some (e, s')) : (∃ s1, r = some (.normal, s1) ∧ k s1 = some (e, s')) ∨ (r = some (e, s') ∧ e ≠ .normal) := by
 cases r with
 | none => cases h
 | some x =>
  obtain ⟨e1, s1⟩ := x
  cases e1 with
  | normal => exact .inl ⟨s1, rfl, h⟩
  | exit i => have h : some (XExit.exit i, s1) = some (e, s') := h; cases h; exact .inr ⟨rfl, by simp⟩
  | goto l => have h : some (XExit.goto l, s1) = some (e, s') := h; cases h; exact .inr ⟨rfl, by simp⟩
  | ret => have h : some (XExit.ret, s1) = some (e, s') := h; cases h; exact .inr ⟨rfl, by simp⟩
theorem regK_spec {s : S} {r : Option (VT × Heap)} {e : XExit} {s' : S} (h : regK s r = some (e, s')) : ∃ tm h1, r = some (tm, h1) ∧ e = .normal ∧ s' = { s with tm := tm, h := h1 } := by
 unfold regK at h
 split at h <;> cases h
 exact ⟨_, _, rfl, rfl, rfl⟩
def inScopeW (F : Fence) (n : Nat) (P : Program) (c : Code) (Q : Exit → Act → World → Prop) (rest : Code) (a : Act) (w : World) : Prop :=
 ∀ (b : Frame) (k : List Item) (cs : List Frame), b.roundOf = F.round → F.fn b.fn → F.room (cs.length + 1 + n) →
  ∃ e a' w', Q e a' w' ∧ ArrivesIn (Machine.fenced P F) P (lone (b.atR a (.code rest :: .inScope c :: k)) cs w) b k cs e a' w'
def scopePost (F : Fence) (n : Nat) (P : Program) (c : Code) (Q : Exit → Act → World → Prop) : Exit → Act → World → Prop
 | .goto l, a, w => match findLabel c l with
  | some r => inScopeW F n P c Q r a w
  | none => Q (.goto l) a w
 | e, a, w => Q e a w
theorem inScopeW_of {F : Fence} {n : Nat} {P : Program} {c rest : Code} {Q : Exit → Act → World → Prop} {a : Act} {w : World} (h : rest.wpIn F n P (scopePost F n P c Q) a w) : inScopeW F n P c Q rest a w := by
 intro b k cs hro hb hr
 obtain ⟨e, a₁, w₁, hq, harr⟩ := h b (.inScope c :: k) cs hro hb hr
 cases e with
 | normal => exact ⟨.normal, a₁, w₁, hq, StepsIn.trans harr (.one (fenced_calm hb hr rfl) stepR_inScope)⟩
 | exit id => exact ⟨.exit id, a₁, w₁, hq, fun k' hk => harr.1 k' (by simpa [exitTo] using hk), fun hr' hk => harr.2 hr' (by simpa [exitTo] using hk)⟩
 | goto l =>
  simp only [scopePost] at hq
  cases hf : findLabel c l with
  | some r =>
   rw [hf] at hq
   have hq : inScopeW F n P c Q r a₁ w₁ := hq
   obtain ⟨e₂, a₂, w₂, hq₂, harr₂⟩ := hq b k cs hro hb hr
   exact ⟨e₂, a₂, w₂, hq₂, .of_steps (harr.1 _ (by simp [gotoIn, hf])) harr₂⟩
  | none =>
   rw [hf] at hq
   exact ⟨.goto l, a₁, w₁, hq, fun k' hk => harr.1 k' (by simp [gotoIn, hf, hk]), fun hr' hk => harr.2 hr' (by simp [gotoIn, hf, hk])⟩
 | ret => exact ⟨_, a₁, w₁, hq, harr⟩
 | panic ch => exact ⟨_, a₁, w₁, hq, harr⟩
 | outgrown => exact ⟨_, a₁, w₁, hq, harr⟩
theorem wpIn_scopeW {F : Fence} {n : Nat} {P : Program} {c : Code} {Q : Exit → Act → World → Prop} {a : Act} {w : World} (h : inScopeW F n P c Q c a w) : (Code.scope c).wpIn F n P Q a w := by
 intro b k cs hro hb hr
 obtain ⟨e, a₁, w₁, hq, harr⟩ := h b k cs hro hb hr
 exact ⟨e, a₁, w₁, hq, .of_steps (.one (fenced_calm hb hr rfl) stepR_scope) harr⟩
theorem okCode_findLabel {NG : Nat} : ∀ {c : Code} {l : Nat} {r : Code}, okCode NG c = true → findLabel c l = some r → okCode NG r = true
 | .seq a b, l, r, h, hf => by
  simp only [okCode, Bool.and_eq_true] at h
  simp only [findLabel] at hf
  cases ha : findLabel a l with
  | some ra =>
   rw [ha] at hf
   cases hf
   simp only [okCode, Bool.and_eq_true]
   exact ⟨okCode_findLabel h.1 ha, h.2⟩
  | none => rw [ha] at hf; exact okCode_findLabel h.2 hf
 | .label l', l, r, _, hf => by
  simp only [findLabel] at hf
  split at hf <;> cases hf
  rfl
 | .skip, _, _, _, hf => by cases hf
 | .region _ _ _, _, _, _, hf => by cases hf
 | .cond _ _ _, _, _, _, hf => by cases hf
 | .block _ _, _, _, _, hf => by cases hf
 | .loop _, _, _, _, hf => by cases hf
 | .rangeFunc _ _ _ _, _, _, _, hf => by cases hf
 | .exit _, _, _, _, hf => by cases hf
 | .scope _, _, _, _, hf => by cases hf
 | .goto _, _, _, _, hf => by cases hf
 | .ret, _, _, _, hf => by cases hf
 | .refuse _, _, _, _, hf => by cases hf
theorem scopeGo_run {p : Par} {rec : Rec} (hrec : RecS p rec) {ro : Option Nat} {b : Code} (hokb : okCode p.NG b = true) : ∀ (f : Nat) (c : Code) (s : S) (e : XExit) (s' : S), okCode p.NG c = true → scopeGo rec ro b f (rec ro c s) = some (e, s') →
  ∀ (Γ : Gam) (ca : Act) (w : World), St p Γ s ca w → ∀ (F : Fence) (n : Nat) (Q : Exit → Act → World → Prop), FW F → F.round = ro.map Γ.b → (∀ l, ro = some l → l < s.h.next) →
  (∀ Γ' ca' w', Ag Γ Γ' s.h.next → s.h.next ≤ s'.h.next → jN p.B w w' → St p Γ' s' ca' w' → Q e.con ca' w') → inScopeW F n p.P b Q c ca w := by
 intro f
 induction f with
 | zero =>
  intro c s e s' hokc he Γ ca w hst F n Q hF hro hl hQ
  cases hr : rec ro c s with
  | none => rw [hr] at he; cases he
  | some x =>
   obtain ⟨e1, s1⟩ := x
   rw [hr] at he
   refine inScopeW_of (codeW_wp (hrec _ _ _ _ _ hr hokc Γ ca w hst F n _ hF hro hl fun Γ1 ca1 w1 hg1 hle1 hb1 hst1 => ?_))
   cases e1 with
   | goto l => cases he
   | normal => cases he; exact hQ Γ1 ca1 w1 hg1 hle1 hb1 hst1
   | exit id => cases he; exact hQ Γ1 ca1 w1 hg1 hle1 hb1 hst1
   | ret => cases he; exact hQ Γ1 ca1 w1 hg1 hle1 hb1 hst1
 | succ f ih =>
  intro c s e s' hokc he Γ ca w hst F n Q hF hro hl hQ
  cases hr : rec ro c s with
  | none => rw [hr] at he; cases he
  | some x =>
   obtain ⟨e1, s1⟩ := x
   rw [hr] at he
   refine inScopeW_of (codeW_wp (hrec _ _ _ _ _ hr hokc Γ ca w hst F n _ hF hro hl fun Γ1 ca1 w1 hg1 hle1 hb1 hst1 => ?_))
   cases e1 with
   | goto l =>
    simp only [scopeGo] at he
    show scopePost F n p.P b Q (.goto l) ca1 w1
    simp only [scopePost]
    cases hf : findLabel b l with
    | some rest =>
     rw [hf] at he
     refine ih rest s1 e s' (okCode_findLabel hokb hf) he Γ1 ca1 w1 hst1 F n Q hF ?_ (fun l' e => Nat.lt_of_lt_of_le (hl l' e) hle1) fun Γ2 ca2 w2 hg2 hle2 hb2 hst2 => hQ Γ2 ca2 w2 (hg1.trans hg2 hle1) (by omega) (hb1.trans hb2) hst2
     rw [hro]; cases ro with
     | none => rfl
     | some l' => simp [hg1.b l' (hl l' rfl)]
    | none =>
     rw [hf] at he
     cases he
     exact hQ Γ1 ca1 w1 hg1 hle1 hb1 hst1
   | normal => cases he; exact hQ Γ1 ca1 w1 hg1 hle1 hb1 hst1
   | exit id => cases he; exact hQ Γ1 ca1 w1 hg1 hle1 hb1 hst1
   | ret => cases he; exact hQ Γ1 ca1 w1 hg1 hle1 hb1 hst1
theorem evC_step {p : Par} {X : Ext} (okB : ∀ B, Ok { p with B := B } X) {fuel : Nat} (ihB : ∀ B, RecS { p with B := B } (evC p.P X fuel)) : RecS p (evC p.P X (fuel + 1)) := by
 have ok : Ok p X := okB p.B
 have ih : RecS p (evC p.P X fuel) := ihB p.B
 intro ro c s e s' he hok Γ ca w hst F n Q hF hro hl hQ
 have hro1 : ∀ Γ1 : Gam, Ag Γ Γ1 s.h.next → F.round = ro.map Γ1.b := fun Γ1 hg => by
  rw [hro]; cases ro with
  | none => rfl
  | some l => simp [hg.b l (hl l rfl)]
 have hl1 : ∀ {m : Nat}, s.h.next ≤ m → ∀ l, ro = some l → l < m := fun hm l e => Nat.lt_of_lt_of_le (hl l e) hm
 have same : s' = s → Q e.con ca w := fun hs => by subst hs; exact hQ Γ ca w (Ag.refl _ _) (Nat.le_refl _) (jN.refl _ _) hst
 cases c with
 | skip =>
  have he : some (XExit.normal, s) = some (e, s') := he
  cases he
  exact codeW_of (by simp) (wpIn_skip (same rfl))
 | label l =>
  have he : some (XExit.normal, s) = some (e, s') := he
  cases he
  exact codeW_of (by simp) (wpIn_label (same rfl))
 | exit id =>
  have he : some (XExit.exit id, s) = some (e, s') := he
  cases he
  exact codeW_of (by simp) (wpIn_exit (same rfl))
 | goto l =>
  have he : some (XExit.goto l, s) = some (e, s') := he
  cases he
  exact codeW_of (by simp) (wpIn_goto (same rfl))
 | ret =>
  have he : some (XExit.ret, s) = some (e, s') := he
  cases he
  exact codeW_of (by simp) (wpIn_ret (same rfl))
 | seq a b =>
  simp only [okCode, Bool.and_eq_true] at hok
  refine codeW_of (by simp) (wpIn_seq ?_)
  have he : thenK (evC p.P X fuel ro b) (evC p.P X fuel ro a s) = some (e, s') := he
  rcases thenK_spec he with ⟨s1, h1, he⟩ | ⟨he, hne⟩
  ·refine codeW_wp (ih _ _ _ _ _ h1 hok.1 Γ ca w hst F n _ hF hro hl fun Γ1 ca1 w1 hg1 hle1 hb1 hst1 => ?_)
   refine codeW_wp (ih _ _ _ _ _ he hok.2 Γ1 ca1 w1 hst1 F n _ hF (hro1 Γ1 hg1) (hl1 hle1) fun Γ2 ca2 w2 hg2 hle2 hb2 hst2 => ?_)
   ·exact hQ Γ2 ca2 w2 (hg1.trans hg2 hle1) (by omega) (hb1.trans hb2) hst2
  ·refine codeW_wp (ih _ _ _ _ _ he hok.1 Γ ca w hst F n _ hF hro hl fun Γ1 ca1 w1 hg1 hle1 hb1 hst1 => ?_)
   have := hQ Γ1 ca1 w1 hg1 hle1 hb1 hst1
   cases e with
   | normal => exact absurd rfl hne
   | exit id => exact this
   | goto l => exact this
   | ret => exact this
 | cond x a b =>
  simp only [okCode, Bool.and_eq_true] at hok
  have hx := hst.tm.eval hok.1.1
  refine codeW_of (by simp) ?_
  have he : cCond (evC p.P X fuel) ro x a b cSkip cSkip s = some (e, s') := he
  unfold cCond at he
  split at he
  ·rename_i hxe
   exact wpIn_cond_true (by rw [hx, hxe]; rfl) (codeW_wp (ih _ _ _ _ _ he hok.1.2 Γ ca w hst F n Q hF hro hl hQ))
  ·rename_i hxe
   exact wpIn_cond_false (by rw [hx, hxe]; rfl) (codeW_wp (ih _ _ _ _ _ he hok.2 Γ ca w hst F n Q hF hro hl hQ))
  ·cases he
 | block id b =>
  simp only [okCode] at hok
  refine codeW_of (by simp) (wpIn_block ?_)
  have he : outK id (evC p.P X fuel ro b s) = some (e, s') := he
  unfold outK at he
  split at he
  ·rename_i j s1 h1
   refine codeW_wp (ih _ _ _ _ _ h1 hok Γ ca w hst F n _ hF hro hl fun Γ1 ca1 w1 hg1 hle1 hb1 hst1 => ?_)
   split at he
   ·rename_i hj
    simp only [Nat.beq_eq] at hj
    cases he
    have := hQ Γ1 ca1 w1 hg1 hle1 hb1 hst1
    simp only [XExit.con, Exit.inBlock, if_pos hj]
    exact this
   ·rename_i hj
    have hj' : ¬ j = id := fun e => by rw [e] at hj; simp at hj
    cases he
    have := hQ Γ1 ca1 w1 hg1 hle1 hb1 hst1
    simp only [XExit.con, Exit.inBlock, if_neg hj']
    exact this
  ·rename_i hne
   refine codeW_wp (ih _ _ _ _ _ he hok Γ ca w hst F n _ hF hro hl fun Γ1 ca1 w1 hg1 hle1 hb1 hst1 => ?_)
   have := hQ Γ1 ca1 w1 hg1 hle1 hb1 hst1
   cases e with
   | normal => exact this
   | exit j => exact absurd he (hne j s')
   | goto l => exact this
   | ret => exact this
 | loop b =>
  have hok' := hok
  simp only [okCode] at hok
  refine codeW_loop ?_
  have he : thenK (evC p.P X fuel ro (.loop b)) (evC p.P X fuel ro b s) = some (e, s') := he
  rcases thenK_spec he with ⟨s1, h1, he⟩ | ⟨he, hne⟩
  ·refine codeW_wp (ih _ _ _ _ _ h1 hok Γ ca w hst F n _ hF hro hl fun Γ1 ca1 w1 hg1 hle1 hb1 hst1 => ?_)
   refine ih _ _ _ _ _ he hok' Γ1 ca1 w1 hst1 F n Q hF (hro1 Γ1 hg1) (hl1 hle1) fun Γ2 ca2 w2 hg2 hle2 hb2 hst2 => ?_
   ·exact hQ Γ2 ca2 w2 (hg1.trans hg2 hle1) (by omega) (hb1.trans hb2) hst2
  ·refine codeW_wp (ih _ _ _ _ _ he hok Γ ca w hst F n _ hF hro hl fun Γ1 ca1 w1 hg1 hle1 hb1 hst1 => ?_)
   have := hQ Γ1 ca1 w1 hg1 hle1 hb1 hst1
   cases e with
   | normal => exact absurd rfl hne
   | exit id => exact this
   | goto l => exact this
   | ret => exact this
 | scope b =>
  simp only [okCode] at hok
  have he : scopeGo (evC p.P X fuel) ro b 100000 (evC p.P X fuel ro b s) = some (e, s') := he
  exact codeW_of (by simp) (wpIn_scopeW (scopeGo_run ih hok _ b s e s' hok he Γ ca w hst F n Q hF hro hl hQ))
 | region id ops draw =>
  simp only [okCode, Array.all_eq_true_iff_forall_mem] at hok
  have hops : ∀ o ∈ ops.toList, okOper p.NG o = true := fun o ho => hok o (by simpa using ho)
  refine codeW_of (by simp) ?_
  cases draw with
  | false =>
   have he : regK s (evOps p.P X (evC p.P X fuel) ops.toList ops.toList s.tm s.h) = some (e, s') := he
   obtain ⟨tm, h, hev, rfl, rfl⟩ := regK_spec he
   ·refine wpIn_region ?_
    have := evOps_run ok ih hops hF (n := n) (Q := Q) ops.toList 0 s.tm s.h tm h (by simp) hev Γ ca w hst.hr hst.tm hst.sc rfl
     (hst.next (e := .normal) (Q' := Q) hQ (fun _ _ h => h))
    rw [List.range_eq_range']
    simpa using this
  | true =>
   have he : (match mkPlan p.P ops ops.size (Array.replicate ops.size false) with
    | some pl => regK s (evPlan p.P X (evC p.P X fuel) ops.toList pl [] s.tm s.h)
    | none => match jL p.P ops ops.size (Array.replicate ops.size false) with
     | (ts, l0, n) => regK s (evTakes p.P X (evC p.P X fuel) ops.toList (evLate p.P X (evC p.P X fuel) ops l0 n) ts [] s.tm s.h)) = some (e, s') := he
   split at he
   ·rename_i pl hpl
    obtain ⟨tm, h, hev, rfl, rfl⟩ := regK_spec he
    ·have hnd : noDefer ops := fun j o c hj => (okOper_plain (hops o (by rw [← Array.getElem?_toList] at hj; exact List.mem_of_getElem? hj))).1 c
     have hq : (Code.region id ops true).wpIn F n p.P (fun e a w => (∀ c, e ≠ .panic c) ∧ Q e a w) ca w := by
      refine wpIn_region_anyW (S := HeldC p.P ops []) hF hnd ok.mixed ?_
      refine evPlan_run ok ih hops hF (fun c a a' w h => absurd rfl (h.1 c)) ops.size _ pl [] s.tm s.h tm h hpl hev Γ ca w.drew [] (hst.hr.of_heap rfl) hst.tm hst.sc rfl trivial ?_
      refine ⟨fun Γ' ca' w' hg hle hb hr ht hs hd => ⟨fun c h => (by cases h), ?_⟩⟩
      exact hQ Γ' ca' w' hg hle ((jN.refl p.B w).drew.trans hb) ⟨ht, hs, hst.df_ag hg hle hd, hr⟩
     exact wpIn_mono hq fun e a w h => h.2
   ·have he : regK s (evTakes p.P X (evC p.P X fuel) ops.toList (evLate p.P X (evC p.P X fuel) ops (jL p.P ops ops.size (Array.replicate ops.size false)).2.1 (jL p.P ops ops.size (Array.replicate ops.size false)).2.2)
     (jL p.P ops ops.size (Array.replicate ops.size false)).1 [] s.tm s.h) = some (e, s') := he
    have hsz : (jL p.P ops ops.size (Array.replicate ops.size false)).2.1.size = ops.size := (mkTakes_size _ _).trans (by simp)
    obtain ⟨tm, h, hev, rfl, rfl⟩ := regK_spec he
    have hnd : noDefer ops := fun j o c hj => (okOper_plain (hops o (by rw [← Array.getElem?_toList] at hj; exact List.mem_of_getElem? hj))).1 c
    have hq : (Code.region id ops true).wpIn F n p.P (fun e a w => (∀ c, e ≠ .panic c) ∧ Q e a w) ca w := by
     refine wpIn_region_anyW (S := HeldC p.P ops []) hF hnd ok.mixed ?_
     refine evTakes_run hops (fun c a a' w h => absurd rfl (h.1 c)) (hst.hr.of_heap (w' := w.drew) rfl) (df := ca.defers) (fun L tm1 ca1 Lc hk ht1 hs1 hd1 hL1 hka1 => ?_) ops.size _ [] s.tm ca [] rfl hev hst.tm hst.sc rfl trivial rfl
     have one : ∀ (k : Nat) (pl : List PS), qE p.P (frAt p.P ops (jL p.P ops ops.size (Array.replicate ops.size false)).2.1 tm1 k) ops (jL p.P ops ops.size (Array.replicate ops.size false)).2.2 (jL p.P ops ops.size (Array.replicate ops.size false)).2.1 = some pl →
       jW p.P X (evC p.P X fuel) (frAt p.P ops (jL p.P ops ops.size (Array.replicate ops.size false)).2.1 tm1 k) ops.toList pl L tm1 s.h = some (tm, h) →
       anyW F n p.P .any ops (fun e a w => (∀ c, e ≠ .panic c) ∧ Q e a w) (HeldC p.P ops Lc) (jL p.P ops ops.size (Array.replicate ops.size false)).2.2 (jL p.P ops ops.size (Array.replicate ops.size false)).2.1 ca1 w.drew := fun k pl hpl hk => by
      refine evPlanL_run okB ihB hops hF (fun c a a' w h => absurd rfl (h.1 c)) (frAt_ok hsz) _ _ _ _ pl L tm1 s.h tm h [] (Nat.le_refl _) (by simp) (fun j hj => hj) hpl hk Γ ca1 w.drew Lc
       (HRel.congB (p := pD p []) (B' := p.B) (fun k => by simp [pD]) (hst.hr.of_heap rfl)) hst.hr.low ht1 hs1 hd1 hL1 hka1 (frAt_A hops ht1) (fun x hx => by cases hx) (by simp) (fun x hx => by cases hx) ?_
      refine ⟨fun Γ' ca' w' hg hle hb hr ht hs hd => ⟨fun c h => (by cases h), ?_⟩⟩
      exact hQ Γ' ca' w' hg hle ((jN.refl p.B w).drew.trans hb) ⟨ht, hs, hst.df_ag hg hle hd, hr⟩
     unfold evLate at hk
     split at hk
     ·rename_i pl hpl; exact one _ pl hpl hk
     ·split at hk
      ·rename_i pl hpl; exact one _ pl hpl hk
      ·split at hk
       ·rename_i pl hpl; exact one _ pl hpl hk
       ·cases hk
    exact wpIn_mono hq fun e a w h => h.2
 | rangeFunc g ps a b =>
  simp only [okCode, Bool.and_eq_true] at hok
  have he : cRange p.P (evC p.P X fuel) ro g ps a b cSkip cSkip s = some (e, s') := he
  unfold cRange at he
  split at he
  ·rename_i l mk h1 f captured hent hgv
   ·split at he
    ·rename_i v h2 hbody
     refine codeW_of (by simp) (wpIn_rangeFunc fun fn hfn => ?_)
     obtain ⟨Γ1, w1, hent1, hag1, hle1, hr1, hbel1, hl1', hmk1⟩ := evEnter_run hst hok.1.2 hok.2 hent fn
     have hng : p.NG ≤ s.h.next := by have := hst.hr.ng; have := hst.hr.gn; omega
     have htm1 := hst.tm.ag hst.sc hag1 hng
     have hg0 := htm1.eval hok.1.1
     rw [hgv, con_func] at hg0
     have hscg : scL s.h.next captured = true := by
      have := ev_sc hst.hr hst.sc hok.1.1
      rw [hgv] at this
      simp only [sc, Bool.and_eq_true] at this
      exact this.2
     have hargs : (#[Value.func (.yield (Γ1.b l)) #[] #[]] ++ (⟨captured⟩ : Array Value).map (con Γ1)) = ⟨(Value.func (.yield l) #[] #[] :: captured).map (con Γ1)⟩ := by
      apply Array.ext'
      simp [con, conFn, conL]
     have hbd := evBody_run ok ih hr1 hbody (fun x hx => by
      simp only [List.mem_cons] at hx
      rcases hx with hx | hx
      ·subst hx
       simp only [sc, scL, Bool.and_true, Nat.blt_eq]
       exact hl1'
      ·exact sc_mono hle1 x (scL_all hscg x hx)) hF (n := n - 1)
      (R := rangePost F n p.P (Γ1.b l) Q { ca with defers := marks Γ1 mk ++ ca.defers }) (by
       intro Γ2 w2 hag2 hle2 hbel2 hr2
       unfold evLeave at he
       split at he
       ·rename_i r hg
        obtain ⟨_, _, _, _, _, _, _, f2, hw2⟩ := qF (h := h2) hr2 hg
        have hbl : Γ2.b l = Γ1.b l := hag2.b l hl1'
        have hput := putLoopA_run hr2 hg hw2 .exhausted r.pending
        rw [hbl] at hw2 hput
        split at he
        ·cases he
        ·rename_i hnb
         obtain ⟨W, hrunW, hrelW, hfrW⟩ : ∃ W, (Instr.endLoop (Γ1.b l)).run p.P w2 = .ok r.pending W ∧ HRel p Γ2 (putLoopA h2 l { r with state := .exhausted }) W ∧ Fr p Γ2 h2 w2 W :=
          ⟨_, run_endLoop (r := qP Γ2 f2 r) hw2 hnb, hput.1, hput.2.1⟩
         have hag : Ag Γ Γ2 s.h.next := hag1.trans hag2 hle1
         have hnx : (putLoopA h2 l { r with state := .exhausted }).next = h2.next := rfl
         have hstn : St p Γ2 ({ tm := s.tm, df := mk ++ s.df, h := putLoopA h2 l { r with state := .exhausted } } : S) { ca with defers := marks Γ1 mk ++ ca.defers } W := by
          refine ⟨?_, fun v hv => sc_mono (by rw [hnx]; omega) v (hst.sc v hv), ⟨?_, ?_⟩, hrelW⟩
          ·have := hst.tm.ag hst.sc hag hng
           exact ⟨this.sm, this.tm, this.gl⟩
          ·show marks Γ1 mk ++ ca.defers = marks Γ2 (mk ++ s.df)
           have e1 : marks Γ2 (mk ++ s.df) = marks Γ2 mk ++ marks Γ2 s.df := by simp [marks]
           rw [e1, hst.df.1, marks_ag hag2 hmk1, marks_ag hag hst.df.2]
          ·intro d hd
           simp only [List.mem_append] at hd
           rw [hnx]
           rcases hd with hd | hd
           ·have := hmk1 d hd; omega
           ·have := hst.df.2 d hd; omega
         have hbel : jN p.B w W := (hbel1.trans hbel2).trans hfrW.below
         have hfin : ∀ (e0 : XExit), some (e0, ({ tm := s.tm, df := mk ++ s.df, h := putLoopA h2 l { r with state := .exhausted } } : S)) = some (e, s') →
           Q e0.con { ca with defers := marks Γ1 mk ++ ca.defers } W := fun e0 h1 => by
          cases h1
          exact hQ Γ2 _ _ hag (by rw [hnx]; omega) hbel hstn
         refine ⟨_, _, hrunW, ?_⟩
         split at he
         ·rename_i hp
          rw [hp]
          exact hfin _ he
         ·rename_i id hp
          rw [hp]
          exact wpIn_exit (hfin _ he)
         ·rename_i tt hp
          rw [hp]
          exact wpIn_goto (hfin _ he)
         ·rename_i hp
          rw [hp]
          exact wpIn_ret (hfin _ he)
         ·cases he
       ·cases he)
     refine ⟨Γ1.b l, marks Γ1 mk, w1, { target := .fn (.func f) ((⟨captured⟩ : Array Value).map (con Γ1)), args := #[Value.func (.yield (Γ1.b l)) #[] #[]] }, w1, f, ⟨(Value.func (.yield l) #[] #[] :: captured).map (con Γ1)⟩, w1, by rw [hro]; exact hent1, ?_, fun f' _ => hF.fn f', ?_, fun hd => (by rw [hF.depth] at hd; cases hd), ?_⟩
     ·simp only [resolve]
      rw [hg0]
      simp [Deferred.ofValue, conFn, Act.eval]
     ·simp only [invoke]
      rw [hargs]
      exact hbd.1
     ·exact hbd.2
    ·cases he
  ·cases he
 | refuse why => cases he
theorem evC_sound {p : Par} {X : Ext} (ok : ∀ B, Ok { p with B := B } X) : ∀ fuel B, RecS { p with B := B } (evC p.P X fuel) := by
 intro fuel
 induction fuel with
 | zero => intro B ro c s e s' he; cases he
 | succ fuel ih => intro B; exact evC_step (p := { p with B := B }) ok ih
end Go.Ew
namespace Go.Ew
open Go Go.RowKit
def h0 : Heap := { t := .nil, next := 0, lo := 0 }
def con0 (sg : Nat → Int) (tg : Nat → ByteArray) : Value → Value := con ⟨fun i => i, fun _ => 0, sg, tg⟩
theorem flatL_all : ∀ {l : List Value}, flatL l = true → ∀ v ∈ l, flat v = true
 | [], _, v, hv => by cases hv
 | x :: xs, h, v, hv => by
  simp only [flatL, Bool.and_eq_true] at h
  cases hv with
  | head => exact h.1
  | tail _ hv => exact flatL_all h.2 v hv
theorem calls_of_ev_at {P : Program} {X : Ext} {NG : Nat} {sg : Nat → Int} {tg : Nat → ByteArray} {h : Heap} {w : World} (hok : ∀ B, Ok ⟨P, NG, NG, B, sg, tg⟩ X)
  (hrel : HRel ⟨P, NG, NG, fun k => k < w.heap.size, sg, tg⟩ ⟨fun i => i, fun _ => 0, sg, tg⟩ h w) {N : Nat} {f : FuncId} {args : List Value} {v : Value} {fn : Func} {c : Code}
  (hfn : P.funcs[f]? = some fn) (hb : fn.body = some c) {r : Option (Value × Heap)} (hr : evCall P X (evC P X N) f args h = r) (he : r.map (·.1) = some v) (hsc : scL 0 args = true) (hv : flat v = true) :
  Calls P f ⟨args.map (con0 sg tg)⟩ w fun e w' => e = .returned v ∧ Below w.heap.size w w' := by
 cases r with
 | none => cases he
 | some vh =>
  obtain ⟨v', h'⟩ := vh
  simp only [Option.map_some, Option.some.injEq] at he
  subst he
  let o : Oper := { dst := some 0, op := .move (.const undef), type := 0, pos := "", after := #[], guard := none }
  have hF : FW Fence.wide := ⟨rfl⟩
  have main := evCall_run (hok _) (evC_sound (p := ⟨P, NG, NG, fun k => k < w.heap.size, sg, tg⟩) hok N _) hrel hr (fun x hx => sc_mono (Nat.zero_le _) x (scL_all hsc x hx)) o hF (n := 0) (a := { tmps := #[undef], defers := [] })
   (K := fun a w' => ∃ u, a.tmps = #[u] ∧ u = v' ∧ Below w.heap.size w w') (Q := fun _ _ _ => False) (fun Γ' w' _ _ hbel _ => ⟨v', by simp [Act.put, o, con_flat Γ' v' hv], rfl, hbel.below⟩)
  have hname := (hok (fun _ => True)).funcs f fn hfn
  simp only [okFunc, hb, Bool.and_eq_true, bne_iff_ne, ne_eq] at hname
  have hrun : (callFunc f ⟨args.map (con0 sg tg)⟩).run P w = .ok (.enter f ⟨args.map (con0 sg tg)⟩) w := by
   simp [callFunc, hfn, hname.2, hb]
  rw [show (⟨args.map (con ⟨fun i => i, fun _ => 0, sg, tg⟩)⟩ : Array Value) = ⟨args.map (con0 sg tg)⟩ from rfl, hrun] at main
  have h2 := callsIn_wide.1 main.2
  refine h2.mono fun e w' hh => ?_
  cases e with
  | returned u =>
   obtain ⟨u', h1, rfl, h3⟩ := hh
   simp [Act.put, o] at h1
   exact ⟨by rw [h1], h3⟩
  | panicked c => exact hh.elim
  | outgrown => obtain ⟨_, _, hh⟩ := hh; exact hh.elim
end Go.Ew
namespace Go.Ew
open Go Go.RowKit
end Go.Ew
namespace Go.Ew
open Go Go.RowKit
noncomputable section
def laidT : List (Nat × List Value) → Tr
 | [] => .nil
 | x :: l => (laidT l).put x.1 ⟨.cells ⟨x.2⟩ 0 (0, 0), false⟩
def laidHeap (NG : Nat) (L : List (Nat × List Value)) : Heap := ⟨laidT L, NG, NG⟩
structure LaidW (NG : Nat) (L : List (Nat × List Value)) (w : World) : Prop where
 size : NG ≤ w.heap.size
 cell : ∀ x ∈ L, x.1 < NG ∧ ∀ (j : Nat) (v : Value), x.2[j]? = some v → w.cell? ⟨x.1, j, none⟩ = some v
def okPl (NG : Nat) (L : List (Nat × List Value)) : Bool := L.all fun x => Nat.blt x.1 NG && flatL x.2 && x.2.all one
theorem laidT_get : ∀ {L : List (Nat × List Value)} {i : Nat} {x : AObj}, (laidT L).get i = some x → ∃ y ∈ L, y.1 = i ∧ x = ⟨.cells ⟨y.2⟩ 0 (0, 0), false⟩
 | [], i, x, h => by simp [laidT, Tr.get] at h
 | y :: L, i, x, h => by
  simp only [laidT, Tr.get_put] at h
  split at h
  ·rename_i e; cases h; exact ⟨y, by simp, e.symm, rfl⟩
  ·obtain ⟨z, hz, h1, h2⟩ := laidT_get h
   exact ⟨z, by simp [hz], h1, h2⟩
theorem okPl_mem {NG : Nat} {L : List (Nat × List Value)} (h : okPl NG L = true) {x : Nat × List Value} (hx : x ∈ L) : x.1 < NG ∧ (∀ v ∈ x.2, flat v = true ∧ one v = true) := by
 have := List.all_eq_true.1 h x hx
 simp only [Bool.and_eq_true, Nat.blt_eq, List.all_eq_true] at this
 exact ⟨this.1.1, fun v hv => ⟨flatL_all this.1.2 v hv, this.2 v hv⟩⟩
theorem laid_hrel (P : Program) {NG : Nat} {L : List (Nat × List Value)} (sg : Nat → Int) (tg : Nat → ByteArray) {w : World} (hL : okPl NG L = true) (hw : LaidW NG L w) :
  HRel ⟨P, NG, NG, fun k => k < w.heap.size, sg, tg⟩ ⟨fun i => i, fun _ => 0, sg, tg⟩ (laidHeap NG L) w := by
 have key : ∀ i x, (laidHeap NG L).get i = some x → i < NG ∧ ∃ cs, x = ⟨.cells ⟨cs⟩ 0 (0, 0), false⟩ ∧ (i, cs) ∈ L := fun i x hx => by
  obtain ⟨y, hy, rfl, rfl⟩ := laidT_get (show (laidT L).get i = some x from hx)
  exact ⟨(hw.cell y hy).1, y.2, rfl, hy⟩
 refine ⟨fun i x hx => ?_, fun i x hx _ hi => ?_, fun i j x y hx _ _ _ hi _ _ => ?_, Lnk.none (fun i x hx => by obtain ⟨_, cs, rfl, _⟩ := key i x hx; rfl), fun g _ => rfl, fun i hi => Nat.lt_of_lt_of_le hi hw.size, rfl, Nat.le_refl _, Nat.le_refl _, fun _ h => h, rfl, rfl⟩
 ·obtain ⟨hi, cs, rfl, hm⟩ := key i x hx
  refine ⟨hi, ?_⟩
  simp only [OR]
  refine ⟨fun hG => (by have hG : NG ≤ i := hG; omega), fun _ => ⟨trivial, Nat.lt_of_lt_of_le hi hw.size, fun j v hj hv => ?_⟩⟩
  have hj : cs[j]? = some v := by simpa using hj
  have hmem := (okPl_mem hL hm).2 v (List.mem_of_getElem? hj)
  refine ⟨hmem.2, ?_⟩
  rw [con_flat _ v hmem.1]
  exact (hw.cell _ hm).2 j v hj
 ·have := (key i x hx).1
  have hi : NG ≤ i := hi
  omega
 ·have := (key i x hx).1
  have hi : NG ≤ i := hi
  omega
def okL (L : List (Nat × List Value)) (h : Heap) : Bool := L.all fun x => match cells h x.1 with
 | some (cs, _, _) => beqL cs x.2
 | none => false
theorem callW_same {p : Par} {g : FuncId} {x : Value} {h : Heap} (hc : ∀ (y : Value) (w : World), (callFunc g #[y]).run p.P w = .ok (.value y) w) : CallW p g [x] h fun v' h' => v' = x ∧ h' = h := by
 intro Γ w hr hs o F hF n a K Q hK
 have := hc (con Γ x) w
 rw [show (⟨[x].map (con Γ)⟩ : Array Value) = #[con Γ x] from rfl, this]
 exact hK x h Γ w ⟨rfl, rfl⟩ (Ag.refl _ _) (Nat.le_refl _) (jN.refl _ _) hr (hs x (by simp))
def SoundX (p : Par) (X : Ext) : Prop := ∀ (g : Nat) (args : List Value) (h : Heap) (v : Value) (h' : Heap), X g args h = some (v, h') → CallW p g args h fun v' h'' => v' = v ∧ h'' = h'
def orX (X Y : Ext) : Ext := fun f a h => match X f a h with | some r => some r | none => Y f a h
def noX : Ext := fun _ _ _ => none
theorem noX_sound (p : Par) : SoundX p noX := fun _ _ _ _ _ h => by cases h
theorem orX_sound {p : Par} {X Y : Ext} (hX : SoundX p X) (hY : SoundX p Y) : SoundX p (orX X Y) := fun g args h v h' he => by
 unfold orX at he
 split at he
 ·rename_i r hr; cases he; exact hX g args h v h' hr
 ·exact hY g args h v h' he
def knownX (fid : FuncId) (L : List (Nat × List Value)) : Ext := fun f a h => match Nat.beq f fid, a with
 | true, [] => match okL L h with | true => some (.bool true, h) | false => none
 | _, _ => none
def sameX (fid : FuncId) : Ext := fun f a h => match Nat.beq f fid, a with | true, [x] => some (x, h) | _, _ => none
theorem sameX_sound {p : Par} {fid : FuncId} (hc : ∀ (y : Value) (w : World), (callFunc fid #[y]).run p.P w = .ok (.value y) w) : SoundX p (sameX fid) := fun g args h v h' hx => by
 unfold sameX at hx
 split at hx
 ·rename_i hf
  have hf := Nat.eq_of_beq_eq_true hf
  subst hf
  cases hx
  exact callW_same hc
 ·cases hx
theorem calls_fin {P : Program} {X : Ext} {NG : Nat} {L : List (Nat × List Value)} {sg : Nat → Int} {tg : Nat → ByteArray} (hf : ∀ (g : Nat) (fn : Func), P.funcs[g]? = some fn → okFunc NG fn = true)
  (hm : P.follows .mixedOrders = true) (hX : ∀ B, SoundX ⟨P, NG, NG, B, sg, tg⟩ X) (hL : okPl NG L = true) {N : Nat} {f : FuncId} {args : List Value} {v : Value} {fn : Func} {c : Code}
  (hfn : P.funcs[f]? = some fn) (hb : fn.body = some c) {r : Option (Value × Heap)} (hr : evCall P X (evC P X N) f args (laidHeap NG L) = r) (he : r.map (·.1) = some v) (hsc : scL 0 args = true) (hv : flat v = true)
  (w : World) (hw : LaidW NG L w) :
  Calls P f ⟨args.map (con0 sg tg)⟩ w fun e w' => e = .returned v ∧ Below w.heap.size w w' :=
 calls_of_ev_at (fun B => ⟨hf, hm, hX B⟩) (laid_hrel P sg tg hL hw) hfn hb hr he hsc hv
end
end Go.Ew
