/-
  A part of the proof: what the program's functions hand back, as theorems. No condition but those that each theorem names.
-/
import Derived.Test.YtgeakofgklcipaaExa
import Derived.Test.YtgeakofgklcipaaEve
import Derived.Test.YtgeakofgklcipaaExb
set_option linter.unusedSimpArgs false
set_option linter.unusedVariables false
namespace Go.Proofs.Ytgeakofgklcipaa
open Go Go.RowKit Go.Ev Go.Dv
noncomputable section
set_option maxRecDepth 100000
def W (a : Int) : Int := IntKind.i64.wrap a
def In (a : Int) : Prop := -9223372036854775808 ≤ a ∧ a ≤ 9223372036854775807
theorem W_in {a : Int} (h : In a) : W a = a := by
 unfold In at h
 unfold W; rw [IntKind.wrap_i64]; omega
theorem H0p : 0 < H0.lo := by rw [H0_lo]; omega
theorem H0q : 0 < H0.next := by rw [H0_next]; omega
abbrev eI : Nat := 3
def ivs (l : List Int) : List Value := l.map (Value.int .i64)
def ivV (l : List Int) : Value := Rw false eI l.length (ivs l)
theorem ivs_len (l : List Int) : (ivs l).length = l.length := by simp [ivs]
theorem ivs_sc (n : Nat) : ∀ l : List Int, scL n (ivs l) = true
 | [] => rfl
 | x :: l => by
  have := ivs_sc n l
  simp only [ivs] at this
  simp [ivs, scL, sc, this]
theorem ivR_sc (n : Nat) (hn : 0 < n) (k : Nat) (f : Bool) (l : List Int) : sc n (Rw f eI k (ivs l)) = true := by
 have := ivs_sc n l
 simp [sc, Rw, scL, this, hn]
theorem ivV_sc (n : Nat) (hn : 0 < n) (l : List Int) : sc n (ivV l) = true := ivR_sc n hn ..
theorem ivs_get' {l : List Int} {i : Nat} (h : i < l.length) : (ivs l)[i]? = some (.int .i64 (l.getD i 0)) := by simp [ivs, h]
theorem ivs_app (a b : List Int) : ivs (a ++ b) = ivs a ++ ivs b := by simp [ivs]
abbrev eS : Nat := 9
def nss (l : List (List UInt8)) : List Value := l.map fun s => Value.string (Tx s)
def nsV (l : List (List UInt8)) : Value := Rw false eS l.length (nss l)
theorem nss_len (l : List (List UInt8)) : (nss l).length = l.length := by simp [nss]
theorem nss_sc (n : Nat) : ∀ l : List (List UInt8), scL n (nss l) = true
 | [] => rfl
 | x :: l => by
  have := nss_sc n l
  simp only [nss] at this
  simp [nss, scL, sc, this]
theorem nsR_sc (n : Nat) (hn : 0 < n) (k : Nat) (f : Bool) (l : List (List UInt8)) : sc n (Rw f eS k (nss l)) = true := by
 have := nss_sc n l
 simp [sc, Rw, scL, this, hn]
theorem nsV_sc (n : Nat) (hn : 0 < n) (l : List (List UInt8)) : sc n (nsV l) = true := nsR_sc n hn ..
theorem nss_get {l : List (List UInt8)} {i : Nat} (h : i < l.length) : (nss l)[i]? = some (.string (Tx (l.getD i []))) := by simp [nss, h]
theorem nss_app (a b : List (List UInt8)) : nss (a ++ b) = nss a ++ nss b := by simp [nss]
abbrev eB : Nat := 4
def bvs (l : List Bool) : List Value := l.map Value.bool
def bvV (l : List Bool) : Value := Rw false eB l.length (bvs l)
theorem bvs_len (l : List Bool) : (bvs l).length = l.length := by simp [bvs]
theorem bvs_sc (n : Nat) : ∀ l : List Bool, scL n (bvs l) = true
 | [] => rfl
 | x :: l => by
  have := bvs_sc n l
  simp only [bvs] at this
  simp [bvs, scL, sc, this]
theorem bvR_sc (n : Nat) (hn : 0 < n) (k : Nat) (f : Bool) (l : List Bool) : sc n (Rw f eB k (bvs l)) = true := by
 have := bvs_sc n l
 simp [sc, Rw, scL, this, hn]
theorem bvs_one : ∀ l : List Bool, (bvs l).all one = true
 | [] => rfl
 | x :: l => by
  have := bvs_one l
  simp only [bvs] at this
  simp [bvs, one]
theorem bvs_get {l : List Bool} {i : Nat} (h : i < l.length) : (bvs l)[i]? = some (.bool (l.getD i false)) := by simp [bvs, h]
theorem sc_nil (n a b : Nat) : sc n (.slice none a b) = true := rfl
attribute [push_cast] sc_nil
theorem sc_agg (n : Nat) (l : List Value) : sc n (.agg ⟨l⟩) = scL n l := rfl
theorem sc_int (n : Nat) (k : IntKind) (i : Int) : sc n (.int k i) = true := rfl
theorem sc_str (n : Nat) (s : ByteArray) : sc n (.string s) = true := rfl
attribute [push_cast] sc_agg sc_int sc_str
theorem sc_fn (n f : Nat) : sc n (.func (.func f) #[] #[]) = true := rfl
attribute [push_cast] sc_fn
attribute [push_cast] ivs_len ivs_sc ivR_sc ivV_sc nss_len nss_sc nsR_sc nsV_sc bvs_len bvs_sc bvR_sc bvs_one b_neqs b_eqls Int.toNat_zero Int.toNat_one Int.natCast_one H0_lo H0_next
def withF (a n : Int) : Int := if a.tmod n < 0 then a.tmod n + n else a.tmod n
theorem withF_lt {a n : Int} (hn : 0 < n) : 0 ≤ withF a n ∧ withF a n < n := by
 have h1 : (a.tmod n).natAbs = a.natAbs % n.natAbs := Int.natAbs_tmod a n
 have h2 : a.natAbs % n.natAbs < n.natAbs := Nat.mod_lt _ (by omega)
 unfold withF
 split <;> omega
inductive Ex where
 | mk (k : Int) (n : Int) (s : List UInt8) (l : List Ex)
abbrev eE : Nat := 31
mutual
def exC : Ex → List Value
 | .mk k n s l => [.int .i64 k, .int .i64 n, .string (Tx s), Rw false eE l.length (exCs l)]
def exCs : List Ex → List Value
 | [] => []
 | x :: l => exC x ++ exCs l
end
def exV (x : Ex) : Value := .agg ⟨exC x⟩
def exsV (l : List Ex) : Value := Rw false eE l.length (exCs l)
theorem exC_mk (k : Int) (n : Int) (s : List UInt8) (l : List Ex) : exC (.mk k n s l) = [.int .i64 k, .int .i64 n, .string (Tx s), Rw false eE l.length (exCs l)] := rfl
theorem exC_len (x : Ex) : (exC x).length = 4 := by cases x; simp [exC]
theorem exCs_len : ∀ l : List Ex, (exCs l).length = l.length * 4
 | [] => rfl
 | x :: l => by rw [exCs, List.length_append, exC_len, exCs_len l, List.length_cons]; omega
theorem exC_one : ∀ x : Ex, (exC x).all one = true
 | .mk k n s l => by simp [exC, one, Rw]
theorem exCs_one : ∀ l : List Ex, (exCs l).all one = true
 | [] => rfl
 | x :: l => by rw [exCs, List.all_append, exC_one x, exCs_one l]; rfl
mutual
theorem exC_sc (nn : Nat) (hn : 0 < nn) : ∀ x : Ex, scL nn (exC x) = true
 | .mk k n s l => by
  have := exCs_sc nn hn l
  simp [exC, scL, Ev.sc, Rw, hn,  *]
theorem exCs_sc (nn : Nat) (hn : 0 < nn) : ∀ l : List Ex, scL nn (exCs l) = true
 | [] => rfl
 | x :: l => by
  rw [exCs]
  exact scL_of_all fun v hv => (List.mem_append.1 hv).elim (scL_all (exC_sc nn hn x) v) (scL_all (exCs_sc nn hn l) v)
end
theorem exV_sc (n : Nat) (hn : 0 < n) (x : Ex) : Ev.sc n (exV x) = true := exC_sc n hn x
theorem exR_sc (n : Nat) (hn : 0 < n) (k : Nat) (f : Bool) (l : List Ex) : Ev.sc n (Rw f eE k (exCs l)) = true := by
 have := exCs_sc n hn l
 simp [Ev.sc, Rw, scL, this, hn]
theorem exsV_sc (n : Nat) (hn : 0 < n) (l : List Ex) : Ev.sc n (exsV l) = true := exR_sc n hn ..
theorem exCs_app : ∀ (a b : List Ex), exCs (a ++ b) = exCs a ++ exCs b
 | [], b => rfl
 | x :: a, b => by rw [List.cons_append, exCs, exCs_app a b, exCs, List.append_assoc]
theorem exCs_1 (x : Ex) : exCs [x] = exC x := by rw [exCs, exCs, List.append_nil]
theorem exCs_drop : ∀ (l : List Ex) (i : Nat), (exCs l).drop (i * 4) = exCs (l.drop i)
 | l, 0 => by simp
 | [], i + 1 => by simp [exCs]
 | x :: l, i + 1 => by
  rw [exCs, List.drop_succ_cons, ← exCs_drop l i, Nat.add_mul, Nat.one_mul, Nat.add_comm, ← List.drop_drop, List.drop_append_of_le_length (by rw [exC_len]; exact Nat.le_refl _), show (exC x).drop 4 = [] from List.drop_of_length_le (by rw [exC_len]; exact Nat.le_refl _), List.nil_append]
theorem exCs_take {l : List Ex} {i : Nat} {x : Ex} (h : l[i]? = some x) : ((exCs l).drop (i * 4)).take 4 = exC x := by
 have hi : i < l.length := (List.getElem?_eq_some_iff.1 h).1
 have hd : l.drop i = x :: l.drop (i + 1) := by rw [List.drop_eq_getElem_cons hi]; congr 1; exact (List.getElem?_eq_some_iff.1 h).2
 rw [exCs_drop, hd, exCs, List.take_append_of_le_length (by rw [exC_len]; exact Nat.le_refl _), List.take_of_length_le (by rw [exC_len]; exact Nat.le_refl _)]
theorem exV_fold (x : Ex) : Value.agg ⟨exC x⟩ = exV x := rfl
theorem exV_cells (x : Ex) : (exV x).cells.toList = exC x := rfl
theorem exC_take (x : Ex) : (exC x).take 4 = exC x := List.take_of_length_le (by rw [exC_len]; exact Nat.le_refl _)
attribute [push_cast] exC_mk exCs_len exV_fold exCs_sc exV_sc exsV_sc exR_sc exC_sc exCs_one exC_one exV_cells exC_take exC_len
def Ex.k : Ex → Int | .mk k _ _ _ => k
def Ex.n : Ex → Int | .mk _ n _ _ => n
def Ex.s : Ex → List UInt8 | .mk _ _ s _ => s
def Ex.l : Ex → List Ex | .mk _ _ _ l => l
theorem Ex.k_mk (k n : Int) (s : List UInt8) (l : List Ex) : Ex.k (.mk k n s l) = k := rfl
theorem Ex.n_mk (k n : Int) (s : List UInt8) (l : List Ex) : Ex.n (.mk k n s l) = n := rfl
theorem Ex.s_mk (k n : Int) (s : List UInt8) (l : List Ex) : Ex.s (.mk k n s l) = s := rfl
theorem Ex.l_mk (k n : Int) (s : List UInt8) (l : List Ex) : Ex.l (.mk k n s l) = l := rfl
theorem exC_of (x : Ex) : exC x = [.int .i64 x.k, .int .i64 x.n, .string (Tx x.s), Rw false eE x.l.length (exCs x.l)] := by cases x; rfl
theorem exV_of (x : Ex) : Value.agg ⟨[.int .i64 x.k, .int .i64 x.n, .string (Tx x.s), Rw false eE x.l.length (exCs x.l)]⟩ = exV x := by cases x; rfl
attribute [push_cast] Ex.k_mk Ex.n_mk Ex.s_mk Ex.l_mk exV_of
inductive Tm where
 | mk (k : Int) (a : Int) (b : Int) (s : List UInt8) (e : Ex) (l : List Tm)
abbrev etm : Nat := 34
mutual
def tmC : Tm → List Value
 | .mk k a b s e l => [.int .i64 k, .int .i64 a, .int .i64 b, .string (Tx s), .int .i64 e.k, .int .i64 e.n, .string (Tx e.s), Rw false eE e.l.length (exCs e.l), Rw false etm l.length (tmCs l)]
def tmCs : List Tm → List Value
 | [] => []
 | x :: l => tmC x ++ tmCs l
end
def tmV (x : Tm) : Value := .agg ⟨tmC x⟩
def tmsV (l : List Tm) : Value := Rw false etm l.length (tmCs l)
theorem tmC_mk (k : Int) (a : Int) (b : Int) (s : List UInt8) (e : Ex) (l : List Tm) : tmC (.mk k a b s e l) = [.int .i64 k, .int .i64 a, .int .i64 b, .string (Tx s), .int .i64 e.k, .int .i64 e.n, .string (Tx e.s), Rw false eE e.l.length (exCs e.l), Rw false etm l.length (tmCs l)] := rfl
theorem tmC_len (x : Tm) : (tmC x).length = 9 := by cases x; simp [tmC]
theorem tmCs_len : ∀ l : List Tm, (tmCs l).length = l.length * 9
 | [] => rfl
 | x :: l => by rw [tmCs, List.length_append, tmC_len, tmCs_len l, List.length_cons]; omega
theorem tmC_one : ∀ x : Tm, (tmC x).all one = true
 | .mk k a b s e l => by simp [tmC, one, Rw]
theorem tmCs_one : ∀ l : List Tm, (tmCs l).all one = true
 | [] => rfl
 | x :: l => by rw [tmCs, List.all_append, tmC_one x, tmCs_one l]; rfl
mutual
theorem tmC_sc (nn : Nat) (hn : 0 < nn) : ∀ x : Tm, scL nn (tmC x) = true
 | .mk k a b s e l => by
  have := tmCs_sc nn hn l
  simp [tmC, scL, Ev.sc, Rw, hn, exCs_sc,  *]
theorem tmCs_sc (nn : Nat) (hn : 0 < nn) : ∀ l : List Tm, scL nn (tmCs l) = true
 | [] => rfl
 | x :: l => by
  rw [tmCs]
  exact scL_of_all fun v hv => (List.mem_append.1 hv).elim (scL_all (tmC_sc nn hn x) v) (scL_all (tmCs_sc nn hn l) v)
end
theorem tmV_sc (n : Nat) (hn : 0 < n) (x : Tm) : Ev.sc n (tmV x) = true := tmC_sc n hn x
theorem tmR_sc (n : Nat) (hn : 0 < n) (k : Nat) (f : Bool) (l : List Tm) : Ev.sc n (Rw f etm k (tmCs l)) = true := by
 have := tmCs_sc n hn l
 simp [Ev.sc, Rw, scL, this, hn]
theorem tmsV_sc (n : Nat) (hn : 0 < n) (l : List Tm) : Ev.sc n (tmsV l) = true := tmR_sc n hn ..
theorem tmCs_app : ∀ (a b : List Tm), tmCs (a ++ b) = tmCs a ++ tmCs b
 | [], b => rfl
 | x :: a, b => by rw [List.cons_append, tmCs, tmCs_app a b, tmCs, List.append_assoc]
theorem tmCs_1 (x : Tm) : tmCs [x] = tmC x := by rw [tmCs, tmCs, List.append_nil]
theorem tmCs_drop : ∀ (l : List Tm) (i : Nat), (tmCs l).drop (i * 9) = tmCs (l.drop i)
 | l, 0 => by simp
 | [], i + 1 => by simp [tmCs]
 | x :: l, i + 1 => by
  rw [tmCs, List.drop_succ_cons, ← tmCs_drop l i, Nat.add_mul, Nat.one_mul, Nat.add_comm, ← List.drop_drop, List.drop_append_of_le_length (by rw [tmC_len]; exact Nat.le_refl _), show (tmC x).drop 9 = [] from List.drop_of_length_le (by rw [tmC_len]; exact Nat.le_refl _), List.nil_append]
theorem tmCs_take {l : List Tm} {i : Nat} {x : Tm} (h : l[i]? = some x) : ((tmCs l).drop (i * 9)).take 9 = tmC x := by
 have hi : i < l.length := (List.getElem?_eq_some_iff.1 h).1
 have hd : l.drop i = x :: l.drop (i + 1) := by rw [List.drop_eq_getElem_cons hi]; congr 1; exact (List.getElem?_eq_some_iff.1 h).2
 rw [tmCs_drop, hd, tmCs, List.take_append_of_le_length (by rw [tmC_len]; exact Nat.le_refl _), List.take_of_length_le (by rw [tmC_len]; exact Nat.le_refl _)]
theorem tmV_fold (x : Tm) : Value.agg ⟨tmC x⟩ = tmV x := rfl
theorem tmV_cells (x : Tm) : (tmV x).cells.toList = tmC x := rfl
theorem tmC_take (x : Tm) : (tmC x).take 9 = tmC x := List.take_of_length_le (by rw [tmC_len]; exact Nat.le_refl _)
theorem tmCs_p0 (x : Tm) (l : List Tm) : (tmCs (x :: l)).take 9 = tmC x := tmCs_take (l := x :: l) (i := 0) rfl
attribute [push_cast] tmC_mk tmCs_len tmV_fold tmCs_sc tmV_sc tmsV_sc tmR_sc tmC_sc tmCs_one tmC_one tmV_cells tmC_take tmC_len tmCs_p0
def Tm.k : Tm → Int | .mk k _ _ _ _ _ => k
def Tm.a : Tm → Int | .mk _ a _ _ _ _ => a
def Tm.b : Tm → Int | .mk _ _ b _ _ _ => b
def Tm.s : Tm → List UInt8 | .mk _ _ _ s _ _ => s
def Tm.e : Tm → Ex | .mk _ _ _ _ e _ => e
def Tm.l : Tm → List Tm | .mk _ _ _ _ _ l => l
theorem Tm.k_mk (k a b : Int) (s : List UInt8) (e : Ex) (l : List Tm) : Tm.k (.mk k a b s e l) = k := rfl
theorem Tm.l_mk (k a b : Int) (s : List UInt8) (e : Ex) (l : List Tm) : Tm.l (.mk k a b s e l) = l := rfl
inductive Pr where
 | mk (k : Int) (n : List UInt8) (t : List UInt8) (e : Ex) (l : List Pr)
abbrev epr : Nat := 77
mutual
def prC : Pr → List Value
 | .mk k n t e l => [.int .i64 k, .string (Tx n), .string (Tx t), .int .i64 e.k, .int .i64 e.n, .string (Tx e.s), Rw false eE e.l.length (exCs e.l), Rw false epr l.length (prCs l)]
def prCs : List Pr → List Value
 | [] => []
 | x :: l => prC x ++ prCs l
end
def prV (x : Pr) : Value := .agg ⟨prC x⟩
def prsV (l : List Pr) : Value := Rw false epr l.length (prCs l)
theorem prC_mk (k : Int) (n : List UInt8) (t : List UInt8) (e : Ex) (l : List Pr) : prC (.mk k n t e l) = [.int .i64 k, .string (Tx n), .string (Tx t), .int .i64 e.k, .int .i64 e.n, .string (Tx e.s), Rw false eE e.l.length (exCs e.l), Rw false epr l.length (prCs l)] := rfl
theorem prC_len (x : Pr) : (prC x).length = 8 := by cases x; simp [prC]
theorem prCs_len : ∀ l : List Pr, (prCs l).length = l.length * 8
 | [] => rfl
 | x :: l => by rw [prCs, List.length_append, prC_len, prCs_len l, List.length_cons]; omega
theorem prC_one : ∀ x : Pr, (prC x).all one = true
 | .mk k n t e l => by simp [prC, one, Rw]
mutual
theorem prC_sc (nn : Nat) (hn : 0 < nn) : ∀ x : Pr, scL nn (prC x) = true
 | .mk k n t e l => by
  have := prCs_sc nn hn l
  simp [prC, scL, Ev.sc, Rw, hn, exCs_sc,  *]
theorem prCs_sc (nn : Nat) (hn : 0 < nn) : ∀ l : List Pr, scL nn (prCs l) = true
 | [] => rfl
 | x :: l => by
  rw [prCs]
  exact scL_of_all fun v hv => (List.mem_append.1 hv).elim (scL_all (prC_sc nn hn x) v) (scL_all (prCs_sc nn hn l) v)
end
theorem prV_sc (n : Nat) (hn : 0 < n) (x : Pr) : Ev.sc n (prV x) = true := prC_sc n hn x
theorem prCs_1 (x : Pr) : prCs [x] = prC x := by rw [prCs, prCs, List.append_nil]
theorem prCs_drop : ∀ (l : List Pr) (i : Nat), (prCs l).drop (i * 8) = prCs (l.drop i)
 | l, 0 => by simp
 | [], i + 1 => by simp [prCs]
 | x :: l, i + 1 => by
  rw [prCs, List.drop_succ_cons, ← prCs_drop l i, Nat.add_mul, Nat.one_mul, Nat.add_comm, ← List.drop_drop, List.drop_append_of_le_length (by rw [prC_len]; exact Nat.le_refl _), show (prC x).drop 8 = [] from List.drop_of_length_le (by rw [prC_len]; exact Nat.le_refl _), List.nil_append]
theorem prCs_take {l : List Pr} {i : Nat} {x : Pr} (h : l[i]? = some x) : ((prCs l).drop (i * 8)).take 8 = prC x := by
 have hi : i < l.length := (List.getElem?_eq_some_iff.1 h).1
 have hd : l.drop i = x :: l.drop (i + 1) := by rw [List.drop_eq_getElem_cons hi]; congr 1; exact (List.getElem?_eq_some_iff.1 h).2
 rw [prCs_drop, hd, prCs, List.take_append_of_le_length (by rw [prC_len]; exact Nat.le_refl _), List.take_of_length_le (by rw [prC_len]; exact Nat.le_refl _)]
theorem prV_fold (x : Pr) : Value.agg ⟨prC x⟩ = prV x := rfl
theorem prV_cells (x : Pr) : (prV x).cells.toList = prC x := rfl
theorem prC_take (x : Pr) : (prC x).take 8 = prC x := List.take_of_length_le (by rw [prC_len]; exact Nat.le_refl _)
theorem prCs_p0 (x : Pr) (l : List Pr) : (prCs (x :: l)).take 8 = prC x := prCs_take (l := x :: l) (i := 0) rfl
theorem prCs_p1 (x y : Pr) (l : List Pr) : ((prCs (x :: y :: l)).drop 8).take 8 = prC y := prCs_take (l := x :: y :: l) (i := 1) rfl
attribute [push_cast] prC_mk prCs_len prV_fold prCs_sc prV_sc prC_sc prC_one prV_cells prC_take prC_len prCs_p0 prCs_p1
inductive Ra where
 | mk (k : Int) (n : Int) (l : List Ra)
abbrev era : Nat := 133
mutual
def raC : Ra → List Value
 | .mk k n l => [.int .i64 k, .int .i64 n, Rw false era l.length (raCs l)]
def raCs : List Ra → List Value
 | [] => []
 | x :: l => raC x ++ raCs l
end
def raV (x : Ra) : Value := .agg ⟨raC x⟩
def rasV (l : List Ra) : Value := Rw false era l.length (raCs l)
theorem raC_mk (k : Int) (n : Int) (l : List Ra) : raC (.mk k n l) = [.int .i64 k, .int .i64 n, Rw false era l.length (raCs l)] := rfl
theorem raC_len (x : Ra) : (raC x).length = 3 := by cases x; simp [raC]
theorem raCs_len : ∀ l : List Ra, (raCs l).length = l.length * 3
 | [] => rfl
 | x :: l => by rw [raCs, List.length_append, raC_len, raCs_len l, List.length_cons]; omega
theorem raC_one : ∀ x : Ra, (raC x).all one = true
 | .mk k n l => by simp [raC, one, Rw]
mutual
theorem raC_sc (nn : Nat) (hn : 0 < nn) : ∀ x : Ra, scL nn (raC x) = true
 | .mk k n l => by
  have := raCs_sc nn hn l
  simp [raC, scL, Ev.sc, Rw, hn,  *]
theorem raCs_sc (nn : Nat) (hn : 0 < nn) : ∀ l : List Ra, scL nn (raCs l) = true
 | [] => rfl
 | x :: l => by
  rw [raCs]
  exact scL_of_all fun v hv => (List.mem_append.1 hv).elim (scL_all (raC_sc nn hn x) v) (scL_all (raCs_sc nn hn l) v)
end
theorem raV_sc (n : Nat) (hn : 0 < n) (x : Ra) : Ev.sc n (raV x) = true := raC_sc n hn x
theorem raR_sc (n : Nat) (hn : 0 < n) (k : Nat) (f : Bool) (l : List Ra) : Ev.sc n (Rw f era k (raCs l)) = true := by
 have := raCs_sc n hn l
 simp [Ev.sc, Rw, scL, this, hn]
theorem rasV_sc (n : Nat) (hn : 0 < n) (l : List Ra) : Ev.sc n (rasV l) = true := raR_sc n hn ..
theorem raCs_drop : ∀ (l : List Ra) (i : Nat), (raCs l).drop (i * 3) = raCs (l.drop i)
 | l, 0 => by simp
 | [], i + 1 => by simp [raCs]
 | x :: l, i + 1 => by
  rw [raCs, List.drop_succ_cons, ← raCs_drop l i, Nat.add_mul, Nat.one_mul, Nat.add_comm, ← List.drop_drop, List.drop_append_of_le_length (by rw [raC_len]; exact Nat.le_refl _), show (raC x).drop 3 = [] from List.drop_of_length_le (by rw [raC_len]; exact Nat.le_refl _), List.nil_append]
theorem raCs_take {l : List Ra} {i : Nat} {x : Ra} (h : l[i]? = some x) : ((raCs l).drop (i * 3)).take 3 = raC x := by
 have hi : i < l.length := (List.getElem?_eq_some_iff.1 h).1
 have hd : l.drop i = x :: l.drop (i + 1) := by rw [List.drop_eq_getElem_cons hi]; congr 1; exact (List.getElem?_eq_some_iff.1 h).2
 rw [raCs_drop, hd, raCs, List.take_append_of_le_length (by rw [raC_len]; exact Nat.le_refl _), List.take_of_length_le (by rw [raC_len]; exact Nat.le_refl _)]
theorem raCs_get {l : List Ra} {i j : Nat} {x : Ra} {v : Value} (h : l[i]? = some x) (hj : j < 3) (hv : (raC x)[j]? = some v) : (raCs l)[i * 3 + j]? = some v := by
 have h1 := raCs_take h
 rw [← h1, List.getElem?_take_of_lt hj, List.getElem?_drop] at hv
 exact hv
theorem raV_fold (x : Ra) : Value.agg ⟨raC x⟩ = raV x := rfl
theorem raV_cells (x : Ra) : (raV x).cells.toList = raC x := rfl
attribute [push_cast] raC_mk raCs_len raV_fold raCs_sc raV_sc rasV_sc raR_sc raC_sc raC_one raV_cells raC_len
inductive Rb where
 | mk (k : Int) (a : Int) (b : Int) (e : List Ra) (l : List Rb)
abbrev erb : Nat := 38
mutual
def rbC : Rb → List Value
 | .mk k a b e l => [.int .i64 k, .int .i64 a, .int .i64 b, Rw false era e.length (raCs e), Rw false erb l.length (rbCs l)]
def rbCs : List Rb → List Value
 | [] => []
 | x :: l => rbC x ++ rbCs l
end
def rbV (x : Rb) : Value := .agg ⟨rbC x⟩
def rbsV (l : List Rb) : Value := Rw false erb l.length (rbCs l)
theorem rbC_mk (k : Int) (a : Int) (b : Int) (e : List Ra) (l : List Rb) : rbC (.mk k a b e l) = [.int .i64 k, .int .i64 a, .int .i64 b, Rw false era e.length (raCs e), Rw false erb l.length (rbCs l)] := rfl
theorem rbC_len (x : Rb) : (rbC x).length = 5 := by cases x; simp [rbC]
theorem rbCs_len : ∀ l : List Rb, (rbCs l).length = l.length * 5
 | [] => rfl
 | x :: l => by rw [rbCs, List.length_append, rbC_len, rbCs_len l, List.length_cons]; omega
theorem rbC_one : ∀ x : Rb, (rbC x).all one = true
 | .mk k a b e l => by simp [rbC, one, Rw]
mutual
theorem rbC_sc (nn : Nat) (hn : 0 < nn) : ∀ x : Rb, scL nn (rbC x) = true
 | .mk k a b e l => by
  have := rbCs_sc nn hn l
  simp [rbC, scL, Ev.sc, Rw, hn, raCs_sc,  *]
theorem rbCs_sc (nn : Nat) (hn : 0 < nn) : ∀ l : List Rb, scL nn (rbCs l) = true
 | [] => rfl
 | x :: l => by
  rw [rbCs]
  exact scL_of_all fun v hv => (List.mem_append.1 hv).elim (scL_all (rbC_sc nn hn x) v) (scL_all (rbCs_sc nn hn l) v)
end
theorem rbV_sc (n : Nat) (hn : 0 < n) (x : Rb) : Ev.sc n (rbV x) = true := rbC_sc n hn x
theorem rbR_sc (n : Nat) (hn : 0 < n) (k : Nat) (f : Bool) (l : List Rb) : Ev.sc n (Rw f erb k (rbCs l)) = true := by
 have := rbCs_sc n hn l
 simp [Ev.sc, Rw, scL, this, hn]
theorem rbsV_sc (n : Nat) (hn : 0 < n) (l : List Rb) : Ev.sc n (rbsV l) = true := rbR_sc n hn ..
theorem rbCs_1 (x : Rb) : rbCs [x] = rbC x := by rw [rbCs, rbCs, List.append_nil]
theorem rbCs_drop : ∀ (l : List Rb) (i : Nat), (rbCs l).drop (i * 5) = rbCs (l.drop i)
 | l, 0 => by simp
 | [], i + 1 => by simp [rbCs]
 | x :: l, i + 1 => by
  rw [rbCs, List.drop_succ_cons, ← rbCs_drop l i, Nat.add_mul, Nat.one_mul, Nat.add_comm, ← List.drop_drop, List.drop_append_of_le_length (by rw [rbC_len]; exact Nat.le_refl _), show (rbC x).drop 5 = [] from List.drop_of_length_le (by rw [rbC_len]; exact Nat.le_refl _), List.nil_append]
theorem rbCs_take {l : List Rb} {i : Nat} {x : Rb} (h : l[i]? = some x) : ((rbCs l).drop (i * 5)).take 5 = rbC x := by
 have hi : i < l.length := (List.getElem?_eq_some_iff.1 h).1
 have hd : l.drop i = x :: l.drop (i + 1) := by rw [List.drop_eq_getElem_cons hi]; congr 1; exact (List.getElem?_eq_some_iff.1 h).2
 rw [rbCs_drop, hd, rbCs, List.take_append_of_le_length (by rw [rbC_len]; exact Nat.le_refl _), List.take_of_length_le (by rw [rbC_len]; exact Nat.le_refl _)]
theorem rbCs_get {l : List Rb} {i j : Nat} {x : Rb} {v : Value} (h : l[i]? = some x) (hj : j < 5) (hv : (rbC x)[j]? = some v) : (rbCs l)[i * 5 + j]? = some v := by
 have h1 := rbCs_take h
 rw [← h1, List.getElem?_take_of_lt hj, List.getElem?_drop] at hv
 exact hv
theorem rbV_fold (x : Rb) : Value.agg ⟨rbC x⟩ = rbV x := rfl
theorem rbV_cells (x : Rb) : (rbV x).cells.toList = rbC x := rfl
attribute [push_cast] rbC_mk rbCs_len rbV_fold rbCs_sc rbV_sc rbsV_sc rbR_sc rbC_sc rbC_one rbV_cells rbC_len
theorem nil_Tm (G : Nat × Nat) (n : Nat) (σ : Heap) : FzV (pp G).P n σ (.slice none 0 0) (tmsV []) := .nil (size := 9) rfl (by decide)
theorem nil_Ex (G : Nat × Nat) (n : Nat) (σ : Heap) : FzV (pp G).P n σ (.slice none 0 0) (exsV []) := .nil (size := 4) rfl (by decide)
theorem nil_Pr (G : Nat × Nat) (n : Nat) (σ : Heap) : FzV (pp G).P n σ (.slice none 0 0) (prsV []) := .nil (size := 8) rfl (by decide)
theorem nil_iv (G : Nat × Nat) (n : Nat) (σ : Heap) : FzV (pp G).P n σ (.slice none 0 0) (ivV []) := .nil (size := 1) rfl (by decide)
theorem nil_ns (G : Nat × Nat) (n : Nat) (σ : Heap) : FzV (pp G).P n σ (.slice none 0 0) (nsV []) := .nil (size := 1) rfl (by decide)
end
end Go.Proofs.Ytgeakofgklcipaa
namespace Go.Proofs.Ytgeakofgklcipaa
open Go Go.RowKit Go.Ev Go.Dv
noncomputable section
set_option maxRecDepth 100000
variable (G : Nat × Nat)
theorem fill_step {A c z : List Value} {w k off : Nat} (hA : A.length = off) (hz : z.length = w) : (A ++ (List.replicate (k + 1) z).flatten).take off ++ c ++ (A ++ (List.replicate (k + 1) z).flatten).drop (off + w) = (A ++ c) ++ (List.replicate k z).flatten := by
 subst hA
 rw [List.take_left, List.drop_append, List.drop_of_length_le (by omega), List.nil_append, Nat.add_sub_cancel_left, List.replicate_succ, List.flatten_cons, List.drop_append, List.drop_of_length_le (by omega), List.nil_append, hz, Nat.sub_self, List.drop_zero]
theorem fill_len {A z : List Value} {w k off n : Nat} (hA : A.length = off) (hz : z.length = w) (hn : off + k * w = n) : (A ++ (List.replicate k z).flatten).length = n := by
 rw [List.length_append, List.length_flatten, List.map_replicate, List.sum_replicate_nat, hA, hz, hn]
theorem take_succ_get {α : Type} {l : List α} {i : Nat} {x : α} (h : l[i]? = some x) : l.take (i + 1) = l.take i ++ [x] := by
 rw [List.take_add_one, h]; rfl
theorem some_get {α : Type} {l : List α} {i : Nat} (h : i < l.length) : ∃ x, l[i]? = some x := ⟨_, List.getElem?_eq_getElem h⟩
def zex : List Value := [.int .i64 0, .int .i64 0, .string (Tx []), .slice none 0 0]
inductive ILex (l : List Ex) (fv : Value) : Nat → S → Prop
 | mk (i : Nat) (iv : Int) (h : Heap) {x0 x2 x3 x4 x6 x7 x8 x9 xA xB xC xD xH xI xJ xK xL xM xN xO xP xQ xR xS : Value} (hiv : iv = (i : Int)) (hi : i ≤ l.length) (c1 : cells h 1 = some (exCs (l.take i) ++ (List.replicate (l.length - i) zex).flatten, 31, false)) (hl1 : h.lo = 1) (hl2 : 2 ≤ h.next) :
  ILex l fv (l.length - i) ⟨(F29 x0 fv x2 x3 x4 (.slice (some ⟨1, 0, none⟩) l.length l.length) x6 x7 x8 x9 xA xB xC xD (Rw false eE l.length (exCs l)) (.int .i64 l.length) (.int .i64 iv) xH xI xJ xK xL xM xN xO xP xQ xR xS), [], h⟩
theorem listex_f (l : List Ex) (f : FuncId) (hll : l.length < 100000000000) (hf : ∀ x ∈ l, CallF (pp G) H0 f [exV x] (exV x)) : CallF (pp G) H0 88 [exsV l, .func (.func f) #[] #[]] (exsV l) := by
 have hlo : H0.lo ≤ H0.next := Nat.le_refl _; refine CallF.cut (CallD.fir4 (q := qq) (good G) fir88 ok_ir88 rfl rfl (F29_arr ..) (show NGG ≤ H0.lo by rw [H0_lo]; decide) ?_); rw [sd_ir88]
 unfold exsV
 by_cases h0 : l.length = 0
 ·have h0' : (l.length : Int) = 0 := by omega
  obtain rfl : l = [] := List.length_eq_zero_iff.1 h0
  simp (disch:=first|omega|(refine id ?_;simp only[push_cast];try omega)) only [push_cast,simprocAttr,h0']
  exact .nil (size := 4) rfl (by decide)
 have h0' : ¬ (l.length : Int) = 0 := by omega
 have h1 : (l.length : Int) * 400 + l.length < 100000000000000 := by omega
 simp (disch:=first|omega|(refine id ?_;simp only[push_cast];try omega)) only [push_cast,simprocAttr,h0',h1]
 refine WD.loop4 (q := qq) (good G) ok_ir88_s0 (ILex l (.func (.func f) #[] #[])) ?_ _ _ (ILex.mk 0 0 _ rfl (Nat.zero_le _) (by simp (disch:=first|omega|(refine id ?_;simp only[push_cast];try omega)) only [push_cast,simprocAttr,List.take_zero]; rfl) rfl (by first | assumption | (simp (disch:=first|omega|(refine id ?_;simp only[push_cast];try omega)) only [push_cast,simprocAttr]; try omega)))
 intro m s1 hI
 cases hI with | mk i iv h hiv hi c1 hl1 hl2 =>
 subst hiv
 rw [sd_ir88_s0]
 by_cases hil : (i : Int) < l.length
 ·obtain ⟨x, hx⟩ := some_get (l := l) (i := i) (by omega)
  have hxm := List.mem_of_getElem? hx
  have hp := exCs_take hx
  have hle : i * 4 + 4 ≤ l.length * 4 := by omega
  simp (disch:=first|omega|(refine id ?_;simp only[push_cast];try omega)) only [push_cast,simprocAttr,hil,Int.toNat_natCast,hp,hle,hl1]
  refine CallVD.dataI (hf x hxm) (by and_intros <;> first | rfl | (simp (disch:=first|omega|(refine id ?_;simp only[push_cast];try omega)) only [push_cast])) ?_
  obtain ⟨k, hk⟩ : ∃ k, l.length - i = k + 1 := ⟨l.length - i - 1, by omega⟩
  have hta : (exCs (l.take i)).length = i * 4 := by rw [exCs_len, List.length_take, Nat.min_eq_left hi]
  have hlen := fill_len (w := 4) (z := zex) (k := l.length - i) (n := l.length * 4) hta rfl (by rw [Nat.sub_mul]; omega)
  have hst := fill_step (c := exC x) (w := 4) (z := zex) (k := k) hta rfl
  rw [← hk, ← exCs_1, ← exCs_app, ← take_succ_get hx, show k = l.length - (i + 1) by omega, exCs_1] at hst
  simp (disch:=first|omega|(refine id ?_;simp only[push_cast];try omega)) only [push_cast,simprocAttr,hil,Int.toNat_natCast,hle,hl1,c1,hlen,hst]
  exact ⟨_,by omega,ILex.mk (i + 1) _ _ (by first | rfl | omega) (by omega) (by first | assumption | (simp (disch:=first|omega|(refine id ?_;simp only[push_cast];try omega)) only [push_cast,simprocAttr]; try omega)) (by first | assumption | (simp (disch:=first|omega|(refine id ?_;simp only[push_cast];try omega)) only [push_cast,simprocAttr,hl1]; try omega)) (by first | assumption | (simp (disch:=first|omega|(refine id ?_;simp only[push_cast];try omega)) only [push_cast,simprocAttr]; try omega))⟩
 ·have hie : i = l.length := by omega
  subst hie
  rw [List.take_length, Nat.sub_self, List.replicate_zero, List.flatten_nil, List.append_nil] at c1
  simp (disch:=first|omega|(refine id ?_;simp only[push_cast];try omega)) only [push_cast,simprocAttr,hil]
  rw [sd_ir88_s1]
  simp (disch:=first|omega|(refine id ?_;simp only[push_cast];try omega)) only [push_cast,simprocAttr]
  refine .sl (by simp (disch:=first|omega|(refine id ?_;simp only[push_cast];try omega)) only [push_cast,simprocAttr]) c1 (size := 4) rfl (by decide) (by first | assumption | (simp (disch:=first|omega|(refine id ?_;simp only[push_cast];try omega)) only [push_cast,simprocAttr]; try omega)) (.inl ⟨by simp only [UC]; omega,Nat.le_refl _⟩) ?_
  rw [List.drop_zero, List.take_of_length_le (by rw [exCs_len]; exact Nat.le_refl _)]
  exact .ids (exCs_sc _ H0q l)
def ztm : List Value := [.int .i64 0, .int .i64 0, .int .i64 0, .string (Tx []), .int .i64 0, .int .i64 0, .string (Tx []), .slice none 0 0, .slice none 0 0]
inductive ILtm (l : List Tm) (fv : Value) : Nat → S → Prop
 | mk (i : Nat) (iv : Int) (h : Heap) {x0 x2 x3 x4 x6 x7 x8 x9 xA xB xC xD xH xI xJ xK xL xM xN xO xP xQ xR xS : Value} (hiv : iv = (i : Int)) (hi : i ≤ l.length) (c1 : cells h 1 = some (tmCs (l.take i) ++ (List.replicate (l.length - i) ztm).flatten, 34, false)) (hl1 : h.lo = 1) (hl2 : 2 ≤ h.next) :
  ILtm l fv (l.length - i) ⟨(F29 x0 fv x2 x3 x4 (.slice (some ⟨1, 0, none⟩) l.length l.length) x6 x7 x8 x9 xA xB xC xD (Rw false etm l.length (tmCs l)) (.int .i64 l.length) (.int .i64 iv) xH xI xJ xK xL xM xN xO xP xQ xR xS), [], h⟩
theorem listtm_f (l : List Tm) (f : FuncId) (hll : l.length < 100000000000) (hf : ∀ x ∈ l, CallF (pp G) H0 f [tmV x] (tmV x)) : CallF (pp G) H0 73 [tmsV l, .func (.func f) #[] #[]] (tmsV l) := by
 have hlo : H0.lo ≤ H0.next := Nat.le_refl _; refine CallF.cut (CallD.fir4 (q := qq) (good G) fir73 ok_ir73 rfl rfl (F29_arr ..) (show NGG ≤ H0.lo by rw [H0_lo]; decide) ?_); rw [sd_ir73]
 unfold tmsV
 by_cases h0 : l.length = 0
 ·have h0' : (l.length : Int) = 0 := by omega
  obtain rfl : l = [] := List.length_eq_zero_iff.1 h0
  simp (disch:=first|omega|(refine id ?_;simp only[push_cast];try omega)) only [push_cast,simprocAttr,h0']
  exact .nil (size := 9) rfl (by decide)
 have h0' : ¬ (l.length : Int) = 0 := by omega
 have h1 : (l.length : Int) * 400 + l.length < 100000000000000 := by omega
 simp (disch:=first|omega|(refine id ?_;simp only[push_cast];try omega)) only [push_cast,simprocAttr,h0',h1]
 refine WD.loop4 (q := qq) (good G) ok_ir73_s0 (ILtm l (.func (.func f) #[] #[])) ?_ _ _ (ILtm.mk 0 0 _ rfl (Nat.zero_le _) (by simp (disch:=first|omega|(refine id ?_;simp only[push_cast];try omega)) only [push_cast,simprocAttr,List.take_zero]; rfl) rfl (by first | assumption | (simp (disch:=first|omega|(refine id ?_;simp only[push_cast];try omega)) only [push_cast,simprocAttr]; try omega)))
 intro m s1 hI
 cases hI with | mk i iv h hiv hi c1 hl1 hl2 =>
 subst hiv
 rw [sd_ir73_s0]
 by_cases hil : (i : Int) < l.length
 ·obtain ⟨x, hx⟩ := some_get (l := l) (i := i) (by omega)
  have hxm := List.mem_of_getElem? hx
  have hp := tmCs_take hx
  have hle : i * 9 + 9 ≤ l.length * 9 := by omega
  simp (disch:=first|omega|(refine id ?_;simp only[push_cast];try omega)) only [push_cast,simprocAttr,hil,Int.toNat_natCast,hp,hle,hl1]
  refine CallVD.dataI (hf x hxm) (by and_intros <;> first | rfl | (simp (disch:=first|omega|(refine id ?_;simp only[push_cast];try omega)) only [push_cast])) ?_
  obtain ⟨k, hk⟩ : ∃ k, l.length - i = k + 1 := ⟨l.length - i - 1, by omega⟩
  have hta : (tmCs (l.take i)).length = i * 9 := by rw [tmCs_len, List.length_take, Nat.min_eq_left hi]
  have hlen := fill_len (w := 9) (z := ztm) (k := l.length - i) (n := l.length * 9) hta rfl (by rw [Nat.sub_mul]; omega)
  have hst := fill_step (c := tmC x) (w := 9) (z := ztm) (k := k) hta rfl
  rw [← hk, ← tmCs_1, ← tmCs_app, ← take_succ_get hx, show k = l.length - (i + 1) by omega, tmCs_1] at hst
  simp (disch:=first|omega|(refine id ?_;simp only[push_cast];try omega)) only [push_cast,simprocAttr,hil,Int.toNat_natCast,hle,hl1,c1,hlen,hst]
  exact ⟨_,by omega,ILtm.mk (i + 1) _ _ (by first | rfl | omega) (by omega) (by first | assumption | (simp (disch:=first|omega|(refine id ?_;simp only[push_cast];try omega)) only [push_cast,simprocAttr]; try omega)) (by first | assumption | (simp (disch:=first|omega|(refine id ?_;simp only[push_cast];try omega)) only [push_cast,simprocAttr,hl1]; try omega)) (by first | assumption | (simp (disch:=first|omega|(refine id ?_;simp only[push_cast];try omega)) only [push_cast,simprocAttr]; try omega))⟩
 ·have hie : i = l.length := by omega
  subst hie
  rw [List.take_length, Nat.sub_self, List.replicate_zero, List.flatten_nil, List.append_nil] at c1
  simp (disch:=first|omega|(refine id ?_;simp only[push_cast];try omega)) only [push_cast,simprocAttr,hil]
  rw [sd_ir73_s1]
  simp (disch:=first|omega|(refine id ?_;simp only[push_cast];try omega)) only [push_cast,simprocAttr]
  refine .sl (by simp (disch:=first|omega|(refine id ?_;simp only[push_cast];try omega)) only [push_cast,simprocAttr]) c1 (size := 9) rfl (by decide) (by first | assumption | (simp (disch:=first|omega|(refine id ?_;simp only[push_cast];try omega)) only [push_cast,simprocAttr]; try omega)) (.inl ⟨by simp only [UC]; omega,Nat.le_refl _⟩) ?_
  rw [List.drop_zero, List.take_of_length_le (by rw [tmCs_len]; exact Nat.le_refl _)]
  exact .ids (tmCs_sc _ H0q l)
mutual
def smE : Ex → Bool
 | .mk k n s l => decide (l.length < 100000000000) && smEs l
def smEs : List Ex → Bool
 | [] => true
 | x :: l => smE x && smEs l
end
mutual
def smT : Tm → Bool
 | .mk k a b s e l => decide (l.length < 100000000000) && smE e && smTs l
def smTs : List Tm → Bool
 | [] => true
 | x :: l => smT x && smTs l
end
theorem smEs_all : ∀ {l : List Ex}, smEs l = true → ∀ x ∈ l, smE x = true
 | [], _, x, hx => by cases hx
 | y :: l, h, x, hx => by
  simp only [smEs, Bool.and_eq_true] at h
  rcases List.mem_cons.1 hx with rfl | hx
  ·exact h.1
  ·exact smEs_all h.2 x hx
theorem smTs_all : ∀ {l : List Tm}, smTs l = true → ∀ x ∈ l, smT x = true
 | [], _, x, hx => by cases hx
 | y :: l, h, x, hx => by
  simp only [smTs, Bool.and_eq_true] at h
  rcases List.mem_cons.1 hx with rfl | hx
  ·exact h.1
  ·exact smTs_all h.2 x hx
theorem smTs_of : ∀ {l : List Tm}, (∀ x ∈ l, smT x = true) → smTs l = true
 | [], _ => rfl
 | y :: l, h => by rw [smTs, h y (by simp), smTs_of fun x hx => h x (by simp [hx])]; rfl
theorem ownE_f : ∀ x : Ex, smE x = true → CallF (pp G) H0 74 [exV x] (exV x)
 | .mk k n s l, hs => by
  simp only [smE, Bool.and_eq_true, decide_eq_true_eq] at hs
  have hl := listex_f G l 74 hs.1 fun x hx => ownE_f x (smEs_all hs.2 x hx)
  have hlo : H0.lo ≤ H0.next := Nat.le_refl _; refine CallF.cut (CallD.fir4 (q := qq) (good G) fir74 ok_ir74 rfl rfl (F8_arr ..) (show NGG ≤ H0.lo by rw [H0_lo]; decide) ?_); rw [sd_ir74]
  unfold exV exC
  simp (disch:=first|omega|(refine id ?_;simp only[push_cast];try omega)) only [push_cast,simprocAttr]
  refine CallVD.dataI (hl) (by and_intros <;> first | rfl | (simp (disch:=first|omega|(refine id ?_;simp only[push_cast];try omega)) only [push_cast])) ?_
  unfold exsV
  simp (disch:=first|omega|(refine id ?_;simp only[push_cast];try omega)) only [push_cast,simprocAttr]
  exact .id (exV_sc _ H0q (.mk k n s l))
 termination_by x => SizeOf.sizeOf x
theorem ownT_f : ∀ x : Tm, smT x = true → CallF (pp G) H0 54 [tmV x] (tmV x)
 | .mk k a b s e l, hs => by
  simp only [smT, Bool.and_eq_true, decide_eq_true_eq] at hs
  have hl := listtm_f G l 54 hs.1.1 fun x hx => ownT_f x (smTs_all hs.2 x hx)
  have hT : CallF (pp G) H0 56 [tmsV l] (tmsV l) := by
   have hlo : H0.lo ≤ H0.next := Nat.le_refl _; refine CallF.cut (CallD.fir4 (q := qq) (good G) fir56 ok_ir56 rfl rfl (F5_arr ..) (show NGG ≤ H0.lo by rw [H0_lo]; decide) ?_); rw [sd_ir56]
   unfold tmsV
   simp (disch:=first|omega|(refine id ?_;simp only[push_cast];try omega)) only [push_cast,simprocAttr]
   refine CallVD.dataI (hl) (by and_intros <;> first | rfl | (simp (disch:=first|omega|(refine id ?_;simp only[push_cast];try omega)) only [push_cast])) ?_
   unfold tmsV
   simp (disch:=first|omega|(refine id ?_;simp only[push_cast];try omega)) only [push_cast,simprocAttr]
   exact .id (by simp (disch:=first|omega|(refine id ?_;simp only[push_cast];try omega)) only [push_cast,simprocAttr])
  have hlo : H0.lo ≤ H0.next := Nat.le_refl _; refine CallF.cut (CallD.fir4 (q := qq) (good G) fir54 ok_ir54 rfl rfl (F12_arr ..) (show NGG ≤ H0.lo by rw [H0_lo]; decide) ?_); rw [sd_ir54]
  unfold tmV tmC
  simp (disch:=first|omega|(refine id ?_;simp only[push_cast];try omega)) only [push_cast,simprocAttr]
  refine CallVD.dataI (ownE_f G e hs.1.2) (by and_intros <;> first | rfl | (simp (disch:=first|omega|(refine id ?_;simp only[push_cast];try omega)) only [push_cast])) ?_
  simp (disch:=first|omega|(refine id ?_;simp only[push_cast];try omega)) only [push_cast,simprocAttr,exC_of]
  refine CallVD.dataI (hT) (by and_intros <;> first | rfl | (simp (disch:=first|omega|(refine id ?_;simp only[push_cast];try omega)) only [push_cast])) ?_
  unfold tmsV
  simp (disch:=first|omega|(refine id ?_;simp only[push_cast];try omega)) only [push_cast,simprocAttr,exC_of]
  exact .id (tmV_sc _ H0q (.mk k a b s e l))
 termination_by x => SizeOf.sizeOf x
end
end Go.Proofs.Ytgeakofgklcipaa
namespace Go.Proofs.Ytgeakofgklcipaa
open Go Go.RowKit Go.Ev Go.Dv
noncomputable section
set_option maxRecDepth 100000
variable (G : Nat × Nat)
mutual
def sameE : Ex → Ex → Bool
 | .mk k n s l, .mk k' n' s' l' => decide (k = k') && (decide (n = n') && (decide (s = s') && (decide (l.length = l'.length) && sameEs l l')))
def sameEs : List Ex → List Ex → Bool
 | x :: l, y :: m => sameE x y && sameEs l m
 | _, _ => true
end
theorem sameEs_all : ∀ {l m : List Ex}, sameEs l m = true → ∀ (i : Nat) (x y : Ex), l[i]? = some x → m[i]? = some y → sameE x y = true
 | [], _, _, i, x, y, h1, _ => by simp at h1
 | _ :: _, [], _, i, x, y, _, h2 => by simp at h2
 | a :: l, b :: m, h, i, x, y, h1, h2 => by
  simp only [sameEs, Bool.and_eq_true] at h
  cases i with
  | zero => simp at h1 h2; subst h1 h2; exact h.1
  | succ i => simp at h1 h2; exact sameEs_all h.2 i x y h1 h2
theorem sameEs_of : ∀ {l m : List Ex}, (∀ (i : Nat) (x y : Ex), l[i]? = some x → m[i]? = some y → sameE x y = true) → sameEs l m = true
 | [], _, _ => by simp [sameEs]
 | _ :: _, [], _ => by simp [sameEs]
 | a :: l, b :: m, h => by
  rw [sameEs, h 0 a b rfl rfl, sameEs_of fun i x y h1 h2 => h (i + 1) x y (by simpa using h1) (by simpa using h2)]; rfl
inductive I57 (k n : Int) (s : List UInt8) (l : List Ex) (k' n' : Int) (s' : List UInt8) (l' : List Ex) : Nat → S → Prop
 | mk (i : Nat) (iv : Int) (h : Heap) {x0 x1 x4 x6 x7 x8 x9 xA xB xC xD xE xF xG xH xI xJ xK xL xM xN xO xP xQ xR xS xT xU xV xW xX xY xZ yA yB yC yD yE yF yG yH yI yJ yK yL yM yN yO yP yQ : Value} (hiv : iv = (i : Int)) (hi : i ≤ l.length) (c1 : cells h 1 = some (exC (.mk k n s l), 31, false)) (c2 : cells h 2 = some (exC (.mk k' n' s' l'), 31, false)) (hl1 : h.lo = 1) (hl2 : 3 ≤ h.next)
   (ha : ∀ j, j < i → ∀ x y, l[j]? = some x → l'[j]? = some y → sameE x y = true) :
  I57 k n s l k' n' s' l' (l.length - i) ⟨(F53 x0 x1 (.pointer (some ⟨1, 0, none⟩)) (.pointer (some ⟨2, 0, none⟩)) x4 (.int .i64 iv) x6 x7 x8 x9 xA xB xC xD xE xF xG xH xI xJ xK xL xM xN xO xP xQ xR xS xT xU xV xW xX xY xZ yA yB yC yD yE yF yG yH yI yJ yK yL yM yN yO yP yQ), [], h⟩
theorem same_e : ∀ a b : Ex, smE a = true → smE b = true → CallF (pp G) H0 57 [exV a, exV b] (.bool (sameE a b))
 | .mk k n s l, .mk k' n' s' l', hs, hs' => by
  simp only [smE, Bool.and_eq_true, decide_eq_true_eq] at hs hs'
  have ih : ∀ x ∈ l, ∀ y ∈ l', CallF (pp G) H0 57 [exV x, exV y] (.bool (sameE x y)) := fun x hx y hy => same_e x y (smEs_all hs.2 x hx) (smEs_all hs'.2 y hy)
  have hlo : H0.lo ≤ H0.next := Nat.le_refl _; refine CallF.cut (CallD.fir4 (q := qq) (good G) fir57 ok_ir57 rfl rfl (F53_arr ..) (show NGG ≤ H0.lo by rw [H0_lo]; decide) ?_); rw [sd_ir57]
  rw [sameE]
  obtain ⟨b, hb⟩ : ∃ b, b = (decide (k = k') && (decide (n = n') && (decide (s = s') && (decide (l.length = l'.length) && sameEs l l')))) := ⟨_, rfl⟩
  rw [← hb]
  by_cases h1 : k = k'
  rotate_left
  ·obtain rfl : b = false := by rw [hb]; simp [h1]
   simp (disch:=first|omega|(refine id ?_;simp only[push_cast];try omega)) only [push_cast,simprocAttr,h1]
   exact .id rfl
  by_cases h2 : n = n'
  rotate_left
  ·obtain rfl : b = false := by rw [hb]; simp [h2]
   simp (disch:=first|omega|(refine id ?_;simp only[push_cast];try omega)) only [push_cast,simprocAttr,h1,h2]
   exact .id rfl
  by_cases h3 : s = s'
  rotate_left
  ·obtain rfl : b = false := by rw [hb]; simp [h3]
   have h3' : (s == s') = false := by simpa using h3
   simp (disch:=first|omega|(refine id ?_;simp only[push_cast];try omega)) only [push_cast,simprocAttr,h1,h2,h3']
   exact .id rfl
  by_cases h4 : l.length = l'.length
  rotate_left
  ·obtain rfl : b = false := by rw [hb]; simp [h4]
   have h4' : ¬ (l.length : Int) = l'.length := by omega
   simp (disch:=first|omega|(refine id ?_;simp only[push_cast];try omega)) only [push_cast,simprocAttr,h1,h2,h3,h4',beq_self_eq_true]
   exact .id rfl
  have h4' : (l.length : Int) = l'.length := by omega
  have hb' : b = sameEs l l' := by rw [hb]; simp [h1, h2, h3, h4]
  clear hb
  simp (disch:=first|omega|(refine id ?_;simp only[push_cast];try omega)) only [push_cast,simprocAttr,h1,h2,h3,h4',beq_self_eq_true]
  refine WD.loop4 (q := qq) (good G) ok_ir57_s0 (I57 k n s l k' n' s' l') ?_ _ _ (I57.mk 0 0 _ rfl (Nat.zero_le _) (by first | assumption | (simp (disch:=first|omega|(refine id ?_;simp only[push_cast];try omega)) only [push_cast,simprocAttr,h1,h2,h3]; try omega)) (by first | assumption | (simp (disch:=first|omega|(refine id ?_;simp only[push_cast];try omega)) only [push_cast,simprocAttr,h1,h2,h3]; try omega)) rfl (by first | assumption | (simp (disch:=first|omega|(refine id ?_;simp only[push_cast];try omega)) only [push_cast,simprocAttr]; try omega)) (fun j hj => by omega))
  intro m s1 hI
  cases hI with | mk i iv h hiv hi c1 c2 hl1 hl2 ha =>
  subst hiv
  rw [sd_ir57_s0]
  by_cases hil : (i : Int) < l'.length
  ·obtain ⟨x, hx⟩ := some_get (l := l) (i := i) (by omega)
   obtain ⟨y, hy⟩ := some_get (l := l') (i := i) (by omega)
   have hp := exCs_take hx
   have hp' := exCs_take hy
   have hle : i * 4 + 4 ≤ l'.length * 4 := by omega
   have hle2 : i * 4 + 4 ≤ l.length * 4 := by omega
   simp (disch:=first|omega|(refine id ?_;simp only[push_cast];try omega)) only [push_cast,simprocAttr,hil,Int.toNat_natCast,hp,hp',hle,hle2,hl1,c1,c2,h4']
   refine CallVD.dataI (ih x (List.mem_of_getElem? hx) y (List.mem_of_getElem? hy)) (by and_intros <;> first | rfl | (simp (disch:=first|omega|(refine id ?_;simp only[push_cast];try omega)) only [push_cast])) ?_
   cases hr : sameE x y with
   | true =>
    simp (disch:=first|omega|(refine id ?_;simp only[push_cast];try omega)) only [push_cast,simprocAttr]
    exact ⟨_,by omega,I57.mk (i + 1) _ _ (by first | rfl | omega) (by omega) (by first | assumption | (simp (disch:=first|omega|(refine id ?_;simp only[push_cast];try omega)) only [push_cast,simprocAttr,c1]; try omega)) (by first | assumption | (simp (disch:=first|omega|(refine id ?_;simp only[push_cast];try omega)) only [push_cast,simprocAttr,c2]; try omega)) (by first | assumption | (simp (disch:=first|omega|(refine id ?_;simp only[push_cast];try omega)) only [push_cast,simprocAttr,hl1]; try omega)) (by first | assumption | (simp (disch:=first|omega|(refine id ?_;simp only[push_cast];try omega)) only [push_cast,simprocAttr]; try omega)) fun j hj u v hu hv => by
     by_cases e : j = i
     ·subst e; rw [hx] at hu; rw [hy] at hv; cases hu; cases hv; exact hr
     ·exact ha j (by omega) u v hu hv⟩
   | false =>
    obtain rfl : b = false := by
     rw [hb']
     cases hc : sameEs l l' with
     | false => rfl
     | true => rw [sameEs_all hc i x y hx hy] at hr; cases hr
    simp (disch:=first|omega|(refine id ?_;simp only[push_cast];try omega)) only [push_cast,simprocAttr]
    exact .id rfl
  ·obtain rfl : b = true := by
    rw [hb']
    exact sameEs_of fun j u v hu hv => ha j (by have := (List.getElem?_eq_some_iff.1 hu).1; omega) u v hu hv
   simp (disch:=first|omega|(refine id ?_;simp only[push_cast];try omega)) only [push_cast,simprocAttr,hil,c1,c2,hl1,h4']
   rw [sd_ir57_s1]
   simp (disch:=first|omega|(refine id ?_;simp only[push_cast];try omega)) only [push_cast,simprocAttr]
   exact .id rfl
 termination_by x => SizeOf.sizeOf x
end
end Go.Proofs.Ytgeakofgklcipaa
namespace Go.Proofs.Ytgeakofgklcipaa
open Go Go.RowKit Go.Ev Go.Dv
noncomputable section
set_option maxRecDepth 100000
variable (G : Nat × Nat)
mutual
def sameT : Tm → Tm → Bool
 | .mk k a b s e l, .mk k' a' b' s' e' l' => decide (k = k') && (decide (a = a') && (decide (b = b') && (decide (s = s') && (sameE e e' && (decide (l.length = l'.length) && sameTs l l')))))
def sameTs : List Tm → List Tm → Bool
 | x :: l, y :: m => sameT x y && sameTs l m
 | _, _ => true
end
theorem sameTs_all : ∀ {l m : List Tm}, sameTs l m = true → ∀ (i : Nat) (x y : Tm), l[i]? = some x → m[i]? = some y → sameT x y = true
 | [], _, _, i, x, y, h1, _ => by simp at h1
 | _ :: _, [], _, i, x, y, _, h2 => by simp at h2
 | a :: l, b :: m, h, i, x, y, h1, h2 => by
  simp only [sameTs, Bool.and_eq_true] at h
  cases i with
  | zero => simp at h1 h2; subst h1 h2; exact h.1
  | succ i => simp at h1 h2; exact sameTs_all h.2 i x y h1 h2
theorem sameTs_of : ∀ {l m : List Tm}, (∀ (i : Nat) (x y : Tm), l[i]? = some x → m[i]? = some y → sameT x y = true) → sameTs l m = true
 | [], _, _ => by simp [sameTs]
 | _ :: _, [], _ => by simp [sameTs]
 | a :: l, b :: m, h => by
  rw [sameTs, h 0 a b rfl rfl, sameTs_of fun i x y h1 h2 => h (i + 1) x y (by simpa using h1) (by simpa using h2)]; rfl
inductive I27 (t u : Tm) : Nat → S → Prop
 | mk (i : Nat) (iv : Int) (h : Heap) {x0 x1 x4 x6 x7 x8 x9 xA xB xC xD xE xF xG xH xI xJ xK xL xM xN xO xP xQ xR xS xT xU xV xW xX xY xZ yA yB yC yD yE yF yG yH yI yJ yK yL yM yN yO yP yQ yR yS yT yU yV yW yX yY yZ zA zB zC zD zF zG : Value} (hiv : iv = (i : Int)) (hi : i ≤ t.l.length) (c1 : cells h 1 = some (tmC t, 34, false)) (c2 : cells h 2 = some (tmC u, 34, false)) (hl1 : h.lo = 1) (hl2 : 3 ≤ h.next)
   (ha : ∀ j, j < i → ∀ x y, t.l[j]? = some x → u.l[j]? = some y → sameT x y = true) :
  I27 t u (t.l.length - i) ⟨(F68 x0 x1 (.pointer (some ⟨1, 0, none⟩)) (.pointer (some ⟨2, 0, none⟩)) x4 (.int .i64 iv) x6 x7 x8 x9 xA xB xC xD xE xF xG xH xI xJ xK xL xM xN xO xP xQ xR xS xT xU xV xW xX xY xZ yA yB yC yD yE yF yG yH yI yJ yK yL yM yN yO yP yQ yR yS yT yU yV yW yX yY yZ zA zB zC zD zF zG), [], h⟩
theorem same_t : ∀ t u : Tm, smT t = true → smT u = true → CallF (pp G) H0 27 [tmV t, tmV u] (.bool (sameT t u))
 | .mk k a b s e l, .mk k' a' b' s' e' l', hs, hs' => by
  simp only [smT, Bool.and_eq_true, decide_eq_true_eq] at hs hs'
  have ih : ∀ x ∈ l, ∀ y ∈ l', CallF (pp G) H0 27 [tmV x, tmV y] (.bool (sameT x y)) := fun x hx y hy => same_t x y (smTs_all hs.2 x hx) (smTs_all hs'.2 y hy)
  have he := same_e G e e' hs.1.2 hs'.1.2
  have hlo : H0.lo ≤ H0.next := Nat.le_refl _; refine CallF.cut (CallD.fir4 (q := qq) (good G) fir27 ok_ir27 rfl rfl (F68_arr ..) (show NGG ≤ H0.lo by rw [H0_lo]; decide) ?_); rw [sd_ir27]
  rw [sameT]
  obtain ⟨c, hb⟩ : ∃ c, c = (decide (k = k') && (decide (a = a') && (decide (b = b') && (decide (s = s') && (sameE e e' && (decide (l.length = l'.length) && sameTs l l')))))) := ⟨_, rfl⟩
  rw [← hb]
  by_cases h1 : k = k'
  rotate_left
  ·obtain rfl : c = false := by rw [hb]; simp [h1]
   simp (disch:=first|omega|(refine id ?_;simp only[push_cast];try omega)) only [push_cast,simprocAttr,h1]
   exact .id rfl
  by_cases h2 : a = a'
  rotate_left
  ·obtain rfl : c = false := by rw [hb]; simp [h2]
   simp (disch:=first|omega|(refine id ?_;simp only[push_cast];try omega)) only [push_cast,simprocAttr,h1,h2]
   exact .id rfl
  by_cases h5 : b = b'
  rotate_left
  ·obtain rfl : c = false := by rw [hb]; simp [h5]
   simp (disch:=first|omega|(refine id ?_;simp only[push_cast];try omega)) only [push_cast,simprocAttr,h1,h2,h5]
   exact .id rfl
  by_cases h3 : s = s'
  rotate_left
  ·obtain rfl : c = false := by rw [hb]; simp [h3]
   have h3' : (s == s') = false := by simpa using h3
   simp (disch:=first|omega|(refine id ?_;simp only[push_cast];try omega)) only [push_cast,simprocAttr,h1,h2,h5,h3']
   exact .id rfl
  simp (disch:=first|omega|(refine id ?_;simp only[push_cast];try omega)) only [push_cast,simprocAttr,h1,h2,h5,h3,beq_self_eq_true]
  refine CallVD.dataI (he) (by and_intros <;> first | rfl | (simp (disch:=first|omega|(refine id ?_;simp only[push_cast];try omega)) only [push_cast])) ?_
  by_cases h6 : sameE e e' = true
  rotate_left
  ·have h6 : sameE e e' = false := by simpa using h6
   obtain rfl : c = false := by rw [hb]; simp [h6]
   simp (disch:=first|omega|(refine id ?_;simp only[push_cast];try omega)) only [push_cast,simprocAttr,h6]
   exact .id rfl
  by_cases h4 : l.length = l'.length
  rotate_left
  ·obtain rfl : c = false := by rw [hb]; simp [h4]
   have h4' : ¬ (l.length : Int) = l'.length := by omega
   simp (disch:=first|omega|(refine id ?_;simp only[push_cast];try omega)) only [push_cast,simprocAttr,h4',h6]
   exact .id rfl
  have h4' : (l.length : Int) = l'.length := by omega
  have hb' : c = sameTs l l' := by rw [hb]; simp [h1, h2, h3, h4, h5, h6]
  clear hb
  simp (disch:=first|omega|(refine id ?_;simp only[push_cast];try omega)) only [push_cast,simprocAttr,h4',h6]
  refine WD.loop4 (q := qq) (good G) ok_ir27_s0 (I27 (.mk k a b s e l) (.mk k' a' b' s' e' l')) ?_ _ _ (I27.mk 0 0 _ rfl (Nat.zero_le _) (by first | assumption | (simp (disch:=first|omega|(refine id ?_;simp only[push_cast];try omega)) only [push_cast,simprocAttr,h1,h2,h3,h5]; try omega)) (by first | assumption | (simp (disch:=first|omega|(refine id ?_;simp only[push_cast];try omega)) only [push_cast,simprocAttr,h1,h2,h3,h5]; try omega)) rfl (by first | assumption | (simp (disch:=first|omega|(refine id ?_;simp only[push_cast];try omega)) only [push_cast,simprocAttr]; try omega)) (fun j hj => by omega))
  intro m s1 hI
  cases hI with | mk i iv h hiv hi c1 c2 hl1 hl2 ha =>
  subst hiv
  rw [sd_ir27_s0]
  simp only [Tm.l_mk] at ha hi
  by_cases hil : (i : Int) < l'.length
  ·obtain ⟨x, hx⟩ := some_get (l := l) (i := i) (by omega)
   obtain ⟨y, hy⟩ := some_get (l := l') (i := i) (by omega)
   have hp := tmCs_take hx
   have hp' := tmCs_take hy
   have hle : i * 9 + 9 ≤ l'.length * 9 := by omega
   have hle2 : i * 9 + 9 ≤ l.length * 9 := by omega
   simp (disch:=first|omega|(refine id ?_;simp only[push_cast];try omega)) only [push_cast,simprocAttr,hil,Int.toNat_natCast,hp,hp',hle,hle2,hl1,c1,c2,h4']
   refine CallVD.dataI (ih x (List.mem_of_getElem? hx) y (List.mem_of_getElem? hy)) (by and_intros <;> first | rfl | (simp (disch:=first|omega|(refine id ?_;simp only[push_cast];try omega)) only [push_cast])) ?_
   cases hr : sameT x y with
   | true =>
    simp (disch:=first|omega|(refine id ?_;simp only[push_cast];try omega)) only [push_cast,simprocAttr]
    exact ⟨_,by simp only [Tm.l_mk]; omega,I27.mk (i + 1) _ _ (by first | rfl | omega) (by simp only [Tm.l_mk]; omega) (by first | assumption | (simp (disch:=first|omega|(refine id ?_;simp only[push_cast];try omega)) only [push_cast,simprocAttr,c1]; try omega)) (by first | assumption | (simp (disch:=first|omega|(refine id ?_;simp only[push_cast];try omega)) only [push_cast,simprocAttr,c2]; try omega)) (by first | assumption | (simp (disch:=first|omega|(refine id ?_;simp only[push_cast];try omega)) only [push_cast,simprocAttr,hl1]; try omega)) (by first | assumption | (simp (disch:=first|omega|(refine id ?_;simp only[push_cast];try omega)) only [push_cast,simprocAttr]; try omega)) fun j hj u v hu hv => by
     by_cases e : j = i
     ·subst e; rw [Tm.l_mk, hx] at hu; rw [Tm.l_mk, hy] at hv; cases hu; cases hv; exact hr
     ·exact ha j (by omega) u v hu hv⟩
   | false =>
    obtain rfl : c = false := by
     rw [hb']
     cases hc : sameTs l l' with
     | false => rfl
     | true => rw [sameTs_all hc i x y hx hy] at hr; cases hr
    simp (disch:=first|omega|(refine id ?_;simp only[push_cast];try omega)) only [push_cast,simprocAttr]
    exact .id rfl
  ·obtain rfl : c = true := by
    rw [hb']
    exact sameTs_of fun j u v hu hv => ha j (by have := (List.getElem?_eq_some_iff.1 hu).1; omega) u v hu hv
   simp (disch:=first|omega|(refine id ?_;simp only[push_cast];try omega)) only [push_cast,simprocAttr,hil,c1,c2,hl1,h4']
   rw [sd_ir27_s1]
   simp (disch:=first|omega|(refine id ?_;simp only[push_cast];try omega)) only [push_cast,simprocAttr]
   exact .id rfl
 termination_by x => SizeOf.sizeOf x
def smRow (l : List Tm) : Prop := l.length < 100000000000 ∧ smTs l = true
def rowSame (l m : List Tm) : Bool := decide (l.length = m.length) && sameTs l m
inductive I35 (l m : List Tm) : Nat → S → Prop
 | mk (i : Nat) (iv : Int) (h : Heap) {x2 x3 x4 x6 x7 x8 x9 xA xB xC xD xE xF xG xH xI xJ xK xL xM xN xO xP xQ : Value} (hiv : iv = (i : Int)) (hi : i ≤ l.length) (hl1 : h.lo = 1) (hl2 : 1 ≤ h.next)
   (ha : ∀ j, j < i → ∀ x y, l[j]? = some x → m[j]? = some y → sameT x y = true) :
  I35 l m (l.length - i) ⟨(F27 (tmsV l) (tmsV m) x2 x3 x4 (.int .i64 iv) x6 x7 x8 x9 xA xB xC xD xE xF xG xH xI xJ xK xL xM xN xO xP xQ), [], h⟩
theorem rows_f (l l' : List Tm) (hs : smRow l) (hs' : smRow l') : CallF (pp G) H0 35 [tmsV l, tmsV l'] (.bool (rowSame l l')) := by
 have ih : ∀ x ∈ l, ∀ y ∈ l', CallF (pp G) H0 27 [tmV x, tmV y] (.bool (sameT x y)) := fun x hx y hy => same_t G x y (smTs_all hs.2 x hx) (smTs_all hs'.2 y hy)
 have hsl := hs.1
 have hsl' := hs'.1
 have hlo : H0.lo ≤ H0.next := Nat.le_refl _; refine CallF.cut (CallD.fir4 (q := qq) (good G) fir35 ok_ir35 rfl rfl (F27_arr ..) (show NGG ≤ H0.lo by rw [H0_lo]; decide) ?_); rw [sd_ir35]
 obtain ⟨c, hb⟩ : ∃ c, c = rowSame l l' := ⟨_, rfl⟩
 rw [← hb]
 unfold tmsV
 by_cases h4 : l.length = l'.length
 rotate_left
 ·obtain rfl : c = false := by rw [hb]; simp [rowSame, h4]
  have h4' : ¬ (l.length : Int) = l'.length := by omega
  simp (disch:=first|omega|(refine id ?_;simp only[push_cast];try omega)) only [push_cast,simprocAttr,h4']
  exact .id rfl
 have h4' : (l.length : Int) = l'.length := by omega
 have hb' : c = sameTs l l' := by rw [hb]; simp [rowSame, h4]
 simp (disch:=first|omega|(refine id ?_;simp only[push_cast];try omega)) only [push_cast,simprocAttr,h4']
 refine WD.loop4 (q := qq) (good G) ok_ir35_s0 (I35 l l') ?_ _ _ (I35.mk 0 0 _ rfl (Nat.zero_le _) rfl (by first | assumption | (simp (disch:=first|omega|(refine id ?_;simp only[push_cast];try omega)) only [push_cast,simprocAttr]; try omega)) (fun j hj => by omega))
 intro m s1 hI
 cases hI with | mk i iv h hiv hi hl1 hl2 ha =>
 subst hiv
 rw [sd_ir35_s0]
 unfold tmsV
 by_cases hil : (i : Int) < l'.length
 ·obtain ⟨x, hx⟩ := some_get (l := l) (i := i) (by omega)
  obtain ⟨y, hy⟩ := some_get (l := l') (i := i) (by omega)
  have hp := tmCs_take hx
  have hp' := tmCs_take hy
  have hle : i * 9 + 9 ≤ l'.length * 9 := by omega
  have hle2 : i * 9 + 9 ≤ l.length * 9 := by omega
  simp (disch:=first|omega|(refine id ?_;simp only[push_cast];try omega)) only [push_cast,simprocAttr,hil,Int.toNat_natCast,hp,hp',hle,hle2,hl1,h4']
  refine CallVD.dataI (ih x (List.mem_of_getElem? hx) y (List.mem_of_getElem? hy)) (by and_intros <;> first | rfl | (simp (disch:=first|omega|(refine id ?_;simp only[push_cast];try omega)) only [push_cast])) ?_
  cases hr : sameT x y with
  | true =>
   simp (disch:=first|omega|(refine id ?_;simp only[push_cast];try omega)) only [push_cast,simprocAttr]
   exact ⟨_,by omega,I35.mk (i + 1) _ _ (by first | rfl | omega) (by omega) (by first | assumption | (simp (disch:=first|omega|(refine id ?_;simp only[push_cast];try omega)) only [push_cast,simprocAttr,hl1]; try omega)) (by first | assumption | (simp (disch:=first|omega|(refine id ?_;simp only[push_cast];try omega)) only [push_cast,simprocAttr]; try omega)) fun j hj u v hu hv => by
    by_cases e : j = i
    ·subst e; rw [hx] at hu; rw [hy] at hv; cases hu; cases hv; exact hr
    ·exact ha j (by omega) u v hu hv⟩
  | false =>
   obtain rfl : c = false := by
    rw [hb']
    cases hc : sameTs l l' with
    | false => rfl
    | true => rw [sameTs_all hc i x y hx hy] at hr; cases hr
   simp (disch:=first|omega|(refine id ?_;simp only[push_cast];try omega)) only [push_cast,simprocAttr]
   exact .id rfl
 ·obtain rfl : c = true := by
   rw [hb']
   exact sameTs_of fun j u v hu hv => ha j (by have := (List.getElem?_eq_some_iff.1 hu).1; omega) u v hu hv
  simp (disch:=first|omega|(refine id ?_;simp only[push_cast];try omega)) only [push_cast,simprocAttr,hil,h4']
  rw [sd_ir32_s1]
  simp (disch:=first|omega|(refine id ?_;simp only[push_cast];try omega)) only [push_cast,simprocAttr]
  exact .id rfl
abbrev eR : Nat := 32
def trs (s : List (List Tm)) : List Value := s.map tmsV
def trV (s : List (List Tm)) : Value := Rw false eR s.length (trs s)
theorem trs_len (s : List (List Tm)) : (trs s).length = s.length := by simp [trs]
theorem trs_one : ∀ s : List (List Tm), (trs s).all one = true
 | [] => rfl
 | x :: s => by
  have := trs_one s
  simp only [trs] at this
  simp only [trs, List.map_cons, List.all_cons, this, Bool.and_true]
  rfl
theorem trs_sc (n : Nat) (hn : 0 < n) : ∀ s : List (List Tm), scL n (trs s) = true
 | [] => rfl
 | x :: s => by
  have := trs_sc n hn s
  simp only [trs] at this
  simp [trs, scL, this, tmsV_sc n hn]
theorem trR_sc (n : Nat) (hn : 0 < n) (k : Nat) (f : Bool) (s : List (List Tm)) : Ev.sc n (Rw f eR k (trs s)) = true := by
 have := trs_sc n hn s
 simp [Ev.sc, Rw, scL, this, hn]
theorem trs_get {s : List (List Tm)} {i : Nat} {l : List Tm} (h : s[i]? = some l) : (trs s)[i]? = some (tmsV l) := by simp [trs, h]
theorem trs_app (a b : List (List Tm)) : trs (a ++ b) = trs a ++ trs b := by simp [trs]
attribute [push_cast] trs_len trs_one trs_sc trR_sc
def smRows (s : List (List Tm)) : Prop := s.length < 100000000000 ∧ ∀ l ∈ s, smRow l
def allSame : List (List Tm) → List (List Tm) → Bool
 | x :: l, y :: m => rowSame x y && allSame l m
 | _, _ => true
theorem allSame_all : ∀ {l m : List (List Tm)}, allSame l m = true → ∀ (i : Nat) (x y : List Tm), l[i]? = some x → m[i]? = some y → rowSame x y = true
 | [], _, _, i, x, y, h1, _ => by simp at h1
 | _ :: _, [], _, i, x, y, _, h2 => by simp at h2
 | a :: l, b :: m, h, i, x, y, h1, h2 => by
  simp only [allSame, Bool.and_eq_true] at h
  cases i with
  | zero => simp at h1 h2; subst h1 h2; exact h.1
  | succ i => simp at h1 h2; exact allSame_all h.2 i x y h1 h2
theorem allSame_of : ∀ {l m : List (List Tm)}, (∀ (i : Nat) (x y : List Tm), l[i]? = some x → m[i]? = some y → rowSame x y = true) → allSame l m = true
 | [], _, _ => by simp [allSame]
 | _ :: _, [], _ => by simp [allSame]
 | a :: l, b :: m, h => by
  rw [allSame, h 0 a b rfl rfl, allSame_of fun i x y h1 h2 => h (i + 1) x y (by simpa using h1) (by simpa using h2)]; rfl
def stSame (l m : List (List Tm)) : Bool := decide (l.length = m.length) && allSame l m
inductive I32 (l m : List (List Tm)) : Nat → S → Prop
 | mk (i : Nat) (iv : Int) (h : Heap) {x2 x3 x4 x6 x7 x8 x9 xA xB xC xD xE xF xG xH xI xJ xK xL xM xN xO xP xQ : Value} (hiv : iv = (i : Int)) (hi : i ≤ l.length) (hl1 : h.lo = 1) (hl2 : 1 ≤ h.next)
   (ha : ∀ j, j < i → ∀ x y, l[j]? = some x → m[j]? = some y → rowSame x y = true) :
  I32 l m (l.length - i) ⟨(F27 (trV l) (trV m) x2 x3 x4 (.int .i64 iv) x6 x7 x8 x9 xA xB xC xD xE xF xG xH xI xJ xK xL xM xN xO xP xQ), [], h⟩
theorem stsame_f (l l' : List (List Tm)) (hs : smRows l) (hs' : smRows l') : CallF (pp G) H0 32 [trV l, trV l'] (.bool (stSame l l')) := by
 have ih : ∀ x ∈ l, ∀ y ∈ l', CallF (pp G) H0 35 [tmsV x, tmsV y] (.bool (rowSame x y)) := fun x hx y hy => rows_f G x y (hs.2 x hx) (hs'.2 y hy)
 have hsl := hs.1
 have hsl' := hs'.1
 have hlo : H0.lo ≤ H0.next := Nat.le_refl _; refine CallF.cut (CallD.fir4 (q := qq) (good G) fir32 ok_ir32 rfl rfl (F27_arr ..) (show NGG ≤ H0.lo by rw [H0_lo]; decide) ?_); rw [sd_ir32]
 obtain ⟨c, hb⟩ : ∃ c, c = stSame l l' := ⟨_, rfl⟩
 rw [← hb]
 unfold trV
 by_cases h4 : l.length = l'.length
 rotate_left
 ·obtain rfl : c = false := by rw [hb]; simp [stSame, h4]
  have h4' : ¬ (l.length : Int) = l'.length := by omega
  simp (disch:=first|omega|(refine id ?_;simp only[push_cast];try omega)) only [push_cast,simprocAttr,h4']
  exact .id rfl
 have h4' : (l.length : Int) = l'.length := by omega
 have hb' : c = allSame l l' := by rw [hb]; simp [stSame, h4]
 simp (disch:=first|omega|(refine id ?_;simp only[push_cast];try omega)) only [push_cast,simprocAttr,h4']
 refine WD.loop4 (q := qq) (good G) ok_ir32_s0 (I32 l l') ?_ _ _ (I32.mk 0 0 _ rfl (Nat.zero_le _) rfl (by first | assumption | (simp (disch:=first|omega|(refine id ?_;simp only[push_cast];try omega)) only [push_cast,simprocAttr]; try omega)) (fun j hj => by omega))
 intro m s1 hI
 cases hI with | mk i iv h hiv hi hl1 hl2 ha =>
 subst hiv
 rw [sd_ir32_s0]
 unfold trV
 by_cases hil : (i : Int) < l'.length
 ·obtain ⟨x, hx⟩ := some_get (l := l) (i := i) (by omega)
  obtain ⟨y, hy⟩ := some_get (l := l') (i := i) (by omega)
  have hp := trs_get hx
  have hp' := trs_get hy
  have hle : i < l'.length := by omega
  have hle2 : i < l.length := by omega
  simp (disch:=first|omega|(refine id ?_;simp only[push_cast];try omega)) only [push_cast,simprocAttr,hil,Int.toNat_natCast,hp,hp',hle,hle2,hl1,h4']
  refine CallVD.dataI (ih x (List.mem_of_getElem? hx) y (List.mem_of_getElem? hy)) (by and_intros <;> first | rfl | (simp (disch:=first|omega|(refine id ?_;simp only[push_cast];try omega)) only [push_cast])) ?_
  cases hr : rowSame x y with
  | true =>
   simp (disch:=first|omega|(refine id ?_;simp only[push_cast];try omega)) only [push_cast,simprocAttr]
   exact ⟨_,by omega,I32.mk (i + 1) _ _ (by first | rfl | omega) (by omega) (by first | assumption | (simp (disch:=first|omega|(refine id ?_;simp only[push_cast];try omega)) only [push_cast,simprocAttr,hl1]; try omega)) (by first | assumption | (simp (disch:=first|omega|(refine id ?_;simp only[push_cast];try omega)) only [push_cast,simprocAttr]; try omega)) fun j hj u v hu hv => by
    by_cases e : j = i
    ·subst e; rw [hx] at hu; rw [hy] at hv; cases hu; cases hv; exact hr
    ·exact ha j (by omega) u v hu hv⟩
  | false =>
   obtain rfl : c = false := by
    rw [hb']
    cases hc : allSame l l' with
    | false => rfl
    | true => rw [allSame_all hc i x y hx hy] at hr; cases hr
   simp (disch:=first|omega|(refine id ?_;simp only[push_cast];try omega)) only [push_cast,simprocAttr]
   exact .id rfl
 ·obtain rfl : c = true := by
   rw [hb']
   exact allSame_of fun j u v hu hv => ha j (by have := (List.getElem?_eq_some_iff.1 hu).1; omega) u v hu hv
  simp (disch:=first|omega|(refine id ?_;simp only[push_cast];try omega)) only [push_cast,simprocAttr,hil,h4']
  rw [sd_ir32_s1]
  simp (disch:=first|omega|(refine id ?_;simp only[push_cast];try omega)) only [push_cast,simprocAttr]
  exact .id rfl
end
end Go.Proofs.Ytgeakofgklcipaa
namespace Go.Proofs.Ytgeakofgklcipaa
open Go Go.RowKit Go.Ev Go.Dv
noncomputable section
set_option maxRecDepth 100000
variable (G : Nat × Nat)
mutual
def sizeT : Tm → Int
 | .mk _ _ _ _ _ l => 1 + sizeTs l
def sizeTs : List Tm → Int
 | [] => 0
 | x :: l => sizeT x + sizeTs l
end
theorem sizeTs_app : ∀ (a b : List Tm), sizeTs (a ++ b) = sizeTs a + sizeTs b
 | [], b => by simp [sizeTs]
 | x :: a, b => by rw [List.cons_append, sizeTs, sizeTs, sizeTs_app a b]; omega
theorem sizeTs_take {l : List Tm} {i : Nat} {x : Tm} (h : l[i]? = some x) : sizeTs (l.take (i + 1)) = sizeTs (l.take i) + sizeT x := by
 rw [take_succ_get h, sizeTs_app, sizeTs, sizeTs]; omega
theorem W_add (a b : Int) : IntKind.i64.wrap (W a + W b) = W (a + b) := by
 unfold W; simp only [IntKind.wrap_i64]; omega
inductive I58 (l : List Tm) : Nat → S → Prop
 | mk (i : Nat) (iv n : Int) (h : Heap) {x0 x1 x2 x4 x5 x6 xA xB xC xD xE xF xG xH xI : Value} (hiv : iv = (i : Int)) (hi : i ≤ l.length) (hn : n = W (1 + sizeTs (l.take i))) (hl1 : h.lo = 1) (hl2 : 1 ≤ h.next) :
  I58 l (l.length - i) ⟨(F19 x0 x1 x2 (.int .i64 n) x4 x5 x6 (tmsV l) (.int .i64 l.length) (.int .i64 iv) xA xB xC xD xE xF xG xH xI), [], h⟩
theorem size_t : ∀ t : Tm, smT t = true → CallF (pp G) H0 58 [tmV t] (.int .i64 (W (sizeT t)))
 | .mk k a b s e l, hs => by
  simp only [smT, Bool.and_eq_true, decide_eq_true_eq] at hs
  have hsl := hs.1.1
  have ih : ∀ x ∈ l, CallF (pp G) H0 58 [tmV x] (.int .i64 (W (sizeT x))) := fun x hx => size_t x (smTs_all hs.2 x hx)
  have hlo : H0.lo ≤ H0.next := Nat.le_refl _; refine CallF.cut (CallD.fir4 (q := qq) (good G) fir58 ok_ir58 rfl rfl (F19_arr ..) (show NGG ≤ H0.lo by rw [H0_lo]; decide) ?_); rw [sd_ir58]
  rw [sizeT]
  simp (disch:=first|omega|(refine id ?_;simp only[push_cast];try omega)) only [push_cast,simprocAttr]
  refine WD.loop4 (q := qq) (good G) ok_ir58_s0 (I58 l) ?_ _ _ (I58.mk 0 0 _ _ rfl (Nat.zero_le _) rfl rfl (by first | assumption | (simp (disch:=first|omega|(refine id ?_;simp only[push_cast];try omega)) only [push_cast,simprocAttr]; try omega)))
  intro m s1 hI
  cases hI with | mk i iv n h hiv hi hn hl1 hl2 =>
  subst hiv hn
  rw [sd_ir58_s0]
  unfold tmsV
  by_cases hil : (i : Int) < l.length
  ·obtain ⟨x, hx⟩ := some_get (l := l) (i := i) (by omega)
   have hp := tmCs_take hx
   have hle2 : i * 9 + 9 ≤ l.length * 9 := by omega
   simp (disch:=first|omega|(refine id ?_;simp only[push_cast];try omega)) only [push_cast,simprocAttr,hil,Int.toNat_natCast,hp,hle2,hl1]
   refine CallVD.dataI (ih x (List.mem_of_getElem? hx)) (by and_intros <;> first | rfl | (simp (disch:=first|omega|(refine id ?_;simp only[push_cast];try omega)) only [push_cast])) ?_
   simp (disch:=first|omega|(refine id ?_;simp only[push_cast];try omega)) only [push_cast,simprocAttr,W_add]
   exact ⟨_,by omega,I58.mk (i + 1) _ _ _ (by first | rfl | omega) (by omega) (by rw [sizeTs_take hx]; congr 1; omega) (by first | assumption | (simp (disch:=first|omega|(refine id ?_;simp only[push_cast];try omega)) only [push_cast,simprocAttr,hl1]; try omega)) (by first | assumption | (simp (disch:=first|omega|(refine id ?_;simp only[push_cast];try omega)) only [push_cast,simprocAttr]; try omega))⟩
  ·have hie : i = l.length := by omega
   subst hie
   simp (disch:=first|omega|(refine id ?_;simp only[push_cast];try omega)) only [push_cast,simprocAttr,hil]
   rw [sd_ir58_s1]
   simp (disch:=first|omega|(refine id ?_;simp only[push_cast];try omega)) only [push_cast,simprocAttr,List.take_length]
   exact .id rfl
 termination_by x => SizeOf.sizeOf x
def sizeR : List (List Tm) → Int
 | [] => 0
 | x :: s => sizeTs x + sizeR s
theorem sizeR_app : ∀ (a b : List (List Tm)), sizeR (a ++ b) = sizeR a + sizeR b
 | [], b => by simp [sizeR]
 | x :: a, b => by rw [List.cons_append, sizeR, sizeR, sizeR_app a b]; omega
theorem sizeR_take {l : List (List Tm)} {i : Nat} {x : List Tm} (h : l[i]? = some x) : sizeR (l.take (i + 1)) = sizeR (l.take i) + sizeTs x := by
 rw [take_succ_get h, sizeR_app, sizeR, sizeR]; omega
inductive I33 (s : List (List Tm)) : Nat → S → Prop
 | mk (i : Nat) (iv n : Int) (h : Heap) {x0 x1 x2 x4 x5 x6 x7 xB xC xD xE xF xG xH xI xJ xK xL xM xN xO xP xQ : Value} (hiv : iv = (i : Int)) (hi : i ≤ s.length) (hn : n = W (sizeR (s.take i))) (hl1 : h.lo = 1) (hl2 : 1 ≤ h.next) :
  I33 s (s.length - i) ⟨(F27 x0 x1 x2 (.int .i64 n) x4 x5 x6 x7 (trV s) (.int .i64 s.length) (.int .i64 iv) xB xC xD xE xF xG xH xI xJ xK xL xM xN xO xP xQ), [], h⟩
inductive I33b (s : List (List Tm)) (j : Nat) (l : List Tm) : Nat → S → Prop
 | mk (i : Nat) (iv n : Int) (h : Heap) {x0 x1 x2 x4 x5 x6 x7 xB xC xD xH xI xJ xK xL xM xN xO xP xQ : Value} (hiv : iv = (i : Int)) (hi : i ≤ l.length) (hn : n = W (sizeR (s.take j) + sizeTs (l.take i))) (hl1 : h.lo = 1) (hl2 : 1 ≤ h.next) :
  I33b s j l (l.length - i) ⟨(F27 x0 x1 x2 (.int .i64 n) x4 x5 x6 x7 (trV s) (.int .i64 s.length) (.int .i64 j) xB xC xD (tmsV l) (.int .i64 l.length) (.int .i64 iv) xH xI xJ xK xL xM xN xO xP xQ), [], h⟩
theorem sizes_t (s : List (List Tm)) (hs : smRows s) : CallF (pp G) H0 33 [trV s] (.int .i64 (W (sizeR s))) := by
 have hsl := hs.1
 have hlo : H0.lo ≤ H0.next := Nat.le_refl _; refine CallF.cut (CallD.fir4 (q := qq) (good G) fir33 ok_ir33 rfl rfl (F27_arr ..) (show NGG ≤ H0.lo by rw [H0_lo]; decide) ?_); rw [sd_ir33]
 unfold trV
 simp (disch:=first|omega|(refine id ?_;simp only[push_cast];try omega)) only [push_cast,simprocAttr]
 refine WD.loop4 (q := qq) (good G) ok_ir33_s0 (I33 s) ?_ _ _ (I33.mk 0 0 _ _ rfl (Nat.zero_le _) rfl rfl (by first | assumption | (simp (disch:=first|omega|(refine id ?_;simp only[push_cast];try omega)) only [push_cast,simprocAttr]; try omega)))
 intro m s1 hI
 cases hI with | mk j jv n h hiv hi hn hl1 hl2 =>
 subst hiv hn
 rw [sd_ir33_s0]
 unfold trV
 by_cases hjl : (j : Int) < s.length
 ·obtain ⟨l, hl⟩ := some_get (l := s) (i := j) (by omega)
  have hlm := List.mem_of_getElem? hl
  obtain ⟨hll, hlt⟩ := hs.2 l hlm
  have hp := trs_get hl
  have hle2 : j < s.length := by omega
  unfold tmsV at hp
  simp (disch:=first|omega|(refine id ?_;simp only[push_cast];try omega)) only [push_cast,simprocAttr,hjl,Int.toNat_natCast,hp,hle2,hl1]
  refine WD.loop4 (q := qq) (good G) ok_ir33_s2 (I33b s j l) ?_ _ _ (I33b.mk 0 0 _ _ rfl (Nat.zero_le _) (by rw [List.take_zero,sizeTs,Int.add_zero]) (by first | assumption | (simp (disch:=first|omega|(refine id ?_;simp only[push_cast];try omega)) only [push_cast,simprocAttr,hl1]; try omega)) (by first | assumption | (simp (disch:=first|omega|(refine id ?_;simp only[push_cast];try omega)) only [push_cast,simprocAttr]; try omega)))
  intro m s1 hI
  cases hI with | mk i iv n h hiv hi hn hl1 hl2 =>
  subst hiv hn
  rw [sd_ir33_s2]
  unfold tmsV
  by_cases hil : (i : Int) < l.length
  ·obtain ⟨x, hx⟩ := some_get (l := l) (i := i) (by omega)
   have hp := tmCs_take hx
   have hle2 : i * 9 + 9 ≤ l.length * 9 := by omega
   simp (disch:=first|omega|(refine id ?_;simp only[push_cast];try omega)) only [push_cast,simprocAttr,hil,Int.toNat_natCast,hp,hle2,hl1]
   refine CallVD.dataI (size_t G x (smTs_all hlt x (List.mem_of_getElem? hx))) (by and_intros <;> first | rfl | (simp (disch:=first|omega|(refine id ?_;simp only[push_cast];try omega)) only [push_cast])) ?_
   simp (disch:=first|omega|(refine id ?_;simp only[push_cast];try omega)) only [push_cast,simprocAttr,W_add]
   exact ⟨_,by omega,I33b.mk (i + 1) _ _ _ (by first | rfl | omega) (by omega) (by rw [sizeTs_take hx]; congr 1; omega) (by first | assumption | (simp (disch:=first|omega|(refine id ?_;simp only[push_cast];try omega)) only [push_cast,simprocAttr,hl1]; try omega)) (by first | assumption | (simp (disch:=first|omega|(refine id ?_;simp only[push_cast];try omega)) only [push_cast,simprocAttr]; try omega))⟩
  ·have hie : i = l.length := by omega
   subst hie
   simp (disch:=first|omega|(refine id ?_;simp only[push_cast];try omega)) only [push_cast,simprocAttr,hil]
   rw [sd_ir33_s3]
   simp (disch:=first|omega|(refine id ?_;simp only[push_cast];try omega)) only [push_cast,simprocAttr,List.take_length]
   exact ⟨_,by omega,I33.mk (j + 1) _ _ _ (by first | rfl | omega) (by omega) (by rw [sizeR_take hl]) (by first | assumption | (simp (disch:=first|omega|(refine id ?_;simp only[push_cast];try omega)) only [push_cast,simprocAttr,hl1]; try omega)) (by first | assumption | (simp (disch:=first|omega|(refine id ?_;simp only[push_cast];try omega)) only [push_cast,simprocAttr]; try omega))⟩
 ·have hie : j = s.length := by omega
  subst hie
  simp (disch:=first|omega|(refine id ?_;simp only[push_cast];try omega)) only [push_cast,simprocAttr,hjl]
  rw [sd_ir33_s1]
  simp (disch:=first|omega|(refine id ?_;simp only[push_cast];try omega)) only [push_cast,simprocAttr,List.take_length]
  exact .id rfl
end
end Go.Proofs.Ytgeakofgklcipaa
namespace Go.Proofs.Ytgeakofgklcipaa
open Go Go.RowKit Go.Ev Go.Dv
noncomputable section
set_option maxRecDepth 100000
variable (G : Nat × Nat)
theorem apS_row {e k n by_ m : Nat} {cs xs : List Value} {h : Heap} (hl : cs.length = n * k) (ho : cs.all one = true) (hx : xs.all one = true) (hm : 0 < m) (hb : (n + m) * by_ + (n + m) < 100000000000000) :
  apS e k by_ (Rw true e n cs) (some (m, xs)) h = some (.slice (some ⟨h.next, 0, none⟩) (n + m) UC, h.add (O (cs ++ xs) e true)) := by
 show (if xs.all one = true then (if cs.length = n * k ∧ (n + m) * by_ + (n + m) < 100000000000000 ∧ cs.all one = true then (if m = 0 then some (Rw true e n cs, h) else some (.slice (some ⟨h.next, 0, none⟩) (n + m) UC, h.add (O (cs ++ xs) e true))) else none) else none) = _
 rw [if_pos hx, if_pos ⟨hl, hb, ho⟩, if_neg (by omega)]
theorem apS_row0 {e k n by_ : Nat} {cs xs : List Value} {h : Heap} (hl : cs.length = n * k) (ho : cs.all one = true) (hx : xs.all one = true) (hb : n * by_ + n < 100000000000000) :
  apS e k by_ (Rw true e n cs) (some (0, xs)) h = some (Rw true e n cs, h) := by
 show (if xs.all one = true then (if cs.length = n * k ∧ (n + 0) * by_ + (n + 0) < 100000000000000 ∧ cs.all one = true then (if 0 = 0 then some (Rw true e n cs, h) else some (.slice (some ⟨h.next, 0, none⟩) (n + 0) UC, h.add (O (cs ++ xs) e true))) else none) else none) = _
 rw [if_pos hx, if_pos ⟨hl, by simpa using hb, ho⟩, if_pos rfl]
theorem beq_self (n : Nat) : Nat.beq n n = true := Nat.beq_refl n
theorem has_f (s : List (List Tm)) (a : Int) (hs : s.length < 100000000000) : CallF (pp G) H0 50 [trV s, .int .i64 a] (.bool (decide (0 ≤ a ∧ a < s.length))) := by
 have hlo : H0.lo ≤ H0.next := Nat.le_refl _; refine CallF.cut (CallD.fir4 (q := qq) (good G) fir50 ok_ir50 rfl rfl (F13_arr ..) (show NGG ≤ H0.lo by rw [H0_lo]; decide) ?_); rw [sd_ir50]
 unfold trV
 by_cases h : 0 ≤ a
 ·simp (disch:=first|omega|(refine id ?_;simp only[push_cast];try omega)) only [push_cast,simprocAttr,h,true_and]
  exact .id rfl
 ·simp (disch:=first|omega|(refine id ?_;simp only[push_cast];try omega)) only [push_cast,simprocAttr,h,false_and]
  exact .id rfl
theorem behind_f (l m : List Tm) (hl : l.length < 100000000000) (hm : m.length < 100000000000) : CallF (pp G) H0 53 [tmsV l, tmsV m] (tmsV (l ++ m)) := by
 have hlo : H0.lo ≤ H0.next := Nat.le_refl _; refine CallF.cut (CallD.fir4 (q := qq) (good G) fir53 ok_ir53 rfl rfl (F13_arr ..) (show NGG ≤ H0.lo by rw [H0_lo]; decide) ?_); rw [sd_ir53]
 unfold tmsV
 have ht : (tmCs l).take (l.length * 9) = tmCs l := List.take_of_length_le (by rw [tmCs_len]; exact Nat.le_refl _)
 by_cases h0 : m.length = 0
 ·obtain rfl : m = [] := List.length_eq_zero_iff.1 h0
  have h1 : l.length * 120 + l.length < 100000000000000 := by omega
  have ha : apS 34 9 120 (Rw true 34 l.length (tmCs l)) (some (0, [])) H0 = some (Rw true 34 l.length (tmCs l), H0) := apS_row0 (by rw [tmCs_len]) (tmCs_one l) rfl h1
  simp (disch:=first|omega|(refine id ?_;simp only[push_cast];try omega)) only [push_cast,simprocAttr,beq_self,Int.toNat_natCast,ht,List.length_nil,show tmCs [] = [] from rfl,ha]
  exact .row (.ids (tmCs_sc _ H0q l))
 have h1 : (l.length + m.length) * 120 + (l.length + m.length) < 100000000000000 := by omega
 have ha : apS 34 9 120 (Rw true 34 l.length (tmCs l)) (some (m.length, tmCs m)) H0 = some (.slice (some ⟨H0.next, 0, none⟩) (l.length + m.length) UC, H0.add (O (tmCs l ++ tmCs m) 34 true)) := apS_row (by rw [tmCs_len]) (tmCs_one l) (tmCs_one m) (by omega) h1
 simp (disch:=first|omega|(refine id ?_;simp only[push_cast];try omega)) only [push_cast,simprocAttr,beq_self,Int.toNat_natCast,ht,ha]
 rw [← tmCs_app, ← List.length_append]
 have hlt : (l ++ m).length < U := by rw [List.length_append, show U = 100000000000000 by unfold U; rfl]; omega
 refine .sl (Nat.le_refl _) (cells_add_s _ _ _ _ rfl) (size := 9) rfl (by decide) ?_ (.inr ⟨rfl, Nat.le_refl _, by simp, hlt⟩) ?_
 ·rw [tmCs_len]; omega
 rw [List.drop_zero, List.take_of_length_le (by rw [tmCs_len]; exact Nat.le_refl _)]
 exact .ids (tmCs_sc _ H0q _)
def setZ {α : Type} (s : List α) (a : Int) (l : α) : List α := if 0 ≤ a then s.set a.toNat l else s
theorem setZ_len {α : Type} (s : List α) (a : Int) (l : α) : (setZ s a l).length = s.length := by
 unfold setZ; split <;> simp
theorem setZ_eq {α : Type} {s : List α} {i : Nat} {l x : α} (h : s[i]? = some x) : (setZ s i l)[i]? = some l := by
 unfold setZ
 have := (List.getElem?_eq_some_iff.1 h).1
 rw [if_pos (by omega), Int.toNat_natCast]
 simp [this]
theorem setZ_ne {α : Type} {s : List α} {i : Nat} {a : Int} {l x : α} (h : s[i]? = some x) (hne : ¬ (i : Int) = a) : (setZ s a l)[i]? = some x := by
 unfold setZ
 split
 ·rw [List.getElem?_set_ne (by omega)]; exact h
 ·exact h
inductive I52 (σ : Heap) (s r : List (List Tm)) (a : Int) (l : List Tm) (fv : Value) : Nat → S → Prop
 | mk (i : Nat) (iv : Int) (h : Heap) {x0 x4 x5 x6 x7 x8 xA xB xC xD xE xI xJ xK xL xM xN xO xP xQ xR xS xT xU xV xW xX : Value} (hiv : iv = (i : Int)) (hi : i ≤ s.length) (c1 : cells h σ.next = some (trs (r.take i) ++ (List.replicate (s.length - i) [Value.slice none 0 0]).flatten, 32, false)) (hl1 : h.lo = 1) (hl2 : σ.next < h.next) (hg : Grew σ h fun _ => False) :
  I52 σ s r a l fv (s.length - i) ⟨(F34 x0 (.int .i64 a) (tmsV l) fv x4 x5 x6 x7 x8 (.slice (some ⟨σ.next, 0, none⟩) s.length s.length) xA xB xC xD xE (trV s) (.int .i64 s.length) (.int .i64 iv) xI xJ xK xL xM xN xO xP xQ xR xS xT xU xV xW xX), [], h⟩
theorem with_d (σ : Heap) (s : List (List Tm)) (a : Int) (l : List Tm) (hs : smRows s) (hl : smRow l) : CallD (pp G) H0 52 [trV s, .int .i64 a, tmsV l, .func (.func 54) #[] #[]] σ
  fun v σ' => v = .slice (some ⟨σ.next, 0, none⟩) s.length s.length ∧ σ' = σ.add (O (trs (setZ s a l)) eR false) := by
 have ho : ∀ m : List Tm, smRow m → CallF (pp G) H0 73 [tmsV m, .func (.func 54) #[] #[]] (tmsV m) := fun m hm => listtm_f G m 54 hm.1 fun x hx => ownT_f G x (smTs_all hm.2 x hx)
 have hsl := hs.1
 refine CallD.wlog fun hl0 hH0 hp0 hlo => ?_; rw [H0_next] at hl0; refine CallD.cut (CallD.fir4 (q := qq) (good G) fir52 ok_ir52 rfl rfl (F34_arr ..) (by rw [hl0]; exact (show NGG ≤ 1 by decide)) ?_); rw [sd_ir52]
 unfold trV
 have h1 : (s.length : Int) * 24 + s.length < 100000000000000 := by omega
 simp (disch:=first|omega|(refine id ?_;simp only[push_cast];try omega)) only [push_cast,simprocAttr,h1]
 refine WD.loop4 (q := qq) (good G) ok_ir52_s0 (I52 σ s (setZ s a l) a l (.func (.func 54) #[] #[])) ?_ _ _ (I52.mk 0 0 _ rfl (Nat.zero_le _) (by simp (disch:=first|omega|(refine id ?_;simp only[push_cast];try omega)) only [push_cast,simprocAttr,List.take_zero]; rfl) (by first | assumption | (simp (disch:=first|omega|(refine id ?_;simp only[push_cast];try omega)) only [push_cast,simprocAttr]; try omega)) (by first | assumption | (simp (disch:=first|omega|(refine id ?_;simp only[push_cast];try omega)) only [push_cast,simprocAttr]; try omega)) (by (repeat (first | exact Gr.refl _ | assumption | (refine Grew.put' ?_ _ _ (by first | omega | (simp only [push_cast]; omega))) | (refine Grew.add' ?_ _)))))
 intro m s1 hI
 cases hI with | mk i iv h hiv hi c1 hl1 hl2 hg =>
 subst hiv
 rw [sd_ir52_s0]
 unfold trV
 by_cases hil : (i : Int) < s.length
 ·obtain ⟨x, hx⟩ := some_get (l := s) (i := i) (by omega)
  have hxm := hs.2 x (List.mem_of_getElem? hx)
  have hp := trs_get hx
  have hle : i < s.length := by omega
  have key : ∀ (y : List Tm) (hy : smRow y) (hr : (setZ s a l)[i]? = some y) {x4 x5 x6 x7 x8 xC xD xE xI xJ xK xL xM xN xO xP xQ xR xS xT xU xV xW xX x0 : Value} (R : XExit → S → Prop)
    (hR : ∀ {x4 x5 x6 x7 x8 xC xD xE xI xJ xK xL xM xN xO xP xQ xR xS xT xU xV xW xX x0 xA xB : Value} (h' : Heap), cells h' σ.next = some (trs ((setZ s a l).take (i + 1)) ++ (List.replicate (s.length - (i + 1)) [Value.slice none 0 0]).flatten, 32, false) → h'.lo = 1 → σ.next < h'.next → (Grew σ h' fun _ => False) →
     @kR ⟨R⟩ .normal ⟨(F34 x0 (.int .i64 a) (tmsV l) (.func (.func 54) #[] #[]) x4 x5 x6 x7 x8 (.slice (some ⟨σ.next, 0, none⟩) s.length s.length) xA xB xC xD xE (trV s) (.int .i64 s.length) (.int .i64 i) xI xJ xK xL xM xN xO xP xQ xR xS xT xU xV xW xX), [], h'⟩),
    dc3 (pp G) qq none ir52_s2 ⟨(F34 x0 (.int .i64 a) (tmsV l) (.func (.func 54) #[] #[]) x4 x5 x6 x7 x8 (.slice (some ⟨σ.next, 0, none⟩) s.length s.length) (.int .i64 i) (tmsV y) xC xD xE (trV s) (.int .i64 s.length) (.int .i64 i) xI xJ xK xL xM xN xO xP xQ xR xS xT xU xV xW xX), [], h⟩ (@kR ⟨R⟩) := by
   intro y hy hr
   intros
   rename_i R hR
   rw [sd_ir52_s2]
   obtain ⟨k, hk⟩ : ∃ k, s.length - i = k + 1 := ⟨s.length - i - 1, by omega⟩
   have hta : (trs ((setZ s a l).take i)).length = i := by rw [trs_len, List.length_take, setZ_len, Nat.min_eq_left hi]
   have hlen := fill_len (w := 1) (z := [Value.slice none 0 0]) (k := s.length - i) (n := s.length) hta rfl (by omega)
   have hst := fill_step (c := [tmsV y]) (w := 1) (z := [Value.slice none 0 0]) (k := k) hta rfl
   rw [← hk, show [tmsV y] = trs [y] from rfl, ← trs_app, ← take_succ_get hr, show k = s.length - (i + 1) by omega, show trs [y] = [tmsV y] from rfl] at hst
   simp (disch:=first|omega|(refine id ?_;simp only[push_cast];try omega)) only [push_cast,simprocAttr]
   refine CallVD.dataI (ho y hy) (by and_intros <;> first | rfl | (simp (disch:=first|omega|(refine id ?_;simp only[push_cast];try omega)) only [push_cast])) ?_
   unfold tmsV at hst ⊢
   simp (disch:=first|omega|(refine id ?_;simp only[push_cast];try omega)) only [push_cast,simprocAttr,hil,Int.toNat_natCast,hle,hl1,c1,hlen,hst]
   exact hR _ (by first | assumption | (simp (disch:=first|omega|(refine id ?_;simp only[push_cast];try omega)) only [push_cast,simprocAttr]; try omega)) (by first | assumption | (simp (disch:=first|omega|(refine id ?_;simp only[push_cast];try omega)) only [push_cast,simprocAttr,hl1]; try omega)) (by first | assumption | (simp (disch:=first|omega|(refine id ?_;simp only[push_cast];try omega)) only [push_cast,simprocAttr]; try omega)) (by (repeat (first | exact Gr.refl _ | assumption | (refine Grew.put' ?_ _ _ (by first | omega | (simp only [push_cast]; omega))) | (refine Grew.add' ?_ _))))
  unfold trV at key
  have fin : ∀ (h' : Heap) {x4 x5 x6 x7 x8 xC xD xE xI xJ xK xL xM xN xO xP xQ xR xS xT xU xV xW xX x0 xA xB : Value}, cells h' σ.next = some (trs ((setZ s a l).take (i + 1)) ++ (List.replicate (s.length - (i + 1)) [Value.slice none 0 0]).flatten, 32, false) → h'.lo = 1 → σ.next < h'.next → (Grew σ h' fun _ => False) →
    (∃ m', m' < s.length - i ∧ I52 σ s (setZ s a l) a l (.func (.func 54) #[] #[]) m' ⟨(F34 x0 (.int .i64 a) (tmsV l) (.func (.func 54) #[] #[]) x4 x5 x6 x7 x8 (.slice (some ⟨σ.next, 0, none⟩) s.length s.length) xA xB xC xD xE (Rw false eR s.length (trs s)) (.int .i64 s.length) (.int .i64 ((i : Int) + 1)) xI xJ xK xL xM xN xO xP xQ xR xS xT xU xV xW xX), [], h'⟩) := fun h' => by
   intros
   rename_i c1 hl1 hl2 hg
   exact ⟨_, by omega, I52.mk (i + 1) _ _ (by first | rfl | omega) (by omega) c1 hl1 hl2 hg⟩
  by_cases ha : (i : Int) = a
  ·subst ha
   simp (disch:=first|omega|(refine id ?_;simp only[push_cast];try omega)) only [push_cast,simprocAttr,hil,Int.toNat_natCast,hp,hle,hl1]
   refine key l hl (setZ_eq hx) _ ?_
   intros
   rename_i h' c1' hl1' hl2' hg'
   simp (disch:=first|omega|(refine id ?_;simp only[push_cast];try omega)) only [push_cast,simprocAttr]
   rw [sd_ir52_s3]
   simp (disch:=first|omega|(refine id ?_;simp only[push_cast];try omega)) only [push_cast,simprocAttr,hil]
   exact fin _ c1' hl1' hl2' hg'
  ·simp (disch:=first|omega|(refine id ?_;simp only[push_cast];try omega)) only [push_cast,simprocAttr,hil,Int.toNat_natCast,hp,hle,hl1,ha]
   refine key x hxm (setZ_ne hx ha) _ ?_
   intros
   rename_i h' c1' hl1' hl2' hg'
   simp (disch:=first|omega|(refine id ?_;simp only[push_cast];try omega)) only [push_cast,simprocAttr]
   rw [sd_ir52_s3]
   simp (disch:=first|omega|(refine id ?_;simp only[push_cast];try omega)) only [push_cast,simprocAttr,hil]
   exact fin _ c1' hl1' hl2' hg'
 ·have hie : i = s.length := by omega
  subst hie
  rw [List.take_of_length_le (by rw [setZ_len]; exact Nat.le_refl _), Nat.sub_self, List.replicate_zero, List.flatten_nil, List.append_nil] at c1
  simp (disch:=first|omega|(refine id ?_;simp only[push_cast];try omega)) only [push_cast,simprocAttr,hil]
  rw [sd_ir52_s1]
  simp (disch:=first|omega|(refine id ?_;simp only[push_cast];try omega)) only [push_cast,simprocAttr]
  refine ⟨.id (by first | assumption | (simp (disch:=first|omega|(refine id ?_;simp only[push_cast];try omega)) only [push_cast,simprocAttr]; try omega)),KeepTo.new1 hg hlo hl2 c1 (.ids (trs_sc _ (by omega) _)) (trs_one _)⟩
theorem with_f (s : List (List Tm)) (a : Int) (l : List Tm) (hs : smRows s) (hl : smRow l) : CallF (pp G) H0 52 [trV s, .int .i64 a, tmsV l, .func (.func 54) #[] #[]] (trV (setZ s a l)) := by
 refine CallF.cut ((with_d G H0 s a l hs hl).mono ?_)
 rintro v σ' ⟨rfl, rfl⟩
 have hsl := hs.1
 unfold trV
 rw [setZ_len]
 refine .sl (Nat.le_refl _) (cells_add_s _ _ _ _ rfl) (size := 1) rfl (by decide) (by rw [trs_len, setZ_len]; omega) (.inl ⟨by simp only [UC]; omega, Nat.le_refl _⟩) ?_
 rw [List.drop_zero, List.take_of_length_le (by rw [trs_len, setZ_len]; omega)]
 exact .ids (trs_sc _ H0q _)
end
end Go.Proofs.Ytgeakofgklcipaa
namespace Go.Proofs.Ytgeakofgklcipaa
open Go Go.RowKit Go.Ev Go.Dv
noncomputable section
set_option maxRecDepth 100000
variable (G : Nat × Nat)
theorem smRow_nil : smRow [] := ⟨by simp, rfl⟩
theorem smRow_app {l m : List Tm} (h1 : smRow l) (h2 : smRow m) (hl : l.length + m.length < 100000000000) : smRow (l ++ m) :=
 ⟨by rw [List.length_append]; exact hl, smTs_of fun x hx => (List.mem_append.1 hx).elim (smTs_all h1.2 x) (smTs_all h2.2 x)⟩
theorem smRow_get {s : List (List Tm)} (h : smRows s) (i : Nat) : smRow (s.getD i []) := by
 rw [List.getD_eq_getElem?_getD]
 cases hx : s[i]? with
 | none => exact smRow_nil
 | some x => exact h.2 x (List.mem_of_getElem? hx)
theorem smRows_set {s : List (List Tm)} {a : Int} {l : List Tm} (h : smRows s) (hl : smRow l) : smRows (setZ s a l) := by
 refine ⟨by rw [setZ_len]; exact h.1, fun x hx => ?_⟩
 unfold setZ at hx
 split at hx
 ·rcases List.mem_or_eq_of_mem_set hx with hx | rfl
  ·exact h.2 x hx
  ·exact hl
 ·exact h.2 x hx
inductive IL (s : List (List Tm)) (fv : Value) : Nat → S → Prop
 | mk (i : Nat) (iv : Int) (h : Heap) {x0 x2 x3 x4 x6 x7 x8 x9 xA xB xC xD xH xI xJ xK xL xM xN xO xP xQ xR xS : Value} (hiv : iv = (i : Int)) (hi : i ≤ s.length) (c1 : cells h 1 = some (trs (s.take i) ++ (List.replicate (s.length - i) [Value.slice none 0 0]).flatten, 32, false)) (hl1 : h.lo = 1) (hl2 : 2 ≤ h.next) :
  IL s fv (s.length - i) ⟨(F29 x0 fv x2 x3 x4 (.slice (some ⟨1, 0, none⟩) s.length s.length) x6 x7 x8 x9 xA xB xC xD (trV s) (.int .i64 s.length) (.int .i64 iv) xH xI xJ xK xL xM xN xO xP xQ xR xS), [], h⟩
theorem listR_f (s : List (List Tm)) (f : FuncId) (hll : s.length < 100000000000) (hf : ∀ x ∈ s, CallF (pp G) H0 f [tmsV x] (tmsV x)) : CallF (pp G) H0 72 [trV s, .func (.func f) #[] #[]] (trV s) := by
 have hlo : H0.lo ≤ H0.next := Nat.le_refl _; refine CallF.cut (CallD.fir4 (q := qq) (good G) fir72 ok_ir72 rfl rfl (F29_arr ..) (show NGG ≤ H0.lo by rw [H0_lo]; decide) ?_); rw [sd_ir72]
 unfold trV
 by_cases h0 : s.length = 0
 ·have h0' : (s.length : Int) = 0 := by omega
  obtain rfl : s = [] := List.length_eq_zero_iff.1 h0
  simp (disch:=first|omega|(refine id ?_;simp only[push_cast];try omega)) only [push_cast,simprocAttr,h0']
  exact .nil (size := 1) rfl (by decide)
 have h0' : ¬ (s.length : Int) = 0 := by omega
 have h1 : (s.length : Int) * 400 + s.length < 100000000000000 := by omega
 simp (disch:=first|omega|(refine id ?_;simp only[push_cast];try omega)) only [push_cast,simprocAttr,h0',h1]
 refine WD.loop4 (q := qq) (good G) ok_ir72_s0 (IL s (.func (.func f) #[] #[])) ?_ _ _ (IL.mk 0 0 _ rfl (Nat.zero_le _) (by simp (disch:=first|omega|(refine id ?_;simp only[push_cast];try omega)) only [push_cast,simprocAttr,List.take_zero]; rfl) rfl (by first | assumption | (simp (disch:=first|omega|(refine id ?_;simp only[push_cast];try omega)) only [push_cast,simprocAttr]; try omega)))
 intro m s1 hI
 cases hI with | mk i iv h hiv hi c1 hl1 hl2 =>
 subst hiv
 rw [sd_ir72_s0]
 unfold trV
 by_cases hil : (i : Int) < s.length
 ·obtain ⟨x, hx⟩ := some_get (l := s) (i := i) (by omega)
  have hxm := List.mem_of_getElem? hx
  have hp := trs_get hx
  have hle : i < s.length := by omega
  simp (disch:=first|omega|(refine id ?_;simp only[push_cast];try omega)) only [push_cast,simprocAttr,hil,Int.toNat_natCast,hp,hle,hl1]
  refine CallVD.dataI (hf x hxm) (by and_intros <;> first | rfl | (simp (disch:=first|omega|(refine id ?_;simp only[push_cast];try omega)) only [push_cast])) ?_
  obtain ⟨k, hk⟩ : ∃ k, s.length - i = k + 1 := ⟨s.length - i - 1, by omega⟩
  have hta : (trs (s.take i)).length = i := by rw [trs_len, List.length_take, Nat.min_eq_left hi]
  have hlen := fill_len (w := 1) (z := [Value.slice none 0 0]) (k := s.length - i) (n := s.length) hta rfl (by omega)
  have hst := fill_step (c := [tmsV x]) (w := 1) (z := [Value.slice none 0 0]) (k := k) hta rfl
  rw [← hk, show [tmsV x] = trs [x] from rfl, ← trs_app, ← take_succ_get hx, show k = s.length - (i + 1) by omega, show trs [x] = [tmsV x] from rfl] at hst
  unfold tmsV at hst ⊢
  simp (disch:=first|omega|(refine id ?_;simp only[push_cast];try omega)) only [push_cast,simprocAttr,hil,Int.toNat_natCast,hle,hl1,c1,hlen,hst]
  exact ⟨_,by omega,IL.mk (i + 1) _ _ (by first | rfl | omega) (by omega) (by first | assumption | (simp (disch:=first|omega|(refine id ?_;simp only[push_cast];try omega)) only [push_cast,simprocAttr]; try omega)) (by first | assumption | (simp (disch:=first|omega|(refine id ?_;simp only[push_cast];try omega)) only [push_cast,simprocAttr,hl1]; try omega)) (by first | assumption | (simp (disch:=first|omega|(refine id ?_;simp only[push_cast];try omega)) only [push_cast,simprocAttr]; try omega))⟩
 ·have hie : i = s.length := by omega
  subst hie
  rw [List.take_length, Nat.sub_self, List.replicate_zero, List.flatten_nil, List.append_nil] at c1
  simp (disch:=first|omega|(refine id ?_;simp only[push_cast];try omega)) only [push_cast,simprocAttr,hil]
  rw [sd_ir72_s1]
  simp (disch:=first|omega|(refine id ?_;simp only[push_cast];try omega)) only [push_cast,simprocAttr]
  refine .sl (by simp (disch:=first|omega|(refine id ?_;simp only[push_cast];try omega)) only [push_cast,simprocAttr]) c1 (size := 1) rfl (by decide) (by first | assumption | (simp (disch:=first|omega|(refine id ?_;simp only[push_cast];try omega)) only [push_cast,simprocAttr]; try omega)) (.inl ⟨by simp only [UC]; omega,Nat.le_refl _⟩) ?_
  rw [List.drop_zero, List.take_of_length_le (by rw [trs_len]; omega)]
  exact .ids (trs_sc _ H0q s)
theorem ownTs_f (l : List Tm) (hl : smRow l) : CallF (pp G) H0 56 [tmsV l] (tmsV l) := by
 have hlo : H0.lo ≤ H0.next := Nat.le_refl _; refine CallF.cut (CallD.fir4 (q := qq) (good G) fir56 ok_ir56 rfl rfl (F5_arr ..) (show NGG ≤ H0.lo by rw [H0_lo]; decide) ?_); rw [sd_ir56]
 simp (disch:=first|omega|(refine id ?_;simp only[push_cast];try omega)) only [push_cast,simprocAttr]
 refine CallVD.dataI (listtm_f G l 54 hl.1 fun x hx => ownT_f G x (smTs_all hl.2 x hx)) (by and_intros <;> first | rfl | (simp (disch:=first|omega|(refine id ?_;simp only[push_cast];try omega)) only [push_cast])) ?_
 simp (disch:=first|omega|(refine id ?_;simp only[push_cast];try omega)) only [push_cast,simprocAttr]
 exact .id (tmsV_sc _ H0q l)
theorem trV_sc (n : Nat) (hn : 0 < n) (s : List (List Tm)) : Ev.sc n (trV s) = true := trR_sc n hn ..
attribute [push_cast] trV_sc
theorem ownS_f (s : List (List Tm)) (hs : smRows s) : CallF (pp G) H0 51 [trV s] (trV s) := by
 have hlo : H0.lo ≤ H0.next := Nat.le_refl _; refine CallF.cut (CallD.fir4 (q := qq) (good G) fir51 ok_ir51 rfl rfl (F5_arr ..) (show NGG ≤ H0.lo by rw [H0_lo]; decide) ?_); rw [sd_ir51]
 simp (disch:=first|omega|(refine id ?_;simp only[push_cast];try omega)) only [push_cast,simprocAttr]
 refine CallVD.dataI (listR_f G s 56 hs.1 fun x hx => ownTs_f G x (hs.2 x hx)) (by and_intros <;> first | rfl | (simp (disch:=first|omega|(refine id ?_;simp only[push_cast];try omega)) only [push_cast])) ?_
 simp (disch:=first|omega|(refine id ?_;simp only[push_cast];try omega)) only [push_cast,simprocAttr]
 exact .id (trV_sc _ H0q s)
theorem nil_tr (n : Nat) (σ : Heap) : FzV (pp G).P n σ (.slice none 0 0) (trV []) := .nil (size := 1) rfl (by decide)
theorem rowT1 (t : Tm) (σ : Heap) : bsD (qq.m 32) (slT Try.prog 32) 1 [(0, tmV t)] σ = some (Rw true 34 1 (tmCs [t]), σ) := by
 rw [tmCs_1]; cases t; kernel_rfl
theorem trs_get' {s : List (List Tm)} {i : Nat} (h : i < s.length) : (trs s)[i]? = some (tmsV (s.getD i [])) := by simp [trs, h]
theorem push_in (s : List (List Tm)) (a : Int) (t : Tm) (hs : smRows s) (hgl : (s.getD a.toNat []).length + 1 < 100000000000) (ht : smT t = true) (ha : 0 ≤ a ∧ a < s.length) : CallF (pp G) H0 23 [trV s, .int .i64 a, tmV t] (trV (setZ s a (s.getD a.toNat [] ++ [t]))) := by
 have hg := smRow_get hs a.toNat
 have hsl := hs.1
 have hlo : H0.lo ≤ H0.next := Nat.le_refl _; refine CallF.cut (CallD.fir4 (q := qq) (good G) fir23 ok_ir23 rfl rfl (F23_arr ..) (show NGG ≤ H0.lo by rw [H0_lo]; decide) ?_); rw [sd_ir23]
 simp (disch:=first|omega|(refine id ?_;simp only[push_cast];try omega)) only [push_cast,simprocAttr]
 refine CallVD.dataI (has_f G s a hs.1) (by and_intros <;> first | rfl | (simp (disch:=first|omega|(refine id ?_;simp only[push_cast];try omega)) only [push_cast])) ?_
 have hp := trs_get' (s := s) (i := a.toNat) (by omega)
 have hd : decide (0 ≤ a ∧ a < (s.length : Int)) = true := by simpa using ha
 have hc : (a.toNat : Int) = a := by omega
 have hlt : a.toNat < s.length := by omega
 have hsr : smRow (s.getD a.toNat [] ++ [t]) := smRow_app hg ⟨by simp, by simp [smTs, ht]⟩ (by rw [List.length_cons, List.length_nil]; omega)
 unfold trV
 simp (disch:=first|omega|(refine id ?_;simp only[push_cast];try omega)) only [push_cast,simprocAttr,hd,hp,hc,hlt,ha.1,ha.2,↓rowT1]
 refine CallVD.data (behind_f G (s.getD a.toNat []) [t] (by omega) (by simp)) (.cons (.id (tmsV_sc _ H0q _)) (.cons (.row (.ids (tmCs_sc _ H0q _))) .nil)) (by first | rfl | (simp (disch:=first|omega|(refine id ?_;simp only[push_cast];try omega)) only [push_cast])) (by first | rfl | (simp (disch:=first|omega|(refine id ?_;simp only[push_cast];try omega)) only [push_cast])) ?_
 simp (disch:=first|omega|(refine id ?_;simp only[push_cast];try omega)) only [push_cast,simprocAttr]
 refine CallVD.dataI (with_f G s a (s.getD a.toNat [] ++ [t]) hs hsr) (by and_intros <;> first | rfl | (simp (disch:=first|omega|(refine id ?_;simp only[push_cast];try omega)) only [push_cast])) ?_
 simp (disch:=first|omega|(refine id ?_;simp only[push_cast];try omega)) only [push_cast,simprocAttr]
 exact .id (trV_sc _ H0q _)
theorem accept_f (s : List (List Tm)) (a : Int) (hs : smRows s) : CallF (pp G) H0 28 [trV s, .int .i64 a] (trV (setZ s a [])) := by
 have hlo : H0.lo ≤ H0.next := Nat.le_refl _; refine CallF.cut (CallD.fir4 (q := qq) (good G) fir28 ok_ir28 rfl rfl (F8_arr ..) (show NGG ≤ H0.lo by rw [H0_lo]; decide) ?_); rw [sd_ir28]
 simp (disch:=first|omega|(refine id ?_;simp only[push_cast];try omega)) only [push_cast,simprocAttr]
 refine CallVD.data (with_f G s a [] hs smRow_nil) (by repeat' (first | exact FzL.nil | apply FzL.cons | exact FzV.id rfl | (refine FzV.id ?_; simp (disch:=first|omega|(refine id ?_;simp only[push_cast];try omega)) only [push_cast]; done) | exact nil_Tm .. | exact nil_Ex .. | exact nil_tr .. | exact nil_iv .. | exact nil_Pr .. | exact nil_ns .. | apply FzV.agg | apply FzV.row)) (by first | rfl | (simp (disch:=first|omega|(refine id ?_;simp only[push_cast];try omega)) only [push_cast])) (by first | rfl | (simp (disch:=first|omega|(refine id ?_;simp only[push_cast];try omega)) only [push_cast])) ?_
 simp (disch:=first|omega|(refine id ?_;simp only[push_cast];try omega)) only [push_cast,simprocAttr]
 exact .id (trV_sc _ H0q _)
end
end Go.Proofs.Ytgeakofgklcipaa
namespace Go.Proofs.Ytgeakofgklcipaa
open Go Go.RowKit Go.Ev Go.Dv
noncomputable section
set_option maxRecDepth 100000
variable (G : Nat × Nat)
def mergeF (s : List (List Tm)) (a b : Int) : List (List Tm) := if a = b then s else setZ (setZ s b (s.getD b.toNat [] ++ s.getD a.toNat [])) a []
theorem merge_f (s : List (List Tm)) (a b : Int) (hs : smRows s) (hl : (s.getD b.toNat []).length + (s.getD a.toNat []).length < 100000000000) (ha : 0 ≤ a ∧ a < s.length) (hb : 0 ≤ b ∧ b < s.length) :
  CallF (pp G) H0 30 [trV s, .int .i64 a, .int .i64 b] (trV (mergeF s a b)) := by
 have hga := smRow_get hs a.toNat
 have hgb := smRow_get hs b.toNat
 have hsl := hs.1
 unfold mergeF
 have hlo : H0.lo ≤ H0.next := Nat.le_refl _; refine CallF.cut (CallD.fir4 (q := qq) (good G) fir30 ok_ir30 rfl rfl (F41_arr ..) (show NGG ≤ H0.lo by rw [H0_lo]; decide) ?_); rw [sd_ir30]
 simp (disch:=first|omega|(refine id ?_;simp only[push_cast];try omega)) only [push_cast,simprocAttr]
 refine CallVD.dataI (has_f G s a hs.1) (by and_intros <;> first | rfl | (simp (disch:=first|omega|(refine id ?_;simp only[push_cast];try omega)) only [push_cast])) ?_
 have hd : decide (0 ≤ a ∧ a < (s.length : Int)) = true := by simpa using ha
 have hd2 : decide (0 ≤ b ∧ b < (s.length : Int)) = true := by simpa using hb
 simp (disch:=first|omega|(refine id ?_;simp only[push_cast];try omega)) only [push_cast,simprocAttr,hd]
 refine CallVD.dataI (has_f G s b hs.1) (by and_intros <;> first | rfl | (simp (disch:=first|omega|(refine id ?_;simp only[push_cast];try omega)) only [push_cast])) ?_
 by_cases hab : a = b
 ·rw [if_pos hab]
  subst hab
  simp (disch:=first|omega|(refine id ?_;simp only[push_cast];try omega)) only [push_cast,simprocAttr,hd2]
  refine CallVD.dataI (ownS_f G s hs) (by and_intros <;> first | rfl | (simp (disch:=first|omega|(refine id ?_;simp only[push_cast];try omega)) only [push_cast])) ?_
  simp (disch:=first|omega|(refine id ?_;simp only[push_cast];try omega)) only [push_cast,simprocAttr]
  exact .id (trV_sc _ H0q _)
 rw [if_neg hab]
 have hp := trs_get' (s := s) (i := a.toNat) (by omega)
 have hp2 := trs_get' (s := s) (i := b.toNat) (by omega)
 have hc : (a.toNat : Int) = a := by omega
 have hc2 : (b.toNat : Int) = b := by omega
 have hlt : a.toNat < s.length := by omega
 have hlt2 : b.toNat < s.length := by omega
 have hsr : smRow (s.getD b.toNat [] ++ s.getD a.toNat []) := smRow_app hgb hga hl
 obtain ⟨r, hr⟩ : ∃ r, r = setZ s b (s.getD b.toNat [] ++ s.getD a.toNat []) := ⟨_, rfl⟩
 have hw := with_d G H0 s b (s.getD b.toNat [] ++ s.getD a.toNat []) hs hsr
 have hrl : r.length = s.length := by rw [hr, setZ_len]
 rw [← hr] at hw ⊢
 unfold trV
 simp (disch:=first|omega|(refine id ?_;simp only[push_cast];try omega)) only [push_cast,simprocAttr,hd2,hab,hp,hp2,hlt,hlt2,ha.1,ha.2,hb.1,hb.2]
 refine CallVD.dataI (behind_f G (s.getD b.toNat []) (s.getD a.toNat []) hgb.1 hga.1) (by and_intros <;> first | rfl | (simp (disch:=first|omega|(refine id ?_;simp only[push_cast];try omega)) only [push_cast])) ?_
 simp (disch:=first|omega|(refine id ?_;simp only[push_cast];try omega)) only [push_cast,simprocAttr]
 refine CallVD.new1 (hw) (by first | exact FzL.ids rfl | (refine FzL.ids ?_; simp (disch:=first|omega|(refine id ?_;simp only[push_cast];try omega)) only [push_cast])) (by first | rfl | (simp (disch:=first|omega|(refine id ?_;simp only[push_cast];try omega)) only [push_cast])) (by first | rfl | (simp (disch:=first|omega|(refine id ?_;simp only[push_cast];try omega)) only [push_cast])) ?_
 simp (disch:=first|omega|(refine id ?_;simp only[push_cast];try omega)) only [push_cast,simprocAttr,ha.1,ha.2,hlt,hrl]
 have hq : r = r.take a.toNat ++ (r.drop a.toNat) := (List.take_append_drop _ _).symm
 have hdr : r.drop a.toNat = r.getD a.toNat [] :: r.drop (a.toNat + 1) := by
  rw [List.drop_eq_getElem_cons (by omega), List.getD_eq_getElem?_getD, List.getElem?_eq_getElem (by omega)]; rfl
 have hz : setZ r a [] = r.take a.toNat ++ [] :: r.drop (a.toNat + 1) := by
  unfold setZ
  rw [if_pos ha.1, List.set_eq_take_append_cons_drop, if_pos (by omega)]
 rw [hz]
 have e1 : (r.take a.toNat ++ [] :: r.drop (a.toNat + 1)).length = s.length := by
  rw [← hz, setZ_len, hrl]
 rw [e1]
 refine .sl (Nat.le_refl _) (cells_put_s _ _ _ _) (size := 1) rfl (by decide) ?_ (.inl ⟨by simp only [UC]; omega, Nat.le_refl _⟩) ?_
 ·simp only [List.length_append, List.length_take, List.length_drop, trs_len, List.length_cons, List.length_nil]; omega
 rw [List.drop_zero, List.take_of_length_le (i := s.length * 1) (by simp only [List.length_append, List.length_take, List.length_drop, trs_len, List.length_cons, List.length_nil]; omega), trs_app, show trs ([] :: r.drop (a.toNat + 1)) = [tmsV []] ++ trs (r.drop (a.toNat + 1)) from rfl, List.append_assoc]
 have t1 : (trs r).take a.toNat = trs (r.take a.toNat) := by simp [trs, List.map_take]
 have t2 : (trs r).drop (a.toNat + 1) = trs (r.drop (a.toNat + 1)) := by simp [trs, List.map_drop]
 rw [t1, t2]
 exact (FzL.ids (trs_sc _ H0q _)).app (.cons (nil_Tm G _ _) (.ids (trs_sc _ H0q _)))
end
end Go.Proofs.Ytgeakofgklcipaa
namespace Go.Proofs.Ytgeakofgklcipaa
open Go Go.RowKit Go.Ev Go.Dv
noncomputable section
set_option maxRecDepth 100000
variable (G : Nat × Nat)
def zE : Ex := .mk 0 0 [] []
def zT : Tm := .mk 0 0 0 [] zE []
def backF (x : Tm) : List Tm → Tm
 | [] => x
 | t :: r => .mk 12 0 0 [] zE [t, backF x r]
def backC (x : Tm) : List Tm → List Value
 | [] => tmC x
 | t :: r => [.int .i64 12, .int .i64 0, .int .i64 0, .string (Tx []), .int .i64 0, .int .i64 0, .string (Tx []), .slice none 0 0, Rw true 34 2 (tmC t ++ backC x r)]
def revF : List Tm → Tm
 | [] => zT
 | x :: r => backF x r.reverse
theorem backC_len (x : Tm) (r : List Tm) : (backC x r).length = 9 := by cases r <;> simp [backC, tmC_len]
theorem backC_one (x : Tm) (r : List Tm) : (backC x r).all one = true := by
 cases r with
 | nil => exact tmC_one x
 | cons t r => rfl
theorem backC_fz (n : Nat) (hn : 0 < n) (σ : Heap) (x : Tm) : ∀ r : List Tm, FzL (pp G).P n σ (backC x r) (tmC (backF x r))
 | [] => .ids (tmC_sc n hn x)
 | t :: r => by
  rw [backC, backF]
  refine .cons (.id rfl) (.cons (.id rfl) (.cons (.id rfl) (.cons (.id rfl) (.cons (.id rfl) (.cons (.id rfl) (.cons (.id rfl) (.cons (nil_Ex G n σ) (.cons (.row ?_) .nil))))))))
  rw [show tmCs [t, backF x r] = tmC t ++ tmC (backF x r) by rw [tmCs, tmCs_1]]
  exact (FzL.ids (tmC_sc n hn t)).app (backC_fz n hn σ x r)
theorem row2 (t x : Tm) (r : List Tm) (σ : Heap) : bsD (qq.m 32) (slT Try.prog 32) 2 [(0, tmV t), (1, .agg ⟨backC x r⟩)] σ = some (Rw true 34 2 (tmC t ++ backC x r), σ) := by
 cases r with
 | nil => rw [backC]; cases t; cases x; kernel_rfl
 | cons u r => rw [backC]; generalize backC x r = c; cases t; cases u; kernel_rfl
inductive I25 (s : List (List Tm)) (a : Int) (x : Tm) (l : List Tm) : Nat → S → Prop
 | mk (i : Nat) (iv : Int) (h : Heap) {x2 x3 x5 x6 x8 x9 xA xB xC xD xE xF xG xH xI xJ xK xL xM xN xO xP xQ xR xS xT xU xV xW xX yB yC yD yE yF yG yH yI yJ yK yL yM : Value} (hiv : iv = (i : Int)) (hi : i ≤ l.length)
   (c0 : cells h 1 = some ([.int .i64 0, .int .i64 0, .int .i64 0, .string (Tx []), .int .i64 0, .int .i64 0, .string (Tx []), .slice none 0 0, .slice none 0 0], 34, false))
   (c1 : cells h 2 = some (backC x (l.take i).reverse, 34, false)) (hl1 : h.lo = 1) (hl2 : 3 ≤ h.next) :
  I25 s a x l (l.length - i) ⟨(F49 (trV s) (.int .i64 a) x2 x3 (.pointer (some ⟨1, 0, none⟩)) x5 x6 (.pointer (some ⟨2, 0, none⟩)) x8 x9 xA xB xC xD xE xF xG xH xI xJ xK xL xM xN xO xP xQ xR xS xT xU xV xW xX (tmsV l) (.int .i64 l.length) (.int .i64 iv) yB yC yD yE yF yG yH yI yJ yK yL yM), [], h⟩
def ttV (t : Tm) (s : List (List Tm)) : Value := .tuple ⟨[tmV t, trV s]⟩
theorem rev_take (l : List Tm) {i : Nat} {t : Tm} (h : l[i]? = some t) : (l.take (i + 1)).reverse = t :: (l.take i).reverse := by
 rw [take_succ_get h, List.reverse_append]; rfl
theorem reverse_f (s : List (List Tm)) (a : Int) (hs : smRows s) (ha : 0 ≤ a ∧ a < s.length) :
  CallF (pp G) H0 25 [trV s, .int .i64 a] (ttV (revF (s.getD a.toNat [])) (setZ s a [])) := by
 have hga := smRow_get hs a.toNat
 have hsl := hs.1
 have hp := trs_get' (s := s) (i := a.toNat) (by omega)
 have hc : (a.toNat : Int) = a := by omega
 have hlt : a.toNat < s.length := by omega
 have hset : s.getD a.toNat [] = [] → setZ s a [] = s := fun h0 => by
  unfold setZ
  rw [if_pos ha.1]
  rw [List.getD_eq_getElem?_getD, List.getElem?_eq_getElem hlt] at h0
  simp only [Option.getD_some] at h0
  rw [← h0]
  exact List.set_getElem_self hlt
 generalize s.getD a.toNat [] = row at hga hp hset
 have hd : decide (0 ≤ a ∧ a < (s.length : Int)) = true := by simpa using ha
 have hrl := hga.1
 have hlo : H0.lo ≤ H0.next := Nat.le_refl _; refine CallF.cut (CallD.fir4 (q := qq) (good G) fir25 ok_ir25 rfl rfl (F49_arr ..) (show NGG ≤ H0.lo by rw [H0_lo]; decide) ?_); rw [sd_ir25]
 simp (disch:=first|omega|(refine id ?_;simp only[push_cast];try omega)) only [push_cast,simprocAttr]
 refine CallVD.dataI (has_f G s a hs.1) (by and_intros <;> first | rfl | (simp (disch:=first|omega|(refine id ?_;simp only[push_cast];try omega)) only [push_cast])) ?_
 cases row with
 | nil =>
  rw [hset rfl]
  unfold trV
  unfold tmsV at hp
  simp (disch:=first|omega|(refine id ?_;simp only[push_cast];try omega)) only [push_cast,simprocAttr,hd,hp,hlt,ha.1,ha.2,List.length_nil,show ((0 : Nat) : Int) = 0 from rfl]
  have := ownS_f G s hs
  unfold trV at this
  refine CallVD.dataI (this) (by and_intros <;> first | rfl | (simp (disch:=first|omega|(refine id ?_;simp only[push_cast];try omega)) only [push_cast])) ?_
  simp (disch:=first|omega|(refine id ?_;simp only[push_cast];try omega)) only [push_cast,simprocAttr]
  refine .tup (.cons (.agg ?_) (.cons (.id (trR_sc _ H0q _ _ _)) .nil))
  exact .cons (.id rfl) (.cons (.id rfl) (.cons (.id rfl) (.cons (.id rfl) (.cons (.id rfl) (.cons (.id rfl) (.cons (.id rfl) (.cons (nil_Ex G _ _) (.cons (nil_Tm G _ _) .nil))))))))
 | cons x l =>
  have hll : l.length + 1 < 100000000000 := by simpa using hrl
  have hxs : smT x = true := smTs_all hga.2 x (by simp)
  have hls : smTs l = true := by have := hga.2; simp only [smTs, Bool.and_eq_true] at this; exact this.2
  have hne : ¬ ((l.length : Int) + 1) = 0 := by omega
  have h9 : 9 ≤ (l.length + 1) * 9 := by omega
  have hT : CallF (pp G) H0 56 [Rw false etm (x :: l).length (tmCs (x :: l))] (Rw false etm (x :: l).length (tmCs (x :: l))) := ownTs_f G _ hga
  have hdr : (tmCs (x :: l)).drop 9 = tmCs l := by
   have := tmCs_drop (x :: l) 1
   simpa using this
  unfold trV
  unfold tmsV at hp
  simp (disch:=first|omega|(refine id ?_;simp only[push_cast];try omega)) only [push_cast,simprocAttr,hd,hp,hlt,ha.1,ha.2,List.length_cons,hne]
  rw [List.length_cons] at hT
  refine CallVD.dataI (hT) (by and_intros <;> first | rfl | (simp (disch:=first|omega|(refine id ?_;simp only[push_cast];try omega)) only [push_cast])) ?_
  have e2 : (l.length : Int) + 1 - 1 = l.length := by omega
  simp (disch:=first|omega|(refine id ?_;simp only[push_cast];try omega)) only [push_cast,simprocAttr,h9,List.length_cons,hdr,Nat.add_sub_cancel,e2]
  refine WD.loop4 (q := qq) (good G) ok_ir25_s0 (I25 s a x l) ?_ _ _ (I25.mk 0 0 _ rfl (Nat.zero_le _) (by simp (disch:=first|omega|(refine id ?_;simp only[push_cast];try omega)) only [push_cast,simprocAttr]) (by simp (disch:=first|omega|(refine id ?_;simp only[push_cast];try omega)) only [push_cast,simprocAttr]; rfl) rfl (by first | assumption | (simp (disch:=first|omega|(refine id ?_;simp only[push_cast];try omega)) only [push_cast,simprocAttr]; try omega)))
  intro m s1 hI
  cases hI with | mk i iv h hiv hi c0 c1 hl1 hl2 =>
  subst hiv
  rw [sd_ir25_s0]
  unfold trV tmsV
  by_cases hil : (i : Int) < l.length
  ·obtain ⟨t, ht⟩ := some_get (l := l) (i := i) (by omega)
   have hpt := tmCs_take ht
   have hle2 : i * 9 + 9 ≤ l.length * 9 := by omega
   have hbl := backC_len x (l.take i).reverse
   have hbt : (backC x (l.take i).reverse).take 9 = backC x (l.take i).reverse := List.take_of_length_le (by rw [hbl]; omega)
   have hbd : (backC x (l.take i).reverse).drop 9 = [] := List.drop_of_length_le (by rw [hbl]; omega)
   have hbo := backC_one x (l.take i).reverse
   simp (disch:=first|omega|(refine id ?_;simp only[push_cast];try omega)) only [push_cast,simprocAttr,hil,Int.toNat_natCast,hpt,hle2,hl1,c1,hbl,hbt,hbd,hbo,↓row2]
   exact ⟨_,by omega,I25.mk (i + 1) _ _ (by first | rfl | omega) (by omega) (by first | assumption | (simp (disch:=first|omega|(refine id ?_;simp only[push_cast];try omega)) only [push_cast,simprocAttr,c0]; try omega)) (by rw [rev_take l ht,backC]; simp (disch:=first|omega|(refine id ?_;simp only[push_cast];try omega)) only [push_cast,simprocAttr]) (by first | assumption | (simp (disch:=first|omega|(refine id ?_;simp only[push_cast];try omega)) only [push_cast,simprocAttr,hl1]; try omega)) (by first | assumption | (simp (disch:=first|omega|(refine id ?_;simp only[push_cast];try omega)) only [push_cast,simprocAttr]; try omega))⟩
  ·have hie : i = l.length := by omega
   subst hie
   rw [List.take_length] at c1
   have hbl := backC_len x l.reverse
   have hbt : (backC x l.reverse).take 9 = backC x l.reverse := List.take_of_length_le (by rw [hbl]; omega)
   have hbd : (backC x l.reverse).drop 9 = [] := List.drop_of_length_le (by rw [hbl]; omega)
   have hbo := backC_one x l.reverse
   simp (disch:=first|omega|(refine id ?_;simp only[push_cast];try omega)) only [push_cast,simprocAttr,hil]
   rw [sd_ir25_s1]
   simp (disch:=first|omega|(refine id ?_;simp only[push_cast];try omega)) only [push_cast,simprocAttr,c1,hbl,hbt,hl1]
   have hA := accept_f G s a hs
   unfold trV at hA
   refine CallVD.dataI (hA) (by and_intros <;> first | rfl | (simp (disch:=first|omega|(refine id ?_;simp only[push_cast];try omega)) only [push_cast])) ?_
   simp (disch:=first|omega|(refine id ?_;simp only[push_cast];try omega)) only [push_cast,simprocAttr,c0,hl1,hbl,hbo,hbt,hbd]
   refine .tup (.cons (.agg (backC_fz G _ H0q _ x _)) (.cons (.id (trR_sc _ H0q _ _ _)) .nil))
end
end Go.Proofs.Ytgeakofgklcipaa
namespace Go.Proofs.Ytgeakofgklcipaa
open Go Go.RowKit Go.Ev Go.Dv
noncomputable section
set_option maxRecDepth 100000
variable (G : Nat × Nat)
def RowsAt (h : Heap) (lo : Nat) (vs : List Value) (r : List (List Tm)) (a : Option Addr) : Prop :=
 vs.length = r.length ∧ ∀ (j : Nat) (v : Value) (row : List Tm), vs[j]? = some v → r[j]? = some row → ∃ b c, v = .slice b row.length c ∧ OwnD h 34 9 b row.length c (tmCs row) ∧ ∀ k, blk b k → ¬ blk a k ∧ lo ≤ k
theorem RowsAt.grew {h h' : Heap} {lo : Nat} {vs : List Value} {r : List (List Tm)} {a : Option Addr} {S : Nat → Prop} (hr : RowsAt h lo vs r a) (g : Grew h h' S) (hS : ∀ b, S b → blk a b) : RowsAt h' lo vs r a :=
 ⟨hr.1, fun j v row h1 h2 => by
  obtain ⟨b, c, e, ho, hn⟩ := hr.2 j v row h1 h2
  exact ⟨b, c, e, ho.grew g fun k hk hs => (hn k hk).1 (hS _ hs), hn⟩⟩
theorem RowsAt.fz {P : Program} {h : Heap} {lo : Nat} {N : Nat} (hN : N ≤ lo) (h0 : 0 < N) (hs : szT P 34 = some 9) {a : Option Addr} : ∀ {vs : List Value} {r : List (List Tm)}, RowsAt h lo vs r a → (∀ row ∈ r, row.length < 100000000000) → FzL P N h vs (trs r)
 | [], [], _, _ => .nil
 | [], _ :: _, hr, _ => by have := hr.1; simp at this
 | _ :: _, [], hr, _ => by have := hr.1; simp at this
 | v :: vs, row :: r, hr, hl => by
  obtain ⟨b, c, rfl, ho, hb⟩ := hr.2 0 v row rfl rfl
  refine .cons (ho.fz hs (by omega) (by have := hl row (by simp); omega) (.ids (tmCs_sc N h0 row)) fun k hk => Nat.le_trans hN (hb k hk).2) (RowsAt.fz hN h0 hs ⟨by simpa using hr.1, fun j v row h1 h2 => hr.2 (j + 1) v row (by simpa using h1) (by simpa using h2)⟩ fun x hx => hl x (by simp [hx]))
theorem OwnD.lt {σ : Heap} {e n : Nat} {a : Option Addr} {len c : Nat} {cs : List Value} (ho : OwnD σ e n a len c cs) {b : Nat} (hb : blk a b) : σ.lo ≤ b ∧ b < σ.next := by
 obtain ⟨o, s, rfl⟩ := hb
 rcases ho.hat with ⟨e, _⟩ | ⟨q, _, e, h1, h2, _⟩
 ·cases e
 ·cases e; exact ⟨h1, h2⟩
theorem own0 {σ : Heap} (hlo : σ.lo ≤ σ.next) : OwnD (σ.add (O [] 34 false)) 34 9 (some ⟨σ.next, 0, none⟩) 0 0 [] :=
 ⟨by simp, rfl, .inr ⟨σ.next, false, rfl, by rw [lo_add]; exact hlo, by rw [next_add]; omega, cells_add_s _ _ _ _ rfl, .inr ⟨rfl, rfl⟩⟩⟩
theorem row0 (σ : Heap) : bsD (qq.m 32) (slT Try.prog 32) 0 [] σ = some (.slice (some ⟨σ.next, 0, none⟩) 0 0, σ.add (O [] 34 false)) := by kernel_rfl
theorem rowS1 (v : Value) (ho : one v = true) (hc : v.cells.toList = [v]) (σ : Heap) : bsD (qq.m 26) (slT Try.prog 26) 1 [(0, v)] σ = some (Rw true eR 1 [v], σ) := by
 have : bsD false (some (eR, 1, [Value.slice none 0 0])) 1 [(0, v)] σ = some (Rw true eR 1 [v], σ) := by
  rw [bsD_eq _ _ _ _ (by decide)]
  have hf : fillP ((List.range 1).map (fun i => (i * 1, 1))) (List.replicate 1 [Value.slice none 0 0]).flatten [(0, v)] = some [v] := by
   simp [fillP, hc, setFrom]
  rw [hf]
  exact bsDC_r 1 (by simp [ho]) (by omega)
 exact this
inductive I55 (s r : List (List Tm)) (a : Int) (row : List Tm) : Nat → S → Prop
 | mk (i : Nat) (iv : Int) (h : Heap) (q : Option Addr) (c : Nat) (vs : List Value) {x3 x4 x5 x6 x9 xA xB xC xD xE xF xG xH xI xJ xK xL xM xN xO xP xQ xR xS xT xU : Value} (hiv : iv = (i : Int)) (hi : i ≤ s.length)
   (ho : OwnD h eR 1 q i c vs) (hv : RowsAt h 1 vs (r.take i) q) (hq : ∀ b, blk q b → 1 ≤ b) (hl1 : h.lo = 1) (hl2 : 1 ≤ h.next) :
  I55 s r a row (s.length - i) ⟨(F31 (trV s) (.int .i64 a) (tmsV row) x3 x4 x5 x6 (.slice q i c) (.int .i64 iv) x9 xA xB xC xD xE xF xG xH xI xJ xK xL xM xN xO xP xQ xR xS xT xU), [], h⟩
theorem copied_f (s : List (List Tm)) (a : Int) (row : List Tm) (hs : smRows s) (hrow : smRow row) : CallF (pp G) H0 55 [trV s, .int .i64 a, tmsV row] (trV (setZ s a row)) := by
 have hsl := hs.1
 have hlo : H0.lo ≤ H0.next := Nat.le_refl _; refine CallF.cut (CallD.fir4 (q := qq) (good G) fir55 ok_ir55 rfl rfl (F31_arr ..) (show NGG ≤ H0.lo by rw [H0_lo]; decide) ?_); rw [sd_ir55]
 simp (disch:=first|omega|(refine id ?_;simp only[push_cast];try omega)) only [push_cast,simprocAttr]
 refine WD.loop4 (q := qq) (good G) ok_ir55_s0 (I55 s (setZ s a row) a row) ?_ _ _ (I55.mk 0 0 _ none 0 [] rfl (Nat.zero_le _) (OwnD.nil _ _ _) ⟨by simp,fun j v row h => by simp at h⟩ (fun b hb => by obtain ⟨o,s,e⟩ := hb; cases e) rfl (by first | assumption | (simp (disch:=first|omega|(refine id ?_;simp only[push_cast];try omega)) only [push_cast,simprocAttr]; try omega)))
 intro m s1 hI
 cases hI with | mk i iv h q c vs hiv hi ho hv hq hl1 hl2 =>
 subst hiv
 rw [sd_ir55_s0]
 unfold trV
 by_cases hil : (i : Int) < s.length
 ·obtain ⟨x, hx⟩ := some_get (l := s) (i := i) (by omega)
  have hxm := hs.2 x (List.mem_of_getElem? hx)
  have hp := trs_get hx
  have hle : i < s.length := by omega
  simp (disch:=first|omega|(refine id ?_;simp only[push_cast];try omega)) only [push_cast,simprocAttr,hil,Int.toNat_natCast,hp,hle,hl1]
  have key : ∀ (y : List Tm) (hy : smRow y) (hr : (setZ s a row)[i]? = some y) {x3 x4 x5 x6 xA xB xC xD xE xF xG xH xI xJ xK xL xM xN xO xP xQ xR xS xT xU : Value} (R : XExit → S → Prop)
    (hR : ∀ {x3 x4 x5 x6 x9 xA xB xC xD xE xF xG xH xI xJ xK xL xM xN xO xP xQ xR xS xT xU : Value} (h' : Heap) (q' : Option Addr) (c' : Nat) (vs' : List Value), OwnD h' eR 1 q' (i + 1) c' vs' → RowsAt h' 1 vs' ((setZ s a row).take (i + 1)) q' → (∀ b, blk q' b → 1 ≤ b) → h'.lo = 1 → 1 ≤ h'.next →
     @kR ⟨R⟩ .normal ⟨(F31 (Rw false eR s.length (trs s)) (.int .i64 a) (tmsV row) x3 x4 x5 x6 (.slice q' (i + 1) c') (.int .i64 i) x9 xA xB xC xD xE xF xG xH xI xJ xK xL xM xN xO xP xQ xR xS xT xU), [], h'⟩),
    dc3 (pp G) qq none ir55_s2 ⟨(F31 (Rw false eR s.length (trs s)) (.int .i64 a) (tmsV row) x3 x4 x5 x6 (.slice q i c) (.int .i64 i) (tmsV y) xA xB xC xD xE xF xG xH xI xJ xK xL xM xN xO xP xQ xR xS xT xU), [], h⟩ (@kR ⟨R⟩) := by
   intro y hy hr
   intros
   rename_i R hR
   rw [sd_ir55_s2]
   have hyl := hy.1
   obtain ⟨a1, c1, σ1, e1, o1, g1, b1⟩ := own_app (by_ := 120) (own0 (σ := h) (by omega)) (by omega) (by rw [lo_add, next_add]; omega) (m := y.length) (xs := tmCs y) (tmCs_len y) (tmCs_one y) (by omega)
   rw [Nat.zero_add, List.nil_append] at o1
   rw [Nat.zero_add] at e1
   have hn1 : h.next < σ1.next := by have := g1.next; rw [next_add] at this; omega
   have hlo1 : σ1.lo = h.lo := g1.lo.trans (lo_add _)
   have gr1 : Grew h σ1 fun _ => False := ⟨by omega, hlo1, fun j hj _ => (g1.get j (by rw [next_add]; omega) (fun ⟨o, s, e⟩ => by cases e; omega)).trans (get_add_n _ _ (by omega))⟩
   have hv1 : RowsAt σ1 1 vs ((setZ s a row).take i) q := hv.grew gr1 (fun _ h => h.elim)
   have ho1 : OwnD σ1 eR 1 q i c vs := ho.grew gr1 (fun _ _ h => h)
   obtain ⟨a2, c2, σ2, e2, o2, g2, b2⟩ := own_app (by_ := 24) ho1 (by omega) (by omega) (m := 1) (xs := [.slice a1 y.length c1]) rfl rfl (by omega)
   have hb1 : ∀ k, blk a1 k → h.next ≤ k ∧ k < σ1.next := fun k hk => by
    refine ⟨?_, (OwnD.lt o1 hk).2⟩
    rcases b1 k hk with ⟨o, s, e⟩ | hb
    ·cases e; omega
    ·rw [next_add] at hb; omega
   have hqlt : ∀ k, blk q k → k < h.next := fun k hk => (OwnD.lt ho hk).2
   have hn2 := g2.next
   have hlo2 := g2.lo
   have o1' : OwnD σ2 34 9 a1 y.length c1 (tmCs y) := o1.grew g2 (fun k hk hq => by have := (hb1 k hk).1; have := hqlt k hq; omega)
   have hv2 : RowsAt σ2 1 (vs ++ [.slice a1 y.length c1]) ((setZ s a row).take i ++ [y]) a2 := by
    have hv2 := hv1.grew g2 (fun _ h => h)
    refine ⟨by simp [hv2.1], fun j v w h1 h2 => ?_⟩
    by_cases hj : j < vs.length
    ·rw [List.getElem?_append_left hj] at h1
     rw [List.getElem?_append_left (by rw [← hv2.1]; exact hj)] at h2
     obtain ⟨b', c', e, h3, h4⟩ := hv2.2 j v w h1 h2
     obtain ⟨b'', c'', e', h3', _⟩ := hv1.2 j v w h1 h2
     rw [e] at e'
     cases e'
     refine ⟨b', c', e, h3, fun k hk => ⟨fun hk' => ?_, (h4 k hk).2⟩⟩
     rcases b2 _ hk' with hq | hq
     ·exact (h4 k hk).1 hq
     ·have := (OwnD.lt h3' hk).2; omega
    ·rw [List.getElem?_append_right (by omega)] at h1
     rw [List.getElem?_append_right (by rw [← hv2.1]; omega)] at h2
     rw [← hv2.1] at h2
     have hz : j - vs.length = 0 := by
      have := (List.getElem?_eq_some_iff.1 h1).1
      simp at this
      omega
     rw [hz] at h1 h2
     simp only [List.getElem?_cons_zero, Option.some.injEq] at h1 h2
     subst h1 h2
     refine ⟨a1, c1, rfl, o1', fun k hk => ⟨fun hk' => ?_, by have := (hb1 k hk).1; omega⟩⟩
     rcases b2 _ hk' with hq | hq
     ·have := hqlt k hq; have := (hb1 k hk).1; omega
     ·have := (hb1 k hk).2; omega
   unfold tmsV
   simp (disch:=first|omega|(refine id ?_;simp only[push_cast];try omega)) only [push_cast,simprocAttr,↓row0,e1,↓rowS1,e2]
   rw [← take_succ_get hr] at hv2
   exact hR σ2 a2 c2 _ o2 hv2 (fun k hk => by
    rcases b2 k hk with hq' | hq'
    ·exact hq k hq'
    ·omega) (by omega) (by omega)
  by_cases ha : (i : Int) = a
  ·subst ha
   simp (disch:=first|omega|(refine id ?_;simp only[push_cast];try omega)) only [push_cast,simprocAttr]
   unfold tmsV at key
   refine key row hrow (setZ_eq hx) _ ?_
   intros
   rename_i h' q' c' vs' o' v' q'' hl1' hl2'
   simp (disch:=first|omega|(refine id ?_;simp only[push_cast];try omega)) only [push_cast,simprocAttr]
   rw [sd_ir55_s3]
   simp (disch:=first|omega|(refine id ?_;simp only[push_cast];try omega)) only [push_cast,simprocAttr,hil]
   exact ⟨_, by omega, I55.mk (i + 1) _ _ _ _ _ (by first | rfl | omega) (by omega) o' v' q'' hl1' hl2'⟩
  ·simp (disch:=first|omega|(refine id ?_;simp only[push_cast];try omega)) only [push_cast,simprocAttr,ha]
   refine key x hxm (setZ_ne hx ha) _ ?_
   intros
   rename_i h' q' c' vs' o' v' q'' hl1' hl2'
   simp (disch:=first|omega|(refine id ?_;simp only[push_cast];try omega)) only [push_cast,simprocAttr]
   rw [sd_ir55_s3]
   simp (disch:=first|omega|(refine id ?_;simp only[push_cast];try omega)) only [push_cast,simprocAttr,hil]
   exact ⟨_, by omega, I55.mk (i + 1) _ _ _ _ _ (by first | rfl | omega) (by omega) o' v' q'' hl1' hl2'⟩
 ·have hie : i = s.length := by omega
  subst hie
  rw [List.take_of_length_le (by rw [setZ_len]; exact Nat.le_refl _)] at hv
  simp (disch:=first|omega|(refine id ?_;simp only[push_cast];try omega)) only [push_cast,simprocAttr,hil]
  rw [sd_ir55_s1]
  simp (disch:=first|omega|(refine id ?_;simp only[push_cast];try omega)) only [push_cast,simprocAttr]
  rw [← setZ_len s a row] at ho ⊢
  exact ho.fz rfl (by omega) (by rw [setZ_len]; omega) (hv.fz (by omega) (by omega) rfl fun w hw => ((smRows_set hs hrow).2 w hw).1) hq
end
end Go.Proofs.Ytgeakofgklcipaa
namespace Go.Proofs.Ytgeakofgklcipaa
open Go Go.RowKit Go.Ev Go.Dv
noncomputable section
set_option maxRecDepth 100000
variable (G : Nat × Nat)
theorem OwnD.flt {σ : Heap} {e n : Nat} {a : Option Addr} {len c : Nat} {cs : List Value} (ho : OwnD σ e n a len c cs) {p : Nat → Bool} (hp : ∀ b, blk a b → p b = true) : OwnD (hflt p σ) e n a len c cs := by
 refine ⟨ho.hlen, ho.hone, ?_⟩
 rcases ho.hat with h0 | ⟨b, m, ha, h1, h2, h3, h4⟩
 ·exact .inl h0
 ·exact .inr ⟨b, m, ha, h1, h2, (hflt_cells σ (hp b ⟨0, none, ha⟩)).trans h3, h4⟩
theorem raccept_f (s : List (List Tm)) (a : Int) (hs : smRows s) : CallF (pp G) H0 29 [trV s, .int .i64 a] (trV (setZ s a [])) := by
 have hlo : H0.lo ≤ H0.next := Nat.le_refl _; refine CallF.cut (CallD.fir4 (q := qq) (good G) fir29 ok_ir29 rfl rfl (F8_arr ..) (show NGG ≤ H0.lo by rw [H0_lo]; decide) ?_); rw [sd_ir29]
 simp (disch:=first|omega|(refine id ?_;simp only[push_cast];try omega)) only [push_cast,simprocAttr]
 refine CallVD.data (copied_f G s a [] hs smRow_nil) (by repeat' (first | exact FzL.nil | apply FzL.cons | exact FzV.id rfl | (refine FzV.id ?_; simp (disch:=first|omega|(refine id ?_;simp only[push_cast];try omega)) only [push_cast]; done) | exact nil_Tm .. | exact nil_Ex .. | exact nil_tr .. | exact nil_iv .. | exact nil_Pr .. | exact nil_ns .. | apply FzV.agg | apply FzV.row)) (by first | rfl | (simp (disch:=first|omega|(refine id ?_;simp only[push_cast];try omega)) only [push_cast])) (by first | rfl | (simp (disch:=first|omega|(refine id ?_;simp only[push_cast];try omega)) only [push_cast])) ?_
 simp (disch:=first|omega|(refine id ?_;simp only[push_cast];try omega)) only [push_cast,simprocAttr]
 exact .id (trV_sc _ H0q _)
end
end Go.Proofs.Ytgeakofgklcipaa
namespace Go.Proofs.Ytgeakofgklcipaa
open Go Go.RowKit Go.Ev Go.Dv
noncomputable section
set_option maxRecDepth 100000
variable (G : Nat × Nat)
end
end Go.Proofs.Ytgeakofgklcipaa
