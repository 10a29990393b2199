/-
  A part of the proof: what the program's functions hand back, as theorems. No condition but those that each theorem names.
-/
import Derived.Test.YtgeakofgklcipaaExa
import Derived.Test.YtgeakofgklcipaaEve
import Derived.Test.YtgeakofgklcipaaExb
set_option linter.unusedSimpArgs false
set_option linter.unusedVariables false
namespace Go.Proofs.Ytgeakofgklcipaa
open Go Go.RowKit Go.Ev Go.Dv
noncomputable section
set_option maxRecDepth 100000
def W (a : Int) : Int := IntKind.i64.wrap a
def In (a : Int) : Prop := -9223372036854775808 ≤ a ∧ a ≤ 9223372036854775807
theorem W_in {a : Int} (h : In a) : W a = a := by
 unfold In at h
 unfold W; rw [IntKind.wrap_i64]; omega
theorem H0p : 0 < H0.lo := by rw [jT]; omega
theorem H0q : 0 < H0.next := by rw [gM]; omega
abbrev eI : Nat := 3
def ivs (l : List Int) : List Value := l.map (Value.int .i64)
def ivV (l : List Int) : Value := Rw false eI l.length (ivs l)
theorem ivs_len (l : List Int) : (ivs l).length = l.length := by simp [ivs]
theorem ivs_sc (n : Nat) : ∀ l : List Int, scL n (ivs l) = true
 | [] => rfl
 | x :: l => by
  have := ivs_sc n l
  simp only [ivs] at this
  simp [ivs, scL, sc, this]
theorem ivR_sc (n : Nat) (hn : 0 < n) (k : Nat) (f : Bool) (l : List Int) : sc n (Rw f eI k (ivs l)) = true := by
 have := ivs_sc n l
 simp [sc, Rw, scL, this, hn]
theorem ivV_sc (n : Nat) (hn : 0 < n) (l : List Int) : sc n (ivV l) = true := ivR_sc n hn ..
theorem ivs_get' {l : List Int} {i : Nat} (h : i < l.length) : (ivs l)[i]? = some (.int .i64 (l.getD i 0)) := by simp [ivs, h]
theorem ivs_app (a b : List Int) : ivs (a ++ b) = ivs a ++ ivs b := by simp [ivs]
abbrev eS : Nat := 9
def nss (l : List (List UInt8)) : List Value := l.map fun s => Value.string (Tx s)
def nsV (l : List (List UInt8)) : Value := Rw false eS l.length (nss l)
theorem nss_len (l : List (List UInt8)) : (nss l).length = l.length := by simp [nss]
theorem nss_sc (n : Nat) : ∀ l : List (List UInt8), scL n (nss l) = true
 | [] => rfl
 | x :: l => by
  have := nss_sc n l
  simp only [nss] at this
  simp [nss, scL, sc, this]
theorem nsR_sc (n : Nat) (hn : 0 < n) (k : Nat) (f : Bool) (l : List (List UInt8)) : sc n (Rw f eS k (nss l)) = true := by
 have := nss_sc n l
 simp [sc, Rw, scL, this, hn]
theorem nsV_sc (n : Nat) (hn : 0 < n) (l : List (List UInt8)) : sc n (nsV l) = true := nsR_sc n hn ..
theorem nss_get {l : List (List UInt8)} {i : Nat} (h : i < l.length) : (nss l)[i]? = some (.string (Tx (l.getD i []))) := by simp [nss, h]
theorem nss_app (a b : List (List UInt8)) : nss (a ++ b) = nss a ++ nss b := by simp [nss]
abbrev eB : Nat := 4
def bvs (l : List Bool) : List Value := l.map Value.bool
def bvV (l : List Bool) : Value := Rw false eB l.length (bvs l)
theorem bvs_len (l : List Bool) : (bvs l).length = l.length := by simp [bvs]
theorem bvs_sc (n : Nat) : ∀ l : List Bool, scL n (bvs l) = true
 | [] => rfl
 | x :: l => by
  have := bvs_sc n l
  simp only [bvs] at this
  simp [bvs, scL, sc, this]
theorem bvR_sc (n : Nat) (hn : 0 < n) (k : Nat) (f : Bool) (l : List Bool) : sc n (Rw f eB k (bvs l)) = true := by
 have := bvs_sc n l
 simp [sc, Rw, scL, this, hn]
theorem bvs_one : ∀ l : List Bool, (bvs l).all one = true
 | [] => rfl
 | x :: l => by
  have := bvs_one l
  simp only [bvs] at this
  simp [bvs, one]
theorem bvs_get {l : List Bool} {i : Nat} (h : i < l.length) : (bvs l)[i]? = some (.bool (l.getD i false)) := by simp [bvs, h]
@[push_cast]theorem sc_nil (n a b : Nat) : sc n (.slice none a b) = true := rfl
theorem sc_agg (n : Nat) (l : List Value) : sc n (.agg ⟨l⟩) = scL n l := rfl
theorem sc_int (n : Nat) (k : IntKind) (i : Int) : sc n (.int k i) = true := rfl
theorem sc_str (n : Nat) (s : ByteArray) : sc n (.string s) = true := rfl
attribute [push_cast] sc_agg sc_int sc_str
@[push_cast]theorem sc_fn (n f : Nat) : sc n (.func (.func f) #[] #[]) = true := rfl
attribute [push_cast] ivs_len ivs_sc ivR_sc ivV_sc nss_len nss_sc nsR_sc nsV_sc bvs_len bvs_sc bvR_sc bvs_one b_neqs b_eqls Int.toNat_zero Int.toNat_one Int.natCast_one jT gM
def jP (a n : Int) : Int := if a.tmod n < 0 then a.tmod n + n else a.tmod n
theorem qJ {a n : Int} (hn : 0 < n) : 0 ≤ jP a n ∧ jP a n < n := by
 have h1 : (a.tmod n).natAbs = a.natAbs % n.natAbs := Int.natAbs_tmod a n
 have h2 : a.natAbs % n.natAbs < n.natAbs := Nat.mod_lt _ (by omega)
 unfold jP
 split <;> omega
inductive Ex where
 | mk (k : Int) (n : Int) (s : List UInt8) (l : List Ex)
abbrev eE : Nat := 31
mutual
def exC : Ex → List Value
 | .mk k n s l => [.int .i64 k, .int .i64 n, .string (Tx s), Rw false eE l.length (uX l)]
def uX : List Ex → List Value
 | [] => []
 | x :: l => exC x ++ uX l
end
def exV (x : Ex) : Value := .agg ⟨exC x⟩
def exsV (l : List Ex) : Value := Rw false eE l.length (uX l)
theorem exC_mk (k : Int) (n : Int) (s : List UInt8) (l : List Ex) : exC (.mk k n s l) = [.int .i64 k, .int .i64 n, .string (Tx s), Rw false eE l.length (uX l)] := rfl
theorem exC_len (x : Ex) : (exC x).length = 4 := by cases x; simp [exC]
theorem exCs_len : ∀ l : List Ex, (uX l).length = l.length * 4
 | [] => rfl
 | x :: l => by rw [uX, List.length_append, exC_len, exCs_len l, List.length_cons]; omega
theorem exC_one : ∀ x : Ex, (exC x).all one = true
 | .mk k n s l => by simp [exC, one, Rw]
theorem exCs_one : ∀ l : List Ex, (uX l).all one = true
 | [] => rfl
 | x :: l => by rw [uX, List.all_append, exC_one x, exCs_one l]; rfl
mutual
theorem exC_sc (nn : Nat) (hn : 0 < nn) : ∀ x : Ex, scL nn (exC x) = true
 | .mk k n s l => by
  have := exCs_sc nn hn l
  simp [exC, scL, Ev.sc, Rw, hn,  *]
theorem exCs_sc (nn : Nat) (hn : 0 < nn) : ∀ l : List Ex, scL nn (uX l) = true
 | [] => rfl
 | x :: l => by
  rw [uX]
  exact jV fun v hv => (List.mem_append.1 hv).elim (jX (exC_sc nn hn x) v) (jX (exCs_sc nn hn l) v)
end
theorem exV_sc (n : Nat) (hn : 0 < n) (x : Ex) : Ev.sc n (exV x) = true := exC_sc n hn x
theorem exR_sc (n : Nat) (hn : 0 < n) (k : Nat) (f : Bool) (l : List Ex) : Ev.sc n (Rw f eE k (uX l)) = true := by
 have := exCs_sc n hn l
 simp [Ev.sc, Rw, scL, this, hn]
theorem exsV_sc (n : Nat) (hn : 0 < n) (l : List Ex) : Ev.sc n (exsV l) = true := exR_sc n hn ..
theorem exCs_app : ∀ (a b : List Ex), uX (a ++ b) = uX a ++ uX b
 | [], b => rfl
 | x :: a, b => by rw [List.cons_append, uX, exCs_app a b, uX, List.append_assoc]
theorem exCs_1 (x : Ex) : uX [x] = exC x := by rw [uX, uX, List.append_nil]
theorem exCs_drop : ∀ (l : List Ex) (i : Nat), (uX l).drop (i * 4) = uX (l.drop i)
 | l, 0 => by simp
 | [], i + 1 => by simp [uX]
 | x :: l, i + 1 => by
  rw [uX, List.drop_succ_cons, ← exCs_drop l i, Nat.add_mul, Nat.one_mul, Nat.add_comm, ← List.drop_drop, List.drop_append_of_le_length (by rw [exC_len]; exact Nat.le_refl _), show (exC x).drop 4 = [] from List.drop_of_length_le (by rw [exC_len]; exact Nat.le_refl _), List.nil_append]
theorem exCs_take {l : List Ex} {i : Nat} {x : Ex} (h : l[i]? = some x) : ((uX l).drop (i * 4)).take 4 = exC x := by
 have hi : i < l.length := (List.getElem?_eq_some_iff.1 h).1
 have hd : l.drop i = x :: l.drop (i + 1) := by rw [List.drop_eq_getElem_cons hi]; congr 1; exact (List.getElem?_eq_some_iff.1 h).2
 rw [exCs_drop, hd, uX, List.take_append_of_le_length (by rw [exC_len]; exact Nat.le_refl _), List.take_of_length_le (by rw [exC_len]; exact Nat.le_refl _)]
theorem exV_fold (x : Ex) : Value.agg ⟨exC x⟩ = exV x := rfl
theorem exV_cells (x : Ex) : (exV x).cells.toList = exC x := rfl
theorem exC_take (x : Ex) : (exC x).take 4 = exC x := List.take_of_length_le (by rw [exC_len]; exact Nat.le_refl _)
attribute [push_cast] exC_mk exCs_len exV_fold exCs_sc exV_sc exsV_sc exR_sc exC_sc exCs_one exC_one exV_cells exC_take exC_len
def Ex.k : Ex → Int | .mk k _ _ _ => k
def Ex.n : Ex → Int | .mk _ n _ _ => n
def Ex.s : Ex → List UInt8 | .mk _ _ s _ => s
def Ex.l : Ex → List Ex | .mk _ _ _ l => l
theorem Ex.k_mk (k n : Int) (s : List UInt8) (l : List Ex) : Ex.k (.mk k n s l) = k := rfl
theorem Ex.n_mk (k n : Int) (s : List UInt8) (l : List Ex) : Ex.n (.mk k n s l) = n := rfl
theorem Ex.s_mk (k n : Int) (s : List UInt8) (l : List Ex) : Ex.s (.mk k n s l) = s := rfl
theorem Ex.l_mk (k n : Int) (s : List UInt8) (l : List Ex) : Ex.l (.mk k n s l) = l := rfl
theorem exC_of (x : Ex) : exC x = [.int .i64 x.k, .int .i64 x.n, .string (Tx x.s), Rw false eE x.l.length (uX x.l)] := by cases x; rfl
theorem exV_of (x : Ex) : Value.agg ⟨[.int .i64 x.k, .int .i64 x.n, .string (Tx x.s), Rw false eE x.l.length (uX x.l)]⟩ = exV x := by cases x; rfl
attribute [push_cast] Ex.k_mk Ex.n_mk Ex.s_mk Ex.l_mk exV_of
inductive Tm where
 | mk (k : Int) (a : Int) (b : Int) (s : List UInt8) (e : Ex) (l : List Tm)
abbrev etm : Nat := 34
mutual
def tmC : Tm → List Value
 | .mk k a b s e l => [.int .i64 k, .int .i64 a, .int .i64 b, .string (Tx s), .int .i64 e.k, .int .i64 e.n, .string (Tx e.s), Rw false eE e.l.length (uX e.l), Rw false etm l.length (qD l)]
def qD : List Tm → List Value
 | [] => []
 | x :: l => tmC x ++ qD l
end
def tmV (x : Tm) : Value := .agg ⟨tmC x⟩
def qF (l : List Tm) : Value := Rw false etm l.length (qD l)
theorem tmC_mk (k : Int) (a : Int) (b : Int) (s : List UInt8) (e : Ex) (l : List Tm) : tmC (.mk k a b s e l) = [.int .i64 k, .int .i64 a, .int .i64 b, .string (Tx s), .int .i64 e.k, .int .i64 e.n, .string (Tx e.s), Rw false eE e.l.length (uX e.l), Rw false etm l.length (qD l)] := rfl
theorem tmC_len (x : Tm) : (tmC x).length = 9 := by cases x; simp [tmC]
theorem qO : ∀ l : List Tm, (qD l).length = l.length * 9
 | [] => rfl
 | x :: l => by rw [qD, List.length_append, tmC_len, qO l, List.length_cons]; omega
theorem tmC_one : ∀ x : Tm, (tmC x).all one = true
 | .mk k a b s e l => by simp [tmC, one, Rw]
theorem kJ : ∀ l : List Tm, (qD l).all one = true
 | [] => rfl
 | x :: l => by rw [qD, List.all_append, tmC_one x, kJ l]; rfl
mutual
theorem tmC_sc (nn : Nat) (hn : 0 < nn) : ∀ x : Tm, scL nn (tmC x) = true
 | .mk k a b s e l => by
  have := gI nn hn l
  simp [tmC, scL, Ev.sc, Rw, hn, exCs_sc,  *]
theorem gI (nn : Nat) (hn : 0 < nn) : ∀ l : List Tm, scL nn (qD l) = true
 | [] => rfl
 | x :: l => by
  rw [qD]
  exact jV fun v hv => (List.mem_append.1 hv).elim (jX (tmC_sc nn hn x) v) (jX (gI nn hn l) v)
end
theorem tmV_sc (n : Nat) (hn : 0 < n) (x : Tm) : Ev.sc n (tmV x) = true := tmC_sc n hn x
theorem tmR_sc (n : Nat) (hn : 0 < n) (k : Nat) (f : Bool) (l : List Tm) : Ev.sc n (Rw f etm k (qD l)) = true := by
 have := gI n hn l
 simp [Ev.sc, Rw, scL, this, hn]
theorem tmsV_sc (n : Nat) (hn : 0 < n) (l : List Tm) : Ev.sc n (qF l) = true := tmR_sc n hn ..
theorem gR : ∀ (a b : List Tm), qD (a ++ b) = qD a ++ qD b
 | [], b => rfl
 | x :: a, b => by rw [List.cons_append, qD, gR a b, qD, List.append_assoc]
theorem tmCs_1 (x : Tm) : qD [x] = tmC x := by rw [qD, qD, List.append_nil]
theorem tmCs_drop : ∀ (l : List Tm) (i : Nat), (qD l).drop (i * 9) = qD (l.drop i)
 | l, 0 => by simp
 | [], i + 1 => by simp [qD]
 | x :: l, i + 1 => by
  rw [qD, List.drop_succ_cons, ← tmCs_drop l i, Nat.add_mul, Nat.one_mul, Nat.add_comm, ← List.drop_drop, List.drop_append_of_le_length (by rw [tmC_len]; exact Nat.le_refl _), show (tmC x).drop 9 = [] from List.drop_of_length_le (by rw [tmC_len]; exact Nat.le_refl _), List.nil_append]
theorem qY {l : List Tm} {i : Nat} {x : Tm} (h : l[i]? = some x) : ((qD l).drop (i * 9)).take 9 = tmC x := by
 have hi : i < l.length := (List.getElem?_eq_some_iff.1 h).1
 have hd : l.drop i = x :: l.drop (i + 1) := by rw [List.drop_eq_getElem_cons hi]; congr 1; exact (List.getElem?_eq_some_iff.1 h).2
 rw [tmCs_drop, hd, qD, List.take_append_of_le_length (by rw [tmC_len]; exact Nat.le_refl _), List.take_of_length_le (by rw [tmC_len]; exact Nat.le_refl _)]
theorem tmV_fold (x : Tm) : Value.agg ⟨tmC x⟩ = tmV x := rfl
theorem tmV_cells (x : Tm) : (tmV x).cells.toList = tmC x := rfl
theorem tmC_take (x : Tm) : (tmC x).take 9 = tmC x := List.take_of_length_le (by rw [tmC_len]; exact Nat.le_refl _)
theorem tmCs_p0 (x : Tm) (l : List Tm) : (qD (x :: l)).take 9 = tmC x := qY (l := x :: l) (i := 0) rfl
attribute [push_cast] tmC_mk qO tmV_fold gI tmV_sc tmsV_sc tmR_sc tmC_sc kJ tmC_one tmV_cells tmC_take tmC_len tmCs_p0
def Tm.k : Tm → Int | .mk k _ _ _ _ _ => k
def Tm.a : Tm → Int | .mk _ a _ _ _ _ => a
def Tm.b : Tm → Int | .mk _ _ b _ _ _ => b
def Tm.s : Tm → List UInt8 | .mk _ _ _ s _ _ => s
def Tm.e : Tm → Ex | .mk _ _ _ _ e _ => e
def Tm.l : Tm → List Tm | .mk _ _ _ _ _ l => l
theorem Tm.k_mk (k a b : Int) (s : List UInt8) (e : Ex) (l : List Tm) : Tm.k (.mk k a b s e l) = k := rfl
theorem Tm.l_mk (k a b : Int) (s : List UInt8) (e : Ex) (l : List Tm) : Tm.l (.mk k a b s e l) = l := rfl
inductive Pr where
 | mk (k : Int) (n : List UInt8) (t : List UInt8) (e : Ex) (l : List Pr)
abbrev epr : Nat := 77
mutual
def prC : Pr → List Value
 | .mk k n t e l => [.int .i64 k, .string (Tx n), .string (Tx t), .int .i64 e.k, .int .i64 e.n, .string (Tx e.s), Rw false eE e.l.length (uX e.l), Rw false epr l.length (prCs l)]
def prCs : List Pr → List Value
 | [] => []
 | x :: l => prC x ++ prCs l
end
def prV (x : Pr) : Value := .agg ⟨prC x⟩
def prsV (l : List Pr) : Value := Rw false epr l.length (prCs l)
theorem prC_mk (k : Int) (n : List UInt8) (t : List UInt8) (e : Ex) (l : List Pr) : prC (.mk k n t e l) = [.int .i64 k, .string (Tx n), .string (Tx t), .int .i64 e.k, .int .i64 e.n, .string (Tx e.s), Rw false eE e.l.length (uX e.l), Rw false epr l.length (prCs l)] := rfl
theorem gL (x : Pr) : (prC x).length = 8 := by cases x; simp [prC]
theorem prCs_len : ∀ l : List Pr, (prCs l).length = l.length * 8
 | [] => rfl
 | x :: l => by rw [prCs, List.length_append, gL, prCs_len l, List.length_cons]; omega
theorem prC_one : ∀ x : Pr, (prC x).all one = true
 | .mk k n t e l => by simp [prC, one, Rw]
mutual
theorem prC_sc (nn : Nat) (hn : 0 < nn) : ∀ x : Pr, scL nn (prC x) = true
 | .mk k n t e l => by
  have := prCs_sc nn hn l
  simp [prC, scL, Ev.sc, Rw, hn, exCs_sc,  *]
theorem prCs_sc (nn : Nat) (hn : 0 < nn) : ∀ l : List Pr, scL nn (prCs l) = true
 | [] => rfl
 | x :: l => by
  rw [prCs]
  exact jV fun v hv => (List.mem_append.1 hv).elim (jX (prC_sc nn hn x) v) (jX (prCs_sc nn hn l) v)
end
theorem prV_sc (n : Nat) (hn : 0 < n) (x : Pr) : Ev.sc n (prV x) = true := prC_sc n hn x
theorem prCs_1 (x : Pr) : prCs [x] = prC x := by rw [prCs, prCs, List.append_nil]
theorem prCs_drop : ∀ (l : List Pr) (i : Nat), (prCs l).drop (i * 8) = prCs (l.drop i)
 | l, 0 => by simp
 | [], i + 1 => by simp [prCs]
 | x :: l, i + 1 => by
  rw [prCs, List.drop_succ_cons, ← prCs_drop l i, Nat.add_mul, Nat.one_mul, Nat.add_comm, ← List.drop_drop, List.drop_append_of_le_length (by rw [gL]; exact Nat.le_refl _), show (prC x).drop 8 = [] from List.drop_of_length_le (by rw [gL]; exact Nat.le_refl _), List.nil_append]
theorem prCs_take {l : List Pr} {i : Nat} {x : Pr} (h : l[i]? = some x) : ((prCs l).drop (i * 8)).take 8 = prC x := by
 have hi : i < l.length := (List.getElem?_eq_some_iff.1 h).1
 have hd : l.drop i = x :: l.drop (i + 1) := by rw [List.drop_eq_getElem_cons hi]; congr 1; exact (List.getElem?_eq_some_iff.1 h).2
 rw [prCs_drop, hd, prCs, List.take_append_of_le_length (by rw [gL]; exact Nat.le_refl _), List.take_of_length_le (by rw [gL]; exact Nat.le_refl _)]
theorem prV_fold (x : Pr) : Value.agg ⟨prC x⟩ = prV x := rfl
theorem prV_cells (x : Pr) : (prV x).cells.toList = prC x := rfl
theorem prC_take (x : Pr) : (prC x).take 8 = prC x := List.take_of_length_le (by rw [gL]; exact Nat.le_refl _)
theorem prCs_p0 (x : Pr) (l : List Pr) : (prCs (x :: l)).take 8 = prC x := prCs_take (l := x :: l) (i := 0) rfl
theorem prCs_p1 (x y : Pr) (l : List Pr) : ((prCs (x :: y :: l)).drop 8).take 8 = prC y := prCs_take (l := x :: y :: l) (i := 1) rfl
attribute [push_cast] prC_mk prCs_len prV_fold prCs_sc prV_sc prC_sc prC_one prV_cells prC_take gL prCs_p0 prCs_p1
inductive Ra where
 | mk (k : Int) (n : Int) (l : List Ra)
abbrev era : Nat := 133
mutual
def raC : Ra → List Value
 | .mk k n l => [.int .i64 k, .int .i64 n, Rw false era l.length (raCs l)]
def raCs : List Ra → List Value
 | [] => []
 | x :: l => raC x ++ raCs l
end
def raV (x : Ra) : Value := .agg ⟨raC x⟩
def rasV (l : List Ra) : Value := Rw false era l.length (raCs l)
theorem raC_mk (k : Int) (n : Int) (l : List Ra) : raC (.mk k n l) = [.int .i64 k, .int .i64 n, Rw false era l.length (raCs l)] := rfl
theorem raC_len (x : Ra) : (raC x).length = 3 := by cases x; simp [raC]
theorem raCs_len : ∀ l : List Ra, (raCs l).length = l.length * 3
 | [] => rfl
 | x :: l => by rw [raCs, List.length_append, raC_len, raCs_len l, List.length_cons]; omega
theorem raC_one : ∀ x : Ra, (raC x).all one = true
 | .mk k n l => by simp [raC, one, Rw]
mutual
theorem raC_sc (nn : Nat) (hn : 0 < nn) : ∀ x : Ra, scL nn (raC x) = true
 | .mk k n l => by
  have := raCs_sc nn hn l
  simp [raC, scL, Ev.sc, Rw, hn,  *]
theorem raCs_sc (nn : Nat) (hn : 0 < nn) : ∀ l : List Ra, scL nn (raCs l) = true
 | [] => rfl
 | x :: l => by
  rw [raCs]
  exact jV fun v hv => (List.mem_append.1 hv).elim (jX (raC_sc nn hn x) v) (jX (raCs_sc nn hn l) v)
end
theorem raV_sc (n : Nat) (hn : 0 < n) (x : Ra) : Ev.sc n (raV x) = true := raC_sc n hn x
theorem raR_sc (n : Nat) (hn : 0 < n) (k : Nat) (f : Bool) (l : List Ra) : Ev.sc n (Rw f era k (raCs l)) = true := by
 have := raCs_sc n hn l
 simp [Ev.sc, Rw, scL, this, hn]
theorem rasV_sc (n : Nat) (hn : 0 < n) (l : List Ra) : Ev.sc n (rasV l) = true := raR_sc n hn ..
theorem raCs_drop : ∀ (l : List Ra) (i : Nat), (raCs l).drop (i * 3) = raCs (l.drop i)
 | l, 0 => by simp
 | [], i + 1 => by simp [raCs]
 | x :: l, i + 1 => by
  rw [raCs, List.drop_succ_cons, ← raCs_drop l i, Nat.add_mul, Nat.one_mul, Nat.add_comm, ← List.drop_drop, List.drop_append_of_le_length (by rw [raC_len]; exact Nat.le_refl _), show (raC x).drop 3 = [] from List.drop_of_length_le (by rw [raC_len]; exact Nat.le_refl _), List.nil_append]
theorem raCs_take {l : List Ra} {i : Nat} {x : Ra} (h : l[i]? = some x) : ((raCs l).drop (i * 3)).take 3 = raC x := by
 have hi : i < l.length := (List.getElem?_eq_some_iff.1 h).1
 have hd : l.drop i = x :: l.drop (i + 1) := by rw [List.drop_eq_getElem_cons hi]; congr 1; exact (List.getElem?_eq_some_iff.1 h).2
 rw [raCs_drop, hd, raCs, List.take_append_of_le_length (by rw [raC_len]; exact Nat.le_refl _), List.take_of_length_le (by rw [raC_len]; exact Nat.le_refl _)]
theorem raCs_get {l : List Ra} {i j : Nat} {x : Ra} {v : Value} (h : l[i]? = some x) (hj : j < 3) (hv : (raC x)[j]? = some v) : (raCs l)[i * 3 + j]? = some v := by
 have h1 := raCs_take h
 rw [← h1, List.getElem?_take_of_lt hj, List.getElem?_drop] at hv
 exact hv
theorem raV_fold (x : Ra) : Value.agg ⟨raC x⟩ = raV x := rfl
theorem raV_cells (x : Ra) : (raV x).cells.toList = raC x := rfl
attribute [push_cast] raC_mk raCs_len raV_fold raCs_sc raV_sc rasV_sc raR_sc raC_sc raC_one raV_cells raC_len
inductive Rb where
 | mk (k : Int) (a : Int) (b : Int) (e : List Ra) (l : List Rb)
abbrev erb : Nat := 38
mutual
def rbC : Rb → List Value
 | .mk k a b e l => [.int .i64 k, .int .i64 a, .int .i64 b, Rw false era e.length (raCs e), Rw false erb l.length (rbCs l)]
def rbCs : List Rb → List Value
 | [] => []
 | x :: l => rbC x ++ rbCs l
end
def rbV (x : Rb) : Value := .agg ⟨rbC x⟩
def rbsV (l : List Rb) : Value := Rw false erb l.length (rbCs l)
theorem rbC_mk (k : Int) (a : Int) (b : Int) (e : List Ra) (l : List Rb) : rbC (.mk k a b e l) = [.int .i64 k, .int .i64 a, .int .i64 b, Rw false era e.length (raCs e), Rw false erb l.length (rbCs l)] := rfl
theorem rbC_len (x : Rb) : (rbC x).length = 5 := by cases x; simp [rbC]
theorem rbCs_len : ∀ l : List Rb, (rbCs l).length = l.length * 5
 | [] => rfl
 | x :: l => by rw [rbCs, List.length_append, rbC_len, rbCs_len l, List.length_cons]; omega
theorem rbC_one : ∀ x : Rb, (rbC x).all one = true
 | .mk k a b e l => by simp [rbC, one, Rw]
mutual
theorem rbC_sc (nn : Nat) (hn : 0 < nn) : ∀ x : Rb, scL nn (rbC x) = true
 | .mk k a b e l => by
  have := rbCs_sc nn hn l
  simp [rbC, scL, Ev.sc, Rw, hn, raCs_sc,  *]
theorem rbCs_sc (nn : Nat) (hn : 0 < nn) : ∀ l : List Rb, scL nn (rbCs l) = true
 | [] => rfl
 | x :: l => by
  rw [rbCs]
  exact jV fun v hv => (List.mem_append.1 hv).elim (jX (rbC_sc nn hn x) v) (jX (rbCs_sc nn hn l) v)
end
theorem rbV_sc (n : Nat) (hn : 0 < n) (x : Rb) : Ev.sc n (rbV x) = true := rbC_sc n hn x
theorem rbR_sc (n : Nat) (hn : 0 < n) (k : Nat) (f : Bool) (l : List Rb) : Ev.sc n (Rw f erb k (rbCs l)) = true := by
 have := rbCs_sc n hn l
 simp [Ev.sc, Rw, scL, this, hn]
theorem rbsV_sc (n : Nat) (hn : 0 < n) (l : List Rb) : Ev.sc n (rbsV l) = true := rbR_sc n hn ..
theorem rbCs_1 (x : Rb) : rbCs [x] = rbC x := by rw [rbCs, rbCs, List.append_nil]
theorem rbCs_drop : ∀ (l : List Rb) (i : Nat), (rbCs l).drop (i * 5) = rbCs (l.drop i)
 | l, 0 => by simp
 | [], i + 1 => by simp [rbCs]
 | x :: l, i + 1 => by
  rw [rbCs, List.drop_succ_cons, ← rbCs_drop l i, Nat.add_mul, Nat.one_mul, Nat.add_comm, ← List.drop_drop, List.drop_append_of_le_length (by rw [rbC_len]; exact Nat.le_refl _), show (rbC x).drop 5 = [] from List.drop_of_length_le (by rw [rbC_len]; exact Nat.le_refl _), List.nil_append]
theorem rbCs_take {l : List Rb} {i : Nat} {x : Rb} (h : l[i]? = some x) : ((rbCs l).drop (i * 5)).take 5 = rbC x := by
 have hi : i < l.length := (List.getElem?_eq_some_iff.1 h).1
 have hd : l.drop i = x :: l.drop (i + 1) := by rw [List.drop_eq_getElem_cons hi]; congr 1; exact (List.getElem?_eq_some_iff.1 h).2
 rw [rbCs_drop, hd, rbCs, List.take_append_of_le_length (by rw [rbC_len]; exact Nat.le_refl _), List.take_of_length_le (by rw [rbC_len]; exact Nat.le_refl _)]
theorem rbCs_get {l : List Rb} {i j : Nat} {x : Rb} {v : Value} (h : l[i]? = some x) (hj : j < 5) (hv : (rbC x)[j]? = some v) : (rbCs l)[i * 5 + j]? = some v := by
 have h1 := rbCs_take h
 rw [← h1, List.getElem?_take_of_lt hj, List.getElem?_drop] at hv
 exact hv
theorem rbV_fold (x : Rb) : Value.agg ⟨rbC x⟩ = rbV x := rfl
theorem rbV_cells (x : Rb) : (rbV x).cells.toList = rbC x := rfl
attribute [push_cast] rbC_mk rbCs_len rbV_fold rbCs_sc rbV_sc rbsV_sc rbR_sc rbC_sc rbC_one rbV_cells rbC_len
theorem nil_Tm (G : Nat × Nat) (n : Nat) (σ : jA) : FzV (pp G).P n σ (.slice none 0 0) (qF []) := .nil (size := 9) rfl (by decide)
theorem nil_Ex (G : Nat × Nat) (n : Nat) (σ : jA) : FzV (pp G).P n σ (.slice none 0 0) (exsV []) := .nil (size := 4) rfl (by decide)
theorem nil_Pr (G : Nat × Nat) (n : Nat) (σ : jA) : FzV (pp G).P n σ (.slice none 0 0) (prsV []) := .nil (size := 8) rfl (by decide)
theorem nil_iv (G : Nat × Nat) (n : Nat) (σ : jA) : FzV (pp G).P n σ (.slice none 0 0) (ivV []) := .nil (size := 1) rfl (by decide)
theorem nil_ns (G : Nat × Nat) (n : Nat) (σ : jA) : FzV (pp G).P n σ (.slice none 0 0) (nsV []) := .nil (size := 1) rfl (by decide)
end
end Go.Proofs.Ytgeakofgklcipaa
namespace Go.Proofs.Ytgeakofgklcipaa
open Go Go.RowKit Go.Ev Go.Dv
noncomputable section
set_option maxRecDepth 100000
variable (G : Nat × Nat)
theorem fill_step {A c z : List Value} {w k off : Nat} (hA : A.length = off) (hz : z.length = w) : (A ++ (List.replicate (k + 1) z).flatten).take off ++ c ++ (A ++ (List.replicate (k + 1) z).flatten).drop (off + w) = (A ++ c) ++ (List.replicate k z).flatten := by
 subst hA
 rw [List.take_left, List.drop_append, List.drop_of_length_le (by omega), List.nil_append, Nat.add_sub_cancel_left, List.replicate_succ, List.flatten_cons, List.drop_append, List.drop_of_length_le (by omega), List.nil_append, hz, Nat.sub_self, List.drop_zero]
theorem fill_len {A z : List Value} {w k off n : Nat} (hA : A.length = off) (hz : z.length = w) (hn : off + k * w = n) : (A ++ (List.replicate k z).flatten).length = n := by
 rw [List.length_append, List.length_flatten, List.map_replicate, List.sum_replicate_nat, hA, hz, hn]
theorem jU {α : Type} {l : List α} {i : Nat} {x : α} (h : l[i]? = some x) : l.take (i + 1) = l.take i ++ [x] := by
 rw [List.take_add_one, h]; rfl
theorem jN {α : Type} {l : List α} {i : Nat} (h : i < l.length) : ∃ x, l[i]? = some x := ⟨_, List.getElem?_eq_getElem h⟩
def zex : List Value := [.int .i64 0, .int .i64 0, .string (Tx []), .slice none 0 0]
inductive ILex (l : List Ex) (fv : Value) : Nat → S → Prop
 | mk (i : Nat) (iv : Int) (h : jA) {x0 x2 x3 x4 x6 x7 x8 x9 xA xB xC xD xH xI xJ xK xL xM xN xO xP xQ xR xS : Value} (hiv : iv = (i : Int)) (hi : i ≤ l.length) (c1 : cells h 1 = some (uX (l.take i) ++ (List.replicate (l.length - i) zex).flatten, 31, false)) (hl1 : h.lo = 1) (hl2 : 2 ≤ h.next) :
  ILex l fv (l.length - i) ⟨(F29 x0 fv x2 x3 x4 (.slice (some ⟨1, 0, none⟩) l.length l.length) x6 x7 x8 x9 xA xB xC xD (Rw false eE l.length (uX l)) (.int .i64 l.length) (.int .i64 iv) xH xI xJ xK xL xM xN xO xP xQ xR xS), [], h⟩
theorem listex_f (l : List Ex) (f : FuncId) (hll : l.length < 100000000000) (hf : ∀ x ∈ l, jH (pp G) H0 f [exV x] (exV x)) : jH (pp G) H0 88 [exsV l, .func (.func f) #[] #[]] (exsV l) := by
 have hlo : H0.lo ≤ H0.next := Nat.le_refl _; refine jH.cut (jJ.fir4 (q := qq) (jM G) fir88 (by kernel_rfl) rfl rfl (F29_arr ..) (show NGG ≤ H0.lo by rw [jT]; decide) ?_); rw [sd_ir88]
 unfold exsV
 by_cases h0 : l.length = 0
 ·have h0' : (l.length : Int) = 0 := by omega
  obtain rfl : l = [] := List.length_eq_zero_iff.1 h0
  simp (disch:=first|omega|(refine id ?_;simp only[push_cast];try omega)) only [push_cast,simprocAttr,h0']
  exact .nil (size := 4) rfl (by decide)
 have h0' : ¬ (l.length : Int) = 0 := by omega
 have h1 : (l.length : Int) * 400 + l.length < 100000000000000 := by omega
 simp (disch:=first|omega|(refine id ?_;simp only[push_cast];try omega)) only [push_cast,simprocAttr,h0',h1]
 refine WD.loop4 (q := qq) (jM G) (by kernel_rfl) (ILex l (.func (.func f) #[] #[])) ?_ _ _ (ILex.mk 0 0 _ rfl (Nat.zero_le _) (by simp (disch:=first|omega|(refine id ?_;simp only[push_cast];try omega)) only [push_cast,simprocAttr,List.take_zero]; rfl) rfl (by first | assumption | (simp (disch:=first|omega|(refine id ?_;simp only[push_cast];try omega)) only [push_cast,simprocAttr]; try omega)))
 intro m s1 hI
 cases hI with | mk i iv h hiv hi c1 hl1 hl2 =>
 subst hiv
 rw [sd_ir88_s0]
 by_cases hil : (i : Int) < l.length
 ·obtain ⟨x, hx⟩ := jN (l := l) (i := i) (by omega)
  have hxm := List.mem_of_getElem? hx
  have hp := exCs_take hx
  have hle : i * 4 + 4 ≤ l.length * 4 := by omega
  simp (disch:=first|omega|(refine id ?_;simp only[push_cast];try omega)) only [push_cast,simprocAttr,hil,Int.toNat_natCast,hp,hle,hl1]
  refine jC.dataI (hf x hxm) (by and_intros <;> first | rfl | (simp (disch:=first|omega|(refine id ?_;simp only[push_cast];try omega)) only [push_cast])) ?_
  obtain ⟨k, hk⟩ : ∃ k, l.length - i = k + 1 := ⟨l.length - i - 1, by omega⟩
  have hta : (uX (l.take i)).length = i * 4 := by rw [exCs_len, List.length_take, Nat.min_eq_left hi]
  have hlen := fill_len (w := 4) (z := zex) (k := l.length - i) (n := l.length * 4) hta rfl (by rw [Nat.sub_mul]; omega)
  have hst := fill_step (c := exC x) (w := 4) (z := zex) (k := k) hta rfl
  rw [← hk, ← exCs_1, ← exCs_app, ← jU hx, show k = l.length - (i + 1) by omega, exCs_1] at hst
  simp (disch:=first|omega|(refine id ?_;simp only[push_cast];try omega)) only [push_cast,simprocAttr,hil,Int.toNat_natCast,hle,hl1,c1,hlen,hst]
  exact ⟨_,by omega,ILex.mk (i + 1) _ _ (by first | rfl | omega) (by omega) (by first | assumption | (simp (disch:=first|omega|(refine id ?_;simp only[push_cast];try omega)) only [push_cast,simprocAttr]; try omega)) (by first | assumption | (simp (disch:=first|omega|(refine id ?_;simp only[push_cast];try omega)) only [push_cast,simprocAttr,hl1]; try omega)) (by first | assumption | (simp (disch:=first|omega|(refine id ?_;simp only[push_cast];try omega)) only [push_cast,simprocAttr]; try omega))⟩
 ·have hie : i = l.length := by omega
  subst hie
  rw [List.take_length, Nat.sub_self, List.replicate_zero, List.flatten_nil, List.append_nil] at c1
  simp (disch:=first|omega|(refine id ?_;simp only[push_cast];try omega)) only [push_cast,simprocAttr,hil]
  rw [sd_ir88_s1]
  simp (disch:=first|omega|(refine id ?_;simp only[push_cast];try omega)) only [push_cast,simprocAttr]
  refine .sl (by simp (disch:=first|omega|(refine id ?_;simp only[push_cast];try omega)) only [push_cast,simprocAttr]) c1 (size := 4) rfl (by decide) (by first | assumption | (simp (disch:=first|omega|(refine id ?_;simp only[push_cast];try omega)) only [push_cast,simprocAttr]; try omega)) (.inl ⟨by simp only [UC]; omega,Nat.le_refl _⟩) ?_
  rw [List.drop_zero, List.take_of_length_le (by rw [exCs_len]; exact Nat.le_refl _)]
  exact .ids (exCs_sc _ H0q l)
def ztm : List Value := [.int .i64 0, .int .i64 0, .int .i64 0, .string (Tx []), .int .i64 0, .int .i64 0, .string (Tx []), .slice none 0 0, .slice none 0 0]
inductive ILtm (l : List Tm) (fv : Value) : Nat → S → Prop
 | mk (i : Nat) (iv : Int) (h : jA) {x0 x2 x3 x4 x6 x7 x8 x9 xA xB xC xD xH xI xJ xK xL xM xN xO xP xQ xR xS : Value} (hiv : iv = (i : Int)) (hi : i ≤ l.length) (c1 : cells h 1 = some (qD (l.take i) ++ (List.replicate (l.length - i) ztm).flatten, 34, false)) (hl1 : h.lo = 1) (hl2 : 2 ≤ h.next) :
  ILtm l fv (l.length - i) ⟨(F29 x0 fv x2 x3 x4 (.slice (some ⟨1, 0, none⟩) l.length l.length) x6 x7 x8 x9 xA xB xC xD (Rw false etm l.length (qD l)) (.int .i64 l.length) (.int .i64 iv) xH xI xJ xK xL xM xN xO xP xQ xR xS), [], h⟩
theorem listtm_f (l : List Tm) (f : FuncId) (hll : l.length < 100000000000) (hf : ∀ x ∈ l, jH (pp G) H0 f [tmV x] (tmV x)) : jH (pp G) H0 73 [qF l, .func (.func f) #[] #[]] (qF l) := by
 have hlo : H0.lo ≤ H0.next := Nat.le_refl _; refine jH.cut (jJ.fir4 (q := qq) (jM G) fir73 (by kernel_rfl) rfl rfl (F29_arr ..) (show NGG ≤ H0.lo by rw [jT]; decide) ?_); rw [sd_ir73]
 unfold qF
 by_cases h0 : l.length = 0
 ·have h0' : (l.length : Int) = 0 := by omega
  obtain rfl : l = [] := List.length_eq_zero_iff.1 h0
  simp (disch:=first|omega|(refine id ?_;simp only[push_cast];try omega)) only [push_cast,simprocAttr,h0']
  exact .nil (size := 9) rfl (by decide)
 have h0' : ¬ (l.length : Int) = 0 := by omega
 have h1 : (l.length : Int) * 400 + l.length < 100000000000000 := by omega
 simp (disch:=first|omega|(refine id ?_;simp only[push_cast];try omega)) only [push_cast,simprocAttr,h0',h1]
 refine WD.loop4 (q := qq) (jM G) (by kernel_rfl) (ILtm l (.func (.func f) #[] #[])) ?_ _ _ (ILtm.mk 0 0 _ rfl (Nat.zero_le _) (by simp (disch:=first|omega|(refine id ?_;simp only[push_cast];try omega)) only [push_cast,simprocAttr,List.take_zero]; rfl) rfl (by first | assumption | (simp (disch:=first|omega|(refine id ?_;simp only[push_cast];try omega)) only [push_cast,simprocAttr]; try omega)))
 intro m s1 hI
 cases hI with | mk i iv h hiv hi c1 hl1 hl2 =>
 subst hiv
 rw [sd_ir73_s0]
 by_cases hil : (i : Int) < l.length
 ·obtain ⟨x, hx⟩ := jN (l := l) (i := i) (by omega)
  have hxm := List.mem_of_getElem? hx
  have hp := qY hx
  have hle : i * 9 + 9 ≤ l.length * 9 := by omega
  simp (disch:=first|omega|(refine id ?_;simp only[push_cast];try omega)) only [push_cast,simprocAttr,hil,Int.toNat_natCast,hp,hle,hl1]
  refine jC.dataI (hf x hxm) (by and_intros <;> first | rfl | (simp (disch:=first|omega|(refine id ?_;simp only[push_cast];try omega)) only [push_cast])) ?_
  obtain ⟨k, hk⟩ : ∃ k, l.length - i = k + 1 := ⟨l.length - i - 1, by omega⟩
  have hta : (qD (l.take i)).length = i * 9 := by rw [qO, List.length_take, Nat.min_eq_left hi]
  have hlen := fill_len (w := 9) (z := ztm) (k := l.length - i) (n := l.length * 9) hta rfl (by rw [Nat.sub_mul]; omega)
  have hst := fill_step (c := tmC x) (w := 9) (z := ztm) (k := k) hta rfl
  rw [← hk, ← tmCs_1, ← gR, ← jU hx, show k = l.length - (i + 1) by omega, tmCs_1] at hst
  simp (disch:=first|omega|(refine id ?_;simp only[push_cast];try omega)) only [push_cast,simprocAttr,hil,Int.toNat_natCast,hle,hl1,c1,hlen,hst]
  exact ⟨_,by omega,ILtm.mk (i + 1) _ _ (by first | rfl | omega) (by omega) (by first | assumption | (simp (disch:=first|omega|(refine id ?_;simp only[push_cast];try omega)) only [push_cast,simprocAttr]; try omega)) (by first | assumption | (simp (disch:=first|omega|(refine id ?_;simp only[push_cast];try omega)) only [push_cast,simprocAttr,hl1]; try omega)) (by first | assumption | (simp (disch:=first|omega|(refine id ?_;simp only[push_cast];try omega)) only [push_cast,simprocAttr]; try omega))⟩
 ·have hie : i = l.length := by omega
  subst hie
  rw [List.take_length, Nat.sub_self, List.replicate_zero, List.flatten_nil, List.append_nil] at c1
  simp (disch:=first|omega|(refine id ?_;simp only[push_cast];try omega)) only [push_cast,simprocAttr,hil]
  rw [sd_ir73_s1]
  simp (disch:=first|omega|(refine id ?_;simp only[push_cast];try omega)) only [push_cast,simprocAttr]
  refine .sl (by simp (disch:=first|omega|(refine id ?_;simp only[push_cast];try omega)) only [push_cast,simprocAttr]) c1 (size := 9) rfl (by decide) (by first | assumption | (simp (disch:=first|omega|(refine id ?_;simp only[push_cast];try omega)) only [push_cast,simprocAttr]; try omega)) (.inl ⟨by simp only [UC]; omega,Nat.le_refl _⟩) ?_
  rw [List.drop_zero, List.take_of_length_le (by rw [qO]; exact Nat.le_refl _)]
  exact .ids (gI _ H0q l)
mutual
def smE : Ex → Bool
 | .mk k n s l => decide (l.length < 100000000000) && smEs l
def smEs : List Ex → Bool
 | [] => true
 | x :: l => smE x && smEs l
end
mutual
def smT : Tm → Bool
 | .mk k a b s e l => decide (l.length < 100000000000) && smE e && gF l
def gF : List Tm → Bool
 | [] => true
 | x :: l => smT x && gF l
end
theorem smEs_all : ∀ {l : List Ex}, smEs l = true → ∀ x ∈ l, smE x = true
 | [], _, x, hx => by cases hx
 | y :: l, h, x, hx => by
  simp only [smEs, Bool.and_eq_true] at h
  rcases List.mem_cons.1 hx with rfl | hx
  ·exact h.1
  ·exact smEs_all h.2 x hx
theorem qR : ∀ {l : List Tm}, gF l = true → ∀ x ∈ l, smT x = true
 | [], _, x, hx => by cases hx
 | y :: l, h, x, hx => by
  simp only [gF, Bool.and_eq_true] at h
  rcases List.mem_cons.1 hx with rfl | hx
  ·exact h.1
  ·exact qR h.2 x hx
theorem smTs_of : ∀ {l : List Tm}, (∀ x ∈ l, smT x = true) → gF l = true
 | [], _ => rfl
 | y :: l, h => by rw [gF, h y (by simp), smTs_of fun x hx => h x (by simp [hx])]; rfl
theorem ownE_f : ∀ x : Ex, smE x = true → jH (pp G) H0 74 [exV x] (exV x)
 | .mk k n s l, hs => by
  simp only [smE, Bool.and_eq_true, decide_eq_true_eq] at hs
  have hl := listex_f G l 74 hs.1 fun x hx => ownE_f x (smEs_all hs.2 x hx)
  have hlo : H0.lo ≤ H0.next := Nat.le_refl _; refine jH.cut (jJ.fir4 (q := qq) (jM G) fir74 (by kernel_rfl) rfl rfl (F8_arr ..) (show NGG ≤ H0.lo by rw [jT]; decide) ?_); rw [sd_ir74]
  unfold exV exC
  simp (disch:=first|omega|(refine id ?_;simp only[push_cast];try omega)) only [push_cast,simprocAttr]
  refine jC.dataI (hl) (by and_intros <;> first | rfl | (simp (disch:=first|omega|(refine id ?_;simp only[push_cast];try omega)) only [push_cast])) ?_
  unfold exsV
  simp (disch:=first|omega|(refine id ?_;simp only[push_cast];try omega)) only [push_cast,simprocAttr]
  exact .id (exV_sc _ H0q (.mk k n s l))
 termination_by x => SizeOf.sizeOf x
theorem ownT_f : ∀ x : Tm, smT x = true → jH (pp G) H0 54 [tmV x] (tmV x)
 | .mk k a b s e l, hs => by
  simp only [smT, Bool.and_eq_true, decide_eq_true_eq] at hs
  have hl := listtm_f G l 54 hs.1.1 fun x hx => ownT_f x (qR hs.2 x hx)
  have hT : jH (pp G) H0 56 [qF l] (qF l) := by
   have hlo : H0.lo ≤ H0.next := Nat.le_refl _; refine jH.cut (jJ.fir4 (q := qq) (jM G) fir56 (by kernel_rfl) rfl rfl (F5_arr ..) (show NGG ≤ H0.lo by rw [jT]; decide) ?_); rw [sd_ir56]
   unfold qF
   simp (disch:=first|omega|(refine id ?_;simp only[push_cast];try omega)) only [push_cast,simprocAttr]
   refine jC.dataI (hl) (by and_intros <;> first | rfl | (simp (disch:=first|omega|(refine id ?_;simp only[push_cast];try omega)) only [push_cast])) ?_
   unfold qF
   simp (disch:=first|omega|(refine id ?_;simp only[push_cast];try omega)) only [push_cast,simprocAttr]
   exact .id (by simp (disch:=first|omega|(refine id ?_;simp only[push_cast];try omega)) only [push_cast,simprocAttr])
  have hlo : H0.lo ≤ H0.next := Nat.le_refl _; refine jH.cut (jJ.fir4 (q := qq) (jM G) fir54 (by kernel_rfl) rfl rfl (F12_arr ..) (show NGG ≤ H0.lo by rw [jT]; decide) ?_); rw [sd_ir54]
  unfold tmV tmC
  simp (disch:=first|omega|(refine id ?_;simp only[push_cast];try omega)) only [push_cast,simprocAttr]
  refine jC.dataI (ownE_f G e hs.1.2) (by and_intros <;> first | rfl | (simp (disch:=first|omega|(refine id ?_;simp only[push_cast];try omega)) only [push_cast])) ?_
  simp (disch:=first|omega|(refine id ?_;simp only[push_cast];try omega)) only [push_cast,simprocAttr,exC_of]
  refine jC.dataI (hT) (by and_intros <;> first | rfl | (simp (disch:=first|omega|(refine id ?_;simp only[push_cast];try omega)) only [push_cast])) ?_
  unfold qF
  simp (disch:=first|omega|(refine id ?_;simp only[push_cast];try omega)) only [push_cast,simprocAttr,exC_of]
  exact .id (tmV_sc _ H0q (.mk k a b s e l))
 termination_by x => SizeOf.sizeOf x
mutual
def sameE : Ex → Ex → Bool
 | .mk k n s l, .mk k' n' s' l' => decide (k = k') && (decide (n = n') && (decide (s = s') && (decide (l.length = l'.length) && sameEs l l')))
def sameEs : List Ex → List Ex → Bool
 | x :: l, y :: m => sameE x y && sameEs l m
 | _, _ => true
end
theorem sameEs_all : ∀ {l m : List Ex}, sameEs l m = true → ∀ (i : Nat) (x y : Ex), l[i]? = some x → m[i]? = some y → sameE x y = true
 | [], _, _, i, x, y, h1, _ => by simp at h1
 | _ :: _, [], _, i, x, y, _, h2 => by simp at h2
 | a :: l, b :: m, h, i, x, y, h1, h2 => by
  simp only [sameEs, Bool.and_eq_true] at h
  cases i with
  | zero => simp at h1 h2; subst h1 h2; exact h.1
  | succ i => simp at h1 h2; exact sameEs_all h.2 i x y h1 h2
theorem sameEs_of : ∀ {l m : List Ex}, (∀ (i : Nat) (x y : Ex), l[i]? = some x → m[i]? = some y → sameE x y = true) → sameEs l m = true
 | [], _, _ => by simp [sameEs]
 | _ :: _, [], _ => by simp [sameEs]
 | a :: l, b :: m, h => by
  rw [sameEs, h 0 a b rfl rfl, sameEs_of fun i x y h1 h2 => h (i + 1) x y (by simpa using h1) (by simpa using h2)]; rfl
inductive I57 (k n : Int) (s : List UInt8) (l : List Ex) (k' n' : Int) (s' : List UInt8) (l' : List Ex) : Nat → S → Prop
 | mk (i : Nat) (iv : Int) (h : jA) {x0 x1 x4 x6 x7 x8 x9 xA xB xC xD xE xF xG xH xI xJ xK xL xM xN xO xP xQ xR xS xT xU xV xW xX xY xZ yA yB yC yD yE yF yG yH yI yJ yK yL yM yN yO yP yQ : Value} (hiv : iv = (i : Int)) (hi : i ≤ l.length) (c1 : cells h 1 = some (exC (.mk k n s l), 31, false)) (c2 : cells h 2 = some (exC (.mk k' n' s' l'), 31, false)) (hl1 : h.lo = 1) (hl2 : 3 ≤ h.next)
   (ha : ∀ j, j < i → ∀ x y, l[j]? = some x → l'[j]? = some y → sameE x y = true) :
  I57 k n s l k' n' s' l' (l.length - i) ⟨(F53 x0 x1 (.pointer (some ⟨1, 0, none⟩)) (.pointer (some ⟨2, 0, none⟩)) x4 (.int .i64 iv) x6 x7 x8 x9 xA xB xC xD xE xF xG xH xI xJ xK xL xM xN xO xP xQ xR xS xT xU xV xW xX xY xZ yA yB yC yD yE yF yG yH yI yJ yK yL yM yN yO yP yQ), [], h⟩
theorem same_e : ∀ a b : Ex, smE a = true → smE b = true → jH (pp G) H0 57 [exV a, exV b] (.bool (sameE a b))
 | .mk k n s l, .mk k' n' s' l', hs, hs' => by
  simp only [smE, Bool.and_eq_true, decide_eq_true_eq] at hs hs'
  have ih : ∀ x ∈ l, ∀ y ∈ l', jH (pp G) H0 57 [exV x, exV y] (.bool (sameE x y)) := fun x hx y hy => same_e x y (smEs_all hs.2 x hx) (smEs_all hs'.2 y hy)
  have hlo : H0.lo ≤ H0.next := Nat.le_refl _; refine jH.cut (jJ.fir4 (q := qq) (jM G) fir57 (by kernel_rfl) rfl rfl (F53_arr ..) (show NGG ≤ H0.lo by rw [jT]; decide) ?_); rw [sd_ir57]
  rw [sameE]
  obtain ⟨b, hb⟩ : ∃ b, b = (decide (k = k') && (decide (n = n') && (decide (s = s') && (decide (l.length = l'.length) && sameEs l l')))) := ⟨_, rfl⟩
  rw [← hb]
  by_cases h1 : k = k'
  rotate_left
  ·obtain rfl : b = false := by rw [hb]; simp [h1]
   simp (disch:=first|omega|(refine id ?_;simp only[push_cast];try omega)) only [push_cast,simprocAttr,h1]
   exact .id rfl
  by_cases h2 : n = n'
  rotate_left
  ·obtain rfl : b = false := by rw [hb]; simp [h2]
   simp (disch:=first|omega|(refine id ?_;simp only[push_cast];try omega)) only [push_cast,simprocAttr,h1,h2]
   exact .id rfl
  by_cases h3 : s = s'
  rotate_left
  ·obtain rfl : b = false := by rw [hb]; simp [h3]
   have h3' : (s == s') = false := by simpa using h3
   simp (disch:=first|omega|(refine id ?_;simp only[push_cast];try omega)) only [push_cast,simprocAttr,h1,h2,h3']
   exact .id rfl
  by_cases h4 : l.length = l'.length
  rotate_left
  ·obtain rfl : b = false := by rw [hb]; simp [h4]
   have h4' : ¬ (l.length : Int) = l'.length := by omega
   simp (disch:=first|omega|(refine id ?_;simp only[push_cast];try omega)) only [push_cast,simprocAttr,h1,h2,h3,h4',beq_self_eq_true]
   exact .id rfl
  have h4' : (l.length : Int) = l'.length := by omega
  have hb' : b = sameEs l l' := by rw [hb]; simp [h1, h2, h3, h4]
  clear hb
  simp (disch:=first|omega|(refine id ?_;simp only[push_cast];try omega)) only [push_cast,simprocAttr,h1,h2,h3,h4',beq_self_eq_true]
  refine WD.loop4 (q := qq) (jM G) (by kernel_rfl) (I57 k n s l k' n' s' l') ?_ _ _ (I57.mk 0 0 _ rfl (Nat.zero_le _) (by first | assumption | (simp (disch:=first|omega|(refine id ?_;simp only[push_cast];try omega)) only [push_cast,simprocAttr,h1,h2,h3]; try omega)) (by first | assumption | (simp (disch:=first|omega|(refine id ?_;simp only[push_cast];try omega)) only [push_cast,simprocAttr,h1,h2,h3]; try omega)) rfl (by first | assumption | (simp (disch:=first|omega|(refine id ?_;simp only[push_cast];try omega)) only [push_cast,simprocAttr]; try omega)) (fun j hj => by omega))
  intro m s1 hI
  cases hI with | mk i iv h hiv hi c1 c2 hl1 hl2 ha =>
  subst hiv
  rw [sd_ir57_s0]
  by_cases hil : (i : Int) < l'.length
  ·obtain ⟨x, hx⟩ := jN (l := l) (i := i) (by omega)
   obtain ⟨y, hy⟩ := jN (l := l') (i := i) (by omega)
   have hp := exCs_take hx
   have hp' := exCs_take hy
   have hle : i * 4 + 4 ≤ l'.length * 4 := by omega
   have hle2 : i * 4 + 4 ≤ l.length * 4 := by omega
   simp (disch:=first|omega|(refine id ?_;simp only[push_cast];try omega)) only [push_cast,simprocAttr,hil,Int.toNat_natCast,hp,hp',hle,hle2,hl1,c1,c2,h4']
   refine jC.dataI (ih x (List.mem_of_getElem? hx) y (List.mem_of_getElem? hy)) (by and_intros <;> first | rfl | (simp (disch:=first|omega|(refine id ?_;simp only[push_cast];try omega)) only [push_cast])) ?_
   cases hr : sameE x y with
   | true =>
    simp (disch:=first|omega|(refine id ?_;simp only[push_cast];try omega)) only [push_cast,simprocAttr]
    exact ⟨_,by omega,I57.mk (i + 1) _ _ (by first | rfl | omega) (by omega) (by first | assumption | (simp (disch:=first|omega|(refine id ?_;simp only[push_cast];try omega)) only [push_cast,simprocAttr,c1]; try omega)) (by first | assumption | (simp (disch:=first|omega|(refine id ?_;simp only[push_cast];try omega)) only [push_cast,simprocAttr,c2]; try omega)) (by first | assumption | (simp (disch:=first|omega|(refine id ?_;simp only[push_cast];try omega)) only [push_cast,simprocAttr,hl1]; try omega)) (by first | assumption | (simp (disch:=first|omega|(refine id ?_;simp only[push_cast];try omega)) only [push_cast,simprocAttr]; try omega)) fun j hj u v hu hv => by
     by_cases e : j = i
     ·subst e; rw [hx] at hu; rw [hy] at hv; cases hu; cases hv; exact hr
     ·exact ha j (by omega) u v hu hv⟩
   | false =>
    obtain rfl : b = false := by
     rw [hb']
     cases hc : sameEs l l' with
     | false => rfl
     | true => rw [sameEs_all hc i x y hx hy] at hr; cases hr
    simp (disch:=first|omega|(refine id ?_;simp only[push_cast];try omega)) only [push_cast,simprocAttr]
    exact .id rfl
  ·obtain rfl : b = true := by
    rw [hb']
    exact sameEs_of fun j u v hu hv => ha j (by have := (List.getElem?_eq_some_iff.1 hu).1; omega) u v hu hv
   simp (disch:=first|omega|(refine id ?_;simp only[push_cast];try omega)) only [push_cast,simprocAttr,hil,c1,c2,hl1,h4']
   rw [sd_ir57_s1]
   simp (disch:=first|omega|(refine id ?_;simp only[push_cast];try omega)) only [push_cast,simprocAttr]
   exact .id rfl
 termination_by x => SizeOf.sizeOf x
mutual
def sameT : Tm → Tm → Bool
 | .mk k a b s e l, .mk k' a' b' s' e' l' => decide (k = k') && (decide (a = a') && (decide (b = b') && (decide (s = s') && (sameE e e' && (decide (l.length = l'.length) && gO l l')))))
def gO : List Tm → List Tm → Bool
 | x :: l, y :: m => sameT x y && gO l m
 | _, _ => true
end
theorem sameTs_all : ∀ {l m : List Tm}, gO l m = true → ∀ (i : Nat) (x y : Tm), l[i]? = some x → m[i]? = some y → sameT x y = true
 | [], _, _, i, x, y, h1, _ => by simp at h1
 | _ :: _, [], _, i, x, y, _, h2 => by simp at h2
 | a :: l, b :: m, h, i, x, y, h1, h2 => by
  simp only [gO, Bool.and_eq_true] at h
  cases i with
  | zero => simp at h1 h2; subst h1 h2; exact h.1
  | succ i => simp at h1 h2; exact sameTs_all h.2 i x y h1 h2
theorem sameTs_of : ∀ {l m : List Tm}, (∀ (i : Nat) (x y : Tm), l[i]? = some x → m[i]? = some y → sameT x y = true) → gO l m = true
 | [], _, _ => by simp [gO]
 | _ :: _, [], _ => by simp [gO]
 | a :: l, b :: m, h => by
  rw [gO, h 0 a b rfl rfl, sameTs_of fun i x y h1 h2 => h (i + 1) x y (by simpa using h1) (by simpa using h2)]; rfl
inductive I27 (t u : Tm) : Nat → S → Prop
 | mk (i : Nat) (iv : Int) (h : jA) {x0 x1 x4 x6 x7 x8 x9 xA xB xC xD xE xF xG xH xI xJ xK xL xM xN xO xP xQ xR xS xT xU xV xW xX xY xZ yA yB yC yD yE yF yG yH yI yJ yK yL yM yN yO yP yQ yR yS yT yU yV yW yX yY yZ zA zB zC zD zF zG : Value} (hiv : iv = (i : Int)) (hi : i ≤ t.l.length) (c1 : cells h 1 = some (tmC t, 34, false)) (c2 : cells h 2 = some (tmC u, 34, false)) (hl1 : h.lo = 1) (hl2 : 3 ≤ h.next)
   (ha : ∀ j, j < i → ∀ x y, t.l[j]? = some x → u.l[j]? = some y → sameT x y = true) :
  I27 t u (t.l.length - i) ⟨(F68 x0 x1 (.pointer (some ⟨1, 0, none⟩)) (.pointer (some ⟨2, 0, none⟩)) x4 (.int .i64 iv) x6 x7 x8 x9 xA xB xC xD xE xF xG xH xI xJ xK xL xM xN xO xP xQ xR xS xT xU xV xW xX xY xZ yA yB yC yD yE yF yG yH yI yJ yK yL yM yN yO yP yQ yR yS yT yU yV yW yX yY yZ zA zB zC zD zF zG), [], h⟩
theorem same_t : ∀ t u : Tm, smT t = true → smT u = true → jH (pp G) H0 27 [tmV t, tmV u] (.bool (sameT t u))
 | .mk k a b s e l, .mk k' a' b' s' e' l', hs, hs' => by
  simp only [smT, Bool.and_eq_true, decide_eq_true_eq] at hs hs'
  have ih : ∀ x ∈ l, ∀ y ∈ l', jH (pp G) H0 27 [tmV x, tmV y] (.bool (sameT x y)) := fun x hx y hy => same_t x y (qR hs.2 x hx) (qR hs'.2 y hy)
  have he := same_e G e e' hs.1.2 hs'.1.2
  have hlo : H0.lo ≤ H0.next := Nat.le_refl _; refine jH.cut (jJ.fir4 (q := qq) (jM G) fir27 (by kernel_rfl) rfl rfl (F68_arr ..) (show NGG ≤ H0.lo by rw [jT]; decide) ?_); rw [sd_ir27]
  rw [sameT]
  obtain ⟨c, hb⟩ : ∃ c, c = (decide (k = k') && (decide (a = a') && (decide (b = b') && (decide (s = s') && (sameE e e' && (decide (l.length = l'.length) && gO l l')))))) := ⟨_, rfl⟩
  rw [← hb]
  by_cases h1 : k = k'
  rotate_left
  ·obtain rfl : c = false := by rw [hb]; simp [h1]
   simp (disch:=first|omega|(refine id ?_;simp only[push_cast];try omega)) only [push_cast,simprocAttr,h1]
   exact .id rfl
  by_cases h2 : a = a'
  rotate_left
  ·obtain rfl : c = false := by rw [hb]; simp [h2]
   simp (disch:=first|omega|(refine id ?_;simp only[push_cast];try omega)) only [push_cast,simprocAttr,h1,h2]
   exact .id rfl
  by_cases h5 : b = b'
  rotate_left
  ·obtain rfl : c = false := by rw [hb]; simp [h5]
   simp (disch:=first|omega|(refine id ?_;simp only[push_cast];try omega)) only [push_cast,simprocAttr,h1,h2,h5]
   exact .id rfl
  by_cases h3 : s = s'
  rotate_left
  ·obtain rfl : c = false := by rw [hb]; simp [h3]
   have h3' : (s == s') = false := by simpa using h3
   simp (disch:=first|omega|(refine id ?_;simp only[push_cast];try omega)) only [push_cast,simprocAttr,h1,h2,h5,h3']
   exact .id rfl
  simp (disch:=first|omega|(refine id ?_;simp only[push_cast];try omega)) only [push_cast,simprocAttr,h1,h2,h5,h3,beq_self_eq_true]
  refine jC.dataI (he) (by and_intros <;> first | rfl | (simp (disch:=first|omega|(refine id ?_;simp only[push_cast];try omega)) only [push_cast])) ?_
  by_cases h6 : sameE e e' = true
  rotate_left
  ·have h6 : sameE e e' = false := by simpa using h6
   obtain rfl : c = false := by rw [hb]; simp [h6]
   simp (disch:=first|omega|(refine id ?_;simp only[push_cast];try omega)) only [push_cast,simprocAttr,h6]
   exact .id rfl
  by_cases h4 : l.length = l'.length
  rotate_left
  ·obtain rfl : c = false := by rw [hb]; simp [h4]
   have h4' : ¬ (l.length : Int) = l'.length := by omega
   simp (disch:=first|omega|(refine id ?_;simp only[push_cast];try omega)) only [push_cast,simprocAttr,h4',h6]
   exact .id rfl
  have h4' : (l.length : Int) = l'.length := by omega
  have hb' : c = gO l l' := by rw [hb]; simp [h1, h2, h3, h4, h5, h6]
  clear hb
  simp (disch:=first|omega|(refine id ?_;simp only[push_cast];try omega)) only [push_cast,simprocAttr,h4',h6]
  refine WD.loop4 (q := qq) (jM G) (by kernel_rfl) (I27 (.mk k a b s e l) (.mk k' a' b' s' e' l')) ?_ _ _ (I27.mk 0 0 _ rfl (Nat.zero_le _) (by first | assumption | (simp (disch:=first|omega|(refine id ?_;simp only[push_cast];try omega)) only [push_cast,simprocAttr,h1,h2,h3,h5]; try omega)) (by first | assumption | (simp (disch:=first|omega|(refine id ?_;simp only[push_cast];try omega)) only [push_cast,simprocAttr,h1,h2,h3,h5]; try omega)) rfl (by first | assumption | (simp (disch:=first|omega|(refine id ?_;simp only[push_cast];try omega)) only [push_cast,simprocAttr]; try omega)) (fun j hj => by omega))
  intro m s1 hI
  cases hI with | mk i iv h hiv hi c1 c2 hl1 hl2 ha =>
  subst hiv
  rw [sd_ir27_s0]
  simp only [Tm.l_mk] at ha hi
  by_cases hil : (i : Int) < l'.length
  ·obtain ⟨x, hx⟩ := jN (l := l) (i := i) (by omega)
   obtain ⟨y, hy⟩ := jN (l := l') (i := i) (by omega)
   have hp := qY hx
   have hp' := qY hy
   have hle : i * 9 + 9 ≤ l'.length * 9 := by omega
   have hle2 : i * 9 + 9 ≤ l.length * 9 := by omega
   simp (disch:=first|omega|(refine id ?_;simp only[push_cast];try omega)) only [push_cast,simprocAttr,hil,Int.toNat_natCast,hp,hp',hle,hle2,hl1,c1,c2,h4']
   refine jC.dataI (ih x (List.mem_of_getElem? hx) y (List.mem_of_getElem? hy)) (by and_intros <;> first | rfl | (simp (disch:=first|omega|(refine id ?_;simp only[push_cast];try omega)) only [push_cast])) ?_
   cases hr : sameT x y with
   | true =>
    simp (disch:=first|omega|(refine id ?_;simp only[push_cast];try omega)) only [push_cast,simprocAttr]
    exact ⟨_,by simp only [Tm.l_mk]; omega,I27.mk (i + 1) _ _ (by first | rfl | omega) (by simp only [Tm.l_mk]; omega) (by first | assumption | (simp (disch:=first|omega|(refine id ?_;simp only[push_cast];try omega)) only [push_cast,simprocAttr,c1]; try omega)) (by first | assumption | (simp (disch:=first|omega|(refine id ?_;simp only[push_cast];try omega)) only [push_cast,simprocAttr,c2]; try omega)) (by first | assumption | (simp (disch:=first|omega|(refine id ?_;simp only[push_cast];try omega)) only [push_cast,simprocAttr,hl1]; try omega)) (by first | assumption | (simp (disch:=first|omega|(refine id ?_;simp only[push_cast];try omega)) only [push_cast,simprocAttr]; try omega)) fun j hj u v hu hv => by
     by_cases e : j = i
     ·subst e; rw [Tm.l_mk, hx] at hu; rw [Tm.l_mk, hy] at hv; cases hu; cases hv; exact hr
     ·exact ha j (by omega) u v hu hv⟩
   | false =>
    obtain rfl : c = false := by
     rw [hb']
     cases hc : gO l l' with
     | false => rfl
     | true => rw [sameTs_all hc i x y hx hy] at hr; cases hr
    simp (disch:=first|omega|(refine id ?_;simp only[push_cast];try omega)) only [push_cast,simprocAttr]
    exact .id rfl
  ·obtain rfl : c = true := by
    rw [hb']
    exact sameTs_of fun j u v hu hv => ha j (by have := (List.getElem?_eq_some_iff.1 hu).1; omega) u v hu hv
   simp (disch:=first|omega|(refine id ?_;simp only[push_cast];try omega)) only [push_cast,simprocAttr,hil,c1,c2,hl1,h4']
   rw [sd_ir27_s1]
   simp (disch:=first|omega|(refine id ?_;simp only[push_cast];try omega)) only [push_cast,simprocAttr]
   exact .id rfl
 termination_by x => SizeOf.sizeOf x
def bA (l : List Tm) : Prop := l.length < 100000000000 ∧ gF l = true
def gU (l m : List Tm) : Bool := decide (l.length = m.length) && gO l m
inductive I35 (l m : List Tm) : Nat → S → Prop
 | mk (i : Nat) (iv : Int) (h : jA) {x2 x3 x4 x6 x7 x8 x9 xA xB xC xD xE xF xG xH xI xJ xK xL xM xN xO xP xQ : Value} (hiv : iv = (i : Int)) (hi : i ≤ l.length) (hl1 : h.lo = 1) (hl2 : 1 ≤ h.next)
   (ha : ∀ j, j < i → ∀ x y, l[j]? = some x → m[j]? = some y → sameT x y = true) :
  I35 l m (l.length - i) ⟨(F27 (qF l) (qF m) x2 x3 x4 (.int .i64 iv) x6 x7 x8 x9 xA xB xC xD xE xF xG xH xI xJ xK xL xM xN xO xP xQ), [], h⟩
theorem rows_f (l l' : List Tm) (hs : bA l) (hs' : bA l') : jH (pp G) H0 35 [qF l, qF l'] (.bool (gU l l')) := by
 have ih : ∀ x ∈ l, ∀ y ∈ l', jH (pp G) H0 27 [tmV x, tmV y] (.bool (sameT x y)) := fun x hx y hy => same_t G x y (qR hs.2 x hx) (qR hs'.2 y hy)
 have hsl := hs.1
 have hsl' := hs'.1
 have hlo : H0.lo ≤ H0.next := Nat.le_refl _; refine jH.cut (jJ.fir4 (q := qq) (jM G) fir35 (by kernel_rfl) rfl rfl (F27_arr ..) (show NGG ≤ H0.lo by rw [jT]; decide) ?_); rw [sd_ir35]
 obtain ⟨c, hb⟩ : ∃ c, c = gU l l' := ⟨_, rfl⟩
 rw [← hb]
 unfold qF
 by_cases h4 : l.length = l'.length
 rotate_left
 ·obtain rfl : c = false := by rw [hb]; simp [gU, h4]
  have h4' : ¬ (l.length : Int) = l'.length := by omega
  simp (disch:=first|omega|(refine id ?_;simp only[push_cast];try omega)) only [push_cast,simprocAttr,h4']
  exact .id rfl
 have h4' : (l.length : Int) = l'.length := by omega
 have hb' : c = gO l l' := by rw [hb]; simp [gU, h4]
 simp (disch:=first|omega|(refine id ?_;simp only[push_cast];try omega)) only [push_cast,simprocAttr,h4']
 refine WD.loop4 (q := qq) (jM G) (by kernel_rfl) (I35 l l') ?_ _ _ (I35.mk 0 0 _ rfl (Nat.zero_le _) rfl (by first | assumption | (simp (disch:=first|omega|(refine id ?_;simp only[push_cast];try omega)) only [push_cast,simprocAttr]; try omega)) (fun j hj => by omega))
 intro m s1 hI
 cases hI with | mk i iv h hiv hi hl1 hl2 ha =>
 subst hiv
 rw [sd_ir35_s0]
 unfold qF
 by_cases hil : (i : Int) < l'.length
 ·obtain ⟨x, hx⟩ := jN (l := l) (i := i) (by omega)
  obtain ⟨y, hy⟩ := jN (l := l') (i := i) (by omega)
  have hp := qY hx
  have hp' := qY hy
  have hle : i * 9 + 9 ≤ l'.length * 9 := by omega
  have hle2 : i * 9 + 9 ≤ l.length * 9 := by omega
  simp (disch:=first|omega|(refine id ?_;simp only[push_cast];try omega)) only [push_cast,simprocAttr,hil,Int.toNat_natCast,hp,hp',hle,hle2,hl1,h4']
  refine jC.dataI (ih x (List.mem_of_getElem? hx) y (List.mem_of_getElem? hy)) (by and_intros <;> first | rfl | (simp (disch:=first|omega|(refine id ?_;simp only[push_cast];try omega)) only [push_cast])) ?_
  cases hr : sameT x y with
  | true =>
   simp (disch:=first|omega|(refine id ?_;simp only[push_cast];try omega)) only [push_cast,simprocAttr]
   exact ⟨_,by omega,I35.mk (i + 1) _ _ (by first | rfl | omega) (by omega) (by first | assumption | (simp (disch:=first|omega|(refine id ?_;simp only[push_cast];try omega)) only [push_cast,simprocAttr,hl1]; try omega)) (by first | assumption | (simp (disch:=first|omega|(refine id ?_;simp only[push_cast];try omega)) only [push_cast,simprocAttr]; try omega)) fun j hj u v hu hv => by
    by_cases e : j = i
    ·subst e; rw [hx] at hu; rw [hy] at hv; cases hu; cases hv; exact hr
    ·exact ha j (by omega) u v hu hv⟩
  | false =>
   obtain rfl : c = false := by
    rw [hb']
    cases hc : gO l l' with
    | false => rfl
    | true => rw [sameTs_all hc i x y hx hy] at hr; cases hr
   simp (disch:=first|omega|(refine id ?_;simp only[push_cast];try omega)) only [push_cast,simprocAttr]
   exact .id rfl
 ·obtain rfl : c = true := by
   rw [hb']
   exact sameTs_of fun j u v hu hv => ha j (by have := (List.getElem?_eq_some_iff.1 hu).1; omega) u v hu hv
  simp (disch:=first|omega|(refine id ?_;simp only[push_cast];try omega)) only [push_cast,simprocAttr,hil,h4']
  rw [sd_ir32_s1]
  simp (disch:=first|omega|(refine id ?_;simp only[push_cast];try omega)) only [push_cast,simprocAttr]
  exact .id rfl
abbrev eR : Nat := 32
def trs (s : List (List Tm)) : List Value := s.map qF
def trV (s : List (List Tm)) : Value := Rw false eR s.length (trs s)
theorem trs_len (s : List (List Tm)) : (trs s).length = s.length := by simp [trs]
theorem trs_one : ∀ s : List (List Tm), (trs s).all one = true
 | [] => rfl
 | x :: s => by
  have := trs_one s
  simp only [trs] at this
  simp only [trs, List.map_cons, List.all_cons, this, Bool.and_true]
  rfl
theorem trs_sc (n : Nat) (hn : 0 < n) : ∀ s : List (List Tm), scL n (trs s) = true
 | [] => rfl
 | x :: s => by
  have := trs_sc n hn s
  simp only [trs] at this
  simp [trs, scL, this, tmsV_sc n hn]
theorem trR_sc (n : Nat) (hn : 0 < n) (k : Nat) (f : Bool) (s : List (List Tm)) : Ev.sc n (Rw f eR k (trs s)) = true := by
 have := trs_sc n hn s
 simp [Ev.sc, Rw, scL, this, hn]
theorem trs_get {s : List (List Tm)} {i : Nat} {l : List Tm} (h : s[i]? = some l) : (trs s)[i]? = some (qF l) := by simp [trs, h]
theorem trs_app (a b : List (List Tm)) : trs (a ++ b) = trs a ++ trs b := by simp [trs]
attribute [push_cast] trs_len trs_one trs_sc trR_sc
def kH (s : List (List Tm)) : Prop := s.length < 100000000000 ∧ ∀ l ∈ s, bA l
def gW : List (List Tm) → List (List Tm) → Bool
 | x :: l, y :: m => gU x y && gW l m
 | _, _ => true
theorem allSame_all : ∀ {l m : List (List Tm)}, gW l m = true → ∀ (i : Nat) (x y : List Tm), l[i]? = some x → m[i]? = some y → gU x y = true
 | [], _, _, i, x, y, h1, _ => by simp at h1
 | _ :: _, [], _, i, x, y, _, h2 => by simp at h2
 | a :: l, b :: m, h, i, x, y, h1, h2 => by
  simp only [gW, Bool.and_eq_true] at h
  cases i with
  | zero => simp at h1 h2; subst h1 h2; exact h.1
  | succ i => simp at h1 h2; exact allSame_all h.2 i x y h1 h2
theorem allSame_of : ∀ {l m : List (List Tm)}, (∀ (i : Nat) (x y : List Tm), l[i]? = some x → m[i]? = some y → gU x y = true) → gW l m = true
 | [], _, _ => by simp [gW]
 | _ :: _, [], _ => by simp [gW]
 | a :: l, b :: m, h => by
  rw [gW, h 0 a b rfl rfl, allSame_of fun i x y h1 h2 => h (i + 1) x y (by simpa using h1) (by simpa using h2)]; rfl
def stSame (l m : List (List Tm)) : Bool := decide (l.length = m.length) && gW l m
inductive I32 (l m : List (List Tm)) : Nat → S → Prop
 | mk (i : Nat) (iv : Int) (h : jA) {x2 x3 x4 x6 x7 x8 x9 xA xB xC xD xE xF xG xH xI xJ xK xL xM xN xO xP xQ : Value} (hiv : iv = (i : Int)) (hi : i ≤ l.length) (hl1 : h.lo = 1) (hl2 : 1 ≤ h.next)
   (ha : ∀ j, j < i → ∀ x y, l[j]? = some x → m[j]? = some y → gU x y = true) :
  I32 l m (l.length - i) ⟨(F27 (trV l) (trV m) x2 x3 x4 (.int .i64 iv) x6 x7 x8 x9 xA xB xC xD xE xF xG xH xI xJ xK xL xM xN xO xP xQ), [], h⟩
theorem stsame_f (l l' : List (List Tm)) (hs : kH l) (hs' : kH l') : jH (pp G) H0 32 [trV l, trV l'] (.bool (stSame l l')) := by
 have ih : ∀ x ∈ l, ∀ y ∈ l', jH (pp G) H0 35 [qF x, qF y] (.bool (gU x y)) := fun x hx y hy => rows_f G x y (hs.2 x hx) (hs'.2 y hy)
 have hsl := hs.1
 have hsl' := hs'.1
 have hlo : H0.lo ≤ H0.next := Nat.le_refl _; refine jH.cut (jJ.fir4 (q := qq) (jM G) fir32 (by kernel_rfl) rfl rfl (F27_arr ..) (show NGG ≤ H0.lo by rw [jT]; decide) ?_); rw [sd_ir32]
 obtain ⟨c, hb⟩ : ∃ c, c = stSame l l' := ⟨_, rfl⟩
 rw [← hb]
 unfold trV
 by_cases h4 : l.length = l'.length
 rotate_left
 ·obtain rfl : c = false := by rw [hb]; simp [stSame, h4]
  have h4' : ¬ (l.length : Int) = l'.length := by omega
  simp (disch:=first|omega|(refine id ?_;simp only[push_cast];try omega)) only [push_cast,simprocAttr,h4']
  exact .id rfl
 have h4' : (l.length : Int) = l'.length := by omega
 have hb' : c = gW l l' := by rw [hb]; simp [stSame, h4]
 simp (disch:=first|omega|(refine id ?_;simp only[push_cast];try omega)) only [push_cast,simprocAttr,h4']
 refine WD.loop4 (q := qq) (jM G) (by kernel_rfl) (I32 l l') ?_ _ _ (I32.mk 0 0 _ rfl (Nat.zero_le _) rfl (by first | assumption | (simp (disch:=first|omega|(refine id ?_;simp only[push_cast];try omega)) only [push_cast,simprocAttr]; try omega)) (fun j hj => by omega))
 intro m s1 hI
 cases hI with | mk i iv h hiv hi hl1 hl2 ha =>
 subst hiv
 rw [sd_ir32_s0]
 unfold trV
 by_cases hil : (i : Int) < l'.length
 ·obtain ⟨x, hx⟩ := jN (l := l) (i := i) (by omega)
  obtain ⟨y, hy⟩ := jN (l := l') (i := i) (by omega)
  have hp := trs_get hx
  have hp' := trs_get hy
  have hle : i < l'.length := by omega
  have hle2 : i < l.length := by omega
  simp (disch:=first|omega|(refine id ?_;simp only[push_cast];try omega)) only [push_cast,simprocAttr,hil,Int.toNat_natCast,hp,hp',hle,hle2,hl1,h4']
  refine jC.dataI (ih x (List.mem_of_getElem? hx) y (List.mem_of_getElem? hy)) (by and_intros <;> first | rfl | (simp (disch:=first|omega|(refine id ?_;simp only[push_cast];try omega)) only [push_cast])) ?_
  cases hr : gU x y with
  | true =>
   simp (disch:=first|omega|(refine id ?_;simp only[push_cast];try omega)) only [push_cast,simprocAttr]
   exact ⟨_,by omega,I32.mk (i + 1) _ _ (by first | rfl | omega) (by omega) (by first | assumption | (simp (disch:=first|omega|(refine id ?_;simp only[push_cast];try omega)) only [push_cast,simprocAttr,hl1]; try omega)) (by first | assumption | (simp (disch:=first|omega|(refine id ?_;simp only[push_cast];try omega)) only [push_cast,simprocAttr]; try omega)) fun j hj u v hu hv => by
    by_cases e : j = i
    ·subst e; rw [hx] at hu; rw [hy] at hv; cases hu; cases hv; exact hr
    ·exact ha j (by omega) u v hu hv⟩
  | false =>
   obtain rfl : c = false := by
    rw [hb']
    cases hc : gW l l' with
    | false => rfl
    | true => rw [allSame_all hc i x y hx hy] at hr; cases hr
   simp (disch:=first|omega|(refine id ?_;simp only[push_cast];try omega)) only [push_cast,simprocAttr]
   exact .id rfl
 ·obtain rfl : c = true := by
   rw [hb']
   exact allSame_of fun j u v hu hv => ha j (by have := (List.getElem?_eq_some_iff.1 hu).1; omega) u v hu hv
  simp (disch:=first|omega|(refine id ?_;simp only[push_cast];try omega)) only [push_cast,simprocAttr,hil,h4']
  rw [sd_ir32_s1]
  simp (disch:=first|omega|(refine id ?_;simp only[push_cast];try omega)) only [push_cast,simprocAttr]
  exact .id rfl
mutual
def sizeT : Tm → Int
 | .mk _ _ _ _ _ l => 1 + kP l
def kP : List Tm → Int
 | [] => 0
 | x :: l => sizeT x + kP l
end
theorem sizeTs_app : ∀ (a b : List Tm), kP (a ++ b) = kP a + kP b
 | [], b => by simp [kP]
 | x :: a, b => by rw [List.cons_append, kP, kP, sizeTs_app a b]; omega
theorem sizeTs_take {l : List Tm} {i : Nat} {x : Tm} (h : l[i]? = some x) : kP (l.take (i + 1)) = kP (l.take i) + sizeT x := by
 rw [jU h, sizeTs_app, kP, kP]; omega
theorem W_add (a b : Int) : IntKind.i64.wrap (W a + W b) = W (a + b) := by
 unfold W; simp only [IntKind.wrap_i64]; omega
inductive I58 (l : List Tm) : Nat → S → Prop
 | mk (i : Nat) (iv n : Int) (h : jA) {x0 x1 x2 x4 x5 x6 xA xB xC xD xE xF xG xH xI : Value} (hiv : iv = (i : Int)) (hi : i ≤ l.length) (hn : n = W (1 + kP (l.take i))) (hl1 : h.lo = 1) (hl2 : 1 ≤ h.next) :
  I58 l (l.length - i) ⟨(F19 x0 x1 x2 (.int .i64 n) x4 x5 x6 (qF l) (.int .i64 l.length) (.int .i64 iv) xA xB xC xD xE xF xG xH xI), [], h⟩
theorem size_t : ∀ t : Tm, smT t = true → jH (pp G) H0 58 [tmV t] (.int .i64 (W (sizeT t)))
 | .mk k a b s e l, hs => by
  simp only [smT, Bool.and_eq_true, decide_eq_true_eq] at hs
  have hsl := hs.1.1
  have ih : ∀ x ∈ l, jH (pp G) H0 58 [tmV x] (.int .i64 (W (sizeT x))) := fun x hx => size_t x (qR hs.2 x hx)
  have hlo : H0.lo ≤ H0.next := Nat.le_refl _; refine jH.cut (jJ.fir4 (q := qq) (jM G) fir58 (by kernel_rfl) rfl rfl (F19_arr ..) (show NGG ≤ H0.lo by rw [jT]; decide) ?_); rw [sd_ir58]
  rw [sizeT]
  simp (disch:=first|omega|(refine id ?_;simp only[push_cast];try omega)) only [push_cast,simprocAttr]
  refine WD.loop4 (q := qq) (jM G) (by kernel_rfl) (I58 l) ?_ _ _ (I58.mk 0 0 _ _ rfl (Nat.zero_le _) rfl rfl (by first | assumption | (simp (disch:=first|omega|(refine id ?_;simp only[push_cast];try omega)) only [push_cast,simprocAttr]; try omega)))
  intro m s1 hI
  cases hI with | mk i iv n h hiv hi hn hl1 hl2 =>
  subst hiv hn
  rw [sd_ir58_s0]
  unfold qF
  by_cases hil : (i : Int) < l.length
  ·obtain ⟨x, hx⟩ := jN (l := l) (i := i) (by omega)
   have hp := qY hx
   have hle2 : i * 9 + 9 ≤ l.length * 9 := by omega
   simp (disch:=first|omega|(refine id ?_;simp only[push_cast];try omega)) only [push_cast,simprocAttr,hil,Int.toNat_natCast,hp,hle2,hl1]
   refine jC.dataI (ih x (List.mem_of_getElem? hx)) (by and_intros <;> first | rfl | (simp (disch:=first|omega|(refine id ?_;simp only[push_cast];try omega)) only [push_cast])) ?_
   simp (disch:=first|omega|(refine id ?_;simp only[push_cast];try omega)) only [push_cast,simprocAttr,W_add]
   exact ⟨_,by omega,I58.mk (i + 1) _ _ _ (by first | rfl | omega) (by omega) (by rw [sizeTs_take hx]; congr 1; omega) (by first | assumption | (simp (disch:=first|omega|(refine id ?_;simp only[push_cast];try omega)) only [push_cast,simprocAttr,hl1]; try omega)) (by first | assumption | (simp (disch:=first|omega|(refine id ?_;simp only[push_cast];try omega)) only [push_cast,simprocAttr]; try omega))⟩
  ·have hie : i = l.length := by omega
   subst hie
   simp (disch:=first|omega|(refine id ?_;simp only[push_cast];try omega)) only [push_cast,simprocAttr,hil]
   rw [sd_ir58_s1]
   simp (disch:=first|omega|(refine id ?_;simp only[push_cast];try omega)) only [push_cast,simprocAttr,List.take_length]
   exact .id rfl
 termination_by x => SizeOf.sizeOf x
inductive I59 (t : Tm) : Nat → S → Prop
 | mk (i : Nat) (iv n : Int) (h : jA) {x0 x2 x5 x6 x7 x8 x9 xA xB xC xD xE xF xG xH xI xJ xK : Value} (hiv : iv = (i : Int)) (hi : i ≤ t.l.length) (hn : n = W (1 + kP (t.l.take i))) (c1 : cells h 1 = some (tmC t, 34, false)) (hl1 : h.lo = 1) (hl2 : 2 ≤ h.next) :
  I59 t (t.l.length - i) ⟨(F21 x0 (.pointer (some ⟨1, 0, none⟩)) x2 (.int .i64 n) (.int .i64 iv) x5 x6 x7 x8 x9 xA xB xC xD xE xF xG xH xI xJ xK), [], h⟩
theorem size_r : ∀ t : Tm, smT t = true → jH (pp G) H0 59 [tmV t] (.int .i64 (W (sizeT t)))
 | .mk k a b s e l, hs => by
  simp only [smT, Bool.and_eq_true, decide_eq_true_eq] at hs
  have hsl := hs.1.1
  have ih : ∀ x ∈ l, jH (pp G) H0 59 [tmV x] (.int .i64 (W (sizeT x))) := fun x hx => size_r x (qR hs.2 x hx)
  have hlo : H0.lo ≤ H0.next := Nat.le_refl _; refine jH.cut (jJ.fir4 (q := qq) (jM G) fir59 (by kernel_rfl) rfl rfl (F21_arr ..) (show NGG ≤ H0.lo by rw [jT]; decide) ?_); rw [sd_ir59]
  rw [sizeT]
  simp (disch:=first|omega|(refine id ?_;simp only[push_cast];try omega)) only [push_cast,simprocAttr]
  refine WD.loop4 (q := qq) (jM G) (by kernel_rfl) (I59 (.mk k a b s e l)) ?_ _ _ (I59.mk 0 0 _ _ rfl (Nat.zero_le _) rfl (by first | assumption | (simp (disch:=first|omega|(refine id ?_;simp only[push_cast];try omega)) only [push_cast,simprocAttr]; try omega)) rfl (by first | assumption | (simp (disch:=first|omega|(refine id ?_;simp only[push_cast];try omega)) only [push_cast,simprocAttr]; try omega)))
  intro m s1 hI
  cases hI with | mk i iv n h hiv hi hn c1 hl1 hl2 =>
  subst hiv hn
  simp only [Tm.l_mk] at hi
  rw [sd_ir59_s0]
  by_cases hil : (i : Int) < l.length
  ·obtain ⟨x, hx⟩ := jN (l := l) (i := i) (by omega)
   have hp := qY hx
   have hle2 : i * 9 + 9 ≤ l.length * 9 := by omega
   simp (disch:=first|omega|(refine id ?_;simp only[push_cast];try omega)) only [push_cast,simprocAttr,hil,Int.toNat_natCast,hp,hle2,hl1,c1]
   refine jC.dataI (ih x (List.mem_of_getElem? hx)) (by and_intros <;> first | rfl | (simp (disch:=first|omega|(refine id ?_;simp only[push_cast];try omega)) only [push_cast])) ?_
   simp (disch:=first|omega|(refine id ?_;simp only[push_cast];try omega)) only [push_cast,simprocAttr,W_add]
   exact ⟨_,by simp only [Tm.l_mk]; omega,I59.mk (i + 1) _ _ _ (by first | rfl | omega) (by simp only [Tm.l_mk]; omega) (by rw [Tm.l_mk,sizeTs_take hx]; congr 1; omega) (by first | assumption | (simp (disch:=first|omega|(refine id ?_;simp only[push_cast];try omega)) only [push_cast,simprocAttr,c1]; try omega)) (by first | assumption | (simp (disch:=first|omega|(refine id ?_;simp only[push_cast];try omega)) only [push_cast,simprocAttr,hl1]; try omega)) (by first | assumption | (simp (disch:=first|omega|(refine id ?_;simp only[push_cast];try omega)) only [push_cast,simprocAttr]; try omega))⟩
  ·have hie : i = l.length := by omega
   subst hie
   simp (disch:=first|omega|(refine id ?_;simp only[push_cast];try omega)) only [push_cast,simprocAttr,hil,c1,hl1]
   rw [sd_ir59_s1]
   simp (disch:=first|omega|(refine id ?_;simp only[push_cast];try omega)) only [push_cast,simprocAttr,List.take_length,Tm.l_mk]
   exact .id rfl
 termination_by x => SizeOf.sizeOf x
def bK : List (List Tm) → Int
 | [] => 0
 | x :: s => kP x + bK s
theorem sizeR_app : ∀ (a b : List (List Tm)), bK (a ++ b) = bK a + bK b
 | [], b => by simp [bK]
 | x :: a, b => by rw [List.cons_append, bK, bK, sizeR_app a b]; omega
theorem sizeR_take {l : List (List Tm)} {i : Nat} {x : List Tm} (h : l[i]? = some x) : bK (l.take (i + 1)) = bK (l.take i) + kP x := by
 rw [jU h, sizeR_app, bK, bK]; omega
inductive I33 (s : List (List Tm)) : Nat → S → Prop
 | mk (i : Nat) (iv n : Int) (h : jA) {x0 x1 x2 x4 x5 x6 x7 xB xC xD xE xF xG xH xI xJ xK xL xM xN xO xP xQ : Value} (hiv : iv = (i : Int)) (hi : i ≤ s.length) (hn : n = W (bK (s.take i))) (hl1 : h.lo = 1) (hl2 : 1 ≤ h.next) :
  I33 s (s.length - i) ⟨(F27 x0 x1 x2 (.int .i64 n) x4 x5 x6 x7 (trV s) (.int .i64 s.length) (.int .i64 iv) xB xC xD xE xF xG xH xI xJ xK xL xM xN xO xP xQ), [], h⟩
inductive I33b (s : List (List Tm)) (j : Nat) (l : List Tm) : Nat → S → Prop
 | mk (i : Nat) (iv n : Int) (h : jA) {x0 x1 x2 x4 x5 x6 x7 xB xC xD xH xI xJ xK xL xM xN xO xP xQ : Value} (hiv : iv = (i : Int)) (hi : i ≤ l.length) (hn : n = W (bK (s.take j) + kP (l.take i))) (hl1 : h.lo = 1) (hl2 : 1 ≤ h.next) :
  I33b s j l (l.length - i) ⟨(F27 x0 x1 x2 (.int .i64 n) x4 x5 x6 x7 (trV s) (.int .i64 s.length) (.int .i64 j) xB xC xD (qF l) (.int .i64 l.length) (.int .i64 iv) xH xI xJ xK xL xM xN xO xP xQ), [], h⟩
theorem sizes_t (s : List (List Tm)) (hs : kH s) : jH (pp G) H0 33 [trV s] (.int .i64 (W (bK s))) := by
 have hsl := hs.1
 have hlo : H0.lo ≤ H0.next := Nat.le_refl _; refine jH.cut (jJ.fir4 (q := qq) (jM G) fir33 (by kernel_rfl) rfl rfl (F27_arr ..) (show NGG ≤ H0.lo by rw [jT]; decide) ?_); rw [sd_ir33]
 unfold trV
 simp (disch:=first|omega|(refine id ?_;simp only[push_cast];try omega)) only [push_cast,simprocAttr]
 refine WD.loop4 (q := qq) (jM G) (by kernel_rfl) (I33 s) ?_ _ _ (I33.mk 0 0 _ _ rfl (Nat.zero_le _) rfl rfl (by first | assumption | (simp (disch:=first|omega|(refine id ?_;simp only[push_cast];try omega)) only [push_cast,simprocAttr]; try omega)))
 intro m s1 hI
 cases hI with | mk j jv n h hiv hi hn hl1 hl2 =>
 subst hiv hn
 rw [sd_ir33_s0]
 unfold trV
 by_cases hjl : (j : Int) < s.length
 ·obtain ⟨l, hl⟩ := jN (l := s) (i := j) (by omega)
  have hlm := List.mem_of_getElem? hl
  obtain ⟨hll, hlt⟩ := hs.2 l hlm
  have hp := trs_get hl
  have hle2 : j < s.length := by omega
  unfold qF at hp
  simp (disch:=first|omega|(refine id ?_;simp only[push_cast];try omega)) only [push_cast,simprocAttr,hjl,Int.toNat_natCast,hp,hle2,hl1]
  refine WD.loop4 (q := qq) (jM G) (by kernel_rfl) (I33b s j l) ?_ _ _ (I33b.mk 0 0 _ _ rfl (Nat.zero_le _) (by rw [List.take_zero,kP,Int.add_zero]) (by first | assumption | (simp (disch:=first|omega|(refine id ?_;simp only[push_cast];try omega)) only [push_cast,simprocAttr,hl1]; try omega)) (by first | assumption | (simp (disch:=first|omega|(refine id ?_;simp only[push_cast];try omega)) only [push_cast,simprocAttr]; try omega)))
  intro m s1 hI
  cases hI with | mk i iv n h hiv hi hn hl1 hl2 =>
  subst hiv hn
  rw [sd_ir33_s2]
  unfold qF
  by_cases hil : (i : Int) < l.length
  ·obtain ⟨x, hx⟩ := jN (l := l) (i := i) (by omega)
   have hp := qY hx
   have hle2 : i * 9 + 9 ≤ l.length * 9 := by omega
   simp (disch:=first|omega|(refine id ?_;simp only[push_cast];try omega)) only [push_cast,simprocAttr,hil,Int.toNat_natCast,hp,hle2,hl1]
   refine jC.dataI (size_t G x (qR hlt x (List.mem_of_getElem? hx))) (by and_intros <;> first | rfl | (simp (disch:=first|omega|(refine id ?_;simp only[push_cast];try omega)) only [push_cast])) ?_
   simp (disch:=first|omega|(refine id ?_;simp only[push_cast];try omega)) only [push_cast,simprocAttr,W_add]
   exact ⟨_,by omega,I33b.mk (i + 1) _ _ _ (by first | rfl | omega) (by omega) (by rw [sizeTs_take hx]; congr 1; omega) (by first | assumption | (simp (disch:=first|omega|(refine id ?_;simp only[push_cast];try omega)) only [push_cast,simprocAttr,hl1]; try omega)) (by first | assumption | (simp (disch:=first|omega|(refine id ?_;simp only[push_cast];try omega)) only [push_cast,simprocAttr]; try omega))⟩
  ·have hie : i = l.length := by omega
   subst hie
   simp (disch:=first|omega|(refine id ?_;simp only[push_cast];try omega)) only [push_cast,simprocAttr,hil]
   rw [sd_ir33_s3]
   simp (disch:=first|omega|(refine id ?_;simp only[push_cast];try omega)) only [push_cast,simprocAttr,List.take_length]
   exact ⟨_,by omega,I33.mk (j + 1) _ _ _ (by first | rfl | omega) (by omega) (by rw [sizeR_take hl]) (by first | assumption | (simp (disch:=first|omega|(refine id ?_;simp only[push_cast];try omega)) only [push_cast,simprocAttr,hl1]; try omega)) (by first | assumption | (simp (disch:=first|omega|(refine id ?_;simp only[push_cast];try omega)) only [push_cast,simprocAttr]; try omega))⟩
 ·have hie : j = s.length := by omega
  subst hie
  simp (disch:=first|omega|(refine id ?_;simp only[push_cast];try omega)) only [push_cast,simprocAttr,hjl]
  rw [sd_ir33_s1]
  simp (disch:=first|omega|(refine id ?_;simp only[push_cast];try omega)) only [push_cast,simprocAttr,List.take_length]
  exact .id rfl
inductive I34 (s : List (List Tm)) : Nat → S → Prop
 | mk (i : Nat) (iv n : Int) (h : jA) {x1 x2 x5 x6 x7 x8 x9 xA xB xC xD xE xF xG xH xI xJ xK xL xM xN xO xP xQ xR xS xT xU xV : Value} (hiv : iv = (i : Int)) (hi : i ≤ s.length) (hn : n = W (bK (s.take i))) (hl1 : h.lo = 1) (hl2 : 1 ≤ h.next) :
  I34 s (s.length - i) ⟨(F32 (trV s) x1 x2 (.int .i64 n) (.int .i64 iv) x5 x6 x7 x8 x9 xA xB xC xD xE xF xG xH xI xJ xK xL xM xN xO xP xQ xR xS xT xU xV), [], h⟩
inductive I34b (s : List (List Tm)) (j : Nat) (l : List Tm) : Nat → S → Prop
 | mk (i : Nat) (iv n : Int) (h : jA) {x1 x2 x6 x7 x8 x9 xA xB xC xD xE xF xG xH xI xJ xK xL xM xN xO xP xQ xR xS xT xU xV : Value} (hiv : iv = (i : Int)) (hi : i ≤ l.length) (hn : n = W (bK (s.take j) + kP (l.take i))) (hl1 : h.lo = 1) (hl2 : 1 ≤ h.next) :
  I34b s j l (l.length - i) ⟨(F32 (trV s) x1 x2 (.int .i64 n) (.int .i64 j) (.int .i64 iv) x6 x7 x8 x9 xA xB xC xD xE xF xG xH xI xJ xK xL xM xN xO xP xQ xR xS xT xU xV), [], h⟩
theorem sizes_r (s : List (List Tm)) (hs : kH s) : jH (pp G) H0 34 [trV s] (.int .i64 (W (bK s))) := by
 have hsl := hs.1
 have hlo : H0.lo ≤ H0.next := Nat.le_refl _; refine jH.cut (jJ.fir4 (q := qq) (jM G) fir34 (by kernel_rfl) rfl rfl (F32_arr ..) (show NGG ≤ H0.lo by rw [jT]; decide) ?_); rw [sd_ir34]
 simp (disch:=first|omega|(refine id ?_;simp only[push_cast];try omega)) only [push_cast,simprocAttr]
 refine WD.loop4 (q := qq) (jM G) (by kernel_rfl) (I34 s) ?_ _ _ (I34.mk 0 0 _ _ rfl (Nat.zero_le _) rfl rfl (by first | assumption | (simp (disch:=first|omega|(refine id ?_;simp only[push_cast];try omega)) only [push_cast,simprocAttr]; try omega)))
 intro m s1 hI
 cases hI with | mk j jv n h hiv hi hn hl1 hl2 =>
 subst hiv hn
 rw [sd_ir34_s0]
 by_cases hjl : (j : Int) < s.length
 ·obtain ⟨l, hl⟩ := jN (l := s) (i := j) (by omega)
  have hlm := List.mem_of_getElem? hl
  obtain ⟨hll, hlt⟩ := hs.2 l hlm
  have hle3 : j < s.length := by omega
  unfold trV
  simp (disch:=first|omega|(refine id ?_;simp only[push_cast];try omega)) only [push_cast,simprocAttr,hjl,Int.toNat_natCast,hle3,hl1]
  refine WD.loop4 (q := qq) (jM G) (by kernel_rfl) (I34b s j l) ?_ _ _ (I34b.mk 0 0 _ _ rfl (Nat.zero_le _) (by rw [List.take_zero,kP,Int.add_zero]) (by first | assumption | (simp (disch:=first|omega|(refine id ?_;simp only[push_cast];try omega)) only [push_cast,simprocAttr,hl1]; try omega)) (by first | assumption | (simp (disch:=first|omega|(refine id ?_;simp only[push_cast];try omega)) only [push_cast,simprocAttr]; try omega)))
  intro m s1 hI
  cases hI with | mk i iv n h hiv hi hn hl1 hl2 =>
  subst hiv hn
  rw [sd_ir34_s2]
  have hq := trs_get hl
  unfold qF at hq
  unfold trV
  by_cases hil : (i : Int) < l.length
  ·obtain ⟨x, hx⟩ := jN (l := l) (i := i) (by omega)
   have hp := qY hx
   have hle2 : i * 9 + 9 ≤ l.length * 9 := by omega
   simp (disch:=first|omega|(refine id ?_;simp only[push_cast];try omega)) only [push_cast,simprocAttr,hil,Int.toNat_natCast,hp,hle2,hl1,hq,hle3,hjl]
   refine jC.dataI (size_r G x (qR hlt x (List.mem_of_getElem? hx))) (by and_intros <;> first | rfl | (simp (disch:=first|omega|(refine id ?_;simp only[push_cast];try omega)) only [push_cast])) ?_
   simp (disch:=first|omega|(refine id ?_;simp only[push_cast];try omega)) only [push_cast,simprocAttr,W_add]
   exact ⟨_,by omega,I34b.mk (i + 1) _ _ _ (by first | rfl | omega) (by omega) (by rw [sizeTs_take hx]; congr 1; omega) (by first | assumption | (simp (disch:=first|omega|(refine id ?_;simp only[push_cast];try omega)) only [push_cast,simprocAttr,hl1]; try omega)) (by first | assumption | (simp (disch:=first|omega|(refine id ?_;simp only[push_cast];try omega)) only [push_cast,simprocAttr]; try omega))⟩
  ·have hie : i = l.length := by omega
   subst hie
   simp (disch:=first|omega|(refine id ?_;simp only[push_cast];try omega)) only [push_cast,simprocAttr,hil,hq,hle3,hjl,hl1,Int.toNat_natCast]
   rw [sd_ir34_s3]
   simp (disch:=first|omega|(refine id ?_;simp only[push_cast];try omega)) only [push_cast,simprocAttr,List.take_length]
   exact ⟨_,by omega,I34.mk (j + 1) _ _ _ (by first | rfl | omega) (by omega) (by rw [sizeR_take hl]) (by first | assumption | (simp (disch:=first|omega|(refine id ?_;simp only[push_cast];try omega)) only [push_cast,simprocAttr,hl1]; try omega)) (by first | assumption | (simp (disch:=first|omega|(refine id ?_;simp only[push_cast];try omega)) only [push_cast,simprocAttr]; try omega))⟩
 ·have hie : j = s.length := by omega
  subst hie
  unfold trV
  simp (disch:=first|omega|(refine id ?_;simp only[push_cast];try omega)) only [push_cast,simprocAttr,hjl]
  rw [sd_ir34_s1]
  simp (disch:=first|omega|(refine id ?_;simp only[push_cast];try omega)) only [push_cast,simprocAttr,List.take_length]
  exact .id rfl
theorem apS_row {e k n by_ m : Nat} {cs xs : List Value} {h : jA} (hl : cs.length = n * k) (ho : cs.all one = true) (hx : xs.all one = true) (hm : 0 < m) (hb : (n + m) * by_ + (n + m) < 100000000000000) :
  apS e k by_ (Rw true e n cs) (some (m, xs)) h = some (.slice (some ⟨h.next, 0, none⟩) (n + m) UC, h.add (O (cs ++ xs) e true)) := by
 show (if xs.all one = true then (if cs.length = n * k ∧ (n + m) * by_ + (n + m) < 100000000000000 ∧ cs.all one = true then (if m = 0 then some (Rw true e n cs, h) else some (.slice (some ⟨h.next, 0, none⟩) (n + m) UC, h.add (O (cs ++ xs) e true))) else none) else none) = _
 rw [if_pos hx, if_pos ⟨hl, hb, ho⟩, if_neg (by omega)]
theorem apS_row0 {e k n by_ : Nat} {cs xs : List Value} {h : jA} (hl : cs.length = n * k) (ho : cs.all one = true) (hx : xs.all one = true) (hb : n * by_ + n < 100000000000000) :
  apS e k by_ (Rw true e n cs) (some (0, xs)) h = some (Rw true e n cs, h) := by
 show (if xs.all one = true then (if cs.length = n * k ∧ (n + 0) * by_ + (n + 0) < 100000000000000 ∧ cs.all one = true then (if 0 = 0 then some (Rw true e n cs, h) else some (.slice (some ⟨h.next, 0, none⟩) (n + 0) UC, h.add (O (cs ++ xs) e true))) else none) else none) = _
 rw [if_pos hx, if_pos ⟨hl, by simpa using hb, ho⟩, if_pos rfl]
theorem beq_self (n : Nat) : Nat.beq n n = true := Nat.beq_refl n
theorem has_f (s : List (List Tm)) (a : Int) (hs : s.length < 100000000000) : jH (pp G) H0 50 [trV s, .int .i64 a] (.bool (decide (0 ≤ a ∧ a < s.length))) := by
 have hlo : H0.lo ≤ H0.next := Nat.le_refl _; refine jH.cut (jJ.fir4 (q := qq) (jM G) fir50 (by kernel_rfl) rfl rfl (F13_arr ..) (show NGG ≤ H0.lo by rw [jT]; decide) ?_); rw [sd_ir50]
 unfold trV
 by_cases h : 0 ≤ a
 ·simp (disch:=first|omega|(refine id ?_;simp only[push_cast];try omega)) only [push_cast,simprocAttr,h,true_and]
  exact .id rfl
 ·simp (disch:=first|omega|(refine id ?_;simp only[push_cast];try omega)) only [push_cast,simprocAttr,h,false_and]
  exact .id rfl
theorem behind_f (l m : List Tm) (hl : l.length < 100000000000) (hm : m.length < 100000000000) : jH (pp G) H0 53 [qF l, qF m] (qF (l ++ m)) := by
 have hlo : H0.lo ≤ H0.next := Nat.le_refl _; refine jH.cut (jJ.fir4 (q := qq) (jM G) fir53 (by kernel_rfl) rfl rfl (F13_arr ..) (show NGG ≤ H0.lo by rw [jT]; decide) ?_); rw [sd_ir53]
 unfold qF
 have ht : (qD l).take (l.length * 9) = qD l := List.take_of_length_le (by rw [qO]; exact Nat.le_refl _)
 by_cases h0 : m.length = 0
 ·obtain rfl : m = [] := List.length_eq_zero_iff.1 h0
  have h1 : l.length * 120 + l.length < 100000000000000 := by omega
  have ha : apS 34 9 120 (Rw true 34 l.length (qD l)) (some (0, [])) H0 = some (Rw true 34 l.length (qD l), H0) := apS_row0 (by rw [qO]) (kJ l) rfl h1
  simp (disch:=first|omega|(refine id ?_;simp only[push_cast];try omega)) only [push_cast,simprocAttr,beq_self,Int.toNat_natCast,ht,List.length_nil,show qD [] = [] from rfl,ha]
  exact .row (.ids (gI _ H0q l))
 have h1 : (l.length + m.length) * 120 + (l.length + m.length) < 100000000000000 := by omega
 have ha : apS 34 9 120 (Rw true 34 l.length (qD l)) (some (m.length, qD m)) H0 = some (.slice (some ⟨H0.next, 0, none⟩) (l.length + m.length) UC, H0.add (O (qD l ++ qD m) 34 true)) := apS_row (by rw [qO]) (kJ l) (kJ m) (by omega) h1
 simp (disch:=first|omega|(refine id ?_;simp only[push_cast];try omega)) only [push_cast,simprocAttr,beq_self,Int.toNat_natCast,ht,ha]
 rw [← gR, ← List.length_append]
 have hlt : (l ++ m).length < U := by rw [List.length_append, show U = 100000000000000 by unfold U; rfl]; omega
 refine .sl (Nat.le_refl _) (bG _ _ _ _ rfl) (size := 9) rfl (by decide) ?_ (.inr ⟨rfl, Nat.le_refl _, by simp, hlt⟩) ?_
 ·rw [qO]; omega
 rw [List.drop_zero, List.take_of_length_le (by rw [qO]; exact Nat.le_refl _)]
 exact .ids (gI _ H0q _)
def qV {α : Type} (s : List α) (a : Int) (l : α) : List α := if 0 ≤ a then s.set a.toNat l else s
theorem kQ {α : Type} (s : List α) (a : Int) (l : α) : (qV s a l).length = s.length := by
 unfold qV; split <;> simp
theorem setZ_eq {α : Type} {s : List α} {i : Nat} {l x : α} (h : s[i]? = some x) : (qV s i l)[i]? = some l := by
 unfold qV
 have := (List.getElem?_eq_some_iff.1 h).1
 rw [if_pos (by omega), Int.toNat_natCast]
 simp [this]
theorem setZ_ne {α : Type} {s : List α} {i : Nat} {a : Int} {l x : α} (h : s[i]? = some x) (hne : ¬ (i : Int) = a) : (qV s a l)[i]? = some x := by
 unfold qV
 split
 ·rw [List.getElem?_set_ne (by omega)]; exact h
 ·exact h
inductive I52 (σ : jA) (s r : List (List Tm)) (a : Int) (l : List Tm) (fv : Value) : Nat → S → Prop
 | mk (i : Nat) (iv : Int) (h : jA) {x0 x4 x5 x6 x7 x8 xA xB xC xD xE xI xJ xK xL xM xN xO xP xQ xR xS xT xU xV xW xX : Value} (hiv : iv = (i : Int)) (hi : i ≤ s.length) (c1 : cells h σ.next = some (trs (r.take i) ++ (List.replicate (s.length - i) [Value.slice none 0 0]).flatten, 32, false)) (hl1 : h.lo = 1) (hl2 : σ.next < h.next) (hg : jG σ h fun _ => False) :
  I52 σ s r a l fv (s.length - i) ⟨(F34 x0 (.int .i64 a) (qF l) fv x4 x5 x6 x7 x8 (.slice (some ⟨σ.next, 0, none⟩) s.length s.length) xA xB xC xD xE (trV s) (.int .i64 s.length) (.int .i64 iv) xI xJ xK xL xM xN xO xP xQ xR xS xT xU xV xW xX), [], h⟩
theorem with_d (σ : jA) (s : List (List Tm)) (a : Int) (l : List Tm) (hs : kH s) (hl : bA l) : jJ (pp G) H0 52 [trV s, .int .i64 a, qF l, .func (.func 54) #[] #[]] σ
  fun v σ' => v = .slice (some ⟨σ.next, 0, none⟩) s.length s.length ∧ σ' = σ.add (O (trs (qV s a l)) eR false) := by
 have ho : ∀ m : List Tm, bA m → jH (pp G) H0 73 [qF m, .func (.func 54) #[] #[]] (qF m) := fun m hm => listtm_f G m 54 hm.1 fun x hx => ownT_f G x (qR hm.2 x hx)
 have hsl := hs.1
 refine jJ.wlog fun hl0 hH0 hp0 hlo => ?_; rw [gM] at hl0; refine jJ.cut (jJ.fir4 (q := qq) (jM G) fir52 (by kernel_rfl) rfl rfl (F34_arr ..) (by rw [hl0]; exact (show NGG ≤ 1 by decide)) ?_); rw [sd_ir52]
 unfold trV
 have h1 : (s.length : Int) * 24 + s.length < 100000000000000 := by omega
 simp (disch:=first|omega|(refine id ?_;simp only[push_cast];try omega)) only [push_cast,simprocAttr,h1]
 refine WD.loop4 (q := qq) (jM G) (by kernel_rfl) (I52 σ s (qV s a l) a l (.func (.func 54) #[] #[])) ?_ _ _ (I52.mk 0 0 _ rfl (Nat.zero_le _) (by simp (disch:=first|omega|(refine id ?_;simp only[push_cast];try omega)) only [push_cast,simprocAttr,List.take_zero]; rfl) (by first | assumption | (simp (disch:=first|omega|(refine id ?_;simp only[push_cast];try omega)) only [push_cast,simprocAttr]; try omega)) (by first | assumption | (simp (disch:=first|omega|(refine id ?_;simp only[push_cast];try omega)) only [push_cast,simprocAttr]; try omega)) (by (repeat (first | exact Gr.refl _ | assumption | (refine jG.put' ?_ _ _ (by first | omega | (simp only [push_cast]; omega))) | (refine jG.add' ?_ _)))))
 intro m s1 hI
 cases hI with | mk i iv h hiv hi c1 hl1 hl2 hg =>
 subst hiv
 rw [sd_ir52_s0]
 unfold trV
 by_cases hil : (i : Int) < s.length
 ·obtain ⟨x, hx⟩ := jN (l := s) (i := i) (by omega)
  have hxm := hs.2 x (List.mem_of_getElem? hx)
  have hp := trs_get hx
  have hle : i < s.length := by omega
  have key : ∀ (y : List Tm) (hy : bA y) (hr : (qV s a l)[i]? = some y) {x4 x5 x6 x7 x8 xC xD xE xI xJ xK xL xM xN xO xP xQ xR xS xT xU xV xW xX x0 : Value} (R : jR → S → Prop)
    (hR : ∀ {x4 x5 x6 x7 x8 xC xD xE xI xJ xK xL xM xN xO xP xQ xR xS xT xU xV xW xX x0 xA xB : Value} (h' : jA), cells h' σ.next = some (trs ((qV s a l).take (i + 1)) ++ (List.replicate (s.length - (i + 1)) [Value.slice none 0 0]).flatten, 32, false) → h'.lo = 1 → σ.next < h'.next → (jG σ h' fun _ => False) →
     @kR ⟨R⟩ .normal ⟨(F34 x0 (.int .i64 a) (qF l) (.func (.func 54) #[] #[]) x4 x5 x6 x7 x8 (.slice (some ⟨σ.next, 0, none⟩) s.length s.length) xA xB xC xD xE (trV s) (.int .i64 s.length) (.int .i64 i) xI xJ xK xL xM xN xO xP xQ xR xS xT xU xV xW xX), [], h'⟩),
    dc3 (pp G) qq none ir52_s2 ⟨(F34 x0 (.int .i64 a) (qF l) (.func (.func 54) #[] #[]) x4 x5 x6 x7 x8 (.slice (some ⟨σ.next, 0, none⟩) s.length s.length) (.int .i64 i) (qF y) xC xD xE (trV s) (.int .i64 s.length) (.int .i64 i) xI xJ xK xL xM xN xO xP xQ xR xS xT xU xV xW xX), [], h⟩ (@kR ⟨R⟩) := by
   intro y hy hr
   intros
   rename_i R hR
   rw [sd_ir52_s2]
   obtain ⟨k, hk⟩ : ∃ k, s.length - i = k + 1 := ⟨s.length - i - 1, by omega⟩
   have hta : (trs ((qV s a l).take i)).length = i := by rw [trs_len, List.length_take, kQ, Nat.min_eq_left hi]
   have hlen := fill_len (w := 1) (z := [Value.slice none 0 0]) (k := s.length - i) (n := s.length) hta rfl (by omega)
   have hst := fill_step (c := [qF y]) (w := 1) (z := [Value.slice none 0 0]) (k := k) hta rfl
   rw [← hk, show [qF y] = trs [y] from rfl, ← trs_app, ← jU hr, show k = s.length - (i + 1) by omega, show trs [y] = [qF y] from rfl] at hst
   simp (disch:=first|omega|(refine id ?_;simp only[push_cast];try omega)) only [push_cast,simprocAttr]
   refine jC.dataI (ho y hy) (by and_intros <;> first | rfl | (simp (disch:=first|omega|(refine id ?_;simp only[push_cast];try omega)) only [push_cast])) ?_
   unfold qF at hst ⊢
   simp (disch:=first|omega|(refine id ?_;simp only[push_cast];try omega)) only [push_cast,simprocAttr,hil,Int.toNat_natCast,hle,hl1,c1,hlen,hst]
   exact hR _ (by first | assumption | (simp (disch:=first|omega|(refine id ?_;simp only[push_cast];try omega)) only [push_cast,simprocAttr]; try omega)) (by first | assumption | (simp (disch:=first|omega|(refine id ?_;simp only[push_cast];try omega)) only [push_cast,simprocAttr,hl1]; try omega)) (by first | assumption | (simp (disch:=first|omega|(refine id ?_;simp only[push_cast];try omega)) only [push_cast,simprocAttr]; try omega)) (by (repeat (first | exact Gr.refl _ | assumption | (refine jG.put' ?_ _ _ (by first | omega | (simp only [push_cast]; omega))) | (refine jG.add' ?_ _))))
  unfold trV at key
  have fin : ∀ (h' : jA) {x4 x5 x6 x7 x8 xC xD xE xI xJ xK xL xM xN xO xP xQ xR xS xT xU xV xW xX x0 xA xB : Value}, cells h' σ.next = some (trs ((qV s a l).take (i + 1)) ++ (List.replicate (s.length - (i + 1)) [Value.slice none 0 0]).flatten, 32, false) → h'.lo = 1 → σ.next < h'.next → (jG σ h' fun _ => False) →
    (∃ m', m' < s.length - i ∧ I52 σ s (qV s a l) a l (.func (.func 54) #[] #[]) m' ⟨(F34 x0 (.int .i64 a) (qF l) (.func (.func 54) #[] #[]) x4 x5 x6 x7 x8 (.slice (some ⟨σ.next, 0, none⟩) s.length s.length) xA xB xC xD xE (Rw false eR s.length (trs s)) (.int .i64 s.length) (.int .i64 ((i : Int) + 1)) xI xJ xK xL xM xN xO xP xQ xR xS xT xU xV xW xX), [], h'⟩) := fun h' => by
   intros
   rename_i c1 hl1 hl2 hg
   exact ⟨_, by omega, I52.mk (i + 1) _ _ (by first | rfl | omega) (by omega) c1 hl1 hl2 hg⟩
  by_cases ha : (i : Int) = a
  ·subst ha
   simp (disch:=first|omega|(refine id ?_;simp only[push_cast];try omega)) only [push_cast,simprocAttr,hil,Int.toNat_natCast,hp,hle,hl1]
   refine key l hl (setZ_eq hx) _ ?_
   intros
   rename_i h' c1' hl1' hl2' hg'
   simp (disch:=first|omega|(refine id ?_;simp only[push_cast];try omega)) only [push_cast,simprocAttr]
   rw [sd_ir52_s3]
   simp (disch:=first|omega|(refine id ?_;simp only[push_cast];try omega)) only [push_cast,simprocAttr,hil]
   exact fin _ c1' hl1' hl2' hg'
  ·simp (disch:=first|omega|(refine id ?_;simp only[push_cast];try omega)) only [push_cast,simprocAttr,hil,Int.toNat_natCast,hp,hle,hl1,ha]
   refine key x hxm (setZ_ne hx ha) _ ?_
   intros
   rename_i h' c1' hl1' hl2' hg'
   simp (disch:=first|omega|(refine id ?_;simp only[push_cast];try omega)) only [push_cast,simprocAttr]
   rw [sd_ir52_s3]
   simp (disch:=first|omega|(refine id ?_;simp only[push_cast];try omega)) only [push_cast,simprocAttr,hil]
   exact fin _ c1' hl1' hl2' hg'
 ·have hie : i = s.length := by omega
  subst hie
  rw [List.take_of_length_le (by rw [kQ]; exact Nat.le_refl _), Nat.sub_self, List.replicate_zero, List.flatten_nil, List.append_nil] at c1
  simp (disch:=first|omega|(refine id ?_;simp only[push_cast];try omega)) only [push_cast,simprocAttr,hil]
  rw [sd_ir52_s1]
  simp (disch:=first|omega|(refine id ?_;simp only[push_cast];try omega)) only [push_cast,simprocAttr]
  refine ⟨.id (by first | assumption | (simp (disch:=first|omega|(refine id ?_;simp only[push_cast];try omega)) only [push_cast,simprocAttr]; try omega)),bP.new1 hg hlo hl2 c1 (.ids (trs_sc _ (by omega) _)) (trs_one _)⟩
theorem with_f (s : List (List Tm)) (a : Int) (l : List Tm) (hs : kH s) (hl : bA l) : jH (pp G) H0 52 [trV s, .int .i64 a, qF l, .func (.func 54) #[] #[]] (trV (qV s a l)) := by
 refine jH.cut ((with_d G H0 s a l hs hl).mono ?_)
 rintro v σ' ⟨rfl, rfl⟩
 have hsl := hs.1
 unfold trV
 rw [kQ]
 refine .sl (Nat.le_refl _) (bG _ _ _ _ rfl) (size := 1) rfl (by decide) (by rw [trs_len, kQ]; omega) (.inl ⟨by simp only [UC]; omega, Nat.le_refl _⟩) ?_
 rw [List.drop_zero, List.take_of_length_le (by rw [trs_len, kQ]; omega)]
 exact .ids (trs_sc _ H0q _)
theorem gY : bA [] := ⟨by simp, rfl⟩
theorem smRow_app {l m : List Tm} (h1 : bA l) (h2 : bA m) (hl : l.length + m.length < 100000000000) : bA (l ++ m) :=
 ⟨by rw [List.length_append]; exact hl, smTs_of fun x hx => (List.mem_append.1 hx).elim (qR h1.2 x) (qR h2.2 x)⟩
theorem gZ {s : List (List Tm)} (h : kH s) (i : Nat) : bA (s.getD i []) := by
 rw [List.getD_eq_getElem?_getD]
 cases hx : s[i]? with
 | none => exact gY
 | some x => exact h.2 x (List.mem_of_getElem? hx)
theorem smRows_set {s : List (List Tm)} {a : Int} {l : List Tm} (h : kH s) (hl : bA l) : kH (qV s a l) := by
 refine ⟨by rw [kQ]; exact h.1, fun x hx => ?_⟩
 unfold qV at hx
 split at hx
 ·rcases List.mem_or_eq_of_mem_set hx with hx | rfl
  ·exact h.2 x hx
  ·exact hl
 ·exact h.2 x hx
inductive IL (s : List (List Tm)) (fv : Value) : Nat → S → Prop
 | mk (i : Nat) (iv : Int) (h : jA) {x0 x2 x3 x4 x6 x7 x8 x9 xA xB xC xD xH xI xJ xK xL xM xN xO xP xQ xR xS : Value} (hiv : iv = (i : Int)) (hi : i ≤ s.length) (c1 : cells h 1 = some (trs (s.take i) ++ (List.replicate (s.length - i) [Value.slice none 0 0]).flatten, 32, false)) (hl1 : h.lo = 1) (hl2 : 2 ≤ h.next) :
  IL s fv (s.length - i) ⟨(F29 x0 fv x2 x3 x4 (.slice (some ⟨1, 0, none⟩) s.length s.length) x6 x7 x8 x9 xA xB xC xD (trV s) (.int .i64 s.length) (.int .i64 iv) xH xI xJ xK xL xM xN xO xP xQ xR xS), [], h⟩
theorem listR_f (s : List (List Tm)) (f : FuncId) (hll : s.length < 100000000000) (hf : ∀ x ∈ s, jH (pp G) H0 f [qF x] (qF x)) : jH (pp G) H0 72 [trV s, .func (.func f) #[] #[]] (trV s) := by
 have hlo : H0.lo ≤ H0.next := Nat.le_refl _; refine jH.cut (jJ.fir4 (q := qq) (jM G) fir72 (by kernel_rfl) rfl rfl (F29_arr ..) (show NGG ≤ H0.lo by rw [jT]; decide) ?_); rw [sd_ir72]
 unfold trV
 by_cases h0 : s.length = 0
 ·have h0' : (s.length : Int) = 0 := by omega
  obtain rfl : s = [] := List.length_eq_zero_iff.1 h0
  simp (disch:=first|omega|(refine id ?_;simp only[push_cast];try omega)) only [push_cast,simprocAttr,h0']
  exact .nil (size := 1) rfl (by decide)
 have h0' : ¬ (s.length : Int) = 0 := by omega
 have h1 : (s.length : Int) * 400 + s.length < 100000000000000 := by omega
 simp (disch:=first|omega|(refine id ?_;simp only[push_cast];try omega)) only [push_cast,simprocAttr,h0',h1]
 refine WD.loop4 (q := qq) (jM G) (by kernel_rfl) (IL s (.func (.func f) #[] #[])) ?_ _ _ (IL.mk 0 0 _ rfl (Nat.zero_le _) (by simp (disch:=first|omega|(refine id ?_;simp only[push_cast];try omega)) only [push_cast,simprocAttr,List.take_zero]; rfl) rfl (by first | assumption | (simp (disch:=first|omega|(refine id ?_;simp only[push_cast];try omega)) only [push_cast,simprocAttr]; try omega)))
 intro m s1 hI
 cases hI with | mk i iv h hiv hi c1 hl1 hl2 =>
 subst hiv
 rw [sd_ir72_s0]
 unfold trV
 by_cases hil : (i : Int) < s.length
 ·obtain ⟨x, hx⟩ := jN (l := s) (i := i) (by omega)
  have hxm := List.mem_of_getElem? hx
  have hp := trs_get hx
  have hle : i < s.length := by omega
  simp (disch:=first|omega|(refine id ?_;simp only[push_cast];try omega)) only [push_cast,simprocAttr,hil,Int.toNat_natCast,hp,hle,hl1]
  refine jC.dataI (hf x hxm) (by and_intros <;> first | rfl | (simp (disch:=first|omega|(refine id ?_;simp only[push_cast];try omega)) only [push_cast])) ?_
  obtain ⟨k, hk⟩ : ∃ k, s.length - i = k + 1 := ⟨s.length - i - 1, by omega⟩
  have hta : (trs (s.take i)).length = i := by rw [trs_len, List.length_take, Nat.min_eq_left hi]
  have hlen := fill_len (w := 1) (z := [Value.slice none 0 0]) (k := s.length - i) (n := s.length) hta rfl (by omega)
  have hst := fill_step (c := [qF x]) (w := 1) (z := [Value.slice none 0 0]) (k := k) hta rfl
  rw [← hk, show [qF x] = trs [x] from rfl, ← trs_app, ← jU hx, show k = s.length - (i + 1) by omega, show trs [x] = [qF x] from rfl] at hst
  unfold qF at hst ⊢
  simp (disch:=first|omega|(refine id ?_;simp only[push_cast];try omega)) only [push_cast,simprocAttr,hil,Int.toNat_natCast,hle,hl1,c1,hlen,hst]
  exact ⟨_,by omega,IL.mk (i + 1) _ _ (by first | rfl | omega) (by omega) (by first | assumption | (simp (disch:=first|omega|(refine id ?_;simp only[push_cast];try omega)) only [push_cast,simprocAttr]; try omega)) (by first | assumption | (simp (disch:=first|omega|(refine id ?_;simp only[push_cast];try omega)) only [push_cast,simprocAttr,hl1]; try omega)) (by first | assumption | (simp (disch:=first|omega|(refine id ?_;simp only[push_cast];try omega)) only [push_cast,simprocAttr]; try omega))⟩
 ·have hie : i = s.length := by omega
  subst hie
  rw [List.take_length, Nat.sub_self, List.replicate_zero, List.flatten_nil, List.append_nil] at c1
  simp (disch:=first|omega|(refine id ?_;simp only[push_cast];try omega)) only [push_cast,simprocAttr,hil]
  rw [sd_ir72_s1]
  simp (disch:=first|omega|(refine id ?_;simp only[push_cast];try omega)) only [push_cast,simprocAttr]
  refine .sl (by simp (disch:=first|omega|(refine id ?_;simp only[push_cast];try omega)) only [push_cast,simprocAttr]) c1 (size := 1) rfl (by decide) (by first | assumption | (simp (disch:=first|omega|(refine id ?_;simp only[push_cast];try omega)) only [push_cast,simprocAttr]; try omega)) (.inl ⟨by simp only [UC]; omega,Nat.le_refl _⟩) ?_
  rw [List.drop_zero, List.take_of_length_le (by rw [trs_len]; omega)]
  exact .ids (trs_sc _ H0q s)
theorem ownTs_f (l : List Tm) (hl : bA l) : jH (pp G) H0 56 [qF l] (qF l) := by
 have hlo : H0.lo ≤ H0.next := Nat.le_refl _; refine jH.cut (jJ.fir4 (q := qq) (jM G) fir56 (by kernel_rfl) rfl rfl (F5_arr ..) (show NGG ≤ H0.lo by rw [jT]; decide) ?_); rw [sd_ir56]
 simp (disch:=first|omega|(refine id ?_;simp only[push_cast];try omega)) only [push_cast,simprocAttr]
 refine jC.dataI (listtm_f G l 54 hl.1 fun x hx => ownT_f G x (qR hl.2 x hx)) (by and_intros <;> first | rfl | (simp (disch:=first|omega|(refine id ?_;simp only[push_cast];try omega)) only [push_cast])) ?_
 simp (disch:=first|omega|(refine id ?_;simp only[push_cast];try omega)) only [push_cast,simprocAttr]
 exact .id (tmsV_sc _ H0q l)
@[push_cast]theorem uZ (n : Nat) (hn : 0 < n) (s : List (List Tm)) : Ev.sc n (trV s) = true := trR_sc n hn ..
theorem ownS_f (s : List (List Tm)) (hs : kH s) : jH (pp G) H0 51 [trV s] (trV s) := by
 have hlo : H0.lo ≤ H0.next := Nat.le_refl _; refine jH.cut (jJ.fir4 (q := qq) (jM G) fir51 (by kernel_rfl) rfl rfl (F5_arr ..) (show NGG ≤ H0.lo by rw [jT]; decide) ?_); rw [sd_ir51]
 simp (disch:=first|omega|(refine id ?_;simp only[push_cast];try omega)) only [push_cast,simprocAttr]
 refine jC.dataI (listR_f G s 56 hs.1 fun x hx => ownTs_f G x (hs.2 x hx)) (by and_intros <;> first | rfl | (simp (disch:=first|omega|(refine id ?_;simp only[push_cast];try omega)) only [push_cast])) ?_
 simp (disch:=first|omega|(refine id ?_;simp only[push_cast];try omega)) only [push_cast,simprocAttr]
 exact .id (uZ _ H0q s)
theorem nil_tr (n : Nat) (σ : jA) : FzV (pp G).P n σ (.slice none 0 0) (trV []) := .nil (size := 1) rfl (by decide)
theorem rowT1 (t : Tm) (σ : jA) : bsD (qq.m 32) (slT Try.prog 32) 1 [(0, tmV t)] σ = some (Rw true 34 1 (qD [t]), σ) := by
 rw [tmCs_1]; cases t; kernel_rfl
theorem trs_get' {s : List (List Tm)} {i : Nat} (h : i < s.length) : (trs s)[i]? = some (qF (s.getD i [])) := by simp [trs, h]
theorem push_in (s : List (List Tm)) (a : Int) (t : Tm) (hs : kH s) (hgl : (s.getD a.toNat []).length + 1 < 100000000000) (ht : smT t = true) (ha : 0 ≤ a ∧ a < s.length) : jH (pp G) H0 23 [trV s, .int .i64 a, tmV t] (trV (qV s a (s.getD a.toNat [] ++ [t]))) := by
 have hg := gZ hs a.toNat
 have hsl := hs.1
 have hlo : H0.lo ≤ H0.next := Nat.le_refl _; refine jH.cut (jJ.fir4 (q := qq) (jM G) fir23 (by kernel_rfl) rfl rfl (F23_arr ..) (show NGG ≤ H0.lo by rw [jT]; decide) ?_); rw [sd_ir23]
 simp (disch:=first|omega|(refine id ?_;simp only[push_cast];try omega)) only [push_cast,simprocAttr]
 refine jC.dataI (has_f G s a hs.1) (by and_intros <;> first | rfl | (simp (disch:=first|omega|(refine id ?_;simp only[push_cast];try omega)) only [push_cast])) ?_
 have hp := trs_get' (s := s) (i := a.toNat) (by omega)
 have hd : decide (0 ≤ a ∧ a < (s.length : Int)) = true := by simpa using ha
 have hc : (a.toNat : Int) = a := by omega
 have hlt : a.toNat < s.length := by omega
 have hsr : bA (s.getD a.toNat [] ++ [t]) := smRow_app hg ⟨by simp, by simp [gF, ht]⟩ (by rw [List.length_cons, List.length_nil]; omega)
 unfold trV
 simp (disch:=first|omega|(refine id ?_;simp only[push_cast];try omega)) only [push_cast,simprocAttr,hd,hp,hc,hlt,ha.1,ha.2,↓rowT1]
 refine jC.data (behind_f G (s.getD a.toNat []) [t] (by omega) (by simp)) (.cons (.id (tmsV_sc _ H0q _)) (.cons (.row (.ids (gI _ H0q _))) .nil)) (by first | rfl | (simp (disch:=first|omega|(refine id ?_;simp only[push_cast];try omega)) only [push_cast])) (by first | rfl | (simp (disch:=first|omega|(refine id ?_;simp only[push_cast];try omega)) only [push_cast])) ?_
 simp (disch:=first|omega|(refine id ?_;simp only[push_cast];try omega)) only [push_cast,simprocAttr]
 refine jC.dataI (with_f G s a (s.getD a.toNat [] ++ [t]) hs hsr) (by and_intros <;> first | rfl | (simp (disch:=first|omega|(refine id ?_;simp only[push_cast];try omega)) only [push_cast])) ?_
 simp (disch:=first|omega|(refine id ?_;simp only[push_cast];try omega)) only [push_cast,simprocAttr]
 exact .id (uZ _ H0q _)
theorem accept_f (s : List (List Tm)) (a : Int) (hs : kH s) : jH (pp G) H0 28 [trV s, .int .i64 a] (trV (qV s a [])) := by
 have hlo : H0.lo ≤ H0.next := Nat.le_refl _; refine jH.cut (jJ.fir4 (q := qq) (jM G) fir28 (by kernel_rfl) rfl rfl (F8_arr ..) (show NGG ≤ H0.lo by rw [jT]; decide) ?_); rw [sd_ir28]
 simp (disch:=first|omega|(refine id ?_;simp only[push_cast];try omega)) only [push_cast,simprocAttr]
 refine jC.data (with_f G s a [] hs gY) (by repeat' (first | exact FzL.nil | apply FzL.cons | exact FzV.id rfl | (refine FzV.id ?_; simp (disch:=first|omega|(refine id ?_;simp only[push_cast];try omega)) only [push_cast]; done) | exact nil_Tm .. | exact nil_Ex .. | exact nil_tr .. | exact nil_iv .. | exact nil_Pr .. | exact nil_ns .. | apply FzV.agg | apply FzV.row)) (by first | rfl | (simp (disch:=first|omega|(refine id ?_;simp only[push_cast];try omega)) only [push_cast])) (by first | rfl | (simp (disch:=first|omega|(refine id ?_;simp only[push_cast];try omega)) only [push_cast])) ?_
 simp (disch:=first|omega|(refine id ?_;simp only[push_cast];try omega)) only [push_cast,simprocAttr]
 exact .id (uZ _ H0q _)
def mergeF (s : List (List Tm)) (a b : Int) : List (List Tm) := if a = b then s else qV (qV s b (s.getD b.toNat [] ++ s.getD a.toNat [])) a []
theorem merge_f (s : List (List Tm)) (a b : Int) (hs : kH s) (hl : (s.getD b.toNat []).length + (s.getD a.toNat []).length < 100000000000) (ha : 0 ≤ a ∧ a < s.length) (hb : 0 ≤ b ∧ b < s.length) :
  jH (pp G) H0 30 [trV s, .int .i64 a, .int .i64 b] (trV (mergeF s a b)) := by
 have hga := gZ hs a.toNat
 have hgb := gZ hs b.toNat
 have hsl := hs.1
 unfold mergeF
 have hlo : H0.lo ≤ H0.next := Nat.le_refl _; refine jH.cut (jJ.fir4 (q := qq) (jM G) fir30 (by kernel_rfl) rfl rfl (F41_arr ..) (show NGG ≤ H0.lo by rw [jT]; decide) ?_); rw [sd_ir30]
 simp (disch:=first|omega|(refine id ?_;simp only[push_cast];try omega)) only [push_cast,simprocAttr]
 refine jC.dataI (has_f G s a hs.1) (by and_intros <;> first | rfl | (simp (disch:=first|omega|(refine id ?_;simp only[push_cast];try omega)) only [push_cast])) ?_
 have hd : decide (0 ≤ a ∧ a < (s.length : Int)) = true := by simpa using ha
 have hd2 : decide (0 ≤ b ∧ b < (s.length : Int)) = true := by simpa using hb
 simp (disch:=first|omega|(refine id ?_;simp only[push_cast];try omega)) only [push_cast,simprocAttr,hd]
 refine jC.dataI (has_f G s b hs.1) (by and_intros <;> first | rfl | (simp (disch:=first|omega|(refine id ?_;simp only[push_cast];try omega)) only [push_cast])) ?_
 by_cases hab : a = b
 ·rw [if_pos hab]
  subst hab
  simp (disch:=first|omega|(refine id ?_;simp only[push_cast];try omega)) only [push_cast,simprocAttr,hd2]
  refine jC.dataI (ownS_f G s hs) (by and_intros <;> first | rfl | (simp (disch:=first|omega|(refine id ?_;simp only[push_cast];try omega)) only [push_cast])) ?_
  simp (disch:=first|omega|(refine id ?_;simp only[push_cast];try omega)) only [push_cast,simprocAttr]
  exact .id (uZ _ H0q _)
 rw [if_neg hab]
 have hp := trs_get' (s := s) (i := a.toNat) (by omega)
 have hp2 := trs_get' (s := s) (i := b.toNat) (by omega)
 have hc : (a.toNat : Int) = a := by omega
 have hc2 : (b.toNat : Int) = b := by omega
 have hlt : a.toNat < s.length := by omega
 have hlt2 : b.toNat < s.length := by omega
 have hsr : bA (s.getD b.toNat [] ++ s.getD a.toNat []) := smRow_app hgb hga hl
 obtain ⟨r, hr⟩ : ∃ r, r = qV s b (s.getD b.toNat [] ++ s.getD a.toNat []) := ⟨_, rfl⟩
 have hw := with_d G H0 s b (s.getD b.toNat [] ++ s.getD a.toNat []) hs hsr
 have hrl : r.length = s.length := by rw [hr, kQ]
 rw [← hr] at hw ⊢
 unfold trV
 simp (disch:=first|omega|(refine id ?_;simp only[push_cast];try omega)) only [push_cast,simprocAttr,hd2,hab,hp,hp2,hlt,hlt2,ha.1,ha.2,hb.1,hb.2]
 refine jC.dataI (behind_f G (s.getD b.toNat []) (s.getD a.toNat []) hgb.1 hga.1) (by and_intros <;> first | rfl | (simp (disch:=first|omega|(refine id ?_;simp only[push_cast];try omega)) only [push_cast])) ?_
 simp (disch:=first|omega|(refine id ?_;simp only[push_cast];try omega)) only [push_cast,simprocAttr]
 refine jC.new1 (hw) (by first | exact FzL.ids rfl | (refine FzL.ids ?_; simp (disch:=first|omega|(refine id ?_;simp only[push_cast];try omega)) only [push_cast])) (by first | rfl | (simp (disch:=first|omega|(refine id ?_;simp only[push_cast];try omega)) only [push_cast])) (by first | rfl | (simp (disch:=first|omega|(refine id ?_;simp only[push_cast];try omega)) only [push_cast])) ?_
 simp (disch:=first|omega|(refine id ?_;simp only[push_cast];try omega)) only [push_cast,simprocAttr,ha.1,ha.2,hlt,hrl]
 have hq : r = r.take a.toNat ++ (r.drop a.toNat) := (List.take_append_drop _ _).symm
 have hdr : r.drop a.toNat = r.getD a.toNat [] :: r.drop (a.toNat + 1) := by
  rw [List.drop_eq_getElem_cons (by omega), List.getD_eq_getElem?_getD, List.getElem?_eq_getElem (by omega)]; rfl
 have hz : qV r a [] = r.take a.toNat ++ [] :: r.drop (a.toNat + 1) := by
  unfold qV
  rw [if_pos ha.1, List.set_eq_take_append_cons_drop, if_pos (by omega)]
 rw [hz]
 have e1 : (r.take a.toNat ++ [] :: r.drop (a.toNat + 1)).length = s.length := by
  rw [← hz, kQ, hrl]
 rw [e1]
 refine .sl (Nat.le_refl _) (cells_put_s _ _ _ _) (size := 1) rfl (by decide) ?_ (.inl ⟨by simp only [UC]; omega, Nat.le_refl _⟩) ?_
 ·simp only [List.length_append, List.length_take, List.length_drop, trs_len, List.length_cons, List.length_nil]; omega
 rw [List.drop_zero, List.take_of_length_le (i := s.length * 1) (by simp only [List.length_append, List.length_take, List.length_drop, trs_len, List.length_cons, List.length_nil]; omega), trs_app, show trs ([] :: r.drop (a.toNat + 1)) = [qF []] ++ trs (r.drop (a.toNat + 1)) from rfl, List.append_assoc]
 have t1 : (trs r).take a.toNat = trs (r.take a.toNat) := by simp [trs, List.map_take]
 have t2 : (trs r).drop (a.toNat + 1) = trs (r.drop (a.toNat + 1)) := by simp [trs, List.map_drop]
 rw [t1, t2]
 exact (FzL.ids (trs_sc _ H0q _)).app (.cons (nil_Tm G _ _) (.ids (trs_sc _ H0q _)))
def zE : Ex := .mk 0 0 [] []
def zT : Tm := .mk 0 0 0 [] zE []
def backF (x : Tm) : List Tm → Tm
 | [] => x
 | t :: r => .mk 12 0 0 [] zE [t, backF x r]
def kO (x : Tm) : List Tm → List Value
 | [] => tmC x
 | t :: r => [.int .i64 12, .int .i64 0, .int .i64 0, .string (Tx []), .int .i64 0, .int .i64 0, .string (Tx []), .slice none 0 0, Rw true 34 2 (tmC t ++ kO x r)]
def revF : List Tm → Tm
 | [] => zT
 | x :: r => backF x r.reverse
theorem backC_len (x : Tm) (r : List Tm) : (kO x r).length = 9 := by cases r <;> simp [kO, tmC_len]
theorem backC_one (x : Tm) (r : List Tm) : (kO x r).all one = true := by
 cases r with
 | nil => exact tmC_one x
 | cons t r => rfl
theorem backC_fz (n : Nat) (hn : 0 < n) (σ : jA) (x : Tm) : ∀ r : List Tm, FzL (pp G).P n σ (kO x r) (tmC (backF x r))
 | [] => .ids (tmC_sc n hn x)
 | t :: r => by
  rw [kO, backF]
  refine .cons (.id rfl) (.cons (.id rfl) (.cons (.id rfl) (.cons (.id rfl) (.cons (.id rfl) (.cons (.id rfl) (.cons (.id rfl) (.cons (nil_Ex G n σ) (.cons (.row ?_) .nil))))))))
  rw [show qD [t, backF x r] = tmC t ++ tmC (backF x r) by rw [qD, tmCs_1]]
  exact (FzL.ids (tmC_sc n hn t)).app (backC_fz n hn σ x r)
theorem row2 (t x : Tm) (r : List Tm) (σ : jA) : bsD (qq.m 32) (slT Try.prog 32) 2 [(0, tmV t), (1, .agg ⟨kO x r⟩)] σ = some (Rw true 34 2 (tmC t ++ kO x r), σ) := by
 cases r with
 | nil => rw [kO]; cases t; cases x; kernel_rfl
 | cons u r => rw [kO]; generalize kO x r = c; cases t; cases u; kernel_rfl
theorem backF_sm {x : Tm} (hx : smT x = true) : ∀ {r : List Tm}, gF r = true → smT (backF x r) = true
 | [], _ => hx
 | t :: r, h => by
  simp only [gF, Bool.and_eq_true] at h
  rw [backF]
  simp [smT, gF, h.1, backF_sm hx h.2, zE, smE, smEs]
inductive I25 (s : List (List Tm)) (a : Int) (x : Tm) (l : List Tm) : Nat → S → Prop
 | mk (i : Nat) (iv : Int) (h : jA) {x2 x3 x5 x6 x8 x9 xA xB xC xD xE xF xG xH xI xJ xK xL xM xN xO xP xQ xR xS xT xU xV xW xX yB yC yD yE yF yG yH yI yJ yK yL yM : Value} (hiv : iv = (i : Int)) (hi : i ≤ l.length)
   (c0 : cells h 1 = some ([.int .i64 0, .int .i64 0, .int .i64 0, .string (Tx []), .int .i64 0, .int .i64 0, .string (Tx []), .slice none 0 0, .slice none 0 0], 34, false))
   (c1 : cells h 2 = some (kO x (l.take i).reverse, 34, false)) (hl1 : h.lo = 1) (hl2 : 3 ≤ h.next) :
  I25 s a x l (l.length - i) ⟨(F49 (trV s) (.int .i64 a) x2 x3 (.pointer (some ⟨1, 0, none⟩)) x5 x6 (.pointer (some ⟨2, 0, none⟩)) x8 x9 xA xB xC xD xE xF xG xH xI xJ xK xL xM xN xO xP xQ xR xS xT xU xV xW xX (qF l) (.int .i64 l.length) (.int .i64 iv) yB yC yD yE yF yG yH yI yJ yK yL yM), [], h⟩
def ttV (t : Tm) (s : List (List Tm)) : Value := .tuple ⟨[tmV t, trV s]⟩
theorem rev_take (l : List Tm) {i : Nat} {t : Tm} (h : l[i]? = some t) : (l.take (i + 1)).reverse = t :: (l.take i).reverse := by
 rw [jU h, List.reverse_append]; rfl
theorem reverse_f (s : List (List Tm)) (a : Int) (hs : kH s) (ha : 0 ≤ a ∧ a < s.length) :
  jH (pp G) H0 25 [trV s, .int .i64 a] (ttV (revF (s.getD a.toNat [])) (qV s a [])) := by
 have hga := gZ hs a.toNat
 have hsl := hs.1
 have hp := trs_get' (s := s) (i := a.toNat) (by omega)
 have hc : (a.toNat : Int) = a := by omega
 have hlt : a.toNat < s.length := by omega
 have hset : s.getD a.toNat [] = [] → qV s a [] = s := fun h0 => by
  unfold qV
  rw [if_pos ha.1]
  rw [List.getD_eq_getElem?_getD, List.getElem?_eq_getElem hlt] at h0
  simp only [Option.getD_some] at h0
  rw [← h0]
  exact List.set_getElem_self hlt
 generalize s.getD a.toNat [] = row at hga hp hset
 have hd : decide (0 ≤ a ∧ a < (s.length : Int)) = true := by simpa using ha
 have hrl := hga.1
 have hlo : H0.lo ≤ H0.next := Nat.le_refl _; refine jH.cut (jJ.fir4 (q := qq) (jM G) fir25 (by kernel_rfl) rfl rfl (F49_arr ..) (show NGG ≤ H0.lo by rw [jT]; decide) ?_); rw [sd_ir25]
 simp (disch:=first|omega|(refine id ?_;simp only[push_cast];try omega)) only [push_cast,simprocAttr]
 refine jC.dataI (has_f G s a hs.1) (by and_intros <;> first | rfl | (simp (disch:=first|omega|(refine id ?_;simp only[push_cast];try omega)) only [push_cast])) ?_
 cases row with
 | nil =>
  rw [hset rfl]
  unfold trV
  unfold qF at hp
  simp (disch:=first|omega|(refine id ?_;simp only[push_cast];try omega)) only [push_cast,simprocAttr,hd,hp,hlt,ha.1,ha.2,List.length_nil,show ((0 : Nat) : Int) = 0 from rfl]
  have := ownS_f G s hs
  unfold trV at this
  refine jC.dataI (this) (by and_intros <;> first | rfl | (simp (disch:=first|omega|(refine id ?_;simp only[push_cast];try omega)) only [push_cast])) ?_
  simp (disch:=first|omega|(refine id ?_;simp only[push_cast];try omega)) only [push_cast,simprocAttr]
  refine .tup (.cons (.agg ?_) (.cons (.id (trR_sc _ H0q _ _ _)) .nil))
  exact .cons (.id rfl) (.cons (.id rfl) (.cons (.id rfl) (.cons (.id rfl) (.cons (.id rfl) (.cons (.id rfl) (.cons (.id rfl) (.cons (nil_Ex G _ _) (.cons (nil_Tm G _ _) .nil))))))))
 | cons x l =>
  have hll : l.length + 1 < 100000000000 := by simpa using hrl
  have hxs : smT x = true := qR hga.2 x (by simp)
  have hls : gF l = true := by have := hga.2; simp only [gF, Bool.and_eq_true] at this; exact this.2
  have hne : ¬ ((l.length : Int) + 1) = 0 := by omega
  have h9 : 9 ≤ (l.length + 1) * 9 := by omega
  have hT : jH (pp G) H0 56 [Rw false etm (x :: l).length (qD (x :: l))] (Rw false etm (x :: l).length (qD (x :: l))) := ownTs_f G _ hga
  have hdr : (qD (x :: l)).drop 9 = qD l := by
   have := tmCs_drop (x :: l) 1
   simpa using this
  unfold trV
  unfold qF at hp
  simp (disch:=first|omega|(refine id ?_;simp only[push_cast];try omega)) only [push_cast,simprocAttr,hd,hp,hlt,ha.1,ha.2,List.length_cons,hne]
  rw [List.length_cons] at hT
  refine jC.dataI (hT) (by and_intros <;> first | rfl | (simp (disch:=first|omega|(refine id ?_;simp only[push_cast];try omega)) only [push_cast])) ?_
  have e2 : (l.length : Int) + 1 - 1 = l.length := by omega
  simp (disch:=first|omega|(refine id ?_;simp only[push_cast];try omega)) only [push_cast,simprocAttr,h9,List.length_cons,hdr,Nat.add_sub_cancel,e2]
  refine WD.loop4 (q := qq) (jM G) (by kernel_rfl) (I25 s a x l) ?_ _ _ (I25.mk 0 0 _ rfl (Nat.zero_le _) (by simp (disch:=first|omega|(refine id ?_;simp only[push_cast];try omega)) only [push_cast,simprocAttr]) (by simp (disch:=first|omega|(refine id ?_;simp only[push_cast];try omega)) only [push_cast,simprocAttr]; rfl) rfl (by first | assumption | (simp (disch:=first|omega|(refine id ?_;simp only[push_cast];try omega)) only [push_cast,simprocAttr]; try omega)))
  intro m s1 hI
  cases hI with | mk i iv h hiv hi c0 c1 hl1 hl2 =>
  subst hiv
  rw [sd_ir25_s0]
  unfold trV qF
  by_cases hil : (i : Int) < l.length
  ·obtain ⟨t, ht⟩ := jN (l := l) (i := i) (by omega)
   have hpt := qY ht
   have hle2 : i * 9 + 9 ≤ l.length * 9 := by omega
   have hbl := backC_len x (l.take i).reverse
   have hbt : (kO x (l.take i).reverse).take 9 = kO x (l.take i).reverse := List.take_of_length_le (by rw [hbl]; omega)
   have hbd : (kO x (l.take i).reverse).drop 9 = [] := List.drop_of_length_le (by rw [hbl]; omega)
   have hbo := backC_one x (l.take i).reverse
   simp (disch:=first|omega|(refine id ?_;simp only[push_cast];try omega)) only [push_cast,simprocAttr,hil,Int.toNat_natCast,hpt,hle2,hl1,c1,hbl,hbt,hbd,hbo,↓row2]
   exact ⟨_,by omega,I25.mk (i + 1) _ _ (by first | rfl | omega) (by omega) (by first | assumption | (simp (disch:=first|omega|(refine id ?_;simp only[push_cast];try omega)) only [push_cast,simprocAttr,c0]; try omega)) (by rw [rev_take l ht,kO]; simp (disch:=first|omega|(refine id ?_;simp only[push_cast];try omega)) only [push_cast,simprocAttr]) (by first | assumption | (simp (disch:=first|omega|(refine id ?_;simp only[push_cast];try omega)) only [push_cast,simprocAttr,hl1]; try omega)) (by first | assumption | (simp (disch:=first|omega|(refine id ?_;simp only[push_cast];try omega)) only [push_cast,simprocAttr]; try omega))⟩
  ·have hie : i = l.length := by omega
   subst hie
   rw [List.take_length] at c1
   have hbl := backC_len x l.reverse
   have hbt : (kO x l.reverse).take 9 = kO x l.reverse := List.take_of_length_le (by rw [hbl]; omega)
   have hbd : (kO x l.reverse).drop 9 = [] := List.drop_of_length_le (by rw [hbl]; omega)
   have hbo := backC_one x l.reverse
   simp (disch:=first|omega|(refine id ?_;simp only[push_cast];try omega)) only [push_cast,simprocAttr,hil]
   rw [sd_ir25_s1]
   simp (disch:=first|omega|(refine id ?_;simp only[push_cast];try omega)) only [push_cast,simprocAttr,c1,hbl,hbt,hl1]
   have hA := accept_f G s a hs
   unfold trV at hA
   refine jC.dataI (hA) (by and_intros <;> first | rfl | (simp (disch:=first|omega|(refine id ?_;simp only[push_cast];try omega)) only [push_cast])) ?_
   simp (disch:=first|omega|(refine id ?_;simp only[push_cast];try omega)) only [push_cast,simprocAttr,c0,hl1,hbl,hbo,hbt,hbd]
   refine .tup (.cons (.agg (backC_fz G _ H0q _ x _)) (.cons (.id (trR_sc _ H0q _ _ _)) .nil))
def RowsAt (h : jA) (lo : Nat) (vs : List Value) (r : List (List Tm)) (a : Option Addr) : Prop :=
 vs.length = r.length ∧ ∀ (j : Nat) (v : Value) (row : List Tm), vs[j]? = some v → r[j]? = some row → ∃ b c, v = .slice b row.length c ∧ qA h 34 9 b row.length c (qD row) ∧ ∀ k, blk b k → ¬ blk a k ∧ lo ≤ k
theorem RowsAt.grew {h h' : jA} {lo : Nat} {vs : List Value} {r : List (List Tm)} {a : Option Addr} {S : Nat → Prop} (hr : RowsAt h lo vs r a) (g : jG h h' S) (hS : ∀ b, S b → blk a b) : RowsAt h' lo vs r a :=
 ⟨hr.1, fun j v row h1 h2 => by
  obtain ⟨b, c, e, ho, hn⟩ := hr.2 j v row h1 h2
  exact ⟨b, c, e, ho.grew g fun k hk hs => (hn k hk).1 (hS _ hs), hn⟩⟩
theorem RowsAt.fz {P : Program} {h : jA} {lo : Nat} {N : Nat} (hN : N ≤ lo) (h0 : 0 < N) (hs : szT P 34 = some 9) {a : Option Addr} : ∀ {vs : List Value} {r : List (List Tm)}, RowsAt h lo vs r a → (∀ row ∈ r, row.length < 100000000000) → FzL P N h vs (trs r)
 | [], [], _, _ => .nil
 | [], _ :: _, hr, _ => by have := hr.1; simp at this
 | _ :: _, [], hr, _ => by have := hr.1; simp at this
 | v :: vs, row :: r, hr, hl => by
  obtain ⟨b, c, rfl, ho, hb⟩ := hr.2 0 v row rfl rfl
  refine .cons (ho.fz hs (by omega) (by have := hl row (by simp); omega) (.ids (gI N h0 row)) fun k hk => Nat.le_trans hN (hb k hk).2) (RowsAt.fz hN h0 hs ⟨by simpa using hr.1, fun j v row h1 h2 => hr.2 (j + 1) v row (by simpa using h1) (by simpa using h2)⟩ fun x hx => hl x (by simp [hx]))
theorem qA.lt {σ : jA} {e n : Nat} {a : Option Addr} {len c : Nat} {cs : List Value} (ho : qA σ e n a len c cs) {b : Nat} (hb : blk a b) : σ.lo ≤ b ∧ b < σ.next := by
 obtain ⟨o, s, rfl⟩ := hb
 rcases ho.hat with ⟨e, _⟩ | ⟨q, _, e, h1, h2, _⟩
 ·cases e
 ·cases e; exact ⟨h1, h2⟩
theorem own0 {σ : jA} (hlo : σ.lo ≤ σ.next) : qA (σ.add (O [] 34 false)) 34 9 (some ⟨σ.next, 0, none⟩) 0 0 [] :=
 ⟨by simp, rfl, .inr ⟨σ.next, false, rfl, by rw [jZ]; exact hlo, by rw [jK]; omega, bG _ _ _ _ rfl, .inr ⟨rfl, rfl⟩⟩⟩
theorem row0 (σ : jA) : bsD (qq.m 32) (slT Try.prog 32) 0 [] σ = some (.slice (some ⟨σ.next, 0, none⟩) 0 0, σ.add (O [] 34 false)) := by kernel_rfl
theorem rowS1 (v : Value) (ho : one v = true) (hc : v.cells.toList = [v]) (σ : jA) : bsD (qq.m 26) (slT Try.prog 26) 1 [(0, v)] σ = some (Rw true eR 1 [v], σ) := by
 have : bsD false (some (eR, 1, [Value.slice none 0 0])) 1 [(0, v)] σ = some (Rw true eR 1 [v], σ) := by
  rw [bsD_eq _ _ _ _ (by decide)]
  have hf : kW ((List.range 1).map (fun i => (i * 1, 1))) (List.replicate 1 [Value.slice none 0 0]).flatten [(0, v)] = some [v] := by
   simp [kW, hc, setFrom]
  rw [hf]
  exact bsDC_r 1 (by simp [ho]) (by omega)
 exact this
inductive I55 (s r : List (List Tm)) (a : Int) (row : List Tm) : Nat → S → Prop
 | mk (i : Nat) (iv : Int) (h : jA) (q : Option Addr) (c : Nat) (vs : List Value) {x3 x4 x5 x6 x9 xA xB xC xD xE xF xG xH xI xJ xK xL xM xN xO xP xQ xR xS xT xU : Value} (hiv : iv = (i : Int)) (hi : i ≤ s.length)
   (ho : qA h eR 1 q i c vs) (hv : RowsAt h 1 vs (r.take i) q) (hq : ∀ b, blk q b → 1 ≤ b) (hl1 : h.lo = 1) (hl2 : 1 ≤ h.next) :
  I55 s r a row (s.length - i) ⟨(F31 (trV s) (.int .i64 a) (qF row) x3 x4 x5 x6 (.slice q i c) (.int .i64 iv) x9 xA xB xC xD xE xF xG xH xI xJ xK xL xM xN xO xP xQ xR xS xT xU), [], h⟩
theorem copied_f (s : List (List Tm)) (a : Int) (row : List Tm) (hs : kH s) (hrow : bA row) : jH (pp G) H0 55 [trV s, .int .i64 a, qF row] (trV (qV s a row)) := by
 have hsl := hs.1
 have hlo : H0.lo ≤ H0.next := Nat.le_refl _; refine jH.cut (jJ.fir4 (q := qq) (jM G) fir55 (by kernel_rfl) rfl rfl (F31_arr ..) (show NGG ≤ H0.lo by rw [jT]; decide) ?_); rw [sd_ir55]
 simp (disch:=first|omega|(refine id ?_;simp only[push_cast];try omega)) only [push_cast,simprocAttr]
 refine WD.loop4 (q := qq) (jM G) (by kernel_rfl) (I55 s (qV s a row) a row) ?_ _ _ (I55.mk 0 0 _ none 0 [] rfl (Nat.zero_le _) (qA.nil _ _ _) ⟨by simp,fun j v row h => by simp at h⟩ (fun b hb => by obtain ⟨o,s,e⟩ := hb; cases e) rfl (by first | assumption | (simp (disch:=first|omega|(refine id ?_;simp only[push_cast];try omega)) only [push_cast,simprocAttr]; try omega)))
 intro m s1 hI
 cases hI with | mk i iv h q c vs hiv hi ho hv hq hl1 hl2 =>
 subst hiv
 rw [sd_ir55_s0]
 unfold trV
 by_cases hil : (i : Int) < s.length
 ·obtain ⟨x, hx⟩ := jN (l := s) (i := i) (by omega)
  have hxm := hs.2 x (List.mem_of_getElem? hx)
  have hp := trs_get hx
  have hle : i < s.length := by omega
  simp (disch:=first|omega|(refine id ?_;simp only[push_cast];try omega)) only [push_cast,simprocAttr,hil,Int.toNat_natCast,hp,hle,hl1]
  have key : ∀ (y : List Tm) (hy : bA y) (hr : (qV s a row)[i]? = some y) {x3 x4 x5 x6 xA xB xC xD xE xF xG xH xI xJ xK xL xM xN xO xP xQ xR xS xT xU : Value} (R : jR → S → Prop)
    (hR : ∀ {x3 x4 x5 x6 x9 xA xB xC xD xE xF xG xH xI xJ xK xL xM xN xO xP xQ xR xS xT xU : Value} (h' : jA) (q' : Option Addr) (c' : Nat) (vs' : List Value), qA h' eR 1 q' (i + 1) c' vs' → RowsAt h' 1 vs' ((qV s a row).take (i + 1)) q' → (∀ b, blk q' b → 1 ≤ b) → h'.lo = 1 → 1 ≤ h'.next →
     @kR ⟨R⟩ .normal ⟨(F31 (Rw false eR s.length (trs s)) (.int .i64 a) (qF row) x3 x4 x5 x6 (.slice q' (i + 1) c') (.int .i64 i) x9 xA xB xC xD xE xF xG xH xI xJ xK xL xM xN xO xP xQ xR xS xT xU), [], h'⟩),
    dc3 (pp G) qq none ir55_s2 ⟨(F31 (Rw false eR s.length (trs s)) (.int .i64 a) (qF row) x3 x4 x5 x6 (.slice q i c) (.int .i64 i) (qF y) xA xB xC xD xE xF xG xH xI xJ xK xL xM xN xO xP xQ xR xS xT xU), [], h⟩ (@kR ⟨R⟩) := by
   intro y hy hr
   intros
   rename_i R hR
   rw [sd_ir55_s2]
   have hyl := hy.1
   obtain ⟨a1, c1, σ1, e1, o1, g1, b1⟩ := kG (by_ := 120) (own0 (σ := h) (by omega)) (by omega) (by rw [jZ, jK]; omega) (m := y.length) (xs := qD y) (qO y) (kJ y) (by omega)
   rw [Nat.zero_add, List.nil_append] at o1
   rw [Nat.zero_add] at e1
   have hn1 : h.next < σ1.next := by have := g1.next; rw [jK] at this; omega
   have hlo1 : σ1.lo = h.lo := g1.lo.trans (jZ _)
   have gr1 : jG h σ1 fun _ => False := ⟨by omega, hlo1, fun j hj _ => (g1.get j (by rw [jK]; omega) (fun ⟨o, s, e⟩ => by cases e; omega)).trans (jW _ _ (by omega))⟩
   have hv1 : RowsAt σ1 1 vs ((qV s a row).take i) q := hv.grew gr1 (fun _ h => h.elim)
   have ho1 : qA σ1 eR 1 q i c vs := ho.grew gr1 (fun _ _ h => h)
   obtain ⟨a2, c2, σ2, e2, o2, g2, b2⟩ := kG (by_ := 24) ho1 (by omega) (by omega) (m := 1) (xs := [.slice a1 y.length c1]) rfl rfl (by omega)
   have hb1 : ∀ k, blk a1 k → h.next ≤ k ∧ k < σ1.next := fun k hk => by
    refine ⟨?_, (qA.lt o1 hk).2⟩
    rcases b1 k hk with ⟨o, s, e⟩ | hb
    ·cases e; omega
    ·rw [jK] at hb; omega
   have hqlt : ∀ k, blk q k → k < h.next := fun k hk => (qA.lt ho hk).2
   have hn2 := g2.next
   have hlo2 := g2.lo
   have o1' : qA σ2 34 9 a1 y.length c1 (qD y) := o1.grew g2 (fun k hk hq => by have := (hb1 k hk).1; have := hqlt k hq; omega)
   have hv2 : RowsAt σ2 1 (vs ++ [.slice a1 y.length c1]) ((qV s a row).take i ++ [y]) a2 := by
    have hv2 := hv1.grew g2 (fun _ h => h)
    refine ⟨by simp [hv2.1], fun j v w h1 h2 => ?_⟩
    by_cases hj : j < vs.length
    ·rw [List.getElem?_append_left hj] at h1
     rw [List.getElem?_append_left (by rw [← hv2.1]; exact hj)] at h2
     obtain ⟨b', c', e, h3, h4⟩ := hv2.2 j v w h1 h2
     obtain ⟨b'', c'', e', h3', _⟩ := hv1.2 j v w h1 h2
     rw [e] at e'
     cases e'
     refine ⟨b', c', e, h3, fun k hk => ⟨fun hk' => ?_, (h4 k hk).2⟩⟩
     rcases b2 _ hk' with hq | hq
     ·exact (h4 k hk).1 hq
     ·have := (qA.lt h3' hk).2; omega
    ·rw [List.getElem?_append_right (by omega)] at h1
     rw [List.getElem?_append_right (by rw [← hv2.1]; omega)] at h2
     rw [← hv2.1] at h2
     have hz : j - vs.length = 0 := by
      have := (List.getElem?_eq_some_iff.1 h1).1
      simp at this
      omega
     rw [hz] at h1 h2
     simp only [List.getElem?_cons_zero, Option.some.injEq] at h1 h2
     subst h1 h2
     refine ⟨a1, c1, rfl, o1', fun k hk => ⟨fun hk' => ?_, by have := (hb1 k hk).1; omega⟩⟩
     rcases b2 _ hk' with hq | hq
     ·have := hqlt k hq; have := (hb1 k hk).1; omega
     ·have := (hb1 k hk).2; omega
   unfold qF
   simp (disch:=first|omega|(refine id ?_;simp only[push_cast];try omega)) only [push_cast,simprocAttr,↓row0,e1,↓rowS1,e2]
   rw [← jU hr] at hv2
   exact hR σ2 a2 c2 _ o2 hv2 (fun k hk => by
    rcases b2 k hk with hq' | hq'
    ·exact hq k hq'
    ·omega) (by omega) (by omega)
  by_cases ha : (i : Int) = a
  ·subst ha
   simp (disch:=first|omega|(refine id ?_;simp only[push_cast];try omega)) only [push_cast,simprocAttr]
   unfold qF at key
   refine key row hrow (setZ_eq hx) _ ?_
   intros
   rename_i h' q' c' vs' o' v' q'' hl1' hl2'
   simp (disch:=first|omega|(refine id ?_;simp only[push_cast];try omega)) only [push_cast,simprocAttr]
   rw [sd_ir55_s3]
   simp (disch:=first|omega|(refine id ?_;simp only[push_cast];try omega)) only [push_cast,simprocAttr,hil]
   exact ⟨_, by omega, I55.mk (i + 1) _ _ _ _ _ (by first | rfl | omega) (by omega) o' v' q'' hl1' hl2'⟩
  ·simp (disch:=first|omega|(refine id ?_;simp only[push_cast];try omega)) only [push_cast,simprocAttr,ha]
   refine key x hxm (setZ_ne hx ha) _ ?_
   intros
   rename_i h' q' c' vs' o' v' q'' hl1' hl2'
   simp (disch:=first|omega|(refine id ?_;simp only[push_cast];try omega)) only [push_cast,simprocAttr]
   rw [sd_ir55_s3]
   simp (disch:=first|omega|(refine id ?_;simp only[push_cast];try omega)) only [push_cast,simprocAttr,hil]
   exact ⟨_, by omega, I55.mk (i + 1) _ _ _ _ _ (by first | rfl | omega) (by omega) o' v' q'' hl1' hl2'⟩
 ·have hie : i = s.length := by omega
  subst hie
  rw [List.take_of_length_le (by rw [kQ]; exact Nat.le_refl _)] at hv
  simp (disch:=first|omega|(refine id ?_;simp only[push_cast];try omega)) only [push_cast,simprocAttr,hil]
  rw [sd_ir55_s1]
  simp (disch:=first|omega|(refine id ?_;simp only[push_cast];try omega)) only [push_cast,simprocAttr]
  rw [← kQ s a row] at ho ⊢
  exact ho.fz rfl (by omega) (by rw [kQ]; omega) (hv.fz (by omega) (by omega) rfl fun w hw => ((smRows_set hs hrow).2 w hw).1) hq
theorem qA.flt {σ : jA} {e n : Nat} {a : Option Addr} {len c : Nat} {cs : List Value} (ho : qA σ e n a len c cs) {p : Nat → Bool} (hp : ∀ b, blk a b → p b = true) : qA (hflt p σ) e n a len c cs := by
 refine ⟨ho.hlen, ho.hone, ?_⟩
 rcases ho.hat with h0 | ⟨b, m, ha, h1, h2, h3, h4⟩
 ·exact .inl h0
 ·exact .inr ⟨b, m, ha, h1, h2, (hflt_cells σ (hp b ⟨0, none, ha⟩)).trans h3, h4⟩
theorem own_give {σ : jA} {a : Option Addr} {c : Nat} {l : List Tm} (hlo : σ.lo = 1) (ho : qA σ 34 9 a l.length c (qD l)) (hl : l.length < 100000000000) : FzV (pp G).P σ.lo (hflt (fun i => !Nat.blt i 1 || Nat.blt i σ.lo) σ) (.slice a l.length c) (qF l) := by
 have hb : ∀ b, blk a b → 1 ≤ b := fun b hb => by have := (qA.lt ho hb).1; omega
 exact (qA.flt ho fun b hb' => by
  have := hb b hb'
  show (!Nat.blt b 1 || Nat.blt b σ.lo) = true
  rw [show Nat.blt b 1 = false from blt_f (by omega)]; rfl).fz rfl (by omega) (by omega) (.ids (gI _ (by omega) l)) fun b hb' => by rw [hlo]; exact hb b hb'
theorem own_two {σ : jA} (hlo : σ.lo ≤ σ.next) (l : List Tm) (hl : l.length < 10000000000) :
  ∃ a c σ', apS 34 9 120 (.slice (some ⟨σ.next, 0, none⟩) 0 0) (some (l.length, qD l)) (σ.add (O [] 34 false)) = some (.slice a l.length c, σ') ∧ qA σ' 34 9 a l.length c (qD l) ∧ jG σ σ' (fun _ => False) ∧ (∀ k, blk a k → σ.next ≤ k ∧ k < σ'.next) := by
 obtain ⟨a1, c1, σ1, e1, o1, g1, b1⟩ := kG (by_ := 120) (own0 (σ := σ) hlo) (by omega) (by rw [jZ, jK]; omega) (m := l.length) (xs := qD l) (qO l) (kJ l) (by omega)
 rw [Nat.zero_add, List.nil_append] at o1
 rw [Nat.zero_add] at e1
 have hn1 : σ.next < σ1.next := by have := g1.next; rw [jK] at this; omega
 have hlo1 : σ1.lo = σ.lo := g1.lo.trans (jZ _)
 refine ⟨a1, c1, σ1, e1, o1, ⟨by omega, hlo1, fun j hj _ => (g1.get j (by rw [jK]; omega) (fun ⟨o, s, e⟩ => by cases e; omega)).trans (jW _ _ (by omega))⟩, fun k hk => ⟨?_, (qA.lt o1 hk).2⟩⟩
 rcases b1 k hk with ⟨o, s, e⟩ | hb
 ·cases e; omega
 ·rw [jK] at hb; omega
theorem raccept_f (s : List (List Tm)) (a : Int) (hs : kH s) : jH (pp G) H0 29 [trV s, .int .i64 a] (trV (qV s a [])) := by
 have hlo : H0.lo ≤ H0.next := Nat.le_refl _; refine jH.cut (jJ.fir4 (q := qq) (jM G) fir29 (by kernel_rfl) rfl rfl (F8_arr ..) (show NGG ≤ H0.lo by rw [jT]; decide) ?_); rw [sd_ir29]
 simp (disch:=first|omega|(refine id ?_;simp only[push_cast];try omega)) only [push_cast,simprocAttr]
 refine jC.data (copied_f G s a [] hs gY) (by repeat' (first | exact FzL.nil | apply FzL.cons | exact FzV.id rfl | (refine FzV.id ?_; simp (disch:=first|omega|(refine id ?_;simp only[push_cast];try omega)) only [push_cast]; done) | exact nil_Tm .. | exact nil_Ex .. | exact nil_tr .. | exact nil_iv .. | exact nil_Pr .. | exact nil_ns .. | apply FzV.agg | apply FzV.row)) (by first | rfl | (simp (disch:=first|omega|(refine id ?_;simp only[push_cast];try omega)) only [push_cast])) (by first | rfl | (simp (disch:=first|omega|(refine id ?_;simp only[push_cast];try omega)) only [push_cast])) ?_
 simp (disch:=first|omega|(refine id ?_;simp only[push_cast];try omega)) only [push_cast,simprocAttr]
 exact .id (uZ _ H0q _)
theorem rpush_f (s : List (List Tm)) (a : Int) (t : Tm) (hs : kH s) (hgl : (s.getD a.toNat []).length + 1 < 10000000000) (ht : smT t = true) (ha : 0 ≤ a ∧ a < s.length) : jH (pp G) H0 24 [trV s, .int .i64 a, tmV t] (trV (qV s a (s.getD a.toNat [] ++ [t]))) := by
 have hg := gZ hs a.toNat
 have hsl := hs.1
 have hp := trs_get' (s := s) (i := a.toNat) (by omega)
 have hc : (a.toNat : Int) = a := by omega
 have hlt : a.toNat < s.length := by omega
 generalize s.getD a.toNat [] = row at hg hp hgl ⊢
 have hsr : bA (row ++ [t]) := smRow_app hg ⟨by simp, by simp [gF, ht]⟩ (by rw [List.length_cons, List.length_nil]; omega)
 have key : ∀ (σ : jA) (b : Option Addr) (c : Nat), σ.lo = 1 → 1 ≤ σ.next → qA σ 34 9 b row.length c (qD row) → ∃ b' c' σ', apS 34 9 120 (.slice b row.length c) (some (1, qD [t])) σ = some (.slice b' (row.length + 1) c', σ') ∧ σ'.lo = 1 ∧ ∀ K : Bool → Value → jA → Prop, (∀ h', K true (trV (qV s a (row ++ [t]))) h') →
   jC (pp G) H0 (.func (.func 55) #[] #[]) [trV s, .int .i64 a, .slice b' (row.length + 1) c'] σ' K := fun σ b c hl1 hl2 ho => by
  obtain ⟨b', c', σ', e, o', g', _⟩ := kG (by_ := 120) ho (by omega) (by omega) (m := 1) (xs := qD [t]) (qO [t]) (kJ [t]) (by omega)
  refine ⟨b', c', σ', e, by rw [g'.lo, hl1], fun K hK => ?_⟩
  rw [← gR, show row.length + 1 = (row ++ [t]).length by simp] at o'
  have hl' : σ'.lo = 1 := by rw [g'.lo, hl1]
  have hz := own_give G hl' o' hsr.1
  rw [show (row ++ [t]).length = row.length + 1 by simp] at hz
  refine jC.give (fun i => Nat.blt i 1) (fun i hi => by rw [hl'] at hi; simpa using hi) (copied_f G s a (row ++ [t]) hs hsr) (.cons (.id (uZ _ (by omega) _)) (.cons (.id rfl) (.cons hz .nil))) (uZ _ (by omega) _) (hK _)
 unfold qF at hp
 have hlo : H0.lo ≤ H0.next := Nat.le_refl _; refine jH.cut (jJ.fir4 (q := qq) (jM G) fir24 (by kernel_rfl) rfl rfl (F19_arr ..) (show NGG ≤ H0.lo by rw [jT]; decide) ?_); rw [sd_ir24]
 unfold trV
 simp (disch:=first|omega|(refine id ?_;simp only[push_cast];try omega)) only [push_cast,simprocAttr,hp,hlt,ha.1,ha.2,↓row0,↓rowT1]
 have o2 := own_two (σ := H0.add (O (tmC t) 34 false)) (by rw [jZ, jK]; omega) row (by omega)
 have hn2 : (H0.add (O (tmC t) 34 false)).next = 2 := by rw [jK, gM]
 have hl2 : (H0.add (O (tmC t) 34 false)).lo = 1 := by rw [jZ, jT]
 rw [hn2] at o2
 obtain ⟨a1, c1, σ1, e1, ho1, g1, b1⟩ := o2
 have gn := g1.next
 obtain ⟨b', c', σ', e2, hl', hK⟩ := key σ1 a1 c1 (by rw [g1.lo, hl2]) (by rw [hn2] at gn; omega) ho1
 refine ⟨⟨?_, ?_⟩, ?_⟩
 ·simp (disch:=first|omega|(refine id ?_;simp only[push_cast];try omega)) only [push_cast,simprocAttr,e1,↓rowT1,e2]
  refine hK _ fun h' => ?_
  simp (disch:=first|omega|(refine id ?_;simp only[push_cast];try omega)) only [push_cast,simprocAttr]
  exact .id (uZ _ (by omega) _)
 ·simp (disch:=first|omega|(refine id ?_;simp only[push_cast];try omega)) only [push_cast,simprocAttr,e1,↓rowT1,e2]
  refine hK _ fun h' => ?_
  simp (disch:=first|omega|(refine id ?_;simp only[push_cast];try omega)) only [push_cast,simprocAttr]
  exact .id (uZ _ (by omega) _)
 ·simp (disch:=first|omega|(refine id ?_;simp only[push_cast];try omega)) only [push_cast,simprocAttr,e1,↓rowT1,e2]
  refine hK _ fun h' => ?_
  simp (disch:=first|omega|(refine id ?_;simp only[push_cast];try omega)) only [push_cast,simprocAttr]
  exact .id (uZ _ (by omega) _)
theorem rmerge_f (s : List (List Tm)) (a b : Int) (hs : kH s) (hl : (s.getD b.toNat []).length + (s.getD a.toNat []).length < 10000000000) (ha : 0 ≤ a ∧ a < s.length) (hb : 0 ≤ b ∧ b < s.length) :
  jH (pp G) H0 31 [trV s, .int .i64 a, .int .i64 b] (trV (mergeF s a b)) := by
 have hga := gZ hs a.toNat
 have hgb := gZ hs b.toNat
 have hsl := hs.1
 unfold mergeF
 by_cases hab : a = b
 ·rw [if_pos hab]
  subst hab
  have hneg : qV s (-1) [] = s := by unfold qV; rw [if_neg (by omega)]
  have hcp := copied_f G s (-1) [] hs gY
  rw [hneg] at hcp
  have hlo : H0.lo ≤ H0.next := Nat.le_refl _; refine jH.cut (jJ.fir4 (q := qq) (jM G) fir31 (by kernel_rfl) rfl rfl (F28_arr ..) (show NGG ≤ H0.lo by rw [jT]; decide) ?_); rw [sd_ir31]
  simp (disch:=first|omega|(refine id ?_;simp only[push_cast];try omega)) only [push_cast,simprocAttr]
  refine jC.data (hcp) (by repeat' (first | exact FzL.nil | apply FzL.cons | exact FzV.id rfl | (refine FzV.id ?_; simp (disch:=first|omega|(refine id ?_;simp only[push_cast];try omega)) only [push_cast]; done) | exact nil_Tm .. | exact nil_Ex .. | exact nil_tr .. | exact nil_iv .. | exact nil_Pr .. | exact nil_ns .. | apply FzV.agg | apply FzV.row)) (by first | rfl | (simp (disch:=first|omega|(refine id ?_;simp only[push_cast];try omega)) only [push_cast])) (by first | rfl | (simp (disch:=first|omega|(refine id ?_;simp only[push_cast];try omega)) only [push_cast])) ?_
  simp (disch:=first|omega|(refine id ?_;simp only[push_cast];try omega)) only [push_cast,simprocAttr]
  exact .id (uZ _ H0q _)
 rw [if_neg hab]
 have hp := trs_get' (s := s) (i := a.toNat) (by omega)
 have hp2 := trs_get' (s := s) (i := b.toNat) (by omega)
 have hc : (a.toNat : Int) = a := by omega
 have hc2 : (b.toNat : Int) = b := by omega
 have hlt : a.toNat < s.length := by omega
 have hlt2 : b.toNat < s.length := by omega
 generalize s.getD a.toNat [] = ra at hga hp hl ⊢
 generalize s.getD b.toNat [] = rb at hgb hp2 hl ⊢
 have hsr : bA (rb ++ ra) := smRow_app hgb hga (by omega)
 unfold qF at hp hp2
 obtain ⟨a1, c1, σ1, e1, ho1, g1, b1⟩ := own_two (σ := H0) (Nat.le_refl _) rb (by omega)
 have gn := g1.next
 rw [gM] at e1 b1 gn
 have hl1 : σ1.lo = 1 := by rw [g1.lo, jT]
 obtain ⟨b', c', σ', e2, o', g', _⟩ := kG (by_ := 120) ho1 (by omega) (by omega) (m := ra.length) (xs := qD ra) (qO ra) (kJ ra) (by omega)
 rw [← gR, ← List.length_append] at o'
 have hl' : σ'.lo = 1 := by rw [g'.lo, hl1]
 have hz := own_give G hl' o' hsr.1
 rw [List.length_append] at hz
 have hlo : H0.lo ≤ H0.next := Nat.le_refl _; refine jH.cut (jJ.fir4 (q := qq) (jM G) fir31 (by kernel_rfl) rfl rfl (F28_arr ..) (show NGG ≤ H0.lo by rw [jT]; decide) ?_); rw [sd_ir31]
 unfold trV
 simp (disch:=first|omega|(refine id ?_;simp only[push_cast];try omega)) only [push_cast,simprocAttr,hab,hp,hp2,hlt,hlt2,ha.1,ha.2,hb.1,hb.2,↓row0,e1,e2]
 refine jC.give (cap := []) (args := [_, _, _]) (fun i => Nat.blt i 1) (fun i hi => by rw [hl'] at hi; simpa using hi) (copied_f G s b (rb ++ ra) hs hsr) (.cons (.id (uZ _ (by omega) _)) (.cons (.id rfl) (.cons hz .nil))) (uZ _ (by omega) _) ?_
 simp (disch:=first|omega|(refine id ?_;simp only[push_cast];try omega)) only [push_cast,simprocAttr]
 refine jC.data (cap := []) (args := [_, _, _]) (copied_f G (qV s b (rb ++ ra)) a [] (smRows_set hs hsr) gY) (.cons (.id (uZ _ H0q _)) (.cons (.id rfl) (.cons (nil_Tm G _ _) .nil))) (by show scL σ'.lo _ = true; rw [hl']; simp [scL, Ev.sc, uZ]) (by show Ev.sc σ'.lo _ = true; rw [hl']; exact uZ _ (by omega) _) ?_
 simp (disch:=first|omega|(refine id ?_;simp only[push_cast];try omega)) only [push_cast,simprocAttr]
 exact .id (uZ _ H0q _)
inductive I26 (s : List (List Tm)) (a : Int) (row : List Tm) : Nat → S → Prop
 | mk (i : Nat) (iv : Int) (h : jA) (c : List Value) {x2 x3 x5 x8 x9 xA xB xC xD xE xF xG xH xI xJ xK xL xM xN xO xP xQ xR xS xT xU xV xW xX xY xZ yA yB yC : Value} (hiv : iv = (i : Int)) (hi : i ≤ row.length)
   (c0 : cells h 1 = some ([.int .i64 0, .int .i64 0, .int .i64 0, .string (Tx []), .int .i64 0, .int .i64 0, .string (Tx []), .slice none 0 0, .slice none 0 0], 34, false))
   (c1 : cells h 2 = some (c, 34, false)) (hc : (i = 0 ∧ c = [.int .i64 0, .int .i64 0, .int .i64 0, .string (Tx []), .int .i64 0, .int .i64 0, .string (Tx []), .slice none 0 0, .slice none 0 0]) ∨ ∃ x l, row = x :: l ∧ 0 < i ∧ c = kO x (l.take (i - 1)).reverse) (hl1 : h.lo = 1) (hl2 : 3 ≤ h.next) :
  I26 s a row (row.length - i) ⟨(F39 (trV s) (.int .i64 a) x2 x3 (.pointer (some ⟨1, 0, none⟩)) x5 (.pointer (some ⟨2, 0, none⟩)) (.int .i64 iv) x8 x9 xA xB xC xD xE xF xG xH xI xJ xK xL xM xN xO xP xQ xR xS xT xU xV xW xX xY xZ yA yB yC), [], h⟩
theorem rreverse_f (s : List (List Tm)) (a : Int) (hs : kH s) (ha : 0 ≤ a ∧ a < s.length) :
  jH (pp G) H0 26 [trV s, .int .i64 a] (ttV (revF (s.getD a.toNat [])) (qV s a [])) := by
 have hga := gZ hs a.toNat
 have hsl := hs.1
 have hp := trs_get' (s := s) (i := a.toNat) (by omega)
 have hc : (a.toNat : Int) = a := by omega
 have hlt : a.toNat < s.length := by omega
 generalize s.getD a.toNat [] = row at hga hp
 have hrl := hga.1
 unfold qF at hp
 have hlo : H0.lo ≤ H0.next := Nat.le_refl _; refine jH.cut (jJ.fir4 (q := qq) (jM G) fir26 (by kernel_rfl) rfl rfl (F39_arr ..) (show NGG ≤ H0.lo by rw [jT]; decide) ?_); rw [sd_ir26]
 simp (disch:=first|omega|(refine id ?_;simp only[push_cast];try omega)) only [push_cast,simprocAttr]
 refine WD.loop4 (q := qq) (jM G) (by kernel_rfl) (I26 s a row) ?_ _ _ (I26.mk 0 0 _ _ rfl (Nat.zero_le _) (by simp (disch:=first|omega|(refine id ?_;simp only[push_cast];try omega)) only [push_cast,simprocAttr]) (by simp (disch:=first|omega|(refine id ?_;simp only[push_cast];try omega)) only [push_cast,simprocAttr]) (.inl ⟨rfl,rfl⟩) rfl (by first | assumption | (simp (disch:=first|omega|(refine id ?_;simp only[push_cast];try omega)) only [push_cast,simprocAttr]; try omega)))
 intro m s1 hI
 cases hI with | mk i iv h c hiv hi c0 c1 hcc hl1 hl2 =>
 subst hiv
 rw [sd_ir26_s0]
 unfold trV
 by_cases hil : (i : Int) < row.length
 ·obtain ⟨t, ht⟩ := jN (l := row) (i := i) (by omega)
  have hpt := qY ht
  have hle2 : i * 9 + 9 ≤ row.length * 9 := by omega
  by_cases h0 : (i : Int) = 0
  ·have hi0 : i = 0 := by omega
   subst hi0
   obtain ⟨x, l, hrow⟩ : ∃ x l, row = x :: l := by
    cases row with
    | nil => simp at hil
    | cons x l => exact ⟨x, l, rfl⟩
   have htx : t = x := by rw [hrow] at ht; simpa using ht.symm
   rcases hcc with ⟨_, hcc⟩ | ⟨_, _, _, h1, _⟩
   rotate_left
   ·omega
   subst hcc
   have hle3 : 9 ≤ row.length * 9 := by omega
   rw [Nat.zero_mul, List.drop_zero] at hpt
   simp (disch:=first|omega|(refine id ?_;simp only[push_cast];try omega)) only [push_cast,simprocAttr,hp,hlt,ha.1,ha.2,hil,Int.toNat_natCast,hpt,hle3,hl1,c1,Int.natCast_zero,show (0 : Int) < row.length by omega]
   exact ⟨_,by omega,I26.mk (0 + 1) _ _ (tmC t) (by first | rfl | omega) (by omega) (by first | assumption | (simp (disch:=first|omega|(refine id ?_;simp only[push_cast];try omega)) only [push_cast,simprocAttr,c0]; try omega)) (by first | assumption | (simp (disch:=first|omega|(refine id ?_;simp only[push_cast];try omega)) only [push_cast,simprocAttr]; try omega)) (.inr ⟨x,l,hrow,by omega,by rw [htx]; rfl⟩) (by first | assumption | (simp (disch:=first|omega|(refine id ?_;simp only[push_cast];try omega)) only [push_cast,simprocAttr,hl1]; try omega)) (by first | assumption | (simp (disch:=first|omega|(refine id ?_;simp only[push_cast];try omega)) only [push_cast,simprocAttr]; try omega))⟩
  ·rcases hcc with ⟨h1, _⟩ | ⟨x, l, hrow, hi1, hcc⟩
   ·omega
   have hlt' : l[i - 1]? = some t := by
    rw [hrow] at ht
    obtain ⟨j, rfl⟩ : ∃ j, i = j + 1 := ⟨i - 1, by omega⟩
    simpa using ht
   have hrt := rev_take l hlt'
   rw [show i - 1 + 1 = i by omega] at hrt
   have hbl := backC_len x (l.take (i - 1)).reverse
   have hbt : (kO x (l.take (i - 1)).reverse).take 9 = kO x (l.take (i - 1)).reverse := List.take_of_length_le (by rw [hbl]; omega)
   have hbd : (kO x (l.take (i - 1)).reverse).drop 9 = [] := List.drop_of_length_le (by rw [hbl]; omega)
   have hbo := backC_one x (l.take (i - 1)).reverse
   subst hcc
   have e1 : IntKind.i64.wrap ((i : Int) + 1) = ((i + 1 : Nat) : Int) := by rw [wrap_i64 (by omega) (by omega)]; omega
   simp (disch:=first|omega|(refine id ?_;simp only[push_cast];try omega)) only [push_cast,simprocAttr,hp,hlt,ha.1,ha.2,hil,e1,Int.toNat_natCast,hpt,hle2,hl1,c1,h0,hbl,hbt,hbd,hbo,↓row2]
   exact ⟨_,by omega,I26.mk (i + 1) _ _ (kO x (t :: (l.take (i - 1)).reverse)) (by first | rfl | omega) (by omega) (by first | assumption | (simp (disch:=first|omega|(refine id ?_;simp only[push_cast];try omega)) only [push_cast,simprocAttr,c0]; try omega)) (by rw [kO]; simp (disch:=first|omega|(refine id ?_;simp only[push_cast];try omega)) only [push_cast,simprocAttr]) (.inr ⟨x,l,hrow,by omega,by rw [show i + 1 - 1 = i by omega,hrt]⟩) (by first | assumption | (simp (disch:=first|omega|(refine id ?_;simp only[push_cast];try omega)) only [push_cast,simprocAttr,hl1]; try omega)) (by first | assumption | (simp (disch:=first|omega|(refine id ?_;simp only[push_cast];try omega)) only [push_cast,simprocAttr]; try omega))⟩
 ·have hie : i = row.length := by omega
  subst hie
  have hA := copied_f G s a [] hs gY
  unfold trV at hA
  simp (disch:=first|omega|(refine id ?_;simp only[push_cast];try omega)) only [push_cast,simprocAttr,hp,hlt,ha.1,ha.2,hil,hl1]
  rw [sd_ir26_s1]
  rcases hcc with ⟨h1, hcc⟩ | ⟨x, l, hrow, hi1, hcc⟩
  ·obtain rfl : row = [] := List.length_eq_zero_iff.1 h1
   subst hcc
   simp (disch:=first|omega|(refine id ?_;simp only[push_cast];try omega)) only [push_cast,simprocAttr,c1,hl1]
   refine jC.data (hA) (by repeat' (first | exact FzL.nil | apply FzL.cons | exact FzV.id rfl | (refine FzV.id ?_; simp (disch:=first|omega|(refine id ?_;simp only[push_cast];try omega)) only [push_cast]; done) | exact nil_Tm .. | exact nil_Ex .. | exact nil_tr .. | exact nil_iv .. | exact nil_Pr .. | exact nil_ns .. | apply FzV.agg | apply FzV.row)) (by first | rfl | (simp (disch:=first|omega|(refine id ?_;simp only[push_cast];try omega)) only [push_cast])) (by first | rfl | (simp (disch:=first|omega|(refine id ?_;simp only[push_cast];try omega)) only [push_cast])) ?_
   simp (disch:=first|omega|(refine id ?_;simp only[push_cast];try omega)) only [push_cast,simprocAttr,c0,hl1]
   refine .tup (.cons (.agg ?_) (.cons (.id (trR_sc _ H0q _ _ _)) .nil))
   exact .cons (.id rfl) (.cons (.id rfl) (.cons (.id rfl) (.cons (.id rfl) (.cons (.id rfl) (.cons (.id rfl) (.cons (.id rfl) (.cons (nil_Ex G _ _) (.cons (nil_Tm G _ _) .nil))))))))
  ·subst hrow hcc
   rw [List.length_cons, Nat.add_sub_cancel, List.take_length] at c1
   have hbl := backC_len x l.reverse
   have hbt : (kO x l.reverse).take 9 = kO x l.reverse := List.take_of_length_le (by rw [hbl]; omega)
   have hbd : (kO x l.reverse).drop 9 = [] := List.drop_of_length_le (by rw [hbl]; omega)
   have hbo := backC_one x l.reverse
   simp (disch:=first|omega|(refine id ?_;simp only[push_cast];try omega)) only [push_cast,simprocAttr,c1,hl1,hbl,hbt,hbd,hbo]
   refine jC.data (hA) (by repeat' (first | exact FzL.nil | apply FzL.cons | exact FzV.id rfl | (refine FzV.id ?_; simp (disch:=first|omega|(refine id ?_;simp only[push_cast];try omega)) only [push_cast]; done) | exact nil_Tm .. | exact nil_Ex .. | exact nil_tr .. | exact nil_iv .. | exact nil_Pr .. | exact nil_ns .. | apply FzV.agg | apply FzV.row)) (by first | rfl | (simp (disch:=first|omega|(refine id ?_;simp only[push_cast];try omega)) only [push_cast])) (by first | rfl | (simp (disch:=first|omega|(refine id ?_;simp only[push_cast];try omega)) only [push_cast])) ?_
   simp (disch:=first|omega|(refine id ?_;simp only[push_cast];try omega)) only [push_cast,simprocAttr,c0,hl1,hbl,hbt,hbd,hbo]
   refine .tup (.cons (.agg (backC_fz G _ H0q _ x _)) (.cons (.id (trR_sc _ H0q _ _ _)) .nil))
end
end Go.Proofs.Ytgeakofgklcipaa
