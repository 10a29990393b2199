/-
  A part of the proof: what the program's functions hand back, as theorems. No condition but those that each theorem names.
-/
import Derived.Test.YtgeakofgklcipaaExa
import Derived.Test.YtgeakofgklcipaaEve
import Derived.Test.YtgeakofgklcipaaExb
set_option linter.unusedSimpArgs false
set_option linter.unusedVariables false
namespace Go.Proofs.Ytgeakofgklcipaa
open Go Go.RowKit Go.Ev Go.Dv
noncomputable section
set_option maxRecDepth 100000
def W (a : Int) : Int := IntKind.i64.wrap a
def In (a : Int) : Prop := -9223372036854775808 ≤ a ∧ a ≤ 9223372036854775807
theorem W_in {a : Int} (h : In a) : W a = a := by
 unfold In at h
 unfold W; rw [IntKind.wrap_i64]; omega
theorem H0p : 0 < H0.lo := by rw [jY]; omega
theorem H0q : 0 < H0.next := by rw [gI]; omega
abbrev eI : Nat := 3
def ivs (l : List Int) : List Value := l.map (Value.int .i64)
def ivV (l : List Int) : Value := Rw false eI l.length (ivs l)
theorem ivs_len (l : List Int) : (ivs l).length = l.length := by simp [ivs]
theorem ivs_sc (n : Nat) : ∀ l : List Int, scL n (ivs l) = true
 | [] => rfl
 | x :: l => by
  have := ivs_sc n l
  simp only [ivs] at this
  simp [ivs, scL, sc, this]
theorem ivR_sc (n : Nat) (hn : 0 < n) (k : Nat) (f : Bool) (l : List Int) : sc n (Rw f eI k (ivs l)) = true := by
 have := ivs_sc n l
 simp [sc, Rw, scL, this, hn]
theorem ivV_sc (n : Nat) (hn : 0 < n) (l : List Int) : sc n (ivV l) = true := ivR_sc n hn ..
theorem ivs_get' {l : List Int} {i : Nat} (h : i < l.length) : (ivs l)[i]? = some (.int .i64 (l.getD i 0)) := by simp [ivs, h]
theorem ivs_app (a b : List Int) : ivs (a ++ b) = ivs a ++ ivs b := by simp [ivs]
abbrev eS : Nat := 9
def nss (l : List (List UInt8)) : List Value := l.map fun s => Value.string (Tx s)
def nsV (l : List (List UInt8)) : Value := Rw false eS l.length (nss l)
theorem nss_len (l : List (List UInt8)) : (nss l).length = l.length := by simp [nss]
theorem nss_sc (n : Nat) : ∀ l : List (List UInt8), scL n (nss l) = true
 | [] => rfl
 | x :: l => by
  have := nss_sc n l
  simp only [nss] at this
  simp [nss, scL, sc, this]
theorem nsR_sc (n : Nat) (hn : 0 < n) (k : Nat) (f : Bool) (l : List (List UInt8)) : sc n (Rw f eS k (nss l)) = true := by
 have := nss_sc n l
 simp [sc, Rw, scL, this, hn]
theorem nsV_sc (n : Nat) (hn : 0 < n) (l : List (List UInt8)) : sc n (nsV l) = true := nsR_sc n hn ..
theorem nss_get {l : List (List UInt8)} {i : Nat} (h : i < l.length) : (nss l)[i]? = some (.string (Tx (l.getD i []))) := by simp [nss, h]
theorem nss_app (a b : List (List UInt8)) : nss (a ++ b) = nss a ++ nss b := by simp [nss]
abbrev eB : Nat := 4
def bvs (l : List Bool) : List Value := l.map Value.bool
def bvV (l : List Bool) : Value := Rw false eB l.length (bvs l)
theorem bvs_len (l : List Bool) : (bvs l).length = l.length := by simp [bvs]
theorem bvs_sc (n : Nat) : ∀ l : List Bool, scL n (bvs l) = true
 | [] => rfl
 | x :: l => by
  have := bvs_sc n l
  simp only [bvs] at this
  simp [bvs, scL, sc, this]
theorem bvR_sc (n : Nat) (hn : 0 < n) (k : Nat) (f : Bool) (l : List Bool) : sc n (Rw f eB k (bvs l)) = true := by
 have := bvs_sc n l
 simp [sc, Rw, scL, this, hn]
theorem bvs_one : ∀ l : List Bool, (bvs l).all one = true
 | [] => rfl
 | x :: l => by
  have := bvs_one l
  simp only [bvs] at this
  simp [bvs, one]
theorem bvs_get {l : List Bool} {i : Nat} (h : i < l.length) : (bvs l)[i]? = some (.bool (l.getD i false)) := by simp [bvs, h]
@[push_cast]theorem sc_nil (n a b : Nat) : sc n (.slice none a b) = true := rfl
theorem sc_agg (n : Nat) (l : List Value) : sc n (.agg ⟨l⟩) = scL n l := rfl
theorem sc_int (n : Nat) (k : IntKind) (i : Int) : sc n (.int k i) = true := rfl
theorem sc_str (n : Nat) (s : ByteArray) : sc n (.string s) = true := rfl
attribute [push_cast] sc_agg sc_int sc_str
@[push_cast]theorem sc_fn (n f : Nat) : sc n (.func (.func f) #[] #[]) = true := rfl
attribute [push_cast] ivs_len ivs_sc ivR_sc ivV_sc nss_len nss_sc nsR_sc nsV_sc bvs_len bvs_sc bvR_sc bvs_one b_neqs b_eqls Int.toNat_zero Int.toNat_one Int.natCast_one jY gI
def jP (a n : Int) : Int := if a.tmod n < 0 then a.tmod n + n else a.tmod n
theorem qO {a n : Int} (hn : 0 < n) : 0 ≤ jP a n ∧ jP a n < n := by
 have h1 : (a.tmod n).natAbs = a.natAbs % n.natAbs := Int.natAbs_tmod a n
 have h2 : a.natAbs % n.natAbs < n.natAbs := Nat.mod_lt _ (by omega)
 unfold jP
 split <;> omega
inductive Ex where
 | mk (k : Int) (n : Int) (s : List UInt8) (l : List Ex)
abbrev eE : Nat := 31
mutual
def exC : Ex → List Value
 | .mk k n s l => [.int .i64 k, .int .i64 n, .string (Tx s), Rw false eE l.length (uV l)]
def uV : List Ex → List Value
 | [] => []
 | x :: l => exC x ++ uV l
end
def exV (x : Ex) : Value := .agg ⟨exC x⟩
def exsV (l : List Ex) : Value := Rw false eE l.length (uV l)
theorem exC_mk (k : Int) (n : Int) (s : List UInt8) (l : List Ex) : exC (.mk k n s l) = [.int .i64 k, .int .i64 n, .string (Tx s), Rw false eE l.length (uV l)] := rfl
theorem exC_len (x : Ex) : (exC x).length = 4 := by cases x; simp [exC]
theorem exCs_len : ∀ l : List Ex, (uV l).length = l.length * 4
 | [] => rfl
 | x :: l => by rw [uV, List.length_append, exC_len, exCs_len l, List.length_cons]; omega
theorem exC_one : ∀ x : Ex, (exC x).all one = true
 | .mk k n s l => by simp [exC, one, Rw]
theorem exCs_one : ∀ l : List Ex, (uV l).all one = true
 | [] => rfl
 | x :: l => by rw [uV, List.all_append, exC_one x, exCs_one l]; rfl
mutual
theorem exC_sc (nn : Nat) (hn : 0 < nn) : ∀ x : Ex, scL nn (exC x) = true
 | .mk k n s l => by
  have := exCs_sc nn hn l
  simp [exC, scL, Ev.sc, Rw, hn,  *]
theorem exCs_sc (nn : Nat) (hn : 0 < nn) : ∀ l : List Ex, scL nn (uV l) = true
 | [] => rfl
 | x :: l => by
  rw [uV]
  exact jU fun v hv => (List.mem_append.1 hv).elim (jV (exC_sc nn hn x) v) (jV (exCs_sc nn hn l) v)
end
theorem exV_sc (n : Nat) (hn : 0 < n) (x : Ex) : Ev.sc n (exV x) = true := exC_sc n hn x
theorem exR_sc (n : Nat) (hn : 0 < n) (k : Nat) (f : Bool) (l : List Ex) : Ev.sc n (Rw f eE k (uV l)) = true := by
 have := exCs_sc n hn l
 simp [Ev.sc, Rw, scL, this, hn]
theorem exsV_sc (n : Nat) (hn : 0 < n) (l : List Ex) : Ev.sc n (exsV l) = true := exR_sc n hn ..
theorem exCs_app : ∀ (a b : List Ex), uV (a ++ b) = uV a ++ uV b
 | [], b => rfl
 | x :: a, b => by rw [List.cons_append, uV, exCs_app a b, uV, List.append_assoc]
theorem exCs_1 (x : Ex) : uV [x] = exC x := by rw [uV, uV, List.append_nil]
theorem exCs_drop : ∀ (l : List Ex) (i : Nat), (uV l).drop (i * 4) = uV (l.drop i)
 | l, 0 => by simp
 | [], i + 1 => by simp [uV]
 | x :: l, i + 1 => by
  rw [uV, List.drop_succ_cons, ← exCs_drop l i, Nat.add_mul, Nat.one_mul, Nat.add_comm, ← List.drop_drop, List.drop_append_of_le_length (by rw [exC_len]; exact Nat.le_refl _), show (exC x).drop 4 = [] from List.drop_of_length_le (by rw [exC_len]; exact Nat.le_refl _), List.nil_append]
theorem exCs_take {l : List Ex} {i : Nat} {x : Ex} (h : l[i]? = some x) : ((uV l).drop (i * 4)).take 4 = exC x := by
 have hi : i < l.length := (List.getElem?_eq_some_iff.1 h).1
 have hd : l.drop i = x :: l.drop (i + 1) := by rw [List.drop_eq_getElem_cons hi]; congr 1; exact (List.getElem?_eq_some_iff.1 h).2
 rw [exCs_drop, hd, uV, List.take_append_of_le_length (by rw [exC_len]; exact Nat.le_refl _), List.take_of_length_le (by rw [exC_len]; exact Nat.le_refl _)]
theorem exV_fold (x : Ex) : Value.agg ⟨exC x⟩ = exV x := rfl
theorem exV_cells (x : Ex) : (exV x).cells.toList = exC x := rfl
theorem exC_take (x : Ex) : (exC x).take 4 = exC x := List.take_of_length_le (by rw [exC_len]; exact Nat.le_refl _)
attribute [push_cast] exC_mk exCs_len exV_fold exCs_sc exV_sc exsV_sc exR_sc exC_sc exCs_one exC_one exV_cells exC_take exC_len
def Ex.k : Ex → Int | .mk k _ _ _ => k
def Ex.n : Ex → Int | .mk _ n _ _ => n
def Ex.s : Ex → List UInt8 | .mk _ _ s _ => s
def Ex.l : Ex → List Ex | .mk _ _ _ l => l
theorem Ex.k_mk (k n : Int) (s : List UInt8) (l : List Ex) : Ex.k (.mk k n s l) = k := rfl
theorem Ex.n_mk (k n : Int) (s : List UInt8) (l : List Ex) : Ex.n (.mk k n s l) = n := rfl
theorem Ex.s_mk (k n : Int) (s : List UInt8) (l : List Ex) : Ex.s (.mk k n s l) = s := rfl
theorem Ex.l_mk (k n : Int) (s : List UInt8) (l : List Ex) : Ex.l (.mk k n s l) = l := rfl
theorem exC_of (x : Ex) : exC x = [.int .i64 x.k, .int .i64 x.n, .string (Tx x.s), Rw false eE x.l.length (uV x.l)] := by cases x; rfl
theorem exV_of (x : Ex) : Value.agg ⟨[.int .i64 x.k, .int .i64 x.n, .string (Tx x.s), Rw false eE x.l.length (uV x.l)]⟩ = exV x := by cases x; rfl
attribute [push_cast] Ex.k_mk Ex.n_mk Ex.s_mk Ex.l_mk exV_of
inductive Tm where
 | mk (k : Int) (a : Int) (b : Int) (s : List UInt8) (e : Ex) (l : List Tm)
abbrev etm : Nat := 34
mutual
def tmC : Tm → List Value
 | .mk k a b s e l => [.int .i64 k, .int .i64 a, .int .i64 b, .string (Tx s), .int .i64 e.k, .int .i64 e.n, .string (Tx e.s), Rw false eE e.l.length (uV e.l), Rw false etm l.length (qG l)]
def qG : List Tm → List Value
 | [] => []
 | x :: l => tmC x ++ qG l
end
def tmV (x : Tm) : Value := .agg ⟨tmC x⟩
def qN (l : List Tm) : Value := Rw false etm l.length (qG l)
theorem tmC_mk (k : Int) (a : Int) (b : Int) (s : List UInt8) (e : Ex) (l : List Tm) : tmC (.mk k a b s e l) = [.int .i64 k, .int .i64 a, .int .i64 b, .string (Tx s), .int .i64 e.k, .int .i64 e.n, .string (Tx e.s), Rw false eE e.l.length (uV e.l), Rw false etm l.length (qG l)] := rfl
theorem tmC_len (x : Tm) : (tmC x).length = 9 := by cases x; simp [tmC]
theorem qY : ∀ l : List Tm, (qG l).length = l.length * 9
 | [] => rfl
 | x :: l => by rw [qG, List.length_append, tmC_len, qY l, List.length_cons]; omega
theorem tmC_one : ∀ x : Tm, (tmC x).all one = true
 | .mk k a b s e l => by simp [tmC, one, Rw]
theorem gM : ∀ l : List Tm, (qG l).all one = true
 | [] => rfl
 | x :: l => by rw [qG, List.all_append, tmC_one x, gM l]; rfl
mutual
theorem tmC_sc (nn : Nat) (hn : 0 < nn) : ∀ x : Tm, scL nn (tmC x) = true
 | .mk k a b s e l => by
  have := gQ nn hn l
  simp [tmC, scL, Ev.sc, Rw, hn, exCs_sc,  *]
theorem gQ (nn : Nat) (hn : 0 < nn) : ∀ l : List Tm, scL nn (qG l) = true
 | [] => rfl
 | x :: l => by
  rw [qG]
  exact jU fun v hv => (List.mem_append.1 hv).elim (jV (tmC_sc nn hn x) v) (jV (gQ nn hn l) v)
end
theorem tmV_sc (n : Nat) (hn : 0 < n) (x : Tm) : Ev.sc n (tmV x) = true := tmC_sc n hn x
theorem tmR_sc (n : Nat) (hn : 0 < n) (k : Nat) (f : Bool) (l : List Tm) : Ev.sc n (Rw f etm k (qG l)) = true := by
 have := gQ n hn l
 simp [Ev.sc, Rw, scL, this, hn]
theorem tmsV_sc (n : Nat) (hn : 0 < n) (l : List Tm) : Ev.sc n (qN l) = true := tmR_sc n hn ..
theorem tmCs_app : ∀ (a b : List Tm), qG (a ++ b) = qG a ++ qG b
 | [], b => rfl
 | x :: a, b => by rw [List.cons_append, qG, tmCs_app a b, qG, List.append_assoc]
theorem tmCs_1 (x : Tm) : qG [x] = tmC x := by rw [qG, qG, List.append_nil]
theorem tmCs_drop : ∀ (l : List Tm) (i : Nat), (qG l).drop (i * 9) = qG (l.drop i)
 | l, 0 => by simp
 | [], i + 1 => by simp [qG]
 | x :: l, i + 1 => by
  rw [qG, List.drop_succ_cons, ← tmCs_drop l i, Nat.add_mul, Nat.one_mul, Nat.add_comm, ← List.drop_drop, List.drop_append_of_le_length (by rw [tmC_len]; exact Nat.le_refl _), show (tmC x).drop 9 = [] from List.drop_of_length_le (by rw [tmC_len]; exact Nat.le_refl _), List.nil_append]
theorem kA {l : List Tm} {i : Nat} {x : Tm} (h : l[i]? = some x) : ((qG l).drop (i * 9)).take 9 = tmC x := by
 have hi : i < l.length := (List.getElem?_eq_some_iff.1 h).1
 have hd : l.drop i = x :: l.drop (i + 1) := by rw [List.drop_eq_getElem_cons hi]; congr 1; exact (List.getElem?_eq_some_iff.1 h).2
 rw [tmCs_drop, hd, qG, List.take_append_of_le_length (by rw [tmC_len]; exact Nat.le_refl _), List.take_of_length_le (by rw [tmC_len]; exact Nat.le_refl _)]
theorem tmV_fold (x : Tm) : Value.agg ⟨tmC x⟩ = tmV x := rfl
theorem tmV_cells (x : Tm) : (tmV x).cells.toList = tmC x := rfl
theorem tmC_take (x : Tm) : (tmC x).take 9 = tmC x := List.take_of_length_le (by rw [tmC_len]; exact Nat.le_refl _)
theorem tmCs_p0 (x : Tm) (l : List Tm) : (qG (x :: l)).take 9 = tmC x := kA (l := x :: l) (i := 0) rfl
theorem tmCs_p1 (x y : Tm) (l : List Tm) : ((qG (x :: y :: l)).drop 9).take 9 = tmC y := kA (l := x :: y :: l) (i := 1) rfl
attribute [push_cast] tmC_mk qY tmV_fold gQ tmV_sc tmsV_sc tmR_sc tmC_sc gM tmC_one tmV_cells tmC_take tmC_len tmCs_p0 tmCs_p1
def Tm.k : Tm → Int | .mk k _ _ _ _ _ => k
def Tm.a : Tm → Int | .mk _ a _ _ _ _ => a
def Tm.b : Tm → Int | .mk _ _ b _ _ _ => b
def Tm.s : Tm → List UInt8 | .mk _ _ _ s _ _ => s
def Tm.e : Tm → Ex | .mk _ _ _ _ e _ => e
def Tm.l : Tm → List Tm | .mk _ _ _ _ _ l => l
theorem Tm.k_mk (k a b : Int) (s : List UInt8) (e : Ex) (l : List Tm) : Tm.k (.mk k a b s e l) = k := rfl
theorem Tm.l_mk (k a b : Int) (s : List UInt8) (e : Ex) (l : List Tm) : Tm.l (.mk k a b s e l) = l := rfl
inductive Pr where
 | mk (k : Int) (n : List UInt8) (t : List UInt8) (e : Ex) (l : List Pr)
abbrev epr : Nat := 77
mutual
def prC : Pr → List Value
 | .mk k n t e l => [.int .i64 k, .string (Tx n), .string (Tx t), .int .i64 e.k, .int .i64 e.n, .string (Tx e.s), Rw false eE e.l.length (uV e.l), Rw false epr l.length (prCs l)]
def prCs : List Pr → List Value
 | [] => []
 | x :: l => prC x ++ prCs l
end
def prV (x : Pr) : Value := .agg ⟨prC x⟩
def prsV (l : List Pr) : Value := Rw false epr l.length (prCs l)
theorem prC_mk (k : Int) (n : List UInt8) (t : List UInt8) (e : Ex) (l : List Pr) : prC (.mk k n t e l) = [.int .i64 k, .string (Tx n), .string (Tx t), .int .i64 e.k, .int .i64 e.n, .string (Tx e.s), Rw false eE e.l.length (uV e.l), Rw false epr l.length (prCs l)] := rfl
theorem gF (x : Pr) : (prC x).length = 8 := by cases x; simp [prC]
theorem prCs_len : ∀ l : List Pr, (prCs l).length = l.length * 8
 | [] => rfl
 | x :: l => by rw [prCs, List.length_append, gF, prCs_len l, List.length_cons]; omega
theorem prC_one : ∀ x : Pr, (prC x).all one = true
 | .mk k n t e l => by simp [prC, one, Rw]
mutual
theorem prC_sc (nn : Nat) (hn : 0 < nn) : ∀ x : Pr, scL nn (prC x) = true
 | .mk k n t e l => by
  have := prCs_sc nn hn l
  simp [prC, scL, Ev.sc, Rw, hn, exCs_sc,  *]
theorem prCs_sc (nn : Nat) (hn : 0 < nn) : ∀ l : List Pr, scL nn (prCs l) = true
 | [] => rfl
 | x :: l => by
  rw [prCs]
  exact jU fun v hv => (List.mem_append.1 hv).elim (jV (prC_sc nn hn x) v) (jV (prCs_sc nn hn l) v)
end
theorem prV_sc (n : Nat) (hn : 0 < n) (x : Pr) : Ev.sc n (prV x) = true := prC_sc n hn x
theorem prCs_1 (x : Pr) : prCs [x] = prC x := by rw [prCs, prCs, List.append_nil]
theorem prCs_drop : ∀ (l : List Pr) (i : Nat), (prCs l).drop (i * 8) = prCs (l.drop i)
 | l, 0 => by simp
 | [], i + 1 => by simp [prCs]
 | x :: l, i + 1 => by
  rw [prCs, List.drop_succ_cons, ← prCs_drop l i, Nat.add_mul, Nat.one_mul, Nat.add_comm, ← List.drop_drop, List.drop_append_of_le_length (by rw [gF]; exact Nat.le_refl _), show (prC x).drop 8 = [] from List.drop_of_length_le (by rw [gF]; exact Nat.le_refl _), List.nil_append]
theorem prCs_take {l : List Pr} {i : Nat} {x : Pr} (h : l[i]? = some x) : ((prCs l).drop (i * 8)).take 8 = prC x := by
 have hi : i < l.length := (List.getElem?_eq_some_iff.1 h).1
 have hd : l.drop i = x :: l.drop (i + 1) := by rw [List.drop_eq_getElem_cons hi]; congr 1; exact (List.getElem?_eq_some_iff.1 h).2
 rw [prCs_drop, hd, prCs, List.take_append_of_le_length (by rw [gF]; exact Nat.le_refl _), List.take_of_length_le (by rw [gF]; exact Nat.le_refl _)]
theorem prV_fold (x : Pr) : Value.agg ⟨prC x⟩ = prV x := rfl
theorem prV_cells (x : Pr) : (prV x).cells.toList = prC x := rfl
theorem prC_take (x : Pr) : (prC x).take 8 = prC x := List.take_of_length_le (by rw [gF]; exact Nat.le_refl _)
theorem prCs_p0 (x : Pr) (l : List Pr) : (prCs (x :: l)).take 8 = prC x := prCs_take (l := x :: l) (i := 0) rfl
theorem prCs_p1 (x y : Pr) (l : List Pr) : ((prCs (x :: y :: l)).drop 8).take 8 = prC y := prCs_take (l := x :: y :: l) (i := 1) rfl
attribute [push_cast] prC_mk prCs_len prV_fold prCs_sc prV_sc prC_sc prC_one prV_cells prC_take gF prCs_p0 prCs_p1
inductive Ra where
 | mk (k : Int) (n : Int) (l : List Ra)
abbrev era : Nat := 133
mutual
def raC : Ra → List Value
 | .mk k n l => [.int .i64 k, .int .i64 n, Rw false era l.length (raCs l)]
def raCs : List Ra → List Value
 | [] => []
 | x :: l => raC x ++ raCs l
end
def raV (x : Ra) : Value := .agg ⟨raC x⟩
def rasV (l : List Ra) : Value := Rw false era l.length (raCs l)
theorem raC_mk (k : Int) (n : Int) (l : List Ra) : raC (.mk k n l) = [.int .i64 k, .int .i64 n, Rw false era l.length (raCs l)] := rfl
theorem raC_len (x : Ra) : (raC x).length = 3 := by cases x; simp [raC]
theorem raCs_len : ∀ l : List Ra, (raCs l).length = l.length * 3
 | [] => rfl
 | x :: l => by rw [raCs, List.length_append, raC_len, raCs_len l, List.length_cons]; omega
theorem raC_one : ∀ x : Ra, (raC x).all one = true
 | .mk k n l => by simp [raC, one, Rw]
mutual
theorem raC_sc (nn : Nat) (hn : 0 < nn) : ∀ x : Ra, scL nn (raC x) = true
 | .mk k n l => by
  have := raCs_sc nn hn l
  simp [raC, scL, Ev.sc, Rw, hn,  *]
theorem raCs_sc (nn : Nat) (hn : 0 < nn) : ∀ l : List Ra, scL nn (raCs l) = true
 | [] => rfl
 | x :: l => by
  rw [raCs]
  exact jU fun v hv => (List.mem_append.1 hv).elim (jV (raC_sc nn hn x) v) (jV (raCs_sc nn hn l) v)
end
theorem raV_sc (n : Nat) (hn : 0 < n) (x : Ra) : Ev.sc n (raV x) = true := raC_sc n hn x
theorem raR_sc (n : Nat) (hn : 0 < n) (k : Nat) (f : Bool) (l : List Ra) : Ev.sc n (Rw f era k (raCs l)) = true := by
 have := raCs_sc n hn l
 simp [Ev.sc, Rw, scL, this, hn]
theorem rasV_sc (n : Nat) (hn : 0 < n) (l : List Ra) : Ev.sc n (rasV l) = true := raR_sc n hn ..
theorem raCs_drop : ∀ (l : List Ra) (i : Nat), (raCs l).drop (i * 3) = raCs (l.drop i)
 | l, 0 => by simp
 | [], i + 1 => by simp [raCs]
 | x :: l, i + 1 => by
  rw [raCs, List.drop_succ_cons, ← raCs_drop l i, Nat.add_mul, Nat.one_mul, Nat.add_comm, ← List.drop_drop, List.drop_append_of_le_length (by rw [raC_len]; exact Nat.le_refl _), show (raC x).drop 3 = [] from List.drop_of_length_le (by rw [raC_len]; exact Nat.le_refl _), List.nil_append]
theorem raCs_take {l : List Ra} {i : Nat} {x : Ra} (h : l[i]? = some x) : ((raCs l).drop (i * 3)).take 3 = raC x := by
 have hi : i < l.length := (List.getElem?_eq_some_iff.1 h).1
 have hd : l.drop i = x :: l.drop (i + 1) := by rw [List.drop_eq_getElem_cons hi]; congr 1; exact (List.getElem?_eq_some_iff.1 h).2
 rw [raCs_drop, hd, raCs, List.take_append_of_le_length (by rw [raC_len]; exact Nat.le_refl _), List.take_of_length_le (by rw [raC_len]; exact Nat.le_refl _)]
theorem raCs_get {l : List Ra} {i j : Nat} {x : Ra} {v : Value} (h : l[i]? = some x) (hj : j < 3) (hv : (raC x)[j]? = some v) : (raCs l)[i * 3 + j]? = some v := by
 have h1 := raCs_take h
 rw [← h1, List.getElem?_take_of_lt hj, List.getElem?_drop] at hv
 exact hv
theorem raV_fold (x : Ra) : Value.agg ⟨raC x⟩ = raV x := rfl
theorem raV_cells (x : Ra) : (raV x).cells.toList = raC x := rfl
attribute [push_cast] raC_mk raCs_len raV_fold raCs_sc raV_sc rasV_sc raR_sc raC_sc raC_one raV_cells raC_len
inductive Rb where
 | mk (k : Int) (a : Int) (b : Int) (e : List Ra) (l : List Rb)
abbrev erb : Nat := 38
mutual
def rbC : Rb → List Value
 | .mk k a b e l => [.int .i64 k, .int .i64 a, .int .i64 b, Rw false era e.length (raCs e), Rw false erb l.length (kG l)]
def kG : List Rb → List Value
 | [] => []
 | x :: l => rbC x ++ kG l
end
def rbV (x : Rb) : Value := .agg ⟨rbC x⟩
def rbsV (l : List Rb) : Value := Rw false erb l.length (kG l)
theorem rbC_mk (k : Int) (a : Int) (b : Int) (e : List Ra) (l : List Rb) : rbC (.mk k a b e l) = [.int .i64 k, .int .i64 a, .int .i64 b, Rw false era e.length (raCs e), Rw false erb l.length (kG l)] := rfl
theorem rbC_len (x : Rb) : (rbC x).length = 5 := by cases x; simp [rbC]
theorem rbCs_len : ∀ l : List Rb, (kG l).length = l.length * 5
 | [] => rfl
 | x :: l => by rw [kG, List.length_append, rbC_len, rbCs_len l, List.length_cons]; omega
theorem rbC_one : ∀ x : Rb, (rbC x).all one = true
 | .mk k a b e l => by simp [rbC, one, Rw]
theorem rbCs_one : ∀ l : List Rb, (kG l).all one = true
 | [] => rfl
 | x :: l => by rw [kG, List.all_append, rbC_one x, rbCs_one l]; rfl
mutual
theorem rbC_sc (nn : Nat) (hn : 0 < nn) : ∀ x : Rb, scL nn (rbC x) = true
 | .mk k a b e l => by
  have := rbCs_sc nn hn l
  simp [rbC, scL, Ev.sc, Rw, hn, raCs_sc,  *]
theorem rbCs_sc (nn : Nat) (hn : 0 < nn) : ∀ l : List Rb, scL nn (kG l) = true
 | [] => rfl
 | x :: l => by
  rw [kG]
  exact jU fun v hv => (List.mem_append.1 hv).elim (jV (rbC_sc nn hn x) v) (jV (rbCs_sc nn hn l) v)
end
theorem rbV_sc (n : Nat) (hn : 0 < n) (x : Rb) : Ev.sc n (rbV x) = true := rbC_sc n hn x
theorem rbR_sc (n : Nat) (hn : 0 < n) (k : Nat) (f : Bool) (l : List Rb) : Ev.sc n (Rw f erb k (kG l)) = true := by
 have := rbCs_sc n hn l
 simp [Ev.sc, Rw, scL, this, hn]
theorem rbsV_sc (n : Nat) (hn : 0 < n) (l : List Rb) : Ev.sc n (rbsV l) = true := rbR_sc n hn ..
theorem rbCs_app : ∀ (a b : List Rb), kG (a ++ b) = kG a ++ kG b
 | [], b => rfl
 | x :: a, b => by rw [List.cons_append, kG, rbCs_app a b, kG, List.append_assoc]
theorem rbCs_1 (x : Rb) : kG [x] = rbC x := by rw [kG, kG, List.append_nil]
theorem rbCs_drop : ∀ (l : List Rb) (i : Nat), (kG l).drop (i * 5) = kG (l.drop i)
 | l, 0 => by simp
 | [], i + 1 => by simp [kG]
 | x :: l, i + 1 => by
  rw [kG, List.drop_succ_cons, ← rbCs_drop l i, Nat.add_mul, Nat.one_mul, Nat.add_comm, ← List.drop_drop, List.drop_append_of_le_length (by rw [rbC_len]; exact Nat.le_refl _), show (rbC x).drop 5 = [] from List.drop_of_length_le (by rw [rbC_len]; exact Nat.le_refl _), List.nil_append]
theorem rbCs_take {l : List Rb} {i : Nat} {x : Rb} (h : l[i]? = some x) : ((kG l).drop (i * 5)).take 5 = rbC x := by
 have hi : i < l.length := (List.getElem?_eq_some_iff.1 h).1
 have hd : l.drop i = x :: l.drop (i + 1) := by rw [List.drop_eq_getElem_cons hi]; congr 1; exact (List.getElem?_eq_some_iff.1 h).2
 rw [rbCs_drop, hd, kG, List.take_append_of_le_length (by rw [rbC_len]; exact Nat.le_refl _), List.take_of_length_le (by rw [rbC_len]; exact Nat.le_refl _)]
theorem rbCs_get {l : List Rb} {i j : Nat} {x : Rb} {v : Value} (h : l[i]? = some x) (hj : j < 5) (hv : (rbC x)[j]? = some v) : (kG l)[i * 5 + j]? = some v := by
 have h1 := rbCs_take h
 rw [← h1, List.getElem?_take_of_lt hj, List.getElem?_drop] at hv
 exact hv
theorem rbV_fold (x : Rb) : Value.agg ⟨rbC x⟩ = rbV x := rfl
theorem rbV_cells (x : Rb) : (rbV x).cells.toList = rbC x := rfl
theorem rbC_take (x : Rb) : (rbC x).take 5 = rbC x := List.take_of_length_le (by rw [rbC_len]; exact Nat.le_refl _)
attribute [push_cast] rbC_mk rbCs_len rbV_fold rbCs_sc rbV_sc rbsV_sc rbR_sc rbC_sc rbCs_one rbC_one rbV_cells rbC_take rbC_len
theorem nil_Tm (G : Nat × Nat) (n : Nat) (σ : jA) : FzV (pp G).P n σ (.slice none 0 0) (qN []) := .nil (size := 9) rfl (by decide)
theorem nil_Ex (G : Nat × Nat) (n : Nat) (σ : jA) : FzV (pp G).P n σ (.slice none 0 0) (exsV []) := .nil (size := 4) rfl (by decide)
theorem nil_Pr (G : Nat × Nat) (n : Nat) (σ : jA) : FzV (pp G).P n σ (.slice none 0 0) (prsV []) := .nil (size := 8) rfl (by decide)
theorem nil_iv (G : Nat × Nat) (n : Nat) (σ : jA) : FzV (pp G).P n σ (.slice none 0 0) (ivV []) := .nil (size := 1) rfl (by decide)
theorem nil_ns (G : Nat × Nat) (n : Nat) (σ : jA) : FzV (pp G).P n σ (.slice none 0 0) (nsV []) := .nil (size := 1) rfl (by decide)
end
end Go.Proofs.Ytgeakofgklcipaa
namespace Go.Proofs.Ytgeakofgklcipaa
open Go Go.RowKit Go.Ev Go.Dv
noncomputable section
set_option maxRecDepth 100000
variable (G : Nat × Nat)
theorem fill_step {A c z : List Value} {w k off : Nat} (hA : A.length = off) (hz : z.length = w) : (A ++ (List.replicate (k + 1) z).flatten).take off ++ c ++ (A ++ (List.replicate (k + 1) z).flatten).drop (off + w) = (A ++ c) ++ (List.replicate k z).flatten := by
 subst hA
 rw [List.take_left, List.drop_append, List.drop_of_length_le (by omega), List.nil_append, Nat.add_sub_cancel_left, List.replicate_succ, List.flatten_cons, List.drop_append, List.drop_of_length_le (by omega), List.nil_append, hz, Nat.sub_self, List.drop_zero]
theorem fill_len {A z : List Value} {w k off n : Nat} (hA : A.length = off) (hz : z.length = w) (hn : off + k * w = n) : (A ++ (List.replicate k z).flatten).length = n := by
 rw [List.length_append, List.length_flatten, List.map_replicate, List.sum_replicate_nat, hA, hz, hn]
theorem jW {α : Type} {l : List α} {i : Nat} {x : α} (h : l[i]? = some x) : l.take (i + 1) = l.take i ++ [x] := by
 rw [List.take_add_one, h]; rfl
theorem jO {α : Type} {l : List α} {i : Nat} (h : i < l.length) : ∃ x, l[i]? = some x := ⟨_, List.getElem?_eq_getElem h⟩
def zex : List Value := [.int .i64 0, .int .i64 0, .string (Tx []), .slice none 0 0]
inductive ILex (l : List Ex) (fv : Value) : Nat → S → Prop
 | mk (i : Nat) (iv : Int) (h : jA) {x0 x2 x3 x4 x6 x7 x8 x9 xA xB xC xD xH xI xJ xK xL xM xN xO xP xQ xR xS : Value} (hiv : iv = (i : Int)) (hi : i ≤ l.length) (c1 : cells h 1 = some (uV (l.take i) ++ (List.replicate (l.length - i) zex).flatten, 31, false)) (hl1 : h.lo = 1) (hl2 : 2 ≤ h.next) :
  ILex l fv (l.length - i) ⟨(F29 x0 fv x2 x3 x4 (.slice (some ⟨1, 0, none⟩) l.length l.length) x6 x7 x8 x9 xA xB xC xD (Rw false eE l.length (uV l)) (.int .i64 l.length) (.int .i64 iv) xH xI xJ xK xL xM xN xO xP xQ xR xS), [], h⟩
theorem listex_f (l : List Ex) (f : FuncId) (hll : l.length < 100000000000) (hf : ∀ x ∈ l, jH (pp G) H0 f [exV x] (exV x)) : jH (pp G) H0 88 [exsV l, .func (.func f) #[] #[]] (exsV l) := by
 have hlo : H0.lo ≤ H0.next := Nat.le_refl _; refine jH.cut (jI.fir4 (q := qq) (jL G) fir88 (by kernel_rfl) rfl rfl (F29_arr ..) (show NGG ≤ H0.lo by rw [jY]; decide) ?_); rw [sd_ir88]
 unfold exsV
 by_cases h0 : l.length = 0
 ·have h0' : (l.length : Int) = 0 := by omega
  obtain rfl : l = [] := List.length_eq_zero_iff.1 h0
  simp (disch:=first|omega|(refine id ?_;simp only[push_cast];try omega)) only [push_cast,simprocAttr,h0']
  exact .nil (size := 4) rfl (by decide)
 have h0' : ¬ (l.length : Int) = 0 := by omega
 have h1 : (l.length : Int) * 400 + l.length < 100000000000000 := by omega
 simp (disch:=first|omega|(refine id ?_;simp only[push_cast];try omega)) only [push_cast,simprocAttr,h0',h1]
 refine WD.loop4 (q := qq) (jL G) (by kernel_rfl) (ILex l (.func (.func f) #[] #[])) ?_ _ _ (ILex.mk 0 0 _ rfl (Nat.zero_le _) (by simp (disch:=first|omega|(refine id ?_;simp only[push_cast];try omega)) only [push_cast,simprocAttr,List.take_zero]; rfl) rfl (by first | assumption | (simp (disch:=first|omega|(refine id ?_;simp only[push_cast];try omega)) only [push_cast,simprocAttr]; try omega)))
 intro m s1 hI
 cases hI with | mk i iv h hiv hi c1 hl1 hl2 =>
 subst hiv
 rw [sd_ir88_s0]
 by_cases hil : (i : Int) < l.length
 ·obtain ⟨x, hx⟩ := jO (l := l) (i := i) (by omega)
  have hxm := List.mem_of_getElem? hx
  have hp := exCs_take hx
  have hle : i * 4 + 4 ≤ l.length * 4 := by omega
  simp (disch:=first|omega|(refine id ?_;simp only[push_cast];try omega)) only [push_cast,simprocAttr,hil,Int.toNat_natCast,hp,hle,hl1]
  refine jC.dataI (hf x hxm) (by and_intros <;> first | rfl | (simp (disch:=first|omega|(refine id ?_;simp only[push_cast];try omega)) only [push_cast])) ?_
  obtain ⟨k, hk⟩ : ∃ k, l.length - i = k + 1 := ⟨l.length - i - 1, by omega⟩
  have hta : (uV (l.take i)).length = i * 4 := by rw [exCs_len, List.length_take, Nat.min_eq_left hi]
  have hlen := fill_len (w := 4) (z := zex) (k := l.length - i) (n := l.length * 4) hta rfl (by rw [Nat.sub_mul]; omega)
  have hst := fill_step (c := exC x) (w := 4) (z := zex) (k := k) hta rfl
  rw [← hk, ← exCs_1, ← exCs_app, ← jW hx, show k = l.length - (i + 1) by omega, exCs_1] at hst
  simp (disch:=first|omega|(refine id ?_;simp only[push_cast];try omega)) only [push_cast,simprocAttr,hil,Int.toNat_natCast,hle,hl1,c1,hlen,hst]
  exact ⟨_,by omega,ILex.mk (i + 1) _ _ (by first | rfl | omega) (by omega) (by first | assumption | (simp (disch:=first|omega|(refine id ?_;simp only[push_cast];try omega)) only [push_cast,simprocAttr]; try omega)) (by first | assumption | (simp (disch:=first|omega|(refine id ?_;simp only[push_cast];try omega)) only [push_cast,simprocAttr,hl1]; try omega)) (by first | assumption | (simp (disch:=first|omega|(refine id ?_;simp only[push_cast];try omega)) only [push_cast,simprocAttr]; try omega))⟩
 ·have hie : i = l.length := by omega
  subst hie
  rw [List.take_length, Nat.sub_self, List.replicate_zero, List.flatten_nil, List.append_nil] at c1
  simp (disch:=first|omega|(refine id ?_;simp only[push_cast];try omega)) only [push_cast,simprocAttr,hil]
  rw [sd_ir88_s1]
  simp (disch:=first|omega|(refine id ?_;simp only[push_cast];try omega)) only [push_cast,simprocAttr]
  refine .sl (by simp (disch:=first|omega|(refine id ?_;simp only[push_cast];try omega)) only [push_cast,simprocAttr]) c1 (size := 4) rfl (by decide) (by first | assumption | (simp (disch:=first|omega|(refine id ?_;simp only[push_cast];try omega)) only [push_cast,simprocAttr]; try omega)) (.inl ⟨by simp only [UC]; omega,Nat.le_refl _⟩) ?_
  rw [List.drop_zero, List.take_of_length_le (by rw [exCs_len]; exact Nat.le_refl _)]
  exact .ids (exCs_sc _ H0q l)
def ztm : List Value := [.int .i64 0, .int .i64 0, .int .i64 0, .string (Tx []), .int .i64 0, .int .i64 0, .string (Tx []), .slice none 0 0, .slice none 0 0]
inductive ILtm (l : List Tm) (fv : Value) : Nat → S → Prop
 | mk (i : Nat) (iv : Int) (h : jA) {x0 x2 x3 x4 x6 x7 x8 x9 xA xB xC xD xH xI xJ xK xL xM xN xO xP xQ xR xS : Value} (hiv : iv = (i : Int)) (hi : i ≤ l.length) (c1 : cells h 1 = some (qG (l.take i) ++ (List.replicate (l.length - i) ztm).flatten, 34, false)) (hl1 : h.lo = 1) (hl2 : 2 ≤ h.next) :
  ILtm l fv (l.length - i) ⟨(F29 x0 fv x2 x3 x4 (.slice (some ⟨1, 0, none⟩) l.length l.length) x6 x7 x8 x9 xA xB xC xD (Rw false etm l.length (qG l)) (.int .i64 l.length) (.int .i64 iv) xH xI xJ xK xL xM xN xO xP xQ xR xS), [], h⟩
theorem listtm_f (l : List Tm) (f : FuncId) (hll : l.length < 100000000000) (hf : ∀ x ∈ l, jH (pp G) H0 f [tmV x] (tmV x)) : jH (pp G) H0 73 [qN l, .func (.func f) #[] #[]] (qN l) := by
 have hlo : H0.lo ≤ H0.next := Nat.le_refl _; refine jH.cut (jI.fir4 (q := qq) (jL G) fir73 (by kernel_rfl) rfl rfl (F29_arr ..) (show NGG ≤ H0.lo by rw [jY]; decide) ?_); rw [sd_ir73]
 unfold qN
 by_cases h0 : l.length = 0
 ·have h0' : (l.length : Int) = 0 := by omega
  obtain rfl : l = [] := List.length_eq_zero_iff.1 h0
  simp (disch:=first|omega|(refine id ?_;simp only[push_cast];try omega)) only [push_cast,simprocAttr,h0']
  exact .nil (size := 9) rfl (by decide)
 have h0' : ¬ (l.length : Int) = 0 := by omega
 have h1 : (l.length : Int) * 400 + l.length < 100000000000000 := by omega
 simp (disch:=first|omega|(refine id ?_;simp only[push_cast];try omega)) only [push_cast,simprocAttr,h0',h1]
 refine WD.loop4 (q := qq) (jL G) (by kernel_rfl) (ILtm l (.func (.func f) #[] #[])) ?_ _ _ (ILtm.mk 0 0 _ rfl (Nat.zero_le _) (by simp (disch:=first|omega|(refine id ?_;simp only[push_cast];try omega)) only [push_cast,simprocAttr,List.take_zero]; rfl) rfl (by first | assumption | (simp (disch:=first|omega|(refine id ?_;simp only[push_cast];try omega)) only [push_cast,simprocAttr]; try omega)))
 intro m s1 hI
 cases hI with | mk i iv h hiv hi c1 hl1 hl2 =>
 subst hiv
 rw [sd_ir73_s0]
 by_cases hil : (i : Int) < l.length
 ·obtain ⟨x, hx⟩ := jO (l := l) (i := i) (by omega)
  have hxm := List.mem_of_getElem? hx
  have hp := kA hx
  have hle : i * 9 + 9 ≤ l.length * 9 := by omega
  simp (disch:=first|omega|(refine id ?_;simp only[push_cast];try omega)) only [push_cast,simprocAttr,hil,Int.toNat_natCast,hp,hle,hl1]
  refine jC.dataI (hf x hxm) (by and_intros <;> first | rfl | (simp (disch:=first|omega|(refine id ?_;simp only[push_cast];try omega)) only [push_cast])) ?_
  obtain ⟨k, hk⟩ : ∃ k, l.length - i = k + 1 := ⟨l.length - i - 1, by omega⟩
  have hta : (qG (l.take i)).length = i * 9 := by rw [qY, List.length_take, Nat.min_eq_left hi]
  have hlen := fill_len (w := 9) (z := ztm) (k := l.length - i) (n := l.length * 9) hta rfl (by rw [Nat.sub_mul]; omega)
  have hst := fill_step (c := tmC x) (w := 9) (z := ztm) (k := k) hta rfl
  rw [← hk, ← tmCs_1, ← tmCs_app, ← jW hx, show k = l.length - (i + 1) by omega, tmCs_1] at hst
  simp (disch:=first|omega|(refine id ?_;simp only[push_cast];try omega)) only [push_cast,simprocAttr,hil,Int.toNat_natCast,hle,hl1,c1,hlen,hst]
  exact ⟨_,by omega,ILtm.mk (i + 1) _ _ (by first | rfl | omega) (by omega) (by first | assumption | (simp (disch:=first|omega|(refine id ?_;simp only[push_cast];try omega)) only [push_cast,simprocAttr]; try omega)) (by first | assumption | (simp (disch:=first|omega|(refine id ?_;simp only[push_cast];try omega)) only [push_cast,simprocAttr,hl1]; try omega)) (by first | assumption | (simp (disch:=first|omega|(refine id ?_;simp only[push_cast];try omega)) only [push_cast,simprocAttr]; try omega))⟩
 ·have hie : i = l.length := by omega
  subst hie
  rw [List.take_length, Nat.sub_self, List.replicate_zero, List.flatten_nil, List.append_nil] at c1
  simp (disch:=first|omega|(refine id ?_;simp only[push_cast];try omega)) only [push_cast,simprocAttr,hil]
  rw [sd_ir73_s1]
  simp (disch:=first|omega|(refine id ?_;simp only[push_cast];try omega)) only [push_cast,simprocAttr]
  refine .sl (by simp (disch:=first|omega|(refine id ?_;simp only[push_cast];try omega)) only [push_cast,simprocAttr]) c1 (size := 9) rfl (by decide) (by first | assumption | (simp (disch:=first|omega|(refine id ?_;simp only[push_cast];try omega)) only [push_cast,simprocAttr]; try omega)) (.inl ⟨by simp only [UC]; omega,Nat.le_refl _⟩) ?_
  rw [List.drop_zero, List.take_of_length_le (by rw [qY]; exact Nat.le_refl _)]
  exact .ids (gQ _ H0q l)
mutual
def smE : Ex → Bool
 | .mk k n s l => decide (l.length < 100000000000) && smEs l
def smEs : List Ex → Bool
 | [] => true
 | x :: l => smE x && smEs l
end
mutual
def smT : Tm → Bool
 | .mk k a b s e l => decide (l.length < 100000000000) && smE e && gN l
def gN : List Tm → Bool
 | [] => true
 | x :: l => smT x && gN l
end
theorem smEs_all : ∀ {l : List Ex}, smEs l = true → ∀ x ∈ l, smE x = true
 | [], _, x, hx => by cases hx
 | y :: l, h, x, hx => by
  simp only [smEs, Bool.and_eq_true] at h
  rcases List.mem_cons.1 hx with rfl | hx
  ·exact h.1
  ·exact smEs_all h.2 x hx
theorem uT : ∀ {l : List Tm}, gN l = true → ∀ x ∈ l, smT x = true
 | [], _, x, hx => by cases hx
 | y :: l, h, x, hx => by
  simp only [gN, Bool.and_eq_true] at h
  rcases List.mem_cons.1 hx with rfl | hx
  ·exact h.1
  ·exact uT h.2 x hx
theorem smTs_of : ∀ {l : List Tm}, (∀ x ∈ l, smT x = true) → gN l = true
 | [], _ => rfl
 | y :: l, h => by rw [gN, h y (by simp), smTs_of fun x hx => h x (by simp [hx])]; rfl
theorem ownE_f : ∀ x : Ex, smE x = true → jH (pp G) H0 74 [exV x] (exV x)
 | .mk k n s l, hs => by
  simp only [smE, Bool.and_eq_true, decide_eq_true_eq] at hs
  have hl := listex_f G l 74 hs.1 fun x hx => ownE_f x (smEs_all hs.2 x hx)
  have hlo : H0.lo ≤ H0.next := Nat.le_refl _; refine jH.cut (jI.fir4 (q := qq) (jL G) fir74 (by kernel_rfl) rfl rfl (F8_arr ..) (show NGG ≤ H0.lo by rw [jY]; decide) ?_); rw [sd_ir74]
  unfold exV exC
  simp (disch:=first|omega|(refine id ?_;simp only[push_cast];try omega)) only [push_cast,simprocAttr]
  refine jC.dataI (hl) (by and_intros <;> first | rfl | (simp (disch:=first|omega|(refine id ?_;simp only[push_cast];try omega)) only [push_cast])) ?_
  unfold exsV
  simp (disch:=first|omega|(refine id ?_;simp only[push_cast];try omega)) only [push_cast,simprocAttr]
  exact .id (exV_sc _ H0q (.mk k n s l))
 termination_by x => SizeOf.sizeOf x
theorem ownT_f : ∀ x : Tm, smT x = true → jH (pp G) H0 54 [tmV x] (tmV x)
 | .mk k a b s e l, hs => by
  simp only [smT, Bool.and_eq_true, decide_eq_true_eq] at hs
  have hl := listtm_f G l 54 hs.1.1 fun x hx => ownT_f x (uT hs.2 x hx)
  have hT : jH (pp G) H0 56 [qN l] (qN l) := by
   have hlo : H0.lo ≤ H0.next := Nat.le_refl _; refine jH.cut (jI.fir4 (q := qq) (jL G) fir56 (by kernel_rfl) rfl rfl (F5_arr ..) (show NGG ≤ H0.lo by rw [jY]; decide) ?_); rw [sd_ir56]
   unfold qN
   simp (disch:=first|omega|(refine id ?_;simp only[push_cast];try omega)) only [push_cast,simprocAttr]
   refine jC.dataI (hl) (by and_intros <;> first | rfl | (simp (disch:=first|omega|(refine id ?_;simp only[push_cast];try omega)) only [push_cast])) ?_
   unfold qN
   simp (disch:=first|omega|(refine id ?_;simp only[push_cast];try omega)) only [push_cast,simprocAttr]
   exact .id (by simp (disch:=first|omega|(refine id ?_;simp only[push_cast];try omega)) only [push_cast,simprocAttr])
  have hlo : H0.lo ≤ H0.next := Nat.le_refl _; refine jH.cut (jI.fir4 (q := qq) (jL G) fir54 (by kernel_rfl) rfl rfl (F12_arr ..) (show NGG ≤ H0.lo by rw [jY]; decide) ?_); rw [sd_ir54]
  unfold tmV tmC
  simp (disch:=first|omega|(refine id ?_;simp only[push_cast];try omega)) only [push_cast,simprocAttr]
  refine jC.dataI (ownE_f G e hs.1.2) (by and_intros <;> first | rfl | (simp (disch:=first|omega|(refine id ?_;simp only[push_cast];try omega)) only [push_cast])) ?_
  simp (disch:=first|omega|(refine id ?_;simp only[push_cast];try omega)) only [push_cast,simprocAttr,exC_of]
  refine jC.dataI (hT) (by and_intros <;> first | rfl | (simp (disch:=first|omega|(refine id ?_;simp only[push_cast];try omega)) only [push_cast])) ?_
  unfold qN
  simp (disch:=first|omega|(refine id ?_;simp only[push_cast];try omega)) only [push_cast,simprocAttr,exC_of]
  exact .id (tmV_sc _ H0q (.mk k a b s e l))
 termination_by x => SizeOf.sizeOf x
mutual
def sameE : Ex → Ex → Bool
 | .mk k n s l, .mk k' n' s' l' => decide (k = k') && (decide (n = n') && (decide (s = s') && (decide (l.length = l'.length) && sameEs l l')))
def sameEs : List Ex → List Ex → Bool
 | x :: l, y :: m => sameE x y && sameEs l m
 | _, _ => true
end
theorem sameEs_all : ∀ {l m : List Ex}, sameEs l m = true → ∀ (i : Nat) (x y : Ex), l[i]? = some x → m[i]? = some y → sameE x y = true
 | [], _, _, i, x, y, h1, _ => by simp at h1
 | _ :: _, [], _, i, x, y, _, h2 => by simp at h2
 | a :: l, b :: m, h, i, x, y, h1, h2 => by
  simp only [sameEs, Bool.and_eq_true] at h
  cases i with
  | zero => simp at h1 h2; subst h1 h2; exact h.1
  | succ i => simp at h1 h2; exact sameEs_all h.2 i x y h1 h2
theorem sameEs_of : ∀ {l m : List Ex}, (∀ (i : Nat) (x y : Ex), l[i]? = some x → m[i]? = some y → sameE x y = true) → sameEs l m = true
 | [], _, _ => by simp [sameEs]
 | _ :: _, [], _ => by simp [sameEs]
 | a :: l, b :: m, h => by
  rw [sameEs, h 0 a b rfl rfl, sameEs_of fun i x y h1 h2 => h (i + 1) x y (by simpa using h1) (by simpa using h2)]; rfl
inductive I57 (k n : Int) (s : List UInt8) (l : List Ex) (k' n' : Int) (s' : List UInt8) (l' : List Ex) : Nat → S → Prop
 | mk (i : Nat) (iv : Int) (h : jA) {x0 x1 x4 x6 x7 x8 x9 xA xB xC xD xE xF xG xH xI xJ xK xL xM xN xO xP xQ xR xS xT xU xV xW xX xY xZ yA yB yC yD yE yF yG yH yI yJ yK yL yM yN yO yP yQ : Value} (hiv : iv = (i : Int)) (hi : i ≤ l.length) (c1 : cells h 1 = some (exC (.mk k n s l), 31, false)) (c2 : cells h 2 = some (exC (.mk k' n' s' l'), 31, false)) (hl1 : h.lo = 1) (hl2 : 3 ≤ h.next)
   (ha : ∀ j, j < i → ∀ x y, l[j]? = some x → l'[j]? = some y → sameE x y = true) :
  I57 k n s l k' n' s' l' (l.length - i) ⟨(F53 x0 x1 (.pointer (some ⟨1, 0, none⟩)) (.pointer (some ⟨2, 0, none⟩)) x4 (.int .i64 iv) x6 x7 x8 x9 xA xB xC xD xE xF xG xH xI xJ xK xL xM xN xO xP xQ xR xS xT xU xV xW xX xY xZ yA yB yC yD yE yF yG yH yI yJ yK yL yM yN yO yP yQ), [], h⟩
theorem same_e : ∀ a b : Ex, smE a = true → smE b = true → jH (pp G) H0 57 [exV a, exV b] (.bool (sameE a b))
 | .mk k n s l, .mk k' n' s' l', hs, hs' => by
  simp only [smE, Bool.and_eq_true, decide_eq_true_eq] at hs hs'
  have ih : ∀ x ∈ l, ∀ y ∈ l', jH (pp G) H0 57 [exV x, exV y] (.bool (sameE x y)) := fun x hx y hy => same_e x y (smEs_all hs.2 x hx) (smEs_all hs'.2 y hy)
  have hlo : H0.lo ≤ H0.next := Nat.le_refl _; refine jH.cut (jI.fir4 (q := qq) (jL G) fir57 (by kernel_rfl) rfl rfl (F53_arr ..) (show NGG ≤ H0.lo by rw [jY]; decide) ?_); rw [sd_ir57]
  rw [sameE]
  obtain ⟨b, hb⟩ : ∃ b, b = (decide (k = k') && (decide (n = n') && (decide (s = s') && (decide (l.length = l'.length) && sameEs l l')))) := ⟨_, rfl⟩
  rw [← hb]
  by_cases h1 : k = k'
  rotate_left
  ·obtain rfl : b = false := by rw [hb]; simp [h1]
   simp (disch:=first|omega|(refine id ?_;simp only[push_cast];try omega)) only [push_cast,simprocAttr,h1]
   exact .id rfl
  by_cases h2 : n = n'
  rotate_left
  ·obtain rfl : b = false := by rw [hb]; simp [h2]
   simp (disch:=first|omega|(refine id ?_;simp only[push_cast];try omega)) only [push_cast,simprocAttr,h1,h2]
   exact .id rfl
  by_cases h3 : s = s'
  rotate_left
  ·obtain rfl : b = false := by rw [hb]; simp [h3]
   have h3' : (s == s') = false := by simpa using h3
   simp (disch:=first|omega|(refine id ?_;simp only[push_cast];try omega)) only [push_cast,simprocAttr,h1,h2,h3']
   exact .id rfl
  by_cases h4 : l.length = l'.length
  rotate_left
  ·obtain rfl : b = false := by rw [hb]; simp [h4]
   have h4' : ¬ (l.length : Int) = l'.length := by omega
   simp (disch:=first|omega|(refine id ?_;simp only[push_cast];try omega)) only [push_cast,simprocAttr,h1,h2,h3,h4',beq_self_eq_true]
   exact .id rfl
  have h4' : (l.length : Int) = l'.length := by omega
  have hb' : b = sameEs l l' := by rw [hb]; simp [h1, h2, h3, h4]
  clear hb
  simp (disch:=first|omega|(refine id ?_;simp only[push_cast];try omega)) only [push_cast,simprocAttr,h1,h2,h3,h4',beq_self_eq_true]
  refine WD.loop4 (q := qq) (jL G) (by kernel_rfl) (I57 k n s l k' n' s' l') ?_ _ _ (I57.mk 0 0 _ rfl (Nat.zero_le _) (by first | assumption | (simp (disch:=first|omega|(refine id ?_;simp only[push_cast];try omega)) only [push_cast,simprocAttr,h1,h2,h3]; try omega)) (by first | assumption | (simp (disch:=first|omega|(refine id ?_;simp only[push_cast];try omega)) only [push_cast,simprocAttr,h1,h2,h3]; try omega)) rfl (by first | assumption | (simp (disch:=first|omega|(refine id ?_;simp only[push_cast];try omega)) only [push_cast,simprocAttr]; try omega)) (fun j hj => by omega))
  intro m s1 hI
  cases hI with | mk i iv h hiv hi c1 c2 hl1 hl2 ha =>
  subst hiv
  rw [sd_ir57_s0]
  by_cases hil : (i : Int) < l'.length
  ·obtain ⟨x, hx⟩ := jO (l := l) (i := i) (by omega)
   obtain ⟨y, hy⟩ := jO (l := l') (i := i) (by omega)
   have hp := exCs_take hx
   have hp' := exCs_take hy
   have hle : i * 4 + 4 ≤ l'.length * 4 := by omega
   have hle2 : i * 4 + 4 ≤ l.length * 4 := by omega
   simp (disch:=first|omega|(refine id ?_;simp only[push_cast];try omega)) only [push_cast,simprocAttr,hil,Int.toNat_natCast,hp,hp',hle,hle2,hl1,c1,c2,h4']
   refine jC.dataI (ih x (List.mem_of_getElem? hx) y (List.mem_of_getElem? hy)) (by and_intros <;> first | rfl | (simp (disch:=first|omega|(refine id ?_;simp only[push_cast];try omega)) only [push_cast])) ?_
   cases hr : sameE x y with
   | true =>
    simp (disch:=first|omega|(refine id ?_;simp only[push_cast];try omega)) only [push_cast,simprocAttr]
    exact ⟨_,by omega,I57.mk (i + 1) _ _ (by first | rfl | omega) (by omega) (by first | assumption | (simp (disch:=first|omega|(refine id ?_;simp only[push_cast];try omega)) only [push_cast,simprocAttr,c1]; try omega)) (by first | assumption | (simp (disch:=first|omega|(refine id ?_;simp only[push_cast];try omega)) only [push_cast,simprocAttr,c2]; try omega)) (by first | assumption | (simp (disch:=first|omega|(refine id ?_;simp only[push_cast];try omega)) only [push_cast,simprocAttr,hl1]; try omega)) (by first | assumption | (simp (disch:=first|omega|(refine id ?_;simp only[push_cast];try omega)) only [push_cast,simprocAttr]; try omega)) fun j hj u v hu hv => by
     by_cases e : j = i
     ·subst e; rw [hx] at hu; rw [hy] at hv; cases hu; cases hv; exact hr
     ·exact ha j (by omega) u v hu hv⟩
   | false =>
    obtain rfl : b = false := by
     rw [hb']
     cases hc : sameEs l l' with
     | false => rfl
     | true => rw [sameEs_all hc i x y hx hy] at hr; cases hr
    simp (disch:=first|omega|(refine id ?_;simp only[push_cast];try omega)) only [push_cast,simprocAttr]
    exact .id rfl
  ·obtain rfl : b = true := by
    rw [hb']
    exact sameEs_of fun j u v hu hv => ha j (by have := (List.getElem?_eq_some_iff.1 hu).1; omega) u v hu hv
   simp (disch:=first|omega|(refine id ?_;simp only[push_cast];try omega)) only [push_cast,simprocAttr,hil,c1,c2,hl1,h4']
   rw [sd_ir57_s1]
   simp (disch:=first|omega|(refine id ?_;simp only[push_cast];try omega)) only [push_cast,simprocAttr]
   exact .id rfl
 termination_by x => SizeOf.sizeOf x
mutual
def sameT : Tm → Tm → Bool
 | .mk k a b s e l, .mk k' a' b' s' e' l' => decide (k = k') && (decide (a = a') && (decide (b = b') && (decide (s = s') && (sameE e e' && (decide (l.length = l'.length) && gK l l')))))
def gK : List Tm → List Tm → Bool
 | x :: l, y :: m => sameT x y && gK l m
 | _, _ => true
end
theorem sameTs_all : ∀ {l m : List Tm}, gK l m = true → ∀ (i : Nat) (x y : Tm), l[i]? = some x → m[i]? = some y → sameT x y = true
 | [], _, _, i, x, y, h1, _ => by simp at h1
 | _ :: _, [], _, i, x, y, _, h2 => by simp at h2
 | a :: l, b :: m, h, i, x, y, h1, h2 => by
  simp only [gK, Bool.and_eq_true] at h
  cases i with
  | zero => simp at h1 h2; subst h1 h2; exact h.1
  | succ i => simp at h1 h2; exact sameTs_all h.2 i x y h1 h2
theorem sameTs_of : ∀ {l m : List Tm}, (∀ (i : Nat) (x y : Tm), l[i]? = some x → m[i]? = some y → sameT x y = true) → gK l m = true
 | [], _, _ => by simp [gK]
 | _ :: _, [], _ => by simp [gK]
 | a :: l, b :: m, h => by
  rw [gK, h 0 a b rfl rfl, sameTs_of fun i x y h1 h2 => h (i + 1) x y (by simpa using h1) (by simpa using h2)]; rfl
inductive I27 (t u : Tm) : Nat → S → Prop
 | mk (i : Nat) (iv : Int) (h : jA) {x0 x1 x4 x6 x7 x8 x9 xA xB xC xD xE xF xG xH xI xJ xK xL xM xN xO xP xQ xR xS xT xU xV xW xX xY xZ yA yB yC yD yE yF yG yH yI yJ yK yL yM yN yO yP yQ yR yS yT yU yV yW yX yY yZ zA zB zC zD zF zG : Value} (hiv : iv = (i : Int)) (hi : i ≤ t.l.length) (c1 : cells h 1 = some (tmC t, 34, false)) (c2 : cells h 2 = some (tmC u, 34, false)) (hl1 : h.lo = 1) (hl2 : 3 ≤ h.next)
   (ha : ∀ j, j < i → ∀ x y, t.l[j]? = some x → u.l[j]? = some y → sameT x y = true) :
  I27 t u (t.l.length - i) ⟨(F68 x0 x1 (.pointer (some ⟨1, 0, none⟩)) (.pointer (some ⟨2, 0, none⟩)) x4 (.int .i64 iv) x6 x7 x8 x9 xA xB xC xD xE xF xG xH xI xJ xK xL xM xN xO xP xQ xR xS xT xU xV xW xX xY xZ yA yB yC yD yE yF yG yH yI yJ yK yL yM yN yO yP yQ yR yS yT yU yV yW yX yY yZ zA zB zC zD zF zG), [], h⟩
theorem same_t : ∀ t u : Tm, smT t = true → smT u = true → jH (pp G) H0 27 [tmV t, tmV u] (.bool (sameT t u))
 | .mk k a b s e l, .mk k' a' b' s' e' l', hs, hs' => by
  simp only [smT, Bool.and_eq_true, decide_eq_true_eq] at hs hs'
  have ih : ∀ x ∈ l, ∀ y ∈ l', jH (pp G) H0 27 [tmV x, tmV y] (.bool (sameT x y)) := fun x hx y hy => same_t x y (uT hs.2 x hx) (uT hs'.2 y hy)
  have he := same_e G e e' hs.1.2 hs'.1.2
  have hlo : H0.lo ≤ H0.next := Nat.le_refl _; refine jH.cut (jI.fir4 (q := qq) (jL G) fir27 (by kernel_rfl) rfl rfl (F68_arr ..) (show NGG ≤ H0.lo by rw [jY]; decide) ?_); rw [sd_ir27]
  rw [sameT]
  obtain ⟨c, hb⟩ : ∃ c, c = (decide (k = k') && (decide (a = a') && (decide (b = b') && (decide (s = s') && (sameE e e' && (decide (l.length = l'.length) && gK l l')))))) := ⟨_, rfl⟩
  rw [← hb]
  by_cases h1 : k = k'
  rotate_left
  ·obtain rfl : c = false := by rw [hb]; simp [h1]
   simp (disch:=first|omega|(refine id ?_;simp only[push_cast];try omega)) only [push_cast,simprocAttr,h1]
   exact .id rfl
  by_cases h2 : a = a'
  rotate_left
  ·obtain rfl : c = false := by rw [hb]; simp [h2]
   simp (disch:=first|omega|(refine id ?_;simp only[push_cast];try omega)) only [push_cast,simprocAttr,h1,h2]
   exact .id rfl
  by_cases h5 : b = b'
  rotate_left
  ·obtain rfl : c = false := by rw [hb]; simp [h5]
   simp (disch:=first|omega|(refine id ?_;simp only[push_cast];try omega)) only [push_cast,simprocAttr,h1,h2,h5]
   exact .id rfl
  by_cases h3 : s = s'
  rotate_left
  ·obtain rfl : c = false := by rw [hb]; simp [h3]
   have h3' : (s == s') = false := by simpa using h3
   simp (disch:=first|omega|(refine id ?_;simp only[push_cast];try omega)) only [push_cast,simprocAttr,h1,h2,h5,h3']
   exact .id rfl
  simp (disch:=first|omega|(refine id ?_;simp only[push_cast];try omega)) only [push_cast,simprocAttr,h1,h2,h5,h3,beq_self_eq_true]
  refine jC.dataI (he) (by and_intros <;> first | rfl | (simp (disch:=first|omega|(refine id ?_;simp only[push_cast];try omega)) only [push_cast])) ?_
  by_cases h6 : sameE e e' = true
  rotate_left
  ·have h6 : sameE e e' = false := by simpa using h6
   obtain rfl : c = false := by rw [hb]; simp [h6]
   simp (disch:=first|omega|(refine id ?_;simp only[push_cast];try omega)) only [push_cast,simprocAttr,h6]
   exact .id rfl
  by_cases h4 : l.length = l'.length
  rotate_left
  ·obtain rfl : c = false := by rw [hb]; simp [h4]
   have h4' : ¬ (l.length : Int) = l'.length := by omega
   simp (disch:=first|omega|(refine id ?_;simp only[push_cast];try omega)) only [push_cast,simprocAttr,h4',h6]
   exact .id rfl
  have h4' : (l.length : Int) = l'.length := by omega
  have hb' : c = gK l l' := by rw [hb]; simp [h1, h2, h3, h4, h5, h6]
  clear hb
  simp (disch:=first|omega|(refine id ?_;simp only[push_cast];try omega)) only [push_cast,simprocAttr,h4',h6]
  refine WD.loop4 (q := qq) (jL G) (by kernel_rfl) (I27 (.mk k a b s e l) (.mk k' a' b' s' e' l')) ?_ _ _ (I27.mk 0 0 _ rfl (Nat.zero_le _) (by first | assumption | (simp (disch:=first|omega|(refine id ?_;simp only[push_cast];try omega)) only [push_cast,simprocAttr,h1,h2,h3,h5]; try omega)) (by first | assumption | (simp (disch:=first|omega|(refine id ?_;simp only[push_cast];try omega)) only [push_cast,simprocAttr,h1,h2,h3,h5]; try omega)) rfl (by first | assumption | (simp (disch:=first|omega|(refine id ?_;simp only[push_cast];try omega)) only [push_cast,simprocAttr]; try omega)) (fun j hj => by omega))
  intro m s1 hI
  cases hI with | mk i iv h hiv hi c1 c2 hl1 hl2 ha =>
  subst hiv
  rw [sd_ir27_s0]
  simp only [Tm.l_mk] at ha hi
  by_cases hil : (i : Int) < l'.length
  ·obtain ⟨x, hx⟩ := jO (l := l) (i := i) (by omega)
   obtain ⟨y, hy⟩ := jO (l := l') (i := i) (by omega)
   have hp := kA hx
   have hp' := kA hy
   have hle : i * 9 + 9 ≤ l'.length * 9 := by omega
   have hle2 : i * 9 + 9 ≤ l.length * 9 := by omega
   simp (disch:=first|omega|(refine id ?_;simp only[push_cast];try omega)) only [push_cast,simprocAttr,hil,Int.toNat_natCast,hp,hp',hle,hle2,hl1,c1,c2,h4']
   refine jC.dataI (ih x (List.mem_of_getElem? hx) y (List.mem_of_getElem? hy)) (by and_intros <;> first | rfl | (simp (disch:=first|omega|(refine id ?_;simp only[push_cast];try omega)) only [push_cast])) ?_
   cases hr : sameT x y with
   | true =>
    simp (disch:=first|omega|(refine id ?_;simp only[push_cast];try omega)) only [push_cast,simprocAttr]
    exact ⟨_,by simp only [Tm.l_mk]; omega,I27.mk (i + 1) _ _ (by first | rfl | omega) (by simp only [Tm.l_mk]; omega) (by first | assumption | (simp (disch:=first|omega|(refine id ?_;simp only[push_cast];try omega)) only [push_cast,simprocAttr,c1]; try omega)) (by first | assumption | (simp (disch:=first|omega|(refine id ?_;simp only[push_cast];try omega)) only [push_cast,simprocAttr,c2]; try omega)) (by first | assumption | (simp (disch:=first|omega|(refine id ?_;simp only[push_cast];try omega)) only [push_cast,simprocAttr,hl1]; try omega)) (by first | assumption | (simp (disch:=first|omega|(refine id ?_;simp only[push_cast];try omega)) only [push_cast,simprocAttr]; try omega)) fun j hj u v hu hv => by
     by_cases e : j = i
     ·subst e; rw [Tm.l_mk, hx] at hu; rw [Tm.l_mk, hy] at hv; cases hu; cases hv; exact hr
     ·exact ha j (by omega) u v hu hv⟩
   | false =>
    obtain rfl : c = false := by
     rw [hb']
     cases hc : gK l l' with
     | false => rfl
     | true => rw [sameTs_all hc i x y hx hy] at hr; cases hr
    simp (disch:=first|omega|(refine id ?_;simp only[push_cast];try omega)) only [push_cast,simprocAttr]
    exact .id rfl
  ·obtain rfl : c = true := by
    rw [hb']
    exact sameTs_of fun j u v hu hv => ha j (by have := (List.getElem?_eq_some_iff.1 hu).1; omega) u v hu hv
   simp (disch:=first|omega|(refine id ?_;simp only[push_cast];try omega)) only [push_cast,simprocAttr,hil,c1,c2,hl1,h4']
   rw [sd_ir27_s1]
   simp (disch:=first|omega|(refine id ?_;simp only[push_cast];try omega)) only [push_cast,simprocAttr]
   exact .id rfl
 termination_by x => SizeOf.sizeOf x
def smRow (l : List Tm) : Prop := l.length < 100000000000 ∧ gN l = true
def gR (l m : List Tm) : Bool := decide (l.length = m.length) && gK l m
inductive I35 (l m : List Tm) : Nat → S → Prop
 | mk (i : Nat) (iv : Int) (h : jA) {x2 x3 x4 x6 x7 x8 x9 xA xB xC xD xE xF xG xH xI xJ xK xL xM xN xO xP xQ : Value} (hiv : iv = (i : Int)) (hi : i ≤ l.length) (hl1 : h.lo = 1) (hl2 : 1 ≤ h.next)
   (ha : ∀ j, j < i → ∀ x y, l[j]? = some x → m[j]? = some y → sameT x y = true) :
  I35 l m (l.length - i) ⟨(F27 (qN l) (qN m) x2 x3 x4 (.int .i64 iv) x6 x7 x8 x9 xA xB xC xD xE xF xG xH xI xJ xK xL xM xN xO xP xQ), [], h⟩
theorem rows_f (l l' : List Tm) (hs : smRow l) (hs' : smRow l') : jH (pp G) H0 35 [qN l, qN l'] (.bool (gR l l')) := by
 have ih : ∀ x ∈ l, ∀ y ∈ l', jH (pp G) H0 27 [tmV x, tmV y] (.bool (sameT x y)) := fun x hx y hy => same_t G x y (uT hs.2 x hx) (uT hs'.2 y hy)
 have hsl := hs.1
 have hsl' := hs'.1
 have hlo : H0.lo ≤ H0.next := Nat.le_refl _; refine jH.cut (jI.fir4 (q := qq) (jL G) fir35 (by kernel_rfl) rfl rfl (F27_arr ..) (show NGG ≤ H0.lo by rw [jY]; decide) ?_); rw [sd_ir35]
 obtain ⟨c, hb⟩ : ∃ c, c = gR l l' := ⟨_, rfl⟩
 rw [← hb]
 unfold qN
 by_cases h4 : l.length = l'.length
 rotate_left
 ·obtain rfl : c = false := by rw [hb]; simp [gR, h4]
  have h4' : ¬ (l.length : Int) = l'.length := by omega
  simp (disch:=first|omega|(refine id ?_;simp only[push_cast];try omega)) only [push_cast,simprocAttr,h4']
  exact .id rfl
 have h4' : (l.length : Int) = l'.length := by omega
 have hb' : c = gK l l' := by rw [hb]; simp [gR, h4]
 simp (disch:=first|omega|(refine id ?_;simp only[push_cast];try omega)) only [push_cast,simprocAttr,h4']
 refine WD.loop4 (q := qq) (jL G) (by kernel_rfl) (I35 l l') ?_ _ _ (I35.mk 0 0 _ rfl (Nat.zero_le _) rfl (by first | assumption | (simp (disch:=first|omega|(refine id ?_;simp only[push_cast];try omega)) only [push_cast,simprocAttr]; try omega)) (fun j hj => by omega))
 intro m s1 hI
 cases hI with | mk i iv h hiv hi hl1 hl2 ha =>
 subst hiv
 rw [sd_ir35_s0]
 unfold qN
 by_cases hil : (i : Int) < l'.length
 ·obtain ⟨x, hx⟩ := jO (l := l) (i := i) (by omega)
  obtain ⟨y, hy⟩ := jO (l := l') (i := i) (by omega)
  have hp := kA hx
  have hp' := kA hy
  have hle : i * 9 + 9 ≤ l'.length * 9 := by omega
  have hle2 : i * 9 + 9 ≤ l.length * 9 := by omega
  simp (disch:=first|omega|(refine id ?_;simp only[push_cast];try omega)) only [push_cast,simprocAttr,hil,Int.toNat_natCast,hp,hp',hle,hle2,hl1,h4']
  refine jC.dataI (ih x (List.mem_of_getElem? hx) y (List.mem_of_getElem? hy)) (by and_intros <;> first | rfl | (simp (disch:=first|omega|(refine id ?_;simp only[push_cast];try omega)) only [push_cast])) ?_
  cases hr : sameT x y with
  | true =>
   simp (disch:=first|omega|(refine id ?_;simp only[push_cast];try omega)) only [push_cast,simprocAttr]
   exact ⟨_,by omega,I35.mk (i + 1) _ _ (by first | rfl | omega) (by omega) (by first | assumption | (simp (disch:=first|omega|(refine id ?_;simp only[push_cast];try omega)) only [push_cast,simprocAttr,hl1]; try omega)) (by first | assumption | (simp (disch:=first|omega|(refine id ?_;simp only[push_cast];try omega)) only [push_cast,simprocAttr]; try omega)) fun j hj u v hu hv => by
    by_cases e : j = i
    ·subst e; rw [hx] at hu; rw [hy] at hv; cases hu; cases hv; exact hr
    ·exact ha j (by omega) u v hu hv⟩
  | false =>
   obtain rfl : c = false := by
    rw [hb']
    cases hc : gK l l' with
    | false => rfl
    | true => rw [sameTs_all hc i x y hx hy] at hr; cases hr
   simp (disch:=first|omega|(refine id ?_;simp only[push_cast];try omega)) only [push_cast,simprocAttr]
   exact .id rfl
 ·obtain rfl : c = true := by
   rw [hb']
   exact sameTs_of fun j u v hu hv => ha j (by have := (List.getElem?_eq_some_iff.1 hu).1; omega) u v hu hv
  simp (disch:=first|omega|(refine id ?_;simp only[push_cast];try omega)) only [push_cast,simprocAttr,hil,h4']
  rw [sd_ir32_s1]
  simp (disch:=first|omega|(refine id ?_;simp only[push_cast];try omega)) only [push_cast,simprocAttr]
  exact .id rfl
abbrev eR : Nat := 32
def trs (s : List (List Tm)) : List Value := s.map qN
def trV (s : List (List Tm)) : Value := Rw false eR s.length (trs s)
theorem trs_len (s : List (List Tm)) : (trs s).length = s.length := by simp [trs]
theorem trs_one : ∀ s : List (List Tm), (trs s).all one = true
 | [] => rfl
 | x :: s => by
  have := trs_one s
  simp only [trs] at this
  simp only [trs, List.map_cons, List.all_cons, this, Bool.and_true]
  rfl
theorem trs_sc (n : Nat) (hn : 0 < n) : ∀ s : List (List Tm), scL n (trs s) = true
 | [] => rfl
 | x :: s => by
  have := trs_sc n hn s
  simp only [trs] at this
  simp [trs, scL, this, tmsV_sc n hn]
theorem trR_sc (n : Nat) (hn : 0 < n) (k : Nat) (f : Bool) (s : List (List Tm)) : Ev.sc n (Rw f eR k (trs s)) = true := by
 have := trs_sc n hn s
 simp [Ev.sc, Rw, scL, this, hn]
theorem trs_get {s : List (List Tm)} {i : Nat} {l : List Tm} (h : s[i]? = some l) : (trs s)[i]? = some (qN l) := by simp [trs, h]
theorem trs_app (a b : List (List Tm)) : trs (a ++ b) = trs a ++ trs b := by simp [trs]
attribute [push_cast] trs_len trs_one trs_sc trR_sc
def gJ (s : List (List Tm)) : Prop := s.length < 100000000000 ∧ ∀ l ∈ s, smRow l
def gS : List (List Tm) → List (List Tm) → Bool
 | x :: l, y :: m => gR x y && gS l m
 | _, _ => true
theorem allSame_all : ∀ {l m : List (List Tm)}, gS l m = true → ∀ (i : Nat) (x y : List Tm), l[i]? = some x → m[i]? = some y → gR x y = true
 | [], _, _, i, x, y, h1, _ => by simp at h1
 | _ :: _, [], _, i, x, y, _, h2 => by simp at h2
 | a :: l, b :: m, h, i, x, y, h1, h2 => by
  simp only [gS, Bool.and_eq_true] at h
  cases i with
  | zero => simp at h1 h2; subst h1 h2; exact h.1
  | succ i => simp at h1 h2; exact allSame_all h.2 i x y h1 h2
theorem allSame_of : ∀ {l m : List (List Tm)}, (∀ (i : Nat) (x y : List Tm), l[i]? = some x → m[i]? = some y → gR x y = true) → gS l m = true
 | [], _, _ => by simp [gS]
 | _ :: _, [], _ => by simp [gS]
 | a :: l, b :: m, h => by
  rw [gS, h 0 a b rfl rfl, allSame_of fun i x y h1 h2 => h (i + 1) x y (by simpa using h1) (by simpa using h2)]; rfl
def stSame (l m : List (List Tm)) : Bool := decide (l.length = m.length) && gS l m
inductive I32 (l m : List (List Tm)) : Nat → S → Prop
 | mk (i : Nat) (iv : Int) (h : jA) {x2 x3 x4 x6 x7 x8 x9 xA xB xC xD xE xF xG xH xI xJ xK xL xM xN xO xP xQ : Value} (hiv : iv = (i : Int)) (hi : i ≤ l.length) (hl1 : h.lo = 1) (hl2 : 1 ≤ h.next)
   (ha : ∀ j, j < i → ∀ x y, l[j]? = some x → m[j]? = some y → gR x y = true) :
  I32 l m (l.length - i) ⟨(F27 (trV l) (trV m) x2 x3 x4 (.int .i64 iv) x6 x7 x8 x9 xA xB xC xD xE xF xG xH xI xJ xK xL xM xN xO xP xQ), [], h⟩
theorem stsame_f (l l' : List (List Tm)) (hs : gJ l) (hs' : gJ l') : jH (pp G) H0 32 [trV l, trV l'] (.bool (stSame l l')) := by
 have ih : ∀ x ∈ l, ∀ y ∈ l', jH (pp G) H0 35 [qN x, qN y] (.bool (gR x y)) := fun x hx y hy => rows_f G x y (hs.2 x hx) (hs'.2 y hy)
 have hsl := hs.1
 have hsl' := hs'.1
 have hlo : H0.lo ≤ H0.next := Nat.le_refl _; refine jH.cut (jI.fir4 (q := qq) (jL G) fir32 (by kernel_rfl) rfl rfl (F27_arr ..) (show NGG ≤ H0.lo by rw [jY]; decide) ?_); rw [sd_ir32]
 obtain ⟨c, hb⟩ : ∃ c, c = stSame l l' := ⟨_, rfl⟩
 rw [← hb]
 unfold trV
 by_cases h4 : l.length = l'.length
 rotate_left
 ·obtain rfl : c = false := by rw [hb]; simp [stSame, h4]
  have h4' : ¬ (l.length : Int) = l'.length := by omega
  simp (disch:=first|omega|(refine id ?_;simp only[push_cast];try omega)) only [push_cast,simprocAttr,h4']
  exact .id rfl
 have h4' : (l.length : Int) = l'.length := by omega
 have hb' : c = gS l l' := by rw [hb]; simp [stSame, h4]
 simp (disch:=first|omega|(refine id ?_;simp only[push_cast];try omega)) only [push_cast,simprocAttr,h4']
 refine WD.loop4 (q := qq) (jL G) (by kernel_rfl) (I32 l l') ?_ _ _ (I32.mk 0 0 _ rfl (Nat.zero_le _) rfl (by first | assumption | (simp (disch:=first|omega|(refine id ?_;simp only[push_cast];try omega)) only [push_cast,simprocAttr]; try omega)) (fun j hj => by omega))
 intro m s1 hI
 cases hI with | mk i iv h hiv hi hl1 hl2 ha =>
 subst hiv
 rw [sd_ir32_s0]
 unfold trV
 by_cases hil : (i : Int) < l'.length
 ·obtain ⟨x, hx⟩ := jO (l := l) (i := i) (by omega)
  obtain ⟨y, hy⟩ := jO (l := l') (i := i) (by omega)
  have hp := trs_get hx
  have hp' := trs_get hy
  have hle : i < l'.length := by omega
  have hle2 : i < l.length := by omega
  simp (disch:=first|omega|(refine id ?_;simp only[push_cast];try omega)) only [push_cast,simprocAttr,hil,Int.toNat_natCast,hp,hp',hle,hle2,hl1,h4']
  refine jC.dataI (ih x (List.mem_of_getElem? hx) y (List.mem_of_getElem? hy)) (by and_intros <;> first | rfl | (simp (disch:=first|omega|(refine id ?_;simp only[push_cast];try omega)) only [push_cast])) ?_
  cases hr : gR x y with
  | true =>
   simp (disch:=first|omega|(refine id ?_;simp only[push_cast];try omega)) only [push_cast,simprocAttr]
   exact ⟨_,by omega,I32.mk (i + 1) _ _ (by first | rfl | omega) (by omega) (by first | assumption | (simp (disch:=first|omega|(refine id ?_;simp only[push_cast];try omega)) only [push_cast,simprocAttr,hl1]; try omega)) (by first | assumption | (simp (disch:=first|omega|(refine id ?_;simp only[push_cast];try omega)) only [push_cast,simprocAttr]; try omega)) fun j hj u v hu hv => by
    by_cases e : j = i
    ·subst e; rw [hx] at hu; rw [hy] at hv; cases hu; cases hv; exact hr
    ·exact ha j (by omega) u v hu hv⟩
  | false =>
   obtain rfl : c = false := by
    rw [hb']
    cases hc : gS l l' with
    | false => rfl
    | true => rw [allSame_all hc i x y hx hy] at hr; cases hr
   simp (disch:=first|omega|(refine id ?_;simp only[push_cast];try omega)) only [push_cast,simprocAttr]
   exact .id rfl
 ·obtain rfl : c = true := by
   rw [hb']
   exact allSame_of fun j u v hu hv => ha j (by have := (List.getElem?_eq_some_iff.1 hu).1; omega) u v hu hv
  simp (disch:=first|omega|(refine id ?_;simp only[push_cast];try omega)) only [push_cast,simprocAttr,hil,h4']
  rw [sd_ir32_s1]
  simp (disch:=first|omega|(refine id ?_;simp only[push_cast];try omega)) only [push_cast,simprocAttr]
  exact .id rfl
mutual
def sizeT : Tm → Int
 | .mk _ _ _ _ _ l => 1 + kX l
def kX : List Tm → Int
 | [] => 0
 | x :: l => sizeT x + kX l
end
theorem sizeTs_app : ∀ (a b : List Tm), kX (a ++ b) = kX a + kX b
 | [], b => by simp [kX]
 | x :: a, b => by rw [List.cons_append, kX, kX, sizeTs_app a b]; omega
theorem sizeTs_take {l : List Tm} {i : Nat} {x : Tm} (h : l[i]? = some x) : kX (l.take (i + 1)) = kX (l.take i) + sizeT x := by
 rw [jW h, sizeTs_app, kX, kX]; omega
theorem W_add (a b : Int) : IntKind.i64.wrap (W a + W b) = W (a + b) := by
 unfold W; simp only [IntKind.wrap_i64]; omega
inductive I58 (l : List Tm) : Nat → S → Prop
 | mk (i : Nat) (iv n : Int) (h : jA) {x0 x1 x2 x4 x5 x6 xA xB xC xD xE xF xG xH xI : Value} (hiv : iv = (i : Int)) (hi : i ≤ l.length) (hn : n = W (1 + kX (l.take i))) (hl1 : h.lo = 1) (hl2 : 1 ≤ h.next) :
  I58 l (l.length - i) ⟨(F19 x0 x1 x2 (.int .i64 n) x4 x5 x6 (qN l) (.int .i64 l.length) (.int .i64 iv) xA xB xC xD xE xF xG xH xI), [], h⟩
theorem size_t : ∀ t : Tm, smT t = true → jH (pp G) H0 58 [tmV t] (.int .i64 (W (sizeT t)))
 | .mk k a b s e l, hs => by
  simp only [smT, Bool.and_eq_true, decide_eq_true_eq] at hs
  have hsl := hs.1.1
  have ih : ∀ x ∈ l, jH (pp G) H0 58 [tmV x] (.int .i64 (W (sizeT x))) := fun x hx => size_t x (uT hs.2 x hx)
  have hlo : H0.lo ≤ H0.next := Nat.le_refl _; refine jH.cut (jI.fir4 (q := qq) (jL G) fir58 (by kernel_rfl) rfl rfl (F19_arr ..) (show NGG ≤ H0.lo by rw [jY]; decide) ?_); rw [sd_ir58]
  rw [sizeT]
  simp (disch:=first|omega|(refine id ?_;simp only[push_cast];try omega)) only [push_cast,simprocAttr]
  refine WD.loop4 (q := qq) (jL G) (by kernel_rfl) (I58 l) ?_ _ _ (I58.mk 0 0 _ _ rfl (Nat.zero_le _) rfl rfl (by first | assumption | (simp (disch:=first|omega|(refine id ?_;simp only[push_cast];try omega)) only [push_cast,simprocAttr]; try omega)))
  intro m s1 hI
  cases hI with | mk i iv n h hiv hi hn hl1 hl2 =>
  subst hiv hn
  rw [sd_ir58_s0]
  unfold qN
  by_cases hil : (i : Int) < l.length
  ·obtain ⟨x, hx⟩ := jO (l := l) (i := i) (by omega)
   have hp := kA hx
   have hle2 : i * 9 + 9 ≤ l.length * 9 := by omega
   simp (disch:=first|omega|(refine id ?_;simp only[push_cast];try omega)) only [push_cast,simprocAttr,hil,Int.toNat_natCast,hp,hle2,hl1]
   refine jC.dataI (ih x (List.mem_of_getElem? hx)) (by and_intros <;> first | rfl | (simp (disch:=first|omega|(refine id ?_;simp only[push_cast];try omega)) only [push_cast])) ?_
   simp (disch:=first|omega|(refine id ?_;simp only[push_cast];try omega)) only [push_cast,simprocAttr,W_add]
   exact ⟨_,by omega,I58.mk (i + 1) _ _ _ (by first | rfl | omega) (by omega) (by rw [sizeTs_take hx]; congr 1; omega) (by first | assumption | (simp (disch:=first|omega|(refine id ?_;simp only[push_cast];try omega)) only [push_cast,simprocAttr,hl1]; try omega)) (by first | assumption | (simp (disch:=first|omega|(refine id ?_;simp only[push_cast];try omega)) only [push_cast,simprocAttr]; try omega))⟩
  ·have hie : i = l.length := by omega
   subst hie
   simp (disch:=first|omega|(refine id ?_;simp only[push_cast];try omega)) only [push_cast,simprocAttr,hil]
   rw [sd_ir58_s1]
   simp (disch:=first|omega|(refine id ?_;simp only[push_cast];try omega)) only [push_cast,simprocAttr,List.take_length]
   exact .id rfl
 termination_by x => SizeOf.sizeOf x
def sizeR : List (List Tm) → Int
 | [] => 0
 | x :: s => kX x + sizeR s
theorem sizeR_app : ∀ (a b : List (List Tm)), sizeR (a ++ b) = sizeR a + sizeR b
 | [], b => by simp [sizeR]
 | x :: a, b => by rw [List.cons_append, sizeR, sizeR, sizeR_app a b]; omega
theorem sizeR_take {l : List (List Tm)} {i : Nat} {x : List Tm} (h : l[i]? = some x) : sizeR (l.take (i + 1)) = sizeR (l.take i) + kX x := by
 rw [jW h, sizeR_app, sizeR, sizeR]; omega
inductive I33 (s : List (List Tm)) : Nat → S → Prop
 | mk (i : Nat) (iv n : Int) (h : jA) {x0 x1 x2 x4 x5 x6 x7 xB xC xD xE xF xG xH xI xJ xK xL xM xN xO xP xQ : Value} (hiv : iv = (i : Int)) (hi : i ≤ s.length) (hn : n = W (sizeR (s.take i))) (hl1 : h.lo = 1) (hl2 : 1 ≤ h.next) :
  I33 s (s.length - i) ⟨(F27 x0 x1 x2 (.int .i64 n) x4 x5 x6 x7 (trV s) (.int .i64 s.length) (.int .i64 iv) xB xC xD xE xF xG xH xI xJ xK xL xM xN xO xP xQ), [], h⟩
inductive I33b (s : List (List Tm)) (j : Nat) (l : List Tm) : Nat → S → Prop
 | mk (i : Nat) (iv n : Int) (h : jA) {x0 x1 x2 x4 x5 x6 x7 xB xC xD xH xI xJ xK xL xM xN xO xP xQ : Value} (hiv : iv = (i : Int)) (hi : i ≤ l.length) (hn : n = W (sizeR (s.take j) + kX (l.take i))) (hl1 : h.lo = 1) (hl2 : 1 ≤ h.next) :
  I33b s j l (l.length - i) ⟨(F27 x0 x1 x2 (.int .i64 n) x4 x5 x6 x7 (trV s) (.int .i64 s.length) (.int .i64 j) xB xC xD (qN l) (.int .i64 l.length) (.int .i64 iv) xH xI xJ xK xL xM xN xO xP xQ), [], h⟩
theorem sizes_t (s : List (List Tm)) (hs : gJ s) : jH (pp G) H0 33 [trV s] (.int .i64 (W (sizeR s))) := by
 have hsl := hs.1
 have hlo : H0.lo ≤ H0.next := Nat.le_refl _; refine jH.cut (jI.fir4 (q := qq) (jL G) fir33 (by kernel_rfl) rfl rfl (F27_arr ..) (show NGG ≤ H0.lo by rw [jY]; decide) ?_); rw [sd_ir33]
 unfold trV
 simp (disch:=first|omega|(refine id ?_;simp only[push_cast];try omega)) only [push_cast,simprocAttr]
 refine WD.loop4 (q := qq) (jL G) (by kernel_rfl) (I33 s) ?_ _ _ (I33.mk 0 0 _ _ rfl (Nat.zero_le _) rfl rfl (by first | assumption | (simp (disch:=first|omega|(refine id ?_;simp only[push_cast];try omega)) only [push_cast,simprocAttr]; try omega)))
 intro m s1 hI
 cases hI with | mk j jv n h hiv hi hn hl1 hl2 =>
 subst hiv hn
 rw [sd_ir33_s0]
 unfold trV
 by_cases hjl : (j : Int) < s.length
 ·obtain ⟨l, hl⟩ := jO (l := s) (i := j) (by omega)
  have hlm := List.mem_of_getElem? hl
  obtain ⟨hll, hlt⟩ := hs.2 l hlm
  have hp := trs_get hl
  have hle2 : j < s.length := by omega
  unfold qN at hp
  simp (disch:=first|omega|(refine id ?_;simp only[push_cast];try omega)) only [push_cast,simprocAttr,hjl,Int.toNat_natCast,hp,hle2,hl1]
  refine WD.loop4 (q := qq) (jL G) (by kernel_rfl) (I33b s j l) ?_ _ _ (I33b.mk 0 0 _ _ rfl (Nat.zero_le _) (by rw [List.take_zero,kX,Int.add_zero]) (by first | assumption | (simp (disch:=first|omega|(refine id ?_;simp only[push_cast];try omega)) only [push_cast,simprocAttr,hl1]; try omega)) (by first | assumption | (simp (disch:=first|omega|(refine id ?_;simp only[push_cast];try omega)) only [push_cast,simprocAttr]; try omega)))
  intro m s1 hI
  cases hI with | mk i iv n h hiv hi hn hl1 hl2 =>
  subst hiv hn
  rw [sd_ir33_s2]
  unfold qN
  by_cases hil : (i : Int) < l.length
  ·obtain ⟨x, hx⟩ := jO (l := l) (i := i) (by omega)
   have hp := kA hx
   have hle2 : i * 9 + 9 ≤ l.length * 9 := by omega
   simp (disch:=first|omega|(refine id ?_;simp only[push_cast];try omega)) only [push_cast,simprocAttr,hil,Int.toNat_natCast,hp,hle2,hl1]
   refine jC.dataI (size_t G x (uT hlt x (List.mem_of_getElem? hx))) (by and_intros <;> first | rfl | (simp (disch:=first|omega|(refine id ?_;simp only[push_cast];try omega)) only [push_cast])) ?_
   simp (disch:=first|omega|(refine id ?_;simp only[push_cast];try omega)) only [push_cast,simprocAttr,W_add]
   exact ⟨_,by omega,I33b.mk (i + 1) _ _ _ (by first | rfl | omega) (by omega) (by rw [sizeTs_take hx]; congr 1; omega) (by first | assumption | (simp (disch:=first|omega|(refine id ?_;simp only[push_cast];try omega)) only [push_cast,simprocAttr,hl1]; try omega)) (by first | assumption | (simp (disch:=first|omega|(refine id ?_;simp only[push_cast];try omega)) only [push_cast,simprocAttr]; try omega))⟩
  ·have hie : i = l.length := by omega
   subst hie
   simp (disch:=first|omega|(refine id ?_;simp only[push_cast];try omega)) only [push_cast,simprocAttr,hil]
   rw [sd_ir33_s3]
   simp (disch:=first|omega|(refine id ?_;simp only[push_cast];try omega)) only [push_cast,simprocAttr,List.take_length]
   exact ⟨_,by omega,I33.mk (j + 1) _ _ _ (by first | rfl | omega) (by omega) (by rw [sizeR_take hl]) (by first | assumption | (simp (disch:=first|omega|(refine id ?_;simp only[push_cast];try omega)) only [push_cast,simprocAttr,hl1]; try omega)) (by first | assumption | (simp (disch:=first|omega|(refine id ?_;simp only[push_cast];try omega)) only [push_cast,simprocAttr]; try omega))⟩
 ·have hie : j = s.length := by omega
  subst hie
  simp (disch:=first|omega|(refine id ?_;simp only[push_cast];try omega)) only [push_cast,simprocAttr,hjl]
  rw [sd_ir33_s1]
  simp (disch:=first|omega|(refine id ?_;simp only[push_cast];try omega)) only [push_cast,simprocAttr,List.take_length]
  exact .id rfl
theorem apS_row {e k n by_ m : Nat} {cs xs : List Value} {h : jA} (hl : cs.length = n * k) (ho : cs.all one = true) (hx : xs.all one = true) (hm : 0 < m) (hb : ((n + m) * by_ ≤ 140737488355328 ∧ (n + m) < 100000000000000)) :
  apS e k by_ (Rw true e n cs) (some (m, xs)) h = some (.slice (some ⟨h.next, 0, none⟩) (n + m) UC, h.add (O (cs ++ xs) e true)) := by
 show (if xs.all one = true then (if cs.length = n * k ∧ ((n + m) * by_ ≤ 140737488355328 ∧ (n + m) < 100000000000000) ∧ cs.all one = true then (if m = 0 then some (Rw true e n cs, h) else some (.slice (some ⟨h.next, 0, none⟩) (n + m) UC, h.add (O (cs ++ xs) e true))) else none) else none) = _
 rw [if_pos hx, if_pos ⟨hl, hb, ho⟩, if_neg (by omega)]
theorem apS_row0 {e k n by_ : Nat} {cs xs : List Value} {h : jA} (hl : cs.length = n * k) (ho : cs.all one = true) (hx : xs.all one = true) (hb : (n * by_ ≤ 140737488355328 ∧ n < 100000000000000)) :
  apS e k by_ (Rw true e n cs) (some (0, xs)) h = some (Rw true e n cs, h) := by
 show (if xs.all one = true then (if cs.length = n * k ∧ ((n + 0) * by_ ≤ 140737488355328 ∧ (n + 0) < 100000000000000) ∧ cs.all one = true then (if 0 = 0 then some (Rw true e n cs, h) else some (.slice (some ⟨h.next, 0, none⟩) (n + 0) UC, h.add (O (cs ++ xs) e true))) else none) else none) = _
 rw [if_pos hx, if_pos ⟨hl, by simpa using hb, ho⟩, if_pos rfl]
theorem beq_self (n : Nat) : Nat.beq n n = true := Nat.beq_refl n
theorem has_f (s : List (List Tm)) (a : Int) (hs : s.length < 100000000000) : jH (pp G) H0 50 [trV s, .int .i64 a] (.bool (decide (0 ≤ a ∧ a < s.length))) := by
 have hlo : H0.lo ≤ H0.next := Nat.le_refl _; refine jH.cut (jI.fir4 (q := qq) (jL G) fir50 (by kernel_rfl) rfl rfl (F13_arr ..) (show NGG ≤ H0.lo by rw [jY]; decide) ?_); rw [sd_ir50]
 unfold trV
 by_cases h : 0 ≤ a
 ·simp (disch:=first|omega|(refine id ?_;simp only[push_cast];try omega)) only [push_cast,simprocAttr,h,true_and]
  exact .id rfl
 ·simp (disch:=first|omega|(refine id ?_;simp only[push_cast];try omega)) only [push_cast,simprocAttr,h,false_and]
  exact .id rfl
theorem behind_f (l m : List Tm) (hl : l.length < 100000000000) (hm : m.length < 100000000000) : jH (pp G) H0 53 [qN l, qN m] (qN (l ++ m)) := by
 have hlo : H0.lo ≤ H0.next := Nat.le_refl _; refine jH.cut (jI.fir4 (q := qq) (jL G) fir53 (by kernel_rfl) rfl rfl (F13_arr ..) (show NGG ≤ H0.lo by rw [jY]; decide) ?_); rw [sd_ir53]
 unfold qN
 have ht : (qG l).take (l.length * 9) = qG l := List.take_of_length_le (by rw [qY]; exact Nat.le_refl _)
 by_cases h0 : m.length = 0
 ·obtain rfl : m = [] := List.length_eq_zero_iff.1 h0
  have h1 : l.length * 120 + l.length < 100000000000000 := by omega
  have ha : apS 34 9 120 (Rw true 34 l.length (qG l)) (some (0, [])) H0 = some (Rw true 34 l.length (qG l), H0) := apS_row0 (by rw [qY]) (gM l) rfl (by omega)
  simp (disch:=first|omega|(refine id ?_;simp only[push_cast];try omega)) only [push_cast,simprocAttr,beq_self,Int.toNat_natCast,ht,List.length_nil,show qG [] = [] from rfl,ha]
  exact .row (.ids (gQ _ H0q l))
 have h1 : (l.length + m.length) * 120 + (l.length + m.length) < 100000000000000 := by omega
 have ha : apS 34 9 120 (Rw true 34 l.length (qG l)) (some (m.length, qG m)) H0 = some (.slice (some ⟨H0.next, 0, none⟩) (l.length + m.length) UC, H0.add (O (qG l ++ qG m) 34 true)) := apS_row (by rw [qY]) (gM l) (gM m) (by omega) (by omega)
 simp (disch:=first|omega|(refine id ?_;simp only[push_cast];try omega)) only [push_cast,simprocAttr,beq_self,Int.toNat_natCast,ht,ha]
 rw [← tmCs_app, ← List.length_append]
 have hlt : (l ++ m).length < U := by rw [List.length_append, show U = 100000000000000 by unfold U; rfl]; omega
 refine .sl (Nat.le_refl _) (kY _ _ _ _ rfl) (size := 9) rfl (by decide) ?_ (.inr ⟨rfl, Nat.le_refl _, by simp, hlt⟩) ?_
 ·rw [qY]; omega
 rw [List.drop_zero, List.take_of_length_le (by rw [qY]; exact Nat.le_refl _)]
 exact .ids (gQ _ H0q _)
def kS {α : Type} (s : List α) (a : Int) (l : α) : List α := if 0 ≤ a then s.set a.toNat l else s
theorem setZ_len {α : Type} (s : List α) (a : Int) (l : α) : (kS s a l).length = s.length := by
 unfold kS; split <;> simp
theorem setZ_eq {α : Type} {s : List α} {i : Nat} {l x : α} (h : s[i]? = some x) : (kS s i l)[i]? = some l := by
 unfold kS
 have := (List.getElem?_eq_some_iff.1 h).1
 rw [if_pos (by omega), Int.toNat_natCast]
 simp [this]
theorem setZ_ne {α : Type} {s : List α} {i : Nat} {a : Int} {l x : α} (h : s[i]? = some x) (hne : ¬ (i : Int) = a) : (kS s a l)[i]? = some x := by
 unfold kS
 split
 ·rw [List.getElem?_set_ne (by omega)]; exact h
 ·exact h
inductive I52 (σ : jA) (s r : List (List Tm)) (a : Int) (l : List Tm) (fv : Value) : Nat → S → Prop
 | mk (i : Nat) (iv : Int) (h : jA) {x0 x4 x5 x6 x7 x8 xA xB xC xD xE xI xJ xK xL xM xN xO xP xQ xR xS xT xU xV xW xX : Value} (hiv : iv = (i : Int)) (hi : i ≤ s.length) (c1 : cells h σ.next = some (trs (r.take i) ++ (List.replicate (s.length - i) [Value.slice none 0 0]).flatten, 32, false)) (hl1 : h.lo = 1) (hl2 : σ.next < h.next) (hg : jF σ h fun _ => False) :
  I52 σ s r a l fv (s.length - i) ⟨(F34 x0 (.int .i64 a) (qN l) fv x4 x5 x6 x7 x8 (.slice (some ⟨σ.next, 0, none⟩) s.length s.length) xA xB xC xD xE (trV s) (.int .i64 s.length) (.int .i64 iv) xI xJ xK xL xM xN xO xP xQ xR xS xT xU xV xW xX), [], h⟩
theorem with_d (σ : jA) (s : List (List Tm)) (a : Int) (l : List Tm) (hs : gJ s) (hl : smRow l) : jI (pp G) H0 52 [trV s, .int .i64 a, qN l, .func (.func 54) #[] #[]] σ
  fun v σ' => v = .slice (some ⟨σ.next, 0, none⟩) s.length s.length ∧ σ' = σ.add (O (trs (kS s a l)) eR false) := by
 have ho : ∀ m : List Tm, smRow m → jH (pp G) H0 73 [qN m, .func (.func 54) #[] #[]] (qN m) := fun m hm => listtm_f G m 54 hm.1 fun x hx => ownT_f G x (uT hm.2 x hx)
 have hsl := hs.1
 refine jI.wlog fun hl0 hH0 hp0 hlo => ?_; rw [gI] at hl0; refine jI.cut (jI.fir4 (q := qq) (jL G) fir52 (by kernel_rfl) rfl rfl (F34_arr ..) (by rw [hl0]; exact (show NGG ≤ 1 by decide)) ?_); rw [sd_ir52]
 unfold trV
 have h1 : (s.length : Int) * 24 + s.length < 100000000000000 := by omega
 simp (disch:=first|omega|(refine id ?_;simp only[push_cast];try omega)) only [push_cast,simprocAttr,h1]
 refine WD.loop4 (q := qq) (jL G) (by kernel_rfl) (I52 σ s (kS s a l) a l (.func (.func 54) #[] #[])) ?_ _ _ (I52.mk 0 0 _ rfl (Nat.zero_le _) (by simp (disch:=first|omega|(refine id ?_;simp only[push_cast];try omega)) only [push_cast,simprocAttr,List.take_zero]; rfl) (by first | assumption | (simp (disch:=first|omega|(refine id ?_;simp only[push_cast];try omega)) only [push_cast,simprocAttr]; try omega)) (by first | assumption | (simp (disch:=first|omega|(refine id ?_;simp only[push_cast];try omega)) only [push_cast,simprocAttr]; try omega)) (by (repeat (first | exact Gr.refl _ | assumption | (refine jF.put' ?_ _ _ (by first | omega | (simp only [push_cast]; omega))) | (refine jF.add' ?_ _)))))
 intro m s1 hI
 cases hI with | mk i iv h hiv hi c1 hl1 hl2 hg =>
 subst hiv
 rw [sd_ir52_s0]
 unfold trV
 by_cases hil : (i : Int) < s.length
 ·obtain ⟨x, hx⟩ := jO (l := s) (i := i) (by omega)
  have hxm := hs.2 x (List.mem_of_getElem? hx)
  have hp := trs_get hx
  have hle : i < s.length := by omega
  have key : ∀ (y : List Tm) (hy : smRow y) (hr : (kS s a l)[i]? = some y) {x4 x5 x6 x7 x8 xC xD xE xI xJ xK xL xM xN xO xP xQ xR xS xT xU xV xW xX x0 : Value} (R : jT → S → Prop)
    (hR : ∀ {x4 x5 x6 x7 x8 xC xD xE xI xJ xK xL xM xN xO xP xQ xR xS xT xU xV xW xX x0 xA xB : Value} (h' : jA), cells h' σ.next = some (trs ((kS s a l).take (i + 1)) ++ (List.replicate (s.length - (i + 1)) [Value.slice none 0 0]).flatten, 32, false) → h'.lo = 1 → σ.next < h'.next → (jF σ h' fun _ => False) →
     @kR ⟨R⟩ .normal ⟨(F34 x0 (.int .i64 a) (qN l) (.func (.func 54) #[] #[]) x4 x5 x6 x7 x8 (.slice (some ⟨σ.next, 0, none⟩) s.length s.length) xA xB xC xD xE (trV s) (.int .i64 s.length) (.int .i64 i) xI xJ xK xL xM xN xO xP xQ xR xS xT xU xV xW xX), [], h'⟩),
    dc3 (pp G) qq none ir52_s2 ⟨(F34 x0 (.int .i64 a) (qN l) (.func (.func 54) #[] #[]) x4 x5 x6 x7 x8 (.slice (some ⟨σ.next, 0, none⟩) s.length s.length) (.int .i64 i) (qN y) xC xD xE (trV s) (.int .i64 s.length) (.int .i64 i) xI xJ xK xL xM xN xO xP xQ xR xS xT xU xV xW xX), [], h⟩ (@kR ⟨R⟩) := by
   intro y hy hr
   intros
   rename_i R hR
   rw [sd_ir52_s2]
   obtain ⟨k, hk⟩ : ∃ k, s.length - i = k + 1 := ⟨s.length - i - 1, by omega⟩
   have hta : (trs ((kS s a l).take i)).length = i := by rw [trs_len, List.length_take, setZ_len, Nat.min_eq_left hi]
   have hlen := fill_len (w := 1) (z := [Value.slice none 0 0]) (k := s.length - i) (n := s.length) hta rfl (by omega)
   have hst := fill_step (c := [qN y]) (w := 1) (z := [Value.slice none 0 0]) (k := k) hta rfl
   rw [← hk, show [qN y] = trs [y] from rfl, ← trs_app, ← jW hr, show k = s.length - (i + 1) by omega, show trs [y] = [qN y] from rfl] at hst
   simp (disch:=first|omega|(refine id ?_;simp only[push_cast];try omega)) only [push_cast,simprocAttr]
   refine jC.dataI (ho y hy) (by and_intros <;> first | rfl | (simp (disch:=first|omega|(refine id ?_;simp only[push_cast];try omega)) only [push_cast])) ?_
   unfold qN at hst ⊢
   simp (disch:=first|omega|(refine id ?_;simp only[push_cast];try omega)) only [push_cast,simprocAttr,hil,Int.toNat_natCast,hle,hl1,c1,hlen,hst]
   exact hR _ (by first | assumption | (simp (disch:=first|omega|(refine id ?_;simp only[push_cast];try omega)) only [push_cast,simprocAttr]; try omega)) (by first | assumption | (simp (disch:=first|omega|(refine id ?_;simp only[push_cast];try omega)) only [push_cast,simprocAttr,hl1]; try omega)) (by first | assumption | (simp (disch:=first|omega|(refine id ?_;simp only[push_cast];try omega)) only [push_cast,simprocAttr]; try omega)) (by (repeat (first | exact Gr.refl _ | assumption | (refine jF.put' ?_ _ _ (by first | omega | (simp only [push_cast]; omega))) | (refine jF.add' ?_ _))))
  unfold trV at key
  have fin : ∀ (h' : jA) {x4 x5 x6 x7 x8 xC xD xE xI xJ xK xL xM xN xO xP xQ xR xS xT xU xV xW xX x0 xA xB : Value}, cells h' σ.next = some (trs ((kS s a l).take (i + 1)) ++ (List.replicate (s.length - (i + 1)) [Value.slice none 0 0]).flatten, 32, false) → h'.lo = 1 → σ.next < h'.next → (jF σ h' fun _ => False) →
    (∃ m', m' < s.length - i ∧ I52 σ s (kS s a l) a l (.func (.func 54) #[] #[]) m' ⟨(F34 x0 (.int .i64 a) (qN l) (.func (.func 54) #[] #[]) x4 x5 x6 x7 x8 (.slice (some ⟨σ.next, 0, none⟩) s.length s.length) xA xB xC xD xE (Rw false eR s.length (trs s)) (.int .i64 s.length) (.int .i64 ((i : Int) + 1)) xI xJ xK xL xM xN xO xP xQ xR xS xT xU xV xW xX), [], h'⟩) := fun h' => by
   intros
   rename_i c1 hl1 hl2 hg
   exact ⟨_, by omega, I52.mk (i + 1) _ _ (by first | rfl | omega) (by omega) c1 hl1 hl2 hg⟩
  by_cases ha : (i : Int) = a
  ·subst ha
   simp (disch:=first|omega|(refine id ?_;simp only[push_cast];try omega)) only [push_cast,simprocAttr,hil,Int.toNat_natCast,hp,hle,hl1]
   refine key l hl (setZ_eq hx) _ ?_
   intros
   rename_i h' c1' hl1' hl2' hg'
   simp (disch:=first|omega|(refine id ?_;simp only[push_cast];try omega)) only [push_cast,simprocAttr]
   rw [sd_ir52_s3]
   simp (disch:=first|omega|(refine id ?_;simp only[push_cast];try omega)) only [push_cast,simprocAttr,hil]
   exact fin _ c1' hl1' hl2' hg'
  ·simp (disch:=first|omega|(refine id ?_;simp only[push_cast];try omega)) only [push_cast,simprocAttr,hil,Int.toNat_natCast,hp,hle,hl1,ha]
   refine key x hxm (setZ_ne hx ha) _ ?_
   intros
   rename_i h' c1' hl1' hl2' hg'
   simp (disch:=first|omega|(refine id ?_;simp only[push_cast];try omega)) only [push_cast,simprocAttr]
   rw [sd_ir52_s3]
   simp (disch:=first|omega|(refine id ?_;simp only[push_cast];try omega)) only [push_cast,simprocAttr,hil]
   exact fin _ c1' hl1' hl2' hg'
 ·have hie : i = s.length := by omega
  subst hie
  rw [List.take_of_length_le (by rw [setZ_len]; exact Nat.le_refl _), Nat.sub_self, List.replicate_zero, List.flatten_nil, List.append_nil] at c1
  simp (disch:=first|omega|(refine id ?_;simp only[push_cast];try omega)) only [push_cast,simprocAttr,hil]
  rw [sd_ir52_s1]
  simp (disch:=first|omega|(refine id ?_;simp only[push_cast];try omega)) only [push_cast,simprocAttr]
  refine ⟨.id (by first | assumption | (simp (disch:=first|omega|(refine id ?_;simp only[push_cast];try omega)) only [push_cast,simprocAttr]; try omega)),bI.new1 hg hlo hl2 c1 (.ids (trs_sc _ (by omega) _)) (trs_one _)⟩
theorem with_f (s : List (List Tm)) (a : Int) (l : List Tm) (hs : gJ s) (hl : smRow l) : jH (pp G) H0 52 [trV s, .int .i64 a, qN l, .func (.func 54) #[] #[]] (trV (kS s a l)) := by
 refine jH.cut ((with_d G H0 s a l hs hl).mono ?_)
 rintro v σ' ⟨rfl, rfl⟩
 have hsl := hs.1
 unfold trV
 rw [setZ_len]
 refine .sl (Nat.le_refl _) (kY _ _ _ _ rfl) (size := 1) rfl (by decide) (by rw [trs_len, setZ_len]; omega) (.inl ⟨by simp only [UC]; omega, Nat.le_refl _⟩) ?_
 rw [List.drop_zero, List.take_of_length_le (by rw [trs_len, setZ_len]; omega)]
 exact .ids (trs_sc _ H0q _)
theorem smRow_nil : smRow [] := ⟨by simp, rfl⟩
theorem smRow_app {l m : List Tm} (h1 : smRow l) (h2 : smRow m) (hl : l.length + m.length < 100000000000) : smRow (l ++ m) :=
 ⟨by rw [List.length_append]; exact hl, smTs_of fun x hx => (List.mem_append.1 hx).elim (uT h1.2 x) (uT h2.2 x)⟩
theorem smRow_get {s : List (List Tm)} (h : gJ s) (i : Nat) : smRow (s.getD i []) := by
 rw [List.getD_eq_getElem?_getD]
 cases hx : s[i]? with
 | none => exact smRow_nil
 | some x => exact h.2 x (List.mem_of_getElem? hx)
theorem smRows_set {s : List (List Tm)} {a : Int} {l : List Tm} (h : gJ s) (hl : smRow l) : gJ (kS s a l) := by
 refine ⟨by rw [setZ_len]; exact h.1, fun x hx => ?_⟩
 unfold kS at hx
 split at hx
 ·rcases List.mem_or_eq_of_mem_set hx with hx | rfl
  ·exact h.2 x hx
  ·exact hl
 ·exact h.2 x hx
inductive IL (s : List (List Tm)) (fv : Value) : Nat → S → Prop
 | mk (i : Nat) (iv : Int) (h : jA) {x0 x2 x3 x4 x6 x7 x8 x9 xA xB xC xD xH xI xJ xK xL xM xN xO xP xQ xR xS : Value} (hiv : iv = (i : Int)) (hi : i ≤ s.length) (c1 : cells h 1 = some (trs (s.take i) ++ (List.replicate (s.length - i) [Value.slice none 0 0]).flatten, 32, false)) (hl1 : h.lo = 1) (hl2 : 2 ≤ h.next) :
  IL s fv (s.length - i) ⟨(F29 x0 fv x2 x3 x4 (.slice (some ⟨1, 0, none⟩) s.length s.length) x6 x7 x8 x9 xA xB xC xD (trV s) (.int .i64 s.length) (.int .i64 iv) xH xI xJ xK xL xM xN xO xP xQ xR xS), [], h⟩
theorem listR_f (s : List (List Tm)) (f : FuncId) (hll : s.length < 100000000000) (hf : ∀ x ∈ s, jH (pp G) H0 f [qN x] (qN x)) : jH (pp G) H0 72 [trV s, .func (.func f) #[] #[]] (trV s) := by
 have hlo : H0.lo ≤ H0.next := Nat.le_refl _; refine jH.cut (jI.fir4 (q := qq) (jL G) fir72 (by kernel_rfl) rfl rfl (F29_arr ..) (show NGG ≤ H0.lo by rw [jY]; decide) ?_); rw [sd_ir72]
 unfold trV
 by_cases h0 : s.length = 0
 ·have h0' : (s.length : Int) = 0 := by omega
  obtain rfl : s = [] := List.length_eq_zero_iff.1 h0
  simp (disch:=first|omega|(refine id ?_;simp only[push_cast];try omega)) only [push_cast,simprocAttr,h0']
  exact .nil (size := 1) rfl (by decide)
 have h0' : ¬ (s.length : Int) = 0 := by omega
 have h1 : (s.length : Int) * 400 + s.length < 100000000000000 := by omega
 simp (disch:=first|omega|(refine id ?_;simp only[push_cast];try omega)) only [push_cast,simprocAttr,h0',h1]
 refine WD.loop4 (q := qq) (jL G) (by kernel_rfl) (IL s (.func (.func f) #[] #[])) ?_ _ _ (IL.mk 0 0 _ rfl (Nat.zero_le _) (by simp (disch:=first|omega|(refine id ?_;simp only[push_cast];try omega)) only [push_cast,simprocAttr,List.take_zero]; rfl) rfl (by first | assumption | (simp (disch:=first|omega|(refine id ?_;simp only[push_cast];try omega)) only [push_cast,simprocAttr]; try omega)))
 intro m s1 hI
 cases hI with | mk i iv h hiv hi c1 hl1 hl2 =>
 subst hiv
 rw [sd_ir72_s0]
 unfold trV
 by_cases hil : (i : Int) < s.length
 ·obtain ⟨x, hx⟩ := jO (l := s) (i := i) (by omega)
  have hxm := List.mem_of_getElem? hx
  have hp := trs_get hx
  have hle : i < s.length := by omega
  simp (disch:=first|omega|(refine id ?_;simp only[push_cast];try omega)) only [push_cast,simprocAttr,hil,Int.toNat_natCast,hp,hle,hl1]
  refine jC.dataI (hf x hxm) (by and_intros <;> first | rfl | (simp (disch:=first|omega|(refine id ?_;simp only[push_cast];try omega)) only [push_cast])) ?_
  obtain ⟨k, hk⟩ : ∃ k, s.length - i = k + 1 := ⟨s.length - i - 1, by omega⟩
  have hta : (trs (s.take i)).length = i := by rw [trs_len, List.length_take, Nat.min_eq_left hi]
  have hlen := fill_len (w := 1) (z := [Value.slice none 0 0]) (k := s.length - i) (n := s.length) hta rfl (by omega)
  have hst := fill_step (c := [qN x]) (w := 1) (z := [Value.slice none 0 0]) (k := k) hta rfl
  rw [← hk, show [qN x] = trs [x] from rfl, ← trs_app, ← jW hx, show k = s.length - (i + 1) by omega, show trs [x] = [qN x] from rfl] at hst
  unfold qN at hst ⊢
  simp (disch:=first|omega|(refine id ?_;simp only[push_cast];try omega)) only [push_cast,simprocAttr,hil,Int.toNat_natCast,hle,hl1,c1,hlen,hst]
  exact ⟨_,by omega,IL.mk (i + 1) _ _ (by first | rfl | omega) (by omega) (by first | assumption | (simp (disch:=first|omega|(refine id ?_;simp only[push_cast];try omega)) only [push_cast,simprocAttr]; try omega)) (by first | assumption | (simp (disch:=first|omega|(refine id ?_;simp only[push_cast];try omega)) only [push_cast,simprocAttr,hl1]; try omega)) (by first | assumption | (simp (disch:=first|omega|(refine id ?_;simp only[push_cast];try omega)) only [push_cast,simprocAttr]; try omega))⟩
 ·have hie : i = s.length := by omega
  subst hie
  rw [List.take_length, Nat.sub_self, List.replicate_zero, List.flatten_nil, List.append_nil] at c1
  simp (disch:=first|omega|(refine id ?_;simp only[push_cast];try omega)) only [push_cast,simprocAttr,hil]
  rw [sd_ir72_s1]
  simp (disch:=first|omega|(refine id ?_;simp only[push_cast];try omega)) only [push_cast,simprocAttr]
  refine .sl (by simp (disch:=first|omega|(refine id ?_;simp only[push_cast];try omega)) only [push_cast,simprocAttr]) c1 (size := 1) rfl (by decide) (by first | assumption | (simp (disch:=first|omega|(refine id ?_;simp only[push_cast];try omega)) only [push_cast,simprocAttr]; try omega)) (.inl ⟨by simp only [UC]; omega,Nat.le_refl _⟩) ?_
  rw [List.drop_zero, List.take_of_length_le (by rw [trs_len]; omega)]
  exact .ids (trs_sc _ H0q s)
theorem ownTs_f (l : List Tm) (hl : smRow l) : jH (pp G) H0 56 [qN l] (qN l) := by
 have hlo : H0.lo ≤ H0.next := Nat.le_refl _; refine jH.cut (jI.fir4 (q := qq) (jL G) fir56 (by kernel_rfl) rfl rfl (F5_arr ..) (show NGG ≤ H0.lo by rw [jY]; decide) ?_); rw [sd_ir56]
 simp (disch:=first|omega|(refine id ?_;simp only[push_cast];try omega)) only [push_cast,simprocAttr]
 refine jC.dataI (listtm_f G l 54 hl.1 fun x hx => ownT_f G x (uT hl.2 x hx)) (by and_intros <;> first | rfl | (simp (disch:=first|omega|(refine id ?_;simp only[push_cast];try omega)) only [push_cast])) ?_
 simp (disch:=first|omega|(refine id ?_;simp only[push_cast];try omega)) only [push_cast,simprocAttr]
 exact .id (tmsV_sc _ H0q l)
@[push_cast]theorem trV_sc (n : Nat) (hn : 0 < n) (s : List (List Tm)) : Ev.sc n (trV s) = true := trR_sc n hn ..
theorem ownS_f (s : List (List Tm)) (hs : gJ s) : jH (pp G) H0 51 [trV s] (trV s) := by
 have hlo : H0.lo ≤ H0.next := Nat.le_refl _; refine jH.cut (jI.fir4 (q := qq) (jL G) fir51 (by kernel_rfl) rfl rfl (F5_arr ..) (show NGG ≤ H0.lo by rw [jY]; decide) ?_); rw [sd_ir51]
 simp (disch:=first|omega|(refine id ?_;simp only[push_cast];try omega)) only [push_cast,simprocAttr]
 refine jC.dataI (listR_f G s 56 hs.1 fun x hx => ownTs_f G x (hs.2 x hx)) (by and_intros <;> first | rfl | (simp (disch:=first|omega|(refine id ?_;simp only[push_cast];try omega)) only [push_cast])) ?_
 simp (disch:=first|omega|(refine id ?_;simp only[push_cast];try omega)) only [push_cast,simprocAttr]
 exact .id (trV_sc _ H0q s)
theorem nil_tr (n : Nat) (σ : jA) : FzV (pp G).P n σ (.slice none 0 0) (trV []) := .nil (size := 1) rfl (by decide)
theorem rowT1 (t : Tm) (σ : jA) : bsD (qq.m 32) (slT Try.prog 32) 1 [(0, tmV t)] σ = some (Rw true 34 1 (qG [t]), σ) := by
 rw [tmCs_1]; cases t; kernel_rfl
theorem trs_get' {s : List (List Tm)} {i : Nat} (h : i < s.length) : (trs s)[i]? = some (qN (s.getD i [])) := by simp [trs, h]
theorem push_in (s : List (List Tm)) (a : Int) (t : Tm) (hs : gJ s) (hgl : (s.getD a.toNat []).length + 1 < 100000000000) (ht : smT t = true) (ha : 0 ≤ a ∧ a < s.length) : jH (pp G) H0 23 [trV s, .int .i64 a, tmV t] (trV (kS s a (s.getD a.toNat [] ++ [t]))) := by
 have hg := smRow_get hs a.toNat
 have hsl := hs.1
 have hlo : H0.lo ≤ H0.next := Nat.le_refl _; refine jH.cut (jI.fir4 (q := qq) (jL G) fir23 (by kernel_rfl) rfl rfl (F23_arr ..) (show NGG ≤ H0.lo by rw [jY]; decide) ?_); rw [sd_ir23]
 simp (disch:=first|omega|(refine id ?_;simp only[push_cast];try omega)) only [push_cast,simprocAttr]
 refine jC.dataI (has_f G s a hs.1) (by and_intros <;> first | rfl | (simp (disch:=first|omega|(refine id ?_;simp only[push_cast];try omega)) only [push_cast])) ?_
 have hp := trs_get' (s := s) (i := a.toNat) (by omega)
 have hd : decide (0 ≤ a ∧ a < (s.length : Int)) = true := by simpa using ha
 have hc : (a.toNat : Int) = a := by omega
 have hlt : a.toNat < s.length := by omega
 have hsr : smRow (s.getD a.toNat [] ++ [t]) := smRow_app hg ⟨by simp, by simp [gN, ht]⟩ (by rw [List.length_cons, List.length_nil]; omega)
 unfold trV
 simp (disch:=first|omega|(refine id ?_;simp only[push_cast];try omega)) only [push_cast,simprocAttr,hd,hp,hc,hlt,ha.1,ha.2,↓rowT1]
 refine jC.data (behind_f G (s.getD a.toNat []) [t] (by omega) (by simp)) (.cons (.id (tmsV_sc _ H0q _)) (.cons (.row (.ids (gQ _ H0q _))) .nil)) (by first | rfl | (simp (disch:=first|omega|(refine id ?_;simp only[push_cast];try omega)) only [push_cast])) (by first | rfl | (simp (disch:=first|omega|(refine id ?_;simp only[push_cast];try omega)) only [push_cast])) ?_
 simp (disch:=first|omega|(refine id ?_;simp only[push_cast];try omega)) only [push_cast,simprocAttr]
 refine jC.dataI (with_f G s a (s.getD a.toNat [] ++ [t]) hs hsr) (by and_intros <;> first | rfl | (simp (disch:=first|omega|(refine id ?_;simp only[push_cast];try omega)) only [push_cast])) ?_
 simp (disch:=first|omega|(refine id ?_;simp only[push_cast];try omega)) only [push_cast,simprocAttr]
 exact .id (trV_sc _ H0q _)
theorem accept_f (s : List (List Tm)) (a : Int) (hs : gJ s) : jH (pp G) H0 28 [trV s, .int .i64 a] (trV (kS s a [])) := by
 have hlo : H0.lo ≤ H0.next := Nat.le_refl _; refine jH.cut (jI.fir4 (q := qq) (jL G) fir28 (by kernel_rfl) rfl rfl (F8_arr ..) (show NGG ≤ H0.lo by rw [jY]; decide) ?_); rw [sd_ir28]
 simp (disch:=first|omega|(refine id ?_;simp only[push_cast];try omega)) only [push_cast,simprocAttr]
 refine jC.data (with_f G s a [] hs smRow_nil) (by repeat' (first | exact FzL.nil | apply FzL.cons | exact FzV.id rfl | (refine FzV.id ?_; simp (disch:=first|omega|(refine id ?_;simp only[push_cast];try omega)) only [push_cast]; done) | exact nil_Tm .. | exact nil_Ex .. | exact nil_tr .. | exact nil_iv .. | exact nil_Pr .. | exact nil_ns .. | apply FzV.agg | apply FzV.row)) (by first | rfl | (simp (disch:=first|omega|(refine id ?_;simp only[push_cast];try omega)) only [push_cast])) (by first | rfl | (simp (disch:=first|omega|(refine id ?_;simp only[push_cast];try omega)) only [push_cast])) ?_
 simp (disch:=first|omega|(refine id ?_;simp only[push_cast];try omega)) only [push_cast,simprocAttr]
 exact .id (trV_sc _ H0q _)
def zE : Ex := .mk 0 0 [] []
def zT : Tm := .mk 0 0 0 [] zE []
def backF (x : Tm) : List Tm → Tm
 | [] => x
 | t :: r => .mk 12 0 0 [] zE [t, backF x r]
def bH (x : Tm) : List Tm → List Value
 | [] => tmC x
 | t :: r => [.int .i64 12, .int .i64 0, .int .i64 0, .string (Tx []), .int .i64 0, .int .i64 0, .string (Tx []), .slice none 0 0, Rw true 34 2 (tmC t ++ bH x r)]
def revF : List Tm → Tm
 | [] => zT
 | x :: r => backF x r.reverse
theorem backC_len (x : Tm) (r : List Tm) : (bH x r).length = 9 := by cases r <;> simp [bH, tmC_len]
theorem backC_one (x : Tm) (r : List Tm) : (bH x r).all one = true := by
 cases r with
 | nil => exact tmC_one x
 | cons t r => rfl
theorem backC_fz (n : Nat) (hn : 0 < n) (σ : jA) (x : Tm) : ∀ r : List Tm, FzL (pp G).P n σ (bH x r) (tmC (backF x r))
 | [] => .ids (tmC_sc n hn x)
 | t :: r => by
  rw [bH, backF]
  refine .cons (.id rfl) (.cons (.id rfl) (.cons (.id rfl) (.cons (.id rfl) (.cons (.id rfl) (.cons (.id rfl) (.cons (.id rfl) (.cons (nil_Ex G n σ) (.cons (.row ?_) .nil))))))))
  rw [show qG [t, backF x r] = tmC t ++ tmC (backF x r) by rw [qG, tmCs_1]]
  exact (FzL.ids (tmC_sc n hn t)).app (backC_fz n hn σ x r)
theorem row2 (t x : Tm) (r : List Tm) (σ : jA) : bsD (qq.m 32) (slT Try.prog 32) 2 [(0, tmV t), (1, .agg ⟨bH x r⟩)] σ = some (Rw true 34 2 (tmC t ++ bH x r), σ) := by
 cases r with
 | nil => rw [bH]; cases t; cases x; kernel_rfl
 | cons u r => rw [bH]; generalize bH x r = c; cases t; cases u; kernel_rfl
theorem backF_sm {x : Tm} (hx : smT x = true) : ∀ {r : List Tm}, gN r = true → smT (backF x r) = true
 | [], _ => hx
 | t :: r, h => by
  simp only [gN, Bool.and_eq_true] at h
  rw [backF]
  simp [smT, gN, h.1, backF_sm hx h.2, zE, smE, smEs]
inductive I25 (s : List (List Tm)) (a : Int) (x : Tm) (l : List Tm) : Nat → S → Prop
 | mk (i : Nat) (iv : Int) (h : jA) {x2 x3 x5 x6 x8 x9 xA xB xC xD xE xF xG xH xI xJ xK xL xM xN xO xP xQ xR xS xT xU xV xW xX yB yC yD yE yF yG yH yI yJ yK yL yM : Value} (hiv : iv = (i : Int)) (hi : i ≤ l.length)
   (c0 : cells h 1 = some ([.int .i64 0, .int .i64 0, .int .i64 0, .string (Tx []), .int .i64 0, .int .i64 0, .string (Tx []), .slice none 0 0, .slice none 0 0], 34, false))
   (c1 : cells h 2 = some (bH x (l.take i).reverse, 34, false)) (hl1 : h.lo = 1) (hl2 : 3 ≤ h.next) :
  I25 s a x l (l.length - i) ⟨(F49 (trV s) (.int .i64 a) x2 x3 (.pointer (some ⟨1, 0, none⟩)) x5 x6 (.pointer (some ⟨2, 0, none⟩)) x8 x9 xA xB xC xD xE xF xG xH xI xJ xK xL xM xN xO xP xQ xR xS xT xU xV xW xX (qN l) (.int .i64 l.length) (.int .i64 iv) yB yC yD yE yF yG yH yI yJ yK yL yM), [], h⟩
def ttV (t : Tm) (s : List (List Tm)) : Value := .tuple ⟨[tmV t, trV s]⟩
theorem rev_take (l : List Tm) {i : Nat} {t : Tm} (h : l[i]? = some t) : (l.take (i + 1)).reverse = t :: (l.take i).reverse := by
 rw [jW h, List.reverse_append]; rfl
theorem reverse_f (s : List (List Tm)) (a : Int) (hs : gJ s) (ha : 0 ≤ a ∧ a < s.length) :
  jH (pp G) H0 25 [trV s, .int .i64 a] (ttV (revF (s.getD a.toNat [])) (kS s a [])) := by
 have hga := smRow_get hs a.toNat
 have hsl := hs.1
 have hp := trs_get' (s := s) (i := a.toNat) (by omega)
 have hc : (a.toNat : Int) = a := by omega
 have hlt : a.toNat < s.length := by omega
 have hset : s.getD a.toNat [] = [] → kS s a [] = s := fun h0 => by
  unfold kS
  rw [if_pos ha.1]
  rw [List.getD_eq_getElem?_getD, List.getElem?_eq_getElem hlt] at h0
  simp only [Option.getD_some] at h0
  rw [← h0]
  exact List.set_getElem_self hlt
 generalize s.getD a.toNat [] = row at hga hp hset
 have hd : decide (0 ≤ a ∧ a < (s.length : Int)) = true := by simpa using ha
 have hrl := hga.1
 have hlo : H0.lo ≤ H0.next := Nat.le_refl _; refine jH.cut (jI.fir4 (q := qq) (jL G) fir25 (by kernel_rfl) rfl rfl (F49_arr ..) (show NGG ≤ H0.lo by rw [jY]; decide) ?_); rw [sd_ir25]
 simp (disch:=first|omega|(refine id ?_;simp only[push_cast];try omega)) only [push_cast,simprocAttr]
 refine jC.dataI (has_f G s a hs.1) (by and_intros <;> first | rfl | (simp (disch:=first|omega|(refine id ?_;simp only[push_cast];try omega)) only [push_cast])) ?_
 cases row with
 | nil =>
  rw [hset rfl]
  unfold trV
  unfold qN at hp
  simp (disch:=first|omega|(refine id ?_;simp only[push_cast];try omega)) only [push_cast,simprocAttr,hd,hp,hlt,ha.1,ha.2,List.length_nil,show ((0 : Nat) : Int) = 0 from rfl]
  have := ownS_f G s hs
  unfold trV at this
  refine jC.dataI (this) (by and_intros <;> first | rfl | (simp (disch:=first|omega|(refine id ?_;simp only[push_cast];try omega)) only [push_cast])) ?_
  simp (disch:=first|omega|(refine id ?_;simp only[push_cast];try omega)) only [push_cast,simprocAttr]
  refine .tup (.cons (.agg ?_) (.cons (.id (trR_sc _ H0q _ _ _)) .nil))
  exact .cons (.id rfl) (.cons (.id rfl) (.cons (.id rfl) (.cons (.id rfl) (.cons (.id rfl) (.cons (.id rfl) (.cons (.id rfl) (.cons (nil_Ex G _ _) (.cons (nil_Tm G _ _) .nil))))))))
 | cons x l =>
  have hll : l.length + 1 < 100000000000 := by simpa using hrl
  have hxs : smT x = true := uT hga.2 x (by simp)
  have hls : gN l = true := by have := hga.2; simp only [gN, Bool.and_eq_true] at this; exact this.2
  have hne : ¬ ((l.length : Int) + 1) = 0 := by omega
  have h9 : 9 ≤ (l.length + 1) * 9 := by omega
  have hT : jH (pp G) H0 56 [Rw false etm (x :: l).length (qG (x :: l))] (Rw false etm (x :: l).length (qG (x :: l))) := ownTs_f G _ hga
  have hdr : (qG (x :: l)).drop 9 = qG l := by
   have := tmCs_drop (x :: l) 1
   simpa using this
  unfold trV
  unfold qN at hp
  simp (disch:=first|omega|(refine id ?_;simp only[push_cast];try omega)) only [push_cast,simprocAttr,hd,hp,hlt,ha.1,ha.2,List.length_cons,hne]
  rw [List.length_cons] at hT
  refine jC.dataI (hT) (by and_intros <;> first | rfl | (simp (disch:=first|omega|(refine id ?_;simp only[push_cast];try omega)) only [push_cast])) ?_
  have e2 : (l.length : Int) + 1 - 1 = l.length := by omega
  simp (disch:=first|omega|(refine id ?_;simp only[push_cast];try omega)) only [push_cast,simprocAttr,h9,List.length_cons,hdr,Nat.add_sub_cancel,e2]
  refine WD.loop4 (q := qq) (jL G) (by kernel_rfl) (I25 s a x l) ?_ _ _ (I25.mk 0 0 _ rfl (Nat.zero_le _) (by simp (disch:=first|omega|(refine id ?_;simp only[push_cast];try omega)) only [push_cast,simprocAttr]) (by simp (disch:=first|omega|(refine id ?_;simp only[push_cast];try omega)) only [push_cast,simprocAttr]; rfl) rfl (by first | assumption | (simp (disch:=first|omega|(refine id ?_;simp only[push_cast];try omega)) only [push_cast,simprocAttr]; try omega)))
  intro m s1 hI
  cases hI with | mk i iv h hiv hi c0 c1 hl1 hl2 =>
  subst hiv
  rw [sd_ir25_s0]
  unfold trV qN
  by_cases hil : (i : Int) < l.length
  ·obtain ⟨t, ht⟩ := jO (l := l) (i := i) (by omega)
   have hpt := kA ht
   have hle2 : i * 9 + 9 ≤ l.length * 9 := by omega
   have hbl := backC_len x (l.take i).reverse
   have hbt : (bH x (l.take i).reverse).take 9 = bH x (l.take i).reverse := List.take_of_length_le (by rw [hbl]; omega)
   have hbd : (bH x (l.take i).reverse).drop 9 = [] := List.drop_of_length_le (by rw [hbl]; omega)
   have hbo := backC_one x (l.take i).reverse
   simp (disch:=first|omega|(refine id ?_;simp only[push_cast];try omega)) only [push_cast,simprocAttr,hil,Int.toNat_natCast,hpt,hle2,hl1,c1,hbl,hbt,hbd,hbo,↓row2]
   exact ⟨_,by omega,I25.mk (i + 1) _ _ (by first | rfl | omega) (by omega) (by first | assumption | (simp (disch:=first|omega|(refine id ?_;simp only[push_cast];try omega)) only [push_cast,simprocAttr,c0]; try omega)) (by rw [rev_take l ht,bH]; simp (disch:=first|omega|(refine id ?_;simp only[push_cast];try omega)) only [push_cast,simprocAttr]) (by first | assumption | (simp (disch:=first|omega|(refine id ?_;simp only[push_cast];try omega)) only [push_cast,simprocAttr,hl1]; try omega)) (by first | assumption | (simp (disch:=first|omega|(refine id ?_;simp only[push_cast];try omega)) only [push_cast,simprocAttr]; try omega))⟩
  ·have hie : i = l.length := by omega
   subst hie
   rw [List.take_length] at c1
   have hbl := backC_len x l.reverse
   have hbt : (bH x l.reverse).take 9 = bH x l.reverse := List.take_of_length_le (by rw [hbl]; omega)
   have hbd : (bH x l.reverse).drop 9 = [] := List.drop_of_length_le (by rw [hbl]; omega)
   have hbo := backC_one x l.reverse
   simp (disch:=first|omega|(refine id ?_;simp only[push_cast];try omega)) only [push_cast,simprocAttr,hil]
   rw [sd_ir25_s1]
   simp (disch:=first|omega|(refine id ?_;simp only[push_cast];try omega)) only [push_cast,simprocAttr,c1,hbl,hbt,hl1]
   have hA := accept_f G s a hs
   unfold trV at hA
   refine jC.dataI (hA) (by and_intros <;> first | rfl | (simp (disch:=first|omega|(refine id ?_;simp only[push_cast];try omega)) only [push_cast])) ?_
   simp (disch:=first|omega|(refine id ?_;simp only[push_cast];try omega)) only [push_cast,simprocAttr,c0,hl1,hbl,hbo,hbt,hbd]
   refine .tup (.cons (.agg (backC_fz G _ H0q _ x _)) (.cons (.id (trR_sc _ H0q _ _ _)) .nil))
def RowsAt (h : jA) (lo : Nat) (vs : List Value) (r : List (List Tm)) (a : Option Addr) : Prop :=
 vs.length = r.length ∧ ∀ (j : Nat) (v : Value) (row : List Tm), vs[j]? = some v → r[j]? = some row → ∃ b c, v = .slice b row.length c ∧ qA h 34 9 b row.length c (qG row) ∧ ∀ k, blk b k → ¬ blk a k ∧ lo ≤ k
theorem RowsAt.fz {P : Program} {h : jA} {lo : Nat} {N : Nat} (hN : N ≤ lo) (h0 : 0 < N) (hs : szT P 34 = some 9) {a : Option Addr} : ∀ {vs : List Value} {r : List (List Tm)}, RowsAt h lo vs r a → (∀ row ∈ r, row.length < 100000000000) → FzL P N h vs (trs r)
 | [], [], _, _ => .nil
 | [], _ :: _, hr, _ => by have := hr.1; simp at this
 | _ :: _, [], hr, _ => by have := hr.1; simp at this
 | v :: vs, row :: r, hr, hl => by
  obtain ⟨b, c, rfl, ho, hb⟩ := hr.2 0 v row rfl rfl
  refine .cons (ho.fz hs (by omega) (by have := hl row (by simp); omega) (.ids (gQ N h0 row)) fun k hk => Nat.le_trans hN (hb k hk).2) (RowsAt.fz hN h0 hs ⟨by simpa using hr.1, fun j v row h1 h2 => hr.2 (j + 1) v row (by simpa using h1) (by simpa using h2)⟩ fun x hx => hl x (by simp [hx]))
theorem qA.lt {σ : jA} {e n : Nat} {a : Option Addr} {len c : Nat} {cs : List Value} (ho : qA σ e n a len c cs) {b : Nat} (hb : blk a b) : σ.lo ≤ b ∧ b < σ.next := by
 obtain ⟨o, s, rfl⟩ := hb
 rcases ho.hat with ⟨e, _⟩ | ⟨q, _, e, h1, h2, _⟩
 ·cases e
 ·cases e; exact ⟨h1, h2⟩
theorem qA.flt {σ : jA} {e n : Nat} {a : Option Addr} {len c : Nat} {cs : List Value} (ho : qA σ e n a len c cs) {p : Nat → Bool} (hp : ∀ b, blk a b → p b = true) : qA (hflt p σ) e n a len c cs := by
 refine ⟨ho.hlen, ho.hone, ?_⟩
 rcases ho.hat with h0 | ⟨b, m, ha, h1, h2, h3, h4⟩
 ·exact .inl h0
 ·exact .inr ⟨b, m, ha, h1, h2, (hflt_cells σ (hp b ⟨0, none, ha⟩)).trans h3, h4⟩
end
end Go.Proofs.Ytgeakofgklcipaa
