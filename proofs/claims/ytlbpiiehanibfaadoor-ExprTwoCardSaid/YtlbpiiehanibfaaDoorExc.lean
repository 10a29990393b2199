/-
  What other texts of this seat take: the function 'within' at any number, 'known', the functions without a body. No condition but those that each theorem names.
-/
import Derived.Test.YtlbpiiehanibfaaDoorExa
import Derived.Test.YtlbpiiehanibfaaDoorExb
import Derived.Test.YtlbpiiehanibfaaDoorEwb
import Derived.Test.YtlbpiiehanibfaaDoorEvd
import Derived.Test.YtlbpiiehanibfaaDoorProg
import Derived.KernelRfl
import Derived.WalkKit
import Derived.WalkSpells
set_option linter.unusedSimpArgs false
set_option linter.unusedVariables false
namespace Go.Proofs.YtlbpiiehanibfaaDoor
open Go.RowKit Go.Ev Go.Dv
set_option maxRecDepth 100000
noncomputable section
def F94 (x0 x1 x2 x3 x4 x5 x6 x7 x8 x9 x10 x11 x12 x13 x14 x15 x16 x17 x18 x19 x20 x21 x22 x23 x24 x25 x26 x27 x28 x29 x30 x31 x32 x33 x34 x35 x36 x37 x38 x39 x40 x41 x42 x43 x44 x45 x46 x47 x48 x49 x50 x51 x52 x53 x54 x55 x56 x57 x58 x59 x60 x61 x62 x63 x64 x65 x66 x67 x68 x69 x70 x71 x72 x73 x74 x75 x76 x77 x78 x79 x80 x81 x82 x83 x84 x85 x86 x87 x88 x89 x90 x91 x92 x93 : Value) : VT := ⟨94, (.node (.node (.node (.node (.node (.node (.node .nil x63 .nil) x31 .nil) x15 (.node (.node .nil x79 .nil) x47 .nil)) x7 (.node (.node (.node .nil x71 .nil) x39 .nil) x23 (.node (.node .nil x87 .nil) x55 .nil))) x3 (.node (.node (.node (.node .nil x67 .nil) x35 .nil) x19 (.node (.node .nil x83 .nil) x51 .nil)) x11 (.node (.node (.node .nil x75 .nil) x43 .nil) x27 (.node (.node .nil x91 .nil) x59 .nil)))) x1 (.node (.node (.node (.node (.node .nil x65 .nil) x33 .nil) x17 (.node (.node .nil x81 .nil) x49 .nil)) x9 (.node (.node (.node .nil x73 .nil) x41 .nil) x25 (.node (.node .nil x89 .nil) x57 .nil))) x5 (.node (.node (.node (.node .nil x69 .nil) x37 .nil) x21 (.node (.node .nil x85 .nil) x53 .nil)) x13 (.node (.node (.node .nil x77 .nil) x45 .nil) x29 (.node (.node .nil x93 .nil) x61 .nil))))) x0 (.node (.node (.node (.node (.node (.node .nil x64 .nil) x32 .nil) x16 (.node (.node .nil x80 .nil) x48 .nil)) x8 (.node (.node (.node .nil x72 .nil) x40 .nil) x24 (.node (.node .nil x88 .nil) x56 .nil))) x4 (.node (.node (.node (.node .nil x68 .nil) x36 .nil) x20 (.node (.node .nil x84 .nil) x52 .nil)) x12 (.node (.node (.node .nil x76 .nil) x44 .nil) x28 (.node (.node .nil x92 .nil) x60 .nil)))) x2 (.node (.node (.node (.node (.node .nil x66 .nil) x34 .nil) x18 (.node (.node .nil x82 .nil) x50 .nil)) x10 (.node (.node (.node .nil x74 .nil) x42 .nil) x26 (.node (.node .nil x90 .nil) x58 .nil))) x6 (.node (.node (.node (.node .nil x70 .nil) x38 .nil) x22 (.node (.node .nil x86 .nil) x54 .nil)) x14 (.node (.node (.node .nil x78 .nil) x46 .nil) x30 (.node .nil x62 .nil))))))⟩
theorem F94_arr (x0 x1 x2 x3 x4 x5 x6 x7 x8 x9 x10 x11 x12 x13 x14 x15 x16 x17 x18 x19 x20 x21 x22 x23 x24 x25 x26 x27 x28 x29 x30 x31 x32 x33 x34 x35 x36 x37 x38 x39 x40 x41 x42 x43 x44 x45 x46 x47 x48 x49 x50 x51 x52 x53 x54 x55 x56 x57 x58 x59 x60 x61 x62 x63 x64 x65 x66 x67 x68 x69 x70 x71 x72 x73 x74 x75 x76 x77 x78 x79 x80 x81 x82 x83 x84 x85 x86 x87 x88 x89 x90 x91 x92 x93 : Value) : (F94 x0 x1 x2 x3 x4 x5 x6 x7 x8 x9 x10 x11 x12 x13 x14 x15 x16 x17 x18 x19 x20 x21 x22 x23 x24 x25 x26 x27 x28 x29 x30 x31 x32 x33 x34 x35 x36 x37 x38 x39 x40 x41 x42 x43 x44 x45 x46 x47 x48 x49 x50 x51 x52 x53 x54 x55 x56 x57 x58 x59 x60 x61 x62 x63 x64 x65 x66 x67 x68 x69 x70 x71 x72 x73 x74 x75 x76 x77 x78 x79 x80 x81 x82 x83 x84 x85 x86 x87 x88 x89 x90 x91 x92 x93).arr = ⟨[x0, x1, x2, x3, x4, x5, x6, x7, x8, x9, x10, x11, x12, x13, x14, x15, x16, x17, x18, x19, x20, x21, x22, x23, x24, x25, x26, x27, x28, x29, x30, x31, x32, x33, x34, x35, x36, x37, x38, x39, x40, x41, x42, x43, x44, x45, x46, x47, x48, x49, x50, x51, x52, x53, x54, x55, x56, x57, x58, x59, x60, x61, x62, x63, x64, x65, x66, x67, x68, x69, x70, x71, x72, x73, x74, x75, x76, x77, x78, x79, x80, x81, x82, x83, x84, x85, x86, x87, x88, x89, x90, x91, x92, x93]⟩ := by kernel_rfl
theorem ok_ir9 : irOk NGG ir9 = true := by kernel_rfl
theorem sd_ir9 (G : Nat) (h : Heap) (a0 a1 a2 a3 : Value) (R : Value → Heap → Prop) : dc3 (pp G) qq none ir9 ⟨(F94 a0 a1 a2 a3 undef undef undef undef undef undef undef undef undef undef undef undef undef undef undef undef undef undef undef undef undef undef undef undef undef undef undef undef undef undef undef undef undef undef undef undef undef undef undef undef undef undef undef undef undef undef undef undef undef undef undef undef undef undef undef undef undef undef undef undef undef undef undef undef undef undef undef undef undef undef undef undef undef undef undef undef undef undef undef undef undef undef undef undef undef undef undef undef undef undef), [], h⟩ (finR Tryd.prog [(.tmp 8)] R) = (oP (some (.bool false)) h (@kk ⟨(fun v1 h2 => CallVD (pp G) qq.H (.func (.func 13) #[] #[]) [] h2 (@kB ⟨(fun _ => (@kk ⟨(fun v3 h4 => oP (unV Tryd.prog .not v3) h4 (@kk ⟨(fun v5 h6 => vcond v5 (@kb ⟨(oP (some (.bool false)) h6 (@kk ⟨(fun v7 h8 => R v7 h8)⟩))⟩) (@kb ⟨(oP (some a0) h6 (@kk ⟨(fun v9 h10 => oP (some a1) h10 (@kk ⟨(fun v11 h12 => oE (bsD (qq.m 41) (slT Tryd.prog 41) 9 [(0, v9), (1, v11), (2, (.int .i64 9223372036854775807)), (3, (.int .i64 (-9223372036854775808))), (4, (.int .i64 0)), (5, (.int .i64 1)), (6, (.int .i64 (-1))), (7, (.int .i64 4294967296)), (8, (.int .i64 3037000500))] h12) (@kk ⟨(fun v13 h14 => oP (some v13) h14 (@kk ⟨(fun v15 h16 => oP (some v15) h16 (@kk ⟨(fun v17 _ => oP (some a3) h16 (@kk ⟨(fun v18 _ => oP (some v15) h16 (@kk ⟨(fun v19 _ => oP (some a3) h16 (@kk ⟨(fun v20 _ => oP (binPure Tryd.prog .quo 3 (.tmp 32) (.const (.int .i64 9)) v20 (.int .i64 9)) h16 (@kk ⟨(fun v21 _ => CallVD (pp G) qq.H (.func (.func 31) #[] #[]) [v18, (.int .i64 9)] h16 (@kB ⟨(fun b24 v22 h23 => keptK (keptD b24 [1] ([], [])) (@kb ⟨(oP (iaD (esz Tryd.prog 41) v17 v22) h23 (@kk ⟨(fun v25 _ => oP (ldD Tryd.prog 3 v25 h23) h23 (@kk ⟨(fun v26 _ => CallVD (pp G) qq.H (.func (.func 31) #[] #[]) [v21, (.int .i64 9)] h23 (@kB ⟨(fun b29 v27 h28 => keptK (keptD b29 [7, 2] (4 :: (nextD b24 ([], [])).1, (nextD b24 ([], [])).2)) (@kb ⟨(oP (iaD (esz Tryd.prog 41) v19 v27) h28 (@kk ⟨(fun v30 _ => oP (ldD Tryd.prog 3 v30 h28) h28 (@kk ⟨(fun v31 _ => oP (some v26) h28 (@kk ⟨(fun v32 _ => oP (some v31) h28 (@kk ⟨(fun v33 _ => oP (some a2) h28 (@kk ⟨(fun v34 h35 => CallVD (pp G) qq.H (.func (.func 31) #[] #[]) [v34, (.int .i64 13)] h35 (@kB ⟨(fun _ => (@kk ⟨(fun v36 h37 => oP (binPure Tryd.prog .add 3 (.const (.int .i64 5)) (.tmp 38) (.int .i64 5) v36) h37 (@kk ⟨(fun v38 h39 => oP (bdV (plc Tryd.prog 27) [(0, (.int .i64 2))]) h39 (@kk ⟨(fun v40 h41 => oP (bdV (plc Tryd.prog 27) [(0, (.int .i64 2)), (1, (.int .i64 1))]) h41 (@kk ⟨(fun v42 h43 => oE (bsD (qq.m 25) (slT Tryd.prog 25) 2 [(0, v40), (1, v42)] h43) (@kk ⟨(fun v44 h45 => oP (bdV (plc Tryd.prog 27) [(0, v38), (3, v44)]) h45 (@kk ⟨(fun v46 h47 => oE (alE (zro Tryd.prog 27) 27 h47) (@kk ⟨(fun v48 h49 => oE (stD (szT Tryd.prog 27) v48 v46 h49) (@kk ⟨(fun v50 h51 => oP (ldD Tryd.prog 27 v48 h51) h51 (@kk ⟨(fun v52 h53 => oP (some v32) h53 (@kk ⟨(fun v54 h55 => oP (some v33) h55 (@kk ⟨(fun v56 h57 => oE (bsD (qq.m 41) (slT Tryd.prog 41) 2 [(0, v54), (1, v56)] h57) (@kk ⟨(fun v58 h59 => CallVD (pp G) qq.H (.func (.func 25) #[] #[]) [v52, v58] h59 (@kB ⟨(fun _ => (@kk ⟨(fun v60 h61 => oP (some v60) h61 (@kk ⟨(fun v62 h63 => oP (extV v62 0) h63 (@kk ⟨(fun v64 h65 => oP (extV v62 1) h65 (@kk ⟨(fun v66 h67 => oP (some v64) h67 (@kk ⟨(fun v68 h69 => oP (some v66) h69 (@kk ⟨(fun v70 h71 => oP (ldD Tryd.prog 27 v48 h71) h71 (@kk ⟨(fun v72 h73 => oP (some v32) h73 (@kk ⟨(fun v74 h75 => oP (some v33) h75 (@kk ⟨(fun v76 h77 => oE (bsD (qq.m 41) (slT Tryd.prog 41) 2 [(0, v74), (1, v76)] h77) (@kk ⟨(fun v78 h79 => CallVD (pp G) qq.H (.func (.func 26) #[] #[]) [v72, v78] h79 (@kB ⟨(fun _ => (@kk ⟨(fun v80 h81 => oP (some v80) h81 (@kk ⟨(fun v82 h83 => oP (extV v82 0) h83 (@kk ⟨(fun v84 h85 => oP (extV v82 1) h85 (@kk ⟨(fun v86 h87 => oP (some v84) h87 (@kk ⟨(fun v88 h89 => oP (some v86) h89 (@kk ⟨(fun v90 h91 => oP (ldD Tryd.prog 27 v48 h91) h91 (@kk ⟨(fun v92 h93 => oP (some a0) h93 (@kk ⟨(fun v94 h95 => oP (some a1) h95 (@kk ⟨(fun v96 h97 => oE (bsD (qq.m 41) (slT Tryd.prog 41) 2 [(0, v94), (1, v96)] h97) (@kk ⟨(fun v98 h99 => CallVD (pp G) qq.H (.func (.func 25) #[] #[]) [v92, v98] h99 (@kB ⟨(fun _ => (@kk ⟨(fun v100 h101 => oP (some v100) h101 (@kk ⟨(fun v102 h103 => oP (extV v102 0) h103 (@kk ⟨(fun v104 h105 => oP (extV v102 1) h105 (@kk ⟨(fun v106 h107 => oP (some v104) h107 (@kk ⟨(fun v108 h109 => oP (some v106) h109 (@kk ⟨(fun v110 h111 => oP (ldD Tryd.prog 27 v48 h111) h111 (@kk ⟨(fun v112 h113 => oP (some a0) h113 (@kk ⟨(fun v114 h115 => oP (some a1) h115 (@kk ⟨(fun v116 h117 => oE (bsD (qq.m 41) (slT Tryd.prog 41) 2 [(0, v114), (1, v116)] h117) (@kk ⟨(fun v118 h119 => CallVD (pp G) qq.H (.func (.func 26) #[] #[]) [v112, v118] h119 (@kB ⟨(fun _ => (@kk ⟨(fun v120 h121 => oP (some v120) h121 (@kk ⟨(fun v122 h123 => oP (extV v122 0) h123 (@kk ⟨(fun v124 h125 => oP (extV v122 1) h125 (@kk ⟨(fun v126 h127 => oP (some v124) h127 (@kk ⟨(fun v128 h129 => oP (some v126) h129 (@kk ⟨(fun v130 h131 => oP (some v68) h131 (@kk ⟨(fun v132 h133 => oP (some v88) h133 (@kk ⟨(fun v134 h135 => oP (binPure Tryd.prog .eql 3 (.tmp 76) (.tmp 77) v132 v134) h135 (@kk ⟨(fun v136 h137 => oP (some v136) h137 (@kk ⟨(fun v138 h139 => gP v138 true (some v70) h139 (@kk ⟨(fun v140 h141 => gP v138 true (some v90) h141 (@kk ⟨(fun v142 h143 => gP v138 true (binPure Tryd.prog .eql 3 (.tmp 80) (.tmp 81) v140 v142) h143 (@kk ⟨(fun v144 h145 => oP (pickV v138 v144 (.bool false)) h145 (@kk ⟨(fun v146 h147 => oP (some v146) h147 (@kk ⟨(fun v148 h149 => gP v148 true (some v108) h149 (@kk ⟨(fun v150 h151 => gP v148 true (some v128) h151 (@kk ⟨(fun v152 h153 => gP v148 true (binPure Tryd.prog .eql 3 (.tmp 85) (.tmp 86) v150 v152) h153 (@kk ⟨(fun v154 h155 => oP (pickV v148 v154 (.bool false)) h155 (@kk ⟨(fun v156 h157 => oP (some v156) h157 (@kk ⟨(fun v158 h159 => gP v158 true (some v110) h159 (@kk ⟨(fun v160 h161 => gP v158 true (some v130) h161 (@kk ⟨(fun v162 h163 => gP v158 true (binPure Tryd.prog .eql 3 (.tmp 90) (.tmp 91) v160 v162) h163 (@kk ⟨(fun v164 h165 => oP (pickV v158 v164 (.bool false)) h165 (@kk ⟨(fun v166 h167 => oP (some v166) h167 (@kk ⟨(fun v168 h169 => R v168 h169)⟩))⟩))⟩))⟩))⟩))⟩))⟩))⟩))⟩))⟩))⟩))⟩))⟩))⟩))⟩))⟩))⟩))⟩))⟩))⟩))⟩))⟩))⟩))⟩))⟩))⟩))⟩))⟩))⟩))⟩))⟩))⟩))⟩))⟩))⟩))⟩))⟩))⟩))⟩))⟩))⟩))⟩))⟩))⟩))⟩))⟩))⟩))⟩))⟩))⟩))⟩))⟩))⟩))⟩))⟩))⟩))⟩))⟩))⟩))⟩))⟩))⟩))⟩))⟩))⟩))⟩))⟩))⟩))⟩))⟩))⟩))⟩))⟩))⟩))⟩))⟩))⟩))⟩))⟩))⟩))⟩))⟩))⟩))⟩))⟩))⟩))⟩))⟩))⟩))⟩))⟩))⟩))⟩))⟩))⟩))⟩))⟩)) := by kernel_rfl
end
end Go.Proofs.YtlbpiiehanibfaaDoor
namespace Go.Proofs.YtlbpiiehanibfaaDoor
open Go Go.RowKit Go.Ev Go.Dv
noncomputable section
set_option maxRecDepth 100000
variable (G : Nat)
def lst (a b : Int) : List Int := [a, b, 9223372036854775807, -9223372036854775808, 0, 1, -1, 4294967296, 3037000500]
theorem row9 (a b : Int) (σ : Heap) : bsD (qq.m 41) (slT Tryd.prog 41) 9 [(0, (.int .i64 a)), (1, (.int .i64 b)), (2, (.int .i64 9223372036854775807)), (3, (.int .i64 (-9223372036854775808))), (4, (.int .i64 0)), (5, (.int .i64 1)), (6, (.int .i64 (-1))), (7, (.int .i64 4294967296)), (8, (.int .i64 3037000500))] σ = some (Rw true eI 9 (ivs (lst a b)), σ) := by kernel_rfl
theorem ivs_get {l : List Int} {i : Nat} (h : i < l.length) : (ivs l)[i]? = some (.int .i64 (l.getD i 0)) := by simp [ivs, h]
theorem lst_in {a b : Int} (ha : In a) (hb : In b) (i : Nat) : In ((lst a b).getD i 0) := by
  have h0 : In 0 := by unfold In; omega
  have h : ∀ x ∈ lst a b, In x := by
    intro x hx
    simp only [lst, List.mem_cons, List.not_mem_nil, or_false] at hx
    rcases hx with rfl | rfl | rfl | rfl | rfl | rfl | rfl | rfl | rfl <;> first | assumption | (unfold In; omega)
  rw [List.getD_eq_getElem?_getD]
  cases hi : (lst a b)[i]? with
  | none => exact h0
  | some x => exact h x (List.mem_of_getElem? hi)
def exK (k : Int) : Ex := .mk k 0 [] [.mk 2 0 [] [], .mk 2 1 [] []]
def var (n : Int) : List Value := [.int .i64 2, .int .i64 n, .string (Tx []), .slice none 0 0]
def lit (k : Int) : Value := .agg ⟨[.int .i64 k, .int .i64 0, .string (Tx []), Rw true eE 2 (var 0 ++ var 1)]⟩
theorem rowVV (i j : Int) (σ : Heap) : bsD (qq.m 25) (slT Tryd.prog 25) 2 [(0, .agg ⟨[.int .i64 2, .int .i64 i, .string (Tx []), .slice none 0 0]⟩), (1, .agg ⟨[.int .i64 2, .int .i64 j, .string (Tx []), .slice none 0 0]⟩)] σ = some (Rw true eE 2 (var i ++ var j), σ) := by kernel_rfl
theorem fz_var (P : Program) (n : Nat) (σ : Heap) (hs : szT P eE = some 4) (i : Int) {vs ds : List Value} (h : FzL P n σ vs ds) : FzL P n σ (var i ++ vs) (exC (.mk 2 i [] []) ++ ds) := by
  refine .cons (.id rfl) (.cons (.id rfl) (.cons (.id rfl) (.cons ?_ h)))
  exact .nil hs (by omega)
theorem fz_row (P : Program) (n : Nat) (σ : Heap) (hs : szT P eE = some 4) (i j : Int) : FzV P n σ (Rw true eE 2 (var i ++ var j)) (Rw false eE 2 (exCs [.mk 2 i [] [], .mk 2 j [] []])) := by
  refine .row ?_
  have := fz_var P n σ hs i (fz_var P n σ hs j (.nil (P := P) (n := n) (σ := σ)))
  rwa [List.append_nil] at this
theorem fz_lit (P : Program) (n : Nat) (σ : Heap) (hs : szT P eE = some 4) (k : Int) : FzV P n σ (lit k) (exV (exK k)) := by
  refine .agg (.cons (.id rfl) (.cons (.id rfl) (.cons (.id rfl) (.cons ?_ .nil))))
  exact fz_row P n σ hs 0 1
theorem rowII (x y : Int) (σ : Heap) : bsD (qq.m 41) (slT Tryd.prog 41) 2 [(0, .int .i64 x), (1, .int .i64 y)] σ = some (Rw true eI 2 (ivs [x, y]), σ) := by kernel_rfl
theorem fz_two (P : Program) (n : Nat) (σ : Heap) (x y : Int) : FzV P n σ (Rw true eI 2 (ivs [x, y])) (ivV [x, y]) := .row (.ids (ivs_sc ..))
theorem exK_right {k : Int} (h : 5 ≤ k ∧ k ≤ 17) : rightF 2 (exK k) = true := by
  have h1 : ¬ k = 1 := by omega
  have h2 : ¬ k = 2 := by omega
  have h3 : ¬ (k = 3 ∨ k = 4) := by omega
  simp [exK, rightF, rightL, h1, h2, h3, h]
theorem exK_sm (k : Int) : smF (exK k) = true := by simp [exK, smF, smL]
theorem exK_in {k : Int} : inF (exK k) := by simp [exK, inF, inL, In]
theorem two_in {x y : Int} (hx : In x) (hy : In y) : ∀ a ∈ [x, y], In a := fun a ha => by
  simp only [List.mem_cons, List.not_mem_nil, or_false] at ha
  rcases ha with rfl | rfl <;> assumption
theorem evalK_f {k x y : Int} (h : 5 ≤ k ∧ k ≤ 17) : CallF (pp G) H0 25 [exV (exK k), ivV [x, y]] (t2 (evalF [x, y] (exK k))) :=
  eval_t G [x, y] (exK k) (exK_sm k) (by simp) (exK_right h)
theorem refK_f {k x y : Int} (h : 5 ≤ k ∧ k ≤ 17) (hx : In x) (hy : In y) : CallF (pp G) H0 26 [exV (exK k), ivV [x, y]] (t2 (evalF [x, y] (exK k))) := by
  rw [(eval_is (two_in hx hy) (exK k) (exK_right h) exK_in).1]
  exact ref_f G [x, y] (exK k) (exK_right h)
theorem two_law (hk : CallF (pp G) H0 13 [] (.bool true)) (a b k e : Int) (ha : In a) (hb : In b) : CallF (pp G) H0 9 [.int .i64 a, .int .i64 b, .int .i64 k, .int .i64 e] (.bool true) := by
  have hl9 : (ivs (lst a b)).length = 9 := rfl
  have hlo : H0.lo ≤ H0.next := Nat.le_refl _; refine CallF.cut (CallD.fir4 (q := qq) (good G) fir9 ok_ir9 rfl rfl (F94_arr ..) (Nat.le_refl _) ?_); rw [sd_ir9]
  simp (disch := first | omega | (refine id ?_; simp only [push_cast]; done) | (refine id ?_; simp only [push_cast]; omega)) only [push_cast, Nat.reduceAdd, Nat.reduceMul, Nat.reduceSub, Nat.reduceLT, Nat.reduceEqDiff, Nat.reduceLeDiff, Int.reduceToNat, reduceCtorEq, Int.reduceLT, Int.reduceLE, Int.reduceAdd, Int.reduceSub, Int.reduceMul, Int.reduceNeg, Int.reduceEq]
  refine CallVD.data (hk) (by first | exact FzL.ids rfl | (refine FzL.ids ?_; simp (disch := first | omega | (refine id ?_; simp only [push_cast]; done) | (refine id ?_; simp only [push_cast]; omega)) only [push_cast])) (by first | rfl | (simp (disch := first | omega | (refine id ?_; simp only [push_cast]; done) | (refine id ?_; simp only [push_cast]; omega)) only [push_cast])) (by first | rfl | (simp (disch := first | omega | (refine id ?_; simp only [push_cast]; done) | (refine id ?_; simp only [push_cast]; omega)) only [push_cast])) ?_
  simp (disch := first | omega | (refine id ?_; simp only [push_cast]; done) | (refine id ?_; simp only [push_cast]; omega)) only [push_cast, Nat.reduceAdd, Nat.reduceMul, Nat.reduceSub, Nat.reduceLT, Nat.reduceEqDiff, Nat.reduceLeDiff, Int.reduceToNat, reduceCtorEq, Int.reduceLT, Int.reduceLE, Int.reduceAdd, Int.reduceSub, Int.reduceMul, Int.reduceNeg, Int.reduceEq, ↓row9]
  refine CallVD.data (within_f G e 9 (by omega) (by omega)) (by first | exact FzL.ids rfl | (refine FzL.ids ?_; simp (disch := first | omega | (refine id ?_; simp only [push_cast]; done) | (refine id ?_; simp only [push_cast]; omega)) only [push_cast])) (by first | rfl | (simp (disch := first | omega | (refine id ?_; simp only [push_cast]; done) | (refine id ?_; simp only [push_cast]; omega)) only [push_cast])) (by first | rfl | (simp (disch := first | omega | (refine id ?_; simp only [push_cast]; done) | (refine id ?_; simp only [push_cast]; omega)) only [push_cast])) ?_
  have hw := withF_lt (a := e) (n := 9) (by omega)
  have hp := ivs_get (l := lst a b) (i := (withF e 9).toNat) (by show (withF e 9).toNat < 9; omega)
  have hx := lst_in ha hb (withF e 9).toNat
  have hc : ((withF e 9).toNat : Int) = withF e 9 := Int.toNat_of_nonneg hw.1
  have hq : IntKind.i64.wrap (e.tdiv 9) = W (e.tdiv 9) := rfl
  simp (disch := first | omega | (refine id ?_; simp only [push_cast]; done) | (refine id ?_; simp only [push_cast]; omega)) only [push_cast, Nat.reduceAdd, Nat.reduceMul, Nat.reduceSub, Nat.reduceLT, Nat.reduceEqDiff, Nat.reduceLeDiff, Int.reduceToNat, reduceCtorEq, Int.reduceLT, Int.reduceLE, Int.reduceAdd, Int.reduceSub, Int.reduceMul, Int.reduceNeg, Int.reduceEq, hp, hc, hl9, hq]
  generalize (lst a b).getD (withF e 9).toNat 0 = x at hx ⊢
  refine CallVD.data (within_f G (W (e.tdiv 9)) 9 (by omega) (by omega)) (by first | exact FzL.ids rfl | (refine FzL.ids ?_; simp (disch := first | omega | (refine id ?_; simp only [push_cast]; done) | (refine id ?_; simp only [push_cast]; omega)) only [push_cast])) (by first | rfl | (simp (disch := first | omega | (refine id ?_; simp only [push_cast]; done) | (refine id ?_; simp only [push_cast]; omega)) only [push_cast])) (by first | rfl | (simp (disch := first | omega | (refine id ?_; simp only [push_cast]; done) | (refine id ?_; simp only [push_cast]; omega)) only [push_cast])) ?_
  have hw := withF_lt (a := W (e.tdiv 9)) (n := 9) (by omega)
  have hp := ivs_get (l := lst a b) (i := (withF (W (e.tdiv 9)) 9).toNat) (by show (withF (W (e.tdiv 9)) 9).toNat < 9; omega)
  have hy := lst_in ha hb (withF (W (e.tdiv 9)) 9).toNat
  have hc : ((withF (W (e.tdiv 9)) 9).toNat : Int) = withF (W (e.tdiv 9)) 9 := Int.toNat_of_nonneg hw.1
  simp (disch := first | omega | (refine id ?_; simp only [push_cast]; done) | (refine id ?_; simp only [push_cast]; omega)) only [push_cast, Nat.reduceAdd, Nat.reduceMul, Nat.reduceSub, Nat.reduceLT, Nat.reduceEqDiff, Nat.reduceLeDiff, Int.reduceToNat, reduceCtorEq, Int.reduceLT, Int.reduceLE, Int.reduceAdd, Int.reduceSub, Int.reduceMul, Int.reduceNeg, Int.reduceEq, hp, hc, hl9]
  generalize (lst a b).getD (withF (W (e.tdiv 9)) 9).toNat 0 = y at hy ⊢
  refine CallVD.data (within_f G k 13 (by omega) (by omega)) (by first | exact FzL.ids rfl | (refine FzL.ids ?_; simp (disch := first | omega | (refine id ?_; simp only [push_cast]; done) | (refine id ?_; simp only [push_cast]; omega)) only [push_cast])) (by first | rfl | (simp (disch := first | omega | (refine id ?_; simp only [push_cast]; done) | (refine id ?_; simp only [push_cast]; omega)) only [push_cast])) (by first | rfl | (simp (disch := first | omega | (refine id ?_; simp only [push_cast]; done) | (refine id ?_; simp only [push_cast]; omega)) only [push_cast])) ?_
  have hw := withF_lt (a := k) (n := 13) (by omega)
  generalize withF k 13 = m at hw ⊢
  have hm : IntKind.i64.wrap (5 + m) = 5 + m := W_in (by unfold In; omega)
  have hk5 : 5 ≤ 5 + m ∧ 5 + m ≤ 17 := by omega
  simp (disch := first | omega | (refine id ?_; simp only [push_cast]; done) | (refine id ?_; simp only [push_cast]; omega)) only [push_cast, Nat.reduceAdd, Nat.reduceMul, Nat.reduceSub, Nat.reduceLT, Nat.reduceEqDiff, Nat.reduceLeDiff, Int.reduceToNat, reduceCtorEq, Int.reduceLT, Int.reduceLE, Int.reduceAdd, Int.reduceSub, Int.reduceMul, Int.reduceNeg, Int.reduceEq, hm, ↓rowVV, ↓rowII]
  refine CallVD.lend (evalK_f G hk5) (.cons (fz_lit _ _ _ rfl _) (.cons (fz_two ..) .nil)) rfl ?_
  simp (disch := first | omega | (refine id ?_; simp only [push_cast]; done) | (refine id ?_; simp only [push_cast]; omega)) only [push_cast, Nat.reduceAdd, Nat.reduceMul, Nat.reduceSub, Nat.reduceLT, Nat.reduceEqDiff, Nat.reduceLeDiff, Int.reduceToNat, reduceCtorEq, Int.reduceLT, Int.reduceLE, Int.reduceAdd, Int.reduceSub, Int.reduceMul, Int.reduceNeg, Int.reduceEq, ↓rowII]
  refine CallVD.lend (refK_f G hk5 hx hy) (.cons (fz_lit _ _ _ rfl _) (.cons (fz_two ..) .nil)) rfl ?_
  simp (disch := first | omega | (refine id ?_; simp only [push_cast]; done) | (refine id ?_; simp only [push_cast]; omega)) only [push_cast, Nat.reduceAdd, Nat.reduceMul, Nat.reduceSub, Nat.reduceLT, Nat.reduceEqDiff, Nat.reduceLeDiff, Int.reduceToNat, reduceCtorEq, Int.reduceLT, Int.reduceLE, Int.reduceAdd, Int.reduceSub, Int.reduceMul, Int.reduceNeg, Int.reduceEq, ↓rowII]
  refine CallVD.lend (evalK_f G hk5) (.cons (fz_lit _ _ _ rfl _) (.cons (fz_two ..) .nil)) rfl ?_
  simp (disch := first | omega | (refine id ?_; simp only [push_cast]; done) | (refine id ?_; simp only [push_cast]; omega)) only [push_cast, Nat.reduceAdd, Nat.reduceMul, Nat.reduceSub, Nat.reduceLT, Nat.reduceEqDiff, Nat.reduceLeDiff, Int.reduceToNat, reduceCtorEq, Int.reduceLT, Int.reduceLE, Int.reduceAdd, Int.reduceSub, Int.reduceMul, Int.reduceNeg, Int.reduceEq, ↓rowII]
  refine CallVD.lend (refK_f G hk5 ha hb) (.cons (fz_lit _ _ _ rfl _) (.cons (fz_two ..) .nil)) rfl ?_
  simp (disch := first | omega | (refine id ?_; simp only [push_cast]; done) | (refine id ?_; simp only [push_cast]; omega)) only [push_cast, Nat.reduceAdd, Nat.reduceMul, Nat.reduceSub, Nat.reduceLT, Nat.reduceEqDiff, Nat.reduceLeDiff, Int.reduceToNat, reduceCtorEq, Int.reduceLT, Int.reduceLE, Int.reduceAdd, Int.reduceSub, Int.reduceMul, Int.reduceNeg, Int.reduceEq]
  exact .id rfl
end
end Go.Proofs.YtlbpiiehanibfaaDoor
namespace Go.Proofs.YtlbpiiehanibfaaDoor.kn
open Go Go.RowKit Go.Ew
set_option maxRecDepth 100000
noncomputable section
theorem funcs_ok : Tryd.prog.funcs.all (okFunc 6) = true := by kernel_rfl
theorem mixed : Tryd.prog.follows .mixedOrders = true := by kernel_rfl
theorem funcs_ok' (g : Nat) (fn : Func) (h : Tryd.prog.funcs[g]? = some fn) : okFunc 6 fn = true := by
  have := funcs_ok
  rw [Array.all_eq_true_iff_forall_mem] at this
  exact this fn (Array.mem_of_getElem? h)
theorem LL_ok : okPl 6 LL = true := by kernel_rfl
theorem same_run (y : Value) (w : World) : (callFunc 75 #[y]).run Tryd.prog w = .ok (.value y) w := by
  have hf : Tryd.prog.funcs[75]? = some Tryd.f75 := rfl
  have hname0 : (Tryd.f75.name == "runtime.NumGoroutine") = false := by kernel_rfl
  have hname : ¬ Tryd.f75.name = "runtime.NumGoroutine" := by simpa using hname0
  have hb : Tryd.f75.body = none := by kernel_rfl
  have hn : Extern.findNext Tryd.f75 = none := by kernel_rfl
  have he : Extern.find Tryd.f75 = some Extern.AbiNoEscape.same := by kernel_rfl
  have hs : Extern.AbiNoEscape.same #[y] = pure y := rfl
  simp [callFunc, hf, hname, hb, hn, he, hs]
def X0 : Ext := orX (sameX 75) (noX)
theorem X0_sound (sg : Nat → Int) (tg : Nat → ByteArray) (B : Nat → Prop) : SoundX ⟨Tryd.prog, 6, 6, B, sg, tg⟩ X0 := orX_sound (sameX_sound same_run) (noX_sound _)
theorem known_ev : (evCall Tryd.prog X0 (evC Tryd.prog X0 400) 13 [] (laidHeap 6 LL)).map (·.1) = some (.bool true) := by kernel_rfl
theorem known_calls (w : World) (hw : LaidW 6 LL w) : Calls Tryd.prog 13 #[] w fun e w' => e = .returned (.bool true) ∧ Below w.heap.size w w' := by
  have h := calls_fin (X := X0) (N := 400) (args := []) (v := .bool true) funcs_ok' mixed (X0_sound (fun _ => 0) (fun _ => .empty)) LL_ok Tryd.func13 rfl rfl known_ev rfl rfl w hw
  simpa using h
end
end Go.Proofs.YtlbpiiehanibfaaDoor.kn
namespace Go.Proofs.YtlbpiiehanibfaaDoor
open Go Go.RowKit Go.Ev Go.Dv
theorem known_f (G : Nat) : CallF (pp G) H0 13 [] (.bool true) :=
  CallF.of_known (good G) Tryd.func13 rfl rfl (fun x hx => by
    simp only [LL, List.mem_cons, List.not_mem_nil, or_false] at hx
    subst hx
    exact ⟨rfl, rfl, by show (0 : Nat) < 6; omega, by show (0 : Nat) < 6; omega⟩) fun w hsz hl => kn.known_calls w ⟨hsz, fun x hx => ⟨by
    simp only [LL, List.mem_cons, List.not_mem_nil, or_false] at hx
    subst hx
    show (0 : Nat) < 6
    omega, hl x hx⟩⟩
end Go.Proofs.YtlbpiiehanibfaaDoor
