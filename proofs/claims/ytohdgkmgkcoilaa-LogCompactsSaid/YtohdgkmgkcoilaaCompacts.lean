/-
  LogCompacts: for every two rows of bytes, every two numbers the law returns true: put together, a log is just what was handed in, sure; then it goes on.
  Condition: none.
-/
import Derived.Test.YtohdgkmgkcoilaaLgd
import Derived.Test.YtohdgkmgkcoilaaLgk
import Derived.Test.YtohdgkmgkcoilaaLgl
import Derived.Test.YtohdgkmgkcoilaaRows
import Derived.ProofKit
import Derived.OpenShut
import Derived.Carry
import Derived.SizedLaws
import Derived.ChangeMaps5
set_option linter.unusedSimpArgs false
set_option linter.unusedVariables false
namespace Go.Proofs.Ytohdgkmgkcoilaa
open Go.RowKit Go.Ev
set_option linter.unusedVariables false
set_option maxRecDepth 100000
noncomputable section
def F116 (x0 x1 x2 x3 x4 x5 x6 x7 x8 x9 x10 x11 x12 x13 x14 x15 x16 x17 x18 x19 x20 x21 x22 x23 x24 x25 x26 x27 x28 x29 x30 x31 x32 x33 x34 x35 x36 x37 x38 x39 x40 x41 x42 x43 x44 x45 x46 x47 x48 x49 x50 x51 x52 x53 x54 x55 x56 x57 x58 x59 x60 x61 x62 x63 x64 x65 x66 x67 x68 x69 x70 x71 x72 x73 x74 x75 x76 x77 x78 x79 x80 x81 x82 x83 x84 x85 x86 x87 x88 x89 x90 x91 x92 x93 x94 x95 x96 x97 x98 x99 x100 x101 x102 x103 x104 x105 x106 x107 x108 x109 x110 x111 x112 x113 x114 x115 : Value) : VT := ⟨116, (.node (.node (.node (.node (.node (.node (.node .nil x63 .nil) x31 (.node .nil x95 .nil)) x15 (.node (.node .nil x79 .nil) x47 (.node .nil x111 .nil))) x7 (.node (.node (.node .nil x71 .nil) x39 (.node .nil x103 .nil)) x23 (.node (.node .nil x87 .nil) x55 .nil))) x3 (.node (.node (.node (.node .nil x67 .nil) x35 (.node .nil x99 .nil)) x19 (.node (.node .nil x83 .nil) x51 (.node .nil x115 .nil))) x11 (.node (.node (.node .nil x75 .nil) x43 (.node .nil x107 .nil)) x27 (.node (.node .nil x91 .nil) x59 .nil)))) x1 (.node (.node (.node (.node (.node .nil x65 .nil) x33 (.node .nil x97 .nil)) x17 (.node (.node .nil x81 .nil) x49 (.node .nil x113 .nil))) x9 (.node (.node (.node .nil x73 .nil) x41 (.node .nil x105 .nil)) x25 (.node (.node .nil x89 .nil) x57 .nil))) x5 (.node (.node (.node (.node .nil x69 .nil) x37 (.node .nil x101 .nil)) x21 (.node (.node .nil x85 .nil) x53 .nil)) x13 (.node (.node (.node .nil x77 .nil) x45 (.node .nil x109 .nil)) x29 (.node (.node .nil x93 .nil) x61 .nil))))) x0 (.node (.node (.node (.node (.node (.node .nil x64 .nil) x32 (.node .nil x96 .nil)) x16 (.node (.node .nil x80 .nil) x48 (.node .nil x112 .nil))) x8 (.node (.node (.node .nil x72 .nil) x40 (.node .nil x104 .nil)) x24 (.node (.node .nil x88 .nil) x56 .nil))) x4 (.node (.node (.node (.node .nil x68 .nil) x36 (.node .nil x100 .nil)) x20 (.node (.node .nil x84 .nil) x52 .nil)) x12 (.node (.node (.node .nil x76 .nil) x44 (.node .nil x108 .nil)) x28 (.node (.node .nil x92 .nil) x60 .nil)))) x2 (.node (.node (.node (.node (.node .nil x66 .nil) x34 (.node .nil x98 .nil)) x18 (.node (.node .nil x82 .nil) x50 (.node .nil x114 .nil))) x10 (.node (.node (.node .nil x74 .nil) x42 (.node .nil x106 .nil)) x26 (.node (.node .nil x90 .nil) x58 .nil))) x6 (.node (.node (.node (.node .nil x70 .nil) x38 (.node .nil x102 .nil)) x22 (.node (.node .nil x86 .nil) x54 .nil)) x14 (.node (.node (.node .nil x78 .nil) x46 (.node .nil x110 .nil)) x30 (.node (.node .nil x94 .nil) x62 .nil))))))⟩
theorem F116_arr (x0 x1 x2 x3 x4 x5 x6 x7 x8 x9 x10 x11 x12 x13 x14 x15 x16 x17 x18 x19 x20 x21 x22 x23 x24 x25 x26 x27 x28 x29 x30 x31 x32 x33 x34 x35 x36 x37 x38 x39 x40 x41 x42 x43 x44 x45 x46 x47 x48 x49 x50 x51 x52 x53 x54 x55 x56 x57 x58 x59 x60 x61 x62 x63 x64 x65 x66 x67 x68 x69 x70 x71 x72 x73 x74 x75 x76 x77 x78 x79 x80 x81 x82 x83 x84 x85 x86 x87 x88 x89 x90 x91 x92 x93 x94 x95 x96 x97 x98 x99 x100 x101 x102 x103 x104 x105 x106 x107 x108 x109 x110 x111 x112 x113 x114 x115 : Value) : (F116 x0 x1 x2 x3 x4 x5 x6 x7 x8 x9 x10 x11 x12 x13 x14 x15 x16 x17 x18 x19 x20 x21 x22 x23 x24 x25 x26 x27 x28 x29 x30 x31 x32 x33 x34 x35 x36 x37 x38 x39 x40 x41 x42 x43 x44 x45 x46 x47 x48 x49 x50 x51 x52 x53 x54 x55 x56 x57 x58 x59 x60 x61 x62 x63 x64 x65 x66 x67 x68 x69 x70 x71 x72 x73 x74 x75 x76 x77 x78 x79 x80 x81 x82 x83 x84 x85 x86 x87 x88 x89 x90 x91 x92 x93 x94 x95 x96 x97 x98 x99 x100 x101 x102 x103 x104 x105 x106 x107 x108 x109 x110 x111 x112 x113 x114 x115).arr = ⟨[x0, x1, x2, x3, x4, x5, x6, x7, x8, x9, x10, x11, x12, x13, x14, x15, x16, x17, x18, x19, x20, x21, x22, x23, x24, x25, x26, x27, x28, x29, x30, x31, x32, x33, x34, x35, x36, x37, x38, x39, x40, x41, x42, x43, x44, x45, x46, x47, x48, x49, x50, x51, x52, x53, x54, x55, x56, x57, x58, x59, x60, x61, x62, x63, x64, x65, x66, x67, x68, x69, x70, x71, x72, x73, x74, x75, x76, x77, x78, x79, x80, x81, x82, x83, x84, x85, x86, x87, x88, x89, x90, x91, x92, x93, x94, x95, x96, x97, x98, x99, x100, x101, x102, x103, x104, x105, x106, x107, x108, x109, x110, x111, x112, x113, x114, x115]⟩ := by kernel_rfl
theorem F116_g8 (x0 x1 x2 x3 x4 x5 x6 x7 x8 x9 x10 x11 x12 x13 x14 x15 x16 x17 x18 x19 x20 x21 x22 x23 x24 x25 x26 x27 x28 x29 x30 x31 x32 x33 x34 x35 x36 x37 x38 x39 x40 x41 x42 x43 x44 x45 x46 x47 x48 x49 x50 x51 x52 x53 x54 x55 x56 x57 x58 x59 x60 x61 x62 x63 x64 x65 x66 x67 x68 x69 x70 x71 x72 x73 x74 x75 x76 x77 x78 x79 x80 x81 x82 x83 x84 x85 x86 x87 x88 x89 x90 x91 x92 x93 x94 x95 x96 x97 x98 x99 x100 x101 x102 x103 x104 x105 x106 x107 x108 x109 x110 x111 x112 x113 x114 x115 : Value) : (F116 x0 x1 x2 x3 x4 x5 x6 x7 x8 x9 x10 x11 x12 x13 x14 x15 x16 x17 x18 x19 x20 x21 x22 x23 x24 x25 x26 x27 x28 x29 x30 x31 x32 x33 x34 x35 x36 x37 x38 x39 x40 x41 x42 x43 x44 x45 x46 x47 x48 x49 x50 x51 x52 x53 x54 x55 x56 x57 x58 x59 x60 x61 x62 x63 x64 x65 x66 x67 x68 x69 x70 x71 x72 x73 x74 x75 x76 x77 x78 x79 x80 x81 x82 x83 x84 x85 x86 x87 x88 x89 x90 x91 x92 x93 x94 x95 x96 x97 x98 x99 x100 x101 x102 x103 x104 x105 x106 x107 x108 x109 x110 x111 x112 x113 x114 x115).get 8 = x8 := by kernel_rfl
attribute [push_cast] F116_g8
theorem sh_ir9 (G : Nat) (h : Heap) (a0 a1 a2 a3 : Value) (R : Value → Heap → Prop) : vc3 (pp G) none ir9 ⟨(F116 a0 a1 a2 a3 undef undef undef undef undef undef undef undef undef undef undef undef undef undef undef undef undef undef undef undef undef undef undef undef undef undef undef undef undef undef undef undef undef undef undef undef undef undef undef undef undef undef undef undef undef undef undef undef undef undef undef undef undef undef undef undef undef undef undef undef undef undef undef undef undef undef undef undef undef undef undef undef undef undef undef undef undef undef undef undef undef undef undef undef undef undef undef undef undef undef undef undef undef undef undef undef undef undef undef undef undef undef undef undef undef undef undef undef undef undef undef undef), [], h⟩ (finR Try.prog [(.tmp 8)] R) = (oT (some (.bool false)) none h (@kk ⟨(fun v1 h2 => CallV (pp G) (.func (.func 13) #[] #[]) [] h2 (@kk ⟨(fun v3 h4 => oT (unV Try.prog .not v3) none h4 (@kk ⟨(fun v5 h6 => vcond v5 (@kb ⟨(oT (some (.bool false)) none h6 (@kk ⟨(fun v7 h8 => R v7 h8)⟩))⟩) (@kb ⟨(oT (some a0) none h6 (@kk ⟨(fun v9 h10 => oT (lnB (lnT Try.prog 23) v9) none h10 (@kk ⟨(fun v11 h12 => oT (binPure Try.prog .gtr 3 (.tmp 18) (.const (.int .i64 50)) v11 (.int .i64 50)) none h12 (@kk ⟨(fun v13 h14 => oT (some v13) none h14 (@kk ⟨(fun v15 h16 => gT v15 false (some a1) none h16 (@kk ⟨(fun v17 h18 => gT v15 false (lnB (lnT Try.prog 23) v17) none h18 (@kk ⟨(fun v19 h20 => gT v15 false (binPure Try.prog .gtr 3 (.tmp 22) (.const (.int .i64 50)) v19 (.int .i64 50)) none h20 (@kk ⟨(fun v21 h22 => oT (pickV v15 (.bool true) v21) none h22 (@kk ⟨(fun v23 h24 => vcond v23 (@kb ⟨(oT (some (.bool true)) none h24 (@kk ⟨(fun v25 h26 => R v25 h26)⟩))⟩) (@kb ⟨(oT (some a2) none h24 (@kk ⟨(fun v27 h28 => CallV (pp G) (.func (.func 14) #[] #[]) [v27, (.int .i64 150)] h28 (@kk ⟨(fun v29 h30 => oT (some v29) none h30 (@kk ⟨(fun v31 h32 => oT (some v31) none h32 (@kk ⟨(fun v33 h34 => CallV (pp G) (.func (.func 15) #[] #[]) [v33] h34 (@kk ⟨(fun v35 h36 => oT (some v35) none h36 (@kk ⟨(fun v37 h38 => oT (some v37) none h38 (@kk ⟨(fun v39 h40 => oT (binPure Try.prog .eql 26 (.tmp 29) (.const (.pointer none)) v39 (.pointer none)) none h40 (@kk ⟨(fun v41 h42 => vcond v41 (@kb ⟨(oT (some (.bool false)) none h42 (@kk ⟨(fun v43 h44 => R v43 h44)⟩))⟩) (@kb ⟨(oT (some v37) none h42 (@kk ⟨(fun v45 h46 => oT (some a0) none h46 (@kk ⟨(fun v47 h48 => CallV (pp G) (.func (.func 21) #[] #[]) [v45, v47] h48 (@kk ⟨(fun v49 h50 => oT (some v49) none h50 (@kk ⟨(fun v51 h52 => oT (some v37) none h52 (@kk ⟨(fun v53 h54 => oT (some a1) none h54 (@kk ⟨(fun v55 h56 => oT (some a0) none h56 (@kk ⟨(fun v57 h58 => oE (bsE (slT Try.prog 35) 2 [(0, v55), (1, v57)] h58) (@kk ⟨(fun v59 h60 => CallV (pp G) (.func (.func 26) #[] #[]) [v53, v59] h60 (@kk ⟨(fun v61 h62 => oT (some v61) none h62 (@kk ⟨(fun v63 h64 => oT (some v63) none h64 (@kk ⟨(fun v65 h66 => oT (some a0) none h66 (@kk ⟨(fun v67 h68 => oT (lnB (lnT Try.prog 23) v67) none h68 (@kk ⟨(fun v69 h70 => oT (some a1) none h70 (@kk ⟨(fun v71 h72 => oT (lnB (lnT Try.prog 23) v71) none h72 (@kk ⟨(fun v73 h74 => oT (binPure Try.prog .add 3 (.tmp 41) (.tmp 43) v69 v73) none h74 (@kk ⟨(fun v75 h76 => oT (binPure Try.prog .add 3 (.tmp 44) (.const (.int .i64 8)) v75 (.int .i64 8)) none h76 (@kk ⟨(fun v77 h78 => oT (some v31) none h78 (@kk ⟨(fun v79 h80 => oT (binPure Try.prog .leq 3 (.tmp 45) (.tmp 46) v77 v79) none h80 (@kk ⟨(fun v81 h82 => oT (binPure Try.prog .neq 4 (.tmp 39) (.tmp 47) v65 v81) none h82 (@kk ⟨(fun v83 h84 => vcond v83 (@kb ⟨(oT (some (.bool false)) none h84 (@kk ⟨(fun v85 h86 => R v85 h86)⟩))⟩) (@kb ⟨(oT (some v37) none h84 (@kk ⟨(fun v87 h88 => CallV (pp G) (.func (.func 23) #[] #[]) [v87] h88 (@kk ⟨(fun v89 h90 => oT (some v89) none h90 (@kk ⟨(fun v91 h92 => oT (some v63) none h92 (@kk ⟨(fun v93 h94 => oT (unV Try.prog .not v93) none h94 (@kk ⟨(fun v95 h96 => vcond v95 (@kb ⟨(oT (some v91) none h96 (@kk ⟨(fun v97 h98 => oT (lnB (lnT Try.prog 35) v97) none h98 (@kk ⟨(fun v99 h100 => oT (binPure Try.prog .eql 3 (.tmp 54) (.const (.int .i64 1)) v99 (.int .i64 1)) none h100 (@kk ⟨(fun v101 h102 => oT (some v51) none h102 (@kk ⟨(fun v103 h104 => oT (binPure Try.prog .eql 4 (.tmp 55) (.tmp 56) v101 v103) none h104 (@kk ⟨(fun v105 h106 => oT (some v105) none h106 (@kk ⟨(fun v107 h108 => gT v107 true (some v37) none h108 (@kk ⟨(fun v109 h110 => gC (pp G) v107 true (.func (.func 24) #[] #[]) [v109] h110 (@kk ⟨(fun v111 h112 => gT v107 true (binPure Try.prog .eql 3 (.tmp 60) (.const (.int .i64 0)) v111 (.int .i64 0)) none h112 (@kk ⟨(fun v113 h114 => oT (pickV v107 v113 (.bool false)) none h114 (@kk ⟨(fun v115 h116 => oT (some v115) none h116 (@kk ⟨(fun v117 h118 => R v117 h118)⟩))⟩))⟩))⟩))⟩))⟩))⟩))⟩))⟩))⟩))⟩))⟩) (@kb ⟨(oT (some v37) none h96 (@kk ⟨(fun v119 h120 => oT (some a3) none h120 (@kk ⟨(fun v121 h122 => CallV (pp G) (.func (.func 19) #[] #[]) [v119, v121] h122 (@kk ⟨(fun v123 h124 => oT (some v123) none h124 (@kk ⟨(fun v125 h126 => oT (some v125) none h126 (@kk ⟨(fun v127 h128 => oT (binPure Try.prog .eql 26 (.tmp 66) (.const (.pointer none)) v127 (.pointer none)) none h128 (@kk ⟨(fun v129 h130 => oT (some v129) none h130 (@kk ⟨(fun v131 h132 => gT v131 false (some v125) none h132 (@kk ⟨(fun v133 h134 => gC (pp G) v131 false (.func (.func 25) #[] #[]) [v133] h134 (@kk ⟨(fun v135 h136 => gT v131 false (some v37) none h136 (@kk ⟨(fun v137 h138 => gC (pp G) v131 false (.func (.func 25) #[] #[]) [v137] h138 (@kk ⟨(fun v139 h140 => gT v131 false (binPure Try.prog .neq 3 (.tmp 70) (.tmp 72) v135 v139) none h140 (@kk ⟨(fun v141 h142 => oT (pickV v131 (.bool true) v141) none h142 (@kk ⟨(fun v143 h144 => oT (some v143) none h144 (@kk ⟨(fun v145 h146 => gT v145 false (some v37) none h146 (@kk ⟨(fun v147 h148 => gC (pp G) v145 false (.func (.func 24) #[] #[]) [v147] h148 (@kk ⟨(fun v149 h150 => gT v145 false (some v37) none h150 (@kk ⟨(fun v151 h152 => gC (pp G) v145 false (.func (.func 25) #[] #[]) [v151] h152 (@kk ⟨(fun v153 h154 => gT v145 false (binPure Try.prog .neq 3 (.tmp 77) (.tmp 79) v149 v153) none h154 (@kk ⟨(fun v155 h156 => oT (pickV v145 (.bool true) v155) none h156 (@kk ⟨(fun v157 h158 => vcond v157 (@kb ⟨(oT (some (.bool false)) none h158 (@kk ⟨(fun v159 h160 => R v159 h160)⟩))⟩) (@kb ⟨(oP (some v91) h158 (@kk ⟨(fun v161 _ => oP (lnB (lnT Try.prog 35) v161) h158 (@kk ⟨(fun v162 _ => oP (binPure Try.prog .eql 3 (.tmp 83) (.const (.int .i64 2)) v162 (.int .i64 2)) h158 (@kk ⟨(fun v163 _ => oP (some v163) h158 (@kk ⟨(fun v164 _ => gP v164 true (some v91) h158 (@kk ⟨(fun v165 _ => gP v164 true (iaV (esz Try.prog 35) v165 (.int .i64 0)) h158 (@kk ⟨(fun v166 _ => gRd v164 true (evLoad Try.prog 23 v166 h158) 6 (fun h168 => (evLoad Try.prog 23 v166 h168)) h158 (@ke ⟨(fun v167 e169 => gRd v164 true (cvV Try.prog 23 9 v167 h158) 7 (fun h171 => (cvV Try.prog 23 9 v167 h171)) h158 (@ke ⟨(fun v170 e172 => gP v164 true (some a1) h158 (@kk ⟨(fun v173 _ => gRd v164 true (cvV Try.prog 23 9 v173 h158) 9 (fun h175 => (cvV Try.prog 23 9 v173 h175)) h158 (@ke ⟨(fun v174 e176 => gP v164 true (binPure Try.prog .eql 9 (.tmp 89) (.tmp 91) v170 v174) h158 (@kk ⟨(fun v177 _ => oP (pickV v164 v177 (.bool false)) h158 (@kk ⟨(fun v178 _ => oP (some v178) h158 (@kk ⟨(fun v179 _ => gP v179 true (some v91) h158 (@kk ⟨(fun v180 _ => gP v179 true (iaV (esz Try.prog 35) v180 (.int .i64 1)) h158 (@kk ⟨(fun v181 _ => gRd v179 true (evLoad Try.prog 23 v181 h158) 15 (fun h183 => (evLoad Try.prog 23 v181 h183)) h158 (@ke ⟨(fun v182 e184 => gRd v179 true (cvV Try.prog 23 9 v182 h158) 16 (fun h186 => (cvV Try.prog 23 9 v182 h186)) h158 (@ke ⟨(fun v185 e187 => gP v179 true (some a0) h158 (@kk ⟨(fun v188 _ => gRd v179 true (cvV Try.prog 23 9 v188 h158) 18 (fun h190 => (cvV Try.prog 23 9 v188 h190)) h158 (@ke ⟨(fun v189 e191 => gP v179 true (binPure Try.prog .eql 9 (.tmp 98) (.tmp 100) v185 v189) h158 (@kk ⟨(fun v192 _ => oP (pickV v179 v192 (.bool false)) h158 (@kk ⟨(fun v193 _ => oP (some v193) h158 (@kk ⟨(fun v194 _ => gP v194 true (some v37) h158 (@kk ⟨(fun v195 _ => gP v194 true (some a0) h158 (@kk ⟨(fun v196 _ => gP v194 true (lnB (lnT Try.prog 23) v196) h158 (@kk ⟨(fun v197 _ => gP v194 true (some a1) h158 (@kk ⟨(fun v198 _ => gP v194 true (lnB (lnT Try.prog 23) v198) h158 (@kk ⟨(fun v199 _ => gP v194 true (binPure Try.prog .add 3 (.tmp 107) (.tmp 109) v197 v199) h158 (@kk ⟨(fun v200 _ => gP v194 true (binPure Try.prog .add 3 (.tmp 110) (.const (.int .i64 12)) v200 (.int .i64 12)) h158 (@kk ⟨(fun v201 _ => gP v194 true (some v31) h158 (@kk ⟨(fun v202 _ => gP v194 true (binPure Try.prog .leq 3 (.tmp 111) (.tmp 112) v201 v202) h158 (@kk ⟨(fun v203 _ => gCk (pp G) v194 true (.func (.func 21) #[] #[]) [v195, (.slice none 0 0)] [22, 21, 21] [e191, e187, e184, e176, e172, e169] h158 (@kc ⟨(fun v204 h205 c206 => keptK c206 (@kb ⟨(gP v194 true (binPure Try.prog .eql 4 (.tmp 105) (.tmp 113) v204 v203) h205 (@kk ⟨(fun v207 _ => oP (pickV v194 v207 (.bool false)) h205 (@kk ⟨(fun v208 _ => oP (some v208) h205 (@kk ⟨(fun v209 _ => R v209 h205)⟩))⟩))⟩))⟩))⟩))⟩))⟩))⟩))⟩))⟩))⟩))⟩))⟩))⟩))⟩))⟩))⟩))⟩))⟩))⟩))⟩))⟩))⟩))⟩))⟩))⟩))⟩))⟩))⟩))⟩))⟩))⟩))⟩))⟩))⟩))⟩))⟩))⟩))⟩))⟩))⟩))⟩))⟩))⟩))⟩))⟩))⟩))⟩))⟩))⟩))⟩))⟩))⟩))⟩))⟩))⟩))⟩))⟩))⟩))⟩))⟩))⟩))⟩))⟩))⟩))⟩))⟩))⟩))⟩))⟩))⟩))⟩))⟩))⟩))⟩))⟩))⟩))⟩))⟩))⟩))⟩))⟩))⟩))⟩))⟩))⟩))⟩))⟩))⟩))⟩))⟩))⟩))⟩))⟩))⟩))⟩))⟩))⟩))⟩))⟩))⟩))⟩))⟩))⟩))⟩))⟩)) := by kernel_rfl
end
end Go.Proofs.Ytohdgkmgkcoilaa

namespace Go.Proofs.Ytohdgkmgkcoilaa
open Go Go.RowKit Go.Ev
noncomputable section
set_option linter.unusedSimpArgs false
set_option linter.unusedVariables false
variable (G : Nat) (h : Heap)

theorem twoR (h : Heap) (a b : Option Addr) (n c m d : Nat) (h1 : foneL h.next [.slice a n c] = true) (h2 : foneL h.next [.slice b m d] = true) :
    bsC 2 23 h (fillQ (List.map (fun i => (i, 1)) (List.range 2)) (List.replicate 2 [Value.slice none 0 0]).flatten (Value.slice a n c) [(1, Value.slice b m d)] (some (0, 1))) = some (.slice (some ⟨h.next, 0, none⟩) 2 2, h.add (O [.slice a n c, .slice b m d] 23 false)) := by
  have e : fillQ (List.map (fun i => (i, 1)) (List.range 2)) (List.replicate 2 [Value.slice none 0 0]).flatten (Value.slice a n c) [(1, Value.slice b m d)] (some (0, 1)) = some [.slice a n c, .slice b m d] := by kernel_rfl
  rw [e]
  refine bsC_s _ _ _ (foneL_cons _ _ _ ?_ h2)
  rw [q_cons] at h1
  first | exact h1.1 | exact ((Bool.and_eq_true _ _).mp h1).1

theorem compacts_w (xs : List Int) (aa : Option Addr) (ca : Nat) (hsa : Sl h aa (bv xs)) (hba : ∀ b, blk aa b → b < h.next) (bs : List Int) (ab : Option Addr) (cb : Nat) (hsb : Sl h ab (bv bs)) (hbb : ∀ b, blk ab b → b < h.next) (limit keep : Int) :
    CallE (pp G) 9 [.slice aa xs.length ca, .slice ab bs.length cb, .int .i64 limit, .int .i64 keep] h (fun v h' => v = .bool true) := by
  refine CallE.fir4 (good G) fir9 rfl rfl (F116_arr ..) fun hlo => ?_
  rw [sh_ir9]
  simp (disch := first | omega | (refine id ?_; simp only [push_cast]; done) | (refine id ?_; simp only [push_cast]; omega)) only [push_cast, Nat.reduceAdd, Nat.reduceMul, Nat.reduceSub, Nat.reduceLT, Nat.reduceEqDiff, Nat.reduceLeDiff, Int.reduceToNat, reduceCtorEq, Int.reduceLT, Int.reduceLE, Int.reduceAdd, Int.reduceSub, Int.reduceMul, Int.reduceNeg, Int.reduceEq]
  refine CallE.to (known_w G _) ?_
  rintro _ _ ⟨rfl, e⟩
  rw [e]
  clear e
  by_cases h1 : (50 : Int) < xs.length
  · simp (disch := first | omega | (refine id ?_; simp only [push_cast]; done) | (refine id ?_; simp only [push_cast]; omega)) only [push_cast, Nat.reduceAdd, Nat.reduceMul, Nat.reduceSub, Nat.reduceLT, Nat.reduceEqDiff, Nat.reduceLeDiff, Int.reduceToNat, reduceCtorEq, Int.reduceLT, Int.reduceLE, Int.reduceAdd, Int.reduceSub, Int.reduceMul, Int.reduceNeg, Int.reduceEq, Bool.not_true, h1]
  by_cases h2 : (50 : Int) < bs.length
  · simp (disch := first | omega | (refine id ?_; simp only [push_cast]; done) | (refine id ?_; simp only [push_cast]; omega)) only [push_cast, Nat.reduceAdd, Nat.reduceMul, Nat.reduceSub, Nat.reduceLT, Nat.reduceEqDiff, Nat.reduceLeDiff, Int.reduceToNat, reduceCtorEq, Int.reduceLT, Int.reduceLE, Int.reduceAdd, Int.reduceSub, Int.reduceMul, Int.reduceNeg, Int.reduceEq, Bool.not_true, h1, h2]
  simp (disch := first | omega | (refine id ?_; simp only [push_cast]; done) | (refine id ?_; simp only [push_cast]; omega)) only [push_cast, Nat.reduceAdd, Nat.reduceMul, Nat.reduceSub, Nat.reduceLT, Nat.reduceEqDiff, Nat.reduceLeDiff, Int.reduceToNat, reduceCtorEq, Int.reduceLT, Int.reduceLE, Int.reduceAdd, Int.reduceSub, Int.reduceMul, Int.reduceNeg, Int.reduceEq, Bool.not_true, h1, h2]
  refine CallE.to (within_w G _ limit 150 (by omega) (by omega)) ?_
  rintro _ _ ⟨rfl, e⟩
  rw [e]
  clear e
  have hr := Wi_range limit 150 (by omega)
  obtain ⟨k, hk⟩ : ∃ k : Nat, Wi limit 150 = (k : Int) := ⟨(Wi limit 150).toNat, by omega⟩
  rw [hk] at hr ⊢
  simp (disch := first | omega | (refine id ?_; simp only [push_cast]; done) | (refine id ?_; simp only [push_cast]; omega)) only [push_cast, Nat.reduceAdd, Nat.reduceMul, Nat.reduceSub, Nat.reduceLT, Nat.reduceEqDiff, Nat.reduceLeDiff, Int.reduceToNat, reduceCtorEq, Int.reduceLT, Int.reduceLE, Int.reduceAdd, Int.reduceSub, Int.reduceMul, Int.reduceNeg, Int.reduceEq]
  refine CallE.to (new_w G _ k) ?_
  rintro _ h3 ⟨rfl, hl3, hg3, hn3⟩
  simp (disch := first | omega | (refine id ?_; simp only [push_cast]; done) | (refine id ?_; simp only [push_cast]; omega)) only [push_cast, Nat.reduceAdd, Nat.reduceMul, Nat.reduceSub, Nat.reduceLT, Nat.reduceEqDiff, Nat.reduceLeDiff, Int.reduceToNat, reduceCtorEq, Int.reduceLT, Int.reduceLE, Int.reduceAdd, Int.reduceSub, Int.reduceMul, Int.reduceNeg, Int.reduceEq]
  have hsa3 := Sl.grew hsa hg3 fun b hb _ => ⟨hba b hb, fun h => h⟩
  have hlow3 : ∀ b, LogB h.next none b → h.next ≤ b := fun b hb => by
    rcases hb with rfl | ⟨o, s, hx⟩
    · exact Nat.le_refl _
    · cases hx
  refine CallE.to (append_w G _ hl3 (by omega) xs aa ca hsa3 (by omega) fun b hb => ?_) ?_
  · have := hba b hb
    exact ⟨by omega, fun hx => by have := hlow3 b hx; omega⟩
  rintro v h4 hp4
  have hgA0 : Grew h h3 (fun b => h.next ≤ b) := Grew.mono hg3 fun _ _ h => h.elim
  -- what stands there then
  have hst : ∃ rs a4 c4, v = .bool (decide ((xs.length : Int) + 4 ≤ k)) ∧ LogP h4 h.next k a4 c4 (enc rs) 0 ∧ ((rs.length : Int) = if (xs.length : Int) + 4 ≤ k then 1 else 0) ∧ Grew h h4 (fun b => h.next ≤ b) ∧ (∀ b, LogB h.next a4 b → h.next ≤ b) ∧ h3.next ≤ h4.next := by
    by_cases q : (xs.length : Int) + 4 ≤ k
    · obtain ⟨rfl, a4, c4, hl4, hg4, hb4⟩ := hp4.yes (by rw [List.length_nil]; omega)
      rw [List.nil_append] at hl4
      refine ⟨[xs], a4, c4, by rw [decide_eq_true q], by rw [show enc [xs] = beL xs.length 4 ++ xs by simp [enc, encR]]; exact hl4, by rw [if_pos q]; rfl, hgA0.tr' hg4 fun i hi hx => hlow3 i hx, fun b hb => ?_, hg4.next⟩
      rcases hb with rfl | hb
      · exact Nat.le_refl _
      · rcases hb4 b hb with ⟨o, s, hx⟩ | hx
        · cases hx
        · omega
    · obtain ⟨rfl, rfl⟩ := hp4.no (by rw [List.length_nil]; omega)
      exact ⟨[], none, 0, by rw [decide_eq_false q], hl3, by rw [if_neg q]; rfl, hgA0, hlow3, Nat.le_refl _⟩
  obtain ⟨rs, a4, c4, rfl, hl4, hrs, hgA, hlow4, hn4⟩ := hst
  have hsa4 : Sl h4 aa (bv xs) := Sl.grew hsa hgA fun b hb _ => ⟨hba b hb, fun hx => by have := hba b hb; omega⟩
  have hsb4 : Sl h4 ab (bv bs) := Sl.grew hsb hgA fun b hb _ => ⟨hbb b hb, fun hx => by have := hbb b hb; omega⟩
  have hfa : foneL h4.next [.slice aa xs.length ca] = true := fone_sl (Sl_spot hsa4) fun b hb => by have := hba b hb; omega
  have hfb : foneL h4.next [.slice ab bs.length cb] = true := fone_sl (Sl_spot hsb4) fun b hb => by have := hbb b hb; omega
  have hbs := twoR h4 ab aa bs.length cb xs.length ca hfb hfa
  have hg5 : Grew h4 (h4.add (O [.slice ab bs.length cb, .slice aa xs.length ca] 23 false)) (fun _ => False) := Grew.add h4 _ _
  have hrows : RowsP (h4.add (O [.slice ab bs.length cb, .slice aa xs.length ca] 23 false)) (some ⟨h4.next, 0, none⟩) [bs, xs] := by
    refine ⟨⟨[.slice ab bs.length cb, .slice aa xs.length ca], Sl.row (cells_add_s _ _ _ _ rfl) (by rw [lo_add]; have := hgA.lo; omega), rfl, fun i r hi => ?_⟩, fun b hb => by obtain ⟨o, s, e⟩ := hb; cases e; rw [next_add]; omega⟩
    match i, hi with
    | 0, hi => cases hi; exact ⟨ab, cb, rfl, Sl.grew hsb4 hg5 fun b hb _ => ⟨by have := hbb b hb; omega, fun h => h⟩, fun b hb => by have := hbb b hb; rw [next_add]; omega⟩
    | 1, hi => cases hi; exact ⟨aa, ca, rfl, Sl.grew hsa4 hg5 fun b hb _ => ⟨by have := hba b hb; omega, fun h => h⟩, fun b hb => by have := hba b hb; rw [next_add]; omega⟩
    | i + 2, hi => cases hi
  simp (disch := first | omega | (refine id ?_; simp only [push_cast]; done) | (refine id ?_; simp only [push_cast]; omega)) only [push_cast, Nat.reduceAdd, Nat.reduceMul, Nat.reduceSub, Nat.reduceLT, Nat.reduceEqDiff, Nat.reduceLeDiff, Int.reduceToNat, reduceCtorEq, Int.reduceLT, Int.reduceLE, Int.reduceAdd, Int.reduceSub, Int.reduceMul, Int.reduceNeg, Int.reduceEq, rg_get1, hbs]
  have hl5 := hl4.grew hg5 fun _ _ h => h
  have hgB : Grew h (h4.add (O [.slice ab bs.length cb, .slice aa xs.length ca] 23 false)) (fun b => h.next ≤ b) := hgA.tr' hg5 fun _ _ h => h.elim
  have hn5 : (h4.add (O [.slice ab bs.length cb, .slice aa xs.length ca] 23 false)).next = h4.next + 1 := next_add _
  generalize h4.add (O [.slice ab bs.length cb, .slice aa xs.length ca] 23 false) = h5 at hl5 hgB hrows hn5 ⊢
  clear hg5 hbs
  have hel : (enc [bs, xs]).length = xs.length + bs.length + 8 := by
    rw [show enc [bs, xs] = (beL bs.length 4 ++ bs) ++ (beL xs.length 4 ++ xs) by simp [enc, encR]]
    simp only [List.length_append, beL_len]
    omega
  refine CallE.to (compact_w G _ hl5 (by omega) [bs, xs] _ _ hrows (fun r hr => by
    rcases List.mem_cons.1 hr with rfl | hr
    · omega
    · rcases List.mem_cons.1 hr with rfl | hr
      · omega
      · cases hr) (by show 2 < _; decide)) ?_
  rintro v h6 hp6
  have hw1 : IntKind.i64.wrap ((xs.length : Int) + bs.length) = xs.length + bs.length := wrap_i64 (by omega) (by omega)
  have hw2 : IntKind.i64.wrap ((xs.length : Int) + bs.length + 8) = xs.length + bs.length + 8 := wrap_i64 (by omega) (by omega)
  have tor : Torn [] := .inl (by decide)
  by_cases hB : (xs.length : Int) + bs.length + 8 ≤ k
  · obtain ⟨rfl, a6, c6, hl6, hg6, hb6⟩ := hp6.yes (by omega)
    have hN : ∀ b, b = h.next → h.next ≤ b := fun b e => by omega
    have hgC : Grew h h6 (fun b => h.next ≤ b) := hgB.tr' hg6 fun i hi e => by omega
    simp (disch := first | omega | (refine id ?_; simp only [push_cast]; done) | (refine id ?_; simp only [push_cast]; omega)) only [push_cast, Nat.reduceAdd, Nat.reduceMul, Nat.reduceSub, Nat.reduceLT, Nat.reduceEqDiff, Nat.reduceLeDiff, Int.reduceToNat, reduceCtorEq, Int.reduceLT, Int.reduceLE, Int.reduceAdd, Int.reduceSub, Int.reduceMul, Int.reduceNeg, Int.reduceEq, hw1, hw2, hB, beq_self_eq_true, Bool.not_true]
    refine CallE.to (records_w G _ hl6 (by omega) [bs, xs] [] (List.append_nil _).symm tor) ?_
    rintro v h7 ⟨⟨a7, c7, rfl, hrow7⟩, hg7⟩
    have hl7 := hl6.grew hg7 fun _ _ h => h
    simp (disch := first | omega | (refine id ?_; simp only [push_cast]; done) | (refine id ?_; simp only [push_cast]; omega)) only [push_cast, Nat.reduceAdd, Nat.reduceMul, Nat.reduceSub, Nat.reduceLT, Nat.reduceEqDiff, Nat.reduceLeDiff, Int.reduceToNat, reduceCtorEq, Int.reduceLT, Int.reduceLE, Int.reduceAdd, Int.reduceSub, Int.reduceMul, Int.reduceNeg, Int.reduceEq, Bool.not_true]
    refine CallE.to (crash_w G _ hl7 (by omega) keep) ?_
    rintro v h8 ⟨⟨q, a8, c8, rfl, hl8, hb8⟩, hg8⟩
    have he : endN (enc [bs, xs]).length (enc [bs, xs]).length keep = xs.length + bs.length + 8 := by rw [hel]; unfold endN; omega
    have hws : wholes (xs.length + bs.length + 8) [bs, xs] = [bs, xs] := by
      simp only [wholes]
      rw [if_pos (by omega), if_pos (by omega)]
    rw [he, hws] at hl8
    have hl8' := hl7.grew hg8 fun _ _ h => h
    obtain ⟨⟨cs, hown8, hrow8⟩, hlow8⟩ := hrow7.grew hg8 fun _ _ h => h
    have hgD : Grew h h8 (fun b => h.next ≤ b) := (hgC.tr' hg7 fun _ _ h => h.elim).tr' hg8 fun _ _ h => h.elim
    have hsa8 : Sl h8 aa (bv xs) := Sl.grew hsa hgD fun b hb _ => ⟨hba b hb, fun hx => by have := hba b hb; omega⟩
    have hsb8 : Sl h8 ab (bv bs) := Sl.grew hsb hgD fun b hb _ => ⟨hbb b hb, fun hx => by have := hbb b hb; omega⟩
    have hk3 : ((enc [bs, xs]).length : Int) = xs.length + bs.length + 8 := by rw [hel]; omega
    simp (disch := first | omega | (refine id ?_; simp only [push_cast]; done) | (refine id ?_; simp only [push_cast]; omega)) only [push_cast, Nat.reduceAdd, Nat.reduceMul, Nat.reduceSub, Nat.reduceLT, Nat.reduceEqDiff, Nat.reduceLeDiff, Int.reduceToNat, reduceCtorEq, Int.reduceLT, Int.reduceLE, Int.reduceAdd, Int.reduceSub, Int.reduceMul, Int.reduceNeg, Int.reduceEq]
    refine CallE.to (len_w G _ hl8) ?_
    rintro _ _ ⟨rfl, e⟩
    rw [e, hk3]
    clear e
    simp (disch := first | omega | (refine id ?_; simp only [push_cast]; done) | (refine id ?_; simp only [push_cast]; omega)) only [push_cast, Nat.reduceAdd, Nat.reduceMul, Nat.reduceSub, Nat.reduceLT, Nat.reduceEqDiff, Nat.reduceLeDiff, Int.reduceToNat, reduceCtorEq, Int.reduceLT, Int.reduceLE, Int.reduceAdd, Int.reduceSub, Int.reduceMul, Int.reduceNeg, Int.reduceEq]
    refine CallE.to (len_w G _ hl8') ?_
    rintro _ _ ⟨rfl, e⟩
    rw [e, hk3]
    clear e
    simp (disch := first | omega | (refine id ?_; simp only [push_cast]; done) | (refine id ?_; simp only [push_cast]; omega)) only [push_cast, Nat.reduceAdd, Nat.reduceMul, Nat.reduceSub, Nat.reduceLT, Nat.reduceEqDiff, Nat.reduceLeDiff, Int.reduceToNat, reduceCtorEq, Int.reduceLT, Int.reduceLE, Int.reduceAdd, Int.reduceSub, Int.reduceMul, Int.reduceNeg, Int.reduceEq]
    refine CallE.to (sure_w G _ hl8') ?_
    rintro _ _ ⟨rfl, e⟩
    rw [e, hk3]
    clear e
    simp (disch := first | omega | (refine id ?_; simp only [push_cast]; done) | (refine id ?_; simp only [push_cast]; omega)) only [push_cast, Nat.reduceAdd, Nat.reduceMul, Nat.reduceSub, Nat.reduceLT, Nat.reduceEqDiff, Nat.reduceLeDiff, Int.reduceToNat, reduceCtorEq, Int.reduceLT, Int.reduceLE, Int.reduceAdd, Int.reduceSub, Int.reduceMul, Int.reduceNeg, Int.reduceEq]
    refine CallE.to (len_w G _ hl8') ?_
    rintro _ _ ⟨rfl, e⟩
    rw [e, hk3]
    clear e
    obtain ⟨ab8, cb8, qb1, qb2, qb3⟩ := hrow8 0 bs rfl
    obtain ⟨aa8, ca8, qa1, qa2, qa3⟩ := hrow8 1 xs rfl
    have hsl8 := hown8.sl
    obtain ⟨b9, o9, rfl, hldb⟩ := hsl8.load T_knd_23 qb1
    obtain ⟨_, _, e9, hlda⟩ := hsl8.load T_knd_23 qa1
    cases e9
    rw [load_eq, T_knd_23, Nat.add_zero] at hldb
    rw [load_eq, T_knd_23] at hlda
    have hcv1 := cv_text T_cnvT_23_9 qb2 rfl (c := cb8)
    have hcv2 := cv_text T_cnvT_23_9 hsb8 rfl (c := cb)
    have hcv3 := cv_text T_cnvT_23_9 qa2 rfl (c := ca8)
    have hcv4 := cv_text T_cnvT_23_9 hsa8 rfl (c := ca)
    have hw3 : IntKind.i64.wrap ((xs.length : Int) + bs.length + 12) = xs.length + bs.length + 12 := wrap_i64 (by omega) (by omega)
    simp (disch := first | omega | (refine id ?_; simp only [push_cast]; done) | (refine id ?_; simp only [push_cast]; omega)) only [push_cast, Nat.reduceAdd, Nat.reduceMul, Nat.reduceSub, Nat.reduceLT, Nat.reduceEqDiff, Nat.reduceLeDiff, Int.reduceToNat, reduceCtorEq, Int.reduceLT, Int.reduceLE, Int.reduceAdd, Int.reduceSub, Int.reduceMul, Int.reduceNeg, Int.reduceEq, hw1, hw3, hldb, hlda, hcv1, hcv2, hcv3, hcv4, b_eqls, beq_self_eq_true, hl8'.cell]
    refine CallE.to (append_w G _ hl8' (by omega) [] none 0 (Sl.nil _ spotN_n) (by decide) fun b hb => by obtain ⟨o, s, e⟩ := hb; cases e) ?_
    rintro v h9 hp9
    have hst9 : v = .bool (decide ((xs.length : Int) + bs.length + 12 ≤ k)) ∧ Grew h8 h9 (LogB h.next a6) := by
      by_cases q : (xs.length : Int) + bs.length + 12 ≤ k
      · obtain ⟨rfl, a9, c9, _, g9, _⟩ := hp9.yes (by rw [hel, List.length_nil]; omega)
        exact ⟨by rw [decide_eq_true q], g9⟩
      · obtain ⟨rfl, rfl⟩ := hp9.no (by rw [hel, List.length_nil]; omega)
        exact ⟨by rw [decide_eq_false q], Grew.refl _ _⟩
    obtain ⟨rfl, hg9⟩ := hst9
    have hlt6 : ∀ b, LogB h.next a6 b → h.next ≤ b ∧ b < h6.next := fun b hb => ⟨by
      rcases hb with rfl | hb
      · exact Nat.le_refl _
      · have := hb6 b hb; omega, hl6.low b hb⟩
    have hn8 : h6.next ≤ h8.next := Nat.le_trans hg7.next hg8.next
    have hn6 : h.next ≤ h8.next := hgD.next
    have hsa9 : Sl h9 aa (bv xs) := Sl.grew hsa8 hg9 fun b hb _ => ⟨by have := hba b hb; omega, fun hx => by have := hba b hb; have := hlt6 b hx; omega⟩
    have hsb9 : Sl h9 ab (bv bs) := Sl.grew hsb8 hg9 fun b hb _ => ⟨by have := hbb b hb; omega, fun hx => by have := hbb b hb; have := hlt6 b hx; omega⟩
    have hqa9 : Sl h9 aa8 (bv xs) := Sl.grew qa2 hg9 fun b hb _ => ⟨(qa3 b hb).2.1, fun hx => by have := (qa3 b hb).1; have := hlt6 b hx; omega⟩
    have hqb9 : Sl h9 ab8 (bv bs) := Sl.grew qb2 hg9 fun b hb _ => ⟨(qb3 b hb).2.1, fun hx => by have := (qb3 b hb).1; have := hlt6 b hx; omega⟩
    have hown9 := (hown8.grew hg9 fun b hb _ hx => by have := hlow8 b hb; have := hlt6 b hx; omega).sl
    obtain ⟨_, _, e9, hldb9⟩ := hown9.load T_knd_23 qb1
    cases e9
    obtain ⟨_, _, e9, hlda9⟩ := hown9.load T_knd_23 qa1
    cases e9
    rw [load_eq, T_knd_23, Nat.add_zero] at hldb9
    rw [load_eq, T_knd_23] at hlda9
    have hcw1 := cv_text T_cnvT_23_9 hqb9 rfl (c := cb8)
    have hcw2 := cv_text T_cnvT_23_9 hsb9 rfl (c := cb)
    have hcw3 := cv_text T_cnvT_23_9 hqa9 rfl (c := ca8)
    have hcw4 := cv_text T_cnvT_23_9 hsa9 rfl (c := ca)
    by_cases q : (xs.length : Int) + bs.length + 12 ≤ k
    · simp (disch := first | omega | (refine id ?_; simp only [push_cast]; done) | (refine id ?_; simp only [push_cast]; omega)) only [push_cast, Nat.reduceAdd, Nat.reduceMul, Nat.reduceSub, Nat.reduceLT, Nat.reduceEqDiff, Nat.reduceLeDiff, Int.reduceToNat, reduceCtorEq, Int.reduceLT, Int.reduceLE, Int.reduceAdd, Int.reduceSub, Int.reduceMul, Int.reduceNeg, Int.reduceEq, hldb9, hlda9, hcw1, hcw2, hcw3, hcw4, q, decide_true, beq_self_eq_true]
    · simp (disch := first | omega | (refine id ?_; simp only [push_cast]; done) | (refine id ?_; simp only [push_cast]; omega)) only [push_cast, Nat.reduceAdd, Nat.reduceMul, Nat.reduceSub, Nat.reduceLT, Nat.reduceEqDiff, Nat.reduceLeDiff, Int.reduceToNat, reduceCtorEq, Int.reduceLT, Int.reduceLE, Int.reduceAdd, Int.reduceSub, Int.reduceMul, Int.reduceNeg, Int.reduceEq, hldb9, hlda9, hcw1, hcw2, hcw3, hcw4, q, decide_false, beq_self_eq_true]
  · obtain ⟨rfl, hg6⟩ := hp6.no (by omega)
    have hl6 := hl5.grew hg6 fun _ _ h => h
    simp (disch := first | omega | (refine id ?_; simp only [push_cast]; done) | (refine id ?_; simp only [push_cast]; omega)) only [push_cast, Nat.reduceAdd, Nat.reduceMul, Nat.reduceSub, Nat.reduceLT, Nat.reduceEqDiff, Nat.reduceLeDiff, Int.reduceToNat, reduceCtorEq, Int.reduceLT, Int.reduceLE, Int.reduceAdd, Int.reduceSub, Int.reduceMul, Int.reduceNeg, Int.reduceEq, hw1, hw2, hB, beq_self_eq_true, Bool.not_true]
    refine CallE.to (records_w G _ hl6 (by omega) rs [] (List.append_nil _).symm tor) ?_
    rintro v h7 ⟨⟨a7, c7, rfl, hrow7⟩, hg7⟩
    have hl7 := hl6.grew hg7 fun _ _ h => h
    by_cases hA : (xs.length : Int) + 4 ≤ k
    · rw [if_pos hA] at hrs
      simp (disch := first | omega | (refine id ?_; simp only [push_cast]; done) | (refine id ?_; simp only [push_cast]; omega)) only [push_cast, Nat.reduceAdd, Nat.reduceMul, Nat.reduceSub, Nat.reduceLT, Nat.reduceEqDiff, Nat.reduceLeDiff, Int.reduceToNat, reduceCtorEq, Int.reduceLT, Int.reduceLE, Int.reduceAdd, Int.reduceSub, Int.reduceMul, Int.reduceNeg, Int.reduceEq, Bool.not_false, hrs, hA, beq_self_eq_true]
      refine CallE.to (sure_w G _ hl7) ?_
      rintro _ _ ⟨rfl, e⟩
      rw [e]
      clear e
      simp (disch := first | omega | (refine id ?_; simp only [push_cast]; done) | (refine id ?_; simp only [push_cast]; omega)) only [push_cast, Nat.reduceAdd, Nat.reduceMul, Nat.reduceSub, Nat.reduceLT, Nat.reduceEqDiff, Nat.reduceLeDiff, Int.reduceToNat, reduceCtorEq, Int.reduceLT, Int.reduceLE, Int.reduceAdd, Int.reduceSub, Int.reduceMul, Int.reduceNeg, Int.reduceEq]
    · rw [if_neg hA] at hrs
      simp (disch := first | omega | (refine id ?_; simp only [push_cast]; done) | (refine id ?_; simp only [push_cast]; omega)) only [push_cast, Nat.reduceAdd, Nat.reduceMul, Nat.reduceSub, Nat.reduceLT, Nat.reduceEqDiff, Nat.reduceLeDiff, Int.reduceToNat, reduceCtorEq, Int.reduceLT, Int.reduceLE, Int.reduceAdd, Int.reduceSub, Int.reduceMul, Int.reduceNeg, Int.reduceEq, Bool.not_false, hrs, hA, beq_self_eq_true]
      refine CallE.to (sure_w G _ hl7) ?_
      rintro _ _ ⟨rfl, e⟩
      rw [e]
      clear e
      simp (disch := first | omega | (refine id ?_; simp only [push_cast]; done) | (refine id ?_; simp only [push_cast]; omega)) only [push_cast, Nat.reduceAdd, Nat.reduceMul, Nat.reduceSub, Nat.reduceLT, Nat.reduceEqDiff, Nat.reduceLeDiff, Int.reduceToNat, reduceCtorEq, Int.reduceLT, Int.reduceLE, Int.reduceAdd, Int.reduceSub, Int.reduceMul, Int.reduceNeg, Int.reduceEq]
end
end Go.Proofs.Ytohdgkmgkcoilaa

namespace Go.Proofs.Ytohdgkmgkcoilaa.logCompacts
open Go.ChangeShapes Go.WideShapes Go.ChangeAt Go.RowKit Go.Ev
set_option linter.unusedVariables false
set_option linter.unusedSimpArgs false
set_option maxRecDepth 100000

theorem own : ownKnob Try.prog.godebug = none := by kernel_rfl
theorem laid : laidOutB Try.prog = true := by kernel_rfl

theorem lifted (os : Os) (started : os.Started) (H : Type) (enc : TypeId × Value → H) :
    ReturnsInHanded {} Try.checked os 9 .any (Rows.logCompactsSpec.pre6 enc Try.prog Try.f9 Rows.logCompactsRow.domain false) (Rows.logCompactsSpec.post enc Try.prog Try.f9 false true false false) := by
  refine returnsInHanded_of_change_sized (C := Try.checked) own started (by kernel_rfl) Try.func9
    (ChangeSpec.witness6 (enc := enc) (C := Try.checked) false ⟨#[], #[.slice none 0 0, .slice none 0 0, .int .i64 0, .int .i64 0], []⟩ 8 (by kernel_rfl) (by kernel_rfl) (by kernel_rfl) (by kernel_rfl)) ?_
  intro W base args ds gs before hval0 hW hcnd hsz _
  have hval : ∀ (j : Nat) t v, Try.f9.params[j]? = some t → args[j]? = some v → Value.okWide Try.prog W .any base t v := hval0
  have hW' := hW
  have hlt := hW.lt
  obtain ⟨p, q, hA0, hV, rfl, hfz, hnd⟩ := hW
  have hA : DataW.TrodAll enc Try.prog W 0 (fun _ => true) true Try.f9.params.toList args.toList ds p := hA0
  rw [Try.params9] at hA hval
  obtain ⟨v0, vs0, d0, ds0, p0, q0, hargs, rfl, rfl, h0, r0⟩ := trodAll_cons hA
  obtain ⟨v1, vs1, d1, ds1, p1, q1, rfl, rfl, rfl, h1, r1⟩ := trodAll_cons r0
  obtain ⟨v2, vs2, d2, ds2, p2, q2, rfl, rfl, rfl, h2, r2⟩ := trodAll_cons r1
  obtain ⟨v3, vs3, d3, ds3, p3, q3, rfl, rfl, rfl, h3, r3⟩ := trodAll_cons r2
  obtain ⟨rfl, rfl, rfl⟩ := trodAll_nil r3
  obtain rfl : args = #[v0, v1, v2, v3] := by cases args; simp_all
  obtain ⟨rfl, rfl⟩ := trodVars_none hV
  have h0' := h0
  have h1' := h1
  have h2' := h2
  have h3' := h3
  obtain ⟨xs0, a0, c0, rfl, sl0, bl0, pl0, sc0⟩ := open_bs (hval 0 23 v0 rfl rfl) h0 (fun elems spare hd => sized_slice hsz (j := 0) (t := 23) (e := 5) (elems := elems) (spare := spare) rfl (by cases hd; rfl) Try.underlying23)
  obtain ⟨xs1, a1, c1, rfl, sl1, bl1, pl1, sc1⟩ := open_bs (hval 1 23 v1 rfl rfl) h1 (fun elems spare hd => sized_slice hsz (j := 1) (t := 23) (e := 5) (elems := elems) (spare := spare) rfl (by cases hd; rfl) Try.underlying23)
  obtain ⟨n2, rfl, lo2, hi2, _⟩ := open_int Try.underlying3 (hval 2 3 v2 rfl rfl) h2
  obtain ⟨n3, rfl, lo3, hi3, _⟩ := open_int Try.underlying3 (hval 3 3 v3 rfl rfl) h3
  have hrun : Calls Try.prog 9 #[.slice a0 xs0.length c0, .slice a1 xs1.length c1, .int .i64 n2, .int .i64 n3] W fun e W' => e = .returned (.bool true) ∧ Below W.heap.size W W' :=
    calls_of_callE (P := Try.prog) (NG := 0) (s := fun _ => 0) (t := fun _ => .empty) (Nat.zero_le _) (compacts_w W.heap.size (baseH W) xs0 a0 c0 sl0 bl0 xs1 a1 c1 sl1 bl1 n2 n3) (by simp only [plL, pl, pl0, pl1, Bool.and_true]) (by simp only [scL, sc, sc0, sc1, Bool.and_true]) rfl
  refine hrun.mono fun e W' ⟨he, bel⟩ => ?_
  subst he
  exact ⟨_, rfl, _, _, _, [], _, [], hW', trodAll_mk1 (shut_bool Try.underlying4 _), trodAll_cons_mk (Below.trod laid (by kernel_rfl) (of_decide_eq_true (by kernel_rfl)) h0' bel (fun x hx => hlt x (by simp [hx]))) (trodAll_cons_mk (Below.trod laid (by kernel_rfl) (of_decide_eq_true (by kernel_rfl)) h1' bel (fun x hx => hlt x (by simp [hx]))) (trodAll_cons_mk (Below.trod laid (by kernel_rfl) (of_decide_eq_true (by kernel_rfl)) h2' bel (fun x hx => hlt x (by simp [hx]))) (trodAll_cons_mk (Below.trod laid (by kernel_rfl) (of_decide_eq_true (by kernel_rfl)) h3' bel (fun x hx => hlt x (by simp [hx]))) (trodAll_mk0)))), rfl, bel.frame _, fun h => by cases h⟩

theorem over : Rows.logCompactsRow.holds Try.pinned (OpenSpec.ofChange Rows.logCompactsSpec) :=
  OpenClaim.holds_of_wide 9 Try.f9 rfl rfl rfl rfl rfl rfl rfl ⟨rfl, rfl, rfl, rfl, rfl⟩ rfl rfl rfl rfl rfl (by kernel_rfl) Try.func9 (by kernel_rfl)
    (of_decide_eq_true (by kernel_rfl)) (by unfold Func.isWrapper; first | (rw [if_pos (by decide +kernel)]; kernel_rfl) | (rw [if_neg (by decide +kernel)]; exact ⟨rfl, rfl⟩))
    (fun os started H enc _ => lifted os started H enc)

theorem proved : Rows.LogCompactsSaid :=
  over
end Go.Proofs.Ytohdgkmgkcoilaa.logCompacts
