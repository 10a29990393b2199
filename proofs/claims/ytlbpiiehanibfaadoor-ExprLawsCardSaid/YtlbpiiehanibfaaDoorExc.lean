/-
  What other texts of this seat take: the function 'within' at any number, 'known', the functions without a body. No condition but those that each theorem names.
-/
import Derived.Test.YtlbpiiehanibfaaDoorExa
import Derived.Test.YtlbpiiehanibfaaDoorExb
import Derived.Test.YtlbpiiehanibfaaDoorEwb
import Derived.Test.YtlbpiiehanibfaaDoorEvd
import Derived.Test.YtlbpiiehanibfaaDoorProg
import Derived.KernelRfl
import Derived.WalkKit
import Derived.WalkSpells
set_option linter.unusedSimpArgs false
set_option linter.unusedVariables false
namespace Go.Proofs.YtlbpiiehanibfaaDoor
open Go.RowKit Go.Ev Go.Dv
set_option maxRecDepth 100000
noncomputable section
def F176 (x0 x1 x2 x3 x4 x5 x6 x7 x8 x9 x10 x11 x12 x13 x14 x15 x16 x17 x18 x19 x20 x21 x22 x23 x24 x25 x26 x27 x28 x29 x30 x31 x32 x33 x34 x35 x36 x37 x38 x39 x40 x41 x42 x43 x44 x45 x46 x47 x48 x49 x50 x51 x52 x53 x54 x55 x56 x57 x58 x59 x60 x61 x62 x63 x64 x65 x66 x67 x68 x69 x70 x71 x72 x73 x74 x75 x76 x77 x78 x79 x80 x81 x82 x83 x84 x85 x86 x87 x88 x89 x90 x91 x92 x93 x94 x95 x96 x97 x98 x99 x100 x101 x102 x103 x104 x105 x106 x107 x108 x109 x110 x111 x112 x113 x114 x115 x116 x117 x118 x119 x120 x121 x122 x123 x124 x125 x126 x127 x128 x129 x130 x131 x132 x133 x134 x135 x136 x137 x138 x139 x140 x141 x142 x143 x144 x145 x146 x147 x148 x149 x150 x151 x152 x153 x154 x155 x156 x157 x158 x159 x160 x161 x162 x163 x164 x165 x166 x167 x168 x169 x170 x171 x172 x173 x174 x175 : Value) : VT := ⟨176, (.node (.node (.node (.node (.node (.node (.node (.node .nil x127 .nil) x63 .nil) x31 (.node (.node .nil x159 .nil) x95 .nil)) x15 (.node (.node (.node .nil x143 .nil) x79 .nil) x47 (.node (.node .nil x175 .nil) x111 .nil))) x7 (.node (.node (.node (.node .nil x135 .nil) x71 .nil) x39 (.node (.node .nil x167 .nil) x103 .nil)) x23 (.node (.node (.node .nil x151 .nil) x87 .nil) x55 (.node .nil x119 .nil)))) x3 (.node (.node (.node (.node (.node .nil x131 .nil) x67 .nil) x35 (.node (.node .nil x163 .nil) x99 .nil)) x19 (.node (.node (.node .nil x147 .nil) x83 .nil) x51 (.node .nil x115 .nil))) x11 (.node (.node (.node (.node .nil x139 .nil) x75 .nil) x43 (.node (.node .nil x171 .nil) x107 .nil)) x27 (.node (.node (.node .nil x155 .nil) x91 .nil) x59 (.node .nil x123 .nil))))) x1 (.node (.node (.node (.node (.node (.node .nil x129 .nil) x65 .nil) x33 (.node (.node .nil x161 .nil) x97 .nil)) x17 (.node (.node (.node .nil x145 .nil) x81 .nil) x49 (.node .nil x113 .nil))) x9 (.node (.node (.node (.node .nil x137 .nil) x73 .nil) x41 (.node (.node .nil x169 .nil) x105 .nil)) x25 (.node (.node (.node .nil x153 .nil) x89 .nil) x57 (.node .nil x121 .nil)))) x5 (.node (.node (.node (.node (.node .nil x133 .nil) x69 .nil) x37 (.node (.node .nil x165 .nil) x101 .nil)) x21 (.node (.node (.node .nil x149 .nil) x85 .nil) x53 (.node .nil x117 .nil))) x13 (.node (.node (.node (.node .nil x141 .nil) x77 .nil) x45 (.node (.node .nil x173 .nil) x109 .nil)) x29 (.node (.node (.node .nil x157 .nil) x93 .nil) x61 (.node .nil x125 .nil)))))) x0 (.node (.node (.node (.node (.node (.node (.node .nil x128 .nil) x64 .nil) x32 (.node (.node .nil x160 .nil) x96 .nil)) x16 (.node (.node (.node .nil x144 .nil) x80 .nil) x48 (.node .nil x112 .nil))) x8 (.node (.node (.node (.node .nil x136 .nil) x72 .nil) x40 (.node (.node .nil x168 .nil) x104 .nil)) x24 (.node (.node (.node .nil x152 .nil) x88 .nil) x56 (.node .nil x120 .nil)))) x4 (.node (.node (.node (.node (.node .nil x132 .nil) x68 .nil) x36 (.node (.node .nil x164 .nil) x100 .nil)) x20 (.node (.node (.node .nil x148 .nil) x84 .nil) x52 (.node .nil x116 .nil))) x12 (.node (.node (.node (.node .nil x140 .nil) x76 .nil) x44 (.node (.node .nil x172 .nil) x108 .nil)) x28 (.node (.node (.node .nil x156 .nil) x92 .nil) x60 (.node .nil x124 .nil))))) x2 (.node (.node (.node (.node (.node (.node .nil x130 .nil) x66 .nil) x34 (.node (.node .nil x162 .nil) x98 .nil)) x18 (.node (.node (.node .nil x146 .nil) x82 .nil) x50 (.node .nil x114 .nil))) x10 (.node (.node (.node (.node .nil x138 .nil) x74 .nil) x42 (.node (.node .nil x170 .nil) x106 .nil)) x26 (.node (.node (.node .nil x154 .nil) x90 .nil) x58 (.node .nil x122 .nil)))) x6 (.node (.node (.node (.node (.node .nil x134 .nil) x70 .nil) x38 (.node (.node .nil x166 .nil) x102 .nil)) x22 (.node (.node (.node .nil x150 .nil) x86 .nil) x54 (.node .nil x118 .nil))) x14 (.node (.node (.node (.node .nil x142 .nil) x78 .nil) x46 (.node (.node .nil x174 .nil) x110 .nil)) x30 (.node (.node (.node .nil x158 .nil) x94 .nil) x62 (.node .nil x126 .nil)))))))⟩
theorem F176_arr (x0 x1 x2 x3 x4 x5 x6 x7 x8 x9 x10 x11 x12 x13 x14 x15 x16 x17 x18 x19 x20 x21 x22 x23 x24 x25 x26 x27 x28 x29 x30 x31 x32 x33 x34 x35 x36 x37 x38 x39 x40 x41 x42 x43 x44 x45 x46 x47 x48 x49 x50 x51 x52 x53 x54 x55 x56 x57 x58 x59 x60 x61 x62 x63 x64 x65 x66 x67 x68 x69 x70 x71 x72 x73 x74 x75 x76 x77 x78 x79 x80 x81 x82 x83 x84 x85 x86 x87 x88 x89 x90 x91 x92 x93 x94 x95 x96 x97 x98 x99 x100 x101 x102 x103 x104 x105 x106 x107 x108 x109 x110 x111 x112 x113 x114 x115 x116 x117 x118 x119 x120 x121 x122 x123 x124 x125 x126 x127 x128 x129 x130 x131 x132 x133 x134 x135 x136 x137 x138 x139 x140 x141 x142 x143 x144 x145 x146 x147 x148 x149 x150 x151 x152 x153 x154 x155 x156 x157 x158 x159 x160 x161 x162 x163 x164 x165 x166 x167 x168 x169 x170 x171 x172 x173 x174 x175 : Value) : (F176 x0 x1 x2 x3 x4 x5 x6 x7 x8 x9 x10 x11 x12 x13 x14 x15 x16 x17 x18 x19 x20 x21 x22 x23 x24 x25 x26 x27 x28 x29 x30 x31 x32 x33 x34 x35 x36 x37 x38 x39 x40 x41 x42 x43 x44 x45 x46 x47 x48 x49 x50 x51 x52 x53 x54 x55 x56 x57 x58 x59 x60 x61 x62 x63 x64 x65 x66 x67 x68 x69 x70 x71 x72 x73 x74 x75 x76 x77 x78 x79 x80 x81 x82 x83 x84 x85 x86 x87 x88 x89 x90 x91 x92 x93 x94 x95 x96 x97 x98 x99 x100 x101 x102 x103 x104 x105 x106 x107 x108 x109 x110 x111 x112 x113 x114 x115 x116 x117 x118 x119 x120 x121 x122 x123 x124 x125 x126 x127 x128 x129 x130 x131 x132 x133 x134 x135 x136 x137 x138 x139 x140 x141 x142 x143 x144 x145 x146 x147 x148 x149 x150 x151 x152 x153 x154 x155 x156 x157 x158 x159 x160 x161 x162 x163 x164 x165 x166 x167 x168 x169 x170 x171 x172 x173 x174 x175).arr = ⟨[x0, x1, x2, x3, x4, x5, x6, x7, x8, x9, x10, x11, x12, x13, x14, x15, x16, x17, x18, x19, x20, x21, x22, x23, x24, x25, x26, x27, x28, x29, x30, x31, x32, x33, x34, x35, x36, x37, x38, x39, x40, x41, x42, x43, x44, x45, x46, x47, x48, x49, x50, x51, x52, x53, x54, x55, x56, x57, x58, x59, x60, x61, x62, x63, x64, x65, x66, x67, x68, x69, x70, x71, x72, x73, x74, x75, x76, x77, x78, x79, x80, x81, x82, x83, x84, x85, x86, x87, x88, x89, x90, x91, x92, x93, x94, x95, x96, x97, x98, x99, x100, x101, x102, x103, x104, x105, x106, x107, x108, x109, x110, x111, x112, x113, x114, x115, x116, x117, x118, x119, x120, x121, x122, x123, x124, x125, x126, x127, x128, x129, x130, x131, x132, x133, x134, x135, x136, x137, x138, x139, x140, x141, x142, x143, x144, x145, x146, x147, x148, x149, x150, x151, x152, x153, x154, x155, x156, x157, x158, x159, x160, x161, x162, x163, x164, x165, x166, x167, x168, x169, x170, x171, x172, x173, x174, x175]⟩ := by kernel_rfl
theorem ok_ir10 : irOk NGG ir10 = true := by kernel_rfl
theorem sd_ir10 (G : Nat) (h : Heap) (a0 a1 : Value) (R : Value → Heap → Prop) : dc3 (pp G) qq none ir10 ⟨(F16 a0 a1 undef undef undef undef undef undef undef undef undef undef undef undef undef undef), [], h⟩ (finR Tryd.prog [(.tmp 4)] R) = (oP (some (.bool false)) h (@kk ⟨(fun v1 h2 => CallVD (pp G) qq.H (.func (.func 13) #[] #[]) [] h2 (@kB ⟨(fun _ => (@kk ⟨(fun v3 h4 => oP (unV Tryd.prog .not v3) h4 (@kk ⟨(fun v5 h6 => vcond v5 (@kb ⟨(oP (some (.bool false)) h6 (@kk ⟨(fun v7 h8 => R v7 h8)⟩))⟩) (@kb ⟨(oP (bdV (plc Tryd.prog 27) [(0, (.int .i64 2))]) h6 (@kk ⟨(fun v9 h10 => oP (bdV (plc Tryd.prog 27) [(0, (.int .i64 2)), (1, (.int .i64 1))]) h10 (@kk ⟨(fun v11 h12 => oE (alE (zro Tryd.prog 27) 27 h12) (@kk ⟨(fun v13 h14 => oE (alE (zro Tryd.prog 27) 27 h14) (@kk ⟨(fun v15 h16 => oE (stD (szT Tryd.prog 27) v13 v9 h16) (@kk ⟨(fun v17 h18 => oE (stD (szT Tryd.prog 27) v15 v11 h18) (@kk ⟨(fun v19 h20 => oP (some a0) h20 (@kk ⟨(fun v21 h22 => oP (some a1) h22 (@kk ⟨(fun v23 h24 => oP (ldD Tryd.prog 27 v13 h24) h24 (@kk ⟨(fun v25 h26 => oP (ldD Tryd.prog 27 v15 h26) h26 (@kk ⟨(fun v27 h28 => CallVD (pp G) qq.H (.func (.func 32) #[] #[]) [v21, v23, v25, v27] h28 (@kB ⟨(fun _ => (@kk ⟨(fun v29 h30 => oP (some v29) h30 (@kk ⟨(fun v31 h32 => R v31 h32)⟩))⟩))⟩))⟩))⟩))⟩))⟩))⟩))⟩))⟩))⟩))⟩))⟩))⟩))⟩))⟩))⟩))⟩)) := by kernel_rfl
theorem ok_ir32 : irOk NGG ir32 = true := by kernel_rfl
theorem sd_ir32 (G : Nat) (h : Heap) (a0 a1 a2 a3 : Value) (R : Value → Heap → Prop) : dc3 (pp G) qq none ir32 ⟨(F176 a0 a1 a2 a3 undef undef undef undef undef undef undef undef undef undef undef undef undef undef undef undef undef undef undef undef undef undef undef undef undef undef undef undef undef undef undef undef undef undef undef undef undef undef undef undef undef undef undef undef undef undef undef undef undef undef undef undef undef undef undef undef undef undef undef undef undef undef undef undef undef undef undef undef undef undef undef undef undef undef undef undef undef undef undef undef undef undef undef undef undef undef undef undef undef undef undef undef undef undef undef undef undef undef undef undef undef undef undef undef undef undef undef undef undef undef undef undef undef undef undef undef undef undef undef undef undef undef undef undef undef undef undef undef undef undef undef undef undef undef undef undef undef undef undef undef undef undef undef undef undef undef undef undef undef undef undef undef undef undef undef undef undef undef undef undef undef undef undef undef undef undef undef undef undef undef undef undef), [], h⟩ (finR Tryd.prog [(.tmp 8)] R) = (oE (bxD 27 a2 h) (@kk ⟨(fun v1 h2 => oE (bxD 27 a3 h2) (@kk ⟨(fun v3 h4 => oP (some (.bool false)) h4 (@kk ⟨(fun v5 h6 => oP (some a0) h6 (@kk ⟨(fun v7 h8 => oP (some a1) h8 (@kk ⟨(fun v9 h10 => oE (bsD (qq.m 41) (slT Tryd.prog 41) 2 [(0, v7), (1, v9)] h10) (@kk ⟨(fun v11 h12 => oP (some v11) h12 (@kk ⟨(fun v13 h14 => oP (ldD Tryd.prog 27 v1 h14) h14 (@kk ⟨(fun v15 h16 => oP (ldD Tryd.prog 27 v3 h16) h16 (@kk ⟨(fun v17 h18 => oE (bsD (qq.m 25) (slT Tryd.prog 25) 2 [(0, v15), (1, v17)] h18) (@kk ⟨(fun v19 h20 => oP (bdV (plc Tryd.prog 27) [(0, (.int .i64 8)), (3, v19)]) h20 (@kk ⟨(fun v21 h22 => oP (some v13) h22 (@kk ⟨(fun v23 h24 => CallVD (pp G) qq.H (.func (.func 25) #[] #[]) [v21, v23] h24 (@kB ⟨(fun _ => (@kk ⟨(fun v25 h26 => oP (some v25) h26 (@kk ⟨(fun v27 h28 => oP (extV v27 0) h28 (@kk ⟨(fun v29 h30 => oP (extV v27 1) h30 (@kk ⟨(fun v31 h32 => oP (some v29) h32 (@kk ⟨(fun v33 h34 => oP (some v31) h34 (@kk ⟨(fun v35 h36 => oP (ldD Tryd.prog 27 v3 h36) h36 (@kk ⟨(fun v37 h38 => oP (ldD Tryd.prog 27 v1 h38) h38 (@kk ⟨(fun v39 h40 => oE (bsD (qq.m 25) (slT Tryd.prog 25) 2 [(0, v37), (1, v39)] h40) (@kk ⟨(fun v41 h42 => oP (bdV (plc Tryd.prog 27) [(0, (.int .i64 8)), (3, v41)]) h42 (@kk ⟨(fun v43 h44 => oP (some v13) h44 (@kk ⟨(fun v45 h46 => CallVD (pp G) qq.H (.func (.func 25) #[] #[]) [v43, v45] h46 (@kB ⟨(fun _ => (@kk ⟨(fun v47 h48 => oP (some v47) h48 (@kk ⟨(fun v49 h50 => oP (extV v49 0) h50 (@kk ⟨(fun v51 h52 => oP (extV v49 1) h52 (@kk ⟨(fun v53 h54 => oP (some v51) h54 (@kk ⟨(fun v55 h56 => oP (some v53) h56 (@kk ⟨(fun v57 h58 => oP (ldD Tryd.prog 27 v1 h58) h58 (@kk ⟨(fun v59 h60 => oP (ldD Tryd.prog 27 v3 h60) h60 (@kk ⟨(fun v61 h62 => oE (bsD (qq.m 25) (slT Tryd.prog 25) 2 [(0, v59), (1, v61)] h62) (@kk ⟨(fun v63 h64 => oP (bdV (plc Tryd.prog 27) [(0, (.int .i64 5)), (3, v63)]) h64 (@kk ⟨(fun v65 h66 => oP (some v13) h66 (@kk ⟨(fun v67 h68 => CallVD (pp G) qq.H (.func (.func 25) #[] #[]) [v65, v67] h68 (@kB ⟨(fun _ => (@kk ⟨(fun v69 h70 => oP (some v69) h70 (@kk ⟨(fun v71 h72 => oP (extV v71 0) h72 (@kk ⟨(fun v73 h74 => oP (extV v71 1) h74 (@kk ⟨(fun v75 h76 => oP (some v73) h76 (@kk ⟨(fun v77 h78 => oP (some v75) h78 (@kk ⟨(fun v79 h80 => oP (ldD Tryd.prog 27 v3 h80) h80 (@kk ⟨(fun v81 h82 => oP (ldD Tryd.prog 27 v1 h82) h82 (@kk ⟨(fun v83 h84 => oE (bsD (qq.m 25) (slT Tryd.prog 25) 2 [(0, v81), (1, v83)] h84) (@kk ⟨(fun v85 h86 => oP (bdV (plc Tryd.prog 27) [(0, (.int .i64 5)), (3, v85)]) h86 (@kk ⟨(fun v87 h88 => oP (some v13) h88 (@kk ⟨(fun v89 h90 => CallVD (pp G) qq.H (.func (.func 25) #[] #[]) [v87, v89] h90 (@kB ⟨(fun _ => (@kk ⟨(fun v91 h92 => oP (some v91) h92 (@kk ⟨(fun v93 h94 => oP (extV v93 0) h94 (@kk ⟨(fun v95 h96 => oP (extV v93 1) h96 (@kk ⟨(fun v97 h98 => oP (some v95) h98 (@kk ⟨(fun v99 h100 => oP (some v97) h100 (@kk ⟨(fun v101 h102 => oP (ldD Tryd.prog 27 v1 h102) h102 (@kk ⟨(fun v103 h104 => oP (ldD Tryd.prog 27 v3 h104) h104 (@kk ⟨(fun v105 h106 => oE (bsD (qq.m 25) (slT Tryd.prog 25) 2 [(0, v103), (1, v105)] h106) (@kk ⟨(fun v107 h108 => oP (bdV (plc Tryd.prog 27) [(0, (.int .i64 6)), (3, v107)]) h108 (@kk ⟨(fun v109 h110 => oP (some v13) h110 (@kk ⟨(fun v111 h112 => CallVD (pp G) qq.H (.func (.func 25) #[] #[]) [v109, v111] h112 (@kB ⟨(fun _ => (@kk ⟨(fun v113 h114 => oP (some v113) h114 (@kk ⟨(fun v115 h116 => oP (extV v115 0) h116 (@kk ⟨(fun v117 h118 => oP (extV v115 1) h118 (@kk ⟨(fun v119 h120 => oP (some v117) h120 (@kk ⟨(fun v121 h122 => oP (some v119) h122 (@kk ⟨(fun v123 h124 => oP (ldD Tryd.prog 27 v1 h124) h124 (@kk ⟨(fun v125 h126 => oP (ldD Tryd.prog 27 v3 h126) h126 (@kk ⟨(fun v127 h128 => oE (bsD (qq.m 25) (slT Tryd.prog 25) 2 [(0, v125), (1, v127)] h128) (@kk ⟨(fun v129 h130 => oP (bdV (plc Tryd.prog 27) [(0, (.int .i64 7)), (3, v129)]) h130 (@kk ⟨(fun v131 h132 => oP (some v13) h132 (@kk ⟨(fun v133 h134 => CallVD (pp G) qq.H (.func (.func 25) #[] #[]) [v131, v133] h134 (@kB ⟨(fun _ => (@kk ⟨(fun v135 h136 => oP (some v135) h136 (@kk ⟨(fun v137 h138 => oP (extV v137 0) h138 (@kk ⟨(fun v139 h140 => oP (extV v137 1) h140 (@kk ⟨(fun v141 h142 => oP (some v139) h142 (@kk ⟨(fun v143 h144 => oP (some v141) h144 (@kk ⟨(fun v145 h146 => oP (ldD Tryd.prog 27 v1 h146) h146 (@kk ⟨(fun v147 h148 => oP (ldD Tryd.prog 27 v3 h148) h148 (@kk ⟨(fun v149 h150 => oE (bsD (qq.m 25) (slT Tryd.prog 25) 2 [(0, v147), (1, v149)] h150) (@kk ⟨(fun v151 h152 => oP (bdV (plc Tryd.prog 27) [(0, (.int .i64 12)), (3, v151)]) h152 (@kk ⟨(fun v153 h154 => oP (some v13) h154 (@kk ⟨(fun v155 h156 => CallVD (pp G) qq.H (.func (.func 25) #[] #[]) [v153, v155] h156 (@kB ⟨(fun _ => (@kk ⟨(fun v157 h158 => oP (some v157) h158 (@kk ⟨(fun v159 h160 => oP (extV v159 0) h160 (@kk ⟨(fun v161 h162 => oP (extV v159 1) h162 (@kk ⟨(fun v163 h164 => oP (some v161) h164 (@kk ⟨(fun v165 h166 => oP (some v163) h166 (@kk ⟨(fun v167 h168 => oP (ldD Tryd.prog 27 v3 h168) h168 (@kk ⟨(fun v169 h170 => oP (ldD Tryd.prog 27 v1 h170) h170 (@kk ⟨(fun v171 h172 => oE (bsD (qq.m 25) (slT Tryd.prog 25) 2 [(0, v169), (1, v171)] h172) (@kk ⟨(fun v173 h174 => oP (bdV (plc Tryd.prog 27) [(0, (.int .i64 14)), (3, v173)]) h174 (@kk ⟨(fun v175 h176 => oP (some v13) h176 (@kk ⟨(fun v177 h178 => CallVD (pp G) qq.H (.func (.func 25) #[] #[]) [v175, v177] h178 (@kB ⟨(fun _ => (@kk ⟨(fun v179 h180 => oP (some v179) h180 (@kk ⟨(fun v181 h182 => oP (extV v181 0) h182 (@kk ⟨(fun v183 h184 => oP (extV v181 1) h184 (@kk ⟨(fun v185 h186 => oP (some v183) h186 (@kk ⟨(fun v187 h188 => oP (some v185) h188 (@kk ⟨(fun v189 h190 => oP (ldD Tryd.prog 27 v1 h190) h190 (@kk ⟨(fun v191 h192 => oP (ldD Tryd.prog 27 v3 h192) h192 (@kk ⟨(fun v193 h194 => oE (bsD (qq.m 25) (slT Tryd.prog 25) 2 [(0, v191), (1, v193)] h194) (@kk ⟨(fun v195 h196 => oP (bdV (plc Tryd.prog 27) [(0, (.int .i64 15)), (3, v195)]) h196 (@kk ⟨(fun v197 h198 => oP (some v13) h198 (@kk ⟨(fun v199 h200 => CallVD (pp G) qq.H (.func (.func 25) #[] #[]) [v197, v199] h200 (@kB ⟨(fun _ => (@kk ⟨(fun v201 h202 => oP (some v201) h202 (@kk ⟨(fun v203 h204 => oP (extV v203 0) h204 (@kk ⟨(fun v205 h206 => oP (extV v203 1) h206 (@kk ⟨(fun v207 h208 => oP (some v205) h208 (@kk ⟨(fun v209 h210 => oP (some v207) h210 (@kk ⟨(fun v211 h212 => oP (some v33) h212 (@kk ⟨(fun v213 h214 => oP (some v55) h214 (@kk ⟨(fun v215 h216 => oP (binPure Tryd.prog .neq 3 (.tmp 112) (.tmp 113) v213 v215) h216 (@kk ⟨(fun v217 h218 => oP (some v217) h218 (@kk ⟨(fun v219 h220 => gP v219 false (some v35) h220 (@kk ⟨(fun v221 h222 => gP v219 false (some v57) h222 (@kk ⟨(fun v223 h224 => gP v219 false (binPure Tryd.prog .neq 35 (.tmp 116) (.tmp 117) v221 v223) h224 (@kk ⟨(fun v225 h226 => oP (pickV v219 (.bool true) v225) h226 (@kk ⟨(fun v227 h228 => oP (some v227) h228 (@kk ⟨(fun v229 h230 => gP v229 false (some v77) h230 (@kk ⟨(fun v231 h232 => gP v229 false (some v99) h232 (@kk ⟨(fun v233 h234 => gP v229 false (binPure Tryd.prog .neq 3 (.tmp 121) (.tmp 122) v231 v233) h234 (@kk ⟨(fun v235 h236 => oP (pickV v229 (.bool true) v235) h236 (@kk ⟨(fun v237 h238 => oP (some v237) h238 (@kk ⟨(fun v239 h240 => gP v239 false (some v79) h240 (@kk ⟨(fun v241 h242 => gP v239 false (some v101) h242 (@kk ⟨(fun v243 h244 => gP v239 false (binPure Tryd.prog .neq 35 (.tmp 126) (.tmp 127) v241 v243) h244 (@kk ⟨(fun v245 h246 => oP (pickV v239 (.bool true) v245) h246 (@kk ⟨(fun v247 h248 => oP (some v247) h248 (@kk ⟨(fun v249 h250 => gP v249 false (some v165) h250 (@kk ⟨(fun v251 h252 => gP v249 false (some v187) h252 (@kk ⟨(fun v253 h254 => gP v249 false (binPure Tryd.prog .neq 3 (.tmp 131) (.tmp 132) v251 v253) h254 (@kk ⟨(fun v255 h256 => oP (pickV v249 (.bool true) v255) h256 (@kk ⟨(fun v257 h258 => oP (some v257) h258 (@kk ⟨(fun v259 h260 => gP v259 false (some v165) h260 (@kk ⟨(fun v261 h262 => gP v259 false (some v209) h262 (@kk ⟨(fun v263 h264 => gP v259 false (binPure Tryd.prog .add 3 (.tmp 136) (.tmp 137) v261 v263) h264 (@kk ⟨(fun v265 h266 => gP v259 false (binPure Tryd.prog .neq 3 (.tmp 138) (.const (.int .i64 1)) v265 (.int .i64 1)) h266 (@kk ⟨(fun v267 h268 => oP (pickV v259 (.bool true) v267) h268 (@kk ⟨(fun v269 h270 => vcond v269 (@kb ⟨(oP (some (.bool false)) h270 (@kk ⟨(fun v271 h272 => R v271 h272)⟩))⟩) (@kb ⟨(oP (some a1) h270 (@kk ⟨(fun v273 h274 => oP (binPure Tryd.prog .eql 3 (.tmp 141) (.const (.int .i64 0)) v273 (.int .i64 0)) h274 (@kk ⟨(fun v275 h276 => vcond v275 (@kb ⟨(oP (some v123) h276 (@kk ⟨(fun v277 h278 => oP (binPure Tryd.prog .eql 35 (.tmp 143) (.const (.int .i64 9)) v277 (.int .i64 9)) h278 (@kk ⟨(fun v279 h280 => oP (some v279) h280 (@kk ⟨(fun v281 h282 => gP v281 true (some v145) h282 (@kk ⟨(fun v283 h284 => gP v281 true (binPure Tryd.prog .eql 35 (.tmp 146) (.const (.int .i64 9)) v283 (.int .i64 9)) h284 (@kk ⟨(fun v285 h286 => oP (pickV v281 v285 (.bool false)) h286 (@kk ⟨(fun v287 h288 => oP (some v287) h288 (@kk ⟨(fun v289 h290 => R v289 h290)⟩))⟩))⟩))⟩))⟩))⟩))⟩))⟩) (@kb ⟨(oP (some v123) h276 (@kk ⟨(fun v291 h292 => oP (binPure Tryd.prog .eql 35 (.tmp 149) (.const (.int .i64 8)) v291 (.int .i64 8)) h292 (@kk ⟨(fun v293 h294 => oP (some v293) h294 (@kk ⟨(fun v295 h296 => gP v295 true (some a1) h296 (@kk ⟨(fun v297 h298 => gP v295 true (binPure Tryd.prog .eql 3 (.tmp 152) (.const (.int .i64 (-1))) v297 (.int .i64 (-1))) h298 (@kk ⟨(fun v299 h300 => oP (pickV v295 v299 (.bool false)) h300 (@kk ⟨(fun v301 h302 => oP (some v301) h302 (@kk ⟨(fun v303 h304 => gP v303 true (some v143) h304 (@kk ⟨(fun v305 h306 => gP v303 true (binPure Tryd.prog .eql 3 (.tmp 156) (.const (.int .i64 0)) v305 (.int .i64 0)) h306 (@kk ⟨(fun v307 h308 => oP (pickV v303 v307 (.bool false)) h308 (@kk ⟨(fun v309 h310 => oP (some v309) h310 (@kk ⟨(fun v311 h312 => gP v311 false (some v123) h312 (@kk ⟨(fun v313 h314 => gP v311 false (binPure Tryd.prog .eql 35 (.tmp 160) (.const (.int .i64 0)) v313 (.int .i64 0)) h314 (@kk ⟨(fun v315 h316 => gP v311 false (some v315) h316 (@kk ⟨(fun v317 h318 => gP v317 true (some v145) h318 (@kk ⟨(fun v319 h320 => gP v317 true (binPure Tryd.prog .eql 35 (.tmp 163) (.const (.int .i64 0)) v319 (.int .i64 0)) h320 (@kk ⟨(fun v321 h322 => gP v311 false (pickV v317 v321 (.bool false)) h322 (@kk ⟨(fun v323 h324 => gP v311 false (some v323) h324 (@kk ⟨(fun v325 h326 => gP v325 true (some v121) h326 (@kk ⟨(fun v327 h328 => gP v325 true (some a1) h328 (@kk ⟨(fun v329 h330 => gP v325 true (binPure Tryd.prog .mul 3 (.tmp 167) (.tmp 168) v327 v329) h330 (@kk ⟨(fun v331 h332 => gP v325 true (some v143) h332 (@kk ⟨(fun v333 h334 => gP v325 true (binPure Tryd.prog .add 3 (.tmp 169) (.tmp 170) v331 v333) h334 (@kk ⟨(fun v335 h336 => gP v325 true (some a0) h336 (@kk ⟨(fun v337 h338 => gP v325 true (binPure Tryd.prog .eql 3 (.tmp 171) (.tmp 172) v335 v337) h338 (@kk ⟨(fun v339 h340 => gP v311 false (pickV v325 v339 (.bool false)) h340 (@kk ⟨(fun v341 h342 => oP (pickV v311 (.bool true) v341) h342 (@kk ⟨(fun v343 h344 => oP (some v343) h344 (@kk ⟨(fun v345 h346 => R v345 h346)⟩))⟩))⟩))⟩))⟩))⟩))⟩))⟩))⟩))⟩))⟩))⟩))⟩))⟩))⟩))⟩))⟩))⟩))⟩))⟩))⟩))⟩))⟩))⟩))⟩))⟩))⟩))⟩))⟩))⟩))⟩))⟩))⟩))⟩))⟩))⟩))⟩))⟩))⟩))⟩))⟩))⟩))⟩))⟩))⟩))⟩))⟩))⟩))⟩))⟩))⟩))⟩))⟩))⟩))⟩))⟩))⟩))⟩))⟩))⟩))⟩))⟩))⟩))⟩))⟩))⟩))⟩))⟩))⟩))⟩))⟩))⟩))⟩))⟩))⟩))⟩))⟩))⟩))⟩))⟩))⟩))⟩))⟩))⟩))⟩))⟩))⟩))⟩))⟩))⟩))⟩))⟩))⟩))⟩))⟩))⟩))⟩))⟩))⟩))⟩))⟩))⟩))⟩))⟩))⟩))⟩))⟩))⟩))⟩))⟩))⟩))⟩))⟩))⟩))⟩))⟩))⟩))⟩))⟩))⟩))⟩))⟩))⟩))⟩))⟩))⟩))⟩))⟩))⟩))⟩))⟩))⟩))⟩))⟩))⟩))⟩))⟩))⟩))⟩))⟩))⟩))⟩))⟩))⟩))⟩))⟩))⟩))⟩))⟩))⟩))⟩))⟩))⟩))⟩))⟩))⟩))⟩))⟩))⟩))⟩))⟩))⟩))⟩))⟩))⟩))⟩))⟩))⟩))⟩))⟩))⟩))⟩))⟩))⟩))⟩))⟩)) := by kernel_rfl
end
end Go.Proofs.YtlbpiiehanibfaaDoor
namespace Go.Proofs.YtlbpiiehanibfaaDoor
open Go Go.RowKit Go.Ev Go.Dv
noncomputable section
set_option maxRecDepth 100000
variable (G : Nat)
def var (n : Int) : List Value := [.int .i64 2, .int .i64 n, .string (Tx []), .slice none 0 0]
def lit (k : Int) : Value := .agg ⟨[.int .i64 k, .int .i64 0, .string (Tx []), Rw true eE 2 (var 0 ++ var 1)]⟩
theorem rowVV (i j : Int) (σ : Heap) : bsD (qq.m 25) (slT Tryd.prog 25) 2 [(0, .agg ⟨[.int .i64 2, .int .i64 i, .string (Tx []), .slice none 0 0]⟩), (1, .agg ⟨[.int .i64 2, .int .i64 j, .string (Tx []), .slice none 0 0]⟩)] σ = some (Rw true eE 2 (var i ++ var j), σ) := by kernel_rfl
theorem fz_var (P : Program) (n : Nat) (σ : Heap) (hs : szT P eE = some 4) (i : Int) {vs ds : List Value} (h : FzL P n σ vs ds) : FzL P n σ (var i ++ vs) (exC (.mk 2 i [] []) ++ ds) := by
  refine .cons (.id rfl) (.cons (.id rfl) (.cons (.id rfl) (.cons ?_ h)))
  exact .nil hs (by omega)
theorem fz_row (P : Program) (n : Nat) (σ : Heap) (hs : szT P eE = some 4) (i j : Int) : FzV P n σ (Rw true eE 2 (var i ++ var j)) (Rw false eE 2 (exCs [.mk 2 i [] [], .mk 2 j [] []])) := by
  refine .row ?_
  have := fz_var P n σ hs i (fz_var P n σ hs j (.nil (P := P) (n := n) (σ := σ)))
  rwa [List.append_nil] at this
theorem rowII (x y : Int) (σ : Heap) : bsD (qq.m 41) (slT Tryd.prog 41) 2 [(0, .int .i64 x), (1, .int .i64 y)] σ = some (Rw true eI 2 (ivs [x, y]), σ) := by kernel_rfl
theorem fz_two (P : Program) (n : Nat) (σ : Heap) (x y : Int) : FzV P n σ (Rw true eI 2 (ivs [x, y])) (ivV [x, y]) := .row (.ids (ivs_sc ..))
end
end Go.Proofs.YtlbpiiehanibfaaDoor
namespace Go.Proofs.YtlbpiiehanibfaaDoor
open Go Go.RowKit Go.Ev Go.Dv
noncomputable section
set_option maxRecDepth 100000
variable (G : Nat)
theorem W_sum {x m a : Int} (h : x + m = a) (ha : In a) : W (W x + m) = a := by
  obtain ⟨q, h1, h2⟩ := W_eq x
  obtain ⟨r, h3, h4⟩ := W_eq (W x + m)
  unfold In at *
  omega
def exXY (k : Int) : Ex := .mk k 0 [] [.mk 2 0 [] [], .mk 2 1 [] []]
def exYX (k : Int) : Ex := .mk k 0 [] [.mk 2 1 [] [], .mk 2 0 [] []]
theorem xy_f {k x y : Int} (h : 5 ≤ k ∧ k ≤ 15) : CallF (pp G) H0 25 [exV (exXY k), ivV [x, y]] (t2 (twoF k x y)) := by
  have h1 : ¬ k = 1 := by omega
  have h2 : ¬ k = 2 := by omega
  have h3 : ¬ (k = 3 ∨ k = 4) := by omega
  have h4 : ¬ k = 16 := by omega
  have h5 : ¬ k = 17 := by omega
  have h := eval_t G [x, y] (exXY k) (by simp [exXY, smF, smL]) (by simp) (by simp [exXY, rightF, rightL, h1, h2, h3]; omega)
  have e : evalF [x, y] (exXY k) = twoF k x y := by
    rw [exXY, evalF_2 h1 h2]
    simp [evalF, h4, h5]
  rwa [e] at h
theorem yx_f {k x y : Int} (h : 5 ≤ k ∧ k ≤ 15) : CallF (pp G) H0 25 [exV (exYX k), ivV [x, y]] (t2 (twoF k y x)) := by
  have h1 : ¬ k = 1 := by omega
  have h2 : ¬ k = 2 := by omega
  have h3 : ¬ (k = 3 ∨ k = 4) := by omega
  have h4 : ¬ k = 16 := by omega
  have h5 : ¬ k = 17 := by omega
  have h := eval_t G [x, y] (exYX k) (by simp [exYX, smF, smL]) (by simp) (by simp [exYX, rightF, rightL, h1, h2, h3]; omega)
  have e : evalF [x, y] (exYX k) = twoF k y x := by
    rw [exYX, evalF_2 h1 h2]
    simp [evalF, h4, h5]
  rwa [e] at h
theorem fz_gen (P : Program) (n : Nat) (σ : Heap) (hs : szT P eE = some 4) (k i j : Int) : FzV P n σ (.agg ⟨[.int .i64 k, .int .i64 0, .string (Tx []), Rw true eE 2 (var i ++ var j)]⟩) (exV (.mk k 0 [] [.mk 2 i [] [], .mk 2 j [] []])) := by
  refine .agg (.cons (.id rfl) (.cons (.id rfl) (.cons (.id rfl) (.cons ?_ .nil))))
  exact fz_row P n σ hs i j
theorem add_comm (a b : Int) (ha : In a) (hb : In b) : twoF 8 b a = twoF 8 a b := by
  rw [twoF_eq (by omega) ha hb, twoF_eq (by omega) hb ha, if_neg (by omega), if_neg (by omega), reck8, reck8, Int.add_comm b a]
  cases h1 : decide (0 ≤ a) <;> cases h2 : decide (0 ≤ b) <;> simp
theorem mul_comm (a b : Int) (ha : In a) (hb : In b) : twoF 5 b a = twoF 5 a b := by
  show mulF b a = mulF a b
  rw [mulF_eq hb ha, mulF_eq ha hb]
  unfold prodF
  rw [Int.mul_comm b a]
theorem laws_f (a b : Int) (ha : In a) (hb : In b) : CallF (pp G) H0 32 [.int .i64 a, .int .i64 b, .agg ⟨var 0⟩, .agg ⟨var 1⟩] (.bool true) := by
  have c1 := yx_f G (k := 8) (x := a) (y := b) (by omega)
  rw [add_comm a b ha hb] at c1
  have c2 := yx_f G (k := 5) (x := a) (y := b) (by omega)
  rw [mul_comm a b ha hb] at c2
  have c3 := yx_f G (k := 14) (x := a) (y := b) (by omega)
  have e3 : twoF 14 b a = (truthF (decide (a < b)), 0) := rfl
  rw [e3] at c3
  have e4 : twoF 12 a b = (truthF (decide (a < b)), 0) := rfl
  have e5 : twoF 15 a b = (truthF (decide (b ≤ a)), 0) := rfl
  have e6 : twoF 6 a b = divF a b := rfl
  have e7 : twoF 7 a b = remF a b := rfl
  have hlo : H0.lo ≤ H0.next := Nat.le_refl _; refine CallF.cut (CallD.fir4 (q := qq) (good G) fir32 ok_ir32 rfl rfl (F176_arr ..) (Nat.le_refl _) ?_); rw [sd_ir32]
  unfold var
  simp (disch := first | omega | (refine id ?_; simp only [push_cast]; done) | (refine id ?_; simp only [push_cast]; omega)) only [push_cast, Nat.reduceAdd, Nat.reduceMul, Nat.reduceSub, Nat.reduceLT, Nat.reduceEqDiff, Nat.reduceLeDiff, Int.reduceToNat, reduceCtorEq, Int.reduceLT, Int.reduceLE, Int.reduceAdd, Int.reduceSub, Int.reduceMul, Int.reduceNeg, Int.reduceEq, ↓rowVV, ↓rowII]
  refine CallVD.lend (xy_f G (k := 8) (x := a) (y := b) (by omega)) (.cons (fz_gen _ _ _ rfl _ 0 1) (.cons (fz_two ..) .nil)) rfl ?_
  simp (disch := first | omega | (refine id ?_; simp only [push_cast]; done) | (refine id ?_; simp only [push_cast]; omega)) only [push_cast, Nat.reduceAdd, Nat.reduceMul, Nat.reduceSub, Nat.reduceLT, Nat.reduceEqDiff, Nat.reduceLeDiff, Int.reduceToNat, reduceCtorEq, Int.reduceLT, Int.reduceLE, Int.reduceAdd, Int.reduceSub, Int.reduceMul, Int.reduceNeg, Int.reduceEq, ↓rowVV, ↓rowII]
  refine CallVD.lend (c1) (.cons (fz_gen _ _ _ rfl _ 1 0) (.cons (fz_two ..) .nil)) rfl ?_
  simp (disch := first | omega | (refine id ?_; simp only [push_cast]; done) | (refine id ?_; simp only [push_cast]; omega)) only [push_cast, Nat.reduceAdd, Nat.reduceMul, Nat.reduceSub, Nat.reduceLT, Nat.reduceEqDiff, Nat.reduceLeDiff, Int.reduceToNat, reduceCtorEq, Int.reduceLT, Int.reduceLE, Int.reduceAdd, Int.reduceSub, Int.reduceMul, Int.reduceNeg, Int.reduceEq, ↓rowVV, ↓rowII]
  refine CallVD.lend (xy_f G (k := 5) (x := a) (y := b) (by omega)) (.cons (fz_gen _ _ _ rfl _ 0 1) (.cons (fz_two ..) .nil)) rfl ?_
  simp (disch := first | omega | (refine id ?_; simp only [push_cast]; done) | (refine id ?_; simp only [push_cast]; omega)) only [push_cast, Nat.reduceAdd, Nat.reduceMul, Nat.reduceSub, Nat.reduceLT, Nat.reduceEqDiff, Nat.reduceLeDiff, Int.reduceToNat, reduceCtorEq, Int.reduceLT, Int.reduceLE, Int.reduceAdd, Int.reduceSub, Int.reduceMul, Int.reduceNeg, Int.reduceEq, ↓rowVV, ↓rowII]
  refine CallVD.lend (c2) (.cons (fz_gen _ _ _ rfl _ 1 0) (.cons (fz_two ..) .nil)) rfl ?_
  simp (disch := first | omega | (refine id ?_; simp only [push_cast]; done) | (refine id ?_; simp only [push_cast]; omega)) only [push_cast, Nat.reduceAdd, Nat.reduceMul, Nat.reduceSub, Nat.reduceLT, Nat.reduceEqDiff, Nat.reduceLeDiff, Int.reduceToNat, reduceCtorEq, Int.reduceLT, Int.reduceLE, Int.reduceAdd, Int.reduceSub, Int.reduceMul, Int.reduceNeg, Int.reduceEq, ↓rowVV, ↓rowII]
  refine CallVD.lend (xy_f G (k := 6) (x := a) (y := b) (by omega)) (.cons (fz_gen _ _ _ rfl _ 0 1) (.cons (fz_two ..) .nil)) rfl ?_
  simp (disch := first | omega | (refine id ?_; simp only [push_cast]; done) | (refine id ?_; simp only [push_cast]; omega)) only [push_cast, Nat.reduceAdd, Nat.reduceMul, Nat.reduceSub, Nat.reduceLT, Nat.reduceEqDiff, Nat.reduceLeDiff, Int.reduceToNat, reduceCtorEq, Int.reduceLT, Int.reduceLE, Int.reduceAdd, Int.reduceSub, Int.reduceMul, Int.reduceNeg, Int.reduceEq, ↓rowVV, ↓rowII]
  refine CallVD.lend (xy_f G (k := 7) (x := a) (y := b) (by omega)) (.cons (fz_gen _ _ _ rfl _ 0 1) (.cons (fz_two ..) .nil)) rfl ?_
  simp (disch := first | omega | (refine id ?_; simp only [push_cast]; done) | (refine id ?_; simp only [push_cast]; omega)) only [push_cast, Nat.reduceAdd, Nat.reduceMul, Nat.reduceSub, Nat.reduceLT, Nat.reduceEqDiff, Nat.reduceLeDiff, Int.reduceToNat, reduceCtorEq, Int.reduceLT, Int.reduceLE, Int.reduceAdd, Int.reduceSub, Int.reduceMul, Int.reduceNeg, Int.reduceEq, ↓rowVV, ↓rowII]
  refine CallVD.lend (xy_f G (k := 12) (x := a) (y := b) (by omega)) (.cons (fz_gen _ _ _ rfl _ 0 1) (.cons (fz_two ..) .nil)) rfl ?_
  simp (disch := first | omega | (refine id ?_; simp only [push_cast]; done) | (refine id ?_; simp only [push_cast]; omega)) only [push_cast, Nat.reduceAdd, Nat.reduceMul, Nat.reduceSub, Nat.reduceLT, Nat.reduceEqDiff, Nat.reduceLeDiff, Int.reduceToNat, reduceCtorEq, Int.reduceLT, Int.reduceLE, Int.reduceAdd, Int.reduceSub, Int.reduceMul, Int.reduceNeg, Int.reduceEq, ↓rowVV, ↓rowII]
  refine CallVD.lend (c3) (.cons (fz_gen _ _ _ rfl _ 1 0) (.cons (fz_two ..) .nil)) rfl ?_
  simp (disch := first | omega | (refine id ?_; simp only [push_cast]; done) | (refine id ?_; simp only [push_cast]; omega)) only [push_cast, Nat.reduceAdd, Nat.reduceMul, Nat.reduceSub, Nat.reduceLT, Nat.reduceEqDiff, Nat.reduceLeDiff, Int.reduceToNat, reduceCtorEq, Int.reduceLT, Int.reduceLE, Int.reduceAdd, Int.reduceSub, Int.reduceMul, Int.reduceNeg, Int.reduceEq, ↓rowVV, ↓rowII]
  refine CallVD.lend (xy_f G (k := 15) (x := a) (y := b) (by omega)) (.cons (fz_gen _ _ _ rfl _ 0 1) (.cons (fz_two ..) .nil)) rfl ?_
  simp (disch := first | omega | (refine id ?_; simp only [push_cast]; done) | (refine id ?_; simp only [push_cast]; omega)) only [push_cast, Nat.reduceAdd, Nat.reduceMul, Nat.reduceSub, Nat.reduceLT, Nat.reduceEqDiff, Nat.reduceLeDiff, Int.reduceToNat, reduceCtorEq, Int.reduceLT, Int.reduceLE, Int.reduceAdd, Int.reduceSub, Int.reduceMul, Int.reduceNeg, Int.reduceEq, ↓rowVV, ↓rowII]
  have hs : IntKind.i64.wrap (truthF (decide (a < b)) + truthF (decide (b ≤ a))) = 1 := by
    by_cases h : a < b
    · rw [show decide (a < b) = true by simp [h], show decide (b ≤ a) = false by simp; omega]; rfl
    · rw [show decide (a < b) = false by simp; omega, show decide (b ≤ a) = true by simp; omega]; rfl
  simp (disch := first | omega | (refine id ?_; simp only [push_cast]; done) | (refine id ?_; simp only [push_cast]; omega)) only [push_cast, Nat.reduceAdd, Nat.reduceMul, Nat.reduceSub, Nat.reduceLT, Nat.reduceEqDiff, Nat.reduceLeDiff, Int.reduceToNat, reduceCtorEq, Int.reduceLT, Int.reduceLE, Int.reduceAdd, Int.reduceSub, Int.reduceMul, Int.reduceNeg, Int.reduceEq, e4, e5, hs]
  by_cases hb0 : b = 0
  · have d1 : divF a b = (0, 9) := by rw [divF, if_pos hb0]
    have d2 : remF a b = (0, 9) := by rw [remF, if_pos hb0]
    subst hb0
    rw [d1] at e6
    rw [d2] at e7
    simp (disch := first | omega | (refine id ?_; simp only [push_cast]; done) | (refine id ?_; simp only [push_cast]; omega)) only [push_cast, Nat.reduceAdd, Nat.reduceMul, Nat.reduceSub, Nat.reduceLT, Nat.reduceEqDiff, Nat.reduceLeDiff, Int.reduceToNat, reduceCtorEq, Int.reduceLT, Int.reduceLE, Int.reduceAdd, Int.reduceSub, Int.reduceMul, Int.reduceNeg, Int.reduceEq, e6, e7]
    exact .id rfl
  by_cases hm : a = -9223372036854775808 ∧ b = -1
  · have d1 : divF a b = (0, 8) := by rw [divF, if_neg hb0, if_pos hm]
    have d2 : remF a b = (0, 0) := by rw [remF, if_neg hb0, if_pos hm.2]
    obtain ⟨hm1, rfl⟩ := hm
    rw [d1] at e6
    rw [d2] at e7
    simp (disch := first | omega | (refine id ?_; simp only [push_cast]; done) | (refine id ?_; simp only [push_cast]; omega)) only [push_cast, Nat.reduceAdd, Nat.reduceMul, Nat.reduceSub, Nat.reduceLT, Nat.reduceEqDiff, Nat.reduceLeDiff, Int.reduceToNat, reduceCtorEq, Int.reduceLT, Int.reduceLE, Int.reduceAdd, Int.reduceSub, Int.reduceMul, Int.reduceNeg, Int.reduceEq, e6, e7]
    exact .id rfl
  have d1 : divF a b = (W (a.tdiv b), 0) := by rw [divF, if_neg hb0, if_neg hm]
  have d2 : remF a b = (a.tmod b, 0) := by
    rw [remF, if_neg hb0]
    by_cases h : b = -1
    · rw [if_pos h, h]; simp [Int.tmod_neg, Int.tmod_one]
    · rw [if_neg h]
  have d3 : W (a.tdiv b) = a.tdiv b := W_in (tdiv_in ha hm)
  rw [d3] at d1
  have d4 : a.tdiv b * b + a.tmod b = a := by
    have := Int.mul_tdiv_add_tmod a b
    rwa [Int.mul_comm] at this
  have d5 := W_sum d4 ha
  unfold W at d5
  rw [d1] at e6
  rw [d2] at e7
  simp (disch := first | omega | (refine id ?_; simp only [push_cast]; done) | (refine id ?_; simp only [push_cast]; omega)) only [push_cast, Nat.reduceAdd, Nat.reduceMul, Nat.reduceSub, Nat.reduceLT, Nat.reduceEqDiff, Nat.reduceLeDiff, Int.reduceToNat, reduceCtorEq, Int.reduceLT, Int.reduceLE, Int.reduceAdd, Int.reduceSub, Int.reduceMul, Int.reduceNeg, Int.reduceEq, hb0, e6, e7, d5]
  exact .id rfl
theorem laws_law (hk : CallF (pp G) H0 13 [] (.bool true)) (a b : Int) (ha : In a) (hb : In b) : CallF (pp G) H0 10 [.int .i64 a, .int .i64 b] (.bool true) := by
  have hlo : H0.lo ≤ H0.next := Nat.le_refl _; refine CallF.cut (CallD.fir4 (q := qq) (good G) fir10 ok_ir10 rfl rfl (F16_arr ..) (Nat.le_refl _) ?_); rw [sd_ir10]
  simp (disch := first | omega | (refine id ?_; simp only [push_cast]; done) | (refine id ?_; simp only [push_cast]; omega)) only [push_cast, Nat.reduceAdd, Nat.reduceMul, Nat.reduceSub, Nat.reduceLT, Nat.reduceEqDiff, Nat.reduceLeDiff, Int.reduceToNat, reduceCtorEq, Int.reduceLT, Int.reduceLE, Int.reduceAdd, Int.reduceSub, Int.reduceMul, Int.reduceNeg, Int.reduceEq]
  refine CallVD.data (hk) (by first | exact FzL.ids rfl | (refine FzL.ids ?_; simp (disch := first | omega | (refine id ?_; simp only [push_cast]; done) | (refine id ?_; simp only [push_cast]; omega)) only [push_cast])) (by first | rfl | (simp (disch := first | omega | (refine id ?_; simp only [push_cast]; done) | (refine id ?_; simp only [push_cast]; omega)) only [push_cast])) (by first | rfl | (simp (disch := first | omega | (refine id ?_; simp only [push_cast]; done) | (refine id ?_; simp only [push_cast]; omega)) only [push_cast])) ?_
  simp (disch := first | omega | (refine id ?_; simp only [push_cast]; done) | (refine id ?_; simp only [push_cast]; omega)) only [push_cast, Nat.reduceAdd, Nat.reduceMul, Nat.reduceSub, Nat.reduceLT, Nat.reduceEqDiff, Nat.reduceLeDiff, Int.reduceToNat, reduceCtorEq, Int.reduceLT, Int.reduceLE, Int.reduceAdd, Int.reduceSub, Int.reduceMul, Int.reduceNeg, Int.reduceEq]
  refine CallVD.lend (laws_f G a b ha hb) (.ids rfl) rfl ?_
  simp (disch := first | omega | (refine id ?_; simp only [push_cast]; done) | (refine id ?_; simp only [push_cast]; omega)) only [push_cast, Nat.reduceAdd, Nat.reduceMul, Nat.reduceSub, Nat.reduceLT, Nat.reduceEqDiff, Nat.reduceLeDiff, Int.reduceToNat, reduceCtorEq, Int.reduceLT, Int.reduceLE, Int.reduceAdd, Int.reduceSub, Int.reduceMul, Int.reduceNeg, Int.reduceEq]
  exact .id rfl
end
end Go.Proofs.YtlbpiiehanibfaaDoor
namespace Go.Proofs.YtlbpiiehanibfaaDoor.kn
open Go Go.RowKit Go.Ew
set_option maxRecDepth 100000
noncomputable section
theorem funcs_ok : Tryd.prog.funcs.all (okFunc 6) = true := by kernel_rfl
theorem mixed : Tryd.prog.follows .mixedOrders = true := by kernel_rfl
theorem funcs_ok' (g : Nat) (fn : Func) (h : Tryd.prog.funcs[g]? = some fn) : okFunc 6 fn = true := by
  have := funcs_ok
  rw [Array.all_eq_true_iff_forall_mem] at this
  exact this fn (Array.mem_of_getElem? h)
theorem LL_ok : okPl 6 LL = true := by kernel_rfl
theorem same_run (y : Value) (w : World) : (callFunc 75 #[y]).run Tryd.prog w = .ok (.value y) w := by
  have hf : Tryd.prog.funcs[75]? = some Tryd.f75 := rfl
  have hname0 : (Tryd.f75.name == "runtime.NumGoroutine") = false := by kernel_rfl
  have hname : ¬ Tryd.f75.name = "runtime.NumGoroutine" := by simpa using hname0
  have hb : Tryd.f75.body = none := by kernel_rfl
  have hn : Extern.findNext Tryd.f75 = none := by kernel_rfl
  have he : Extern.find Tryd.f75 = some Extern.AbiNoEscape.same := by kernel_rfl
  have hs : Extern.AbiNoEscape.same #[y] = pure y := rfl
  simp [callFunc, hf, hname, hb, hn, he, hs]
def X0 : Ext := orX (sameX 75) (noX)
theorem X0_sound (sg : Nat → Int) (tg : Nat → ByteArray) (B : Nat → Prop) : SoundX ⟨Tryd.prog, 6, 6, B, sg, tg⟩ X0 := orX_sound (sameX_sound same_run) (noX_sound _)
theorem known_ev : (evCall Tryd.prog X0 (evC Tryd.prog X0 400) 13 [] (laidHeap 6 LL)).map (·.1) = some (.bool true) := by kernel_rfl
theorem known_calls (w : World) (hw : LaidW 6 LL w) : Calls Tryd.prog 13 #[] w fun e w' => e = .returned (.bool true) ∧ Below w.heap.size w w' := by
  have h := calls_fin (X := X0) (N := 400) (args := []) (v := .bool true) funcs_ok' mixed (X0_sound (fun _ => 0) (fun _ => .empty)) LL_ok Tryd.func13 rfl rfl known_ev rfl rfl w hw
  simpa using h
end
end Go.Proofs.YtlbpiiehanibfaaDoor.kn
namespace Go.Proofs.YtlbpiiehanibfaaDoor
open Go Go.RowKit Go.Ev Go.Dv
theorem known_f (G : Nat) : CallF (pp G) H0 13 [] (.bool true) :=
  CallF.of_known (good G) Tryd.func13 rfl rfl (fun x hx => by
    simp only [LL, List.mem_cons, List.not_mem_nil, or_false] at hx
    subst hx
    exact ⟨rfl, rfl, by show (0 : Nat) < 6; omega, by show (0 : Nat) < 6; omega⟩) fun w hsz hl => kn.known_calls w ⟨hsz, fun x hx => ⟨by
    simp only [LL, List.mem_cons, List.not_mem_nil, or_false] at hx
    subst hx
    show (0 : Nat) < 6
    omega, hl x hx⟩⟩
end Go.Proofs.YtlbpiiehanibfaaDoor
