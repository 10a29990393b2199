/-
  A part of the proof: what the program's functions hand back,as theorems. No condition but those that each theorem names.
-/
import Derived.Test.YtejgmoenmbjidaaVd
set_option linter.unusedSimpArgs false
set_option linter.unusedVariables false
namespace Go.Proofs.Ytejgmoenmbjidaa
open _root_.Go.Proofs.Try (prog)
open Go.RowKit Go.Ev
set_option maxRecDepth 100000
noncomputable section
noncomputable def ir3_s0:IR:=(.seq (.seq (.ops [⟨some 25,none,.take,(.move (.tmp 9)),3⟩,⟨some 26,none,.take,(.move (.tmp 1)),22⟩,⟨some 27,none,.take,(.call ⟨(.builtin .len),#[(.tmp 26)],#[22]⟩),3⟩,⟨some 28,none,.take,(.binOp .lss 3 (.tmp 25) (.tmp 27) 3),4⟩,⟨some 29,none,.take,(.move (.tmp 28)),4⟩,⟨some 30,(some (29,true)),.take,(.move (.tmp 9)),3⟩,⟨some 31,(some (29,true)),.take,(.binOp .lss 3 (.tmp 30) (.const (.int .i64 70)) 3),4⟩,⟨some 32,none,.take,(.pick (.tmp 29) (.tmp 31) (.const (.bool false))),4⟩]) (.cond (.tmp 32) .skip (.exit 0))) (.seq (.block 1 (.seq (.ops [⟨some 35,none,.take,(.move (.tmp 7)),24⟩,⟨some 36,none,.take,(.move (.tmp 8)),26⟩,⟨some 37,none,.take,(.move (.tmp 1)),22⟩,⟨some 38,none,.take,(.move (.tmp 9)),3⟩,⟨some 39,none,.take,(.indexAddr 22 (.tmp 37) (.tmp 38)),0⟩,⟨some 40,none,.take,(.load 3 (.tmp 39)),3⟩,⟨some 41,none,.call,(.call ⟨(.value (.func 13)),#[(.tmp 35),(.tmp 36),(.tmp 40)],#[24,26,3]⟩),4⟩,⟨some 42,none,.take,(.unOp .not 4 (.tmp 41)),4⟩,⟨some 43,none,.take,(.move (.tmp 42)),4⟩,⟨some 44,(some (43,false)),.take,(.move (.tmp 7)),24⟩,⟨some 45,(some (43,false)),.take,(.move (.tmp 8)),26⟩,⟨some 46,(some (43,false)),.call,(.call ⟨(.value (.func 14)),#[(.tmp 44),(.tmp 45)],#[24,26]⟩),4⟩,⟨some 47,(some (43,false)),.take,(.unOp .not 4 (.tmp 46)),4⟩,⟨some 48,none,.take,(.pick (.tmp 43) (.const (.bool true)) (.tmp 47)),4⟩]) (.cond (.tmp 48) (.seq (.ops [⟨some 6,none,.take,(.assign (.const (.bool false))),4⟩]) .ret) .skip))) (.ops [⟨some 33,none,.take,(.move (.tmp 9)),3⟩,⟨some 34,none,.take,(.binOp .add 3 (.tmp 33) (.const (.int .i64 1)) 3),3⟩,⟨some 9,none,.take,(.assign (.tmp 34)),3⟩])))
noncomputable def ir3_s1:IR:=(.seq (.ops [⟨some 50,none,.take,(.move (.tmp 7)),24⟩,⟨some 51,none,.take,(.move (.tmp 2)),3⟩,⟨some 52,none,.call,(.call ⟨(.value (.func 15)),#[(.tmp 50),(.tmp 51)],#[24,3]⟩),32⟩,⟨some 49,none,.take,(.move (.tmp 52)),32⟩,⟨some 53,none,.take,(.extract (.tmp 49) 0),31⟩,⟨some 54,none,.take,(.extract (.tmp 49) 1),4⟩,⟨some 10,none,.eff,(.alloc 31),0⟩,⟨none,none,.eff,(.store 31 (.tmp 10) (.tmp 53)),0⟩,⟨some 11,none,.take,(.assign (.tmp 54)),4⟩]) (.seq (.ops [⟨some 56,none,.take,(.move (.tmp 8)),26⟩,⟨some 57,none,.take,(.move (.tmp 2)),3⟩,⟨some 58,none,.call,(.call ⟨(.value (.func 16)),#[(.tmp 56),(.tmp 57)],#[26,3]⟩),32⟩,⟨some 55,none,.take,(.move (.tmp 58)),32⟩,⟨some 59,none,.take,(.extract (.tmp 55) 0),31⟩,⟨some 60,none,.take,(.extract (.tmp 55) 1),4⟩,⟨some 12,none,.eff,(.alloc 31),0⟩,⟨none,none,.eff,(.store 31 (.tmp 12) (.tmp 59)),0⟩,⟨some 13,none,.take,(.assign (.tmp 60)),4⟩]) (.seq (.ops [⟨some 61,none,.take,(.move (.tmp 11)),4⟩,⟨some 62,none,.take,(.move (.tmp 13)),4⟩,⟨some 63,none,.take,(.binOp .eql 4 (.tmp 61) (.tmp 62) 4),4⟩,⟨some 64,none,.take,(.move (.tmp 63)),4⟩,⟨some 65,(some (64,true)),.take,(.move (.tmp 7)),24⟩,⟨some 66,(some (64,true)),.take,(.move (.tmp 2)),3⟩,⟨some 67,(some (64,true)),.call,(.call ⟨(.value (.func 17)),#[(.tmp 65),(.tmp 66)],#[24,3]⟩),4⟩,⟨some 68,(some (64,true)),.take,(.move (.tmp 8)),26⟩,⟨some 69,(some (64,true)),.take,(.move (.tmp 2)),3⟩,⟨some 70,(some (64,true)),.call,(.call ⟨(.value (.func 18)),#[(.tmp 68),(.tmp 69)],#[26,3]⟩),4⟩,⟨some 71,(some (64,true)),.take,(.binOp .eql 4 (.tmp 67) (.tmp 70) 4),4⟩,⟨some 72,none,.take,(.pick (.tmp 64) (.tmp 71) (.const (.bool false))),4⟩,⟨some 73,none,.take,(.move (.tmp 72)),4⟩,⟨some 74,(some (73,true)),.take,(.move (.tmp 7)),24⟩,⟨some 75,(some (73,true)),.take,(.move (.tmp 2)),3⟩,⟨some 76,(some (73,true)),.call,(.call ⟨(.value (.func 19)),#[(.tmp 74),(.tmp 75)],#[24,3]⟩),4⟩,⟨some 77,(some (73,true)),.take,(.move (.tmp 8)),26⟩,⟨some 78,(some (73,true)),.take,(.move (.tmp 2)),3⟩,⟨some 79,(some (73,true)),.call,(.call ⟨(.value (.func 20)),#[(.tmp 77),(.tmp 78)],#[26,3]⟩),4⟩,⟨some 80,(some (73,true)),.take,(.binOp .eql 4 (.tmp 76) (.tmp 79) 4),4⟩,⟨some 81,none,.take,(.pick (.tmp 73) (.tmp 80) (.const (.bool false))),4⟩,⟨some 82,none,.take,(.move (.tmp 81)),4⟩,⟨some 83,(some (82,true)),.take,(.move (.tmp 7)),24⟩,⟨some 84,(some (82,true)),.take,(.move (.tmp 8)),26⟩,⟨some 85,(some (82,true)),.call,(.call ⟨(.value (.func 14)),#[(.tmp 83),(.tmp 84)],#[24,26]⟩),4⟩,⟨some 86,none,.take,(.pick (.tmp 82) (.tmp 85) (.const (.bool false))),4⟩,⟨some 6,none,.take,(.assign (.tmp 86)),4⟩]) .ret)))
theorem sh_ir3 (G:Nat)(h:Heap)(a0 a1 a2:Value)(R:Value→Heap→Prop):vc3 (pp G) none ir3 ⟨(F87 a0 a1 a2 undef undef undef undef undef undef undef undef undef undef undef undef undef undef undef undef undef undef undef undef undef undef undef undef undef undef undef undef undef undef undef undef undef undef undef undef undef undef undef undef undef undef undef undef undef undef undef undef undef undef undef undef undef undef undef undef undef undef undef undef undef undef undef undef undef undef undef undef undef undef undef undef undef undef undef undef undef undef undef undef undef undef undef undef),[],h⟩ (finR prog [(.tmp 6)] R)=(oT (some (.bool false)) none h (@kk ⟨λv1 h2=>CallV (pp G) (.func (.func 10) #[] #[]) [] h2 (@kk ⟨λv3 h4=>oT (unV prog .not v3) none h4 (@kk ⟨λv5 h6=>vcond v5 (@kb ⟨oT (some (.bool false)) none h6 (@kk ⟨λv7 h8=>R v7 h8⟩)⟩) (@kb ⟨oT (some a0) none h6 (@kk ⟨λv9 h10=>oT (lnB (lnT prog 22) v9) none h10 (@kk ⟨λv11 h12=>oT (binPure prog .gtr 3 (.tmp 17) (.const (.int .i64 60)) v11 (.int .i64 60)) none h12 (@kk ⟨λv13 h14=>vcond v13 (@kb ⟨oT (some (.bool true)) none h14 (@kk ⟨λv15 h16=>R v15 h16⟩)⟩) (@kb ⟨oT (some a0) none h14 (@kk ⟨λv17 h18=>CallV (pp G) (.func (.func 11) #[] #[]) [v17] h18 (@kk ⟨λv19 h20=>oT (some a0) none h20 (@kk ⟨λv21 h22=>CallV (pp G) (.func (.func 12) #[] #[]) [v21] h22 (@kk ⟨λv23 h24=>oT (some v19) none h24 (@kk ⟨λv25 h26=>oT (some v23) none h26 (@kk ⟨λv27 h28=>oT (some v25) none h28 (@kk ⟨λv29 h30=>oT (binPure prog .eql 24 (.tmp 23) (.const (.pointer none)) v29 (.pointer none)) none h30 (@kk ⟨λv31 h32=>vcond v31 (@kb ⟨oT (some (.bool false)) none h32 (@kk ⟨λv33 h34=>R v33 h34⟩)⟩) (@kb ⟨oT (some (.int .i64 0)) none h32 (@kk ⟨λv35 h36=>W (pp G) none (.loop ir3_s0) ⟨(F87 a0 a1 a2 undef undef undef v1 v25 v27 v35 undef undef undef undef v3 v5 v9 v11 v13 v17 v19 v21 v23 v29 v31 undef undef undef undef undef undef undef undef undef undef undef undef undef undef undef undef undef undef undef undef undef undef undef undef undef undef undef undef undef undef undef undef undef undef undef undef undef undef undef undef undef undef undef undef undef undef undef undef undef undef undef undef undef undef undef undef undef undef undef undef undef undef),[],h36⟩ (@kR ⟨outR3 0 (thenR3 (λs1=>vc3 (pp G) none ir3_s1 s1 (@kR ⟨finR prog [(.tmp 6)] R⟩)) (finR prog [(.tmp 6)] R))⟩)⟩)⟩)⟩)⟩)⟩)⟩)⟩)⟩)⟩)⟩)⟩)⟩)⟩)⟩)⟩)⟩)⟩)⟩)):=by kernel_rfl
theorem sh_ir3_s0 (G:Nat)(ro:Option Nat)(df:List Nat)(h:Heap)(x0 x1 x2 x3 x4 x5 x6 x7 x8 x9 xA xB xC xD xE xF xG xH xI xJ xK xL xM xN xO xP xQ xR xS xT xU xV xW xX xY xZ yA yB yC yD yE yF yG yH yI yJ yK yL yM yN yO yP yQ yR yS yT yU yV yW yX yY yZ zA zB zC zD zE zF zG zH zI zJ zK zL zM zN zO zP zQ zR zS zT zU zV zW zX zY:Value)(R:XExit→S→Prop):vc3 (pp G) ro ir3_s0 ⟨(F87 x0 x1 x2 x3 x4 x5 x6 x7 x8 x9 xA xB xC xD xE xF xG xH xI xJ xK xL xM xN xO xP xQ xR xS xT xU xV xW xX xY xZ yA yB yC yD yE yF yG yH yI yJ yK yL yM yN yO yP yQ yR yS yT yU yV yW yX yY yZ zA zB zC zD zE zF zG zH zI zJ zK zL zM zN zO zP zQ zR zS zT zU zV zW zX zY),df,h⟩ R=(oT (some x9) none h (@kk ⟨λv1 h2=>oT (some x1) none h2 (@kk ⟨λv3 h4=>oT (lnB (lnT prog 22) v3) none h4 (@kk ⟨λv5 h6=>oT (binPure prog .lss 3 (.tmp 25) (.tmp 27) v1 v5) none h6 (@kk ⟨λv7 h8=>oT (some v7) none h8 (@kk ⟨λv9 h10=>gT v9 true (some x9) none h10 (@kk ⟨λv11 h12=>gT v9 true (binPure prog .lss 3 (.tmp 30) (.const (.int .i64 70)) v11 (.int .i64 70)) none h12 (@kk ⟨λv13 h14=>oT (pickV v9 v13 (.bool false)) none h14 (@kk ⟨λv15 h16=>vcond v15 (@kb ⟨oT (some x7) none h16 (@kk ⟨λv17 h18=>oT (some x8) none h18 (@kk ⟨λv19 h20=>oT (some x1) none h20 (@kk ⟨λv21 h22=>oT (some x9) none h22 (@kk ⟨λv23 h24=>oT (iaV (esz prog 22) v21 v23) none h24 (@kk ⟨λv25 h26=>oT (evLoad prog 3 v25 h26) none h26 (@kk ⟨λv27 h28=>CallV (pp G) (.func (.func 13) #[] #[]) [v17,v19,v27] h28 (@kk ⟨λv29 h30=>oT (unV prog .not v29) none h30 (@kk ⟨λv31 h32=>oT (some v31) none h32 (@kk ⟨λv33 h34=>gT v33 false (some x7) none h34 (@kk ⟨λv35 h36=>gT v33 false (some x8) none h36 (@kk ⟨λv37 h38=>gC (pp G) v33 false (.func (.func 14) #[] #[]) [v35,v37] h38 (@kk ⟨λv39 h40=>gT v33 false (unV prog .not v39) none h40 (@kk ⟨λv41 h42=>oT (pickV v33 (.bool true) v41) none h42 (@kk ⟨λv43 h44=>vcond v43 (@kb ⟨oT (some (.bool false)) none h44 (@kk ⟨λv45 h46=>R .ret ⟨(F87 x0 x1 x2 x3 x4 x5 v45 x7 x8 x9 xA xB xC xD xE xF xG xH xI xJ xK xL xM xN xO v1 v3 v5 v7 v9 v11 v13 v15 xX xY v17 v19 v21 v23 v25 v27 v29 v31 v33 v35 v37 v39 v41 v43 yN yO yP yQ yR yS yT yU yV yW yX yY yZ zA zB zC zD zE zF zG zH zI zJ zK zL zM zN zO zP zQ zR zS zT zU zV zW zX zY),df,h46⟩⟩)⟩) (@kb ⟨oT (some x9) none h44 (@kk ⟨λv47 h48=>oT (binPure prog .add 3 (.tmp 33) (.const (.int .i64 1)) v47 (.int .i64 1)) none h48 (@kk ⟨λv49 h50=>oT (some v49) none h50 (@kk ⟨λv51 h52=>R .normal ⟨(F87 x0 x1 x2 x3 x4 x5 x6 x7 x8 v51 xA xB xC xD xE xF xG xH xI xJ xK xL xM xN xO v1 v3 v5 v7 v9 v11 v13 v15 v47 v49 v17 v19 v21 v23 v25 v27 v29 v31 v33 v35 v37 v39 v41 v43 yN yO yP yQ yR yS yT yU yV yW yX yY yZ zA zB zC zD zE zF zG zH zI zJ zK zL zM zN zO zP zQ zR zS zT zU zV zW zX zY),df,h52⟩⟩)⟩)⟩)⟩)⟩)⟩)⟩)⟩)⟩)⟩)⟩)⟩)⟩)⟩)⟩)⟩)⟩)⟩)⟩) (@kb ⟨R (.exit 0) ⟨(F87 x0 x1 x2 x3 x4 x5 x6 x7 x8 x9 xA xB xC xD xE xF xG xH xI xJ xK xL xM xN xO v1 v3 v5 v7 v9 v11 v13 v15 xX xY xZ yA yB yC yD yE yF yG yH yI yJ yK yL yM yN yO yP yQ yR yS yT yU yV yW yX yY yZ zA zB zC zD zE zF zG zH zI zJ zK zL zM zN zO zP zQ zR zS zT zU zV zW zX zY),df,h16⟩⟩)⟩)⟩)⟩)⟩)⟩)⟩)⟩)⟩)):=by kernel_rfl
attribute [push_cast] sh_ir3_s0
theorem sh_ir3_s1 (G:Nat)(ro:Option Nat)(df:List Nat)(h:Heap)(x0 x1 x2 x3 x4 x5 x6 x7 x8 x9 xA xB xC xD xE xF xG xH xI xJ xK xL xM xN xO xP xQ xR xS xT xU xV xW xX xY xZ yA yB yC yD yE yF yG yH yI yJ yK yL yM yN yO yP yQ yR yS yT yU yV yW yX yY yZ zA zB zC zD zE zF zG zH zI zJ zK zL zM zN zO zP zQ zR zS zT zU zV zW zX zY:Value)(R:XExit→S→Prop):vc3 (pp G) ro ir3_s1 ⟨(F87 x0 x1 x2 x3 x4 x5 x6 x7 x8 x9 xA xB xC xD xE xF xG xH xI xJ xK xL xM xN xO xP xQ xR xS xT xU xV xW xX xY xZ yA yB yC yD yE yF yG yH yI yJ yK yL yM yN yO yP yQ yR yS yT yU yV yW yX yY yZ zA zB zC zD zE zF zG zH zI zJ zK zL zM zN zO zP zQ zR zS zT zU zV zW zX zY),df,h⟩ R=(oT (some x7) none h (@kk ⟨λv1 h2=>oT (some x2) none h2 (@kk ⟨λv3 h4=>CallV (pp G) (.func (.func 15) #[] #[]) [v1,v3] h4 (@kk ⟨λv5 h6=>oT (some v5) none h6 (@kk ⟨λv7 h8=>oT (extV v7 0) none h8 (@kk ⟨λv9 h10=>oT (extV v7 1) none h10 (@kk ⟨λv11 h12=>oE (alE (zro prog 31) 31 h12) (@kk ⟨λv13 h14=>oE (stE (szT prog 31) v13 v9 h14) (@kk ⟨λv15 h16=>oT (some v11) none h16 (@kk ⟨λv17 h18=>oT (some x8) none h18 (@kk ⟨λv19 h20=>oT (some x2) none h20 (@kk ⟨λv21 h22=>CallV (pp G) (.func (.func 16) #[] #[]) [v19,v21] h22 (@kk ⟨λv23 h24=>oT (some v23) none h24 (@kk ⟨λv25 h26=>oT (extV v25 0) none h26 (@kk ⟨λv27 h28=>oT (extV v25 1) none h28 (@kk ⟨λv29 h30=>oE (alE (zro prog 31) 31 h30) (@kk ⟨λv31 h32=>oE (stE (szT prog 31) v31 v27 h32) (@kk ⟨λv33 h34=>oT (some v29) none h34 (@kk ⟨λv35 h36=>oT (some v17) none h36 (@kk ⟨λv37 h38=>oT (some v35) none h38 (@kk ⟨λv39 h40=>oT (binPure prog .eql 4 (.tmp 61) (.tmp 62) v37 v39) none h40 (@kk ⟨λv41 h42=>oT (some v41) none h42 (@kk ⟨λv43 h44=>gT v43 true (some x7) none h44 (@kk ⟨λv45 h46=>gT v43 true (some x2) none h46 (@kk ⟨λv47 h48=>gC (pp G) v43 true (.func (.func 17) #[] #[]) [v45,v47] h48 (@kk ⟨λv49 h50=>gT v43 true (some x8) none h50 (@kk ⟨λv51 h52=>gT v43 true (some x2) none h52 (@kk ⟨λv53 h54=>gC (pp G) v43 true (.func (.func 18) #[] #[]) [v51,v53] h54 (@kk ⟨λv55 h56=>gT v43 true (binPure prog .eql 4 (.tmp 67) (.tmp 70) v49 v55) none h56 (@kk ⟨λv57 h58=>oT (pickV v43 v57 (.bool false)) none h58 (@kk ⟨λv59 h60=>oT (some v59) none h60 (@kk ⟨λv61 h62=>gT v61 true (some x7) none h62 (@kk ⟨λv63 h64=>gT v61 true (some x2) none h64 (@kk ⟨λv65 h66=>gC (pp G) v61 true (.func (.func 19) #[] #[]) [v63,v65] h66 (@kk ⟨λv67 h68=>gT v61 true (some x8) none h68 (@kk ⟨λv69 h70=>gT v61 true (some x2) none h70 (@kk ⟨λv71 h72=>gC (pp G) v61 true (.func (.func 20) #[] #[]) [v69,v71] h72 (@kk ⟨λv73 h74=>gT v61 true (binPure prog .eql 4 (.tmp 76) (.tmp 79) v67 v73) none h74 (@kk ⟨λv75 h76=>oT (pickV v61 v75 (.bool false)) none h76 (@kk ⟨λv77 h78=>oT (some v77) none h78 (@kk ⟨λv79 h80=>gT v79 true (some x7) none h80 (@kk ⟨λv81 h82=>gT v79 true (some x8) none h82 (@kk ⟨λv83 h84=>gC (pp G) v79 true (.func (.func 14) #[] #[]) [v81,v83] h84 (@kk ⟨λv85 h86=>oT (pickV v79 v85 (.bool false)) none h86 (@kk ⟨λv87 h88=>oT (some v87) none h88 (@kk ⟨λv89 h90=>R .ret ⟨(F87 x0 x1 x2 x3 x4 x5 v89 x7 x8 x9 v13 v17 v31 v35 xE xF xG xH xI xJ xK xL xM xN xO xP xQ xR xS xT xU xV xW xX xY xZ yA yB yC yD yE yF yG yH yI yJ yK yL yM v7 v1 v3 v5 v9 v11 v25 v19 v21 v23 v27 v29 v37 v39 v41 v43 v45 v47 v49 v51 v53 v55 v57 v59 v61 v63 v65 v67 v69 v71 v73 v75 v77 v79 v81 v83 v85 v87),df,h90⟩⟩)⟩)⟩)⟩)⟩)⟩)⟩)⟩)⟩)⟩)⟩)⟩)⟩)⟩)⟩)⟩)⟩)⟩)⟩)⟩)⟩)⟩)⟩)⟩)⟩)⟩)⟩)⟩)⟩)⟩)⟩)⟩)⟩)⟩)⟩)⟩)⟩)⟩)⟩)⟩)⟩)⟩)⟩)⟩)⟩)):=by kernel_rfl
attribute [push_cast] sh_ir3_s1
end
end Go.Proofs.Ytejgmoenmbjidaa
namespace Go.Proofs.Ytejgmoenmbjidaa
open _root_.Go.Proofs.Try (prog)
open Go Go.RowKit Go.Ev
noncomputable section
set_option maxRecDepth 100000
variable (G:Nat) (h:Heap)
theorem pr_new {h2 h3:Heap}{q:Pl}{x:Xp}{w u:Wi}{n0:Nat}(aq:WAt h2 q w)(hq:∀ b,q.B b→n0≤b)(ax:XAt h3 x u)(hx:∀ b,x.B b→h2.next≤b)(g:Gr h2 h3)(hn:n0≤h2.next):Pr h3 (λb=>n0≤b) q.p x.p w u:=
 ⟨q,x,rfl,rfl,aq.grew g λ_ _ h=>h,ax,λb ⟨i,hi⟩ hb=>by have:=hx b hb;have:=aq.lt b i hi;omega,λb hb=>hb.elim (λh=>⟨hq b h,by obtain ⟨i,hi⟩:=h;exact Nat.lt_of_lt_of_le (aq.lt b i hi) g.next⟩) λh=>⟨Nat.le_trans hn (hx b h),by obtain ⟨i,hi⟩:=h;exact ax.lt b i hi⟩⟩
inductive I3 (h:Heap)(v1 v2:Value)(p1 p2:Nat):Nat→S→Prop
 | mk {i : Nat} {iv : Int} {w : Wi} {h2 : Heap} {x0 x3 x4 x5 x6 xA xB xC xD xE xF xG xH xI xJ xK xL xM xN xO xP xQ xR xS xT xU xV xW xX xY xZ yA yB yC yD yE yF yG yH yI yJ yK yL yM yN yO yP yQ yR yS yT yU yV yW yX yY yZ zA zB zC zD zE zF zG zH zI zJ zK zL zM zN zO zP zQ zR zS zT zU zV zW zX zY : Value} : iv = i → i ≤ 70 → WOk w i → WRg w → Pr h2 (fun b => h.next ≤ b) p1 p2 w w → Gr h h2 →
   I3 h v1 v2 p1 p2 (70-i) ⟨(F87 x0 v1 v2 x3 x4 x5 x6 (.pointer (some ⟨p1,0,none⟩)) (.pointer (some ⟨p2,0,none⟩)) (.int .i64 iv) xA xB xC xD xE xF xG xH xI xJ xK xL xM xN xO xP xQ xR xS xT xU xV xW xX xY xZ yA yB yC yD yE yF yG yH yI yJ yK yL yM yN yO yP yQ yR yS yT yU yV yW yX yY yZ zA zB zC zD zE zF zG zH zI zJ zK zL zM zN zO zP zQ zR zS zT zU zV zW zX zY),[],h2⟩
theorem plays_w (xs:List Int)(a0:Option Addr)(c0:Nat)(hs:Sl h a0 (ivs xs))(hb:∀ b,blk a0 b→b<h.next)(ys:List Int)(a1:Option Addr)(c1:Nat)(hs1:Sl h a1 (ivs ys))(hb1:∀ b,blk a1 b→b<h.next)(raw:Int) :
  CallE (pp G) 3 [.slice a0 xs.length c0,.slice a1 ys.length c1,.int .i64 raw] h (λv h'=>v=.bool true):=by
 refine CallE.fir4 (good G) fir3 rfl rfl (F87_arr ..) λhlo=>?_
 rw[sh_ir3]
 simp(disch:=first|omega|(apply id;simp only[push_cast];first|done|omega))only[push_cast,Nat.reduceAdd,Nat.reduceMul,Nat.reduceSub,Nat.reduceLT,Nat.reduceEqDiff,Nat.reduceLeDiff,Int.reduceToNat,reduceCtorEq,Int.reduceLT,Int.reduceLE,Int.reduceAdd,Int.reduceSub,Int.reduceMul,Int.reduceNeg,Int.reduceEq]
 refine CallE.to (known_w G _) ?_
 rintro _ h1 ⟨rfl,g1⟩
 by_cases h60:(60:Int)<xs.length
 ·have h60':(xs.length:Int) > 60:=h60
  simp(disch:=first|omega|(apply id;simp only[push_cast];first|done|omega))only[push_cast,Nat.reduceAdd,Nat.reduceMul,Nat.reduceSub,Nat.reduceLT,Nat.reduceEqDiff,Nat.reduceLeDiff,Int.reduceToNat,reduceCtorEq,Int.reduceLT,Int.reduceLE,Int.reduceAdd,Int.reduceSub,Int.reduceMul,Int.reduceNeg,Int.reduceEq,h60,h60']
 have h60':¬ (xs.length:Int) > 60:=h60
 simp(disch:=first|omega|(apply id;simp only[push_cast];first|done|omega))only[push_cast,Nat.reduceAdd,Nat.reduceMul,Nat.reduceSub,Nat.reduceLT,Nat.reduceEqDiff,Nat.reduceLeDiff,Int.reduceToNat,reduceCtorEq,Int.reduceLT,Int.reduceLE,Int.reduceAdd,Int.reduceSub,Int.reduceMul,Int.reduceNeg,Int.reduceEq,h60,h60']
 have n1:=g1.next
 refine CallE.to (new_w G h1 xs a0 c0 (Sl.grew hs g1 λb hb' _=>⟨hb b hb',id⟩) (λb hb'=>by have:=hb b hb';omega) (by omega) λe=>by subst e;exact ivs_nil (Sl.none_nil hs)) ?_
 rintro _ h2 ⟨⟨q,rfl,aq,hq⟩,g2⟩
 have G2:=g1.tr' g2 λ_ _ h=>h
 have n2:=g2.next
 simp(disch:=first|omega|(apply id;simp only[push_cast];first|done|omega))only[push_cast,Nat.reduceAdd,Nat.reduceMul,Nat.reduceSub,Nat.reduceLT,Nat.reduceEqDiff,Nat.reduceLeDiff,Int.reduceToNat,reduceCtorEq,Int.reduceLT,Int.reduceLE,Int.reduceAdd,Int.reduceSub,Int.reduceMul,Int.reduceNeg,Int.reduceEq]
 refine CallE.to (new_x G h2 xs a0 c0 (Sl.grew hs G2 λb hb' _=>⟨hb b hb',id⟩) (λb hb'=>by have:=hb b hb';omega) (by omega)) ?_
 rintro _ h3 ⟨⟨x,rfl,ax,hx⟩,g3⟩
 have P3:=pr_new (n0:=h.next) aq (λb hb=>by have:=hq b hb;omega) ax hx g3 (by omega)
 have G3:=G2.tr' g3 λ_ _ h=>h
 simp(disch:=first|omega|(apply id;simp only[push_cast];first|done|omega))only[push_cast,Nat.reduceAdd,Nat.reduceMul,Nat.reduceSub,Nat.reduceLT,Nat.reduceEqDiff,Nat.reduceLeDiff,Int.reduceToNat,reduceCtorEq,Int.reduceLT,Int.reduceLE,Int.reduceAdd,Int.reduceSub,Int.reduceMul,Int.reduceNeg,Int.reduceEq]
 refine W.loop4 (good G) (I3 h (.slice a1 ys.length c1) (.int .i64 raw) q.p x.p) ?_ _ _ (I3.mk (i:=0) rfl (by decide) (new_ok xs) (new_rg xs) P3 G3)
 generalize q.p=p1
 generalize x.p=p2
 intro kk0 s1' hI
 cases hI with|@mk i iv w h4 _ _ _ _ _ _ _ _ _ _ _ _ _ _ _ _ _ _ _ _ _ _ _ _ _ _ _ _ _ _ _ _ _ _ _ _ _ _ _ _ _ _ _ _ _ _ _ _ _ _ _ _ _ _ _ _ _ _ _ _ _ _ _ _ _ _ _ _ _ _ _ _ _ _ _ _ _ _ _ _ _ _ hiv hi ok rg a4 g4=>
 subst hiv
 rw[sh_ir3_s0]
 have hol:=rg_len ok rg
 have lo4:=g_lon g4 hlo
 by_cases h1':i<ys.length
 ·have h1i:(i:Int)<(ys.length:Int):=by omega
  by_cases h2':i<70
  ·have h2i:(i:Int)<70:=by omega
   have w1:IntKind.i64.wrap ((i:Int)+1)=(i:Int)+1:=wrap_i64 (by omega) (by omega)
   obtain ⟨b,off,rfl,l1⟩:=Sl.num (Sl.grew hs1 g4 λb hb' _=>⟨hb1 b hb',id⟩) h1'
   simp(disch:=first|omega|(apply id;simp only[push_cast];first|done|omega))only[push_cast,Nat.reduceAdd,Nat.reduceMul,Nat.reduceSub,Nat.reduceLT,Nat.reduceEqDiff,Nat.reduceLeDiff,Int.reduceToNat,reduceCtorEq,Int.reduceLT,Int.reduceLE,Int.reduceAdd,Int.reduceSub,Int.reduceMul,Int.reduceNeg,Int.reduceEq,h1i,h2i,Int.toNat_natCast,l1]
   refine CallE.to (step_p G a4 ok (by omega) rg _) ?_
   rintro _ h5 ⟨rfl,r⟩
   obtain ⟨w',a5,ok5,rg5,_,_⟩:=r.has
   have n4:=g4.next
   have a5':=a5.mono (C:=λb=>h.next≤b) λb hb=>hb.elim id λh=>by omega
   simp(disch:=first|omega|(apply id;simp only[push_cast];first|done|omega))only[push_cast,Nat.reduceAdd,Nat.reduceMul,Nat.reduceSub,Nat.reduceLT,Nat.reduceEqDiff,Nat.reduceLeDiff,Int.reduceToNat,reduceCtorEq,Int.reduceLT,Int.reduceLE,Int.reduceAdd,Int.reduceSub,Int.reduceMul,Int.reduceNeg,Int.reduceEq]
   refine CallE.to (same_p G a5' ok5 (by omega) (rg_len ok5 rg5)) ?_
   rintro _ h6 ⟨rfl,g6⟩
   simp(disch:=first|omega|(apply id;simp only[push_cast];first|done|omega))only[push_cast,Nat.reduceAdd,Nat.reduceMul,Nat.reduceSub,Nat.reduceLT,Nat.reduceEqDiff,Nat.reduceLeDiff,Int.reduceToNat,reduceCtorEq,Int.reduceLT,Int.reduceLE,Int.reduceAdd,Int.reduceSub,Int.reduceMul,Int.reduceNeg,Int.reduceEq,w1]
   exact ⟨70-(i+1),by omega,I3.mk (i:=i+1) (by omega) (by omega) ok5 rg5 (a5'.grew g6 λ_ _ _ h=>h) ((g4.tr' r.gr λb hb e=>by omega).tr' g6 λ_ _ h=>h)⟩
  ·have h2i:¬ (i:Int)<70:=by omega
   simp(disch:=first|omega|(apply id;simp only[push_cast];first|done|omega))only[push_cast,Nat.reduceAdd,Nat.reduceMul,Nat.reduceSub,Nat.reduceLT,Nat.reduceEqDiff,Nat.reduceLeDiff,Int.reduceToNat,reduceCtorEq,Int.reduceLT,Int.reduceLE,Int.reduceAdd,Int.reduceSub,Int.reduceMul,Int.reduceNeg,Int.reduceEq,h1i,h2i]
   refine CallE.to (deliverW_p G a4 ok (by omega) raw) ?_
   rintro _ h5 ⟨rfl,p5⟩
   have ok5:=deliver_ok ok raw
   have rg5:=deliver_rg rg raw
   generalize hD:deliverW w raw=D at *
   obtain ⟨⟨⟨nm,ky,vl⟩,is⟩,w'⟩:=D
   unfold evC
   dsimp only at p5 ok5 rg5 ⊢
   have lo5:=g_lon p5.gr lo4
   have g6:=λ(x y:AObj)=>((Gr.refl h5).add' x).put' h5.next y (Nat.le_refl _)
   simp(disch:=first|omega|(apply id;simp only[push_cast];first|done|omega))only[push_cast,Nat.reduceAdd,Nat.reduceMul,Nat.reduceSub,Nat.reduceLT,Nat.reduceEqDiff,Nat.reduceLeDiff,Int.reduceToNat,reduceCtorEq,Int.reduceLT,Int.reduceLE,Int.reduceAdd,Int.reduceSub,Int.reduceMul,Int.reduceNeg,Int.reduceEq,lo5]
   refine CallE.to (deliverX_p G (p5.at_.grew (g6 _ _) λ_ _ _ h=>h) ok (by omega) hol raw) ?_
   rintro _ h7 ⟨rfl,p7⟩
   rw[hD] at p7 ⊢
   unfold evC
   dsimp only at p7 ⊢
   have lo7:h7.lo≤h7.next:=g_lon p7.gr (by rw[lo_put,lo_add,next_put,next_add];omega)
   have g8:=λ(x y:AObj)=>((Gr.refl h7).add' x).put' h7.next y (Nat.le_refl _)
   simp(disch:=first|omega|(apply id;simp only[push_cast];first|done|omega))only[push_cast,Nat.reduceAdd,Nat.reduceMul,Nat.reduceSub,Nat.reduceLT,Nat.reduceEqDiff,Nat.reduceLeDiff,Int.reduceToNat,reduceCtorEq,Int.reduceLT,Int.reduceLE,Int.reduceAdd,Int.reduceSub,Int.reduceMul,Int.reduceNeg,Int.reduceEq,lo7,beq_self_eq_true]
   refine CallE.to (dropW_p G (p7.at_.grew (g8 _ _) λ_ _ _ h=>h) ok5 (by omega) raw) ?_
   rintro _ h9 ⟨rfl,p9⟩
   simp(disch:=first|omega|(apply id;simp only[push_cast];first|done|omega))only[push_cast,Nat.reduceAdd,Nat.reduceMul,Nat.reduceSub,Nat.reduceLT,Nat.reduceEqDiff,Nat.reduceLeDiff,Int.reduceToNat,reduceCtorEq,Int.reduceLT,Int.reduceLE,Int.reduceAdd,Int.reduceSub,Int.reduceMul,Int.reduceNeg,Int.reduceEq]
   refine CallE.to (dropX_p G p9.at_ ok5 (by omega) raw) ?_
   rintro _ h10 ⟨rfl,p10⟩
   have okd:=drop_ok ok5 raw
   have rgd:=drop_rg rg5 raw
   simp(disch:=first|omega|(apply id;simp only[push_cast];first|done|omega))only[push_cast,Nat.reduceAdd,Nat.reduceMul,Nat.reduceSub,Nat.reduceLT,Nat.reduceEqDiff,Nat.reduceLeDiff,Int.reduceToNat,reduceCtorEq,Int.reduceLT,Int.reduceLE,Int.reduceAdd,Int.reduceSub,Int.reduceMul,Int.reduceNeg,Int.reduceEq,beq_self_eq_true]
   refine CallE.to (twiceW_p G p10.at_ okd (by omega) raw) ?_
   rintro _ h11 ⟨rfl,p11⟩
   simp(disch:=first|omega|(apply id;simp only[push_cast];first|done|omega))only[push_cast,Nat.reduceAdd,Nat.reduceMul,Nat.reduceSub,Nat.reduceLT,Nat.reduceEqDiff,Nat.reduceLeDiff,Int.reduceToNat,reduceCtorEq,Int.reduceLT,Int.reduceLE,Int.reduceAdd,Int.reduceSub,Int.reduceMul,Int.reduceNeg,Int.reduceEq]
   refine CallE.to (twiceX_p G p11.at_ okd (by omega) raw) ?_
   rintro _ h12 ⟨rfl,p12⟩
   have okt:=twice_ok okd raw
   have rgt:=twice_rg rgd raw
   simp(disch:=first|omega|(apply id;simp only[push_cast];first|done|omega))only[push_cast,Nat.reduceAdd,Nat.reduceMul,Nat.reduceSub,Nat.reduceLT,Nat.reduceEqDiff,Nat.reduceLeDiff,Int.reduceToNat,reduceCtorEq,Int.reduceLT,Int.reduceLE,Int.reduceAdd,Int.reduceSub,Int.reduceMul,Int.reduceNeg,Int.reduceEq,beq_self_eq_true]
   refine CallE.to (same_p G p12.at_ okt (by omega) (rg_len okt rgt)) ?_
   rintro _ h13 ⟨rfl,_⟩
   simp(disch:=first|omega|(apply id;simp only[push_cast];first|done|omega))only[push_cast,Nat.reduceAdd,Nat.reduceMul,Nat.reduceSub,Nat.reduceLT,Nat.reduceEqDiff,Nat.reduceLeDiff,Int.reduceToNat,reduceCtorEq,Int.reduceLT,Int.reduceLE,Int.reduceAdd,Int.reduceSub,Int.reduceMul,Int.reduceNeg,Int.reduceEq]
 ·have h1i:¬ (i:Int)<(ys.length:Int):=by omega
  simp(disch:=first|omega|(apply id;simp only[push_cast];first|done|omega))only[push_cast,Nat.reduceAdd,Nat.reduceMul,Nat.reduceSub,Nat.reduceLT,Nat.reduceEqDiff,Nat.reduceLeDiff,Int.reduceToNat,reduceCtorEq,Int.reduceLT,Int.reduceLE,Int.reduceAdd,Int.reduceSub,Int.reduceMul,Int.reduceNeg,Int.reduceEq,h1i]
  refine CallE.to (deliverW_p G a4 ok (by omega) raw) ?_
  rintro _ h5 ⟨rfl,p5⟩
  have ok5:=deliver_ok ok raw
  have rg5:=deliver_rg rg raw
  generalize hD:deliverW w raw=D at *
  obtain ⟨⟨⟨nm,ky,vl⟩,is⟩,w'⟩:=D
  unfold evC
  dsimp only at p5 ok5 rg5 ⊢
  have lo5:=g_lon p5.gr lo4
  have g6:=λ(x y:AObj)=>((Gr.refl h5).add' x).put' h5.next y (Nat.le_refl _)
  simp(disch:=first|omega|(apply id;simp only[push_cast];first|done|omega))only[push_cast,Nat.reduceAdd,Nat.reduceMul,Nat.reduceSub,Nat.reduceLT,Nat.reduceEqDiff,Nat.reduceLeDiff,Int.reduceToNat,reduceCtorEq,Int.reduceLT,Int.reduceLE,Int.reduceAdd,Int.reduceSub,Int.reduceMul,Int.reduceNeg,Int.reduceEq,lo5]
  refine CallE.to (deliverX_p G (p5.at_.grew (g6 _ _) λ_ _ _ h=>h) ok (by omega) hol raw) ?_
  rintro _ h7 ⟨rfl,p7⟩
  rw[hD] at p7 ⊢
  unfold evC
  dsimp only at p7 ⊢
  have lo7:h7.lo≤h7.next:=g_lon p7.gr (by rw[lo_put,lo_add,next_put,next_add];omega)
  have g8:=λ(x y:AObj)=>((Gr.refl h7).add' x).put' h7.next y (Nat.le_refl _)
  simp(disch:=first|omega|(apply id;simp only[push_cast];first|done|omega))only[push_cast,Nat.reduceAdd,Nat.reduceMul,Nat.reduceSub,Nat.reduceLT,Nat.reduceEqDiff,Nat.reduceLeDiff,Int.reduceToNat,reduceCtorEq,Int.reduceLT,Int.reduceLE,Int.reduceAdd,Int.reduceSub,Int.reduceMul,Int.reduceNeg,Int.reduceEq,lo7,beq_self_eq_true]
  refine CallE.to (dropW_p G (p7.at_.grew (g8 _ _) λ_ _ _ h=>h) ok5 (by omega) raw) ?_
  rintro _ h9 ⟨rfl,p9⟩
  simp(disch:=first|omega|(apply id;simp only[push_cast];first|done|omega))only[push_cast,Nat.reduceAdd,Nat.reduceMul,Nat.reduceSub,Nat.reduceLT,Nat.reduceEqDiff,Nat.reduceLeDiff,Int.reduceToNat,reduceCtorEq,Int.reduceLT,Int.reduceLE,Int.reduceAdd,Int.reduceSub,Int.reduceMul,Int.reduceNeg,Int.reduceEq]
  refine CallE.to (dropX_p G p9.at_ ok5 (by omega) raw) ?_
  rintro _ h10 ⟨rfl,p10⟩
  have okd:=drop_ok ok5 raw
  have rgd:=drop_rg rg5 raw
  simp(disch:=first|omega|(apply id;simp only[push_cast];first|done|omega))only[push_cast,Nat.reduceAdd,Nat.reduceMul,Nat.reduceSub,Nat.reduceLT,Nat.reduceEqDiff,Nat.reduceLeDiff,Int.reduceToNat,reduceCtorEq,Int.reduceLT,Int.reduceLE,Int.reduceAdd,Int.reduceSub,Int.reduceMul,Int.reduceNeg,Int.reduceEq,beq_self_eq_true]
  refine CallE.to (twiceW_p G p10.at_ okd (by omega) raw) ?_
  rintro _ h11 ⟨rfl,p11⟩
  simp(disch:=first|omega|(apply id;simp only[push_cast];first|done|omega))only[push_cast,Nat.reduceAdd,Nat.reduceMul,Nat.reduceSub,Nat.reduceLT,Nat.reduceEqDiff,Nat.reduceLeDiff,Int.reduceToNat,reduceCtorEq,Int.reduceLT,Int.reduceLE,Int.reduceAdd,Int.reduceSub,Int.reduceMul,Int.reduceNeg,Int.reduceEq]
  refine CallE.to (twiceX_p G p11.at_ okd (by omega) raw) ?_
  rintro _ h12 ⟨rfl,p12⟩
  have okt:=twice_ok okd raw
  have rgt:=twice_rg rgd raw
  simp(disch:=first|omega|(apply id;simp only[push_cast];first|done|omega))only[push_cast,Nat.reduceAdd,Nat.reduceMul,Nat.reduceSub,Nat.reduceLT,Nat.reduceEqDiff,Nat.reduceLeDiff,Int.reduceToNat,reduceCtorEq,Int.reduceLT,Int.reduceLE,Int.reduceAdd,Int.reduceSub,Int.reduceMul,Int.reduceNeg,Int.reduceEq,beq_self_eq_true]
  refine CallE.to (same_p G p12.at_ okt (by omega) (rg_len okt rgt)) ?_
  rintro _ h13 ⟨rfl,_⟩
  simp(disch:=first|omega|(apply id;simp only[push_cast];first|done|omega))only[push_cast,Nat.reduceAdd,Nat.reduceMul,Nat.reduceSub,Nat.reduceLT,Nat.reduceEqDiff,Nat.reduceLeDiff,Int.reduceToNat,reduceCtorEq,Int.reduceLT,Int.reduceLE,Int.reduceAdd,Int.reduceSub,Int.reduceMul,Int.reduceNeg,Int.reduceEq]
end
end Go.Proofs.Ytejgmoenmbjidaa
