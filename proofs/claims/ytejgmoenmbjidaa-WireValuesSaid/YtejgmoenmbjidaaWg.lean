/-
  A part of the proof: what the program's functions hand back,as theorems. No condition but those that each theorem names.
-/
import Derived.Test.YtejgmoenmbjidaaWf
import Derived.Test.YtejgmoenmbjidaaWd
import Derived.Test.YtejgmoenmbjidaaEvc
import Derived.ChangeMaps5
import Derived.Test.YtejgmoenmbjidaaRows
import Derived.ProofKit
import Derived.OpenShut
import Derived.Carry
import Derived.SizedLaws
set_option linter.unusedSimpArgs false
set_option linter.unusedVariables false
namespace Go.Proofs.Ytejgmoenmbjidaa
open _root_.Go.Proofs.Try (prog)
open Go.RowKit Go.Ev
set_option maxRecDepth 100000
noncomputable section
def F15 (x0 x1 x2 x3 x4 x5 x6 x7 x8 x9 xA xB xC xD xE:Value):VT:=⟨15,(.node (.node (.node (.node .nil x7 .nil) x3 (.node .nil xB .nil)) x1 (.node (.node .nil x9 .nil) x5 (.node .nil xD .nil))) x0 (.node (.node (.node .nil x8 .nil) x4 (.node .nil xC .nil)) x2 (.node (.node .nil xA .nil) x6 (.node .nil xE .nil))))⟩
theorem F15_arr (x0 x1 x2 x3 x4 x5 x6 x7 x8 x9 xA xB xC xD xE:Value):(F15 x0 x1 x2 x3 x4 x5 x6 x7 x8 x9 xA xB xC xD xE).arr=⟨[x0,x1,x2,x3,x4,x5,x6,x7,x8,x9,xA,xB,xC,xD,xE]⟩:=by kernel_rfl
def F56 (x0 x1 x2 x3 x4 x5 x6 x7 x8 x9 xA xB xC xD xE xF xG xH xI xJ xK xL xM xN xO xP xQ xR xS xT xU xV xW xX xY xZ yA yB yC yD yE yF yG yH yI yJ yK yL yM yN yO yP yQ yR yS yT:Value):VT:=⟨56,(.node (.node (.node (.node (.node (.node .nil xV .nil) xF (.node .nil yL .nil)) x7 (.node (.node .nil yD .nil) xN (.node .nil yT .nil))) x3 (.node (.node (.node .nil xZ .nil) xJ (.node .nil yP .nil)) xB (.node (.node .nil yH .nil) xR .nil))) x1 (.node (.node (.node (.node .nil xX .nil) xH (.node .nil yN .nil)) x9 (.node (.node .nil yF .nil) xP .nil)) x5 (.node (.node (.node .nil yB .nil) xL (.node .nil yR .nil)) xD (.node (.node .nil yJ .nil) xT .nil)))) x0 (.node (.node (.node (.node (.node .nil xW .nil) xG (.node .nil yM .nil)) x8 (.node (.node .nil yE .nil) xO .nil)) x4 (.node (.node (.node .nil yA .nil) xK (.node .nil yQ .nil)) xC (.node (.node .nil yI .nil) xS .nil))) x2 (.node (.node (.node (.node .nil xY .nil) xI (.node .nil yO .nil)) xA (.node (.node .nil yG .nil) xQ .nil)) x6 (.node (.node (.node .nil yC .nil) xM (.node .nil yS .nil)) xE (.node (.node .nil yK .nil) xU .nil)))))⟩
theorem F56_arr (x0 x1 x2 x3 x4 x5 x6 x7 x8 x9 xA xB xC xD xE xF xG xH xI xJ xK xL xM xN xO xP xQ xR xS xT xU xV xW xX xY xZ yA yB yC yD yE yF yG yH yI yJ yK yL yM yN yO yP yQ yR yS yT:Value):(F56 x0 x1 x2 x3 x4 x5 x6 x7 x8 x9 xA xB xC xD xE xF xG xH xI xJ xK xL xM xN xO xP xQ xR xS xT xU xV xW xX xY xZ yA yB yC yD yE yF yG yH yI yJ yK yL yM yN yO yP yQ yR yS yT).arr=⟨[x0,x1,x2,x3,x4,x5,x6,x7,x8,x9,xA,xB,xC,xD,xE,xF,xG,xH,xI,xJ,xK,xL,xM,xN,xO,xP,xQ,xR,xS,xT,xU,xV,xW,xX,xY,xZ,yA,yB,yC,yD,yE,yF,yG,yH,yI,yJ,yK,yL,yM,yN,yO,yP,yQ,yR,yS,yT]⟩:=by kernel_rfl
def F76 (x0 x1 x2 x3 x4 x5 x6 x7 x8 x9 xA xB xC xD xE xF xG xH xI xJ xK xL xM xN xO xP xQ xR xS xT xU xV xW xX xY xZ yA yB yC yD yE yF yG yH yI yJ yK yL yM yN yO yP yQ yR yS yT yU yV yW yX yY yZ zA zB zC zD zE zF zG zH zI zJ zK zL zM zN:Value):VT:=⟨76,(.node (.node (.node (.node (.node (.node (.node .nil zB .nil) xV .nil) xF (.node .nil yL .nil)) x7 (.node (.node (.node .nil zJ .nil) yD .nil) xN (.node .nil yT .nil))) x3 (.node (.node (.node (.node .nil zF .nil) xZ .nil) xJ (.node .nil yP .nil)) xB (.node (.node (.node .nil zN .nil) yH .nil) xR (.node .nil yX .nil)))) x1 (.node (.node (.node (.node (.node .nil zD .nil) xX .nil) xH (.node .nil yN .nil)) x9 (.node (.node (.node .nil zL .nil) yF .nil) xP (.node .nil yV .nil))) x5 (.node (.node (.node (.node .nil zH .nil) yB .nil) xL (.node .nil yR .nil)) xD (.node (.node .nil yJ .nil) xT (.node .nil yZ .nil))))) x0 (.node (.node (.node (.node (.node (.node .nil zC .nil) xW .nil) xG (.node .nil yM .nil)) x8 (.node (.node (.node .nil zK .nil) yE .nil) xO (.node .nil yU .nil))) x4 (.node (.node (.node (.node .nil zG .nil) yA .nil) xK (.node .nil yQ .nil)) xC (.node (.node .nil yI .nil) xS (.node .nil yY .nil)))) x2 (.node (.node (.node (.node (.node .nil zE .nil) xY .nil) xI (.node .nil yO .nil)) xA (.node (.node (.node .nil zM .nil) yG .nil) xQ (.node .nil yW .nil))) x6 (.node (.node (.node (.node .nil zI .nil) yC .nil) xM (.node .nil yS .nil)) xE (.node (.node .nil yK .nil) xU (.node .nil zA .nil))))))⟩
theorem F76_arr (x0 x1 x2 x3 x4 x5 x6 x7 x8 x9 xA xB xC xD xE xF xG xH xI xJ xK xL xM xN xO xP xQ xR xS xT xU xV xW xX xY xZ yA yB yC yD yE yF yG yH yI yJ yK yL yM yN yO yP yQ yR yS yT yU yV yW yX yY yZ zA zB zC zD zE zF zG zH zI zJ zK zL zM zN:Value):(F76 x0 x1 x2 x3 x4 x5 x6 x7 x8 x9 xA xB xC xD xE xF xG xH xI xJ xK xL xM xN xO xP xQ xR xS xT xU xV xW xX xY xZ yA yB yC yD yE yF yG yH yI yJ yK yL yM yN yO yP yQ yR yS yT yU yV yW yX yY yZ zA zB zC zD zE zF zG zH zI zJ zK zL zM zN).arr=⟨[x0,x1,x2,x3,x4,x5,x6,x7,x8,x9,xA,xB,xC,xD,xE,xF,xG,xH,xI,xJ,xK,xL,xM,xN,xO,xP,xQ,xR,xS,xT,xU,xV,xW,xX,xY,xZ,yA,yB,yC,yD,yE,yF,yG,yH,yI,yJ,yK,yL,yM,yN,yO,yP,yQ,yR,yS,yT,yU,yV,yW,yX,yY,yZ,zA,zB,zC,zD,zE,zF,zG,zH,zI,zJ,zK,zL,zM,zN]⟩:=by kernel_rfl
theorem F15_g4 (x0 x1 x2 x3 x4 x5 x6 x7 x8 x9 xA xB xC xD xE:Value):(F15 x0 x1 x2 x3 x4 x5 x6 x7 x8 x9 xA xB xC xD xE).get 4=x4:=by kernel_rfl
attribute [push_cast] F15_g4
theorem F56_g0 (x0 x1 x2 x3 x4 x5 x6 x7 x8 x9 xA xB xC xD xE xF xG xH xI xJ xK xL xM xN xO xP xQ xR xS xT xU xV xW xX xY xZ yA yB yC yD yE yF yG yH yI yJ yK yL yM yN yO yP yQ yR yS yT:Value):(F56 x0 x1 x2 x3 x4 x5 x6 x7 x8 x9 xA xB xC xD xE xF xG xH xI xJ xK xL xM xN xO xP xQ xR xS xT xU xV xW xX xY xZ yA yB yC yD yE yF yG yH yI yJ yK yL yM yN yO yP yQ yR yS yT).get 0=x0:=by kernel_rfl
attribute [push_cast] F56_g0
theorem F76_g4 (x0 x1 x2 x3 x4 x5 x6 x7 x8 x9 xA xB xC xD xE xF xG xH xI xJ xK xL xM xN xO xP xQ xR xS xT xU xV xW xX xY xZ yA yB yC yD yE yF yG yH yI yJ yK yL yM yN yO yP yQ yR yS yT yU yV yW yX yY yZ zA zB zC zD zE zF zG zH zI zJ zK zL zM zN:Value):(F76 x0 x1 x2 x3 x4 x5 x6 x7 x8 x9 xA xB xC xD xE xF xG xH xI xJ xK xL xM xN xO xP xQ xR xS xT xU xV xW xX xY xZ yA yB yC yD yE yF yG yH yI yJ yK yL yM yN yO yP yQ yR yS yT yU yV yW yX yY yZ zA zB zC zD zE zF zG zH zI zJ zK zL zM zN).get 4=x4:=by kernel_rfl
attribute [push_cast] F76_g4
noncomputable def ir7_s0:IR:=(.seq (.seq (.ops [⟨some 22,none,.take,(.move (.tmp 7)),3⟩,⟨some 23,none,.take,(.move (.tmp 6)),3⟩,⟨some 24,none,.take,(.binOp .lss 3 (.tmp 22) (.tmp 23) 3),4⟩]) (.cond (.tmp 24) .skip (.exit 0))) (.seq (.block 1 (.seq (.ops [⟨some 27,none,.take,(.move (.tmp 5)),24⟩,⟨some 28,none,.take,(.move (.tmp 7)),3⟩,⟨some 29,none,.take,(.build 31 #[(0,(.const (.string (Tx [112,97,121])))),(1,(.tmp 28)),(2,(.const (.int .i64 77)))]),31⟩,⟨some 30,none,.call,(.call ⟨(.value (.func 24)),#[(.tmp 27),(.tmp 29)],#[24,31]⟩),0⟩]) (.seq (.ops [⟨some 31,none,.take,(.move (.tmp 5)),24⟩,⟨some 32,none,.call,(.call ⟨(.value (.func 15)),#[(.tmp 31),(.const (.int .i64 0))],#[24,3]⟩),32⟩]) (.seq (.ops [⟨some 34,none,.take,(.move (.tmp 5)),24⟩,⟨some 35,none,.call,(.call ⟨(.value (.func 15)),#[(.tmp 34),(.const (.int .i64 0))],#[24,3]⟩),32⟩,⟨some 33,none,.take,(.move (.tmp 35)),32⟩,⟨some 36,none,.take,(.extract (.tmp 33) 0),31⟩,⟨some 37,none,.take,(.extract (.tmp 33) 1),4⟩,⟨some 8,none,.eff,(.alloc 31),0⟩,⟨none,none,.eff,(.store 31 (.tmp 8) (.tmp 36)),0⟩,⟨some 9,none,.take,(.assign (.tmp 37)),4⟩]) (.seq (.ops [⟨some 10,none,.take,(.assign (.const (.int .i64 0))),3⟩]) (.seq (.seq (.ops [⟨some 38,none,.take,(.move (.tmp 7)),3⟩,⟨some 39,none,.take,(.move (.tmp 0)),22⟩,⟨some 40,none,.take,(.call ⟨(.builtin .len),#[(.tmp 39)],#[22]⟩),3⟩,⟨some 41,none,.take,(.binOp .lss 3 (.tmp 38) (.tmp 40) 3),4⟩]) (.cond (.tmp 41) (.ops [⟨some 42,none,.take,(.move (.tmp 0)),22⟩,⟨some 43,none,.take,(.move (.tmp 7)),3⟩,⟨some 44,none,.take,(.indexAddr 22 (.tmp 42) (.tmp 43)),0⟩,⟨some 45,none,.take,(.load 3 (.tmp 44)),3⟩,⟨some 10,none,.take,(.assign (.tmp 45)),3⟩]) .skip)) (.seq (.ops [⟨some 46,none,.take,(.move (.tmp 9)),4⟩,⟨some 47,none,.take,(.unOp .not 4 (.tmp 46)),4⟩,⟨some 48,none,.take,(.move (.tmp 47)),4⟩,⟨some 49,(some (48,false)),.take,(.fieldAddr 31 (.tmp 8) 1),0⟩,⟨some 50,(some (48,false)),.take,(.load 3 (.tmp 49)),3⟩,⟨some 51,(some (48,false)),.take,(.move (.tmp 7)),3⟩,⟨some 52,(some (48,false)),.take,(.binOp .neq 3 (.tmp 50) (.tmp 51) 3),4⟩,⟨some 53,none,.take,(.pick (.tmp 48) (.const (.bool true)) (.tmp 52)),4⟩,⟨some 54,none,.take,(.move (.tmp 53)),4⟩,⟨some 55,(some (54,false)),.take,(.fieldAddr 31 (.tmp 8) 2),0⟩,⟨some 56,(some (54,false)),.take,(.load 3 (.tmp 55)),3⟩,⟨some 57,(some (54,false)),.take,(.move (.tmp 10)),3⟩,⟨some 58,(some (54,false)),.take,(.binOp .neq 3 (.tmp 56) (.tmp 57) 3),4⟩,⟨some 59,none,.take,(.pick (.tmp 54) (.const (.bool true)) (.tmp 58)),4⟩,⟨some 60,none,.take,(.move (.tmp 59)),4⟩,⟨some 61,(some (60,false)),.take,(.fieldAddr 31 (.tmp 8) 0),0⟩,⟨some 62,(some (60,false)),.take,(.load 9 (.tmp 61)),9⟩,⟨some 63,(some (60,false)),.take,(.binOp .neq 9 (.tmp 62) (.const (.string (Tx [112,97,121]))) 9),4⟩,⟨some 64,none,.take,(.pick (.tmp 60) (.const (.bool true)) (.tmp 63)),4⟩]) (.cond (.tmp 64) (.seq (.ops [⟨some 4,none,.take,(.assign (.const (.bool false))),4⟩]) .ret) .skip)))))))) (.ops [⟨some 25,none,.take,(.move (.tmp 7)),3⟩,⟨some 26,none,.take,(.binOp .add 3 (.tmp 25) (.const (.int .i64 1)) 3),3⟩,⟨some 7,none,.take,(.assign (.tmp 26)),3⟩])))
noncomputable def ir7_s1:IR:=(.seq (.ops [⟨some 65,none,.take,(.move (.tmp 5)),24⟩,⟨some 66,none,.call,(.call ⟨(.value (.func 23)),#[(.tmp 65)],#[24]⟩),39⟩,⟨some 67,none,.take,(.call ⟨(.builtin .len),#[(.tmp 66)],#[39]⟩),3⟩,⟨some 68,none,.take,(.move (.tmp 6)),3⟩,⟨some 69,none,.take,(.binOp .eql 3 (.tmp 67) (.tmp 68) 3),4⟩,⟨some 70,none,.take,(.move (.tmp 69)),4⟩,⟨some 71,(some (70,true)),.take,(.move (.tmp 5)),24⟩,⟨some 72,(some (70,true)),.call,(.call ⟨(.value (.func 21)),#[(.tmp 71)],#[24]⟩),36⟩,⟨some 73,(some (70,true)),.take,(.call ⟨(.builtin .len),#[(.tmp 72)],#[36]⟩),3⟩,⟨some 74,(some (70,true)),.take,(.binOp .eql 3 (.tmp 73) (.const (.int .i64 0)) 3),4⟩,⟨some 75,none,.take,(.pick (.tmp 70) (.tmp 74) (.const (.bool false))),4⟩,⟨some 4,none,.take,(.assign (.tmp 75)),4⟩]) .ret)
noncomputable def ir7_s2:IR:=(.seq (.ops [⟨some 46,none,.take,(.move (.tmp 9)),4⟩,⟨some 47,none,.take,(.unOp .not 4 (.tmp 46)),4⟩,⟨some 48,none,.take,(.move (.tmp 47)),4⟩,⟨some 49,(some (48,false)),.take,(.fieldAddr 31 (.tmp 8) 1),0⟩,⟨some 50,(some (48,false)),.take,(.load 3 (.tmp 49)),3⟩,⟨some 51,(some (48,false)),.take,(.move (.tmp 7)),3⟩,⟨some 52,(some (48,false)),.take,(.binOp .neq 3 (.tmp 50) (.tmp 51) 3),4⟩,⟨some 53,none,.take,(.pick (.tmp 48) (.const (.bool true)) (.tmp 52)),4⟩,⟨some 54,none,.take,(.move (.tmp 53)),4⟩,⟨some 55,(some (54,false)),.take,(.fieldAddr 31 (.tmp 8) 2),0⟩,⟨some 56,(some (54,false)),.take,(.load 3 (.tmp 55)),3⟩,⟨some 57,(some (54,false)),.take,(.move (.tmp 10)),3⟩,⟨some 58,(some (54,false)),.take,(.binOp .neq 3 (.tmp 56) (.tmp 57) 3),4⟩,⟨some 59,none,.take,(.pick (.tmp 54) (.const (.bool true)) (.tmp 58)),4⟩,⟨some 60,none,.take,(.move (.tmp 59)),4⟩,⟨some 61,(some (60,false)),.take,(.fieldAddr 31 (.tmp 8) 0),0⟩,⟨some 62,(some (60,false)),.take,(.load 9 (.tmp 61)),9⟩,⟨some 63,(some (60,false)),.take,(.binOp .neq 9 (.tmp 62) (.const (.string (Tx [112,97,121]))) 9),4⟩,⟨some 64,none,.take,(.pick (.tmp 60) (.const (.bool true)) (.tmp 63)),4⟩]) (.cond (.tmp 64) (.seq (.ops [⟨some 4,none,.take,(.assign (.const (.bool false))),4⟩]) .ret) .skip))
noncomputable def ir7_s3:IR:=(.ops [⟨some 25,none,.take,(.move (.tmp 7)),3⟩,⟨some 26,none,.take,(.binOp .add 3 (.tmp 25) (.const (.int .i64 1)) 3),3⟩,⟨some 7,none,.take,(.assign (.tmp 26)),3⟩])
theorem sh_ir7 (G:Nat)(h:Heap)(a0 a1:Value)(R:Value→Heap→Prop):vc3 (pp G) none ir7 ⟨(F76 a0 a1 undef undef undef undef undef undef undef undef undef undef undef undef undef undef undef undef undef undef undef undef undef undef undef undef undef undef undef undef undef undef undef undef undef undef undef undef undef undef undef undef undef undef undef undef undef undef undef undef undef undef undef undef undef undef undef undef undef undef undef undef undef undef undef undef undef undef undef undef undef undef undef undef undef undef),[],h⟩ (finR prog [(.tmp 4)] R)=(oT (some (.bool false)) none h (@kk ⟨λv1 h2=>CallV (pp G) (.func (.func 10) #[] #[]) [] h2 (@kk ⟨λv3 h4=>oT (unV prog .not v3) none h4 (@kk ⟨λv5 h6=>vcond v5 (@kb ⟨oT (some (.bool false)) none h6 (@kk ⟨λv7 h8=>R v7 h8⟩)⟩) (@kb ⟨oT (some a0) none h6 (@kk ⟨λv9 h10=>oT (lnB (lnT prog 22) v9) none h10 (@kk ⟨λv11 h12=>oT (binPure prog .gtr 3 (.tmp 14) (.const (.int .i64 60)) v11 (.int .i64 60)) none h12 (@kk ⟨λv13 h14=>vcond v13 (@kb ⟨oT (some (.bool true)) none h14 (@kk ⟨λv15 h16=>R v15 h16⟩)⟩) (@kb ⟨oT (some a0) none h14 (@kk ⟨λv17 h18=>CallV (pp G) (.func (.func 11) #[] #[]) [v17] h18 (@kk ⟨λv19 h20=>oT (some v19) none h20 (@kk ⟨λv21 h22=>oT (some v21) none h22 (@kk ⟨λv23 h24=>oT (binPure prog .eql 24 (.tmp 18) (.const (.pointer none)) v23 (.pointer none)) none h24 (@kk ⟨λv25 h26=>vcond v25 (@kb ⟨oT (some (.bool false)) none h26 (@kk ⟨λv27 h28=>R v27 h28⟩)⟩) (@kb ⟨oT (some a1) none h26 (@kk ⟨λv29 h30=>CallV (pp G) (.func (.func 22) #[] #[]) [v29,(.int .i64 30)] h30 (@kk ⟨λv31 h32=>oT (some v31) none h32 (@kk ⟨λv33 h34=>oT (some (.int .i64 0)) none h34 (@kk ⟨λv35 h36=>W (pp G) none (.loop ir7_s0) ⟨(F76 a0 a1 undef undef v1 v21 v33 v35 undef undef undef v3 v5 v9 v11 v13 v17 v19 v23 v25 v29 v31 undef undef undef undef undef undef undef undef undef undef undef undef undef undef undef undef undef undef undef undef undef undef undef undef undef undef undef undef undef undef undef undef undef undef undef undef undef undef undef undef undef undef undef undef undef undef undef undef undef undef undef undef undef undef),[],h36⟩ (@kR ⟨outR3 0 (thenR3 (λs1=>vc3 (pp G) none ir7_s1 s1 (@kR ⟨finR prog [(.tmp 4)] R⟩)) (finR prog [(.tmp 4)] R))⟩)⟩)⟩)⟩)⟩)⟩)⟩)⟩)⟩)⟩)⟩)⟩)⟩)⟩)⟩)⟩)⟩)⟩)⟩)):=by kernel_rfl
theorem sh_ir10 (G:Nat)(h:Heap)(R:Value→Heap→Prop):vc3 (pp G) none ir10 ⟨(F56 undef undef undef undef undef undef undef undef undef undef undef undef undef undef undef undef undef undef undef undef undef undef undef undef undef undef undef undef undef undef undef undef undef undef undef undef undef undef undef undef undef undef undef undef undef undef undef undef undef undef undef undef undef undef undef undef),[],h⟩ (finR prog [(.tmp 0)] R)=(oT (some (.bool false)) none h (@kk ⟨λv1 h2=>oE (bsE (slT prog 22) 1 [(0,(.int .i64 7))] h2) (@kk ⟨λv3 h4=>CallV (pp G) (.func (.func 11) #[] #[]) [v3] h4 (@kk ⟨λv5 h6=>oT (some v5) none h6 (@kk ⟨λv7 h8=>oT (some v7) none h8 (@kk ⟨λv9 h10=>oT (binPure prog .eql 24 (.tmp 8) (.const (.pointer none)) v9 (.pointer none)) none h10 (@kk ⟨λv11 h12=>oT (some v11) none h12 (@kk ⟨λv13 h14=>gT v13 false (some v7) none h14 (@kk ⟨λv15 h16=>gC (pp G) v13 false (.func (.func 21) #[] #[]) [v15] h16 (@kk ⟨λv17 h18=>gT v13 false (lnB (lnT prog 36) v17) none h18 (@kk ⟨λv19 h20=>gT v13 false (binPure prog .neq 3 (.tmp 13) (.const (.int .i64 0)) v19 (.int .i64 0)) none h20 (@kk ⟨λv21 h22=>oT (pickV v13 (.bool true) v21) none h22 (@kk ⟨λv23 h24=>vcond v23 (@kb ⟨oT (some (.bool false)) none h24 (@kk ⟨λv25 h26=>R v25 h26⟩)⟩) (@kb ⟨oT (some v7) none h24 (@kk ⟨λv27 h28=>oT (bdV (plc prog 31) [(0,(.string (Tx [112,97,121]))),(1,(.int .i64 3))]) none h28 (@kk ⟨λv29 h30=>CallV (pp G) (.func (.func 24) #[] #[]) [v27,v29] h30 (@kk ⟨λv31 h32=>oT (some v7) none h32 (@kk ⟨λv33 h34=>CallV (pp G) (.func (.func 15) #[] #[]) [v33,(.int .i64 0)] h34 (@kk ⟨λv35 h36=>oT (some v35) none h36 (@kk ⟨λv37 h38=>oT (extV v37 0) none h38 (@kk ⟨λv39 h40=>oT (extV v37 1) none h40 (@kk ⟨λv41 h42=>oE (alE (zro prog 31) 31 h42) (@kk ⟨λv43 h44=>oE (stE (szT prog 31) v43 v39 h44) (@kk ⟨λv45 h46=>oT (some v41) none h46 (@kk ⟨λv47 h48=>oT (some v7) none h48 (@kk ⟨λv49 h50=>CallV (pp G) (.func (.func 15) #[] #[]) [v49,(.int .i64 0)] h50 (@kk ⟨λv51 h52=>oT (some v51) none h52 (@kk ⟨λv53 h54=>oT (extV v53 0) none h54 (@kk ⟨λv55 h56=>oT (extV v53 1) none h56 (@kk ⟨λv57 h58=>oE (alE (zro prog 31) 31 h58) (@kk ⟨λv59 h60=>oE (stE (szT prog 31) v59 v55 h60) (@kk ⟨λv61 h62=>oT (some v57) none h62 (@kk ⟨λv63 h64=>oT (some v47) none h64 (@kk ⟨λv65 h66=>oT (unV prog .not v65) none h66 (@kk ⟨λv67 h68=>oT (some v67) none h68 (@kk ⟨λv69 h70=>gT v69 true (some v63) none h70 (@kk ⟨λv71 h72=>oT (pickV v69 v71 (.bool false)) none h72 (@kk ⟨λv73 h74=>oT (some v73) none h74 (@kk ⟨λv75 h76=>gT v75 true (faV (fld prog 31 2) v59) none h76 (@kk ⟨λv77 h78=>gT v75 true (evLoad prog 3 v77 h78) none h78 (@kk ⟨λv79 h80=>gT v75 true (binPure prog .eql 3 (.tmp 36) (.const (.int .i64 7)) v79 (.int .i64 7)) none h80 (@kk ⟨λv81 h82=>oT (pickV v75 v81 (.bool false)) none h82 (@kk ⟨λv83 h84=>oT (some v83) none h84 (@kk ⟨λv85 h86=>gT v85 true (faV (fld prog 31 1) v59) none h86 (@kk ⟨λv87 h88=>gT v85 true (evLoad prog 3 v87 h88) none h88 (@kk ⟨λv89 h90=>gT v85 true (binPure prog .eql 3 (.tmp 41) (.const (.int .i64 3)) v89 (.int .i64 3)) none h90 (@kk ⟨λv91 h92=>oT (pickV v85 v91 (.bool false)) none h92 (@kk ⟨λv93 h94=>oT (some v93) none h94 (@kk ⟨λv95 h96=>gT v95 true (some v7) none h96 (@kk ⟨λv97 h98=>gC (pp G) v95 true (.func (.func 23) #[] #[]) [v97] h98 (@kk ⟨λv99 h100=>gT v95 true (lnB (lnT prog 39) v99) none h100 (@kk ⟨λv101 h102=>gT v95 true (binPure prog .eql 3 (.tmp 47) (.const (.int .i64 1)) v101 (.int .i64 1)) none h102 (@kk ⟨λv103 h104=>oT (pickV v95 v103 (.bool false)) none h104 (@kk ⟨λv105 h106=>oT (some v105) none h106 (@kk ⟨λv107 h108=>gT v107 true (some v7) none h108 (@kk ⟨λv109 h110=>gC (pp G) v107 true (.func (.func 27) #[] #[]) [v109] h110 (@kk ⟨λv111 h112=>gT v107 true (lnB (lnT prog 22) v111) none h112 (@kk ⟨λv113 h114=>gT v107 true (binPure prog .eql 3 (.tmp 53) (.const (.int .i64 0)) v113 (.int .i64 0)) none h114 (@kk ⟨λv115 h116=>oT (pickV v107 v115 (.bool false)) none h116 (@kk ⟨λv117 h118=>oT (some v117) none h118 (@kk ⟨λv119 h120=>R v119 h120⟩)⟩)⟩)⟩)⟩)⟩)⟩)⟩)⟩)⟩)⟩)⟩)⟩)⟩)⟩)⟩)⟩)⟩)⟩)⟩)⟩)⟩)⟩)⟩)⟩)⟩)⟩)⟩)⟩)⟩)⟩)⟩)⟩)⟩)⟩)⟩)⟩)⟩)⟩)⟩)⟩)⟩)⟩)⟩)⟩)⟩)⟩)⟩)⟩)⟩)⟩)⟩)⟩)⟩)⟩)⟩)⟩)⟩)⟩)⟩)):=by kernel_rfl
theorem sh_ir22 (G:Nat)(h:Heap)(a0 a1:Value)(R:Value→Heap→Prop):vc3 (pp G) none ir22 ⟨(F15 a0 a1 undef undef undef undef undef undef undef undef undef undef undef undef undef),[],h⟩ (finR prog [(.tmp 4)] R)=(oT (some (.int .i64 0)) none h (@kk ⟨λv1 h2=>oT (some a0) none h2 (@kk ⟨λv3 h4=>oT (some a1) none h4 (@kk ⟨λv5 h6=>oT (binPure prog .rem 3 (.tmp 6) (.tmp 7) v3 v5) none h6 (@kk ⟨λv7 h8=>oT (some v7) none h8 (@kk ⟨λv9 h10=>oT (some v9) none h10 (@kk ⟨λv11 h12=>oT (binPure prog .lss 3 (.tmp 9) (.const (.int .i64 0)) v11 (.int .i64 0)) none h12 (@kk ⟨λv13 h14=>vcond v13 (@kb ⟨oT (some v9) none h14 (@kk ⟨λv15 h16=>oT (some a1) none h16 (@kk ⟨λv17 h18=>oT (binPure prog .add 3 (.tmp 11) (.tmp 12) v15 v17) none h18 (@kk ⟨λv19 h20=>oT (some v19) none h20 (@kk ⟨λv21 h22=>oT (some v21) none h22 (@kk ⟨λv23 h24=>oT (some v23) none h24 (@kk ⟨λv25 h26=>R v25 h26⟩)⟩)⟩)⟩)⟩)⟩)⟩) (@kb ⟨oT (some v9) none h14 (@kk ⟨λv27 h28=>oT (some v27) none h28 (@kk ⟨λv29 h30=>R v29 h30⟩)⟩)⟩)⟩)⟩)⟩)⟩)⟩)⟩)⟩)):=by kernel_rfl
theorem sh_ir7_s0 (G:Nat)(ro:Option Nat)(df:List Nat)(h:Heap)(x0 x1 x2 x3 x4 x5 x6 x7 x8 x9 xA xB xC xD xE xF xG xH xI xJ xK xL xM xN xO xP xQ xR xS xT xU xV xW xX xY xZ yA yB yC yD yE yF yG yH yI yJ yK yL yM yN yO yP yQ yR yS yT yU yV yW yX yY yZ zA zB zC zD zE zF zG zH zI zJ zK zL zM zN:Value)(R:XExit→S→Prop):vc3 (pp G) ro ir7_s0 ⟨(F76 x0 x1 x2 x3 x4 x5 x6 x7 x8 x9 xA xB xC xD xE xF xG xH xI xJ xK xL xM xN xO xP xQ xR xS xT xU xV xW xX xY xZ yA yB yC yD yE yF yG yH yI yJ yK yL yM yN yO yP yQ yR yS yT yU yV yW yX yY yZ zA zB zC zD zE zF zG zH zI zJ zK zL zM zN),df,h⟩ R=(oT (some x7) none h (@kk ⟨λv1 h2=>oT (some x6) none h2 (@kk ⟨λv3 h4=>oT (binPure prog .lss 3 (.tmp 22) (.tmp 23) v1 v3) none h4 (@kk ⟨λv5 h6=>vcond v5 (@kb ⟨oT (some x5) none h6 (@kk ⟨λv7 h8=>oT (some x7) none h8 (@kk ⟨λv9 h10=>oT (bdV (plc prog 31) [(0,(.string (Tx [112,97,121]))),(1,v9),(2,(.int .i64 77))]) none h10 (@kk ⟨λv11 h12=>CallV (pp G) (.func (.func 24) #[] #[]) [v7,v11] h12 (@kk ⟨λv13 h14=>oT (some x5) none h14 (@kk ⟨λv15 h16=>CallV (pp G) (.func (.func 15) #[] #[]) [v15,(.int .i64 0)] h16 (@kk ⟨λv17 h18=>oT (some x5) none h18 (@kk ⟨λv19 h20=>CallV (pp G) (.func (.func 15) #[] #[]) [v19,(.int .i64 0)] h20 (@kk ⟨λv21 h22=>oT (some v21) none h22 (@kk ⟨λv23 h24=>oT (extV v23 0) none h24 (@kk ⟨λv25 h26=>oT (extV v23 1) none h26 (@kk ⟨λv27 h28=>oE (alE (zro prog 31) 31 h28) (@kk ⟨λv29 h30=>oE (stE (szT prog 31) v29 v25 h30) (@kk ⟨λv31 h32=>oT (some v27) none h32 (@kk ⟨λv33 h34=>oT (some (.int .i64 0)) none h34 (@kk ⟨λv35 h36=>oT (some x7) none h36 (@kk ⟨λv37 h38=>oT (some x0) none h38 (@kk ⟨λv39 h40=>oT (lnB (lnT prog 22) v39) none h40 (@kk ⟨λv41 h42=>oT (binPure prog .lss 3 (.tmp 38) (.tmp 40) v37 v41) none h42 (@kk ⟨λv43 h44=>vcond v43 (@kb ⟨oT (some x0) none h44 (@kk ⟨λv45 h46=>oT (some x7) none h46 (@kk ⟨λv47 h48=>oT (iaV (esz prog 22) v45 v47) none h48 (@kk ⟨λv49 h50=>oT (evLoad prog 3 v49 h50) none h50 (@kk ⟨λv51 h52=>oT (some v51) none h52 (@kk ⟨λv53 h54=>vc3 (pp G) ro ir7_s2 ⟨(F76 x0 x1 x2 x3 x4 x5 x6 x7 v29 v33 v53 xB xC xD xE xF xG xH xI xJ xK xL v1 v3 v5 xP xQ v7 v9 v11 v13 v15 v17 v23 v19 v21 v25 v27 v37 v39 v41 v43 v45 v47 v49 v51 yK yL yM yN yO yP yQ yR yS yT yU yV yW yX yY yZ zA zB zC zD zE zF zG zH zI zJ zK zL zM zN),df,h54⟩ (@kR ⟨outR3 1 (thenR3 (λs1=>vc3 (pp G) ro ir7_s3 s1 (@kR ⟨R⟩)) R)⟩)⟩)⟩)⟩)⟩)⟩)⟩) (@kb ⟨vc3 (pp G) ro ir7_s2 ⟨(F76 x0 x1 x2 x3 x4 x5 x6 x7 v29 v33 v35 xB xC xD xE xF xG xH xI xJ xK xL v1 v3 v5 xP xQ v7 v9 v11 v13 v15 v17 v23 v19 v21 v25 v27 v37 v39 v41 v43 yG yH yI yJ yK yL yM yN yO yP yQ yR yS yT yU yV yW yX yY yZ zA zB zC zD zE zF zG zH zI zJ zK zL zM zN),df,h44⟩ (@kR ⟨outR3 1 (thenR3 (λs1=>vc3 (pp G) ro ir7_s3 s1 (@kR ⟨R⟩)) R)⟩)⟩)⟩)⟩)⟩)⟩)⟩)⟩)⟩)⟩)⟩)⟩)⟩)⟩)⟩)⟩)⟩)⟩)⟩)⟩)⟩)⟩) (@kb ⟨R (.exit 0) ⟨(F76 x0 x1 x2 x3 x4 x5 x6 x7 x8 x9 xA xB xC xD xE xF xG xH xI xJ xK xL v1 v3 v5 xP xQ xR xS xT xU xV xW xX xY xZ yA yB yC yD yE yF yG yH yI yJ yK yL yM yN yO yP yQ yR yS yT yU yV yW yX yY yZ zA zB zC zD zE zF zG zH zI zJ zK zL zM zN),df,h6⟩⟩)⟩)⟩)⟩)):=by kernel_rfl
attribute [push_cast] sh_ir7_s0
theorem sh_ir7_s1 (G:Nat)(ro:Option Nat)(df:List Nat)(h:Heap)(x0 x1 x2 x3 x4 x5 x6 x7 x8 x9 xA xB xC xD xE xF xG xH xI xJ xK xL xM xN xO xP xQ xR xS xT xU xV xW xX xY xZ yA yB yC yD yE yF yG yH yI yJ yK yL yM yN yO yP yQ yR yS yT yU yV yW yX yY yZ zA zB zC zD zE zF zG zH zI zJ zK zL zM zN:Value)(R:XExit→S→Prop):vc3 (pp G) ro ir7_s1 ⟨(F76 x0 x1 x2 x3 x4 x5 x6 x7 x8 x9 xA xB xC xD xE xF xG xH xI xJ xK xL xM xN xO xP xQ xR xS xT xU xV xW xX xY xZ yA yB yC yD yE yF yG yH yI yJ yK yL yM yN yO yP yQ yR yS yT yU yV yW yX yY yZ zA zB zC zD zE zF zG zH zI zJ zK zL zM zN),df,h⟩ R=(oT (some x5) none h (@kk ⟨λv1 h2=>CallV (pp G) (.func (.func 23) #[] #[]) [v1] h2 (@kk ⟨λv3 h4=>oT (lnB (lnT prog 39) v3) none h4 (@kk ⟨λv5 h6=>oT (some x6) none h6 (@kk ⟨λv7 h8=>oT (binPure prog .eql 3 (.tmp 67) (.tmp 68) v5 v7) none h8 (@kk ⟨λv9 h10=>oT (some v9) none h10 (@kk ⟨λv11 h12=>gT v11 true (some x5) none h12 (@kk ⟨λv13 h14=>gC (pp G) v11 true (.func (.func 21) #[] #[]) [v13] h14 (@kk ⟨λv15 h16=>gT v11 true (lnB (lnT prog 36) v15) none h16 (@kk ⟨λv17 h18=>gT v11 true (binPure prog .eql 3 (.tmp 73) (.const (.int .i64 0)) v17 (.int .i64 0)) none h18 (@kk ⟨λv19 h20=>oT (pickV v11 v19 (.bool false)) none h20 (@kk ⟨λv21 h22=>oT (some v21) none h22 (@kk ⟨λv23 h24=>R .ret ⟨(F76 x0 x1 x2 x3 v23 x5 x6 x7 x8 x9 xA xB xC xD xE xF xG xH xI xJ xK xL xM xN xO xP xQ xR xS xT xU xV xW xX xY xZ yA yB yC yD yE yF yG yH yI yJ yK yL yM yN yO yP yQ yR yS yT yU yV yW yX yY yZ zA zB zC v1 v3 v5 v7 v9 v11 v13 v15 v17 v19 v21),df,h24⟩⟩)⟩)⟩)⟩)⟩)⟩)⟩)⟩)⟩)⟩)⟩)⟩)):=by kernel_rfl
attribute [push_cast] sh_ir7_s1
theorem sh_ir7_s2 (G:Nat)(ro:Option Nat)(df:List Nat)(h:Heap)(x0 x1 x2 x3 x4 x5 x6 x7 x8 x9 xA xB xC xD xE xF xG xH xI xJ xK xL xM xN xO xP xQ xR xS xT xU xV xW xX xY xZ yA yB yC yD yE yF yG yH yI yJ yK yL yM yN yO yP yQ yR yS yT yU yV yW yX yY yZ zA zB zC zD zE zF zG zH zI zJ zK zL zM zN:Value)(R:XExit→S→Prop):vc3 (pp G) ro ir7_s2 ⟨(F76 x0 x1 x2 x3 x4 x5 x6 x7 x8 x9 xA xB xC xD xE xF xG xH xI xJ xK xL xM xN xO xP xQ xR xS xT xU xV xW xX xY xZ yA yB yC yD yE yF yG yH yI yJ yK yL yM yN yO yP yQ yR yS yT yU yV yW yX yY yZ zA zB zC zD zE zF zG zH zI zJ zK zL zM zN),df,h⟩ R=(oT (some x9) none h (@kk ⟨λv1 h2=>oT (unV prog .not v1) none h2 (@kk ⟨λv3 h4=>oT (some v3) none h4 (@kk ⟨λv5 h6=>gT v5 false (faV (fld prog 31 1) x8) none h6 (@kk ⟨λv7 h8=>gT v5 false (evLoad prog 3 v7 h8) none h8 (@kk ⟨λv9 h10=>gT v5 false (some x7) none h10 (@kk ⟨λv11 h12=>gT v5 false (binPure prog .neq 3 (.tmp 50) (.tmp 51) v9 v11) none h12 (@kk ⟨λv13 h14=>oT (pickV v5 (.bool true) v13) none h14 (@kk ⟨λv15 h16=>oT (some v15) none h16 (@kk ⟨λv17 h18=>gT v17 false (faV (fld prog 31 2) x8) none h18 (@kk ⟨λv19 h20=>gT v17 false (evLoad prog 3 v19 h20) none h20 (@kk ⟨λv21 h22=>gT v17 false (some xA) none h22 (@kk ⟨λv23 h24=>gT v17 false (binPure prog .neq 3 (.tmp 56) (.tmp 57) v21 v23) none h24 (@kk ⟨λv25 h26=>oT (pickV v17 (.bool true) v25) none h26 (@kk ⟨λv27 h28=>oT (some v27) none h28 (@kk ⟨λv29 h30=>gT v29 false (faV (fld prog 31 0) x8) none h30 (@kk ⟨λv31 h32=>gT v29 false (evLoad prog 9 v31 h32) none h32 (@kk ⟨λv33 h34=>gT v29 false (binPure prog .neq 9 (.tmp 62) (.const (.string (Tx [112,97,121]))) v33 (.string (Tx [112,97,121]))) none h34 (@kk ⟨λv35 h36=>oT (pickV v29 (.bool true) v35) none h36 (@kk ⟨λv37 h38=>vcond v37 (@kb ⟨oT (some (.bool false)) none h38 (@kk ⟨λv39 h40=>R .ret ⟨(F76 x0 x1 x2 x3 v39 x5 x6 x7 x8 x9 xA xB xC xD xE xF xG xH xI xJ xK xL xM xN xO xP xQ xR xS xT xU xV xW xX xY xZ yA yB yC yD yE yF yG yH yI yJ v1 v3 v5 v7 v9 v11 v13 v15 v17 v19 v21 v23 v25 v27 v29 v31 v33 v35 v37 zD zE zF zG zH zI zJ zK zL zM zN),df,h40⟩⟩)⟩) (@kb ⟨R .normal ⟨(F76 x0 x1 x2 x3 x4 x5 x6 x7 x8 x9 xA xB xC xD xE xF xG xH xI xJ xK xL xM xN xO xP xQ xR xS xT xU xV xW xX xY xZ yA yB yC yD yE yF yG yH yI yJ v1 v3 v5 v7 v9 v11 v13 v15 v17 v19 v21 v23 v25 v27 v29 v31 v33 v35 v37 zD zE zF zG zH zI zJ zK zL zM zN),df,h38⟩⟩)⟩)⟩)⟩)⟩)⟩)⟩)⟩)⟩)⟩)⟩)⟩)⟩)⟩)⟩)⟩)⟩)⟩)⟩)⟩)):=by kernel_rfl
attribute [push_cast] sh_ir7_s2
theorem sh_ir7_s3 (G:Nat)(ro:Option Nat)(df:List Nat)(h:Heap)(x0 x1 x2 x3 x4 x5 x6 x7 x8 x9 xA xB xC xD xE xF xG xH xI xJ xK xL xM xN xO xP xQ xR xS xT xU xV xW xX xY xZ yA yB yC yD yE yF yG yH yI yJ yK yL yM yN yO yP yQ yR yS yT yU yV yW yX yY yZ zA zB zC zD zE zF zG zH zI zJ zK zL zM zN:Value)(R:XExit→S→Prop):vc3 (pp G) ro ir7_s3 ⟨(F76 x0 x1 x2 x3 x4 x5 x6 x7 x8 x9 xA xB xC xD xE xF xG xH xI xJ xK xL xM xN xO xP xQ xR xS xT xU xV xW xX xY xZ yA yB yC yD yE yF yG yH yI yJ yK yL yM yN yO yP yQ yR yS yT yU yV yW yX yY yZ zA zB zC zD zE zF zG zH zI zJ zK zL zM zN),df,h⟩ R=(oT (some x7) none h (@kk ⟨λv1 h2=>oT (binPure prog .add 3 (.tmp 25) (.const (.int .i64 1)) v1 (.int .i64 1)) none h2 (@kk ⟨λv3 h4=>oT (some v3) none h4 (@kk ⟨λv5 h6=>R .normal ⟨(F76 x0 x1 x2 x3 x4 x5 x6 v5 x8 x9 xA xB xC xD xE xF xG xH xI xJ xK xL xM xN xO v1 v3 xR xS xT xU xV xW xX xY xZ yA yB yC yD yE yF yG yH yI yJ yK yL yM yN yO yP yQ yR yS yT yU yV yW yX yY yZ zA zB zC zD zE zF zG zH zI zJ zK zL zM zN),df,h6⟩⟩)⟩)⟩)):=by kernel_rfl
attribute [push_cast] sh_ir7_s3
end
end Go.Proofs.Ytejgmoenmbjidaa
namespace Go.Proofs.Ytejgmoenmbjidaa
open _root_.Go.Proofs.Try (prog)
open Go Go.RowKit Go.Ev
noncomputable section
set_option maxRecDepth 100000
variable (G:Nat) (h:Heap)
theorem g_lon {h h':Heap}{S:Nat→Prop}(g:Grew h h' S)(hl:h.lo≤h.next):h'.lo≤h'.next:=by have:=g.lo;have:=g.next;omega
theorem within_w (a m:Int)(h1:1≤m)(h2:m<1000000):CallE (pp G) 22 [.int .i64 a,.int .i64 m] h (λv h'=>v=.int .i64 (Wi' a m)∧h'=h):=by
 refine CallE.fir4 (good G) fir22 rfl rfl (F15_arr ..) λhlo=>?_
 rw[sh_ir22]
 have hlt:=Int.tmod_lt_of_pos a (show 0<m by omega)
 have hgt:=Int.lt_tmod_of_pos a (show 0<m by omega)
 have hw:IntKind.i64.wrap (a.tmod m)=a.tmod m:=wrap_i64 (by omega) (by omega)
 have hm:m≠0:=by omega
 unfold Wi'
 by_cases hc:a.tmod m<0
 ·have hw2:IntKind.i64.wrap (a.tmod m+m)=a.tmod m+m:=wrap_i64 (by omega) (by omega)
  simp(disch:=first|omega|(apply id;simp only[push_cast];first|done|omega))only[push_cast,Nat.reduceAdd,Nat.reduceMul,Nat.reduceSub,Nat.reduceLT,Nat.reduceEqDiff,Nat.reduceLeDiff,Int.reduceToNat,reduceCtorEq,Int.reduceLT,Int.reduceLE,Int.reduceAdd,Int.reduceSub,Int.reduceMul,Int.reduceNeg,Int.reduceEq,hw,hm,hc,hw2]
 ·simp(disch:=first|omega|(apply id;simp only[push_cast];first|done|omega))only[push_cast,Nat.reduceAdd,Nat.reduceMul,Nat.reduceSub,Nat.reduceLT,Nat.reduceEqDiff,Nat.reduceLeDiff,Int.reduceToNat,reduceCtorEq,Int.reduceLT,Int.reduceLE,Int.reduceAdd,Int.reduceSub,Int.reduceMul,Int.reduceNeg,Int.reduceEq,hw,hm,hc]
def pay:List UInt8:=[112,97,121]
theorem known_w:CallE (pp G) 10 [] h (λv h'=>v=.bool true∧Gr h h'):=by
 refine CallE.fir4 (good G) fir10 rfl rfl (F56_arr ..) λhlo=>?_
 rw[sh_ir10]
 have hr:bsC 1 3 h (fillQ (List.map (λi=>(i,1)) (List.range 1)) (List.replicate 1 [Value.int IntKind.i64 0]).flatten (.int .i64 7) [] (List.map (λi=>(i,1)) (List.range 1))[0]?)=some (.slice (some ⟨h.next,0,none⟩) 1 1,h.add (O [.int .i64 7] 3 false)):=rowI h 7
 simp(disch:=first|omega|(apply id;simp only[push_cast];first|done|omega))only[push_cast,Nat.reduceAdd,Nat.reduceMul,Nat.reduceSub,Nat.reduceLT,Nat.reduceEqDiff,Nat.reduceLeDiff,Int.reduceToNat,reduceCtorEq,Int.reduceLT,Int.reduceLE,Int.reduceAdd,Int.reduceSub,Int.reduceMul,Int.reduceNeg,Int.reduceEq,hr]
 have c1:=cells_add_s (h:=h) [.int .i64 7] 3 false h.next rfl
 have g1:Gr h (h.add (O [.int .i64 7] 3 false)):=Grew.add _ _ _
 have n1:(h.add (O [.int .i64 7] 3 false)).next=h.next+1:=next_add _
 have l1:=g1.lo
 generalize h.add (O [.int .i64 7] 3 false)=h1 at *
 refine CallE.to (new_p G h1 [7] _ 1 (Sl.row c1 (by omega)) (λb hb=>by obtain ⟨o,s,e⟩:=hb;cases e;omega) (by decide) (λe=>by cases e)) ?_
 rintro _ h2 ⟨⟨p,rfl,a2⟩,g2⟩
 have gg:Gr h h2:=g1.tr' g2 λ_ _ h=>h
 simp(disch:=first|omega|(apply id;simp only[push_cast];first|done|omega))only[push_cast,Nat.reduceAdd,Nat.reduceMul,Nat.reduceSub,Nat.reduceLT,Nat.reduceEqDiff,Nat.reduceLeDiff,Int.reduceToNat,reduceCtorEq,Int.reduceLT,Int.reduceLE,Int.reduceAdd,Int.reduceSub,Int.reduceMul,Int.reduceNeg,Int.reduceEq]
 refine CallE.to (flight_p G a2 (new_ok _) (by decide)) ?_
 rintro _ h3 ⟨⟨af,cf,rfl,_⟩,g3⟩
 have z:((newW [7]).fl.length:Int)=0:=rfl
 have a3:=a2.grew g3 λ_ _ _ h=>h
 have ee:Value.agg ⟨[.string (Tx [112,97,121]),.int .i64 3,.int .i64 0]⟩=.agg ⟨evC ⟨pay,3,0⟩⟩:=rfl
 simp(disch:=first|omega|(apply id;simp only[push_cast];first|done|omega))only[push_cast,Nat.reduceAdd,Nat.reduceMul,Nat.reduceSub,Nat.reduceLT,Nat.reduceEqDiff,Nat.reduceLeDiff,Int.reduceToNat,reduceCtorEq,Int.reduceLT,Int.reduceLE,Int.reduceAdd,Int.reduceSub,Int.reduceMul,Int.reduceNeg,Int.reduceEq,z,ee]
 refine CallE.to (ask_p G a3 (new_ok _) (by decide) ⟨pay,3,0⟩) ?_
 rintro _ h4 ⟨rfl,g4⟩
 have a4:=g4.at_
 simp(disch:=first|omega|(apply id;simp only[push_cast];first|done|omega))only[push_cast,Nat.reduceAdd,Nat.reduceMul,Nat.reduceSub,Nat.reduceLT,Nat.reduceEqDiff,Nat.reduceLeDiff,Int.reduceToNat,reduceCtorEq,Int.reduceLT,Int.reduceLE,Int.reduceAdd,Int.reduceSub,Int.reduceMul,Int.reduceNeg,Int.reduceEq]
 refine CallE.to (deliver_p G a4 (ask_ok (new_ok _) _ _) (by decide) 0) ?_
 rintro _ h5 ⟨rfl,g5⟩
 have a5:=g5.at_
 have d1:deliverW (askW (newW [7]) pay 3) 0=((e0,false),{ askW (newW [7]) pay 3 with fl:=[⟨true,⟨pay,3,7⟩⟩],ap:=[⟨pay,3,7⟩],kp:=[⟨pay,3,7⟩] }):=rfl
 rw[d1] at a5 ⊢
 have ok5:=deliver_ok (ask_ok (new_ok [7]) pay 3) 0
 rw[d1] at ok5
 dsimp only at a5 ok5 ⊢
 have hz:evC e0=[.string (Tx []),.int .i64 0,.int .i64 0]:=rfl
 rw[hz]
 have l5:=g_lon g5.gr (g_lon g4.gr (g_lon g3 (g_lon g2 (g_lon g1 hlo))))
 simp(disch:=first|omega|(apply id;simp only[push_cast];first|done|omega))only[push_cast,Nat.reduceAdd,Nat.reduceMul,Nat.reduceSub,Nat.reduceLT,Nat.reduceEqDiff,Nat.reduceLeDiff,Int.reduceToNat,reduceCtorEq,Int.reduceLT,Int.reduceLE,Int.reduceAdd,Int.reduceSub,Int.reduceMul,Int.reduceNeg,Int.reduceEq,l5]
 have a6:=λ(x y:AObj)=>a5.grew (((Gr.refl h5).add' x).put' h5.next y (Nat.le_refl _)) λ_ _ _ h=>h
 refine CallE.to (deliver_p G (a6 _ _) ok5 (by decide) 0) ?_
 rintro _ h7 ⟨rfl,g7⟩
 have a7:=g7.at_
 have d2:deliverW { askW (newW [7]) pay 3 with fl:=[⟨true,⟨pay,3,7⟩⟩],ap:=[⟨pay,3,7⟩],kp:=[⟨pay,3,7⟩] } 0=((⟨pay,3,7⟩,true),⟨[7],0,[],[],[⟨pay,3,7⟩],[⟨pay,3,7⟩]⟩):=rfl
 have ok7:=deliver_ok ok5 0
 dsimp only at d2 a7 ok7 ⊢
 rw[d2] at a7 ok7 ⊢
 dsimp only at a7 ok7 ⊢
 unfold evC pay
 dsimp only
 have g6:Gr h5 ((h5.add (O [.string (Tx []),.int .i64 0,.int .i64 0] 31 false)).put h5.next (O [.string (Tx []),.int .i64 0,.int .i64 0] 31 false)):=((Gr.refl h5).add' _).put' h5.next _ (Nat.le_refl _)
 have l7:=g_lon g7.gr (g_lon g6 l5)
 have a8:=λ(x y:AObj)=>a7.grew (((Gr.refl h7).add' x).put' h7.next y (Nat.le_refl _)) λ_ _ _ h=>h
 simp(disch:=first|omega|(apply id;simp only[push_cast];first|done|omega))only[push_cast,Nat.reduceAdd,Nat.reduceMul,Nat.reduceSub,Nat.reduceLT,Nat.reduceEqDiff,Nat.reduceLeDiff,Int.reduceToNat,reduceCtorEq,Int.reduceLT,Int.reduceLE,Int.reduceAdd,Int.reduceSub,Int.reduceMul,Int.reduceNeg,Int.reduceEq,l7]
 refine CallE.to (applied_p G (a8 _ _) ok7 (by decide)) ?_
 rintro _ h9 ⟨⟨ap,cp,rfl,_⟩,g9⟩
 have a9:=(a8 _ _).grew g9 λ_ _ _ h=>h
 have z2:(([⟨pay,3,7⟩]:List Evt).length:Int)=1:=rfl
 simp(disch:=first|omega|(apply id;simp only[push_cast];first|done|omega))only[push_cast,Nat.reduceAdd,Nat.reduceMul,Nat.reduceSub,Nat.reduceLT,Nat.reduceEqDiff,Nat.reduceLeDiff,Int.reduceToNat,reduceCtorEq,Int.reduceLT,Int.reduceLE,Int.reduceAdd,Int.reduceSub,Int.reduceMul,Int.reduceNeg,Int.reduceEq,z2]
 refine CallE.to (open_p G a9 ok7 (by decide)) ?_
 rintro _ h10 ⟨⟨ao,co,rfl,_⟩,g10⟩
 have z3:(([]:List Opn).length:Int)=0:=rfl
 simp(disch:=first|omega|(apply id;simp only[push_cast];first|done|omega))only[push_cast,Nat.reduceAdd,Nat.reduceMul,Nat.reduceSub,Nat.reduceLT,Nat.reduceEqDiff,Nat.reduceLeDiff,Int.reduceToNat,reduceCtorEq,Int.reduceLT,Int.reduceLE,Int.reduceAdd,Int.reduceSub,Int.reduceMul,Int.reduceNeg,Int.reduceEq,z3]
 have m2:=gg.next
 have m3:=g3.next
 have H6:Gr h h5:=((gg.tr' g3 λ_ _ h=>h).tr' g4.gr λb hb e=>by omega).tr' g5.gr λb hb e=>by omega
 exact (((((H6.tr' g6 λ_ _ h=>h).tr' g7.gr λb hb e=>by have:=g4.gr.next;omega).tr' (((Gr.refl h7).add' _).put' h7.next _ (Nat.le_refl _)) λ_ _ h=>h).tr' g9 λ_ _ h=>h).tr' g10 λ_ _ h=>h)
end
end Go.Proofs.Ytejgmoenmbjidaa
namespace Go.Proofs.Ytejgmoenmbjidaa
open _root_.Go.Proofs.Try (prog)
open Go Go.RowKit Go.Ev
noncomputable section
set_option maxRecDepth 100000
variable (G:Nat) (h:Heap)
theorem Sl.none_nil {h:Heap}{cs:List Value}(s:Sl h none cs):cs=[]:=by
 rcases s with h0|⟨b,off,full,e,m,ha,_⟩
 ·exact h0.1
 ·cases ha
theorem ivs_nil {xs:List Int}(e:ivs xs=[]):xs=[]:=by simpa[ivs] using e
theorem Sl.num {h:Heap}{a:Option Addr}{xs:List Int}(s:Sl h a (ivs xs)){i:Nat}(hi:i<xs.length):∃ b off,a=some ⟨b,off,none⟩∧ldC (some (false,0)) (off+i) h.lo b (cells h b)=some (.int .i64 (xs.getD i 0)):=by
 obtain ⟨b,off,e,hl⟩:=Sl.load s T_knd_3 (ivs_get hi)
 rw[load_eq,T_knd_3] at hl
 exact ⟨b,off,e,hl⟩
end
end Go.Proofs.Ytejgmoenmbjidaa
namespace Go.Proofs.Ytejgmoenmbjidaa
open _root_.Go.Proofs.Try (prog)
open Go Go.RowKit Go.Ev
noncomputable section
set_option maxRecDepth 100000
variable (G:Nat) (h:Heap)
def apL (vs:List Int):Nat→List Evt
 | 0=>[]
 | i+1=>apL vs i++[⟨pay,i,vs.getD i 0⟩]
theorem apL_len (vs:List Int):∀ i,(apL vs i).length=i
 | 0=>rfl
 | i+1=>by rw[apL,List.length_append,apL_len vs i];rfl
theorem findA_app (k:Int):∀ (l m:List Evt),findA k l=none→findA k (l++m)=findA k m
 | [],_,_=>rfl
 | e :: l,m,h=>by
  have h:(if k=e.key then some e.val else findA k l)=none:=h
  show (if k=e.key then some e.val else findA k (l++m))=findA k m
  split at h
  ·cases h
  ·rename_i hk;rw[if_neg hk];exact findA_app k l m h
theorem apL_no (vs:List Int)(k:Int):∀ i:Nat,(i:Int)≤k→findA k (apL vs i)=none
 | 0,_=>rfl
 | i+1,h=>by
  rw[apL,findA_app k _ _ (apL_no vs k i (by omega))]
  show (if k=(i:Int) then _ else none)=none
  exact if_neg (by omega)
def wv (vs:List Int)(i:Nat):Wi:=⟨vs,0,[],[],apL vs i,apL vs i⟩
theorem wv_ok (vs:List Int)(i:Nat):WOk (wv vs i) i:=⟨⟨Int.le_refl _,by show (0:Int)≤i;omega⟩,Nat.zero_le _,by show (apL vs i).length≤i;rw[apL_len];exact Nat.le_refl _,List.Pairwise.nil,λo ho=>(by cases ho),rfl⟩
theorem wv_d1 (vs:List Int)(i:Nat):deliverW (askW (wv vs i) pay i) 0=((e0,false),⟨vs,0,[⟨pay,i,1,1⟩],[⟨true,⟨pay,i,vs.getD i 0⟩⟩],apL vs (i+1),apL vs (i+1)⟩):=by
 have h0:applyW ⟨vs,0,[⟨pay,i,1,1⟩],[],apL vs i,apL vs i⟩ ⟨pay,i,0⟩=(vs.getD i 0,⟨vs,0,[⟨pay,i,1,1⟩],[],apL vs (i+1),apL vs (i+1)⟩):=by
  unfold applyW
  dsimp only
  rw[apL_no vs i i (Int.le_refl _),apL_len]
  by_cases hi:i<vs.length
  ·simp only[if_pos hi];rfl
  ·have:vs.getD i 0=0:=by rw[List.getD_eq_getElem?_getD,List.getElem?_eq_none (by omega)];rfl
   simp only[if_neg hi,apL,this]
 show (((e0,false),({ (applyW ⟨vs,0,[⟨pay,i,1,1⟩],[],apL vs i,apL vs i⟩ ⟨pay,i,0⟩).2 with fl:=(applyW ⟨vs,0,[⟨pay,i,1,1⟩],[],apL vs i,apL vs i⟩ ⟨pay,i,0⟩).2.fl++[(⟨true,⟨pay,i,(applyW ⟨vs,0,[⟨pay,i,1,1⟩],[],apL vs i,apL vs i⟩ ⟨pay,i,0⟩).1⟩⟩:Msg)] }:Wi)):(Evt×Bool)×Wi)=_
 rw[h0]
 rfl
theorem wv_d2 (vs:List Int)(i:Nat):deliverW ⟨vs,0,[⟨pay,i,1,1⟩],[⟨true,⟨pay,i,vs.getD i 0⟩⟩],apL vs (i+1),apL vs (i+1)⟩ 0=((⟨pay,i,vs.getD i 0⟩,true),wv vs (i+1)):=by
 have hk:hasK (i:Int) [⟨pay,i,1,1⟩]=true:=by simp[hasK]
 show (if hasK (i:Int) [⟨pay,i,1,1⟩] then _ else _)=_
 rw[hk,if_pos rfl]
 show (_,{ (⟨vs,0,[⟨pay,i,1,1⟩],[],apL vs (i+1),apL vs (i+1)⟩:Wi) with op:=delK (i:Int) [⟨pay,i,1,1⟩] })=_
 rw[show delK (i:Int) [⟨pay,i,1,1⟩]=[] from by simp[delK]]
 rfl
inductive I7 (h:Heap)(xs:List Int)(a0:Option Addr)(c0 p k:Nat):Nat→S→Prop
 | mk {i : Nat} {iv kv : Int} {h2 : Heap} {x1 x2 x3 x4 x8 x9 xA xB xC xD xE xF xG xH xI xJ xK xL xM xN xO xP xQ xR xS xT xU xV xW xX xY xZ yA yB yC yD yE yF yG yH yI yJ yK yL yM yN yO yP yQ yR yS yT yU yV yW yX yY yZ zA zB zC zD zE zF zG zH zI zJ zK zL zM zN : Value} : iv = i → kv = k → i ≤ k → WW h2 p (fun b => h.next ≤ b) (wv xs i) → Gr h h2 →
   I7 h xs a0 c0 p k (k-i) ⟨(F76 (.slice a0 xs.length c0) x1 x2 x3 x4 (.pointer (some ⟨p,0,none⟩)) (.int .i64 kv) (.int .i64 iv) x8 x9 xA xB xC xD xE xF xG xH xI xJ xK xL xM xN xO xP xQ xR xS xT xU xV xW xX xY xZ yA yB yC yD yE yF yG yH yI yJ yK yL yM yN yO yP yQ yR yS yT yU yV yW yX yY yZ zA zB zC zD zE zF zG zH zI zJ zK zL zM zN),[],h2⟩
theorem wirevalues_w (xs:List Int)(a0:Option Addr)(c0:Nat)(hs:Sl h a0 (ivs xs))(hb:∀ b,blk a0 b→b<h.next)(nv:Int):CallE (pp G) 7 [.slice a0 xs.length c0,.int .i64 nv] h (λv h'=>v=.bool true):=by
 refine CallE.fir4 (good G) fir7 rfl rfl (F76_arr ..) λhlo=>?_
 rw[sh_ir7]
 simp(disch:=first|omega|(apply id;simp only[push_cast];first|done|omega))only[push_cast,Nat.reduceAdd,Nat.reduceMul,Nat.reduceSub,Nat.reduceLT,Nat.reduceEqDiff,Nat.reduceLeDiff,Int.reduceToNat,reduceCtorEq,Int.reduceLT,Int.reduceLE,Int.reduceAdd,Int.reduceSub,Int.reduceMul,Int.reduceNeg,Int.reduceEq]
 refine CallE.to (known_w G _) ?_
 rintro _ h1 ⟨rfl,g1⟩
 by_cases h60:(60:Int)<xs.length
 ·have h60':(xs.length:Int) > 60:=h60
  simp(disch:=first|omega|(apply id;simp only[push_cast];first|done|omega))only[push_cast,Nat.reduceAdd,Nat.reduceMul,Nat.reduceSub,Nat.reduceLT,Nat.reduceEqDiff,Nat.reduceLeDiff,Int.reduceToNat,reduceCtorEq,Int.reduceLT,Int.reduceLE,Int.reduceAdd,Int.reduceSub,Int.reduceMul,Int.reduceNeg,Int.reduceEq,h60,h60']
 have h60':¬ (xs.length:Int) > 60:=h60
 simp(disch:=first|omega|(apply id;simp only[push_cast];first|done|omega))only[push_cast,Nat.reduceAdd,Nat.reduceMul,Nat.reduceSub,Nat.reduceLT,Nat.reduceEqDiff,Nat.reduceLeDiff,Int.reduceToNat,reduceCtorEq,Int.reduceLT,Int.reduceLE,Int.reduceAdd,Int.reduceSub,Int.reduceMul,Int.reduceNeg,Int.reduceEq,h60,h60']
 refine CallE.to (new_p G h1 xs a0 c0 (Sl.grew hs g1 λb hb' _=>⟨hb b hb',id⟩) (λb hb'=>by have:=hb b hb';have:=g1.next;omega) (by omega) λe=>by subst e;exact ivs_nil (Sl.none_nil hs)) ?_
 rintro _ h2 ⟨⟨p,rfl,a2⟩,g2⟩
 simp(disch:=first|omega|(apply id;simp only[push_cast];first|done|omega))only[push_cast,Nat.reduceAdd,Nat.reduceMul,Nat.reduceSub,Nat.reduceLT,Nat.reduceEqDiff,Nat.reduceLeDiff,Int.reduceToNat,reduceCtorEq,Int.reduceLT,Int.reduceLE,Int.reduceAdd,Int.reduceSub,Int.reduceMul,Int.reduceNeg,Int.reduceEq]
 refine CallE.to (within_w G _ nv 30 (by decide) (by decide)) ?_
 rintro _ _ ⟨rfl,e⟩
 rw[e]
 clear e
 have hk:=Wi_range nv 30 (by decide)
 generalize Wi' nv 30=kv at hk ⊢
 obtain ⟨k,rfl⟩:∃ k:Nat,kv=k:=⟨kv.toNat,by omega⟩
 simp(disch:=first|omega|(apply id;simp only[push_cast];first|done|omega))only[push_cast,Nat.reduceAdd,Nat.reduceMul,Nat.reduceSub,Nat.reduceLT,Nat.reduceEqDiff,Nat.reduceLeDiff,Int.reduceToNat,reduceCtorEq,Int.reduceLT,Int.reduceLE,Int.reduceAdd,Int.reduceSub,Int.reduceMul,Int.reduceNeg,Int.reduceEq]
 refine W.loop4 (good G) (I7 h xs a0 c0 p k) ?_ _ _ (I7.mk (i:=0) rfl rfl (Nat.zero_le _) (a2.mono λb hb=>by have:=g1.next;omega) (g1.tr' g2 λ_ _ h=>h))
 intro kk0 s1 hI
 cases hI with|@mk i iv kv h3 _ _ _ _ _ _ _ _ _ _ _ _ _ _ _ _ _ _ _ _ _ _ _ _ _ _ _ _ _ _ _ _ _ _ _ _ _ _ _ _ _ _ _ _ _ _ _ _ _ _ _ _ _ _ _ _ _ _ _ _ _ _ _ _ _ _ _ _ _ _ _ _ hiv hkv hi a3 g3=>
 subst hiv hkv
 rw[sh_ir7_s0]
 have l3:=g_lon g3 hlo
 by_cases h1:i<k
 ·have h1':(i:Int)<(k:Int):=by omega
  have ee:Value.agg ⟨[.string (Tx [112,97,121]),.int .i64 i,.int .i64 77]⟩=.agg ⟨evC ⟨pay,i,77⟩⟩:=rfl
  simp(disch:=first|omega|(apply id;simp only[push_cast];first|done|omega))only[push_cast,Nat.reduceAdd,Nat.reduceMul,Nat.reduceSub,Nat.reduceLT,Nat.reduceEqDiff,Nat.reduceLeDiff,Int.reduceToNat,reduceCtorEq,Int.reduceLT,Int.reduceLE,Int.reduceAdd,Int.reduceSub,Int.reduceMul,Int.reduceNeg,Int.reduceEq,h1',ee]
  refine CallE.to (ask_p G a3 (wv_ok xs i) (by omega) ⟨pay,i,77⟩) ?_
  rintro _ h4 ⟨rfl,p4⟩
  have a4:=p4.at_
  have ok4:=ask_ok (wv_ok xs i) pay i
  dsimp only at a4
  simp(disch:=first|omega|(apply id;simp only[push_cast];first|done|omega))only[push_cast,Nat.reduceAdd,Nat.reduceMul,Nat.reduceSub,Nat.reduceLT,Nat.reduceEqDiff,Nat.reduceLeDiff,Int.reduceToNat,reduceCtorEq,Int.reduceLT,Int.reduceLE,Int.reduceAdd,Int.reduceSub,Int.reduceMul,Int.reduceNeg,Int.reduceEq]
  refine CallE.to (deliver_p G a4 ok4 (by omega) 0) ?_
  rintro _ h5 ⟨rfl,p5⟩
  have a5:=p5.at_
  have ok5:=deliver_ok ok4 0
  rw[wv_d1] at a5 ok5 ⊢
  dsimp only at a5 ok5 ⊢
  simp(disch:=first|omega|(apply id;simp only[push_cast];first|done|omega))only[push_cast,Nat.reduceAdd,Nat.reduceMul,Nat.reduceSub,Nat.reduceLT,Nat.reduceEqDiff,Nat.reduceLeDiff,Int.reduceToNat,reduceCtorEq,Int.reduceLT,Int.reduceLE,Int.reduceAdd,Int.reduceSub,Int.reduceMul,Int.reduceNeg,Int.reduceEq]
  refine CallE.to (deliver_p G a5 ok5 (by omega) 0) ?_
  rintro _ h6 ⟨rfl,p6⟩
  have a6:=p6.at_
  rw[wv_d2] at a6 ⊢
  dsimp only at a6 ⊢
  have l6:=g_lon p6.gr (g_lon p5.gr (g_lon p4.gr l3))
  have n3:=g3.next
  have n4:=p4.gr.next
  have n5:=p5.gr.next
  have G6:Gr h h6:=((g3.tr' p4.gr λb hb e=>by omega).tr' p5.gr λb hb e=>by omega).tr' p6.gr λb hb e=>by omega
  have g7:=λ(x y:AObj)=>((Gr.refl h6).add' x).put' h6.next y (Nat.le_refl _)
  have hs7:=λ(x y:AObj)=>Sl.grew hs (G6.tr' (g7 x y) λ_ _ h=>h) λb hb' _=>⟨hb b hb',id⟩
  have a7:=λ(x y:AObj)=>a6.grew (g7 x y) λ_ _ _ h=>h
  have w3:IntKind.i64.wrap ((i:Int)+1)=(i:Int)+1:=wrap_i64 (by omega) (by omega)
  unfold evC pay
  dsimp only
  by_cases hv:i<xs.length
  ·have hv':(i:Int)<(xs.length:Int):=by omega
   obtain ⟨b,off,rfl,_⟩:=Sl.num hs hv
   have l1:∀ x y:AObj,ldC (some (false,0)) (off+i) ((h6.add x).put h6.next y).lo b (cells ((h6.add x).put h6.next y) b)=some (.int .i64 (xs.getD i 0)):=λx y=>by
    obtain ⟨b',off',e,l1⟩:=Sl.num (hs7 x y) hv
    cases e
    exact l1
   simp only[lo_put,lo_add] at l1
   simp(disch:=first|omega|(apply id;simp only[push_cast];first|done|omega))only[push_cast,Nat.reduceAdd,Nat.reduceMul,Nat.reduceSub,Nat.reduceLT,Nat.reduceEqDiff,Nat.reduceLeDiff,Int.reduceToNat,reduceCtorEq,Int.reduceLT,Int.reduceLE,Int.reduceAdd,Int.reduceSub,Int.reduceMul,Int.reduceNeg,Int.reduceEq,l6,hv',Int.toNat_natCast,l1,w3]
   exact ⟨k-(i+1),by omega,I7.mk (i:=i+1) (by omega) rfl (by omega) ((a7 _ _).mono λb hb=>by omega) (G6.tr' (g7 _ _) λ_ _ h=>h)⟩
  ·have hv':¬ (i:Int)<(xs.length:Int):=by omega
   have hz:xs.getD i 0=0:=by rw[List.getD_eq_getElem?_getD,List.getElem?_eq_none (by omega)];rfl
   simp(disch:=first|omega|(apply id;simp only[push_cast];first|done|omega))only[push_cast,Nat.reduceAdd,Nat.reduceMul,Nat.reduceSub,Nat.reduceLT,Nat.reduceEqDiff,Nat.reduceLeDiff,Int.reduceToNat,reduceCtorEq,Int.reduceLT,Int.reduceLE,Int.reduceAdd,Int.reduceSub,Int.reduceMul,Int.reduceNeg,Int.reduceEq,l6,hv',hz,w3]
   exact ⟨k-(i+1),by omega,I7.mk (i:=i+1) (by omega) rfl (by omega) ((a7 _ _).mono λb hb=>by omega) (G6.tr' (g7 _ _) λ_ _ h=>h)⟩
 ·have h1':¬ (i:Int)<(k:Int):=by omega
  have:i=k:=by omega
  subst this
  simp(disch:=first|omega|(apply id;simp only[push_cast];first|done|omega))only[push_cast,Nat.reduceAdd,Nat.reduceMul,Nat.reduceSub,Nat.reduceLT,Nat.reduceEqDiff,Nat.reduceLeDiff,Int.reduceToNat,reduceCtorEq,Int.reduceLT,Int.reduceLE,Int.reduceAdd,Int.reduceSub,Int.reduceMul,Int.reduceNeg,Int.reduceEq,h1']
  refine CallE.to (applied_p G a3 (wv_ok xs i) (by omega)) ?_
  rintro _ h5 ⟨⟨af,cf,rfl,_⟩,g5⟩
  have e1:((wv xs i).ap.length:Int)=(i:Int):=by show ((apL xs i).length:Int)=i;rw[apL_len]
  simp(disch:=first|omega|(apply id;simp only[push_cast];first|done|omega))only[push_cast,Nat.reduceAdd,Nat.reduceMul,Nat.reduceSub,Nat.reduceLT,Nat.reduceEqDiff,Nat.reduceLeDiff,Int.reduceToNat,reduceCtorEq,Int.reduceLT,Int.reduceLE,Int.reduceAdd,Int.reduceSub,Int.reduceMul,Int.reduceNeg,Int.reduceEq,e1]
  refine CallE.to (flight_p G (a3.grew g5 λ_ _ _ h=>h) (wv_ok xs i) (by omega)) ?_
  rintro _ h6 ⟨⟨ao,co,rfl,_⟩,g6⟩
  have e2:((wv xs i).fl.length:Int)=0:=rfl
  simp(disch:=first|omega|(apply id;simp only[push_cast];first|done|omega))only[push_cast,Nat.reduceAdd,Nat.reduceMul,Nat.reduceSub,Nat.reduceLT,Nat.reduceEqDiff,Nat.reduceLeDiff,Int.reduceToNat,reduceCtorEq,Int.reduceLT,Int.reduceLE,Int.reduceAdd,Int.reduceSub,Int.reduceMul,Int.reduceNeg,Int.reduceEq,e2]
end
end Go.Proofs.Ytejgmoenmbjidaa
namespace Go.Proofs.Ytejgmoenmbjidaa
open _root_.Go.Proofs.Try (prog)
open Go Go.ChangeShapes Go.WideShapes Go.ChangeAt Go.RowKit Go.Ev
set_option maxRecDepth 100000
theorem lits_fone (k:IntKind)(n:Nat):∀ l:List Int,foneL n (l.map (Value.int k))=true
 | []=>rfl
 | x :: l=>foneL_cons _ _ _ rfl (lits_fone k n l)
theorem base_sl {k:IntKind}{W:World}{b off len:Nat}{zs:List Int}(hl:len≤zs.length)(hc:∀ i,i<zs.length→W.cell? ((⟨b,off,none⟩:Addr).add i)=some (.int k (zs.getD i 0))) :
  Sl (baseH W.heap.size W) (some ⟨b,off,none⟩) ((zs.take len).map (Value.int k)):=by
 have hlen:((zs.take len).map (Value.int k)).length=len:=by rw[List.length_map,List.length_take];omega
 have hget:∀ i,i<len→((zs.take len).map (Value.int k))[i]?=some (Value.int k (zs.getD i 0)):=λi hi=>by
  rw[List.getElem?_map,List.getElem?_take,if_pos hi,List.getD_eq_getElem?_getD,List.getElem?_eq_getElem (by omega)]
  rfl
 cases hz:len with
 | zero=>subst hz;exact Sl.nil _ (spotN_s b off)
 | succ m=>
  have key:∀ i,i<len→∃ cs e,cells (baseH W.heap.size W) b=some (cs,e,false)∧cs[off+i]?=some (.int k (zs.getD i 0)):=λi hi=>by
   have h1:=hc i (by omega)
   rw[addr_add] at h1
   exact baseH_cell h1 rfl rfl rfl
  obtain ⟨cs,e,h1,h2⟩:=key 0 (by omega)
  have all:∀ i,i<len→cs[off+i]?=some (.int k (zs.getD i 0)):=λi hi=>by
   obtain ⟨cs',e',h3,h4⟩:=key i hi
   rw[h1] at h3
   cases h3
   exact h4
  have hle:off+len≤cs.length:=by
   have:=(List.getElem?_eq_some_iff.1 (all (len-1) (by omega))).1
   omega
  rw[← hz]
  refine .inr ⟨b,off,cs,e,false,rfl,h1,by rw[hlen];exact hle,?_,.inr (lits_fone _ _ _)⟩
  rw[hlen]
  apply List.ext_getElem?
  intro i
  by_cases hi:i<len
  ·rw[List.getElem?_take,if_pos hi,List.getElem?_drop,all i hi,hget i hi]
  ·rw[List.getElem?_eq_none (by rw[List.length_take];omega),List.getElem?_eq_none (by rw[hlen];omega)]
theorem open_xs {W:World}{base:Nat}{v:Value}{H:Type}{enc:TypeId×Value→H}{d:DataW H}{p:List MemPlace}(hv:Value.okWide prog W .any base 22 v)(h:DataW.Trod enc prog W 0 (λ_=>true) true 22 v d p)
  (hsz:∀ elems spare:List (DataW H),d=.slice elems spare→(elems.length+spare.length)*Try.checked.prog.bytesOf 3≤reachBytes) :
  ∃ (xs:List Int) (a:Option Addr) (c:Nat),v=.slice a xs.length c∧Sl (baseH W.heap.size W) a (ivs xs)∧(∀ b,blk a b→b<(baseH W.heap.size W).next)∧pl (.slice a xs.length c)=true∧sc W.heap.size (.slice a xs.length c)=true:=by
 obtain ⟨a1,len1,cap1,rfl⟩:=okWide_slice Try.underlying22 hv
 obtain ⟨fuel,hf⟩:=h
 rcases open_ints (k:=.i64) Try.underlying22 Try.underlying3 (by kernel_rfl) hf with ⟨h1,_⟩|⟨a,len,cap,zs,h1,_,hle,hmx,hzl,hx,hcells,_⟩
 ·cases h1
  exact ⟨[],none,0,rfl,Sl.nil _ spotN_n,(λb hb=>by obtain ⟨o,s,hb⟩:=hb;cases hb),rfl,rfl⟩
 ·cases h1
  simp only[Value.okWide,Try.underlying22,Cell.okWide,Cell.ok,World.has] at hv
  obtain ⟨_,_,_,hspot,row,cells',hshape,_⟩:=hv
  obtain ⟨b,off,sp⟩:=a
  have hspot:sp=none:=hspot
  subst hspot
  have hbl:b<W.heap.size:=by
   rcases Nat.lt_or_ge b W.heap.size with h2|h2
   ·exact h2
   ·simp[World.shape?,Array.getElem?_eq_none h2] at hshape
  have hzl:zs.length=cap1:=hzl
  have hcap:cap1<UC:=by
   have h3:=hsz (lits .i64 (zs.take len1)) (lits .i64 (zs.drop len1)) (by cases hx;rfl)
   have h4:Try.checked.prog.bytesOf 3=8:=by kernel_rfl
   rw[h4] at h3
   simp only[lits,List.length_map,List.length_take,List.length_drop] at h3
   have h5:reachBytes=140737488351232:=rfl
   have h6:UC=1152921504606846976:=by unfold UC;rfl
   omega
  have hlen:(zs.take len1).length=len1:=by rw[List.length_take];omega
  have hsl:=base_sl (W:=W) (b:=b) (off:=off) (len:=len1) (zs:=zs) (by omega) hcells
  refine ⟨zs.take len1,some ⟨b,off,none⟩,cap1,by rw[hlen],hsl,(λb' hb=>by obtain ⟨o,s,hb⟩:=hb;cases hb;exact hbl),?_,?_⟩
  ·simp only[pl];simpa using hcap
  ·simp only[sc,scA];simpa using hbl
end Go.Proofs.Ytejgmoenmbjidaa
