/-
  A part of the proof: what the program's functions hand back,as theorems. No condition but those that each theorem names.
-/
import Derived.Test.YtejgmoenmbjidaaWf
import Derived.Test.YtejgmoenmbjidaaWd
import Derived.Test.YtejgmoenmbjidaaEvc
import Derived.ChangeMaps5
import Derived.Test.YtejgmoenmbjidaaRows
import Derived.ProofKit
import Derived.OpenShut
import Derived.Carry
import Derived.SizedLaws
set_option linter.unusedSimpArgs false
set_option linter.unusedVariables false
namespace Go.Proofs.Ytejgmoenmbjidaa
open _root_.Go.Proofs.Try (prog)
open Go.RowKit Go.Ev
set_option maxRecDepth 100000
noncomputable section
def F15 (x0 x1 x2 x3 x4 x5 x6 x7 x8 x9 xA xB xC xD xE:Value):VT:=⟨15,(.node (.node (.node (.node .nil x7 .nil) x3 (.node .nil xB .nil)) x1 (.node (.node .nil x9 .nil) x5 (.node .nil xD .nil))) x0 (.node (.node (.node .nil x8 .nil) x4 (.node .nil xC .nil)) x2 (.node (.node .nil xA .nil) x6 (.node .nil xE .nil))))⟩
theorem F15_arr (x0 x1 x2 x3 x4 x5 x6 x7 x8 x9 xA xB xC xD xE:Value):(F15 x0 x1 x2 x3 x4 x5 x6 x7 x8 x9 xA xB xC xD xE).arr=⟨[x0,x1,x2,x3,x4,x5,x6,x7,x8,x9,xA,xB,xC,xD,xE]⟩:=by kernel_rfl
def F56 (x0 x1 x2 x3 x4 x5 x6 x7 x8 x9 xA xB xC xD xE xF xG xH xI xJ xK xL xM xN xO xP xQ xR xS xT xU xV xW xX xY xZ yA yB yC yD yE yF yG yH yI yJ yK yL yM yN yO yP yQ yR yS yT:Value):VT:=⟨56,(.node (.node (.node (.node (.node (.node .nil xV .nil) xF (.node .nil yL .nil)) x7 (.node (.node .nil yD .nil) xN (.node .nil yT .nil))) x3 (.node (.node (.node .nil xZ .nil) xJ (.node .nil yP .nil)) xB (.node (.node .nil yH .nil) xR .nil))) x1 (.node (.node (.node (.node .nil xX .nil) xH (.node .nil yN .nil)) x9 (.node (.node .nil yF .nil) xP .nil)) x5 (.node (.node (.node .nil yB .nil) xL (.node .nil yR .nil)) xD (.node (.node .nil yJ .nil) xT .nil)))) x0 (.node (.node (.node (.node (.node .nil xW .nil) xG (.node .nil yM .nil)) x8 (.node (.node .nil yE .nil) xO .nil)) x4 (.node (.node (.node .nil yA .nil) xK (.node .nil yQ .nil)) xC (.node (.node .nil yI .nil) xS .nil))) x2 (.node (.node (.node (.node .nil xY .nil) xI (.node .nil yO .nil)) xA (.node (.node .nil yG .nil) xQ .nil)) x6 (.node (.node (.node .nil yC .nil) xM (.node .nil yS .nil)) xE (.node (.node .nil yK .nil) xU .nil)))))⟩
theorem F56_arr (x0 x1 x2 x3 x4 x5 x6 x7 x8 x9 xA xB xC xD xE xF xG xH xI xJ xK xL xM xN xO xP xQ xR xS xT xU xV xW xX xY xZ yA yB yC yD yE yF yG yH yI yJ yK yL yM yN yO yP yQ yR yS yT:Value):(F56 x0 x1 x2 x3 x4 x5 x6 x7 x8 x9 xA xB xC xD xE xF xG xH xI xJ xK xL xM xN xO xP xQ xR xS xT xU xV xW xX xY xZ yA yB yC yD yE yF yG yH yI yJ yK yL yM yN yO yP yQ yR yS yT).arr=⟨[x0,x1,x2,x3,x4,x5,x6,x7,x8,x9,xA,xB,xC,xD,xE,xF,xG,xH,xI,xJ,xK,xL,xM,xN,xO,xP,xQ,xR,xS,xT,xU,xV,xW,xX,xY,xZ,yA,yB,yC,yD,yE,yF,yG,yH,yI,yJ,yK,yL,yM,yN,yO,yP,yQ,yR,yS,yT]⟩:=by kernel_rfl
def F73 (x0 x1 x2 x3 x4 x5 x6 x7 x8 x9 xA xB xC xD xE xF xG xH xI xJ xK xL xM xN xO xP xQ xR xS xT xU xV xW xX xY xZ yA yB yC yD yE yF yG yH yI yJ yK yL yM yN yO yP yQ yR yS yT yU yV yW yX yY yZ zA zB zC zD zE zF zG zH zI zJ zK:Value):VT:=⟨73,(.node (.node (.node (.node (.node (.node (.node .nil zB .nil) xV .nil) xF (.node .nil yL .nil)) x7 (.node (.node (.node .nil zJ .nil) yD .nil) xN (.node .nil yT .nil))) x3 (.node (.node (.node (.node .nil zF .nil) xZ .nil) xJ (.node .nil yP .nil)) xB (.node (.node .nil yH .nil) xR (.node .nil yX .nil)))) x1 (.node (.node (.node (.node (.node .nil zD .nil) xX .nil) xH (.node .nil yN .nil)) x9 (.node (.node .nil yF .nil) xP (.node .nil yV .nil))) x5 (.node (.node (.node (.node .nil zH .nil) yB .nil) xL (.node .nil yR .nil)) xD (.node (.node .nil yJ .nil) xT (.node .nil yZ .nil))))) x0 (.node (.node (.node (.node (.node (.node .nil zC .nil) xW .nil) xG (.node .nil yM .nil)) x8 (.node (.node (.node .nil zK .nil) yE .nil) xO (.node .nil yU .nil))) x4 (.node (.node (.node (.node .nil zG .nil) yA .nil) xK (.node .nil yQ .nil)) xC (.node (.node .nil yI .nil) xS (.node .nil yY .nil)))) x2 (.node (.node (.node (.node (.node .nil zE .nil) xY .nil) xI (.node .nil yO .nil)) xA (.node (.node .nil yG .nil) xQ (.node .nil yW .nil))) x6 (.node (.node (.node (.node .nil zI .nil) yC .nil) xM (.node .nil yS .nil)) xE (.node (.node .nil yK .nil) xU (.node .nil zA .nil))))))⟩
theorem F73_arr (x0 x1 x2 x3 x4 x5 x6 x7 x8 x9 xA xB xC xD xE xF xG xH xI xJ xK xL xM xN xO xP xQ xR xS xT xU xV xW xX xY xZ yA yB yC yD yE yF yG yH yI yJ yK yL yM yN yO yP yQ yR yS yT yU yV yW yX yY yZ zA zB zC zD zE zF zG zH zI zJ zK:Value):(F73 x0 x1 x2 x3 x4 x5 x6 x7 x8 x9 xA xB xC xD xE xF xG xH xI xJ xK xL xM xN xO xP xQ xR xS xT xU xV xW xX xY xZ yA yB yC yD yE yF yG yH yI yJ yK yL yM yN yO yP yQ yR yS yT yU yV yW yX yY yZ zA zB zC zD zE zF zG zH zI zJ zK).arr=⟨[x0,x1,x2,x3,x4,x5,x6,x7,x8,x9,xA,xB,xC,xD,xE,xF,xG,xH,xI,xJ,xK,xL,xM,xN,xO,xP,xQ,xR,xS,xT,xU,xV,xW,xX,xY,xZ,yA,yB,yC,yD,yE,yF,yG,yH,yI,yJ,yK,yL,yM,yN,yO,yP,yQ,yR,yS,yT,yU,yV,yW,yX,yY,yZ,zA,zB,zC,zD,zE,zF,zG,zH,zI,zJ,zK]⟩:=by kernel_rfl
theorem F15_g4 (x0 x1 x2 x3 x4 x5 x6 x7 x8 x9 xA xB xC xD xE:Value):(F15 x0 x1 x2 x3 x4 x5 x6 x7 x8 x9 xA xB xC xD xE).get 4=x4:=by kernel_rfl
attribute [push_cast] F15_g4
theorem F56_g0 (x0 x1 x2 x3 x4 x5 x6 x7 x8 x9 xA xB xC xD xE xF xG xH xI xJ xK xL xM xN xO xP xQ xR xS xT xU xV xW xX xY xZ yA yB yC yD yE yF yG yH yI yJ yK yL yM yN yO yP yQ yR yS yT:Value):(F56 x0 x1 x2 x3 x4 x5 x6 x7 x8 x9 xA xB xC xD xE xF xG xH xI xJ xK xL xM xN xO xP xQ xR xS xT xU xV xW xX xY xZ yA yB yC yD yE yF yG yH yI yJ yK yL yM yN yO yP yQ yR yS yT).get 0=x0:=by kernel_rfl
attribute [push_cast] F56_g0
theorem F73_g2 (x0 x1 x2 x3 x4 x5 x6 x7 x8 x9 xA xB xC xD xE xF xG xH xI xJ xK xL xM xN xO xP xQ xR xS xT xU xV xW xX xY xZ yA yB yC yD yE yF yG yH yI yJ yK yL yM yN yO yP yQ yR yS yT yU yV yW yX yY yZ zA zB zC zD zE zF zG zH zI zJ zK:Value):(F73 x0 x1 x2 x3 x4 x5 x6 x7 x8 x9 xA xB xC xD xE xF xG xH xI xJ xK xL xM xN xO xP xQ xR xS xT xU xV xW xX xY xZ yA yB yC yD yE yF yG yH yI yJ yK yL yM yN yO yP yQ yR yS yT yU yV yW yX yY yZ zA zB zC zD zE zF zG zH zI zJ zK).get 2=x2:=by kernel_rfl
attribute [push_cast] F73_g2
theorem F73_g6 (x0 x1 x2 x3 x4 x5 x6 x7 x8 x9 xA xB xC xD xE xF xG xH xI xJ xK xL xM xN xO xP xQ xR xS xT xU xV xW xX xY xZ yA yB yC yD yE yF yG yH yI yJ yK yL yM yN yO yP yQ yR yS yT yU yV yW yX yY yZ zA zB zC zD zE zF zG zH zI zJ zK:Value):(F73 x0 x1 x2 x3 x4 x5 x6 x7 x8 x9 xA xB xC xD xE xF xG xH xI xJ xK xL xM xN xO xP xQ xR xS xT xU xV xW xX xY xZ yA yB yC yD yE yF yG yH yI yJ yK yL yM yN yO yP yQ yR yS yT yU yV yW yX yY yZ zA zB zC zD zE zF zG zH zI zJ zK).get 6=x6:=by kernel_rfl
attribute [push_cast] F73_g6
noncomputable def ir6_s0:IR:=(.seq (.seq (.ops [⟨some 15,none,.take,(.move (.tmp 5)),3⟩,⟨some 16,none,.take,(.move (.tmp 0)),22⟩,⟨some 17,none,.take,(.call ⟨(.builtin .len),#[(.tmp 16)],#[22]⟩),3⟩,⟨some 18,none,.take,(.binOp .lss 3 (.tmp 15) (.tmp 17) 3),4⟩,⟨some 19,none,.take,(.move (.tmp 18)),4⟩,⟨some 20,(some (19,true)),.take,(.move (.tmp 5)),3⟩,⟨some 21,(some (19,true)),.take,(.binOp .lss 3 (.tmp 20) (.const (.int .i64 30)) 3),4⟩,⟨some 22,none,.take,(.pick (.tmp 19) (.tmp 21) (.const (.bool false))),4⟩]) (.cond (.tmp 22) .skip (.exit 0))) (.seq (.block 1 (.seq (.ops [⟨some 25,none,.take,(.move (.tmp 0)),22⟩,⟨some 26,none,.take,(.move (.tmp 5)),3⟩,⟨some 27,none,.take,(.indexAddr 22 (.tmp 25) (.tmp 26)),0⟩,⟨some 28,none,.take,(.load 3 (.tmp 27)),3⟩,⟨some 29,none,.call,(.call ⟨(.value (.func 22)),#[(.tmp 28),(.const (.int .i64 12))],#[3,3]⟩),3⟩,⟨some 6,none,.take,(.assign (.tmp 29)),3⟩]) (.seq (.ops [⟨some 30,none,.take,(.move (.tmp 3)),24⟩,⟨some 31,none,.call,(.call ⟨(.value (.func 27)),#[(.tmp 30)],#[24]⟩),22⟩,⟨some 32,none,.take,(.call ⟨(.builtin .len),#[(.tmp 31)],#[22]⟩),3⟩,⟨some 7,none,.take,(.assign (.tmp 32)),3⟩]) (.seq (.ops [⟨some 33,none,.take,(.move (.tmp 3)),24⟩,⟨some 34,none,.take,(.move (.tmp 6)),3⟩,⟨some 35,none,.take,(.build 31 #[(0,(.const (.string (Tx [112,97,121])))),(1,(.tmp 34))]),31⟩,⟨some 36,none,.call,(.call ⟨(.value (.func 24)),#[(.tmp 33),(.tmp 35)],#[24,31]⟩),0⟩]) (.seq (.ops [⟨some 37,none,.take,(.move (.tmp 3)),24⟩,⟨some 38,none,.call,(.call ⟨(.value (.func 27)),#[(.tmp 37)],#[24]⟩),22⟩,⟨some 8,none,.take,(.assign (.tmp 38)),22⟩]) (.seq (.ops [⟨some 39,none,.take,(.move (.tmp 4)),3⟩,⟨some 40,none,.take,(.move (.tmp 8)),22⟩,⟨some 41,none,.take,(.call ⟨(.builtin .len),#[(.tmp 40)],#[22]⟩),3⟩,⟨some 42,none,.take,(.binOp .add 3 (.tmp 39) (.tmp 41) 3),3⟩,⟨some 43,none,.take,(.move (.tmp 7)),3⟩,⟨some 44,none,.take,(.binOp .sub 3 (.tmp 42) (.tmp 43) 3),3⟩,⟨some 4,none,.take,(.assign (.tmp 44)),3⟩]) (.seq (.ops [⟨some 9,none,.take,(.assign (.const (.int .i64 1))),3⟩]) (.block 2 (.loop (.seq (.seq (.ops [⟨some 45,none,.take,(.move (.tmp 9)),3⟩,⟨some 46,none,.take,(.move (.tmp 8)),22⟩,⟨some 47,none,.take,(.call ⟨(.builtin .len),#[(.tmp 46)],#[22]⟩),3⟩,⟨some 48,none,.take,(.binOp .lss 3 (.tmp 45) (.tmp 47) 3),4⟩]) (.cond (.tmp 48) .skip (.exit 2))) (.seq (.block 3 (.seq (.plan (.take 0 false ⟨some 51,none,.take,(.move (.tmp 8)),22⟩ (.take 1 false ⟨some 52,none,.take,(.move (.tmp 9)),3⟩ (.take 2 false ⟨some 53,none,.take,(.binOp .sub 3 (.tmp 52) (.const (.int .i64 1)) 3),3⟩ (.take 3 false ⟨some 54,none,.take,(.indexAddr 22 (.tmp 51) (.tmp 53)),0⟩ (.take 4 true ⟨some 55,none,.take,(.load 3 (.tmp 54)),3⟩ (.take 5 false ⟨some 56,none,.take,(.move (.tmp 8)),22⟩ (.take 6 false ⟨some 57,none,.take,(.move (.tmp 9)),3⟩ (.take 7 false ⟨some 58,none,.take,(.indexAddr 22 (.tmp 56) (.tmp 57)),0⟩ (.take 8 true ⟨some 59,none,.take,(.load 3 (.tmp 58)),3⟩ (.take 9 false ⟨some 60,none,.take,(.binOp .geq 3 (.tmp 55) (.tmp 59) 3),4⟩ .fin))))))))))) (.cond (.tmp 60) (.seq (.ops [⟨some 2,none,.take,(.assign (.const (.bool false))),4⟩]) .ret) .skip))) (.ops [⟨some 49,none,.take,(.move (.tmp 9)),3⟩,⟨some 50,none,.take,(.binOp .add 3 (.tmp 49) (.const (.int .i64 1)) 3),3⟩,⟨some 9,none,.take,(.assign (.tmp 50)),3⟩])))))))))))) (.ops [⟨some 23,none,.take,(.move (.tmp 5)),3⟩,⟨some 24,none,.take,(.binOp .add 3 (.tmp 23) (.const (.int .i64 1)) 3),3⟩,⟨some 5,none,.take,(.assign (.tmp 24)),3⟩])))
noncomputable def ir6_s1:IR:=(.seq (.ops [⟨some 61,none,.take,(.move (.tmp 3)),24⟩,⟨some 62,none,.call,(.call ⟨(.value (.func 21)),#[(.tmp 61)],#[24]⟩),36⟩,⟨some 63,none,.take,(.call ⟨(.builtin .len),#[(.tmp 62)],#[36]⟩),3⟩,⟨some 64,none,.take,(.move (.tmp 4)),3⟩,⟨some 65,none,.take,(.binOp .eql 3 (.tmp 63) (.tmp 64) 3),4⟩,⟨some 66,none,.take,(.move (.tmp 65)),4⟩,⟨some 67,(some (66,true)),.take,(.move (.tmp 3)),24⟩,⟨some 68,(some (66,true)),.call,(.call ⟨(.value (.func 27)),#[(.tmp 67)],#[24]⟩),22⟩,⟨some 69,(some (66,true)),.take,(.call ⟨(.builtin .len),#[(.tmp 68)],#[22]⟩),3⟩,⟨some 70,(some (66,true)),.take,(.move (.tmp 4)),3⟩,⟨some 71,(some (66,true)),.take,(.binOp .eql 3 (.tmp 69) (.tmp 70) 3),4⟩,⟨some 72,none,.take,(.pick (.tmp 66) (.tmp 71) (.const (.bool false))),4⟩,⟨some 2,none,.take,(.assign (.tmp 72)),4⟩]) .ret)
noncomputable def ir6_s2:IR:=(.seq (.seq (.ops [⟨some 45,none,.take,(.move (.tmp 9)),3⟩,⟨some 46,none,.take,(.move (.tmp 8)),22⟩,⟨some 47,none,.take,(.call ⟨(.builtin .len),#[(.tmp 46)],#[22]⟩),3⟩,⟨some 48,none,.take,(.binOp .lss 3 (.tmp 45) (.tmp 47) 3),4⟩]) (.cond (.tmp 48) .skip (.exit 2))) (.seq (.block 3 (.seq (.plan (.take 0 false ⟨some 51,none,.take,(.move (.tmp 8)),22⟩ (.take 1 false ⟨some 52,none,.take,(.move (.tmp 9)),3⟩ (.take 2 false ⟨some 53,none,.take,(.binOp .sub 3 (.tmp 52) (.const (.int .i64 1)) 3),3⟩ (.take 3 false ⟨some 54,none,.take,(.indexAddr 22 (.tmp 51) (.tmp 53)),0⟩ (.take 4 true ⟨some 55,none,.take,(.load 3 (.tmp 54)),3⟩ (.take 5 false ⟨some 56,none,.take,(.move (.tmp 8)),22⟩ (.take 6 false ⟨some 57,none,.take,(.move (.tmp 9)),3⟩ (.take 7 false ⟨some 58,none,.take,(.indexAddr 22 (.tmp 56) (.tmp 57)),0⟩ (.take 8 true ⟨some 59,none,.take,(.load 3 (.tmp 58)),3⟩ (.take 9 false ⟨some 60,none,.take,(.binOp .geq 3 (.tmp 55) (.tmp 59) 3),4⟩ .fin))))))))))) (.cond (.tmp 60) (.seq (.ops [⟨some 2,none,.take,(.assign (.const (.bool false))),4⟩]) .ret) .skip))) (.ops [⟨some 49,none,.take,(.move (.tmp 9)),3⟩,⟨some 50,none,.take,(.binOp .add 3 (.tmp 49) (.const (.int .i64 1)) 3),3⟩,⟨some 9,none,.take,(.assign (.tmp 50)),3⟩])))
noncomputable def ir6_s3:IR:=(.ops [⟨some 23,none,.take,(.move (.tmp 5)),3⟩,⟨some 24,none,.take,(.binOp .add 3 (.tmp 23) (.const (.int .i64 1)) 3),3⟩,⟨some 5,none,.take,(.assign (.tmp 24)),3⟩])
theorem sh_ir6 (G:Nat)(h:Heap)(a0:Value)(R:Value→Heap→Prop):vc3 (pp G) none ir6 ⟨(F73 a0 undef undef undef undef undef undef undef undef undef undef undef undef undef undef undef undef undef undef undef undef undef undef undef undef undef undef undef undef undef undef undef undef undef undef undef undef undef undef undef undef undef undef undef undef undef undef undef undef undef undef undef undef undef undef undef undef undef undef undef undef undef undef undef undef undef undef undef undef undef undef undef undef),[],h⟩ (finR prog [(.tmp 2)] R)=(oT (some (.bool false)) none h (@kk ⟨λv1 h2=>CallV (pp G) (.func (.func 10) #[] #[]) [] h2 (@kk ⟨λv3 h4=>oT (unV prog .not v3) none h4 (@kk ⟨λv5 h6=>vcond v5 (@kb ⟨oT (some (.bool false)) none h6 (@kk ⟨λv7 h8=>R v7 h8⟩)⟩) (@kb ⟨CallV (pp G) (.func (.func 11) #[] #[]) [(.slice none 0 0)] h6 (@kk ⟨λv9 h10=>oT (some v9) none h10 (@kk ⟨λv11 h12=>oT (some v11) none h12 (@kk ⟨λv13 h14=>oT (binPure prog .eql 24 (.tmp 13) (.const (.pointer none)) v13 (.pointer none)) none h14 (@kk ⟨λv15 h16=>vcond v15 (@kb ⟨oT (some (.bool false)) none h16 (@kk ⟨λv17 h18=>R v17 h18⟩)⟩) (@kb ⟨oT (some (.int .i64 0)) none h16 (@kk ⟨λv19 h20=>oT (some (.int .i64 0)) none h20 (@kk ⟨λv21 h22=>W (pp G) none (.loop ir6_s0) ⟨(F73 a0 undef v1 v11 v19 v21 undef undef undef undef v3 v5 v9 v13 v15 undef undef undef undef undef undef undef undef undef undef undef undef undef undef undef undef undef undef undef undef undef undef undef undef undef undef undef undef undef undef undef undef undef undef undef undef undef undef undef undef undef undef undef undef undef undef undef undef undef undef undef undef undef undef undef undef undef undef),[],h22⟩ (@kR ⟨outR3 0 (thenR3 (λs1=>vc3 (pp G) none ir6_s1 s1 (@kR ⟨finR prog [(.tmp 2)] R⟩)) (finR prog [(.tmp 2)] R))⟩)⟩)⟩)⟩)⟩)⟩)⟩)⟩)⟩)⟩)⟩)⟩)):=by kernel_rfl
theorem sh_ir10 (G:Nat)(h:Heap)(R:Value→Heap→Prop):vc3 (pp G) none ir10 ⟨(F56 undef undef undef undef undef undef undef undef undef undef undef undef undef undef undef undef undef undef undef undef undef undef undef undef undef undef undef undef undef undef undef undef undef undef undef undef undef undef undef undef undef undef undef undef undef undef undef undef undef undef undef undef undef undef undef undef),[],h⟩ (finR prog [(.tmp 0)] R)=(oT (some (.bool false)) none h (@kk ⟨λv1 h2=>oE (bsE (slT prog 22) 1 [(0,(.int .i64 7))] h2) (@kk ⟨λv3 h4=>CallV (pp G) (.func (.func 11) #[] #[]) [v3] h4 (@kk ⟨λv5 h6=>oT (some v5) none h6 (@kk ⟨λv7 h8=>oT (some v7) none h8 (@kk ⟨λv9 h10=>oT (binPure prog .eql 24 (.tmp 8) (.const (.pointer none)) v9 (.pointer none)) none h10 (@kk ⟨λv11 h12=>oT (some v11) none h12 (@kk ⟨λv13 h14=>gT v13 false (some v7) none h14 (@kk ⟨λv15 h16=>gC (pp G) v13 false (.func (.func 21) #[] #[]) [v15] h16 (@kk ⟨λv17 h18=>gT v13 false (lnB (lnT prog 36) v17) none h18 (@kk ⟨λv19 h20=>gT v13 false (binPure prog .neq 3 (.tmp 13) (.const (.int .i64 0)) v19 (.int .i64 0)) none h20 (@kk ⟨λv21 h22=>oT (pickV v13 (.bool true) v21) none h22 (@kk ⟨λv23 h24=>vcond v23 (@kb ⟨oT (some (.bool false)) none h24 (@kk ⟨λv25 h26=>R v25 h26⟩)⟩) (@kb ⟨oT (some v7) none h24 (@kk ⟨λv27 h28=>oT (bdV (plc prog 31) [(0,(.string (Tx [112,97,121]))),(1,(.int .i64 3))]) none h28 (@kk ⟨λv29 h30=>CallV (pp G) (.func (.func 24) #[] #[]) [v27,v29] h30 (@kk ⟨λv31 h32=>oT (some v7) none h32 (@kk ⟨λv33 h34=>CallV (pp G) (.func (.func 15) #[] #[]) [v33,(.int .i64 0)] h34 (@kk ⟨λv35 h36=>oT (some v35) none h36 (@kk ⟨λv37 h38=>oT (extV v37 0) none h38 (@kk ⟨λv39 h40=>oT (extV v37 1) none h40 (@kk ⟨λv41 h42=>oE (alE (zro prog 31) 31 h42) (@kk ⟨λv43 h44=>oE (stE (szT prog 31) v43 v39 h44) (@kk ⟨λv45 h46=>oT (some v41) none h46 (@kk ⟨λv47 h48=>oT (some v7) none h48 (@kk ⟨λv49 h50=>CallV (pp G) (.func (.func 15) #[] #[]) [v49,(.int .i64 0)] h50 (@kk ⟨λv51 h52=>oT (some v51) none h52 (@kk ⟨λv53 h54=>oT (extV v53 0) none h54 (@kk ⟨λv55 h56=>oT (extV v53 1) none h56 (@kk ⟨λv57 h58=>oE (alE (zro prog 31) 31 h58) (@kk ⟨λv59 h60=>oE (stE (szT prog 31) v59 v55 h60) (@kk ⟨λv61 h62=>oT (some v57) none h62 (@kk ⟨λv63 h64=>oT (some v47) none h64 (@kk ⟨λv65 h66=>oT (unV prog .not v65) none h66 (@kk ⟨λv67 h68=>oT (some v67) none h68 (@kk ⟨λv69 h70=>gT v69 true (some v63) none h70 (@kk ⟨λv71 h72=>oT (pickV v69 v71 (.bool false)) none h72 (@kk ⟨λv73 h74=>oT (some v73) none h74 (@kk ⟨λv75 h76=>gT v75 true (faV (fld prog 31 2) v59) none h76 (@kk ⟨λv77 h78=>gT v75 true (evLoad prog 3 v77 h78) none h78 (@kk ⟨λv79 h80=>gT v75 true (binPure prog .eql 3 (.tmp 36) (.const (.int .i64 7)) v79 (.int .i64 7)) none h80 (@kk ⟨λv81 h82=>oT (pickV v75 v81 (.bool false)) none h82 (@kk ⟨λv83 h84=>oT (some v83) none h84 (@kk ⟨λv85 h86=>gT v85 true (faV (fld prog 31 1) v59) none h86 (@kk ⟨λv87 h88=>gT v85 true (evLoad prog 3 v87 h88) none h88 (@kk ⟨λv89 h90=>gT v85 true (binPure prog .eql 3 (.tmp 41) (.const (.int .i64 3)) v89 (.int .i64 3)) none h90 (@kk ⟨λv91 h92=>oT (pickV v85 v91 (.bool false)) none h92 (@kk ⟨λv93 h94=>oT (some v93) none h94 (@kk ⟨λv95 h96=>gT v95 true (some v7) none h96 (@kk ⟨λv97 h98=>gC (pp G) v95 true (.func (.func 23) #[] #[]) [v97] h98 (@kk ⟨λv99 h100=>gT v95 true (lnB (lnT prog 39) v99) none h100 (@kk ⟨λv101 h102=>gT v95 true (binPure prog .eql 3 (.tmp 47) (.const (.int .i64 1)) v101 (.int .i64 1)) none h102 (@kk ⟨λv103 h104=>oT (pickV v95 v103 (.bool false)) none h104 (@kk ⟨λv105 h106=>oT (some v105) none h106 (@kk ⟨λv107 h108=>gT v107 true (some v7) none h108 (@kk ⟨λv109 h110=>gC (pp G) v107 true (.func (.func 27) #[] #[]) [v109] h110 (@kk ⟨λv111 h112=>gT v107 true (lnB (lnT prog 22) v111) none h112 (@kk ⟨λv113 h114=>gT v107 true (binPure prog .eql 3 (.tmp 53) (.const (.int .i64 0)) v113 (.int .i64 0)) none h114 (@kk ⟨λv115 h116=>oT (pickV v107 v115 (.bool false)) none h116 (@kk ⟨λv117 h118=>oT (some v117) none h118 (@kk ⟨λv119 h120=>R v119 h120⟩)⟩)⟩)⟩)⟩)⟩)⟩)⟩)⟩)⟩)⟩)⟩)⟩)⟩)⟩)⟩)⟩)⟩)⟩)⟩)⟩)⟩)⟩)⟩)⟩)⟩)⟩)⟩)⟩)⟩)⟩)⟩)⟩)⟩)⟩)⟩)⟩)⟩)⟩)⟩)⟩)⟩)⟩)⟩)⟩)⟩)⟩)⟩)⟩)⟩)⟩)⟩)⟩)⟩)⟩)⟩)⟩)⟩)⟩)⟩)):=by kernel_rfl
theorem sh_ir22 (G:Nat)(h:Heap)(a0 a1:Value)(R:Value→Heap→Prop):vc3 (pp G) none ir22 ⟨(F15 a0 a1 undef undef undef undef undef undef undef undef undef undef undef undef undef),[],h⟩ (finR prog [(.tmp 4)] R)=(oT (some (.int .i64 0)) none h (@kk ⟨λv1 h2=>oT (some a0) none h2 (@kk ⟨λv3 h4=>oT (some a1) none h4 (@kk ⟨λv5 h6=>oT (binPure prog .rem 3 (.tmp 6) (.tmp 7) v3 v5) none h6 (@kk ⟨λv7 h8=>oT (some v7) none h8 (@kk ⟨λv9 h10=>oT (some v9) none h10 (@kk ⟨λv11 h12=>oT (binPure prog .lss 3 (.tmp 9) (.const (.int .i64 0)) v11 (.int .i64 0)) none h12 (@kk ⟨λv13 h14=>vcond v13 (@kb ⟨oT (some v9) none h14 (@kk ⟨λv15 h16=>oT (some a1) none h16 (@kk ⟨λv17 h18=>oT (binPure prog .add 3 (.tmp 11) (.tmp 12) v15 v17) none h18 (@kk ⟨λv19 h20=>oT (some v19) none h20 (@kk ⟨λv21 h22=>oT (some v21) none h22 (@kk ⟨λv23 h24=>oT (some v23) none h24 (@kk ⟨λv25 h26=>R v25 h26⟩)⟩)⟩)⟩)⟩)⟩)⟩) (@kb ⟨oT (some v9) none h14 (@kk ⟨λv27 h28=>oT (some v27) none h28 (@kk ⟨λv29 h30=>R v29 h30⟩)⟩)⟩)⟩)⟩)⟩)⟩)⟩)⟩)⟩)):=by kernel_rfl
theorem sh_ir6_s0 (G:Nat)(ro:Option Nat)(df:List Nat)(h:Heap)(x0 x1 x2 x3 x4 x5 x6 x7 x8 x9 xA xB xC xD xE xF xG xH xI xJ xK xL xM xN xO xP xQ xR xS xT xU xV xW xX xY xZ yA yB yC yD yE yF yG yH yI yJ yK yL yM yN yO yP yQ yR yS yT yU yV yW yX yY yZ zA zB zC zD zE zF zG zH zI zJ zK:Value)(R:XExit→S→Prop):vc3 (pp G) ro ir6_s0 ⟨(F73 x0 x1 x2 x3 x4 x5 x6 x7 x8 x9 xA xB xC xD xE xF xG xH xI xJ xK xL xM xN xO xP xQ xR xS xT xU xV xW xX xY xZ yA yB yC yD yE yF yG yH yI yJ yK yL yM yN yO yP yQ yR yS yT yU yV yW yX yY yZ zA zB zC zD zE zF zG zH zI zJ zK),df,h⟩ R=(oT (some x5) none h (@kk ⟨λv1 h2=>oT (some x0) none h2 (@kk ⟨λv3 h4=>oT (lnB (lnT prog 22) v3) none h4 (@kk ⟨λv5 h6=>oT (binPure prog .lss 3 (.tmp 15) (.tmp 17) v1 v5) none h6 (@kk ⟨λv7 h8=>oT (some v7) none h8 (@kk ⟨λv9 h10=>gT v9 true (some x5) none h10 (@kk ⟨λv11 h12=>gT v9 true (binPure prog .lss 3 (.tmp 20) (.const (.int .i64 30)) v11 (.int .i64 30)) none h12 (@kk ⟨λv13 h14=>oT (pickV v9 v13 (.bool false)) none h14 (@kk ⟨λv15 h16=>vcond v15 (@kb ⟨oT (some x0) none h16 (@kk ⟨λv17 h18=>oT (some x5) none h18 (@kk ⟨λv19 h20=>oT (iaV (esz prog 22) v17 v19) none h20 (@kk ⟨λv21 h22=>oT (evLoad prog 3 v21 h22) none h22 (@kk ⟨λv23 h24=>CallV (pp G) (.func (.func 22) #[] #[]) [v23,(.int .i64 12)] h24 (@kk ⟨λv25 h26=>oT (some v25) none h26 (@kk ⟨λv27 h28=>oT (some x3) none h28 (@kk ⟨λv29 h30=>CallV (pp G) (.func (.func 27) #[] #[]) [v29] h30 (@kk ⟨λv31 h32=>oT (lnB (lnT prog 22) v31) none h32 (@kk ⟨λv33 h34=>oT (some v33) none h34 (@kk ⟨λv35 h36=>oT (some x3) none h36 (@kk ⟨λv37 h38=>oT (some v27) none h38 (@kk ⟨λv39 h40=>oT (bdV (plc prog 31) [(0,(.string (Tx [112,97,121]))),(1,v39)]) none h40 (@kk ⟨λv41 h42=>CallV (pp G) (.func (.func 24) #[] #[]) [v37,v41] h42 (@kk ⟨λv43 h44=>oT (some x3) none h44 (@kk ⟨λv45 h46=>CallV (pp G) (.func (.func 27) #[] #[]) [v45] h46 (@kk ⟨λv47 h48=>oT (some v47) none h48 (@kk ⟨λv49 h50=>oT (some x4) none h50 (@kk ⟨λv51 h52=>oT (some v49) none h52 (@kk ⟨λv53 h54=>oT (lnB (lnT prog 22) v53) none h54 (@kk ⟨λv55 h56=>oT (binPure prog .add 3 (.tmp 39) (.tmp 41) v51 v55) none h56 (@kk ⟨λv57 h58=>oT (some v35) none h58 (@kk ⟨λv59 h60=>oT (binPure prog .sub 3 (.tmp 42) (.tmp 43) v57 v59) none h60 (@kk ⟨λv61 h62=>oT (some v61) none h62 (@kk ⟨λv63 h64=>oT (some (.int .i64 1)) none h64 (@kk ⟨λv65 h66=>W (pp G) ro (.loop ir6_s2) ⟨(F73 x0 x1 x2 x3 v63 x5 v27 v35 v49 v65 xA xB xC xD xE v1 v3 v5 v7 v9 v11 v13 v15 xN xO v17 v19 v21 v23 v25 v29 v31 v33 v37 v39 v41 v43 v45 v47 v51 v53 v55 v57 v59 v61 yJ yK yL yM yN yO yP yQ yR yS yT yU yV yW yX yY yZ zA zB zC zD zE zF zG zH zI zJ zK),df,h66⟩ (@kR ⟨outR3 2 (outR3 1 (thenR3 (λs1=>vc3 (pp G) ro ir6_s3 s1 (@kR ⟨R⟩)) R))⟩)⟩)⟩)⟩)⟩)⟩)⟩)⟩)⟩)⟩)⟩)⟩)⟩)⟩)⟩)⟩)⟩)⟩)⟩)⟩)⟩)⟩)⟩)⟩)⟩)⟩)⟩) (@kb ⟨R (.exit 0) ⟨(F73 x0 x1 x2 x3 x4 x5 x6 x7 x8 x9 xA xB xC xD xE v1 v3 v5 v7 v9 v11 v13 v15 xN xO xP xQ xR xS xT xU xV xW xX xY xZ yA yB yC yD yE yF yG yH yI yJ yK yL yM yN yO yP yQ yR yS yT yU yV yW yX yY yZ zA zB zC zD zE zF zG zH zI zJ zK),df,h16⟩⟩)⟩)⟩)⟩)⟩)⟩)⟩)⟩)⟩)):=by kernel_rfl
attribute [push_cast] sh_ir6_s0
theorem sh_ir6_s1 (G:Nat)(ro:Option Nat)(df:List Nat)(h:Heap)(x0 x1 x2 x3 x4 x5 x6 x7 x8 x9 xA xB xC xD xE xF xG xH xI xJ xK xL xM xN xO xP xQ xR xS xT xU xV xW xX xY xZ yA yB yC yD yE yF yG yH yI yJ yK yL yM yN yO yP yQ yR yS yT yU yV yW yX yY yZ zA zB zC zD zE zF zG zH zI zJ zK:Value)(R:XExit→S→Prop):vc3 (pp G) ro ir6_s1 ⟨(F73 x0 x1 x2 x3 x4 x5 x6 x7 x8 x9 xA xB xC xD xE xF xG xH xI xJ xK xL xM xN xO xP xQ xR xS xT xU xV xW xX xY xZ yA yB yC yD yE yF yG yH yI yJ yK yL yM yN yO yP yQ yR yS yT yU yV yW yX yY yZ zA zB zC zD zE zF zG zH zI zJ zK),df,h⟩ R=(oT (some x3) none h (@kk ⟨λv1 h2=>CallV (pp G) (.func (.func 21) #[] #[]) [v1] h2 (@kk ⟨λv3 h4=>oT (lnB (lnT prog 36) v3) none h4 (@kk ⟨λv5 h6=>oT (some x4) none h6 (@kk ⟨λv7 h8=>oT (binPure prog .eql 3 (.tmp 63) (.tmp 64) v5 v7) none h8 (@kk ⟨λv9 h10=>oT (some v9) none h10 (@kk ⟨λv11 h12=>gT v11 true (some x3) none h12 (@kk ⟨λv13 h14=>gC (pp G) v11 true (.func (.func 27) #[] #[]) [v13] h14 (@kk ⟨λv15 h16=>gT v11 true (lnB (lnT prog 22) v15) none h16 (@kk ⟨λv17 h18=>gT v11 true (some x4) none h18 (@kk ⟨λv19 h20=>gT v11 true (binPure prog .eql 3 (.tmp 69) (.tmp 70) v17 v19) none h20 (@kk ⟨λv21 h22=>oT (pickV v11 v21 (.bool false)) none h22 (@kk ⟨λv23 h24=>oT (some v23) none h24 (@kk ⟨λv25 h26=>R .ret ⟨(F73 x0 x1 v25 x3 x4 x5 x6 x7 x8 x9 xA xB xC xD xE xF xG xH xI xJ xK xL xM xN xO xP xQ xR xS xT xU xV xW xX xY xZ yA yB yC yD yE yF yG yH yI yJ yK yL yM yN yO yP yQ yR yS yT yU yV yW yX yY v1 v3 v5 v7 v9 v11 v13 v15 v17 v19 v21 v23),df,h26⟩⟩)⟩)⟩)⟩)⟩)⟩)⟩)⟩)⟩)⟩)⟩)⟩)⟩)):=by kernel_rfl
attribute [push_cast] sh_ir6_s1
theorem sh_ir6_s2 (G:Nat)(ro:Option Nat)(df:List Nat)(h:Heap)(x0 x1 x2 x3 x4 x5 x6 x7 x8 x9 xA xB xC xD xE xF xG xH xI xJ xK xL xM xN xO xP xQ xR xS xT xU xV xW xX xY xZ yA yB yC yD yE yF yG yH yI yJ yK yL yM yN yO yP yQ yR yS yT yU yV yW yX yY yZ zA zB zC zD zE zF zG zH zI zJ zK:Value)(R:XExit→S→Prop):vc3 (pp G) ro ir6_s2 ⟨(F73 x0 x1 x2 x3 x4 x5 x6 x7 x8 x9 xA xB xC xD xE xF xG xH xI xJ xK xL xM xN xO xP xQ xR xS xT xU xV xW xX xY xZ yA yB yC yD yE yF yG yH yI yJ yK yL yM yN yO yP yQ yR yS yT yU yV yW yX yY yZ zA zB zC zD zE zF zG zH zI zJ zK),df,h⟩ R=(oT (some x9) none h (@kk ⟨λv1 h2=>oT (some x8) none h2 (@kk ⟨λv3 h4=>oT (lnB (lnT prog 22) v3) none h4 (@kk ⟨λv5 h6=>oT (binPure prog .lss 3 (.tmp 45) (.tmp 47) v1 v5) none h6 (@kk ⟨λv7 h8=>vcond v7 (@kb ⟨oP (some x8) h8 (@kk ⟨λv9 _=>oP (some x9) h8 (@kk ⟨λv10 _=>oP (binPure prog .sub 3 (.tmp 52) (.const (.int .i64 1)) v10 (.int .i64 1)) h8 (@kk ⟨λv11 _=>oP (iaV (esz prog 22) v9 v11) h8 (@kk ⟨λv12 _=>oP (evLoad prog 3 v12 h8) h8 (@kk ⟨λv13 _=>oP (some x8) h8 (@kk ⟨λv15 _=>oP (some x9) h8 (@kk ⟨λv16 _=>oP (iaV (esz prog 22) v15 v16) h8 (@kk ⟨λv17 _=>oP (evLoad prog 3 v17 h8) h8 (@kk ⟨λv18 _=>oP (binPure prog .geq 3 (.tmp 55) (.tmp 59) v13 v18) h8 (@kk ⟨λv20 _=>vcond v20 (@kb ⟨oT (some (.bool false)) none h8 (@kk ⟨λv21 h22=>R .ret ⟨(F73 x0 x1 v21 x3 x4 x5 x6 x7 x8 x9 xA xB xC xD xE xF xG xH xI xJ xK xL xM xN xO xP xQ xR xS xT xU xV xW xX xY xZ yA yB yC yD yE yF yG yH yI v1 v3 v5 v7 yN yO v9 v10 v11 v12 v13 v15 v16 v17 v18 v20 yZ zA zB zC zD zE zF zG zH zI zJ zK),df,h22⟩⟩)⟩) (@kb ⟨oT (some x9) none h8 (@kk ⟨λv23 h24=>oT (binPure prog .add 3 (.tmp 49) (.const (.int .i64 1)) v23 (.int .i64 1)) none h24 (@kk ⟨λv25 h26=>oT (some v25) none h26 (@kk ⟨λv27 h28=>R .normal ⟨(F73 x0 x1 x2 x3 x4 x5 x6 x7 x8 v27 xA xB xC xD xE xF xG xH xI xJ xK xL xM xN xO xP xQ xR xS xT xU xV xW xX xY xZ yA yB yC yD yE yF yG yH yI v1 v3 v5 v7 v23 v25 v9 v10 v11 v12 v13 v15 v16 v17 v18 v20 yZ zA zB zC zD zE zF zG zH zI zJ zK),df,h28⟩⟩)⟩)⟩)⟩)⟩)⟩)⟩)⟩)⟩)⟩)⟩)⟩)⟩)⟩)⟩) (@kb ⟨R (.exit 2) ⟨(F73 x0 x1 x2 x3 x4 x5 x6 x7 x8 x9 xA xB xC xD xE xF xG xH xI xJ xK xL xM xN xO xP xQ xR xS xT xU xV xW xX xY xZ yA yB yC yD yE yF yG yH yI v1 v3 v5 v7 yN yO yP yQ yR yS yT yU yV yW yX yY yZ zA zB zC zD zE zF zG zH zI zJ zK),df,h8⟩⟩)⟩)⟩)⟩)⟩)):=by kernel_rfl
attribute [push_cast] sh_ir6_s2
theorem sh_ir6_s3 (G:Nat)(ro:Option Nat)(df:List Nat)(h:Heap)(x0 x1 x2 x3 x4 x5 x6 x7 x8 x9 xA xB xC xD xE xF xG xH xI xJ xK xL xM xN xO xP xQ xR xS xT xU xV xW xX xY xZ yA yB yC yD yE yF yG yH yI yJ yK yL yM yN yO yP yQ yR yS yT yU yV yW yX yY yZ zA zB zC zD zE zF zG zH zI zJ zK:Value)(R:XExit→S→Prop):vc3 (pp G) ro ir6_s3 ⟨(F73 x0 x1 x2 x3 x4 x5 x6 x7 x8 x9 xA xB xC xD xE xF xG xH xI xJ xK xL xM xN xO xP xQ xR xS xT xU xV xW xX xY xZ yA yB yC yD yE yF yG yH yI yJ yK yL yM yN yO yP yQ yR yS yT yU yV yW yX yY yZ zA zB zC zD zE zF zG zH zI zJ zK),df,h⟩ R=(oT (some x5) none h (@kk ⟨λv1 h2=>oT (binPure prog .add 3 (.tmp 23) (.const (.int .i64 1)) v1 (.int .i64 1)) none h2 (@kk ⟨λv3 h4=>oT (some v3) none h4 (@kk ⟨λv5 h6=>R .normal ⟨(F73 x0 x1 x2 x3 x4 v5 x6 x7 x8 x9 xA xB xC xD xE xF xG xH xI xJ xK xL xM v1 v3 xP xQ xR xS xT xU xV xW xX xY xZ yA yB yC yD yE yF yG yH yI yJ yK yL yM yN yO yP yQ yR yS yT yU yV yW yX yY yZ zA zB zC zD zE zF zG zH zI zJ zK),df,h6⟩⟩)⟩)⟩)):=by kernel_rfl
attribute [push_cast] sh_ir6_s3
end
end Go.Proofs.Ytejgmoenmbjidaa
namespace Go.Proofs.Ytejgmoenmbjidaa
open _root_.Go.Proofs.Try (prog)
open Go Go.RowKit Go.Ev
noncomputable section
set_option maxRecDepth 100000
variable (G:Nat) (h:Heap)
theorem g_lon {h h':Heap}{S:Nat→Prop}(g:Grew h h' S)(hl:h.lo≤h.next):h'.lo≤h'.next:=by have:=g.lo;have:=g.next;omega
theorem within_w (a m:Int)(h1:1≤m)(h2:m<1000000):CallE (pp G) 22 [.int .i64 a,.int .i64 m] h (λv h'=>v=.int .i64 (Wi' a m)∧h'=h):=by
 refine CallE.fir4 (good G) fir22 rfl rfl (F15_arr ..) λhlo=>?_
 rw[sh_ir22]
 have hlt:=Int.tmod_lt_of_pos a (show 0<m by omega)
 have hgt:=Int.lt_tmod_of_pos a (show 0<m by omega)
 have hw:IntKind.i64.wrap (a.tmod m)=a.tmod m:=wrap_i64 (by omega) (by omega)
 have hm:m≠0:=by omega
 unfold Wi'
 by_cases hc:a.tmod m<0
 ·have hw2:IntKind.i64.wrap (a.tmod m+m)=a.tmod m+m:=wrap_i64 (by omega) (by omega)
  simp(disch:=first|omega|(apply id;simp only[push_cast];first|done|omega))only[push_cast,Nat.reduceAdd,Nat.reduceMul,Nat.reduceSub,Nat.reduceLT,Nat.reduceEqDiff,Nat.reduceLeDiff,Int.reduceToNat,reduceCtorEq,Int.reduceLT,Int.reduceLE,Int.reduceAdd,Int.reduceSub,Int.reduceMul,Int.reduceNeg,Int.reduceEq,hw,hm,hc,hw2]
 ·simp(disch:=first|omega|(apply id;simp only[push_cast];first|done|omega))only[push_cast,Nat.reduceAdd,Nat.reduceMul,Nat.reduceSub,Nat.reduceLT,Nat.reduceEqDiff,Nat.reduceLeDiff,Int.reduceToNat,reduceCtorEq,Int.reduceLT,Int.reduceLE,Int.reduceAdd,Int.reduceSub,Int.reduceMul,Int.reduceNeg,Int.reduceEq,hw,hm,hc]
def pay:List UInt8:=[112,97,121]
theorem known_w:CallE (pp G) 10 [] h (λv h'=>v=.bool true∧Gr h h'):=by
 refine CallE.fir4 (good G) fir10 rfl rfl (F56_arr ..) λhlo=>?_
 rw[sh_ir10]
 have hr:bsC 1 3 h (fillQ (List.map (λi=>(i,1)) (List.range 1)) (List.replicate 1 [Value.int IntKind.i64 0]).flatten (.int .i64 7) [] (List.map (λi=>(i,1)) (List.range 1))[0]?)=some (.slice (some ⟨h.next,0,none⟩) 1 1,h.add (O [.int .i64 7] 3 false)):=rowI h 7
 simp(disch:=first|omega|(apply id;simp only[push_cast];first|done|omega))only[push_cast,Nat.reduceAdd,Nat.reduceMul,Nat.reduceSub,Nat.reduceLT,Nat.reduceEqDiff,Nat.reduceLeDiff,Int.reduceToNat,reduceCtorEq,Int.reduceLT,Int.reduceLE,Int.reduceAdd,Int.reduceSub,Int.reduceMul,Int.reduceNeg,Int.reduceEq,hr]
 have c1:=cells_add_s (h:=h) [.int .i64 7] 3 false h.next rfl
 have g1:Gr h (h.add (O [.int .i64 7] 3 false)):=Grew.add _ _ _
 have n1:(h.add (O [.int .i64 7] 3 false)).next=h.next+1:=next_add _
 have l1:=g1.lo
 generalize h.add (O [.int .i64 7] 3 false)=h1 at *
 refine CallE.to (new_p G h1 [7] _ 1 (Sl.row c1 (by omega)) (λb hb=>by obtain ⟨o,s,e⟩:=hb;cases e;omega) (by decide) (λe=>by cases e)) ?_
 rintro _ h2 ⟨⟨p,rfl,a2⟩,g2⟩
 have gg:Gr h h2:=g1.tr' g2 λ_ _ h=>h
 simp(disch:=first|omega|(apply id;simp only[push_cast];first|done|omega))only[push_cast,Nat.reduceAdd,Nat.reduceMul,Nat.reduceSub,Nat.reduceLT,Nat.reduceEqDiff,Nat.reduceLeDiff,Int.reduceToNat,reduceCtorEq,Int.reduceLT,Int.reduceLE,Int.reduceAdd,Int.reduceSub,Int.reduceMul,Int.reduceNeg,Int.reduceEq]
 refine CallE.to (flight_p G a2 (new_ok _) (by decide)) ?_
 rintro _ h3 ⟨⟨af,cf,rfl,_⟩,g3⟩
 have z:((newW [7]).fl.length:Int)=0:=rfl
 have a3:=a2.grew g3 λ_ _ _ h=>h
 have ee:Value.agg ⟨[.string (Tx [112,97,121]),.int .i64 3,.int .i64 0]⟩=.agg ⟨evC ⟨pay,3,0⟩⟩:=rfl
 simp(disch:=first|omega|(apply id;simp only[push_cast];first|done|omega))only[push_cast,Nat.reduceAdd,Nat.reduceMul,Nat.reduceSub,Nat.reduceLT,Nat.reduceEqDiff,Nat.reduceLeDiff,Int.reduceToNat,reduceCtorEq,Int.reduceLT,Int.reduceLE,Int.reduceAdd,Int.reduceSub,Int.reduceMul,Int.reduceNeg,Int.reduceEq,z,ee]
 refine CallE.to (ask_p G a3 (new_ok _) (by decide) ⟨pay,3,0⟩) ?_
 rintro _ h4 ⟨rfl,g4⟩
 have a4:=g4.at_
 simp(disch:=first|omega|(apply id;simp only[push_cast];first|done|omega))only[push_cast,Nat.reduceAdd,Nat.reduceMul,Nat.reduceSub,Nat.reduceLT,Nat.reduceEqDiff,Nat.reduceLeDiff,Int.reduceToNat,reduceCtorEq,Int.reduceLT,Int.reduceLE,Int.reduceAdd,Int.reduceSub,Int.reduceMul,Int.reduceNeg,Int.reduceEq]
 refine CallE.to (deliver_p G a4 (ask_ok (new_ok _) _ _) (by decide) 0) ?_
 rintro _ h5 ⟨rfl,g5⟩
 have a5:=g5.at_
 have d1:deliverW (askW (newW [7]) pay 3) 0=((e0,false),{ askW (newW [7]) pay 3 with fl:=[⟨true,⟨pay,3,7⟩⟩],ap:=[⟨pay,3,7⟩],kp:=[⟨pay,3,7⟩] }):=rfl
 rw[d1] at a5 ⊢
 have ok5:=deliver_ok (ask_ok (new_ok [7]) pay 3) 0
 rw[d1] at ok5
 dsimp only at a5 ok5 ⊢
 have hz:evC e0=[.string (Tx []),.int .i64 0,.int .i64 0]:=rfl
 rw[hz]
 have l5:=g_lon g5.gr (g_lon g4.gr (g_lon g3 (g_lon g2 (g_lon g1 hlo))))
 simp(disch:=first|omega|(apply id;simp only[push_cast];first|done|omega))only[push_cast,Nat.reduceAdd,Nat.reduceMul,Nat.reduceSub,Nat.reduceLT,Nat.reduceEqDiff,Nat.reduceLeDiff,Int.reduceToNat,reduceCtorEq,Int.reduceLT,Int.reduceLE,Int.reduceAdd,Int.reduceSub,Int.reduceMul,Int.reduceNeg,Int.reduceEq,l5]
 have a6:=λ(x y:AObj)=>a5.grew (((Gr.refl h5).add' x).put' h5.next y (Nat.le_refl _)) λ_ _ _ h=>h
 refine CallE.to (deliver_p G (a6 _ _) ok5 (by decide) 0) ?_
 rintro _ h7 ⟨rfl,g7⟩
 have a7:=g7.at_
 have d2:deliverW { askW (newW [7]) pay 3 with fl:=[⟨true,⟨pay,3,7⟩⟩],ap:=[⟨pay,3,7⟩],kp:=[⟨pay,3,7⟩] } 0=((⟨pay,3,7⟩,true),⟨[7],0,[],[],[⟨pay,3,7⟩],[⟨pay,3,7⟩]⟩):=rfl
 have ok7:=deliver_ok ok5 0
 dsimp only at d2 a7 ok7 ⊢
 rw[d2] at a7 ok7 ⊢
 dsimp only at a7 ok7 ⊢
 unfold evC pay
 dsimp only
 have g6:Gr h5 ((h5.add (O [.string (Tx []),.int .i64 0,.int .i64 0] 31 false)).put h5.next (O [.string (Tx []),.int .i64 0,.int .i64 0] 31 false)):=((Gr.refl h5).add' _).put' h5.next _ (Nat.le_refl _)
 have l7:=g_lon g7.gr (g_lon g6 l5)
 have a8:=λ(x y:AObj)=>a7.grew (((Gr.refl h7).add' x).put' h7.next y (Nat.le_refl _)) λ_ _ _ h=>h
 simp(disch:=first|omega|(apply id;simp only[push_cast];first|done|omega))only[push_cast,Nat.reduceAdd,Nat.reduceMul,Nat.reduceSub,Nat.reduceLT,Nat.reduceEqDiff,Nat.reduceLeDiff,Int.reduceToNat,reduceCtorEq,Int.reduceLT,Int.reduceLE,Int.reduceAdd,Int.reduceSub,Int.reduceMul,Int.reduceNeg,Int.reduceEq,l7]
 refine CallE.to (applied_p G (a8 _ _) ok7 (by decide)) ?_
 rintro _ h9 ⟨⟨ap,cp,rfl,_⟩,g9⟩
 have a9:=(a8 _ _).grew g9 λ_ _ _ h=>h
 have z2:(([⟨pay,3,7⟩]:List Evt).length:Int)=1:=rfl
 simp(disch:=first|omega|(apply id;simp only[push_cast];first|done|omega))only[push_cast,Nat.reduceAdd,Nat.reduceMul,Nat.reduceSub,Nat.reduceLT,Nat.reduceEqDiff,Nat.reduceLeDiff,Int.reduceToNat,reduceCtorEq,Int.reduceLT,Int.reduceLE,Int.reduceAdd,Int.reduceSub,Int.reduceMul,Int.reduceNeg,Int.reduceEq,z2]
 refine CallE.to (open_p G a9 ok7 (by decide)) ?_
 rintro _ h10 ⟨⟨ao,co,rfl,_⟩,g10⟩
 have z3:(([]:List Opn).length:Int)=0:=rfl
 simp(disch:=first|omega|(apply id;simp only[push_cast];first|done|omega))only[push_cast,Nat.reduceAdd,Nat.reduceMul,Nat.reduceSub,Nat.reduceLT,Nat.reduceEqDiff,Nat.reduceLeDiff,Int.reduceToNat,reduceCtorEq,Int.reduceLT,Int.reduceLE,Int.reduceAdd,Int.reduceSub,Int.reduceMul,Int.reduceNeg,Int.reduceEq,z3]
 have m2:=gg.next
 have m3:=g3.next
 have H6:Gr h h5:=((gg.tr' g3 λ_ _ h=>h).tr' g4.gr λb hb e=>by omega).tr' g5.gr λb hb e=>by omega
 exact (((((H6.tr' g6 λ_ _ h=>h).tr' g7.gr λb hb e=>by have:=g4.gr.next;omega).tr' (((Gr.refl h7).add' _).put' h7.next _ (Nat.le_refl _)) λ_ _ h=>h).tr' g9 λ_ _ h=>h).tr' g10 λ_ _ h=>h)
end
end Go.Proofs.Ytejgmoenmbjidaa
namespace Go.Proofs.Ytejgmoenmbjidaa
open _root_.Go.Proofs.Try (prog)
open Go Go.RowKit Go.Ev
noncomputable section
set_option maxRecDepth 100000
variable (G:Nat) (h:Heap)
theorem Sl.num {h:Heap}{a:Option Addr}{xs:List Int}(s:Sl h a (ivs xs)){i:Nat}(hi:i<xs.length):∃ b off,a=some ⟨b,off,none⟩∧ldC (some (false,0)) (off+i) h.lo b (cells h b)=some (.int .i64 (xs.getD i 0)):=by
 obtain ⟨b,off,e,hl⟩:=Sl.load s T_knd_3 (ivs_get hi)
 rw[load_eq,T_knd_3] at hl
 exact ⟨b,off,e,hl⟩
inductive I6b (h2:Heap)(a0:Value)(p n:Nat)(nn i:Int)(aa:Option Addr)(c:Nat):Nat→S→Prop
 | mk {j:Nat} {jv:Int} {x1 x2 x6 x7 xA xB xC xD xE xF xG xH xI xJ xK xL xM xN xO xP xQ xR xS xT xU xV xW xX xY xZ yA yB yC yD yE yF yG yH yI yJ yK yL yM yN yO yP yQ yR yS yT yU yV yW yX yY yZ zA zB zC zD zE zF zG zH zI zJ zK:Value}:jv=(j:Int)+1→I6b h2 a0 p n nn i aa c (n-j) ⟨(F73 a0 x1 x2 (.pointer (some ⟨p,0,none⟩)) (.int .i64 nn) (.int .i64 i) x6 x7 (.slice aa n c) (.int .i64 jv) xA xB xC xD xE xF xG xH xI xJ xK xL xM xN xO xP xQ xR xS xT xU xV xW xX xY xZ yA yB yC yD yE yF yG yH yI yJ yK yL yM yN yO yP yQ yR yS yT yU yV yW yX yY yZ zA zB zC zD zE zF zG zH zI zJ zK),[],h2⟩
theorem open_in {h2:Heap}{a0:Value}{p:Nat}{nn i:Int}{aa:Option Addr}{c:Nat}{ks:List Int}(hs:Sl h2 aa (ivs ks))(hr:Ris ks)(hn:ks.length<1000){R:XExit→S→Prop}
  (hR:∀ {x1 x2 x6 x7 x8 x9 xA xB xC xD xE xF xG xH xI xJ xK xL xM xN xO xP xQ xR xS xT xU xV xW xX xY xZ yA yB yC yD yE yF yG yH yI yJ yK yL yM yN yO yP yQ yR yS yT yU yV yW yX yY yZ zA zB zC zD zE zF zG zH zI zJ zK:Value},R (.exit 2) ⟨(F73 a0 x1 x2 (.pointer (some ⟨p,0,none⟩)) (.int .i64 nn) (.int .i64 i) x6 x7 x8 x9 xA xB xC xD xE xF xG xH xI xJ xK xL xM xN xO xP xQ xR xS xT xU xV xW xX xY xZ yA yB yC yD yE yF yG yH yI yJ yK yL yM yN yO yP yQ yR yS yT yU yV yW yX yY yZ zA zB zC zD zE zF zG zH zI zJ zK),[],h2⟩) :
  ∀ k s,I6b h2 a0 p ks.length nn i aa c k s→W (pp G) none (.loop ir6_s2) s R:=by
 refine W.loop4 (good G) _ λk s1 hI=>?_
 cases hI with|@mk j jv _ _ _ _ _ _ _ _ _ _ _ _ _ _ _ _ _ _ _ _ _ _ _ _ _ _ _ _ _ _ _ _ _ _ _ _ _ _ _ _ _ _ _ _ _ _ _ _ _ _ _ _ _ _ _ _ _ _ _ _ _ _ _ _ _ _ _ hjv=>
 subst hjv
 rw[sh_ir6_s2]
 by_cases hj:j+1<ks.length
 ·have hj1:((j:Int)+1)<(ks.length:Int):=by omega
  obtain ⟨b,off,rfl,l1⟩:=Sl.num hs (i:=j) (by omega)
  obtain ⟨b',off',e,l2⟩:=Sl.num hs hj
  cases e
  have w1:IntKind.i64.wrap (((j:Int)+1)-1)=(j:Int):=(wrap_i64 (by omega) (by omega)).trans (by omega)
  have w2:IntKind.i64.wrap (((j:Int)+1)+1)=((j:Int)+1+1):=(wrap_i64 (by omega) (by omega)).trans (by omega)
  have hlt:ks.getD j 0<ks.getD (j+1) 0:=by
   have:=List.pairwise_iff_getElem.1 hr j (j+1) (by omega) hj (by omega)
   rwa [List.getD_eq_getElem?_getD,List.getD_eq_getElem?_getD,List.getElem?_eq_getElem (by omega),List.getElem?_eq_getElem hj]
  have hge:¬ ks.getD j 0 ≥ ks.getD (j+1) 0:=by omega
  have ht:((j:Int)+1).toNat=j+1:=by omega
  simp(disch:=first|omega|(apply id;simp only[push_cast];first|done|omega))only[push_cast,Nat.reduceAdd,Nat.reduceMul,Nat.reduceSub,Nat.reduceLT,Nat.reduceEqDiff,Nat.reduceLeDiff,Int.reduceToNat,reduceCtorEq,Int.reduceLT,Int.reduceLE,Int.reduceAdd,Int.reduceSub,Int.reduceMul,Int.reduceNeg,Int.reduceEq,hj1,w1,Int.toNat_natCast,ht,l1,l2,hge,w2]
  exact ⟨ks.length-(j+1),by omega,I6b.mk (j:=j+1) (by omega)⟩
 ·have hj1:¬ ((j:Int)+1)<(ks.length:Int):=by omega
  simp(disch:=first|omega|(apply id;simp only[push_cast];first|done|omega))only[push_cast,Nat.reduceAdd,Nat.reduceMul,Nat.reduceSub,Nat.reduceLT,Nat.reduceEqDiff,Nat.reduceLeDiff,Int.reduceToNat,reduceCtorEq,Int.reduceLT,Int.reduceLE,Int.reduceAdd,Int.reduceSub,Int.reduceMul,Int.reduceNeg,Int.reduceEq,hj1]
  exact hR
theorem ask_len {w:Wi}(nm:List UInt8)(k:Int)(h:w.fl.length=w.op.length):(askW w nm k).fl.length=(askW w nm k).op.length:=by
 unfold askW
 split
 ·exact h
 ·show (w.fl++[_]).length=(insK _ w.op).length
  rw[← (insK_perm _ w.op).length_eq,List.length_append,h]
  rfl
inductive I6a (h:Heap)(a0:Option Addr)(n c0 p:Nat):Nat→S→Prop
 | mk {i : Nat} {iv nv : Int} {w : Wi} {h2 : Heap} {x1 x2 x6 x7 x8 x9 xA xB xC xD xE xF xG xH xI xJ xK xL xM xN xO xP xQ xR xS xT xU xV xW xX xY xZ yA yB yC yD yE yF yG yH yI yJ yK yL yM yN yO yP yQ yR yS yT yU yV yW yX yY yZ zA zB zC zD zE zF zG zH zI zJ zK : Value} : iv = i → nv = w.op.length → i ≤ 30 → WOk w i → WRg w → w.fl.length = w.op.length → WW h2 p (fun b => h.next ≤ b) w → Gr h h2 →
   I6a h a0 n c0 p (30-i) ⟨(F73 (.slice a0 n c0) x1 x2 (.pointer (some ⟨p,0,none⟩)) (.int .i64 nv) (.int .i64 iv) x6 x7 x8 x9 xA xB xC xD xE xF xG xH xI xJ xK xL xM xN xO xP xQ xR xS xT xU xV xW xX xY xZ yA yB yC yD yE yF yG yH yI yJ yK yL yM yN yO yP yQ yR yS yT yU yV yW yX yY yZ zA zB zC zD zE zF zG zH zI zJ zK),[],h2⟩
theorem wireopen_w (xs:List Int)(a0:Option Addr)(c0:Nat)(hs:Sl h a0 (ivs xs))(hb:∀ b,blk a0 b→b<h.next):CallE (pp G) 6 [.slice a0 xs.length c0] h (λv h'=>v=.bool true):=by
 refine CallE.fir4 (good G) fir6 rfl rfl (F73_arr ..) λhlo=>?_
 rw[sh_ir6]
 simp(disch:=first|omega|(apply id;simp only[push_cast];first|done|omega))only[push_cast,Nat.reduceAdd,Nat.reduceMul,Nat.reduceSub,Nat.reduceLT,Nat.reduceEqDiff,Nat.reduceLeDiff,Int.reduceToNat,reduceCtorEq,Int.reduceLT,Int.reduceLE,Int.reduceAdd,Int.reduceSub,Int.reduceMul,Int.reduceNeg,Int.reduceEq]
 refine CallE.to (known_w G _) ?_
 rintro _ h1 ⟨rfl,g1⟩
 simp(disch:=first|omega|(apply id;simp only[push_cast];first|done|omega))only[push_cast,Nat.reduceAdd,Nat.reduceMul,Nat.reduceSub,Nat.reduceLT,Nat.reduceEqDiff,Nat.reduceLeDiff,Int.reduceToNat,reduceCtorEq,Int.reduceLT,Int.reduceLE,Int.reduceAdd,Int.reduceSub,Int.reduceMul,Int.reduceNeg,Int.reduceEq]
 refine CallE.to (new_p G h1 [] none 0 (Sl.nil _ spotN_n) (λb hb=>by obtain ⟨o,s,e⟩:=hb;cases e) (by decide) λ_=>rfl) ?_
 rintro _ h2 ⟨⟨p,rfl,a2⟩,g2⟩
 simp(disch:=first|omega|(apply id;simp only[push_cast];first|done|omega))only[push_cast,Nat.reduceAdd,Nat.reduceMul,Nat.reduceSub,Nat.reduceLT,Nat.reduceEqDiff,Nat.reduceLeDiff,Int.reduceToNat,reduceCtorEq,Int.reduceLT,Int.reduceLE,Int.reduceAdd,Int.reduceSub,Int.reduceMul,Int.reduceNeg,Int.reduceEq]
 refine W.loop4 (good G) (I6a h a0 xs.length c0 p) ?_ _ _ (I6a.mk (i:=0) rfl rfl (by decide) (new_ok []) (new_rg []) rfl (a2.mono λb hb=>by have:=g1.next;omega) (g1.tr' g2 λ_ _ h=>h))
 intro k s1 hI
 cases hI with|@mk i iv nv w h3 _ _ _ _ _ _ _ _ _ _ _ _ _ _ _ _ _ _ _ _ _ _ _ _ _ _ _ _ _ _ _ _ _ _ _ _ _ _ _ _ _ _ _ _ _ _ _ _ _ _ _ _ _ _ _ _ _ _ _ _ _ _ _ _ _ _ _ _ _ hiv hnv hi ok rg hfl a3 g3=>
 subst hiv hnv
 rw[sh_ir6_s0]
 have hf:=ok.fl
 have hol:=rg_len ok rg
 by_cases h1:i<xs.length
 ·have h1':(i:Int)<(xs.length:Int):=by omega
  by_cases h2:i<30
  ·have h2':(i:Int)<30:=by omega
   have hs3:=Sl.grew hs g3 λb hb' _=>⟨hb b hb',id⟩
   obtain ⟨b,off,rfl,l1⟩:=Sl.num hs3 h1
   simp(disch:=first|omega|(apply id;simp only[push_cast];first|done|omega))only[push_cast,Nat.reduceAdd,Nat.reduceMul,Nat.reduceSub,Nat.reduceLT,Nat.reduceEqDiff,Nat.reduceLeDiff,Int.reduceToNat,reduceCtorEq,Int.reduceLT,Int.reduceLE,Int.reduceAdd,Int.reduceSub,Int.reduceMul,Int.reduceNeg,Int.reduceEq,h1',h2',Int.toNat_natCast,l1]
   refine CallE.to (within_w G _ _ 12 (by decide) (by decide)) ?_
   rintro _ _ ⟨rfl,e⟩
   rw[e]
   clear e
   have hk:=Wi_range (xs.getD i 0) 12 (by decide)
   simp(disch:=first|omega|(apply id;simp only[push_cast];first|done|omega))only[push_cast,Nat.reduceAdd,Nat.reduceMul,Nat.reduceSub,Nat.reduceLT,Nat.reduceEqDiff,Nat.reduceLeDiff,Int.reduceToNat,reduceCtorEq,Int.reduceLT,Int.reduceLE,Int.reduceAdd,Int.reduceSub,Int.reduceMul,Int.reduceNeg,Int.reduceEq]
   refine CallE.to (open_p G a3 ok hol) ?_
   rintro _ h5 ⟨⟨ao,co,rfl,_⟩,g5⟩
   have a5:=a3.grew g5 λ_ _ _ h=>h
   have ee:Value.agg ⟨[.string (Tx [112,97,121]),.int .i64 (Wi' (xs.getD i 0) 12),.int .i64 0]⟩=.agg ⟨evC ⟨pay,Wi' (xs.getD i 0) 12,0⟩⟩:=rfl
   simp(disch:=first|omega|(apply id;simp only[push_cast];first|done|omega))only[push_cast,Nat.reduceAdd,Nat.reduceMul,Nat.reduceSub,Nat.reduceLT,Nat.reduceEqDiff,Nat.reduceLeDiff,Int.reduceToNat,reduceCtorEq,Int.reduceLT,Int.reduceLE,Int.reduceAdd,Int.reduceSub,Int.reduceMul,Int.reduceNeg,Int.reduceEq,ee]
   refine CallE.to (ask_p G a5 ok (by omega) _) ?_
   rintro _ h6 ⟨rfl,p6⟩
   have a6:=p6.at_
   have ok6:=ask_ok ok pay (Wi' (xs.getD i 0) 12)
   have rg6:=ask_rg rg pay (Wi' (xs.getD i 0) 12) hk
   have hfl6:=ask_len pay (Wi' (xs.getD i 0) 12) hfl
   dsimp only at a6
   generalize askW w pay (Wi' (xs.getD i 0) 12)=w6 at *
   have hol6:=rg_len ok6 rg6
   simp(disch:=first|omega|(apply id;simp only[push_cast];first|done|omega))only[push_cast,Nat.reduceAdd,Nat.reduceMul,Nat.reduceSub,Nat.reduceLT,Nat.reduceEqDiff,Nat.reduceLeDiff,Int.reduceToNat,reduceCtorEq,Int.reduceLT,Int.reduceLE,Int.reduceAdd,Int.reduceSub,Int.reduceMul,Int.reduceNeg,Int.reduceEq]
   refine CallE.to (open_p G a6 ok6 hol6) ?_
   rintro _ h7 ⟨⟨aq,cq,rfl,hs7,_⟩,g7⟩
   have a7:=a6.grew g7 λ_ _ _ h=>h
   have w1:IntKind.i64.wrap ((w.op.length:Int)+(w6.op.length:Int))=(w.op.length:Int)+(w6.op.length:Int):=wrap_i64 (by omega) (by omega)
   have w2:IntKind.i64.wrap ((w.op.length:Int)+(w6.op.length:Int)-(w.op.length:Int))=(w6.op.length:Int):=(wrap_i64 (by omega) (by omega)).trans (by omega)
   have w3:IntKind.i64.wrap ((i:Int)+1)=(i:Int)+1:=wrap_i64 (by omega) (by omega)
   simp(disch:=first|omega|(apply id;simp only[push_cast];first|done|omega))only[push_cast,Nat.reduceAdd,Nat.reduceMul,Nat.reduceSub,Nat.reduceLT,Nat.reduceEqDiff,Nat.reduceLeDiff,Int.reduceToNat,reduceCtorEq,Int.reduceLT,Int.reduceLE,Int.reduceAdd,Int.reduceSub,Int.reduceMul,Int.reduceNeg,Int.reduceEq,w1,w2]
   have hl6:w6.op.length=(w6.op.map (·.key)).length:=by simp
   rw[hl6]
   refine open_in G (ks:=w6.op.map (·.key)) hs7 ok6.ris (by rw[← hl6];omega) ?_ _ _ (I6b.mk (j:=0) rfl)
   intros
   have n5:=g5.next
   have n3:=g3.next
   simp(disch:=first|omega|(apply id;simp only[push_cast];first|done|omega))only[push_cast,Nat.reduceAdd,Nat.reduceMul,Nat.reduceSub,Nat.reduceLT,Nat.reduceEqDiff,Nat.reduceLeDiff,Int.reduceToNat,reduceCtorEq,Int.reduceLT,Int.reduceLE,Int.reduceAdd,Int.reduceSub,Int.reduceMul,Int.reduceNeg,Int.reduceEq,w3]
   exact ⟨30-(i+1),by omega,I6a.mk (i:=i+1) (by omega) (by rw[hl6]) (by omega) ok6 rg6 hfl6 (a7.mono λb hb=>by omega) (((g3.tr' g5 λ_ _ h=>h).tr' p6.gr λb hb e=>by omega).tr' g7 λ_ _ h=>h)⟩
  ·have h2':¬ (i:Int)<30:=by omega
   simp(disch:=first|omega|(apply id;simp only[push_cast];first|done|omega))only[push_cast,Nat.reduceAdd,Nat.reduceMul,Nat.reduceSub,Nat.reduceLT,Nat.reduceEqDiff,Nat.reduceLeDiff,Int.reduceToNat,reduceCtorEq,Int.reduceLT,Int.reduceLE,Int.reduceAdd,Int.reduceSub,Int.reduceMul,Int.reduceNeg,Int.reduceEq,h1',h2']
   refine CallE.to (flight_p G a3 ok (by omega)) ?_
   rintro _ h5 ⟨⟨af,cf,rfl,_⟩,g5⟩
   have e1:(w.fl.length:Int)=(w.op.length:Int):=by omega
   simp(disch:=first|omega|(apply id;simp only[push_cast];first|done|omega))only[push_cast,Nat.reduceAdd,Nat.reduceMul,Nat.reduceSub,Nat.reduceLT,Nat.reduceEqDiff,Nat.reduceLeDiff,Int.reduceToNat,reduceCtorEq,Int.reduceLT,Int.reduceLE,Int.reduceAdd,Int.reduceSub,Int.reduceMul,Int.reduceNeg,Int.reduceEq,e1]
   refine CallE.to (open_p G (a3.grew g5 λ_ _ _ h=>h) ok hol) ?_
   rintro _ h6 ⟨⟨ao,co,rfl,_⟩,g6⟩
   simp(disch:=first|omega|(apply id;simp only[push_cast];first|done|omega))only[push_cast,Nat.reduceAdd,Nat.reduceMul,Nat.reduceSub,Nat.reduceLT,Nat.reduceEqDiff,Nat.reduceLeDiff,Int.reduceToNat,reduceCtorEq,Int.reduceLT,Int.reduceLE,Int.reduceAdd,Int.reduceSub,Int.reduceMul,Int.reduceNeg,Int.reduceEq]
 ·have h1':¬ (i:Int)<(xs.length:Int):=by omega
  simp(disch:=first|omega|(apply id;simp only[push_cast];first|done|omega))only[push_cast,Nat.reduceAdd,Nat.reduceMul,Nat.reduceSub,Nat.reduceLT,Nat.reduceEqDiff,Nat.reduceLeDiff,Int.reduceToNat,reduceCtorEq,Int.reduceLT,Int.reduceLE,Int.reduceAdd,Int.reduceSub,Int.reduceMul,Int.reduceNeg,Int.reduceEq,h1']
  refine CallE.to (flight_p G a3 ok (by omega)) ?_
  rintro _ h5 ⟨⟨af,cf,rfl,_⟩,g5⟩
  have e1:(w.fl.length:Int)=(w.op.length:Int):=by omega
  simp(disch:=first|omega|(apply id;simp only[push_cast];first|done|omega))only[push_cast,Nat.reduceAdd,Nat.reduceMul,Nat.reduceSub,Nat.reduceLT,Nat.reduceEqDiff,Nat.reduceLeDiff,Int.reduceToNat,reduceCtorEq,Int.reduceLT,Int.reduceLE,Int.reduceAdd,Int.reduceSub,Int.reduceMul,Int.reduceNeg,Int.reduceEq,e1]
  refine CallE.to (open_p G (a3.grew g5 λ_ _ _ h=>h) ok hol) ?_
  rintro _ h6 ⟨⟨ao,co,rfl,_⟩,g6⟩
  simp(disch:=first|omega|(apply id;simp only[push_cast];first|done|omega))only[push_cast,Nat.reduceAdd,Nat.reduceMul,Nat.reduceSub,Nat.reduceLT,Nat.reduceEqDiff,Nat.reduceLeDiff,Int.reduceToNat,reduceCtorEq,Int.reduceLT,Int.reduceLE,Int.reduceAdd,Int.reduceSub,Int.reduceMul,Int.reduceNeg,Int.reduceEq]
end
end Go.Proofs.Ytejgmoenmbjidaa
namespace Go.Proofs.Ytejgmoenmbjidaa
open _root_.Go.Proofs.Try (prog)
open Go Go.ChangeShapes Go.WideShapes Go.ChangeAt Go.RowKit Go.Ev
set_option maxRecDepth 100000
theorem lits_fone (k:IntKind)(n:Nat):∀ l:List Int,foneL n (l.map (Value.int k))=true
 | []=>rfl
 | x :: l=>foneL_cons _ _ _ rfl (lits_fone k n l)
theorem base_sl {k:IntKind}{W:World}{b off len:Nat}{zs:List Int}(hl:len≤zs.length)(hc:∀ i,i<zs.length→W.cell? ((⟨b,off,none⟩:Addr).add i)=some (.int k (zs.getD i 0))) :
  Sl (baseH W.heap.size W) (some ⟨b,off,none⟩) ((zs.take len).map (Value.int k)):=by
 have hlen:((zs.take len).map (Value.int k)).length=len:=by rw[List.length_map,List.length_take];omega
 have hget:∀ i,i<len→((zs.take len).map (Value.int k))[i]?=some (Value.int k (zs.getD i 0)):=λi hi=>by
  rw[List.getElem?_map,List.getElem?_take,if_pos hi,List.getD_eq_getElem?_getD,List.getElem?_eq_getElem (by omega)]
  rfl
 cases hz:len with
 | zero=>subst hz;exact Sl.nil _ (spotN_s b off)
 | succ m=>
  have key:∀ i,i<len→∃ cs e,cells (baseH W.heap.size W) b=some (cs,e,false)∧cs[off+i]?=some (.int k (zs.getD i 0)):=λi hi=>by
   have h1:=hc i (by omega)
   rw[addr_add] at h1
   exact baseH_cell h1 rfl rfl rfl
  obtain ⟨cs,e,h1,h2⟩:=key 0 (by omega)
  have all:∀ i,i<len→cs[off+i]?=some (.int k (zs.getD i 0)):=λi hi=>by
   obtain ⟨cs',e',h3,h4⟩:=key i hi
   rw[h1] at h3
   cases h3
   exact h4
  have hle:off+len≤cs.length:=by
   have:=(List.getElem?_eq_some_iff.1 (all (len-1) (by omega))).1
   omega
  rw[← hz]
  refine .inr ⟨b,off,cs,e,false,rfl,h1,by rw[hlen];exact hle,?_,.inr (lits_fone _ _ _)⟩
  rw[hlen]
  apply List.ext_getElem?
  intro i
  by_cases hi:i<len
  ·rw[List.getElem?_take,if_pos hi,List.getElem?_drop,all i hi,hget i hi]
  ·rw[List.getElem?_eq_none (by rw[List.length_take];omega),List.getElem?_eq_none (by rw[hlen];omega)]
theorem open_xs {W:World}{base:Nat}{v:Value}{H:Type}{enc:TypeId×Value→H}{d:DataW H}{p:List MemPlace}(hv:Value.okWide prog W .any base 22 v)(h:DataW.Trod enc prog W 0 (λ_=>true) true 22 v d p)
  (hsz:∀ elems spare:List (DataW H),d=.slice elems spare→(elems.length+spare.length)*Try.checked.prog.bytesOf 3≤reachBytes) :
  ∃ (xs:List Int) (a:Option Addr) (c:Nat),v=.slice a xs.length c∧Sl (baseH W.heap.size W) a (ivs xs)∧(∀ b,blk a b→b<(baseH W.heap.size W).next)∧pl (.slice a xs.length c)=true∧sc W.heap.size (.slice a xs.length c)=true:=by
 obtain ⟨a1,len1,cap1,rfl⟩:=okWide_slice Try.underlying22 hv
 obtain ⟨fuel,hf⟩:=h
 rcases open_ints (k:=.i64) Try.underlying22 Try.underlying3 (by kernel_rfl) hf with ⟨h1,_⟩|⟨a,len,cap,zs,h1,_,hle,hmx,hzl,hx,hcells,_⟩
 ·cases h1
  exact ⟨[],none,0,rfl,Sl.nil _ spotN_n,(λb hb=>by obtain ⟨o,s,hb⟩:=hb;cases hb),rfl,rfl⟩
 ·cases h1
  simp only[Value.okWide,Try.underlying22,Cell.okWide,Cell.ok,World.has] at hv
  obtain ⟨_,_,_,hspot,row,cells',hshape,_⟩:=hv
  obtain ⟨b,off,sp⟩:=a
  have hspot:sp=none:=hspot
  subst hspot
  have hbl:b<W.heap.size:=by
   rcases Nat.lt_or_ge b W.heap.size with h2|h2
   ·exact h2
   ·simp[World.shape?,Array.getElem?_eq_none h2] at hshape
  have hzl:zs.length=cap1:=hzl
  have hcap:cap1<UC:=by
   have h3:=hsz (lits .i64 (zs.take len1)) (lits .i64 (zs.drop len1)) (by cases hx;rfl)
   have h4:Try.checked.prog.bytesOf 3=8:=by kernel_rfl
   rw[h4] at h3
   simp only[lits,List.length_map,List.length_take,List.length_drop] at h3
   have h5:reachBytes=140737488351232:=rfl
   have h6:UC=1152921504606846976:=by unfold UC;rfl
   omega
  have hlen:(zs.take len1).length=len1:=by rw[List.length_take];omega
  have hsl:=base_sl (W:=W) (b:=b) (off:=off) (len:=len1) (zs:=zs) (by omega) hcells
  refine ⟨zs.take len1,some ⟨b,off,none⟩,cap1,by rw[hlen],hsl,(λb' hb=>by obtain ⟨o,s,hb⟩:=hb;cases hb;exact hbl),?_,?_⟩
  ·simp only[pl];simpa using hcap
  ·simp only[sc,scA];simpa using hbl
end Go.Proofs.Ytejgmoenmbjidaa
