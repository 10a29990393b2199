/-
  A part of the proof: what the program's functions hand back,as theorems. No condition but those that each theorem names.
-/
import Derived.Test.YtejgmoenmbjidaaWf
import Derived.Test.YtejgmoenmbjidaaWd
import Derived.Test.YtejgmoenmbjidaaEvc
import Derived.ChangeMaps5
import Derived.Test.YtejgmoenmbjidaaRows
import Derived.ProofKit
import Derived.OpenShut
import Derived.Carry
import Derived.SizedLaws
set_option linter.unusedSimpArgs false
set_option linter.unusedVariables false
namespace Go.Proofs.Ytejgmoenmbjidaa
open _root_.Go.Proofs.Try (prog)
open Go.RowKit Go.Ev
set_option maxRecDepth 100000
noncomputable section
def F15 (x0 x1 x2 x3 x4 x5 x6 x7 x8 x9 xA xB xC xD xE:Value):VT:=⟨15,(.node (.node (.node (.node .nil x7 .nil) x3 (.node .nil xB .nil)) x1 (.node (.node .nil x9 .nil) x5 (.node .nil xD .nil))) x0 (.node (.node (.node .nil x8 .nil) x4 (.node .nil xC .nil)) x2 (.node (.node .nil xA .nil) x6 (.node .nil xE .nil))))⟩
theorem F15_arr (x0 x1 x2 x3 x4 x5 x6 x7 x8 x9 xA xB xC xD xE:Value):(F15 x0 x1 x2 x3 x4 x5 x6 x7 x8 x9 xA xB xC xD xE).arr=⟨[x0,x1,x2,x3,x4,x5,x6,x7,x8,x9,xA,xB,xC,xD,xE]⟩:=by kernel_rfl
def F56 (x0 x1 x2 x3 x4 x5 x6 x7 x8 x9 xA xB xC xD xE xF xG xH xI xJ xK xL xM xN xO xP xQ xR xS xT xU xV xW xX xY xZ yA yB yC yD yE yF yG yH yI yJ yK yL yM yN yO yP yQ yR yS yT:Value):VT:=⟨56,(.node (.node (.node (.node (.node (.node .nil xV .nil) xF (.node .nil yL .nil)) x7 (.node (.node .nil yD .nil) xN (.node .nil yT .nil))) x3 (.node (.node (.node .nil xZ .nil) xJ (.node .nil yP .nil)) xB (.node (.node .nil yH .nil) xR .nil))) x1 (.node (.node (.node (.node .nil xX .nil) xH (.node .nil yN .nil)) x9 (.node (.node .nil yF .nil) xP .nil)) x5 (.node (.node (.node .nil yB .nil) xL (.node .nil yR .nil)) xD (.node (.node .nil yJ .nil) xT .nil)))) x0 (.node (.node (.node (.node (.node .nil xW .nil) xG (.node .nil yM .nil)) x8 (.node (.node .nil yE .nil) xO .nil)) x4 (.node (.node (.node .nil yA .nil) xK (.node .nil yQ .nil)) xC (.node (.node .nil yI .nil) xS .nil))) x2 (.node (.node (.node (.node .nil xY .nil) xI (.node .nil yO .nil)) xA (.node (.node .nil yG .nil) xQ .nil)) x6 (.node (.node (.node .nil yC .nil) xM (.node .nil yS .nil)) xE (.node (.node .nil yK .nil) xU .nil)))))⟩
theorem F56_arr (x0 x1 x2 x3 x4 x5 x6 x7 x8 x9 xA xB xC xD xE xF xG xH xI xJ xK xL xM xN xO xP xQ xR xS xT xU xV xW xX xY xZ yA yB yC yD yE yF yG yH yI yJ yK yL yM yN yO yP yQ yR yS yT:Value):(F56 x0 x1 x2 x3 x4 x5 x6 x7 x8 x9 xA xB xC xD xE xF xG xH xI xJ xK xL xM xN xO xP xQ xR xS xT xU xV xW xX xY xZ yA yB yC yD yE yF yG yH yI yJ yK yL yM yN yO yP yQ yR yS yT).arr=⟨[x0,x1,x2,x3,x4,x5,x6,x7,x8,x9,xA,xB,xC,xD,xE,xF,xG,xH,xI,xJ,xK,xL,xM,xN,xO,xP,xQ,xR,xS,xT,xU,xV,xW,xX,xY,xZ,yA,yB,yC,yD,yE,yF,yG,yH,yI,yJ,yK,yL,yM,yN,yO,yP,yQ,yR,yS,yT]⟩:=by kernel_rfl
def F73 (x0 x1 x2 x3 x4 x5 x6 x7 x8 x9 xA xB xC xD xE xF xG xH xI xJ xK xL xM xN xO xP xQ xR xS xT xU xV xW xX xY xZ yA yB yC yD yE yF yG yH yI yJ yK yL yM yN yO yP yQ yR yS yT yU yV yW yX yY yZ zA zB zC zD zE zF zG zH zI zJ zK:Value):VT:=⟨73,(.node (.node (.node (.node (.node (.node (.node .nil zB .nil) xV .nil) xF (.node .nil yL .nil)) x7 (.node (.node (.node .nil zJ .nil) yD .nil) xN (.node .nil yT .nil))) x3 (.node (.node (.node (.node .nil zF .nil) xZ .nil) xJ (.node .nil yP .nil)) xB (.node (.node .nil yH .nil) xR (.node .nil yX .nil)))) x1 (.node (.node (.node (.node (.node .nil zD .nil) xX .nil) xH (.node .nil yN .nil)) x9 (.node (.node .nil yF .nil) xP (.node .nil yV .nil))) x5 (.node (.node (.node (.node .nil zH .nil) yB .nil) xL (.node .nil yR .nil)) xD (.node (.node .nil yJ .nil) xT (.node .nil yZ .nil))))) x0 (.node (.node (.node (.node (.node (.node .nil zC .nil) xW .nil) xG (.node .nil yM .nil)) x8 (.node (.node (.node .nil zK .nil) yE .nil) xO (.node .nil yU .nil))) x4 (.node (.node (.node (.node .nil zG .nil) yA .nil) xK (.node .nil yQ .nil)) xC (.node (.node .nil yI .nil) xS (.node .nil yY .nil)))) x2 (.node (.node (.node (.node (.node .nil zE .nil) xY .nil) xI (.node .nil yO .nil)) xA (.node (.node .nil yG .nil) xQ (.node .nil yW .nil))) x6 (.node (.node (.node (.node .nil zI .nil) yC .nil) xM (.node .nil yS .nil)) xE (.node (.node .nil yK .nil) xU (.node .nil zA .nil))))))⟩
theorem F73_arr (x0 x1 x2 x3 x4 x5 x6 x7 x8 x9 xA xB xC xD xE xF xG xH xI xJ xK xL xM xN xO xP xQ xR xS xT xU xV xW xX xY xZ yA yB yC yD yE yF yG yH yI yJ yK yL yM yN yO yP yQ yR yS yT yU yV yW yX yY yZ zA zB zC zD zE zF zG zH zI zJ zK:Value):(F73 x0 x1 x2 x3 x4 x5 x6 x7 x8 x9 xA xB xC xD xE xF xG xH xI xJ xK xL xM xN xO xP xQ xR xS xT xU xV xW xX xY xZ yA yB yC yD yE yF yG yH yI yJ yK yL yM yN yO yP yQ yR yS yT yU yV yW yX yY yZ zA zB zC zD zE zF zG zH zI zJ zK).arr=⟨[x0,x1,x2,x3,x4,x5,x6,x7,x8,x9,xA,xB,xC,xD,xE,xF,xG,xH,xI,xJ,xK,xL,xM,xN,xO,xP,xQ,xR,xS,xT,xU,xV,xW,xX,xY,xZ,yA,yB,yC,yD,yE,yF,yG,yH,yI,yJ,yK,yL,yM,yN,yO,yP,yQ,yR,yS,yT,yU,yV,yW,yX,yY,yZ,zA,zB,zC,zD,zE,zF,zG,zH,zI,zJ,zK]⟩:=by kernel_rfl
theorem F15_g4 (x0 x1 x2 x3 x4 x5 x6 x7 x8 x9 xA xB xC xD xE:Value):(F15 x0 x1 x2 x3 x4 x5 x6 x7 x8 x9 xA xB xC xD xE).get 4=x4:=by kernel_rfl
attribute [push_cast] F15_g4
theorem F56_g0 (x0 x1 x2 x3 x4 x5 x6 x7 x8 x9 xA xB xC xD xE xF xG xH xI xJ xK xL xM xN xO xP xQ xR xS xT xU xV xW xX xY xZ yA yB yC yD yE yF yG yH yI yJ yK yL yM yN yO yP yQ yR yS yT:Value):(F56 x0 x1 x2 x3 x4 x5 x6 x7 x8 x9 xA xB xC xD xE xF xG xH xI xJ xK xL xM xN xO xP xQ xR xS xT xU xV xW xX xY xZ yA yB yC yD yE yF yG yH yI yJ yK yL yM yN yO yP yQ yR yS yT).get 0=x0:=by kernel_rfl
attribute [push_cast] F56_g0
theorem F73_g2 (x0 x1 x2 x3 x4 x5 x6 x7 x8 x9 xA xB xC xD xE xF xG xH xI xJ xK xL xM xN xO xP xQ xR xS xT xU xV xW xX xY xZ yA yB yC yD yE yF yG yH yI yJ yK yL yM yN yO yP yQ yR yS yT yU yV yW yX yY yZ zA zB zC zD zE zF zG zH zI zJ zK:Value):(F73 x0 x1 x2 x3 x4 x5 x6 x7 x8 x9 xA xB xC xD xE xF xG xH xI xJ xK xL xM xN xO xP xQ xR xS xT xU xV xW xX xY xZ yA yB yC yD yE yF yG yH yI yJ yK yL yM yN yO yP yQ yR yS yT yU yV yW yX yY yZ zA zB zC zD zE zF zG zH zI zJ zK).get 2=x2:=by kernel_rfl
attribute [push_cast] F73_g2
theorem F73_g6 (x0 x1 x2 x3 x4 x5 x6 x7 x8 x9 xA xB xC xD xE xF xG xH xI xJ xK xL xM xN xO xP xQ xR xS xT xU xV xW xX xY xZ yA yB yC yD yE yF yG yH yI yJ yK yL yM yN yO yP yQ yR yS yT yU yV yW yX yY yZ zA zB zC zD zE zF zG zH zI zJ zK:Value):(F73 x0 x1 x2 x3 x4 x5 x6 x7 x8 x9 xA xB xC xD xE xF xG xH xI xJ xK xL xM xN xO xP xQ xR xS xT xU xV xW xX xY xZ yA yB yC yD yE yF yG yH yI yJ yK yL yM yN yO yP yQ yR yS yT yU yV yW yX yY yZ zA zB zC zD zE zF zG zH zI zJ zK).get 6=x6:=by kernel_rfl
attribute [push_cast] F73_g6
noncomputable def ir5_s0:IR:=(.seq (.seq (.ops [⟨some 24,none,.take,(.move (.tmp 12)),3⟩,⟨some 25,none,.take,(.move (.tmp 0)),3⟩,⟨some 26,none,.call,(.call ⟨(.value (.func 22)),#[(.tmp 25),(.const (.int .i64 60))],#[3,3]⟩),3⟩,⟨some 27,none,.take,(.binOp .leq 3 (.tmp 24) (.tmp 26) 3),4⟩]) (.cond (.tmp 27) .skip (.exit 0))) (.seq (.block 1 (.seq (.seq (.ops [⟨some 30,none,.take,(.move (.tmp 12)),3⟩,⟨some 31,none,.take,(.move (.tmp 11)),3⟩,⟨some 32,none,.take,(.binOp .eql 3 (.tmp 30) (.tmp 31) 3),4⟩]) (.cond (.tmp 32) (.seq (.seq (.ops [⟨some 33,none,.take,(.move (.tmp 2)),4⟩]) (.cond (.tmp 33) (.seq (.ops [⟨some 34,none,.take,(.move (.tmp 7)),24⟩,⟨some 35,none,.call,(.call ⟨(.value (.func 15)),#[(.tmp 34),(.const (.int .i64 0))],#[24,3]⟩),32⟩]) (.seq (.ops [⟨some 36,none,.take,(.move (.tmp 7)),24⟩,⟨some 37,none,.take,(.move (.tmp 7)),24⟩,⟨some 38,none,.call,(.call ⟨(.value (.func 21)),#[(.tmp 37)],#[24]⟩),36⟩,⟨some 39,none,.take,(.call ⟨(.builtin .len),#[(.tmp 38)],#[36]⟩),3⟩,⟨some 40,none,.take,(.binOp .sub 3 (.tmp 39) (.const (.int .i64 1)) 3),3⟩,⟨some 41,none,.call,(.call ⟨(.value (.func 15)),#[(.tmp 36),(.tmp 40)],#[24,3]⟩),32⟩]) (.ops [⟨some 42,none,.take,(.move (.tmp 10)),3⟩,⟨some 43,none,.take,(.binOp .sub 3 (.tmp 42) (.const (.int .i64 1)) 3),3⟩,⟨some 10,none,.take,(.assign (.tmp 43)),3⟩]))) (.ops [⟨some 44,none,.take,(.move (.tmp 7)),24⟩,⟨some 45,none,.call,(.call ⟨(.value (.func 25)),#[(.tmp 44),(.const (.int .i64 9))],#[24,3]⟩),0⟩]))) (.ops [⟨some 8,none,.take,(.assign (.const (.int .i64 0))),3⟩])) .skip)) (.seq (.ops [⟨some 46,none,.take,(.move (.tmp 7)),24⟩,⟨some 47,none,.call,(.call ⟨(.value (.func 26)),#[(.tmp 46)],#[24]⟩),0⟩]) (.seq (.seq (.ops [⟨some 48,none,.take,(.move (.tmp 12)),3⟩,⟨some 49,none,.take,(.move (.tmp 8)),3⟩,⟨some 50,none,.take,(.binOp .eql 3 (.tmp 48) (.tmp 49) 3),4⟩]) (.cond (.tmp 50) (.seq (.ops [⟨some 51,none,.take,(.move (.tmp 10)),3⟩,⟨some 52,none,.take,(.binOp .add 3 (.tmp 51) (.const (.int .i64 1)) 3),3⟩,⟨some 10,none,.take,(.assign (.tmp 52)),3⟩]) (.seq (.ops [⟨some 53,none,.take,(.move (.tmp 9)),3⟩,⟨some 54,none,.take,(.binOp .mul 3 (.const (.int .i64 2)) (.tmp 53) 3),3⟩,⟨some 55,none,.take,(.call ⟨(.builtin .min),#[(.const (.int .i64 8)),(.tmp 54)],#[3,3]⟩),3⟩,⟨some 9,none,.take,(.assign (.tmp 55)),3⟩]) (.ops [⟨some 56,none,.take,(.move (.tmp 12)),3⟩,⟨some 57,none,.take,(.move (.tmp 9)),3⟩,⟨some 58,none,.take,(.binOp .add 3 (.tmp 56) (.tmp 57) 3),3⟩,⟨some 8,none,.take,(.assign (.tmp 58)),3⟩]))) .skip)) (.seq (.ops [⟨some 59,none,.take,(.move (.tmp 7)),24⟩,⟨some 60,none,.call,(.call ⟨(.value (.func 21)),#[(.tmp 59)],#[24]⟩),36⟩,⟨some 61,none,.take,(.call ⟨(.builtin .len),#[(.tmp 60)],#[36]⟩),3⟩,⟨some 62,none,.take,(.move (.tmp 10)),3⟩,⟨some 63,none,.take,(.binOp .neq 3 (.tmp 61) (.tmp 62) 3),4⟩,⟨some 64,none,.take,(.move (.tmp 63)),4⟩,⟨some 65,(some (64,false)),.take,(.move (.tmp 7)),24⟩,⟨some 66,(some (64,false)),.call,(.call ⟨(.value (.func 27)),#[(.tmp 65)],#[24]⟩),22⟩,⟨some 67,(some (64,false)),.take,(.call ⟨(.builtin .len),#[(.tmp 66)],#[22]⟩),3⟩,⟨some 68,(some (64,false)),.take,(.binOp .eql 3 (.tmp 67) (.const (.int .i64 1)) 3),4⟩,⟨some 69,(some (64,false)),.take,(.move (.tmp 8)),3⟩,⟨some 70,(some (64,false)),.take,(.binOp .gtr 3 (.tmp 69) (.const (.int .i64 0)) 3),4⟩,⟨some 71,(some (64,false)),.take,(.binOp .neq 4 (.tmp 68) (.tmp 70) 4),4⟩,⟨some 72,none,.take,(.pick (.tmp 64) (.const (.bool true)) (.tmp 71)),4⟩]) (.cond (.tmp 72) (.seq (.ops [⟨some 6,none,.take,(.assign (.const (.bool false))),4⟩]) .ret) .skip)))))) (.ops [⟨some 28,none,.take,(.move (.tmp 12)),3⟩,⟨some 29,none,.take,(.binOp .add 3 (.tmp 28) (.const (.int .i64 1)) 3),3⟩,⟨some 12,none,.take,(.assign (.tmp 29)),3⟩])))
noncomputable def ir5_s1:IR:=(.seq (.ops [⟨some 6,none,.take,(.assign (.const (.bool true))),4⟩]) .ret)
noncomputable def ir5_s2:IR:=(.seq (.ops [⟨some 46,none,.take,(.move (.tmp 7)),24⟩,⟨some 47,none,.call,(.call ⟨(.value (.func 26)),#[(.tmp 46)],#[24]⟩),0⟩]) (.seq (.seq (.ops [⟨some 48,none,.take,(.move (.tmp 12)),3⟩,⟨some 49,none,.take,(.move (.tmp 8)),3⟩,⟨some 50,none,.take,(.binOp .eql 3 (.tmp 48) (.tmp 49) 3),4⟩]) (.cond (.tmp 50) (.seq (.ops [⟨some 51,none,.take,(.move (.tmp 10)),3⟩,⟨some 52,none,.take,(.binOp .add 3 (.tmp 51) (.const (.int .i64 1)) 3),3⟩,⟨some 10,none,.take,(.assign (.tmp 52)),3⟩]) (.seq (.ops [⟨some 53,none,.take,(.move (.tmp 9)),3⟩,⟨some 54,none,.take,(.binOp .mul 3 (.const (.int .i64 2)) (.tmp 53) 3),3⟩,⟨some 55,none,.take,(.call ⟨(.builtin .min),#[(.const (.int .i64 8)),(.tmp 54)],#[3,3]⟩),3⟩,⟨some 9,none,.take,(.assign (.tmp 55)),3⟩]) (.ops [⟨some 56,none,.take,(.move (.tmp 12)),3⟩,⟨some 57,none,.take,(.move (.tmp 9)),3⟩,⟨some 58,none,.take,(.binOp .add 3 (.tmp 56) (.tmp 57) 3),3⟩,⟨some 8,none,.take,(.assign (.tmp 58)),3⟩]))) .skip)) (.seq (.ops [⟨some 59,none,.take,(.move (.tmp 7)),24⟩,⟨some 60,none,.call,(.call ⟨(.value (.func 21)),#[(.tmp 59)],#[24]⟩),36⟩,⟨some 61,none,.take,(.call ⟨(.builtin .len),#[(.tmp 60)],#[36]⟩),3⟩,⟨some 62,none,.take,(.move (.tmp 10)),3⟩,⟨some 63,none,.take,(.binOp .neq 3 (.tmp 61) (.tmp 62) 3),4⟩,⟨some 64,none,.take,(.move (.tmp 63)),4⟩,⟨some 65,(some (64,false)),.take,(.move (.tmp 7)),24⟩,⟨some 66,(some (64,false)),.call,(.call ⟨(.value (.func 27)),#[(.tmp 65)],#[24]⟩),22⟩,⟨some 67,(some (64,false)),.take,(.call ⟨(.builtin .len),#[(.tmp 66)],#[22]⟩),3⟩,⟨some 68,(some (64,false)),.take,(.binOp .eql 3 (.tmp 67) (.const (.int .i64 1)) 3),4⟩,⟨some 69,(some (64,false)),.take,(.move (.tmp 8)),3⟩,⟨some 70,(some (64,false)),.take,(.binOp .gtr 3 (.tmp 69) (.const (.int .i64 0)) 3),4⟩,⟨some 71,(some (64,false)),.take,(.binOp .neq 4 (.tmp 68) (.tmp 70) 4),4⟩,⟨some 72,none,.take,(.pick (.tmp 64) (.const (.bool true)) (.tmp 71)),4⟩]) (.cond (.tmp 72) (.seq (.ops [⟨some 6,none,.take,(.assign (.const (.bool false))),4⟩]) .ret) .skip))))
noncomputable def ir5_s3:IR:=(.ops [⟨some 28,none,.take,(.move (.tmp 12)),3⟩,⟨some 29,none,.take,(.binOp .add 3 (.tmp 28) (.const (.int .i64 1)) 3),3⟩,⟨some 12,none,.take,(.assign (.tmp 29)),3⟩])
noncomputable def ir5_s4:IR:=(.seq (.ops [⟨some 59,none,.take,(.move (.tmp 7)),24⟩,⟨some 60,none,.call,(.call ⟨(.value (.func 21)),#[(.tmp 59)],#[24]⟩),36⟩,⟨some 61,none,.take,(.call ⟨(.builtin .len),#[(.tmp 60)],#[36]⟩),3⟩,⟨some 62,none,.take,(.move (.tmp 10)),3⟩,⟨some 63,none,.take,(.binOp .neq 3 (.tmp 61) (.tmp 62) 3),4⟩,⟨some 64,none,.take,(.move (.tmp 63)),4⟩,⟨some 65,(some (64,false)),.take,(.move (.tmp 7)),24⟩,⟨some 66,(some (64,false)),.call,(.call ⟨(.value (.func 27)),#[(.tmp 65)],#[24]⟩),22⟩,⟨some 67,(some (64,false)),.take,(.call ⟨(.builtin .len),#[(.tmp 66)],#[22]⟩),3⟩,⟨some 68,(some (64,false)),.take,(.binOp .eql 3 (.tmp 67) (.const (.int .i64 1)) 3),4⟩,⟨some 69,(some (64,false)),.take,(.move (.tmp 8)),3⟩,⟨some 70,(some (64,false)),.take,(.binOp .gtr 3 (.tmp 69) (.const (.int .i64 0)) 3),4⟩,⟨some 71,(some (64,false)),.take,(.binOp .neq 4 (.tmp 68) (.tmp 70) 4),4⟩,⟨some 72,none,.take,(.pick (.tmp 64) (.const (.bool true)) (.tmp 71)),4⟩]) (.cond (.tmp 72) (.seq (.ops [⟨some 6,none,.take,(.assign (.const (.bool false))),4⟩]) .ret) .skip))
theorem sh_ir5 (G:Nat)(h:Heap)(a0 a1 a2:Value)(R:Value→Heap→Prop):vc3 (pp G) none ir5 ⟨(F73 a0 a1 a2 undef undef undef undef undef undef undef undef undef undef undef undef undef undef undef undef undef undef undef undef undef undef undef undef undef undef undef undef undef undef undef undef undef undef undef undef undef undef undef undef undef undef undef undef undef undef undef undef undef undef undef undef undef undef undef undef undef undef undef undef undef undef undef undef undef undef undef undef undef undef),[],h⟩ (finR prog [(.tmp 6)] R)=(oT (some (.bool false)) none h (@kk ⟨λv1 h2=>CallV (pp G) (.func (.func 10) #[] #[]) [] h2 (@kk ⟨λv3 h4=>oT (unV prog .not v3) none h4 (@kk ⟨λv5 h6=>vcond v5 (@kb ⟨oT (some (.bool false)) none h6 (@kk ⟨λv7 h8=>R v7 h8⟩)⟩) (@kb ⟨oE (bsE (slT prog 22) 1 [(0,(.int .i64 5))] h6) (@kk ⟨λv9 h10=>CallV (pp G) (.func (.func 11) #[] #[]) [v9] h10 (@kk ⟨λv11 h12=>oT (some v11) none h12 (@kk ⟨λv13 h14=>oT (some v13) none h14 (@kk ⟨λv15 h16=>oT (binPure prog .eql 24 (.tmp 17) (.const (.pointer none)) v15 (.pointer none)) none h16 (@kk ⟨λv17 h18=>vcond v17 (@kb ⟨oT (some (.bool false)) none h18 (@kk ⟨λv19 h20=>R v19 h20⟩)⟩) (@kb ⟨oT (some v13) none h18 (@kk ⟨λv21 h22=>oT (bdV (plc prog 31) [(0,(.string (Tx [112,97,121]))),(1,(.int .i64 9))]) none h22 (@kk ⟨λv23 h24=>CallV (pp G) (.func (.func 24) #[] #[]) [v21,v23] h24 (@kk ⟨λv25 h26=>oT (some (.int .i64 1)) none h26 (@kk ⟨λv27 h28=>oT (some (.int .i64 1)) none h28 (@kk ⟨λv29 h30=>oT (some (.int .i64 1)) none h30 (@kk ⟨λv31 h32=>oT (some a1) none h32 (@kk ⟨λv33 h34=>CallV (pp G) (.func (.func 22) #[] #[]) [v33,(.int .i64 60)] h34 (@kk ⟨λv35 h36=>oT (some v35) none h36 (@kk ⟨λv37 h38=>oT (some (.int .i64 1)) none h38 (@kk ⟨λv39 h40=>W (pp G) none (.loop ir5_s0) ⟨(F73 a0 a1 a2 undef undef undef v1 v13 v27 v29 v31 v37 v39 v3 v5 v9 v11 v15 v17 v21 v23 v25 v33 v35 undef undef undef undef undef undef undef undef undef undef undef undef undef undef undef undef undef undef undef undef undef undef undef undef undef undef undef undef undef undef undef undef undef undef undef undef undef undef undef undef undef undef undef undef undef undef undef undef undef),[],h40⟩ (@kR ⟨outR3 0 (thenR3 (λs1=>vc3 (pp G) none ir5_s1 s1 (@kR ⟨finR prog [(.tmp 6)] R⟩)) (finR prog [(.tmp 6)] R))⟩)⟩)⟩)⟩)⟩)⟩)⟩)⟩)⟩)⟩)⟩)⟩)⟩)⟩)⟩)⟩)⟩)⟩)⟩)⟩)⟩)):=by kernel_rfl
theorem sh_ir10 (G:Nat)(h:Heap)(R:Value→Heap→Prop):vc3 (pp G) none ir10 ⟨(F56 undef undef undef undef undef undef undef undef undef undef undef undef undef undef undef undef undef undef undef undef undef undef undef undef undef undef undef undef undef undef undef undef undef undef undef undef undef undef undef undef undef undef undef undef undef undef undef undef undef undef undef undef undef undef undef undef),[],h⟩ (finR prog [(.tmp 0)] R)=(oT (some (.bool false)) none h (@kk ⟨λv1 h2=>oE (bsE (slT prog 22) 1 [(0,(.int .i64 7))] h2) (@kk ⟨λv3 h4=>CallV (pp G) (.func (.func 11) #[] #[]) [v3] h4 (@kk ⟨λv5 h6=>oT (some v5) none h6 (@kk ⟨λv7 h8=>oT (some v7) none h8 (@kk ⟨λv9 h10=>oT (binPure prog .eql 24 (.tmp 8) (.const (.pointer none)) v9 (.pointer none)) none h10 (@kk ⟨λv11 h12=>oT (some v11) none h12 (@kk ⟨λv13 h14=>gT v13 false (some v7) none h14 (@kk ⟨λv15 h16=>gC (pp G) v13 false (.func (.func 21) #[] #[]) [v15] h16 (@kk ⟨λv17 h18=>gT v13 false (lnB (lnT prog 36) v17) none h18 (@kk ⟨λv19 h20=>gT v13 false (binPure prog .neq 3 (.tmp 13) (.const (.int .i64 0)) v19 (.int .i64 0)) none h20 (@kk ⟨λv21 h22=>oT (pickV v13 (.bool true) v21) none h22 (@kk ⟨λv23 h24=>vcond v23 (@kb ⟨oT (some (.bool false)) none h24 (@kk ⟨λv25 h26=>R v25 h26⟩)⟩) (@kb ⟨oT (some v7) none h24 (@kk ⟨λv27 h28=>oT (bdV (plc prog 31) [(0,(.string (Tx [112,97,121]))),(1,(.int .i64 3))]) none h28 (@kk ⟨λv29 h30=>CallV (pp G) (.func (.func 24) #[] #[]) [v27,v29] h30 (@kk ⟨λv31 h32=>oT (some v7) none h32 (@kk ⟨λv33 h34=>CallV (pp G) (.func (.func 15) #[] #[]) [v33,(.int .i64 0)] h34 (@kk ⟨λv35 h36=>oT (some v35) none h36 (@kk ⟨λv37 h38=>oT (extV v37 0) none h38 (@kk ⟨λv39 h40=>oT (extV v37 1) none h40 (@kk ⟨λv41 h42=>oE (alE (zro prog 31) 31 h42) (@kk ⟨λv43 h44=>oE (stE (szT prog 31) v43 v39 h44) (@kk ⟨λv45 h46=>oT (some v41) none h46 (@kk ⟨λv47 h48=>oT (some v7) none h48 (@kk ⟨λv49 h50=>CallV (pp G) (.func (.func 15) #[] #[]) [v49,(.int .i64 0)] h50 (@kk ⟨λv51 h52=>oT (some v51) none h52 (@kk ⟨λv53 h54=>oT (extV v53 0) none h54 (@kk ⟨λv55 h56=>oT (extV v53 1) none h56 (@kk ⟨λv57 h58=>oE (alE (zro prog 31) 31 h58) (@kk ⟨λv59 h60=>oE (stE (szT prog 31) v59 v55 h60) (@kk ⟨λv61 h62=>oT (some v57) none h62 (@kk ⟨λv63 h64=>oT (some v47) none h64 (@kk ⟨λv65 h66=>oT (unV prog .not v65) none h66 (@kk ⟨λv67 h68=>oT (some v67) none h68 (@kk ⟨λv69 h70=>gT v69 true (some v63) none h70 (@kk ⟨λv71 h72=>oT (pickV v69 v71 (.bool false)) none h72 (@kk ⟨λv73 h74=>oT (some v73) none h74 (@kk ⟨λv75 h76=>gT v75 true (faV (fld prog 31 2) v59) none h76 (@kk ⟨λv77 h78=>gT v75 true (evLoad prog 3 v77 h78) none h78 (@kk ⟨λv79 h80=>gT v75 true (binPure prog .eql 3 (.tmp 36) (.const (.int .i64 7)) v79 (.int .i64 7)) none h80 (@kk ⟨λv81 h82=>oT (pickV v75 v81 (.bool false)) none h82 (@kk ⟨λv83 h84=>oT (some v83) none h84 (@kk ⟨λv85 h86=>gT v85 true (faV (fld prog 31 1) v59) none h86 (@kk ⟨λv87 h88=>gT v85 true (evLoad prog 3 v87 h88) none h88 (@kk ⟨λv89 h90=>gT v85 true (binPure prog .eql 3 (.tmp 41) (.const (.int .i64 3)) v89 (.int .i64 3)) none h90 (@kk ⟨λv91 h92=>oT (pickV v85 v91 (.bool false)) none h92 (@kk ⟨λv93 h94=>oT (some v93) none h94 (@kk ⟨λv95 h96=>gT v95 true (some v7) none h96 (@kk ⟨λv97 h98=>gC (pp G) v95 true (.func (.func 23) #[] #[]) [v97] h98 (@kk ⟨λv99 h100=>gT v95 true (lnB (lnT prog 39) v99) none h100 (@kk ⟨λv101 h102=>gT v95 true (binPure prog .eql 3 (.tmp 47) (.const (.int .i64 1)) v101 (.int .i64 1)) none h102 (@kk ⟨λv103 h104=>oT (pickV v95 v103 (.bool false)) none h104 (@kk ⟨λv105 h106=>oT (some v105) none h106 (@kk ⟨λv107 h108=>gT v107 true (some v7) none h108 (@kk ⟨λv109 h110=>gC (pp G) v107 true (.func (.func 27) #[] #[]) [v109] h110 (@kk ⟨λv111 h112=>gT v107 true (lnB (lnT prog 22) v111) none h112 (@kk ⟨λv113 h114=>gT v107 true (binPure prog .eql 3 (.tmp 53) (.const (.int .i64 0)) v113 (.int .i64 0)) none h114 (@kk ⟨λv115 h116=>oT (pickV v107 v115 (.bool false)) none h116 (@kk ⟨λv117 h118=>oT (some v117) none h118 (@kk ⟨λv119 h120=>R v119 h120⟩)⟩)⟩)⟩)⟩)⟩)⟩)⟩)⟩)⟩)⟩)⟩)⟩)⟩)⟩)⟩)⟩)⟩)⟩)⟩)⟩)⟩)⟩)⟩)⟩)⟩)⟩)⟩)⟩)⟩)⟩)⟩)⟩)⟩)⟩)⟩)⟩)⟩)⟩)⟩)⟩)⟩)⟩)⟩)⟩)⟩)⟩)⟩)⟩)⟩)⟩)⟩)⟩)⟩)⟩)⟩)⟩)⟩)⟩)⟩)):=by kernel_rfl
theorem sh_ir22 (G:Nat)(h:Heap)(a0 a1:Value)(R:Value→Heap→Prop):vc3 (pp G) none ir22 ⟨(F15 a0 a1 undef undef undef undef undef undef undef undef undef undef undef undef undef),[],h⟩ (finR prog [(.tmp 4)] R)=(oT (some (.int .i64 0)) none h (@kk ⟨λv1 h2=>oT (some a0) none h2 (@kk ⟨λv3 h4=>oT (some a1) none h4 (@kk ⟨λv5 h6=>oT (binPure prog .rem 3 (.tmp 6) (.tmp 7) v3 v5) none h6 (@kk ⟨λv7 h8=>oT (some v7) none h8 (@kk ⟨λv9 h10=>oT (some v9) none h10 (@kk ⟨λv11 h12=>oT (binPure prog .lss 3 (.tmp 9) (.const (.int .i64 0)) v11 (.int .i64 0)) none h12 (@kk ⟨λv13 h14=>vcond v13 (@kb ⟨oT (some v9) none h14 (@kk ⟨λv15 h16=>oT (some a1) none h16 (@kk ⟨λv17 h18=>oT (binPure prog .add 3 (.tmp 11) (.tmp 12) v15 v17) none h18 (@kk ⟨λv19 h20=>oT (some v19) none h20 (@kk ⟨λv21 h22=>oT (some v21) none h22 (@kk ⟨λv23 h24=>oT (some v23) none h24 (@kk ⟨λv25 h26=>R v25 h26⟩)⟩)⟩)⟩)⟩)⟩)⟩) (@kb ⟨oT (some v9) none h14 (@kk ⟨λv27 h28=>oT (some v27) none h28 (@kk ⟨λv29 h30=>R v29 h30⟩)⟩)⟩)⟩)⟩)⟩)⟩)⟩)⟩)⟩)):=by kernel_rfl
theorem sh_ir5_s0 (G:Nat)(ro:Option Nat)(df:List Nat)(h:Heap)(x0 x1 x2 x3 x4 x5 x6 x7 x8 x9 xA xB xC xD xE xF xG xH xI xJ xK xL xM xN xO xP xQ xR xS xT xU xV xW xX xY xZ yA yB yC yD yE yF yG yH yI yJ yK yL yM yN yO yP yQ yR yS yT yU yV yW yX yY yZ zA zB zC zD zE zF zG zH zI zJ zK:Value)(R:XExit→S→Prop):vc3 (pp G) ro ir5_s0 ⟨(F73 x0 x1 x2 x3 x4 x5 x6 x7 x8 x9 xA xB xC xD xE xF xG xH xI xJ xK xL xM xN xO xP xQ xR xS xT xU xV xW xX xY xZ yA yB yC yD yE yF yG yH yI yJ yK yL yM yN yO yP yQ yR yS yT yU yV yW yX yY yZ zA zB zC zD zE zF zG zH zI zJ zK),df,h⟩ R=(oT (some xC) none h (@kk ⟨λv1 h2=>oT (some x0) none h2 (@kk ⟨λv3 h4=>CallV (pp G) (.func (.func 22) #[] #[]) [v3,(.int .i64 60)] h4 (@kk ⟨λv5 h6=>oT (binPure prog .leq 3 (.tmp 24) (.tmp 26) v1 v5) none h6 (@kk ⟨λv7 h8=>vcond v7 (@kb ⟨oT (some xC) none h8 (@kk ⟨λv9 h10=>oT (some xB) none h10 (@kk ⟨λv11 h12=>oT (binPure prog .eql 3 (.tmp 30) (.tmp 31) v9 v11) none h12 (@kk ⟨λv13 h14=>vcond v13 (@kb ⟨oT (some x2) none h14 (@kk ⟨λv15 h16=>vcond v15 (@kb ⟨oT (some x7) none h16 (@kk ⟨λv17 h18=>CallV (pp G) (.func (.func 15) #[] #[]) [v17,(.int .i64 0)] h18 (@kk ⟨λv19 h20=>oT (some x7) none h20 (@kk ⟨λv21 h22=>oT (some x7) none h22 (@kk ⟨λv23 h24=>CallV (pp G) (.func (.func 21) #[] #[]) [v23] h24 (@kk ⟨λv25 h26=>oT (lnB (lnT prog 36) v25) none h26 (@kk ⟨λv27 h28=>oT (binPure prog .sub 3 (.tmp 39) (.const (.int .i64 1)) v27 (.int .i64 1)) none h28 (@kk ⟨λv29 h30=>CallV (pp G) (.func (.func 15) #[] #[]) [v21,v29] h30 (@kk ⟨λv31 h32=>oT (some xA) none h32 (@kk ⟨λv33 h34=>oT (binPure prog .sub 3 (.tmp 42) (.const (.int .i64 1)) v33 (.int .i64 1)) none h34 (@kk ⟨λv35 h36=>oT (some v35) none h36 (@kk ⟨λv37 h38=>oT (some (.int .i64 0)) none h38 (@kk ⟨λv39 h40=>vc3 (pp G) ro ir5_s2 ⟨(F73 x0 x1 x2 x3 x4 x5 x6 x7 v39 x9 v37 xB xC xD xE xF xG xH xI xJ xK xL xM xN v1 v3 v5 v7 xS xT v9 v11 v13 v15 v17 v19 v21 v23 v25 v27 v29 v31 v33 v35 yI yJ yK yL yM yN yO yP yQ yR yS yT yU yV yW yX yY yZ zA zB zC zD zE zF zG zH zI zJ zK),df,h40⟩ (@kR ⟨outR3 1 (thenR3 (λs1=>vc3 (pp G) ro ir5_s3 s1 (@kR ⟨R⟩)) R)⟩)⟩)⟩)⟩)⟩)⟩)⟩)⟩)⟩)⟩)⟩)⟩)⟩)⟩) (@kb ⟨oT (some x7) none h16 (@kk ⟨λv41 h42=>CallV (pp G) (.func (.func 25) #[] #[]) [v41,(.int .i64 9)] h42 (@kk ⟨λv43 h44=>oT (some (.int .i64 0)) none h44 (@kk ⟨λv45 h46=>vc3 (pp G) ro ir5_s2 ⟨(F73 x0 x1 x2 x3 x4 x5 x6 x7 v45 x9 xA xB xC xD xE xF xG xH xI xJ xK xL xM xN v1 v3 v5 v7 xS xT v9 v11 v13 v15 xY xZ yA yB yC yD yE yF yG yH v41 v43 yK yL yM yN yO yP yQ yR yS yT yU yV yW yX yY yZ zA zB zC zD zE zF zG zH zI zJ zK),df,h46⟩ (@kR ⟨outR3 1 (thenR3 (λs1=>vc3 (pp G) ro ir5_s3 s1 (@kR ⟨R⟩)) R)⟩)⟩)⟩)⟩)⟩)⟩)⟩) (@kb ⟨vc3 (pp G) ro ir5_s2 ⟨(F73 x0 x1 x2 x3 x4 x5 x6 x7 x8 x9 xA xB xC xD xE xF xG xH xI xJ xK xL xM xN v1 v3 v5 v7 xS xT v9 v11 v13 xX xY xZ yA yB yC yD yE yF yG yH yI yJ yK yL yM yN yO yP yQ yR yS yT yU yV yW yX yY yZ zA zB zC zD zE zF zG zH zI zJ zK),df,h14⟩ (@kR ⟨outR3 1 (thenR3 (λs1=>vc3 (pp G) ro ir5_s3 s1 (@kR ⟨R⟩)) R)⟩)⟩)⟩)⟩)⟩)⟩) (@kb ⟨R (.exit 0) ⟨(F73 x0 x1 x2 x3 x4 x5 x6 x7 x8 x9 xA xB xC xD xE xF xG xH xI xJ xK xL xM xN v1 v3 v5 v7 xS xT xU xV xW xX xY xZ yA yB yC yD yE yF yG yH yI yJ yK yL yM yN yO yP yQ yR yS yT yU yV yW yX yY yZ zA zB zC zD zE zF zG zH zI zJ zK),df,h8⟩⟩)⟩)⟩)⟩)⟩)):=by kernel_rfl
attribute [push_cast] sh_ir5_s0
theorem sh_ir5_s1 (G:Nat)(ro:Option Nat)(df:List Nat)(h:Heap)(x0 x1 x2 x3 x4 x5 x6 x7 x8 x9 xA xB xC xD xE xF xG xH xI xJ xK xL xM xN xO xP xQ xR xS xT xU xV xW xX xY xZ yA yB yC yD yE yF yG yH yI yJ yK yL yM yN yO yP yQ yR yS yT yU yV yW yX yY yZ zA zB zC zD zE zF zG zH zI zJ zK:Value)(R:XExit→S→Prop):vc3 (pp G) ro ir5_s1 ⟨(F73 x0 x1 x2 x3 x4 x5 x6 x7 x8 x9 xA xB xC xD xE xF xG xH xI xJ xK xL xM xN xO xP xQ xR xS xT xU xV xW xX xY xZ yA yB yC yD yE yF yG yH yI yJ yK yL yM yN yO yP yQ yR yS yT yU yV yW yX yY yZ zA zB zC zD zE zF zG zH zI zJ zK),df,h⟩ R=(oT (some (.bool true)) none h (@kk ⟨λv1 h2=>R .ret ⟨(F73 x0 x1 x2 x3 x4 x5 v1 x7 x8 x9 xA xB xC xD xE xF xG xH xI xJ xK xL xM xN xO xP xQ xR xS xT xU xV xW xX xY xZ yA yB yC yD yE yF yG yH yI yJ yK yL yM yN yO yP yQ yR yS yT yU yV yW yX yY yZ zA zB zC zD zE zF zG zH zI zJ zK),df,h2⟩⟩)):=by kernel_rfl
attribute [push_cast] sh_ir5_s1
theorem sh_ir5_s2 (G:Nat)(ro:Option Nat)(df:List Nat)(h:Heap)(x0 x1 x2 x3 x4 x5 x6 x7 x8 x9 xA xB xC xD xE xF xG xH xI xJ xK xL xM xN xO xP xQ xR xS xT xU xV xW xX xY xZ yA yB yC yD yE yF yG yH yI yJ yK yL yM yN yO yP yQ yR yS yT yU yV yW yX yY yZ zA zB zC zD zE zF zG zH zI zJ zK:Value)(R:XExit→S→Prop):vc3 (pp G) ro ir5_s2 ⟨(F73 x0 x1 x2 x3 x4 x5 x6 x7 x8 x9 xA xB xC xD xE xF xG xH xI xJ xK xL xM xN xO xP xQ xR xS xT xU xV xW xX xY xZ yA yB yC yD yE yF yG yH yI yJ yK yL yM yN yO yP yQ yR yS yT yU yV yW yX yY yZ zA zB zC zD zE zF zG zH zI zJ zK),df,h⟩ R=(oT (some x7) none h (@kk ⟨λv1 h2=>CallV (pp G) (.func (.func 26) #[] #[]) [v1] h2 (@kk ⟨λv3 h4=>oT (some xC) none h4 (@kk ⟨λv5 h6=>oT (some x8) none h6 (@kk ⟨λv7 h8=>oT (binPure prog .eql 3 (.tmp 48) (.tmp 49) v5 v7) none h8 (@kk ⟨λv9 h10=>vcond v9 (@kb ⟨oT (some xA) none h10 (@kk ⟨λv11 h12=>oT (binPure prog .add 3 (.tmp 51) (.const (.int .i64 1)) v11 (.int .i64 1)) none h12 (@kk ⟨λv13 h14=>oT (some v13) none h14 (@kk ⟨λv15 h16=>oT (some x9) none h16 (@kk ⟨λv17 h18=>oT (binPure prog .mul 3 (.const (.int .i64 2)) (.tmp 53) (.int .i64 2) v17) none h18 (@kk ⟨λv19 h20=>oT (mnV prog #[3,3] 3 [(.int .i64 8),v19]) none h20 (@kk ⟨λv21 h22=>oT (some v21) none h22 (@kk ⟨λv23 h24=>oT (some xC) none h24 (@kk ⟨λv25 h26=>oT (some v23) none h26 (@kk ⟨λv27 h28=>oT (binPure prog .add 3 (.tmp 56) (.tmp 57) v25 v27) none h28 (@kk ⟨λv29 h30=>oT (some v29) none h30 (@kk ⟨λv31 h32=>vc3 (pp G) ro ir5_s4 ⟨(F73 x0 x1 x2 x3 x4 x5 x6 x7 v31 v23 v15 xB xC xD xE xF xG xH xI xJ xK xL xM xN xO xP xQ xR xS xT xU xV xW xX xY xZ yA yB yC yD yE yF yG yH yI yJ v1 v3 v5 v7 v9 v11 v13 v17 v19 v21 v25 v27 v29 yX yY yZ zA zB zC zD zE zF zG zH zI zJ zK),df,h32⟩ (@kR ⟨R⟩)⟩)⟩)⟩)⟩)⟩)⟩)⟩)⟩)⟩)⟩)⟩)⟩) (@kb ⟨vc3 (pp G) ro ir5_s4 ⟨(F73 x0 x1 x2 x3 x4 x5 x6 x7 x8 x9 xA xB xC xD xE xF xG xH xI xJ xK xL xM xN xO xP xQ xR xS xT xU xV xW xX xY xZ yA yB yC yD yE yF yG yH yI yJ v1 v3 v5 v7 v9 yP yQ yR yS yT yU yV yW yX yY yZ zA zB zC zD zE zF zG zH zI zJ zK),df,h10⟩ (@kR ⟨R⟩)⟩)⟩)⟩)⟩)⟩)⟩)):=by kernel_rfl
attribute [push_cast] sh_ir5_s2
theorem sh_ir5_s3 (G:Nat)(ro:Option Nat)(df:List Nat)(h:Heap)(x0 x1 x2 x3 x4 x5 x6 x7 x8 x9 xA xB xC xD xE xF xG xH xI xJ xK xL xM xN xO xP xQ xR xS xT xU xV xW xX xY xZ yA yB yC yD yE yF yG yH yI yJ yK yL yM yN yO yP yQ yR yS yT yU yV yW yX yY yZ zA zB zC zD zE zF zG zH zI zJ zK:Value)(R:XExit→S→Prop):vc3 (pp G) ro ir5_s3 ⟨(F73 x0 x1 x2 x3 x4 x5 x6 x7 x8 x9 xA xB xC xD xE xF xG xH xI xJ xK xL xM xN xO xP xQ xR xS xT xU xV xW xX xY xZ yA yB yC yD yE yF yG yH yI yJ yK yL yM yN yO yP yQ yR yS yT yU yV yW yX yY yZ zA zB zC zD zE zF zG zH zI zJ zK),df,h⟩ R=(oT (some xC) none h (@kk ⟨λv1 h2=>oT (binPure prog .add 3 (.tmp 28) (.const (.int .i64 1)) v1 (.int .i64 1)) none h2 (@kk ⟨λv3 h4=>oT (some v3) none h4 (@kk ⟨λv5 h6=>R .normal ⟨(F73 x0 x1 x2 x3 x4 x5 x6 x7 x8 x9 xA xB v5 xD xE xF xG xH xI xJ xK xL xM xN xO xP xQ xR v1 v3 xU xV xW xX xY xZ yA yB yC yD yE yF yG yH yI yJ yK yL yM yN yO yP yQ yR yS yT yU yV yW yX yY yZ zA zB zC zD zE zF zG zH zI zJ zK),df,h6⟩⟩)⟩)⟩)):=by kernel_rfl
attribute [push_cast] sh_ir5_s3
theorem sh_ir5_s4 (G:Nat)(ro:Option Nat)(df:List Nat)(h:Heap)(x0 x1 x2 x3 x4 x5 x6 x7 x8 x9 xA xB xC xD xE xF xG xH xI xJ xK xL xM xN xO xP xQ xR xS xT xU xV xW xX xY xZ yA yB yC yD yE yF yG yH yI yJ yK yL yM yN yO yP yQ yR yS yT yU yV yW yX yY yZ zA zB zC zD zE zF zG zH zI zJ zK:Value)(R:XExit→S→Prop):vc3 (pp G) ro ir5_s4 ⟨(F73 x0 x1 x2 x3 x4 x5 x6 x7 x8 x9 xA xB xC xD xE xF xG xH xI xJ xK xL xM xN xO xP xQ xR xS xT xU xV xW xX xY xZ yA yB yC yD yE yF yG yH yI yJ yK yL yM yN yO yP yQ yR yS yT yU yV yW yX yY yZ zA zB zC zD zE zF zG zH zI zJ zK),df,h⟩ R=(oT (some x7) none h (@kk ⟨λv1 h2=>CallV (pp G) (.func (.func 21) #[] #[]) [v1] h2 (@kk ⟨λv3 h4=>oT (lnB (lnT prog 36) v3) none h4 (@kk ⟨λv5 h6=>oT (some xA) none h6 (@kk ⟨λv7 h8=>oT (binPure prog .neq 3 (.tmp 61) (.tmp 62) v5 v7) none h8 (@kk ⟨λv9 h10=>oT (some v9) none h10 (@kk ⟨λv11 h12=>gT v11 false (some x7) none h12 (@kk ⟨λv13 h14=>gC (pp G) v11 false (.func (.func 27) #[] #[]) [v13] h14 (@kk ⟨λv15 h16=>gT v11 false (lnB (lnT prog 22) v15) none h16 (@kk ⟨λv17 h18=>gT v11 false (binPure prog .eql 3 (.tmp 67) (.const (.int .i64 1)) v17 (.int .i64 1)) none h18 (@kk ⟨λv19 h20=>gT v11 false (some x8) none h20 (@kk ⟨λv21 h22=>gT v11 false (binPure prog .gtr 3 (.tmp 69) (.const (.int .i64 0)) v21 (.int .i64 0)) none h22 (@kk ⟨λv23 h24=>gT v11 false (binPure prog .neq 4 (.tmp 68) (.tmp 70) v19 v23) none h24 (@kk ⟨λv25 h26=>oT (pickV v11 (.bool true) v25) none h26 (@kk ⟨λv27 h28=>vcond v27 (@kb ⟨oT (some (.bool false)) none h28 (@kk ⟨λv29 h30=>R .ret ⟨(F73 x0 x1 x2 x3 x4 x5 v29 x7 x8 x9 xA xB xC xD xE xF xG xH xI xJ xK xL xM xN xO xP xQ xR xS xT xU xV xW xX xY xZ yA yB yC yD yE yF yG yH yI yJ yK yL yM yN yO yP yQ yR yS yT yU yV yW v1 v3 v5 v7 v9 v11 v13 v15 v17 v19 v21 v23 v25 v27),df,h30⟩⟩)⟩) (@kb ⟨R .normal ⟨(F73 x0 x1 x2 x3 x4 x5 x6 x7 x8 x9 xA xB xC xD xE xF xG xH xI xJ xK xL xM xN xO xP xQ xR xS xT xU xV xW xX xY xZ yA yB yC yD yE yF yG yH yI yJ yK yL yM yN yO yP yQ yR yS yT yU yV yW v1 v3 v5 v7 v9 v11 v13 v15 v17 v19 v21 v23 v25 v27),df,h28⟩⟩)⟩)⟩)⟩)⟩)⟩)⟩)⟩)⟩)⟩)⟩)⟩)⟩)⟩)⟩)):=by kernel_rfl
attribute [push_cast] sh_ir5_s4
end
end Go.Proofs.Ytejgmoenmbjidaa
namespace Go.Proofs.Ytejgmoenmbjidaa
open _root_.Go.Proofs.Try (prog)
open Go Go.RowKit Go.Ev
noncomputable section
set_option maxRecDepth 100000
variable (G:Nat) (h:Heap)
theorem g_lon {h h':Heap}{S:Nat→Prop}(g:Grew h h' S)(hl:h.lo≤h.next):h'.lo≤h'.next:=by have:=g.lo;have:=g.next;omega
theorem within_w (a m:Int)(h1:1≤m)(h2:m<1000000):CallE (pp G) 22 [.int .i64 a,.int .i64 m] h (λv h'=>v=.int .i64 (Wi' a m)∧h'=h):=by
 refine CallE.fir4 (good G) fir22 rfl rfl (F15_arr ..) λhlo=>?_
 rw[sh_ir22]
 have hlt:=Int.tmod_lt_of_pos a (show 0<m by omega)
 have hgt:=Int.lt_tmod_of_pos a (show 0<m by omega)
 have hw:IntKind.i64.wrap (a.tmod m)=a.tmod m:=wrap_i64 (by omega) (by omega)
 have hm:m≠0:=by omega
 unfold Wi'
 by_cases hc:a.tmod m<0
 ·have hw2:IntKind.i64.wrap (a.tmod m+m)=a.tmod m+m:=wrap_i64 (by omega) (by omega)
  simp(disch:=first|omega|(apply id;simp only[push_cast];first|done|omega))only[push_cast,Nat.reduceAdd,Nat.reduceMul,Nat.reduceSub,Nat.reduceLT,Nat.reduceEqDiff,Nat.reduceLeDiff,Int.reduceToNat,reduceCtorEq,Int.reduceLT,Int.reduceLE,Int.reduceAdd,Int.reduceSub,Int.reduceMul,Int.reduceNeg,Int.reduceEq,hw,hm,hc,hw2]
 ·simp(disch:=first|omega|(apply id;simp only[push_cast];first|done|omega))only[push_cast,Nat.reduceAdd,Nat.reduceMul,Nat.reduceSub,Nat.reduceLT,Nat.reduceEqDiff,Nat.reduceLeDiff,Int.reduceToNat,reduceCtorEq,Int.reduceLT,Int.reduceLE,Int.reduceAdd,Int.reduceSub,Int.reduceMul,Int.reduceNeg,Int.reduceEq,hw,hm,hc]
def pay:List UInt8:=[112,97,121]
theorem known_w:CallE (pp G) 10 [] h (λv h'=>v=.bool true∧Gr h h'):=by
 refine CallE.fir4 (good G) fir10 rfl rfl (F56_arr ..) λhlo=>?_
 rw[sh_ir10]
 have hr:bsC 1 3 h (fillQ (List.map (λi=>(i,1)) (List.range 1)) (List.replicate 1 [Value.int IntKind.i64 0]).flatten (.int .i64 7) [] (List.map (λi=>(i,1)) (List.range 1))[0]?)=some (.slice (some ⟨h.next,0,none⟩) 1 1,h.add (O [.int .i64 7] 3 false)):=rowI h 7
 simp(disch:=first|omega|(apply id;simp only[push_cast];first|done|omega))only[push_cast,Nat.reduceAdd,Nat.reduceMul,Nat.reduceSub,Nat.reduceLT,Nat.reduceEqDiff,Nat.reduceLeDiff,Int.reduceToNat,reduceCtorEq,Int.reduceLT,Int.reduceLE,Int.reduceAdd,Int.reduceSub,Int.reduceMul,Int.reduceNeg,Int.reduceEq,hr]
 have c1:=cells_add_s (h:=h) [.int .i64 7] 3 false h.next rfl
 have g1:Gr h (h.add (O [.int .i64 7] 3 false)):=Grew.add _ _ _
 have n1:(h.add (O [.int .i64 7] 3 false)).next=h.next+1:=next_add _
 have l1:=g1.lo
 generalize h.add (O [.int .i64 7] 3 false)=h1 at *
 refine CallE.to (new_p G h1 [7] _ 1 (Sl.row c1 (by omega)) (λb hb=>by obtain ⟨o,s,e⟩:=hb;cases e;omega) (by decide) (λe=>by cases e)) ?_
 rintro _ h2 ⟨⟨p,rfl,a2⟩,g2⟩
 have gg:Gr h h2:=g1.tr' g2 λ_ _ h=>h
 simp(disch:=first|omega|(apply id;simp only[push_cast];first|done|omega))only[push_cast,Nat.reduceAdd,Nat.reduceMul,Nat.reduceSub,Nat.reduceLT,Nat.reduceEqDiff,Nat.reduceLeDiff,Int.reduceToNat,reduceCtorEq,Int.reduceLT,Int.reduceLE,Int.reduceAdd,Int.reduceSub,Int.reduceMul,Int.reduceNeg,Int.reduceEq]
 refine CallE.to (flight_p G a2 (new_ok _) (by decide)) ?_
 rintro _ h3 ⟨⟨af,cf,rfl,_⟩,g3⟩
 have z:((newW [7]).fl.length:Int)=0:=rfl
 have a3:=a2.grew g3 λ_ _ _ h=>h
 have ee:Value.agg ⟨[.string (Tx [112,97,121]),.int .i64 3,.int .i64 0]⟩=.agg ⟨evC ⟨pay,3,0⟩⟩:=rfl
 simp(disch:=first|omega|(apply id;simp only[push_cast];first|done|omega))only[push_cast,Nat.reduceAdd,Nat.reduceMul,Nat.reduceSub,Nat.reduceLT,Nat.reduceEqDiff,Nat.reduceLeDiff,Int.reduceToNat,reduceCtorEq,Int.reduceLT,Int.reduceLE,Int.reduceAdd,Int.reduceSub,Int.reduceMul,Int.reduceNeg,Int.reduceEq,z,ee]
 refine CallE.to (ask_p G a3 (new_ok _) (by decide) ⟨pay,3,0⟩) ?_
 rintro _ h4 ⟨rfl,g4⟩
 have a4:=g4.at_
 simp(disch:=first|omega|(apply id;simp only[push_cast];first|done|omega))only[push_cast,Nat.reduceAdd,Nat.reduceMul,Nat.reduceSub,Nat.reduceLT,Nat.reduceEqDiff,Nat.reduceLeDiff,Int.reduceToNat,reduceCtorEq,Int.reduceLT,Int.reduceLE,Int.reduceAdd,Int.reduceSub,Int.reduceMul,Int.reduceNeg,Int.reduceEq]
 refine CallE.to (deliver_p G a4 (ask_ok (new_ok _) _ _) (by decide) 0) ?_
 rintro _ h5 ⟨rfl,g5⟩
 have a5:=g5.at_
 have d1:deliverW (askW (newW [7]) pay 3) 0=((e0,false),{ askW (newW [7]) pay 3 with fl:=[⟨true,⟨pay,3,7⟩⟩],ap:=[⟨pay,3,7⟩],kp:=[⟨pay,3,7⟩] }):=rfl
 rw[d1] at a5 ⊢
 have ok5:=deliver_ok (ask_ok (new_ok [7]) pay 3) 0
 rw[d1] at ok5
 dsimp only at a5 ok5 ⊢
 have hz:evC e0=[.string (Tx []),.int .i64 0,.int .i64 0]:=rfl
 rw[hz]
 have l5:=g_lon g5.gr (g_lon g4.gr (g_lon g3 (g_lon g2 (g_lon g1 hlo))))
 simp(disch:=first|omega|(apply id;simp only[push_cast];first|done|omega))only[push_cast,Nat.reduceAdd,Nat.reduceMul,Nat.reduceSub,Nat.reduceLT,Nat.reduceEqDiff,Nat.reduceLeDiff,Int.reduceToNat,reduceCtorEq,Int.reduceLT,Int.reduceLE,Int.reduceAdd,Int.reduceSub,Int.reduceMul,Int.reduceNeg,Int.reduceEq,l5]
 have a6:=λ(x y:AObj)=>a5.grew (((Gr.refl h5).add' x).put' h5.next y (Nat.le_refl _)) λ_ _ _ h=>h
 refine CallE.to (deliver_p G (a6 _ _) ok5 (by decide) 0) ?_
 rintro _ h7 ⟨rfl,g7⟩
 have a7:=g7.at_
 have d2:deliverW { askW (newW [7]) pay 3 with fl:=[⟨true,⟨pay,3,7⟩⟩],ap:=[⟨pay,3,7⟩],kp:=[⟨pay,3,7⟩] } 0=((⟨pay,3,7⟩,true),⟨[7],0,[],[],[⟨pay,3,7⟩],[⟨pay,3,7⟩]⟩):=rfl
 have ok7:=deliver_ok ok5 0
 dsimp only at d2 a7 ok7 ⊢
 rw[d2] at a7 ok7 ⊢
 dsimp only at a7 ok7 ⊢
 unfold evC pay
 dsimp only
 have g6:Gr h5 ((h5.add (O [.string (Tx []),.int .i64 0,.int .i64 0] 31 false)).put h5.next (O [.string (Tx []),.int .i64 0,.int .i64 0] 31 false)):=((Gr.refl h5).add' _).put' h5.next _ (Nat.le_refl _)
 have l7:=g_lon g7.gr (g_lon g6 l5)
 have a8:=λ(x y:AObj)=>a7.grew (((Gr.refl h7).add' x).put' h7.next y (Nat.le_refl _)) λ_ _ _ h=>h
 simp(disch:=first|omega|(apply id;simp only[push_cast];first|done|omega))only[push_cast,Nat.reduceAdd,Nat.reduceMul,Nat.reduceSub,Nat.reduceLT,Nat.reduceEqDiff,Nat.reduceLeDiff,Int.reduceToNat,reduceCtorEq,Int.reduceLT,Int.reduceLE,Int.reduceAdd,Int.reduceSub,Int.reduceMul,Int.reduceNeg,Int.reduceEq,l7]
 refine CallE.to (applied_p G (a8 _ _) ok7 (by decide)) ?_
 rintro _ h9 ⟨⟨ap,cp,rfl,_⟩,g9⟩
 have a9:=(a8 _ _).grew g9 λ_ _ _ h=>h
 have z2:(([⟨pay,3,7⟩]:List Evt).length:Int)=1:=rfl
 simp(disch:=first|omega|(apply id;simp only[push_cast];first|done|omega))only[push_cast,Nat.reduceAdd,Nat.reduceMul,Nat.reduceSub,Nat.reduceLT,Nat.reduceEqDiff,Nat.reduceLeDiff,Int.reduceToNat,reduceCtorEq,Int.reduceLT,Int.reduceLE,Int.reduceAdd,Int.reduceSub,Int.reduceMul,Int.reduceNeg,Int.reduceEq,z2]
 refine CallE.to (open_p G a9 ok7 (by decide)) ?_
 rintro _ h10 ⟨⟨ao,co,rfl,_⟩,g10⟩
 have z3:(([]:List Opn).length:Int)=0:=rfl
 simp(disch:=first|omega|(apply id;simp only[push_cast];first|done|omega))only[push_cast,Nat.reduceAdd,Nat.reduceMul,Nat.reduceSub,Nat.reduceLT,Nat.reduceEqDiff,Nat.reduceLeDiff,Int.reduceToNat,reduceCtorEq,Int.reduceLT,Int.reduceLE,Int.reduceAdd,Int.reduceSub,Int.reduceMul,Int.reduceNeg,Int.reduceEq,z3]
 have m2:=gg.next
 have m3:=g3.next
 have H6:Gr h h5:=((gg.tr' g3 λ_ _ h=>h).tr' g4.gr λb hb e=>by omega).tr' g5.gr λb hb e=>by omega
 exact (((((H6.tr' g6 λ_ _ h=>h).tr' g7.gr λb hb e=>by have:=g4.gr.next;omega).tr' (((Gr.refl h7).add' _).put' h7.next _ (Nat.le_refl _)) λ_ _ h=>h).tr' g9 λ_ _ h=>h).tr' g10 λ_ _ h=>h)
end
end Go.Proofs.Ytejgmoenmbjidaa
namespace Go.Proofs.Ytejgmoenmbjidaa
open _root_.Go.Proofs.Try (prog)
open Go Go.RowKit Go.Ev
noncomputable section
set_option maxRecDepth 100000
variable (G:Nat) (h:Heap)
end
end Go.Proofs.Ytejgmoenmbjidaa
namespace Go.Proofs.Ytejgmoenmbjidaa
open _root_.Go.Proofs.Try (prog)
open Go Go.RowKit Go.Ev
noncomputable section
set_option maxRecDepth 100000
variable (G:Nat) (h:Heap)
end
end Go.Proofs.Ytejgmoenmbjidaa
namespace Go.Proofs.Ytejgmoenmbjidaa
open _root_.Go.Proofs.Try (prog)
open Go Go.RowKit Go.Ev
noncomputable section
set_option maxRecDepth 100000
variable (G:Nat) (h:Heap)
theorem tick_none {w:Wi}(e:w.op=[]):tickW w={ w with ck:=w.ck+1 }:=by
 obtain ⟨vs,ck,op,fl,ap,kp⟩:=w
 subst e
 unfold tickW rqs
 simp
def rq9:Msg:=⟨false,⟨pay,9,0⟩⟩
def wa (t:Nat)(nx wt:Int)(n:Nat):Wi:=⟨[5],(t:Int)-1,[⟨pay,9,nx,wt⟩],List.replicate n rq9,[],[]⟩
theorem wa_ok {t n:Nat}{nx wt:Int}(h0:1≤t)(h1:0≤wt∧wt≤8)(h2:n≤t):WOk (wa t nx wt n) t:=
 ⟨by show 0≤(t:Int)-1∧(t:Int)-1≤t;omega,by show (List.replicate n rq9).length≤_;rw[List.length_replicate];omega,Nat.zero_le _,List.pairwise_singleton _ _,λo ho=>by
  have:o=⟨pay,9,nx,wt⟩:=by simpa[wa] using ho
  subst this;exact h1,rfl⟩
theorem wa_tick (t:Nat)(nx wt:Int)(n:Nat):tickW (wa t nx wt n)=if nx=t then wa (t+1) (t+min (2*wt) 8) (min (2*wt) 8) (n+1) else wa (t+1) nx wt n:=by
 have e:(t:Int)-1+1=t:=by omega
 have e2:((t+1:Nat):Int)-1=t:=by omega
 unfold tickW rqs wa
 dsimp only
 rw[e,e2]
 by_cases h:nx=t
 ·simp[h,bmp,rq9,List.replicate_succ']
 ·simp[h,bmp]
theorem wa_forget (t:Nat)(nx wt:Int)(n:Nat):(forgetW (wa t nx wt n) 9).op=[]∧(forgetW (wa t nx wt n) 9).fl.length=n:=by
 unfold forgetW wa delK
 simp
theorem wa_told (t:Nat)(nx wt:Int)(n:Nat):(deliverW (wa t nx wt (n+1)) 0).2.fl.length=n+1∧(deliverW (deliverW (wa t nx wt (n+1)) 0).2 n).2.op=[]∧(deliverW (deliverW (wa t nx wt (n+1)) 0).2 n).2.fl.length=n:=by
 have h1:deliverW (wa t nx wt (n+1)) 0=((e0,false),⟨[5],(t:Int)-1,[⟨pay,9,nx,wt⟩],List.replicate n rq9++[⟨true,⟨pay,9,5⟩⟩],[⟨pay,9,5⟩],[⟨pay,9,5⟩]⟩):=by
  unfold deliverW
  rw[if_pos (by show 0≤(0:Int)∧(0:Int)<((List.replicate (n+1) rq9).length:Int);rw[List.length_replicate];omega)]
  have hd:dropW (wa t nx wt (n+1)) 0=wa t nx wt n:=by
   unfold dropW
   rw[if_pos (by show 0≤(0:Int)∧(0:Int)<((List.replicate (n+1) rq9).length:Int);rw[List.length_replicate];omega)]
   rfl
  rw[hd]
  rfl
 rw[h1]
 have hl:(List.replicate n rq9++[(⟨true,⟨pay,9,5⟩⟩:Msg)]).length=n+1:=by rw[List.length_append,List.length_replicate];rfl
 have hc:0≤(n:Int)∧(n:Int)<((List.replicate n rq9++[(⟨true,⟨pay,9,5⟩⟩:Msg)]).length:Int):=by rw[hl];omega
 have hg:(List.replicate n rq9++[(⟨true,⟨pay,9,5⟩⟩:Msg)])[n]?=some ⟨true,⟨pay,9,5⟩⟩:=by
  rw[List.getElem?_append_right (by rw[List.length_replicate];exact Nat.le_refl _),List.length_replicate,Nat.sub_self];rfl
 refine ⟨hl,?_⟩
 have h2:deliverW ⟨[5],(t:Int)-1,[⟨pay,9,nx,wt⟩],List.replicate n rq9++[⟨true,⟨pay,9,5⟩⟩],[⟨pay,9,5⟩],[⟨pay,9,5⟩]⟩ n=((⟨pay,9,5⟩,true),⟨[5],(t:Int)-1,[],(List.replicate n rq9++[(⟨true,⟨pay,9,5⟩⟩:Msg)]).eraseIdx n,[⟨pay,9,5⟩],[⟨pay,9,5⟩]⟩):=by
  unfold deliverW
  dsimp only
  rw[if_pos hc,Int.toNat_natCast,hg]
  unfold dropW
  dsimp only
  rw[if_pos hc,Int.toNat_natCast]
  rfl
 rw[h2]
 exact ⟨rfl,by show ((List.replicate n rq9++[(⟨true,⟨pay,9,5⟩⟩:Msg)]).eraseIdx n).length=n;rw[List.length_eraseIdx,if_pos (by rw[hl];omega),hl];rfl⟩
inductive I5 (h:Heap)(tk st:Int)(td:Bool)(p:Nat)(en:Int):Nat→S→Prop
 | a {t n : Nat} {tv nv nx wt : Int} {h2 : Heap} {x3 x4 x5 x6 xD xE xF xG xH xI xJ xK xL xM xN xO xP xQ xR xS xT xU xV xW xX xY xZ yA yB yC yD yE yF yG yH yI yJ yK yL yM yN yO yP yQ yR yS yT yU yV yW yX yY yZ zA zB zC zD zE zF zG zH zI zJ zK : Value} : tv = t → nv = (n : Int) + 1 → 1 ≤ t → t ≤ 61 → 1 ≤ wt ∧ wt ≤ 8 → (t : Int) ≤ nx → nx ≤ t + 8 → n + 1 ≤ t → (en < 1 ∨ (t : Int) ≤ en) → WW h2 p (fun b => h.next ≤ b) (wa t nx wt (n + 1)) → Gr h h2 →
   I5 h tk st td p en (61-t) ⟨(F73 (.int .i64 tk) (.int .i64 st) (.bool td) x3 x4 x5 x6 (.pointer (some ⟨p,0,none⟩)) (.int .i64 nx) (.int .i64 wt) (.int .i64 nv) (.int .i64 en) (.int .i64 tv) xD xE xF xG xH xI xJ xK xL xM xN xO xP xQ xR xS xT xU xV xW xX xY xZ yA yB yC yD yE yF yG yH yI yJ yK yL yM yN yO yP yQ yR yS yT yU yV yW yX yY yZ zA zB zC zD zE zF zG zH zI zJ zK),[],h2⟩
 | b {t n : Nat} {tv nv wt : Int} {w : Wi} {h2 : Heap} {x3 x4 x5 x6 xD xE xF xG xH xI xJ xK xL xM xN xO xP xQ xR xS xT xU xV xW xX xY xZ yA yB yC yD yE yF yG yH yI yJ yK yL yM yN yO yP yQ yR yS yT yU yV yW yX yY yZ zA zB zC zD zE zF zG zH zI zJ zK : Value} : tv = t → nv = n → 1 ≤ t → t ≤ 61 → w.op = [] → w.fl.length = n → WOk w (t + 5) → en < t → WW h2 p (fun b => h.next ≤ b) w → Gr h h2 →
   I5 h tk st td p en (61-t) ⟨(F73 (.int .i64 tk) (.int .i64 st) (.bool td) x3 x4 x5 x6 (.pointer (some ⟨p,0,none⟩)) (.int .i64 0) (.int .i64 wt) (.int .i64 nv) (.int .i64 en) (.int .i64 tv) xD xE xF xG xH xI xJ xK xL xM xN xO xP xQ xR xS xT xU xV xW xX xY xZ yA yB yC yD yE yF yG yH yI yJ yK yL yM yN yO yP yQ yR yS yT yU yV yW yX yY yZ zA zB zC zD zE zF zG zH zI zJ zK),[],h2⟩
theorem wireagain_w (tk st:Int)(td:Bool):CallE (pp G) 5 [.int .i64 tk,.int .i64 st,.bool td] h (λv h'=>v=.bool true):=by
 refine CallE.fir4 (good G) fir5 rfl rfl (F73_arr ..) λhlo=>?_
 rw[sh_ir5]
 simp(disch:=first|omega|(apply id;simp only[push_cast];first|done|omega))only[push_cast,Nat.reduceAdd,Nat.reduceMul,Nat.reduceSub,Nat.reduceLT,Nat.reduceEqDiff,Nat.reduceLeDiff,Int.reduceToNat,reduceCtorEq,Int.reduceLT,Int.reduceLE,Int.reduceAdd,Int.reduceSub,Int.reduceMul,Int.reduceNeg,Int.reduceEq]
 refine CallE.to (known_w G _) ?_
 rintro _ h1 ⟨rfl,g1⟩
 have hr:bsC 1 3 h1 (fillQ (List.map (λi=>(i,1)) (List.range 1)) (List.replicate 1 [Value.int IntKind.i64 0]).flatten (.int .i64 5) [] (List.map (λi=>(i,1)) (List.range 1))[0]?)=some (.slice (some ⟨h1.next,0,none⟩) 1 1,h1.add (O [.int .i64 5] 3 false)):=rowI h1 5
 simp(disch:=first|omega|(apply id;simp only[push_cast];first|done|omega))only[push_cast,Nat.reduceAdd,Nat.reduceMul,Nat.reduceSub,Nat.reduceLT,Nat.reduceEqDiff,Nat.reduceLeDiff,Int.reduceToNat,reduceCtorEq,Int.reduceLT,Int.reduceLE,Int.reduceAdd,Int.reduceSub,Int.reduceMul,Int.reduceNeg,Int.reduceEq,hr]
 have c1:=cells_add_s (h:=h1) [.int .i64 5] 3 false h1.next rfl
 have g1':Gr h (h1.add (O [.int .i64 5] 3 false)):=g1.tr' (Grew.add _ _ _) λ_ _ h=>h
 have n1:(h1.add (O [.int .i64 5] 3 false)).next=h1.next+1:=next_add _
 have l1:=g_lon g1 hlo
 have l1':(h1.add (O [.int .i64 5] 3 false)).lo=h1.lo:=lo_add _
 have nn:=g1.next
 refine CallE.to (new_p G (h1.add (O [.int .i64 5] 3 false)) [5] _ 1 (Sl.row c1 (by omega)) (λb hb=>by obtain ⟨o,s,e⟩:=hb;cases e;omega) (by decide) (λe=>by cases e)) ?_
 rintro _ h2 ⟨⟨p,rfl,a2⟩,g2⟩
 have a2':=a2.mono (C:=λb=>h.next≤b) λb hb=>by omega
 have G2:=g1'.tr' g2 λ_ _ h=>h
 have ee:Value.agg ⟨[.string (Tx [112,97,121]),.int .i64 9,.int .i64 0]⟩=.agg ⟨evC ⟨pay,9,0⟩⟩:=rfl
 simp(disch:=first|omega|(apply id;simp only[push_cast];first|done|omega))only[push_cast,Nat.reduceAdd,Nat.reduceMul,Nat.reduceSub,Nat.reduceLT,Nat.reduceEqDiff,Nat.reduceLeDiff,Int.reduceToNat,reduceCtorEq,Int.reduceLT,Int.reduceLE,Int.reduceAdd,Int.reduceSub,Int.reduceMul,Int.reduceNeg,Int.reduceEq,ee]
 refine CallE.to (ask_p G a2' (new_ok _) (by decide) ⟨pay,9,0⟩) ?_
 rintro _ h3 ⟨rfl,p3⟩
 have a3:WW h3 p (λb=>h.next≤b) (wa 1 1 1 1):=p3.at_.mono λb hb=>by have:=g1'.next;have:=G2.next;omega
 have G3:=G2.tr' p3.gr λb hb e=>by omega
 simp(disch:=first|omega|(apply id;simp only[push_cast];first|done|omega))only[push_cast,Nat.reduceAdd,Nat.reduceMul,Nat.reduceSub,Nat.reduceLT,Nat.reduceEqDiff,Nat.reduceLeDiff,Int.reduceToNat,reduceCtorEq,Int.reduceLT,Int.reduceLE,Int.reduceAdd,Int.reduceSub,Int.reduceMul,Int.reduceNeg,Int.reduceEq]
 refine CallE.to (within_w G _ st 60 (by decide) (by decide)) ?_
 rintro _ _ ⟨rfl,e⟩
 rw[e]
 clear e
 have hen:=Wi_range st 60 (by decide)
 generalize Wi' st 60=en at hen ⊢
 simp(disch:=first|omega|(apply id;simp only[push_cast];first|done|omega))only[push_cast,Nat.reduceAdd,Nat.reduceMul,Nat.reduceSub,Nat.reduceLT,Nat.reduceEqDiff,Nat.reduceLeDiff,Int.reduceToNat,reduceCtorEq,Int.reduceLT,Int.reduceLE,Int.reduceAdd,Int.reduceSub,Int.reduceMul,Int.reduceNeg,Int.reduceEq]
 refine W.loop4 (good G) (I5 h tk st td p en) ?_ _ _ (I5.a (t:=1) (n:=0) rfl rfl (by decide) (by decide) (by decide) (by decide) (by decide) (by decide) (by omega) a3 G3)
 have hkt:=Wi_range tk 60 (by decide)
 intro k s1 hI
 cases hI with
 | @b t n tv nv wt w h4 _ _ _ _ _ _ _ _ _ _ _ _ _ _ _ _ _ _ _ _ _ _ _ _ _ _ _ _ _ _ _ _ _ _ _ _ _ _ _ _ _ _ _ _ _ _ _ _ _ _ _ _ _ _ _ _ _ _ _ _ _ _ _ _ htv hnv ht1 ht2 e1 e2 ok hen2 a4 g4=>
  subst htv hnv
  rw[sh_ir5_s0]
  simp(disch:=first|omega|(apply id;simp only[push_cast];first|done|omega))only[push_cast,Nat.reduceAdd,Nat.reduceMul,Nat.reduceSub,Nat.reduceLT,Nat.reduceEqDiff,Nat.reduceLeDiff,Int.reduceToNat,reduceCtorEq,Int.reduceLT,Int.reduceLE,Int.reduceAdd,Int.reduceSub,Int.reduceMul,Int.reduceNeg,Int.reduceEq]
  refine CallE.to (within_w G _ tk 60 (by decide) (by decide)) ?_
  rintro _ _ ⟨rfl,e⟩
  rw[e]
  clear e
  by_cases h1:(t:Int)≤Wi' tk 60
  ·have h2:¬ (t:Int)=en:=by omega
   simp(disch:=first|omega|(apply id;simp only[push_cast];first|done|omega))only[push_cast,Nat.reduceAdd,Nat.reduceMul,Nat.reduceSub,Nat.reduceLT,Nat.reduceEqDiff,Nat.reduceLeDiff,Int.reduceToNat,reduceCtorEq,Int.reduceLT,Int.reduceLE,Int.reduceAdd,Int.reduceSub,Int.reduceMul,Int.reduceNeg,Int.reduceEq,h1,h2]
   have ht':¬ (t:Int)=0:=by omega
   have w1:IntKind.i64.wrap ((t:Int)+1)=(t:Int)+1:=wrap_i64 (by omega) (by omega)
   have n4:=g4.next
   have hop:=e1
   refine CallE.to (tick_p G a4 ok (by omega) (by rw[hop];exact Nat.zero_le _)) ?_
   rintro _ h7 ⟨rfl,p7⟩
   have a7:=p7.at_
   have ok7:=tick_ok ok (by rw[hop];exact Nat.zero_le _)
   rw[tick_none hop] at a7 ok7
   simp(disch:=first|omega|(apply id;simp only[push_cast];first|done|omega))only[push_cast,Nat.reduceAdd,Nat.reduceMul,Nat.reduceSub,Nat.reduceLT,Nat.reduceEqDiff,Nat.reduceLeDiff,Int.reduceToNat,reduceCtorEq,Int.reduceLT,Int.reduceLE,Int.reduceAdd,Int.reduceSub,Int.reduceMul,Int.reduceNeg,Int.reduceEq,ht']
   refine CallE.to (flight_p G a7 ok7 (by omega)) ?_
   rintro _ h8 ⟨⟨af,cf,rfl,_⟩,g8⟩
   have e3:=congrArg (Nat.cast (R:=Int)) e2
   simp(disch:=first|omega|(apply id;simp only[push_cast];first|done|omega))only[push_cast,Nat.reduceAdd,Nat.reduceMul,Nat.reduceSub,Nat.reduceLT,Nat.reduceEqDiff,Nat.reduceLeDiff,Int.reduceToNat,reduceCtorEq,Int.reduceLT,Int.reduceLE,Int.reduceAdd,Int.reduceSub,Int.reduceMul,Int.reduceNeg,Int.reduceEq,e3]
   refine CallE.to (open_p G (a7.grew g8 λ_ _ _ h=>h) ok7 (by rw[hop];exact Nat.zero_le _)) ?_
   rintro _ h9 ⟨⟨ao,co,rfl,_⟩,g9⟩
   have e4:∀ l:List Opn,l=[]→((l.length:Int)=1)=False:=λl hl=>by rw[hl];simp
   have e4':=e4 _ hop
   simp(disch:=first|omega|(apply id;simp only[push_cast];first|done|omega))only[push_cast,Nat.reduceAdd,Nat.reduceMul,Nat.reduceSub,Nat.reduceLT,Nat.reduceEqDiff,Nat.reduceLeDiff,Int.reduceToNat,reduceCtorEq,Int.reduceLT,Int.reduceLE,Int.reduceAdd,Int.reduceSub,Int.reduceMul,Int.reduceNeg,Int.reduceEq,e4',w1,beq_self_eq_true]
   exact ⟨61-(t+1),by omega,I5.b (t:=t+1) (w:={ w with ck:=w.ck+1 }) (by omega) rfl (by omega) (by omega) hop e2 (ok7.le (by omega)) (by omega) (((a7.grew g8 λ_ _ _ h=>h).grew g9 λ_ _ _ h=>h).mono λb hb=>by omega) (((g4.tr' p7.gr λb hb e=>by omega).tr' g8 λb hb e=>e.elim).tr' g9 λb hb e=>e.elim)⟩
  ·simp(disch:=first|omega|(apply id;simp only[push_cast];first|done|omega))only[push_cast,Nat.reduceAdd,Nat.reduceMul,Nat.reduceSub,Nat.reduceLT,Nat.reduceEqDiff,Nat.reduceLeDiff,Int.reduceToNat,reduceCtorEq,Int.reduceLT,Int.reduceLE,Int.reduceAdd,Int.reduceSub,Int.reduceMul,Int.reduceNeg,Int.reduceEq,h1]
 | @a t n tv nv nx wt h4 _ _ _ _ _ _ _ _ _ _ _ _ _ _ _ _ _ _ _ _ _ _ _ _ _ _ _ _ _ _ _ _ _ _ _ _ _ _ _ _ _ _ _ _ _ _ _ _ _ _ _ _ _ _ _ _ _ _ _ _ _ _ _ _ htv hnv ht1 ht2 hwt hnx hnx2 hnt hen2 a4 g4=>
  subst htv hnv
  rw[sh_ir5_s0]
  simp(disch:=first|omega|(apply id;simp only[push_cast];first|done|omega))only[push_cast,Nat.reduceAdd,Nat.reduceMul,Nat.reduceSub,Nat.reduceLT,Nat.reduceEqDiff,Nat.reduceLeDiff,Int.reduceToNat,reduceCtorEq,Int.reduceLT,Int.reduceLE,Int.reduceAdd,Int.reduceSub,Int.reduceMul,Int.reduceNeg,Int.reduceEq]
  refine CallE.to (within_w G _ tk 60 (by decide) (by decide)) ?_
  rintro _ _ ⟨rfl,e⟩
  rw[e]
  clear e
  have n4:=g4.next
  by_cases h1:(t:Int)≤Wi' tk 60
  ·have ok:=wa_ok (nx:=nx) (wt:=wt) ht1 (by omega) hnt
   by_cases h2:en=(t:Int)
   ·subst h2
    have hz:((t:Int)=t)=True:=by simp
    cases td with
    | true=>
     simp(disch:=first|omega|(apply id;simp only[push_cast];first|done|omega))only[push_cast,Nat.reduceAdd,Nat.reduceMul,Nat.reduceSub,Nat.reduceLT,Nat.reduceEqDiff,Nat.reduceLeDiff,Int.reduceToNat,reduceCtorEq,Int.reduceLT,Int.reduceLE,Int.reduceAdd,Int.reduceSub,Int.reduceMul,Int.reduceNeg,Int.reduceEq,h1,hz]
     refine CallE.to (deliver_p G a4 ok (by omega) 0) ?_
     rintro _ h5 ⟨rfl,p5⟩
     have a5:=p5.at_
     have ok5:=deliver_ok ok 0
     obtain ⟨f0,f1',f2'⟩:=wa_told t nx wt n
     simp(disch:=first|omega|(apply id;simp only[push_cast];first|done|omega))only[push_cast,Nat.reduceAdd,Nat.reduceMul,Nat.reduceSub,Nat.reduceLT,Nat.reduceEqDiff,Nat.reduceLeDiff,Int.reduceToNat,reduceCtorEq,Int.reduceLT,Int.reduceLE,Int.reduceAdd,Int.reduceSub,Int.reduceMul,Int.reduceNeg,Int.reduceEq]
     refine CallE.to (flight_p G a5 ok5 (by omega)) ?_
     rintro _ h6 ⟨⟨ah,ch,rfl,_⟩,g6⟩
     have w2:IntKind.i64.wrap ((n:Int)+1-1)=(n:Int):=(wrap_i64 (by omega) (by omega)).trans (by omega)
     have f0':((deliverW (wa t nx wt (n+1)) 0).2.fl.length:Int)=(n:Int)+1:=by omega
     simp(disch:=first|omega|(apply id;simp only[push_cast];first|done|omega))only[push_cast,Nat.reduceAdd,Nat.reduceMul,Nat.reduceSub,Nat.reduceLT,Nat.reduceEqDiff,Nat.reduceLeDiff,Int.reduceToNat,reduceCtorEq,Int.reduceLT,Int.reduceLE,Int.reduceAdd,Int.reduceSub,Int.reduceMul,Int.reduceNeg,Int.reduceEq,f0',w2]
     refine CallE.to (deliver_p G (a5.grew g6 λ_ _ _ h=>h) ok5 (by omega) n) ?_
     rintro _ h6' ⟨rfl,p6⟩
     have a6:=p6.at_
     have ok6:=deliver_ok ok5 n
     simp(disch:=first|omega|(apply id;simp only[push_cast];first|done|omega))only[push_cast,Nat.reduceAdd,Nat.reduceMul,Nat.reduceSub,Nat.reduceLT,Nat.reduceEqDiff,Nat.reduceLeDiff,Int.reduceToNat,reduceCtorEq,Int.reduceLT,Int.reduceLE,Int.reduceAdd,Int.reduceSub,Int.reduceMul,Int.reduceNeg,Int.reduceEq,w2]
     have ht':¬ (t:Int)=0:=by omega
     have w1:IntKind.i64.wrap ((t:Int)+1)=(t:Int)+1:=wrap_i64 (by omega) (by omega)
     have:=p5.gr.next
     have:=p6.gr.next
     have:=g6.next
     have hop:=f1'
     refine CallE.to (tick_p G a6 ok6 (by omega) (by rw[hop];exact Nat.zero_le _)) ?_
     rintro _ h7 ⟨rfl,p7⟩
     have a7:=p7.at_
     have ok7:=tick_ok ok6 (by rw[hop];exact Nat.zero_le _)
     rw[tick_none hop] at a7 ok7
     simp(disch:=first|omega|(apply id;simp only[push_cast];first|done|omega))only[push_cast,Nat.reduceAdd,Nat.reduceMul,Nat.reduceSub,Nat.reduceLT,Nat.reduceEqDiff,Nat.reduceLeDiff,Int.reduceToNat,reduceCtorEq,Int.reduceLT,Int.reduceLE,Int.reduceAdd,Int.reduceSub,Int.reduceMul,Int.reduceNeg,Int.reduceEq,ht']
     refine CallE.to (flight_p G a7 ok7 (by omega)) ?_
     rintro _ h8 ⟨⟨af,cf,rfl,_⟩,g8⟩
     have e3:=congrArg (Nat.cast (R:=Int)) f2'
     simp(disch:=first|omega|(apply id;simp only[push_cast];first|done|omega))only[push_cast,Nat.reduceAdd,Nat.reduceMul,Nat.reduceSub,Nat.reduceLT,Nat.reduceEqDiff,Nat.reduceLeDiff,Int.reduceToNat,reduceCtorEq,Int.reduceLT,Int.reduceLE,Int.reduceAdd,Int.reduceSub,Int.reduceMul,Int.reduceNeg,Int.reduceEq,e3]
     refine CallE.to (open_p G (a7.grew g8 λ_ _ _ h=>h) ok7 (by rw[hop];exact Nat.zero_le _)) ?_
     rintro _ h9 ⟨⟨ao,co,rfl,_⟩,g9⟩
     have e4:∀ l:List Opn,l=[]→((l.length:Int)=1)=False:=λl hl=>by rw[hl];simp
     have e4':=e4 _ hop
     simp(disch:=first|omega|(apply id;simp only[push_cast];first|done|omega))only[push_cast,Nat.reduceAdd,Nat.reduceMul,Nat.reduceSub,Nat.reduceLT,Nat.reduceEqDiff,Nat.reduceLeDiff,Int.reduceToNat,reduceCtorEq,Int.reduceLT,Int.reduceLE,Int.reduceAdd,Int.reduceSub,Int.reduceMul,Int.reduceNeg,Int.reduceEq,e4',w1,beq_self_eq_true]
     exact ⟨61-(t+1),by omega,I5.b (t:=t+1) (n:=n) (w:={ (deliverW (deliverW (wa t nx wt (n+1)) 0).2 n).2 with ck:=((deliverW (deliverW (wa t nx wt (n+1)) 0).2 n).2).ck+1 }) (by omega) (by omega) (by omega) (by omega) hop f2' (ok7.le (by omega)) (by omega) (((a7.grew g8 λ_ _ _ h=>h).grew g9 λ_ _ _ h=>h).mono λb hb=>by omega) ((((((g4.tr' p5.gr λb hb e=>by omega).tr' g6 λb hb e=>e.elim).tr' p6.gr λb hb e=>by omega).tr' p7.gr λb hb e=>by omega).tr' g8 λb hb e=>e.elim).tr' g9 λb hb e=>e.elim)⟩
    | false=>
     simp(disch:=first|omega|(apply id;simp only[push_cast];first|done|omega))only[push_cast,Nat.reduceAdd,Nat.reduceMul,Nat.reduceSub,Nat.reduceLT,Nat.reduceEqDiff,Nat.reduceLeDiff,Int.reduceToNat,reduceCtorEq,Int.reduceLT,Int.reduceLE,Int.reduceAdd,Int.reduceSub,Int.reduceMul,Int.reduceNeg,Int.reduceEq,h1,hz]
     refine CallE.to (forget_p G a4 ok 9) ?_
     rintro _ h5 ⟨rfl,p5⟩
     obtain ⟨f1,f2⟩:=wa_forget t nx wt (n+1)
     have ok5:=forget_ok ok 9
     have a5:=p5.at_
     simp(disch:=first|omega|(apply id;simp only[push_cast];first|done|omega))only[push_cast,Nat.reduceAdd,Nat.reduceMul,Nat.reduceSub,Nat.reduceLT,Nat.reduceEqDiff,Nat.reduceLeDiff,Int.reduceToNat,reduceCtorEq,Int.reduceLT,Int.reduceLE,Int.reduceAdd,Int.reduceSub,Int.reduceMul,Int.reduceNeg,Int.reduceEq]
     have ht':¬ (t:Int)=0:=by omega
     have w1:IntKind.i64.wrap ((t:Int)+1)=(t:Int)+1:=wrap_i64 (by omega) (by omega)
     have:=p5.gr.next
     have hop:=f1
     refine CallE.to (tick_p G a5 ok5 (by omega) (by rw[hop];exact Nat.zero_le _)) ?_
     rintro _ h7 ⟨rfl,p7⟩
     have a7:=p7.at_
     have ok7:=tick_ok ok5 (by rw[hop];exact Nat.zero_le _)
     rw[tick_none hop] at a7 ok7
     simp(disch:=first|omega|(apply id;simp only[push_cast];first|done|omega))only[push_cast,Nat.reduceAdd,Nat.reduceMul,Nat.reduceSub,Nat.reduceLT,Nat.reduceEqDiff,Nat.reduceLeDiff,Int.reduceToNat,reduceCtorEq,Int.reduceLT,Int.reduceLE,Int.reduceAdd,Int.reduceSub,Int.reduceMul,Int.reduceNeg,Int.reduceEq,ht']
     refine CallE.to (flight_p G a7 ok7 (by omega)) ?_
     rintro _ h8 ⟨⟨af,cf,rfl,_⟩,g8⟩
     have e3:=congrArg (Nat.cast (R:=Int)) f2
     simp(disch:=first|omega|(apply id;simp only[push_cast];first|done|omega))only[push_cast,Nat.reduceAdd,Nat.reduceMul,Nat.reduceSub,Nat.reduceLT,Nat.reduceEqDiff,Nat.reduceLeDiff,Int.reduceToNat,reduceCtorEq,Int.reduceLT,Int.reduceLE,Int.reduceAdd,Int.reduceSub,Int.reduceMul,Int.reduceNeg,Int.reduceEq,e3]
     refine CallE.to (open_p G (a7.grew g8 λ_ _ _ h=>h) ok7 (by rw[hop];exact Nat.zero_le _)) ?_
     rintro _ h9 ⟨⟨ao,co,rfl,_⟩,g9⟩
     have e4:∀ l:List Opn,l=[]→((l.length:Int)=1)=False:=λl hl=>by rw[hl];simp
     have e4':=e4 _ hop
     simp(disch:=first|omega|(apply id;simp only[push_cast];first|done|omega))only[push_cast,Nat.reduceAdd,Nat.reduceMul,Nat.reduceSub,Nat.reduceLT,Nat.reduceEqDiff,Nat.reduceLeDiff,Int.reduceToNat,reduceCtorEq,Int.reduceLT,Int.reduceLE,Int.reduceAdd,Int.reduceSub,Int.reduceMul,Int.reduceNeg,Int.reduceEq,e4',w1,beq_self_eq_true]
     exact ⟨61-(t+1),by omega,I5.b (t:=t+1) (w:={ forgetW (wa t nx wt (n+1)) 9 with ck:=(forgetW (wa t nx wt (n+1)) 9).ck+1 }) (by omega) (by omega) (by omega) (by omega) hop f2 (ok7.le (by omega)) (by omega) (((a7.grew g8 λ_ _ _ h=>h).grew g9 λ_ _ _ h=>h).mono λb hb=>by omega) ((((g4.tr' p5.gr λb hb e=>by omega).tr' p7.gr λb hb e=>by omega).tr' g8 λb hb e=>e.elim).tr' g9 λb hb e=>e.elim)⟩
   ·have h2:¬ (t:Int)=en:=λe=>h2 e.symm
    have w1:IntKind.i64.wrap ((t:Int)+1)=(t:Int)+1:=wrap_i64 (by omega) (by omega)
    have hd:=wa_tick t nx wt (n+1)
    have okt:=tick_ok ok (by show (1:Nat)≤12;decide)
    rw[hd] at okt
    simp(disch:=first|omega|(apply id;simp only[push_cast];first|done|omega))only[push_cast,Nat.reduceAdd,Nat.reduceMul,Nat.reduceSub,Nat.reduceLT,Nat.reduceEqDiff,Nat.reduceLeDiff,Int.reduceToNat,reduceCtorEq,Int.reduceLT,Int.reduceLE,Int.reduceAdd,Int.reduceSub,Int.reduceMul,Int.reduceNeg,Int.reduceEq,h1,h2]
    refine CallE.to (tick_p G a4 ok (by omega) (by show (1:Nat)≤12;decide)) ?_
    rintro _ h5 ⟨rfl,p5⟩
    have a5:=p5.at_
    rw[hd] at a5
    have:=p5.gr.next
    by_cases h3:nx=t
    ·rw[if_pos h3] at a5 okt
     have e3:((wa (t+1) (t+min (2*wt) 8) (min (2*wt) 8) (n+1+1)).fl.length:Int)=(n:Int)+1+1:=by show ((List.replicate _ rq9).length:Int)=_;rw[List.length_replicate];omega
     have e4:((wa (t+1) (t+min (2*wt) 8) (min (2*wt) 8) (n+1+1)).op.length:Int)=1:=rfl
     have hmm:min 8 (2*wt)=min (2*wt) 8:=by omega
     have h3':((t:Int)=nx)=True:=by simp[h3]
     have q1:IntKind.i64.wrap ((n:Int)+1+1)=(n:Int)+1+1:=wrap_i64 (by omega) (by omega)
     have q2:IntKind.i64.wrap (2*wt)=2*wt:=wrap_i64 (by omega) (by omega)
     have q3:IntKind.i64.wrap ((t:Int)+min (2*wt) 8)=(t:Int)+min (2*wt) 8:=wrap_i64 (by omega) (by omega)
     have hpos:(0<(t:Int)+min (2*wt) 8)=True:=by simp;omega
     simp(disch:=first|omega|(apply id;simp only[push_cast];first|done|omega))only[push_cast,Nat.reduceAdd,Nat.reduceMul,Nat.reduceSub,Nat.reduceLT,Nat.reduceEqDiff,Nat.reduceLeDiff,Int.reduceToNat,reduceCtorEq,Int.reduceLT,Int.reduceLE,Int.reduceAdd,Int.reduceSub,Int.reduceMul,Int.reduceNeg,Int.reduceEq,h3',q1,q2,mnV_int,hmm,q3]
     refine CallE.to (flight_p G a5 okt (by omega)) ?_
     rintro _ h8 ⟨⟨af,cf,rfl,_⟩,g8⟩
     simp(disch:=first|omega|(apply id;simp only[push_cast];first|done|omega))only[push_cast,Nat.reduceAdd,Nat.reduceMul,Nat.reduceSub,Nat.reduceLT,Nat.reduceEqDiff,Nat.reduceLeDiff,Int.reduceToNat,reduceCtorEq,Int.reduceLT,Int.reduceLE,Int.reduceAdd,Int.reduceSub,Int.reduceMul,Int.reduceNeg,Int.reduceEq,e3]
     refine CallE.to (open_p G (a5.grew g8 λ_ _ _ h=>h) okt (by show (1:Nat)≤12;decide)) ?_
     rintro _ h9 ⟨⟨ao,co,rfl,_⟩,g9⟩
     simp(disch:=first|omega|(apply id;simp only[push_cast];first|done|omega))only[push_cast,Nat.reduceAdd,Nat.reduceMul,Nat.reduceSub,Nat.reduceLT,Nat.reduceEqDiff,Nat.reduceLeDiff,Int.reduceToNat,reduceCtorEq,Int.reduceLT,Int.reduceLE,Int.reduceAdd,Int.reduceSub,Int.reduceMul,Int.reduceNeg,Int.reduceEq,e4,hpos,beq_self_eq_true,w1]
     exact ⟨61-(t+1),by omega,I5.a (t:=t+1) (n:=n+1) (by omega) (by omega) (by omega) (by omega) (by omega) (by omega) (by omega) (by omega) (by omega) (((a5.grew g8 λ_ _ _ h=>h).grew g9 λ_ _ _ h=>h).mono λb hb=>by omega) (((g4.tr' p5.gr λb hb e=>by omega).tr' g8 λb hb e=>e.elim).tr' g9 λb hb e=>e.elim)⟩
    ·rw[if_neg h3] at a5 okt
     have e3:((wa (t+1) nx wt (n+1)).fl.length:Int)=(n:Int)+1:=by show ((List.replicate _ rq9).length:Int)=_;rw[List.length_replicate];omega
     have e4:((wa (t+1) nx wt (n+1)).op.length:Int)=1:=rfl
     have h3':((t:Int)=nx)=False:=by simp;omega
     have hpos:(0<nx)=True:=by simp;omega
     simp(disch:=first|omega|(apply id;simp only[push_cast];first|done|omega))only[push_cast,Nat.reduceAdd,Nat.reduceMul,Nat.reduceSub,Nat.reduceLT,Nat.reduceEqDiff,Nat.reduceLeDiff,Int.reduceToNat,reduceCtorEq,Int.reduceLT,Int.reduceLE,Int.reduceAdd,Int.reduceSub,Int.reduceMul,Int.reduceNeg,Int.reduceEq,h3']
     refine CallE.to (flight_p G a5 okt (by omega)) ?_
     rintro _ h8 ⟨⟨af,cf,rfl,_⟩,g8⟩
     simp(disch:=first|omega|(apply id;simp only[push_cast];first|done|omega))only[push_cast,Nat.reduceAdd,Nat.reduceMul,Nat.reduceSub,Nat.reduceLT,Nat.reduceEqDiff,Nat.reduceLeDiff,Int.reduceToNat,reduceCtorEq,Int.reduceLT,Int.reduceLE,Int.reduceAdd,Int.reduceSub,Int.reduceMul,Int.reduceNeg,Int.reduceEq,e3]
     refine CallE.to (open_p G (a5.grew g8 λ_ _ _ h=>h) okt (by show (1:Nat)≤12;decide)) ?_
     rintro _ h9 ⟨⟨ao,co,rfl,_⟩,g9⟩
     simp(disch:=first|omega|(apply id;simp only[push_cast];first|done|omega))only[push_cast,Nat.reduceAdd,Nat.reduceMul,Nat.reduceSub,Nat.reduceLT,Nat.reduceEqDiff,Nat.reduceLeDiff,Int.reduceToNat,reduceCtorEq,Int.reduceLT,Int.reduceLE,Int.reduceAdd,Int.reduceSub,Int.reduceMul,Int.reduceNeg,Int.reduceEq,e4,hpos,beq_self_eq_true,w1]
     exact ⟨61-(t+1),by omega,I5.a (t:=t+1) (n:=n) (by omega) (by omega) (by omega) (by omega) (by omega) (by omega) (by omega) (by omega) (by omega) (((a5.grew g8 λ_ _ _ h=>h).grew g9 λ_ _ _ h=>h).mono λb hb=>by omega) (((g4.tr' p5.gr λb hb e=>by omega).tr' g8 λb hb e=>e.elim).tr' g9 λb hb e=>e.elim)⟩
  ·simp(disch:=first|omega|(apply id;simp only[push_cast];first|done|omega))only[push_cast,Nat.reduceAdd,Nat.reduceMul,Nat.reduceSub,Nat.reduceLT,Nat.reduceEqDiff,Nat.reduceLeDiff,Int.reduceToNat,reduceCtorEq,Int.reduceLT,Int.reduceLE,Int.reduceAdd,Int.reduceSub,Int.reduceMul,Int.reduceNeg,Int.reduceEq,h1]
end
end Go.Proofs.Ytejgmoenmbjidaa
namespace Go.Proofs.Ytejgmoenmbjidaa
open _root_.Go.Proofs.Try (prog)
open Go Go.ChangeShapes Go.WideShapes Go.ChangeAt Go.RowKit Go.Ev
set_option maxRecDepth 100000
end Go.Proofs.Ytejgmoenmbjidaa
