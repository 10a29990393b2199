/-
  A part of the proof: what the program's functions hand back,as theorems. No condition but those that each theorem names.
-/
import Derived.Test.YtejgmoenmbjidaaVd
set_option linter.unusedSimpArgs false
set_option linter.unusedVariables false
namespace Go.Proofs.Ytejgmoenmbjidaa
open _root_.Go.Proofs.Try (prog)
open Go.RowKit Go.Ev
set_option maxRecDepth 100000
noncomputable section
def F129 (x0 x1 x2 x3 x4 x5 x6 x7 x8 x9 xA xB xC xD xE xF xG xH xI xJ xK xL xM xN xO xP xQ xR xS xT xU xV xW xX xY xZ yA yB yC yD yE yF yG yH yI yJ yK yL yM yN yO yP yQ yR yS yT yU yV yW yX yY yZ zA zB zC zD zE zF zG zH zI zJ zK zL zM zN zO zP zQ zR zS zT zU zV zW zX zY zZ wA wB wC wD wE wF wG wH wI wJ wK wL wM wN wO wP wQ wR wS wT wU wV wW wX wY wZ uA uB uC uD uE uF uG uH uI uJ uK uL uM uN uO:Value):VT:=⟨129,(.node (.node (.node (.node (.node (.node (.node (.node .nil uN .nil) zB .nil) xV (.node .nil wH .nil)) xF (.node (.node .nil zR .nil) yL (.node .nil wX .nil))) x7 (.node (.node (.node .nil zJ .nil) yD (.node .nil wP .nil)) xN (.node (.node .nil zZ .nil) yT (.node .nil uF .nil)))) x3 (.node (.node (.node (.node .nil zF .nil) xZ (.node .nil wL .nil)) xJ (.node (.node .nil zV .nil) yP (.node .nil uB .nil))) xB (.node (.node (.node .nil zN .nil) yH (.node .nil wT .nil)) xR (.node (.node .nil wD .nil) yX (.node .nil uJ .nil))))) x1 (.node (.node (.node (.node (.node .nil zD .nil) xX (.node .nil wJ .nil)) xH (.node (.node .nil zT .nil) yN (.node .nil wZ .nil))) x9 (.node (.node (.node .nil zL .nil) yF (.node .nil wR .nil)) xP (.node (.node .nil wB .nil) yV (.node .nil uH .nil)))) x5 (.node (.node (.node (.node .nil zH .nil) yB (.node .nil wN .nil)) xL (.node (.node .nil zX .nil) yR (.node .nil uD .nil))) xD (.node (.node (.node .nil zP .nil) yJ (.node .nil wV .nil)) xT (.node (.node .nil wF .nil) yZ (.node .nil uL .nil)))))) x0 (.node (.node (.node (.node (.node (.node (.node .nil uO .nil) zC .nil) xW (.node .nil wI .nil)) xG (.node (.node .nil zS .nil) yM (.node .nil wY .nil))) x8 (.node (.node (.node .nil zK .nil) yE (.node .nil wQ .nil)) xO (.node (.node .nil wA .nil) yU (.node .nil uG .nil)))) x4 (.node (.node (.node (.node .nil zG .nil) yA (.node .nil wM .nil)) xK (.node (.node .nil zW .nil) yQ (.node .nil uC .nil))) xC (.node (.node (.node .nil zO .nil) yI (.node .nil wU .nil)) xS (.node (.node .nil wE .nil) yY (.node .nil uK .nil))))) x2 (.node (.node (.node (.node (.node .nil zE .nil) xY (.node .nil wK .nil)) xI (.node (.node .nil zU .nil) yO (.node .nil uA .nil))) xA (.node (.node (.node .nil zM .nil) yG (.node .nil wS .nil)) xQ (.node (.node .nil wC .nil) yW (.node .nil uI .nil)))) x6 (.node (.node (.node (.node .nil zI .nil) yC (.node .nil wO .nil)) xM (.node (.node .nil zY .nil) yS (.node .nil uE .nil))) xE (.node (.node (.node .nil zQ .nil) yK (.node .nil wW .nil)) xU (.node (.node .nil wG .nil) zA (.node .nil uM .nil)))))))⟩
theorem F129_arr (x0 x1 x2 x3 x4 x5 x6 x7 x8 x9 xA xB xC xD xE xF xG xH xI xJ xK xL xM xN xO xP xQ xR xS xT xU xV xW xX xY xZ yA yB yC yD yE yF yG yH yI yJ yK yL yM yN yO yP yQ yR yS yT yU yV yW yX yY yZ zA zB zC zD zE zF zG zH zI zJ zK zL zM zN zO zP zQ zR zS zT zU zV zW zX zY zZ wA wB wC wD wE wF wG wH wI wJ wK wL wM wN wO wP wQ wR wS wT wU wV wW wX wY wZ uA uB uC uD uE uF uG uH uI uJ uK uL uM uN uO:Value):(F129 x0 x1 x2 x3 x4 x5 x6 x7 x8 x9 xA xB xC xD xE xF xG xH xI xJ xK xL xM xN xO xP xQ xR xS xT xU xV xW xX xY xZ yA yB yC yD yE yF yG yH yI yJ yK yL yM yN yO yP yQ yR yS yT yU yV yW yX yY yZ zA zB zC zD zE zF zG zH zI zJ zK zL zM zN zO zP zQ zR zS zT zU zV zW zX zY zZ wA wB wC wD wE wF wG wH wI wJ wK wL wM wN wO wP wQ wR wS wT wU wV wW wX wY wZ uA uB uC uD uE uF uG uH uI uJ uK uL uM uN uO).arr=⟨[x0,x1,x2,x3,x4,x5,x6,x7,x8,x9,xA,xB,xC,xD,xE,xF,xG,xH,xI,xJ,xK,xL,xM,xN,xO,xP,xQ,xR,xS,xT,xU,xV,xW,xX,xY,xZ,yA,yB,yC,yD,yE,yF,yG,yH,yI,yJ,yK,yL,yM,yN,yO,yP,yQ,yR,yS,yT,yU,yV,yW,yX,yY,yZ,zA,zB,zC,zD,zE,zF,zG,zH,zI,zJ,zK,zL,zM,zN,zO,zP,zQ,zR,zS,zT,zU,zV,zW,zX,zY,zZ,wA,wB,wC,wD,wE,wF,wG,wH,wI,wJ,wK,wL,wM,wN,wO,wP,wQ,wR,wS,wT,wU,wV,wW,wX,wY,wZ,uA,uB,uC,uD,uE,uF,uG,uH,uI,uJ,uK,uL,uM,uN,uO]⟩:=by kernel_rfl
theorem F129_g4 (x0 x1 x2 x3 x4 x5 x6 x7 x8 x9 xA xB xC xD xE xF xG xH xI xJ xK xL xM xN xO xP xQ xR xS xT xU xV xW xX xY xZ yA yB yC yD yE yF yG yH yI yJ yK yL yM yN yO yP yQ yR yS yT yU yV yW yX yY yZ zA zB zC zD zE zF zG zH zI zJ zK zL zM zN zO zP zQ zR zS zT zU zV zW zX zY zZ wA wB wC wD wE wF wG wH wI wJ wK wL wM wN wO wP wQ wR wS wT wU wV wW wX wY wZ uA uB uC uD uE uF uG uH uI uJ uK uL uM uN uO:Value):(F129 x0 x1 x2 x3 x4 x5 x6 x7 x8 x9 xA xB xC xD xE xF xG xH xI xJ xK xL xM xN xO xP xQ xR xS xT xU xV xW xX xY xZ yA yB yC yD yE yF yG yH yI yJ yK yL yM yN yO yP yQ yR yS yT yU yV yW yX yY yZ zA zB zC zD zE zF zG zH zI zJ zK zL zM zN zO zP zQ zR zS zT zU zV zW zX zY zZ wA wB wC wD wE wF wG wH wI wJ wK wL wM wN wO wP wQ wR wS wT wU wV wW wX wY wZ uA uB uC uD uE uF uG uH uI uJ uK uL uM uN uO).get 4=x4:=by kernel_rfl
attribute [push_cast] F129_g4
noncomputable def ir8_s0:IR:=(.seq (.seq (.ops [⟨some 20,none,.take,(.move (.tmp 7)),3⟩,⟨some 21,none,.take,(.move (.tmp 0)),22⟩,⟨some 22,none,.take,(.call ⟨(.builtin .len),#[(.tmp 21)],#[22]⟩),3⟩,⟨some 23,none,.take,(.binOp .lss 3 (.tmp 20) (.tmp 22) 3),4⟩,⟨some 24,none,.take,(.move (.tmp 23)),4⟩,⟨some 25,(some (24,true)),.take,(.move (.tmp 7)),3⟩,⟨some 26,(some (24,true)),.take,(.binOp .lss 3 (.tmp 25) (.const (.int .i64 30)) 3),4⟩,⟨some 27,none,.take,(.pick (.tmp 24) (.tmp 26) (.const (.bool false))),4⟩]) (.cond (.tmp 27) .skip (.exit 0))) (.seq (.block 1 (.seq (.ops [⟨some 30,none,.take,(.move (.tmp 5)),24⟩,⟨some 31,none,.take,(.move (.tmp 6)),26⟩,⟨some 32,none,.take,(.move (.tmp 0)),22⟩,⟨some 33,none,.take,(.move (.tmp 7)),3⟩,⟨some 34,none,.take,(.indexAddr 22 (.tmp 32) (.tmp 33)),0⟩,⟨some 35,none,.take,(.load 3 (.tmp 34)),3⟩,⟨some 36,none,.call,(.call ⟨(.value (.func 13)),#[(.tmp 30),(.tmp 31),(.tmp 35)],#[24,26,3]⟩),4⟩,⟨some 37,none,.take,(.unOp .not 4 (.tmp 36)),4⟩]) (.cond (.tmp 37) (.seq (.ops [⟨some 4,none,.take,(.assign (.const (.bool false))),4⟩]) .ret) .skip))) (.ops [⟨some 28,none,.take,(.move (.tmp 7)),3⟩,⟨some 29,none,.take,(.binOp .add 3 (.tmp 28) (.const (.int .i64 1)) 3),3⟩,⟨some 7,none,.take,(.assign (.tmp 29)),3⟩])))
noncomputable def ir8_s1:IR:=(.seq (.ops [⟨some 38,none,.take,(.move (.tmp 5)),24⟩,⟨some 39,none,.call,(.call ⟨(.value (.func 21)),#[(.tmp 38)],#[24]⟩),36⟩,⟨some 8,none,.take,(.assign (.tmp 39)),36⟩]) (.seq (.seq (.ops [⟨some 40,none,.take,(.move (.tmp 8)),36⟩,⟨some 41,none,.take,(.call ⟨(.builtin .len),#[(.tmp 40)],#[36]⟩),3⟩,⟨some 42,none,.take,(.binOp .eql 3 (.tmp 41) (.const (.int .i64 0)) 3),4⟩]) (.cond (.tmp 42) (.seq (.ops [⟨some 43,none,.take,(.move (.tmp 5)),24⟩,⟨some 44,none,.call,(.call ⟨(.value (.func 17)),#[(.tmp 43),(.const (.int .i64 0))],#[24,3]⟩),4⟩,⟨some 45,none,.take,(.unOp .not 4 (.tmp 44)),4⟩,⟨some 46,none,.take,(.move (.tmp 45)),4⟩,⟨some 47,(some (46,true)),.take,(.move (.tmp 5)),24⟩,⟨some 48,(some (46,true)),.call,(.call ⟨(.value (.func 19)),#[(.tmp 47),(.const (.int .i64 0))],#[24,3]⟩),4⟩,⟨some 49,(some (46,true)),.take,(.unOp .not 4 (.tmp 48)),4⟩,⟨some 50,none,.take,(.pick (.tmp 46) (.tmp 49) (.const (.bool false))),4⟩,⟨some 4,none,.take,(.assign (.tmp 50)),4⟩]) .ret) .skip)) (.seq (.ops [⟨some 51,none,.take,(.move (.tmp 1)),3⟩,⟨some 52,none,.take,(.move (.tmp 8)),36⟩,⟨some 53,none,.take,(.call ⟨(.builtin .len),#[(.tmp 52)],#[36]⟩),3⟩,⟨some 54,none,.call,(.call ⟨(.value (.func 22)),#[(.tmp 51),(.tmp 53)],#[3,3]⟩),3⟩,⟨some 9,none,.take,(.assign (.tmp 54)),3⟩]) (.seq (.seq (.ops [⟨some 55,none,.take,(.move (.tmp 5)),24⟩,⟨some 56,none,.take,(.move (.tmp 9)),3⟩,⟨some 57,none,.call,(.call ⟨(.value (.func 19)),#[(.tmp 55),(.tmp 56)],#[24,3]⟩),4⟩,⟨some 58,none,.take,(.unOp .not 4 (.tmp 57)),4⟩]) (.cond (.tmp 58) (.seq (.ops [⟨some 4,none,.take,(.assign (.const (.bool false))),4⟩]) .ret) .skip)) (.seq (.ops [⟨some 59,none,.take,(.move (.tmp 5)),24⟩,⟨some 60,none,.call,(.call ⟨(.value (.func 21)),#[(.tmp 59)],#[24]⟩),36⟩,⟨some 10,none,.take,(.assign (.tmp 60)),36⟩]) (.seq (.seq (.plan (.take 0 false ⟨some 61,none,.take,(.move (.tmp 10)),36⟩ (.take 1 false ⟨some 62,none,.take,(.call ⟨(.builtin .len),#[(.tmp 61)],#[36]⟩),3⟩ (.take 2 false ⟨some 63,none,.take,(.move (.tmp 8)),36⟩ (.take 3 false ⟨some 64,none,.take,(.call ⟨(.builtin .len),#[(.tmp 63)],#[36]⟩),3⟩ (.take 4 false ⟨some 65,none,.take,(.binOp .add 3 (.tmp 64) (.const (.int .i64 1)) 3),3⟩ (.take 5 false ⟨some 66,none,.take,(.binOp .neq 3 (.tmp 62) (.tmp 65) 3),4⟩ (.take 6 false ⟨some 67,none,.take,(.move (.tmp 66)),4⟩ (.take 7 false ⟨some 68,(some (67,false)),.take,(.move (.tmp 10)),36⟩ (.take 8 false ⟨some 69,(some (67,false)),.take,(.move (.tmp 8)),36⟩ (.take 9 false ⟨some 70,(some (67,false)),.take,(.call ⟨(.builtin .len),#[(.tmp 69)],#[36]⟩),3⟩ (.take 10 false ⟨some 71,(some (67,false)),.take,(.indexAddr 36 (.tmp 68) (.tmp 70)),0⟩ (.take 11 true ⟨some 72,(some (67,false)),.take,(.load 49 (.tmp 71)),49⟩ (.take 12 false ⟨some 73,(some (67,false)),.take,(.move (.tmp 8)),36⟩ (.take 13 false ⟨some 74,(some (67,false)),.take,(.move (.tmp 9)),3⟩ (.take 14 false ⟨some 75,(some (67,false)),.take,(.indexAddr 36 (.tmp 73) (.tmp 74)),0⟩ (.take 15 true ⟨some 76,(some (67,false)),.take,(.load 49 (.tmp 75)),49⟩ (.take 16 false ⟨some 77,(some (67,false)),.take,(.binOp .neq 49 (.tmp 72) (.tmp 76) 49),4⟩ (.take 17 false ⟨some 78,none,.take,(.pick (.tmp 67) (.const (.bool true)) (.tmp 77)),4⟩ (.take 18 false ⟨some 79,none,.take,(.move (.tmp 78)),4⟩ (.take 19 false ⟨some 80,(some (79,false)),.take,(.move (.tmp 5)),24⟩ (.take 20 false ⟨some 81,(some (79,false)),.take,(.move (.tmp 9)),3⟩ (.eff 21 ⟨some 82,(some (79,false)),.call,(.call ⟨(.value (.func 17)),#[(.tmp 80),(.tmp 81)],#[24,3]⟩),4⟩ [20,13,12,14,15,8,9,7,10,11,16,2,3,4,0,1,5,6,17,18,19] (.take 22 false ⟨some 83,(some (79,false)),.take,(.unOp .not 4 (.tmp 82)),4⟩ (.take 23 false ⟨some 84,none,.take,(.pick (.tmp 79) (.const (.bool true)) (.tmp 83)),4⟩ .fin)) .no))))))))))))))))))))))) (.cond (.tmp 84) (.seq (.ops [⟨some 4,none,.take,(.assign (.const (.bool false))),4⟩]) .ret) .skip)) (.seq (.ops [⟨some 85,none,.take,(.move (.tmp 5)),24⟩,⟨some 86,none,.call,(.call ⟨(.value (.func 21)),#[(.tmp 85)],#[24]⟩),36⟩,⟨some 11,none,.take,(.assign (.tmp 86)),36⟩]) (.seq (.seq (.ops [⟨some 87,none,.take,(.move (.tmp 11)),36⟩,⟨some 88,none,.take,(.call ⟨(.builtin .len),#[(.tmp 87)],#[36]⟩),3⟩,⟨some 89,none,.take,(.move (.tmp 8)),36⟩,⟨some 90,none,.take,(.call ⟨(.builtin .len),#[(.tmp 89)],#[36]⟩),3⟩,⟨some 91,none,.take,(.binOp .neq 3 (.tmp 88) (.tmp 90) 3),4⟩]) (.cond (.tmp 91) (.seq (.ops [⟨some 4,none,.take,(.assign (.const (.bool false))),4⟩]) .ret) .skip)) (.seq (.seq (.ops [⟨some 12,none,.take,(.assign (.const (.int .i64 0))),3⟩]) (.block 2 (.loop (.seq (.seq (.ops [⟨some 92,none,.take,(.move (.tmp 12)),3⟩,⟨some 93,none,.take,(.move (.tmp 11)),36⟩,⟨some 94,none,.take,(.call ⟨(.builtin .len),#[(.tmp 93)],#[36]⟩),3⟩,⟨some 95,none,.take,(.binOp .lss 3 (.tmp 92) (.tmp 94) 3),4⟩]) (.cond (.tmp 95) .skip (.exit 2))) (.seq (.block 3 (.seq (.ops [⟨some 98,none,.take,(.move (.tmp 8)),36⟩,⟨some 99,none,.take,(.move (.tmp 12)),3⟩,⟨some 100,none,.take,(.binOp .add 3 (.tmp 99) (.const (.int .i64 1)) 3),3⟩,⟨some 101,none,.take,(.move (.tmp 8)),36⟩,⟨some 102,none,.take,(.call ⟨(.builtin .len),#[(.tmp 101)],#[36]⟩),3⟩,⟨some 103,none,.take,(.binOp .sub 3 (.tmp 102) (.const (.int .i64 1)) 3),3⟩,⟨some 104,none,.take,(.call ⟨(.builtin .min),#[(.tmp 100),(.tmp 103)],#[3,3]⟩),3⟩,⟨some 105,none,.take,(.indexAddr 36 (.tmp 98) (.tmp 104)),0⟩,⟨some 106,none,.take,(.load 49 (.tmp 105)),49⟩,⟨some 13,none,.eff,(.alloc 49),0⟩,⟨none,none,.eff,(.store 49 (.tmp 13) (.tmp 106)),0⟩]) (.seq (.seq (.ops [⟨some 107,none,.take,(.move (.tmp 12)),3⟩,⟨some 108,none,.take,(.move (.tmp 9)),3⟩,⟨some 109,none,.take,(.binOp .lss 3 (.tmp 107) (.tmp 108) 3),4⟩]) (.cond (.tmp 109) (.ops [⟨some 110,none,.take,(.move (.tmp 8)),36⟩,⟨some 111,none,.take,(.move (.tmp 12)),3⟩,⟨some 112,none,.take,(.indexAddr 36 (.tmp 110) (.tmp 111)),0⟩,⟨some 113,none,.take,(.load 49 (.tmp 112)),49⟩,⟨none,none,.eff,(.store 49 (.tmp 13) (.tmp 113)),0⟩]) .skip)) (.seq (.seq (.ops [⟨some 114,none,.take,(.move (.tmp 12)),3⟩,⟨some 115,none,.take,(.move (.tmp 11)),36⟩,⟨some 116,none,.take,(.call ⟨(.builtin .len),#[(.tmp 115)],#[36]⟩),3⟩,⟨some 117,none,.take,(.binOp .sub 3 (.tmp 116) (.const (.int .i64 1)) 3),3⟩,⟨some 118,none,.take,(.binOp .eql 3 (.tmp 114) (.tmp 117) 3),4⟩]) (.cond (.tmp 118) (.ops [⟨some 119,none,.take,(.move (.tmp 8)),36⟩,⟨some 120,none,.take,(.move (.tmp 9)),3⟩,⟨some 121,none,.take,(.indexAddr 36 (.tmp 119) (.tmp 120)),0⟩,⟨some 122,none,.take,(.load 49 (.tmp 121)),49⟩,⟨none,none,.eff,(.store 49 (.tmp 13) (.tmp 122)),0⟩]) .skip)) (.seq (.plan (.take 0 false ⟨some 123,none,.take,(.move (.tmp 11)),36⟩ (.take 1 false ⟨some 124,none,.take,(.move (.tmp 12)),3⟩ (.take 2 false ⟨some 125,none,.take,(.indexAddr 36 (.tmp 123) (.tmp 124)),0⟩ (.take 3 true ⟨some 126,none,.take,(.load 49 (.tmp 125)),49⟩ (.take 4 true ⟨some 127,none,.take,(.load 49 (.tmp 13)),49⟩ (.take 5 false ⟨some 128,none,.take,(.binOp .neq 49 (.tmp 126) (.tmp 127) 49),4⟩ .fin))))))) (.cond (.tmp 128) (.seq (.ops [⟨some 4,none,.take,(.assign (.const (.bool false))),4⟩]) .ret) .skip)))))) (.ops [⟨some 96,none,.take,(.move (.tmp 12)),3⟩,⟨some 97,none,.take,(.binOp .add 3 (.tmp 96) (.const (.int .i64 1)) 3),3⟩,⟨some 12,none,.take,(.assign (.tmp 97)),3⟩])))))) (.seq (.ops [⟨some 4,none,.take,(.assign (.const (.bool true))),4⟩]) .ret))))))))))
noncomputable def ir8_s2:IR:=(.seq (.seq (.ops [⟨some 92,none,.take,(.move (.tmp 12)),3⟩,⟨some 93,none,.take,(.move (.tmp 11)),36⟩,⟨some 94,none,.take,(.call ⟨(.builtin .len),#[(.tmp 93)],#[36]⟩),3⟩,⟨some 95,none,.take,(.binOp .lss 3 (.tmp 92) (.tmp 94) 3),4⟩]) (.cond (.tmp 95) .skip (.exit 2))) (.seq (.block 3 (.seq (.ops [⟨some 98,none,.take,(.move (.tmp 8)),36⟩,⟨some 99,none,.take,(.move (.tmp 12)),3⟩,⟨some 100,none,.take,(.binOp .add 3 (.tmp 99) (.const (.int .i64 1)) 3),3⟩,⟨some 101,none,.take,(.move (.tmp 8)),36⟩,⟨some 102,none,.take,(.call ⟨(.builtin .len),#[(.tmp 101)],#[36]⟩),3⟩,⟨some 103,none,.take,(.binOp .sub 3 (.tmp 102) (.const (.int .i64 1)) 3),3⟩,⟨some 104,none,.take,(.call ⟨(.builtin .min),#[(.tmp 100),(.tmp 103)],#[3,3]⟩),3⟩,⟨some 105,none,.take,(.indexAddr 36 (.tmp 98) (.tmp 104)),0⟩,⟨some 106,none,.take,(.load 49 (.tmp 105)),49⟩,⟨some 13,none,.eff,(.alloc 49),0⟩,⟨none,none,.eff,(.store 49 (.tmp 13) (.tmp 106)),0⟩]) (.seq (.seq (.ops [⟨some 107,none,.take,(.move (.tmp 12)),3⟩,⟨some 108,none,.take,(.move (.tmp 9)),3⟩,⟨some 109,none,.take,(.binOp .lss 3 (.tmp 107) (.tmp 108) 3),4⟩]) (.cond (.tmp 109) (.ops [⟨some 110,none,.take,(.move (.tmp 8)),36⟩,⟨some 111,none,.take,(.move (.tmp 12)),3⟩,⟨some 112,none,.take,(.indexAddr 36 (.tmp 110) (.tmp 111)),0⟩,⟨some 113,none,.take,(.load 49 (.tmp 112)),49⟩,⟨none,none,.eff,(.store 49 (.tmp 13) (.tmp 113)),0⟩]) .skip)) (.seq (.seq (.ops [⟨some 114,none,.take,(.move (.tmp 12)),3⟩,⟨some 115,none,.take,(.move (.tmp 11)),36⟩,⟨some 116,none,.take,(.call ⟨(.builtin .len),#[(.tmp 115)],#[36]⟩),3⟩,⟨some 117,none,.take,(.binOp .sub 3 (.tmp 116) (.const (.int .i64 1)) 3),3⟩,⟨some 118,none,.take,(.binOp .eql 3 (.tmp 114) (.tmp 117) 3),4⟩]) (.cond (.tmp 118) (.ops [⟨some 119,none,.take,(.move (.tmp 8)),36⟩,⟨some 120,none,.take,(.move (.tmp 9)),3⟩,⟨some 121,none,.take,(.indexAddr 36 (.tmp 119) (.tmp 120)),0⟩,⟨some 122,none,.take,(.load 49 (.tmp 121)),49⟩,⟨none,none,.eff,(.store 49 (.tmp 13) (.tmp 122)),0⟩]) .skip)) (.seq (.plan (.take 0 false ⟨some 123,none,.take,(.move (.tmp 11)),36⟩ (.take 1 false ⟨some 124,none,.take,(.move (.tmp 12)),3⟩ (.take 2 false ⟨some 125,none,.take,(.indexAddr 36 (.tmp 123) (.tmp 124)),0⟩ (.take 3 true ⟨some 126,none,.take,(.load 49 (.tmp 125)),49⟩ (.take 4 true ⟨some 127,none,.take,(.load 49 (.tmp 13)),49⟩ (.take 5 false ⟨some 128,none,.take,(.binOp .neq 49 (.tmp 126) (.tmp 127) 49),4⟩ .fin))))))) (.cond (.tmp 128) (.seq (.ops [⟨some 4,none,.take,(.assign (.const (.bool false))),4⟩]) .ret) .skip)))))) (.ops [⟨some 96,none,.take,(.move (.tmp 12)),3⟩,⟨some 97,none,.take,(.binOp .add 3 (.tmp 96) (.const (.int .i64 1)) 3),3⟩,⟨some 12,none,.take,(.assign (.tmp 97)),3⟩])))
noncomputable def ir8_s3:IR:=(.seq (.ops [⟨some 4,none,.take,(.assign (.const (.bool true))),4⟩]) .ret)
noncomputable def ir8_s4:IR:=(.seq (.seq (.ops [⟨some 114,none,.take,(.move (.tmp 12)),3⟩,⟨some 115,none,.take,(.move (.tmp 11)),36⟩,⟨some 116,none,.take,(.call ⟨(.builtin .len),#[(.tmp 115)],#[36]⟩),3⟩,⟨some 117,none,.take,(.binOp .sub 3 (.tmp 116) (.const (.int .i64 1)) 3),3⟩,⟨some 118,none,.take,(.binOp .eql 3 (.tmp 114) (.tmp 117) 3),4⟩]) (.cond (.tmp 118) (.ops [⟨some 119,none,.take,(.move (.tmp 8)),36⟩,⟨some 120,none,.take,(.move (.tmp 9)),3⟩,⟨some 121,none,.take,(.indexAddr 36 (.tmp 119) (.tmp 120)),0⟩,⟨some 122,none,.take,(.load 49 (.tmp 121)),49⟩,⟨none,none,.eff,(.store 49 (.tmp 13) (.tmp 122)),0⟩]) .skip)) (.seq (.plan (.take 0 false ⟨some 123,none,.take,(.move (.tmp 11)),36⟩ (.take 1 false ⟨some 124,none,.take,(.move (.tmp 12)),3⟩ (.take 2 false ⟨some 125,none,.take,(.indexAddr 36 (.tmp 123) (.tmp 124)),0⟩ (.take 3 true ⟨some 126,none,.take,(.load 49 (.tmp 125)),49⟩ (.take 4 true ⟨some 127,none,.take,(.load 49 (.tmp 13)),49⟩ (.take 5 false ⟨some 128,none,.take,(.binOp .neq 49 (.tmp 126) (.tmp 127) 49),4⟩ .fin))))))) (.cond (.tmp 128) (.seq (.ops [⟨some 4,none,.take,(.assign (.const (.bool false))),4⟩]) .ret) .skip)))
noncomputable def ir8_s5:IR:=(.ops [⟨some 96,none,.take,(.move (.tmp 12)),3⟩,⟨some 97,none,.take,(.binOp .add 3 (.tmp 96) (.const (.int .i64 1)) 3),3⟩,⟨some 12,none,.take,(.assign (.tmp 97)),3⟩])
noncomputable def ir8_s6:IR:=(.seq (.plan (.take 0 false ⟨some 123,none,.take,(.move (.tmp 11)),36⟩ (.take 1 false ⟨some 124,none,.take,(.move (.tmp 12)),3⟩ (.take 2 false ⟨some 125,none,.take,(.indexAddr 36 (.tmp 123) (.tmp 124)),0⟩ (.take 3 true ⟨some 126,none,.take,(.load 49 (.tmp 125)),49⟩ (.take 4 true ⟨some 127,none,.take,(.load 49 (.tmp 13)),49⟩ (.take 5 false ⟨some 128,none,.take,(.binOp .neq 49 (.tmp 126) (.tmp 127) 49),4⟩ .fin))))))) (.cond (.tmp 128) (.seq (.ops [⟨some 4,none,.take,(.assign (.const (.bool false))),4⟩]) .ret) .skip))
theorem sh_ir8 (G:Nat)(h:Heap)(a0 a1:Value)(R:Value→Heap→Prop):vc3 (pp G) none ir8 ⟨(F129 a0 a1 undef undef undef undef undef undef undef undef undef undef undef undef undef undef undef undef undef undef undef undef undef undef undef undef undef undef undef undef undef undef undef undef undef undef undef undef undef undef undef undef undef undef undef undef undef undef undef undef undef undef undef undef undef undef undef undef undef undef undef undef undef undef undef undef undef undef undef undef undef undef undef undef undef undef undef undef undef undef undef undef undef undef undef undef undef undef undef undef undef undef undef undef undef undef undef undef undef undef undef undef undef undef undef undef undef undef undef undef undef undef undef undef undef undef undef undef undef undef undef undef undef undef undef undef undef undef undef),[],h⟩ (finR prog [(.tmp 4)] R)=(oT (some (.bool false)) none h (@kk ⟨λv1 h2=>CallV (pp G) (.func (.func 10) #[] #[]) [] h2 (@kk ⟨λv3 h4=>oT (unV prog .not v3) none h4 (@kk ⟨λv5 h6=>vcond v5 (@kb ⟨oT (some (.bool false)) none h6 (@kk ⟨λv7 h8=>R v7 h8⟩)⟩) (@kb ⟨CallV (pp G) (.func (.func 11) #[] #[]) [(.slice none 0 0)] h6 (@kk ⟨λv9 h10=>CallV (pp G) (.func (.func 12) #[] #[]) [(.slice none 0 0)] h10 (@kk ⟨λv11 h12=>oT (some v9) none h12 (@kk ⟨λv13 h14=>oT (some v11) none h14 (@kk ⟨λv15 h16=>oT (some v13) none h16 (@kk ⟨λv17 h18=>oT (binPure prog .eql 24 (.tmp 18) (.const (.pointer none)) v17 (.pointer none)) none h18 (@kk ⟨λv19 h20=>vcond v19 (@kb ⟨oT (some (.bool false)) none h20 (@kk ⟨λv21 h22=>R v21 h22⟩)⟩) (@kb ⟨oT (some (.int .i64 0)) none h20 (@kk ⟨λv23 h24=>W (pp G) none (.loop ir8_s0) ⟨(F129 a0 a1 undef undef v1 v13 v15 v23 undef undef undef undef undef undef v3 v5 v9 v11 v17 v19 undef undef undef undef undef undef undef undef undef undef undef undef undef undef undef undef undef undef undef undef undef undef undef undef undef undef undef undef undef undef undef undef undef undef undef undef undef undef undef undef undef undef undef undef undef undef undef undef undef undef undef undef undef undef undef undef undef undef undef undef undef undef undef undef undef undef undef undef undef undef undef undef undef undef undef undef undef undef undef undef undef undef undef undef undef undef undef undef undef undef undef undef undef undef undef undef undef undef undef undef undef undef undef undef undef undef undef undef undef),[],h24⟩ (@kR ⟨outR3 0 (thenR3 (λs1=>vc3 (pp G) none ir8_s1 s1 (@kR ⟨finR prog [(.tmp 4)] R⟩)) (finR prog [(.tmp 4)] R))⟩)⟩)⟩)⟩)⟩)⟩)⟩)⟩)⟩)⟩)⟩)⟩)⟩)):=by kernel_rfl
theorem sh_ir8_s0 (G:Nat)(ro:Option Nat)(df:List Nat)(h:Heap)(x0 x1 x2 x3 x4 x5 x6 x7 x8 x9 xA xB xC xD xE xF xG xH xI xJ xK xL xM xN xO xP xQ xR xS xT xU xV xW xX xY xZ yA yB yC yD yE yF yG yH yI yJ yK yL yM yN yO yP yQ yR yS yT yU yV yW yX yY yZ zA zB zC zD zE zF zG zH zI zJ zK zL zM zN zO zP zQ zR zS zT zU zV zW zX zY zZ wA wB wC wD wE wF wG wH wI wJ wK wL wM wN wO wP wQ wR wS wT wU wV wW wX wY wZ uA uB uC uD uE uF uG uH uI uJ uK uL uM uN uO:Value)(R:XExit→S→Prop):vc3 (pp G) ro ir8_s0 ⟨(F129 x0 x1 x2 x3 x4 x5 x6 x7 x8 x9 xA xB xC xD xE xF xG xH xI xJ xK xL xM xN xO xP xQ xR xS xT xU xV xW xX xY xZ yA yB yC yD yE yF yG yH yI yJ yK yL yM yN yO yP yQ yR yS yT yU yV yW yX yY yZ zA zB zC zD zE zF zG zH zI zJ zK zL zM zN zO zP zQ zR zS zT zU zV zW zX zY zZ wA wB wC wD wE wF wG wH wI wJ wK wL wM wN wO wP wQ wR wS wT wU wV wW wX wY wZ uA uB uC uD uE uF uG uH uI uJ uK uL uM uN uO),df,h⟩ R=(oT (some x7) none h (@kk ⟨λv1 h2=>oT (some x0) none h2 (@kk ⟨λv3 h4=>oT (lnB (lnT prog 22) v3) none h4 (@kk ⟨λv5 h6=>oT (binPure prog .lss 3 (.tmp 20) (.tmp 22) v1 v5) none h6 (@kk ⟨λv7 h8=>oT (some v7) none h8 (@kk ⟨λv9 h10=>gT v9 true (some x7) none h10 (@kk ⟨λv11 h12=>gT v9 true (binPure prog .lss 3 (.tmp 25) (.const (.int .i64 30)) v11 (.int .i64 30)) none h12 (@kk ⟨λv13 h14=>oT (pickV v9 v13 (.bool false)) none h14 (@kk ⟨λv15 h16=>vcond v15 (@kb ⟨oT (some x5) none h16 (@kk ⟨λv17 h18=>oT (some x6) none h18 (@kk ⟨λv19 h20=>oT (some x0) none h20 (@kk ⟨λv21 h22=>oT (some x7) none h22 (@kk ⟨λv23 h24=>oT (iaV (esz prog 22) v21 v23) none h24 (@kk ⟨λv25 h26=>oT (evLoad prog 3 v25 h26) none h26 (@kk ⟨λv27 h28=>CallV (pp G) (.func (.func 13) #[] #[]) [v17,v19,v27] h28 (@kk ⟨λv29 h30=>oT (unV prog .not v29) none h30 (@kk ⟨λv31 h32=>vcond v31 (@kb ⟨oT (some (.bool false)) none h32 (@kk ⟨λv33 h34=>R .ret ⟨(F129 x0 x1 x2 x3 v33 x5 x6 x7 x8 x9 xA xB xC xD xE xF xG xH xI xJ v1 v3 v5 v7 v9 v11 v13 v15 xS xT v17 v19 v21 v23 v25 v27 v29 v31 yC yD yE yF yG yH yI yJ yK yL yM yN yO yP yQ yR yS yT yU yV yW yX yY yZ zA zB zC zD zE zF zG zH zI zJ zK zL zM zN zO zP zQ zR zS zT zU zV zW zX zY zZ wA wB wC wD wE wF wG wH wI wJ wK wL wM wN wO wP wQ wR wS wT wU wV wW wX wY wZ uA uB uC uD uE uF uG uH uI uJ uK uL uM uN uO),df,h34⟩⟩)⟩) (@kb ⟨oT (some x7) none h32 (@kk ⟨λv35 h36=>oT (binPure prog .add 3 (.tmp 28) (.const (.int .i64 1)) v35 (.int .i64 1)) none h36 (@kk ⟨λv37 h38=>oT (some v37) none h38 (@kk ⟨λv39 h40=>R .normal ⟨(F129 x0 x1 x2 x3 x4 x5 x6 v39 x8 x9 xA xB xC xD xE xF xG xH xI xJ v1 v3 v5 v7 v9 v11 v13 v15 v35 v37 v17 v19 v21 v23 v25 v27 v29 v31 yC yD yE yF yG yH yI yJ yK yL yM yN yO yP yQ yR yS yT yU yV yW yX yY yZ zA zB zC zD zE zF zG zH zI zJ zK zL zM zN zO zP zQ zR zS zT zU zV zW zX zY zZ wA wB wC wD wE wF wG wH wI wJ wK wL wM wN wO wP wQ wR wS wT wU wV wW wX wY wZ uA uB uC uD uE uF uG uH uI uJ uK uL uM uN uO),df,h40⟩⟩)⟩)⟩)⟩)⟩)⟩)⟩)⟩)⟩)⟩)⟩)⟩)⟩) (@kb ⟨R (.exit 0) ⟨(F129 x0 x1 x2 x3 x4 x5 x6 x7 x8 x9 xA xB xC xD xE xF xG xH xI xJ v1 v3 v5 v7 v9 v11 v13 v15 xS xT xU xV xW xX xY xZ yA yB yC yD yE yF yG yH yI yJ yK yL yM yN yO yP yQ yR yS yT yU yV yW yX yY yZ zA zB zC zD zE zF zG zH zI zJ zK zL zM zN zO zP zQ zR zS zT zU zV zW zX zY zZ wA wB wC wD wE wF wG wH wI wJ wK wL wM wN wO wP wQ wR wS wT wU wV wW wX wY wZ uA uB uC uD uE uF uG uH uI uJ uK uL uM uN uO),df,h16⟩⟩)⟩)⟩)⟩)⟩)⟩)⟩)⟩)⟩)):=by kernel_rfl
attribute [push_cast] sh_ir8_s0
theorem sh_ir8_s1 (G:Nat)(ro:Option Nat)(df:List Nat)(h:Heap)(x0 x1 x2 x3 x4 x5 x6 x7 x8 x9 xA xB xC xD xE xF xG xH xI xJ xK xL xM xN xO xP xQ xR xS xT xU xV xW xX xY xZ yA yB yC yD yE yF yG yH yI yJ yK yL yM yN yO yP yQ yR yS yT yU yV yW yX yY yZ zA zB zC zD zE zF zG zH zI zJ zK zL zM zN zO zP zQ zR zS zT zU zV zW zX zY zZ wA wB wC wD wE wF wG wH wI wJ wK wL wM wN wO wP wQ wR wS wT wU wV wW wX wY wZ uA uB uC uD uE uF uG uH uI uJ uK uL uM uN uO:Value)(R:XExit→S→Prop):vc3 (pp G) ro ir8_s1 ⟨(F129 x0 x1 x2 x3 x4 x5 x6 x7 x8 x9 xA xB xC xD xE xF xG xH xI xJ xK xL xM xN xO xP xQ xR xS xT xU xV xW xX xY xZ yA yB yC yD yE yF yG yH yI yJ yK yL yM yN yO yP yQ yR yS yT yU yV yW yX yY yZ zA zB zC zD zE zF zG zH zI zJ zK zL zM zN zO zP zQ zR zS zT zU zV zW zX zY zZ wA wB wC wD wE wF wG wH wI wJ wK wL wM wN wO wP wQ wR wS wT wU wV wW wX wY wZ uA uB uC uD uE uF uG uH uI uJ uK uL uM uN uO),df,h⟩ R=(oT (some x5) none h (@kk ⟨λv1 h2=>CallV (pp G) (.func (.func 21) #[] #[]) [v1] h2 (@kk ⟨λv3 h4=>oT (some v3) none h4 (@kk ⟨λv5 h6=>oT (some v5) none h6 (@kk ⟨λv7 h8=>oT (lnB (lnT prog 36) v7) none h8 (@kk ⟨λv9 h10=>oT (binPure prog .eql 3 (.tmp 41) (.const (.int .i64 0)) v9 (.int .i64 0)) none h10 (@kk ⟨λv11 h12=>vcond v11 (@kb ⟨oT (some x5) none h12 (@kk ⟨λv13 h14=>CallV (pp G) (.func (.func 17) #[] #[]) [v13,(.int .i64 0)] h14 (@kk ⟨λv15 h16=>oT (unV prog .not v15) none h16 (@kk ⟨λv17 h18=>oT (some v17) none h18 (@kk ⟨λv19 h20=>gT v19 true (some x5) none h20 (@kk ⟨λv21 h22=>gC (pp G) v19 true (.func (.func 19) #[] #[]) [v21,(.int .i64 0)] h22 (@kk ⟨λv23 h24=>gT v19 true (unV prog .not v23) none h24 (@kk ⟨λv25 h26=>oT (pickV v19 v25 (.bool false)) none h26 (@kk ⟨λv27 h28=>oT (some v27) none h28 (@kk ⟨λv29 h30=>R .ret ⟨(F129 x0 x1 x2 x3 v29 x5 x6 x7 v5 x9 xA xB xC xD xE xF xG xH xI xJ xK xL xM xN xO xP xQ xR xS xT xU xV xW xX xY xZ yA yB v1 v3 v7 v9 v11 v13 v15 v17 v19 v21 v23 v25 v27 yP yQ yR yS yT yU yV yW yX yY yZ zA zB zC zD zE zF zG zH zI zJ zK zL zM zN zO zP zQ zR zS zT zU zV zW zX zY zZ wA wB wC wD wE wF wG wH wI wJ wK wL wM wN wO wP wQ wR wS wT wU wV wW wX wY wZ uA uB uC uD uE uF uG uH uI uJ uK uL uM uN uO),df,h30⟩⟩)⟩)⟩)⟩)⟩)⟩)⟩)⟩)⟩)⟩) (@kb ⟨oT (some x1) none h12 (@kk ⟨λv31 h32=>oT (some v5) none h32 (@kk ⟨λv33 h34=>oT (lnB (lnT prog 36) v33) none h34 (@kk ⟨λv35 h36=>CallV (pp G) (.func (.func 22) #[] #[]) [v31,v35] h36 (@kk ⟨λv37 h38=>oT (some v37) none h38 (@kk ⟨λv39 h40=>oT (some x5) none h40 (@kk ⟨λv41 h42=>oT (some v39) none h42 (@kk ⟨λv43 h44=>CallV (pp G) (.func (.func 19) #[] #[]) [v41,v43] h44 (@kk ⟨λv45 h46=>oT (unV prog .not v45) none h46 (@kk ⟨λv47 h48=>vcond v47 (@kb ⟨oT (some (.bool false)) none h48 (@kk ⟨λv49 h50=>R .ret ⟨(F129 x0 x1 x2 x3 v49 x5 x6 x7 v5 v39 xA xB xC xD xE xF xG xH xI xJ xK xL xM xN xO xP xQ xR xS xT xU xV xW xX xY xZ yA yB v1 v3 v7 v9 v11 yH yI yJ yK yL yM yN yO v31 v33 v35 v37 v41 v43 v45 v47 yX yY yZ zA zB zC zD zE zF zG zH zI zJ zK zL zM zN zO zP zQ zR zS zT zU zV zW zX zY zZ wA wB wC wD wE wF wG wH wI wJ wK wL wM wN wO wP wQ wR wS wT wU wV wW wX wY wZ uA uB uC uD uE uF uG uH uI uJ uK uL uM uN uO),df,h50⟩⟩)⟩) (@kb ⟨oT (some x5) none h48 (@kk ⟨λv51 h52=>CallV (pp G) (.func (.func 21) #[] #[]) [v51] h52 (@kk ⟨λv53 h54=>oT (some v53) none h54 (@kk ⟨λv55 h56=>oP (some v55) h56 (@kk ⟨λv57 _=>oP (lnB (lnT prog 36) v57) h56 (@kk ⟨λv58 _=>oP (some v5) h56 (@kk ⟨λv59 _=>oP (lnB (lnT prog 36) v59) h56 (@kk ⟨λv60 _=>oP (binPure prog .add 3 (.tmp 64) (.const (.int .i64 1)) v60 (.int .i64 1)) h56 (@kk ⟨λv61 _=>oP (binPure prog .neq 3 (.tmp 62) (.tmp 65) v58 v61) h56 (@kk ⟨λv62 _=>oP (some v62) h56 (@kk ⟨λv63 _=>gP v63 false (some v55) h56 (@kk ⟨λv64 _=>gP v63 false (some v5) h56 (@kk ⟨λv65 _=>gP v63 false (lnB (lnT prog 36) v65) h56 (@kk ⟨λv66 _=>gP v63 false (iaV (esz prog 36) v64 v66) h56 (@kk ⟨λv67 _=>gRd v63 false (evLoad prog 49 v67 h56) 11 (λh69=>(evLoad prog 49 v67 h69)) h56 (@ke ⟨λv68 e70=>gP v63 false (some v5) h56 (@kk ⟨λv71 _=>gP v63 false (some v39) h56 (@kk ⟨λv72 _=>gP v63 false (iaV (esz prog 36) v71 v72) h56 (@kk ⟨λv73 _=>gRd v63 false (evLoad prog 49 v73 h56) 15 (λh75=>(evLoad prog 49 v73 h75)) h56 (@ke ⟨λv74 e76=>gP v63 false (binPure prog .neq 49 (.tmp 72) (.tmp 76) v68 v74) h56 (@kk ⟨λv77 _=>oP (pickV v63 (.bool true) v77) h56 (@kk ⟨λv78 _=>oP (some v78) h56 (@kk ⟨λv79 _=>gP v79 false (some x5) h56 (@kk ⟨λv80 _=>gP v79 false (some v39) h56 (@kk ⟨λv81 _=>gCk (pp G) v79 false (.func (.func 17) #[] #[]) [v80,v81] [20,13,12,14,15,8,9,7,10,11,16,2,3,4,0,1,5,6,17,18,19] [e76,e70] h56 (@kc ⟨λv82 h83 c84=>keptK c84 (@kb ⟨gP v79 false (unV prog .not v82) h83 (@kk ⟨λv85 _=>oP (pickV v79 (.bool true) v85) h83 (@kk ⟨λv86 _=>vcond v86 (@kb ⟨oT (some (.bool false)) none h83 (@kk ⟨λv87 h88=>R .ret ⟨(F129 x0 x1 x2 x3 v87 x5 x6 x7 v5 v39 v55 xB xC xD xE xF xG xH xI xJ xK xL xM xN xO xP xQ xR xS xT xU xV xW xX xY xZ yA yB v1 v3 v7 v9 v11 yH yI yJ yK yL yM yN yO v31 v33 v35 v37 v41 v43 v45 v47 v51 v53 v57 v58 v59 v60 v61 v62 v63 v64 v65 v66 v67 v68 v71 v72 v73 v74 v77 v78 v79 v80 v81 v82 v85 v86 zX zY zZ wA wB wC wD wE wF wG wH wI wJ wK wL wM wN wO wP wQ wR wS wT wU wV wW wX wY wZ uA uB uC uD uE uF uG uH uI uJ uK uL uM uN uO),df,h88⟩⟩)⟩) (@kb ⟨oT (some x5) none h83 (@kk ⟨λv89 h90=>CallV (pp G) (.func (.func 21) #[] #[]) [v89] h90 (@kk ⟨λv91 h92=>oT (some v91) none h92 (@kk ⟨λv93 h94=>oT (some v93) none h94 (@kk ⟨λv95 h96=>oT (lnB (lnT prog 36) v95) none h96 (@kk ⟨λv97 h98=>oT (some v5) none h98 (@kk ⟨λv99 h100=>oT (lnB (lnT prog 36) v99) none h100 (@kk ⟨λv101 h102=>oT (binPure prog .neq 3 (.tmp 88) (.tmp 90) v97 v101) none h102 (@kk ⟨λv103 h104=>vcond v103 (@kb ⟨oT (some (.bool false)) none h104 (@kk ⟨λv105 h106=>R .ret ⟨(F129 x0 x1 x2 x3 v105 x5 x6 x7 v5 v39 v55 v93 xC xD xE xF xG xH xI xJ xK xL xM xN xO xP xQ xR xS xT xU xV xW xX xY xZ yA yB v1 v3 v7 v9 v11 yH yI yJ yK yL yM yN yO v31 v33 v35 v37 v41 v43 v45 v47 v51 v53 v57 v58 v59 v60 v61 v62 v63 v64 v65 v66 v67 v68 v71 v72 v73 v74 v77 v78 v79 v80 v81 v82 v85 v86 v89 v91 v95 v97 v99 v101 v103 wE wF wG wH wI wJ wK wL wM wN wO wP wQ wR wS wT wU wV wW wX wY wZ uA uB uC uD uE uF uG uH uI uJ uK uL uM uN uO),df,h106⟩⟩)⟩) (@kb ⟨oT (some (.int .i64 0)) none h104 (@kk ⟨λv107 h108=>W (pp G) ro (.loop ir8_s2) ⟨(F129 x0 x1 x2 x3 x4 x5 x6 x7 v5 v39 v55 v93 v107 xD xE xF xG xH xI xJ xK xL xM xN xO xP xQ xR xS xT xU xV xW xX xY xZ yA yB v1 v3 v7 v9 v11 yH yI yJ yK yL yM yN yO v31 v33 v35 v37 v41 v43 v45 v47 v51 v53 v57 v58 v59 v60 v61 v62 v63 v64 v65 v66 v67 v68 v71 v72 v73 v74 v77 v78 v79 v80 v81 v82 v85 v86 v89 v91 v95 v97 v99 v101 v103 wE wF wG wH wI wJ wK wL wM wN wO wP wQ wR wS wT wU wV wW wX wY wZ uA uB uC uD uE uF uG uH uI uJ uK uL uM uN uO),df,h108⟩ (@kR ⟨outR3 2 (thenR3 (λs1=>vc3 (pp G) ro ir8_s3 s1 (@kR ⟨R⟩)) R)⟩)⟩)⟩)⟩)⟩)⟩)⟩)⟩)⟩)⟩)⟩)⟩)⟩)⟩)⟩)⟩)⟩)⟩)⟩)⟩)⟩)⟩)⟩)⟩)⟩)⟩)⟩)⟩)⟩)⟩)⟩)⟩)⟩)⟩)⟩)⟩)⟩)⟩)⟩)⟩)⟩)⟩)⟩)⟩)⟩)⟩)⟩)⟩)⟩)⟩)⟩)⟩)⟩)⟩)⟩)⟩)⟩)):=by kernel_rfl
attribute [push_cast] sh_ir8_s1
theorem sh_ir8_s2 (G:Nat)(ro:Option Nat)(df:List Nat)(h:Heap)(x0 x1 x2 x3 x4 x5 x6 x7 x8 x9 xA xB xC xD xE xF xG xH xI xJ xK xL xM xN xO xP xQ xR xS xT xU xV xW xX xY xZ yA yB yC yD yE yF yG yH yI yJ yK yL yM yN yO yP yQ yR yS yT yU yV yW yX yY yZ zA zB zC zD zE zF zG zH zI zJ zK zL zM zN zO zP zQ zR zS zT zU zV zW zX zY zZ wA wB wC wD wE wF wG wH wI wJ wK wL wM wN wO wP wQ wR wS wT wU wV wW wX wY wZ uA uB uC uD uE uF uG uH uI uJ uK uL uM uN uO:Value)(R:XExit→S→Prop):vc3 (pp G) ro ir8_s2 ⟨(F129 x0 x1 x2 x3 x4 x5 x6 x7 x8 x9 xA xB xC xD xE xF xG xH xI xJ xK xL xM xN xO xP xQ xR xS xT xU xV xW xX xY xZ yA yB yC yD yE yF yG yH yI yJ yK yL yM yN yO yP yQ yR yS yT yU yV yW yX yY yZ zA zB zC zD zE zF zG zH zI zJ zK zL zM zN zO zP zQ zR zS zT zU zV zW zX zY zZ wA wB wC wD wE wF wG wH wI wJ wK wL wM wN wO wP wQ wR wS wT wU wV wW wX wY wZ uA uB uC uD uE uF uG uH uI uJ uK uL uM uN uO),df,h⟩ R=(oT (some xC) none h (@kk ⟨λv1 h2=>oT (some xB) none h2 (@kk ⟨λv3 h4=>oT (lnB (lnT prog 36) v3) none h4 (@kk ⟨λv5 h6=>oT (binPure prog .lss 3 (.tmp 92) (.tmp 94) v1 v5) none h6 (@kk ⟨λv7 h8=>vcond v7 (@kb ⟨oT (some x8) none h8 (@kk ⟨λv9 h10=>oT (some xC) none h10 (@kk ⟨λv11 h12=>oT (binPure prog .add 3 (.tmp 99) (.const (.int .i64 1)) v11 (.int .i64 1)) none h12 (@kk ⟨λv13 h14=>oT (some x8) none h14 (@kk ⟨λv15 h16=>oT (lnB (lnT prog 36) v15) none h16 (@kk ⟨λv17 h18=>oT (binPure prog .sub 3 (.tmp 102) (.const (.int .i64 1)) v17 (.int .i64 1)) none h18 (@kk ⟨λv19 h20=>oT (mnV prog #[3,3] 3 [v13,v19]) none h20 (@kk ⟨λv21 h22=>oT (iaV (esz prog 36) v9 v21) none h22 (@kk ⟨λv23 h24=>oT (evLoad prog 49 v23 h24) none h24 (@kk ⟨λv25 h26=>oE (alE (zro prog 49) 49 h26) (@kk ⟨λv27 h28=>oE (stE (szT prog 49) v27 v25 h28) (@kk ⟨λv29 h30=>oT (some xC) none h30 (@kk ⟨λv31 h32=>oT (some x9) none h32 (@kk ⟨λv33 h34=>oT (binPure prog .lss 3 (.tmp 107) (.tmp 108) v31 v33) none h34 (@kk ⟨λv35 h36=>vcond v35 (@kb ⟨oT (some x8) none h36 (@kk ⟨λv37 h38=>oT (some xC) none h38 (@kk ⟨λv39 h40=>oT (iaV (esz prog 36) v37 v39) none h40 (@kk ⟨λv41 h42=>oT (evLoad prog 49 v41 h42) none h42 (@kk ⟨λv43 h44=>oE (stE (szT prog 49) v27 v43 h44) (@kk ⟨λv45 h46=>vc3 (pp G) ro ir8_s4 ⟨(F129 x0 x1 x2 x3 x4 x5 x6 x7 x8 x9 xA xB xC v27 xE xF xG xH xI xJ xK xL xM xN xO xP xQ xR xS xT xU xV xW xX xY xZ yA yB yC yD yE yF yG yH yI yJ yK yL yM yN yO yP yQ yR yS yT yU yV yW yX yY yZ zA zB zC zD zE zF zG zH zI zJ zK zL zM zN zO zP zQ zR zS zT zU zV zW zX zY zZ wA wB wC wD v1 v3 v5 v7 wI wJ v9 v11 v13 v15 v17 v19 v21 v23 v25 v31 v33 v35 v37 v39 v41 v43 uA uB uC uD uE uF uG uH uI uJ uK uL uM uN uO),df,h46⟩ (@kR ⟨outR3 3 (thenR3 (λs1=>vc3 (pp G) ro ir8_s5 s1 (@kR ⟨R⟩)) R)⟩)⟩)⟩)⟩)⟩)⟩)⟩) (@kb ⟨vc3 (pp G) ro ir8_s4 ⟨(F129 x0 x1 x2 x3 x4 x5 x6 x7 x8 x9 xA xB xC v27 xE xF xG xH xI xJ xK xL xM xN xO xP xQ xR xS xT xU xV xW xX xY xZ yA yB yC yD yE yF yG yH yI yJ yK yL yM yN yO yP yQ yR yS yT yU yV yW yX yY yZ zA zB zC zD zE zF zG zH zI zJ zK zL zM zN zO zP zQ zR zS zT zU zV zW zX zY zZ wA wB wC wD v1 v3 v5 v7 wI wJ v9 v11 v13 v15 v17 v19 v21 v23 v25 v31 v33 v35 wW wX wY wZ uA uB uC uD uE uF uG uH uI uJ uK uL uM uN uO),df,h36⟩ (@kR ⟨outR3 3 (thenR3 (λs1=>vc3 (pp G) ro ir8_s5 s1 (@kR ⟨R⟩)) R)⟩)⟩)⟩)⟩)⟩)⟩)⟩)⟩)⟩)⟩)⟩)⟩)⟩)⟩)⟩)⟩)⟩) (@kb ⟨R (.exit 2) ⟨(F129 x0 x1 x2 x3 x4 x5 x6 x7 x8 x9 xA xB xC xD xE xF xG xH xI xJ xK xL xM xN xO xP xQ xR xS xT xU xV xW xX xY xZ yA yB yC yD yE yF yG yH yI yJ yK yL yM yN yO yP yQ yR yS yT yU yV yW yX yY yZ zA zB zC zD zE zF zG zH zI zJ zK zL zM zN zO zP zQ zR zS zT zU zV zW zX zY zZ wA wB wC wD v1 v3 v5 v7 wI wJ wK wL wM wN wO wP wQ wR wS wT wU wV wW wX wY wZ uA uB uC uD uE uF uG uH uI uJ uK uL uM uN uO),df,h8⟩⟩)⟩)⟩)⟩)⟩)):=by kernel_rfl
attribute [push_cast] sh_ir8_s2
theorem sh_ir8_s3 (G:Nat)(ro:Option Nat)(df:List Nat)(h:Heap)(x0 x1 x2 x3 x4 x5 x6 x7 x8 x9 xA xB xC xD xE xF xG xH xI xJ xK xL xM xN xO xP xQ xR xS xT xU xV xW xX xY xZ yA yB yC yD yE yF yG yH yI yJ yK yL yM yN yO yP yQ yR yS yT yU yV yW yX yY yZ zA zB zC zD zE zF zG zH zI zJ zK zL zM zN zO zP zQ zR zS zT zU zV zW zX zY zZ wA wB wC wD wE wF wG wH wI wJ wK wL wM wN wO wP wQ wR wS wT wU wV wW wX wY wZ uA uB uC uD uE uF uG uH uI uJ uK uL uM uN uO:Value)(R:XExit→S→Prop):vc3 (pp G) ro ir8_s3 ⟨(F129 x0 x1 x2 x3 x4 x5 x6 x7 x8 x9 xA xB xC xD xE xF xG xH xI xJ xK xL xM xN xO xP xQ xR xS xT xU xV xW xX xY xZ yA yB yC yD yE yF yG yH yI yJ yK yL yM yN yO yP yQ yR yS yT yU yV yW yX yY yZ zA zB zC zD zE zF zG zH zI zJ zK zL zM zN zO zP zQ zR zS zT zU zV zW zX zY zZ wA wB wC wD wE wF wG wH wI wJ wK wL wM wN wO wP wQ wR wS wT wU wV wW wX wY wZ uA uB uC uD uE uF uG uH uI uJ uK uL uM uN uO),df,h⟩ R=(oT (some (.bool true)) none h (@kk ⟨λv1 h2=>R .ret ⟨(F129 x0 x1 x2 x3 v1 x5 x6 x7 x8 x9 xA xB xC xD xE xF xG xH xI xJ xK xL xM xN xO xP xQ xR xS xT xU xV xW xX xY xZ yA yB yC yD yE yF yG yH yI yJ yK yL yM yN yO yP yQ yR yS yT yU yV yW yX yY yZ zA zB zC zD zE zF zG zH zI zJ zK zL zM zN zO zP zQ zR zS zT zU zV zW zX zY zZ wA wB wC wD wE wF wG wH wI wJ wK wL wM wN wO wP wQ wR wS wT wU wV wW wX wY wZ uA uB uC uD uE uF uG uH uI uJ uK uL uM uN uO),df,h2⟩⟩)):=by kernel_rfl
attribute [push_cast] sh_ir8_s3
theorem sh_ir8_s4 (G:Nat)(ro:Option Nat)(df:List Nat)(h:Heap)(x0 x1 x2 x3 x4 x5 x6 x7 x8 x9 xA xB xC xD xE xF xG xH xI xJ xK xL xM xN xO xP xQ xR xS xT xU xV xW xX xY xZ yA yB yC yD yE yF yG yH yI yJ yK yL yM yN yO yP yQ yR yS yT yU yV yW yX yY yZ zA zB zC zD zE zF zG zH zI zJ zK zL zM zN zO zP zQ zR zS zT zU zV zW zX zY zZ wA wB wC wD wE wF wG wH wI wJ wK wL wM wN wO wP wQ wR wS wT wU wV wW wX wY wZ uA uB uC uD uE uF uG uH uI uJ uK uL uM uN uO:Value)(R:XExit→S→Prop):vc3 (pp G) ro ir8_s4 ⟨(F129 x0 x1 x2 x3 x4 x5 x6 x7 x8 x9 xA xB xC xD xE xF xG xH xI xJ xK xL xM xN xO xP xQ xR xS xT xU xV xW xX xY xZ yA yB yC yD yE yF yG yH yI yJ yK yL yM yN yO yP yQ yR yS yT yU yV yW yX yY yZ zA zB zC zD zE zF zG zH zI zJ zK zL zM zN zO zP zQ zR zS zT zU zV zW zX zY zZ wA wB wC wD wE wF wG wH wI wJ wK wL wM wN wO wP wQ wR wS wT wU wV wW wX wY wZ uA uB uC uD uE uF uG uH uI uJ uK uL uM uN uO),df,h⟩ R=(oT (some xC) none h (@kk ⟨λv1 h2=>oT (some xB) none h2 (@kk ⟨λv3 h4=>oT (lnB (lnT prog 36) v3) none h4 (@kk ⟨λv5 h6=>oT (binPure prog .sub 3 (.tmp 116) (.const (.int .i64 1)) v5 (.int .i64 1)) none h6 (@kk ⟨λv7 h8=>oT (binPure prog .eql 3 (.tmp 114) (.tmp 117) v1 v7) none h8 (@kk ⟨λv9 h10=>vcond v9 (@kb ⟨oT (some x8) none h10 (@kk ⟨λv11 h12=>oT (some x9) none h12 (@kk ⟨λv13 h14=>oT (iaV (esz prog 36) v11 v13) none h14 (@kk ⟨λv15 h16=>oT (evLoad prog 49 v15 h16) none h16 (@kk ⟨λv17 h18=>oE (stE (szT prog 49) xD v17 h18) (@kk ⟨λv19 h20=>vc3 (pp G) ro ir8_s6 ⟨(F129 x0 x1 x2 x3 x4 x5 x6 x7 x8 x9 xA xB xC xD xE xF xG xH xI xJ xK xL xM xN xO xP xQ xR xS xT xU xV xW xX xY xZ yA yB yC yD yE yF yG yH yI yJ yK yL yM yN yO yP yQ yR yS yT yU yV yW yX yY yZ zA zB zC zD zE zF zG zH zI zJ zK zL zM zN zO zP zQ zR zS zT zU zV zW zX zY zZ wA wB wC wD wE wF wG wH wI wJ wK wL wM wN wO wP wQ wR wS wT wU wV wW wX wY wZ v1 v3 v5 v7 v9 v11 v13 v15 v17 uJ uK uL uM uN uO),df,h20⟩ (@kR ⟨R⟩)⟩)⟩)⟩)⟩)⟩)⟩) (@kb ⟨vc3 (pp G) ro ir8_s6 ⟨(F129 x0 x1 x2 x3 x4 x5 x6 x7 x8 x9 xA xB xC xD xE xF xG xH xI xJ xK xL xM xN xO xP xQ xR xS xT xU xV xW xX xY xZ yA yB yC yD yE yF yG yH yI yJ yK yL yM yN yO yP yQ yR yS yT yU yV yW yX yY yZ zA zB zC zD zE zF zG zH zI zJ zK zL zM zN zO zP zQ zR zS zT zU zV zW zX zY zZ wA wB wC wD wE wF wG wH wI wJ wK wL wM wN wO wP wQ wR wS wT wU wV wW wX wY wZ v1 v3 v5 v7 v9 uF uG uH uI uJ uK uL uM uN uO),df,h10⟩ (@kR ⟨R⟩)⟩)⟩)⟩)⟩)⟩)⟩)):=by kernel_rfl
attribute [push_cast] sh_ir8_s4
theorem sh_ir8_s5 (G:Nat)(ro:Option Nat)(df:List Nat)(h:Heap)(x0 x1 x2 x3 x4 x5 x6 x7 x8 x9 xA xB xC xD xE xF xG xH xI xJ xK xL xM xN xO xP xQ xR xS xT xU xV xW xX xY xZ yA yB yC yD yE yF yG yH yI yJ yK yL yM yN yO yP yQ yR yS yT yU yV yW yX yY yZ zA zB zC zD zE zF zG zH zI zJ zK zL zM zN zO zP zQ zR zS zT zU zV zW zX zY zZ wA wB wC wD wE wF wG wH wI wJ wK wL wM wN wO wP wQ wR wS wT wU wV wW wX wY wZ uA uB uC uD uE uF uG uH uI uJ uK uL uM uN uO:Value)(R:XExit→S→Prop):vc3 (pp G) ro ir8_s5 ⟨(F129 x0 x1 x2 x3 x4 x5 x6 x7 x8 x9 xA xB xC xD xE xF xG xH xI xJ xK xL xM xN xO xP xQ xR xS xT xU xV xW xX xY xZ yA yB yC yD yE yF yG yH yI yJ yK yL yM yN yO yP yQ yR yS yT yU yV yW yX yY yZ zA zB zC zD zE zF zG zH zI zJ zK zL zM zN zO zP zQ zR zS zT zU zV zW zX zY zZ wA wB wC wD wE wF wG wH wI wJ wK wL wM wN wO wP wQ wR wS wT wU wV wW wX wY wZ uA uB uC uD uE uF uG uH uI uJ uK uL uM uN uO),df,h⟩ R=(oT (some xC) none h (@kk ⟨λv1 h2=>oT (binPure prog .add 3 (.tmp 96) (.const (.int .i64 1)) v1 (.int .i64 1)) none h2 (@kk ⟨λv3 h4=>oT (some v3) none h4 (@kk ⟨λv5 h6=>R .normal ⟨(F129 x0 x1 x2 x3 x4 x5 x6 x7 x8 x9 xA xB v5 xD xE xF xG xH xI xJ xK xL xM xN xO xP xQ xR xS xT xU xV xW xX xY xZ yA yB yC yD yE yF yG yH yI yJ yK yL yM yN yO yP yQ yR yS yT yU yV yW yX yY yZ zA zB zC zD zE zF zG zH zI zJ zK zL zM zN zO zP zQ zR zS zT zU zV zW zX zY zZ wA wB wC wD wE wF wG wH v1 v3 wK wL wM wN wO wP wQ wR wS wT wU wV wW wX wY wZ uA uB uC uD uE uF uG uH uI uJ uK uL uM uN uO),df,h6⟩⟩)⟩)⟩)):=by kernel_rfl
attribute [push_cast] sh_ir8_s5
theorem sh_ir8_s6 (G:Nat)(ro:Option Nat)(df:List Nat)(h:Heap)(x0 x1 x2 x3 x4 x5 x6 x7 x8 x9 xA xB xC xD xE xF xG xH xI xJ xK xL xM xN xO xP xQ xR xS xT xU xV xW xX xY xZ yA yB yC yD yE yF yG yH yI yJ yK yL yM yN yO yP yQ yR yS yT yU yV yW yX yY yZ zA zB zC zD zE zF zG zH zI zJ zK zL zM zN zO zP zQ zR zS zT zU zV zW zX zY zZ wA wB wC wD wE wF wG wH wI wJ wK wL wM wN wO wP wQ wR wS wT wU wV wW wX wY wZ uA uB uC uD uE uF uG uH uI uJ uK uL uM uN uO:Value)(R:XExit→S→Prop):vc3 (pp G) ro ir8_s6 ⟨(F129 x0 x1 x2 x3 x4 x5 x6 x7 x8 x9 xA xB xC xD xE xF xG xH xI xJ xK xL xM xN xO xP xQ xR xS xT xU xV xW xX xY xZ yA yB yC yD yE yF yG yH yI yJ yK yL yM yN yO yP yQ yR yS yT yU yV yW yX yY yZ zA zB zC zD zE zF zG zH zI zJ zK zL zM zN zO zP zQ zR zS zT zU zV zW zX zY zZ wA wB wC wD wE wF wG wH wI wJ wK wL wM wN wO wP wQ wR wS wT wU wV wW wX wY wZ uA uB uC uD uE uF uG uH uI uJ uK uL uM uN uO),df,h⟩ R=(oP (some xB) h (@kk ⟨λv1 _=>oP (some xC) h (@kk ⟨λv2 _=>oP (iaV (esz prog 36) v1 v2) h (@kk ⟨λv3 _=>oP (evLoad prog 49 v3 h) h (@kk ⟨λv4 _=>oP (evLoad prog 49 xD h) h (@kk ⟨λv6 _=>oP (binPure prog .neq 49 (.tmp 126) (.tmp 127) v4 v6) h (@kk ⟨λv8 _=>vcond v8 (@kb ⟨oT (some (.bool false)) none h (@kk ⟨λv9 h10=>R .ret ⟨(F129 x0 x1 x2 x3 v9 x5 x6 x7 x8 x9 xA xB xC xD xE xF xG xH xI xJ xK xL xM xN xO xP xQ xR xS xT xU xV xW xX xY xZ yA yB yC yD yE yF yG yH yI yJ yK yL yM yN yO yP yQ yR yS yT yU yV yW yX yY yZ zA zB zC zD zE zF zG zH zI zJ zK zL zM zN zO zP zQ zR zS zT zU zV zW zX zY zZ wA wB wC wD wE wF wG wH wI wJ wK wL wM wN wO wP wQ wR wS wT wU wV wW wX wY wZ uA uB uC uD uE uF uG uH uI v1 v2 v3 v4 v6 v8),df,h10⟩⟩)⟩) (@kb ⟨R .normal ⟨(F129 x0 x1 x2 x3 x4 x5 x6 x7 x8 x9 xA xB xC xD xE xF xG xH xI xJ xK xL xM xN xO xP xQ xR xS xT xU xV xW xX xY xZ yA yB yC yD yE yF yG yH yI yJ yK yL yM yN yO yP yQ yR yS yT yU yV yW yX yY yZ zA zB zC zD zE zF zG zH zI zJ zK zL zM zN zO zP zQ zR zS zT zU zV zW zX zY zZ wA wB wC wD wE wF wG wH wI wJ wK wL wM wN wO wP wQ wR wS wT wU wV wW wX wY wZ uA uB uC uD uE uF uG uH uI v1 v2 v3 v4 v6 v8),df,h⟩⟩)⟩)⟩)⟩)⟩)⟩)⟩)):=by kernel_rfl
attribute [push_cast] sh_ir8_s6
end
end Go.Proofs.Ytejgmoenmbjidaa
namespace Go.Proofs.Ytejgmoenmbjidaa
open _root_.Go.Proofs.Try (prog)
open Go.RowKit Go.Ev
set_option maxRecDepth 100000
noncomputable section
end
end Go.Proofs.Ytejgmoenmbjidaa
namespace Go.Proofs.Ytejgmoenmbjidaa
open _root_.Go.Proofs.Try (prog)
open Go Go.RowKit Go.Ev
noncomputable section
set_option maxRecDepth 100000
variable (G:Nat) (h:Heap)
theorem pr_new {h2 h3:Heap}{q:Pl}{x:Xp}{w u:Wi}{n0:Nat}(aq:WAt h2 q w)(hq:∀ b,q.B b→n0≤b)(ax:XAt h3 x u)(hx:∀ b,x.B b→h2.next≤b)(g:Gr h2 h3)(hn:n0≤h2.next):Pr h3 (λb=>n0≤b) q.p x.p w u:=
 ⟨q,x,rfl,rfl,aq.grew g λ_ _ h=>h,ax,λb ⟨i,hi⟩ hb=>by have:=hx b hb;have:=aq.lt b i hi;omega,λb hb=>hb.elim (λh=>⟨hq b h,by obtain ⟨i,hi⟩:=h;exact Nat.lt_of_lt_of_le (aq.lt b i hi) g.next⟩) λh=>⟨Nat.le_trans hn (hx b h),by obtain ⟨i,hi⟩:=h;exact ax.lt b i hi⟩⟩
end
end Go.Proofs.Ytejgmoenmbjidaa
namespace Go.Proofs.Ytejgmoenmbjidaa
open _root_.Go.Proofs.Try (prog)
open Go Go.RowKit Go.Ev
noncomputable section
set_option maxRecDepth 100000
theorem f49_u:prog.underlying 49=some (.struct (prog.fieldsOf 49)):=by kernel_rfl
theorem f49_h:prog.stoodInHeld 49=false:=by kernel_rfl
theorem f49_n : ∃ f0 f1 : Field, (prog.fieldsOf 49).toList = [f0, f1] ∧ (f0.type = 4 ∧ f0.offset = 0 ∧ (f0.name ≠ "_")) ∧ (f1.type = 31 ∧ f1.offset = 1 ∧ (f1.name ≠ "_")) := by
 have h1:(prog.fieldsOf 49).toList.map (·.type)=[4,31]:=by kernel_rfl
 have h2:(prog.fieldsOf 49).toList.map (·.offset)=[0,1]:=by kernel_rfl
 have h3 : (prog.fieldsOf 49).toList.map (fun f => decide (f.name ≠ "_")) = [true, true] := by kernel_rfl
 generalize (prog.fieldsOf 49).toList=l at *
 rcases l with _|⟨f0,_|⟨f1,_|⟨f2,l⟩⟩⟩
 ·simp at h1
 ·simp at h1
 ·simp only[List.map_cons,List.map_nil,List.cons.injEq,and_true,decide_eq_true_eq] at h1 h2 h3
  exact ⟨f0,f1,rfl,⟨h1.1,h2.1,h3.1⟩,⟨h1.2,h2.2,h3.2⟩⟩
 ·simp at h1
theorem pm0 (b:Bool)(s:ByteArray)(k v:Int):pv prog (part 4 #[.bool b,.string s,.int .i64 k,.int .i64 v] 0)=some (.bool b):=by kernel_rfl
theorem pm1 (b:Bool)(s:ByteArray)(k v:Int):pv prog (part 31 #[.bool b,.string s,.int .i64 k,.int .i64 v] 1)=some (.agg #[.string s,.int .i64 k,.int .i64 v]):=by kernel_rfl
theorem u4:prog.underlying 4=some .bool:=by kernel_rfl
theorem eq4 (d:Nat)(b:Bool):pv prog (Op.equalIn (d+1) 4 (.bool b) (.bool b))=some true:=by
 simp only[Op.equalIn,pv_bind,pv_under u4,Option.bind_some,pv_pure,beq_self_eq_true]
theorem eq31d (s:ByteArray)(k v:Int)(d:Nat):pv prog (Op.equalIn (d+2) 31 (.agg #[.string s,.int .i64 k,.int .i64 v]) (.agg #[.string s,.int .i64 k,.int .i64 v]))=some true:=by
 rw[pv_eqF (d+1) 31 _ _ f31_u f31_h]
 obtain ⟨f0,f1,f2,e,⟨a0,b0,c0⟩,⟨a1,b1,c1⟩,⟨a2,b2,c2⟩⟩:=f31_n
 rw[e]
 simp only[Op.eqFields,if_pos c0,if_pos c1,if_pos c2,a0,a1,a2,b0,b1,b2,pv_bind,pt0,pt1,pt2,Option.bind_some,eq9,eq3,Bool.not_true,Bool.false_eq_true,if_false,pv_pure]
theorem eq49 (b:Bool)(s:ByteArray)(k v:Int):pv prog (Op.equal 49 (.agg ⟨[.bool b,.string s,.int .i64 k,.int .i64 v]⟩) (.agg ⟨[.bool b,.string s,.int .i64 k,.int .i64 v]⟩))=some true:=by
 have key:∀ d:Nat,pv prog (Op.equalIn (d+3) 49 (.agg #[.bool b,.string s,.int .i64 k,.int .i64 v]) (.agg #[.bool b,.string s,.int .i64 k,.int .i64 v]))=some true:=λd=>by
  rw[pv_eqF (d+2) 49 _ _ f49_u f49_h]
  obtain ⟨f0,f1,e,⟨a0,b0,c0⟩,⟨a1,b1,c1⟩⟩:=f49_n
  rw[e]
  simp only[Op.eqFields,if_pos c0,if_pos c1,a0,a1,b0,b1,pv_bind,pm0,pm1,Option.bind_some,eq4,eq31d,Bool.not_true,Bool.false_eq_true,if_false,pv_pure]
 exact key 9997
theorem g49:prog.eqGuardType prog.depth 49=false:=by kernel_rfl
theorem b_neq49 (b:Bool)(s:ByteArray)(k v:Int)(x y:Operand):binPure prog .neq 49 x y (.agg ⟨[.bool b,.string s,.int .i64 k,.int .i64 v]⟩) (.agg ⟨[.bool b,.string s,.int .i64 k,.int .i64 v]⟩)=some (.bool false):=by
 have hf:flat (.agg ⟨[.bool b,.string s,.int .i64 k,.int .i64 v]⟩)=true:=rfl
 have hg:pv prog (eqGuard .neq 49 x y (.agg ⟨[.bool b,.string s,.int .i64 k,.int .i64 v]⟩) (.agg ⟨[.bool b,.string s,.int .i64 k,.int .i64 v]⟩))=some ():=by
  unfold eqGuard
  simp[pv_bind,program,pv,g49,pv_pure]
 have hb:pv prog (binOp .neq 49 (.agg ⟨[.bool b,.string s,.int .i64 k,.int .i64 v]⟩) (.agg ⟨[.bool b,.string s,.int .i64 k,.int .i64 v]⟩))=some (.bool false):=by
  unfold binOp
  simp only[pv_bind,eq49,Option.bind_some,pv_pure,Bool.not_true]
 unfold binPure
 simp only[pv_bind,hg,hb,hf,Option.bind_some,pvF,Bool.and_self]
 rfl
variable (G:Nat) (h:Heap)
theorem rw_grew2 {h h':Heap}{S:Nat→Prop}{α:Type}{f:α→List Value}{l:List α}{n0:Nat}{a:Option Addr}(r:Rw h f l n0 a)(g:Grew h h' S)(hS:∀ b,blk a b→¬ S b):Rw h' f l n0 a:=by
 rcases r.has with h0|⟨b,e,m,h1,h2,h3,h4,h5⟩
 ·exact ⟨.inl h0⟩
 ·exact ⟨.inr ⟨b,e,m,h1,by rw[g.lo];exact h2,Nat.lt_of_lt_of_le h3 g.next,h4,g.cellsE h5 h3 (hS b ⟨0,none,h1⟩)⟩⟩
theorem Rw.msg {h:Heap}{l:List Msg}{n0:Nat}{a:Option Addr}(r:Rw h msC l n0 a){i:Nat}{m:Msg}(hm:l[i]?=some m):∃ b,a=some ⟨b,0,none⟩∧b<h.next∧n0≤b∧ldC (some (true,4)) (i*4) h.lo b (cells h b)=some (.agg ⟨[.bool m.back,.string (Tx m.e.nm),.int .i64 m.e.key,.int .i64 m.e.val]⟩):=by
 rcases r.has with e0|⟨b,e,q,h1,h2,h3,h4,h5⟩
 ·rw[e0] at hm;simp at hm
 ·have hi:=(List.getElem?_eq_some_iff.1 hm).1
  have hlen:=rw_len msC_len l
  have hm4:=Nat.mul_le_mul_right 4 (show i+1≤l.length from hi)
  refine ⟨b,h1,h3,h4,?_⟩
  rw[h5,ldC_agg h2 (by omega),rw_at msC_len hm]
  rfl
inductive I8 (h:Heap)(v1 v2:Value)(p1 p2:Nat):Nat→S→Prop
 | mk {i : Nat} {iv : Int} {w : Wi} {h2 : Heap} {x2 x3 x4 x8 x9 xA xB xC xD xE xF xG xH xI xJ xK xL xM xN xO xP xQ xR xS xT xU xV xW xX xY xZ yA yB yC yD yE yF yG yH yI yJ yK yL yM yN yO yP yQ yR yS yT yU yV yW yX yY yZ zA zB zC zD zE zF zG zH zI zJ zK zL zM zN zO zP zQ zR zS zT zU zV zW zX zY zZ wA wB wC wD wE wF wG wH wI wJ wK wL wM wN wO wP wQ wR wS wT wU wV wW wX wY wZ uA uB uC uD uE uF uG uH uI uJ uK uL uM uN uO : Value} : iv = i → i ≤ 30 → WOk w i → WRg w → Pr h2 (fun b => h.next ≤ b) p1 p2 w w → Gr h h2 →
   I8 h v1 v2 p1 p2 (30-i) ⟨(F129 v1 v2 x2 x3 x4 (.pointer (some ⟨p1,0,none⟩)) (.pointer (some ⟨p2,0,none⟩)) (.int .i64 iv) x8 x9 xA xB xC xD xE xF xG xH xI xJ xK xL xM xN xO xP xQ xR xS xT xU xV xW xX xY xZ yA yB yC yD yE yF yG yH yI yJ yK yL yM yN yO yP yQ yR yS yT yU yV yW yX yY yZ zA zB zC zD zE zF zG zH zI zJ zK zL zM zN zO zP zQ zR zS zT zU zV zW zX zY zZ wA wB wC wD wE wF wG wH wI wJ wK wL wM wN wO wP wQ wR wS wT wU wV wW wX wY wZ uA uB uC uD uE uF uG uH uI uJ uK uL uM uN uO),[],h2⟩
inductive I8b (H:Heap)(vf vh:Value)(k n:Nat):Nat→S→Prop
 | mk {i : Nat} {iv : Int} {h2 : Heap} {x0 x1 x2 x3 x4 x5 x6 x7 xA xD xE xF xG xH xI xJ xK xL xM xN xO xP xQ xR xS xT xU xV xW xX xY xZ yA yB yC yD yE yF yG yH yI yJ yK yL yM yN yO yP yQ yR yS yT yU yV yW yX yY yZ zA zB zC zD zE zF zG zH zI zJ zK zL zM zN zO zP zQ zR zS zT zU zV zW zX zY zZ wA wB wC wD wE wF wG wH wI wJ wK wL wM wN wO wP wQ wR wS wT wU wV wW wX wY wZ uA uB uC uD uE uF uG uH uI uJ uK uL uM uN uO : Value} : iv = i → i ≤ n → Gr H h2 →
   I8b H vf vh k n (n-i) ⟨(F129 x0 x1 x2 x3 x4 x5 x6 x7 vf (.int .i64 k) xA vh (.int .i64 iv) xD xE xF xG xH xI xJ xK xL xM xN xO xP xQ xR xS xT xU xV xW xX xY xZ yA yB yC yD yE yF yG yH yI yJ yK yL yM yN yO yP yQ yR yS yT yU yV yW yX yY yZ zA zB zC zD zE zF zG zH zI zJ zK zL zM zN zO zP zQ zR zS zT zU zV zW zX zY zZ wA wB wC wD wE wF wG wH wI wJ wK wL wM wN wO wP wQ wR wS wT wU wV wW wX wY wZ uA uB uC uD uE uF uG uH uI uJ uK uL uM uN uO),[],h2⟩
theorem ww_cut {h:Heap}{p:Nat}{B:Nat→Prop}{w:Wi}(a:WW h p B w):WW h p (λb=>B b∧b<h.next) w:=by
 obtain ⟨q,h1,h2,h3⟩:=a.has
 exact ⟨q,h1,h2,λb h=>⟨h3 b h,(h3 b h).2⟩⟩
theorem flight_loop {H:Heap}(lo:H.lo≤H.next){f hl:List Msg}{af ah:Option Addr}{cf ch n0 n1 k:Nat}{mk:Msg}(rf:Rw H msC f n0 af)(rh:Rw H msC hl n1 ah)(hmk:f[k]?=some mk)(hk:k<f.length)(hn:f.length<100000)
  (ht:∀ i,i<f.length→hl[i]?=if i+1=f.length then some mk else if i<k then f[i]? else f[i+1]?) {R:XExit→S→Prop}
  (hR:∀ {h2:Heap} {x0 x1 x2 x3 x4 x5 x6 x7 xA xC xD xE xF xG xH xI xJ xK xL xM xN xO xP xQ xR xS xT xU xV xW xX xY xZ yA yB yC yD yE yF yG yH yI yJ yK yL yM yN yO yP yQ yR yS yT yU yV yW yX yY yZ zA zB zC zD zE zF zG zH zI zJ zK zL zM zN zO zP zQ zR zS zT zU zV zW zX zY zZ wA wB wC wD wE wF wG wH wI wJ wK wL wM wN wO wP wQ wR wS wT wU wV wW wX wY wZ uA uB uC uD uE uF uG uH uI uJ uK uL uM uN uO:Value},R (.exit 2) ⟨(F129 x0 x1 x2 x3 x4 x5 x6 x7 (.slice af f.length cf) (.int .i64 k) xA (.slice ah f.length ch) xC xD xE xF xG xH xI xJ xK xL xM xN xO xP xQ xR xS xT xU xV xW xX xY xZ yA yB yC yD yE yF yG yH yI yJ yK yL yM yN yO yP yQ yR yS yT yU yV yW yX yY yZ zA zB zC zD zE zF zG zH zI zJ zK zL zM zN zO zP zQ zR zS zT zU zV zW zX zY zZ wA wB wC wD wE wF wG wH wI wJ wK wL wM wN wO wP wQ wR wS wT wU wV wW wX wY wZ uA uB uC uD uE uF uG uH uI uJ uK uL uM uN uO),[],h2⟩) :
  ∀ m s,I8b H (.slice af f.length cf) (.slice ah f.length ch) k f.length m s→W (pp G) none (.loop ir8_s2) s R:=by
 refine W.loop4 (good G) _ λkk0 s1' hI=>?_
 cases hI with|@mk i iv h2 _ _ _ _ _ _ _ _ _ _ _ _ _ _ _ _ _ _ _ _ _ _ _ _ _ _ _ _ _ _ _ _ _ _ _ _ _ _ _ _ _ _ _ _ _ _ _ _ _ _ _ _ _ _ _ _ _ _ _ _ _ _ _ _ _ _ _ _ _ _ _ _ _ _ _ _ _ _ _ _ _ _ _ _ _ _ _ _ _ _ _ _ _ _ _ _ _ _ _ _ _ _ _ _ _ _ _ _ _ _ _ _ _ _ _ _ _ _ _ _ _ _ _ _ _ hiv hi g2=>
 subst hiv
 rw[sh_ir8_s2]
 have lo2:=g_lon g2 lo
 have rf2:=rf.grew g2 λ_ _ _ h=>h
 have rh2:=rh.grew g2 λ_ _ _ h=>h
 by_cases h1:i<f.length
 ·have h1':(i:Int)<(f.length:Int):=by omega
  have hti:=ht i h1
  have w1:IntKind.i64.wrap ((i:Int)+1)=(i:Int)+1:=wrap_i64 (by omega) (by omega)
  have w2:IntKind.i64.wrap ((f.length:Int)-1)=(f.length:Int)-1:=wrap_i64 (by omega) (by omega)
  obtain ⟨j,hj⟩:∃ j:Nat,min ((i:Int)+1) ((f.length:Int)-1)=(j:Int):=⟨(min ((i:Int)+1) ((f.length:Int)-1)).toNat,by omega⟩
  have hjl:j<f.length:=by omega
  have hjl':(j:Int)<(f.length:Int):=by omega
  have hkl':(k:Int)<(f.length:Int):=by omega
  obtain ⟨m0,hm0⟩:∃ m,f[j]?=some m:=⟨_,List.getElem?_eq_getElem hjl⟩
  obtain ⟨mi,hmi⟩:∃ m,f[i]?=some m:=⟨_,List.getElem?_eq_getElem h1⟩
  rcases rf2.has with e0|⟨b,e,q,rfl,k1,k2,k3,k4⟩
  ·rw[e0] at h1;simp at h1
  have hlenf:=rw_len msC_len f
  have ld:∀ i m,f[i]?=some m→ldC (some (true,4)) (i*4) h2.lo b (cells h2 b)=some (.agg ⟨msC m⟩):=λi m hm=>by
   have hi':=(List.getElem?_eq_some_iff.1 hm).1
   have hm4:=Nat.mul_le_mul_right 4 (show i+1≤f.length from hi')
   rw[k4,ldC_agg k1 (by omega),rw_at msC_len hm]
  have g3:=λ(x y:AObj)=>((Gr.refl h2).add' x).put' h2.next y (Nat.le_refl _)
  have g4:=λ(x y z:AObj)=>(g3 x y).put' h2.next z (Nat.le_refl _)
  have g5:=λ(x y z t:AObj)=>(g4 x y z).put' h2.next t (Nat.le_refl _)
  by_cases hlast:i+1=f.length
  ·have hik:¬ (i:Int)<(k:Int):=by omega
   have hla:((i:Int)=(f.length:Int)-1)=True:=by simp;omega
   rw[if_pos hlast] at hti
   obtain ⟨c,rfl,cl,_,lh⟩:∃ c,ah=some ⟨c,0,none⟩∧c<h2.next∧n1≤c∧_:=rh2.msg hti
   rcases rh2.has with e0|⟨c',e',q',ec,k1',k2',k3',k4'⟩
   ·rw[e0] at hti;simp at hti
   cases ec
   have hlenh:=rw_len msC_len hl
   have hih:=(List.getElem?_eq_some_iff.1 hti).1
   have hmh:=Nat.mul_le_mul_right 4 (show i+1≤hl.length from hih)
   have ldh:ldC (some (true,4)) (i*4) h2.lo c (cells h2 c)=some (.agg ⟨msC mk⟩):=by rw[k4',ldC_agg k1' (by omega),rw_at msC_len hti]
   have lw:=ld _ _ hmk
   have lz:=ld _ _ hm0
   unfold msC evC at lw lz ldh
   simp(disch:=first|omega|(apply id;simp only[push_cast];first|done|omega))only[push_cast,Nat.reduceAdd,Nat.reduceMul,Nat.reduceSub,Nat.reduceLT,Nat.reduceEqDiff,Nat.reduceLeDiff,Int.reduceToNat,reduceCtorEq,Int.reduceLT,Int.reduceLE,Int.reduceAdd,Int.reduceSub,Int.reduceMul,Int.reduceNeg,Int.reduceEq,h1',w1,w2,mnV_int,hj,hjl',hkl',Int.toNat_natCast,lz,lw,lo2,hik,hla,(Gr.cells (g3 _ _) k4 k2).trans k4.symm,(Gr.cells (g4 _ _ _) k4 k2).trans k4.symm,(Gr.cells (g5 _ _ _ _) k4 k2).trans k4.symm,(Gr.cells (g3 _ _) k4' k2').trans k4'.symm,(Gr.cells (g4 _ _ _) k4' k2').trans k4'.symm,(Gr.cells (g5 _ _ _ _) k4' k2').trans k4'.symm,ldh,b_neq49]
   exact ⟨f.length-(i+1),by omega,I8b.mk (i:=i+1) (by omega) (by omega) (g2.tr' (g4 _ _ _) λ_ _ h=>h)⟩
  ·have hla:((i:Int)=(f.length:Int)-1)=False:=by simp;omega
   by_cases hik:i<k
   ·have hik':((i:Int)<(k:Int))=True:=by simp;omega
    rw[if_neg hlast,if_pos hik,hmi] at hti
    obtain ⟨c,rfl,cl,_,lh⟩:∃ c,ah=some ⟨c,0,none⟩∧c<h2.next∧n1≤c∧_:=rh2.msg hti
    rcases rh2.has with e0|⟨c',e',q',ec,k1',k2',k3',k4'⟩
    ·rw[e0] at hti;simp at hti
    cases ec
    have hlenh:=rw_len msC_len hl
    have hih:=(List.getElem?_eq_some_iff.1 hti).1
    have hmh:=Nat.mul_le_mul_right 4 (show i+1≤hl.length from hih)
    have ldh:ldC (some (true,4)) (i*4) h2.lo c (cells h2 c)=some (.agg ⟨msC mi⟩):=by rw[k4',ldC_agg k1' (by omega),rw_at msC_len hti]
    have lw:=ld _ _ hmi
    have lz:=ld _ _ hm0
    unfold msC evC at lw lz ldh
    simp(disch:=first|omega|(apply id;simp only[push_cast];first|done|omega))only[push_cast,Nat.reduceAdd,Nat.reduceMul,Nat.reduceSub,Nat.reduceLT,Nat.reduceEqDiff,Nat.reduceLeDiff,Int.reduceToNat,reduceCtorEq,Int.reduceLT,Int.reduceLE,Int.reduceAdd,Int.reduceSub,Int.reduceMul,Int.reduceNeg,Int.reduceEq,h1',w1,w2,mnV_int,hj,hjl',hkl',Int.toNat_natCast,lz,lw,lo2,hik',hla,(Gr.cells (g3 _ _) k4 k2).trans k4.symm,(Gr.cells (g4 _ _ _) k4 k2).trans k4.symm,(Gr.cells (g5 _ _ _ _) k4 k2).trans k4.symm,(Gr.cells (g3 _ _) k4' k2').trans k4'.symm,(Gr.cells (g4 _ _ _) k4' k2').trans k4'.symm,(Gr.cells (g5 _ _ _ _) k4' k2').trans k4'.symm,ldh,b_neq49]
    exact ⟨f.length-(i+1),by omega,I8b.mk (i:=i+1) (by omega) (by omega) (g2.tr' (g4 _ _ _) λ_ _ h=>h)⟩
   ·have hik':((i:Int)<(k:Int))=False:=by simp;omega
    have hji:j=i+1:=by omega
    rw[if_neg hlast,if_neg hik,← hji,hm0] at hti
    obtain ⟨c,rfl,cl,_,lh⟩:∃ c,ah=some ⟨c,0,none⟩∧c<h2.next∧n1≤c∧_:=rh2.msg hti
    rcases rh2.has with e0|⟨c',e',q',ec,k1',k2',k3',k4'⟩
    ·rw[e0] at hti;simp at hti
    cases ec
    have hlenh:=rw_len msC_len hl
    have hih:=(List.getElem?_eq_some_iff.1 hti).1
    have hmh:=Nat.mul_le_mul_right 4 (show i+1≤hl.length from hih)
    have ldh:ldC (some (true,4)) (i*4) h2.lo c (cells h2 c)=some (.agg ⟨msC m0⟩):=by rw[k4',ldC_agg k1' (by omega),rw_at msC_len hti]
    have lw:=ld _ _ hm0
    have lz:=ld _ _ hm0
    unfold msC evC at lw lz ldh
    simp(disch:=first|omega|(apply id;simp only[push_cast];first|done|omega))only[push_cast,Nat.reduceAdd,Nat.reduceMul,Nat.reduceSub,Nat.reduceLT,Nat.reduceEqDiff,Nat.reduceLeDiff,Int.reduceToNat,reduceCtorEq,Int.reduceLT,Int.reduceLE,Int.reduceAdd,Int.reduceSub,Int.reduceMul,Int.reduceNeg,Int.reduceEq,h1',w1,w2,mnV_int,hj,hjl',hkl',Int.toNat_natCast,lz,lw,lo2,hik',hla,(Gr.cells (g3 _ _) k4 k2).trans k4.symm,(Gr.cells (g4 _ _ _) k4 k2).trans k4.symm,(Gr.cells (g5 _ _ _ _) k4 k2).trans k4.symm,(Gr.cells (g3 _ _) k4' k2').trans k4'.symm,(Gr.cells (g4 _ _ _) k4' k2').trans k4'.symm,(Gr.cells (g5 _ _ _ _) k4' k2').trans k4'.symm,ldh,b_neq49]
    exact ⟨f.length-(i+1),by omega,I8b.mk (i:=i+1) (by omega) (by omega) (g2.tr' (g3 _ _) λ_ _ h=>h)⟩
 ·have h1':¬ (i:Int)<(f.length:Int):=by omega
  simp(disch:=first|omega|(apply id;simp only[push_cast];first|done|omega))only[push_cast,Nat.reduceAdd,Nat.reduceMul,Nat.reduceSub,Nat.reduceLT,Nat.reduceEqDiff,Nat.reduceLeDiff,Int.reduceToNat,reduceCtorEq,Int.reduceLT,Int.reduceLE,Int.reduceAdd,Int.reduceSub,Int.reduceMul,Int.reduceNeg,Int.reduceEq,h1']
  exact hR
theorem flight_law (ys:List Int)(a1:Option Addr)(c1:Nat)(hs1:Sl h a1 (ivs ys))(hb1:∀ b,blk a1 b→b<h.next)(at_:Int) :
  CallE (pp G) 8 [.slice a1 ys.length c1,.int .i64 at_] h (λv h'=>v=.bool true):=by
 refine CallE.fir4 (good G) fir8 rfl rfl (F129_arr ..) λhlo=>?_
 rw[sh_ir8]
 simp(disch:=first|omega|(apply id;simp only[push_cast];first|done|omega))only[push_cast,Nat.reduceAdd,Nat.reduceMul,Nat.reduceSub,Nat.reduceLT,Nat.reduceEqDiff,Nat.reduceLeDiff,Int.reduceToNat,reduceCtorEq,Int.reduceLT,Int.reduceLE,Int.reduceAdd,Int.reduceSub,Int.reduceMul,Int.reduceNeg,Int.reduceEq]
 refine CallE.to (known_w G _) ?_
 rintro _ h1 ⟨rfl,g1⟩
 have n1:=g1.next
 simp(disch:=first|omega|(apply id;simp only[push_cast];first|done|omega))only[push_cast,Nat.reduceAdd,Nat.reduceMul,Nat.reduceSub,Nat.reduceLT,Nat.reduceEqDiff,Nat.reduceLeDiff,Int.reduceToNat,reduceCtorEq,Int.reduceLT,Int.reduceLE,Int.reduceAdd,Int.reduceSub,Int.reduceMul,Int.reduceNeg,Int.reduceEq]
 refine CallE.to (new_w G h1 [] none 0 (Sl.nil _ spotN_n) (λb hb=>by obtain ⟨o,s,e⟩:=hb;cases e) (by decide) λ_=>rfl) ?_
 rintro _ h2 ⟨⟨q,rfl,aq,hq⟩,g2⟩
 have G2:=g1.tr' g2 λ_ _ h=>h
 have n2:=g2.next
 simp(disch:=first|omega|(apply id;simp only[push_cast];first|done|omega))only[push_cast,Nat.reduceAdd,Nat.reduceMul,Nat.reduceSub,Nat.reduceLT,Nat.reduceEqDiff,Nat.reduceLeDiff,Int.reduceToNat,reduceCtorEq,Int.reduceLT,Int.reduceLE,Int.reduceAdd,Int.reduceSub,Int.reduceMul,Int.reduceNeg,Int.reduceEq]
 refine CallE.to (new_x G h2 [] none 0 (Sl.nil _ spotN_n) (λb hb=>by obtain ⟨o,s,e⟩:=hb;cases e) (by decide)) ?_
 rintro _ h3 ⟨⟨x,rfl,ax,hx⟩,g3⟩
 have P3:=pr_new (n0:=h.next) aq (λb hb=>by have:=hq b hb;omega) ax hx g3 (by omega)
 have G3:=G2.tr' g3 λ_ _ h=>h
 simp(disch:=first|omega|(apply id;simp only[push_cast];first|done|omega))only[push_cast,Nat.reduceAdd,Nat.reduceMul,Nat.reduceSub,Nat.reduceLT,Nat.reduceEqDiff,Nat.reduceLeDiff,Int.reduceToNat,reduceCtorEq,Int.reduceLT,Int.reduceLE,Int.reduceAdd,Int.reduceSub,Int.reduceMul,Int.reduceNeg,Int.reduceEq]
 refine W.loop4 (good G) (I8 h (.slice a1 ys.length c1) (.int .i64 at_) q.p x.p) ?_ _ _ (I8.mk (i:=0) rfl (by decide) (new_ok []) (new_rg []) P3 G3)
 generalize q.p=p1
 generalize x.p=p2
 intro kk0 s1' hI
 cases hI with|@mk i iv w h4 _ _ _ _ _ _ _ _ _ _ _ _ _ _ _ _ _ _ _ _ _ _ _ _ _ _ _ _ _ _ _ _ _ _ _ _ _ _ _ _ _ _ _ _ _ _ _ _ _ _ _ _ _ _ _ _ _ _ _ _ _ _ _ _ _ _ _ _ _ _ _ _ _ _ _ _ _ _ _ _ _ _ _ _ _ _ _ _ _ _ _ _ _ _ _ _ _ _ _ _ _ _ _ _ _ _ _ _ _ _ _ _ _ _ _ _ _ _ _ _ _ _ _ _ hiv hi ok rg a4 g4=>
 subst hiv
 rw[sh_ir8_s0]
 have lo4:=g_lon g4 hlo
 by_cases hgo:i<ys.length∧i<30
 ·obtain ⟨h1',h2'⟩:=hgo
  have h1i:(i:Int)<(ys.length:Int):=by omega
  have h2i:(i:Int)<30:=by omega
  have w1:IntKind.i64.wrap ((i:Int)+1)=(i:Int)+1:=wrap_i64 (by omega) (by omega)
  obtain ⟨b,off,rfl,l1⟩:=Sl.num (Sl.grew hs1 g4 λb hb' _=>⟨hb1 b hb',id⟩) h1'
  simp(disch:=first|omega|(apply id;simp only[push_cast];first|done|omega))only[push_cast,Nat.reduceAdd,Nat.reduceMul,Nat.reduceSub,Nat.reduceLT,Nat.reduceEqDiff,Nat.reduceLeDiff,Int.reduceToNat,reduceCtorEq,Int.reduceLT,Int.reduceLE,Int.reduceAdd,Int.reduceSub,Int.reduceMul,Int.reduceNeg,Int.reduceEq,h1i,h2i,Int.toNat_natCast,l1]
  refine CallE.to (step_p G a4 ok (by omega) rg _) ?_
  rintro _ h5 ⟨rfl,r⟩
  obtain ⟨w',a5,ok5,rg5,_,_⟩:=r.has
  have n4:=g4.next
  have a5':=a5.mono (C:=λb=>h.next≤b) λb hb=>hb.elim id λh=>by omega
  simp(disch:=first|omega|(apply id;simp only[push_cast];first|done|omega))only[push_cast,Nat.reduceAdd,Nat.reduceMul,Nat.reduceSub,Nat.reduceLT,Nat.reduceEqDiff,Nat.reduceLeDiff,Int.reduceToNat,reduceCtorEq,Int.reduceLT,Int.reduceLE,Int.reduceAdd,Int.reduceSub,Int.reduceMul,Int.reduceNeg,Int.reduceEq,w1]
  exact ⟨30-(i+1),by omega,I8.mk (i:=i+1) (by omega) (by omega) ok5 rg5 a5' (g4.tr' r.gr λb hb e=>by omega)⟩
 ·have hx : ((i : Int) < (ys.length : Int)) = False ∨ ((i : Int) < (ys.length : Int)) = True ∧ ((i : Int) < 30) = False := by
   by_cases h1':i<ys.length
   ·exact .inr ⟨by simp;omega,by simp;omega⟩
   ·exact .inl (by simp;omega)
  have ww:=ww_cut a4.ww
  have hfl:=ok.fl
  rcases hx with h1i|⟨h1i,h2i⟩
  ·simp(disch:=first|omega|(apply id;simp only[push_cast];first|done|omega))only[push_cast,Nat.reduceAdd,Nat.reduceMul,Nat.reduceSub,Nat.reduceLT,Nat.reduceEqDiff,Nat.reduceLeDiff,Int.reduceToNat,reduceCtorEq,Int.reduceLT,Int.reduceLE,Int.reduceAdd,Int.reduceSub,Int.reduceMul,Int.reduceNeg,Int.reduceEq,h1i]
   refine CallE.to (flight_p G ww ok (by omega)) ?_
   intro vf h5 T5
   obtain ⟨af,cf,rfl,rf,bf⟩:=told_row T5
   have g5:=T5.gr
   have n5:=g5.next
   have ww5:=ww.grew g5 λ_ _ _ h=>h
   have lo5:=g_lon g5 lo4
   by_cases hn0:w.fl.length=0
   ·have z:(w.fl.length:Int)=0:=by omega
    have hdw:dropW w 0=w:=by unfold dropW;rw[if_neg (by omega)]
    have hd0:((0:Int)<0)=False:=by simp
    simp(disch:=first|omega|(apply id;simp only[push_cast];first|done|omega))only[push_cast,Nat.reduceAdd,Nat.reduceMul,Nat.reduceSub,Nat.reduceLT,Nat.reduceEqDiff,Nat.reduceLeDiff,Int.reduceToNat,reduceCtorEq,Int.reduceLT,Int.reduceLE,Int.reduceAdd,Int.reduceSub,Int.reduceMul,Int.reduceNeg,Int.reduceEq,z]
    refine CallE.to (drop_p G ww5 ok (by omega) 0) ?_
    rintro _ h6 ⟨rfl,p6⟩
    have a6:=p6.at_
    rw[hdw] at a6
    simp(disch:=first|omega|(apply id;simp only[push_cast];first|done|omega))only[push_cast,Nat.reduceAdd,Nat.reduceMul,Nat.reduceSub,Nat.reduceLT,Nat.reduceEqDiff,Nat.reduceLeDiff,Int.reduceToNat,reduceCtorEq,Int.reduceLT,Int.reduceLE,Int.reduceAdd,Int.reduceSub,Int.reduceMul,Int.reduceNeg,Int.reduceEq,z,hd0,and_false]
    refine CallE.to (twice_p G a6 ok (by omega) 0) ?_
    rintro _ h7 ⟨rfl,_⟩
    simp(disch:=first|omega|(apply id;simp only[push_cast];first|done|omega))only[push_cast,Nat.reduceAdd,Nat.reduceMul,Nat.reduceSub,Nat.reduceLT,Nat.reduceEqDiff,Nat.reduceLeDiff,Int.reduceToNat,reduceCtorEq,Int.reduceLT,Int.reduceLE,Int.reduceAdd,Int.reduceSub,Int.reduceMul,Int.reduceNeg,Int.reduceEq,z,hd0,and_false]
   ·have z:¬ (w.fl.length:Int)=0:=by omega
    have hr:=Wi_range at_ w.fl.length (by omega)
    simp(disch:=first|omega|(apply id;simp only[push_cast];first|done|omega))only[push_cast,Nat.reduceAdd,Nat.reduceMul,Nat.reduceSub,Nat.reduceLT,Nat.reduceEqDiff,Nat.reduceLeDiff,Int.reduceToNat,reduceCtorEq,Int.reduceLT,Int.reduceLE,Int.reduceAdd,Int.reduceSub,Int.reduceMul,Int.reduceNeg,Int.reduceEq,z]
    refine CallE.to (within_w G h5 at_ w.fl.length (by omega) (by omega)) ?_
    rintro _ _ ⟨rfl,e⟩
    rw[e]
    clear e
    generalize Wi' at_ w.fl.length=kI at hr ⊢
    obtain ⟨k,rfl⟩:∃ k:Nat,kI=k:=⟨kI.toNat,by omega⟩
    obtain ⟨mk,hmk⟩:∃ m,w.fl[k]?=some m:=⟨_,List.getElem?_eq_getElem (by omega)⟩
    have htw:twiceW w k={ w with fl:=w.fl++[mk] }:=by unfold twiceW;rw[if_pos (by omega),Int.toNat_natCast,hmk];rfl
    have hdk:decide (0≤(k:Int)∧(k:Int)<(w.fl.length:Int))=true:=by simp;omega
    simp(disch:=first|omega|(apply id;simp only[push_cast];first|done|omega))only[push_cast,Nat.reduceAdd,Nat.reduceMul,Nat.reduceSub,Nat.reduceLT,Nat.reduceEqDiff,Nat.reduceLeDiff,Int.reduceToNat,reduceCtorEq,Int.reduceLT,Int.reduceLE,Int.reduceAdd,Int.reduceSub,Int.reduceMul,Int.reduceNeg,Int.reduceEq]
    refine CallE.to (twice_p G ww5 ok (by omega) k) ?_
    rintro _ h6 ⟨rfl,p6⟩
    have n6:=p6.gr.next
    rw[hdk]
    have a6:=(ww_cut p6.at_)
    have ok6:=twice_ok ok k
    rw[htw] at a6 ok6
    have lo6:=g_lon p6.gr lo5
    have rf6:=rf.grew p6.gr λb h1 h2 h3=>by have:=h3.2;omega
    simp(disch:=first|omega|(apply id;simp only[push_cast];first|done|omega))only[push_cast,Nat.reduceAdd,Nat.reduceMul,Nat.reduceSub,Nat.reduceLT,Nat.reduceEqDiff,Nat.reduceLeDiff,Int.reduceToNat,reduceCtorEq,Int.reduceLT,Int.reduceLE,Int.reduceAdd,Int.reduceSub,Int.reduceMul,Int.reduceNeg,Int.reduceEq]
    refine CallE.to (flight_p G a6 ok6 (by omega)) ?_
    intro vg h7 T7
    obtain ⟨ag,cg,rfl,rg7,bg⟩:=told_row T7
    have g7:=T7.gr
    have n7:=g7.next
    have lo7:=g_lon g7 lo6
    have rf7:=rf6.grew g7 λ_ _ _ h=>h
    have hgl:({ w with fl:=w.fl++[mk] }:Wi).fl.length=w.fl.length+1:=by show (w.fl++[mk]).length=_;rw[List.length_append];rfl
    have hgl':((({ w with fl:=w.fl++[mk] }:Wi).fl.length:Nat):Int)=(w.fl.length:Int)+1:=by omega
    have hgn:({ w with fl:=w.fl++[mk] }:Wi).fl[w.fl.length]?=some mk:=by show (w.fl++[mk])[w.fl.length]?=_;simp
    obtain ⟨bb,rfl,bb1,bb2,ldg⟩:=rg7.msg hgn
    obtain ⟨bc,rfl,bc1,bc2,ldf⟩:=rf7.msg hmk
    have w2:IntKind.i64.wrap ((w.fl.length:Int)+1)=(w.fl.length:Int)+1:=wrap_i64 (by omega) (by omega)
    have hq1:((k:Int)<(w.fl.length:Int))=True:=by simp;omega
    have hq2:((w.fl.length:Int)<(w.fl.length:Int)+1)=True:=by simp;omega
    have hdk7:decide (0≤(k:Int)∧(k:Int)<(({ w with fl:=w.fl++[mk] }:Wi).fl.length:Int))=true:=decide_eq_true ⟨by omega,by rw[hgl'];omega⟩
    rw[hgl]
    have e1:(((w.fl.length+1:Nat)):Int)=(w.fl.length:Int)+1:=by omega
    have h0n:(0:Int)≤(w.fl.length:Int):=by omega
    have hkn:(k:Int)<(w.fl.length:Int):=by omega
    have hnn:(w.fl.length:Int)<(w.fl.length:Int)+1:=by omega
    simp(disch:=first|omega|(apply id;simp only[push_cast];first|done|omega))only[push_cast,Nat.reduceAdd,Nat.reduceMul,Nat.reduceSub,Nat.reduceLT,Nat.reduceEqDiff,Nat.reduceLeDiff,Int.reduceToNat,reduceCtorEq,Int.reduceLT,Int.reduceLE,Int.reduceAdd,Int.reduceSub,Int.reduceMul,Int.reduceNeg,Int.reduceEq,w2,e1,Int.toNat_natCast,ldg,ldf,b_neq49,hkn,hnn]
    refine CallE.to (drop_p G (a6.grew g7 λ_ _ _ h=>h) ok6 (by omega) k) ?_
    rintro _ h8 ⟨rfl,p8⟩
    rw[hdk7]
    have n8:=p8.gr.next
    have lo8:=g_lon p8.gr lo7
    have ok8:=drop_ok ok6 k
    have hdr:dropW { w with fl:=w.fl++[mk] } k={ w with fl:=(w.fl++[mk]).eraseIdx k }:=by unfold dropW;rw[if_pos (of_decide_eq_true hdk7),Int.toNat_natCast]
    have a8:=p8.at_
    rw[hdr] at a8 ok8
    have rf8:=rw_grew2 rf7 p8.gr λb h1 h2=>by
     have:=bf b h1
     rcases h2.1 with h4|h4
     ·have:=h4.2;omega
     ·omega
    simp(disch:=first|omega|(apply id;simp only[push_cast];first|done|omega))only[push_cast,Nat.reduceAdd,Nat.reduceMul,Nat.reduceSub,Nat.reduceLT,Nat.reduceEqDiff,Nat.reduceLeDiff,Int.reduceToNat,reduceCtorEq,Int.reduceLT,Int.reduceLE,Int.reduceAdd,Int.reduceSub,Int.reduceMul,Int.reduceNeg,Int.reduceEq]
    refine CallE.to (flight_p G a8 ok8 (by omega)) ?_
    intro vh h9 T9
    obtain ⟨ah,ch,rfl,rh9,bh⟩:=told_row T9
    have g9:=T9.gr
    have lo9:=g_lon g9 lo8
    have rf9:=rf8.grew g9 λ_ _ _ h=>h
    have hhl:({ w with fl:=(w.fl++[mk]).eraseIdx k }:Wi).fl.length=w.fl.length:=by show ((w.fl++[mk]).eraseIdx k).length=_;rw[List.length_eraseIdx,if_pos (by rw[List.length_append];simp;omega),List.length_append];simp
    rw[hhl]
    simp(disch:=first|omega|(apply id;simp only[push_cast];first|done|omega))only[push_cast,Nat.reduceAdd,Nat.reduceMul,Nat.reduceSub,Nat.reduceLT,Nat.reduceEqDiff,Nat.reduceLeDiff,Int.reduceToNat,reduceCtorEq,Int.reduceLT,Int.reduceLE,Int.reduceAdd,Int.reduceSub,Int.reduceMul,Int.reduceNeg,Int.reduceEq]
    have ht:∀ i,i<w.fl.length→((w.fl++[mk]).eraseIdx k)[i]?=if i+1=w.fl.length then some mk else if i<k then w.fl[i]? else w.fl[i+1]?:=λi hi=>by
     rw[List.getElem?_eraseIdx]
     by_cases e1:i+1=w.fl.length
     ·rw[if_pos e1,if_neg (by omega),e1];simp
     ·rw[if_neg e1]
      split
      ·rw[List.getElem?_append_left hi]
      ·rw[List.getElem?_append_left (by omega)]
    refine flight_loop G lo9 rf9 rh9 hmk (by omega) (by omega) ht ?_ _ _ (I8b.mk (i:=0) rfl (Nat.zero_le _) (Gr.refl _))
    intros
    simp(disch:=first|omega|(apply id;simp only[push_cast];first|done|omega))only[push_cast,Nat.reduceAdd,Nat.reduceMul,Nat.reduceSub,Nat.reduceLT,Nat.reduceEqDiff,Nat.reduceLeDiff,Int.reduceToNat,reduceCtorEq,Int.reduceLT,Int.reduceLE,Int.reduceAdd,Int.reduceSub,Int.reduceMul,Int.reduceNeg,Int.reduceEq]
  ·simp(disch:=first|omega|(apply id;simp only[push_cast];first|done|omega))only[push_cast,Nat.reduceAdd,Nat.reduceMul,Nat.reduceSub,Nat.reduceLT,Nat.reduceEqDiff,Nat.reduceLeDiff,Int.reduceToNat,reduceCtorEq,Int.reduceLT,Int.reduceLE,Int.reduceAdd,Int.reduceSub,Int.reduceMul,Int.reduceNeg,Int.reduceEq,h1i,h2i]
   refine CallE.to (flight_p G ww ok (by omega)) ?_
   intro vf h5 T5
   obtain ⟨af,cf,rfl,rf,bf⟩:=told_row T5
   have g5:=T5.gr
   have n5:=g5.next
   have ww5:=ww.grew g5 λ_ _ _ h=>h
   have lo5:=g_lon g5 lo4
   by_cases hn0:w.fl.length=0
   ·have z:(w.fl.length:Int)=0:=by omega
    have hdw:dropW w 0=w:=by unfold dropW;rw[if_neg (by omega)]
    have hd0:((0:Int)<0)=False:=by simp
    simp(disch:=first|omega|(apply id;simp only[push_cast];first|done|omega))only[push_cast,Nat.reduceAdd,Nat.reduceMul,Nat.reduceSub,Nat.reduceLT,Nat.reduceEqDiff,Nat.reduceLeDiff,Int.reduceToNat,reduceCtorEq,Int.reduceLT,Int.reduceLE,Int.reduceAdd,Int.reduceSub,Int.reduceMul,Int.reduceNeg,Int.reduceEq,z]
    refine CallE.to (drop_p G ww5 ok (by omega) 0) ?_
    rintro _ h6 ⟨rfl,p6⟩
    have a6:=p6.at_
    rw[hdw] at a6
    simp(disch:=first|omega|(apply id;simp only[push_cast];first|done|omega))only[push_cast,Nat.reduceAdd,Nat.reduceMul,Nat.reduceSub,Nat.reduceLT,Nat.reduceEqDiff,Nat.reduceLeDiff,Int.reduceToNat,reduceCtorEq,Int.reduceLT,Int.reduceLE,Int.reduceAdd,Int.reduceSub,Int.reduceMul,Int.reduceNeg,Int.reduceEq,z,hd0,and_false]
    refine CallE.to (twice_p G a6 ok (by omega) 0) ?_
    rintro _ h7 ⟨rfl,_⟩
    simp(disch:=first|omega|(apply id;simp only[push_cast];first|done|omega))only[push_cast,Nat.reduceAdd,Nat.reduceMul,Nat.reduceSub,Nat.reduceLT,Nat.reduceEqDiff,Nat.reduceLeDiff,Int.reduceToNat,reduceCtorEq,Int.reduceLT,Int.reduceLE,Int.reduceAdd,Int.reduceSub,Int.reduceMul,Int.reduceNeg,Int.reduceEq,z,hd0,and_false]
   ·have z:¬ (w.fl.length:Int)=0:=by omega
    have hr:=Wi_range at_ w.fl.length (by omega)
    simp(disch:=first|omega|(apply id;simp only[push_cast];first|done|omega))only[push_cast,Nat.reduceAdd,Nat.reduceMul,Nat.reduceSub,Nat.reduceLT,Nat.reduceEqDiff,Nat.reduceLeDiff,Int.reduceToNat,reduceCtorEq,Int.reduceLT,Int.reduceLE,Int.reduceAdd,Int.reduceSub,Int.reduceMul,Int.reduceNeg,Int.reduceEq,z]
    refine CallE.to (within_w G h5 at_ w.fl.length (by omega) (by omega)) ?_
    rintro _ _ ⟨rfl,e⟩
    rw[e]
    clear e
    generalize Wi' at_ w.fl.length=kI at hr ⊢
    obtain ⟨k,rfl⟩:∃ k:Nat,kI=k:=⟨kI.toNat,by omega⟩
    obtain ⟨mk,hmk⟩:∃ m,w.fl[k]?=some m:=⟨_,List.getElem?_eq_getElem (by omega)⟩
    have htw:twiceW w k={ w with fl:=w.fl++[mk] }:=by unfold twiceW;rw[if_pos (by omega),Int.toNat_natCast,hmk];rfl
    have hdk:decide (0≤(k:Int)∧(k:Int)<(w.fl.length:Int))=true:=by simp;omega
    simp(disch:=first|omega|(apply id;simp only[push_cast];first|done|omega))only[push_cast,Nat.reduceAdd,Nat.reduceMul,Nat.reduceSub,Nat.reduceLT,Nat.reduceEqDiff,Nat.reduceLeDiff,Int.reduceToNat,reduceCtorEq,Int.reduceLT,Int.reduceLE,Int.reduceAdd,Int.reduceSub,Int.reduceMul,Int.reduceNeg,Int.reduceEq]
    refine CallE.to (twice_p G ww5 ok (by omega) k) ?_
    rintro _ h6 ⟨rfl,p6⟩
    have n6:=p6.gr.next
    rw[hdk]
    have a6:=(ww_cut p6.at_)
    have ok6:=twice_ok ok k
    rw[htw] at a6 ok6
    have lo6:=g_lon p6.gr lo5
    have rf6:=rf.grew p6.gr λb h1 h2 h3=>by have:=h3.2;omega
    simp(disch:=first|omega|(apply id;simp only[push_cast];first|done|omega))only[push_cast,Nat.reduceAdd,Nat.reduceMul,Nat.reduceSub,Nat.reduceLT,Nat.reduceEqDiff,Nat.reduceLeDiff,Int.reduceToNat,reduceCtorEq,Int.reduceLT,Int.reduceLE,Int.reduceAdd,Int.reduceSub,Int.reduceMul,Int.reduceNeg,Int.reduceEq]
    refine CallE.to (flight_p G a6 ok6 (by omega)) ?_
    intro vg h7 T7
    obtain ⟨ag,cg,rfl,rg7,bg⟩:=told_row T7
    have g7:=T7.gr
    have n7:=g7.next
    have lo7:=g_lon g7 lo6
    have rf7:=rf6.grew g7 λ_ _ _ h=>h
    have hgl:({ w with fl:=w.fl++[mk] }:Wi).fl.length=w.fl.length+1:=by show (w.fl++[mk]).length=_;rw[List.length_append];rfl
    have hgl':((({ w with fl:=w.fl++[mk] }:Wi).fl.length:Nat):Int)=(w.fl.length:Int)+1:=by omega
    have hgn:({ w with fl:=w.fl++[mk] }:Wi).fl[w.fl.length]?=some mk:=by show (w.fl++[mk])[w.fl.length]?=_;simp
    obtain ⟨bb,rfl,bb1,bb2,ldg⟩:=rg7.msg hgn
    obtain ⟨bc,rfl,bc1,bc2,ldf⟩:=rf7.msg hmk
    have w2:IntKind.i64.wrap ((w.fl.length:Int)+1)=(w.fl.length:Int)+1:=wrap_i64 (by omega) (by omega)
    have hq1:((k:Int)<(w.fl.length:Int))=True:=by simp;omega
    have hq2:((w.fl.length:Int)<(w.fl.length:Int)+1)=True:=by simp;omega
    have hdk7:decide (0≤(k:Int)∧(k:Int)<(({ w with fl:=w.fl++[mk] }:Wi).fl.length:Int))=true:=decide_eq_true ⟨by omega,by rw[hgl'];omega⟩
    rw[hgl]
    have e1:(((w.fl.length+1:Nat)):Int)=(w.fl.length:Int)+1:=by omega
    have h0n:(0:Int)≤(w.fl.length:Int):=by omega
    have hkn:(k:Int)<(w.fl.length:Int):=by omega
    have hnn:(w.fl.length:Int)<(w.fl.length:Int)+1:=by omega
    simp(disch:=first|omega|(apply id;simp only[push_cast];first|done|omega))only[push_cast,Nat.reduceAdd,Nat.reduceMul,Nat.reduceSub,Nat.reduceLT,Nat.reduceEqDiff,Nat.reduceLeDiff,Int.reduceToNat,reduceCtorEq,Int.reduceLT,Int.reduceLE,Int.reduceAdd,Int.reduceSub,Int.reduceMul,Int.reduceNeg,Int.reduceEq,w2,e1,Int.toNat_natCast,ldg,ldf,b_neq49,hkn,hnn]
    refine CallE.to (drop_p G (a6.grew g7 λ_ _ _ h=>h) ok6 (by omega) k) ?_
    rintro _ h8 ⟨rfl,p8⟩
    rw[hdk7]
    have n8:=p8.gr.next
    have lo8:=g_lon p8.gr lo7
    have ok8:=drop_ok ok6 k
    have hdr:dropW { w with fl:=w.fl++[mk] } k={ w with fl:=(w.fl++[mk]).eraseIdx k }:=by unfold dropW;rw[if_pos (of_decide_eq_true hdk7),Int.toNat_natCast]
    have a8:=p8.at_
    rw[hdr] at a8 ok8
    have rf8:=rw_grew2 rf7 p8.gr λb h1 h2=>by
     have:=bf b h1
     rcases h2.1 with h4|h4
     ·have:=h4.2;omega
     ·omega
    simp(disch:=first|omega|(apply id;simp only[push_cast];first|done|omega))only[push_cast,Nat.reduceAdd,Nat.reduceMul,Nat.reduceSub,Nat.reduceLT,Nat.reduceEqDiff,Nat.reduceLeDiff,Int.reduceToNat,reduceCtorEq,Int.reduceLT,Int.reduceLE,Int.reduceAdd,Int.reduceSub,Int.reduceMul,Int.reduceNeg,Int.reduceEq]
    refine CallE.to (flight_p G a8 ok8 (by omega)) ?_
    intro vh h9 T9
    obtain ⟨ah,ch,rfl,rh9,bh⟩:=told_row T9
    have g9:=T9.gr
    have lo9:=g_lon g9 lo8
    have rf9:=rf8.grew g9 λ_ _ _ h=>h
    have hhl:({ w with fl:=(w.fl++[mk]).eraseIdx k }:Wi).fl.length=w.fl.length:=by show ((w.fl++[mk]).eraseIdx k).length=_;rw[List.length_eraseIdx,if_pos (by rw[List.length_append];simp;omega),List.length_append];simp
    rw[hhl]
    simp(disch:=first|omega|(apply id;simp only[push_cast];first|done|omega))only[push_cast,Nat.reduceAdd,Nat.reduceMul,Nat.reduceSub,Nat.reduceLT,Nat.reduceEqDiff,Nat.reduceLeDiff,Int.reduceToNat,reduceCtorEq,Int.reduceLT,Int.reduceLE,Int.reduceAdd,Int.reduceSub,Int.reduceMul,Int.reduceNeg,Int.reduceEq]
    have ht:∀ i,i<w.fl.length→((w.fl++[mk]).eraseIdx k)[i]?=if i+1=w.fl.length then some mk else if i<k then w.fl[i]? else w.fl[i+1]?:=λi hi=>by
     rw[List.getElem?_eraseIdx]
     by_cases e1:i+1=w.fl.length
     ·rw[if_pos e1,if_neg (by omega),e1];simp
     ·rw[if_neg e1]
      split
      ·rw[List.getElem?_append_left hi]
      ·rw[List.getElem?_append_left (by omega)]
    refine flight_loop G lo9 rf9 rh9 hmk (by omega) (by omega) ht ?_ _ _ (I8b.mk (i:=0) rfl (Nat.zero_le _) (Gr.refl _))
    intros
    simp(disch:=first|omega|(apply id;simp only[push_cast];first|done|omega))only[push_cast,Nat.reduceAdd,Nat.reduceMul,Nat.reduceSub,Nat.reduceLT,Nat.reduceEqDiff,Nat.reduceLeDiff,Int.reduceToNat,reduceCtorEq,Int.reduceLT,Int.reduceLE,Int.reduceAdd,Int.reduceSub,Int.reduceMul,Int.reduceNeg,Int.reduceEq]
end
end Go.Proofs.Ytejgmoenmbjidaa
