/-
  A part of the proof: what the program's functions hand back,as theorems. No condition but those that each theorem names.
-/
import Derived.Test.YtejgmoenmbjidaaVc
set_option linter.unusedSimpArgs false
set_option linter.unusedVariables false
namespace Go.Proofs.Ytejgmoenmbjidaa
open _root_.Go.Proofs.Try (prog)
open Go.RowKit Go.Ev
set_option maxRecDepth 100000
noncomputable section
def F26 (x0 x1 x2 x3 x4 x5 x6 x7 x8 x9 xA xB xC xD xE xF xG xH xI xJ xK xL xM xN xO xP:Z6):VT:=⟨26,(.node (.node (.node (.node (.node .nil xF .nil) x7 (.node .nil xN .nil)) x3 (.node (.node .nil xJ .nil) xB .nil)) x1 (.node (.node (.node .nil xH .nil) x9 (.node .nil xP .nil)) x5 (.node (.node .nil xL .nil) xD .nil))) x0 (.node (.node (.node (.node .nil xG .nil) x8 (.node .nil xO .nil)) x4 (.node (.node .nil xK .nil) xC .nil)) x2 (.node (.node (.node .nil xI .nil) xA .nil) x6 (.node (.node .nil xM .nil) xE .nil))))⟩
theorem lP1 (x0 x1 x2 x3 x4 x5 x6 x7 x8 x9 xA xB xC xD xE xF xG xH xI xJ xK xL xM xN xO xP:Z6):(F26 x0 x1 x2 x3 x4 x5 x6 x7 x8 x9 xA xB xC xD xE xF xG xH xI xJ xK xL xM xN xO xP).arr=⟨[x0,x1,x2,x3,x4,x5,x6,x7,x8,x9,xA,xB,xC,xD,xE,xF,xG,xH,xI,xJ,xK,xL,xM,xN,xO,xP]⟩:=Z7
def F84 (x0 x1 x2 x3 x4 x5 x6 x7 x8 x9 xA xB xC xD xE xF xG xH xI xJ xK xL xM xN xO xP xQ xR xS xT xU xV xW xX xY xZ yA yB yC yD yE yF yG yH yI yJ yK yL yM yN yO yP yQ yR yS yT yU yV yW yX yY yZ zA zB zC zD zE zF zG zH zI zJ zK zL zM zN zO zP zQ zR zS zT zU zV:Z6):VT:=⟨84,(.node (.node (.node (.node (.node (.node (.node .nil zB .nil) xV .nil) xF (.node (.node .nil zR .nil) yL .nil)) x7 (.node (.node (.node .nil zJ .nil) yD .nil) xN (.node .nil yT .nil))) x3 (.node (.node (.node (.node .nil zF .nil) xZ .nil) xJ (.node (.node .nil zV .nil) yP .nil)) xB (.node (.node (.node .nil zN .nil) yH .nil) xR (.node .nil yX .nil)))) x1 (.node (.node (.node (.node (.node .nil zD .nil) xX .nil) xH (.node (.node .nil zT .nil) yN .nil)) x9 (.node (.node (.node .nil zL .nil) yF .nil) xP (.node .nil yV .nil))) x5 (.node (.node (.node (.node .nil zH .nil) yB .nil) xL (.node .nil yR .nil)) xD (.node (.node (.node .nil zP .nil) yJ .nil) xT (.node .nil yZ .nil))))) x0 (.node (.node (.node (.node (.node (.node .nil zC .nil) xW .nil) xG (.node (.node .nil zS .nil) yM .nil)) x8 (.node (.node (.node .nil zK .nil) yE .nil) xO (.node .nil yU .nil))) x4 (.node (.node (.node (.node .nil zG .nil) yA .nil) xK (.node .nil yQ .nil)) xC (.node (.node (.node .nil zO .nil) yI .nil) xS (.node .nil yY .nil)))) x2 (.node (.node (.node (.node (.node .nil zE .nil) xY .nil) xI (.node (.node .nil zU .nil) yO .nil)) xA (.node (.node (.node .nil zM .nil) yG .nil) xQ (.node .nil yW .nil))) x6 (.node (.node (.node (.node .nil zI .nil) yC .nil) xM (.node .nil yS .nil)) xE (.node (.node (.node .nil zQ .nil) yK .nil) xU (.node .nil zA .nil))))))⟩
theorem lB1 (x0 x1 x2 x3 x4 x5 x6 x7 x8 x9 xA xB xC xD xE xF xG xH xI xJ xK xL xM xN xO xP xQ xR xS xT xU xV xW xX xY xZ yA yB yC yD yE yF yG yH yI yJ yK yL yM yN yO yP yQ yR yS yT yU yV yW yX yY yZ zA zB zC zD zE zF zG zH zI zJ zK zL zM zN zO zP zQ zR zS zT zU zV:Z6):(F84 x0 x1 x2 x3 x4 x5 x6 x7 x8 x9 xA xB xC xD xE xF xG xH xI xJ xK xL xM xN xO xP xQ xR xS xT xU xV xW xX xY xZ yA yB yC yD yE yF yG yH yI yJ yK yL yM yN yO yP yQ yR yS yT yU yV yW yX yY yZ zA zB zC zD zE zF zG zH zI zJ zK zL zM zN zO zP zQ zR zS zT zU zV).arr=⟨[x0,x1,x2,x3,x4,x5,x6,x7,x8,x9,xA,xB,xC,xD,xE,xF,xG,xH,xI,xJ,xK,xL,xM,xN,xO,xP,xQ,xR,xS,xT,xU,xV,xW,xX,xY,xZ,yA,yB,yC,yD,yE,yF,yG,yH,yI,yJ,yK,yL,yM,yN,yO,yP,yQ,yR,yS,yT,yU,yV,yW,yX,yY,yZ,zA,zB,zC,zD,zE,zF,zG,zH,zI,zJ,zK,zL,zM,zN,zO,zP,zQ,zR,zS,zT,zU,zV]⟩:=Z7
def gD (x0 x1 x2 x3 x4 x5 x6 x7 x8 x9 xA xB xC xD xE xF xG xH xI xJ xK xL xM xN xO xP xQ xR xS xT xU xV xW xX xY xZ yA yB yC yD yE yF yG yH yI yJ yK yL yM yN yO yP yQ yR yS yT yU yV yW yX yY yZ zA zB zC zD zE zF zG zH zI zJ zK zL zM zN zO zP zQ zR zS zT zU zV zW zX zY zZ wA wB wC wD wE wF wG wH wI wJ wK wL wM wN wO wP wQ wR wS wT wU wV wW wX wY wZ uA uB:Z6):VT:=⟨116,(.node (.node (.node (.node (.node (.node (.node .nil zB .nil) xV (.node .nil wH .nil)) xF (.node (.node .nil zR .nil) yL (.node .nil wX .nil))) x7 (.node (.node (.node .nil zJ .nil) yD (.node .nil wP .nil)) xN (.node (.node .nil zZ .nil) yT .nil))) x3 (.node (.node (.node (.node .nil zF .nil) xZ (.node .nil wL .nil)) xJ (.node (.node .nil zV .nil) yP (.node .nil uB .nil))) xB (.node (.node (.node .nil zN .nil) yH (.node .nil wT .nil)) xR (.node (.node .nil wD .nil) yX .nil)))) x1 (.node (.node (.node (.node (.node .nil zD .nil) xX (.node .nil wJ .nil)) xH (.node (.node .nil zT .nil) yN (.node .nil wZ .nil))) x9 (.node (.node (.node .nil zL .nil) yF (.node .nil wR .nil)) xP (.node (.node .nil wB .nil) yV .nil))) x5 (.node (.node (.node (.node .nil zH .nil) yB (.node .nil wN .nil)) xL (.node (.node .nil zX .nil) yR .nil)) xD (.node (.node (.node .nil zP .nil) yJ (.node .nil wV .nil)) xT (.node (.node .nil wF .nil) yZ .nil))))) x0 (.node (.node (.node (.node (.node (.node .nil zC .nil) xW (.node .nil wI .nil)) xG (.node (.node .nil zS .nil) yM (.node .nil wY .nil))) x8 (.node (.node (.node .nil zK .nil) yE (.node .nil wQ .nil)) xO (.node (.node .nil wA .nil) yU .nil))) x4 (.node (.node (.node (.node .nil zG .nil) yA (.node .nil wM .nil)) xK (.node (.node .nil zW .nil) yQ .nil)) xC (.node (.node (.node .nil zO .nil) yI (.node .nil wU .nil)) xS (.node (.node .nil wE .nil) yY .nil)))) x2 (.node (.node (.node (.node (.node .nil zE .nil) xY (.node .nil wK .nil)) xI (.node (.node .nil zU .nil) yO (.node .nil uA .nil))) xA (.node (.node (.node .nil zM .nil) yG (.node .nil wS .nil)) xQ (.node (.node .nil wC .nil) yW .nil))) x6 (.node (.node (.node (.node .nil zI .nil) yC (.node .nil wO .nil)) xM (.node (.node .nil zY .nil) yS .nil)) xE (.node (.node (.node .nil zQ .nil) yK (.node .nil wW .nil)) xU (.node (.node .nil wG .nil) zA .nil))))))⟩
theorem gU1 (x0 x1 x2 x3 x4 x5 x6 x7 x8 x9 xA xB xC xD xE xF xG xH xI xJ xK xL xM xN xO xP xQ xR xS xT xU xV xW xX xY xZ yA yB yC yD yE yF yG yH yI yJ yK yL yM yN yO yP yQ yR yS yT yU yV yW yX yY yZ zA zB zC zD zE zF zG zH zI zJ zK zL zM zN zO zP zQ zR zS zT zU zV zW zX zY zZ wA wB wC wD wE wF wG wH wI wJ wK wL wM wN wO wP wQ wR wS wT wU wV wW wX wY wZ uA uB:Z6):(gD x0 x1 x2 x3 x4 x5 x6 x7 x8 x9 xA xB xC xD xE xF xG xH xI xJ xK xL xM xN xO xP xQ xR xS xT xU xV xW xX xY xZ yA yB yC yD yE yF yG yH yI yJ yK yL yM yN yO yP yQ yR yS yT yU yV yW yX yY yZ zA zB zC zD zE zF zG zH zI zJ zK zL zM zN zO zP zQ zR zS zT zU zV zW zX zY zZ wA wB wC wD wE wF wG wH wI wJ wK wL wM wN wO wP wQ wR wS wT wU wV wW wX wY wZ uA uB).arr=⟨[x0,x1,x2,x3,x4,x5,x6,x7,x8,x9,xA,xB,xC,xD,xE,xF,xG,xH,xI,xJ,xK,xL,xM,xN,xO,xP,xQ,xR,xS,xT,xU,xV,xW,xX,xY,xZ,yA,yB,yC,yD,yE,yF,yG,yH,yI,yJ,yK,yL,yM,yN,yO,yP,yQ,yR,yS,yT,yU,yV,yW,yX,yY,yZ,zA,zB,zC,zD,zE,zF,zG,zH,zI,zJ,zK,zL,zM,zN,zO,zP,zQ,zR,zS,zT,zU,zV,zW,zX,zY,zZ,wA,wB,wC,wD,wE,wF,wG,wH,wI,wJ,wK,wL,wM,wN,wO,wP,wQ,wR,wS,wT,wU,wV,wW,wX,wY,wZ,uA,uB]⟩:=Z7
@[push_cast]theorem F26_g4 (x0 x1 x2 x3 x4 x5 x6 x7 x8 x9 xA xB xC xD xE xF xG xH xI xJ xK xL xM xN xO xP:Z6):(F26 x0 x1 x2 x3 x4 x5 x6 x7 x8 x9 xA xB xC xD xE xF xG xH xI xJ xK xL xM xN xO xP).get 4=x4:=Z7
@[push_cast]theorem F84_g4 (x0 x1 x2 x3 x4 x5 x6 x7 x8 x9 xA xB xC xD xE xF xG xH xI xJ xK xL xM xN xO xP xQ xR xS xT xU xV xW xX xY xZ yA yB yC yD yE yF yG yH yI yJ yK yL yM yN yO yP yQ yR yS yT yU yV yW yX yY yZ zA zB zC zD zE zF zG zH zI zJ zK zL zM zN zO zP zQ zR zS zT zU zV:Z6):(F84 x0 x1 x2 x3 x4 x5 x6 x7 x8 x9 xA xB xC xD xE xF xG xH xI xJ xK xL xM xN xO xP xQ xR xS xT xU xV xW xX xY xZ yA yB yC yD yE yF yG yH yI yJ yK yL yM yN yO yP yQ yR yS yT yU yV yW yX yY yZ zA zB zC zD zE zF zG zH zI zJ zK zL zM zN zO zP zQ zR zS zT zU zV).get 4=x4:=Z7
@[push_cast]theorem F116_g6 (x0 x1 x2 x3 x4 x5 x6 x7 x8 x9 xA xB xC xD xE xF xG xH xI xJ xK xL xM xN xO xP xQ xR xS xT xU xV xW xX xY xZ yA yB yC yD yE yF yG yH yI yJ yK yL yM yN yO yP yQ yR yS yT yU yV yW yX yY yZ zA zB zC zD zE zF zG zH zI zJ zK zL zM zN zO zP zQ zR zS zT zU zV zW zX zY zZ wA wB wC wD wE wF wG wH wI wJ wK wL wM wN wO wP wQ wR wS wT wU wV wW wX wY wZ uA uB:Z6):(gD x0 x1 x2 x3 x4 x5 x6 x7 x8 x9 xA xB xC xD xE xF xG xH xI xJ xK xL xM xN xO xP xQ xR xS xT xU xV xW xX xY xZ yA yB yC yD yE yF yG yH yI yJ yK yL yM yN yO yP yQ yR yS yT yU yV yW yX yY yZ zA zB zC zD zE zF zG zH zI zJ zK zL zM zN zO zP zQ zR zS zT zU zV zW zX zY zZ wA wB wC wD wE wF wG wH wI wJ wK wL wM wN wO wP wQ wR wS wT wU wV wW wX wY wZ uA uB).get 6=x6:=Z7
def cB0:IR:=(.cond (.tmp 27) (.seq (.plan (.take 1 false ⟨some 32,none,.take,(.move (.tmp 7)),3⟩ (.take 5 false ⟨some 36,none,.take,(.move (.tmp 7)),3⟩ (.take 6 false ⟨some 37,none,.take,(.binOp .quo 3 (.tmp 36) (.const (.int .i64 2)) 3),3⟩ (.take 8 false ⟨some 39,none,.take,(.move (.tmp 7)),3⟩ (.take 9 false ⟨some 40,none,.take,(.binOp .rem 3 (.tmp 39) (.const (.int .i64 5)) 3),3⟩ (.eff 0 ⟨some 31,none,.eff,(.buildSlice 60 2 #[(0,(.const (.string (Tx [112,97,121])))),(1,(.const (.string (Tx [115,104,105,112]))))]),60⟩ [] (.eff 2 ⟨some 33,none,.call,(.call ⟨(.value (.func 22)),#[(.tmp 32),(.const (.int .i64 2))],#[3,3]⟩),3⟩ [1] (.take 3 false ⟨some 34,none,.take,(.indexAddr 60 (.tmp 31) (.tmp 33)),0⟩ (.take 4 true ⟨some 35,none,.take,(.load 9 (.tmp 34)),9⟩ (.eff 7 ⟨some 38,none,.call,(.call ⟨(.value (.func 22)),#[(.tmp 37),(.const (.int .i64 6))],#[3,3]⟩),3⟩ [1,2,5,6] (.take 10 false ⟨some 41,none,.take,(.build 31 #[(0,(.tmp 35)),(1,(.tmp 38)),(2,(.tmp 40))]),31⟩ (.eff 11 ⟨some 9,none,.eff,(.alloc 31),0⟩ [] (.eff 12 ⟨none,none,.eff,(.store 31 (.tmp 9) (.tmp 41)),0⟩ [8,9,5,6,7,1,2,0,3,4,10,11] .fin .no) .no)) (.eff 11 ⟨some 9,none,.eff,(.alloc 31),0⟩ [] (.eff 7 ⟨some 38,none,.call,(.call ⟨(.value (.func 22)),#[(.tmp 37),(.const (.int .i64 6))],#[3,3]⟩),3⟩ [1,2,5,6] (.take 10 false ⟨some 41,none,.take,(.build 31 #[(0,(.tmp 35)),(1,(.tmp 38)),(2,(.tmp 40))]),31⟩ (.eff 12 ⟨none,none,.eff,(.store 31 (.tmp 9) (.tmp 41)),0⟩ [8,9,5,6,7,1,2,0,3,4,10,11] .fin .no)) .no) .no)))) (.eff 11 ⟨some 9,none,.eff,(.alloc 31),0⟩ [] (.eff 2 ⟨some 33,none,.call,(.call ⟨(.value (.func 22)),#[(.tmp 32),(.const (.int .i64 2))],#[3,3]⟩),3⟩ [1] (.take 3 false ⟨some 34,none,.take,(.indexAddr 60 (.tmp 31) (.tmp 33)),0⟩ (.take 4 true ⟨some 35,none,.take,(.load 9 (.tmp 34)),9⟩ (.eff 7 ⟨some 38,none,.call,(.call ⟨(.value (.func 22)),#[(.tmp 37),(.const (.int .i64 6))],#[3,3]⟩),3⟩ [1,2,5,6] (.take 10 false ⟨some 41,none,.take,(.build 31 #[(0,(.tmp 35)),(1,(.tmp 38)),(2,(.tmp 40))]),31⟩ (.eff 12 ⟨none,none,.eff,(.store 31 (.tmp 9) (.tmp 41)),0⟩ [8,9,5,6,7,1,2,0,3,4,10,11] .fin .no)) .no))) .no) .no)) (.eff 2 ⟨some 33,none,.call,(.call ⟨(.value (.func 22)),#[(.tmp 32),(.const (.int .i64 2))],#[3,3]⟩),3⟩ [1] (.eff 0 ⟨some 31,none,.eff,(.buildSlice 60 2 #[(0,(.const (.string (Tx [112,97,121])))),(1,(.const (.string (Tx [115,104,105,112]))))]),60⟩ [] (.take 3 false ⟨some 34,none,.take,(.indexAddr 60 (.tmp 31) (.tmp 33)),0⟩ (.take 4 true ⟨some 35,none,.take,(.load 9 (.tmp 34)),9⟩ (.eff 7 ⟨some 38,none,.call,(.call ⟨(.value (.func 22)),#[(.tmp 37),(.const (.int .i64 6))],#[3,3]⟩),3⟩ [1,2,5,6] (.take 10 false ⟨some 41,none,.take,(.build 31 #[(0,(.tmp 35)),(1,(.tmp 38)),(2,(.tmp 40))]),31⟩ (.eff 11 ⟨some 9,none,.eff,(.alloc 31),0⟩ [] (.eff 12 ⟨none,none,.eff,(.store 31 (.tmp 9) (.tmp 41)),0⟩ [8,9,5,6,7,1,2,0,3,4,10,11] .fin .no) .no)) (.eff 11 ⟨some 9,none,.eff,(.alloc 31),0⟩ [] (.eff 7 ⟨some 38,none,.call,(.call ⟨(.value (.func 22)),#[(.tmp 37),(.const (.int .i64 6))],#[3,3]⟩),3⟩ [1,2,5,6] (.take 10 false ⟨some 41,none,.take,(.build 31 #[(0,(.tmp 35)),(1,(.tmp 38)),(2,(.tmp 40))]),31⟩ (.eff 12 ⟨none,none,.eff,(.store 31 (.tmp 9) (.tmp 41)),0⟩ [8,9,5,6,7,1,2,0,3,4,10,11] .fin .no)) .no) .no)))) (.eff 7 ⟨some 38,none,.call,(.call ⟨(.value (.func 22)),#[(.tmp 37),(.const (.int .i64 6))],#[3,3]⟩),3⟩ [1,2,5,6] (.eff 0 ⟨some 31,none,.eff,(.buildSlice 60 2 #[(0,(.const (.string (Tx [112,97,121])))),(1,(.const (.string (Tx [115,104,105,112]))))]),60⟩ [] (.take 3 false ⟨some 34,none,.take,(.indexAddr 60 (.tmp 31) (.tmp 33)),0⟩ (.take 4 true ⟨some 35,none,.take,(.load 9 (.tmp 34)),9⟩ (.take 10 false ⟨some 41,none,.take,(.build 31 #[(0,(.tmp 35)),(1,(.tmp 38)),(2,(.tmp 40))]),31⟩ (.eff 11 ⟨some 9,none,.eff,(.alloc 31),0⟩ [] (.eff 12 ⟨none,none,.eff,(.store 31 (.tmp 9) (.tmp 41)),0⟩ [8,9,5,6,7,1,2,0,3,4,10,11] .fin .no) .no)))) (.eff 11 ⟨some 9,none,.eff,(.alloc 31),0⟩ [] (.eff 0 ⟨some 31,none,.eff,(.buildSlice 60 2 #[(0,(.const (.string (Tx [112,97,121])))),(1,(.const (.string (Tx [115,104,105,112]))))]),60⟩ [] (.take 3 false ⟨some 34,none,.take,(.indexAddr 60 (.tmp 31) (.tmp 33)),0⟩ (.take 4 true ⟨some 35,none,.take,(.load 9 (.tmp 34)),9⟩ (.take 10 false ⟨some 41,none,.take,(.build 31 #[(0,(.tmp 35)),(1,(.tmp 38)),(2,(.tmp 40))]),31⟩ (.eff 12 ⟨none,none,.eff,(.store 31 (.tmp 9) (.tmp 41)),0⟩ [8,9,5,6,7,1,2,0,3,4,10,11] .fin .no)))) .no) .no)) (.eff 11 ⟨some 9,none,.eff,(.alloc 31),0⟩ [] (.eff 0 ⟨some 31,none,.eff,(.buildSlice 60 2 #[(0,(.const (.string (Tx [112,97,121])))),(1,(.const (.string (Tx [115,104,105,112]))))]),60⟩ [] (.take 3 false ⟨some 34,none,.take,(.indexAddr 60 (.tmp 31) (.tmp 33)),0⟩ (.take 4 true ⟨some 35,none,.take,(.load 9 (.tmp 34)),9⟩ (.eff 7 ⟨some 38,none,.call,(.call ⟨(.value (.func 22)),#[(.tmp 37),(.const (.int .i64 6))],#[3,3]⟩),3⟩ [1,2,5,6] (.take 10 false ⟨some 41,none,.take,(.build 31 #[(0,(.tmp 35)),(1,(.tmp 38)),(2,(.tmp 40))]),31⟩ (.eff 12 ⟨none,none,.eff,(.store 31 (.tmp 9) (.tmp 41)),0⟩ [8,9,5,6,7,1,2,0,3,4,10,11] .fin .no)) .no))) (.eff 7 ⟨some 38,none,.call,(.call ⟨(.value (.func 22)),#[(.tmp 37),(.const (.int .i64 6))],#[3,3]⟩),3⟩ [1,2,5,6] (.eff 0 ⟨some 31,none,.eff,(.buildSlice 60 2 #[(0,(.const (.string (Tx [112,97,121])))),(1,(.const (.string (Tx [115,104,105,112]))))]),60⟩ [] (.take 3 false ⟨some 34,none,.take,(.indexAddr 60 (.tmp 31) (.tmp 33)),0⟩ (.take 4 true ⟨some 35,none,.take,(.load 9 (.tmp 34)),9⟩ (.take 10 false ⟨some 41,none,.take,(.build 31 #[(0,(.tmp 35)),(1,(.tmp 38)),(2,(.tmp 40))]),31⟩ (.eff 12 ⟨none,none,.eff,(.store 31 (.tmp 9) (.tmp 41)),0⟩ [8,9,5,6,7,1,2,0,3,4,10,11] .fin .no)))) .no) .no)) .no))) (.eff 11 ⟨some 9,none,.eff,(.alloc 31),0⟩ [] (.eff 0 ⟨some 31,none,.eff,(.buildSlice 60 2 #[(0,(.const (.string (Tx [112,97,121])))),(1,(.const (.string (Tx [115,104,105,112]))))]),60⟩ [] (.eff 2 ⟨some 33,none,.call,(.call ⟨(.value (.func 22)),#[(.tmp 32),(.const (.int .i64 2))],#[3,3]⟩),3⟩ [1] (.take 3 false ⟨some 34,none,.take,(.indexAddr 60 (.tmp 31) (.tmp 33)),0⟩ (.take 4 true ⟨some 35,none,.take,(.load 9 (.tmp 34)),9⟩ (.eff 7 ⟨some 38,none,.call,(.call ⟨(.value (.func 22)),#[(.tmp 37),(.const (.int .i64 6))],#[3,3]⟩),3⟩ [1,2,5,6] (.take 10 false ⟨some 41,none,.take,(.build 31 #[(0,(.tmp 35)),(1,(.tmp 38)),(2,(.tmp 40))]),31⟩ (.eff 12 ⟨none,none,.eff,(.store 31 (.tmp 9) (.tmp 41)),0⟩ [8,9,5,6,7,1,2,0,3,4,10,11] .fin .no)) .no))) .no) (.eff 2 ⟨some 33,none,.call,(.call ⟨(.value (.func 22)),#[(.tmp 32),(.const (.int .i64 2))],#[3,3]⟩),3⟩ [1] (.eff 0 ⟨some 31,none,.eff,(.buildSlice 60 2 #[(0,(.const (.string (Tx [112,97,121])))),(1,(.const (.string (Tx [115,104,105,112]))))]),60⟩ [] (.take 3 false ⟨some 34,none,.take,(.indexAddr 60 (.tmp 31) (.tmp 33)),0⟩ (.take 4 true ⟨some 35,none,.take,(.load 9 (.tmp 34)),9⟩ (.eff 7 ⟨some 38,none,.call,(.call ⟨(.value (.func 22)),#[(.tmp 37),(.const (.int .i64 6))],#[3,3]⟩),3⟩ [1,2,5,6] (.take 10 false ⟨some 41,none,.take,(.build 31 #[(0,(.tmp 35)),(1,(.tmp 38)),(2,(.tmp 40))]),31⟩ (.eff 12 ⟨none,none,.eff,(.store 31 (.tmp 9) (.tmp 41)),0⟩ [8,9,5,6,7,1,2,0,3,4,10,11] .fin .no)) .no))) (.eff 7 ⟨some 38,none,.call,(.call ⟨(.value (.func 22)),#[(.tmp 37),(.const (.int .i64 6))],#[3,3]⟩),3⟩ [1,2,5,6] (.eff 0 ⟨some 31,none,.eff,(.buildSlice 60 2 #[(0,(.const (.string (Tx [112,97,121])))),(1,(.const (.string (Tx [115,104,105,112]))))]),60⟩ [] (.take 3 false ⟨some 34,none,.take,(.indexAddr 60 (.tmp 31) (.tmp 33)),0⟩ (.take 4 true ⟨some 35,none,.take,(.load 9 (.tmp 34)),9⟩ (.take 10 false ⟨some 41,none,.take,(.build 31 #[(0,(.tmp 35)),(1,(.tmp 38)),(2,(.tmp 40))]),31⟩ (.eff 12 ⟨none,none,.eff,(.store 31 (.tmp 9) (.tmp 41)),0⟩ [8,9,5,6,7,1,2,0,3,4,10,11] .fin .no)))) .no) .no)) .no)) .no))))))))) (.seq (.ops [⟨some 42,none,.take,(.move (.tmp 0)),24⟩,⟨some 43,none,.take,(.load 31 (.tmp 9)),31⟩,⟨some 44,none,.call,(.call ⟨(.value (.func 24)),#[(.tmp 42),(.tmp 43)],#[24,31]⟩),0⟩]) (.ops [⟨some 45,none,.take,(.move (.tmp 1)),26⟩,⟨some 46,none,.take,(.load 31 (.tmp 9)),31⟩,⟨some 47,none,.call,(.call ⟨(.value (.func 31)),#[(.tmp 45),(.tmp 46)],#[26,31]⟩),0⟩]))) (.seq (.ops [⟨some 49,none,.take,(.binOp .eql 3 (.tmp 26) (.const (.int .i64 3)) 3),4⟩,⟨some 48,none,.take,(.assign (.tmp 49)),4⟩]) (.cond (.tmp 48) (.seq (.ops [⟨some 50,none,.take,(.move (.tmp 0)),24⟩,⟨some 51,none,.take,(.move (.tmp 7)),3⟩,⟨some 52,none,.call,(.call ⟨(.value (.func 22)),#[(.tmp 51),(.const (.int .i64 7))],#[3,3]⟩),3⟩,⟨some 53,none,.call,(.call ⟨(.value (.func 25)),#[(.tmp 50),(.tmp 52)],#[24,3]⟩),0⟩]) (.ops [⟨some 54,none,.take,(.move (.tmp 1)),26⟩,⟨some 55,none,.take,(.move (.tmp 7)),3⟩,⟨some 56,none,.call,(.call ⟨(.value (.func 22)),#[(.tmp 55),(.const (.int .i64 7))],#[3,3]⟩),3⟩,⟨some 57,none,.call,(.call ⟨(.value (.func 32)),#[(.tmp 54),(.tmp 56)],#[26,3]⟩),0⟩])) (.seq (.seq (.ops [⟨some 59,none,.take,(.binOp .eql 3 (.tmp 26) (.const (.int .i64 4)) 3),4⟩,⟨some 58,none,.take,(.assign (.tmp 59)),4⟩]) (.cond (.tmp 58) .skip (.ops [⟨some 60,none,.take,(.binOp .eql 3 (.tmp 26) (.const (.int .i64 5)) 3),4⟩,⟨some 58,none,.take,(.assign (.tmp 60)),4⟩]))) (.cond (.tmp 58) (.seq (.ops [⟨some 61,none,.take,(.move (.tmp 0)),24⟩,⟨some 62,none,.call,(.call ⟨(.value (.func 26)),#[(.tmp 61)],#[24]⟩),0⟩]) (.ops [⟨some 63,none,.take,(.move (.tmp 1)),26⟩,⟨some 64,none,.call,(.call ⟨(.value (.func 33)),#[(.tmp 63)],#[26]⟩),0⟩])) (.seq (.seq (.ops [⟨some 66,none,.take,(.binOp .eql 3 (.tmp 26) (.const (.int .i64 6)) 3),4⟩,⟨some 65,none,.take,(.assign (.tmp 66)),4⟩]) (.cond (.tmp 65) .skip (.seq (.ops [⟨some 67,none,.take,(.binOp .eql 3 (.tmp 26) (.const (.int .i64 7)) 3),4⟩,⟨some 65,none,.take,(.assign (.tmp 67)),4⟩]) (.cond (.tmp 65) .skip (.ops [⟨some 68,none,.take,(.binOp .eql 3 (.tmp 26) (.const (.int .i64 8)) 3),4⟩,⟨some 65,none,.take,(.assign (.tmp 68)),4⟩]))))) (.cond (.tmp 65) (.seq (.ops [⟨some 70,none,.take,(.move (.tmp 0)),24⟩,⟨some 71,none,.take,(.move (.tmp 8)),3⟩,⟨some 72,none,.call,(.call ⟨(.value (.func 15)),#[(.tmp 70),(.tmp 71)],#[24,3]⟩),32⟩,⟨some 69,none,.take,(.move (.tmp 72)),32⟩,⟨some 73,none,.take,(.extract (.tmp 69) 0),31⟩,⟨some 74,none,.take,(.extract (.tmp 69) 1),4⟩,⟨some 10,none,.eff,(.alloc 31),0⟩,⟨none,none,.eff,(.store 31 (.tmp 10) (.tmp 73)),0⟩,⟨some 11,none,.take,(.assign (.tmp 74)),4⟩]) (.seq (.ops [⟨some 76,none,.take,(.move (.tmp 1)),26⟩,⟨some 77,none,.take,(.move (.tmp 8)),3⟩,⟨some 78,none,.call,(.call ⟨(.value (.func 16)),#[(.tmp 76),(.tmp 77)],#[26,3]⟩),32⟩,⟨some 75,none,.take,(.move (.tmp 78)),32⟩,⟨some 79,none,.take,(.extract (.tmp 75) 0),31⟩,⟨some 80,none,.take,(.extract (.tmp 75) 1),4⟩,⟨some 12,none,.eff,(.alloc 31),0⟩,⟨none,none,.eff,(.store 31 (.tmp 12) (.tmp 79)),0⟩,⟨some 13,none,.take,(.assign (.tmp 80)),4⟩]) (.seq (.ops [⟨some 81,none,.take,(.load 31 (.tmp 10)),31⟩,⟨some 82,none,.take,(.load 31 (.tmp 12)),31⟩,⟨some 83,none,.take,(.binOp .eql 31 (.tmp 81) (.tmp 82) 31),4⟩,⟨some 84,none,.take,(.move (.tmp 83)),4⟩,⟨some 85,(some (84,true)),.take,(.move (.tmp 11)),4⟩,⟨some 86,(some (84,true)),.take,(.move (.tmp 13)),4⟩,⟨some 87,(some (84,true)),.take,(.binOp .eql 4 (.tmp 85) (.tmp 86) 4),4⟩,⟨some 88,none,.take,(.pick (.tmp 84) (.tmp 87) (.const (.bool false))),4⟩,⟨some 6,none,.take,(.assign (.tmp 88)),4⟩]) .ret))) (.seq (.ops [⟨some 90,none,.take,(.binOp .eql 3 (.tmp 26) (.const (.int .i64 9)) 3),4⟩,⟨some 89,none,.take,(.assign (.tmp 90)),4⟩]) (.cond (.tmp 89) (.seq (.ops [⟨some 91,none,.take,(.move (.tmp 0)),24⟩,⟨some 92,none,.take,(.move (.tmp 8)),3⟩,⟨some 93,none,.call,(.call ⟨(.value (.func 17)),#[(.tmp 91),(.tmp 92)],#[24,3]⟩),4⟩,⟨some 94,none,.take,(.move (.tmp 1)),26⟩,⟨some 95,none,.take,(.move (.tmp 8)),3⟩,⟨some 96,none,.call,(.call ⟨(.value (.func 18)),#[(.tmp 94),(.tmp 95)],#[26,3]⟩),4⟩,⟨some 97,none,.take,(.binOp .eql 4 (.tmp 93) (.tmp 96) 4),4⟩,⟨some 6,none,.take,(.assign (.tmp 97)),4⟩]) .ret) (.seq (.ops [⟨some 99,none,.take,(.binOp .eql 3 (.tmp 26) (.const (.int .i64 10)) 3),4⟩,⟨some 98,none,.take,(.assign (.tmp 99)),4⟩]) (.cond (.tmp 98) (.seq (.ops [⟨some 100,none,.take,(.move (.tmp 0)),24⟩,⟨some 101,none,.take,(.move (.tmp 8)),3⟩,⟨some 102,none,.call,(.call ⟨(.value (.func 19)),#[(.tmp 100),(.tmp 101)],#[24,3]⟩),4⟩,⟨some 103,none,.take,(.move (.tmp 1)),26⟩,⟨some 104,none,.take,(.move (.tmp 8)),3⟩,⟨some 105,none,.call,(.call ⟨(.value (.func 20)),#[(.tmp 103),(.tmp 104)],#[26,3]⟩),4⟩,⟨some 106,none,.take,(.binOp .eql 4 (.tmp 102) (.tmp 105) 4),4⟩,⟨some 6,none,.take,(.assign (.tmp 106)),4⟩]) .ret) (.seq (.ops [⟨some 108,none,.take,(.binOp .eql 3 (.tmp 26) (.const (.int .i64 11)) 3),4⟩,⟨some 107,none,.take,(.assign (.tmp 108)),4⟩]) (.cond (.tmp 107) (.seq (.ops [⟨some 109,none,.take,(.move (.tmp 7)),3⟩,⟨some 110,none,.call,(.call ⟨(.value (.func 22)),#[(.tmp 109),(.const (.int .i64 4))],#[3,3]⟩),3⟩,⟨some 111,none,.take,(.binOp .eql 3 (.tmp 110) (.const (.int .i64 0)) 3),4⟩]) (.cond (.tmp 111) (.seq (.ops [⟨some 112,none,.take,(.move (.tmp 0)),24⟩,⟨some 113,none,.call,(.call ⟨(.value (.func 34)),#[(.tmp 112)],#[24]⟩),0⟩]) (.ops [⟨some 114,none,.take,(.move (.tmp 1)),26⟩,⟨some 115,none,.call,(.call ⟨(.value (.func 35)),#[(.tmp 114)],#[26]⟩),0⟩])) .skip)) .skip)))))))))))))
def cA0:IR:=(.seq (.ops [⟨some 6,none,.take,(.assign (.const (.bool true))),4⟩]) .ret)
def tU0:IR:=(.seq (.seq (.ops [⟨some 39,none,.take,(.move (.tmp 9)),3⟩,⟨some 40,none,.take,(.move (.tmp 5)),36⟩,⟨some 41,none,.take,(.call ⟨(.builtin .len),#[(.tmp 40)],#[36]⟩),3⟩,⟨some 42,none,.take,(.binOp .lss 3 (.tmp 39) (.tmp 41) 3),4⟩]) (.cond (.tmp 42) .skip (.exit 0))) (.seq (.block 1 (.seq (.plan (.take 0 false ⟨some 45,none,.take,(.move (.tmp 5)),36⟩ (.take 1 false ⟨some 46,none,.take,(.move (.tmp 9)),3⟩ (.take 2 false ⟨some 47,none,.take,(.indexAddr 36 (.tmp 45) (.tmp 46)),0⟩ (.take 3 false ⟨some 48,none,.take,(.fieldAddr 49 (.tmp 47) 0),0⟩ (.take 4 true ⟨some 49,none,.take,(.load 4 (.tmp 48)),4⟩ (.take 5 false ⟨some 50,none,.take,(.move (.tmp 6)),57⟩ (.take 6 false ⟨some 51,none,.take,(.move (.tmp 9)),3⟩ (.take 7 false ⟨some 52,none,.take,(.indexAddr 57 (.tmp 50) (.tmp 51)),0⟩ (.take 8 false ⟨some 53,none,.take,(.fieldAddr 62 (.tmp 52) 0),0⟩ (.take 9 true ⟨some 54,none,.take,(.load 4 (.tmp 53)),4⟩ (.take 10 false ⟨some 55,none,.take,(.binOp .neq 4 (.tmp 49) (.tmp 54) 4),4⟩ (.take 11 false ⟨some 56,none,.take,(.move (.tmp 55)),4⟩ (.take 12 false ⟨some 57,(some (56,false)),.take,(.move (.tmp 5)),36⟩ (.take 13 false ⟨some 58,(some (56,false)),.take,(.move (.tmp 9)),3⟩ (.take 14 false ⟨some 59,(some (56,false)),.take,(.indexAddr 36 (.tmp 57) (.tmp 58)),0⟩ (.take 15 false ⟨some 60,(some (56,false)),.take,(.fieldAddr 49 (.tmp 59) 1),0⟩ (.take 16 true ⟨some 61,(some (56,false)),.take,(.load 31 (.tmp 60)),31⟩ (.take 17 false ⟨some 62,(some (56,false)),.take,(.move (.tmp 6)),57⟩ (.take 18 false ⟨some 63,(some (56,false)),.take,(.move (.tmp 9)),3⟩ (.take 19 false ⟨some 64,(some (56,false)),.take,(.indexAddr 57 (.tmp 62) (.tmp 63)),0⟩ (.take 20 false ⟨some 65,(some (56,false)),.take,(.fieldAddr 62 (.tmp 64) 1),0⟩ (.take 21 true ⟨some 66,(some (56,false)),.take,(.load 31 (.tmp 65)),31⟩ (.take 22 false ⟨some 67,(some (56,false)),.take,(.binOp .neq 31 (.tmp 61) (.tmp 66) 31),4⟩ (.take 23 false ⟨some 68,none,.take,(.pick (.tmp 56) (.const (.bool true)) (.tmp 67)),4⟩ .fin))))))))))))))))))))))))) (.cond (.tmp 68) (.seq (.ops [⟨some 4,none,.take,(.assign (.const (.bool false))),4⟩]) .ret) .skip))) (.ops [⟨some 43,none,.take,(.move (.tmp 9)),3⟩,⟨some 44,none,.take,(.binOp .add 3 (.tmp 43) (.const (.int .i64 1)) 3),3⟩,⟨some 9,none,.take,(.assign (.tmp 44)),3⟩])))
def tT0:IR:=(.seq (.seq (.ops [⟨some 10,none,.take,(.assign (.const (.int .i64 0))),3⟩]) (.block 2 (.loop (.seq (.seq (.ops [⟨some 69,none,.take,(.move (.tmp 10)),3⟩,⟨some 70,none,.take,(.move (.tmp 7)),39⟩,⟨some 71,none,.take,(.call ⟨(.builtin .len),#[(.tmp 70)],#[39]⟩),3⟩,⟨some 72,none,.take,(.binOp .lss 3 (.tmp 69) (.tmp 71) 3),4⟩]) (.cond (.tmp 72) .skip (.exit 2))) (.seq (.block 3 (.seq (.plan (.take 0 false ⟨some 75,none,.take,(.move (.tmp 7)),39⟩ (.take 1 false ⟨some 76,none,.take,(.move (.tmp 10)),3⟩ (.take 2 false ⟨some 77,none,.take,(.indexAddr 39 (.tmp 75) (.tmp 76)),0⟩ (.take 3 true ⟨some 78,none,.take,(.load 31 (.tmp 77)),31⟩ (.take 4 false ⟨some 79,none,.take,(.move (.tmp 8)),39⟩ (.take 5 false ⟨some 80,none,.take,(.move (.tmp 10)),3⟩ (.take 6 false ⟨some 81,none,.take,(.indexAddr 39 (.tmp 79) (.tmp 80)),0⟩ (.take 7 true ⟨some 82,none,.take,(.load 31 (.tmp 81)),31⟩ (.take 8 false ⟨some 83,none,.take,(.binOp .neq 31 (.tmp 78) (.tmp 82) 31),4⟩ .fin)))))))))) (.cond (.tmp 83) (.seq (.ops [⟨some 4,none,.take,(.assign (.const (.bool false))),4⟩]) .ret) .skip))) (.ops [⟨some 73,none,.take,(.move (.tmp 10)),3⟩,⟨some 74,none,.take,(.binOp .add 3 (.tmp 73) (.const (.int .i64 1)) 3),3⟩,⟨some 10,none,.take,(.assign (.tmp 74)),3⟩])))))) (.seq (.ops [⟨some 4,none,.take,(.assign (.const (.bool true))),4⟩]) .ret))
def tO0:IR:=(.seq (.seq (.ops [⟨some 11,none,.take,(.move (.tmp 5)),3⟩,⟨some 12,none,.take,(.move (.tmp 0)),22⟩,⟨some 13,none,.take,(.call ⟨(.builtin .len),#[(.tmp 12)],#[22]⟩),3⟩,⟨some 14,none,.take,(.binOp .lss 3 (.tmp 11) (.tmp 13) 3),4⟩]) (.cond (.tmp 14) .skip (.exit 0))) (.seq (.block 1 (.seq (.plan (.take 0 false ⟨some 17,none,.take,(.move (.tmp 0)),22⟩ (.take 1 false ⟨some 18,none,.take,(.move (.tmp 5)),3⟩ (.take 2 false ⟨some 19,none,.take,(.indexAddr 22 (.tmp 17) (.tmp 18)),0⟩ (.take 3 true ⟨some 20,none,.take,(.load 3 (.tmp 19)),3⟩ (.take 4 false ⟨some 21,none,.take,(.move (.tmp 1)),22⟩ (.take 5 false ⟨some 22,none,.take,(.move (.tmp 5)),3⟩ (.take 6 false ⟨some 23,none,.take,(.indexAddr 22 (.tmp 21) (.tmp 22)),0⟩ (.take 7 true ⟨some 24,none,.take,(.load 3 (.tmp 23)),3⟩ (.take 8 false ⟨some 25,none,.take,(.binOp .neq 3 (.tmp 20) (.tmp 24) 3),4⟩ .fin)))))))))) (.cond (.tmp 25) (.seq (.ops [⟨some 4,none,.take,(.assign (.const (.bool false))),4⟩]) .ret) .skip))) (.ops [⟨some 15,none,.take,(.move (.tmp 5)),3⟩,⟨some 16,none,.take,(.binOp .add 3 (.tmp 15) (.const (.int .i64 1)) 3),3⟩,⟨some 5,none,.take,(.assign (.tmp 16)),3⟩])))
def tN0:IR:=(.seq (.ops [⟨some 4,none,.take,(.assign (.const (.bool true))),4⟩]) .ret)
def fU0:IR:=(.cond (.tmp 58) (.seq (.ops [⟨some 61,none,.take,(.move (.tmp 0)),24⟩,⟨some 62,none,.call,(.call ⟨(.value (.func 26)),#[(.tmp 61)],#[24]⟩),0⟩]) (.ops [⟨some 63,none,.take,(.move (.tmp 1)),26⟩,⟨some 64,none,.call,(.call ⟨(.value (.func 33)),#[(.tmp 63)],#[26]⟩),0⟩])) (.seq (.seq (.ops [⟨some 66,none,.take,(.binOp .eql 3 (.tmp 26) (.const (.int .i64 6)) 3),4⟩,⟨some 65,none,.take,(.assign (.tmp 66)),4⟩]) (.cond (.tmp 65) .skip (.seq (.ops [⟨some 67,none,.take,(.binOp .eql 3 (.tmp 26) (.const (.int .i64 7)) 3),4⟩,⟨some 65,none,.take,(.assign (.tmp 67)),4⟩]) (.cond (.tmp 65) .skip (.ops [⟨some 68,none,.take,(.binOp .eql 3 (.tmp 26) (.const (.int .i64 8)) 3),4⟩,⟨some 65,none,.take,(.assign (.tmp 68)),4⟩]))))) (.cond (.tmp 65) (.seq (.ops [⟨some 70,none,.take,(.move (.tmp 0)),24⟩,⟨some 71,none,.take,(.move (.tmp 8)),3⟩,⟨some 72,none,.call,(.call ⟨(.value (.func 15)),#[(.tmp 70),(.tmp 71)],#[24,3]⟩),32⟩,⟨some 69,none,.take,(.move (.tmp 72)),32⟩,⟨some 73,none,.take,(.extract (.tmp 69) 0),31⟩,⟨some 74,none,.take,(.extract (.tmp 69) 1),4⟩,⟨some 10,none,.eff,(.alloc 31),0⟩,⟨none,none,.eff,(.store 31 (.tmp 10) (.tmp 73)),0⟩,⟨some 11,none,.take,(.assign (.tmp 74)),4⟩]) (.seq (.ops [⟨some 76,none,.take,(.move (.tmp 1)),26⟩,⟨some 77,none,.take,(.move (.tmp 8)),3⟩,⟨some 78,none,.call,(.call ⟨(.value (.func 16)),#[(.tmp 76),(.tmp 77)],#[26,3]⟩),32⟩,⟨some 75,none,.take,(.move (.tmp 78)),32⟩,⟨some 79,none,.take,(.extract (.tmp 75) 0),31⟩,⟨some 80,none,.take,(.extract (.tmp 75) 1),4⟩,⟨some 12,none,.eff,(.alloc 31),0⟩,⟨none,none,.eff,(.store 31 (.tmp 12) (.tmp 79)),0⟩,⟨some 13,none,.take,(.assign (.tmp 80)),4⟩]) (.seq (.ops [⟨some 81,none,.take,(.load 31 (.tmp 10)),31⟩,⟨some 82,none,.take,(.load 31 (.tmp 12)),31⟩,⟨some 83,none,.take,(.binOp .eql 31 (.tmp 81) (.tmp 82) 31),4⟩,⟨some 84,none,.take,(.move (.tmp 83)),4⟩,⟨some 85,(some (84,true)),.take,(.move (.tmp 11)),4⟩,⟨some 86,(some (84,true)),.take,(.move (.tmp 13)),4⟩,⟨some 87,(some (84,true)),.take,(.binOp .eql 4 (.tmp 85) (.tmp 86) 4),4⟩,⟨some 88,none,.take,(.pick (.tmp 84) (.tmp 87) (.const (.bool false))),4⟩,⟨some 6,none,.take,(.assign (.tmp 88)),4⟩]) .ret))) (.seq (.ops [⟨some 90,none,.take,(.binOp .eql 3 (.tmp 26) (.const (.int .i64 9)) 3),4⟩,⟨some 89,none,.take,(.assign (.tmp 90)),4⟩]) (.cond (.tmp 89) (.seq (.ops [⟨some 91,none,.take,(.move (.tmp 0)),24⟩,⟨some 92,none,.take,(.move (.tmp 8)),3⟩,⟨some 93,none,.call,(.call ⟨(.value (.func 17)),#[(.tmp 91),(.tmp 92)],#[24,3]⟩),4⟩,⟨some 94,none,.take,(.move (.tmp 1)),26⟩,⟨some 95,none,.take,(.move (.tmp 8)),3⟩,⟨some 96,none,.call,(.call ⟨(.value (.func 18)),#[(.tmp 94),(.tmp 95)],#[26,3]⟩),4⟩,⟨some 97,none,.take,(.binOp .eql 4 (.tmp 93) (.tmp 96) 4),4⟩,⟨some 6,none,.take,(.assign (.tmp 97)),4⟩]) .ret) (.seq (.ops [⟨some 99,none,.take,(.binOp .eql 3 (.tmp 26) (.const (.int .i64 10)) 3),4⟩,⟨some 98,none,.take,(.assign (.tmp 99)),4⟩]) (.cond (.tmp 98) (.seq (.ops [⟨some 100,none,.take,(.move (.tmp 0)),24⟩,⟨some 101,none,.take,(.move (.tmp 8)),3⟩,⟨some 102,none,.call,(.call ⟨(.value (.func 19)),#[(.tmp 100),(.tmp 101)],#[24,3]⟩),4⟩,⟨some 103,none,.take,(.move (.tmp 1)),26⟩,⟨some 104,none,.take,(.move (.tmp 8)),3⟩,⟨some 105,none,.call,(.call ⟨(.value (.func 20)),#[(.tmp 103),(.tmp 104)],#[26,3]⟩),4⟩,⟨some 106,none,.take,(.binOp .eql 4 (.tmp 102) (.tmp 105) 4),4⟩,⟨some 6,none,.take,(.assign (.tmp 106)),4⟩]) .ret) (.seq (.ops [⟨some 108,none,.take,(.binOp .eql 3 (.tmp 26) (.const (.int .i64 11)) 3),4⟩,⟨some 107,none,.take,(.assign (.tmp 108)),4⟩]) (.cond (.tmp 107) (.seq (.ops [⟨some 109,none,.take,(.move (.tmp 7)),3⟩,⟨some 110,none,.call,(.call ⟨(.value (.func 22)),#[(.tmp 109),(.const (.int .i64 4))],#[3,3]⟩),3⟩,⟨some 111,none,.take,(.binOp .eql 3 (.tmp 110) (.const (.int .i64 0)) 3),4⟩]) (.cond (.tmp 111) (.seq (.ops [⟨some 112,none,.take,(.move (.tmp 0)),24⟩,⟨some 113,none,.call,(.call ⟨(.value (.func 34)),#[(.tmp 112)],#[24]⟩),0⟩]) (.ops [⟨some 114,none,.take,(.move (.tmp 1)),26⟩,⟨some 115,none,.call,(.call ⟨(.value (.func 35)),#[(.tmp 114)],#[26]⟩),0⟩])) .skip)) .skip)))))))))
def tS0:IR:=(.seq (.seq (.ops [⟨some 69,none,.take,(.move (.tmp 10)),3⟩,⟨some 70,none,.take,(.move (.tmp 7)),39⟩,⟨some 71,none,.take,(.call ⟨(.builtin .len),#[(.tmp 70)],#[39]⟩),3⟩,⟨some 72,none,.take,(.binOp .lss 3 (.tmp 69) (.tmp 71) 3),4⟩]) (.cond (.tmp 72) .skip (.exit 2))) (.seq (.block 3 (.seq (.plan (.take 0 false ⟨some 75,none,.take,(.move (.tmp 7)),39⟩ (.take 1 false ⟨some 76,none,.take,(.move (.tmp 10)),3⟩ (.take 2 false ⟨some 77,none,.take,(.indexAddr 39 (.tmp 75) (.tmp 76)),0⟩ (.take 3 true ⟨some 78,none,.take,(.load 31 (.tmp 77)),31⟩ (.take 4 false ⟨some 79,none,.take,(.move (.tmp 8)),39⟩ (.take 5 false ⟨some 80,none,.take,(.move (.tmp 10)),3⟩ (.take 6 false ⟨some 81,none,.take,(.indexAddr 39 (.tmp 79) (.tmp 80)),0⟩ (.take 7 true ⟨some 82,none,.take,(.load 31 (.tmp 81)),31⟩ (.take 8 false ⟨some 83,none,.take,(.binOp .neq 31 (.tmp 78) (.tmp 82) 31),4⟩ .fin)))))))))) (.cond (.tmp 83) (.seq (.ops [⟨some 4,none,.take,(.assign (.const (.bool false))),4⟩]) .ret) .skip))) (.ops [⟨some 73,none,.take,(.move (.tmp 10)),3⟩,⟨some 74,none,.take,(.binOp .add 3 (.tmp 73) (.const (.int .i64 1)) 3),3⟩,⟨some 10,none,.take,(.assign (.tmp 74)),3⟩])))
def tR0:IR:=(.seq (.ops [⟨some 4,none,.take,(.assign (.const (.bool true))),4⟩]) .ret)
def bZ0:IR:=(.cond (.tmp 65) (.seq (.ops [⟨some 70,none,.take,(.move (.tmp 0)),24⟩,⟨some 71,none,.take,(.move (.tmp 8)),3⟩,⟨some 72,none,.call,(.call ⟨(.value (.func 15)),#[(.tmp 70),(.tmp 71)],#[24,3]⟩),32⟩,⟨some 69,none,.take,(.move (.tmp 72)),32⟩,⟨some 73,none,.take,(.extract (.tmp 69) 0),31⟩,⟨some 74,none,.take,(.extract (.tmp 69) 1),4⟩,⟨some 10,none,.eff,(.alloc 31),0⟩,⟨none,none,.eff,(.store 31 (.tmp 10) (.tmp 73)),0⟩,⟨some 11,none,.take,(.assign (.tmp 74)),4⟩]) (.seq (.ops [⟨some 76,none,.take,(.move (.tmp 1)),26⟩,⟨some 77,none,.take,(.move (.tmp 8)),3⟩,⟨some 78,none,.call,(.call ⟨(.value (.func 16)),#[(.tmp 76),(.tmp 77)],#[26,3]⟩),32⟩,⟨some 75,none,.take,(.move (.tmp 78)),32⟩,⟨some 79,none,.take,(.extract (.tmp 75) 0),31⟩,⟨some 80,none,.take,(.extract (.tmp 75) 1),4⟩,⟨some 12,none,.eff,(.alloc 31),0⟩,⟨none,none,.eff,(.store 31 (.tmp 12) (.tmp 79)),0⟩,⟨some 13,none,.take,(.assign (.tmp 80)),4⟩]) (.seq (.ops [⟨some 81,none,.take,(.load 31 (.tmp 10)),31⟩,⟨some 82,none,.take,(.load 31 (.tmp 12)),31⟩,⟨some 83,none,.take,(.binOp .eql 31 (.tmp 81) (.tmp 82) 31),4⟩,⟨some 84,none,.take,(.move (.tmp 83)),4⟩,⟨some 85,(some (84,true)),.take,(.move (.tmp 11)),4⟩,⟨some 86,(some (84,true)),.take,(.move (.tmp 13)),4⟩,⟨some 87,(some (84,true)),.take,(.binOp .eql 4 (.tmp 85) (.tmp 86) 4),4⟩,⟨some 88,none,.take,(.pick (.tmp 84) (.tmp 87) (.const (.bool false))),4⟩,⟨some 6,none,.take,(.assign (.tmp 88)),4⟩]) .ret))) (.seq (.ops [⟨some 90,none,.take,(.binOp .eql 3 (.tmp 26) (.const (.int .i64 9)) 3),4⟩,⟨some 89,none,.take,(.assign (.tmp 90)),4⟩]) (.cond (.tmp 89) (.seq (.ops [⟨some 91,none,.take,(.move (.tmp 0)),24⟩,⟨some 92,none,.take,(.move (.tmp 8)),3⟩,⟨some 93,none,.call,(.call ⟨(.value (.func 17)),#[(.tmp 91),(.tmp 92)],#[24,3]⟩),4⟩,⟨some 94,none,.take,(.move (.tmp 1)),26⟩,⟨some 95,none,.take,(.move (.tmp 8)),3⟩,⟨some 96,none,.call,(.call ⟨(.value (.func 18)),#[(.tmp 94),(.tmp 95)],#[26,3]⟩),4⟩,⟨some 97,none,.take,(.binOp .eql 4 (.tmp 93) (.tmp 96) 4),4⟩,⟨some 6,none,.take,(.assign (.tmp 97)),4⟩]) .ret) (.seq (.ops [⟨some 99,none,.take,(.binOp .eql 3 (.tmp 26) (.const (.int .i64 10)) 3),4⟩,⟨some 98,none,.take,(.assign (.tmp 99)),4⟩]) (.cond (.tmp 98) (.seq (.ops [⟨some 100,none,.take,(.move (.tmp 0)),24⟩,⟨some 101,none,.take,(.move (.tmp 8)),3⟩,⟨some 102,none,.call,(.call ⟨(.value (.func 19)),#[(.tmp 100),(.tmp 101)],#[24,3]⟩),4⟩,⟨some 103,none,.take,(.move (.tmp 1)),26⟩,⟨some 104,none,.take,(.move (.tmp 8)),3⟩,⟨some 105,none,.call,(.call ⟨(.value (.func 20)),#[(.tmp 103),(.tmp 104)],#[26,3]⟩),4⟩,⟨some 106,none,.take,(.binOp .eql 4 (.tmp 102) (.tmp 105) 4),4⟩,⟨some 6,none,.take,(.assign (.tmp 106)),4⟩]) .ret) (.seq (.ops [⟨some 108,none,.take,(.binOp .eql 3 (.tmp 26) (.const (.int .i64 11)) 3),4⟩,⟨some 107,none,.take,(.assign (.tmp 108)),4⟩]) (.cond (.tmp 107) (.seq (.ops [⟨some 109,none,.take,(.move (.tmp 7)),3⟩,⟨some 110,none,.call,(.call ⟨(.value (.func 22)),#[(.tmp 109),(.const (.int .i64 4))],#[3,3]⟩),3⟩,⟨some 111,none,.take,(.binOp .eql 3 (.tmp 110) (.const (.int .i64 0)) 3),4⟩]) (.cond (.tmp 111) (.seq (.ops [⟨some 112,none,.take,(.move (.tmp 0)),24⟩,⟨some 113,none,.call,(.call ⟨(.value (.func 34)),#[(.tmp 112)],#[24]⟩),0⟩]) (.ops [⟨some 114,none,.take,(.move (.tmp 1)),26⟩,⟨some 115,none,.call,(.call ⟨(.value (.func 35)),#[(.tmp 114)],#[26]⟩),0⟩])) .skip)) .skip)))))))
theorem eS1 (G:Nat)(h:jB)(a0 a1 a2:Z6)(R:Z6→jB→Prop):vc3 (pp G) none ir13 ⟨(gD a0 a1 a2 undef undef undef undef undef undef undef undef undef undef undef undef undef undef undef undef undef undef undef undef undef undef undef undef undef undef undef undef undef undef undef undef undef undef undef undef undef undef undef undef undef undef undef undef undef undef undef undef undef undef undef undef undef undef undef undef undef undef undef undef undef undef undef undef undef undef undef undef undef undef undef undef undef undef undef undef undef undef undef undef undef undef undef undef undef undef undef undef undef undef undef undef undef undef undef undef undef undef undef undef undef undef undef undef undef undef undef undef undef undef undef undef undef),[],h⟩ (jZ prog [(.tmp 6)] R)=(oT (some (.bool false)) none h (@kk ⟨λv1 h2=>oT (some a2) none h2 (@kk ⟨λv3 h4=>oT (jF prog .quo 3 (.tmp 14) (.const (.int .i64 12)) v3 (.int .i64 12)) none h4 (@kk ⟨λv5 h6=>oT (some v5) none h6 (@kk ⟨λv7 h8=>oT (some v7) none h8 (@kk ⟨λv9 h10=>oT (some a1) none h10 (@kk ⟨λv11 h12=>oT (ncV v11) none h12 (@kk ⟨λv13 h14=>oT (faV (fld prog 59 2) v13) none h14 (@kk ⟨λv15 h16=>oT (jA prog 57 v15 h16) none h16 (@kk ⟨λv17 h18=>oT (lnB (lnT prog 57) v17) none h18 (@kk ⟨λv19 h20=>oT (jF prog .add 3 (.tmp 21) (.const (.int .i64 2)) v19 (.int .i64 2)) none h20 (@kk ⟨λv21 h22=>jK (pp G) (.func (.func 22) #[] #[]) [v9,v21] h22 (@kk ⟨λv23 h24=>oT (jF prog .sub 3 (.tmp 23) (.const (.int .i64 1)) v23 (.int .i64 1)) none h24 (@kk ⟨λv25 h26=>oT (some v25) none h26 (@kk ⟨λv27 h28=>oT (some a2) none h28 (@kk ⟨λv29 h30=>jK (pp G) (.func (.func 22) #[] #[]) [v29,(.int .i64 12)] h30 (@kk ⟨λv31 h32=>oT (jF prog .eql 3 (.tmp 26) (.const (.int .i64 0)) v31 (.int .i64 0)) none h32 (@kk ⟨λv33 h34=>oT (some v33) none h34 (@kk ⟨λv35 h36=>jR v35 (@kb ⟨vc3 (pp G) none cB0 ⟨(gD a0 a1 a2 undef undef undef v1 v7 v27 undef undef undef undef undef v3 v5 v9 v11 v13 v15 v17 v19 v21 v23 v25 v29 v31 v35 v33 undef undef undef undef undef undef undef undef undef undef undef undef undef undef undef undef undef undef undef undef undef undef undef undef undef undef undef undef undef undef undef undef undef undef undef undef undef undef undef undef undef undef undef undef undef undef undef undef undef undef undef undef undef undef undef undef undef undef undef undef undef undef undef undef undef undef undef undef undef undef undef undef undef undef undef undef undef undef undef undef undef undef undef undef undef undef undef),[],h36⟩ (@kR ⟨kA 0 (qX (λs1=>vc3 (pp G) none cA0 s1 (@kR ⟨jZ prog [(.tmp 6)] R⟩)) (jZ prog [(.tmp 6)] R))⟩)⟩) (@kb ⟨oT (jF prog .eql 3 (.tmp 26) (.const (.int .i64 1)) v31 (.int .i64 1)) none h36 (@kk ⟨λv37 h38=>oT (some v37) none h38 (@kk ⟨λv39 h40=>jR v39 (@kb ⟨vc3 (pp G) none cB0 ⟨(gD a0 a1 a2 undef undef undef v1 v7 v27 undef undef undef undef undef v3 v5 v9 v11 v13 v15 v17 v19 v21 v23 v25 v29 v31 v39 v33 v37 undef undef undef undef undef undef undef undef undef undef undef undef undef undef undef undef undef undef undef undef undef undef undef undef undef undef undef undef undef undef undef undef undef undef undef undef undef undef undef undef undef undef undef undef undef undef undef undef undef undef undef undef undef undef undef undef undef undef undef undef undef undef undef undef undef undef undef undef undef undef undef undef undef undef undef undef undef undef undef undef undef undef undef undef undef undef),[],h40⟩ (@kR ⟨kA 0 (qX (λs1=>vc3 (pp G) none cA0 s1 (@kR ⟨jZ prog [(.tmp 6)] R⟩)) (jZ prog [(.tmp 6)] R))⟩)⟩) (@kb ⟨oT (jF prog .eql 3 (.tmp 26) (.const (.int .i64 2)) v31 (.int .i64 2)) none h40 (@kk ⟨λv41 h42=>oT (some v41) none h42 (@kk ⟨λv43 h44=>vc3 (pp G) none cB0 ⟨(gD a0 a1 a2 undef undef undef v1 v7 v27 undef undef undef undef undef v3 v5 v9 v11 v13 v15 v17 v19 v21 v23 v25 v29 v31 v43 v33 v37 v41 undef undef undef undef undef undef undef undef undef undef undef undef undef undef undef undef undef undef undef undef undef undef undef undef undef undef undef undef undef undef undef undef undef undef undef undef undef undef undef undef undef undef undef undef undef undef undef undef undef undef undef undef undef undef undef undef undef undef undef undef undef undef undef undef undef undef undef undef undef undef undef undef undef undef undef undef undef undef undef undef undef undef undef undef undef),[],h44⟩ (@kR ⟨kA 0 (qX (λs1=>vc3 (pp G) none cA0 s1 (@kR ⟨jZ prog [(.tmp 6)] R⟩)) (jZ prog [(.tmp 6)] R))⟩)⟩)⟩)⟩)⟩)⟩)⟩)⟩)⟩)⟩)⟩)⟩)⟩)⟩)⟩)⟩)⟩)⟩)⟩)⟩)⟩)⟩)⟩)⟩)⟩)):=Z7
theorem eR1 (G:Nat)(h:jB)(a0 a1:Z6)(R:Z6→jB→Prop):vc3 (pp G) none ir14 ⟨(F84 a0 a1 undef undef undef undef undef undef undef undef undef undef undef undef undef undef undef undef undef undef undef undef undef undef undef undef undef undef undef undef undef undef undef undef undef undef undef undef undef undef undef undef undef undef undef undef undef undef undef undef undef undef undef undef undef undef undef undef undef undef undef undef undef undef undef undef undef undef undef undef undef undef undef undef undef undef undef undef undef undef undef undef undef undef),[],h⟩ (jZ prog [(.tmp 4)] R)=(oT (some (.bool false)) none h (@kk ⟨λv1 h2=>oT (some a0) none h2 (@kk ⟨λv3 h4=>jK (pp G) (.func (.func 21) #[] #[]) [v3] h4 (@kk ⟨λv5 h6=>oT (some a1) none h6 (@kk ⟨λv7 h8=>jK (pp G) (.func (.func 36) #[] #[]) [v7] h8 (@kk ⟨λv9 h10=>oT (some v5) none h10 (@kk ⟨λv11 h12=>oT (some v9) none h12 (@kk ⟨λv13 h14=>oT (some a0) none h14 (@kk ⟨λv15 h16=>jK (pp G) (.func (.func 23) #[] #[]) [v15] h16 (@kk ⟨λv17 h18=>oT (some a1) none h18 (@kk ⟨λv19 h20=>jK (pp G) (.func (.func 37) #[] #[]) [v19] h20 (@kk ⟨λv21 h22=>oT (some v17) none h22 (@kk ⟨λv23 h24=>oT (some v21) none h24 (@kk ⟨λv25 h26=>oT (some v11) none h26 (@kk ⟨λv27 h28=>oT (lnB (lnT prog 36) v27) none h28 (@kk ⟨λv29 h30=>oT (some v13) none h30 (@kk ⟨λv31 h32=>oT (lnB (lnT prog 57) v31) none h32 (@kk ⟨λv33 h34=>oT (jF prog .neq 3 (.tmp 20) (.tmp 22) v29 v33) none h34 (@kk ⟨λv35 h36=>oT (some v35) none h36 (@kk ⟨λv37 h38=>gT v37 false (some v23) none h38 (@kk ⟨λv39 h40=>gT v37 false (lnB (lnT prog 39) v39) none h40 (@kk ⟨λv41 h42=>gT v37 false (some v25) none h42 (@kk ⟨λv43 h44=>gT v37 false (lnB (lnT prog 39) v43) none h44 (@kk ⟨λv45 h46=>gT v37 false (jF prog .neq 3 (.tmp 26) (.tmp 28) v41 v45) none h46 (@kk ⟨λv47 h48=>oT (kI v37 (.bool true) v47) none h48 (@kk ⟨λv49 h50=>oT (some v49) none h50 (@kk ⟨λv51 h52=>gT v51 false (some a0) none h52 (@kk ⟨λv53 h54=>gC (pp G) v51 false (.func (.func 27) #[] #[]) [v53] h54 (@kk ⟨λv55 h56=>gT v51 false (some a1) none h56 (@kk ⟨λv57 h58=>gC (pp G) v51 false (.func (.func 29) #[] #[]) [v57] h58 (@kk ⟨λv59 h60=>gC (pp G) v51 false (.func (.func 28) #[] #[]) [v55,v59] h60 (@kk ⟨λv61 h62=>gT v51 false (unV prog .not v61) none h62 (@kk ⟨λv63 h64=>oT (kI v51 (.bool true) v63) none h64 (@kk ⟨λv65 h66=>jR v65 (@kb ⟨oT (some (.bool false)) none h66 (@kk ⟨λv67 h68=>R v67 h68⟩)⟩) (@kb ⟨oT (some (.int .i64 0)) none h66 (@kk ⟨λv69 h70=>W (pp G) none (.loop tU0) ⟨(F84 a0 a1 undef undef v1 v11 v13 v23 v25 v69 undef v3 v5 v7 v9 v15 v17 v19 v21 v27 v29 v31 v33 v35 v37 v39 v41 v43 v45 v47 v49 v51 v53 v55 v57 v59 v61 v63 v65 undef undef undef undef undef undef undef undef undef undef undef undef undef undef undef undef undef undef undef undef undef undef undef undef undef undef undef undef undef undef undef undef undef undef undef undef undef undef undef undef undef undef undef undef undef),[],h70⟩ (@kR ⟨kA 0 (qX (λs1=>vc3 (pp G) none tT0 s1 (@kR ⟨jZ prog [(.tmp 4)] R⟩)) (jZ prog [(.tmp 4)] R))⟩)⟩)⟩)⟩)⟩)⟩)⟩)⟩)⟩)⟩)⟩)⟩)⟩)⟩)⟩)⟩)⟩)⟩)⟩)⟩)⟩)⟩)⟩)⟩)⟩)⟩)⟩)⟩)⟩)⟩)⟩)⟩)⟩)⟩)⟩)⟩)):=Z7
theorem eD1 (G:Nat)(h:jB)(a0 a1:Z6)(R:Z6→jB→Prop):vc3 (pp G) none ir28 ⟨(F26 a0 a1 undef undef undef undef undef undef undef undef undef undef undef undef undef undef undef undef undef undef undef undef undef undef undef undef),[],h⟩ (jZ prog [(.tmp 4)] R)=(oT (some (.bool false)) none h (@kk ⟨λv1 h2=>oT (some a0) none h2 (@kk ⟨λv3 h4=>oT (lnB (lnT prog 22) v3) none h4 (@kk ⟨λv5 h6=>oT (some a1) none h6 (@kk ⟨λv7 h8=>oT (lnB (lnT prog 22) v7) none h8 (@kk ⟨λv9 h10=>oT (jF prog .neq 3 (.tmp 7) (.tmp 9) v5 v9) none h10 (@kk ⟨λv11 h12=>jR v11 (@kb ⟨oT (some (.bool false)) none h12 (@kk ⟨λv13 h14=>R v13 h14⟩)⟩) (@kb ⟨oT (some (.int .i64 0)) none h12 (@kk ⟨λv15 h16=>W (pp G) none (.loop tO0) ⟨(F26 a0 a1 undef undef v1 v15 v3 v5 v7 v9 v11 undef undef undef undef undef undef undef undef undef undef undef undef undef undef undef),[],h16⟩ (@kR ⟨kA 0 (qX (λs1=>vc3 (pp G) none tN0 s1 (@kR ⟨jZ prog [(.tmp 4)] R⟩)) (jZ prog [(.tmp 4)] R))⟩)⟩)⟩)⟩)⟩)⟩)⟩)⟩)⟩)):=Z7
@[push_cast]theorem mR1 (G:Nat)(ro:Z8 Nat)(df:List Nat)(h:jB)(x0 x1 x2 x3 x4 x5 x6 x7 x8 x9 xA xB xC xD xE xF xG xH xI xJ xK xL xM xN xO xP xQ xR xS xT xU xV xW xX xY xZ yA yB yC yD yE yF yG yH yI yJ yK yL yM yN yO yP yQ yR yS yT yU yV yW yX yY yZ zA zB zC zD zE zF zG zH zI zJ zK zL zM zN zO zP zQ zR zS zT zU zV zW zX zY zZ wA wB wC wD wE wF wG wH wI wJ wK wL wM wN wO wP wQ wR wS wT wU wV wW wX wY wZ uA uB:Z6)(R:jL→S→Prop):vc3 (pp G) ro cB0 ⟨(gD x0 x1 x2 x3 x4 x5 x6 x7 x8 x9 xA xB xC xD xE xF xG xH xI xJ xK xL xM xN xO xP xQ xR xS xT xU xV xW xX xY xZ yA yB yC yD yE yF yG yH yI yJ yK yL yM yN yO yP yQ yR yS yT yU yV yW yX yY yZ zA zB zC zD zE zF zG zH zI zJ zK zL zM zN zO zP zQ zR zS zT zU zV zW zX zY zZ wA wB wC wD wE wF wG wH wI wJ wK wL wM wN wO wP wQ wR wS wT wU wV wW wX wY wZ uA uB),df,h⟩ R=(jR xR (@kb ⟨oP (some x7) h (@kk ⟨λv1 _=>oP (some x7) h (@kk ⟨λv2 _=>oP (jF prog .quo 3 (.tmp 36) (.const (.int .i64 2)) v2 (.int .i64 2)) h (@kk ⟨λv3 _=>oP (some x7) h (@kk ⟨λv4 _=>oP (jF prog .rem 3 (.tmp 39) (.const (.int .i64 5)) v4 (.int .i64 5)) h (@kk ⟨λv5 _=>((oE (bsE (slT prog 60) 2 [(0,(.string (Tx [112,97,121]))),(1,(.string (Tx [115,104,105,112])))] h) (@kk ⟨λv6 h7=>jD (jC [] h7 []) (@kb ⟨((jK (pp G) (.func (.func 22) #[] #[]) [v1,(.int .i64 2)] h7 (@kk ⟨λv8 h9=>jD (jC [1] h9 []) (@kb ⟨oP (iaV (esz prog 60) v6 v8) h9 (@kk ⟨λv10 _=>oP (jA prog 9 v10 h9) h9 (@kk ⟨λv11 _=>((jK (pp G) (.func (.func 22) #[] #[]) [v3,(.int .i64 6)] h9 (@kk ⟨λv13 h14=>jD (jC [1,2,5,6] h14 [(4,(λh12=>(jA prog 9 v10 h12)),v11)]) (@kb ⟨oP (bdV (plc prog 31) [(0,v11),(1,v13),(2,v5)]) h14 (@kk ⟨λv15 _=>oE (alE (zro prog 31) 31 h14) (@kk ⟨λv16 h17=>jD (jC [] h17 [(4,(λh12=>(jA prog 9 v10 h12)),v11)]) (@kb ⟨oE (stE (szT prog 31) v16 v15 h17) (@kk ⟨λv18 h19=>jD (jC [8,9,5,6,7,1,2,0,3,4,10,11] h19 [(4,(λh12=>(jA prog 9 v10 h12)),v11)]) (@kb ⟨oT (some x0) none h19 (@kk ⟨λv20 h21=>oT (jA prog 31 v16 h21) none h21 (@kk ⟨λv22 h23=>jK (pp G) (.func (.func 24) #[] #[]) [v20,v22] h23 (@kk ⟨λv24 h25=>oT (some x1) none h25 (@kk ⟨λv26 h27=>oT (jA prog 31 v16 h27) none h27 (@kk ⟨λv28 h29=>jK (pp G) (.func (.func 31) #[] #[]) [v26,v28] h29 (@kk ⟨λv30 h31=>R .normal ⟨(gD x0 x1 x2 x3 x4 x5 x6 x7 x8 v16 xA xB xC xD xE xF xG xH xI xJ xK xL xM xN xO xP xQ xR xS xT xU v6 v1 v8 v10 v11 v2 v3 v13 v4 v5 v15 v20 v22 v24 v26 v28 v30 yM yN yO yP yQ yR yS yT yU yV yW yX yY yZ zA zB zC zD zE zF zG zH zI zJ zK zL zM zN zO zP zQ zR zS zT zU zV zW zX zY zZ wA wB wC wD wE wF wG wH wI wJ wK wL wM wN wO wP wQ wR wS wT wU wV wW wX wY wZ uA uB),df,h31⟩⟩)⟩)⟩)⟩)⟩)⟩)⟩)⟩)⟩)⟩)⟩)⟩)⟩))∧(oE (alE (zro prog 31) 31 h9) (@kk ⟨λv32 h33=>jD (jC [] h33 [(4,(λh12=>(jA prog 9 v10 h12)),v11)]) (@kb ⟨jK (pp G) (.func (.func 22) #[] #[]) [v3,(.int .i64 6)] h33 (@kk ⟨λv34 h35=>jD (jC [1,2,5,6] h35 [(4,(λh12=>(jA prog 9 v10 h12)),v11)]) (@kb ⟨oP (bdV (plc prog 31) [(0,v11),(1,v34),(2,v5)]) h35 (@kk ⟨λv36 _=>oE (stE (szT prog 31) v32 v36 h35) (@kk ⟨λv37 h38=>jD (jC [8,9,5,6,7,1,2,0,3,4,10,11] h38 [(4,(λh12=>(jA prog 9 v10 h12)),v11)]) (@kb ⟨oT (some x0) none h38 (@kk ⟨λv39 h40=>oT (jA prog 31 v32 h40) none h40 (@kk ⟨λv41 h42=>jK (pp G) (.func (.func 24) #[] #[]) [v39,v41] h42 (@kk ⟨λv43 h44=>oT (some x1) none h44 (@kk ⟨λv45 h46=>oT (jA prog 31 v32 h46) none h46 (@kk ⟨λv47 h48=>jK (pp G) (.func (.func 31) #[] #[]) [v45,v47] h48 (@kk ⟨λv49 h50=>R .normal ⟨(gD x0 x1 x2 x3 x4 x5 x6 x7 x8 v32 xA xB xC xD xE xF xG xH xI xJ xK xL xM xN xO xP xQ xR xS xT xU v6 v1 v8 v10 v11 v2 v3 v34 v4 v5 v36 v39 v41 v43 v45 v47 v49 yM yN yO yP yQ yR yS yT yU yV yW yX yY yZ zA zB zC zD zE zF zG zH zI zJ zK zL zM zN zO zP zQ zR zS zT zU zV zW zX zY zZ wA wB wC wD wE wF wG wH wI wJ wK wL wM wN wO wP wQ wR wS wT wU wV wW wX wY wZ uA uB),df,h50⟩⟩)⟩)⟩)⟩)⟩)⟩)⟩)⟩)⟩)⟩)⟩)⟩)⟩)))⟩)⟩)⟩)⟩))∧(oE (alE (zro prog 31) 31 h7) (@kk ⟨λv51 h52=>jD (jC [] h52 []) (@kb ⟨jK (pp G) (.func (.func 22) #[] #[]) [v1,(.int .i64 2)] h52 (@kk ⟨λv53 h54=>jD (jC [1] h54 []) (@kb ⟨oP (iaV (esz prog 60) v6 v53) h54 (@kk ⟨λv55 _=>oP (jA prog 9 v55 h54) h54 (@kk ⟨λv56 _=>jK (pp G) (.func (.func 22) #[] #[]) [v3,(.int .i64 6)] h54 (@kk ⟨λv58 h59=>jD (jC [1,2,5,6] h59 [(4,(λh57=>(jA prog 9 v55 h57)),v56)]) (@kb ⟨oP (bdV (plc prog 31) [(0,v56),(1,v58),(2,v5)]) h59 (@kk ⟨λv60 _=>oE (stE (szT prog 31) v51 v60 h59) (@kk ⟨λv61 h62=>jD (jC [8,9,5,6,7,1,2,0,3,4,10,11] h62 [(4,(λh57=>(jA prog 9 v55 h57)),v56)]) (@kb ⟨oT (some x0) none h62 (@kk ⟨λv63 h64=>oT (jA prog 31 v51 h64) none h64 (@kk ⟨λv65 h66=>jK (pp G) (.func (.func 24) #[] #[]) [v63,v65] h66 (@kk ⟨λv67 h68=>oT (some x1) none h68 (@kk ⟨λv69 h70=>oT (jA prog 31 v51 h70) none h70 (@kk ⟨λv71 h72=>jK (pp G) (.func (.func 31) #[] #[]) [v69,v71] h72 (@kk ⟨λv73 h74=>R .normal ⟨(gD x0 x1 x2 x3 x4 x5 x6 x7 x8 v51 xA xB xC xD xE xF xG xH xI xJ xK xL xM xN xO xP xQ xR xS xT xU v6 v1 v53 v55 v56 v2 v3 v58 v4 v5 v60 v63 v65 v67 v69 v71 v73 yM yN yO yP yQ yR yS yT yU yV yW yX yY yZ zA zB zC zD zE zF zG zH zI zJ zK zL zM zN zO zP zQ zR zS zT zU zV zW zX zY zZ wA wB wC wD wE wF wG wH wI wJ wK wL wM wN wO wP wQ wR wS wT wU wV wW wX wY wZ uA uB),df,h74⟩⟩)⟩)⟩)⟩)⟩)⟩)⟩)⟩)⟩)⟩)⟩)⟩)⟩)⟩)⟩)⟩)⟩)))⟩)⟩))∧(((jK (pp G) (.func (.func 22) #[] #[]) [v1,(.int .i64 2)] h (@kk ⟨λv75 h76=>jD (jC [1] h76 []) (@kb ⟨((oE (bsE (slT prog 60) 2 [(0,(.string (Tx [112,97,121]))),(1,(.string (Tx [115,104,105,112])))] h76) (@kk ⟨λv77 h78=>jD (jC [] h78 []) (@kb ⟨oP (iaV (esz prog 60) v77 v75) h78 (@kk ⟨λv79 _=>oP (jA prog 9 v79 h78) h78 (@kk ⟨λv80 _=>((jK (pp G) (.func (.func 22) #[] #[]) [v3,(.int .i64 6)] h78 (@kk ⟨λv82 h83=>jD (jC [1,2,5,6] h83 [(4,(λh81=>(jA prog 9 v79 h81)),v80)]) (@kb ⟨oP (bdV (plc prog 31) [(0,v80),(1,v82),(2,v5)]) h83 (@kk ⟨λv84 _=>oE (alE (zro prog 31) 31 h83) (@kk ⟨λv85 h86=>jD (jC [] h86 [(4,(λh81=>(jA prog 9 v79 h81)),v80)]) (@kb ⟨oE (stE (szT prog 31) v85 v84 h86) (@kk ⟨λv87 h88=>jD (jC [8,9,5,6,7,1,2,0,3,4,10,11] h88 [(4,(λh81=>(jA prog 9 v79 h81)),v80)]) (@kb ⟨oT (some x0) none h88 (@kk ⟨λv89 h90=>oT (jA prog 31 v85 h90) none h90 (@kk ⟨λv91 h92=>jK (pp G) (.func (.func 24) #[] #[]) [v89,v91] h92 (@kk ⟨λv93 h94=>oT (some x1) none h94 (@kk ⟨λv95 h96=>oT (jA prog 31 v85 h96) none h96 (@kk ⟨λv97 h98=>jK (pp G) (.func (.func 31) #[] #[]) [v95,v97] h98 (@kk ⟨λv99 h100=>R .normal ⟨(gD x0 x1 x2 x3 x4 x5 x6 x7 x8 v85 xA xB xC xD xE xF xG xH xI xJ xK xL xM xN xO xP xQ xR xS xT xU v77 v1 v75 v79 v80 v2 v3 v82 v4 v5 v84 v89 v91 v93 v95 v97 v99 yM yN yO yP yQ yR yS yT yU yV yW yX yY yZ zA zB zC zD zE zF zG zH zI zJ zK zL zM zN zO zP zQ zR zS zT zU zV zW zX zY zZ wA wB wC wD wE wF wG wH wI wJ wK wL wM wN wO wP wQ wR wS wT wU wV wW wX wY wZ uA uB),df,h100⟩⟩)⟩)⟩)⟩)⟩)⟩)⟩)⟩)⟩)⟩)⟩)⟩)⟩))∧(oE (alE (zro prog 31) 31 h78) (@kk ⟨λv101 h102=>jD (jC [] h102 [(4,(λh81=>(jA prog 9 v79 h81)),v80)]) (@kb ⟨jK (pp G) (.func (.func 22) #[] #[]) [v3,(.int .i64 6)] h102 (@kk ⟨λv103 h104=>jD (jC [1,2,5,6] h104 [(4,(λh81=>(jA prog 9 v79 h81)),v80)]) (@kb ⟨oP (bdV (plc prog 31) [(0,v80),(1,v103),(2,v5)]) h104 (@kk ⟨λv105 _=>oE (stE (szT prog 31) v101 v105 h104) (@kk ⟨λv106 h107=>jD (jC [8,9,5,6,7,1,2,0,3,4,10,11] h107 [(4,(λh81=>(jA prog 9 v79 h81)),v80)]) (@kb ⟨oT (some x0) none h107 (@kk ⟨λv108 h109=>oT (jA prog 31 v101 h109) none h109 (@kk ⟨λv110 h111=>jK (pp G) (.func (.func 24) #[] #[]) [v108,v110] h111 (@kk ⟨λv112 h113=>oT (some x1) none h113 (@kk ⟨λv114 h115=>oT (jA prog 31 v101 h115) none h115 (@kk ⟨λv116 h117=>jK (pp G) (.func (.func 31) #[] #[]) [v114,v116] h117 (@kk ⟨λv118 h119=>R .normal ⟨(gD x0 x1 x2 x3 x4 x5 x6 x7 x8 v101 xA xB xC xD xE xF xG xH xI xJ xK xL xM xN xO xP xQ xR xS xT xU v77 v1 v75 v79 v80 v2 v3 v103 v4 v5 v105 v108 v110 v112 v114 v116 v118 yM yN yO yP yQ yR yS yT yU yV yW yX yY yZ zA zB zC zD zE zF zG zH zI zJ zK zL zM zN zO zP zQ zR zS zT zU zV zW zX zY zZ wA wB wC wD wE wF wG wH wI wJ wK wL wM wN wO wP wQ wR wS wT wU wV wW wX wY wZ uA uB),df,h119⟩⟩)⟩)⟩)⟩)⟩)⟩)⟩)⟩)⟩)⟩)⟩)⟩)⟩)))⟩)⟩)⟩)⟩))∧(((jK (pp G) (.func (.func 22) #[] #[]) [v3,(.int .i64 6)] h76 (@kk ⟨λv120 h121=>jD (jC [1,2,5,6] h121 []) (@kb ⟨((oE (bsE (slT prog 60) 2 [(0,(.string (Tx [112,97,121]))),(1,(.string (Tx [115,104,105,112])))] h121) (@kk ⟨λv122 h123=>jD (jC [] h123 []) (@kb ⟨oP (iaV (esz prog 60) v122 v75) h123 (@kk ⟨λv124 _=>oP (jA prog 9 v124 h123) h123 (@kk ⟨λv125 _=>oP (bdV (plc prog 31) [(0,v125),(1,v120),(2,v5)]) h123 (@kk ⟨λv127 _=>oE (alE (zro prog 31) 31 h123) (@kk ⟨λv128 h129=>jD (jC [] h129 [(4,(λh126=>(jA prog 9 v124 h126)),v125)]) (@kb ⟨oE (stE (szT prog 31) v128 v127 h129) (@kk ⟨λv130 h131=>jD (jC [8,9,5,6,7,1,2,0,3,4,10,11] h131 [(4,(λh126=>(jA prog 9 v124 h126)),v125)]) (@kb ⟨oT (some x0) none h131 (@kk ⟨λv132 h133=>oT (jA prog 31 v128 h133) none h133 (@kk ⟨λv134 h135=>jK (pp G) (.func (.func 24) #[] #[]) [v132,v134] h135 (@kk ⟨λv136 h137=>oT (some x1) none h137 (@kk ⟨λv138 h139=>oT (jA prog 31 v128 h139) none h139 (@kk ⟨λv140 h141=>jK (pp G) (.func (.func 31) #[] #[]) [v138,v140] h141 (@kk ⟨λv142 h143=>R .normal ⟨(gD x0 x1 x2 x3 x4 x5 x6 x7 x8 v128 xA xB xC xD xE xF xG xH xI xJ xK xL xM xN xO xP xQ xR xS xT xU v122 v1 v75 v124 v125 v2 v3 v120 v4 v5 v127 v132 v134 v136 v138 v140 v142 yM yN yO yP yQ yR yS yT yU yV yW yX yY yZ zA zB zC zD zE zF zG zH zI zJ zK zL zM zN zO zP zQ zR zS zT zU zV zW zX zY zZ wA wB wC wD wE wF wG wH wI wJ wK wL wM wN wO wP wQ wR wS wT wU wV wW wX wY wZ uA uB),df,h143⟩⟩)⟩)⟩)⟩)⟩)⟩)⟩)⟩)⟩)⟩)⟩)⟩)⟩)⟩)⟩))∧(oE (alE (zro prog 31) 31 h121) (@kk ⟨λv144 h145=>jD (jC [] h145 []) (@kb ⟨oE (bsE (slT prog 60) 2 [(0,(.string (Tx [112,97,121]))),(1,(.string (Tx [115,104,105,112])))] h145) (@kk ⟨λv146 h147=>jD (jC [] h147 []) (@kb ⟨oP (iaV (esz prog 60) v146 v75) h147 (@kk ⟨λv148 _=>oP (jA prog 9 v148 h147) h147 (@kk ⟨λv149 _=>oP (bdV (plc prog 31) [(0,v149),(1,v120),(2,v5)]) h147 (@kk ⟨λv151 _=>oE (stE (szT prog 31) v144 v151 h147) (@kk ⟨λv152 h153=>jD (jC [8,9,5,6,7,1,2,0,3,4,10,11] h153 [(4,(λh150=>(jA prog 9 v148 h150)),v149)]) (@kb ⟨oT (some x0) none h153 (@kk ⟨λv154 h155=>oT (jA prog 31 v144 h155) none h155 (@kk ⟨λv156 h157=>jK (pp G) (.func (.func 24) #[] #[]) [v154,v156] h157 (@kk ⟨λv158 h159=>oT (some x1) none h159 (@kk ⟨λv160 h161=>oT (jA prog 31 v144 h161) none h161 (@kk ⟨λv162 h163=>jK (pp G) (.func (.func 31) #[] #[]) [v160,v162] h163 (@kk ⟨λv164 h165=>R .normal ⟨(gD x0 x1 x2 x3 x4 x5 x6 x7 x8 v144 xA xB xC xD xE xF xG xH xI xJ xK xL xM xN xO xP xQ xR xS xT xU v146 v1 v75 v148 v149 v2 v3 v120 v4 v5 v151 v154 v156 v158 v160 v162 v164 yM yN yO yP yQ yR yS yT yU yV yW yX yY yZ zA zB zC zD zE zF zG zH zI zJ zK zL zM zN zO zP zQ zR zS zT zU zV zW zX zY zZ wA wB wC wD wE wF wG wH wI wJ wK wL wM wN wO wP wQ wR wS wT wU wV wW wX wY wZ uA uB),df,h165⟩⟩)⟩)⟩)⟩)⟩)⟩)⟩)⟩)⟩)⟩)⟩)⟩)⟩)⟩)⟩)))⟩)⟩))∧(oE (alE (zro prog 31) 31 h76) (@kk ⟨λv166 h167=>jD (jC [] h167 []) (@kb ⟨((oE (bsE (slT prog 60) 2 [(0,(.string (Tx [112,97,121]))),(1,(.string (Tx [115,104,105,112])))] h167) (@kk ⟨λv168 h169=>jD (jC [] h169 []) (@kb ⟨oP (iaV (esz prog 60) v168 v75) h169 (@kk ⟨λv170 _=>oP (jA prog 9 v170 h169) h169 (@kk ⟨λv171 _=>jK (pp G) (.func (.func 22) #[] #[]) [v3,(.int .i64 6)] h169 (@kk ⟨λv173 h174=>jD (jC [1,2,5,6] h174 [(4,(λh172=>(jA prog 9 v170 h172)),v171)]) (@kb ⟨oP (bdV (plc prog 31) [(0,v171),(1,v173),(2,v5)]) h174 (@kk ⟨λv175 _=>oE (stE (szT prog 31) v166 v175 h174) (@kk ⟨λv176 h177=>jD (jC [8,9,5,6,7,1,2,0,3,4,10,11] h177 [(4,(λh172=>(jA prog 9 v170 h172)),v171)]) (@kb ⟨oT (some x0) none h177 (@kk ⟨λv178 h179=>oT (jA prog 31 v166 h179) none h179 (@kk ⟨λv180 h181=>jK (pp G) (.func (.func 24) #[] #[]) [v178,v180] h181 (@kk ⟨λv182 h183=>oT (some x1) none h183 (@kk ⟨λv184 h185=>oT (jA prog 31 v166 h185) none h185 (@kk ⟨λv186 h187=>jK (pp G) (.func (.func 31) #[] #[]) [v184,v186] h187 (@kk ⟨λv188 h189=>R .normal ⟨(gD x0 x1 x2 x3 x4 x5 x6 x7 x8 v166 xA xB xC xD xE xF xG xH xI xJ xK xL xM xN xO xP xQ xR xS xT xU v168 v1 v75 v170 v171 v2 v3 v173 v4 v5 v175 v178 v180 v182 v184 v186 v188 yM yN yO yP yQ yR yS yT yU yV yW yX yY yZ zA zB zC zD zE zF zG zH zI zJ zK zL zM zN zO zP zQ zR zS zT zU zV zW zX zY zZ wA wB wC wD wE wF wG wH wI wJ wK wL wM wN wO wP wQ wR wS wT wU wV wW wX wY wZ uA uB),df,h189⟩⟩)⟩)⟩)⟩)⟩)⟩)⟩)⟩)⟩)⟩)⟩)⟩)⟩)⟩)⟩))∧(jK (pp G) (.func (.func 22) #[] #[]) [v3,(.int .i64 6)] h167 (@kk ⟨λv190 h191=>jD (jC [1,2,5,6] h191 []) (@kb ⟨oE (bsE (slT prog 60) 2 [(0,(.string (Tx [112,97,121]))),(1,(.string (Tx [115,104,105,112])))] h191) (@kk ⟨λv192 h193=>jD (jC [] h193 []) (@kb ⟨oP (iaV (esz prog 60) v192 v75) h193 (@kk ⟨λv194 _=>oP (jA prog 9 v194 h193) h193 (@kk ⟨λv195 _=>oP (bdV (plc prog 31) [(0,v195),(1,v190),(2,v5)]) h193 (@kk ⟨λv197 _=>oE (stE (szT prog 31) v166 v197 h193) (@kk ⟨λv198 h199=>jD (jC [8,9,5,6,7,1,2,0,3,4,10,11] h199 [(4,(λh196=>(jA prog 9 v194 h196)),v195)]) (@kb ⟨oT (some x0) none h199 (@kk ⟨λv200 h201=>oT (jA prog 31 v166 h201) none h201 (@kk ⟨λv202 h203=>jK (pp G) (.func (.func 24) #[] #[]) [v200,v202] h203 (@kk ⟨λv204 h205=>oT (some x1) none h205 (@kk ⟨λv206 h207=>oT (jA prog 31 v166 h207) none h207 (@kk ⟨λv208 h209=>jK (pp G) (.func (.func 31) #[] #[]) [v206,v208] h209 (@kk ⟨λv210 h211=>R .normal ⟨(gD x0 x1 x2 x3 x4 x5 x6 x7 x8 v166 xA xB xC xD xE xF xG xH xI xJ xK xL xM xN xO xP xQ xR xS xT xU v192 v1 v75 v194 v195 v2 v3 v190 v4 v5 v197 v200 v202 v204 v206 v208 v210 yM yN yO yP yQ yR yS yT yU yV yW yX yY yZ zA zB zC zD zE zF zG zH zI zJ zK zL zM zN zO zP zQ zR zS zT zU zV zW zX zY zZ wA wB wC wD wE wF wG wH wI wJ wK wL wM wN wO wP wQ wR wS wT wU wV wW wX wY wZ uA uB),df,h211⟩⟩)⟩)⟩)⟩)⟩)⟩)⟩)⟩)⟩)⟩)⟩)⟩)⟩)⟩)⟩)))⟩)⟩)))))⟩)⟩))∧(oE (alE (zro prog 31) 31 h) (@kk ⟨λv212 h213=>jD (jC [] h213 []) (@kb ⟨((oE (bsE (slT prog 60) 2 [(0,(.string (Tx [112,97,121]))),(1,(.string (Tx [115,104,105,112])))] h213) (@kk ⟨λv214 h215=>jD (jC [] h215 []) (@kb ⟨jK (pp G) (.func (.func 22) #[] #[]) [v1,(.int .i64 2)] h215 (@kk ⟨λv216 h217=>jD (jC [1] h217 []) (@kb ⟨oP (iaV (esz prog 60) v214 v216) h217 (@kk ⟨λv218 _=>oP (jA prog 9 v218 h217) h217 (@kk ⟨λv219 _=>jK (pp G) (.func (.func 22) #[] #[]) [v3,(.int .i64 6)] h217 (@kk ⟨λv221 h222=>jD (jC [1,2,5,6] h222 [(4,(λh220=>(jA prog 9 v218 h220)),v219)]) (@kb ⟨oP (bdV (plc prog 31) [(0,v219),(1,v221),(2,v5)]) h222 (@kk ⟨λv223 _=>oE (stE (szT prog 31) v212 v223 h222) (@kk ⟨λv224 h225=>jD (jC [8,9,5,6,7,1,2,0,3,4,10,11] h225 [(4,(λh220=>(jA prog 9 v218 h220)),v219)]) (@kb ⟨oT (some x0) none h225 (@kk ⟨λv226 h227=>oT (jA prog 31 v212 h227) none h227 (@kk ⟨λv228 h229=>jK (pp G) (.func (.func 24) #[] #[]) [v226,v228] h229 (@kk ⟨λv230 h231=>oT (some x1) none h231 (@kk ⟨λv232 h233=>oT (jA prog 31 v212 h233) none h233 (@kk ⟨λv234 h235=>jK (pp G) (.func (.func 31) #[] #[]) [v232,v234] h235 (@kk ⟨λv236 h237=>R .normal ⟨(gD x0 x1 x2 x3 x4 x5 x6 x7 x8 v212 xA xB xC xD xE xF xG xH xI xJ xK xL xM xN xO xP xQ xR xS xT xU v214 v1 v216 v218 v219 v2 v3 v221 v4 v5 v223 v226 v228 v230 v232 v234 v236 yM yN yO yP yQ yR yS yT yU yV yW yX yY yZ zA zB zC zD zE zF zG zH zI zJ zK zL zM zN zO zP zQ zR zS zT zU zV zW zX zY zZ wA wB wC wD wE wF wG wH wI wJ wK wL wM wN wO wP wQ wR wS wT wU wV wW wX wY wZ uA uB),df,h237⟩⟩)⟩)⟩)⟩)⟩)⟩)⟩)⟩)⟩)⟩)⟩)⟩)⟩)⟩)⟩)⟩)⟩))∧(jK (pp G) (.func (.func 22) #[] #[]) [v1,(.int .i64 2)] h213 (@kk ⟨λv238 h239=>jD (jC [1] h239 []) (@kb ⟨((oE (bsE (slT prog 60) 2 [(0,(.string (Tx [112,97,121]))),(1,(.string (Tx [115,104,105,112])))] h239) (@kk ⟨λv240 h241=>jD (jC [] h241 []) (@kb ⟨oP (iaV (esz prog 60) v240 v238) h241 (@kk ⟨λv242 _=>oP (jA prog 9 v242 h241) h241 (@kk ⟨λv243 _=>jK (pp G) (.func (.func 22) #[] #[]) [v3,(.int .i64 6)] h241 (@kk ⟨λv245 h246=>jD (jC [1,2,5,6] h246 [(4,(λh244=>(jA prog 9 v242 h244)),v243)]) (@kb ⟨oP (bdV (plc prog 31) [(0,v243),(1,v245),(2,v5)]) h246 (@kk ⟨λv247 _=>oE (stE (szT prog 31) v212 v247 h246) (@kk ⟨λv248 h249=>jD (jC [8,9,5,6,7,1,2,0,3,4,10,11] h249 [(4,(λh244=>(jA prog 9 v242 h244)),v243)]) (@kb ⟨oT (some x0) none h249 (@kk ⟨λv250 h251=>oT (jA prog 31 v212 h251) none h251 (@kk ⟨λv252 h253=>jK (pp G) (.func (.func 24) #[] #[]) [v250,v252] h253 (@kk ⟨λv254 h255=>oT (some x1) none h255 (@kk ⟨λv256 h257=>oT (jA prog 31 v212 h257) none h257 (@kk ⟨λv258 h259=>jK (pp G) (.func (.func 31) #[] #[]) [v256,v258] h259 (@kk ⟨λv260 h261=>R .normal ⟨(gD x0 x1 x2 x3 x4 x5 x6 x7 x8 v212 xA xB xC xD xE xF xG xH xI xJ xK xL xM xN xO xP xQ xR xS xT xU v240 v1 v238 v242 v243 v2 v3 v245 v4 v5 v247 v250 v252 v254 v256 v258 v260 yM yN yO yP yQ yR yS yT yU yV yW yX yY yZ zA zB zC zD zE zF zG zH zI zJ zK zL zM zN zO zP zQ zR zS zT zU zV zW zX zY zZ wA wB wC wD wE wF wG wH wI wJ wK wL wM wN wO wP wQ wR wS wT wU wV wW wX wY wZ uA uB),df,h261⟩⟩)⟩)⟩)⟩)⟩)⟩)⟩)⟩)⟩)⟩)⟩)⟩)⟩)⟩)⟩))∧(jK (pp G) (.func (.func 22) #[] #[]) [v3,(.int .i64 6)] h239 (@kk ⟨λv262 h263=>jD (jC [1,2,5,6] h263 []) (@kb ⟨oE (bsE (slT prog 60) 2 [(0,(.string (Tx [112,97,121]))),(1,(.string (Tx [115,104,105,112])))] h263) (@kk ⟨λv264 h265=>jD (jC [] h265 []) (@kb ⟨oP (iaV (esz prog 60) v264 v238) h265 (@kk ⟨λv266 _=>oP (jA prog 9 v266 h265) h265 (@kk ⟨λv267 _=>oP (bdV (plc prog 31) [(0,v267),(1,v262),(2,v5)]) h265 (@kk ⟨λv269 _=>oE (stE (szT prog 31) v212 v269 h265) (@kk ⟨λv270 h271=>jD (jC [8,9,5,6,7,1,2,0,3,4,10,11] h271 [(4,(λh268=>(jA prog 9 v266 h268)),v267)]) (@kb ⟨oT (some x0) none h271 (@kk ⟨λv272 h273=>oT (jA prog 31 v212 h273) none h273 (@kk ⟨λv274 h275=>jK (pp G) (.func (.func 24) #[] #[]) [v272,v274] h275 (@kk ⟨λv276 h277=>oT (some x1) none h277 (@kk ⟨λv278 h279=>oT (jA prog 31 v212 h279) none h279 (@kk ⟨λv280 h281=>jK (pp G) (.func (.func 31) #[] #[]) [v278,v280] h281 (@kk ⟨λv282 h283=>R .normal ⟨(gD x0 x1 x2 x3 x4 x5 x6 x7 x8 v212 xA xB xC xD xE xF xG xH xI xJ xK xL xM xN xO xP xQ xR xS xT xU v264 v1 v238 v266 v267 v2 v3 v262 v4 v5 v269 v272 v274 v276 v278 v280 v282 yM yN yO yP yQ yR yS yT yU yV yW yX yY yZ zA zB zC zD zE zF zG zH zI zJ zK zL zM zN zO zP zQ zR zS zT zU zV zW zX zY zZ wA wB wC wD wE wF wG wH wI wJ wK wL wM wN wO wP wQ wR wS wT wU wV wW wX wY wZ uA uB),df,h283⟩⟩)⟩)⟩)⟩)⟩)⟩)⟩)⟩)⟩)⟩)⟩)⟩)⟩)⟩)⟩)))⟩)⟩)))⟩)⟩)))))⟩)⟩)⟩)⟩)⟩)⟩) (@kb ⟨oT (jF prog .eql 3 (.tmp 26) (.const (.int .i64 3)) xQ (.int .i64 3)) none h (@kk ⟨λv284 h285=>oT (some v284) none h285 (@kk ⟨λv286 h287=>jR v286 (@kb ⟨oT (some x0) none h287 (@kk ⟨λv288 h289=>oT (some x7) none h289 (@kk ⟨λv290 h291=>jK (pp G) (.func (.func 22) #[] #[]) [v290,(.int .i64 7)] h291 (@kk ⟨λv292 h293=>jK (pp G) (.func (.func 25) #[] #[]) [v288,v292] h293 (@kk ⟨λv294 h295=>oT (some x1) none h295 (@kk ⟨λv296 h297=>oT (some x7) none h297 (@kk ⟨λv298 h299=>jK (pp G) (.func (.func 22) #[] #[]) [v298,(.int .i64 7)] h299 (@kk ⟨λv300 h301=>jK (pp G) (.func (.func 32) #[] #[]) [v296,v300] h301 (@kk ⟨λv302 h303=>R .normal ⟨(gD x0 x1 x2 x3 x4 x5 x6 x7 x8 x9 xA xB xC xD xE xF xG xH xI xJ xK xL xM xN xO xP xQ xR xS xT xU xV xW xX xY xZ yA yB yC yD yE yF yG yH yI yJ yK yL v286 v284 v288 v290 v292 v294 v296 v298 v300 v302 yW yX yY yZ zA zB zC zD zE zF zG zH zI zJ zK zL zM zN zO zP zQ zR zS zT zU zV zW zX zY zZ wA wB wC wD wE wF wG wH wI wJ wK wL wM wN wO wP wQ wR wS wT wU wV wW wX wY wZ uA uB),df,h303⟩⟩)⟩)⟩)⟩)⟩)⟩)⟩)⟩)⟩) (@kb ⟨oT (jF prog .eql 3 (.tmp 26) (.const (.int .i64 4)) xQ (.int .i64 4)) none h287 (@kk ⟨λv304 h305=>oT (some v304) none h305 (@kk ⟨λv306 h307=>jR v306 (@kb ⟨vc3 (pp G) ro fU0 ⟨(gD x0 x1 x2 x3 x4 x5 x6 x7 x8 x9 xA xB xC xD xE xF xG xH xI xJ xK xL xM xN xO xP xQ xR xS xT xU xV xW xX xY xZ yA yB yC yD yE yF yG yH yI yJ yK yL v286 v284 yO yP yQ yR yS yT yU yV v306 v304 yY yZ zA zB zC zD zE zF zG zH zI zJ zK zL zM zN zO zP zQ zR zS zT zU zV zW zX zY zZ wA wB wC wD wE wF wG wH wI wJ wK wL wM wN wO wP wQ wR wS wT wU wV wW wX wY wZ uA uB),df,h307⟩ (@kR ⟨R⟩)⟩) (@kb ⟨oT (jF prog .eql 3 (.tmp 26) (.const (.int .i64 5)) xQ (.int .i64 5)) none h307 (@kk ⟨λv308 h309=>oT (some v308) none h309 (@kk ⟨λv310 h311=>vc3 (pp G) ro fU0 ⟨(gD x0 x1 x2 x3 x4 x5 x6 x7 x8 x9 xA xB xC xD xE xF xG xH xI xJ xK xL xM xN xO xP xQ xR xS xT xU xV xW xX xY xZ yA yB yC yD yE yF yG yH yI yJ yK yL v286 v284 yO yP yQ yR yS yT yU yV v310 v304 v308 yZ zA zB zC zD zE zF zG zH zI zJ zK zL zM zN zO zP zQ zR zS zT zU zV zW zX zY zZ wA wB wC wD wE wF wG wH wI wJ wK wL wM wN wO wP wQ wR wS wT wU wV wW wX wY wZ uA uB),df,h311⟩ (@kR ⟨R⟩)⟩)⟩)⟩)⟩)⟩)⟩)⟩)⟩)⟩)):=Z7
@[push_cast]theorem mQ1 (G:Nat)(ro:Z8 Nat)(df:List Nat)(h:jB)(x0 x1 x2 x3 x4 x5 x6 x7 x8 x9 xA xB xC xD xE xF xG xH xI xJ xK xL xM xN xO xP xQ xR xS xT xU xV xW xX xY xZ yA yB yC yD yE yF yG yH yI yJ yK yL yM yN yO yP yQ yR yS yT yU yV yW yX yY yZ zA zB zC zD zE zF zG zH zI zJ zK zL zM zN zO zP zQ zR zS zT zU zV zW zX zY zZ wA wB wC wD wE wF wG wH wI wJ wK wL wM wN wO wP wQ wR wS wT wU wV wW wX wY wZ uA uB:Z6)(R:jL→S→Prop):vc3 (pp G) ro cA0 ⟨(gD x0 x1 x2 x3 x4 x5 x6 x7 x8 x9 xA xB xC xD xE xF xG xH xI xJ xK xL xM xN xO xP xQ xR xS xT xU xV xW xX xY xZ yA yB yC yD yE yF yG yH yI yJ yK yL yM yN yO yP yQ yR yS yT yU yV yW yX yY yZ zA zB zC zD zE zF zG zH zI zJ zK zL zM zN zO zP zQ zR zS zT zU zV zW zX zY zZ wA wB wC wD wE wF wG wH wI wJ wK wL wM wN wO wP wQ wR wS wT wU wV wW wX wY wZ uA uB),df,h⟩ R=(oT (some (.bool true)) none h (@kk ⟨λv1 h2=>R .ret ⟨(gD x0 x1 x2 x3 x4 x5 v1 x7 x8 x9 xA xB xC xD xE xF xG xH xI xJ xK xL xM xN xO xP xQ xR xS xT xU xV xW xX xY xZ yA yB yC yD yE yF yG yH yI yJ yK yL yM yN yO yP yQ yR yS yT yU yV yW yX yY yZ zA zB zC zD zE zF zG zH zI zJ zK zL zM zN zO zP zQ zR zS zT zU zV zW zX zY zZ wA wB wC wD wE wF wG wH wI wJ wK wL wM wN wO wP wQ wR wS wT wU wV wW wX wY wZ uA uB),df,h2⟩⟩)):=Z7
@[push_cast]theorem nJ0 (G:Nat)(ro:Z8 Nat)(df:List Nat)(h:jB)(x0 x1 x2 x3 x4 x5 x6 x7 x8 x9 xA xB xC xD xE xF xG xH xI xJ xK xL xM xN xO xP xQ xR xS xT xU xV xW xX xY xZ yA yB yC yD yE yF yG yH yI yJ yK yL yM yN yO yP yQ yR yS yT yU yV yW yX yY yZ zA zB zC zD zE zF zG zH zI zJ zK zL zM zN zO zP zQ zR zS zT zU zV:Z6)(R:jL→S→Prop):vc3 (pp G) ro tU0 ⟨(F84 x0 x1 x2 x3 x4 x5 x6 x7 x8 x9 xA xB xC xD xE xF xG xH xI xJ xK xL xM xN xO xP xQ xR xS xT xU xV xW xX xY xZ yA yB yC yD yE yF yG yH yI yJ yK yL yM yN yO yP yQ yR yS yT yU yV yW yX yY yZ zA zB zC zD zE zF zG zH zI zJ zK zL zM zN zO zP zQ zR zS zT zU zV),df,h⟩ R=(oT (some x9) none h (@kk ⟨λv1 h2=>oT (some x5) none h2 (@kk ⟨λv3 h4=>oT (lnB (lnT prog 36) v3) none h4 (@kk ⟨λv5 h6=>oT (jF prog .lss 3 (.tmp 39) (.tmp 41) v1 v5) none h6 (@kk ⟨λv7 h8=>jR v7 (@kb ⟨oP (some x5) h8 (@kk ⟨λv9 _=>oP (some x9) h8 (@kk ⟨λv10 _=>oP (iaV (esz prog 36) v9 v10) h8 (@kk ⟨λv11 _=>oP (faV (fld prog 49 0) v11) h8 (@kk ⟨λv12 _=>oP (jA prog 4 v12 h8) h8 (@kk ⟨λv13 _=>oP (some x6) h8 (@kk ⟨λv15 _=>oP (some x9) h8 (@kk ⟨λv16 _=>oP (iaV (esz prog 57) v15 v16) h8 (@kk ⟨λv17 _=>oP (faV (fld prog 62 0) v17) h8 (@kk ⟨λv18 _=>oP (jA prog 4 v18 h8) h8 (@kk ⟨λv19 _=>oP (jF prog .neq 4 (.tmp 49) (.tmp 54) v13 v19) h8 (@kk ⟨λv21 _=>oP (some v21) h8 (@kk ⟨λv22 _=>gP v22 false (some x5) h8 (@kk ⟨λv23 _=>gP v22 false (some x9) h8 (@kk ⟨λv24 _=>gP v22 false (iaV (esz prog 36) v23 v24) h8 (@kk ⟨λv25 _=>gP v22 false (faV (fld prog 49 1) v25) h8 (@kk ⟨λv26 _=>gRd v22 false (jA prog 31 v26 h8) 16 (λh28=>(jA prog 31 v26 h28)) h8 (@ke ⟨λv27 e29=>gP v22 false (some x6) h8 (@kk ⟨λv30 _=>gP v22 false (some x9) h8 (@kk ⟨λv31 _=>gP v22 false (iaV (esz prog 57) v30 v31) h8 (@kk ⟨λv32 _=>gP v22 false (faV (fld prog 62 1) v32) h8 (@kk ⟨λv33 _=>gRd v22 false (jA prog 31 v33 h8) 21 (λh35=>(jA prog 31 v33 h35)) h8 (@ke ⟨λv34 e36=>gP v22 false (jF prog .neq 31 (.tmp 61) (.tmp 66) v27 v34) h8 (@kk ⟨λv37 _=>oP (kI v22 (.bool true) v37) h8 (@kk ⟨λv38 _=>jR v38 (@kb ⟨oT (some (.bool false)) none h8 (@kk ⟨λv39 h40=>R .ret ⟨(F84 x0 x1 x2 x3 v39 x5 x6 x7 x8 x9 xA xB xC xD xE xF xG xH xI xJ xK xL xM xN xO xP xQ xR xS xT xU xV xW xX xY xZ yA yB yC v1 v3 v5 v7 yH yI v9 v10 v11 v12 v13 v15 v16 v17 v18 v19 v21 v22 v23 v24 v25 v26 v27 v30 v31 v32 v33 v34 v37 v38 zH zI zJ zK zL zM zN zO zP zQ zR zS zT zU zV),df,h40⟩⟩)⟩) (@kb ⟨oT (some x9) none h8 (@kk ⟨λv41 h42=>oT (jF prog .add 3 (.tmp 43) (.const (.int .i64 1)) v41 (.int .i64 1)) none h42 (@kk ⟨λv43 h44=>oT (some v43) none h44 (@kk ⟨λv45 h46=>R .normal ⟨(F84 x0 x1 x2 x3 x4 x5 x6 x7 x8 v45 xA xB xC xD xE xF xG xH xI xJ xK xL xM xN xO xP xQ xR xS xT xU xV xW xX xY xZ yA yB yC v1 v3 v5 v7 v41 v43 v9 v10 v11 v12 v13 v15 v16 v17 v18 v19 v21 v22 v23 v24 v25 v26 v27 v30 v31 v32 v33 v34 v37 v38 zH zI zJ zK zL zM zN zO zP zQ zR zS zT zU zV),df,h46⟩⟩)⟩)⟩)⟩)⟩)⟩)⟩)⟩)⟩)⟩)⟩)⟩)⟩)⟩)⟩)⟩)⟩)⟩)⟩)⟩)⟩)⟩)⟩)⟩)⟩)⟩)⟩)⟩)⟩) (@kb ⟨R (.exit 0) ⟨(F84 x0 x1 x2 x3 x4 x5 x6 x7 x8 x9 xA xB xC xD xE xF xG xH xI xJ xK xL xM xN xO xP xQ xR xS xT xU xV xW xX xY xZ yA yB yC v1 v3 v5 v7 yH yI yJ yK yL yM yN yO yP yQ yR yS yT yU yV yW yX yY yZ zA zB zC zD zE zF zG zH zI zJ zK zL zM zN zO zP zQ zR zS zT zU zV),df,h8⟩⟩)⟩)⟩)⟩)⟩)):=Z7
@[push_cast]theorem mN1 (G:Nat)(ro:Z8 Nat)(df:List Nat)(h:jB)(x0 x1 x2 x3 x4 x5 x6 x7 x8 x9 xA xB xC xD xE xF xG xH xI xJ xK xL xM xN xO xP xQ xR xS xT xU xV xW xX xY xZ yA yB yC yD yE yF yG yH yI yJ yK yL yM yN yO yP yQ yR yS yT yU yV yW yX yY yZ zA zB zC zD zE zF zG zH zI zJ zK zL zM zN zO zP zQ zR zS zT zU zV:Z6)(R:jL→S→Prop):vc3 (pp G) ro tT0 ⟨(F84 x0 x1 x2 x3 x4 x5 x6 x7 x8 x9 xA xB xC xD xE xF xG xH xI xJ xK xL xM xN xO xP xQ xR xS xT xU xV xW xX xY xZ yA yB yC yD yE yF yG yH yI yJ yK yL yM yN yO yP yQ yR yS yT yU yV yW yX yY yZ zA zB zC zD zE zF zG zH zI zJ zK zL zM zN zO zP zQ zR zS zT zU zV),df,h⟩ R=(oT (some (.int .i64 0)) none h (@kk ⟨λv1 h2=>W (pp G) ro (.loop tS0) ⟨(F84 x0 x1 x2 x3 x4 x5 x6 x7 x8 x9 v1 xB xC xD xE xF xG xH xI xJ xK xL xM xN xO xP xQ xR xS xT xU xV xW xX xY xZ yA yB yC yD yE yF yG yH yI yJ yK yL yM yN yO yP yQ yR yS yT yU yV yW yX yY yZ zA zB zC zD zE zF zG zH zI zJ zK zL zM zN zO zP zQ zR zS zT zU zV),df,h2⟩ (@kR ⟨kA 2 (qX (λs1=>vc3 (pp G) ro tR0 s1 (@kR ⟨R⟩)) R)⟩)⟩)):=Z7
@[push_cast]theorem nH0 (G:Nat)(ro:Z8 Nat)(df:List Nat)(h:jB)(x0 x1 x2 x3 x4 x5 x6 x7 x8 x9 xA xB xC xD xE xF xG xH xI xJ xK xL xM xN xO xP:Z6)(R:jL→S→Prop):vc3 (pp G) ro tO0 ⟨(F26 x0 x1 x2 x3 x4 x5 x6 x7 x8 x9 xA xB xC xD xE xF xG xH xI xJ xK xL xM xN xO xP),df,h⟩ R=(oT (some x5) none h (@kk ⟨λv1 h2=>oT (some x0) none h2 (@kk ⟨λv3 h4=>oT (lnB (lnT prog 22) v3) none h4 (@kk ⟨λv5 h6=>oT (jF prog .lss 3 (.tmp 11) (.tmp 13) v1 v5) none h6 (@kk ⟨λv7 h8=>jR v7 (@kb ⟨oP (some x0) h8 (@kk ⟨λv9 _=>oP (some x5) h8 (@kk ⟨λv10 _=>oP (iaV (esz prog 22) v9 v10) h8 (@kk ⟨λv11 _=>oP (jA prog 3 v11 h8) h8 (@kk ⟨λv12 _=>oP (some x1) h8 (@kk ⟨λv14 _=>oP (some x5) h8 (@kk ⟨λv15 _=>oP (iaV (esz prog 22) v14 v15) h8 (@kk ⟨λv16 _=>oP (jA prog 3 v16 h8) h8 (@kk ⟨λv17 _=>oP (jF prog .neq 3 (.tmp 20) (.tmp 24) v12 v17) h8 (@kk ⟨λv19 _=>jR v19 (@kb ⟨oT (some (.bool false)) none h8 (@kk ⟨λv20 h21=>R .ret ⟨(F26 x0 x1 x2 x3 v20 x5 x6 x7 x8 x9 xA v1 v3 v5 v7 xF xG v9 v10 v11 v12 v14 v15 v16 v17 v19),df,h21⟩⟩)⟩) (@kb ⟨oT (some x5) none h8 (@kk ⟨λv22 h23=>oT (jF prog .add 3 (.tmp 15) (.const (.int .i64 1)) v22 (.int .i64 1)) none h23 (@kk ⟨λv24 h25=>oT (some v24) none h25 (@kk ⟨λv26 h27=>R .normal ⟨(F26 x0 x1 x2 x3 x4 v26 x6 x7 x8 x9 xA v1 v3 v5 v7 v22 v24 v9 v10 v11 v12 v14 v15 v16 v17 v19),df,h27⟩⟩)⟩)⟩)⟩)⟩)⟩)⟩)⟩)⟩)⟩)⟩)⟩)⟩)⟩) (@kb ⟨R (.exit 0) ⟨(F26 x0 x1 x2 x3 x4 x5 x6 x7 x8 x9 xA v1 v3 v5 v7 xF xG xH xI xJ xK xL xM xN xO xP),df,h8⟩⟩)⟩)⟩)⟩)⟩)):=Z7
@[push_cast]theorem mL1 (G:Nat)(ro:Z8 Nat)(df:List Nat)(h:jB)(x0 x1 x2 x3 x4 x5 x6 x7 x8 x9 xA xB xC xD xE xF xG xH xI xJ xK xL xM xN xO xP:Z6)(R:jL→S→Prop):vc3 (pp G) ro tN0 ⟨(F26 x0 x1 x2 x3 x4 x5 x6 x7 x8 x9 xA xB xC xD xE xF xG xH xI xJ xK xL xM xN xO xP),df,h⟩ R=(oT (some (.bool true)) none h (@kk ⟨λv1 h2=>R .ret ⟨(F26 x0 x1 x2 x3 v1 x5 x6 x7 x8 x9 xA xB xC xD xE xF xG xH xI xJ xK xL xM xN xO xP),df,h2⟩⟩)):=Z7
@[push_cast]theorem mP1 (G:Nat)(ro:Z8 Nat)(df:List Nat)(h:jB)(x0 x1 x2 x3 x4 x5 x6 x7 x8 x9 xA xB xC xD xE xF xG xH xI xJ xK xL xM xN xO xP xQ xR xS xT xU xV xW xX xY xZ yA yB yC yD yE yF yG yH yI yJ yK yL yM yN yO yP yQ yR yS yT yU yV yW yX yY yZ zA zB zC zD zE zF zG zH zI zJ zK zL zM zN zO zP zQ zR zS zT zU zV zW zX zY zZ wA wB wC wD wE wF wG wH wI wJ wK wL wM wN wO wP wQ wR wS wT wU wV wW wX wY wZ uA uB:Z6)(R:jL→S→Prop):vc3 (pp G) ro fU0 ⟨(gD x0 x1 x2 x3 x4 x5 x6 x7 x8 x9 xA xB xC xD xE xF xG xH xI xJ xK xL xM xN xO xP xQ xR xS xT xU xV xW xX xY xZ yA yB yC yD yE yF yG yH yI yJ yK yL yM yN yO yP yQ yR yS yT yU yV yW yX yY yZ zA zB zC zD zE zF zG zH zI zJ zK zL zM zN zO zP zQ zR zS zT zU zV zW zX zY zZ wA wB wC wD wE wF wG wH wI wJ wK wL wM wN wO wP wQ wR wS wT wU wV wW wX wY wZ uA uB),df,h⟩ R=(jR yW (@kb ⟨oT (some x0) none h (@kk ⟨λv1 h2=>jK (pp G) (.func (.func 26) #[] #[]) [v1] h2 (@kk ⟨λv3 h4=>oT (some x1) none h4 (@kk ⟨λv5 h6=>jK (pp G) (.func (.func 33) #[] #[]) [v5] h6 (@kk ⟨λv7 h8=>R .normal ⟨(gD x0 x1 x2 x3 x4 x5 x6 x7 x8 x9 xA xB xC xD xE xF xG xH xI xJ xK xL xM xN xO xP xQ xR xS xT xU xV xW xX xY xZ yA yB yC yD yE yF yG yH yI yJ yK yL yM yN yO yP yQ yR yS yT yU yV yW yX yY v1 v3 v5 v7 zD zE zF zG zH zI zJ zK zL zM zN zO zP zQ zR zS zT zU zV zW zX zY zZ wA wB wC wD wE wF wG wH wI wJ wK wL wM wN wO wP wQ wR wS wT wU wV wW wX wY wZ uA uB),df,h8⟩⟩)⟩)⟩)⟩)⟩) (@kb ⟨oT (jF prog .eql 3 (.tmp 26) (.const (.int .i64 6)) xQ (.int .i64 6)) none h (@kk ⟨λv9 h10=>oT (some v9) none h10 (@kk ⟨λv11 h12=>jR v11 (@kb ⟨vc3 (pp G) ro bZ0 ⟨(gD x0 x1 x2 x3 x4 x5 x6 x7 x8 x9 xA xB xC xD xE xF xG xH xI xJ xK xL xM xN xO xP xQ xR xS xT xU xV xW xX xY xZ yA yB yC yD yE yF yG yH yI yJ yK yL yM yN yO yP yQ yR yS yT yU yV yW yX yY yZ zA zB zC v11 v9 zF zG zH zI zJ zK zL zM zN zO zP zQ zR zS zT zU zV zW zX zY zZ wA wB wC wD wE wF wG wH wI wJ wK wL wM wN wO wP wQ wR wS wT wU wV wW wX wY wZ uA uB),df,h12⟩ (@kR ⟨R⟩)⟩) (@kb ⟨oT (jF prog .eql 3 (.tmp 26) (.const (.int .i64 7)) xQ (.int .i64 7)) none h12 (@kk ⟨λv13 h14=>oT (some v13) none h14 (@kk ⟨λv15 h16=>jR v15 (@kb ⟨vc3 (pp G) ro bZ0 ⟨(gD x0 x1 x2 x3 x4 x5 x6 x7 x8 x9 xA xB xC xD xE xF xG xH xI xJ xK xL xM xN xO xP xQ xR xS xT xU xV xW xX xY xZ yA yB yC yD yE yF yG yH yI yJ yK yL yM yN yO yP yQ yR yS yT yU yV yW yX yY yZ zA zB zC v15 v9 v13 zG zH zI zJ zK zL zM zN zO zP zQ zR zS zT zU zV zW zX zY zZ wA wB wC wD wE wF wG wH wI wJ wK wL wM wN wO wP wQ wR wS wT wU wV wW wX wY wZ uA uB),df,h16⟩ (@kR ⟨R⟩)⟩) (@kb ⟨oT (jF prog .eql 3 (.tmp 26) (.const (.int .i64 8)) xQ (.int .i64 8)) none h16 (@kk ⟨λv17 h18=>oT (some v17) none h18 (@kk ⟨λv19 h20=>vc3 (pp G) ro bZ0 ⟨(gD x0 x1 x2 x3 x4 x5 x6 x7 x8 x9 xA xB xC xD xE xF xG xH xI xJ xK xL xM xN xO xP xQ xR xS xT xU xV xW xX xY xZ yA yB yC yD yE yF yG yH yI yJ yK yL yM yN yO yP yQ yR yS yT yU yV yW yX yY yZ zA zB zC v19 v9 v13 v17 zH zI zJ zK zL zM zN zO zP zQ zR zS zT zU zV zW zX zY zZ wA wB wC wD wE wF wG wH wI wJ wK wL wM wN wO wP wQ wR wS wT wU wV wW wX wY wZ uA uB),df,h20⟩ (@kR ⟨R⟩)⟩)⟩)⟩)⟩)⟩)⟩)⟩)⟩)⟩)):=Z7
@[push_cast]theorem nI0 (G:Nat)(ro:Z8 Nat)(df:List Nat)(h:jB)(x0 x1 x2 x3 x4 x5 x6 x7 x8 x9 xA xB xC xD xE xF xG xH xI xJ xK xL xM xN xO xP xQ xR xS xT xU xV xW xX xY xZ yA yB yC yD yE yF yG yH yI yJ yK yL yM yN yO yP yQ yR yS yT yU yV yW yX yY yZ zA zB zC zD zE zF zG zH zI zJ zK zL zM zN zO zP zQ zR zS zT zU zV:Z6)(R:jL→S→Prop):vc3 (pp G) ro tS0 ⟨(F84 x0 x1 x2 x3 x4 x5 x6 x7 x8 x9 xA xB xC xD xE xF xG xH xI xJ xK xL xM xN xO xP xQ xR xS xT xU xV xW xX xY xZ yA yB yC yD yE yF yG yH yI yJ yK yL yM yN yO yP yQ yR yS yT yU yV yW yX yY yZ zA zB zC zD zE zF zG zH zI zJ zK zL zM zN zO zP zQ zR zS zT zU zV),df,h⟩ R=(oT (some xA) none h (@kk ⟨λv1 h2=>oT (some x7) none h2 (@kk ⟨λv3 h4=>oT (lnB (lnT prog 39) v3) none h4 (@kk ⟨λv5 h6=>oT (jF prog .lss 3 (.tmp 69) (.tmp 71) v1 v5) none h6 (@kk ⟨λv7 h8=>jR v7 (@kb ⟨oP (some x7) h8 (@kk ⟨λv9 _=>oP (some xA) h8 (@kk ⟨λv10 _=>oP (iaV (esz prog 39) v9 v10) h8 (@kk ⟨λv11 _=>oP (jA prog 31 v11 h8) h8 (@kk ⟨λv12 _=>oP (some x8) h8 (@kk ⟨λv14 _=>oP (some xA) h8 (@kk ⟨λv15 _=>oP (iaV (esz prog 39) v14 v15) h8 (@kk ⟨λv16 _=>oP (jA prog 31 v16 h8) h8 (@kk ⟨λv17 _=>oP (jF prog .neq 31 (.tmp 78) (.tmp 82) v12 v17) h8 (@kk ⟨λv19 _=>jR v19 (@kb ⟨oT (some (.bool false)) none h8 (@kk ⟨λv20 h21=>R .ret ⟨(F84 x0 x1 x2 x3 v20 x5 x6 x7 x8 x9 xA xB xC xD xE xF xG xH xI xJ xK xL xM xN xO xP xQ xR xS xT xU xV xW xX xY xZ yA yB yC yD yE yF yG yH yI yJ yK yL yM yN yO yP yQ yR yS yT yU yV yW yX yY yZ zA zB zC zD zE zF zG v1 v3 v5 v7 zL zM v9 v10 v11 v12 v14 v15 v16 v17 v19),df,h21⟩⟩)⟩) (@kb ⟨oT (some xA) none h8 (@kk ⟨λv22 h23=>oT (jF prog .add 3 (.tmp 73) (.const (.int .i64 1)) v22 (.int .i64 1)) none h23 (@kk ⟨λv24 h25=>oT (some v24) none h25 (@kk ⟨λv26 h27=>R .normal ⟨(F84 x0 x1 x2 x3 x4 x5 x6 x7 x8 x9 v26 xB xC xD xE xF xG xH xI xJ xK xL xM xN xO xP xQ xR xS xT xU xV xW xX xY xZ yA yB yC yD yE yF yG yH yI yJ yK yL yM yN yO yP yQ yR yS yT yU yV yW yX yY yZ zA zB zC zD zE zF zG v1 v3 v5 v7 v22 v24 v9 v10 v11 v12 v14 v15 v16 v17 v19),df,h27⟩⟩)⟩)⟩)⟩)⟩)⟩)⟩)⟩)⟩)⟩)⟩)⟩)⟩)⟩) (@kb ⟨R (.exit 2) ⟨(F84 x0 x1 x2 x3 x4 x5 x6 x7 x8 x9 xA xB xC xD xE xF xG xH xI xJ xK xL xM xN xO xP xQ xR xS xT xU xV xW xX xY xZ yA yB yC yD yE yF yG yH yI yJ yK yL yM yN yO yP yQ yR yS yT yU yV yW yX yY yZ zA zB zC zD zE zF zG v1 v3 v5 v7 zL zM zN zO zP zQ zR zS zT zU zV),df,h8⟩⟩)⟩)⟩)⟩)⟩)):=Z7
@[push_cast]theorem mM1 (G:Nat)(ro:Z8 Nat)(df:List Nat)(h:jB)(x0 x1 x2 x3 x4 x5 x6 x7 x8 x9 xA xB xC xD xE xF xG xH xI xJ xK xL xM xN xO xP xQ xR xS xT xU xV xW xX xY xZ yA yB yC yD yE yF yG yH yI yJ yK yL yM yN yO yP yQ yR yS yT yU yV yW yX yY yZ zA zB zC zD zE zF zG zH zI zJ zK zL zM zN zO zP zQ zR zS zT zU zV:Z6)(R:jL→S→Prop):vc3 (pp G) ro tR0 ⟨(F84 x0 x1 x2 x3 x4 x5 x6 x7 x8 x9 xA xB xC xD xE xF xG xH xI xJ xK xL xM xN xO xP xQ xR xS xT xU xV xW xX xY xZ yA yB yC yD yE yF yG yH yI yJ yK yL yM yN yO yP yQ yR yS yT yU yV yW yX yY yZ zA zB zC zD zE zF zG zH zI zJ zK zL zM zN zO zP zQ zR zS zT zU zV),df,h⟩ R=(oT (some (.bool true)) none h (@kk ⟨λv1 h2=>R .ret ⟨(F84 x0 x1 x2 x3 v1 x5 x6 x7 x8 x9 xA xB xC xD xE xF xG xH xI xJ xK xL xM xN xO xP xQ xR xS xT xU xV xW xX xY xZ yA yB yC yD yE yF yG yH yI yJ yK yL yM yN yO yP yQ yR yS yT yU yV yW yX yY yZ zA zB zC zD zE zF zG zH zI zJ zK zL zM zN zO zP zQ zR zS zT zU zV),df,h2⟩⟩)):=Z7
@[push_cast]theorem mO1 (G:Nat)(ro:Z8 Nat)(df:List Nat)(h:jB)(x0 x1 x2 x3 x4 x5 x6 x7 x8 x9 xA xB xC xD xE xF xG xH xI xJ xK xL xM xN xO xP xQ xR xS xT xU xV xW xX xY xZ yA yB yC yD yE yF yG yH yI yJ yK yL yM yN yO yP yQ yR yS yT yU yV yW yX yY yZ zA zB zC zD zE zF zG zH zI zJ zK zL zM zN zO zP zQ zR zS zT zU zV zW zX zY zZ wA wB wC wD wE wF wG wH wI wJ wK wL wM wN wO wP wQ wR wS wT wU wV wW wX wY wZ uA uB:Z6)(R:jL→S→Prop):vc3 (pp G) ro bZ0 ⟨(gD x0 x1 x2 x3 x4 x5 x6 x7 x8 x9 xA xB xC xD xE xF xG xH xI xJ xK xL xM xN xO xP xQ xR xS xT xU xV xW xX xY xZ yA yB yC yD yE yF yG yH yI yJ yK yL yM yN yO yP yQ yR yS yT yU yV yW yX yY yZ zA zB zC zD zE zF zG zH zI zJ zK zL zM zN zO zP zQ zR zS zT zU zV zW zX zY zZ wA wB wC wD wE wF wG wH wI wJ wK wL wM wN wO wP wQ wR wS wT wU wV wW wX wY wZ uA uB),df,h⟩ R=(jR zD (@kb ⟨oT (some x0) none h (@kk ⟨λv1 h2=>oT (some x8) none h2 (@kk ⟨λv3 h4=>jK (pp G) (.func (.func 15) #[] #[]) [v1,v3] h4 (@kk ⟨λv5 h6=>oT (some v5) none h6 (@kk ⟨λv7 h8=>oT (extV v7 0) none h8 (@kk ⟨λv9 h10=>oT (extV v7 1) none h10 (@kk ⟨λv11 h12=>oE (alE (zro prog 31) 31 h12) (@kk ⟨λv13 h14=>oE (stE (szT prog 31) v13 v9 h14) (@kk ⟨λv15 h16=>oT (some v11) none h16 (@kk ⟨λv17 h18=>oT (some x1) none h18 (@kk ⟨λv19 h20=>oT (some x8) none h20 (@kk ⟨λv21 h22=>jK (pp G) (.func (.func 16) #[] #[]) [v19,v21] h22 (@kk ⟨λv23 h24=>oT (some v23) none h24 (@kk ⟨λv25 h26=>oT (extV v25 0) none h26 (@kk ⟨λv27 h28=>oT (extV v25 1) none h28 (@kk ⟨λv29 h30=>oE (alE (zro prog 31) 31 h30) (@kk ⟨λv31 h32=>oE (stE (szT prog 31) v31 v27 h32) (@kk ⟨λv33 h34=>oT (some v29) none h34 (@kk ⟨λv35 h36=>oT (jA prog 31 v13 h36) none h36 (@kk ⟨λv37 h38=>oT (jA prog 31 v31 h38) none h38 (@kk ⟨λv39 h40=>oT (jF prog .eql 31 (.tmp 81) (.tmp 82) v37 v39) none h40 (@kk ⟨λv41 h42=>oT (some v41) none h42 (@kk ⟨λv43 h44=>gT v43 true (some v17) none h44 (@kk ⟨λv45 h46=>gT v43 true (some v35) none h46 (@kk ⟨λv47 h48=>gT v43 true (jF prog .eql 4 (.tmp 85) (.tmp 86) v45 v47) none h48 (@kk ⟨λv49 h50=>oT (kI v43 v49 (.bool false)) none h50 (@kk ⟨λv51 h52=>oT (some v51) none h52 (@kk ⟨λv53 h54=>R .ret ⟨(gD x0 x1 x2 x3 x4 x5 v53 x7 x8 x9 v13 v17 v31 v35 xE xF xG xH xI xJ xK xL xM xN xO xP xQ xR xS xT xU xV xW xX xY xZ yA yB yC yD yE yF yG yH yI yJ yK yL yM yN yO yP yQ yR yS yT yU yV yW yX yY yZ zA zB zC zD zE zF zG v7 v1 v3 v5 v9 v11 v25 v19 v21 v23 v27 v29 v37 v39 v41 v43 v45 v47 v49 v51 wB wC wD wE wF wG wH wI wJ wK wL wM wN wO wP wQ wR wS wT wU wV wW wX wY wZ uA uB),df,h54⟩⟩)⟩)⟩)⟩)⟩)⟩)⟩)⟩)⟩)⟩)⟩)⟩)⟩)⟩)⟩)⟩)⟩)⟩)⟩)⟩)⟩)⟩)⟩)⟩)⟩)⟩)⟩)⟩) (@kb ⟨oT (jF prog .eql 3 (.tmp 26) (.const (.int .i64 9)) xQ (.int .i64 9)) none h (@kk ⟨λv55 h56=>oT (some v55) none h56 (@kk ⟨λv57 h58=>jR v57 (@kb ⟨oT (some x0) none h58 (@kk ⟨λv59 h60=>oT (some x8) none h60 (@kk ⟨λv61 h62=>jK (pp G) (.func (.func 17) #[] #[]) [v59,v61] h62 (@kk ⟨λv63 h64=>oT (some x1) none h64 (@kk ⟨λv65 h66=>oT (some x8) none h66 (@kk ⟨λv67 h68=>jK (pp G) (.func (.func 18) #[] #[]) [v65,v67] h68 (@kk ⟨λv69 h70=>oT (jF prog .eql 4 (.tmp 93) (.tmp 96) v63 v69) none h70 (@kk ⟨λv71 h72=>oT (some v71) none h72 (@kk ⟨λv73 h74=>R .ret ⟨(gD x0 x1 x2 x3 x4 x5 v73 x7 x8 x9 xA xB xC xD xE xF xG xH xI xJ xK xL xM xN xO xP xQ xR xS xT xU xV xW xX xY xZ yA yB yC yD yE yF yG yH yI yJ yK yL yM yN yO yP yQ yR yS yT yU yV yW yX yY yZ zA zB zC zD zE zF zG zH zI zJ zK zL zM zN zO zP zQ zR zS zT zU zV zW zX zY zZ wA v57 v55 v59 v61 v63 v65 v67 v69 v71 wK wL wM wN wO wP wQ wR wS wT wU wV wW wX wY wZ uA uB),df,h74⟩⟩)⟩)⟩)⟩)⟩)⟩)⟩)⟩)⟩) (@kb ⟨oT (jF prog .eql 3 (.tmp 26) (.const (.int .i64 10)) xQ (.int .i64 10)) none h58 (@kk ⟨λv75 h76=>oT (some v75) none h76 (@kk ⟨λv77 h78=>jR v77 (@kb ⟨oT (some x0) none h78 (@kk ⟨λv79 h80=>oT (some x8) none h80 (@kk ⟨λv81 h82=>jK (pp G) (.func (.func 19) #[] #[]) [v79,v81] h82 (@kk ⟨λv83 h84=>oT (some x1) none h84 (@kk ⟨λv85 h86=>oT (some x8) none h86 (@kk ⟨λv87 h88=>jK (pp G) (.func (.func 20) #[] #[]) [v85,v87] h88 (@kk ⟨λv89 h90=>oT (jF prog .eql 4 (.tmp 102) (.tmp 105) v83 v89) none h90 (@kk ⟨λv91 h92=>oT (some v91) none h92 (@kk ⟨λv93 h94=>R .ret ⟨(gD x0 x1 x2 x3 x4 x5 v93 x7 x8 x9 xA xB xC xD xE xF xG xH xI xJ xK xL xM xN xO xP xQ xR xS xT xU xV xW xX xY xZ yA yB yC yD yE yF yG yH yI yJ yK yL yM yN yO yP yQ yR yS yT yU yV yW yX yY yZ zA zB zC zD zE zF zG zH zI zJ zK zL zM zN zO zP zQ zR zS zT zU zV zW zX zY zZ wA v57 v55 wD wE wF wG wH wI wJ v77 v75 v79 v81 v83 v85 v87 v89 v91 wT wU wV wW wX wY wZ uA uB),df,h94⟩⟩)⟩)⟩)⟩)⟩)⟩)⟩)⟩)⟩) (@kb ⟨oT (jF prog .eql 3 (.tmp 26) (.const (.int .i64 11)) xQ (.int .i64 11)) none h78 (@kk ⟨λv95 h96=>oT (some v95) none h96 (@kk ⟨λv97 h98=>jR v97 (@kb ⟨oT (some x7) none h98 (@kk ⟨λv99 h100=>jK (pp G) (.func (.func 22) #[] #[]) [v99,(.int .i64 4)] h100 (@kk ⟨λv101 h102=>oT (jF prog .eql 3 (.tmp 110) (.const (.int .i64 0)) v101 (.int .i64 0)) none h102 (@kk ⟨λv103 h104=>jR v103 (@kb ⟨oT (some x0) none h104 (@kk ⟨λv105 h106=>jK (pp G) (.func (.func 34) #[] #[]) [v105] h106 (@kk ⟨λv107 h108=>oT (some x1) none h108 (@kk ⟨λv109 h110=>jK (pp G) (.func (.func 35) #[] #[]) [v109] h110 (@kk ⟨λv111 h112=>R .normal ⟨(gD x0 x1 x2 x3 x4 x5 x6 x7 x8 x9 xA xB xC xD xE xF xG xH xI xJ xK xL xM xN xO xP xQ xR xS xT xU xV xW xX xY xZ yA yB yC yD yE yF yG yH yI yJ yK yL yM yN yO yP yQ yR yS yT yU yV yW yX yY yZ zA zB zC zD zE zF zG zH zI zJ zK zL zM zN zO zP zQ zR zS zT zU zV zW zX zY zZ wA v57 v55 wD wE wF wG wH wI wJ v77 v75 wM wN wO wP wQ wR wS v97 v95 v99 v101 v103 v105 v107 v109 v111),df,h112⟩⟩)⟩)⟩)⟩)⟩) (@kb ⟨R .normal ⟨(gD x0 x1 x2 x3 x4 x5 x6 x7 x8 x9 xA xB xC xD xE xF xG xH xI xJ xK xL xM xN xO xP xQ xR xS xT xU xV xW xX xY xZ yA yB yC yD yE yF yG yH yI yJ yK yL yM yN yO yP yQ yR yS yT yU yV yW yX yY yZ zA zB zC zD zE zF zG zH zI zJ zK zL zM zN zO zP zQ zR zS zT zU zV zW zX zY zZ wA v57 v55 wD wE wF wG wH wI wJ v77 v75 wM wN wO wP wQ wR wS v97 v95 v99 v101 v103 wY wZ uA uB),df,h104⟩⟩)⟩)⟩)⟩)⟩) (@kb ⟨R .normal ⟨(gD x0 x1 x2 x3 x4 x5 x6 x7 x8 x9 xA xB xC xD xE xF xG xH xI xJ xK xL xM xN xO xP xQ xR xS xT xU xV xW xX xY xZ yA yB yC yD yE yF yG yH yI yJ yK yL yM yN yO yP yQ yR yS yT yU yV yW yX yY yZ zA zB zC zD zE zF zG zH zI zJ zK zL zM zN zO zP zQ zR zS zT zU zV zW zX zY zZ wA v57 v55 wD wE wF wG wH wI wJ v77 v75 wM wN wO wP wQ wR wS v97 v95 wV wW wX wY wZ uA uB),df,h98⟩⟩)⟩)⟩)⟩)⟩)⟩)⟩)⟩)⟩)⟩)):=Z7
end
end Go.Proofs.Ytejgmoenmbjidaa
namespace Go.Proofs.Ytejgmoenmbjidaa
open _root_.Go.Proofs.Try (prog)
open Go Go.RowKit Go.Ev
noncomputable section
set_option maxRecDepth 100000
structure AIn (w:Wi):Prop where
 val:∀ k e,w.ap[k]?=some e→e.val=w.vs.getD k 0
 nd:(w.ap.map (·.key)).Nodup
 req:∀ m∈w.fl,m.back=false→m.e.val=0
 bck:∀ m∈w.fl,m.back=true→∃ e∈w.ap,e.key=m.e.key∧e.val=m.e.val
theorem AIn.fl {w:Wi}(a:AIn w){fl:List Msg}{op:List Opn}{ck:Int}(h:∀ m∈fl,m∈w.fl∨m.back=false∧m.e.val=0):AIn { w with fl:=fl,op:=op,ck:=ck }:=
 ⟨a.val,a.nd,λm hm hb=>(h m hm).elim (λh=>a.req m h hb) λh=>h.2,λm hm hb=>(h m hm).elim (λh=>a.bck m h hb) λh=>by rw[h.1] at hb;cases hb⟩
theorem sV1 {w:Wi}(a:AIn w)(nm:List Zu)(k:Int):AIn (askW w nm k)∧(askW w nm k).vs=w.vs:=by
 unfold askW
 split
 ·exact ⟨a,rfl⟩
 ·refine ⟨a.fl λm hm=>?_,rfl⟩
  rcases List.mem_append.1 hm with h|h
  ·exact .inl h
  ·rw[List.mem_singleton.1 h];exact .inr ⟨rfl,rfl⟩
theorem dU0 {w:Wi}(a:AIn w)(k:Int):AIn (uY w k)∧(uY w k).vs=w.vs:=⟨a.fl λm hm=>.inl hm,rfl⟩
theorem kH1 {w:Wi}(a:AIn w):AIn (wH0 w)∧(wH0 w).vs=w.vs:=⟨a.fl λm hm=>.inl hm,rfl⟩
theorem cR1 {w:Wi}(a:AIn w):AIn (kK0 w)∧(kK0 w).vs=w.vs:=by
 refine ⟨a.fl λm hm=>?_,rfl⟩
 rcases List.mem_append.1 hm with h|h
 ·exact .inl h
 ·unfold rqs at h
  obtain ⟨o,_,rfl⟩:=List.mem_map.1 h
  exact .inr ⟨rfl,rfl⟩
theorem jY1 {w:Wi}(a:AIn w)(i:Int):AIn (jX w i)∧(jX w i).vs=w.vs:=by
 unfold jX
 split
 ·exact ⟨a.fl λm hm=>.inl ((List.eraseIdx_sublist ..).subset hm),rfl⟩
 ·exact ⟨a,rfl⟩
theorem uZ1 {w:Wi}(a:AIn w)(i:Int):AIn (jX0 w i)∧(jX0 w i).vs=w.vs:=by
 unfold jX0
 split
 ·refine ⟨a.fl λm hm=>?_,rfl⟩
  rcases List.mem_append.1 hm with h|h
  ·exact .inl h
  ·cases hg:w.fl[i.toNat]? with
   | none=>rw[hg] at h;cases h
   | some x=>
    rw[hg] at h
    have:m=x:=by simpa using h
    rw[this]
    exact .inl (List.mem_of_getElem? hg)
 ·exact ⟨a,rfl⟩
theorem gO0 {k v:Int}:∀ {l:List Evt},kF k l=some v→∃ e∈l,e.key=k∧e.val=v
 | [],h=>by cases h
 | e :: l,h=>by
  have h:(if k=e.key then some e.val else kF k l)=some v:=h
  split at h
  ·rename_i hk;cases h;exact ⟨e,List.mem_cons_self ..,hk.symm,rfl⟩
  ·obtain ⟨x,h1,h2⟩:=gO0 h;exact ⟨x,List.mem_cons_of_mem _ h1,h2⟩
theorem gP0 {k:Int}:∀ {l:List Evt},kF k l=none→k∉l.map (·.key)
 | [],_=>by simp
 | e :: l,h=>by
  have h:(if k=e.key then some e.val else kF k l)=none:=h
  split at h
  ·cases h
  ·rename_i hk
   rw[List.map_cons,List.mem_cons]
   rintro (h1|h1)
   ·exact hk h1
   ·exact gP0 h h1
theorem kS1 {w:Wi}(a:AIn w)(hk:w.kp=w.ap)(e:Evt)(he:e.val=0):AIn (jY w e).2∧(jY w e).2.vs=w.vs∧(∃ x∈(jY w e).2.ap,x.key=e.key∧x.val=(jY w e).1)∧(jY w e).2.fl=w.fl:=by
 unfold jY
 cases hf:kF e.key w.kp with
 | some v=>
  rw[hk] at hf
  exact ⟨a,rfl,gO0 hf,rfl⟩
 | none=>
  rw[hk] at hf
  have hn:=gP0 hf
  refine ⟨⟨λk x hx=>?_,?_,a.req,λm hm hb=>?_⟩,rfl,⟨_,List.mem_append_right _ (List.mem_singleton.2 rfl),rfl,rfl⟩,rfl⟩
  ·dsimp only at hx ⊢
   rcases Nat.lt_or_ge k w.ap.length with h1|h1
   ·rw[List.getElem?_append_left h1] at hx;exact a.val k x hx
   ·rw[List.getElem?_append_right h1] at hx
    have hk0:k-w.ap.length=0:=by
     rcases Nat.lt_or_ge (k-w.ap.length) 1 with h2|h2
     ·omega
     ·rw[List.getElem?_eq_none (by simpa using h2)] at hx;cases hx
    rw[hk0] at hx
    cases hx
    have:k=w.ap.length:=Z0
    subst this
    by_cases hv:w.ap.length<w.vs.length
    ·simp only[if_pos hv]
    ·simp only[if_neg hv,he,List.getD_eq_getElem?_getD,List.getElem?_eq_none (show w.vs.length≤w.ap.length by omega)];rfl
  ·dsimp only
   rw[List.map_append,List.nodup_append]
   refine ⟨a.nd,by simp,λx hx y hy e2=>?_⟩
   simp at hy
   rw[e2,hy] at hx
   exact hn hx
  ·obtain ⟨x,h1,h2⟩:=a.bck m hm hb
   exact ⟨x,List.mem_append_left _ h1,h2⟩
theorem nX0 {w:Wi}(a:AIn w)(hk:w.kp=w.ap)(i:Int):AIn (jQ w i).2∧(jQ w i).2.vs=w.vs∧((jQ w i).1.2=true→∃ e∈(jQ w i).2.ap,e.key=(jQ w i).1.1.key∧e.val=(jQ w i).1.1.val):=by
 unfold jQ
 obtain ⟨d1,d2⟩:=jY1 a i
 have dk:(jX w i).kp=(jX w i).ap:=by unfold jX;split<;>exact hk
 have da:(jX w i).ap=w.ap:=by unfold jX;split<;>rfl
 split
 ·rename_i hi
  split
  ·exact ⟨a,rfl,λh=>by cases h⟩
  ·rename_i m hm
   have hmm:m∈w.fl:=List.mem_of_getElem? hm
   split
   ·rename_i hb
    split
    ·obtain ⟨f1,f2⟩:=dU0 d1 m.e.key
     refine ⟨f1,f2.trans d2,λ_=>?_⟩
     show ∃ e∈(jX w i).ap,_
     rw[da]
     exact a.bck m hmm hb
    ·exact ⟨d1,d2,λh=>by cases h⟩
   ·rename_i hb
    obtain ⟨p1,p2,p3,p4⟩:=kS1 d1 dk m.e (a.req m hmm (by simpa using hb))
    refine ⟨⟨p1.val,p1.nd,λx hx hxb=>?_,λx hx hxb=>?_⟩,p2.trans d2,λh=>by cases h⟩
    ·rcases List.mem_append.1 hx with h|h
     ·exact p1.req x h hxb
     ·rw[List.mem_singleton.1 h] at hxb;cases hxb
    ·rcases List.mem_append.1 hx with h|h
     ·exact p1.bck x h hxb
     ·rw[List.mem_singleton.1 h];exact p3
 ·exact ⟨a,rfl,λh=>by cases h⟩
structure Pr (h:jB)(B:Nat→Prop)(p1 p2:Nat)(w u:Wi):Prop where
 has:∃ (q:Pl) (x:Xp),q.p=p1∧x.p=p2∧WAt h q w∧XAt h x u∧(∀ b,q.B b→¬ x.B b)∧∀ b,q.B b∨x.B b→B b∧b<h.next
theorem Pr.mono {h:jB}{B C:Nat→Prop}{p1 p2:Nat}{w u:Wi}(a:Pr h B p1 p2 w u)(hb:∀ b,B b→C b):Pr h C p1 p2 w u:=by
 obtain ⟨q,x,e1,e2,h1,h2,h3,h4⟩:=a.has
 exact ⟨q,x,e1,e2,h1,h2,h3,λb h=>⟨hb b (h4 b h).1,(h4 b h).2⟩⟩
theorem Pr.grew {h h':jB}{B S:Nat→Prop}{p1 p2:Nat}{w u:Wi}(a:Pr h B p1 p2 w u)(g:jI h h' S)(hS:∀ b,B b→b<h.next→¬ S b):Pr h' B p1 p2 w u:=by
 obtain ⟨q,x,e1,e2,h1,h2,h3,h4⟩:=a.has
 exact ⟨q,x,e1,e2,h1.grew g λb hb=>hS b (h4 b (.inl hb)).1 (h4 b (.inl hb)).2,h2.grew g λb hb=>hS b (h4 b (.inr hb)).1 (h4 b (.inr hb)).2,h3,λb hb=>⟨(h4 b hb).1,Nat.lt_of_lt_of_le (h4 b hb).2 g.next⟩⟩
structure PrP (h:jB)(B:Nat→Prop)(p1 p2:Nat)(w u:Wi)(h':jB):Prop where
 at_:Pr h' (λb=>B b∨h.next≤b) p1 p2 w u
 gr:jI h h' B
theorem prw {h h':jB}{B:Nat→Prop}{q:Pl}{x:Xp}{w u w':Wi}(h2:XAt h x u)(h3:∀ b,q.B b→¬ x.B b)(h4:∀ b,q.B b∨x.B b→B b∧b<h.next)(p:Post h q w' h'):PrP h B q.p x.p w' u h':=by
 obtain ⟨⟨q',e,a',hB⟩,g⟩:=p
 refine ⟨⟨q',x,e,rfl,a',h2.grew g λb hx hq=>h3 b hq hx,λb hq hx=>?_,λb hb=>?_⟩,g.mono λb _ hq=>(h4 b (.inl hq)).1⟩
 ·rcases hB b hq with h1|h1
  ·exact h3 b h1 hx
  ·have:=(h4 b (.inr hx)).2;omega
 ·rcases hb with hb|hb
  ·refine ⟨(hB b hb).imp (λh=>(h4 b (.inl h)).1) id,?_⟩
   obtain ⟨i,hi⟩:=hb
   exact a'.lt b i hi
  ·exact ⟨.inl (h4 b (.inr hb)).1,Nat.lt_of_lt_of_le (h4 b (.inr hb)).2 g.next⟩
theorem prx {h h':jB}{B:Nat→Prop}{q:Pl}{x:Xp}{w u u':Wi}(h1:WAt h q w)(h3:∀ b,q.B b→¬ x.B b)(h4:∀ b,q.B b∨x.B b→B b∧b<h.next)(p:qB0 h x u' h'):PrP h B q.p x.p w u' h':=by
 obtain ⟨⟨x',e,a',hB⟩,g⟩:=p
 refine ⟨⟨q,x',rfl,e,h1.grew g λb hq hx=>h3 b hq hx,a',λb hq hx=>?_,λb hb=>?_⟩,g.mono λb _ hx=>(h4 b (.inr hx)).1⟩
 ·rcases hB b hx with h5|h5
  ·exact h3 b hq h5
  ·have:=(h4 b (.inl hq)).2;omega
 ·rcases hb with hb|hb
  ·exact ⟨.inl (h4 b (.inl hb)).1,Nat.lt_of_lt_of_le (h4 b (.inl hb)).2 g.next⟩
  ·refine ⟨(hB b hb).imp (λh=>(h4 b (.inr h)).1) id,?_⟩
   obtain ⟨i,hi⟩:=hb
   exact a'.lt b i hi
variable (G:Nat) {h:jB} {p1 p2:Nat} {B:Nat→Prop} {w u:Wi} {n:Nat}
theorem Pr.ww (a:Pr h B p1 p2 w u):WW h p1 B w:=by
 obtain ⟨q,x,e1,e2,h1,h2,h3,h4⟩:=a.has
 exact ⟨q,e1,h1,λb hb=>h4 b (.inl hb)⟩
theorem sX1 (a:Pr h B p1 p2 w u)(ok:WOk w n)(hn:n<1000)(e:Evt):jG (pp G) 24 [.pointer (some ⟨p1,0,none⟩),.agg ⟨evC e⟩] h (λv h'=>v=.tuple #[]∧PrP h B p1 p2 (askW w e.nm e.key) u h'):=by
 obtain ⟨q,x,rfl,rfl,h1,h2,h3,h4⟩:=a.has
 have:=ok.ck
 have:=ok.fl
 exact (sT1 G h h1 Z0 Z0 e).mono λv h' ⟨e,p⟩=>⟨e,prw (w:=w) h2 h3 h4 p⟩
theorem sW1 (a:Pr h B p1 p2 w u)(ok:WOk u n)(hn:n<1000)(hl:u.op.length≤12)(e:Evt):jG (pp G) 31 [.pointer (some ⟨p2,0,none⟩),.agg ⟨evC e⟩] h (λv h'=>v=.tuple #[]∧PrP h B p1 p2 w (askW u e.nm e.key) h'):=by
 obtain ⟨q,x,rfl,rfl,h1,h2,h3,h4⟩:=a.has
 have:=ok.ck
 have:=ok.fl
 exact (ask_x G h h2 Z0 Z0 Z0 ok.ris e).mono λv h' ⟨e,p⟩=>⟨e,prx (u:=u) h1 h3 h4 p⟩
theorem jD1 (a:Pr h B p1 p2 w u)(ok:WOk w n)(k:Int):jG (pp G) 25 [.pointer (some ⟨p1,0,none⟩),.int .i64 k] h (λv h'=>v=.tuple #[]∧PrP h B p1 p2 (uY w k) u h'):=by
 obtain ⟨q,x,rfl,rfl,h1,h2,h3,h4⟩:=a.has
 exact (zJ1 G h h1 (jJ0 ok.ris) k).mono λv h' ⟨e,a',g,_⟩=>⟨e,prw (w:=w) h2 h3 h4 ⟨⟨q,rfl,a',λb hb=>.inl hb⟩,g.mono λb _ hb=>⟨2,hb⟩⟩⟩
theorem jC1 (a:Pr h B p1 p2 w u)(ok:WOk u n)(hl:u.op.length≤12)(k:Int):jG (pp G) 32 [.pointer (some ⟨p2,0,none⟩),.int .i64 k] h (λv h'=>v=.tuple #[]∧PrP h B p1 p2 w (uY u k) h'):=by
 obtain ⟨q,x,rfl,rfl,h1,h2,h3,h4⟩:=a.has
 exact (lZ0 G h h2 Z0 ok.ris k).mono λv h' ⟨e,p⟩=>⟨e,prx (u:=u) h1 h3 h4 p⟩
theorem kJ1 (a:Pr h B p1 p2 w u):jG (pp G) 34 [.pointer (some ⟨p1,0,none⟩)] h (λv h'=>v=.tuple #[]∧PrP h B p1 p2 (wH0 w) u h'):=by
 obtain ⟨q,x,rfl,rfl,h1,h2,h3,h4⟩:=a.has
 exact (iM1 G h h1).mono λv h' ⟨e,a',g,_⟩=>⟨e,prw (w:=w) h2 h3 h4 ⟨⟨q,rfl,a',λb hb=>.inl hb⟩,g.mono λb _ hb=>⟨2,hb⟩⟩⟩
theorem kI1 (a:Pr h B p1 p2 w u):jG (pp G) 35 [.pointer (some ⟨p2,0,none⟩)] h (λv h'=>v=.tuple #[]∧PrP h B p1 p2 w (wH0 u) h'):=by
 obtain ⟨q,x,rfl,rfl,h1,h2,h3,h4⟩:=a.has
 exact (iL1 G h h2).mono λv h' ⟨e,p⟩=>⟨e,prx (u:=u) h1 h3 h4 p⟩
theorem cT1 (a:Pr h B p1 p2 w u)(ok:WOk w n)(hn:n<1000)(hl:w.op.length≤12):jG (pp G) 26 [.pointer (some ⟨p1,0,none⟩)] h (λv h'=>v=.tuple #[]∧PrP h B p1 p2 (kK0 w) u h'):=by
 obtain ⟨q,x,rfl,rfl,h1,h2,h3,h4⟩:=a.has
 have:=ok.ck
 have:=ok.fl
 exact (gY1 G h h1 Z0 Z0 hl ok.ris ok.wt).mono λv h' ⟨e,p⟩=>⟨e,prw (w:=w) h2 h3 h4 p⟩
theorem cS1 (a:Pr h B p1 p2 w u)(ok:WOk u n)(hn:n<1000)(hl:u.op.length≤12):jG (pp G) 33 [.pointer (some ⟨p2,0,none⟩)] h (λv h'=>v=.tuple #[]∧PrP h B p1 p2 w (kK0 u) h'):=by
 obtain ⟨q,x,rfl,rfl,h1,h2,h3,h4⟩:=a.has
 have:=ok.ck
 have:=ok.fl
 exact (nG1 G h h2 Z0 Z0 hl ok.wt).mono λv h' ⟨e,p⟩=>⟨e,prx (u:=u) h1 h3 h4 p⟩
theorem nZ0 (a:Pr h B p1 p2 w u)(ok:WOk w n)(hn:n<1000)(i:Int):jG (pp G) 15 [.pointer (some ⟨p1,0,none⟩),.int .i64 i] h (λv h'=>v=.tuple ⟨[.agg ⟨evC (jQ w i).1.1⟩,.bool (jQ w i).1.2]⟩∧PrP h B p1 p2 (jQ w i).2 u h'):=by
 obtain ⟨q,x,rfl,rfl,h1,h2,h3,h4⟩:=a.has
 have:=ok.fl
 have:=ok.ap
 exact (eG0 G h h1 Z0 Z0 (jJ0 ok.ris) i).mono λv h' ⟨e,p⟩=>⟨e,prw (w:=w) h2 h3 h4 p⟩
theorem nY0 (a:Pr h B p1 p2 w u)(ok:WOk u n)(hn:n<1000)(hl:u.op.length≤12)(i:Int):jG (pp G) 16 [.pointer (some ⟨p2,0,none⟩),.int .i64 i] h (λv h'=>v=.tuple ⟨[.agg ⟨evC (jQ u i).1.1⟩,.bool (jQ u i).1.2]⟩∧PrP h B p1 p2 w (jQ u i).2 h'):=by
 obtain ⟨q,x,rfl,rfl,h1,h2,h3,h4⟩:=a.has
 have:=ok.fl
 have:=ok.ap
 exact (qA1 G h h2 Z0 Z0 Z0 ok.ris ok.kp i).mono λv h' ⟨e,p⟩=>⟨e,prx (u:=u) h1 h3 h4 p⟩
theorem iK1 (a:Pr h B p1 p2 w u)(ok:WOk w n)(hn:n<1000)(i:Int):jG (pp G) 17 [.pointer (some ⟨p1,0,none⟩),.int .i64 i] h (λv h'=>v=.bool (decide (0≤i∧i<w.fl.length))∧PrP h B p1 p2 (jX w i) u h'):=by
 obtain ⟨q,x,rfl,rfl,h1,h2,h3,h4⟩:=a.has
 have:=ok.fl
 exact (bS1 G h h1 Z0 i).mono λv h' ⟨e,a',g,_⟩=>⟨e,prw (w:=w) h2 h3 h4 ⟨⟨q,rfl,a',λb hb=>.inl hb⟩,g.mono λb _ hb=>hb.elim (λe=>⟨0,e⟩) λe=>⟨3,e⟩⟩⟩
theorem iJ1 (a:Pr h B p1 p2 w u)(ok:WOk u n)(hn:n<1000)(i:Int):jG (pp G) 18 [.pointer (some ⟨p2,0,none⟩),.int .i64 i] h (λv h'=>v=.bool (decide (0≤i∧i<u.fl.length))∧PrP h B p1 p2 w (jX u i) h'):=by
 obtain ⟨q,x,rfl,rfl,h1,h2,h3,h4⟩:=a.has
 have:=ok.fl
 exact (bR1 G h h2 Z0 i).mono λv h' ⟨e,p⟩=>⟨e,prx (u:=u) h1 h3 h4 p⟩
theorem wB1 (a:Pr h B p1 p2 w u)(ok:WOk w n)(hn:n<1000)(i:Int):jG (pp G) 19 [.pointer (some ⟨p1,0,none⟩),.int .i64 i] h (λv h'=>v=.bool (decide (0≤i∧i<w.fl.length))∧PrP h B p1 p2 (jX0 w i) u h'):=by
 obtain ⟨q,x,rfl,rfl,h1,h2,h3,h4⟩:=a.has
 have:=ok.fl
 exact (cJ1 G h h1 Z0 i).mono λv h' ⟨e,p⟩=>⟨e,prw (w:=w) h2 h3 h4 p⟩
theorem wA1 (a:Pr h B p1 p2 w u)(ok:WOk u n)(hn:n<1000)(i:Int):jG (pp G) 20 [.pointer (some ⟨p2,0,none⟩),.int .i64 i] h (λv h'=>v=.bool (decide (0≤i∧i<u.fl.length))∧PrP h B p1 p2 w (jX0 u i) h'):=by
 obtain ⟨q,x,rfl,rfl,h1,h2,h3,h4⟩:=a.has
 have:=ok.fl
 exact (cI1 G h h2 Z0 i).mono λv h' ⟨e,p⟩=>⟨e,prx (u:=u) h1 h3 h4 p⟩
end
end Go.Proofs.Ytejgmoenmbjidaa
namespace Go.Proofs.Ytejgmoenmbjidaa
open _root_.Go.Proofs.Try (prog)
open Go Go.RowKit Go.Ev
noncomputable section
set_option maxRecDepth 100000
theorem oG1 {P:Z9}(d:Nat)(t:Zt)(xs ys:Array Z6)(ht:P.underlying t=some (.struct (P.fieldsOf t)))(hp:P.stoodInHeld t=false) :
  pv P (Op.equalIn (d+1) t (.agg xs) (.agg ys))=pv P (Op.eqFields d xs ys (P.fieldsOf t).toList):=by
 simp only[Op.equalIn,qM,bP ht,Option.bind_some,program,pv,hp,Bool.false_eq_true,if_false]
 rw[← Array.forIn_toList]
 generalize (P.fieldsOf t).toList=fs
 clear ht
 induction fs with
 | nil=>simp[Op.eqFields,qB]
 | cons f fs ih=>
  simp only[List.forIn_cons,Op.eqFields,qM]
  split
  ·simp only[qM]
   cases pv P (part f.type xs f.offset) with
   | none=>rfl
   | some a=>
    simp only[Option.bind_some]
    cases pv P (part f.type ys f.offset) with
    | none=>rfl
    | some b=>
     simp only[Option.bind_some]
     cases pv P (Op.equalIn d f.type a b) with
     | none=>rfl
     | some r=>
      cases r
      ·simp[qB]
      ·simp only[Bool.not_true,Bool.false_eq_true,if_false,qB,qM,Option.bind_some]
       exact ih
  ·simp only[qB,qM,Option.bind_some]
   exact ih
theorem f31_u:prog.underlying 31=some (.struct (prog.fieldsOf 31)):=Z7
theorem f31_h:prog.stoodInHeld 31=false:=Z7
theorem f31_n : ∃ f0 f1 f2 : Field, (prog.fieldsOf 31).toList = [f0, f1, f2] ∧ (f0.type = 9 ∧ f0.offset = 0 ∧ (f0.name ≠ "_")) ∧ (f1.type = 3 ∧ f1.offset = 1 ∧ (f1.name ≠ "_")) ∧ (f2.type = 3 ∧ f2.offset = 2 ∧ (f2.name ≠ "_")) := by
 have h1:(prog.fieldsOf 31).toList.map (·.type)=[9,3,3]:=Z7
 have h2:(prog.fieldsOf 31).toList.map (·.offset)=[0,1,2]:=Z7
 have h3 : (prog.fieldsOf 31).toList.map (fun f => decide (f.name ≠ "_")) = [true, true, true] := by kernel_rfl
 generalize (prog.fieldsOf 31).toList=l at *
 rcases l with _|⟨f0,_|⟨f1,_|⟨f2,_|⟨f3,l⟩⟩⟩⟩
 ·simp at h1
 ·simp at h1
 ·simp at h1
 ·simp only[List.map_cons,List.map_nil,List.cons.injEq,and_true,decide_eq_true_eq] at h1 h2 h3
  exact ⟨f0,f1,f2,rfl,⟨h1.1,h2.1,h3.1⟩,⟨h1.2.1,h2.2.1,h3.2.1⟩,⟨h1.2.2,h2.2.2,h3.2.2⟩⟩
 ·simp at h1
theorem pt0 (s:ByteArray)(k v:Int):pv prog (part 9 #[.string s,.int .i64 k,.int .i64 v] 0)=some (.string s):=Z7
theorem pt1 (s:ByteArray)(k v:Int):pv prog (part 3 #[.string s,.int .i64 k,.int .i64 v] 1)=some (.int .i64 k):=Z7
theorem pt2 (s:ByteArray)(k v:Int):pv prog (part 3 #[.string s,.int .i64 k,.int .i64 v] 2)=some (.int .i64 v):=Z7
theorem u9:prog.underlying 9=some .string:=Z7
theorem u3:prog.underlying 3=some (.int .i64):=Z7
theorem eq9 (d:Nat)(s:ByteArray):pv prog (Op.equalIn (d+1) 9 (.string s) (.string s))=some true:=by
 simp only[Op.equalIn,qM,bP u9,Option.bind_some,qB]
 rw[beq_toListBytes,beq_self_eq_true]
theorem eq3 (d:Nat)(k:Int):pv prog (Op.equalIn (d+1) 3 (.int .i64 k) (.int .i64 k))=some true:=by
 simp only[Op.equalIn,qM,bP u3,Option.bind_some,if_true,qB]
 simp
theorem eq31 (s:ByteArray)(k v:Int):pv prog (Op.equal 31 (.agg ⟨[.string s,.int .i64 k,.int .i64 v]⟩) (.agg ⟨[.string s,.int .i64 k,.int .i64 v]⟩))=some true:=by
 have key:∀ d:Nat,pv prog (Op.equalIn (d+2) 31 (.agg #[.string s,.int .i64 k,.int .i64 v]) (.agg #[.string s,.int .i64 k,.int .i64 v]))=some true:=λd=>by
  rw[oG1 (d+1) 31 _ _ f31_u f31_h]
  obtain ⟨f0,f1,f2,e,⟨a0,b0,c0⟩,⟨a1,b1,c1⟩,⟨a2,b2,c2⟩⟩:=f31_n
  rw[e]
  simp only[Op.eqFields,if_pos c0,if_pos c1,if_pos c2,a0,a1,a2,b0,b1,b2,qM,pt0,pt1,pt2,Option.bind_some,eq9,eq3,Bool.not_true,Bool.false_eq_true,if_false,qB]
 exact key 9998
theorem g31:prog.eqGuardType prog.depth 31=false:=Z7
theorem iS1 (s:ByteArray)(k v:Int)(x y:Zo):jF prog .eql 31 x y (.agg ⟨[.string s,.int .i64 k,.int .i64 v]⟩) (.agg ⟨[.string s,.int .i64 k,.int .i64 v]⟩)=some (.bool true):=by
 have hf:flat (.agg ⟨[.string s,.int .i64 k,.int .i64 v]⟩)=true:=rfl
 have hg:pv prog (eqGuard .eql 31 x y (.agg ⟨[.string s,.int .i64 k,.int .i64 v]⟩) (.agg ⟨[.string s,.int .i64 k,.int .i64 v]⟩))=some ():=by
  unfold eqGuard
  simp[qM,program,pv,g31,qB]
 have hb:pv prog (binOp .eql 31 (.agg ⟨[.string s,.int .i64 k,.int .i64 v]⟩) (.agg ⟨[.string s,.int .i64 k,.int .i64 v]⟩))=some (.bool true):=by
  unfold binOp
  simp only[qM,eq31,Option.bind_some,qB]
 unfold jF
 simp only[qM,hg,hb,hf,Option.bind_some,pvF,Bool.and_self]
 rfl
theorem qU1 (s:ByteArray)(k v:Int)(x y:Zo):jF prog .neq 31 x y (.agg ⟨[.string s,.int .i64 k,.int .i64 v]⟩) (.agg ⟨[.string s,.int .i64 k,.int .i64 v]⟩)=some (.bool false):=by
 have hf:flat (.agg ⟨[.string s,.int .i64 k,.int .i64 v]⟩)=true:=rfl
 have hg:pv prog (eqGuard .neq 31 x y (.agg ⟨[.string s,.int .i64 k,.int .i64 v]⟩) (.agg ⟨[.string s,.int .i64 k,.int .i64 v]⟩))=some ():=by
  unfold eqGuard
  simp[qM,program,pv,g31,qB]
 have hb:pv prog (binOp .neq 31 (.agg ⟨[.string s,.int .i64 k,.int .i64 v]⟩) (.agg ⟨[.string s,.int .i64 k,.int .i64 v]⟩))=some (.bool false):=by
  unfold binOp
  simp only[qM,eq31,Option.bind_some,qB,Bool.not_true]
 unfold jF
 simp only[qM,hg,hb,hf,Option.bind_some,pvF,Bool.and_self]
 rfl
variable (G:Nat) (h:jB)
theorem bU0 {off k lo b:Nat}{cs:List Z6}{e:Zt}{m:Zb}(hb:lo≤b)(hk:off+k≤cs.length):ldC (some (true,k)) off lo b (some (cs,e,m))=some (.agg ⟨(cs.drop off).take k⟩):=by
 rw[fJ0 _ _ _ _ _ _ _ _ hb,sB0,if_pos hk]
theorem eW1 {α:Type}{f:α→List Z6}{n:Nat}(hf:∀ x,(f x).length=n){l:List α}{i j k:Nat}{x:α}(hx:l[i]?=some x)(hj:j+k≤n):((rw f l).drop (i*n+j)).take k=((f x).drop j).take k:=by
 have h1:=cY0 hf hx
 rw[← h1,List.drop_take,List.take_take,Nat.min_eq_left Z0,List.drop_drop]
structure Rw (h:jB){α:Type}(f:α→List Z6)(l:List α)(n0:Nat)(a:Z8 Addr):Prop where
 has:l=[]∨∃ b e m,a=some ⟨b,0,none⟩∧h.lo≤b∧b<h.next∧n0≤b∧cells h b=some (rw f l,e,m)
theorem Rw.grew {h h':jB}{S:Nat→Prop}{α:Type}{f:α→List Z6}{l:List α}{n0:Nat}{a:Z8 Addr}(r:Rw h f l n0 a)(g:jI h h' S)(hS:∀ b,n0≤b→b<h.next→¬ S b):Rw h' f l n0 a:=by
 rcases r.has with h0|⟨b,e,m,h1,h2,h3,h4,h5⟩
 ·exact ⟨.inl h0⟩
 ·exact ⟨.inr ⟨b,e,m,h1,by rw[g.lo];exact h2,Nat.lt_of_lt_of_le h3 g.next,h4,g.cellsE h5 h3 (hS b h4 h3)⟩⟩
theorem sC0 {h:jB}{α:Type}{f:α→List Z6}{l:List α}{n0 e n c:Nat}{a:Z8 Addr}(o:Own h e n a l.length c (rw f l))(hb:∀ b,blk a b→n0≤b):Rw h f l n0 a:=by
 rcases o.hat with ⟨h0,h1,_⟩|⟨b,m,h1,h2,h3,h4,_⟩
 ·exact ⟨.inl (List.eq_nil_of_length_eq_zero h1)⟩
 ·exact ⟨.inr ⟨b,e,m,h1,h2,h3,hb b ⟨0,none,h1⟩,h4⟩⟩
theorem qV0 {h h2:jB}{α:Type}{f:α→List Z6}{l:List α}{e:Nat}{v:Z6}(t:Told h e f l v h2):∃ a c,v=.slice a l.length c∧Rw h2 f l h.next a∧(∀ b,blk a b→h.next≤b∧b<h2.next):=by
 obtain ⟨a,c,h1,h3,h4,h5,_⟩:=t.has
 refine ⟨a,c,h1,⟨h4.imp id λ⟨b,k1,k2,m,k3⟩=>⟨b,e,m,k1,k2,(h5 b ⟨0,none,k1⟩).2,(h5 b ⟨0,none,k1⟩).1,k3⟩⟩,h5⟩
inductive I28 (h:jB)(v1 v2:Z6)(n:Nat):Nat→S→Prop
 | mk {i:Nat} {iv:Int} {x2 x3 x4 x6 x7 x8 x9 xA xB xC xD xE xF xG xH xI xJ xK xL xM xN xO xP:Z6}:iv=i→I28 h v1 v2 n (n-i) ⟨(F26 v1 v2 x2 x3 x4 (.int .i64 iv) x6 x7 x8 x9 xA xB xC xD xE xF xG xH xI xJ xK xL xM xN xO xP),[],h⟩
theorem tV0 {a1 a2:Z8 Addr}{c1 c2:Nat}{ks:List Int}(s1:Sl h a1 (ivs ks))(s2:Sl h a2 (ivs ks))(hn:ks.length<100000):jG (pp G) 28 [.slice a1 ks.length c1,.slice a2 ks.length c2] h (λv h'=>v=.bool true∧h'=h):=by
 refine jG.fir4 (jW G) fir28 rfl rfl (lP1 ..) λhlo=>?_
 rw[eD1]
 simp(disch:=first|omega|(apply id;simp only[push_cast];first|done|omega))only[push_cast,Nat.reduceAdd,Nat.reduceMul,Nat.reduceSub,Nat.reduceLT,Nat.reduceEqDiff,Nat.reduceLeDiff,Int.reduceToNat,reduceCtorEq,Int.reduceLT,Int.reduceLE,Int.reduceAdd,Int.reduceSub,Int.reduceMul,Int.reduceNeg,Int.reduceEq]
 refine W.loop4 (jW G) (I28 h (.slice a1 ks.length c1) (.slice a2 ks.length c2) ks.length) ?_ _ _ (I28.mk (i:=0) rfl)
 intro kk0 s1' hI
 cases hI with|@mk i iv _ _ _ _ _ _ _ _ _ _ _ _ _ _ _ _ _ _ _ _ _ _ _ hiv=>
 subst hiv
 rw[nH0]
 have w1:IntKind.i64.wrap ((i:Int)+1)=(i:Int)+1∨¬ i<ks.length:=by
  by_cases hh:i<ks.length
  ·exact .inl (wrap_i64 Z0 Z0)
  ·exact .inr hh
 by_cases h1:i<ks.length
 ·have h1':(i:Int)<(ks.length:Int):=Z0
  have w1:IntKind.i64.wrap ((i:Int)+1)=(i:Int)+1:=wrap_i64 Z0 Z0
  obtain ⟨b,off,rfl,l1⟩:=Sl.num s1 h1
  obtain ⟨b',off',rfl,l2⟩:=Sl.num s2 h1
  simp(disch:=first|omega|(apply id;simp only[push_cast];first|done|omega))only[push_cast,Nat.reduceAdd,Nat.reduceMul,Nat.reduceSub,Nat.reduceLT,Nat.reduceEqDiff,Nat.reduceLeDiff,Int.reduceToNat,reduceCtorEq,Int.reduceLT,Int.reduceLE,Int.reduceAdd,Int.reduceSub,Int.reduceMul,Int.reduceNeg,Int.reduceEq,h1',Z4,l1,l2,w1]
  exact ⟨ks.length-(i+1),Z0,I28.mk (i:=i+1) Z0⟩
 ·have h1':¬ (i:Int)<(ks.length:Int):=Z0
  simp(disch:=first|omega|(apply id;simp only[push_cast];first|done|omega))only[push_cast,Nat.reduceAdd,Nat.reduceMul,Nat.reduceSub,Nat.reduceLT,Nat.reduceEqDiff,Nat.reduceLeDiff,Int.reduceToNat,reduceCtorEq,Int.reduceLT,Int.reduceLE,Int.reduceAdd,Int.reduceSub,Int.reduceMul,Int.reduceNeg,Int.reduceEq,h1']
inductive I14 (h:jB)(vf vg va vb:Z6)(n:Nat):Nat→S→Prop
 | mk {i:Nat} {iv:Int} {x0 x1 x2 x3 x4 xA xB xC xD xE xF xG xH xI xJ xK xL xM xN xO xP xQ xR xS xT xU xV xW xX xY xZ yA yB yC yD yE yF yG yH yI yJ yK yL yM yN yO yP yQ yR yS yT yU yV yW yX yY yZ zA zB zC zD zE zF zG zH zI zJ zK zL zM zN zO zP zQ zR zS zT zU zV:Z6}:iv=i→I14 h vf vg va vb n (n-i) ⟨(F84 x0 x1 x2 x3 x4 vf vg va vb (.int .i64 iv) xA xB xC xD xE xF xG xH xI xJ xK xL xM xN xO xP xQ xR xS xT xU xV xW xX xY xZ yA yB yC yD yE yF yG yH yI yJ yK yL yM yN yO yP yQ yR yS yT yU yV yW yX yY yZ zA zB zC zD zE zF zG zH zI zJ zK zL zM zN zO zP zQ zR zS zT zU zV),[],h⟩
inductive I14b (h:jB)(vf vg va vb:Z6)(n:Nat):Nat→S→Prop
 | mk {i:Nat} {iv:Int} {x0 x1 x2 x3 x4 x9 xB xC xD xE xF xG xH xI xJ xK xL xM xN xO xP xQ xR xS xT xU xV xW xX xY xZ yA yB yC yD yE yF yG yH yI yJ yK yL yM yN yO yP yQ yR yS yT yU yV yW yX yY yZ zA zB zC zD zE zF zG zH zI zJ zK zL zM zN zO zP zQ zR zS zT zU zV:Z6}:iv=i→I14b h vf vg va vb n (n-i) ⟨(F84 x0 x1 x2 x3 x4 vf vg va vb x9 (.int .i64 iv) xB xC xD xE xF xG xH xI xJ xK xL xM xN xO xP xQ xR xS xT xU xV xW xX xY xZ yA yB yC yD yE yF yG yH yI yJ yK yL yM yN yO yP yQ yR yS yT yU yV yW yX yY yZ zA zB zC zD zE zF zG zH zI zJ zK zL zM zN zO zP zQ zR zS zT zU zV),[],h⟩
variable {h:jB} {p1 p2:Nat} {B:Nat→Prop} {w u:Wi} {n:Nat}
theorem bD1 (a:Pr h B p1 p2 w w)(ok:WOk w n)(hn:n<1000)(hl:w.op.length≤12):jG (pp G) 14 [.pointer (some ⟨p1,0,none⟩),.pointer (some ⟨p2,0,none⟩)] h (λv h'=>v=.bool true∧Gr h h'):=by
 refine jG.fir4 (jW G) fir14 rfl rfl (lB1 ..) λhlo=>?_
 rw[eR1]
 have hfl:=ok.fl
 have hap:=ok.ap
 obtain ⟨q,x,e1,e2,aq,ax,hd,hB⟩:=a.has
 subst e1 e2
 simp(disch:=first|omega|(apply id;simp only[push_cast];first|done|omega))only[push_cast,Nat.reduceAdd,Nat.reduceMul,Nat.reduceSub,Nat.reduceLT,Nat.reduceEqDiff,Nat.reduceLeDiff,Int.reduceToNat,reduceCtorEq,Int.reduceLT,Int.reduceLE,Int.reduceAdd,Int.reduceSub,Int.reduceMul,Int.reduceNeg,Int.reduceEq]
 refine jG.to (mD0 G h aq Z0) ?_
 intro vf h1 T1
 obtain ⟨af,cf,rfl,rf,_⟩:=qV0 T1
 have g1:=T1.gr
 simp(disch:=first|omega|(apply id;simp only[push_cast];first|done|omega))only[push_cast,Nat.reduceAdd,Nat.reduceMul,Nat.reduceSub,Nat.reduceLT,Nat.reduceEqDiff,Nat.reduceLeDiff,Int.reduceToNat,reduceCtorEq,Int.reduceLT,Int.reduceLE,Int.reduceAdd,Int.reduceSub,Int.reduceMul,Int.reduceNeg,Int.reduceEq]
 refine jG.to (zK1 G h1 (ax.grew g1 λ_ _ h=>h) Z0) ?_
 rintro _ h2 ⟨⟨ag,cg,rfl,og,bg⟩,g2⟩
 have rg:=sC0 og bg
 have G2:=g1.tr' g2 λ_ _ h=>h
 simp(disch:=first|omega|(apply id;simp only[push_cast];first|done|omega))only[push_cast,Nat.reduceAdd,Nat.reduceMul,Nat.reduceSub,Nat.reduceLT,Nat.reduceEqDiff,Nat.reduceLeDiff,Int.reduceToNat,reduceCtorEq,Int.reduceLT,Int.reduceLE,Int.reduceAdd,Int.reduceSub,Int.reduceMul,Int.reduceNeg,Int.reduceEq]
 refine jG.to (eN0 G h2 (aq.grew G2 λ_ _ h=>h) Z0) ?_
 intro va h3 T3
 obtain ⟨aa,ca,rfl,ra,_⟩:=qV0 T3
 have g3:=T3.gr
 have G3:=G2.tr' g3 λ_ _ h=>h
 simp(disch:=first|omega|(apply id;simp only[push_cast];first|done|omega))only[push_cast,Nat.reduceAdd,Nat.reduceMul,Nat.reduceSub,Nat.reduceLT,Nat.reduceEqDiff,Nat.reduceLeDiff,Int.reduceToNat,reduceCtorEq,Int.reduceLT,Int.reduceLE,Int.reduceAdd,Int.reduceSub,Int.reduceMul,Int.reduceNeg,Int.reduceEq]
 refine jG.to (qW1 G h3 (ax.grew G3 λ_ _ h=>h) Z0) ?_
 rintro _ h4 ⟨⟨ab,cb,rfl,ob,bb⟩,g4⟩
 have rb:=sC0 ob bb
 have G4:=G3.tr' g4 λ_ _ h=>h
 have z1:((w.fl.length:Int)=(w.fl.length:Int))=True:=by simp
 have z2:((w.ap.length:Int)=(w.ap.length:Int))=True:=by simp
 simp(disch:=first|omega|(apply id;simp only[push_cast];first|done|omega))only[push_cast,Nat.reduceAdd,Nat.reduceMul,Nat.reduceSub,Nat.reduceLT,Nat.reduceEqDiff,Nat.reduceLeDiff,Int.reduceToNat,reduceCtorEq,Int.reduceLT,Int.reduceLE,Int.reduceAdd,Int.reduceSub,Int.reduceMul,Int.reduceNeg,Int.reduceEq,z1,z2]
 refine jG.to (sE0 G (aq.grew G4 λ_ _ h=>h) hl ok.ris) ?_
 rintro _ h5 ⟨⟨ao,co,rfl,so,bo,_⟩,g5⟩
 have G5:=G4.tr' g5 λ_ _ h=>h
 simp(disch:=first|omega|(apply id;simp only[push_cast];first|done|omega))only[push_cast,Nat.reduceAdd,Nat.reduceMul,Nat.reduceSub,Nat.reduceLT,Nat.reduceEqDiff,Nat.reduceLeDiff,Int.reduceToNat,reduceCtorEq,Int.reduceLT,Int.reduceLE,Int.reduceAdd,Int.reduceSub,Int.reduceMul,Int.reduceNeg,Int.reduceEq]
 refine jG.to (sD0 G h5 (ax.grew G5 λ_ _ h=>h) Z0) ?_
 rintro _ h6 ⟨⟨ap,cp,rfl,op,bp⟩,g6⟩
 have G6:=G5.tr' g6 λ_ _ h=>h
 have hlk:w.op.length=(w.op.map (·.key)).length:=by simp
 rw[hlk]
 simp(disch:=first|omega|(apply id;simp only[push_cast];first|done|omega))only[push_cast,Nat.reduceAdd,Nat.reduceMul,Nat.reduceSub,Nat.reduceLT,Nat.reduceEqDiff,Nat.reduceLeDiff,Int.reduceToNat,reduceCtorEq,Int.reduceLT,Int.reduceLE,Int.reduceAdd,Int.reduceSub,Int.reduceMul,Int.reduceNeg,Int.reduceEq]
 refine jG.to (tV0 G h6 (Sl.grew so g6 λb hb _=>⟨(bo b hb).2,id⟩) op.sl (by rw[← hlk];omega)) ?_
 rintro _ _ ⟨rfl,e⟩
 rw[e]
 clear e
 simp(disch:=first|omega|(apply id;simp only[push_cast];first|done|omega))only[push_cast,Nat.reduceAdd,Nat.reduceMul,Nat.reduceSub,Nat.reduceLT,Nat.reduceEqDiff,Nat.reduceLeDiff,Int.reduceToNat,reduceCtorEq,Int.reduceLT,Int.reduceLE,Int.reduceAdd,Int.reduceSub,Int.reduceMul,Int.reduceNeg,Int.reduceEq]
 have RF:=((((rf.grew g2 λ_ _ _ h=>h).grew g3 λ_ _ _ h=>h).grew g4 λ_ _ _ h=>h).grew g5 λ_ _ _ h=>h).grew g6 λ_ _ _ h=>h
 have RG:=(((rg.grew g3 λ_ _ _ h=>h).grew g4 λ_ _ _ h=>h).grew g5 λ_ _ _ h=>h).grew g6 λ_ _ _ h=>h
 have RA:=((ra.grew g4 λ_ _ _ h=>h).grew g5 λ_ _ _ h=>h).grew g6 λ_ _ _ h=>h
 have RB:=(rb.grew g5 λ_ _ _ h=>h).grew g6 λ_ _ _ h=>h
 refine W.loop4 (jW G) (I14 h6 (.slice af w.fl.length cf) (.slice ag w.fl.length cg) (.slice aa w.ap.length ca) (.slice ab w.ap.length cb) w.fl.length) ?_ _ _ (I14.mk (i:=0) rfl)
 intro kk0 s1' hI
 cases hI with|@mk i iv _ _ _ _ _ _ _ _ _ _ _ _ _ _ _ _ _ _ _ _ _ _ _ _ _ _ _ _ _ _ _ _ _ _ _ _ _ _ _ _ _ _ _ _ _ _ _ _ _ _ _ _ _ _ _ _ _ _ _ _ _ _ _ _ _ _ _ _ _ _ _ _ _ _ _ _ _ _ _ hiv=>
 subst hiv
 rw[nJ0]
 by_cases h1':i<w.fl.length
 ·have h1i:(i:Int)<(w.fl.length:Int):=Z0
  have w1:IntKind.i64.wrap ((i:Int)+1)=(i:Int)+1:=wrap_i64 Z0 Z0
  obtain ⟨⟨bk,⟨nm,ky,vl⟩⟩,hm⟩:∃ m,w.fl[i]?=some m:=⟨_,List.getElem?_eq_getElem h1'⟩
  rcases RF.has with e0|⟨b,e,m,rfl,k1,k2,k3,k4⟩
  ·rw[e0] at h1';simp at h1'
  rcases RG.has with e0|⟨b',e',m',rfl,k1',k2',k3',k4'⟩
  ·rw[e0] at h1';simp at h1'
  have hlen:=qE qA w.fl
  have hm4:=Nat.mul_le_mul_right 4 (show i+1≤w.fl.length from h1')
  have l0:=bT0 (b:=b) (e:=e) (m:=m) k1 (show (rw msC w.fl)[i*4+0]?=_ from (cX0 qA hm Z1).trans rfl)
  have l0':=bT0 (b:=b') (e:=e') (m:=m') k1' (show (rw msC w.fl)[i*4+0]?=_ from (cX0 qA hm Z1).trans rfl)
  have l1:=bU0 (lo:=h6.lo) (k:=3) (b:=b) (e:=e) (m:=m) k1 (show i*4+1+3≤(rw msC w.fl).length by omega)
  have l1':=bU0 (lo:=h6.lo) (k:=3) (b:=b') (e:=e') (m:=m') k1' (show i*4+1+3≤(rw msC w.fl).length by omega)
  rw[eW1 qA hm Z1] at l1 l1'
  have l1:ldC (some (true,3)) (i*4+1) h6.lo b (some (rw msC w.fl,e,m))=some (.agg ⟨[.string (Tx nm),.int .i64 ky,.int .i64 vl]⟩):=l1
  have l1':ldC (some (true,3)) (i*4+1) h6.lo b' (some (rw msC w.fl,e',m'))=some (.agg ⟨[.string (Tx nm),.int .i64 ky,.int .i64 vl]⟩):=l1'
  rw[Nat.add_zero] at l0 l0'
  simp(disch:=first|omega|(apply id;simp only[push_cast];first|done|omega))only[push_cast,Nat.reduceAdd,Nat.reduceMul,Nat.reduceSub,Nat.reduceLT,Nat.reduceEqDiff,Nat.reduceLeDiff,Int.reduceToNat,reduceCtorEq,Int.reduceLT,Int.reduceLE,Int.reduceAdd,Int.reduceSub,Int.reduceMul,Int.reduceNeg,Int.reduceEq,h1i,Z4,k4,k4',l0,l0',l1,l1',w1,qU1,beq_self_eq_true]
  exact ⟨w.fl.length-(i+1),Z0,I14.mk (i:=i+1) Z0⟩
 ·have h1i:¬ (i:Int)<(w.fl.length:Int):=Z0
  simp(disch:=first|omega|(apply id;simp only[push_cast];first|done|omega))only[push_cast,Nat.reduceAdd,Nat.reduceMul,Nat.reduceSub,Nat.reduceLT,Nat.reduceEqDiff,Nat.reduceLeDiff,Int.reduceToNat,reduceCtorEq,Int.reduceLT,Int.reduceLE,Int.reduceAdd,Int.reduceSub,Int.reduceMul,Int.reduceNeg,Int.reduceEq,h1i]
  refine W.loop4 (jW G) (I14b h6 (.slice af w.fl.length cf) (.slice ag w.fl.length cg) (.slice aa w.ap.length ca) (.slice ab w.ap.length cb) w.ap.length) ?_ _ _ (I14b.mk (i:=0) rfl)
  intro kk1 s2' hI
  cases hI with|@mk i iv _ _ _ _ _ _ _ _ _ _ _ _ _ _ _ _ _ _ _ _ _ _ _ _ _ _ _ _ _ _ _ _ _ _ _ _ _ _ _ _ _ _ _ _ _ _ _ _ _ _ _ _ _ _ _ _ _ _ _ _ _ _ _ _ _ _ _ _ _ _ _ _ _ _ _ _ _ _ _ hiv=>
  subst hiv
  rw[nI0]
  by_cases h2':i<w.ap.length
  ·have h2i:(i:Int)<(w.ap.length:Int):=Z0
   have w1:IntKind.i64.wrap ((i:Int)+1)=(i:Int)+1:=wrap_i64 Z0 Z0
   obtain ⟨⟨nm,ky,vl⟩,hm⟩:∃ m,w.ap[i]?=some m:=⟨_,List.getElem?_eq_getElem h2'⟩
   rcases RA.has with e0|⟨b,e,m,rfl,k1,k2,k3,k4⟩
   ·rw[e0] at h2';simp at h2'
   rcases RB.has with e0|⟨b',e',m',rfl,k1',k2',k3',k4'⟩
   ·rw[e0] at h2';simp at h2'
   have hlen:=qE bH w.ap
   have hm4:=Nat.mul_le_mul_right 3 (show i+1≤w.ap.length from h2')
   have l1:=bU0 (lo:=h6.lo) (k:=3) (b:=b) (e:=e) (m:=m) k1 (show i*3+3≤(rw evC w.ap).length by omega)
   have l1':=bU0 (lo:=h6.lo) (k:=3) (b:=b') (e:=e') (m:=m') k1' (show i*3+3≤(rw evC w.ap).length by omega)
   rw[cY0 bH hm] at l1 l1'
   have l1:ldC (some (true,3)) (i*3) h6.lo b (some (rw evC w.ap,e,m))=some (.agg ⟨[.string (Tx nm),.int .i64 ky,.int .i64 vl]⟩):=l1
   have l1':ldC (some (true,3)) (i*3) h6.lo b' (some (rw evC w.ap,e',m'))=some (.agg ⟨[.string (Tx nm),.int .i64 ky,.int .i64 vl]⟩):=l1'
   simp(disch:=first|omega|(apply id;simp only[push_cast];first|done|omega))only[push_cast,Nat.reduceAdd,Nat.reduceMul,Nat.reduceSub,Nat.reduceLT,Nat.reduceEqDiff,Nat.reduceLeDiff,Int.reduceToNat,reduceCtorEq,Int.reduceLT,Int.reduceLE,Int.reduceAdd,Int.reduceSub,Int.reduceMul,Int.reduceNeg,Int.reduceEq,h2i,Z4,k4,k4',l1,l1',w1,qU1]
   exact ⟨w.ap.length-(i+1),Z0,I14b.mk (i:=i+1) Z0⟩
  ·have h2i:¬ (i:Int)<(w.ap.length:Int):=Z0
   simp(disch:=first|omega|(apply id;simp only[push_cast];first|done|omega))only[push_cast,Nat.reduceAdd,Nat.reduceMul,Nat.reduceSub,Nat.reduceLT,Nat.reduceEqDiff,Nat.reduceLeDiff,Int.reduceToNat,reduceCtorEq,Int.reduceLT,Int.reduceLE,Int.reduceAdd,Int.reduceSub,Int.reduceMul,Int.reduceNeg,Int.reduceEq,h2i]
   exact G6
end
end Go.Proofs.Ytejgmoenmbjidaa
namespace Go.Proofs.Ytejgmoenmbjidaa
open _root_.Go.Proofs.Try (prog)
open Go Go.RowKit Go.Ev
noncomputable section
set_option maxRecDepth 100000
variable (G:Nat) {h:jB} {p1 p2:Nat} {B:Nat→Prop} {w u:Wi} {n:Nat}
theorem nW0 (w:Wi)(i:Int):(jQ w i).2.vs=w.vs:=by
 have dv:∀ i,(jX w i).vs=w.vs:=λi=>by unfold jX;split<;>rfl
 unfold jQ
 split
 ·split
  ·rfl
  ·split
   ·split
    ·exact dv i
    ·exact dv i
   ·rename_i m _ _
    show (jY (jX w i) m.e).2.vs=w.vs
    rw[← dv i]
    unfold jY
    cases kF m.e.key (jX w i).kp<;>rfl
 ·rfl
theorem rowN (h:jB):bsC 2 9 h (wV0 (List.map (λi=>(i,1)) (List.range 2)) (List.replicate 2 [Value.string (Tx [])]).flatten (Value.string (Tx [112,97,121])) [(1,Value.string (Tx [115,104,105,112]))] (List.map (λi=>(i,1)) (List.range 2))[0]?)=some (.slice (some ⟨h.next,0,none⟩) 2 2,h.add (O [.string (Tx [112,97,121]),.string (Tx [115,104,105,112])] 9 false)):=Z7
structure StpR (h:jB)(B:Nat→Prop)(p1 p2:Nat)(w:Wi)(n:Nat)(h':jB):Prop where
 has:∃ w',Pr h' (λb=>B b∨h.next≤b) p1 p2 w' w'∧WOk w' (n+1)∧WRg w'∧(AIn w→AIn w')∧w'.vs=w.vs
 gr:jI h h' B
theorem StpR.two {h h1 h2:jB}{w':Wi}(a1:PrP h B p1 p2 w' w h1)(a2:PrP h1 (λb=>B b∨h.next≤b) p1 p2 w' w' h2)(ok:WOk w' (n+1))(rg:WRg w')(ai:AIn w→AIn w')(hv:w'.vs=w.vs):StpR h B p1 p2 w n h2:=
 ⟨⟨w',a2.at_.mono λb hb=>hb.elim id λh=>by have:=a1.gr.next;exact .inr Z0,ok,rg,ai,hv⟩,a1.gr.tr' a2.gr λb hlt hb=>hb.elim id λh=>by omega⟩
theorem Pr.cut (a:Pr h B p1 p2 w u):Pr h (λb=>B b∧b<h.next) p1 p2 w u:=by
 obtain ⟨q,x,e1,e2,h1,h2,h3,h4⟩:=a.has
 exact ⟨q,x,e1,e2,h1,h2,h3,λb hb=>⟨h4 b hb,(h4 b hb).2⟩⟩
theorem StpR.mono {C:Nat→Prop}{h h':jB}(r:StpR h B p1 p2 w n h')(hb:∀ b,B b→C b):StpR h C p1 p2 w n h':=by
 obtain ⟨w',h1,h2⟩:=r.has
 exact ⟨⟨w',h1.mono λb h=>h.imp (hb b) id,h2⟩,r.gr.mono λb _=>hb b⟩
theorem StpR.box {h h1 h2 h3 h4:jB}{w':Wi}(hB:∀ b,B b→b<h.next)(a1:PrP h B p1 p2 w' w h1)(g12:Gr h1 h2)(a2:PrP h2 (λb=>(B b∨h.next≤b)∧b<h1.next) p1 p2 w' w' h3)(g34:Gr h3 h4)(ok:WOk w' (n+1))(rg:WRg w')(ai:AIn w→AIn w')(hv:w'.vs=w.vs):StpR h B p1 p2 w n h4:=
 ⟨⟨w',(a2.at_.mono λb hb=>hb.elim (λh=>h.1) λh=>by have:=a1.gr.next;have:=g12.next;exact .inr Z0).grew g34 λ_ _ _ h=>h,ok,rg,ai,hv⟩,((a1.gr.tr' g12 λ_ _ h=>h.elim).tr' a2.gr λb hlt hb=>hb.1.elim id λh=>by omega).tr' g34 λ_ _ h=>h.elim⟩
set_option maxHeartbeats 8000000 in
theorem cX1 (hB0:∀ b,B b→b<h.next)(a:Pr h B p1 p2 w w)(ok:WOk w n)(hn:n<900)(rg:WRg w)(nv:Int):jG (pp G) 13 [.pointer (some ⟨p1,0,none⟩),.pointer (some ⟨p2,0,none⟩),.int .i64 nv] h (λv h'=>v=.bool true∧StpR h B p1 p2 w n h'):=by
 refine jG.fir4 (jW G) fir13 rfl rfl (gU1 ..) λhlo=>?_
 rw[eS1]
 have hfl:=ok.fl
 have hol:=gH0 ok rg
 have hc:cells h p2=some (.slice none 0 0 :: [],0,false)∨∃ q:Xp,q.p=p2∧cells h p2=some (xcs q w,59,false)∧h.lo≤p2:=by
  obtain ⟨q,x,e1,e2,aq,ax,hd,hB⟩:=a.has
  exact .inr ⟨x,e2,by rw[← e2];exact ax.cell,by rw[← e2];exact ax.lo⟩
 rcases hc with hc|⟨x,rfl,hc,hl⟩
 ·obtain ⟨q,x,e1,e2,aq,ax,hd,hB⟩:=a.has
  rw[← e2,ax.cell] at hc
  unfold xcs at hc
  simp at hc
 unfold xcs at hc
 have w1:IntKind.i64.wrap ((w.fl.length:Int)+2)=(w.fl.length:Int)+2:=wrap_i64 Z0 Z0
 simp(disch:=first|omega|(apply id;simp only[push_cast];first|done|omega))only[push_cast,Nat.reduceAdd,Nat.reduceMul,Nat.reduceSub,Nat.reduceLT,Nat.reduceEqDiff,Nat.reduceLeDiff,Int.reduceToNat,reduceCtorEq,Int.reduceLT,Int.reduceLE,Int.reduceAdd,Int.reduceSub,Int.reduceMul,Int.reduceNeg,Int.reduceEq,hc,hl,w1]
 generalize IntKind.i64.wrap (nv.tdiv 12)=kv
 refine jG.to (bO G h kv ((w.fl.length:Int)+2) Z0 Z0) ?_
 rintro _ _ ⟨rfl,e⟩
 rw[e]
 clear e
 have hr:=wM0 kv ((w.fl.length:Int)+2) Z0
 have w2:IntKind.i64.wrap (Wi' kv ((w.fl.length:Int)+2)-1)=Wi' kv ((w.fl.length:Int)+2)-1:=wrap_i64 Z0 Z0
 simp(disch:=first|omega|(apply id;simp only[push_cast];first|done|omega))only[push_cast,Nat.reduceAdd,Nat.reduceMul,Nat.reduceSub,Nat.reduceLT,Nat.reduceEqDiff,Nat.reduceLeDiff,Int.reduceToNat,reduceCtorEq,Int.reduceLT,Int.reduceLE,Int.reduceAdd,Int.reduceSub,Int.reduceMul,Int.reduceNeg,Int.reduceEq,w2]
 generalize Wi' kv ((w.fl.length:Int)+2)-1=at_
 refine jG.to (bO G h nv 12 Z1 Z1) ?_
 rintro _ _ ⟨rfl,e⟩
 rw[e]
 clear e
 have hs:=wM0 nv 12 Z1
 generalize Wi' nv 12=s at hs ⊢
 have hcs:(s=0∨s=1∨s=2)∨s=3∨(s=4∨s=5)∨(s=6∨s=7∨s=8)∨s=9∨s=10∨s=11:=Z0
 rcases hcs with hs|rfl|hs|hs|rfl|rfl|rfl
 ·have hr2:=wM0 kv 2 Z1
  have hr6:=wM0 (IntKind.i64.wrap (kv.tdiv 2)) 6 Z1
  have h01:Wi' kv 2=0∨Wi' kv 2=1:=Z0
  have main : ∀ (H : jB) (bx : Nat) (nm : List Zu) (ky vl : Int) (k : Z6 → jB → Prop), Gr h H → cells H bx = some ([.string (Tx nm), .int .i64 ky, .int .i64 vl], 31, false) → h.next ≤ bx → bx < H.next → 0 ≤ ky ∧ ky < 12 →
    (∀ h1,cells h1 bx=some ([.string (Tx nm),.int .i64 ky,.int .i64 vl],31,false)→h1.lo=H.lo→(∀ k2,(∀ h2,StpR h B p1 x.p w n h2→k2 (.tuple #[]) h2)→wN0 (pp G) 31 [.pointer (some ⟨x.p,0,none⟩),.agg ⟨[.string (Tx nm),.int .i64 ky,.int .i64 vl]⟩] h1 k2)→k (.tuple #[]) h1)→
    wN0 (pp G) 24 [.pointer (some ⟨p1,0,none⟩),.agg ⟨[.string (Tx nm),.int .i64 ky,.int .i64 vl]⟩] H k:=λH bx nm ky vl k gH hb hb1 hb2 hky hk=>by
   refine jG.to (sX1 G (a.grew gH λ_ _ _ h=>h) ok Z0 ⟨nm,ky,vl⟩) ?_
   rintro _ h1 ⟨rfl,a1⟩
   have nH:=gH.next
   refine hk h1 (a1.gr.cellsE hb hb2 λhh=>by have:=hB0 _ hh;omega) a1.gr.lo λk2 hk2=>?_
   refine jG.to (sW1 G a1.at_ ok Z0 hol ⟨nm,ky,vl⟩) ?_
   rintro _ h2 ⟨rfl,a2⟩
   refine hk2 h2 ?_
   have a1':PrP h B p1 x.p (askW w nm ky) w h1:=⟨a1.at_.mono λb hb=>hb.imp id λh=>by omega,(jI.mono gH (T:=B) λ_ _ h=>h.elim).tr' a1.gr λb _ h=>h⟩
   have a2':PrP h1 (λb=>B b∨h.next≤b) p1 x.p (askW w nm ky) (askW w nm ky) h2:=⟨a2.at_.mono λb hb=>hb.imp (λh=>h.imp id λh=>by omega) id,a2.gr.mono λb _ hb=>hb.imp id λh=>by omega⟩
   exact StpR.two a1' a2' (mN0 ok _ _) (bT1 rg _ _ hky) (λh=>(sV1 h _ _).1) (by unfold askW;split<;>rfl)
  have hky:0≤Wi' (IntKind.i64.wrap (kv.tdiv 2)) 6∧Wi' (IntKind.i64.wrap (kv.tdiv 2)) 6<12:=Z0
  rcases hs with rfl|rfl|rfl<;>rcases h01 with e2|e2<;>
  ·simp(disch:=first|omega|(apply id;simp only[push_cast];first|done|omega))only[push_cast,Nat.reduceAdd,Nat.reduceMul,Nat.reduceSub,Nat.reduceLT,Nat.reduceEqDiff,Nat.reduceLeDiff,Int.reduceToNat,reduceCtorEq,Int.reduceLT,Int.reduceLE,Int.reduceAdd,Int.reduceSub,Int.reduceMul,Int.reduceNeg,Int.reduceEq,rowN,hlo]
   repeat' (first
    | (refine ⟨?_,?_⟩)
    | (refine jG.to (bO G _ kv 2 Z1 Z1) ?_;rintro _ _ ⟨rfl,e⟩;rw[e];clear e;simp(disch:=first|omega|(apply id;simp only[push_cast];first|done|omega))only[push_cast,Nat.reduceAdd,Nat.reduceMul,Nat.reduceSub,Nat.reduceLT,Nat.reduceEqDiff,Nat.reduceLeDiff,Int.reduceToNat,reduceCtorEq,Int.reduceLT,Int.reduceLE,Int.reduceAdd,Int.reduceSub,Int.reduceMul,Int.reduceNeg,Int.reduceEq,rowN,e2,hlo])
    | (refine jG.to (bO G _ (IntKind.i64.wrap (kv.tdiv 2)) 6 Z1 Z1) ?_;rintro _ _ ⟨rfl,e⟩;rw[e];clear e;simp(disch:=first|omega|(apply id;simp only[push_cast];first|done|omega))only[push_cast,Nat.reduceAdd,Nat.reduceMul,Nat.reduceSub,Nat.reduceLT,Nat.reduceEqDiff,Nat.reduceLeDiff,Int.reduceToNat,reduceCtorEq,Int.reduceLT,Int.reduceLE,Int.reduceAdd,Int.reduceSub,Int.reduceMul,Int.reduceNeg,Int.reduceEq,rowN,e2,hlo]))
   all_goals first
    | (refine main _ (h.next) _ _ _ _ (by (repeat (first | exact Gr.refl _ | assumption | (refine jI.put' ?_ _ _ (by first | omega | (simp only[push_cast];omega))) | (refine jI.add' ?_ _)))) (by simp(disch:=first|omega|(apply id;simp only[push_cast];first|done|omega))only[push_cast,Nat.reduceAdd,Nat.reduceMul,Nat.reduceSub,Nat.reduceLT,Nat.reduceEqDiff,Nat.reduceLeDiff,Int.reduceToNat,reduceCtorEq,Int.reduceLT,Int.reduceLE,Int.reduceAdd,Int.reduceSub,Int.reduceMul,Int.reduceNeg,Int.reduceEq]) (Z3 _) (by first | omega | (simp only[jN,jH];omega)) hky λh1 hcb hl1 hk2=>?_;simp only[qI,jS] at hl1;simp(disch:=first|omega|(apply id;simp only[push_cast];first|done|omega))only[push_cast,Nat.reduceAdd,Nat.reduceMul,Nat.reduceSub,Nat.reduceLT,Nat.reduceEqDiff,Nat.reduceLeDiff,Int.reduceToNat,reduceCtorEq,Int.reduceLT,Int.reduceLE,Int.reduceAdd,Int.reduceSub,Int.reduceMul,Int.reduceNeg,Int.reduceEq,hcb,hl1,hlo];refine hk2 _ λh2 r=>?_;simp(disch:=first|omega|(apply id;simp only[push_cast];first|done|omega))only[push_cast,Nat.reduceAdd,Nat.reduceMul,Nat.reduceSub,Nat.reduceLT,Nat.reduceEqDiff,Nat.reduceLeDiff,Int.reduceToNat,reduceCtorEq,Int.reduceLT,Int.reduceLE,Int.reduceAdd,Int.reduceSub,Int.reduceMul,Int.reduceNeg,Int.reduceEq];exact r)
    | (refine main _ (h.next+1) _ _ _ _ (by (repeat (first | exact Gr.refl _ | assumption | (refine jI.put' ?_ _ _ (by first | omega | (simp only[push_cast];omega))) | (refine jI.add' ?_ _)))) (by simp(disch:=first|omega|(apply id;simp only[push_cast];first|done|omega))only[push_cast,Nat.reduceAdd,Nat.reduceMul,Nat.reduceSub,Nat.reduceLT,Nat.reduceEqDiff,Nat.reduceLeDiff,Int.reduceToNat,reduceCtorEq,Int.reduceLT,Int.reduceLE,Int.reduceAdd,Int.reduceSub,Int.reduceMul,Int.reduceNeg,Int.reduceEq]) (Nat.le_succ _) (by first | omega | (simp only[jN,jH];omega)) hky λh1 hcb hl1 hk2=>?_;simp only[qI,jS] at hl1;simp(disch:=first|omega|(apply id;simp only[push_cast];first|done|omega))only[push_cast,Nat.reduceAdd,Nat.reduceMul,Nat.reduceSub,Nat.reduceLT,Nat.reduceEqDiff,Nat.reduceLeDiff,Int.reduceToNat,reduceCtorEq,Int.reduceLT,Int.reduceLE,Int.reduceAdd,Int.reduceSub,Int.reduceMul,Int.reduceNeg,Int.reduceEq,hcb,hl1,hlo];refine hk2 _ λh2 r=>?_;simp(disch:=first|omega|(apply id;simp only[push_cast];first|done|omega))only[push_cast,Nat.reduceAdd,Nat.reduceMul,Nat.reduceSub,Nat.reduceLT,Nat.reduceEqDiff,Nat.reduceLeDiff,Int.reduceToNat,reduceCtorEq,Int.reduceLT,Int.reduceLE,Int.reduceAdd,Int.reduceSub,Int.reduceMul,Int.reduceNeg,Int.reduceEq];exact r)
 ·-- Forget
  simp(disch:=first|omega|(apply id;simp only[push_cast];first|done|omega))only[push_cast,Nat.reduceAdd,Nat.reduceMul,Nat.reduceSub,Nat.reduceLT,Nat.reduceEqDiff,Nat.reduceLeDiff,Int.reduceToNat,reduceCtorEq,Int.reduceLT,Int.reduceLE,Int.reduceAdd,Int.reduceSub,Int.reduceMul,Int.reduceNeg,Int.reduceEq]
  refine jG.to (bO G h kv 7 Z1 Z1) ?_
  rintro _ _ ⟨rfl,e⟩
  rw[e]
  clear e
  simp(disch:=first|omega|(apply id;simp only[push_cast];first|done|omega))only[push_cast,Nat.reduceAdd,Nat.reduceMul,Nat.reduceSub,Nat.reduceLT,Nat.reduceEqDiff,Nat.reduceLeDiff,Int.reduceToNat,reduceCtorEq,Int.reduceLT,Int.reduceLE,Int.reduceAdd,Int.reduceSub,Int.reduceMul,Int.reduceNeg,Int.reduceEq]
  refine jG.to (jD1 G a ok _) ?_
  rintro _ h1 ⟨rfl,a1⟩
  simp(disch:=first|omega|(apply id;simp only[push_cast];first|done|omega))only[push_cast,Nat.reduceAdd,Nat.reduceMul,Nat.reduceSub,Nat.reduceLT,Nat.reduceEqDiff,Nat.reduceLeDiff,Int.reduceToNat,reduceCtorEq,Int.reduceLT,Int.reduceLE,Int.reduceAdd,Int.reduceSub,Int.reduceMul,Int.reduceNeg,Int.reduceEq]
  refine jG.to (bO G h1 kv 7 Z1 Z1) ?_
  rintro _ _ ⟨rfl,e⟩
  rw[e]
  clear e
  simp(disch:=first|omega|(apply id;simp only[push_cast];first|done|omega))only[push_cast,Nat.reduceAdd,Nat.reduceMul,Nat.reduceSub,Nat.reduceLT,Nat.reduceEqDiff,Nat.reduceLeDiff,Int.reduceToNat,reduceCtorEq,Int.reduceLT,Int.reduceLE,Int.reduceAdd,Int.reduceSub,Int.reduceMul,Int.reduceNeg,Int.reduceEq]
  refine jG.to (jC1 G a1.at_ ok hol _) ?_
  rintro _ h2 ⟨rfl,a2⟩
  simp(disch:=first|omega|(apply id;simp only[push_cast];first|done|omega))only[push_cast,Nat.reduceAdd,Nat.reduceMul,Nat.reduceSub,Nat.reduceLT,Nat.reduceEqDiff,Nat.reduceLeDiff,Int.reduceToNat,reduceCtorEq,Int.reduceLT,Int.reduceLE,Int.reduceAdd,Int.reduceSub,Int.reduceMul,Int.reduceNeg,Int.reduceEq]
  exact StpR.two a1 a2 ((dT0 ok _).le (Nat.le_succ _)) (dS0 rg _) (λh=>(dU0 h _).1) rfl
 ·rcases hs with rfl|rfl<;>
  ·simp(disch:=first|omega|(apply id;simp only[push_cast];first|done|omega))only[push_cast,Nat.reduceAdd,Nat.reduceMul,Nat.reduceSub,Nat.reduceLT,Nat.reduceEqDiff,Nat.reduceLeDiff,Int.reduceToNat,reduceCtorEq,Int.reduceLT,Int.reduceLE,Int.reduceAdd,Int.reduceSub,Int.reduceMul,Int.reduceNeg,Int.reduceEq]
   refine jG.to (cT1 G a ok Z0 hol) ?_
   rintro _ h1 ⟨rfl,a1⟩
   simp(disch:=first|omega|(apply id;simp only[push_cast];first|done|omega))only[push_cast,Nat.reduceAdd,Nat.reduceMul,Nat.reduceSub,Nat.reduceLT,Nat.reduceEqDiff,Nat.reduceLeDiff,Int.reduceToNat,reduceCtorEq,Int.reduceLT,Int.reduceLE,Int.reduceAdd,Int.reduceSub,Int.reduceMul,Int.reduceNeg,Int.reduceEq]
   refine jG.to (cS1 G a1.at_ ok Z0 hol) ?_
   rintro _ h2 ⟨rfl,a2⟩
   simp(disch:=first|omega|(apply id;simp only[push_cast];first|done|omega))only[push_cast,Nat.reduceAdd,Nat.reduceMul,Nat.reduceSub,Nat.reduceLT,Nat.reduceEqDiff,Nat.reduceLeDiff,Int.reduceToNat,reduceCtorEq,Int.reduceLT,Int.reduceLE,Int.reduceAdd,Int.reduceSub,Int.reduceMul,Int.reduceNeg,Int.reduceEq]
   exact StpR.two a1 a2 (pY0 ok hol) (pX0 rg) (λh=>(cR1 h).1) rfl
 ·rcases hs with rfl|rfl|rfl<;>
  ·simp(disch:=first|omega|(apply id;simp only[push_cast];first|done|omega))only[push_cast,Nat.reduceAdd,Nat.reduceMul,Nat.reduceSub,Nat.reduceLT,Nat.reduceEqDiff,Nat.reduceLeDiff,Int.reduceToNat,reduceCtorEq,Int.reduceLT,Int.reduceLE,Int.reduceAdd,Int.reduceSub,Int.reduceMul,Int.reduceNeg,Int.reduceEq]
   refine jG.to (nZ0 G a ok Z0 at_) ?_
   rintro _ h1 ⟨rfl,a1⟩
   have okD:=uC0 ok at_
   have rgD:=gW0 rg at_
   have inD:=λh=>(nX0 (w:=w) h ok.kp at_).1
   have vsD:(jQ w at_).2.vs=w.vs:=nW0 w at_
   generalize hD:jQ w at_=D at *
   obtain ⟨⟨⟨nm,ky,vl⟩,is⟩,w'⟩:=D
   unfold evC
   dsimp only at a1 okD rgD inD vsD ⊢
   have n1:=a1.gr.next
   have lo1:=qK a1.gr hlo
   have g2:=λ(x y:jV)=>((Gr.refl h1).add' x).put' h1.next y (Z3 _)
   simp(disch:=first|omega|(apply id;simp only[push_cast];first|done|omega))only[push_cast,Nat.reduceAdd,Nat.reduceMul,Nat.reduceSub,Nat.reduceLT,Nat.reduceEqDiff,Nat.reduceLeDiff,Int.reduceToNat,reduceCtorEq,Int.reduceLT,Int.reduceLE,Int.reduceAdd,Int.reduceSub,Int.reduceMul,Int.reduceNeg,Int.reduceEq,lo1]
   refine jG.to (nY0 G (a1.at_.cut.grew (g2 _ _) λ_ _ _ h=>h) ok Z0 hol at_) ?_
   rintro _ h3 ⟨rfl,a3⟩
   rw[hD] at a3 ⊢
   unfold evC
   dsimp only at a3 ⊢
   have n3:=a3.gr.next
   rw[jN,jH] at n3
   have l3:=a3.gr.lo
   rw[qI,jS] at l3
   have lo3:h3.lo≤h3.next:=Z0
   have cb1:=a3.gr.cellsE (jO (h:=h1.add (O [.string (Tx []),.int .i64 0,.int .i64 0] 31 false)) h1.next [.string (Tx nm),.int .i64 ky,.int .i64 vl] 31 false) (by rw[jN,jH];omega) (λhb=>by have:=hb.2;omega)
   have l31:h3.lo≤h1.next:=Z0
   have g4:=λ(x y:jV)=>((Gr.refl h3).add' x).put' h3.next y (Z3 _)
   have cb4:=λx y=>Gr.cells (g4 x y) cb1 Z0
   simp(disch:=first|omega|(apply id;simp only[push_cast];first|done|omega))only[push_cast,Nat.reduceAdd,Nat.reduceMul,Nat.reduceSub,Nat.reduceLT,Nat.reduceEqDiff,Nat.reduceLeDiff,Int.reduceToNat,reduceCtorEq,Int.reduceLT,Int.reduceLE,Int.reduceAdd,Int.reduceSub,Int.reduceMul,Int.reduceNeg,Int.reduceEq,lo3,cb4,l31,iS1,beq_self_eq_true]
   exact StpR.box hB0 a1 (g2 _ _) a3 (g4 _ _) okD rgD inD vsD
 ·simp(disch:=first|omega|(apply id;simp only[push_cast];first|done|omega))only[push_cast,Nat.reduceAdd,Nat.reduceMul,Nat.reduceSub,Nat.reduceLT,Nat.reduceEqDiff,Nat.reduceLeDiff,Int.reduceToNat,reduceCtorEq,Int.reduceLT,Int.reduceLE,Int.reduceAdd,Int.reduceSub,Int.reduceMul,Int.reduceNeg,Int.reduceEq]
  refine jG.to (iK1 G a ok Z0 _) ?_
  rintro _ h1 ⟨rfl,a1⟩
  simp(disch:=first|omega|(apply id;simp only[push_cast];first|done|omega))only[push_cast,Nat.reduceAdd,Nat.reduceMul,Nat.reduceSub,Nat.reduceLT,Nat.reduceEqDiff,Nat.reduceLeDiff,Int.reduceToNat,reduceCtorEq,Int.reduceLT,Int.reduceLE,Int.reduceAdd,Int.reduceSub,Int.reduceMul,Int.reduceNeg,Int.reduceEq]
  refine jG.to (iJ1 G a1.at_ ok Z0 _) ?_
  rintro _ h2 ⟨rfl,a2⟩
  simp(disch:=first|omega|(apply id;simp only[push_cast];first|done|omega))only[push_cast,Nat.reduceAdd,Nat.reduceMul,Nat.reduceSub,Nat.reduceLT,Nat.reduceEqDiff,Nat.reduceLeDiff,Int.reduceToNat,reduceCtorEq,Int.reduceLT,Int.reduceLE,Int.reduceAdd,Int.reduceSub,Int.reduceMul,Int.reduceNeg,Int.reduceEq,beq_self_eq_true]
  exact StpR.two a1 a2 ((yH0 ok _).le (Nat.le_succ _)) (iG0 rg _) (λh=>(jY1 h _).1) (by unfold jX;split<;>rfl)
 ·simp(disch:=first|omega|(apply id;simp only[push_cast];first|done|omega))only[push_cast,Nat.reduceAdd,Nat.reduceMul,Nat.reduceSub,Nat.reduceLT,Nat.reduceEqDiff,Nat.reduceLeDiff,Int.reduceToNat,reduceCtorEq,Int.reduceLT,Int.reduceLE,Int.reduceAdd,Int.reduceSub,Int.reduceMul,Int.reduceNeg,Int.reduceEq]
  refine jG.to (wB1 G a ok Z0 _) ?_
  rintro _ h1 ⟨rfl,a1⟩
  simp(disch:=first|omega|(apply id;simp only[push_cast];first|done|omega))only[push_cast,Nat.reduceAdd,Nat.reduceMul,Nat.reduceSub,Nat.reduceLT,Nat.reduceEqDiff,Nat.reduceLeDiff,Int.reduceToNat,reduceCtorEq,Int.reduceLT,Int.reduceLE,Int.reduceAdd,Int.reduceSub,Int.reduceMul,Int.reduceNeg,Int.reduceEq]
  refine jG.to (wA1 G a1.at_ ok Z0 _) ?_
  rintro _ h2 ⟨rfl,a2⟩
  simp(disch:=first|omega|(apply id;simp only[push_cast];first|done|omega))only[push_cast,Nat.reduceAdd,Nat.reduceMul,Nat.reduceSub,Nat.reduceLT,Nat.reduceEqDiff,Nat.reduceLeDiff,Int.reduceToNat,reduceCtorEq,Int.reduceLT,Int.reduceLE,Int.reduceAdd,Int.reduceSub,Int.reduceMul,Int.reduceNeg,Int.reduceEq,beq_self_eq_true]
  exact StpR.two a1 a2 (uY1 ok _) (uX1 rg _) (λh=>(uZ1 h _).1) (by unfold jX0;split<;>rfl)
 ·simp(disch:=first|omega|(apply id;simp only[push_cast];first|done|omega))only[push_cast,Nat.reduceAdd,Nat.reduceMul,Nat.reduceSub,Nat.reduceLT,Nat.reduceEqDiff,Nat.reduceLeDiff,Int.reduceToNat,reduceCtorEq,Int.reduceLT,Int.reduceLE,Int.reduceAdd,Int.reduceSub,Int.reduceMul,Int.reduceNeg,Int.reduceEq]
  refine jG.to (bO G h kv 4 Z1 Z1) ?_
  rintro _ _ ⟨rfl,e⟩
  rw[e]
  clear e
  by_cases hz:Wi' kv 4=0
  ·simp(disch:=first|omega|(apply id;simp only[push_cast];first|done|omega))only[push_cast,Nat.reduceAdd,Nat.reduceMul,Nat.reduceSub,Nat.reduceLT,Nat.reduceEqDiff,Nat.reduceLeDiff,Int.reduceToNat,reduceCtorEq,Int.reduceLT,Int.reduceLE,Int.reduceAdd,Int.reduceSub,Int.reduceMul,Int.reduceNeg,Int.reduceEq,hz]
   refine jG.to (kJ1 G a) ?_
   rintro _ h1 ⟨rfl,a1⟩
   simp(disch:=first|omega|(apply id;simp only[push_cast];first|done|omega))only[push_cast,Nat.reduceAdd,Nat.reduceMul,Nat.reduceSub,Nat.reduceLT,Nat.reduceEqDiff,Nat.reduceLeDiff,Int.reduceToNat,reduceCtorEq,Int.reduceLT,Int.reduceLE,Int.reduceAdd,Int.reduceSub,Int.reduceMul,Int.reduceNeg,Int.reduceEq]
   refine jG.to (kI1 G a1.at_) ?_
   rintro _ h2 ⟨rfl,a2⟩
   simp(disch:=first|omega|(apply id;simp only[push_cast];first|done|omega))only[push_cast,Nat.reduceAdd,Nat.reduceMul,Nat.reduceSub,Nat.reduceLT,Nat.reduceEqDiff,Nat.reduceLeDiff,Int.reduceToNat,reduceCtorEq,Int.reduceLT,Int.reduceLE,Int.reduceAdd,Int.reduceSub,Int.reduceMul,Int.reduceNeg,Int.reduceEq]
   exact StpR.two a1 a2 ((kG1 ok).le (Nat.le_succ _)) (kF1 w) (λh=>(kH1 h).1) rfl
  ·simp(disch:=first|omega|(apply id;simp only[push_cast];first|done|omega))only[push_cast,Nat.reduceAdd,Nat.reduceMul,Nat.reduceSub,Nat.reduceLT,Nat.reduceEqDiff,Nat.reduceLeDiff,Int.reduceToNat,reduceCtorEq,Int.reduceLT,Int.reduceLE,Int.reduceAdd,Int.reduceSub,Int.reduceMul,Int.reduceNeg,Int.reduceEq,hz]
   exact ⟨⟨w,a.mono λb hb=>.inl hb,ok.le (Nat.le_succ _),rg,id,rfl⟩,jI.refl _ _⟩
theorem gZ1 (a:Pr h B p1 p2 w w)(ok:WOk w n)(hn:n<900)(rg:WRg w)(nv:Int):jG (pp G) 13 [.pointer (some ⟨p1,0,none⟩),.pointer (some ⟨p2,0,none⟩),.int .i64 nv] h (λv h'=>v=.bool true∧StpR h B p1 p2 w n h'):=
 (cX1 G (λb hb=>hb.2) a.cut ok hn rg nv).mono λv h' ⟨e,r⟩=>⟨e,r.mono λb hb=>hb.1⟩
end
end Go.Proofs.Ytejgmoenmbjidaa
