/-
  A part of the proof: conditions over an abstract memory,and that they are enough for what the model's calls do. No condition of its own.
-/
import Derived.Test.YtgeakofgklcipaaEvd
import Derived.Test.YtgeakofgklcipaaProg
import Derived.KernelRfl
set_option linter.unusedSimpArgs false
set_option linter.unusedVariables false
set_option maxRecDepth 100000
namespace Go.Proofs.Ytgeakofgklcipaa
open _root_.Go.Proofs.Try (prog)
open Go.RowKit Go.Ev Go.Dv
noncomputable section
abbrev tt (n:Nat):Operand:=.tmp n
abbrev ci (n:Int):Operand:=.const (.int .i64 n)
def Iq (d:Nat) (o:Go.Op) (t:TypeId):It:=⟨some d,none,.take,o,t⟩
def Ia (d s t:Nat):It:=Iq d (.assign (.tmp s)) t
def Il (d e s t:Nat):It:=Iq d (.load e (.tmp s)) t
def If (d e s f t:Nat):It:=Iq d (.fieldAddr e (.tmp s) f) t
def Is (e a b t:Nat):It:=⟨none,none,.eff,.store e (.tmp a) (.tmp b),t⟩
def Ig (d g:Nat) (w:Bool) (o:Go.Op) (t:TypeId):It:=⟨some d,some (g,w),.take,o,t⟩
def Ie (d:Nat) (o:Go.Op) (t:TypeId):It:=⟨some d,none,.eff,o,t⟩
def Ic (d f:Nat) (a:Array Operand) (b:Array TypeId) (t:TypeId):It:=⟨some d,none,.call,.call ⟨.value (.func f),a,b⟩,t⟩
def so (l:List It) (b:IR):IR:=.seq (.ops l) b
abbrev ud:Value:=undef
def lf (v:Value):VTr:=.node .nil v .nil
abbrev nd (l:VTr) (v:Value) (r:VTr):VTr:=.node l v r
noncomputable def irB (P:Program) (g:Nat):IR:=match fir P g with|some f=>f.4|none=>.skip
noncomputable def pk:List Nat→IR→IR
 | [],x=>x
 | i :: p,.seq a b=>pk p (match i with | 0=>a | _=>b)
 | i :: p,.cond _ a b=>pk p (match i with | 0=>a | _=>b)
 | _ :: p,.block _ b=>pk p b
 | _ :: p,.loop b=>pk p b
 | _ :: _,x=>x
noncomputable def oM0:IR:=pk [1,1,1,1,1,1,1,0,1,0,0,1,1] (irB prog 12)
noncomputable def fO0:IR:=pk [1,1,1,1,1,1,1,1] (irB prog 12)
noncomputable def fN0:IR:=pk [1,1,1,1,1,1,1,0,1,0,0,1,0,0,1,1] (irB prog 12)
noncomputable def oN0:IR:=pk [1,1,1,1,1,1,1,0,1,0,0] (irB prog 12)
noncomputable def bG:IR:=pk [1,1,1,1] (irB prog 12)
noncomputable def ir12:IR:=irB prog 12
theorem fir12:fir prog 12=some ⟨114,2,[(.tmp 4)],ir12⟩:=by kernel_rfl
noncomputable def dA1:IR:=pk [1,1,0,1,0,0] (irB prog 22)
noncomputable def cZ1:IR:=pk [1,1,1] (irB prog 22)
noncomputable def ir22:IR:=irB prog 22
theorem fir22:fir prog 22=some ⟨38,2,[(.cell 4 34)],ir22⟩:=by kernel_rfl
noncomputable def cX1:IR:=pk [1,1,1] (irB prog 37)
noncomputable def cY1:IR:=pk [1,1,0,1,0,0] (irB prog 37)
noncomputable def ir37:IR:=irB prog 37
theorem fir37:fir prog 37=some ⟨28,1,[(.tmp 2)],ir37⟩:=by kernel_rfl
noncomputable def ir38:IR:=irB prog 38
theorem mU1:fir prog 38=some ⟨73,1,[(.cell 2 34)],ir38⟩:=by kernel_rfl
noncomputable def cT1:IR:=(so [Il 39 55 3 55,Ia 2 39 55] .ret)
noncomputable def wM0:IR:=(.plan (.take 0 true (Il 34 55 3 55) (.take 1 true (Il 35 95 4 95) (.eff 2 (Ic 36 64 #[(tt 35),(ci 0)] #[95,3] 60) [1] (.eff 3 (Ie 37 (.buildSlice 55 1 #[(0,(tt 36))]) 55) [1,2] (.eff 4 (Ie 38 (.call ⟨(.builtin .append),#[(tt 34),(tt 37)],#[55,55]⟩) 55) [1,2,3,0] (.eff 5 (Is 55 3 38 0) [1,2,3,0,4] .fin .no) .no) .no) .no))))
noncomputable def kJ0:IR:=(.cond (tt 12) (.exit 1) (so [(Iq 19 (.binOp .eql 3 (tt 11) (ci 8) 3) 4),Ia 18 19 4] (.cond (tt 18) (so [If 20 95 4 1 0,Il 21 34 20 34,(Ic 22 63 #[(tt 21)] #[34] 23),(Iq 23 (.call ⟨(.builtin .len),#[(tt 22)],#[23]⟩) 3),(Iq 24 (.binOp .gtr 3 (tt 23) (ci 0) 3) 4)] (.cond (tt 24) (.exit 1) .skip)) (so [(Iq 26 (.binOp .eql 3 (tt 11) (ci 10) 3) 4),Ia 25 26 4] (.cond (tt 25) (.seq (.plan (.take 0 true (Il 27 55 3 55) (.take 1 true (Il 28 95 4 95) (.take 3 true (Il 30 95 4 95) (.eff 2 (Ic 29 64 #[(tt 28),(ci 0)] #[95,3] 60) [1] (.eff 4 (Ic 31 64 #[(tt 30),(ci 1)] #[95,3] 60) [1,2,3] (.eff 5 (Ie 32 (.buildSlice 55 2 #[(0,(tt 29)),(1,(tt 31))]) 55) [3,4,1,2] (.eff 6 (Ie 33 (.call ⟨(.builtin .append),#[(tt 27),(tt 32)],#[55,55]⟩) 55) [3,4,1,2,5,0] (.eff 7 (Is 55 3 33 0) [3,4,1,2,5,0,6] .fin .no) .no) .no) .no) .no))))) (.exit 1)) .skip)))))
noncomputable def ir39:IR:=irB prog 39
theorem fir39:fir prog 39=some ⟨40,1,[(.tmp 2)],ir39⟩:=by kernel_rfl
noncomputable def cW1:IR:=(.seq (.ops [⟨some 3,none,.eff,(.alloc 55),0⟩]) (.seq (.label 0) (.seq (.seq (.ops [⟨some 5,none,.take,(.load 34 (.tmp 1)),34⟩,⟨some 6,none,.call,(.call ⟨(.value (.func 62)),#[(.tmp 5)],#[34]⟩),34⟩,⟨some 7,none,.call,(.call ⟨(.value (.func 61)),#[(.tmp 6)],#[34]⟩),92⟩]) (.block 0 (.range (.tmp 7) #[8] (subC prog 39 1) (subC prog 39 2)))) (.seq (.ops [⟨some 39,none,.take,(.load 55 (.tmp 3)),55⟩,⟨some 2,none,.take,(.assign (.tmp 39)),55⟩]) .ret))))
theorem nW1:comp prog (subC prog 39 0)=cW1:=by kernel_rfl
noncomputable def cV1:IR:=(.ops [⟨some 4,none,.eff,(.alloc 95),0⟩,⟨none,none,.eff,(.store 95 (.tmp 4) (.tmp 8)),0⟩])
theorem nV1:comp prog (subC prog 39 1)=cV1:=by kernel_rfl
noncomputable def cU1:IR:=(.block 1 (.seq (.seq (.ops [⟨some 9,none,.take,(.fieldAddr 95 (.tmp 4) 0),0⟩,⟨some 10,none,.take,(.fieldAddr 34 (.tmp 9) 0),0⟩,⟨some 11,none,.take,(.load 3 (.tmp 10)),3⟩]) (.block 2 (.seq (.seq (.ops [⟨some 13,none,.take,(.binOp .eql 3 (.tmp 11) (.const (.int .i64 0)) 3),4⟩,⟨some 12,none,.take,(.assign (.tmp 13)),4⟩]) (.cond (.tmp 12) .skip (.seq (.ops [⟨some 14,none,.take,(.binOp .eql 3 (.tmp 11) (.const (.int .i64 14)) 3),4⟩,⟨some 12,none,.take,(.assign (.tmp 14)),4⟩]) (.cond (.tmp 12) .skip (.seq (.ops [⟨some 15,none,.take,(.binOp .eql 3 (.tmp 11) (.const (.int .i64 12)) 3),4⟩,⟨some 12,none,.take,(.assign (.tmp 15)),4⟩]) (.cond (.tmp 12) .skip (.seq (.ops [⟨some 16,none,.take,(.binOp .eql 3 (.tmp 11) (.const (.int .i64 11)) 3),4⟩,⟨some 12,none,.take,(.assign (.tmp 16)),4⟩]) (.cond (.tmp 12) .skip (.ops [⟨some 17,none,.take,(.binOp .eql 3 (.tmp 11) (.const (.int .i64 7)) 3),4⟩,⟨some 12,none,.take,(.assign (.tmp 17)),4⟩]))))))))) (.cond (.tmp 12) (.exit 1) (.seq (.ops [⟨some 19,none,.take,(.binOp .eql 3 (.tmp 11) (.const (.int .i64 8)) 3),4⟩,⟨some 18,none,.take,(.assign (.tmp 19)),4⟩]) (.cond (.tmp 18) (.seq (.ops [⟨some 20,none,.take,(.fieldAddr 95 (.tmp 4) 1),0⟩,⟨some 21,none,.take,(.load 34 (.tmp 20)),34⟩,⟨some 22,none,.call,(.call ⟨(.value (.func 63)),#[(.tmp 21)],#[34]⟩),23⟩,⟨some 23,none,.take,(.call ⟨(.builtin .len),#[(.tmp 22)],#[23]⟩),3⟩,⟨some 24,none,.take,(.binOp .gtr 3 (.tmp 23) (.const (.int .i64 0)) 3),4⟩]) (.cond (.tmp 24) (.exit 1) .skip)) (.seq (.ops [⟨some 26,none,.take,(.binOp .eql 3 (.tmp 11) (.const (.int .i64 10)) 3),4⟩,⟨some 25,none,.take,(.assign (.tmp 26)),4⟩]) (.cond (.tmp 25) (.seq (.plan (.take 0 true ⟨some 27,none,.take,(.load 55 (.tmp 3)),55⟩ (.take 1 true ⟨some 28,none,.take,(.load 95 (.tmp 4)),95⟩ (.take 3 true ⟨some 30,none,.take,(.load 95 (.tmp 4)),95⟩ (.eff 2 ⟨some 29,none,.call,(.call ⟨(.value (.func 64)),#[(.tmp 28),(.const (.int .i64 0))],#[95,3]⟩),60⟩ [1] (.eff 4 ⟨some 31,none,.call,(.call ⟨(.value (.func 64)),#[(.tmp 30),(.const (.int .i64 1))],#[95,3]⟩),60⟩ [1,2,3] (.eff 5 ⟨some 32,none,.eff,(.buildSlice 55 2 #[(0,(.tmp 29)),(1,(.tmp 31))]),55⟩ [3,4,1,2] (.eff 6 ⟨some 33,none,.eff,(.call ⟨(.builtin .append),#[(.tmp 27),(.tmp 32)],#[55,55]⟩),55⟩ [3,4,1,2,5,0] (.eff 7 ⟨none,none,.eff,(.store 55 (.tmp 3) (.tmp 33)),0⟩ [3,4,1,2,5,0,6] .fin .no) .no) .no) .no) .no))))) (.exit 1)) .skip)))))))) (.plan (.take 0 true ⟨some 34,none,.take,(.load 55 (.tmp 3)),55⟩ (.take 1 true ⟨some 35,none,.take,(.load 95 (.tmp 4)),95⟩ (.eff 2 ⟨some 36,none,.call,(.call ⟨(.value (.func 64)),#[(.tmp 35),(.const (.int .i64 0))],#[95,3]⟩),60⟩ [1] (.eff 3 ⟨some 37,none,.eff,(.buildSlice 55 1 #[(0,(.tmp 36))]),55⟩ [1,2] (.eff 4 ⟨some 38,none,.eff,(.call ⟨(.builtin .append),#[(.tmp 34),(.tmp 37)],#[55,55]⟩),55⟩ [1,2,3,0] (.eff 5 ⟨none,none,.eff,(.store 55 (.tmp 3) (.tmp 38)),0⟩ [1,2,3,0,4] .fin .no) .no) .no) .no))))))
theorem nU1:comp prog (subC prog 39 2)=cU1:=by kernel_rfl
noncomputable def cR1:IR:=pk [1,1,1] (irB prog 42)
noncomputable def cS1:IR:=pk [1,1,0,1,0,0] (irB prog 42)
noncomputable def ir42:IR:=irB prog 42
theorem fir42:fir prog 42=some ⟨26,2,[(.tmp 4)],ir42⟩:=by kernel_rfl
noncomputable def cP1:IR:=pk [1,1,1] (irB prog 43)
noncomputable def cQ1:IR:=pk [1,1,0,1,0,0] (irB prog 43)
noncomputable def ir43:IR:=irB prog 43
theorem fir43:fir prog 43=some ⟨55,2,[(.tmp 4)],ir43⟩:=by kernel_rfl
noncomputable def cL1:IR:=pk [1,1,1,1] (irB prog 47)
noncomputable def oK0:IR:=pk [1,1,1,0,1,0,0,1,1] (irB prog 47)
noncomputable def oL0:IR:=pk [1,1,1,0,1,0,0,1,0,0,1,1] (irB prog 47)
noncomputable def cO1:IR:=pk [1,1,0,1,0,0] (irB prog 47)
noncomputable def cM1:IR:=pk [1,1,1,0,1,0,0] (irB prog 47)
noncomputable def cN1:IR:=pk [1,1,1] (irB prog 47)
noncomputable def ir47:IR:=irB prog 47
theorem fir47:fir prog 47=some ⟨58,1,[(.cell 2 73)],ir47⟩:=by kernel_rfl
noncomputable def ir48:IR:=irB prog 48
theorem fir48:fir prog 48=some ⟨18,1,[(.cell 2 34),(.tmp 3)],ir48⟩:=by kernel_rfl
noncomputable def cJ1:IR:=pk [1,1,1,1,1] (irB prog 49)
noncomputable def cK1:IR:=pk [1,1,1,1,0,1,0,0] (irB prog 49)
noncomputable def fM0:IR:=pk [1,1,1,1] (irB prog 49)
noncomputable def ir49:IR:=irB prog 49
theorem fir49:fir prog 49=some ⟨68,4,[(.cell 8 34)],ir49⟩:=by kernel_rfl
noncomputable def ir54:IR:=irB prog 54
theorem fir54:fir prog 54=some ⟨12,1,[(.cell 2 34)],ir54⟩:=by kernel_rfl
noncomputable def ir56:IR:=irB prog 56
theorem fir56:fir prog 56=some ⟨5,1,[(.tmp 2)],ir56⟩:=by kernel_rfl
noncomputable def cH1:IR:=pk [1,1,1,1] (irB prog 60)
noncomputable def cI1:IR:=pk [1,1,1,0,1,0,0] (irB prog 60)
noncomputable def ir60:IR:=irB prog 60
theorem fir60:fir prog 60=some ⟨37,2,[(.tmp 4)],ir60⟩:=by kernel_rfl
noncomputable def ir61:IR:=irB prog 61
theorem fir61:fir prog 61=some ⟨4,1,[(.tmp 2)],ir61⟩:=by kernel_rfl
noncomputable def ir62:IR:=irB prog 62
theorem mT1:fir prog 62=some ⟨98,1,[(.cell 2 34)],ir62⟩:=by kernel_rfl
noncomputable def cE1:IR:=pk [1,1,1] (irB prog 63)
noncomputable def ir63:IR:=irB prog 63
theorem fir63:fir prog 63=some ⟨17,1,[(.tmp 2)],ir63⟩:=by kernel_rfl
noncomputable def cG1:IR:=(.ops [⟨some 4,none,.eff,(.alloc 34),0⟩,⟨none,none,.eff,(.store 34 (.tmp 4) (.tmp 7)),0⟩])
theorem nT1:comp prog (subC prog 63 0)=cG1:=by kernel_rfl
noncomputable def cF1:IR:=(.block 1 (.seq (.ops [⟨some 8,none,.take,(.fieldAddr 34 (.tmp 4) 0),0⟩,⟨some 9,none,.take,(.load 3 (.tmp 8)),3⟩,⟨some 10,none,.take,(.binOp .eql 3 (.tmp 9) (.const (.int .i64 14)) 3),4⟩]) (.cond (.tmp 10) (.ops [⟨some 11,none,.take,(.load 23 (.tmp 3)),23⟩,⟨some 12,none,.take,(.fieldAddr 34 (.tmp 4) 1),0⟩,⟨some 13,none,.take,(.load 3 (.tmp 12)),3⟩,⟨some 14,none,.eff,(.buildSlice 23 1 #[(0,(.tmp 13))]),23⟩,⟨some 15,none,.eff,(.call ⟨(.builtin .append),#[(.tmp 11),(.tmp 14)],#[23,23]⟩),23⟩,⟨none,none,.eff,(.store 23 (.tmp 3) (.tmp 15)),0⟩]) .skip)))
theorem nS1:comp prog (subC prog 63 1)=cF1:=by kernel_rfl
noncomputable def ir64:IR:=irB prog 64
theorem fir64:fir prog 64=some ⟨13,2,[(.cell 4 60)],ir64⟩:=by kernel_rfl
noncomputable def ir65:IR:=irB prog 65
theorem fir65:fir prog 65=some ⟨2,0,[(.tmp 0)],ir65⟩:=by kernel_rfl
noncomputable def ir66:IR:=irB prog 66
theorem fir66:fir prog 66=some ⟨2,0,[(.tmp 0)],ir66⟩:=by kernel_rfl
noncomputable def ir67:IR:=irB prog 67
theorem fir67:fir prog 67=some ⟨15,2,[(.tmp 4)],ir67⟩:=by kernel_rfl
noncomputable def ir68:IR:=irB prog 68
theorem fir68:fir prog 68=some ⟨2,0,[(.tmp 0)],ir68⟩:=by kernel_rfl
noncomputable def qW:IR:=pk [1,1,1,1] (irB prog 69)
noncomputable def oH0:IR:=pk [1,1,1,0,1,0,1,1,1,1,1,1,1,1,1,1,1,1,1,1,1,1,1,1,1,1,1,1,1] (irB prog 69)
noncomputable def oI0:IR:=pk [1,1,1,0,1,0,1,1,1,1,1,1,1] (irB prog 69)
noncomputable def oJ0:IR:=pk [1,1,1,0,1,0,1,1,1] (irB prog 69)
noncomputable def qY:IR:=pk [1,1,1,0,1,0,1] (irB prog 69)
noncomputable def ir69:IR:=irB prog 69
theorem fir69:fir prog 69=some ⟨133,2,[(.cell 4 77)],ir69⟩:=by kernel_rfl
noncomputable def fL0:IR:=pk [1,1,1,1,1,1,0,1,0,0] (irB prog 70)
noncomputable def cC1:IR:=pk [1,1,1,1,1,1,1,1] (irB prog 70)
noncomputable def cD1:IR:=pk [1,1,1,1,1,1,1,0,1,0,0] (irB prog 70)
noncomputable def fK0:IR:=pk [1,1,1,1,1,1,1] (irB prog 70)
noncomputable def ir70:IR:=irB prog 70
theorem fir70:fir prog 70=some ⟨110,1,[(.cell 2 102),(.tmp 3)],ir70⟩:=by kernel_rfl
noncomputable def ir71:IR:=irB prog 71
theorem fir71:fir prog 71=some ⟨15,2,[(.tmp 4)],ir71⟩:=by kernel_rfl
noncomputable def cA1:IR:=pk [1,1,1,1] (irB prog 73)
noncomputable def cB1:IR:=pk [1,1,1,0,1,0,0] (irB prog 73)
noncomputable def ir73:IR:=irB prog 73
theorem fir73:fir prog 73=some ⟨29,2,[(.tmp 4)],ir73⟩:=by kernel_rfl
noncomputable def ir74:IR:=irB prog 74
theorem fir74:fir prog 74=some ⟨8,1,[(.cell 2 31)],ir74⟩:=by kernel_rfl
noncomputable def ir75:IR:=irB prog 75
theorem fir75:fir prog 75=some ⟨6,1,[(.tmp 2)],ir75⟩:=by kernel_rfl
noncomputable def ir76:IR:=irB prog 76
theorem fir76:fir prog 76=some ⟨8,2,[],ir76⟩:=by kernel_rfl
noncomputable def bY1:IR:=pk [1,1,1,0,1,0,1,1,1,1,1,1] (irB prog 77)
noncomputable def bZ1:IR:=pk [1,1,1,1,0,1,0,0] (irB prog 77)
noncomputable def gZ0:IR:=pk [1,1,1,1] (irB prog 77)
noncomputable def ir77:IR:=irB prog 77
theorem fir77:fir prog 77=some ⟨52,2,[(.tmp 4)],ir77⟩:=by kernel_rfl
noncomputable def ir78:IR:=irB prog 78
theorem fir78:fir prog 78=some ⟨12,2,[(.cell 4 34)],ir78⟩:=by kernel_rfl
noncomputable def ir79:IR:=irB prog 79
theorem fir79:fir prog 79=some ⟨4,1,[(.tmp 2)],ir79⟩:=by kernel_rfl
noncomputable def ir80:IR:=irB prog 80
theorem fir80:fir prog 80=some ⟨8,1,[(.tmp 2)],ir80⟩:=by kernel_rfl
noncomputable def ir81:IR:=irB prog 81
theorem fir81:fir prog 81=some ⟨25,3,[(.cell 6 77)],ir81⟩:=by kernel_rfl
noncomputable def ir82:IR:=irB prog 82
theorem fir82:fir prog 82=some ⟨14,2,[(.cell 4 31)],ir82⟩:=by kernel_rfl
noncomputable def bU1:IR:=pk [1,1,1,1] (irB prog 83)
noncomputable def bX1:IR:=pk [1,1,0,1,0,0] (irB prog 83)
noncomputable def bV1:IR:=pk [1,1,1,0,1,0,0] (irB prog 83)
noncomputable def bW1:IR:=pk [1,1,1] (irB prog 83)
noncomputable def ir83:IR:=irB prog 83
theorem fir83:fir prog 83=some ⟨42,1,[(.tmp 2),(.tmp 3)],ir83⟩:=by kernel_rfl
noncomputable def bS1:IR:=pk [1,1] (irB prog 84)
noncomputable def bT1:IR:=pk [1,0,1,0,0] (irB prog 84)
noncomputable def ir84:IR:=irB prog 84
theorem fir84:fir prog 84=some ⟨18,1,[(.tmp 2)],ir84⟩:=by kernel_rfl
noncomputable def bQ1:IR:=pk [1,1] (irB prog 85)
noncomputable def bR1:IR:=pk [1,0,1,0,0] (irB prog 85)
noncomputable def ir85:IR:=irB prog 85
theorem fir85:fir prog 85=some ⟨19,2,[(.tmp 4)],ir85⟩:=by kernel_rfl
noncomputable def bO1:IR:=pk [1,1,1,1] (irB prog 86)
noncomputable def bP1:IR:=pk [1,1,1,0,1,0,0] (irB prog 86)
noncomputable def qD0:IR:=pk [1,1,1] (irB prog 86)
noncomputable def gY0:IR:=pk [1,1,0,1,0,1,1,1,1,1] (irB prog 86)
noncomputable def ir86:IR:=irB prog 86
theorem fir86:fir prog 86=some ⟨117,2,[(.cell 4 34)],ir86⟩:=by kernel_rfl
noncomputable def bI1:IR:=pk [1,1,1,1,1] (irB prog 87)
noncomputable def bK1:IR:=pk [1,1,1,0,1,0,0,1,1] (irB prog 87)
noncomputable def bG1:IR:=pk [1,1,1,0,1,0,0,1,0,0,1,0,0,1,1] (irB prog 87)
noncomputable def bJ1:IR:=pk [1,1,1,1,0,1,0,0] (irB prog 87)
noncomputable def bM1:IR:=pk [1,1,1,1] (irB prog 87)
noncomputable def bH1:IR:=pk [1,1,1,0,1,0,0,1,0,0,1,0,0,1,0,0,1,0,0] (irB prog 87)
noncomputable def bL1:IR:=pk [1,1,1,0,1,0,0,1,0,0,1,0,0] (irB prog 87)
noncomputable def bN1:IR:=pk [1,1,1,0,1,0,0] (irB prog 87)
noncomputable def ir87:IR:=irB prog 87
theorem fir87:fir prog 87=some ⟨71,1,[(.tmp 2)],ir87⟩:=by kernel_rfl
noncomputable def bE1:IR:=pk [1,1,1,1] (irB prog 88)
noncomputable def bF1:IR:=pk [1,1,1,0,1,0,0] (irB prog 88)
noncomputable def ir88:IR:=irB prog 88
theorem fir88:fir prog 88=some ⟨29,2,[(.tmp 4)],ir88⟩:=by kernel_rfl
noncomputable def bC1:IR:=pk [1,1,1,1] (irB prog 89)
noncomputable def bD1:IR:=pk [1,1,1,0,1,0,0] (irB prog 89)
noncomputable def ir89:IR:=irB prog 89
theorem fir89:fir prog 89=some ⟨31,2,[(.tmp 4)],ir89⟩:=by kernel_rfl
noncomputable def ir90:IR:=irB prog 90
theorem fir90:fir prog 90=some ⟨6,2,[],ir90⟩:=by kernel_rfl
noncomputable def bA1:IR:=pk [1,1,1,0,1,0,1,1,1,1] (irB prog 91)
noncomputable def bB1:IR:=pk [1,1,1,1,0,1,0,0] (irB prog 91)
noncomputable def gX0:IR:=pk [1,1,1,1] (irB prog 91)
noncomputable def ir91:IR:=irB prog 91
theorem fir91:fir prog 91=some ⟨37,2,[(.tmp 4)],ir91⟩:=by kernel_rfl
noncomputable def ir92:IR:=irB prog 92
theorem fir92:fir prog 92=some ⟨70,2,[(.cell 4 31)],ir92⟩:=by kernel_rfl
noncomputable def ir93:IR:=irB prog 93
theorem eI2:fir prog 93=some ⟨17,3,[(.tmp 6)],ir93⟩:=by kernel_rfl
noncomputable def gY1:IR:=pk [1,1,1,1] (irB prog 94)
noncomputable def gZ1:IR:=pk [1,1,1,0,1,0,0] (irB prog 94)
noncomputable def fJ0:IR:=pk [1,1,1] (irB prog 94)
noncomputable def ir94:IR:=irB prog 94
theorem fir94:fir prog 94=some ⟨44,2,[(.cell 4 31)],ir94⟩:=by kernel_rfl
noncomputable def gW1:IR:=pk [1,1,1,1] (irB prog 95)
noncomputable def gX1:IR:=pk [1,1,1,0,1,0,0] (irB prog 95)
noncomputable def ir95:IR:=irB prog 95
theorem fir95:fir prog 95=some ⟨38,1,[(.tmp 2)],ir95⟩:=by kernel_rfl
noncomputable def ir96:IR:=irB prog 96
theorem fir96:fir prog 96=some ⟨15,2,[(.tmp 4)],ir96⟩:=by kernel_rfl
noncomputable def ir97:IR:=irB prog 97
theorem fir97:fir prog 97=some ⟨25,3,[(.cell 6 31)],ir97⟩:=by kernel_rfl
noncomputable def oG0:IR:=pk [1,1,1,1] (irB prog 98)
noncomputable def gV1:IR:=pk [1,1,1,0,1,0,0,1,0,1,1,0,0] (irB prog 98)
noncomputable def fI0:IR:=pk [1,1,1,0,1,0,0] (irB prog 98)
noncomputable def ir98:IR:=irB prog 98
theorem fir98:fir prog 98=some ⟨99,1,[(.tmp 2)],ir98⟩:=by kernel_rfl
noncomputable def gU1:IR:=pk [1,1,0,1,1,1,1,1,0,0] (irB prog 99)
noncomputable def ir99:IR:=irB prog 99
theorem fir99:fir prog 99=some ⟨67,3,[],ir99⟩:=by kernel_rfl
noncomputable def fP0:IR:=pk [1,1,1,1] (irB prog 100)
noncomputable def sC0:IR:=pk [1,1,0,1,0,0] (irB prog 100)
noncomputable def fQ0:IR:=pk [1,1,1,0,1,0,1,1,1,1,1,1,1,1,1] (irB prog 100)
noncomputable def fR0:IR:=pk [1,1,1] (irB prog 100)
noncomputable def dI2:IR:=irB prog 100
theorem eJ2:fir prog 100=some ⟨129,2,[(.tmp 4),(.tmp 5)],dI2⟩:=by kernel_rfl
theorem nB0:bY prog 22 22=(some (38,(5,72))):=by kernel_rfl
theorem nA0:bY prog 23 23=(some (3,(1,8))):=by kernel_rfl
theorem mZ0:bY prog 29 29=(some (31,(4,56))):=by kernel_rfl
theorem mY0:bY prog 32 32=(some (34,(9,120))):=by kernel_rfl
theorem mX0:bY prog 55 55=(some (60,(3,40))):=by kernel_rfl
theorem mW0:bY prog 69 69=(some (99,(2,24))):=by kernel_rfl
theorem mV0:bY prog 70 70=(some (9,(1,16))):=by kernel_rfl
theorem mU0:bY prog 71 71=(some (79,(9,136))):=by kernel_rfl
theorem cO0:bY prog 135 135=(some (137,(1,24))):=by kernel_rfl
theorem yF0:cnvT prog 3 105=(some (0,((some .u64),0))):=by kernel_rfl
theorem rY1:esz prog 22=(some (none,5)):=by kernel_rfl
theorem rX1:esz prog 23=(some (none,1)):=by kernel_rfl
theorem rW1:esz prog 29=(some (none,4)):=by kernel_rfl
theorem rV1:esz prog 32=(some (none,9)):=by kernel_rfl
theorem rU1:esz prog 36=(some (none,3)):=by kernel_rfl
theorem rT1:esz prog 50=(some (none,1)):=by kernel_rfl
theorem rS1:esz prog 55=(some (none,3)):=by kernel_rfl
theorem rR1:esz prog 69=(some (none,2)):=by kernel_rfl
theorem rQ1:esz prog 70=(some (none,1)):=by kernel_rfl
theorem rP1:esz prog 71=(some (none,9)):=by kernel_rfl
theorem rO1:esz prog 75=(some (none,8)):=by kernel_rfl
theorem fK1:esz prog 135=(some (none,1)):=by kernel_rfl
theorem fJ1:esz prog 137=(some (none,1)):=by kernel_rfl
theorem fI1:esz prog 146=(some ((some 2),1)):=by kernel_rfl
theorem zG1:fld prog 31 0=(some 0):=by kernel_rfl
theorem zF1:fld prog 31 1=(some 1):=by kernel_rfl
theorem zE1:fld prog 31 2=(some 2):=by kernel_rfl
theorem zD1:fld prog 31 3=(some 3):=by kernel_rfl
theorem zC1:fld prog 34 0=(some 0):=by kernel_rfl
theorem zB1:fld prog 34 1=(some 1):=by kernel_rfl
theorem zA1:fld prog 34 2=(some 2):=by kernel_rfl
theorem wZ1:fld prog 34 3=(some 3):=by kernel_rfl
theorem wY1:fld prog 34 4=(some 4):=by kernel_rfl
theorem wX1:fld prog 34 5=(some 8):=by kernel_rfl
theorem wW1:fld prog 38 0=(some 0):=by kernel_rfl
theorem wV1:fld prog 38 1=(some 1):=by kernel_rfl
theorem wU1:fld prog 38 2=(some 2):=by kernel_rfl
theorem wT1:fld prog 38 3=(some 3):=by kernel_rfl
theorem wS1:fld prog 38 4=(some 4):=by kernel_rfl
theorem wR1:fld prog 53 0=(some 0):=by kernel_rfl
theorem wQ1:fld prog 53 2=(some 2):=by kernel_rfl
theorem wP1:fld prog 60 0=(some 0):=by kernel_rfl
theorem wO1:fld prog 60 1=(some 1):=by kernel_rfl
theorem wN1:fld prog 60 2=(some 2):=by kernel_rfl
theorem wM1:fld prog 73 0=(some 0):=by kernel_rfl
theorem wL1:fld prog 73 1=(some 1):=by kernel_rfl
theorem wK1:fld prog 73 2=(some 2):=by kernel_rfl
theorem wJ1:fld prog 77 0=(some 0):=by kernel_rfl
theorem wI1:fld prog 77 1=(some 1):=by kernel_rfl
theorem wH1:fld prog 77 2=(some 2):=by kernel_rfl
theorem wG1:fld prog 77 3=(some 3):=by kernel_rfl
theorem wF1:fld prog 77 4=(some 7):=by kernel_rfl
theorem wE1:fld prog 79 0=(some 0):=by kernel_rfl
theorem wD1:fld prog 79 1=(some 1):=by kernel_rfl
theorem wC1:fld prog 95 0=(some 0):=by kernel_rfl
theorem wB1:fld prog 95 1=(some 9):=by kernel_rfl
theorem wA1:fld prog 95 2=(some 18):=by kernel_rfl
theorem uZ1:fld prog 99 0=(some 0):=by kernel_rfl
theorem uY1:fld prog 99 1=(some 1):=by kernel_rfl
theorem pV0:fld prog 102 0=(some 0):=by kernel_rfl
theorem pU0:fld prog 102 2=(some 2):=by kernel_rfl
theorem pT0:fld prog 102 3=(some 3):=by kernel_rfl
theorem pS0:fld prog 124 0=(some 0):=by kernel_rfl
theorem pR0:fld prog 124 1=(some 1):=by kernel_rfl
theorem pQ0:fld prog 124 2=(some 2):=by kernel_rfl
theorem pP0:fld prog 124 3=(some 3):=by kernel_rfl
theorem pO0:fld prog 133 0=(some 0):=by kernel_rfl
theorem pN0:fld prog 133 1=(some 1):=by kernel_rfl
theorem pM0:fld prog 133 2=(some 2):=by kernel_rfl
theorem pL0:fld prog 142 0=(some 0):=by kernel_rfl
theorem pK0:fld prog 142 1=(some 1):=by kernel_rfl
theorem pJ0:fld prog 142 2=(some 2):=by kernel_rfl
theorem pW0:fldT prog 34 0=(some (false,(0,0))):=by kernel_rfl
theorem uX1:zR2 prog 23=true:=by kernel_rfl
theorem yQ2:knd prog 3=(some (false,0)):=by kernel_rfl
theorem yP2:knd prog 4=(some (false,0)):=by kernel_rfl
theorem yO2:knd prog 9=(some (false,0)):=by kernel_rfl
theorem rN1:knd prog 22=(some (false,0)):=by kernel_rfl
theorem rM1:knd prog 23=(some (false,0)):=by kernel_rfl
theorem rL1:knd prog 29=(some (false,0)):=by kernel_rfl
theorem rK1:knd prog 31=(some (true,4)):=by kernel_rfl
theorem rJ1:knd prog 32=(some (false,0)):=by kernel_rfl
theorem rI1:knd prog 34=(some (true,9)):=by kernel_rfl
theorem rH1:knd prog 36=(some (false,0)):=by kernel_rfl
theorem rG1:knd prog 38=(some (true,5)):=by kernel_rfl
theorem rF1:knd prog 55=(some (false,0)):=by kernel_rfl
theorem rE1:knd prog 60=(some (true,3)):=by kernel_rfl
theorem rD1:knd prog 69=(some (false,0)):=by kernel_rfl
theorem rC1:knd prog 70=(some (false,0)):=by kernel_rfl
theorem rB1:knd prog 71=(some (false,0)):=by kernel_rfl
theorem rA1:knd prog 73=(some (true,3)):=by kernel_rfl
theorem pZ1:knd prog 75=(some (false,0)):=by kernel_rfl
theorem pY1:knd prog 77=(some (true,8)):=by kernel_rfl
theorem pX1:knd prog 79=(some (true,9)):=by kernel_rfl
theorem pW1:knd prog 95=(some (true,19)):=by kernel_rfl
theorem fH1:knd prog 102=(some (true,4)):=by kernel_rfl
theorem fG1:knd prog 133=(some (true,3)):=by kernel_rfl
theorem fF1:knd prog 137=(some (false,0)):=by kernel_rfl
theorem pV1:lnT prog 22=(some false):=by kernel_rfl
theorem pU1:lnT prog 23=(some false):=by kernel_rfl
theorem pT1:lnT prog 29=(some false):=by kernel_rfl
theorem pS1:lnT prog 32=(some false):=by kernel_rfl
theorem pR1:lnT prog 36=(some false):=by kernel_rfl
theorem pQ1:lnT prog 55=(some false):=by kernel_rfl
theorem pP1:lnT prog 69=(some false):=by kernel_rfl
theorem pO1:lnT prog 70=(some false):=by kernel_rfl
theorem pN1:lnT prog 71=(some false):=by kernel_rfl
theorem pM1:lnT prog 75=(some false):=by kernel_rfl
theorem fE1:lnT prog 135=(some false):=by kernel_rfl
theorem pL1:mkT prog 29=(some (31,(4,(56,[(.int .i64 0),(.int .i64 0),(.string (Tx [])),(.slice none 0 0)])))):=by kernel_rfl
theorem pK1:mkT prog 32=(some (34,(9,(120,[(.int .i64 0),(.int .i64 0),(.int .i64 0),(.string (Tx [])),(.int .i64 0),(.int .i64 0),(.string (Tx [])),(.slice none 0 0),(.slice none 0 0)])))):=by kernel_rfl
theorem fD1:mkT prog 137=(some (4,(1,(1,[(.bool false)])))):=by kernel_rfl
theorem pJ1:plc prog 31=(some ([(0,1),(1,1),(2,1),(3,1)],[(.int .i64 0),(.int .i64 0),(.string (Tx [])),(.slice none 0 0)])):=by kernel_rfl
theorem pI1:plc prog 34=(some ([(0,1),(1,1),(2,1),(3,1),(4,4),(8,1)],[(.int .i64 0),(.int .i64 0),(.int .i64 0),(.string (Tx [])),(.int .i64 0),(.int .i64 0),(.string (Tx [])),(.slice none 0 0),(.slice none 0 0)])):=by kernel_rfl
theorem pH1:plc prog 53=(some ([(0,1),(1,1),(2,1)],[(.int .i64 0),(.int .i64 0),(.slice none 0 0)])):=by kernel_rfl
theorem pG1:plc prog 60=(some ([(0,1),(1,1),(2,1)],[(.int .i64 0),(.slice none 0 0),(.int .i64 0)])):=by kernel_rfl
theorem pF1:plc prog 73=(some ([(0,1),(1,1),(2,1)],[(.slice none 0 0),(.slice none 0 0),(.slice none 0 0)])):=by kernel_rfl
theorem pE1:plc prog 77=(some ([(0,1),(1,1),(2,1),(3,4),(7,1)],[(.int .i64 0),(.string (Tx [])),(.string (Tx [])),(.int .i64 0),(.int .i64 0),(.string (Tx [])),(.slice none 0 0),(.slice none 0 0)])):=by kernel_rfl
theorem pD1:plc prog 79=(some ([(0,1),(1,8)],[(.string (Tx [])),(.int .i64 0),(.string (Tx [])),(.string (Tx [])),(.int .i64 0),(.int .i64 0),(.string (Tx [])),(.slice none 0 0),(.slice none 0 0)])):=by kernel_rfl
theorem pC1:plc prog 99=(some ([(0,1),(1,1)],[(.string (Tx [])),(.int .i64 0)])):=by kernel_rfl
theorem fC1:plc prog 102=(some ([(0,1),(1,1),(2,1),(3,1)],[(.slice none 0 0),(.int .i64 0),(.slice none 0 0),(.int .i64 0)])):=by kernel_rfl
theorem fB1:plc prog 124=(some ([(0,1),(1,1),(2,1),(3,1)],[(.slice none 0 0),(.slice none 0 0),(.slice none 0 0),(.bool false)])):=by kernel_rfl
theorem fA1:plc prog 142=(some ([(0,1),(1,1),(2,1)],[(.slice none 0 0),(.slice none 0 0),(.slice none 0 0)])):=by kernel_rfl
theorem eZ1:slcT prog 32=(some (some (34,9))):=by kernel_rfl
theorem yN2:szT prog 3=(some 1):=by kernel_rfl
theorem yM2:szT prog 4=(some 1):=by kernel_rfl
theorem yL2:szT prog 9=(some 1):=by kernel_rfl
theorem pB1:szT prog 23=(some 1):=by kernel_rfl
theorem pA1:szT prog 29=(some 1):=by kernel_rfl
theorem oZ1:szT prog 31=(some 4):=by kernel_rfl
theorem oY1:szT prog 32=(some 1):=by kernel_rfl
theorem oX1:szT prog 34=(some 9):=by kernel_rfl
theorem oW1:szT prog 55=(some 1):=by kernel_rfl
theorem oV1:szT prog 60=(some 3):=by kernel_rfl
theorem oU1:szT prog 69=(some 1):=by kernel_rfl
theorem oT1:szT prog 71=(some 1):=by kernel_rfl
theorem oS1:szT prog 73=(some 3):=by kernel_rfl
theorem oR1:szT prog 77=(some 8):=by kernel_rfl
theorem oQ1:szT prog 79=(some 9):=by kernel_rfl
theorem oP1:szT prog 95=(some 19):=by kernel_rfl
theorem eY1:szT prog 102=(some 4):=by kernel_rfl
theorem yK2:zro prog 3=(some [(.int .i64 0)]):=by kernel_rfl
theorem oO1:zro prog 23=(some [(.slice none 0 0)]):=by kernel_rfl
theorem oN1:zro prog 31=(some [(.int .i64 0),(.int .i64 0),(.string (Tx [])),(.slice none 0 0)]):=by kernel_rfl
theorem oM1:zro prog 34=(some [(.int .i64 0),(.int .i64 0),(.int .i64 0),(.string (Tx [])),(.int .i64 0),(.int .i64 0),(.string (Tx [])),(.slice none 0 0),(.slice none 0 0)]):=by kernel_rfl
theorem oL1:zro prog 55=(some [(.slice none 0 0)]):=by kernel_rfl
theorem oK1:zro prog 60=(some [(.int .i64 0),(.slice none 0 0),(.int .i64 0)]):=by kernel_rfl
theorem oJ1:zro prog 73=(some [(.slice none 0 0),(.slice none 0 0),(.slice none 0 0)]):=by kernel_rfl
theorem oI1:zro prog 77=(some [(.int .i64 0),(.string (Tx [])),(.string (Tx [])),(.int .i64 0),(.int .i64 0),(.string (Tx [])),(.slice none 0 0),(.slice none 0 0)]):=by kernel_rfl
theorem oH1:zro prog 79=(some [(.string (Tx [])),(.int .i64 0),(.string (Tx [])),(.string (Tx [])),(.int .i64 0),(.int .i64 0),(.string (Tx [])),(.slice none 0 0),(.slice none 0 0)]):=by kernel_rfl
theorem oG1:zro prog 95=(some [(.int .i64 0),(.int .i64 0),(.int .i64 0),(.string (Tx [])),(.int .i64 0),(.int .i64 0),(.string (Tx [])),(.slice none 0 0),(.slice none 0 0),(.int .i64 0),(.int .i64 0),(.int .i64 0),(.string (Tx [])),(.int .i64 0),(.int .i64 0),(.string (Tx [])),(.slice none 0 0),(.slice none 0 0),(.slice none 0 0)]):=by kernel_rfl
theorem eX1:zro prog 102=(some [(.slice none 0 0),(.int .i64 0),(.slice none 0 0),(.int .i64 0)]):=by kernel_rfl
theorem eW1:zro prog 146=(some [(.bool false),(.bool false)]):=by kernel_rfl
attribute [push_cast] nB0 nA0 mZ0 mY0 mX0 mW0 mV0 mU0 cO0 yF0 rY1 rX1 rW1 rV1 rU1 rT1 rS1 rR1 rQ1 rP1 rO1 fK1 fJ1 fI1 zG1 zF1 zE1 zD1 zC1 zB1 zA1 wZ1 wY1 wX1 wW1 wV1 wU1 wT1 wS1 wR1 wQ1 wP1 wO1 wN1 wM1 wL1 wK1 wJ1 wI1 wH1 wG1 wF1 wE1 wD1 wC1 wB1 wA1 uZ1 uY1 pV0 pU0 pT0 pS0 pR0 pQ0 pP0 pO0 pN0 pM0 pL0 pK0 pJ0 pW0 uX1 yQ2 yP2 yO2 rN1 rM1 rL1 rK1 rJ1 rI1 rH1 rG1 rF1 rE1 rD1 rC1 rB1 rA1 pZ1 pY1 pX1 pW1 fH1 fG1 fF1 pV1 pU1 pT1 pS1 pR1 pQ1 pP1 pO1 pN1 pM1 fE1 pL1 pK1 fD1 pJ1 pI1 pH1 pG1 pF1 pE1 pD1 pC1 fC1 fB1 fA1 eZ1 yN2 yM2 yL2 pB1 pA1 oZ1 oY1 oX1 oW1 oV1 oU1 oT1 oS1 oR1 oQ1 oP1 eY1 yK2 oO1 oN1 oM1 oL1 oK1 oJ1 oI1 oH1 oG1 eX1 eW1
abbrev NGG:Nat:=0
theorem mP1:prog.funcs.all (kX0 0)=true:=by kernel_rfl
theorem mixed:prog.follows .mixedOrders=true:=by kernel_rfl
theorem lV0 (g:Nat) (fn:Func) (h:prog.funcs[g]?=some fn):kX0 0 fn=true:=by
 have:=mP1
 rw[Array.all_eq_true_iff_forall_mem] at this
 exact this fn (Array.mem_of_getElem? h)
@[reducible] noncomputable def pp (G:Nat×Nat):Par:=⟨prog,0,G.1,G.2,fun _=>0,fun _=>.empty⟩
theorem jR (G:Nat×Nat):wC0 (pp G):=⟨lV0,mixed⟩
def LL:List (Nat×List Value):=[]
theorem LL_ok:okPl LL=true:=by kernel_rfl
def H0:jA:=kH0 1 LL
theorem qQ:H0.lo=1:=rfl
theorem jM0:H0.next=1:=rfl
@[reducible] def qq:Q:=⟨fun _=>false,H0⟩
end
end Go.Proofs.Ytgeakofgklcipaa
