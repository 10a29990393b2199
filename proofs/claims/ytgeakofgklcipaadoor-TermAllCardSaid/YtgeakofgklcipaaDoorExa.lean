/-
  A part of the proof: conditions over an abstract memory,and that they are enough for what the model's calls do. No condition of its own.
-/
import Derived.Test.YtgeakofgklcipaaDoorEvd
import Derived.Test.YtgeakofgklcipaaDoorProg
import Derived.KernelRfl
set_option linter.unusedSimpArgs false
set_option linter.unusedVariables false
set_option maxRecDepth 100000
namespace Go.Proofs.YtgeakofgklcipaaDoor
open _root_.Go.Proofs.Tryd (prog)
open Go.RowKit Go.Ev Go.Dv
noncomputable section
def Ig (d g:Nat) (w:Bool) (o:Go.Op) (t:TypeId):It:=⟨some d,some (g,w),.take,o,t⟩
def Ie (d:Nat) (o:Go.Op) (t:TypeId):It:=⟨some d,none,.eff,o,t⟩
def Ic (d f:Nat) (a:Array Operand) (b:Array TypeId) (t:TypeId):It:=⟨some d,none,.call,.call ⟨.value (.func f),a,b⟩,t⟩
def so (l:List It) (b:IR):IR:=.seq (.ops l) b
abbrev ud:Value:=undef
def lf (v:Value):VTr:=.node .nil v .nil
abbrev nd (l:VTr) (v:Value) (r:VTr):VTr:=.node l v r
noncomputable def irB (P:Program) (g:Nat):IR:=match fir P g with|some f=>f.4|none=>.skip
noncomputable def pk:List Nat→IR→IR
 | [],x=>x
 | i :: p,.seq a b=>pk p (match i with | 0=>a | _=>b)
 | i :: p,.cond _ a b=>pk p (match i with | 0=>a | _=>b)
 | _ :: p,.block _ b=>pk p b
 | _ :: p,.loop b=>pk p b
 | _ :: _,x=>x
noncomputable def wH2:IR:=pk [1,1,1,1,1,0,1,0,0] (irB prog 3)
noncomputable def wG2:IR:=pk [1,1,1,1,1,1] (irB prog 3)
noncomputable def ir3:IR:=irB prog 3
theorem fir3:fir prog 3=some ⟨90,5,[(.tmp 10)],ir3⟩:=by kernel_rfl
noncomputable def iL1:IR:=pk [1,1,1] (irB prog 12)
noncomputable def iM1:IR:=pk [1,1,0,1,0,0] (irB prog 12)
noncomputable def ir12:IR:=irB prog 12
theorem fir12:fir prog 12=some ⟨28,1,[(.tmp 2)],ir12⟩:=by kernel_rfl
noncomputable def iK1:IR:=pk [1,1,0,1,0,0] (irB prog 13)
noncomputable def iJ1:IR:=pk [1,1,1] (irB prog 13)
noncomputable def ir13:IR:=irB prog 13
theorem fir13:fir prog 13=some ⟨38,2,[(.cell 4 34)],ir13⟩:=by kernel_rfl
noncomputable def ir14:IR:=irB prog 14
theorem fir14:fir prog 14=some ⟨113,4,[(.cell 8 34)],ir14⟩:=by kernel_rfl
noncomputable def ir15:IR:=irB prog 15
theorem fir15:fir prog 15=some ⟨15,4,[(.tmp 8)],ir15⟩:=by kernel_rfl
noncomputable def pL0:IR:=pk [1,1,1,1,1,1] (irB prog 16)
noncomputable def pM0:IR:=pk [1,1,1,1,1,0,1,0,0] (irB prog 16)
noncomputable def ir16:IR:=irB prog 16
theorem fir16:fir prog 16=some ⟨123,4,[(.tmp 8)],ir16⟩:=by kernel_rfl
noncomputable def iH1:IR:=pk [1,1,1] (irB prog 17)
noncomputable def iI1:IR:=pk [1,1,0,1,0,0] (irB prog 17)
noncomputable def ir17:IR:=irB prog 17
theorem fir17:fir prog 17=some ⟨19,1,[(.tmp 2)],ir17⟩:=by kernel_rfl
noncomputable def iF1:IR:=pk [1,1,1] (irB prog 18)
noncomputable def iG1:IR:=pk [1,1,0,1,0,0] (irB prog 18)
noncomputable def ir18:IR:=irB prog 18
theorem fir18:fir prog 18=some ⟨21,1,[(.tmp 2)],ir18⟩:=by kernel_rfl
noncomputable def iD1:IR:=pk [1,1,1] (irB prog 19)
noncomputable def iE1:IR:=pk [1,1,0,1,0,0] (irB prog 19)
noncomputable def ir19:IR:=irB prog 19
theorem fir19:fir prog 19=some ⟨63,2,[(.tmp 4)],ir19⟩:=by kernel_rfl
noncomputable def iB1:IR:=pk [1,1,1] (irB prog 20)
noncomputable def iC1:IR:=pk [1,1,0,1,0,0] (irB prog 20)
noncomputable def ir20:IR:=irB prog 20
theorem fir20:fir prog 20=some ⟨68,2,[(.tmp 4)],ir20⟩:=by kernel_rfl
noncomputable def cH:IR:=pk [1,1] (irB prog 21)
noncomputable def bW:IR:=pk [1,0,0,1,1,1,0,1] (irB prog 21)
noncomputable def ir21:IR:=irB prog 21
theorem rR1:fir prog 21=some ⟨98,1,[(.cell 2 34)],ir21⟩:=by kernel_rfl
noncomputable def cF:IR:=pk [1,1,1] (irB prog 22)
noncomputable def bV:IR:=pk [1,1,0,1,0,1,1,1,0,1] (irB prog 22)
noncomputable def ir22:IR:=irB prog 22
theorem rQ1:fir prog 22=some ⟨73,1,[(.cell 2 34)],ir22⟩:=by kernel_rfl
noncomputable def fZ1:IR:=pk [1,1,1] (irB prog 23)
noncomputable def iA1:IR:=pk [1,1,0,1,0,0] (irB prog 23)
noncomputable def ir23:IR:=irB prog 23
theorem fir23:fir prog 23=some ⟨26,2,[(.tmp 4)],ir23⟩:=by kernel_rfl
noncomputable def fW1:IR:=pk [1,1,1] (irB prog 24)
noncomputable def ir24:IR:=irB prog 24
theorem fir24:fir prog 24=some ⟨17,1,[(.tmp 2)],ir24⟩:=by kernel_rfl
noncomputable def fY1:IR:=(.ops [⟨some 4,none,.eff,(.alloc 34),0⟩,⟨none,none,.eff,(.store 34 (.tmp 4) (.tmp 7)),0⟩])
theorem sQ1:comp prog (subC prog 24 0)=fY1:=by kernel_rfl
noncomputable def fX1:IR:=(.block 1 (.seq (.ops [⟨some 8,none,.take,(.fieldAddr 34 (.tmp 4) 0),0⟩,⟨some 9,none,.take,(.load 3 (.tmp 8)),3⟩,⟨some 10,none,.take,(.binOp .eql 3 (.tmp 9) (.const (.int .i64 14)) 3),4⟩]) (.cond (.tmp 10) (.ops [⟨some 11,none,.take,(.load 42 (.tmp 3)),42⟩,⟨some 12,none,.take,(.fieldAddr 34 (.tmp 4) 1),0⟩,⟨some 13,none,.take,(.load 3 (.tmp 12)),3⟩,⟨some 14,none,.eff,(.buildSlice 42 1 #[(0,(.tmp 13))]),42⟩,⟨some 15,none,.eff,(.call ⟨(.builtin .append),#[(.tmp 11),(.tmp 14)],#[42,42]⟩),42⟩,⟨none,none,.eff,(.store 42 (.tmp 3) (.tmp 15)),0⟩]) .skip)))
theorem sP1:comp prog (subC prog 24 1)=fX1:=by kernel_rfl
noncomputable def fU1:IR:=pk [1,1,1,1] (irB prog 25)
noncomputable def fV1:IR:=pk [1,1,1,0,1,0,0] (irB prog 25)
noncomputable def ir25:IR:=irB prog 25
theorem fir25:fir prog 25=some ⟨26,1,[(.tmp 2)],ir25⟩:=by kernel_rfl
noncomputable def ir27:IR:=irB prog 27
theorem fir27:fir prog 27=some ⟨15,2,[(.tmp 4)],ir27⟩:=by kernel_rfl
noncomputable def fS1:IR:=pk [1,1,1,1] (irB prog 28)
noncomputable def fT1:IR:=pk [1,1,1,0,1,0,0] (irB prog 28)
noncomputable def ir28:IR:=irB prog 28
theorem fir28:fir prog 28=some ⟨37,2,[(.tmp 4)],ir28⟩:=by kernel_rfl
noncomputable def fO1:IR:=pk [1,1,1,1] (irB prog 29)
noncomputable def pJ0:IR:=pk [1,1,1,0,1,0,0,1,1] (irB prog 29)
noncomputable def pK0:IR:=pk [1,1,1,0,1,0,0,1,0,0,1,1] (irB prog 29)
noncomputable def fR1:IR:=pk [1,1,0,1,0,0] (irB prog 29)
noncomputable def fP1:IR:=pk [1,1,1,0,1,0,0] (irB prog 29)
noncomputable def fQ1:IR:=pk [1,1,1] (irB prog 29)
noncomputable def ir29:IR:=irB prog 29
theorem fir29:fir prog 29=some ⟨58,1,[(.cell 2 57)],ir29⟩:=by kernel_rfl
noncomputable def ir30:IR:=irB prog 30
theorem fir30:fir prog 30=some ⟨18,1,[(.cell 2 34),(.tmp 3)],ir30⟩:=by kernel_rfl
noncomputable def fM1:IR:=pk [1,1,1,1,1] (irB prog 31)
noncomputable def fN1:IR:=pk [1,1,1,1,0,1,0,0] (irB prog 31)
noncomputable def iD0:IR:=pk [1,1,1,1] (irB prog 31)
noncomputable def ir31:IR:=irB prog 31
theorem fir31:fir prog 31=some ⟨68,4,[(.cell 8 34)],ir31⟩:=by kernel_rfl
noncomputable def pH0:IR:=pk [1,1,1,1,1] (irB prog 32)
noncomputable def pI0:IR:=pk [1,1,1,1,0,1,0,0] (irB prog 32)
noncomputable def ir32:IR:=irB prog 32
theorem fir32:fir prog 32=some ⟨94,3,[(.tmp 6)],ir32⟩:=by kernel_rfl
noncomputable def iB0:IR:=pk [1,1] (irB prog 33)
noncomputable def iA0:IR:=pk [1,0,1,0,1,1,1,1,1,1,1,1,1,1,1,1,1,1,1] (irB prog 33)
noncomputable def iC0:IR:=pk [1,0,1,0,1,1,1,1,1,1,1] (irB prog 33)
noncomputable def ir33:IR:=irB prog 33
theorem nY2:fir prog 33=some ⟨36,1,[(.cell 2 72)],ir33⟩:=by kernel_rfl
noncomputable def fY0:IR:=pk [1,1] (irB prog 34)
noncomputable def fZ0:IR:=pk [1,0,1,0,1,1,1,1,1] (irB prog 34)
noncomputable def ir34:IR:=irB prog 34
theorem fir34:fir prog 34=some ⟨60,4,[(.tmp 8)],ir34⟩:=by kernel_rfl
noncomputable def fK1:IR:=pk [1,1,1] (irB prog 35)
noncomputable def fL1:IR:=pk [1,1,0,1,0,0] (irB prog 35)
noncomputable def ir35:IR:=irB prog 35
theorem fir35:fir prog 35=some ⟨29,1,[(.tmp 2)],ir35⟩:=by kernel_rfl
noncomputable def fI1:IR:=pk [1,1,1,1,1] (irB prog 36)
noncomputable def fJ1:IR:=pk [1,1,1,1,0,1,0,0] (irB prog 36)
noncomputable def fX0:IR:=pk [1,1,1] (irB prog 36)
noncomputable def ir36:IR:=irB prog 36
theorem fir36:fir prog 36=some ⟨84,2,[(.tmp 4)],ir36⟩:=by kernel_rfl
noncomputable def fG1:IR:=pk [1,1,1] (irB prog 37)
noncomputable def fH1:IR:=pk [1,1,0,1,0,0] (irB prog 37)
noncomputable def ir37:IR:=irB prog 37
theorem fir37:fir prog 37=some ⟨53,2,[(.tmp 4)],ir37⟩:=by kernel_rfl
noncomputable def fE1:IR:=pk [1,1,1] (irB prog 38)
noncomputable def fF1:IR:=pk [1,1,0,1,0,0] (irB prog 38)
noncomputable def ir38:IR:=irB prog 38
theorem fir38:fir prog 38=some ⟨20,1,[(.tmp 2)],ir38⟩:=by kernel_rfl
noncomputable def fC1:IR:=pk [1,1,1] (irB prog 39)
noncomputable def fD1:IR:=pk [1,1,0,1,0,0] (irB prog 39)
noncomputable def ir39:IR:=irB prog 39
theorem fir39:fir prog 39=some ⟨52,2,[(.tmp 4)],ir39⟩:=by kernel_rfl
noncomputable def ir40:IR:=irB prog 40
theorem fir40:fir prog 40=some ⟨12,2,[(.cell 4 34)],ir40⟩:=by kernel_rfl
noncomputable def ir41:IR:=irB prog 41
theorem fir41:fir prog 41=some ⟨12,1,[(.cell 2 34)],ir41⟩:=by kernel_rfl
noncomputable def ir42:IR:=irB prog 42
theorem fir42:fir prog 42=some ⟨4,1,[(.tmp 2)],ir42⟩:=by kernel_rfl
noncomputable def pF0:IR:=pk [1,1] (irB prog 43)
noncomputable def pG0:IR:=pk [1,0,1,0,1] (irB prog 43)
noncomputable def ir43:IR:=irB prog 43
theorem fir43:fir prog 43=some ⟨10,1,[(.tmp 2)],ir43⟩:=by kernel_rfl
noncomputable def ir45:IR:=irB prog 45
theorem fir45:fir prog 45=some ⟨6,1,[(.tmp 2)],ir45⟩:=by kernel_rfl
noncomputable def ir46:IR:=irB prog 46
theorem fir46:fir prog 46=some ⟨2,0,[(.tmp 0)],ir46⟩:=by kernel_rfl
noncomputable def ir47:IR:=irB prog 47
theorem fir47:fir prog 47=some ⟨2,0,[(.tmp 0)],ir47⟩:=by kernel_rfl
noncomputable def ir48:IR:=irB prog 48
theorem fir48:fir prog 48=some ⟨15,2,[(.tmp 4)],ir48⟩:=by kernel_rfl
noncomputable def ir49:IR:=irB prog 49
theorem fir49:fir prog 49=some ⟨2,0,[(.tmp 0)],ir49⟩:=by kernel_rfl
noncomputable def qU:IR:=pk [1,1,1,1] (irB prog 50)
noncomputable def pC0:IR:=pk [1,1,1,0,1,0,1,1,1,1,1,1,1,1,1,1,1,1,1,1,1,1,1,1,1,1,1,1,1] (irB prog 50)
noncomputable def pD0:IR:=pk [1,1,1,0,1,0,1,1,1,1,1,1,1] (irB prog 50)
noncomputable def pE0:IR:=pk [1,1,1,0,1,0,1,1,1] (irB prog 50)
noncomputable def qV:IR:=pk [1,1,1,0,1,0,1] (irB prog 50)
noncomputable def ir50:IR:=irB prog 50
theorem fir50:fir prog 50=some ⟨133,2,[(.cell 4 61)],ir50⟩:=by kernel_rfl
noncomputable def fW0:IR:=pk [1,1,1,1,1,1,0,1,0,0] (irB prog 51)
noncomputable def fA1:IR:=pk [1,1,1,1,1,1,1,1] (irB prog 51)
noncomputable def fB1:IR:=pk [1,1,1,1,1,1,1,0,1,0,0] (irB prog 51)
noncomputable def fV0:IR:=pk [1,1,1,1,1,1,1] (irB prog 51)
noncomputable def ir51:IR:=irB prog 51
theorem fir51:fir prog 51=some ⟨110,1,[(.cell 2 88),(.tmp 3)],ir51⟩:=by kernel_rfl
noncomputable def ir52:IR:=irB prog 52
theorem fir52:fir prog 52=some ⟨58,3,[(.tmp 6)],ir52⟩:=by kernel_rfl
noncomputable def pA0:IR:=pk [1,1,1] (irB prog 53)
noncomputable def pB0:IR:=pk [1,1] (irB prog 53)
noncomputable def ir53:IR:=irB prog 53
theorem fir53:fir prog 53=some ⟨16,1,[(.cell 2 77)],ir53⟩:=by kernel_rfl
noncomputable def ir54:IR:=irB prog 54
theorem fir54:fir prog 54=some ⟨25,1,[(.tmp 2)],ir54⟩:=by kernel_rfl
noncomputable def ir55:IR:=irB prog 55
theorem fir55:fir prog 55=some ⟨22,1,[(.tmp 2)],ir55⟩:=by kernel_rfl
noncomputable def eZ1:IR:=pk [1,1,1,1,1] (irB prog 56)
noncomputable def oZ0:IR:=pk [1,1,1,1,0,1,0,0] (irB prog 56)
noncomputable def kM0:IR:=pk [1,1,1] (irB prog 56)
noncomputable def ir56:IR:=irB prog 56
theorem fir56:fir prog 56=some ⟨81,2,[(.tmp 4)],ir56⟩:=by kernel_rfl
noncomputable def ir57:IR:=irB prog 57
theorem fir57:fir prog 57=some ⟨15,3,[(.tmp 6)],ir57⟩:=by kernel_rfl
noncomputable def eV1:IR:=pk [1,0,1,0,0,1,0,0,1,0,1] (irB prog 58)
noncomputable def eX1:IR:=pk [1,0,1,0,0,1,0,0,1,0,0,1,0,0,1,0,0,1,0] (irB prog 58)
noncomputable def eU1:IR:=pk [1,0,1,0,0,1,1] (irB prog 58)
noncomputable def eW1:IR:=pk [1,0,1,0,0,1,0,0,1,0,0,1,0,0] (irB prog 58)
noncomputable def eY1:IR:=pk [1,0,1,0,0] (irB prog 58)
noncomputable def ir58:IR:=irB prog 58
theorem fir58:fir prog 58=some ⟨52,1,[(.tmp 2)],ir58⟩:=by kernel_rfl
noncomputable def ir59:IR:=irB prog 59
theorem fir59:fir prog 59=some ⟨27,2,[(.tmp 4)],ir59⟩:=by kernel_rfl
noncomputable def ir60:IR:=irB prog 60
theorem fir60:fir prog 60=some ⟨8,1,[(.cell 2 31)],ir60⟩:=by kernel_rfl
noncomputable def ir61:IR:=irB prog 61
theorem fir61:fir prog 61=some ⟨5,1,[(.tmp 2)],ir61⟩:=by kernel_rfl
noncomputable def ir62:IR:=irB prog 62
theorem fir62:fir prog 62=some ⟨6,2,[],ir62⟩:=by kernel_rfl
noncomputable def eS1:IR:=pk [1,1,1,0,1,0,1,1,1,1] (irB prog 63)
noncomputable def eT1:IR:=pk [1,1,1,1,0,1,0,0] (irB prog 63)
noncomputable def bI0:IR:=pk [1,1,1,1] (irB prog 63)
noncomputable def ir63:IR:=irB prog 63
theorem fir63:fir prog 63=some ⟨37,2,[(.tmp 4)],ir63⟩:=by kernel_rfl
noncomputable def eQ1:IR:=pk [1,1,1,1] (irB prog 64)
noncomputable def eR1:IR:=pk [1,1,1,0,1,0,0] (irB prog 64)
noncomputable def ir64:IR:=irB prog 64
theorem fir64:fir prog 64=some ⟨31,2,[(.tmp 4)],ir64⟩:=by kernel_rfl
noncomputable def ir65:IR:=irB prog 65
theorem fir65:fir prog 65=some ⟨25,3,[(.cell 6 61)],ir65⟩:=by kernel_rfl
noncomputable def ir66:IR:=irB prog 66
theorem fir66:fir prog 66=some ⟨14,2,[(.cell 4 31)],ir66⟩:=by kernel_rfl
noncomputable def eM1:IR:=pk [1,1,1,1] (irB prog 67)
noncomputable def eP1:IR:=pk [1,1,0,1,0,0] (irB prog 67)
noncomputable def eN1:IR:=pk [1,1,1,0,1,0,0] (irB prog 67)
noncomputable def eO1:IR:=pk [1,1,1] (irB prog 67)
noncomputable def ir67:IR:=irB prog 67
theorem fir67:fir prog 67=some ⟨42,1,[(.tmp 2),(.tmp 3)],ir67⟩:=by kernel_rfl
noncomputable def eK1:IR:=pk [1,1] (irB prog 68)
noncomputable def eL1:IR:=pk [1,0,1,0,0] (irB prog 68)
noncomputable def ir68:IR:=irB prog 68
theorem fir68:fir prog 68=some ⟨18,1,[(.tmp 2)],ir68⟩:=by kernel_rfl
noncomputable def eI1:IR:=pk [1,1] (irB prog 69)
noncomputable def eJ1:IR:=pk [1,0,1,0,0] (irB prog 69)
noncomputable def ir69:IR:=irB prog 69
theorem fir69:fir prog 69=some ⟨19,2,[(.tmp 4)],ir69⟩:=by kernel_rfl
noncomputable def eG1:IR:=pk [1,1,1,1] (irB prog 70)
noncomputable def eH1:IR:=pk [1,1,1,0,1,0,0] (irB prog 70)
noncomputable def qD0:IR:=pk [1,1,1] (irB prog 70)
noncomputable def bH0:IR:=pk [1,1,0,1,0,1,1,1,1,1] (irB prog 70)
noncomputable def ir70:IR:=irB prog 70
theorem fir70:fir prog 70=some ⟨117,2,[(.cell 4 34)],ir70⟩:=by kernel_rfl
noncomputable def eA1:IR:=pk [1,1,1,1,1] (irB prog 71)
noncomputable def eC1:IR:=pk [1,1,1,0,1,0,0,1,1] (irB prog 71)
noncomputable def dY1:IR:=pk [1,1,1,0,1,0,0,1,0,0,1,0,0,1,1] (irB prog 71)
noncomputable def eB1:IR:=pk [1,1,1,1,0,1,0,0] (irB prog 71)
noncomputable def eE1:IR:=pk [1,1,1,1] (irB prog 71)
noncomputable def dZ1:IR:=pk [1,1,1,0,1,0,0,1,0,0,1,0,0,1,0,0,1,0,0] (irB prog 71)
noncomputable def eD1:IR:=pk [1,1,1,0,1,0,0,1,0,0,1,0,0] (irB prog 71)
noncomputable def eF1:IR:=pk [1,1,1,0,1,0,0] (irB prog 71)
noncomputable def ir71:IR:=irB prog 71
theorem fir71:fir prog 71=some ⟨71,1,[(.tmp 2)],ir71⟩:=by kernel_rfl
noncomputable def ir72:IR:=irB prog 72
theorem fir72:fir prog 72=some ⟨21,1,[(.tmp 2)],ir72⟩:=by kernel_rfl
noncomputable def ir73:IR:=irB prog 73
theorem fir73:fir prog 73=some ⟨9,1,[(.tmp 2)],ir73⟩:=by kernel_rfl
noncomputable def dW1:IR:=pk [1,1] (irB prog 74)
noncomputable def dX1:IR:=pk [1,0,1,0,0] (irB prog 74)
noncomputable def ir74:IR:=irB prog 74
theorem fir74:fir prog 74=some ⟨20,2,[(.tmp 4)],ir74⟩:=by kernel_rfl
noncomputable def ir75:IR:=irB prog 75
theorem fir75:fir prog 75=some ⟨13,1,[(.tmp 2)],ir75⟩:=by kernel_rfl
noncomputable def dU1:IR:=pk [1,1,1,1] (irB prog 76)
noncomputable def dV1:IR:=pk [1,1,1,0,1,0,0] (irB prog 76)
noncomputable def ir76:IR:=irB prog 76
theorem fir76:fir prog 76=some ⟨29,2,[(.tmp 4)],ir76⟩:=by kernel_rfl
noncomputable def dS1:IR:=pk [1,1,1,1] (irB prog 77)
noncomputable def dT1:IR:=pk [1,1,1,0,1,0,0] (irB prog 77)
noncomputable def ir77:IR:=irB prog 77
theorem fir77:fir prog 77=some ⟨29,2,[(.tmp 4)],ir77⟩:=by kernel_rfl
noncomputable def ir78:IR:=irB prog 78
theorem fir78:fir prog 78=some ⟨70,2,[(.cell 4 31)],ir78⟩:=by kernel_rfl
noncomputable def ir79:IR:=irB prog 79
theorem nX2:fir prog 79=some ⟨17,3,[(.tmp 6)],ir79⟩:=by kernel_rfl
noncomputable def dQ1:IR:=pk [1,1,1,1] (irB prog 80)
noncomputable def dR1:IR:=pk [1,1,1,0,1,0,0] (irB prog 80)
noncomputable def fU0:IR:=pk [1,1,1] (irB prog 80)
noncomputable def ir80:IR:=irB prog 80
theorem fir80:fir prog 80=some ⟨44,2,[(.cell 4 31)],ir80⟩:=by kernel_rfl
noncomputable def dO1:IR:=pk [1,1,1,1] (irB prog 81)
noncomputable def dP1:IR:=pk [1,1,1,0,1,0,0] (irB prog 81)
noncomputable def ir81:IR:=irB prog 81
theorem fir81:fir prog 81=some ⟨38,1,[(.tmp 2)],ir81⟩:=by kernel_rfl
noncomputable def ir82:IR:=irB prog 82
theorem fir82:fir prog 82=some ⟨9,1,[(.tmp 2)],ir82⟩:=by kernel_rfl
noncomputable def ir83:IR:=irB prog 83
theorem fir83:fir prog 83=some ⟨15,2,[(.tmp 4)],ir83⟩:=by kernel_rfl
noncomputable def ir84:IR:=irB prog 84
theorem fir84:fir prog 84=some ⟨25,3,[(.cell 6 31)],ir84⟩:=by kernel_rfl
noncomputable def oY0:IR:=pk [1,1,1,1] (irB prog 85)
noncomputable def dN1:IR:=pk [1,1,1,0,1,0,0,1,0,1,1,0,0] (irB prog 85)
noncomputable def fT0:IR:=pk [1,1,1,0,1,0,0] (irB prog 85)
noncomputable def ir85:IR:=irB prog 85
theorem fir85:fir prog 85=some ⟨99,1,[(.tmp 2)],ir85⟩:=by kernel_rfl
noncomputable def dM1:IR:=pk [1,1,0,1,1,1,1,1,0,0] (irB prog 86)
noncomputable def ir86:IR:=irB prog 86
theorem fir86:fir prog 86=some ⟨67,3,[],ir86⟩:=by kernel_rfl
noncomputable def oV0:IR:=pk [1,1,1,1] (irB prog 87)
noncomputable def dL1:IR:=pk [1,1,0,1,0,0] (irB prog 87)
noncomputable def oW0:IR:=pk [1,1,1,0,1,0,1,1,1,1,1,1,1,1,1] (irB prog 87)
noncomputable def oX0:IR:=pk [1,1,1] (irB prog 87)
noncomputable def ir87:IR:=irB prog 87
theorem fir87:fir prog 87=some ⟨129,2,[(.tmp 4),(.tmp 5)],ir87⟩:=by kernel_rfl
theorem nR0:cP prog 29 29=(some (31,(4,56))):=by kernel_rfl
theorem nQ0:cP prog 32 32=(some (34,(9,120))):=by kernel_rfl
theorem nP0:cP prog 42 42=(some (3,(1,8))):=by kernel_rfl
theorem nO0:cP prog 53 53=(some (85,(2,24))):=by kernel_rfl
theorem nN0:cP prog 54 54=(some (9,(1,16))):=by kernel_rfl
theorem nM0:cP prog 55 55=(some (63,(9,136))):=by kernel_rfl
theorem cV0:cP prog 122 122=(some (124,(1,24))):=by kernel_rfl
theorem cI0:cnvT prog 3 91=(some (0,((some .u64),0))):=by kernel_rfl
theorem cH0:cnvT prog 5 21=(some (0,((some .i32),0))):=by kernel_rfl
theorem qW2:esz prog 22=(some (none,3)):=by kernel_rfl
theorem qV2:esz prog 23=(some (none,5)):=by kernel_rfl
theorem qU2:esz prog 29=(some (none,4)):=by kernel_rfl
theorem qT2:esz prog 32=(some (none,9)):=by kernel_rfl
theorem qS2:esz prog 42=(some (none,1)):=by kernel_rfl
theorem qR2:esz prog 53=(some (none,2)):=by kernel_rfl
theorem qQ2:esz prog 54=(some (none,1)):=by kernel_rfl
theorem qP2:esz prog 55=(some (none,9)):=by kernel_rfl
theorem qO2:esz prog 59=(some (none,8)):=by kernel_rfl
theorem qN2:esz prog 77=(some ((some 3),1)):=by kernel_rfl
theorem qM2:esz prog 94=(some ((some 15),5)):=by kernel_rfl
theorem mW1:esz prog 122=(some (none,1)):=by kernel_rfl
theorem mV1:esz prog 124=(some (none,1)):=by kernel_rfl
theorem mU1:esz prog 133=(some ((some 2),1)):=by kernel_rfl
theorem yS1:fld prog 25 0=(some 0):=by kernel_rfl
theorem yR1:fld prog 25 1=(some 1):=by kernel_rfl
theorem yQ1:fld prog 25 2=(some 2):=by kernel_rfl
theorem yP1:fld prog 25 3=(some 3):=by kernel_rfl
theorem yO1:fld prog 25 4=(some 4):=by kernel_rfl
theorem yN1:fld prog 28 0=(some 0):=by kernel_rfl
theorem yM1:fld prog 28 2=(some 2):=by kernel_rfl
theorem yL1:fld prog 31 0=(some 0):=by kernel_rfl
theorem yK1:fld prog 31 1=(some 1):=by kernel_rfl
theorem yJ1:fld prog 31 2=(some 2):=by kernel_rfl
theorem yI1:fld prog 31 3=(some 3):=by kernel_rfl
theorem yH1:fld prog 34 0=(some 0):=by kernel_rfl
theorem yG1:fld prog 34 1=(some 1):=by kernel_rfl
theorem yF1:fld prog 34 2=(some 2):=by kernel_rfl
theorem yE1:fld prog 34 3=(some 3):=by kernel_rfl
theorem yD1:fld prog 34 4=(some 4):=by kernel_rfl
theorem yC1:fld prog 34 5=(some 8):=by kernel_rfl
theorem yB1:fld prog 57 0=(some 0):=by kernel_rfl
theorem yA1:fld prog 57 1=(some 1):=by kernel_rfl
theorem kZ1:fld prog 57 2=(some 2):=by kernel_rfl
theorem kY1:fld prog 61 0=(some 0):=by kernel_rfl
theorem kX1:fld prog 61 1=(some 1):=by kernel_rfl
theorem kW1:fld prog 61 2=(some 2):=by kernel_rfl
theorem kV1:fld prog 61 3=(some 3):=by kernel_rfl
theorem kU1:fld prog 61 4=(some 7):=by kernel_rfl
theorem kT1:fld prog 63 0=(some 0):=by kernel_rfl
theorem kS1:fld prog 63 1=(some 1):=by kernel_rfl
theorem kR1:fld prog 69 0=(some 0):=by kernel_rfl
theorem kQ1:fld prog 69 1=(some 1):=by kernel_rfl
theorem kP1:fld prog 69 2=(some 2):=by kernel_rfl
theorem kO1:fld prog 72 0=(some 0):=by kernel_rfl
theorem kN1:fld prog 72 1=(some 1):=by kernel_rfl
theorem kM1:fld prog 72 2=(some 2):=by kernel_rfl
theorem kK1:fld prog 72 3=(some 3):=by kernel_rfl
theorem kJ1:fld prog 72 4=(some 4):=by kernel_rfl
theorem kI1:fld prog 85 0=(some 0):=by kernel_rfl
theorem kH1:fld prog 85 1=(some 1):=by kernel_rfl
theorem kG1:fld prog 88 0=(some 0):=by kernel_rfl
theorem kF1:fld prog 88 2=(some 2):=by kernel_rfl
theorem kE1:fld prog 88 3=(some 3):=by kernel_rfl
theorem kD1:fld prog 93 0=(some 0):=by kernel_rfl
theorem kC1:fld prog 93 1=(some 1):=by kernel_rfl
theorem kB1:fld prog 93 2=(some 2):=by kernel_rfl
theorem rT0:fld prog 111 0=(some 0):=by kernel_rfl
theorem rS0:fld prog 111 1=(some 1):=by kernel_rfl
theorem rR0:fld prog 111 2=(some 2):=by kernel_rfl
theorem rQ0:fld prog 111 3=(some 3):=by kernel_rfl
theorem rP0:fld prog 120 0=(some 0):=by kernel_rfl
theorem rO0:fld prog 120 1=(some 1):=by kernel_rfl
theorem rN0:fld prog 120 2=(some 2):=by kernel_rfl
theorem rM0:fld prog 129 0=(some 0):=by kernel_rfl
theorem rL0:fld prog 129 1=(some 1):=by kernel_rfl
theorem rK0:fld prog 129 2=(some 2):=by kernel_rfl
theorem kA1:isBool prog 4=true:=by kernel_rfl
theorem mT1:oU0 prog 9=true:=by kernel_rfl
theorem eT2:ixT prog 9=(some none):=by kernel_rfl
theorem eS2:knd prog 3=(some (false,0)):=by kernel_rfl
theorem eR2:knd prog 4=(some (false,0)):=by kernel_rfl
theorem eQ2:knd prog 9=(some (false,0)):=by kernel_rfl
theorem qL2:knd prog 22=(some (false,0)):=by kernel_rfl
theorem qK2:knd prog 23=(some (false,0)):=by kernel_rfl
theorem qJ2:knd prog 25=(some (true,5)):=by kernel_rfl
theorem qI2:knd prog 29=(some (false,0)):=by kernel_rfl
theorem qH2:knd prog 31=(some (true,4)):=by kernel_rfl
theorem qG2:knd prog 32=(some (false,0)):=by kernel_rfl
theorem qF2:knd prog 34=(some (true,9)):=by kernel_rfl
theorem qE2:knd prog 42=(some (false,0)):=by kernel_rfl
theorem qD2:knd prog 53=(some (false,0)):=by kernel_rfl
theorem qC2:knd prog 54=(some (false,0)):=by kernel_rfl
theorem qB2:knd prog 55=(some (false,0)):=by kernel_rfl
theorem qA2:knd prog 57=(some (true,3)):=by kernel_rfl
theorem jZ2:knd prog 59=(some (false,0)):=by kernel_rfl
theorem jY2:knd prog 61=(some (true,8)):=by kernel_rfl
theorem jX2:knd prog 63=(some (true,9)):=by kernel_rfl
theorem jW2:knd prog 69=(some (true,3)):=by kernel_rfl
theorem jV2:knd prog 77=(some (true,3)):=by kernel_rfl
theorem jU2:knd prog 88=(some (true,4)):=by kernel_rfl
theorem jT2:knd prog 93=(some (true,5)):=by kernel_rfl
theorem mS1:knd prog 120=(some (true,3)):=by kernel_rfl
theorem mR1:knd prog 124=(some (false,0)):=by kernel_rfl
theorem eP2:lnT prog 9=(some true):=by kernel_rfl
theorem jS2:lnT prog 22=(some false):=by kernel_rfl
theorem jR2:lnT prog 23=(some false):=by kernel_rfl
theorem jQ2:lnT prog 29=(some false):=by kernel_rfl
theorem jP2:lnT prog 32=(some false):=by kernel_rfl
theorem jO2:lnT prog 42=(some false):=by kernel_rfl
theorem jN2:lnT prog 53=(some false):=by kernel_rfl
theorem jM2:lnT prog 54=(some false):=by kernel_rfl
theorem jL2:lnT prog 55=(some false):=by kernel_rfl
theorem jK2:lnT prog 59=(some false):=by kernel_rfl
theorem mQ1:lnT prog 122=(some false):=by kernel_rfl
theorem jJ2:mkT prog 29=(some (31,(4,(56,[(.int .i64 0),(.int .i64 0),(.string (Tx [])),(.slice none 0 0)])))):=by kernel_rfl
theorem jI2:mkT prog 32=(some (34,(9,(120,[(.int .i64 0),(.int .i64 0),(.int .i64 0),(.string (Tx [])),(.int .i64 0),(.int .i64 0),(.string (Tx [])),(.slice none 0 0),(.slice none 0 0)])))):=by kernel_rfl
theorem mP1:mkT prog 124=(some (4,(1,(1,[(.bool false)])))):=by kernel_rfl
theorem jH2:plc prog 28=(some ([(0,1),(1,1),(2,1)],[(.int .i64 0),(.int .i64 0),(.slice none 0 0)])):=by kernel_rfl
theorem jG2:plc prog 31=(some ([(0,1),(1,1),(2,1),(3,1)],[(.int .i64 0),(.int .i64 0),(.string (Tx [])),(.slice none 0 0)])):=by kernel_rfl
theorem jF2:plc prog 34=(some ([(0,1),(1,1),(2,1),(3,1),(4,4),(8,1)],[(.int .i64 0),(.int .i64 0),(.int .i64 0),(.string (Tx [])),(.int .i64 0),(.int .i64 0),(.string (Tx [])),(.slice none 0 0),(.slice none 0 0)])):=by kernel_rfl
theorem jE2:plc prog 57=(some ([(0,1),(1,1),(2,1)],[(.slice none 0 0),(.slice none 0 0),(.slice none 0 0)])):=by kernel_rfl
theorem jD2:plc prog 61=(some ([(0,1),(1,1),(2,1),(3,4),(7,1)],[(.int .i64 0),(.string (Tx [])),(.string (Tx [])),(.int .i64 0),(.int .i64 0),(.string (Tx [])),(.slice none 0 0),(.slice none 0 0)])):=by kernel_rfl
theorem jC2:plc prog 63=(some ([(0,1),(1,8)],[(.string (Tx [])),(.int .i64 0),(.string (Tx [])),(.string (Tx [])),(.int .i64 0),(.int .i64 0),(.string (Tx [])),(.slice none 0 0),(.slice none 0 0)])):=by kernel_rfl
theorem jB2:plc prog 69=(some ([(0,1),(1,1),(2,1)],[(.int .i64 0),(.int .i64 0),(.int .i64 0)])):=by kernel_rfl
theorem jA2:plc prog 72=(some ([(0,1),(1,1),(2,1),(3,1),(4,1)],[(.bool false),(.bool false),(.bool false),(.bool false),(.int .i64 0)])):=by kernel_rfl
theorem tZ1:plc prog 77=(some ([(0,1),(1,1),(2,1)],[(.int .i64 0),(.int .i64 0),(.int .i64 0)])):=by kernel_rfl
theorem tY1:plc prog 85=(some ([(0,1),(1,1)],[(.string (Tx [])),(.int .i64 0)])):=by kernel_rfl
theorem tX1:plc prog 88=(some ([(0,1),(1,1),(2,1),(3,1)],[(.slice none 0 0),(.int .i64 0),(.slice none 0 0),(.int .i64 0)])):=by kernel_rfl
theorem mO1:plc prog 111=(some ([(0,1),(1,1),(2,1),(3,1)],[(.slice none 0 0),(.slice none 0 0),(.slice none 0 0),(.bool false)])):=by kernel_rfl
theorem mN1:plc prog 129=(some ([(0,1),(1,1),(2,1)],[(.slice none 0 0),(.slice none 0 0),(.slice none 0 0)])):=by kernel_rfl
theorem tW1:slcT prog 9=(some none):=by kernel_rfl
theorem mM1:slcT prog 32=(some (some (34,9))):=by kernel_rfl
theorem eO2:szT prog 3=(some 1):=by kernel_rfl
theorem eN2:szT prog 4=(some 1):=by kernel_rfl
theorem eM2:szT prog 9=(some 1):=by kernel_rfl
theorem tV1:szT prog 29=(some 1):=by kernel_rfl
theorem tU1:szT prog 31=(some 4):=by kernel_rfl
theorem tT1:szT prog 32=(some 1):=by kernel_rfl
theorem tS1:szT prog 34=(some 9):=by kernel_rfl
theorem tR1:szT prog 42=(some 1):=by kernel_rfl
theorem tQ1:szT prog 53=(some 1):=by kernel_rfl
theorem tP1:szT prog 55=(some 1):=by kernel_rfl
theorem tO1:szT prog 57=(some 3):=by kernel_rfl
theorem tN1:szT prog 61=(some 8):=by kernel_rfl
theorem tM1:szT prog 63=(some 9):=by kernel_rfl
theorem tL1:szT prog 72=(some 5):=by kernel_rfl
theorem tK1:szT prog 77=(some 3):=by kernel_rfl
theorem tJ1:szT prog 88=(some 4):=by kernel_rfl
theorem tI1:szT prog 93=(some 5):=by kernel_rfl
theorem eL2:zro prog 3=(some [(.int .i64 0)]):=by kernel_rfl
theorem tH1:zro prog 31=(some [(.int .i64 0),(.int .i64 0),(.string (Tx [])),(.slice none 0 0)]):=by kernel_rfl
theorem tG1:zro prog 34=(some [(.int .i64 0),(.int .i64 0),(.int .i64 0),(.string (Tx [])),(.int .i64 0),(.int .i64 0),(.string (Tx [])),(.slice none 0 0),(.slice none 0 0)]):=by kernel_rfl
theorem tF1:zro prog 42=(some [(.slice none 0 0)]):=by kernel_rfl
theorem tE1:zro prog 57=(some [(.slice none 0 0),(.slice none 0 0),(.slice none 0 0)]):=by kernel_rfl
theorem tD1:zro prog 61=(some [(.int .i64 0),(.string (Tx [])),(.string (Tx [])),(.int .i64 0),(.int .i64 0),(.string (Tx [])),(.slice none 0 0),(.slice none 0 0)]):=by kernel_rfl
theorem tC1:zro prog 63=(some [(.string (Tx [])),(.int .i64 0),(.string (Tx [])),(.string (Tx [])),(.int .i64 0),(.int .i64 0),(.string (Tx [])),(.slice none 0 0),(.slice none 0 0)]):=by kernel_rfl
theorem tB1:zro prog 72=(some [(.bool false),(.bool false),(.bool false),(.bool false),(.int .i64 0)]):=by kernel_rfl
theorem tA1:zro prog 77=(some [(.int .i64 0),(.int .i64 0),(.int .i64 0)]):=by kernel_rfl
theorem sZ1:zro prog 88=(some [(.slice none 0 0),(.int .i64 0),(.slice none 0 0),(.int .i64 0)]):=by kernel_rfl
theorem sY1:zro prog 93=(some [(.int .i64 0),(.int .i64 0),(.int .i64 0),(.int .i64 0),(.int .i64 0)]):=by kernel_rfl
theorem mL1:zro prog 133=(some [(.bool false),(.bool false)]):=by kernel_rfl
attribute [push_cast] nR0 nQ0 nP0 nO0 nN0 nM0 cV0 cI0 cH0 qW2 qV2 qU2 qT2 qS2 qR2 qQ2 qP2 qO2 qN2 qM2 mW1 mV1 mU1 yS1 yR1 yQ1 yP1 yO1 yN1 yM1 yL1 yK1 yJ1 yI1 yH1 yG1 yF1 yE1 yD1 yC1 yB1 yA1 kZ1 kY1 kX1 kW1 kV1 kU1 kT1 kS1 kR1 kQ1 kP1 kO1 kN1 kM1 kK1 kJ1 kI1 kH1 kG1 kF1 kE1 kD1 kC1 kB1 rT0 rS0 rR0 rQ0 rP0 rO0 rN0 rM0 rL0 rK0 kA1 mT1 eT2 eS2 eR2 eQ2 qL2 qK2 qJ2 qI2 qH2 qG2 qF2 qE2 qD2 qC2 qB2 qA2 jZ2 jY2 jX2 jW2 jV2 jU2 jT2 mS1 mR1 eP2 jS2 jR2 jQ2 jP2 jO2 jN2 jM2 jL2 jK2 mQ1 jJ2 jI2 mP1 jH2 jG2 jF2 jE2 jD2 jC2 jB2 jA2 tZ1 tY1 tX1 mO1 mN1 tW1 mM1 eO2 eN2 eM2 tV1 tU1 tT1 tS1 tR1 tQ1 tP1 tO1 tN1 tM1 tL1 tK1 tJ1 tI1 eL2 tH1 tG1 tF1 tE1 tD1 tC1 tB1 tA1 sZ1 sY1 mL1
abbrev NGG:Nat:=1
theorem rM1:prog.funcs.all (yB0 1)=true:=by kernel_rfl
theorem mixed:prog.follows .mixedOrders=true:=by kernel_rfl
theorem mL0 (g:Nat) (fn:Func) (h:prog.funcs[g]?=some fn):yB0 1 fn=true:=by
 have:=rM1
 rw[Array.all_eq_true_iff_forall_mem] at this
 exact this fn (Array.mem_of_getElem? h)
@[reducible] noncomputable def pp (G:Nat×Nat):Par:=⟨prog,1,G.1,G.2,fun _=>0,fun _=>.empty⟩
theorem qB (G:Nat×Nat):kW0 (pp G):=⟨mL0,mixed⟩
def LL:List (Nat×List Value):=[(0,[.int .i64 0,.int .i64 0,.int .i64 0,.int .i64 0,.int .i64 0,.int .i64 2,.int .i64 0,.int .i64 1,.int .i64 0,.int .i64 0,.int .i64 1,.int .i64 0,.int .i64 0,.int .i64 1,.int .i64 0,.int .i64 3,.int .i64 0,.int .i64 0,.int .i64 0,.int .i64 1,.int .i64 3,.int .i64 0,.int .i64 0,.int .i64 0,.int .i64 0,.int .i64 3,.int .i64 0,.int .i64 0,.int .i64 0,.int .i64 0,.int .i64 3,.int .i64 3,.int .i64 0,.int .i64 0,.int .i64 0,.int .i64 0,.int .i64 0,.int .i64 0,.int .i64 0,.int .i64 1,.int .i64 0,.int .i64 0,.int .i64 0,.int .i64 0,.int .i64 0,.int .i64 0,.int .i64 0,.int .i64 0,.int .i64 1,.int .i64 2,.int .i64 0,.int .i64 0,.int .i64 0,.int .i64 0,.int .i64 2,.int .i64 0,.int .i64 0,.int .i64 0,.int .i64 0,.int .i64 2,.int .i64 0,.int .i64 0,.int .i64 0,.int .i64 0,.int .i64 2,.int .i64 4,.int .i64 0,.int .i64 0,.int .i64 0,.int .i64 0,.int .i64 5,.int .i64 2,.int .i64 1,.int .i64 0,.int .i64 0])]
theorem LL_ok:okPl LL=true:=by kernel_rfl
def H0:jA:=kL0 1 LL
theorem mY1:H0.lo=1:=rfl
theorem bI:H0.next=1:=rfl
@[reducible] def qq:Q:=⟨fun _=>false,H0⟩
end
end Go.Proofs.YtgeakofgklcipaaDoor
namespace Go.Proofs.YtgeakofgklcipaaDoor
open _root_.Go.Proofs.Tryd (prog)
open Go Go.RowKit Go.Ev Go.Dv
noncomputable section
def lP (t:Nat) (v:Value) (h:jA) [x:WK]:Prop:=oP (ldD prog t v h) h kk
@[push_cast] theorem lP_e (t:Nat) (v:Value) (h:jA) (x:WK):@lP t v h x=oP (ldD prog t v h) h kk:=rfl
def fP (t:Nat) (i:Nat) (v:Value) (h:jA) [x:WK]:Prop:=oP (faD (fld prog t i) v) h kk
@[push_cast] theorem fP_e (t:Nat) (i:Nat) (v:Value) (h:jA) (x:WK):@fP t i v h x=oP (faD (fld prog t i) v) h kk:=rfl
def iP (t:Nat) (v:Value) (w:Value) (h:jA) [x:WK]:Prop:=oP (iaD (esz prog t) v w) h kk
@[push_cast] theorem iP_e (t:Nat) (v:Value) (w:Value) (h:jA) (x:WK):@iP t v w h x=oP (iaD (esz prog t) v w) h kk:=rfl
def nP (t:Nat) (v:Value) (h:jA) [x:WK]:Prop:=oP (lnD (lnT prog t) v) h kk
@[push_cast] theorem nP_e (t:Nat) (v:Value) (h:jA) (x:WK):@nP t v h x=oP (lnD (lnT prog t) v) h kk:=rfl
def bP (op:BinOp) (a:Nat) (c:Int) (v:Value) (h:jA) [x:WK]:Prop:=oP (jD prog op 3 (.tmp a) (.const (.int .i64 c)) v (.int .i64 c)) h kk
@[push_cast] theorem bP_e (op:BinOp) (a:Nat) (c:Int) (v:Value) (h:jA) (x:WK):@bP op a c v h x=oP (jD prog op 3 (.tmp a) (.const (.int .i64 c)) v (.int .i64 c)) h kk:=rfl
def b2 (op:BinOp) (a:Nat) (b:Nat) (v:Value) (w:Value) (h:jA) [x:WK]:Prop:=oP (jD prog op 3 (.tmp a) (.tmp b) v w) h kk
@[push_cast] theorem b2_e (op:BinOp) (a:Nat) (b:Nat) (v:Value) (w:Value) (h:jA) (x:WK):@b2 op a b v w h x=oP (jD prog op 3 (.tmp a) (.tmp b) v w) h kk:=rfl
def sP (v:Value) (h:jA) [x:WK]:Prop:=oP (some v) h kk
@[push_cast] theorem sP_e (v:Value) (h:jA) (x:WK):@sP v h x=oP (some v) h kk:=rfl
def uP (v:Value) (h:jA) [x:WK]:Prop:=oP (unV prog .not v) h kk
@[push_cast] theorem uP_e (v:Value) (h:jA) (x:WK):@uP v h x=oP (unV prog .not v) h kk:=rfl
def pP (v:Value) (w:Value) (r:Value) (h:jA) [x:WK]:Prop:=oP (cB v w r) h kk
@[push_cast] theorem pP_e (v:Value) (w:Value) (r:Value) (h:jA) (x:WK):@pP v w r h x=oP (cB v w r) h kk:=rfl
def lG (u:Value) (q:Bool) (t:Nat) (v:Value) (h:jA) [x:WK]:Prop:=gP u q (ldD prog t v h) h kk
@[push_cast] theorem lG_e (u:Value) (q:Bool) (t:Nat) (v:Value) (h:jA) (x:WK):@lG u q t v h x=gP u q (ldD prog t v h) h kk:=rfl
def fG (u:Value) (q:Bool) (t:Nat) (i:Nat) (v:Value) (h:jA) [x:WK]:Prop:=gP u q (faD (fld prog t i) v) h kk
@[push_cast] theorem fG_e (u:Value) (q:Bool) (t:Nat) (i:Nat) (v:Value) (h:jA) (x:WK):@fG u q t i v h x=gP u q (faD (fld prog t i) v) h kk:=rfl
def iG (u:Value) (q:Bool) (t:Nat) (v:Value) (w:Value) (h:jA) [x:WK]:Prop:=gP u q (iaD (esz prog t) v w) h kk
@[push_cast] theorem iG_e (u:Value) (q:Bool) (t:Nat) (v:Value) (w:Value) (h:jA) (x:WK):@iG u q t v w h x=gP u q (iaD (esz prog t) v w) h kk:=rfl
def nG (u:Value) (q:Bool) (t:Nat) (v:Value) (h:jA) [x:WK]:Prop:=gP u q (lnD (lnT prog t) v) h kk
@[push_cast] theorem nG_e (u:Value) (q:Bool) (t:Nat) (v:Value) (h:jA) (x:WK):@nG u q t v h x=gP u q (lnD (lnT prog t) v) h kk:=rfl
def bG (u:Value) (q:Bool) (op:BinOp) (a:Nat) (c:Int) (v:Value) (h:jA) [x:WK]:Prop:=gP u q (jD prog op 3 (.tmp a) (.const (.int .i64 c)) v (.int .i64 c)) h kk
@[push_cast] theorem bG_e (u:Value) (q:Bool) (op:BinOp) (a:Nat) (c:Int) (v:Value) (h:jA) (x:WK):@bG u q op a c v h x=gP u q (jD prog op 3 (.tmp a) (.const (.int .i64 c)) v (.int .i64 c)) h kk:=rfl
def c2 (u:Value) (q:Bool) (op:BinOp) (a:Nat) (b:Nat) (v:Value) (w:Value) (h:jA) [x:WK]:Prop:=gP u q (jD prog op 3 (.tmp a) (.tmp b) v w) h kk
@[push_cast] theorem c2_e (u:Value) (q:Bool) (op:BinOp) (a:Nat) (b:Nat) (v:Value) (w:Value) (h:jA) (x:WK):@c2 u q op a b v w h x=gP u q (jD prog op 3 (.tmp a) (.tmp b) v w) h kk:=rfl
def sG (u:Value) (q:Bool) (v:Value) (h:jA) [x:WK]:Prop:=gP u q (some v) h kk
@[push_cast] theorem sG_e (u:Value) (q:Bool) (v:Value) (h:jA) (x:WK):@sG u q v h x=gP u q (some v) h kk:=rfl
def oZ (t:Nat) (v:Value) (w:Value) (h:jA) [x:WK]:Prop:=oE (stD (szT prog t) v w h) kk
@[push_cast] theorem oZ_e (t:Nat) (v:Value) (w:Value) (h:jA) (x:WK):@oZ t v w h x=oE (stD (szT prog t) v w h) kk:=rfl
def eA (t:Nat) (h:jA) [x:WK]:Prop:=oE (alE (zro prog t) t h) kk
@[push_cast] theorem eA_e (t:Nat) (h:jA) (x:WK):@eA t h x=oE (alE (zro prog t) t h) kk:=rfl
def oY (t:Nat) (v:Value) (h:jA) [x:WK]:Prop:=oE (bxD t v h) kk
@[push_cast] theorem oY_e (t:Nat) (v:Value) (h:jA) (x:WK):@oY t v h x=oE (bxD t v h) kk:=rfl
def oX (v:Value) (i:Nat) (h:jA) [x:WK]:Prop:=oP (extV v i) h kk
@[push_cast] theorem oX_e (v:Value) (i:Nat) (h:jA) (x:WK):@oX v i h x=oP (extV v i) h kk:=rfl
def dP (t:Nat) (l:List (Nat×Value)) (h:jA) [x:WK]:Prop:=oP (bdV (plc prog t) l) h kk
@[push_cast] theorem dP_e (t:Nat) (l:List (Nat×Value)) (h:jA) (x:WK):@dP t l h x=oP (bdV (plc prog t) l) h kk:=rfl
def eL (t:Nat) (i:Nat) (l:List (Nat×Value)) (h:jA) [x:WK]:Prop:=oE (bsD (qq.m t) (slT prog t) i l h) kk
@[push_cast] theorem eL_e (t:Nat) (i:Nat) (l:List (Nat×Value)) (h:jA) (x:WK):@eL t i l h x=oE (bsD (qq.m t) (slT prog t) i l h) kk:=rfl
def cQ (G:Nat×Nat) (i:Nat) (m:List Value) (h:jA) [x:WK]:Prop:=jB (pp G) qq.H (.func (.func i) #[] #[]) m h (@kB ⟨fun _=>kk⟩)
@[push_cast] theorem cQ_e (G:Nat×Nat) (i:Nat) (m:List Value) (h:jA) (x:WK):@cQ G i m h x=jB (pp G) qq.H (.func (.func i) #[] #[]) m h (@kB ⟨fun _=>kk⟩):=rfl
def cG (G:Nat×Nat) (u:Value) (q:Bool) (i:Nat) (m:List Value) (h:jA) [x:WK]:Prop:=gCV (pp G) qq.H u q (.func (.func i) #[] #[]) m h (@kB ⟨fun _=>kk⟩)
@[push_cast] theorem cG_e (G:Nat×Nat) (u:Value) (q:Bool) (i:Nat) (m:List Value) (h:jA) (x:WK):@cG G u q i m h x=gCV (pp G) qq.H u q (.func (.func i) #[] #[]) m h (@kB ⟨fun _=>kk⟩):=rfl
def vQ (v:Value) [y:WB] [z:WB]:Prop:=wE0 v (@kb y) (@kb z)
@[push_cast] theorem vQ_e (v:Value) (y z:WB):@vQ v y z=wE0 v (@kb y) (@kb z):=rfl
def tK [y:WB]:Prop:=jG True kb
@[push_cast] theorem tK_e (y:WB):@tK y=jG True kb:=rfl
end
end Go.Proofs.YtgeakofgklcipaaDoor
