/-
  A part of the proof: conditions over an abstract memory,and that they are enough for what the model's calls do. No condition of its own.
-/
import Derived.Test.YtgeakofgklcipaaEvd
import Derived.Test.YtgeakofgklcipaaProg
import Derived.KernelRfl
set_option linter.unusedSimpArgs false
set_option linter.unusedVariables false
set_option maxRecDepth 100000
namespace Go.Proofs.Ytgeakofgklcipaa
open _root_.Go.Proofs.Try (prog)
open Go.RowKit Go.Ev Go.Dv
noncomputable section
def Ig (d g:Nat) (w:Bool) (o:Go.Op) (t:TypeId):It:=⟨some d,some (g,w),.take,o,t⟩
def Ie (d:Nat) (o:Go.Op) (t:TypeId):It:=⟨some d,none,.eff,o,t⟩
def Ic (d f:Nat) (a:Array Operand) (b:Array TypeId) (t:TypeId):It:=⟨some d,none,.call,.call ⟨.value (.func f),a,b⟩,t⟩
def so (l:List It) (b:IR):IR:=.seq (.ops l) b
abbrev ud:Value:=undef
def lf (v:Value):VTr:=.node .nil v .nil
abbrev nd (l:VTr) (v:Value) (r:VTr):VTr:=.node l v r
noncomputable def irB (P:Program) (g:Nat):IR:=match fir P g with|some f=>f.4|none=>.skip
noncomputable def pk:List Nat→IR→IR
 | [],x=>x
 | i :: p,.seq a b=>pk p (match i with | 0=>a | _=>b)
 | i :: p,.cond _ a b=>pk p (match i with | 0=>a | _=>b)
 | _ :: p,.block _ b=>pk p b
 | _ :: p,.loop b=>pk p b
 | _ :: _,x=>x
noncomputable def oB1:IR:=pk [1,1,1,1,1,1,1,0,1,0,0,1,1] (irB prog 6)
noncomputable def nZ1:IR:=pk [1,1,1,1,1,1,1,0,1,0,0,1,0,0,1,0,0,1,1] (irB prog 6)
noncomputable def oD1:IR:=pk [1,1,1,1,1,1,1,1] (irB prog 6)
noncomputable def oA1:IR:=pk [1,1,1,1,1,1,1,0,1,0,0,1,0,0,1,0,0,1,0,0,1,0,0] (irB prog 6)
noncomputable def oC1:IR:=pk [1,1,1,1,1,1,1,0,1,0,0,1,0,0,1,0,0] (irB prog 6)
noncomputable def oE1:IR:=pk [1,1,1,1,1,1,1,0,1,0,0] (irB prog 6)
noncomputable def ir6:IR:=irB prog 6
theorem fir6:fir prog 6=some ⟨97,4,[(.tmp 8)],ir6⟩:=by kernel_rfl
noncomputable def ir18:IR:=irB prog 18
theorem fir18:fir prog 18=some ⟨48,0,[(.tmp 0)],ir18⟩:=by kernel_rfl
noncomputable def ir19:IR:=irB prog 19
theorem fir19:fir prog 19=some ⟨6,1,[(.tmp 2)],ir19⟩:=by kernel_rfl
noncomputable def gF1:IR:=pk [1,1,1] (irB prog 20)
noncomputable def gG1:IR:=pk [1,1,0,1,0,0] (irB prog 20)
noncomputable def ir20:IR:=irB prog 20
theorem fir20:fir prog 20=some ⟨43,2,[(.tmp 4)],ir20⟩:=by kernel_rfl
noncomputable def ir21:IR:=irB prog 21
theorem fir21:fir prog 21=some ⟨15,2,[(.tmp 4)],ir21⟩:=by kernel_rfl
noncomputable def gE1:IR:=pk [1,1,0,1,0,0] (irB prog 22)
noncomputable def gD1:IR:=pk [1,1,1] (irB prog 22)
noncomputable def ir22:IR:=irB prog 22
theorem fir22:fir prog 22=some ⟨38,2,[(.cell 4 34)],ir22⟩:=by kernel_rfl
noncomputable def ir23:IR:=irB prog 23
theorem yQ2:fir prog 23=some ⟨23,3,[(.tmp 6)],ir23⟩:=by kernel_rfl
noncomputable def gB1:IR:=pk [1,1,1,1,1] (irB prog 25)
noncomputable def gC1:IR:=pk [1,1,1,1,0,1,0,0] (irB prog 25)
noncomputable def ir25:IR:=irB prog 25
theorem yP2:fir prog 25=some ⟨49,2,[(.cell 4 34),(.tmp 5)],ir25⟩:=by kernel_rfl
noncomputable def yZ1:IR:=pk [1,1,1] (irB prog 27)
noncomputable def gA1:IR:=pk [1,1,0,1,0,0] (irB prog 27)
noncomputable def ir27:IR:=irB prog 27
theorem fir27:fir prog 27=some ⟨68,2,[(.tmp 4)],ir27⟩:=by kernel_rfl
noncomputable def ir28:IR:=irB prog 28
theorem yO2:fir prog 28=some ⟨8,2,[(.tmp 4)],ir28⟩:=by kernel_rfl
noncomputable def ir30:IR:=irB prog 30
theorem fir30:fir prog 30=some ⟨41,3,[(.tmp 6)],ir30⟩:=by kernel_rfl
noncomputable def mN0:IR:=pk [1,1,1] (irB prog 32)
noncomputable def yY1:IR:=pk [1,1,0,1,0,0] (irB prog 32)
noncomputable def ir32:IR:=irB prog 32
theorem fir32:fir prog 32=some ⟨27,2,[(.tmp 4)],ir32⟩:=by kernel_rfl
noncomputable def yW1:IR:=pk [1,1,1] (irB prog 33)
noncomputable def yU1:IR:=pk [1,1,0,1,0,0,1,1,1] (irB prog 33)
noncomputable def yV1:IR:=pk [1,1,0,1,0,0,1,1,0,0,1,1,0,0] (irB prog 33)
noncomputable def yX1:IR:=pk [1,1,0,1,0,0] (irB prog 33)
noncomputable def ir33:IR:=irB prog 33
theorem fir33:fir prog 33=some ⟨27,1,[(.tmp 2)],ir33⟩:=by kernel_rfl
noncomputable def yT1:IR:=pk [1,1,0,1,0,0] (irB prog 35)
noncomputable def ir35:IR:=irB prog 35
theorem fir35:fir prog 35=some ⟨27,2,[(.tmp 4)],ir35⟩:=by kernel_rfl
noncomputable def yR1:IR:=pk [1,1,1] (irB prog 37)
noncomputable def yS1:IR:=pk [1,1,0,1,0,0] (irB prog 37)
noncomputable def ir37:IR:=irB prog 37
theorem fir37:fir prog 37=some ⟨28,1,[(.tmp 2)],ir37⟩:=by kernel_rfl
noncomputable def yN1:IR:=pk [1,1,1,1] (irB prog 47)
noncomputable def mL0:IR:=pk [1,1,1,0,1,0,0,1,1] (irB prog 47)
noncomputable def mM0:IR:=pk [1,1,1,0,1,0,0,1,0,0,1,1] (irB prog 47)
noncomputable def yQ1:IR:=pk [1,1,0,1,0,0] (irB prog 47)
noncomputable def yO1:IR:=pk [1,1,1,0,1,0,0] (irB prog 47)
noncomputable def yP1:IR:=pk [1,1,1] (irB prog 47)
noncomputable def ir47:IR:=irB prog 47
theorem fir47:fir prog 47=some ⟨58,1,[(.cell 2 73)],ir47⟩:=by kernel_rfl
noncomputable def ir48:IR:=irB prog 48
theorem fir48:fir prog 48=some ⟨18,1,[(.cell 2 34),(.tmp 3)],ir48⟩:=by kernel_rfl
noncomputable def yL1:IR:=pk [1,1,1,1,1] (irB prog 49)
noncomputable def yM1:IR:=pk [1,1,1,1,0,1,0,0] (irB prog 49)
noncomputable def eH0:IR:=pk [1,1,1,1] (irB prog 49)
noncomputable def ir49:IR:=irB prog 49
theorem fir49:fir prog 49=some ⟨68,4,[(.cell 8 34)],ir49⟩:=by kernel_rfl
noncomputable def ir50:IR:=irB prog 50
theorem fir50:fir prog 50=some ⟨13,2,[(.tmp 4)],ir50⟩:=by kernel_rfl
noncomputable def ir51:IR:=irB prog 51
theorem yN2:fir prog 51=some ⟨5,1,[(.tmp 2)],ir51⟩:=by kernel_rfl
noncomputable def yJ1:IR:=pk [1,1,1] (irB prog 52)
noncomputable def mK0:IR:=pk [1,1,0,1,0,0,1,1,1] (irB prog 52)
noncomputable def eG0:IR:=pk [1,1,0,1,0,0,1,1,0,0,1,1] (irB prog 52)
noncomputable def yK1:IR:=pk [1,1,0,1,0,0] (irB prog 52)
noncomputable def ir52:IR:=irB prog 52
theorem yM2:fir prog 52=some ⟨34,4,[(.tmp 8)],ir52⟩:=by kernel_rfl
noncomputable def ir53:IR:=irB prog 53
theorem fir53:fir prog 53=some ⟨13,2,[(.tmp 4)],ir53⟩:=by kernel_rfl
noncomputable def ir54:IR:=irB prog 54
theorem fir54:fir prog 54=some ⟨12,1,[(.cell 2 34)],ir54⟩:=by kernel_rfl
noncomputable def ir56:IR:=irB prog 56
theorem jY2:fir prog 56=some ⟨5,1,[(.tmp 2)],ir56⟩:=by kernel_rfl
noncomputable def yH1:IR:=pk [1,1,1] (irB prog 57)
noncomputable def yI1:IR:=pk [1,1,0,1,0,0] (irB prog 57)
noncomputable def ir57:IR:=irB prog 57
theorem fir57:fir prog 57=some ⟨53,2,[(.tmp 4)],ir57⟩:=by kernel_rfl
noncomputable def yF1:IR:=pk [1,1,1] (irB prog 58)
noncomputable def yG1:IR:=pk [1,1,0,1,0,0] (irB prog 58)
noncomputable def ir58:IR:=irB prog 58
theorem fir58:fir prog 58=some ⟨19,1,[(.tmp 2)],ir58⟩:=by kernel_rfl
noncomputable def yD1:IR:=pk [1,1,1,1] (irB prog 60)
noncomputable def yE1:IR:=pk [1,1,1,0,1,0,0] (irB prog 60)
noncomputable def ir60:IR:=irB prog 60
theorem fir60:fir prog 60=some ⟨37,2,[(.tmp 4)],ir60⟩:=by kernel_rfl
noncomputable def ir65:IR:=irB prog 65
theorem fir65:fir prog 65=some ⟨2,0,[(.tmp 0)],ir65⟩:=by kernel_rfl
noncomputable def ir66:IR:=irB prog 66
theorem fir66:fir prog 66=some ⟨2,0,[(.tmp 0)],ir66⟩:=by kernel_rfl
noncomputable def ir67:IR:=irB prog 67
theorem fir67:fir prog 67=some ⟨15,2,[(.tmp 4)],ir67⟩:=by kernel_rfl
noncomputable def ir68:IR:=irB prog 68
theorem fir68:fir prog 68=some ⟨2,0,[(.tmp 0)],ir68⟩:=by kernel_rfl
noncomputable def qF:IR:=pk [1,1,1,1] (irB prog 69)
noncomputable def mH0:IR:=pk [1,1,1,0,1,0,1,1,1,1,1,1,1,1,1,1,1,1,1,1,1,1,1,1,1,1,1,1,1] (irB prog 69)
noncomputable def mI0:IR:=pk [1,1,1,0,1,0,1,1,1,1,1,1,1] (irB prog 69)
noncomputable def mJ0:IR:=pk [1,1,1,0,1,0,1,1,1] (irB prog 69)
noncomputable def qG:IR:=pk [1,1,1,0,1,0,1] (irB prog 69)
noncomputable def ir69:IR:=irB prog 69
theorem fir69:fir prog 69=some ⟨133,2,[(.cell 4 77)],ir69⟩:=by kernel_rfl
noncomputable def eF0:IR:=pk [1,1,1,1,1,1,0,1,0,0] (irB prog 70)
noncomputable def yB1:IR:=pk [1,1,1,1,1,1,1,1] (irB prog 70)
noncomputable def yC1:IR:=pk [1,1,1,1,1,1,1,0,1,0,0] (irB prog 70)
noncomputable def eE0:IR:=pk [1,1,1,1,1,1,1] (irB prog 70)
noncomputable def ir70:IR:=irB prog 70
theorem fir70:fir prog 70=some ⟨110,1,[(.cell 2 102),(.tmp 3)],ir70⟩:=by kernel_rfl
noncomputable def ir71:IR:=irB prog 71
theorem fir71:fir prog 71=some ⟨15,2,[(.tmp 4)],ir71⟩:=by kernel_rfl
noncomputable def kZ1:IR:=pk [1,1,1,1] (irB prog 72)
noncomputable def yA1:IR:=pk [1,1,1,0,1,0,0] (irB prog 72)
noncomputable def ir72:IR:=irB prog 72
theorem yL2:fir prog 72=some ⟨29,2,[(.tmp 4)],ir72⟩:=by kernel_rfl
noncomputable def kX1:IR:=pk [1,1,1,1] (irB prog 73)
noncomputable def kY1:IR:=pk [1,1,1,0,1,0,0] (irB prog 73)
noncomputable def ir73:IR:=irB prog 73
theorem jX2:fir prog 73=some ⟨29,2,[(.tmp 4)],ir73⟩:=by kernel_rfl
noncomputable def ir74:IR:=irB prog 74
theorem fir74:fir prog 74=some ⟨8,1,[(.cell 2 31)],ir74⟩:=by kernel_rfl
noncomputable def ir75:IR:=irB prog 75
theorem fir75:fir prog 75=some ⟨6,1,[(.tmp 2)],ir75⟩:=by kernel_rfl
noncomputable def ir81:IR:=irB prog 81
theorem fir81:fir prog 81=some ⟨25,3,[(.cell 6 77)],ir81⟩:=by kernel_rfl
noncomputable def ir82:IR:=irB prog 82
theorem fir82:fir prog 82=some ⟨14,2,[(.cell 4 31)],ir82⟩:=by kernel_rfl
noncomputable def kT1:IR:=pk [1,1,1,1] (irB prog 83)
noncomputable def kW1:IR:=pk [1,1,0,1,0,0] (irB prog 83)
noncomputable def kU1:IR:=pk [1,1,1,0,1,0,0] (irB prog 83)
noncomputable def kV1:IR:=pk [1,1,1] (irB prog 83)
noncomputable def ir83:IR:=irB prog 83
theorem fir83:fir prog 83=some ⟨42,1,[(.tmp 2),(.tmp 3)],ir83⟩:=by kernel_rfl
noncomputable def kR1:IR:=pk [1,1] (irB prog 84)
noncomputable def kS1:IR:=pk [1,0,1,0,0] (irB prog 84)
noncomputable def ir84:IR:=irB prog 84
theorem fir84:fir prog 84=some ⟨18,1,[(.tmp 2)],ir84⟩:=by kernel_rfl
noncomputable def kP1:IR:=pk [1,1] (irB prog 85)
noncomputable def kQ1:IR:=pk [1,0,1,0,0] (irB prog 85)
noncomputable def ir85:IR:=irB prog 85
theorem fir85:fir prog 85=some ⟨19,2,[(.tmp 4)],ir85⟩:=by kernel_rfl
noncomputable def kN1:IR:=pk [1,1,1,1] (irB prog 86)
noncomputable def kO1:IR:=pk [1,1,1,0,1,0,0] (irB prog 86)
noncomputable def jW0:IR:=pk [1,1,1] (irB prog 86)
noncomputable def gE0:IR:=pk [1,1,0,1,0,1,1,1,1,1] (irB prog 86)
noncomputable def ir86:IR:=irB prog 86
theorem fir86:fir prog 86=some ⟨117,2,[(.cell 4 34)],ir86⟩:=by kernel_rfl
noncomputable def kG1:IR:=pk [1,1,1,1,1] (irB prog 87)
noncomputable def kI1:IR:=pk [1,1,1,0,1,0,0,1,1] (irB prog 87)
noncomputable def kE1:IR:=pk [1,1,1,0,1,0,0,1,0,0,1,0,0,1,1] (irB prog 87)
noncomputable def kH1:IR:=pk [1,1,1,1,0,1,0,0] (irB prog 87)
noncomputable def kK1:IR:=pk [1,1,1,1] (irB prog 87)
noncomputable def kF1:IR:=pk [1,1,1,0,1,0,0,1,0,0,1,0,0,1,0,0,1,0,0] (irB prog 87)
noncomputable def kJ1:IR:=pk [1,1,1,0,1,0,0,1,0,0,1,0,0] (irB prog 87)
noncomputable def kM1:IR:=pk [1,1,1,0,1,0,0] (irB prog 87)
noncomputable def ir87:IR:=irB prog 87
theorem fir87:fir prog 87=some ⟨71,1,[(.tmp 2)],ir87⟩:=by kernel_rfl
noncomputable def kC1:IR:=pk [1,1,1,1] (irB prog 88)
noncomputable def kD1:IR:=pk [1,1,1,0,1,0,0] (irB prog 88)
noncomputable def ir88:IR:=irB prog 88
theorem fir88:fir prog 88=some ⟨29,2,[(.tmp 4)],ir88⟩:=by kernel_rfl
noncomputable def kA1:IR:=pk [1,1,1,1] (irB prog 89)
noncomputable def kB1:IR:=pk [1,1,1,0,1,0,0] (irB prog 89)
noncomputable def ir89:IR:=irB prog 89
theorem fir89:fir prog 89=some ⟨31,2,[(.tmp 4)],ir89⟩:=by kernel_rfl
noncomputable def ir92:IR:=irB prog 92
theorem fir92:fir prog 92=some ⟨70,2,[(.cell 4 31)],ir92⟩:=by kernel_rfl
noncomputable def ir93:IR:=irB prog 93
theorem yK2:fir prog 93=some ⟨17,3,[(.tmp 6)],ir93⟩:=by kernel_rfl
noncomputable def zY1:IR:=pk [1,1,1,1] (irB prog 94)
noncomputable def zZ1:IR:=pk [1,1,1,0,1,0,0] (irB prog 94)
noncomputable def eD0:IR:=pk [1,1,1] (irB prog 94)
noncomputable def ir94:IR:=irB prog 94
theorem fir94:fir prog 94=some ⟨44,2,[(.cell 4 31)],ir94⟩:=by kernel_rfl
noncomputable def zW1:IR:=pk [1,1,1,1] (irB prog 95)
noncomputable def zX1:IR:=pk [1,1,1,0,1,0,0] (irB prog 95)
noncomputable def ir95:IR:=irB prog 95
theorem fir95:fir prog 95=some ⟨38,1,[(.tmp 2)],ir95⟩:=by kernel_rfl
noncomputable def ir96:IR:=irB prog 96
theorem fir96:fir prog 96=some ⟨15,2,[(.tmp 4)],ir96⟩:=by kernel_rfl
noncomputable def ir97:IR:=irB prog 97
theorem fir97:fir prog 97=some ⟨25,3,[(.cell 6 31)],ir97⟩:=by kernel_rfl
noncomputable def mG0:IR:=pk [1,1,1,1] (irB prog 98)
noncomputable def zV1:IR:=pk [1,1,1,0,1,0,0,1,0,1,1,0,0] (irB prog 98)
noncomputable def eC0:IR:=pk [1,1,1,0,1,0,0] (irB prog 98)
noncomputable def ir98:IR:=irB prog 98
theorem fir98:fir prog 98=some ⟨99,1,[(.tmp 2)],ir98⟩:=by kernel_rfl
noncomputable def zU1:IR:=pk [1,1,0,1,1,1,1,1,0,0] (irB prog 99)
noncomputable def ir99:IR:=irB prog 99
theorem fir99:fir prog 99=some ⟨67,3,[],ir99⟩:=by kernel_rfl
noncomputable def eI0:IR:=pk [1,1,1,1] (irB prog 100)
noncomputable def oS0:IR:=pk [1,1,0,1,0,0] (irB prog 100)
noncomputable def eJ0:IR:=pk [1,1,1,0,1,0,1,1,1,1,1,1,1,1,1] (irB prog 100)
noncomputable def eK0:IR:=pk [1,1,1] (irB prog 100)
noncomputable def kT2:IR:=irB prog 100
theorem yR2:fir prog 100=some ⟨129,2,[(.tmp 4),(.tmp 5)],kT2⟩:=by kernel_rfl
theorem lA0:bB prog 22 22=(some (38,(5,72))):=by kernel_rfl
theorem iZ0:bB prog 23 23=(some (3,(1,8))):=by kernel_rfl
theorem iY0:bB prog 29 29=(some (31,(4,56))):=by kernel_rfl
theorem iX0:bB prog 32 32=(some (34,(9,120))):=by kernel_rfl
theorem iW0:bB prog 55 55=(some (60,(3,40))):=by kernel_rfl
theorem iV0:bB prog 69 69=(some (99,(2,24))):=by kernel_rfl
theorem iU0:bB prog 70 70=(some (9,(1,16))):=by kernel_rfl
theorem iT0:bB prog 71 71=(some (79,(9,136))):=by kernel_rfl
theorem bN0:bB prog 135 135=(some (137,(1,24))):=by kernel_rfl
theorem kP0:cnvT prog 3 105=(some (0,((some .u64),0))):=by kernel_rfl
theorem mU1:esz prog 22=(some (none,5)):=by kernel_rfl
theorem mT1:esz prog 23=(some (none,1)):=by kernel_rfl
theorem mS1:esz prog 26=(some (none,1)):=by kernel_rfl
theorem mR1:esz prog 29=(some (none,4)):=by kernel_rfl
theorem mQ1:esz prog 32=(some (none,9)):=by kernel_rfl
theorem mP1:esz prog 36=(some (none,3)):=by kernel_rfl
theorem mO1:esz prog 50=(some (none,1)):=by kernel_rfl
theorem mN1:esz prog 69=(some (none,2)):=by kernel_rfl
theorem mM1:esz prog 70=(some (none,1)):=by kernel_rfl
theorem mL1:esz prog 71=(some (none,9)):=by kernel_rfl
theorem mK1:esz prog 75=(some (none,8)):=by kernel_rfl
theorem cG1:esz prog 135=(some (none,1)):=by kernel_rfl
theorem cF1:esz prog 137=(some (none,1)):=by kernel_rfl
theorem cE1:esz prog 146=(some ((some 2),1)):=by kernel_rfl
theorem qG1:fld prog 31 0=(some 0):=by kernel_rfl
theorem qF1:fld prog 31 1=(some 1):=by kernel_rfl
theorem qE1:fld prog 31 2=(some 2):=by kernel_rfl
theorem qD1:fld prog 31 3=(some 3):=by kernel_rfl
theorem qC1:fld prog 34 0=(some 0):=by kernel_rfl
theorem qB1:fld prog 34 1=(some 1):=by kernel_rfl
theorem qA1:fld prog 34 2=(some 2):=by kernel_rfl
theorem jZ1:fld prog 34 3=(some 3):=by kernel_rfl
theorem jY1:fld prog 34 4=(some 4):=by kernel_rfl
theorem jX1:fld prog 34 5=(some 8):=by kernel_rfl
theorem jW1:fld prog 38 0=(some 0):=by kernel_rfl
theorem jV1:fld prog 38 1=(some 1):=by kernel_rfl
theorem jU1:fld prog 38 2=(some 2):=by kernel_rfl
theorem jT1:fld prog 38 3=(some 3):=by kernel_rfl
theorem jS1:fld prog 38 4=(some 4):=by kernel_rfl
theorem jR1:fld prog 53 0=(some 0):=by kernel_rfl
theorem jQ1:fld prog 53 2=(some 2):=by kernel_rfl
theorem jP1:fld prog 73 0=(some 0):=by kernel_rfl
theorem jO1:fld prog 73 1=(some 1):=by kernel_rfl
theorem jN1:fld prog 73 2=(some 2):=by kernel_rfl
theorem jM1:fld prog 77 0=(some 0):=by kernel_rfl
theorem jL1:fld prog 77 1=(some 1):=by kernel_rfl
theorem jK1:fld prog 77 2=(some 2):=by kernel_rfl
theorem jJ1:fld prog 77 3=(some 3):=by kernel_rfl
theorem jI1:fld prog 77 4=(some 7):=by kernel_rfl
theorem jH1:fld prog 79 0=(some 0):=by kernel_rfl
theorem jG1:fld prog 79 1=(some 1):=by kernel_rfl
theorem jF1:fld prog 99 0=(some 0):=by kernel_rfl
theorem jE1:fld prog 99 1=(some 1):=by kernel_rfl
theorem nP0:fld prog 102 0=(some 0):=by kernel_rfl
theorem nO0:fld prog 102 2=(some 2):=by kernel_rfl
theorem nN0:fld prog 102 3=(some 3):=by kernel_rfl
theorem nM0:fld prog 124 0=(some 0):=by kernel_rfl
theorem nL0:fld prog 124 1=(some 1):=by kernel_rfl
theorem nK0:fld prog 124 2=(some 2):=by kernel_rfl
theorem nJ0:fld prog 124 3=(some 3):=by kernel_rfl
theorem nI0:fld prog 133 0=(some 0):=by kernel_rfl
theorem nH0:fld prog 133 1=(some 1):=by kernel_rfl
theorem nG0:fld prog 133 2=(some 2):=by kernel_rfl
theorem nF0:fld prog 142 0=(some 0):=by kernel_rfl
theorem nE0:fld prog 142 1=(some 1):=by kernel_rfl
theorem nD0:fld prog 142 2=(some 2):=by kernel_rfl
theorem uD2:knd prog 3=(some (false,0)):=by kernel_rfl
theorem uC2:knd prog 4=(some (false,0)):=by kernel_rfl
theorem uB2:knd prog 9=(some (false,0)):=by kernel_rfl
theorem mJ1:knd prog 22=(some (false,0)):=by kernel_rfl
theorem mI1:knd prog 23=(some (false,0)):=by kernel_rfl
theorem mH1:knd prog 26=(some (false,0)):=by kernel_rfl
theorem mG1:knd prog 29=(some (false,0)):=by kernel_rfl
theorem mF1:knd prog 31=(some (true,4)):=by kernel_rfl
theorem mE1:knd prog 32=(some (false,0)):=by kernel_rfl
theorem mD1:knd prog 34=(some (true,9)):=by kernel_rfl
theorem mC1:knd prog 36=(some (false,0)):=by kernel_rfl
theorem mB1:knd prog 38=(some (true,5)):=by kernel_rfl
theorem mA1:knd prog 69=(some (false,0)):=by kernel_rfl
theorem lZ1:knd prog 70=(some (false,0)):=by kernel_rfl
theorem lY1:knd prog 71=(some (false,0)):=by kernel_rfl
theorem lX1:knd prog 73=(some (true,3)):=by kernel_rfl
theorem lW1:knd prog 75=(some (false,0)):=by kernel_rfl
theorem lV1:knd prog 77=(some (true,8)):=by kernel_rfl
theorem lU1:knd prog 79=(some (true,9)):=by kernel_rfl
theorem cD1:knd prog 102=(some (true,4)):=by kernel_rfl
theorem cC1:knd prog 133=(some (true,3)):=by kernel_rfl
theorem cB1:knd prog 137=(some (false,0)):=by kernel_rfl
theorem lT1:lnT prog 22=(some false):=by kernel_rfl
theorem lS1:lnT prog 26=(some false):=by kernel_rfl
theorem lR1:lnT prog 29=(some false):=by kernel_rfl
theorem lQ1:lnT prog 32=(some false):=by kernel_rfl
theorem lP1:lnT prog 36=(some false):=by kernel_rfl
theorem lO1:lnT prog 50=(some false):=by kernel_rfl
theorem lN1:lnT prog 69=(some false):=by kernel_rfl
theorem lM1:lnT prog 70=(some false):=by kernel_rfl
theorem lL1:lnT prog 71=(some false):=by kernel_rfl
theorem lK1:lnT prog 75=(some false):=by kernel_rfl
theorem cA1:lnT prog 135=(some false):=by kernel_rfl
theorem lJ1:mkT prog 26=(some (32,(1,(24,[(.slice none 0 0)])))):=by kernel_rfl
theorem lI1:mkT prog 29=(some (31,(4,(56,[(.int .i64 0),(.int .i64 0),(.string (Tx [])),(.slice none 0 0)])))):=by kernel_rfl
theorem lH1:mkT prog 32=(some (34,(9,(120,[(.int .i64 0),(.int .i64 0),(.int .i64 0),(.string (Tx [])),(.int .i64 0),(.int .i64 0),(.string (Tx [])),(.slice none 0 0),(.slice none 0 0)])))):=by kernel_rfl
theorem bZ1:mkT prog 137=(some (4,(1,(1,[(.bool false)])))):=by kernel_rfl
theorem lG1:plc prog 31=(some ([(0,1),(1,1),(2,1),(3,1)],[(.int .i64 0),(.int .i64 0),(.string (Tx [])),(.slice none 0 0)])):=by kernel_rfl
theorem lF1:plc prog 34=(some ([(0,1),(1,1),(2,1),(3,1),(4,4),(8,1)],[(.int .i64 0),(.int .i64 0),(.int .i64 0),(.string (Tx [])),(.int .i64 0),(.int .i64 0),(.string (Tx [])),(.slice none 0 0),(.slice none 0 0)])):=by kernel_rfl
theorem lE1:plc prog 53=(some ([(0,1),(1,1),(2,1)],[(.int .i64 0),(.int .i64 0),(.slice none 0 0)])):=by kernel_rfl
theorem lD1:plc prog 73=(some ([(0,1),(1,1),(2,1)],[(.slice none 0 0),(.slice none 0 0),(.slice none 0 0)])):=by kernel_rfl
theorem lC1:plc prog 77=(some ([(0,1),(1,1),(2,1),(3,4),(7,1)],[(.int .i64 0),(.string (Tx [])),(.string (Tx [])),(.int .i64 0),(.int .i64 0),(.string (Tx [])),(.slice none 0 0),(.slice none 0 0)])):=by kernel_rfl
theorem lB1:plc prog 79=(some ([(0,1),(1,8)],[(.string (Tx [])),(.int .i64 0),(.string (Tx [])),(.string (Tx [])),(.int .i64 0),(.int .i64 0),(.string (Tx [])),(.slice none 0 0),(.slice none 0 0)])):=by kernel_rfl
theorem lA1:plc prog 99=(some ([(0,1),(1,1)],[(.string (Tx [])),(.int .i64 0)])):=by kernel_rfl
theorem bY1:plc prog 102=(some ([(0,1),(1,1),(2,1),(3,1)],[(.slice none 0 0),(.int .i64 0),(.slice none 0 0),(.int .i64 0)])):=by kernel_rfl
theorem bX1:plc prog 124=(some ([(0,1),(1,1),(2,1),(3,1)],[(.slice none 0 0),(.slice none 0 0),(.slice none 0 0),(.bool false)])):=by kernel_rfl
theorem bW1:plc prog 142=(some ([(0,1),(1,1),(2,1)],[(.slice none 0 0),(.slice none 0 0),(.slice none 0 0)])):=by kernel_rfl
theorem bV1:slcT prog 32=(some (some (34,9))):=by kernel_rfl
theorem uA2:szT prog 3=(some 1):=by kernel_rfl
theorem qZ2:szT prog 4=(some 1):=by kernel_rfl
theorem qY2:szT prog 9=(some 1):=by kernel_rfl
theorem iZ1:szT prog 23=(some 1):=by kernel_rfl
theorem iY1:szT prog 29=(some 1):=by kernel_rfl
theorem iX1:szT prog 31=(some 4):=by kernel_rfl
theorem iW1:szT prog 32=(some 1):=by kernel_rfl
theorem iV1:szT prog 34=(some 9):=by kernel_rfl
theorem iU1:szT prog 69=(some 1):=by kernel_rfl
theorem iT1:szT prog 71=(some 1):=by kernel_rfl
theorem iS1:szT prog 73=(some 3):=by kernel_rfl
theorem iR1:szT prog 77=(some 8):=by kernel_rfl
theorem iQ1:szT prog 79=(some 9):=by kernel_rfl
theorem bU1:szT prog 102=(some 4):=by kernel_rfl
theorem qX2:zro prog 3=(some [(.int .i64 0)]):=by kernel_rfl
theorem iP1:zro prog 31=(some [(.int .i64 0),(.int .i64 0),(.string (Tx [])),(.slice none 0 0)]):=by kernel_rfl
theorem iO1:zro prog 34=(some [(.int .i64 0),(.int .i64 0),(.int .i64 0),(.string (Tx [])),(.int .i64 0),(.int .i64 0),(.string (Tx [])),(.slice none 0 0),(.slice none 0 0)]):=by kernel_rfl
theorem iN1:zro prog 73=(some [(.slice none 0 0),(.slice none 0 0),(.slice none 0 0)]):=by kernel_rfl
theorem iM1:zro prog 77=(some [(.int .i64 0),(.string (Tx [])),(.string (Tx [])),(.int .i64 0),(.int .i64 0),(.string (Tx [])),(.slice none 0 0),(.slice none 0 0)]):=by kernel_rfl
theorem iL1:zro prog 79=(some [(.string (Tx [])),(.int .i64 0),(.string (Tx [])),(.string (Tx [])),(.int .i64 0),(.int .i64 0),(.string (Tx [])),(.slice none 0 0),(.slice none 0 0)]):=by kernel_rfl
theorem bT1:zro prog 102=(some [(.slice none 0 0),(.int .i64 0),(.slice none 0 0),(.int .i64 0)]):=by kernel_rfl
theorem bS1:zro prog 146=(some [(.bool false),(.bool false)]):=by kernel_rfl
attribute [push_cast] lA0 iZ0 iY0 iX0 iW0 iV0 iU0 iT0 bN0 kP0 mU1 mT1 mS1 mR1 mQ1 mP1 mO1 mN1 mM1 mL1 mK1 cG1 cF1 cE1 qG1 qF1 qE1 qD1 qC1 qB1 qA1 jZ1 jY1 jX1 jW1 jV1 jU1 jT1 jS1 jR1 jQ1 jP1 jO1 jN1 jM1 jL1 jK1 jJ1 jI1 jH1 jG1 jF1 jE1 nP0 nO0 nN0 nM0 nL0 nK0 nJ0 nI0 nH0 nG0 nF0 nE0 nD0 uD2 uC2 uB2 mJ1 mI1 mH1 mG1 mF1 mE1 mD1 mC1 mB1 mA1 lZ1 lY1 lX1 lW1 lV1 lU1 cD1 cC1 cB1 lT1 lS1 lR1 lQ1 lP1 lO1 lN1 lM1 lL1 lK1 cA1 lJ1 lI1 lH1 bZ1 lG1 lF1 lE1 lD1 lC1 lB1 lA1 bY1 bX1 bW1 bV1 uA2 qZ2 qY2 iZ1 iY1 iX1 iW1 iV1 iU1 iT1 iS1 iR1 iQ1 bU1 qX2 iP1 iO1 iN1 iM1 iL1 bT1 bS1
abbrev NGG:Nat:=0
theorem fP1:prog.funcs.all (oL0 0)=true:=by kernel_rfl
theorem mixed:prog.follows .mixedOrders=true:=by kernel_rfl
theorem gJ1 (g:Nat) (fn:Func) (h:prog.funcs[g]?=some fn):oL0 0 fn=true:=by
 have:=fP1
 rw[Array.all_eq_true_iff_forall_mem] at this
 exact this fn (Array.mem_of_getElem? h)
@[reducible] noncomputable def pp (G:Nat×Nat):Par:=⟨prog,0,G.1,G.2,fun _=>0,fun _=>.empty⟩
theorem jJ (G:Nat×Nat):bO0 (pp G):=⟨gJ1,mixed⟩
def LL:List (Nat×List Value):=[]
theorem LL_ok:okPl LL=true:=by kernel_rfl
def H0:jA:=fZ0 1 LL
theorem jW:H0.lo=1:=rfl
theorem kW:H0.next=1:=rfl
@[reducible] def qq:Q:=⟨fun _=>false,H0⟩
end
end Go.Proofs.Ytgeakofgklcipaa
namespace Go.Proofs.Ytgeakofgklcipaa
open _root_.Go.Proofs.Try (prog)
open Go Go.RowKit Go.Ev Go.Dv
noncomputable section
def lP (t:Nat) (v:Value) (h:jA) [x:WK]:Prop:=oP (ldD prog t v h) h kk
@[push_cast] theorem lP_e (t:Nat) (v:Value) (h:jA) (x:WK):@lP t v h x=oP (ldD prog t v h) h kk:=rfl
def fP (t:Nat) (i:Nat) (v:Value) (h:jA) [x:WK]:Prop:=oP (faD (fld prog t i) v) h kk
@[push_cast] theorem fP_e (t:Nat) (i:Nat) (v:Value) (h:jA) (x:WK):@fP t i v h x=oP (faD (fld prog t i) v) h kk:=rfl
def iP (t:Nat) (v:Value) (w:Value) (h:jA) [x:WK]:Prop:=oP (iaD (esz prog t) v w) h kk
@[push_cast] theorem iP_e (t:Nat) (v:Value) (w:Value) (h:jA) (x:WK):@iP t v w h x=oP (iaD (esz prog t) v w) h kk:=rfl
def nP (t:Nat) (v:Value) (h:jA) [x:WK]:Prop:=oP (lnD (lnT prog t) v) h kk
@[push_cast] theorem nP_e (t:Nat) (v:Value) (h:jA) (x:WK):@nP t v h x=oP (lnD (lnT prog t) v) h kk:=rfl
def bP (op:BinOp) (a:Nat) (c:Int) (v:Value) (h:jA) [x:WK]:Prop:=oP (jI prog op 3 (.tmp a) (.const (.int .i64 c)) v (.int .i64 c)) h kk
@[push_cast] theorem bP_e (op:BinOp) (a:Nat) (c:Int) (v:Value) (h:jA) (x:WK):@bP op a c v h x=oP (jI prog op 3 (.tmp a) (.const (.int .i64 c)) v (.int .i64 c)) h kk:=rfl
def b2 (op:BinOp) (a:Nat) (b:Nat) (v:Value) (w:Value) (h:jA) [x:WK]:Prop:=oP (jI prog op 3 (.tmp a) (.tmp b) v w) h kk
@[push_cast] theorem b2_e (op:BinOp) (a:Nat) (b:Nat) (v:Value) (w:Value) (h:jA) (x:WK):@b2 op a b v w h x=oP (jI prog op 3 (.tmp a) (.tmp b) v w) h kk:=rfl
def sP (v:Value) (h:jA) [x:WK]:Prop:=oP (some v) h kk
@[push_cast] theorem sP_e (v:Value) (h:jA) (x:WK):@sP v h x=oP (some v) h kk:=rfl
def uP (v:Value) (h:jA) [x:WK]:Prop:=oP (unV prog .not v) h kk
@[push_cast] theorem uP_e (v:Value) (h:jA) (x:WK):@uP v h x=oP (unV prog .not v) h kk:=rfl
def pP (v:Value) (w:Value) (r:Value) (h:jA) [x:WK]:Prop:=oP (zT0 v w r) h kk
@[push_cast] theorem pP_e (v:Value) (w:Value) (r:Value) (h:jA) (x:WK):@pP v w r h x=oP (zT0 v w r) h kk:=rfl
def lG (u:Value) (q:Bool) (t:Nat) (v:Value) (h:jA) [x:WK]:Prop:=gP u q (ldD prog t v h) h kk
@[push_cast] theorem lG_e (u:Value) (q:Bool) (t:Nat) (v:Value) (h:jA) (x:WK):@lG u q t v h x=gP u q (ldD prog t v h) h kk:=rfl
def fG (u:Value) (q:Bool) (t:Nat) (i:Nat) (v:Value) (h:jA) [x:WK]:Prop:=gP u q (faD (fld prog t i) v) h kk
@[push_cast] theorem fG_e (u:Value) (q:Bool) (t:Nat) (i:Nat) (v:Value) (h:jA) (x:WK):@fG u q t i v h x=gP u q (faD (fld prog t i) v) h kk:=rfl
def iG (u:Value) (q:Bool) (t:Nat) (v:Value) (w:Value) (h:jA) [x:WK]:Prop:=gP u q (iaD (esz prog t) v w) h kk
@[push_cast] theorem iG_e (u:Value) (q:Bool) (t:Nat) (v:Value) (w:Value) (h:jA) (x:WK):@iG u q t v w h x=gP u q (iaD (esz prog t) v w) h kk:=rfl
def nG (u:Value) (q:Bool) (t:Nat) (v:Value) (h:jA) [x:WK]:Prop:=gP u q (lnD (lnT prog t) v) h kk
@[push_cast] theorem nG_e (u:Value) (q:Bool) (t:Nat) (v:Value) (h:jA) (x:WK):@nG u q t v h x=gP u q (lnD (lnT prog t) v) h kk:=rfl
def bG (u:Value) (q:Bool) (op:BinOp) (a:Nat) (c:Int) (v:Value) (h:jA) [x:WK]:Prop:=gP u q (jI prog op 3 (.tmp a) (.const (.int .i64 c)) v (.int .i64 c)) h kk
@[push_cast] theorem bG_e (u:Value) (q:Bool) (op:BinOp) (a:Nat) (c:Int) (v:Value) (h:jA) (x:WK):@bG u q op a c v h x=gP u q (jI prog op 3 (.tmp a) (.const (.int .i64 c)) v (.int .i64 c)) h kk:=rfl
def c2 (u:Value) (q:Bool) (op:BinOp) (a:Nat) (b:Nat) (v:Value) (w:Value) (h:jA) [x:WK]:Prop:=gP u q (jI prog op 3 (.tmp a) (.tmp b) v w) h kk
@[push_cast] theorem c2_e (u:Value) (q:Bool) (op:BinOp) (a:Nat) (b:Nat) (v:Value) (w:Value) (h:jA) (x:WK):@c2 u q op a b v w h x=gP u q (jI prog op 3 (.tmp a) (.tmp b) v w) h kk:=rfl
def sG (u:Value) (q:Bool) (v:Value) (h:jA) [x:WK]:Prop:=gP u q (some v) h kk
@[push_cast] theorem sG_e (u:Value) (q:Bool) (v:Value) (h:jA) (x:WK):@sG u q v h x=gP u q (some v) h kk:=rfl
def oZ (t:Nat) (v:Value) (w:Value) (h:jA) [x:WK]:Prop:=oE (stD (szT prog t) v w h) kk
@[push_cast] theorem oZ_e (t:Nat) (v:Value) (w:Value) (h:jA) (x:WK):@oZ t v w h x=oE (stD (szT prog t) v w h) kk:=rfl
def eA (t:Nat) (h:jA) [x:WK]:Prop:=oE (alE (zro prog t) t h) kk
@[push_cast] theorem eA_e (t:Nat) (h:jA) (x:WK):@eA t h x=oE (alE (zro prog t) t h) kk:=rfl
def oY (t:Nat) (v:Value) (h:jA) [x:WK]:Prop:=oE (bxD t v h) kk
@[push_cast] theorem oY_e (t:Nat) (v:Value) (h:jA) (x:WK):@oY t v h x=oE (bxD t v h) kk:=rfl
def oX (v:Value) (i:Nat) (h:jA) [x:WK]:Prop:=oP (extV v i) h kk
@[push_cast] theorem oX_e (v:Value) (i:Nat) (h:jA) (x:WK):@oX v i h x=oP (extV v i) h kk:=rfl
def dP (t:Nat) (l:List (Nat×Value)) (h:jA) [x:WK]:Prop:=oP (bdV (plc prog t) l) h kk
@[push_cast] theorem dP_e (t:Nat) (l:List (Nat×Value)) (h:jA) (x:WK):@dP t l h x=oP (bdV (plc prog t) l) h kk:=rfl
def eL (t:Nat) (i:Nat) (l:List (Nat×Value)) (h:jA) [x:WK]:Prop:=oE (bsD (qq.m t) (slT prog t) i l h) kk
@[push_cast] theorem eL_e (t:Nat) (i:Nat) (l:List (Nat×Value)) (h:jA) (x:WK):@eL t i l h x=oE (bsD (qq.m t) (slT prog t) i l h) kk:=rfl
def cQ (G:Nat×Nat) (i:Nat) (m:List Value) (h:jA) [x:WK]:Prop:=jB (pp G) qq.H (.func (.func i) #[] #[]) m h (@kB ⟨fun _=>kk⟩)
@[push_cast] theorem cQ_e (G:Nat×Nat) (i:Nat) (m:List Value) (h:jA) (x:WK):@cQ G i m h x=jB (pp G) qq.H (.func (.func i) #[] #[]) m h (@kB ⟨fun _=>kk⟩):=rfl
def cG (G:Nat×Nat) (u:Value) (q:Bool) (i:Nat) (m:List Value) (h:jA) [x:WK]:Prop:=gCV (pp G) qq.H u q (.func (.func i) #[] #[]) m h (@kB ⟨fun _=>kk⟩)
@[push_cast] theorem cG_e (G:Nat×Nat) (u:Value) (q:Bool) (i:Nat) (m:List Value) (h:jA) (x:WK):@cG G u q i m h x=gCV (pp G) qq.H u q (.func (.func i) #[] #[]) m h (@kB ⟨fun _=>kk⟩):=rfl
def vQ (v:Value) [y:WB] [z:WB]:Prop:=uQ0 v (@kb y) (@kb z)
@[push_cast] theorem vQ_e (v:Value) (y z:WB):@vQ v y z=uQ0 v (@kb y) (@kb z):=rfl
def tK [y:WB]:Prop:=jH True kb
@[push_cast] theorem tK_e (y:WB):@tK y=jH True kb:=rfl
end
end Go.Proofs.Ytgeakofgklcipaa
