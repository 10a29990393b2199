/-
  A part of the proof: conditions over an abstract memory,and that they are enough for what the model's calls do. No condition of its own.
-/
import Derived.Test.YtdcjpmjmjinjmaaDoorEve
import Derived.Test.YtdcjpmjmjinjmaaDoorProg
import Derived.KernelRfl
set_option linter.unusedSimpArgs false
set_option linter.unusedVariables false
set_option maxRecDepth 100000
namespace Go.Proofs.YtdcjpmjmjinjmaaDoor
open _root_.Go.Proofs.Tryd (prog)
open Go.RowKit Go.Ev Go.Dv
noncomputable section
abbrev tt (n:Nat):Operand:=.tmp n
abbrev ci (n:Int):Operand:=.const (.int .i64 n)
def Iq (d:Nat) (o:Go.Op) (t:TypeId):It:=⟨some d,none,.take,o,t⟩
def Im (d s t:Nat):It:=Iq d (.move (.tmp s)) t
def Ia (d s t:Nat):It:=Iq d (.assign (.tmp s)) t
def Il (d e s t:Nat):It:=Iq d (.load e (.tmp s)) t
def If (d e s f t:Nat):It:=Iq d (.fieldAddr e (.tmp s) f) t
def Is (e a b t:Nat):It:=⟨none,none,.eff,.store e (.tmp a) (.tmp b),t⟩
def Ig (d g:Nat) (w:Bool) (o:Go.Op) (t:TypeId):It:=⟨some d,some (g,w),.take,o,t⟩
def Ie (d:Nat) (o:Go.Op) (t:TypeId):It:=⟨some d,none,.eff,o,t⟩
def Ic (d f:Nat) (a:Array Operand) (b:Array TypeId) (t:TypeId):It:=⟨some d,none,.call,.call ⟨.value (.func f),a,b⟩,t⟩
def so (l:List It) (b:IR):IR:=.seq (.ops l) b
abbrev ud:Value:=undef
def lf (v:Value):VTr:=.node .nil v .nil
abbrev nd (l:VTr) (v:Value) (r:VTr):VTr:=.node l v r
noncomputable def irB (P:Program) (g:Nat):IR:=match fir P g with|some f=>f.4|none=>.skip
noncomputable def pk:List Nat→IR→IR
 | [],x=>x
 | i :: p,.seq a b=>pk p (match i with | 0=>a | _=>b)
 | i :: p,.cond _ a b=>pk p (match i with | 0=>a | _=>b)
 | _ :: p,.block _ b=>pk p b
 | _ :: p,.loop b=>pk p b
 | _ :: _,x=>x
noncomputable def lX1:IR:=pk [1,0,1,0] (irB prog 3)
noncomputable def zO1:IR:=pk [1,1,1,0,1,0,1,1,0,0] (irB prog 3)
noncomputable def zN1:IR:=pk [1,1,1,1,1,0,1,0,0] (irB prog 3)
noncomputable def fR0:IR:=pk [1,1,1,1] (irB prog 3)
noncomputable def ir3:IR:=irB prog 3
theorem fir3:fir prog 3=some ⟨88,2,[(.tmp 4)],ir3⟩:=by kernel_rfl
noncomputable def ir4:IR:=irB prog 4
theorem fir4:fir prog 4=some ⟨79,0,[(.tmp 0)],ir4⟩:=by kernel_rfl
noncomputable def ir5:IR:=irB prog 5
theorem fir5:fir prog 5=some ⟨15,2,[(.tmp 4)],ir5⟩:=by kernel_rfl
noncomputable def ir6:IR:=irB prog 6
theorem fir6:fir prog 6=some ⟨21,1,[(.cell 2 35)],ir6⟩:=by kernel_rfl
noncomputable def ir7:IR:=irB prog 7
theorem fir7:fir prog 7=some ⟨79,3,[(.cell 6 35),(.cell 7 38),(.tmp 8),(.tmp 9)],ir7⟩:=by kernel_rfl
noncomputable def lV1:IR:=pk [1,1,1] (irB prog 8)
noncomputable def lT1:IR:=pk [1,1,0,1,0,0,1,1] (irB prog 8)
noncomputable def lU1:IR:=pk [1,1,0,1,0,0,1,0,0,1,0,0] (irB prog 8)
noncomputable def lW1:IR:=pk [1,1,0,1,0,0] (irB prog 8)
noncomputable def ir8:IR:=irB prog 8
theorem fir8:fir prog 8=some ⟨32,1,[(.tmp 2)],ir8⟩:=by kernel_rfl
noncomputable def lR1:IR:=pk [1,1,1] (irB prog 9)
noncomputable def lS1:IR:=pk [1,1,0,1,0,0] (irB prog 9)
noncomputable def ir9:IR:=irB prog 9
theorem fir9:fir prog 9=some ⟨21,1,[(.tmp 2)],ir9⟩:=by kernel_rfl
noncomputable def gI0:IR:=pk [1,1,1,1] (irB prog 10)
noncomputable def ir10:IR:=irB prog 10
theorem tI1:fir prog 10=some ⟨73,4,[(.cell 8 35),(.cell 9 38),(.tmp 10)],ir10⟩:=by kernel_rfl
noncomputable def oD0:IR:=(.ops [⟨some 11,none,.take,(.assign (.tmp 30)),64⟩])
theorem oS0:comp prog (kY prog 10 0)=oD0:=by kernel_rfl
noncomputable def oC0:IR:=(.block 1 (.seq (.seq (.plan (.take 0 false ⟨some 31,none,.take,(.move (.tmp 11)),64⟩ (.take 1 false ⟨some 32,none,.take,(.nilCheck (.tmp 31)),0⟩ (.take 2 false ⟨some 33,none,.take,(.fieldAddr 28 (.tmp 32) 0),0⟩ (.take 3 true ⟨some 34,none,.take,(.load 3 (.tmp 33)),3⟩ (.take 4 false ⟨some 35,none,.take,(.binOp .neq 3 (.tmp 34) (.const (.int .i64 14)) 3),4⟩ (.take 5 false ⟨some 36,none,.take,(.move (.tmp 35)),4⟩ (.take 6 false ⟨some 37,(some (36,false)),.take,(.move (.tmp 11)),64⟩ (.take 7 false ⟨some 38,(some (36,false)),.take,(.nilCheck (.tmp 37)),0⟩ (.take 8 false ⟨some 39,(some (36,false)),.take,(.fieldAddr 28 (.tmp 38) 1),0⟩ (.take 9 true ⟨some 40,(some (36,false)),.take,(.load 3 (.tmp 39)),3⟩ (.take 10 true ⟨some 41,(some (36,false)),.take,(.load 3 (.tmp 6)),3⟩ (.take 11 false ⟨some 42,(some (36,false)),.take,(.binOp .neq 3 (.tmp 40) (.tmp 41) 3),4⟩ (.take 12 false ⟨some 43,none,.take,(.pick (.tmp 36) (.const (.bool true)) (.tmp 42)),4⟩ .fin)))))))))))))) (.cond (.tmp 43) (.exit 1) .skip)) (.seq (.plan (.take 0 false ⟨some 44,none,.take,(.move (.tmp 11)),64⟩ (.take 1 false ⟨some 45,none,.take,(.nilCheck (.tmp 44)),0⟩ (.take 2 false ⟨some 46,none,.take,(.fieldAddr 28 (.tmp 45) 3),0⟩ (.take 3 true ⟨some 47,none,.take,(.load 9 (.tmp 46)),9⟩ (.take 4 true ⟨some 48,none,.take,(.load 3 (.tmp 6)),3⟩ (.take 5 true ⟨some 49,none,.take,(.load 3 (.tmp 7)),3⟩ (.take 6 false ⟨some 50,none,.take,(.build 38 #[(0,(.tmp 47)),(1,(.tmp 48)),(2,(.tmp 49))]),38⟩ (.eff 7 ⟨none,none,.eff,(.store 38 (.tmp 9) (.tmp 50)),0⟩ [5,4,0,1,2,3,6] .fin .no))))))))) (.seq (.seq (.ops [⟨some 51,none,.take,(.move (.tmp 11)),64⟩,⟨some 52,none,.take,(.nilCheck (.tmp 51)),0⟩,⟨some 53,none,.take,(.fieldAddr 28 (.tmp 52) 2),0⟩,⟨some 54,none,.take,(.load 3 (.tmp 53)),3⟩,⟨some 55,none,.take,(.binOp .geq 3 (.tmp 54) (.const (.int .i64 0)) 3),4⟩]) (.cond (.tmp 55) (.plan (.take 0 false ⟨some 56,none,.take,(.fieldAddr 35 (.tmp 8) 1),0⟩ (.take 1 true ⟨some 57,none,.take,(.load 29 (.tmp 56)),29⟩ (.take 2 false ⟨some 58,none,.take,(.move (.tmp 11)),64⟩ (.take 3 false ⟨some 59,none,.take,(.nilCheck (.tmp 58)),0⟩ (.take 4 false ⟨some 60,none,.take,(.fieldAddr 28 (.tmp 59) 2),0⟩ (.take 5 true ⟨some 61,none,.take,(.load 3 (.tmp 60)),3⟩ (.take 6 true ⟨some 62,none,.take,(.load 3 (.tmp 7)),3⟩ (.take 7 false ⟨some 63,none,.take,(.indexAddr 29 (.tmp 57) (.tmp 61)),0⟩ (.eff 8 ⟨none,none,.eff,(.store 3 (.tmp 63) (.tmp 62)),0⟩ [6,2,3,4,5,0,1,7] .fin .no)))))))))) .skip)) (.seq (.ops [⟨some 64,none,.take,(.move (.tmp 11)),64⟩,⟨some 65,none,.take,(.build 28 #[]),28⟩,⟨some 66,none,.take,(.nilCheck (.tmp 64)),0⟩,⟨none,none,.eff,(.store 28 (.tmp 66) (.tmp 65)),0⟩]) (.exit 0))))))
theorem oR0:comp prog (kY prog 10 1)=oC0:=by kernel_rfl
noncomputable def kI1:IR:=pk [1,1,1] (irB prog 11)
noncomputable def kJ1:IR:=pk [1,1,0,1,0,0] (irB prog 11)
noncomputable def ir11:IR:=irB prog 11
theorem fir11:fir prog 11=some ⟨66,1,[(.tmp 2)],ir11⟩:=by kernel_rfl
noncomputable def kS:IR:=pk [1,1] (irB prog 12)
noncomputable def kH:IR:=pk [1,0,0,1,1,1,0,1] (irB prog 12)
noncomputable def ir12:IR:=irB prog 12
theorem fW0:fir prog 12=some ⟨98,1,[(.cell 2 28)],ir12⟩:=by kernel_rfl
noncomputable def ir13:IR:=irB prog 13
theorem fir13:fir prog 13=some ⟨5,1,[(.tmp 2)],ir13⟩:=by kernel_rfl
noncomputable def kE1:IR:=(so [Il 39 50 3 50,Ia 2 39 50] .ret)
noncomputable def wA0:IR:=(.plan (.take 0 true (Il 34 50 3 50) (.take 1 true (Il 35 74 4 74) (.eff 2 (Ic 36 30 #[(tt 35),(ci 0)] #[74,3] 58) [1] (.eff 3 (Ie 37 (.buildSlice 50 1 #[(0,(tt 36))]) 50) [1,2] (.eff 4 (Ie 38 (.call ⟨(.builtin .append),#[(tt 34),(tt 37)],#[50,50]⟩) 50) [1,2,3,0] (.eff 5 (Is 50 3 38 0) [1,2,3,0,4] .fin .no) .no) .no) .no))))
noncomputable def zZ0:IR:=(.cond (tt 12) (.exit 1) (so [(Iq 19 (.binOp .eql 3 (tt 11) (ci 8) 3) 4),Ia 18 19 4] (.cond (tt 18) (so [If 20 74 4 1 0,Il 21 28 20 28,(Ic 22 21 #[(tt 21)] #[28] 29),(Iq 23 (.call ⟨(.builtin .len),#[(tt 22)],#[29]⟩) 3),(Iq 24 (.binOp .gtr 3 (tt 23) (ci 0) 3) 4)] (.cond (tt 24) (.exit 1) .skip)) (so [(Iq 26 (.binOp .eql 3 (tt 11) (ci 10) 3) 4),Ia 25 26 4] (.cond (tt 25) (.seq (.plan (.take 0 true (Il 27 50 3 50) (.take 1 true (Il 28 74 4 74) (.take 3 true (Il 30 74 4 74) (.eff 2 (Ic 29 30 #[(tt 28),(ci 0)] #[74,3] 58) [1] (.eff 4 (Ic 31 30 #[(tt 30),(ci 1)] #[74,3] 58) [1,2,3] (.eff 5 (Ie 32 (.buildSlice 50 2 #[(0,(tt 29)),(1,(tt 31))]) 50) [3,4,1,2] (.eff 6 (Ie 33 (.call ⟨(.builtin .append),#[(tt 27),(tt 32)],#[50,50]⟩) 50) [3,4,1,2,5,0] (.eff 7 (Is 50 3 33 0) [3,4,1,2,5,0,6] .fin .no) .no) .no) .no) .no))))) (.exit 1)) .skip)))))
noncomputable def ir14:IR:=irB prog 14
theorem fir14:fir prog 14=some ⟨40,1,[(.tmp 2)],ir14⟩:=by kernel_rfl
noncomputable def kH1:IR:=(.seq (.ops [⟨some 3,none,.eff,(.alloc 50),0⟩]) (.seq (.label 0) (.seq (.seq (.ops [⟨some 5,none,.take,(.load 28 (.tmp 1)),28⟩,⟨some 6,none,.call,(.call ⟨(.value (.func 12)),#[(.tmp 5)],#[28]⟩),28⟩,⟨some 7,none,.call,(.call ⟨(.value (.func 29)),#[(.tmp 6)],#[28]⟩),71⟩]) (.block 0 (.range (.tmp 7) #[8] (kY prog 14 1) (kY prog 14 2)))) (.seq (.ops [⟨some 39,none,.take,(.load 50 (.tmp 3)),50⟩,⟨some 2,none,.take,(.assign (.tmp 39)),50⟩]) .ret))))
theorem eM1:comp prog (kY prog 14 0)=kH1:=by kernel_rfl
noncomputable def kG1:IR:=(.ops [⟨some 4,none,.eff,(.alloc 74),0⟩,⟨none,none,.eff,(.store 74 (.tmp 4) (.tmp 8)),0⟩])
theorem eL1:comp prog (kY prog 14 1)=kG1:=by kernel_rfl
noncomputable def kF1:IR:=(.block 1 (.seq (.seq (.ops [⟨some 9,none,.take,(.fieldAddr 74 (.tmp 4) 0),0⟩,⟨some 10,none,.take,(.fieldAddr 28 (.tmp 9) 0),0⟩,⟨some 11,none,.take,(.load 3 (.tmp 10)),3⟩]) (.block 2 (.seq (.seq (.ops [⟨some 13,none,.take,(.binOp .eql 3 (.tmp 11) (.const (.int .i64 0)) 3),4⟩,⟨some 12,none,.take,(.assign (.tmp 13)),4⟩]) (.cond (.tmp 12) .skip (.seq (.ops [⟨some 14,none,.take,(.binOp .eql 3 (.tmp 11) (.const (.int .i64 14)) 3),4⟩,⟨some 12,none,.take,(.assign (.tmp 14)),4⟩]) (.cond (.tmp 12) .skip (.seq (.ops [⟨some 15,none,.take,(.binOp .eql 3 (.tmp 11) (.const (.int .i64 12)) 3),4⟩,⟨some 12,none,.take,(.assign (.tmp 15)),4⟩]) (.cond (.tmp 12) .skip (.seq (.ops [⟨some 16,none,.take,(.binOp .eql 3 (.tmp 11) (.const (.int .i64 11)) 3),4⟩,⟨some 12,none,.take,(.assign (.tmp 16)),4⟩]) (.cond (.tmp 12) .skip (.ops [⟨some 17,none,.take,(.binOp .eql 3 (.tmp 11) (.const (.int .i64 7)) 3),4⟩,⟨some 12,none,.take,(.assign (.tmp 17)),4⟩]))))))))) (.cond (.tmp 12) (.exit 1) (.seq (.ops [⟨some 19,none,.take,(.binOp .eql 3 (.tmp 11) (.const (.int .i64 8)) 3),4⟩,⟨some 18,none,.take,(.assign (.tmp 19)),4⟩]) (.cond (.tmp 18) (.seq (.ops [⟨some 20,none,.take,(.fieldAddr 74 (.tmp 4) 1),0⟩,⟨some 21,none,.take,(.load 28 (.tmp 20)),28⟩,⟨some 22,none,.call,(.call ⟨(.value (.func 21)),#[(.tmp 21)],#[28]⟩),29⟩,⟨some 23,none,.take,(.call ⟨(.builtin .len),#[(.tmp 22)],#[29]⟩),3⟩,⟨some 24,none,.take,(.binOp .gtr 3 (.tmp 23) (.const (.int .i64 0)) 3),4⟩]) (.cond (.tmp 24) (.exit 1) .skip)) (.seq (.ops [⟨some 26,none,.take,(.binOp .eql 3 (.tmp 11) (.const (.int .i64 10)) 3),4⟩,⟨some 25,none,.take,(.assign (.tmp 26)),4⟩]) (.cond (.tmp 25) (.seq (.plan (.take 0 true ⟨some 27,none,.take,(.load 50 (.tmp 3)),50⟩ (.take 1 true ⟨some 28,none,.take,(.load 74 (.tmp 4)),74⟩ (.take 3 true ⟨some 30,none,.take,(.load 74 (.tmp 4)),74⟩ (.eff 2 ⟨some 29,none,.call,(.call ⟨(.value (.func 30)),#[(.tmp 28),(.const (.int .i64 0))],#[74,3]⟩),58⟩ [1] (.eff 4 ⟨some 31,none,.call,(.call ⟨(.value (.func 30)),#[(.tmp 30),(.const (.int .i64 1))],#[74,3]⟩),58⟩ [1,2,3] (.eff 5 ⟨some 32,none,.eff,(.buildSlice 50 2 #[(0,(.tmp 29)),(1,(.tmp 31))]),50⟩ [3,4,1,2] (.eff 6 ⟨some 33,none,.eff,(.call ⟨(.builtin .append),#[(.tmp 27),(.tmp 32)],#[50,50]⟩),50⟩ [3,4,1,2,5,0] (.eff 7 ⟨none,none,.eff,(.store 50 (.tmp 3) (.tmp 33)),0⟩ [3,4,1,2,5,0,6] .fin .no) .no) .no) .no) .no))))) (.exit 1)) .skip)))))))) (.plan (.take 0 true ⟨some 34,none,.take,(.load 50 (.tmp 3)),50⟩ (.take 1 true ⟨some 35,none,.take,(.load 74 (.tmp 4)),74⟩ (.eff 2 ⟨some 36,none,.call,(.call ⟨(.value (.func 30)),#[(.tmp 35),(.const (.int .i64 0))],#[74,3]⟩),58⟩ [1] (.eff 3 ⟨some 37,none,.eff,(.buildSlice 50 1 #[(0,(.tmp 36))]),50⟩ [1,2] (.eff 4 ⟨some 38,none,.eff,(.call ⟨(.builtin .append),#[(.tmp 34),(.tmp 37)],#[50,50]⟩),50⟩ [1,2,3,0] (.eff 5 ⟨none,none,.eff,(.store 50 (.tmp 3) (.tmp 38)),0⟩ [1,2,3,0,4] .fin .no) .no) .no) .no))))))
theorem eK1:comp prog (kY prog 14 2)=kF1:=by kernel_rfl
noncomputable def ir15:IR:=irB prog 15
theorem fir15:fir prog 15=some ⟨33,2,[(.tmp 4)],ir15⟩:=by kernel_rfl
noncomputable def ir16:IR:=irB prog 16
theorem fir16:fir prog 16=some ⟨16,1,[(.cell 2 35)],ir16⟩:=by kernel_rfl
noncomputable def ir17:IR:=irB prog 17
theorem fir17:fir prog 17=some ⟨173,3,[(.cell 6 38),(.tmp 7)],ir17⟩:=by kernel_rfl
noncomputable def kC1:IR:=pk [1,1,1] (irB prog 18)
noncomputable def kD1:IR:=pk [1,1,0,1,0,0] (irB prog 18)
noncomputable def ir18:IR:=irB prog 18
theorem fir18:fir prog 18=some ⟨19,1,[(.tmp 2)],ir18⟩:=by kernel_rfl
noncomputable def kA1:IR:=pk [1,1,1] (irB prog 19)
noncomputable def zY1:IR:=pk [1,1,0,1,0,0,1,1,1] (irB prog 19)
noncomputable def zZ1:IR:=pk [1,1,0,1,0,0,1,1,0,0,1,1,0,0] (irB prog 19)
noncomputable def kB1:IR:=pk [1,1,0,1,0,0] (irB prog 19)
noncomputable def ir19:IR:=irB prog 19
theorem fir19:fir prog 19=some ⟨27,1,[(.tmp 2)],ir19⟩:=by kernel_rfl
noncomputable def ir20:IR:=irB prog 20
theorem fir20:fir prog 20=some ⟨9,2,[(.tmp 4)],ir20⟩:=by kernel_rfl
noncomputable def zV1:IR:=pk [1,1,1] (irB prog 21)
noncomputable def ir21:IR:=irB prog 21
theorem fir21:fir prog 21=some ⟨17,1,[(.tmp 2)],ir21⟩:=by kernel_rfl
noncomputable def zX1:IR:=(.ops [⟨some 4,none,.eff,(.alloc 28),0⟩,⟨none,none,.eff,(.store 28 (.tmp 4) (.tmp 7)),0⟩])
theorem eJ1:comp prog (kY prog 21 0)=zX1:=by kernel_rfl
noncomputable def zW1:IR:=(.block 1 (.seq (.ops [⟨some 8,none,.take,(.fieldAddr 28 (.tmp 4) 0),0⟩,⟨some 9,none,.take,(.load 3 (.tmp 8)),3⟩,⟨some 10,none,.take,(.binOp .eql 3 (.tmp 9) (.const (.int .i64 14)) 3),4⟩]) (.cond (.tmp 10) (.ops [⟨some 11,none,.take,(.load 29 (.tmp 3)),29⟩,⟨some 12,none,.take,(.fieldAddr 28 (.tmp 4) 1),0⟩,⟨some 13,none,.take,(.load 3 (.tmp 12)),3⟩,⟨some 14,none,.eff,(.buildSlice 29 1 #[(0,(.tmp 13))]),29⟩,⟨some 15,none,.eff,(.call ⟨(.builtin .append),#[(.tmp 11),(.tmp 14)],#[29,29]⟩),29⟩,⟨none,none,.eff,(.store 29 (.tmp 3) (.tmp 15)),0⟩]) .skip)))
theorem eI1:comp prog (kY prog 21 1)=zW1:=by kernel_rfl
noncomputable def ir22:IR:=irB prog 22
theorem fir22:fir prog 22=some ⟨4,1,[(.tmp 2)],ir22⟩:=by kernel_rfl
noncomputable def ir23:IR:=irB prog 23
theorem fir23:fir prog 23=some ⟨15,4,[(.tmp 8)],ir23⟩:=by kernel_rfl
noncomputable def ir24:IR:=irB prog 24
theorem fir24:fir prog 24=some ⟨11,1,[(.tmp 2)],ir24⟩:=by kernel_rfl
noncomputable def ir25:IR:=irB prog 25
theorem kU2:fir prog 25=some ⟨12,2,[(.cell 4 28)],ir25⟩:=by kernel_rfl
noncomputable def ir26:IR:=irB prog 26
theorem fir26:fir prog 26=some ⟨12,1,[(.cell 2 28)],ir26⟩:=by kernel_rfl
noncomputable def zT1:IR:=pk [1,1,1,1] (irB prog 27)
noncomputable def zU1:IR:=pk [1,1,1,0,1,0,0] (irB prog 27)
noncomputable def ir27:IR:=irB prog 27
theorem fir27:fir prog 27=some ⟨29,2,[(.tmp 4)],ir27⟩:=by kernel_rfl
noncomputable def ir28:IR:=irB prog 28
theorem fir28:fir prog 28=some ⟨4,1,[(.tmp 2)],ir28⟩:=by kernel_rfl
noncomputable def ir29:IR:=irB prog 29
theorem fir29:fir prog 29=some ⟨4,1,[(.tmp 2)],ir29⟩:=by kernel_rfl
noncomputable def ir30:IR:=irB prog 30
theorem fir30:fir prog 30=some ⟨13,2,[(.cell 4 58)],ir30⟩:=by kernel_rfl
noncomputable def ir31:IR:=irB prog 31
theorem fir31:fir prog 31=some ⟨5,1,[(.tmp 2)],ir31⟩:=by kernel_rfl
noncomputable def zY0:IR:=(.seq (so [Im 14 1 29,(Iq 15 (.call ⟨(.builtin .len),#[(tt 14)],#[29]⟩) 3),(Iq 16 (.binOp .eql 3 (tt 15) (ci 0) 3) 4)] (.cond (tt 16) (so [Im 17 4 64,Im 18 5 64,Ia 4 17 64,Ia 5 18 64] .ret) .skip)) (.seq (.plan (.take 0 false (Im 19 4 64) (.take 1 false (Iq 20 (.nilCheck (tt 19)) 0) (.take 2 false (If 21 28 20 5 0) (.take 3 true (Il 22 26 21 26) (.take 4 false (Im 23 1 29) (.take 5 false (Iq 24 (.indexAddr 29 (tt 23) (ci 0)) 0) (.take 6 true (Il 25 3 24 3) (.take 7 false (Iq 26 (.indexAddr 26 (tt 22) (tt 25)) 0) (.take 8 false (Im 27 1 29) (.take 9 true (Iq 28 (.slice 29 (tt 27) (some (ci 1)) none none) 29) (.take 10 false (Ia 4 26 64) (.take 11 false (Ia 1 28 29) .fin))))))))))))) (.goto 0)))
noncomputable def ir32:IR:=irB prog 32
theorem fir32:fir prog 32=some ⟨29,2,[(.tmp 4),(.tmp 5)],ir32⟩:=by kernel_rfl
noncomputable def lZ1:IR:=(.seq (.ops [⟨some 6,none,.take,(.move (.tmp 0)),64⟩,⟨some 7,none,.take,(.move (.tmp 0)),64⟩,⟨some 4,none,.take,(.assign (.tmp 6)),64⟩,⟨some 5,none,.take,(.assign (.tmp 7)),64⟩]) (.seq (.label 0) (.seq (.seq (.ops [⟨some 8,none,.take,(.move (.tmp 4)),64⟩,⟨some 9,none,.take,(.nilCheck (.tmp 8)),0⟩,⟨some 10,none,.take,(.fieldAddr 28 (.tmp 9) 0),0⟩,⟨some 11,none,.take,(.load 3 (.tmp 10)),3⟩,⟨some 12,none,.take,(.binOp .eql 3 (.tmp 11) (.const (.int .i64 7)) 3),4⟩]) (.cond (.tmp 12) (.ops [⟨some 13,none,.take,(.move (.tmp 4)),64⟩,⟨some 5,none,.take,(.assign (.tmp 13)),64⟩]) .skip)) (.seq (.seq (.ops [⟨some 14,none,.take,(.move (.tmp 1)),29⟩,⟨some 15,none,.take,(.call ⟨(.builtin .len),#[(.tmp 14)],#[29]⟩),3⟩,⟨some 16,none,.take,(.binOp .eql 3 (.tmp 15) (.const (.int .i64 0)) 3),4⟩]) (.cond (.tmp 16) (.seq (.ops [⟨some 17,none,.take,(.move (.tmp 4)),64⟩,⟨some 18,none,.take,(.move (.tmp 5)),64⟩,⟨some 4,none,.take,(.assign (.tmp 17)),64⟩,⟨some 5,none,.take,(.assign (.tmp 18)),64⟩]) .ret) .skip)) (.seq (.plan (.take 0 false ⟨some 19,none,.take,(.move (.tmp 4)),64⟩ (.take 1 false ⟨some 20,none,.take,(.nilCheck (.tmp 19)),0⟩ (.take 2 false ⟨some 21,none,.take,(.fieldAddr 28 (.tmp 20) 5),0⟩ (.take 3 true ⟨some 22,none,.take,(.load 26 (.tmp 21)),26⟩ (.take 4 false ⟨some 23,none,.take,(.move (.tmp 1)),29⟩ (.take 5 false ⟨some 24,none,.take,(.indexAddr 29 (.tmp 23) (.const (.int .i64 0))),0⟩ (.take 6 true ⟨some 25,none,.take,(.load 3 (.tmp 24)),3⟩ (.take 7 false ⟨some 26,none,.take,(.indexAddr 26 (.tmp 22) (.tmp 25)),0⟩ (.take 8 false ⟨some 27,none,.take,(.move (.tmp 1)),29⟩ (.take 9 true ⟨some 28,none,.take,(.slice 29 (.tmp 27) (some (.const (.int .i64 1))) none none),29⟩ (.take 10 false ⟨some 4,none,.take,(.assign (.tmp 26)),64⟩ (.take 11 false ⟨some 1,none,.take,(.assign (.tmp 28)),29⟩ .fin))))))))))))) (.goto 0))))))
theorem eH1:comp prog (kY prog 32 0)=lZ1:=by kernel_rfl
noncomputable def ir33:IR:=irB prog 33
theorem kT2:fir prog 33=some ⟨16,2,[(.tmp 4),(.tmp 5)],ir33⟩:=by kernel_rfl
noncomputable def ir34:IR:=irB prog 34
theorem fir34:fir prog 34=some ⟨23,3,[(.tmp 6)],ir34⟩:=by kernel_rfl
noncomputable def zR1:IR:=pk [1,1,1,1,1] (irB prog 35)
noncomputable def zS1:IR:=pk [1,1,1,1,0,1,0,0] (irB prog 35)
noncomputable def ir35:IR:=irB prog 35
theorem fir35:fir prog 35=some ⟨49,2,[(.cell 4 28),(.tmp 5)],ir35⟩:=by kernel_rfl
noncomputable def ir36:IR:=irB prog 36
theorem fir36:fir prog 36=some ⟨8,2,[(.tmp 4)],ir36⟩:=by kernel_rfl
noncomputable def ir37:IR:=irB prog 37
theorem fir37:fir prog 37=some ⟨41,3,[(.tmp 6)],ir37⟩:=by kernel_rfl
noncomputable def ir38:IR:=irB prog 38
theorem fir38:fir prog 38=some ⟨27,2,[(.cell 4 28),(.tmp 5)],ir38⟩:=by kernel_rfl
noncomputable def zP1:IR:=pk [1,1] (irB prog 39)
noncomputable def zQ1:IR:=pk [1,0,1,0,0] (irB prog 39)
noncomputable def ir39:IR:=irB prog 39
theorem fir39:fir prog 39=some ⟨19,2,[(.tmp 4)],ir39⟩:=by kernel_rfl
noncomputable def ir40:IR:=irB prog 40
theorem fir40:fir prog 40=some ⟨4,1,[(.tmp 2)],ir40⟩:=by kernel_rfl
noncomputable def ir41:IR:=irB prog 41
theorem fir41:fir prog 41=some ⟨6,2,[],ir41⟩:=by kernel_rfl
noncomputable def zL1:IR:=pk [1,1,1,1,1] (irB prog 42)
noncomputable def lY0:IR:=pk [1,1,1,0,1,0,1] (irB prog 42)
noncomputable def zM1:IR:=pk [1,1,1,1,0,1,0,0] (irB prog 42)
noncomputable def dQ0:IR:=pk [1,1,1,1] (irB prog 42)
noncomputable def ir42:IR:=irB prog 42
theorem fir42:fir prog 42=some ⟨34,2,[(.tmp 4)],ir42⟩:=by kernel_rfl
noncomputable def lW0:IR:=pk [1,1,1,1,1] (irB prog 43)
noncomputable def lX0:IR:=pk [1,1,1,1,0,1,0,0] (irB prog 43)
noncomputable def ir43:IR:=irB prog 43
theorem fir43:fir prog 43=some ⟨94,3,[(.tmp 6)],ir43⟩:=by kernel_rfl
noncomputable def ir44:IR:=irB prog 44
theorem fir44:fir prog 44=some ⟨9,2,[(.tmp 4)],ir44⟩:=by kernel_rfl
noncomputable def ir45:IR:=irB prog 45
theorem fir45:fir prog 45=some ⟨8,1,[(.cell 2 25)],ir45⟩:=by kernel_rfl
noncomputable def ir46:IR:=irB prog 46
theorem kS2:fir prog 46=some ⟨5,1,[(.tmp 2)],ir46⟩:=by kernel_rfl
noncomputable def ir47:IR:=irB prog 47
theorem fir47:fir prog 47=some ⟨8,2,[],ir47⟩:=by kernel_rfl
noncomputable def zJ1:IR:=pk [1,1,1,0,1,0,1,1,1,1,1,1] (irB prog 48)
noncomputable def zK1:IR:=pk [1,1,1,1,0,1,0,0] (irB prog 48)
noncomputable def gH0:IR:=pk [1,1,1,1] (irB prog 48)
noncomputable def ir48:IR:=irB prog 48
theorem fir48:fir prog 48=some ⟨52,2,[(.tmp 4)],ir48⟩:=by kernel_rfl
noncomputable def ir49:IR:=irB prog 49
theorem fir49:fir prog 49=some ⟨8,1,[(.tmp 2)],ir49⟩:=by kernel_rfl
noncomputable def zH1:IR:=pk [1,1,1,1] (irB prog 50)
noncomputable def zI1:IR:=pk [1,1,1,0,1,0,0] (irB prog 50)
noncomputable def ir50:IR:=irB prog 50
theorem fir50:fir prog 50=some ⟨29,2,[(.tmp 4)],ir50⟩:=by kernel_rfl
noncomputable def zG1:IR:=pk [1,1,1,1,1] (irB prog 51)
noncomputable def lV0:IR:=pk [1,1,1,1,0,1,0,0] (irB prog 51)
noncomputable def zX0:IR:=pk [1,1,1] (irB prog 51)
noncomputable def ir51:IR:=irB prog 51
theorem fir51:fir prog 51=some ⟨81,2,[(.tmp 4)],ir51⟩:=by kernel_rfl
noncomputable def ir52:IR:=irB prog 52
theorem fir52:fir prog 52=some ⟨81,2,[(.tmp 4),(.tmp 5)],ir52⟩:=by kernel_rfl
noncomputable def ir53:IR:=irB prog 53
theorem fir53:fir prog 53=some ⟨13,2,[(.tmp 4)],ir53⟩:=by kernel_rfl
noncomputable def zE1:IR:=pk [1,1,1] (irB prog 54)
noncomputable def lU0:IR:=pk [1,1,0,1,0,0,1,1,1] (irB prog 54)
noncomputable def dP0:IR:=pk [1,1,0,1,0,0,1,1,0,0,1,1] (irB prog 54)
noncomputable def zF1:IR:=pk [1,1,0,1,0,0] (irB prog 54)
noncomputable def ir54:IR:=irB prog 54
theorem fir54:fir prog 54=some ⟨34,4,[(.tmp 8)],ir54⟩:=by kernel_rfl
noncomputable def ir55:IR:=irB prog 55
theorem fir55:fir prog 55=some ⟨13,2,[(.tmp 4)],ir55⟩:=by kernel_rfl
noncomputable def ir56:IR:=irB prog 56
theorem fir56:fir prog 56=some ⟨6,2,[],ir56⟩:=by kernel_rfl
noncomputable def zC1:IR:=pk [1,1,1,0,1,0,1,1,1,1] (irB prog 57)
noncomputable def zD1:IR:=pk [1,1,1,1,0,1,0,0] (irB prog 57)
noncomputable def gG0:IR:=pk [1,1,1,1] (irB prog 57)
noncomputable def ir57:IR:=irB prog 57
theorem fir57:fir prog 57=some ⟨37,2,[(.tmp 4)],ir57⟩:=by kernel_rfl
noncomputable def ir58:IR:=irB prog 58
theorem fir58:fir prog 58=some ⟨58,3,[(.tmp 6)],ir58⟩:=by kernel_rfl
noncomputable def lS0:IR:=pk [1,1,1] (irB prog 59)
noncomputable def lT0:IR:=pk [1,1] (irB prog 59)
noncomputable def ir59:IR:=irB prog 59
theorem fir59:fir prog 59=some ⟨16,1,[(.cell 2 108)],ir59⟩:=by kernel_rfl
noncomputable def ir60:IR:=irB prog 60
theorem fir60:fir prog 60=some ⟨25,1,[(.tmp 2)],ir60⟩:=by kernel_rfl
noncomputable def ir61:IR:=irB prog 61
theorem fir61:fir prog 61=some ⟨22,1,[(.tmp 2)],ir61⟩:=by kernel_rfl
noncomputable def zA1:IR:=pk [1,1] (irB prog 62)
noncomputable def zB1:IR:=pk [1,0,1,0,0] (irB prog 62)
noncomputable def ir62:IR:=irB prog 62
theorem fir62:fir prog 62=some ⟨19,2,[(.tmp 4)],ir62⟩:=by kernel_rfl
noncomputable def wY1:IR:=pk [1,1,1,1] (irB prog 63)
noncomputable def wZ1:IR:=pk [1,1,1,0,1,0,0] (irB prog 63)
noncomputable def ir63:IR:=irB prog 63
theorem fir63:fir prog 63=some ⟨29,2,[(.tmp 4)],ir63⟩:=by kernel_rfl
noncomputable def wW1:IR:=pk [1,1,1,1] (irB prog 64)
noncomputable def wX1:IR:=pk [1,1,1,0,1,0,0] (irB prog 64)
noncomputable def ir64:IR:=irB prog 64
theorem fir64:fir prog 64=some ⟨29,2,[(.tmp 4)],ir64⟩:=by kernel_rfl
noncomputable def ir65:IR:=irB prog 65
theorem fir65:fir prog 65=some ⟨15,2,[(.tmp 4),(.tmp 5)],ir65⟩:=by kernel_rfl
noncomputable def ir66:IR:=irB prog 66
theorem fir66:fir prog 66=some ⟨83,3,[(.tmp 6),(.tmp 7)],ir66⟩:=by kernel_rfl
noncomputable def ir67:IR:=irB prog 67
theorem fir67:fir prog 67=some ⟨21,1,[(.tmp 2)],ir67⟩:=by kernel_rfl
noncomputable def ir68:IR:=irB prog 68
theorem fir68:fir prog 68=some ⟨9,1,[(.tmp 2)],ir68⟩:=by kernel_rfl
noncomputable def wU1:IR:=pk [1,1] (irB prog 69)
noncomputable def wV1:IR:=pk [1,0,1,0,0] (irB prog 69)
noncomputable def ir69:IR:=irB prog 69
theorem fir69:fir prog 69=some ⟨20,2,[(.tmp 4)],ir69⟩:=by kernel_rfl
noncomputable def ir70:IR:=irB prog 70
theorem fir70:fir prog 70=some ⟨13,1,[(.tmp 2)],ir70⟩:=by kernel_rfl
noncomputable def ir71:IR:=irB prog 71
theorem fir71:fir prog 71=some ⟨4,1,[(.tmp 2)],ir71⟩:=by kernel_rfl
noncomputable def ir72:IR:=irB prog 72
theorem fir72:fir prog 72=some ⟨17,2,[(.tmp 4),(.tmp 5)],ir72⟩:=by kernel_rfl
noncomputable def ir73:IR:=irB prog 73
theorem fir73:fir prog 73=some ⟨28,2,[(.tmp 4),(.tmp 5)],ir73⟩:=by kernel_rfl
noncomputable def ir74:IR:=irB prog 74
theorem fir74:fir prog 74=some ⟨19,2,[(.tmp 4),(.tmp 5)],ir74⟩:=by kernel_rfl
noncomputable def ir75:IR:=irB prog 75
theorem fir75:fir prog 75=some ⟨14,2,[(.tmp 4),(.tmp 5)],ir75⟩:=by kernel_rfl
noncomputable def ir76:IR:=irB prog 76
theorem fir76:fir prog 76=some ⟨17,2,[(.tmp 4),(.tmp 5)],ir76⟩:=by kernel_rfl
noncomputable def ir77:IR:=irB prog 77
theorem fir77:fir prog 77=some ⟨9,1,[(.tmp 2)],ir77⟩:=by kernel_rfl
theorem iQ0:appT prog 26 26=(some (28,(9,120))):=by kernel_rfl
theorem iP0:appT prog 29 29=(some (3,(1,8))):=by kernel_rfl
theorem iO0:appT prog 50 50=(some (58,(3,40))):=by kernel_rfl
theorem bA0:cnvT prog 5 21=(some (0,((some .i32),0))):=by kernel_rfl
theorem lB1:esz prog 23=(some (none,4)):=by kernel_rfl
theorem lA1:esz prog 26=(some (none,9)):=by kernel_rfl
theorem iZ1:esz prog 29=(some (none,1)):=by kernel_rfl
theorem iY1:esz prog 33=(some (none,1)):=by kernel_rfl
theorem iX1:esz prog 50=(some (none,3)):=by kernel_rfl
theorem bB1:esz prog 108=(some ((some 3),1)):=by kernel_rfl
theorem bA1:esz prog 111=(some ((some 15),5)):=by kernel_rfl
theorem jJ1:fld prog 25 0=(some 0):=by kernel_rfl
theorem jI1:fld prog 25 1=(some 1):=by kernel_rfl
theorem jH1:fld prog 25 2=(some 2):=by kernel_rfl
theorem jG1:fld prog 25 3=(some 3):=by kernel_rfl
theorem jF1:fld prog 28 0=(some 0):=by kernel_rfl
theorem jE1:fld prog 28 1=(some 1):=by kernel_rfl
theorem jD1:fld prog 28 2=(some 2):=by kernel_rfl
theorem jC1:fld prog 28 3=(some 3):=by kernel_rfl
theorem jB1:fld prog 28 4=(some 4):=by kernel_rfl
theorem jA1:fld prog 28 5=(some 8):=by kernel_rfl
theorem tZ0:fld prog 31 0=(some 0):=by kernel_rfl
theorem tY0:fld prog 31 1=(some 1):=by kernel_rfl
theorem tX0:fld prog 31 2=(some 2):=by kernel_rfl
theorem tW0:fld prog 31 3=(some 3):=by kernel_rfl
theorem tV0:fld prog 35 0=(some 0):=by kernel_rfl
theorem tU0:fld prog 35 1=(some 9):=by kernel_rfl
theorem tT0:fld prog 35 2=(some 10):=by kernel_rfl
theorem tS0:fld prog 35 3=(some 11):=by kernel_rfl
theorem tR0:fld prog 35 4=(some 12):=by kernel_rfl
theorem tQ0:fld prog 38 0=(some 0):=by kernel_rfl
theorem tP0:fld prog 38 2=(some 2):=by kernel_rfl
theorem tO0:fld prog 58 0=(some 0):=by kernel_rfl
theorem tN0:fld prog 58 1=(some 1):=by kernel_rfl
theorem tM0:fld prog 58 2=(some 2):=by kernel_rfl
theorem tL0:fld prog 74 0=(some 0):=by kernel_rfl
theorem tK0:fld prog 74 1=(some 9):=by kernel_rfl
theorem tJ0:fld prog 74 2=(some 18):=by kernel_rfl
theorem tI0:fld prog 95 0=(some 0):=by kernel_rfl
theorem tH0:fld prog 95 1=(some 1):=by kernel_rfl
theorem tG0:fld prog 95 2=(some 2):=by kernel_rfl
theorem mU0:fld prog 110 0=(some 0):=by kernel_rfl
theorem mT0:fld prog 110 1=(some 1):=by kernel_rfl
theorem mS0:fld prog 110 2=(some 2):=by kernel_rfl
theorem tF0:isBool prog 4=true:=by kernel_rfl
theorem tE0:sR1 prog 29=true:=by kernel_rfl
theorem gZ1:lR0 prog 9=true:=by kernel_rfl
theorem jW2:ixT prog 9=(some none):=by kernel_rfl
theorem jV2:knd prog 3=(some (false,0)):=by kernel_rfl
theorem jU2:knd prog 9=(some (false,0)):=by kernel_rfl
theorem iW1:knd prog 23=(some (false,0)):=by kernel_rfl
theorem iV1:knd prog 25=(some (true,4)):=by kernel_rfl
theorem iU1:knd prog 26=(some (false,0)):=by kernel_rfl
theorem iT1:knd prog 28=(some (true,9)):=by kernel_rfl
theorem iS1:knd prog 29=(some (false,0)):=by kernel_rfl
theorem iR1:knd prog 31=(some (true,4)):=by kernel_rfl
theorem iQ1:knd prog 33=(some (false,0)):=by kernel_rfl
theorem iP1:knd prog 35=(some (true,13)):=by kernel_rfl
theorem iO1:knd prog 38=(some (true,3)):=by kernel_rfl
theorem iN1:knd prog 50=(some (false,0)):=by kernel_rfl
theorem iM1:knd prog 58=(some (true,3)):=by kernel_rfl
theorem iL1:knd prog 64=(some (false,0)):=by kernel_rfl
theorem iK1:knd prog 74=(some (true,19)):=by kernel_rfl
theorem iJ1:knd prog 95=(some (true,3)):=by kernel_rfl
theorem gY1:knd prog 108=(some (true,3)):=by kernel_rfl
theorem gX1:knd prog 110=(some (true,5)):=by kernel_rfl
theorem jT2:lnT prog 9=(some true):=by kernel_rfl
theorem iI1:lnT prog 23=(some false):=by kernel_rfl
theorem iH1:lnT prog 26=(some false):=by kernel_rfl
theorem iG1:lnT prog 29=(some false):=by kernel_rfl
theorem iF1:lnT prog 33=(some false):=by kernel_rfl
theorem iE1:lnT prog 50=(some false):=by kernel_rfl
theorem iD1:mkT prog 23=(some (25,(4,(56,[(.int .i64 0),(.int .i64 0),(.string (Tx [])),(.slice none 0 0)])))):=by kernel_rfl
theorem iC1:mkT prog 26=(some (28,(9,(120,[(.int .i64 0),(.int .i64 0),(.int .i64 0),(.string (Tx [])),(.int .i64 0),(.int .i64 0),(.string (Tx [])),(.slice none 0 0),(.slice none 0 0)])))):=by kernel_rfl
theorem iB1:mkT prog 29=(some (3,(1,(8,[(.int .i64 0)])))):=by kernel_rfl
theorem iA1:mkT prog 33=(some (26,(1,(24,[(.slice none 0 0)])))):=by kernel_rfl
theorem fZ1:plc prog 28=(some ([(0,1),(1,1),(2,1),(3,1),(4,4),(8,1)],[(.int .i64 0),(.int .i64 0),(.int .i64 0),(.string (Tx [])),(.int .i64 0),(.int .i64 0),(.string (Tx [])),(.slice none 0 0),(.slice none 0 0)])):=by kernel_rfl
theorem fY1:plc prog 31=(some ([(0,1),(1,1),(2,1),(3,1)],[(.slice none 0 0),(.int .i64 0),(.slice none 0 0),(.int .i64 0)])):=by kernel_rfl
theorem fX1:plc prog 35=(some ([(0,9),(9,1),(10,1),(11,1),(12,1)],[(.int .i64 0),(.int .i64 0),(.int .i64 0),(.string (Tx [])),(.int .i64 0),(.int .i64 0),(.string (Tx [])),(.slice none 0 0),(.slice none 0 0),(.slice none 0 0),(.slice none 0 0),(.int .i64 0),(.int .i64 0)])):=by kernel_rfl
theorem fW1:plc prog 38=(some ([(0,1),(1,1),(2,1)],[(.string (Tx [])),(.int .i64 0),(.int .i64 0)])):=by kernel_rfl
theorem fV1:plc prog 58=(some ([(0,1),(1,1),(2,1)],[(.int .i64 0),(.slice none 0 0),(.int .i64 0)])):=by kernel_rfl
theorem fU1:plc prog 95=(some ([(0,1),(1,1),(2,1)],[(.int .i64 0),(.int .i64 0),(.int .i64 0)])):=by kernel_rfl
theorem gW1:slcT prog 26=(some (some (28,9))):=by kernel_rfl
theorem gV1:slcT prog 29=(some (some (3,1))):=by kernel_rfl
theorem jS2:szT prog 3=(some 1):=by kernel_rfl
theorem fT1:szT prog 23=(some 1):=by kernel_rfl
theorem fS1:szT prog 25=(some 4):=by kernel_rfl
theorem fR1:szT prog 26=(some 1):=by kernel_rfl
theorem fQ1:szT prog 28=(some 9):=by kernel_rfl
theorem fP1:szT prog 29=(some 1):=by kernel_rfl
theorem fO1:szT prog 31=(some 4):=by kernel_rfl
theorem fN1:szT prog 33=(some 1):=by kernel_rfl
theorem fM1:szT prog 35=(some 13):=by kernel_rfl
theorem fL1:szT prog 38=(some 3):=by kernel_rfl
theorem fK1:szT prog 50=(some 1):=by kernel_rfl
theorem fJ1:szT prog 58=(some 3):=by kernel_rfl
theorem fI1:szT prog 74=(some 19):=by kernel_rfl
theorem gU1:szT prog 108=(some 3):=by kernel_rfl
theorem gT1:szT prog 110=(some 5):=by kernel_rfl
theorem fH1:zro prog 25=(some [(.int .i64 0),(.int .i64 0),(.string (Tx [])),(.slice none 0 0)]):=by kernel_rfl
theorem fG1:zro prog 28=(some [(.int .i64 0),(.int .i64 0),(.int .i64 0),(.string (Tx [])),(.int .i64 0),(.int .i64 0),(.string (Tx [])),(.slice none 0 0),(.slice none 0 0)]):=by kernel_rfl
theorem fF1:zro prog 29=(some [(.slice none 0 0)]):=by kernel_rfl
theorem fE1:zro prog 31=(some [(.slice none 0 0),(.int .i64 0),(.slice none 0 0),(.int .i64 0)]):=by kernel_rfl
theorem fD1:zro prog 35=(some [(.int .i64 0),(.int .i64 0),(.int .i64 0),(.string (Tx [])),(.int .i64 0),(.int .i64 0),(.string (Tx [])),(.slice none 0 0),(.slice none 0 0),(.slice none 0 0),(.slice none 0 0),(.int .i64 0),(.int .i64 0)]):=by kernel_rfl
theorem fC1:zro prog 38=(some [(.string (Tx [])),(.int .i64 0),(.int .i64 0)]):=by kernel_rfl
theorem fB1:zro prog 50=(some [(.slice none 0 0)]):=by kernel_rfl
theorem fA1:zro prog 58=(some [(.int .i64 0),(.slice none 0 0),(.int .i64 0)]):=by kernel_rfl
theorem eZ1:zro prog 74=(some [(.int .i64 0),(.int .i64 0),(.int .i64 0),(.string (Tx [])),(.int .i64 0),(.int .i64 0),(.string (Tx [])),(.slice none 0 0),(.slice none 0 0),(.int .i64 0),(.int .i64 0),(.int .i64 0),(.string (Tx [])),(.int .i64 0),(.int .i64 0),(.string (Tx [])),(.slice none 0 0),(.slice none 0 0),(.slice none 0 0)]):=by kernel_rfl
theorem gS1:zro prog 108=(some [(.int .i64 0),(.int .i64 0),(.int .i64 0)]):=by kernel_rfl
theorem gR1:zro prog 110=(some [(.int .i64 0),(.int .i64 0),(.int .i64 0),(.int .i64 0),(.int .i64 0)]):=by kernel_rfl
attribute [push_cast] iQ0 iP0 iO0 bA0 lB1 lA1 iZ1 iY1 iX1 bB1 bA1 jJ1 jI1 jH1 jG1 jF1 jE1 jD1 jC1 jB1 jA1 tZ0 tY0 tX0 tW0 tV0 tU0 tT0 tS0 tR0 tQ0 tP0 tO0 tN0 tM0 tL0 tK0 tJ0 tI0 tH0 tG0 mU0 mT0 mS0 tF0 tE0 gZ1 jW2 jV2 jU2 iW1 iV1 iU1 iT1 iS1 iR1 iQ1 iP1 iO1 iN1 iM1 iL1 iK1 iJ1 gY1 gX1 jT2 iI1 iH1 iG1 iF1 iE1 iD1 iC1 iB1 iA1 fZ1 fY1 fX1 fW1 fV1 fU1 gW1 gV1 jS2 fT1 fS1 fR1 fQ1 fP1 fO1 fN1 fM1 fL1 fK1 fJ1 fI1 gU1 gT1 fH1 fG1 fF1 fE1 fD1 fC1 fB1 fA1 eZ1 gS1 gR1
abbrev NGG:Nat:=1
theorem dP1:prog.funcs.all (nV0 1)=true:=by kernel_rfl
theorem mixed:prog.follows .mixedOrders=true:=by kernel_rfl
theorem kQ1 (g:Nat) (fn:Func) (h:prog.funcs[g]?=some fn):nV0 1 fn=true:=by
 have:=dP1
 rw[Array.all_eq_true_iff_forall_mem] at this
 exact this fn (Array.mem_of_getElem? h)
@[reducible] noncomputable def pp (G:Nat×Nat):Par:=⟨prog,1,G.1,G.2,fun _=>0,fun _=>.empty⟩
theorem jX (G:Nat×Nat):uE0 (pp G):=⟨kQ1,mixed⟩
def LL:List (Nat×List Value):=[(0,[.int .i64 0,.int .i64 0,.int .i64 0,.int .i64 0,.int .i64 0,.int .i64 2,.int .i64 0,.int .i64 1,.int .i64 0,.int .i64 0,.int .i64 1,.int .i64 0,.int .i64 0,.int .i64 1,.int .i64 0,.int .i64 3,.int .i64 0,.int .i64 0,.int .i64 0,.int .i64 1,.int .i64 3,.int .i64 0,.int .i64 0,.int .i64 0,.int .i64 0,.int .i64 3,.int .i64 0,.int .i64 0,.int .i64 0,.int .i64 0,.int .i64 3,.int .i64 3,.int .i64 0,.int .i64 0,.int .i64 0,.int .i64 0,.int .i64 0,.int .i64 0,.int .i64 0,.int .i64 1,.int .i64 0,.int .i64 0,.int .i64 0,.int .i64 0,.int .i64 0,.int .i64 0,.int .i64 0,.int .i64 0,.int .i64 1,.int .i64 2,.int .i64 0,.int .i64 0,.int .i64 0,.int .i64 0,.int .i64 2,.int .i64 0,.int .i64 0,.int .i64 0,.int .i64 0,.int .i64 2,.int .i64 0,.int .i64 0,.int .i64 0,.int .i64 0,.int .i64 2,.int .i64 4,.int .i64 0,.int .i64 0,.int .i64 0,.int .i64 0,.int .i64 5,.int .i64 2,.int .i64 1,.int .i64 0,.int .i64 0])]
theorem LL_ok:okPl LL=true:=by kernel_rfl
def H0:jA:=fO0 1 LL
theorem lC1:H0.lo=1:=rfl
theorem kI:H0.next=1:=rfl
@[reducible] def qq:Q:=⟨fun _=>false,H0⟩
end
end Go.Proofs.YtdcjpmjmjinjmaaDoor
namespace Go.Proofs.YtdcjpmjmjinjmaaDoor
open _root_.Go.Proofs.Tryd (prog)
open Go Go.RowKit Go.Ev Go.Dv
noncomputable section
def lP (t:Nat) (v:Value) (h:jA) [x:WK]:Prop:=oP (ldD prog t v h) h kk
@[push_cast] theorem lP_e (t:Nat) (v:Value) (h:jA) (x:WK):@lP t v h x=oP (ldD prog t v h) h kk:=rfl
def fP (t:Nat) (i:Nat) (v:Value) (h:jA) [x:WK]:Prop:=oP (faD (fld prog t i) v) h kk
@[push_cast] theorem fP_e (t:Nat) (i:Nat) (v:Value) (h:jA) (x:WK):@fP t i v h x=oP (faD (fld prog t i) v) h kk:=rfl
def iP (t:Nat) (v:Value) (w:Value) (h:jA) [x:WK]:Prop:=oP (iaD (esz prog t) v w) h kk
@[push_cast] theorem iP_e (t:Nat) (v:Value) (w:Value) (h:jA) (x:WK):@iP t v w h x=oP (iaD (esz prog t) v w) h kk:=rfl
def nP (t:Nat) (v:Value) (h:jA) [x:WK]:Prop:=oP (lnD (lnT prog t) v) h kk
@[push_cast] theorem nP_e (t:Nat) (v:Value) (h:jA) (x:WK):@nP t v h x=oP (lnD (lnT prog t) v) h kk:=rfl
def bP (op:BinOp) (a:Nat) (c:Int) (v:Value) (h:jA) [x:WK]:Prop:=oP (jE prog op 3 (.tmp a) (.const (.int .i64 c)) v (.int .i64 c)) h kk
@[push_cast] theorem bP_e (op:BinOp) (a:Nat) (c:Int) (v:Value) (h:jA) (x:WK):@bP op a c v h x=oP (jE prog op 3 (.tmp a) (.const (.int .i64 c)) v (.int .i64 c)) h kk:=rfl
def b2 (op:BinOp) (a:Nat) (b:Nat) (v:Value) (w:Value) (h:jA) [x:WK]:Prop:=oP (jE prog op 3 (.tmp a) (.tmp b) v w) h kk
@[push_cast] theorem b2_e (op:BinOp) (a:Nat) (b:Nat) (v:Value) (w:Value) (h:jA) (x:WK):@b2 op a b v w h x=oP (jE prog op 3 (.tmp a) (.tmp b) v w) h kk:=rfl
def sP (v:Value) (h:jA) [x:WK]:Prop:=oP (some v) h kk
@[push_cast] theorem sP_e (v:Value) (h:jA) (x:WK):@sP v h x=oP (some v) h kk:=rfl
def uP (v:Value) (h:jA) [x:WK]:Prop:=oP (unV prog .not v) h kk
@[push_cast] theorem uP_e (v:Value) (h:jA) (x:WK):@uP v h x=oP (unV prog .not v) h kk:=rfl
def pP (v:Value) (w:Value) (r:Value) (h:jA) [x:WK]:Prop:=oP (uZ0 v w r) h kk
@[push_cast] theorem pP_e (v:Value) (w:Value) (r:Value) (h:jA) (x:WK):@pP v w r h x=oP (uZ0 v w r) h kk:=rfl
def lG (u:Value) (q:Bool) (t:Nat) (v:Value) (h:jA) [x:WK]:Prop:=gP u q (ldD prog t v h) h kk
@[push_cast] theorem lG_e (u:Value) (q:Bool) (t:Nat) (v:Value) (h:jA) (x:WK):@lG u q t v h x=gP u q (ldD prog t v h) h kk:=rfl
def fG (u:Value) (q:Bool) (t:Nat) (i:Nat) (v:Value) (h:jA) [x:WK]:Prop:=gP u q (faD (fld prog t i) v) h kk
@[push_cast] theorem fG_e (u:Value) (q:Bool) (t:Nat) (i:Nat) (v:Value) (h:jA) (x:WK):@fG u q t i v h x=gP u q (faD (fld prog t i) v) h kk:=rfl
def iG (u:Value) (q:Bool) (t:Nat) (v:Value) (w:Value) (h:jA) [x:WK]:Prop:=gP u q (iaD (esz prog t) v w) h kk
@[push_cast] theorem iG_e (u:Value) (q:Bool) (t:Nat) (v:Value) (w:Value) (h:jA) (x:WK):@iG u q t v w h x=gP u q (iaD (esz prog t) v w) h kk:=rfl
def nG (u:Value) (q:Bool) (t:Nat) (v:Value) (h:jA) [x:WK]:Prop:=gP u q (lnD (lnT prog t) v) h kk
@[push_cast] theorem nG_e (u:Value) (q:Bool) (t:Nat) (v:Value) (h:jA) (x:WK):@nG u q t v h x=gP u q (lnD (lnT prog t) v) h kk:=rfl
def bG (u:Value) (q:Bool) (op:BinOp) (a:Nat) (c:Int) (v:Value) (h:jA) [x:WK]:Prop:=gP u q (jE prog op 3 (.tmp a) (.const (.int .i64 c)) v (.int .i64 c)) h kk
@[push_cast] theorem bG_e (u:Value) (q:Bool) (op:BinOp) (a:Nat) (c:Int) (v:Value) (h:jA) (x:WK):@bG u q op a c v h x=gP u q (jE prog op 3 (.tmp a) (.const (.int .i64 c)) v (.int .i64 c)) h kk:=rfl
def c2 (u:Value) (q:Bool) (op:BinOp) (a:Nat) (b:Nat) (v:Value) (w:Value) (h:jA) [x:WK]:Prop:=gP u q (jE prog op 3 (.tmp a) (.tmp b) v w) h kk
@[push_cast] theorem c2_e (u:Value) (q:Bool) (op:BinOp) (a:Nat) (b:Nat) (v:Value) (w:Value) (h:jA) (x:WK):@c2 u q op a b v w h x=gP u q (jE prog op 3 (.tmp a) (.tmp b) v w) h kk:=rfl
def sG (u:Value) (q:Bool) (v:Value) (h:jA) [x:WK]:Prop:=gP u q (some v) h kk
@[push_cast] theorem sG_e (u:Value) (q:Bool) (v:Value) (h:jA) (x:WK):@sG u q v h x=gP u q (some v) h kk:=rfl
def oZ (t:Nat) (v:Value) (w:Value) (h:jA) [x:WK]:Prop:=oE (stD (szT prog t) v w h) kk
@[push_cast] theorem oZ_e (t:Nat) (v:Value) (w:Value) (h:jA) (x:WK):@oZ t v w h x=oE (stD (szT prog t) v w h) kk:=rfl
def eA (t:Nat) (h:jA) [x:WK]:Prop:=oE (alE (zro prog t) t h) kk
@[push_cast] theorem eA_e (t:Nat) (h:jA) (x:WK):@eA t h x=oE (alE (zro prog t) t h) kk:=rfl
def oY (t:Nat) (v:Value) (h:jA) [x:WK]:Prop:=oE (bxD t v h) kk
@[push_cast] theorem oY_e (t:Nat) (v:Value) (h:jA) (x:WK):@oY t v h x=oE (bxD t v h) kk:=rfl
def oX (v:Value) (i:Nat) (h:jA) [x:WK]:Prop:=oP (extV v i) h kk
@[push_cast] theorem oX_e (v:Value) (i:Nat) (h:jA) (x:WK):@oX v i h x=oP (extV v i) h kk:=rfl
def dP (t:Nat) (l:List (Nat×Value)) (h:jA) [x:WK]:Prop:=oP (bdV (plc prog t) l) h kk
@[push_cast] theorem dP_e (t:Nat) (l:List (Nat×Value)) (h:jA) (x:WK):@dP t l h x=oP (bdV (plc prog t) l) h kk:=rfl
def eL (t:Nat) (i:Nat) (l:List (Nat×Value)) (h:jA) [x:WK]:Prop:=oE (bsD (qq.m t) (slT prog t) i l h) kk
@[push_cast] theorem eL_e (t:Nat) (i:Nat) (l:List (Nat×Value)) (h:jA) (x:WK):@eL t i l h x=oE (bsD (qq.m t) (slT prog t) i l h) kk:=rfl
def cQ (G:Nat×Nat) (i:Nat) (m:List Value) (h:jA) [x:WK]:Prop:=jC (pp G) qq.H (.func (.func i) #[] #[]) m h (@kB ⟨fun _=>kk⟩)
@[push_cast] theorem cQ_e (G:Nat×Nat) (i:Nat) (m:List Value) (h:jA) (x:WK):@cQ G i m h x=jC (pp G) qq.H (.func (.func i) #[] #[]) m h (@kB ⟨fun _=>kk⟩):=rfl
def cG (G:Nat×Nat) (u:Value) (q:Bool) (i:Nat) (m:List Value) (h:jA) [x:WK]:Prop:=gCV (pp G) qq.H u q (.func (.func i) #[] #[]) m h (@kB ⟨fun _=>kk⟩)
@[push_cast] theorem cG_e (G:Nat×Nat) (u:Value) (q:Bool) (i:Nat) (m:List Value) (h:jA) (x:WK):@cG G u q i m h x=gCV (pp G) qq.H u q (.func (.func i) #[] #[]) m h (@kB ⟨fun _=>kk⟩):=rfl
def vQ (v:Value) [y:WB] [z:WB]:Prop:=uW0 v (@kb y) (@kb z)
@[push_cast] theorem vQ_e (v:Value) (y z:WB):@vQ v y z=uW0 v (@kb y) (@kb z):=rfl
def tK [y:WB]:Prop:=jR True kb
@[push_cast] theorem tK_e (y:WB):@tK y=jR True kb:=rfl
end
end Go.Proofs.YtdcjpmjmjinjmaaDoor
