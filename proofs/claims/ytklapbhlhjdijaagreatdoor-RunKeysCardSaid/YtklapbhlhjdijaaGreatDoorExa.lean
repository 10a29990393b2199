/-
  A part of the proof: conditions over an abstract memory,and that they are enough for what the model's calls do. No condition of its own.
-/
import Derived.Test.YtklapbhlhjdijaaGreatDoorEve
import Derived.Test.YtklapbhlhjdijaaGreatDoorProg
import Derived.KernelRfl
set_option linter.unusedSimpArgs false
set_option linter.unusedVariables false
set_option maxRecDepth 100000
namespace Go.Proofs.YtklapbhlhjdijaaGreatDoor
open _root_.Go.Proofs.Tryz (prog)
open Go.RowKit Go.Ev Go.Dv
noncomputable section
theorem Z7 {p:Prop}(h:p:=by kernel_rfl):p:=h
abbrev tt (n:Nat):Zo:=.tmp n
abbrev ci (n:Int):Zo:=.const (.int .i64 n)
abbrev Iq (d:Nat)(o:Go.Op)(t:Zt):It:=⟨some d,none,.take,o,t⟩
abbrev Im (d s t:Nat):It:=Iq d (.move (.tmp s)) t
abbrev Ia (d s t:Nat):It:=Iq d (.assign (.tmp s)) t
abbrev Il (d e s t:Nat):It:=Iq d (.load e (.tmp s)) t
abbrev If (d e s f t:Nat):It:=Iq d (.fieldAddr e (.tmp s) f) t
abbrev Is (e a b t:Nat):It:=⟨none,none,.eff,.store e (.tmp a) (.tmp b),t⟩
abbrev Ig (d g:Nat)(w:Zb)(o:Go.Op)(t:Zt):It:=⟨some d,some (g,w),.take,o,t⟩
abbrev Ie (d:Nat)(o:Go.Op)(t:Zt):It:=⟨some d,none,.eff,o,t⟩
abbrev Ic (d f:Nat)(a:Array Zo)(b:Array Zt)(t:Zt):It:=⟨some d,none,.call,.call ⟨.value (.func f),a,b⟩,t⟩
def so (l:List It)(b:IR):IR:=.seq (.ops l) b
abbrev ud:Z6:=undef
abbrev lf (v:Z6):VTr:=.node .nil v .nil
abbrev nd (l:VTr)(v:Z6)(r:VTr):VTr:=.node l v r
noncomputable def irB (P:Z9)(g:Nat):IR:=match fir P g with|some f=>f.4|none=>.skip
noncomputable def pk:List Nat→IR→IR
 | [],x=>x
 | i :: p,.seq a b=>pk p (match i with | 0=>a | _=>b)
 | i :: p,.cond _ a b=>pk p (match i with | 0=>a | _=>b)
 | _ :: p,.block _ b=>pk p b
 | _ :: p,.loop b=>pk p b
 | _ :: _,x=>x
def mH2:IR:=pk [1,1,1,1,1,1,0,1,0,0,1,1] (irB prog 4)
def mK2:IR:=pk [1,1,1,1,1,1,1] (irB prog 4)
def mJ2:IR:=pk [1,1,1,1,1,1,0,1,0,0,1,0,0,1,0,1,0,0] (irB prog 4)
def oH1:IR:=pk [1,1,1,1,1,1,0,1,0,0,1,0,0,1,1,1] (irB prog 4)
def mI2:IR:=pk [1,1,1,1,1,1,0,1,0,0,1,0,0,1,1] (irB prog 4)
def mL2:IR:=pk [1,1,1,1,1,1,0,1,0,0] (irB prog 4)
def ir4:IR:=irB prog 4
theorem fir4:fir prog 4=some ⟨116,2,[(.tmp 4)],ir4⟩:=Z7
def ir11:IR:=irB prog 11
theorem fir11:fir prog 11=some ⟨79,0,[(.tmp 0)],ir11⟩:=Z7
def pP1:IR:=pk [1,1,1] (irB prog 12)
def pQ1:IR:=pk [1,1,0,1,0,0] (irB prog 12)
def ir12:IR:=irB prog 12
theorem fir12:fir prog 12=some ⟨28,1,[(.tmp 2)],ir12⟩:=Z7
def pN1:IR:=pk [1,1,0,1,0,1,1] (irB prog 13)
def pM1:IR:=pk [1,1,1] (irB prog 13)
def pO1:IR:=pk [1,1,0,1,0,1,0,1,0,0] (irB prog 13)
def ir13:IR:=irB prog 13
theorem fir13:fir prog 13=some ⟨50,1,[(.cell 2 28)],ir13⟩:=Z7
def pK1:IR:=pk [1,1,1] (irB prog 14)
def pL1:IR:=pk [1,1,0,1,0,0] (irB prog 14)
def ir14:IR:=irB prog 14
theorem fir14:fir prog 14=some ⟨66,1,[(.tmp 2)],ir14⟩:=Z7
def ir16:IR:=irB prog 16
theorem fir16:fir prog 16=some ⟨15,2,[(.tmp 4)],ir16⟩:=Z7
def ir18:IR:=irB prog 18
theorem eF3:fir prog 18=some ⟨21,1,[(.cell 2 42)],ir18⟩:=Z7
def pI1:IR:=pk [1,1,1,1] (irB prog 19)
def pJ1:IR:=pk [1,1,1,0,1,0,0] (irB prog 19)
def ir19:IR:=irB prog 19
theorem fir19:fir prog 19=some ⟨26,1,[(.tmp 2)],ir19⟩:=Z7
def ir20:IR:=irB prog 20
theorem rE1:fir prog 20=some ⟨79,3,[(.cell 6 42),(.cell 7 46),(.tmp 8),(.tmp 9)],ir20⟩:=Z7
def cD0:IR:=pk [1,1,1,1] (irB prog 21)
def ir21:IR:=irB prog 21
theorem jM3:fir prog 21=some ⟨73,4,[(.cell 8 42),(.cell 9 46),(.tmp 10)],ir21⟩:=Z7
def uM1:IR:=(.ops [⟨some 11,none,.take,(.assign (.tmp 30)),98⟩])
theorem zA1:comp prog (dH prog 21 0)=uM1:=Z7
def uL1:IR:=(.block 1 (.seq (.seq (.plan (.take 0 false ⟨some 31,none,.take,(.move (.tmp 11)),98⟩ (.take 1 false ⟨some 32,none,.take,(.nilCheck (.tmp 31)),0⟩ (.take 2 false ⟨some 33,none,.take,(.fieldAddr 34 (.tmp 32) 0),0⟩ (.take 3 true ⟨some 34,none,.take,(.load 3 (.tmp 33)),3⟩ (.take 4 false ⟨some 35,none,.take,(.binOp .neq 3 (.tmp 34) (.const (.int .i64 14)) 3),4⟩ (.take 5 false ⟨some 36,none,.take,(.move (.tmp 35)),4⟩ (.take 6 false ⟨some 37,(some (36,false)),.take,(.move (.tmp 11)),98⟩ (.take 7 false ⟨some 38,(some (36,false)),.take,(.nilCheck (.tmp 37)),0⟩ (.take 8 false ⟨some 39,(some (36,false)),.take,(.fieldAddr 34 (.tmp 38) 1),0⟩ (.take 9 true ⟨some 40,(some (36,false)),.take,(.load 3 (.tmp 39)),3⟩ (.take 10 true ⟨some 41,(some (36,false)),.take,(.load 3 (.tmp 6)),3⟩ (.take 11 false ⟨some 42,(some (36,false)),.take,(.binOp .neq 3 (.tmp 40) (.tmp 41) 3),4⟩ (.take 12 false ⟨some 43,none,.take,(.pick (.tmp 36) (.const (.bool true)) (.tmp 42)),4⟩ .fin)))))))))))))) (.cond (.tmp 43) (.exit 1) .skip)) (.seq (.plan (.take 0 false ⟨some 44,none,.take,(.move (.tmp 11)),98⟩ (.take 1 false ⟨some 45,none,.take,(.nilCheck (.tmp 44)),0⟩ (.take 2 false ⟨some 46,none,.take,(.fieldAddr 34 (.tmp 45) 3),0⟩ (.take 3 true ⟨some 47,none,.take,(.load 9 (.tmp 46)),9⟩ (.take 4 true ⟨some 48,none,.take,(.load 3 (.tmp 6)),3⟩ (.take 5 true ⟨some 49,none,.take,(.load 3 (.tmp 7)),3⟩ (.take 6 false ⟨some 50,none,.take,(.build 46 #[(0,(.tmp 47)),(1,(.tmp 48)),(2,(.tmp 49))]),46⟩ (.eff 7 ⟨none,none,.eff,(.store 46 (.tmp 9) (.tmp 50)),0⟩ [5,4,0,1,2,3,6] .fin .no))))))))) (.seq (.seq (.ops [⟨some 51,none,.take,(.move (.tmp 11)),98⟩,⟨some 52,none,.take,(.nilCheck (.tmp 51)),0⟩,⟨some 53,none,.take,(.fieldAddr 34 (.tmp 52) 2),0⟩,⟨some 54,none,.take,(.load 3 (.tmp 53)),3⟩,⟨some 55,none,.take,(.binOp .geq 3 (.tmp 54) (.const (.int .i64 0)) 3),4⟩]) (.cond (.tmp 55) (.plan (.take 0 false ⟨some 56,none,.take,(.fieldAddr 42 (.tmp 8) 1),0⟩ (.take 1 true ⟨some 57,none,.take,(.load 25 (.tmp 56)),25⟩ (.take 2 false ⟨some 58,none,.take,(.move (.tmp 11)),98⟩ (.take 3 false ⟨some 59,none,.take,(.nilCheck (.tmp 58)),0⟩ (.take 4 false ⟨some 60,none,.take,(.fieldAddr 34 (.tmp 59) 2),0⟩ (.take 5 true ⟨some 61,none,.take,(.load 3 (.tmp 60)),3⟩ (.take 6 true ⟨some 62,none,.take,(.load 3 (.tmp 7)),3⟩ (.take 7 false ⟨some 63,none,.take,(.indexAddr 25 (.tmp 57) (.tmp 61)),0⟩ (.eff 8 ⟨none,none,.eff,(.store 3 (.tmp 63) (.tmp 62)),0⟩ [6,2,3,4,5,0,1,7] .fin .no)))))))))) .skip)) (.seq (.ops [⟨some 64,none,.take,(.move (.tmp 11)),98⟩,⟨some 65,none,.take,(.build 34 #[]),34⟩,⟨some 66,none,.take,(.nilCheck (.tmp 64)),0⟩,⟨none,none,.eff,(.store 34 (.tmp 66) (.tmp 65)),0⟩]) (.exit 0))))))
theorem wZ1:comp prog (dH prog 21 1)=uL1:=Z7
def pG1:IR:=pk [1,1,1,1] (irB prog 29)
def pH1:IR:=pk [1,1,1,0,1,0,0] (irB prog 29)
def ir29:IR:=irB prog 29
theorem fir29:fir prog 29=some ⟨37,2,[(.tmp 4)],ir29⟩:=Z7
def sV0:IR:=pk [1,1,1,1,1,1,0,1,0,0] (irB prog 30)
def pE1:IR:=pk [1,1,1,1,1,1,1,1] (irB prog 30)
def pF1:IR:=pk [1,1,1,1,1,1,1,0,1,0,0] (irB prog 30)
def sU0:IR:=pk [1,1,1,1,1,1,1] (irB prog 30)
def ir30:IR:=irB prog 30
theorem fir30:fir prog 30=some ⟨110,1,[(.cell 2 28),(.tmp 3)],ir30⟩:=Z7
def pA1:IR:=pk [1,1,1,1] (irB prog 31)
def oY1:IR:=pk [1,1,1,0,1,0,0,1,1] (irB prog 31)
def oZ1:IR:=pk [1,1,1,0,1,0,0,1,0,0,1,1] (irB prog 31)
def pD1:IR:=pk [1,1,0,1,0,0] (irB prog 31)
def pB1:IR:=pk [1,1,1,0,1,0,0] (irB prog 31)
def pC1:IR:=pk [1,1,1] (irB prog 31)
def ir31:IR:=irB prog 31
theorem fir31:fir prog 31=some ⟨58,1,[(.cell 2 76)],ir31⟩:=Z7
def ir32:IR:=irB prog 32
theorem fir32:fir prog 32=some ⟨15,4,[(.tmp 8)],ir32⟩:=Z7
def ir33:IR:=irB prog 33
theorem fir33:fir prog 33=some ⟨11,1,[(.tmp 2)],ir33⟩:=Z7
def oW1:IR:=pk [1,1,1] (irB prog 34)
def oX1:IR:=pk [1,1,0,1,0,0] (irB prog 34)
def ir34:IR:=irB prog 34
theorem fir34:fir prog 34=some ⟨19,1,[(.tmp 2)],ir34⟩:=Z7
def sS0:IR:=pk [1,1] (irB prog 39)
def sT0:IR:=pk [1,0,0,1,1,1,0,1] (irB prog 39)
def ir39:IR:=irB prog 39
theorem nU0:fir prog 39=some ⟨98,1,[(.cell 2 34)],ir39⟩:=Z7
def ir40:IR:=irB prog 40
theorem fir40:fir prog 40=some ⟨5,1,[(.tmp 2)],ir40⟩:=Z7
def oU1:IR:=pk [1,1] (irB prog 41)
def oV1:IR:=pk [1,0,1,0,1] (irB prog 41)
def ir41:IR:=irB prog 41
theorem fir41:fir prog 41=some ⟨10,1,[(.tmp 2)],ir41⟩:=Z7
def oQ1:IR:=(so [Il 39 53 3 53,Ia 2 39 53] .ret)
def sR0:IR:=(.plan (.take 0 true (Il 34 53 3 53) (.take 1 true (Il 35 141 4 141) (.eff 2 (Ic 36 83 #[(tt 35),(ci 0)] #[141,3] 62) [1] (.eff 3 (Ie 37 (.buildSlice 53 1 #[(0,(tt 36))]) 53) [1,2] (.eff 4 (Ie 38 (.call ⟨(.builtin .append),#[(tt 34),(tt 37)],#[53,53]⟩) 53) [1,2,3,0] (.eff 5 (Is 53 3 38 0) [1,2,3,0,4] .fin .no) .no) .no) .no))))
def oP1:IR:=(.cond (tt 12) (.exit 1) (so [(Iq 19 (.binOp .eql 3 (tt 11) (ci 8) 3) 4),Ia 18 19 4] (.cond (tt 18) (so [If 20 141 4 1 0,Il 21 34 20 34,(Ic 22 48 #[(tt 21)] #[34] 25),(Iq 23 (.call ⟨(.builtin .len),#[(tt 22)],#[25]⟩) 3),(Iq 24 (.binOp .gtr 3 (tt 23) (ci 0) 3) 4)] (.cond (tt 24) (.exit 1) .skip)) (so [(Iq 26 (.binOp .eql 3 (tt 11) (ci 10) 3) 4),Ia 25 26 4] (.cond (tt 25) (.seq (.plan (.take 0 true (Il 27 53 3 53) (.take 1 true (Il 28 141 4 141) (.take 3 true (Il 30 141 4 141) (.eff 2 (Ic 29 83 #[(tt 28),(ci 0)] #[141,3] 62) [1] (.eff 4 (Ic 31 83 #[(tt 30),(ci 1)] #[141,3] 62) [1,2,3] (.eff 5 (Ie 32 (.buildSlice 53 2 #[(0,(tt 29)),(1,(tt 31))]) 53) [3,4,1,2] (.eff 6 (Ie 33 (.call ⟨(.builtin .append),#[(tt 27),(tt 32)],#[53,53]⟩) 53) [3,4,1,2,5,0] (.eff 7 (Is 53 3 33 0) [3,4,1,2,5,0,6] .fin .no) .no) .no) .no) .no))))) (.exit 1)) .skip)))))
def ir42:IR:=irB prog 42
theorem fir42:fir prog 42=some ⟨40,1,[(.tmp 2)],ir42⟩:=Z7
def oT1:IR:=(.seq (.ops [⟨some 3,none,.eff,(.alloc 53),0⟩]) (.seq (.label 0) (.seq (.seq (.ops [⟨some 5,none,.take,(.load 34 (.tmp 1)),34⟩,⟨some 6,none,.call,(.call ⟨(.value (.func 39)),#[(.tmp 5)],#[34]⟩),34⟩,⟨some 7,none,.call,(.call ⟨(.value (.func 82)),#[(.tmp 6)],#[34]⟩),138⟩]) (.block 0 (.range (.tmp 7) #[8] (dH prog 42 1) (dH prog 42 2)))) (.seq (.ops [⟨some 39,none,.take,(.load 53 (.tmp 3)),53⟩,⟨some 2,none,.take,(.assign (.tmp 39)),53⟩]) .ret))))
theorem cX2:comp prog (dH prog 42 0)=oT1:=Z7
def oS1:IR:=(.ops [⟨some 4,none,.eff,(.alloc 141),0⟩,⟨none,none,.eff,(.store 141 (.tmp 4) (.tmp 8)),0⟩])
theorem cW2:comp prog (dH prog 42 1)=oS1:=Z7
def oR1:IR:=(.block 1 (.seq (.seq (.ops [⟨some 9,none,.take,(.fieldAddr 141 (.tmp 4) 0),0⟩,⟨some 10,none,.take,(.fieldAddr 34 (.tmp 9) 0),0⟩,⟨some 11,none,.take,(.load 3 (.tmp 10)),3⟩]) (.block 2 (.seq (.seq (.ops [⟨some 13,none,.take,(.binOp .eql 3 (.tmp 11) (.const (.int .i64 0)) 3),4⟩,⟨some 12,none,.take,(.assign (.tmp 13)),4⟩]) (.cond (.tmp 12) .skip (.seq (.ops [⟨some 14,none,.take,(.binOp .eql 3 (.tmp 11) (.const (.int .i64 14)) 3),4⟩,⟨some 12,none,.take,(.assign (.tmp 14)),4⟩]) (.cond (.tmp 12) .skip (.seq (.ops [⟨some 15,none,.take,(.binOp .eql 3 (.tmp 11) (.const (.int .i64 12)) 3),4⟩,⟨some 12,none,.take,(.assign (.tmp 15)),4⟩]) (.cond (.tmp 12) .skip (.seq (.ops [⟨some 16,none,.take,(.binOp .eql 3 (.tmp 11) (.const (.int .i64 11)) 3),4⟩,⟨some 12,none,.take,(.assign (.tmp 16)),4⟩]) (.cond (.tmp 12) .skip (.ops [⟨some 17,none,.take,(.binOp .eql 3 (.tmp 11) (.const (.int .i64 7)) 3),4⟩,⟨some 12,none,.take,(.assign (.tmp 17)),4⟩]))))))))) (.cond (.tmp 12) (.exit 1) (.seq (.ops [⟨some 19,none,.take,(.binOp .eql 3 (.tmp 11) (.const (.int .i64 8)) 3),4⟩,⟨some 18,none,.take,(.assign (.tmp 19)),4⟩]) (.cond (.tmp 18) (.seq (.ops [⟨some 20,none,.take,(.fieldAddr 141 (.tmp 4) 1),0⟩,⟨some 21,none,.take,(.load 34 (.tmp 20)),34⟩,⟨some 22,none,.call,(.call ⟨(.value (.func 48)),#[(.tmp 21)],#[34]⟩),25⟩,⟨some 23,none,.take,(.call ⟨(.builtin .len),#[(.tmp 22)],#[25]⟩),3⟩,⟨some 24,none,.take,(.binOp .gtr 3 (.tmp 23) (.const (.int .i64 0)) 3),4⟩]) (.cond (.tmp 24) (.exit 1) .skip)) (.seq (.ops [⟨some 26,none,.take,(.binOp .eql 3 (.tmp 11) (.const (.int .i64 10)) 3),4⟩,⟨some 25,none,.take,(.assign (.tmp 26)),4⟩]) (.cond (.tmp 25) (.seq (.plan (.take 0 true ⟨some 27,none,.take,(.load 53 (.tmp 3)),53⟩ (.take 1 true ⟨some 28,none,.take,(.load 141 (.tmp 4)),141⟩ (.take 3 true ⟨some 30,none,.take,(.load 141 (.tmp 4)),141⟩ (.eff 2 ⟨some 29,none,.call,(.call ⟨(.value (.func 83)),#[(.tmp 28),(.const (.int .i64 0))],#[141,3]⟩),62⟩ [1] (.eff 4 ⟨some 31,none,.call,(.call ⟨(.value (.func 83)),#[(.tmp 30),(.const (.int .i64 1))],#[141,3]⟩),62⟩ [1,2,3] (.eff 5 ⟨some 32,none,.eff,(.buildSlice 53 2 #[(0,(.tmp 29)),(1,(.tmp 31))]),53⟩ [3,4,1,2] (.eff 6 ⟨some 33,none,.eff,(.call ⟨(.builtin .append),#[(.tmp 27),(.tmp 32)],#[53,53]⟩),53⟩ [3,4,1,2,5,0] (.eff 7 ⟨none,none,.eff,(.store 53 (.tmp 3) (.tmp 33)),0⟩ [3,4,1,2,5,0,6] .fin .no) .no) .no) .no) .no))))) (.exit 1)) .skip)))))))) (.plan (.take 0 true ⟨some 34,none,.take,(.load 53 (.tmp 3)),53⟩ (.take 1 true ⟨some 35,none,.take,(.load 141 (.tmp 4)),141⟩ (.eff 2 ⟨some 36,none,.call,(.call ⟨(.value (.func 83)),#[(.tmp 35),(.const (.int .i64 0))],#[141,3]⟩),62⟩ [1] (.eff 3 ⟨some 37,none,.eff,(.buildSlice 53 1 #[(0,(.tmp 36))]),53⟩ [1,2] (.eff 4 ⟨some 38,none,.eff,(.call ⟨(.builtin .append),#[(.tmp 34),(.tmp 37)],#[53,53]⟩),53⟩ [1,2,3,0] (.eff 5 ⟨none,none,.eff,(.store 53 (.tmp 3) (.tmp 38)),0⟩ [1,2,3,0,4] .fin .no) .no) .no) .no))))))
theorem cV2:comp prog (dH prog 42 2)=oR1:=Z7
def ir43:IR:=irB prog 43
theorem fir43:fir prog 43=some ⟨33,2,[(.tmp 4)],ir43⟩:=Z7
def ir44:IR:=irB prog 44
theorem fir44:fir prog 44=some ⟨16,1,[(.cell 2 42)],ir44⟩:=Z7
def ir45:IR:=irB prog 45
theorem fir45:fir prog 45=some ⟨173,3,[(.cell 6 46),(.tmp 7)],ir45⟩:=Z7
def oN1:IR:=pk [1,1,1] (irB prog 46)
def oL1:IR:=pk [1,1,0,1,0,0,1,1,1] (irB prog 46)
def oM1:IR:=pk [1,1,0,1,0,0,1,1,0,0,1,1,0,0] (irB prog 46)
def oO1:IR:=pk [1,1,0,1,0,0] (irB prog 46)
def ir46:IR:=irB prog 46
theorem fir46:fir prog 46=some ⟨27,1,[(.tmp 2)],ir46⟩:=Z7
def ir47:IR:=irB prog 47
theorem fir47:fir prog 47=some ⟨9,2,[(.tmp 4)],ir47⟩:=Z7
def oI1:IR:=pk [1,1,1] (irB prog 48)
def ir48:IR:=irB prog 48
theorem fir48:fir prog 48=some ⟨17,1,[(.tmp 2)],ir48⟩:=Z7
def oK1:IR:=(.ops [⟨some 4,none,.eff,(.alloc 34),0⟩,⟨none,none,.eff,(.store 34 (.tmp 4) (.tmp 7)),0⟩])
theorem cU2:comp prog (dH prog 48 0)=oK1:=Z7
def oJ1:IR:=(.block 1 (.seq (.ops [⟨some 8,none,.take,(.fieldAddr 34 (.tmp 4) 0),0⟩,⟨some 9,none,.take,(.load 3 (.tmp 8)),3⟩,⟨some 10,none,.take,(.binOp .eql 3 (.tmp 9) (.const (.int .i64 14)) 3),4⟩]) (.cond (.tmp 10) (.ops [⟨some 11,none,.take,(.load 25 (.tmp 3)),25⟩,⟨some 12,none,.take,(.fieldAddr 34 (.tmp 4) 1),0⟩,⟨some 13,none,.take,(.load 3 (.tmp 12)),3⟩,⟨some 14,none,.eff,(.buildSlice 25 1 #[(0,(.tmp 13))]),25⟩,⟨some 15,none,.eff,(.call ⟨(.builtin .append),#[(.tmp 11),(.tmp 14)],#[25,25]⟩),25⟩,⟨none,none,.eff,(.store 25 (.tmp 3) (.tmp 15)),0⟩]) .skip)))
theorem cT2:comp prog (dH prog 48 1)=oJ1:=Z7
def ir49:IR:=irB prog 49
theorem fir49:fir prog 49=some ⟨4,1,[(.tmp 2)],ir49⟩:=Z7
def ir60:IR:=irB prog 60
theorem fir60:fir prog 60=some ⟨6,1,[(.tmp 2)],ir60⟩:=Z7
def oD1:IR:=pk [1,1,1,1] (irB prog 61)
def oG1:IR:=pk [1,1,0,1,0,0] (irB prog 61)
def oE1:IR:=pk [1,1,1,0,1,0,0] (irB prog 61)
def oF1:IR:=pk [1,1,1] (irB prog 61)
def ir61:IR:=irB prog 61
theorem fir61:fir prog 61=some ⟨42,1,[(.tmp 2),(.tmp 3)],ir61⟩:=Z7
def oB1:IR:=pk [1,1] (irB prog 62)
def oC1:IR:=pk [1,0,1,0,0] (irB prog 62)
def ir62:IR:=irB prog 62
theorem fir62:fir prog 62=some ⟨18,1,[(.tmp 2)],ir62⟩:=Z7
def nZ1:IR:=pk [1,1] (irB prog 63)
def oA1:IR:=pk [1,0,1,0,0] (irB prog 63)
def ir63:IR:=irB prog 63
theorem fir63:fir prog 63=some ⟨19,2,[(.tmp 4)],ir63⟩:=Z7
def nX1:IR:=pk [1,1,1,1] (irB prog 64)
def nY1:IR:=pk [1,1,1,0,1,0,0] (irB prog 64)
def iN0:IR:=pk [1,1,1] (irB prog 64)
def sQ0:IR:=pk [1,1,0,1,0,1,1,1,1,1] (irB prog 64)
def ir64:IR:=irB prog 64
theorem fir64:fir prog 64=some ⟨117,2,[(.cell 4 34)],ir64⟩:=Z7
def nR1:IR:=pk [1,1,1,1,1] (irB prog 65)
def nT1:IR:=pk [1,1,1,0,1,0,0,1,1] (irB prog 65)
def nP1:IR:=pk [1,1,1,0,1,0,0,1,0,0,1,0,0,1,1] (irB prog 65)
def nS1:IR:=pk [1,1,1,1,0,1,0,0] (irB prog 65)
def nV1:IR:=pk [1,1,1,1] (irB prog 65)
def nQ1:IR:=pk [1,1,1,0,1,0,0,1,0,0,1,0,0,1,0,0,1,0,0] (irB prog 65)
def nU1:IR:=pk [1,1,1,0,1,0,0,1,0,0,1,0,0] (irB prog 65)
def nW1:IR:=pk [1,1,1,0,1,0,0] (irB prog 65)
def ir65:IR:=irB prog 65
theorem fir65:fir prog 65=some ⟨71,1,[(.tmp 2)],ir65⟩:=Z7
def ir66:IR:=irB prog 66
theorem fir66:fir prog 66=some ⟨2,0,[(.tmp 0)],ir66⟩:=Z7
def ir67:IR:=irB prog 67
theorem fir67:fir prog 67=some ⟨2,0,[(.tmp 0)],ir67⟩:=Z7
def ir68:IR:=irB prog 68
theorem fir68:fir prog 68=some ⟨15,2,[(.tmp 4)],ir68⟩:=Z7
def ir69:IR:=irB prog 69
theorem fir69:fir prog 69=some ⟨2,0,[(.tmp 0)],ir69⟩:=Z7
def sO0:IR:=pk [1,1,1,1] (irB prog 70)
def nM1:IR:=pk [1,1,1,0,1,0,1,1,1,1,1,1,1,1,1,1,1,1,1,1,1,1,1,1,1,1,1,1,1] (irB prog 70)
def nN1:IR:=pk [1,1,1,0,1,0,1,1,1,1,1,1,1] (irB prog 70)
def nO1:IR:=pk [1,1,1,0,1,0,1,1,1] (irB prog 70)
def sP0:IR:=pk [1,1,1,0,1,0,1] (irB prog 70)
def ir70:IR:=irB prog 70
theorem fir70:fir prog 70=some ⟨133,2,[(.cell 4 80)],ir70⟩:=Z7
def sM0:IR:=pk [1,1,1,1,1] (irB prog 71)
def sN0:IR:=pk [1,1,1,1,0,1,0,0] (irB prog 71)
def ir71:IR:=irB prog 71
theorem fir71:fir prog 71=some ⟨94,3,[(.tmp 6)],ir71⟩:=Z7
def ir72:IR:=irB prog 72
theorem fir72:fir prog 72=some ⟨9,2,[(.tmp 4)],ir72⟩:=Z7
def ir78:IR:=irB prog 78
theorem eE3:fir prog 78=some ⟨12,2,[(.cell 4 34)],ir78⟩:=Z7
def ir79:IR:=irB prog 79
theorem fir79:fir prog 79=some ⟨12,1,[(.cell 2 34)],ir79⟩:=Z7
def nK1:IR:=pk [1,1,1,1] (irB prog 80)
def nL1:IR:=pk [1,1,1,0,1,0,0] (irB prog 80)
def ir80:IR:=irB prog 80
theorem fir80:fir prog 80=some ⟨29,2,[(.tmp 4)],ir80⟩:=Z7
def ir81:IR:=irB prog 81
theorem fir81:fir prog 81=some ⟨4,1,[(.tmp 2)],ir81⟩:=Z7
def ir82:IR:=irB prog 82
theorem fir82:fir prog 82=some ⟨4,1,[(.tmp 2)],ir82⟩:=Z7
def ir83:IR:=irB prog 83
theorem fir83:fir prog 83=some ⟨13,2,[(.cell 4 62)],ir83⟩:=Z7
def ir84:IR:=irB prog 84
theorem fir84:fir prog 84=some ⟨5,1,[(.tmp 2)],ir84⟩:=Z7
def iM0:IR:=(.seq (so [Im 14 1 25,(Iq 15 (.call ⟨(.builtin .len),#[(tt 14)],#[25]⟩) 3),(Iq 16 (.binOp .eql 3 (tt 15) (ci 0) 3) 4)] (.cond (tt 16) (so [Im 17 4 98,Im 18 5 98,Ia 4 17 98,Ia 5 18 98] .ret) .skip)) (.seq (.plan (.take 0 false (Im 19 4 98) (.take 1 false (Iq 20 (.nilCheck (tt 19)) 0) (.take 2 false (If 21 34 20 5 0) (.take 3 true (Il 22 26 21 26) (.take 4 false (Im 23 1 25) (.take 5 false (Iq 24 (.indexAddr 25 (tt 23) (ci 0)) 0) (.take 6 true (Il 25 3 24 3) (.take 7 false (Iq 26 (.indexAddr 26 (tt 22) (tt 25)) 0) (.take 8 false (Im 27 1 25) (.take 9 true (Iq 28 (.slice 25 (tt 27) (some (ci 1)) none none) 25) (.take 10 false (Ia 4 26 98) (.take 11 false (Ia 1 28 25) .fin))))))))))))) (.goto 0)))
def ir85:IR:=irB prog 85
theorem fir85:fir prog 85=some ⟨29,2,[(.tmp 4),(.tmp 5)],ir85⟩:=Z7
def mG2:IR:=(.seq (.ops [⟨some 6,none,.take,(.move (.tmp 0)),98⟩,⟨some 7,none,.take,(.move (.tmp 0)),98⟩,⟨some 4,none,.take,(.assign (.tmp 6)),98⟩,⟨some 5,none,.take,(.assign (.tmp 7)),98⟩]) (.seq (.label 0) (.seq (.seq (.ops [⟨some 8,none,.take,(.move (.tmp 4)),98⟩,⟨some 9,none,.take,(.nilCheck (.tmp 8)),0⟩,⟨some 10,none,.take,(.fieldAddr 34 (.tmp 9) 0),0⟩,⟨some 11,none,.take,(.load 3 (.tmp 10)),3⟩,⟨some 12,none,.take,(.binOp .eql 3 (.tmp 11) (.const (.int .i64 7)) 3),4⟩]) (.cond (.tmp 12) (.ops [⟨some 13,none,.take,(.move (.tmp 4)),98⟩,⟨some 5,none,.take,(.assign (.tmp 13)),98⟩]) .skip)) (.seq (.seq (.ops [⟨some 14,none,.take,(.move (.tmp 1)),25⟩,⟨some 15,none,.take,(.call ⟨(.builtin .len),#[(.tmp 14)],#[25]⟩),3⟩,⟨some 16,none,.take,(.binOp .eql 3 (.tmp 15) (.const (.int .i64 0)) 3),4⟩]) (.cond (.tmp 16) (.seq (.ops [⟨some 17,none,.take,(.move (.tmp 4)),98⟩,⟨some 18,none,.take,(.move (.tmp 5)),98⟩,⟨some 4,none,.take,(.assign (.tmp 17)),98⟩,⟨some 5,none,.take,(.assign (.tmp 18)),98⟩]) .ret) .skip)) (.seq (.plan (.take 0 false ⟨some 19,none,.take,(.move (.tmp 4)),98⟩ (.take 1 false ⟨some 20,none,.take,(.nilCheck (.tmp 19)),0⟩ (.take 2 false ⟨some 21,none,.take,(.fieldAddr 34 (.tmp 20) 5),0⟩ (.take 3 true ⟨some 22,none,.take,(.load 26 (.tmp 21)),26⟩ (.take 4 false ⟨some 23,none,.take,(.move (.tmp 1)),25⟩ (.take 5 false ⟨some 24,none,.take,(.indexAddr 25 (.tmp 23) (.const (.int .i64 0))),0⟩ (.take 6 true ⟨some 25,none,.take,(.load 3 (.tmp 24)),3⟩ (.take 7 false ⟨some 26,none,.take,(.indexAddr 26 (.tmp 22) (.tmp 25)),0⟩ (.take 8 false ⟨some 27,none,.take,(.move (.tmp 1)),25⟩ (.take 9 true ⟨some 28,none,.take,(.slice 25 (.tmp 27) (some (.const (.int .i64 1))) none none),25⟩ (.take 10 false ⟨some 4,none,.take,(.assign (.tmp 26)),98⟩ (.take 11 false ⟨some 1,none,.take,(.assign (.tmp 28)),25⟩ .fin))))))))))))) (.goto 0))))))
theorem cS2:comp prog (dH prog 85 0)=mG2:=Z7
def ir86:IR:=irB prog 86
theorem eD3:fir prog 86=some ⟨16,2,[(.tmp 4),(.tmp 5)],ir86⟩:=Z7
def ir87:IR:=irB prog 87
theorem fir87:fir prog 87=some ⟨23,3,[(.tmp 6)],ir87⟩:=Z7
def nI1:IR:=pk [1,1,1,1,1] (irB prog 88)
def nJ1:IR:=pk [1,1,1,1,0,1,0,0] (irB prog 88)
def ir88:IR:=irB prog 88
theorem fir88:fir prog 88=some ⟨49,2,[(.cell 4 34),(.tmp 5)],ir88⟩:=Z7
def ir89:IR:=irB prog 89
theorem fir89:fir prog 89=some ⟨8,2,[(.tmp 4)],ir89⟩:=Z7
def ir90:IR:=irB prog 90
theorem fir90:fir prog 90=some ⟨41,3,[(.tmp 6)],ir90⟩:=Z7
def ir91:IR:=irB prog 91
theorem fir91:fir prog 91=some ⟨27,2,[(.cell 4 34),(.tmp 5)],ir91⟩:=Z7
def nG1:IR:=pk [1,1] (irB prog 92)
def nH1:IR:=pk [1,0,1,0,0] (irB prog 92)
def ir92:IR:=irB prog 92
theorem fir92:fir prog 92=some ⟨19,2,[(.tmp 4)],ir92⟩:=Z7
def ir93:IR:=irB prog 93
theorem fir93:fir prog 93=some ⟨4,1,[(.tmp 2)],ir93⟩:=Z7
def ir94:IR:=irB prog 94
theorem fir94:fir prog 94=some ⟨6,2,[],ir94⟩:=Z7
def nD1:IR:=pk [1,1,1,1,1] (irB prog 95)
def nF1:IR:=pk [1,1,1,0,1,0,1] (irB prog 95)
def nE1:IR:=pk [1,1,1,1,0,1,0,0] (irB prog 95)
def sL0:IR:=pk [1,1,1,1] (irB prog 95)
def ir95:IR:=irB prog 95
theorem fir95:fir prog 95=some ⟨34,2,[(.tmp 4)],ir95⟩:=Z7
def nB1:IR:=pk [1,1,1,1] (irB prog 98)
def nC1:IR:=pk [1,1,1,0,1,0,0] (irB prog 98)
def ir98:IR:=irB prog 98
theorem fir98:fir prog 98=some ⟨31,2,[(.tmp 4)],ir98⟩:=Z7
def ir99:IR:=irB prog 99
theorem eC3:fir prog 99=some ⟨17,3,[(.tmp 6)],ir99⟩:=Z7
def wN1:IR:=pk [1,1,1,1] (irB prog 100)
def wO1:IR:=pk [1,1,1,0,1,0,0] (irB prog 100)
def iX0:IR:=pk [1,1,1] (irB prog 100)
def dI3:IR:=irB prog 100
theorem fV3:fir prog 100=some ⟨44,2,[(.cell 4 32)],dI3⟩:=Z7
def wL1:IR:=pk [1,1,1,1] (irB prog 101)
def wM1:IR:=pk [1,1,1,0,1,0,0] (irB prog 101)
def dH3:IR:=irB prog 101
theorem fU3:fir prog 101=some ⟨38,1,[(.tmp 2)],dH3⟩:=Z7
def dG3:IR:=irB prog 102
theorem fT3:fir prog 102=some ⟨25,3,[(.cell 6 80)],dG3⟩:=Z7
def dF3:IR:=irB prog 103
theorem fS3:fir prog 103=some ⟨14,2,[(.cell 4 32)],dF3⟩:=Z7
def dE3:IR:=irB prog 104
theorem fR3:fir prog 104=some ⟨58,3,[(.tmp 6)],dE3⟩:=Z7
def wJ1:IR:=pk [1,1,1] (irB prog 105)
def wK1:IR:=pk [1,1] (irB prog 105)
def dD3:IR:=irB prog 105
theorem fQ3:fir prog 105=some ⟨16,1,[(.cell 2 171)],dD3⟩:=Z7
def dC3:IR:=irB prog 106
theorem fP3:fir prog 106=some ⟨25,1,[(.tmp 2)],dC3⟩:=Z7
def dB3:IR:=irB prog 107
theorem fO3:fir prog 107=some ⟨22,1,[(.tmp 2)],dB3⟩:=Z7
def wI1:IR:=pk [1,1,1,1,1] (irB prog 108)
def iV0:IR:=pk [1,1,1,1,0,1,0,0] (irB prog 108)
def iW0:IR:=pk [1,1,1] (irB prog 108)
def dA3:IR:=irB prog 108
theorem fN3:fir prog 108=some ⟨81,2,[(.tmp 4)],dA3⟩:=Z7
def wG1:IR:=pk [1,1] (irB prog 109)
def wH1:IR:=pk [1,0,1,0,0] (irB prog 109)
def cZ3:IR:=irB prog 109
theorem fM3:fir prog 109=some ⟨19,2,[(.tmp 4)],cZ3⟩:=Z7
def cY3:IR:=irB prog 113
theorem fL3:fir prog 113=some ⟨8,1,[(.cell 2 32)],cY3⟩:=Z7
def cX3:IR:=irB prog 114
theorem mO2:fir prog 114=some ⟨5,1,[(.tmp 2)],cX3⟩:=Z7
def cW3:IR:=irB prog 115
theorem fK3:fir prog 115=some ⟨8,2,[],cW3⟩:=Z7
def iT0:IR:=pk [1,1,1,0,1,0,1,1,1,1,1,1] (irB prog 116)
def wF1:IR:=pk [1,1,1,1,0,1,0,0] (irB prog 116)
def iU0:IR:=pk [1,1,1,1] (irB prog 116)
def cV3:IR:=irB prog 116
theorem fJ3:fir prog 116=some ⟨52,2,[(.tmp 4)],cV3⟩:=Z7
def cU3:IR:=irB prog 117
theorem fI3:fir prog 117=some ⟨8,1,[(.tmp 2)],cU3⟩:=Z7
def wD1:IR:=pk [1,1,1,1] (irB prog 118)
def wE1:IR:=pk [1,1,1,0,1,0,0] (irB prog 118)
def cT3:IR:=irB prog 118
theorem fH3:fir prog 118=some ⟨29,2,[(.tmp 4)],cT3⟩:=Z7
def cS3:IR:=irB prog 119
theorem fG3:fir prog 119=some ⟨81,2,[(.tmp 4),(.tmp 5)],cS3⟩:=Z7
def cR3:IR:=irB prog 120
theorem fF3:fir prog 120=some ⟨13,2,[(.tmp 4)],cR3⟩:=Z7
def wB1:IR:=pk [1,1,1] (irB prog 121)
def wA1:IR:=pk [1,1,0,1,0,0,1,1,1] (irB prog 121)
def iS0:IR:=pk [1,1,0,1,0,0,1,1,0,0,1,1] (irB prog 121)
def wC1:IR:=pk [1,1,0,1,0,0] (irB prog 121)
def cQ3:IR:=irB prog 121
theorem fE3:fir prog 121=some ⟨34,4,[(.tmp 8)],cQ3⟩:=Z7
def cP3:IR:=irB prog 122
theorem fD3:fir prog 122=some ⟨13,2,[(.tmp 4)],cP3⟩:=Z7
def cO3:IR:=irB prog 123
theorem fC3:fir prog 123=some ⟨6,2,[],cO3⟩:=Z7
def iQ0:IR:=pk [1,1,1,0,1,0,1,1,1,1] (irB prog 124)
def uZ1:IR:=pk [1,1,1,1,0,1,0,0] (irB prog 124)
def iR0:IR:=pk [1,1,1,1] (irB prog 124)
def cN3:IR:=irB prog 124
theorem fB3:fir prog 124=some ⟨37,2,[(.tmp 4)],cN3⟩:=Z7
def uY1:IR:=pk [1,1,1,1] (irB prog 132)
def uX1:IR:=pk [1,1,1,0,1,0,0,1,0,1,1,0,0] (irB prog 132)
def iP0:IR:=pk [1,1,1,0,1,0,0] (irB prog 132)
def cM3:IR:=irB prog 132
theorem fA3:fir prog 132=some ⟨99,1,[(.tmp 2)],cM3⟩:=Z7
def uW1:IR:=pk [1,1,0,1,1,1,1,1,0,0] (irB prog 133)
def cL3:IR:=irB prog 133
theorem eZ3:fir prog 133=some ⟨67,3,[],cL3⟩:=Z7
def cK3:IR:=irB prog 134
theorem eY3:fir prog 134=some ⟨70,2,[(.cell 4 32)],cK3⟩:=Z7
def cJ3:IR:=irB prog 135
theorem eX3:fir prog 135=some ⟨21,1,[(.tmp 2)],cJ3⟩:=Z7
def cI3:IR:=irB prog 136
theorem eW3:fir prog 136=some ⟨9,1,[(.tmp 2)],cI3⟩:=Z7
def uU1:IR:=pk [1,1] (irB prog 137)
def uV1:IR:=pk [1,0,1,0,0] (irB prog 137)
def cH3:IR:=irB prog 137
theorem eV3:fir prog 137=some ⟨20,2,[(.tmp 4)],cH3⟩:=Z7
def cG3:IR:=irB prog 138
theorem eU3:fir prog 138=some ⟨13,1,[(.tmp 2)],cG3⟩:=Z7
def uS1:IR:=pk [1,1,1,1] (irB prog 139)
def uT1:IR:=pk [1,1,1,0,1,0,0] (irB prog 139)
def cF3:IR:=irB prog 139
theorem eT3:fir prog 139=some ⟨29,2,[(.tmp 4)],cF3⟩:=Z7
def uQ1:IR:=pk [1,1,1,1] (irB prog 140)
def uR1:IR:=pk [1,1,1,0,1,0,0] (irB prog 140)
def cE3:IR:=irB prog 140
theorem eS3:fir prog 140=some ⟨29,2,[(.tmp 4)],cE3⟩:=Z7
def cD3:IR:=irB prog 141
theorem eR3:fir prog 141=some ⟨15,2,[(.tmp 4),(.tmp 5)],cD3⟩:=Z7
def cC3:IR:=irB prog 142
theorem eQ3:fir prog 142=some ⟨83,3,[(.tmp 6),(.tmp 7)],cC3⟩:=Z7
def uN1:IR:=pk [1,1,1,1] (irB prog 145)
def uP1:IR:=pk [1,1,0,1,0,0] (irB prog 145)
def uO1:IR:=pk [1,1,1,0,1,0,1,1,1,1,1,1,1,1,1] (irB prog 145)
def iO0:IR:=pk [1,1,1] (irB prog 145)
def cB3:IR:=irB prog 145
theorem eP3:fir prog 145=some ⟨129,2,[(.tmp 4),(.tmp 5)],cB3⟩:=Z7
def cA3:IR:=irB prog 146
theorem eO3:fir prog 146=some ⟨15,2,[(.tmp 4)],cA3⟩:=Z7
def bZ3:IR:=irB prog 147
theorem eN3:fir prog 147=some ⟨25,3,[(.cell 6 32)],bZ3⟩:=Z7
def bY3:IR:=irB prog 148
theorem eM3:fir prog 148=some ⟨9,1,[(.tmp 2)],bY3⟩:=Z7
def bX3:IR:=irB prog 149
theorem eL3:fir prog 149=some ⟨4,1,[(.tmp 2)],bX3⟩:=Z7
def bW3:IR:=irB prog 150
theorem eK3:fir prog 150=some ⟨17,2,[(.tmp 4),(.tmp 5)],bW3⟩:=Z7
def bV3:IR:=irB prog 151
theorem eJ3:fir prog 151=some ⟨28,2,[(.tmp 4),(.tmp 5)],bV3⟩:=Z7
def bU3:IR:=irB prog 152
theorem eI3:fir prog 152=some ⟨19,2,[(.tmp 4),(.tmp 5)],bU3⟩:=Z7
def bT3:IR:=irB prog 153
theorem eH3:fir prog 153=some ⟨14,2,[(.tmp 4),(.tmp 5)],bT3⟩:=Z7
def bS3:IR:=irB prog 154
theorem eG3:fir prog 154=some ⟨17,2,[(.tmp 4),(.tmp 5)],bS3⟩:=Z7
theorem oW0:appT prog 25 25=(some (3,(1,8))):=Z7
theorem oV0:appT prog 26 26=(some (34,(9,120))):=Z7
theorem oU0:appT prog 30 30=(some (32,(4,56))):=Z7
theorem oT0:appT prog 53 53=(some (62,(3,40))):=Z7
theorem oS0:appT prog 72 72=(some (119,(2,24))):=Z7
theorem oR0:appT prog 73 73=(some (9,(1,16))):=Z7
theorem oQ0:appT prog 74 74=(some (82,(9,136))):=Z7
theorem dY0:appT prog 166 166=(some (168,(1,24))):=Z7
theorem dG0:cnvT prog 5 21=(some (0,((some .i32),0))):=Z7
theorem iU2:esz prog 22=(some (none,5)):=Z7
theorem iT2:esz prog 25=(some (none,1)):=Z7
theorem iS2:esz prog 26=(some (none,9)):=Z7
theorem iR2:esz prog 30=(some (none,4)):=Z7
theorem iQ2:esz prog 40=(some (none,1)):=Z7
theorem iP2:esz prog 53=(some (none,3)):=Z7
theorem iO2:esz prog 67=(some (none,3)):=Z7
theorem iN2:esz prog 72=(some (none,2)):=Z7
theorem iM2:esz prog 73=(some (none,1)):=Z7
theorem iL2:esz prog 74=(some (none,9)):=Z7
theorem iK2:esz prog 78=(some (none,8)):=Z7
theorem wL2:esz prog 166=(some (none,1)):=Z7
theorem wK2:esz prog 168=(some (none,1)):=Z7
theorem wJ2:esz prog 171=(some ((some 3),1)):=Z7
theorem wI2:esz prog 174=(some ((some 15),5)):=Z7
theorem wH2:esz prog 210=(some ((some 2),1)):=Z7
theorem eT1:fld prog 24 0=(some 0):=Z7
theorem eS1:fld prog 24 2=(some 2):=Z7
theorem eR1:fld prog 28 0=(some 0):=Z7
theorem eQ1:fld prog 28 1=(some 1):=Z7
theorem eP1:fld prog 28 2=(some 2):=Z7
theorem eO1:fld prog 28 3=(some 3):=Z7
theorem eN1:fld prog 32 0=(some 0):=Z7
theorem eM1:fld prog 32 1=(some 1):=Z7
theorem eL1:fld prog 32 2=(some 2):=Z7
theorem eK1:fld prog 32 3=(some 3):=Z7
theorem eJ1:fld prog 34 0=(some 0):=Z7
theorem eI1:fld prog 34 1=(some 1):=Z7
theorem eH1:fld prog 34 2=(some 2):=Z7
theorem eG1:fld prog 34 3=(some 3):=Z7
theorem eF1:fld prog 34 4=(some 4):=Z7
theorem eE1:fld prog 34 5=(some 8):=Z7
theorem eD1:fld prog 42 0=(some 0):=Z7
theorem eC1:fld prog 42 1=(some 9):=Z7
theorem eB1:fld prog 42 2=(some 10):=Z7
theorem eA1:fld prog 42 3=(some 11):=Z7
theorem dZ1:fld prog 42 4=(some 12):=Z7
theorem dY1:fld prog 46 0=(some 0):=Z7
theorem dX1:fld prog 46 1=(some 1):=Z7
theorem dW1:fld prog 46 2=(some 2):=Z7
theorem dV1:fld prog 62 0=(some 0):=Z7
theorem dU1:fld prog 62 1=(some 1):=Z7
theorem dT1:fld prog 62 2=(some 2):=Z7
theorem dS1:fld prog 69 0=(some 0):=Z7
theorem dR1:fld prog 69 1=(some 1):=Z7
theorem dQ1:fld prog 69 2=(some 2):=Z7
theorem dP1:fld prog 69 3=(some 3):=Z7
theorem dO1:fld prog 69 4=(some 4):=Z7
theorem dN1:fld prog 76 0=(some 0):=Z7
theorem dM1:fld prog 76 1=(some 1):=Z7
theorem dL1:fld prog 76 2=(some 2):=Z7
theorem dK1:fld prog 80 0=(some 0):=Z7
theorem dJ1:fld prog 80 1=(some 1):=Z7
theorem dI1:fld prog 80 2=(some 2):=Z7
theorem dH1:fld prog 80 3=(some 3):=Z7
theorem dG1:fld prog 80 4=(some 7):=Z7
theorem dF1:fld prog 82 0=(some 0):=Z7
theorem dE1:fld prog 82 1=(some 1):=Z7
theorem jL1:fld prog 116 0=(some 0):=Z7
theorem jK1:fld prog 116 1=(some 1):=Z7
theorem jJ1:fld prog 116 2=(some 2):=Z7
theorem jI1:fld prog 116 3=(some 3):=Z7
theorem jH1:fld prog 119 0=(some 0):=Z7
theorem jG1:fld prog 119 1=(some 1):=Z7
theorem jF1:fld prog 125 0=(some 0):=Z7
theorem jE1:fld prog 125 1=(some 1):=Z7
theorem jD1:fld prog 125 2=(some 2):=Z7
theorem jC1:fld prog 141 0=(some 0):=Z7
theorem jB1:fld prog 141 1=(some 9):=Z7
theorem jA1:fld prog 141 2=(some 18):=Z7
theorem tZ0:fld prog 173 0=(some 0):=Z7
theorem tY0:fld prog 173 1=(some 1):=Z7
theorem tX0:fld prog 173 2=(some 2):=Z7
theorem tW0:fld prog 191 0=(some 0):=Z7
theorem tV0:fld prog 191 1=(some 1):=Z7
theorem tU0:fld prog 191 2=(some 2):=Z7
theorem tT0:fld prog 195 0=(some 0):=Z7
theorem tS0:fld prog 195 1=(some 1):=Z7
theorem tR0:fld prog 195 2=(some 2):=Z7
theorem dD1:isBool prog 4=true:=Z7
theorem dC1:tT2 prog 25=true:=Z7
theorem wG2:sK0 prog 9=true:=Z7
theorem wV3:ixT prog 9=(some none):=Z7
theorem wU3:knd prog 3=(some (false,0)):=Z7
theorem wT3:knd prog 4=(some (false,0)):=Z7
theorem wS3:knd prog 9=(some (false,0)):=Z7
theorem iJ2:knd prog 22=(some (false,0)):=Z7
theorem iI2:knd prog 24=(some (true,3)):=Z7
theorem iH2:knd prog 25=(some (false,0)):=Z7
theorem iG2:knd prog 26=(some (false,0)):=Z7
theorem iF2:knd prog 28=(some (true,4)):=Z7
theorem iE2:knd prog 30=(some (false,0)):=Z7
theorem iD2:knd prog 32=(some (true,4)):=Z7
theorem iC2:knd prog 34=(some (true,9)):=Z7
theorem iB2:knd prog 40=(some (false,0)):=Z7
theorem iA2:knd prog 42=(some (true,13)):=Z7
theorem fZ2:knd prog 46=(some (true,3)):=Z7
theorem fY2:knd prog 53=(some (false,0)):=Z7
theorem fX2:knd prog 62=(some (true,3)):=Z7
theorem fW2:knd prog 67=(some (false,0)):=Z7
theorem fV2:knd prog 69=(some (true,5)):=Z7
theorem fU2:knd prog 72=(some (false,0)):=Z7
theorem fT2:knd prog 73=(some (false,0)):=Z7
theorem fS2:knd prog 74=(some (false,0)):=Z7
theorem fR2:knd prog 76=(some (true,3)):=Z7
theorem fQ2:knd prog 78=(some (false,0)):=Z7
theorem fP2:knd prog 80=(some (true,8)):=Z7
theorem fO2:knd prog 82=(some (true,9)):=Z7
theorem fN2:knd prog 98=(some (false,0)):=Z7
theorem wF2:knd prog 125=(some (true,3)):=Z7
theorem wE2:knd prog 141=(some (true,19)):=Z7
theorem wD2:knd prog 168=(some (false,0)):=Z7
theorem wC2:knd prog 171=(some (true,3)):=Z7
theorem wB2:knd prog 173=(some (true,5)):=Z7
theorem wA2:knd prog 191=(some (true,3)):=Z7
theorem wR3:lnT prog 9=(some true):=Z7
theorem fM2:lnT prog 22=(some false):=Z7
theorem fL2:lnT prog 25=(some false):=Z7
theorem fK2:lnT prog 26=(some false):=Z7
theorem fJ2:lnT prog 30=(some false):=Z7
theorem fI2:lnT prog 40=(some false):=Z7
theorem fH2:lnT prog 53=(some false):=Z7
theorem fG2:lnT prog 67=(some false):=Z7
theorem fF2:lnT prog 72=(some false):=Z7
theorem fE2:lnT prog 73=(some false):=Z7
theorem fD2:lnT prog 74=(some false):=Z7
theorem fC2:lnT prog 78=(some false):=Z7
theorem uZ2:lnT prog 166=(some false):=Z7
theorem fB2:mkT prog 25=(some (3,(1,(8,[(.int .i64 0)])))):=Z7
theorem fA2:mkT prog 26=(some (34,(9,(120,[(.int .i64 0),(.int .i64 0),(.int .i64 0),(.string (Tx [])),(.int .i64 0),(.int .i64 0),(.string (Tx [])),(.slice none 0 0),(.slice none 0 0)])))):=Z7
theorem eZ2:mkT prog 30=(some (32,(4,(56,[(.int .i64 0),(.int .i64 0),(.string (Tx [])),(.slice none 0 0)])))):=Z7
theorem eY2:mkT prog 40=(some (26,(1,(24,[(.slice none 0 0)])))):=Z7
theorem uY2:mkT prog 168=(some (4,(1,(1,[(.bool false)])))):=Z7
theorem eX2:plc prog 28=(some ([(0,1),(1,1),(2,1),(3,1)],[(.slice none 0 0),(.int .i64 0),(.slice none 0 0),(.int .i64 0)])):=Z7
theorem eW2:plc prog 32=(some ([(0,1),(1,1),(2,1),(3,1)],[(.int .i64 0),(.int .i64 0),(.string (Tx [])),(.slice none 0 0)])):=Z7
theorem eV2:plc prog 34=(some ([(0,1),(1,1),(2,1),(3,1),(4,4),(8,1)],[(.int .i64 0),(.int .i64 0),(.int .i64 0),(.string (Tx [])),(.int .i64 0),(.int .i64 0),(.string (Tx [])),(.slice none 0 0),(.slice none 0 0)])):=Z7
theorem eU2:plc prog 42=(some ([(0,9),(9,1),(10,1),(11,1),(12,1)],[(.int .i64 0),(.int .i64 0),(.int .i64 0),(.string (Tx [])),(.int .i64 0),(.int .i64 0),(.string (Tx [])),(.slice none 0 0),(.slice none 0 0),(.slice none 0 0),(.slice none 0 0),(.int .i64 0),(.int .i64 0)])):=Z7
theorem eT2:plc prog 46=(some ([(0,1),(1,1),(2,1)],[(.string (Tx [])),(.int .i64 0),(.int .i64 0)])):=Z7
theorem eS2:plc prog 62=(some ([(0,1),(1,1),(2,1)],[(.int .i64 0),(.slice none 0 0),(.int .i64 0)])):=Z7
theorem eR2:plc prog 76=(some ([(0,1),(1,1),(2,1)],[(.slice none 0 0),(.slice none 0 0),(.slice none 0 0)])):=Z7
theorem eQ2:plc prog 80=(some ([(0,1),(1,1),(2,1),(3,4),(7,1)],[(.int .i64 0),(.string (Tx [])),(.string (Tx [])),(.int .i64 0),(.int .i64 0),(.string (Tx [])),(.slice none 0 0),(.slice none 0 0)])):=Z7
theorem eP2:plc prog 82=(some ([(0,1),(1,8)],[(.string (Tx [])),(.int .i64 0),(.string (Tx [])),(.string (Tx [])),(.int .i64 0),(.int .i64 0),(.string (Tx [])),(.slice none 0 0),(.slice none 0 0)])):=Z7
theorem uX2:plc prog 116=(some ([(0,1),(1,1),(2,1),(3,1)],[(.slice none 0 0),(.slice none 0 0),(.slice none 0 0),(.bool false)])):=Z7
theorem uW2:plc prog 119=(some ([(0,1),(1,1)],[(.string (Tx [])),(.int .i64 0)])):=Z7
theorem uV2:plc prog 125=(some ([(0,1),(1,1),(2,1)],[(.int .i64 0),(.int .i64 0),(.int .i64 0)])):=Z7
theorem uU2:plc prog 195=(some ([(0,1),(1,1),(2,1)],[(.slice none 0 0),(.slice none 0 0),(.slice none 0 0)])):=Z7
theorem uT2:slcT prog 25=(some (some (3,1))):=Z7
theorem uS2:slcT prog 26=(some (some (34,9))):=Z7
theorem wQ3:szT prog 3=(some 1):=Z7
theorem wP3:szT prog 4=(some 1):=Z7
theorem wO3:szT prog 9=(some 1):=Z7
theorem eO2:szT prog 25=(some 1):=Z7
theorem eN2:szT prog 26=(some 1):=Z7
theorem eM2:szT prog 28=(some 4):=Z7
theorem eL2:szT prog 30=(some 1):=Z7
theorem eK2:szT prog 32=(some 4):=Z7
theorem eJ2:szT prog 34=(some 9):=Z7
theorem eI2:szT prog 40=(some 1):=Z7
theorem eH2:szT prog 42=(some 13):=Z7
theorem eG2:szT prog 46=(some 3):=Z7
theorem eF2:szT prog 53=(some 1):=Z7
theorem eE2:szT prog 62=(some 3):=Z7
theorem eD2:szT prog 72=(some 1):=Z7
theorem eC2:szT prog 74=(some 1):=Z7
theorem eB2:szT prog 76=(some 3):=Z7
theorem eA2:szT prog 80=(some 8):=Z7
theorem dZ2:szT prog 82=(some 9):=Z7
theorem uR2:szT prog 141=(some 19):=Z7
theorem uQ2:szT prog 171=(some 3):=Z7
theorem uP2:szT prog 173=(some 5):=Z7
theorem dY2:zro prog 25=(some [(.slice none 0 0)]):=Z7
theorem dX2:zro prog 28=(some [(.slice none 0 0),(.int .i64 0),(.slice none 0 0),(.int .i64 0)]):=Z7
theorem dW2:zro prog 32=(some [(.int .i64 0),(.int .i64 0),(.string (Tx [])),(.slice none 0 0)]):=Z7
theorem dV2:zro prog 34=(some [(.int .i64 0),(.int .i64 0),(.int .i64 0),(.string (Tx [])),(.int .i64 0),(.int .i64 0),(.string (Tx [])),(.slice none 0 0),(.slice none 0 0)]):=Z7
theorem dU2:zro prog 42=(some [(.int .i64 0),(.int .i64 0),(.int .i64 0),(.string (Tx [])),(.int .i64 0),(.int .i64 0),(.string (Tx [])),(.slice none 0 0),(.slice none 0 0),(.slice none 0 0),(.slice none 0 0),(.int .i64 0),(.int .i64 0)]):=Z7
theorem dT2:zro prog 46=(some [(.string (Tx [])),(.int .i64 0),(.int .i64 0)]):=Z7
theorem dS2:zro prog 53=(some [(.slice none 0 0)]):=Z7
theorem dR2:zro prog 62=(some [(.int .i64 0),(.slice none 0 0),(.int .i64 0)]):=Z7
theorem dQ2:zro prog 76=(some [(.slice none 0 0),(.slice none 0 0),(.slice none 0 0)]):=Z7
theorem dP2:zro prog 80=(some [(.int .i64 0),(.string (Tx [])),(.string (Tx [])),(.int .i64 0),(.int .i64 0),(.string (Tx [])),(.slice none 0 0),(.slice none 0 0)]):=Z7
theorem dO2:zro prog 82=(some [(.string (Tx [])),(.int .i64 0),(.string (Tx [])),(.string (Tx [])),(.int .i64 0),(.int .i64 0),(.string (Tx [])),(.slice none 0 0),(.slice none 0 0)]):=Z7
theorem uO2:zro prog 141=(some [(.int .i64 0),(.int .i64 0),(.int .i64 0),(.string (Tx [])),(.int .i64 0),(.int .i64 0),(.string (Tx [])),(.slice none 0 0),(.slice none 0 0),(.int .i64 0),(.int .i64 0),(.int .i64 0),(.string (Tx [])),(.int .i64 0),(.int .i64 0),(.string (Tx [])),(.slice none 0 0),(.slice none 0 0),(.slice none 0 0)]):=Z7
theorem uN2:zro prog 171=(some [(.int .i64 0),(.int .i64 0),(.int .i64 0)]):=Z7
theorem uM2:zro prog 173=(some [(.int .i64 0),(.int .i64 0),(.int .i64 0),(.int .i64 0),(.int .i64 0)]):=Z7
theorem uL2:zro prog 210=(some [(.bool false),(.bool false)]):=Z7
attribute [push_cast] oW0 oV0 oU0 oT0 oS0 oR0 oQ0 dY0 dG0 iU2 iT2 iS2 iR2 iQ2 iP2 iO2 iN2 iM2 iL2 iK2 wL2 wK2 wJ2 wI2 wH2 eT1 eS1 eR1 eQ1 eP1 eO1 eN1 eM1 eL1 eK1 eJ1 eI1 eH1 eG1 eF1 eE1 eD1 eC1 eB1 eA1 dZ1 dY1 dX1 dW1 dV1 dU1 dT1 dS1 dR1 dQ1 dP1 dO1 dN1 dM1 dL1 dK1 dJ1 dI1 dH1 dG1 dF1 dE1 jL1 jK1 jJ1 jI1 jH1 jG1 jF1 jE1 jD1 jC1 jB1 jA1 tZ0 tY0 tX0 tW0 tV0 tU0 tT0 tS0 tR0 dD1 dC1 wG2 wV3 wU3 wT3 wS3 iJ2 iI2 iH2 iG2 iF2 iE2 iD2 iC2 iB2 iA2 fZ2 fY2 fX2 fW2 fV2 fU2 fT2 fS2 fR2 fQ2 fP2 fO2 fN2 wF2 wE2 wD2 wC2 wB2 wA2 wR3 fM2 fL2 fK2 fJ2 fI2 fH2 fG2 fF2 fE2 fD2 fC2 uZ2 fB2 fA2 eZ2 eY2 uY2 eX2 eW2 eV2 eU2 eT2 eS2 eR2 eQ2 eP2 uX2 uW2 uV2 uU2 uT2 uS2 wQ3 wP3 wO3 eO2 eN2 eM2 eL2 eK2 eJ2 eI2 eH2 eG2 eF2 eE2 eD2 eC2 eB2 eA2 dZ2 uR2 uQ2 uP2 dY2 dX2 dW2 dV2 dU2 dT2 dS2 dR2 dQ2 dP2 dO2 uO2 uN2 uM2 uL2
abbrev NGG:Nat:=1
theorem bK2:prog.funcs.all (qW1 1)=true:=Z7
theorem mixed:prog.follows .mixedOrders=true:=Z7
theorem pW1 (g:Nat)(fn:Func)(h:prog.funcs[g]?=some fn):qW1 1 fn=true:=by
 have:=bK2
 rw[Array.all_eq_true_iff_forall_mem] at this
 exact this fn (Array.mem_of_getElem? h)
@[reducible] noncomputable def pp (G:Nat×Nat):Par:=⟨prog,1,G.1,G.2,λ_=>0,λ_=>.empty⟩
theorem jV (G:Nat×Nat):wB0 (pp G):=⟨pW1,mixed⟩
def LL:List (Nat×List Z6):=[(0,[.int .i64 0,.int .i64 0,.int .i64 0,.int .i64 0,.int .i64 0,.int .i64 2,.int .i64 0,.int .i64 1,.int .i64 0,.int .i64 0,.int .i64 1,.int .i64 0,.int .i64 0,.int .i64 1,.int .i64 0,.int .i64 3,.int .i64 0,.int .i64 0,.int .i64 0,.int .i64 1,.int .i64 3,.int .i64 0,.int .i64 0,.int .i64 0,.int .i64 0,.int .i64 3,.int .i64 0,.int .i64 0,.int .i64 0,.int .i64 0,.int .i64 3,.int .i64 3,.int .i64 0,.int .i64 0,.int .i64 0,.int .i64 0,.int .i64 0,.int .i64 0,.int .i64 0,.int .i64 1,.int .i64 0,.int .i64 0,.int .i64 0,.int .i64 0,.int .i64 0,.int .i64 0,.int .i64 0,.int .i64 0,.int .i64 1,.int .i64 2,.int .i64 0,.int .i64 0,.int .i64 0,.int .i64 0,.int .i64 2,.int .i64 0,.int .i64 0,.int .i64 0,.int .i64 0,.int .i64 2,.int .i64 0,.int .i64 0,.int .i64 0,.int .i64 0,.int .i64 2,.int .i64 4,.int .i64 0,.int .i64 0,.int .i64 0,.int .i64 0,.int .i64 5,.int .i64 2,.int .i64 1,.int .i64 0,.int .i64 0])]
theorem LL_ok:okPl LL=true:=Z7
def H0:jA:=nO0 1 LL
theorem wN2:H0.lo=1:=rfl
theorem uU:H0.next=1:=rfl
@[reducible] def qq:Q:=⟨λ_=>false,H0⟩
end
end Go.Proofs.YtklapbhlhjdijaaGreatDoor
namespace Go.Proofs.YtklapbhlhjdijaaGreatDoor
open _root_.Go.Proofs.Tryz (prog)
open Go Go.RowKit Go.Ev Go.Dv
noncomputable section
set_option maxRecDepth 100000
abbrev Ix (d e s i:Nat):It:=Iq d (.indexAddr e (tt s) (tt i)) 0
abbrev Ik (d:Nat)(o:BinOp)(s:Nat)(c:Int)(t:Nat):It:=Iq d (.binOp o 3 (tt s) (ci c) 3) t
abbrev Ib (d:Nat)(o:BinOp)(s u t:Nat):It:=Iq d (.binOp o 3 (tt s) (tt u) 3) t
abbrev Ia0 (d s t:Nat):It:=Iq d (.call ⟨.builtin .len,#[tt s],#[t]⟩) 3
abbrev Iy (d s i t:Nat):It:=Iq d (.extract (tt s) i) t
abbrev Iz (d:Nat)(c:Int):It:=Iq d (.assign (ci c)) 3
abbrev cb (b:Zb):Zo:=.const (.bool b)
abbrev Iw (d:Nat)(b:Zb):It:=Iq d (.assign (cb b)) 4
abbrev Io (d s u:Nat):It:=Iq d (.pick (tt s) (cb true) (tt u)) 4
abbrev Io0 (d s u:Nat):It:=Iq d (.pick (tt s) (tt u) (cb false)) 4
abbrev Iu (d s:Nat):It:=Iq d (.unOp .not 4 (tt s)) 4
abbrev Ic0 (d s:Nat):It:=Iq d (.nilCheck (tt s)) 0
abbrev Ie0 (d t:Nat):It:=Ie d (.alloc t) 0
abbrev Ie1 (d t s:Nat):It:=Ie d (.box t (tt s)) 0
abbrev Il1 (d u:Nat)(w:Zb)(e s:Nat):It:=Ig d u w (.load e (tt s)) e
abbrev Im1 (d u:Nat)(w:Zb)(s t:Nat):It:=Ig d u w (.move (tt s)) t
abbrev If1 (d u:Nat)(w:Zb)(e s f:Nat):It:=Ig d u w (.fieldAddr e (tt s) f) 0
abbrev Ik1 (d u:Nat)(w:Zb)(o:BinOp)(s:Nat)(c:Int):It:=Ig d u w (.binOp o 3 (tt s) (ci c) 3) 4
abbrev Ib1 (d u:Nat)(w:Zb)(o:BinOp)(s v:Nat):It:=Ig d u w (.binOp o 3 (tt s) (tt v) 3) 4
abbrev Ij (d t:Nat):It:=Iq d (.assign (.const (.slice none 0 0))) t
abbrev Ih (d f:Nat)(a:List Nat)(b:List Zt)(t:Zt):It:=Ic d f ⟨a.map .tmp⟩ ⟨b⟩ t
abbrev Ia2 (n:Nat)(a b:IR):IR:=.cond (tt n) a b
abbrev Ia3 (n i:Nat):IR:=.cond (tt n) .skip (.exit i)
abbrev Ia4 (i:Nat)(b:IR):IR:=.block i (.loop b)
abbrev Il0 (d e s:Nat):It:=Il d e s e
abbrev If0 (d e s f:Nat):It:=If d e s f 0
abbrev Is0 (e a b:Nat):It:=Is e a b 0
abbrev Ta (i:Nat)(x:It)(k:PT):PT:=.take i false x k
abbrev Tr (i:Nat)(x:It)(k:PT):PT:=.take i true x k
abbrev Te (i:Nat)(x:It)(b:List Nat)(k:PT):PT:=.eff i x b k .no
universe uu
def cs {α:Sort uu}(b:Zb)(x y:α):α:=Bool.rec (motive:=λ_=>α) y x b
section
variable {p:Par} {q:Q} {ro:Z8 Nat} {i j n t u:Nat} {w:Zb} {a b:IR} {s:S} {k:S→Prop} {R:jK→S→Prop} {x:Zo} {l:List It} {tm:VT} {h:jA} {K:VT→jA→Prop} {d:Z8 Nat} {o:Go.Op} {v z:Z6} {ar:Array Zo} {ty:Array Zt} {A:Prop} {rs:List ResultVar} {Q:Z6→jA→Prop} {P:Z9} {y r:VTr}
theorem x1:dc3 p q ro .skip s R=R .normal s:=rfl
theorem x2:dc3 p q ro .ret s R=R .ret s:=rfl
theorem x3:dc3 p q ro (.exit i) s R=R (.exit i) s:=rfl
theorem x4:dc3 p q ro (.goto i) s R=R (.goto i) s:=rfl
theorem x5:dc3 p q ro (.label i) s R=R .normal s:=rfl
theorem x6 {df:List Nat}:dc3 p q ro (.ops l) ⟨tm,df,h⟩ R=qD p q l tm h λtm h=>R .normal ⟨tm,df,h⟩:=rfl
theorem x7 {df:List Nat}{t:PT}:dc3 p q ro (.plan t) ⟨tm,df,h⟩ R=jO p q t [] tm h λtm h=>R .normal ⟨tm,df,h⟩:=rfl
theorem x8:dc3 p q ro (.seq a b) s R=dc3 p q ro a s (bV (λs1=>dc3 p q ro b s1 (@kR ⟨R⟩)) R):=rfl
theorem x9:dc3 p q ro (so l b) s R=dc3 p q ro (.ops l) s (bV (λs1=>dc3 p q ro b s1 (@kR ⟨R⟩)) R):=rfl
theorem j0 {df:List Nat}:dc3 p q ro (.cond x a b) ⟨tm,df,h⟩ R=zE0 (ev tm x) (@kb ⟨dc3 p q ro a ⟨tm,df,h⟩ R⟩) (@kb ⟨dc3 p q ro b ⟨tm,df,h⟩ R⟩):=rfl
theorem j1:dc3 p q ro (.block i b) s R=dc3 p q ro b s (uS i R):=rfl
theorem j2:dc3 p q ro (.loop b) s R=WD p q.H ro (.loop b) s (@kR ⟨R⟩):=rfl
theorem j3 {g:Zo}{ps:Array Tmp}{a b:Code}:dc3 p q ro (.range g ps a b) s R=WD p q.H ro (.range g ps a b) s (@kR ⟨R⟩):=rfl
theorem j4 {b:Code}:dc3 p q ro (.scope b) s R=WinD p q.H ro b b s (@kR ⟨R⟩):=rfl
theorem j5:dc3 p q ro .bad s R=False:=rfl
theorem al {α:Type}(l:List α):(List.toArray l).toList=l:=rfl
theorem mp1 {α β:Type}(f:α→β)(a:α)(l:List α):List.map f (a :: l)=f a :: List.map f l:=rfl
theorem mp2 {α β:Type}(f:α→β):List.map f []=[]:=rfl
theorem om1 {α β:Type}(f:α→β)(a:α):Option.map f (some a)=some (f a):=rfl
theorem om2 {α β:Type}(f:α→β):Option.map f none=none:=rfl
theorem am {α:Type}(l:List α):(Array.mk l).toList=l:=rfl
theorem y1:bV k R .normal s=k s:=rfl
theorem y2:bV k R (.exit i) s=R (.exit i) s:=rfl
theorem y3:bV k R (.goto i) s=R (.goto i) s:=rfl
theorem y4:bV k R .ret s=R .ret s:=rfl
theorem y5:uS i R .normal s=R .normal s:=rfl
theorem y6:uS i R (.goto j) s=R (.goto j) s:=rfl
theorem y7:uS i R .ret s=R .ret s:=rfl
def oX (b:Zb)(i j:Nat)(R:jK→S→Prop)(s:S):Prop:=uS i R (.exit j) s
theorem y8 {e:jK}:@kR ⟨R⟩ e s=R e s:=rfl
theorem z1:qD p q [] tm h K=K tm h:=rfl
theorem z2:qD p q (Im n i t :: l) tm h K=qD p q l (put tm (some n) (tm.get i)) h K:=rfl
theorem z3:qD p q (Ia n i t :: l) tm h K=qD p q l (put tm (some n) (tm.get i)) h K:=rfl
theorem z4:qD p q (Il n i j t :: l) tm h K=oP (ldD p.P i (tm.get j) h) h (@kk ⟨λv h'=>qD p q l (put tm (some n) v) h' K⟩):=rfl
theorem z5:qD p q (If n i j u t :: l) tm h K=oP (faD (fld p.P i u) (tm.get j)) h (@kk ⟨λv h'=>qD p q l (put tm (some n) v) h' K⟩):=rfl
theorem z6:qD p q (Is u i j t :: l) tm h K=oE (stD (szT p.P u) (tm.get i) (tm.get j) h) (@kk ⟨λv h'=>qD p q l tm h' K⟩):=rfl
theorem z7:qD p q (Ig n u w o t :: l) tm h K=gP (tm.get u) w (tvD p.P o t tm h) h (@kk ⟨λv h'=>qD p q l (put tm (some n) v) h' K⟩):=rfl
theorem z8:qD p q (Ie n o t :: l) tm h K=oE (teD p.P q.m o t tm h) (@kk ⟨λv h'=>qD p q l (put tm (some n) v) h' K⟩):=rfl
theorem z9:qD p q (Ic n i ar ty t :: l) tm h K=jE p q.H (.func (.func i) #[] #[]) (ar.toList.map (ev tm)) h (@kB ⟨λ_=>@kk ⟨λv h'=>qD p q l (put tm (some n) v) h' K⟩⟩):=rfl
theorem z10:qD p q (⟨d,none,.call,.call ⟨.value x,ar,ty⟩,t⟩ :: l) tm h K=jE p q.H (ev tm x) (ar.toList.map (ev tm)) h (@kB ⟨λ_=>@kk ⟨λv h'=>qD p q l (put tm d v) h' K⟩⟩):=rfl
theorem z11:qD p q (⟨none,none,.eff,o,t⟩ :: l) tm h K=oE (teD p.P q.m o t tm h) (@kk ⟨λv h'=>qD p q l tm h' K⟩):=rfl
variable {bo:BinOp} {x1 x2 x3:Zo} {e f:Nat}
variable {uo:UnOp} {pt:Array (Nat×Zo)} {as_:Array Zo} {o1 o2 o3:Z8 Zo} {L:LD} {pt1 pt2 pt3:PT} {it it2:It} {bind bd2:List Nat} {ih:KD}
theorem w0:qD p q (Iq n (.binOp bo u x1 x2 e) t :: l) tm h K=oP (jW p.P bo u x1 x2 (ev tm x1) (ev tm x2)) h (@kk ⟨λv h'=>qD p q l (put tm (some n) v) h' K⟩):=rfl
theorem w1:qD p q (Iq n (.indexAddr u x1 x2) t :: l) tm h K=oP (iaD (esz p.P u) (ev tm x1) (ev tm x2)) h (@kk ⟨λv h'=>qD p q l (put tm (some n) v) h' K⟩):=rfl
theorem w2:qD p q (Iq n (.assign (.const v)) t :: l) tm h K=oP (some v) h (@kk ⟨λv h'=>qD p q l (put tm (some n) v) h' K⟩):=rfl
theorem w3:qD p q (Iq n (.move (.const v)) t :: l) tm h K=oP (some v) h (@kk ⟨λv h'=>qD p q l (put tm (some n) v) h' K⟩):=rfl
theorem w4:qD p q (Iq n (.call ⟨.builtin .len,#[x1],#[u]⟩) t :: l) tm h K=oP (lnD (lnT p.P u) (ev tm x1)) h (@kk ⟨λv h'=>qD p q l (put tm (some n) v) h' K⟩):=rfl
theorem w5:qD p q (Iq n (.call ⟨.builtin .min,ar,ty⟩) t :: l) tm h K=oP (mnV p.P ty t (ar.toList.map (ev tm))) h (@kk ⟨λv h'=>qD p q l (put tm (some n) v) h' K⟩):=rfl
theorem w6:qD p q (Iq n (.call ⟨.builtin .max,ar,ty⟩) t :: l) tm h K=oP (mxV p.P ty t (ar.toList.map (ev tm))) h (@kk ⟨λv h'=>qD p q l (put tm (some n) v) h' K⟩):=rfl
theorem w7:qD p q (Iq n (.pick x1 x2 x3) t :: l) tm h K=oP (gB0 (ev tm x1) (ev tm x2) (ev tm x3)) h (@kk ⟨λv h'=>qD p q l (put tm (some n) v) h' K⟩):=rfl
theorem w8:qD p q (Iq n (.extract x1 e) t :: l) tm h K=oP (extV (ev tm x1) e) h (@kk ⟨λv h'=>qD p q l (put tm (some n) v) h' K⟩):=rfl
theorem w9:qD p q (Iq n (.unOp uo u x1) t :: l) tm h K=oP (unV p.P uo (ev tm x1)) h (@kk ⟨λv h'=>qD p q l (put tm (some n) v) h' K⟩):=rfl
theorem w10:qD p q (Iq n (.build u pt) t :: l) tm h K=oP (bdV (plc p.P u) (pt.toList.map λx=>(x.1,ev tm x.2))) h (@kk ⟨λv h'=>qD p q l (put tm (some n) v) h' K⟩):=rfl
theorem w11:qD p q (Iq n (.nilCheck x1) t :: l) tm h K=oP (ncD (ev tm x1)) h (@kk ⟨λv h'=>qD p q l (put tm (some n) v) h' K⟩):=rfl
theorem w12:qD p q (Iq n (.makeFunc (.func e) ar as_) t :: l) tm h K=oP (some (.func (.func e) ⟨ar.toList.map (ev tm)⟩ ⟨as_.toList.map (ev tm)⟩)) h (@kk ⟨λv h'=>qD p q l (put tm (some n) v) h' K⟩):=rfl
theorem w13:qD p q (Iq n (.slice u x1 o1 o2 o3) t :: l) tm h K=oP (slD p.P u (ev tm x1) (o1.map (ev tm)) (o2.map (ev tm)) (o3.map (ev tm)) h) h (@kk ⟨λv h'=>qD p q l (put tm (some n) v) h' K⟩):=rfl
theorem w14:qD p q (Iq n (.index u x1 x2) t :: l) tm h K=oP (ixV (ixT p.P u) (ev tm x1) (ev tm x2)) h (@kk ⟨λv h'=>qD p q l (put tm (some n) v) h' K⟩):=rfl
theorem w15:qD p q (Iq n (.convert u e x1) t :: l) tm h K=oP (cvD p.P u e (ev tm x1) h) h (@kk ⟨λv h'=>qD p q l (put tm (some n) v) h' K⟩):=rfl
theorem w17:qD p q (Iq n (.field u x1 e) t :: l) tm h K=oP (fdV (fldT p.P u e) (ev tm x1)) h (@kk ⟨λv h'=>qD p q l (put tm (some n) v) h' K⟩):=rfl
theorem w21:qD p q (Iq n (.makeInterface u x1) t :: l) tm h K=oP (miV (isI p.P u) u (ev tm x1)) h (@kk ⟨λv h'=>qD p q l (put tm (some n) v) h' K⟩):=rfl
theorem t0:tvD P (.binOp bo u x1 x2 e) t tm h=jW P bo u x1 x2 (ev tm x1) (ev tm x2):=rfl
theorem tp0:tpD P (.binOp bo u x1 x2 e) t tm=jW P bo u x1 x2 (ev tm x1) (ev tm x2):=rfl
theorem t1:tvD P (.indexAddr u x1 x2) t tm h=iaD (esz P u) (ev tm x1) (ev tm x2):=rfl
theorem tp1:tpD P (.indexAddr u x1 x2) t tm=iaD (esz P u) (ev tm x1) (ev tm x2):=rfl
theorem t2:tvD P (.assign (.const v)) t tm h=some v:=rfl
theorem tp2:tpD P (.assign (.const v)) t tm=some v:=rfl
theorem t3:tvD P (.move (.const v)) t tm h=some v:=rfl
theorem tp3:tpD P (.move (.const v)) t tm=some v:=rfl
theorem t4:tvD P (.call ⟨.builtin .len,#[x1],#[u]⟩) t tm h=lnD (lnT P u) (ev tm x1):=rfl
theorem tp4:tpD P (.call ⟨.builtin .len,#[x1],#[u]⟩) t tm=lnD (lnT P u) (ev tm x1):=rfl
theorem t5:tvD P (.call ⟨.builtin .min,ar,ty⟩) t tm h=mnV P ty t (ar.toList.map (ev tm)):=rfl
theorem tp5:tpD P (.call ⟨.builtin .min,ar,ty⟩) t tm=mnV P ty t (ar.toList.map (ev tm)):=rfl
theorem t6:tvD P (.call ⟨.builtin .max,ar,ty⟩) t tm h=mxV P ty t (ar.toList.map (ev tm)):=rfl
theorem tp6:tpD P (.call ⟨.builtin .max,ar,ty⟩) t tm=mxV P ty t (ar.toList.map (ev tm)):=rfl
theorem t7:tvD P (.pick x1 x2 x3) t tm h=gB0 (ev tm x1) (ev tm x2) (ev tm x3):=rfl
theorem tp7:tpD P (.pick x1 x2 x3) t tm=gB0 (ev tm x1) (ev tm x2) (ev tm x3):=rfl
theorem t8:tvD P (.extract x1 e) t tm h=extV (ev tm x1) e:=rfl
theorem tp8:tpD P (.extract x1 e) t tm=extV (ev tm x1) e:=rfl
theorem t9:tvD P (.unOp uo u x1) t tm h=unV P uo (ev tm x1):=rfl
theorem tp9:tpD P (.unOp uo u x1) t tm=unV P uo (ev tm x1):=rfl
theorem t10:tvD P (.build u pt) t tm h=bdV (plc P u) (pt.toList.map λx=>(x.1,ev tm x.2)):=rfl
theorem tp10:tpD P (.build u pt) t tm=bdV (plc P u) (pt.toList.map λx=>(x.1,ev tm x.2)):=rfl
theorem t11:tvD P (.nilCheck x1) t tm h=ncD (ev tm x1):=rfl
theorem tp11:tpD P (.nilCheck x1) t tm=ncD (ev tm x1):=rfl
theorem t12:tvD P (.makeFunc (.func e) ar as_) t tm h=some (.func (.func e) ⟨ar.toList.map (ev tm)⟩ ⟨as_.toList.map (ev tm)⟩):=rfl
theorem tp12:tpD P (.makeFunc (.func e) ar as_) t tm=some (.func (.func e) ⟨ar.toList.map (ev tm)⟩ ⟨as_.toList.map (ev tm)⟩):=rfl
theorem t13:tvD P (.slice u x1 o1 o2 o3) t tm h=slD P u (ev tm x1) (o1.map (ev tm)) (o2.map (ev tm)) (o3.map (ev tm)) h:=rfl
theorem t14:tvD P (.index u x1 x2) t tm h=ixV (ixT P u) (ev tm x1) (ev tm x2):=rfl
theorem tp14:tpD P (.index u x1 x2) t tm=ixV (ixT P u) (ev tm x1) (ev tm x2):=rfl
theorem t15:tvD P (.convert u e x1) t tm h=cvD P u e (ev tm x1) h:=rfl
theorem t16:tvD P (.fieldAddr u x1 e) t tm h=faD (fld P u e) (ev tm x1):=rfl
theorem tp16:tpD P (.fieldAddr u x1 e) t tm=faD (fld P u e) (ev tm x1):=rfl
theorem t17:tvD P (.field u x1 e) t tm h=fdV (fldT P u e) (ev tm x1):=rfl
theorem tp17:tpD P (.field u x1 e) t tm=fdV (fldT P u e) (ev tm x1):=rfl
theorem t18:tvD P (.load u x1) t tm h=ldD P u (ev tm x1) h:=rfl
theorem t19:tvD P (.move x1) t tm h=some (ev tm x1):=rfl
theorem tp19:tpD P (.move x1) t tm=some (ev tm x1):=rfl
theorem t20:tvD P (.assign x1) t tm h=some (ev tm x1):=rfl
theorem tp20:tpD P (.assign x1) t tm=some (ev tm x1):=rfl
theorem t21:tvD P (.makeInterface u x1) t tm h=miV (isI P u) u (ev tm x1):=rfl
theorem tp21:tpD P (.makeInterface u x1) t tm=miV (isI P u) u (ev tm x1):=rfl
theorem e0 {mm:Nat→Zb}:teD P mm (.alloc u) t tm h=alE (zro P u) u h:=rfl
theorem e1 {mm:Nat→Zb}:teD P mm (.box u x1) t tm h=bxQ (mm (u+1000000)) u (ev tm x1) h:=rfl
theorem e2 {mm:Nat→Zb}:teD P mm (.buildSlice u e pt) t tm h=bsD (mm u) (slT P u) e (pt.toList.map λx=>(x.1,ev tm x.2)) h:=rfl
theorem e3 {mm:Nat→Zb}:teD P mm (.store u x1 x2) t tm h=stD (szT P u) (ev tm x1) (ev tm x2) h:=rfl
theorem e4 {mm:Nat→Zb}:teD P mm (.makeSlice u x1 x2) t tm h=msE (mkT P u) (ev tm x1) (ev tm x2) h:=rfl
theorem e5 {mm:Nat→Zb}:teD P mm (.call ⟨.builtin .append,#[x1,x2],#[u,e]⟩) t tm h=apD (appT P u e) (ev tm x1) (ev tm x2) h:=rfl
theorem e6 {mm:Nat→Zb}:teD P mm (.range u x1) t tm h=rgV P u (ev tm x1) h:=rfl
theorem e7 {mm:Nat→Zb}:teD P mm (.next x1 true) t tm h=nxE (ev tm x1) h:=rfl
theorem n0:dA (.alloc u) tm h=true:=rfl
theorem n1:dA (.box u x1) tm h=true:=rfl
theorem n2:dA (.buildSlice u e pt) tm h=true:=rfl
theorem n3:dA (.makeSlice u x1 x2) tm h=true:=rfl
theorem n4:dA (.store u x1 x2) tm h=false:=rfl
theorem n5:dA (.call ⟨.builtin .append,#[x1,x2],ty⟩) tm h=nA0 (ev tm x1) h:=rfl
theorem q1:jO p q .fin L tm h K=K tm h:=rfl
theorem q2:jO p q .no L tm h K=True:=rfl
theorem q3:jO p q (.take i false (Im n j t) pt1) L tm h K=jO p q pt1 L (put tm (some n) (tm.get j)) h K:=rfl
theorem q4:jO p q (.take i false (Ia n j t) pt1) L tm h K=jO p q pt1 L (put tm (some n) (tm.get j)) h K:=rfl
theorem q5:jO p q (.take i false (If n j e u t) pt1) L tm h K=oP (faD (fld p.P j u) (tm.get e)) h (@kk ⟨λv _=>jO p q pt1 L (put tm (some n) v) h K⟩):=rfl
theorem q6:jO p q (.take i false (Ig n u w o t) pt1) L tm h K=gP (tm.get u) w (tpD p.P o t tm) h (@kk ⟨λv _=>jO p q pt1 L (put tm (some n) v) h K⟩):=rfl
theorem q7:jO p q (.take i true (Ig n u w o t) pt1) L tm h K=gP (tm.get u) w (tvD p.P o t tm h) h (@kk ⟨λv _=>jO p q pt1 ((i,rdD p.P o tm,v) :: L) (put tm (some n) v) h K⟩):=rfl
theorem q8:jO p q (.take i true (Il n j e t) pt1) L tm h K=oP (ldD p.P j (tm.get e) h) h (@kk ⟨λv _=>jO p q pt1 ((i,ldK p.P j (tm.get e),v) :: L) (put tm (some n) v) h K⟩):=rfl
theorem q9:jO p q (.take i true (Iq n o t) pt1) L tm h K=oP (tvD p.P o t tm h) h (@kk ⟨λv _=>jO p q pt1 ((i,rdD p.P o tm,v) :: L) (put tm (some n) v) h K⟩):=rfl
theorem q10:rdD P (.load u x1) tm=ldK P u (ev tm x1):=rfl
theorem q11 {o1 o2 o3:Z8 Zo}:rdD P (.slice u x1 o1 o2 o3) tm=nrd:=rfl
theorem qt0:jO p q (.take i false (Iq n (.binOp bo u x1 x2 e) t) pt1) L tm h K=oP (jW p.P bo u x1 x2 (ev tm x1) (ev tm x2)) h (@kk ⟨λv _=>jO p q pt1 L (put tm (some n) v) h K⟩):=rfl
theorem qt1:jO p q (.take i false (Iq n (.indexAddr u x1 x2) t) pt1) L tm h K=oP (iaD (esz p.P u) (ev tm x1) (ev tm x2)) h (@kk ⟨λv _=>jO p q pt1 L (put tm (some n) v) h K⟩):=rfl
theorem qt2:jO p q (.take i false (Iq n (.assign (.const v)) t) pt1) L tm h K=oP (some v) h (@kk ⟨λv _=>jO p q pt1 L (put tm (some n) v) h K⟩):=rfl
theorem qt3:jO p q (.take i false (Iq n (.move (.const v)) t) pt1) L tm h K=oP (some v) h (@kk ⟨λv _=>jO p q pt1 L (put tm (some n) v) h K⟩):=rfl
theorem qt4:jO p q (.take i false (Iq n (.call ⟨.builtin .len,#[x1],#[u]⟩) t) pt1) L tm h K=oP (lnD (lnT p.P u) (ev tm x1)) h (@kk ⟨λv _=>jO p q pt1 L (put tm (some n) v) h K⟩):=rfl
theorem qt5:jO p q (.take i false (Iq n (.call ⟨.builtin .min,ar,ty⟩) t) pt1) L tm h K=oP (mnV p.P ty t (ar.toList.map (ev tm))) h (@kk ⟨λv _=>jO p q pt1 L (put tm (some n) v) h K⟩):=rfl
theorem qt6:jO p q (.take i false (Iq n (.call ⟨.builtin .max,ar,ty⟩) t) pt1) L tm h K=oP (mxV p.P ty t (ar.toList.map (ev tm))) h (@kk ⟨λv _=>jO p q pt1 L (put tm (some n) v) h K⟩):=rfl
theorem qt7:jO p q (.take i false (Iq n (.pick x1 x2 x3) t) pt1) L tm h K=oP (gB0 (ev tm x1) (ev tm x2) (ev tm x3)) h (@kk ⟨λv _=>jO p q pt1 L (put tm (some n) v) h K⟩):=rfl
theorem qt8:jO p q (.take i false (Iq n (.extract x1 e) t) pt1) L tm h K=oP (extV (ev tm x1) e) h (@kk ⟨λv _=>jO p q pt1 L (put tm (some n) v) h K⟩):=rfl
theorem qt9:jO p q (.take i false (Iq n (.unOp uo u x1) t) pt1) L tm h K=oP (unV p.P uo (ev tm x1)) h (@kk ⟨λv _=>jO p q pt1 L (put tm (some n) v) h K⟩):=rfl
theorem qt10:jO p q (.take i false (Iq n (.build u pt) t) pt1) L tm h K=oP (bdV (plc p.P u) (pt.toList.map λx=>(x.1,ev tm x.2))) h (@kk ⟨λv _=>jO p q pt1 L (put tm (some n) v) h K⟩):=rfl
theorem qt11:jO p q (.take i false (Iq n (.nilCheck x1) t) pt1) L tm h K=oP (ncD (ev tm x1)) h (@kk ⟨λv _=>jO p q pt1 L (put tm (some n) v) h K⟩):=rfl
theorem qt12:jO p q (.take i false (Iq n (.makeFunc (.func e) ar as_) t) pt1) L tm h K=oP (some (.func (.func e) ⟨ar.toList.map (ev tm)⟩ ⟨as_.toList.map (ev tm)⟩)) h (@kk ⟨λv _=>jO p q pt1 L (put tm (some n) v) h K⟩):=rfl
theorem qt14:jO p q (.take i false (Iq n (.index u x1 x2) t) pt1) L tm h K=oP (ixV (ixT p.P u) (ev tm x1) (ev tm x2)) h (@kk ⟨λv _=>jO p q pt1 L (put tm (some n) v) h K⟩):=rfl
theorem qt16:jO p q (.take i false (Iq n (.fieldAddr u x1 e) t) pt1) L tm h K=oP (faD (fld p.P u e) (ev tm x1)) h (@kk ⟨λv _=>jO p q pt1 L (put tm (some n) v) h K⟩):=rfl
theorem qt17:jO p q (.take i false (Iq n (.field u x1 e) t) pt1) L tm h K=oP (fdV (fldT p.P u e) (ev tm x1)) h (@kk ⟨λv _=>jO p q pt1 L (put tm (some n) v) h K⟩):=rfl
theorem qt21:jO p q (.take i false (Iq n (.makeInterface u x1) t) pt1) L tm h K=oP (miV (isI p.P u) u (ev tm x1)) h (@kk ⟨λv _=>jO p q pt1 L (put tm (some n) v) h K⟩):=rfl
theorem q20:jO p q (.eff i it bind pt1 .no) L tm h K=dEff p q it bind (jO p q pt1) L tm h K:=rfl
theorem q21:jO p q (.eff i it bind pt1 (.eff j it2 bd2 pt2 pt3)) L tm h K=(dEff p q it bind (jO p q pt1) L tm h K∧jO p q (.eff j it2 bd2 pt2 pt3) L tm h K):=rfl
theorem q22:jO p q (.eff i it bind pt1 (.take j w it2 pt2)) L tm h K=(dEff p q it bind (jO p q pt1) L tm h K∧jO p q (.take j w it2 pt2) L tm h K):=rfl
theorem q23:jO p q (.eff i it bind pt1 .bad) L tm h K=(dEff p q it bind (jO p q pt1) L tm h K∧False):=rfl
theorem q24:jO p q .bad L tm h K=False:=rfl
theorem d1:dEff p q (Ie n o t) bind ih L tm h K=oE (teD p.P q.m o t tm h) (@kk ⟨λv h'=>bZ (cO (Ie n o t) (dA o tm h) bind h' L) (@kb ⟨ih (bN bind L) (put tm (some n) v) h' K⟩)⟩):=rfl
theorem d2:dEff p q (Is u i j t) bind ih L tm h K=oE (stD (szT p.P u) (tm.get i) (tm.get j) h) (@kk ⟨λv h'=>bZ (kL bind h' L) (@kb ⟨ih (bN bind L) tm h' K⟩)⟩):=rfl
theorem d3:dEff p q (Ic n i ar ty t) bind ih L tm h K=jE p q.H (.func (.func i) #[] #[]) (ar.toList.map (ev tm)) h (@kB ⟨λb v h'=>bZ (kD b (kL bind h' L)) (@kb ⟨ih (bN bind L) (put tm (some n) v) h' K⟩)⟩):=rfl
theorem d4:dEff p q ⟨d,none,.call,.call ⟨.value x,ar,ty⟩,t⟩ bind ih L tm h K=jE p q.H (ev tm x) (ar.toList.map (ev tm)) h (@kB ⟨λb v h'=>bZ (kD b (kL bind h' L)) (@kb ⟨ih (bN bind L) (put tm d v) h' K⟩)⟩):=rfl
theorem d5:dEff p q ⟨d,none,.eff,o,t⟩ bind ih L tm h K=oE (teD p.P q.m o t tm h) (@kk ⟨λv h'=>bZ (cO (⟨d,none,.eff,o,t⟩:It) (dA o tm h) bind h' L) (@kb ⟨ih (bN bind L) (put tm d v) h' K⟩)⟩):=rfl
theorem d6:dEff p q ⟨d,some (u,w),.eff,o,t⟩ bind ih L tm h K=gED (tm.get u) w (teD p.P q.m o t tm h) (dA o tm h) bind L h (@kc ⟨λv h' c=>bZ c (@kb ⟨ih (bN bind L) (put tm d v) h' K⟩)⟩):=rfl
theorem d7:dEff p q ⟨d,some (u,w),.call,.call ⟨.value x,ar,ty⟩,t⟩ bind ih L tm h K=gCD p q.H (tm.get u) w (ev tm x) (ar.toList.map (ev tm)) bind L h (@kC ⟨λb v h' c=>bZ c (@kb ⟨ih (bN bind L) (put tm d v) h' K⟩)⟩):=rfl
theorem ko00 {b:Zb}:cO (Ie n (.alloc u) t) b bind h L=bR b bind h L:=rfl
theorem ko01 {b:Zb}:cO ⟨d,none,.eff,.alloc u,t⟩ b bind h L=bR b bind h L:=rfl
theorem ko10 {b:Zb}:cO (Ie n (.box u x1) t) b bind h L=bR b bind h L:=rfl
theorem ko11 {b:Zb}:cO ⟨d,none,.eff,.box u x1,t⟩ b bind h L=bR b bind h L:=rfl
theorem ko20 {b:Zb}:cO (Ie n (.buildSlice u e pt) t) b bind h L=bR b bind h L:=rfl
theorem ko21 {b:Zb}:cO ⟨d,none,.eff,.buildSlice u e pt,t⟩ b bind h L=bR b bind h L:=rfl
theorem ko30 {b:Zb}:cO (Ie n (.makeSlice u x1 x2) t) b bind h L=bR b bind h L:=rfl
theorem ko31 {b:Zb}:cO ⟨d,none,.eff,.makeSlice u x1 x2,t⟩ b bind h L=bR b bind h L:=rfl
theorem ko40 {b:Zb}:cO (Ie n (.store u x1 x2) t) b bind h L=bR b bind h L:=rfl
theorem ko41 {b:Zb}:cO ⟨d,none,.eff,.store u x1 x2,t⟩ b bind h L=bR b bind h L:=rfl
theorem ka0 {b:Zb}:cO (Ie n (.call ⟨.builtin .append,ar,ty⟩) t) b bind h L=kD b (kLA bind h L):=rfl
theorem ka1 {b:Zb}:cO ⟨d,none,.eff,.call ⟨.builtin .append,ar,ty⟩,t⟩ b bind h L=kD b (kLA bind h L):=rfl
theorem kl0:kLA bind h []=True:=rfl
theorem kl1 {rd:jA→Z8 Z6}:kLA bind h ((i,rd,v) :: L)=cs (cT i bind) (kLA bind h L) (kA h rd v∧kLA bind h L):=rfl
theorem d8:bR true bind h L=True:=rfl
theorem d9:bR false bind h L=kL bind h L:=rfl
theorem d10 {b:Zb}:bR b bind h L=kD b (kL bind h L):=rfl
theorem d11:kL bind h []=True:=rfl
theorem d12 {rd:jA→Z8 Z6}:kL bind h ((i,rd,v) :: L)=cs (cT i bind) (kL bind h L) (kE h rd v∧kL bind h L):=rfl
theorem d13:cT i []=false:=rfl
theorem d14:cT i (j :: bind)=(match Nat.beq i j with|true=>true|false=>cT i bind):=rfl
theorem d15:bN bind []=[]:=rfl
theorem d16 {rd:jA→Z8 Z6}:bN bind ((i,rd,v) :: L)=cs (cT i bind) (bN bind L) ((i,rd,v) :: bN bind L):=rfl
theorem u0:qD p q (⟨d,some (u,w),.call,.call ⟨.value x,ar,ty⟩,t⟩ :: l) tm h K=gCV p q.H (tm.get u) w (ev tm x) (ar.toList.map (ev tm)) h (@kB ⟨λ_=>@kk ⟨λv h'=>qD p q l (put tm d v) h' K⟩⟩):=rfl
theorem u1:qD p q (⟨d,some (u,w),.eff,o,t⟩ :: l) tm h K=gE (tm.get u) w (teD p.P q.m o t tm h) h (@kk ⟨λv h'=>qD p q l (put tm d v) h' K⟩):=rfl
theorem u2:qD p q (⟨some n,none,.eff,o,t⟩ :: l) tm h K=oE (teD p.P q.m o t tm h) (@kk ⟨λv h'=>qD p q l (put tm (some n) v) h' K⟩):=rfl
theorem r0:jR P rs Q .ret s=endR P rs Q s:=rfl
theorem r1:jR P rs Q .normal s=endR P rs Q s:=rfl
theorem r2:endR P [] Q ⟨tm,[],h⟩=Q (.tuple #[]) h:=rfl
theorem r3:endR P [.tmp i] Q ⟨tm,[],h⟩=Q (tm.get i) h:=rfl
theorem r4:endR P [.tmp i,.tmp j] Q ⟨tm,[],h⟩=Q (.tuple #[tm.get i,tm.get j]) h:=rfl
theorem r5:endR P [.cell i j] Q ⟨tm,[],h⟩=oP (resC [qL P j (tm.get i) h]) h Q:=rfl
theorem r6:endR P [.cell i j,.tmp e] Q ⟨tm,[],h⟩=oP (resC [qL P j (tm.get i) h,some (tm.get e)]) h Q:=rfl
theorem r7:endR P [.cell i j,.cell e f,.tmp u] Q ⟨tm,[],h⟩=oP (resC [qL P j (tm.get i) h,qL P f (tm.get e) h,some (tm.get u)]) h Q:=rfl
theorem r8:endR P [.cell i j,.cell e f,.tmp u,.tmp t] Q ⟨tm,[],h⟩=oP (resC [qL P j (tm.get i) h,qL P f (tm.get e) h,some (tm.get u),some (tm.get t)]) h Q:=rfl
theorem o00:uS 0 R (.exit 0) s=R .normal s:=rfl
theorem o01:uS 0 R (.exit 1) s=R (.exit 1) s:=rfl
theorem o02:uS 0 R (.exit 2) s=R (.exit 2) s:=rfl
theorem o03:uS 0 R (.exit 3) s=R (.exit 3) s:=rfl
theorem o04:uS 0 R (.exit 4) s=R (.exit 4) s:=rfl
theorem o10:uS 1 R (.exit 0) s=R (.exit 0) s:=rfl
theorem o11:uS 1 R (.exit 1) s=R .normal s:=rfl
theorem o12:uS 1 R (.exit 2) s=R (.exit 2) s:=rfl
theorem o13:uS 1 R (.exit 3) s=R (.exit 3) s:=rfl
theorem o14:uS 1 R (.exit 4) s=R (.exit 4) s:=rfl
theorem o20:uS 2 R (.exit 0) s=R (.exit 0) s:=rfl
theorem o21:uS 2 R (.exit 1) s=R (.exit 1) s:=rfl
theorem o22:uS 2 R (.exit 2) s=R .normal s:=rfl
theorem o23:uS 2 R (.exit 3) s=R (.exit 3) s:=rfl
theorem o24:uS 2 R (.exit 4) s=R (.exit 4) s:=rfl
theorem o30:uS 3 R (.exit 0) s=R (.exit 0) s:=rfl
theorem o31:uS 3 R (.exit 1) s=R (.exit 1) s:=rfl
theorem o32:uS 3 R (.exit 2) s=R (.exit 2) s:=rfl
theorem o33:uS 3 R (.exit 3) s=R .normal s:=rfl
theorem o34:uS 3 R (.exit 4) s=R (.exit 4) s:=rfl
theorem o40:uS 4 R (.exit 0) s=R (.exit 0) s:=rfl
theorem o41:uS 4 R (.exit 1) s=R (.exit 1) s:=rfl
theorem o42:uS 4 R (.exit 2) s=R (.exit 2) s:=rfl
theorem o43:uS 4 R (.exit 3) s=R (.exit 3) s:=rfl
theorem o44:uS 4 R (.exit 4) s=R .normal s:=rfl
theorem o50:uS 5 R (.exit 0) s=R (.exit 0) s:=rfl
theorem o51:uS 5 R (.exit 1) s=R (.exit 1) s:=rfl
theorem o52:uS 5 R (.exit 2) s=R (.exit 2) s:=rfl
theorem o53:uS 5 R (.exit 3) s=R (.exit 3) s:=rfl
theorem o54:uS 5 R (.exit 4) s=R (.exit 4) s:=rfl
theorem v1:ev tm (.tmp i)=tm.get i:=rfl
theorem v2:ev tm (.const v)=v:=rfl
theorem v3:ev tm (.func (i:FuncId))=.func (.func i) #[] #[]:=rfl
theorem cs1 {α:Sort uu}(x y:α):cs true x y=x:=rfl
theorem cs2 {α:Sort uu}(x y:α):cs false x y=y:=rfl
theorem g0:(VT.mk n y).get i=cs (Nat.ble (Nat.succ i) n) (y.get i) undef:=rfl
theorem g1:(VTr.node y v r).get 0=v:=rfl
theorem g2:(VTr.node y v r).get (i+1)=cs (Nat.beq (i % 2) 0) (y.get (i / 2)) (r.get (i / 2)):=rfl
theorem p0:put (VT.mk n y) (some i) v=cs (Nat.ble (Nat.succ i) n) ⟨n,y.set 60 i v⟩ ⟨n,y⟩:=rfl
theorem pn:put tm none v=tm:=rfl
theorem p1:(VTr.node y v r).set (n+1) 0 z=.node y z r:=rfl
theorem p2:(VTr.node y v r).set (n+1) (i+1) z=cs (Nat.beq (i % 2) 0) (.node (y.set n (i / 2) z) v r) (.node y v (r.set n (i / 2) z)):=rfl
theorem p3:VTr.nil.set (n+1) 0 z=.node .nil z .nil:=rfl
theorem lf_:lf v=.node .nil v .nil:=rfl
theorem g3:VTr.nil.get i=undef:=rfl
end
@[push_cast] theorem bxq (n e:Nat) (v:Z6) (h:jA):bxQ (qq.m n) e v h=bxD e v h:=rfl
theorem mkS (G:Nat×Nat)(q:Q)(ro:Z8 Nat)(T:jK→S→Prop){i j:IR}(e:i=j)(s:S){C:Prop}(h:dc3 (pp G) q ro j s T=C:=by dsimp +instances only [am,pn,al,j3,j4,j5,x1,x2,x3,x4,x5,x6,x7,x8,x9,j0,j1,j2,y1,y2,y3,y4,y5,y6,y7,y8,z1,z2,z3,z4,z5,z6,z7,z8,z9,z10,z11,w0,w1,w2,w3,w4,w5,w6,w7,w8,w9,w10,w11,w12,w13,w14,w15,w17,w21,t0,tp0,t1,tp1,t2,tp2,t3,tp3,t4,tp4,t5,tp5,t6,tp6,t7,tp7,t8,tp8,t9,tp9,t10,tp10,t11,tp11,t12,tp12,t13,t14,tp14,t15,t16,tp16,t17,tp17,t18,t19,tp19,t20,tp20,t21,tp21,e0,e1,e2,e3,e4,e5,e6,e7,n0,n1,n2,n3,n4,n5,q1,q2,q3,q4,q5,q6,q7,q8,q9,q10,q11,qt0,qt1,qt2,qt3,qt4,qt5,qt6,qt7,qt8,qt9,qt10,qt11,qt12,qt14,qt16,qt17,qt21,q20,q21,q22,q23,q24,d1,d2,d3,d4,d5,d6,d7,ko00,ko01,ko10,ko11,ko20,ko21,ko30,ko31,ko40,ko41,ka0,ka1,kl0,kl1,d8,d9,d10,d11,d12,d13,d14,d15,d16,u0,u1,u2,r0,r1,r2,r3,r4,r5,r6,r7,r8,o00,o01,o02,o03,o04,o10,o11,o12,o13,o14,o20,o21,o22,o23,o24,o30,o31,o32,o33,o34,o40,o41,o42,o43,o44,o50,o51,o52,o53,o54,v1,v2,v3,cs1,cs2,g0,g1,g2,p0,p1,p2,p3,lf_,g3,Nat.ble,Nat.beq,Nat.reduceMod,Nat.reduceDiv,Nat.reduceAdd,Nat.reduceSucc,mp1,mp2,om1,om2]):dc3 (pp G) q ro i s T=C:=by rw[e];exact h
end
end Go.Proofs.YtklapbhlhjdijaaGreatDoor
