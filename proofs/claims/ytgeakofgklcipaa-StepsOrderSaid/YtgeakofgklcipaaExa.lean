/-
  A part of the proof: conditions over an abstract memory,and that they are enough for what the model's calls do. No condition of its own.
-/
import Derived.Test.YtgeakofgklcipaaEvd
import Derived.Test.YtgeakofgklcipaaProg
import Derived.KernelRfl
set_option linter.unusedSimpArgs false
set_option linter.unusedVariables false
set_option maxRecDepth 100000
namespace Go.Proofs.Ytgeakofgklcipaa
open _root_.Go.Proofs.Try (prog)
open Go.RowKit Go.Ev Go.Dv
noncomputable section
abbrev tt (n:Nat):Operand:=.tmp n
abbrev ci (n:Int):Operand:=.const (.int .i64 n)
def Iq (d:Nat) (o:Go.Op) (t:TypeId):It:=⟨some d,none,.take,o,t⟩
def Ia (d s t:Nat):It:=Iq d (.assign (.tmp s)) t
def Il (d e s t:Nat):It:=Iq d (.load e (.tmp s)) t
def If (d e s f t:Nat):It:=Iq d (.fieldAddr e (.tmp s) f) t
def Is (e a b t:Nat):It:=⟨none,none,.eff,.store e (.tmp a) (.tmp b),t⟩
def Ig (d g:Nat) (w:Bool) (o:Go.Op) (t:TypeId):It:=⟨some d,some (g,w),.take,o,t⟩
def Ie (d:Nat) (o:Go.Op) (t:TypeId):It:=⟨some d,none,.eff,o,t⟩
def Ic (d f:Nat) (a:Array Operand) (b:Array TypeId) (t:TypeId):It:=⟨some d,none,.call,.call ⟨.value (.func f),a,b⟩,t⟩
def so (l:List It) (b:IR):IR:=.seq (.ops l) b
abbrev ud:Value:=undef
def lf (v:Value):VTr:=.node .nil v .nil
abbrev nd (l:VTr) (v:Value) (r:VTr):VTr:=.node l v r
noncomputable def irB (P:Program) (g:Nat):IR:=match fir P g with|some f=>f.4|none=>.skip
noncomputable def pk:List Nat→IR→IR
 | [],x=>x
 | i :: p,.seq a b=>pk p (match i with | 0=>a | _=>b)
 | i :: p,.cond _ a b=>pk p (match i with | 0=>a | _=>b)
 | _ :: p,.block _ b=>pk p b
 | _ :: p,.loop b=>pk p b
 | _ :: _,x=>x
noncomputable def ir16_s1:IR:=pk [1,1,0,1,0] (irB prog 16)
noncomputable def ir16_s3:IR:=pk [1,1,1,1,0,1,0,0,1,1] (irB prog 16)
noncomputable def ir16_s5:IR:=pk [1,1,1,1,0,1,0,0,1,0,0,1,1,1,1] (irB prog 16)
noncomputable def ir16_s4:IR:=pk [1,1,1,1,0,1,0,0,1,0,0,1,1,1,0,0,0] (irB prog 16)
noncomputable def ir16_s2:IR:=pk [1,1,1,1,0,1,0,0,1,0,0,1] (irB prog 16)
noncomputable def ir16_s0:IR:=pk [1,1,1,1,0,1,0,0] (irB prog 16)
noncomputable def ir16:IR:=irB prog 16
theorem fir16:fir prog 16=some ⟨101,2,[(.tmp 4)],ir16⟩:=by kernel_rfl
noncomputable def ir22_s0:IR:=pk [1,1,0,1,0,0] (irB prog 22)
noncomputable def ir22_s1:IR:=pk [1,1,1] (irB prog 22)
noncomputable def ir22:IR:=irB prog 22
theorem fir22:fir prog 22=some ⟨38,2,[(.cell 4 34)],ir22⟩:=by kernel_rfl
noncomputable def ir37_s1:IR:=pk [1,1,1] (irB prog 37)
noncomputable def ir37_s0:IR:=pk [1,1,0,1,0,0] (irB prog 37)
noncomputable def ir37:IR:=irB prog 37
theorem fir37:fir prog 37=some ⟨28,1,[(.tmp 2)],ir37⟩:=by kernel_rfl
noncomputable def ir39_s0:IR:=(so [Il 39 55 3 55,Ia 2 39 55] .ret)
noncomputable def ir39_s2:IR:=(.plan (.take 0 true (Il 34 55 3 55) (.take 1 true (Il 35 95 4 95) (.eff 2 (Ic 36 64 #[(tt 35),(ci 0)] #[95,3] 60) [1] (.eff 3 (Ie 37 (.buildSlice 55 1 #[(0,(tt 36))]) 55) [1,2] (.eff 4 (Ie 38 (.call ⟨(.builtin .append),#[(tt 34),(tt 37)],#[55,55]⟩) 55) [1,2,3,0] (.eff 5 (Is 55 3 38 0) [1,2,3,0,4] .fin .no) .no) .no) .no))))
noncomputable def ir39_s1:IR:=(.cond (tt 12) (.exit 1) (so [(Iq 19 (.binOp .eql 3 (tt 11) (ci 8) 3) 4),Ia 18 19 4] (.cond (tt 18) (so [If 20 95 4 1 0,Il 21 34 20 34,(Ic 22 63 #[(tt 21)] #[34] 23),(Iq 23 (.call ⟨(.builtin .len),#[(tt 22)],#[23]⟩) 3),(Iq 24 (.binOp .gtr 3 (tt 23) (ci 0) 3) 4)] (.cond (tt 24) (.exit 1) .skip)) (so [(Iq 26 (.binOp .eql 3 (tt 11) (ci 10) 3) 4),Ia 25 26 4] (.cond (tt 25) (.seq (.plan (.take 0 true (Il 27 55 3 55) (.take 1 true (Il 28 95 4 95) (.take 3 true (Il 30 95 4 95) (.eff 2 (Ic 29 64 #[(tt 28),(ci 0)] #[95,3] 60) [1] (.eff 4 (Ic 31 64 #[(tt 30),(ci 1)] #[95,3] 60) [1,2,3] (.eff 5 (Ie 32 (.buildSlice 55 2 #[(0,(tt 29)),(1,(tt 31))]) 55) [3,4,1,2] (.eff 6 (Ie 33 (.call ⟨(.builtin .append),#[(tt 27),(tt 32)],#[55,55]⟩) 55) [3,4,1,2,5,0] (.eff 7 (Is 55 3 33 0) [3,4,1,2,5,0,6] .fin .no) .no) .no) .no) .no))))) (.exit 1)) .skip)))))
noncomputable def ir39:IR:=irB prog 39
theorem fir39:fir prog 39=some ⟨40,1,[(.tmp 2)],ir39⟩:=by kernel_rfl
noncomputable def ir39_0:IR:=(.seq (.ops [⟨some 3,none,.eff,(.alloc 55),0⟩]) (.seq (.label 0) (.seq (.seq (.ops [⟨some 5,none,.take,(.load 34 (.tmp 1)),34⟩,⟨some 6,none,.call,(.call ⟨(.value (.func 62)),#[(.tmp 5)],#[34]⟩),34⟩,⟨some 7,none,.call,(.call ⟨(.value (.func 61)),#[(.tmp 6)],#[34]⟩),92⟩]) (.block 0 (.range (.tmp 7) #[8] (subC prog 39 1) (subC prog 39 2)))) (.seq (.ops [⟨some 39,none,.take,(.load 55 (.tmp 3)),55⟩,⟨some 2,none,.take,(.assign (.tmp 39)),55⟩]) .ret))))
theorem comp39_0:comp prog (subC prog 39 0)=ir39_0:=by kernel_rfl
noncomputable def ir39_1:IR:=(.ops [⟨some 4,none,.eff,(.alloc 95),0⟩,⟨none,none,.eff,(.store 95 (.tmp 4) (.tmp 8)),0⟩])
theorem comp39_1:comp prog (subC prog 39 1)=ir39_1:=by kernel_rfl
noncomputable def ir39_2:IR:=(.block 1 (.seq (.seq (.ops [⟨some 9,none,.take,(.fieldAddr 95 (.tmp 4) 0),0⟩,⟨some 10,none,.take,(.fieldAddr 34 (.tmp 9) 0),0⟩,⟨some 11,none,.take,(.load 3 (.tmp 10)),3⟩]) (.block 2 (.seq (.seq (.ops [⟨some 13,none,.take,(.binOp .eql 3 (.tmp 11) (.const (.int .i64 0)) 3),4⟩,⟨some 12,none,.take,(.assign (.tmp 13)),4⟩]) (.cond (.tmp 12) .skip (.seq (.ops [⟨some 14,none,.take,(.binOp .eql 3 (.tmp 11) (.const (.int .i64 14)) 3),4⟩,⟨some 12,none,.take,(.assign (.tmp 14)),4⟩]) (.cond (.tmp 12) .skip (.seq (.ops [⟨some 15,none,.take,(.binOp .eql 3 (.tmp 11) (.const (.int .i64 12)) 3),4⟩,⟨some 12,none,.take,(.assign (.tmp 15)),4⟩]) (.cond (.tmp 12) .skip (.seq (.ops [⟨some 16,none,.take,(.binOp .eql 3 (.tmp 11) (.const (.int .i64 11)) 3),4⟩,⟨some 12,none,.take,(.assign (.tmp 16)),4⟩]) (.cond (.tmp 12) .skip (.ops [⟨some 17,none,.take,(.binOp .eql 3 (.tmp 11) (.const (.int .i64 7)) 3),4⟩,⟨some 12,none,.take,(.assign (.tmp 17)),4⟩]))))))))) (.cond (.tmp 12) (.exit 1) (.seq (.ops [⟨some 19,none,.take,(.binOp .eql 3 (.tmp 11) (.const (.int .i64 8)) 3),4⟩,⟨some 18,none,.take,(.assign (.tmp 19)),4⟩]) (.cond (.tmp 18) (.seq (.ops [⟨some 20,none,.take,(.fieldAddr 95 (.tmp 4) 1),0⟩,⟨some 21,none,.take,(.load 34 (.tmp 20)),34⟩,⟨some 22,none,.call,(.call ⟨(.value (.func 63)),#[(.tmp 21)],#[34]⟩),23⟩,⟨some 23,none,.take,(.call ⟨(.builtin .len),#[(.tmp 22)],#[23]⟩),3⟩,⟨some 24,none,.take,(.binOp .gtr 3 (.tmp 23) (.const (.int .i64 0)) 3),4⟩]) (.cond (.tmp 24) (.exit 1) .skip)) (.seq (.ops [⟨some 26,none,.take,(.binOp .eql 3 (.tmp 11) (.const (.int .i64 10)) 3),4⟩,⟨some 25,none,.take,(.assign (.tmp 26)),4⟩]) (.cond (.tmp 25) (.seq (.plan (.take 0 true ⟨some 27,none,.take,(.load 55 (.tmp 3)),55⟩ (.take 1 true ⟨some 28,none,.take,(.load 95 (.tmp 4)),95⟩ (.take 3 true ⟨some 30,none,.take,(.load 95 (.tmp 4)),95⟩ (.eff 2 ⟨some 29,none,.call,(.call ⟨(.value (.func 64)),#[(.tmp 28),(.const (.int .i64 0))],#[95,3]⟩),60⟩ [1] (.eff 4 ⟨some 31,none,.call,(.call ⟨(.value (.func 64)),#[(.tmp 30),(.const (.int .i64 1))],#[95,3]⟩),60⟩ [1,2,3] (.eff 5 ⟨some 32,none,.eff,(.buildSlice 55 2 #[(0,(.tmp 29)),(1,(.tmp 31))]),55⟩ [3,4,1,2] (.eff 6 ⟨some 33,none,.eff,(.call ⟨(.builtin .append),#[(.tmp 27),(.tmp 32)],#[55,55]⟩),55⟩ [3,4,1,2,5,0] (.eff 7 ⟨none,none,.eff,(.store 55 (.tmp 3) (.tmp 33)),0⟩ [3,4,1,2,5,0,6] .fin .no) .no) .no) .no) .no))))) (.exit 1)) .skip)))))))) (.plan (.take 0 true ⟨some 34,none,.take,(.load 55 (.tmp 3)),55⟩ (.take 1 true ⟨some 35,none,.take,(.load 95 (.tmp 4)),95⟩ (.eff 2 ⟨some 36,none,.call,(.call ⟨(.value (.func 64)),#[(.tmp 35),(.const (.int .i64 0))],#[95,3]⟩),60⟩ [1] (.eff 3 ⟨some 37,none,.eff,(.buildSlice 55 1 #[(0,(.tmp 36))]),55⟩ [1,2] (.eff 4 ⟨some 38,none,.eff,(.call ⟨(.builtin .append),#[(.tmp 34),(.tmp 37)],#[55,55]⟩),55⟩ [1,2,3,0] (.eff 5 ⟨none,none,.eff,(.store 55 (.tmp 3) (.tmp 38)),0⟩ [1,2,3,0,4] .fin .no) .no) .no) .no))))))
theorem comp39_2:comp prog (subC prog 39 2)=ir39_2:=by kernel_rfl
noncomputable def ir42_s1:IR:=pk [1,1,1] (irB prog 42)
noncomputable def ir42_s0:IR:=pk [1,1,0,1,0,0] (irB prog 42)
noncomputable def ir42:IR:=irB prog 42
theorem fir42:fir prog 42=some ⟨26,2,[(.tmp 4)],ir42⟩:=by kernel_rfl
noncomputable def ir47_s3:IR:=pk [1,1,1,1] (irB prog 47)
noncomputable def ir47_s5:IR:=pk [1,1,1,0,1,0,0,1,1] (irB prog 47)
noncomputable def ir47_s4:IR:=pk [1,1,1,0,1,0,0,1,0,0,1,1] (irB prog 47)
noncomputable def ir47_s0:IR:=pk [1,1,0,1,0,0] (irB prog 47)
noncomputable def ir47_s2:IR:=pk [1,1,1,0,1,0,0] (irB prog 47)
noncomputable def ir47_s1:IR:=pk [1,1,1] (irB prog 47)
noncomputable def ir47:IR:=irB prog 47
theorem fir47:fir prog 47=some ⟨58,1,[(.cell 2 73)],ir47⟩:=by kernel_rfl
noncomputable def ir48:IR:=irB prog 48
theorem fir48:fir prog 48=some ⟨18,1,[(.cell 2 34),(.tmp 3)],ir48⟩:=by kernel_rfl
noncomputable def ir49_s2:IR:=pk [1,1,1,1,1] (irB prog 49)
noncomputable def ir49_s1:IR:=pk [1,1,1,1,0,1,0,0] (irB prog 49)
noncomputable def ir49_s0:IR:=pk [1,1,1,1] (irB prog 49)
noncomputable def ir49:IR:=irB prog 49
theorem fir49:fir prog 49=some ⟨68,4,[(.cell 8 34)],ir49⟩:=by kernel_rfl
noncomputable def ir54:IR:=irB prog 54
theorem fir54:fir prog 54=some ⟨12,1,[(.cell 2 34)],ir54⟩:=by kernel_rfl
noncomputable def ir56:IR:=irB prog 56
theorem fir56:fir prog 56=some ⟨5,1,[(.tmp 2)],ir56⟩:=by kernel_rfl
noncomputable def ir60_s1:IR:=pk [1,1,1,1] (irB prog 60)
noncomputable def ir60_s0:IR:=pk [1,1,1,0,1,0,0] (irB prog 60)
noncomputable def ir60:IR:=irB prog 60
theorem fir60:fir prog 60=some ⟨37,2,[(.tmp 4)],ir60⟩:=by kernel_rfl
noncomputable def ir61:IR:=irB prog 61
theorem fir61:fir prog 61=some ⟨4,1,[(.tmp 2)],ir61⟩:=by kernel_rfl
noncomputable def ir62:IR:=irB prog 62
theorem fir62:fir prog 62=some ⟨98,1,[(.cell 2 34)],ir62⟩:=by kernel_rfl
noncomputable def ir63_s0:IR:=pk [1,1,1] (irB prog 63)
noncomputable def ir63:IR:=irB prog 63
theorem fir63:fir prog 63=some ⟨17,1,[(.tmp 2)],ir63⟩:=by kernel_rfl
noncomputable def ir63_0:IR:=(.ops [⟨some 4,none,.eff,(.alloc 34),0⟩,⟨none,none,.eff,(.store 34 (.tmp 4) (.tmp 7)),0⟩])
theorem comp63_0:comp prog (subC prog 63 0)=ir63_0:=by kernel_rfl
noncomputable def ir63_1:IR:=(.block 1 (.seq (.ops [⟨some 8,none,.take,(.fieldAddr 34 (.tmp 4) 0),0⟩,⟨some 9,none,.take,(.load 3 (.tmp 8)),3⟩,⟨some 10,none,.take,(.binOp .eql 3 (.tmp 9) (.const (.int .i64 14)) 3),4⟩]) (.cond (.tmp 10) (.ops [⟨some 11,none,.take,(.load 23 (.tmp 3)),23⟩,⟨some 12,none,.take,(.fieldAddr 34 (.tmp 4) 1),0⟩,⟨some 13,none,.take,(.load 3 (.tmp 12)),3⟩,⟨some 14,none,.eff,(.buildSlice 23 1 #[(0,(.tmp 13))]),23⟩,⟨some 15,none,.eff,(.call ⟨(.builtin .append),#[(.tmp 11),(.tmp 14)],#[23,23]⟩),23⟩,⟨none,none,.eff,(.store 23 (.tmp 3) (.tmp 15)),0⟩]) .skip)))
theorem comp63_1:comp prog (subC prog 63 1)=ir63_1:=by kernel_rfl
noncomputable def ir64:IR:=irB prog 64
theorem fir64:fir prog 64=some ⟨13,2,[(.cell 4 60)],ir64⟩:=by kernel_rfl
noncomputable def ir65:IR:=irB prog 65
theorem fir65:fir prog 65=some ⟨2,0,[(.tmp 0)],ir65⟩:=by kernel_rfl
noncomputable def ir66:IR:=irB prog 66
theorem fir66:fir prog 66=some ⟨2,0,[(.tmp 0)],ir66⟩:=by kernel_rfl
noncomputable def ir67:IR:=irB prog 67
theorem fir67:fir prog 67=some ⟨15,2,[(.tmp 4)],ir67⟩:=by kernel_rfl
noncomputable def ir68:IR:=irB prog 68
theorem fir68:fir prog 68=some ⟨2,0,[(.tmp 0)],ir68⟩:=by kernel_rfl
noncomputable def qT:IR:=pk [1,1,1,1] (irB prog 69)
noncomputable def ir69_s4:IR:=pk [1,1,1,0,1,0,1,1,1,1,1,1,1,1,1,1,1,1,1,1,1,1,1,1,1,1,1,1,1] (irB prog 69)
noncomputable def ir69_s3:IR:=pk [1,1,1,0,1,0,1,1,1,1,1,1,1] (irB prog 69)
noncomputable def ir69_s2:IR:=pk [1,1,1,0,1,0,1,1,1] (irB prog 69)
noncomputable def qU:IR:=pk [1,1,1,0,1,0,1] (irB prog 69)
noncomputable def ir69:IR:=irB prog 69
theorem fir69:fir prog 69=some ⟨133,2,[(.cell 4 77)],ir69⟩:=by kernel_rfl
noncomputable def ir70_s0:IR:=pk [1,1,1,1,1,1,0,1,0,0] (irB prog 70)
noncomputable def ir70_s3:IR:=pk [1,1,1,1,1,1,1,1] (irB prog 70)
noncomputable def ir70_s2:IR:=pk [1,1,1,1,1,1,1,0,1,0,0] (irB prog 70)
noncomputable def ir70_s1:IR:=pk [1,1,1,1,1,1,1] (irB prog 70)
noncomputable def ir70:IR:=irB prog 70
theorem fir70:fir prog 70=some ⟨110,1,[(.cell 2 102),(.tmp 3)],ir70⟩:=by kernel_rfl
noncomputable def ir71:IR:=irB prog 71
theorem fir71:fir prog 71=some ⟨15,2,[(.tmp 4)],ir71⟩:=by kernel_rfl
noncomputable def ir73_s1:IR:=pk [1,1,1,1] (irB prog 73)
noncomputable def ir73_s0:IR:=pk [1,1,1,0,1,0,0] (irB prog 73)
noncomputable def ir73:IR:=irB prog 73
theorem fir73:fir prog 73=some ⟨29,2,[(.tmp 4)],ir73⟩:=by kernel_rfl
noncomputable def ir74:IR:=irB prog 74
theorem fir74:fir prog 74=some ⟨8,1,[(.cell 2 31)],ir74⟩:=by kernel_rfl
noncomputable def ir75:IR:=irB prog 75
theorem fir75:fir prog 75=some ⟨6,1,[(.tmp 2)],ir75⟩:=by kernel_rfl
noncomputable def ir76:IR:=irB prog 76
theorem fir76:fir prog 76=some ⟨8,2,[],ir76⟩:=by kernel_rfl
noncomputable def ir77_s2:IR:=pk [1,1,1,0,1,0,1,1,1,1,1,1] (irB prog 77)
noncomputable def ir77_s1:IR:=pk [1,1,1,1,0,1,0,0] (irB prog 77)
noncomputable def ir77_s0:IR:=pk [1,1,1,1] (irB prog 77)
noncomputable def ir77:IR:=irB prog 77
theorem fir77:fir prog 77=some ⟨52,2,[(.tmp 4)],ir77⟩:=by kernel_rfl
noncomputable def ir78:IR:=irB prog 78
theorem fir78:fir prog 78=some ⟨12,2,[(.cell 4 34)],ir78⟩:=by kernel_rfl
noncomputable def ir79:IR:=irB prog 79
theorem fir79:fir prog 79=some ⟨4,1,[(.tmp 2)],ir79⟩:=by kernel_rfl
noncomputable def ir80:IR:=irB prog 80
theorem fir80:fir prog 80=some ⟨8,1,[(.tmp 2)],ir80⟩:=by kernel_rfl
noncomputable def ir81:IR:=irB prog 81
theorem fir81:fir prog 81=some ⟨25,3,[(.cell 6 77)],ir81⟩:=by kernel_rfl
noncomputable def ir82:IR:=irB prog 82
theorem fir82:fir prog 82=some ⟨14,2,[(.cell 4 31)],ir82⟩:=by kernel_rfl
noncomputable def ir83_s3:IR:=pk [1,1,1,1] (irB prog 83)
noncomputable def ir83_s0:IR:=pk [1,1,0,1,0,0] (irB prog 83)
noncomputable def ir83_s2:IR:=pk [1,1,1,0,1,0,0] (irB prog 83)
noncomputable def ir83_s1:IR:=pk [1,1,1] (irB prog 83)
noncomputable def ir83:IR:=irB prog 83
theorem fir83:fir prog 83=some ⟨42,1,[(.tmp 2),(.tmp 3)],ir83⟩:=by kernel_rfl
noncomputable def ir84_s1:IR:=pk [1,1] (irB prog 84)
noncomputable def ir84_s0:IR:=pk [1,0,1,0,0] (irB prog 84)
noncomputable def ir84:IR:=irB prog 84
theorem fir84:fir prog 84=some ⟨18,1,[(.tmp 2)],ir84⟩:=by kernel_rfl
noncomputable def ir85_s1:IR:=pk [1,1] (irB prog 85)
noncomputable def ir85_s0:IR:=pk [1,0,1,0,0] (irB prog 85)
noncomputable def ir85:IR:=irB prog 85
theorem fir85:fir prog 85=some ⟨19,2,[(.tmp 4)],ir85⟩:=by kernel_rfl
noncomputable def ir86_s3:IR:=pk [1,1,1,1] (irB prog 86)
noncomputable def ir86_s2:IR:=pk [1,1,1,0,1,0,0] (irB prog 86)
noncomputable def ir86_s0:IR:=pk [1,1,1] (irB prog 86)
noncomputable def ir86_s1:IR:=pk [1,1,0,1,0,1,1,1,1,1] (irB prog 86)
noncomputable def ir86:IR:=irB prog 86
theorem fir86:fir prog 86=some ⟨117,2,[(.cell 4 34)],ir86⟩:=by kernel_rfl
noncomputable def ir87_s5:IR:=pk [1,1,1,1,1] (irB prog 87)
noncomputable def ir87_s3:IR:=pk [1,1,1,0,1,0,0,1,1] (irB prog 87)
noncomputable def ir87_s7:IR:=pk [1,1,1,0,1,0,0,1,0,0,1,0,0,1,1] (irB prog 87)
noncomputable def ir87_s4:IR:=pk [1,1,1,1,0,1,0,0] (irB prog 87)
noncomputable def ir87_s1:IR:=pk [1,1,1,1] (irB prog 87)
noncomputable def ir87_s6:IR:=pk [1,1,1,0,1,0,0,1,0,0,1,0,0,1,0,0,1,0,0] (irB prog 87)
noncomputable def ir87_s2:IR:=pk [1,1,1,0,1,0,0,1,0,0,1,0,0] (irB prog 87)
noncomputable def ir87_s0:IR:=pk [1,1,1,0,1,0,0] (irB prog 87)
noncomputable def ir87:IR:=irB prog 87
theorem fir87:fir prog 87=some ⟨71,1,[(.tmp 2)],ir87⟩:=by kernel_rfl
noncomputable def ir88_s1:IR:=pk [1,1,1,1] (irB prog 88)
noncomputable def ir88_s0:IR:=pk [1,1,1,0,1,0,0] (irB prog 88)
noncomputable def ir88:IR:=irB prog 88
theorem fir88:fir prog 88=some ⟨29,2,[(.tmp 4)],ir88⟩:=by kernel_rfl
noncomputable def ir89_s1:IR:=pk [1,1,1,1] (irB prog 89)
noncomputable def ir89_s0:IR:=pk [1,1,1,0,1,0,0] (irB prog 89)
noncomputable def ir89:IR:=irB prog 89
theorem fir89:fir prog 89=some ⟨31,2,[(.tmp 4)],ir89⟩:=by kernel_rfl
noncomputable def ir90:IR:=irB prog 90
theorem fir90:fir prog 90=some ⟨6,2,[],ir90⟩:=by kernel_rfl
noncomputable def ir91_s2:IR:=pk [1,1,1,0,1,0,1,1,1,1] (irB prog 91)
noncomputable def ir91_s1:IR:=pk [1,1,1,1,0,1,0,0] (irB prog 91)
noncomputable def ir91_s0:IR:=pk [1,1,1,1] (irB prog 91)
noncomputable def ir91:IR:=irB prog 91
theorem fir91:fir prog 91=some ⟨37,2,[(.tmp 4)],ir91⟩:=by kernel_rfl
noncomputable def ir92:IR:=irB prog 92
theorem fir92:fir prog 92=some ⟨70,2,[(.cell 4 31)],ir92⟩:=by kernel_rfl
noncomputable def ir93:IR:=irB prog 93
theorem fir93:fir prog 93=some ⟨17,3,[(.tmp 6)],ir93⟩:=by kernel_rfl
noncomputable def ir94_s2:IR:=pk [1,1,1,1] (irB prog 94)
noncomputable def ir94_s1:IR:=pk [1,1,1,0,1,0,0] (irB prog 94)
noncomputable def ir94_s0:IR:=pk [1,1,1] (irB prog 94)
noncomputable def ir94:IR:=irB prog 94
theorem fir94:fir prog 94=some ⟨44,2,[(.cell 4 31)],ir94⟩:=by kernel_rfl
noncomputable def ir95_s1:IR:=pk [1,1,1,1] (irB prog 95)
noncomputable def ir95_s0:IR:=pk [1,1,1,0,1,0,0] (irB prog 95)
noncomputable def ir95:IR:=irB prog 95
theorem fir95:fir prog 95=some ⟨38,1,[(.tmp 2)],ir95⟩:=by kernel_rfl
noncomputable def ir96:IR:=irB prog 96
theorem fir96:fir prog 96=some ⟨15,2,[(.tmp 4)],ir96⟩:=by kernel_rfl
noncomputable def ir97:IR:=irB prog 97
theorem fir97:fir prog 97=some ⟨25,3,[(.cell 6 31)],ir97⟩:=by kernel_rfl
noncomputable def ir98_s1:IR:=pk [1,1,1,1] (irB prog 98)
noncomputable def ir98_s2:IR:=pk [1,1,1,0,1,0,0,1,0,1,1,0,0] (irB prog 98)
noncomputable def ir98_s0:IR:=pk [1,1,1,0,1,0,0] (irB prog 98)
noncomputable def ir98:IR:=irB prog 98
theorem fir98:fir prog 98=some ⟨99,1,[(.tmp 2)],ir98⟩:=by kernel_rfl
noncomputable def ir99_s0:IR:=pk [1,1,0,1,1,1,1,1,0,0] (irB prog 99)
noncomputable def ir99:IR:=irB prog 99
theorem fir99:fir prog 99=some ⟨67,3,[],ir99⟩:=by kernel_rfl
noncomputable def ir100_s3:IR:=pk [1,1,1,1] (irB prog 100)
noncomputable def ir100_s0:IR:=pk [1,1,0,1,0,0] (irB prog 100)
noncomputable def ir100_s2:IR:=pk [1,1,1,0,1,0,1,1,1,1,1,1,1,1,1] (irB prog 100)
noncomputable def ir100_s1:IR:=pk [1,1,1] (irB prog 100)
noncomputable def ir100:IR:=irB prog 100
theorem fir100:fir prog 100=some ⟨129,2,[(.tmp 4),(.tmp 5)],ir100⟩:=by kernel_rfl
theorem T_appT_22_22:bR prog 22 22=(some (38,(5,72))):=by kernel_rfl
theorem T_appT_23_23:bR prog 23 23=(some (3,(1,8))):=by kernel_rfl
theorem T_appT_29_29:bR prog 29 29=(some (31,(4,56))):=by kernel_rfl
theorem T_appT_32_32:bR prog 32 32=(some (34,(9,120))):=by kernel_rfl
theorem T_appT_55_55:bR prog 55 55=(some (60,(3,40))):=by kernel_rfl
theorem T_appT_69_69:bR prog 69 69=(some (99,(2,24))):=by kernel_rfl
theorem T_appT_70_70:bR prog 70 70=(some (9,(1,16))):=by kernel_rfl
theorem T_appT_71_71:bR prog 71 71=(some (79,(9,136))):=by kernel_rfl
theorem T_appT_135_135:bR prog 135 135=(some (137,(1,24))):=by kernel_rfl
theorem T_cnvT_3_105:cnvT prog 3 105=(some (0,((some .u64),0))):=by kernel_rfl
theorem T_esz_22:esz prog 22=(some (none,5)):=by kernel_rfl
theorem T_esz_23:esz prog 23=(some (none,1)):=by kernel_rfl
theorem T_esz_29:esz prog 29=(some (none,4)):=by kernel_rfl
theorem T_esz_32:esz prog 32=(some (none,9)):=by kernel_rfl
theorem T_esz_36:esz prog 36=(some (none,3)):=by kernel_rfl
theorem T_esz_50:esz prog 50=(some (none,1)):=by kernel_rfl
theorem T_esz_55:esz prog 55=(some (none,3)):=by kernel_rfl
theorem T_esz_69:esz prog 69=(some (none,2)):=by kernel_rfl
theorem T_esz_70:esz prog 70=(some (none,1)):=by kernel_rfl
theorem T_esz_71:esz prog 71=(some (none,9)):=by kernel_rfl
theorem T_esz_75:esz prog 75=(some (none,8)):=by kernel_rfl
theorem T_esz_135:esz prog 135=(some (none,1)):=by kernel_rfl
theorem T_esz_137:esz prog 137=(some (none,1)):=by kernel_rfl
theorem T_esz_146:esz prog 146=(some ((some 2),1)):=by kernel_rfl
theorem T_fld_31_0:fld prog 31 0=(some 0):=by kernel_rfl
theorem T_fld_31_1:fld prog 31 1=(some 1):=by kernel_rfl
theorem T_fld_31_2:fld prog 31 2=(some 2):=by kernel_rfl
theorem T_fld_31_3:fld prog 31 3=(some 3):=by kernel_rfl
theorem T_fld_34_0:fld prog 34 0=(some 0):=by kernel_rfl
theorem T_fld_34_1:fld prog 34 1=(some 1):=by kernel_rfl
theorem T_fld_34_2:fld prog 34 2=(some 2):=by kernel_rfl
theorem T_fld_34_3:fld prog 34 3=(some 3):=by kernel_rfl
theorem T_fld_34_4:fld prog 34 4=(some 4):=by kernel_rfl
theorem T_fld_34_5:fld prog 34 5=(some 8):=by kernel_rfl
theorem T_fld_38_0:fld prog 38 0=(some 0):=by kernel_rfl
theorem T_fld_38_1:fld prog 38 1=(some 1):=by kernel_rfl
theorem T_fld_38_2:fld prog 38 2=(some 2):=by kernel_rfl
theorem T_fld_38_3:fld prog 38 3=(some 3):=by kernel_rfl
theorem T_fld_38_4:fld prog 38 4=(some 4):=by kernel_rfl
theorem T_fld_53_0:fld prog 53 0=(some 0):=by kernel_rfl
theorem T_fld_53_2:fld prog 53 2=(some 2):=by kernel_rfl
theorem T_fld_60_1:fld prog 60 1=(some 1):=by kernel_rfl
theorem T_fld_60_2:fld prog 60 2=(some 2):=by kernel_rfl
theorem T_fld_73_0:fld prog 73 0=(some 0):=by kernel_rfl
theorem T_fld_73_1:fld prog 73 1=(some 1):=by kernel_rfl
theorem T_fld_73_2:fld prog 73 2=(some 2):=by kernel_rfl
theorem T_fld_77_0:fld prog 77 0=(some 0):=by kernel_rfl
theorem T_fld_77_1:fld prog 77 1=(some 1):=by kernel_rfl
theorem T_fld_77_2:fld prog 77 2=(some 2):=by kernel_rfl
theorem T_fld_77_3:fld prog 77 3=(some 3):=by kernel_rfl
theorem T_fld_77_4:fld prog 77 4=(some 7):=by kernel_rfl
theorem T_fld_79_0:fld prog 79 0=(some 0):=by kernel_rfl
theorem T_fld_79_1:fld prog 79 1=(some 1):=by kernel_rfl
theorem T_fld_95_0:fld prog 95 0=(some 0):=by kernel_rfl
theorem T_fld_95_1:fld prog 95 1=(some 9):=by kernel_rfl
theorem T_fld_95_2:fld prog 95 2=(some 18):=by kernel_rfl
theorem T_fld_99_0:fld prog 99 0=(some 0):=by kernel_rfl
theorem T_fld_99_1:fld prog 99 1=(some 1):=by kernel_rfl
theorem T_fld_102_0:fld prog 102 0=(some 0):=by kernel_rfl
theorem T_fld_102_2:fld prog 102 2=(some 2):=by kernel_rfl
theorem T_fld_102_3:fld prog 102 3=(some 3):=by kernel_rfl
theorem T_fld_124_0:fld prog 124 0=(some 0):=by kernel_rfl
theorem T_fld_124_1:fld prog 124 1=(some 1):=by kernel_rfl
theorem T_fld_124_2:fld prog 124 2=(some 2):=by kernel_rfl
theorem T_fld_124_3:fld prog 124 3=(some 3):=by kernel_rfl
theorem T_fld_133_0:fld prog 133 0=(some 0):=by kernel_rfl
theorem T_fld_133_1:fld prog 133 1=(some 1):=by kernel_rfl
theorem T_fld_133_2:fld prog 133 2=(some 2):=by kernel_rfl
theorem T_fld_142_0:fld prog 142 0=(some 0):=by kernel_rfl
theorem T_fld_142_1:fld prog 142 1=(some 1):=by kernel_rfl
theorem T_fld_142_2:fld prog 142 2=(some 2):=by kernel_rfl
theorem T_isSlc_23:isSlc prog 23=true:=by kernel_rfl
theorem T_knd_3:knd prog 3=(some (false,0)):=by kernel_rfl
theorem T_knd_4:knd prog 4=(some (false,0)):=by kernel_rfl
theorem T_knd_9:knd prog 9=(some (false,0)):=by kernel_rfl
theorem T_knd_22:knd prog 22=(some (false,0)):=by kernel_rfl
theorem T_knd_23:knd prog 23=(some (false,0)):=by kernel_rfl
theorem T_knd_29:knd prog 29=(some (false,0)):=by kernel_rfl
theorem T_knd_31:knd prog 31=(some (true,4)):=by kernel_rfl
theorem T_knd_32:knd prog 32=(some (false,0)):=by kernel_rfl
theorem T_knd_34:knd prog 34=(some (true,9)):=by kernel_rfl
theorem T_knd_36:knd prog 36=(some (false,0)):=by kernel_rfl
theorem T_knd_38:knd prog 38=(some (true,5)):=by kernel_rfl
theorem T_knd_55:knd prog 55=(some (false,0)):=by kernel_rfl
theorem T_knd_60:knd prog 60=(some (true,3)):=by kernel_rfl
theorem T_knd_69:knd prog 69=(some (false,0)):=by kernel_rfl
theorem T_knd_70:knd prog 70=(some (false,0)):=by kernel_rfl
theorem T_knd_71:knd prog 71=(some (false,0)):=by kernel_rfl
theorem T_knd_73:knd prog 73=(some (true,3)):=by kernel_rfl
theorem T_knd_75:knd prog 75=(some (false,0)):=by kernel_rfl
theorem T_knd_77:knd prog 77=(some (true,8)):=by kernel_rfl
theorem T_knd_79:knd prog 79=(some (true,9)):=by kernel_rfl
theorem T_knd_95:knd prog 95=(some (true,19)):=by kernel_rfl
theorem T_knd_102:knd prog 102=(some (true,4)):=by kernel_rfl
theorem T_knd_133:knd prog 133=(some (true,3)):=by kernel_rfl
theorem T_knd_137:knd prog 137=(some (false,0)):=by kernel_rfl
theorem T_lnT_22:lnT prog 22=(some false):=by kernel_rfl
theorem T_lnT_23:lnT prog 23=(some false):=by kernel_rfl
theorem T_lnT_29:lnT prog 29=(some false):=by kernel_rfl
theorem T_lnT_32:lnT prog 32=(some false):=by kernel_rfl
theorem T_lnT_36:lnT prog 36=(some false):=by kernel_rfl
theorem T_lnT_55:lnT prog 55=(some false):=by kernel_rfl
theorem T_lnT_69:lnT prog 69=(some false):=by kernel_rfl
theorem T_lnT_70:lnT prog 70=(some false):=by kernel_rfl
theorem T_lnT_71:lnT prog 71=(some false):=by kernel_rfl
theorem T_lnT_75:lnT prog 75=(some false):=by kernel_rfl
theorem T_lnT_135:lnT prog 135=(some false):=by kernel_rfl
theorem T_mkT_29:mkT prog 29=(some (31,(4,(56,[(.int .i64 0),(.int .i64 0),(.string (Tx [])),(.slice none 0 0)])))):=by kernel_rfl
theorem T_mkT_32:mkT prog 32=(some (34,(9,(120,[(.int .i64 0),(.int .i64 0),(.int .i64 0),(.string (Tx [])),(.int .i64 0),(.int .i64 0),(.string (Tx [])),(.slice none 0 0),(.slice none 0 0)])))):=by kernel_rfl
theorem T_mkT_137:mkT prog 137=(some (4,(1,(1,[(.bool false)])))):=by kernel_rfl
theorem T_plc_31:plc prog 31=(some ([(0,1),(1,1),(2,1),(3,1)],[(.int .i64 0),(.int .i64 0),(.string (Tx [])),(.slice none 0 0)])):=by kernel_rfl
theorem T_plc_34:plc prog 34=(some ([(0,1),(1,1),(2,1),(3,1),(4,4),(8,1)],[(.int .i64 0),(.int .i64 0),(.int .i64 0),(.string (Tx [])),(.int .i64 0),(.int .i64 0),(.string (Tx [])),(.slice none 0 0),(.slice none 0 0)])):=by kernel_rfl
theorem T_plc_53:plc prog 53=(some ([(0,1),(1,1),(2,1)],[(.int .i64 0),(.int .i64 0),(.slice none 0 0)])):=by kernel_rfl
theorem T_plc_60:plc prog 60=(some ([(0,1),(1,1),(2,1)],[(.int .i64 0),(.slice none 0 0),(.int .i64 0)])):=by kernel_rfl
theorem T_plc_73:plc prog 73=(some ([(0,1),(1,1),(2,1)],[(.slice none 0 0),(.slice none 0 0),(.slice none 0 0)])):=by kernel_rfl
theorem T_plc_77:plc prog 77=(some ([(0,1),(1,1),(2,1),(3,4),(7,1)],[(.int .i64 0),(.string (Tx [])),(.string (Tx [])),(.int .i64 0),(.int .i64 0),(.string (Tx [])),(.slice none 0 0),(.slice none 0 0)])):=by kernel_rfl
theorem T_plc_79:plc prog 79=(some ([(0,1),(1,8)],[(.string (Tx [])),(.int .i64 0),(.string (Tx [])),(.string (Tx [])),(.int .i64 0),(.int .i64 0),(.string (Tx [])),(.slice none 0 0),(.slice none 0 0)])):=by kernel_rfl
theorem T_plc_99:plc prog 99=(some ([(0,1),(1,1)],[(.string (Tx [])),(.int .i64 0)])):=by kernel_rfl
theorem T_plc_102:plc prog 102=(some ([(0,1),(1,1),(2,1),(3,1)],[(.slice none 0 0),(.int .i64 0),(.slice none 0 0),(.int .i64 0)])):=by kernel_rfl
theorem T_plc_124:plc prog 124=(some ([(0,1),(1,1),(2,1),(3,1)],[(.slice none 0 0),(.slice none 0 0),(.slice none 0 0),(.bool false)])):=by kernel_rfl
theorem T_plc_142:plc prog 142=(some ([(0,1),(1,1),(2,1)],[(.slice none 0 0),(.slice none 0 0),(.slice none 0 0)])):=by kernel_rfl
theorem T_slcT_32:slcT prog 32=(some (some (34,9))):=by kernel_rfl
theorem T_szT_3:szT prog 3=(some 1):=by kernel_rfl
theorem T_szT_4:szT prog 4=(some 1):=by kernel_rfl
theorem T_szT_9:szT prog 9=(some 1):=by kernel_rfl
theorem T_szT_23:szT prog 23=(some 1):=by kernel_rfl
theorem T_szT_29:szT prog 29=(some 1):=by kernel_rfl
theorem T_szT_31:szT prog 31=(some 4):=by kernel_rfl
theorem T_szT_32:szT prog 32=(some 1):=by kernel_rfl
theorem T_szT_34:szT prog 34=(some 9):=by kernel_rfl
theorem T_szT_55:szT prog 55=(some 1):=by kernel_rfl
theorem T_szT_60:szT prog 60=(some 3):=by kernel_rfl
theorem T_szT_69:szT prog 69=(some 1):=by kernel_rfl
theorem T_szT_71:szT prog 71=(some 1):=by kernel_rfl
theorem T_szT_73:szT prog 73=(some 3):=by kernel_rfl
theorem T_szT_77:szT prog 77=(some 8):=by kernel_rfl
theorem T_szT_79:szT prog 79=(some 9):=by kernel_rfl
theorem T_szT_95:szT prog 95=(some 19):=by kernel_rfl
theorem T_szT_102:szT prog 102=(some 4):=by kernel_rfl
theorem T_zro_3:zro prog 3=(some [(.int .i64 0)]):=by kernel_rfl
theorem T_zro_23:zro prog 23=(some [(.slice none 0 0)]):=by kernel_rfl
theorem T_zro_31:zro prog 31=(some [(.int .i64 0),(.int .i64 0),(.string (Tx [])),(.slice none 0 0)]):=by kernel_rfl
theorem T_zro_34:zro prog 34=(some [(.int .i64 0),(.int .i64 0),(.int .i64 0),(.string (Tx [])),(.int .i64 0),(.int .i64 0),(.string (Tx [])),(.slice none 0 0),(.slice none 0 0)]):=by kernel_rfl
theorem T_zro_55:zro prog 55=(some [(.slice none 0 0)]):=by kernel_rfl
theorem T_zro_60:zro prog 60=(some [(.int .i64 0),(.slice none 0 0),(.int .i64 0)]):=by kernel_rfl
theorem T_zro_73:zro prog 73=(some [(.slice none 0 0),(.slice none 0 0),(.slice none 0 0)]):=by kernel_rfl
theorem T_zro_77:zro prog 77=(some [(.int .i64 0),(.string (Tx [])),(.string (Tx [])),(.int .i64 0),(.int .i64 0),(.string (Tx [])),(.slice none 0 0),(.slice none 0 0)]):=by kernel_rfl
theorem T_zro_79:zro prog 79=(some [(.string (Tx [])),(.int .i64 0),(.string (Tx [])),(.string (Tx [])),(.int .i64 0),(.int .i64 0),(.string (Tx [])),(.slice none 0 0),(.slice none 0 0)]):=by kernel_rfl
theorem T_zro_95:zro prog 95=(some [(.int .i64 0),(.int .i64 0),(.int .i64 0),(.string (Tx [])),(.int .i64 0),(.int .i64 0),(.string (Tx [])),(.slice none 0 0),(.slice none 0 0),(.int .i64 0),(.int .i64 0),(.int .i64 0),(.string (Tx [])),(.int .i64 0),(.int .i64 0),(.string (Tx [])),(.slice none 0 0),(.slice none 0 0),(.slice none 0 0)]):=by kernel_rfl
theorem T_zro_102:zro prog 102=(some [(.slice none 0 0),(.int .i64 0),(.slice none 0 0),(.int .i64 0)]):=by kernel_rfl
theorem T_zro_146:zro prog 146=(some [(.bool false),(.bool false)]):=by kernel_rfl
attribute [push_cast] T_appT_22_22 T_appT_23_23 T_appT_29_29 T_appT_32_32 T_appT_55_55 T_appT_69_69 T_appT_70_70 T_appT_71_71 T_appT_135_135 T_cnvT_3_105 T_esz_22 T_esz_23 T_esz_29 T_esz_32 T_esz_36 T_esz_50 T_esz_55 T_esz_69 T_esz_70 T_esz_71 T_esz_75 T_esz_135 T_esz_137 T_esz_146 T_fld_31_0 T_fld_31_1 T_fld_31_2 T_fld_31_3 T_fld_34_0 T_fld_34_1 T_fld_34_2 T_fld_34_3 T_fld_34_4 T_fld_34_5 T_fld_38_0 T_fld_38_1 T_fld_38_2 T_fld_38_3 T_fld_38_4 T_fld_53_0 T_fld_53_2 T_fld_60_1 T_fld_60_2 T_fld_73_0 T_fld_73_1 T_fld_73_2 T_fld_77_0 T_fld_77_1 T_fld_77_2 T_fld_77_3 T_fld_77_4 T_fld_79_0 T_fld_79_1 T_fld_95_0 T_fld_95_1 T_fld_95_2 T_fld_99_0 T_fld_99_1 T_fld_102_0 T_fld_102_2 T_fld_102_3 T_fld_124_0 T_fld_124_1 T_fld_124_2 T_fld_124_3 T_fld_133_0 T_fld_133_1 T_fld_133_2 T_fld_142_0 T_fld_142_1 T_fld_142_2 T_isSlc_23 T_knd_3 T_knd_4 T_knd_9 T_knd_22 T_knd_23 T_knd_29 T_knd_31 T_knd_32 T_knd_34 T_knd_36 T_knd_38 T_knd_55 T_knd_60 T_knd_69 T_knd_70 T_knd_71 T_knd_73 T_knd_75 T_knd_77 T_knd_79 T_knd_95 T_knd_102 T_knd_133 T_knd_137 T_lnT_22 T_lnT_23 T_lnT_29 T_lnT_32 T_lnT_36 T_lnT_55 T_lnT_69 T_lnT_70 T_lnT_71 T_lnT_75 T_lnT_135 T_mkT_29 T_mkT_32 T_mkT_137 T_plc_31 T_plc_34 T_plc_53 T_plc_60 T_plc_73 T_plc_77 T_plc_79 T_plc_99 T_plc_102 T_plc_124 T_plc_142 T_slcT_32 T_szT_3 T_szT_4 T_szT_9 T_szT_23 T_szT_29 T_szT_31 T_szT_32 T_szT_34 T_szT_55 T_szT_60 T_szT_69 T_szT_71 T_szT_73 T_szT_77 T_szT_79 T_szT_95 T_szT_102 T_zro_3 T_zro_23 T_zro_31 T_zro_34 T_zro_55 T_zro_60 T_zro_73 T_zro_77 T_zro_79 T_zro_95 T_zro_102 T_zro_146
abbrev NGG:Nat:=0
theorem funcs_ok:prog.funcs.all (okFunc 0)=true:=by kernel_rfl
theorem mixed:prog.follows .mixedOrders=true:=by kernel_rfl
theorem funcs_ok' (g:Nat) (fn:Func) (h:prog.funcs[g]?=some fn):okFunc 0 fn=true:=by
 have:=funcs_ok
 rw[Array.all_eq_true_iff_forall_mem] at this
 exact this fn (Array.mem_of_getElem? h)
@[reducible] noncomputable def pp (G:Nat×Nat):Par:=⟨prog,0,G.1,G.2,fun _=>0,fun _=>.empty⟩
theorem jQ (G:Nat×Nat):GoodP (pp G):=⟨funcs_ok',mixed⟩
def LL:List (Nat×List Value):=[]
theorem LL_ok:okPl LL=true:=by kernel_rfl
def H0:jA:=laidH 1 LL
theorem qW:H0.lo=1:=rfl
theorem H0_next:H0.next=1:=rfl
@[reducible] def qq:Q:=⟨fun _=>false,H0⟩
end
end Go.Proofs.Ytgeakofgklcipaa
