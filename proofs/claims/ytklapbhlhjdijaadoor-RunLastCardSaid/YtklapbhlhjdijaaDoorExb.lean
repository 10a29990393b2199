/-
  A part of the proof: conditions over an abstract memory, and that they are enough for what the model's calls do. No condition of its own.
-/
import Derived.Test.YtklapbhlhjdijaaDoorExa
set_option linter.unusedSimpArgs false
set_option linter.unusedVariables false
namespace Go.Proofs.YtklapbhlhjdijaaDoor
open Go.RowKit Go.Ev Go.Dv
set_option maxRecDepth 100000
noncomputable section
variable (G:Nat×Nat) (ro:Option Nat) (df:List Nat) (h:jA) (a0 a1 a2 a3 a4 a5 a6 a7:Value) (R:Value→jA→Prop) (T:jL→S→Prop) (b c d e f g i j k l m n o p q r s t u w x y z B C D E F I:Value)
section
variable (b c d e f g i j k l m n o p q r s t u w x y z B C D E F I:Value:=ud)
def F5:VT:=⟨5,(nd (nd (lf e) c .nil) b (nd (lf f) d .nil))⟩
def F8:VT:=⟨8,(nd (nd (nd (lf j) e .nil) c (lf g)) b (nd (lf f) d (lf i)))⟩
def F12:VT:=⟨12,(nd (nd (nd (lf j) e (lf n)) c (nd (lf l) g .nil)) b (nd (nd (lf k) f .nil) d (nd (lf m) i .nil)))⟩
def F29:VT:=⟨29,(nd (nd (nd (nd (lf r) j (lf B)) e (nd (lf w) n (lf F))) c (nd (nd (lf t) l (lf D)) g (nd (lf y) p .nil))) b (nd (nd (nd (lf s) k (lf C)) f (nd (lf x) o (lf I))) d (nd (nd (lf u) m (lf E)) i (nd (lf z) q .nil))))⟩
end
theorem pT0:(F5 b c d e f).arr=⟨[b,c,d,e,f]⟩:=by kernel_rfl
theorem pS0:(F8 b c d e f g i j).arr=⟨[b,c,d,e,f,g,i,j]⟩:=by kernel_rfl
theorem nN0:(F12 b c d e f g i j k l m n).arr=⟨[b,c,d,e,f,g,i,j,k,l,m,n]⟩:=by kernel_rfl
theorem bE0:(F29 b c d e f g i j k l m n o p q r s t u w x y z B C D E F I).arr=⟨[b,c,d,e,f,g,i,j,k,l,m,n,o,p,q,r,s,t,u,w,x,y,z,B,C,D,E,F,I]⟩:=by kernel_rfl
@[push_cast]theorem F29_g4:(F29 b c d e f g i j k l m n o p q r s t u w x y z B C D E F I).get 4=f:=by kernel_rfl
theorem sB1:dc3 (pp G) qq none ir25 ⟨(F12 a0),[],h⟩ (jG Tryd.prog [(.cell 2 29)] R)=(@oY 29 a0 h ⟨fun Vb Hb=>@eA 29 Hb ⟨fun Vc Hc=>@fP 29 4 Vb Hc ⟨fun Vd Hd=>@lP 27 Vd Hd ⟨fun Ve He=>@cQ G 44 [Ve] He ⟨fun Vf Hf=>@fP 29 4 Vb Hf ⟨fun Vg Hg=>@oZ 27 Vg Vf Hg ⟨fun Vh Hh=>@fP 29 5 Vb Hh ⟨fun Vi Hj=>@lP 24 Vi Hj ⟨fun Vj Hk=>@cQ G 45 [Vj] Hk ⟨fun Vk Hl=>@fP 29 5 Vb Hl ⟨fun Vl Hm=>@oZ 24 Vl Vk Hm ⟨fun Vm Hn=>@lP 29 Vb Hn ⟨fun Vn Ho=>@oZ 29 Vc Vn Ho ⟨fun Vo Hp=>oP (bY [jJ Tryd.prog 29 Vc Hp]) Hp R⟩⟩⟩⟩⟩⟩⟩⟩⟩⟩⟩⟩⟩⟩):=by kernel_rfl
theorem rJ1:dc3 (pp G) qq none ir44 ⟨(F8 a0),[],h⟩ (jG Tryd.prog [(.cell 2 27)] R)=(@oY 27 a0 h ⟨fun Vb Hb=>@eA 27 Hb ⟨fun Vc Hc=>@fP 27 3 Vb Hc ⟨fun Vd Hd=>@lP 25 Vd Hd ⟨fun Ve He=>jD (pp G) qq.H (.func (.func 62) #[] #[]) [Ve,(.func (.func 44) #[] #[])] He (@kB ⟨fun _=>(@kk ⟨fun Vf Hf=>@fP 27 3 Vb Hf ⟨fun Vg Hg=>@oZ 25 Vg Vf Hg ⟨fun Vh Hh=>@lP 27 Vb Hh ⟨fun Vi Hj=>@oZ 27 Vc Vi Hj ⟨fun Vj Hk=>oP (bY [jJ Tryd.prog 27 Vc Hk]) Hk R⟩⟩⟩⟩⟩)⟩)⟩⟩⟩⟩):=by kernel_rfl
theorem uT1:dc3 (pp G) qq none ir45 ⟨(F5 a0),[],h⟩ (jG Tryd.prog [(.tmp 2)] R)=(oP (some (.slice none 0 0)) h (@kk ⟨fun Vb Hb=>jD (pp G) qq.H (.func (.func 63) #[] #[]) [a0,(.func (.func 25) #[] #[])] Hb (@kB ⟨fun _=>(@kk ⟨fun Vc Hc=>R Vc Hc⟩)⟩)⟩)):=by kernel_rfl
theorem pS1:dc3 (pp G) qq none ir62 ⟨(F29 a0 a1),[],h⟩ (jG Tryd.prog [(.tmp 4)] R)=(oP (some (.slice none 0 0)) h (@kk ⟨fun Vb Hb=>@nP 25 a0 Hb ⟨fun Vc Hc=>@bP .eql 9 0 Vc Hc ⟨fun Vd Hd=>@vQ Vd ⟨oP (some (.slice none 0 0)) Hd (@kk ⟨fun Ve He=>R Ve He⟩)⟩ ⟨@nP 25 a0 Hd ⟨fun Vf Hf=>oE (msE (mkT Tryd.prog 25) Vf Vf Hf) (@kk ⟨fun Vg Hg=>@nP 25 a0 Hg ⟨fun Vh Hh=>@sP (.int .i64 0) Hh ⟨fun Vi Hj=>WD (pp G) qq.H none (.loop kA1) ⟨(F29 a0 a1 ud ud Vb Vg ud ud a0 Vc Vd a0 Vf Vg a0 Vh Vi),[],Hj⟩ (@kR ⟨jU 0 (jQ (fun s1=>dc3 (pp G) qq none zZ1 s1 (@kR ⟨jG Tryd.prog [(.tmp 4)] R⟩)) (jG Tryd.prog [(.tmp 4)] R))⟩)⟩⟩⟩)⟩⟩⟩⟩⟩)):=by kernel_rfl
theorem pR1:dc3 (pp G) qq none ir63 ⟨(F29 a0 a1),[],h⟩ (jG Tryd.prog [(.tmp 4)] R)=(oP (some (.slice none 0 0)) h (@kk ⟨fun Vb Hb=>@nP 24 a0 Hb ⟨fun Vc Hc=>@bP .eql 9 0 Vc Hc ⟨fun Vd Hd=>@vQ Vd ⟨oP (some (.slice none 0 0)) Hd (@kk ⟨fun Ve He=>R Ve He⟩)⟩ ⟨@nP 24 a0 Hd ⟨fun Vf Hf=>oE (msE (mkT Tryd.prog 24) Vf Vf Hf) (@kk ⟨fun Vg Hg=>@nP 24 a0 Hg ⟨fun Vh Hh=>@sP (.int .i64 0) Hh ⟨fun Vi Hj=>WD (pp G) qq.H none (.loop zY1) ⟨(F29 a0 a1 ud ud Vb Vg ud ud a0 Vc Vd a0 Vf Vg a0 Vh Vi),[],Hj⟩ (@kR ⟨jU 0 (jQ (fun s1=>dc3 (pp G) qq none zX1 s1 (@kR ⟨jG Tryd.prog [(.tmp 4)] R⟩)) (jG Tryd.prog [(.tmp 4)] R))⟩)⟩⟩⟩)⟩⟩⟩⟩⟩)):=by kernel_rfl
theorem rK0:dc3 (pp G) qq ro kA1 ⟨(F29 b c d e f g i j k l m n o p q r s t u w x y z B C D E F I),df,h⟩ T=(@b2 .lss 16 15 s r h ⟨fun Vb Hb=>@vQ Vb ⟨@iP 25 q s Hb ⟨fun Vc Hc=>@lP 27 Vc Hc ⟨fun Vd Hd=>@eA 27 Hd ⟨fun Ve He=>@oZ 27 Ve Vd He ⟨fun Vf Hf=>@lP 27 Ve Hf ⟨fun Vg Hg=>jD (pp G) qq.H c [Vg] Hg (@kB ⟨fun _=>(@kk ⟨fun Vh Hh=>@iP 25 g s Hh ⟨fun Vi Hj=>@oZ 27 Vi Vh Hj ⟨fun Vj Hk=>@bP .add 16 1 s Hk ⟨fun Vk Hl=>T .normal ⟨(F29 b c d e f g s Ve k l m n o p q r Vk Vb s Vc Vd g s c Vg Vh Vi Vk I),df,Hl⟩⟩⟩⟩⟩)⟩)⟩⟩⟩⟩⟩⟩ ⟨T (.exit 0) ⟨(F29 b c d e f g i j k l m n o p q r s Vb u w x y z B C D E F I),df,Hb⟩⟩⟩):=by kernel_rfl
theorem rJ0:dc3 (pp G) qq ro zZ1 ⟨(F29 b c d e f g i j k l m n o p q r s t u w x y z B C D E F I),df,h⟩ T=(T .ret ⟨(F29 b c d e g g i j k l m n o p q r s t u w x y z B C D E F g),df,h⟩):=by kernel_rfl
theorem rI0:dc3 (pp G) qq ro zY1 ⟨(F29 b c d e f g i j k l m n o p q r s t u w x y z B C D E F I),df,h⟩ T=(@b2 .lss 16 15 s r h ⟨fun Vb Hb=>@vQ Vb ⟨@iP 24 q s Hb ⟨fun Vc Hc=>@lP 29 Vc Hc ⟨fun Vd Hd=>@eA 29 Hd ⟨fun Ve He=>@oZ 29 Ve Vd He ⟨fun Vf Hf=>@lP 29 Ve Hf ⟨fun Vg Hg=>jD (pp G) qq.H c [Vg] Hg (@kB ⟨fun _=>(@kk ⟨fun Vh Hh=>@iP 24 g s Hh ⟨fun Vi Hj=>@oZ 29 Vi Vh Hj ⟨fun Vj Hk=>@bP .add 16 1 s Hk ⟨fun Vk Hl=>T .normal ⟨(F29 b c d e f g s Ve k l m n o p q r Vk Vb s Vc Vd g s c Vg Vh Vi Vk I),df,Hl⟩⟩⟩⟩⟩)⟩)⟩⟩⟩⟩⟩⟩ ⟨T (.exit 0) ⟨(F29 b c d e f g i j k l m n o p q r s Vb u w x y z B C D E F I),df,Hb⟩⟩⟩):=by kernel_rfl
theorem rH0:dc3 (pp G) qq ro zX1 ⟨(F29 b c d e f g i j k l m n o p q r s t u w x y z B C D E F I),df,h⟩ T=(T .ret ⟨(F29 b c d e g g i j k l m n o p q r s t u w x y z B C D E F g),df,h⟩):=by kernel_rfl
end
end Go.Proofs.YtklapbhlhjdijaaDoor
namespace Go.Proofs.YtklapbhlhjdijaaDoor
open Go.RowKit Go.Ev Go.Dv
set_option maxRecDepth 100000
noncomputable section
variable (G:Nat×Nat) (ro:Option Nat) (df:List Nat) (h:jA) (a0 a1 a2 a3 a4 a5 a6 a7:Value) (R:Value→jA→Prop) (T:jL→S→Prop) (b c d e f g i j k l m n o p q r s t u:Value)
section
variable (b c d e f g i j k l m n o p q r s t u:Value:=ud)
def F19:VT:=⟨19,(nd (nd (nd (nd (lf r) j .nil) e (lf n)) c (nd (nd (lf t) l .nil) g (lf p))) b (nd (nd (nd (lf s) k .nil) f (lf o)) d (nd (nd (lf u) m .nil) i (lf q))))⟩
end
theorem eN0:(F19 b c d e f g i j k l m n o p q r s t u).arr=⟨[b,c,d,e,f,g,i,j,k,l,m,n,o,p,q,r,s,t,u]⟩:=by kernel_rfl
@[push_cast]theorem F19_g2:(F19 b c d e f g i j k l m n o p q r s t u).get 2=d:=by kernel_rfl
@[push_cast]theorem F19_g4:(F19 b c d e f g i j k l m n o p q r s t u).get 4=f:=by kernel_rfl
theorem sI1:dc3 (pp G) qq none ir17 ⟨(F19 a0),[],h⟩ (jG Tryd.prog [(.tmp 2)] R)=(@oY 29 a0 h ⟨fun Vb Hb=>@sP (.int .i64 0) Hb ⟨fun Vc Hc=>@sP (.int .i64 1) Hc ⟨fun Vd Hd=>@fP 29 5 Vb Hd ⟨fun Ve He=>@lP 24 Ve He ⟨fun Vf Hf=>@nP 24 Vf Hf ⟨fun Vg Hg=>@sP (.int .i64 0) Hg ⟨fun Vh Hh=>WD (pp G) qq.H none (.loop yF1) ⟨(F19 a0 Vb Vc Vd ud ud Ve Vf Vg Vh),[],Hh⟩ (@kR ⟨jU 0 (jQ (fun s1=>dc3 (pp G) qq none yE1 s1 (@kR ⟨jG Tryd.prog [(.tmp 2)] R⟩)) (jG Tryd.prog [(.tmp 2)] R))⟩)⟩⟩⟩⟩⟩⟩⟩):=by kernel_rfl
theorem sT0:dc3 (pp G) qq ro yF1 ⟨(F19 b c d e f g i j k l m n o p q r s t u),df,h⟩ T=(@b2 .lss 9 8 l k h ⟨fun Vb Hb=>@vQ Vb ⟨@iP 24 j l Hb ⟨fun Vc Hc=>@lP 29 Vc Hc ⟨fun Vd Hd=>@eA 29 Hd ⟨fun Ve He=>@oZ 29 Ve Vd He ⟨fun Vf Hf=>@lP 29 Ve Hf ⟨fun Vg Hg=>@cQ G 17 [Vg] Hg ⟨fun Vh Hh=>@b2 .add 13 15 e Vh Hh ⟨fun Vi Hj=>@bP .add 9 1 l Hj ⟨fun Vj Hk=>T .normal ⟨(F19 b c d Vi f Ve i j k Vj Vb Vc Vd e Vg Vh Vi Vj u),df,Hk⟩⟩⟩⟩⟩⟩⟩⟩⟩⟩ ⟨T (.exit 0) ⟨(F19 b c d e f g i j k l Vb n o p q r s t u),df,Hb⟩⟩⟩):=by kernel_rfl
theorem sS0:dc3 (pp G) qq ro yE1 ⟨(F19 b c d e f g i j k l m n o p q r s t u),df,h⟩ T=(T .ret ⟨(F19 b c e e f g i j k l m n o p q r s t e),df,h⟩):=by kernel_rfl
end
end Go.Proofs.YtklapbhlhjdijaaDoor
namespace Go.Proofs.YtklapbhlhjdijaaDoor
open Go.RowKit Go.Ev Go.Dv
set_option maxRecDepth 100000
noncomputable section
variable (G:Nat×Nat) (ro:Option Nat) (df:List Nat) (h:jA) (a0 a1 a2 a3 a4 a5 a6 a7:Value) (R:Value→jA→Prop) (T:jL→S→Prop) (b:Value)
end
end Go.Proofs.YtklapbhlhjdijaaDoor
namespace Go.Proofs.YtklapbhlhjdijaaDoor
open Go.RowKit Go.Ev Go.Dv
set_option maxRecDepth 100000
noncomputable section
variable (G:Nat×Nat) (ro:Option Nat) (df:List Nat) (h:jA) (a0 a1 a2 a3 a4 a5 a6 a7:Value) (R:Value→jA→Prop) (T:jL→S→Prop) (b:Value)
end
end Go.Proofs.YtklapbhlhjdijaaDoor
