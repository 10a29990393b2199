/-
  A part of the proof: conditions over an abstract memory, and that they are enough for what the model's calls do. No condition of its own.
-/
import Derived.Test.YtdcjpmjmjinjmaaDoorExa
set_option linter.unusedSimpArgs false
set_option linter.unusedVariables false
namespace Go.Proofs.YtdcjpmjmjinjmaaDoor
open Go.RowKit Go.Ev Go.Dv
set_option maxRecDepth 100000
noncomputable section
variable (G:Nat×Nat) (ro:Option Nat) (df:List Nat) (h:jA) (a0 a1 a2 a3 a4 a5 a6 a7:Value) (R:Value→jA→Prop) (T:jL→S→Prop) (b c d e f g i j k l m n o p q r s t u w x y z B C D E F I:Value)
section
variable (b c d e f g i j k l m n o p q r s t u w x y z B C D E F I:Value:=ud)
def F5:VT:=⟨5,(nd (nd (lf e) c .nil) b (nd (lf f) d .nil))⟩
def F8:VT:=⟨8,(nd (nd (nd (lf j) e .nil) c (lf g)) b (nd (lf f) d (lf i)))⟩
def F12:VT:=⟨12,(nd (nd (nd (lf j) e (lf n)) c (nd (lf l) g .nil)) b (nd (nd (lf k) f .nil) d (nd (lf m) i .nil)))⟩
def F29:VT:=⟨29,(nd (nd (nd (nd (lf r) j (lf B)) e (nd (lf w) n (lf F))) c (nd (nd (lf t) l (lf D)) g (nd (lf y) p .nil))) b (nd (nd (nd (lf s) k (lf C)) f (nd (lf x) o (lf I))) d (nd (nd (lf u) m (lf E)) i (nd (lf z) q .nil))))⟩
end
theorem pD0:(F5 b c d e f).arr=⟨[b,c,d,e,f]⟩:=by kernel_rfl
theorem pC0:(F8 b c d e f g i j).arr=⟨[b,c,d,e,f,g,i,j]⟩:=by kernel_rfl
theorem mZ0:(F12 b c d e f g i j k l m n).arr=⟨[b,c,d,e,f,g,i,j,k,l,m,n]⟩:=by kernel_rfl
theorem bE0:(F29 b c d e f g i j k l m n o p q r s t u w x y z B C D E F I).arr=⟨[b,c,d,e,f,g,i,j,k,l,m,n,o,p,q,r,s,t,u,w,x,y,z,B,C,D,E,F,I]⟩:=by kernel_rfl
@[push_cast]theorem F29_g4:(F29 b c d e f g i j k l m n o p q r s t u w x y z B C D E F I).get 4=f:=by kernel_rfl
theorem pS1:dc3 (pp G) qq none ir26 ⟨(F12 a0),[],h⟩ (jH Tryd.prog [(.cell 2 28)] R)=(@oY 28 a0 h ⟨fun Vb Hb=>@eA 28 Hb ⟨fun Vc Hc=>@fP 28 4 Vb Hc ⟨fun Vd Hd=>@lP 25 Vd Hd ⟨fun Ve He=>@cQ G 45 [Ve] He ⟨fun Vf Hf=>@fP 28 4 Vb Hf ⟨fun Vg Hg=>@oZ 25 Vg Vf Hg ⟨fun Vh Hh=>@fP 28 5 Vb Hh ⟨fun Vi Hj=>@lP 26 Vi Hj ⟨fun Vj Hk=>@cQ G 46 [Vj] Hk ⟨fun Vk Hl=>@fP 28 5 Vb Hl ⟨fun Vl Hm=>@oZ 26 Vl Vk Hm ⟨fun Vm Hn=>@lP 28 Vb Hn ⟨fun Vn Ho=>@oZ 28 Vc Vn Ho ⟨fun Vo Hp=>oP (wQ [jJ Tryd.prog 28 Vc Hp]) Hp R⟩⟩⟩⟩⟩⟩⟩⟩⟩⟩⟩⟩⟩⟩):=by kernel_rfl
theorem pA1:dc3 (pp G) qq none ir45 ⟨(F8 a0),[],h⟩ (jH Tryd.prog [(.cell 2 25)] R)=(@oY 25 a0 h ⟨fun Vb Hb=>@eA 25 Hb ⟨fun Vc Hc=>@fP 25 3 Vb Hc ⟨fun Vd Hd=>@lP 23 Vd Hd ⟨fun Ve He=>jC (pp G) qq.H (.func (.func 63) #[] #[]) [Ve,(.func (.func 45) #[] #[])] He (@kB ⟨fun _=>(@kk ⟨fun Vf Hf=>@fP 25 3 Vb Hf ⟨fun Vg Hg=>@oZ 23 Vg Vf Hg ⟨fun Vh Hh=>@lP 25 Vb Hh ⟨fun Vi Hj=>@oZ 25 Vc Vi Hj ⟨fun Vj Hk=>oP (wQ [jJ Tryd.prog 25 Vc Hk]) Hk R⟩⟩⟩⟩⟩)⟩)⟩⟩⟩⟩):=by kernel_rfl
theorem qY1:dc3 (pp G) qq none ir46 ⟨(F5 a0),[],h⟩ (jH Tryd.prog [(.tmp 2)] R)=(oP (some (.slice none 0 0)) h (@kk ⟨fun Vb Hb=>jC (pp G) qq.H (.func (.func 64) #[] #[]) [a0,(.func (.func 26) #[] #[])] Hb (@kB ⟨fun _=>(@kk ⟨fun Vc Hc=>R Vc Hc⟩)⟩)⟩)):=by kernel_rfl
theorem oJ1:dc3 (pp G) qq none ir63 ⟨(F29 a0 a1),[],h⟩ (jH Tryd.prog [(.tmp 4)] R)=(oP (some (.slice none 0 0)) h (@kk ⟨fun Vb Hb=>@nP 23 a0 Hb ⟨fun Vc Hc=>@bP .eql 9 0 Vc Hc ⟨fun Vd Hd=>@vQ Vd ⟨oP (some (.slice none 0 0)) Hd (@kk ⟨fun Ve He=>R Ve He⟩)⟩ ⟨@nP 23 a0 Hd ⟨fun Vf Hf=>oE (msE (mkT Tryd.prog 23) Vf Vf Hf) (@kk ⟨fun Vg Hg=>@nP 23 a0 Hg ⟨fun Vh Hh=>@sP (.int .i64 0) Hh ⟨fun Vi Hj=>WD (pp G) qq.H none (.loop wZ1) ⟨(F29 a0 a1 ud ud Vb Vg ud ud a0 Vc Vd a0 Vf Vg a0 Vh Vi),[],Hj⟩ (@kR ⟨jU 0 (jQ (fun s1=>dc3 (pp G) qq none wY1 s1 (@kR ⟨jH Tryd.prog [(.tmp 4)] R⟩)) (jH Tryd.prog [(.tmp 4)] R))⟩)⟩⟩⟩)⟩⟩⟩⟩⟩)):=by kernel_rfl
theorem oI1:dc3 (pp G) qq none ir64 ⟨(F29 a0 a1),[],h⟩ (jH Tryd.prog [(.tmp 4)] R)=(oP (some (.slice none 0 0)) h (@kk ⟨fun Vb Hb=>@nP 26 a0 Hb ⟨fun Vc Hc=>@bP .eql 9 0 Vc Hc ⟨fun Vd Hd=>@vQ Vd ⟨oP (some (.slice none 0 0)) Hd (@kk ⟨fun Ve He=>R Ve He⟩)⟩ ⟨@nP 26 a0 Hd ⟨fun Vf Hf=>oE (msE (mkT Tryd.prog 26) Vf Vf Hf) (@kk ⟨fun Vg Hg=>@nP 26 a0 Hg ⟨fun Vh Hh=>@sP (.int .i64 0) Hh ⟨fun Vi Hj=>WD (pp G) qq.H none (.loop wX1) ⟨(F29 a0 a1 ud ud Vb Vg ud ud a0 Vc Vd a0 Vf Vg a0 Vh Vi),[],Hj⟩ (@kR ⟨jU 0 (jQ (fun s1=>dc3 (pp G) qq none wW1 s1 (@kR ⟨jH Tryd.prog [(.tmp 4)] R⟩)) (jH Tryd.prog [(.tmp 4)] R))⟩)⟩⟩⟩)⟩⟩⟩⟩⟩)):=by kernel_rfl
theorem pS0:dc3 (pp G) qq ro wZ1 ⟨(F29 b c d e f g i j k l m n o p q r s t u w x y z B C D E F I),df,h⟩ T=(@b2 .lss 16 15 s r h ⟨fun Vb Hb=>@vQ Vb ⟨@iP 23 q s Hb ⟨fun Vc Hc=>@lP 25 Vc Hc ⟨fun Vd Hd=>@eA 25 Hd ⟨fun Ve He=>@oZ 25 Ve Vd He ⟨fun Vf Hf=>@lP 25 Ve Hf ⟨fun Vg Hg=>jC (pp G) qq.H c [Vg] Hg (@kB ⟨fun _=>(@kk ⟨fun Vh Hh=>@iP 23 g s Hh ⟨fun Vi Hj=>@oZ 25 Vi Vh Hj ⟨fun Vj Hk=>@bP .add 16 1 s Hk ⟨fun Vk Hl=>T .normal ⟨(F29 b c d e f g s Ve k l m n o p q r Vk Vb s Vc Vd g s c Vg Vh Vi Vk I),df,Hl⟩⟩⟩⟩⟩)⟩)⟩⟩⟩⟩⟩⟩ ⟨T (.exit 0) ⟨(F29 b c d e f g i j k l m n o p q r s Vb u w x y z B C D E F I),df,Hb⟩⟩⟩):=by kernel_rfl
theorem pR0:dc3 (pp G) qq ro wY1 ⟨(F29 b c d e f g i j k l m n o p q r s t u w x y z B C D E F I),df,h⟩ T=(T .ret ⟨(F29 b c d e g g i j k l m n o p q r s t u w x y z B C D E F g),df,h⟩):=by kernel_rfl
theorem pQ0:dc3 (pp G) qq ro wX1 ⟨(F29 b c d e f g i j k l m n o p q r s t u w x y z B C D E F I),df,h⟩ T=(@b2 .lss 16 15 s r h ⟨fun Vb Hb=>@vQ Vb ⟨@iP 26 q s Hb ⟨fun Vc Hc=>@lP 28 Vc Hc ⟨fun Vd Hd=>@eA 28 Hd ⟨fun Ve He=>@oZ 28 Ve Vd He ⟨fun Vf Hf=>@lP 28 Ve Hf ⟨fun Vg Hg=>jC (pp G) qq.H c [Vg] Hg (@kB ⟨fun _=>(@kk ⟨fun Vh Hh=>@iP 26 g s Hh ⟨fun Vi Hj=>@oZ 28 Vi Vh Hj ⟨fun Vj Hk=>@bP .add 16 1 s Hk ⟨fun Vk Hl=>T .normal ⟨(F29 b c d e f g s Ve k l m n o p q r Vk Vb s Vc Vd g s c Vg Vh Vi Vk I),df,Hl⟩⟩⟩⟩⟩)⟩)⟩⟩⟩⟩⟩⟩ ⟨T (.exit 0) ⟨(F29 b c d e f g i j k l m n o p q r s Vb u w x y z B C D E F I),df,Hb⟩⟩⟩):=by kernel_rfl
theorem pP0:dc3 (pp G) qq ro wW1 ⟨(F29 b c d e f g i j k l m n o p q r s t u w x y z B C D E F I),df,h⟩ T=(T .ret ⟨(F29 b c d e g g i j k l m n o p q r s t u w x y z B C D E F g),df,h⟩):=by kernel_rfl
end
end Go.Proofs.YtdcjpmjmjinjmaaDoor
namespace Go.Proofs.YtdcjpmjmjinjmaaDoor
open Go.RowKit Go.Ev Go.Dv
set_option maxRecDepth 100000
noncomputable section
variable (G:Nat×Nat) (ro:Option Nat) (df:List Nat) (h:jA) (a0 a1 a2 a3 a4 a5 a6 a7:Value) (R:Value→jA→Prop) (T:jL→S→Prop) (b c d e f g i j k l m n o p q r s t u w x:Value)
section
variable (b c d e f g i j k l m n o p q r s t u w x:Value:=ud)
def F19:VT:=⟨19,(nd (nd (nd (nd (lf r) j .nil) e (lf n)) c (nd (nd (lf t) l .nil) g (lf p))) b (nd (nd (nd (lf s) k .nil) f (lf o)) d (nd (nd (lf u) m .nil) i (lf q))))⟩
def F21:VT:=⟨21,(nd (nd (nd (nd (lf r) j .nil) e (nd (lf w) n .nil)) c (nd (nd (lf t) l .nil) g (lf p))) b (nd (nd (nd (lf s) k .nil) f (nd (lf x) o .nil)) d (nd (nd (lf u) m .nil) i (lf q))))⟩
end
theorem eI0:(F19 b c d e f g i j k l m n o p q r s t u).arr=⟨[b,c,d,e,f,g,i,j,k,l,m,n,o,p,q,r,s,t,u]⟩:=by kernel_rfl
theorem eH0:(F21 b c d e f g i j k l m n o p q r s t u w x).arr=⟨[b,c,d,e,f,g,i,j,k,l,m,n,o,p,q,r,s,t,u,w,x]⟩:=by kernel_rfl
@[push_cast]theorem F19_g2:(F19 b c d e f g i j k l m n o p q r s t u).get 2=d:=by kernel_rfl
@[push_cast]theorem F19_g4:(F19 b c d e f g i j k l m n o p q r s t u).get 4=f:=by kernel_rfl
@[push_cast]theorem F21_g2:(F21 b c d e f g i j k l m n o p q r s t u w x).get 2=d:=by kernel_rfl
theorem uY2:dc3 (pp G) qq none ir9 ⟨(F21 a0),[],h⟩ (jH Tryd.prog [(.tmp 2)] R)=(@oY 28 a0 h ⟨fun Vb Hb=>@sP (.int .i64 0) Hb ⟨fun Vc Hc=>@sP (.int .i64 1) Hc ⟨fun Vd Hd=>@sP (.int .i64 0) Hd ⟨fun Ve He=>WD (pp G) qq.H none (.loop lS1) ⟨(F21 a0 Vb Vc Vd Ve),[],He⟩ (@kR ⟨jU 0 (jQ (fun s1=>dc3 (pp G) qq none lR1 s1 (@kR ⟨jH Tryd.prog [(.tmp 2)] R⟩)) (jH Tryd.prog [(.tmp 2)] R))⟩)⟩⟩⟩⟩):=by kernel_rfl
theorem pZ1:dc3 (pp G) qq none ir18 ⟨(F19 a0),[],h⟩ (jH Tryd.prog [(.tmp 2)] R)=(@oY 28 a0 h ⟨fun Vb Hb=>@sP (.int .i64 0) Hb ⟨fun Vc Hc=>@sP (.int .i64 1) Hc ⟨fun Vd Hd=>@fP 28 5 Vb Hd ⟨fun Ve He=>@lP 26 Ve He ⟨fun Vf Hf=>@nP 26 Vf Hf ⟨fun Vg Hg=>@sP (.int .i64 0) Hg ⟨fun Vh Hh=>WD (pp G) qq.H none (.loop kD1) ⟨(F19 a0 Vb Vc Vd ud ud Ve Vf Vg Vh),[],Hh⟩ (@kR ⟨jU 0 (jQ (fun s1=>dc3 (pp G) qq none kC1 s1 (@kR ⟨jH Tryd.prog [(.tmp 2)] R⟩)) (jH Tryd.prog [(.tmp 2)] R))⟩)⟩⟩⟩⟩⟩⟩⟩):=by kernel_rfl
theorem qT1:dc3 (pp G) qq ro lS1 ⟨(F21 b c d e f g i j k l m n o p q r s t u w x),df,h⟩ T=(@fP 28 5 c h ⟨fun Vb Hb=>@lP 26 Vb Hb ⟨fun Vc Hc=>@nP 26 Vc Hc ⟨fun Vd Hd=>@b2 .lss 5 8 f Vd Hd ⟨fun Ve He=>@vQ Ve ⟨@fP 28 5 c He ⟨fun Vf Hf=>@lP 26 Vf Hf ⟨fun Vg Hg=>@iP 26 Vg f Hg ⟨fun Vh Hh=>@lP 28 Vh Hh ⟨fun Vi Hj=>@cQ G 9 [Vi] Hj ⟨fun Vj Hk=>@b2 .add 12 18 e Vj Hk ⟨fun Vk Hl=>@bP .add 10 1 f Hl ⟨fun Vl Hm=>T .normal ⟨(F21 b c d Vk Vl f Vb Vc Vd Ve f Vl e Vf Vg f Vh Vi Vj Vk x),df,Hm⟩⟩⟩⟩⟩⟩⟩⟩⟩ ⟨T (.exit 0) ⟨(F21 b c d e f f Vb Vc Vd Ve m n o p q r s t u w x),df,He⟩⟩⟩⟩⟩⟩):=by kernel_rfl
theorem qS1:dc3 (pp G) qq ro lR1 ⟨(F21 b c d e f g i j k l m n o p q r s t u w x),df,h⟩ T=(T .ret ⟨(F21 b c e e f g i j k l m n o p q r s t u w e),df,h⟩):=by kernel_rfl
theorem sA0:dc3 (pp G) qq ro kD1 ⟨(F19 b c d e f g i j k l m n o p q r s t u),df,h⟩ T=(@b2 .lss 9 8 l k h ⟨fun Vb Hb=>@vQ Vb ⟨@iP 26 j l Hb ⟨fun Vc Hc=>@lP 28 Vc Hc ⟨fun Vd Hd=>@eA 28 Hd ⟨fun Ve He=>@oZ 28 Ve Vd He ⟨fun Vf Hf=>@lP 28 Ve Hf ⟨fun Vg Hg=>@cQ G 18 [Vg] Hg ⟨fun Vh Hh=>@b2 .add 13 15 e Vh Hh ⟨fun Vi Hj=>@bP .add 9 1 l Hj ⟨fun Vj Hk=>T .normal ⟨(F19 b c d Vi f Ve i j k Vj Vb Vc Vd e Vg Vh Vi Vj u),df,Hk⟩⟩⟩⟩⟩⟩⟩⟩⟩⟩ ⟨T (.exit 0) ⟨(F19 b c d e f g i j k l Vb n o p q r s t u),df,Hb⟩⟩⟩):=by kernel_rfl
theorem rZ0:dc3 (pp G) qq ro kC1 ⟨(F19 b c d e f g i j k l m n o p q r s t u),df,h⟩ T=(T .ret ⟨(F19 b c e e f g i j k l m n o p q r s t e),df,h⟩):=by kernel_rfl
end
end Go.Proofs.YtdcjpmjmjinjmaaDoor
namespace Go.Proofs.YtdcjpmjmjinjmaaDoor
open Go.RowKit Go.Ev Go.Dv
set_option maxRecDepth 100000
noncomputable section
variable (G:Nat×Nat) (ro:Option Nat) (df:List Nat) (h:jA) (a0 a1 a2 a3 a4 a5 a6 a7:Value) (R:Value→jA→Prop) (T:jL→S→Prop) (b:Value)
end
end Go.Proofs.YtdcjpmjmjinjmaaDoor
namespace Go.Proofs.YtdcjpmjmjinjmaaDoor
open Go.RowKit Go.Ev Go.Dv
set_option maxRecDepth 100000
noncomputable section
variable (G:Nat×Nat) (ro:Option Nat) (df:List Nat) (h:jA) (a0 a1 a2 a3 a4 a5 a6 a7:Value) (R:Value→jA→Prop) (T:jL→S→Prop) (b:Value)
end
end Go.Proofs.YtdcjpmjmjinjmaaDoor
