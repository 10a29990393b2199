/-
  A part of the proof: what the program's functions hand back,as theorems. No condition but those that each theorem names.
-/
import Derived.Test.YtgeakofgklcipaaDoorEvd
import Derived.Test.YtgeakofgklcipaaDoorExa
import Derived.Test.YtgeakofgklcipaaDoorEva
import Derived.Test.YtgeakofgklcipaaDoorTa
import Derived.Test.YtgeakofgklcipaaDoorExc
import Derived.Test.YtgeakofgklcipaaDoorEve
import Derived.Lib.Bytealg
import Derived.Laws.RangeAny
import Derived.Test.YtgeakofgklcipaaDoorExd
set_option linter.unusedSimpArgs false
set_option linter.unusedVariables false
namespace Go.Proofs.YtgeakofgklcipaaDoor
open Go Go.RowKit Go.Ev Go.Dv
set_option maxRecDepth 100000
noncomputable section
theorem laid_rel2 (P:Program) (sg:Nat→Int) (tg:Nat→ByteArray) {NG:Nat} {L:List (Nat×List Value)} {w:World} (hs:NG≤w.heap.size) (hL:okPl L=true)
  (hobj:∀ x∈L,x.1<NG∧∀ (j:Nat) (u:Value),x.2[j]?=some u→w.cell? ⟨x.1,j,none⟩=some u) :
  jR ⟨P,NG,NG,w.heap.size,sg,tg⟩ ⟨fun i=>i,fun _=>0,sg,tg⟩ (laidH NG L) w:=by
 have hg:∀ i x,(laidH NG L).get i=some x→i<NG∧∃ cs,x=⟨.cells ⟨cs⟩ 0 (0,0),false⟩∧cs.all one=true∧jQ cs=true∧∀ (j:Nat) (u:Value),cs[j]?=some u→w.cell? ⟨i,j,none⟩=some u:=fun i x hx=>by
  obtain ⟨y,hy,rfl,rfl⟩:=laidT_get hx
  obtain ⟨h1,h2⟩:=hobj y hy
  obtain ⟨h3,h4⟩:=okPl_mem hL hy
  exact ⟨h1,_,rfl,h4,h3,h2⟩
 refine ⟨fun i x hx=>?_,fun i x hx _ hi=>?_,fun i j x y hx _ _ _ hi _ _=>?_,fun g _=>rfl,fun i x hi _ _=>Nat.lt_of_lt_of_le hi hs,rfl,Nat.le_refl _,⟨Nat.le_refl _,hs⟩,Nat.le_refl _,rfl,rfl⟩
 ·obtain ⟨hi,cs,rfl,h1,h2,h3⟩:=hg i x hx
  refine ⟨hi,?_⟩
  simp only[OR]
  refine ⟨fun hG=>(by have hG:NG≤i:=hG;omega),fun _=>⟨trivial,Nat.lt_of_lt_of_le hi hs,fun j v hj hv=>?_⟩⟩
  have hj:cs[j]?=some v:=by simpa using hj
  have hm:=List.mem_of_getElem? hj
  refine ⟨List.all_eq_true.1 h1 v hm,?_⟩
  rw[qK _ v (flatL_all h2 v hm)]
  exact h3 j v hj
 ·have:=(hg i x hx).1
  have hi:NG≤i:=hi
  omega
 ·have:=(hg i x hx).1
  have hi:NG≤i:=hi
  omega
def noX:Ext:=fun _ _ _=>none
theorem known_ev:(evCall Tryd.prog noX (evC Tryd.prog noX 400) 11 [] (laidH 1 LL)).map (·.1)=some (.bool true):=by kernel_rfl
theorem known5e_f (G:Nat×Nat):jS (pp G) H0 11 [] (.bool true):=
 jS.of_known (jW G) Tryd.func11 rfl rfl (fun x hx=>by
  simp only[LL,List.mem_cons,List.not_mem_nil,or_false] at hx
  subst hx
  exact ⟨rfl,rfl,by show (0:Nat)<1;omega,by show (0:Nat)<1;omega⟩) fun w hsz hl=>by
  have:=calls_of_ev_at (X:=noX) (sg:=fun _=>0) (tg:=fun _=>.empty) (args:=[]) (w:=w) ⟨funcs_ok',mixed,fun _ _ _ _ _ h=>by cases h⟩ (laid_rel2 Tryd.prog _ _ hsz LL_ok fun x hx=>⟨by
   simp only[LL,List.mem_cons,List.not_mem_nil,or_false] at hx
   subst hx
   show (0:Nat)<1
   omega,hl x hx⟩) Tryd.func11 rfl rfl known_ev rfl rfl
  exact this
end
end Go.Proofs.YtgeakofgklcipaaDoor
namespace Go.Proofs.YtgeakofgklcipaaDoor
open Go Go.RowKit Go.Ev Go.Dv
noncomputable section
set_option maxRecDepth 100000
variable (G:Nat×Nat)
end
end Go.Proofs.YtgeakofgklcipaaDoor
namespace Go.Proofs.YtgeakofgklcipaaDoor
open Go Go.RowKit Go.Ev Go.Dv
noncomputable section
set_option maxRecDepth 100000
theorem u_a3:Tryd.prog.underlying 77=some (.array 3 3):=by kernel_rfl
theorem guardA:Tryd.prog.eqGuardType Tryd.prog.depth 77=false:=by kernel_rfl
theorem pv_prog (P:Program):pv P program=some P:=rfl
theorem partA (a b c:Int):pv Tryd.prog (part 3 ⟨[.int .i64 a,.int .i64 b,.int .i64 c]⟩ (0*1))=some (.int .i64 a)∧pv Tryd.prog (part 3 ⟨[.int .i64 a,.int .i64 b,.int .i64 c]⟩ (1*1))=some (.int .i64 b)∧pv Tryd.prog (part 3 ⟨[.int .i64 a,.int .i64 b,.int .i64 c]⟩ (2*1))=some (.int .i64 c):=⟨by kernel_rfl,by kernel_rfl,by kernel_rfl⟩
theorem szA:pv Tryd.prog (sizeOf 3)=some 1:=by kernel_rfl
theorem eqI (d:Nat) (a b:Int):pv Tryd.prog (Op.equalIn (d+1) 3 (.int .i64 a) (.int .i64 b))=some (a == b):=by kernel_rfl
theorem pv_if {α:Type} (P:Program) (c:Prop) [Decidable c] (x y:Sem α):pv P (if c then x else y)=if c then pv P x else pv P y:=by split<;>rfl
theorem pv_eqA (d:Nat) (a b c a' b' c':Int):pv Tryd.prog (Op.equalIn (d+2) 77 (.agg ⟨[.int .i64 a,.int .i64 b,.int .i64 c]⟩) (.agg ⟨[.int .i64 a',.int .i64 b',.int .i64 c']⟩))=some (a == a'&&b == b'&&c == c'):=by
 rw[Op.equalIn]
 simp only[bM,pv_under u_a3,Option.bind_some,szA]
 simp only[Std.Legacy.Range.forIn_eq_forIn_range',Std.Legacy.Range.size]
 rw[show List.range' 0 ((3-0+1-1) / 1)=[0,1,2] from rfl]
 have p1:=partA a b c
 have p2:=partA a' b' c'
 simp only[List.forIn_cons,List.forIn_nil,bM,pv_if,p1,p2,eqI,Option.bind_some]
 cases h1:(a == a')<;>cases h2:(b == b')<;>cases h3:(c == c')<;>simp[kJ,bM,pv_if,p1,p2,eqI,h1,h2,h3]
theorem pv_eqA' (a b c a' b' c':Int):pv Tryd.prog (Op.equal 77 (.agg ⟨[.int .i64 a,.int .i64 b,.int .i64 c]⟩) (.agg ⟨[.int .i64 a',.int .i64 b',.int .i64 c']⟩))=some (a == a'&&b == b'&&c == c'):=pv_eqA 9998 a b c a' b' c'
theorem b_neqA {x y:Operand} {a b c a' b' c':Int}:jB Tryd.prog .neq 77 x y (.agg ⟨[.int .i64 a,.int .i64 b,.int .i64 c]⟩) (.agg ⟨[.int .i64 a',.int .i64 b',.int .i64 c']⟩)=some (.bool (!decide (a=a'∧b=b'∧c=c'))):=by
 have hg:pv Tryd.prog (eqGuard .neq 77 x y (.agg ⟨[.int .i64 a,.int .i64 b,.int .i64 c]⟩) (.agg ⟨[.int .i64 a',.int .i64 b',.int .i64 c']⟩))=some ():=by
  simp only[eqGuard,pv_if,bM,pv_prog,Option.bind_some,guardA,Bool.not_true,Bool.not_false,Bool.false_eq_true,if_false,if_true,kJ]
 have hb:pv Tryd.prog (binOp .neq 77 (.agg ⟨[.int .i64 a,.int .i64 b,.int .i64 c]⟩) (.agg ⟨[.int .i64 a',.int .i64 b',.int .i64 c']⟩))=some (.bool (!(a == a'&&b == b'&&c == c'))):=by
  simp only[binOp,pv_map,bM,pv_eqA',Option.map_some,Option.bind_some,kJ]
 have e:(a == a'&&b == b'&&c == c')=decide (a=a'∧b=b'∧c=c'):=by
  rw[Bool.eq_iff_iff]
  simp[and_assoc]
 rw[← e]
 simp only[jB,pvF,flat,jQ,Bool.and_self,bM,hg,hb,Option.bind_some]
end
end Go.Proofs.YtgeakofgklcipaaDoor
namespace Go.Proofs.YtgeakofgklcipaaDoor
open Go Go.RowKit Go.Ev Go.Dv
noncomputable section
set_option maxRecDepth 100000
variable (G:Nat×Nat)
inductive I39 (k n:Int) (s:List UInt8) (l:List Ex) (k' n':Int) (s':List UInt8) (l':List Ex):Nat→S→Prop
 | mk (i : Nat) (iv : Int) (h : jA) {x0 x1 x2 x4 x5 x6 x7 x8 x9 xA xB xC xD xE xF xG xH xI xJ xK xL xM xN xO xP xQ xR xS xT xU xV xW xX xY xZ yD yE yF yG yH yI yJ yK yL yM yN yO yP : Value} (hiv : iv = (i : Int)) (hi : i ≤ l.length) (c2 : cells h 2 = some (exC (.mk k' n' s' l'), 31, false)) (hl1 : h.lo = 1) (hl2 : 3 ≤ h.next)
   (ha:∀ j,j<i→∀ x y,l[j]?=some x→l'[j]?=some y→gQ x y=true) :
  I39 k n s l k' n' s' l' (l.length-i) ⟨(F52 x0 x1 x2 (.pointer (some ⟨2,0,none⟩)) x4 x5 x6 x7 x8 x9 xA xB xC xD xE xF xG xH xI xJ xK xL xM xN xO xP xQ xR xS xT xU xV xW xX xY xZ (Rw false eE l.length (kG l)) (.int .i64 l'.length) (.int .i64 iv) yD yE yF yG yH yI yJ yK yL yM yN yO yP),[],h⟩
theorem samex_e:∀ a b:Ex,smE a=true→smE b=true→jS (pp G) H0 39 [exV a,exV b] (.bool (gQ a b))
 | .mk k n s l,.mk k' n' s' l',hs,hs'=>by
  simp only[smE,Bool.and_eq_true,decide_eq_true_eq] at hs hs'
  have ih:∀ x∈l,∀ y∈l',jS (pp G) H0 39 [exV x,exV y] (.bool (gQ x y)):=fun x hx y hy=>samex_e x y (smEs_all hs.2 x hx) (smEs_all hs'.2 y hy)
  have hlo:H0.lo≤H0.next:=Nat.le_refl _;refine jS.cut (jL.fir4 (q:=qq) (jW G) fir39 (by kernel_rfl) rfl rfl (F52_arr ..) (show NGG≤H0.lo by rw[uY];decide) ?_);rw[sd_ir39]
  rw[gQ]
  obtain ⟨b,hb⟩:∃ b,b=(decide (k=k')&&(decide (n=n')&&(decide (s=s')&&(decide (l.length=l'.length)&&gS l l')))):=⟨_,rfl⟩
  rw[← hb]
  by_cases h1:k=k'
  rotate_left
  ·obtain rfl:b=false:=by rw[hb];simp[h1]
   simp(disch:=first|omega|(apply id;simp only[push_cast];try omega))only[push_cast,simprocAttr,h1]
   exact .id rfl
  by_cases h2:n=n'
  rotate_left
  ·obtain rfl:b=false:=by rw[hb];simp[h2]
   simp(disch:=first|omega|(apply id;simp only[push_cast];try omega))only[push_cast,simprocAttr,h1,h2]
   exact .id rfl
  by_cases h3:s=s'
  rotate_left
  ·obtain rfl:b=false:=by rw[hb];simp[h3]
   have h3':(s == s')=false:=by simpa using h3
   simp(disch:=first|omega|(apply id;simp only[push_cast];try omega))only[push_cast,simprocAttr,h1,h2,h3']
   exact .id rfl
  by_cases h4:l.length=l'.length
  rotate_left
  ·obtain rfl:b=false:=by rw[hb];simp[h4]
   have h4':¬ (l.length:Int)=l'.length:=by omega
   simp(disch:=first|omega|(apply id;simp only[push_cast];try omega))only[push_cast,simprocAttr,h1,h2,h3,h4',beq_self_eq_true]
   exact .id rfl
  have h4':(l.length:Int)=l'.length:=by omega
  have hb':b=gS l l':=by rw[hb];simp[h1,h2,h3,h4]
  clear hb
  simp(disch:=first|omega|(apply id;simp only[push_cast];try omega))only[push_cast,simprocAttr,h1,h2,h3,h4',beq_self_eq_true]
  refine WD.loop4 (q:=qq) (jW G) (by kernel_rfl) (I39 k n s l k' n' s' l') ?_ _ _ (I39.mk 0 0 _ rfl (Nat.zero_le _) (by first|assumption|(simp(disch:=first|omega|(apply id;simp only[push_cast];try omega))only[push_cast,simprocAttr,h1,h2,h3];try omega)) rfl (by first|assumption|(simp(disch:=first|omega|(apply id;simp only[push_cast];try omega))only[push_cast,simprocAttr];try omega)) (fun j hj=>by omega))
  intro m s1 hI
  cases hI with|mk i iv h hiv hi c2 hl1 hl2 ha=>
  subst hiv
  rw[sd_ir39_s0]
  by_cases hil:(i:Int)<l'.length
  ·obtain ⟨x,hx⟩:=qC (l:=l) (i:=i) (by omega)
   obtain ⟨y,hy⟩:=qC (l:=l') (i:=i) (by omega)
   have hp:=exCs_take hx
   have hp':=exCs_take hy
   have hle:i*4+4≤l'.length*4:=by omega
   have hle2:i*4+4≤l.length*4:=by omega
   simp(disch:=first|omega|(apply id;simp only[push_cast];try omega))only[push_cast,simprocAttr,hil,Int.toNat_natCast,hp,hp',hle,hle2,hl1,c2,h4']
   refine jC.dataI (ih x (List.mem_of_getElem? hx) y (List.mem_of_getElem? hy)) (by and_intros<;>first|rfl|(simp(disch:=first|omega|(apply id;simp only[push_cast];try omega))only[push_cast])) ?_
   cases hr:gQ x y with
   | true=>
    simp(disch:=first|omega|(apply id;simp only[push_cast];try omega))only[push_cast,simprocAttr]
    exact ⟨_,by omega,I39.mk (i+1) _ _ (by first|rfl|omega) (by omega) (by first|assumption|(simp(disch:=first|omega|(apply id;simp only[push_cast];try omega))only[push_cast,simprocAttr,c2];try omega)) (by first|assumption|(simp(disch:=first|omega|(apply id;simp only[push_cast];try omega))only[push_cast,simprocAttr,hl1];try omega)) (by first|assumption|(simp(disch:=first|omega|(apply id;simp only[push_cast];try omega))only[push_cast,simprocAttr];try omega)) fun j hj u v hu hv=>by
     by_cases e:j=i
     ·subst e;rw[hx] at hu;rw[hy] at hv;cases hu;cases hv;exact hr
     ·exact ha j (by omega) u v hu hv⟩
   | false=>
    obtain rfl:b=false:=by
     rw[hb']
     cases hc:gS l l' with
     | false=>rfl
     | true=>rw[sameEs_all hc i x y hx hy] at hr;cases hr
    simp(disch:=first|omega|(apply id;simp only[push_cast];try omega))only[push_cast,simprocAttr]
    exact .id rfl
  ·obtain rfl : b = true := by
    rw[hb']
    exact sameEs_of fun j u v hu hv=>ha j (by have:=(List.getElem?_eq_some_iff.1 hu).1;omega) u v hu hv
   simp(disch:=first|omega|(apply id;simp only[push_cast];try omega))only[push_cast,simprocAttr,hil,c2,hl1,h4']
   rw[sd_ir39_s1]
   simp(disch:=first|omega|(apply id;simp only[push_cast];try omega))only[push_cast,simprocAttr]
   exact .id rfl
 termination_by x=>SizeOf.sizeOf x
inductive I19 (l:List Tm) (k a b:Int) (s:List UInt8) (e:Ex) (l':List Tm):Nat→S→Prop
 | mk (i : Nat) (iv : Int) (h : jA) {x0 x1 x2 x4 x5 x6 x7 x8 x9 xA xB xC xD xE xF xG xH xI xJ xK xL xM xN xO xP xQ xR xS xT xU xV xW xX xY xZ yA yB yC yD yE yF yG yH yI yJ yK yO yP yQ yR yS yT yU yV yW yX yY yZ zA : Value} (hiv : iv = (i : Int)) (hi : i ≤ l.length) (c2 : cells h 2 = some (tmC (.mk k a b s e l'), 34, false)) (hl1 : h.lo = 1) (hl2 : 3 ≤ h.next)
   (ha:∀ j,j<i→∀ x y,l[j]?=some x→l'[j]?=some y→sameT x y=true) :
  I19 l k a b s e l' (l.length-i) ⟨(F63 x0 x1 x2 (.pointer (some ⟨2,0,none⟩)) x4 x5 x6 x7 x8 x9 xA xB xC xD xE xF xG xH xI xJ xK xL xM xN xO xP xQ xR xS xT xU xV xW xX xY xZ yA yB yC yD yE yF yG yH yI yJ yK (Rw false etm l.length (qR l)) (.int .i64 l'.length) (.int .i64 iv) yO yP yQ yR yS yT yU yV yW yX yY yZ zA),[],h⟩
theorem samet_t:∀ t u:Tm,smT t=true→smT u=true→jS (pp G) H0 19 [tmV t,tmV u] (.bool (sameT t u))
 | .mk k a b s e l,.mk k' a' b' s' e' l',hs,hs'=>by
  simp only[smT,Bool.and_eq_true,decide_eq_true_eq] at hs hs'
  have ih:∀ x∈l,∀ y∈l',jS (pp G) H0 19 [tmV x,tmV y] (.bool (sameT x y)):=fun x hx y hy=>samet_t x y (smTs_all hs.2 x hx) (smTs_all hs'.2 y hy)
  have he:=samex_e G e e' hs.1.2 hs'.1.2
  have hlo:H0.lo≤H0.next:=Nat.le_refl _;refine jS.cut (jL.fir4 (q:=qq) (jW G) fir19 (by kernel_rfl) rfl rfl (F63_arr ..) (show NGG≤H0.lo by rw[uY];decide) ?_);rw[sd_ir19]
  rw[sameT]
  obtain ⟨c,hb⟩:∃ c,c=(decide (k=k')&&(decide (a=a')&&(decide (b=b')&&(decide (s=s')&&(gQ e e'&&(decide (l.length=l'.length)&&gR l l')))))):=⟨_,rfl⟩
  rw[← hb]
  by_cases h1:k=k'∧a=a'∧b=b'
  rotate_left
  ·obtain rfl : c = false := by
    rw[hb]
    by_cases g1:k=k'
    ·by_cases g2:a=a'
     ·have g3:¬ b=b':=fun g3=>h1 ⟨g1,g2,g3⟩
      simp[g3]
     ·simp[g2]
    ·simp[g1]
   simp(disch:=first|omega|(apply id;simp only[push_cast];try omega))only[push_cast,simprocAttr,b_neqA,h1,decide_false,Bool.not_false]
   exact .id rfl
  obtain ⟨rfl,rfl,rfl⟩:=h1
  have h1:(k=k∧a=a∧b=b):=⟨rfl,rfl,rfl⟩
  by_cases h3:s=s'
  rotate_left
  ·obtain rfl:c=false:=by rw[hb];simp[h3]
   have h3':(s == s')=false:=by simpa using h3
   simp(disch:=first|omega|(apply id;simp only[push_cast];try omega))only[push_cast,simprocAttr,b_neqA,h1,decide_true,Bool.not_true,h3']
   exact .id rfl
  by_cases h4:l.length=l'.length
  rotate_left
  ·obtain rfl:c=false:=by rw[hb];simp[h4]
   have h4':¬ (l.length:Int)=l'.length:=by omega
   simp(disch:=first|omega|(apply id;simp only[push_cast];try omega))only[push_cast,simprocAttr,b_neqA,h1,decide_true,Bool.not_true,h3,beq_self_eq_true,h4']
   exact .id rfl
  have h4':(l.length:Int)=l'.length:=by omega
  simp(disch:=first|omega|(apply id;simp only[push_cast];try omega))only[push_cast,simprocAttr,b_neqA,h1,decide_true,Bool.not_true,h3,beq_self_eq_true,h4']
  refine jC.dataI (he) (by and_intros<;>first|rfl|(simp(disch:=first|omega|(apply id;simp only[push_cast];try omega))only[push_cast])) ?_
  by_cases h6:gQ e e'=true
  rotate_left
  ·have h6:gQ e e'=false:=by simpa using h6
   obtain rfl:c=false:=by rw[hb];simp[h6]
   simp(disch:=first|omega|(apply id;simp only[push_cast];try omega))only[push_cast,simprocAttr,h6]
   exact .id rfl
  have hb':c=gR l l':=by rw[hb];simp[h3,h4,h6]
  clear hb
  simp(disch:=first|omega|(apply id;simp only[push_cast];try omega))only[push_cast,simprocAttr,h6,h4']
  refine WD.loop4 (q:=qq) (jW G) (by kernel_rfl) (I19 l k a b s' e' l') ?_ _ _ (I19.mk 0 0 _ rfl (Nat.zero_le _) (by first|assumption|(simp(disch:=first|omega|(apply id;simp only[push_cast];try omega))only[push_cast,simprocAttr,h3];try omega)) rfl (by first|assumption|(simp(disch:=first|omega|(apply id;simp only[push_cast];try omega))only[push_cast,simprocAttr];try omega)) (fun j hj=>by omega))
  intro m s1 hI
  cases hI with|mk i iv h hiv hi c2 hl1 hl2 ha=>
  subst hiv
  rw[sd_ir19_s0]
  by_cases hil:(i:Int)<l'.length
  ·obtain ⟨x,hx⟩:=qC (l:=l) (i:=i) (by omega)
   obtain ⟨y,hy⟩:=qC (l:=l') (i:=i) (by omega)
   have hp:=tmCs_take hx
   have hp':=tmCs_take hy
   have hle:i*9+9≤l'.length*9:=by omega
   have hle2:i*9+9≤l.length*9:=by omega
   simp(disch:=first|omega|(apply id;simp only[push_cast];try omega))only[push_cast,simprocAttr,hil,Int.toNat_natCast,hp,hp',hle,hle2,hl1,c2,h4']
   refine jC.dataI (ih x (List.mem_of_getElem? hx) y (List.mem_of_getElem? hy)) (by and_intros<;>first|rfl|(simp(disch:=first|omega|(apply id;simp only[push_cast];try omega))only[push_cast])) ?_
   cases hr:sameT x y with
   | true=>
    simp(disch:=first|omega|(apply id;simp only[push_cast];try omega))only[push_cast,simprocAttr]
    exact ⟨_,by omega,I19.mk (i+1) _ _ (by first|rfl|omega) (by omega) (by first|assumption|(simp(disch:=first|omega|(apply id;simp only[push_cast];try omega))only[push_cast,simprocAttr,c2];try omega)) (by first|assumption|(simp(disch:=first|omega|(apply id;simp only[push_cast];try omega))only[push_cast,simprocAttr,hl1];try omega)) (by first|assumption|(simp(disch:=first|omega|(apply id;simp only[push_cast];try omega))only[push_cast,simprocAttr];try omega)) fun j hj u v hu hv=>by
     by_cases e:j=i
     ·subst e;rw[hx] at hu;rw[hy] at hv;cases hu;cases hv;exact hr
     ·exact ha j (by omega) u v hu hv⟩
   | false=>
    obtain rfl:c=false:=by
     rw[hb']
     cases hc:gR l l' with
     | false=>rfl
     | true=>rw[sameTs_all hc i x y hx hy] at hr;cases hr
    simp(disch:=first|omega|(apply id;simp only[push_cast];try omega))only[push_cast,simprocAttr]
    exact .id rfl
  ·obtain rfl : c = true := by
    rw[hb']
    exact sameTs_of fun j u v hu hv=>ha j (by have:=(List.getElem?_eq_some_iff.1 hu).1;omega) u v hu hv
   simp(disch:=first|omega|(apply id;simp only[push_cast];try omega))only[push_cast,simprocAttr,hil,c2,hl1,h4']
   rw[sd_ir19_s1]
   simp(disch:=first|omega|(apply id;simp only[push_cast];try omega))only[push_cast,simprocAttr]
   exact .id rfl
 termination_by x=>SizeOf.sizeOf x
def small (c:UInt8):Bool:=decide (97≤c.toNat∧c.toNat≤122)
def digit (c:UInt8):Bool:=decide (48≤c.toNat∧c.toNat≤57)
def wordy (c:UInt8):Bool:=small c || digit c || decide (c.toNat=95)
def front (p:UInt8→Bool) (l:List UInt8):Nat:=(l.takeWhile p).length
def keysF:List (List UInt8):=[[118,97,114],[115,116,97,99,107],[112,114,111,99],[115,107,105,112],[100,111],[112,117,115,104],[114,101,118,101,114,115,101],[97,99,99,101,112,116],[109,101,114,103,101],[98,108,111,99,107],[101,120,105,116],[105,102],[101,108,115,101],[99,104,111,111,115,101],[112,97,114],[99,97,108,108]]
def keyF (s:List UInt8):Bool:=decide (s∈keysF)
def nameF (s:List UInt8):Bool:=!decide (s=[])&&(decide (s.length≤20)&&(!keyF s&&(small (s.getD 0 0)&&decide (front wordy s=s.length))))
mutual
def kU (v:Int):Ex→Bool
 | .mk k n s l => (if k = 1 ∧ 0 ≤ n then decide (l.length = 0) else if k = 2 ∧ 0 ≤ n ∧ n < v then decide (l.length = 0) else if k = 3 ∨ k = 4 then decide (l.length = 1 ∧ n = 0) else if 5 ≤ k ∧ k ≤ 17 then decide (l.length = 2 ∧ n = 0) else false)
   &&decide (s=[])&&rightL v l
def rightL (v:Int):List Ex→Bool
 | []=>true
 | x :: l=>kU v x&&rightL v l
end
def fitsF (v st p what n:Int):Bool:=
 if what=1 then decide (0≤n∧n<v) else if what=2 then decide (n = -1∨(0≤n∧n<v)) else if what=3 then decide (0≤n∧n<st) else if what=4 then decide (0≤n∧n<p) else if what=5 then decide (0≤n) else decide (n=0)
def givenF (e:Ex):Bool:=!decide (e.k=0) || (!decide (e.n=0) || (!decide (e.s=[]) || decide (0<e.l.length)))
def shA (k:Int):Int:=if k=1 then 2 else if k=2 then 1 else if k=3∨k=4∨k=5∨k=6 then 3 else if k=13 then 4 else if k=14 then 5 else 0
def shB (k:Int):Int:=if k=6 then 3 else if k=14 then 2 else 0
def shN (k:Int):Int:=if k=1∨k=14 then 1 else 0
def shE (k:Int):Int:=if k=2∨k=9 then 1 else 0
def shL (k:Int):Int:=if k=3∨k=7 then 1 else if k=9∨k=10∨k=11∨k=12 then 2 else 0
mutual
def rightT (v st p:Int) (pushed:Bool):Tm→Bool
 | .mk k a b s e l=>decide (0≤k∧k<15)&&(!(pushed&&decide (k=14))&&(fitsF v st p (shA k) a&&(fitsF v st p (shB k) b&&(decide ((if s=[] then (0:Int) else 1)=shN k∧(if givenF e then (1:Int) else 0)=shE k∧(l.length:Int)=shL k)&&((decide (s=[]) || nameF s)&&((!givenF e || kU v e)&&rightTs v st p (pushed || decide (k=3)) l))))))
def rightTs (v st p:Int) (pushed:Bool):List Tm→Bool
 | []=>true
 | x :: l=>rightT v st p pushed x&&rightTs v st p pushed l
end
theorem tmz_fz {P:Program} {N:Nat} {σ:jA} (h1:szT P eE=some 4) (k a b:Int) (s:List UInt8) {f:Bool} {cs:List Value} {n:Nat} {l:List Tm} (hn:n=l.length) (hc:FzL P N σ cs (qR l)) :
  FzV P N σ (.agg ⟨[.int .i64 k,.int .i64 a,.int .i64 b,.string (Tx s),.int .i64 0,.int .i64 0,.string (Tx []),.slice none 0 0,Rw f etm n cs]⟩) (tmV (.mk k a b s zE l)):=by
 subst hn
 exact .agg (.cons (.id rfl) (.cons (.id rfl) (.cons (.id rfl) (.cons (.id rfl) (.cons (.id rfl) (.cons (.id rfl) (.cons (.id rfl) (.cons (.nil (size:=4) h1 (by decide)) (.cons (.row hc) .nil)))))))))
end
end Go.Proofs.YtgeakofgklcipaaDoor
