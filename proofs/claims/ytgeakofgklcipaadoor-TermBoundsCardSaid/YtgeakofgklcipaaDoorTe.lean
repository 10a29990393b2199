/-
  A part of the proof: what the program's functions hand back,as theorems. No condition but those that each theorem names.
-/
import Derived.Test.YtgeakofgklcipaaDoorEvd
import Derived.Test.YtgeakofgklcipaaDoorExa
import Derived.Test.YtgeakofgklcipaaDoorEva
import Derived.Test.YtgeakofgklcipaaDoorTa
import Derived.Test.YtgeakofgklcipaaDoorExc
import Derived.Test.YtgeakofgklcipaaDoorEve
import Derived.Lib.Bytealg
import Derived.Laws.RangeAny
import Derived.Test.YtgeakofgklcipaaDoorExd
set_option linter.unusedSimpArgs false
set_option linter.unusedVariables false
namespace Go.Proofs.YtgeakofgklcipaaDoor
open _root_.Go.Proofs.Tryd (prog)
open Go Go.RowKit Go.Ev Go.Dv
set_option maxRecDepth 100000
noncomputable section
theorem laid_rel2 (P:Program) (sg:Nat→Int) (tg:Nat→ByteArray) {NG:Nat} {L:List (Nat×List Value)} {w:World} (hs:NG≤w.heap.size) (hL:okPl L=true)
  (hobj:∀ x∈L,x.1<NG∧∀ (j:Nat) (u:Value),x.2[j]?=some u→w.cell? ⟨x.1,j,none⟩=some u) :
  jR ⟨P,NG,NG,w.heap.size,sg,tg⟩ ⟨fun i=>i,fun _=>0,sg,tg⟩ (laidH NG L) w:=by
 have hg:∀ i x,(laidH NG L).get i=some x→i<NG∧∃ cs,x=⟨.cells ⟨cs⟩ 0 (0,0),false⟩∧cs.all one=true∧jP cs=true∧∀ (j:Nat) (u:Value),cs[j]?=some u→w.cell? ⟨i,j,none⟩=some u:=fun i x hx=>by
  obtain ⟨y,hy,rfl,rfl⟩:=laidT_get hx
  obtain ⟨h1,h2⟩:=hobj y hy
  obtain ⟨h3,h4⟩:=okPl_mem hL hy
  exact ⟨h1,_,rfl,h4,h3,h2⟩
 refine ⟨fun i x hx=>?_,fun i x hx _ hi=>?_,fun i j x y hx _ _ _ hi _ _=>?_,fun g _=>rfl,fun i x hi _ _=>Nat.lt_of_lt_of_le hi hs,rfl,Nat.le_refl _,⟨Nat.le_refl _,hs⟩,Nat.le_refl _,rfl,rfl⟩
 ·obtain ⟨hi,cs,rfl,h1,h2,h3⟩:=hg i x hx
  refine ⟨hi,?_⟩
  simp only[OR]
  refine ⟨fun hG=>(by have hG:NG≤i:=hG;omega),fun _=>⟨trivial,Nat.lt_of_lt_of_le hi hs,fun j v hj hv=>?_⟩⟩
  have hj:cs[j]?=some v:=by simpa using hj
  have hm:=List.mem_of_getElem? hj
  refine ⟨List.all_eq_true.1 h1 v hm,?_⟩
  rw[qF _ v (flatL_all h2 v hm)]
  exact h3 j v hj
 ·have:=(hg i x hx).1
  have hi:NG≤i:=hi
  omega
 ·have:=(hg i x hx).1
  have hi:NG≤i:=hi
  omega
def noX:Ext:=fun _ _ _=>none
theorem known_ev:(evCall prog noX (evC prog noX 400) 11 [] (laidH 1 LL)).map (·.1)=some (.bool true):=by kernel_rfl
theorem known5e_f (G:Nat×Nat):jI (pp G) H0 11 [] (.bool true):=
 jI.of_known (jN G) Tryd.func11 rfl rfl (fun x hx=>by
  simp only[LL,List.mem_cons,List.not_mem_nil,or_false] at hx
  subst hx
  exact ⟨rfl,rfl,by show (0:Nat)<1;omega,by show (0:Nat)<1;omega⟩) fun w hsz hl=>by
  have:=calls_of_ev_at (X:=noX) (sg:=fun _=>0) (tg:=fun _=>.empty) (args:=[]) (w:=w) ⟨funcs_ok',mixed,fun _ _ _ _ _ h=>by cases h⟩ (laid_rel2 prog _ _ hsz LL_ok fun x hx=>⟨by
   simp only[LL,List.mem_cons,List.not_mem_nil,or_false] at hx
   subst hx
   show (0:Nat)<1
   omega,hl x hx⟩) Tryd.func11 rfl rfl known_ev rfl rfl
  exact this
end
end Go.Proofs.YtgeakofgklcipaaDoor
namespace Go.Proofs.YtgeakofgklcipaaDoor
open _root_.Go.Proofs.Tryd (prog)
open Go Go.RowKit Go.Ev Go.Dv
noncomputable section
set_option maxRecDepth 100000
variable (G:Nat×Nat)
end
end Go.Proofs.YtgeakofgklcipaaDoor
namespace Go.Proofs.YtgeakofgklcipaaDoor
open _root_.Go.Proofs.Tryd (prog)
open Go Go.RowKit Go.Ev Go.Dv
noncomputable section
set_option maxRecDepth 100000
theorem u_a3:prog.underlying 77=some (.array 3 3):=by kernel_rfl
theorem guardA:prog.eqGuardType prog.depth 77=false:=by kernel_rfl
theorem pv_prog (P:Program):pv P program=some P:=rfl
theorem partA (a b c:Int):pv prog (part 3 ⟨[.int .i64 a,.int .i64 b,.int .i64 c]⟩ (0*1))=some (.int .i64 a)∧pv prog (part 3 ⟨[.int .i64 a,.int .i64 b,.int .i64 c]⟩ (1*1))=some (.int .i64 b)∧pv prog (part 3 ⟨[.int .i64 a,.int .i64 b,.int .i64 c]⟩ (2*1))=some (.int .i64 c):=⟨by kernel_rfl,by kernel_rfl,by kernel_rfl⟩
theorem szA:pv prog (sizeOf 3)=some 1:=by kernel_rfl
theorem eqI (d:Nat) (a b:Int):pv prog (Op.equalIn (d+1) 3 (.int .i64 a) (.int .i64 b))=some (a == b):=by kernel_rfl
theorem pv_if {α:Type} (P:Program) (c:Prop) [Decidable c] (x y:Sem α):pv P (if c then x else y)=if c then pv P x else pv P y:=by split<;>rfl
theorem pv_eqA (d:Nat) (a b c a' b' c':Int):pv prog (Op.equalIn (d+2) 77 (.agg ⟨[.int .i64 a,.int .i64 b,.int .i64 c]⟩) (.agg ⟨[.int .i64 a',.int .i64 b',.int .i64 c']⟩))=some (a == a'&&b == b'&&c == c'):=by
 rw[Op.equalIn]
 simp only[gL,pv_under u_a3,Option.bind_some,szA]
 simp only[Std.Legacy.Range.forIn_eq_forIn_range',Std.Legacy.Range.size]
 rw[show List.range' 0 ((3-0+1-1) / 1)=[0,1,2] from rfl]
 have p1:=partA a b c
 have p2:=partA a' b' c'
 simp only[List.forIn_cons,List.forIn_nil,gL,pv_if,p1,p2,eqI,Option.bind_some]
 cases h1:(a == a')<;>cases h2:(b == b')<;>cases h3:(c == c')<;>simp[kA,gL,pv_if,p1,p2,eqI,h1,h2,h3]
theorem pv_eqA' (a b c a' b' c':Int):pv prog (Op.equal 77 (.agg ⟨[.int .i64 a,.int .i64 b,.int .i64 c]⟩) (.agg ⟨[.int .i64 a',.int .i64 b',.int .i64 c']⟩))=some (a == a'&&b == b'&&c == c'):=pv_eqA 9998 a b c a' b' c'
theorem b_neqA {x y:Operand} {a b c a' b' c':Int}:jA prog .neq 77 x y (.agg ⟨[.int .i64 a,.int .i64 b,.int .i64 c]⟩) (.agg ⟨[.int .i64 a',.int .i64 b',.int .i64 c']⟩)=some (.bool (!decide (a=a'∧b=b'∧c=c'))):=by
 have hg:pv prog (eqGuard .neq 77 x y (.agg ⟨[.int .i64 a,.int .i64 b,.int .i64 c]⟩) (.agg ⟨[.int .i64 a',.int .i64 b',.int .i64 c']⟩))=some ():=by
  simp only[eqGuard,pv_if,gL,pv_prog,Option.bind_some,guardA,Bool.not_true,Bool.not_false,Bool.false_eq_true,if_false,if_true,kA]
 have hb:pv prog (binOp .neq 77 (.agg ⟨[.int .i64 a,.int .i64 b,.int .i64 c]⟩) (.agg ⟨[.int .i64 a',.int .i64 b',.int .i64 c']⟩))=some (.bool (!(a == a'&&b == b'&&c == c'))):=by
  simp only[binOp,pv_map,gL,pv_eqA',Option.map_some,Option.bind_some,kA]
 have e:(a == a'&&b == b'&&c == c')=decide (a=a'∧b=b'∧c=c'):=by
  rw[Bool.eq_iff_iff]
  simp[and_assoc]
 rw[← e]
 simp only[jA,pvF,flat,jP,Bool.and_self,gL,hg,hb,Option.bind_some]
end
end Go.Proofs.YtgeakofgklcipaaDoor
namespace Go.Proofs.YtgeakofgklcipaaDoor
open _root_.Go.Proofs.Tryd (prog)
open Go Go.RowKit Go.Ev Go.Dv
noncomputable section
set_option maxRecDepth 100000
variable (G:Nat×Nat)
def small (c:UInt8):Bool:=decide (97≤c.toNat∧c.toNat≤122)
def digit (c:UInt8):Bool:=decide (48≤c.toNat∧c.toNat≤57)
def qV (c:UInt8):Bool:=small c || digit c || decide (c.toNat=95)
def kO (p:UInt8→Bool) (l:List UInt8):Nat:=(l.takeWhile p).length
theorem front_le (p:UInt8→Bool) (l:List UInt8):kO p l≤l.length:=by
 unfold kO;exact List.Sublist.length_le (List.takeWhile_sublist p)
theorem front_cons (p:UInt8→Bool) (c:UInt8) (l:List UInt8):kO p (c :: l)=if p c then kO p l+1 else 0:=by
 unfold kO;rw[List.takeWhile_cons];split<;>simp
theorem front_all (p:UInt8→Bool):∀ (l:List UInt8) (i:Nat),i<kO p l→p (l.getD i 0)=true
 | [],i,h=>by simp[kO] at h
 | c :: l,i,h=>by
  rw[front_cons] at h
  split at h
  ·cases i with
   | zero=>simpa
   | succ i=>simpa using front_all p l i (by omega)
  ·omega
theorem frw_end (p:UInt8→Bool):∀ (l:List UInt8),kO p l<l.length→p (l.getD (kO p l) 0)=false
 | [],h=>by simp[kO] at h
 | c :: l,h=>by
  rw[front_cons] at h ⊢
  split at h
  ·rename_i hc
   rw[if_pos hc]
   simpa using frw_end p l (by simpa using h)
  ·rename_i hc
   rw[if_neg hc]
   simpa using hc
def bF (r:Int):Bool:=decide (97≤r∧r≤122)
def qdigit (r:Int):Bool:=decide (48≤r∧r≤57)
def qwordy (r:Int):Bool:=bF r || qdigit r || decide (r=95)
theorem small_f (r:Int):jI (pp G) H0 73 [.int .i32 r] (.bool (bF r)):=by
 have hlo:H0.lo≤H0.next:=Nat.le_refl _;refine jI.cut (jK.fir4 (q:=qq) (jN G) fir73 (by kernel_rfl) rfl rfl (F9_arr ..) (show NGG≤H0.lo by rw[jY];decide) ?_);rw[sd_ir73]
 unfold bF
 by_cases h1:97≤r
 ·simp(disch:=first|omega|(apply id;simp only[push_cast];try omega))only[push_cast,simprocAttr,h1,true_and]
  exact .id rfl
 ·simp(disch:=first|omega|(apply id;simp only[push_cast];try omega))only[push_cast,simprocAttr,h1,false_and]
  exact .id rfl
theorem digit_f (r:Int):jI (pp G) H0 82 [.int .i32 r] (.bool (qdigit r)):=by
 have hlo:H0.lo≤H0.next:=Nat.le_refl _;refine jI.cut (jK.fir4 (q:=qq) (jN G) fir82 (by kernel_rfl) rfl rfl (F9_arr ..) (show NGG≤H0.lo by rw[jY];decide) ?_);rw[sd_ir82]
 unfold qdigit
 by_cases h1:48≤r
 ·simp(disch:=first|omega|(apply id;simp only[push_cast];try omega))only[push_cast,simprocAttr,h1,true_and]
  exact .id rfl
 ·simp(disch:=first|omega|(apply id;simp only[push_cast];try omega))only[push_cast,simprocAttr,h1,false_and]
  exact .id rfl
theorem wordy_f (r:Int):jI (pp G) H0 75 [.int .i32 r] (.bool (qwordy r)):=by
 have hlo:H0.lo≤H0.next:=Nat.le_refl _;refine jI.cut (jK.fir4 (q:=qq) (jN G) fir75 (by kernel_rfl) rfl rfl (F13_arr ..) (show NGG≤H0.lo by rw[jY];decide) ?_);rw[sd_ir75]
 unfold qwordy
 simp(disch:=first|omega|(apply id;simp only[push_cast];try omega))only[push_cast,simprocAttr]
 refine jC.dataI (small_f G r) (by and_intros<;>first|rfl|(simp(disch:=first|omega|(apply id;simp only[push_cast];try omega))only[push_cast])) ?_
 cases h1:bF r with
 | true=>
  simp(disch:=first|omega|(apply id;simp only[push_cast];try omega))only[push_cast,simprocAttr,Bool.true_or]
  exact .id rfl
 | false=>
  simp(disch:=first|omega|(apply id;simp only[push_cast];try omega))only[push_cast,simprocAttr,Bool.false_or]
  refine jC.dataI (digit_f G r) (by and_intros<;>first|rfl|(simp(disch:=first|omega|(apply id;simp only[push_cast];try omega))only[push_cast])) ?_
  cases h2:qdigit r with
  | true=>
   simp(disch:=first|omega|(apply id;simp only[push_cast];try omega))only[push_cast,simprocAttr,Bool.true_or]
   exact .id rfl
  | false=>
   simp(disch:=first|omega|(apply id;simp only[push_cast];try omega))only[push_cast,simprocAttr,Bool.false_or]
   exact .id rfl
theorem dec_lo {L:List UInt8} {pos:Nat} (hp:pos<L.length) (ha:(L.getD pos 0).toNat<128):Utf8.decode (Tx L) pos=((L.getD pos 0).toNat,1):=by
 have e:(Tx L)[pos]'hp=L.getD pos 0:=by
  rw[List.getD_eq_getElem?_getD,List.getElem?_eq_getElem hp];rfl
 have:=decode_ascii (Tx L) pos hp (by rw[e];exact ha)
 rw[e] at this
 exact this
theorem dec_hi {L:List UInt8} {pos:Nat} (hp:pos<L.length) (ha:128≤(L.getD pos 0).toNat):128≤(Utf8.decode (Tx L) pos).1∧1≤(Utf8.decode (Tx L) pos).2:=by
 have e:(Tx L)[pos]'hp=L.getD pos 0:=by
  rw[List.getD_eq_getElem?_getD,List.getElem?_eq_getElem hp];rfl
 exact decode_high (Tx L) pos hp (by rw[e];exact ha)
theorem qw_eq (c:UInt8):qwordy (c.toNat:Int)=qV c:=by
 have a:bF (c.toNat:Int)=small c:=by unfold bF small;congr 1;simp only[eq_iff_iff];omega
 have b:qdigit (c.toNat:Int)=digit c:=by unfold qdigit digit;congr 1;simp only[eq_iff_iff];omega
 unfold qwordy qV;rw[a,b];congr 2;simp only[eq_iff_iff];omega
theorem qw_hi (r:Int) (h:128≤r):qwordy r=false:=by
 unfold qwordy bF qdigit;simp;omega
inductive I74 (L:List UInt8):Nat→S→Prop
 | mk (pos:Nat) (h:jB) {x2 x3 x4 x5 x6 x7 x9 xA xB xC xD xE xF xG xH xI xJ:Value} (hg:h.get 1=some (itO (Tx L) pos)) (hl1:h.lo=1) (hl2:2≤h.next) (hp:pos≤kO qV L) :
  I74 L (L.length-pos) ⟨(F20 (.string (Tx L)) (.func (.func 75) #[] #[]) x2 x3 x4 x5 x6 x7 (.pointer (some ⟨1,0,none⟩)) x9 xA xB xC xD xE xF xG xH xI xJ),[],h⟩
theorem front_f (L:List UInt8):jI (pp G) H0 74 [.string (Tx L),.func (.func 75) #[] #[]] (.int .i64 (kO qV L)):=by
 have hlo:H0.lo≤H0.next:=Nat.le_refl _;refine jI.cut (jK.fir4 (q:=qq) (jN G) fir74 (by kernel_rfl) rfl rfl (F20_arr ..) (show NGG≤H0.lo by rw[jY];decide) ?_);rw[sd_ir74]
 simp(disch:=first|omega|(apply id;simp only[push_cast];try omega))only[push_cast,simprocAttr]
 refine WD.loop4 (q:=qq) (jN G) (by kernel_rfl) (I74 L) ?_ _ _ (I74.mk 0 _ (by rw[get_add_s _ _ bK.symm]) rfl (by simp(disch:=first|omega|(apply id;simp only[push_cast];try omega))only[push_cast,simprocAttr];first|done|omega) (Nat.zero_le _))
 intro m s1 hI
 cases hI with|mk pos h hg hl1 hl2 hp=>
 rw[sd_ir74_s0]
 have hfl:=front_le qV L
 by_cases hpl:pos<L.length
 ·simp(disch:=first|omega|(apply id;simp only[push_cast];try omega))only[push_cast,simprocAttr,nxE_t _ pos L hg (by omega) hpl]
  refine jC.dataI (wordy_f G _) (by and_intros<;>first|rfl|(simp(disch:=first|omega|(apply id;simp only[push_cast];try omega))only[push_cast])) ?_
  by_cases ha:(L.getD pos 0).toNat<128
  ·rw[dec_lo hpl ha]
   have e:=qw_eq (L.getD pos 0)
   dsimp only
   cases hc:qV (L.getD pos 0) with
   | true=>
    rw[hc] at e
    simp(disch:=first|omega|(apply id;simp only[push_cast];try omega))only[push_cast,simprocAttr,e,Bool.not_true]
    have hlt:pos<kO qV L:=by
     rcases Nat.lt_or_ge pos (kO qV L) with h2|h2
     ·exact h2
     ·have h3:kO qV L=pos:=by omega
      have:=frw_end qV L (by omega)
      rw[h3,hc] at this;cases this
    exact ⟨_,by omega,I74.mk (pos+1) _ (get_put_s _ _) hl1 hl2 (by omega)⟩
   | false=>
    rw[hc] at e
    simp(disch:=first|omega|(apply id;simp only[push_cast];try omega))only[push_cast,simprocAttr,e,Bool.not_false]
    have h3:kO qV L=pos:=by
     rcases Nat.lt_or_ge pos (kO qV L) with h2|h2
     ·have:=front_all qV L pos h2
      rw[hc] at this;cases this
     ·omega
    rw[h3]
    exact .id rfl
  ·have hh:=dec_hi hpl (by omega)
   have e:=qw_hi ((Utf8.decode (Tx L) pos).1:Int) (by omega)
   simp(disch:=first|omega|(apply id;simp only[push_cast];try omega))only[push_cast,simprocAttr,e,Bool.not_false]
   have h3:kO qV L=pos:=by
    rcases Nat.lt_or_ge pos (kO qV L) with h2|h2
    ·have h4:=front_all qV L pos h2
     rw[← qw_eq,qw_hi _ (by omega)] at h4;cases h4
    ·omega
   rw[h3]
   exact .id rfl
 ·simp(disch:=first|omega|(apply id;simp only[push_cast];try omega))only[push_cast,simprocAttr,nxE_f _ pos L hg (by omega) (by omega)]
  rw[sd_ir74_s1]
  simp(disch:=first|omega|(apply id;simp only[push_cast];try omega))only[push_cast,simprocAttr]
  have h3:kO qV L=L.length:=by omega
  rw[h3]
  exact .id rfl
def keysF:List (List UInt8):=[[118,97,114],[115,116,97,99,107],[112,114,111,99],[115,107,105,112],[100,111],[112,117,115,104],[114,101,118,101,114,115,101],[97,99,99,101,112,116],[109,101,114,103,101],[98,108,111,99,107],[101,120,105,116],[105,102],[101,108,115,101],[99,104,111,111,115,101],[112,97,114],[99,97,108,108]]
def keyF (s:List UInt8):Bool:=decide (s∈keysF)
theorem lexkey_f (s:List UInt8):jI (pp G) H0 72 [.string (Tx s)] (.bool (keyF s)):=by
 have hlo:H0.lo≤H0.next:=Nat.le_refl _;refine jI.cut (jK.fir4 (q:=qq) (jN G) fir72 (by kernel_rfl) rfl rfl (F21_arr ..) (show NGG≤H0.lo by rw[jY];decide) ?_);rw[sd_ir72]
 by_cases h0:s=[118,97,114]
 ·have t0:(s == [118,97,114])=true:=by simpa using h0
  rw[show keyF s=true from by rw[h0];decide]
  simp(disch:=first|omega|(apply id;simp only[push_cast];try omega))only[push_cast,simprocAttr,t0]
  exact .id rfl
 have g0:(s == [118,97,114])=false:=by simpa using h0
 by_cases h1:s=[115,116,97,99,107]
 ·have t1:(s == [115,116,97,99,107])=true:=by simpa using h1
  rw[show keyF s=true from by rw[h1];decide]
  simp(disch:=first|omega|(apply id;simp only[push_cast];try omega))only[push_cast,simprocAttr,g0,t1]
  exact .id rfl
 have g1:(s == [115,116,97,99,107])=false:=by simpa using h1
 by_cases h2:s=[112,114,111,99]
 ·have t2:(s == [112,114,111,99])=true:=by simpa using h2
  rw[show keyF s=true from by rw[h2];decide]
  simp(disch:=first|omega|(apply id;simp only[push_cast];try omega))only[push_cast,simprocAttr,g0,g1,t2]
  exact .id rfl
 have g2:(s == [112,114,111,99])=false:=by simpa using h2
 by_cases h3:s=[115,107,105,112]
 ·have t3:(s == [115,107,105,112])=true:=by simpa using h3
  rw[show keyF s=true from by rw[h3];decide]
  simp(disch:=first|omega|(apply id;simp only[push_cast];try omega))only[push_cast,simprocAttr,g0,g1,g2,t3]
  exact .id rfl
 have g3:(s == [115,107,105,112])=false:=by simpa using h3
 by_cases h4:s=[100,111]
 ·have t4:(s == [100,111])=true:=by simpa using h4
  rw[show keyF s=true from by rw[h4];decide]
  simp(disch:=first|omega|(apply id;simp only[push_cast];try omega))only[push_cast,simprocAttr,g0,g1,g2,g3,t4]
  exact .id rfl
 have g4:(s == [100,111])=false:=by simpa using h4
 by_cases h5:s=[112,117,115,104]
 ·have t5:(s == [112,117,115,104])=true:=by simpa using h5
  rw[show keyF s=true from by rw[h5];decide]
  simp(disch:=first|omega|(apply id;simp only[push_cast];try omega))only[push_cast,simprocAttr,g0,g1,g2,g3,g4,t5]
  exact .id rfl
 have g5:(s == [112,117,115,104])=false:=by simpa using h5
 by_cases h6:s=[114,101,118,101,114,115,101]
 ·have t6:(s == [114,101,118,101,114,115,101])=true:=by simpa using h6
  rw[show keyF s=true from by rw[h6];decide]
  simp(disch:=first|omega|(apply id;simp only[push_cast];try omega))only[push_cast,simprocAttr,g0,g1,g2,g3,g4,g5,t6]
  exact .id rfl
 have g6:(s == [114,101,118,101,114,115,101])=false:=by simpa using h6
 by_cases h7:s=[97,99,99,101,112,116]
 ·have t7:(s == [97,99,99,101,112,116])=true:=by simpa using h7
  rw[show keyF s=true from by rw[h7];decide]
  simp(disch:=first|omega|(apply id;simp only[push_cast];try omega))only[push_cast,simprocAttr,g0,g1,g2,g3,g4,g5,g6,t7]
  exact .id rfl
 have g7:(s == [97,99,99,101,112,116])=false:=by simpa using h7
 by_cases h8:s=[109,101,114,103,101]
 ·have t8:(s == [109,101,114,103,101])=true:=by simpa using h8
  rw[show keyF s=true from by rw[h8];decide]
  simp(disch:=first|omega|(apply id;simp only[push_cast];try omega))only[push_cast,simprocAttr,g0,g1,g2,g3,g4,g5,g6,g7,t8]
  exact .id rfl
 have g8:(s == [109,101,114,103,101])=false:=by simpa using h8
 by_cases h9:s=[98,108,111,99,107]
 ·have t9:(s == [98,108,111,99,107])=true:=by simpa using h9
  rw[show keyF s=true from by rw[h9];decide]
  simp(disch:=first|omega|(apply id;simp only[push_cast];try omega))only[push_cast,simprocAttr,g0,g1,g2,g3,g4,g5,g6,g7,g8,t9]
  exact .id rfl
 have g9:(s == [98,108,111,99,107])=false:=by simpa using h9
 by_cases h10:s=[101,120,105,116]
 ·have t10:(s == [101,120,105,116])=true:=by simpa using h10
  rw[show keyF s=true from by rw[h10];decide]
  simp(disch:=first|omega|(apply id;simp only[push_cast];try omega))only[push_cast,simprocAttr,g0,g1,g2,g3,g4,g5,g6,g7,g8,g9,t10]
  exact .id rfl
 have g10:(s == [101,120,105,116])=false:=by simpa using h10
 by_cases h11:s=[105,102]
 ·have t11:(s == [105,102])=true:=by simpa using h11
  rw[show keyF s=true from by rw[h11];decide]
  simp(disch:=first|omega|(apply id;simp only[push_cast];try omega))only[push_cast,simprocAttr,g0,g1,g2,g3,g4,g5,g6,g7,g8,g9,g10,t11]
  exact .id rfl
 have g11:(s == [105,102])=false:=by simpa using h11
 by_cases h12:s=[101,108,115,101]
 ·have t12:(s == [101,108,115,101])=true:=by simpa using h12
  rw[show keyF s=true from by rw[h12];decide]
  simp(disch:=first|omega|(apply id;simp only[push_cast];try omega))only[push_cast,simprocAttr,g0,g1,g2,g3,g4,g5,g6,g7,g8,g9,g10,g11,t12]
  exact .id rfl
 have g12:(s == [101,108,115,101])=false:=by simpa using h12
 by_cases h13:s=[99,104,111,111,115,101]
 ·have t13:(s == [99,104,111,111,115,101])=true:=by simpa using h13
  rw[show keyF s=true from by rw[h13];decide]
  simp(disch:=first|omega|(apply id;simp only[push_cast];try omega))only[push_cast,simprocAttr,g0,g1,g2,g3,g4,g5,g6,g7,g8,g9,g10,g11,g12,t13]
  exact .id rfl
 have g13:(s == [99,104,111,111,115,101])=false:=by simpa using h13
 by_cases h14:s=[112,97,114]
 ·have t14:(s == [112,97,114])=true:=by simpa using h14
  rw[show keyF s=true from by rw[h14];decide]
  simp(disch:=first|omega|(apply id;simp only[push_cast];try omega))only[push_cast,simprocAttr,g0,g1,g2,g3,g4,g5,g6,g7,g8,g9,g10,g11,g12,g13,t14]
  exact .id rfl
 have g14:(s == [112,97,114])=false:=by simpa using h14
 by_cases h15:s=[99,97,108,108]
 ·have t15:(s == [99,97,108,108])=true:=by simpa using h15
  rw[show keyF s=true from by rw[h15];decide]
  simp(disch:=first|omega|(apply id;simp only[push_cast];try omega))only[push_cast,simprocAttr,g0,g1,g2,g3,g4,g5,g6,g7,g8,g9,g10,g11,g12,g13,g14,t15]
  exact .id rfl
 have g15:(s == [99,97,108,108])=false:=by simpa using h15
 rw[show keyF s=false from by unfold keyF keysF;simp[h0,h1,h2,h3,h4,h5,h6,h7,h8,h9,h10,h11,h12,h13,h14,h15]]
 simp(disch:=first|omega|(apply id;simp only[push_cast];try omega))only[push_cast,simprocAttr,g0,g1,g2,g3,g4,g5,g6,g7,g8,g9,g10,g11,g12,g13,g14,g15]
 exact .id rfl
def nameF (s:List UInt8):Bool:=!decide (s=[])&&(decide (s.length≤20)&&(!keyF s&&(small (s.getD 0 0)&&decide (kO qV s=s.length))))
theorem qs_eq (c:UInt8):bF (c.toNat:Int)=small c:=by unfold bF small;congr 1;simp only[eq_iff_iff];omega
theorem lexname_f (s:List UInt8):jI (pp G) H0 54 [.string (Tx s)] (.bool (nameF s)):=by
 have hlo:H0.lo≤H0.next:=Nat.le_refl _;refine jI.cut (jK.fir4 (q:=qq) (jN G) fir54 (by kernel_rfl) rfl rfl (F25_arr ..) (show NGG≤H0.lo by rw[jY];decide) ?_);rw[sd_ir54]
 unfold nameF
 by_cases h1:s=[]
 ·simp(disch:=first|omega|(apply id;simp only[push_cast];try omega))only[push_cast,simprocAttr,h1,beq_self_eq_true,decide_true,Bool.not_true,Bool.false_and]
  exact .id rfl
 have hb:(s == ([]:List UInt8))=false:=by simpa using h1
 by_cases h2:(20:Int)<s.length
 ·have h2':¬ s.length≤20:=by omega
  simp(disch:=first|omega|(apply id;simp only[push_cast];try omega))only[push_cast,simprocAttr,h1,hb,h2,h2',decide_false,Bool.false_and,Bool.and_false]
  exact .id rfl
 have h2':s.length≤20:=by omega
 have hs0:0<s.length:=List.length_pos_iff.2 h1
 rw[decide_eq_false h1,decide_eq_true h2',Bool.not_false,Bool.true_and,Bool.true_and]
 simp(disch:=first|omega|(apply id;simp only[push_cast];try omega))only[push_cast,simprocAttr,h1,hb,h2,h2',decide_true,decide_false,Bool.not_false,Bool.true_and]
 refine jC.dataI (lexkey_f G s) (by and_intros<;>first|rfl|(simp(disch:=first|omega|(apply id;simp only[push_cast];try omega))only[push_cast])) ?_
 cases hk:keyF s with
 | true=>
  simp(disch:=first|omega|(apply id;simp only[push_cast];try omega))only[push_cast,simprocAttr,Bool.not_true,Bool.false_and]
  exact .id rfl
 | false=>
  have hcv:∀ n h,cvV prog 5 21 (.int .u8 n) h=some (.int .i32 (IntKind.i32.wrap n)):=fun n h=>cv_int T_cnvT_5_21
  have hbt:IntKind.i32.wrap (bt s 0)=((s.getD 0 0).toNat:Int):=by
   have:(s.getD 0 0).toNat<256:=(s.getD 0 0).toNat_lt
   have e:bt s 0=((s.getD 0 0).toNat:Int):=rfl
   rw[e,IntKind.wrap_i32]
   omega
  simp(disch:=first|omega|(apply id;simp only[push_cast];try omega))only[push_cast,simprocAttr,hcv,hbt,Bool.not_false,Bool.true_and]
  refine jC.dataI (small_f G _) (by and_intros<;>first|rfl|(simp(disch:=first|omega|(apply id;simp only[push_cast];try omega))only[push_cast])) ?_
  rw[qs_eq]
  cases hs:small (s.getD 0 0) with
  | false=>
   simp(disch:=first|omega|(apply id;simp only[push_cast];try omega))only[push_cast,simprocAttr,Bool.false_and]
   exact .id rfl
  | true=>
   simp(disch:=first|omega|(apply id;simp only[push_cast];try omega))only[push_cast,simprocAttr,Bool.true_and]
   refine jC.dataI (front_f G s) (by and_intros<;>first|rfl|(simp(disch:=first|omega|(apply id;simp only[push_cast];try omega))only[push_cast])) ?_
   by_cases hf:kO qV s=s.length
   ·have hf':(kO qV s:Int)=s.length:=by omega
    rw[show decide (kO qV s=s.length)=true from decide_eq_true hf]
    simp(disch:=first|omega|(apply id;simp only[push_cast];try omega))only[push_cast,simprocAttr,hf',decide_true]
    exact .id rfl
   ·have hf':¬ (kO qV s:Int)=s.length:=by omega
    rw[show decide (kO qV s=s.length)=false from decide_eq_false hf]
    simp(disch:=first|omega|(apply id;simp only[push_cast];try omega))only[push_cast,simprocAttr,hf',decide_false]
    exact .id rfl
mutual
def qI (v:Int):Ex→Bool
 | .mk k n s l => (if k = 1 ∧ 0 ≤ n then decide (l.length = 0) else if k = 2 ∧ 0 ≤ n ∧ n < v then decide (l.length = 0) else if k = 3 ∨ k = 4 then decide (l.length = 1 ∧ n = 0) else if 5 ≤ k ∧ k ≤ 17 then decide (l.length = 2 ∧ n = 0) else false)
   &&decide (s=[])&&qY v l
def qY (v:Int):List Ex→Bool
 | []=>true
 | x :: l=>qI v x&&qY v l
end
theorem rightL_all {v:Int}:∀ {l:List Ex},qY v l=true→∀ x∈l,qI v x=true
 | [],_,x,hx=>by cases hx
 | y :: l,h,x,hx=>by
  simp only[qY,Bool.and_eq_true] at h
  rcases List.mem_cons.1 hx with rfl|hx
  ·exact h.1
  ·exact rightL_all h.2 x hx
theorem rightL_take {v:Int} {l:List Ex} {i:Nat} {x:Ex} (h:l[i]?=some x):qY v (l.take (i+1))=(qY v (l.take i)&&qI v x):=by
 have hi:=(List.getElem?_eq_some_iff.1 h).1
 have app:∀ a b:List Ex,qY v (a++b)=(qY v a&&qY v b):=by
  intro a b
  induction a with
  | nil=>simp[qY]
  | cons x a ih=>simp[qY,ih,Bool.and_assoc]
 rw[List.take_add_one,h,app]
 simp[qY]
theorem rightL_no {v:Int} {l:List Ex} {x:Ex} (h:x∈l) (hx:qI v x=false):qY v l=false:=by
 cases hc:qY v l with
 | false=>rfl
 | true=>rw[rightL_all hc x h] at hx;cases hx
inductive I56r (v:Int) (l:List Ex):Nat→S→Prop
 | mk (i:Nat) (iv:Int) (h:jB) {x0 x2 x3 x4 x5 x6 x7 x8 x9 xA xB xC xD xE xF xG xH xI xJ xK xL xM xN xO xP xQ xR xS xT xU xV xW xX xY xZ yA yB yC yD yE yF yG yH yI yJ yK yL yM yN yO yP yQ yR yS yT yU yV yW yX yY yZ zA zB zC zD zE zF zG zH zL zM zN zO zP zQ zR zS:Value} (hiv:iv=(i:Int)) (hi:i≤l.length) (hok:qY v (l.take i)=true) (hl1:h.lo=1) (hl2:1≤h.next) :
  I56r v l (l.length-i) ⟨(F81 x0 (.int .i64 v) x2 x3 x4 x5 x6 x7 x8 x9 xA xB xC xD xE xF xG xH xI xJ xK xL xM xN xO xP xQ xR xS xT xU xV xW xX xY xZ yA yB yC yD yE yF yG yH yI yJ yK yL yM yN yO yP yQ yR yS yT yU yV yW yX yY yZ zA zB zC zD zE zF zG zH (Rw false eE l.length (kJ l)) (.int .i64 l.length) (.int .i64 iv) zL zM zN zO zP zQ zR zS),[],h⟩
theorem right_s0 (v c k n:Int) (s:List UInt8) (l:List Ex) (hll:l.length<100000000000) (ih:∀ x∈l,jI (pp G) H0 56 [exV x,.int .i64 v] (.bool (qI v x))) {x0 x3 x4 x6 x7 x8 x9 xA xB xC xD xE xF xG xH xI xJ xK xL xM xN xO xP xQ xR xS xT xU xV xW xX xY xZ yA yB yC yD yE yF yG yH yI yJ yK yL yM yN yO yP yQ yR yS yT yU yV yW yX yY yZ zA zB zC zD zE zF zG zH zI zJ zK zL zM zN zO zP zQ zR zS:Value} (b:Bool)
  (hb:b=(decide (s=[])&&decide ((l.length:Int)=c)&&decide (c=0∨n=0)&&qY v l)) :
  dc3 (pp G) qq none ir56_s0 ⟨(F81 x0 (.int .i64 v) (.pointer (some ⟨1,0,none⟩)) x3 x4 (.int .i64 c) x6 x7 x8 x9 xA xB xC xD xE xF xG xH xI xJ xK xL xM xN xO xP xQ xR xS xT xU xV xW xX xY xZ yA yB yC yD yE yF yG yH yI yJ yK yL yM yN yO yP yQ yR yS yT yU yV yW yX yY yZ zA zB zC zD zE zF zG zH zI zJ zK zL zM zN zO zP zQ zR zS),[],H0.add (O [.int .i64 k,.int .i64 n,.string (Tx s),Rw false eE l.length (kJ l)] 31 false)⟩ (@kR ⟨jF prog [.tmp 4] (fun v' σ'=>FzV prog 1 σ' v' (.bool b))⟩):=by
 rw[sd_ir56_s0]
 have key : ∀ {yO yP yQ yR yS yT yU yV yW yX yY yZ zA zB zC zD zE zF zG zH : Value} (hb : b = qY v l) (h : jB) (hl1 : h.lo = 1) (hl2 : 1 ≤ h.next), WD (pp G) qq.H none (.loop ir56_s1) ⟨(F81 x0 (.int .i64 v) (.pointer (some ⟨1, 0, none⟩)) x3 x4 (.int .i64 c) x6 x7 x8 x9 xA xB xC xD xE xF xG xH xI xJ xK xL xM xN xO xP xQ xR xS xT xU xV xW xX xY xZ yA yB yC yD yE yF yG yH yI yJ yK yL yM yN yO yP yQ yR yS yT yU yV yW yX yY yZ zA zB zC zD zE zF zG zH (Rw false eE l.length (kJ l)) (.int .i64 l.length) (.int .i64 0) zL zM zN zO zP zQ zR zS), [], h⟩
   (@kR ⟨jM 1 (jH (fun s1=>dc3 (pp G) qq none ir56_s2 s1 (@kR ⟨@kR ⟨jF prog [.tmp 4] (fun v' σ'=>FzV prog 1 σ' v' (.bool b))⟩⟩)) (@kR ⟨jF prog [.tmp 4] (fun v' σ'=>FzV prog 1 σ' v' (.bool b))⟩))⟩):=by
  intro yO yP yQ yR yS yT yU yV yW yX yY yZ zA zB zC zD zE zF zG zH hb h hl1 hl2
  refine WD.loop4 (q:=qq) (jN G) (by kernel_rfl) (I56r v l) ?_ _ _ (I56r.mk 0 0 h rfl (Nat.zero_le _) rfl hl1 hl2)
  intro m s1 hI
  cases hI with|mk i iv h hiv hi hok hl1 hl2=>
  subst hiv
  rw[sd_ir56_s1]
  by_cases hil:(i:Int)<l.length
  ·obtain ⟨x,hx⟩:∃ x,l[i]?=some x:=⟨_,List.getElem?_eq_getElem (by omega)⟩
   have hxm:=List.mem_of_getElem? hx
   have hp:=exCs_take hx
   have hle:i*4+4≤l.length*4:=by omega
   simp(disch:=first|omega|(apply id;simp only[push_cast];try omega))only[push_cast,simprocAttr,hil,Int.toNat_natCast,hp,hle,hl1]
   refine jC.dataI (ih x hxm) (by and_intros<;>first|rfl|(simp(disch:=first|omega|(apply id;simp only[push_cast];try omega))only[push_cast])) ?_
   cases hr:qI v x with
   | true=>
    simp(disch:=first|omega|(apply id;simp only[push_cast];try omega))only[push_cast,simprocAttr]
    exact ⟨_,by omega,I56r.mk (i+1) _ _ (by first|rfl|omega) (by omega) (by rw[rightL_take hx,hok,hr];rfl) (by first|(simp(disch:=first|omega|(apply id;simp only[push_cast];try omega))only[push_cast,simprocAttr,hl1];done)|(simp(disch:=first|omega|(apply id;simp only[push_cast];try omega))only[push_cast,simprocAttr];omega)) (by first|(simp(disch:=first|omega|(apply id;simp only[push_cast];try omega))only[push_cast,simprocAttr];done)|(simp(disch:=first|omega|(apply id;simp only[push_cast];try omega))only[push_cast,simprocAttr];omega))⟩
   | false=>
    rw[rightL_no hxm hr] at hb
    subst hb
    simp(disch:=first|omega|(apply id;simp only[push_cast];try omega))only[push_cast,simprocAttr]
    exact .id rfl
  ·have hie:i=l.length:=by omega
   subst hie
   rw[List.take_length] at hok
   rw[hok] at hb
   subst hb
   simp(disch:=first|omega|(apply id;simp only[push_cast];try omega))only[push_cast,simprocAttr,hil]
   exact .id rfl
 by_cases h1:s=[]
 ·by_cases h2:(l.length:Int)=c
  ·subst h2
   by_cases h3:(0:Int)<l.length
   ·by_cases h4:n=0
    ·simp(disch:=first|omega|(apply id;simp only[push_cast];try omega))only[push_cast,simprocAttr,h1,h3,h4,beq_self_eq_true]
     exact key (by rw[hb];simp[h1,h4]) _ (by simp(disch:=first|omega|(apply id;simp only[push_cast];try omega))only[push_cast,simprocAttr]) (by first|(simp(disch:=first|omega|(apply id;simp only[push_cast];try omega))only[push_cast,simprocAttr];done)|(simp(disch:=first|omega|(apply id;simp only[push_cast];try omega))only[push_cast,simprocAttr];omega))
    ·have hno:¬ ((l.length:Int)=0∨n=0):=by omega
     have:b=false:=by rw[hb,decide_eq_false hno];simp
     subst this
     simp(disch:=first|omega|(apply id;simp only[push_cast];try omega))only[push_cast,simprocAttr,h1,h3,h4,beq_self_eq_true]
     exact .id rfl
   ·simp(disch:=first|omega|(apply id;simp only[push_cast];try omega))only[push_cast,simprocAttr,h1,h3,beq_self_eq_true]
    exact key (by rw[hb,decide_eq_true (show (l.length:Int)=0∨n=0 by omega)];simp[h1]) _ (by simp(disch:=first|omega|(apply id;simp only[push_cast];try omega))only[push_cast,simprocAttr]) (by first|(simp(disch:=first|omega|(apply id;simp only[push_cast];try omega))only[push_cast,simprocAttr];done)|(simp(disch:=first|omega|(apply id;simp only[push_cast];try omega))only[push_cast,simprocAttr];omega))
  ·have:b=false:=by rw[hb];simp[h2]
   subst this
   simp(disch:=first|omega|(apply id;simp only[push_cast];try omega))only[push_cast,simprocAttr,h1,h2,beq_self_eq_true]
   exact .id rfl
 ·have:b=false:=by rw[hb];simp[h1]
  subst this
  have hs:(s == [])=false:=by simpa using h1
  simp(disch:=first|omega|(apply id;simp only[push_cast];try omega))only[push_cast,simprocAttr,hs]
  exact .id rfl
theorem right_f (v:Int):∀ x:Ex,smE x=true→jI (pp G) H0 56 [exV x,.int .i64 v] (.bool (qI v x))
 | .mk k n s l,hsm=>by
  simp only[smE,Bool.and_eq_true,decide_eq_true_eq] at hsm
  have hall:=smEs_all hsm.2
  have ih:∀ x∈l,jI (pp G) H0 56 [exV x,.int .i64 v] (.bool (qI v x)):=fun x hx=>right_f v x (hall x hx)
  have hlo:H0.lo≤H0.next:=Nat.le_refl _;refine jI.cut (jK.fir4 (q:=qq) (jN G) fir56 (by kernel_rfl) rfl rfl (F81_arr ..) (show NGG≤H0.lo by rw[jY];decide) ?_);rw[sd_ir56]
  unfold exV exC
  rw[qI]
  have hq:∀ (c:Int) (A:Bool),A=(decide ((l.length:Int)=c)&&decide (c=0∨n=0))→(A&&decide (s=[])&&qY v l)=(decide (s=[])&&decide ((l.length:Int)=c)&&decide (c=0∨n=0)&&qY v l):=fun c A hA=>by
   rw[hA]
   cases decide (s=[])<;>cases decide ((l.length:Int)=c)<;>cases decide (c=0∨n=0)<;>rfl
  by_cases h1:k=1
  ·by_cases h2:0≤n
   ·rw[if_pos ⟨h1,h2⟩]
    simp(disch:=first|omega|(apply id;simp only[push_cast];try omega))only[push_cast,simprocAttr,h1,h2]
    exact right_s0 G v 0 1 n s l hsm.1 ih _ (hq 0 (decide (l.length=0)) (by rw[Bool.eq_iff_iff];simp only[Bool.and_eq_true,decide_eq_true_eq];constructor<;>intro hz<;>first|omega|exact ⟨by omega,by first|omega|exact .inl rfl⟩|exact ⟨by omega,by simp⟩|exact hz.1|(simp at hz ⊢;omega)))
   ·rw[if_neg (by omega),if_neg (by omega),if_neg (by omega),if_neg (by omega)]
    subst h1
    simp(disch:=first|omega|(apply id;simp only[push_cast];try omega))only[push_cast,simprocAttr,h2]
    exact .id rfl
  rw[if_neg (by omega)]
  by_cases h2:k=2
  ·by_cases h3:0≤n
   ·by_cases h4:n<v
    ·rw[if_pos ⟨h2,h3,h4⟩]
     subst h2
     simp(disch:=first|omega|(apply id;simp only[push_cast];try omega))only[push_cast,simprocAttr,h3,h4]
     exact right_s0 G v 0 2 n s l hsm.1 ih _ (hq 0 (decide (l.length=0)) (by rw[Bool.eq_iff_iff];simp only[Bool.and_eq_true,decide_eq_true_eq];constructor<;>intro hz<;>first|omega|exact ⟨by omega,by first|omega|exact .inl rfl⟩|exact ⟨by omega,by simp⟩|exact hz.1|(simp at hz ⊢;omega)))
    ·rw[if_neg (by omega),if_neg (by omega),if_neg (by omega)]
     subst h2
     simp(disch:=first|omega|(apply id;simp only[push_cast];try omega))only[push_cast,simprocAttr,h3,h4]
     exact .id rfl
   ·rw[if_neg (by omega),if_neg (by omega),if_neg (by omega)]
    subst h2
    simp(disch:=first|omega|(apply id;simp only[push_cast];try omega))only[push_cast,simprocAttr,h3]
    exact .id rfl
  rw[if_neg (by omega)]
  by_cases h3:k=3
  ·rw[if_pos (.inl h3)]
   subst h3
   simp(disch:=first|omega|(apply id;simp only[push_cast];try omega))only[push_cast,simprocAttr]
   exact right_s0 G v 1 3 n s l hsm.1 ih _ (hq 1 (decide (l.length=1∧n=0)) (by rw[Bool.eq_iff_iff];simp only[Bool.and_eq_true,decide_eq_true_eq];constructor<;>intro hz<;>first|omega|exact ⟨by omega,by first|omega|exact .inl rfl⟩|exact ⟨by omega,by simp⟩|exact hz.1|(simp at hz ⊢;omega)))
  by_cases h4:k=4
  ·rw[if_pos (.inr h4)]
   subst h4
   simp(disch:=first|omega|(apply id;simp only[push_cast];try omega))only[push_cast,simprocAttr]
   exact right_s0 G v 1 4 n s l hsm.1 ih _ (hq 1 (decide (l.length=1∧n=0)) (by rw[Bool.eq_iff_iff];simp only[Bool.and_eq_true,decide_eq_true_eq];constructor<;>intro hz<;>first|omega|exact ⟨by omega,by first|omega|exact .inl rfl⟩|exact ⟨by omega,by simp⟩|exact hz.1|(simp at hz ⊢;omega)))
  rw[if_neg (by omega)]
  by_cases h5:5≤k
  ·by_cases h6:k≤17
   ·rw[if_pos ⟨h5,h6⟩]
    simp(disch:=first|omega|(apply id;simp only[push_cast];try omega))only[push_cast,simprocAttr,h1,h2,h3,h4,h5,h6]
    exact right_s0 G v 2 k n s l hsm.1 ih _ (hq 2 (decide (l.length=2∧n=0)) (by rw[Bool.eq_iff_iff];simp only[Bool.and_eq_true,decide_eq_true_eq];constructor<;>intro hz<;>first|omega|exact ⟨by omega,by first|omega|exact .inl rfl⟩|exact ⟨by omega,by simp⟩|exact hz.1|(simp at hz ⊢;omega)))
   ·rw[if_neg (by omega)]
    simp(disch:=first|omega|(apply id;simp only[push_cast];try omega))only[push_cast,simprocAttr,h1,h2,h3,h4,h5,h6]
    exact .id rfl
  ·rw[if_neg (by omega)]
   simp(disch:=first|omega|(apply id;simp only[push_cast];try omega))only[push_cast,simprocAttr,h1,h2,h3,h4,h5]
   exact .id rfl
 termination_by x=>SizeOf.sizeOf x
inductive I36r (v:Int) (k n:Int) (s:List UInt8) (l:List Ex):Nat→S→Prop
 | mk (i:Nat) (iv:Int) (h:jB) {x0 x3 x4 x7 x8 x9 xA xB xC xD xE xF xG xH xI xJ xK xL xM xN xO xP xQ xR xS xT xU xV xW xX xY xZ yA yB yC yD yE yF yG yH yI yJ yK yL yM yN yO yP yQ yR yS yT yU yV yW yX yY yZ zA zB zC zD zE zF zG zH zI zJ zK zL zM zN zO zP zQ zR zS zT zU zV:Value} (hiv:iv=(i:Int)) (hi:i≤l.length) (hok:qY v (l.take i)=true) (c6:cells h 1=some ([.int .i64 k,.int .i64 n,.string (Tx s),Rw false eE l.length (kJ l)],31,false)) (hl1:h.lo=1) (hl2:2≤h.next) :
  I36r v k n s l (l.length-i) ⟨(F84 x0 (.int .i64 v) (.pointer (some ⟨1,0,none⟩)) x3 x4 (.int .i64 l.length) (.int .i64 iv) x7 x8 x9 xA xB xC xD xE xF xG xH xI xJ xK xL xM xN xO xP xQ xR xS xT xU xV xW xX xY xZ yA yB yC yD yE yF yG yH yI yJ yK yL yM yN yO yP yQ yR yS yT yU yV yW yX yY yZ zA zB zC zD zE zF zG zH zI zJ zK zL zM zN zO zP zQ zR zS zT zU zV),[],h⟩
theorem rr_s0 (v c k n:Int) (s:List UInt8) (l:List Ex) (hll:l.length<100000000000) (ih:∀ x∈l,jI (pp G) H0 36 [exV x,.int .i64 v] (.bool (qI v x))) {x0 x3 x4 x6 x7 x8 x9 xA xB xC xD xE xF xG xH xI xJ xK xL xM xN xO xP xQ xR xS xT xU xV xW xX xY xZ yA yB yC yD yE yF yG yH yI yJ yK yL yM yN yO yP yQ yR yS yT yU yV yW yX yY yZ zA zB zC zD zE zF zG zH zI zJ zK zL zM zN zO zP zQ zR zS zT zU zV:Value} (b:Bool)
  (hb:b=(decide (l.length=c∧n=0)&&qY v l)) :
  dc3 (pp G) qq none ir36_s0 ⟨(F84 x0 (.int .i64 v) (.pointer (some ⟨1,0,none⟩)) x3 x4 (.int .i64 c) x6 x7 x8 x9 xA xB xC xD xE xF xG xH xI xJ xK xL xM xN xO xP xQ xR xS xT xU xV xW xX xY xZ yA yB yC yD yE yF yG yH yI yJ yK yL yM yN yO yP yQ yR yS yT yU yV yW yX yY yZ zA zB zC zD zE zF zG zH zI zJ zK zL zM zN zO zP zQ zR zS zT zU zV),[],H0.add (O [.int .i64 k,.int .i64 n,.string (Tx s),Rw false eE l.length (kJ l)] 31 false)⟩ (@kR ⟨jF prog [.tmp 4] (fun v' σ'=>FzV prog 1 σ' v' (.bool b))⟩):=by
 rw[sd_ir36_s0]
 by_cases h1:n=0
 rotate_left
 ·have:b=false:=by rw[hb,decide_eq_false (fun h=>h1 h.2)];rfl
  subst this
  simp(disch:=first|omega|(apply id;simp only[push_cast];try omega))only[push_cast,simprocAttr,h1]
  exact .id rfl
 by_cases h2:(l.length:Int)=c
 rotate_left
 ·have:b=false:=by rw[hb,decide_eq_false (fun h=>h2 h.1)];rfl
  subst this
  simp(disch:=first|omega|(apply id;simp only[push_cast];try omega))only[push_cast,simprocAttr,h1,h2]
  exact .id rfl
 rw[decide_eq_true ⟨h2,h1⟩,Bool.true_and] at hb
 subst h2
 simp(disch:=first|omega|(apply id;simp only[push_cast];try omega))only[push_cast,simprocAttr,h1]
 subst h1
 refine WD.loop4 (q:=qq) (jN G) (by kernel_rfl) (I36r v k 0 s l) ?_ _ _ (I36r.mk 0 0 _ rfl (Nat.zero_le _) rfl (by simp(disch:=first|omega|(apply id;simp only[push_cast];try omega))only[push_cast,simprocAttr];first|done|rfl) (by simp(disch:=first|omega|(apply id;simp only[push_cast];try omega))only[push_cast,simprocAttr];first|done|rfl) (by simp(disch:=first|omega|(apply id;simp only[push_cast];try omega))only[push_cast,simprocAttr];first|done|omega))
 intro m s1 hI
 cases hI with|mk i iv h hiv hi hok c6 hl1 hl2=>
 subst hiv
 rw[sd_ir36_s1]
 by_cases hil:(i:Int)<l.length
 ·obtain ⟨x,hx⟩:∃ x,l[i]?=some x:=⟨_,List.getElem?_eq_getElem (by omega)⟩
  have hxm:=List.mem_of_getElem? hx
  have hp:=exCs_take hx
  have hle:i*4+4≤l.length*4:=by omega
  simp(disch:=first|omega|(apply id;simp only[push_cast];try omega))only[push_cast,simprocAttr,hil,Int.toNat_natCast,c6,hp,hle,hl1]
  refine jC.dataI (ih x hxm) (by and_intros<;>first|rfl|(simp(disch:=first|omega|(apply id;simp only[push_cast];try omega))only[push_cast])) ?_
  cases hr:qI v x with
  | true=>
   simp(disch:=first|omega|(apply id;simp only[push_cast];try omega))only[push_cast,simprocAttr]
   exact ⟨_,by omega,I36r.mk (i+1) _ _ (by first|rfl|omega) (by omega) (by rw[rightL_take hx,hok,hr];rfl) c6 hl1 hl2⟩
  | false=>
   rw[rightL_no hxm hr] at hb
   subst hb
   simp(disch:=first|omega|(apply id;simp only[push_cast];try omega))only[push_cast,simprocAttr]
   exact .id rfl
 ·have hie:i=l.length:=by omega
  subst hie
  rw[List.take_length] at hok
  rw[hok] at hb
  subst hb
  simp(disch:=first|omega|(apply id;simp only[push_cast];try omega))only[push_cast,simprocAttr,hil]
  rw[sd_ir36_s2]
  simp(disch:=first|omega|(apply id;simp only[push_cast];try omega))only[push_cast,simprocAttr]
  exact .id rfl
theorem rr_f (v:Int):∀ x:Ex,smE x=true→jI (pp G) H0 36 [exV x,.int .i64 v] (.bool (qI v x))
 | .mk k n s l,hsm=>by
  simp only[smE,Bool.and_eq_true,decide_eq_true_eq] at hsm
  have hll:=hsm.1
  have hall:=smEs_all hsm.2
  have ih:∀ x∈l,jI (pp G) H0 36 [exV x,.int .i64 v] (.bool (qI v x)):=fun x hx=>rr_f v x (hall x hx)
  have hlo:H0.lo≤H0.next:=Nat.le_refl _;refine jI.cut (jK.fir4 (q:=qq) (jN G) fir36 (by kernel_rfl) rfl rfl (F84_arr ..) (show NGG≤H0.lo by rw[jY];decide) ?_);rw[sd_ir36]
  unfold exV exC
  rw[qI]
  by_cases h0:s=[]
  rotate_left
  ·rw[decide_eq_false h0,Bool.and_false,Bool.false_and]
   have hb0:(s == ([]:List UInt8))=false:=by simpa using h0
   simp(disch:=first|omega|(apply id;simp only[push_cast];try omega))only[push_cast,simprocAttr,hb0,Bool.not_false]
   exact .id rfl
  rw[decide_eq_true h0,Bool.and_true]
  subst h0
  have hb0:(([]:List UInt8) == [])=true:=rfl
  by_cases h1:k=1
  ·by_cases h2:0≤n
   ·rw[if_pos ⟨h1,h2⟩]
    by_cases h3:(l.length:Int)=0
    ·have:l=[]:=List.length_eq_zero_iff.1 (by omega)
     subst this
     simp(disch:=first|omega|(apply id;simp only[push_cast];try omega))only[push_cast,simprocAttr,hb0,h1,h2,decide_true,Bool.not_true,qY]
     exact .id rfl
    ·rw[decide_eq_false (by omega),Bool.false_and]
     simp(disch:=first|omega|(apply id;simp only[push_cast];try omega))only[push_cast,simprocAttr,hb0,h1,h2,h3,decide_true,Bool.not_true]
     exact .id rfl
   ·rw[if_neg (by omega),if_neg (by omega),if_neg (by omega),if_neg (by omega),Bool.false_and]
    simp(disch:=first|omega|(apply id;simp only[push_cast];try omega))only[push_cast,simprocAttr,hb0,h1,h2,decide_true,Bool.not_true]
    exact .id rfl
  rw[if_neg (by omega)]
  by_cases h2:k=2
  ·by_cases h3:0≤n
   ·by_cases h4:n<v
    ·rw[if_pos ⟨h2,h3,h4⟩]
     by_cases h5:(l.length:Int)=0
     ·have:l=[]:=List.length_eq_zero_iff.1 (by omega)
      subst this
      simp(disch:=first|omega|(apply id;simp only[push_cast];try omega))only[push_cast,simprocAttr,hb0,h1,h2,h3,h4,decide_true,Bool.not_true,qY]
      exact .id rfl
     ·rw[decide_eq_false (by omega),Bool.false_and]
      simp(disch:=first|omega|(apply id;simp only[push_cast];try omega))only[push_cast,simprocAttr,hb0,h1,h2,h3,h4,h5,decide_true,Bool.not_true]
      exact .id rfl
    ·rw[if_neg (by omega),if_neg (by omega),if_neg (by omega),Bool.false_and]
     simp(disch:=first|omega|(apply id;simp only[push_cast];try omega))only[push_cast,simprocAttr,hb0,h1,h2,h3,h4,decide_true,Bool.not_true]
     exact .id rfl
   ·rw[if_neg (by omega),if_neg (by omega),if_neg (by omega),Bool.false_and]
    simp(disch:=first|omega|(apply id;simp only[push_cast];try omega))only[push_cast,simprocAttr,hb0,h1,h2,h3,decide_true,Bool.not_true]
    exact .id rfl
  rw[if_neg (by omega)]
  by_cases h3:k=3
  ·rw[if_pos (.inl h3)]
   simp(disch:=first|omega|(apply id;simp only[push_cast];try omega))only[push_cast,simprocAttr,hb0,h1,h2,h3,decide_true,Bool.not_true]
   subst h3
   exact rr_s0 G v 1 3 n [] l hll ih _ (by congr 2;rw[eq_iff_iff];constructor<;>intro hz<;>exact ⟨by omega,hz.2⟩)
  by_cases h4:k=4
  ·rw[if_pos (.inr h4)]
   simp(disch:=first|omega|(apply id;simp only[push_cast];try omega))only[push_cast,simprocAttr,hb0,h1,h2,h3,h4,decide_true,Bool.not_true]
   subst h4
   exact rr_s0 G v 1 4 n [] l hll ih _ (by congr 2;rw[eq_iff_iff];constructor<;>intro hz<;>exact ⟨by omega,hz.2⟩)
  rw[if_neg (by omega)]
  by_cases h5:k<5
  ·rw[if_neg (by omega),Bool.false_and]
   simp(disch:=first|omega|(apply id;simp only[push_cast];try omega))only[push_cast,simprocAttr,hb0,h1,h2,h3,h4,h5,decide_true,Bool.not_true]
   exact .id rfl
  by_cases h6:17<k
  ·rw[if_neg (by omega),Bool.false_and]
   simp(disch:=first|omega|(apply id;simp only[push_cast];try omega))only[push_cast,simprocAttr,hb0,h1,h2,h3,h4,h5,h6,decide_true,Bool.not_true]
   exact .id rfl
  rw[if_pos ⟨by omega,by omega⟩]
  simp(disch:=first|omega|(apply id;simp only[push_cast];try omega))only[push_cast,simprocAttr,hb0,h1,h2,h3,h4,h5,h6,decide_true,Bool.not_true]
  exact rr_s0 G v 2 k n [] l hll ih _ (by congr 2;rw[eq_iff_iff];constructor<;>intro hz<;>exact ⟨by omega,hz.2⟩)
def fitsF (v st p what n:Int):Bool:=
 if what=1 then decide (0≤n∧n<v) else if what=2 then decide (n = -1∨(0≤n∧n<v)) else if what=3 then decide (0≤n∧n<st) else if what=4 then decide (0≤n∧n<p) else if what=5 then decide (0≤n) else decide (n=0)
theorem fits_f (v st p what n:Int):jI (pp G) H0 52 [.agg ⟨[.int .i64 v,.int .i64 st,.int .i64 p]⟩,.int .i64 what,.int .i64 n] (.bool (fitsF v st p what n)):=by
 have hlo:H0.lo≤H0.next:=Nat.le_refl _;refine jI.cut (jK.fir4 (q:=qq) (jN G) fir52 (by kernel_rfl) rfl rfl (F58_arr ..) (show NGG≤H0.lo by rw[jY];decide) ?_);rw[sd_ir52]
 unfold fitsF
 by_cases h1:what=1
 ·rw[if_pos h1]
  by_cases h2:0≤n
  ·simp(disch:=first|omega|(apply id;simp only[push_cast];try omega))only[push_cast,simprocAttr,h1,h2,true_and]
   exact .id rfl
  ·simp(disch:=first|omega|(apply id;simp only[push_cast];try omega))only[push_cast,simprocAttr,h1,h2,false_and]
   exact .id rfl
 rw[if_neg h1]
 by_cases h2:what=2
 ·rw[if_pos h2]
  by_cases h3:n = -1
  ·simp(disch:=first|omega|(apply id;simp only[push_cast];try omega))only[push_cast,simprocAttr,h1,h2,h3,true_or]
   exact .id rfl
  ·by_cases h4:0≤n
   ·simp(disch:=first|omega|(apply id;simp only[push_cast];try omega))only[push_cast,simprocAttr,h1,h2,h3,h4,true_and,false_or]
    exact .id rfl
   ·simp(disch:=first|omega|(apply id;simp only[push_cast];try omega))only[push_cast,simprocAttr,h1,h2,h3,h4,false_and,false_or]
    exact .id rfl
 rw[if_neg h2]
 by_cases h3:what=3
 ·rw[if_pos h3]
  by_cases h4:0≤n
  ·simp(disch:=first|omega|(apply id;simp only[push_cast];try omega))only[push_cast,simprocAttr,h1,h2,h3,h4,true_and]
   exact .id rfl
  ·simp(disch:=first|omega|(apply id;simp only[push_cast];try omega))only[push_cast,simprocAttr,h1,h2,h3,h4,false_and]
   exact .id rfl
 rw[if_neg h3]
 by_cases h4:what=4
 ·rw[if_pos h4]
  by_cases h5:0≤n
  ·simp(disch:=first|omega|(apply id;simp only[push_cast];try omega))only[push_cast,simprocAttr,h1,h2,h3,h4,h5,true_and]
   exact .id rfl
  ·simp(disch:=first|omega|(apply id;simp only[push_cast];try omega))only[push_cast,simprocAttr,h1,h2,h3,h4,h5,false_and]
   exact .id rfl
 rw[if_neg h4]
 by_cases h5:what=5
 ·rw[if_pos h5]
  simp(disch:=first|omega|(apply id;simp only[push_cast];try omega))only[push_cast,simprocAttr,h1,h2,h3,h4,h5]
  exact .id rfl
 rw[if_neg h5]
 simp(disch:=first|omega|(apply id;simp only[push_cast];try omega))only[push_cast,simprocAttr,h1,h2,h3,h4,h5]
 exact .id rfl
def kH (e:Ex):Bool:=!decide (e.k=0) || (!decide (e.n=0) || (!decide (e.s=[]) || decide (0<e.l.length)))
theorem given_f:∀ e:Ex,smE e=true→jI (pp G) H0 55 [exV e] (.bool (kH e))
 | .mk k n s l,hs=>by
  have hlo:H0.lo≤H0.next:=Nat.le_refl _;refine jI.cut (jK.fir4 (q:=qq) (jN G) fir55 (by kernel_rfl) rfl rfl (F22_arr ..) (show NGG≤H0.lo by rw[jY];decide) ?_);rw[sd_ir55]
  unfold kH
  by_cases h1:k=0
  rotate_left
  ·rw[show (!decide ((Ex.mk k n s l).k=0))=true from by simp[Ex.k,h1],Bool.true_or]
   simp(disch:=first|omega|(apply id;simp only[push_cast];try omega))only[push_cast,simprocAttr,h1]
   exact .id rfl
  rw[show (!decide ((Ex.mk k n s l).k=0))=false from by simp[Ex.k,h1],Bool.false_or]
  by_cases h2:n=0
  rotate_left
  ·rw[show (!decide ((Ex.mk k n s l).n=0))=true from by simp[Ex.n,h2],Bool.true_or]
   simp(disch:=first|omega|(apply id;simp only[push_cast];try omega))only[push_cast,simprocAttr,h1,h2]
   exact .id rfl
  rw[show (!decide ((Ex.mk k n s l).n=0))=false from by simp[Ex.n,h2],Bool.false_or]
  by_cases h3:s=[]
  rotate_left
  ·rw[show (!decide ((Ex.mk k n s l).s=[]))=true from by simp[Ex.s,h3],Bool.true_or]
   have hb:(s == ([]:List UInt8))=false:=by simpa using h3
   simp(disch:=first|omega|(apply id;simp only[push_cast];try omega))only[push_cast,simprocAttr,h1,h2,hb]
   exact .id rfl
  rw[show (!decide ((Ex.mk k n s l).s=[]))=false from by simp[Ex.s,h3],Bool.false_or]
  by_cases h4:0<l.length
  ·have h4':(0:Int)<l.length:=by omega
   rw[show decide (0<(Ex.mk k n s l).l.length)=true from by simp only[Ex.l,h4,decide_true]]
   simp(disch:=first|omega|(apply id;simp only[push_cast];try omega))only[push_cast,simprocAttr,h1,h2,h3,h4',beq_self_eq_true]
   exact .id rfl
  ·have h4':¬ (0:Int)<l.length:=by omega
   rw[show decide (0<(Ex.mk k n s l).l.length)=false from by simp only[Ex.l,h4,decide_false]]
   simp(disch:=first|omega|(apply id;simp only[push_cast];try omega))only[push_cast,simprocAttr,h1,h2,h3,h4',beq_self_eq_true]
   exact .id rfl
def heldA (s:List UInt8) (e:Ex) (l:List Tm):Value:=.agg ⟨[.int .i64 (if s=[] then 0 else 1),.int .i64 (if kH e then 1 else 0),.int .i64 l.length]⟩
theorem held_f (k a b:Int) (s:List UInt8) (e:Ex) (l:List Tm) (hse:smE e=true):jI (pp G) H0 53 [tmV (.mk k a b s e l)] (heldA s e l):=by
 have hg:=given_f G e hse
 have hlo:H0.lo≤H0.next:=Nat.le_refl _;refine jI.cut (jK.fir4 (q:=qq) (jN G) fir53 (by kernel_rfl) rfl rfl (F16_arr ..) (show NGG≤H0.lo by rw[jY];decide) ?_);rw[sd_ir53]
 unfold heldA
 by_cases h1:s=[]
 ·rw[if_pos h1]
  simp(disch:=first|omega|(apply id;simp only[push_cast];try omega))only[push_cast,simprocAttr,h1,beq_self_eq_true]
  rw[sd_ir53_s0]
  simp(disch:=first|omega|(apply id;simp only[push_cast];try omega))only[push_cast,simprocAttr]
  refine jC.dataI (hg) (by and_intros<;>first|rfl|(simp(disch:=first|omega|(apply id;simp only[push_cast];try omega))only[push_cast])) ?_
  cases hv:kH e with
  | true=>
   simp(disch:=first|omega|(apply id;simp only[push_cast];try omega))only[push_cast,simprocAttr]
   rw[sd_ir53_s1]
   simp(disch:=first|omega|(apply id;simp only[push_cast];try omega))only[push_cast,simprocAttr]
   exact .id rfl
  | false=>
   simp(disch:=first|omega|(apply id;simp only[push_cast];try omega))only[push_cast,simprocAttr]
   rw[sd_ir53_s1]
   simp(disch:=first|omega|(apply id;simp only[push_cast];try omega))only[push_cast,simprocAttr]
   exact .id rfl
 ·have hb:(s == ([]:List UInt8))=false:=by simpa using h1
  rw[if_neg h1]
  simp(disch:=first|omega|(apply id;simp only[push_cast];try omega))only[push_cast,simprocAttr,hb]
  rw[sd_ir53_s0]
  simp(disch:=first|omega|(apply id;simp only[push_cast];try omega))only[push_cast,simprocAttr]
  refine jC.dataI (hg) (by and_intros<;>first|rfl|(simp(disch:=first|omega|(apply id;simp only[push_cast];try omega))only[push_cast])) ?_
  cases hv:kH e with
  | true=>
   simp(disch:=first|omega|(apply id;simp only[push_cast];try omega))only[push_cast,simprocAttr]
   rw[sd_ir53_s1]
   simp(disch:=first|omega|(apply id;simp only[push_cast];try omega))only[push_cast,simprocAttr]
   exact .id rfl
  | false=>
   simp(disch:=first|omega|(apply id;simp only[push_cast];try omega))only[push_cast,simprocAttr]
   rw[sd_ir53_s1]
   simp(disch:=first|omega|(apply id;simp only[push_cast];try omega))only[push_cast,simprocAttr]
   exact .id rfl
def shC:List Value:=match LL with|[(_,l)]=>l|_=>[]
def shA (k:Int):Int:=if k=1 then 2 else if k=2 then 1 else if k=3∨k=4∨k=5∨k=6 then 3 else if k=13 then 4 else if k=14 then 5 else 0
def shB (k:Int):Int:=if k=6 then 3 else if k=14 then 2 else 0
def shN (k:Int):Int:=if k=1∨k=14 then 1 else 0
def shE (k:Int):Int:=if k=2∨k=9 then 1 else 0
def shL (k:Int):Int:=if k=3∨k=7 then 1 else if k=9∨k=10∨k=11∨k=12 then 2 else 0
theorem sh_get:∀ k:Nat,k<15→(shC.drop (k*5)).take 5=[.int .i64 (shA k),.int .i64 (shB k),.int .i64 (shN k),.int .i64 (shE k),.int .i64 (shL k)]
 | 0,_=>by kernel_rfl
 | 1,_=>by kernel_rfl
 | 2,_=>by kernel_rfl
 | 3,_=>by kernel_rfl
 | 4,_=>by kernel_rfl
 | 5,_=>by kernel_rfl
 | 6,_=>by kernel_rfl
 | 7,_=>by kernel_rfl
 | 8,_=>by kernel_rfl
 | 9,_=>by kernel_rfl
 | 10,_=>by kernel_rfl
 | 11,_=>by kernel_rfl
 | 12,_=>by kernel_rfl
 | 13,_=>by kernel_rfl
 | 14,_=>by kernel_rfl
 | n+15,h=>by omega
theorem sh_cells:∃ ty,cells H0 0=some (shC,ty,false):=⟨_,rfl⟩
theorem shC_len:shC.length=75:=by kernel_rfl
mutual
def kQ (v st p:Int) (pushed:Bool):Tm→Bool
 | .mk k a b s e l=>decide (0≤k∧k<15)&&(!(pushed&&decide (k=14))&&(fitsF v st p (shA k) a&&(fitsF v st p (shB k) b&&(decide ((if s=[] then (0:Int) else 1)=shN k∧(if kH e then (1:Int) else 0)=shE k∧(l.length:Int)=shL k)&&((decide (s=[]) || nameF s)&&((!kH e || qI v e)&&qO v st p (pushed || decide (k=3)) l))))))
def qO (v st p:Int) (pushed:Bool):List Tm→Bool
 | []=>true
 | x :: l=>kQ v st p pushed x&&qO v st p pushed l
end
theorem rightTs_all {v st p:Int} {q:Bool}:∀ {l:List Tm},qO v st p q l=true→∀ x∈l,kQ v st p q x=true
 | [],_,x,hx=>by cases hx
 | y :: l,h,x,hx=>by
  simp only[qO,Bool.and_eq_true] at h
  rcases List.mem_cons.1 hx with rfl|hx
  ·exact h.1
  ·exact rightTs_all h.2 x hx
theorem rightTs_app {v st p:Int} {q:Bool} (a b:List Tm):qO v st p q (a++b)=(qO v st p q a&&qO v st p q b):=by
 induction a with
 | nil=>simp[qO]
 | cons x a ih=>simp[qO,ih,Bool.and_assoc]
theorem rightTs_take {v st p:Int} {q:Bool} {l:List Tm} {i:Nat} {x:Tm} (h:l[i]?=some x):qO v st p q (l.take (i+1))=(qO v st p q (l.take i)&&kQ v st p q x):=by
 rw[jZ h,rightTs_app];simp[qO]
theorem rightTs_no {v st p:Int} {q:Bool} {l:List Tm} {x:Tm} (h:x∈l) (hx:kQ v st p q x=false):qO v st p q l=false:=by
 cases hc:qO v st p q l with
 | false=>rfl
 | true=>rw[rightTs_all hc x h] at hx;cases hx
inductive I32 (v st p:Int) (q:Bool) (k a b:Int) (s:List UInt8) (e:Ex) (l:List Tm):Nat→S→Prop
 | mk (i:Nat) (iv:Int) (h:jB) {x0 x1 x5 x6 x7 x8 x9 xA xB xC xD xE xF xG xH xI xJ xK xL xM xN xO xP xQ xR xS xT xU xV xW xX xY xZ yA yB yC yD yE yF yG yH yI yJ yK yL yM yN yO yP yQ yR yS yT yU yV yW yX yY yZ zA zB zC zD zE zF zG zH zI zJ zK zL zM zN zO zS zT zU zV zW zX zY zZ wA wB wC wD wE wF:Value} (hiv:iv=(i:Int)) (hi:i≤l.length) (hok:qO v st p (q || decide (k=3)) (l.take i)=true) (c0:cells h 1=some ([.int .i64 v,.int .i64 st,.int .i64 p],69,false)) (c1:cells h 2=some (tmC (.mk k a b s e l),34,false)) (hl1:h.lo=1) (hl2:3≤h.next) :
  I32 v st p q k a b s e l (l.length-i) ⟨(F94 x0 x1 (.bool q) (.pointer (some ⟨1,0,none⟩)) (.pointer (some ⟨2,0,none⟩)) x5 x6 x7 x8 x9 xA xB xC xD xE xF xG xH xI xJ xK xL xM xN xO xP xQ xR xS xT xU xV xW xX xY xZ yA yB yC yD yE yF yG yH yI yJ yK yL yM yN yO yP yQ yR yS yT yU yV yW yX yY yZ zA zB zC zD zE zF zG zH zI zJ zK zL zM zN zO (Rw false etm l.length (gD l)) (.int .i64 l.length) (.int .i64 iv) zS zT zU zV zW zX zY zZ wA wB wC wD wE wF),[],h⟩
theorem rt_loop (v st p:Int) (q:Bool) (k a b:Int) (s:List UInt8) (e:Ex) (l:List Tm) (hll:l.length<100000000000)
  (ih:∀ x∈l,∀ q,jI (pp G) H0 32 [.agg ⟨[.int .i64 v,.int .i64 st,.int .i64 p]⟩,tmV x,.bool q] (.bool (kQ v st p q x))) (h:jB)
  (c0:cells h 1=some ([.int .i64 v,.int .i64 st,.int .i64 p],69,false)) (c1:cells h 2=some (tmC (.mk k a b s e l),34,false)) (hl1:h.lo=1) (hl2:3≤h.next) {c:Bool} (hc:c=qO v st p (q || decide (k=3)) l) {x0 x1 x5 x6 x7 x8 x9 xA xB xC xD xE xF xG xH xI xJ xK xL xM xN xO xP xQ xR xS xT xU xV xW xX xY xZ yA yB yC yD yE yF yG yH yI yJ yK yL yM yN yO yP yQ yR yS yT yU yV yW yX yY yZ zA zB zC zD zE zF zG zH zI zJ zK zL zM zN zO zS zT zU zV zW zX zY zZ wA wB wC wD wE wF:Value} :
  WD (pp G) qq.H none (.loop ir32_s0) ⟨(F94 x0 x1 (.bool q) (.pointer (some ⟨1,0,none⟩)) (.pointer (some ⟨2,0,none⟩)) x5 x6 x7 x8 x9 xA xB xC xD xE xF xG xH xI xJ xK xL xM xN xO xP xQ xR xS xT xU xV xW xX xY xZ yA yB yC yD yE yF yG yH yI yJ yK yL yM yN yO yP yQ yR yS yT yU yV yW yX yY yZ zA zB zC zD zE zF zG zH zI zJ zK zL zM zN zO (Rw false etm l.length (gD l)) (.int .i64 l.length) (.int .i64 0) zS zT zU zV zW zX zY zZ wA wB wC wD wE wF),[],h⟩
   (@kR ⟨jM 1 (jH (fun s1=>dc3 (pp G) qq none ir32_s1 s1 (@kR ⟨jF prog [.tmp 6] (fun v' σ'=>FzV prog 1 σ' v' (.bool c))⟩)) (jF prog [.tmp 6] (fun v' σ'=>FzV prog 1 σ' v' (.bool c))))⟩):=by
 refine WD.loop4 (q:=qq) (jN G) (by kernel_rfl) (I32 v st p q k a b s e l) ?_ _ _ (I32.mk 0 0 h rfl (Nat.zero_le _) rfl c0 c1 hl1 hl2)
 clear c0 c1 hl1 hl2
 intro m s1 hI
 cases hI with|mk i iv h hiv hi hok c0 c1 hl1 hl2=>
 subst hiv
 rw[sd_ir32_s0]
 rw[tmC_mk] at c1
 by_cases hil:(i:Int)<l.length
 ·obtain ⟨x,hx⟩:=qH (l:=l) (i:=i) (by omega)
  have hxm:=List.mem_of_getElem? hx
  have hp:=tmCs_take hx
  have hle:i*9+9≤l.length*9:=by omega
  have hq:∀ {b:Bool},(q || decide (k=3))=b→jI (pp G) H0 32 [.agg ⟨[.int .i64 v,.int .i64 st,.int .i64 p]⟩,tmV x,.bool b] (.bool (kQ v st p b x)):=fun _=>ih x hxm _
  have done1:∀ (b:Bool),(q || decide (k=3))=b→kQ v st p b x=true→qO v st p (q || decide (k=3)) (l.take (i+1))=true:=fun b hb hr=>by rw[rightTs_take hx,hok,hb,hr];rfl
  have done0:∀ (b:Bool),(q || decide (k=3))=b→kQ v st p b x=false→c=false:=fun b hb hr=>by rw[hc];exact rightTs_no hxm (by rw[hb];exact hr)
  cases q with
  | true=>
   simp(disch:=first|omega|(apply id;simp only[push_cast];try omega))only[push_cast,simprocAttr,hil,Int.toNat_natCast,hp,hle,hl1,c0,c1]
   refine jC.dataI (hq (Bool.true_or _)) (by and_intros<;>first|rfl|(simp(disch:=first|omega|(apply id;simp only[push_cast];try omega))only[push_cast])) ?_
   cases hr:kQ v st p true x with
   | true=>
    simp(disch:=first|omega|(apply id;simp only[push_cast];try omega))only[push_cast,simprocAttr]
    exact ⟨_,by omega,I32.mk (i+1) _ _ (by first|rfl|omega) (by omega) (done1 true (Bool.true_or _) hr) (by first|assumption|(simp(disch:=first|omega|(apply id;simp only[push_cast];try omega))only[push_cast,simprocAttr,c0];try omega)) (by first|assumption|(simp(disch:=first|omega|(apply id;simp only[push_cast];try omega))only[push_cast,simprocAttr,c1];try omega)) (by first|assumption|(simp(disch:=first|omega|(apply id;simp only[push_cast];try omega))only[push_cast,simprocAttr,hl1];try omega)) (by first|assumption|(simp(disch:=first|omega|(apply id;simp only[push_cast];try omega))only[push_cast,simprocAttr];try omega))⟩
   | false=>
    obtain rfl:=done0 true (Bool.true_or _) hr
    simp(disch:=first|omega|(apply id;simp only[push_cast];try omega))only[push_cast,simprocAttr]
    exact .id rfl
  | false=>
   simp(disch:=first|omega|(apply id;simp only[push_cast];try omega))only[push_cast,simprocAttr,hil,Int.toNat_natCast,hp,hle,hl1,c0,c1]
   refine jC.dataI (hq (Bool.false_or _)) (by and_intros<;>first|rfl|(simp(disch:=first|omega|(apply id;simp only[push_cast];try omega))only[push_cast])) ?_
   cases hr:kQ v st p (decide (k=3)) x with
   | true=>
    simp(disch:=first|omega|(apply id;simp only[push_cast];try omega))only[push_cast,simprocAttr]
    exact ⟨_,by omega,I32.mk (i+1) _ _ (by first|rfl|omega) (by omega) (done1 _ (Bool.false_or _) hr) (by first|assumption|(simp(disch:=first|omega|(apply id;simp only[push_cast];try omega))only[push_cast,simprocAttr,c0];try omega)) (by first|assumption|(simp(disch:=first|omega|(apply id;simp only[push_cast];try omega))only[push_cast,simprocAttr,c1];try omega)) (by first|assumption|(simp(disch:=first|omega|(apply id;simp only[push_cast];try omega))only[push_cast,simprocAttr,hl1];try omega)) (by first|assumption|(simp(disch:=first|omega|(apply id;simp only[push_cast];try omega))only[push_cast,simprocAttr];try omega))⟩
   | false=>
    obtain rfl:=done0 _ (Bool.false_or _) hr
    simp(disch:=first|omega|(apply id;simp only[push_cast];try omega))only[push_cast,simprocAttr]
    exact .id rfl
 ·have hie:i=l.length:=by omega
  subst hie
  rw[List.take_length] at hok
  rw[hok] at hc
  subst hc
  simp(disch:=first|omega|(apply id;simp only[push_cast];try omega))only[push_cast,simprocAttr,hil]
  rw[sd_ir32_s1]
  simp(disch:=first|omega|(apply id;simp only[push_cast];try omega))only[push_cast,simprocAttr]
  exact .id rfl
theorem rt_f (v st p:Int):∀ (x:Tm) (q:Bool),smT x=true→jI (pp G) H0 32 [.agg ⟨[.int .i64 v,.int .i64 st,.int .i64 p]⟩,tmV x,.bool q] (.bool (kQ v st p q x))
 | .mk k a b s e l,q,hs=>by
  have hs0:=hs
  simp only[smT,Bool.and_eq_true,decide_eq_true_eq] at hs
  obtain ⟨⟨hll,hse⟩,hsl⟩:=hs
  have ih:∀ x∈l,∀ q,jI (pp G) H0 32 [.agg ⟨[.int .i64 v,.int .i64 st,.int .i64 p]⟩,tmV x,.bool q] (.bool (kQ v st p q x)):=fun x hx q=>rt_f v st p x q (smTs_all hsl x hx)
  have hheld:=held_f G k a b s e l hse
  have hgiven:=given_f G e hse
  obtain ⟨ty,c0⟩:=sh_cells
  have hlo:H0.lo≤H0.next:=Nat.le_refl _;refine jI.cut (jK.fir4 (q:=qq) (jN G) fir32 (by kernel_rfl) rfl rfl (F94_arr ..) (show NGG≤H0.lo by rw[jY];decide) ?_);rw[sd_ir32]
  rw[kQ]
  by_cases h1:0≤k∧k<15
  rotate_left
  ·rw[decide_eq_false h1,Bool.false_and]
   by_cases g1:k<0
   ·simp(disch:=first|omega|(apply id;simp only[push_cast];try omega))only[push_cast,simprocAttr,g1]
    exact .id rfl
   ·have g2:15≤k:=by omega
    simp(disch:=first|omega|(apply id;simp only[push_cast];try omega))only[push_cast,simprocAttr,g1,g2]
    exact .id rfl
  rw[decide_eq_true h1,Bool.true_and]
  have g1:¬ k<0:=by omega
  have g2:¬ 15≤k:=by omega
  by_cases h2:(q&&decide (k=14))=true
  ·rw[h2,Bool.not_true,Bool.false_and]
   rw[Bool.and_eq_true,decide_eq_true_eq] at h2
   obtain ⟨rfl,rfl⟩:=h2
   simp(disch:=first|omega|(apply id;simp only[push_cast];try omega))only[push_cast,simprocAttr]
   exact .id rfl
  have h2:(q&&decide (k=14))=false:=by simpa using h2
  rw[h2,Bool.not_false,Bool.true_and]
  obtain ⟨kn,rfl⟩:∃ kn:Nat,k=(kn:Int):=⟨k.toNat,by omega⟩
  have hsg:=sh_get kn (by omega)
  have hk15:(kn:Int)<15:=h1.2
  have hle:kn*5+5≤75:=by omega
  have hld:ldC (some (true,5)) (kn*5) 1 0 (some (shC,ty,false))=some (.agg ⟨[.int .i64 (shA (kn:Int)),.int .i64 (shB (kn:Int)),.int .i64 (shN (kn:Int)),.int .i64 (shE (kn:Int)),.int .i64 (shL (kn:Int))]⟩):=by
   refine ldC_flat true 5 _ _ _ _ _ _ _ ?_ rfl
   simp only[kU]
   rw[if_pos (by rw[shC_len];omega),hsg]
  cases q
  case' true=>
   have h14:¬ (kn:Int)=14:=by simpa using h2
   simp(disch:=first|omega|(apply id;simp only[push_cast];try omega))only[push_cast,simprocAttr,g1,g2,h14,c0,hld,hk15,Int.toNat_natCast]
  case' false=>
   simp(disch:=first|omega|(apply id;simp only[push_cast];try omega))only[push_cast,simprocAttr,g1,g2,c0,hld,hk15,Int.toNat_natCast]
  all_goals
   refine jC.dataI (fits_f G v st p (shA kn) a) (by and_intros<;>first|rfl|(simp(disch:=first|omega|(apply id;simp only[push_cast];try omega))only[push_cast])) ?_
   cases hf1:fitsF v st p (shA kn) a with
   | false=>
    simp(disch:=first|omega|(apply id;simp only[push_cast];try omega))only[push_cast,simprocAttr]
    exact .id rfl
   | true=>
    simp(disch:=first|omega|(apply id;simp only[push_cast];try omega))only[push_cast,simprocAttr]
    refine jC.dataI (fits_f G v st p (shB kn) b) (by and_intros<;>first|rfl|(simp(disch:=first|omega|(apply id;simp only[push_cast];try omega))only[push_cast])) ?_
    cases hf2:fitsF v st p (shB kn) b with
    | false=>
     simp(disch:=first|omega|(apply id;simp only[push_cast];try omega))only[push_cast,simprocAttr]
     exact .id rfl
    | true=>
     simp(disch:=first|omega|(apply id;simp only[push_cast];try omega))only[push_cast,simprocAttr]
     refine jC.dataI (hheld) (by and_intros<;>first|rfl|(simp(disch:=first|omega|(apply id;simp only[push_cast];try omega))only[push_cast])) ?_
     unfold heldA
     by_cases hh:(if s=[] then (0:Int) else 1)=shN kn∧(if kH e then (1:Int) else 0)=shE kn∧(l.length:Int)=shL kn
     rotate_left
     ·rw[decide_eq_false hh]
      simp(disch:=first|omega|(apply id;simp only[push_cast];try omega))only[push_cast,simprocAttr,b_neqA,hh,decide_false,Bool.not_false]
      exact .id rfl
     rw[decide_eq_true hh]
     simp(disch:=first|omega|(apply id;simp only[push_cast];try omega))only[push_cast,simprocAttr,b_neqA,hh,decide_true,Bool.not_true]
     by_cases hs:s=[]
     ·have hb:(s == ([]:List UInt8))=true:=by simpa using hs
      rw[show decide (s=[])=true from decide_eq_true hs,Bool.true_or,Bool.true_and,Bool.true_and,Bool.true_and]
      simp(disch:=first|omega|(apply id;simp only[push_cast];try omega))only[push_cast,simprocAttr,hb,Bool.not_true]
      refine jC.dataI (hgiven) (by and_intros<;>first|rfl|(simp(disch:=first|omega|(apply id;simp only[push_cast];try omega))only[push_cast])) ?_
      cases hg:kH e with
      | false=>
       skip
       simp(disch:=first|omega|(apply id;simp only[push_cast];try omega))only[push_cast,simprocAttr]
       exact rt_loop G v st p _ kn a b s e l hll ih _ (by simp(disch:=first|omega|(apply id;simp only[push_cast];try omega))only[push_cast,simprocAttr]) (by simp(disch:=first|omega|(apply id;simp only[push_cast];try omega))only[push_cast,simprocAttr];try rfl) (by simp(disch:=first|omega|(apply id;simp only[push_cast];try omega))only[push_cast,simprocAttr]) (by first|(simp(disch:=first|omega|(apply id;simp only[push_cast];try omega))only[push_cast,simprocAttr];done)|(simp(disch:=first|omega|(apply id;simp only[push_cast];try omega))only[push_cast,simprocAttr];omega)) (by rfl)
      | true=>
       skip
       simp(disch:=first|omega|(apply id;simp only[push_cast];try omega))only[push_cast,simprocAttr]
       refine jC.dataI (right_f G v e hse) (by and_intros<;>first|rfl|(simp(disch:=first|omega|(apply id;simp only[push_cast];try omega))only[push_cast])) ?_
       cases hr:qI v e with
       | false=>
        simp(disch:=first|omega|(apply id;simp only[push_cast];try omega))only[push_cast,simprocAttr]
        exact .id rfl
       | true=>
        simp(disch:=first|omega|(apply id;simp only[push_cast];try omega))only[push_cast,simprocAttr]
        exact rt_loop G v st p _ kn a b s e l hll ih _ (by simp(disch:=first|omega|(apply id;simp only[push_cast];try omega))only[push_cast,simprocAttr]) (by simp(disch:=first|omega|(apply id;simp only[push_cast];try omega))only[push_cast,simprocAttr];try rfl) (by simp(disch:=first|omega|(apply id;simp only[push_cast];try omega))only[push_cast,simprocAttr]) (by first|(simp(disch:=first|omega|(apply id;simp only[push_cast];try omega))only[push_cast,simprocAttr];done)|(simp(disch:=first|omega|(apply id;simp only[push_cast];try omega))only[push_cast,simprocAttr];omega)) (by rfl)
     ·have hb:(s == ([]:List UInt8))=false:=by simpa using hs
      rw[show decide (s=[])=false from decide_eq_false hs,Bool.false_or]
      simp(disch:=first|omega|(apply id;simp only[push_cast];try omega))only[push_cast,simprocAttr,hb,Bool.not_false]
      refine jC.dataI (lexname_f G s) (by and_intros<;>first|rfl|(simp(disch:=first|omega|(apply id;simp only[push_cast];try omega))only[push_cast])) ?_
      cases hnm:nameF s with
      | false=>
       simp(disch:=first|omega|(apply id;simp only[push_cast];try omega))only[push_cast,simprocAttr,hb,Bool.not_false,Bool.not_true]
       exact .id rfl
      | true=>
       simp(disch:=first|omega|(apply id;simp only[push_cast];try omega))only[push_cast,simprocAttr,hb,Bool.not_false,Bool.not_true]
       refine jC.dataI (hgiven) (by and_intros<;>first|rfl|(simp(disch:=first|omega|(apply id;simp only[push_cast];try omega))only[push_cast])) ?_
       cases hg:kH e with
       | false=>
        skip
        simp(disch:=first|omega|(apply id;simp only[push_cast];try omega))only[push_cast,simprocAttr]
        exact rt_loop G v st p _ kn a b s e l hll ih _ (by simp(disch:=first|omega|(apply id;simp only[push_cast];try omega))only[push_cast,simprocAttr]) (by simp(disch:=first|omega|(apply id;simp only[push_cast];try omega))only[push_cast,simprocAttr];try rfl) (by simp(disch:=first|omega|(apply id;simp only[push_cast];try omega))only[push_cast,simprocAttr]) (by first|(simp(disch:=first|omega|(apply id;simp only[push_cast];try omega))only[push_cast,simprocAttr];done)|(simp(disch:=first|omega|(apply id;simp only[push_cast];try omega))only[push_cast,simprocAttr];omega)) (by rfl)
       | true=>
        skip
        simp(disch:=first|omega|(apply id;simp only[push_cast];try omega))only[push_cast,simprocAttr]
        refine jC.dataI (right_f G v e hse) (by and_intros<;>first|rfl|(simp(disch:=first|omega|(apply id;simp only[push_cast];try omega))only[push_cast])) ?_
        cases hr:qI v e with
        | false=>
         simp(disch:=first|omega|(apply id;simp only[push_cast];try omega))only[push_cast,simprocAttr]
         exact .id rfl
        | true=>
         simp(disch:=first|omega|(apply id;simp only[push_cast];try omega))only[push_cast,simprocAttr]
         exact rt_loop G v st p _ kn a b s e l hll ih _ (by simp(disch:=first|omega|(apply id;simp only[push_cast];try omega))only[push_cast,simprocAttr]) (by simp(disch:=first|omega|(apply id;simp only[push_cast];try omega))only[push_cast,simprocAttr];try rfl) (by simp(disch:=first|omega|(apply id;simp only[push_cast];try omega))only[push_cast,simprocAttr]) (by first|(simp(disch:=first|omega|(apply id;simp only[push_cast];try omega))only[push_cast,simprocAttr];done)|(simp(disch:=first|omega|(apply id;simp only[push_cast];try omega))only[push_cast,simprocAttr];omega)) (by rfl)
 termination_by x=>SizeOf.sizeOf x
theorem right_t (v st p:Int) (x:Tm) (hs:smT x=true):jI (pp G) H0 15 [tmV x,.int .i64 v,.int .i64 st,.int .i64 p] (.bool (kQ v st p false x)):=by
 have hlo:H0.lo≤H0.next:=Nat.le_refl _;refine jI.cut (jK.fir4 (q:=qq) (jN G) fir15 (by kernel_rfl) rfl rfl (F15_arr ..) (show NGG≤H0.lo by rw[jY];decide) ?_);rw[sd_ir15]
 simp(disch:=first|omega|(apply id;simp only[push_cast];try omega))only[push_cast,simprocAttr]
 refine jC.dataI (rt_f G v st p x false hs) (by and_intros<;>first|rfl|(simp(disch:=first|omega|(apply id;simp only[push_cast];try omega))only[push_cast])) ?_
 simp(disch:=first|omega|(apply id;simp only[push_cast];try omega))only[push_cast,simprocAttr]
 exact .id rfl
end
end Go.Proofs.YtgeakofgklcipaaDoor
