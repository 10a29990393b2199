/-
  A part of the proof: what the program's functions hand back,as theorems. No condition but those that each theorem names.
-/
import Derived.Test.YtdcjpmjmjinjmaaDoorTa
import Derived.Test.YtdcjpmjmjinjmaaDoorExb
import Derived.Test.YtdcjpmjmjinjmaaDoorEve
import Derived.Test.YtdcjpmjmjinjmaaDoorExc
import Derived.Lib.Bytealg
import Derived.Laws.RangeAny
set_option linter.unusedSimpArgs false
set_option linter.unusedVariables false
namespace Go.Proofs.YtdcjpmjmjinjmaaDoor
open Go Go.RowKit Go.Ev Go.Dv
noncomputable section
set_option maxRecDepth 100000
variable (G:Nat×Nat)
def Pr.l:Pr→List Pr
 | .mk _ _ _ _ l=>l
theorem Pr.l_mk (k:Int) (n t:List UInt8) (e:Ex) (l:List Pr):Pr.l (.mk k n t e l)=l:=rfl
section
variable {V Sk D:List (List UInt8)} {k:Int}
end
theorem wD2 (n:Nat) (l:List Value):sc n (.tuple ⟨l⟩)=scL n l:=rfl
theorem cN1 (n:Nat) (v:Value) (l:List Value):scL n (v :: l)=(sc n v&&scL n l):=rfl
theorem rG1 (n:Nat):scL n []=true:=rfl
attribute [push_cast] wD2 cN1 rG1 Bool.and_true Bool.and_self
structure Co where
 v:List Int
 s:Int
 p:List Tm
 m:Int
def coC (c:Co):List Value:=[ivV c.v,.int .i64 c.s,qD c.p,.int .i64 c.m]
def coV (c:Co):Value:=.agg ⟨coC c⟩
theorem sA1 (l:List (List UInt8)):one (nsV l)=true:=rfl
theorem wH1 (l:List (List UInt8)):(nsV l).cells.toList=[nsV l]:=rfl
attribute [push_cast] sA1 wH1
def small (c:UInt8):Bool:=decide (97≤c.toNat∧c.toNat≤122)
def digit (c:UInt8):Bool:=decide (48≤c.toNat∧c.toNat≤57)
def kK (c:UInt8):Bool:=small c || digit c || decide (c.toNat=95)
def wN (p:UInt8→Bool) (l:List UInt8):Nat:=(l.takeWhile p).length
theorem dQ1 (p:UInt8→Bool) (l:List UInt8):wN p l≤l.length:=by
 unfold wN;exact List.Sublist.length_le (List.takeWhile_sublist p)
theorem bV0 (p:UInt8→Bool) (c:UInt8) (l:List UInt8):wN p (c :: l)=if p c then wN p l+1 else 0:=by
 unfold wN;rw[List.takeWhile_cons];split<;>simp
theorem gL0 (p:UInt8→Bool):∀ (l:List UInt8) (i:Nat),i<wN p l→p (l.getD i 0)=true
 | [],i,h=>by simp[wN] at h
 | c :: l,i,h=>by
  rw[bV0] at h
  split at h
  ·cases i with
   | zero=>simpa
   | succ i=>simpa using gL0 p l i (by omega)
  ·omega
theorem kU1 (p:UInt8→Bool):∀ (l:List UInt8),wN p l<l.length→p (l.getD (wN p l) 0)=false
 | [],h=>by simp[wN] at h
 | c :: l,h=>by
  rw[bV0] at h ⊢
  split at h
  ·rename_i hc
   rw[if_pos hc]
   simpa using kU1 p l (by simpa using h)
  ·rename_i hc
   rw[if_neg hc]
   simpa using hc
def wR0 (r:Int):Bool:=decide (97≤r∧r≤122)
def yY0 (r:Int):Bool:=decide (48≤r∧r≤57)
def bQ0 (r:Int):Bool:=wR0 r || yY0 r || decide (r=95)
theorem qM1 (r:Int):jI (pp G) H0 68 [.int .i32 r] (.bool (wR0 r)):=by
 refine cE G fir68 (by kernel_rfl) (pB0 ..) fun hlo=>?_;rw[oE1]
 unfold wR0
 by_cases h1:97≤r
 ·simp(disch:=first|omega|(apply id;simp only[push_cast];try omega))only[push_cast,simprocAttr,h1,true_and]
  exact .id rfl
 ·simp(disch:=first|omega|(apply id;simp only[push_cast];try omega))only[push_cast,simprocAttr,h1,false_and]
  exact .id rfl
theorem jD2 (r:Int):jI (pp G) H0 77 [.int .i32 r] (.bool (yY0 r)):=by
 refine cE G fir77 (by kernel_rfl) (pB0 ..) fun hlo=>?_;rw[nV1]
 unfold yY0
 by_cases h1:48≤r
 ·simp(disch:=first|omega|(apply id;simp only[push_cast];try omega))only[push_cast,simprocAttr,h1,true_and]
  exact .id rfl
 ·simp(disch:=first|omega|(apply id;simp only[push_cast];try omega))only[push_cast,simprocAttr,h1,false_and]
  exact .id rfl
theorem mR1 (r:Int):jI (pp G) H0 70 [.int .i32 r] (.bool (bQ0 r)):=by
 refine cE G fir70 (by kernel_rfl) (eK0 ..) fun hlo=>?_;rw[oC1]
 unfold bQ0
 simp(disch:=first|omega|(apply id;simp only[push_cast];try omega))only[push_cast,simprocAttr]
 refine dK (qM1 G r) ?_
 cases h1:wR0 r with
 | true=>
  simp(disch:=first|omega|(apply id;simp only[push_cast];try omega))only[push_cast,simprocAttr,Bool.true_or]
  exact .id rfl
 | false=>
  simp(disch:=first|omega|(apply id;simp only[push_cast];try omega))only[push_cast,simprocAttr,Bool.false_or]
  refine dK (jD2 G r) ?_
  cases h2:yY0 r with
  | true=>
   simp(disch:=first|omega|(apply id;simp only[push_cast];try omega))only[push_cast,simprocAttr,Bool.true_or]
   exact .id rfl
  | false=>
   simp(disch:=first|omega|(apply id;simp only[push_cast];try omega))only[push_cast,simprocAttr,Bool.false_or]
   exact .id rfl
theorem yK2 {L:List UInt8} {pos:Nat} (hp:pos<L.length) (ha:(L.getD pos 0).toNat<128):Utf8.decode (Tx L) pos=((L.getD pos 0).toNat,1):=by
 have e:(Tx L)[pos]'hp=L.getD pos 0:=by
  rw[List.getD_eq_getElem?_getD,List.getElem?_eq_getElem hp];rfl
 have:=decode_ascii (Tx L) pos hp (by rw[e];exact ha)
 rw[e] at this
 exact this
theorem yL2 {L:List UInt8} {pos:Nat} (hp:pos<L.length) (ha:128≤(L.getD pos 0).toNat):128≤(Utf8.decode (Tx L) pos).1∧1≤(Utf8.decode (Tx L) pos).2:=by
 have e:(Tx L)[pos]'hp=L.getD pos 0:=by
  rw[List.getD_eq_getElem?_getD,List.getElem?_eq_getElem hp];rfl
 exact decode_high (Tx L) pos hp (by rw[e];exact ha)
theorem wO2 (c:UInt8):bQ0 (c.toNat:Int)=kK c:=by
 have a:wR0 (c.toNat:Int)=small c:=by unfold wR0 small;congr 1;simp only[eq_iff_iff];omega
 have b:yY0 (c.toNat:Int)=digit c:=by unfold yY0 digit;congr 1;simp only[eq_iff_iff];omega
 unfold bQ0 kK;rw[a,b];congr 2;simp only[eq_iff_iff];omega
theorem wN2 (r:Int) (h:128≤r):bQ0 r=false:=by
 unfold bQ0 wR0 yY0;simp;omega
inductive I74 (L:List UInt8):Nat→S→Prop
 | mk (pos:Nat) (h:jA) {x2 x3 x4 x5 x6 x7 x9 xA xB xC xD xE xF xG xH xI xJ:Value} (hg:h.get 1=some (itO (Tx L) pos)) (hl1:h.lo=1) (hl2:2≤h.next) (hp:pos≤wN kK L) :
  I74 L (L.length-pos) ⟨(F20 (.string (Tx L)) (.func (.func 70) #[] #[]) x2 x3 x4 x5 x6 x7 (.pointer (some ⟨1,0,none⟩)) x9 xA xB xC xD xE xF xG xH xI xJ),[],h⟩
theorem tB1 (L:List UInt8):jI (pp G) H0 69 [.string (Tx L),.func (.func 70) #[] #[]] (.int .i64 (wN kK L)):=by
 refine cE G fir69 (by kernel_rfl) (qN2 ..) fun hlo=>?_;rw[oD1]
 simp(disch:=first|omega|(apply id;simp only[push_cast];try omega))only[push_cast,simprocAttr]
 refine WD.loop4 (q:=qq) (jX G) (by kernel_rfl) (I74 L) ?_ _ _ (I74.mk 0 _ (by rw[qW _ _ kI.symm]) rfl (by simp(disch:=first|omega|(apply id;simp only[push_cast];try omega))only[push_cast,simprocAttr];first|done|omega) (Nat.zero_le _))
 intro m s1 hI
 cases hI with|mk pos h hg hl1 hl2 hp=>
 rw[pO0]
 have hfl:=dQ1 kK L
 by_cases hpl:pos<L.length
 ·simp(disch:=first|omega|(apply id;simp only[push_cast];try omega))only[push_cast,simprocAttr,zD2 _ pos L hg (by omega) hpl]
  refine dK (mR1 G _) ?_
  by_cases ha:(L.getD pos 0).toNat<128
  ·rw[yK2 hpl ha]
   have e:=wO2 (L.getD pos 0)
   dsimp only
   cases hc:kK (L.getD pos 0) with
   | true=>
    rw[hc] at e
    simp(disch:=first|omega|(apply id;simp only[push_cast];try omega))only[push_cast,simprocAttr,e,Bool.not_true]
    have hlt:pos<wN kK L:=by
     rcases Nat.lt_or_ge pos (wN kK L) with h2|h2
     ·exact h2
     ·have h3:wN kK L=pos:=by omega
      have:=kU1 kK L (by omega)
      rw[h3,hc] at this;cases this
    exact ⟨_,by omega,I74.mk (pos+1) _ (qO _ _) hl1 hl2 (by omega)⟩
   | false=>
    rw[hc] at e
    simp(disch:=first|omega|(apply id;simp only[push_cast];try omega))only[push_cast,simprocAttr,e,Bool.not_false]
    have h3:wN kK L=pos:=by
     rcases Nat.lt_or_ge pos (wN kK L) with h2|h2
     ·have:=gL0 kK L pos h2
      rw[hc] at this;cases this
     ·omega
    rw[h3]
    exact .id rfl
  ·have hh:=yL2 hpl (by omega)
   have e:=wN2 ((Utf8.decode (Tx L) pos).1:Int) (by omega)
   simp(disch:=first|omega|(apply id;simp only[push_cast];try omega))only[push_cast,simprocAttr,e,Bool.not_false]
   have h3:wN kK L=pos:=by
    rcases Nat.lt_or_ge pos (wN kK L) with h2|h2
    ·have h4:=gL0 kK L pos h2
     rw[← wO2,wN2 _ (by omega)] at h4;cases h4
    ·omega
   rw[h3]
   exact .id rfl
 ·simp(disch:=first|omega|(apply id;simp only[push_cast];try omega))only[push_cast,simprocAttr,zE2 _ pos L hg (by omega) (by omega)]
  rw[pN0]
  simp(disch:=first|omega|(apply id;simp only[push_cast];try omega))only[push_cast,simprocAttr]
  have h3:wN kK L=L.length:=by omega
  rw[h3]
  exact .id rfl
def zV2:List (List UInt8):=[[118,97,114],[115,116,97,99,107],[112,114,111,99],[115,107,105,112],[100,111],[112,117,115,104],[114,101,118,101,114,115,101],[97,99,99,101,112,116],[109,101,114,103,101],[98,108,111,99,107],[101,120,105,116],[105,102],[101,108,115,101],[99,104,111,111,115,101],[112,97,114],[99,97,108,108]]
def keyF (s:List UInt8):Bool:=decide (s∈zV2)
theorem dA1 (s:List UInt8):jI (pp G) H0 67 [.string (Tx s)] (.bool (keyF s)):=by
 refine cE G fir67 (by kernel_rfl) (eH0 ..) fun hlo=>?_;rw[oF1]
 by_cases h0:s=[118,97,114]
 ·have t0:(s == [118,97,114])=true:=by simpa using h0
  rw[show keyF s=true from by rw[h0];decide]
  simp(disch:=first|omega|(apply id;simp only[push_cast];try omega))only[push_cast,simprocAttr,t0]
  exact .id rfl
 have g0:(s == [118,97,114])=false:=by simpa using h0
 by_cases h1:s=[115,116,97,99,107]
 ·have t1:(s == [115,116,97,99,107])=true:=by simpa using h1
  rw[show keyF s=true from by rw[h1];decide]
  simp(disch:=first|omega|(apply id;simp only[push_cast];try omega))only[push_cast,simprocAttr,g0,t1]
  exact .id rfl
 have g1:(s == [115,116,97,99,107])=false:=by simpa using h1
 by_cases h2:s=[112,114,111,99]
 ·have t2:(s == [112,114,111,99])=true:=by simpa using h2
  rw[show keyF s=true from by rw[h2];decide]
  simp(disch:=first|omega|(apply id;simp only[push_cast];try omega))only[push_cast,simprocAttr,g0,g1,t2]
  exact .id rfl
 have g2:(s == [112,114,111,99])=false:=by simpa using h2
 by_cases h3:s=[115,107,105,112]
 ·have t3:(s == [115,107,105,112])=true:=by simpa using h3
  rw[show keyF s=true from by rw[h3];decide]
  simp(disch:=first|omega|(apply id;simp only[push_cast];try omega))only[push_cast,simprocAttr,g0,g1,g2,t3]
  exact .id rfl
 have g3:(s == [115,107,105,112])=false:=by simpa using h3
 by_cases h4:s=[100,111]
 ·have t4:(s == [100,111])=true:=by simpa using h4
  rw[show keyF s=true from by rw[h4];decide]
  simp(disch:=first|omega|(apply id;simp only[push_cast];try omega))only[push_cast,simprocAttr,g0,g1,g2,g3,t4]
  exact .id rfl
 have g4:(s == [100,111])=false:=by simpa using h4
 by_cases h5:s=[112,117,115,104]
 ·have t5:(s == [112,117,115,104])=true:=by simpa using h5
  rw[show keyF s=true from by rw[h5];decide]
  simp(disch:=first|omega|(apply id;simp only[push_cast];try omega))only[push_cast,simprocAttr,g0,g1,g2,g3,g4,t5]
  exact .id rfl
 have g5:(s == [112,117,115,104])=false:=by simpa using h5
 by_cases h6:s=[114,101,118,101,114,115,101]
 ·have t6:(s == [114,101,118,101,114,115,101])=true:=by simpa using h6
  rw[show keyF s=true from by rw[h6];decide]
  simp(disch:=first|omega|(apply id;simp only[push_cast];try omega))only[push_cast,simprocAttr,g0,g1,g2,g3,g4,g5,t6]
  exact .id rfl
 have g6:(s == [114,101,118,101,114,115,101])=false:=by simpa using h6
 by_cases h7:s=[97,99,99,101,112,116]
 ·have t7:(s == [97,99,99,101,112,116])=true:=by simpa using h7
  rw[show keyF s=true from by rw[h7];decide]
  simp(disch:=first|omega|(apply id;simp only[push_cast];try omega))only[push_cast,simprocAttr,g0,g1,g2,g3,g4,g5,g6,t7]
  exact .id rfl
 have g7:(s == [97,99,99,101,112,116])=false:=by simpa using h7
 by_cases h8:s=[109,101,114,103,101]
 ·have t8:(s == [109,101,114,103,101])=true:=by simpa using h8
  rw[show keyF s=true from by rw[h8];decide]
  simp(disch:=first|omega|(apply id;simp only[push_cast];try omega))only[push_cast,simprocAttr,g0,g1,g2,g3,g4,g5,g6,g7,t8]
  exact .id rfl
 have g8:(s == [109,101,114,103,101])=false:=by simpa using h8
 by_cases h9:s=[98,108,111,99,107]
 ·have t9:(s == [98,108,111,99,107])=true:=by simpa using h9
  rw[show keyF s=true from by rw[h9];decide]
  simp(disch:=first|omega|(apply id;simp only[push_cast];try omega))only[push_cast,simprocAttr,g0,g1,g2,g3,g4,g5,g6,g7,g8,t9]
  exact .id rfl
 have g9:(s == [98,108,111,99,107])=false:=by simpa using h9
 by_cases h10:s=[101,120,105,116]
 ·have t10:(s == [101,120,105,116])=true:=by simpa using h10
  rw[show keyF s=true from by rw[h10];decide]
  simp(disch:=first|omega|(apply id;simp only[push_cast];try omega))only[push_cast,simprocAttr,g0,g1,g2,g3,g4,g5,g6,g7,g8,g9,t10]
  exact .id rfl
 have g10:(s == [101,120,105,116])=false:=by simpa using h10
 by_cases h11:s=[105,102]
 ·have t11:(s == [105,102])=true:=by simpa using h11
  rw[show keyF s=true from by rw[h11];decide]
  simp(disch:=first|omega|(apply id;simp only[push_cast];try omega))only[push_cast,simprocAttr,g0,g1,g2,g3,g4,g5,g6,g7,g8,g9,g10,t11]
  exact .id rfl
 have g11:(s == [105,102])=false:=by simpa using h11
 by_cases h12:s=[101,108,115,101]
 ·have t12:(s == [101,108,115,101])=true:=by simpa using h12
  rw[show keyF s=true from by rw[h12];decide]
  simp(disch:=first|omega|(apply id;simp only[push_cast];try omega))only[push_cast,simprocAttr,g0,g1,g2,g3,g4,g5,g6,g7,g8,g9,g10,g11,t12]
  exact .id rfl
 have g12:(s == [101,108,115,101])=false:=by simpa using h12
 by_cases h13:s=[99,104,111,111,115,101]
 ·have t13:(s == [99,104,111,111,115,101])=true:=by simpa using h13
  rw[show keyF s=true from by rw[h13];decide]
  simp(disch:=first|omega|(apply id;simp only[push_cast];try omega))only[push_cast,simprocAttr,g0,g1,g2,g3,g4,g5,g6,g7,g8,g9,g10,g11,g12,t13]
  exact .id rfl
 have g13:(s == [99,104,111,111,115,101])=false:=by simpa using h13
 by_cases h14:s=[112,97,114]
 ·have t14:(s == [112,97,114])=true:=by simpa using h14
  rw[show keyF s=true from by rw[h14];decide]
  simp(disch:=first|omega|(apply id;simp only[push_cast];try omega))only[push_cast,simprocAttr,g0,g1,g2,g3,g4,g5,g6,g7,g8,g9,g10,g11,g12,g13,t14]
  exact .id rfl
 have g14:(s == [112,97,114])=false:=by simpa using h14
 by_cases h15:s=[99,97,108,108]
 ·have t15:(s == [99,97,108,108])=true:=by simpa using h15
  rw[show keyF s=true from by rw[h15];decide]
  simp(disch:=first|omega|(apply id;simp only[push_cast];try omega))only[push_cast,simprocAttr,g0,g1,g2,g3,g4,g5,g6,g7,g8,g9,g10,g11,g12,g13,g14,t15]
  exact .id rfl
 have g15:(s == [99,97,108,108])=false:=by simpa using h15
 rw[show keyF s=false from by unfold keyF zV2;simp[h0,h1,h2,h3,h4,h5,h6,h7,h8,h9,h10,h11,h12,h13,h14,h15]]
 simp(disch:=first|omega|(apply id;simp only[push_cast];try omega))only[push_cast,simprocAttr,g0,g1,g2,g3,g4,g5,g6,g7,g8,g9,g10,g11,g12,g13,g14,g15]
 exact .id rfl
def cV1 (s:List UInt8):Bool:=!decide (s=[])&&(decide (s.length≤20)&&(!keyF s&&(small (s.getD 0 0)&&decide (wN kK s=s.length))))
theorem qs_eq (c:UInt8):wR0 (c.toNat:Int)=small c:=by unfold wR0 small;congr 1;simp only[eq_iff_iff];omega
theorem wO1 (s:List UInt8):jI (pp G) H0 60 [.string (Tx s)] (.bool (cV1 s)):=by
 refine cE G fir60 (by kernel_rfl) (qK2 ..) fun hlo=>?_;rw[oM1]
 unfold cV1
 by_cases h1:s=[]
 ·simp(disch:=first|omega|(apply id;simp only[push_cast];try omega))only[push_cast,simprocAttr,h1,beq_self_eq_true,decide_true,Bool.not_true,Bool.false_and]
  exact .id rfl
 have hb:(s == ([]:List UInt8))=false:=by simpa using h1
 by_cases h2:(20:Int)<s.length
 ·have h2':¬ s.length≤20:=by omega
  simp(disch:=first|omega|(apply id;simp only[push_cast];try omega))only[push_cast,simprocAttr,h1,hb,h2,h2',decide_false,Bool.false_and,Bool.and_false]
  exact .id rfl
 have h2':s.length≤20:=by omega
 have hs0:0<s.length:=List.length_pos_iff.2 h1
 rw[decide_eq_false h1,decide_eq_true h2',Bool.not_false,Bool.true_and,Bool.true_and]
 simp(disch:=first|omega|(apply id;simp only[push_cast];try omega))only[push_cast,simprocAttr,h1,hb,h2,h2',decide_true,decide_false,Bool.not_false,Bool.true_and]
 refine dK (dA1 G s) ?_
 cases hk:keyF s with
 | true=>
  simp(disch:=first|omega|(apply id;simp only[push_cast];try omega))only[push_cast,simprocAttr,Bool.not_true,Bool.false_and]
  exact .id rfl
 | false=>
  have hcv:∀ n h,cvV Tryd.prog 5 21 (.int .u8 n) h=some (.int .i32 (IntKind.i32.wrap n)):=fun n h=>mK1 bA0
  have hbt:IntKind.i32.wrap (bt s 0)=((s.getD 0 0).toNat:Int):=by
   have:(s.getD 0 0).toNat<256:=(s.getD 0 0).toNat_lt
   have e:bt s 0=((s.getD 0 0).toNat:Int):=rfl
   rw[e,IntKind.wrap_i32]
   omega
  simp(disch:=first|omega|(apply id;simp only[push_cast];try omega))only[push_cast,simprocAttr,hcv,hbt,Bool.not_false,Bool.true_and]
  refine dK (qM1 G _) ?_
  rw[qs_eq]
  cases hs:small (s.getD 0 0) with
  | false=>
   simp(disch:=first|omega|(apply id;simp only[push_cast];try omega))only[push_cast,simprocAttr,Bool.false_and]
   exact .id rfl
  | true=>
   simp(disch:=first|omega|(apply id;simp only[push_cast];try omega))only[push_cast,simprocAttr,Bool.true_and]
   refine dK (tB1 G s) ?_
   by_cases hf:wN kK s=s.length
   ·have hf':(wN kK s:Int)=s.length:=by omega
    rw[show decide (wN kK s=s.length)=true from decide_eq_true hf]
    simp(disch:=first|omega|(apply id;simp only[push_cast];try omega))only[push_cast,simprocAttr,hf',decide_true]
    exact .id rfl
   ·have hf':¬ (wN kK s:Int)=s.length:=by omega
    rw[show decide (wN kK s=s.length)=false from decide_eq_false hf]
    simp(disch:=first|omega|(apply id;simp only[push_cast];try omega))only[push_cast,simprocAttr,hf',decide_false]
    exact .id rfl
mutual
def wP (v:Int):Ex→Bool
 | .mk k n s l => (if k = 1 ∧ 0 ≤ n then decide (l.length = 0) else if k = 2 ∧ 0 ≤ n ∧ n < v then decide (l.length = 0) else if k = 3 ∨ k = 4 then decide (l.length = 1 ∧ n = 0) else if 5 ≤ k ∧ k ≤ 17 then decide (l.length = 2 ∧ n = 0) else false)
   &&decide (s=[])&&wO v l
def wO (v:Int):List Ex→Bool
 | []=>true
 | x :: l=>wP v x&&wO v l
end
theorem zT0 {v:Int}:∀ {l:List Ex},wO v l=true→∀ x∈l,wP v x=true
 | [],_,x,hx=>by cases hx
 | y :: l,h,x,hx=>by
  simp only[wO,Bool.and_eq_true] at h
  rcases List.mem_cons.1 hx with rfl|hx
  ·exact h.1
  ·exact zT0 h.2 x hx
theorem lK0 {v:Int} {l:List Ex} {i:Nat} {x:Ex} (h:l[i]?=some x):wO v (l.take (i+1))=(wO v (l.take i)&&wP v x):=by
 have hi:=(List.getElem?_eq_some_iff.1 h).1
 have app:∀ a b:List Ex,wO v (a++b)=(wO v a&&wO v b):=by
  intro a b
  induction a with
  | nil=>simp[wO]
  | cons x a ih=>simp[wO,ih,Bool.and_assoc]
 rw[List.take_add_one,h,app]
 simp[wO]
theorem uW1 {v:Int} {l:List Ex} {x:Ex} (h:x∈l) (hx:wP v x=false):wO v l=false:=by
 cases hc:wO v l with
 | false=>rfl
 | true=>rw[zT0 hc x h] at hx;cases hx
inductive I56r (v:Int) (l:List Ex):Nat→S→Prop
 | mk (i:Nat) (iv:Int) (h:jA) {x0 x2 x3 x4 x5 x6 x7 x8 x9 xA xB xC xD xE xF xG xH xI xJ xK xL xM xN xO xP xQ xR xS xT xU xV xW xX xY xZ yA yB yC yD yE yF yG yH yI yJ yK yL yM yN yO yP yQ yR yS yT yU yV yW yX yY yZ zA zB zC zD zE zF zG zH zL zM zN zO zP zQ zR zS:Value} (hiv:iv=(i:Int)) (hi:i≤l.length) (hok:wO v (l.take i)=true) (hl1:h.lo=1) (hl2:1≤h.next) :
  I56r v l (l.length-i) ⟨(F81 x0 (.int .i64 v) x2 x3 x4 x5 x6 x7 x8 x9 xA xB xC xD xE xF xG xH xI xJ xK xL xM xN xO xP xQ xR xS xT xU xV xW xX xY xZ yA yB yC yD yE yF yG yH yI yJ yK yL yM yN yO yP yQ yR yS yT yU yV yW yX yY yZ zA zB zC zD zE zF zG zH (Rw false eE l.length (wY l)) (.int .i64 l.length) (.int .i64 iv) zL zM zN zO zP zQ zR zS),[],h⟩
theorem wQ0 (v c k n:Int) (s:List UInt8) (l:List Ex) (hll:l.length<100000000000) (ih:∀ x∈l,jI (pp G) H0 51 [exV x,.int .i64 v] (.bool (wP v x))) {x0 x3 x4 x6 x7 x8 x9 xA xB xC xD xE xF xG xH xI xJ xK xL xM xN xO xP xQ xR xS xT xU xV xW xX xY xZ yA yB yC yD yE yF yG yH yI yJ yK yL yM yN yO yP yQ yR yS yT yU yV yW yX yY yZ zA zB zC zD zE zF zG zH zI zJ zK zL zM zN zO zP zQ zR zS:Value} (b:Bool)
  (hb:b=(decide (s=[])&&decide ((l.length:Int)=c)&&decide (c=0∨n=0)&&wO v l)) :
  dc3 (pp G) qq none zX0 ⟨(F81 x0 (.int .i64 v) (.pointer (some ⟨1,0,none⟩)) x3 x4 (.int .i64 c) x6 x7 x8 x9 xA xB xC xD xE xF xG xH xI xJ xK xL xM xN xO xP xQ xR xS xT xU xV xW xX xY xZ yA yB yC yD yE yF yG yH yI yJ yK yL yM yN yO yP yQ yR yS yT yU yV yW yX yY yZ zA zB zC zD zE zF zG zH zI zJ zK zL zM zN zO zP zQ zR zS),[],H0.add (O [.int .i64 k,.int .i64 n,.string (Tx s),Rw false eE l.length (wY l)] 25 false)⟩ (@kR ⟨jH Tryd.prog [.tmp 4] (fun v' σ'=>FzV Tryd.prog 1 σ' v' (.bool b))⟩):=by
 rw[rC0]
 have key : ∀ {yO yP yQ yR yS yT yU yV yW yX yY yZ zA zB zC zD zE zF zG zH : Value} (hb : b = wO v l) (h : jA) (hl1 : h.lo = 1) (hl2 : 1 ≤ h.next), WD (pp G) qq.H none (.loop lV0) ⟨(F81 x0 (.int .i64 v) (.pointer (some ⟨1, 0, none⟩)) x3 x4 (.int .i64 c) x6 x7 x8 x9 xA xB xC xD xE xF xG xH xI xJ xK xL xM xN xO xP xQ xR xS xT xU xV xW xX xY xZ yA yB yC yD yE yF yG yH yI yJ yK yL yM yN yO yP yQ yR yS yT yU yV yW yX yY yZ zA zB zC zD zE zF zG zH (Rw false eE l.length (wY l)) (.int .i64 l.length) (.int .i64 0) zL zM zN zO zP zQ zR zS), [], h⟩
   (@kR ⟨jU 1 (jQ (fun s1=>dc3 (pp G) qq none zG1 s1 (@kR ⟨@kR ⟨jH Tryd.prog [.tmp 4] (fun v' σ'=>FzV Tryd.prog 1 σ' v' (.bool b))⟩⟩)) (@kR ⟨jH Tryd.prog [.tmp 4] (fun v' σ'=>FzV Tryd.prog 1 σ' v' (.bool b))⟩))⟩):=by
  intro yO yP yQ yR yS yT yU yV yW yX yY yZ zA zB zC zD zE zF zG zH hb h hl1 hl2
  refine WD.loop4 (q:=qq) (jX G) (by kernel_rfl) (I56r v l) ?_ _ _ (I56r.mk 0 0 h rfl (Nat.zero_le _) rfl hl1 hl2)
  intro m s1 hI
  cases hI with|mk i iv h hiv hi hok hl1 hl2=>
  subst hiv
  rw[rB0]
  by_cases hil:(i:Int)<l.length
  ·obtain ⟨x,hx⟩:∃ x,l[i]?=some x:=⟨_,List.getElem?_eq_getElem (by omega)⟩
   have hxm:=List.mem_of_getElem? hx
   have hp:=zD0 hx
   have hle:i*4+4≤l.length*4:=by omega
   simp(disch:=first|omega|(apply id;simp only[push_cast];try omega))only[push_cast,simprocAttr,hil,Int.toNat_natCast,hp,hle,hl1]
   refine dK (ih x hxm) ?_
   cases hr:wP v x with
   | true=>
    simp(disch:=first|omega|(apply id;simp only[push_cast];try omega))only[push_cast,simprocAttr]
    exact ⟨_,by omega,I56r.mk (i+1) _ _ (by first|rfl|omega) (by omega) (by rw[lK0 hx,hok,hr];rfl) (by first|(simp(disch:=first|omega|(apply id;simp only[push_cast];try omega))only[push_cast,simprocAttr,hl1];done)|(simp(disch:=first|omega|(apply id;simp only[push_cast];try omega))only[push_cast,simprocAttr];omega)) (by first|(simp(disch:=first|omega|(apply id;simp only[push_cast];try omega))only[push_cast,simprocAttr];done)|(simp(disch:=first|omega|(apply id;simp only[push_cast];try omega))only[push_cast,simprocAttr];omega))⟩
   | false=>
    rw[uW1 hxm hr] at hb
    subst hb
    simp(disch:=first|omega|(apply id;simp only[push_cast];try omega))only[push_cast,simprocAttr]
    exact .id rfl
  ·have hie:i=l.length:=by omega
   subst hie
   rw[List.take_length] at hok
   rw[hok] at hb
   subst hb
   simp(disch:=first|omega|(apply id;simp only[push_cast];try omega))only[push_cast,simprocAttr,hil]
   exact .id rfl
 by_cases h1:s=[]
 ·by_cases h2:(l.length:Int)=c
  ·subst h2
   by_cases h3:(0:Int)<l.length
   ·by_cases h4:n=0
    ·simp(disch:=first|omega|(apply id;simp only[push_cast];try omega))only[push_cast,simprocAttr,h1,h3,h4,beq_self_eq_true]
     exact key (by rw[hb];simp[h1,h4]) _ (by simp(disch:=first|omega|(apply id;simp only[push_cast];try omega))only[push_cast,simprocAttr]) (by first|(simp(disch:=first|omega|(apply id;simp only[push_cast];try omega))only[push_cast,simprocAttr];done)|(simp(disch:=first|omega|(apply id;simp only[push_cast];try omega))only[push_cast,simprocAttr];omega))
    ·have hno:¬ ((l.length:Int)=0∨n=0):=by omega
     have:b=false:=by rw[hb,decide_eq_false hno];simp
     subst this
     simp(disch:=first|omega|(apply id;simp only[push_cast];try omega))only[push_cast,simprocAttr,h1,h3,h4,beq_self_eq_true]
     exact .id rfl
   ·simp(disch:=first|omega|(apply id;simp only[push_cast];try omega))only[push_cast,simprocAttr,h1,h3,beq_self_eq_true]
    exact key (by rw[hb,decide_eq_true (show (l.length:Int)=0∨n=0 by omega)];simp[h1]) _ (by simp(disch:=first|omega|(apply id;simp only[push_cast];try omega))only[push_cast,simprocAttr]) (by first|(simp(disch:=first|omega|(apply id;simp only[push_cast];try omega))only[push_cast,simprocAttr];done)|(simp(disch:=first|omega|(apply id;simp only[push_cast];try omega))only[push_cast,simprocAttr];omega))
  ·have:b=false:=by rw[hb];simp[h2]
   subst this
   simp(disch:=first|omega|(apply id;simp only[push_cast];try omega))only[push_cast,simprocAttr,h1,h2,beq_self_eq_true]
   exact .id rfl
 ·have:b=false:=by rw[hb];simp[h1]
  subst this
  have hs:(s == [])=false:=by simpa using h1
  simp(disch:=first|omega|(apply id;simp only[push_cast];try omega))only[push_cast,simprocAttr,hs]
  exact .id rfl
theorem yW0 (v:Int):∀ x:Ex,smE x=true→jI (pp G) H0 51 [exV x,.int .i64 v] (.bool (wP v x))
 | .mk k n s l,hsm=>by
  simp only[smE,Bool.and_eq_true,decide_eq_true_eq] at hsm
  have hall:=cS0 hsm.2
  have ih:∀ x∈l,jI (pp G) H0 51 [exV x,.int .i64 v] (.bool (wP v x)):=fun x hx=>yW0 v x (hall x hx)
  refine cE G fir51 (by kernel_rfl) (bE1 ..) fun hlo=>?_;rw[oV1]
  unfold exV exC
  rw[wP]
  have hq:∀ (c:Int) (A:Bool),A=(decide ((l.length:Int)=c)&&decide (c=0∨n=0))→(A&&decide (s=[])&&wO v l)=(decide (s=[])&&decide ((l.length:Int)=c)&&decide (c=0∨n=0)&&wO v l):=fun c A hA=>by
   rw[hA]
   cases decide (s=[])<;>cases decide ((l.length:Int)=c)<;>cases decide (c=0∨n=0)<;>rfl
  by_cases h1:k=1
  ·by_cases h2:0≤n
   ·rw[if_pos ⟨h1,h2⟩]
    simp(disch:=first|omega|(apply id;simp only[push_cast];try omega))only[push_cast,simprocAttr,h1,h2]
    exact wQ0 G v 0 1 n s l hsm.1 ih _ (hq 0 (decide (l.length=0)) (by rw[Bool.eq_iff_iff];simp only[Bool.and_eq_true,decide_eq_true_eq];constructor<;>intro hz<;>first|omega|exact ⟨by omega,by first|omega|exact .inl rfl⟩|exact ⟨by omega,by simp⟩|exact hz.1|(simp at hz ⊢;omega)))
   ·rw[if_neg (by omega),if_neg (by omega),if_neg (by omega),if_neg (by omega)]
    subst h1
    simp(disch:=first|omega|(apply id;simp only[push_cast];try omega))only[push_cast,simprocAttr,h2]
    exact .id rfl
  rw[if_neg (by omega)]
  by_cases h2:k=2
  ·by_cases h3:0≤n
   ·by_cases h4:n<v
    ·rw[if_pos ⟨h2,h3,h4⟩]
     subst h2
     simp(disch:=first|omega|(apply id;simp only[push_cast];try omega))only[push_cast,simprocAttr,h3,h4]
     exact wQ0 G v 0 2 n s l hsm.1 ih _ (hq 0 (decide (l.length=0)) (by rw[Bool.eq_iff_iff];simp only[Bool.and_eq_true,decide_eq_true_eq];constructor<;>intro hz<;>first|omega|exact ⟨by omega,by first|omega|exact .inl rfl⟩|exact ⟨by omega,by simp⟩|exact hz.1|(simp at hz ⊢;omega)))
    ·rw[if_neg (by omega),if_neg (by omega),if_neg (by omega)]
     subst h2
     simp(disch:=first|omega|(apply id;simp only[push_cast];try omega))only[push_cast,simprocAttr,h3,h4]
     exact .id rfl
   ·rw[if_neg (by omega),if_neg (by omega),if_neg (by omega)]
    subst h2
    simp(disch:=first|omega|(apply id;simp only[push_cast];try omega))only[push_cast,simprocAttr,h3]
    exact .id rfl
  rw[if_neg (by omega)]
  by_cases h3:k=3
  ·rw[if_pos (.inl h3)]
   subst h3
   simp(disch:=first|omega|(apply id;simp only[push_cast];try omega))only[push_cast,simprocAttr]
   exact wQ0 G v 1 3 n s l hsm.1 ih _ (hq 1 (decide (l.length=1∧n=0)) (by rw[Bool.eq_iff_iff];simp only[Bool.and_eq_true,decide_eq_true_eq];constructor<;>intro hz<;>first|omega|exact ⟨by omega,by first|omega|exact .inl rfl⟩|exact ⟨by omega,by simp⟩|exact hz.1|(simp at hz ⊢;omega)))
  by_cases h4:k=4
  ·rw[if_pos (.inr h4)]
   subst h4
   simp(disch:=first|omega|(apply id;simp only[push_cast];try omega))only[push_cast,simprocAttr]
   exact wQ0 G v 1 4 n s l hsm.1 ih _ (hq 1 (decide (l.length=1∧n=0)) (by rw[Bool.eq_iff_iff];simp only[Bool.and_eq_true,decide_eq_true_eq];constructor<;>intro hz<;>first|omega|exact ⟨by omega,by first|omega|exact .inl rfl⟩|exact ⟨by omega,by simp⟩|exact hz.1|(simp at hz ⊢;omega)))
  rw[if_neg (by omega)]
  by_cases h5:5≤k
  ·by_cases h6:k≤17
   ·rw[if_pos ⟨h5,h6⟩]
    simp(disch:=first|omega|(apply id;simp only[push_cast];try omega))only[push_cast,simprocAttr,h1,h2,h3,h4,h5,h6]
    exact wQ0 G v 2 k n s l hsm.1 ih _ (hq 2 (decide (l.length=2∧n=0)) (by rw[Bool.eq_iff_iff];simp only[Bool.and_eq_true,decide_eq_true_eq];constructor<;>intro hz<;>first|omega|exact ⟨by omega,by first|omega|exact .inl rfl⟩|exact ⟨by omega,by simp⟩|exact hz.1|(simp at hz ⊢;omega)))
   ·rw[if_neg (by omega)]
    simp(disch:=first|omega|(apply id;simp only[push_cast];try omega))only[push_cast,simprocAttr,h1,h2,h3,h4,h5,h6]
    exact .id rfl
  ·rw[if_neg (by omega)]
   simp(disch:=first|omega|(apply id;simp only[push_cast];try omega))only[push_cast,simprocAttr,h1,h2,h3,h4,h5]
   exact .id rfl
 termination_by x=>SizeOf.sizeOf x
def sO0 (v st p what n:Int):Bool:=
 if what=1 then decide (0≤n∧n<v) else if what=2 then decide (n = -1∨(0≤n∧n<v)) else if what=3 then decide (0≤n∧n<st) else if what=4 then decide (0≤n∧n<p) else if what=5 then decide (0≤n) else decide (n=0)
theorem mB1 (v st p what n:Int):jI (pp G) H0 58 [.agg ⟨[.int .i64 v,.int .i64 st,.int .i64 p]⟩,.int .i64 what,.int .i64 n] (.bool (sO0 v st p what n)):=by
 refine cE G fir58 (by kernel_rfl) (qB2 ..) fun hlo=>?_;rw[oO1]
 unfold sO0
 by_cases h1:what=1
 ·rw[if_pos h1]
  by_cases h2:0≤n
  ·simp(disch:=first|omega|(apply id;simp only[push_cast];try omega))only[push_cast,simprocAttr,h1,h2,true_and]
   exact .id rfl
  ·simp(disch:=first|omega|(apply id;simp only[push_cast];try omega))only[push_cast,simprocAttr,h1,h2,false_and]
   exact .id rfl
 rw[if_neg h1]
 by_cases h2:what=2
 ·rw[if_pos h2]
  by_cases h3:n = -1
  ·simp(disch:=first|omega|(apply id;simp only[push_cast];try omega))only[push_cast,simprocAttr,h1,h2,h3,true_or]
   exact .id rfl
  ·by_cases h4:0≤n
   ·simp(disch:=first|omega|(apply id;simp only[push_cast];try omega))only[push_cast,simprocAttr,h1,h2,h3,h4,true_and,false_or]
    exact .id rfl
   ·simp(disch:=first|omega|(apply id;simp only[push_cast];try omega))only[push_cast,simprocAttr,h1,h2,h3,h4,false_and,false_or]
    exact .id rfl
 rw[if_neg h2]
 by_cases h3:what=3
 ·rw[if_pos h3]
  by_cases h4:0≤n
  ·simp(disch:=first|omega|(apply id;simp only[push_cast];try omega))only[push_cast,simprocAttr,h1,h2,h3,h4,true_and]
   exact .id rfl
  ·simp(disch:=first|omega|(apply id;simp only[push_cast];try omega))only[push_cast,simprocAttr,h1,h2,h3,h4,false_and]
   exact .id rfl
 rw[if_neg h3]
 by_cases h4:what=4
 ·rw[if_pos h4]
  by_cases h5:0≤n
  ·simp(disch:=first|omega|(apply id;simp only[push_cast];try omega))only[push_cast,simprocAttr,h1,h2,h3,h4,h5,true_and]
   exact .id rfl
  ·simp(disch:=first|omega|(apply id;simp only[push_cast];try omega))only[push_cast,simprocAttr,h1,h2,h3,h4,h5,false_and]
   exact .id rfl
 rw[if_neg h4]
 by_cases h5:what=5
 ·rw[if_pos h5]
  simp(disch:=first|omega|(apply id;simp only[push_cast];try omega))only[push_cast,simprocAttr,h1,h2,h3,h4,h5]
  exact .id rfl
 rw[if_neg h5]
 simp(disch:=first|omega|(apply id;simp only[push_cast];try omega))only[push_cast,simprocAttr,h1,h2,h3,h4,h5]
 exact .id rfl
def qT0 (e:Ex):Bool:=!decide (e.k=0) || (!decide (e.n=0) || (!decide (e.s=[]) || decide (0<e.l.length)))
theorem kO1:∀ e:Ex,smE e=true→jI (pp G) H0 61 [exV e] (.bool (qT0 e))
 | .mk k n s l,hs=>by
  refine cE G fir61 (by kernel_rfl) (qM2 ..) fun hlo=>?_;rw[oL1]
  unfold qT0
  by_cases h1:k=0
  rotate_left
  ·rw[show (!decide ((Ex.mk k n s l).k=0))=true from by simp[Ex.k,h1],Bool.true_or]
   simp(disch:=first|omega|(apply id;simp only[push_cast];try omega))only[push_cast,simprocAttr,h1]
   exact .id rfl
  rw[show (!decide ((Ex.mk k n s l).k=0))=false from by simp[Ex.k,h1],Bool.false_or]
  by_cases h2:n=0
  rotate_left
  ·rw[show (!decide ((Ex.mk k n s l).n=0))=true from by simp[Ex.n,h2],Bool.true_or]
   simp(disch:=first|omega|(apply id;simp only[push_cast];try omega))only[push_cast,simprocAttr,h1,h2]
   exact .id rfl
  rw[show (!decide ((Ex.mk k n s l).n=0))=false from by simp[Ex.n,h2],Bool.false_or]
  by_cases h3:s=[]
  rotate_left
  ·rw[show (!decide ((Ex.mk k n s l).s=[]))=true from by simp[Ex.s,h3],Bool.true_or]
   have hb:(s == ([]:List UInt8))=false:=by simpa using h3
   simp(disch:=first|omega|(apply id;simp only[push_cast];try omega))only[push_cast,simprocAttr,h1,h2,hb]
   exact .id rfl
  rw[show (!decide ((Ex.mk k n s l).s=[]))=false from by simp[Ex.s,h3],Bool.false_or]
  by_cases h4:0<l.length
  ·have h4':(0:Int)<l.length:=by omega
   rw[show decide (0<(Ex.mk k n s l).l.length)=true from by simp only[Ex.l,h4,decide_true]]
   simp(disch:=first|omega|(apply id;simp only[push_cast];try omega))only[push_cast,simprocAttr,h1,h2,h3,h4',beq_self_eq_true]
   exact .id rfl
  ·have h4':¬ (0:Int)<l.length:=by omega
   rw[show decide (0<(Ex.mk k n s l).l.length)=false from by simp only[Ex.l,h4,decide_false]]
   simp(disch:=first|omega|(apply id;simp only[push_cast];try omega))only[push_cast,simprocAttr,h1,h2,h3,h4',beq_self_eq_true]
   exact .id rfl
def sW1 (s:List UInt8) (e:Ex) (l:List Tm):Value:=.agg ⟨[.int .i64 (if s=[] then 0 else 1),.int .i64 (if qT0 e then 1 else 0),.int .i64 l.length]⟩
theorem kA2 (k a b:Int) (s:List UInt8) (e:Ex) (l:List Tm) (hse:smE e=true):jI (pp G) H0 59 [tmV (.mk k a b s e l)] (sW1 s e l):=by
 have hg:=kO1 G e hse
 refine cE G fir59 (by kernel_rfl) (eJ0 ..) fun hlo=>?_;rw[oN1]
 unfold sW1
 by_cases h1:s=[]
 ·rw[if_pos h1]
  simp(disch:=first|omega|(apply id;simp only[push_cast];try omega))only[push_cast,simprocAttr,h1,beq_self_eq_true]
  rw[bO0]
  simp(disch:=first|omega|(apply id;simp only[push_cast];try omega))only[push_cast,simprocAttr]
  refine dK (hg) ?_
  cases hv:qT0 e with
  | true=>
   simp(disch:=first|omega|(apply id;simp only[push_cast];try omega))only[push_cast,simprocAttr]
   rw[uG0]
   simp(disch:=first|omega|(apply id;simp only[push_cast];try omega))only[push_cast,simprocAttr]
   exact .id rfl
  | false=>
   simp(disch:=first|omega|(apply id;simp only[push_cast];try omega))only[push_cast,simprocAttr]
   rw[uG0]
   simp(disch:=first|omega|(apply id;simp only[push_cast];try omega))only[push_cast,simprocAttr]
   exact .id rfl
 ·have hb:(s == ([]:List UInt8))=false:=by simpa using h1
  rw[if_neg h1]
  simp(disch:=first|omega|(apply id;simp only[push_cast];try omega))only[push_cast,simprocAttr,hb]
  rw[bO0]
  simp(disch:=first|omega|(apply id;simp only[push_cast];try omega))only[push_cast,simprocAttr]
  refine dK (hg) ?_
  cases hv:qT0 e with
  | true=>
   simp(disch:=first|omega|(apply id;simp only[push_cast];try omega))only[push_cast,simprocAttr]
   rw[uG0]
   simp(disch:=first|omega|(apply id;simp only[push_cast];try omega))only[push_cast,simprocAttr]
   exact .id rfl
  | false=>
   simp(disch:=first|omega|(apply id;simp only[push_cast];try omega))only[push_cast,simprocAttr]
   rw[uG0]
   simp(disch:=first|omega|(apply id;simp only[push_cast];try omega))only[push_cast,simprocAttr]
   exact .id rfl
def shC:List Value:=match LL with|[(_,l)]=>l|_=>[]
def shA (k:Int):Int:=if k=1 then 2 else if k=2 then 1 else if k=3∨k=4∨k=5∨k=6 then 3 else if k=13 then 4 else if k=14 then 5 else 0
def shB (k:Int):Int:=if k=6 then 3 else if k=14 then 2 else 0
def shN (k:Int):Int:=if k=1∨k=14 then 1 else 0
def shE (k:Int):Int:=if k=2∨k=9 then 1 else 0
def shL (k:Int):Int:=if k=3∨k=7 then 1 else if k=9∨k=10∨k=11∨k=12 then 2 else 0
theorem uX2:∀ k:Nat,k<15→(shC.drop (k*5)).take 5=[.int .i64 (shA k),.int .i64 (shB k),.int .i64 (shN k),.int .i64 (shE k),.int .i64 (shL k)]
 | 0,_=>by kernel_rfl
 | 1,_=>by kernel_rfl
 | 2,_=>by kernel_rfl
 | 3,_=>by kernel_rfl
 | 4,_=>by kernel_rfl
 | 5,_=>by kernel_rfl
 | 6,_=>by kernel_rfl
 | 7,_=>by kernel_rfl
 | 8,_=>by kernel_rfl
 | 9,_=>by kernel_rfl
 | 10,_=>by kernel_rfl
 | 11,_=>by kernel_rfl
 | 12,_=>by kernel_rfl
 | 13,_=>by kernel_rfl
 | 14,_=>by kernel_rfl
 | n+15,h=>by omega
theorem cJ1:∃ ty,cells H0 0=some (shC,ty,false):=⟨_,rfl⟩
theorem nS1:shC.length=75:=by kernel_rfl
mutual
def wW (v st p:Int) (pushed:Bool):Tm→Bool
 | .mk k a b s e l=>decide (0≤k∧k<15)&&(!(pushed&&decide (k=14))&&(sO0 v st p (shA k) a&&(sO0 v st p (shB k) b&&(decide ((if s=[] then (0:Int) else 1)=shN k∧(if qT0 e then (1:Int) else 0)=shE k∧(l.length:Int)=shL k)&&((decide (s=[]) || cV1 s)&&((!qT0 e || wP v e)&&uO v st p (pushed || decide (k=3)) l))))))
def uO (v st p:Int) (pushed:Bool):List Tm→Bool
 | []=>true
 | x :: l=>wW v st p pushed x&&uO v st p pushed l
end
theorem yX0 {v st p:Int} {q:Bool}:∀ {l:List Tm},uO v st p q l=true→∀ x∈l,wW v st p q x=true
 | [],_,x,hx=>by cases hx
 | y :: l,h,x,hx=>by
  simp only[uO,Bool.and_eq_true] at h
  rcases List.mem_cons.1 hx with rfl|hx
  ·exact h.1
  ·exact yX0 h.2 x hx
theorem lJ0 {v st p:Int} {q:Bool} (a b:List Tm):uO v st p q (a++b)=(uO v st p q a&&uO v st p q b):=by
 induction a with
 | nil=>simp[uO]
 | cons x a ih=>simp[uO,ih,Bool.and_assoc]
theorem fG0 {v st p:Int} {q:Bool} {l:List Tm} {i:Nat} {x:Tm} (h:l[i]?=some x):uO v st p q (l.take (i+1))=(uO v st p q (l.take i)&&wW v st p q x):=by
 rw[qL h,lJ0];simp[uO]
theorem sH0 {v st p:Int} {q:Bool} {l:List Tm} {x:Tm} (h:x∈l) (hx:wW v st p q x=false):uO v st p q l=false:=by
 cases hc:uO v st p q l with
 | false=>rfl
 | true=>rw[yX0 hc x h] at hx;cases hx
inductive I32 (v st p:Int) (q:Bool) (k a b:Int) (s:List UInt8) (e:Ex) (l:List Tm):Nat→S→Prop
 | mk (i:Nat) (iv:Int) (h:jA) {x0 x1 x5 x6 x7 x8 x9 xA xB xC xD xE xF xG xH xI xJ xK xL xM xN xO xP xQ xR xS xT xU xV xW xX xY xZ yA yB yC yD yE yF yG yH yI yJ yK yL yM yN yO yP yQ yR yS yT yU yV yW yX yY yZ zA zB zC zD zE zF zG zH zI zJ zK zL zM zN zO zS zT zU zV zW zX zY zZ wA wB wC wD wE wF:Value} (hiv:iv=(i:Int)) (hi:i≤l.length) (hok:uO v st p (q || decide (k=3)) (l.take i)=true) (c0:cells h 1=some ([.int .i64 v,.int .i64 st,.int .i64 p],95,false)) (c1:cells h 2=some (tmC (.mk k a b s e l),28,false)) (hl1:h.lo=1) (hl2:3≤h.next) :
  I32 v st p q k a b s e l (l.length-i) ⟨(F94 x0 x1 (.bool q) (.pointer (some ⟨1,0,none⟩)) (.pointer (some ⟨2,0,none⟩)) x5 x6 x7 x8 x9 xA xB xC xD xE xF xG xH xI xJ xK xL xM xN xO xP xQ xR xS xT xU xV xW xX xY xZ yA yB yC yD yE yF yG yH yI yJ yK yL yM yN yO yP yQ yR yS yT yU yV yW yX yY yZ zA zB zC zD zE zF zG zH zI zJ zK zL zM zN zO (Rw false etm l.length (jZ l)) (.int .i64 l.length) (.int .i64 iv) zS zT zU zV zW zX zY zZ wA wB wC wD wE wF),[],h⟩
theorem cY0 (v st p:Int) (q:Bool) (k a b:Int) (s:List UInt8) (e:Ex) (l:List Tm) (hll:l.length<100000000000)
  (ih:∀ x∈l,∀ q,jI (pp G) H0 43 [.agg ⟨[.int .i64 v,.int .i64 st,.int .i64 p]⟩,tmV x,.bool q] (.bool (wW v st p q x))) (h:jA)
  (c0:cells h 1=some ([.int .i64 v,.int .i64 st,.int .i64 p],95,false)) (c1:cells h 2=some (tmC (.mk k a b s e l),28,false)) (hl1:h.lo=1) (hl2:3≤h.next) {c:Bool} (hc:c=uO v st p (q || decide (k=3)) l) {x0 x1 x5 x6 x7 x8 x9 xA xB xC xD xE xF xG xH xI xJ xK xL xM xN xO xP xQ xR xS xT xU xV xW xX xY xZ yA yB yC yD yE yF yG yH yI yJ yK yL yM yN yO yP yQ yR yS yT yU yV yW yX yY yZ zA zB zC zD zE zF zG zH zI zJ zK zL zM zN zO zS zT zU zV zW zX zY zZ wA wB wC wD wE wF:Value} :
  WD (pp G) qq.H none (.loop lX0) ⟨(F94 x0 x1 (.bool q) (.pointer (some ⟨1,0,none⟩)) (.pointer (some ⟨2,0,none⟩)) x5 x6 x7 x8 x9 xA xB xC xD xE xF xG xH xI xJ xK xL xM xN xO xP xQ xR xS xT xU xV xW xX xY xZ yA yB yC yD yE yF yG yH yI yJ yK yL yM yN yO yP yQ yR yS yT yU yV yW yX yY yZ zA zB zC zD zE zF zG zH zI zJ zK zL zM zN zO (Rw false etm l.length (jZ l)) (.int .i64 l.length) (.int .i64 0) zS zT zU zV zW zX zY zZ wA wB wC wD wE wF),[],h⟩
   (@kR ⟨jU 1 (jQ (fun s1=>dc3 (pp G) qq none lW0 s1 (@kR ⟨jH Tryd.prog [.tmp 6] (fun v' σ'=>FzV Tryd.prog 1 σ' v' (.bool c))⟩)) (jH Tryd.prog [.tmp 6] (fun v' σ'=>FzV Tryd.prog 1 σ' v' (.bool c))))⟩):=by
 refine WD.loop4 (q:=qq) (jX G) (by kernel_rfl) (I32 v st p q k a b s e l) ?_ _ _ (I32.mk 0 0 h rfl (Nat.zero_le _) rfl c0 c1 hl1 hl2)
 clear c0 c1 hl1 hl2
 intro m s1 hI
 cases hI with|mk i iv h hiv hi hok c0 c1 hl1 hl2=>
 subst hiv
 rw[rJ0]
 rw[qQ] at c1
 by_cases hil:(i:Int)<l.length
 ·obtain ⟨x,hx⟩:=qJ (l:=l) (i:=i) (by omega)
  have hxm:=List.mem_of_getElem? hx
  have hp:=qV hx
  have hle:i*9+9≤l.length*9:=by omega
  have hq:∀ {b:Bool},(q || decide (k=3))=b→jI (pp G) H0 43 [.agg ⟨[.int .i64 v,.int .i64 st,.int .i64 p]⟩,tmV x,.bool b] (.bool (wW v st p b x)):=fun _=>ih x hxm _
  have done1:∀ (b:Bool),(q || decide (k=3))=b→wW v st p b x=true→uO v st p (q || decide (k=3)) (l.take (i+1))=true:=fun b hb hr=>by rw[fG0 hx,hok,hb,hr];rfl
  have done0:∀ (b:Bool),(q || decide (k=3))=b→wW v st p b x=false→c=false:=fun b hb hr=>by rw[hc];exact sH0 hxm (by rw[hb];exact hr)
  cases q with
  | true=>
   simp(disch:=first|omega|(apply id;simp only[push_cast];try omega))only[push_cast,simprocAttr,hil,Int.toNat_natCast,hp,hle,hl1,c0,c1]
   refine dK (hq (Bool.true_or _)) ?_
   cases hr:wW v st p true x with
   | true=>
    simp(disch:=first|omega|(apply id;simp only[push_cast];try omega))only[push_cast,simprocAttr]
    exact ⟨_,by omega,I32.mk (i+1) _ _ (by first|rfl|omega) (by omega) (done1 true (Bool.true_or _) hr) (by first|assumption|(simp(disch:=first|omega|(apply id;simp only[push_cast];try omega))only[push_cast,simprocAttr,c0];try omega)) (by first|assumption|(simp(disch:=first|omega|(apply id;simp only[push_cast];try omega))only[push_cast,simprocAttr,c1];try omega)) (by first|assumption|(simp(disch:=first|omega|(apply id;simp only[push_cast];try omega))only[push_cast,simprocAttr,hl1];try omega)) tH⟩
   | false=>
    obtain rfl:=done0 true (Bool.true_or _) hr
    simp(disch:=first|omega|(apply id;simp only[push_cast];try omega))only[push_cast,simprocAttr]
    exact .id rfl
  | false=>
   simp(disch:=first|omega|(apply id;simp only[push_cast];try omega))only[push_cast,simprocAttr,hil,Int.toNat_natCast,hp,hle,hl1,c0,c1]
   refine dK (hq (Bool.false_or _)) ?_
   cases hr:wW v st p (decide (k=3)) x with
   | true=>
    simp(disch:=first|omega|(apply id;simp only[push_cast];try omega))only[push_cast,simprocAttr]
    exact ⟨_,by omega,I32.mk (i+1) _ _ (by first|rfl|omega) (by omega) (done1 _ (Bool.false_or _) hr) (by first|assumption|(simp(disch:=first|omega|(apply id;simp only[push_cast];try omega))only[push_cast,simprocAttr,c0];try omega)) (by first|assumption|(simp(disch:=first|omega|(apply id;simp only[push_cast];try omega))only[push_cast,simprocAttr,c1];try omega)) (by first|assumption|(simp(disch:=first|omega|(apply id;simp only[push_cast];try omega))only[push_cast,simprocAttr,hl1];try omega)) tH⟩
   | false=>
    obtain rfl:=done0 _ (Bool.false_or _) hr
    simp(disch:=first|omega|(apply id;simp only[push_cast];try omega))only[push_cast,simprocAttr]
    exact .id rfl
 ·have hie:i=l.length:=by omega
  subst hie
  rw[List.take_length] at hok
  rw[hok] at hc
  subst hc
  simp(disch:=first|omega|(apply id;simp only[push_cast];try omega))only[push_cast,simprocAttr,hil]
  rw[rI0]
  simp(disch:=first|omega|(apply id;simp only[push_cast];try omega))only[push_cast,simprocAttr]
  exact .id rfl
theorem rt_f (v st p:Int):∀ (x:Tm) (q:Bool),smT x=true→jI (pp G) H0 43 [.agg ⟨[.int .i64 v,.int .i64 st,.int .i64 p]⟩,tmV x,.bool q] (.bool (wW v st p q x))
 | .mk k a b s e l,q,hs=>by
  have hs0:=hs
  simp only[smT,Bool.and_eq_true,decide_eq_true_eq] at hs
  obtain ⟨⟨hll,hse⟩,hsl⟩:=hs
  have ih:∀ x∈l,∀ q,jI (pp G) H0 43 [.agg ⟨[.int .i64 v,.int .i64 st,.int .i64 p]⟩,tmV x,.bool q] (.bool (wW v st p q x)):=fun x hx q=>rt_f v st p x q (qA hsl x hx)
  have hheld:=kA2 G k a b s e l hse
  have hgiven:=kO1 G e hse
  obtain ⟨ty,c0⟩:=cJ1
  refine cE G fir43 (by kernel_rfl) (jX2 ..) fun hlo=>?_;rw[pC1]
  rw[wW]
  by_cases h1:0≤k∧k<15
  rotate_left
  ·rw[decide_eq_false h1,Bool.false_and]
   by_cases g1:k<0
   ·simp(disch:=first|omega|(apply id;simp only[push_cast];try omega))only[push_cast,simprocAttr,g1]
    exact .id rfl
   ·have g2:15≤k:=by omega
    simp(disch:=first|omega|(apply id;simp only[push_cast];try omega))only[push_cast,simprocAttr,g1,g2]
    exact .id rfl
  rw[decide_eq_true h1,Bool.true_and]
  have g1:¬ k<0:=by omega
  have g2:¬ 15≤k:=by omega
  by_cases h2:(q&&decide (k=14))=true
  ·rw[h2,Bool.not_true,Bool.false_and]
   rw[Bool.and_eq_true,decide_eq_true_eq] at h2
   obtain ⟨rfl,rfl⟩:=h2
   simp(disch:=first|omega|(apply id;simp only[push_cast];try omega))only[push_cast,simprocAttr]
   exact .id rfl
  have h2:(q&&decide (k=14))=false:=by simpa using h2
  rw[h2,Bool.not_false,Bool.true_and]
  obtain ⟨kn,rfl⟩:∃ kn:Nat,k=(kn:Int):=⟨k.toNat,by omega⟩
  have hsg:=uX2 kn (by omega)
  have hk15:(kn:Int)<15:=h1.2
  have hle:kn*5+5≤75:=by omega
  have hld:ldC (some (true,5)) (kn*5) 1 0 (some (shC,ty,false))=some (.agg ⟨[.int .i64 (shA (kn:Int)),.int .i64 (shB (kn:Int)),.int .i64 (shN (kn:Int)),.int .i64 (shE (kn:Int)),.int .i64 (shL (kn:Int))]⟩):=by
   refine dD1 true 5 _ _ _ _ _ _ _ ?_ rfl
   simp only[uW]
   rw[if_pos (by rw[nS1];omega),hsg]
  cases q
  case' true=>
   have h14:¬ (kn:Int)=14:=by simpa using h2
   simp(disch:=first|omega|(apply id;simp only[push_cast];try omega))only[push_cast,simprocAttr,g1,g2,h14,c0,hld,hk15,Int.toNat_natCast]
  case' false=>
   simp(disch:=first|omega|(apply id;simp only[push_cast];try omega))only[push_cast,simprocAttr,g1,g2,c0,hld,hk15,Int.toNat_natCast]
  all_goals
   refine dK (mB1 G v st p (shA kn) a) ?_
   cases hf1:sO0 v st p (shA kn) a with
   | false=>
    simp(disch:=first|omega|(apply id;simp only[push_cast];try omega))only[push_cast,simprocAttr]
    exact .id rfl
   | true=>
    simp(disch:=first|omega|(apply id;simp only[push_cast];try omega))only[push_cast,simprocAttr]
    refine dK (mB1 G v st p (shB kn) b) ?_
    cases hf2:sO0 v st p (shB kn) b with
    | false=>
     simp(disch:=first|omega|(apply id;simp only[push_cast];try omega))only[push_cast,simprocAttr]
     exact .id rfl
    | true=>
     simp(disch:=first|omega|(apply id;simp only[push_cast];try omega))only[push_cast,simprocAttr]
     refine dK (hheld) ?_
     unfold sW1
     by_cases hh:(if s=[] then (0:Int) else 1)=shN kn∧(if qT0 e then (1:Int) else 0)=shE kn∧(l.length:Int)=shL kn
     rotate_left
     ·rw[decide_eq_false hh]
      simp(disch:=first|omega|(apply id;simp only[push_cast];try omega))only[push_cast,simprocAttr,mM1,hh,decide_false,Bool.not_false]
      exact .id rfl
     rw[decide_eq_true hh]
     simp(disch:=first|omega|(apply id;simp only[push_cast];try omega))only[push_cast,simprocAttr,mM1,hh,decide_true,Bool.not_true]
     by_cases hs:s=[]
     ·have hb:(s == ([]:List UInt8))=true:=by simpa using hs
      rw[show decide (s=[])=true from decide_eq_true hs,Bool.true_or,Bool.true_and,Bool.true_and,Bool.true_and]
      simp(disch:=first|omega|(apply id;simp only[push_cast];try omega))only[push_cast,simprocAttr,hb,Bool.not_true]
      refine dK (hgiven) ?_
      cases hg:qT0 e with
      | false=>
       skip
       simp(disch:=first|omega|(apply id;simp only[push_cast];try omega))only[push_cast,simprocAttr]
       exact cY0 G v st p _ kn a b s e l hll ih _ (by simp(disch:=first|omega|(apply id;simp only[push_cast];try omega))only[push_cast,simprocAttr]) (by simp(disch:=first|omega|(apply id;simp only[push_cast];try omega))only[push_cast,simprocAttr];try rfl) (by simp(disch:=first|omega|(apply id;simp only[push_cast];try omega))only[push_cast,simprocAttr]) (by first|(simp(disch:=first|omega|(apply id;simp only[push_cast];try omega))only[push_cast,simprocAttr];done)|(simp(disch:=first|omega|(apply id;simp only[push_cast];try omega))only[push_cast,simprocAttr];omega)) (by rfl)
      | true=>
       skip
       simp(disch:=first|omega|(apply id;simp only[push_cast];try omega))only[push_cast,simprocAttr]
       refine dK (yW0 G v e hse) ?_
       cases hr:wP v e with
       | false=>
        simp(disch:=first|omega|(apply id;simp only[push_cast];try omega))only[push_cast,simprocAttr]
        exact .id rfl
       | true=>
        simp(disch:=first|omega|(apply id;simp only[push_cast];try omega))only[push_cast,simprocAttr]
        exact cY0 G v st p _ kn a b s e l hll ih _ (by simp(disch:=first|omega|(apply id;simp only[push_cast];try omega))only[push_cast,simprocAttr]) (by simp(disch:=first|omega|(apply id;simp only[push_cast];try omega))only[push_cast,simprocAttr];try rfl) (by simp(disch:=first|omega|(apply id;simp only[push_cast];try omega))only[push_cast,simprocAttr]) (by first|(simp(disch:=first|omega|(apply id;simp only[push_cast];try omega))only[push_cast,simprocAttr];done)|(simp(disch:=first|omega|(apply id;simp only[push_cast];try omega))only[push_cast,simprocAttr];omega)) (by rfl)
     ·have hb:(s == ([]:List UInt8))=false:=by simpa using hs
      rw[show decide (s=[])=false from decide_eq_false hs,Bool.false_or]
      simp(disch:=first|omega|(apply id;simp only[push_cast];try omega))only[push_cast,simprocAttr,hb,Bool.not_false]
      refine dK (wO1 G s) ?_
      cases hnm:cV1 s with
      | false=>
       simp(disch:=first|omega|(apply id;simp only[push_cast];try omega))only[push_cast,simprocAttr,hb,Bool.not_false,Bool.not_true]
       exact .id rfl
      | true=>
       simp(disch:=first|omega|(apply id;simp only[push_cast];try omega))only[push_cast,simprocAttr,hb,Bool.not_false,Bool.not_true]
       refine dK (hgiven) ?_
       cases hg:qT0 e with
       | false=>
        skip
        simp(disch:=first|omega|(apply id;simp only[push_cast];try omega))only[push_cast,simprocAttr]
        exact cY0 G v st p _ kn a b s e l hll ih _ (by simp(disch:=first|omega|(apply id;simp only[push_cast];try omega))only[push_cast,simprocAttr]) (by simp(disch:=first|omega|(apply id;simp only[push_cast];try omega))only[push_cast,simprocAttr];try rfl) (by simp(disch:=first|omega|(apply id;simp only[push_cast];try omega))only[push_cast,simprocAttr]) (by first|(simp(disch:=first|omega|(apply id;simp only[push_cast];try omega))only[push_cast,simprocAttr];done)|(simp(disch:=first|omega|(apply id;simp only[push_cast];try omega))only[push_cast,simprocAttr];omega)) (by rfl)
       | true=>
        skip
        simp(disch:=first|omega|(apply id;simp only[push_cast];try omega))only[push_cast,simprocAttr]
        refine dK (yW0 G v e hse) ?_
        cases hr:wP v e with
        | false=>
         simp(disch:=first|omega|(apply id;simp only[push_cast];try omega))only[push_cast,simprocAttr]
         exact .id rfl
        | true=>
         simp(disch:=first|omega|(apply id;simp only[push_cast];try omega))only[push_cast,simprocAttr]
         exact cY0 G v st p _ kn a b s e l hll ih _ (by simp(disch:=first|omega|(apply id;simp only[push_cast];try omega))only[push_cast,simprocAttr]) (by simp(disch:=first|omega|(apply id;simp only[push_cast];try omega))only[push_cast,simprocAttr];try rfl) (by simp(disch:=first|omega|(apply id;simp only[push_cast];try omega))only[push_cast,simprocAttr]) (by first|(simp(disch:=first|omega|(apply id;simp only[push_cast];try omega))only[push_cast,simprocAttr];done)|(simp(disch:=first|omega|(apply id;simp only[push_cast];try omega))only[push_cast,simprocAttr];omega)) (by rfl)
 termination_by x=>SizeOf.sizeOf x
end
end Go.Proofs.YtdcjpmjmjinjmaaDoor
namespace Go.Proofs.YtdcjpmjmjinjmaaDoor
open Go Go.RowKit Go.Ev Go.Dv
noncomputable section
set_option maxRecDepth 100000
theorem zE_given:qT0 (.mk 0 0 [] [])=false:=rfl
end
end Go.Proofs.YtdcjpmjmjinjmaaDoor
