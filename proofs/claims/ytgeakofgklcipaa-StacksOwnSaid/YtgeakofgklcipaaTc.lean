/-
  A part of the proof: what the program's functions hand back,as theorems. No condition but those that each theorem names.
-/
import Derived.Test.YtgeakofgklcipaaTb
import Derived.Test.YtgeakofgklcipaaExc
import Derived.Test.YtgeakofgklcipaaEve
set_option linter.unusedSimpArgs false
set_option linter.unusedVariables false
namespace Go.Proofs.Ytgeakofgklcipaa
open Go Go.RowKit Go.Ev Go.Dv
noncomputable section
set_option maxRecDepth 100000
variable (G:Nat×Nat)
theorem zF2 (s:List UInt8) (σ:jA):bsD (qq.m 70) (slT Try.prog 70) 1 [(0,.string (Tx s))] σ=some (Rw true eS 1 (nss [s]),σ):=by kernel_rfl
theorem qO1 {l:List (List UInt8×Int)} {i:Nat} {x:List UInt8×Int} (h:l[i]?=some x):(vrs l)[i*2]?=some (.string (Tx x.1))∧(vrs l)[i*2+1]?=some (.int .i64 x.2):=by
 induction l generalizing i with
 | nil=>cases h
 | cons y l ih=>
  cases i with
  | zero=>cases h;exact ⟨rfl,rfl⟩
  | succ i=>
   have:=ih (i:=i) h
   rw[show (i+1)*2=i*2+1+1 by omega]
   exact this
theorem eV0 {l:List (List UInt8×Pr)} {i:Nat} {x:List UInt8×Pr} (h:l[i]?=some x):(dfs l)[i*9]?=some (.string (Tx x.1))∧((dfs l).drop (i*9+1)).take 8=prC x.2:=by
 induction l generalizing i with
 | nil=>cases h
 | cons y l ih=>
  have e:dfs (y :: l)=(Value.string (Tx y.1) :: prC y.2)++dfs l:=rfl
  have hy:(Value.string (Tx y.1) :: prC y.2).length=9:=by simp[gD]
  cases i with
  | zero=>
   cases h
   refine ⟨rfl,?_⟩
   show ((prC x.2)++dfs l).take 8=_
   rw[List.take_left' (gD _)]
  | succ i=>
   have:=ih (i:=i) h
   rw[e,show (i+1)*9=9+i*9 by omega,List.getElem?_append_right (by omega),List.drop_append,List.drop_of_length_le (by omega),List.nil_append,hy]
   rw[show 9+i*9-9=i*9 by omega,show 9+i*9+1-9=i*9+1 by omega]
   exact this
inductive I83 (p:Pg):Nat→S→Prop
 | mk (i : Nat) (iv : Int) (h : jA) (q : Option Addr) (c : Nat) {x0 x2 x3 x7 x8 x9 xA xB xC xD xE xF xG xH xI xJ xK xL xM xN xO xP xQ xR xS xT xU xV xW xX xY xZ yA yB yC yD yE yF : Value} (hiv : iv = (i : Int)) (hi : i ≤ p.v.length)
   (c0:cells h 1=some (pgC p,73,false)) (ho:qC h eS 1 q i c (nss ((p.v.map Prod.fst).take i))) (hq:∀ b,blk q b→2≤b) (hl1:h.lo=1) (hl2:2≤h.next) :
  I83 p (p.v.length-i) ⟨(F42 x0 (.pointer (some ⟨1,0,none⟩)) x2 x3 (.slice q i c) (.slice none 0 0) (.int .i64 iv) x7 x8 x9 xA xB xC xD xE xF xG xH xI xJ xK xL xM xN xO xP xQ xR xS xT xU xV xW xX xY xZ yA yB yC yD yE yF),[],h⟩
inductive I83b (p:Pg) (q:Option Addr) (c:Nat):Nat→S→Prop
 | mk (i : Nat) (iv : Int) (h : jA) (q2 : Option Addr) (c2 : Nat) {x0 x2 x3 x6 x8 x9 xA xB xC xD xE xF xG xH xI xJ xK xL xM xN xO xP xQ xR xS xT xU xV xW xX xY xZ yA yB yC yD yE yF : Value} (hiv : iv = (i : Int)) (hi : i ≤ p.d.length)
   (c0:cells h 1=some (pgC p,73,false)) (ho:qC h eS 1 q p.v.length c (nss (p.v.map Prod.fst))) (hq:∀ b,blk q b→2≤b) (ho2:qC h eS 1 q2 i c2 (nss ((p.d.map Prod.fst).take i))) (hq2:∀ b,blk q2 b→2≤b∧¬ blk q b) (hl1:h.lo=1) (hl2:2≤h.next) :
  I83b p q c (p.d.length-i) ⟨(F42 x0 (.pointer (some ⟨1,0,none⟩)) x2 x3 (.slice q p.v.length c) (.slice q2 i c2) x6 (.int .i64 iv) x8 x9 xA xB xC xD xE xF xG xH xI xJ xK xL xM xN xO xP xQ xR xS xT xU xV xW xX xY xZ yA yB yC yD yE yF),[],h⟩
theorem zH1 (p:Pg) (hv:p.v.length≤20) (hd:p.d.length≤20):jG (pp G) H0 83 [pgV p] (.tuple ⟨[nsV (p.v.map Prod.fst),nsV (p.d.map Prod.fst)]⟩):=by
 have hlo:H0.lo≤H0.next:=Nat.le_refl _;refine jG.cut (jD.fir4 (q:=qq) (jJ G) fir83 (by kernel_rfl) rfl rfl (uO2 ..) (show NGG≤H0.lo by rw[jW];decide) ?_);rw[rD1]
 unfold pgV pgC
 simp(disch:=first|omega|(apply id;simp only[push_cast];try omega))only[push_cast,simprocAttr]
 refine WD.loop4 (q:=qq) (jJ G) (by kernel_rfl) (I83 p) ?_ _ _ (I83.mk 0 0 _ none 0 rfl (Nat.zero_le _) (by simp(disch:=first|omega|(apply id;simp only[push_cast];try omega))only[push_cast,simprocAttr];first|done|rfl) (qC.nil _ _ _) (fun b hb=>by obtain ⟨o,s,e⟩:=hb;cases e) rfl (by first|assumption|(simp(disch:=first|omega|(apply id;simp only[push_cast];try omega))only[push_cast,simprocAttr];try omega)))
 intro m s1 hI
 cases hI with|mk i iv h q c hiv hi c0 ho hq hl1 hl2=>
 subst hiv
 rw[rZ0]
 have c0':=c0
 unfold pgC at c0'
 have hvl:=cZ0 p.v
 by_cases hil:(i:Int)<p.v.length
 ·obtain ⟨x,hx⟩:=jM (l:=p.v) (i:=i) (by omega)
  have hg:=(qO1 hx).1
  have hle:i*2<p.v.length*2:=by omega
  simp(disch:=first|omega|(apply id;simp only[push_cast];try omega))only[push_cast,simprocAttr,hil,c0',hvl,hg,hle,Int.toNat_natCast,hl1,↓zF2]
  obtain ⟨a',c',σ',e,o',g',b'⟩:=gH (by_:=16) ho (by omega) (by omega) (m:=1) (xs:=nss [x.1]) rfl rfl (by omega)
  have hta:(p.v.map Prod.fst).take (i+1)=(p.v.map Prod.fst).take i++[x.1]:=jL (by rw[List.getElem?_map,hx];rfl)
  rw[← zE1,← hta] at o'
  have hn':=g'.next
  have hl':=g'.lo
  have k0:cells σ' 1=_:=g'.cellsE c0 (by omega) (fun hb=>by have:=hq _ hb;omega)
  simp(disch:=first|omega|(apply id;simp only[push_cast];try omega))only[push_cast,simprocAttr,e]
  refine ⟨_,by omega,I83.mk (i+1) _ _ a' c' (by first|rfl|omega) (by omega) k0 o' (fun b hb=>?_) (by omega) (by omega)⟩
  rcases b' b hb with hb|hb
  ·exact hq b hb
  ·omega
 ·have hie:i=p.v.length:=by omega
  subst hie
  rw[List.take_of_length_le (by rw[List.length_map];exact Nat.le_refl _)] at ho
  simp(disch:=first|omega|(apply id;simp only[push_cast];try omega))only[push_cast,simprocAttr,hil,c0',hvl]
  rw[rY0]
  simp(disch:=first|omega|(apply id;simp only[push_cast];try omega))only[push_cast,simprocAttr]
  refine WD.loop4 (q:=qq) (jJ G) (by kernel_rfl) (I83b p q c) ?_ _ _ (I83b.mk 0 0 _ none 0 rfl (Nat.zero_le _) c0 ho hq (qC.nil _ _ _) (fun b hb=>by obtain ⟨o,s,e⟩:=hb;cases e) hl1 hl2)
  clear c0 c0' ho hl1 hl2
  intro m s2 hI
  cases hI with|mk i iv h q2 c2 hiv hi c0 ho hq ho2 hq2 hl1 hl2=>
  subst hiv
  rw[rX0]
  have c0':=c0
  unfold pgC at c0'
  have hdl:=eU0 p.d
  by_cases hil:(i:Int)<p.d.length
  ·obtain ⟨x,hx⟩:=jM (l:=p.d) (i:=i) (by omega)
   have hg:=(eV0 hx).1
   have hle:i*9<p.d.length*9:=by omega
   simp(disch:=first|omega|(apply id;simp only[push_cast];try omega))only[push_cast,simprocAttr,hil,c0',hdl,hg,hle,Int.toNat_natCast,hl1,↓zF2]
   obtain ⟨a',c',σ',e,o',g',b'⟩:=gH (by_:=16) ho2 (by omega) (by omega) (m:=1) (xs:=nss [x.1]) rfl rfl (by omega)
   have hta:(p.d.map Prod.fst).take (i+1)=(p.d.map Prod.fst).take i++[x.1]:=jL (by rw[List.getElem?_map,hx];rfl)
   rw[← zE1,← hta] at o'
   have hn':=g'.next
   have hl':=g'.lo
   have k0:cells σ' 1=_:=g'.cellsE c0 (by omega) (fun hb=>by have:=(hq2 _ hb).1;omega)
   simp(disch:=first|omega|(apply id;simp only[push_cast];try omega))only[push_cast,simprocAttr,e]
   refine ⟨_,by omega,I83b.mk (i+1) _ _ a' c' (by first|rfl|omega) (by omega) k0 (ho.grew g' fun b hb h2=>(hq2 b h2).2 hb) hq o' (fun b hb=>?_) (by omega) (by omega)⟩
   rcases b' b hb with hb|hb
   ·exact hq2 b hb
   ·exact ⟨by omega,fun h1=>by have:=qC.lt ho h1;omega⟩
  ·have hie:i=p.d.length:=by omega
   subst hie
   rw[List.take_of_length_le (by rw[List.length_map];exact Nat.le_refl _)] at ho2
   simp(disch:=first|omega|(apply id;simp only[push_cast];try omega))only[push_cast,simprocAttr,hil,c0',hdl]
   rw[rW0]
   simp(disch:=first|omega|(apply id;simp only[push_cast];try omega))only[push_cast,simprocAttr]
   unfold nsV
   rw[List.length_map,List.length_map]
   exact .tup (.cons (qC.fz (P:=(pp G).P) ho (by rfl) (by decide) (by omega) (.ids (wS0 _ _)) (fun b hb=>by have:=hq b hb;omega)) (.cons (qC.fz (P:=(pp G).P) ho2 (by rfl) (by decide) (by omega) (.ids (wS0 _ _)) (fun b hb=>by have:=(hq2 b hb).1;omega)) .nil))
def iJ0:List (List UInt8)→List UInt8→Nat→Int
 | [],_,_=>-1
 | x :: l,s,i=>if x=s then (i:Int) else iJ0 l s (i+1)
def qH (l:List (List UInt8)) (s:List UInt8):Int:=iJ0 l s 0
theorem iI0:∀ (l:List (List UInt8)) (s:List UInt8) (i:Nat),s∈l→0≤iJ0 l s i
 | [],s,i,h=>by cases h
 | x :: l,s,i,h=>by
  rw[iJ0]
  by_cases e:x=s
  ·rw[if_pos e];omega
  ·rw[if_neg e]
   rcases List.mem_cons.1 h with h|h
   ·exact absurd h.symm e
   ·exact iI0 l s _ h
theorem gO1 {l:List (List UInt8)} {s:List UInt8} (h:s∈l):0≤qH l s:=iI0 l s 0 h
theorem cR0 {l:List (List UInt8)} {s:List UInt8} {i:Nat} (h:i<l.length):iJ0 (l.drop i) s i=if l.getD i []=s then (i:Int) else iJ0 (l.drop (i+1)) s (i+1):=by
 rw[List.drop_eq_getElem_cons h,iJ0,List.getD_eq_getElem?_getD,List.getElem?_eq_getElem h]
 rfl
inductive I85 (l:List (List UInt8)) (s:List UInt8):Nat→S→Prop
 | mk (i:Nat) (iv:Int) (h:jA) {x2 x3 x4 x6 x7 x8 x9 xA xB xC xD xE xF xG xH xI:Value} (hiv:iv=(i:Int)) (hi:i≤l.length) (hn:iJ0 (l.drop i) s i=qH l s) (hl1:h.lo=1) (hl2:1≤h.next) :
  I85 l s (l.length-i) ⟨(F19 (nsV l) (.string (Tx s)) x2 x3 x4 (.int .i64 iv) x6 x7 x8 x9 xA xB xC xD xE xF xG xH xI),[],h⟩
theorem gG0 (l:List (List UInt8)) (s:List UInt8) (hll:l.length<1000000000000000):qL (pp G) H0 85 [nsV l,.string (Tx s)] (fun d=>∃ k:Int,d=.int .i64 k∧(-1≤k∧k<l.length)∧((s∈l→0≤k)∧k=qH l s)):=by
 have hlo:H0.lo≤H0.next:=Nat.le_refl _;refine qL.cut (jD.fir4 (q:=qq) (jJ G) fir85 (by kernel_rfl) rfl rfl (cR1 ..) (show NGG≤H0.lo by rw[jW];decide) ?_);rw[rB1]
 simp(disch:=first|omega|(apply id;simp only[push_cast];try omega))only[push_cast,simprocAttr]
 refine WD.loop4 (q:=qq) (jJ G) (by kernel_rfl) (I85 l s) ?_ _ _ (I85.mk 0 0 _ rfl (Nat.zero_le _) rfl rfl (by first|assumption|(simp(disch:=first|omega|(apply id;simp only[push_cast];try omega))only[push_cast,simprocAttr];try omega)))
 intro m s1 hI
 cases hI with|mk i iv h hiv hi hn hl1 hl2=>
 subst hiv
 rw[rT0]
 unfold nsV
 by_cases hil:(i:Int)<l.length
 ·have hg:=jU0 (l:=l) (i:=i) (by omega)
  by_cases he:l.getD i []=s
  ·have hbq:(l.getD i [] == s)=true:=by rw[he];exact beq_self_eq_true s
   simp(disch:=first|omega|(apply id;simp only[push_cast];try omega))only[push_cast,simprocAttr,hil,hg,hbq,Int.toNat_natCast,hl1]
   rw[cR0 (by omega),if_pos he] at hn
   exact ⟨_,⟨_,rfl,by omega,fun _=>by omega,hn⟩,.id rfl⟩
  ·have hbq:(l.getD i [] == s)=false:=beq_eq_false_iff_ne.2 he
   simp(disch:=first|omega|(apply id;simp only[push_cast];try omega))only[push_cast,simprocAttr,hil,hg,hbq,Int.toNat_natCast,hl1]
   exact ⟨_,by omega,I85.mk (i+1) _ _ (by first|rfl|omega) (by omega) (by rw[cR0 (by omega),if_neg he] at hn;exact hn) (by first|assumption|(simp(disch:=first|omega|(apply id;simp only[push_cast];try omega))only[push_cast,simprocAttr,hl1];try omega)) (by first|assumption|(simp(disch:=first|omega|(apply id;simp only[push_cast];try omega))only[push_cast,simprocAttr];try omega))⟩
 ·simp(disch:=first|omega|(apply id;simp only[push_cast];try omega))only[push_cast,simprocAttr,hil]
  rw[rS0]
  simp(disch:=first|omega|(apply id;simp only[push_cast];try omega))only[push_cast,simprocAttr]
  rw[List.drop_of_length_le (by omega)] at hn
  exact ⟨_,⟨-1,rfl,by omega,fun hm=>(by rw[show (-1:Int)=qH l s from hn];exact gO1 hm),hn⟩,.id rfl⟩
def twB (l:List (List UInt8)):Bool:=(List.range l.length).any fun i=>decide (qH l (l.getD i [])≠(i:Int))
inductive I84 (l:List (List UInt8)):Nat→S→Prop
 | mk (i:Nat) (iv:Int) (h:jA) {x1 x2 x4 x5 x6 x7 x8 x9 xA xB xC xD xE xF xG xH:Value} (hiv:iv=(i:Int)) (hi:i≤l.length) (hT:∀ j,j<i→qH l (l.getD j [])=j) (hl1:h.lo=1) (hl2:1≤h.next) :
  I84 l (l.length-i) ⟨(F18 (nsV l) x1 x2 (.int .i64 iv) x4 x5 x6 x7 x8 x9 xA xB xC xD xE xF xG xH),[],h⟩
theorem lJ0 (l:List (List UInt8)) (hll:l.length<1000000000000000):qL (pp G) H0 84 [nsV l] (fun d=>∃ b:Bool,d=.bool b∧b=twB l):=by
 have hlo:H0.lo≤H0.next:=Nat.le_refl _;refine qL.cut (jD.fir4 (q:=qq) (jJ G) fir84 (by kernel_rfl) rfl rfl (cS1 ..) (show NGG≤H0.lo by rw[jW];decide) ?_);rw[rC1]
 simp(disch:=first|omega|(apply id;simp only[push_cast];try omega))only[push_cast,simprocAttr]
 refine WD.loop4 (q:=qq) (jJ G) (by kernel_rfl) (I84 l) ?_ _ _ (I84.mk 0 0 _ rfl (Nat.zero_le _) (fun j h=>by omega) rfl (by first|assumption|(simp(disch:=first|omega|(apply id;simp only[push_cast];try omega))only[push_cast,simprocAttr];try omega)))
 intro m s1 hI
 cases hI with|mk i iv h hiv hi hT hl1 hl2=>
 subst hiv
 rw[rV0]
 have hns:nsV l=Rw false eS l.length (nss l):=rfl
 by_cases hil:(i:Int)<l.length
 ·have hg:=jU0 (l:=l) (i:=i) (by omega)
  simp(disch:=first|omega|(apply id;simp only[push_cast];try omega))only[push_cast,simprocAttr,hil,hg,Int.toNat_natCast,hl1,hns]
  rw[← hns]
  refine jB.dataEI (gG0 G l (l.getD i []) hll) (by and_intros<;>first|rfl|(simp(disch:=first|omega|(apply id;simp only[push_cast];try omega))only[push_cast])) ?_
  rintro _ ⟨k,rfl,_,_,hkf⟩
  refine ⟨rfl,?_⟩
  by_cases he:k=i
  ·simp(disch:=first|omega|(apply id;simp only[push_cast];try omega))only[push_cast,simprocAttr,he]
   exact ⟨_,by omega,I84.mk (i+1) _ _ (by first|rfl|omega) (by omega) (fun j h=>by rcases Nat.lt_succ_iff_lt_or_eq.1 h with h|rfl;exact hT _ h;omega) (by first|assumption|(simp(disch:=first|omega|(apply id;simp only[push_cast];try omega))only[push_cast,simprocAttr,hl1];try omega)) (by first|assumption|(simp(disch:=first|omega|(apply id;simp only[push_cast];try omega))only[push_cast,simprocAttr];try omega))⟩
  ·simp(disch:=first|omega|(apply id;simp only[push_cast];try omega))only[push_cast,simprocAttr,he]
   exact ⟨_,⟨_,rfl,by unfold twB;symm;rw[List.any_eq_true];exact ⟨i,List.mem_range.2 (by omega),decide_eq_true (by omega)⟩⟩,.id rfl⟩
 ·simp(disch:=first|omega|(apply id;simp only[push_cast];try omega))only[push_cast,simprocAttr,hil,hns]
  rw[rU0]
  simp(disch:=first|omega|(apply id;simp only[push_cast];try omega))only[push_cast,simprocAttr]
  exact ⟨_,⟨_,rfl,by unfold twB;symm;rw[List.any_eq_false];exact fun j hj=>by rw[hT j (by have:=List.mem_range.1 hj;omega)];simp⟩,.id rfl⟩
abbrev tLw:Nat:=124
def lwC (V Sk D:List (List UInt8)) (b:Bool):List Value:=[nsV V,nsV Sk,nsV D,.bool b]
theorem cL0 (n:Nat) (hn:0<n) (V Sk D:List (List UInt8)) (b:Bool):scL n (lwC V Sk D b)=true:=by simp[lwC,scL,fX0 n hn,Ev.sc]
def LwR (σ:jA) (b:Nat) (V Sk D:List (List UInt8)) (X:Bool) (Q:Value→Prop) (v:Value) (σ':jA):Prop:=Q v∧∃ bb,bb=X∧σ'=σ.put b (O (lwC V Sk D bb) tLw false)
theorem at_f (V Sk D l:List (List UInt8)) (s:List UInt8) (hll:l.length<1000000000000000) (σ:jA) (b:Nat) (bad:Bool) (hc:cells σ b=some (lwC V Sk D bad,tLw,false)) (hb1:1≤b) (hb:b<σ.next) :
  jD (pp G) H0 93 [.pointer (some ⟨b,0,none⟩),nsV l,.string (Tx s)] σ (LwR σ b V Sk D (bad || decide (qH l s<0)) fun v=>∃ k:Int,v=.int .i64 k∧k=qH l s):=by
 refine jD.wlog fun hl0 hH0 hp0 hlo=>?_;rw[kW] at hl0;refine jD.cutE (jD.fir4 (q:=qq) (jJ G) yK2 (by kernel_rfl) rfl rfl (cT1 ..) (by rw[hl0];exact (show NGG≤1 by decide)) ?_);rw[uY1]
 unfold lwC at hc
 simp(disch:=first|omega|(apply id;simp only[push_cast];try omega))only[push_cast,simprocAttr]
 refine jB.dataEI (gG0 G l s hll) (by and_intros<;>first|rfl|(simp(disch:=first|omega|(apply id;simp only[push_cast];try omega))only[push_cast])) ?_
 rintro _ ⟨k,rfl,_,_,hkf⟩
 refine ⟨rfl,?_⟩
 by_cases hk:k<0
 ·simp(disch:=first|omega|(apply id;simp only[push_cast];try omega))only[push_cast,simprocAttr,hk,hc]
  exact ⟨_,_,⟨⟨k,rfl,hkf⟩,true,(by rw[← hkf,decide_eq_true hk,Bool.or_true]),rfl⟩,.id rfl,.put1 (by repeat (first|exact jC.refl _ _|assumption|(refine jC.put'' ?_ _ _ (by intro _;first|rfl|omega|(simp only[push_cast] at *;omega)))|(refine jC.add' ?_ _))) hb (by omega) (cs:=lwC V Sk D true) (by simp(disch:=first|omega|(apply id;simp only[push_cast];try omega))only[push_cast,simprocAttr];first|done|rfl) (.ids (cL0 _ (show 0<σ.next by omega) ..)) rfl⟩
 ·simp(disch:=first|omega|(apply id;simp only[push_cast];try omega))only[push_cast,simprocAttr,hk,hc]
  exact ⟨_,_,⟨⟨k,rfl,hkf⟩,bad,(by rw[← hkf,decide_eq_false hk,Bool.or_false]),rfl⟩,.id rfl,.put1 (by repeat (first|exact jC.refl _ _|assumption|(refine jC.put'' ?_ _ _ (by intro _;first|rfl|omega|(simp only[push_cast] at *;omega)))|(refine jC.add' ?_ _))) hb (by omega) (cs:=lwC V Sk D bad) hc (.ids (cL0 _ (show 0<σ.next by omega) ..)) rfl⟩
theorem oB0:∀ {a b:List Ex},smEs a=true→smEs b=true→smEs (a++b)=true
 | [],b,_,hb=>hb
 | x :: a,b,ha,hb=>by
  simp only[smEs,Bool.and_eq_true] at ha
  rw[List.cons_append,smEs,ha.1,oB0 ha.2 hb];rfl
mutual
def lowE (V:List (List UInt8)):Ex→Ex
 | .mk k n s l=>.mk k (if k=2 then qH V s else n) [] (mD0 V l)
def mD0 (V:List (List UInt8)):List Ex→List Ex
 | []=>[]
 | x :: l=>lowE V x :: mD0 V l
end
mutual
def badE (V:List (List UInt8)):Ex→Bool
 | .mk k n s l=>(decide (k=2)&&decide (qH V s<0)) || kD0 V l
def kD0 (V:List (List UInt8)):List Ex→Bool
 | []=>false
 | x :: l=>badE V x || kD0 V l
end
theorem jB1 (V:List (List UInt8)) {l:List Ex} {i:Nat} {x:Ex} (h:l[i]?=some x):kD0 V (l.take (i+1))=(kD0 V (l.take i) || badE V x):=by
 have app:∀ a b:List Ex,kD0 V (a++b)=(kD0 V a || kD0 V b):=by
  intro a b
  induction a with
  | nil=>simp[kD0]
  | cons x a ih=>simp[kD0,ih,Bool.or_assoc]
 rw[jL h,app,kD0,kD0,Bool.or_false]
theorem gD0 (V:List (List UInt8)):∀ l:List Ex,mD0 V l=l.map (lowE V)
 | []=>rfl
 | x :: l=>by rw[mD0,gD0 V l];rfl
theorem tM0 (V:List (List UInt8)) {l:List Ex} {i:Nat} {x:Ex} (h:l[i]?=some x):mD0 V (l.take (i+1))=mD0 V (l.take i)++[lowE V x]:=by
 rw[jL h,gD0,gD0,List.map_append];rfl
def kW2 (V:List (List UInt8)) (x:Ex) (kk nn:Int) (ss:List UInt8):Prop:=kk=x.k∧nn=(if x.k=2 then qH V x.s else x.n)∧ss=[]
inductive I94 (V Sk D:List (List UInt8)) (σ:jA) (b:Nat) (x:Ex) (bd:Bool):Nat→S→Prop
 | mk (i : Nat) (iv : Int) (h : jA) (bad : Bool) (kk nn : Int) (ss : List UInt8) (q : Option Addr) (c : Nat) (ys : List Ex) {x1 x2 x7 x8 x9 xA xB xC xD xE xF xG xH xI xJ xK xL xM xN xO xP xQ xR xS xT xU xV xW xX xY xZ yA yB yC yD yE yF yG yH : Value} (hiv : iv = (i : Int)) (hi : i ≤ x.l.length)
   (cw:cells h b=some (lwC V Sk D bad,tLw,false)) (c0:cells h σ.next=some (exC x,eE,false)) (c1:cells h (σ.next+1)=some (zex,eE,false))
   (c2:cells h (σ.next+1+1)=some ([.int .i64 kk,.int .i64 nn,.string (Tx ss),.slice q i c],eE,false)) (ho:qC h eE 4 q i c (uX ys)) (hq:∀ k,blk q k→σ.next+3≤k) (hys:ys.length=i∧smEs ys=true) (hye:ys=mD0 V (x.l.take i)) (hh:kW2 V x kk nn ss) (hbd:bad=(bd || kD0 V (x.l.take i)))
   (g:jC σ h (fun k=>k=b)) (hl2:σ.next+3≤h.next) :
  I94 V Sk D σ b x bd (x.l.length-i) ⟨(F44 (.pointer (some ⟨b,0,none⟩)) x1 x2 (.pointer (some ⟨σ.next,0,none⟩)) (.pointer (some ⟨σ.next+1,0,none⟩)) (.pointer (some ⟨σ.next+1+1,0,none⟩)) (.int .i64 iv) x7 x8 x9 xA xB xC xD xE xF xG xH xI xJ xK xL xM xN xO xP xQ xR xS xT xU xV xW xX xY xZ yA yB yC yD yE yF yG yH),[],h⟩
theorem mE0 (V Sk D:List (List UInt8)) (hV:V.length<1000000000000000):∀ (x:Ex),smE x=true→∀ (σ:jA) (b:Nat) (bad:Bool) (hc:cells σ b=some (lwC V Sk D bad,tLw,false)) (hb1:1≤b) (hb:b<σ.next),
  jD (pp G) H0 94 [.pointer (some ⟨b,0,none⟩),exV x] σ (LwR σ b V Sk D (bad || badE V x) fun v=>∃ y,v=exV y∧smE y=true∧y=lowE V x)
 | .mk k n s l,hs,σ,b,bad,hc,hb1,hb=>by
  simp only[smE,Bool.and_eq_true,decide_eq_true_eq] at hs
  have ih:∀ x∈l,∀ (σ:jA) (b:Nat) (bad:Bool) (hc:cells σ b=some (lwC V Sk D bad,tLw,false)) (hb1:1≤b) (hb:b<σ.next),jD (pp G) H0 94 [.pointer (some ⟨b,0,none⟩),exV x] σ (LwR σ b V Sk D (bad || badE V x) fun v=>∃ y,v=exV y∧smE y=true∧y=lowE V x):=fun x hx=>mE0 V Sk D hV x (wK0 hs.2 x hx)
  have hc':=hc
  unfold lwC at hc'
  refine jD.wlog fun hl0 hH0 hp0 hlo=>?_;rw[kW] at hl0;refine jD.cutE (jD.fir4 (q:=qq) (jJ G) fir94 (by kernel_rfl) rfl rfl (uM2 ..) (by rw[hl0];exact (show NGG≤1 by decide)) ?_);rw[pV1]
  have hne:¬ b=σ.next:=by omega
  have hne1:¬ b=σ.next+1:=by omega
  have hne2:¬ b=σ.next+1+1:=by omega
  have key : ∀ (h : jA) (bd : Bool) (nn : Int) {x1 x2 x6 x7 x8 x9 xA xB xC xD xE xF xG xH xI xJ xK xL xM xN xO xP xQ xR xS xT xU xV xW xX xY xZ yA yB yC yD yE yF yG yH : Value}, cells h b = some (lwC V Sk D bd, tLw, false) → bd = (bad || (decide (k = 2) && decide (qH V s < 0))) → cells h σ.next = some (exC (.mk k n s l), eE, false) → cells h (σ.next + 1) = some (zex, eE, false) →
    cells h (σ.next+1+1)=some ([.int .i64 k,.int .i64 nn,.string (Tx []),.slice none 0 0],eE,false)→kW2 V (.mk k n s l) k nn []→jC σ h (fun k=>k=b)→σ.next+3≤h.next→
    dc3 (pp G) qq none eD0 ⟨(F44 (.pointer (some ⟨b,0,none⟩)) x1 x2 (.pointer (some ⟨σ.next,0,none⟩)) (.pointer (some ⟨σ.next+1,0,none⟩)) (.pointer (some ⟨σ.next+1+1,0,none⟩)) x6 x7 x8 x9 xA xB xC xD xE xF xG xH xI xJ xK xL xM xN xO xP xQ xR xS xT xU xV xW xX xY xZ yA yB yC yD yE yF yG yH),[],h⟩
     (@kR ⟨jE Try.prog [(.cell 4 eE)] (fun v σ'=>∃ d σ1,LwR σ b V Sk D (bad || badE V (.mk k n s l)) (fun v=>∃ y,v=exV y∧smE y=true∧y=lowE V (.mk k n s l)) d σ1∧FzV (pp G).P σ1.next σ' v d∧bM (pp G).P σ σ1 σ')⟩):=by
   intro h bd nn
   intros
   rename_i cw hbd0 c0 c1 c2 hh g hl2
   rw[rC0]
   simp(disch:=first|omega|(apply id;simp only[push_cast];try omega))only[push_cast,simprocAttr]
   refine WD.loop4 (q:=qq) (jJ G) (by kernel_rfl) (I94 V Sk D σ b (.mk k n s l) bd) ?_ _ _ (I94.mk 0 0 _ bd k nn [] none 0 [] rfl (Nat.zero_le _) cw c0 c1 c2 (qC.nil _ _ _) (fun b hb=>by obtain ⟨o,s,e⟩:=hb;cases e) ⟨rfl,rfl⟩ rfl hh (by rw[List.take_zero,kD0,Bool.or_false]) g hl2)
   clear cw c0 c1 c2 g hl2 hh
   intro m s1 hI
   cases hI with|mk i iv h bad' kk nn ss q c ys hiv hi cw c0 c1 c2 ho hq hys hye hh hbd g hl2=>
   subst hiv
   simp only[Ex.l_mk] at hi hye hbd
   have hl1:h.lo=1:=by rw[g.lo,hl0]
   rw[rB0]
   have cw':=cw
   unfold lwC at cw'
   by_cases hil:(i:Int)<l.length
   ·obtain ⟨x,hx⟩:=jM (l:=l) (i:=i) (by omega)
    have hp:=zA0 hx
    have hle:i*4+4≤l.length*4:=by omega
    simp(disch:=first|omega|(apply id;simp only[push_cast];try omega))only[push_cast,simprocAttr,hil,c0,c2,hp,hle,Int.toNat_natCast,hl1]
    refine jB.func (cap:=[]) (ih x (List.mem_of_getElem? hx) h b bad' cw hb1 (by omega)) ?_
    rintro _ _ ⟨⟨y,rfl,hy,hyE⟩,bb,hbb,rfl⟩
    simp(disch:=first|omega|(apply id;simp only[push_cast];try omega))only[push_cast,simprocAttr,c2,↓sM1]
    have gp:jC h (h.put b (O (lwC V Sk D bb) tLw false)) (fun k=>k=b):=jC.put _ _ _ fun _=>rfl
    have ho2:=ho.grew gp (fun k hk e=>by have:=hq k hk;omega)
    obtain ⟨a',c',σ',e,o',g',b'⟩:=gH (by_:=56) ho2 (by omega) (show h.lo≤h.next by omega) (m:=1) (xs:=uX [y]) (zB0 [y]) (eO0 _) (by omega)
    rw[← eP0] at o'
    have hn':h.next≤σ'.next:=g'.next
    have hl':σ'.lo=h.lo:=g'.lo
    have w1:cells (h.put b (O (lwC V Sk D bb) tLw false)) b=some (lwC V Sk D bb,tLw,false):=by simp(disch:=first|omega|(apply id;simp only[push_cast];try omega))only[push_cast,simprocAttr];first|done|rfl
    have hq':∀ k,blk q k→σ.next+3≤k:=hq
    have kw:cells σ' b=_:=g'.cellsE w1 (show b<h.next by omega) (fun hb=>by have:=hq' _ hb;omega)
    have k0:cells σ' σ.next=_:=g'.cellsE (gp.cellsE c0 (by omega) (by omega)) (show _<h.next by omega) (fun hb=>by have:=hq' _ hb;omega)
    have k1:cells σ' (σ.next+1)=_:=g'.cellsE (gp.cellsE c1 (by omega) (by omega)) (show _<h.next by omega) (fun hb=>by have:=hq' _ hb;omega)
    have k2:cells σ' (σ.next+1+1)=_:=g'.cellsE (gp.cellsE c2 (by omega) (by omega)) (show _<h.next by omega) (fun hb=>by have:=hq' _ hb;omega)
    have gg:jC σ σ' (fun k=>k=b):=(g.tr' gp fun _ _ h=>h).tr' g' (fun k hk hb=>by have:=hq' _ hb;omega)
    simp(disch:=first|omega|(apply id;simp only[push_cast];try omega))only[push_cast,simprocAttr,e,k2,hl',hl1]
    refine ⟨_,by simp only[Ex.l_mk];omega,I94.mk (i+1) _ _ bb kk nn ss a' c' (ys++[y]) (by first|rfl|omega) (by simp only[Ex.l_mk];omega) ?_ ?_ ?_ ?_ (o'.grew (S:=fun k=>k=σ.next+1+1) (by repeat (first|exact jC.refl _ _|assumption|(refine jC.put'' ?_ _ _ (by intro _;first|rfl|omega|(simp only[push_cast] at *;omega)))|(refine jC.add' ?_ _))) (fun k hk e=>?_)) (fun k hk=>?_) ⟨by simp[hys.1],oB0 hys.2 (by rw[smEs,hy];rfl)⟩ (by simp only[Ex.l_mk];rw[tM0 V hx,hye,hyE]) hh (by simp only[Ex.l_mk];rw[hbb,hbd,jB1 V hx,Bool.or_assoc]) ?_ ?_⟩
    iterate 4 exact (by first|assumption|(simp(disch:=first|omega|(apply id;simp only[push_cast];try omega))only[push_cast,simprocAttr,kw,k0,k1,k2];try omega))
    ·rcases b' k hk with hk|hk
     ·have:=hq' k hk;omega
     ·have hk:h.next≤k:=hk
      omega
    ·rcases b' k hk with hk|hk
     ·exact hq' k hk
     ·have hk:h.next≤k:=hk
      omega
    ·exact gg.put' _ _ (by omega)
    ·first|assumption|(simp(disch:=first|omega|(apply id;simp only[push_cast];try omega))only[push_cast,simprocAttr];try omega)
   ·have hie:i=l.length:=by omega
    subst hie
    simp(disch:=first|omega|(apply id;simp only[push_cast];try omega))only[push_cast,simprocAttr,hil,c0]
    rw[rA0]
    have c1':=c1
    unfold zex at c1'
    simp(disch:=first|omega|(apply id;simp only[push_cast];try omega))only[push_cast,simprocAttr,c1',c2,hl1]
    have ho2:=ho.grew (σ':=h.put (σ.next+1) (O [.int .i64 kk,.int .i64 nn,.string (Tx ss),.slice q l.length c] eE false)) (S:=fun k=>k=σ.next+1) (jC.put _ _ _ fun _=>rfl) (fun k hk e=>by have:=hq k hk;omega)
    refine ⟨exV (.mk kk nn ss ys),_,⟨⟨_,rfl,?_,?_⟩,bad',?_,rfl⟩,?_,.put1 (g.put' _ _ (by omega)) hb (by omega) (cs:=lwC V Sk D bad') ?_ (.ids (cL0 _ (show 0<σ.next by omega) ..)) rfl⟩
    ·rw[smE,hys.1,hys.2];simp[hs.1]
    ·obtain ⟨h1,h2,h3⟩:=hh;rw[lowE,hye,h1,h2,h3,List.take_length];rfl
    ·rw[hbd,hbd0,List.take_length,badE,Bool.or_assoc]
    ·unfold exV exC
     have hf:=qC.fz (P:=(pp G).P) (N:=σ.next) ho2 (by rfl) (by decide) (by omega) (.ids (jZ0 _ (by omega) ys)) (fun b hb=>by have:=hq b hb;omega)
     rw[hys.1]
     exact .agg (.cons (.id rfl) (.cons (.id rfl) (.cons (.id rfl) (.cons hf .nil))))
    ·first|assumption|(simp(disch:=first|omega|(apply id;simp only[push_cast];try omega))only[push_cast,simprocAttr,cw];try omega)
  by_cases hk:k=2
  ·subst hk
   simp(disch:=first|omega|(apply id;simp only[push_cast];try omega))only[push_cast,simprocAttr,hc']
   refine jB.func (cap:=[]) (at_f G V Sk D V s hV _ b bad ?_ hb1 ?_) ?_
   iterate 2 exact (by first|assumption|(simp(disch:=first|omega|(apply id;simp only[push_cast];try omega))only[push_cast,simprocAttr,lwC];try omega))
   ·rintro _ _ ⟨⟨y,rfl,hy⟩,bb,hbb,rfl⟩
    simp(disch:=first|omega|(apply id;simp only[push_cast];try omega))only[push_cast,simprocAttr]
    refine key _ bb y ?_ (by rw[hbb];rfl) ?_ ?_ ?_ ⟨rfl,(by rw[hy];rfl),rfl⟩ ?_ ?_
    ·first|assumption|(simp(disch:=first|omega|(apply id;simp only[push_cast];try omega))only[push_cast,simprocAttr,lwC];try omega)
    ·exact (by simp(disch:=first|omega|(apply id;simp only[push_cast];try omega))only[push_cast,simprocAttr];first|done|rfl)
    ·exact (by simp(disch:=first|omega|(apply id;simp only[push_cast];try omega))only[push_cast,simprocAttr];first|done|rfl)
    ·first|assumption|(simp(disch:=first|omega|(apply id;simp only[push_cast];try omega))only[push_cast,simprocAttr];try omega)
    ·exact (by repeat (first|exact jC.refl _ _|assumption|(refine jC.put'' ?_ _ _ (by intro _;first|rfl|omega|(simp only[push_cast] at *;omega)))|(refine jC.add' ?_ _)))
    ·first|assumption|(simp(disch:=first|omega|(apply id;simp only[push_cast];try omega))only[push_cast,simprocAttr];try omega)
  ·simp(disch:=first|omega|(apply id;simp only[push_cast];try omega))only[push_cast,simprocAttr,hk,hc']
   refine key _ bad n ?_ (by rw[decide_eq_false hk,Bool.false_and,Bool.or_false]) ?_ ?_ ?_ ⟨rfl,(by show n=if k=2 then _ else n;rw[if_neg hk]),rfl⟩ ?_ ?_
   iterate 2 exact (by first|assumption|(simp(disch:=first|omega|(apply id;simp only[push_cast];try omega))only[push_cast,simprocAttr,lwC];try omega))
   ·exact (by simp(disch:=first|omega|(apply id;simp only[push_cast];try omega))only[push_cast,simprocAttr];first|done|rfl)
   ·first|assumption|(simp(disch:=first|omega|(apply id;simp only[push_cast];try omega))only[push_cast,simprocAttr];try omega)
   ·exact (by repeat (first|exact jC.refl _ _|assumption|(refine jC.put'' ?_ _ _ (by intro _;first|rfl|omega|(simp only[push_cast] at *;omega)))|(refine jC.add' ?_ _)))
   ·first|assumption|(simp(disch:=first|omega|(apply id;simp only[push_cast];try omega))only[push_cast,simprocAttr];try omega)
 termination_by x=>SizeOf.sizeOf x
def Pr.l:Pr→List Pr
 | .mk _ _ _ _ l=>l
theorem Pr.l_mk (k:Int) (n t:List UInt8) (e:Ex) (l:List Pr):Pr.l (.mk k n t e l)=l:=rfl
mutual
def smP (V Sk:List (List UInt8)):Pr→Bool
 | .mk k n t e l=>decide (l.length<100000000000)&&(smE e&&((decide (k≠2) || decide (t∈V))&&((decide (k≠6) || decide (n∈Sk))&&((decide (k≠12) || decide (2≤l.length))&&smPs V Sk l))))
def smPs (V Sk:List (List UInt8)):List Pr→Bool
 | []=>true
 | x :: l=>smP V Sk x&&smPs V Sk l
end
theorem wJ0 {V Sk:List (List UInt8)}:∀ {l:List Pr},smPs V Sk l=true→∀ x∈l,smP V Sk x=true
 | [],_,x,hx=>by cases hx
 | y :: l,h,x,hx=>by
  simp only[smPs,Bool.and_eq_true] at h
  rcases List.mem_cons.1 hx with rfl|hx
  ·exact h.1
  ·exact wJ0 h.2 x hx
theorem kV0:∀ {a b:List Tm},smTs a=true→smTs b=true→smTs (a++b)=true
 | [],b,_,hb=>hb
 | x :: a,b,ha,hb=>by
  simp only[smTs,Bool.and_eq_true] at ha
  rw[List.cons_append,smTs,ha.1,kV0 ha.2 hb];rfl
theorem gO2 (V Sk D l:List (List UInt8)) (s:List UInt8) (hll:l.length<1000000000000000) (bad:Bool) (hs:s∈l) :
  qL (pp G) H0 93 [Rpt 0 (lwC V Sk D bad),nsV l,.string (Tx s)] (fun v=>∃ k:Int,v=.int .i64 k∧k=qH l s):=by
 have hlo:H0.lo≤H0.next:=Nat.le_refl _;refine qL.cut (jD.fir4 (q:=qq) (jJ G) yK2 (by kernel_rfl) rfl rfl (cT1 ..) (show NGG≤H0.lo by rw[jW];decide) ?_);rw[uY1]
 simp(disch:=first|omega|(apply id;simp only[push_cast];try omega))only[push_cast,simprocAttr]
 refine jB.dataEI (gG0 G l s hll) (by and_intros<;>first|rfl|(simp(disch:=first|omega|(apply id;simp only[push_cast];try omega))only[push_cast])) ?_
 rintro _ ⟨k,rfl,_,hk,hkf⟩
 refine ⟨rfl,?_⟩
 have hk':¬ k<0:=by have:=hk hs;omega
 simp(disch:=first|omega|(apply id;simp only[push_cast];try omega))only[push_cast,simprocAttr,hk']
 exact ⟨_,⟨k,rfl,hkf⟩,.id rfl⟩
def lowA (V Sk D:List (List UInt8)) (k:Int) (n t:List UInt8):Int:=
 if k=1 then (if t=[] then -1 else qH V t) else if k=2 then qH V t else if k=3∨k=4∨k=5∨k=6 then qH Sk n else if k=13 then qH D n else 0
def lowB (Sk:List (List UInt8)) (k:Int) (t:List UInt8):Int:=if k=6 then qH Sk t else 0
def lowN (k:Int) (n:List UInt8):List UInt8:=if k=1 then n else []
def lowX (V:List (List UInt8)) (k:Int) (e:Ex):Ex:=if k=2∨k=9 then lowE V e else .mk 0 0 [] []
mutual
def lowP (V Sk D:List (List UInt8)):Pr→Tm
 | .mk k n t e l=>.mk k (lowA V Sk D k n t) (lowB Sk k t) (lowN k n) (lowX V k e) (dY0 V Sk D l)
def dY0 (V Sk D:List (List UInt8)):List Pr→List Tm
 | []=>[]
 | x :: l=>lowP V Sk D x :: dY0 V Sk D l
end
theorem gC0 (V Sk D:List (List UInt8)):∀ l:List Pr,dY0 V Sk D l=l.map (lowP V Sk D)
 | []=>rfl
 | x :: l=>by rw[dY0,gC0 V Sk D l];rfl
theorem cN0 (V Sk D:List (List UInt8)) {l:List Pr} {i:Nat} {x:Pr} (h:l[i]?=some x):dY0 V Sk D (l.take (i+1))=dY0 V Sk D (l.take i)++[lowP V Sk D x]:=by
 rw[jL h,gC0,gC0,List.map_append];rfl
def qF0 (V Sk D:List (List UInt8)) (x:Pr) (kk aa bb:Int) (nm:List UInt8) (ee:Ex):Prop:=match x with | .mk k n t e _=>kk=k∧aa=lowA V Sk D k n t∧bb=lowB Sk k t∧nm=lowN k n∧ee=lowX V k e
def badH (V Sk D:List (List UInt8)) (k:Int) (n t:List UInt8) (e:Ex):Bool:=
 if k=1 then (!decide (t=[])&&decide (qH V t<0)) else if k=2∨k=9 then badE V e else if k=3∨k=4∨k=5 then decide (qH Sk n<0) else if k=6 then decide (qH Sk t<0) else if k=13 then decide (qH D n<0) else false
mutual
def badP (V Sk D:List (List UInt8)):Pr→Bool
 | .mk k n t e l=>badH V Sk D k n t e || wD0 V Sk D l
def wD0 (V Sk D:List (List UInt8)):List Pr→Bool
 | []=>false
 | x :: l=>badP V Sk D x || wD0 V Sk D l
end
theorem cW0 (V Sk D:List (List UInt8)) {l:List Pr} {i:Nat} {x:Pr} (h:l[i]?=some x):wD0 V Sk D (l.take (i+1))=(wD0 V Sk D (l.take i) || badP V Sk D x):=by
 have app:∀ a b:List Pr,wD0 V Sk D (a++b)=(wD0 V Sk D a || wD0 V Sk D b):=by
  intro a b
  induction a with
  | nil=>simp[wD0]
  | cons x a ih=>simp[wD0,ih,Bool.or_assoc]
 rw[jL h,app,wD0,wD0,Bool.or_false]
section
variable {V Sk D:List (List UInt8)} {k:Int}
theorem bh_at (h:k=3∨k=4∨k=5) (n t:List UInt8) (e:Ex):badH V Sk D k n t e=decide (qH Sk n<0):=by
 rcases h with rfl|rfl|rfl<;>simp[badH]
theorem bh_6 (n t:List UInt8) (e:Ex):badH V Sk D 6 n t e=decide (qH Sk t<0):=by simp[badH]
theorem bh_9 (n t:List UInt8) (e:Ex):badH V Sk D 9 n t e=badE V e:=by simp[badH]
theorem bh_13 (n t:List UInt8) (e:Ex):badH V Sk D 13 n t e=decide (qH D n<0):=by simp[badH]
theorem bh_o (h1:k≠1) (h2:k≠2) (h3:¬ (k=3∨k=4∨k=5)) (h6:¬ k=6) (h9:¬ k=9) (h13:¬ k=13) (n t:List UInt8) (e:Ex):badH V Sk D k n t e=false:=by
 simp only[not_or] at h3
 simp[badH,h1,h2,h3,h6,h9,h13]
theorem bh_1a (n:List UInt8) (e:Ex):badH V Sk D 1 n [] e=false:=by simp[badH]
theorem bh_1b {t:List UInt8} (ht:¬ t=[]) (n:List UInt8) (e:Ex):badH V Sk D 1 n t e=decide (qH V t<0):=by simp[badH,ht]
theorem bh_2 (n t:List UInt8) (e:Ex):badH V Sk D 2 n t e=badE V e:=by simp[badH]
theorem hd_at (h:k=3∨k=4∨k=5) (n t:List UInt8) (e:Ex) (l:List Pr):qF0 V Sk D (.mk k n t e l) k (qH Sk n) 0 [] (.mk 0 0 [] []):=by
 rcases h with rfl|rfl|rfl<;>simp[qF0,lowA,lowB,lowN,lowX]
theorem hd_6 (n t:List UInt8) (e:Ex) (l:List Pr):qF0 V Sk D (.mk 6 n t e l) 6 (qH Sk n) (qH Sk t) [] (.mk 0 0 [] []):=by simp[qF0,lowA,lowB,lowN,lowX]
theorem hd_9 (n t:List UInt8) (e:Ex) (l:List Pr):qF0 V Sk D (.mk 9 n t e l) 9 0 0 [] (lowE V e):=by simp[qF0,lowA,lowB,lowN,lowX]
theorem hd_13 (n t:List UInt8) (e:Ex) (l:List Pr):qF0 V Sk D (.mk 13 n t e l) 13 (qH D n) 0 [] (.mk 0 0 [] []):=by simp[qF0,lowA,lowB,lowN,lowX]
theorem hd_o (h1:k≠1) (h2:k≠2) (h3:¬ (k=3∨k=4∨k=5)) (h6:¬ k=6) (h9:¬ k=9) (h13:¬ k=13) (n t:List UInt8) (e:Ex) (l:List Pr):qF0 V Sk D (.mk k n t e l) k 0 0 [] (.mk 0 0 [] []):=by
 simp only[not_or] at h3
 simp[qF0,lowA,lowB,lowN,lowX,h1,h2,h3,h6,h9,h13]
theorem hd_1a (n:List UInt8) (e:Ex) (l:List Pr):qF0 V Sk D (.mk 1 n [] e l) 1 (-1) 0 n (.mk 0 0 [] []):=by simp[qF0,lowA,lowB,lowN,lowX]
theorem hd_1b {t:List UInt8} (ht:¬ t=[]) (n:List UInt8) (e:Ex) (l:List Pr):qF0 V Sk D (.mk 1 n t e l) 1 (qH V t) 0 n (.mk 0 0 [] []):=by simp[qF0,lowA,lowB,lowN,lowX,ht]
theorem hd_2 (n t:List UInt8) (e:Ex) (l:List Pr):qF0 V Sk D (.mk 2 n t e l) 2 (qH V t) 0 [] (lowE V e):=by simp[qF0,lowA,lowB,lowN,lowX]
end
inductive I86 (V Sk D:List (List UInt8)) (σ:jA) (b:Nat) (x:Pr) (bd:Bool):Nat→S→Prop
 | mk (i : Nat) (iv : Int) (h : jA) (bad : Bool) (kk aa bb : Int) (nm : List UInt8) (ek en : Int) (es : List UInt8) (el : Value) (xs : List Ex) (q : Option Addr) (c : Nat) (ys : List Tm) {x1 x2 x7 x8 x9 xA xB xC xD xE xF xG xH xI xJ xK xL xM xN xO xP xQ xR xS xT xU xV xW xX xY xZ yA yB yC yD yE yF yG yH yI yJ yK yL yM yN yO yP yQ yR yS yT yU yV yW yX yY yZ zA zB zC zD zE zF zG zH zI zJ zK zL zM zN zO zP zQ zR zS zT zU zV zW zX zY zZ wA wB wC wD wE wF wG wH wI wJ wK wL wM wN wO wP wQ wR wS wT wU wV wW wX wY wZ uA uB uC : Value} (hiv : iv = (i : Int)) (hi : i ≤ x.l.length)
   (cw:cells h b=some (lwC V Sk D bad,tLw,false)) (c0:cells h σ.next=some (prC x,epr,false)) (c1:cells h (σ.next+1)=some (ztm,etm,false))
   (c2:cells h (σ.next+1+1)=some ([.int .i64 kk,.int .i64 aa,.int .i64 bb,.string (Tx nm),.int .i64 ek,.int .i64 en,.string (Tx es),el,.slice q i c],etm,false))
   (hel:one el=true) (hxs:∀ τ,FzV (pp G).P σ.next τ el (Rw false eE xs.length (uX xs))) (hxe:smE (.mk ek en es xs)=true)
   (ho:qC h etm 9 q i c (jY ys)) (hq:∀ k,blk q k→σ.next+3≤k) (hys:ys.length=i∧smTs ys=true) (hyp:ys=dY0 V Sk D (x.l.take i)) (hh:qF0 V Sk D x kk aa bb nm (.mk ek en es xs)) (hbd:bad=(bd || wD0 V Sk D (x.l.take i)))
   (g:jC σ h (fun k=>k=b)) (hl2:σ.next+3≤h.next) :
  I86 V Sk D σ b x bd (x.l.length-i) ⟨(F117 (.pointer (some ⟨b,0,none⟩)) x1 x2 (.pointer (some ⟨σ.next,0,none⟩)) (.pointer (some ⟨σ.next+1,0,none⟩)) (.pointer (some ⟨σ.next+1+1,0,none⟩)) (.int .i64 iv) x7 x8 x9 xA xB xC xD xE xF xG xH xI xJ xK xL xM xN xO xP xQ xR xS xT xU xV xW xX xY xZ yA yB yC yD yE yF yG yH yI yJ yK yL yM yN yO yP yQ yR yS yT yU yV yW yX yY yZ zA zB zC zD zE zF zG zH zI zJ zK zL zM zN zO zP zQ zR zS zT zU zV zW zX zY zZ wA wB wC wD wE wF wG wH wI wJ wK wL wM wN wO wP wQ wR wS wT wU wV wW wX wY wZ uA uB uC),[],h⟩
def PrR (σ:jA) (b:Nat) (V Sk D:List (List UInt8)) (x:Pr) (B0:Bool):Value→jA→Prop:=fun v σ'=>∃ d σ1,LwR σ b V Sk D (B0 || badP V Sk D x) (fun v=>∃ y,v=tmV y∧smT y=true∧y=lowP V Sk D x) d σ1∧FzV (pp G).P σ1.next σ' v d∧bM (pp G).P σ σ1 σ'
theorem jM0 (V Sk D:List (List UInt8)) (σ:jA) (b:Nat) (hb1:1≤b) (hb:b<σ.next) (hl0:σ.lo=1) (k:Int) (n t:List UInt8) (e:Ex) (l:List Pr) (hll:l.length<100000000000)
  (ih:∀ x∈l,∀ (σ:jA) (b:Nat) (bad:Bool) (hc:cells σ b=some (lwC V Sk D bad,tLw,false)) (hb1:1≤b) (hb:b<σ.next),
   jD (pp G) H0 86 [.pointer (some ⟨b,0,none⟩),prV x] σ (LwR σ b V Sk D (bad || badP V Sk D x) fun v=>∃ y,v=tmV y∧smT y=true∧y=lowP V Sk D x))
  (h:jA) (bad:Bool) (kk aa bb:Int) (nm:List UInt8) (ek en:Int) (es:List UInt8) (el:Value) (xs:List Ex) {x1 x2 x6 x7 x8 x9 xA xB xC xD xE xF xG xH xI xJ xK xL xM xN xO xP xQ xR xS xT xU xV xW xX xY xZ yA yB yC yD yE yF yG yH yI yJ yK yL yM yN yO yP yQ yR yS yT yU yV yW yX yY yZ zA zB zC zD zE zF zG zH zI zJ zK zL zM zN zO zP zQ zR zS zT zU zV zW zX zY zZ wA wB wC wD wE wF wG wH wI wJ wK wL wM wN wO wP wQ wR wS wT wU wV wW wX wY wZ uA uB uC:Value}
  (cw:cells h b=some (lwC V Sk D bad,tLw,false)) (c0:cells h σ.next=some (prC (.mk k n t e l),epr,false)) (c1:cells h (σ.next+1)=some (ztm,etm,false))
  (c2:cells h (σ.next+1+1)=some ([.int .i64 kk,.int .i64 aa,.int .i64 bb,.string (Tx nm),.int .i64 ek,.int .i64 en,.string (Tx es),el,.slice none 0 0],etm,false))
  (hel:one el=true) (hxs:∀ τ,FzV (pp G).P σ.next τ el (Rw false eE xs.length (uX xs))) (hxe:smE (.mk ek en es xs)=true) (hh:qF0 V Sk D (.mk k n t e l) kk aa bb nm (.mk ek en es xs)) (B0:Bool) (hB:bad=(B0 || badH V Sk D k n t e))
  (g:jC σ h (fun k=>k=b)) (hl2:σ.next+3≤h.next) :
  dc3 (pp G) qq none jW0 ⟨(F117 (.pointer (some ⟨b,0,none⟩)) x1 x2 (.pointer (some ⟨σ.next,0,none⟩)) (.pointer (some ⟨σ.next+1,0,none⟩)) (.pointer (some ⟨σ.next+1+1,0,none⟩)) x6 x7 x8 x9 xA xB xC xD xE xF xG xH xI xJ xK xL xM xN xO xP xQ xR xS xT xU xV xW xX xY xZ yA yB yC yD yE yF yG yH yI yJ yK yL yM yN yO yP yQ yR yS yT yU yV yW yX yY yZ zA zB zC zD zE zF zG zH zI zJ zK zL zM zN zO zP zQ zR zS zT zU zV zW zX zY zZ wA wB wC wD wE wF wG wH wI wJ wK wL wM wN wO wP wQ wR wS wT wU wV wW wX wY wZ uA uB uC),[],h⟩
   (@kR ⟨jE Try.prog [(.cell 4 etm)] (PrR G σ b V Sk D (.mk k n t e l) B0)⟩):=by
 rw[rR0]
 simp(disch:=first|omega|(apply id;simp only[push_cast];try omega))only[push_cast,simprocAttr]
 refine WD.loop4 (q:=qq) (jJ G) (by kernel_rfl) (I86 G V Sk D σ b (.mk k n t e l) bad) ?_ _ _ (I86.mk 0 0 _ bad kk aa bb nm ek en es el xs none 0 [] rfl (Nat.zero_le _) cw c0 c1 c2 hel hxs hxe (qC.nil _ _ _) (fun b hb=>by obtain ⟨o,s,e⟩:=hb;cases e) ⟨rfl,rfl⟩ rfl hh (by rw[List.take_zero,wD0,Bool.or_false]) g hl2)
 clear cw c0 c1 c2 g hl2 hxs hxe hel hh
 intro m s1 hI
 cases hI with|mk i iv h bad' kk aa bb nm ek en es el xs q c ys hiv hi cw c0 c1 c2 hel hxs hxe ho hq hys hyp hh hbd g hl2=>
 subst hiv
 simp only[Pr.l_mk] at hi hyp hbd
 have hl1:h.lo=1:=by rw[g.lo,hl0]
 rw[rP0]
 have cw':=cw
 unfold lwC at cw'
 by_cases hil:(i:Int)<l.length
 ·obtain ⟨x,hx⟩:=jM (l:=l) (i:=i) (by omega)
  have hp:=qP0 hx
  have hle:i*8+8≤l.length*8:=by omega
  simp(disch:=first|omega|(apply id;simp only[push_cast];try omega))only[push_cast,simprocAttr,hil,c0,c2,hp,hle,Int.toNat_natCast,hl1]
  refine jB.func (cap:=[]) (ih x (List.mem_of_getElem? hx) h b bad' cw hb1 (by omega)) ?_
  rintro _ _ ⟨⟨y,rfl,hy,hyE⟩,bd,hbd2,rfl⟩
  simp(disch:=first|omega|(apply id;simp only[push_cast];try omega))only[push_cast,simprocAttr,c2,↓wR1]
  have gp:jC h (h.put b (O (lwC V Sk D bd) tLw false)) (fun k=>k=b):=jC.put _ _ _ fun _=>rfl
  have ho2:=ho.grew gp (fun k hk e=>by have:=hq k hk;omega)
  obtain ⟨a',c',σ',e',o',g',b'⟩:=gH (by_:=120) ho2 (by omega) (show h.lo≤h.next by omega) (m:=1) (xs:=jY [y]) (qR [y]) (kY _) (by omega)
  rw[← bD] at o'
  have hn':h.next≤σ'.next:=g'.next
  have hl':σ'.lo=h.lo:=g'.lo
  have w1:cells (h.put b (O (lwC V Sk D bd) tLw false)) b=some (lwC V Sk D bd,tLw,false):=by simp(disch:=first|omega|(apply id;simp only[push_cast];try omega))only[push_cast,simprocAttr];first|done|rfl
  have hq':∀ k,blk q k→σ.next+3≤k:=hq
  have kw:cells σ' b=_:=g'.cellsE w1 (show b<h.next by omega) (fun hb=>by have:=hq' _ hb;omega)
  have k0:cells σ' σ.next=_:=g'.cellsE (gp.cellsE c0 (by omega) (by omega)) (show _<h.next by omega) (fun hb=>by have:=hq' _ hb;omega)
  have k1:cells σ' (σ.next+1)=_:=g'.cellsE (gp.cellsE c1 (by omega) (by omega)) (show _<h.next by omega) (fun hb=>by have:=hq' _ hb;omega)
  have k2:cells σ' (σ.next+1+1)=_:=g'.cellsE (gp.cellsE c2 (by omega) (by omega)) (show _<h.next by omega) (fun hb=>by have:=hq' _ hb;omega)
  have gg:jC σ σ' (fun k=>k=b):=(g.tr' gp fun _ _ h=>h).tr' g' (fun k hk hb=>by have:=hq' _ hb;omega)
  simp(disch:=first|omega|(apply id;simp only[push_cast];try omega))only[push_cast,simprocAttr,e',k2,hl',hl1]
  refine ⟨_,by simp only[Pr.l_mk];omega,I86.mk (i+1) _ _ bd kk aa bb nm ek en es el xs a' c' (ys++[y]) (by first|rfl|omega) (by simp only[Pr.l_mk];omega) ?_ ?_ ?_ ?_ hel hxs hxe (o'.grew (S:=fun k=>k=σ.next+1+1) (by repeat (first|exact jC.refl _ _|assumption|(refine jC.put'' ?_ _ _ (by intro _;first|rfl|omega|(simp only[push_cast] at *;omega)))|(refine jC.add' ?_ _))) (fun k hk e=>?_)) (fun k hk=>?_) ⟨by simp[hys.1],kV0 hys.2 (by rw[smTs,hy];rfl)⟩ (by simp only[Pr.l_mk];rw[cN0 V Sk D hx,hyp,hyE]) hh (by simp only[Pr.l_mk];rw[hbd2,hbd,cW0 V Sk D hx,Bool.or_assoc]) ?_ ?_⟩
  iterate 4 exact (by first|assumption|(simp(disch:=first|omega|(apply id;simp only[push_cast];try omega))only[push_cast,simprocAttr,kw,k0,k1,k2];try omega))
  ·rcases b' k hk with hk|hk
   ·have:=hq' k hk;omega
   ·have hk:h.next≤k:=hk
    omega
  ·rcases b' k hk with hk|hk
   ·exact hq' k hk
   ·have hk:h.next≤k:=hk
    omega
  ·exact gg.put' _ _ (by omega)
  ·first|assumption|(simp(disch:=first|omega|(apply id;simp only[push_cast];try omega))only[push_cast,simprocAttr];try omega)
 ·have hie:i=l.length:=by omega
  subst hie
  simp(disch:=first|omega|(apply id;simp only[push_cast];try omega))only[push_cast,simprocAttr,hil,c0]
  rw[rO0]
  have c1':=c1
  unfold ztm at c1'
  simp(disch:=first|omega|(apply id;simp only[push_cast];try omega))only[push_cast,simprocAttr,c1',c2,hl1]
  have ho2:=ho.grew (σ':=h.put (σ.next+1) (O [.int .i64 kk,.int .i64 aa,.int .i64 bb,.string (Tx nm),.int .i64 ek,.int .i64 en,.string (Tx es),el,.slice q l.length c] etm false)) (S:=fun k=>k=σ.next+1) (jC.put _ _ _ fun _=>rfl) (fun k hk e=>by have:=hq k hk;omega)
  refine ⟨tmV (.mk kk aa bb nm (.mk ek en es xs) ys),_,⟨⟨_,rfl,?_,?_⟩,bad',?_,rfl⟩,?_,.put1 (g.put' _ _ (by omega)) hb (by omega) (cs:=lwC V Sk D bad') ?_ (.ids (cL0 _ (show 0<σ.next by omega) ..)) rfl⟩
  ·rw[smT,hys.1,hys.2,hxe];simp[hll]
  ·obtain ⟨h1,h2,h3,h4,h5⟩:=hh;rw[lowP,hyp,h1,h2,h3,h4,h5,List.take_length]
  ·rw[hbd,hB,List.take_length,badP,Bool.or_assoc]
  ·unfold tmV
   have hf:=qC.fz (P:=(pp G).P) (N:=σ.next) ho2 (by rfl) (by decide) (by omega) (.ids (gO _ (by omega) ys)) (fun b hb=>by have:=hq b hb;omega)
   rw[uD1,hys.1]
   exact .agg (.cons (.id rfl) (.cons (.id rfl) (.cons (.id rfl) (.cons (.id rfl) (.cons (.id rfl) (.cons (.id rfl) (.cons (.id rfl) (.cons (hxs _) (.cons hf .nil)))))))))
  ·first|assumption|(simp(disch:=first|omega|(apply id;simp only[push_cast];try omega))only[push_cast,simprocAttr,cw];try omega)
structure PrF (V Sk D:List (List UInt8)) (σ:jA) (b:Nat) (p:Pr) (h:jA) (bad:Bool) (kk aa bb:Int) (nm:List UInt8):Prop where
 cw:cells h b=some (lwC V Sk D bad,tLw,false)
 c0:cells h σ.next=some (prC p,epr,false)
 c1:cells h (σ.next+1)=some (ztm,etm,false)
 c2:cells h (σ.next+1+1)=some ([.int .i64 kk,.int .i64 aa,.int .i64 bb,.string (Tx nm),.int .i64 0,.int .i64 0,.string (Tx []),.slice none 0 0,.slice none 0 0],etm,false)
 g:jC σ h (fun k=>k=b)
 hl2:σ.next+3≤h.next
theorem pK0:smE (.mk 0 0 [] [])=true:=rfl
theorem sV1 (V Sk D:List (List UInt8)) (hV:V.length<1000000000000000) (hSk:Sk.length<1000000000000000) (hD:D.length<1000000000000000) (σ:jA) (b:Nat) (hb1:1≤b) (hb:b<σ.next) (hl0:σ.lo=1) (k:Int) (n t:List UInt8) (ek en:Int) (es:List UInt8) (el:List Ex) (l:List Pr) (hll:l.length<100000000000) (hse:smE (.mk ek en es el)=true) (hk2:k=2→t∈V) (hk6:k=6→n∈Sk)
  (ih:∀ x∈l,∀ (σ:jA) (b:Nat) (bad:Bool) (hc:cells σ b=some (lwC V Sk D bad,tLw,false)) (hb1:1≤b) (hb:b<σ.next),
   jD (pp G) H0 86 [.pointer (some ⟨b,0,none⟩),prV x] σ (LwR σ b V Sk D (bad || badP V Sk D x) fun v=>∃ y,v=tmV y∧smT y=true∧y=lowP V Sk D x))
  (h:jA) (bad:Bool) (kk:Int) {x1 x2 x6 x7 x8 x9 xA xC xD xE xF xG xH xI xJ xK xL xM xN xO xP xQ xR xS xT xU xV xW xX xY xZ yA yB yC yD yE yF yG yH yI yJ yL yM yN yO yP yQ yR yS yT yU yV yW yX yY yZ zA zB zC zD zE zF zG zH zI zJ zK zL zM zN zO zP zQ zR zS zT zU zV zW zX zY zZ wA wB wC wD wE wF wG wH wI wJ wK wL wM wN wO wP wQ wR wS wT wU wV wW wX wY wZ uA uB uC:Value} (c:Bool) (hkk:kk=k) (hc3:k≠1∧k≠2∧(c=true↔(k=3∨k=4∨k=5))) (hf:PrF V Sk D σ b (.mk k n t (.mk ek en es el) l) h bad kk 0 0 []) :
  dc3 (pp G) qq none gE0 ⟨(F117 (.pointer (some ⟨b,0,none⟩)) x1 x2 (.pointer (some ⟨σ.next,0,none⟩)) (.pointer (some ⟨σ.next+1,0,none⟩)) (.pointer (some ⟨σ.next+1+1,0,none⟩)) x6 x7 x8 x9 xA (.int .i64 k) xC xD xE xF xG xH xI xJ xK xL xM xN xO xP xQ xR xS xT xU xV xW xX xY xZ yA yB yC yD yE yF yG yH yI yJ (.bool c) yL yM yN yO yP yQ yR yS yT yU yV yW yX yY yZ zA zB zC zD zE zF zG zH zI zJ zK zL zM zN zO zP zQ zR zS zT zU zV zW zX zY zZ wA wB wC wD wE wF wG wH wI wJ wK wL wM wN wO wP wQ wR wS wT wU wV wW wX wY wZ uA uB uC),[],h⟩
   (@kR ⟨jK 0 (jF (fun s1=>dc3 (pp G) qq none jW0 s1 (@kR ⟨jE Try.prog [(.cell 4 etm)] (PrR G σ b V Sk D (.mk k n t (.mk ek en es el) l) bad)⟩)) (jE Try.prog [(.cell 4 etm)] (PrR G σ b V Sk D (.mk k n t (.mk ek en es el) l) bad)))⟩):=by
 obtain ⟨cw,c0,c1,c2,g,hl2⟩:=hf
 obtain ⟨hk1,hk2',hc3⟩:=hc3
 have hl1:h.lo=1:=by rw[g.lo,hl0]
 have cw':=cw
 unfold lwC at cw'
 have hz:∀ τ,FzV (pp G).P σ.next τ (.slice none 0 0) (Rw false eE ([]:List Ex).length (uX [])):=fun τ=>wT0 G _ _
 rw[rQ0]
 cases c with
 | true=>
  simp(disch:=first|omega|(apply id;simp only[push_cast];try omega))only[push_cast,simprocAttr,cw',c0,hl1]
  refine jB.func (cap:=[]) (at_f G V Sk D Sk n hSk h b bad cw hb1 (by omega)) ?_
  rintro _ _ ⟨⟨y,rfl,hyF⟩,bd,hbd,rfl⟩
  simp(disch:=first|omega|(apply id;simp only[push_cast];try omega))only[push_cast,simprocAttr,c2]
  refine jM0 G V Sk D σ b hb1 hb hl0 k n t (.mk ek en es el) l hll ih _ bd kk y 0 [] 0 0 [] (.slice none 0 0) [] ?_ ?_ ?_ ?_ rfl hz pK0 (by rw[hkk,hyF];exact hd_at (hc3.1 rfl) ..) bad (by rw[hbd,bh_at (hc3.1 rfl)]) ?_ ?_
  iterate 4 exact (by first|assumption|(simp(disch:=first|omega|(apply id;simp only[push_cast];try omega))only[push_cast,simprocAttr,c0,c1];try omega))
  ·exact (jC.put' (jC.tr' g (jC.put h b _ (S:=fun k=>k=b) fun _=>rfl) fun _ _ h=>h) _ _ (by omega))
  ·first|assumption|(simp(disch:=first|omega|(apply id;simp only[push_cast];try omega))only[push_cast,simprocAttr];try omega)
 | false=>
  have w1:∀ bd,cells (h.put b (O (lwC V Sk D bd) tLw false)) b=some (lwC V Sk D bd,tLw,false):=fun bd=>by simp(disch:=first|omega|(apply id;simp only[push_cast];try omega))only[push_cast,simprocAttr];first|done|rfl
  have gb:∀ bd,jC σ (h.put b (O (lwC V Sk D bd) tLw false)) (fun k=>k=b):=fun bd=>jC.tr' g (jC.put h b _ (S:=fun k=>k=b) fun _=>rfl) fun _ _ h=>h
  by_cases h6:k=6
  ·have hm:=hk6 h6
   subst h6
   simp(disch:=first|omega|(apply id;simp only[push_cast];try omega))only[push_cast,simprocAttr,cw',c0,hl1]
   refine jB.lendE (cap:=[]) (args:=[_,_,_]) (gO2 G V Sk D Sk n hSk bad hm) (.cons (.ptr (by omega) cw (by simp[lwC]) (.ids (cL0 _ (by omega) ..))) (.cons (.id (fX0 _ (by omega) _)) (.cons (.id rfl) .nil))) ?_
   rintro _ ⟨y,rfl,hyF⟩
   refine ⟨rfl,?_⟩
   simp(disch:=first|omega|(apply id;simp only[push_cast];try omega))only[push_cast,simprocAttr]
   refine jB.func (cap:=[]) (at_f G V Sk D Sk t hSk h b bad cw hb1 (by omega)) ?_
   rintro _ _ ⟨⟨z,rfl,hzF⟩,bd,hbd,rfl⟩
   simp(disch:=first|omega|(apply id;simp only[push_cast];try omega))only[push_cast,simprocAttr,c2]
   refine jM0 G V Sk D σ b hb1 hb hl0 6 n t (.mk ek en es el) l hll ih _ bd kk y z [] 0 0 [] (.slice none 0 0) [] ?_ ?_ ?_ ?_ rfl hz pK0 (by rw[hkk,hyF,hzF];exact hd_6 ..) bad (by rw[hbd,bh_6]) ?_ ?_
   iterate 4 exact (by first|assumption|(simp(disch:=first|omega|(apply id;simp only[push_cast];try omega))only[push_cast,simprocAttr,c0,c1];try omega))
   ·exact ((gb bd).put' _ _ (by omega)).put' _ _ (by omega)
   ·first|assumption|(simp(disch:=first|omega|(apply id;simp only[push_cast];try omega))only[push_cast,simprocAttr];try omega)
  by_cases h9:k=9
  ·subst h9
   simp(disch:=first|omega|(apply id;simp only[push_cast];try omega))only[push_cast,simprocAttr,cw',c0,hl1]
   refine jB.func (cap:=[]) (mE0 G V Sk D hV (.mk ek en es el) hse h b bad cw hb1 (by omega)) ?_
   rintro _ _ ⟨⟨y,rfl,hy,hyE⟩,bd,hbd,rfl⟩
   obtain ⟨yk,yn,ys,yl⟩:=y
   unfold exV exC
   simp(disch:=first|omega|(apply id;simp only[push_cast];try omega))only[push_cast,simprocAttr,c2]
   refine jM0 G V Sk D σ b hb1 hb hl0 9 n t (.mk ek en es el) l hll ih _ bd kk 0 0 [] yk yn ys (Rw false eE yl.length (uX yl)) yl ?_ ?_ ?_ ?_ rfl (fun τ=>.id (cS0 _ (by omega) ..)) hy (by rw[hkk,hyE];exact hd_9 ..) bad (by rw[hbd,bh_9]) ?_ ?_
   iterate 4 exact (by first|assumption|(simp(disch:=first|omega|(apply id;simp only[push_cast];try omega))only[push_cast,simprocAttr,c0,c1];try omega))
   ·exact (gb bd).put' _ _ (by omega)
   ·first|assumption|(simp(disch:=first|omega|(apply id;simp only[push_cast];try omega))only[push_cast,simprocAttr];try omega)
  by_cases h13:k=13
  ·subst h13
   simp(disch:=first|omega|(apply id;simp only[push_cast];try omega))only[push_cast,simprocAttr,cw',c0,hl1]
   refine jB.func (cap:=[]) (at_f G V Sk D D n hD h b bad cw hb1 (by omega)) ?_
   rintro _ _ ⟨⟨y,rfl,hyF⟩,bd,hbd,rfl⟩
   simp(disch:=first|omega|(apply id;simp only[push_cast];try omega))only[push_cast,simprocAttr,c2]
   refine jM0 G V Sk D σ b hb1 hb hl0 13 n t (.mk ek en es el) l hll ih _ bd kk y 0 [] 0 0 [] (.slice none 0 0) [] ?_ ?_ ?_ ?_ rfl hz pK0 (by rw[hkk,hyF];exact hd_13 ..) bad (by rw[hbd,bh_13]) ?_ ?_
   iterate 4 exact (by first|assumption|(simp(disch:=first|omega|(apply id;simp only[push_cast];try omega))only[push_cast,simprocAttr,c0,c1];try omega))
   ·exact (gb bd).put' _ _ (by omega)
   ·first|assumption|(simp(disch:=first|omega|(apply id;simp only[push_cast];try omega))only[push_cast,simprocAttr];try omega)
  simp(disch:=first|omega|(apply id;simp only[push_cast];try omega))only[push_cast,simprocAttr,h6,h9,h13]
  refine jM0 G V Sk D σ b hb1 hb hl0 k n t (.mk ek en es el) l hll ih _ bad kk 0 0 [] 0 0 [] (.slice none 0 0) [] cw c0 c1 c2 rfl hz pK0 (by rw[hkk];exact hd_o hk1 hk2' (fun h=>by have:=hc3.2 h;cases this) h6 h9 h13 ..) bad (by rw[bh_o hk1 hk2' (fun h=>by have:=hc3.2 h;cases this) h6 h9 h13,Bool.or_false]) g hl2
theorem nR1 (V Sk D:List (List UInt8)) (hV:V.length<1000000000000000) (hSk:Sk.length<1000000000000000) (hD:D.length<1000000000000000):∀ (x:Pr),smP V Sk x=true→∀ (σ:jA) (b:Nat) (bad:Bool) (hc:cells σ b=some (lwC V Sk D bad,tLw,false)) (hb1:1≤b) (hb:b<σ.next),
  jD (pp G) H0 86 [.pointer (some ⟨b,0,none⟩),prV x] σ (LwR σ b V Sk D (bad || badP V Sk D x) fun v=>∃ y,v=tmV y∧smT y=true∧y=lowP V Sk D x)
 | .mk k n t (.mk ek en es el) l,hs,σ,b,bad,hc,hb1,hb=>by
  simp only[smP,Bool.and_eq_true,Bool.or_eq_true,decide_eq_true_eq] at hs
  obtain ⟨hll,hse,hk2,hk6,hk11,hsl⟩:=hs
  have hk2:k=2→t∈V:=fun h=>hk2.elim (fun h'=>absurd h h') id
  have hk6:k=6→n∈Sk:=fun h=>hk6.elim (fun h'=>absurd h h') id
  have ih:∀ x∈l,∀ (σ:jA) (b:Nat) (bad:Bool) (hc:cells σ b=some (lwC V Sk D bad,tLw,false)) (hb1:1≤b) (hb:b<σ.next),
   jD (pp G) H0 86 [.pointer (some ⟨b,0,none⟩),prV x] σ (LwR σ b V Sk D (bad || badP V Sk D x) fun v=>∃ y,v=tmV y∧smT y=true∧y=lowP V Sk D x):=fun x hx=>nR1 V Sk D hV hSk hD x (wJ0 hsl x hx)
  clear hsl
  have hc':=hc
  unfold lwC at hc'
  refine jD.wlog fun hl0 hH0 hp0 hlo=>?_;rw[kW] at hl0;refine jD.cutE (jD.fir4 (q:=qq) (jJ G) fir86 (by kernel_rfl) rfl rfl (mZ1 ..) (by rw[hl0];exact (show NGG≤1 by decide)) ?_);rw[rA1]
  have hne:¬ b=σ.next:=by omega
  have hne1:¬ b=σ.next+1:=by omega
  have hne2:¬ b=σ.next+1+1:=by omega
  have hz:∀ τ,FzV (pp G).P σ.next τ (.slice none 0 0) (Rw false eE ([]:List Ex).length (uX [])):=fun τ=>wT0 G _ _
  have hfold:=@sV1 G V Sk D hV hSk hD σ b hb1 hb hl0 k n t ek en es el l hll hse hk2 hk6 ih
  have hloop:=@jM0 G V Sk D σ b hb1 hb hl0 k n t (.mk ek en es el) l hll ih
  unfold PrR at hfold hloop
  by_cases h1:k=1
  ·subst h1
   by_cases ht:t=[]
   ·have hq:(t == ([]:List UInt8))=true:=by rw[ht];rfl
    simp(disch:=first|omega|(apply id;simp only[push_cast];try omega))only[push_cast,simprocAttr,hc',hq,Bool.not_true]
    refine hloop _ bad 1 (-1) 0 n 0 0 [] (.slice none 0 0) [] ?_ ?_ ?_ ?_ rfl hz pK0 (by subst ht;exact hd_1a ..) bad (by rw[ht,bh_1a,Bool.or_false]) ?_ ?_
    ·first|assumption|(simp(disch:=first|omega|(apply id;simp only[push_cast];try omega))only[push_cast,simprocAttr,lwC];try omega)
    ·exact (by simp(disch:=first|omega|(apply id;simp only[push_cast];try omega))only[push_cast,simprocAttr];first|done|rfl)
    ·exact (by simp(disch:=first|omega|(apply id;simp only[push_cast];try omega))only[push_cast,simprocAttr];first|done|rfl)
    ·first|assumption|(simp(disch:=first|omega|(apply id;simp only[push_cast];try omega))only[push_cast,simprocAttr];try omega)
    ·exact (by repeat (first|exact jC.refl _ _|assumption|(refine jC.put'' ?_ _ _ (by intro _;first|rfl|omega|(simp only[push_cast] at *;omega)))|(refine jC.add' ?_ _)))
    ·first|assumption|(simp(disch:=first|omega|(apply id;simp only[push_cast];try omega))only[push_cast,simprocAttr];try omega)
   ·have hq:(t == ([]:List UInt8))=false:=beq_eq_false_iff_ne.2 ht
    simp(disch:=first|omega|(apply id;simp only[push_cast];try omega))only[push_cast,simprocAttr,hc',hq,Bool.not_false]
    refine jB.func (cap:=[]) (at_f G V Sk D V t hV _ b bad ?_ hb1 ?_) ?_
    iterate 2 exact (by first|assumption|(simp(disch:=first|omega|(apply id;simp only[push_cast];try omega))only[push_cast,simprocAttr,lwC];try omega))
    ·rintro _ _ ⟨⟨y,rfl,hyF⟩,bd,hbd,rfl⟩
     simp(disch:=first|omega|(apply id;simp only[push_cast];try omega))only[push_cast,simprocAttr]
     refine hloop _ bd 1 y 0 n 0 0 [] (.slice none 0 0) [] ?_ ?_ ?_ ?_ rfl hz pK0 (by rw[hyF];exact hd_1b ht ..) bad (by rw[hbd,bh_1b ht]) ?_ ?_
     ·first|assumption|(simp(disch:=first|omega|(apply id;simp only[push_cast];try omega))only[push_cast,simprocAttr,lwC];try omega)
     ·exact (by simp(disch:=first|omega|(apply id;simp only[push_cast];try omega))only[push_cast,simprocAttr];first|done|rfl)
     ·exact (by simp(disch:=first|omega|(apply id;simp only[push_cast];try omega))only[push_cast,simprocAttr];first|done|rfl)
     ·first|assumption|(simp(disch:=first|omega|(apply id;simp only[push_cast];try omega))only[push_cast,simprocAttr];try omega)
     ·exact (by repeat (first|exact jC.refl _ _|assumption|(refine jC.put'' ?_ _ _ (by intro _;first|rfl|omega|(simp only[push_cast] at *;omega)))|(refine jC.add' ?_ _)))
     ·first|assumption|(simp(disch:=first|omega|(apply id;simp only[push_cast];try omega))only[push_cast,simprocAttr];try omega)
  by_cases h2:k=2
  ·have hm:=hk2 h2
   subst h2
   simp(disch:=first|omega|(apply id;simp only[push_cast];try omega))only[push_cast,simprocAttr,hc']
   refine jB.lendE (cap:=[]) (args:=[_,_,_]) (gO2 G V Sk D V t hV bad hm) (.cons (.ptr (e:=tLw) (m:=false) (full:=lwC V Sk D bad) (by simp(disch:=first|omega|(apply id;simp only[push_cast];try omega))only[push_cast,simprocAttr];omega) ?_ (by simp[lwC]) (.ids (cL0 _ ?_ ..))) (.cons (.id (fX0 _ ?_ _)) (.cons (.id rfl) .nil))) ?_
   ·first|assumption|(simp(disch:=first|omega|(apply id;simp only[push_cast];try omega))only[push_cast,simprocAttr,lwC];try omega)
   ·exact (by simp(disch:=first|omega|(apply id;simp only[push_cast];try omega))only[push_cast,simprocAttr];omega)
   ·exact (by simp(disch:=first|omega|(apply id;simp only[push_cast];try omega))only[push_cast,simprocAttr];omega)
   rintro _ ⟨y,rfl,hyF⟩
   refine ⟨rfl,?_⟩
   simp(disch:=first|omega|(apply id;simp only[push_cast];try omega))only[push_cast,simprocAttr]
   refine jB.func (cap:=[]) (mE0 G V Sk D hV (.mk ek en es el) hse _ b bad ?_ hb1 ?_) ?_
   iterate 2 exact (by first|assumption|(simp(disch:=first|omega|(apply id;simp only[push_cast];try omega))only[push_cast,simprocAttr,lwC];try omega))
   rintro _ _ ⟨⟨x,rfl,hx,hyE⟩,bd,hbd,rfl⟩
   obtain ⟨yk,yn,ys,yl⟩:=x
   unfold exV exC
   simp(disch:=first|omega|(apply id;simp only[push_cast];try omega))only[push_cast,simprocAttr]
   refine hloop _ bd 2 y 0 [] yk yn ys (Rw false eE yl.length (uX yl)) yl ?_ ?_ ?_ ?_ rfl (fun τ=>.id (cS0 _ (by omega) ..)) hx (by rw[hyF,hyE];exact hd_2 ..) bad (by rw[hbd,bh_2]) ?_ ?_
   ·first|assumption|(simp(disch:=first|omega|(apply id;simp only[push_cast];try omega))only[push_cast,simprocAttr,lwC];try omega)
   ·exact (by simp(disch:=first|omega|(apply id;simp only[push_cast];try omega))only[push_cast,simprocAttr];first|done|rfl)
   ·exact (by simp(disch:=first|omega|(apply id;simp only[push_cast];try omega))only[push_cast,simprocAttr];first|done|rfl)
   ·first|assumption|(simp(disch:=first|omega|(apply id;simp only[push_cast];try omega))only[push_cast,simprocAttr];try omega)
   ·exact (by repeat (first|exact jC.refl _ _|assumption|(refine jC.put'' ?_ _ _ (by intro _;first|rfl|omega|(simp only[push_cast] at *;omega)))|(refine jC.add' ?_ _)))
   ·first|assumption|(simp(disch:=first|omega|(apply id;simp only[push_cast];try omega))only[push_cast,simprocAttr];try omega)
  by_cases h3:k=3
  ·subst h3
   simp(disch:=first|omega|(apply id;simp only[push_cast];try omega))only[push_cast,simprocAttr,hc']
   refine hfold _ bad 3 true rfl (by decide) ⟨?_,?_,?_,?_,?_,?_⟩
   ·first|assumption|(simp(disch:=first|omega|(apply id;simp only[push_cast];try omega))only[push_cast,simprocAttr,lwC];try omega)
   ·exact (by simp(disch:=first|omega|(apply id;simp only[push_cast];try omega))only[push_cast,simprocAttr];first|done|rfl)
   ·exact (by simp(disch:=first|omega|(apply id;simp only[push_cast];try omega))only[push_cast,simprocAttr];first|done|rfl)
   ·first|assumption|(simp(disch:=first|omega|(apply id;simp only[push_cast];try omega))only[push_cast,simprocAttr];try omega)
   ·exact (by repeat (first|exact jC.refl _ _|assumption|(refine jC.put'' ?_ _ _ (by intro _;first|rfl|omega|(simp only[push_cast] at *;omega)))|(refine jC.add' ?_ _)))
   ·first|assumption|(simp(disch:=first|omega|(apply id;simp only[push_cast];try omega))only[push_cast,simprocAttr];try omega)
  by_cases h4:k=4
  ·subst h4
   simp(disch:=first|omega|(apply id;simp only[push_cast];try omega))only[push_cast,simprocAttr,hc']
   refine hfold _ bad 4 true rfl (by decide) ⟨?_,?_,?_,?_,?_,?_⟩
   ·first|assumption|(simp(disch:=first|omega|(apply id;simp only[push_cast];try omega))only[push_cast,simprocAttr,lwC];try omega)
   ·exact (by simp(disch:=first|omega|(apply id;simp only[push_cast];try omega))only[push_cast,simprocAttr];first|done|rfl)
   ·exact (by simp(disch:=first|omega|(apply id;simp only[push_cast];try omega))only[push_cast,simprocAttr];first|done|rfl)
   ·first|assumption|(simp(disch:=first|omega|(apply id;simp only[push_cast];try omega))only[push_cast,simprocAttr];try omega)
   ·exact (by repeat (first|exact jC.refl _ _|assumption|(refine jC.put'' ?_ _ _ (by intro _;first|rfl|omega|(simp only[push_cast] at *;omega)))|(refine jC.add' ?_ _)))
   ·first|assumption|(simp(disch:=first|omega|(apply id;simp only[push_cast];try omega))only[push_cast,simprocAttr];try omega)
  simp(disch:=first|omega|(apply id;simp only[push_cast];try omega))only[push_cast,simprocAttr,hc',h1,h2,h3,h4]
  refine hfold _ bad k _ rfl ⟨h1,h2,by simp[h3,h4]⟩ ⟨?_,?_,?_,?_,?_,?_⟩
  ·first|assumption|(simp(disch:=first|omega|(apply id;simp only[push_cast];try omega))only[push_cast,simprocAttr,lwC];try omega)
  ·exact (by simp(disch:=first|omega|(apply id;simp only[push_cast];try omega))only[push_cast,simprocAttr];first|done|rfl)
  ·exact (by simp(disch:=first|omega|(apply id;simp only[push_cast];try omega))only[push_cast,simprocAttr];first|done|rfl)
  ·first|assumption|(simp(disch:=first|omega|(apply id;simp only[push_cast];try omega))only[push_cast,simprocAttr];try omega)
  ·exact (by repeat (first|exact jC.refl _ _|assumption|(refine jC.put'' ?_ _ _ (by intro _;first|rfl|omega|(simp only[push_cast] at *;omega)))|(refine jC.add' ?_ _)))
  ·first|assumption|(simp(disch:=first|omega|(apply id;simp only[push_cast];try omega))only[push_cast,simprocAttr];try omega)
 termination_by x=>SizeOf.sizeOf x
abbrev tMy:Nat:=142
def myC (D:List (List UInt8)) (e x:List Bool):List Value:=[nsV D,bvV e,bvV x]
abbrev my (D:List (List UInt8)) (e x:List Bool):Value:=Rpt 0 (myC D e x)
theorem oN1 (n:Nat) (hn:0<n) (l:List Bool):Ev.sc n (bvV l)=true:=oO1 n hn ..
theorem kE2 (n:Nat) (hn:0<n) (D:List (List UInt8)) (e x:List Bool):scL n (myC D e x)=true:=by simp[myC,scL,fX0 n hn,oN1 n hn]
theorem gR2 (n:Nat) (hn:0<n) (o:Nat) (cs:List Value) (h:scL n cs=true):Ev.sc n (Rpt o cs)=true:=by simp[Rpt,Ev.sc,scL,h,hn]
theorem kD2 (n:Nat) (hn:0<n) (D:List (List UInt8)) (e x:List Bool):Ev.sc n (my D e x)=true:=gR2 n hn _ _ (kE2 n hn ..)
attribute [push_cast] kD2 oN1
def tW0 (D:List (List UInt8)) (e x:List Bool) (k:Int) (n:List UInt8) (a b c d:Bool):Bool×Bool:=
 if k=1 then (false,false) else if k=8 then (false,true) else if k=4 then (true,true) else if k=7 then (a || c,false) else if k=9∨k=10 then (a || b,c || d)
 else if k=11 then (a&&b,c || d) else if k=12 then (a&&b,c || (a&&d)) else if k=13 then (decide (0≤qH D n)&&e.getD (qH D n).toNat false,decide (0≤qH D n)&&x.getD (qH D n).toNat false) else (true,false)
abbrev g2 (L:List (Bool×Bool)) (i:Nat):Bool×Bool:=L.getD i (false,false)
mutual
def wC0 (D:List (List UInt8)) (e x:List Bool):Pr→Bool×Bool
 | .mk k n _ _ l=>tW0 D e x k n (g2 (bL D e x l) 0).1 (g2 (bL D e x l) 1).1 (g2 (bL D e x l) 0).2 (g2 (bL D e x l) 1).2
def bL (D:List (List UInt8)) (e x:List Bool):List Pr→List (Bool×Bool)
 | []=>[]
 | y :: l=>wC0 D e x y :: bL D e x l
end
theorem gT0 (D:List (List UInt8)) (e x:List Bool):∀ l:List Pr,bL D e x l=l.map (wC0 D e x)
 | []=>rfl
 | y :: l=>by rw[bL,gT0 D e x l];rfl
def twoV (r:Bool×Bool):Value:=.tuple ⟨[.bool r.1,.bool r.2]⟩
def arrs (L:List (Bool×Bool)) (a b c d:Bool):Prop:=a=(g2 L 0).1∧b=(g2 L 1).1∧c=(g2 L 0).2∧d=(g2 L 1).2
inductive I100 (D:List (List UInt8)) (e x:List Bool) (k:Int) (n t:List UInt8) (ee:Ex) (l:List Pr):Nat→S→Prop
 | mk (i : Nat) (iv : Int) (h : jA) (a b c d : Bool) {x1 x2 x4 x5 x9 xA xB xC xD xE xF xG xH xI xJ xK xL xM xN xO xP xQ xR xS xT xU xV xW xX xY xZ yA yB yC yD yE yF yG yH yI yJ yK yL yM yN yO yP yQ yR yS yT yU yV yW yX yY yZ zA zB zC zD zE zF zG zH zI zJ zK zL zM zN zO zP zQ zR zS zT zU zV zW zX zY zZ wA wB wC wD wE wF wG wH wI wJ wK wL wM wN wO wP wQ wR wS wT wU wV wW wX wY wZ uA uB uC uD uE uF uG uH uI uJ uK uL uM uN uO : Value} (hiv : iv = (i : Int)) (hi : i ≤ l.length)
   (c0:cells h 1=some (prC (.mk k n t ee l),epr,false)) (c1:cells h 2=some ([.bool a,.bool b],146,false)) (c2:cells h 3=some ([.bool c,.bool d],146,false)) (ha:arrs ((bL D e x l).take i) a b c d) (hl1:h.lo=1) (hl2:4≤h.next) :
  I100 D e x k n t ee l (l.length-i) ⟨(F129 (my D e x) x1 x2 (.pointer (some ⟨1,0,none⟩)) x4 x5 (.pointer (some ⟨2,0,none⟩)) (.pointer (some ⟨3,0,none⟩)) (.int .i64 iv) x9 xA xB xC xD xE xF xG xH xI xJ xK xL xM xN xO xP xQ xR xS xT xU xV xW xX xY xZ yA yB yC yD yE yF yG yH yI yJ yK yL yM yN yO yP yQ yR yS yT yU yV yW yX yY yZ zA zB zC zD zE zF zG zH zI zJ zK zL zM zN zO zP zQ zR zS zT zU zV zW zX zY zZ wA wB wC wD wE wF wG wH wI wJ wK wL wM wN wO wP wQ wR wS wT wU wV wW wX wY wZ uA uB uC uD uE uF uG uH uI uJ uK uL uM uN uO),[],h⟩
def twoB (r:Bool×Bool) (d:Value):Prop:=d=twoV r
theorem pB0 (D:List (List UInt8)) (e x:List Bool) (hD:D.length<1000000000000000) (he:e.length=D.length) (hx:x.length=D.length) (k:Int) (n t:List UInt8) (ee:Ex) (l:List Pr) (h:jA) (a b c d:Bool) {x1 x2 x4 x5 x8 x9 xA xB xC xD xE xF xG xH xI xJ xK xL xM xN xO xP xQ xR xS xT xU xV xW xX xY xZ yA yB yC yD yE yF yG yH yI yJ yK yL yM yN yO yP yQ yR yS yT yU yV yW yX yY yZ zA zB zC zD zE zF zG zH zI zJ zK zL zM zN zO zP zQ zR zS zT zU zV zW zX zY zZ wA wB wC wD wE wF wG wH wI wJ wK wL wM wN wO wP wQ wR wS wT wU wV wW wX wY wZ uA uB uC uD uE uF uG uH uI uJ uK uL uM uN uO:Value}
  (c0:cells h 1=some (prC (.mk k n t ee l),epr,false)) (c1:cells h 2=some ([.bool a,.bool b],146,false)) (c2:cells h 3=some ([.bool c,.bool d],146,false)) (hl1:h.lo=1) :
  dc3 (pp G) qq none eK0 ⟨(F129 (my D e x) x1 x2 (.pointer (some ⟨1,0,none⟩)) x4 x5 (.pointer (some ⟨2,0,none⟩)) (.pointer (some ⟨3,0,none⟩)) x8 x9 xA xB xC xD xE xF xG xH xI xJ xK xL xM xN xO xP xQ xR xS xT xU xV xW xX xY xZ yA yB yC yD yE yF yG yH yI yJ yK yL yM yN yO yP yQ yR yS yT yU yV yW yX yY yZ zA zB zC zD zE zF zG zH zI zJ zK zL zM zN zO zP zQ zR zS zT zU zV zW zX zY zZ wA wB wC wD wE wF wG wH wI wJ wK wL wM wN wO wP wQ wR wS wT wU wV wW wX wY wZ uA uB uC uD uE uF uG uH uI uJ uK uL uM uN uO),[],h⟩ (@kR ⟨jE Try.prog [(.tmp 4),(.tmp 5)] (fun v σ'=>∃ w,twoB (tW0 D e x k n a b c d) w∧FzV (pp G).P H0.next σ' v w)⟩):=by
 rw[lV0]
 by_cases h1:k=1
 ·subst h1;simp(disch:=first|omega|(apply id;simp only[push_cast];try omega))only[push_cast,simprocAttr,c0];exact ⟨_,rfl,.id rfl⟩
 by_cases h8:k=8
 ·subst h8;simp(disch:=first|omega|(apply id;simp only[push_cast];try omega))only[push_cast,simprocAttr,c0];exact ⟨_,rfl,.id rfl⟩
 by_cases h4:k=4
 ·subst h4;simp(disch:=first|omega|(apply id;simp only[push_cast];try omega))only[push_cast,simprocAttr,c0];exact ⟨_,rfl,.id rfl⟩
 by_cases h7:k=7
 ·subst h7;cases a<;>(simp(disch:=first|omega|(apply id;simp only[push_cast];try omega))only[push_cast,simprocAttr,c0,c1,c2];exact ⟨_,rfl,.id rfl⟩)
 by_cases h9:k=9
 ·subst h9;simp(disch:=first|omega|(apply id;simp only[push_cast];try omega))only[push_cast,simprocAttr,c0];rw[gS];cases a<;>cases c<;>(simp(disch:=first|omega|(apply id;simp only[push_cast];try omega))only[push_cast,simprocAttr,c0,c1,c2];exact ⟨_,rfl,.id rfl⟩)
 by_cases h10:k=10
 ·subst h10;simp(disch:=first|omega|(apply id;simp only[push_cast];try omega))only[push_cast,simprocAttr,c0];rw[gS];cases a<;>cases c<;>(simp(disch:=first|omega|(apply id;simp only[push_cast];try omega))only[push_cast,simprocAttr,c0,c1,c2];exact ⟨_,rfl,.id rfl⟩)
 by_cases h11:k=11
 ·subst h11;simp(disch:=first|omega|(apply id;simp only[push_cast];try omega))only[push_cast,simprocAttr,c0];rw[gS];cases a<;>cases c<;>(simp(disch:=first|omega|(apply id;simp only[push_cast];try omega))only[push_cast,simprocAttr,c0,c1,c2];exact ⟨_,rfl,.id rfl⟩)
 by_cases h12:k=12
 ·subst h12;simp(disch:=first|omega|(apply id;simp only[push_cast];try omega))only[push_cast,simprocAttr,c0];rw[gS];cases a<;>cases c<;>(simp(disch:=first|omega|(apply id;simp only[push_cast];try omega))only[push_cast,simprocAttr,c0,c1,c2];exact ⟨_,rfl,.id rfl⟩)
 by_cases h13:k=13
 ·subst h13;simp(disch:=first|omega|(apply id;simp only[push_cast];try omega))only[push_cast,simprocAttr,c0];rw[gS];simp(disch:=first|omega|(apply id;simp only[push_cast];try omega))only[push_cast,simprocAttr,c0,myC]
  refine jB.dataEI (gG0 G D n hD) (by and_intros<;>first|rfl|(simp(disch:=first|omega|(apply id;simp only[push_cast];try omega))only[push_cast])) ?_
  rintro _ ⟨j,rfl,⟨hj1,hj2⟩,_,hjf⟩
  refine ⟨rfl,?_⟩
  by_cases hj:j ≥ 0
  ·have g1:=qY0 (l:=e) (i:=j.toNat) (by omega)
   have g2:=qY0 (l:=x) (i:=j.toNat) (by omega)
   have hje:j<e.length:=by omega
   have hjx:j<x.length:=by omega
   simp(disch:=first|omega|(apply id;simp only[push_cast];try omega))only[push_cast,simprocAttr,hj,hje,hjx,g1,g2,hl1,myC,bvV]
   exact ⟨.tuple ⟨[.bool (e.getD j.toNat false),.bool (x.getD j.toNat false)]⟩,(by have h0:0≤qH D n:=(by omega);unfold twoB twoV;simp[tW0,← hjf,show 0≤j by omega]),.id rfl⟩
  ·simp(disch:=first|omega|(apply id;simp only[push_cast];try omega))only[push_cast,simprocAttr,hj]
   exact ⟨.tuple ⟨[.bool false,.bool false]⟩,(by unfold twoB twoV;simp[tW0,← hjf,show ¬ 0≤j by omega]),.id rfl⟩
 simp(disch:=first|omega|(apply id;simp only[push_cast];try omega))only[push_cast,simprocAttr,c0,h1,h8,h4,h7,h9,h10];rw[gS];simp(disch:=first|omega|(apply id;simp only[push_cast];try omega))only[push_cast,simprocAttr,h11,h12,h13];rw[lU0];simp(disch:=first|omega|(apply id;simp only[push_cast];try omega))only[push_cast,simprocAttr]
 exact ⟨.tuple ⟨[.bool true,.bool false]⟩,(by unfold twoB twoV;simp[tW0,h1,h8,h4,h7,h9,h10,h11,h12,h13]),.id rfl⟩
set_option maxHeartbeats 1000000 in
theorem bN1 (V Sk D:List (List UInt8)) (e x:List Bool) (hD:D.length<1000000000000000) (he:e.length=D.length) (hx:x.length=D.length):∀ (p:Pr),smP V Sk p=true→
  qL (pp G) H0 100 [my D e x,prV p] (twoB (wC0 D e x p))
 | .mk k n t ee l,hs=>by
  simp only[smP,Bool.and_eq_true,Bool.or_eq_true,decide_eq_true_eq] at hs
  obtain ⟨hll,hse,hk2,hk6,hk12,hsl⟩:=hs
  have ih:∀ y∈l,qL (pp G) H0 100 [my D e x,prV y] (twoB (wC0 D e x y)):=fun y hy=>bN1 V Sk D e x hD he hx y (wJ0 hsl y hy)
  clear hsl
  have hLl:(bL D e x l).length=l.length:=by rw[gT0,List.length_map]
  have hLg:∀ {i:Nat} {y:Pr},l[i]?=some y→(bL D e x l)[i]?=some (wC0 D e x y):=fun hy=>by rw[gT0,List.getElem?_map,hy];rfl
  have hend:∀ {i:Nat} {a b c d:Bool},(l.length≤i∨2≤i)→arrs ((bL D e x l).take i) a b c d→tW0 D e x k n a b c d=wC0 D e x (.mk k n t ee l):=fun {i a b c d} hi h=>by
   have h0:g2 ((bL D e x l).take i) 0=g2 (bL D e x l) 0∧g2 ((bL D e x l).take i) 1=g2 (bL D e x l) 1:=by
    rcases hi with hi|hi
    ·rw[List.take_of_length_le (by omega)];exact ⟨rfl,rfl⟩
    ·unfold g2
     simp only[List.getD_eq_getElem?_getD,List.getElem?_take]
     rw[if_pos (by omega),if_pos (by omega)]
     exact ⟨rfl,rfl⟩
   obtain ⟨rfl,rfl,rfl,rfl⟩:=h
   rw[wC0,h0.1,h0.2]
  have hnext:∀ {i:Nat} {y:Pr},l[i]?=some y→∀ j,g2 ((bL D e x l).take (i+1)) j=if j=i then wC0 D e x y else g2 ((bL D e x l).take i) j:=fun {i y} hy j=>by
   unfold g2
   rw[jL (hLg hy)]
   simp only[List.getD_eq_getElem?_getD]
   have hil:i<(bL D e x l).length:=by rw[hLl];exact (List.getElem?_eq_some_iff.1 hy).1
   have hlen:((bL D e x l).take i).length=i:=by rw[List.length_take];omega
   by_cases hj:j=i
   ·subst hj
    rw[if_pos rfl,List.getElem?_append_right (by omega),hlen,Nat.sub_self];rfl
   ·rw[if_neg hj]
    rcases Nat.lt_or_ge j i with h|h
    ·rw[List.getElem?_append_left (by omega)]
    ·rw[List.getElem?_eq_none (by rw[List.length_append,hlen,List.length_singleton];omega),List.getElem?_eq_none (by omega)]
  have hlo:H0.lo≤H0.next:=Nat.le_refl _;refine qL.cut (jD.fir4 (q:=qq) (jJ G) yR2 (by kernel_rfl) rfl rfl (mY1 ..) (show NGG≤H0.lo by rw[jW];decide) ?_);rw[eA1]
  simp(disch:=first|omega|(apply id;simp only[push_cast];try omega))only[push_cast,simprocAttr]
  refine WD.loop4 (q:=qq) (jJ G) (by kernel_rfl) (I100 D e x k n t ee l) ?_ _ _ (I100.mk 0 0 _ false false false false rfl (Nat.zero_le _) (by simp(disch:=first|omega|(apply id;simp only[push_cast];try omega))only[push_cast,simprocAttr];first|done|rfl) (by simp(disch:=first|omega|(apply id;simp only[push_cast];try omega))only[push_cast,simprocAttr];first|done|rfl) (by simp(disch:=first|omega|(apply id;simp only[push_cast];try omega))only[push_cast,simprocAttr];first|done|rfl) ⟨rfl,rfl,rfl,rfl⟩ rfl (by first|assumption|(simp(disch:=first|omega|(apply id;simp only[push_cast];try omega))only[push_cast,simprocAttr];try omega)))
  intro m s1 hI
  cases hI with|mk i iv h a b c d hiv hi c0 c1 c2 har hl1 hl2=>
  subst hiv
  rw[lW0]
  by_cases hil:(i:Int)<l.length∧(i:Int)<2
  ·obtain ⟨hil,hi2⟩:=hil
   obtain ⟨y,hy⟩:=jM (l:=l) (i:=i) (by omega)
   have hp:=qP0 hy
   have hle:i*8+8≤l.length*8:=by omega
   simp(disch:=first|omega|(apply id;simp only[push_cast];try omega))only[push_cast,simprocAttr,hil,hi2,c0,hp,hle,Int.toNat_natCast,hl1]
   refine jB.dataEI (ih y (List.mem_of_getElem? hy)) (by and_intros<;>first|rfl|(simp(disch:=first|omega|(apply id;simp only[push_cast];try omega))only[push_cast])) ?_
   intro _ hd
   obtain rfl:=hd
   refine ⟨rfl,?_⟩
   unfold twoV
   have hn0:=hnext hy 0
   have hn1:=hnext hy 1
   obtain ⟨ha1,ha2,ha3,ha4⟩:=har
   generalize wC0 D e x y=r at hn0 hn1 ⊢
   obtain ⟨aa,bb⟩:=r
   obtain rfl|rfl:i=0∨i=1:=by omega
   ·simp(disch:=first|omega|(apply id;simp only[push_cast];try omega))only[push_cast,simprocAttr,c1,c2,hl1]
    exact ⟨_,by omega,I100.mk (0+1) _ _ aa b bb d (by first|rfl|omega) (by omega) (by first|assumption|(simp(disch:=first|omega|(apply id;simp only[push_cast];try omega))only[push_cast,simprocAttr,c0];try omega)) (by first|assumption|(simp(disch:=first|omega|(apply id;simp only[push_cast];try omega))only[push_cast,simprocAttr,c1];try omega)) (by first|assumption|(simp(disch:=first|omega|(apply id;simp only[push_cast];try omega))only[push_cast,simprocAttr,c2];try omega)) ⟨by rw[hn0,if_pos rfl],by rw[hn1,if_neg (by decide)];exact ha2,by rw[hn0,if_pos rfl],by rw[hn1,if_neg (by decide)];exact ha4⟩ (by first|assumption|(simp(disch:=first|omega|(apply id;simp only[push_cast];try omega))only[push_cast,simprocAttr,hl1];try omega)) (by first|assumption|(simp(disch:=first|omega|(apply id;simp only[push_cast];try omega))only[push_cast,simprocAttr];try omega))⟩
   ·simp(disch:=first|omega|(apply id;simp only[push_cast];try omega))only[push_cast,simprocAttr,c1,c2,hl1]
    exact ⟨_,by omega,I100.mk (1+1) _ _ a aa c bb (by first|rfl|omega) (by omega) (by first|assumption|(simp(disch:=first|omega|(apply id;simp only[push_cast];try omega))only[push_cast,simprocAttr,c0];try omega)) (by first|assumption|(simp(disch:=first|omega|(apply id;simp only[push_cast];try omega))only[push_cast,simprocAttr,c1];try omega)) (by first|assumption|(simp(disch:=first|omega|(apply id;simp only[push_cast];try omega))only[push_cast,simprocAttr,c2];try omega)) ⟨by rw[hn0,if_neg (by decide)];exact ha1,by rw[hn1,if_pos rfl],by rw[hn0,if_neg (by decide)];exact ha3,by rw[hn1,if_pos rfl]⟩ (by first|assumption|(simp(disch:=first|omega|(apply id;simp only[push_cast];try omega))only[push_cast,simprocAttr,hl1];try omega)) (by first|assumption|(simp(disch:=first|omega|(apply id;simp only[push_cast];try omega))only[push_cast,simprocAttr];try omega))⟩
  ·by_cases hil0:(i:Int)<l.length
   ·have hi2:¬ (i:Int)<2:=fun h2=>hil ⟨hil0,h2⟩
    simp(disch:=first|omega|(apply id;simp only[push_cast];try omega))only[push_cast,simprocAttr,hil0,hi2,c0]
    rw[← hend (by omega) har]
    exact pB0 G D e x hD he hx k n t ee l h a b c d c0 c1 c2 hl1
   ·simp(disch:=first|omega|(apply id;simp only[push_cast];try omega))only[push_cast,simprocAttr,hil0,c0]
    rw[← hend (by omega) har]
    exact pB0 G D e x hD he hx k n t ee l h a b c d c0 c1 c2 hl1
 termination_by p=>SizeOf.sizeOf p
def cf:List Bool→Nat
 | []=>0
 | b :: l=>(if b then 0 else 1)+cf l
theorem bI1:∀ (l:List Bool) (i:Nat) (b:Bool),i<l.length→(l.getD i false=true→b=true)→cf (l.set i b)+(if b=true∧l.getD i false=false then 1 else 0)=cf l
 | [],i,b,h,_=>by simp at h
 | x :: l,0,b,h,hm=>by
  cases x<;>cases b<;>simp[cf] at hm ⊢
  omega
 | x :: l,i+1,b,h,hm=>by
  have:=bI1 l i b (by simpa using h) (by simpa using hm)
  simp only[List.set_cons_succ,cf,List.getD_cons_succ]
  omega
theorem eX0 (l:List Bool) (i:Nat) (b:Bool) (h:i<l.length):(bvs l).take i++[.bool b]++(bvs l).drop (i+1)=bvs (l.set i b):=by
 simp only[bvs]
 rw[List.set_eq_take_append_cons_drop,if_pos h,List.map_append,List.map_cons,List.map_take,List.map_drop,List.append_assoc]
 rfl
theorem lP0 {V Sk:List (List UInt8)} {p:Pg} (hs:∀ x∈p.d,smP V Sk x.2=true) {i:Nat} {x:List UInt8×Pr} (h:p.d[i]?=some x):smP V Sk x.2=true:=hs x (List.mem_of_getElem? h)
abbrev BX:=List Bool×List Bool×Bool
def dT1 (p:Pg) (t:BX) (i:Nat):BX:=
 let r:=wC0 (p.d.map Prod.fst) t.1 t.2.1 ((p.d.map Prod.snd).getD i (.mk 0 [] [] (.mk 0 0 [] []) []))
 if (r.1&&!t.1.getD i false || r.2&&!t.2.1.getD i false)=true then (t.1.set i (t.1.getD i false || r.1),t.2.1.set i (t.2.1.getD i false || r.2),true) else t
def lZ0 (p:Pg) (e x:List Bool) (n:Nat):BX:=(List.range n).foldl (dT1 p) (e,x,false)
theorem tE1 (p:Pg) (e x:List Bool) (n:Nat):lZ0 p e x (n+1)=dT1 p (lZ0 p e x n) n:=by
 unfold lZ0;rw[List.range_succ,List.foldl_append];rfl
def itS (p:Pg):Nat→BX
 | 0=>(List.replicate p.d.length false,List.replicate p.d.length false,true)
 | k+1=>if (itS p k).2.2=true then lZ0 p (itS p k).1 (itS p k).2.1 p.d.length else itS p k
theorem zS1 (p:Pg) (k m:Nat) (h:(itS p k).2.2=false):itS p (k+m)=itS p k:=by
 induction m with
 | zero=>rfl
 | succ m ih=>rw[← Nat.add_assoc,itS,ih,if_neg (by rw[h];decide)]
theorem fI1 (p:Pg) {k m:Nat} (h1:(itS p k).2.2=false) (h2:(itS p m).2.2=false):itS p k=itS p m:=by
 rcases Nat.le_total k m with h|h
 ·obtain ⟨j,rfl⟩:=Nat.exists_eq_add_of_le h;rw[zS1 p k j h1]
 ·obtain ⟨j,rfl⟩:=Nat.exists_eq_add_of_le h;rw[zS1 p m j h2]
inductive I98b (p:Pg) (eo xo:List Bool) (bE bX μ:Nat):Nat→S→Prop
 | mk (i : Nat) (iv : Int) (h : jA) (e x : List Bool) (ag : Bool) {x0 x2 x3 x8 x9 xA xB xC xD xE xF xG xH xI xJ xK xL xM xN xO xP xQ xR xS xT xU xV xW xX xY xZ yA yB yC yD yE yF yG yH yI yJ yK yL yM yN yO yP yQ yR yS yT yU yV yW yX yY yZ zA zB zC zD zE zF zG zH zI zJ zK zL zM zN zO zP zQ zR zS zT zU zV zW zX zY zZ wA wB wC wD wE wF wG wH wI wJ wK : Value} (hiv : iv = (i : Int)) (hi : i ≤ p.d.length)
   (c0:cells h 1=some (pgC p,73,false)) (cE:cells h bE=some (bvs e,eB,false)) (cX:cells h bX=some (bvs x,eB,false))
   (cm:cells h 4=some ([Rw false eS p.d.length (nss (p.d.map Prod.fst)),.slice (some ⟨bE,0,none⟩) p.d.length p.d.length,.slice (some ⟨bX,0,none⟩) p.d.length p.d.length],tMy,false))
   (he:e.length=p.d.length) (hx:x.length=p.d.length) (hp:lZ0 p eo xo i=(e,x,ag)) (hμ:cf e+cf x+(if ag=true then 1 else 0)≤μ) (hl1:h.lo=1) (hl2:5≤h.next) :
  I98b p eo xo bE bX μ (p.d.length-i) ⟨(F99 x0 (.pointer (some ⟨1,0,none⟩)) x2 x3 (Rw false eS p.d.length (nss (p.d.map Prod.fst))) (.pointer (some ⟨4,0,none⟩)) (.bool ag) (.int .i64 iv) x8 x9 xA xB xC xD xE xF xG xH xI xJ xK xL xM xN xO xP xQ xR xS xT xU xV xW xX xY xZ yA yB yC yD yE yF yG yH yI yJ yK yL yM yN yO yP yQ yR yS yT yU yV yW yX yY yZ zA zB zC zD zE zF zG zH zI zJ zK zL zM zN zO zP zQ zR zS zT zU zV zW zX zY zZ wA wB wC wD wE wF wG wH wI wJ wK),[],h⟩
inductive I98 (p:Pg) (bE bX:Nat):Nat→S→Prop
 | mk (h : jA) (e x : List Bool) (ag : Bool) {x0 x2 x3 x7 x8 x9 xA xB xC xD xE xF xG xH xI xJ xK xL xM xN xO xP xQ xR xS xT xU xV xW xX xY xZ yA yB yC yD yE yF yG yH yI yJ yK yL yM yN yO yP yQ yR yS yT yU yV yW yX yY yZ zA zB zC zD zE zF zG zH zI zJ zK zL zM zN zO zP zQ zR zS zT zU zV zW zX zY zZ wA wB wC wD wE wF wG wH wI wJ wK : Value}
   (c0:cells h 1=some (pgC p,73,false)) (cE:cells h bE=some (bvs e,eB,false)) (cX:cells h bX=some (bvs x,eB,false))
   (cm:cells h 4=some ([Rw false eS p.d.length (nss (p.d.map Prod.fst)),.slice (some ⟨bE,0,none⟩) p.d.length p.d.length,.slice (some ⟨bX,0,none⟩) p.d.length p.d.length],tMy,false))
   (he:e.length=p.d.length) (hx:x.length=p.d.length) (hk:∃ k,itS p k=(e,x,ag)) (hl1:h.lo=1) (hl2:5≤h.next) :
  I98 p bE bX (2*(cf e+cf x)+(if ag=true then 1 else 0)) ⟨(F99 x0 (.pointer (some ⟨1,0,none⟩)) x2 x3 (Rw false eS p.d.length (nss (p.d.map Prod.fst))) (.pointer (some ⟨4,0,none⟩)) (.bool ag) x7 x8 x9 xA xB xC xD xE xF xG xH xI xJ xK xL xM xN xO xP xQ xR xS xT xU xV xW xX xY xZ yA yB yC yD yE yF yG yH yI yJ yK yL yM yN yO yP yQ yR yS yT yU yV yW yX yY yZ zA zB zC zD zE zF zG zH zI zJ zK zL zM zN zO zP zQ zR zS zT zU zV zW zX zY zZ wA wB wC wD wE wF wG wH wI wJ wK),[],h⟩
theorem yO0 (V Sk:List (List UInt8)) (p:Pg) (hv:p.v.length≤20) (hd:p.d.length≤20) (hn:1≤p.d.length) (hs:∀ x∈p.d,smP V Sk x.2=true) (bE bX:Nat) (hb:(bE=2∧bX=3)∨(bE=3∧bX=2))
  (m:Nat) (s:S) (hI:I98 p bE bX m s) {R:jQ→S→Prop} (hR:∀ (h:jA) (e x:List Bool) {x0 x2 x3 x6 x7 x8 x9 xA xB xC xD xE xF xG xH xI xJ xK xL xM xN xO xP xQ xR xS xT xU xV xW xX xY xZ yA yB yC yD yE yF yG yH yI yJ yK yL yM yN yO yP yQ yR yS yT yU yV yW yX yY yZ zA zB zC zD zE zF zG zH zI zJ zK zL zM zN zO zP zQ zR zS zT zU zV zW zX zY zZ wA wB wC wD wE wF wG wH wI wJ wK:Value},e.length=p.d.length→x.length=p.d.length→(∃ k,itS p k=(e,x,false))→h.lo=1→cells h bE=some (bvs e,eB,false)→cells h bX=some (bvs x,eB,false)→
   cells h 4=some ([Rw false eS p.d.length (nss (p.d.map Prod.fst)),.slice (some ⟨bE,0,none⟩) p.d.length p.d.length,.slice (some ⟨bX,0,none⟩) p.d.length p.d.length],tMy,false)→
   R (.exit 0) ⟨(F99 x0 (.pointer (some ⟨1,0,none⟩)) x2 x3 (Rw false eS p.d.length (nss (p.d.map Prod.fst))) (.pointer (some ⟨4,0,none⟩)) x6 x7 x8 x9 xA xB xC xD xE xF xG xH xI xJ xK xL xM xN xO xP xQ xR xS xT xU xV xW xX xY xZ yA yB yC yD yE yF yG yH yI yJ yK yL yM yN yO yP yQ yR yS yT yU yV yW yX yY yZ zA zB zC zD zE zF zG zH zI zJ zK zL zM zN zO zP zQ zR zS zT zU zV zW zX zY zZ wA wB wC wD wE wF wG wH wI wJ wK),[],h⟩) :
  WD (pp G) qq.H none (.loop eC0) s R:=by
 have hbE:1≤bE∧bE<4:=by omega
 have hbX:1≤bX∧bX<4:=by omega
 have hEX:¬ bE=bX:=by omega
 have hXE:¬ bX=bE:=by omega
 have hE0:¬ 1=bE:=by omega
 have hX0:¬ 1=bX:=by omega
 have hE3:¬ 4=bE:=by omega
 have hX3:¬ 4=bX:=by omega
 refine WD.loop4 (q:=qq) (jJ G) (by kernel_rfl) (I98 p bE bX) ?_ _ _ hI
 clear hI s m
 intro m s1 hI
 cases hI with|mk h e x ag c0 cE cX cm he hx hk hl1 hl2=>
 rw[pX0]
 cases ag with
 | false=>
  simp(disch:=first|omega|(apply id;simp only[push_cast];try omega))only[push_cast,simprocAttr]
  exact hR h e x he hx hk hl1 cE cX cm
 | true=>
  simp(disch:=first|omega|(apply id;simp only[push_cast];try omega))only[push_cast,simprocAttr]
  refine WD.loop4 (q:=qq) (jJ G) (by kernel_rfl) (I98b p e x bE bX (cf e+cf x)) ?_ _ _ (I98b.mk 0 0 _ e x false rfl (Nat.zero_le _) c0 cE cX cm he hx rfl (by simp) hl1 hl2)
  have hμ0:∃ μ,μ=cf e+cf x:=⟨_,rfl⟩
  obtain ⟨μ,hμ0⟩:=hμ0
  rw[← hμ0]
  clear c0 cE cX cm he hx hl1 hl2 hμ0
  clear h
  revert hk
  generalize e=eo
  generalize x=xo
  clear e x
  intro hk m s2 hI
  cases hI with|mk i iv h e x ag hiv hi c0 cE cX cm he hx hps hμ hl1 hl2=>
  subst hiv
  rw[pW0]
  have c0':=c0
  unfold pgC at c0'
  have hdl:=eU0 p.d
  by_cases hil:(i:Int)<p.d.length
  ·obtain ⟨y,hy⟩:=jM (l:=p.d) (i:=i) (by omega)
   have hg:=(eV0 hy).2
   have hle:i*9+9≤p.d.length*9:=by omega
   simp(disch:=first|omega|(apply id;simp only[push_cast];try omega))only[push_cast,simprocAttr,hil,c0',hdl,hg,hle,Int.toNat_natCast,hl1]
   have hz:FzL (pp G).P h.lo h [Rw false eS p.d.length (nss (p.d.map Prod.fst)),.slice (some ⟨bE,0,none⟩) p.d.length p.d.length,.slice (some ⟨bX,0,none⟩) p.d.length p.d.length] (myC (p.d.map Prod.fst) e x):=by
    unfold myC nsV bvV
    rw[List.length_map,he,hx]
    exact .cons (.id (cK0 _ (by omega) _ _ _)) (.cons (.sl (size:=1) (by omega) cE rfl (by decide) (by rw[jH0];omega) (.inl ⟨by simp only[UC];omega,Nat.le_refl _⟩) (by rw[List.drop_zero,List.take_of_length_le (by rw[jH0];omega)];exact .ids (kM0 _ _))) (.cons (.sl (size:=1) (by omega) cX rfl (by decide) (by rw[jH0];omega) (.inl ⟨by simp only[UC];omega,Nat.le_refl _⟩) (by rw[List.drop_zero,List.take_of_length_le (by rw[jH0];omega)];exact .ids (kM0 _ _))) .nil))
   refine jB.lendE (bN1 G V Sk (p.d.map Prod.fst) e x (by rw[List.length_map];omega) (by rw[List.length_map];exact he) (by rw[List.length_map];exact hx) y.2 (lP0 hs hy)) (.cons (.ptr (by omega) cm (by simp) hz) (.cons (.id (zA1 _ (by omega) _)) .nil)) ?_
   intro _ hd
   obtain rfl:=hd
   refine ⟨rfl,?_⟩
   have hstep:lZ0 p eo xo (i+1)=dT1 p (e,x,ag) i:=by rw[tE1,hps]
   have hbody:(p.d.map Prod.snd).getD i (.mk 0 [] [] (.mk 0 0 [] []) [])=y.2:=by rw[List.getD_eq_getElem?_getD,List.getElem?_map,hy];rfl
   unfold dT1 at hstep
   simp only[hbody] at hstep
   generalize wC0 (p.d.map Prod.fst) e x y.2=r at hstep ⊢
   obtain ⟨aa,bb⟩:=r
   unfold twoV
   dsimp only at hstep ⊢
   have gE:=qY0 (l:=e) (i:=i) (by omega)
   have gX:=qY0 (l:=x) (i:=i) (by omega)
   have hile:i<e.length:=by omega
   have hilx:i<x.length:=by omega
   have sE:=fun b=>eX0 e i b hile
   have sX:=fun b=>eX0 x i b hilx
   have qE:=fun b=>bI1 e i b hile
   have qX:=fun b=>bI1 x i b hilx
   generalize e.getD i false=ei at gE qE hstep
   generalize x.getD i false=xi at gX qX hstep
   have fin : ∀ (b1 b2 : Bool) {x0 x2 x3 x8 x9 xA xB xC xD xE xF xG xH xI xJ xK xL xM xN xO xP xQ xR xS xT xU xV xW xX xY xZ yA yB yC yD yE yF yG yH yI yJ yK yL yM yN yO yP yQ yR yS yT yU yV yW yX yY yZ zA zB zC zD zE zF zG zH zI zJ zK zL zM zN zO zP zQ zR zS zT zU zV zW zX zY zZ wA wB wC wD wE wF wG wH wI wJ wK : Value}, (ei = true → b1 = true) → (xi = true → b2 = true) → ((b1 = true ∧ ei = false) ∨ (b2 = true ∧ xi = false)) → lZ0 p eo xo (i + 1) = (e.set i b1, x.set i b2, true) →
     ∃ m,m<p.d.length-i∧I98b p eo xo bE bX μ m ⟨(F99 x0 (.pointer (some ⟨1,0,none⟩)) x2 x3 (Rw false eS p.d.length (nss (p.d.map Prod.fst))) (.pointer (some ⟨4,0,none⟩)) (.bool true) (.int .i64 ((i:Int)+1)) x8 x9 xA xB xC xD xE xF xG xH xI xJ xK xL xM xN xO xP xQ xR xS xT xU xV xW xX xY xZ yA yB yC yD yE yF yG yH yI yJ yK yL yM yN yO yP yQ yR yS yT yU yV yW yX yY yZ zA zB zC zD zE zF zG zH zI zJ zK zL zM zN zO zP zQ zR zS zT zU zV zW zX zY zZ wA wB wC wD wE wF wG wH wI wJ wK),[],(h.put bE (O (bvs (e.set i b1)) eB false)).put bX (O (bvs (x.set i b2)) eB false)⟩:=by
    intro b1 b2
    intros
    rename_i k1 k2 k3 k4
    have q1:=qE b1 k1
    have q2:=qX b2 k2
    refine ⟨_,by omega,I98b.mk (i+1) _ _ (e.set i b1) (x.set i b2) true (by first|rfl|omega) (by omega) ?_ ?_ ?_ ?_ (by simp[he]) (by simp[hx]) k4 ?_ ?_ ?_⟩
    iterate 4 exact (by first|assumption|(simp(disch:=first|omega|(apply id;simp only[push_cast];try omega))only[push_cast,simprocAttr,c0,hE0,hX0,hEX,hXE,cm,hE3,hX3];try omega))
    ·rw[if_pos rfl]
     rcases k3 with k3|k3
     ·rw[if_pos k3] at q1;omega
     ·rw[if_pos k3] at q2;omega
    iterate 2 exact (by first|assumption|(simp(disch:=first|omega|(apply id;simp only[push_cast];try omega))only[push_cast,simprocAttr,hl1];try omega))
   cases aa<;>cases bb<;>cases ei<;>cases xi<;>(simp(disch:=first|omega|(apply id;simp only[push_cast];try omega))only[push_cast,simprocAttr,cm,cE,cX,gE,gX,hl1,hil,hile,hilx,Int.toNat_natCast,Bool.not_true,Bool.not_false,sE,sX,hE3,hX3,hEX,hXE,hE0,hX0])<;>
    first
    | exact fin true true (by simp) (by simp) (by simp) (by simpa using hstep)
    | exact fin true false (by simp) (by simp) (by simp) (by simpa using hstep)
    | exact fin false true (by simp) (by simp) (by simp) (by simpa using hstep)
    | exact ⟨_,by omega,I98b.mk (i+1) _ h e x ag (by first | rfl | omega) (by omega) c0 cE cX cm he hx (by simpa using hstep) hμ hl1 hl2⟩
  ·simp(disch:=first|omega|(apply id;simp only[push_cast];try omega))only[push_cast,simprocAttr,hil]
   refine ⟨_,?_,I98.mk h e x ag c0 cE cX cm he hx (by
    obtain ⟨k,hk⟩:=hk
    refine ⟨k+1,?_⟩
    rw[itS,hk,if_pos rfl,← hps]
    congr 1;omega) hl1 hl2⟩
   cases ag<;>simp at hμ ⊢<;>omega
attribute [push_cast] zW2
theorem wY2 (n:Nat) (l:List Value):sc n (.tuple ⟨l⟩)=scL n l:=rfl
theorem eE1 (n:Nat) (v:Value) (l:List Value):scL n (v :: l)=(sc n v&&scL n l):=rfl
theorem sJ1 (n:Nat):scL n []=true:=rfl
attribute [push_cast] wY2 eE1 sJ1 Bool.and_true Bool.and_self
theorem gR0 (n:Nat):(List.replicate n [Value.bool false]).flatten=bvs (List.replicate n false):=by
 induction n with
 | zero=>rfl
 | succ n ih=>rw[List.replicate_succ,List.replicate_succ,List.flatten_cons,ih];rfl
def MayOf (p:Pg) (d:Value):Prop:=∃ e x:List Bool,d=my (p.d.map Prod.fst) e x∧e.length=p.d.length∧x.length=p.d.length∧∃ k,itS p k=(e,x,false)
theorem dZ1 (V Sk:List (List UInt8)) (p:Pg) (hv:p.v.length≤20) (hd:p.d.length≤20) (hn:1≤p.d.length) (hs:∀ x∈p.d,smP V Sk x.2=true) :
  qL (pp G) H0 98 [pgV p] (MayOf p):=by
 have hlo:H0.lo≤H0.next:=Nat.le_refl _;refine qL.cut (jD.fir4 (q:=qq) (jJ G) fir98 (by kernel_rfl) rfl rfl (uE2 ..) (show NGG≤H0.lo by rw[jW];decide) ?_);rw[pR1]
 unfold pgV
 have hpo:(pgC p).all one=true:=rfl
 have hpl:(pgC p).length=3:=rfl
 have hpt:(pgC p).take 3=pgC p:=rfl
 simp(disch:=first|omega|(apply id;simp only[push_cast];try omega))only[push_cast,simprocAttr,hpo,hpl,hpt]
 rw[show Value.agg ⟨pgC p⟩=pgV p from rfl]
 refine jB.dataI (zH1 G p hv hd) (by and_intros<;>first|rfl|(simp(disch:=first|omega|(apply id;simp only[push_cast];try omega))only[push_cast])) ?_
 unfold nsV
 have hln:(p.d.map Prod.fst).length=p.d.length:=List.length_map ..
 have h1:(p.d.length:Int)*1+p.d.length<100000000000000:=by omega
 simp(disch:=first|omega|(apply id;simp only[push_cast];try omega))only[push_cast,simprocAttr,hln,h1]
 refine ⟨?_,?_⟩
 ·refine yO0 G V Sk p hv hd hn hs 2 3 (.inl ⟨rfl,rfl⟩) _ _ (I98.mk _ (List.replicate p.d.length false) (List.replicate p.d.length false) true ?_ ?_ ?_ ?_ (by simp) (by simp) ⟨0,rfl⟩ ?_ ?_) ?_
  ·first|assumption|(simp(disch:=first|omega|(apply id;simp only[push_cast];try omega))only[push_cast,simprocAttr];try omega)
  ·rw[← gR0];exact (by first|assumption|(simp(disch:=first|omega|(apply id;simp only[push_cast];try omega))only[push_cast,simprocAttr,Int.toNat_natCast];try omega))
  ·rw[← gR0];exact (by first|assumption|(simp(disch:=first|omega|(apply id;simp only[push_cast];try omega))only[push_cast,simprocAttr,Int.toNat_natCast];try omega))
  iterate 3 exact (by first|assumption|(simp(disch:=first|omega|(apply id;simp only[push_cast];try omega))only[push_cast,simprocAttr,Int.toNat_natCast];try omega))
  ·intro h e x
   intros
   rename_i he hx hk hl1 cE cX cm
   simp(disch:=first|omega|(apply id;simp only[push_cast];try omega))only[push_cast,simprocAttr]
   rw[bT0]
   simp(disch:=first|omega|(apply id;simp only[push_cast];try omega))only[push_cast,simprocAttr]
   refine ⟨_,⟨e,x,rfl,he,hx,hk⟩,?_⟩
   unfold my myC nsV bvV
   rw[List.length_map,he,hx]
   have hz:∀ (b:Nat) (l:List Bool),1≤b→l.length=p.d.length→cells h b=some (bvs l,eB,false)→FzV (pp G).P 1 h (.slice (some ⟨b,0,none⟩) p.d.length p.d.length) (Rw false eB p.d.length (bvs l)):=fun b l hb hl hc=>
    .sl (size:=1) (by omega) hc rfl (by decide) (by rw[jH0];omega) (.inl ⟨by simp only[UC];omega,Nat.le_refl _⟩) (by rw[List.drop_zero,List.take_of_length_le (by rw[jH0];omega)];exact .ids (kM0 _ _))
   exact .ptr (by omega) cm (by simp) (.cons (.id (cK0 _ (by omega) _ _ _)) (.cons (hz _ e (by omega) he cE) (.cons (hz _ x (by omega) hx cX) .nil)))
 ·refine yO0 G V Sk p hv hd hn hs 3 2 (.inr ⟨rfl,rfl⟩) _ _ (I98.mk _ (List.replicate p.d.length false) (List.replicate p.d.length false) true ?_ ?_ ?_ ?_ (by simp) (by simp) ⟨0,rfl⟩ ?_ ?_) ?_
  ·first|assumption|(simp(disch:=first|omega|(apply id;simp only[push_cast];try omega))only[push_cast,simprocAttr];try omega)
  ·rw[← gR0];exact (by first|assumption|(simp(disch:=first|omega|(apply id;simp only[push_cast];try omega))only[push_cast,simprocAttr,Int.toNat_natCast];try omega))
  ·rw[← gR0];exact (by first|assumption|(simp(disch:=first|omega|(apply id;simp only[push_cast];try omega))only[push_cast,simprocAttr,Int.toNat_natCast];try omega))
  iterate 3 exact (by first|assumption|(simp(disch:=first|omega|(apply id;simp only[push_cast];try omega))only[push_cast,simprocAttr,Int.toNat_natCast];try omega))
  ·intro h e x
   intros
   rename_i he hx hk hl1 cE cX cm
   simp(disch:=first|omega|(apply id;simp only[push_cast];try omega))only[push_cast,simprocAttr]
   rw[bT0]
   simp(disch:=first|omega|(apply id;simp only[push_cast];try omega))only[push_cast,simprocAttr]
   refine ⟨_,⟨e,x,rfl,he,hx,hk⟩,?_⟩
   unfold my myC nsV bvV
   rw[List.length_map,he,hx]
   have hz:∀ (b:Nat) (l:List Bool),1≤b→l.length=p.d.length→cells h b=some (bvs l,eB,false)→FzV (pp G).P 1 h (.slice (some ⟨b,0,none⟩) p.d.length p.d.length) (Rw false eB p.d.length (bvs l)):=fun b l hb hl hc=>
    .sl (size:=1) (by omega) hc rfl (by decide) (by rw[jH0];omega) (.inl ⟨by simp only[UC];omega,Nat.le_refl _⟩) (by rw[List.drop_zero,List.take_of_length_le (by rw[jH0];omega)];exact .ids (kM0 _ _))
   exact .ptr (by omega) cm (by simp) (.cons (.id (cK0 _ (by omega) _ _ _)) (.cons (hz _ e (by omega) he cE) (.cons (hz _ x (by omega) hx cX) .nil)))
mutual
def qT0 (D:List (List UInt8)) (e x:List Bool):Pr→List Bool→List Bool
 | .mk k n _ _ l=>fun is=>
  if k=13 then (if 0≤qH D n then is.set (qH D n).toNat true else is)
  else if k=12 then (if (wC0 D e x (l.getD 0 (.mk 0 [] [] (.mk 0 0 [] []) []))).1=true then (bH D e x l).getD 1 id ((bH D e x l).getD 0 id is) else (bH D e x l).getD 0 id is)
  else (bH D e x l).foldl (fun a f=>f a) is
def bH (D:List (List UInt8)) (e x:List Bool):List Pr→List (List Bool→List Bool)
 | []=>[]
 | y :: l=>qT0 D e x y :: bH D e x l
end
theorem wX0 (D:List (List UInt8)) (e x:List Bool) (k:Int) (n t:List UInt8) (ee:Ex) (l:List Pr) (is:List Bool):qT0 D e x (.mk k n t ee l) is =
  if k=13 then (if 0≤qH D n then is.set (qH D n).toNat true else is)
  else if k=12 then (if (wC0 D e x (l.getD 0 (.mk 0 [] [] (.mk 0 0 [] []) []))).1=true then (bH D e x l).getD 1 id ((bH D e x l).getD 0 id is) else (bH D e x l).getD 0 id is)
  else (bH D e x l).foldl (fun a f=>f a) is:=by rw[qT0]
theorem zY0 (D:List (List UInt8)) (e x:List Bool):∀ l:List Pr,bH D e x l=l.map (qT0 D e x)
 | []=>rfl
 | y :: l=>by rw[bH,zY0 D e x l];rfl
def FrR (σ:jA) (b n:Nat) (is1:List Bool) (v:Value) (σ':jA):Prop:=v=undef∧∃ is:List Bool,is=is1∧is.length=n∧σ'=σ.put b (O (bvs is) eB false)
inductive I99 (D:List (List UInt8)) (e x:List Bool) (σ:jA) (b:Nat) (p:Pr) (is0:List Bool):Nat→S→Prop
 | mk (i : Nat) (iv : Int) (h : jA) (is : List Bool) {x1 x3 x5 x6 x7 x8 xA xB xC xD xE xF xG xH xI xJ xK xL xM xN xO xP xQ xR xS xT xU xV xW xX xY xZ yA yB yC yD yE yF yG yH yI yJ yK yL yM yN yO yP yQ yR yS yT yU yV yW yX yY yZ zA zB zC zD zE : Value} (hiv : iv = (i : Int)) (hi : i ≤ p.l.length)
   (cb:cells h b=some (bvs is,eB,false)) (hl:is.length=D.length) (c0:cells h σ.next=some (prC p,epr,false)) (hf:is=((bH D e x p.l).take i).foldl (fun a f=>f a) is0) (g:jC σ h (fun k=>k=b)) (hl2:σ.next+1≤h.next) :
  I99 D e x σ b p is0 (p.l.length-i) ⟨(F67 (my D e x) x1 (.slice (some ⟨b,0,none⟩) D.length D.length) x3 (.pointer (some ⟨σ.next,0,none⟩)) x5 x6 x7 x8 (.int .i64 iv) xA xB xC xD xE xF xG xH xI xJ xK xL xM xN xO xP xQ xR xS xT xU xV xW xX xY xZ yA yB yC yD yE yF yG yH yI yJ yK yL yM yN yO yP yQ yR yS yT yU yV yW yX yY yZ zA zB zC zD zE),[],h⟩
theorem qS0 {σ h:jA} {b n:Nat} {P:Program} {is:List Bool} (hb1:σ.lo≤b) (hb0:0<σ.next) (hb:b<σ.next) (hc:cells h b=some (bvs is,eB,false)) (hl:is.length=n) (g:jC σ h (fun k=>k=b)) {is1:List Bool} (hi1:is=is1) :
  ∃ d σ1,FrR σ b n is1 d σ1∧FzV P σ1.next h undef d∧bM P σ σ1 h:=
 ⟨undef,_,⟨rfl,is,hi1,hl,rfl⟩,.id rfl,.put1 g hb hb1 hc (.ids (kM0 _ _)) (mX0 _)⟩
theorem gK1 (V Sk D:List (List UInt8)) (e x:List Bool) (hD:D.length<1000000000000000) (he:e.length=D.length) (hx:x.length=D.length):∀ (p:Pr),smP V Sk p=true→∀ (σ:jA) (b:Nat) (is:List Bool) (hc:cells σ b=some (bvs is,eB,false)) (hl:is.length=D.length) (hb1:1≤b) (hb:b<σ.next),
  jD (pp G) H0 99 [my D e x,prV p,.slice (some ⟨b,0,none⟩) D.length D.length] σ (FrR σ b D.length (qT0 D e x p is))
 | .mk k n t ee l,hs,σ,b,is,hc,hl,hb1,hb=>by
  simp only[smP,Bool.and_eq_true,Bool.or_eq_true,decide_eq_true_eq] at hs
  obtain ⟨hll,hse,hk2,hk6,hk12,hsl⟩:=hs
  have ih:∀ y∈l,∀ (σ:jA) (b:Nat) (is:List Bool) (hc:cells σ b=some (bvs is,eB,false)) (hl:is.length=D.length) (hb1:1≤b) (hb:b<σ.next),
   jD (pp G) H0 99 [my D e x,prV y,.slice (some ⟨b,0,none⟩) D.length D.length] σ (FrR σ b D.length (qT0 D e x y is)):=fun y hy=>gK1 V Sk D e x hD he hx y (wJ0 hsl y hy)
  have hsl':=wJ0 hsl
  clear hsl
  refine jD.wlog fun hl0 hH0 hp0 hlo=>?_;rw[kW] at hl0;refine jD.cutE (jD.fir4 (q:=qq) (jJ G) fir99 (by kernel_rfl) rfl rfl (uI2 ..) (by rw[hl0];exact (show NGG≤1 by decide)) ?_);rw[pQ1]
  have hne:¬ b=σ.next:=by omega
  by_cases h13:k=13
  ·subst h13
   simp(disch:=first|omega|(apply id;simp only[push_cast];try omega))only[push_cast,simprocAttr,myC]
   refine jB.dataEI (gG0 G D n hD) (by and_intros<;>first|rfl|(simp(disch:=first|omega|(apply id;simp only[push_cast];try omega))only[push_cast])) ?_
   rintro _ ⟨j,rfl,⟨hj1,hj2⟩,_,hjf⟩
   refine ⟨rfl,?_⟩
   by_cases hj:j ≥ 0
   ·have hjl:j<D.length:=hj2
    have hle:j.toNat<is.length:=by omega
    have hbl:=jH0 is
    have hst:=eX0 is j.toNat true hle
    simp(disch:=first|omega|(apply id;simp only[push_cast];try omega))only[push_cast,simprocAttr,hj,hjl,hle,hc,hbl,hst,hl0,hne]
    refine qS0 (is:=is.set j.toNat true) (by omega) (by omega) hb ?_ (by simp[hl]) ?_ ?_
    ·first|assumption|(simp(disch:=first|omega|(apply id;simp only[push_cast];try omega))only[push_cast,simprocAttr];try omega)
    ·exact (by repeat (first|exact jC.refl _ _|assumption|(refine jC.put'' ?_ _ _ (by intro _;first|rfl|omega|(simp only[push_cast] at *;omega)))|(refine jC.add' ?_ _)))
    ·rw[wX0,if_pos rfl,← hjf,if_pos (by omega)]
   ·simp(disch:=first|omega|(apply id;simp only[push_cast];try omega))only[push_cast,simprocAttr,hj]
    refine qS0 (is:=is) (by omega) (by omega) hb ?_ hl ?_ ?_
    ·first|assumption|(simp(disch:=first|omega|(apply id;simp only[push_cast];try omega))only[push_cast,simprocAttr,hc];try omega)
    ·exact (by repeat (first|exact jC.refl _ _|assumption|(refine jC.put'' ?_ _ _ (by intro _;first|rfl|omega|(simp only[push_cast] at *;omega)))|(refine jC.add' ?_ _)))
    ·rw[wX0,if_pos rfl,← hjf,if_neg (by omega)]
  ·by_cases h12:k=12
   ·subst h12
    obtain ⟨y0,y1,l,rfl⟩:∃ y0 y1 l',l=y0 :: y1 :: l':=by
     match l,hk12 with
     | [],h=>simp at h
     | [_],h=>simp at h
     | y0 :: y1 :: l',_=>exact ⟨_,_,_,rfl⟩
    have h8:8≤(l.length+1+1)*8:=by omega
    have h16:8+8≤(l.length+1+1)*8:=by omega
    have h2l:1<l.length+1+1:=by omega
    simp(disch:=first|omega|(apply id;simp only[push_cast];try omega))only[push_cast,simprocAttr,h8,h16,h2l]
    refine jB.func (cap:=[]) (args:=[_,_,_]) (ih y0 (by simp) _ b is ?_ hl hb1 ?_) ?_
    iterate 2 exact (by first|assumption|(simp(disch:=first|omega|(apply id;simp only[push_cast];try omega))only[push_cast,simprocAttr,hc];try omega))
    rintro _ _ ⟨rfl,is1,hi1,hl1,rfl⟩
    simp(disch:=first|omega|(apply id;simp only[push_cast];try omega))only[push_cast,simprocAttr,h8,h16,h2l]
    refine jB.dataEI (bN1 G V Sk D e x hD he hx y0 (hsl' y0 (by simp))) (by and_intros<;>first|rfl|(simp(disch:=first|omega|(apply id;simp only[push_cast];try omega))only[push_cast])) ?_
    intro _ hd
    obtain rfl:=hd
    refine ⟨rfl,?_⟩
    have hF:∀ aa:Bool,(wC0 D e x y0).1=aa→qT0 D e x (.mk 12 n t ee (y0 :: y1 :: l)) is=if aa=true then qT0 D e x y1 is1 else is1:=fun aa h=>by
     rw[wX0,if_neg (show ¬ (12:Int)=13 by decide),if_pos rfl,hi1]
     simp only[bH,List.getD_cons_zero,List.getD_cons_succ,h]
    generalize wC0 D e x y0=r at hF ⊢
    obtain ⟨aa,bb⟩:=r
    unfold twoV
    dsimp only
    have hF:=hF aa rfl
    cases aa with
    | false=>
     simp(disch:=first|omega|(apply id;simp only[push_cast];try omega))only[push_cast,simprocAttr]
     refine qS0 (is:=is1) (by omega) (by omega) hb ?_ hl1 ?_ ?_
     ·first|assumption|(simp(disch:=first|omega|(apply id;simp only[push_cast];try omega))only[push_cast,simprocAttr];try omega)
     ·exact (by repeat (first|exact jC.refl _ _|assumption|(refine jC.put'' ?_ _ _ (by intro _;first|rfl|omega|(simp only[push_cast] at *;omega)))|(refine jC.add' ?_ _)))
     ·rw[hF];rfl
    | true=>
     simp(disch:=first|omega|(apply id;simp only[push_cast];try omega))only[push_cast,simprocAttr,h8,h16,h2l]
     refine jB.func (cap:=[]) (args:=[_,_,_]) (ih y1 (by simp) _ b is1 ?_ hl1 hb1 ?_) ?_
     iterate 2 exact (by first|assumption|(simp(disch:=first|omega|(apply id;simp only[push_cast];try omega))only[push_cast,simprocAttr];try omega))
     rintro _ _ ⟨rfl,is2,hi2,hl2,rfl⟩
     simp(disch:=first|omega|(apply id;simp only[push_cast];try omega))only[push_cast,simprocAttr]
     refine qS0 (is:=is2) (by omega) (by omega) hb ?_ hl2 ?_ ?_
     ·first|assumption|(simp(disch:=first|omega|(apply id;simp only[push_cast];try omega))only[push_cast,simprocAttr];try omega)
     ·exact (by repeat (first|exact jC.refl _ _|assumption|(refine jC.put'' ?_ _ _ (by intro _;first|rfl|omega|(simp only[push_cast] at *;omega)))|(refine jC.add' ?_ _)))
     ·rw[hF,hi2];rfl
   ·simp(disch:=first|omega|(apply id;simp only[push_cast];try omega))only[push_cast,simprocAttr,h12,h13]
    refine WD.loop4 (q:=qq) (jJ G) (by kernel_rfl) (I99 D e x σ b (.mk k n t ee l) is) ?_ _ _ (I99.mk 0 0 _ is rfl (Nat.zero_le _) ?_ hl ?_ rfl ?_ ?_)
    ·have hF:qT0 D e x (.mk k n t ee l) is=(bH D e x l).foldl (fun a f=>f a) is:=by rw[wX0,if_neg h13,if_neg h12]
     rw[hF]
     clear hF
     generalize is=is0
     clear is hc hl
     intro m s1 hI
     cases hI with|mk i iv h is hiv hi cb hl c0 hfo g hl2=>
     subst hiv
     simp only[Pr.l_mk] at hi hfo
     have hl1:h.lo=1:=by rw[g.lo,hl0]
     rw[pV0]
     by_cases hil:(i:Int)<l.length
     ·obtain ⟨y,hy⟩:=jM (l:=l) (i:=i) (by omega)
      have hp:=qP0 hy
      have hle:i*8+8≤l.length*8:=by omega
      simp(disch:=first|omega|(apply id;simp only[push_cast];try omega))only[push_cast,simprocAttr,hil,c0,hp,hle,Int.toNat_natCast,hl1]
      refine jB.func (cap:=[]) (ih y (List.mem_of_getElem? hy) h b is cb hl hb1 (by omega)) ?_
      rintro _ _ ⟨rfl,is1,hi1,hl1,rfl⟩
      simp(disch:=first|omega|(apply id;simp only[push_cast];try omega))only[push_cast,simprocAttr]
      refine ⟨_,by simp only[Pr.l_mk];omega,I99.mk (i+1) _ _ is1 (by first|rfl|omega) (by simp only[Pr.l_mk];omega) ?_ hl1 ?_ ?_ ?_ ?_⟩
      iterate 2 exact (by first|assumption|(simp(disch:=first|omega|(apply id;simp only[push_cast];try omega))only[push_cast,simprocAttr,c0];try omega))
      ·simp only[Pr.l_mk]
       rw[jL (x:=qT0 D e x y) (by rw[zY0,List.getElem?_map,hy];rfl),List.foldl_append,← hfo]
       exact hi1
      ·exact (by repeat (first|exact jC.refl _ _|assumption|(refine jC.put'' ?_ _ _ (by intro _;first|rfl|omega|(simp only[push_cast] at *;omega)))|(refine jC.add' ?_ _)))
      ·first|assumption|(simp(disch:=first|omega|(apply id;simp only[push_cast];try omega))only[push_cast,simprocAttr];try omega)
     ·simp(disch:=first|omega|(apply id;simp only[push_cast];try omega))only[push_cast,simprocAttr,hil,c0]
      exact qS0 (is:=is) (by omega) (by omega) hb cb hl g (by rw[hfo,List.take_of_length_le (by rw[zY0,List.length_map];omega)])
    ·first|assumption|(simp(disch:=first|omega|(apply id;simp only[push_cast];try omega))only[push_cast,simprocAttr,hc];try omega)
    ·exact (by simp(disch:=first|omega|(apply id;simp only[push_cast];try omega))only[push_cast,simprocAttr];first|done|rfl)
    ·exact (by repeat (first|exact jC.refl _ _|assumption|(refine jC.put'' ?_ _ _ (by intro _;first|rfl|omega|(simp only[push_cast] at *;omega)))|(refine jC.add' ?_ _)))
    ·first|assumption|(simp(disch:=first|omega|(apply id;simp only[push_cast];try omega))only[push_cast,simprocAttr];try omega)
 termination_by p=>SizeOf.sizeOf p
abbrev eBB:Nat:=137
def nQ0 (h:jA) (lo n:Nat) (vs:List Value) (a:Option Addr) (M:List (List Bool)):Prop:=
 ∀ (j:Nat) (v:Value),vs[j]?=some v→∃ b l,v=.slice (some ⟨b,0,none⟩) n n∧cells h b=some (bvs l,eB,false)∧l.length=n∧lo≤b∧b<h.next∧¬ blk a b∧M[j]?=some l
def Dst (vs:List Value):Prop:=∀ (i j:Nat) (v:Value),vs[i]?=some v→vs[j]?=some v→i=j
theorem nQ0.step {h h':jA} {lo n:Nat} {vs:List Value} {q q':Option Addr} {M:List (List Bool)} (hr:nQ0 h lo n vs q M) (hlen:vs.length=M.length) (g:jC h h' (fun k=>blk q k)) (hlo:lo≤h.next) {b:Nat} {l:List Bool} (hc:cells h' b=some (bvs l,eB,false)) (hl:l.length=n) (h2:h.next≤b) (h3:b<h'.next) (h4:¬ blk q' b) (hq:∀ k,blk q' k→blk q k∨h.next≤k):nQ0 h' lo n (vs++[Value.slice (some ⟨b,0,none⟩) n n]) q' (M++[l]):=by
 intro j v h1
 by_cases hj:j<vs.length
 ·rw[List.getElem?_append_left hj] at h1
  obtain ⟨b',l',e,hc',hl',h5,h6,h7,h8⟩:=hr j v h1
  have:=g.next
  refine ⟨b',l',e,g.cellsE hc' h6 h7,hl',h5,by omega,fun hk=>?_,by rw[List.getElem?_append_left (by omega)];exact h8⟩
  rcases hq _ hk with hk|hk
  ·exact h7 hk
  ·omega
 ·rw[List.getElem?_append_right (by omega)] at h1
  have hz:j-vs.length=0:=by
   have:=(List.getElem?_eq_some_iff.1 h1).1
   simp at this
   omega
  rw[hz] at h1
  simp only[List.getElem?_cons_zero,Option.some.injEq] at h1
  subst h1
  exact ⟨b,l,rfl,hc,hl,by omega,h3,h4,by rw[List.getElem?_append_right (by omega),show j-M.length=0 by omega];rfl⟩
theorem Dst.step {h:jA} {lo n:Nat} {vs:List Value} {q:Option Addr} {M:List (List Bool)} (hd:Dst vs) (hr:nQ0 h lo n vs q M) {b:Nat} (h2:h.next≤b):Dst (vs++[Value.slice (some ⟨b,0,none⟩) n n]):=by
 have key:∀ i,vs[i]?≠some (Value.slice (some ⟨b,0,none⟩) n n):=fun i hi=>by
  obtain ⟨b',l',e,_,_,_,h6,_⟩:=hr i _ hi
  cases e
  omega
 have lst:∀ i v,(vs++[Value.slice (some ⟨b,0,none⟩) n n])[i]?=some v→(i<vs.length∧vs[i]?=some v)∨(i=vs.length∧v=Value.slice (some ⟨b,0,none⟩) n n):=fun i v hi=>by
  by_cases h:i<vs.length
  ·rw[List.getElem?_append_left h] at hi;exact .inl ⟨h,hi⟩
  ·have hl:=(List.getElem?_eq_some_iff.1 hi).1
   rw[List.length_append,List.length_singleton] at hl
   rw[List.getElem?_append_right (by omega),show i-vs.length=0 by omega] at hi
   simp only[List.getElem?_cons_zero,Option.some.injEq] at hi
   exact .inr ⟨by omega,hi.symm⟩
 intro i j v h1 h3
 rcases lst i v h1 with ⟨a1,a2⟩|⟨a1,a2⟩<;>rcases lst j v h3 with ⟨c1,c2⟩|⟨c1,c2⟩
 ·exact hd i j v a2 c2
 ·rw[c2] at a2;exact absurd a2 (key i)
 ·rw[a2] at c2;exact absurd c2 (key j)
 ·omega
def frsF (p:Pg) (e x:List Bool):List (List Bool):=p.d.map fun y=>qT0 (p.d.map Prod.fst) e x y.2 (List.replicate p.d.length false)
theorem zG2 (v:Value) (ho:one v=true) (hc:v.cells.toList=[v]) (σ:jA):bsD (qq.m 135) (slT Try.prog 135) 1 [(0,v)] σ=some (Rw true eBB 1 [v],σ):=by
 have:bsD false (some (eBB,1,[Value.slice none 0 0])) 1 [(0,v)] σ=some (Rw true eBB 1 [v],σ):=by
  rw[oP1 _ _ _ _ (by decide)]
  have hf:kV ((List.range 1).map (fun i=>(i*1,1))) (List.replicate 1 [Value.slice none 0 0]).flatten [(0,v)]=some [v]:=by
   simp[kV,hc,setFrom]
  rw[hf]
  exact oQ1 1 (by simp[ho]) (by omega)
 exact this
inductive I95 (p:Pg) (e x:List Bool) (σ:jA):Nat→S→Prop
 | mk (i : Nat) (iv : Int) (h : jA) (q : Option Addr) (c : Nat) (vs : List Value) {x0 x2 x6 x7 x8 x9 xA xB xC xD xE xF xG xH xI xJ xK xL xM xN xO xP xQ xR xS xT xU xV xW xX xY xZ yA yB : Value} (hiv : iv = (i : Int)) (hi : i ≤ p.d.length)
   (c0:cells h σ.next=some (pgC p,73,false)) (ho:qC h eBB 1 q i c vs) (hv:nQ0 h (σ.next+1) p.d.length vs q ((frsF p e x).take i)) (hd:Dst vs) (hq:∀ b,blk q b→σ.next+1≤b) (g:jC σ h (fun _=>False)) (hl2:σ.next+1≤h.next) :
  I95 p e x σ (p.d.length-i) ⟨(F38 x0 (.pointer (some ⟨σ.next,0,none⟩)) x2 (my (p.d.map Prod.fst) e x) (.slice q i c) (.int .i64 iv) x6 x7 x8 x9 xA xB xC xD xE xF xG xH xI xJ xK xL xM xN xO xP xQ xR xS xT xU xV xW xX xY xZ yA yB),[],h⟩
def FrsR (p:Pg) (σ:jA) (v:Value) (σ':jA):Prop:=∃ e x,(∃ k,itS p k=(e,x,false))∧∃ q c vs,v=.slice q p.d.length c∧qC σ' eBB 1 q p.d.length c vs∧nQ0 σ' (σ.next+1) p.d.length vs q (frsF p e x)∧Dst vs∧(∀ b,blk q b→σ.next+1≤b)∧jC σ σ' (fun _=>False)
theorem fQ1 (V Sk:List (List UInt8)) (p:Pg) (hv:p.v.length≤20) (hd:p.d.length≤20) (hn:1≤p.d.length) (hs:∀ x∈p.d,smP V Sk x.2=true) (σ:jA) :
  jD (pp G) H0 95 [pgV p] σ (FrsR p σ):=by
 refine jD.wlog fun hl0 hH0 hp0 hlo=>?_
 rw[kW] at hl0
 refine jD.fir4 (q:=qq) (jJ G) fir95 (by kernel_rfl) rfl rfl (cM1 ..) (by first|exact Nat.le_trans (show NGG≤1 by decide) (by omega)) ?_;rw[pU1]
 unfold pgV
 have hpo:(pgC p).all one=true:=rfl
 have hpl:(pgC p).length=3:=rfl
 have hpt:(pgC p).take 3=pgC p:=rfl
 simp(disch:=first|omega|(apply id;simp only[push_cast];try omega))only[push_cast,simprocAttr,hpo,hpl,hpt]
 rw[show Value.agg ⟨pgC p⟩=pgV p from rfl]
 refine jB.dataEI (dZ1 G V Sk p hv hd hn hs) (by and_intros<;>first|rfl|(simp(disch:=first|omega|(apply id;simp only[push_cast];try omega))only[push_cast])) ?_
 rintro _ ⟨e,x,rfl,he,hx,hk⟩
 refine ⟨kD2 _ (by rw[qP];omega) ..,?_⟩
 simp(disch:=first|omega|(apply id;simp only[push_cast];try omega))only[push_cast,simprocAttr]
 refine WD.loop4 (q:=qq) (jJ G) (by kernel_rfl) (I95 p e x σ) ?_ _ _ (I95.mk 0 0 _ none 0 [] rfl (Nat.zero_le _) ?_ (qC.nil _ _ _) (fun j v h=>by simp at h) (fun i j v h=>by simp at h) (fun b hb=>by obtain ⟨o,s,e⟩:=hb;cases e) ?_ ?_)
 ·intro m s1 hI
  cases hI with|mk i iv h q c vs hiv hi c0 ho hvs hdst hq g hl2=>
  subst hiv
  have hl1:h.lo=1:=by rw[g.lo,hl0]
  rw[pZ0]
  have hln:(p.d.map Prod.fst).length=p.d.length:=List.length_map ..
  have c0':=c0
  unfold pgC at c0'
  have hdl:=eU0 p.d
  by_cases hil:(i:Int)<p.d.length
  ·obtain ⟨y,hy⟩:=jM (l:=p.d) (i:=i) (by omega)
   have hg:=(eV0 hy).2
   have hle:i*9+9≤p.d.length*9:=by omega
   have h1:(p.d.length:Int)*1+p.d.length<100000000000000:=by omega
   unfold my myC nsV
   simp(disch:=first|omega|(apply id;simp only[push_cast];try omega))only[push_cast,simprocAttr,hil,c0',hdl,hg,hle,hln,h1,Int.toNat_natCast,hl1,List.length_map]
   have hmy:Rpt 0 [Rw false eS p.d.length (nss (p.d.map Prod.fst)),bvV e,bvV x]=my (p.d.map Prod.fst) e x:=by unfold my myC nsV;rw[List.length_map]
   rw[hmy]
   have hf:=gK1 G V Sk (p.d.map Prod.fst) e x (by omega) (by omega) (by omega) y.2 (lP0 hs hy) (h.add (O (List.replicate p.d.length [Value.bool false]).flatten 4 false)) h.next (List.replicate p.d.length false) (by rw[← gR0];exact (by first|assumption|(simp(disch:=first|omega|(apply id;simp only[push_cast];try omega))only[push_cast,simprocAttr];try omega))) (by simp) (by omega) (by rw[jR];omega)
   rw[hln] at hf
   refine jB.func (cap:=[]) (args:=[_,_,_]) hf ?_
   rintro _ _ ⟨rfl,is,hise,hisl,rfl⟩
   have gh2:jC h ((h.add (O (List.replicate p.d.length [Value.bool false]).flatten 4 false)).put h.next (O (bvs is) eB false)) (fun _=>False):=(by repeat (first|exact jC.refl _ _|assumption|(refine jC.put'' ?_ _ _ (by intro _;first|rfl|omega|(simp only[push_cast] at *;omega)))|(refine jC.add' ?_ _)))
   have ch2:cells ((h.add (O (List.replicate p.d.length [Value.bool false]).flatten 4 false)).put h.next (O (bvs is) eB false)) h.next=some (bvs is,eB,false):=by simp(disch:=first|omega|(apply id;simp only[push_cast];try omega))only[push_cast,simprocAttr];first|done|rfl
   have nh2:((h.add (O (List.replicate p.d.length [Value.bool false]).flatten 4 false)).put h.next (O (bvs is) eB false)).next=h.next+1:=by simp(disch:=first|omega|(apply id;simp only[push_cast];try omega))only[push_cast,simprocAttr];first|done|rfl
   simp(disch:=first|omega|(apply id;simp only[push_cast];try omega))only[push_cast,simprocAttr,↓zG2]
   generalize (h.add (O (List.replicate p.d.length [Value.bool false]).flatten 4 false)).put h.next (O (bvs is) eB false)=h2 at gh2 ch2 nh2 ⊢
   have hl2':=gh2.lo
   obtain ⟨a',c',σ',e',o',g',b'⟩:=gH (by_:=24) (ho.grew gh2 fun _ _ h=>h) (by omega) (by omega) (m:=1) (xs:=[Value.slice (some ⟨h.next,0,none⟩) p.d.length p.d.length]) rfl rfl (by omega)
   have hn':=g'.next
   have hl':=g'.lo
   have hqlt:∀ k,blk q k→k<h.next:=fun k hk=>(qC.lt ho hk).2
   have gg:jC h σ' (fun k=>blk q k):=(gh2.mono fun _ _ hh=>hh.elim).tr' g' fun _ _ hh=>hh
   have hb1:¬ blk q h.next:=fun hb=>by have:=hqlt _ hb;omega
   have hb2:¬ blk a' h.next:=fun hb=>by
    rcases b' _ hb with hb|hb
    ·have:=hqlt _ hb;omega
    ·omega
   have hb3:∀ k,blk a' k→blk q k∨h.next≤k:=fun k hk=>by
    rcases b' k hk with hb|hb
    ·exact .inl hb
    ·exact .inr (by omega)
   simp(disch:=first|omega|(apply id;simp only[push_cast];try omega))only[push_cast,simprocAttr,e']
   refine ⟨_,by omega,I95.mk (i+1) _ _ a' c' (vs++[_]) (by first|rfl|omega) (by omega) ?_ o' (by rw[jL (x:=is) (by unfold frsF;rw[List.getElem?_map,hy,hise];rfl)];exact hvs.step (by have:=ho.hlen;rw[List.length_take];unfold frsF;rw[List.length_map];omega) gg (by omega) (b:=h.next) (l:=is) (g'.cellsE ch2 (by omega) hb1) hisl (Nat.le_refl _) (by omega) hb2 hb3) (hdst.step hvs (Nat.le_refl _)) ?_ ?_ ?_⟩
   ·exact gg.cellsE c0 (by omega) (fun hb=>by have:=hq _ hb;omega)
   ·intro k hk
    rcases b' k hk with hb|hb
    ·exact hq k hb
    ·omega
   ·exact (g.trans gg fun k hk hb=>by have:=hq k hb;omega)
   ·omega
  ·obtain rfl:i=p.d.length:=by omega
   simp(disch:=first|omega|(apply id;simp only[push_cast];try omega))only[push_cast,simprocAttr,hil,hln,myC,nsV]
   rw[pY0]
   simp(disch:=first|omega|(apply id;simp only[push_cast];try omega))only[push_cast,simprocAttr]
   exact ⟨e,x,hk,q,c,vs,rfl,ho,by rw[List.take_of_length_le (by unfold frsF;rw[List.length_map];exact Nat.le_refl _)] at hvs;exact hvs,hdst,hq,g⟩
 ·first|assumption|(simp(disch:=first|omega|(apply id;simp only[push_cast];try omega))only[push_cast,simprocAttr];try omega)
 ·exact (by repeat (first|exact jC.refl _ _|assumption|(refine jC.put'' ?_ _ _ (by intro _;first|rfl|omega|(simp only[push_cast] at *;omega)))|(refine jC.add' ?_ _)))
 ·first|assumption|(simp(disch:=first|omega|(apply id;simp only[push_cast];try omega))only[push_cast,simprocAttr];try omega)
structure Sq (h:jA) (n bq c:Nat) (m:Bool) (vs:List Value) (M:List (List Bool)):Prop where
 len:vs.length=n
 c:cells h bq=some (vs,eBB,m)
 rows:nQ0 h 2 n vs (some ⟨bq,0,none⟩) M
 lo:h.lo=1
 b1:2≤bq
 b2:bq<h.next
 d:Dst vs
theorem Sq.row {h:jA} {n bq c:Nat} {m:Bool} {vs:List Value} {M:List (List Bool)} (s:Sq h n bq c m vs M) {i:Nat} (hi:i<n):∃ b l,vs[i]?=some (.slice (some ⟨b,0,none⟩) n n)∧cells h b=some (bvs l,eB,false)∧l.length=n∧2≤b∧b<h.next∧¬ b=bq∧M[i]?=some l:=by
 obtain ⟨v,hv⟩:∃ v,vs[i]?=some v:=⟨_,List.getElem?_eq_getElem (by rw[s.len];exact hi)⟩
 obtain ⟨b,l,rfl,h1,h2,h3,h4,h5,h6⟩:=s.rows i v hv
 exact ⟨b,l,hv,h1,h2,h3,h4,fun e=>h5 ⟨0,none,by rw[e]⟩,h6⟩
theorem Sq.put {h:jA} {n bq c:Nat} {m:Bool} {vs:List Value} {M:List (List Bool)} (s:Sq h n bq c m vs M) {i b:Nat} (hi:vs[i]?=some (.slice (some ⟨b,0,none⟩) n n)) (hb:¬ b=bq) {l l0:List Bool} (hm:M[i]?=some l0) (hl:l.length=n):Sq (h.put b (O (bvs l) eB false)) n bq c m vs (M.set i l):=by
 refine ⟨s.len,?_,fun j v hj=>?_,s.lo,s.b1,s.b2,s.d⟩
 ·rw[jZ (qO b _ bq (fun e=>hb e.symm))];exact s.c
 ·obtain ⟨b',l',e,h1,h2,h3,h4,h5,h6⟩:=s.rows j v hj
  by_cases hbb:b'=b
  ·subst hbb
   subst e
   obtain rfl:=s.d _ _ _ hj hi
   exact ⟨b',l,rfl,by simp(disch:=first|omega|(apply id;simp only[push_cast];try omega))only[push_cast,simprocAttr];first|done|rfl,hl,h3,h4,h5,by rw[List.getElem?_set_self (List.getElem?_eq_some_iff.1 hm).1]⟩
  ·refine ⟨b',l',e,by rw[jZ (qO b _ b' hbb)];exact h1,h2,h3,h4,h5,?_⟩
   rw[List.getElem?_set_ne (fun hij=>hbb (by subst hij;rw[hj] at hi;cases hi;cases e;rfl))]
   exact h6
def gM (M:List (List Bool)) (i j:Nat):Bool:=(M.getD i []).getD j false
def dU1 (k i:Nat) (M:List (List Bool)) (j:Nat):List (List Bool):=M.set i ((M.getD i []).set j (gM M i j || (gM M i k&&gM M k j)))
def kN2 (n k:Nat) (M:List (List Bool)) (i:Nat):List (List Bool):=(List.range n).foldl (dU1 k i) M
def loopI (n:Nat) (M:List (List Bool)) (k:Nat):List (List Bool):=(List.range n).foldl (kN2 n k) M
def tU1 (n:Nat) (M:List (List Bool)):List (List Bool):=(List.range n).foldl (loopI n) M
def iB1 (n:Nat) (M:List (List Bool)):Bool:=(List.range n).any fun i=>gM M i i
theorem gN1 {α:Type} (f:α→Nat→α) (a:α) (n:Nat):(List.range (n+1)).foldl f a=f ((List.range n).foldl f a) n:=by
 rw[List.range_succ,List.foldl_append];rfl
def RdOf (p:Pg) (b:Bool):Prop:=∃ e x,(∃ k,itS p k=(e,x,false))∧b=iB1 p.d.length (tU1 p.d.length (frsF p e x))
def rdB (p:Pg):Bool:=@decide (RdOf p true) (Classical.propDecidable _)
theorem RdOf.eq {p:Pg} {b:Bool} (h:RdOf p b):b=rdB p:=by
 unfold rdB
 cases b with
 | true=>exact (@decide_eq_true _ (Classical.propDecidable _) h).symm
 | false=>
  refine (@decide_eq_false _ (Classical.propDecidable _) ?_).symm
  rintro ⟨e',x',⟨k',hk'⟩,h'⟩
  obtain ⟨e,x,⟨k,hk⟩,h⟩:=h
  have:=fI1 p (k:=k) (m:=k') (by rw[hk]) (by rw[hk'])
  rw[hk,hk'] at this
  cases this
  rw[← h] at h'
  exact Bool.noConfusion h'
inductive I87k (n bq c:Nat) (m:Bool) (vs:List Value) (M0:List (List Bool)):Nat→S→Prop
 | mk (k:Nat) (kv:Int) (h:jA) (M:List (List Bool)) {x0 x1 x2 x6 x7 x8 x9 xA xB xC xD xE xF xG xH xI xJ xK xL xM xN xO xP xQ xR xS xT xU xV xW xX xY xZ yA yB yC yD yE yF yG yH yI yJ yK yL yM yN yO yP yQ yR yS yT yU yV yW yX yY yZ zA zB zC zD zE zF zG zH zI:Value} (hkv:kv=(k:Int)) (hk:k≤n) (s:Sq h n bq c m vs M) (hM:M=(List.range k).foldl (loopI n) M0) :
  I87k n bq c m vs M0 (n-k) ⟨(F71 x0 x1 x2 (.slice (some ⟨bq,0,none⟩) n c) (.int .i64 n) (.int .i64 kv) x6 x7 x8 x9 xA xB xC xD xE xF xG xH xI xJ xK xL xM xN xO xP xQ xR xS xT xU xV xW xX xY xZ yA yB yC yD yE yF yG yH yI yJ yK yL yM yN yO yP yQ yR yS yT yU yV yW yX yY yZ zA zB zC zD zE zF zG zH zI),[],h⟩
inductive I87i (n bq c:Nat) (m:Bool) (vs:List Value) (M0:List (List Bool)) (k:Nat):Nat→S→Prop
 | mk (i:Nat) (iv:Int) (h:jA) (M:List (List Bool)) {x0 x1 x2 x7 x8 x9 xA xB xC xD xE xF xG xH xI xJ xK xL xM xN xO xP xQ xR xS xT xU xV xW xX xY xZ yA yB yC yD yE yF yG yH yI yJ yK yL yM yN yO yP yQ yR yS yT yU yV yW yX yY yZ zA zB zC zD zE zF zG zH zI:Value} (hiv:iv=(i:Int)) (hi:i≤n) (s:Sq h n bq c m vs M) (hM:M=(List.range i).foldl (kN2 n k) M0) :
  I87i n bq c m vs M0 k (n-i) ⟨(F71 x0 x1 x2 (.slice (some ⟨bq,0,none⟩) n c) (.int .i64 n) (.int .i64 k) (.int .i64 iv) x7 x8 x9 xA xB xC xD xE xF xG xH xI xJ xK xL xM xN xO xP xQ xR xS xT xU xV xW xX xY xZ yA yB yC yD yE yF yG yH yI yJ yK yL yM yN yO yP yQ yR yS yT yU yV yW yX yY yZ zA zB zC zD zE zF zG zH zI),[],h⟩
inductive I87j (n bq c:Nat) (m:Bool) (vs:List Value) (M0:List (List Bool)) (k i:Nat):Nat→S→Prop
 | mk (j:Nat) (jv:Int) (h:jA) (M:List (List Bool)) {x0 x1 x2 x8 x9 xA xB xC xD xE xF xG xH xI xJ xK xL xM xN xO xP xQ xR xS xT xU xV xW xX xY xZ yA yB yC yD yE yF yG yH yI yJ yK yL yM yN yO yP yQ yR yS yT yU yV yW yX yY yZ zA zB zC zD zE zF zG zH zI:Value} (hjv:jv=(j:Int)) (hj:j≤n) (s:Sq h n bq c m vs M) (hM:M=(List.range j).foldl (dU1 k i) M0) :
  I87j n bq c m vs M0 k i (n-j) ⟨(F71 x0 x1 x2 (.slice (some ⟨bq,0,none⟩) n c) (.int .i64 n) (.int .i64 k) (.int .i64 i) (.int .i64 jv) x8 x9 xA xB xC xD xE xF xG xH xI xJ xK xL xM xN xO xP xQ xR xS xT xU xV xW xX xY xZ yA yB yC yD yE yF yG yH yI yJ yK yL yM yN yO yP yQ yR yS yT yU yV yW yX yY yZ zA zB zC zD zE zF zG zH zI),[],h⟩
inductive I87e (n bq c:Nat) (m:Bool) (vs:List Value) (M:List (List Bool)):Nat→S→Prop
 | mk (i:Nat) (iv:Int) (h:jA) {x0 x1 x2 x5 x6 x7 x9 xA xB xC xD xE xF xG xH xI xJ xK xL xM xN xO xP xQ xR xS xT xU xV xW xX xY xZ yA yB yC yD yE yF yG yH yI yJ yK yL yM yN yO yP yQ yR yS yT yU yV yW yX yY yZ zA zB zC zD zE zF zG zH zI:Value} (hiv:iv=(i:Int)) (hi:i≤n) (s:Sq h n bq c m vs M) (hD:∀ i',i'<i→gM M i' i'=false) :
  I87e n bq c m vs M (n-i) ⟨(F71 x0 x1 x2 (.slice (some ⟨bq,0,none⟩) n c) (.int .i64 n) x5 x6 x7 (.int .i64 iv) x9 xA xB xC xD xE xF xG xH xI xJ xK xL xM xN xO xP xQ xR xS xT xU xV xW xX xY xZ yA yB yC yD yE yF yG yH yI yJ yK yL yM yN yO yP yQ yR yS yT yU yV yW yX yY yZ zA zB zC zD zE zF zG zH zI),[],h⟩
theorem sN1 (V Sk:List (List UInt8)) (p:Pg) (hv:p.v.length≤20) (hd:p.d.length≤20) (hn:1≤p.d.length) (hs:∀ x∈p.d,smP V Sk x.2=true) :
  qL (pp G) H0 87 [pgV p] (·=.bool (rdB p)):=by
 have hlo:H0.lo≤H0.next:=Nat.le_refl _;refine qL.cut (jD.fir4 (q:=qq) (jJ G) fir87 (by kernel_rfl) rfl rfl (uG2 ..) (show NGG≤H0.lo by rw[jW];decide) ?_);rw[pZ1]
 unfold pgV
 have hpo:(pgC p).all one=true:=rfl
 have hpl:(pgC p).length=3:=rfl
 have hpt:(pgC p).take 3=pgC p:=rfl
 simp(disch:=first|omega|(apply id;simp only[push_cast];try omega))only[push_cast,simprocAttr,hpo,hpl,hpt]
 rw[show Value.agg ⟨pgC p⟩=pgV p from rfl]
 refine jB.func (cap:=[]) (args:=[_]) (fQ1 G V Sk p hv hd hn hs _) ?_
 rintro _ h ⟨fe,fx,hfk,q,c,vs,rfl,ho,hvs,hdst,hq,g⟩
 obtain ⟨bq,m,rfl,b1,b2,hcq,_⟩:∃ bq m,q=some ⟨bq,0,none⟩∧h.lo≤bq∧bq<h.next∧cells h bq=some (vs,eBB,m)∧((m=true∧c=UC)∨(m=false∧c=p.d.length)):=by
  rcases ho.hat with ⟨_,h0,_⟩|h1
  ·omega
  ·exact h1
 have hq1:=hq bq ⟨0,none,rfl⟩
 have hgl:=g.lo
 have hnx:(H0.add (O (pgC p) 73 false)).next=2:=by rw[jR,kW]
 have hlx:(H0.add (O (pgC p) 73 false)).lo=1:=by rw[qP,jW]
 rw[hnx] at hq1 hvs
 have sq:Sq h p.d.length bq c m vs (frsF p fe fx):=⟨by have:=ho.hlen;omega,hcq,fun j v hj=>by
  obtain ⟨b,l,e,h1,h2,h3,h4,h5⟩:=hvs j v hj
  exact ⟨b,l,e,h1,h2,by omega,h4,h5⟩,by rw[hgl,hlx],by omega,b2,hdst⟩
 have hrd:∀ b,b=iB1 p.d.length (tU1 p.d.length (frsF p fe fx))→Value.bool b=.bool (rdB p):=fun b h=>congrArg _ (RdOf.eq ⟨fe,fx,hfk,h⟩)
 have hd':p.d.length<1000:=by omega
 generalize frsF p fe fx=M0 at sq hrd
 generalize rdB p=rb at hrd ⊢
 generalize p.d.length=n at sq hd' hrd
 clear hfk hdst ho hvs hq g b1 b2 hcq hq1 hgl hnx hlx hn hd hs hv
 simp(disch:=first|omega|(apply id;simp only[push_cast];try omega))only[push_cast,simprocAttr]
 refine WD.loop4 (q:=qq) (jJ G) (by kernel_rfl) (I87k n bq c m vs M0) ?_ _ _ (I87k.mk 0 0 h _ rfl (Nat.zero_le _) sq rfl)
 clear sq h
 intro μ s1 hI
 cases hI with|mk k kv h M1 hkv hk s hM1=>
 subst hkv
 rw[rN0]
 by_cases hkn:(k:Int)<n
 ·simp(disch:=first|omega|(apply id;simp only[push_cast];try omega))only[push_cast,simprocAttr,hkn]
  refine WD.loop4 (q:=qq) (jJ G) (by kernel_rfl) (I87i n bq c m vs M1 k) ?_ _ _ (I87i.mk 0 0 h _ rfl (Nat.zero_le _) s rfl)
  clear s h
  intro μ s2 hI
  cases hI with|mk i iv h M2 hiv hi s hM2=>
  subst hiv
  rw[rL0]
  by_cases hin:(i:Int)<n
  ·simp(disch:=first|omega|(apply id;simp only[push_cast];try omega))only[push_cast,simprocAttr,hin]
   refine WD.loop4 (q:=qq) (jJ G) (by kernel_rfl) (I87j n bq c m vs M2 k i) ?_ _ _ (I87j.mk 0 0 h _ rfl (Nat.zero_le _) s rfl)
   clear s h
   intro μ s3 hI
   cases hI with|mk j jv h M hjv hj s hM=>
   subst hjv
   rw[rH0]
   by_cases hjn:(j:Int)<n
   ·obtain ⟨bi,li,ri,ci,hli,bi1,bi2,bi3,mi⟩:=s.row (i:=i) (by omega)
    obtain ⟨bk,lk,rk,ck,hlk,bk1,bk2,bk3,mk⟩:=s.row (i:=k) (by omega)
    have gij:=qY0 (l:=li) (i:=j) (by omega)
    have gik:=qY0 (l:=li) (i:=k) (by omega)
    have gkj:=qY0 (l:=lk) (i:=j) (by omega)
    have cq:=s.c
    have vl:=s.len
    have hl1:=s.lo
    have hq1:=s.b1
    have hin':i<n:=by omega
    have hkn':k<n:=by omega
    have hjn':j<n:=by omega
    have hst:=fun b=>eX0 li j b (by omega)
    have hnx:(List.range (j+1)).foldl (dU1 k i) M2=M.set i (li.set j (li.getD j false || (li.getD k false&&lk.getD j false))):=by
     rw[gN1,← hM]
     unfold dU1 gM
     rw[List.getD_eq_getElem?_getD,List.getD_eq_getElem?_getD (l:=M) (i:=k),mi,mk];rfl
    generalize li.getD j false=x1 at gij hnx
    generalize li.getD k false=x2 at gik hnx
    generalize lk.getD j false=x3 at gkj hnx
    cases x1<;>cases x2<;>cases x3<;>simp(disch:=first|omega|(apply id;simp only[push_cast];try omega))only[push_cast,simprocAttr,hjn,hin,hkn,cq,vl,ri,rk,ci,ck,gij,gik,gkj,hin',hkn',hjn',hl1,hli,hlk,Int.toNat_natCast,hst]
    all_goals exact ⟨_,by omega,I87j.mk (j+1) _ _ _ (by first|rfl|omega) (by omega) (s.put ri bi3 mi (by simp[hli])) hnx.symm⟩
   ·simp(disch:=first|omega|(apply id;simp only[push_cast];try omega))only[push_cast,simprocAttr,hjn]
    rw[rG0]
    simp(disch:=first|omega|(apply id;simp only[push_cast];try omega))only[push_cast,simprocAttr]
    exact ⟨_,by omega,I87i.mk (i+1) _ h M (by first|rfl|omega) (by omega) s (by rw[gN1,← hM2,hM,show j=n by omega];rfl)⟩
  ·simp(disch:=first|omega|(apply id;simp only[push_cast];try omega))only[push_cast,simprocAttr,hin]
   rw[rK0]
   simp(disch:=first|omega|(apply id;simp only[push_cast];try omega))only[push_cast,simprocAttr]
   exact ⟨_,by omega,I87k.mk (k+1) _ h M2 (by first|rfl|omega) (by omega) s (by rw[gN1,← hM1,hM2,show i=n by omega];rfl)⟩
 ·simp(disch:=first|omega|(apply id;simp only[push_cast];try omega))only[push_cast,simprocAttr,hkn]
  rw[rM0]
  simp(disch:=first|omega|(apply id;simp only[push_cast];try omega))only[push_cast,simprocAttr]
  refine WD.loop4 (q:=qq) (jJ G) (by kernel_rfl) (I87e n bq c m vs M1) ?_ _ _ (I87e.mk 0 0 h rfl (Nat.zero_le _) s (fun i h=>by omega))
  clear s h
  have hM1':M1=tU1 n M0:=by rw[hM1,show k=n by omega];rfl
  rw[← hM1'] at hrd
  clear hM1 hM1'
  intro μ s2 hI
  cases hI with|mk i iv h hiv hi s hDg=>
  subst hiv
  rw[rJ0]
  by_cases hin:(i:Int)<n
  ·obtain ⟨bi,li,ri,ci,hli,bi1,bi2,bi3,mi⟩:=s.row (i:=i) (by omega)
   have gii:=qY0 (l:=li) (i:=i) (by omega)
   have cq:=s.c
   have vl:=s.len
   have hl1:=s.lo
   have hq1:=s.b1
   have hin':i<n:=by omega
   have hgi:gM M1 i i=li.getD i false:=by unfold gM;rw[List.getD_eq_getElem?_getD (l:=M1),mi];rfl
   generalize li.getD i false=x1 at gii hgi
   cases x1
   ·simp(disch:=first|omega|(apply id;simp only[push_cast];try omega))only[push_cast,simprocAttr,hin,cq,vl,ri,ci,gii,hin',hl1,hli,Int.toNat_natCast]
    exact ⟨_,by omega,I87e.mk (i+1) _ h (by first|rfl|omega) (by omega) s (fun i' h=>by rcases Nat.lt_succ_iff_lt_or_eq.1 h with h|rfl;exact hDg _ h;exact hgi)⟩
   ·simp(disch:=first|omega|(apply id;simp only[push_cast];try omega))only[push_cast,simprocAttr,hin,cq,vl,ri,ci,gii,hin',hl1,hli,Int.toNat_natCast]
    exact ⟨_,hrd _ (by unfold iB1;symm;rw[List.any_eq_true];exact ⟨i,List.mem_range.2 hin',hgi⟩),.id rfl⟩
  ·simp(disch:=first|omega|(apply id;simp only[push_cast];try omega))only[push_cast,simprocAttr,hin]
   rw[rI0]
   simp(disch:=first|omega|(apply id;simp only[push_cast];try omega))only[push_cast,simprocAttr]
   exact ⟨_,hrd _ (by unfold iB1;symm;rw[List.any_eq_false];exact fun j hj=>by rw[hDg j (by have:=List.mem_range.1 hj;omega)];decide),.id rfl⟩
structure Co where
 v:List Int
 s:Int
 p:List Tm
 m:Int
def coC (c:Co):List Value:=[ivV c.v,.int .i64 c.s,qA c.p,.int .i64 c.m]
def coV (c:Co):Value:=.agg ⟨coC c⟩
def tT1 (p:Pg):List Tm:=dY0 (p.v.map Prod.fst) p.s (p.d.map Prod.fst) (p.d.map Prod.snd)
def eF (p:Pg):Int:=if twB (p.v.map Prod.fst)=true∨twB p.s=true∨twB (p.d.map Prod.fst)=true then 5 else
 if wD0 (p.v.map Prod.fst) p.s (p.d.map Prod.fst) (p.d.map Prod.snd)=true then 4 else
 if qH (p.d.map Prod.fst) [109,97,105,110]<0 then 6 else if rdB p=true then 7 else 0
def LowR (p:Pg) (d:Value):Prop:=∃ c e,d=.tuple ⟨[coV c,.int .i64 e]⟩∧c.p.length<1000∧smTs c.p=true∧(e=0→1≤c.p.length)∧(e=0→c.p=tT1 p)∧e=eF p
theorem tO1 (l:List (List UInt8)):one (nsV l)=true:=rfl
theorem zF1 (l:List (List UInt8)):(nsV l).cells.toList=[nsV l]:=rfl
attribute [push_cast] tO1 zF1
theorem rowI1 (x:Int) (σ:jA):bsD (qq.m 23) (slT Try.prog 23) 1 [(0,.int .i64 x)] σ=some (Rw true eI 1 (ivs [x]),σ):=by kernel_rfl
def coZ:List Value:=[.slice none 0 0,.int .i64 0,.slice none 0 0,.int .i64 0]
abbrev tCo:Nat:=102
inductive I70v (p:Pg) (mn:Int):Nat→S→Prop
 | mk (i : Nat) (iv : Int) (h : jA) (q : Option Addr) (c : Nat) {x0 x3 x4 x5 x9 xA xB xC xD xE xF xG xH xI xJ xK xL xM xN xO xP xQ xR xS xT xU xV xW xX xY xZ yA yB yC yD yE yF yG yH yI yJ yK yL yM yN yO yP yQ yR yS yT yU yV yW yX yY yZ zA zB zC zD zE zF zG zH zI zJ zK zL zM zN zO zP zQ zR zS zT zU zV zW zX zY zZ wA wB wC wD wE wF wG wH wI wJ wK wL wM wN wO wP wQ wR wS wT wU wV : Value} (hiv : iv = (i : Int)) (hi : i ≤ p.v.length)
   (c0:cells h 1=some (pgC p,73,false)) (c1:cells h 2=some (coZ,tCo,false)) (cw:cells h 3=some (lwC (p.v.map Prod.fst) p.s (p.d.map Prod.fst) false,tLw,false))
   (cc:cells h 4=some ([.slice q i c,.int .i64 p.s.length,.slice none 0 0,.int .i64 mn],tCo,false)) (ho:qC h eI 1 q i c (ivs ((p.v.map Prod.snd).take i))) (hq:∀ b,blk q b→5≤b) (hl1:h.lo=1) (hl2:5≤h.next) :
  I70v p mn (p.v.length-i) ⟨(F110 x0 (.pointer (some ⟨1,0,none⟩)) (.pointer (some ⟨2,0,none⟩)) x3 x4 x5 (.pointer (some ⟨3,0,none⟩)) (.pointer (some ⟨4,0,none⟩)) (.int .i64 iv) x9 xA xB xC xD xE xF xG xH xI xJ xK xL xM xN xO xP xQ xR xS xT xU xV xW xX xY xZ yA yB yC yD yE yF yG yH yI yJ yK yL yM yN yO yP yQ yR yS yT yU yV yW yX yY yZ zA zB zC zD zE zF zG zH zI zJ zK zL zM zN zO zP zQ zR zS zT zU zV zW zX zY zZ wA wB wC wD wE wF wG wH wI wJ wK wL wM wN wO wP wQ wR wS wT wU wV),[],h⟩
inductive I70p (p:Pg) (mn:Int) (q:Option Addr) (c:Nat):Nat→S→Prop
 | mk (i : Nat) (iv : Int) (h : jA) (bad : Bool) (q2 : Option Addr) (c2 : Nat) (ys : List Tm) {x0 x3 x4 x5 x8 xA xB xC xD xE xF xG xH xI xJ xK xL xM xN xO xP xQ xR xS xT xU xV xW xX xY xZ yA yB yC yD yE yF yG yH yI yJ yK yL yM yN yO yP yQ yR yS yT yU yV yW yX yY yZ zA zB zC zD zE zF zG zH zI zJ zK zL zM zN zO zP zQ zR zS zT zU zV zW zX zY zZ wA wB wC wD wE wF wG wH wI wJ wK wL wM wN wO wP wQ wR wS wT wU wV : Value} (hiv : iv = (i : Int)) (hi : i ≤ p.d.length)
   (c0:cells h 1=some (pgC p,73,false)) (c1:cells h 2=some (coZ,tCo,false)) (cw:cells h 3=some (lwC (p.v.map Prod.fst) p.s (p.d.map Prod.fst) bad,tLw,false))
   (cc:cells h 4=some ([.slice q p.v.length c,.int .i64 p.s.length,.slice q2 i c2,.int .i64 mn],tCo,false)) (ho:qC h eI 1 q p.v.length c (ivs (p.v.map Prod.snd))) (hq:∀ b,blk q b→5≤b)
   (ho2:qC h etm 9 q2 i c2 (jY ys)) (hq2:∀ b,blk q2 b→5≤b∧¬ blk q b) (hys:ys.length=i∧smTs ys=true) (hyp:ys=dY0 (p.v.map Prod.fst) p.s (p.d.map Prod.fst) ((p.d.map Prod.snd).take i)) (hbad:bad=wD0 (p.v.map Prod.fst) p.s (p.d.map Prod.fst) ((p.d.map Prod.snd).take i)) (hl1:h.lo=1) (hl2:5≤h.next) :
  I70p p mn q c (p.d.length-i) ⟨(F110 x0 (.pointer (some ⟨1,0,none⟩)) (.pointer (some ⟨2,0,none⟩)) x3 x4 x5 (.pointer (some ⟨3,0,none⟩)) (.pointer (some ⟨4,0,none⟩)) x8 (.int .i64 iv) xA xB xC xD xE xF xG xH xI xJ xK xL xM xN xO xP xQ xR xS xT xU xV xW xX xY xZ yA yB yC yD yE yF yG yH yI yJ yK yL yM yN yO yP yQ yR yS yT yU yV yW yX yY yZ zA zB zC zD zE zF zG zH zI zJ zK zL zM zN zO zP zQ zR zS zT zU zV zW zX zY zZ wA wB wC wD wE wF wG wH wI wJ wK wL wM wN wO wP wQ wR wS wT wU wV),[],h⟩
theorem gB0 (p:Pg) (mn:Int) (hv:p.v.length≤20) (μ:Nat) (s:S) (hI:I70v p mn μ s) {R:jQ→S→Prop}
  (hR:∀ (h:jA) (q:Option Addr) (c:Nat) {x0 x3 x4 x5 x8 x9 xA xB xC xD xE xF xG xH xI xJ xK xL xM xN xO xP xQ xR xS xT xU xV xW xX xY xZ yA yB yC yD yE yF yG yH yI yJ yK yL yM yN yO yP yQ yR yS yT yU yV yW yX yY yZ zA zB zC zD zE zF zG zH zI zJ zK zL zM zN zO zP zQ zR zS zT zU zV zW zX zY zZ wA wB wC wD wE wF wG wH wI wJ wK wL wM wN wO wP wQ wR wS wT wU wV:Value},cells h 1=some (pgC p,73,false)→cells h 2=some (coZ,tCo,false)→cells h 3=some (lwC (p.v.map Prod.fst) p.s (p.d.map Prod.fst) false,tLw,false)→
   cells h 4=some ([.slice q p.v.length c,.int .i64 p.s.length,.slice none 0 0,.int .i64 mn],tCo,false)→qC h eI 1 q p.v.length c (ivs (p.v.map Prod.snd))→(∀ b,blk q b→5≤b)→h.lo=1→5≤h.next→
   R (.exit 0) ⟨(F110 x0 (.pointer (some ⟨1,0,none⟩)) (.pointer (some ⟨2,0,none⟩)) x3 x4 x5 (.pointer (some ⟨3,0,none⟩)) (.pointer (some ⟨4,0,none⟩)) x8 x9 xA xB xC xD xE xF xG xH xI xJ xK xL xM xN xO xP xQ xR xS xT xU xV xW xX xY xZ yA yB yC yD yE yF yG yH yI yJ yK yL yM yN yO yP yQ yR yS yT yU yV yW yX yY yZ zA zB zC zD zE zF zG zH zI zJ zK zL zM zN zO zP zQ zR zS zT zU zV zW zX zY zZ wA wB wC wD wE wF wG wH wI wJ wK wL wM wN wO wP wQ wR wS wT wU wV),[],h⟩) :
  WD (pp G) qq.H none (.loop eF0) s R:=by
 refine WD.loop4 (q:=qq) (jJ G) (by kernel_rfl) (I70v p mn) ?_ _ _ hI
 clear hI s μ
 intro μ s1 hI
 cases hI with|mk i iv h q c hiv hi c0 c1 cw cc ho hq hl1 hl2=>
 subst hiv
 rw[sD0]
 have c0':=c0
 unfold pgC at c0'
 have hvl:=cZ0 p.v
 by_cases hil:(i:Int)<p.v.length
 ·obtain ⟨x,hx⟩:=jM (l:=p.v) (i:=i) (by omega)
  have hg:=(qO1 hx).2
  have hle:i*2+1<p.v.length*2:=by omega
  simp(disch:=first|omega|(apply id;simp only[push_cast];try omega))only[push_cast,simprocAttr,hil,c0',cc,hvl,hg,hle,Int.toNat_natCast,hl1,↓rowI1]
  obtain ⟨a',c',σ',e',o',g',b'⟩:=gH (by_:=8) ho (by omega) (by omega) (m:=1) (xs:=ivs [x.2]) rfl rfl (by omega)
  have hta:(p.v.map Prod.snd).take (i+1)=(p.v.map Prod.snd).take i++[x.2]:=jL (by rw[List.getElem?_map,hx];rfl)
  rw[← jI2,← hta] at o'
  have hn':=g'.next
  have hl':=g'.lo
  have k0:cells σ' 1=_:=g'.cellsE c0 (by omega) (fun hb=>by have:=hq _ hb;omega)
  have k1:cells σ' 2=_:=g'.cellsE c1 (by omega) (fun hb=>by have:=hq _ hb;omega)
  have kw:cells σ' 3=_:=g'.cellsE cw (by omega) (fun hb=>by have:=hq _ hb;omega)
  have kc:cells σ' 4=_:=g'.cellsE cc (by omega) (fun hb=>by have:=hq _ hb;omega)
  have hb':∀ b,blk a' b→5≤b:=fun b hb=>by
   rcases b' b hb with hb|hb
   ·exact hq b hb
   ·omega
  simp(disch:=first|omega|(apply id;simp only[push_cast];try omega))only[push_cast,simprocAttr,e',kc,hl',hl1]
  refine ⟨_,by omega,I70v.mk (i+1) _ _ a' c' (by first|rfl|omega) (by omega) ?_ ?_ ?_ ?_ (o'.grew (S:=fun k=>k=4) (jC.put _ _ _ fun _=>rfl) (fun k hk e=>by have:=hb' k hk;omega)) hb' ?_ ?_⟩
  iterate 6 exact (by first|assumption|(simp(disch:=first|omega|(apply id;simp only[push_cast];try omega))only[push_cast,simprocAttr,k0,k1,kw,hl',hl1];try omega))
 ·obtain rfl:i=p.v.length:=by omega
  rw[List.take_of_length_le (by rw[List.length_map];exact Nat.le_refl _)] at ho
  simp(disch:=first|omega|(apply id;simp only[push_cast];try omega))only[push_cast,simprocAttr,hil,c0',hvl]
  exact hR h q c c0 c1 cw cc ho hq hl1 hl2
theorem cM0 (p:Pg) {σ:jA} (e:Int) (he:e≠0) (hE:e=eF p) (N:Nat):∃ d,LowR p d∧FzV (pp G).P N σ (.tuple ⟨[.agg ⟨[.slice none 0 0,.int .i64 0,.slice none 0 0,.int .i64 0]⟩,.int .i64 e]⟩) d:=
 ⟨_,⟨⟨[],0,[],0⟩,e,rfl,by decide,rfl,fun h=>absurd h he,fun h=>absurd h he,hE⟩,.tup (.cons (.agg (.cons (.nil (size:=1) rfl (by decide)) (.cons (.id rfl) (.cons (.nil (size:=9) rfl (by decide)) (.cons (.id rfl) .nil))))) (.cons (.id rfl) .nil))⟩
theorem zM1 (p:Pg) (mn:Int) (ht0:¬ (twB (p.v.map Prod.fst)=true∨twB p.s=true∨twB (p.d.map Prod.fst)=true)) (hmf:mn=qH (p.d.map Prod.fst) [109,97,105,110]) (hv:p.v.length≤20) (hst:p.s.length≤10) (hd:p.d.length≤20) (hn:1≤p.d.length) (hs:∀ x∈p.d,smP (p.v.map Prod.fst) p.s x.2=true) (h:jA) (q:Option Addr) (c:Nat) {x0 x3 x4 x5 x8 x9 xA xB xC xD xE xF xG xH xI xJ xK xL xM xN xO xP xQ xR xS xT xU xV xW xX xY xZ yA yB yC yD yE yF yG yH yI yJ yK yL yM yN yO yP yQ yR yS yT yU yV yW yX yY yZ zA zB zC zD zE zF zG zH zI zJ zK zL zM zN zO zP zQ zR zS zT zU zV zW zX zY zZ wA wB wC wD wE wF wG wH wI wJ wK wL wM wN wO wP wQ wR wS wT wU wV:Value}
  (c0:cells h 1=some (pgC p,73,false)) (c1:cells h 2=some (coZ,tCo,false)) (cw:cells h 3=some (lwC (p.v.map Prod.fst) p.s (p.d.map Prod.fst) false,tLw,false))
  (cc:cells h 4=some ([.slice q p.v.length c,.int .i64 p.s.length,.slice none 0 0,.int .i64 mn],tCo,false)) (ho:qC h eI 1 q p.v.length c (ivs (p.v.map Prod.snd))) (hq:∀ b,blk q b→5≤b) (hl1:h.lo=1) (hl2:5≤h.next) :
  dc3 (pp G) qq none eE0 ⟨(F110 x0 (.pointer (some ⟨1,0,none⟩)) (.pointer (some ⟨2,0,none⟩)) x3 x4 x5 (.pointer (some ⟨3,0,none⟩)) (.pointer (some ⟨4,0,none⟩)) x8 x9 xA xB xC xD xE xF xG xH xI xJ xK xL xM xN xO xP xQ xR xS xT xU xV xW xX xY xZ yA yB yC yD yE yF yG yH yI yJ yK yL yM yN yO yP yQ yR yS yT yU yV yW yX yY yZ zA zB zC zD zE zF zG zH zI zJ zK zL zM zN zO zP zQ zR zS zT zU zV zW zX zY zZ wA wB wC wD wE wF wG wH wI wJ wK wL wM wN wO wP wQ wR wS wT wU wV),[],h⟩ (@kR ⟨jE Try.prog [(.cell 2 tCo),(.tmp 3)] (fun v σ'=>∃ d,LowR p d∧FzV (pp G).P H0.next σ' v d)⟩):=by
 rw[sC0]
 simp(disch:=first|omega|(apply id;simp only[push_cast];try omega))only[push_cast,simprocAttr]
 refine WD.loop4 (q:=qq) (jJ G) (by kernel_rfl) (I70p p mn q c) ?_ _ _ (I70p.mk 0 0 h false none 0 [] rfl (Nat.zero_le _) c0 c1 cw cc ho hq (qC.nil _ _ _) (fun b hb=>by obtain ⟨o,s,e⟩:=hb;cases e) ⟨rfl,rfl⟩ rfl rfl hl1 hl2)
 clear c0 c1 cw cc ho hl1 hl2 h
 intro μ s1 hI
 cases hI with|mk i iv h bad q2 c2 ys hiv hi c0 c1 cw cc ho hq ho2 hq2 hys hyp hbad hl1 hl2=>
 subst hiv
 rw[sB0]
 have c0':=c0
 unfold pgC at c0'
 have cw':=cw
 unfold lwC at cw'
 have hdl:=eU0 p.d
 have hVl:(p.v.map Prod.fst).length<1000000000000000:=by rw[List.length_map];omega
 have hDl:(p.d.map Prod.fst).length<1000000000000000:=by rw[List.length_map];omega
 by_cases hil:(i:Int)<p.d.length
 ·obtain ⟨y,hy⟩:=jM (l:=p.d) (i:=i) (by omega)
  have hg:=(eV0 hy).2
  have hle:i*9+9≤p.d.length*9:=by omega
  simp(disch:=first|omega|(apply id;simp only[push_cast];try omega))only[push_cast,simprocAttr,hil,c0',cc,cw',hdl,hg,hle,Int.toNat_natCast,hl1]
  refine jB.func (cap:=[]) (args:=[_,_]) (nR1 G (p.v.map Prod.fst) p.s (p.d.map Prod.fst) hVl (by omega) hDl y.2 (lP0 hs hy) h 3 bad cw (by omega) (by omega)) ?_
  rintro _ _ ⟨⟨t,rfl,ht,htE⟩,bd,hbd,rfl⟩
  have gp:jC h (h.put 3 (O (lwC (p.v.map Prod.fst) p.s (p.d.map Prod.fst) bd) tLw false)) (fun k=>k=3):=jC.put _ _ _ fun _=>rfl
  have w1:cells (h.put 3 (O (lwC (p.v.map Prod.fst) p.s (p.d.map Prod.fst) bd) tLw false)) 3=some (lwC (p.v.map Prod.fst) p.s (p.d.map Prod.fst) bd,tLw,false):=by simp(disch:=first|omega|(apply id;simp only[push_cast];try omega))only[push_cast,simprocAttr];first|done|rfl
  have p0:cells (h.put 3 (O (lwC (p.v.map Prod.fst) p.s (p.d.map Prod.fst) bd) tLw false)) 1=_:=gp.cellsE c0 (by omega) (by omega)
  have p1:cells (h.put 3 (O (lwC (p.v.map Prod.fst) p.s (p.d.map Prod.fst) bd) tLw false)) 2=_:=gp.cellsE c1 (by omega) (by omega)
  have pc:cells (h.put 3 (O (lwC (p.v.map Prod.fst) p.s (p.d.map Prod.fst) bd) tLw false)) 4=_:=gp.cellsE cc (by omega) (by omega)
  have ho':=ho.grew gp (fun k hk e=>by have:=hq k hk;omega)
  have ho2':=ho2.grew gp (fun k hk e=>by have:=(hq2 k hk).1;omega)
  have hnp:(h.put 3 (O (lwC (p.v.map Prod.fst) p.s (p.d.map Prod.fst) bd) tLw false)).next=h.next:=rfl
  have hlp:(h.put 3 (O (lwC (p.v.map Prod.fst) p.s (p.d.map Prod.fst) bd) tLw false)).lo=h.lo:=rfl
  generalize h.put 3 (O (lwC (p.v.map Prod.fst) p.s (p.d.map Prod.fst) bd) tLw false)=h1 at *
  simp(disch:=first|omega|(apply id;simp only[push_cast];try omega))only[push_cast,simprocAttr,pc,↓wR1,hlp,hl1]
  obtain ⟨a',c',σ',e',o',g',b'⟩:=gH (by_:=120) ho2' (by omega) (by omega) (m:=1) (xs:=jY [t]) (qR [t]) (kY _) (by omega)
  rw[← bD] at o'
  have hn':=g'.next
  have hl':=g'.lo
  have k0:cells σ' 1=_:=g'.cellsE p0 (by omega) (fun hb=>by have:=(hq2 _ hb).1;omega)
  have k1:cells σ' 2=_:=g'.cellsE p1 (by omega) (fun hb=>by have:=(hq2 _ hb).1;omega)
  have kw:cells σ' 3=_:=g'.cellsE w1 (by omega) (fun hb=>by have:=(hq2 _ hb).1;omega)
  have kc:cells σ' 4=_:=g'.cellsE pc (by omega) (fun hb=>by have:=(hq2 _ hb).1;omega)
  have ho'':=ho'.grew g' (fun k hk e=>(hq2 k e).2 hk)
  have hb':∀ b,blk a' b→5≤b∧¬ blk q b:=fun b hb=>by
   rcases b' b hb with hb|hb
   ·exact hq2 b hb
   ·exact ⟨by omega,fun h1=>by have:=qC.lt ho h1;omega⟩
  simp(disch:=first|omega|(apply id;simp only[push_cast];try omega))only[push_cast,simprocAttr,e',kc,hl',hlp,hl1]
  refine ⟨_,by omega,I70p.mk (i+1) _ _ bd a' c' (ys++[t]) (by first|rfl|omega) (by omega) ?_ ?_ ?_ ?_ (ho''.grew (S:=fun k=>k=4) (jC.put _ _ _ fun _=>rfl) (fun k hk e=>by have:=hq k hk;omega)) hq (o'.grew (S:=fun k=>k=4) (jC.put _ _ _ fun _=>rfl) (fun k hk e=>by have:=(hb' k hk).1;omega)) hb' ⟨by simp[hys.1],kV0 hys.2 (by rw[smTs,ht];rfl)⟩ (by rw[cN0 _ _ _ (x:=y.2) (by rw[List.getElem?_map,hy];rfl),hyp,htE]) (by rw[hbd,hbad,cW0 _ _ _ (x:=y.2) (by rw[List.getElem?_map,hy];rfl)]) ?_ ?_⟩
  iterate 6 exact (by first|assumption|(simp(disch:=first|omega|(apply id;simp only[push_cast];try omega))only[push_cast,simprocAttr,k0,k1,kw,hl',hlp,hl1];try omega))
 ·obtain rfl:i=p.d.length:=by omega
  simp(disch:=first|omega|(apply id;simp only[push_cast];try omega))only[push_cast,simprocAttr,hil,c0',hdl]
  rw[sA0]
  have c1':=c1
  unfold coZ at c1'
  rw[List.take_of_length_le (by rw[List.length_map];exact Nat.le_refl _)] at hbad
  have hE:eF p=if bad=true then 4 else if mn<0 then 6 else if rdB p=true then 7 else 0:=by unfold eF;rw[if_neg ht0,hbad,hmf]
  have hfc:∀ N σ' e,N=1→e=eF p→qC σ' eI 1 q p.v.length c (ivs (p.v.map Prod.snd))→qC σ' etm 9 q2 p.d.length c2 (jY ys)→∃ d,LowR p d∧FzV (pp G).P N σ' (.tuple ⟨[.agg ⟨[.slice q p.v.length c,.int .i64 p.s.length,.slice q2 p.d.length c2,.int .i64 mn]⟩,.int .i64 e]⟩) d:=fun N σ' e hN hEe h1 h2=>by
   subst hN
   refine ⟨_,⟨⟨p.v.map Prod.snd,p.s.length,ys,mn⟩,e,rfl,?_,hys.2,fun _=>?_,fun _=>?_,hEe⟩,?_⟩
   ·show ys.length<1000;omega
   ·show 1≤ys.length;omega
   ·show ys=_;rw[hyp,List.take_of_length_le (by rw[List.length_map];exact Nat.le_refl _)];rfl
   ·unfold coV coC ivV qA
    rw[List.length_map,hys.1]
    exact .tup (.cons (.agg (.cons (h1.fz rfl (by decide) (by omega) (.ids (oR0 _ _)) (fun b hb=>by have:=hq b hb;omega)) (.cons (.id rfl) (.cons (h2.fz rfl (by decide) (by omega) (.ids (gO _ (by omega) _)) (fun b hb=>by have:=(hq2 b hb).1;omega)) (.cons (.id rfl) .nil))))) (.cons (.id rfl) .nil))
  cases bad with
  | true=>
   simp(disch:=first|omega|(apply id;simp only[push_cast];try omega))only[push_cast,simprocAttr,cw',c1',hl1]
   exact cM0 G p 4 (by decide) hE.symm _
  | false=>
   simp(disch:=first|omega|(apply id;simp only[push_cast];try omega))only[push_cast,simprocAttr,cw',cc,hl1]
   by_cases hm:mn<0
   ·simp(disch:=first|omega|(apply id;simp only[push_cast];try omega))only[push_cast,simprocAttr,hm,c1',hl1]
    exact cM0 G p 6 (by decide) (by rw[hE,if_pos hm];rfl) _
   ·have hpl:(pgC p).length=3:=rfl
    have hpt:(pgC p).take 3=pgC p:=rfl
    simp(disch:=first|omega|(apply id;simp only[push_cast];try omega))only[push_cast,simprocAttr,hm,c0,hpl,hpt]
    rw[show Value.agg ⟨pgC p⟩=pgV p from rfl]
    refine jB.dataEI (sN1 G (p.v.map Prod.fst) p.s p hv hd hn hs) (by and_intros<;>first|rfl|(simp(disch:=first|omega|(apply id;simp only[push_cast];try omega))only[push_cast])) ?_
    rintro _ rfl
    refine ⟨rfl,?_⟩
    rw[if_neg hm] at hE
    generalize rdB p=b at hE ⊢
    cases b with
    | true=>
     simp(disch:=first|omega|(apply id;simp only[push_cast];try omega))only[push_cast,simprocAttr,c1',hl1]
     exact cM0 G p 7 (by decide) hE.symm _
    | false=>
     simp(disch:=first|omega|(apply id;simp only[push_cast];try omega))only[push_cast,simprocAttr,cc,c1',hl1]
     exact hfc _ _ 0 rfl hE.symm (ho.grew (S:=fun k=>k=2) (jC.put _ _ _ fun _=>rfl) (fun k hk e=>by have:=hq k hk;omega)) (ho2.grew (S:=fun k=>k=2) (jC.put _ _ _ fun _=>rfl) (fun k hk e=>by have:=(hq2 k hk).1;omega))
theorem tS1 (p:Pg) (hv:p.v.length≤20) (hst:p.s.length≤10) (hd:p.d.length≤20) (hn:1≤p.d.length) (hs:∀ x∈p.d,smP (p.v.map Prod.fst) p.s x.2=true) :
  qL (pp G) H0 70 [pgV p] (LowR p):=by
 have hlo:H0.lo≤H0.next:=Nat.le_refl _;refine qL.cut (jD.fir4 (q:=qq) (jJ G) fir70 (by kernel_rfl) rfl rfl (nA1 ..) (show NGG≤H0.lo by rw[jW];decide) ?_);rw[rJ1]
 unfold pgV pgC
 have g1:¬ (p.v.length:Int) > 20:=by omega
 have g2:¬ (p.s.length:Int) > 10:=by omega
 have g3:¬ (p.d.length:Int) > 20:=by omega
 simp(disch:=first|omega|(apply id;simp only[push_cast];try omega))only[push_cast,simprocAttr,g1,g2,g3]
 rw[show Value.agg ⟨[Rw false eVr p.v.length (vrs p.v),Rw false eS p.s.length (nss p.s),Rw false eDf p.d.length (dfs p.d)]⟩=pgV p from rfl]
 refine jB.dataI (zH1 G p hv hd) (by and_intros<;>first|rfl|(simp(disch:=first|omega|(apply id;simp only[push_cast];try omega))only[push_cast])) ?_
 simp(disch:=first|omega|(apply id;simp only[push_cast];try omega))only[push_cast,simprocAttr]
 have hvl:(p.v.map Prod.fst).length<1000000000000000:=by rw[List.length_map];omega
 have hdl:(p.d.map Prod.fst).length<1000000000000000:=by rw[List.length_map];omega
 refine jB.dataEI (lJ0 G (p.v.map Prod.fst) hvl) (by and_intros<;>first|rfl|(simp(disch:=first|omega|(apply id;simp only[push_cast];try omega))only[push_cast])) ?_
 rintro _ ⟨t1,rfl,hT0⟩
 refine ⟨rfl,?_⟩
 cases t1 with
 | true=>simp(disch:=first|omega|(apply id;simp only[push_cast];try omega))only[push_cast,simprocAttr];exact cM0 G p 5 (by decide) (by unfold eF;rw[if_pos (by have h:=hT0.symm;exact .inl h)]) _
 | false=>
 simp(disch:=first|omega|(apply id;simp only[push_cast];try omega))only[push_cast,simprocAttr]
 refine jB.dataEI (lJ0 G p.s (by omega)) (by and_intros<;>first|rfl|(simp(disch:=first|omega|(apply id;simp only[push_cast];try omega))only[push_cast])) ?_
 rintro _ ⟨t1,rfl,hT1⟩
 refine ⟨rfl,?_⟩
 cases t1 with
 | true=>simp(disch:=first|omega|(apply id;simp only[push_cast];try omega))only[push_cast,simprocAttr];exact cM0 G p 5 (by decide) (by unfold eF;rw[if_pos (by have h:=hT1.symm;exact .inr (.inl h))]) _
 | false=>
 simp(disch:=first|omega|(apply id;simp only[push_cast];try omega))only[push_cast,simprocAttr]
 refine jB.dataEI (lJ0 G (p.d.map Prod.fst) hdl) (by and_intros<;>first|rfl|(simp(disch:=first|omega|(apply id;simp only[push_cast];try omega))only[push_cast])) ?_
 rintro _ ⟨t1,rfl,hT2⟩
 refine ⟨rfl,?_⟩
 cases t1 with
 | true=>simp(disch:=first|omega|(apply id;simp only[push_cast];try omega))only[push_cast,simprocAttr];exact cM0 G p 5 (by decide) (by unfold eF;rw[if_pos (by have h:=hT2.symm;exact .inr (.inr h))]) _
 | false=>
 simp(disch:=first|omega|(apply id;simp only[push_cast];try omega))only[push_cast,simprocAttr]
 have ht0:¬ (twB (p.v.map Prod.fst)=true∨twB p.s=true∨twB (p.d.map Prod.fst)=true):=by rw[← hT0,← hT1,← hT2];decide
 have hfin : ∀ (mn : Int) (hmf : mn = qH (p.d.map Prod.fst) [109, 97, 105, 110]) (h : jA) (q : Option Addr) (c : Nat) {x0 x3 x4 x5 x8 x9 xA xB xC xD xE xF xG xH xI xJ xK xL xM xN xO xP xQ xR xS xT xU xV xW xX xY xZ yA yB yC yD yE yF yG yH yI yJ yK yL yM yN yO yP yQ yR yS yT yU yV yW yX yY yZ zA zB zC zD zE zF zG zH zI zJ zK zL zM zN zO zP zQ zR zS zT zU zV zW zX zY zZ wA wB wC wD wE wF wG wH wI wJ wK wL wM wN wO wP wQ wR wS wT wU wV : Value}, cells h 1 = some (pgC p, 73, false) → cells h 2 = some (coZ, tCo, false) → cells h 3 = some (lwC (p.v.map Prod.fst) p.s (p.d.map Prod.fst) false, tLw, false) →
   cells h 4=some ([.slice q p.v.length c,.int .i64 p.s.length,.slice none 0 0,.int .i64 mn],tCo,false)→qC h eI 1 q p.v.length c (ivs (p.v.map Prod.snd))→(∀ b,blk q b→5≤b)→h.lo=1→5≤h.next→
   _:=fun mn hmf h q c=>@zM1 G p mn ht0 hmf hv hst hd hn hs h q c
 refine ⟨?_,?_⟩
 ·refine jB.dataEI (gG0 G (p.d.map Prod.fst) [109,97,105,110] hdl) (by and_intros<;>first|rfl|(simp(disch:=first|omega|(apply id;simp only[push_cast];try omega))only[push_cast])) ?_
  rintro _ ⟨mn,rfl,hmn,_,hmf⟩
  refine ⟨rfl,?_⟩
  simp(disch:=first|omega|(apply id;simp only[push_cast];try omega))only[push_cast,simprocAttr]
  refine gB0 G p mn hv _ _ (I70v.mk 0 0 _ none 0 rfl (Nat.zero_le _) ?_ ?_ ?_ ?_ (qC.nil _ _ _) (fun b hb=>by obtain ⟨o,s,e⟩:=hb;cases e) ?_ ?_) ?_
  ·exact (by simp(disch:=first|omega|(apply id;simp only[push_cast];try omega))only[push_cast,simprocAttr];first|done|rfl)
  ·exact (by simp(disch:=first|omega|(apply id;simp only[push_cast];try omega))only[push_cast,simprocAttr];first|done|rfl)
  ·exact (by simp(disch:=first|omega|(apply id;simp only[push_cast];try omega))only[push_cast,simprocAttr];first|done|rfl)
  ·exact (by simp(disch:=first|omega|(apply id;simp only[push_cast];try omega))only[push_cast,simprocAttr];first|done|rfl)
  iterate 2 exact (by first|assumption|(simp(disch:=first|omega|(apply id;simp only[push_cast];try omega))only[push_cast,simprocAttr];try omega))
  ·intro h q c
   intros
   rename_i c0 c1 cw cc ho hq hl1 hl2
   simp(disch:=first|omega|(apply id;simp only[push_cast];try omega))only[push_cast,simprocAttr]
   exact hfin mn hmf h q c c0 c1 cw cc ho hq hl1 hl2
 ·refine jB.dataEI (gG0 G (p.d.map Prod.fst) [109,97,105,110] hdl) (by and_intros<;>first|rfl|(simp(disch:=first|omega|(apply id;simp only[push_cast];try omega))only[push_cast])) ?_
  rintro _ ⟨mn,rfl,hmn,_,hmf⟩
  refine ⟨rfl,?_⟩
  simp(disch:=first|omega|(apply id;simp only[push_cast];try omega))only[push_cast,simprocAttr]
  refine gB0 G p mn hv _ _ (I70v.mk 0 0 _ none 0 rfl (Nat.zero_le _) ?_ ?_ ?_ ?_ (qC.nil _ _ _) (fun b hb=>by obtain ⟨o,s,e⟩:=hb;cases e) ?_ ?_) ?_
  ·exact (by simp(disch:=first|omega|(apply id;simp only[push_cast];try omega))only[push_cast,simprocAttr];first|done|rfl)
  ·exact (by simp(disch:=first|omega|(apply id;simp only[push_cast];try omega))only[push_cast,simprocAttr];first|done|rfl)
  ·exact (by simp(disch:=first|omega|(apply id;simp only[push_cast];try omega))only[push_cast,simprocAttr];first|done|rfl)
  ·exact (by simp(disch:=first|omega|(apply id;simp only[push_cast];try omega))only[push_cast,simprocAttr];first|done|rfl)
  iterate 2 exact (by first|assumption|(simp(disch:=first|omega|(apply id;simp only[push_cast];try omega))only[push_cast,simprocAttr];try omega))
  ·intro h q c
   intros
   rename_i c0 c1 cw cc ho hq hl1 hl2
   simp(disch:=first|omega|(apply id;simp only[push_cast];try omega))only[push_cast,simprocAttr]
   exact hfin mn hmf h q c c0 c1 cw cc ho hq hl1 hl2
end
end Go.Proofs.Ytgeakofgklcipaa
