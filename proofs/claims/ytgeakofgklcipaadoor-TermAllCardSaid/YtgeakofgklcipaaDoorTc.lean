/-
  A part of the proof: what the program's functions hand back,as theorems. No condition but those that each theorem names.
-/
import Derived.Test.YtgeakofgklcipaaDoorTb
import Derived.Test.YtgeakofgklcipaaDoorExc
import Derived.Test.YtgeakofgklcipaaDoorEve
set_option linter.unusedSimpArgs false
set_option linter.unusedVariables false
namespace Go.Proofs.YtgeakofgklcipaaDoor
open Go Go.RowKit Go.Ev Go.Dv
noncomputable section
attribute [local push_cast] eq_self iff_self
set_option maxRecDepth 100000
variable (G:Nat×Nat)
theorem lC2 (s:List UInt8) (σ:jA):bsD (qq.m 54) (slT Tryd.prog 54) 1 [(0,.string (Tx s))] σ=some (Rw true eS 1 (nss [s]),σ):=by kernel_rfl
theorem yX1 {l:List (List UInt8×Int)} {i:Nat} {x:List UInt8×Int} (h:l[i]?=some x):(vrs l)[i*2]?=some (.string (Tx x.1))∧(vrs l)[i*2+1]?=some (.int .i64 x.2):=by
 induction l generalizing i with
 | nil=>cases h
 | cons y l ih=>
  cases i with
  | zero=>cases h;exact ⟨rfl,rfl⟩
  | succ i=>
   have:=ih (i:=i) h
   rw[show (i+1)*2=i*2+1+1 by omega]
   exact this
theorem iN0 {l:List (List UInt8×Pr)} {i:Nat} {x:List UInt8×Pr} (h:l[i]?=some x):(dfs l)[i*9]?=some (.string (Tx x.1))∧((dfs l).drop (i*9+1)).take 8=prC x.2:=by
 induction l generalizing i with
 | nil=>cases h
 | cons y l ih=>
  have e:dfs (y :: l)=(Value.string (Tx y.1) :: prC y.2)++dfs l:=rfl
  have hy:(Value.string (Tx y.1) :: prC y.2).length=9:=by simp[bT]
  cases i with
  | zero=>
   cases h
   refine ⟨rfl,?_⟩
   show ((prC x.2)++dfs l).take 8=_
   rw[List.take_left' (bT _)]
  | succ i=>
   have:=ih (i:=i) h
   rw[e,show (i+1)*9=9+i*9 by omega,List.getElem?_append_right (by omega),List.drop_append,List.drop_of_length_le (by omega),List.nil_append,hy]
   rw[show 9+i*9-9=i*9 by omega,show 9+i*9+1-9=i*9+1 by omega]
   exact this
inductive I83 (p:Pg):Nat→S→Prop
 | mk (i : Nat) (iv : Int) (h : jA) (q : Option Addr) (c : Nat) {x0 x2 x3 x7 x8 x9 xA xB xC xD xE xF xG xH xI xJ xK xL xM xN xO xP xQ xR xS xT xU xV xW xX xY xZ yA yB yC yD yE yF : Value} (hiv : iv = (i : Int)) (hi : i ≤ p.v.length)
   (c0:cells h 1=some (pgC p,57,false)) (ho:qI h eS 1 q i c (nss ((p.v.map Prod.fst).take i))) (hq:∀ b,blk q b→2≤b) (hl1:h.lo=1) (hl2:2≤h.next) :
  I83 p (p.v.length-i) ⟨(F42 x0 (.pointer (some ⟨1,0,none⟩)) x2 x3 (.slice q i c) (.slice none 0 0) (.int .i64 iv) x7 x8 x9 xA xB xC xD xE xF xG xH xI xJ xK xL xM xN xO xP xQ xR xS xT xU xV xW xX xY xZ yA yB yC yD yE yF),[],h⟩
inductive I83b (p:Pg) (q:Option Addr) (c:Nat):Nat→S→Prop
 | mk (i : Nat) (iv : Int) (h : jA) (q2 : Option Addr) (c2 : Nat) {x0 x2 x3 x6 x8 x9 xA xB xC xD xE xF xG xH xI xJ xK xL xM xN xO xP xQ xR xS xT xU xV xW xX xY xZ yA yB yC yD yE yF : Value} (hiv : iv = (i : Int)) (hi : i ≤ p.d.length)
   (c0:cells h 1=some (pgC p,57,false)) (ho:qI h eS 1 q p.v.length c (nss (p.v.map Prod.fst))) (hq:∀ b,blk q b→2≤b) (ho2:qI h eS 1 q2 i c2 (nss ((p.d.map Prod.fst).take i))) (hq2:∀ b,blk q2 b→2≤b∧¬ blk q b) (hl1:h.lo=1) (hl2:2≤h.next) :
  I83b p q c (p.d.length-i) ⟨(F42 x0 (.pointer (some ⟨1,0,none⟩)) x2 x3 (.slice q p.v.length c) (.slice q2 i c2) x6 (.int .i64 iv) x8 x9 xA xB xC xD xE xF xG xH xI xJ xK xL xM xN xO xP xQ xR xS xT xU xV xW xX xY xZ yA yB yC yD yE yF),[],h⟩
theorem cW1 (p:Pg) (hv:p.v.length≤20) (hd:p.d.length≤20):jI (pp G) H0 67 [pgV p] (.tuple ⟨[nsV (p.v.map Prod.fst),nsV (p.d.map Prod.fst)]⟩):=by
 refine cE G fir67 (by kernel_rfl) (fG2 ..) fun hlo=>?_;rw[kR2]
 unfold pgV pgC
 push_cast(disch:=first|omega|(apply id;push_cast;try omega))
 refine WD.loop4 (q:=qq) (qB G) (by kernel_rfl) (I83 p) ?_ _ _ (I83.mk 0 0 _ none 0 rfl (Nat.zero_le _) (by push_cast(disch:=first|omega|(apply id;push_cast;try omega));first|done|rfl) (qI.nil _ _ _) (fun b hb=>by obtain ⟨o,s,e⟩:=hb;cases e) rfl tH)
 intro m s1 hI
 cases hI with|mk i iv h q c hiv hi c0 ho hq hl1 hl2=>
 subst hiv
 rw[qS1]
 have c0':=c0
 unfold pgC at c0'
 have hvl:=eO0 p.v
 by_cases hil:(i:Int)<p.v.length
 ·obtain ⟨x,hx⟩:=jR (l:=p.v) (i:=i) (by omega)
  have hg:=(yX1 hx).1
  have hle:i*2<p.v.length*2:=by omega
  push_cast(disch:=first|omega|(apply id;push_cast;try omega))[hil,c0',hvl,hg,hle,Int.toNat_natCast,hl1,↓lC2]
  obtain ⟨a',c',σ',e,o',g',b'⟩:=gM (by_:=16) ho (by omega) (by omega) (m:=1) (xs:=nss [x.1]) rfl rfl (by omega)
  have hta:(p.v.map Prod.fst).take (i+1)=(p.v.map Prod.fst).take i++[x.1]:=jW (by rw[List.getElem?_map,hx];rfl)
  rw[← cT1,← hta] at o'
  have hn':=g'.next
  have hl':=g'.lo
  have k0:cells σ' 1=_:=g'.cellsE c0 (by omega) (fun hb=>by have:=hq _ hb;omega)
  push_cast(disch:=first|omega|(apply id;push_cast;try omega))[e]
  refine ⟨_,by omega,I83.mk (i+1) _ _ a' c' (by first|rfl|omega) (by omega) k0 o' (fun b hb=>?_) (by omega) (by omega)⟩
  rcases b' b hb with hb|hb
  ·exact hq b hb
  ·omega
 ·have hie:i=p.v.length:=by omega
  subst hie
  rw[List.take_of_length_le (by rw[List.length_map];exact Nat.le_refl _)] at ho
  push_cast(disch:=first|omega|(apply id;push_cast;try omega))[hil,c0',hvl]
  rw[qR1]
  push_cast(disch:=first|omega|(apply id;push_cast;try omega))
  refine WD.loop4 (q:=qq) (qB G) (by kernel_rfl) (I83b p q c) ?_ _ _ (I83b.mk 0 0 _ none 0 rfl (Nat.zero_le _) c0 ho hq (qI.nil _ _ _) (fun b hb=>by obtain ⟨o,s,e⟩:=hb;cases e) hl1 hl2)
  clear c0 c0' ho hl1 hl2
  intro m s2 hI
  cases hI with|mk i iv h q2 c2 hiv hi c0 ho hq ho2 hq2 hl1 hl2=>
  subst hiv
  rw[qQ1]
  have c0':=c0
  unfold pgC at c0'
  have hdl:=iM0 p.d
  by_cases hil:(i:Int)<p.d.length
  ·obtain ⟨x,hx⟩:=jR (l:=p.d) (i:=i) (by omega)
   have hg:=(iN0 hx).1
   have hle:i*9<p.d.length*9:=by omega
   push_cast(disch:=first|omega|(apply id;push_cast;try omega))[hil,c0',hdl,hg,hle,Int.toNat_natCast,hl1,↓lC2]
   obtain ⟨a',c',σ',e,o',g',b'⟩:=gM (by_:=16) ho2 (by omega) (by omega) (m:=1) (xs:=nss [x.1]) rfl rfl (by omega)
   have hta:(p.d.map Prod.fst).take (i+1)=(p.d.map Prod.fst).take i++[x.1]:=jW (by rw[List.getElem?_map,hx];rfl)
   rw[← cT1,← hta] at o'
   have hn':=g'.next
   have hl':=g'.lo
   have k0:cells σ' 1=_:=g'.cellsE c0 (by omega) (fun hb=>by have:=(hq2 _ hb).1;omega)
   push_cast(disch:=first|omega|(apply id;push_cast;try omega))[e]
   refine ⟨_,by omega,I83b.mk (i+1) _ _ a' c' (by first|rfl|omega) (by omega) k0 (ho.grew g' fun b hb h2=>(hq2 b h2).2 hb) hq o' (fun b hb=>?_) (by omega) (by omega)⟩
   rcases b' b hb with hb|hb
   ·exact hq2 b hb
   ·exact ⟨by omega,fun h1=>by have:=qI.lt ho h1;omega⟩
  ·have hie:i=p.d.length:=by omega
   subst hie
   rw[List.take_of_length_le (by rw[List.length_map];exact Nat.le_refl _)] at ho2
   push_cast(disch:=first|omega|(apply id;push_cast;try omega))[hil,c0',hdl]
   rw[qP1]
   push_cast(disch:=first|omega|(apply id;push_cast;try omega))
   unfold nsV
   rw[List.length_map,List.length_map]
   exact .tup (.cons (qI.fz (P:=(pp G).P) ho (by rfl) (by decide) (by omega) (.ids (zG0 _ _)) (fun b hb=>by have:=hq b hb;omega)) (.cons (qI.fz (P:=(pp G).P) ho2 (by rfl) (by decide) (by omega) (.ids (zG0 _ _)) (fun b hb=>by have:=(hq2 b hb).1;omega)) .nil))
def yM0:List (List UInt8)→List UInt8→Nat→Int
 | [],_,_=>-1
 | x :: l,s,i=>if x=s then (i:Int) else yM0 l s (i+1)
def gW (l:List (List UInt8)) (s:List UInt8):Int:=yM0 l s 0
theorem tL0:∀ (l:List (List UInt8)) (s:List UInt8) (i:Nat),-1≤yM0 l s i∧yM0 l s i<i+l.length∨yM0 l s i = -1
 | [],s,i=>.inr rfl
 | x :: l,s,i=>by
  rw[yM0]
  by_cases h:x=s
  ·rw[if_pos h,List.length_cons];left;omega
  ·rw[if_neg h,List.length_cons]
   have:=tL0 l s (i+1)
   omega
theorem mQ0:∀ (l:List (List UInt8)) (s:List UInt8) (i:Nat),s∈l→0≤yM0 l s i
 | [],s,i,h=>by cases h
 | x :: l,s,i,h=>by
  rw[yM0]
  by_cases e:x=s
  ·rw[if_pos e];omega
  ·rw[if_neg e]
   rcases List.mem_cons.1 h with h|h
   ·exact absurd h.symm e
   ·exact mQ0 l s _ h
theorem rS1 (l:List (List UInt8)) (s:List UInt8):-1≤gW l s∧gW l s<l.length∨gW l s = -1:=by have:=tL0 l s 0;unfold gW;omega
theorem mR0 {l:List (List UInt8)} {s:List UInt8} (h:s∈l):0≤gW l s:=mQ0 l s 0 h
theorem eE0 {l:List (List UInt8)} {s:List UInt8} {i:Nat} (h:i<l.length):yM0 (l.drop i) s i=if l.getD i []=s then (i:Int) else yM0 (l.drop (i+1)) s (i+1):=by
 rw[List.drop_eq_getElem_cons h,yM0,List.getD_eq_getElem?_getD,List.getElem?_eq_getElem h]
 rfl
inductive I85 (l:List (List UInt8)) (s:List UInt8):Nat→S→Prop
 | mk (i:Nat) (iv:Int) (h:jA) {x2 x3 x4 x6 x7 x8 x9 xA xB xC xD xE xF xG xH xI:Value} (hiv:iv=(i:Int)) (hi:i≤l.length) (hn:yM0 (l.drop i) s i=gW l s) (hl1:h.lo=1) (hl2:1≤h.next) :
  I85 l s (l.length-i) ⟨(F19 (nsV l) (.string (Tx s)) x2 x3 x4 (.int .i64 iv) x6 x7 x8 x9 xA xB xC xD xE xF xG xH xI),[],h⟩
theorem bM0 (l:List (List UInt8)) (s:List UInt8) (hll:l.length<1000000000000000):gA (pp G) H0 69 [nsV l,.string (Tx s)] (fun d=>∃ k:Int,d=.int .i64 k∧(-1≤k∧k<l.length)∧((s∈l→0≤k)∧k=gW l s)):=by
 refine cY G fir69 (by kernel_rfl) (nK1 ..) fun hlo=>?_;rw[kP2]
 push_cast(disch:=first|omega|(apply id;push_cast;try omega))
 refine WD.loop4 (q:=qq) (qB G) (by kernel_rfl) (I85 l s) ?_ _ _ (I85.mk 0 0 _ rfl (Nat.zero_le _) rfl rfl tH)
 intro m s1 hI
 cases hI with|mk i iv h hiv hi hn hl1 hl2=>
 subst hiv
 rw[qM1]
 unfold nsV
 by_cases hil:(i:Int)<l.length
 ·have hg:=qB0 (l:=l) (i:=i) (by omega)
  by_cases he:l.getD i []=s
  ·have hbq:(l.getD i [] == s)=true:=by rw[he];exact beq_self_eq_true s
   push_cast(disch:=first|omega|(apply id;push_cast;try omega))[hil,hg,hbq,Int.toNat_natCast,hl1]
   rw[eE0 (by omega),if_pos he] at hn
   exact ⟨_,⟨_,rfl,by omega,fun _=>by omega,hn⟩,.id rfl⟩
  ·have hbq:(l.getD i [] == s)=false:=beq_eq_false_iff_ne.2 he
   push_cast(disch:=first|omega|(apply id;push_cast;try omega))[hil,hg,hbq,Int.toNat_natCast,hl1]
   exact ⟨_,by omega,I85.mk (i+1) _ _ (by first|rfl|omega) (by omega) (by rw[eE0 (by omega),if_neg he] at hn;exact hn) (by first|assumption|(push_cast(disch:=first|omega|(apply id;push_cast;try omega))[hl1];try omega)) tH⟩
 ·push_cast(disch:=first|omega|(apply id;push_cast;try omega))[hil]
  rw[qL1]
  push_cast(disch:=first|omega|(apply id;push_cast;try omega))
  rw[List.drop_of_length_le (by omega)] at hn
  exact ⟨_,⟨-1,rfl,by omega,fun hm=>(by rw[show (-1:Int)=gW l s from hn];exact mR0 hm),hn⟩,.id rfl⟩
inductive I84 (l:List (List UInt8)):Nat→S→Prop
 | mk (i:Nat) (iv:Int) (h:jA) {x1 x2 x4 x5 x6 x7 x8 x9 xA xB xC xD xE xF xG xH:Value} (hiv:iv=(i:Int)) (hi:i≤l.length) (hl1:h.lo=1) (hl2:1≤h.next) :
  I84 l (l.length-i) ⟨(F18 (nsV l) x1 x2 (.int .i64 iv) x4 x5 x6 x7 x8 x9 xA xB xC xD xE xF xG xH),[],h⟩
theorem nY0 (l:List (List UInt8)) (hll:l.length<1000000000000000):gA (pp G) H0 68 [nsV l] (fun d=>∃ b:Bool,d=.bool b):=by
 refine cY G fir68 (by kernel_rfl) (nL1 ..) fun hlo=>?_;rw[kQ2]
 push_cast(disch:=first|omega|(apply id;push_cast;try omega))
 refine WD.loop4 (q:=qq) (qB G) (by kernel_rfl) (I84 l) ?_ _ _ (I84.mk 0 0 _ rfl (Nat.zero_le _) rfl tH)
 intro m s1 hI
 cases hI with|mk i iv h hiv hi hl1 hl2=>
 subst hiv
 rw[qO1]
 have hns:nsV l=Rw false eS l.length (nss l):=rfl
 by_cases hil:(i:Int)<l.length
 ·have hg:=qB0 (l:=l) (i:=i) (by omega)
  push_cast(disch:=first|omega|(apply id;push_cast;try omega))[hil,hg,Int.toNat_natCast,hl1,hns]
  rw[← hns]
  refine dL (bM0 G l (l.getD i []) hll) ?_
  rintro _ ⟨k,rfl,_,_⟩
  refine ⟨rfl,?_⟩
  by_cases he:k=i
  ·push_cast(disch:=first|omega|(apply id;push_cast;try omega))[he]
   exact ⟨_,by omega,I84.mk (i+1) _ _ (by first|rfl|omega) (by omega) (by first|assumption|(push_cast(disch:=first|omega|(apply id;push_cast;try omega))[hl1];try omega)) tH⟩
  ·push_cast(disch:=first|omega|(apply id;push_cast;try omega))[he]
   exact ⟨_,⟨_,rfl⟩,.id rfl⟩
 ·push_cast(disch:=first|omega|(apply id;push_cast;try omega))[hil,hns]
  rw[qN1]
  push_cast(disch:=first|omega|(apply id;push_cast;try omega))
  exact ⟨_,⟨_,rfl⟩,.id rfl⟩
abbrev tLw:Nat:=111
def lwC (V Sk D:List (List UInt8)) (b:Bool):List Value:=[nsV V,nsV Sk,nsV D,.bool b]
theorem dW0 (n:Nat) (hn:0<n) (V Sk D:List (List UInt8)) (b:Bool):scL n (lwC V Sk D b)=true:=by simp[lwC,scL,lZ0 n hn,Ev.sc]
def LwR (σ:jA) (b:Nat) (V Sk D:List (List UInt8)) (Q:Value→Prop) (v:Value) (σ':jA):Prop:=Q v∧∃ bb,σ'=σ.put b (O (lwC V Sk D bb) tLw false)
theorem at_f (V Sk D l:List (List UInt8)) (s:List UInt8) (hll:l.length<1000000000000000) (σ:jA) (b:Nat) (bad:Bool) (hc:cells σ b=some (lwC V Sk D bad,tLw,false)) (hb1:1≤b) (hb:b<σ.next) :
  jX (pp G) H0 79 [.pointer (some ⟨b,0,none⟩),nsV l,.string (Tx s)] σ (LwR σ b V Sk D fun v=>∃ k:Int,v=.int .i64 k∧k=gW l s):=by
 refine jX.wlog fun hl0 hH0 hp0 hlo=>?_;rw[bI] at hl0;refine jX.cutE (jX.fir4 (q:=qq) (qB G) nX2 (by kernel_rfl) rfl rfl (rY0 ..) (by rw[hl0];exact (show NGG≤1 by decide)) ?_);rw[bK1]
 unfold lwC at hc
 push_cast(disch:=first|omega|(apply id;push_cast;try omega))
 refine dL (bM0 G l s hll) ?_
 rintro _ ⟨k,rfl,_,_,hkf⟩
 refine ⟨rfl,?_⟩
 by_cases hk:k<0
 ·push_cast(disch:=first|omega|(apply id;push_cast;try omega))[hk,hc]
  exact ⟨_,_,⟨⟨k,rfl,hkf⟩,true,rfl⟩,.id rfl,.put1 (by repeat (first|exact jF.refl _ _|assumption|(refine jF.put'' ?_ _ _ (by intro _;first|rfl|omega|(simp only[push_cast] at *;omega)))|(refine jF.add' ?_ _))) hb (by omega) (cs:=lwC V Sk D true) (by push_cast(disch:=first|omega|(apply id;push_cast;try omega));first|done|rfl) (.ids (dW0 _ (show 0<σ.next by omega) ..)) rfl⟩
 ·push_cast(disch:=first|omega|(apply id;push_cast;try omega))[hk,hc]
  exact ⟨_,_,⟨⟨k,rfl,hkf⟩,bad,rfl⟩,.id rfl,.put1 (by repeat (first|exact jF.refl _ _|assumption|(refine jF.put'' ?_ _ _ (by intro _;first|rfl|omega|(simp only[push_cast] at *;omega)))|(refine jF.add' ?_ _))) hb (by omega) (cs:=lwC V Sk D bad) hc (.ids (dW0 _ (show 0<σ.next by omega) ..)) rfl⟩
theorem sL0:∀ {a b:List Ex},smEs a=true→smEs b=true→smEs (a++b)=true
 | [],b,_,hb=>hb
 | x :: a,b,ha,hb=>by
  simp only[smEs,Bool.and_eq_true] at ha
  rw[List.cons_append,smEs,ha.1,sL0 ha.2 hb];rfl
mutual
def lowE (V:List (List UInt8)):Ex→Ex
 | .mk k n s l=>.mk k (if k=2 then gW V s else n) [] (wA0 V l)
def wA0 (V:List (List UInt8)):List Ex→List Ex
 | []=>[]
 | x :: l=>lowE V x :: wA0 V l
end
theorem bF0 (V:List (List UInt8)):∀ l:List Ex,wA0 V l=l.map (lowE V)
 | []=>rfl
 | x :: l=>by rw[wA0,bF0 V l];rfl
theorem zE1 (V:List (List UInt8)) {l:List Ex} {i:Nat} {x:Ex} (h:l[i]?=some x):wA0 V (l.take (i+1))=wA0 V (l.take i)++[lowE V x]:=by
 rw[jW h,bF0,bF0,List.map_append];rfl
def mZ2 (V:List (List UInt8)) (x:Ex) (kk nn:Int) (ss:List UInt8):Prop:=kk=x.k∧nn=(if x.k=2 then gW V x.s else x.n)∧ss=[]
inductive I94 (V Sk D:List (List UInt8)) (σ:jA) (b:Nat) (x:Ex):Nat→S→Prop
 | mk (i : Nat) (iv : Int) (h : jA) (bad : Bool) (kk nn : Int) (ss : List UInt8) (q : Option Addr) (c : Nat) (ys : List Ex) {x1 x2 x7 x8 x9 xA xB xC xD xE xF xG xH xI xJ xK xL xM xN xO xP xQ xR xS xT xU xV xW xX xY xZ yA yB yC yD yE yF yG yH : Value} (hiv : iv = (i : Int)) (hi : i ≤ x.l.length)
   (cw:cells h b=some (lwC V Sk D bad,tLw,false)) (c0:cells h σ.next=some (exC x,eE,false)) (c1:cells h (σ.next+1)=some (zex,eE,false))
   (c2:cells h (σ.next+1+1)=some ([.int .i64 kk,.int .i64 nn,.string (Tx ss),.slice q i c],eE,false)) (ho:qI h eE 4 q i c (kF ys)) (hq:∀ k,blk q k→σ.next+3≤k) (hys:ys.length=i∧smEs ys=true) (hye:ys=wA0 V (x.l.take i)) (hh:mZ2 V x kk nn ss)
   (g:jF σ h (fun k=>k=b)) (hl2:σ.next+3≤h.next) :
  I94 V Sk D σ b x (x.l.length-i) ⟨(F44 (.pointer (some ⟨b,0,none⟩)) x1 x2 (.pointer (some ⟨σ.next,0,none⟩)) (.pointer (some ⟨σ.next+1,0,none⟩)) (.pointer (some ⟨σ.next+1+1,0,none⟩)) (.int .i64 iv) x7 x8 x9 xA xB xC xD xE xF xG xH xI xJ xK xL xM xN xO xP xQ xR xS xT xU xV xW xX xY xZ yA yB yC yD yE yF yG yH),[],h⟩
theorem oP0 (V Sk D:List (List UInt8)) (hV:V.length<1000000000000000):∀ (x:Ex),smE x=true→∀ (σ:jA) (b:Nat) (bad:Bool) (hc:cells σ b=some (lwC V Sk D bad,tLw,false)) (hb1:1≤b) (hb:b<σ.next),
  jX (pp G) H0 80 [.pointer (some ⟨b,0,none⟩),exV x] σ (LwR σ b V Sk D fun v=>∃ y,v=exV y∧smE y=true∧y=lowE V x)
 | .mk k n s l,hs,σ,b,bad,hc,hb1,hb=>by
  simp only[smE,Bool.and_eq_true,decide_eq_true_eq] at hs
  have ih:∀ x∈l,∀ (σ:jA) (b:Nat) (bad:Bool) (hc:cells σ b=some (lwC V Sk D bad,tLw,false)) (hb1:1≤b) (hb:b<σ.next),jX (pp G) H0 80 [.pointer (some ⟨b,0,none⟩),exV x] σ (LwR σ b V Sk D fun v=>∃ y,v=exV y∧smE y=true∧y=lowE V x):=fun x hx=>oP0 V Sk D hV x (cT hs.2 x hx)
  have hc':=hc
  unfold lwC at hc'
  refine jX.wlog fun hl0 hH0 hp0 hlo=>?_;rw[bI] at hl0;refine jX.cutE (jX.fir4 (q:=qq) (qB G) fir80 (by kernel_rfl) rfl rfl (fF2 ..) (by rw[hl0];exact (show NGG≤1 by decide)) ?_);rw[kF2]
  have hne:¬ b=σ.next:=by omega
  have hne1:¬ b=σ.next+1:=by omega
  have hne2:¬ b=σ.next+1+1:=by omega
  have key : ∀ (h : jA) (bad : Bool) (nn : Int) {x1 x2 x6 x7 x8 x9 xA xB xC xD xE xF xG xH xI xJ xK xL xM xN xO xP xQ xR xS xT xU xV xW xX xY xZ yA yB yC yD yE yF yG yH : Value}, cells h b = some (lwC V Sk D bad, tLw, false) → cells h σ.next = some (exC (.mk k n s l), eE, false) → cells h (σ.next + 1) = some (zex, eE, false) →
    cells h (σ.next+1+1)=some ([.int .i64 k,.int .i64 nn,.string (Tx []),.slice none 0 0],eE,false)→mZ2 V (.mk k n s l) k nn []→jF σ h (fun k=>k=b)→σ.next+3≤h.next→
    dc3 (pp G) qq none fU0 ⟨(F44 (.pointer (some ⟨b,0,none⟩)) x1 x2 (.pointer (some ⟨σ.next,0,none⟩)) (.pointer (some ⟨σ.next+1,0,none⟩)) (.pointer (some ⟨σ.next+1+1,0,none⟩)) x6 x7 x8 x9 xA xB xC xD xE xF xG xH xI xJ xK xL xM xN xO xP xQ xR xS xT xU xV xW xX xY xZ yA yB yC yD yE yF yG yH),[],h⟩
     (@kR ⟨jC Tryd.prog [(.cell 4 eE)] (fun v σ'=>∃ d σ1,LwR σ b V Sk D (fun v=>∃ y,v=exV y∧smE y=true∧y=lowE V (.mk k n s l)) d σ1∧FzV (pp G).P σ1.next σ' v d∧uM0 (pp G).P σ σ1 σ')⟩):=by
   intro h bad nn
   intros
   rename_i cw c0 c1 c2 hh g hl2
   rw[jS1]
   push_cast(disch:=first|omega|(apply id;push_cast;try omega))
   refine WD.loop4 (q:=qq) (qB G) (by kernel_rfl) (I94 V Sk D σ b (.mk k n s l)) ?_ _ _ (I94.mk 0 0 _ bad k nn [] none 0 [] rfl (Nat.zero_le _) cw c0 c1 c2 (qI.nil _ _ _) (fun b hb=>by obtain ⟨o,s,e⟩:=hb;cases e) ⟨rfl,rfl⟩ rfl hh g hl2)
   clear cw c0 c1 c2 g hl2 hh
   intro m s1 hI
   cases hI with|mk i iv h bad kk nn ss q c ys hiv hi cw c0 c1 c2 ho hq hys hye hh g hl2=>
   subst hiv
   simp only[Ex.l_mk] at hi hye
   have hl1:h.lo=1:=by rw[g.lo,hl0]
   rw[jR1]
   have cw':=cw
   unfold lwC at cw'
   by_cases hil:(i:Int)<l.length
   ·obtain ⟨x,hx⟩:=jR (l:=l) (i:=i) (by omega)
    have hp:=cN hx
    have hle:i*4+4≤l.length*4:=by omega
    push_cast(disch:=first|omega|(apply id;push_cast;try omega))[hil,c0,c2,hp,hle,Int.toNat_natCast,hl1]
    refine jB.func (cap:=[]) (ih x (List.mem_of_getElem? hx) h b bad cw hb1 (by omega)) ?_
    rintro _ _ ⟨⟨y,rfl,hy,hyE⟩,bb,rfl⟩
    push_cast(disch:=first|omega|(apply id;push_cast;try omega))[c2,↓gT2]
    have gp:jF h (h.put b (O (lwC V Sk D bb) tLw false)) (fun k=>k=b):=jF.put _ _ _ fun _=>rfl
    have ho2:=ho.grew gp (fun k hk e=>by have:=hq k hk;omega)
    obtain ⟨a',c',σ',e,o',g',b'⟩:=gM (by_:=56) ho2 (by omega) (show h.lo≤h.next by omega) (m:=1) (xs:=kF [y]) (zM0 [y]) (iH0 _) (by omega)
    rw[← iI0] at o'
    have hn':h.next≤σ'.next:=g'.next
    have hl':σ'.lo=h.lo:=g'.lo
    have w1:cells (h.put b (O (lwC V Sk D bb) tLw false)) b=some (lwC V Sk D bb,tLw,false):=by push_cast(disch:=first|omega|(apply id;push_cast;try omega));first|done|rfl
    have hq':∀ k,blk q k→σ.next+3≤k:=hq
    have kw:cells σ' b=_:=g'.cellsE w1 (show b<h.next by omega) (fun hb=>by have:=hq' _ hb;omega)
    have k0:cells σ' σ.next=_:=g'.cellsE (gp.cellsE c0 (by omega) (by omega)) (show _<h.next by omega) (fun hb=>by have:=hq' _ hb;omega)
    have k1:cells σ' (σ.next+1)=_:=g'.cellsE (gp.cellsE c1 (by omega) (by omega)) (show _<h.next by omega) (fun hb=>by have:=hq' _ hb;omega)
    have k2:cells σ' (σ.next+1+1)=_:=g'.cellsE (gp.cellsE c2 (by omega) (by omega)) (show _<h.next by omega) (fun hb=>by have:=hq' _ hb;omega)
    have gg:jF σ σ' (fun k=>k=b):=(g.tr' gp fun _ _ h=>h).tr' g' (fun k hk hb=>by have:=hq' _ hb;omega)
    push_cast(disch:=first|omega|(apply id;push_cast;try omega))[e,k2,hl',hl1]
    refine ⟨_,by simp only[Ex.l_mk];omega,I94.mk (i+1) _ _ bb kk nn ss a' c' (ys++[y]) (by first|rfl|omega) (by simp only[Ex.l_mk];omega) ?_ ?_ ?_ ?_ (o'.grew (S:=fun k=>k=σ.next+1+1) (by repeat (first|exact jF.refl _ _|assumption|(refine jF.put'' ?_ _ _ (by intro _;first|rfl|omega|(simp only[push_cast] at *;omega)))|(refine jF.add' ?_ _))) (fun k hk e=>?_)) (fun k hk=>?_) ⟨by simp[hys.1],sL0 hys.2 (by rw[smEs,hy];rfl)⟩ (by simp only[Ex.l_mk];rw[zE1 V hx,hye,hyE]) hh ?_ ?_⟩
    iterate 4 exact (by first|assumption|(push_cast(disch:=first|omega|(apply id;push_cast;try omega))[kw,k0,k1,k2];try omega))
    ·rcases b' k hk with hk|hk
     ·have:=hq' k hk;omega
     ·have hk:h.next≤k:=hk
      omega
    ·rcases b' k hk with hk|hk
     ·exact hq' k hk
     ·have hk:h.next≤k:=hk
      omega
    ·exact gg.put' _ _ (by omega)
    ·exact tH
   ·have hie:i=l.length:=by omega
    subst hie
    push_cast(disch:=first|omega|(apply id;push_cast;try omega))[hil,c0]
    rw[jQ1]
    have c1':=c1
    unfold zex at c1'
    push_cast(disch:=first|omega|(apply id;push_cast;try omega))[c1',c2,hl1]
    have ho2:=ho.grew (σ':=h.put (σ.next+1) (O [.int .i64 kk,.int .i64 nn,.string (Tx ss),.slice q l.length c] eE false)) (S:=fun k=>k=σ.next+1) (jF.put _ _ _ fun _=>rfl) (fun k hk e=>by have:=hq k hk;omega)
    refine ⟨exV (.mk kk nn ss ys),_,⟨⟨_,rfl,?_,?_⟩,bad,rfl⟩,?_,.put1 (g.put' _ _ (by omega)) hb (by omega) (cs:=lwC V Sk D bad) ?_ (.ids (dW0 _ (show 0<σ.next by omega) ..)) rfl⟩
    ·rw[smE,hys.1,hys.2];simp[hs.1]
    ·obtain ⟨h1,h2,h3⟩:=hh;rw[lowE,hye,h1,h2,h3,List.take_length];rfl
    ·unfold exV exC
     have hf:=qI.fz (P:=(pp G).P) (N:=σ.next) ho2 (by rfl) (by decide) (by omega) (.ids (jP0 _ (by omega) ys)) (fun b hb=>by have:=hq b hb;omega)
     rw[hys.1]
     exact .agg (.cons (.id rfl) (.cons (.id rfl) (.cons (.id rfl) (.cons hf .nil))))
    ·exact (by first|assumption|(push_cast(disch:=first|omega|(apply id;push_cast;try omega))[cw];try omega))
  by_cases hk:k=2
  ·subst hk
   push_cast(disch:=first|omega|(apply id;push_cast;try omega))[hc']
   refine jB.func (cap:=[]) (at_f G V Sk D V s hV _ b bad ?_ hb1 ?_) ?_
   iterate 2 exact (by first|assumption|(push_cast(disch:=first|omega|(apply id;push_cast;try omega))[lwC];try omega))
   ·rintro _ _ ⟨⟨y,rfl,hy⟩,bb,rfl⟩
    push_cast(disch:=first|omega|(apply id;push_cast;try omega))
    refine key _ bb y ?_ ?_ ?_ ?_ ⟨rfl,(by rw[hy];rfl),rfl⟩ ?_ ?_
    ·exact (by first|assumption|(push_cast(disch:=first|omega|(apply id;push_cast;try omega))[lwC];try omega))
    ·exact (by push_cast(disch:=first|omega|(apply id;push_cast;try omega));first|done|rfl)
    ·exact (by push_cast(disch:=first|omega|(apply id;push_cast;try omega));first|done|rfl)
    ·exact tH
    ·exact (by repeat (first|exact jF.refl _ _|assumption|(refine jF.put'' ?_ _ _ (by intro _;first|rfl|omega|(simp only[push_cast] at *;omega)))|(refine jF.add' ?_ _)))
    ·exact tH
  ·push_cast(disch:=first|omega|(apply id;push_cast;try omega))[hk,hc']
   refine key _ bad n ?_ ?_ ?_ ?_ ⟨rfl,(by show n=if k=2 then _ else n;rw[if_neg hk]),rfl⟩ ?_ ?_
   iterate 2 exact (by first|assumption|(push_cast(disch:=first|omega|(apply id;push_cast;try omega))[lwC];try omega))
   ·exact (by push_cast(disch:=first|omega|(apply id;push_cast;try omega));first|done|rfl)
   ·exact tH
   ·exact (by repeat (first|exact jF.refl _ _|assumption|(refine jF.put'' ?_ _ _ (by intro _;first|rfl|omega|(simp only[push_cast] at *;omega)))|(refine jF.add' ?_ _)))
   ·exact tH
 termination_by x=>SizeOf.sizeOf x
def Pr.l:Pr→List Pr
 | .mk _ _ _ _ l=>l
theorem Pr.l_mk (k:Int) (n t:List UInt8) (e:Ex) (l:List Pr):Pr.l (.mk k n t e l)=l:=rfl
mutual
def smP (V Sk:List (List UInt8)):Pr→Bool
 | .mk k n t e l=>decide (l.length<100000000000)&&(smE e&&((decide (k≠2) || decide (t∈V))&&((decide (k≠6) || decide (n∈Sk))&&((decide (k≠12) || decide (2≤l.length))&&smPs V Sk l))))
def smPs (V Sk:List (List UInt8)):List Pr→Bool
 | []=>true
 | x :: l=>smP V Sk x&&smPs V Sk l
end
theorem wY0 {V Sk:List (List UInt8)}:∀ {l:List Pr},smPs V Sk l=true→∀ x∈l,smP V Sk x=true
 | [],_,x,hx=>by cases hx
 | y :: l,h,x,hx=>by
  simp only[smPs,Bool.and_eq_true] at h
  rcases List.mem_cons.1 hx with rfl|hx
  ·exact h.1
  ·exact wY0 h.2 x hx
theorem yR0:∀ {a b:List Tm},bK a=true→bK b=true→bK (a++b)=true
 | [],b,_,hb=>hb
 | x :: a,b,ha,hb=>by
  simp only[bK,Bool.and_eq_true] at ha
  rw[List.cons_append,bK,ha.1,yR0 ha.2 hb];rfl
theorem pM2 (V Sk D l:List (List UInt8)) (s:List UInt8) (hll:l.length<1000000000000000) (bad:Bool) (hs:s∈l) :
  gA (pp G) H0 79 [Rpt 0 (lwC V Sk D bad),nsV l,.string (Tx s)] (fun v=>∃ k:Int,v=.int .i64 k∧k=gW l s):=by
 refine cY G nX2 (by kernel_rfl) (rY0 ..) fun hlo=>?_;rw[bK1]
 push_cast(disch:=first|omega|(apply id;push_cast;try omega))
 refine dL (bM0 G l s hll) ?_
 rintro _ ⟨k,rfl,_,hk,hkf⟩
 refine ⟨rfl,?_⟩
 have hk':¬ k<0:=by have:=hk hs;omega
 push_cast(disch:=first|omega|(apply id;push_cast;try omega))[hk']
 exact ⟨_,⟨k,rfl,hkf⟩,.id rfl⟩
def lowA (V Sk D:List (List UInt8)) (k:Int) (n t:List UInt8):Int:=
 if k=1 then (if t=[] then -1 else gW V t) else if k=2 then gW V t else if k=3∨k=4∨k=5∨k=6 then gW Sk n else if k=13 then gW D n else 0
def lowB (Sk:List (List UInt8)) (k:Int) (t:List UInt8):Int:=if k=6 then gW Sk t else 0
def lowN (k:Int) (n:List UInt8):List UInt8:=if k=1 then n else []
def lowX (V:List (List UInt8)) (k:Int) (e:Ex):Ex:=if k=2∨k=9 then lowE V e else .mk 0 0 [] []
mutual
def cJ (V Sk D:List (List UInt8)):Pr→Tm
 | .mk k n t e l=>.mk k (lowA V Sk D k n t) (lowB Sk k t) (lowN k n) (lowX V k e) (kY V Sk D l)
def kY (V Sk D:List (List UInt8)):List Pr→List Tm
 | []=>[]
 | x :: l=>cJ V Sk D x :: kY V Sk D l
end
theorem zJ0 (V Sk D:List (List UInt8)):∀ l:List Pr,kY V Sk D l=l.map (cJ V Sk D)
 | []=>rfl
 | x :: l=>by rw[kY,zJ0 V Sk D l];rfl
theorem dY0 (V Sk D:List (List UInt8)) {l:List Pr} {i:Nat} {x:Pr} (h:l[i]?=some x):kY V Sk D (l.take (i+1))=kY V Sk D (l.take i)++[cJ V Sk D x]:=by
 rw[jW h,zJ0,zJ0,List.map_append];rfl
def qO0 (V Sk D:List (List UInt8)) (x:Pr) (kk aa bb:Int) (nm:List UInt8) (ee:Ex):Prop:=match x with | .mk k n t e _=>kk=k∧aa=lowA V Sk D k n t∧bb=lowB Sk k t∧nm=lowN k n∧ee=lowX V k e
section
variable {V Sk D:List (List UInt8)} {k:Int}
theorem hd_at (h:k=3∨k=4∨k=5) (n t:List UInt8) (e:Ex) (l:List Pr):qO0 V Sk D (.mk k n t e l) k (gW Sk n) 0 [] (.mk 0 0 [] []):=by
 rcases h with rfl|rfl|rfl<;>simp[qO0,lowA,lowB,lowN,lowX]
theorem hd_6 (n t:List UInt8) (e:Ex) (l:List Pr):qO0 V Sk D (.mk 6 n t e l) 6 (gW Sk n) (gW Sk t) [] (.mk 0 0 [] []):=by simp[qO0,lowA,lowB,lowN,lowX]
theorem hd_9 (n t:List UInt8) (e:Ex) (l:List Pr):qO0 V Sk D (.mk 9 n t e l) 9 0 0 [] (lowE V e):=by simp[qO0,lowA,lowB,lowN,lowX]
theorem hd_13 (n t:List UInt8) (e:Ex) (l:List Pr):qO0 V Sk D (.mk 13 n t e l) 13 (gW D n) 0 [] (.mk 0 0 [] []):=by simp[qO0,lowA,lowB,lowN,lowX]
theorem hd_o (h1:k≠1) (h2:k≠2) (h3:¬ (k=3∨k=4∨k=5)) (h6:¬ k=6) (h9:¬ k=9) (h13:¬ k=13) (n t:List UInt8) (e:Ex) (l:List Pr):qO0 V Sk D (.mk k n t e l) k 0 0 [] (.mk 0 0 [] []):=by
 simp only[not_or] at h3
 simp[qO0,lowA,lowB,lowN,lowX,h1,h2,h3,h6,h9,h13]
theorem hd_1a (n:List UInt8) (e:Ex) (l:List Pr):qO0 V Sk D (.mk 1 n [] e l) 1 (-1) 0 n (.mk 0 0 [] []):=by simp[qO0,lowA,lowB,lowN,lowX]
theorem hd_1b {t:List UInt8} (ht:¬ t=[]) (n:List UInt8) (e:Ex) (l:List Pr):qO0 V Sk D (.mk 1 n t e l) 1 (gW V t) 0 n (.mk 0 0 [] []):=by simp[qO0,lowA,lowB,lowN,lowX,ht]
theorem hd_2 (n t:List UInt8) (e:Ex) (l:List Pr):qO0 V Sk D (.mk 2 n t e l) 2 (gW V t) 0 [] (lowE V e):=by simp[qO0,lowA,lowB,lowN,lowX]
end
inductive I86 (V Sk D:List (List UInt8)) (σ:jA) (b:Nat) (x:Pr):Nat→S→Prop
 | mk (i : Nat) (iv : Int) (h : jA) (bad : Bool) (kk aa bb : Int) (nm : List UInt8) (ek en : Int) (es : List UInt8) (el : Value) (xs : List Ex) (q : Option Addr) (c : Nat) (ys : List Tm) {x1 x2 x7 x8 x9 xA xB xC xD xE xF xG xH xI xJ xK xL xM xN xO xP xQ xR xS xT xU xV xW xX xY xZ yA yB yC yD yE yF yG yH yI yJ yK yL yM yN yO yP yQ yR yS yT yU yV yW yX yY yZ zA zB zC zD zE zF zG zH zI zJ zK zL zM zN zO zP zQ zR zS zT zU zV zW zX zY zZ wA wB wC wD wE wF wG wH wI wJ wK wL wM wN wO wP wQ wR wS wT wU wV wW wX wY wZ uA uB uC : Value} (hiv : iv = (i : Int)) (hi : i ≤ x.l.length)
   (cw:cells h b=some (lwC V Sk D bad,tLw,false)) (c0:cells h σ.next=some (prC x,epr,false)) (c1:cells h (σ.next+1)=some (ztm,etm,false))
   (c2:cells h (σ.next+1+1)=some ([.int .i64 kk,.int .i64 aa,.int .i64 bb,.string (Tx nm),.int .i64 ek,.int .i64 en,.string (Tx es),el,.slice q i c],etm,false))
   (hel:one el=true) (hxs:∀ τ,FzV (pp G).P σ.next τ el (Rw false eE xs.length (kF xs))) (hxe:smE (.mk ek en es xs)=true)
   (ho:qI h etm 9 q i c (qK ys)) (hq:∀ k,blk q k→σ.next+3≤k) (hys:ys.length=i∧bK ys=true) (hyp:ys=kY V Sk D (x.l.take i)) (hh:qO0 V Sk D x kk aa bb nm (.mk ek en es xs))
   (g:jF σ h (fun k=>k=b)) (hl2:σ.next+3≤h.next) :
  I86 V Sk D σ b x (x.l.length-i) ⟨(F117 (.pointer (some ⟨b,0,none⟩)) x1 x2 (.pointer (some ⟨σ.next,0,none⟩)) (.pointer (some ⟨σ.next+1,0,none⟩)) (.pointer (some ⟨σ.next+1+1,0,none⟩)) (.int .i64 iv) x7 x8 x9 xA xB xC xD xE xF xG xH xI xJ xK xL xM xN xO xP xQ xR xS xT xU xV xW xX xY xZ yA yB yC yD yE yF yG yH yI yJ yK yL yM yN yO yP yQ yR yS yT yU yV yW yX yY yZ zA zB zC zD zE zF zG zH zI zJ zK zL zM zN zO zP zQ zR zS zT zU zV zW zX zY zZ wA wB wC wD wE wF wG wH wI wJ wK wL wM wN wO wP wQ wR wS wT wU wV wW wX wY wZ uA uB uC),[],h⟩
def PrR (σ:jA) (b:Nat) (V Sk D:List (List UInt8)) (x:Pr):Value→jA→Prop:=fun v σ'=>∃ d σ1,LwR σ b V Sk D (fun v=>∃ y,v=tmV y∧smT y=true∧y=cJ V Sk D x) d σ1∧FzV (pp G).P σ1.next σ' v d∧uM0 (pp G).P σ σ1 σ'
theorem jU0 (V Sk D:List (List UInt8)) (σ:jA) (b:Nat) (hb1:1≤b) (hb:b<σ.next) (hl0:σ.lo=1) (k:Int) (n t:List UInt8) (e:Ex) (l:List Pr) (hll:l.length<100000000000)
  (ih:∀ x∈l,∀ (σ:jA) (b:Nat) (bad:Bool) (hc:cells σ b=some (lwC V Sk D bad,tLw,false)) (hb1:1≤b) (hb:b<σ.next),
   jX (pp G) H0 70 [.pointer (some ⟨b,0,none⟩),prV x] σ (LwR σ b V Sk D fun v=>∃ y,v=tmV y∧smT y=true∧y=cJ V Sk D x))
  (h:jA) (bad:Bool) (kk aa bb:Int) (nm:List UInt8) (ek en:Int) (es:List UInt8) (el:Value) (xs:List Ex) {x1 x2 x6 x7 x8 x9 xA xB xC xD xE xF xG xH xI xJ xK xL xM xN xO xP xQ xR xS xT xU xV xW xX xY xZ yA yB yC yD yE yF yG yH yI yJ yK yL yM yN yO yP yQ yR yS yT yU yV yW yX yY yZ zA zB zC zD zE zF zG zH zI zJ zK zL zM zN zO zP zQ zR zS zT zU zV zW zX zY zZ wA wB wC wD wE wF wG wH wI wJ wK wL wM wN wO wP wQ wR wS wT wU wV wW wX wY wZ uA uB uC:Value}
  (cw:cells h b=some (lwC V Sk D bad,tLw,false)) (c0:cells h σ.next=some (prC (.mk k n t e l),epr,false)) (c1:cells h (σ.next+1)=some (ztm,etm,false))
  (c2:cells h (σ.next+1+1)=some ([.int .i64 kk,.int .i64 aa,.int .i64 bb,.string (Tx nm),.int .i64 ek,.int .i64 en,.string (Tx es),el,.slice none 0 0],etm,false))
  (hel:one el=true) (hxs:∀ τ,FzV (pp G).P σ.next τ el (Rw false eE xs.length (kF xs))) (hxe:smE (.mk ek en es xs)=true) (hh:qO0 V Sk D (.mk k n t e l) kk aa bb nm (.mk ek en es xs))
  (g:jF σ h (fun k=>k=b)) (hl2:σ.next+3≤h.next) :
  dc3 (pp G) qq none qD0 ⟨(F117 (.pointer (some ⟨b,0,none⟩)) x1 x2 (.pointer (some ⟨σ.next,0,none⟩)) (.pointer (some ⟨σ.next+1,0,none⟩)) (.pointer (some ⟨σ.next+1+1,0,none⟩)) x6 x7 x8 x9 xA xB xC xD xE xF xG xH xI xJ xK xL xM xN xO xP xQ xR xS xT xU xV xW xX xY xZ yA yB yC yD yE yF yG yH yI yJ yK yL yM yN yO yP yQ yR yS yT yU yV yW yX yY yZ zA zB zC zD zE zF zG zH zI zJ zK zL zM zN zO zP zQ zR zS zT zU zV zW zX zY zZ wA wB wC wD wE wF wG wH wI wJ wK wL wM wN wO wP wQ wR wS wT wU wV wW wX wY wZ uA uB uC),[],h⟩
   (@kR ⟨jC Tryd.prog [(.cell 4 etm)] (PrR G σ b V Sk D (.mk k n t e l))⟩):=by
 rw[qK1]
 push_cast(disch:=first|omega|(apply id;push_cast;try omega))
 refine WD.loop4 (q:=qq) (qB G) (by kernel_rfl) (I86 G V Sk D σ b (.mk k n t e l)) ?_ _ _ (I86.mk 0 0 _ bad kk aa bb nm ek en es el xs none 0 [] rfl (Nat.zero_le _) cw c0 c1 c2 hel hxs hxe (qI.nil _ _ _) (fun b hb=>by obtain ⟨o,s,e⟩:=hb;cases e) ⟨rfl,rfl⟩ rfl hh g hl2)
 clear cw c0 c1 c2 g hl2 hxs hxe hel hh
 intro m s1 hI
 cases hI with|mk i iv h bad kk aa bb nm ek en es el xs q c ys hiv hi cw c0 c1 c2 hel hxs hxe ho hq hys hyp hh g hl2=>
 subst hiv
 simp only[Pr.l_mk] at hi hyp
 have hl1:h.lo=1:=by rw[g.lo,hl0]
 rw[qI1]
 have cw':=cw
 unfold lwC at cw'
 by_cases hil:(i:Int)<l.length
 ·obtain ⟨x,hx⟩:=jR (l:=l) (i:=i) (by omega)
  have hp:=qX0 hx
  have hle:i*8+8≤l.length*8:=by omega
  push_cast(disch:=first|omega|(apply id;push_cast;try omega))[hil,c0,c2,hp,hle,Int.toNat_natCast,hl1]
  refine jB.func (cap:=[]) (ih x (List.mem_of_getElem? hx) h b bad cw hb1 (by omega)) ?_
  rintro _ _ ⟨⟨y,rfl,hy,hyE⟩,bd,rfl⟩
  push_cast(disch:=first|omega|(apply id;push_cast;try omega))[c2,↓oG0]
  have gp:jF h (h.put b (O (lwC V Sk D bd) tLw false)) (fun k=>k=b):=jF.put _ _ _ fun _=>rfl
  have ho2:=ho.grew gp (fun k hk e=>by have:=hq k hk;omega)
  obtain ⟨a',c',σ',e',o',g',b'⟩:=gM (by_:=120) ho2 (by omega) (show h.lo≤h.next by omega) (m:=1) (xs:=qK [y]) (bB [y]) (jK0 _) (by omega)
  rw[← jL0] at o'
  have hn':h.next≤σ'.next:=g'.next
  have hl':σ'.lo=h.lo:=g'.lo
  have w1:cells (h.put b (O (lwC V Sk D bd) tLw false)) b=some (lwC V Sk D bd,tLw,false):=by push_cast(disch:=first|omega|(apply id;push_cast;try omega));first|done|rfl
  have hq':∀ k,blk q k→σ.next+3≤k:=hq
  have kw:cells σ' b=_:=g'.cellsE w1 (show b<h.next by omega) (fun hb=>by have:=hq' _ hb;omega)
  have k0:cells σ' σ.next=_:=g'.cellsE (gp.cellsE c0 (by omega) (by omega)) (show _<h.next by omega) (fun hb=>by have:=hq' _ hb;omega)
  have k1:cells σ' (σ.next+1)=_:=g'.cellsE (gp.cellsE c1 (by omega) (by omega)) (show _<h.next by omega) (fun hb=>by have:=hq' _ hb;omega)
  have k2:cells σ' (σ.next+1+1)=_:=g'.cellsE (gp.cellsE c2 (by omega) (by omega)) (show _<h.next by omega) (fun hb=>by have:=hq' _ hb;omega)
  have gg:jF σ σ' (fun k=>k=b):=(g.tr' gp fun _ _ h=>h).tr' g' (fun k hk hb=>by have:=hq' _ hb;omega)
  push_cast(disch:=first|omega|(apply id;push_cast;try omega))[e',k2,hl',hl1]
  refine ⟨_,by simp only[Pr.l_mk];omega,I86.mk (i+1) _ _ bd kk aa bb nm ek en es el xs a' c' (ys++[y]) (by first|rfl|omega) (by simp only[Pr.l_mk];omega) ?_ ?_ ?_ ?_ hel hxs hxe (o'.grew (S:=fun k=>k=σ.next+1+1) (by repeat (first|exact jF.refl _ _|assumption|(refine jF.put'' ?_ _ _ (by intro _;first|rfl|omega|(simp only[push_cast] at *;omega)))|(refine jF.add' ?_ _))) (fun k hk e=>?_)) (fun k hk=>?_) ⟨by simp[hys.1],yR0 hys.2 (by rw[bK,hy];rfl)⟩ (by simp only[Pr.l_mk];rw[dY0 V Sk D hx,hyp,hyE]) hh ?_ ?_⟩
  iterate 4 exact (by first|assumption|(push_cast(disch:=first|omega|(apply id;push_cast;try omega))[kw,k0,k1,k2];try omega))
  ·rcases b' k hk with hk|hk
   ·have:=hq' k hk;omega
   ·have hk:h.next≤k:=hk
    omega
  ·rcases b' k hk with hk|hk
   ·exact hq' k hk
   ·have hk:h.next≤k:=hk
    omega
  ·exact gg.put' _ _ (by omega)
  ·exact tH
 ·have hie:i=l.length:=by omega
  subst hie
  push_cast(disch:=first|omega|(apply id;push_cast;try omega))[hil,c0]
  rw[qH1]
  have c1':=c1
  unfold ztm at c1'
  push_cast(disch:=first|omega|(apply id;push_cast;try omega))[c1',c2,hl1]
  have ho2:=ho.grew (σ':=h.put (σ.next+1) (O [.int .i64 kk,.int .i64 aa,.int .i64 bb,.string (Tx nm),.int .i64 ek,.int .i64 en,.string (Tx es),el,.slice q l.length c] etm false)) (S:=fun k=>k=σ.next+1) (jF.put _ _ _ fun _=>rfl) (fun k hk e=>by have:=hq k hk;omega)
  refine ⟨tmV (.mk kk aa bb nm (.mk ek en es xs) ys),_,⟨⟨_,rfl,?_,?_⟩,bad,rfl⟩,?_,.put1 (g.put' _ _ (by omega)) hb (by omega) (cs:=lwC V Sk D bad) ?_ (.ids (dW0 _ (show 0<σ.next by omega) ..)) rfl⟩
  ·rw[smT,hys.1,hys.2,hxe];simp[hll]
  ·obtain ⟨h1,h2,h3,h4,h5⟩:=hh;rw[cJ,hyp,h1,h2,h3,h4,h5,List.take_length]
  ·unfold tmV
   have hf:=qI.fz (P:=(pp G).P) (N:=σ.next) ho2 (by rfl) (by decide) (by omega) (.ids (gB _ (by omega) ys)) (fun b hb=>by have:=hq b hb;omega)
   rw[qH0,hys.1]
   exact .agg (.cons (.id rfl) (.cons (.id rfl) (.cons (.id rfl) (.cons (.id rfl) (.cons (.id rfl) (.cons (.id rfl) (.cons (.id rfl) (.cons (hxs _) (.cons hf .nil)))))))))
  ·exact (by first|assumption|(push_cast(disch:=first|omega|(apply id;push_cast;try omega))[cw];try omega))
structure PrF (V Sk D:List (List UInt8)) (σ:jA) (b:Nat) (p:Pr) (h:jA) (bad:Bool) (kk aa bb:Int) (nm:List UInt8):Prop where
 cw:cells h b=some (lwC V Sk D bad,tLw,false)
 c0:cells h σ.next=some (prC p,epr,false)
 c1:cells h (σ.next+1)=some (ztm,etm,false)
 c2:cells h (σ.next+1+1)=some ([.int .i64 kk,.int .i64 aa,.int .i64 bb,.string (Tx nm),.int .i64 0,.int .i64 0,.string (Tx []),.slice none 0 0,.slice none 0 0],etm,false)
 g:jF σ h (fun k=>k=b)
 hl2:σ.next+3≤h.next
theorem tY0:smE (.mk 0 0 [] [])=true:=rfl
theorem bG2 (V Sk D:List (List UInt8)) (hV:V.length<1000000000000000) (hSk:Sk.length<1000000000000000) (hD:D.length<1000000000000000) (σ:jA) (b:Nat) (hb1:1≤b) (hb:b<σ.next) (hl0:σ.lo=1) (k:Int) (n t:List UInt8) (ek en:Int) (es:List UInt8) (el:List Ex) (l:List Pr) (hll:l.length<100000000000) (hse:smE (.mk ek en es el)=true) (hk2:k=2→t∈V) (hk6:k=6→n∈Sk)
  (ih:∀ x∈l,∀ (σ:jA) (b:Nat) (bad:Bool) (hc:cells σ b=some (lwC V Sk D bad,tLw,false)) (hb1:1≤b) (hb:b<σ.next),
   jX (pp G) H0 70 [.pointer (some ⟨b,0,none⟩),prV x] σ (LwR σ b V Sk D fun v=>∃ y,v=tmV y∧smT y=true∧y=cJ V Sk D x))
  (h:jA) (bad:Bool) (kk:Int) {x1 x2 x6 x7 x8 x9 xA xC xD xE xF xG xH xI xJ xK xL xM xN xO xP xQ xR xS xT xU xV xW xX xY xZ yA yB yC yD yE yF yG yH yI yJ yL yM yN yO yP yQ yR yS yT yU yV yW yX yY yZ zA zB zC zD zE zF zG zH zI zJ zK zL zM zN zO zP zQ zR zS zT zU zV zW zX zY zZ wA wB wC wD wE wF wG wH wI wJ wK wL wM wN wO wP wQ wR wS wT wU wV wW wX wY wZ uA uB uC:Value} (c:Bool) (hkk:kk=k) (hc3:k≠1∧k≠2∧(c=true↔(k=3∨k=4∨k=5))) (hf:PrF V Sk D σ b (.mk k n t (.mk ek en es el) l) h bad kk 0 0 []) :
  dc3 (pp G) qq none bH0 ⟨(F117 (.pointer (some ⟨b,0,none⟩)) x1 x2 (.pointer (some ⟨σ.next,0,none⟩)) (.pointer (some ⟨σ.next+1,0,none⟩)) (.pointer (some ⟨σ.next+1+1,0,none⟩)) x6 x7 x8 x9 xA (.int .i64 k) xC xD xE xF xG xH xI xJ xK xL xM xN xO xP xQ xR xS xT xU xV xW xX xY xZ yA yB yC yD yE yF yG yH yI yJ (.bool c) yL yM yN yO yP yQ yR yS yT yU yV yW yX yY yZ zA zB zC zD zE zF zG zH zI zJ zK zL zM zN zO zP zQ zR zS zT zU zV zW zX zY zZ wA wB wC wD wE wF wG wH wI wJ wK wL wM wN wO wP wQ wR wS wT wU wV wW wX wY wZ uA uB uC),[],h⟩
   (@kR ⟨jH 0 (jE (fun s1=>dc3 (pp G) qq none qD0 s1 (@kR ⟨jC Tryd.prog [(.cell 4 etm)] (PrR G σ b V Sk D (.mk k n t (.mk ek en es el) l))⟩)) (jC Tryd.prog [(.cell 4 etm)] (PrR G σ b V Sk D (.mk k n t (.mk ek en es el) l))))⟩):=by
 obtain ⟨cw,c0,c1,c2,g,hl2⟩:=hf
 obtain ⟨hk1,hk2',hc3⟩:=hc3
 have hl1:h.lo=1:=by rw[g.lo,hl0]
 have cw':=cw
 unfold lwC at cw'
 have hz:∀ τ,FzV (pp G).P σ.next τ (.slice none 0 0) (Rw false eE ([]:List Ex).length (kF [])):=fun τ=>mA0 G _ _
 rw[qJ1]
 cases c with
 | true=>
  push_cast(disch:=first|omega|(apply id;push_cast;try omega))[cw',c0,hl1]
  refine jB.func (cap:=[]) (at_f G V Sk D Sk n hSk h b bad cw hb1 (by omega)) ?_
  rintro _ _ ⟨⟨y,rfl,hyF⟩,bd,rfl⟩
  push_cast(disch:=first|omega|(apply id;push_cast;try omega))[c2]
  refine jU0 G V Sk D σ b hb1 hb hl0 k n t (.mk ek en es el) l hll ih _ bd kk y 0 [] 0 0 [] (.slice none 0 0) [] ?_ ?_ ?_ ?_ rfl hz tY0 (by rw[hkk,hyF];exact hd_at (hc3.1 rfl) ..) ?_ ?_
  iterate 4 exact (by first|assumption|(push_cast(disch:=first|omega|(apply id;push_cast;try omega))[c0,c1];try omega))
  ·exact (jF.put' (jF.tr' g (jF.put h b _ (S:=fun k=>k=b) fun _=>rfl) fun _ _ h=>h) _ _ (by omega))
  ·exact tH
 | false=>
  have w1:∀ bd,cells (h.put b (O (lwC V Sk D bd) tLw false)) b=some (lwC V Sk D bd,tLw,false):=fun bd=>by push_cast(disch:=first|omega|(apply id;push_cast;try omega));first|done|rfl
  have gb:∀ bd,jF σ (h.put b (O (lwC V Sk D bd) tLw false)) (fun k=>k=b):=fun bd=>jF.tr' g (jF.put h b _ (S:=fun k=>k=b) fun _=>rfl) fun _ _ h=>h
  by_cases h6:k=6
  ·have hm:=hk6 h6
   subst h6
   push_cast(disch:=first|omega|(apply id;push_cast;try omega))[cw',c0,hl1]
   refine jB.lendE (cap:=[]) (args:=[_,_,_]) (pM2 G V Sk D Sk n hSk bad hm) (.cons (.ptr (by omega) cw (by simp[lwC]) (.ids (dW0 _ (by omega) ..))) (.cons (.id (lZ0 _ (by omega) _)) (.cons (.id rfl) .nil))) ?_
   rintro _ ⟨y,rfl,hyF⟩
   refine ⟨rfl,?_⟩
   push_cast(disch:=first|omega|(apply id;push_cast;try omega))
   refine jB.func (cap:=[]) (at_f G V Sk D Sk t hSk h b bad cw hb1 (by omega)) ?_
   rintro _ _ ⟨⟨z,rfl,hzF⟩,bd,rfl⟩
   push_cast(disch:=first|omega|(apply id;push_cast;try omega))[c2]
   refine jU0 G V Sk D σ b hb1 hb hl0 6 n t (.mk ek en es el) l hll ih _ bd kk y z [] 0 0 [] (.slice none 0 0) [] ?_ ?_ ?_ ?_ rfl hz tY0 (by rw[hkk,hyF,hzF];exact hd_6 ..) ?_ ?_
   iterate 4 exact (by first|assumption|(push_cast(disch:=first|omega|(apply id;push_cast;try omega))[c0,c1];try omega))
   ·exact ((gb bd).put' _ _ (by omega)).put' _ _ (by omega)
   ·exact tH
  by_cases h9:k=9
  ·subst h9
   push_cast(disch:=first|omega|(apply id;push_cast;try omega))[cw',c0,hl1]
   refine jB.func (cap:=[]) (oP0 G V Sk D hV (.mk ek en es el) hse h b bad cw hb1 (by omega)) ?_
   rintro _ _ ⟨⟨y,rfl,hy,hyE⟩,bd,rfl⟩
   obtain ⟨yk,yn,ys,yl⟩:=y
   unfold exV exC
   push_cast(disch:=first|omega|(apply id;push_cast;try omega))[c2]
   refine jU0 G V Sk D σ b hb1 hb hl0 9 n t (.mk ek en es el) l hll ih _ bd kk 0 0 [] yk yn ys (Rw false eE yl.length (kF yl)) yl ?_ ?_ ?_ ?_ rfl (fun τ=>.id (bP0 _ (by omega) ..)) hy (by rw[hkk,hyE];exact hd_9 ..) ?_ ?_
   iterate 4 exact (by first|assumption|(push_cast(disch:=first|omega|(apply id;push_cast;try omega))[c0,c1];try omega))
   ·exact (gb bd).put' _ _ (by omega)
   ·exact tH
  by_cases h13:k=13
  ·subst h13
   push_cast(disch:=first|omega|(apply id;push_cast;try omega))[cw',c0,hl1]
   refine jB.func (cap:=[]) (at_f G V Sk D D n hD h b bad cw hb1 (by omega)) ?_
   rintro _ _ ⟨⟨y,rfl,hyF⟩,bd,rfl⟩
   push_cast(disch:=first|omega|(apply id;push_cast;try omega))[c2]
   refine jU0 G V Sk D σ b hb1 hb hl0 13 n t (.mk ek en es el) l hll ih _ bd kk y 0 [] 0 0 [] (.slice none 0 0) [] ?_ ?_ ?_ ?_ rfl hz tY0 (by rw[hkk,hyF];exact hd_13 ..) ?_ ?_
   iterate 4 exact (by first|assumption|(push_cast(disch:=first|omega|(apply id;push_cast;try omega))[c0,c1];try omega))
   ·exact (gb bd).put' _ _ (by omega)
   ·exact tH
  push_cast(disch:=first|omega|(apply id;push_cast;try omega))[h6,h9,h13]
  refine jU0 G V Sk D σ b hb1 hb hl0 k n t (.mk ek en es el) l hll ih _ bad kk 0 0 [] 0 0 [] (.slice none 0 0) [] cw c0 c1 c2 rfl hz tY0 (by rw[hkk];exact hd_o hk1 hk2' (fun h=>by have:=hc3.2 h;cases this) h6 h9 h13 ..) g hl2
theorem wA2 (V Sk D:List (List UInt8)) (hV:V.length<1000000000000000) (hSk:Sk.length<1000000000000000) (hD:D.length<1000000000000000):∀ (x:Pr),smP V Sk x=true→∀ (σ:jA) (b:Nat) (bad:Bool) (hc:cells σ b=some (lwC V Sk D bad,tLw,false)) (hb1:1≤b) (hb:b<σ.next),
  jX (pp G) H0 70 [.pointer (some ⟨b,0,none⟩),prV x] σ (LwR σ b V Sk D fun v=>∃ y,v=tmV y∧smT y=true∧y=cJ V Sk D x)
 | .mk k n t (.mk ek en es el) l,hs,σ,b,bad,hc,hb1,hb=>by
  simp only[smP,Bool.and_eq_true,Bool.or_eq_true,decide_eq_true_eq] at hs
  obtain ⟨hll,hse,hk2,hk6,hk11,hsl⟩:=hs
  have hk2:k=2→t∈V:=fun h=>hk2.elim (fun h'=>absurd h h') id
  have hk6:k=6→n∈Sk:=fun h=>hk6.elim (fun h'=>absurd h h') id
  have ih:∀ x∈l,∀ (σ:jA) (b:Nat) (bad:Bool) (hc:cells σ b=some (lwC V Sk D bad,tLw,false)) (hb1:1≤b) (hb:b<σ.next),
   jX (pp G) H0 70 [.pointer (some ⟨b,0,none⟩),prV x] σ (LwR σ b V Sk D fun v=>∃ y,v=tmV y∧smT y=true∧y=cJ V Sk D x):=fun x hx=>wA2 V Sk D hV hSk hD x (wY0 hsl x hx)
  clear hsl
  have hc':=hc
  unfold lwC at hc'
  refine jX.wlog fun hl0 hH0 hp0 hlo=>?_;rw[bI] at hl0;refine jX.cutE (jX.fir4 (q:=qq) (qB G) fir70 (by kernel_rfl) rfl rfl (uE2 ..) (by rw[hl0];exact (show NGG≤1 by decide)) ?_);rw[kO2]
  have hne:¬ b=σ.next:=by omega
  have hne1:¬ b=σ.next+1:=by omega
  have hne2:¬ b=σ.next+1+1:=by omega
  have hz:∀ τ,FzV (pp G).P σ.next τ (.slice none 0 0) (Rw false eE ([]:List Ex).length (kF [])):=fun τ=>mA0 G _ _
  have hfold:=@bG2 G V Sk D hV hSk hD σ b hb1 hb hl0 k n t ek en es el l hll hse hk2 hk6 ih
  have hloop:=@jU0 G V Sk D σ b hb1 hb hl0 k n t (.mk ek en es el) l hll ih
  unfold PrR at hfold hloop
  by_cases h1:k=1
  ·subst h1
   by_cases ht:t=[]
   ·have hq:(t == ([]:List UInt8))=true:=by rw[ht];rfl
    push_cast(disch:=first|omega|(apply id;push_cast;try omega))[hc',hq,Bool.not_true]
    refine hloop _ bad 1 (-1) 0 n 0 0 [] (.slice none 0 0) [] ?_ ?_ ?_ ?_ rfl hz tY0 (by subst ht;exact hd_1a ..) ?_ ?_
    ·exact (by first|assumption|(push_cast(disch:=first|omega|(apply id;push_cast;try omega))[lwC];try omega))
    ·exact (by push_cast(disch:=first|omega|(apply id;push_cast;try omega));first|done|rfl)
    ·exact (by push_cast(disch:=first|omega|(apply id;push_cast;try omega));first|done|rfl)
    ·exact tH
    ·exact (by repeat (first|exact jF.refl _ _|assumption|(refine jF.put'' ?_ _ _ (by intro _;first|rfl|omega|(simp only[push_cast] at *;omega)))|(refine jF.add' ?_ _)))
    ·exact tH
   ·have hq:(t == ([]:List UInt8))=false:=beq_eq_false_iff_ne.2 ht
    push_cast(disch:=first|omega|(apply id;push_cast;try omega))[hc',hq,Bool.not_false]
    refine jB.func (cap:=[]) (at_f G V Sk D V t hV _ b bad ?_ hb1 ?_) ?_
    iterate 2 exact (by first|assumption|(push_cast(disch:=first|omega|(apply id;push_cast;try omega))[lwC];try omega))
    ·rintro _ _ ⟨⟨y,rfl,hyF⟩,bd,rfl⟩
     push_cast(disch:=first|omega|(apply id;push_cast;try omega))
     refine hloop _ bd 1 y 0 n 0 0 [] (.slice none 0 0) [] ?_ ?_ ?_ ?_ rfl hz tY0 (by rw[hyF];exact hd_1b ht ..) ?_ ?_
     ·exact (by first|assumption|(push_cast(disch:=first|omega|(apply id;push_cast;try omega))[lwC];try omega))
     ·exact (by push_cast(disch:=first|omega|(apply id;push_cast;try omega));first|done|rfl)
     ·exact (by push_cast(disch:=first|omega|(apply id;push_cast;try omega));first|done|rfl)
     ·exact tH
     ·exact (by repeat (first|exact jF.refl _ _|assumption|(refine jF.put'' ?_ _ _ (by intro _;first|rfl|omega|(simp only[push_cast] at *;omega)))|(refine jF.add' ?_ _)))
     ·exact tH
  by_cases h2:k=2
  ·have hm:=hk2 h2
   subst h2
   push_cast(disch:=first|omega|(apply id;push_cast;try omega))[hc']
   refine jB.lendE (cap:=[]) (args:=[_,_,_]) (pM2 G V Sk D V t hV bad hm) (.cons (.ptr (e:=tLw) (m:=false) (full:=lwC V Sk D bad) (by push_cast(disch:=first|omega|(apply id;push_cast;try omega));omega) ?_ (by simp[lwC]) (.ids (dW0 _ ?_ ..))) (.cons (.id (lZ0 _ ?_ _)) (.cons (.id rfl) .nil))) ?_
   ·exact (by first|assumption|(push_cast(disch:=first|omega|(apply id;push_cast;try omega))[lwC];try omega))
   ·exact (by push_cast(disch:=first|omega|(apply id;push_cast;try omega));omega)
   ·exact (by push_cast(disch:=first|omega|(apply id;push_cast;try omega));omega)
   rintro _ ⟨y,rfl,hyF⟩
   refine ⟨rfl,?_⟩
   push_cast(disch:=first|omega|(apply id;push_cast;try omega))
   refine jB.func (cap:=[]) (oP0 G V Sk D hV (.mk ek en es el) hse _ b bad ?_ hb1 ?_) ?_
   iterate 2 exact (by first|assumption|(push_cast(disch:=first|omega|(apply id;push_cast;try omega))[lwC];try omega))
   rintro _ _ ⟨⟨x,rfl,hx,hyE⟩,bd,rfl⟩
   obtain ⟨yk,yn,ys,yl⟩:=x
   unfold exV exC
   push_cast(disch:=first|omega|(apply id;push_cast;try omega))
   refine hloop _ bd 2 y 0 [] yk yn ys (Rw false eE yl.length (kF yl)) yl ?_ ?_ ?_ ?_ rfl (fun τ=>.id (bP0 _ (by omega) ..)) hx (by rw[hyF,hyE];exact hd_2 ..) ?_ ?_
   ·exact (by first|assumption|(push_cast(disch:=first|omega|(apply id;push_cast;try omega))[lwC];try omega))
   ·exact (by push_cast(disch:=first|omega|(apply id;push_cast;try omega));first|done|rfl)
   ·exact (by push_cast(disch:=first|omega|(apply id;push_cast;try omega));first|done|rfl)
   ·exact tH
   ·exact (by repeat (first|exact jF.refl _ _|assumption|(refine jF.put'' ?_ _ _ (by intro _;first|rfl|omega|(simp only[push_cast] at *;omega)))|(refine jF.add' ?_ _)))
   ·exact tH
  by_cases h3:k=3
  ·subst h3
   push_cast(disch:=first|omega|(apply id;push_cast;try omega))[hc']
   refine hfold _ bad 3 true rfl (by decide) ⟨?_,?_,?_,?_,?_,?_⟩
   ·exact (by first|assumption|(push_cast(disch:=first|omega|(apply id;push_cast;try omega))[lwC];try omega))
   ·exact (by push_cast(disch:=first|omega|(apply id;push_cast;try omega));first|done|rfl)
   ·exact (by push_cast(disch:=first|omega|(apply id;push_cast;try omega));first|done|rfl)
   ·exact tH
   ·exact (by repeat (first|exact jF.refl _ _|assumption|(refine jF.put'' ?_ _ _ (by intro _;first|rfl|omega|(simp only[push_cast] at *;omega)))|(refine jF.add' ?_ _)))
   ·exact tH
  by_cases h4:k=4
  ·subst h4
   push_cast(disch:=first|omega|(apply id;push_cast;try omega))[hc']
   refine hfold _ bad 4 true rfl (by decide) ⟨?_,?_,?_,?_,?_,?_⟩
   ·exact (by first|assumption|(push_cast(disch:=first|omega|(apply id;push_cast;try omega))[lwC];try omega))
   ·exact (by push_cast(disch:=first|omega|(apply id;push_cast;try omega));first|done|rfl)
   ·exact (by push_cast(disch:=first|omega|(apply id;push_cast;try omega));first|done|rfl)
   ·exact tH
   ·exact (by repeat (first|exact jF.refl _ _|assumption|(refine jF.put'' ?_ _ _ (by intro _;first|rfl|omega|(simp only[push_cast] at *;omega)))|(refine jF.add' ?_ _)))
   ·exact tH
  push_cast(disch:=first|omega|(apply id;push_cast;try omega))[hc',h1,h2,h3,h4]
  refine hfold _ bad k _ rfl ⟨h1,h2,by simp[h3,h4]⟩ ⟨?_,?_,?_,?_,?_,?_⟩
  ·exact (by first|assumption|(push_cast(disch:=first|omega|(apply id;push_cast;try omega))[lwC];try omega))
  ·exact (by push_cast(disch:=first|omega|(apply id;push_cast;try omega));first|done|rfl)
  ·exact (by push_cast(disch:=first|omega|(apply id;push_cast;try omega));first|done|rfl)
  ·exact tH
  ·exact (by repeat (first|exact jF.refl _ _|assumption|(refine jF.put'' ?_ _ _ (by intro _;first|rfl|omega|(simp only[push_cast] at *;omega)))|(refine jF.add' ?_ _)))
  ·exact tH
 termination_by x=>SizeOf.sizeOf x
abbrev tMy:Nat:=129
def myC (D:List (List UInt8)) (e x:List Bool):List Value:=[nsV D,bvV e,bvV x]
abbrev my (D:List (List UInt8)) (e x:List Bool):Value:=Rpt 0 (myC D e x)
theorem wP2 (n:Nat) (hn:0<n) (l:List Bool):Ev.sc n (bvV l)=true:=wQ2 n hn ..
theorem mJ2 (n:Nat) (hn:0<n) (D:List (List UInt8)) (e x:List Bool):scL n (myC D e x)=true:=by simp[myC,scL,lZ0 n hn,wP2 n hn]
theorem pQ2 (n:Nat) (hn:0<n) (o:Nat) (cs:List Value) (h:scL n cs=true):Ev.sc n (Rpt o cs)=true:=by simp[Rpt,Ev.sc,scL,h,hn]
theorem mI2 (n:Nat) (hn:0<n) (D:List (List UInt8)) (e x:List Bool):Ev.sc n (my D e x)=true:=pQ2 n hn _ _ (mJ2 n hn ..)
attribute [push_cast] mI2 wP2
inductive I100 (D:List (List UInt8)) (e x:List Bool) (k:Int) (n t:List UInt8) (ee:Ex) (l:List Pr):Nat→S→Prop
 | mk (i : Nat) (iv : Int) (h : jA) (a b c d : Bool) {x1 x2 x4 x5 x9 xA xB xC xD xE xF xG xH xI xJ xK xL xM xN xO xP xQ xR xS xT xU xV xW xX xY xZ yA yB yC yD yE yF yG yH yI yJ yK yL yM yN yO yP yQ yR yS yT yU yV yW yX yY yZ zA zB zC zD zE zF zG zH zI zJ zK zL zM zN zO zP zQ zR zS zT zU zV zW zX zY zZ wA wB wC wD wE wF wG wH wI wJ wK wL wM wN wO wP wQ wR wS wT wU wV wW wX wY wZ uA uB uC uD uE uF uG uH uI uJ uK uL uM uN uO : Value} (hiv : iv = (i : Int)) (hi : i ≤ l.length)
   (c0:cells h 1=some (prC (.mk k n t ee l),epr,false)) (c1:cells h 2=some ([.bool a,.bool b],133,false)) (c2:cells h 3=some ([.bool c,.bool d],133,false)) (hl1:h.lo=1) (hl2:4≤h.next) :
  I100 D e x k n t ee l (l.length-i) ⟨(F129 (my D e x) x1 x2 (.pointer (some ⟨1,0,none⟩)) x4 x5 (.pointer (some ⟨2,0,none⟩)) (.pointer (some ⟨3,0,none⟩)) (.int .i64 iv) x9 xA xB xC xD xE xF xG xH xI xJ xK xL xM xN xO xP xQ xR xS xT xU xV xW xX xY xZ yA yB yC yD yE yF yG yH yI yJ yK yL yM yN yO yP yQ yR yS yT yU yV yW yX yY yZ zA zB zC zD zE zF zG zH zI zJ zK zL zM zN zO zP zQ zR zS zT zU zV zW zX zY zZ wA wB wC wD wE wF wG wH wI wJ wK wL wM wN wO wP wQ wR wS wT wU wV wW wX wY wZ uA uB uC uD uE uF uG uH uI uJ uK uL uM uN uO),[],h⟩
def twoB (d:Value):Prop:=∃ a b:Bool,d=.tuple ⟨[.bool a,.bool b]⟩
theorem tT0 (D:List (List UInt8)) (e x:List Bool) (hD:D.length<1000000000000000) (he:e.length=D.length) (hx:x.length=D.length) (k:Int) (n t:List UInt8) (ee:Ex) (l:List Pr) (h:jA) (a b c d:Bool) {x1 x2 x4 x5 x8 x9 xA xB xC xD xE xF xG xH xI xJ xK xL xM xN xO xP xQ xR xS xT xU xV xW xX xY xZ yA yB yC yD yE yF yG yH yI yJ yK yL yM yN yO yP yQ yR yS yT yU yV yW yX yY yZ zA zB zC zD zE zF zG zH zI zJ zK zL zM zN zO zP zQ zR zS zT zU zV zW zX zY zZ wA wB wC wD wE wF wG wH wI wJ wK wL wM wN wO wP wQ wR wS wT wU wV wW wX wY wZ uA uB uC uD uE uF uG uH uI uJ uK uL uM uN uO:Value}
  (c0:cells h 1=some (prC (.mk k n t ee l),epr,false)) (c1:cells h 2=some ([.bool a,.bool b],133,false)) (c2:cells h 3=some ([.bool c,.bool d],133,false)) (hl1:h.lo=1) :
  dc3 (pp G) qq none oX0 ⟨(F129 (my D e x) x1 x2 (.pointer (some ⟨1,0,none⟩)) x4 x5 (.pointer (some ⟨2,0,none⟩)) (.pointer (some ⟨3,0,none⟩)) x8 x9 xA xB xC xD xE xF xG xH xI xJ xK xL xM xN xO xP xQ xR xS xT xU xV xW xX xY xZ yA yB yC yD yE yF yG yH yI yJ yK yL yM yN yO yP yQ yR yS yT yU yV yW yX yY yZ zA zB zC zD zE zF zG zH zI zJ zK zL zM zN zO zP zQ zR zS zT zU zV zW zX zY zZ wA wB wC wD wE wF wG wH wI wJ wK wL wM wN wO wP wQ wR wS wT wU wV wW wX wY wZ uA uB uC uD uE uF uG uH uI uJ uK uL uM uN uO),[],h⟩ (@kR ⟨jC Tryd.prog [(.tmp 4),(.tmp 5)] (fun v σ'=>∃ d,twoB d∧FzV (pp G).P H0.next σ' v d)⟩):=by
 rw[jJ1]
 by_cases h1:k=1
 ·subst h1;push_cast(disch:=first|omega|(apply id;push_cast;try omega))[c0];exact ⟨_,⟨_,_,rfl⟩,.id rfl⟩
 by_cases h8:k=8
 ·subst h8;push_cast(disch:=first|omega|(apply id;push_cast;try omega))[c0];exact ⟨_,⟨_,_,rfl⟩,.id rfl⟩
 by_cases h4:k=4
 ·subst h4;push_cast(disch:=first|omega|(apply id;push_cast;try omega))[c0];exact ⟨_,⟨_,_,rfl⟩,.id rfl⟩
 by_cases h7:k=7
 ·subst h7;cases a<;>(push_cast(disch:=first|omega|(apply id;push_cast;try omega))[c0,c1,c2];exact ⟨_,⟨_,_,rfl⟩,.id rfl⟩)
 by_cases h9:k=9
 ·subst h9;push_cast(disch:=first|omega|(apply id;push_cast;try omega))[c0];rw[jC0];cases a<;>cases c<;>(push_cast(disch:=first|omega|(apply id;push_cast;try omega))[c0,c1,c2];exact ⟨_,⟨_,_,rfl⟩,.id rfl⟩)
 by_cases h10:k=10
 ·subst h10;push_cast(disch:=first|omega|(apply id;push_cast;try omega))[c0];rw[jC0];cases a<;>cases c<;>(push_cast(disch:=first|omega|(apply id;push_cast;try omega))[c0,c1,c2];exact ⟨_,⟨_,_,rfl⟩,.id rfl⟩)
 by_cases h11:k=11
 ·subst h11;push_cast(disch:=first|omega|(apply id;push_cast;try omega))[c0];rw[jC0];cases a<;>cases c<;>(push_cast(disch:=first|omega|(apply id;push_cast;try omega))[c0,c1,c2];exact ⟨_,⟨_,_,rfl⟩,.id rfl⟩)
 by_cases h12:k=12
 ·subst h12;push_cast(disch:=first|omega|(apply id;push_cast;try omega))[c0];rw[jC0];cases a<;>cases c<;>(push_cast(disch:=first|omega|(apply id;push_cast;try omega))[c0,c1,c2];exact ⟨_,⟨_,_,rfl⟩,.id rfl⟩)
 by_cases h13:k=13
 ·subst h13;push_cast(disch:=first|omega|(apply id;push_cast;try omega))[c0];rw[jC0];push_cast(disch:=first|omega|(apply id;push_cast;try omega))[c0,myC]
  refine dL (bM0 G D n hD) ?_
  rintro _ ⟨j,rfl,⟨hj1,hj2⟩,_⟩
  refine ⟨rfl,?_⟩
  by_cases hj:j ≥ 0
  ·have g1:=uI0 (l:=e) (i:=j.toNat) (by omega)
   have g2:=uI0 (l:=x) (i:=j.toNat) (by omega)
   have hje:j<e.length:=by omega
   have hjx:j<x.length:=by omega
   push_cast(disch:=first|omega|(apply id;push_cast;try omega))[hj,hje,hjx,g1,g2,hl1,myC,bvV]
   exact ⟨_,⟨_,_,rfl⟩,.id rfl⟩
  ·push_cast(disch:=first|omega|(apply id;push_cast;try omega))[hj]
   exact ⟨_,⟨_,_,rfl⟩,.id rfl⟩
 push_cast(disch:=first|omega|(apply id;push_cast;try omega))[c0,h1,h8,h4,h7,h9,h10];rw[jC0];push_cast(disch:=first|omega|(apply id;push_cast;try omega))[h11,h12,h13];rw[jI1];push_cast(disch:=first|omega|(apply id;push_cast;try omega))
 exact ⟨_,⟨_,_,rfl⟩,.id rfl⟩
theorem mB1 (V Sk D:List (List UInt8)) (e x:List Bool) (hD:D.length<1000000000000000) (he:e.length=D.length) (hx:x.length=D.length):∀ (p:Pr),smP V Sk p=true→
  gA (pp G) H0 87 [my D e x,prV p] twoB
 | .mk k n t ee l,hs=>by
  simp only[smP,Bool.and_eq_true,Bool.or_eq_true,decide_eq_true_eq] at hs
  obtain ⟨hll,hse,hk2,hk6,hk12,hsl⟩:=hs
  have ih:∀ y∈l,gA (pp G) H0 87 [my D e x,prV y] twoB:=fun y hy=>mB1 V Sk D e x hD he hx y (wY0 hsl y hy)
  clear hsl
  refine cY G fir87 (by kernel_rfl) (uC2 ..) fun hlo=>?_;rw[zY2]
  push_cast(disch:=first|omega|(apply id;push_cast;try omega))
  refine WD.loop4 (q:=qq) (qB G) (by kernel_rfl) (I100 D e x k n t ee l) ?_ _ _ (I100.mk 0 0 _ false false false false rfl (Nat.zero_le _) (by push_cast(disch:=first|omega|(apply id;push_cast;try omega));first|done|rfl) (by push_cast(disch:=first|omega|(apply id;push_cast;try omega));first|done|rfl) (by push_cast(disch:=first|omega|(apply id;push_cast;try omega));first|done|rfl) rfl tH)
  intro m s1 hI
  cases hI with|mk i iv h a b c d hiv hi c0 c1 c2 hl1 hl2=>
  subst hiv
  rw[jK1]
  by_cases hil:(i:Int)<l.length∧(i:Int)<2
  ·obtain ⟨hil,hi2⟩:=hil
   obtain ⟨y,hy⟩:=jR (l:=l) (i:=i) (by omega)
   have hp:=qX0 hy
   have hle:i*8+8≤l.length*8:=by omega
   push_cast(disch:=first|omega|(apply id;push_cast;try omega))[hil,hi2,c0,hp,hle,Int.toNat_natCast,hl1]
   refine dL (ih y (List.mem_of_getElem? hy)) ?_
   rintro _ ⟨aa,bb,rfl⟩
   refine ⟨rfl,?_⟩
   obtain rfl|rfl:i=0∨i=1:=by omega
   ·push_cast(disch:=first|omega|(apply id;push_cast;try omega))[c1,c2,hl1]
    exact ⟨_,by omega,I100.mk (0+1) _ _ aa b bb d (by first|rfl|omega) (by omega) (by first|assumption|(push_cast(disch:=first|omega|(apply id;push_cast;try omega))[c0];try omega)) (by first|assumption|(push_cast(disch:=first|omega|(apply id;push_cast;try omega))[c1];try omega)) (by first|assumption|(push_cast(disch:=first|omega|(apply id;push_cast;try omega))[c2];try omega)) (by first|assumption|(push_cast(disch:=first|omega|(apply id;push_cast;try omega))[hl1];try omega)) tH⟩
   ·push_cast(disch:=first|omega|(apply id;push_cast;try omega))[c1,c2,hl1]
    exact ⟨_,by omega,I100.mk (1+1) _ _ a aa c bb (by first|rfl|omega) (by omega) (by first|assumption|(push_cast(disch:=first|omega|(apply id;push_cast;try omega))[c0];try omega)) (by first|assumption|(push_cast(disch:=first|omega|(apply id;push_cast;try omega))[c1];try omega)) (by first|assumption|(push_cast(disch:=first|omega|(apply id;push_cast;try omega))[c2];try omega)) (by first|assumption|(push_cast(disch:=first|omega|(apply id;push_cast;try omega))[hl1];try omega)) tH⟩
  ·by_cases hil0:(i:Int)<l.length
   ·have hi2:¬ (i:Int)<2:=fun h2=>hil ⟨hil0,h2⟩
    push_cast(disch:=first|omega|(apply id;push_cast;try omega))[hil0,hi2,c0]
    exact tT0 G D e x hD he hx k n t ee l h a b c d c0 c1 c2 hl1
   ·push_cast(disch:=first|omega|(apply id;push_cast;try omega))[hil0,c0]
    exact tT0 G D e x hD he hx k n t ee l h a b c d c0 c1 c2 hl1
 termination_by p=>SizeOf.sizeOf p
def cf:List Bool→Nat
 | []=>0
 | b :: l=>(if b then 0 else 1)+cf l
theorem lT1:∀ (l:List Bool) (i:Nat) (b:Bool),i<l.length→(l.getD i false=true→b=true)→cf (l.set i b)+(if b=true∧l.getD i false=false then 1 else 0)=cf l
 | [],i,b,h,_=>by simp at h
 | x :: l,0,b,h,hm=>by
  cases x<;>cases b<;>simp[cf] at hm ⊢
  omega
 | x :: l,i+1,b,h,hm=>by
  have:=lT1 l i b (by simpa using h) (by simpa using hm)
  simp only[List.set_cons_succ,cf,List.getD_cons_succ]
  omega
theorem iP0 (l:List Bool) (i:Nat) (b:Bool) (h:i<l.length):(bvs l).take i++[.bool b]++(bvs l).drop (i+1)=bvs (l.set i b):=by
 simp only[bvs]
 rw[List.set_eq_take_append_cons_drop,if_pos h,List.map_append,List.map_cons,List.map_take,List.map_drop,List.append_assoc]
 rfl
theorem oC0 {V Sk:List (List UInt8)} {p:Pg} (hs:∀ x∈p.d,smP V Sk x.2=true) {i:Nat} {x:List UInt8×Pr} (h:p.d[i]?=some x):smP V Sk x.2=true:=hs x (List.mem_of_getElem? h)
inductive I98b (p:Pg) (bE bX μ:Nat):Nat→S→Prop
 | mk (i : Nat) (iv : Int) (h : jA) (e x : List Bool) (ag : Bool) {x0 x2 x3 x8 x9 xA xB xC xD xE xF xG xH xI xJ xK xL xM xN xO xP xQ xR xS xT xU xV xW xX xY xZ yA yB yC yD yE yF yG yH yI yJ yK yL yM yN yO yP yQ yR yS yT yU yV yW yX yY yZ zA zB zC zD zE zF zG zH zI zJ zK zL zM zN zO zP zQ zR zS zT zU zV zW zX zY zZ wA wB wC wD wE wF wG wH wI wJ wK : Value} (hiv : iv = (i : Int)) (hi : i ≤ p.d.length)
   (c0:cells h 1=some (pgC p,57,false)) (cE:cells h bE=some (bvs e,eB,false)) (cX:cells h bX=some (bvs x,eB,false))
   (cm:cells h 4=some ([Rw false eS p.d.length (nss (p.d.map Prod.fst)),.slice (some ⟨bE,0,none⟩) p.d.length p.d.length,.slice (some ⟨bX,0,none⟩) p.d.length p.d.length],tMy,false))
   (he:e.length=p.d.length) (hx:x.length=p.d.length) (hμ:cf e+cf x+(if ag=true then 1 else 0)≤μ) (hl1:h.lo=1) (hl2:5≤h.next) :
  I98b p bE bX μ (p.d.length-i) ⟨(F99 x0 (.pointer (some ⟨1,0,none⟩)) x2 x3 (Rw false eS p.d.length (nss (p.d.map Prod.fst))) (.pointer (some ⟨4,0,none⟩)) (.bool ag) (.int .i64 iv) x8 x9 xA xB xC xD xE xF xG xH xI xJ xK xL xM xN xO xP xQ xR xS xT xU xV xW xX xY xZ yA yB yC yD yE yF yG yH yI yJ yK yL yM yN yO yP yQ yR yS yT yU yV yW yX yY yZ zA zB zC zD zE zF zG zH zI zJ zK zL zM zN zO zP zQ zR zS zT zU zV zW zX zY zZ wA wB wC wD wE wF wG wH wI wJ wK),[],h⟩
inductive I98 (p:Pg) (bE bX:Nat):Nat→S→Prop
 | mk (h : jA) (e x : List Bool) (ag : Bool) {x0 x2 x3 x7 x8 x9 xA xB xC xD xE xF xG xH xI xJ xK xL xM xN xO xP xQ xR xS xT xU xV xW xX xY xZ yA yB yC yD yE yF yG yH yI yJ yK yL yM yN yO yP yQ yR yS yT yU yV yW yX yY yZ zA zB zC zD zE zF zG zH zI zJ zK zL zM zN zO zP zQ zR zS zT zU zV zW zX zY zZ wA wB wC wD wE wF wG wH wI wJ wK : Value}
   (c0:cells h 1=some (pgC p,57,false)) (cE:cells h bE=some (bvs e,eB,false)) (cX:cells h bX=some (bvs x,eB,false))
   (cm:cells h 4=some ([Rw false eS p.d.length (nss (p.d.map Prod.fst)),.slice (some ⟨bE,0,none⟩) p.d.length p.d.length,.slice (some ⟨bX,0,none⟩) p.d.length p.d.length],tMy,false))
   (he:e.length=p.d.length) (hx:x.length=p.d.length) (hl1:h.lo=1) (hl2:5≤h.next) :
  I98 p bE bX (2*(cf e+cf x)+(if ag=true then 1 else 0)) ⟨(F99 x0 (.pointer (some ⟨1,0,none⟩)) x2 x3 (Rw false eS p.d.length (nss (p.d.map Prod.fst))) (.pointer (some ⟨4,0,none⟩)) (.bool ag) x7 x8 x9 xA xB xC xD xE xF xG xH xI xJ xK xL xM xN xO xP xQ xR xS xT xU xV xW xX xY xZ yA yB yC yD yE yF yG yH yI yJ yK yL yM yN yO yP yQ yR yS yT yU yV yW yX yY yZ zA zB zC zD zE zF zG zH zI zJ zK zL zM zN zO zP zQ zR zS zT zU zV zW zX zY zZ wA wB wC wD wE wF wG wH wI wJ wK),[],h⟩
theorem gK0 (V Sk:List (List UInt8)) (p:Pg) (hv:p.v.length≤20) (hd:p.d.length≤20) (hn:1≤p.d.length) (hs:∀ x∈p.d,smP V Sk x.2=true) (bE bX:Nat) (hb:(bE=2∧bX=3)∨(bE=3∧bX=2))
  (m:Nat) (s:S) (hI:I98 p bE bX m s) {R:jJ→S→Prop} (hR:∀ (h:jA) (e x:List Bool) {x0 x2 x3 x6 x7 x8 x9 xA xB xC xD xE xF xG xH xI xJ xK xL xM xN xO xP xQ xR xS xT xU xV xW xX xY xZ yA yB yC yD yE yF yG yH yI yJ yK yL yM yN yO yP yQ yR yS yT yU yV yW yX yY yZ zA zB zC zD zE zF zG zH zI zJ zK zL zM zN zO zP zQ zR zS zT zU zV zW zX zY zZ wA wB wC wD wE wF wG wH wI wJ wK:Value},e.length=p.d.length→x.length=p.d.length→h.lo=1→cells h bE=some (bvs e,eB,false)→cells h bX=some (bvs x,eB,false)→
   cells h 4=some ([Rw false eS p.d.length (nss (p.d.map Prod.fst)),.slice (some ⟨bE,0,none⟩) p.d.length p.d.length,.slice (some ⟨bX,0,none⟩) p.d.length p.d.length],tMy,false)→
   R (.exit 0) ⟨(F99 x0 (.pointer (some ⟨1,0,none⟩)) x2 x3 (Rw false eS p.d.length (nss (p.d.map Prod.fst))) (.pointer (some ⟨4,0,none⟩)) x6 x7 x8 x9 xA xB xC xD xE xF xG xH xI xJ xK xL xM xN xO xP xQ xR xS xT xU xV xW xX xY xZ yA yB yC yD yE yF yG yH yI yJ yK yL yM yN yO yP yQ yR yS yT yU yV yW yX yY yZ zA zB zC zD zE zF zG zH zI zJ zK zL zM zN zO zP zQ zR zS zT zU zV zW zX zY zZ wA wB wC wD wE wF wG wH wI wJ wK),[],h⟩) :
  WD (pp G) qq.H none (.loop fT0) s R:=by
 have hbE:1≤bE∧bE<4:=by omega
 have hbX:1≤bX∧bX<4:=by omega
 have hEX:¬ bE=bX:=by omega
 have hXE:¬ bX=bE:=by omega
 have hE0:¬ 1=bE:=by omega
 have hX0:¬ 1=bX:=by omega
 have hE3:¬ 4=bE:=by omega
 have hX3:¬ 4=bX:=by omega
 refine WD.loop4 (q:=qq) (qB G) (by kernel_rfl) (I98 p bE bX) ?_ _ _ hI
 clear hI s m
 intro m s1 hI
 cases hI with|mk h e x ag c0 cE cX cm he hx hl1 hl2=>
 rw[jN1]
 cases ag with
 | false=>
  push_cast(disch:=first|omega|(apply id;push_cast;try omega))
  exact hR h e x he hx hl1 cE cX cm
 | true=>
  push_cast(disch:=first|omega|(apply id;push_cast;try omega))
  refine WD.loop4 (q:=qq) (qB G) (by kernel_rfl) (I98b p bE bX (cf e+cf x)) ?_ _ _ (I98b.mk 0 0 _ e x false rfl (Nat.zero_le _) c0 cE cX cm he hx (by simp) hl1 hl2)
  have hμ0:∃ μ,μ=cf e+cf x:=⟨_,rfl⟩
  obtain ⟨μ,hμ0⟩:=hμ0
  rw[← hμ0]
  clear c0 cE cX cm he hx hl1 hl2 hμ0
  clear h e x
  intro m s2 hI
  cases hI with|mk i iv h e x ag hiv hi c0 cE cX cm he hx hμ hl1 hl2=>
  subst hiv
  rw[jM1]
  have c0':=c0
  unfold pgC at c0'
  have hdl:=iM0 p.d
  by_cases hil:(i:Int)<p.d.length
  ·obtain ⟨y,hy⟩:=jR (l:=p.d) (i:=i) (by omega)
   have hg:=(iN0 hy).2
   have hle:i*9+9≤p.d.length*9:=by omega
   push_cast(disch:=first|omega|(apply id;push_cast;try omega))[hil,c0',hdl,hg,hle,Int.toNat_natCast,hl1]
   have hz:FzL (pp G).P h.lo h [Rw false eS p.d.length (nss (p.d.map Prod.fst)),.slice (some ⟨bE,0,none⟩) p.d.length p.d.length,.slice (some ⟨bX,0,none⟩) p.d.length p.d.length] (myC (p.d.map Prod.fst) e x):=by
    unfold myC nsV bvV
    rw[List.length_map,he,hx]
    exact .cons (.id (dV0 _ (by omega) _ _ _)) (.cons (.sl (size:=1) (by omega) cE rfl (by decide) (by rw[jQ0];omega) (.inl ⟨by simp only[UC];omega,Nat.le_refl _⟩) (by rw[List.drop_zero,List.take_of_length_le (by rw[jQ0];omega)];exact .ids (yG0 _ _))) (.cons (.sl (size:=1) (by omega) cX rfl (by decide) (by rw[jQ0];omega) (.inl ⟨by simp only[UC];omega,Nat.le_refl _⟩) (by rw[List.drop_zero,List.take_of_length_le (by rw[jQ0];omega)];exact .ids (yG0 _ _))) .nil))
   refine jB.lendE (mB1 G V Sk (p.d.map Prod.fst) e x (by rw[List.length_map];omega) (by rw[List.length_map];exact he) (by rw[List.length_map];exact hx) y.2 (oC0 hs hy)) (.cons (.ptr (by omega) cm (by simp) hz) (.cons (.id (cK1 _ (by omega) _)) .nil)) ?_
   rintro _ ⟨aa,bb,rfl⟩
   refine ⟨rfl,?_⟩
   have gE:=uI0 (l:=e) (i:=i) (by omega)
   have gX:=uI0 (l:=x) (i:=i) (by omega)
   have hile:i<e.length:=by omega
   have hilx:i<x.length:=by omega
   have sE:=fun b=>iP0 e i b hile
   have sX:=fun b=>iP0 x i b hilx
   have qE:=fun b=>lT1 e i b hile
   have qX:=fun b=>lT1 x i b hilx
   generalize e.getD i false=ei at gE qE
   generalize x.getD i false=xi at gX qX
   have fin : ∀ (b1 b2 : Bool) {x0 x2 x3 x8 x9 xA xB xC xD xE xF xG xH xI xJ xK xL xM xN xO xP xQ xR xS xT xU xV xW xX xY xZ yA yB yC yD yE yF yG yH yI yJ yK yL yM yN yO yP yQ yR yS yT yU yV yW yX yY yZ zA zB zC zD zE zF zG zH zI zJ zK zL zM zN zO zP zQ zR zS zT zU zV zW zX zY zZ wA wB wC wD wE wF wG wH wI wJ wK : Value}, (ei = true → b1 = true) → (xi = true → b2 = true) → ((b1 = true ∧ ei = false) ∨ (b2 = true ∧ xi = false)) →
     ∃ m,m<p.d.length-i∧I98b p bE bX μ m ⟨(F99 x0 (.pointer (some ⟨1,0,none⟩)) x2 x3 (Rw false eS p.d.length (nss (p.d.map Prod.fst))) (.pointer (some ⟨4,0,none⟩)) (.bool true) (.int .i64 ((i:Int)+1)) x8 x9 xA xB xC xD xE xF xG xH xI xJ xK xL xM xN xO xP xQ xR xS xT xU xV xW xX xY xZ yA yB yC yD yE yF yG yH yI yJ yK yL yM yN yO yP yQ yR yS yT yU yV yW yX yY yZ zA zB zC zD zE zF zG zH zI zJ zK zL zM zN zO zP zQ zR zS zT zU zV zW zX zY zZ wA wB wC wD wE wF wG wH wI wJ wK),[],(h.put bE (O (bvs (e.set i b1)) eB false)).put bX (O (bvs (x.set i b2)) eB false)⟩:=by
    intro b1 b2
    intros
    rename_i k1 k2 k3
    have q1:=qE b1 k1
    have q2:=qX b2 k2
    refine ⟨_,by omega,I98b.mk (i+1) _ _ (e.set i b1) (x.set i b2) true (by first|rfl|omega) (by omega) ?_ ?_ ?_ ?_ (by simp[he]) (by simp[hx]) ?_ ?_ ?_⟩
    iterate 4 exact (by first|assumption|(push_cast(disch:=first|omega|(apply id;push_cast;try omega))[c0,hE0,hX0,hEX,hXE,cm,hE3,hX3];try omega))
    ·rw[if_pos rfl]
     rcases k3 with k3|k3
     ·rw[if_pos k3] at q1;omega
     ·rw[if_pos k3] at q2;omega
    iterate 2 exact (by first|assumption|(push_cast(disch:=first|omega|(apply id;push_cast;try omega))[hl1];try omega))
   cases aa<;>cases bb<;>cases ei<;>cases xi<;>(push_cast(disch:=first|omega|(apply id;push_cast;try omega))[cm,cE,cX,gE,gX,hl1,hil,hile,hilx,Int.toNat_natCast,Bool.not_true,Bool.not_false,sE,sX,hE3,hX3,hEX,hXE,hE0,hX0])<;>
    first
    | exact fin true true (by simp) (by simp) (by simp)
    | exact fin true false (by simp) (by simp) (by simp)
    | exact fin false true (by simp) (by simp) (by simp)
    | exact ⟨_,by omega,I98b.mk (i+1) _ h e x ag (by first | rfl | omega) (by omega) c0 cE cX cm he hx hμ hl1 hl2⟩
  ·push_cast(disch:=first|omega|(apply id;push_cast;try omega))[hil]
   refine ⟨_,?_,I98.mk h e x ag c0 cE cX cm he hx hl1 hl2⟩
   cases ag<;>simp at hμ ⊢<;>omega
attribute [push_cast] lX2
theorem iW2 (n:Nat) (l:List Value):sc n (.tuple ⟨l⟩)=scL n l:=rfl
theorem oV1 (n:Nat) (v:Value) (l:List Value):scL n (v :: l)=(sc n v&&scL n l):=rfl
theorem gQ2 (n:Nat):scL n []=true:=rfl
attribute [push_cast] iW2 oV1 gQ2 Bool.and_true Bool.and_self
theorem bW0 (n:Nat):(List.replicate n [Value.bool false]).flatten=bvs (List.replicate n false):=by
 induction n with
 | zero=>rfl
 | succ n ih=>rw[List.replicate_succ,List.replicate_succ,List.flatten_cons,ih];rfl
def MayOf (p:Pg) (d:Value):Prop:=∃ e x:List Bool,d=my (p.d.map Prod.fst) e x∧e.length=p.d.length∧x.length=p.d.length
theorem oR1 (V Sk:List (List UInt8)) (p:Pg) (hv:p.v.length≤20) (hd:p.d.length≤20) (hn:1≤p.d.length) (hs:∀ x∈p.d,smP V Sk x.2=true) :
  gA (pp G) H0 85 [pgV p] (MayOf p):=by
 refine cY G fir85 (by kernel_rfl) (eU2 ..) fun hlo=>?_;rw[kA2]
 unfold pgV
 have hpo:(pgC p).all one=true:=rfl
 have hpl:(pgC p).length=3:=rfl
 have hpt:(pgC p).take 3=pgC p:=rfl
 push_cast(disch:=first|omega|(apply id;push_cast;try omega))[hpo,hpl,hpt]
 rw[show Value.agg ⟨pgC p⟩=pgV p from rfl]
 refine dK (cW1 G p hv hd) ?_
 unfold nsV
 have hln:(p.d.map Prod.fst).length=p.d.length:=List.length_map ..
 have h1:(p.d.length:Int)*1+p.d.length<100000000000000:=by omega
 push_cast(disch:=first|omega|(apply id;push_cast;try omega))[hln,h1]
 refine ⟨?_,?_⟩
 ·refine gK0 G V Sk p hv hd hn hs 2 3 (.inl ⟨rfl,rfl⟩) _ _ (I98.mk _ (List.replicate p.d.length false) (List.replicate p.d.length false) true ?_ ?_ ?_ ?_ (by simp) (by simp) ?_ ?_) ?_
  ·exact tH
  ·rw[← bW0];exact (by first|assumption|(push_cast(disch:=first|omega|(apply id;push_cast;try omega))[Int.toNat_natCast];try omega))
  ·rw[← bW0];exact (by first|assumption|(push_cast(disch:=first|omega|(apply id;push_cast;try omega))[Int.toNat_natCast];try omega))
  iterate 3 exact (by first|assumption|(push_cast(disch:=first|omega|(apply id;push_cast;try omega))[Int.toNat_natCast];try omega))
  ·intro h e x
   intros
   rename_i he hx hl1 cE cX cm
   push_cast(disch:=first|omega|(apply id;push_cast;try omega))
   rw[dB0]
   push_cast(disch:=first|omega|(apply id;push_cast;try omega))
   refine ⟨_,⟨e,x,rfl,he,hx⟩,?_⟩
   unfold my myC nsV bvV
   rw[List.length_map,he,hx]
   have hz:∀ (b:Nat) (l:List Bool),1≤b→l.length=p.d.length→cells h b=some (bvs l,eB,false)→FzV (pp G).P 1 h (.slice (some ⟨b,0,none⟩) p.d.length p.d.length) (Rw false eB p.d.length (bvs l)):=fun b l hb hl hc=>
    .sl (size:=1) (by omega) hc rfl (by decide) (by rw[jQ0];omega) (.inl ⟨by simp only[UC];omega,Nat.le_refl _⟩) (by rw[List.drop_zero,List.take_of_length_le (by rw[jQ0];omega)];exact .ids (yG0 _ _))
   exact .ptr (by omega) cm (by simp) (.cons (.id (dV0 _ (by omega) _ _ _)) (.cons (hz _ e (by omega) he cE) (.cons (hz _ x (by omega) hx cX) .nil)))
 ·refine gK0 G V Sk p hv hd hn hs 3 2 (.inr ⟨rfl,rfl⟩) _ _ (I98.mk _ (List.replicate p.d.length false) (List.replicate p.d.length false) true ?_ ?_ ?_ ?_ (by simp) (by simp) ?_ ?_) ?_
  ·exact tH
  ·rw[← bW0];exact (by first|assumption|(push_cast(disch:=first|omega|(apply id;push_cast;try omega))[Int.toNat_natCast];try omega))
  ·rw[← bW0];exact (by first|assumption|(push_cast(disch:=first|omega|(apply id;push_cast;try omega))[Int.toNat_natCast];try omega))
  iterate 3 exact (by first|assumption|(push_cast(disch:=first|omega|(apply id;push_cast;try omega))[Int.toNat_natCast];try omega))
  ·intro h e x
   intros
   rename_i he hx hl1 cE cX cm
   push_cast(disch:=first|omega|(apply id;push_cast;try omega))
   rw[dB0]
   push_cast(disch:=first|omega|(apply id;push_cast;try omega))
   refine ⟨_,⟨e,x,rfl,he,hx⟩,?_⟩
   unfold my myC nsV bvV
   rw[List.length_map,he,hx]
   have hz:∀ (b:Nat) (l:List Bool),1≤b→l.length=p.d.length→cells h b=some (bvs l,eB,false)→FzV (pp G).P 1 h (.slice (some ⟨b,0,none⟩) p.d.length p.d.length) (Rw false eB p.d.length (bvs l)):=fun b l hb hl hc=>
    .sl (size:=1) (by omega) hc rfl (by decide) (by rw[jQ0];omega) (.inl ⟨by simp only[UC];omega,Nat.le_refl _⟩) (by rw[List.drop_zero,List.take_of_length_le (by rw[jQ0];omega)];exact .ids (yG0 _ _))
   exact .ptr (by omega) cm (by simp) (.cons (.id (dV0 _ (by omega) _ _ _)) (.cons (hz _ e (by omega) he cE) (.cons (hz _ x (by omega) hx cX) .nil)))
def FrR (σ:jA) (b n:Nat) (v:Value) (σ':jA):Prop:=v=undef∧∃ is:List Bool,is.length=n∧σ'=σ.put b (O (bvs is) eB false)
inductive I99 (D:List (List UInt8)) (e x:List Bool) (σ:jA) (b:Nat) (p:Pr):Nat→S→Prop
 | mk (i : Nat) (iv : Int) (h : jA) (is : List Bool) {x1 x3 x5 x6 x7 x8 xA xB xC xD xE xF xG xH xI xJ xK xL xM xN xO xP xQ xR xS xT xU xV xW xX xY xZ yA yB yC yD yE yF yG yH yI yJ yK yL yM yN yO yP yQ yR yS yT yU yV yW yX yY yZ zA zB zC zD zE : Value} (hiv : iv = (i : Int)) (hi : i ≤ p.l.length)
   (cb:cells h b=some (bvs is,eB,false)) (hl:is.length=D.length) (c0:cells h σ.next=some (prC p,epr,false)) (g:jF σ h (fun k=>k=b)) (hl2:σ.next+1≤h.next) :
  I99 D e x σ b p (p.l.length-i) ⟨(F67 (my D e x) x1 (.slice (some ⟨b,0,none⟩) D.length D.length) x3 (.pointer (some ⟨σ.next,0,none⟩)) x5 x6 x7 x8 (.int .i64 iv) xA xB xC xD xE xF xG xH xI xJ xK xL xM xN xO xP xQ xR xS xT xU xV xW xX xY xZ yA yB yC yD yE yF yG yH yI yJ yK yL yM yN yO yP yQ yR yS yT yU yV yW yX yY yZ zA zB zC zD zE),[],h⟩
theorem uB0 {σ h:jA} {b n:Nat} {P:Program} {is:List Bool} (hb1:σ.lo≤b) (hb0:0<σ.next) (hb:b<σ.next) (hc:cells h b=some (bvs is,eB,false)) (hl:is.length=n) (g:jF σ h (fun k=>k=b)) :
  ∃ d σ1,FrR σ b n d σ1∧FzV P σ1.next h undef d∧uM0 P σ σ1 h:=
 ⟨undef,_,⟨rfl,is,hl,rfl⟩,.id rfl,.put1 g hb hb1 hc (.ids (yG0 _ _)) (rD0 _)⟩
theorem iS1 (V Sk D:List (List UInt8)) (e x:List Bool) (hD:D.length<1000000000000000) (he:e.length=D.length) (hx:x.length=D.length):∀ (p:Pr),smP V Sk p=true→∀ (σ:jA) (b:Nat) (is:List Bool) (hc:cells σ b=some (bvs is,eB,false)) (hl:is.length=D.length) (hb1:1≤b) (hb:b<σ.next),
  jX (pp G) H0 86 [my D e x,prV p,.slice (some ⟨b,0,none⟩) D.length D.length] σ (FrR σ b D.length)
 | .mk k n t ee l,hs,σ,b,is,hc,hl,hb1,hb=>by
  simp only[smP,Bool.and_eq_true,Bool.or_eq_true,decide_eq_true_eq] at hs
  obtain ⟨hll,hse,hk2,hk6,hk12,hsl⟩:=hs
  have ih:∀ y∈l,∀ (σ:jA) (b:Nat) (is:List Bool) (hc:cells σ b=some (bvs is,eB,false)) (hl:is.length=D.length) (hb1:1≤b) (hb:b<σ.next),
   jX (pp G) H0 86 [my D e x,prV y,.slice (some ⟨b,0,none⟩) D.length D.length] σ (FrR σ b D.length):=fun y hy=>iS1 V Sk D e x hD he hx y (wY0 hsl y hy)
  have hsl':=wY0 hsl
  clear hsl
  refine jX.wlog fun hl0 hH0 hp0 hlo=>?_;rw[bI] at hl0;refine jX.cutE (jX.fir4 (q:=qq) (qB G) fir86 (by kernel_rfl) rfl rfl (fB2 ..) (by rw[hl0];exact (show NGG≤1 by decide)) ?_);rw[zZ2]
  have hne:¬ b=σ.next:=by omega
  by_cases h13:k=13
  ·subst h13
   push_cast(disch:=first|omega|(apply id;push_cast;try omega))[myC]
   refine dL (bM0 G D n hD) ?_
   rintro _ ⟨j,rfl,⟨hj1,hj2⟩,_⟩
   refine ⟨rfl,?_⟩
   by_cases hj:j ≥ 0
   ·have hjl:j<D.length:=hj2
    have hle:j.toNat<is.length:=by omega
    have hbl:=jQ0 is
    have hst:=iP0 is j.toNat true hle
    push_cast(disch:=first|omega|(apply id;push_cast;try omega))[hj,hjl,hle,hc,hbl,hst,hl0,hne]
    refine uB0 (is:=is.set j.toNat true) (by omega) (by omega) hb ?_ (by simp[hl]) ?_
    ·exact tH
    ·exact (by repeat (first|exact jF.refl _ _|assumption|(refine jF.put'' ?_ _ _ (by intro _;first|rfl|omega|(simp only[push_cast] at *;omega)))|(refine jF.add' ?_ _)))
   ·push_cast(disch:=first|omega|(apply id;push_cast;try omega))[hj]
    refine uB0 (is:=is) (by omega) (by omega) hb ?_ hl ?_
    ·exact (by first|assumption|(push_cast(disch:=first|omega|(apply id;push_cast;try omega))[hc];try omega))
    ·exact (by repeat (first|exact jF.refl _ _|assumption|(refine jF.put'' ?_ _ _ (by intro _;first|rfl|omega|(simp only[push_cast] at *;omega)))|(refine jF.add' ?_ _)))
  ·by_cases h12:k=12
   ·subst h12
    obtain ⟨y0,y1,l,rfl⟩:∃ y0 y1 l',l=y0 :: y1 :: l':=by
     match l,hk12 with
     | [],h=>simp at h
     | [_],h=>simp at h
     | y0 :: y1 :: l',_=>exact ⟨_,_,_,rfl⟩
    have h8:8≤(l.length+1+1)*8:=by omega
    have h16:8+8≤(l.length+1+1)*8:=by omega
    have h2l:1<l.length+1+1:=by omega
    push_cast(disch:=first|omega|(apply id;push_cast;try omega))[h8,h16,h2l]
    refine jB.func (cap:=[]) (args:=[_,_,_]) (ih y0 (by simp) _ b is ?_ hl hb1 ?_) ?_
    iterate 2 exact (by first|assumption|(push_cast(disch:=first|omega|(apply id;push_cast;try omega))[hc];try omega))
    rintro _ _ ⟨rfl,is1,hl1,rfl⟩
    push_cast(disch:=first|omega|(apply id;push_cast;try omega))[h8,h16,h2l]
    refine dL (mB1 G V Sk D e x hD he hx y0 (hsl' y0 (by simp))) ?_
    rintro _ ⟨aa,bb,rfl⟩
    refine ⟨rfl,?_⟩
    cases aa with
    | false=>
     push_cast(disch:=first|omega|(apply id;push_cast;try omega))
     refine uB0 (is:=is1) (by omega) (by omega) hb ?_ hl1 ?_
     ·exact tH
     ·exact (by repeat (first|exact jF.refl _ _|assumption|(refine jF.put'' ?_ _ _ (by intro _;first|rfl|omega|(simp only[push_cast] at *;omega)))|(refine jF.add' ?_ _)))
    | true=>
     push_cast(disch:=first|omega|(apply id;push_cast;try omega))[h8,h16,h2l]
     refine jB.func (cap:=[]) (args:=[_,_,_]) (ih y1 (by simp) _ b is1 ?_ hl1 hb1 ?_) ?_
     iterate 2 exact tH
     rintro _ _ ⟨rfl,is2,hl2,rfl⟩
     push_cast(disch:=first|omega|(apply id;push_cast;try omega))
     refine uB0 (is:=is2) (by omega) (by omega) hb ?_ hl2 ?_
     ·exact tH
     ·exact (by repeat (first|exact jF.refl _ _|assumption|(refine jF.put'' ?_ _ _ (by intro _;first|rfl|omega|(simp only[push_cast] at *;omega)))|(refine jF.add' ?_ _)))
   ·push_cast(disch:=first|omega|(apply id;push_cast;try omega))[h12,h13]
    refine WD.loop4 (q:=qq) (qB G) (by kernel_rfl) (I99 D e x σ b (.mk k n t ee l)) ?_ _ _ (I99.mk 0 0 _ is rfl (Nat.zero_le _) ?_ hl ?_ ?_ ?_)
    ·intro m s1 hI
     cases hI with|mk i iv h is hiv hi cb hl c0 g hl2=>
     subst hiv
     simp only[Pr.l_mk] at hi
     have hl1:h.lo=1:=by rw[g.lo,hl0]
     rw[jL1]
     by_cases hil:(i:Int)<l.length
     ·obtain ⟨y,hy⟩:=jR (l:=l) (i:=i) (by omega)
      have hp:=qX0 hy
      have hle:i*8+8≤l.length*8:=by omega
      push_cast(disch:=first|omega|(apply id;push_cast;try omega))[hil,c0,hp,hle,Int.toNat_natCast,hl1]
      refine jB.func (cap:=[]) (ih y (List.mem_of_getElem? hy) h b is cb hl hb1 (by omega)) ?_
      rintro _ _ ⟨rfl,is1,hl1,rfl⟩
      push_cast(disch:=first|omega|(apply id;push_cast;try omega))
      refine ⟨_,by simp only[Pr.l_mk];omega,I99.mk (i+1) _ _ is1 (by first|rfl|omega) (by simp only[Pr.l_mk];omega) ?_ hl1 ?_ ?_ ?_⟩
      iterate 2 exact (by first|assumption|(push_cast(disch:=first|omega|(apply id;push_cast;try omega))[c0];try omega))
      ·exact (by repeat (first|exact jF.refl _ _|assumption|(refine jF.put'' ?_ _ _ (by intro _;first|rfl|omega|(simp only[push_cast] at *;omega)))|(refine jF.add' ?_ _)))
      ·exact tH
     ·push_cast(disch:=first|omega|(apply id;push_cast;try omega))[hil,c0]
      exact uB0 (is:=is) (by omega) (by omega) hb cb hl g
    ·exact (by first|assumption|(push_cast(disch:=first|omega|(apply id;push_cast;try omega))[hc];try omega))
    ·exact (by push_cast(disch:=first|omega|(apply id;push_cast;try omega));first|done|rfl)
    ·exact (by repeat (first|exact jF.refl _ _|assumption|(refine jF.put'' ?_ _ _ (by intro _;first|rfl|omega|(simp only[push_cast] at *;omega)))|(refine jF.add' ?_ _)))
    ·exact tH
 termination_by p=>SizeOf.sizeOf p
abbrev eBB:Nat:=124
def yT1 (h:jA) (lo n:Nat) (vs:List Value) (a:Option Addr):Prop:=
 ∀ (j:Nat) (v:Value),vs[j]?=some v→∃ b l,v=.slice (some ⟨b,0,none⟩) n n∧cells h b=some (bvs l,eB,false)∧l.length=n∧lo≤b∧b<h.next∧¬ blk a b
theorem yT1.step {h h':jA} {lo n:Nat} {vs:List Value} {q q':Option Addr} (hr:yT1 h lo n vs q) (g:jF h h' (fun k=>blk q k)) (hlo:lo≤h.next) {b:Nat} {l:List Bool} (hc:cells h' b=some (bvs l,eB,false)) (hl:l.length=n) (h2:h.next≤b) (h3:b<h'.next) (h4:¬ blk q' b) (hq:∀ k,blk q' k→blk q k∨h.next≤k):yT1 h' lo n (vs++[Value.slice (some ⟨b,0,none⟩) n n]) q':=by
 intro j v h1
 by_cases hj:j<vs.length
 ·rw[List.getElem?_append_left hj] at h1
  obtain ⟨b',l',e,hc',hl',h5,h6,h7⟩:=hr j v h1
  have:=g.next
  refine ⟨b',l',e,g.cellsE hc' h6 h7,hl',h5,by omega,fun hk=>?_⟩
  rcases hq _ hk with hk|hk
  ·exact h7 hk
  ·omega
 ·rw[List.getElem?_append_right (by omega)] at h1
  have hz:j-vs.length=0:=by
   have:=(List.getElem?_eq_some_iff.1 h1).1
   simp at this
   omega
  rw[hz] at h1
  simp only[List.getElem?_cons_zero,Option.some.injEq] at h1
  subst h1
  exact ⟨b,l,rfl,hc,hl,by omega,h3,h4⟩
theorem lD2 (v:Value) (ho:one v=true) (hc:v.cells.toList=[v]) (σ:jA):bsD (qq.m 122) (slT Tryd.prog 122) 1 [(0,v)] σ=some (Rw true eBB 1 [v],σ):=by
 have:bsD false (some (eBB,1,[Value.slice none 0 0])) 1 [(0,v)] σ=some (Rw true eBB 1 [v],σ):=by
  rw[wR2 _ _ _ _ (by decide)]
  have hf:bH ((List.range 1).map (fun i=>(i*1,1))) (List.replicate 1 [Value.slice none 0 0]).flatten [(0,v)]=some [v]:=by
   simp[bH,hc,setFrom]
  rw[hf]
  exact wS2 1 (by simp[ho]) (by omega)
 exact this
inductive I95 (p:Pg) (e x:List Bool) (σ:jA):Nat→S→Prop
 | mk (i : Nat) (iv : Int) (h : jA) (q : Option Addr) (c : Nat) (vs : List Value) {x0 x2 x6 x7 x8 x9 xA xB xC xD xE xF xG xH xI xJ xK xL xM xN xO xP xQ xR xS xT xU xV xW xX xY xZ yA yB : Value} (hiv : iv = (i : Int)) (hi : i ≤ p.d.length)
   (c0:cells h σ.next=some (pgC p,57,false)) (ho:qI h eBB 1 q i c vs) (hv:yT1 h (σ.next+1) p.d.length vs q) (hq:∀ b,blk q b→σ.next+1≤b) (g:jF σ h (fun _=>False)) (hl2:σ.next+1≤h.next) :
  I95 p e x σ (p.d.length-i) ⟨(F38 x0 (.pointer (some ⟨σ.next,0,none⟩)) x2 (my (p.d.map Prod.fst) e x) (.slice q i c) (.int .i64 iv) x6 x7 x8 x9 xA xB xC xD xE xF xG xH xI xJ xK xL xM xN xO xP xQ xR xS xT xU xV xW xX xY xZ yA yB),[],h⟩
def FrsR (p:Pg) (σ:jA) (v:Value) (σ':jA):Prop:=∃ q c vs,v=.slice q p.d.length c∧qI σ' eBB 1 q p.d.length c vs∧yT1 σ' (σ.next+1) p.d.length vs q∧(∀ b,blk q b→σ.next+1≤b)∧jF σ σ' (fun _=>False)
theorem rN1 (V Sk:List (List UInt8)) (p:Pg) (hv:p.v.length≤20) (hd:p.d.length≤20) (hn:1≤p.d.length) (hs:∀ x∈p.d,smP V Sk x.2=true) (σ:jA) :
  jX (pp G) H0 81 [pgV p] σ (FrsR p σ):=by
 refine jX.wlog fun hl0 hH0 hp0 hlo=>?_
 rw[bI] at hl0
 refine jX.fir4 (q:=qq) (qB G) fir81 (by kernel_rfl) rfl rfl (nD1 ..) (by first|exact Nat.le_trans (show NGG≤1 by decide) (by omega)) ?_;rw[kE2]
 unfold pgV
 have hpo:(pgC p).all one=true:=rfl
 have hpl:(pgC p).length=3:=rfl
 have hpt:(pgC p).take 3=pgC p:=rfl
 push_cast(disch:=first|omega|(apply id;push_cast;try omega))[hpo,hpl,hpt]
 rw[show Value.agg ⟨pgC p⟩=pgV p from rfl]
 refine dL (oR1 G V Sk p hv hd hn hs) ?_
 rintro _ ⟨e,x,rfl,he,hx⟩
 refine ⟨mI2 _ (by rw[kI];omega) ..,?_⟩
 push_cast(disch:=first|omega|(apply id;push_cast;try omega))
 refine WD.loop4 (q:=qq) (qB G) (by kernel_rfl) (I95 p e x σ) ?_ _ _ (I95.mk 0 0 _ none 0 [] rfl (Nat.zero_le _) ?_ (qI.nil _ _ _) (fun j v h=>by simp at h) (fun b hb=>by obtain ⟨o,s,e⟩:=hb;cases e) ?_ ?_)
 ·intro m s1 hI
  cases hI with|mk i iv h q c vs hiv hi c0 ho hvs hq g hl2=>
  subst hiv
  have hl1:h.lo=1:=by rw[g.lo,hl0]
  rw[jP1]
  have hln:(p.d.map Prod.fst).length=p.d.length:=List.length_map ..
  have c0':=c0
  unfold pgC at c0'
  have hdl:=iM0 p.d
  by_cases hil:(i:Int)<p.d.length
  ·obtain ⟨y,hy⟩:=jR (l:=p.d) (i:=i) (by omega)
   have hg:=(iN0 hy).2
   have hle:i*9+9≤p.d.length*9:=by omega
   have h1:(p.d.length:Int)*1+p.d.length<100000000000000:=by omega
   unfold my myC nsV
   push_cast(disch:=first|omega|(apply id;push_cast;try omega))[hil,c0',hdl,hg,hle,hln,h1,Int.toNat_natCast,hl1,List.length_map]
   have hmy:Rpt 0 [Rw false eS p.d.length (nss (p.d.map Prod.fst)),bvV e,bvV x]=my (p.d.map Prod.fst) e x:=by unfold my myC nsV;rw[List.length_map]
   rw[hmy]
   have hf:=iS1 G V Sk (p.d.map Prod.fst) e x (by omega) (by omega) (by omega) y.2 (oC0 hs hy) (h.add (O (List.replicate p.d.length [Value.bool false]).flatten 4 false)) h.next (List.replicate p.d.length false) (by rw[← bW0];exact tH) (by simp) (by omega) (by rw[jK];omega)
   rw[hln] at hf
   refine jB.func (cap:=[]) (args:=[_,_,_]) hf ?_
   rintro _ _ ⟨rfl,is,hisl,rfl⟩
   have gh2:jF h ((h.add (O (List.replicate p.d.length [Value.bool false]).flatten 4 false)).put h.next (O (bvs is) eB false)) (fun _=>False):=(by repeat (first|exact jF.refl _ _|assumption|(refine jF.put'' ?_ _ _ (by intro _;first|rfl|omega|(simp only[push_cast] at *;omega)))|(refine jF.add' ?_ _)))
   have ch2:cells ((h.add (O (List.replicate p.d.length [Value.bool false]).flatten 4 false)).put h.next (O (bvs is) eB false)) h.next=some (bvs is,eB,false):=by push_cast(disch:=first|omega|(apply id;push_cast;try omega));first|done|rfl
   have nh2:((h.add (O (List.replicate p.d.length [Value.bool false]).flatten 4 false)).put h.next (O (bvs is) eB false)).next=h.next+1:=by push_cast(disch:=first|omega|(apply id;push_cast;try omega));first|done|rfl
   push_cast(disch:=first|omega|(apply id;push_cast;try omega))[↓lD2]
   generalize (h.add (O (List.replicate p.d.length [Value.bool false]).flatten 4 false)).put h.next (O (bvs is) eB false)=h2 at gh2 ch2 nh2 ⊢
   have hl2':=gh2.lo
   obtain ⟨a',c',σ',e',o',g',b'⟩:=gM (by_:=24) (ho.grew gh2 fun _ _ h=>h) (by omega) (by omega) (m:=1) (xs:=[Value.slice (some ⟨h.next,0,none⟩) p.d.length p.d.length]) rfl rfl (by omega)
   have hn':=g'.next
   have hl':=g'.lo
   have hqlt:∀ k,blk q k→k<h.next:=fun k hk=>(qI.lt ho hk).2
   have gg:jF h σ' (fun k=>blk q k):=(gh2.mono fun _ _ hh=>hh.elim).tr' g' fun _ _ hh=>hh
   push_cast(disch:=first|omega|(apply id;push_cast;try omega))[e']
   refine ⟨_,by omega,I95.mk (i+1) _ _ a' c' (vs++[_]) (by first|rfl|omega) (by omega) ?_ o' (hvs.step gg (by omega) (b:=h.next) (l:=is) (g'.cellsE ch2 (by omega) ?_) hisl (Nat.le_refl _) (by omega) ?_ ?_) ?_ ?_ ?_⟩
   ·exact gg.cellsE c0 (by omega) (fun hb=>by have:=hq _ hb;omega)
   ·intro hb;have:=hqlt _ hb;omega
   ·intro hb
    rcases b' _ hb with hb|hb
    ·have:=hqlt _ hb;omega
    ·omega
   ·intro k hk
    rcases b' k hk with hb|hb
    ·exact .inl hb
    ·exact .inr (by omega)
   ·intro k hk
    rcases b' k hk with hb|hb
    ·exact hq k hb
    ·omega
   ·exact (g.trans gg fun k hk hb=>by have:=hq k hb;omega)
   ·omega
  ·obtain rfl:i=p.d.length:=by omega
   push_cast(disch:=first|omega|(apply id;push_cast;try omega))[hil,hln,myC,nsV]
   rw[jO1]
   push_cast(disch:=first|omega|(apply id;push_cast;try omega))
   exact ⟨q,c,vs,rfl,ho,hvs,hq,g⟩
 ·exact tH
 ·exact (by repeat (first|exact jF.refl _ _|assumption|(refine jF.put'' ?_ _ _ (by intro _;first|rfl|omega|(simp only[push_cast] at *;omega)))|(refine jF.add' ?_ _)))
 ·exact tH
structure Sq (h:jA) (n bq c:Nat) (m:Bool) (vs:List Value):Prop where
 len:vs.length=n
 c:cells h bq=some (vs,eBB,m)
 rows:yT1 h 2 n vs (some ⟨bq,0,none⟩)
 lo:h.lo=1
 b1:2≤bq
 b2:bq<h.next
theorem Sq.row {h:jA} {n bq c:Nat} {m:Bool} {vs:List Value} (s:Sq h n bq c m vs) {i:Nat} (hi:i<n):∃ b l,vs[i]?=some (.slice (some ⟨b,0,none⟩) n n)∧cells h b=some (bvs l,eB,false)∧l.length=n∧2≤b∧b<h.next∧¬ b=bq:=by
 obtain ⟨v,hv⟩:∃ v,vs[i]?=some v:=⟨_,List.getElem?_eq_getElem (by rw[s.len];exact hi)⟩
 obtain ⟨b,l,rfl,h1,h2,h3,h4,h5⟩:=s.rows i v hv
 exact ⟨b,l,hv,h1,h2,h3,h4,fun e=>h5 ⟨0,none,by rw[e]⟩⟩
theorem Sq.put {h:jA} {n bq c:Nat} {m:Bool} {vs:List Value} (s:Sq h n bq c m vs) {b:Nat} (hb:¬ b=bq) {l:List Bool} (hl:l.length=n):Sq (h.put b (O (bvs l) eB false)) n bq c m vs:=by
 refine ⟨s.len,?_,fun j v hj=>?_,s.lo,s.b1,s.b2⟩
 ·rw[qJ (uV b _ bq (fun e=>hb e.symm))];exact s.c
 ·obtain ⟨b',l',e,h1,h2,h3,h4,h5⟩:=s.rows j v hj
  by_cases hbb:b'=b
  ·subst hbb
   exact ⟨b',l,e,by push_cast(disch:=first|omega|(apply id;push_cast;try omega));first|done|rfl,hl,h3,h4,h5⟩
  ·exact ⟨b',l',e,by rw[qJ (uV b _ b' hbb)];exact h1,h2,h3,h4,h5⟩
inductive I87k (n bq c:Nat) (m:Bool) (vs:List Value):Nat→S→Prop
 | mk (k:Nat) (kv:Int) (h:jA) {x0 x1 x2 x6 x7 x8 x9 xA xB xC xD xE xF xG xH xI xJ xK xL xM xN xO xP xQ xR xS xT xU xV xW xX xY xZ yA yB yC yD yE yF yG yH yI yJ yK yL yM yN yO yP yQ yR yS yT yU yV yW yX yY yZ zA zB zC zD zE zF zG zH zI:Value} (hkv:kv=(k:Int)) (hk:k≤n) (s:Sq h n bq c m vs) :
  I87k n bq c m vs (n-k) ⟨(F71 x0 x1 x2 (.slice (some ⟨bq,0,none⟩) n c) (.int .i64 n) (.int .i64 kv) x6 x7 x8 x9 xA xB xC xD xE xF xG xH xI xJ xK xL xM xN xO xP xQ xR xS xT xU xV xW xX xY xZ yA yB yC yD yE yF yG yH yI yJ yK yL yM yN yO yP yQ yR yS yT yU yV yW yX yY yZ zA zB zC zD zE zF zG zH zI),[],h⟩
inductive I87i (n bq c:Nat) (m:Bool) (vs:List Value) (k:Nat):Nat→S→Prop
 | mk (i:Nat) (iv:Int) (h:jA) {x0 x1 x2 x7 x8 x9 xA xB xC xD xE xF xG xH xI xJ xK xL xM xN xO xP xQ xR xS xT xU xV xW xX xY xZ yA yB yC yD yE yF yG yH yI yJ yK yL yM yN yO yP yQ yR yS yT yU yV yW yX yY yZ zA zB zC zD zE zF zG zH zI:Value} (hiv:iv=(i:Int)) (hi:i≤n) (s:Sq h n bq c m vs) :
  I87i n bq c m vs k (n-i) ⟨(F71 x0 x1 x2 (.slice (some ⟨bq,0,none⟩) n c) (.int .i64 n) (.int .i64 k) (.int .i64 iv) x7 x8 x9 xA xB xC xD xE xF xG xH xI xJ xK xL xM xN xO xP xQ xR xS xT xU xV xW xX xY xZ yA yB yC yD yE yF yG yH yI yJ yK yL yM yN yO yP yQ yR yS yT yU yV yW yX yY yZ zA zB zC zD zE zF zG zH zI),[],h⟩
inductive I87j (n bq c:Nat) (m:Bool) (vs:List Value) (k i:Nat):Nat→S→Prop
 | mk (j:Nat) (jv:Int) (h:jA) {x0 x1 x2 x8 x9 xA xB xC xD xE xF xG xH xI xJ xK xL xM xN xO xP xQ xR xS xT xU xV xW xX xY xZ yA yB yC yD yE yF yG yH yI yJ yK yL yM yN yO yP yQ yR yS yT yU yV yW yX yY yZ zA zB zC zD zE zF zG zH zI:Value} (hjv:jv=(j:Int)) (hj:j≤n) (s:Sq h n bq c m vs) :
  I87j n bq c m vs k i (n-j) ⟨(F71 x0 x1 x2 (.slice (some ⟨bq,0,none⟩) n c) (.int .i64 n) (.int .i64 k) (.int .i64 i) (.int .i64 jv) x8 x9 xA xB xC xD xE xF xG xH xI xJ xK xL xM xN xO xP xQ xR xS xT xU xV xW xX xY xZ yA yB yC yD yE yF yG yH yI yJ yK yL yM yN yO yP yQ yR yS yT yU yV yW yX yY yZ zA zB zC zD zE zF zG zH zI),[],h⟩
inductive I87e (n bq c:Nat) (m:Bool) (vs:List Value):Nat→S→Prop
 | mk (i:Nat) (iv:Int) (h:jA) {x0 x1 x2 x5 x6 x7 x9 xA xB xC xD xE xF xG xH xI xJ xK xL xM xN xO xP xQ xR xS xT xU xV xW xX xY xZ yA yB yC yD yE yF yG yH yI yJ yK yL yM yN yO yP yQ yR yS yT yU yV yW yX yY yZ zA zB zC zD zE zF zG zH zI:Value} (hiv:iv=(i:Int)) (hi:i≤n) (s:Sq h n bq c m vs) :
  I87e n bq c m vs (n-i) ⟨(F71 x0 x1 x2 (.slice (some ⟨bq,0,none⟩) n c) (.int .i64 n) x5 x6 x7 (.int .i64 iv) x9 xA xB xC xD xE xF xG xH xI xJ xK xL xM xN xO xP xQ xR xS xT xU xV xW xX xY xZ yA yB yC yD yE yF yG yH yI yJ yK yL yM yN yO yP yQ yR yS yT yU yV yW yX yY yZ zA zB zC zD zE zF zG zH zI),[],h⟩
def isB (d:Value):Prop:=∃ b:Bool,d=.bool b
theorem gU2 (V Sk:List (List UInt8)) (p:Pg) (hv:p.v.length≤20) (hd:p.d.length≤20) (hn:1≤p.d.length) (hs:∀ x∈p.d,smP V Sk x.2=true) :
  gA (pp G) H0 71 [pgV p] isB:=by
 refine cY G fir71 (by kernel_rfl) (eZ2 ..) fun hlo=>?_;rw[kN2]
 unfold pgV
 have hpo:(pgC p).all one=true:=rfl
 have hpl:(pgC p).length=3:=rfl
 have hpt:(pgC p).take 3=pgC p:=rfl
 push_cast(disch:=first|omega|(apply id;push_cast;try omega))[hpo,hpl,hpt]
 rw[show Value.agg ⟨pgC p⟩=pgV p from rfl]
 refine jB.func (cap:=[]) (args:=[_]) (rN1 G V Sk p hv hd hn hs _) ?_
 rintro _ h ⟨q,c,vs,rfl,ho,hvs,hq,g⟩
 obtain ⟨bq,m,rfl,b1,b2,hcq,_⟩:∃ bq m,q=some ⟨bq,0,none⟩∧h.lo≤bq∧bq<h.next∧cells h bq=some (vs,eBB,m)∧((m=true∧c=UC)∨(m=false∧c=p.d.length)):=by
  rcases ho.hat with ⟨_,h0,_⟩|h1
  ·omega
  ·exact h1
 have hq1:=hq bq ⟨0,none,rfl⟩
 have hgl:=g.lo
 have hnx:(H0.add (O (pgC p) 57 false)).next=2:=by rw[jK,bI]
 have hlx:(H0.add (O (pgC p) 57 false)).lo=1:=by rw[kI,mY1]
 rw[hnx] at hq1 hvs
 have sq:Sq h p.d.length bq c m vs:=⟨by have:=ho.hlen;omega,hcq,fun j v hj=>by
  obtain ⟨b,l,e,h1,h2,h3,h4,h5⟩:=hvs j v hj
  exact ⟨b,l,e,h1,h2,by omega,h4,h5⟩,by rw[hgl,hlx],by omega,b2⟩
 have hd':p.d.length<1000:=by omega
 generalize p.d.length=n at sq hd'
 clear ho hvs hq g b1 b2 hcq hq1 hgl hnx hlx hn hd hs hv
 push_cast(disch:=first|omega|(apply id;push_cast;try omega))
 refine WD.loop4 (q:=qq) (qB G) (by kernel_rfl) (I87k n bq c m vs) ?_ _ _ (I87k.mk 0 0 h rfl (Nat.zero_le _) sq)
 clear sq h
 intro μ s1 hI
 cases hI with|mk k kv h hkv hk s=>
 subst hkv
 rw[qG1]
 by_cases hkn:(k:Int)<n
 ·push_cast(disch:=first|omega|(apply id;push_cast;try omega))[hkn]
  refine WD.loop4 (q:=qq) (qB G) (by kernel_rfl) (I87i n bq c m vs k) ?_ _ _ (I87i.mk 0 0 h rfl (Nat.zero_le _) s)
  clear s h
  intro μ s2 hI
  cases hI with|mk i iv h hiv hi s=>
  subst hiv
  rw[qE1]
  by_cases hin:(i:Int)<n
  ·push_cast(disch:=first|omega|(apply id;push_cast;try omega))[hin]
   refine WD.loop4 (q:=qq) (qB G) (by kernel_rfl) (I87j n bq c m vs k i) ?_ _ _ (I87j.mk 0 0 h rfl (Nat.zero_le _) s)
   clear s h
   intro μ s3 hI
   cases hI with|mk j jv h hjv hj s=>
   subst hjv
   rw[qA1]
   by_cases hjn:(j:Int)<n
   ·obtain ⟨bi,li,ri,ci,hli,bi1,bi2,bi3⟩:=s.row (i:=i) (by omega)
    obtain ⟨bk,lk,rk,ck,hlk,bk1,bk2,bk3⟩:=s.row (i:=k) (by omega)
    have gij:=uI0 (l:=li) (i:=j) (by omega)
    have gik:=uI0 (l:=li) (i:=k) (by omega)
    have gkj:=uI0 (l:=lk) (i:=j) (by omega)
    have cq:=s.c
    have vl:=s.len
    have hl1:=s.lo
    have hq1:=s.b1
    have hin':i<n:=by omega
    have hkn':k<n:=by omega
    have hjn':j<n:=by omega
    have hst:=fun b=>iP0 li j b (by omega)
    generalize li.getD j false=x1 at gij
    generalize li.getD k false=x2 at gik
    generalize lk.getD j false=x3 at gkj
    cases x1<;>cases x2<;>cases x3<;>push_cast(disch:=first|omega|(apply id;push_cast;try omega))[hjn,hin,hkn,cq,vl,ri,rk,ci,ck,gij,gik,gkj,hin',hkn',hjn',hl1,hli,hlk,Int.toNat_natCast,hst]
    all_goals exact ⟨_,by omega,I87j.mk (j+1) _ _ (by first|rfl|omega) (by omega) (s.put bi3 (by simp[hli]))⟩
   ·push_cast(disch:=first|omega|(apply id;push_cast;try omega))[hjn]
    rw[jZ1]
    push_cast(disch:=first|omega|(apply id;push_cast;try omega))
    exact ⟨_,by omega,I87i.mk (i+1) _ h (by first|rfl|omega) (by omega) s⟩
  ·push_cast(disch:=first|omega|(apply id;push_cast;try omega))[hin]
   rw[qD1]
   push_cast(disch:=first|omega|(apply id;push_cast;try omega))
   exact ⟨_,by omega,I87k.mk (k+1) _ h (by first|rfl|omega) (by omega) s⟩
 ·push_cast(disch:=first|omega|(apply id;push_cast;try omega))[hkn]
  rw[qF1]
  push_cast(disch:=first|omega|(apply id;push_cast;try omega))
  refine WD.loop4 (q:=qq) (qB G) (by kernel_rfl) (I87e n bq c m vs) ?_ _ _ (I87e.mk 0 0 h rfl (Nat.zero_le _) s)
  clear s h
  intro μ s2 hI
  cases hI with|mk i iv h hiv hi s=>
  subst hiv
  rw[qC1]
  by_cases hin:(i:Int)<n
  ·obtain ⟨bi,li,ri,ci,hli,bi1,bi2,bi3⟩:=s.row (i:=i) (by omega)
   have gii:=uI0 (l:=li) (i:=i) (by omega)
   have cq:=s.c
   have vl:=s.len
   have hl1:=s.lo
   have hq1:=s.b1
   have hin':i<n:=by omega
   generalize li.getD i false=x1 at gii
   cases x1
   ·push_cast(disch:=first|omega|(apply id;push_cast;try omega))[hin,cq,vl,ri,ci,gii,hin',hl1,hli,Int.toNat_natCast]
    exact ⟨_,by omega,I87e.mk (i+1) _ h (by first|rfl|omega) (by omega) s⟩
   ·push_cast(disch:=first|omega|(apply id;push_cast;try omega))[hin,cq,vl,ri,ci,gii,hin',hl1,hli,Int.toNat_natCast]
    exact ⟨_,⟨_,rfl⟩,.id rfl⟩
  ·push_cast(disch:=first|omega|(apply id;push_cast;try omega))[hin]
   rw[qB1]
   push_cast(disch:=first|omega|(apply id;push_cast;try omega))
   exact ⟨_,⟨_,rfl⟩,.id rfl⟩
structure Co where
 v:List Int
 s:Int
 p:List Tm
 m:Int
def coC (c:Co):List Value:=[ivV c.v,.int .i64 c.s,tmsV c.p,.int .i64 c.m]
def coV (c:Co):Value:=.agg ⟨coC c⟩
def cF2 (p:Pg):List Tm:=kY (p.v.map Prod.fst) p.s (p.d.map Prod.fst) (p.d.map Prod.snd)
def LowR (p:Pg) (d:Value):Prop:=∃ c e,d=.tuple ⟨[coV c,.int .i64 e]⟩∧c.p.length<1000∧bK c.p=true∧(e=0→1≤c.p.length)∧(e=0→c.p=cF2 p)
theorem bX2 (l:List (List UInt8)):one (nsV l)=true:=rfl
theorem cU1 (l:List (List UInt8)):(nsV l).cells.toList=[nsV l]:=rfl
attribute [push_cast] bX2 cU1
theorem rowI1 (x:Int) (σ:jA):bsD (qq.m 42) (slT Tryd.prog 42) 1 [(0,.int .i64 x)] σ=some (Rw true eI 1 (ivs [x]),σ):=by kernel_rfl
def coZ:List Value:=[.slice none 0 0,.int .i64 0,.slice none 0 0,.int .i64 0]
abbrev tCo:Nat:=88
inductive I70v (p:Pg) (mn:Int):Nat→S→Prop
 | mk (i : Nat) (iv : Int) (h : jA) (q : Option Addr) (c : Nat) {x0 x3 x4 x5 x9 xA xB xC xD xE xF xG xH xI xJ xK xL xM xN xO xP xQ xR xS xT xU xV xW xX xY xZ yA yB yC yD yE yF yG yH yI yJ yK yL yM yN yO yP yQ yR yS yT yU yV yW yX yY yZ zA zB zC zD zE zF zG zH zI zJ zK zL zM zN zO zP zQ zR zS zT zU zV zW zX zY zZ wA wB wC wD wE wF wG wH wI wJ wK wL wM wN wO wP wQ wR wS wT wU wV : Value} (hiv : iv = (i : Int)) (hi : i ≤ p.v.length)
   (c0:cells h 1=some (pgC p,57,false)) (c1:cells h 2=some (coZ,tCo,false)) (cw:cells h 3=some (lwC (p.v.map Prod.fst) p.s (p.d.map Prod.fst) false,tLw,false))
   (cc:cells h 4=some ([.slice q i c,.int .i64 p.s.length,.slice none 0 0,.int .i64 mn],tCo,false)) (ho:qI h eI 1 q i c (ivs ((p.v.map Prod.snd).take i))) (hq:∀ b,blk q b→5≤b) (hl1:h.lo=1) (hl2:5≤h.next) :
  I70v p mn (p.v.length-i) ⟨(F110 x0 (.pointer (some ⟨1,0,none⟩)) (.pointer (some ⟨2,0,none⟩)) x3 x4 x5 (.pointer (some ⟨3,0,none⟩)) (.pointer (some ⟨4,0,none⟩)) (.int .i64 iv) x9 xA xB xC xD xE xF xG xH xI xJ xK xL xM xN xO xP xQ xR xS xT xU xV xW xX xY xZ yA yB yC yD yE yF yG yH yI yJ yK yL yM yN yO yP yQ yR yS yT yU yV yW yX yY yZ zA zB zC zD zE zF zG zH zI zJ zK zL zM zN zO zP zQ zR zS zT zU zV zW zX zY zZ wA wB wC wD wE wF wG wH wI wJ wK wL wM wN wO wP wQ wR wS wT wU wV),[],h⟩
inductive I70p (p:Pg) (mn:Int) (q:Option Addr) (c:Nat):Nat→S→Prop
 | mk (i : Nat) (iv : Int) (h : jA) (bad : Bool) (q2 : Option Addr) (c2 : Nat) (ys : List Tm) {x0 x3 x4 x5 x8 xA xB xC xD xE xF xG xH xI xJ xK xL xM xN xO xP xQ xR xS xT xU xV xW xX xY xZ yA yB yC yD yE yF yG yH yI yJ yK yL yM yN yO yP yQ yR yS yT yU yV yW yX yY yZ zA zB zC zD zE zF zG zH zI zJ zK zL zM zN zO zP zQ zR zS zT zU zV zW zX zY zZ wA wB wC wD wE wF wG wH wI wJ wK wL wM wN wO wP wQ wR wS wT wU wV : Value} (hiv : iv = (i : Int)) (hi : i ≤ p.d.length)
   (c0:cells h 1=some (pgC p,57,false)) (c1:cells h 2=some (coZ,tCo,false)) (cw:cells h 3=some (lwC (p.v.map Prod.fst) p.s (p.d.map Prod.fst) bad,tLw,false))
   (cc:cells h 4=some ([.slice q p.v.length c,.int .i64 p.s.length,.slice q2 i c2,.int .i64 mn],tCo,false)) (ho:qI h eI 1 q p.v.length c (ivs (p.v.map Prod.snd))) (hq:∀ b,blk q b→5≤b)
   (ho2:qI h etm 9 q2 i c2 (qK ys)) (hq2:∀ b,blk q2 b→5≤b∧¬ blk q b) (hys:ys.length=i∧bK ys=true) (hyp:ys=kY (p.v.map Prod.fst) p.s (p.d.map Prod.fst) ((p.d.map Prod.snd).take i)) (hl1:h.lo=1) (hl2:5≤h.next) :
  I70p p mn q c (p.d.length-i) ⟨(F110 x0 (.pointer (some ⟨1,0,none⟩)) (.pointer (some ⟨2,0,none⟩)) x3 x4 x5 (.pointer (some ⟨3,0,none⟩)) (.pointer (some ⟨4,0,none⟩)) x8 (.int .i64 iv) xA xB xC xD xE xF xG xH xI xJ xK xL xM xN xO xP xQ xR xS xT xU xV xW xX xY xZ yA yB yC yD yE yF yG yH yI yJ yK yL yM yN yO yP yQ yR yS yT yU yV yW yX yY yZ zA zB zC zD zE zF zG zH zI zJ zK zL zM zN zO zP zQ zR zS zT zU zV zW zX zY zZ wA wB wC wD wE wF wG wH wI wJ wK wL wM wN wO wP wQ wR wS wT wU wV),[],h⟩
theorem bE0 (p:Pg) (mn:Int) (hv:p.v.length≤20) (μ:Nat) (s:S) (hI:I70v p mn μ s) {R:jJ→S→Prop}
  (hR:∀ (h:jA) (q:Option Addr) (c:Nat) {x0 x3 x4 x5 x8 x9 xA xB xC xD xE xF xG xH xI xJ xK xL xM xN xO xP xQ xR xS xT xU xV xW xX xY xZ yA yB yC yD yE yF yG yH yI yJ yK yL yM yN yO yP yQ yR yS yT yU yV yW yX yY yZ zA zB zC zD zE zF zG zH zI zJ zK zL zM zN zO zP zQ zR zS zT zU zV zW zX zY zZ wA wB wC wD wE wF wG wH wI wJ wK wL wM wN wO wP wQ wR wS wT wU wV:Value},cells h 1=some (pgC p,57,false)→cells h 2=some (coZ,tCo,false)→cells h 3=some (lwC (p.v.map Prod.fst) p.s (p.d.map Prod.fst) false,tLw,false)→
   cells h 4=some ([.slice q p.v.length c,.int .i64 p.s.length,.slice none 0 0,.int .i64 mn],tCo,false)→qI h eI 1 q p.v.length c (ivs (p.v.map Prod.snd))→(∀ b,blk q b→5≤b)→h.lo=1→5≤h.next→
   R (.exit 0) ⟨(F110 x0 (.pointer (some ⟨1,0,none⟩)) (.pointer (some ⟨2,0,none⟩)) x3 x4 x5 (.pointer (some ⟨3,0,none⟩)) (.pointer (some ⟨4,0,none⟩)) x8 x9 xA xB xC xD xE xF xG xH xI xJ xK xL xM xN xO xP xQ xR xS xT xU xV xW xX xY xZ yA yB yC yD yE yF yG yH yI yJ yK yL yM yN yO yP yQ yR yS yT yU yV yW yX yY yZ zA zB zC zD zE zF zG zH zI zJ zK zL zM zN zO zP zQ zR zS zT zU zV zW zX zY zZ wA wB wC wD wE wF wG wH wI wJ wK wL wM wN wO wP wQ wR wS wT wU wV),[],h⟩) :
  WD (pp G) qq.H none (.loop fW0) s R:=by
 refine WD.loop4 (q:=qq) (qB G) (by kernel_rfl) (I70v p mn) ?_ _ _ hI
 clear hI s μ
 intro μ s1 hI
 cases hI with|mk i iv h q c hiv hi c0 c1 cw cc ho hq hl1 hl2=>
 subst hiv
 rw[uF1]
 have c0':=c0
 unfold pgC at c0'
 have hvl:=eO0 p.v
 by_cases hil:(i:Int)<p.v.length
 ·obtain ⟨x,hx⟩:=jR (l:=p.v) (i:=i) (by omega)
  have hg:=(yX1 hx).2
  have hle:i*2+1<p.v.length*2:=by omega
  push_cast(disch:=first|omega|(apply id;push_cast;try omega))[hil,c0',cc,hvl,hg,hle,Int.toNat_natCast,hl1,↓rowI1]
  obtain ⟨a',c',σ',e',o',g',b'⟩:=gM (by_:=8) ho (by omega) (by omega) (m:=1) (xs:=ivs [x.2]) rfl rfl (by omega)
  have hta:(p.v.map Prod.snd).take (i+1)=(p.v.map Prod.snd).take i++[x.2]:=jW (by rw[List.getElem?_map,hx];rfl)
  rw[← oT0,← hta] at o'
  have hn':=g'.next
  have hl':=g'.lo
  have k0:cells σ' 1=_:=g'.cellsE c0 (by omega) (fun hb=>by have:=hq _ hb;omega)
  have k1:cells σ' 2=_:=g'.cellsE c1 (by omega) (fun hb=>by have:=hq _ hb;omega)
  have kw:cells σ' 3=_:=g'.cellsE cw (by omega) (fun hb=>by have:=hq _ hb;omega)
  have kc:cells σ' 4=_:=g'.cellsE cc (by omega) (fun hb=>by have:=hq _ hb;omega)
  have hb':∀ b,blk a' b→5≤b:=fun b hb=>by
   rcases b' b hb with hb|hb
   ·exact hq b hb
   ·omega
  push_cast(disch:=first|omega|(apply id;push_cast;try omega))[e',kc,hl',hl1]
  refine ⟨_,by omega,I70v.mk (i+1) _ _ a' c' (by first|rfl|omega) (by omega) ?_ ?_ ?_ ?_ (o'.grew (S:=fun k=>k=4) (jF.put _ _ _ fun _=>rfl) (fun k hk e=>by have:=hb' k hk;omega)) hb' ?_ ?_⟩
  iterate 6 exact (by first|assumption|(push_cast(disch:=first|omega|(apply id;push_cast;try omega))[k0,k1,kw,hl',hl1];try omega))
 ·obtain rfl:i=p.v.length:=by omega
  rw[List.take_of_length_le (by rw[List.length_map];exact Nat.le_refl _)] at ho
  push_cast(disch:=first|omega|(apply id;push_cast;try omega))[hil,c0',hvl]
  exact hR h q c c0 c1 cw cc ho hq hl1 hl2
theorem dX0 (p:Pg) {σ:jA} (e:Int) (he:e≠0) (N:Nat):∃ d,LowR p d∧FzV (pp G).P N σ (.tuple ⟨[.agg ⟨[.slice none 0 0,.int .i64 0,.slice none 0 0,.int .i64 0]⟩,.int .i64 e]⟩) d:=
 ⟨_,⟨⟨[],0,[],0⟩,e,rfl,by decide,rfl,fun h=>absurd h he,fun h=>absurd h he⟩,.tup (.cons (.agg (.cons (.nil (size:=1) rfl (by decide)) (.cons (.id rfl) (.cons (.nil (size:=9) rfl (by decide)) (.cons (.id rfl) .nil))))) (.cons (.id rfl) .nil))⟩
theorem dB1 (p:Pg) (mn:Int) (hv:p.v.length≤20) (hst:p.s.length≤10) (hd:p.d.length≤20) (hn:1≤p.d.length) (hs:∀ x∈p.d,smP (p.v.map Prod.fst) p.s x.2=true) (h:jA) (q:Option Addr) (c:Nat) {x0 x3 x4 x5 x8 x9 xA xB xC xD xE xF xG xH xI xJ xK xL xM xN xO xP xQ xR xS xT xU xV xW xX xY xZ yA yB yC yD yE yF yG yH yI yJ yK yL yM yN yO yP yQ yR yS yT yU yV yW yX yY yZ zA zB zC zD zE zF zG zH zI zJ zK zL zM zN zO zP zQ zR zS zT zU zV zW zX zY zZ wA wB wC wD wE wF wG wH wI wJ wK wL wM wN wO wP wQ wR wS wT wU wV:Value}
  (c0:cells h 1=some (pgC p,57,false)) (c1:cells h 2=some (coZ,tCo,false)) (cw:cells h 3=some (lwC (p.v.map Prod.fst) p.s (p.d.map Prod.fst) false,tLw,false))
  (cc:cells h 4=some ([.slice q p.v.length c,.int .i64 p.s.length,.slice none 0 0,.int .i64 mn],tCo,false)) (ho:qI h eI 1 q p.v.length c (ivs (p.v.map Prod.snd))) (hq:∀ b,blk q b→5≤b) (hl1:h.lo=1) (hl2:5≤h.next) :
  dc3 (pp G) qq none fV0 ⟨(F110 x0 (.pointer (some ⟨1,0,none⟩)) (.pointer (some ⟨2,0,none⟩)) x3 x4 x5 (.pointer (some ⟨3,0,none⟩)) (.pointer (some ⟨4,0,none⟩)) x8 x9 xA xB xC xD xE xF xG xH xI xJ xK xL xM xN xO xP xQ xR xS xT xU xV xW xX xY xZ yA yB yC yD yE yF yG yH yI yJ yK yL yM yN yO yP yQ yR yS yT yU yV yW yX yY yZ zA zB zC zD zE zF zG zH zI zJ zK zL zM zN zO zP zQ zR zS zT zU zV zW zX zY zZ wA wB wC wD wE wF wG wH wI wJ wK wL wM wN wO wP wQ wR wS wT wU wV),[],h⟩ (@kR ⟨jC Tryd.prog [(.cell 2 tCo),(.tmp 3)] (fun v σ'=>∃ d,LowR p d∧FzV (pp G).P H0.next σ' v d)⟩):=by
 rw[uE1]
 push_cast(disch:=first|omega|(apply id;push_cast;try omega))
 refine WD.loop4 (q:=qq) (qB G) (by kernel_rfl) (I70p p mn q c) ?_ _ _ (I70p.mk 0 0 h false none 0 [] rfl (Nat.zero_le _) c0 c1 cw cc ho hq (qI.nil _ _ _) (fun b hb=>by obtain ⟨o,s,e⟩:=hb;cases e) ⟨rfl,rfl⟩ rfl hl1 hl2)
 clear c0 c1 cw cc ho hl1 hl2 h
 intro μ s1 hI
 cases hI with|mk i iv h bad q2 c2 ys hiv hi c0 c1 cw cc ho hq ho2 hq2 hys hyp hl1 hl2=>
 subst hiv
 rw[uD1]
 have c0':=c0
 unfold pgC at c0'
 have cw':=cw
 unfold lwC at cw'
 have hdl:=iM0 p.d
 have hVl:(p.v.map Prod.fst).length<1000000000000000:=by rw[List.length_map];omega
 have hDl:(p.d.map Prod.fst).length<1000000000000000:=by rw[List.length_map];omega
 by_cases hil:(i:Int)<p.d.length
 ·obtain ⟨y,hy⟩:=jR (l:=p.d) (i:=i) (by omega)
  have hg:=(iN0 hy).2
  have hle:i*9+9≤p.d.length*9:=by omega
  push_cast(disch:=first|omega|(apply id;push_cast;try omega))[hil,c0',cc,cw',hdl,hg,hle,Int.toNat_natCast,hl1]
  refine jB.func (cap:=[]) (args:=[_,_]) (wA2 G (p.v.map Prod.fst) p.s (p.d.map Prod.fst) hVl (by omega) hDl y.2 (oC0 hs hy) h 3 bad cw (by omega) (by omega)) ?_
  rintro _ _ ⟨⟨t,rfl,ht,htE⟩,bd,rfl⟩
  have gp:jF h (h.put 3 (O (lwC (p.v.map Prod.fst) p.s (p.d.map Prod.fst) bd) tLw false)) (fun k=>k=3):=jF.put _ _ _ fun _=>rfl
  have w1:cells (h.put 3 (O (lwC (p.v.map Prod.fst) p.s (p.d.map Prod.fst) bd) tLw false)) 3=some (lwC (p.v.map Prod.fst) p.s (p.d.map Prod.fst) bd,tLw,false):=by push_cast(disch:=first|omega|(apply id;push_cast;try omega));first|done|rfl
  have p0:cells (h.put 3 (O (lwC (p.v.map Prod.fst) p.s (p.d.map Prod.fst) bd) tLw false)) 1=_:=gp.cellsE c0 (by omega) (by omega)
  have p1:cells (h.put 3 (O (lwC (p.v.map Prod.fst) p.s (p.d.map Prod.fst) bd) tLw false)) 2=_:=gp.cellsE c1 (by omega) (by omega)
  have pc:cells (h.put 3 (O (lwC (p.v.map Prod.fst) p.s (p.d.map Prod.fst) bd) tLw false)) 4=_:=gp.cellsE cc (by omega) (by omega)
  have ho':=ho.grew gp (fun k hk e=>by have:=hq k hk;omega)
  have ho2':=ho2.grew gp (fun k hk e=>by have:=(hq2 k hk).1;omega)
  have hnp:(h.put 3 (O (lwC (p.v.map Prod.fst) p.s (p.d.map Prod.fst) bd) tLw false)).next=h.next:=rfl
  have hlp:(h.put 3 (O (lwC (p.v.map Prod.fst) p.s (p.d.map Prod.fst) bd) tLw false)).lo=h.lo:=rfl
  generalize h.put 3 (O (lwC (p.v.map Prod.fst) p.s (p.d.map Prod.fst) bd) tLw false)=h1 at *
  push_cast(disch:=first|omega|(apply id;push_cast;try omega))[pc,↓oG0,hlp,hl1]
  obtain ⟨a',c',σ',e',o',g',b'⟩:=gM (by_:=120) ho2' (by omega) (by omega) (m:=1) (xs:=qK [t]) (bB [t]) (jK0 _) (by omega)
  rw[← jL0] at o'
  have hn':=g'.next
  have hl':=g'.lo
  have k0:cells σ' 1=_:=g'.cellsE p0 (by omega) (fun hb=>by have:=(hq2 _ hb).1;omega)
  have k1:cells σ' 2=_:=g'.cellsE p1 (by omega) (fun hb=>by have:=(hq2 _ hb).1;omega)
  have kw:cells σ' 3=_:=g'.cellsE w1 (by omega) (fun hb=>by have:=(hq2 _ hb).1;omega)
  have kc:cells σ' 4=_:=g'.cellsE pc (by omega) (fun hb=>by have:=(hq2 _ hb).1;omega)
  have ho'':=ho'.grew g' (fun k hk e=>(hq2 k e).2 hk)
  have hb':∀ b,blk a' b→5≤b∧¬ blk q b:=fun b hb=>by
   rcases b' b hb with hb|hb
   ·exact hq2 b hb
   ·exact ⟨by omega,fun h1=>by have:=qI.lt ho h1;omega⟩
  push_cast(disch:=first|omega|(apply id;push_cast;try omega))[e',kc,hl',hlp,hl1]
  refine ⟨_,by omega,I70p.mk (i+1) _ _ bd a' c' (ys++[t]) (by first|rfl|omega) (by omega) ?_ ?_ ?_ ?_ (ho''.grew (S:=fun k=>k=4) (jF.put _ _ _ fun _=>rfl) (fun k hk e=>by have:=hq k hk;omega)) hq (o'.grew (S:=fun k=>k=4) (jF.put _ _ _ fun _=>rfl) (fun k hk e=>by have:=(hb' k hk).1;omega)) hb' ⟨by simp[hys.1],yR0 hys.2 (by rw[bK,ht];rfl)⟩ (by rw[dY0 _ _ _ (x:=y.2) (by rw[List.getElem?_map,hy];rfl),hyp,htE]) ?_ ?_⟩
  iterate 6 exact (by first|assumption|(push_cast(disch:=first|omega|(apply id;push_cast;try omega))[k0,k1,kw,hl',hlp,hl1];try omega))
 ·obtain rfl:i=p.d.length:=by omega
  push_cast(disch:=first|omega|(apply id;push_cast;try omega))[hil,c0',hdl]
  rw[uC1]
  have c1':=c1
  unfold coZ at c1'
  have hfc:∀ N σ' e,N=1→qI σ' eI 1 q p.v.length c (ivs (p.v.map Prod.snd))→qI σ' etm 9 q2 p.d.length c2 (qK ys)→∃ d,LowR p d∧FzV (pp G).P N σ' (.tuple ⟨[.agg ⟨[.slice q p.v.length c,.int .i64 p.s.length,.slice q2 p.d.length c2,.int .i64 mn]⟩,.int .i64 e]⟩) d:=fun N σ' e hN h1 h2=>by
   subst hN
   refine ⟨_,⟨⟨p.v.map Prod.snd,p.s.length,ys,mn⟩,e,rfl,?_,hys.2,fun _=>?_,fun _=>?_⟩,?_⟩
   ·show ys.length<1000;omega
   ·show 1≤ys.length;omega
   ·show ys=_;rw[hyp,List.take_of_length_le (by rw[List.length_map];exact Nat.le_refl _)];rfl
   ·unfold coV coC ivV tmsV
    rw[List.length_map,hys.1]
    exact .tup (.cons (.agg (.cons (h1.fz rfl (by decide) (by omega) (.ids (bG0 _ _)) (fun b hb=>by have:=hq b hb;omega)) (.cons (.id rfl) (.cons (h2.fz rfl (by decide) (by omega) (.ids (gB _ (by omega) _)) (fun b hb=>by have:=(hq2 b hb).1;omega)) (.cons (.id rfl) .nil))))) (.cons (.id rfl) .nil))
  cases bad with
  | true=>
   push_cast(disch:=first|omega|(apply id;push_cast;try omega))[cw',c1',hl1]
   exact dX0 G p 4 (by decide) _
  | false=>
   push_cast(disch:=first|omega|(apply id;push_cast;try omega))[cw',cc,hl1]
   by_cases hm:mn<0
   ·push_cast(disch:=first|omega|(apply id;push_cast;try omega))[hm,c1',hl1]
    exact dX0 G p 6 (by decide) _
   ·have hpl:(pgC p).length=3:=rfl
    have hpt:(pgC p).take 3=pgC p:=rfl
    push_cast(disch:=first|omega|(apply id;push_cast;try omega))[hm,c0,hpl,hpt]
    rw[show Value.agg ⟨pgC p⟩=pgV p from rfl]
    refine dL (gU2 G (p.v.map Prod.fst) p.s p hv hd hn hs) ?_
    rintro _ ⟨b,rfl⟩
    refine ⟨rfl,?_⟩
    cases b with
    | true=>
     push_cast(disch:=first|omega|(apply id;push_cast;try omega))[c1',hl1]
     exact dX0 G p 7 (by decide) _
    | false=>
     push_cast(disch:=first|omega|(apply id;push_cast;try omega))[cc,c1',hl1]
     exact hfc _ _ 0 rfl (ho.grew (S:=fun k=>k=2) (jF.put _ _ _ fun _=>rfl) (fun k hk e=>by have:=hq k hk;omega)) (ho2.grew (S:=fun k=>k=2) (jF.put _ _ _ fun _=>rfl) (fun k hk e=>by have:=(hq2 k hk).1;omega))
theorem cE2 (p:Pg) (hv:p.v.length≤20) (hst:p.s.length≤10) (hd:p.d.length≤20) (hn:1≤p.d.length) (hs:∀ x∈p.d,smP (p.v.map Prod.fst) p.s x.2=true) :
  gA (pp G) H0 51 [pgV p] (LowR p):=by
 refine cY G fir51 (by kernel_rfl) (uG2 ..) fun hlo=>?_;rw[yH2]
 unfold pgV pgC
 have g1:¬ (p.v.length:Int) > 20:=by omega
 have g2:¬ (p.s.length:Int) > 10:=by omega
 have g3:¬ (p.d.length:Int) > 20:=by omega
 push_cast(disch:=first|omega|(apply id;push_cast;try omega))[g1,g2,g3]
 rw[show Value.agg ⟨[Rw false eVr p.v.length (vrs p.v),Rw false eS p.s.length (nss p.s),Rw false eDf p.d.length (dfs p.d)]⟩=pgV p from rfl]
 refine dK (cW1 G p hv hd) ?_
 push_cast(disch:=first|omega|(apply id;push_cast;try omega))
 have hvl:(p.v.map Prod.fst).length<1000000000000000:=by rw[List.length_map];omega
 have hdl:(p.d.map Prod.fst).length<1000000000000000:=by rw[List.length_map];omega
 refine dL (nY0 G (p.v.map Prod.fst) hvl) ?_
 rintro _ ⟨t1,rfl⟩
 refine ⟨rfl,?_⟩
 cases t1 with
 | true=>push_cast(disch:=first | omega | (apply id;push_cast;try omega));exact dX0 G p 5 (by decide) _
 | false=>
 push_cast(disch:=first|omega|(apply id;push_cast;try omega))
 refine dL (nY0 G p.s (by omega)) ?_
 rintro _ ⟨t1,rfl⟩
 refine ⟨rfl,?_⟩
 cases t1 with
 | true=>push_cast(disch:=first | omega | (apply id;push_cast;try omega));exact dX0 G p 5 (by decide) _
 | false=>
 push_cast(disch:=first|omega|(apply id;push_cast;try omega))
 refine dL (nY0 G (p.d.map Prod.fst) hdl) ?_
 rintro _ ⟨t1,rfl⟩
 refine ⟨rfl,?_⟩
 cases t1 with
 | true=>push_cast(disch:=first | omega | (apply id;push_cast;try omega));exact dX0 G p 5 (by decide) _
 | false=>
 push_cast(disch:=first|omega|(apply id;push_cast;try omega))
 have hfin : ∀ (mn : Int) (h : jA) (q : Option Addr) (c : Nat) {x0 x3 x4 x5 x8 x9 xA xB xC xD xE xF xG xH xI xJ xK xL xM xN xO xP xQ xR xS xT xU xV xW xX xY xZ yA yB yC yD yE yF yG yH yI yJ yK yL yM yN yO yP yQ yR yS yT yU yV yW yX yY yZ zA zB zC zD zE zF zG zH zI zJ zK zL zM zN zO zP zQ zR zS zT zU zV zW zX zY zZ wA wB wC wD wE wF wG wH wI wJ wK wL wM wN wO wP wQ wR wS wT wU wV : Value}, cells h 1 = some (pgC p, 57, false) → cells h 2 = some (coZ, tCo, false) → cells h 3 = some (lwC (p.v.map Prod.fst) p.s (p.d.map Prod.fst) false, tLw, false) →
   cells h 4=some ([.slice q p.v.length c,.int .i64 p.s.length,.slice none 0 0,.int .i64 mn],tCo,false)→qI h eI 1 q p.v.length c (ivs (p.v.map Prod.snd))→(∀ b,blk q b→5≤b)→h.lo=1→5≤h.next→
   _:=fun mn h q c=>@dB1 G p mn hv hst hd hn hs h q c
 refine ⟨?_,?_⟩
 ·refine dL (bM0 G (p.d.map Prod.fst) [109,97,105,110] hdl) ?_
  rintro _ ⟨mn,rfl,hmn,_⟩
  refine ⟨rfl,?_⟩
  push_cast(disch:=first|omega|(apply id;push_cast;try omega))
  refine bE0 G p mn hv _ _ (I70v.mk 0 0 _ none 0 rfl (Nat.zero_le _) ?_ ?_ ?_ ?_ (qI.nil _ _ _) (fun b hb=>by obtain ⟨o,s,e⟩:=hb;cases e) ?_ ?_) ?_
  ·exact (by push_cast(disch:=first|omega|(apply id;push_cast;try omega));first|done|rfl)
  ·exact (by push_cast(disch:=first|omega|(apply id;push_cast;try omega));first|done|rfl)
  ·exact (by push_cast(disch:=first|omega|(apply id;push_cast;try omega));first|done|rfl)
  ·exact (by push_cast(disch:=first|omega|(apply id;push_cast;try omega));first|done|rfl)
  iterate 2 exact tH
  ·intro h q c
   intros
   rename_i c0 c1 cw cc ho hq hl1 hl2
   push_cast(disch:=first|omega|(apply id;push_cast;try omega))
   exact hfin mn h q c c0 c1 cw cc ho hq hl1 hl2
 ·refine dL (bM0 G (p.d.map Prod.fst) [109,97,105,110] hdl) ?_
  rintro _ ⟨mn,rfl,hmn,_⟩
  refine ⟨rfl,?_⟩
  push_cast(disch:=first|omega|(apply id;push_cast;try omega))
  refine bE0 G p mn hv _ _ (I70v.mk 0 0 _ none 0 rfl (Nat.zero_le _) ?_ ?_ ?_ ?_ (qI.nil _ _ _) (fun b hb=>by obtain ⟨o,s,e⟩:=hb;cases e) ?_ ?_) ?_
  ·exact (by push_cast(disch:=first|omega|(apply id;push_cast;try omega));first|done|rfl)
  ·exact (by push_cast(disch:=first|omega|(apply id;push_cast;try omega));first|done|rfl)
  ·exact (by push_cast(disch:=first|omega|(apply id;push_cast;try omega));first|done|rfl)
  ·exact (by push_cast(disch:=first|omega|(apply id;push_cast;try omega));first|done|rfl)
  iterate 2 exact tH
  ·intro h q c
   intros
   rename_i c0 c1 cw cc ho hq hl1 hl2
   push_cast(disch:=first|omega|(apply id;push_cast;try omega))
   exact hfin mn h q c c0 c1 cw cc ho hq hl1 hl2
end
end Go.Proofs.YtgeakofgklcipaaDoor
