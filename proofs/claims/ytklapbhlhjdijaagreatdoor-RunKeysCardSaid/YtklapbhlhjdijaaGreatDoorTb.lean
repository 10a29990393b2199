/-
  A part of the proof: what the program's functions hand back,as theorems. No condition but those that each theorem names.
-/
import Derived.Test.YtklapbhlhjdijaaGreatDoorTa
import Derived.Test.YtklapbhlhjdijaaGreatDoorExb
import Derived.Test.YtklapbhlhjdijaaGreatDoorEve
import Derived.Test.YtklapbhlhjdijaaGreatDoorExc
import Derived.Lib.Bytealg
import Derived.Laws.RangeAny
set_option linter.unusedSimpArgs false
set_option linter.unusedVariables false
namespace Go.Proofs.YtklapbhlhjdijaaGreatDoor
open _root_.Go.Proofs.Tryz (prog)
open Go Go.RowKit Go.Ev Go.Dv
noncomputable section
attribute [local push_cast] eq_self iff_self
set_option maxRecDepth 100000
variable (G:Nat×Nat)
theorem qW0 (a n:Int)(e:0<n)(d:n<1000000000000):jF (pp G) H0 146 [.int .i64 a,.int .i64 n] (.int .i64 (jU a n)):=by
 refine cE G eO3 Z7 (dN0 ..) λg=>?_;rw[kL2]
 have h0:¬ n=0:=Z0
 have b:¬ n = -1:=Z0
 have c:=uR (a:=a) e
 unfold jU at c ⊢
 by_cases h:a.tmod n<0
 ·rw[if_pos h]
  rw[if_pos h] at c
  have f:IntKind.i64.wrap (a.tmod n+n)=a.tmod n+n:=W_in (by unfold In;omega)
  refine S4 h @h0 b f ?_
  exact .id rfl
 ·rw[if_neg h]
  rw[if_neg h] at c
  refine S3 h @h0 b ?_
  exact .id rfl
theorem jG0 (a n:Int)(e:0<n)(d:n<1000000000000):jF (pp G) H0 68 [.int .i64 a,.int .i64 n] (.int .i64 (jU a n)):=by
 refine cE G fir68 Z7 (dN0 ..) λg=>?_;rw[pP2]
 have h0:¬ n=0:=Z0
 have b:¬ n = -1:=Z0
 have c:=uR (a:=a) e
 unfold jU at c ⊢
 by_cases h:a.tmod n<0
 ·rw[if_pos h]
  rw[if_pos h] at c
  have f:IntKind.i64.wrap (a.tmod n+n)=a.tmod n+n:=W_in (by unfold In;omega)
  refine S4 h @h0 b f ?_
  exact .id rfl
 ·rw[if_neg h]
  rw[if_neg h] at c
  refine S3 h @h0 b ?_
  exact .id rfl
mutual
def smR:Ra→Zb
 | .mk _ _ l=>decide (l.length<1000000000000000)&&smRs l
def smRs:List Ra→Zb
 | []=>true
 | x :: l=>smR x&&smRs l
end
theorem gI0:∀ {l:List Ra},smRs l=true→∀ x∈l,smR x=true
 | [],_,x,a=>by cases a
 | y :: l,h,x,a=>by
  simp only[smRs,Z5] at h
  rcases List.mem_cons.1 a with rfl|a
  ·exact h.1
  ·exact gI0 h.2 x a
mutual
def szR (d:Nat):Ra→Int
 | .mk _ _ l=>if 8<d then 1000 else szL d 0 l
def szL (d:Nat)(n:Int):List Ra→Int
 | []=>n
 | x :: l=>if n≤20 then szL d (n+1+szR (d+1) x) l else n
end
def dS0 (l:List Ra)(d:Nat):Int:=if 8<d then 1000 else szL d 0 l
mutual
theorem lO2 (d:Nat):∀ x:Ra,0≤szR d x∧szR d x≤1000+21*((9-d:Nat):Int)
 | .mk k n l=>by
  rw[szR]
  split
  ·omega
  ·exact lP2 d Z0 l 0 Z0 Z0
theorem lP2 (d:Nat)(a:d≤8):∀ (l:List Ra) (n:Int),0≤n→n≤1000+21*((9-d:Nat):Int)→0≤szL d n l∧szL d n l≤1000+21*((9-d:Nat):Int)
 | [],n,h,h'=>by rw[szL];exact ⟨h,h'⟩
 | x :: l,n,h,h'=>by
  rw[szL]
  have:=lO2 (d+1) x
  split
  ·exact lP2 d a l _ Z0 Z0
  ·exact ⟨h,h'⟩
end
inductive iV2 (d:Nat)(l:List Ra):Nat→S→Prop
 | mk (i:Nat) (iv n:Int) (h:jA) {x2 x3 x4 x7 x8 x9 xA xB xC xD xE xF xG xH xI xJ xK xL xM xN xO xP xQ xR xS xT xU:Z6} (hiv:iv=(i:Int)) (hi:i≤l.length) (hn:0≤n∧n≤2000) (hok:szL d n (l.drop i)=szL d 0 l) (hl1:h.lo=1) (hl2:1≤h.next) :
  iV2 d l (l.length-i) ⟨(F31 (Rw false era l.length (raCs l)) (.int .i64 d) x2 x3 x4 (.int .i64 n) (.int .i64 iv) x7 x8 x9 xA xB xC xD xE xF xG xH xI xJ xK xL xM xN xO xP xQ xR xS xT xU),[],h⟩
theorem lS2:∀ (l:List Ra) (d:Nat),d≤9→l.length<1000000000000000→smRs l=true→jF (pp G) H0 98 [rasV l,.int .i64 d] (.int .i64 (dS0 l d))
 | l,d,hd,hll,hsm=>by
  have J:∀ k n c,.mk k n c∈l→d≤8→jF (pp G) H0 98 [rasV c,.int .i64 ((d+1:Nat):Int)] (.int .i64 (dS0 c (d+1))):=λk n c z B=>by
   have:=gI0 hsm _ z
   simp only[smR,Z5,decide_eq_true_eq] at this
   exact lS2 c (d+1) Z0 this.1 this.2
  refine cE G fir98 Z7 (zM3 ..) λK=>?_;rw[oU2]
  unfold rasV dS0
  by_cases A:8<d
  ·rw[if_pos A]
   have g:(8:Int)<d:=Z0
   refine S1 g ?_
   exact .id rfl
  rw[if_neg A]
  have g:¬ (8:Int)<d:=Z0
  refine S1 g ?_
  refine WD.loop4 (q:=qq) (jV G) Z7 (iV2 d l) ?_ _ _ (iV2.mk 0 0 0 _ rfl (Nat.zero_le _) Z0 rfl rfl (Z3 _))
  intro m N C
  cases C with|mk i M n h t hi P a f v=>
  subst t
  rw[kC1]
  by_cases e:(i:Int)<l.length
  ·obtain ⟨x,p⟩:∃ x,l[i]?=some x:=⟨_,List.getElem?_eq_getElem Z0⟩
   have r:=List.mem_of_getElem? p
   have s:l.drop i=x :: l.drop (i+1):=by rw[List.drop_eq_getElem_cons Z0];congr 1;exact (List.getElem?_eq_some_iff.1 p).2
   rw[s,szL] at a
   by_cases b:n≤20
   ·rw[if_pos b] at a
    obtain ⟨o,w,c⟩:=x
    have L:=gC2 (j:=2) p Z0 rfl
    have u:i*3+3≤l.length*3:=Z0
    have I:IntKind.i64.wrap (n+1)=n+1:=W_in (by unfold In;omega)
    have D:IntKind.i64.wrap ((d:Int)+1)=((d+1:Nat):Int):=W_in (by unfold In;omega)
    have H:=lO2 (d+1) (.mk o w c)
    have E:szR (d+1) (.mk o w c)=dS0 c (d+1):=by rw[szR,dS0]
    rw[E] at H a
    have F:IntKind.i64.wrap (n+1+dS0 c (d+1))=n+1+dS0 c (d+1):=W_in (by unfold In;omega)
    refine S8 e b @Z4 L u f I D ?_
    refine dK (J o w c r Z0) ?_
    refine S1 F ?_
    exact ⟨_,Z0,iV2.mk (i+1) _ _ _ Z2 Z0 Z0 a (by first|exact f|(push_cast(disch:=first|omega|(apply id;push_cast;try omega))[f];done)|(push_cast(disch:=first|omega|(apply id;push_cast;try omega));omega)) (by first|exact v|(push_cast(disch:=first|omega|(apply id;push_cast;try omega));done)|(push_cast(disch:=first|omega|(apply id;push_cast;try omega));omega))⟩
   ·rw[if_neg b] at a
    refine S2 e b ?_
    rw[eC0]
    refine S0 ?_
    rw[a]
    exact .id rfl
  ·have y:i=l.length:=Z0
   subst y
   rw[List.drop_length,szL] at a
   refine S1 e ?_
   rw[eC0]
   refine S0 ?_
   rw[a]
   exact .id rfl
 termination_by l=>SizeOf.sizeOf l
 decreasing_by
  have:=List.sizeOf_lt_of_mem z
  simp at this
  omega
theorem few_f (l:List Ra)(h:l.length<1000000000000000)(a:smRs l=true):jF (pp G) H0 60 [rasV l] (.bool (decide (dS0 l 0≤20))):=by
 refine cE G fir60 Z7 (wQ2 ..) λc=>?_;rw[pX2]
 refine S0 ?_
 refine dK (lS2 G l 0 Z0 h a) ?_
 refine S0 ?_
 exact .id rfl
def mI1:List Int:=[0,1,2,7,99,999999999999999999,5,3]
def yB0 (n:Int)(l:List Ex)(i:Nat):Ex:=l.getD i (.mk 1 (jU (W (n+i)) 5) [] [])
mutual
def mkF (h:List (List Zu)):Ra→Ex
 | .mk k n l=>if jU k 24<4 then .mk 1 (mI1.getD (jU n 8).toNat 0) [] []
  else if jU k 24<9∧0<h.length then .mk 2 0 (h.getD (jU n h.length).toNat []) []
  else if jU k 24<9 then .mk 2 (jU n 3) [] []
  else if jU k 24=9 then .mk 3 0 [] [yB0 n (mkL h l) 0]
  else if jU k 24=10 then .mk 4 0 [] [yB0 n (mkL h l) 0]
  else .mk (5+jU k 24-11) 0 [] [yB0 n (mkL h l) 0,yB0 n (mkL h l) 1]
def mkL (h:List (List Zu)):List Ra→List Ex
 | []=>[]
 | x :: l=>mkF h x :: mkL h l
end
theorem mQ1 (h:List (List Zu)):∀ l:List Ra,mkL h l=l.map (mkF h)
 | []=>rfl
 | x :: l=>by rw[mkL,mQ1 h l];rfl
theorem cG0 {P:Z9}{m:Nat}{σ:jA}(h:szT P eE=some 4)(k n:Int)(s:List Zu):FzV P m σ (.agg ⟨[.int .i64 k,.int .i64 n,.string (Tx s),.slice none 0 0]⟩) (exV (.mk k n s [])):=by
 refine .agg (.cons (.id rfl) (.cons (.id rfl) (.cons (.id rfl) (.cons ?_ .nil))))
 exact .nil h Z0
theorem jC3 {P:Z9}{m:Nat}(h:0<m){σ:jA}(k n:Int)(s:List Zu)(l:List Ex):FzV P m σ (.agg ⟨[.int .i64 k,.int .i64 n,.string (Tx s),Rw true eE l.length (kY l)]⟩) (exV (.mk k n s l)):=by
 refine .agg (.cons (.id rfl) (.cons (.id rfl) (.cons (.id rfl) (.cons ?_ .nil))))
 exact .row (.ids (jQ0 m h l))
theorem rX2 (x:Ex)(σ:jA):bsD (qq.m 30) (slT prog 30) 1 [(0,exV x)] σ=some (Rw true eE 1 (kY [x]),σ):=by
 cases x;kernel_rfl
theorem rowE2 (x y:Ex)(σ:jA):bsD (qq.m 30) (slT prog 30) 2 [(0,exV x),(1,exV y)] σ=some (Rw true eE 2 (kY [x,y]),σ):=by
 cases x;cases y;kernel_rfl
theorem row8 (σ:jA):bsD (qq.m 25) (slT prog 25) 8 [(0,(.int .i64 0)),(1,(.int .i64 1)),(2,(.int .i64 2)),(3,(.int .i64 7)),(4,(.int .i64 99)),(5,(.int .i64 999999999999999999)),(6,(.int .i64 5)),(7,(.int .i64 3))] σ=some (Rw true eI 8 (ivs mI1),σ):=Z7
theorem lY2 (a:List (List Zu))(k n:Int)(l:List Ra)(i:Nat)(hi:i<2)(j:l.length<1000000000000000)(f:∀ x∈l,jF (pp G) H0 134 [raV x,nsV a] (exV (mkF a x))) :
  jF (pp G) H0 147 [raV (.mk k n l),.int .i64 i,nsV a] (exV (yB0 n (mkL a l) i)):=by
 have d:yB0 n (mkL a l) i=(match l[i]? with|some x=>mkF a x|none=>.mk 1 (jU (W (n+i)) 5) [] []):=by
  rw[yB0,mQ1,List.getD_eq_getElem?_getD,List.getElem?_map]
  cases l[i]?<;>rfl
 rw[d]
 refine cE G eN3 Z7 (jO1 ..) λg=>?_;rw[kK2]
 unfold raV raC
 by_cases h:(i:Int)<l.length
 ·obtain ⟨x,c⟩:∃ x,l[i]?=some x:=⟨_,List.getElem?_eq_getElem Z0⟩
  have m:=bT0 c
  have b:i*3+3≤l.length*3:=Z0
  rw[c]
  refine S4 h m b @Z4 ?_
  refine dK (f x (List.mem_of_getElem? c)) ?_
  refine S0 ?_
  exact .id (by simp[eU0])
 ·have c:l[i]?=none:=List.getElem?_eq_none Z0
  rw[c]
  have e:IntKind.i64.wrap (n+i)=W (n+i):=rfl
  refine S2 h e ?_
  refine dK (qW0 G (W (n+i)) 5 Z0 Z0) ?_
  refine S0 ?_
  exact cG0 rfl _ _ _
theorem mB2 (c:List (List Zu))(p:c.length<1000000000):∀ x:Ra,smR x=true→jF (pp G) H0 134 [raV x,nsV c] (exV (mkF c x))
 | .mk k n l,hsm=>by
  simp only[smR,Z5,decide_eq_true_eq] at hsm
  have j:=gI0 hsm.2
  have u:∀ x∈l,jF (pp G) H0 134 [raV x,nsV c] (exV (mkF c x)):=λx v=>mB2 c p x (j x v)
  have p0:jF (pp G) H0 147 [raV (.mk k n l),.int .i64 0,nsV c] (exV (yB0 n (mkL c l) 0)):=lY2 G c k n l 0 Z0 hsm.1 u
  have C:jF (pp G) H0 147 [raV (.mk k n l),.int .i64 1,nsV c] (exV (yB0 n (mkL c l) 1)):=lY2 G c k n l 1 Z0 hsm.1 u
  refine cE G eY3 Z7 (zA3 ..) λA=>?_;rw[kV2]
  unfold raV raC
  rw[mkF]
  refine S0 ?_
  refine dK (qW0 G k 24 Z0 Z0) ?_
  have B:=uR (a:=k) (n:=24) Z0
  generalize jU k 24=w at B ⊢
  by_cases g:w<4
  ·rw[if_pos g]
   have t:=uR (a:=n) (n:=8) Z0
   have s:=uH1 (l:=mI1) (i:=(jU n 8).toNat) (by show (jU n 8).toNat<8;omega)
   have q:((jU n 8).toNat:Int)=jU n 8:=Int.toNat_of_nonneg t.1
   have r:(ivs mI1).length=8:=rfl
   push_cast(disch:=first|omega|(apply id;push_cast;try omega))[g,↓row8]
   refine dK (qW0 G n 8 Z0 Z0) ?_
   refine S3 s q r ?_
   exact cG0 rfl _ _ _
  rw[if_neg g]
  by_cases f:w<9
  ·by_cases h0:0<c.length
   ·rw[if_pos ⟨f,h0⟩]
    unfold nsV
    have e:(0:Int)<c.length:=Z0
    have t:=uR (a:=n) (n:=(c.length:Int)) Z0
    have s:=qK0 (l:=c) (i:=(jU n c.length).toNat) Z0
    have q:((jU n c.length).toNat:Int)=jU n c.length:=Int.toNat_of_nonneg t.1
    have o:(jU n c.length).toNat<c.length:=Z0
    refine S3 g f e ?_
    refine dK (qW0 G n c.length Z0 Z0) ?_
    refine S3 s q o ?_
    exact cG0 rfl _ _ _
   ·rw[if_neg (λh=>h0 h.2),if_pos f]
    unfold nsV
    have e:¬ (0:Int)<c.length:=Z0
    refine S3 g f e ?_
    refine dK (qW0 G n 3 Z0 Z0) ?_
    refine S0 ?_
    exact cG0 rfl _ _ _
  rw[if_neg (λh=>f h.1),if_neg f]
  by_cases b:w=9
  ·rw[if_pos b]
   subst b
   refine S0 ?_
   refine dK (p0) ?_
   push_cast(disch:=first|omega|(apply id;push_cast;try omega))[↓rX2]
   exact jC3 (m:=1) Z1 3 0 [] [_]
  rw[if_neg b]
  by_cases d:w=10
  ·rw[if_pos d]
   subst d
   refine S0 ?_
   refine dK (p0) ?_
   push_cast(disch:=first|omega|(apply id;push_cast;try omega))[↓rX2]
   exact jC3 (m:=1) Z1 4 0 [] [_]
  rw[if_neg d]
  have z:IntKind.i64.wrap (5+w)=5+w:=W_in (by unfold In;omega)
  have y:IntKind.i64.wrap (5+w-11)=5+w-11:=W_in (by unfold In;omega)
  refine S6 g f b d z y ?_
  refine dK (p0) ?_
  refine S0 ?_
  refine dK (C) ?_
  push_cast(disch:=first|omega|(apply id;push_cast;try omega))[↓rowE2]
  exact jC3 (m:=1) Z1 (5+w-11) 0 [] [_,_]
 termination_by x=>SizeOf.sizeOf x
def uO0 (h:List (List Zu)):List Ra→Ex
 | []=>.mk 1 1 [] []
 | x :: _=>mkF h x
theorem gR3 (h:List (List Zu))(a:h.length<1000000000)(l:List Ra)(c:smRs l=true)(g:l.length<1000000000000000) :
  jF (pp G) H0 103 [rasV l,nsV h] (exV (uO0 h l)):=by
 refine cE G fS3 Z7 (wX2 ..) λe=>?_;rw[yP2]
 cases l with
 | nil=>
  rw[uO0]
  unfold rasV
  refine S0 ?_
  exact cG0 rfl _ _ _
 | cons x l=>
  rw[uO0]
  have f:=gI0 c x (by simp)
  have b:=bT0 (l:=x :: l) (i:=0) rfl
  rw[Nat.zero_mul,List.drop_zero] at b
  have h0:¬ (l.length:Int)+1=0:=Z0
  have j:3≤(l.length+1)*3:=Z0
  have d:0<(x :: l).length:=by simp
  unfold rasV
  refine S4 @h0 j d b ?_
  refine dK (mB2 G h a x f) ?_
  refine S0 ?_
  exact .id (by simp[eU0])
def jQ:List (List Zu):=[[120],[121],[116,111,116,97,108]]
def jG:List (List Zu):=[[115],[117,110,100,111]]
def qG:List (List Zu):=[[109,97,105,110],[112],[113],[114,101,116,114,121],[108,97,115,116]]
def dB0:List (List Zu):=[[112,97,121],[115,104,105,112],[97,115,107]]
theorem lit2 (σ:jA):bsD (qq.m 73) (slT prog 73) 2 [(0,(.string (Tx [115]))),(1,(.string (Tx [117,110,100,111])))] σ=some (Rw true eS 2 (nss jG),σ):=Z7
theorem lit3 (σ:jA):bsD (qq.m 73) (slT prog 73) 3 [(0,(.string (Tx [120]))),(1,(.string (Tx [121]))),(2,(.string (Tx [116,111,116,97,108])))] σ=some (Rw true eS 3 (nss jQ),σ):=Z7
theorem lit5 (σ:jA):bsD (qq.m 73) (slT prog 73) 5 [(0,(.string (Tx [109,97,105,110]))),(1,(.string (Tx [112]))),(2,(.string (Tx [113]))),(3,(.string (Tx [114,101,116,114,121]))),(4,(.string (Tx [108,97,115,116])))] σ=some (Rw true eS 5 (nss qG),σ):=Z7
theorem litA (σ:jA):bsD (qq.m 73) (slT prog 73) 3 [(0,(.string (Tx [112,97,121]))),(1,(.string (Tx [115,104,105,112]))),(2,(.string (Tx [97,115,107])))] σ=some (Rw true eS 3 (nss dB0),σ):=Z7
theorem fN1:jF (pp G) H0 67 [] (nsV jQ):=by
 refine cE G fir67 Z7 (wU2 ..) λh=>?_;rw[pQ2]
 push_cast(disch:=first|omega|(apply id;push_cast;try omega))[↓lit3]
 exact .row (.ids (zW0 _ _))
theorem fJ0:jF (pp G) H0 66 [] (nsV jG):=by
 refine cE G fir66 Z7 (wU2 ..) λh=>?_;rw[pR2]
 push_cast(disch:=first|omega|(apply id;push_cast;try omega))[↓lit2]
 exact .row (.ids (zW0 _ _))
theorem jZ2:jF (pp G) H0 69 [] (nsV qG):=by
 refine cE G fir69 Z7 (wU2 ..) λh=>?_;rw[pO2]
 push_cast(disch:=first|omega|(apply id;push_cast;try omega))[↓lit5]
 exact .row (.ids (zW0 _ _))
def qH:Pr:=.mk 0 [] [] zE []
mutual
def mkP:Rb→Nat→Pr
 | .mk k a b e l,d=>
  let h:=if d<6 then (cQ l (d+1)).getD 0 qH else qH
  let c:=if d<6 then (cQ l (d+1)).getD 1 qH else qH
  let v:=jQ.getD (jU a 3).toNat []
  let s:=jG.getD (jU a 2).toNat []
  let df:=qG.getD (jU a 5).toNat []
  let f:=dB0.getD (jU b 3).toNat []
  let w:=jU k 20
  if w=0∨w=1 then .mk 1 f [] zE []
  else if w=2∨w=3 then .mk 1 f v zE []
  else if w=4 then .mk 2 [] v (uO0 jQ e) []
  else if w=5∨w=6 then .mk 3 s [] zE [h]
  else if w=7 then .mk 4 s [] zE []
  else if w=8 then .mk 5 s [] zE []
  else if w=9 then .mk 6 s (jG.getD (jU b 2).toNat []) zE []
  else if w=10 then .mk 7 [] [] zE [h]
  else if w=11 then .mk 8 [] [] zE []
  else if w=12 then .mk 9 [] [] (uO0 jQ e) [h,c]
  else if w=13 then .mk 10 [] [] zE [h,c]
  else if w=14∨w=15 then .mk 11 [] [] zE [h,c]
  else if w=16 then .mk 13 df [] zE []
  else if w=17 then qH
  else .mk 12 [] [] zE [h,c]
def cQ:List Rb→Nat→List Pr
 | [],_=>[]
 | x :: l,d=>mkP x d :: cQ l d
end
theorem qZ1 (d:Nat):∀ l:List Rb,cQ l d=l.map λx=>mkP x d
 | []=>rfl
 | x :: l=>by rw[cQ,qZ1 d l];rfl
def iC0 (l:List Rb)(i d:Nat):Pr:=if d<6 then (cQ l (d+1)).getD i qH else qH
mutual
def smB:Rb→Zb
 | .mk _ _ _ e l=>decide (l.length<1000000000000000)&&(decide (e.length<1000000000000000)&&(smRs e&&smBs l))
def smBs:List Rb→Zb
 | []=>true
 | x :: l=>smB x&&smBs l
end
theorem zL0:∀ {l:List Rb},smBs l=true→∀ x∈l,smB x=true
 | [],_,x,a=>by cases a
 | y :: l,h,x,a=>by
  simp only[smBs,Z5] at h
  rcases List.mem_cons.1 a with rfl|a
  ·exact h.1
  ·exact zL0 h.2 x a
theorem mE1 (k a b:Int)(e:List Ra)(l:List Rb)(i d:Nat)(hi:i<2)(t:d≤6)(n:l.length<1000000000000000)(p:∀ x∈l,d<6→jF (pp G) H0 70 [rbV x,.int .i64 ((d+1:Nat):Int)] (prV (mkP x (d+1)))) :
  jF (pp G) H0 102 [rbV (.mk k a b e l),.int .i64 i,.int .i64 d] (prV (iC0 l i d)):=by
 have s:iC0 l i d=(if d<6 then (match l[i]? with|some x=>mkP x (d+1)|none=>qH) else qH):=by
  rw[iC0,qZ1,List.getD_eq_getElem?_getD,List.getElem?_map]
  cases l[i]?<;>rfl
 rw[s]
 have c:∀ σ,FzV (pp G).P 1 σ (.agg ⟨[.int .i64 0,.string (Tx []),.string (Tx []),.int .i64 0,.int .i64 0,.string (Tx []),.slice none 0 0,.slice none 0 0]⟩) (prV qH):=λσ=>
  .agg (.cons (.id rfl) (.cons (.id rfl) (.cons (.id rfl) (.cons (.id rfl) (.cons (.id rfl) (.cons (.id rfl) (.cons (zX0 G _ _) (.cons (qY1 G _ _) .nil))))))))
 refine cE G fT3 Z7 (jO1 ..) λq=>?_;rw[yQ2]
 by_cases h:(i:Int)<l.length
 ·obtain ⟨x,j⟩:=jT (l:=l) (i:=i) Z0
  have r:=zS0 j
  have m:i*5+5≤l.length*5:=Z0
  rw[j]
  by_cases g:d<6
  ·rw[if_pos g]
   have f:(d:Int)<6:=Z0
   have o:IntKind.i64.wrap ((d:Int)+1)=((d+1:Nat):Int):=by rw[wrap_i64 Z0 Z0];omega
   refine S6 h f r m @Z4 o ?_
   refine dK (p x (List.mem_of_getElem? j) g) ?_
   refine S0 ?_
   exact .id (lZ1 _ H0q _)
  ·rw[if_neg g]
   have f:¬ (d:Int)<6:=Z0
   refine S2 h f ?_
   exact c _
 ·have j:l[i]?=none:=List.getElem?_eq_none Z0
  rw[j]
  have e:(if d<6 then qH else qH)=qH:=by split<;>rfl
  rw[e]
  refine S1 h ?_
  exact c _
theorem rowP1 (x:Pr)(σ:jA):bsD (qq.m 78) (slT prog 78) 1 [(0,prV x)] σ=some (Rw true 80 1 (prCs [x]),σ):=by
 rw[gG3];cases x;kernel_rfl
theorem rowP2 (x y:Pr)(σ:jA):bsD (qq.m 78) (slT prog 78) 2 [(0,prV x),(1,prV y)] σ=some (Rw true 80 2 (prCs [x,y]),σ):=by
 cases x;cases y;kernel_rfl
theorem zJ2 {i:Int}(h:0≤i∧i<3):(nss jQ)[i.toNat]?=some (.string (Tx (jQ.getD i.toNat []))):=qK0 (by show _<3;omega)
theorem dK2 {i:Int}(h:0≤i∧i<3):(nss dB0)[i.toNat]?=some (.string (Tx (dB0.getD i.toNat []))):=qK0 (by show _<3;omega)
theorem dZ0 {i:Int}(h:0≤i∧i<2):(nss jG)[i.toNat]?=some (.string (Tx (jG.getD i.toNat []))):=qK0 (by show _<2;omega)
theorem cN2 {i:Int}(h:0≤i∧i<5):(nss qG)[i.toNat]?=some (.string (Tx (qG.getD i.toNat []))):=qK0 (by show _<5;omega)
def mkW (w : Int) (b : Int) (e : List Ra) (v s df : List Zu) (h a : Pr) : Pr :=
  if w=0∨w=1 then .mk 1 (dB0.getD (jU b 3).toNat []) [] zE []
  else if w=2∨w=3 then .mk 1 (dB0.getD (jU b 3).toNat []) v zE []
  else if w=4 then .mk 2 [] v (uO0 jQ e) []
  else if w=5∨w=6 then .mk 3 s [] zE [h]
  else if w=7 then .mk 4 s [] zE []
  else if w=8 then .mk 5 s [] zE []
  else if w=9 then .mk 6 s (jG.getD (jU b 2).toNat []) zE []
  else if w=10 then .mk 7 [] [] zE [h]
  else if w=11 then .mk 8 [] [] zE []
  else if w=12 then .mk 9 [] [] (uO0 jQ e) [h,a]
  else if w=13 then .mk 10 [] [] zE [h,a]
  else if w=14∨w=15 then .mk 11 [] [] zE [h,a]
  else if w=16 then .mk 13 df [] zE []
  else if w=17 then qH
  else .mk 12 [] [] zE [h,a]
theorem mkP_w (k a b:Int)(e:List Ra)(l:List Rb)(d:Nat):mkP (.mk k a b e l) d=mkW (jU k 20) b e (jQ.getD (jU a 3).toNat []) (jG.getD (jU a 2).toNat []) (qG.getD (jU a 5).toNat []) (iC0 l 0 d) (iC0 l 1 d):=by
 rw[mkP];rfl
end
end Go.Proofs.YtklapbhlhjdijaaGreatDoor
namespace Go.Proofs.YtklapbhlhjdijaaGreatDoor
open _root_.Go.Proofs.Tryz (prog)
open Go Go.RowKit Go.Ev Go.Dv
noncomputable section
attribute [local push_cast] eq_self iff_self
set_option maxRecDepth 100000
variable (G:Nat×Nat)
set_option maxHeartbeats 8000000 in
theorem bK3 (k a b:Int)(e:List Ra)(l:List Rb)(v s df:List Zu)(pa pb:Pr)(w:Int)(hw:0≤w∧w<20)(c:Zb)(hc:c=decide (w=0∨w=1))(hse:smRs e=true)(hel:e.length<1000000000000000)(h:jA)(ha hb:Nat)
  (c1:cells h 1=some (rbC (.mk k a b e l),69,false)) (c2:cells h 2=some ([.int .i64 0,.string (Tx []),.string (Tx []),.int .i64 0,.int .i64 0,.string (Tx []),.slice none 0 0,.slice none 0 0],80,false))
  (c3:cells h ha=some (prC pa,80,false)) (c4:cells h hb=some (prC pb,80,false)) (hl1:h.lo=1) (hl2:3≤h.next) (hla:1≤ha∧1≤hb) {x0 x1 x3 xA xB xC xD xE xF xG xH xI xJ xK xL xM xN xO xP xQ xR xS xT xU xV xW xX xY xZ yC yD yE yF yG yH yI yJ yK yL yM yN yO yP yQ yR yS yT yU yV yW yX yY yZ zA zB zC zD zF zG zH zI zJ zK zL zM zN zO zP zQ zR zS zT zU zV zW zX zY zZ wA wB wC wD wE wF wG wH wI wJ wK wL wM J t B E p y Y L N r P I V M C K R m T Z X F q o H D g A u i f z j:Z6} :
  dc3 (pp G) qq none sP0 ⟨(F133 x0 x1 (.pointer (some ⟨1,0,none⟩)) x3 (.pointer (some ⟨2,0,none⟩)) (.string (Tx v)) (.string (Tx s)) (.string (Tx df)) (.pointer (some ⟨ha,0,none⟩)) (.pointer (some ⟨hb,0,none⟩)) xA xB xC xD xE xF xG xH xI xJ xK xL xM xN xO xP xQ xR xS xT xU xV xW xX xY xZ (.int .i64 w) (.bool c) yC yD yE yF yG yH yI yJ yK yL yM yN yO yP yQ yR yS yT yU yV yW yX yY yZ zA zB zC zD zF zG zH zI zJ zK zL zM zN zO zP zQ zR zS zT zU zV zW zX zY zZ wA wB wC wD wE wF wG wH wI wJ wK wL wM J t B E p y Y L N r P I V M C K R m T Z X F q o H D g A u i f z j),[],h⟩
   (@kR ⟨uS 0 (bV (λs1=>dc3 (pp G) qq none sO0 s1 (@kR ⟨jR prog [.cell 4 80] (λv' σ'=>FzV prog 1 σ' v' (prV (mkW w b e v s df pa pb)))⟩)) (jR prog [.cell 4 80] (λv' σ'=>FzV prog 1 σ' v' (prV (mkW w b e v s df pa pb)))))⟩):=by
 have hws:w=0∨w=1∨w=2∨w=3∨w=4∨w=5∨w=6∨w=7∨w=8∨w=9∨w=10∨w=11∨w=12∨w=13∨w=14∨w=15∨w=16∨w=17∨w=18∨w=19:=Z0
 have d:=gR3 G jQ Z1 e hse hel
 have hb3:=uR (a:=b) (n:=3) Z0
 have hb2:=uR (a:=b) (n:=2) Z0
 have ga:=dK2 hb3
 have gs:=dZ0 hb2
 have hnA:(nss dB0).length=3:=rfl
 have hnS:(nss jG).length=2:=rfl
 obtain ⟨x,hxe⟩:∃ x,x=uO0 jQ e:=⟨_,rfl⟩
 rcases hws with rfl|rfl|rfl|rfl|rfl|rfl|rfl|rfl|rfl|rfl|rfl|rfl|rfl|rfl|rfl|rfl|rfl|rfl|rfl|rfl
 all_goals
  first|(obtain rfl:c=true:=hc)|(obtain rfl:c=false:=hc)
  unfold mkW
  rw[← hxe] at d ⊢
  rw[kU1]
  repeat' (first
   | (with_reducible (refine And.intro ?_ ?_))
   | (refine dK (jG0 G b 3 Z0 Z0) ?_)
   | (refine dK (jG0 G b 2 Z0 Z0) ?_)
   | (refine dK (fJ0 G) ?_)
   | (refine dK (fN1 G) ?_)
   | (refine dK (d) ?_)
   | rw[kS1]
   | rw[kR1]
   | rw[kQ1]
   | rw[kT1]
   | simp(disch:=first|omega|(apply id;simp only[push_cast];try omega))only[push_cast,simprocAttr,c1,c2,c3,c4,hl1,↓litA,↓lit2,↓lit3,ga,gs,hnA,hnS,nZ0,↓rowP1,↓rowP2,true_or,or_true,or_self,Int.reduceEq,show nsV jG=Rw false eS 2 (nss jG) from rfl])
  all_goals (refine .agg ?_;repeat' (first|exact FzL.nil|apply FzL.cons|exact FzV.id rfl|exact zX0 G _ _|exact qY1 G _ _|exact FzV.row (FzL.ids (fZ0 _ Z1 _))|exact FzV.id (cM0 _ Z1 ..)))
set_option maxHeartbeats 2000000 in
theorem mR1:∀ (x:Rb) (d:Nat),d≤6→smB x=true→jF (pp G) H0 70 [rbV x,.int .i64 d] (prV (mkP x d))
 | .mk k a b e l,d,hd,hs=>by
  simp only[smB,Z5,decide_eq_true_eq] at hs
  obtain ⟨i,m,u,q⟩:=hs
  have y:∀ x∈l,d<6→jF (pp G) H0 70 [rbV x,.int .i64 ((d+1:Nat):Int)] (prV (mkP x (d+1))):=λx C z=>mR1 x (d+1) Z0 (zL0 q x C)
  have p0:jF (pp G) H0 102 [rbV (.mk k a b e l),.int .i64 0,.int .i64 d] (prV (iC0 l 0 d)):=mE1 G k a b e l 0 d Z0 hd i y
  have I:jF (pp G) H0 102 [rbV (.mk k a b e l),.int .i64 1,.int .i64 d] (prV (iC0 l 1 d)):=mE1 G k a b e l 1 d Z0 hd i y
  rw[mkP_w]
  have s:=uR (a:=a) (n:=3) Z0
  have p:=uR (a:=a) (n:=2) Z0
  have t:=uR (a:=a) (n:=5) Z0
  have B:=zJ2 s
  have A:=dZ0 p
  have J:=cN2 t
  have g:=uR (a:=k) (n:=20) Z0
  have r:nsV jQ=Rw false eS 3 (nss jQ):=rfl
  have o:nsV jG=Rw false eS 2 (nss jG):=rfl
  have v:nsV qG=Rw false eS 5 (nss qG):=rfl
  have D:(nss jQ).length=3:=rfl
  have K:(nss jG).length=2:=rfl
  have E:(nss qG).length=5:=rfl
  have f:=λh L M c F=>@bK3 G k a b e l (jQ.getD (jU a 3).toNat []) (jG.getD (jU a 2).toNat []) (qG.getD (jU a 5).toNat []) (iC0 l 0 d) (iC0 l 1 d) (jU k 20) g c F u m h L M
  have j:=jG0 G k 20 Z0 Z0
  generalize jU k 20=w at g f j ⊢
  refine cE G fir70 Z7 (iX2 ..) λH=>?_;rw[pN2]
  refine S0 ?_
  refine dK (fN1 G) ?_
  refine S0 ?_
  refine dK (jG0 G a 3 Z0 Z0) ?_
  refine S3 r B D ?_
  refine dK (fJ0 G) ?_
  refine S0 ?_
  refine dK (jG0 G a 2 Z0 Z0) ?_
  refine S3 o A K ?_
  refine dK (jZ2 G) ?_
  refine S0 ?_
  refine dK (jG0 G a 5 Z0 Z0) ?_
  refine S3 v J E ?_
  repeat' (first
   | (with_reducible (refine And.intro ?_ ?_))
   | (refine dK (p0) ?_)
   | (refine dK (I) ?_)
   | simp(disch:=first|omega|(apply id;simp only[push_cast];try omega))only[push_cast,simprocAttr])
  all_goals (
   (refine dK (j) ?_)
   by_cases h0:w=0
   ·subst h0
    refine S0 ?_
    refine f _ _ _ true rfl ?_ ?_ ?_ ?_ ?_ ?_ ?_
    iterate 6 exact tH
    ·decide
   ·refine S1 @h0 ?_
    refine f _ _ _ (decide (w=1)) (by simp[h0]) ?_ ?_ ?_ ?_ ?_ ?_ ?_
    iterate 6 exact tH
    ·decide)
end
end Go.Proofs.YtklapbhlhjdijaaGreatDoor
namespace Go.Proofs.YtklapbhlhjdijaaGreatDoor
open _root_.Go.Proofs.Tryz (prog)
open Go Go.RowKit Go.Ev Go.Dv
noncomputable section
attribute [local push_cast] eq_self iff_self
set_option maxRecDepth 100000
variable (G:Nat×Nat)
mutual
def szB:Rb→Nat→Int
 | .mk _ _ _ e l,d=>if 8<d then 1000 else if dS0 e 0≤20 then szBs l d 1 else 1000
def szBs:List Rb→Nat→Int→Int
 | [],_,n=>n
 | x :: l,d,n=>if n≤40 then szBs l d (W (n+szB x (d+1))) else n
end
inductive I60 (x:Rb)(l:List Rb)(d:Nat)(r:Int):Nat→S→Prop
 | mk (i:Nat) (iv n:Int) (h:jA) {x0 x3 x4 x7 x8 x9 xA xB xC xD xE xF xG xH xI xJ xK xL xM xN xO xP xQ xR xS xT xU xV xW xX xY xZ yA:Z6} (hiv:iv=(i:Int)) (hi:i≤l.length) (hr:szBs (l.drop i) d n=r) (c1:cells h 1=some (rbC x,69,false)) (hl1:h.lo=1) (hl2:2≤h.next) :
  I60 x l d r (l.length-i) ⟨(F37 x0 (.int .i64 d) (.pointer (some ⟨1,0,none⟩)) x3 x4 (.int .i64 n) (.int .i64 iv) x7 x8 x9 xA xB xC xD xE xF xG xH xI xJ xK xL xM xN xO xP xQ xR xS xT xU xV xW xX xY xZ yA),[],h⟩
theorem iM1:∀ (x:Rb) (d:Nat),d≤9→smB x=true→jF (pp G) H0 29 [rbV x,.int .i64 d] (.int .i64 (szB x d))
 | .mk k a b e l,d,hd,hs=>by
  simp only[smB,Z5,decide_eq_true_eq] at hs
  obtain ⟨I,u,z,w⟩:=hs
  have J:∀ x∈l,d≤8→jF (pp G) H0 29 [rbV x,.int .i64 ((d+1:Nat):Int)] (.int .i64 (szB x (d+1))):=λx p D=>iM1 x (d+1) Z0 (zL0 w x p)
  have E:=few_f G e u z
  refine cE G fir29 Z7 (wS2 ..) λK=>?_;rw[rN2]
  rw[szB]
  by_cases C:8<d
  ·rw[if_pos C]
   have o:(8:Int)<d:=Z0
   refine S1 o ?_
   exact .id rfl
  rw[if_neg C]
  have o:¬ (8:Int)<d:=Z0
  refine S1 o ?_
  refine dK (E) ?_
  by_cases g:dS0 e 0≤20
  rotate_left
  ·rw[if_neg g]
   refine S1 g ?_
   exact .id rfl
  rw[if_pos g]
  refine S1 g ?_
  obtain ⟨r,c⟩:∃ r,r=szBs l d 1:=⟨_,rfl⟩
  rw[← c]
  refine WD.loop4 (q:=qq) (jV G) Z7 (I60 (.mk k a b e l) l d r) ?_ _ _ (I60.mk 0 0 1 _ rfl (Nat.zero_le _) c.symm tH rfl tH)
  clear c
  intro m P F
  cases F with|mk i N n h y hi c s f M=>
  subst y
  rw[gH1]
  by_cases j:(i:Int)<l.length
  ·obtain ⟨x,p⟩:=jT (l:=l) (i:=i) Z0
   have v:l.drop i=x :: l.drop (i+1):=by rw[List.drop_eq_getElem_cons Z0];congr 1;exact (List.getElem?_eq_some_iff.1 p).2
   rw[v,szBs] at c
   by_cases t:n≤40
   ·rw[if_pos t] at c
    have L:=zS0 p
    have A:i*5+5≤l.length*5:=Z0
    have H:IntKind.i64.wrap ((d:Int)+1)=((d+1:Nat):Int):=by rw[wrap_i64 Z0 Z0];omega
    refine S8 j t s f L A H @Z4 ?_
    refine dK (J x (List.mem_of_getElem? p) Z0) ?_
    refine S0 ?_
    exact ⟨_,Z0,I60.mk (i+1) _ _ _ Z2 Z0 c (tH1 s) (tH1 f) tH⟩
   ·rw[if_neg t] at c
    subst c
    refine S4 j t s f ?_
    rw[eF0]
    refine S0 ?_
    exact .id rfl
  ·have B:i=l.length:=Z0
   subst B
   rw[List.drop_length,szBs] at c
   subst c
   refine S3 j s f ?_
   rw[eF0]
   refine S0 ?_
   exact .id rfl
 termination_by x=>SizeOf.sizeOf x
 decreasing_by
  have:=List.sizeOf_lt_of_mem p
  simp at this ⊢
  omega
def shV (v s:Int)(l:List Rb):Z6:=.agg ⟨[.int .i64 v,.int .i64 s,Rw false erb l.length (rbCs l)]⟩
def sumB:List Rb→Int→Int
 | [],n=>n
 | x :: l,n=>sumB l (W (n+szB x 0))
def fewB (l:List Rb):Zb:=decide (l.length≤5)&&decide (sumB l 0≤40)
inductive I37 (v s:Int)(l:List Rb)(r:Int):Nat→S→Prop
 | mk (i:Nat) (iv n:Int) (h:jA) {x0 x2 x5 x6 x7 x8 x9 xA xB xC xD xE xF xG xH xI xJ xK xL xM xN xO xP xQ xR:Z6} (hiv:iv=(i:Int)) (hi:i≤l.length) (hr:sumB (l.drop i) n=r) (c1:cells h 1=some ([.int .i64 v,.int .i64 s,Rw false erb l.length (rbCs l)],24,false)) (hl1:h.lo=1) (hl2:2≤h.next) :
  I37 v s l r (l.length-i) ⟨(F28 x0 (.pointer (some ⟨1,0,none⟩)) x2 (.int .i64 n) (.int .i64 iv) x5 x6 x7 x8 x9 xA xB xC xD xE xF xG xH xI xJ xK xL xM xN xO xP xQ xR),[],h⟩
theorem fW3 (v s:Int)(l:List Rb)(u:l.length<1000000000000000)(j:smBs l=true):jF (pp G) H0 12 [shV v s l] (.bool (fewB l)):=by
 refine cE G fir12 Z7 (wV2 ..) λy=>?_;rw[rS2]
 unfold shV
 refine S0 ?_
 refine WD.loop4 (q:=qq) (jV G) Z7 (I37 v s l (sumB l 0)) ?_ _ _ (I37.mk 0 0 0 _ rfl (Nat.zero_le _) rfl tH rfl tH)
 intro m B t
 cases t with|mk i A n h k hi e d a z=>
 subst k
 rw[gQ1]
 by_cases b:(i:Int)<l.length
 ·obtain ⟨x,f⟩:=jT (l:=l) (i:=i) Z0
  have g:l.drop i=x :: l.drop (i+1):=by rw[List.drop_eq_getElem_cons Z0];congr 1;exact (List.getElem?_eq_some_iff.1 f).2
  rw[g,sumB] at e
  have w:=zS0 f
  have o:i*5+5≤l.length*5:=Z0
  refine S6 b d a w o @Z4 ?_
  refine dK (iM1 G x 0 Z0 (zL0 j x (List.mem_of_getElem? f))) ?_
  refine S0 ?_
  exact ⟨_,Z0,I37.mk (i+1) _ _ _ Z2 Z0 e (tH1 d) (tH1 a) tH⟩
 ·have p:i=l.length:=Z0
  subst p
  rw[List.drop_length,sumB] at e
  unfold fewB
  rw[← e]
  refine S3 b d a ?_
  rw[gP1]
  by_cases r:l.length≤5
  ·have c:(l.length:Int)≤5:=Z0
   rw[decide_eq_true r]
   refine S4 d a c @Bool.true_and ?_
   exact .id rfl
  ·have c:¬ (l.length:Int)≤5:=Z0
   rw[decide_eq_false r]
   refine S4 d a c @Bool.false_and ?_
   exact .id rfl
abbrev eVr:Nat:=119
abbrev eDf:Nat:=82
def vrs (l:List (List Zu×Int)):List Z6:=l.flatMap λx=>[Value.string (Tx x.1),.int .i64 x.2]
def dfs (l:List (List Zu×Pr)):List Z6:=l.flatMap λx=>Value.string (Tx x.1) :: prC x.2
theorem fC0 (l:List (List Zu×Int)):(vrs l).length=l.length*2:=by
 induction l with
 | nil=>rfl
 | cons x l h=>rw[vrs,List.flatMap_cons,List.length_append,← vrs,h,List.length_cons];simp;omega
theorem lL0 (l:List (List Zu×Pr)):(dfs l).length=l.length*9:=by
 induction l with
 | nil=>rfl
 | cons x l h=>rw[dfs,List.flatMap_cons,List.length_append,← dfs,h,List.length_cons];simp[cL];omega
theorem nN2 (a b:List (List Zu×Int)):vrs (a++b)=vrs a++vrs b:=by simp[vrs]
theorem jX2 (a b:List (List Zu×Pr)):dfs (a++b)=dfs a++dfs b:=by simp[dfs]
theorem lH2 (n:Nat)(l:List (List Zu×Int)):scL n (vrs l)=true:=by
 induction l with
 | nil=>rfl
 | cons x l a=>rw[vrs,List.flatMap_cons,← vrs];exact qK λv c=>(List.mem_append.1 c).elim (λh=>qJ (l:=[Value.string (Tx x.1),.int .i64 x.2]) rfl v h) (qJ a v)
theorem mU3 (n:Nat)(a:0<n)(l:List (List Zu×Pr)):scL n (dfs l)=true:=by
 induction l with
 | nil=>rfl
 | cons x l c=>rw[dfs,List.flatMap_cons,← dfs];exact qK λv b=>(List.mem_append.1 b).elim (λh=>qJ (l:=Value.string (Tx x.1) :: prC x.2) (by rw[scL,nC0 n a];rfl) v h) (qJ c v)
structure Pg where
 v:List (List Zu×Int)
 s:List (List Zu)
 d:List (List Zu×Pr)
def pgC (p:Pg):List Z6:=[Rw false eVr p.v.length (vrs p.v),Rw false eS p.s.length (nss p.s),Rw false eDf p.d.length (dfs p.d)]
def pgV (p:Pg):Z6:=.agg ⟨pgC p⟩
theorem gI3 (n:Nat)(h:0<n)(p:Pg):Ev.sc n (pgV p)=true:=by
 simp[pgV,pgC,Ev.sc,scL,Rw,h,lH2,mU3 n h,zW0]
def valF (v:Int)(i:Nat):Int:=IntKind.i64.wrap (jU (IntKind.i64.wrap (v.tdiv ((i:Int)+1))) 9-4)
def varL (v:Int):List (List Zu×Int):=(List.range 3).map λi=>(jQ.getD i [],valF v i)
def kM0 (l:List Rb)(i:Nat):Z8 Pr:=l[i]?.map λx=>mkP x 0
def defL (l:List Rb):List (List Zu×Pr):=(List.range 5).map λi=>(qG.getD i [],(kM0 l i).getD qH)
theorem zK2 (v:Int){i:Nat}(h:i<3):(varL v)[i]?=some (jQ.getD i [],valF v i):=by
 rw[varL,List.getElem?_map,List.getElem?_range h];rfl
theorem wY1 (l:List Rb){i:Nat}(h:i<5):(defL l)[i]?=some (qG.getD i [],(kM0 l i).getD qH):=by
 rw[defL,List.getElem?_map,List.getElem?_range h];rfl
theorem rowV1 (s:List Zu)(v:Int)(σ:jA):bsD (qq.m 72) (slT prog 72) 1 [(0,.agg ⟨[.string (Tx s),.int .i64 v]⟩)] σ=some (Rw true eVr 1 (vrs [(s,v)]),σ):=Z7
def dfC (s:List Zu)(o:Z8 Pr):List Z6:=.string (Tx s) :: (match o with|some p=>prC p|none=>[.int .i64 0,.string (Tx []),.string (Tx []),.int .i64 0,.int .i64 0,.string (Tx []),.slice none 0 0,.slice none 0 0])
theorem rowD1 (s:List Zu)(p:Pr)(σ:jA):bsD (qq.m 74) (slT prog 74) 1 [(0,.agg ⟨.string (Tx s) :: prC p⟩)] σ=some (Rw true eDf 1 (.string (Tx s) :: prC p),σ):=by
 cases p;kernel_rfl
theorem rowD0 (s:List Zu)(σ:jA):bsD (qq.m 74) (slT prog 74) 1 [(0,.agg ⟨[.string (Tx s),.int .i64 0,.string (Tx []),.string (Tx []),.int .i64 0,.int .i64 0,.string (Tx []),.slice none 0 0,.slice none 0 0]⟩)] σ=some (Rw true eDf 1 [.string (Tx s),.int .i64 0,.string (Tx []),.string (Tx []),.int .i64 0,.int .i64 0,.string (Tx []),.slice none 0 0,.slice none 0 0],σ):=Z7
theorem lM0 (s:List Zu)(o:Z8 Pr):(dfC s o).length=9:=by cases o<;>simp[dfC,cL]
theorem jY2 (s:List Zu)(o:Z8 Pr):(dfC s o).all one=true:=by
 cases o with
 | none=>rfl
 | some p=>cases p;rfl
theorem mU2 (n:Nat)(h:0<n)(σ:jA)(s:List Zu)(o:Z8 Pr):FzL (pp G).P n σ (dfC s o) (dfs [(s,o.getD qH)]):=by
 have e:dfs [(s,o.getD qH)]=.string (Tx s) :: prC (o.getD qH):=by simp[dfs]
 rw[e]
 refine .cons (.id rfl) ?_
 cases o with
 | some p=>exact .ids (nC0 n h p)
 | none=>exact .cons (.id rfl) (.cons (.id rfl) (.cons (.id rfl) (.cons (.id rfl) (.cons (.id rfl) (.cons (.id rfl) (.cons (zX0 G _ _) (.cons (qY1 G _ _) .nil)))))))
def gD0:List (List Zu)→List Zu→Nat→Int
 | [],_,_=>-1
 | x :: l,s,i=>if x=s then (i:Int) else gD0 l s (i+1)
def bM (l:List (List Zu))(s:List Zu):Int:=gD0 l s 0
theorem wV1:∀ (l:List (List Zu)) (s:List Zu) (i:Nat),-1≤gD0 l s i∧gD0 l s i<i+l.length∨gD0 l s i = -1
 | [],s,i=>.inr rfl
 | x :: l,s,i=>by
  rw[gD0]
  by_cases h:x=s
  ·rw[if_pos h,List.length_cons];left;omega
  ·rw[if_neg h,List.length_cons]
   have:=wV1 l s (i+1)
   omega
theorem nV0:∀ (l:List (List Zu)) (s:List Zu) (i:Nat),s∈l→0≤gD0 l s i
 | [],s,i,h=>by cases h
 | x :: l,s,i,h=>by
  rw[gD0]
  by_cases e:x=s
  ·rw[if_pos e];omega
  ·rw[if_neg e]
   rcases List.mem_cons.1 h with h|h
   ·exact absurd h.symm e
   ·exact nV0 l s _ h
theorem bP2 (l:List (List Zu))(s:List Zu):-1≤bM l s∧bM l s<l.length∨bM l s = -1:=by have:=wV1 l s 0;unfold bM;omega
theorem nW0 {l:List (List Zu)}{s:List Zu}(h:s∈l):0≤bM l s:=nV0 l s 0 h
theorem eT0 {l:List (List Zu)}{s:List Zu}{i:Nat}(h:i<l.length):gD0 (l.drop i) s i=if l.getD i []=s then (i:Int) else gD0 (l.drop (i+1)) s (i+1):=by
 rw[List.drop_eq_getElem_cons h,gD0,List.getD_eq_getElem?_getD,List.getElem?_eq_getElem h]
 rfl
inductive I85 (l:List (List Zu))(s:List Zu):Nat→S→Prop
 | mk (i:Nat) (iv:Int) (h:jA) {x2 x3 x4 x6 x7 x8 x9 xA xB xC xD xE xF xG xH xI:Z6} (hiv:iv=(i:Int)) (hi:i≤l.length) (hn:gD0 (l.drop i) s i=bM l s) (hl1:h.lo=1) (hl2:1≤h.next) :
  I85 l s (l.length-i) ⟨(F19 (nsV l) (.string (Tx s)) x2 x3 x4 (.int .i64 iv) x6 x7 x8 x9 xA xB xC xD xE xF xG xH xI),[],h⟩
theorem cI0 (l:List (List Zu))(s:List Zu)(p:l.length<1000000000000000):bW (pp G) H0 63 [nsV l,.string (Tx s)] (λd=>∃ k:Int,d=.int .i64 k∧(-1≤k∧k<l.length)∧((s∈l→0≤k)∧k=bM l s)):=by
 refine cY G fir63 Z7 (dL0 ..) λr=>?_;rw[pU2]
 refine S0 ?_
 refine WD.loop4 (q:=qq) (jV G) Z7 (I85 l s) ?_ _ _ (I85.mk 0 0 _ rfl (Nat.zero_le _) rfl rfl tH)
 intro m v n
 cases n with|mk i u h g hi e c t=>
 subst g
 rw[yI1]
 unfold nsV
 by_cases a:(i:Int)<l.length
 ·have j:=qK0 (l:=l) (i:=i) Z0
  by_cases f:l.getD i []=s
  ·have b:(l.getD i [] == s)=true:=by rw[f];exact beq_self_eq_true s
   refine S5 a j b @Z4 c ?_
   rw[eT0 Z0,if_pos f] at e
   exact ⟨_,⟨_,rfl,Z0,λ_=>by omega,e⟩,.id rfl⟩
  ·have b:(l.getD i [] == s)=false:=beq_eq_false_iff_ne.2 f
   refine S5 a j b @Z4 c ?_
   exact ⟨_,Z0,I85.mk (i+1) _ _ Z2 Z0 (by rw[eT0 Z0,if_neg f] at e;exact e) (tH1 c) tH⟩
 ·refine S1 a ?_
  rw[yH1]
  refine S0 ?_
  rw[List.drop_of_length_le Z0] at e
  exact ⟨_,⟨-1,rfl,Z0,λo=>(by rw[show (-1:Int)=bM l s from e];exact nW0 o),e⟩,.id rfl⟩
inductive I84 (l:List (List Zu)):Nat→S→Prop
 | mk (i:Nat) (iv:Int) (h:jA) {x1 x2 x4 x5 x6 x7 x8 x9 xA xB xC xD xE xF xG xH:Z6} (hiv:iv=(i:Int)) (hi:i≤l.length) (hl1:h.lo=1) (hl2:1≤h.next) :
  I84 l (l.length-i) ⟨(F18 (nsV l) x1 x2 (.int .i64 iv) x4 x5 x6 x7 x8 x9 xA xB xC xD xE xF xG xH),[],h⟩
theorem pF0 (l:List (List Zu))(f:l.length<1000000000000000):bW (pp G) H0 62 [nsV l] (λd=>∃ b:Zb,d=.bool b):=by
 refine cY G fir62 Z7 (zR3 ..) λo=>?_;rw[pV2]
 refine S0 ?_
 refine WD.loop4 (q:=qq) (jV G) Z7 (I84 l) ?_ _ _ (I84.mk 0 0 _ rfl (Nat.zero_le _) rfl tH)
 intro m t n
 cases n with|mk i s h g hi e r=>
 subst g
 rw[yK1]
 have a:nsV l=Rw false eS l.length (nss l):=rfl
 by_cases c:(i:Int)<l.length
 ·have p:=qK0 (l:=l) (i:=i) Z0
  refine S5 c p @Z4 e a ?_
  rw[← a]
  refine dL (cI0 G l (l.getD i []) f) ?_
  rintro _ ⟨k,rfl,_,_⟩
  refine ⟨rfl,?_⟩
  by_cases j:k=i
  ·refine S1 j ?_
   exact ⟨_,Z0,I84.mk (i+1) _ _ Z2 Z0 (tH1 e) tH⟩
  ·refine S1 j ?_
   exact ⟨_,⟨_,rfl⟩,.id rfl⟩
 ·refine S2 c a ?_
  rw[yJ1]
  refine S0 ?_
  exact ⟨_,⟨_,rfl⟩,.id rfl⟩
abbrev tLw:Nat:=116
def lwC (V h D:List (List Zu))(b:Zb):List Z6:=[nsV V,nsV h,nsV D,.bool b]
theorem eL0 (n:Nat)(h:0<n)(V a D:List (List Zu))(b:Zb):scL n (lwC V a D b)=true:=by simp[lwC,scL,nG0 n h,Ev.sc]
def LwR (σ:jA)(b:Nat)(V h D:List (List Zu))(Q:Z6→Prop)(v:Z6)(σ':jA):Prop:=Q v∧∃ a,σ'=σ.put b (O (lwC V h D a) tLw false)
theorem at_f (V d D l:List (List Zu))(s:List Zu)(f:l.length<1000000000000000)(σ:jA)(b:Nat)(h:Zb)(e:cells σ b=some (lwC V d D h,tLw,false))(n:1≤b)(g:b<σ.next) :
  jH (pp G) H0 99 [.pointer (some ⟨b,0,none⟩),nsV l,.string (Tx s)] σ (LwR σ b V d D λv=>∃ k:Int,v=.int .i64 k∧k=bM l s):=by
 refine jH.wlog λc j m o=>?_;rw[uU] at c;refine jH.cutE (jH.fir4 (q:=qq) (jV G) eC3 Z7 rfl rfl (dM0 ..) (by rw[c];exact (show NGG≤1 by decide)) ?_);rw[iR1]
 unfold lwC at e
 refine S0 ?_
 refine dL (cI0 G l s f) ?_
 rintro _ ⟨k,rfl,_,_,a⟩
 refine ⟨rfl,?_⟩
 by_cases i:k<0
 ·refine S2 i e ?_
  exact ⟨_,_,⟨⟨k,rfl,a⟩,true,rfl⟩,.id rfl,.put1 (by repeat (first|exact jC.refl _ _|assumption|(refine jC.put'' ?_ _ _ (by intro _;first|rfl|omega|(simp only[push_cast] at *;omega)))|(refine jC.add' ?_ _))) g Z0 (cs:=lwC V d D true) (by push_cast(disch:=first|omega|(apply id;push_cast;try omega));first|done|rfl) (.ids (eL0 _ (show 0<σ.next by omega) ..)) rfl⟩
 ·refine S2 i e ?_
  exact ⟨_,_,⟨⟨k,rfl,a⟩,h,rfl⟩,.id rfl,.put1 (by repeat (first|exact jC.refl _ _|assumption|(refine jC.put'' ?_ _ _ (by intro _;first|rfl|omega|(simp only[push_cast] at *;omega)))|(refine jC.add' ?_ _))) g Z0 (cs:=lwC V d D h) e (.ids (eL0 _ (show 0<σ.next by omega) ..)) rfl⟩
theorem qG1:∀ {a b:List Ex},smEs a=true→smEs b=true→smEs (a++b)=true
 | [],b,_,hb=>hb
 | x :: a,b,ha,hb=>by
  simp only[smEs,Z5] at ha
  rw[List.cons_append,smEs,ha.1,qG1 ha.2 hb];rfl
mutual
def lowE (V:List (List Zu)):Ex→Ex
 | .mk k n s l=>.mk k (if k=2 then bM V s else n) [] (wP0 V l)
def wP0 (V:List (List Zu)):List Ex→List Ex
 | []=>[]
 | x :: l=>lowE V x :: wP0 V l
end
theorem cC0 (V:List (List Zu)):∀ l:List Ex,wP0 V l=l.map (lowE V)
 | []=>rfl
 | x :: l=>by rw[wP0,cC0 V l];rfl
theorem gX1 (V:List (List Zu)){l:List Ex}{i:Nat}{x:Ex}(h:l[i]?=some x):wP0 V (l.take (i+1))=wP0 V (l.take i)++[lowE V x]:=by
 rw[jY h,cC0,cC0,List.map_append];rfl
def dM3 (V:List (List Zu))(x:Ex)(kk h:Int)(a:List Zu):Prop:=kk=x.k∧h=(if x.k=2 then bM V x.s else x.n)∧a=[]
inductive I94 (V Sk D:List (List Zu))(σ:jA)(b:Nat)(x:Ex):Nat→S→Prop
 | mk (i : Nat) (iv : Int) (h : jA) (bad : Zb) (kk nn : Int) (ss : List Zu) (q : Z8 Addr) (c : Nat) (ys : List Ex) {x1 x2 x7 x8 x9 xA xB xC xD xE xF xG xH xI xJ xK xL xM xN xO xP xQ xR xS xT xU xV xW xX xY xZ yA yB yC yD yE yF yG yH : Z6} (hiv : iv = (i : Int)) (hi : i ≤ x.l.length)
   (cw:cells h b=some (lwC V Sk D bad,tLw,false)) (c0:cells h σ.next=some (exC x,eE,false)) (c1:cells h (σ.next+1)=some (zex,eE,false))
   (c2:cells h (σ.next+1+1)=some ([.int .i64 kk,.int .i64 nn,.string (Tx ss),.slice q i c],eE,false)) (ho:qY h eE 4 q i c (kY ys)) (hq:∀ k,blk q k→σ.next+3≤k) (hys:ys.length=i∧smEs ys=true) (hye:ys=wP0 V (x.l.take i)) (hh:dM3 V x kk nn ss)
   (g:jC σ h (λk=>k=b)) (hl2:σ.next+3≤h.next) :
  I94 V Sk D σ b x (x.l.length-i) ⟨(F44 (.pointer (some ⟨b,0,none⟩)) x1 x2 (.pointer (some ⟨σ.next,0,none⟩)) (.pointer (some ⟨σ.next+1,0,none⟩)) (.pointer (some ⟨σ.next+1+1,0,none⟩)) (.int .i64 iv) x7 x8 x9 xA xB xC xD xE xF xG xH xI xJ xK xL xM xN xO xP xQ xR xS xT xU xV xW xX xY xZ yA yB yC yD yE yF yG yH),[],h⟩
theorem sH0 (V r D:List (List Zu))(hV:V.length<1000000000000000):∀ (x:Ex),smE x=true→∀ (σ:jA) (b:Nat) (a:Zb) (hc:cells σ b=some (lwC V r D a,tLw,false)) (u:1≤b) (j:b<σ.next),
  jH (pp G) H0 100 [.pointer (some ⟨b,0,none⟩),exV x] σ (LwR σ b V r D λv=>∃ y,v=exV y∧smE y=true∧y=lowE V x)
 | .mk k n s l,hs,σ,b,a,hc,u,j=>by
  simp only[smE,Z5,decide_eq_true_eq] at hs
  have ih:∀ x∈l,∀ (σ:jA) (b:Nat) (a:Zb) (hc:cells σ b=some (lwC V r D a,tLw,false)) (u:1≤b) (j:b<σ.next),jH (pp G) H0 100 [.pointer (some ⟨b,0,none⟩),exV x] σ (LwR σ b V r D λv=>∃ y,v=exV y∧smE y=true∧y=lowE V x):=λx hx=>sH0 V r D hV x (gK0 hs.2 x hx)
  have I:=hc
  unfold lwC at I
  refine jH.wlog λH hH0 hp0 hlo=>?_;rw[uU] at H;refine jH.cutE (jH.fir4 (q:=qq) (jV G) fV3 Z7 rfl rfl (zG3 ..) (by rw[H];exact (show NGG≤1 by decide)) ?_);rw[yS2]
  have hne:¬ b=σ.next:=Z0
  have hne1:¬ b=σ.next+1:=Z0
  have hne2:¬ b=σ.next+1+1:=Z0
  have R : ∀ (h : jA) (a : Zb) (w : Int) {x1 x2 x6 x7 x8 x9 xA xB xC xD xE xF xG xH xI xJ xK xL xM xN xO xP xQ xR xS xT xU xV xW xX xY xZ yA yB yC yD yE yF yG yH : Z6}, cells h b = some (lwC V r D a, tLw, false) → cells h σ.next = some (exC (.mk k n s l), eE, false) → cells h (σ.next + 1) = some (zex, eE, false) →
    cells h (σ.next+1+1)=some ([.int .i64 k,.int .i64 w,.string (Tx []),.slice none 0 0],eE,false)→dM3 V (.mk k n s l) k w []→jC σ h (λk=>k=b)→σ.next+3≤h.next→
    dc3 (pp G) qq none iX0 ⟨(F44 (.pointer (some ⟨b,0,none⟩)) x1 x2 (.pointer (some ⟨σ.next,0,none⟩)) (.pointer (some ⟨σ.next+1,0,none⟩)) (.pointer (some ⟨σ.next+1+1,0,none⟩)) x6 x7 x8 x9 xA xB xC xD xE xF xG xH xI xJ xK xL xM xN xO xP xQ xR xS xT xU xV xW xX xY xZ yA yB yC yD yE yF yG yH),[],h⟩
     (@kR ⟨jR prog [(.cell 4 eE)] (λv σ'=>∃ d F,LwR σ b V r D (λv=>∃ y,v=exV y∧smE y=true∧y=lowE V (.mk k n s l)) d F∧FzV (pp G).P F.next σ' v d∧cJ (pp G).P σ F σ')⟩):=by
   intro h a w
   intros
   rename_i J L Y C X g E
   rw[rY0]
   refine S0 ?_
   refine WD.loop4 (q:=qq) (jV G) Z7 (I94 V r D σ b (.mk k n s l)) ?_ _ _ (I94.mk 0 0 _ a k w [] none 0 [] rfl (Nat.zero_le _) J L Y C (qY.nil _ _ _) (λb j=>by obtain ⟨o,s,e⟩:=j;cases e) ⟨rfl,rfl⟩ rfl X g E)
   clear J L Y C g E X
   intro m s1 hI
   cases hI with|mk i iv h a kk w ss q c ys hiv hi J L Y C ho hq t A X g E=>
   subst hiv
   simp only[Ex.l_mk] at hi A
   have B:h.lo=1:=by rw[g.lo,H]
   rw[rX0]
   have cw':=J
   unfold lwC at cw'
   by_cases M:(i:Int)<l.length
   ·obtain ⟨x,hx⟩:=jT (l:=l) (i:=i) Z0
    have hp:=uQ0 hx
    have hle:i*4+4≤l.length*4:=Z0
    refine S7 M L C hp hle @Z4 B ?_
    refine jE.func (cap:=[]) (ih x (List.mem_of_getElem? hx) h b a J u Z0) ?_
    rintro _ _ ⟨⟨y,rfl,hy,hyE⟩,K,rfl⟩
    push_cast(disch:=first|omega|(apply id;push_cast;try omega))[C,↓rX2]
    have T:jC h (h.put b (O (lwC V r D K) tLw false)) (λk=>k=b):=jC.put _ _ _ λ_=>rfl
    have z:=ho.grew T (λk f e=>by have:=hq k f;omega)
    obtain ⟨a',c',σ',e,o',g',b'⟩:=cM (by_:=56) z Z0 (show h.lo≤h.next by omega) (m:=1) (xs:=kY [y]) (kH0 [y]) (lD0 _) Z0
    rw[← lE0] at o'
    have hn':h.next≤σ'.next:=g'.next
    have hl':σ'.lo=h.lo:=g'.lo
    have w1:cells (h.put b (O (lwC V r D K) tLw false)) b=some (lwC V r D K,tLw,false):=by push_cast(disch:=first|omega|(apply id;push_cast;try omega));first|done|rfl
    have p:∀ k,blk q k→σ.next+3≤k:=hq
    have kw:cells σ' b=_:=g'.cellsE w1 (show b<h.next by omega) (λj=>by have:=p _ j;omega)
    have k0:cells σ' σ.next=_:=g'.cellsE (T.cellsE L Z0 Z0) (show _<h.next by omega) (λj=>by have:=p _ j;omega)
    have k1:cells σ' (σ.next+1)=_:=g'.cellsE (T.cellsE Y Z0 Z0) (show _<h.next by omega) (λj=>by have:=p _ j;omega)
    have k2:cells σ' (σ.next+1+1)=_:=g'.cellsE (T.cellsE C Z0 Z0) (show _<h.next by omega) (λj=>by have:=p _ j;omega)
    have gg:jC σ σ' (λk=>k=b):=(g.tr' T λ_ _ h=>h).tr' g' (λk f j=>by have:=p _ j;omega)
    refine S4 e k2 hl' B ?_
    refine ⟨_,by simp only[Ex.l_mk];omega,I94.mk (i+1) _ _ K kk w ss a' c' (ys++[y]) Z2 (by simp only[Ex.l_mk];omega) ?_ ?_ ?_ ?_ (o'.grew (S:=λk=>k=σ.next+1+1) (by repeat (first|exact jC.refl _ _|assumption|(refine jC.put'' ?_ _ _ (by intro _;first|rfl|omega|(simp only[push_cast] at *;omega)))|(refine jC.add' ?_ _))) (λk f e=>?_)) (λk f=>?_) ⟨by simp[t.1],qG1 t.2 (by rw[smEs,hy];rfl)⟩ (by simp only[Ex.l_mk];rw[gX1 V hx,A,hyE]) X ?_ ?_⟩
    iterate 4 exact (by first|assumption|(push_cast(disch:=first|omega|(apply id;push_cast;try omega))[kw,k0,k1,k2];try omega))
    ·rcases b' k f with f|f
     ·have:=p k f;omega
     ·have f:h.next≤k:=f
      omega
    ·rcases b' k f with f|f
     ·exact p k f
     ·have f:h.next≤k:=f
      omega
    ·exact gg.put' _ _ Z0
    ·exact tH
   ·have hie:i=l.length:=Z0
    subst hie
    refine S2 M L ?_
    rw[rW0]
    have Z:=Y
    unfold zex at Z
    refine S3 Z C B ?_
    have z:=ho.grew (σ':=h.put (σ.next+1) (O [.int .i64 kk,.int .i64 w,.string (Tx ss),.slice q l.length c] eE false)) (S:=λk=>k=σ.next+1) (jC.put _ _ _ λ_=>rfl) (λk f e=>by have:=hq k f;omega)
    refine ⟨exV (.mk kk w ss ys),_,⟨⟨_,rfl,?_,?_⟩,a,rfl⟩,?_,.put1 (g.put' _ _ Z0) j Z0 (cs:=lwC V r D a) ?_ (.ids (eL0 _ (show 0<σ.next by omega) ..)) rfl⟩
    ·rw[smE,t.1,t.2];simp[hs.1]
    ·obtain ⟨h1,h2,h3⟩:=X;rw[lowE,A,h1,h2,h3,List.take_length];rfl
    ·unfold exV exC
     have hf:=qY.fz (P:=(pp G).P) (N:=σ.next) z (by rfl) Z1 Z0 (.ids (jQ0 _ Z0 ys)) (λb j=>by have:=hq b j;omega)
     rw[t.1]
     exact .agg (.cons (.id rfl) (.cons (.id rfl) (.cons (.id rfl) (.cons hf .nil))))
    ·exact (by first|assumption|(push_cast(disch:=first|omega|(apply id;push_cast;try omega))[J];try omega))
  by_cases f:k=2
  ·subst f
   refine S1 I ?_
   refine jE.func (cap:=[]) (at_f G V r D V s hV _ b a ?_ u ?_) ?_
   iterate 2 exact (by first|assumption|(push_cast(disch:=first|omega|(apply id;push_cast;try omega))[lwC];try omega))
   ·rintro _ _ ⟨⟨y,rfl,hy⟩,K,rfl⟩
    refine S0 ?_
    refine R _ K y ?_ ?_ ?_ ?_ ⟨rfl,(by rw[hy];rfl),rfl⟩ ?_ ?_
    ·exact (by first|assumption|(push_cast(disch:=first|omega|(apply id;push_cast;try omega))[lwC];try omega))
    ·exact (by push_cast(disch:=first|omega|(apply id;push_cast;try omega));first|done|rfl)
    ·exact (by push_cast(disch:=first|omega|(apply id;push_cast;try omega));first|done|rfl)
    ·exact tH
    ·exact (by repeat (first|exact jC.refl _ _|assumption|(refine jC.put'' ?_ _ _ (by intro _;first|rfl|omega|(simp only[push_cast] at *;omega)))|(refine jC.add' ?_ _)))
    ·exact tH
  ·refine S2 f I ?_
   refine R _ a n ?_ ?_ ?_ ?_ ⟨rfl,(by show n=if k=2 then _ else n;rw[if_neg f]),rfl⟩ ?_ ?_
   iterate 2 exact (by first|assumption|(push_cast(disch:=first|omega|(apply id;push_cast;try omega))[lwC];try omega))
   ·exact (by push_cast(disch:=first|omega|(apply id;push_cast;try omega));first|done|rfl)
   ·exact tH
   ·exact (by repeat (first|exact jC.refl _ _|assumption|(refine jC.put'' ?_ _ _ (by intro _;first|rfl|omega|(simp only[push_cast] at *;omega)))|(refine jC.add' ?_ _)))
   ·exact tH
 termination_by x=>SizeOf.sizeOf x
def Pr.l:Pr→List Pr
 | .mk _ _ _ _ l=>l
theorem Pr.l_mk (k:Int)(n t:List Zu)(e:Ex)(l:List Pr):Pr.l (.mk k n t e l)=l:=rfl
mutual
def smP (V Sk:List (List Zu)):Pr→Zb
 | .mk k n t e l=>decide (l.length<100000000000)&&(smE e&&((decide (k≠2) || decide (t∈V))&&((decide (k≠6) || decide (n∈Sk))&&((decide (k≠12) || decide (2≤l.length))&&smPs V Sk l))))
def smPs (V Sk:List (List Zu)):List Pr→Zb
 | []=>true
 | x :: l=>smP V Sk x&&smPs V Sk l
end
theorem zK0 {V Sk:List (List Zu)}:∀ {l:List Pr},smPs V Sk l=true→∀ x∈l,smP V Sk x=true
 | [],_,x,a=>by cases a
 | y :: l,h,x,a=>by
  simp only[smPs,Z5] at h
  rcases List.mem_cons.1 a with rfl|a
  ·exact h.1
  ·exact zK0 h.2 x a
theorem fO0:∀ {a b:List Tm},dI a=true→dI b=true→dI (a++b)=true
 | [],b,_,hb=>hb
 | x :: a,b,ha,hb=>by
  simp only[dI,Z5] at ha
  rw[List.cons_append,dI,ha.1,fO0 ha.2 hb];rfl
theorem nM3 (V Sk D l:List (List Zu))(s:List Zu)(b:l.length<1000000000000000)(a:Zb)(d:s∈l) :
  bW (pp G) H0 99 [Rpt 0 (lwC V Sk D a),nsV l,.string (Tx s)] (λv=>∃ k:Int,v=.int .i64 k∧k=bM l s):=by
 refine cY G eC3 Z7 (dM0 ..) λe=>?_;rw[iR1]
 refine S0 ?_
 refine dL (cI0 G l s b) ?_
 rintro _ ⟨k,rfl,_,f,c⟩
 refine ⟨rfl,?_⟩
 have h:¬ k<0:=by have:=f d;omega
 refine S1 h ?_
 exact ⟨_,⟨k,rfl,c⟩,.id rfl⟩
def lowA (V Sk D:List (List Zu))(k:Int)(n t:List Zu):Int:=
 if k=1 then (if t=[] then -1 else bM V t) else if k=2 then bM V t else if k=3∨k=4∨k=5∨k=6 then bM Sk n else if k=13 then bM D n else 0
def lowB (Sk:List (List Zu))(k:Int)(t:List Zu):Int:=if k=6 then bM Sk t else 0
def lowN (k:Int)(n:List Zu):List Zu:=if k=1 then n else []
def lowX (V:List (List Zu))(k:Int)(e:Ex):Ex:=if k=2∨k=9 then lowE V e else .mk 0 0 [] []
mutual
def bK (V Sk D:List (List Zu)):Pr→Tm
 | .mk k n t e l=>.mk k (lowA V Sk D k n t) (lowB Sk k t) (lowN k n) (lowX V k e) (kO V Sk D l)
def kO (V Sk D:List (List Zu)):List Pr→List Tm
 | []=>[]
 | x :: l=>bK V Sk D x :: kO V Sk D l
end
theorem zZ0 (V Sk D:List (List Zu)):∀ l:List Pr,kO V Sk D l=l.map (bK V Sk D)
 | []=>rfl
 | x :: l=>by rw[kO,zZ0 V Sk D l];rfl
theorem eN0 (V Sk D:List (List Zu)){l:List Pr}{i:Nat}{x:Pr}(h:l[i]?=some x):kO V Sk D (l.take (i+1))=kO V Sk D (l.take i)++[bK V Sk D x]:=by
 rw[jY h,zZ0,zZ0,List.map_append];rfl
def qV0 (V Sk D:List (List Zu))(x:Pr)(kk a b:Int)(c:List Zu)(h:Ex):Prop:=match x with | .mk k n t e _=>kk=k∧a=lowA V Sk D k n t∧b=lowB Sk k t∧c=lowN k n∧h=lowX V k e
section
variable {V Sk D:List (List Zu)} {k:Int}
theorem hd_at (h:k=3∨k=4∨k=5)(n t:List Zu)(e:Ex)(l:List Pr):qV0 V Sk D (.mk k n t e l) k (bM Sk n) 0 [] (.mk 0 0 [] []):=by
 rcases h with rfl|rfl|rfl<;>simp[qV0,lowA,lowB,lowN,lowX]
theorem hd_6 (n t:List Zu)(e:Ex)(l:List Pr):qV0 V Sk D (.mk 6 n t e l) 6 (bM Sk n) (bM Sk t) [] (.mk 0 0 [] []):=by simp[qV0,lowA,lowB,lowN,lowX]
theorem hd_9 (n t:List Zu)(e:Ex)(l:List Pr):qV0 V Sk D (.mk 9 n t e l) 9 0 0 [] (lowE V e):=by simp[qV0,lowA,lowB,lowN,lowX]
theorem hd_13 (n t:List Zu)(e:Ex)(l:List Pr):qV0 V Sk D (.mk 13 n t e l) 13 (bM D n) 0 [] (.mk 0 0 [] []):=by simp[qV0,lowA,lowB,lowN,lowX]
theorem hd_o (f:k≠1)(c:k≠2)(a:¬ (k=3∨k=4∨k=5))(d:¬ k=6)(b:¬ k=9)(h:¬ k=13)(n t:List Zu)(e:Ex)(l:List Pr):qV0 V Sk D (.mk k n t e l) k 0 0 [] (.mk 0 0 [] []):=by
 simp only[not_or] at a
 simp[qV0,lowA,lowB,lowN,lowX,f,c,a,d,b,h]
theorem hd_1a (n:List Zu)(e:Ex)(l:List Pr):qV0 V Sk D (.mk 1 n [] e l) 1 (-1) 0 n (.mk 0 0 [] []):=by simp[qV0,lowA,lowB,lowN,lowX]
theorem hd_1b {t:List Zu}(h:¬ t=[])(n:List Zu)(e:Ex)(l:List Pr):qV0 V Sk D (.mk 1 n t e l) 1 (bM V t) 0 n (.mk 0 0 [] []):=by simp[qV0,lowA,lowB,lowN,lowX,h]
theorem hd_2 (n t:List Zu)(e:Ex)(l:List Pr):qV0 V Sk D (.mk 2 n t e l) 2 (bM V t) 0 [] (lowE V e):=by simp[qV0,lowA,lowB,lowN,lowX]
end
inductive I86 (V Sk D:List (List Zu))(σ:jA)(b:Nat)(x:Pr):Nat→S→Prop
 | mk (i : Nat) (iv : Int) (h : jA) (bad : Zb) (kk aa bb : Int) (nm : List Zu) (ek en : Int) (es : List Zu) (el : Z6) (xs : List Ex) (q : Z8 Addr) (c : Nat) (ys : List Tm) {x1 x2 x7 x8 x9 xA xB xC xD xE xF xG xH xI xJ xK xL xM xN xO xP xQ xR xS xT xU xV xW xX xY xZ yA yB yC yD yE yF yG yH yI yJ yK yL yM yN yO yP yQ yR yS yT yU yV yW yX yY yZ zA zB zC zD zF zG zH zI zJ zK zL zM zN zO zP zQ zR zS zT zU zV zW zX zY zZ wA wB wC wD wE wF wG wH wI wJ wK wL wM wN wO wP wQ wR wS wT wU wV wW wX wY wZ uA uB uC uD : Z6} (hiv : iv = (i : Int)) (hi : i ≤ x.l.length)
   (cw:cells h b=some (lwC V Sk D bad,tLw,false)) (c0:cells h σ.next=some (prC x,epr,false)) (c1:cells h (σ.next+1)=some (ztm,etm,false))
   (c2:cells h (σ.next+1+1)=some ([.int .i64 kk,.int .i64 aa,.int .i64 bb,.string (Tx nm),.int .i64 ek,.int .i64 en,.string (Tx es),el,.slice q i c],etm,false))
   (hel:one el=true) (hxs:∀ τ,FzV (pp G).P σ.next τ el (Rw false eE xs.length (kY xs))) (hxe:smE (.mk ek en es xs)=true)
   (ho:qY h etm 9 q i c (qN ys)) (hq:∀ k,blk q k→σ.next+3≤k) (hys:ys.length=i∧dI ys=true) (hyp:ys=kO V Sk D (x.l.take i)) (hh:qV0 V Sk D x kk aa bb nm (.mk ek en es xs))
   (g:jC σ h (λk=>k=b)) (hl2:σ.next+3≤h.next) :
  I86 V Sk D σ b x (x.l.length-i) ⟨(F117 (.pointer (some ⟨b,0,none⟩)) x1 x2 (.pointer (some ⟨σ.next,0,none⟩)) (.pointer (some ⟨σ.next+1,0,none⟩)) (.pointer (some ⟨σ.next+1+1,0,none⟩)) (.int .i64 iv) x7 x8 x9 xA xB xC xD xE xF xG xH xI xJ xK xL xM xN xO xP xQ xR xS xT xU xV xW xX xY xZ yA yB yC yD yE yF yG yH yI yJ yK yL yM yN yO yP yQ yR yS yT yU yV yW yX yY yZ zA zB zC zD zF zG zH zI zJ zK zL zM zN zO zP zQ zR zS zT zU zV zW zX zY zZ wA wB wC wD wE wF wG wH wI wJ wK wL wM wN wO wP wQ wR wS wT wU wV wW wX wY wZ uA uB uC uD),[],h⟩
def PrR (σ:jA)(b:Nat)(V Sk D:List (List Zu))(x:Pr):Z6→jA→Prop:=λv σ'=>∃ d h,LwR σ b V Sk D (λv=>∃ y,v=tmV y∧smT y=true∧y=bK V Sk D x) d h∧FzV (pp G).P h.next σ' v d∧cJ (pp G).P σ h σ'
theorem jY0 (V Sk D:List (List Zu))(σ:jA)(b:Nat)(hb1:1≤b)(f:b<σ.next)(hl0:σ.lo=1)(k:Int)(n t:List Zu)(e:Ex)(l:List Pr)(hll:l.length<100000000000)
  (ih:∀ x∈l,∀ (σ:jA) (b:Nat) (d:Zb) (hc:cells σ b=some (lwC V Sk D d,tLw,false)) (hb1:1≤b) (f:b<σ.next),
   jH (pp G) H0 64 [.pointer (some ⟨b,0,none⟩),prV x] σ (LwR σ b V Sk D λv=>∃ y,v=tmV y∧smT y=true∧y=bK V Sk D x))
  (h:jA) (d:Zb) (kk M J:Int) (K:List Zu) (B z:Int) (A:List Zu) (L:Z6) (xs:List Ex) {x1 x2 x6 x7 x8 x9 xA xB xC xD xE xF xG xH xI xJ xK xL xM xN xO xP xQ xR xS xT xU xV xW xX xY xZ yA yB yC yD yE yF yG yH yI yJ yK yL yM yN yO yP yQ yR yS yT yU yV yW yX yY yZ zA zB zC zD zF zG zH zI zJ zK zL zM zN zO zP zQ zR zS zT zU zV zW zX zY zZ wA wB wC wD wE wF wG wH wI wJ wK wL wM wN wO wP wQ wR wS wT wU wV wW wX wY wZ uA uB uC uD:Z6}
  (R:cells h b=some (lwC V Sk D d,tLw,false)) (T:cells h σ.next=some (prC (.mk k n t e l),epr,false)) (c1:cells h (σ.next+1)=some (ztm,etm,false))
  (H:cells h (σ.next+1+1)=some ([.int .i64 kk,.int .i64 M,.int .i64 J,.string (Tx K),.int .i64 B,.int .i64 z,.string (Tx A),L,.slice none 0 0],etm,false))
  (w:one L=true) (p:∀ τ,FzV (pp G).P σ.next τ L (Rw false eE xs.length (kY xs))) (u:smE (.mk B z A xs)=true) (Z:qV0 V Sk D (.mk k n t e l) kk M J K (.mk B z A xs))
  (g:jC σ h (λk=>k=b)) (I:σ.next+3≤h.next) :
  dc3 (pp G) qq none iN0 ⟨(F117 (.pointer (some ⟨b,0,none⟩)) x1 x2 (.pointer (some ⟨σ.next,0,none⟩)) (.pointer (some ⟨σ.next+1,0,none⟩)) (.pointer (some ⟨σ.next+1+1,0,none⟩)) x6 x7 x8 x9 xA xB xC xD xE xF xG xH xI xJ xK xL xM xN xO xP xQ xR xS xT xU xV xW xX xY xZ yA yB yC yD yE yF yG yH yI yJ yK yL yM yN yO yP yQ yR yS yT yU yV yW yX yY yZ zA zB zC zD zF zG zH zI zJ zK zL zM zN zO zP zQ zR zS zT zU zV zW zX zY zZ wA wB wC wD wE wF wG wH wI wJ wK wL wM wN wO wP wQ wR wS wT wU wV wW wX wY wZ uA uB uC uD),[],h⟩
   (@kR ⟨jR prog [(.cell 4 etm)] (PrR G σ b V Sk D (.mk k n t e l))⟩):=by
 rw[yG1]
 refine S0 ?_
 refine WD.loop4 (q:=qq) (jV G) Z7 (I86 G V Sk D σ b (.mk k n t e l)) ?_ _ _ (I86.mk 0 0 _ d kk M J K B z A L xs none 0 [] rfl (Nat.zero_le _) R T c1 H w p u (qY.nil _ _ _) (λb f=>by obtain ⟨o,s,e⟩:=f;cases e) ⟨rfl,rfl⟩ rfl Z g I)
 clear R T c1 H g I p u w Z
 intro m s1 hI
 cases hI with|mk i iv h d kk M J K B z A L xs q c ys hiv hi R T c1 H w p u ho hq r E Z g I=>
 subst hiv
 simp only[Pr.l_mk] at hi E
 have F:h.lo=1:=by rw[g.lo,hl0]
 rw[yE1]
 have cw':=R
 unfold lwC at cw'
 by_cases X:(i:Int)<l.length
 ·obtain ⟨x,hx⟩:=jT (l:=l) (i:=i) Z0
  have hp:=uJ0 hx
  have hle:i*8+8≤l.length*8:=Z0
  refine S7 X T H hp hle @Z4 F ?_
  refine jE.func (cap:=[]) (ih x (List.mem_of_getElem? hx) h b d R hb1 Z0) ?_
  rintro _ _ ⟨⟨y,rfl,hy,hyE⟩,bd,rfl⟩
  push_cast(disch:=first|omega|(apply id;push_cast;try omega))[H,↓rW2]
  have Y:jC h (h.put b (O (lwC V Sk D bd) tLw false)) (λk=>k=b):=jC.put _ _ _ λ_=>rfl
  have C:=ho.grew Y (λk a e=>by have:=hq k a;omega)
  obtain ⟨a',c',σ',e',o',g',b'⟩:=cM (by_:=120) C Z0 (show h.lo≤h.next by omega) (m:=1) (xs:=qN [y]) (cD [y]) (qG0 _) Z0
  rw[← zG0] at o'
  have hn':h.next≤σ'.next:=g'.next
  have hl':σ'.lo=h.lo:=g'.lo
  have w1:cells (h.put b (O (lwC V Sk D bd) tLw false)) b=some (lwC V Sk D bd,tLw,false):=by push_cast(disch:=first|omega|(apply id;push_cast;try omega));first|done|rfl
  have j:∀ k,blk q k→σ.next+3≤k:=hq
  have kw:cells σ' b=_:=g'.cellsE w1 (show b<h.next by omega) (λf=>by have:=j _ f;omega)
  have k0:cells σ' σ.next=_:=g'.cellsE (Y.cellsE T Z0 Z0) (show _<h.next by omega) (λf=>by have:=j _ f;omega)
  have k1:cells σ' (σ.next+1)=_:=g'.cellsE (Y.cellsE c1 Z0 Z0) (show _<h.next by omega) (λf=>by have:=j _ f;omega)
  have k2:cells σ' (σ.next+1+1)=_:=g'.cellsE (Y.cellsE H Z0 Z0) (show _<h.next by omega) (λf=>by have:=j _ f;omega)
  have gg:jC σ σ' (λk=>k=b):=(g.tr' Y λ_ _ h=>h).tr' g' (λk a f=>by have:=j _ f;omega)
  refine S4 e' k2 hl' F ?_
  refine ⟨_,by simp only[Pr.l_mk];omega,I86.mk (i+1) _ _ bd kk M J K B z A L xs a' c' (ys++[y]) Z2 (by simp only[Pr.l_mk];omega) ?_ ?_ ?_ ?_ w p u (o'.grew (S:=λk=>k=σ.next+1+1) (by repeat (first|exact jC.refl _ _|assumption|(refine jC.put'' ?_ _ _ (by intro _;first|rfl|omega|(simp only[push_cast] at *;omega)))|(refine jC.add' ?_ _))) (λk a e=>?_)) (λk a=>?_) ⟨by simp[r.1],fO0 r.2 (by rw[dI,hy];rfl)⟩ (by simp only[Pr.l_mk];rw[eN0 V Sk D hx,E,hyE]) Z ?_ ?_⟩
  iterate 4 exact (tH4 kw k0 k1 k2)
  ·rcases b' k a with a|a
   ·have:=j k a;omega
   ·have a:h.next≤k:=a
    omega
  ·rcases b' k a with a|a
   ·exact j k a
   ·have a:h.next≤k:=a
    omega
  ·exact gg.put' _ _ Z0
  ·exact tH
 ·have hie:i=l.length:=Z0
  subst hie
  refine S2 X T ?_
  rw[yD1]
  have c1':=c1
  unfold ztm at c1'
  refine S3 c1' H F ?_
  have C:=ho.grew (σ':=h.put (σ.next+1) (O [.int .i64 kk,.int .i64 M,.int .i64 J,.string (Tx K),.int .i64 B,.int .i64 z,.string (Tx A),L,.slice q l.length c] etm false)) (S:=λk=>k=σ.next+1) (jC.put _ _ _ λ_=>rfl) (λk a e=>by have:=hq k a;omega)
  refine ⟨tmV (.mk kk M J K (.mk B z A xs) ys),_,⟨⟨_,rfl,?_,?_⟩,d,rfl⟩,?_,.put1 (g.put' _ _ Z0) f Z0 (cs:=lwC V Sk D d) ?_ (.ids (eL0 _ (show 0<σ.next by omega) ..)) rfl⟩
  ·rw[smT,r.1,r.2,u];simp[hll]
  ·obtain ⟨h1,h2,h3,h4,h5⟩:=Z;rw[bK,E,h1,h2,h3,h4,h5,List.take_length]
  ·unfold tmV
   have hf:=qY.fz (P:=(pp G).P) (N:=σ.next) C (by rfl) Z1 Z0 (.ids (cV _ Z0 ys)) (λb f=>by have:=hq b f;omega)
   rw[uX,r.1]
   exact .agg (.cons (.id rfl) (.cons (.id rfl) (.cons (.id rfl) (.cons (.id rfl) (.cons (.id rfl) (.cons (.id rfl) (.cons (.id rfl) (.cons (p _) (.cons hf .nil)))))))))
  ·exact (tH1 R)
structure PrF (V Sk D:List (List Zu))(σ:jA)(b:Nat)(p:Pr)(h:jA)(bad:Zb)(kk aa bb:Int)(nm:List Zu):Prop where
 cw:cells h b=some (lwC V Sk D bad,tLw,false)
 c0:cells h σ.next=some (prC p,epr,false)
 c1:cells h (σ.next+1)=some (ztm,etm,false)
 c2:cells h (σ.next+1+1)=some ([.int .i64 kk,.int .i64 aa,.int .i64 bb,.string (Tx nm),.int .i64 0,.int .i64 0,.string (Tx []),.slice none 0 0,.slice none 0 0],etm,false)
 g:jC σ h (λk=>k=b)
 hl2:σ.next+3≤h.next
theorem zQ1:smE (.mk 0 0 [] [])=true:=rfl
theorem sK2 (V Sk D:List (List Zu))(hV:V.length<1000000000000000)(C:Sk.length<1000000000000000)(hD:D.length<1000000000000000)(σ:jA)(b:Nat)(a:1≤b)(F:b<σ.next)(f:σ.lo=1)(k:Int)(n t:List Zu)(r p:Int)(q:List Zu)(s:List Ex)(l:List Pr)(j:l.length<100000000000)(hse:smE (.mk r p q s)=true)(hk2:k=2→t∈V)(hk6:k=6→n∈Sk)
  (ih:∀ x∈l,∀ (σ:jA) (b:Nat) (d:Zb) (hc:cells σ b=some (lwC V Sk D d,tLw,false)) (a:1≤b) (F:b<σ.next),
   jH (pp G) H0 64 [.pointer (some ⟨b,0,none⟩),prV x] σ (LwR σ b V Sk D λv=>∃ y,v=tmV y∧smT y=true∧y=bK V Sk D x))
  (h:jA) (d:Zb) (kk:Int) {x1 x2 x6 x7 x8 x9 xA xC xD xE xF xG xH xI xJ xK xL xM xN xO xP xQ xR xS xT xU xV xW xX xY xZ yA yB yC yD yE yF yG yH yI yJ yL yM yN yO yP yQ yR yS yT yU yV yW yX yY yZ zA zB zC zD zF zG zH zI zJ zK zL zM zN zO zP zQ zR zS zT zU zV zW zX zY zZ wA wB wC wD wE wF wG wH wI wJ wK wL wM Y J N T H K wT wU wV I wX X wZ uA R Z uD:Z6} (c:Zb) (i:kk=k) (w:k≠1∧k≠2∧(c=true↔(k=3∨k=4∨k=5))) (hf:PrF V Sk D σ b (.mk k n t (.mk r p q s) l) h d kk 0 0 []) :
  dc3 (pp G) qq none sQ0 ⟨(F117 (.pointer (some ⟨b,0,none⟩)) x1 x2 (.pointer (some ⟨σ.next,0,none⟩)) (.pointer (some ⟨σ.next+1,0,none⟩)) (.pointer (some ⟨σ.next+1+1,0,none⟩)) x6 x7 x8 x9 xA (.int .i64 k) xC xD xE xF xG xH xI xJ xK xL xM xN xO xP xQ xR xS xT xU xV xW xX xY xZ yA yB yC yD yE yF yG yH yI yJ (.bool c) yL yM yN yO yP yQ yR yS yT yU yV yW yX yY yZ zA zB zC zD zF zG zH zI zJ zK zL zM zN zO zP zQ zR zS zT zU zV zW zX zY zZ wA wB wC wD wE wF wG wH wI wJ wK wL wM Y J N T H K wT wU wV I wX X wZ uA R Z uD),[],h⟩
   (@kR ⟨uS 0 (bV (λs1=>dc3 (pp G) qq none iN0 s1 (@kR ⟨jR prog [(.cell 4 etm)] (PrR G σ b V Sk D (.mk k n t (.mk r p q s) l))⟩)) (jR prog [(.cell 4 etm)] (PrR G σ b V Sk D (.mk k n t (.mk r p q s) l))))⟩):=by
 obtain ⟨B,A,L,M,g,hl2⟩:=hf
 obtain ⟨hk1,hk2',w⟩:=w
 have u:h.lo=1:=by rw[g.lo,f]
 have m:=B
 unfold lwC at m
 have hz:∀ τ,FzV (pp G).P σ.next τ (.slice none 0 0) (Rw false eE ([]:List Ex).length (kY [])):=λτ=>zX0 G _ _
 rw[yF1]
 cases c with
 | true=>
  refine S3 m A u ?_
  refine jE.func (cap:=[]) (at_f G V Sk D Sk n C h b d B a Z0) ?_
  rintro _ _ ⟨⟨y,rfl,o⟩,e,rfl⟩
  refine S1 M ?_
  refine jY0 G V Sk D σ b a F f k n t (.mk r p q s) l j ih _ e kk y 0 [] 0 0 [] (.slice none 0 0) [] ?_ ?_ ?_ ?_ rfl hz zQ1 (by rw[i,o];exact hd_at (w.1 rfl) ..) ?_ ?_
  iterate 4 exact (tH2 A L)
  ·exact (jC.put' (jC.tr' g (jC.put h b _ (S:=λk=>k=b) λ_=>rfl) λ_ _ h=>h) _ _ Z0)
  ·exact tH
 | false=>
  have w1:∀ e,cells (h.put b (O (lwC V Sk D e) tLw false)) b=some (lwC V Sk D e,tLw,false):=λe=>by push_cast(disch:=first|omega|(apply id;push_cast;try omega));first|done|rfl
  have gb:∀ e,jC σ (h.put b (O (lwC V Sk D e) tLw false)) (λk=>k=b):=λe=>jC.tr' g (jC.put h b _ (S:=λk=>k=b) λ_=>rfl) λ_ _ h=>h
  by_cases h6:k=6
  ·have hm:=hk6 h6
   subst h6
   refine S3 m A u ?_
   refine jE.lendE (cap:=[]) (args:=[_,_,_]) (nM3 G V Sk D Sk n C d hm) (.cons (.ptr Z0 B (by simp[lwC]) (.ids (eL0 _ Z0 ..))) (.cons (.id (nG0 _ Z0 _)) (.cons (.id rfl) .nil))) ?_
   rintro _ ⟨y,rfl,o⟩
   refine ⟨rfl,?_⟩
   refine S0 ?_
   refine jE.func (cap:=[]) (at_f G V Sk D Sk t C h b d B a Z0) ?_
   rintro _ _ ⟨⟨z,rfl,hzF⟩,e,rfl⟩
   refine S1 M ?_
   refine jY0 G V Sk D σ b a F f 6 n t (.mk r p q s) l j ih _ e kk y z [] 0 0 [] (.slice none 0 0) [] ?_ ?_ ?_ ?_ rfl hz zQ1 (by rw[i,o,hzF];exact hd_6 ..) ?_ ?_
   iterate 4 exact (tH2 A L)
   ·exact ((gb e).put' _ _ Z0).put' _ _ Z0
   ·exact tH
  by_cases h9:k=9
  ·subst h9
   refine S3 m A u ?_
   refine jE.func (cap:=[]) (sH0 G V Sk D hV (.mk r p q s) hse h b d B a Z0) ?_
   rintro _ _ ⟨⟨y,rfl,hy,hyE⟩,e,rfl⟩
   obtain ⟨yk,yn,ys,yl⟩:=y
   unfold exV exC
   refine S1 M ?_
   refine jY0 G V Sk D σ b a F f 9 n t (.mk r p q s) l j ih _ e kk 0 0 [] yk yn ys (Rw false eE yl.length (kY yl)) yl ?_ ?_ ?_ ?_ rfl (λτ=>.id (cM0 _ Z0 ..)) hy (by rw[i,hyE];exact hd_9 ..) ?_ ?_
   iterate 4 exact (tH2 A L)
   ·exact (gb e).put' _ _ Z0
   ·exact tH
  by_cases E:k=13
  ·subst E
   refine S3 m A u ?_
   refine jE.func (cap:=[]) (at_f G V Sk D D n hD h b d B a Z0) ?_
   rintro _ _ ⟨⟨y,rfl,o⟩,e,rfl⟩
   refine S1 M ?_
   refine jY0 G V Sk D σ b a F f 13 n t (.mk r p q s) l j ih _ e kk y 0 [] 0 0 [] (.slice none 0 0) [] ?_ ?_ ?_ ?_ rfl hz zQ1 (by rw[i,o];exact hd_13 ..) ?_ ?_
   iterate 4 exact (tH2 A L)
   ·exact (gb e).put' _ _ Z0
   ·exact tH
  refine S3 h6 h9 E ?_
  refine jY0 G V Sk D σ b a F f k n t (.mk r p q s) l j ih _ d kk 0 0 [] 0 0 [] (.slice none 0 0) [] B A L M rfl hz zQ1 (by rw[i];exact hd_o hk1 hk2' (λh=>by have:=w.2 h;cases this) h6 h9 E ..) g hl2
theorem lW2 (V Sk D:List (List Zu))(r:V.length<1000000000000000)(s:Sk.length<1000000000000000)(hD:D.length<1000000000000000):∀ (x:Pr),smP V Sk x=true→∀ (σ:jA) (b:Nat) (a:Zb) (K:cells σ b=some (lwC V Sk D a,tLw,false)) (g:1≤b) (A:b<σ.next),
  jH (pp G) H0 64 [.pointer (some ⟨b,0,none⟩),prV x] σ (LwR σ b V Sk D λv=>∃ y,v=tmV y∧smT y=true∧y=bK V Sk D x)
 | .mk k n t (.mk ek en es el) l,hs,σ,b,a,K,g,A=>by
  simp only[smP,Z5,Bool.or_eq_true,decide_eq_true_eq] at hs
  obtain ⟨u,w,i,p,Z,z⟩:=hs
  have i:k=2→t∈V:=λh=>i.elim (λN=>absurd h N) id
  have p:k=6→n∈Sk:=λh=>p.elim (λN=>absurd h N) id
  have ih:∀ x∈l,∀ (σ:jA) (b:Nat) (a:Zb) (K:cells σ b=some (lwC V Sk D a,tLw,false)) (g:1≤b) (A:b<σ.next),
   jH (pp G) H0 64 [.pointer (some ⟨b,0,none⟩),prV x] σ (LwR σ b V Sk D λv=>∃ y,v=tmV y∧smT y=true∧y=bK V Sk D x):=λx H=>lW2 V Sk D r s hD x (zK0 z x H)
  clear z
  have f:=K
  unfold lwC at f
  refine jH.wlog λj hH0 hp0 hlo=>?_;rw[uU] at j;refine jH.cutE (jH.fir4 (q:=qq) (jV G) fir64 Z7 rfl rfl (iZ2 ..) (by rw[j];exact (show NGG≤1 by decide)) ?_);rw[pT2]
  have hne:¬ b=σ.next:=Z0
  have X:¬ b=σ.next+1:=Z0
  have Y:¬ b=σ.next+1+1:=Z0
  have T:∀ F,FzV (pp G).P σ.next F (.slice none 0 0) (Rw false eE ([]:List Ex).length (kY [])):=λF=>zX0 G _ _
  have d:=@sK2 G V Sk D r s hD σ b g A j k n t ek en es el l u w i p ih
  have c:=@jY0 G V Sk D σ b g A j k n t (.mk ek en es el) l u ih
  unfold PrR at d c
  by_cases M:k=1
  ·subst M
   by_cases C:t=[]
   ·have I:(t == ([]:List Zu))=true:=by rw[C];rfl
    refine S3 f I @Bool.not_true ?_
    refine c _ a 1 (-1) 0 n 0 0 [] (.slice none 0 0) [] ?_ ?_ ?_ ?_ rfl T zQ1 (by subst C;exact hd_1a ..) ?_ ?_
    ·exact (by first|assumption|(push_cast(disch:=first|omega|(apply id;push_cast;try omega))[lwC];try omega))
    ·exact (by push_cast(disch:=first|omega|(apply id;push_cast;try omega));first|done|rfl)
    ·exact (by push_cast(disch:=first|omega|(apply id;push_cast;try omega));first|done|rfl)
    ·exact tH
    ·exact (by repeat (first|exact jC.refl _ _|assumption|(refine jC.put'' ?_ _ _ (by intro _;first|rfl|omega|(simp only[push_cast] at *;omega)))|(refine jC.add' ?_ _)))
    ·exact tH
   ·have I:(t == ([]:List Zu))=false:=beq_eq_false_iff_ne.2 C
    refine S3 f I @Bool.not_false ?_
    refine jE.func (cap:=[]) (at_f G V Sk D V t r _ b a ?_ g ?_) ?_
    iterate 2 exact (by first|assumption|(push_cast(disch:=first|omega|(apply id;push_cast;try omega))[lwC];try omega))
    ·rintro _ _ ⟨⟨y,rfl,o⟩,E,rfl⟩
     refine S0 ?_
     refine c _ E 1 y 0 n 0 0 [] (.slice none 0 0) [] ?_ ?_ ?_ ?_ rfl T zQ1 (by rw[o];exact hd_1b C ..) ?_ ?_
     ·exact (by first|assumption|(push_cast(disch:=first|omega|(apply id;push_cast;try omega))[lwC];try omega))
     ·exact (by push_cast(disch:=first|omega|(apply id;push_cast;try omega));first|done|rfl)
     ·exact (by push_cast(disch:=first|omega|(apply id;push_cast;try omega));first|done|rfl)
     ·exact tH
     ·exact (by repeat (first|exact jC.refl _ _|assumption|(refine jC.put'' ?_ _ _ (by intro _;first|rfl|omega|(simp only[push_cast] at *;omega)))|(refine jC.add' ?_ _)))
     ·exact tH
  by_cases B:k=2
  ·have hm:=i B
   subst B
   refine S1 f ?_
   refine jE.lendE (cap:=[]) (args:=[_,_,_]) (nM3 G V Sk D V t r a hm) (.cons (.ptr (e:=tLw) (m:=false) (full:=lwC V Sk D a) (by push_cast(disch:=first|omega|(apply id;push_cast;try omega));omega) ?_ (by simp[lwC]) (.ids (eL0 _ ?_ ..))) (.cons (.id (nG0 _ ?_ _)) (.cons (.id rfl) .nil))) ?_
   ·exact (by first|assumption|(push_cast(disch:=first|omega|(apply id;push_cast;try omega))[lwC];try omega))
   ·exact (by push_cast(disch:=first|omega|(apply id;push_cast;try omega));omega)
   ·exact (by push_cast(disch:=first|omega|(apply id;push_cast;try omega));omega)
   rintro _ ⟨y,rfl,o⟩
   refine ⟨rfl,?_⟩
   refine S0 ?_
   refine jE.func (cap:=[]) (sH0 G V Sk D r (.mk ek en es el) w _ b a ?_ g ?_) ?_
   iterate 2 exact (by first|assumption|(push_cast(disch:=first|omega|(apply id;push_cast;try omega))[lwC];try omega))
   rintro _ _ ⟨⟨x,rfl,H,L⟩,E,rfl⟩
   obtain ⟨yk,yn,ys,yl⟩:=x
   unfold exV exC
   refine S0 ?_
   refine c _ E 2 y 0 [] yk yn ys (Rw false eE yl.length (kY yl)) yl ?_ ?_ ?_ ?_ rfl (λF=>.id (cM0 _ Z0 ..)) H (by rw[o,L];exact hd_2 ..) ?_ ?_
   ·exact (by first|assumption|(push_cast(disch:=first|omega|(apply id;push_cast;try omega))[lwC];try omega))
   ·exact (by push_cast(disch:=first|omega|(apply id;push_cast;try omega));first|done|rfl)
   ·exact (by push_cast(disch:=first|omega|(apply id;push_cast;try omega));first|done|rfl)
   ·exact tH
   ·exact (by repeat (first|exact jC.refl _ _|assumption|(refine jC.put'' ?_ _ _ (by intro _;first|rfl|omega|(simp only[push_cast] at *;omega)))|(refine jC.add' ?_ _)))
   ·exact tH
  by_cases J:k=3
  ·subst J
   refine S1 f ?_
   refine d _ a 3 true rfl Z1 ⟨?_,?_,?_,?_,?_,?_⟩
   ·exact (by first|assumption|(push_cast(disch:=first|omega|(apply id;push_cast;try omega))[lwC];try omega))
   ·exact (by push_cast(disch:=first|omega|(apply id;push_cast;try omega));first|done|rfl)
   ·exact (by push_cast(disch:=first|omega|(apply id;push_cast;try omega));first|done|rfl)
   ·exact tH
   ·exact (by repeat (first|exact jC.refl _ _|assumption|(refine jC.put'' ?_ _ _ (by intro _;first|rfl|omega|(simp only[push_cast] at *;omega)))|(refine jC.add' ?_ _)))
   ·exact tH
  by_cases R:k=4
  ·subst R
   refine S1 f ?_
   refine d _ a 4 true rfl Z1 ⟨?_,?_,?_,?_,?_,?_⟩
   ·exact (by first|assumption|(push_cast(disch:=first|omega|(apply id;push_cast;try omega))[lwC];try omega))
   ·exact (by push_cast(disch:=first|omega|(apply id;push_cast;try omega));first|done|rfl)
   ·exact (by push_cast(disch:=first|omega|(apply id;push_cast;try omega));first|done|rfl)
   ·exact tH
   ·exact (by repeat (first|exact jC.refl _ _|assumption|(refine jC.put'' ?_ _ _ (by intro _;first|rfl|omega|(simp only[push_cast] at *;omega)))|(refine jC.add' ?_ _)))
   ·exact tH
  refine S5 f M B J R ?_
  refine d _ a k _ rfl ⟨M,B,by simp[J,R]⟩ ⟨?_,?_,?_,?_,?_,?_⟩
  ·exact (by first|assumption|(push_cast(disch:=first|omega|(apply id;push_cast;try omega))[lwC];try omega))
  ·exact (by push_cast(disch:=first|omega|(apply id;push_cast;try omega));first|done|rfl)
  ·exact (by push_cast(disch:=first|omega|(apply id;push_cast;try omega));first|done|rfl)
  ·exact tH
  ·exact (by repeat (first|exact jC.refl _ _|assumption|(refine jC.put'' ?_ _ _ (by intro _;first|rfl|omega|(simp only[push_cast] at *;omega)))|(refine jC.add' ?_ _)))
  ·exact tH
 termination_by x=>SizeOf.sizeOf x
abbrev tMy:Nat:=195
def myC (D:List (List Zu))(e x:List Zb):List Z6:=[nsV D,bvV e,bvV x]
abbrev my (D:List (List Zu))(e x:List Zb):Z6:=Rpt 0 (myC D e x)
theorem nA2 (n:Nat)(h:0<n)(l:List Zb):Ev.sc n (bvV l)=true:=nB2 n h ..
theorem bE3 (n:Nat)(h:0<n)(D:List (List Zu))(e x:List Zb):scL n (myC D e x)=true:=by simp[myC,scL,nG0 n h,nA2 n h]
theorem nP3 (n:Nat)(a:0<n)(o:Nat)(cs:List Z6)(h:scL n cs=true):Ev.sc n (Rpt o cs)=true:=by simp[Rpt,Ev.sc,scL,h,a]
theorem bD3 (n:Nat)(h:0<n)(D:List (List Zu))(e x:List Zb):Ev.sc n (my D e x)=true:=nP3 n h _ _ (bE3 n h ..)
attribute [push_cast] bD3 nA2
inductive I100 (D:List (List Zu))(e x:List Zb)(k:Int)(n t:List Zu)(ee:Ex)(l:List Pr):Nat→S→Prop
 | mk (i : Nat) (iv : Int) (h : jA) (a b c d : Zb) {x1 x2 x4 x5 x9 xA xB xC xD xE xF xG xH xI xJ xK xL xM xN xO xP xQ xR xS xT xU xV xW xX xY xZ yA yB yC yD yE yF yG yH yI yJ yK yL yM yN yO yP yQ yR yS yT yU yV yW yX yY yZ zA zB zC zD zF zG zH zI zJ zK zL zM zN zO zP zQ zR zS zT zU zV zW zX zY zZ wA wB wC wD wE wF wG wH wI wJ wK wL wM wN wO wP wQ wR wS wT wU wV wW wX wY wZ uA uB uC uD uE uF uG uH uI uJ uK uL uM uN uO uP : Z6} (hiv : iv = (i : Int)) (hi : i ≤ l.length)
   (c0:cells h 1=some (prC (.mk k n t ee l),epr,false)) (c1:cells h 2=some ([.bool a,.bool b],210,false)) (c2:cells h 3=some ([.bool c,.bool d],210,false)) (hl1:h.lo=1) (hl2:4≤h.next) :
  I100 D e x k n t ee l (l.length-i) ⟨(F129 (my D e x) x1 x2 (.pointer (some ⟨1,0,none⟩)) x4 x5 (.pointer (some ⟨2,0,none⟩)) (.pointer (some ⟨3,0,none⟩)) (.int .i64 iv) x9 xA xB xC xD xE xF xG xH xI xJ xK xL xM xN xO xP xQ xR xS xT xU xV xW xX xY xZ yA yB yC yD yE yF yG yH yI yJ yK yL yM yN yO yP yQ yR yS yT yU yV yW yX yY yZ zA zB zC zD zF zG zH zI zJ zK zL zM zN zO zP zQ zR zS zT zU zV zW zX zY zZ wA wB wC wD wE wF wG wH wI wJ wK wL wM wN wO wP wQ wR wS wT wU wV wW wX wY wZ uA uB uC uD uE uF uG uH uI uJ uK uL uM uN uO uP),[],h⟩
def twoB (d:Z6):Prop:=∃ a b:Zb,d=.tuple ⟨[.bool a,.bool b]⟩
theorem zD1 (D:List (List Zu))(e x:List Zb)(hD:D.length<1000000000000000)(he:e.length=D.length)(hx:x.length=D.length)(k:Int)(n t:List Zu)(ee:Ex)(l:List Pr)(h:jA)(a b c d:Zb){x1 x2 x4 x5 x8 x9 xA xB xC xD xE xF xG xH xI xJ xK xL xM xN xO xP xQ xR xS xT xU xV xW xX xY xZ yA yB yC yD yE yF yG yH yI yJ yK yL yM yN yO yP yQ yR yS yT yU yV yW yX yY yZ zA zB zC zD zF zG zH zI zJ zK zL zM zN zO zP zQ zR zS zT zU zV zW zX zY zZ wA wB wC wD wE wF wG wH wI wJ wK wL wM M u E I p y wT R V r X L wZ T F N Y m Z uG uH J q o K H g C w:Z6}
  (f:cells h 1=some (prC (.mk k n t ee l),epr,false)) (z:cells h 2=some ([.bool a,.bool b],210,false)) (A:cells h 3=some ([.bool c,.bool d],210,false)) (hl1:h.lo=1) :
  dc3 (pp G) qq none iO0 ⟨(F129 (my D e x) x1 x2 (.pointer (some ⟨1,0,none⟩)) x4 x5 (.pointer (some ⟨2,0,none⟩)) (.pointer (some ⟨3,0,none⟩)) x8 x9 xA xB xC xD xE xF xG xH xI xJ xK xL xM xN xO xP xQ xR xS xT xU xV xW xX xY xZ yA yB yC yD yE yF yG yH yI yJ yK yL yM yN yO yP yQ yR yS yT yU yV yW yX yY yZ zA zB zC zD zF zG zH zI zJ zK zL zM zN zO zP zQ zR zS zT zU zV zW zX zY zZ wA wB wC wD wE wF wG wH wI wJ wK wL wM M u E I p y wT R V r X L wZ T F N Y m Z uG uH J q o K H g C w),[],h⟩ (@kR ⟨jR prog [(.tmp 4),(.tmp 5)] (λv σ'=>∃ d,twoB d∧FzV (pp G).P H0.next σ' v d)⟩):=by
 rw[pU0]
 by_cases h1:k=1
 ·subst h1;push_cast(disch:=first|omega|(apply id;push_cast;try omega))[f];exact ⟨_,⟨_,_,rfl⟩,.id rfl⟩
 by_cases h8:k=8
 ·subst h8;push_cast(disch:=first|omega|(apply id;push_cast;try omega))[f];exact ⟨_,⟨_,_,rfl⟩,.id rfl⟩
 by_cases h4:k=4
 ·subst h4;push_cast(disch:=first|omega|(apply id;push_cast;try omega))[f];exact ⟨_,⟨_,_,rfl⟩,.id rfl⟩
 by_cases h7:k=7
 ·subst h7;cases a<;>(push_cast(disch:=first|omega|(apply id;push_cast;try omega))[f,z,A];exact ⟨_,⟨_,_,rfl⟩,.id rfl⟩)
 by_cases h9:k=9
 ·subst h9;push_cast(disch:=first|omega|(apply id;push_cast;try omega))[f];rw[dC];cases a<;>cases c<;>(push_cast(disch:=first|omega|(apply id;push_cast;try omega))[f,z,A];exact ⟨_,⟨_,_,rfl⟩,.id rfl⟩)
 by_cases B:k=10
 ·subst B;push_cast(disch:=first|omega|(apply id;push_cast;try omega))[f];rw[dC];cases a<;>cases c<;>(push_cast(disch:=first|omega|(apply id;push_cast;try omega))[f,z,A];exact ⟨_,⟨_,_,rfl⟩,.id rfl⟩)
 by_cases h11:k=11
 ·subst h11;push_cast(disch:=first|omega|(apply id;push_cast;try omega))[f];rw[dC];cases a<;>cases c<;>(push_cast(disch:=first|omega|(apply id;push_cast;try omega))[f,z,A];exact ⟨_,⟨_,_,rfl⟩,.id rfl⟩)
 by_cases s:k=12
 ·subst s;push_cast(disch:=first|omega|(apply id;push_cast;try omega))[f];rw[dC];cases a<;>cases c<;>(push_cast(disch:=first|omega|(apply id;push_cast;try omega))[f,z,A];exact ⟨_,⟨_,_,rfl⟩,.id rfl⟩)
 by_cases h13:k=13
 ·subst h13;push_cast(disch:=first|omega|(apply id;push_cast;try omega))[f];rw[dC];push_cast(disch:=first|omega|(apply id;push_cast;try omega))[f,myC]
  refine dL (cI0 G D n hD) ?_
  rintro _ ⟨j,rfl,⟨hj1,hj2⟩,_⟩
  refine ⟨rfl,?_⟩
  by_cases hj:j ≥ 0
  ·have g1:=uW0 (l:=e) (i:=j.toNat) Z0
   have g2:=uW0 (l:=x) (i:=j.toNat) Z0
   have hje:j<e.length:=Z0
   have hjx:j<x.length:=Z0
   push_cast(disch:=first|omega|(apply id;push_cast;try omega))[hj,hje,hjx,g1,g2,hl1,myC,bvV]
   exact ⟨_,⟨_,_,rfl⟩,.id rfl⟩
  ·push_cast(disch:=first|omega|(apply id;push_cast;try omega))[hj]
   exact ⟨_,⟨_,_,rfl⟩,.id rfl⟩
 push_cast(disch:=first|omega|(apply id;push_cast;try omega))[f,h1,h8,h4,h7,h9,B];rw[dC];push_cast(disch:=first|omega|(apply id;push_cast;try omega))[h11,s,h13];rw[pT0];push_cast(disch:=first|omega|(apply id;push_cast;try omega))
 exact ⟨_,⟨_,_,rfl⟩,.id rfl⟩
theorem qS2 (V F D:List (List Zu))(e x:List Zb)(C:D.length<1000000000000000)(B:e.length=D.length)(z:x.length=D.length):∀ (p:Pr),smP V F p=true→
  bW (pp G) H0 145 [my D e x,prV p] twoB
 | .mk k n t ee l,hs=>by
  simp only[smP,Z5,Bool.or_eq_true,decide_eq_true_eq] at hs
  obtain ⟨M,X,Y,L,J,v⟩:=hs
  have P:∀ y∈l,bW (pp G) H0 145 [my D e x,prV y] twoB:=λy w=>qS2 V F D e x C B z y (zK0 v y w)
  clear v
  refine cY G eP3 Z7 (iY2 ..) λR=>?_;rw[kM2]
  refine S0 ?_
  refine WD.loop4 (q:=qq) (jV G) Z7 (I100 D e x k n t ee l) ?_ _ _ (I100.mk 0 0 _ false false false false rfl (Nat.zero_le _) (by push_cast(disch:=first|omega|(apply id;push_cast;try omega));first|done|rfl) (by push_cast(disch:=first|omega|(apply id;push_cast;try omega));first|done|rfl) (by push_cast(disch:=first|omega|(apply id;push_cast;try omega));first|done|rfl) rfl tH)
  intro m s1 K
  cases K with|mk i iv h a b c d A hi r s u f Z=>
  subst A
  rw[pV0]
  by_cases j:(i:Int)<l.length∧(i:Int)<2
  ·obtain ⟨j,o⟩:=j
   obtain ⟨y,w⟩:=jT (l:=l) (i:=i) Z0
   have T:=uJ0 w
   have E:i*8+8≤l.length*8:=Z0
   refine S7 j o r T E @Z4 f ?_
   refine dL (P y (List.mem_of_getElem? w)) ?_
   rintro _ ⟨I,H,rfl⟩
   refine ⟨rfl,?_⟩
   obtain rfl|rfl:i=0∨i=1:=Z0
   ·refine S3 s u f ?_
    exact ⟨_,Z0,I100.mk (0+1) _ _ I b H d Z2 Z0 (tH1 r) (tH1 s) (tH1 u) (tH1 f) tH⟩
   ·refine S3 s u f ?_
    exact ⟨_,Z0,I100.mk (1+1) _ _ a I c H Z2 Z0 (tH1 r) (tH1 s) (tH1 u) (tH1 f) tH⟩
  ·by_cases g:(i:Int)<l.length
   ·have o:¬ (i:Int)<2:=λN=>j ⟨g,N⟩
    refine S3 g o r ?_
    exact zD1 G D e x C B z k n t ee l h a b c d r s u f
   ·refine S2 g r ?_
    exact zD1 G D e x C B z k n t ee l h a b c d r s u f
 termination_by p=>SizeOf.sizeOf p
theorem yQ3 (s:List Zu)(σ:jA):bsD (qq.m 73) (slT prog 73) 1 [(0,.string (Tx s))] σ=some (Rw true eS 1 (nss [s]),σ):=Z7
theorem fG1 {l:List (List Zu×Int)}{i:Nat}{x:List Zu×Int}(h:l[i]?=some x):(vrs l)[i*2]?=some (.string (Tx x.1))∧(vrs l)[i*2+1]?=some (.int .i64 x.2):=by
 induction l generalizing i with
 | nil=>cases h
 | cons y l a=>
  cases i with
  | zero=>cases h;exact ⟨rfl,rfl⟩
  | succ i=>
   have:=a (i:=i) h
   rw[show (i+1)*2=i*2+1+1 by omega]
   exact this
theorem cQ0 {l:List (List Zu×Pr)}{i:Nat}{x:List Zu×Pr}(h:l[i]?=some x):(dfs l)[i*9]?=some (.string (Tx x.1))∧((dfs l).drop (i*9+1)).take 8=prC x.2:=by
 induction l generalizing i with
 | nil=>cases h
 | cons y l c=>
  have e:dfs (y :: l)=(Value.string (Tx y.1) :: prC y.2)++dfs l:=rfl
  have a:(Value.string (Tx y.1) :: prC y.2).length=9:=by simp[cL]
  cases i with
  | zero=>
   cases h
   refine ⟨rfl,?_⟩
   show ((prC x.2)++dfs l).take 8=_
   rw[List.take_left' (cL _)]
  | succ i=>
   have:=c (i:=i) h
   rw[e,show (i+1)*9=9+i*9 by omega,List.getElem?_append_right Z0,List.drop_append,List.drop_of_length_le Z0,List.nil_append,a]
   rw[show 9+i*9-9=i*9 by omega,show 9+i*9+1-9=i*9+1 by omega]
   exact this
inductive I83 (p:Pg):Nat→S→Prop
 | mk (i : Nat) (iv : Int) (h : jA) (q : Z8 Addr) (c : Nat) {x0 x2 x3 x7 x8 x9 xA xB xC xD xE xF xG xH xI xJ xK xL xM xN xO xP xQ xR xS xT xU xV xW xX xY xZ yA yB yC yD yE yF : Z6} (hiv : iv = (i : Int)) (hi : i ≤ p.v.length)
   (c0:cells h 1=some (pgC p,76,false)) (ho:qY h eS 1 q i c (nss ((p.v.map Prod.fst).take i))) (hq:∀ b,blk q b→2≤b) (hl1:h.lo=1) (hl2:2≤h.next) :
  I83 p (p.v.length-i) ⟨(F42 x0 (.pointer (some ⟨1,0,none⟩)) x2 x3 (.slice q i c) (.slice none 0 0) (.int .i64 iv) x7 x8 x9 xA xB xC xD xE xF xG xH xI xJ xK xL xM xN xO xP xQ xR xS xT xU xV xW xX xY xZ yA yB yC yD yE yF),[],h⟩
inductive I83b (p:Pg)(q:Z8 Addr)(c:Nat):Nat→S→Prop
 | mk (i : Nat) (iv : Int) (h : jA) (q2 : Z8 Addr) (c2 : Nat) {x0 x2 x3 x6 x8 x9 xA xB xC xD xE xF xG xH xI xJ xK xL xM xN xO xP xQ xR xS xT xU xV xW xX xY xZ yA yB yC yD yE yF : Z6} (hiv : iv = (i : Int)) (hi : i ≤ p.d.length)
   (c0:cells h 1=some (pgC p,76,false)) (ho:qY h eS 1 q p.v.length c (nss (p.v.map Prod.fst))) (hq:∀ b,blk q b→2≤b) (ho2:qY h eS 1 q2 i c2 (nss ((p.d.map Prod.fst).take i))) (hq2:∀ b,blk q2 b→2≤b∧¬ blk q b) (hl1:h.lo=1) (hl2:2≤h.next) :
  I83b p q c (p.d.length-i) ⟨(F42 x0 (.pointer (some ⟨1,0,none⟩)) x2 x3 (.slice q p.v.length c) (.slice q2 i c2) x6 (.int .i64 iv) x8 x9 xA xB xC xD xE xF xG xH xI xJ xK xL xM xN xO xP xQ xR xS xT xU xV xW xX xY xZ yA yB yC yD yE yF),[],h⟩
theorem mN1 (p:Pg)(Z:p.v.length≤20)(Y:p.d.length≤20):jF (pp G) H0 61 [pgV p] (.tuple ⟨[nsV (p.v.map Prod.fst),nsV (p.d.map Prod.fst)]⟩):=by
 refine cE G fir61 Z7 (zH3 ..) λT=>?_;rw[pW2]
 unfold pgV pgC
 refine S0 ?_
 refine WD.loop4 (q:=qq) (jV G) Z7 (I83 p) ?_ _ _ (I83.mk 0 0 _ none 0 rfl (Nat.zero_le _) (by push_cast(disch:=first|omega|(apply id;push_cast;try omega));first|done|rfl) (qY.nil _ _ _) (λb a=>by obtain ⟨o,s,e⟩:=a;cases e) rfl tH)
 intro m s1 H
 cases H with|mk i N h q c t hi u n B j z=>
 subst t
 rw[yO1]
 have f:=u
 unfold pgC at f
 have F:=fC0 p.v
 by_cases g:(i:Int)<p.v.length
 ·obtain ⟨x,C⟩:=jT (l:=p.v) (i:=i) Z0
  have L:=(fG1 C).1
  have y:i*2<p.v.length*2:=Z0
  push_cast(disch:=first|omega|(apply id;push_cast;try omega))[g,f,F,L,y,Z4,j,↓yQ3]
  obtain ⟨M,K,σ',e,E,g',b'⟩:=cM (by_:=16) n Z0 Z0 (m:=1) (xs:=nss [x.1]) rfl rfl Z0
  have w:(p.v.map Prod.fst).take (i+1)=(p.v.map Prod.fst).take i++[x.1]:=jY (by rw[List.getElem?_map,C];rfl)
  rw[← mK1,← w] at E
  have I:=g'.next
  have J:=g'.lo
  have k0:cells σ' 1=_:=g'.cellsE u Z0 (λa=>by have:=B _ a;omega)
  refine S1 e ?_
  refine ⟨_,Z0,I83.mk (i+1) _ _ M K Z2 Z0 k0 E (λb a=>?_) Z0 Z0⟩
  rcases b' b a with a|a
  ·exact B b a
  ·omega
 ·have A:i=p.v.length:=Z0
  subst A
  rw[List.take_of_length_le (by rw[List.length_map];exact Z3 _)] at n
  refine S3 g f F ?_
  rw[yN1]
  refine S0 ?_
  refine WD.loop4 (q:=qq) (jV G) Z7 (I83b p q c) ?_ _ _ (I83b.mk 0 0 _ none 0 rfl (Nat.zero_le _) u n B (qY.nil _ _ _) (λb a=>by obtain ⟨o,s,e⟩:=a;cases e) j z)
  clear u f n j z
  intro m X H
  cases H with|mk i N h q2 c2 t hi u n B r k j z=>
  subst t
  rw[yM1]
  have f:=u
  unfold pgC at f
  have D:=lL0 p.d
  by_cases g:(i:Int)<p.d.length
  ·obtain ⟨x,C⟩:=jT (l:=p.d) (i:=i) Z0
   have L:=(cQ0 C).1
   have y:i*9<p.d.length*9:=Z0
   push_cast(disch:=first|omega|(apply id;push_cast;try omega))[g,f,D,L,y,Z4,j,↓yQ3]
   obtain ⟨M,K,σ',e,E,g',b'⟩:=cM (by_:=16) r Z0 Z0 (m:=1) (xs:=nss [x.1]) rfl rfl Z0
   have w:(p.d.map Prod.fst).take (i+1)=(p.d.map Prod.fst).take i++[x.1]:=jY (by rw[List.getElem?_map,C];rfl)
   rw[← mK1,← w] at E
   have I:=g'.next
   have J:=g'.lo
   have k0:cells σ' 1=_:=g'.cellsE u Z0 (λa=>by have:=(k _ a).1;omega)
   refine S1 e ?_
   refine ⟨_,Z0,I83b.mk (i+1) _ _ M K Z2 Z0 k0 (n.grew g' λb a R=>(k b R).2 a) B E (λb a=>?_) Z0 Z0⟩
   rcases b' b a with a|a
   ·exact k b a
   ·exact ⟨Z0,λV=>by have:=qY.lt n V;omega⟩
  ·have A:i=p.d.length:=Z0
   subst A
   rw[List.take_of_length_le (by rw[List.length_map];exact Z3 _)] at r
   refine S3 g f D ?_
   rw[yL1]
   refine S0 ?_
   unfold nsV
   rw[List.length_map,List.length_map]
   exact .tup (.cons (qY.fz (P:=(pp G).P) n (by rfl) Z1 Z0 (.ids (zW0 _ _)) (λb a=>by have:=B b a;omega)) (.cons (qY.fz (P:=(pp G).P) r (by rfl) Z1 Z0 (.ids (zW0 _ _)) (λb a=>by have:=(k b a).1;omega)) .nil))
def cf:List Zb→Nat
 | []=>0
 | b :: l=>(if b then 0 else 1)+cf l
theorem qI2:∀ (l:List Zb) (i:Nat) (b:Zb),i<l.length→(l.getD i false=true→b=true)→cf (l.set i b)+(if b=true∧l.getD i false=false then 1 else 0)=cf l
 | [],i,b,h,_=>by simp at h
 | x :: l,0,b,h,hm=>by
  cases x<;>cases b<;>simp[cf] at hm ⊢
  omega
 | x :: l,i+1,b,h,hm=>by
  have:=qI2 l i b (by simpa using h) (by simpa using hm)
  simp only[List.set_cons_succ,cf,List.getD_cons_succ]
  omega
theorem lO0 (l:List Zb)(i:Nat)(b:Zb)(h:i<l.length):(bvs l).take i++[.bool b]++(bvs l).drop (i+1)=bvs (l.set i b):=by
 simp only[bvs]
 rw[List.set_eq_take_append_cons_drop,if_pos h,List.map_append,List.map_cons,List.map_take,List.map_drop,List.append_assoc]
 rfl
theorem pP0 {V a:List (List Zu)}{p:Pg}(c:∀ x∈p.d,smP V a x.2=true){i:Nat}{x:List Zu×Pr}(h:p.d[i]?=some x):smP V a x.2=true:=c x (List.mem_of_getElem? h)
inductive I98b (p:Pg)(bE bX μ:Nat):Nat→S→Prop
 | mk (i : Nat) (iv : Int) (h : jA) (e x : List Zb) (ag : Zb) {x0 x2 x3 x8 x9 xA xB xC xD xE xF xG xH xI xJ xK xL xM xN xO xP xQ xR xS xT xU xV xW xX xY xZ yA yB yC yD yE yF yG yH yI yJ yK yL yM yN yO yP yQ yR yS yT yU yV yW yX yY yZ zA zB zC zD zF zG zH zI zJ zK zL zM zN zO zP zQ zR zS zT zU zV zW zX zY zZ wA wB wC wD wE wF wG wH wI wJ wK wL : Z6} (hiv : iv = (i : Int)) (hi : i ≤ p.d.length)
   (c0:cells h 1=some (pgC p,76,false)) (cE:cells h bE=some (bvs e,eB,false)) (cX:cells h bX=some (bvs x,eB,false))
   (cm:cells h 4=some ([Rw false eS p.d.length (nss (p.d.map Prod.fst)),.slice (some ⟨bE,0,none⟩) p.d.length p.d.length,.slice (some ⟨bX,0,none⟩) p.d.length p.d.length],tMy,false))
   (he:e.length=p.d.length) (hx:x.length=p.d.length) (hμ:cf e+cf x+(if ag=true then 1 else 0)≤μ) (hl1:h.lo=1) (hl2:5≤h.next) :
  I98b p bE bX μ (p.d.length-i) ⟨(F99 x0 (.pointer (some ⟨1,0,none⟩)) x2 x3 (Rw false eS p.d.length (nss (p.d.map Prod.fst))) (.pointer (some ⟨4,0,none⟩)) (.bool ag) (.int .i64 iv) x8 x9 xA xB xC xD xE xF xG xH xI xJ xK xL xM xN xO xP xQ xR xS xT xU xV xW xX xY xZ yA yB yC yD yE yF yG yH yI yJ yK yL yM yN yO yP yQ yR yS yT yU yV yW yX yY yZ zA zB zC zD zF zG zH zI zJ zK zL zM zN zO zP zQ zR zS zT zU zV zW zX zY zZ wA wB wC wD wE wF wG wH wI wJ wK wL),[],h⟩
inductive I98 (p:Pg)(bE bX:Nat):Nat→S→Prop
 | mk (h : jA) (e x : List Zb) (ag : Zb) {x0 x2 x3 x7 x8 x9 xA xB xC xD xE xF xG xH xI xJ xK xL xM xN xO xP xQ xR xS xT xU xV xW xX xY xZ yA yB yC yD yE yF yG yH yI yJ yK yL yM yN yO yP yQ yR yS yT yU yV yW yX yY yZ zA zB zC zD zF zG zH zI zJ zK zL zM zN zO zP zQ zR zS zT zU zV zW zX zY zZ wA wB wC wD wE wF wG wH wI wJ wK wL : Z6}
   (c0:cells h 1=some (pgC p,76,false)) (cE:cells h bE=some (bvs e,eB,false)) (cX:cells h bX=some (bvs x,eB,false))
   (cm:cells h 4=some ([Rw false eS p.d.length (nss (p.d.map Prod.fst)),.slice (some ⟨bE,0,none⟩) p.d.length p.d.length,.slice (some ⟨bX,0,none⟩) p.d.length p.d.length],tMy,false))
   (he:e.length=p.d.length) (hx:x.length=p.d.length) (hl1:h.lo=1) (hl2:5≤h.next) :
  I98 p bE bX (2*(cf e+cf x)+(if ag=true then 1 else 0)) ⟨(F99 x0 (.pointer (some ⟨1,0,none⟩)) x2 x3 (Rw false eS p.d.length (nss (p.d.map Prod.fst))) (.pointer (some ⟨4,0,none⟩)) (.bool ag) x7 x8 x9 xA xB xC xD xE xF xG xH xI xJ xK xL xM xN xO xP xQ xR xS xT xU xV xW xX xY xZ yA yB yC yD yE yF yG yH yI yJ yK yL yM yN yO yP yQ yR yS yT yU yV yW yX yY yZ zA zB zC zD zF zG zH zI zJ zK zL zM zN zO zP zQ zR zS zT zU zV zW zX zY zZ wA wB wC wD wE wF wG wH wI wJ wK wL),[],h⟩
theorem bI0 (V Sk:List (List Zu))(p:Pg)(hv:p.v.length≤20)(hd:p.d.length≤20)(hn:1≤p.d.length)(hs:∀ x∈p.d,smP V Sk x.2=true)(f c:Nat)(hb:(f=2∧c=3)∨(f=3∧c=2))
  (m:Nat) (s:S) (hI:I98 p f c m s) {R:jK→S→Prop} (hR:∀ (h:jA) (e x:List Zb) {x0 x2 x3 x6 x7 x8 x9 xA xB xC xD xE w xG xH xI N xK xL xM X xO L xQ xR xS xT C Y xW xX xY xZ yA yB yC yD I z yG yH F yJ yK yL K yN yO yP yQ yR yS M yU yV yW yX yY yZ zA E zC zD zF zG zH zI zJ zK zL zM zN D A zQ zR zS zT zU zV Z J T zZ wA wB wC wD wE wF wG wH wI wJ B wL:Z6},e.length=p.d.length→x.length=p.d.length→h.lo=1→cells h f=some (bvs e,eB,false)→cells h c=some (bvs x,eB,false)→
   cells h 4=some ([Rw false eS p.d.length (nss (p.d.map Prod.fst)),.slice (some ⟨f,0,none⟩) p.d.length p.d.length,.slice (some ⟨c,0,none⟩) p.d.length p.d.length],tMy,false)→
   R (.exit 0) ⟨(F99 x0 (.pointer (some ⟨1,0,none⟩)) x2 x3 (Rw false eS p.d.length (nss (p.d.map Prod.fst))) (.pointer (some ⟨4,0,none⟩)) x6 x7 x8 x9 xA xB xC xD xE w xG xH xI N xK xL xM X xO L xQ xR xS xT C Y xW xX xY xZ yA yB yC yD I z yG yH F yJ yK yL K yN yO yP yQ yR yS M yU yV yW yX yY yZ zA E zC zD zF zG zH zI zJ zK zL zM zN D A zQ zR zS zT zU zV Z J T zZ wA wB wC wD wE wF wG wH wI wJ B wL),[],h⟩) :
  WD (pp G) qq.H none (.loop iP0) s R:=by
 have hbE:1≤f∧f<4:=Z0
 have hbX:1≤c∧c<4:=Z0
 have hEX:¬ f=c:=Z0
 have hXE:¬ c=f:=Z0
 have hE0:¬ 1=f:=Z0
 have hX0:¬ 1=c:=Z0
 have hE3:¬ 4=f:=Z0
 have hX3:¬ 4=c:=Z0
 refine WD.loop4 (q:=qq) (jV G) Z7 (I98 p f c) ?_ _ _ hI
 clear hI s m
 intro m s1 hI
 cases hI with|mk h e x ag c0 cE t o n r a j=>
 rw[rE0]
 cases ag with
 | false=>
  refine S0 ?_
  exact hR h e x n r a cE t o
 | true=>
  refine S0 ?_
  refine WD.loop4 (q:=qq) (jV G) Z7 (I98b p f c (cf e+cf x)) ?_ _ _ (I98b.mk 0 0 _ e x false rfl (Nat.zero_le _) c0 cE t o n r (by simp) a j)
  have hμ0:∃ μ,μ=cf e+cf x:=⟨_,rfl⟩
  obtain ⟨μ,hμ0⟩:=hμ0
  rw[← hμ0]
  clear c0 cE t o n r a j hμ0
  clear h e x
  intro m s2 hI
  cases hI with|mk i iv h e x ag hiv hi c0 cE t o n r hμ a j=>
  subst hiv
  rw[rD0]
  have c0':=c0
  unfold pgC at c0'
  have hdl:=lL0 p.d
  by_cases u:(i:Int)<p.d.length
  ·obtain ⟨y,hy⟩:=jT (l:=p.d) (i:=i) Z0
   have hg:=(cQ0 hy).2
   have hle:i*9+9≤p.d.length*9:=Z0
   refine S7 u c0' hdl hg hle @Z4 a ?_
   have hz:FzL (pp G).P h.lo h [Rw false eS p.d.length (nss (p.d.map Prod.fst)),.slice (some ⟨f,0,none⟩) p.d.length p.d.length,.slice (some ⟨c,0,none⟩) p.d.length p.d.length] (myC (p.d.map Prod.fst) e x):=by
    unfold myC nsV bvV
    rw[List.length_map,n,r]
    exact .cons (.id (eK0 _ Z0 _ _ _)) (.cons (.sl (size:=1) Z0 cE rfl Z1 (by rw[jR0];omega) (.inl ⟨by simp only[UC];omega,Z3 _⟩) (by rw[List.drop_zero,List.take_of_length_le (by rw[jR0];omega)];exact .ids (yY0 _ _))) (.cons (.sl (size:=1) Z0 t rfl Z1 (by rw[jR0];omega) (.inl ⟨by simp only[UC];omega,Z3 _⟩) (by rw[List.drop_zero,List.take_of_length_le (by rw[jR0];omega)];exact .ids (yY0 _ _))) .nil))
   refine jE.lendE (qS2 G V Sk (p.d.map Prod.fst) e x (by rw[List.length_map];omega) (by rw[List.length_map];exact n) (by rw[List.length_map];exact r) y.2 (pP0 hs hy)) (.cons (.ptr Z0 o (by simp) hz) (.cons (.id (lZ1 _ Z0 _)) .nil)) ?_
   rintro _ ⟨aa,bb,rfl⟩
   refine ⟨rfl,?_⟩
   have gE:=uW0 (l:=e) (i:=i) Z0
   have gX:=uW0 (l:=x) (i:=i) Z0
   have g:i<e.length:=Z0
   have k:i<x.length:=Z0
   have sE:=λb=>lO0 e i b g
   have sX:=λb=>lO0 x i b k
   have qE:=λb=>qI2 e i b g
   have qX:=λb=>qI2 x i b k
   generalize e.getD i false=ei at gE qE
   generalize x.getD i false=xi at gX qX
   have fin : ∀ (b1 b2 : Zb) {x0 x2 x3 x8 x9 xA xB xC xD xE w xG xH xI N xK xL xM X xO L xQ xR xS xT C Y xW xX xY xZ yA yB yC yD I z yG yH F yJ yK yL K yN yO yP yQ yR yS M yU yV yW yX yY yZ zA E zC zD zF zG zH zI zJ zK zL zM zN D A zQ zR zS zT zU zV Z J T zZ wA wB wC wD wE wF wG wH wI wJ B wL : Z6}, (ei = true → b1 = true) → (xi = true → b2 = true) → ((b1 = true ∧ ei = false) ∨ (b2 = true ∧ xi = false)) →
     ∃ m,m<p.d.length-i∧I98b p f c μ m ⟨(F99 x0 (.pointer (some ⟨1,0,none⟩)) x2 x3 (Rw false eS p.d.length (nss (p.d.map Prod.fst))) (.pointer (some ⟨4,0,none⟩)) (.bool true) (.int .i64 ((i:Int)+1)) x8 x9 xA xB xC xD xE w xG xH xI N xK xL xM X xO L xQ xR xS xT C Y xW xX xY xZ yA yB yC yD I z yG yH F yJ yK yL K yN yO yP yQ yR yS M yU yV yW yX yY yZ zA E zC zD zF zG zH zI zJ zK zL zM zN D A zQ zR zS zT zU zV Z J T zZ wA wB wC wD wE wF wG wH wI wJ B wL),[],(h.put f (O (bvs (e.set i b1)) eB false)).put c (O (bvs (x.set i b2)) eB false)⟩:=by
    intro b1 b2
    intros
    rename_i k1 k2 k3
    have q1:=qE b1 k1
    have q2:=qX b2 k2
    refine ⟨_,Z0,I98b.mk (i+1) _ _ (e.set i b1) (x.set i b2) true Z2 Z0 ?_ ?_ ?_ ?_ (by simp[n]) (by simp[r]) ?_ ?_ ?_⟩
    iterate 4 exact (by first|assumption|(push_cast(disch:=first|omega|(apply id;push_cast;try omega))[c0,hE0,hX0,hEX,hXE,o,hE3,hX3];try omega))
    ·rw[if_pos rfl]
     rcases k3 with k3|k3
     ·rw[if_pos k3] at q1;omega
     ·rw[if_pos k3] at q2;omega
    iterate 2 exact (tH1 a)
   cases aa<;>cases bb<;>cases ei<;>cases xi<;>(push_cast(disch:=first|omega|(apply id;push_cast;try omega))[o,cE,t,gE,gX,a,u,g,k,Z4,Bool.not_true,Bool.not_false,sE,sX,hE3,hX3,hEX,hXE,hE0,hX0])<;>
    first
    | exact fin true true (by simp) (by simp) (by simp)
    | exact fin true false (by simp) (by simp) (by simp)
    | exact fin false true (by simp) (by simp) (by simp)
    | exact ⟨_,Z0,I98b.mk (i+1) _ h e x ag (by first | rfl | omega) Z0 c0 cE t o n r hμ a j⟩
  ·refine S1 u ?_
   refine ⟨_,?_,I98.mk h e x ag c0 cE t o n r a j⟩
   cases ag<;>simp at hμ ⊢<;>omega
attribute [push_cast] gI3
theorem yI3 (n:Nat)(l:List Z6):sc n (.tuple ⟨l⟩)=scL n l:=rfl
theorem yW2 (n:Nat)(v:Z6)(l:List Z6):scL n (v :: l)=(sc n v&&scL n l):=rfl
theorem rU2 (n:Nat):scL n []=true:=rfl
attribute [push_cast] yI3 yW2 rU2 Bool.and_true Bool.and_self
theorem cS0 (n:Nat):(List.replicate n [Value.bool false]).flatten=bvs (List.replicate n false):=by
 induction n with
 | zero=>rfl
 | succ n h=>rw[List.replicate_succ,List.replicate_succ,List.flatten_cons,h];rfl
def MayOf (p:Pg)(d:Z6):Prop:=∃ e x:List Zb,d=my (p.d.map Prod.fst) e x∧e.length=p.d.length∧x.length=p.d.length
theorem kC2 (V j:List (List Zu))(p:Pg)(t:p.v.length≤20)(i:p.d.length≤20)(u:1≤p.d.length)(w:∀ x∈p.d,smP V j x.2=true) :
  bW (pp G) H0 132 [pgV p] (MayOf p):=by
 refine cY G fA3 Z7 (wW3 ..) λz=>?_;rw[kX2]
 unfold pgV
 have n:(pgC p).all one=true:=rfl
 have o:(pgC p).length=3:=rfl
 have s:(pgC p).take 3=pgC p:=rfl
 refine S3 n o s ?_
 rw[show Value.agg ⟨pgC p⟩=pgV p from rfl]
 refine dK (mN1 G p t i) ?_
 unfold nsV
 have q:(p.d.map Prod.fst).length=p.d.length:=List.length_map ..
 have A:(p.d.length:Int)*1+p.d.length<100000000000000:=Z0
 refine S2 q A ?_
 refine ⟨?_,?_⟩
 ·refine bI0 G V j p t i u w 2 3 (.inl ⟨rfl,rfl⟩) _ _ (I98.mk _ (List.replicate p.d.length false) (List.replicate p.d.length false) true ?_ ?_ ?_ ?_ (by simp) (by simp) ?_ ?_) ?_
  ·exact tH
  ·rw[← cS0];exact (tH1 @Z4)
  ·rw[← cS0];exact (tH1 @Z4)
  iterate 3 exact (tH1 @Z4)
  ·intro h e x
   intros
   rename_i c a k cE g r
   refine S0 ?_
   rw[bL0]
   refine S0 ?_
   refine ⟨_,⟨e,x,rfl,c,a⟩,?_⟩
   unfold my myC nsV bvV
   rw[List.length_map,c,a]
   have f:∀ (b:Nat) (l:List Zb),1≤b→l.length=p.d.length→cells h b=some (bvs l,eB,false)→FzV (pp G).P 1 h (.slice (some ⟨b,0,none⟩) p.d.length p.d.length) (Rw false eB p.d.length (bvs l)):=λb l B y m=>
    .sl (size:=1) Z0 m rfl Z1 (by rw[jR0];omega) (.inl ⟨by simp only[UC];omega,Z3 _⟩) (by rw[List.drop_zero,List.take_of_length_le (by rw[jR0];omega)];exact .ids (yY0 _ _))
   exact .ptr Z0 r (by simp) (.cons (.id (eK0 _ Z0 _ _ _)) (.cons (f _ e Z0 c cE) (.cons (f _ x Z0 a g) .nil)))
 ·refine bI0 G V j p t i u w 3 2 (.inr ⟨rfl,rfl⟩) _ _ (I98.mk _ (List.replicate p.d.length false) (List.replicate p.d.length false) true ?_ ?_ ?_ ?_ (by simp) (by simp) ?_ ?_) ?_
  ·exact tH
  ·rw[← cS0];exact (tH1 @Z4)
  ·rw[← cS0];exact (tH1 @Z4)
  iterate 3 exact (tH1 @Z4)
  ·intro h e x
   intros
   rename_i c a k cE g r
   refine S0 ?_
   rw[bL0]
   refine S0 ?_
   refine ⟨_,⟨e,x,rfl,c,a⟩,?_⟩
   unfold my myC nsV bvV
   rw[List.length_map,c,a]
   have f:∀ (b:Nat) (l:List Zb),1≤b→l.length=p.d.length→cells h b=some (bvs l,eB,false)→FzV (pp G).P 1 h (.slice (some ⟨b,0,none⟩) p.d.length p.d.length) (Rw false eB p.d.length (bvs l)):=λb l B y m=>
    .sl (size:=1) Z0 m rfl Z1 (by rw[jR0];omega) (.inl ⟨by simp only[UC];omega,Z3 _⟩) (by rw[List.drop_zero,List.take_of_length_le (by rw[jR0];omega)];exact .ids (yY0 _ _))
   exact .ptr Z0 r (by simp) (.cons (.id (eK0 _ Z0 _ _ _)) (.cons (f _ e Z0 c cE) (.cons (f _ x Z0 a g) .nil)))
def FrR (σ:jA)(b n:Nat)(v:Z6)(σ':jA):Prop:=v=undef∧∃ is:List Zb,is.length=n∧σ'=σ.put b (O (bvs is) eB false)
inductive I99 (D:List (List Zu))(e x:List Zb)(σ:jA)(b:Nat)(p:Pr):Nat→S→Prop
 | mk (i : Nat) (iv : Int) (h : jA) (is : List Zb) {x1 x3 x5 x6 x7 x8 xA xB xC xD xE xF xG xH xI xJ xK xL xM xN xO xP xQ xR xS xT xU xV xW xX xY xZ yA yB yC yD yE yF yG yH yI yJ yK yL yM yN yO yP yQ yR yS yT yU yV yW yX yY yZ zA zB zC zD zF : Z6} (hiv : iv = (i : Int)) (hi : i ≤ p.l.length)
   (cb:cells h b=some (bvs is,eB,false)) (hl:is.length=D.length) (c0:cells h σ.next=some (prC p,epr,false)) (g:jC σ h (λk=>k=b)) (hl2:σ.next+1≤h.next) :
  I99 D e x σ b p (p.l.length-i) ⟨(F67 (my D e x) x1 (.slice (some ⟨b,0,none⟩) D.length D.length) x3 (.pointer (some ⟨σ.next,0,none⟩)) x5 x6 x7 x8 (.int .i64 iv) xA xB xC xD xE xF xG xH xI xJ xK xL xM xN xO xP xQ xR xS xT xU xV xW xX xY xZ yA yB yC yD yE yF yG yH yI yJ yK yL yM yN yO yP yQ yR yS yT yU yV yW yX yY yZ zA zB zC zD zF),[],h⟩
theorem uN0 {σ h:jA}{b n:Nat}{P:Z9}{is:List Zb}(c:σ.lo≤b)(e:0<σ.next)(j:b<σ.next)(f:cells h b=some (bvs is,eB,false))(i:is.length=n)(g:jC σ h (λk=>k=b)) :
  ∃ d a,FrR σ b n d a∧FzV P a.next h undef d∧cJ P σ a h:=
 ⟨undef,_,⟨rfl,is,i,rfl⟩,.id rfl,.put1 g j c f (.ids (yY0 _ _)) (tL0 _)⟩
theorem rA1 (V L D:List (List Zu))(e x:List Zb)(hD:D.length<1000000000000000)(he:e.length=D.length)(hx:x.length=D.length):∀ (p:Pr),smP V L p=true→∀ (σ:jA) (b:Nat) (is:List Zb) (A:cells σ b=some (bvs is,eB,false)) (d:is.length=D.length) (c:1≤b) (s:b<σ.next),
  jH (pp G) H0 133 [my D e x,prV p,.slice (some ⟨b,0,none⟩) D.length D.length] σ (FrR σ b D.length)
 | .mk k n t ee l,hs,σ,b,is,A,d,c,s=>by
  simp only[smP,Z5,Bool.or_eq_true,decide_eq_true_eq] at hs
  obtain ⟨hll,hse,hk2,hk6,H,v⟩:=hs
  have X:∀ y∈l,∀ (σ:jA) (b:Nat) (is:List Zb) (A:cells σ b=some (bvs is,eB,false)) (d:is.length=D.length) (c:1≤b) (s:b<σ.next),
   jH (pp G) H0 133 [my D e x,prV y,.slice (some ⟨b,0,none⟩) D.length D.length] σ (FrR σ b D.length):=λy J=>rA1 V L D e x hD he hx y (zK0 v y J)
  have E:=zK0 v
  clear v
  refine jH.wlog λr hH0 hp0 hlo=>?_;rw[uU] at r;refine jH.cutE (jH.fir4 (q:=qq) (jV G) eZ3 Z7 rfl rfl (zB3 ..) (by rw[r];exact (show NGG≤1 by decide)) ?_);rw[kW2]
  have M:¬ b=σ.next:=Z0
  by_cases F:k=13
  ·subst F
   push_cast(disch:=first|omega|(apply id;push_cast;try omega))[myC]
   refine dL (cI0 G D n hD) ?_
   rintro _ ⟨j,rfl,⟨hj1,T⟩,_⟩
   refine ⟨rfl,?_⟩
   by_cases hj:j ≥ 0
   ·have N:j<D.length:=T
    have o:j.toNat<is.length:=Z0
    have P:=jR0 is
    have Y:=lO0 is j.toNat true o
    push_cast(disch:=first|omega|(apply id;push_cast;try omega))[hj,N,o,A,P,Y,r,M]
    refine uN0 (is:=is.set j.toNat true) Z0 Z0 s ?_ (by simp[d]) ?_
    ·exact tH
    ·exact (by repeat (first|exact jC.refl _ _|assumption|(refine jC.put'' ?_ _ _ (by intro _;first|rfl|omega|(simp only[push_cast] at *;omega)))|(refine jC.add' ?_ _)))
   ·push_cast(disch:=first|omega|(apply id;push_cast;try omega))[hj]
    refine uN0 (is:=is) Z0 Z0 s ?_ d ?_
    ·exact (tH1 A)
    ·exact (by repeat (first|exact jC.refl _ _|assumption|(refine jC.put'' ?_ _ _ (by intro _;first|rfl|omega|(simp only[push_cast] at *;omega)))|(refine jC.add' ?_ _)))
  ·by_cases C:k=12
   ·subst C
    obtain ⟨z,K,l,rfl⟩:∃ z K l',l=z :: K :: l':=by
     match l,H with
     | [],h=>simp at h
     | [_],h=>simp at h
     | z :: K :: l',_=>exact ⟨_,_,_,rfl⟩
    have R:8≤(l.length+1+1)*8:=Z0
    have w:8+8≤(l.length+1+1)*8:=Z0
    have u:1<l.length+1+1:=Z0
    push_cast(disch:=first|omega|(apply id;push_cast;try omega))[R,w,u]
    refine jE.func (cap:=[]) (args:=[_,_,_]) (X z (by simp) _ b is ?_ d c ?_) ?_
    iterate 2 exact (tH1 A)
    rintro _ _ ⟨rfl,f,a,rfl⟩
    push_cast(disch:=first|omega|(apply id;push_cast;try omega))[R,w,u]
    refine dL (qS2 G V L D e x hD he hx z (E z (by simp))) ?_
    rintro _ ⟨aa,bb,rfl⟩
    refine ⟨rfl,?_⟩
    cases aa with
    | false=>
     push_cast(disch:=first|omega|(apply id;push_cast;try omega))
     refine uN0 (is:=f) Z0 Z0 s ?_ a ?_
     ·exact tH
     ·exact (by repeat (first|exact jC.refl _ _|assumption|(refine jC.put'' ?_ _ _ (by intro _;first|rfl|omega|(simp only[push_cast] at *;omega)))|(refine jC.add' ?_ _)))
    | true=>
     push_cast(disch:=first|omega|(apply id;push_cast;try omega))[R,w,u]
     refine jE.func (cap:=[]) (args:=[_,_,_]) (X K (by simp) _ b f ?_ a c ?_) ?_
     iterate 2 exact tH
     rintro _ _ ⟨rfl,Z,I,rfl⟩
     push_cast(disch:=first|omega|(apply id;push_cast;try omega))
     refine uN0 (is:=Z) Z0 Z0 s ?_ I ?_
     ·exact tH
     ·exact (by repeat (first|exact jC.refl _ _|assumption|(refine jC.put'' ?_ _ _ (by intro _;first|rfl|omega|(simp only[push_cast] at *;omega)))|(refine jC.add' ?_ _)))
   ·push_cast(disch:=first|omega|(apply id;push_cast;try omega))[C,F]
    refine WD.loop4 (q:=qq) (jV G) Z7 (I99 D e x σ b (.mk k n t ee l)) ?_ _ _ (I99.mk 0 0 _ is rfl (Nat.zero_le _) ?_ d ?_ ?_ ?_)
    ·intro m s1 hI
     cases hI with|mk i iv h is hiv hi cb d c0 g I=>
     subst hiv
     simp only[Pr.l_mk] at hi
     have a:h.lo=1:=by rw[g.lo,r]
     rw[rC0]
     by_cases B:(i:Int)<l.length
     ·obtain ⟨y,J⟩:=jT (l:=l) (i:=i) Z0
      have hp:=uJ0 J
      have o:i*8+8≤l.length*8:=Z0
      push_cast(disch:=first|omega|(apply id;push_cast;try omega))[B,c0,hp,o,Z4,a]
      refine jE.func (cap:=[]) (X y (List.mem_of_getElem? J) h b is cb d c Z0) ?_
      rintro _ _ ⟨rfl,f,a,rfl⟩
      push_cast(disch:=first|omega|(apply id;push_cast;try omega))
      refine ⟨_,by simp only[Pr.l_mk];omega,I99.mk (i+1) _ _ f Z2 (by simp only[Pr.l_mk];omega) ?_ a ?_ ?_ ?_⟩
      iterate 2 exact (tH1 c0)
      ·exact (by repeat (first|exact jC.refl _ _|assumption|(refine jC.put'' ?_ _ _ (by intro _;first|rfl|omega|(simp only[push_cast] at *;omega)))|(refine jC.add' ?_ _)))
      ·exact tH
     ·push_cast(disch:=first|omega|(apply id;push_cast;try omega))[B,c0]
      exact uN0 (is:=is) Z0 Z0 s cb d g
    ·exact (tH1 A)
    ·exact (by push_cast(disch:=first|omega|(apply id;push_cast;try omega));first|done|rfl)
    ·exact (by repeat (first|exact jC.refl _ _|assumption|(refine jC.put'' ?_ _ _ (by intro _;first|rfl|omega|(simp only[push_cast] at *;omega)))|(refine jC.add' ?_ _)))
    ·exact tH
 termination_by p=>SizeOf.sizeOf p
abbrev eBB:Nat:=168
def eU1 (h:jA)(lo n:Nat)(vs:List Z6)(a:Z8 Addr):Prop:=
 ∀ (j:Nat) (v:Z6),vs[j]?=some v→∃ b l,v=.slice (some ⟨b,0,none⟩) n n∧cells h b=some (bvs l,eB,false)∧l.length=n∧lo≤b∧b<h.next∧¬ blk a b
theorem eU1.step {h d:jA}{lo n:Nat}{vs:List Z6}{q m:Z8 Addr}(p:eU1 h lo n vs q)(g:jC h d (λk=>blk q k))(A:lo≤h.next){b:Nat}{l:List Zb}(z:cells d b=some (bvs l,eB,false))(r:l.length=n)(D:h.next≤b)(u:b<d.next)(B:¬ blk m b)(t:∀ k,blk m k→blk q k∨h.next≤k):eU1 d lo n (vs++[Value.slice (some ⟨b,0,none⟩) n n]) m:=by
 intro j v a
 by_cases w:j<vs.length
 ·rw[List.getElem?_append_left w] at a
  obtain ⟨b',y,e,f,i,s,C,o⟩:=p j v a
  have:=g.next
  refine ⟨b',y,e,g.cellsE f C o,i,s,Z0,λc=>?_⟩
  rcases t _ c with c|c
  ·exact o c
  ·omega
 ·rw[List.getElem?_append_right Z0] at a
  have x:j-vs.length=0:=by
   have:=(List.getElem?_eq_some_iff.1 a).1
   simp at this
   omega
  rw[x] at a
  simp only[List.getElem?_cons_zero,Option.some.injEq] at a
  subst a
  exact ⟨b,l,rfl,z,r,Z0,u,B⟩
theorem yR3 (v:Z6)(a:one v=true)(c:v.cells.toList=[v])(σ:jA):bsD (qq.m 166) (slT prog 166) 1 [(0,v)] σ=some (Rw true eBB 1 [v],σ):=by
 have:bsD false (some (eBB,1,[Value.slice none 0 0])) 1 [(0,v)] σ=some (Rw true eBB 1 [v],σ):=by
  rw[oH0 _ _ _ _ Z1]
  have h:cA ((List.range 1).map (λi=>(i*1,1))) (List.replicate 1 [Value.slice none 0 0]).flatten [(0,v)]=some [v]:=by
   simp[cA,c,setFrom]
  rw[h]
  exact qN2 1 (by simp[a]) Z0
 exact this
inductive I95 (p:Pg)(e x:List Zb)(σ:jA):Nat→S→Prop
 | mk (i : Nat) (iv : Int) (h : jA) (q : Z8 Addr) (c : Nat) (vs : List Z6) {x0 x2 x6 x7 x8 x9 xA xB xC xD xE xF xG xH xI xJ xK xL xM xN xO xP xQ xR xS xT xU xV xW xX xY xZ yA yB : Z6} (hiv : iv = (i : Int)) (hi : i ≤ p.d.length)
   (c0:cells h σ.next=some (pgC p,76,false)) (ho:qY h eBB 1 q i c vs) (hv:eU1 h (σ.next+1) p.d.length vs q) (hq:∀ b,blk q b→σ.next+1≤b) (g:jC σ h (λ_=>False)) (hl2:σ.next+1≤h.next) :
  I95 p e x σ (p.d.length-i) ⟨(F38 x0 (.pointer (some ⟨σ.next,0,none⟩)) x2 (my (p.d.map Prod.fst) e x) (.slice q i c) (.int .i64 iv) x6 x7 x8 x9 xA xB xC xD xE xF xG xH xI xJ xK xL xM xN xO xP xQ xR xS xT xU xV xW xX xY xZ yA yB),[],h⟩
def FrsR (p:Pg)(σ:jA)(v:Z6)(σ':jA):Prop:=∃ q c vs,v=.slice q p.d.length c∧qY σ' eBB 1 q p.d.length c vs∧eU1 σ' (σ.next+1) p.d.length vs q∧(∀ b,blk q b→σ.next+1≤b)∧jC σ σ' (λ_=>False)
theorem bL2 (V F:List (List Zu))(p:Pg)(hv:p.v.length≤20)(hd:p.d.length≤20)(hn:1≤p.d.length)(hs:∀ x∈p.d,smP V F x.2=true)(σ:jA) :
  jH (pp G) H0 101 [pgV p] σ (FrsR p σ):=by
 refine jH.wlog λz hH0 hp0 hlo=>?_
 rw[uU] at z
 refine jH.fir4 (q:=qq) (jV G) fU3 Z7 rfl rfl (zK3 ..) (by first|exact Nat.le_trans (show NGG≤1 by decide) Z0) ?_;rw[yR2]
 unfold pgV
 have K:(pgC p).all one=true:=rfl
 have L:(pgC p).length=3:=rfl
 have N:(pgC p).take 3=pgC p:=rfl
 push_cast(disch:=first|omega|(apply id;push_cast;try omega))[K,L,N]
 rw[show Value.agg ⟨pgC p⟩=pgV p from rfl]
 refine dL (kC2 G V F p hv hd hn hs) ?_
 rintro _ ⟨e,x,rfl,he,hx⟩
 refine ⟨bD3 _ (by rw[jM];omega) ..,?_⟩
 push_cast(disch:=first|omega|(apply id;push_cast;try omega))
 refine WD.loop4 (q:=qq) (jV G) Z7 (I95 p e x σ) ?_ _ _ (I95.mk 0 0 _ none 0 [] rfl (Nat.zero_le _) ?_ (qY.nil _ _ _) (λj v h=>by simp at h) (λb a=>by obtain ⟨o,s,e⟩:=a;cases e) ?_ ?_)
 ·intro m s1 hI
  cases hI with|mk i iv h q c vs M hi c0 J u D g hl2=>
  subst M
  have I:h.lo=1:=by rw[g.lo,z]
  rw[rV0]
  have r:(p.d.map Prod.fst).length=p.d.length:=List.length_map ..
  have C:=c0
  unfold pgC at C
  have H:=lL0 p.d
  by_cases w:(i:Int)<p.d.length
  ·obtain ⟨y,Z⟩:=jT (l:=p.d) (i:=i) Z0
   have hg:=(cQ0 Z).2
   have R:i*9+9≤p.d.length*9:=Z0
   have h1:(p.d.length:Int)*1+p.d.length<100000000000000:=Z0
   unfold my myC nsV
   push_cast(disch:=first|omega|(apply id;push_cast;try omega))[w,C,H,hg,R,r,h1,Z4,I,List.length_map]
   have X:Rpt 0 [Rw false eS p.d.length (nss (p.d.map Prod.fst)),bvV e,bvV x]=my (p.d.map Prod.fst) e x:=by unfold my myC nsV;rw[List.length_map]
   rw[X]
   have Y:=rA1 G V F (p.d.map Prod.fst) e x Z0 Z0 Z0 y.2 (pP0 hs Z) (h.add (O (List.replicate p.d.length [Value.bool false]).flatten 4 false)) h.next (List.replicate p.d.length false) (by rw[← cS0];exact tH) (by simp) Z0 (by rw[jB];omega)
   rw[r] at Y
   refine jE.func (cap:=[]) (args:=[_,_,_]) Y ?_
   rintro _ _ ⟨rfl,is,B,rfl⟩
   have f:jC h ((h.add (O (List.replicate p.d.length [Value.bool false]).flatten 4 false)).put h.next (O (bvs is) eB false)) (λ_=>False):=(by repeat (first|exact jC.refl _ _|assumption|(refine jC.put'' ?_ _ _ (by intro _;first|rfl|omega|(simp only[push_cast] at *;omega)))|(refine jC.add' ?_ _)))
   have A:cells ((h.add (O (List.replicate p.d.length [Value.bool false]).flatten 4 false)).put h.next (O (bvs is) eB false)) h.next=some (bvs is,eB,false):=by push_cast(disch:=first|omega|(apply id;push_cast;try omega));first|done|rfl
   have E:((h.add (O (List.replicate p.d.length [Value.bool false]).flatten 4 false)).put h.next (O (bvs is) eB false)).next=h.next+1:=by push_cast(disch:=first|omega|(apply id;push_cast;try omega));first|done|rfl
   push_cast(disch:=first|omega|(apply id;push_cast;try omega))[↓yR3]
   generalize (h.add (O (List.replicate p.d.length [Value.bool false]).flatten 4 false)).put h.next (O (bvs is) eB false)=h2 at f A E ⊢
   have hl2':=f.lo
   obtain ⟨a',c',σ',e',o',g',b'⟩:=cM (by_:=24) (J.grew f λ_ _ h=>h) Z0 Z0 (m:=1) (xs:=[Value.slice (some ⟨h.next,0,none⟩) p.d.length p.d.length]) rfl rfl Z0
   have hn':=g'.next
   have hl':=g'.lo
   have n:∀ k,blk q k→k<h.next:=λk t=>(qY.lt J t).2
   have P:jC h σ' (λk=>blk q k):=(f.mono λ_ _ T=>T.elim).tr' g' λ_ _ T=>T
   push_cast(disch:=first|omega|(apply id;push_cast;try omega))[e']
   refine ⟨_,Z0,I95.mk (i+1) _ _ a' c' (vs++[_]) Z2 Z0 ?_ o' (u.step P Z0 (b:=h.next) (l:=is) (g'.cellsE A Z0 ?_) B (Z3 _) Z0 ?_ ?_) ?_ ?_ ?_⟩
   ·exact P.cellsE c0 Z0 (λa=>by have:=D _ a;omega)
   ·intro a;have:=n _ a;omega
   ·intro a
    rcases b' _ a with a|a
    ·have:=n _ a;omega
    ·omega
   ·intro k t
    rcases b' k t with a|a
    ·exact .inl a
    ·exact .inr Z0
   ·intro k t
    rcases b' k t with a|a
    ·exact D k a
    ·omega
   ·exact (g.trans P λk t a=>by have:=D k a;omega)
   ·omega
  ·obtain rfl:i=p.d.length:=Z0
   push_cast(disch:=first|omega|(apply id;push_cast;try omega))[w,r,myC,nsV]
   rw[rU0]
   push_cast(disch:=first|omega|(apply id;push_cast;try omega))
   exact ⟨q,c,vs,rfl,J,u,D,g⟩
 ·exact tH
 ·exact (by repeat (first|exact jC.refl _ _|assumption|(refine jC.put'' ?_ _ _ (by intro _;first|rfl|omega|(simp only[push_cast] at *;omega)))|(refine jC.add' ?_ _)))
 ·exact tH
structure Sq (h:jA)(n bq c:Nat)(m:Zb)(vs:List Z6):Prop where
 len:vs.length=n
 c:cells h bq=some (vs,eBB,m)
 rows:eU1 h 2 n vs (some ⟨bq,0,none⟩)
 lo:h.lo=1
 b1:2≤bq
 b2:bq<h.next
theorem Sq.row {h:jA}{n a c:Nat}{m:Zb}{vs:List Z6}(s:Sq h n a c m vs){i:Nat}(hi:i<n):∃ b l,vs[i]?=some (.slice (some ⟨b,0,none⟩) n n)∧cells h b=some (bvs l,eB,false)∧l.length=n∧2≤b∧b<h.next∧¬ b=a:=by
 obtain ⟨v,d⟩:∃ v,vs[i]?=some v:=⟨_,List.getElem?_eq_getElem (by rw[s.len];exact hi)⟩
 obtain ⟨b,l,rfl,k,j,g,o,f⟩:=s.rows i v d
 exact ⟨b,l,d,k,j,g,o,λe=>f ⟨0,none,by rw[e]⟩⟩
theorem Sq.put {h:jA}{n d c:Nat}{m:Zb}{vs:List Z6}(s:Sq h n d c m vs){b:Nat}(t:¬ b=d){l:List Zb}(k:l.length=n):Sq (h.put b (O (bvs l) eB false)) n d c m vs:=by
 refine ⟨s.len,?_,λj v o=>?_,s.lo,s.b1,s.b2⟩
 ·rw[qV (qC b _ d (λe=>t e.symm))];exact s.c
 ·obtain ⟨b',p,e,r,q,g,i,f⟩:=s.rows j v o
  by_cases a:b'=b
  ·subst a
   exact ⟨b',l,e,by push_cast(disch:=first|omega|(apply id;push_cast;try omega));first|done|rfl,k,g,i,f⟩
  ·exact ⟨b',p,e,by rw[qV (qC b _ b' a)];exact r,q,g,i,f⟩
inductive I87k (n bq c:Nat)(m:Zb)(vs:List Z6):Nat→S→Prop
 | mk (k:Nat) (kv:Int) (h:jA) {x0 x1 x2 x6 x7 x8 x9 xA xB xC xD xE xF xG xH xI xJ xK xL xM xN xO xP xQ xR xS xT xU xV xW xX xY xZ yA yB yC yD yE yF yG yH yI yJ yK yL yM yN yO yP yQ yR yS yT yU yV yW yX yY yZ zA zB zC zD zF zG zH zI zJ:Z6} (hkv:kv=(k:Int)) (hk:k≤n) (s:Sq h n bq c m vs) :
  I87k n bq c m vs (n-k) ⟨(F71 x0 x1 x2 (.slice (some ⟨bq,0,none⟩) n c) (.int .i64 n) (.int .i64 kv) x6 x7 x8 x9 xA xB xC xD xE xF xG xH xI xJ xK xL xM xN xO xP xQ xR xS xT xU xV xW xX xY xZ yA yB yC yD yE yF yG yH yI yJ yK yL yM yN yO yP yQ yR yS yT yU yV yW yX yY yZ zA zB zC zD zF zG zH zI zJ),[],h⟩
inductive I87i (n bq c:Nat)(m:Zb)(vs:List Z6)(k:Nat):Nat→S→Prop
 | mk (i:Nat) (iv:Int) (h:jA) {x0 x1 x2 x7 x8 x9 xA xB xC xD xE xF xG xH xI xJ xK xL xM xN xO xP xQ xR xS xT xU xV xW xX xY xZ yA yB yC yD yE yF yG yH yI yJ yK yL yM yN yO yP yQ yR yS yT yU yV yW yX yY yZ zA zB zC zD zF zG zH zI zJ:Z6} (hiv:iv=(i:Int)) (hi:i≤n) (s:Sq h n bq c m vs) :
  I87i n bq c m vs k (n-i) ⟨(F71 x0 x1 x2 (.slice (some ⟨bq,0,none⟩) n c) (.int .i64 n) (.int .i64 k) (.int .i64 iv) x7 x8 x9 xA xB xC xD xE xF xG xH xI xJ xK xL xM xN xO xP xQ xR xS xT xU xV xW xX xY xZ yA yB yC yD yE yF yG yH yI yJ yK yL yM yN yO yP yQ yR yS yT yU yV yW yX yY yZ zA zB zC zD zF zG zH zI zJ),[],h⟩
inductive I87j (n bq c:Nat)(m:Zb)(vs:List Z6)(k i:Nat):Nat→S→Prop
 | mk (j:Nat) (jv:Int) (h:jA) {x0 x1 x2 x8 x9 xA xB xC xD xE xF xG xH xI xJ xK xL xM xN xO xP xQ xR xS xT xU xV xW xX xY xZ yA yB yC yD yE yF yG yH yI yJ yK yL yM yN yO yP yQ yR yS yT yU yV yW yX yY yZ zA zB zC zD zF zG zH zI zJ:Z6} (hjv:jv=(j:Int)) (hj:j≤n) (s:Sq h n bq c m vs) :
  I87j n bq c m vs k i (n-j) ⟨(F71 x0 x1 x2 (.slice (some ⟨bq,0,none⟩) n c) (.int .i64 n) (.int .i64 k) (.int .i64 i) (.int .i64 jv) x8 x9 xA xB xC xD xE xF xG xH xI xJ xK xL xM xN xO xP xQ xR xS xT xU xV xW xX xY xZ yA yB yC yD yE yF yG yH yI yJ yK yL yM yN yO yP yQ yR yS yT yU yV yW yX yY yZ zA zB zC zD zF zG zH zI zJ),[],h⟩
inductive I87e (n bq c:Nat)(m:Zb)(vs:List Z6):Nat→S→Prop
 | mk (i:Nat) (iv:Int) (h:jA) {x0 x1 x2 x5 x6 x7 x9 xA xB xC xD xE xF xG xH xI xJ xK xL xM xN xO xP xQ xR xS xT xU xV xW xX xY xZ yA yB yC yD yE yF yG yH yI yJ yK yL yM yN yO yP yQ yR yS yT yU yV yW yX yY yZ zA zB zC zD zF zG zH zI zJ:Z6} (hiv:iv=(i:Int)) (hi:i≤n) (s:Sq h n bq c m vs) :
  I87e n bq c m vs (n-i) ⟨(F71 x0 x1 x2 (.slice (some ⟨bq,0,none⟩) n c) (.int .i64 n) x5 x6 x7 (.int .i64 iv) x9 xA xB xC xD xE xF xG xH xI xJ xK xL xM xN xO xP xQ xR xS xT xU xV xW xX xY xZ yA yB yC yD yE yF yG yH yI yJ yK yL yM yN yO yP yQ yR yS yT yU yV yW yX yY yZ zA zB zC zD zF zG zH zI zJ),[],h⟩
def isB (d:Z6):Prop:=∃ b:Zb,d=.bool b
theorem rY2 (V Sk:List (List Zu))(p:Pg)(hv:p.v.length≤20)(hd:p.d.length≤20)(hn:1≤p.d.length)(hs:∀ x∈p.d,smP V Sk x.2=true) :
  bW (pp G) H0 65 [pgV p] isB:=by
 refine cY G fir65 Z7 (wZ3 ..) λhlo=>?_;rw[pS2]
 unfold pgV
 have hpo:(pgC p).all one=true:=rfl
 have hpl:(pgC p).length=3:=rfl
 have hpt:(pgC p).take 3=pgC p:=rfl
 refine S3 hpo hpl hpt ?_
 rw[show Value.agg ⟨pgC p⟩=pgV p from rfl]
 refine jE.func (cap:=[]) (args:=[_]) (bL2 G V Sk p hv hd hn hs _) ?_
 rintro _ h ⟨q,c,vs,rfl,Y,y,hq,g⟩
 obtain ⟨o,m,rfl,b1,b2,N,_⟩:∃ o m,q=some ⟨o,0,none⟩∧h.lo≤o∧o<h.next∧cells h o=some (vs,eBB,m)∧((m=true∧c=UC)∨(m=false∧c=p.d.length)):=by
  rcases Y.hat with ⟨_,h0,_⟩|h1
  ·omega
  ·exact h1
 have t:=hq o ⟨0,none,rfl⟩
 have L:=g.lo
 have I:(H0.add (O (pgC p) 76 false)).next=2:=by rw[jB,uU]
 have E:(H0.add (O (pgC p) 76 false)).lo=1:=by rw[jM,wN2]
 rw[I] at t y
 have Z:Sq h p.d.length o c m vs:=⟨by have:=Y.hlen;omega,N,λj v hj=>by
  obtain ⟨b,l,e,h1,h2,h3,h4,h5⟩:=y j v hj
  exact ⟨b,l,e,h1,h2,Z0,h4,h5⟩,by rw[L,E],Z0,b2⟩
 have hd':p.d.length<1000:=Z0
 generalize p.d.length=n at Z hd'
 clear Y y hq g b1 b2 N t L I E hn hd hs hv
 refine S0 ?_
 refine WD.loop4 (q:=qq) (jV G) Z7 (I87k n o c m vs) ?_ _ _ (I87k.mk 0 0 h rfl (Nat.zero_le _) Z)
 clear Z h
 intro μ s1 B
 cases B with|mk k kv h hkv hk s=>
 subst hkv
 rw[yC1]
 by_cases A:(k:Int)<n
 ·refine S1 A ?_
  refine WD.loop4 (q:=qq) (jV G) Z7 (I87i n o c m vs k) ?_ _ _ (I87i.mk 0 0 h rfl (Nat.zero_le _) s)
  clear s h
  intro μ s2 B
  cases B with|mk i iv h z hi s=>
  subst z
  rw[yA1]
  by_cases a:(i:Int)<n
  ·refine S1 a ?_
   refine WD.loop4 (q:=qq) (jV G) Z7 (I87j n o c m vs k i) ?_ _ _ (I87j.mk 0 0 h rfl (Nat.zero_le _) s)
   clear s h
   intro μ s3 B
   cases B with|mk j jv h hjv hj s=>
   subst hjv
   rw[kW1]
   by_cases M:(j:Int)<n
   ·obtain ⟨bi,w,X,ci,r,bi1,bi2,H⟩:=s.row (i:=i) Z0
    obtain ⟨bk,lk,rk,ck,hlk,bk1,bk2,bk3⟩:=s.row (i:=k) Z0
    have J:=uW0 (l:=w) (i:=j) Z0
    have K:=uW0 (l:=w) (i:=k) Z0
    have D:=uW0 (l:=lk) (i:=j) Z0
    have R:=s.c
    have T:=s.len
    have u:=s.lo
    have t:=s.b1
    have f:i<n:=Z0
    have F:k<n:=Z0
    have P:j<n:=Z0
    have hst:=λb=>lO0 w j b Z0
    generalize w.getD j false=x1 at J
    generalize w.getD k false=x2 at K
    generalize lk.getD j false=x3 at D
    cases x1<;>cases x2<;>cases x3<;>push_cast(disch:=first|omega|(apply id;push_cast;try omega))[M,a,A,R,T,X,rk,ci,ck,J,K,D,f,F,P,u,r,hlk,Z4,hst]
    all_goals exact ⟨_,Z0,I87j.mk (j+1) _ _ Z2 Z0 (s.put H (by simp[r]))⟩
   ·refine S1 M ?_
    rw[kV1]
    refine S0 ?_
    exact ⟨_,Z0,I87i.mk (i+1) _ h Z2 Z0 s⟩
  ·refine S1 a ?_
   rw[kZ1]
   refine S0 ?_
   exact ⟨_,Z0,I87k.mk (k+1) _ h Z2 Z0 s⟩
 ·refine S1 A ?_
  rw[yB1]
  refine S0 ?_
  refine WD.loop4 (q:=qq) (jV G) Z7 (I87e n o c m vs) ?_ _ _ (I87e.mk 0 0 h rfl (Nat.zero_le _) s)
  clear s h
  intro μ s2 B
  cases B with|mk i iv h z hi s=>
  subst z
  rw[kY1]
  by_cases a:(i:Int)<n
  ·obtain ⟨bi,w,X,ci,r,bi1,bi2,H⟩:=s.row (i:=i) Z0
   have C:=uW0 (l:=w) (i:=i) Z0
   have R:=s.c
   have T:=s.len
   have u:=s.lo
   have t:=s.b1
   have f:i<n:=Z0
   generalize w.getD i false=x1 at C
   cases x1
   ·push_cast(disch:=first|omega|(apply id;push_cast;try omega))[a,R,T,X,ci,C,f,u,r,Z4]
    exact ⟨_,Z0,I87e.mk (i+1) _ h Z2 Z0 s⟩
   ·push_cast(disch:=first|omega|(apply id;push_cast;try omega))[a,R,T,X,ci,C,f,u,r,Z4]
    exact ⟨_,⟨_,rfl⟩,.id rfl⟩
  ·refine S1 a ?_
   rw[kX1]
   refine S0 ?_
   exact ⟨_,⟨_,rfl⟩,.id rfl⟩
structure Co where
 v:List Int
 s:Int
 p:List Tm
 m:Int
def coC (c:Co):List Z6:=[ivV c.v,.int .i64 c.s,qP c.p,.int .i64 c.m]
def coV (c:Co):Z6:=.agg ⟨coC c⟩
def gQ2 (p:Pg):List Tm:=kO (p.v.map Prod.fst) p.s (p.d.map Prod.fst) (p.d.map Prod.snd)
def LowR (p:Pg)(d:Z6):Prop:=∃ c e,d=.tuple ⟨[coV c,.int .i64 e]⟩∧c.p.length<1000∧dI c.p=true∧(e=0→1≤c.p.length)∧(e=0→c.p=gQ2 p)∧(e=0→c.v=p.v.map Prod.snd∧c.s=p.s.length∧0≤c.m∧c.m<p.d.length)
theorem sZ2 (l:List (List Zu)):one (nsV l)=true:=rfl
theorem mL1 (l:List (List Zu)):(nsV l).cells.toList=[nsV l]:=rfl
attribute [push_cast] sZ2 mL1
theorem rowI1 (x:Int)(σ:jA):bsD (qq.m 25) (slT prog 25) 1 [(0,.int .i64 x)] σ=some (Rw true eI 1 (ivs [x]),σ):=Z7
def coZ:List Z6:=[.slice none 0 0,.int .i64 0,.slice none 0 0,.int .i64 0]
abbrev tCo:Nat:=28
inductive I70v (p:Pg)(mn:Int):Nat→S→Prop
 | mk (i : Nat) (iv : Int) (h : jA) (q : Z8 Addr) (c : Nat) {x0 x3 x4 x5 x9 xA xB xC xD xE xF xG xH xI xJ xK xL xM xN xO xP xQ xR xS xT xU xV xW xX xY xZ yA yB yC yD yE yF yG yH yI yJ yK yL yM yN yO yP yQ yR yS yT yU yV yW yX yY yZ zA zB zC zD zF zG zH zI zJ zK zL zM zN zO zP zQ zR zS zT zU zV zW zX zY zZ wA wB wC wD wE wF wG wH wI wJ wK wL wM wN wO wP wQ wR wS wT wU wV wW : Z6} (hiv : iv = (i : Int)) (hi : i ≤ p.v.length)
   (c0:cells h 1=some (pgC p,76,false)) (c1:cells h 2=some (coZ,tCo,false)) (cw:cells h 3=some (lwC (p.v.map Prod.fst) p.s (p.d.map Prod.fst) false,tLw,false))
   (cc:cells h 4=some ([.slice q i c,.int .i64 p.s.length,.slice none 0 0,.int .i64 mn],tCo,false)) (ho:qY h eI 1 q i c (ivs ((p.v.map Prod.snd).take i))) (hq:∀ b,blk q b→5≤b) (hl1:h.lo=1) (hl2:5≤h.next) :
  I70v p mn (p.v.length-i) ⟨(F110 x0 (.pointer (some ⟨1,0,none⟩)) (.pointer (some ⟨2,0,none⟩)) x3 x4 x5 (.pointer (some ⟨3,0,none⟩)) (.pointer (some ⟨4,0,none⟩)) (.int .i64 iv) x9 xA xB xC xD xE xF xG xH xI xJ xK xL xM xN xO xP xQ xR xS xT xU xV xW xX xY xZ yA yB yC yD yE yF yG yH yI yJ yK yL yM yN yO yP yQ yR yS yT yU yV yW yX yY yZ zA zB zC zD zF zG zH zI zJ zK zL zM zN zO zP zQ zR zS zT zU zV zW zX zY zZ wA wB wC wD wE wF wG wH wI wJ wK wL wM wN wO wP wQ wR wS wT wU wV wW),[],h⟩
inductive I70p (p:Pg)(mn:Int)(q:Z8 Addr)(c:Nat):Nat→S→Prop
 | mk (i : Nat) (iv : Int) (h : jA) (bad : Zb) (q2 : Z8 Addr) (c2 : Nat) (ys : List Tm) {x0 x3 x4 x5 x8 xA xB xC xD xE xF xG xH xI xJ xK xL xM xN xO xP xQ xR xS xT xU xV xW xX xY xZ yA yB yC yD yE yF yG yH yI yJ yK yL yM yN yO yP yQ yR yS yT yU yV yW yX yY yZ zA zB zC zD zF zG zH zI zJ zK zL zM zN zO zP zQ zR zS zT zU zV zW zX zY zZ wA wB wC wD wE wF wG wH wI wJ wK wL wM wN wO wP wQ wR wS wT wU wV wW : Z6} (hiv : iv = (i : Int)) (hi : i ≤ p.d.length)
   (c0:cells h 1=some (pgC p,76,false)) (c1:cells h 2=some (coZ,tCo,false)) (cw:cells h 3=some (lwC (p.v.map Prod.fst) p.s (p.d.map Prod.fst) bad,tLw,false))
   (cc:cells h 4=some ([.slice q p.v.length c,.int .i64 p.s.length,.slice q2 i c2,.int .i64 mn],tCo,false)) (ho:qY h eI 1 q p.v.length c (ivs (p.v.map Prod.snd))) (hq:∀ b,blk q b→5≤b)
   (ho2:qY h etm 9 q2 i c2 (qN ys)) (hq2:∀ b,blk q2 b→5≤b∧¬ blk q b) (hys:ys.length=i∧dI ys=true) (hyp:ys=kO (p.v.map Prod.fst) p.s (p.d.map Prod.fst) ((p.d.map Prod.snd).take i)) (hl1:h.lo=1) (hl2:5≤h.next) :
  I70p p mn q c (p.d.length-i) ⟨(F110 x0 (.pointer (some ⟨1,0,none⟩)) (.pointer (some ⟨2,0,none⟩)) x3 x4 x5 (.pointer (some ⟨3,0,none⟩)) (.pointer (some ⟨4,0,none⟩)) x8 (.int .i64 iv) xA xB xC xD xE xF xG xH xI xJ xK xL xM xN xO xP xQ xR xS xT xU xV xW xX xY xZ yA yB yC yD yE yF yG yH yI yJ yK yL yM yN yO yP yQ yR yS yT yU yV yW yX yY yZ zA zB zC zD zF zG zH zI zJ zK zL zM zN zO zP zQ zR zS zT zU zV zW zX zY zZ wA wB wC wD wE wF wG wH wI wJ wK wL wM wN wO wP wQ wR wS wT wU wV wW),[],h⟩
theorem cB0 (p:Pg)(X:Int)(hv:p.v.length≤20)(μ:Nat)(s:S)(I:I70v p X μ s){R:jK→S→Prop}
  (hR:∀ (h:jA) (q:Z8 Addr) (c:Nat) {x0 x3 x4 x5 x8 x9 xA xB xC xD xE J xG xH xI xJ xK xL xM xN xO xP xQ xR xS xT N xV xW xX xY xZ yA yB yC yD yE K yG yH Y yJ yK yL yM yN yO yP yQ yR yS yT yU yV yW yX yY yZ zA T zC zD zF zG zH zI zJ zK zL zM zN P L zQ zR zS zT zU zV zW zX zY zZ wA wB wC wD wE wF wG wH wI wJ M wL Z A t y z o u F C D r:Z6},cells h 1=some (pgC p,76,false)→cells h 2=some (coZ,tCo,false)→cells h 3=some (lwC (p.v.map Prod.fst) p.s (p.d.map Prod.fst) false,tLw,false)→
   cells h 4=some ([.slice q p.v.length c,.int .i64 p.s.length,.slice none 0 0,.int .i64 X],tCo,false)→qY h eI 1 q p.v.length c (ivs (p.v.map Prod.snd))→(∀ b,blk q b→5≤b)→h.lo=1→5≤h.next→
   R (.exit 0) ⟨(F110 x0 (.pointer (some ⟨1,0,none⟩)) (.pointer (some ⟨2,0,none⟩)) x3 x4 x5 (.pointer (some ⟨3,0,none⟩)) (.pointer (some ⟨4,0,none⟩)) x8 x9 xA xB xC xD xE J xG xH xI xJ xK xL xM xN xO xP xQ xR xS xT N xV xW xX xY xZ yA yB yC yD yE K yG yH Y yJ yK yL yM yN yO yP yQ yR yS yT yU yV yW yX yY yZ zA T zC zD zF zG zH zI zJ zK zL zM zN P L zQ zR zS zT zU zV zW zX zY zZ wA wB wC wD wE wF wG wH wI wJ M wL Z A t y z o u F C D r),[],h⟩) :
  WD (pp G) qq.H none (.loop sV0) s R:=by
 refine WD.loop4 (q:=qq) (jV G) Z7 (I70v p X) ?_ _ _ I
 clear I s μ
 intro μ s1 I
 cases I with|mk i iv h q c hiv hi c0 c1 cw cc V j f hl2=>
 subst hiv
 rw[gG1]
 have g:=c0
 unfold pgC at g
 have w:=fC0 p.v
 by_cases n:(i:Int)<p.v.length
 ·obtain ⟨x,hx⟩:=jT (l:=p.v) (i:=i) Z0
  have hg:=(fG1 hx).2
  have hle:i*2+1<p.v.length*2:=Z0
  push_cast(disch:=first|omega|(apply id;push_cast;try omega))[n,g,cc,w,hg,hle,Z4,f,↓rowI1]
  obtain ⟨a',c',σ',e',o',g',b'⟩:=cM (by_:=8) V Z0 Z0 (m:=1) (xs:=ivs [x.2]) rfl rfl Z0
  have hta:(p.v.map Prod.snd).take (i+1)=(p.v.map Prod.snd).take i++[x.2]:=jY (by rw[List.getElem?_map,hx];rfl)
  rw[← yG0,← hta] at o'
  have hn':=g'.next
  have E:=g'.lo
  have k0:cells σ' 1=_:=g'.cellsE c0 Z0 (λa=>by have:=j _ a;omega)
  have k1:cells σ' 2=_:=g'.cellsE c1 Z0 (λa=>by have:=j _ a;omega)
  have kw:cells σ' 3=_:=g'.cellsE cw Z0 (λa=>by have:=j _ a;omega)
  have kc:cells σ' 4=_:=g'.cellsE cc Z0 (λa=>by have:=j _ a;omega)
  have B:∀ b,blk a' b→5≤b:=λb a=>by
   rcases b' b a with a|a
   ·exact j b a
   ·omega
  refine S4 e' @kc E f ?_
  refine ⟨_,Z0,I70v.mk (i+1) _ _ a' c' Z2 Z0 ?_ ?_ ?_ ?_ (o'.grew (S:=λk=>k=4) (jC.put _ _ _ λ_=>rfl) (λk hk e=>by have:=B k hk;omega)) B ?_ ?_⟩
  iterate 6 exact (by first|assumption|(push_cast(disch:=first|omega|(apply id;push_cast;try omega))[k0,k1,kw,E,f];try omega))
 ·obtain rfl:i=p.v.length:=Z0
  rw[List.take_of_length_le (by rw[List.length_map];exact Z3 _)] at V
  refine S3 n g w ?_
  exact hR h q c c0 c1 cw cc V j f hl2
theorem eM0 (p:Pg){σ:jA}(e:Int)(a:e≠0)(N:Nat):∃ d,LowR p d∧FzV (pp G).P N σ (.tuple ⟨[.agg ⟨[.slice none 0 0,.int .i64 0,.slice none 0 0,.int .i64 0]⟩,.int .i64 e]⟩) d:=
 ⟨_,⟨⟨[],0,[],0⟩,e,rfl,by decide,rfl,λh=>absurd h a,λh=>absurd h a,λh=>absurd h a⟩,.tup (.cons (.agg (.cons (.nil (size:=1) rfl Z1) (.cons (.id rfl) (.cons (.nil (size:=9) rfl Z1) (.cons (.id rfl) .nil))))) (.cons (.id rfl) .nil))⟩
theorem mS1 (p:Pg)(A:Int)(hmn:A<p.d.length)(hv:p.v.length≤20)(hst:p.s.length≤10)(hd:p.d.length≤20)(hn:1≤p.d.length)(hs:∀ x∈p.d,smP (p.v.map Prod.fst) p.s x.2=true)(h:jA)(q:Z8 Addr)(c:Nat){x0 x3 x4 x5 x8 x9 xA xB xC xD xE xF xG xH xI xJ xK xL xM xN xO xP xQ xR xS xT xU xV xW xX xY xZ yA yB yC yD yE yF yG yH yI yJ yK yL yM yN yO yP yQ yR yS yT yU yV yW yX yY yZ zA zB zC zD zF zG zH zI zJ zK zL zM zN zO zP zQ zR zS zT zU zV zW zX zY zZ wA wB wC wD wE wF wG wH wI wJ wK wL wM wN Z wP wQ V wS wT wU wV Y:Z6}
  (I:cells h 1=some (pgC p,76,false)) (c1:cells h 2=some (coZ,tCo,false)) (X:cells h 3=some (lwC (p.v.map Prod.fst) p.s (p.d.map Prod.fst) false,tLw,false))
  (D:cells h 4=some ([.slice q p.v.length c,.int .i64 p.s.length,.slice none 0 0,.int .i64 A],tCo,false)) (F:qY h eI 1 q p.v.length c (ivs (p.v.map Prod.snd))) (B:∀ b,blk q b→5≤b) (a:h.lo=1) (C:5≤h.next) :
  dc3 (pp G) qq none sU0 ⟨(F110 x0 (.pointer (some ⟨1,0,none⟩)) (.pointer (some ⟨2,0,none⟩)) x3 x4 x5 (.pointer (some ⟨3,0,none⟩)) (.pointer (some ⟨4,0,none⟩)) x8 x9 xA xB xC xD xE xF xG xH xI xJ xK xL xM xN xO xP xQ xR xS xT xU xV xW xX xY xZ yA yB yC yD yE yF yG yH yI yJ yK yL yM yN yO yP yQ yR yS yT yU yV yW yX yY yZ zA zB zC zD zF zG zH zI zJ zK zL zM zN zO zP zQ zR zS zT zU zV zW zX zY zZ wA wB wC wD wE wF wG wH wI wJ wK wL wM wN Z wP wQ V wS wT wU wV Y),[],h⟩ (@kR ⟨jR prog [(.cell 2 tCo),(.tmp 3)] (λv σ'=>∃ d,LowR p d∧FzV (pp G).P H0.next σ' v d)⟩):=by
 rw[gF1]
 refine S0 ?_
 refine WD.loop4 (q:=qq) (jV G) Z7 (I70p p A q c) ?_ _ _ (I70p.mk 0 0 h false none 0 [] rfl (Nat.zero_le _) I c1 X D F B (qY.nil _ _ _) (λb g=>by obtain ⟨o,s,e⟩:=g;cases e) ⟨rfl,rfl⟩ rfl a C)
 clear I c1 X D F a C h
 intro μ s1 hI
 cases hI with|mk i iv h bad q2 c2 H hiv hi I c1 X D F B J f w L a C=>
 subst hiv
 rw[gE1]
 have E:=I
 unfold pgC at E
 have u:=X
 unfold lwC at u
 have hdl:=lL0 p.d
 have hVl:(p.v.map Prod.fst).length<1000000000000000:=by rw[List.length_map];omega
 have hDl:(p.d.map Prod.fst).length<1000000000000000:=by rw[List.length_map];omega
 by_cases K:(i:Int)<p.d.length
 ·obtain ⟨y,hy⟩:=jT (l:=p.d) (i:=i) Z0
  have hg:=(cQ0 hy).2
  have hle:i*9+9≤p.d.length*9:=Z0
  push_cast(disch:=first|omega|(apply id;push_cast;try omega))[K,E,D,u,hdl,hg,hle,Z4,a]
  refine jE.func (cap:=[]) (args:=[_,_]) (lW2 G (p.v.map Prod.fst) p.s (p.d.map Prod.fst) hVl Z0 hDl y.2 (pP0 hs hy) h 3 bad X Z0 Z0) ?_
  rintro _ _ ⟨⟨t,rfl,ht,htE⟩,r,rfl⟩
  have M:jC h (h.put 3 (O (lwC (p.v.map Prod.fst) p.s (p.d.map Prod.fst) r) tLw false)) (λk=>k=3):=jC.put _ _ _ λ_=>rfl
  have w1:cells (h.put 3 (O (lwC (p.v.map Prod.fst) p.s (p.d.map Prod.fst) r) tLw false)) 3=some (lwC (p.v.map Prod.fst) p.s (p.d.map Prod.fst) r,tLw,false):=by push_cast(disch:=first|omega|(apply id;push_cast;try omega));first|done|rfl
  have p0:cells (h.put 3 (O (lwC (p.v.map Prod.fst) p.s (p.d.map Prod.fst) r) tLw false)) 1=_:=M.cellsE I Z0 Z0
  have p1:cells (h.put 3 (O (lwC (p.v.map Prod.fst) p.s (p.d.map Prod.fst) r) tLw false)) 2=_:=M.cellsE c1 Z0 Z0
  have pc:cells (h.put 3 (O (lwC (p.v.map Prod.fst) p.s (p.d.map Prod.fst) r) tLw false)) 4=_:=M.cellsE D Z0 Z0
  have ho':=F.grew M (λk j e=>by have:=B k j;omega)
  have T:=J.grew M (λk j e=>by have:=(f k j).1;omega)
  have hnp:(h.put 3 (O (lwC (p.v.map Prod.fst) p.s (p.d.map Prod.fst) r) tLw false)).next=h.next:=rfl
  have z:(h.put 3 (O (lwC (p.v.map Prod.fst) p.s (p.d.map Prod.fst) r) tLw false)).lo=h.lo:=rfl
  generalize h.put 3 (O (lwC (p.v.map Prod.fst) p.s (p.d.map Prod.fst) r) tLw false)=h1 at *
  push_cast(disch:=first|omega|(apply id;push_cast;try omega))[pc,↓rW2,z,a]
  obtain ⟨a',c',σ',e',o',g',b'⟩:=cM (by_:=120) T Z0 Z0 (m:=1) (xs:=qN [t]) (cD [t]) (qG0 _) Z0
  rw[← zG0] at o'
  have hn':=g'.next
  have hl':=g'.lo
  have k0:cells σ' 1=_:=g'.cellsE p0 Z0 (λg=>by have:=(f _ g).1;omega)
  have k1:cells σ' 2=_:=g'.cellsE p1 Z0 (λg=>by have:=(f _ g).1;omega)
  have kw:cells σ' 3=_:=g'.cellsE w1 Z0 (λg=>by have:=(f _ g).1;omega)
  have kc:cells σ' 4=_:=g'.cellsE pc Z0 (λg=>by have:=(f _ g).1;omega)
  have R:=ho'.grew g' (λk j e=>(f k e).2 j)
  have hb':∀ b,blk a' b→5≤b∧¬ blk q b:=λb g=>by
   rcases b' b g with g|g
   ·exact f b g
   ·exact ⟨Z0,λh1=>by have:=qY.lt F h1;omega⟩
  refine S5 e' @kc hl' z a ?_
  refine ⟨_,Z0,I70p.mk (i+1) _ _ r a' c' (H++[t]) Z2 Z0 ?_ ?_ ?_ ?_ (R.grew (S:=λk=>k=4) (jC.put _ _ _ λ_=>rfl) (λk j e=>by have:=B k j;omega)) B (o'.grew (S:=λk=>k=4) (jC.put _ _ _ λ_=>rfl) (λk j e=>by have:=(hb' k j).1;omega)) hb' ⟨by simp[w.1],fO0 w.2 (by rw[dI,ht];rfl)⟩ (by rw[eN0 _ _ _ (x:=y.2) (by rw[List.getElem?_map,hy];rfl),L,htE]) ?_ ?_⟩
  iterate 6 exact (by first|assumption|(push_cast(disch:=first|omega|(apply id;push_cast;try omega))[k0,k1,kw,hl',z,a];try omega))
 ·obtain rfl:i=p.d.length:=Z0
  refine S3 K E hdl ?_
  rw[gD1]
  have n:=c1
  unfold coZ at n
  have hfc:∀ N σ' e,0≤A→N=1→qY σ' eI 1 q p.v.length c (ivs (p.v.map Prod.snd))→qY σ' etm 9 q2 p.d.length c2 (qN H)→∃ d,LowR p d∧FzV (pp G).P N σ' (.tuple ⟨[.agg ⟨[.slice q p.v.length c,.int .i64 p.s.length,.slice q2 p.d.length c2,.int .i64 A]⟩,.int .i64 e]⟩) d:=λN σ' e hm0 hN h1 h2=>by
   subst hN
   refine ⟨_,⟨⟨p.v.map Prod.snd,p.s.length,H,A⟩,e,rfl,?_,w.2,λ_=>?_,λ_=>?_,λ_=>⟨rfl,rfl,hm0,hmn⟩⟩,?_⟩
   ·show H.length<1000;omega
   ·show 1≤H.length;omega
   ·show H=_;rw[L,List.take_of_length_le (by rw[List.length_map];exact Z3 _)];rfl
   ·unfold coV coC ivV qP
    rw[List.length_map,w.1]
    exact .tup (.cons (.agg (.cons (h1.fz rfl Z1 Z0 (.ids (qS0 _ _)) (λb g=>by have:=B b g;omega)) (.cons (.id rfl) (.cons (h2.fz rfl Z1 Z0 (.ids (cV _ Z0 _)) (λb g=>by have:=(f b g).1;omega)) (.cons (.id rfl) .nil))))) (.cons (.id rfl) .nil))
  cases bad with
  | true=>
   refine S3 u n a ?_
   exact eM0 G p 4 Z1 _
  | false=>
   refine S3 u D a ?_
   by_cases hm:A<0
   ·refine S3 hm n a ?_
    exact eM0 G p 6 Z1 _
   ·have hpl:(pgC p).length=3:=rfl
    have hpt:(pgC p).take 3=pgC p:=rfl
    refine S4 hm I hpl hpt ?_
    rw[show Value.agg ⟨pgC p⟩=pgV p from rfl]
    refine dL (rY2 G (p.v.map Prod.fst) p.s p hv hd hn hs) ?_
    rintro _ ⟨b,rfl⟩
    refine ⟨rfl,?_⟩
    cases b with
    | true=>
     refine S2 n a ?_
     exact eM0 G p 7 Z1 _
    | false=>
     refine S3 D n a ?_
     exact hfc _ _ 0 Z0 rfl (F.grew (S:=λk=>k=2) (jC.put _ _ _ λ_=>rfl) (λk j e=>by have:=B k j;omega)) (J.grew (S:=λk=>k=2) (jC.put _ _ _ λ_=>rfl) (λk j e=>by have:=(f k j).1;omega))
theorem tE2 (p:Pg)(m:p.v.length≤20)(w:p.s.length≤10)(D:p.d.length≤20)(hn:1≤p.d.length)(hs:∀ x∈p.d,smP (p.v.map Prod.fst) p.s x.2=true) :
  bW (pp G) H0 30 [pgV p] (LowR p):=by
 refine cY G fir30 Z7 (lB2 ..) λhlo=>?_;rw[rM2]
 unfold pgV pgC
 have g1:¬ (p.v.length:Int) > 20:=Z0
 have g2:¬ (p.s.length:Int) > 10:=Z0
 have g3:¬ (p.d.length:Int) > 20:=Z0
 refine S3 @g1 @g2 @g3 ?_
 rw[show Value.agg ⟨[Rw false eVr p.v.length (vrs p.v),Rw false eS p.s.length (nss p.s),Rw false eDf p.d.length (dfs p.d)]⟩=pgV p from rfl]
 refine dK (mN1 G p m D) ?_
 refine S0 ?_
 have y:(p.v.map Prod.fst).length<1000000000000000:=by rw[List.length_map];omega
 have j:(p.d.map Prod.fst).length<1000000000000000:=by rw[List.length_map];omega
 refine dL (pF0 G (p.v.map Prod.fst) y) ?_
 rintro _ ⟨l,rfl⟩
 refine ⟨rfl,?_⟩
 cases l with
 | true=>push_cast(disch:=first | omega | (apply id;push_cast;try omega));exact eM0 G p 5 Z1 _
 | false=>
 refine S0 ?_
 refine dL (pF0 G p.s Z0) ?_
 rintro _ ⟨l,rfl⟩
 refine ⟨rfl,?_⟩
 cases l with
 | true=>push_cast(disch:=first | omega | (apply id;push_cast;try omega));exact eM0 G p 5 Z1 _
 | false=>
 refine S0 ?_
 refine dL (pF0 G (p.d.map Prod.fst) j) ?_
 rintro _ ⟨l,rfl⟩
 refine ⟨rfl,?_⟩
 cases l with
 | true=>push_cast(disch:=first | omega | (apply id;push_cast;try omega));exact eM0 G p 5 Z1 _
 | false=>
 refine S0 ?_
 have g : ∀ (f : Int) (a : f < p.d.length) (h : jA) (q : Z8 Addr) (c : Nat) {x0 x3 x4 x5 x8 x9 xA xB xC xD xE P xG xH xI xJ xK xL xM xN xO xP xQ xR xS xT X xV xW xX xY xZ yA yB yC yD yE R yG yH yI yJ yK yL yM yN yO yP yQ yR yS yT yU yV yW yX yY yZ zA Z zC zD zF zG zH zI zJ zK zL zM zN Y T zQ zR zS zT zU zV zW zX zY zZ wA wB wC wD wE wF wG wH wI wJ V wL wM K F I J C H N L M E : Z6}, cells h 1 = some (pgC p, 76, false) → cells h 2 = some (coZ, tCo, false) → cells h 3 = some (lwC (p.v.map Prod.fst) p.s (p.d.map Prod.fst) false, tLw, false) →
   cells h 4=some ([.slice q p.v.length c,.int .i64 p.s.length,.slice none 0 0,.int .i64 f],tCo,false)→qY h eI 1 q p.v.length c (ivs (p.v.map Prod.snd))→(∀ b,blk q b→5≤b)→h.lo=1→5≤h.next→
   _:=λf a h q c=>@mS1 G p f a m w D hn hs h q c
 refine ⟨?_,?_⟩
 ·refine dL (cI0 G (p.d.map Prod.fst) [109,97,105,110] j) ?_
  rintro _ ⟨f,rfl,a,_⟩
  refine ⟨rfl,?_⟩
  refine S0 ?_
  refine cB0 G p f m _ _ (I70v.mk 0 0 _ none 0 rfl (Nat.zero_le _) ?_ ?_ ?_ ?_ (qY.nil _ _ _) (λb B=>by obtain ⟨o,s,e⟩:=B;cases e) ?_ ?_) ?_
  ·exact (by push_cast(disch:=first|omega|(apply id;push_cast;try omega));first|done|rfl)
  ·exact (by push_cast(disch:=first|omega|(apply id;push_cast;try omega));first|done|rfl)
  ·exact (by push_cast(disch:=first|omega|(apply id;push_cast;try omega));first|done|rfl)
  ·exact (by push_cast(disch:=first|omega|(apply id;push_cast;try omega));first|done|rfl)
  iterate 2 exact tH
  ·intro h q c
   intros
   rename_i A u r z n t i k
   refine S0 ?_
   exact g f (by have:=a.2;rwa [List.length_map] at this) h q c A u r z n t i k
 ·refine dL (cI0 G (p.d.map Prod.fst) [109,97,105,110] j) ?_
  rintro _ ⟨f,rfl,a,_⟩
  refine ⟨rfl,?_⟩
  refine S0 ?_
  refine cB0 G p f m _ _ (I70v.mk 0 0 _ none 0 rfl (Nat.zero_le _) ?_ ?_ ?_ ?_ (qY.nil _ _ _) (λb B=>by obtain ⟨o,s,e⟩:=B;cases e) ?_ ?_) ?_
  ·exact (by push_cast(disch:=first|omega|(apply id;push_cast;try omega));first|done|rfl)
  ·exact (by push_cast(disch:=first|omega|(apply id;push_cast;try omega));first|done|rfl)
  ·exact (by push_cast(disch:=first|omega|(apply id;push_cast;try omega));first|done|rfl)
  ·exact (by push_cast(disch:=first|omega|(apply id;push_cast;try omega));first|done|rfl)
  iterate 2 exact tH
  ·intro h q c
   intros
   rename_i A u r z n t i k
   refine S0 ?_
   exact g f (by have:=a.2;rwa [List.length_map] at this) h q c A u r z n t i k
@[push_cast]theorem zB1 (n:Nat)(h:0<n)(c:Co):Ev.sc n (coV c)=true:=by simp[Ev.sc,scL,coV,coC,uJ1 _ h,bA0 _ h]
def wtB (h n:Int):Zb:=decide (jU (h.fdiv (2 ^ min (IntKind.u64.wrap (n.tmod 20)).toNat 64)) 2=1)
def is3 (k:Int):Zb:=decide (k=3)
mutual
def wtF (bits:Int)(push:Zb):Tm→Int→Tm×Int
 | .mk k a b s e l,n=>
  if k=1 then (if (!push&&wtB bits n)=true then (.mk 14 n a s (.mk 0 0 [] []) [],W (n+1)) else ((.mk k a b s e (wtL bits (push || is3 k) l (W (n+1))).1,(wtL bits (push || is3 k) l (W (n+1))).2)))
  else (.mk k a b s e (wtL bits (push || is3 k) l n).1,(wtL bits (push || is3 k) l n).2)
def wtL (a:Int)(h:Zb):List Tm→Int→List Tm×Int
 | [],n=>([],n)
 | x :: l,n=>((wtF a h x n).1 :: (wtL a h l (wtF a h x n).2).1,(wtL a h l (wtF a h x n).2).2)
end
theorem eY1 (a:Int)(h:Zb):∀ (l:List Tm) (n:Int),(wtL a h l n).1.length=l.length
 | [],n=>rfl
 | x :: l,n=>by rw[wtL];simp[eY1 a h l]
inductive K47 (f:Zb)(σ:jA)(v s:Int)(l:List Rb):Nat→S→Prop
 | mk (i : Nat) (iv : Int) (h : jA) (q : Z8 Addr) (c : Nat) {x0 x5 x6 x7 x8 x9 xA xB xC xD xE xF xG xH xI xJ xK xL xM xN xO xP xQ xR xS xT xU xV xW xX xY xZ yA yB yC yD yE yF yG yH yI yJ yK yL yM yN yO yP yQ yR yS yT yU yV : Z6} (hiv : iv = (i : Int)) (hi : i ≤ 3)
   (c0:cells h σ.next=some ([.int .i64 v,.int .i64 s,Rw f erb l.length (rbCs l)],24,false)) (c1:cells h (σ.next+1)=some ([.slice none 0 0,.slice none 0 0,.slice none 0 0],76,false))
   (c2:cells h (σ.next+1+1)=some ([.slice q i c,Rw false eS 2 (nss jG),.slice none 0 0],76,false)) (ho:qY h eVr 2 q i c (vrs ((varL v).take i))) (hq:∀ b,blk q b→σ.next+3≤b) (hl1:h.lo=1) (hl2:σ.next+3≤h.next) (g:jC σ h (λ_=>False)) :
  K47 f σ v s l (3-i) ⟨(F58 x0 (.pointer (some ⟨σ.next,0,none⟩)) (.pointer (some ⟨σ.next+1,0,none⟩)) (.pointer (some ⟨σ.next+1+1,0,none⟩)) (.int .i64 iv) x5 x6 x7 x8 x9 xA xB xC xD xE xF xG xH xI xJ xK xL xM xN xO xP xQ xR xS xT xU xV xW xX xY xZ yA yB yC yD yE yF yG yH yI yJ yK yL yM yN yO yP yQ yR yS yT yU yV),[],h⟩
inductive K47b (f:Zb)(σ:jA)(v s:Int)(l:List Rb)(q:Z8 Addr)(c:Nat):Nat→S→Prop
 | mk (i : Nat) (iv : Int) (h : jA) (q2 : Z8 Addr) (k : Nat) (cs : List Z6) {x0 x4 x6 x7 x8 x9 xA xB xC xD xE xF xG xH xI xJ xK xL xM xN xO xP xQ xR xS xT xU xV xW xX xY xZ yA yB yC yD yE yF yG yH yI yJ yK yL yM yN yO yP yQ yR yS yT yU yV : Z6} (hiv : iv = (i : Int)) (hi : i ≤ 5)
   (c0:cells h σ.next=some ([.int .i64 v,.int .i64 s,Rw f erb l.length (rbCs l)],24,false)) (c1:cells h (σ.next+1)=some ([.slice none 0 0,.slice none 0 0,.slice none 0 0],76,false))
   (c2:cells h (σ.next+1+1)=some ([.slice q 3 c,Rw false eS 2 (nss jG),.slice q2 i k],76,false)) (ho:qY h eVr 2 q 3 c (vrs (varL v))) (hq:∀ b,blk q b→σ.next+3≤b)
   (ho2:qY h eDf 9 q2 i k cs) (hq2:∀ b,blk q2 b→σ.next+3≤b∧¬ blk q b) (hcs:∀ τ,FzL (pp G).P 1 τ cs (dfs ((defL l).take i))) (hl1:h.lo=1) (hl2:σ.next+3≤h.next) (g:jC σ h (λ_=>False)) :
  K47b f σ v s l q c (5-i) ⟨(F58 x0 (.pointer (some ⟨σ.next,0,none⟩)) (.pointer (some ⟨σ.next+1,0,none⟩)) (.pointer (some ⟨σ.next+1+1,0,none⟩)) x4 (.int .i64 iv) x6 x7 x8 x9 xA xB xC xD xE xF xG xH xI xJ xK xL xM xN xO xP xQ xR xS xT xU xV xW xX xY xZ yA yB yC yD yE yF yG yH yI yJ yK yL yM yN yO yP yQ yR yS yT yU yV),[],h⟩
def PmR (σ:jA)(v:Int)(l:List Rb)(w:Z6)(σ':jA):Prop:=∃ q c q2 k cs,w=.agg ⟨[.slice q 3 c,Rw false eS 2 (nss jG),.slice q2 5 k]⟩∧qY σ' eVr 2 q 3 c (vrs (varL v))∧(∀ b,blk q b→σ.next≤b)∧qY σ' eDf 9 q2 5 k cs∧(∀ b,blk q2 b→σ.next≤b∧¬ blk q b)∧(∀ h,FzL (pp G).P 1 h cs (dfs (defL l)))∧jC σ σ' (λ_=>False)
theorem mB1 (f:Zb)(v s:Int)(l:List Rb)(hll:l.length<1000000000000000)(hsl:smBs l=true)(σ:jA):jH (pp G) H0 31 [.agg ⟨[.int .i64 v,.int .i64 s,Rw f erb l.length (rbCs l)]⟩] σ (PmR G σ v l):=by
 have hn3:nsV jQ=Rw false eS 3 (nss jQ):=rfl
 have hn2:nsV jG=Rw false eS 2 (nss jG):=rfl
 have X:nsV qG=Rw false eS 5 (nss qG):=rfl
 have l3:(nss jQ).length=3:=rfl
 have l5:(nss qG).length=5:=rfl
 refine jH.wlog λL hH0 hp0 hlo=>?_
 rw[uU] at L
 refine jH.fir4 (q:=qq) (jV G) fir31 Z7 rfl rfl (wR2 ..) (by first|exact Nat.le_trans (show NGG≤1 by decide) Z0) ?_;rw[rL2]
 refine S0 ?_
 refine dK (fJ0 G) ?_
 refine S1 hn2 ?_
 refine WD.loop4 (q:=qq) (jV G) Z7 (K47 f σ v s l) ?_ _ _ (K47.mk 0 0 _ none 0 rfl (Nat.zero_le _) tH tH tH (qY.nil _ _ _) (λb a=>by obtain ⟨o,s,e⟩:=a;cases e) (by push_cast(disch:=first|omega|(apply id;push_cast;try omega));omega) tH (by repeat (first|exact jC.refl _ _|assumption|(refine jC.put'' ?_ _ _ (by intro _;first|rfl|omega|(simp only[push_cast] at *;omega)))|(refine jC.add' ?_ _))))
 intro m s1 hI
 cases hI with|mk i iv h q c I hi y J w C u j K g=>
 subst I
 rw[gC1]
 by_cases r:(i:Int)<3
 ·have hg:=qK0 (l:=jQ) (i:=i) (by show i<3;omega)
  have e1:IntKind.i64.wrap ((i:Int)+1)=(i:Int)+1:=wrap_i64 Z0 Z0
  have hne:¬ (i:Int)+1=0:=Z0
  have V:¬ (i:Int)+1 = -1:=Z0
  refine S8 r y w j @e1 hne V @Z4 ?_
  refine dK (fN1 G) ?_
  refine S5 hn3 hg l3 r @Z4 ?_
  refine dK (jG0 G (IntKind.i64.wrap (v.tdiv ((i:Int)+1))) 9 Z0 Z0) ?_
  obtain ⟨R,P,σ',e,M,g',b'⟩:=cM (by_:=24) C Z0 Z0 (m:=1) (xs:=vrs [(jQ.getD i [],valF v i)]) (fC0 _) rfl Z0
  rw[← nN2,← jY (zK2 v (by omega:i<3))] at M
  have hn':=g'.next
  have hl':=g'.lo
  have k0:cells σ' σ.next=_:=g'.cellsE y Z0 (λa=>by have:=u _ a;omega)
  have T:cells σ' (σ.next+1)=_:=g'.cellsE J Z0 (λa=>by have:=u _ a;omega)
  have E:cells σ' (σ.next+1+1)=_:=g'.cellsE w Z0 (λa=>by have:=u _ a;omega)
  have n:σ'.lo=1:=Z0
  unfold valF at e
  have hvl:(vrs [(jQ.getD i [],IntKind.i64.wrap (jU (IntKind.i64.wrap (v.tdiv ((i:Int)+1))) 9-4))]).length=1*2:=fC0 _
  push_cast(disch:=first|omega|(apply id;push_cast;try omega))[↓rowV1,hvl,e,E,n]
  have gg:jC σ σ' (λ_=>False):=g.tr' g' (λk N a=>by have:=u k a;omega)
  refine ⟨_,Z0,K47.mk (i+1) _ _ R P Z2 Z0 (tH1 k0) (tH1 T) (tH1 E) (M.grew (S:=λk=>k=σ.next+1+1) (by repeat (first|exact jC.refl _ _|assumption|(refine jC.put'' ?_ _ _ (by intro _;first|rfl|omega|(simp only[push_cast] at *;omega)))|(refine jC.add' ?_ _))) (λk N e=>?_)) (λk N=>?_) (tH1 n) tH (gg.put' _ _ Z0)⟩
  ·rcases b' k N with a|a
   ·have:=u k a;omega
   ·omega
  ·rcases b' k N with a|a
   ·exact u k a
   ·omega
 ·have hi3:i=3:=Z0
  subst hi3
  have ht:(varL v).take 3=varL v:=rfl
  rw[ht] at C
  refine S3 y w j ?_
  rw[gB1]
  refine S0 ?_
  refine WD.loop4 (q:=qq) (jV G) Z7 (K47b G f σ v s l q c) ?_ _ _ (K47b.mk 0 0 _ none 0 [] rfl (Nat.zero_le _) (tH1 y) (tH1 J) (tH1 w) (by exact C) u (qY.nil _ _ _) (λb a=>by obtain ⟨o,s,e⟩:=a;cases e) (λp=>.nil) (tH1 j) (tH1 K) g)
  clear y J w C j K hi g
  intro m s2 hI
  cases hI with|mk i iv h q2 k cs I hi y J w C u F d D j K g=>
  subst I
  rw[gA1]
  by_cases r:(i:Int)<5
  ·have hg:=qK0 (l:=qG) (i:=i) (by show i<5;omega)
   by_cases Z:(i:Int)<l.length
   ·obtain ⟨x,Y⟩:=jT (l:=l) (i:=i) Z0
    have hp:=zS0 Y
    have hle:i*5+5≤l.length*5:=Z0
    refine S4 r y j @Z4 ?_
    refine dK (jZ2 G) ?_
    push_cast(disch:=first|omega|(apply id;push_cast;try omega))[X,hg,l5,r,Z4,y,Z,j,hp,hle]
    refine dK (mR1 G x 0 Z0 (zL0 hsl x (List.mem_of_getElem? Y))) ?_
    refine S1 j ?_
    rw[eE0]
    push_cast(disch:=first|omega|(apply id;push_cast;try omega))[j,w,↓rowD1]
    obtain ⟨p,B⟩:∃ p,p=(((h.add (O [.string (Tx []),.int .i64 0,.string (Tx []),.string (Tx []),.int .i64 0,.int .i64 0,.string (Tx []),.slice none 0 0,.slice none 0 0] 82 false)).put h.next (O [.string (Tx (qG.getD i [])),.int .i64 0,.string (Tx []),.string (Tx []),.int .i64 0,.int .i64 0,.string (Tx []),.slice none 0 0,.slice none 0 0] 82 false)).put h.next (O (.string (Tx (qG.getD i [])) :: prC (mkP x 0)) 82 false)):=⟨_,rfl⟩
    have t:jC h p (λ_=>False):=by rw[B];exact (by (repeat (first|exact Gr.refl _|assumption|(refine jC.put' ?_ _ _ (by first|omega|(simp only[push_cast];omega)))|(refine jC.add' ?_ _))))
    have hn0:=t.next
    have L:p.lo=1:=by rw[t.lo,j]
    have z:qY p eDf 9 q2 i k cs:=F.grew t λ_ _ h=>h
    obtain ⟨R,P,σ',e,M,g',b'⟩:=cM (by_:=136) z Z0 Z0 (m:=1) (xs:=dfC (qG.getD i []) (some (mkP x 0))) (lM0 _ _) (jY2 _ _) Z0
    have hn':=g'.next
    have hl':=g'.lo
    have d0:cells p σ.next=_:=t.cellsE y Z0 id
    have d1:cells p (σ.next+1)=_:=t.cellsE J Z0 id
    have d2:cells p (σ.next+1+1)=_:=t.cellsE w Z0 id
    have k0:cells σ' σ.next=_:=g'.cellsE d0 Z0 (λa=>by have:=(d _ a).1;omega)
    have T:cells σ' (σ.next+1)=_:=g'.cellsE d1 Z0 (λa=>by have:=(d _ a).1;omega)
    have E:cells σ' (σ.next+1+1)=_:=g'.cellsE d2 Z0 (λa=>by have:=(d _ a).1;omega)
    have n:σ'.lo=1:=Z0
    have A:(dfC (qG.getD i []) (some (mkP x 0))).length=1*9:=lM0 _ _
    unfold dfC at e A
    rw[B] at e
    refine S4 A e E n ?_
    rw[eD0]
    refine S0 ?_
    have gg:jC σ σ' (λ_=>False):=(g.tr' t (λ_ _ h=>h)).tr' g' (λk N a=>by have:=(d k a).1;omega)
    refine ⟨_,Z0,K47b.mk (i+1) _ _ R P (cs++dfC (qG.getD i []) (some (mkP x 0))) Z2 Z0 (tH1 k0) (tH1 T) (tH1 E) (((C.grew t (λ_ _ h=>h)).grew g' (λb a h2=>(d b h2).2 a)).grew (S:=λk=>k=σ.next+1+1) (by repeat (first|exact jC.refl _ _|assumption|(refine jC.put'' ?_ _ _ (by intro _;first|rfl|omega|(simp only[push_cast] at *;omega)))|(refine jC.add' ?_ _))) (λb a e=>by have:=u b a;omega)) u (M.grew (S:=λk=>k=σ.next+1+1) (by repeat (first|exact jC.refl _ _|assumption|(refine jC.put'' ?_ _ _ (by intro _;first|rfl|omega|(simp only[push_cast] at *;omega)))|(refine jC.add' ?_ _))) (λb a e=>?_)) (λb a=>?_) (λp=>?_) (tH1 n) tH (gg.put' _ _ Z0)⟩
    ·rcases b' b a with a|a
     ·have:=(d b a).1;omega
     ·omega
    ·rcases b' b a with a|a
     ·exact d b a
     ·exact ⟨Z0,λh1=>by have:=qY.lt C h1;omega⟩
    ·rw[jY (wY1 l (by omega:i<5)),jX2]
     have H:kM0 l i=(some (mkP x 0)):=by rw[kM0,Y];rfl
     rw[H]
     exact (D p).app (mU2 G _ Z0 p _ _)
   ·have Y:l[i]?=none:=List.getElem?_eq_none Z0
    refine S4 r y j @Z4 ?_
    refine dK (jZ2 G) ?_
    refine S8 X hg l5 r @Z4 y Z j ?_
    rw[eE0]
    push_cast(disch:=first|omega|(apply id;push_cast;try omega))[j,w,↓rowD0]
    obtain ⟨p,B⟩:∃ p,p=((h.add (O [.string (Tx []),.int .i64 0,.string (Tx []),.string (Tx []),.int .i64 0,.int .i64 0,.string (Tx []),.slice none 0 0,.slice none 0 0] 82 false)).put h.next (O [.string (Tx (qG.getD i [])),.int .i64 0,.string (Tx []),.string (Tx []),.int .i64 0,.int .i64 0,.string (Tx []),.slice none 0 0,.slice none 0 0] 82 false)):=⟨_,rfl⟩
    have t:jC h p (λ_=>False):=by rw[B];exact (by (repeat (first|exact Gr.refl _|assumption|(refine jC.put' ?_ _ _ (by first|omega|(simp only[push_cast];omega)))|(refine jC.add' ?_ _))))
    have hn0:=t.next
    have L:p.lo=1:=by rw[t.lo,j]
    have z:qY p eDf 9 q2 i k cs:=F.grew t λ_ _ h=>h
    obtain ⟨R,P,σ',e,M,g',b'⟩:=cM (by_:=136) z Z0 Z0 (m:=1) (xs:=dfC (qG.getD i []) none) (lM0 _ _) (jY2 _ _) Z0
    have hn':=g'.next
    have hl':=g'.lo
    have d0:cells p σ.next=_:=t.cellsE y Z0 id
    have d1:cells p (σ.next+1)=_:=t.cellsE J Z0 id
    have d2:cells p (σ.next+1+1)=_:=t.cellsE w Z0 id
    have k0:cells σ' σ.next=_:=g'.cellsE d0 Z0 (λa=>by have:=(d _ a).1;omega)
    have T:cells σ' (σ.next+1)=_:=g'.cellsE d1 Z0 (λa=>by have:=(d _ a).1;omega)
    have E:cells σ' (σ.next+1+1)=_:=g'.cellsE d2 Z0 (λa=>by have:=(d _ a).1;omega)
    have n:σ'.lo=1:=Z0
    have A:(dfC (qG.getD i []) none).length=1*9:=lM0 _ _
    unfold dfC at e A
    rw[B] at e
    refine S4 A e E n ?_
    rw[eD0]
    refine S0 ?_
    have gg:jC σ σ' (λ_=>False):=(g.tr' t (λ_ _ h=>h)).tr' g' (λk N a=>by have:=(d k a).1;omega)
    refine ⟨_,Z0,K47b.mk (i+1) _ _ R P (cs++dfC (qG.getD i []) none) Z2 Z0 (tH1 k0) (tH1 T) (tH1 E) (((C.grew t (λ_ _ h=>h)).grew g' (λb a h2=>(d b h2).2 a)).grew (S:=λk=>k=σ.next+1+1) (by repeat (first|exact jC.refl _ _|assumption|(refine jC.put'' ?_ _ _ (by intro _;first|rfl|omega|(simp only[push_cast] at *;omega)))|(refine jC.add' ?_ _))) (λb a e=>by have:=u b a;omega)) u (M.grew (S:=λk=>k=σ.next+1+1) (by repeat (first|exact jC.refl _ _|assumption|(refine jC.put'' ?_ _ _ (by intro _;first|rfl|omega|(simp only[push_cast] at *;omega)))|(refine jC.add' ?_ _))) (λb a e=>?_)) (λb a=>?_) (λp=>?_) (tH1 n) tH (gg.put' _ _ Z0)⟩
    ·rcases b' b a with a|a
     ·have:=(d b a).1;omega
     ·omega
    ·rcases b' b a with a|a
     ·exact d b a
     ·exact ⟨Z0,λh1=>by have:=qY.lt C h1;omega⟩
    ·rw[jY (wY1 l (by omega:i<5)),jX2]
     have H:kM0 l i=none:=by rw[kM0,Y];rfl
     rw[H]
     exact (D p).app (mU2 G _ Z0 p _ _)
  ·have hi5:i=5:=Z0
   subst hi5
   have ht5:(defL l).take 5=defL l:=rfl
   rw[ht5] at D
   refine S3 r w j ?_
   rw[yZ1]
   refine S3 J w j ?_
   refine ⟨q,c,q2,k,cs,rfl,C.grew (S:=λk=>k=σ.next+1) (jC.put _ _ _ λ_=>rfl) (λb a e=>by have:=u b a;omega),λb a=>by have:=u b a;omega,F.grew (S:=λk=>k=σ.next+1) (jC.put _ _ _ λ_=>rfl) (λb a e=>by have:=(d b a).1;omega),λb a=>⟨by have:=(d b a).1;omega,(d b a).2⟩,D,g.put' _ _ Z0⟩
theorem iF1 {k n:Int}{s:List Zu}{l:List Ex}(h:l.length<100000000000)(a:∀ x∈l,smE x=true):smE (.mk k n s l)=true:=by
 simp only[smE,Z5,decide_eq_true_eq]
 refine ⟨h,?_⟩
 clear h
 induction l with
 | nil=>rfl
 | cons x l b=>simp only[smEs,Z5];exact ⟨a x (by simp),b λy c=>a y (by simp[c])⟩
theorem gL0 (n:Int)(l:List Ex)(h:∀ x∈l,smE x=true)(i:Nat):smE (yB0 n l i)=true:=by
 unfold yB0
 rw[List.getD_eq_getElem?_getD]
 cases a:l[i]? with
 | none=>rfl
 | some x=>exact h x (List.mem_of_getElem? a)
mutual
theorem iH1 (c:List (List Zu)):∀ x:Ra,smE (mkF c x)=true
 | .mk k n l=>by
  have a:=iG1 c l
  rw[mkF]
  repeat' split
  ·rfl
  ·rfl
  ·rfl
  ·exact iF1 (by simp) λx h=>by simp at h;subst h;exact gL0 n _ a 0
  ·exact iF1 (by simp) λx h=>by simp at h;subst h;exact gL0 n _ a 0
  ·exact iF1 (by simp) fun x h => by
    simp at h
    rcases h with rfl|rfl
    ·exact gL0 n _ a 0
    ·exact gL0 n _ a 1
theorem iG1 (a:List (List Zu)):∀ l:List Ra,∀ x∈mkL a l,smE x=true
 | [],x,h=>by simp[mkL] at h
 | y :: l,x,h=>by
  rw[mkL] at h
  rcases List.mem_cons.1 h with rfl|h
  ·exact iH1 a y
  ·exact iG1 a l x h
end
theorem iI1 (h:List (List Zu))(l:List Ra):smE (uO0 h l)=true:=by
 cases l with
 | nil=>rfl
 | cons x l=>exact iH1 h x
theorem iD1 {V a:List (List Zu)}{k:Int}{n t:List Zu}{e:Ex}{l:List Pr}(d:l.length<100000000000)(f:smE e=true)(m:k=2→t∈V)(i:k=6→n∈a)(c:k=12→2≤l.length)(b:∀ x∈l,smP V a x=true):smP V a (.mk k n t e l)=true:=by
 have:smPs V a l=true:=by
  clear d c
  induction l with
  | nil=>rfl
  | cons x l j=>simp only[smPs,Z5];exact ⟨b x (by simp),j λy g=>b y (by simp[g])⟩
 simp only[smP,Z5,Bool.or_eq_true,decide_eq_true_eq,f,this,and_true,true_and]
 refine ⟨d,?_,?_,?_⟩
 ·by_cases h:k=2
  ·exact .inr (m h)
  ·exact .inl h
 ·by_cases h:k=6
  ·exact .inr (i h)
  ·exact .inl h
 ·by_cases h:k=12
  ·exact .inr (c h)
  ·exact .inl h
theorem jO0 {a:Type}{l:List a}{i:Nat}{d:a}(h:i<l.length):l.getD i d∈l:=by
 rw[List.getD_eq_getElem?_getD,List.getElem?_eq_getElem h]
 exact List.getElem_mem h
theorem gJ0 (V h:List (List Zu)):smP V h qH=true:=iD1 (by simp) rfl (by simp) (by simp) (by simp) (by simp)
theorem oM2 {V d:List (List Zu)}{c:Prop}[Decidable c]{a b:Pr}(f:c→smP V d a=true)(e:¬ c→smP V d b=true):smP V d (if c then a else b)=true:=by
 by_cases h:c
 ·rw[if_pos h];exact f h
 ·rw[if_neg h];exact e h
mutual
theorem iE1:∀ (x:Rb) (d:Nat),smP jQ jG (mkP x d)=true
 | .mk k a b e l,d=>by
  have m:=qF1 l (d+1)
  have h:∀ i,smP jQ jG (if d<6 then (cQ l (d+1)).getD i qH else qH)=true:=λi=>by
   split
   ·rw[List.getD_eq_getElem?_getD]
    cases c:(cQ l (d+1))[i]? with
    | none=>exact gJ0 _ _
    | some x=>exact m x (List.mem_of_getElem? c)
   ·exact gJ0 _ _
  have o:jQ.getD (jU a 3).toNat []∈jQ:=jO0 (by have:=uR (a:=a) (n:=3) Z0;show _<3;omega)
  have f:jG.getD (jU a 2).toNat []∈jG:=jO0 (by have:=uR (a:=a) (n:=2) Z0;show _<2;omega)
  have g:∀ x∈[if d<6 then (cQ l (d+1)).getD 0 qH else qH],smP jQ jG x=true:=λx c=>by simp only[List.mem_singleton] at c;subst c;exact h 0
  have j:∀ x∈[if d<6 then (cQ l (d+1)).getD 0 qH else qH,if d<6 then (cQ l (d+1)).getD 1 qH else qH],smP jQ jG x=true:=λx c=>by
   simp only[List.mem_cons,List.not_mem_nil,or_false] at c
   rcases c with rfl|rfl
   ·exact h 0
   ·exact h 1
  rw[mkP]
  generalize (if d<6 then (cQ l (d+1)).getD 0 qH else qH)=pa at *
  generalize (if d<6 then (cQ l (d+1)).getD 1 qH else qH)=pb at *
  generalize jQ.getD (jU a 3).toNat []=v at *
  generalize jG.getD (jU a 2).toNat []=s at *
  repeat' refine oM2 (λ_=>?_) (λ_=>?_)
  all_goals first
   | exact gJ0 _ _
   | exact iD1 (by simp) (by first | rfl | exact iI1 _ _) (by first | exact λ_=>o | simp) (by first | exact λ_=>f | simp) (by simp) (by first | exact g | exact j | simp)
theorem qF1:∀ (l:List Rb) (d:Nat),∀ x∈cQ l d,smP jQ jG x=true
 | [],d,x,h=>by simp[cQ] at h
 | y :: l,d,x,h=>by
  rw[cQ] at h
  rcases List.mem_cons.1 h with rfl|h
  ·exact iE1 y d
  ·exact qF1 l d x h
end
theorem jW2:∀ {l:List (List Zu×Pr)} {i:Nat} {s:List Zu} {p:Pr} (a:Pr),l[i]?=some (s,p)→(dfs l).take (i*9+1)++prC a++(dfs l).drop (i*9+9)=dfs (l.set i (s,a))
 | [],i,s,p,a,h=>by simp at h
 | y :: l,0,s,p,a,h=>by
  cases h
  have e:dfs ((s,p) :: l)=Value.string (Tx s) :: (prC p++dfs l):=rfl
  have d:dfs ((s,a) :: l)=Value.string (Tx s) :: (prC a++dfs l):=rfl
  rw[List.set_cons_zero,e,d]
  show Value.string (Tx s) :: ((prC p++dfs l).take 0++prC a++(prC p++dfs l).drop 8)=_
  rw[List.take_zero,List.nil_append,List.drop_left' (cL p)]
 | y :: l,i+1,s,p,a,h=>by
  have b:=jW2 (l:=l) (i:=i) a (by simpa using h)
  have e:∀ m,dfs (y :: m)=(Value.string (Tx y.1) :: prC y.2)++dfs m:=λ_=>rfl
  have c:(Value.string (Tx y.1) :: prC y.2).length=9:=by simp[cL]
  rw[List.set_cons_succ,e,e,← b,List.take_append,List.drop_append,c,List.take_of_length_le Z0,List.drop_of_length_le Z0,List.nil_append,show (i+1)*9+1-9=i*9+1 by omega,show (i+1)*9+9-9=i*9+9 by omega]
  simp only[List.append_assoc]
def small (c:Zu):Zb:=decide (97≤c.toNat∧c.toNat≤122)
def digit (c:Zu):Zb:=decide (48≤c.toNat∧c.toNat≤57)
def cB (c:Zu):Zb:=small c || digit c || decide (c.toNat=95)
def bL (p:Zu→Zb)(l:List Zu):Nat:=(l.takeWhile p).length
theorem bM2 (p:Zu→Zb)(l:List Zu):bL p l≤l.length:=by
 unfold bL;exact List.Sublist.length_le (List.takeWhile_sublist p)
theorem eR0 (p:Zu→Zb)(c:Zu)(l:List Zu):bL p (c :: l)=if p c then bL p l+1 else 0:=by
 unfold bL;rw[List.takeWhile_cons];split<;>simp
theorem cH0 (p:Zu→Zb):∀ (l:List Zu) (i:Nat),i<bL p l→p (l.getD i 0)=true
 | [],i,h=>by simp[bL] at h
 | c :: l,i,h=>by
  rw[eR0] at h
  split at h
  ·cases i with
   | zero=>simpa
   | succ i=>simpa using cH0 p l i Z0
  ·omega
theorem pZ1 (p:Zu→Zb):∀ (l:List Zu),bL p l<l.length→p (l.getD (bL p l) 0)=false
 | [],h=>by simp[bL] at h
 | c :: l,h=>by
  rw[eR0] at h ⊢
  split at h
  ·rename_i a
   rw[if_pos a]
   simpa using pZ1 p l (by simpa using h)
  ·rename_i a
   rw[if_neg a]
   simpa using a
def zT0 (r:Int):Zb:=decide (97≤r∧r≤122)
def bV0 (r:Int):Zb:=decide (48≤r∧r≤57)
def eI0 (r:Int):Zb:=zT0 r || bV0 r || decide (r=95)
theorem iB1 (r:Int):jF (pp G) H0 136 [.int .i32 r] (.bool (zT0 r)):=by
 refine cE G eW3 Z7 (zN1 ..) λa=>?_;rw[kT2]
 unfold zT0
 by_cases h:97≤r
 ·refine S2 h true_and ?_
  exact .id rfl
 ·refine S2 h false_and ?_
  exact .id rfl
theorem uY3 (r:Int):jF (pp G) H0 148 [.int .i32 r] (.bool (bV0 r)):=by
 refine cE G eM3 Z7 (zN1 ..) λa=>?_;rw[kJ2]
 unfold bV0
 by_cases h:48≤r
 ·refine S2 h true_and ?_
  exact .id rfl
 ·refine S2 h false_and ?_
  exact .id rfl
theorem nJ2 (r:Int):jF (pp G) H0 138 [.int .i32 r] (.bool (eI0 r)):=by
 refine cE G eU3 Z7 (lV0 ..) λh=>?_;rw[kR2]
 unfold eI0
 refine S0 ?_
 refine dK (iB1 G r) ?_
 cases c:zT0 r with
 | true=>
  refine S1 @Bool.true_or ?_
  exact .id rfl
 | false=>
  refine S1 @Bool.false_or ?_
  refine dK (uY3 G r) ?_
  cases a:bV0 r with
  | true=>
   refine S1 @Bool.true_or ?_
   exact .id rfl
  | false=>
   refine S1 @Bool.false_or ?_
   exact .id rfl
theorem mV3 {L:List Zu}{pos:Nat}(hp:pos<L.length)(ha:(L.getD pos 0).toNat<128):Utf8.decode (Tx L) pos=((L.getD pos 0).toNat,1):=by
 have e:(Tx L)[pos]'hp=L.getD pos 0:=by
  rw[List.getD_eq_getElem?_getD,List.getElem?_eq_getElem hp];rfl
 have:=decode_ascii (Tx L) pos hp (by rw[e];exact ha)
 rw[e] at this
 exact this
theorem mW3 {L:List Zu}{pos:Nat}(hp:pos<L.length)(ha:128≤(L.getD pos 0).toNat):128≤(Utf8.decode (Tx L) pos).1∧1≤(Utf8.decode (Tx L) pos).2:=by
 have e:(Tx L)[pos]'hp=L.getD pos 0:=by
  rw[List.getD_eq_getElem?_getD,List.getElem?_eq_getElem hp];rfl
 exact decode_high (Tx L) pos hp (by rw[e];exact ha)
theorem gC3 (c:Zu):eI0 (c.toNat:Int)=cB c:=by
 have a:zT0 (c.toNat:Int)=small c:=by unfold zT0 small;congr 1;simp only[eq_iff_iff];omega
 have b:bV0 (c.toNat:Int)=digit c:=by unfold bV0 digit;congr 1;simp only[eq_iff_iff];omega
 unfold eI0 cB;rw[a,b];congr 2;simp only[eq_iff_iff];omega
theorem gB3 (r:Int)(h:128≤r):eI0 r=false:=by
 unfold eI0 zT0 bV0;simp;omega
inductive I74 (L:List Zu):Nat→S→Prop
 | mk (pos:Nat) (h:jA) {x2 x3 x4 x5 x6 x7 x9 xA xB xC xD xE xF xG xH xI xJ:Z6} (hg:h.get 1=some (itO (Tx L) pos)) (hl1:h.lo=1) (hl2:2≤h.next) (hp:pos≤bL cB L) :
  I74 L (L.length-pos) ⟨(F20 (.string (Tx L)) (.func (.func 138) #[] #[]) x2 x3 x4 x5 x6 x7 (.pointer (some ⟨1,0,none⟩)) x9 xA xB xC xD xE xF xG xH xI xJ),[],h⟩
theorem jF3 (L:List Zu):jF (pp G) H0 137 [.string (Tx L),.func (.func 138) #[] #[]] (.int .i64 (bL cB L)):=by
 refine cE G eV3 Z7 (zQ3 ..) λo=>?_;rw[kS2]
 refine S0 ?_
 refine WD.loop4 (q:=qq) (jV G) Z7 (I74 L) ?_ _ _ (I74.mk 0 _ (by rw[kM _ _ uU.symm]) rfl (by push_cast(disch:=first|omega|(apply id;push_cast;try omega));first|done|omega) (Nat.zero_le _))
 intro m r l
 cases l with|mk pos h i f g s=>
 rw[rB0]
 have n:=bM2 cB L
 by_cases b:pos<L.length
 ·push_cast(disch:=first|omega|(apply id;push_cast;try omega))[gS3 _ pos L i Z0 b]
  refine dK (nJ2 G _) ?_
  by_cases p:(L.getD pos 0).toNat<128
  ·rw[mV3 b p]
   have e:=gC3 (L.getD pos 0)
   dsimp only
   cases d:cB (L.getD pos 0) with
   | true=>
    rw[d] at e
    refine S2 e @Bool.not_true ?_
    have k:pos<bL cB L:=by
     rcases Nat.lt_or_ge pos (bL cB L) with a|a
     ·exact a
     ·have c:bL cB L=pos:=Z0
      have:=pZ1 cB L Z0
      rw[c,d] at this;cases this
    exact ⟨_,Z0,I74.mk (pos+1) _ (uV _ _) f g Z0⟩
   | false=>
    rw[d] at e
    refine S2 e @Bool.not_false ?_
    have c:bL cB L=pos:=by
     rcases Nat.lt_or_ge pos (bL cB L) with a|a
     ·have:=cH0 cB L pos a
      rw[d] at this;cases this
     ·omega
    rw[c]
    exact .id rfl
  ·have t:=mW3 b Z0
   have e:=gB3 ((Utf8.decode (Tx L) pos).1:Int) Z0
   refine S2 e @Bool.not_false ?_
   have c:bL cB L=pos:=by
    rcases Nat.lt_or_ge pos (bL cB L) with a|a
    ·have j:=cH0 cB L pos a
     rw[← gC3,gB3 _ Z0] at j;cases j
    ·omega
   rw[c]
   exact .id rfl
 ·push_cast(disch:=first|omega|(apply id;push_cast;try omega))[gT3 _ pos L i Z0 Z0]
  rw[rA0]
  refine S0 ?_
  have c:bL cB L=L.length:=Z0
  rw[c]
  exact .id rfl
def bP3:List (List Zu):=[[118,97,114],[115,116,97,99,107],[112,114,111,99],[115,107,105,112],[100,111],[112,117,115,104],[114,101,118,101,114,115,101],[97,99,99,101,112,116],[109,101,114,103,101],[98,108,111,99,107],[101,120,105,116],[105,102],[101,108,115,101],[99,104,111,111,115,101],[112,97,114],[99,97,108,108]]
def keyF (s:List Zu):Zb:=decide (s∈bP3)
theorem gS2 (s:List Zu):jF (pp G) H0 135 [.string (Tx s)] (.bool (keyF s)):=by
 refine cE G eX3 Z7 (jP1 ..) λZ=>?_;rw[kU2]
 by_cases h0:s=[118,97,114]
 ·have X:(s == [118,97,114])=true:=by simpa using h0
  rw[show keyF s=true from by rw[h0];decide]
  refine S1 X ?_
  exact .id rfl
 have h:(s == [118,97,114])=false:=by simpa using h0
 by_cases A:s=[115,116,97,99,107]
 ·have T:(s == [115,116,97,99,107])=true:=by simpa using A
  rw[show keyF s=true from by rw[A];decide]
  refine S2 h T ?_
  exact .id rfl
 have a:(s == [115,116,97,99,107])=false:=by simpa using A
 by_cases z:s=[112,114,111,99]
 ·have Y:(s == [112,114,111,99])=true:=by simpa using z
  rw[show keyF s=true from by rw[z];decide]
  refine S3 h a Y ?_
  exact .id rfl
 have c:(s == [112,114,111,99])=false:=by simpa using z
 by_cases x:s=[115,107,105,112]
 ·have t3:(s == [115,107,105,112])=true:=by simpa using x
  rw[show keyF s=true from by rw[x];decide]
  refine S4 h a c @t3 ?_
  exact .id rfl
 have b:(s == [115,107,105,112])=false:=by simpa using x
 by_cases C:s=[100,111]
 ·have N:(s == [100,111])=true:=by simpa using C
  rw[show keyF s=true from by rw[C];decide]
  refine S5 h a c b N ?_
  exact .id rfl
 have e:(s == [100,111])=false:=by simpa using C
 by_cases w:s=[112,117,115,104]
 ·have P:(s == [112,117,115,104])=true:=by simpa using w
  rw[show keyF s=true from by rw[w];decide]
  refine S6 h a c b e P ?_
  exact .id rfl
 have g:(s == [112,117,115,104])=false:=by simpa using w
 by_cases E:s=[114,101,118,101,114,115,101]
 ·have R:(s == [114,101,118,101,114,115,101])=true:=by simpa using E
  rw[show keyF s=true from by rw[E];decide]
  refine S7 h a c b e g R ?_
  exact .id rfl
 have i:(s == [114,101,118,101,114,115,101])=false:=by simpa using E
 by_cases B:s=[97,99,99,101,112,116]
 ·have t7:(s == [97,99,99,101,112,116])=true:=by simpa using B
  rw[show keyF s=true from by rw[B];decide]
  refine S8 h a c b e g i @t7 ?_
  exact .id rfl
 have o:(s == [97,99,99,101,112,116])=false:=by simpa using B
 by_cases y:s=[109,101,114,103,101]
 ·have t8:(s == [109,101,114,103,101])=true:=by simpa using y
  rw[show keyF s=true from by rw[y];decide]
  push_cast(disch:=first|omega|(apply id;push_cast;try omega))[h,a,c,b,e,g,i,o,t8]
  exact .id rfl
 have r:(s == [109,101,114,103,101])=false:=by simpa using y
 by_cases D:s=[98,108,111,99,107]
 ·have V:(s == [98,108,111,99,107])=true:=by simpa using D
  rw[show keyF s=true from by rw[D];decide]
  push_cast(disch:=first|omega|(apply id;push_cast;try omega))[h,a,c,b,e,g,i,o,r,V]
  exact .id rfl
 have t:(s == [98,108,111,99,107])=false:=by simpa using D
 by_cases n:s=[101,120,105,116]
 ·have F:(s == [101,120,105,116])=true:=by simpa using n
  rw[show keyF s=true from by rw[n];decide]
  push_cast(disch:=first|omega|(apply id;push_cast;try omega))[h,a,c,b,e,g,i,o,r,t,F]
  exact .id rfl
 have d:(s == [101,120,105,116])=false:=by simpa using n
 by_cases p:s=[105,102]
 ·have K:(s == [105,102])=true:=by simpa using p
  rw[show keyF s=true from by rw[p];decide]
  push_cast(disch:=first|omega|(apply id;push_cast;try omega))[h,a,c,b,e,g,i,o,r,t,d,K]
  exact .id rfl
 have f:(s == [105,102])=false:=by simpa using p
 by_cases j:s=[101,108,115,101]
 ·have H:(s == [101,108,115,101])=true:=by simpa using j
  rw[show keyF s=true from by rw[j];decide]
  push_cast(disch:=first|omega|(apply id;push_cast;try omega))[h,a,c,b,e,g,i,o,r,t,d,f,H]
  exact .id rfl
 have q:(s == [101,108,115,101])=false:=by simpa using j
 by_cases m:s=[99,104,111,111,115,101]
 ·have J:(s == [99,104,111,111,115,101])=true:=by simpa using m
  rw[show keyF s=true from by rw[m];decide]
  push_cast(disch:=first|omega|(apply id;push_cast;try omega))[h,a,c,b,e,g,i,o,r,t,d,f,q,J]
  exact .id rfl
 have u:(s == [99,104,111,111,115,101])=false:=by simpa using m
 by_cases k:s=[112,97,114]
 ·have I:(s == [112,97,114])=true:=by simpa using k
  rw[show keyF s=true from by rw[k];decide]
  push_cast(disch:=first|omega|(apply id;push_cast;try omega))[h,a,c,b,e,g,i,o,r,t,d,f,q,u,I]
  exact .id rfl
 have v:(s == [112,97,114])=false:=by simpa using k
 by_cases l:s=[99,97,108,108]
 ·have L:(s == [99,97,108,108])=true:=by simpa using l
  rw[show keyF s=true from by rw[l];decide]
  push_cast(disch:=first|omega|(apply id;push_cast;try omega))[h,a,c,b,e,g,i,o,r,t,d,f,q,u,v,L]
  exact .id rfl
 have M:(s == [99,97,108,108])=false:=by simpa using l
 rw[show keyF s=false from by unfold keyF bP3;simp[h0,A,z,x,C,w,E,B,y,D,n,p,j,m,k,l]]
 push_cast(disch:=first|omega|(apply id;push_cast;try omega))[h,a,c,b,e,g,i,o,r,t,d,f,q,u,v,M]
 exact .id rfl
def sF0 (s:List Zu):Zb:=!decide (s=[])&&(decide (s.length≤20)&&(!keyF s&&(small (s.getD 0 0)&&decide (bL cB s=s.length))))
theorem qs_eq (c:Zu):zT0 (c.toNat:Int)=small c:=by unfold zT0 small;congr 1;simp only[eq_iff_iff];omega
theorem mW1 (s:List Zu):jF (pp G) H0 106 [.string (Tx s)] (.bool (sF0 s)):=by
 refine cE G fP3 Z7 (jO1 ..) λl=>?_;rw[yM2]
 unfold sF0
 by_cases b:s=[]
 ·push_cast(disch:=first|omega|(apply id;push_cast;try omega))[b,beq_self_eq_true,decide_true,Bool.not_true,Bool.false_and]
  exact .id rfl
 have j:(s == ([]:List Zu))=false:=by simpa using b
 by_cases i:(20:Int)<s.length
 ·have a:¬ s.length≤20:=Z0
  push_cast(disch:=first|omega|(apply id;push_cast;try omega))[b,j,i,a,decide_false,Bool.false_and,Bool.and_false]
  exact .id rfl
 have a:s.length≤20:=Z0
 have k:0<s.length:=List.length_pos_iff.2 b
 rw[decide_eq_false b,decide_eq_true a,Bool.not_false,Bool.true_and,Bool.true_and]
 push_cast(disch:=first|omega|(apply id;push_cast;try omega))[b,j,i,a,decide_true,decide_false,Bool.not_false,Bool.true_and]
 refine dK (gS2 G s) ?_
 cases o:keyF s with
 | true=>
  push_cast(disch:=first|omega|(apply id;push_cast;try omega))[Bool.not_true,Bool.false_and]
  exact .id rfl
 | false=>
  have f:∀ n h,cvV prog 5 21 (.int .u8 n) h=some (.int .i32 (IntKind.i32.wrap n)):=λn h=>mY2 dG0
  have d:IntKind.i32.wrap (bt s 0)=((s.getD 0 0).toNat:Int):=by
   have:(s.getD 0 0).toNat<256:=(s.getD 0 0).toNat_lt
   have e:bt s 0=((s.getD 0 0).toNat:Int):=rfl
   rw[e,IntKind.wrap_i32]
   omega
  push_cast(disch:=first|omega|(apply id;push_cast;try omega))[f,d,Bool.not_false,Bool.true_and]
  refine dK (iB1 G _) ?_
  rw[qs_eq]
  cases m:small (s.getD 0 0) with
  | false=>
   push_cast(disch:=first|omega|(apply id;push_cast;try omega))[Bool.false_and]
   exact .id rfl
  | true=>
   push_cast(disch:=first|omega|(apply id;push_cast;try omega))[Bool.true_and]
   refine dK (jF3 G s) ?_
   by_cases g:bL cB s=s.length
   ·have c:(bL cB s:Int)=s.length:=Z0
    rw[show decide (bL cB s=s.length)=true from decide_eq_true g]
    push_cast(disch:=first|omega|(apply id;push_cast;try omega))[c,decide_true]
    exact .id rfl
   ·have c:¬ (bL cB s:Int)=s.length:=Z0
    rw[show decide (bL cB s=s.length)=false from decide_eq_false g]
    push_cast(disch:=first|omega|(apply id;push_cast;try omega))[c,decide_false]
    exact .id rfl
mutual
def qU (v:Int):Ex→Zb
 | .mk k n s l => (if k = 1 ∧ 0 ≤ n then decide (l.length = 0) else if k = 2 ∧ 0 ≤ n ∧ n < v then decide (l.length = 0) else if k = 3 ∨ k = 4 then decide (l.length = 1 ∧ n = 0) else if 5 ≤ k ∧ k ≤ 17 then decide (l.length = 2 ∧ n = 0) else false)
   &&decide (s=[])&&kW v l
def kW (v:Int):List Ex→Zb
 | []=>true
 | x :: l=>qU v x&&kW v l
end
theorem kX0 {v:Int}:∀ {l:List Ex},kW v l=true→∀ x∈l,qU v x=true
 | [],_,x,a=>by cases a
 | y :: l,h,x,a=>by
  simp only[kW,Z5] at h
  rcases List.mem_cons.1 a with rfl|a
  ·exact h.1
  ·exact kX0 h.2 x a
theorem sA0 {v:Int}{l:List Ex}{i:Nat}{x:Ex}(h:l[i]?=some x):kW v (l.take (i+1))=(kW v (l.take i)&&qU v x):=by
 have hi:=(List.getElem?_eq_some_iff.1 h).1
 have app:∀ a b:List Ex,kW v (a++b)=(kW v a&&kW v b):=by
  intro a b
  induction a with
  | nil=>simp[kW]
  | cons x a c=>simp[kW,c,Bool.and_assoc]
 rw[List.take_add_one,h,app]
 simp[kW]
theorem lR1 {v:Int}{l:List Ex}{x:Ex}(h:x∈l)(a:qU v x=false):kW v l=false:=by
 cases c:kW v l with
 | false=>rfl
 | true=>rw[kX0 c x h] at a;cases a
inductive I56r (v:Int)(l:List Ex):Nat→S→Prop
 | mk (i:Nat) (iv:Int) (h:jA) {x0 x2 x3 x4 x5 x6 x7 x8 x9 xA xB xC xD xE xF xG xH xI xJ xK xL xM xN xO xP xQ xR xS xT xU xV xW xX xY xZ yA yB yC yD yE yF yG yH yI yJ yK yL yM yN yO yP yQ yR yS yT yU yV yW yX yY yZ zA zB zC zD zF zG zH zI zM zN zO zP zQ zR zS zT:Z6} (hiv:iv=(i:Int)) (hi:i≤l.length) (hok:kW v (l.take i)=true) (hl1:h.lo=1) (hl2:1≤h.next) :
  I56r v l (l.length-i) ⟨(F81 x0 (.int .i64 v) x2 x3 x4 x5 x6 x7 x8 x9 xA xB xC xD xE xF xG xH xI xJ xK xL xM xN xO xP xQ xR xS xT xU xV xW xX xY xZ yA yB yC yD yE yF yG yH yI yJ yK yL yM yN yO yP yQ yR yS yT yU yV yW yX yY yZ zA zB zC zD zF zG zH zI (Rw false eE l.length (kY l)) (.int .i64 l.length) (.int .i64 iv) zM zN zO zP zQ zR zS zT),[],h⟩
theorem zR0 (v c k n:Int)(s:List Zu)(l:List Ex)(hll:l.length<100000000000)(ih:∀ x∈l,jF (pp G) H0 108 [exV x,.int .i64 v] (.bool (qU v x))){x0 x3 x4 x6 x7 x8 x9 xA xB xC xD xE P xG xH xI xJ xK xL xM xN xO xP xQ xR xS xT Y xV xW xX xY xZ yA yB yC yD yE R yG yH yI yJ yK yL yM yN p u z r A f C F E w D t g e o B j J y I zJ zK zL zM zN Z V zQ zR zS zT:Z6}(b:Zb)
  (d:b=(decide (s=[])&&decide ((l.length:Int)=c)&&decide (c=0∨n=0)&&kW v l)) :
  dc3 (pp G) qq none iW0 ⟨(F81 x0 (.int .i64 v) (.pointer (some ⟨1,0,none⟩)) x3 x4 (.int .i64 c) x6 x7 x8 x9 xA xB xC xD xE P xG xH xI xJ xK xL xM xN xO xP xQ xR xS xT Y xV xW xX xY xZ yA yB yC yD yE R yG yH yI yJ yK yL yM yN p u z r A f C F E w D t g e o B j J y I zJ zK zL zM zN Z V zQ zR zS zT),[],H0.add (O [.int .i64 k,.int .i64 n,.string (Tx s),Rw false eE l.length (kY l)] 32 false)⟩ (@kR ⟨jR prog [.tmp 4] (λv' σ'=>FzV prog 1 σ' v' (.bool b))⟩):=by
 rw[rT0]
 have T : ∀ {p u z r A f C F E w D t g e o B j J y I : Z6} (d : b = kW v l) (h : jA) (a : h.lo = 1) (M : 1 ≤ h.next), WD (pp G) qq.H none (.loop iV0) ⟨(F81 x0 (.int .i64 v) (.pointer (some ⟨1, 0, none⟩)) x3 x4 (.int .i64 c) x6 x7 x8 x9 xA xB xC xD xE P xG xH xI xJ xK xL xM xN xO xP xQ xR xS xT Y xV xW xX xY xZ yA yB yC yD yE R yG yH yI yJ yK yL yM yN p u z r A f C F E w D t g e o B j J y I (Rw false eE l.length (kY l)) (.int .i64 l.length) (.int .i64 0) zM zN Z V zQ zR zS zT), [], h⟩
   (@kR ⟨uS 1 (bV (λs1=>dc3 (pp G) qq none wI1 s1 (@kR ⟨@kR ⟨jR prog [.tmp 4] (λv' σ'=>FzV prog 1 σ' v' (.bool b))⟩⟩)) (@kR ⟨jR prog [.tmp 4] (λv' σ'=>FzV prog 1 σ' v' (.bool b))⟩))⟩):=by
  intro p u z r A f C F E w D t g e o B j J y I d h a M
  refine WD.loop4 (q:=qq) (jV G) Z7 (I56r v l) ?_ _ _ (I56r.mk 0 0 h rfl (Nat.zero_le _) rfl a M)
  intro m s1 hI
  cases hI with|mk i iv h hiv hi L a M=>
  subst hiv
  rw[rS0]
  by_cases N:(i:Int)<l.length
  ·obtain ⟨x,hx⟩:∃ x,l[i]?=some x:=⟨_,List.getElem?_eq_getElem Z0⟩
   have X:=List.mem_of_getElem? hx
   have hp:=uQ0 hx
   have hle:i*4+4≤l.length*4:=Z0
   push_cast(disch:=first|omega|(apply id;push_cast;try omega))[N,Z4,hp,hle,a]
   refine dK (ih x X) ?_
   cases hr:qU v x with
   | true=>
    push_cast(disch:=first|omega|(apply id;push_cast;try omega))
    exact ⟨_,Z0,I56r.mk (i+1) _ _ Z2 Z0 (by rw[sA0 hx,L,hr];rfl) (by first|(push_cast(disch:=first|omega|(apply id;push_cast;try omega))[a];done)|(push_cast(disch:=first|omega|(apply id;push_cast;try omega));omega)) (by first|(push_cast(disch:=first|omega|(apply id;push_cast;try omega));done)|(push_cast(disch:=first|omega|(apply id;push_cast;try omega));omega))⟩
   | false=>
    rw[lR1 X hr] at d
    subst d
    push_cast(disch:=first|omega|(apply id;push_cast;try omega))
    exact .id rfl
  ·have hie:i=l.length:=Z0
   subst hie
   rw[List.take_length] at L
   rw[L] at d
   subst d
   push_cast(disch:=first|omega|(apply id;push_cast;try omega))[N]
   exact .id rfl
 by_cases K:s=[]
 ·by_cases h2:(l.length:Int)=c
  ·subst h2
   by_cases h3:(0:Int)<l.length
   ·by_cases h4:n=0
    ·push_cast(disch:=first|omega|(apply id;push_cast;try omega))[K,h3,h4,beq_self_eq_true]
     exact T (by rw[d];simp[K,h4]) _ (by push_cast(disch:=first|omega|(apply id;push_cast;try omega))) (by first|(push_cast(disch:=first|omega|(apply id;push_cast;try omega));done)|(push_cast(disch:=first|omega|(apply id;push_cast;try omega));omega))
    ·have hno:¬ ((l.length:Int)=0∨n=0):=Z0
     have:b=false:=by rw[d,decide_eq_false hno];simp
     subst this
     push_cast(disch:=first|omega|(apply id;push_cast;try omega))[K,h3,h4,beq_self_eq_true]
     exact .id rfl
   ·push_cast(disch:=first|omega|(apply id;push_cast;try omega))[K,h3,beq_self_eq_true]
    exact T (by rw[d,decide_eq_true (show (l.length:Int)=0∨n=0 by omega)];simp[K]) _ (by push_cast(disch:=first|omega|(apply id;push_cast;try omega))) (by first|(push_cast(disch:=first|omega|(apply id;push_cast;try omega));done)|(push_cast(disch:=first|omega|(apply id;push_cast;try omega));omega))
  ·have:b=false:=by rw[d];simp[h2]
   subst this
   push_cast(disch:=first|omega|(apply id;push_cast;try omega))[K,h2,beq_self_eq_true]
   exact .id rfl
 ·have:b=false:=by rw[d];simp[K]
  subst this
  have hs:(s == [])=false:=by simpa using K
  push_cast(disch:=first|omega|(apply id;push_cast;try omega))[hs]
  exact .id rfl
theorem bS0 (v:Int):∀ x:Ex,smE x=true→jF (pp G) H0 108 [exV x,.int .i64 v] (.bool (qU v x))
 | .mk k n s l,hsm=>by
  simp only[smE,Z5,decide_eq_true_eq] at hsm
  have f:=gK0 hsm.2
  have g:∀ x∈l,jF (pp G) H0 108 [exV x,.int .i64 v] (.bool (qU v x)):=λx p=>bS0 v x (f x p)
  refine cE G fN3 Z7 (wP2 ..) λq=>?_;rw[yK2]
  unfold exV exC
  rw[qU]
  have i:∀ (c:Int) (A:Zb),A=(decide ((l.length:Int)=c)&&decide (c=0∨n=0))→(A&&decide (s=[])&&kW v l)=(decide (s=[])&&decide ((l.length:Int)=c)&&decide (c=0∨n=0)&&kW v l):=λc A o=>by
   rw[o]
   cases decide (s=[])<;>cases decide ((l.length:Int)=c)<;>cases decide (c=0∨n=0)<;>rfl
  by_cases e:k=1
  ·by_cases a:0≤n
   ·rw[if_pos ⟨e,a⟩]
    refine S2 e a ?_
    exact zR0 G v 0 1 n s l hsm.1 g _ (i 0 (decide (l.length=0)) (by rw[Bool.eq_iff_iff];simp only[Z5,decide_eq_true_eq];constructor<;>intro h<;>first|omega|exact ⟨Z0,by first|omega|exact .inl rfl⟩|exact ⟨Z0,by simp⟩|exact h.1|(simp at h ⊢;omega)))
   ·rw[if_neg Z0,if_neg Z0,if_neg Z0,if_neg Z0]
    subst e
    refine S1 a ?_
    exact .id rfl
  rw[if_neg Z0]
  by_cases a:k=2
  ·by_cases b:0≤n
   ·by_cases d:n<v
    ·rw[if_pos ⟨a,b,d⟩]
     subst a
     refine S2 b d ?_
     exact zR0 G v 0 2 n s l hsm.1 g _ (i 0 (decide (l.length=0)) (by rw[Bool.eq_iff_iff];simp only[Z5,decide_eq_true_eq];constructor<;>intro h<;>first|omega|exact ⟨Z0,by first|omega|exact .inl rfl⟩|exact ⟨Z0,by simp⟩|exact h.1|(simp at h ⊢;omega)))
    ·rw[if_neg Z0,if_neg Z0,if_neg Z0]
     subst a
     refine S2 b d ?_
     exact .id rfl
   ·rw[if_neg Z0,if_neg Z0,if_neg Z0]
    subst a
    refine S1 b ?_
    exact .id rfl
  rw[if_neg Z0]
  by_cases b:k=3
  ·rw[if_pos (.inl b)]
   subst b
   refine S0 ?_
   exact zR0 G v 1 3 n s l hsm.1 g _ (i 1 (decide (l.length=1∧n=0)) (by rw[Bool.eq_iff_iff];simp only[Z5,decide_eq_true_eq];constructor<;>intro h<;>first|omega|exact ⟨Z0,by first|omega|exact .inl rfl⟩|exact ⟨Z0,by simp⟩|exact h.1|(simp at h ⊢;omega)))
  by_cases d:k=4
  ·rw[if_pos (.inr d)]
   subst d
   refine S0 ?_
   exact zR0 G v 1 4 n s l hsm.1 g _ (i 1 (decide (l.length=1∧n=0)) (by rw[Bool.eq_iff_iff];simp only[Z5,decide_eq_true_eq];constructor<;>intro h<;>first|omega|exact ⟨Z0,by first|omega|exact .inl rfl⟩|exact ⟨Z0,by simp⟩|exact h.1|(simp at h ⊢;omega)))
  rw[if_neg Z0]
  by_cases j:5≤k
  ·by_cases m:k≤17
   ·rw[if_pos ⟨j,m⟩]
    refine S6 e a b d j m ?_
    exact zR0 G v 2 k n s l hsm.1 g _ (i 2 (decide (l.length=2∧n=0)) (by rw[Bool.eq_iff_iff];simp only[Z5,decide_eq_true_eq];constructor<;>intro h<;>first|omega|exact ⟨Z0,by first|omega|exact .inl rfl⟩|exact ⟨Z0,by simp⟩|exact h.1|(simp at h ⊢;omega)))
   ·rw[if_neg Z0]
    refine S6 e a b d j m ?_
    exact .id rfl
  ·rw[if_neg Z0]
   refine S5 e a b d j ?_
   exact .id rfl
 termination_by x=>SizeOf.sizeOf x
def gZ (v a p h n:Int):Zb:=
 if h=1 then decide (0≤n∧n<v) else if h=2 then decide (n = -1∨(0≤n∧n<v)) else if h=3 then decide (0≤n∧n<a) else if h=4 then decide (0≤n∧n<p) else if h=5 then decide (0≤n) else decide (n=0)
theorem mN2 (v f p h n:Int):jF (pp G) H0 104 [.agg ⟨[.int .i64 v,.int .i64 f,.int .i64 p]⟩,.int .i64 h,.int .i64 n] (.bool (gZ v f p h n)):=by
 refine cE G fR3 Z7 (wR2 ..) λg=>?_;rw[yO2]
 unfold gZ
 by_cases c:h=1
 ·rw[if_pos c]
  by_cases a:0≤n
  ·refine S3 c a true_and ?_
   exact .id rfl
  ·refine S3 c a false_and ?_
   exact .id rfl
 rw[if_neg c]
 by_cases a:h=2
 ·rw[if_pos a]
  by_cases d:n = -1
  ·refine S4 c a d true_or ?_
   exact .id rfl
  ·by_cases b:0≤n
   ·refine S6 c a d b true_and false_or ?_
    exact .id rfl
   ·refine S6 c a d b false_and false_or ?_
    exact .id rfl
 rw[if_neg a]
 by_cases d:h=3
 ·rw[if_pos d]
  by_cases b:0≤n
  ·refine S5 c a d b true_and ?_
   exact .id rfl
  ·refine S5 c a d b false_and ?_
   exact .id rfl
 rw[if_neg d]
 by_cases b:h=4
 ·rw[if_pos b]
  by_cases e:0≤n
  ·refine S6 c a d b e true_and ?_
   exact .id rfl
  ·refine S6 c a d b e false_and ?_
   exact .id rfl
 rw[if_neg b]
 by_cases e:h=5
 ·rw[if_pos e]
  refine S5 c a d b e ?_
  exact .id rfl
 rw[if_neg e]
 refine S5 c a d b e ?_
 exact .id rfl
def gJ (e:Ex):Zb:=!decide (e.k=0) || (!decide (e.n=0) || (!decide (e.s=[]) || decide (0<e.l.length)))
theorem pU1:∀ e:Ex,smE e=true→jF (pp G) H0 107 [exV e] (.bool (gJ e))
 | .mk k n s l,hs=>by
  refine cE G fO3 Z7 (zP3 ..) λf=>?_;rw[yL2]
  unfold gJ
  by_cases a:k=0
  rotate_left
  ·rw[show (!decide ((Ex.mk k n s l).k=0))=true from by simp[Ex.k,a],Bool.true_or]
   push_cast(disch:=first|omega|(apply id;push_cast;try omega))[a]
   exact .id rfl
  rw[show (!decide ((Ex.mk k n s l).k=0))=false from by simp[Ex.k,a],Bool.false_or]
  by_cases c:n=0
  rotate_left
  ·rw[show (!decide ((Ex.mk k n s l).n=0))=true from by simp[Ex.n,c],Bool.true_or]
   push_cast(disch:=first|omega|(apply id;push_cast;try omega))[a,c]
   exact .id rfl
  rw[show (!decide ((Ex.mk k n s l).n=0))=false from by simp[Ex.n,c],Bool.false_or]
  by_cases b:s=[]
  rotate_left
  ·rw[show (!decide ((Ex.mk k n s l).s=[]))=true from by simp[Ex.s,b],Bool.true_or]
   have g:(s == ([]:List Zu))=false:=by simpa using b
   push_cast(disch:=first|omega|(apply id;push_cast;try omega))[a,c,g]
   exact .id rfl
  rw[show (!decide ((Ex.mk k n s l).s=[]))=false from by simp[Ex.s,b],Bool.false_or]
  by_cases d:0<l.length
  ·have h:(0:Int)<l.length:=Z0
   rw[show decide (0<(Ex.mk k n s l).l.length)=true from by simp only[Ex.l,d,decide_true]]
   push_cast(disch:=first|omega|(apply id;push_cast;try omega))[a,c,b,h,beq_self_eq_true]
   exact .id rfl
  ·have h:¬ (0:Int)<l.length:=Z0
   rw[show decide (0<(Ex.mk k n s l).l.length)=false from by simp only[Ex.l,d,decide_false]]
   push_cast(disch:=first|omega|(apply id;push_cast;try omega))[a,c,b,h,beq_self_eq_true]
   exact .id rfl
def tY2 (s:List Zu)(e:Ex)(l:List Tm):Z6:=.agg ⟨[.int .i64 (if s=[] then 0 else 1),.int .i64 (if gJ e then 1 else 0),.int .i64 l.length]⟩
theorem dL3 (k a b:Int)(s:List Zu)(e:Ex)(l:List Tm)(c:smE e=true):jF (pp G) H0 105 [tmV (.mk k a b s e l)] (tY2 s e l):=by
 have d:=pU1 G e c
 refine cE G fQ3 Z7 (lU0 ..) λf=>?_;rw[yN2]
 unfold tY2
 by_cases h:s=[]
 ·rw[if_pos h]
  push_cast(disch:=first|omega|(apply id;push_cast;try omega))[h,beq_self_eq_true]
  rw[bN0]
  push_cast(disch:=first|omega|(apply id;push_cast;try omega))
  refine dK (d) ?_
  cases i:gJ e with
  | true=>
   push_cast(disch:=first|omega|(apply id;push_cast;try omega))
   rw[qH0]
   push_cast(disch:=first|omega|(apply id;push_cast;try omega))
   exact .id rfl
  | false=>
   push_cast(disch:=first|omega|(apply id;push_cast;try omega))
   rw[qH0]
   push_cast(disch:=first|omega|(apply id;push_cast;try omega))
   exact .id rfl
 ·have g:(s == ([]:List Zu))=false:=by simpa using h
  rw[if_neg h]
  push_cast(disch:=first|omega|(apply id;push_cast;try omega))[g]
  rw[bN0]
  push_cast(disch:=first|omega|(apply id;push_cast;try omega))
  refine dK (d) ?_
  cases i:gJ e with
  | true=>
   push_cast(disch:=first|omega|(apply id;push_cast;try omega))
   rw[qH0]
   push_cast(disch:=first|omega|(apply id;push_cast;try omega))
   exact .id rfl
  | false=>
   push_cast(disch:=first|omega|(apply id;push_cast;try omega))
   rw[qH0]
   push_cast(disch:=first|omega|(apply id;push_cast;try omega))
   exact .id rfl
def shC:List Z6:=match LL with|[(_,l)]=>l|_=>[]
def shA (k:Int):Int:=if k=1 then 2 else if k=2 then 1 else if k=3∨k=4∨k=5∨k=6 then 3 else if k=13 then 4 else if k=14 then 5 else 0
def shB (k:Int):Int:=if k=6 then 3 else if k=14 then 2 else 0
def shN (k:Int):Int:=if k=1∨k=14 then 1 else 0
def shE (k:Int):Int:=if k=2∨k=9 then 1 else 0
def shL (k:Int):Int:=if k=3∨k=7 then 1 else if k=9∨k=10∨k=11∨k=12 then 2 else 0
theorem yE3:∀ k:Nat,k<15→(shC.drop (k*5)).take 5=[.int .i64 (shA k),.int .i64 (shB k),.int .i64 (shN k),.int .i64 (shE k),.int .i64 (shL k)]
 | 0,_=>by kernel_rfl
 | 1,_=>by kernel_rfl
 | 2,_=>by kernel_rfl
 | 3,_=>by kernel_rfl
 | 4,_=>by kernel_rfl
 | 5,_=>by kernel_rfl
 | 6,_=>by kernel_rfl
 | 7,_=>by kernel_rfl
 | 8,_=>by kernel_rfl
 | 9,_=>by kernel_rfl
 | 10,_=>by kernel_rfl
 | 11,_=>by kernel_rfl
 | 12,_=>by kernel_rfl
 | 13,_=>by kernel_rfl
 | 14,_=>by kernel_rfl
 | n+15,h=>by omega
theorem kB2:∃ ty,cells H0 0=some (shC,ty,false):=⟨_,rfl⟩
theorem oR2:shC.length=75:=Z7
mutual
def jZ (v c p:Int)(h:Zb):Tm→Zb
 | .mk k a b s e l=>decide (0≤k∧k<15)&&(!(h&&decide (k=14))&&(gZ v c p (shA k) a&&(gZ v c p (shB k) b&&(decide ((if s=[] then (0:Int) else 1)=shN k∧(if gJ e then (1:Int) else 0)=shE k∧(l.length:Int)=shL k)&&((decide (s=[]) || sF0 s)&&((!gJ e || qU v e)&&jS v c p (h || decide (k=3)) l))))))
def jS (v a p:Int)(h:Zb):List Tm→Zb
 | []=>true
 | x :: l=>jZ v a p h x&&jS v a p h l
end
theorem dD {v c p:Int}{q:Zb}:∀ {l:List Tm},jS v c p q l=true→∀ x∈l,jZ v c p q x=true
 | [],_,x,a=>by cases a
 | y :: l,h,x,a=>by
  simp only[jS,Z5] at h
  rcases List.mem_cons.1 a with rfl|a
  ·exact h.1
  ·exact dD h.2 x a
theorem wU0 {v h p:Int}{q:Zb}(a b:List Tm):jS v h p q (a++b)=(jS v h p q a&&jS v h p q b):=by
 induction a with
 | nil=>simp[jS]
 | cons x a c=>simp[jS,c,Bool.and_assoc]
theorem mU0 {v a p:Int}{q:Zb}{l:List Tm}{i:Nat}{x:Tm}(h:l[i]?=some x):jS v a p q (l.take (i+1))=(jS v a p q (l.take i)&&jZ v a p q x):=by
 rw[jY h,wU0];simp[jS]
theorem gS1 {v a p:Int}{q:Zb}{l:List Tm}{x:Tm}(h:x∈l)(c:jZ v a p q x=false):jS v a p q l=false:=by
 cases b:jS v a p q l with
 | false=>rfl
 | true=>rw[dD b x h] at c;cases c
inductive I32 (v st p:Int)(q:Zb)(k a b:Int)(s:List Zu)(e:Ex)(l:List Tm):Nat→S→Prop
 | mk (i:Nat) (iv:Int) (h:jA) {x0 x1 x5 x6 x7 x8 x9 xA xB xC xD xE xF xG xH xI xJ xK xL xM xN xO xP xQ xR xS xT xU xV xW xX xY xZ yA yB yC yD yE yF yG yH yI yJ yK yL yM yN yO yP yQ yR yS yT yU yV yW yX yY yZ zA zB zC zD zF zG zH zI zJ zK zL zM zN zO zP zT zU zV zW zX zY zZ wA wB wC wD wE wF wG:Z6} (hiv:iv=(i:Int)) (hi:i≤l.length) (hok:jS v st p (q || decide (k=3)) (l.take i)=true) (c0:cells h 1=some ([.int .i64 v,.int .i64 st,.int .i64 p],125,false)) (c1:cells h 2=some (tmC (.mk k a b s e l),34,false)) (hl1:h.lo=1) (hl2:3≤h.next) :
  I32 v st p q k a b s e l (l.length-i) ⟨(F94 x0 x1 (.bool q) (.pointer (some ⟨1,0,none⟩)) (.pointer (some ⟨2,0,none⟩)) x5 x6 x7 x8 x9 xA xB xC xD xE xF xG xH xI xJ xK xL xM xN xO xP xQ xR xS xT xU xV xW xX xY xZ yA yB yC yD yE yF yG yH yI yJ yK yL yM yN yO yP yQ yR yS yT yU yV yW yX yY yZ zA zB zC zD zF zG zH zI zJ zK zL zM zN zO zP (Rw false etm l.length (qN l)) (.int .i64 l.length) (.int .i64 iv) zT zU zV zW zX zY zZ wA wB wC wD wE wF wG),[],h⟩
theorem fU0 (v f p:Int)(q:Zb)(k a b:Int)(s:List Zu)(e:Ex)(l:List Tm)(hll:l.length<100000000000)
  (ih:∀ x∈l,∀ q,jF (pp G) H0 71 [.agg ⟨[.int .i64 v,.int .i64 f,.int .i64 p]⟩,tmV x,.bool q] (.bool (jZ v f p q x))) (h:jA)
  (w:cells h 1=some ([.int .i64 v,.int .i64 f,.int .i64 p],125,false)) (o:cells h 2=some (tmC (.mk k a b s e l),34,false)) (d:h.lo=1) (u:3≤h.next) {c:Zb} (hc:c=jS v f p (q || decide (k=3)) l) {x0 x1 x5 x6 x7 x8 x9 xA xB xC xD xE A xG xH xI P xK Z xM V xO M xQ xR xS xT D T xW xX xY xZ yA yB yC yD J B yG yH I yJ yK yL L yN yO yP yQ yR yS N yU yV yW yX yY yZ zA F zC zD zF zG zH zI zJ zK zL zM zN E C zT zU zV Y K R zZ wA wB wC wD wE wF wG:Z6} :
  WD (pp G) qq.H none (.loop sN0) ⟨(F94 x0 x1 (.bool q) (.pointer (some ⟨1,0,none⟩)) (.pointer (some ⟨2,0,none⟩)) x5 x6 x7 x8 x9 xA xB xC xD xE A xG xH xI P xK Z xM V xO M xQ xR xS xT D T xW xX xY xZ yA yB yC yD J B yG yH I yJ yK yL L yN yO yP yQ yR yS N yU yV yW yX yY yZ zA F zC zD zF zG zH zI zJ zK zL zM zN E C (Rw false etm l.length (qN l)) (.int .i64 l.length) (.int .i64 0) zT zU zV Y K R zZ wA wB wC wD wE wF wG),[],h⟩
   (@kR ⟨uS 1 (bV (λs1=>dc3 (pp G) qq none sM0 s1 (@kR ⟨jR prog [.tmp 6] (λv' σ'=>FzV prog 1 σ' v' (.bool c))⟩)) (jR prog [.tmp 6] (λv' σ'=>FzV prog 1 σ' v' (.bool c))))⟩):=by
 refine WD.loop4 (q:=qq) (jV G) Z7 (I32 v f p q k a b s e l) ?_ _ _ (I32.mk 0 0 h rfl (Nat.zero_le _) rfl w o d u)
 clear w o d u
 intro m s1 hI
 cases hI with|mk i iv h X hi t w o d u=>
 subst X
 rw[kP1]
 rw[uX] at o
 by_cases r:(i:Int)<l.length
 ·obtain ⟨x,hx⟩:=jT (l:=l) (i:=i) Z0
  have y:=List.mem_of_getElem? hx
  have hp:=kS hx
  have z:i*9+9≤l.length*9:=Z0
  have hq:∀ {b:Zb},(q || decide (k=3))=b→jF (pp G) H0 71 [.agg ⟨[.int .i64 v,.int .i64 f,.int .i64 p]⟩,tmV x,.bool b] (.bool (jZ v f p b x)):=λ_=>ih x y _
  have j:∀ (b:Zb),(q || decide (k=3))=b→jZ v f p b x=true→jS v f p (q || decide (k=3)) (l.take (i+1))=true:=λb hb n=>by rw[mU0 hx,t,hb,n];rfl
  have g:∀ (b:Zb),(q || decide (k=3))=b→jZ v f p b x=false→c=false:=λb hb n=>by rw[hc];exact gS1 y (by rw[hb];exact n)
  cases q with
  | true=>
   refine S7 r @Z4 hp z d w o ?_
   refine dK (hq (Bool.true_or _)) ?_
   cases n:jZ v f p true x with
   | true=>
    refine S0 ?_
    exact ⟨_,Z0,I32.mk (i+1) _ _ Z2 Z0 (j true (Bool.true_or _) n) (tH1 w) (tH1 o) (tH1 d) tH⟩
   | false=>
    obtain rfl:=g true (Bool.true_or _) n
    refine S0 ?_
    exact .id rfl
  | false=>
   refine S7 r @Z4 hp z d w o ?_
   refine dK (hq (Bool.false_or _)) ?_
   cases n:jZ v f p (decide (k=3)) x with
   | true=>
    refine S0 ?_
    exact ⟨_,Z0,I32.mk (i+1) _ _ Z2 Z0 (j _ (Bool.false_or _) n) (tH1 w) (tH1 o) (tH1 d) tH⟩
   | false=>
    obtain rfl:=g _ (Bool.false_or _) n
    refine S0 ?_
    exact .id rfl
 ·have hie:i=l.length:=Z0
  subst hie
  rw[List.take_length] at t
  rw[t] at hc
  subst hc
  refine S1 r ?_
  rw[kO1]
  refine S0 ?_
  exact .id rfl
theorem rt_f (v d p:Int):∀ (x:Tm) (q:Zb),smT x=true→jF (pp G) H0 71 [.agg ⟨[.int .i64 v,.int .i64 d,.int .i64 p]⟩,tmV x,.bool q] (.bool (jZ v d p q x))
 | .mk k a b s e l,q,j=>by
  have I:=j
  simp only[smT,Z5,decide_eq_true_eq] at j
  obtain ⟨⟨f,g⟩,C⟩:=j
  have w:∀ x∈l,∀ q,jF (pp G) H0 71 [.agg ⟨[.int .i64 v,.int .i64 d,.int .i64 p]⟩,tmV x,.bool q] (.bool (jZ v d p q x)):=λx F q=>rt_f v d p x q (qQ C x F)
  have m:=dL3 G k a b s e l g
  have c:=pU1 G e g
  obtain ⟨ty,D⟩:=kB2
  refine cE G fir71 Z7 (wX3 ..) λK=>?_;rw[pM2]
  rw[jZ]
  by_cases A:0≤k∧k<15
  rotate_left
  ·rw[decide_eq_false A,Bool.false_and]
   by_cases o:k<0
   ·refine S1 o ?_
    exact .id rfl
   ·have u:15≤k:=Z0
    refine S2 o u ?_
    exact .id rfl
  rw[decide_eq_true A,Bool.true_and]
  have o:¬ k<0:=Z0
  have u:¬ 15≤k:=Z0
  by_cases n:(q&&decide (k=14))=true
  ·rw[n,Bool.not_true,Bool.false_and]
   rw[Z5,decide_eq_true_eq] at n
   obtain ⟨rfl,rfl⟩:=n
   refine S0 ?_
   exact .id rfl
  have n:(q&&decide (k=14))=false:=by simpa using n
  rw[n,Bool.not_false,Bool.true_and]
  obtain ⟨h,rfl⟩:∃ h:Nat,k=(h:Int):=⟨k.toNat,Z0⟩
  have B:=yE3 h Z0
  have i:(h:Int)<15:=A.2
  have N:h*5+5≤75:=Z0
  have r:ldC (some (true,5)) (h*5) 1 0 (some (shC,ty,false))=some (.agg ⟨[.int .i64 (shA (h:Int)),.int .i64 (shB (h:Int)),.int .i64 (shN (h:Int)),.int .i64 (shE (h:Int)),.int .i64 (shL (h:Int))]⟩):=by
   refine gW2 true 5 _ _ _ _ _ _ _ ?_ rfl
   simp only[bG]
   rw[if_pos (by rw[oR2];omega),B]
  cases q
  case' true=>
   have z:¬ (h:Int)=14:=by simpa using n
   push_cast(disch:=first|omega|(apply id;push_cast;try omega))[o,u,z,D,r,i,Z4]
  case' false=>
   push_cast(disch:=first|omega|(apply id;push_cast;try omega))[o,u,D,r,i,Z4]
  all_goals
   refine dK (mN2 G v d p (shA h) a) ?_
   cases J:gZ v d p (shA h) a with
   | false=>
    refine S0 ?_
    exact .id rfl
   | true=>
    refine S0 ?_
    refine dK (mN2 G v d p (shB h) b) ?_
    cases H:gZ v d p (shB h) b with
    | false=>
     refine S0 ?_
     exact .id rfl
    | true=>
     refine S0 ?_
     refine dK (m) ?_
     unfold tY2
     by_cases y:(if s=[] then (0:Int) else 1)=shN h∧(if gJ e then (1:Int) else 0)=shE h∧(l.length:Int)=shL h
     rotate_left
     ·rw[decide_eq_false y]
      refine S4 @nD2 y decide_false @Bool.not_false ?_
      exact .id rfl
     rw[decide_eq_true y]
     refine S4 @nD2 y decide_true @Bool.not_true ?_
     by_cases j:s=[]
     ·have t:(s == ([]:List Zu))=true:=by simpa using j
      rw[show decide (s=[])=true from decide_eq_true j,Bool.true_or,Bool.true_and,Bool.true_and,Bool.true_and]
      refine S2 t @Bool.not_true ?_
      refine dK (c) ?_
      cases L:gJ e with
      | false=>
       skip
       refine S0 ?_
       exact fU0 G v d p _ h a b s e l f w _ (by push_cast(disch:=first|omega|(apply id;push_cast;try omega))) (by push_cast(disch:=first|omega|(apply id;push_cast;try omega));try rfl) (by push_cast(disch:=first|omega|(apply id;push_cast;try omega))) (by first|(push_cast(disch:=first|omega|(apply id;push_cast;try omega));done)|(push_cast(disch:=first|omega|(apply id;push_cast;try omega));omega)) (by rfl)
      | true=>
       skip
       refine S0 ?_
       refine dK (bS0 G v e g) ?_
       cases E:qU v e with
       | false=>
        refine S0 ?_
        exact .id rfl
       | true=>
        refine S0 ?_
        exact fU0 G v d p _ h a b s e l f w _ (by push_cast(disch:=first|omega|(apply id;push_cast;try omega))) (by push_cast(disch:=first|omega|(apply id;push_cast;try omega));try rfl) (by push_cast(disch:=first|omega|(apply id;push_cast;try omega))) (by first|(push_cast(disch:=first|omega|(apply id;push_cast;try omega));done)|(push_cast(disch:=first|omega|(apply id;push_cast;try omega));omega)) (by rfl)
     ·have t:(s == ([]:List Zu))=false:=by simpa using j
      rw[show decide (s=[])=false from decide_eq_false j,Bool.false_or]
      refine S2 t @Bool.not_false ?_
      refine dK (mW1 G s) ?_
      cases M:sF0 s with
      | false=>
       refine S3 t @Bool.not_false @Bool.not_true ?_
       exact .id rfl
      | true=>
       refine S3 t @Bool.not_false @Bool.not_true ?_
       refine dK (c) ?_
       cases L:gJ e with
       | false=>
        skip
        refine S0 ?_
        exact fU0 G v d p _ h a b s e l f w _ (by push_cast(disch:=first|omega|(apply id;push_cast;try omega))) (by push_cast(disch:=first|omega|(apply id;push_cast;try omega));try rfl) (by push_cast(disch:=first|omega|(apply id;push_cast;try omega))) (by first|(push_cast(disch:=first|omega|(apply id;push_cast;try omega));done)|(push_cast(disch:=first|omega|(apply id;push_cast;try omega));omega)) (by rfl)
       | true=>
        skip
        refine S0 ?_
        refine dK (bS0 G v e g) ?_
        cases E:qU v e with
        | false=>
         refine S0 ?_
         exact .id rfl
        | true=>
         refine S0 ?_
         exact fU0 G v d p _ h a b s e l f w _ (by push_cast(disch:=first|omega|(apply id;push_cast;try omega))) (by push_cast(disch:=first|omega|(apply id;push_cast;try omega));try rfl) (by push_cast(disch:=first|omega|(apply id;push_cast;try omega))) (by first|(push_cast(disch:=first|omega|(apply id;push_cast;try omega));done)|(push_cast(disch:=first|omega|(apply id;push_cast;try omega));omega)) (by rfl)
 termination_by x=>SizeOf.sizeOf x
end
end Go.Proofs.YtklapbhlhjdijaaGreatDoor
namespace Go.Proofs.YtklapbhlhjdijaaGreatDoor
open _root_.Go.Proofs.Tryz (prog)
open Go Go.RowKit Go.Ev Go.Dv
noncomputable section
attribute [local push_cast] eq_self iff_self
set_option maxRecDepth 100000
mutual
def okPr (V h D:List (List Zu)):Pr→Zb
 | .mk k n t e l=>decide (0≤k∧k<14∧(l.length:Int)=shL k)&&(decide (k=1→n≠[]∧sF0 n=true∧(t=[]∨t∈V))&&(decide (k=2→t∈V)&&(decide (k=3∨k=4∨k=5∨k=6→n∈h)&&(decide (k=6→t∈h)&&(decide (k=13→n∈D)&&(decide (k=2∨k=9→qU V.length (lowE V e)=true)&&sE0 V h D l))))))
def sE0 (V h D:List (List Zu)):List Pr→Zb
 | []=>true
 | x :: l=>okPr V h D x&&sE0 V h D l
end
theorem wK0 {l:List (List Zu)}{s:List Zu}(h:s∈l):0≤bM l s∧bM l s<l.length:=by
 have a:=nW0 h
 have c:=bP2 l s
 omega
theorem rZ0 {v:Int}:∀ {e:Ex},qU v e=true→gJ e=true
 | .mk k n s l,h=>by
  have:k≠0:=by
   rintro rfl
   simp[qU] at h
  simp[gJ,Ex.k,this]
theorem fB0:gJ (.mk 0 0 [] [])=false:=rfl
theorem W_id {a:Int}(h:-9223372036854775808≤a∧a≤9223372036854775807):W a=a:=by
 unfold W;simp only[IntKind.wrap_i64];omega
mutual
theorem qT:∀ x:Tm,1≤jJ x
 | .mk _ _ _ _ _ l=>by rw[jJ];have:=kJ l;omega
theorem kJ:∀ l:List Tm,0≤jI l
 | []=>by simp[jI]
 | x :: l=>by rw[jI];have:=qT x;have:=kJ l;omega
end
mutual
theorem jT1 (V Sk D:List (List Zu))(w:Int):∀ (x:Pr) (push:Zb) (n:Int),okPr V Sk D x=true→0≤n→n+jJ (bK V Sk D x)<4611686018427387904→
  jZ V.length Sk.length D.length push (wtF w push (bK V Sk D x) n).1=true∧n≤(wtF w push (bK V Sk D x) n).2∧(wtF w push (bK V Sk D x) n).2≤n+jJ (bK V Sk D x)∧jJ (wtF w push (bK V Sk D x) n).1≤jJ (bK V Sk D x)
 | .mk k m t e l,push,n,hg,hn,hs=>by
  simp only[okPr,Z5,decide_eq_true_eq] at hg
  obtain ⟨⟨hk0,hk1,hll⟩,h1,h2,h3,h4,h5,h6,hgl⟩:=hg
  rw[bK] at hs ⊢
  rw[jJ] at hs
  have hpos:=kJ (kO V Sk D l)
  have ih:=λq=>lZ0 V Sk D w l q n hgl hn Z0
  by_cases hk:k=1
  ·subst hk
   obtain rfl:l=[]:=by
    cases l with
    | nil=>rfl
    | cons x l=>simp[shL] at hll;omega
   obtain ⟨hm,hnm,ht⟩:=h1 rfl
   have hW:W (n+1)=n+1:=W_id Z0
   have hA:lowA V Sk D 1 m t = -1∨0≤lowA V Sk D 1 m t∧lowA V Sk D 1 m t<V.length:=by
    unfold lowA
    rw[if_pos rfl]
    split
    ·exact .inl rfl
    ·rename_i h
     exact .inr (wK0 (ht.resolve_left h))
   have hB:lowB Sk 1 t=0:=by simp[lowB]
   have hN:lowN 1 m=m:=by simp[lowN]
   have hX:lowX V 1 e=.mk 0 0 [] []:=by simp[lowX]
   rw[hB,hN,hX,kO,wtF,if_pos rfl]
   by_cases hc:(!push&&wtB w n)=true
   ·rw[if_pos hc]
    have hp:push=false:=by cases push<;>simp_all
    subst hp
    refine ⟨?_,by show n≤W (n+1);omega,by show W (n+1)≤_;rw[jJ,jI];omega,by simp[jJ,jI]⟩
    simp[jZ,jS,gZ,shA,shB,shN,shE,shL,fB0,hm,hnm,hn]
    omega
   ·rw[if_neg hc]
    refine ⟨?_,by show n≤W (n+1);omega,by show W (n+1)≤_;rw[jJ,jI];omega,by simp[wtL]⟩
    simp[wtL,jZ,jS,gZ,shA,shB,shN,shE,shL,fB0,hm,hnm]
    omega
  ·rw[wtF,if_neg hk]
   have ih':=ih (push || is3 k)
   have hwl:(wtL w (push || is3 k) (kO V Sk D l) n).1.length=l.length:=by rw[eY1,zZ0,List.length_map]
   refine ⟨?_,ih'.2.1,by rw[jJ];have:=ih'.2.2.1;show (wtL w (push || is3 k) (kO V Sk D l) n).2≤_;omega,by rw[jJ,jJ];have:=ih'.2.2.2;omega⟩
   have ihr:=ih'.1
   generalize wtL w (push || is3 k) (kO V Sk D l) n=r at hwl ihr ⊢
   rw[jZ]
   have hz:(r.1.length:Int)=shL k:=by rw[hwl];exact hll
   have hN:lowN k m=[]:=by unfold lowN;rw[if_neg hk]
   rw[hN]
   have e14:¬ k=14:=Z0
   have e15:k<15:=Z0
   have i3:is3 k=decide (k=3):=rfl
   rw[i3] at ihr
   rw[ihr,hz]
   have fA:gZ V.length Sk.length D.length (shA k) (lowA V Sk D k m t)=true:=by
    unfold gZ shA lowA
    by_cases e2:k=2
    ·have:=wK0 (h2 e2)
     subst e2;simp;omega
    by_cases e3:k=3∨k=4∨k=5∨k=6
    ·have:=wK0 (h3 e3)
     rcases e3 with rfl|rfl|rfl|rfl<;>(simp;omega)
    by_cases e13:k=13
    ·have:=wK0 (h5 e13)
     subst e13;simp;omega
    ·simp only[not_or] at e3
     simp[hk,e2,e3,e13,e14]
   have fB:gZ V.length Sk.length D.length (shB k) (lowB Sk k t)=true:=by
    unfold gZ shB lowB
    by_cases e6:k=6
    ·have:=wK0 (h4 e6)
     subst e6;simp;omega
    ·simp[e6,e14]
   have fE:(if gJ (lowX V k e)=true then (1:Int) else 0)=shE k∧(!gJ (lowX V k e) || qU V.length (lowX V k e))=true:=by
    unfold lowX shE
    by_cases e2:k=2∨k=9
    ·rw[if_pos e2,if_pos e2]
     have:=h6 e2
     have hgv:=rZ0 this
     rw[hgv,this];simp
    ·rw[if_neg e2,if_neg e2]
     simp[fB0]
   rw[fA,fB,fE.2]
   have fN:(0:Int)=shN k:=by unfold shN;rw[if_neg Z0]
   simp[fE.1,← fN,hk0,e15,e14]
theorem lZ0 (V a D:List (List Zu))(w:Int):∀ (l:List Pr) (h:Zb) (n:Int),sE0 V a D l=true→0≤n→n+jI (kO V a D l)<4611686018427387904→
  jS V.length a.length D.length h (wtL w h (kO V a D l) n).1=true∧n≤(wtL w h (kO V a D l) n).2∧(wtL w h (kO V a D l) n).2≤n+jI (kO V a D l)∧jI (wtL w h (kO V a D l) n).1≤jI (kO V a D l)
 | [],h,n,hg,hn,hs=>by simp[kO,wtL,jS,jI]
 | x :: l,h,n,hg,hn,hs=>by
  simp only[sE0,Z5] at hg
  rw[kO,jI] at hs
  have d:=qT (bK V a D x)
  have p2q:=kJ (kO V a D l)
  have b:=jT1 V a D w x h n hg.1 hn Z0
  have c:=lZ0 V a D w l h (wtF w h (bK V a D x) n).2 hg.2 Z0 Z0
  rw[kO,wtL]
  refine ⟨?_,by show n≤(wtL w h (kO V a D l) (wtF w h (bK V a D x) n).2).2;omega,by rw[jI];show (wtL w h (kO V a D l) (wtF w h (bK V a D x) n).2).2≤_;omega,by rw[jI,jI];omega⟩
  rw[jS,b.1,c.1];rfl
end
theorem nN0 (V:List (List Zu))(k n:Int)(s:List Zu)(l:List Ex)(h:k≠2):lowE V (.mk k n s l)=.mk k n [] (wP0 V l):=by rw[lowE,if_neg h]
theorem eH0 {v n:Int}(h:0≤n):qU v (.mk 1 n [] [])=true:=by simp[qU,kW,h]
theorem eJ0 (n:Int)(l:List Ex)(i:Nat)(h:∀ x∈l,qU 3 (lowE jQ x)=true):qU 3 (lowE jQ (yB0 n l i))=true:=by
 unfold yB0
 rw[List.getD_eq_getElem?_getD]
 cases a:l[i]? with
 | none=>
  show qU 3 (lowE jQ (.mk 1 _ [] []))=true
  rw[nN0 _ _ _ _ _ Z1]
  exact eH0 (uR Z0).1
 | some x=>exact h x (List.mem_of_getElem? a)
mutual
theorem nL0:∀ x:Ra,qU 3 (lowE jQ (mkF jQ x))=true
 | .mk k n l=>by
  have i:=nK0 l
  have A:=uR (a:=k) (n:=24) Z0
  have e:=eJ0 n (mkL jQ l) 0 i
  have p:=eJ0 n (mkL jQ l) 1 i
  rw[mkF]
  by_cases m:jU k 24<4
  ·rw[if_pos m,nN0 _ _ _ _ _ Z1]
   refine eH0 ?_
   have y:=uR (a:=n) (n:=8) Z0
   obtain ⟨j,t⟩:∃ j:Nat,jU n 8=j:=⟨(jU n 8).toNat,Z0⟩
   rw[t,Z4]
   have g:j<8:=Z0
   have:∀ j:Nat,j<8→0≤mI1.getD j 0:=by decide
   exact this j g
  rw[if_neg m]
  by_cases d:jU k 24<9
  ·rw[if_pos ⟨d,by decide⟩,lowE,if_pos rfl]
   have y:=uR (a:=n) (n:=3) Z0
   have r:jQ.getD (jU n jQ.length).toNat []∈jQ:=jO0 (by show _<3;show (jU n 3).toNat<3;omega)
   have b:=wK0 r
   have c:(jQ.length:Int)=3:=rfl
   rw[c] at b
   simp only[wP0]
   rw[c]
   generalize bM jQ (jQ.getD (jU n 3).toNat [])=f at b ⊢
   simp[qU,kW,b]
  rw[if_neg (λh=>d h.1),if_neg d]
  by_cases c:jU k 24=9
  ·rw[if_pos c,nN0 _ _ _ _ _ Z1,wP0,wP0]
   simp[qU,kW,e]
  rw[if_neg c]
  by_cases o:jU k 24=10
  ·rw[if_pos o,nN0 _ _ _ _ _ Z1,wP0,wP0]
   simp[qU,kW,e]
  rw[if_neg o,nN0 _ _ _ _ _ Z0,wP0,wP0,wP0]
  have q:¬ (5+jU k 24-11=1):=Z0
  have s:¬ (5+jU k 24-11=2):=Z0
  have z:¬ (5+jU k 24-11=3):=Z0
  have v:¬ (5+jU k 24-11=4):=Z0
  have w:5≤5+jU k 24-11:=Z0
  have u:5+jU k 24-11≤17:=Z0
  simp[qU,kW,e,p,q,s,z,v,w,u]
theorem nK0:∀ (l:List Ra),∀ x∈mkL jQ l,qU 3 (lowE jQ x)=true
 | [],x,h=>by simp[mkL] at h
 | y :: l,x,h=>by
  rw[mkL] at h
  rcases List.mem_cons.1 h with rfl|h
  ·exact nL0 y
  ·exact nK0 l x h
end
theorem tC0 (l:List Ra):qU 3 (lowE jQ (uO0 jQ l))=true:=by
 cases l with
 | nil=>decide
 | cons x l=>exact nL0 x
theorem gO3 {d:Type}(P:d→Prop){c:Prop}[Decidable c]{a b:d}(f:P a)(e:P b):P (if c then a else b):=by
 by_cases h:c
 ·rw[if_pos h];exact f
 ·rw[if_neg h];exact e
theorem gP_of {k:Int}{n t:List Zu}{e:Ex}{l:List Pr}(h0:0≤k∧k<14∧(l.length:Int)=shL k)(m:k=1→n≠[]∧sF0 n=true∧(t=[]∨t∈jQ))(a:k=2→t∈jQ)(d:k=3∨k=4∨k=5∨k=6→n∈jG)(f:k=6→t∈jG)(g:k=13→n∈qG)(i:k=2∨k=9→qU 3 (lowE jQ e)=true)(h:∀ x∈l,okPr jQ jG qG x=true) :
  okPr jQ jG qG (.mk k n t e l)=true:=by
 have j:sE0 jQ jG qG l=true:=by
  clear h0
  induction l with
  | nil=>rfl
  | cons x l b=>simp only[sE0,Z5];exact ⟨h x (by simp),b λy c=>h y (by simp[c])⟩
 simp only[okPr,Z5,decide_eq_true_eq,j,and_true]
 exact ⟨h0,m,a,d,f,g,i⟩
theorem bF0:okPr jQ jG qG qH=true:=by decide
theorem uC2:∀ s∈dB0,s≠[]∧sF0 s=true:=by
 intro s h
 simp only[dB0,List.mem_cons,List.not_mem_nil,or_false] at h
 rcases h with rfl|rfl|rfl<;>exact ⟨by decide,by decide⟩
mutual
theorem uB1:∀ (x:Rb) (d:Nat),okPr jQ jG qG (mkP x d)=true
 | .mk k a b e l,d=>by
  have q:=nJ0 l (d+1)
  have c:∀ i,okPr jQ jG qG (if d<6 then (cQ l (d+1)).getD i qH else qH)=true:=λi=>by
   split
   ·rw[List.getD_eq_getElem?_getD]
    cases f:(cQ l (d+1))[i]? with
    | none=>exact bF0
    | some x=>exact q x (List.mem_of_getElem? f)
   ·exact bF0
  have m:jQ.getD (jU a 3).toNat []∈jQ:=jO0 (by have:=uR (a:=a) (n:=3) Z0;show _<3;omega)
  have u:jG.getD (jU a 2).toNat []∈jG:=jO0 (by have:=uR (a:=a) (n:=2) Z0;show _<2;omega)
  have j:jG.getD (jU b 2).toNat []∈jG:=jO0 (by have:=uR (a:=b) (n:=2) Z0;show _<2;omega)
  have o:qG.getD (jU a 5).toNat []∈qG:=jO0 (by have:=uR (a:=a) (n:=5) Z0;show _<5;omega)
  have g:=uC2 (dB0.getD (jU b 3).toNat []) (jO0 (by have:=uR (a:=b) (n:=3) Z0;show _<3;omega))
  have t:=tC0 e
  have r:∀ x∈[if d<6 then (cQ l (d+1)).getD 0 qH else qH],okPr jQ jG qG x=true:=λx f=>by simp only[List.mem_singleton] at f;subst f;exact c 0
  have p:∀ x∈[if d<6 then (cQ l (d+1)).getD 0 qH else qH,if d<6 then (cQ l (d+1)).getD 1 qH else qH],okPr jQ jG qG x=true:=λx f=>by
   simp only[List.mem_cons,List.not_mem_nil,or_false] at f
   rcases f with rfl|rfl
   ·exact c 0
   ·exact c 1
  rw[mkP]
  generalize (if d<6 then (cQ l (d+1)).getD 0 qH else qH)=pa at *
  generalize (if d<6 then (cQ l (d+1)).getD 1 qH else qH)=pb at *
  generalize jQ.getD (jU a 3).toNat []=v at *
  generalize jG.getD (jU a 2).toNat []=s at *
  generalize jG.getD (jU b 2).toNat []=s2 at *
  generalize qG.getD (jU a 5).toNat []=df at *
  generalize dB0.getD (jU b 3).toNat []=ac at *
  generalize uO0 jQ e=ee at *
  repeat' refine gO3 (λy=>okPr jQ jG qG y=true) ?_ ?_
  all_goals first
   | exact bF0
   | exact gP_of (by simp[shL]) (by first | (intro h;exact ⟨g.1,g.2,.inl rfl⟩) | (intro h;exact ⟨g.1,g.2,.inr m⟩) | (intro h;omega)) (by first | exact λ_=>m | (intro h;omega)) (by first | exact λ_=>u | (intro h;omega)) (by first | exact λ_=>j | (intro h;omega)) (by first | exact λ_=>o | (intro h;omega)) (by first | exact λ_=>t | (intro h;omega)) (by first | exact r | exact p | simp)
theorem nJ0:∀ (l:List Rb) (d:Nat),∀ x∈cQ l d,okPr jQ jG qG x=true
 | [],d,x,h=>by simp[cQ] at h
 | y :: l,d,x,h=>by
  rw[cQ] at h
  rcases List.mem_cons.1 h with rfl|h
  ·exact uB1 y d
  ·exact nJ0 l d x h
end
abbrev szP (x:Pr):Int:=jJ (bK jQ jG qG x)
theorem kU3 (k:Int)(n t:List Zu)(e:Ex):szP (.mk k n t e [])=1:=by simp[szP,bK,kO,jJ,jI]
theorem szP_1 (k:Int)(n t:List Zu)(e:Ex)(x:Pr):szP (.mk k n t e [x])=1+szP x:=by simp[szP,bK,kO,jJ,jI]
theorem szP_2 (k:Int)(n t:List Zu)(e:Ex)(x y:Pr):szP (.mk k n t e [x,y])=1+(szP x+szP y):=by simp[szP,bK,kO,jJ,jI]
theorem oF2:szP qH=1:=kU3 ..
def p2q:Nat→Int
 | 0=>256
 | 1=>128
 | 2=>64
 | 3=>32
 | 4=>16
 | 5=>8
 | 6=>4
 | _=>2
theorem p2_s {d:Nat}(h:d≤6):p2q d=2*p2q (d+1)∧2≤p2q (d+1):=by
 obtain rfl|rfl|rfl|rfl|rfl|rfl|rfl:d=0∨d=1∨d=2∨d=3∨d=4∨d=5∨d=6:=Z0
 all_goals decide
mutual
theorem uA1:∀ (x:Rb) (d:Nat),d≤6→szP (mkP x d)+1≤p2q d
 | .mk k a b e l,d,hd=>by
  obtain ⟨q1,q2⟩:=p2_s hd
  have h:∀ i,szP (if d<6 then (cQ l (d+1)).getD i qH else qH)+1≤p2q (d+1):=λi=>by
   by_cases c:d<6
   ·rw[if_pos c,List.getD_eq_getElem?_getD]
    cases f:(cQ l (d+1))[i]? with
    | none=>show szP qH+1≤_;rw[oF2];omega
    | some x=>exact nI0 l (d+1) Z0 x (List.mem_of_getElem? f)
   ·rw[if_neg c,oF2];omega
  have j:=h 0
  have g:=h 1
  rw[mkP]
  generalize (if d<6 then (cQ l (d+1)).getD 0 qH else qH)=pa at *
  generalize (if d<6 then (cQ l (d+1)).getD 1 qH else qH)=pb at *
  have:=qT (bK jQ jG qG pa)
  have:=qT (bK jQ jG qG pb)
  repeat' refine gO3 (λy=>szP y+1≤p2q d) ?_ ?_
  all_goals first
   | (rw[oF2];omega)
   | (rw[kU3];omega)
   | (rw[szP_1];omega)
   | (rw[szP_2];omega)
theorem nI0:∀ (l:List Rb) (d:Nat),d≤6→∀ x∈cQ l d,szP x+1≤p2q d
 | [],d,hd,x,h=>by simp[cQ] at h
 | y :: l,d,hd,x,h=>by
  rw[cQ] at h
  rcases List.mem_cons.1 h with rfl|h
  ·exact uA1 y d hd
  ·exact nI0 l d hd x h
end
end
end Go.Proofs.YtklapbhlhjdijaaGreatDoor
