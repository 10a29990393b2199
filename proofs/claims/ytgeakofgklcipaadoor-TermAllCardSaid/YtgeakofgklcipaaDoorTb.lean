/-
  A part of the proof: what the program's functions hand back,as theorems. No condition but those that each theorem names.
-/
import Derived.Test.YtgeakofgklcipaaDoorTa
import Derived.Test.YtgeakofgklcipaaDoorExb
import Derived.Test.YtgeakofgklcipaaDoorExc
set_option linter.unusedSimpArgs false
set_option linter.unusedVariables false
namespace Go.Proofs.YtgeakofgklcipaaDoor
open Go Go.RowKit Go.Ev Go.Dv
noncomputable section
attribute [local push_cast] eq_self iff_self
set_option maxRecDepth 100000
variable (G:Nat×Nat)
theorem qR0 (a n:Int) (hn:0<n) (hn2:n<1000000000000):jI (pp G) H0 83 [.int .i64 a,.int .i64 n] (.int .i64 (jN a n)):=by
 refine cE G fir83 (by kernel_rfl) (cL0 ..) fun hlo=>?_;rw[kC2]
 have h0:¬ n=0:=by omega
 have h1:¬ n = -1:=by omega
 have h2:=qC (a:=a) hn
 unfold jN at h2 ⊢
 by_cases h:a.tmod n<0
 ·rw[if_pos h]
  rw[if_pos h] at h2
  have h3:IntKind.i64.wrap (a.tmod n+n)=a.tmod n+n:=W_in (by unfold In;omega)
  push_cast(disch:=first|omega|(apply id;push_cast;try omega))[h,h0,h1,h3]
  exact .id rfl
 ·rw[if_neg h]
  rw[if_neg h] at h2
  push_cast(disch:=first|omega|(apply id;push_cast;try omega))[h,h0,h1]
  exact .id rfl
theorem jE0 (a n:Int) (hn:0<n) (hn2:n<1000000000000):jI (pp G) H0 48 [.int .i64 a,.int .i64 n] (.int .i64 (jN a n)):=by
 refine cE G fir48 (by kernel_rfl) (cL0 ..) fun hlo=>?_;rw[yK2]
 have h0:¬ n=0:=by omega
 have h1:¬ n = -1:=by omega
 have h2:=qC (a:=a) hn
 unfold jN at h2 ⊢
 by_cases h:a.tmod n<0
 ·rw[if_pos h]
  rw[if_pos h] at h2
  have h3:IntKind.i64.wrap (a.tmod n+n)=a.tmod n+n:=W_in (by unfold In;omega)
  push_cast(disch:=first|omega|(apply id;push_cast;try omega))[h,h0,h1,h3]
  exact .id rfl
 ·rw[if_neg h]
  rw[if_neg h] at h2
  push_cast(disch:=first|omega|(apply id;push_cast;try omega))[h,h0,h1]
  exact .id rfl
theorem gO (a n:Int) (hn:0<n) (hn2:n<1000000000000):jI (pp G) H0 27 [.int .i64 a,.int .i64 n] (.int .i64 (jN a n)):=by
 refine cE G fir27 (by kernel_rfl) (cL0 ..) fun hlo=>?_;rw[gD2]
 have h0:¬ n=0:=by omega
 have h1:¬ n = -1:=by omega
 have h2:=qC (a:=a) hn
 unfold jN at h2 ⊢
 by_cases h:a.tmod n<0
 ·rw[if_pos h]
  rw[if_pos h] at h2
  have h3:IntKind.i64.wrap (a.tmod n+n)=a.tmod n+n:=W_in (by unfold In;omega)
  push_cast(disch:=first|omega|(apply id;push_cast;try omega))[h,h0,h1,h3]
  exact .id rfl
 ·rw[if_neg h]
  rw[if_neg h] at h2
  push_cast(disch:=first|omega|(apply id;push_cast;try omega))[h,h0,h1]
  exact .id rfl
mutual
def smR:Ra→Bool
 | .mk _ _ l=>decide (l.length<1000000000000000)&&smRs l
def smRs:List Ra→Bool
 | []=>true
 | x :: l=>smR x&&smRs l
end
theorem yS0:∀ {l:List Ra},smRs l=true→∀ x∈l,smR x=true
 | [],_,x,hx=>by cases hx
 | y :: l,h,x,hx=>by
  simp only[smRs,Bool.and_eq_true] at h
  rcases List.mem_cons.1 hx with rfl|hx
  ·exact h.1
  ·exact yS0 h.2 x hx
mutual
def szR (d:Nat):Ra→Int
 | .mk _ _ l=>if 8<d then 1000 else szL d 0 l
def szL (d:Nat) (n:Int):List Ra→Int
 | []=>n
 | x :: l=>if n≤20 then szL d (n+1+szR (d+1) x) l else n
end
def cP0 (l:List Ra) (d:Nat):Int:=if 8<d then 1000 else szL d 0 l
mutual
theorem uQ2 (d:Nat):∀ x:Ra,0≤szR d x∧szR d x≤1000+21*((9-d:Nat):Int)
 | .mk k n l=>by
  rw[szR]
  split
  ·omega
  ·exact uR2 d (by omega) l 0 (by omega) (by omega)
theorem uR2 (d:Nat) (hd:d≤8):∀ (l:List Ra) (n:Int),0≤n→n≤1000+21*((9-d:Nat):Int)→0≤szL d n l∧szL d n l≤1000+21*((9-d:Nat):Int)
 | [],n,h,h'=>by rw[szL];exact ⟨h,h'⟩
 | x :: l,n,h,h'=>by
  rw[szL]
  have:=uQ2 (d+1) x
  split
  ·exact uR2 d hd l _ (by omega) (by omega)
  ·exact ⟨h,h'⟩
end
inductive qY2 (d:Nat) (l:List Ra):Nat→S→Prop
 | mk (i:Nat) (iv n:Int) (h:jA) {x2 x3 x4 x7 x8 x9 xA xB xC xD xE xF xG xH xI xJ xK xL xM xN xO xP xQ xR xS xT xU:Value} (hiv:iv=(i:Int)) (hi:i≤l.length) (hn:0≤n∧n≤2000) (hok:szL d n (l.drop i)=szL d 0 l) (hl1:h.lo=1) (hl2:1≤h.next) :
  qY2 d l (l.length-i) ⟨(F31 (Rw false era l.length (raCs l)) (.int .i64 d) x2 x3 x4 (.int .i64 n) (.int .i64 iv) x7 x8 x9 xA xB xC xD xE xF xG xH xI xJ xK xL xM xN xO xP xQ xR xS xT xU),[],h⟩
theorem uV2:∀ (l:List Ra) (d:Nat),d≤9→l.length<1000000000000000→smRs l=true→jI (pp G) H0 64 [rasV l,.int .i64 d] (.int .i64 (cP0 l d))
 | l,d,hd,hll,hsm=>by
  have ih:∀ k n l',.mk k n l'∈l→d≤8→jI (pp G) H0 64 [rasV l',.int .i64 ((d+1:Nat):Int)] (.int .i64 (cP0 l' (d+1))):=fun k n l' hm hd'=>by
   have:=yS0 hsm _ hm
   simp only[smR,Bool.and_eq_true,decide_eq_true_eq] at this
   exact uV2 l' (d+1) (by omega) this.1 this.2
  refine cE G fir64 (by kernel_rfl) (fH2 ..) fun hlo=>?_;rw[kU2]
  unfold rasV cP0
  by_cases h8:8<d
  ·rw[if_pos h8]
   have h8':(8:Int)<d:=by omega
   push_cast(disch:=first|omega|(apply id;push_cast;try omega))[h8']
   exact .id rfl
  rw[if_neg h8]
  have h8':¬ (8:Int)<d:=by omega
  push_cast(disch:=first|omega|(apply id;push_cast;try omega))[h8']
  refine WD.loop4 (q:=qq) (qB G) (by kernel_rfl) (qY2 d l) ?_ _ _ (qY2.mk 0 0 0 _ rfl (Nat.zero_le _) (by omega) rfl rfl (Nat.le_refl _))
  intro m s1 hI
  cases hI with|mk i iv n h hiv hi hn hok hl1 hl2=>
  subst hiv
  rw[qT1]
  by_cases hil:(i:Int)<l.length
  ·obtain ⟨x,hx⟩:∃ x,l[i]?=some x:=⟨_,List.getElem?_eq_getElem (by omega)⟩
   have hxm:=List.mem_of_getElem? hx
   have hdr:l.drop i=x :: l.drop (i+1):=by rw[List.drop_eq_getElem_cons (by omega)];congr 1;exact (List.getElem?_eq_some_iff.1 hx).2
   rw[hdr,szL] at hok
   by_cases hn2:n≤20
   ·rw[if_pos hn2] at hok
    obtain ⟨k',n',l'⟩:=x
    have hp:=pC1 (j:=2) hx (by omega) rfl
    have hle:i*3+3≤l.length*3:=by omega
    have e1:IntKind.i64.wrap (n+1)=n+1:=W_in (by unfold In;omega)
    have e2:IntKind.i64.wrap ((d:Int)+1)=((d+1:Nat):Int):=W_in (by unfold In;omega)
    have hb:=uQ2 (d+1) (.mk k' n' l')
    have e4:szR (d+1) (.mk k' n' l')=cP0 l' (d+1):=by rw[szR,cP0]
    rw[e4] at hb hok
    have e3:IntKind.i64.wrap (n+1+cP0 l' (d+1))=n+1+cP0 l' (d+1):=W_in (by unfold In;omega)
    push_cast(disch:=first|omega|(apply id;push_cast;try omega))[hil,hn2,Int.toNat_natCast,hp,hle,hl1,e1,e2]
    refine dK (ih k' n' l' hxm (by omega)) ?_
    push_cast(disch:=first|omega|(apply id;push_cast;try omega))[e3]
    exact ⟨_,by omega,qY2.mk (i+1) _ _ _ (by first|rfl|omega) (by omega) (by omega) hok (by first|exact hl1|(push_cast(disch:=first|omega|(apply id;push_cast;try omega))[hl1];done)|(push_cast(disch:=first|omega|(apply id;push_cast;try omega));omega)) (by first|exact hl2|(push_cast(disch:=first|omega|(apply id;push_cast;try omega));done)|(push_cast(disch:=first|omega|(apply id;push_cast;try omega));omega))⟩
   ·rw[if_neg hn2] at hok
    push_cast(disch:=first|omega|(apply id;push_cast;try omega))[hil,hn2]
    rw[dC0]
    push_cast(disch:=first|omega|(apply id;push_cast;try omega))
    rw[hok]
    exact .id rfl
  ·have hie:i=l.length:=by omega
   subst hie
   rw[List.drop_length,szL] at hok
   push_cast(disch:=first|omega|(apply id;push_cast;try omega))[hil]
   rw[dC0]
   push_cast(disch:=first|omega|(apply id;push_cast;try omega))
   rw[hok]
   exact .id rfl
 termination_by l=>SizeOf.sizeOf l
 decreasing_by
  have:=List.sizeOf_lt_of_mem hm
  simp at this
  omega
theorem few_f (l:List Ra) (hll:l.length<1000000000000000) (hs:smRs l=true):jI (pp G) H0 45 [rasV l] (.bool (decide (cP0 l 0≤20))):=by
 refine cE G fir45 (by kernel_rfl) (wX2 ..) fun hlo=>?_;rw[yN2]
 push_cast(disch:=first|omega|(apply id;push_cast;try omega))
 refine dK (uV2 G l 0 (by omega) hll hs) ?_
 push_cast(disch:=first|omega|(apply id;push_cast;try omega))
 exact .id rfl
def cS1:List Int:=[0,1,2,7,99,999999999999999999,5,3]
def kI0 (n:Int) (l:List Ex) (i:Nat):Ex:=l.getD i (.mk 1 (jN (W (n+i)) 5) [] [])
mutual
def mkF (ns:List (List UInt8)):Ra→Ex
 | .mk k n l=>if jN k 24<4 then .mk 1 (cS1.getD (jN n 8).toNat 0) [] []
  else if jN k 24<9∧0<ns.length then .mk 2 0 (ns.getD (jN n ns.length).toNat []) []
  else if jN k 24<9 then .mk 2 (jN n 3) [] []
  else if jN k 24=9 then .mk 3 0 [] [kI0 n (mkL ns l) 0]
  else if jN k 24=10 then .mk 4 0 [] [kI0 n (mkL ns l) 0]
  else .mk (5+jN k 24-11) 0 [] [kI0 n (mkL ns l) 0,kI0 n (mkL ns l) 1]
def mkL (ns:List (List UInt8)):List Ra→List Ex
 | []=>[]
 | x :: l=>mkF ns x :: mkL ns l
end
theorem cY1 (ns:List (List UInt8)):∀ l:List Ra,mkL ns l=l.map (mkF ns)
 | []=>rfl
 | x :: l=>by rw[mkL,cY1 ns l];rfl
theorem bL0 {P:Program} {m:Nat} {σ:jA} (hs:szT P eE=some 4) (k n:Int) (s:List UInt8):FzV P m σ (.agg ⟨[.int .i64 k,.int .i64 n,.string (Tx s),.slice none 0 0]⟩) (exV (.mk k n s [])):=by
 refine .agg (.cons (.id rfl) (.cons (.id rfl) (.cons (.id rfl) (.cons ?_ .nil))))
 exact .nil hs (by omega)
theorem cX2 {P:Program} {m:Nat} (hm:0<m) {σ:jA} (k n:Int) (s:List UInt8) (l:List Ex):FzV P m σ (.agg ⟨[.int .i64 k,.int .i64 n,.string (Tx s),Rw true eE l.length (kF l)]⟩) (exV (.mk k n s l)):=by
 refine .agg (.cons (.id rfl) (.cons (.id rfl) (.cons (.id rfl) (.cons ?_ .nil))))
 exact .row (.ids (jP0 m hm l))
theorem gT2 (x:Ex) (σ:jA):bsD (qq.m 29) (slT Tryd.prog 29) 1 [(0,exV x)] σ=some (Rw true eE 1 (kF [x]),σ):=by
 cases x;kernel_rfl
theorem rowE2 (x y:Ex) (σ:jA):bsD (qq.m 29) (slT Tryd.prog 29) 2 [(0,exV x),(1,exV y)] σ=some (Rw true eE 2 (kF [x,y]),σ):=by
 cases x;cases y;kernel_rfl
theorem row8 (σ:jA):bsD (qq.m 42) (slT Tryd.prog 42) 8 [(0,(.int .i64 0)),(1,(.int .i64 1)),(2,(.int .i64 2)),(3,(.int .i64 7)),(4,(.int .i64 99)),(5,(.int .i64 999999999999999999)),(6,(.int .i64 5)),(7,(.int .i64 3))] σ=some (Rw true eI 8 (ivs cS1),σ):=by kernel_rfl
theorem wB2 (ns:List (List UInt8)) (k n:Int) (l:List Ra) (i:Nat) (hi:i<2) (hll:l.length<1000000000000000) (ih:∀ x∈l,jI (pp G) H0 78 [raV x,nsV ns] (exV (mkF ns x))) :
  jI (pp G) H0 84 [raV (.mk k n l),.int .i64 i,nsV ns] (exV (kI0 n (mkL ns l) i)):=by
 have he:kI0 n (mkL ns l) i=(match l[i]? with|some x=>mkF ns x|none=>.mk 1 (jN (W (n+i)) 5) [] []):=by
  rw[kI0,cY1,List.getD_eq_getElem?_getD,List.getElem?_map]
  cases l[i]?<;>rfl
 rw[he]
 refine cE G fir84 (by kernel_rfl) (rX0 ..) fun hlo=>?_;rw[kB2]
 unfold raV raC
 by_cases h:(i:Int)<l.length
 ·obtain ⟨x,hx⟩:∃ x,l[i]?=some x:=⟨_,List.getElem?_eq_getElem (by omega)⟩
  have hp:=gU0 hx
  have hle:i*3+3≤l.length*3:=by omega
  rw[hx]
  push_cast(disch:=first|omega|(apply id;push_cast;try omega))[h,hp,hle,Int.toNat_natCast]
  refine dK (ih x (List.mem_of_getElem? hx)) ?_
  push_cast(disch:=first|omega|(apply id;push_cast;try omega))
  exact .id (by simp[mU0])
 ·have hx:l[i]?=none:=List.getElem?_eq_none (by omega)
  rw[hx]
  have hw:IntKind.i64.wrap (n+i)=W (n+i):=rfl
  push_cast(disch:=first|omega|(apply id;push_cast;try omega))[h,hw]
  refine dK (qR0 G (W (n+i)) 5 (by omega) (by omega)) ?_
  push_cast(disch:=first|omega|(apply id;push_cast;try omega))
  exact bL0 rfl _ _ _
theorem wD2 (ns:List (List UInt8)) (hns:ns.length<1000000000):∀ x:Ra,smR x=true→jI (pp G) H0 78 [raV x,nsV ns] (exV (mkF ns x))
 | .mk k n l,hsm=>by
  simp only[smR,Bool.and_eq_true,decide_eq_true_eq] at hsm
  have hall:=yS0 hsm.2
  have ih:∀ x∈l,jI (pp G) H0 78 [raV x,nsV ns] (exV (mkF ns x)):=fun x hx=>wD2 ns hns x (hall x hx)
  have p0:jI (pp G) H0 84 [raV (.mk k n l),.int .i64 0,nsV ns] (exV (kI0 n (mkL ns l) 0)):=wB2 G ns k n l 0 (by omega) hsm.1 ih
  have p1:jI (pp G) H0 84 [raV (.mk k n l),.int .i64 1,nsV ns] (exV (kI0 n (mkL ns l) 1)):=wB2 G ns k n l 1 (by omega) hsm.1 ih
  refine cE G fir78 (by kernel_rfl) (fA2 ..) fun hlo=>?_;rw[kG2]
  unfold raV raC
  rw[mkF]
  push_cast(disch:=first|omega|(apply id;push_cast;try omega))
  refine dK (qR0 G k 24 (by omega) (by omega)) ?_
  have hk:=qC (a:=k) (n:=24) (by omega)
  generalize jN k 24=w at hk ⊢
  by_cases h4:w<4
  ·rw[if_pos h4]
   have hw:=qC (a:=n) (n:=8) (by omega)
   have hg:=fR0 (l:=cS1) (i:=(jN n 8).toNat) (by show (jN n 8).toNat<8;omega)
   have hc:((jN n 8).toNat:Int)=jN n 8:=Int.toNat_of_nonneg hw.1
   have hl8:(ivs cS1).length=8:=rfl
   push_cast(disch:=first|omega|(apply id;push_cast;try omega))[h4,↓row8]
   refine dK (qR0 G n 8 (by omega) (by omega)) ?_
   push_cast(disch:=first|omega|(apply id;push_cast;try omega))[hg,hc,hl8]
   exact bL0 rfl _ _ _
  rw[if_neg h4]
  by_cases h9:w<9
  ·by_cases h0:0<ns.length
   ·rw[if_pos ⟨h9,h0⟩]
    unfold nsV
    have h0':(0:Int)<ns.length:=by omega
    have hw:=qC (a:=n) (n:=(ns.length:Int)) (by omega)
    have hg:=qB0 (l:=ns) (i:=(jN n ns.length).toNat) (by omega)
    have hc:((jN n ns.length).toNat:Int)=jN n ns.length:=Int.toNat_of_nonneg hw.1
    have hlt:(jN n ns.length).toNat<ns.length:=by omega
    push_cast(disch:=first|omega|(apply id;push_cast;try omega))[h4,h9,h0']
    refine dK (qR0 G n ns.length (by omega) (by omega)) ?_
    push_cast(disch:=first|omega|(apply id;push_cast;try omega))[hg,hc,hlt]
    exact bL0 rfl _ _ _
   ·rw[if_neg (fun h=>h0 h.2),if_pos h9]
    unfold nsV
    have h0':¬ (0:Int)<ns.length:=by omega
    push_cast(disch:=first|omega|(apply id;push_cast;try omega))[h4,h9,h0']
    refine dK (qR0 G n 3 (by omega) (by omega)) ?_
    push_cast(disch:=first|omega|(apply id;push_cast;try omega))
    exact bL0 rfl _ _ _
  rw[if_neg (fun h=>h9 h.1),if_neg h9]
  by_cases h9':w=9
  ·rw[if_pos h9']
   subst h9'
   push_cast(disch:=first|omega|(apply id;push_cast;try omega))
   refine dK (p0) ?_
   push_cast(disch:=first|omega|(apply id;push_cast;try omega))[↓gT2]
   exact cX2 (m:=1) (by decide) 3 0 [] [_]
  rw[if_neg h9']
  by_cases h10:w=10
  ·rw[if_pos h10]
   subst h10
   push_cast(disch:=first|omega|(apply id;push_cast;try omega))
   refine dK (p0) ?_
   push_cast(disch:=first|omega|(apply id;push_cast;try omega))[↓gT2]
   exact cX2 (m:=1) (by decide) 4 0 [] [_]
  rw[if_neg h10]
  have e1:IntKind.i64.wrap (5+w)=5+w:=W_in (by unfold In;omega)
  have e2:IntKind.i64.wrap (5+w-11)=5+w-11:=W_in (by unfold In;omega)
  push_cast(disch:=first|omega|(apply id;push_cast;try omega))[h4,h9,h9',h10,e1,e2]
  refine dK (p0) ?_
  push_cast(disch:=first|omega|(apply id;push_cast;try omega))
  refine dK (p1) ?_
  push_cast(disch:=first|omega|(apply id;push_cast;try omega))[↓rowE2]
  exact cX2 (m:=1) (by decide) (5+w-11) 0 [] [_,_]
 termination_by x=>SizeOf.sizeOf x
def uC0 (ns:List (List UInt8)):List Ra→Ex
 | []=>.mk 1 1 [] []
 | x :: _=>mkF ns x
theorem mC2 (ns:List (List UInt8)) (hns:ns.length<1000000000) (l:List Ra) (hsm:smRs l=true) (hll:l.length<1000000000000000) :
  jI (pp G) H0 66 [rasV l,nsV ns] (exV (uC0 ns l)):=by
 refine cE G fir66 (by kernel_rfl) (fM2 ..) fun hlo=>?_;rw[kS2]
 cases l with
 | nil=>
  rw[uC0]
  unfold rasV
  push_cast(disch:=first|omega|(apply id;push_cast;try omega))
  exact bL0 rfl _ _ _
 | cons x l=>
  rw[uC0]
  have hx:=yS0 hsm x (by simp)
  have hp:=gU0 (l:=x :: l) (i:=0) rfl
  rw[Nat.zero_mul,List.drop_zero] at hp
  have h0:¬ (l.length:Int)+1=0:=by omega
  have h1:3≤(l.length+1)*3:=by omega
  have h2:0<(x :: l).length:=by simp
  unfold rasV
  push_cast(disch:=first|omega|(apply id;push_cast;try omega))[h0,h1,h2,hp]
  refine dK (wD2 G ns hns x hx) ?_
  push_cast(disch:=first|omega|(apply id;push_cast;try omega))
  exact .id (by simp[mU0])
def jO:List (List UInt8):=[[120],[121],[116,111,116,97,108]]
def jM:List (List UInt8):=[[115],[117,110,100,111]]
def qH:List (List UInt8):=[[109,97,105,110],[112],[113],[114,101,116,114,121],[108,97,115,116]]
def cF0:List (List UInt8):=[[112,97,121],[115,104,105,112],[97,115,107]]
theorem lit2 (σ:jA):bsD (qq.m 54) (slT Tryd.prog 54) 2 [(0,(.string (Tx [115]))),(1,(.string (Tx [117,110,100,111])))] σ=some (Rw true eS 2 (nss jM),σ):=by kernel_rfl
theorem lit3 (σ:jA):bsD (qq.m 54) (slT Tryd.prog 54) 3 [(0,(.string (Tx [120]))),(1,(.string (Tx [121]))),(2,(.string (Tx [116,111,116,97,108])))] σ=some (Rw true eS 3 (nss jO),σ):=by kernel_rfl
theorem lit5 (σ:jA):bsD (qq.m 54) (slT Tryd.prog 54) 5 [(0,(.string (Tx [109,97,105,110]))),(1,(.string (Tx [112]))),(2,(.string (Tx [113]))),(3,(.string (Tx [114,101,116,114,121]))),(4,(.string (Tx [108,97,115,116])))] σ=some (Rw true eS 5 (nss qH),σ):=by kernel_rfl
theorem litA (σ:jA):bsD (qq.m 54) (slT Tryd.prog 54) 3 [(0,(.string (Tx [112,97,121]))),(1,(.string (Tx [115,104,105,112]))),(2,(.string (Tx [97,115,107])))] σ=some (Rw true eS 3 (nss cF0),σ):=by kernel_rfl
theorem gE1:jI (pp G) H0 47 [] (nsV jO):=by
 refine cE G fir47 (by kernel_rfl) (nG1 ..) fun hlo=>?_;rw[yL2]
 push_cast(disch:=first|omega|(apply id;push_cast;try omega))[↓lit3]
 exact .row (.ids (zG0 _ _))
theorem eV0:jI (pp G) H0 46 [] (nsV jM):=by
 refine cE G fir46 (by kernel_rfl) (nG1 ..) fun hlo=>?_;rw[yM2]
 push_cast(disch:=first|omega|(apply id;push_cast;try omega))[↓lit2]
 exact .row (.ids (zG0 _ _))
theorem lP1:jI (pp G) H0 49 [] (nsV qH):=by
 refine cE G fir49 (by kernel_rfl) (nG1 ..) fun hlo=>?_;rw[yJ2]
 push_cast(disch:=first|omega|(apply id;push_cast;try omega))[↓lit5]
 exact .row (.ids (zG0 _ _))
def qF:Pr:=.mk 0 [] [] zE []
mutual
def mkP:Rb→Nat→Pr
 | .mk k a b e l,d=>
  let pa:=if d<6 then (cD l (d+1)).getD 0 qF else qF
  let pb:=if d<6 then (cD l (d+1)).getD 1 qF else qF
  let v:=jO.getD (jN a 3).toNat []
  let s:=jM.getD (jN a 2).toNat []
  let df:=qH.getD (jN a 5).toNat []
  let ac:=cF0.getD (jN b 3).toNat []
  let w:=jN k 20
  if w=0∨w=1 then .mk 1 ac [] zE []
  else if w=2∨w=3 then .mk 1 ac v zE []
  else if w=4 then .mk 2 [] v (uC0 jO e) []
  else if w=5∨w=6 then .mk 3 s [] zE [pa]
  else if w=7 then .mk 4 s [] zE []
  else if w=8 then .mk 5 s [] zE []
  else if w=9 then .mk 6 s (jM.getD (jN b 2).toNat []) zE []
  else if w=10 then .mk 7 [] [] zE [pa]
  else if w=11 then .mk 8 [] [] zE []
  else if w=12 then .mk 9 [] [] (uC0 jO e) [pa,pb]
  else if w=13 then .mk 10 [] [] zE [pa,pb]
  else if w=14∨w=15 then .mk 11 [] [] zE [pa,pb]
  else if w=16 then .mk 13 df [] zE []
  else if w=17 then qF
  else .mk 12 [] [] zE [pa,pb]
def cD:List Rb→Nat→List Pr
 | [],_=>[]
 | x :: l,d=>mkP x d :: cD l d
end
theorem sZ0 (d:Nat):∀ l:List Rb,cD l d=l.map fun x=>mkP x d
 | []=>rfl
 | x :: l=>by rw[cD,sZ0 d l];rfl
def fL0 (l:List Rb) (i d:Nat):Pr:=if d<6 then (cD l (d+1)).getD i qF else qF
mutual
def smB:Rb→Bool
 | .mk _ _ _ e l=>decide (l.length<1000000000000000)&&(decide (e.length<1000000000000000)&&(smRs e&&smBs l))
def smBs:List Rb→Bool
 | []=>true
 | x :: l=>smB x&&smBs l
end
theorem wZ0:∀ {l:List Rb},smBs l=true→∀ x∈l,smB x=true
 | [],_,x,hx=>by cases hx
 | y :: l,h,x,hx=>by
  simp only[smBs,Bool.and_eq_true] at h
  rcases List.mem_cons.1 hx with rfl|hx
  ·exact h.1
  ·exact wZ0 h.2 x hx
theorem cM1 (k a b:Int) (e:List Ra) (l:List Rb) (i d:Nat) (hi:i<2) (hd:d≤6) (hll:l.length<1000000000000000) (ih:∀ x∈l,d<6→jI (pp G) H0 50 [rbV x,.int .i64 ((d+1:Nat):Int)] (prV (mkP x (d+1)))) :
  jI (pp G) H0 65 [rbV (.mk k a b e l),.int .i64 i,.int .i64 d] (prV (fL0 l i d)):=by
 have he:fL0 l i d=(if d<6 then (match l[i]? with|some x=>mkP x (d+1)|none=>qF) else qF):=by
  rw[fL0,sZ0,List.getD_eq_getElem?_getD,List.getElem?_map]
  cases l[i]?<;>rfl
 rw[he]
 have hskip:∀ σ,FzV (pp G).P 1 σ (.agg ⟨[.int .i64 0,.string (Tx []),.string (Tx []),.int .i64 0,.int .i64 0,.string (Tx []),.slice none 0 0,.slice none 0 0]⟩) (prV qF):=fun σ=>
  .agg (.cons (.id rfl) (.cons (.id rfl) (.cons (.id rfl) (.cons (.id rfl) (.cons (.id rfl) (.cons (.id rfl) (.cons (mA0 G _ _) (.cons (cV1 G _ _) .nil))))))))
 refine cE G fir65 (by kernel_rfl) (rX0 ..) fun hlo=>?_;rw[kT2]
 by_cases h:(i:Int)<l.length
 ·obtain ⟨x,hx⟩:=jR (l:=l) (i:=i) (by omega)
  have hp:=zD0 hx
  have hle:i*5+5≤l.length*5:=by omega
  rw[hx]
  by_cases hd6:d<6
  ·rw[if_pos hd6]
   have hd6':(d:Int)<6:=by omega
   have e1:IntKind.i64.wrap ((d:Int)+1)=((d+1:Nat):Int):=by rw[wrap_i64 (by omega) (by omega)];omega
   push_cast(disch:=first|omega|(apply id;push_cast;try omega))[h,hd6',hp,hle,Int.toNat_natCast,e1]
   refine dK (ih x (List.mem_of_getElem? hx) hd6) ?_
   push_cast(disch:=first|omega|(apply id;push_cast;try omega))
   exact .id (cK1 _ H0q _)
  ·rw[if_neg hd6]
   have hd6':¬ (d:Int)<6:=by omega
   push_cast(disch:=first|omega|(apply id;push_cast;try omega))[h,hd6']
   exact hskip _
 ·have hx:l[i]?=none:=List.getElem?_eq_none (by omega)
  rw[hx]
  have e:(if d<6 then qF else qF)=qF:=by split<;>rfl
  rw[e]
  push_cast(disch:=first|omega|(apply id;push_cast;try omega))[h]
  exact hskip _
theorem rowP1 (x:Pr) (σ:jA):bsD (qq.m 59) (slT Tryd.prog 59) 1 [(0,prV x)] σ=some (Rw true 61 1 (prCs [x]),σ):=by
 rw[lV2];cases x;kernel_rfl
theorem rowP2 (x y:Pr) (σ:jA):bsD (qq.m 59) (slT Tryd.prog 59) 2 [(0,prV x),(1,prV y)] σ=some (Rw true 61 2 (prCs [x,y]),σ):=by
 cases x;cases y;kernel_rfl
theorem nZ1 {i:Int} (h:0≤i∧i<3):(nss jO)[i.toNat]?=some (.string (Tx (jO.getD i.toNat []))):=qB0 (by show _<3;omega)
theorem sV1 {i:Int} (h:0≤i∧i<3):(nss cF0)[i.toNat]?=some (.string (Tx (cF0.getD i.toNat []))):=qB0 (by show _<3;omega)
theorem cZ0 {i:Int} (h:0≤i∧i<2):(nss jM)[i.toNat]?=some (.string (Tx (jM.getD i.toNat []))):=qB0 (by show _<2;omega)
theorem sN1 {i:Int} (h:0≤i∧i<5):(nss qH)[i.toNat]?=some (.string (Tx (qH.getD i.toNat []))):=qB0 (by show _<5;omega)
def mkW (w : Int) (b : Int) (e : List Ra) (v s df : List UInt8) (pa pb : Pr) : Pr :=
  if w=0∨w=1 then .mk 1 (cF0.getD (jN b 3).toNat []) [] zE []
  else if w=2∨w=3 then .mk 1 (cF0.getD (jN b 3).toNat []) v zE []
  else if w=4 then .mk 2 [] v (uC0 jO e) []
  else if w=5∨w=6 then .mk 3 s [] zE [pa]
  else if w=7 then .mk 4 s [] zE []
  else if w=8 then .mk 5 s [] zE []
  else if w=9 then .mk 6 s (jM.getD (jN b 2).toNat []) zE []
  else if w=10 then .mk 7 [] [] zE [pa]
  else if w=11 then .mk 8 [] [] zE []
  else if w=12 then .mk 9 [] [] (uC0 jO e) [pa,pb]
  else if w=13 then .mk 10 [] [] zE [pa,pb]
  else if w=14∨w=15 then .mk 11 [] [] zE [pa,pb]
  else if w=16 then .mk 13 df [] zE []
  else if w=17 then qF
  else .mk 12 [] [] zE [pa,pb]
theorem mkP_w (k a b:Int) (e:List Ra) (l:List Rb) (d:Nat):mkP (.mk k a b e l) d=mkW (jN k 20) b e (jO.getD (jN a 3).toNat []) (jM.getD (jN a 2).toNat []) (qH.getD (jN a 5).toNat []) (fL0 l 0 d) (fL0 l 1 d):=by
 rw[mkP];rfl
end
end Go.Proofs.YtgeakofgklcipaaDoor
namespace Go.Proofs.YtgeakofgklcipaaDoor
open Go Go.RowKit Go.Ev Go.Dv
noncomputable section
attribute [local push_cast] eq_self iff_self
set_option maxRecDepth 100000
variable (G:Nat×Nat)
set_option maxHeartbeats 8000000 in
theorem mP2 (k a b:Int) (e:List Ra) (l:List Rb) (v s df:List UInt8) (pa pb:Pr) (w:Int) (hw:0≤w∧w<20) (c:Bool) (hc:c=decide (w=0∨w=1)) (hse:smRs e=true) (hel:e.length<1000000000000000) (h:jA) (ha hb:Nat)
  (c1:cells h 1=some (rbC (.mk k a b e l),25,false)) (c2:cells h 2=some ([.int .i64 0,.string (Tx []),.string (Tx []),.int .i64 0,.int .i64 0,.string (Tx []),.slice none 0 0,.slice none 0 0],61,false))
  (c3:cells h ha=some (prC pa,61,false)) (c4:cells h hb=some (prC pb,61,false)) (hl1:h.lo=1) (hl2:3≤h.next) (hla:1≤ha∧1≤hb) {x0 x1 x3 xA xB xC xD xE xF xG xH xI xJ xK xL xM xN xO xP xQ xR xS xT xU xV xW xX xY xZ yB yC yD yE yF yG yH yI yJ yK yL yM yN yO yP yQ yR yS yT yU yV yW yX yY yZ zA zB zC zD zF zG zH zI zJ zK zL zM zN zO zP zQ zR zS zT zU zV zW zX zY zZ wA wB wC wD wE wF wG wH wI wJ wK wL wM wN wO wP wQ wR wS wT wU wV wW wX wY wZ uA uB uC uD uE uF uG uH uI uJ uK uL uM uN uO uP uQ uR uS:Value} :
  dc3 (pp G) qq none qV ⟨(kJ x0 x1 (.pointer (some ⟨1,0,none⟩)) x3 (.pointer (some ⟨2,0,none⟩)) (.string (Tx v)) (.string (Tx s)) (.string (Tx df)) (.pointer (some ⟨ha,0,none⟩)) (.pointer (some ⟨hb,0,none⟩)) xA xB xC xD xE xF xG xH xI xJ xK xL xM xN xO xP xQ xR xS xT xU xV xW xX xY xZ (.int .i64 w) (.bool c) yB yC yD yE yF yG yH yI yJ yK yL yM yN yO yP yQ yR yS yT yU yV yW yX yY yZ zA zB zC zD zF zG zH zI zJ zK zL zM zN zO zP zQ zR zS zT zU zV zW zX zY zZ wA wB wC wD wE wF wG wH wI wJ wK wL wM wN wO wP wQ wR wS wT wU wV wW wX wY wZ uA uB uC uD uE uF uG uH uI uJ uK uL uM uN uO uP uQ uR uS),[],h⟩
   (@kR ⟨jH 0 (jE (fun s1=>dc3 (pp G) qq none qU s1 (@kR ⟨jC Tryd.prog [.cell 4 61] (fun v' σ'=>FzV Tryd.prog 1 σ' v' (prV (mkW w b e v s df pa pb)))⟩)) (jC Tryd.prog [.cell 4 61] (fun v' σ'=>FzV Tryd.prog 1 σ' v' (prV (mkW w b e v s df pa pb)))))⟩):=by
 have hws:w=0∨w=1∨w=2∨w=3∨w=4∨w=5∨w=6∨w=7∨w=8∨w=9∨w=10∨w=11∨w=12∨w=13∨w=14∨w=15∨w=16∨w=17∨w=18∨w=19:=by omega
 have hone:=mC2 G jO (by decide) e hse hel
 have hb3:=qC (a:=b) (n:=3) (by omega)
 have hb2:=qC (a:=b) (n:=2) (by omega)
 have ga:=sV1 hb3
 have gs:=cZ0 hb2
 have hnA:(nss cF0).length=3:=rfl
 have hnS:(nss jM).length=2:=rfl
 obtain ⟨x,hxe⟩:∃ x,x=uC0 jO e:=⟨_,rfl⟩
 rcases hws with rfl|rfl|rfl|rfl|rfl|rfl|rfl|rfl|rfl|rfl|rfl|rfl|rfl|rfl|rfl|rfl|rfl|rfl|rfl|rfl
 all_goals
  first|(obtain rfl:c=true:=hc)|(obtain rfl:c=false:=hc)
  unfold mkW
  rw[← hxe] at hone ⊢
  rw[uK1]
  repeat' (first
   | (with_reducible (refine And.intro ?_ ?_))
   | (refine dK (jE0 G b 3 (by omega) (by omega)) ?_)
   | (refine dK (jE0 G b 2 (by omega) (by omega)) ?_)
   | (refine dK (eV0 G) ?_)
   | (refine dK (gE1 G) ?_)
   | (refine dK (hone) ?_)
   | rw[uI1]
   | rw[uH1]
   | rw[uG1]
   | rw[uJ1]
   | simp(disch:=first|omega|(apply id;simp only[push_cast];try omega))only[push_cast,simprocAttr,c1,c2,c3,c4,hl1,↓litA,↓lit2,↓lit3,ga,gs,hnA,hnS,tN0,↓rowP1,↓rowP2,true_or,or_true,or_self,Int.reduceEq,show nsV jM=Rw false eS 2 (nss jM) from rfl])
  all_goals (refine .agg ?_;repeat' (first|exact FzL.nil|apply FzL.cons|exact FzV.id rfl|exact mA0 G _ _|exact cV1 G _ _|exact FzV.row (FzL.ids (fK0 _ (by decide) _))|exact FzV.id (bP0 _ (by decide) ..)))
set_option maxHeartbeats 2000000 in
theorem cZ1:∀ (x:Rb) (d:Nat),d≤6→smB x=true→jI (pp G) H0 50 [rbV x,.int .i64 d] (prV (mkP x d))
 | .mk k a b e l,d,hd,hs=>by
  simp only[smB,Bool.and_eq_true,decide_eq_true_eq] at hs
  obtain ⟨hll,hel,hse,hsl⟩:=hs
  have ih:∀ x∈l,d<6→jI (pp G) H0 50 [rbV x,.int .i64 ((d+1:Nat):Int)] (prV (mkP x (d+1))):=fun x hx hd'=>cZ1 x (d+1) (by omega) (wZ0 hsl x hx)
  have p0:jI (pp G) H0 65 [rbV (.mk k a b e l),.int .i64 0,.int .i64 d] (prV (fL0 l 0 d)):=cM1 G k a b e l 0 d (by omega) hd hll ih
  have p1:jI (pp G) H0 65 [rbV (.mk k a b e l),.int .i64 1,.int .i64 d] (prV (fL0 l 1 d)):=cM1 G k a b e l 1 d (by omega) hd hll ih
  rw[mkP_w]
  have ha3:=qC (a:=a) (n:=3) (by omega)
  have ha2:=qC (a:=a) (n:=2) (by omega)
  have ha5:=qC (a:=a) (n:=5) (by omega)
  have g3:=nZ1 ha3
  have g2:=cZ0 ha2
  have g5:=sN1 ha5
  have hwk:=qC (a:=k) (n:=20) (by omega)
  have hn3:nsV jO=Rw false eS 3 (nss jO):=rfl
  have hn2:nsV jM=Rw false eS 2 (nss jM):=rfl
  have hn5:nsV qH=Rw false eS 5 (nss qH):=rfl
  have l3:(nss jO).length=3:=rfl
  have l2:(nss jM).length=2:=rfl
  have l5:(nss qH).length=5:=rfl
  have key:=fun h ha hb c hc=>@mP2 G k a b e l (jO.getD (jN a 3).toNat []) (jM.getD (jN a 2).toNat []) (qH.getD (jN a 5).toNat []) (fL0 l 0 d) (fL0 l 1 d) (jN k 20) hwk c hc hse hel h ha hb
  have hwc:=jE0 G k 20 (by omega) (by omega)
  generalize jN k 20=w at hwk key hwc ⊢
  refine cE G fir50 (by kernel_rfl) (uB2 ..) fun hlo=>?_;rw[yI2]
  simp(disch:=first|omega|(apply id;simp only[push_cast];try omega))only[push_cast,simprocAttr]
  refine dK (gE1 G) ?_
  simp(disch:=first|omega|(apply id;simp only[push_cast];try omega))only[push_cast,simprocAttr]
  refine dK (jE0 G a 3 (by omega) (by omega)) ?_
  simp(disch:=first|omega|(apply id;simp only[push_cast];try omega))only[push_cast,simprocAttr,hn3,g3,l3]
  refine dK (eV0 G) ?_
  simp(disch:=first|omega|(apply id;simp only[push_cast];try omega))only[push_cast,simprocAttr]
  refine dK (jE0 G a 2 (by omega) (by omega)) ?_
  simp(disch:=first|omega|(apply id;simp only[push_cast];try omega))only[push_cast,simprocAttr,hn2,g2,l2]
  refine dK (lP1 G) ?_
  simp(disch:=first|omega|(apply id;simp only[push_cast];try omega))only[push_cast,simprocAttr]
  refine dK (jE0 G a 5 (by omega) (by omega)) ?_
  simp(disch:=first|omega|(apply id;simp only[push_cast];try omega))only[push_cast,simprocAttr,hn5,g5,l5]
  repeat' (first
   | (with_reducible (refine And.intro ?_ ?_))
   | (refine dK (p0) ?_)
   | (refine dK (p1) ?_)
   | simp(disch:=first|omega|(apply id;simp only[push_cast];try omega))only[push_cast,simprocAttr])
  all_goals (
   (refine dK (hwc) ?_)
   by_cases h0:w=0
   ·subst h0
    simp(disch:=first|omega|(apply id;simp only[push_cast];try omega))only[push_cast,simprocAttr]
    refine key _ _ _ true rfl ?_ ?_ ?_ ?_ ?_ ?_ ?_
    iterate 6 exact tH
    ·decide
   ·simp(disch:=first|omega|(apply id;simp only[push_cast];try omega))only[push_cast,simprocAttr,h0]
    refine key _ _ _ (decide (w=1)) (by simp[h0]) ?_ ?_ ?_ ?_ ?_ ?_ ?_
    iterate 6 exact tH
    ·decide)
end
end Go.Proofs.YtgeakofgklcipaaDoor
namespace Go.Proofs.YtgeakofgklcipaaDoor
open Go Go.RowKit Go.Ev Go.Dv
noncomputable section
attribute [local push_cast] eq_self iff_self
set_option maxRecDepth 100000
variable (G:Nat×Nat)
mutual
def szB:Rb→Nat→Int
 | .mk _ _ _ e l,d=>if 8<d then 1000 else if cP0 e 0≤20 then szBs l d 1 else 1000
def szBs:List Rb→Nat→Int→Int
 | [],_,n=>n
 | x :: l,d,n=>if n≤40 then szBs l d (W (n+szB x (d+1))) else n
end
inductive I60 (x:Rb) (l:List Rb) (d:Nat) (r:Int):Nat→S→Prop
 | mk (i:Nat) (iv n:Int) (h:jA) {x0 x3 x4 x7 x8 x9 xA xB xC xD xE xF xG xH xI xJ xK xL xM xN xO xP xQ xR xS xT xU xV xW xX xY xZ yA:Value} (hiv:iv=(i:Int)) (hi:i≤l.length) (hr:szBs (l.drop i) d n=r) (c1:cells h 1=some (rbC x,25,false)) (hl1:h.lo=1) (hl2:2≤h.next) :
  I60 x l d r (l.length-i) ⟨(F37 x0 (.int .i64 d) (.pointer (some ⟨1,0,none⟩)) x3 x4 (.int .i64 n) (.int .i64 iv) x7 x8 x9 xA xB xC xD xE xF xG xH xI xJ xK xL xM xN xO xP xQ xR xS xT xU xV xW xX xY xZ yA),[],h⟩
theorem bH1:∀ (x:Rb) (d:Nat),d≤9→smB x=true→jI (pp G) H0 28 [rbV x,.int .i64 d] (.int .i64 (szB x d))
 | .mk k a b e l,d,hd,hs=>by
  simp only[smB,Bool.and_eq_true,decide_eq_true_eq] at hs
  obtain ⟨hll,hel,hse,hsl⟩:=hs
  have ih:∀ x∈l,d≤8→jI (pp G) H0 28 [rbV x,.int .i64 ((d+1:Nat):Int)] (.int .i64 (szB x (d+1))):=fun x hx hd'=>bH1 x (d+1) (by omega) (wZ0 hsl x hx)
  have hf:=few_f G e hel hse
  refine cE G fir28 (by kernel_rfl) (nE1 ..) fun hlo=>?_;rw[gC2]
  rw[szB]
  by_cases h8:8<d
  ·rw[if_pos h8]
   have h8':(8:Int)<d:=by omega
   push_cast(disch:=first|omega|(apply id;push_cast;try omega))[h8']
   exact .id rfl
  rw[if_neg h8]
  have h8':¬ (8:Int)<d:=by omega
  push_cast(disch:=first|omega|(apply id;push_cast;try omega))[h8']
  refine dK (hf) ?_
  by_cases h20:cP0 e 0≤20
  rotate_left
  ·rw[if_neg h20]
   push_cast(disch:=first|omega|(apply id;push_cast;try omega))[h20]
   exact .id rfl
  rw[if_pos h20]
  push_cast(disch:=first|omega|(apply id;push_cast;try omega))[h20]
  obtain ⟨r,hr⟩:∃ r,r=szBs l d 1:=⟨_,rfl⟩
  rw[← hr]
  refine WD.loop4 (q:=qq) (qB G) (by kernel_rfl) (I60 (.mk k a b e l) l d r) ?_ _ _ (I60.mk 0 0 1 _ rfl (Nat.zero_le _) hr.symm tH rfl tH)
  clear hr
  intro m s1 hI
  cases hI with|mk i iv n h hiv hi hr c1 hl1 hl2=>
  subst hiv
  rw[wH1]
  by_cases hil:(i:Int)<l.length
  ·obtain ⟨x,hx⟩:=jR (l:=l) (i:=i) (by omega)
   have hdr:l.drop i=x :: l.drop (i+1):=by rw[List.drop_eq_getElem_cons (by omega)];congr 1;exact (List.getElem?_eq_some_iff.1 hx).2
   rw[hdr,szBs] at hr
   by_cases hn:n≤40
   ·rw[if_pos hn] at hr
    have hp:=zD0 hx
    have hle:i*5+5≤l.length*5:=by omega
    have e2:IntKind.i64.wrap ((d:Int)+1)=((d+1:Nat):Int):=by rw[wrap_i64 (by omega) (by omega)];omega
    push_cast(disch:=first|omega|(apply id;push_cast;try omega))[hil,hn,c1,hl1,hp,hle,e2,Int.toNat_natCast]
    refine dK (ih x (List.mem_of_getElem? hx) (by omega)) ?_
    push_cast(disch:=first|omega|(apply id;push_cast;try omega))
    exact ⟨_,by omega,I60.mk (i+1) _ _ _ (by first|rfl|omega) (by omega) hr (by first|assumption|(push_cast(disch:=first|omega|(apply id;push_cast;try omega))[c1];try omega)) (by first|assumption|(push_cast(disch:=first|omega|(apply id;push_cast;try omega))[hl1];try omega)) tH⟩
   ·rw[if_neg hn] at hr
    subst hr
    push_cast(disch:=first|omega|(apply id;push_cast;try omega))[hil,hn,c1,hl1]
    rw[dL0]
    push_cast(disch:=first|omega|(apply id;push_cast;try omega))
    exact .id rfl
  ·have hie:i=l.length:=by omega
   subst hie
   rw[List.drop_length,szBs] at hr
   subst hr
   push_cast(disch:=first|omega|(apply id;push_cast;try omega))[hil,c1,hl1]
   rw[dL0]
   push_cast(disch:=first|omega|(apply id;push_cast;try omega))
   exact .id rfl
 termination_by x=>SizeOf.sizeOf x
 decreasing_by
  have:=List.sizeOf_lt_of_mem hx
  simp at this ⊢
  omega
def shV (v s:Int) (l:List Rb):Value:=.agg ⟨[.int .i64 v,.int .i64 s,Rw false erb l.length (rbCs l)]⟩
def sumB:List Rb→Int→Int
 | [],n=>n
 | x :: l,n=>sumB l (W (n+szB x 0))
def fewB (l:List Rb):Bool:=decide (l.length≤5)&&decide (sumB l 0≤40)
inductive I37 (v s:Int) (l:List Rb) (r:Int):Nat→S→Prop
 | mk (i:Nat) (iv n:Int) (h:jA) {x0 x2 x5 x6 x7 x8 x9 xA xB xC xD xE xF xG xH xI xJ xK xL xM xN xO xP xQ xR:Value} (hiv:iv=(i:Int)) (hi:i≤l.length) (hr:sumB (l.drop i) n=r) (c1:cells h 1=some ([.int .i64 v,.int .i64 s,Rw false erb l.length (rbCs l)],28,false)) (hl1:h.lo=1) (hl2:2≤h.next) :
  I37 v s l r (l.length-i) ⟨(F28 x0 (.pointer (some ⟨1,0,none⟩)) x2 (.int .i64 n) (.int .i64 iv) x5 x6 x7 x8 x9 xA xB xC xD xE xF xG xH xI xJ xK xL xM xN xO xP xQ xR),[],h⟩
theorem oA2 (v s:Int) (l:List Rb) (hll:l.length<1000000000000000) (hsl:smBs l=true):jI (pp G) H0 12 [shV v s l] (.bool (fewB l)):=by
 refine cE G fir12 (by kernel_rfl) (fI2 ..) fun hlo=>?_;rw[gP2]
 unfold shV
 push_cast(disch:=first|omega|(apply id;push_cast;try omega))
 refine WD.loop4 (q:=qq) (qB G) (by kernel_rfl) (I37 v s l (sumB l 0)) ?_ _ _ (I37.mk 0 0 0 _ rfl (Nat.zero_le _) rfl tH rfl tH)
 intro m s1 hI
 cases hI with|mk i iv n h hiv hi hr c1 hl1 hl2=>
 subst hiv
 rw[zA1]
 by_cases hil:(i:Int)<l.length
 ·obtain ⟨x,hx⟩:=jR (l:=l) (i:=i) (by omega)
  have hdr:l.drop i=x :: l.drop (i+1):=by rw[List.drop_eq_getElem_cons (by omega)];congr 1;exact (List.getElem?_eq_some_iff.1 hx).2
  rw[hdr,sumB] at hr
  have hp:=zD0 hx
  have hle:i*5+5≤l.length*5:=by omega
  push_cast(disch:=first|omega|(apply id;push_cast;try omega))[hil,c1,hl1,hp,hle,Int.toNat_natCast]
  refine dK (bH1 G x 0 (by omega) (wZ0 hsl x (List.mem_of_getElem? hx))) ?_
  push_cast(disch:=first|omega|(apply id;push_cast;try omega))
  exact ⟨_,by omega,I37.mk (i+1) _ _ _ (by first|rfl|omega) (by omega) hr (by first|assumption|(push_cast(disch:=first|omega|(apply id;push_cast;try omega))[c1];try omega)) (by first|assumption|(push_cast(disch:=first|omega|(apply id;push_cast;try omega))[hl1];try omega)) tH⟩
 ·have hie:i=l.length:=by omega
  subst hie
  rw[List.drop_length,sumB] at hr
  unfold fewB
  rw[← hr]
  push_cast(disch:=first|omega|(apply id;push_cast;try omega))[hil,c1,hl1]
  rw[wZ1]
  by_cases h5:l.length≤5
  ·have h5':(l.length:Int)≤5:=by omega
   rw[decide_eq_true h5]
   push_cast(disch:=first|omega|(apply id;push_cast;try omega))[c1,hl1,h5',Bool.true_and]
   exact .id rfl
  ·have h5':¬ (l.length:Int)≤5:=by omega
   rw[decide_eq_false h5]
   push_cast(disch:=first|omega|(apply id;push_cast;try omega))[c1,hl1,h5',Bool.false_and]
   exact .id rfl
abbrev eVr:Nat:=85
abbrev eDf:Nat:=63
def vrs (l:List (List UInt8×Int)):List Value:=l.flatMap fun x=>[Value.string (Tx x.1),.int .i64 x.2]
def dfs (l:List (List UInt8×Pr)):List Value:=l.flatMap fun x=>Value.string (Tx x.1) :: prC x.2
theorem eO0 (l:List (List UInt8×Int)):(vrs l).length=l.length*2:=by
 induction l with
 | nil=>rfl
 | cons x l ih=>rw[vrs,List.flatMap_cons,List.length_append,← vrs,ih,List.length_cons];simp;omega
theorem iM0 (l:List (List UInt8×Pr)):(dfs l).length=l.length*9:=by
 induction l with
 | nil=>rfl
 | cons x l ih=>rw[dfs,List.flatMap_cons,List.length_append,← dfs,ih,List.length_cons];simp[bT];omega
theorem zC2 (a b:List (List UInt8×Int)):vrs (a++b)=vrs a++vrs b:=by simp[vrs]
theorem lN1 (a b:List (List UInt8×Pr)):dfs (a++b)=dfs a++dfs b:=by simp[dfs]
theorem uJ2 (n:Nat) (l:List (List UInt8×Int)):scL n (vrs l)=true:=by
 induction l with
 | nil=>rfl
 | cons x l ih=>rw[vrs,List.flatMap_cons,← vrs];exact qA fun v hv=>(List.mem_append.1 hv).elim (fun h=>jV (l:=[Value.string (Tx x.1),.int .i64 x.2]) rfl v h) (jV ih v)
theorem oS2 (n:Nat) (hn:0<n) (l:List (List UInt8×Pr)):scL n (dfs l)=true:=by
 induction l with
 | nil=>rfl
 | cons x l ih=>rw[dfs,List.flatMap_cons,← dfs];exact qA fun v hv=>(List.mem_append.1 hv).elim (fun h=>jV (l:=Value.string (Tx x.1) :: prC x.2) (by rw[scL,lW0 n hn];rfl) v h) (jV ih v)
structure Pg where
 v:List (List UInt8×Int)
 s:List (List UInt8)
 d:List (List UInt8×Pr)
def pgC (p:Pg):List Value:=[Rw false eVr p.v.length (vrs p.v),Rw false eS p.s.length (nss p.s),Rw false eDf p.d.length (dfs p.d)]
def pgV (p:Pg):Value:=.agg ⟨pgC p⟩
theorem lX2 (n:Nat) (hn:0<n) (p:Pg):Ev.sc n (pgV p)=true:=by
 simp[pgV,pgC,Ev.sc,scL,Rw,hn,uJ2,oS2 n hn,zG0]
def valF (v:Int) (i:Nat):Int:=IntKind.i64.wrap (jN (IntKind.i64.wrap (v.tdiv ((i:Int)+1))) 9-4)
def varL (v:Int):List (List UInt8×Int):=(List.range 3).map fun i=>(jO.getD i [],valF v i)
def zS1 (l:List Rb) (i:Nat):Option Pr:=l[i]?.map fun x=>mkP x 0
def defL (l:List Rb):List (List UInt8×Pr):=(List.range 5).map fun i=>(qH.getD i [],(zS1 l i).getD qF)
theorem oA1 (v:Int) {i:Nat} (h:i<3):(varL v)[i]?=some (jO.getD i [],valF v i):=by
 rw[varL,List.getElem?_map,List.getElem?_range h];rfl
theorem tS0 (l:List Rb) {i:Nat} (h:i<5):(defL l)[i]?=some (qH.getD i [],(zS1 l i).getD qF):=by
 rw[defL,List.getElem?_map,List.getElem?_range h];rfl
theorem rowV1 (s:List UInt8) (v:Int) (σ:jA):bsD (qq.m 53) (slT Tryd.prog 53) 1 [(0,.agg ⟨[.string (Tx s),.int .i64 v]⟩)] σ=some (Rw true eVr 1 (vrs [(s,v)]),σ):=by kernel_rfl
def dfC (s:List UInt8) (o:Option Pr):List Value:=.string (Tx s) :: (match o with|some p=>prC p|none=>[.int .i64 0,.string (Tx []),.string (Tx []),.int .i64 0,.int .i64 0,.string (Tx []),.slice none 0 0,.slice none 0 0])
theorem rowD1 (s:List UInt8) (p:Pr) (σ:jA):bsD (qq.m 55) (slT Tryd.prog 55) 1 [(0,.agg ⟨.string (Tx s) :: prC p⟩)] σ=some (Rw true eDf 1 (.string (Tx s) :: prC p),σ):=by
 cases p;kernel_rfl
theorem rowD0 (s:List UInt8) (σ:jA):bsD (qq.m 55) (slT Tryd.prog 55) 1 [(0,.agg ⟨[.string (Tx s),.int .i64 0,.string (Tx []),.string (Tx []),.int .i64 0,.int .i64 0,.string (Tx []),.slice none 0 0,.slice none 0 0]⟩)] σ=some (Rw true eDf 1 [.string (Tx s),.int .i64 0,.string (Tx []),.string (Tx []),.int .i64 0,.int .i64 0,.string (Tx []),.slice none 0 0,.slice none 0 0],σ):=by kernel_rfl
theorem iO0 (s:List UInt8) (o:Option Pr):(dfC s o).length=9:=by cases o<;>simp[dfC,bT]
theorem lO1 (s:List UInt8) (o:Option Pr):(dfC s o).all one=true:=by
 cases o with
 | none=>rfl
 | some p=>cases p;rfl
theorem wM2 (n:Nat) (hn:0<n) (σ:jA) (s:List UInt8) (o:Option Pr):FzL (pp G).P n σ (dfC s o) (dfs [(s,o.getD qF)]):=by
 have e:dfs [(s,o.getD qF)]=.string (Tx s) :: prC (o.getD qF):=by simp[dfs]
 rw[e]
 refine .cons (.id rfl) ?_
 cases o with
 | some p=>exact .ids (lW0 n hn p)
 | none=>exact .cons (.id rfl) (.cons (.id rfl) (.cons (.id rfl) (.cons (.id rfl) (.cons (.id rfl) (.cons (.id rfl) (.cons (mA0 G _ _) (.cons (cV1 G _ _) .nil)))))))
end
end Go.Proofs.YtgeakofgklcipaaDoor
