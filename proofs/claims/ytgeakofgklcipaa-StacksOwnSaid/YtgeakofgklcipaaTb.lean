/-
  A part of the proof: what the program's functions hand back,as theorems. No condition but those that each theorem names.
-/
import Derived.Test.YtgeakofgklcipaaTa
import Derived.Test.YtgeakofgklcipaaExb
import Derived.Test.YtgeakofgklcipaaExc
set_option linter.unusedSimpArgs false
set_option linter.unusedVariables false
namespace Go.Proofs.Ytgeakofgklcipaa
open Go Go.RowKit Go.Ev Go.Dv
noncomputable section
set_option maxRecDepth 100000
variable (G:Nat×Nat)
def pJ0 (h:jA) (lo:Nat) (vs:List Value) (r:List (List Tm)) (a:Option Addr):Prop:=
 vs.length=r.length∧∀ (j:Nat) (v:Value) (row:List Tm),vs[j]?=some v→r[j]?=some row→∃ b c,v=.slice b row.length c∧qC h 34 9 b row.length c (jY row)∧∀ k,blk b k→¬ blk a k∧lo≤k
theorem pJ0.fz {P:Program} {h:jA} {lo:Nat} {N:Nat} (hN:N≤lo) (h0:0<N) (hs:szT P 34=some 9) {a:Option Addr}:∀ {vs:List Value} {r:List (List Tm)},pJ0 h lo vs r a→(∀ row∈r,row.length<100000000000)→FzL P N h vs (trs r)
 | [],[],_,_=>.nil
 | [],_ :: _,hr,_=>by have:=hr.1;simp at this
 | _ :: _,[],hr,_=>by have:=hr.1;simp at this
 | v :: vs,row :: r,hr,hl=>by
  obtain ⟨b,c,rfl,ho,hb⟩:=hr.2 0 v row rfl rfl
  refine .cons (ho.fz hs (by omega) (by have:=hl row (by simp);omega) (.ids (gO N h0 row)) fun k hk=>Nat.le_trans hN (hb k hk).2) (pJ0.fz hN h0 hs ⟨by simpa using hr.1,fun j v row h1 h2=>hr.2 (j+1) v row (by simpa using h1) (by simpa using h2)⟩ fun x hx=>hl x (by simp[hx]))
theorem qC.lt {σ:jA} {e n:Nat} {a:Option Addr} {len c:Nat} {cs:List Value} (ho:qC σ e n a len c cs) {b:Nat} (hb:blk a b):σ.lo≤b∧b<σ.next:=by
 obtain ⟨o,s,rfl⟩:=hb
 rcases ho.hat with ⟨e,_⟩|⟨q,_,e,h1,h2,_⟩
 ·cases e
 ·cases e;exact ⟨h1,h2⟩
theorem qC.flt {σ:jA} {e n:Nat} {a:Option Addr} {len c:Nat} {cs:List Value} (ho:qC σ e n a len c cs) {p:Nat→Bool} (hp:∀ b,blk a b→p b=true):qC (hflt p σ) e n a len c cs:=by
 refine ⟨ho.hlen,ho.hone,?_⟩
 rcases ho.hat with h0|⟨b,m,ha,h1,h2,h3,h4⟩
 ·exact .inl h0
 ·exact .inr ⟨b,m,ha,h1,h2,(zW0 σ (hp b ⟨0,none,ha⟩)).trans h3,h4⟩
theorem qH0 (a n:Int) (hn:0<n) (hn2:n<1000000000000):jG (pp G) H0 96 [.int .i64 a,.int .i64 n] (.int .i64 (jP a n)):=by
 have hlo:H0.lo≤H0.next:=Nat.le_refl _;refine jG.cut (jD.fir4 (q:=qq) (jJ G) fir96 (by kernel_rfl) rfl rfl (fA0 ..) (show NGG≤H0.lo by rw[jW];decide) ?_);rw[pT1]
 have h0:¬ n=0:=by omega
 have h1:¬ n = -1:=by omega
 have h2:=qM (a:=a) hn
 unfold jP at h2 ⊢
 by_cases h:a.tmod n<0
 ·rw[if_pos h]
  rw[if_pos h] at h2
  have h3:IntKind.i64.wrap (a.tmod n+n)=a.tmod n+n:=W_in (by unfold In;omega)
  simp(disch:=first|omega|(apply id;simp only[push_cast];try omega))only[push_cast,simprocAttr,h,h0,h1,h3]
  exact .id rfl
 ·rw[if_neg h]
  rw[if_neg h] at h2
  simp(disch:=first|omega|(apply id;simp only[push_cast];try omega))only[push_cast,simprocAttr,h,h0,h1]
  exact .id rfl
theorem jB0 (a n:Int) (hn:0<n) (hn2:n<1000000000000):jG (pp G) H0 67 [.int .i64 a,.int .i64 n] (.int .i64 (jP a n)):=by
 have hlo:H0.lo≤H0.next:=Nat.le_refl _;refine jG.cut (jD.fir4 (q:=qq) (jJ G) fir67 (by kernel_rfl) rfl rfl (fA0 ..) (show NGG≤H0.lo by rw[jW];decide) ?_);rw[rM1]
 have h0:¬ n=0:=by omega
 have h1:¬ n = -1:=by omega
 have h2:=qM (a:=a) hn
 unfold jP at h2 ⊢
 by_cases h:a.tmod n<0
 ·rw[if_pos h]
  rw[if_pos h] at h2
  have h3:IntKind.i64.wrap (a.tmod n+n)=a.tmod n+n:=W_in (by unfold In;omega)
  simp(disch:=first|omega|(apply id;simp only[push_cast];try omega))only[push_cast,simprocAttr,h,h0,h1,h3]
  exact .id rfl
 ·rw[if_neg h]
  rw[if_neg h] at h2
  simp(disch:=first|omega|(apply id;simp only[push_cast];try omega))only[push_cast,simprocAttr,h,h0,h1]
  exact .id rfl
theorem qM1 (a n:Int) (hn:0<n) (hn2:n<1000000000000):jG (pp G) H0 71 [.int .i64 a,.int .i64 n] (.int .i64 (jP a n)):=by
 have hlo:H0.lo≤H0.next:=Nat.le_refl _;refine jG.cut (jD.fir4 (q:=qq) (jJ G) fir71 (by kernel_rfl) rfl rfl (fA0 ..) (show NGG≤H0.lo by rw[jW];decide) ?_);rw[rI1]
 have h0:¬ n=0:=by omega
 have h1:¬ n = -1:=by omega
 have h2:=qM (a:=a) hn
 unfold jP at h2 ⊢
 by_cases h:a.tmod n<0
 ·rw[if_pos h]
  rw[if_pos h] at h2
  have h3:IntKind.i64.wrap (a.tmod n+n)=a.tmod n+n:=W_in (by unfold In;omega)
  simp(disch:=first|omega|(apply id;simp only[push_cast];try omega))only[push_cast,simprocAttr,h,h0,h1,h3]
  exact .id rfl
 ·rw[if_neg h]
  rw[if_neg h] at h2
  simp(disch:=first|omega|(apply id;simp only[push_cast];try omega))only[push_cast,simprocAttr,h,h0,h1]
  exact .id rfl
theorem wF0 (a n:Int) (hn:0<n) (hn2:n<1000000000000):jG (pp G) H0 21 [.int .i64 a,.int .i64 n] (.int .i64 (jP a n)):=by
 have hlo:H0.lo≤H0.next:=Nat.le_refl _;refine jG.cut (jD.fir4 (q:=qq) (jJ G) fir21 (by kernel_rfl) rfl rfl (fA0 ..) (show NGG≤H0.lo by rw[jW];decide) ?_);rw[sF1]
 have h0:¬ n=0:=by omega
 have h1:¬ n = -1:=by omega
 have h2:=qM (a:=a) hn
 unfold jP at h2 ⊢
 by_cases h:a.tmod n<0
 ·rw[if_pos h]
  rw[if_pos h] at h2
  have h3:IntKind.i64.wrap (a.tmod n+n)=a.tmod n+n:=W_in (by unfold In;omega)
  simp(disch:=first|omega|(apply id;simp only[push_cast];try omega))only[push_cast,simprocAttr,h,h0,h1,h3]
  exact .id rfl
 ·rw[if_neg h]
  rw[if_neg h] at h2
  simp(disch:=first|omega|(apply id;simp only[push_cast];try omega))only[push_cast,simprocAttr,h,h0,h1]
  exact .id rfl
mutual
def smR:Ra→Bool
 | .mk _ _ l=>decide (l.length<1000000000000000)&&smRs l
def smRs:List Ra→Bool
 | []=>true
 | x :: l=>smR x&&smRs l
end
theorem kW0:∀ {l:List Ra},smRs l=true→∀ x∈l,smR x=true
 | [],_,x,hx=>by cases hx
 | y :: l,h,x,hx=>by
  simp only[smRs,Bool.and_eq_true] at h
  rcases List.mem_cons.1 hx with rfl|hx
  ·exact h.1
  ·exact kW0 h.2 x hx
mutual
def szR (d:Nat):Ra→Int
 | .mk _ _ l=>if 8<d then 1000 else szL d 0 l
def szL (d:Nat) (n:Int):List Ra→Int
 | []=>n
 | x :: l=>if n≤20 then szL d (n+1+szR (d+1) x) l else n
end
def bI0 (l:List Ra) (d:Nat):Int:=if 8<d then 1000 else szL d 0 l
mutual
theorem nI1 (d:Nat):∀ x:Ra,0≤szR d x∧szR d x≤1000+21*((9-d:Nat):Int)
 | .mk k n l=>by
  rw[szR]
  split
  ·omega
  ·exact nJ1 d (by omega) l 0 (by omega) (by omega)
theorem nJ1 (d:Nat) (hd:d≤8):∀ (l:List Ra) (n:Int),0≤n→n≤1000+21*((9-d:Nat):Int)→0≤szL d n l∧szL d n l≤1000+21*((9-d:Nat):Int)
 | [],n,h,h'=>by rw[szL];exact ⟨h,h'⟩
 | x :: l,n,h,h'=>by
  rw[szL]
  have:=nI1 (d+1) x
  split
  ·exact nJ1 d hd l _ (by omega) (by omega)
  ·exact ⟨h,h'⟩
end
inductive mW1 (d:Nat) (l:List Ra):Nat→S→Prop
 | mk (i:Nat) (iv n:Int) (h:jA) {x2 x3 x4 x7 x8 x9 xA xB xC xD xE xF xG xH xI xJ xK xL xM xN xO xP xQ xR xS xT xU:Value} (hiv:iv=(i:Int)) (hi:i≤l.length) (hn:0≤n∧n≤2000) (hok:szL d n (l.drop i)=szL d 0 l) (hl1:h.lo=1) (hl2:1≤h.next) :
  mW1 d l (l.length-i) ⟨(F31 (Rw false era l.length (raCs l)) (.int .i64 d) x2 x3 x4 (.int .i64 n) (.int .i64 iv) x7 x8 x9 xA xB xC xD xE xF xG xH xI xJ xK xL xM xN xO xP xQ xR xS xT xU),[],h⟩
theorem nL1:∀ (l:List Ra) (d:Nat),d≤9→l.length<1000000000000000→smRs l=true→jG (pp G) H0 89 [rasV l,.int .i64 d] (.int .i64 (bI0 l d))
 | l,d,hd,hll,hsm=>by
  have ih:∀ k n l',.mk k n l'∈l→d≤8→jG (pp G) H0 89 [rasV l',.int .i64 ((d+1:Nat):Int)] (.int .i64 (bI0 l' (d+1))):=fun k n l' hm hd'=>by
   have:=kW0 hsm _ hm
   simp only[smR,Bool.and_eq_true,decide_eq_true_eq] at this
   exact nL1 l' (d+1) (by omega) this.1 this.2
  have hlo:H0.lo≤H0.next:=Nat.le_refl _;refine jG.cut (jD.fir4 (q:=qq) (jJ G) fir89 (by kernel_rfl) rfl rfl (uR2 ..) (show NGG≤H0.lo by rw[jW];decide) ?_);rw[pX1]
  unfold rasV bI0
  by_cases h8:8<d
  ·rw[if_pos h8]
   have h8':(8:Int)<d:=by omega
   simp(disch:=first|omega|(apply id;simp only[push_cast];try omega))only[push_cast,simprocAttr,h8']
   exact .id rfl
  rw[if_neg h8]
  have h8':¬ (8:Int)<d:=by omega
  simp(disch:=first|omega|(apply id;simp only[push_cast];try omega))only[push_cast,simprocAttr,h8']
  refine WD.loop4 (q:=qq) (jJ G) (by kernel_rfl) (mW1 d l) ?_ _ _ (mW1.mk 0 0 0 _ rfl (Nat.zero_le _) (by omega) rfl rfl (Nat.le_refl _))
  intro m s1 hI
  cases hI with|mk i iv n h hiv hi hn hok hl1 hl2=>
  subst hiv
  rw[rD0]
  by_cases hil:(i:Int)<l.length
  ·obtain ⟨x,hx⟩:∃ x,l[i]?=some x:=⟨_,List.getElem?_eq_getElem (by omega)⟩
   have hxm:=List.mem_of_getElem? hx
   have hdr:l.drop i=x :: l.drop (i+1):=by rw[List.drop_eq_getElem_cons (by omega)];congr 1;exact (List.getElem?_eq_some_iff.1 hx).2
   rw[hdr,szL] at hok
   by_cases hn2:n≤20
   ·rw[if_pos hn2] at hok
    obtain ⟨k',n',l'⟩:=x
    have hp:=eK1 (j:=2) hx (by omega) rfl
    have hle:i*3+3≤l.length*3:=by omega
    have e1:IntKind.i64.wrap (n+1)=n+1:=W_in (by unfold In;omega)
    have e2:IntKind.i64.wrap ((d:Int)+1)=((d+1:Nat):Int):=W_in (by unfold In;omega)
    have hb:=nI1 (d+1) (.mk k' n' l')
    have e4:szR (d+1) (.mk k' n' l')=bI0 l' (d+1):=by rw[szR,bI0]
    rw[e4] at hb hok
    have e3:IntKind.i64.wrap (n+1+bI0 l' (d+1))=n+1+bI0 l' (d+1):=W_in (by unfold In;omega)
    simp(disch:=first|omega|(apply id;simp only[push_cast];try omega))only[push_cast,simprocAttr,hil,hn2,Int.toNat_natCast,hp,hle,hl1,e1,e2]
    refine jB.dataI (ih k' n' l' hxm (by omega)) (by and_intros<;>first|rfl|(simp(disch:=first|omega|(apply id;simp only[push_cast];try omega))only[push_cast])) ?_
    simp(disch:=first|omega|(apply id;simp only[push_cast];try omega))only[push_cast,simprocAttr,e3]
    exact ⟨_,by omega,mW1.mk (i+1) _ _ _ (by first|rfl|omega) (by omega) (by omega) hok (by first|exact hl1|(simp(disch:=first|omega|(apply id;simp only[push_cast];try omega))only[push_cast,simprocAttr,hl1];done)|(simp(disch:=first|omega|(apply id;simp only[push_cast];try omega))only[push_cast,simprocAttr];omega)) (by first|exact hl2|(simp(disch:=first|omega|(apply id;simp only[push_cast];try omega))only[push_cast,simprocAttr];done)|(simp(disch:=first|omega|(apply id;simp only[push_cast];try omega))only[push_cast,simprocAttr];omega))⟩
   ·rw[if_neg hn2] at hok
    simp(disch:=first|omega|(apply id;simp only[push_cast];try omega))only[push_cast,simprocAttr,hil,hn2]
    rw[bU0]
    simp(disch:=first|omega|(apply id;simp only[push_cast];try omega))only[push_cast,simprocAttr]
    rw[hok]
    exact .id rfl
  ·have hie:i=l.length:=by omega
   subst hie
   rw[List.drop_length,szL] at hok
   simp(disch:=first|omega|(apply id;simp only[push_cast];try omega))only[push_cast,simprocAttr,hil]
   rw[bU0]
   simp(disch:=first|omega|(apply id;simp only[push_cast];try omega))only[push_cast,simprocAttr]
   rw[hok]
   exact .id rfl
 termination_by l=>SizeOf.sizeOf l
 decreasing_by
  have:=List.sizeOf_lt_of_mem hm
  simp at this
  omega
theorem few_f (l:List Ra) (hll:l.length<1000000000000000) (hs:smRs l=true):jG (pp G) H0 75 [rasV l] (.bool (decide (bI0 l 0≤20))):=by
 have hlo:H0.lo≤H0.next:=Nat.le_refl _;refine jG.cut (jD.fir4 (q:=qq) (jJ G) fir75 (by kernel_rfl) rfl rfl (oT1 ..) (show NGG≤H0.lo by rw[jW];decide) ?_);rw[rG1]
 simp(disch:=first|omega|(apply id;simp only[push_cast];try omega))only[push_cast,simprocAttr]
 refine jB.dataI (nL1 G l 0 (by omega) hll hs) (by and_intros<;>first|rfl|(simp(disch:=first|omega|(apply id;simp only[push_cast];try omega))only[push_cast])) ?_
 simp(disch:=first|omega|(apply id;simp only[push_cast];try omega))only[push_cast,simprocAttr]
 exact .id rfl
def eT1:List Int:=[0,1,2,7,99,999999999999999999,5,3]
def yV0 (n:Int) (l:List Ex) (i:Nat):Ex:=l.getD i (.mk 1 (jP (W (n+i)) 5) [] [])
mutual
def mkF (ns:List (List UInt8)):Ra→Ex
 | .mk k n l=>if jP k 24<4 then .mk 1 (eT1.getD (jP n 8).toNat 0) [] []
  else if jP k 24<9∧0<ns.length then .mk 2 0 (ns.getD (jP n ns.length).toNat []) []
  else if jP k 24<9 then .mk 2 (jP n 3) [] []
  else if jP k 24=9 then .mk 3 0 [] [yV0 n (mkL ns l) 0]
  else if jP k 24=10 then .mk 4 0 [] [yV0 n (mkL ns l) 0]
  else .mk (5+jP k 24-11) 0 [] [yV0 n (mkL ns l) 0,yV0 n (mkL ns l) 1]
def mkL (ns:List (List UInt8)):List Ra→List Ex
 | []=>[]
 | x :: l=>mkF ns x :: mkL ns l
end
theorem zJ1 (ns:List (List UInt8)):∀ l:List Ra,mkL ns l=l.map (mkF ns)
 | []=>rfl
 | x :: l=>by rw[mkL,zJ1 ns l];rfl
theorem gF0 {P:Program} {m:Nat} {σ:jA} (hs:szT P eE=some 4) (k n:Int) (s:List UInt8):FzV P m σ (.agg ⟨[.int .i64 k,.int .i64 n,.string (Tx s),.slice none 0 0]⟩) (exV (.mk k n s [])):=by
 refine .agg (.cons (.id rfl) (.cons (.id rfl) (.cons (.id rfl) (.cons ?_ .nil))))
 exact .nil hs (by omega)
theorem jO2 {P:Program} {m:Nat} (hm:0<m) {σ:jA} (k n:Int) (s:List UInt8) (l:List Ex):FzV P m σ (.agg ⟨[.int .i64 k,.int .i64 n,.string (Tx s),Rw true eE l.length (uX l)]⟩) (exV (.mk k n s l)):=by
 refine .agg (.cons (.id rfl) (.cons (.id rfl) (.cons (.id rfl) (.cons ?_ .nil))))
 exact .row (.ids (jZ0 m hm l))
theorem sM1 (x:Ex) (σ:jA):bsD (qq.m 29) (slT Try.prog 29) 1 [(0,exV x)] σ=some (Rw true eE 1 (uX [x]),σ):=by
 cases x;kernel_rfl
theorem rowE2 (x y:Ex) (σ:jA):bsD (qq.m 29) (slT Try.prog 29) 2 [(0,exV x),(1,exV y)] σ=some (Rw true eE 2 (uX [x,y]),σ):=by
 cases x;cases y;kernel_rfl
theorem row8 (σ:jA):bsD (qq.m 23) (slT Try.prog 23) 8 [(0,(.int .i64 0)),(1,(.int .i64 1)),(2,(.int .i64 2)),(3,(.int .i64 7)),(4,(.int .i64 99)),(5,(.int .i64 999999999999999999)),(6,(.int .i64 5)),(7,(.int .i64 3))] σ=some (Rw true eI 8 (ivs eT1),σ):=by kernel_rfl
theorem nS1 (ns:List (List UInt8)) (k n:Int) (l:List Ra) (i:Nat) (hi:i<2) (hll:l.length<1000000000000000) (ih:∀ x∈l,jG (pp G) H0 92 [raV x,nsV ns] (exV (mkF ns x))) :
  jG (pp G) H0 97 [raV (.mk k n l),.int .i64 i,nsV ns] (exV (yV0 n (mkL ns l) i)):=by
 have he:yV0 n (mkL ns l) i=(match l[i]? with|some x=>mkF ns x|none=>.mk 1 (jP (W (n+i)) 5) [] []):=by
  rw[yV0,zJ1,List.getD_eq_getElem?_getD,List.getElem?_map]
  cases l[i]?<;>rfl
 rw[he]
 have hlo:H0.lo≤H0.next:=Nat.le_refl _;refine jG.cut (jD.fir4 (q:=qq) (jJ G) fir97 (by kernel_rfl) rfl rfl (cP1 ..) (show NGG≤H0.lo by rw[jW];decide) ?_);rw[pS1]
 unfold raV raC
 by_cases h:(i:Int)<l.length
 ·obtain ⟨x,hx⟩:∃ x,l[i]?=some x:=⟨_,List.getElem?_eq_getElem (by omega)⟩
  have hp:=yT0 hx
  have hle:i*3+3≤l.length*3:=by omega
  rw[hx]
  simp(disch:=first|omega|(apply id;simp only[push_cast];try omega))only[push_cast,simprocAttr,h,hp,hle,Int.toNat_natCast]
  refine jB.dataI (ih x (List.mem_of_getElem? hx)) (by and_intros<;>first|rfl|(simp(disch:=first|omega|(apply id;simp only[push_cast];try omega))only[push_cast])) ?_
  simp(disch:=first|omega|(apply id;simp only[push_cast];try omega))only[push_cast,simprocAttr]
  exact .id (by simp[oX0])
 ·have hx:l[i]?=none:=List.getElem?_eq_none (by omega)
  rw[hx]
  have hw:IntKind.i64.wrap (n+i)=W (n+i):=rfl
  simp(disch:=first|omega|(apply id;simp only[push_cast];try omega))only[push_cast,simprocAttr,h,hw]
  refine jB.dataI (qH0 G (W (n+i)) 5 (by omega) (by omega)) (by and_intros<;>first|rfl|(simp(disch:=first|omega|(apply id;simp only[push_cast];try omega))only[push_cast])) ?_
  simp(disch:=first|omega|(apply id;simp only[push_cast];try omega))only[push_cast,simprocAttr]
  exact gF0 rfl _ _ _
theorem nW1 (ns:List (List UInt8)) (hns:ns.length<1000000000):∀ x:Ra,smR x=true→jG (pp G) H0 92 [raV x,nsV ns] (exV (mkF ns x))
 | .mk k n l,hsm=>by
  simp only[smR,Bool.and_eq_true,decide_eq_true_eq] at hsm
  have hall:=kW0 hsm.2
  have ih:∀ x∈l,jG (pp G) H0 92 [raV x,nsV ns] (exV (mkF ns x)):=fun x hx=>nW1 ns hns x (hall x hx)
  have p0:jG (pp G) H0 97 [raV (.mk k n l),.int .i64 0,nsV ns] (exV (yV0 n (mkL ns l) 0)):=nS1 G ns k n l 0 (by omega) hsm.1 ih
  have p1:jG (pp G) H0 97 [raV (.mk k n l),.int .i64 1,nsV ns] (exV (yV0 n (mkL ns l) 1)):=nS1 G ns k n l 1 (by omega) hsm.1 ih
  have hlo:H0.lo≤H0.next:=Nat.le_refl _;refine jG.cut (jD.fir4 (q:=qq) (jJ G) fir92 (by kernel_rfl) rfl rfl (uH2 ..) (show NGG≤H0.lo by rw[jW];decide) ?_);rw[pW1]
  unfold raV raC
  rw[mkF]
  simp(disch:=first|omega|(apply id;simp only[push_cast];try omega))only[push_cast,simprocAttr]
  refine jB.dataI (qH0 G k 24 (by omega) (by omega)) (by and_intros<;>first|rfl|(simp(disch:=first|omega|(apply id;simp only[push_cast];try omega))only[push_cast])) ?_
  have hk:=qM (a:=k) (n:=24) (by omega)
  generalize jP k 24=w at hk ⊢
  by_cases h4:w<4
  ·rw[if_pos h4]
   have hw:=qM (a:=n) (n:=8) (by omega)
   have hg:=fH1 (l:=eT1) (i:=(jP n 8).toNat) (by show (jP n 8).toNat<8;omega)
   have hc:((jP n 8).toNat:Int)=jP n 8:=Int.toNat_of_nonneg hw.1
   have hl8:(ivs eT1).length=8:=rfl
   simp(disch:=first|omega|(apply id;simp only[push_cast];try omega))only[push_cast,simprocAttr,h4,↓row8]
   refine jB.dataI (qH0 G n 8 (by omega) (by omega)) (by and_intros<;>first|rfl|(simp(disch:=first|omega|(apply id;simp only[push_cast];try omega))only[push_cast])) ?_
   simp(disch:=first|omega|(apply id;simp only[push_cast];try omega))only[push_cast,simprocAttr,hg,hc,hl8]
   exact gF0 rfl _ _ _
  rw[if_neg h4]
  by_cases h9:w<9
  ·by_cases h0:0<ns.length
   ·rw[if_pos ⟨h9,h0⟩]
    unfold nsV
    have h0':(0:Int)<ns.length:=by omega
    have hw:=qM (a:=n) (n:=(ns.length:Int)) (by omega)
    have hg:=jU0 (l:=ns) (i:=(jP n ns.length).toNat) (by omega)
    have hc:((jP n ns.length).toNat:Int)=jP n ns.length:=Int.toNat_of_nonneg hw.1
    have hlt:(jP n ns.length).toNat<ns.length:=by omega
    simp(disch:=first|omega|(apply id;simp only[push_cast];try omega))only[push_cast,simprocAttr,h4,h9,h0']
    refine jB.dataI (qH0 G n ns.length (by omega) (by omega)) (by and_intros<;>first|rfl|(simp(disch:=first|omega|(apply id;simp only[push_cast];try omega))only[push_cast])) ?_
    simp(disch:=first|omega|(apply id;simp only[push_cast];try omega))only[push_cast,simprocAttr,hg,hc,hlt]
    exact gF0 rfl _ _ _
   ·rw[if_neg (fun h=>h0 h.2),if_pos h9]
    unfold nsV
    have h0':¬ (0:Int)<ns.length:=by omega
    simp(disch:=first|omega|(apply id;simp only[push_cast];try omega))only[push_cast,simprocAttr,h4,h9,h0']
    refine jB.dataI (qH0 G n 3 (by omega) (by omega)) (by and_intros<;>first|rfl|(simp(disch:=first|omega|(apply id;simp only[push_cast];try omega))only[push_cast])) ?_
    simp(disch:=first|omega|(apply id;simp only[push_cast];try omega))only[push_cast,simprocAttr]
    exact gF0 rfl _ _ _
  rw[if_neg (fun h=>h9 h.1),if_neg h9]
  by_cases h9':w=9
  ·rw[if_pos h9']
   subst h9'
   simp(disch:=first|omega|(apply id;simp only[push_cast];try omega))only[push_cast,simprocAttr]
   refine jB.dataI (p0) (by and_intros<;>first|rfl|(simp(disch:=first|omega|(apply id;simp only[push_cast];try omega))only[push_cast])) ?_
   simp(disch:=first|omega|(apply id;simp only[push_cast];try omega))only[push_cast,simprocAttr,↓sM1]
   exact jO2 (m:=1) (by decide) 3 0 [] [_]
  rw[if_neg h9']
  by_cases h10:w=10
  ·rw[if_pos h10]
   subst h10
   simp(disch:=first|omega|(apply id;simp only[push_cast];try omega))only[push_cast,simprocAttr]
   refine jB.dataI (p0) (by and_intros<;>first|rfl|(simp(disch:=first|omega|(apply id;simp only[push_cast];try omega))only[push_cast])) ?_
   simp(disch:=first|omega|(apply id;simp only[push_cast];try omega))only[push_cast,simprocAttr,↓sM1]
   exact jO2 (m:=1) (by decide) 4 0 [] [_]
  rw[if_neg h10]
  have e1:IntKind.i64.wrap (5+w)=5+w:=W_in (by unfold In;omega)
  have e2:IntKind.i64.wrap (5+w-11)=5+w-11:=W_in (by unfold In;omega)
  simp(disch:=first|omega|(apply id;simp only[push_cast];try omega))only[push_cast,simprocAttr,h4,h9,h9',h10,e1,e2]
  refine jB.dataI (p0) (by and_intros<;>first|rfl|(simp(disch:=first|omega|(apply id;simp only[push_cast];try omega))only[push_cast])) ?_
  simp(disch:=first|omega|(apply id;simp only[push_cast];try omega))only[push_cast,simprocAttr]
  refine jB.dataI (p1) (by and_intros<;>first|rfl|(simp(disch:=first|omega|(apply id;simp only[push_cast];try omega))only[push_cast])) ?_
  simp(disch:=first|omega|(apply id;simp only[push_cast];try omega))only[push_cast,simprocAttr,↓rowE2]
  exact jO2 (m:=1) (by decide) (5+w-11) 0 [] [_,_]
 termination_by x=>SizeOf.sizeOf x
def wZ0 (ns:List (List UInt8)):List Ra→Ex
 | []=>.mk 1 1 [] []
 | x :: _=>mkF ns x
theorem kA2 (ns:List (List UInt8)) (hns:ns.length<1000000000) (l:List Ra) (hsm:smRs l=true) (hll:l.length<1000000000000000) :
  jG (pp G) H0 82 [rasV l,nsV ns] (exV (wZ0 ns l)):=by
 have hlo:H0.lo≤H0.next:=Nat.le_refl _;refine jG.cut (jD.fir4 (q:=qq) (jJ G) fir82 (by kernel_rfl) rfl rfl (uT2 ..) (show NGG≤H0.lo by rw[jW];decide) ?_);rw[rE1]
 cases l with
 | nil=>
  rw[wZ0]
  unfold rasV
  simp(disch:=first|omega|(apply id;simp only[push_cast];try omega))only[push_cast,simprocAttr]
  exact gF0 rfl _ _ _
 | cons x l=>
  rw[wZ0]
  have hx:=kW0 hsm x (by simp)
  have hp:=yT0 (l:=x :: l) (i:=0) rfl
  rw[Nat.zero_mul,List.drop_zero] at hp
  have h0:¬ (l.length:Int)+1=0:=by omega
  have h1:3≤(l.length+1)*3:=by omega
  have h2:0<(x :: l).length:=by simp
  unfold rasV
  simp(disch:=first|omega|(apply id;simp only[push_cast];try omega))only[push_cast,simprocAttr,h0,h1,h2,hp]
  refine jB.dataI (nW1 G ns hns x hx) (by and_intros<;>first|rfl|(simp(disch:=first|omega|(apply id;simp only[push_cast];try omega))only[push_cast])) ?_
  simp(disch:=first|omega|(apply id;simp only[push_cast];try omega))only[push_cast,simprocAttr]
  exact .id (by simp[oX0])
def qW:List (List UInt8):=[[120],[121],[116,111,116,97,108]]
def jU:List (List UInt8):=[[115],[117,110,100,111]]
def kF:List (List UInt8):=[[109,97,105,110],[112],[113],[114,101,116,114,121],[108,97,115,116]]
def nC0:List (List UInt8):=[[112,97,121],[115,104,105,112],[97,115,107]]
theorem lit2 (σ:jA):bsD (qq.m 70) (slT Try.prog 70) 2 [(0,(.string (Tx [115]))),(1,(.string (Tx [117,110,100,111])))] σ=some (Rw true eS 2 (nss jU),σ):=by kernel_rfl
theorem lit3 (σ:jA):bsD (qq.m 70) (slT Try.prog 70) 3 [(0,(.string (Tx [120]))),(1,(.string (Tx [121]))),(2,(.string (Tx [116,111,116,97,108])))] σ=some (Rw true eS 3 (nss qW),σ):=by kernel_rfl
theorem lit5 (σ:jA):bsD (qq.m 70) (slT Try.prog 70) 5 [(0,(.string (Tx [109,97,105,110]))),(1,(.string (Tx [112]))),(2,(.string (Tx [113]))),(3,(.string (Tx [114,101,116,114,121]))),(4,(.string (Tx [108,97,115,116])))] σ=some (Rw true eS 5 (nss kF),σ):=by kernel_rfl
theorem litA (σ:jA):bsD (qq.m 70) (slT Try.prog 70) 3 [(0,(.string (Tx [112,97,121]))),(1,(.string (Tx [115,104,105,112]))),(2,(.string (Tx [97,115,107])))] σ=some (Rw true eS 3 (nss nC0),σ):=by kernel_rfl
theorem qV1:jG (pp G) H0 66 [] (nsV qW):=by
 have hlo:H0.lo≤H0.next:=Nat.le_refl _;refine jG.cut (jD.fir4 (q:=qq) (jJ G) fir66 (by kernel_rfl) rfl rfl (cO1 ..) (show NGG≤H0.lo by rw[jW];decide) ?_);rw[rN1]
 simp(disch:=first|omega|(apply id;simp only[push_cast];try omega))only[push_cast,simprocAttr,↓lit3]
 exact .row (.ids (wS0 _ _))
theorem dE0:jG (pp G) H0 65 [] (nsV jU):=by
 have hlo:H0.lo≤H0.next:=Nat.le_refl _;refine jG.cut (jD.fir4 (q:=qq) (jJ G) fir65 (by kernel_rfl) rfl rfl (cO1 ..) (show NGG≤H0.lo by rw[jW];decide) ?_);rw[rO1]
 simp(disch:=first|omega|(apply id;simp only[push_cast];try omega))only[push_cast,simprocAttr,↓lit2]
 exact .row (.ids (wS0 _ _))
theorem bE1:jG (pp G) H0 68 [] (nsV kF):=by
 have hlo:H0.lo≤H0.next:=Nat.le_refl _;refine jG.cut (jD.fir4 (q:=qq) (jJ G) fir68 (by kernel_rfl) rfl rfl (cO1 ..) (show NGG≤H0.lo by rw[jW];decide) ?_);rw[rL1]
 simp(disch:=first|omega|(apply id;simp only[push_cast];try omega))only[push_cast,simprocAttr,↓lit5]
 exact .row (.ids (wS0 _ _))
def qZ:Pr:=.mk 0 [] [] zE []
mutual
def mkP:Rb→Nat→Pr
 | .mk k a b e l,d=>
  let pa:=if d<6 then (mkPs l (d+1)).getD 0 qZ else qZ
  let pb:=if d<6 then (mkPs l (d+1)).getD 1 qZ else qZ
  let v:=qW.getD (jP a 3).toNat []
  let s:=jU.getD (jP a 2).toNat []
  let df:=kF.getD (jP a 5).toNat []
  let ac:=nC0.getD (jP b 3).toNat []
  let w:=jP k 20
  if w=0∨w=1 then .mk 1 ac [] zE []
  else if w=2∨w=3 then .mk 1 ac v zE []
  else if w=4 then .mk 2 [] v (wZ0 qW e) []
  else if w=5∨w=6 then .mk 3 s [] zE [pa]
  else if w=7 then .mk 4 s [] zE []
  else if w=8 then .mk 5 s [] zE []
  else if w=9 then .mk 6 s (jU.getD (jP b 2).toNat []) zE []
  else if w=10 then .mk 7 [] [] zE [pa]
  else if w=11 then .mk 8 [] [] zE []
  else if w=12 then .mk 9 [] [] (wZ0 qW e) [pa,pb]
  else if w=13 then .mk 10 [] [] zE [pa,pb]
  else if w=14∨w=15 then .mk 11 [] [] zE [pa,pb]
  else if w=16 then .mk 13 df [] zE []
  else if w=17 then qZ
  else .mk 12 [] [] zE [pa,pb]
def mkPs:List Rb→Nat→List Pr
 | [],_=>[]
 | x :: l,d=>mkP x d :: mkPs l d
end
theorem oN0 (d:Nat):∀ l:List Rb,mkPs l d=l.map fun x=>mkP x d
 | []=>rfl
 | x :: l=>by rw[mkPs,oN0 d l];rfl
def dU0 (l:List Rb) (i d:Nat):Pr:=if d<6 then (mkPs l (d+1)).getD i qZ else qZ
mutual
def smB:Rb→Bool
 | .mk _ _ _ e l=>decide (l.length<1000000000000000)&&(decide (e.length<1000000000000000)&&(smRs e&&smBs l))
def smBs:List Rb→Bool
 | []=>true
 | x :: l=>smB x&&smBs l
end
theorem uC0:∀ {l:List Rb},smBs l=true→∀ x∈l,smB x=true
 | [],_,x,hx=>by cases hx
 | y :: l,h,x,hx=>by
  simp only[smBs,Bool.and_eq_true] at h
  rcases List.mem_cons.1 hx with rfl|hx
  ·exact h.1
  ·exact uC0 h.2 x hx
theorem zC1 (k a b:Int) (e:List Ra) (l:List Rb) (i d:Nat) (hi:i<2) (hd:d≤6) (hll:l.length<1000000000000000) (ih:∀ x∈l,d<6→jG (pp G) H0 69 [rbV x,.int .i64 ((d+1:Nat):Int)] (prV (mkP x (d+1)))) :
  jG (pp G) H0 81 [rbV (.mk k a b e l),.int .i64 i,.int .i64 d] (prV (dU0 l i d)):=by
 have he:dU0 l i d=(if d<6 then (match l[i]? with|some x=>mkP x (d+1)|none=>qZ) else qZ):=by
  rw[dU0,oN0,List.getD_eq_getElem?_getD,List.getElem?_map]
  cases l[i]?<;>rfl
 rw[he]
 have hskip:∀ σ,FzV (pp G).P 1 σ (.agg ⟨[.int .i64 0,.string (Tx []),.string (Tx []),.int .i64 0,.int .i64 0,.string (Tx []),.slice none 0 0,.slice none 0 0]⟩) (prV qZ):=fun σ=>
  .agg (.cons (.id rfl) (.cons (.id rfl) (.cons (.id rfl) (.cons (.id rfl) (.cons (.id rfl) (.cons (.id rfl) (.cons (wT0 G _ _) (.cons (oM0 G _ _) .nil))))))))
 have hlo:H0.lo≤H0.next:=Nat.le_refl _;refine jG.cut (jD.fir4 (q:=qq) (jJ G) fir81 (by kernel_rfl) rfl rfl (cP1 ..) (show NGG≤H0.lo by rw[jW];decide) ?_);rw[rF1]
 by_cases h:(i:Int)<l.length
 ·obtain ⟨x,hx⟩:=jM (l:=l) (i:=i) (by omega)
  have hp:=jL0 hx
  have hle:i*5+5≤l.length*5:=by omega
  rw[hx]
  by_cases hd6:d<6
  ·rw[if_pos hd6]
   have hd6':(d:Int)<6:=by omega
   have e1:IntKind.i64.wrap ((d:Int)+1)=((d+1:Nat):Int):=by rw[wrap_i64 (by omega) (by omega)];omega
   simp(disch:=first|omega|(apply id;simp only[push_cast];try omega))only[push_cast,simprocAttr,h,hd6',hp,hle,Int.toNat_natCast,e1]
   refine jB.dataI (ih x (List.mem_of_getElem? hx) hd6) (by and_intros<;>first|rfl|(simp(disch:=first|omega|(apply id;simp only[push_cast];try omega))only[push_cast])) ?_
   simp(disch:=first|omega|(apply id;simp only[push_cast];try omega))only[push_cast,simprocAttr]
   exact .id (zA1 _ H0q _)
  ·rw[if_neg hd6]
   have hd6':¬ (d:Int)<6:=by omega
   simp(disch:=first|omega|(apply id;simp only[push_cast];try omega))only[push_cast,simprocAttr,h,hd6']
   exact hskip _
 ·have hx:l[i]?=none:=List.getElem?_eq_none (by omega)
  rw[hx]
  have e:(if d<6 then qZ else qZ)=qZ:=by split<;>rfl
  rw[e]
  simp(disch:=first|omega|(apply id;simp only[push_cast];try omega))only[push_cast,simprocAttr,h]
  exact hskip _
theorem rowP1 (x:Pr) (σ:jA):bsD (qq.m 75) (slT Try.prog 75) 1 [(0,prV x)] σ=some (Rw true 77 1 (prCs [x]),σ):=by
 rw[zU2];cases x;kernel_rfl
theorem rowP2 (x y:Pr) (σ:jA):bsD (qq.m 75) (slT Try.prog 75) 2 [(0,prV x),(1,prV y)] σ=some (Rw true 77 2 (prCs [x,y]),σ):=by
 cases x;cases y;kernel_rfl
theorem dF1 {i:Int} (h:0≤i∧i<3):(nss qW)[i.toNat]?=some (.string (Tx (qW.getD i.toNat []))):=jU0 (by show _<3;omega)
theorem iJ1 {i:Int} (h:0≤i∧i<3):(nss nC0)[i.toNat]?=some (.string (Tx (nC0.getD i.toNat []))):=jU0 (by show _<3;omega)
theorem bQ0 {i:Int} (h:0≤i∧i<2):(nss jU)[i.toNat]?=some (.string (Tx (jU.getD i.toNat []))):=jU0 (by show _<2;omega)
theorem iC1 {i:Int} (h:0≤i∧i<5):(nss kF)[i.toNat]?=some (.string (Tx (kF.getD i.toNat []))):=jU0 (by show _<5;omega)
def mkW (w : Int) (b : Int) (e : List Ra) (v s df : List UInt8) (pa pb : Pr) : Pr :=
  if w=0∨w=1 then .mk 1 (nC0.getD (jP b 3).toNat []) [] zE []
  else if w=2∨w=3 then .mk 1 (nC0.getD (jP b 3).toNat []) v zE []
  else if w=4 then .mk 2 [] v (wZ0 qW e) []
  else if w=5∨w=6 then .mk 3 s [] zE [pa]
  else if w=7 then .mk 4 s [] zE []
  else if w=8 then .mk 5 s [] zE []
  else if w=9 then .mk 6 s (jU.getD (jP b 2).toNat []) zE []
  else if w=10 then .mk 7 [] [] zE [pa]
  else if w=11 then .mk 8 [] [] zE []
  else if w=12 then .mk 9 [] [] (wZ0 qW e) [pa,pb]
  else if w=13 then .mk 10 [] [] zE [pa,pb]
  else if w=14∨w=15 then .mk 11 [] [] zE [pa,pb]
  else if w=16 then .mk 13 df [] zE []
  else if w=17 then qZ
  else .mk 12 [] [] zE [pa,pb]
theorem mkP_w (k a b:Int) (e:List Ra) (l:List Rb) (d:Nat):mkP (.mk k a b e l) d=mkW (jP k 20) b e (qW.getD (jP a 3).toNat []) (jU.getD (jP a 2).toNat []) (kF.getD (jP a 5).toNat []) (dU0 l 0 d) (dU0 l 1 d):=by
 rw[mkP];rfl
end
end Go.Proofs.Ytgeakofgklcipaa
namespace Go.Proofs.Ytgeakofgklcipaa
open Go Go.RowKit Go.Ev Go.Dv
noncomputable section
set_option maxRecDepth 100000
variable (G:Nat×Nat)
set_option maxHeartbeats 8000000 in
theorem kK2 (k a b:Int) (e:List Ra) (l:List Rb) (v s df:List UInt8) (pa pb:Pr) (w:Int) (hw:0≤w∧w<20) (c:Bool) (hc:c=decide (w=0∨w=1)) (hse:smRs e=true) (hel:e.length<1000000000000000) (h:jA) (ha hb:Nat)
  (c1:cells h 1=some (rbC (.mk k a b e l),38,false)) (c2:cells h 2=some ([.int .i64 0,.string (Tx []),.string (Tx []),.int .i64 0,.int .i64 0,.string (Tx []),.slice none 0 0,.slice none 0 0],77,false))
  (c3:cells h ha=some (prC pa,77,false)) (c4:cells h hb=some (prC pb,77,false)) (hl1:h.lo=1) (hl2:3≤h.next) (hla:1≤ha∧1≤hb) {x0 x1 x3 xA xB xC xD xE xF xG xH xI xJ xK xL xM xN xO xP xQ xR xS xT xU xV xW xX xY xZ yB yC yD yE yF yG yH yI yJ yK yL yM yN yO yP yQ yR yS yT yU yV yW yX yY yZ zA zB zC zD zF zG zH zI zJ zK zL zM zN zO zP zQ zR zS zT zU zV zW zX zY zZ wA wB wC wD wE wF wG wH wI wJ wK wL wM wN wO wP wQ wR wS wT wU wV wW wX wY wZ uA uB uC uD uE uF uG uH uI uJ uK uL uM uN uO uP uQ uR uS:Value} :
  dc3 (pp G) qq none qG ⟨(qQ x0 x1 (.pointer (some ⟨1,0,none⟩)) x3 (.pointer (some ⟨2,0,none⟩)) (.string (Tx v)) (.string (Tx s)) (.string (Tx df)) (.pointer (some ⟨ha,0,none⟩)) (.pointer (some ⟨hb,0,none⟩)) xA xB xC xD xE xF xG xH xI xJ xK xL xM xN xO xP xQ xR xS xT xU xV xW xX xY xZ (.int .i64 w) (.bool c) yB yC yD yE yF yG yH yI yJ yK yL yM yN yO yP yQ yR yS yT yU yV yW yX yY yZ zA zB zC zD zF zG zH zI zJ zK zL zM zN zO zP zQ zR zS zT zU zV zW zX zY zZ wA wB wC wD wE wF wG wH wI wJ wK wL wM wN wO wP wQ wR wS wT wU wV wW wX wY wZ uA uB uC uD uE uF uG uH uI uJ uK uL uM uN uO uP uQ uR uS),[],h⟩
   (@kR ⟨jK 0 (jF (fun s1=>dc3 (pp G) qq none qF s1 (@kR ⟨jE Try.prog [.cell 4 77] (fun v' σ'=>FzV Try.prog 1 σ' v' (prV (mkW w b e v s df pa pb)))⟩)) (jE Try.prog [.cell 4 77] (fun v' σ'=>FzV Try.prog 1 σ' v' (prV (mkW w b e v s df pa pb)))))⟩):=by
 have hws:w=0∨w=1∨w=2∨w=3∨w=4∨w=5∨w=6∨w=7∨w=8∨w=9∨w=10∨w=11∨w=12∨w=13∨w=14∨w=15∨w=16∨w=17∨w=18∨w=19:=by omega
 have hone:=kA2 G qW (by decide) e hse hel
 have hb3:=qM (a:=b) (n:=3) (by omega)
 have hb2:=qM (a:=b) (n:=2) (by omega)
 have ga:=iJ1 hb3
 have gs:=bQ0 hb2
 have hnA:(nss nC0).length=3:=rfl
 have hnS:(nss jU).length=2:=rfl
 obtain ⟨x,hxe⟩:∃ x,x=wZ0 qW e:=⟨_,rfl⟩
 rcases hws with rfl|rfl|rfl|rfl|rfl|rfl|rfl|rfl|rfl|rfl|rfl|rfl|rfl|rfl|rfl|rfl|rfl|rfl|rfl|rfl
 all_goals
  first|(obtain rfl:c=true:=hc)|(obtain rfl:c=false:=hc)
  unfold mkW
  rw[← hxe] at hone ⊢
  rw[sI0]
  repeat' (first
   | (with_reducible (refine And.intro ?_ ?_))
   | (refine jB.dataI (jB0 G b 3 (by omega) (by omega)) (by and_intros<;>first | rfl | (simp(disch:=first|omega|(apply id;simp only[push_cast];try omega))only[push_cast])) ?_)
   | (refine jB.dataI (jB0 G b 2 (by omega) (by omega)) (by and_intros<;>first | rfl | (simp(disch:=first|omega|(apply id;simp only[push_cast];try omega))only[push_cast])) ?_)
   | (refine jB.dataI (dE0 G) (by and_intros<;>first | rfl | (simp(disch:=first|omega|(apply id;simp only[push_cast];try omega))only[push_cast])) ?_)
   | (refine jB.dataI (qV1 G) (by and_intros<;>first | rfl | (simp(disch:=first|omega|(apply id;simp only[push_cast];try omega))only[push_cast])) ?_)
   | (refine jB.dataI (hone) (by and_intros<;>first | rfl | (simp(disch:=first|omega|(apply id;simp only[push_cast];try omega))only[push_cast])) ?_)
   | rw[sG0]
   | rw[sF0]
   | rw[sE0]
   | rw[sH0]
   | simp(disch:=first|omega|(apply id;simp only[push_cast];try omega))only[push_cast,simprocAttr,c1,c2,c3,c4,hl1,↓litA,↓lit2,↓lit3,ga,gs,hnA,hnS,gU1,↓rowP1,↓rowP2,true_or,or_true,or_self,Int.reduceEq,show nsV jU=Rw false eS 2 (nss jU) from rfl])
  all_goals (refine .agg ?_;repeat' (first|exact FzL.nil|apply FzL.cons|exact FzV.id rfl|exact wT0 G _ _|exact oM0 G _ _|exact FzV.row (FzL.ids (dS0 _ (by decide) _))|exact FzV.id (cS0 _ (by decide) ..)))
set_option maxHeartbeats 2000000 in
theorem zL1:∀ (x:Rb) (d:Nat),d≤6→smB x=true→jG (pp G) H0 69 [rbV x,.int .i64 d] (prV (mkP x d))
 | .mk k a b e l,d,hd,hs=>by
  simp only[smB,Bool.and_eq_true,decide_eq_true_eq] at hs
  obtain ⟨hll,hel,hse,hsl⟩:=hs
  have ih:∀ x∈l,d<6→jG (pp G) H0 69 [rbV x,.int .i64 ((d+1:Nat):Int)] (prV (mkP x (d+1))):=fun x hx hd'=>zL1 x (d+1) (by omega) (uC0 hsl x hx)
  have p0:jG (pp G) H0 81 [rbV (.mk k a b e l),.int .i64 0,.int .i64 d] (prV (dU0 l 0 d)):=zC1 G k a b e l 0 d (by omega) hd hll ih
  have p1:jG (pp G) H0 81 [rbV (.mk k a b e l),.int .i64 1,.int .i64 d] (prV (dU0 l 1 d)):=zC1 G k a b e l 1 d (by omega) hd hll ih
  rw[mkP_w]
  have ha3:=qM (a:=a) (n:=3) (by omega)
  have ha2:=qM (a:=a) (n:=2) (by omega)
  have ha5:=qM (a:=a) (n:=5) (by omega)
  have g3:=dF1 ha3
  have g2:=bQ0 ha2
  have g5:=iC1 ha5
  have hwk:=qM (a:=k) (n:=20) (by omega)
  have hn3:nsV qW=Rw false eS 3 (nss qW):=rfl
  have hn2:nsV jU=Rw false eS 2 (nss jU):=rfl
  have hn5:nsV kF=Rw false eS 5 (nss kF):=rfl
  have l3:(nss qW).length=3:=rfl
  have l2:(nss jU).length=2:=rfl
  have l5:(nss kF).length=5:=rfl
  have key:=fun h ha hb c hc=>@kK2 G k a b e l (qW.getD (jP a 3).toNat []) (jU.getD (jP a 2).toNat []) (kF.getD (jP a 5).toNat []) (dU0 l 0 d) (dU0 l 1 d) (jP k 20) hwk c hc hse hel h ha hb
  have hwc:=jB0 G k 20 (by omega) (by omega)
  generalize jP k 20=w at hwk key hwc ⊢
  have hlo:H0.lo≤H0.next:=Nat.le_refl _;refine jG.cut (jD.fir4 (q:=qq) (jJ G) fir69 (by kernel_rfl) rfl rfl (mX1 ..) (show NGG≤H0.lo by rw[jW];decide) ?_);rw[rK1]
  simp(disch:=first|omega|(apply id;simp only[push_cast];try omega))only[push_cast,simprocAttr]
  refine jB.dataI (qV1 G) (by and_intros<;>first|rfl|(simp(disch:=first|omega|(apply id;simp only[push_cast];try omega))only[push_cast])) ?_
  simp(disch:=first|omega|(apply id;simp only[push_cast];try omega))only[push_cast,simprocAttr]
  refine jB.dataI (jB0 G a 3 (by omega) (by omega)) (by and_intros<;>first|rfl|(simp(disch:=first|omega|(apply id;simp only[push_cast];try omega))only[push_cast])) ?_
  simp(disch:=first|omega|(apply id;simp only[push_cast];try omega))only[push_cast,simprocAttr,hn3,g3,l3]
  refine jB.dataI (dE0 G) (by and_intros<;>first|rfl|(simp(disch:=first|omega|(apply id;simp only[push_cast];try omega))only[push_cast])) ?_
  simp(disch:=first|omega|(apply id;simp only[push_cast];try omega))only[push_cast,simprocAttr]
  refine jB.dataI (jB0 G a 2 (by omega) (by omega)) (by and_intros<;>first|rfl|(simp(disch:=first|omega|(apply id;simp only[push_cast];try omega))only[push_cast])) ?_
  simp(disch:=first|omega|(apply id;simp only[push_cast];try omega))only[push_cast,simprocAttr,hn2,g2,l2]
  refine jB.dataI (bE1 G) (by and_intros<;>first|rfl|(simp(disch:=first|omega|(apply id;simp only[push_cast];try omega))only[push_cast])) ?_
  simp(disch:=first|omega|(apply id;simp only[push_cast];try omega))only[push_cast,simprocAttr]
  refine jB.dataI (jB0 G a 5 (by omega) (by omega)) (by and_intros<;>first|rfl|(simp(disch:=first|omega|(apply id;simp only[push_cast];try omega))only[push_cast])) ?_
  simp(disch:=first|omega|(apply id;simp only[push_cast];try omega))only[push_cast,simprocAttr,hn5,g5,l5]
  repeat' (first
   | (with_reducible (refine And.intro ?_ ?_))
   | (refine jB.dataI (p0) (by and_intros<;>first | rfl | (simp(disch:=first|omega|(apply id;simp only[push_cast];try omega))only[push_cast])) ?_)
   | (refine jB.dataI (p1) (by and_intros<;>first | rfl | (simp(disch:=first|omega|(apply id;simp only[push_cast];try omega))only[push_cast])) ?_)
   | simp(disch:=first|omega|(apply id;simp only[push_cast];try omega))only[push_cast,simprocAttr])
  all_goals (
   (refine jB.dataI (hwc) (by and_intros<;>first|rfl|(simp(disch:=first|omega|(apply id;simp only[push_cast];try omega))only[push_cast])) ?_)
   by_cases h0:w=0
   ·subst h0
    simp(disch:=first|omega|(apply id;simp only[push_cast];try omega))only[push_cast,simprocAttr]
    refine key _ _ _ true rfl ?_ ?_ ?_ ?_ ?_ ?_ ?_
    iterate 6 exact (by first|assumption|(simp(disch:=first|omega|(apply id;simp only[push_cast];try omega))only[push_cast,simprocAttr];try omega))
    ·decide
   ·simp(disch:=first|omega|(apply id;simp only[push_cast];try omega))only[push_cast,simprocAttr,h0]
    refine key _ _ _ (decide (w=1)) (by simp[h0]) ?_ ?_ ?_ ?_ ?_ ?_ ?_
    iterate 6 exact (by first|assumption|(simp(disch:=first|omega|(apply id;simp only[push_cast];try omega))only[push_cast,simprocAttr];try omega))
    ·decide)
end
end Go.Proofs.Ytgeakofgklcipaa
namespace Go.Proofs.Ytgeakofgklcipaa
open Go Go.RowKit Go.Ev Go.Dv
noncomputable section
set_option maxRecDepth 100000
variable (G:Nat×Nat)
mutual
def szB:Rb→Nat→Int
 | .mk _ _ _ e l,d=>if 8<d then 1000 else if bI0 e 0≤20 then szBs l d 1 else 1000
def szBs:List Rb→Nat→Int→Int
 | [],_,n=>n
 | x :: l,d,n=>if n≤40 then szBs l d (W (n+szB x (d+1))) else n
end
inductive I60 (x:Rb) (l:List Rb) (d:Nat) (r:Int):Nat→S→Prop
 | mk (i:Nat) (iv n:Int) (h:jA) {x0 x3 x4 x7 x8 x9 xA xB xC xD xE xF xG xH xI xJ xK xL xM xN xO xP xQ xR xS xT xU xV xW xX xY xZ yA:Value} (hiv:iv=(i:Int)) (hi:i≤l.length) (hr:szBs (l.drop i) d n=r) (c1:cells h 1=some (rbC x,38,false)) (hl1:h.lo=1) (hl2:2≤h.next) :
  I60 x l d r (l.length-i) ⟨(F37 x0 (.int .i64 d) (.pointer (some ⟨1,0,none⟩)) x3 x4 (.int .i64 n) (.int .i64 iv) x7 x8 x9 xA xB xC xD xE xF xG xH xI xJ xK xL xM xN xO xP xQ xR xS xT xU xV xW xX xY xZ yA),[],h⟩
theorem uW1:∀ (x:Rb) (d:Nat),d≤9→smB x=true→jG (pp G) H0 60 [rbV x,.int .i64 d] (.int .i64 (szB x d))
 | .mk k a b e l,d,hd,hs=>by
  simp only[smB,Bool.and_eq_true,decide_eq_true_eq] at hs
  obtain ⟨hll,hel,hse,hsl⟩:=hs
  have ih:∀ x∈l,d≤8→jG (pp G) H0 60 [rbV x,.int .i64 ((d+1:Nat):Int)] (.int .i64 (szB x (d+1))):=fun x hx hd'=>uW1 x (d+1) (by omega) (uC0 hsl x hx)
  have hf:=few_f G e hel hse
  have hlo:H0.lo≤H0.next:=Nat.le_refl _;refine jG.cut (jD.fir4 (q:=qq) (jJ G) fir60 (by kernel_rfl) rfl rfl (uQ2 ..) (show NGG≤H0.lo by rw[jW];decide) ?_);rw[rP1]
  rw[szB]
  by_cases h8:8<d
  ·rw[if_pos h8]
   have h8':(8:Int)<d:=by omega
   simp(disch:=first|omega|(apply id;simp only[push_cast];try omega))only[push_cast,simprocAttr,h8']
   exact .id rfl
  rw[if_neg h8]
  have h8':¬ (8:Int)<d:=by omega
  simp(disch:=first|omega|(apply id;simp only[push_cast];try omega))only[push_cast,simprocAttr,h8']
  refine jB.dataI (hf) (by and_intros<;>first|rfl|(simp(disch:=first|omega|(apply id;simp only[push_cast];try omega))only[push_cast])) ?_
  by_cases h20:bI0 e 0≤20
  rotate_left
  ·rw[if_neg h20]
   simp(disch:=first|omega|(apply id;simp only[push_cast];try omega))only[push_cast,simprocAttr,h20]
   exact .id rfl
  rw[if_pos h20]
  simp(disch:=first|omega|(apply id;simp only[push_cast];try omega))only[push_cast,simprocAttr,h20]
  obtain ⟨r,hr⟩:∃ r,r=szBs l d 1:=⟨_,rfl⟩
  rw[← hr]
  refine WD.loop4 (q:=qq) (jJ G) (by kernel_rfl) (I60 (.mk k a b e l) l d r) ?_ _ _ (I60.mk 0 0 1 _ rfl (Nat.zero_le _) hr.symm (by first|assumption|(simp(disch:=first|omega|(apply id;simp only[push_cast];try omega))only[push_cast,simprocAttr];try omega)) rfl (by first|assumption|(simp(disch:=first|omega|(apply id;simp only[push_cast];try omega))only[push_cast,simprocAttr];try omega)))
  clear hr
  intro m s1 hI
  cases hI with|mk i iv n h hiv hi hr c1 hl1 hl2=>
  subst hiv
  rw[sJ0]
  by_cases hil:(i:Int)<l.length
  ·obtain ⟨x,hx⟩:=jM (l:=l) (i:=i) (by omega)
   have hdr:l.drop i=x :: l.drop (i+1):=by rw[List.drop_eq_getElem_cons (by omega)];congr 1;exact (List.getElem?_eq_some_iff.1 hx).2
   rw[hdr,szBs] at hr
   by_cases hn:n≤40
   ·rw[if_pos hn] at hr
    have hp:=jL0 hx
    have hle:i*5+5≤l.length*5:=by omega
    have e2:IntKind.i64.wrap ((d:Int)+1)=((d+1:Nat):Int):=by rw[wrap_i64 (by omega) (by omega)];omega
    simp(disch:=first|omega|(apply id;simp only[push_cast];try omega))only[push_cast,simprocAttr,hil,hn,c1,hl1,hp,hle,e2,Int.toNat_natCast]
    refine jB.dataI (ih x (List.mem_of_getElem? hx) (by omega)) (by and_intros<;>first|rfl|(simp(disch:=first|omega|(apply id;simp only[push_cast];try omega))only[push_cast])) ?_
    simp(disch:=first|omega|(apply id;simp only[push_cast];try omega))only[push_cast,simprocAttr]
    exact ⟨_,by omega,I60.mk (i+1) _ _ _ (by first|rfl|omega) (by omega) hr (by first|assumption|(simp(disch:=first|omega|(apply id;simp only[push_cast];try omega))only[push_cast,simprocAttr,c1];try omega)) (by first|assumption|(simp(disch:=first|omega|(apply id;simp only[push_cast];try omega))only[push_cast,simprocAttr,hl1];try omega)) (by first|assumption|(simp(disch:=first|omega|(apply id;simp only[push_cast];try omega))only[push_cast,simprocAttr];try omega))⟩
   ·rw[if_neg hn] at hr
    subst hr
    simp(disch:=first|omega|(apply id;simp only[push_cast];try omega))only[push_cast,simprocAttr,hil,hn,c1,hl1]
    rw[bZ0]
    simp(disch:=first|omega|(apply id;simp only[push_cast];try omega))only[push_cast,simprocAttr]
    exact .id rfl
  ·have hie:i=l.length:=by omega
   subst hie
   rw[List.drop_length,szBs] at hr
   subst hr
   simp(disch:=first|omega|(apply id;simp only[push_cast];try omega))only[push_cast,simprocAttr,hil,c1,hl1]
   rw[bZ0]
   simp(disch:=first|omega|(apply id;simp only[push_cast];try omega))only[push_cast,simprocAttr]
   exact .id rfl
 termination_by x=>SizeOf.sizeOf x
 decreasing_by
  have:=List.sizeOf_lt_of_mem hx
  simp at this ⊢
  omega
def shV (v s:Int) (l:List Rb):Value:=.agg ⟨[.int .i64 v,.int .i64 s,Rw false erb l.length (rbCs l)]⟩
def sumB:List Rb→Int→Int
 | [],n=>n
 | x :: l,n=>sumB l (W (n+szB x 0))
def fewB (l:List Rb):Bool:=decide (l.length≤5)&&decide (sumB l 0≤40)
inductive I37 (v s:Int) (l:List Rb) (r:Int):Nat→S→Prop
 | mk (i:Nat) (iv n:Int) (h:jA) {x0 x2 x5 x6 x7 x8 x9 xA xB xC xD xE xF xG xH xI xJ xK xL xM xN xO xP xQ xR:Value} (hiv:iv=(i:Int)) (hi:i≤l.length) (hr:sumB (l.drop i) n=r) (c1:cells h 1=some ([.int .i64 v,.int .i64 s,Rw false erb l.length (rbCs l)],53,false)) (hl1:h.lo=1) (hl2:2≤h.next) :
  I37 v s l r (l.length-i) ⟨(F28 x0 (.pointer (some ⟨1,0,none⟩)) x2 (.int .i64 n) (.int .i64 iv) x5 x6 x7 x8 x9 xA xB xC xD xE xF xG xH xI xJ xK xL xM xN xO xP xQ xR),[],h⟩
theorem yU2 (v s:Int) (l:List Rb) (hll:l.length<1000000000000000) (hsl:smBs l=true):jG (pp G) H0 37 [shV v s l] (.bool (fewB l)):=by
 have hlo:H0.lo≤H0.next:=Nat.le_refl _;refine jG.cut (jD.fir4 (q:=qq) (jJ G) fir37 (by kernel_rfl) rfl rfl (uS2 ..) (show NGG≤H0.lo by rw[jW];decide) ?_);rw[rY1]
 unfold shV
 simp(disch:=first|omega|(apply id;simp only[push_cast];try omega))only[push_cast,simprocAttr]
 refine WD.loop4 (q:=qq) (jJ G) (by kernel_rfl) (I37 v s l (sumB l 0)) ?_ _ _ (I37.mk 0 0 0 _ rfl (Nat.zero_le _) rfl (by first|assumption|(simp(disch:=first|omega|(apply id;simp only[push_cast];try omega))only[push_cast,simprocAttr];try omega)) rfl (by first|assumption|(simp(disch:=first|omega|(apply id;simp only[push_cast];try omega))only[push_cast,simprocAttr];try omega)))
 intro m s1 hI
 cases hI with|mk i iv n h hiv hi hr c1 hl1 hl2=>
 subst hiv
 rw[sW0]
 by_cases hil:(i:Int)<l.length
 ·obtain ⟨x,hx⟩:=jM (l:=l) (i:=i) (by omega)
  have hdr:l.drop i=x :: l.drop (i+1):=by rw[List.drop_eq_getElem_cons (by omega)];congr 1;exact (List.getElem?_eq_some_iff.1 hx).2
  rw[hdr,sumB] at hr
  have hp:=jL0 hx
  have hle:i*5+5≤l.length*5:=by omega
  simp(disch:=first|omega|(apply id;simp only[push_cast];try omega))only[push_cast,simprocAttr,hil,c1,hl1,hp,hle,Int.toNat_natCast]
  refine jB.dataI (uW1 G x 0 (by omega) (uC0 hsl x (List.mem_of_getElem? hx))) (by and_intros<;>first|rfl|(simp(disch:=first|omega|(apply id;simp only[push_cast];try omega))only[push_cast])) ?_
  simp(disch:=first|omega|(apply id;simp only[push_cast];try omega))only[push_cast,simprocAttr]
  exact ⟨_,by omega,I37.mk (i+1) _ _ _ (by first|rfl|omega) (by omega) hr (by first|assumption|(simp(disch:=first|omega|(apply id;simp only[push_cast];try omega))only[push_cast,simprocAttr,c1];try omega)) (by first|assumption|(simp(disch:=first|omega|(apply id;simp only[push_cast];try omega))only[push_cast,simprocAttr,hl1];try omega)) (by first|assumption|(simp(disch:=first|omega|(apply id;simp only[push_cast];try omega))only[push_cast,simprocAttr];try omega))⟩
 ·have hie:i=l.length:=by omega
  subst hie
  rw[List.drop_length,sumB] at hr
  unfold fewB
  rw[← hr]
  simp(disch:=first|omega|(apply id;simp only[push_cast];try omega))only[push_cast,simprocAttr,hil,c1,hl1]
  rw[sV0]
  by_cases h5:l.length≤5
  ·have h5':(l.length:Int)≤5:=by omega
   rw[decide_eq_true h5]
   simp(disch:=first|omega|(apply id;simp only[push_cast];try omega))only[push_cast,simprocAttr,c1,hl1,h5',Bool.true_and]
   exact .id rfl
  ·have h5':¬ (l.length:Int)≤5:=by omega
   rw[decide_eq_false h5]
   simp(disch:=first|omega|(apply id;simp only[push_cast];try omega))only[push_cast,simprocAttr,c1,hl1,h5',Bool.false_and]
   exact .id rfl
abbrev eVr:Nat:=99
abbrev eDf:Nat:=79
def vrs (l:List (List UInt8×Int)):List Value:=l.flatMap fun x=>[Value.string (Tx x.1),.int .i64 x.2]
def dfs (l:List (List UInt8×Pr)):List Value:=l.flatMap fun x=>Value.string (Tx x.1) :: prC x.2
theorem cZ0 (l:List (List UInt8×Int)):(vrs l).length=l.length*2:=by
 induction l with
 | nil=>rfl
 | cons x l ih=>rw[vrs,List.flatMap_cons,List.length_append,← vrs,ih,List.length_cons];simp;omega
theorem eU0 (l:List (List UInt8×Pr)):(dfs l).length=l.length*9:=by
 induction l with
 | nil=>rfl
 | cons x l ih=>rw[dfs,List.flatMap_cons,List.length_append,← dfs,ih,List.length_cons];simp[gD];omega
theorem oV1 (a b:List (List UInt8×Int)):vrs (a++b)=vrs a++vrs b:=by simp[vrs]
theorem bC1 (a b:List (List UInt8×Pr)):dfs (a++b)=dfs a++dfs b:=by simp[dfs]
theorem nD1 (n:Nat) (l:List (List UInt8×Int)):scL n (vrs l)=true:=by
 induction l with
 | nil=>rfl
 | cons x l ih=>rw[vrs,List.flatMap_cons,← vrs];exact jT fun v hv=>(List.mem_append.1 hv).elim (fun h=>jV (l:=[Value.string (Tx x.1),.int .i64 x.2]) rfl v h) (jV ih v)
theorem gB2 (n:Nat) (hn:0<n) (l:List (List UInt8×Pr)):scL n (dfs l)=true:=by
 induction l with
 | nil=>rfl
 | cons x l ih=>rw[dfs,List.flatMap_cons,← dfs];exact jT fun v hv=>(List.mem_append.1 hv).elim (fun h=>jV (l:=Value.string (Tx x.1) :: prC x.2) (by rw[scL,fU0 n hn];rfl) v h) (jV ih v)
structure Pg where
 v:List (List UInt8×Int)
 s:List (List UInt8)
 d:List (List UInt8×Pr)
def pgC (p:Pg):List Value:=[Rw false eVr p.v.length (vrs p.v),Rw false eS p.s.length (nss p.s),Rw false eDf p.d.length (dfs p.d)]
def pgV (p:Pg):Value:=.agg ⟨pgC p⟩
theorem zW2 (n:Nat) (hn:0<n) (p:Pg):Ev.sc n (pgV p)=true:=by
 simp[pgV,pgC,Ev.sc,scL,Rw,hn,nD1,gB2 n hn,wS0]
def valF (v:Int) (i:Nat):Int:=IntKind.i64.wrap (jP (IntKind.i64.wrap (v.tdiv ((i:Int)+1))) 9-4)
def varL (v:Int):List (List UInt8×Int):=(List.range 3).map fun i=>(qW.getD i [],valF v i)
def tX0 (l:List Rb) (i:Nat):Option Pr:=l[i]?.map fun x=>mkP x 0
def defL (l:List Rb):List (List UInt8×Pr):=(List.range 5).map fun i=>(kF.getD i [],(tX0 l i).getD qZ)
theorem dG1 (v:Int) {i:Nat} (h:i<3):(varL v)[i]?=some (qW.getD i [],valF v i):=by
 rw[varL,List.getElem?_map,List.getElem?_range h];rfl
theorem pA0 (l:List Rb) {i:Nat} (h:i<5):(defL l)[i]?=some (kF.getD i [],(tX0 l i).getD qZ):=by
 rw[defL,List.getElem?_map,List.getElem?_range h];rfl
theorem rowV1 (s:List UInt8) (v:Int) (σ:jA):bsD (qq.m 69) (slT Try.prog 69) 1 [(0,.agg ⟨[.string (Tx s),.int .i64 v]⟩)] σ=some (Rw true eVr 1 (vrs [(s,v)]),σ):=by kernel_rfl
def dfC (s:List UInt8) (o:Option Pr):List Value:=.string (Tx s) :: (match o with|some p=>prC p|none=>[.int .i64 0,.string (Tx []),.string (Tx []),.int .i64 0,.int .i64 0,.string (Tx []),.slice none 0 0,.slice none 0 0])
theorem rowD1 (s:List UInt8) (p:Pr) (σ:jA):bsD (qq.m 71) (slT Try.prog 71) 1 [(0,.agg ⟨.string (Tx s) :: prC p⟩)] σ=some (Rw true eDf 1 (.string (Tx s) :: prC p),σ):=by
 cases p;kernel_rfl
theorem rowD0 (s:List UInt8) (σ:jA):bsD (qq.m 71) (slT Try.prog 71) 1 [(0,.agg ⟨[.string (Tx s),.int .i64 0,.string (Tx []),.string (Tx []),.int .i64 0,.int .i64 0,.string (Tx []),.slice none 0 0,.slice none 0 0]⟩)] σ=some (Rw true eDf 1 [.string (Tx s),.int .i64 0,.string (Tx []),.string (Tx []),.int .i64 0,.int .i64 0,.string (Tx []),.slice none 0 0,.slice none 0 0],σ):=by kernel_rfl
theorem eW0 (s:List UInt8) (o:Option Pr):(dfC s o).length=9:=by cases o<;>simp[dfC,gD]
theorem bD1 (s:List UInt8) (o:Option Pr):(dfC s o).all one=true:=by
 cases o with
 | none=>rfl
 | some p=>cases p;rfl
theorem oI1 (n:Nat) (hn:0<n) (σ:jA) (s:List UInt8) (o:Option Pr):FzL (pp G).P n σ (dfC s o) (dfs [(s,o.getD qZ)]):=by
 have e:dfs [(s,o.getD qZ)]=.string (Tx s) :: prC (o.getD qZ):=by simp[dfs]
 rw[e]
 refine .cons (.id rfl) ?_
 cases o with
 | some p=>exact .ids (fU0 n hn p)
 | none=>exact .cons (.id rfl) (.cons (.id rfl) (.cons (.id rfl) (.cons (.id rfl) (.cons (.id rfl) (.cons (.id rfl) (.cons (wT0 G _ _) (.cons (oM0 G _ _) .nil)))))))
end
end Go.Proofs.Ytgeakofgklcipaa
