/-
  A part of the proof: what the program's functions hand back,as theorems. No condition but those that each theorem names.
-/
import Derived.Test.YtgeakofgklcipaaTd
import Derived.Test.YtgeakofgklcipaaTe
import Derived.Test.YtgeakofgklcipaaExd
import Derived.Test.YtgeakofgklcipaaEve
set_option linter.unusedSimpArgs false
set_option linter.unusedVariables false
namespace Go.Proofs.Ytgeakofgklcipaa
open Go Go.RowKit Go.Ev Go.Dv
noncomputable section
set_option maxRecDepth 100000
mutual
def okPr (V Sk D:List (List UInt8)):Pr→Bool
 | .mk k n t e l=>decide (0≤k∧k<14∧(l.length:Int)=shL k)&&(decide (k=1→n≠[]∧lT1 n=true∧(t=[]∨t∈V))&&(decide (k=2→t∈V)&&(decide (k=3∨k=4∨k=5∨k=6→n∈Sk)&&(decide (k=6→t∈Sk)&&(decide (k=13→n∈D)&&(decide (k=2∨k=9→gW V.length (lowE V e)=true)&&uA1 V Sk D l))))))
def uA1 (V Sk D:List (List UInt8)):List Pr→Bool
 | []=>true
 | x :: l=>okPr V Sk D x&&uA1 V Sk D l
end
theorem uU0 {l:List (List UInt8)} {s:List UInt8} (h:s∈l):0≤gS l s∧gS l s<l.length:=by
 have h1:=mC0 h
 have h2:=mV1 l s
 omega
theorem nY0 {v:Int}:∀ {e:Ex},gW v e=true→wE0 e=true
 | .mk k n s l,h=>by
  have:k≠0:=by
   rintro rfl
   simp[gW] at h
  simp[wE0,Ex.k,this]
theorem dV0:wE0 (.mk 0 0 [] [])=false:=rfl
theorem W_id {a:Int} (h:-9223372036854775808≤a∧a≤9223372036854775807):W a=a:=by
 unfold W;simp only[IntKind.wrap_i64];omega
mutual
theorem jP0:∀ x:Tm,1≤uY x
 | .mk _ _ _ _ _ l=>by rw[uY];have:=jA0 l;omega
theorem jA0:∀ l:List Tm,0≤uU l
 | []=>by simp[uU]
 | x :: l=>by rw[uU];have:=jP0 x;have:=jA0 l;omega
end
mutual
theorem dW0 (V Sk D:List (List UInt8)) (w:Int):∀ (x:Pr) (push:Bool) (n:Int),okPr V Sk D x=true→0≤n→n+uY (bZ V Sk D x)<4611686018427387904→
  qG V.length Sk.length D.length push (wtF w push (bZ V Sk D x) n).1=true∧n≤(wtF w push (bZ V Sk D x) n).2∧(wtF w push (bZ V Sk D x) n).2≤n+uY (bZ V Sk D x)∧uY (wtF w push (bZ V Sk D x) n).1≤uY (bZ V Sk D x)
 | .mk k m t e l,push,n,hg,hn,hs=>by
  simp only[okPr,Bool.and_eq_true,decide_eq_true_eq] at hg
  obtain ⟨⟨hk0,hk1,hll⟩,h1,h2,h3,h4,h5,h6,hgl⟩:=hg
  rw[bZ] at hs ⊢
  rw[uY] at hs
  have hpos:=jA0 (kV V Sk D l)
  have ih:=fun q=>iO0 V Sk D w l q n hgl hn (by omega)
  by_cases hk:k=1
  ·subst hk
   obtain rfl:l=[]:=by
    cases l with
    | nil=>rfl
    | cons x l=>simp[shL] at hll;omega
   obtain ⟨hm,hnm,ht⟩:=h1 rfl
   have hW:W (n+1)=n+1:=W_id (by omega)
   have hA:lowA V Sk D 1 m t = -1∨0≤lowA V Sk D 1 m t∧lowA V Sk D 1 m t<V.length:=by
    unfold lowA
    rw[if_pos rfl]
    split
    ·exact .inl rfl
    ·rename_i h
     exact .inr (uU0 (ht.resolve_left h))
   have hB:lowB Sk 1 t=0:=by simp[lowB]
   have hN:lowN 1 m=m:=by simp[lowN]
   have hX:lowX V 1 e=.mk 0 0 [] []:=by simp[lowX]
   rw[hB,hN,hX,kV,wtF,if_pos rfl]
   by_cases hc:(!push&&wtB w n)=true
   ·rw[if_pos hc]
    have hp:push=false:=by cases push<;>simp_all
    subst hp
    refine ⟨?_,by show n≤W (n+1);omega,by show W (n+1)≤_;rw[uY,uU];omega,by simp[uY,uU]⟩
    simp[qG,cA,cM0,shA,shB,shN,shE,shL,dV0,hm,hnm,hn]
    omega
   ·rw[if_neg hc]
    refine ⟨?_,by show n≤W (n+1);omega,by show W (n+1)≤_;rw[uY,uU];omega,by simp[wtL]⟩
    simp[wtL,qG,cA,cM0,shA,shB,shN,shE,shL,dV0,hm,hnm]
    omega
  ·rw[wtF,if_neg hk]
   have ih':=ih (push || is3 k)
   have hwl:(wtL w (push || is3 k) (kV V Sk D l) n).1.length=l.length:=by rw[yV0,zK0,List.length_map]
   refine ⟨?_,ih'.2.1,by rw[uY];have:=ih'.2.2.1;show (wtL w (push || is3 k) (kV V Sk D l) n).2≤_;omega,by rw[uY,uY];have:=ih'.2.2.2;omega⟩
   have ihr:=ih'.1
   generalize wtL w (push || is3 k) (kV V Sk D l) n=r at hwl ihr ⊢
   rw[qG]
   have hz:(r.1.length:Int)=shL k:=by rw[hwl];exact hll
   have hN:lowN k m=[]:=by unfold lowN;rw[if_neg hk]
   rw[hN]
   have e14:¬ k=14:=by omega
   have e15:k<15:=by omega
   have i3:is3 k=decide (k=3):=rfl
   rw[i3] at ihr
   rw[ihr,hz]
   have fA:cM0 V.length Sk.length D.length (shA k) (lowA V Sk D k m t)=true:=by
    unfold cM0 shA lowA
    by_cases e2:k=2
    ·have:=uU0 (h2 e2)
     subst e2;simp;omega
    by_cases e3:k=3∨k=4∨k=5∨k=6
    ·have:=uU0 (h3 e3)
     rcases e3 with rfl|rfl|rfl|rfl<;>(simp;omega)
    by_cases e13:k=13
    ·have:=uU0 (h5 e13)
     subst e13;simp;omega
    ·simp only[not_or] at e3
     simp[hk,e2,e3,e13,e14]
   have fB:cM0 V.length Sk.length D.length (shB k) (lowB Sk k t)=true:=by
    unfold cM0 shB lowB
    by_cases e6:k=6
    ·have:=uU0 (h4 e6)
     subst e6;simp;omega
    ·simp[e6,e14]
   have fE:(if wE0 (lowX V k e)=true then (1:Int) else 0)=shE k∧(!wE0 (lowX V k e) || gW V.length (lowX V k e))=true:=by
    unfold lowX shE
    by_cases e2:k=2∨k=9
    ·rw[if_pos e2,if_pos e2]
     have:=h6 e2
     have hgv:=nY0 this
     rw[hgv,this];simp
    ·rw[if_neg e2,if_neg e2]
     simp[dV0]
   rw[fA,fB,fE.2]
   have fN:(0:Int)=shN k:=by unfold shN;rw[if_neg (by omega)]
   simp[fE.1,← fN,hk0,e15,e14]
theorem iO0 (V Sk D:List (List UInt8)) (w:Int):∀ (l:List Pr) (push:Bool) (n:Int),uA1 V Sk D l=true→0≤n→n+uU (kV V Sk D l)<4611686018427387904→
  cA V.length Sk.length D.length push (wtL w push (kV V Sk D l) n).1=true∧n≤(wtL w push (kV V Sk D l) n).2∧(wtL w push (kV V Sk D l) n).2≤n+uU (kV V Sk D l)∧uU (wtL w push (kV V Sk D l) n).1≤uU (kV V Sk D l)
 | [],push,n,hg,hn,hs=>by simp[kV,wtL,cA,uU]
 | x :: l,push,n,hg,hn,hs=>by
  simp only[uA1,Bool.and_eq_true] at hg
  rw[kV,uU] at hs
  have p1:=jP0 (bZ V Sk D x)
  have p2:=jA0 (kV V Sk D l)
  have i1:=dW0 V Sk D w x push n hg.1 hn (by omega)
  have i2:=iO0 V Sk D w l push (wtF w push (bZ V Sk D x) n).2 hg.2 (by omega) (by omega)
  rw[kV,wtL]
  refine ⟨?_,by show n≤(wtL w push (kV V Sk D l) (wtF w push (bZ V Sk D x) n).2).2;omega,by rw[uU];show (wtL w push (kV V Sk D l) (wtF w push (bZ V Sk D x) n).2).2≤_;omega,by rw[uU,uU];omega⟩
  rw[cA,i1.1,i2.1];rfl
end
theorem lQ0 (V:List (List UInt8)) (k n:Int) (s:List UInt8) (l:List Ex) (h:k≠2):lowE V (.mk k n s l)=.mk k n [] (wB0 V l):=by rw[lowE,if_neg h]
theorem dD0 {v n:Int} (hn:0≤n):gW v (.mk 1 n [] [])=true:=by simp[gW,gK0,hn]
theorem dE0 (n:Int) (l:List Ex) (i:Nat) (h:∀ x∈l,gW 3 (lowE jT x)=true):gW 3 (lowE jT (kD0 n l i))=true:=by
 unfold kD0
 rw[List.getD_eq_getElem?_getD]
 cases hx:l[i]? with
 | none=>
  show gW 3 (lowE jT (.mk 1 _ [] []))=true
  rw[lQ0 _ _ _ _ _ (by decide)]
  exact dD0 (qO (by omega)).1
 | some x=>exact h x (List.mem_of_getElem? hx)
mutual
theorem lO0:∀ x:Ra,gW 3 (lowE jT (mkF jT x))=true
 | .mk k n l=>by
  have ih:=lN0 l
  have hw:=qO (a:=k) (n:=24) (by omega)
  have hp:=dE0 n (mkL jT l) 0 ih
  have hq:=dE0 n (mkL jT l) 1 ih
  rw[mkF]
  by_cases h1:jS k 24<4
  ·rw[if_pos h1,lQ0 _ _ _ _ _ (by decide)]
   refine dD0 ?_
   have hn:=qO (a:=n) (n:=8) (by omega)
   obtain ⟨j,hj⟩:∃ j:Nat,jS n 8=j:=⟨(jS n 8).toNat,by omega⟩
   rw[hj,Int.toNat_natCast]
   have hj8:j<8:=by omega
   have:∀ j:Nat,j<8→0≤gB1.getD j 0:=by decide
   exact this j hj8
  rw[if_neg h1]
  by_cases h2:jS k 24<9
  ·rw[if_pos ⟨h2,by decide⟩,lowE,if_pos rfl]
   have hn:=qO (a:=n) (n:=3) (by omega)
   have hm:jT.getD (jS n jT.length).toNat []∈jT:=jK0 (by show _<3;show (jS n 3).toNat<3;omega)
   have hf:=uU0 hm
   have h3:(jT.length:Int)=3:=rfl
   rw[h3] at hf
   simp only[wB0]
   rw[h3]
   generalize gS jT (jT.getD (jS n 3).toNat [])=f at hf ⊢
   simp[gW,gK0,hf]
  rw[if_neg (fun h=>h2 h.1),if_neg h2]
  by_cases h3:jS k 24=9
  ·rw[if_pos h3,lQ0 _ _ _ _ _ (by decide),wB0,wB0]
   simp[gW,gK0,hp]
  rw[if_neg h3]
  by_cases h4:jS k 24=10
  ·rw[if_pos h4,lQ0 _ _ _ _ _ (by decide),wB0,wB0]
   simp[gW,gK0,hp]
  rw[if_neg h4,lQ0 _ _ _ _ _ (by omega),wB0,wB0,wB0]
  have a1:¬ (5+jS k 24-11=1):=by omega
  have a2:¬ (5+jS k 24-11=2):=by omega
  have a3:¬ (5+jS k 24-11=3):=by omega
  have a4:¬ (5+jS k 24-11=4):=by omega
  have a5:5≤5+jS k 24-11:=by omega
  have a6:5+jS k 24-11≤17:=by omega
  simp[gW,gK0,hp,hq,a1,a2,a3,a4,a5,a6]
theorem lN0:∀ (l:List Ra),∀ x∈mkL jT l,gW 3 (lowE jT x)=true
 | [],x,hx=>by simp[mkL] at hx
 | y :: l,x,hx=>by
  rw[mkL] at hx
  rcases List.mem_cons.1 hx with rfl|hx
  ·exact lO0 y
  ·exact lN0 l x hx
end
theorem oT0 (l:List Ra):gW 3 (lowE jT (uC0 jT l))=true:=by
 cases l with
 | nil=>decide
 | cons x l=>exact lO0 x
theorem cO2 {α:Type} (P:α→Prop) {c:Prop} [Decidable c] {a b:α} (h1:P a) (h2:P b):P (if c then a else b):=by
 by_cases h:c
 ·rw[if_pos h];exact h1
 ·rw[if_neg h];exact h2
theorem gP_of {k:Int} {n t:List UInt8} {e:Ex} {l:List Pr} (h0:0≤k∧k<14∧(l.length:Int)=shL k) (h1:k=1→n≠[]∧lT1 n=true∧(t=[]∨t∈jT)) (h2:k=2→t∈jT) (h3:k=3∨k=4∨k=5∨k=6→n∈jO) (h4:k=6→t∈jO) (h5:k=13→n∈qH) (h6:k=2∨k=9→gW 3 (lowE jT e)=true) (h7:∀ x∈l,okPr jT jO qH x=true) :
  okPr jT jO qH (.mk k n t e l)=true:=by
 have h8:uA1 jT jO qH l=true:=by
  clear h0
  induction l with
  | nil=>rfl
  | cons x l ih=>simp only[uA1,Bool.and_eq_true];exact ⟨h7 x (by simp),ih fun y hy=>h7 y (by simp[hy])⟩
 simp only[okPr,Bool.and_eq_true,decide_eq_true_eq,h8,and_true]
 exact ⟨h0,h1,h2,h3,h4,h5,h6⟩
theorem gE0:okPr jT jO qH qB=true:=by decide
theorem eT1:∀ s∈bY0,s≠[]∧lT1 s=true:=by
 intro s hs
 simp only[bY0,List.mem_cons,List.not_mem_nil,or_false] at hs
 rcases hs with rfl|rfl|rfl<;>exact ⟨by decide,by decide⟩
mutual
theorem fB0:∀ (x:Rb) (d:Nat),okPr jT jO qH (mkP x d)=true
 | .mk k a b e l,d=>by
  have ih:=lM0 l (d+1)
  have hpart:∀ i,okPr jT jO qH (if d<6 then (bW l (d+1)).getD i qB else qB)=true:=fun i=>by
   split
   ·rw[List.getD_eq_getElem?_getD]
    cases hx:(bW l (d+1))[i]? with
    | none=>exact gE0
    | some x=>exact ih x (List.mem_of_getElem? hx)
   ·exact gE0
  have hv:jT.getD (jS a 3).toNat []∈jT:=jK0 (by have:=qO (a:=a) (n:=3) (by omega);show _<3;omega)
  have hs:jO.getD (jS a 2).toNat []∈jO:=jK0 (by have:=qO (a:=a) (n:=2) (by omega);show _<2;omega)
  have hs2:jO.getD (jS b 2).toNat []∈jO:=jK0 (by have:=qO (a:=b) (n:=2) (by omega);show _<2;omega)
  have hd:qH.getD (jS a 5).toNat []∈qH:=jK0 (by have:=qO (a:=a) (n:=5) (by omega);show _<5;omega)
  have ha:=eT1 (bY0.getD (jS b 3).toNat []) (jK0 (by have:=qO (a:=b) (n:=3) (by omega);show _<3;omega))
  have he:=oT0 e
  have h1:∀ x∈[if d<6 then (bW l (d+1)).getD 0 qB else qB],okPr jT jO qH x=true:=fun x hx=>by simp only[List.mem_singleton] at hx;subst hx;exact hpart 0
  have h2:∀ x∈[if d<6 then (bW l (d+1)).getD 0 qB else qB,if d<6 then (bW l (d+1)).getD 1 qB else qB],okPr jT jO qH x=true:=fun x hx=>by
   simp only[List.mem_cons,List.not_mem_nil,or_false] at hx
   rcases hx with rfl|rfl
   ·exact hpart 0
   ·exact hpart 1
  rw[mkP]
  generalize (if d<6 then (bW l (d+1)).getD 0 qB else qB)=pa at *
  generalize (if d<6 then (bW l (d+1)).getD 1 qB else qB)=pb at *
  generalize jT.getD (jS a 3).toNat []=v at *
  generalize jO.getD (jS a 2).toNat []=s at *
  generalize jO.getD (jS b 2).toNat []=s2 at *
  generalize qH.getD (jS a 5).toNat []=df at *
  generalize bY0.getD (jS b 3).toNat []=ac at *
  generalize uC0 jT e=ee at *
  repeat' refine cO2 (fun y=>okPr jT jO qH y=true) ?_ ?_
  all_goals first
   | exact gE0
   | exact gP_of (by simp[shL]) (by first | (intro h;exact ⟨ha.1,ha.2,.inl rfl⟩) | (intro h;exact ⟨ha.1,ha.2,.inr hv⟩) | (intro h;omega)) (by first | exact fun _=>hv | (intro h;omega)) (by first | exact fun _=>hs | (intro h;omega)) (by first | exact fun _=>hs2 | (intro h;omega)) (by first | exact fun _=>hd | (intro h;omega)) (by first | exact fun _=>he | (intro h;omega)) (by first | exact h1 | exact h2 | simp)
theorem lM0:∀ (l:List Rb) (d:Nat),∀ x∈bW l d,okPr jT jO qH x=true
 | [],d,x,hx=>by simp[bW] at hx
 | y :: l,d,x,hx=>by
  rw[bW] at hx
  rcases List.mem_cons.1 hx with rfl|hx
  ·exact fB0 y d
  ·exact lM0 l d x hx
end
abbrev szP (x:Pr):Int:=uY (bZ jT jO qH x)
theorem bE2 (k:Int) (n t:List UInt8) (e:Ex):szP (.mk k n t e [])=1:=by simp[szP,bZ,kV,uY,uU]
theorem szP_1 (k:Int) (n t:List UInt8) (e:Ex) (x:Pr):szP (.mk k n t e [x])=1+szP x:=by simp[szP,bZ,kV,uY,uU]
theorem szP_2 (k:Int) (n t:List UInt8) (e:Ex) (x y:Pr):szP (.mk k n t e [x,y])=1+(szP x+szP y):=by simp[szP,bZ,kV,uY,uU]
theorem jR2:szP qB=1:=bE2 ..
def p2:Nat→Int
 | 0=>256
 | 1=>128
 | 2=>64
 | 3=>32
 | 4=>16
 | 5=>8
 | 6=>4
 | _=>2
theorem p2_s {d:Nat} (h:d≤6):p2 d=2*p2 (d+1)∧2≤p2 (d+1):=by
 obtain rfl|rfl|rfl|rfl|rfl|rfl|rfl:d=0∨d=1∨d=2∨d=3∨d=4∨d=5∨d=6:=by omega
 all_goals decide
mutual
theorem fA0:∀ (x:Rb) (d:Nat),d≤6→szP (mkP x d)+1≤p2 d
 | .mk k a b e l,d,hd=>by
  obtain ⟨q1,q2⟩:=p2_s hd
  have hpart:∀ i,szP (if d<6 then (bW l (d+1)).getD i qB else qB)+1≤p2 (d+1):=fun i=>by
   by_cases h6:d<6
   ·rw[if_pos h6,List.getD_eq_getElem?_getD]
    cases hx:(bW l (d+1))[i]? with
    | none=>show szP qB+1≤_;rw[jR2];omega
    | some x=>exact lL0 l (d+1) (by omega) x (List.mem_of_getElem? hx)
   ·rw[if_neg h6,jR2];omega
  have ha:=hpart 0
  have hb:=hpart 1
  rw[mkP]
  generalize (if d<6 then (bW l (d+1)).getD 0 qB else qB)=pa at *
  generalize (if d<6 then (bW l (d+1)).getD 1 qB else qB)=pb at *
  have:=jP0 (bZ jT jO qH pa)
  have:=jP0 (bZ jT jO qH pb)
  repeat' refine cO2 (fun y=>szP y+1≤p2 d) ?_ ?_
  all_goals first
   | (rw[jR2];omega)
   | (rw[bE2];omega)
   | (rw[szP_1];omega)
   | (rw[szP_2];omega)
theorem lL0:∀ (l:List Rb) (d:Nat),d≤6→∀ x∈bW l d,szP x+1≤p2 d
 | [],d,hd,x,hx=>by simp[bW] at hx
 | y :: l,d,hd,x,hx=>by
  rw[bW] at hx
  rcases List.mem_cons.1 hx with rfl|hx
  ·exact fA0 y d hd
  ·exact lL0 l d hd x hx
end
def bB0 (y:Tm):Prop:=smT y=true∧qG 3 2 5 false y=true∧uY y≤255
theorem gK1 {y:Tm} {w:Int} {r:Rb} (hs:smT y=true) (h:y=askT∨y=uB1 w r):bB0 y:=by
 rcases h with rfl|rfl
 ·exact ⟨rfl,by decide,by decide⟩
 ·have h1:=fA0 r 0 (by omega)
  have h2:uY (bZ jT jO qH (mkP r 0))+1≤256:=h1
  have h3:=dW0 jT jO qH w (mkP r 0) false 0 (fB0 r 0) (by omega) (by omega)
  exact ⟨hs,h3.1,by unfold uB1;omega⟩
end
end Go.Proofs.Ytgeakofgklcipaa
namespace Go.Proofs.Ytgeakofgklcipaa
open Go Go.RowKit Go.Ev Go.Dv
noncomputable section
set_option maxRecDepth 100000
variable (G:Nat×Nat)
structure St where
 k:Int
 p:List Int
 a:Int
def stC (s:St):List Value:=[.int .i64 s.k,Rw false eI s.p.length (ivs s.p),.int .i64 s.a]
def stCs:List St→List Value
 | []=>[]
 | x :: l=>stC x++stCs l
def stsV (l:List St):Value:=Rw false 60 l.length (stCs l)
def spC (t b:Tm) (a:Option Addr) (n c:Nat):List Value:=tmC t++(tmC b++[.slice a n c])
def spV (t b:Tm) (a:Option Addr) (n c:Nat):Value:=.agg ⟨spC t b a n c⟩
theorem kK1 (t b:Tm) (a:Option Addr) (n c:Nat):(spV t b a n c).cells.toList=spC t b a n c:=rfl
theorem jZ2 (t b:Tm) (a:Option Addr) (n c:Nat):(spC t b a n c).all one=true:=by cases t;cases b;rfl
theorem nP0 (t b:Tm) (a:Option Addr) (n c:Nat):(spC t b a n c).length=19:=by cases t;cases b;rfl
theorem spC_w (t b:Tm) (a:Option Addr) (n c:Nat):(spC t b a n c).take 19=spC t b a n c:=List.take_of_length_le (by rw[nP0];exact Nat.le_refl _)
theorem spC_t (t b:Tm) (a:Option Addr) (n c:Nat):(spC t b a n c).take 9=tmC t:=by cases t;rfl
theorem spC_b (t b:Tm) (a:Option Addr) (n c:Nat):((spC t b a n c).drop 9).take 9=tmC b:=by cases t;cases b;rfl
theorem spC_p (t b:Tm) (a:Option Addr) (n c:Nat):(spC t b a n c)[18]?=some (.slice a n c):=by cases t;cases b;rfl
theorem spC_0 (t b:Tm) (a:Option Addr) (n c:Nat):(spC t b a n c)[0]?=some (.int .i64 t.k):=by cases t;rfl
theorem spC_8 (t b:Tm) (a:Option Addr) (n c:Nat):(spC t b a n c)[8]?=some (Rw false etm t.l.length (kF t.l)):=by cases t;rfl
attribute [push_cast] kK1 jZ2 nP0 spC_w spC_t spC_b spC_p spC_0 spC_8
def PwR (σ:jA) (q:Option Addr) (m c:Nat) (p:List Int):Prop:=(q=none∧m=0∧c=0∧p=[])∨∃ b,q=some ⟨b,0,none⟩∧σ.lo≤b∧b<σ.next∧σ.get b=some (O (ivs p) eI true)∧c=UC∧m=p.length
theorem PwR.grew {σ σ':jA} {S:Nat→Prop} {q:Option Addr} {m c:Nat} {p:List Int} (h:PwR σ q m c p) (g:jE σ σ' S) (hS:∀ b,blk q b→¬ S b):PwR σ' q m c p:=by
 rcases h with h|⟨b,rfl,h1,h2,h3,h4⟩
 ·exact .inl h
 ·exact .inr ⟨b,rfl,by rw[g.lo];exact h1,Nat.lt_of_lt_of_le h2 g.next,(g.get b h2 (hS b ⟨0,none,rfl⟩)).trans h3,h4⟩
theorem PwR.fz {P:Program} {σ:jA} {q:Option Addr} {m c:Nat} {p:List Int} (h:PwR σ q m c p) (hs:szT P eI=some 1) (hl:p.length<100000000000000) {N:Nat} (hN:∀ b,blk q b→N≤b):FzV P N σ (.slice q m c) (Rw false eI p.length (ivs p)):=by
 rcases h with ⟨rfl,rfl,rfl,rfl⟩|⟨b,rfl,h1,h2,h3,rfl,rfl⟩
 ·exact .nil hs (by decide)
 ·refine .sl (full:=ivs p) (m:=true) (hN b ⟨0,none,rfl⟩) (by unfold Ev.cells;rw[h3];rfl) hs (by decide) (by rw[uA0];omega) (.inr ⟨rfl,Nat.le_refl _,by simp,by unfold U;omega⟩) ?_
  rw[List.drop_zero,List.take_of_length_le (by rw[uA0];omega)]
  exact .ids (kY0 _ _)
theorem kJ1 {σ:jA} {e b n c:Nat} {cs:List Value} (ho:cO σ e (some ⟨b,0,none⟩) n c cs) (hone:cs.all one=true):srcD 1 (.slice (some ⟨b,0,none⟩) n c) σ=some (n,cs):=by
 rcases ho.hat with ⟨h,_⟩|⟨b',h,h1,h2,h3,rfl,h5⟩
 ·cases h
 ·cases h
  obtain ⟨m,rfl⟩:∃ m,n=m+1:=⟨n-1,by omega⟩
  have hc:cells σ b=some (cs,e,true):=by unfold Ev.cells;rw[h3];rfl
  have ht:takeN cs 0 ((m+1)*1)=some cs:=iU0 cs (by rw[ho.hlen];omega)
  have hb:Nat.ble σ.lo b=true:=by simpa using h1
  have hsrc:uT 1 (m+1) (.slice (some ⟨b,0,none⟩) (m+1) UC) σ=some cs:=by
   unfold uT
   dsimp only
   rw[hc]
   dsimp only
   rw[ht]
   dsimp only
   rw[hb]
  show (match lenV (.slice (some ⟨b,0,none⟩) (m+1) UC) with
   | some k=>match uT 1 k (.slice (some ⟨b,0,none⟩) (m+1) UC) σ with | some xs=>if xs.length=k*1∧xs.all one=true then some (k,xs) else none | none=>none
   | none=>none)=_
  show (match uT 1 (m+1) (.slice (some ⟨b,0,none⟩) (m+1) UC) σ with|some xs=>if xs.length=(m+1)*1∧xs.all one=true then some (m+1,xs) else none|none=>none)=_
  rw[hsrc]
  dsimp only
  rw[if_pos ⟨by rw[ho.hlen];omega,hone⟩]
theorem row0I (σ:jA):bsD (qq.m 23) (slT Try.prog 23) 0 [] σ=some (.slice (some ⟨σ.next,0,none⟩) 0 0,σ.add (O [] eI false)):=by kernel_rfl
theorem kY2 {σ:jA} {a:Option Addr} {n c:Nat} {p:List Int} (ho:cO σ eI a n c (ivs p)) (hl:σ.lo=1) (hln:1≤σ.next) (hp:p.length<1000000000000) :
  jI (pp G) H0 80 [.slice a n c] σ (fun v σ'=>∃ q m k,v=.slice q m k∧PwR σ' q m k p∧jE σ σ' (fun _=>False)∧∀ b,blk q b→σ.next≤b):=by
 refine jI.fir4 (q:=qq) (jR G) fir80 (by kernel_rfl) rfl rfl (fN1 ..) (by first|exact Nat.le_trans (show NGG≤1 by decide) (by omega)) ?_;rw[qW2]
 have hn:p.length=n:=by rw[← ho.hlen,uA0]
 rcases ho.hat with ⟨rfl,rfl,rfl⟩|⟨b,rfl,h1,h2,h3,rfl,h5⟩
 ·have:p=[]:=List.length_eq_zero_iff.1 hn
  subst this
  simp(disch:=first|omega|(apply id;simp only[push_cast];try omega))only[push_cast,simprocAttr]
  exact ⟨none,0,0,rfl,.inl ⟨rfl,rfl,rfl,rfl⟩,jE.refl _ _,fun b hb=>by obtain ⟨o,s,e⟩:=hb;cases e⟩
 ·have g0:jE σ (σ.add (O [] eI false)) (fun _=>False):=jE.add _ _ _
  have ho':=ho.grew g0 (fun _ _ h=>h)
  have hsr:=kJ1 ho' (kI0 p)
  subst hn
  have hap:=oC1 (σ:=σ.add (O [] eI false)) (e:=eI) (k:=1) (by_:=8) (b:=σ.next) (n:=0) (m:=p.length) (cs:=[]) (xs:=ivs p) (cF _ _ _ _ rfl) (by rw[kG];omega) rfl (kI0 _) h5 (by omega)
  simp(disch:=first|omega|(apply id;simp only[push_cast];try omega))only[push_cast,simprocAttr,↓row0I,hsr,hap]
  refine ⟨_,_,_,rfl,.inr ⟨_,rfl,by simp only[kG];omega,by simp only[jJ];omega,bC _ _ (by simp only[jJ]),rfl,by omega⟩,g0.trans (jE.add _ _ _) fun _ _ h=>h,fun b hb=>?_⟩
  obtain ⟨o,s,e⟩:=hb
  cases e
  omega
theorem kG1 {σ:jA} {a:Option Addr} {n c:Nat} {p:List Int} (t b:Tm) (alt:Int) (ho:cO σ eI a n c (ivs p)) (hl:σ.lo=1) (hln:1≤σ.next) (hp:p.length<1000000000000) :
  jI (pp G) H0 64 [spV t b a n c,.int .i64 alt] σ (fun v σ'=>∃ q m k,v=.agg ⟨[.int .i64 t.k,.slice q m k,.int .i64 alt]⟩∧PwR σ' q m k p∧jE σ σ' (fun _=>False)∧∀ b,blk q b→σ.next≤b):=by
 refine jI.fir4 (q:=qq) (jR G) fir64 (by kernel_rfl) rfl rfl (gH2 ..) (by first|exact Nat.le_trans (show NGG≤1 by decide) (by omega)) ?_;rw[uL2]
 simp(disch:=first|omega|(apply id;simp only[push_cast];try omega))only[push_cast,simprocAttr,hl]
 obtain ⟨τ,hτ⟩:∃ τ,τ=(σ.add (O (spC t b a n c) 95 false)).add (O [.int .i64 0,.slice none 0 0,.int .i64 0] 60 false):=⟨_,rfl⟩
 have g0:jE σ τ (fun _=>False):=by rw[hτ];exact (by (repeat (first|exact Gr.refl _|assumption|(refine jE.put' ?_ _ _ (by first|omega|(simp only[push_cast];omega)))|(refine jE.add' ?_ _))))
 have c0:cells τ σ.next=some (spC t b a n c,95,false):=by rw[hτ];simp(disch:=first|omega|(apply id;simp only[push_cast];try omega))only[push_cast,simprocAttr]
 have c1:cells τ (σ.next+1)=some ([.int .i64 0,.slice none 0 0,.int .i64 0],60,false):=by rw[hτ];simp(disch:=first|omega|(apply id;simp only[push_cast];try omega))only[push_cast,simprocAttr]
 have hn0:τ.next=σ.next+2:=by rw[hτ];simp(disch:=first|omega|(apply id;simp only[push_cast];try omega))only[push_cast,simprocAttr]
 have hl0:τ.lo=1:=by rw[g0.lo,hl]
 have ho':=ho.grew g0 (fun _ _ h=>h)
 rw[← hτ]
 clear hτ
 refine jC.func (cap:=[]) (args:=[_]) (kY2 G ho' hl0 (by omega) hp) ?_
 rintro _ σ2 ⟨q,m,k,rfl,hq,g2,hb⟩
 have hn2:=g2.next
 have d0:=g2.cellsE c0 (by omega) id
 have d1:=g2.cellsE c1 (by omega) id
 have hl2:σ2.lo=1:=by rw[g2.lo,hl0]
 simp(disch:=first|omega|(apply id;simp only[push_cast];try omega))only[push_cast,simprocAttr,d0,d1,hl2,c0,c1,hl0]
 have gp:jE σ2 (σ2.put (σ.next+1) (O [.int .i64 t.k,.slice q m k,.int .i64 alt] 60 false)) (fun k=>k=σ.next+1):=jE.put _ _ _ fun _=>rfl
 exact ⟨q,m,k,rfl,hq.grew gp (fun b' hb' e=>by have:=hb b' hb';omega),(g0.trans g2 fun _ _ h=>h).tr' gp (fun j hj e=>by omega),fun b' hb'=>by have:=hb b' hb';omega⟩
structure Sp where
 t:Tm
 b:Tm
 p:List Int
mutual
def spT:Tm→Tm→List Int→List Sp
 | .mk k a b s e l,u,p=>⟨.mk k a b s e l,u,p⟩ :: (if k=12 then spH l u p else if k=7 then spL l (.mk k a b s e l) p 0 else if k=11 then spL l u p 0 else [])
def spL:List Tm→Tm→List Int→Nat→List Sp
 | [],_,_,_=>[]
 | x :: l,u,p,i=>spT x u (p++[(i:Int)])++spL l u p (i+1)
def spH:List Tm→Tm→List Int→List Sp
 | [],_,_=>[]
 | x :: _,u,p=>spT x u (p++[((0:Nat):Int)])
end
theorem nO0:∀ (a b:List Tm) (u:Tm) (p:List Int) (j:Nat),spL (a++b) u p j=spL a u p j++spL b u p (j+a.length)
 | [],b,u,p,j=>rfl
 | x :: a,b,u,p,j=>by rw[List.cons_append,spL,spL,nO0 a b,List.append_assoc,List.length_cons,Nat.add_assoc j 1,Nat.add_comm 1]
theorem iT1 (l:List Tm) (u:Tm) (p:List Int):spH l u p=spL (l.take 1) u p 0:=by
 cases l with
 | nil=>rfl
 | cons x l=>rw[spH,List.take_succ_cons,List.take_zero,spL,spL,List.append_nil]
theorem rK0 {l:List Tm} {i:Nat} {x:Tm} (h:l[i]?=some x) (u:Tm) (p:List Int):spL (l.take (i+1)) u p 0=spL (l.take i) u p 0++spT x u (p++[(i:Int)]):=by
 have hi:(l.take i).length=i:=by rw[List.length_take];have:=(List.getElem?_eq_some_iff.1 h).1;omega
 rw[qJ h,nO0,spL,spL,List.append_nil,hi,Nat.zero_add]
theorem eV1:∀ {l:List Tm} {x:Tm},x∈l→(kO x).length≤(gJ l).length
 | y :: l,x,h=>by
  rw[gJ,List.length_append]
  rcases List.mem_cons.1 h with rfl|h
  ·omega
  ·have:=eV1 h;omega
structure Ys (lid:Nat) (Y:List Sp→(Nat→Prop)→jA→Prop) (N:List Sp→Prop):Prop where
 lt:∀ {acc B σ},Y acc B σ→∀ k,B k→k<σ.next
 lo:∀ {acc B σ},Y acc B σ→σ.lo=1∧1≤σ.next∧lid<σ.next
 st:∀ {acc B σ σ'},Y acc B σ→jE σ σ' (fun k=>¬ B k)→Y acc B σ'
 y:∀ {acc B σ},Y acc B σ→∀ (t b:Tm) (p:List Int) (a:Option Addr) (n c:Nat),smT t=true→smT b=true→cO σ eI a n c (ivs p)→(∀ k,blk a k→¬ B k)→p.length<1000000000000→(kO b).length<1000000000000→N (acc++[⟨t,b,p⟩])→
  jC (pp G) H0 (.func (.yield lid) ⟨[]⟩ ⟨[]⟩) [spV t b a n c] σ (fun _ v σ'=>v=.bool true∧∃ B',Y (acc++[⟨t,b,p⟩]) B' σ'∧(∀ k,B' k→B k∨σ.next≤k)∧jE σ σ' B)
 n:∀ {a b},N (a++b)→N a
def zI1 (Y:List Sp→(Nat→Prop)→jA→Prop) (acc:List Sp) (B:Nat→Prop) (σ:jA) (v:Value) (σ':jA):Prop:=v=.bool true∧∃ B',Y acc B' σ'∧(∀ k,B' k→B k∨σ.next≤k)∧jE σ σ' B
def sH1 (lid:Nat) (Y:List Sp→(Nat→Prop)→jA→Prop) (N:List Sp→Prop) (x:Tm):Prop:=
 ∀ (u:Tm) (p:List Int) (acc:List Sp) (B:Nat→Prop) (σ:jA) (a:Option Addr) (n c:Nat),smT u=true→(kO u).length<1000000000000→p.length+(kO x).length<1000000000000→cO σ eI a n c (ivs p)→(∀ k,blk a k→¬ B k)→Y acc B σ→N (acc++spT x u p)→
  jI (pp G) H0 77 [spV x u a n c,.func (.yield lid) ⟨[]⟩ ⟨[]⟩] σ (zI1 Y (acc++spT x u p) B σ)
theorem eB1 {lid:Nat} {Y:List Sp→(Nat→Prop)→jA→Prop} {N:List Sp→Prop} (yp:Ys G lid Y N) {x:Tm} (ih:sH1 G lid Y N x) (u:Tm) (p:List Int) (i:Int) (acc:List Sp) (B:Nat→Prop) (h:jA) {a:Option Addr} {n c:Nat}
  (hu:smT u=true) (hau:(kO u).length<1000000000000) (hpx:p.length+1+(kO x).length<1000000000000) (ho:cO h eI a n c (ivs p)) (hb:∀ k,blk a k→¬ B k) (hY:Y acc B h) (hN:N (acc++spT x u (p++[i]))) :
  jI (pp G) H0 77 [spV x u (some ⟨h.next,0,none⟩) (n+1) UC,.func (.yield lid) ⟨[]⟩ ⟨[]⟩] (zL0 h eI a (ivs p) [.int .i64 i]) (zI1 Y (acc++spT x u (p++[i])) B h):=by
 obtain ⟨hl1,hl2,hl3⟩:=yp.lo hY
 have gl:=dK0 ho [.int .i64 i]
 have hnx:=kG0 h eI a (ivs p) [.int .i64 i]
 have hop:cO (zL0 h eI a (ivs p) [.int .i64 i]) eI (some ⟨h.next,0,none⟩) (n+1) UC (ivs (p++[i])):=by
  rw[fG0]
  exact uF1 ho (by omega) _
 have hY1:=yp.st hY (gl.mono fun k _ hk=>hb k hk)
 have hb1:∀ k,blk (some (⟨h.next,0,none⟩:Addr)) k→¬ B k:=fun k hk hB=>by
  obtain ⟨o,s,e⟩:=hk
  cases e
  have:=yp.lt hY _ hB
  omega
 have hnB:¬ B h.next:=fun hB=>by have:=yp.lt hY _ hB;omega
 refine jI.back (ih u (p++[i]) acc B _ _ _ _ hu hau (by rw[List.length_append];exact hpx) hop hb1 hY1 hN) ?_
 rintro _ σ' ⟨rfl,B',hY',hB',g'⟩
 rcases ho.hat with ⟨rfl,rfl,rfl⟩|⟨b,rfl,h1,h2,h3,rfl,h5⟩
 ·left
  refine ⟨rfl,B',hY',fun k hk=>?_,⟨by have:=g'.next;omega,by rw[g'.lo,gl.lo],fun j hj hB=>(g'.get j (by omega) hB).trans (gl.get j hj (fun hk=>by obtain ⟨o,s,e⟩:=hk;cases e))⟩⟩
  rcases hB' k hk with q|q
  ·exact .inl q
  ·right;omega
 ·right
  have hbB:¬ B b:=hb b ⟨0,none,rfl⟩
  have hgn:=g'.next
  have e1:σ'.get b=some (qA h.next eI (ivs p)):=by
   rw[g'.get b (by omega) hbB]
   have:=jJ0 (h:=h) (b:=b) (x':=O (ivs p++[.int .i64 i]) eI true) (y:=qA h.next eI (ivs p)) b
   rw[if_pos rfl] at this
   exact this
  have e2:σ'.get h.next=some (O (ivs p++[.int .i64 i]) eI true):=by
   rw[g'.get h.next (by omega) hnB]
   have:=jJ0 (h:=h) (b:=b) (x':=O (ivs p++[.int .i64 i]) eI true) (y:=qA h.next eI (ivs p)) h.next
   rw[if_neg (by omega),if_pos rfl] at this
   exact this
  have hlo':σ'.lo=h.lo:=by rw[g'.lo,gl.lo]
  have hfl:∀ l:List Int,jU (ivs l)=true:=fun l=>by
   induction l with
   | nil=>rfl
   | cons x l ih=>exact ih
  refine ⟨b,h.next,eI,ivs p,[.int .i64 i],(0,0),by omega,by omega,by omega,by omega,e1,e2,kI0 _,?_,hfl _,rfl,B',yp.st hY' ⟨Nat.le_refl _,rfl,fun j hj hB=>?_⟩,fun k hk=>?_,⟨by show h.next≤σ'.next;omega,hlo',fun j hj hB=>?_⟩⟩
  ·have:ivs p++[.int .i64 i]=ivs (p++[i]):=(fG0 p [i]).symm
   rw[this]
   exact hfl _
  ·have hjB:B' j:=Classical.not_not.1 hB
   have hj1:j≠b:=fun e=>by
    subst e
    rcases hB' j hjB with q|q
    ·exact hbB q
    ·omega
   have hj2:j≠h.next:=fun e=>by
    subst e
    rcases hB' _ hjB with q|q
    ·exact hnB q
    ·omega
   rw[qF _ _ _ hj1,qF _ _ _ hj2]
  ·rcases hB' k hk with q|q
   ·exact .inl q
   ·right;omega
  ·by_cases hjb:j=b
   ·subst hjb
    rw[gO,h3]
   ·rw[qF _ _ _ hjb,qF _ _ _ (by omega),g'.get j (by omega) hB]
    exact gl.get j hj fun hk=>by obtain ⟨o,s,e⟩:=hk;cases e;exact hjb rfl
theorem spB2 (t b:Tm) (a:Option Addr) (n c:Nat):bdV (plc Try.prog 95) [(0,tmV t),(1,tmV b),(2,.slice a n c)]=some (spV t b a n c):=by cases t;cases b;kernel_rfl
theorem spC_f (t u:Tm) (a:Option Addr) (n c:Nat):tmC t++tmC t++List.drop 18 (spC t u a n c)=spC t t a n c:=by cases t;cases u;rfl
inductive J77 (lid:Nat) (Y:List Sp→(Nat→Prop)→jA→Prop) (acc:List Sp) (B:Nat→Prop) (σ:jA) (sb:Nat) (u:Tm) (p:List Int) (l:List Tm):Nat→S→Prop
 | mk (i:Nat) (iv:Int) (h:jA) (B':Nat→Prop) {x0 x3 x4 x5 x6 x7 x8 x9 xA xB xC xD xE xF xG xH xI xJ xK xL xM xN xO xP xQ xR xS xT xU xV xZ yA yB yC yD yE yF yG yH yI yJ yK yL yM yN yO yP:Value} (hiv:iv=(i:Int)) (hi:i≤l.length) (hY:Y (acc++spL (l.take i) u p 0) B' h) (hB:∀ k,B' k→B k∨σ.next≤k) (g:jE σ h B) :
  J77 lid Y acc B σ sb u p l (l.length-i) ⟨(F52 x0 (.func (.yield lid) ⟨[]⟩ ⟨[]⟩) (.pointer (some ⟨sb,0,none⟩)) x3 x4 x5 x6 x7 x8 x9 xA xB xC xD xE xF xG xH xI xJ xK xL xM xN xO xP xQ xR xS xT xU xV (Rw false etm l.length (kF l)) (.int .i64 l.length) (.int .i64 iv) xZ yA yB yC yD yE yF yG yH yI yJ yK yL yM yN yO yP),[],h⟩
theorem fY0 {lid:Nat} {Y:List Sp→(Nat→Prop)→jA→Prop} {N:List Sp→Prop} (yp:Ys G lid Y N) (t u:Tm) (p:List Int) (l:List Tm) (hll:l.length<100000000000) (hsl:smTs l=true) (hu:smT u=true) (hau:(kO u).length<1000000000000) (hpl:p.length+1+(gJ l).length<1000000000000)
  (ih:∀ x∈l,sH1 G lid Y N x) (acc:List Sp) (B:Nat→Prop) (σ:jA) {a:Option Addr} {n c:Nat} (ho:cO σ eI a n c (ivs p)) (hb:∀ k,blk a k→¬ B k) {sb:Nat} (hsb:cells σ sb=some (spC t u a n c,95,false)) (hsn:sb<σ.next) (hsl0:1≤sb) (hsB:¬ B sb)
  (hY:Y acc B σ) (hN:N (acc++spL l u p 0)) {R:Value→jA→Prop} (hR:∀ v σ',zI1 Y (acc++spL l u p 0) B σ v σ'→R v σ') {x0 x3 x4 x6 x7 x8 x9 xA xB xC xD xE xF xG xH xI xJ xK xL xM xN xO xP xQ xR xS xT xU xV xW xX xY xZ yA yB yC yD yE yF yG yH yI yJ yK yL yM yN yO yP:Value} :
  dc3 (pp G) qq none gZ0 ⟨(F52 x0 (.func (.yield lid) ⟨[]⟩ ⟨[]⟩) (.pointer (some ⟨sb,0,none⟩)) x3 x4 (Rw false etm l.length (kF l)) x6 x7 x8 x9 xA xB xC xD xE xF xG xH xI xJ xK xL xM xN xO xP xQ xR xS xT xU xV xW xX xY xZ yA yB yC yD yE yF yG yH yI yJ yK yL yM yN yO yP),[],σ⟩ (@kR ⟨jH Try.prog [.tmp 4] R⟩):=by
 have hsa:¬ blk a sb:=fun hk=>by
  obtain ⟨o,s,rfl⟩:=hk
  rcases ho.hat with ⟨h,_⟩|⟨b,h,h1,h2,h3,_⟩
  ·cases h
  ·cases h
   unfold Ev.cells at hsb
   rw[h3] at hsb
   have:=congrArg (fun x=>x.2.2) (Option.some.inj hsb)
   cases this
 rw[jP1]
 simp(disch:=first|omega|(apply id;simp only[push_cast];try omega))only[push_cast,simprocAttr]
 refine WD.loop4 (q:=qq) (jR G) (by kernel_rfl) (J77 lid Y acc B σ sb u p l) ?_ _ _ (J77.mk 0 0 _ B rfl (Nat.zero_le _) (by rw[List.take_zero,spL,List.append_nil];exact hY) (fun k hk=>.inl hk) (jE.refl _ _))
 intro m s1 hI
 cases hI with|mk i iv h B' hiv hi hY' hB g=>
 subst hiv
 rw[jO1]
 obtain ⟨hl1,hl2,hl3⟩:=yp.lo hY'
 by_cases hil:(i:Int)<l.length
 ·obtain ⟨x,hx⟩:=qP (l:=l) (i:=i) (by omega)
  have hxm:=List.mem_of_getElem? hx
  have hp:=jF0 hx
  have hle:i*9+9≤l.length*9:=by omega
  have hgn:=g.next
  obtain ⟨τ,hτ⟩:∃ τ,τ=(h.add (O [.int .i64 0,.int .i64 0,.int .i64 0,.string (Tx []),.int .i64 0,.int .i64 0,.string (Tx []),.slice none 0 0,.slice none 0 0] 34 false)).put h.next (O (tmC x) 34 false):=⟨_,rfl⟩
  have g0:jE h τ (fun _=>False):=by rw[hτ];exact (by (repeat (first|exact Gr.refl _|assumption|(refine jE.put' ?_ _ _ (by first|omega|(simp only[push_cast];omega)))|(refine jE.add' ?_ _))))
  have hn0:h.next+1=τ.next:=by rw[hτ];simp(disch:=first|omega|(apply id;simp only[push_cast];try omega))only[push_cast,simprocAttr]
  have c1:cells τ h.next=some (tmC x,34,false):=by rw[hτ];simp(disch:=first|omega|(apply id;simp only[push_cast];try omega))only[push_cast,simprocAttr]
  have hY1:=yp.st hY' (g0.mono fun _ _ h=>h.elim)
  have cs0:cells τ sb=_:=g0.cellsE (g.cellsE hsb hsn hsB) (by omega) id
  have ho1:=(ho.grew g hb).grew g0 (fun _ _ h=>h)
  have hb1:∀ k,blk a k→¬ B' k:=fun k hk hk'=>by
   rcases hB k hk' with q|q
   ·exact hb k hk q
   ·obtain ⟨o,s,rfl⟩:=hk
    rcases ho.hat with ⟨h,_⟩|⟨b,h,_,h2,_⟩
    ·cases h
    ·cases h;omega
  have hpn:p.length=n:=by rw[← ho.hlen,uA0]
  have happ:apS eI 1 8 (.slice a n c) (some (1,ivs [(i:Int)])) τ=some (.slice (some ⟨τ.next,0,none⟩) (n+1) UC,zL0 τ eI a (ivs p) [.int .i64 i]):=lM1 (by_:=8) ho1 (x:=.int .i64 i) rfl (by omega)
  have hl0:τ.lo=1:=by rw[g0.lo,hl1]
  have gl:=dK0 ho1 [.int .i64 i]
  have hab:∀ k,blk a k→k<σ.next:=fun k hk=>by
   obtain ⟨o,s,rfl⟩:=hk
   rcases ho.hat with ⟨h,_⟩|⟨b,h,_,h2,_⟩
   ·cases h
   ·cases h;exact h2
  have d1:cells (zL0 τ eI a (ivs p) [.int .i64 i]) h.next=_:=gl.cellsE c1 (by omega) (fun hk=>by have:=hab _ hk;omega)
  have d0:cells (zL0 τ eI a (ivs p) [.int .i64 i]) sb=_:=gl.cellsE cs0 (by omega) hsa
  have hll0:(zL0 τ eI a (ivs p) [.int .i64 i]).lo=1:=by rw[fC0,hl0]
  obtain ⟨ρ,hρ⟩:∃ ρ,ρ=zL0 τ eI a (ivs p) [.int .i64 i]:=⟨_,rfl⟩
  rw[← hρ] at happ d0 d1 hll0
  have csh:=g.cellsE hsb hsn hsB
  simp(disch:=first|omega|(apply id;simp only[push_cast];try omega))only[push_cast,simprocAttr,hil,Int.toNat_natCast,hp,hle,hl1,csh,↓yK1]
  rw[← hτ]
  simp(disch:=first|omega|(apply id;simp only[push_cast];try omega))only[push_cast,simprocAttr,hl0,cs0,c1,↓yK1,happ,d0,d1,hll0,↓spB2]
  subst hρ
  have hN2:N ((acc++spL (l.take i) u p 0)++spT x u (p++[(i:Int)])):=by
   have h1:spL l u p 0=spL (l.take (i+1)) u p 0++spL (l.drop (i+1)) u p (0+(l.take (i+1)).length):=by rw[← nO0,List.take_append_drop]
   rw[h1,← List.append_assoc] at hN
   have:=yp.n hN
   rw[rK0 hx,← List.append_assoc] at this
   exact this
  have hax:=eV1 hxm
  refine jC.func (cap:=[]) (args:=[_,_]) (eB1 G yp (ih x hxm) u p i _ B' τ hu hau (by omega) ho1 hb1 hY1 hN2) ?_
  rintro _ σ2 ⟨rfl,B2,hY2,hB2,g2⟩
  simp(disch:=first|omega|(apply id;simp only[push_cast];try omega))only[push_cast,simprocAttr,Bool.not_true]
  have hn2:=g2.next
  refine ⟨_,by omega,J77.mk (i+1) _ _ B2 (by first|rfl|omega) (by omega) (by rw[rK0 hx,← List.append_assoc];exact hY2) (fun k hk=>?_) ?_⟩
  ·rcases hB2 k hk with h1|h1
   ·exact hB k h1
   ·exact .inr (by omega)
  ·exact (g.tr' g0 fun _ _ h => h.elim).tr' g2 fun k hk hb => by
    rcases hB k hb with h1|h1
    ·exact h1
    ·omega
 ·have hie:i=l.length:=by omega
  subst hie
  rw[List.take_length] at hY'
  simp(disch:=first|omega|(apply id;simp only[push_cast];try omega))only[push_cast,simprocAttr,hil]
  rw[jN1]
  simp(disch:=first|omega|(apply id;simp only[push_cast];try omega))only[push_cast,simprocAttr]
  exact hR _ _ ⟨rfl,B',hY',hB,g⟩
theorem eA1 {lid:Nat} {Y:List Sp→(Nat→Prop)→jA→Prop} {N:List Sp→Prop} (yp:Ys G lid Y N):∀ (x:Tm),smT x=true→sH1 G lid Y N x
 | .mk k a b s e l,hs=>by
  intro u p acc B σ q n c hu hau hpx ho hb hY hN
  have hs0:=hs
  simp only[smT,Bool.and_eq_true,decide_eq_true_eq] at hs
  obtain ⟨⟨hll,hse⟩,hsl⟩:=hs
  have ih:∀ x∈l,sH1 G lid Y N x:=fun x hx=>eA1 yp x (bJ hsl x hx)
  obtain ⟨hl1,hl2,hl3⟩:=yp.lo hY
  have hqn:∀ k,blk q k→k<σ.next:=fun k hk=>by
   obtain ⟨o,s,rfl⟩:=hk
   rcases ho.hat with ⟨h,_⟩|⟨b,h,_,h2,_⟩
   ·cases h
   ·cases h;exact h2
  have hal:(kO (.mk k a b s e l)).length=1+(if k=12 then actH l else if k=11∨k=7 then gJ l else []).length:=by rw[kO,List.length_cons];omega
  refine jI.fir4 (q:=qq) (jR G) fir77 (by kernel_rfl) rfl rfl (yY2 ..) (by first|exact Nat.le_trans (show NGG≤1 by decide) (by omega)) ?_;rw[qZ2]
  have g0:jE σ (σ.add (O (spC (.mk k a b s e l) u q n c) 95 false)) (fun _=>False):=jE.add _ _ _
  have hY1:=yp.st hY (g0.mono fun _ _ h=>h.elim)
  have hN1:N (acc++[⟨.mk k a b s e l,u,p⟩]):=by
   rw[spT,← List.singleton_append,← List.append_assoc] at hN
   exact yp.n hN
  simp(disch:=first|omega|(apply id;simp only[push_cast];try omega))only[push_cast,simprocAttr,hl1]
  refine jC.mono (yp.y hY1 (.mk k a b s e l) u p q n c hs0 hu (ho.grew g0 (fun _ _ h=>h)) hb (by omega) hau hN1) ?_
  rintro _ _ σ2 ⟨rfl,B2,hY2,hB2,g2⟩
  have hnB:¬ B σ.next:=fun hb=>by have:=yp.lt hY _ hb;omega
  have c0:cells σ2 σ.next=some (spC (.mk k a b s e l) u q n c,95,false):=g2.cellsE (cF _ _ _ _ rfl) (by rw[jJ];omega) hnB
  have hn2:=g2.next
  rw[jJ] at hn2
  have hl2':σ2.lo=1:=(yp.lo hY2).1
  have ho2:=(ho.grew g0 (fun _ _ h=>h)).grew g2 hb
  have hnB2:¬ B2 σ.next:=fun h=>by
   rcases hB2 _ h with h1|h1
   ·exact hnB h1
   ·rw[jJ] at h1;omega
  have hqB2:∀ k,blk q k→¬ B2 k:=fun k hk h=>by
   rcases hB2 _ h with h1|h1
   ·exact hb k hk h1
   ·rw[jJ] at h1;have:=hqn k hk;omega
  have fin:∀ (σ3:jA) (L:List Sp),jE σ2 σ3 (fun k=>k=σ.next)→spT (.mk k a b s e l) u p=⟨.mk k a b s e l,u,p⟩ :: L→∀ v σ',zI1 Y ((acc++[⟨.mk k a b s e l,u,p⟩])++L) B2 σ3 v σ'→zI1 Y (acc++spT (.mk k a b s e l) u p) B σ v σ':=by
   rintro σ3 L gp he v σ' ⟨rfl,B3,hY3,hB3,g3⟩
   have hn3:=gp.next
   refine ⟨rfl,B3,by rw[he,← List.singleton_append,← List.append_assoc];exact hY3,fun k' hk=>?_,(((g0.mono fun _ _ h=>h.elim).trans g2 fun _ _ h=>h).tr' gp (fun k' hk' e=>by omega)).tr' g3 fun k' hk hb=>?_⟩
   ·rcases hB3 k' hk with h1|h1
    ·rcases hB2 k' h1 with h2|h2
     ·exact .inl h2
     ·rw[jJ] at h2;exact .inr (by omega)
    ·exact .inr (by omega)
   ·rcases hB2 k' hb with h2|h2
    ·exact h2
    ·rw[jJ] at h2;omega
  have e0:(kF l).take ((l.take 1).length*9)=kF (l.take 1):=by rw[zX0];congr 1;cases l<;>rfl
  by_cases h1:k=12
  ·subst h1
   have he:spT (.mk 12 a b s e l) u p=⟨.mk 12 a b s e l,u,p⟩ :: spL (l.take 1) u p 0:=by rw[spT,if_pos rfl,iT1]
   have hm:min 1 (l.length:Int)=((l.take 1).length:Int):=by rw[List.length_take];omega
   rw[if_pos rfl,mT0] at hal
   rw[he,← List.singleton_append,← List.append_assoc] at hN
   simp(disch:=first|omega|(apply id;simp only[push_cast];try omega))only[push_cast,simprocAttr,c0,hl2',gH1,hm,Int.toNat_natCast,e0,Bool.not_true,Tm.k_mk,Tm.l_mk]
   exact fY0 G yp _ u p (l.take 1) (by rw[List.length_take];omega) (nQ0 fun x hx=>bJ hsl x (List.mem_of_mem_take hx)) hu hau (by omega) (fun x hx=>ih x (List.mem_of_mem_take hx)) _ _ _ ho2 hqB2 c0 (by omega) (by omega) hnB2 hY2 hN (fin _ _ (jE.refl _ _) he)
  rw[if_neg h1] at hal
  by_cases h2:k=7
  ·subst h2
   have he:spT (.mk 7 a b s e l) u p=⟨.mk 7 a b s e l,u,p⟩ :: spL l (.mk 7 a b s e l) p 0:=by rw[spT,if_neg (by decide),if_pos rfl]
   rw[if_pos (.inr rfl)] at hal
   rw[he,← List.singleton_append,← List.append_assoc] at hN
   have gp:jE σ2 (σ2.put σ.next (O (spC (.mk 7 a b s e l) (.mk 7 a b s e l) q n c) 95 false)) (fun k=>k=σ.next):=jE.put _ _ _ fun _=>rfl
   generalize ht0:Tm.mk 7 a b s e l=t0 at *
   have hk0:t0.k=7:=by rw[← ht0];rfl
   have hl0:t0.l=l:=by rw[← ht0];rfl
   have hfold:tmC t0++tmC t0++List.drop 18 (spC t0 u q n c)=spC t0 t0 q n c:=spC_f t0 u q n c
   simp(disch:=first|omega|(apply id;simp only[push_cast];try omega))only[push_cast,simprocAttr,c0,hl2',Bool.not_true,hk0,hl0]
   rw[hfold]
   exact fY0 G yp t0 t0 p l hll hsl hs0 (by omega) (by omega) ih _ _ _ (ho2.grew gp (fun k hk e=>by have:=hqn k hk;omega)) hqB2 (by simp(disch:=first|omega|(apply id;simp only[push_cast];try omega))only[push_cast,simprocAttr]) (by show _<σ2.next;omega) (by omega) hnB2 (yp.st hY2 (gp.mono fun k _ e=>by rw[e];exact hnB2)) hN (fin _ _ gp he)
  ·by_cases h3:k=11
   ·have he:spT (.mk k a b s e l) u p=⟨.mk k a b s e l,u,p⟩ :: spL l u p 0:=by rw[spT,if_neg h1,if_neg h2,if_pos h3]
    rw[if_pos (.inl h3)] at hal
    rw[he,← List.singleton_append,← List.append_assoc] at hN
    simp(disch:=first|omega|(apply id;simp only[push_cast];try omega))only[push_cast,simprocAttr,c0,hl2',h1,h2,h3,Bool.not_true,Tm.k_mk,Tm.l_mk]
    exact fY0 G yp _ u p l hll hsl hu hau (by omega) ih _ _ _ ho2 hqB2 c0 (by omega) (by omega) hnB2 hY2 hN (fin _ _ (jE.refl _ _) he)
   ·have he:spT (.mk k a b s e l) u p=⟨.mk k a b s e l,u,p⟩ :: []:=by rw[spT,if_neg h1,if_neg h2,if_neg h3]
    simp(disch:=first|omega|(apply id;simp only[push_cast];try omega))only[push_cast,simprocAttr,c0,hl2',h1,h2,h3,Bool.not_true,Tm.k_mk,Tm.l_mk]
    exact fin _ [] (jE.refl _ _) he _ _ ⟨rfl,B2,by rw[List.append_nil];exact hY2,fun k hk=>.inl hk,jE.refl _ _⟩
 termination_by x=>SizeOf.sizeOf x
def stF (x:Sp):List St:=
 if x.t.k=0∨x.t.k=14∨x.t.k=12∨x.t.k=11∨x.t.k=7 then []
 else if x.t.k=8 then (if kN x.b=[] then [⟨8,x.p,0⟩] else [])
 else if x.t.k=10 then [⟨10,x.p,0⟩,⟨10,x.p,1⟩] else [⟨x.t.k,x.p,0⟩]
def stS (l:List Sp):List St:=l.flatMap stF
def enF (t:Tm):List St:=stS (spT (jL t) (jL t) [])
theorem iS1 (l:List Sp) (x:Sp):stS (l++[x])=stS l++stF x:=by simp[stS]
theorem jT2 (x:Sp):(stF x).length≤2:=by
 unfold stF
 split
 ·simp
 split
 ·split<;>simp
 split<;>simp
theorem eF0:∀ l:List Sp,(stS l).length≤2*l.length
 | []=>by simp[stS]
 | x :: l=>by
  have h1:=jT2 x
  have h2:=eF0 l
  simp only[stS,List.flatMap_cons,List.length_append,List.length_cons] at h2 ⊢
  omega
inductive bB (σ:jA) (Q:Nat→Prop):List St→List Value→Prop
 | nil:bB σ Q [] []
 | cons {k a:Int} {p:List Int} {q:Option Addr} {m c:Nat} {l:List St} {cs:List Value} (h:PwR σ q m c p) (hp:p.length<1000000000000) (hq:∀ b,blk q b→Q b) (hs:bB σ Q l cs):bB σ Q (⟨k,p,a⟩ :: l) ([.int .i64 k,.slice q m c,.int .i64 a]++cs)
theorem bB.grew {σ σ':jA} {S Q Q':Nat→Prop} (g:jE σ σ' S) (h1:∀ k,Q k→k<σ.next→¬ S k∧Q' k) {l:List St} {cs:List Value} (h:bB σ Q l cs):bB σ' Q' l cs:=by
 induction h with
 | nil=>exact .nil
 | @cons k a p q m c l cs h hp hq hs ih=>
  have hlt:∀ b,blk q b→b<σ.next:=fun b hb=>by
   rcases h with ⟨rfl,_⟩|⟨b',rfl,_,h2,_⟩
   ·obtain ⟨o,s,e⟩:=hb;cases e
   ·obtain ⟨o,s,e⟩:=hb;cases e;exact h2
  exact .cons (h.grew g fun b hb=>(h1 b (hq b hb) (hlt b hb)).1) hp (fun b hb=>(h1 b (hq b hb) (hlt b hb)).2) ih
theorem bB.app {σ:jA} {Q:Nat→Prop} {l l':List St} {cs cs':List Value} (h:bB σ Q l cs) (h':bB σ Q l' cs'):bB σ Q (l++l') (cs++cs'):=by
 induction h with
 | nil=>exact h'
 | cons h hp hq hs ih=>rw[List.cons_append,List.append_assoc];exact .cons h hp hq ih
theorem bB.len {σ:jA} {Q:Nat→Prop} {l:List St} {cs:List Value} (h:bB σ Q l cs):cs.length=l.length*3:=by
 induction h with
 | nil=>rfl
 | cons h hp hq hs ih=>rw[List.length_append,ih,List.length_cons];simp;omega
theorem bB.one {σ:jA} {Q:Nat→Prop} {l:List St} {cs:List Value} (h:bB σ Q l cs):cs.all one=true:=by
 induction h with
 | nil=>rfl
 | cons h hp hq hs ih=>rw[List.all_append,ih];rfl
theorem bB.fz {P:Program} {N:Nat} {σ:jA} {Q:Nat→Prop} (hs:szT P eI=some 1) (hQ:∀ b,Q b→N≤b) {l:List St} {cs:List Value} (h:bB σ Q l cs):FzL P N σ cs (stCs l):=by
 induction h with
 | nil=>exact .nil
 | cons h hp hq hs' ih=>exact .cons (.id rfl) (.cons (h.fz hs (by omega) fun b hb=>hQ b (hq b hb)) (.cons (.id rfl) ih))
def gN (cs:List Value) (k:Nat):Prop:=∃ n c,Value.slice (some ⟨k,0,none⟩) n c∈cs
theorem jC0 {a b:List Value} {k:Nat}:gN (a++b) k↔gN a k∨gN b k:=by
 unfold gN
 constructor
 ·rintro ⟨n,c,h⟩
  rcases List.mem_append.1 h with h|h
  ·exact .inl ⟨n,c,h⟩
  ·exact .inr ⟨n,c,h⟩
 ·rintro (⟨n,c,h⟩|⟨n,c,h⟩)
  ·exact ⟨n,c,List.mem_append_left _ h⟩
  ·exact ⟨n,c,List.mem_append_right _ h⟩
theorem zN0 {k a:Int} {q:Option Addr} {m c j:Nat}:gN [.int .i64 k,.slice q m c,.int .i64 a] j→blk q j:=by
 rintro ⟨n,c',h⟩
 simp only[List.mem_cons,List.not_mem_nil,or_false] at h
 rcases h with h|h|h
 ·cases h
 ·cases h;exact ⟨0,none,rfl⟩
 ·cases h
theorem bB.ins {σ:jA} {Q:Nat→Prop} {l:List St} {cs:List Value} (h:bB σ Q l cs) {k:Nat} (hk:gN cs k):k<σ.next∧Q k:=by
 induction h with
 | nil=>obtain ⟨n,c,h⟩:=hk;cases h
 | cons h hp hq hs ih=>
  rcases jC0.1 hk with h1|h1
  ·have hb:=zN0 h1
   refine ⟨?_,hq _ hb⟩
   rcases h with ⟨rfl,_⟩|⟨b',rfl,_,h2,_⟩
   ·obtain ⟨o,s,e⟩:=hb;cases e
   ·obtain ⟨o,s,e⟩:=hb;cases e;exact h2
  ·exact ih h1
theorem bB.self {σ:jA} {Q:Nat→Prop} {l:List St} {cs:List Value} (h:bB σ Q l cs):bB σ (fun b=>Q b∧gN cs b) l cs:=by
 induction h with
 | nil=>exact .nil
 | @cons k a p q m c l cs h hp hq hs ih=>
  refine .cons h hp (fun b hb=>⟨hq b hb,jC0.2 (.inl ?_)⟩) (ih.grew (jE.refl σ (fun _=>False)) fun b hb _=>⟨id,hb.1,jC0.2 (.inr hb.2)⟩)
  rcases h with ⟨rfl,_⟩|⟨b',rfl,_⟩
  ·obtain ⟨o,s,e⟩:=hb;cases e
  ·obtain ⟨o,s,e⟩:=hb;cases e;exact ⟨m,c,by simp⟩
structure L1 (σ:jA) (l:List St) (q:Option Addr) (c:Nat) (cs:List Value):Prop where
 cell:cells σ 2=some ([.slice q l.length c],55,false)
 own:qM σ 60 3 q l.length c cs
 rows:bB σ (fun k=>6≤k∧¬ blk q k) l cs
 ids:∀ k,blk q k→6≤k∧k<σ.next
theorem L1.grew {σ σ':jA} {S:Nat→Prop} {l:List St} {q:Option Addr} {c:Nat} {cs:List Value} (h:L1 σ l q c cs) (g:jE σ σ' S) (h1:¬ S 2) (hn:2<σ.next) (hS:∀ k,6≤k→¬ S k):L1 σ' l q c cs:=by
 have:=g.next
 exact ⟨g.cellsE h.cell hn h1,h.own.grew g fun b hb=>hS b (h.ids b hb).1,h.rows.grew g fun k hk _=>⟨hS k hk.1,hk⟩,fun k hk=>⟨(h.ids k hk).1,by have:=(h.ids k hk).2;omega⟩⟩
theorem L1.add {σ:jA} {l m:List St} {q:Option Addr} {c:Nat} {cs ms:List Value} (h:L1 σ l q c cs) (hm:bB σ (fun k=>6≤k∧¬ blk q k) m ms) (hlo:σ.lo=1) (hn:6≤σ.next) (hb:l.length+m.length<3000000000000) :
  ∃ a' c' σ',apS 60 3 40 (.slice q l.length c) (some (m.length,ms)) σ=some (.slice a' (l.length+m.length) c',σ')∧jE σ σ' (blk q)∧cells σ' 2=some ([.slice q l.length c],55,false)∧
   L1 (σ'.put 2 (O [.slice a' (l.length+m.length) c'] 55 false)) (l++m) a' c' (cs++ms)∧(∀ k,blk a' k→blk q k∨σ.next≤k):=by
 obtain ⟨a',c',σ',e',o',g',b'⟩:=bF (by_:=40) h.own (by decide) (by omega) (m:=m.length) (xs:=ms) hm.len hm.one (by omega)
 have hgn:=g'.next
 have hq1:∀ k,blk a' k→6≤k∧k<σ'.next:=fun k hk=>⟨by rcases b' k hk with q1|q1;exact (h.ids k q1).1;omega,(qM.lt o' hk).2⟩
 have gp:jE σ' (σ'.put 2 (O [.slice a' (l.length+m.length) c'] 55 false)) (fun k=>k=2):=jE.put _ _ _ fun _=>rfl
 refine ⟨a',c',σ',e',g',g'.cellsE h.cell (by omega) (fun hk=>by have:=h.ids _ hk;omega),⟨?_,?_,?_,fun k hk=>hq1 k hk⟩,b'⟩
 ·rw[List.length_append]
  exact bM0 _ _ _ _
 ·rw[List.length_append]
  exact o'.grew gp fun k hk e=>by have:=hq1 k hk;omega
 ·refine ((h.rows.app hm).grew g' (Q':=fun k=>6≤k∧¬ blk a' k) fun k hk hlt=>⟨hk.2,hk.1,fun hka=>?_⟩).grew gp fun k hk _=>⟨by omega,hk⟩
  rcases b' k hka with q1|q1
  ·exact hk.2 q1
  ·omega
theorem rowS1 (k a:Int) (q:Option Addr) (m c:Nat) (σ:jA):bsD (qq.m 55) (slT Try.prog 55) 1 [(0,.agg ⟨[.int .i64 k,.slice q m c,.int .i64 a]⟩)] σ=some (Rw true 60 1 [.int .i64 k,.slice q m c,.int .i64 a],σ):=by kernel_rfl
theorem rowS2 (k a k' a':Int) (q q':Option Addr) (m c m' c':Nat) (σ:jA):bsD (qq.m 55) (slT Try.prog 55) 2 [(0,.agg ⟨[.int .i64 k,.slice q m c,.int .i64 a]⟩),(1,.agg ⟨[.int .i64 k',.slice q' m' c',.int .i64 a']⟩)] σ=some (Rw true 60 2 [.int .i64 k,.slice q m c,.int .i64 a,.int .i64 k',.slice q' m' c',.int .i64 a'],σ):=by kernel_rfl
theorem fF2 {ro:Option Nat} {t b:Tm} {p:List Int} {a:Option Addr} {n k:Nat} {l:List St} {q:Option Addr} {c:Nat} {cs:List Value} {σ:jA} (h:L1 σ l q c cs) (hlo:σ.lo=1) (hn:6≤σ.next) (hl:l.length<1000000000000)
  (ho:cO σ eI a n k (ivs p)) (hp:p.length<1000000000000) {T:jK→S→Prop} {df:List Nat}
  (hT:∀ (tm:VT) (σ':jA) (q':Option Addr) (c':Nat) (cs':List Value),L1 σ' (l++[⟨t.k,p,0⟩]) q' c' cs'→jE σ σ' (fun k=>k=2∨blk q k)→(∀ k,blk q' k→blk q k∨σ.next≤k)→(∀ k,gN cs' k→gN cs k∨σ.next≤k)→T .normal ⟨tm,df,σ'⟩) {x0 x1 x2 x5 x6 x7 x8 x9 xA xB xC xD xE xF xG xH xI xJ xK xL xM xN xO xP xQ xR xS xT xU xV xW xX xY xZ yA yB yC yD:Value} :
  dc3 (pp G) qq ro wM0 ⟨(F40 x0 x1 x2 (.pointer (some ⟨2,0,none⟩)) (Rpt 0 (spC t b a n k)) x5 x6 x7 x8 x9 xA xB xC xD xE xF xG xH xI xJ xK xL xM xN xO xP xQ xR xS xT xU xV xW xX xY xZ yA yB yC yD),df,σ⟩ T:=by
 rw[qO1]
 have hc:=h.cell
 simp(disch:=first|omega|(apply id;simp only[push_cast];try omega))only[push_cast,simprocAttr,hc,hlo]
 refine jC.func (cap:=[]) (args:=[_,_]) (kG1 G t b 0 ho hlo (by omega) hp) ?_
 rintro _ σ1 ⟨q1,m1,k1,rfl,hq1,g1,hb1⟩
 have hn1:=g1.next
 have h1:=h.grew g1 id (by omega) (fun _ _ h=>h)
 have hl1:σ1.lo=1:=by rw[g1.lo,hlo]
 have hr:bB σ1 (fun k=>6≤k∧¬ blk q k) [⟨t.k,p,0⟩] [.int .i64 t.k,.slice q1 m1 k1,.int .i64 0]:=.cons hq1 hp (fun b hb=>⟨by have:=hb1 b hb;omega,fun hqb=>by have:=hb1 b hb;have:=h.ids b hqb;omega⟩) .nil
 obtain ⟨a',c',σ2,e2,g2,hc2,h2,b2⟩:=h1.add hr hl1 (by omega) (by simp;omega)
 have hc1:=h1.cell
 have hl2:σ2.lo=1:=by rw[g2.lo,hl1]
 simp only[List.length_singleton] at e2
 simp(disch:=first|omega|(apply id;simp only[push_cast];try omega))only[push_cast,simprocAttr,hc1,hl1,↓rowS1,e2,hc2,hl2]
 have gp:jE σ2 (σ2.put 2 (O [.slice a' (l.length+1) c'] 55 false)) (fun k=>k=2):=jE.put _ _ _ fun _=>rfl
 refine hT _ _ a' c' _ h2 (((g1.mono (T:=fun k=>k=2∨blk q k) fun _ _ h=>h.elim).tr' g2 fun k _ h=>.inr h).tr' gp fun k _ h=>.inl h) (fun k hk=>?_) fun k hk=>?_
 ·rcases b2 k hk with q3|q3
  ·exact .inl q3
  ·exact .inr (by omega)
 ·rcases jC0.1 hk with q3|q3
  ·exact .inl q3
  ·exact .inr (hb1 k (zN0 q3))
def fnE:Value:=.func (.func 76) ⟨[]⟩ ⟨[.pointer (some ⟨3,0,none⟩)]⟩
def tmE (t n:Tm):VT:=F40 (tmV t) (.pointer (some ⟨1,0,none⟩)) (.slice none 0 0) (.pointer (some ⟨2,0,none⟩)) ud (tmV t) (tmV n) fnE ud ud ud ud ud ud ud ud ud ud ud ud ud ud ud ud ud ud ud ud ud ud ud ud ud ud ud ud ud ud ud ud
def lpE (t n:Tm):Loop:={ state:=.ready,pending:=none,fn:=0,tmps:=(tmE t n).arr,params:=#[8],assign:=subC Try.prog 39 1,body:=subC Try.prog 39 2,defers:=4 }
theorem setE (t n:Tm) (v:Value):kS (tmE t n) ((#[8]:Array Nat).toList.zip [v])=F40 (tmV t) (.pointer (some ⟨1,0,none⟩)) (.slice none 0 0) (.pointer (some ⟨2,0,none⟩)) ud (tmV t) (tmV n) fnE v ud ud ud ud ud ud ud ud ud ud ud ud ud ud ud ud ud ud ud ud ud ud ud ud ud ud ud ud ud ud ud:=by kernel_rfl
theorem setF4 {x0 x1 x2 x3 x5 x6 x7 x8 x9 xA xB xC xD xE xF xG xH xI xJ xK xL xM xN xO xP xQ xR xS xT xU xV xW xX xY xZ yA yB yC yD:Value} (u v:Value):VT.set (F40 x0 x1 x2 x3 u x5 x6 x7 x8 x9 xA xB xC xD xE xF xG xH xI xJ xK xL xM xN xO xP xQ xR xS xT xU xV xW xX xY xZ yA yB yC yD) 4 v=(F40 x0 x1 x2 x3 v x5 x6 x7 x8 x9 xA xB xC xD xE xF xG xH xI xJ xK xL xM xN xO xP xQ xR xS xT xU xV xW xX xY xZ yA yB yC yD):=by kernel_rfl
theorem getF4 {x0 x1 x2 x3 x5 x6 x7 x8 x9 xA xB xC xD xE xF xG xH xI xJ xK xL xM xN xO xP xQ xR xS xT xU xV xW xX xY xZ yA yB yC yD:Value} (u:Value):VT.get (F40 x0 x1 x2 x3 u x5 x6 x7 x8 x9 xA xB xC xD xE xF xG xH xI xJ xK xL xM xN xO xP xQ xR xS xT xU xV xW xX xY xZ yA yB yC yD) 4=u:=by kernel_rfl
structure Ye (t n:Tm) (acc:List Sp) (B:Nat→Prop) (σ:jA):Prop where
 lo:σ.lo=1
 nx:6≤σ.next
 lp:σ.get 5=some ⟨.loop (lpE t n),false⟩
 w:∃ q c cs,L1 σ (stS acc) q c cs∧B=fun k=>k=5∨k=2∨blk q k∨gN cs k
theorem ye (t nn:Tm):Ys G 5 (Ye t nn) (fun acc=>acc.length<400000000000) where
 lt:=fun {acc B σ} hY k hk=>by
  obtain ⟨hl,hn,hlp,q,c,cs,h1,rfl⟩:=hY
  rcases hk with rfl|rfl|hk|hk
  ·omega
  ·omega
  ·exact (h1.ids k hk).2
  ·exact (h1.rows.ins hk).1
 lo:=fun {acc B σ} hY=>⟨hY.lo,by have:=hY.nx;omega,by have:=hY.nx;omega⟩
 n:=fun {a b} h=>by rw[List.length_append] at h;omega
 st:=fun {acc B σ σ'} hY g=>by
  obtain ⟨hl,hn,hlp,q,c,cs,h1,rfl⟩:=hY
  have hgn:=g.next
  refine ⟨g.lo.trans hl,by omega,(g.get _ (by omega) (fun h=>h (.inl rfl))).trans hlp,q,c,cs,⟨g.cellsE h1.cell (by omega) (fun h=>h (.inr (.inl rfl))),h1.own.grew g (fun b hb h=>h (.inr (.inr (.inl hb)))),h1.rows.self.grew g fun k hk _=>⟨fun h=>h (.inr (.inr (.inr hk.2))),hk.1⟩,fun k hk=>⟨(h1.ids k hk).1,by have:=(h1.ids k hk).2;omega⟩⟩,rfl⟩
 y:=fun {acc B σ} hY tt bb p a n c hst hsb ho hba hp hab hN=>by
  obtain ⟨hl,hn,hlp,q,cc,cs,h1,rfl⟩:=hY
  rw[List.length_append,List.length_singleton] at hN
  have hsl:=eF0 acc
  refine jC.yieldG (q:=qq) (T:=tmE t nn) (jR G) (kZ hlp (by omega)) (by omega) rfl (by show 40<U;unfold U;omega) rfl nV1 nU1 (show irOk NGG cV1=true by kernel_rfl) (show irOk NGG cU1=true by kernel_rfl) (by rw[hl];exact (show NGG≤1 by decide)) ?_
  rw[show (lpE t nn).params=#[8] from rfl,setE,yD1]
  simp(disch:=first|omega|(apply id;simp only[push_cast];try omega))only[push_cast,simprocAttr]
  obtain ⟨τ,hτ⟩:∃ τ,τ=(σ.add (O [.int .i64 0,.int .i64 0,.int .i64 0,.string (Tx []),.int .i64 0,.int .i64 0,.string (Tx []),.slice none 0 0,.slice none 0 0,.int .i64 0,.int .i64 0,.int .i64 0,.string (Tx []),.int .i64 0,.int .i64 0,.string (Tx []),.slice none 0 0,.slice none 0 0,.slice none 0 0] 95 false)).put σ.next (O (spC tt bb a n c) 95 false):=⟨_,rfl⟩
  have g0:jE σ τ (fun _=>False):=by rw[hτ];exact (by (repeat (first|exact Gr.refl _|assumption|(refine jE.put' ?_ _ _ (by first|omega|(simp only[push_cast];omega)))|(refine jE.add' ?_ _))))
  have c0:cells τ σ.next=some (spC tt bb a n c,95,false):=by rw[hτ];simp(disch:=first|omega|(apply id;simp only[push_cast];try omega))only[push_cast,simprocAttr]
  have hn0:σ.next+1≤τ.next:=by rw[hτ];simp(disch:=first|omega|(apply id;simp only[push_cast];try omega))only[push_cast,simprocAttr];omega
  have hcg0:τ.get σ.next=some (O (spC tt bb a n c) 95 false):=by rw[hτ];exact gO _ _
  rw[← hτ]
  have hl0:τ.lo=1:=by rw[g0.lo,hl]
  have k1:=h1.grew g0 id (by omega) (fun _ _ h=>h)
  have klp:=(g0.get _ (by omega) id).trans hlp
  clear hτ
  simp only[kR,hi,iG0]
  rw[kZ klp (by omega)]
  dsimp only
  refine ⟨rfl,?_⟩
  rw[show (jQ τ 5 { lpE t nn with state:=.busy })=τ.put 5 ⟨.loop { lpE t nn with state:=.busy },false⟩ from rfl]
  obtain ⟨τ2,hτ2⟩:∃ τ2,τ2=τ.put 5 ⟨.loop { lpE t nn with state:=.busy },false⟩:=⟨_,rfl⟩
  rw[← hτ2]
  have g2:jE τ τ2 (fun k=>k=5):=by rw[hτ2];exact jE.put _ _ _ fun _=>rfl
  have b0:=g2.cellsE c0 (by omega) (by omega)
  have b1:=k1.grew g2 (by omega) (by omega) (fun k hk e=>by omega)
  have blp:τ2.get 5=some ⟨.loop { lpE t nn with state:=.busy },false⟩:=by rw[hτ2];exact gO _ _
  have hl2:τ2.lo=1:=by rw[g2.lo,hl0]
  have hn2:=g2.next
  have ho2:=(ho.grew g0 (fun _ _ h=>h)).grew g2 (fun k hk e=>hba k hk (.inl e))
  have hqn:∀ k,blk a k→k<σ.next:=fun k hk=>by
   obtain ⟨o,s,rfl⟩:=hk
   rcases ho.hat with ⟨h,_⟩|⟨b,h,_,h2,_⟩
   ·cases h
   ·cases h;exact h2
  obtain ⟨fr1,hgb⟩:=gR b0
  have hcg:=hcg0
  have hgb':τ2.get σ.next=some (O (spC tt bb a n c) 95 false):=by rw[hτ2,qF _ _ _ (by omega)];exact hcg
  refine ⟨_,zY2 (D:=⟨_,_,τ2⟩) (i:=σ.next) (k:=4) (by show τ2.lo≤_;omega) (by show _<τ2.next;omega) hgb' (by rw[nP0];decide) (by show 4<40;decide) (getF4 _),?_⟩
  rw[setF4]
  show dc3 _ _ _ _ ⟨_,[],hflt (fun j=>!Nat.beq j σ.next) τ2⟩ _
  have gF:=mG1 τ2 σ.next
  have hrn:∀ k,gN cs k→k<σ.next:=fun k hk=>(h1.rows.ins hk).1
  have b1:L1 (hflt (fun j=>!Nat.beq j σ.next) τ2) (stS acc) q cc cs:=⟨gF.cellsE b1.cell (by omega) (by omega),b1.own.grew gF (fun k hk e=>by have:=(h1.ids k hk).2;omega),b1.rows.self.grew gF (fun k hk _=>⟨fun e=>by have:=hrn k hk.2;omega,hk.1⟩),fun k hk=>⟨(b1.ids k hk).1,by rw[bA0];exact (b1.ids k hk).2⟩⟩
  have ho2:=ho2.grew gF (fun k hk e=>by have:=hqn k hk;omega)
  have blp:=(gF.get 5 (by omega) (by omega)).trans blp
  have hl2:(hflt (fun j=>!Nat.beq j σ.next) τ2).lo=1:=by rw[dB1,hl2]
  have hn3:=bA0 (fun j=>!Nat.beq j σ.next) τ2
  have gg:jE σ (hflt (fun j=>!Nat.beq j σ.next) τ2) (fun k=>k=5∨k=2∨blk q k∨gN cs k):=((g0.mono fun _ _ h=>h.elim).tr' g2 fun k _ h=>.inl h).tr' gF fun k hk e=>by omega
  clear hτ2 g2 g0 hgb hgb' gF b0 hcg
  generalize hflt (fun j=>!Nat.beq j σ.next) τ2=τ2' at *
  rw[yC1]
  have hsn:=iS1 acc ⟨tt,bb,p⟩
  have fin : ∀ (D : S) (q' : Option Addr) (c' : Nat) (cs' : List Value), L1 D.h (stS (acc ++ [⟨tt, bb, p⟩])) q' c' cs' → jE τ2' D.h (fun k => k = 2 ∨ blk q k) → (∀ k, blk q' k → blk q k ∨ τ2'.next ≤ k) → (∀ k, gN cs' k → gN cs k ∨ τ2'.next ≤ k) →
    qW0 5 (fun (_:Bool) v σ'=>v=.bool true∧∃ B',Ye t nn (acc++[⟨tt,bb,p⟩]) B' σ'∧(∀ k,B' k→(k=5∨k=2∨blk q k∨gN cs k)∨σ.next≤k)∧jE σ σ' (fun k=>k=5∨k=2∨blk q k∨gN cs k)) .normal D:=by
   rintro ⟨tm,df,τ3⟩ q' c' cs' f1 f2 f3 f4
   have f7:τ2'.next≤τ3.next:=f2.next
   have f8:τ3.lo=1:=f2.lo.trans hl2
   have f9:τ3.get 5=some ⟨.loop { lpE t nn with state:=.busy },false⟩:=(f2.get _ (by omega) (fun hk=>by
    rcases hk with hk|hk
    ·omega
    ·have:=h1.ids _ hk;omega)).trans blp
   simp only[qW0]
   rw[kZ f9 (by omega)]
   have gp:jE τ3 (jQ τ3 5 (lpE t nn)) (fun k=>k=5):=jE.put _ _ _ fun _=>rfl
   refine ⟨rfl,fun k=>k=5∨k=2∨blk q' k∨gN cs' k,⟨f8,(by show 6≤τ3.next;omega),gO _ _,q',c',cs',f1.grew gp (by omega) (by show _<τ3.next;omega) (fun k hk e=>by omega),rfl⟩,fun k hk=>?_,(gg.tr' f2 fun k hk h=>.inr (by rcases h with h|h;exact .inl h;exact .inr (.inl h))).tr' gp fun k hk h=>.inl h⟩
   rcases hk with rfl|rfl|hk|hk
   ·exact .inl (.inl rfl)
   ·exact .inl (.inr (.inl rfl))
   ·rcases f3 k hk with h|h
    ·exact .inl (.inr (.inr (.inl h)))
    ·exact .inr (by omega)
   ·rcases f4 k hk with h|h
    ·exact .inl (.inr (.inr (.inr h)))
    ·exact .inr (by omega)
  have none:stF ⟨tt,bb,p⟩=[]→∀ (tm:VT) (df:List Nat),qW0 5 (fun (_:Bool) v σ'=>v=.bool true∧∃ B',Ye t nn (acc++[⟨tt,bb,p⟩]) B' σ'∧(∀ k,B' k→(k=5∨k=2∨blk q k∨gN cs k)∨σ.next≤k)∧jE σ σ' (fun k=>k=5∨k=2∨blk q k∨gN cs k)) .normal ⟨tm,df,τ2'⟩:=fun he tm df=>
   fin _ q cc cs (by rw[hsn,he,List.append_nil];exact b1) (jE.refl _ _) (fun _ h=>.inl h) (fun _ h=>.inl h)
  by_cases e1:tt.k=0
  ·simp(disch:=first|omega|(apply id;simp only[push_cast];try omega))only[push_cast,simprocAttr,hl2,e1]
   rw[jB0]
   simp(disch:=first|omega|(apply id;simp only[push_cast];try omega))only[push_cast,simprocAttr]
   exact none (by unfold stF;rw[if_pos (.inl e1)]) _ _
  by_cases e2:tt.k=14
  ·simp(disch:=first|omega|(apply id;simp only[push_cast];try omega))only[push_cast,simprocAttr,hl2,e1,e2]
   rw[jB0]
   simp(disch:=first|omega|(apply id;simp only[push_cast];try omega))only[push_cast,simprocAttr]
   exact none (by unfold stF;rw[if_pos (.inr (.inl e2))]) _ _
  by_cases e3:tt.k=12
  ·simp(disch:=first|omega|(apply id;simp only[push_cast];try omega))only[push_cast,simprocAttr,hl2,e1,e2,e3]
   rw[jB0]
   simp(disch:=first|omega|(apply id;simp only[push_cast];try omega))only[push_cast,simprocAttr]
   exact none (by unfold stF;rw[if_pos (.inr (.inr (.inl e3)))]) _ _
  by_cases e4:tt.k=11
  ·simp(disch:=first|omega|(apply id;simp only[push_cast];try omega))only[push_cast,simprocAttr,hl2,e1,e2,e3,e4]
   rw[jB0]
   simp(disch:=first|omega|(apply id;simp only[push_cast];try omega))only[push_cast,simprocAttr]
   exact none (by unfold stF;rw[if_pos (.inr (.inr (.inr (.inl e4))))]) _ _
  by_cases e5:tt.k=7
  ·simp(disch:=first|omega|(apply id;simp only[push_cast];try omega))only[push_cast,simprocAttr,hl2,e1,e2,e3,e4,e5]
   rw[jB0]
   simp(disch:=first|omega|(apply id;simp only[push_cast];try omega))only[push_cast,simprocAttr]
   exact none (by unfold stF;rw[if_pos (.inr (.inr (.inr (.inr e5))))]) _ _
  have e0:¬ (tt.k=0∨tt.k=14∨tt.k=12∨tt.k=11∨tt.k=7):=by omega
  have hss:(stS acc).length<1000000000000:=by omega
  simp(disch:=first|omega|(apply id;simp only[push_cast];try omega))only[push_cast,simprocAttr,hl2,e1,e2,e3,e4,e5]
  rw[jB0]
  by_cases e6:tt.k=8
  ·simp(disch:=first|omega|(apply id;simp only[push_cast];try omega))only[push_cast,simprocAttr,hl2,e6]
   refine jC.dataI (jA2 G bb hsb (by omega)) (by and_intros<;>first|rfl|(simp(disch:=first|omega|(apply id;simp only[push_cast];try omega))only[push_cast])) ?_
   have hlv:lnD (some false) (ivV (kN bb))=some (.int .i64 (kN bb).length):=rfl
   by_cases hw:kN bb=[]
   ·have hw0:¬ (0:Int)<(kN bb).length:=by rw[hw];simp
    simp(disch:=first|omega|(apply id;simp only[push_cast];try omega))only[push_cast,simprocAttr,hlv,hw0]
    refine fF2 G b1 hl2 (by omega) hss ho2 hp ?_
    intro tm σ' q' c' cs' r1 r2 r3 r4
    simp(disch:=first|omega|(apply id;simp only[push_cast];try omega))only[push_cast,simprocAttr]
    refine fin _ q' c' cs' ?_ r2 r3 r4
    rw[hsn,show stF ⟨tt,bb,p⟩=[⟨tt.k,p,0⟩] by unfold stF;rw[if_neg e0,if_pos e6,if_pos hw,e6]]
    exact r1
   ·have hw':(0:Int)<(kN bb).length:=by have:=List.length_pos_iff.2 hw;omega
    simp(disch:=first|omega|(apply id;simp only[push_cast];try omega))only[push_cast,simprocAttr,hlv,hw']
    exact none (by unfold stF;rw[if_neg e0,if_pos e6,if_neg hw]) _ _
  by_cases e7:tt.k=10
  ·have hc1:=b1.cell
   simp(disch:=first|omega|(apply id;simp only[push_cast];try omega))only[push_cast,simprocAttr,hl2,e6,e7,hc1]
   refine jC.func (cap:=[]) (args:=[_,_]) (kG1 G tt bb 0 ho2 hl2 (by omega) hp) ?_
   rintro _ σ1 ⟨q1,m1,k1,rfl,hq1,g1,hb1⟩
   have n1:=g1.next
   have r1:=b1.grew g1 id (by omega) (fun _ _ h=>h)
   have hl3:σ1.lo=1:=by rw[g1.lo,hl2]
   have hc2:=r1.cell
   simp(disch:=first|omega|(apply id;simp only[push_cast];try omega))only[push_cast,simprocAttr,hc2,hl3]
   refine jC.func (cap:=[]) (args:=[_,_]) (kG1 G tt bb 1 (ho2.grew g1 (fun _ _ h=>h)) hl3 (by omega) hp) ?_
   rintro _ σ2 ⟨q2,m2,k2,rfl,hq2,g2,hb2⟩
   have n2:=g2.next
   have r2:=r1.grew g2 id (by omega) (fun _ _ h=>h)
   have hl4:σ2.lo=1:=by rw[g2.lo,hl3]
   have hr:bB σ2 (fun k=>6≤k∧¬ blk q k) [⟨tt.k,p,0⟩,⟨tt.k,p,1⟩] ([.int .i64 tt.k,.slice q1 m1 k1,.int .i64 0]++([.int .i64 tt.k,.slice q2 m2 k2,.int .i64 1]++[])):=
    .cons (hq1.grew g2 (fun _ _ h=>h)) hp (fun b hb=>⟨by have:=hb1 b hb;omega,fun hqb=>by have:=hb1 b hb;have:=b1.ids b hqb;omega⟩) (.cons hq2 hp (fun b hb=>⟨by have:=hb2 b hb;omega,fun hqb=>by have:=hb2 b hb;have:=b1.ids b hqb;omega⟩) .nil)
   obtain ⟨a',c',σ3,e8,g3,hc4,h3,b3⟩:=r2.add hr hl4 (by omega) (by simp;omega)
   have hc3:=r2.cell
   have hl5:σ3.lo=1:=by rw[g3.lo,hl4]
   have e9:apS 60 3 40 (.slice q (stS acc).length cc) (some (2,[.int .i64 tt.k,.slice q1 m1 k1,.int .i64 0,.int .i64 tt.k,.slice q2 m2 k2,.int .i64 1])) σ2=some (.slice a' ((stS acc).length+2) c',σ3):=e8
   rw[e7] at e9
   simp(disch:=first|omega|(apply id;simp only[push_cast];try omega))only[push_cast,simprocAttr,hc3,hl4,e7,↓rowS2,e9,hc4,hl5]
   have gp:jE σ3 (σ3.put 2 (O [.slice a' ((stS acc).length+2) c'] 55 false)) (fun k=>k=2):=jE.put _ _ _ fun _=>rfl
   refine fin _ a' c' (cs++([.int .i64 tt.k,.slice q1 m1 k1,.int .i64 0]++([.int .i64 tt.k,.slice q2 m2 k2,.int .i64 1]++[]))) ?_ ((((g1.trans g2 fun _ _ h=>h).mono (T:=fun k=>k=2∨blk q k) fun _ _ h=>h.elim).tr' g3 fun k _ h=>.inr h).tr' gp fun k _ h=>.inl h) (fun k hk=>?_) fun k hk=>?_
   ·rw[hsn,show stF ⟨tt,bb,p⟩=[⟨tt.k,p,0⟩,⟨tt.k,p,1⟩] by unfold stF;rw[if_neg e0,if_neg e6,if_pos e7,e7]]
    exact h3
   ·rcases b3 k hk with h|h
    ·exact .inl h
    ·exact .inr (by omega)
   ·rcases jC0.1 hk with h|h
    ·exact .inl h
    ·rcases jC0.1 h with h|h
     ·exact .inr (by have:=hb1 k (zN0 h);omega)
     ·rw[List.append_nil] at h
      exact .inr (by have:=hb2 k (zN0 h);omega)
  ·simp(disch:=first|omega|(apply id;simp only[push_cast];try omega))only[push_cast,simprocAttr,hl2,e6,e7]
   refine fF2 G b1 hl2 (by omega) hss ho2 hp ?_
   intro tm σ' q' c' cs' r1 r2 r3 r4
   simp(disch:=first|omega|(apply id;simp only[push_cast];try omega))only[push_cast,simprocAttr]
   refine fin _ q' c' cs' ?_ r2 r3 r4
   rw[hsn,show stF ⟨tt,bb,p⟩=[⟨tt.k,p,0⟩] by unfold stF;rw[if_neg e0,if_neg e6,if_neg e7]]
   exact r1
theorem yI1 (x:Tm) (σ:jA) (hl0:1≤σ.lo):jI (pp G) H0 61 [tmV x] σ (fun v σ'=>v=.func (.func 76) ⟨[]⟩ ⟨[.pointer (some ⟨σ.next,0,none⟩)]⟩∧σ'=σ.add (O (tmC x) 34 false)):=by
 refine jI.fir4 (q:=qq) (jR G) fir61 (by kernel_rfl) rfl rfl (tZ1 ..) (by first|exact Nat.le_trans (show NGG≤1 by decide) (by omega)) ?_;rw[uN2]
 simp(disch:=first|omega|(apply id;simp only[push_cast];try omega))only[push_cast,simprocAttr]
 try exact ⟨rfl,rfl⟩
theorem qX1 {lid:Nat} {Y:List Sp→(Nat→Prop)→jA→Prop} {N:List Sp→Prop} (yp:Ys G lid Y N) (x:Tm) (hs:smT x=true) (hx:(kO x).length<1000000000000) (b:Nat) (B:Nat→Prop) (σ:jA) (hb:cells σ b=some (tmC x,34,false)) (hb1:1≤b) (hY:Y [] B σ) (hN:N (spT x x [])) :
  jI (pp G) H0 76 [.func (.yield lid) ⟨[]⟩ ⟨[]⟩,.pointer (some ⟨b,0,none⟩)] σ (fun _ σ'=>zI1 Y (spT x x []) B σ (.bool true) σ'):=by
 obtain ⟨hl1,hl2,hl3⟩:=yp.lo hY
 refine jI.fir4 (q:=qq) (jR G) fir76 (by kernel_rfl) rfl rfl (fN1 ..) (by first|exact Nat.le_trans (show NGG≤1 by decide) (by omega)) ?_;rw[uA2]
 simp(disch:=first|omega|(apply id;simp only[push_cast];try omega))only[push_cast,simprocAttr,hb,hl1,↓spB2]
 refine jC.func (cap:=[]) (args:=[_,_]) (eA1 G yp x hs x [] [] B σ none 0 0 hs hx (by rw[List.length_nil];omega) (cO.nil _ _) (fun k hk=>by obtain ⟨o,s,e⟩:=hk;cases e) hY hN) ?_
 rintro _ σ2 ⟨rfl,B2,hY2,hB2,g2⟩
 simp(disch:=first|omega|(apply id;simp only[push_cast];try omega))only[push_cast,simprocAttr]
 exact ⟨rfl,B2,hY2,hB2,g2⟩
mutual
theorem gD0:∀ (x u:Tm) (p:List Int),(spT x u p).length=(kO x).length
 | .mk k a b s e l,u,p=>by
  rw[spT,kO,List.length_cons,List.length_cons]
  by_cases h12:k=12
  ·rw[if_pos h12,if_pos h12,jY2 l]
  rw[if_neg h12,if_neg h12]
  by_cases h7:k=7
  ·rw[if_pos h7,if_pos (.inr h7),nN0 l]
  rw[if_neg h7]
  by_cases h11:k=11
  ·rw[if_pos h11,if_pos (.inl h11),nN0 l]
  ·rw[if_neg h11,if_neg (by omega)];rfl
theorem nN0:∀ (l:List Tm) (u:Tm) (p:List Int) (j:Nat),(spL l u p j).length=(gJ l).length
 | [],_,_,_=>rfl
 | x :: l,u,p,j=>by rw[spL,gJ,List.length_append,List.length_append,gD0 x,nN0 l]
theorem jY2:∀ (l:List Tm) (u:Tm) (p:List Int),(spH l u p).length=(actH l).length
 | [],_,_=>rfl
 | x :: l,u,p=>by rw[spH,actH,gD0 x]
end
theorem mO0 (t:Tm) (hs:smT t=true) (hn:smT (jL t)=true) (ha:(kO (jL t)).length<400000000000):jN (pp G) H0 39 [tmV t] (stsV (enF t)):=by
 have hnf:=tF1 G t hs
 unfold enF
 generalize hnn:jL t=nn at *
 have hlo:H0.lo≤H0.next:=Nat.le_refl _;refine jN.cut (jI.fir4 (q:=qq) (jR G) fir39 (by kernel_rfl) rfl rfl (gB2 ..) (show NGG≤H0.lo by rw[qQ];decide) ?_);rw[uW2]
 simp(disch:=first|omega|(apply id;simp only[push_cast];try omega))only[push_cast,simprocAttr]
 refine WinD.of (q:=qq) (jR G) nW1 (show irOk NGG cW1=true by kernel_rfl) ?_
 rw[yE1]
 simp(disch:=first|omega|(apply id;simp only[push_cast];try omega))only[push_cast,simprocAttr]
 refine jC.dataI (hnf) (by and_intros<;>first|rfl|(simp(disch:=first|omega|(apply id;simp only[push_cast];try omega))only[push_cast])) ?_
 simp(disch:=first|omega|(apply id;simp only[push_cast];try omega))only[push_cast,simprocAttr]
 refine jC.func (cap:=[]) (args:=[_]) (yI1 G nn _ (by simp(disch:=first|omega|(apply id;simp only[push_cast];try omega))only[push_cast,simprocAttr])) ?_
 rintro _ _ ⟨rfl,rfl⟩
 simp(disch:=first|omega|(apply id;simp only[push_cast];try omega))only[push_cast,simprocAttr]
 obtain ⟨σ,hσ⟩:∃ σ,σ=((H0.add (O (tmC t) 34 false)).add (O [.slice none 0 0] 55 false)).add (O (tmC nn) 34 false):=⟨_,rfl⟩
 have n4:σ.next=4:=by rw[hσ];simp(disch:=first|omega|(apply id;simp only[push_cast];try omega))only[push_cast,simprocAttr]
 have l4:σ.lo=1:=by rw[hσ];simp(disch:=first|omega|(apply id;simp only[push_cast];try omega))only[push_cast,simprocAttr]
 have c2:cells σ 2=some ([.slice none 0 0],55,false):=by rw[hσ];simp(disch:=first|omega|(apply id;simp only[push_cast];try omega))only[push_cast,simprocAttr]
 have c3:cells σ 3=some (tmC nn,34,false):=by rw[hσ];simp(disch:=first|omega|(apply id;simp only[push_cast];try omega))only[push_cast,simprocAttr]
 rw[← hσ]
 clear hσ
 refine WD.range (q:=qq) (jR G) (f:=76) (captured:=[.pointer (some ⟨3,0,none⟩)]) rfl rfl ?_
 show jI _ _ _ (.func (.yield (σ.next+1)) _ _ :: _) ((σ.add _).add ⟨.loop { state:=.ready,pending:=none,fn:=0,tmps:=_,params:=_,assign:=_,body:=_,defers:=σ.next },false⟩) (zM0 (σ.next+1) _ [σ.next] _)
 rw[n4]
 have g1:jE σ ((σ.add ⟨.deferred (some []),false⟩).add ⟨.loop (lpE t nn),false⟩) (fun _=>False):=(jE.add _ _ _).trans (jE.add _ _ _) fun _ _ h=>h
 have hY:Ye t nn [] (fun k=>k=5∨k=2∨blk none k∨gN [] k) ((σ.add ⟨.deferred (some []),false⟩).add ⟨.loop (lpE t nn),false⟩):=by
  refine ⟨by simp(disch:=first|omega|(apply id;simp only[push_cast];try omega))only[push_cast,simprocAttr,l4],by simp(disch:=first|omega|(apply id;simp only[push_cast];try omega))only[push_cast,simprocAttr,n4],bC _ _ (by rw[jJ,n4]),none,0,[],⟨g1.cellsE c2 (by omega) id,qM.nil _ _ _,.nil,fun k hk=>?_⟩,rfl⟩
  obtain ⟨o,s,e⟩:=hk
  cases e
 refine (qX1 G (ye G t nn) nn hn (by omega) 3 _ _ (g1.cellsE c3 (by omega) id) (by decide) hY (by rw[gD0];exact ha)).mono ?_
 rintro v σ2 ⟨-,B2,hY2,hB2,g2⟩
 obtain ⟨hl,hnx,hlp,q,c,cs,h1,rfl⟩:=hY2
 have hmk:σ2.get 4=some ⟨.deferred (some []),false⟩:=by
  refine (g2.get _ (by rw[jJ,jJ];omega) ?_).trans ?_
  ·rintro (h|h|⟨o,s,e⟩|⟨n,c,e⟩)
   ·omega
   ·omega
   ·cases e
   ·cases e
  ·rw[qN _ _ (by rw[jJ];omega),bC _ _ n4.symm]
 have gp:jE σ2 (jQ σ2 5 { lpE t nn with state:=.exhausted }) (fun k=>k=5):=jE.put _ _ _ fun _=>rfl
 refine sA0 (kZ hlp (by omega)) rfl rfl ?_
 generalize jQ σ2 5 { lpE t nn with state:=.exhausted }=τ at gp
 have h2:=h1.grew gp (by omega) (by omega) (fun k hk e=>by omega)
 have r1:=h2.cell
 have r3:=(gp.get _ (by omega) (by omega)).trans hmk
 have r4:τ.lo=1:=by rw[gp.lo,hl]
 have hsl:=eF0 (spT nn nn [])
 rw[gD0] at hsl
 simp(disch:=first|omega|(apply id;simp only[push_cast];try omega))only[push_cast,simprocAttr]
 rw[qP1]
 simp(disch:=first|omega|(apply id;simp only[push_cast];try omega))only[push_cast,simprocAttr,r1,r4]
 rw[kZ0 r3 (by omega),show gA [] (τ.put 4 ⟨.deferred none,false⟩)=some (τ.put 4 ⟨.deferred none,false⟩) from rfl]
 simp(disch:=first|omega|(apply id;simp only[push_cast];try omega))only[push_cast,simprocAttr]
 have g4:jE τ (τ.put 4 ⟨.deferred none,false⟩) (fun k=>k=4):=jE.put _ _ _ fun _=>rfl
 have h3:=h2.grew g4 (by omega) (by have:=gp.next;omega) (fun k hk e=>by omega)
 exact qM.fz (P:=(pp G).P) (N:=1) h3.own (by rfl) (by decide) (by omega) (h3.rows.fz rfl fun b hb=>by omega) (fun k hk=>by have:=(h3.ids k hk).1;omega)
theorem kH1 (n:Nat) (hn:0<n):∀ l:List St,scL n (stCs l)=true
 | []=>rfl
 | x :: l=>by
  rw[stCs]
  refine kA0 ?_ (kH1 n hn l)
  simp[stC,scL,Ev.sc,Rw,hn,kY0]
@[push_cast]theorem stsV_sc (n:Nat) (hn:0<n) (l:List St):Ev.sc n (stsV l)=true:=by
 simp[stsV,scL,Ev.sc,Rw,hn,kH1 n hn l]
end
end Go.Proofs.Ytgeakofgklcipaa
