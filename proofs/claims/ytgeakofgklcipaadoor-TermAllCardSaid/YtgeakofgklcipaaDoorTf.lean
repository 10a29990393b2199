/-
  A part of the proof: what the program's functions hand back,as theorems. No condition but those that each theorem names.
-/
import Derived.Test.YtgeakofgklcipaaDoorTd
import Derived.Test.YtgeakofgklcipaaDoorTe
import Derived.Test.YtgeakofgklcipaaDoorTa
import Derived.Test.YtgeakofgklcipaaDoorTc
import Derived.Test.YtgeakofgklcipaaDoorExd
import Derived.Test.YtgeakofgklcipaaDoorEvd
import Derived.Test.YtgeakofgklcipaaDoorTb
set_option linter.unusedSimpArgs false
set_option linter.unusedVariables false
namespace Go.Proofs.YtgeakofgklcipaaDoor
open _root_.Go.Proofs.Tryd (prog)
open Go Go.RowKit Go.Ev Go.Dv
noncomputable section
attribute [local push_cast] eq_self iff_self
set_option maxRecDepth 100000
mutual
def okPr (V Sk D:List (List UInt8)):Pr→Bool
 | .mk k n t e l=>decide (0≤k∧k<14∧(l.length:Int)=shL k)&&(decide (k=1→n≠[]∧qN0 n=true∧(t=[]∨t∈V))&&(decide (k=2→t∈V)&&(decide (k=3∨k=4∨k=5∨k=6→n∈Sk)&&(decide (k=6→t∈Sk)&&(decide (k=13→n∈D)&&(decide (k=2∨k=9→jZ V.length (lowE V e)=true)&&zD1 V Sk D l))))))
def zD1 (V Sk D:List (List UInt8)):List Pr→Bool
 | []=>true
 | x :: l=>okPr V Sk D x&&zD1 V Sk D l
end
theorem uT0 {l:List (List UInt8)} {s:List UInt8} (h:s∈l):0≤gW l s∧gW l s<l.length:=by
 have h1:=mR0 h
 have h2:=rS1 l s
 omega
theorem oH0 {v:Int}:∀ {e:Ex},jZ v e=true→uW e=true
 | .mk k n s l,h=>by
  have:k≠0:=by
   rintro rfl
   simp[jZ] at h
  simp[uW,Ex.k,this]
theorem eN0:uW (.mk 0 0 [] [])=false:=rfl
theorem W_id {a:Int} (h:-9223372036854775808≤a∧a≤9223372036854775807):W a=a:=by
 unfold W;simp only[IntKind.wrap_i64];omega
mutual
theorem jF0:∀ x:Tm,1≤qR x
 | .mk _ _ _ _ _ l=>by rw[qR];have:=jB0 l;omega
theorem jB0:∀ l:List Tm,0≤jU l
 | []=>by simp[jU]
 | x :: l=>by rw[jU];have:=jF0 x;have:=jB0 l;omega
end
mutual
theorem sB0 (V Sk D:List (List UInt8)) (w:Int):∀ (x:Pr) (push:Bool) (n:Int),okPr V Sk D x=true→0≤n→n+qR (cJ V Sk D x)<4611686018427387904→
  jY V.length Sk.length D.length push (wtF w push (cJ V Sk D x) n).1=true∧n≤(wtF w push (cJ V Sk D x) n).2∧(wtF w push (cJ V Sk D x) n).2≤n+qR (cJ V Sk D x)∧qR (wtF w push (cJ V Sk D x) n).1≤qR (cJ V Sk D x)
 | .mk k m t e l,push,n,hg,hn,hs=>by
  simp only[okPr,Bool.and_eq_true,decide_eq_true_eq] at hg
  obtain ⟨⟨hk0,hk1,hll⟩,h1,h2,h3,h4,h5,h6,hgl⟩:=hg
  rw[cJ] at hs ⊢
  rw[qR] at hs
  have hpos:=jB0 (kY V Sk D l)
  have ih:=fun q=>iX0 V Sk D w l q n hgl hn (by omega)
  by_cases hk:k=1
  ·subst hk
   obtain rfl:l=[]:=by
    cases l with
    | nil=>rfl
    | cons x l=>simp[shL] at hll;omega
   obtain ⟨hm,hnm,ht⟩:=h1 rfl
   have hW:W (n+1)=n+1:=W_id (by omega)
   have hA:lowA V Sk D 1 m t = -1∨0≤lowA V Sk D 1 m t∧lowA V Sk D 1 m t<V.length:=by
    unfold lowA
    rw[if_pos rfl]
    split
    ·exact .inl rfl
    ·rename_i h
     exact .inr (uT0 (ht.resolve_left h))
   have hB:lowB Sk 1 t=0:=by simp[lowB]
   have hN:lowN 1 m=m:=by simp[lowN]
   have hX:lowX V 1 e=.mk 0 0 [] []:=by simp[lowX]
   rw[hB,hN,hX,kY,wtF,if_pos rfl]
   by_cases hc:(!push&&wtB w n)=true
   ·rw[if_pos hc]
    have hp:push=false:=by cases push<;>simp_all
    subst hp
    refine ⟨?_,by show n≤W (n+1);omega,by show W (n+1)≤_;rw[qR,jU];omega,by simp[qR,jU]⟩
    simp[jY,qL,cZ,shA,shB,shN,shE,shL,eN0,hm,hnm,hn]
    omega
   ·rw[if_neg hc]
    refine ⟨?_,by show n≤W (n+1);omega,by show W (n+1)≤_;rw[qR,jU];omega,by simp[wtL]⟩
    simp[wtL,jY,qL,cZ,shA,shB,shN,shE,shL,eN0,hm,hnm]
    omega
  ·rw[wtF,if_neg hk]
   have ih':=ih (push || is3 k)
   have hwl:(wtL w (push || is3 k) (kY V Sk D l) n).1.length=l.length:=by rw[gC0,zJ0,List.length_map]
   refine ⟨?_,ih'.2.1,by rw[qR];have:=ih'.2.2.1;show (wtL w (push || is3 k) (kY V Sk D l) n).2≤_;omega,by rw[qR,qR];have:=ih'.2.2.2;omega⟩
   have ihr:=ih'.1
   generalize wtL w (push || is3 k) (kY V Sk D l) n=r at hwl ihr ⊢
   rw[jY]
   have hz:(r.1.length:Int)=shL k:=by rw[hwl];exact hll
   have hN:lowN k m=[]:=by unfold lowN;rw[if_neg hk]
   rw[hN]
   have e14:¬ k=14:=by omega
   have e15:k<15:=by omega
   have i3:is3 k=decide (k=3):=rfl
   rw[i3] at ihr
   rw[ihr,hz]
   have fA:cZ V.length Sk.length D.length (shA k) (lowA V Sk D k m t)=true:=by
    unfold cZ shA lowA
    by_cases e2:k=2
    ·have:=uT0 (h2 e2)
     subst e2;simp;omega
    by_cases e3:k=3∨k=4∨k=5∨k=6
    ·have:=uT0 (h3 e3)
     rcases e3 with rfl|rfl|rfl|rfl<;>(simp;omega)
    by_cases e13:k=13
    ·have:=uT0 (h5 e13)
     subst e13;simp;omega
    ·simp only[not_or] at e3
     simp[hk,e2,e3,e13,e14]
   have fB:cZ V.length Sk.length D.length (shB k) (lowB Sk k t)=true:=by
    unfold cZ shB lowB
    by_cases e6:k=6
    ·have:=uT0 (h4 e6)
     subst e6;simp;omega
    ·simp[e6,e14]
   have fE:(if uW (lowX V k e)=true then (1:Int) else 0)=shE k∧(!uW (lowX V k e) || jZ V.length (lowX V k e))=true:=by
    unfold lowX shE
    by_cases e2:k=2∨k=9
    ·rw[if_pos e2,if_pos e2]
     have:=h6 e2
     have hgv:=oH0 this
     rw[hgv,this];simp
    ·rw[if_neg e2,if_neg e2]
     simp[eN0]
   rw[fA,fB,fE.2]
   have fN:(0:Int)=shN k:=by unfold shN;rw[if_neg (by omega)]
   simp[fE.1,← fN,hk0,e15,e14]
theorem iX0 (V Sk D:List (List UInt8)) (w:Int):∀ (l:List Pr) (push:Bool) (n:Int),zD1 V Sk D l=true→0≤n→n+jU (kY V Sk D l)<4611686018427387904→
  qL V.length Sk.length D.length push (wtL w push (kY V Sk D l) n).1=true∧n≤(wtL w push (kY V Sk D l) n).2∧(wtL w push (kY V Sk D l) n).2≤n+jU (kY V Sk D l)∧jU (wtL w push (kY V Sk D l) n).1≤jU (kY V Sk D l)
 | [],push,n,hg,hn,hs=>by simp[kY,wtL,qL,jU]
 | x :: l,push,n,hg,hn,hs=>by
  simp only[zD1,Bool.and_eq_true] at hg
  rw[kY,jU] at hs
  have p1:=jF0 (cJ V Sk D x)
  have p2:=jB0 (kY V Sk D l)
  have i1:=sB0 V Sk D w x push n hg.1 hn (by omega)
  have i2:=iX0 V Sk D w l push (wtF w push (cJ V Sk D x) n).2 hg.2 (by omega) (by omega)
  rw[kY,wtL]
  refine ⟨?_,by show n≤(wtL w push (kY V Sk D l) (wtF w push (cJ V Sk D x) n).2).2;omega,by rw[jU];show (wtL w push (kY V Sk D l) (wtF w push (cJ V Sk D x) n).2).2≤_;omega,by rw[jU,jU];omega⟩
  rw[qL,i1.1,i2.1];rfl
end
theorem mG0 (V:List (List UInt8)) (k n:Int) (s:List UInt8) (l:List Ex) (h:k≠2):lowE V (.mk k n s l)=.mk k n [] (wA0 V l):=by rw[lowE,if_neg h]
theorem dR0 {v n:Int} (hn:0≤n):jZ v (.mk 1 n [] [])=true:=by simp[jZ,kH,hn]
theorem dT0 (n:Int) (l:List Ex) (i:Nat) (h:∀ x∈l,jZ 3 (lowE jO x)=true):jZ 3 (lowE jO (kI0 n l i))=true:=by
 unfold kI0
 rw[List.getD_eq_getElem?_getD]
 cases hx:l[i]? with
 | none=>
  show jZ 3 (lowE jO (.mk 1 _ [] []))=true
  rw[mG0 _ _ _ _ _ (by decide)]
  exact dR0 (qC (by omega)).1
 | some x=>exact h x (List.mem_of_getElem? hx)
mutual
theorem mE0:∀ x:Ra,jZ 3 (lowE jO (mkF jO x))=true
 | .mk k n l=>by
  have ih:=mD0 l
  have hw:=qC (a:=k) (n:=24) (by omega)
  have hp:=dT0 n (mkL jO l) 0 ih
  have hq:=dT0 n (mkL jO l) 1 ih
  rw[mkF]
  by_cases h1:jN k 24<4
  ·rw[if_pos h1,mG0 _ _ _ _ _ (by decide)]
   refine dR0 ?_
   have hn:=qC (a:=n) (n:=8) (by omega)
   obtain ⟨j,hj⟩:∃ j:Nat,jN n 8=j:=⟨(jN n 8).toNat,by omega⟩
   rw[hj,Int.toNat_natCast]
   have hj8:j<8:=by omega
   have:∀ j:Nat,j<8→0≤cS1.getD j 0:=by decide
   exact this j hj8
  rw[if_neg h1]
  by_cases h2:jN k 24<9
  ·rw[if_pos ⟨h2,by decide⟩,lowE,if_pos rfl]
   have hn:=qC (a:=n) (n:=3) (by omega)
   have hm:jO.getD (jN n jO.length).toNat []∈jO:=jN0 (by show _<3;show (jN n 3).toNat<3;omega)
   have hf:=uT0 hm
   have h3:(jO.length:Int)=3:=rfl
   rw[h3] at hf
   simp only[wA0]
   rw[h3]
   generalize gW jO (jO.getD (jN n 3).toNat [])=f at hf ⊢
   simp[jZ,kH,hf]
  rw[if_neg (fun h=>h2 h.1),if_neg h2]
  by_cases h3:jN k 24=9
  ·rw[if_pos h3,mG0 _ _ _ _ _ (by decide),wA0,wA0]
   simp[jZ,kH,hp]
  rw[if_neg h3]
  by_cases h4:jN k 24=10
  ·rw[if_pos h4,mG0 _ _ _ _ _ (by decide),wA0,wA0]
   simp[jZ,kH,hp]
  rw[if_neg h4,mG0 _ _ _ _ _ (by omega),wA0,wA0,wA0]
  have a1:¬ (5+jN k 24-11=1):=by omega
  have a2:¬ (5+jN k 24-11=2):=by omega
  have a3:¬ (5+jN k 24-11=3):=by omega
  have a4:¬ (5+jN k 24-11=4):=by omega
  have a5:5≤5+jN k 24-11:=by omega
  have a6:5+jN k 24-11≤17:=by omega
  simp[jZ,kH,hp,hq,a1,a2,a3,a4,a5,a6]
theorem mD0:∀ (l:List Ra),∀ x∈mkL jO l,jZ 3 (lowE jO x)=true
 | [],x,hx=>by simp[mkL] at hx
 | y :: l,x,hx=>by
  rw[mkL] at hx
  rcases List.mem_cons.1 hx with rfl|hx
  ·exact mE0 y
  ·exact mD0 l x hx
end
theorem pT0 (l:List Ra):jZ 3 (lowE jO (uC0 jO l))=true:=by
 cases l with
 | nil=>decide
 | cons x l=>exact mE0 x
theorem lZ2 {α:Type} (P:α→Prop) {c:Prop} [Decidable c] {a b:α} (h1:P a) (h2:P b):P (if c then a else b):=by
 by_cases h:c
 ·rw[if_pos h];exact h1
 ·rw[if_neg h];exact h2
theorem gP_of {k:Int} {n t:List UInt8} {e:Ex} {l:List Pr} (h0:0≤k∧k<14∧(l.length:Int)=shL k) (h1:k=1→n≠[]∧qN0 n=true∧(t=[]∨t∈jO)) (h2:k=2→t∈jO) (h3:k=3∨k=4∨k=5∨k=6→n∈jM) (h4:k=6→t∈jM) (h5:k=13→n∈qH) (h6:k=2∨k=9→jZ 3 (lowE jO e)=true) (h7:∀ x∈l,okPr jO jM qH x=true) :
  okPr jO jM qH (.mk k n t e l)=true:=by
 have h8:zD1 jO jM qH l=true:=by
  clear h0
  induction l with
  | nil=>rfl
  | cons x l ih=>simp only[zD1,Bool.and_eq_true];exact ⟨h7 x (by simp),ih fun y hy=>h7 y (by simp[hy])⟩
 simp only[okPr,Bool.and_eq_true,decide_eq_true_eq,h8,and_true]
 exact ⟨h0,h1,h2,h3,h4,h5,h6⟩
theorem gI0:okPr jO jM qH qF=true:=by decide
theorem mH1:∀ s∈cF0,s≠[]∧qN0 s=true:=by
 intro s hs
 simp only[cF0,List.mem_cons,List.not_mem_nil,or_false] at hs
 rcases hs with rfl|rfl|rfl<;>exact ⟨by decide,by decide⟩
mutual
theorem tB0:∀ (x:Rb) (d:Nat),okPr jO jM qH (mkP x d)=true
 | .mk k a b e l,d=>by
  have ih:=mC0 l (d+1)
  have hpart:∀ i,okPr jO jM qH (if d<6 then (cD l (d+1)).getD i qF else qF)=true:=fun i=>by
   split
   ·rw[List.getD_eq_getElem?_getD]
    cases hx:(cD l (d+1))[i]? with
    | none=>exact gI0
    | some x=>exact ih x (List.mem_of_getElem? hx)
   ·exact gI0
  have hv:jO.getD (jN a 3).toNat []∈jO:=jN0 (by have:=qC (a:=a) (n:=3) (by omega);show _<3;omega)
  have hs:jM.getD (jN a 2).toNat []∈jM:=jN0 (by have:=qC (a:=a) (n:=2) (by omega);show _<2;omega)
  have hs2:jM.getD (jN b 2).toNat []∈jM:=jN0 (by have:=qC (a:=b) (n:=2) (by omega);show _<2;omega)
  have hd:qH.getD (jN a 5).toNat []∈qH:=jN0 (by have:=qC (a:=a) (n:=5) (by omega);show _<5;omega)
  have ha:=mH1 (cF0.getD (jN b 3).toNat []) (jN0 (by have:=qC (a:=b) (n:=3) (by omega);show _<3;omega))
  have he:=pT0 e
  have h1:∀ x∈[if d<6 then (cD l (d+1)).getD 0 qF else qF],okPr jO jM qH x=true:=fun x hx=>by simp only[List.mem_singleton] at hx;subst hx;exact hpart 0
  have h2:∀ x∈[if d<6 then (cD l (d+1)).getD 0 qF else qF,if d<6 then (cD l (d+1)).getD 1 qF else qF],okPr jO jM qH x=true:=fun x hx=>by
   simp only[List.mem_cons,List.not_mem_nil,or_false] at hx
   rcases hx with rfl|rfl
   ·exact hpart 0
   ·exact hpart 1
  rw[mkP]
  generalize (if d<6 then (cD l (d+1)).getD 0 qF else qF)=pa at *
  generalize (if d<6 then (cD l (d+1)).getD 1 qF else qF)=pb at *
  generalize jO.getD (jN a 3).toNat []=v at *
  generalize jM.getD (jN a 2).toNat []=s at *
  generalize jM.getD (jN b 2).toNat []=s2 at *
  generalize qH.getD (jN a 5).toNat []=df at *
  generalize cF0.getD (jN b 3).toNat []=ac at *
  generalize uC0 jO e=ee at *
  repeat' refine lZ2 (fun y=>okPr jO jM qH y=true) ?_ ?_
  all_goals first
   | exact gI0
   | exact gP_of (by simp[shL]) (by first | (intro h;exact ⟨ha.1,ha.2,.inl rfl⟩) | (intro h;exact ⟨ha.1,ha.2,.inr hv⟩) | (intro h;omega)) (by first | exact fun _=>hv | (intro h;omega)) (by first | exact fun _=>hs | (intro h;omega)) (by first | exact fun _=>hs2 | (intro h;omega)) (by first | exact fun _=>hd | (intro h;omega)) (by first | exact fun _=>he | (intro h;omega)) (by first | exact h1 | exact h2 | simp)
theorem mC0:∀ (l:List Rb) (d:Nat),∀ x∈cD l d,okPr jO jM qH x=true
 | [],d,x,hx=>by simp[cD] at hx
 | y :: l,d,x,hx=>by
  rw[cD] at hx
  rcases List.mem_cons.1 hx with rfl|hx
  ·exact tB0 y d
  ·exact mC0 l d x hx
end
abbrev szP (x:Pr):Int:=qR (cJ jO jM qH x)
theorem iL2 (k:Int) (n t:List UInt8) (e:Ex):szP (.mk k n t e [])=1:=by simp[szP,cJ,kY,qR,jU]
theorem szP_1 (k:Int) (n t:List UInt8) (e:Ex) (x:Pr):szP (.mk k n t e [x])=1+szP x:=by simp[szP,cJ,kY,qR,jU]
theorem szP_2 (k:Int) (n t:List UInt8) (e:Ex) (x y:Pr):szP (.mk k n t e [x,y])=1+(szP x+szP y):=by simp[szP,cJ,kY,qR,jU]
theorem zR2:szP qF=1:=iL2 ..
def p2:Nat→Int
 | 0=>256
 | 1=>128
 | 2=>64
 | 3=>32
 | 4=>16
 | 5=>8
 | 6=>4
 | _=>2
theorem p2_s {d:Nat} (h:d≤6):p2 d=2*p2 (d+1)∧2≤p2 (d+1):=by
 obtain rfl|rfl|rfl|rfl|rfl|rfl|rfl:d=0∨d=1∨d=2∨d=3∨d=4∨d=5∨d=6:=by omega
 all_goals decide
mutual
theorem tA0:∀ (x:Rb) (d:Nat),d≤6→szP (mkP x d)+1≤p2 d
 | .mk k a b e l,d,hd=>by
  obtain ⟨q1,q2⟩:=p2_s hd
  have hpart:∀ i,szP (if d<6 then (cD l (d+1)).getD i qF else qF)+1≤p2 (d+1):=fun i=>by
   by_cases h6:d<6
   ·rw[if_pos h6,List.getD_eq_getElem?_getD]
    cases hx:(cD l (d+1))[i]? with
    | none=>show szP qF+1≤_;rw[zR2];omega
    | some x=>exact mB0 l (d+1) (by omega) x (List.mem_of_getElem? hx)
   ·rw[if_neg h6,zR2];omega
  have ha:=hpart 0
  have hb:=hpart 1
  rw[mkP]
  generalize (if d<6 then (cD l (d+1)).getD 0 qF else qF)=pa at *
  generalize (if d<6 then (cD l (d+1)).getD 1 qF else qF)=pb at *
  have:=jF0 (cJ jO jM qH pa)
  have:=jF0 (cJ jO jM qH pb)
  repeat' refine lZ2 (fun y=>szP y+1≤p2 d) ?_ ?_
  all_goals first
   | (rw[zR2];omega)
   | (rw[iL2];omega)
   | (rw[szP_1];omega)
   | (rw[szP_2];omega)
theorem mB0:∀ (l:List Rb) (d:Nat),d≤6→∀ x∈cD l d,szP x+1≤p2 d
 | [],d,hd,x,hx=>by simp[cD] at hx
 | y :: l,d,hd,x,hx=>by
  rw[cD] at hx
  rcases List.mem_cons.1 hx with rfl|hx
  ·exact tA0 y d hd
  ·exact mB0 l d hd x hx
end
def rD1 (y:Tm):Prop:=smT y=true∧jY 3 2 5 false y=true∧qR y≤255
theorem dA1 {y:Tm} {w:Int} {r:Rb} (hs:smT y=true) (h:y=askT∨y=pR1 w r):rD1 y:=by
 rcases h with rfl|rfl
 ·exact ⟨rfl,by decide,by decide⟩
 ·have h1:=tA0 r 0 (by omega)
  have h2:qR (cJ jO jM qH (mkP r 0))+1≤256:=h1
  have h3:=sB0 jO jM qH w (mkP r 0) false 0 (tB0 r 0) (by omega) (by omega)
  exact ⟨hs,h3.1,by unfold pR1;omega⟩
end
end Go.Proofs.YtgeakofgklcipaaDoor
namespace Go.Proofs.YtgeakofgklcipaaDoor
open _root_.Go.Proofs.Tryd (prog)
open Go Go.RowKit Go.Ev Go.Dv
noncomputable section
attribute [local push_cast] eq_self iff_self
set_option maxRecDepth 100000
variable (G:Nat×Nat)
theorem in_f (n lo hi:Int):jI (pp G) H0 57 [.int .i64 n,.int .i64 lo,.int .i64 hi] (.bool (decide (lo≤n∧n<hi))):=by
 refine cE G fir57 (by kernel_rfl) (cL0 ..) fun hlo=>?_;rw[yB2]
 by_cases h1:lo≤n
 ·push_cast(disch:=first|omega|(apply id;push_cast;try omega))[h1,true_and]
  exact .id rfl
 ·push_cast(disch:=first|omega|(apply id;push_cast;try omega))[h1,false_and]
  exact .id rfl
def fA (k:Int):Bool:=decide (k=1∨k=2∨k=3∨k=4∨k=5∨k=6∨k=13∨k=14)
def fB (k:Int):Bool:=decide (k=6∨k=14)
def fN (k:Int):Bool:=decide (k=1∨k=14)
def fE (k:Int):Bool:=decide (k=2∨k=9)
def ofV (k:Int):Value:=.agg ⟨[.bool (fA k),.bool (fB k),.bool (fN k),.bool (fE k),.int .i64 (shL k)]⟩
theorem of_f (k:Int):jI (pp G) H0 33 [.int .i64 k] (ofV k):=by
 by_cases h0:1≤k∧k≤14
 ·obtain rfl|rfl|rfl|rfl|rfl|rfl|rfl|rfl|rfl|rfl|rfl|rfl|rfl|rfl:k=1∨k=2∨k=3∨k=4∨k=5∨k=6∨k=7∨k=8∨k=9∨k=10∨k=11∨k=12∨k=13∨k=14:=by omega
  all_goals
   refine cE G nY2 (by kernel_rfl) (nF1 ..) fun hlo=>?_;rw[bN1]
   push_cast(disch:=first|omega|(apply id;push_cast;try omega))
   repeat ((first|rw[dI0]|rw[dH0]|rw[dG0]);push_cast(disch:=first|omega|(apply id;push_cast;try omega)))
   exact .id rfl
 ·have n1:¬ k=1:=by omega
  have n2:¬ k=2:=by omega
  have n3:¬ k=3:=by omega
  have n4:¬ k=4:=by omega
  have n5:¬ k=5:=by omega
  have n6:¬ k=6:=by omega
  have n7:¬ k=7:=by omega
  have n9:¬ k=9:=by omega
  have n10:¬ k=10:=by omega
  have n11:¬ k=11:=by omega
  have n12:¬ k=12:=by omega
  have n13:¬ k=13:=by omega
  have n14:¬ k=14:=by omega
  have e:ofV k=.agg ⟨[.bool false,.bool false,.bool false,.bool false,.int .i64 0]⟩:=by
   simp[ofV,fA,fB,fN,fE,shL,n1,n2,n3,n4,n5,n6,n7,n9,n10,n11,n12,n13,n14]
  rw[e]
  refine cE G nY2 (by kernel_rfl) (nF1 ..) fun hlo=>?_;rw[bN1]
  push_cast(disch:=first|omega|(apply id;push_cast;try omega))[n1,n2,n3,n4,n5,n6,n7,n9,n10,n11,n12,n13,n14]
  rw[dI0]
  push_cast(disch:=first|omega|(apply id;push_cast;try omega))[n6,n7,n9,n10,n11,n12]
  rw[dG0]
  push_cast(disch:=first|omega|(apply id;push_cast;try omega))[n14]
  rw[dH0]
  push_cast(disch:=first|omega|(apply id;push_cast;try omega))
  exact .id rfl
def numF (v st p k a b:Int):Bool:=
 if k=1 then decide (-1≤a∧a<v) else if k=2 then decide (0≤a∧a<v) else if k=3∨k=4∨k=5 then decide (0≤a∧a<st) else if k=6 then decide (0≤a∧a<st)&&decide (0≤b∧b<st) else if k=13 then decide (0≤a∧a<p) else if k=14 then decide (0≤a)&&decide (-1≤b∧b<v) else true
theorem num_f (v st p k a b:Int) (s:List UInt8) (e:Ex) (l:List Tm):jI (pp G) H0 34 [tmV (.mk k a b s e l),.int .i64 v,.int .i64 st,.int .i64 p] (.bool (numF v st p k a b)):=by
 refine cE G fir34 (by kernel_rfl) (fD2 ..) fun hlo=>?_;rw[yX2]
 unfold numF
 by_cases h1:k=1
 ·rw[if_pos h1]
  push_cast(disch:=first|omega|(apply id;push_cast;try omega))[h1]
  refine dK (in_f G a (-1) v) ?_
  push_cast(disch:=first|omega|(apply id;push_cast;try omega))
  exact .id rfl
 rw[if_neg h1]
 by_cases h2:k=2
 ·rw[if_pos h2]
  push_cast(disch:=first|omega|(apply id;push_cast;try omega))[h1,h2]
  refine dK (in_f G a 0 v) ?_
  push_cast(disch:=first|omega|(apply id;push_cast;try omega))
  exact .id rfl
 rw[if_neg h2]
 by_cases h3:k=3∨k=4∨k=5
 ·rw[if_pos h3]
  rcases h3 with rfl|rfl|rfl
  all_goals
   push_cast(disch:=first|omega|(apply id;push_cast;try omega))
   rw[dF0]
   push_cast(disch:=first|omega|(apply id;push_cast;try omega))
   refine dK (in_f G a 0 st) ?_
   push_cast(disch:=first|omega|(apply id;push_cast;try omega))
   exact .id rfl
 rw[if_neg h3]
 simp only[not_or] at h3
 obtain ⟨h3,h4,h5⟩:=h3
 push_cast(disch:=first|omega|(apply id;push_cast;try omega))[h1,h2,h3,h4,h5]
 rw[dF0]
 by_cases h6:k=6
 ·rw[if_pos h6]
  push_cast(disch:=first|omega|(apply id;push_cast;try omega))[h6]
  refine dK (in_f G a 0 st) ?_
  cases hx:decide (0≤a∧a<st) with
  | false=>
   push_cast(disch:=first|omega|(apply id;push_cast;try omega))[Bool.false_and]
   exact .id rfl
  | true=>
   push_cast(disch:=first|omega|(apply id;push_cast;try omega))[Bool.true_and]
   refine dK (in_f G b 0 st) ?_
   push_cast(disch:=first|omega|(apply id;push_cast;try omega))
   exact .id rfl
 rw[if_neg h6]
 by_cases h13:k=13
 ·rw[if_pos h13]
  push_cast(disch:=first|omega|(apply id;push_cast;try omega))[h6,h13]
  refine dK (in_f G a 0 p) ?_
  push_cast(disch:=first|omega|(apply id;push_cast;try omega))
  exact .id rfl
 rw[if_neg h13]
 by_cases h14:k=14
 ·rw[if_pos h14]
  by_cases ha:0≤a
  ·rw[decide_eq_true ha,Bool.true_and]
   push_cast(disch:=first|omega|(apply id;push_cast;try omega))[h6,h13,h14,ha]
   refine dK (in_f G b (-1) v) ?_
   push_cast(disch:=first|omega|(apply id;push_cast;try omega))
   exact .id rfl
  ·rw[decide_eq_false ha,Bool.false_and]
   push_cast(disch:=first|omega|(apply id;push_cast;try omega))[h6,h13,h14,ha]
   exact .id rfl
 rw[if_neg h14]
 push_cast(disch:=first|omega|(apply id;push_cast;try omega))[h6,h13,h14]
 rw[uX1]
 push_cast(disch:=first|omega|(apply id;push_cast;try omega))
 exact .id rfl
mutual
def anyT:Tm→Bool
 | .mk k _ _ _ _ l=>decide (k=14) || bD l
def bD:List Tm→Bool
 | []=>false
 | x :: l=>anyT x || bD l
end
theorem nJ0:∀ a b:List Tm,bD (a++b)=(bD a || bD b)
 | [],b=>by simp[bD]
 | x :: a,b=>by rw[List.cons_append,bD,bD,nJ0 a b,Bool.or_assoc]
theorem zY1 {l:List Tm} {i:Nat} {x:Tm} (h:l[i]?=some x):bD (l.take (i+1))=(bD (l.take i) || anyT x):=by
 rw[jW h,nJ0,bD,bD,Bool.or_false]
theorem nI0:∀ {l:List Tm} {x:Tm},x∈l→anyT x=true→bD l=true
 | y :: l,x,h,hx=>by
  rw[bD]
  rcases List.mem_cons.1 h with rfl|h
  ·rw[hx];rfl
  ·rw[nI0 h hx,Bool.or_true]
inductive I38 (t:Tm):Nat→S→Prop
 | mk (i:Nat) (iv:Int) (h:jA) {x0 x2 x4 x5 x6 x7 x8 x9 xA xB xC xD xE xF xG xH xI xJ:Value} (hiv:iv=(i:Int)) (hi:i≤t.l.length) (hok:bD (t.l.take i)=false) (c1:cells h 1=some (tmC t,etm,false)) (hl1:h.lo=1) (hl2:2≤h.next) :
  I38 t (t.l.length-i) ⟨(F20 x0 (.pointer (some ⟨1,0,none⟩)) x2 (.int .i64 iv) x4 x5 x6 x7 x8 x9 xA xB xC xD xE xF xG xH xI xJ),[],h⟩
theorem pO2:∀ t:Tm,smT t=true→jI (pp G) H0 38 [tmV t] (.bool (anyT t))
 | .mk k a b s e l,hs=>by
  simp only[smT,Bool.and_eq_true,decide_eq_true_eq] at hs
  obtain ⟨⟨hll,hse⟩,hsl⟩:=hs
  have ih:∀ x∈l,jI (pp G) H0 38 [tmV x] (.bool (anyT x)):=fun x hx=>pO2 x (uU hsl x hx)
  refine cE G fir38 (by kernel_rfl) (nJ1 ..) fun hlo=>?_;rw[yT2]
  rw[anyT]
  by_cases hk:k=14
  ·push_cast(disch:=first|omega|(apply id;push_cast;try omega))[hk,decide_true,Bool.true_or]
   exact .id rfl
  rw[decide_eq_false hk,Bool.false_or]
  push_cast(disch:=first|omega|(apply id;push_cast;try omega))[hk]
  refine WD.loop4 (q:=qq) (qB G) (by kernel_rfl) (I38 (.mk k a b s e l)) ?_ _ _ (I38.mk 0 0 _ rfl (Nat.zero_le _) rfl tH rfl tH)
  intro m s1 hI
  cases hI with|mk i iv h hiv hi hok c1 hl1 hl2=>
  subst hiv
  simp only[Tm.l_mk] at hi hok
  rw[uP1]
  rw[qH0] at c1
  by_cases hil:(i:Int)<l.length
  ·obtain ⟨x,hx⟩:=jR (l:=l) (i:=i) (by omega)
   have hp:=qW hx
   have hle:i*9+9≤l.length*9:=by omega
   push_cast(disch:=first|omega|(apply id;push_cast;try omega))[hil,c1,Int.toNat_natCast,hp,hle,hl1]
   refine dK (ih x (List.mem_of_getElem? hx)) ?_
   cases hr:anyT x with
   | true=>
    rw[nI0 (List.mem_of_getElem? hx) hr]
    push_cast(disch:=first|omega|(apply id;push_cast;try omega))
    exact .id rfl
   | false=>
    push_cast(disch:=first|omega|(apply id;push_cast;try omega))
    exact ⟨_,by simp only[Tm.l_mk];omega,I38.mk (i+1) _ _ (by first|rfl|omega) (by simp only[Tm.l_mk];omega) (by simp only[Tm.l_mk];rw[zY1 hx,hok,hr];rfl) (by first|assumption|(push_cast(disch:=first|omega|(apply id;push_cast;try omega))[c1];try omega)) (by first|assumption|(push_cast(disch:=first|omega|(apply id;push_cast;try omega))[hl1];try omega)) tH⟩
  ·have hie:i=l.length:=by omega
   subst hie
   rw[List.take_length] at hok
   rw[hok]
   push_cast(disch:=first|omega|(apply id;push_cast;try omega))[hil,c1,hl1]
   rw[uO1]
   push_cast(disch:=first|omega|(apply id;push_cast;try omega))
   exact .id rfl
 termination_by t=>SizeOf.sizeOf t
abbrev KT:List UInt8:=[32,118,97,114,32,115,116,97,99,107,32,112,114,111,99,32,115,107,105,112,32,100,111,32,112,117,115,104,32,114,101,118,101,114,115,101,32,97,99,99,101,112,116,32,109,101,114,103,101,32,98,108,111,99,107,32,101,120,105,116,32,105,102,32,101,108,115,101,32,99,104,111,111,115,101,32,112,97,114,32,99,97,108,108,32]
abbrev KU:List UInt8:=[118,97,114,32,115,116,97,99,107,32,112,114,111,99,32,115,107,105,112,32,100,111,32,112,117,115,104,32,114,101,118,101,114,115,101,32,97,99,99,101,112,116,32,109,101,114,103,101,32,98,108,111,99,107,32,101,120,105,116,32,105,102,32,101,108,115,101,32,99,104,111,111,115,101,32,112,97,114,32,99,97,108,108,32]
def KM (l:List UInt8) (i:Nat):Prop:=i+l.length+2≤85∧KT.getD i 0=32∧KT.getD (i+l.length+1) 0=32∧(KT.drop (i+1)).take l.length=l
theorem dI1 {l:List UInt8} (h:l∈wJ0):(32:UInt8)∉l:=by
 have:∀ w∈wJ0,(32:UInt8)∉w:=by decide
 exact this l h
theorem pZ1 {l:List UInt8} (h:l∈wJ0):0<l.length:=by
 have:∀ w∈wJ0,0<w.length:=by decide
 exact this l h
theorem cM2 {l:List UInt8} (h:l∈wJ0):∃ i,KM l i:=by
 have:∀ w∈wJ0,∃ i∈List.range 85,i+w.length+2≤85∧KT.getD i 0=32∧KT.getD (i+w.length+1) 0=32∧(KT.drop (i+1)).take w.length=w:=by decide +kernel
 obtain ⟨i,_,h2⟩:=this l h
 exact ⟨i,h2⟩
theorem cL2:∀ i∈List.range 85,∀ n∈List.range 85,i+n+2≤85→0<n→KT.getD i 0=32→KT.getD (i+n+1) 0=32→(32:UInt8)∉(KT.drop (i+1)).take n→(KT.drop (i+1)).take n∈wJ0:=by decide +kernel
theorem keys_in {l:List UInt8} {i:Nat} (h:KM l i) (h0:0<l.length) (h32:(32:UInt8)∉l):l∈wJ0:=by
 obtain ⟨h1,h2,h3,h4⟩:=h
 have:=cL2 i (List.mem_range.2 (by omega)) l.length (List.mem_range.2 (by omega)) h1 h0 h2 h3 (by rw[h4];exact h32)
 rwa [h4] at this
theorem wid {a:Int} (h:-9223372036854775808≤a∧a≤9223372036854775807):IntKind.i64.wrap a=a:=by
 simp only[IntKind.wrap_i64];omega
theorem bt32 (l:List UInt8) (i:Nat):(bt l i=32)=(l.getD i 0=32):=by
 apply propext
 constructor
 ·intro e
  have:(l.getD i 0).toNat=32:=by unfold bt at e;omega
  exact UInt8.toNat_inj.1 this
 ·intro e;unfold bt;rw[e];rfl
inductive qZ2 (l:List UInt8) (i:Nat):Nat→S→Prop
 | mk (k:Nat) (iv kv:Int) (h:jA) {x1 x2 x5 x6 x7 x8 x9 xA xB xC xD xE xF xG xH xI xJ xK xL xM xN xO xP xQ xR xS xT xU xV xW xX xY xZ yA yB yC yD yE yF yG yH yI yJ yK yL yM yN yO yP:Value} (hiv:iv=(i:Int)) (hkv:kv=(k:Int)) (hk:k≤l.length) (h32:∀ j,j<k→l.getD j 0≠32) (hl1:h.lo=1) (hl2:1≤h.next) :
  qZ2 l i (l.length-k) ⟨(F52 (.string (Tx l)) x1 x2 (.int .i64 iv) (.int .i64 kv) x5 x6 x7 x8 x9 xA xB xC xD xE xF xG xH xI xJ xK xL xM xN xO xP xQ xR xS xT xU xV xW xX xY xZ yA yB yC yD yE yF yG yH yI yJ yK yL yM yN yO yP),[],h⟩
inductive IKey (l:List UInt8):Nat→S→Prop
 | mk (i:Nat) (iv:Int) (h:jA) {x1 x2 x4 x5 x6 x7 x8 x9 xA xB xC xD xE xF xG xH xI xJ xK xL xM xN xO xP xQ xR xS xT xU xV xW xX xY xZ yA yB yC yD yE yF yG yH yI yJ yK yL yM yN yO yP:Value} (hiv:iv=(i:Int)) (hi:i≤86) (hno:∀ j,j<i→¬ KM l j) (hl1:h.lo=1) (hl2:1≤h.next) :
  IKey l (86-i) ⟨(F52 (.string (Tx l)) x1 x2 (.int .i64 iv) x4 x5 x6 x7 x8 x9 xA xB xC xD xE xF xG xH xI xJ xK xL xM xN xO xP xQ xR xS xT xU xV xW xX xY xZ yA yB yC yD yE yF yG yH yI yJ yK yL yM yN yO yP),[],h⟩
theorem lE2 (l:List UInt8) (hl:l.length<1000000000000):jI (pp G) H0 58 [.string (Tx l)] (.bool (keyF l)):=by
 refine cE G fir58 (by kernel_rfl) (nC1 ..) fun hlo=>?_;rw[yA2]
 push_cast(disch:=first|omega|(apply id;push_cast;try omega))
 refine WD.loop4 (q:=qq) (qB G) (by kernel_rfl) (IKey l) ?_ _ _ (IKey.mk 0 0 _ rfl (by omega) (fun j hj=>by omega) rfl tH)
 intro k s1 hI
 cases hI with|mk i iv h hiv hi hno hl1 hl2=>
 subst hiv
 rw[qZ1]
 have w1:IntKind.i64.wrap ((i:Int)+l.length)=i+l.length:=wid (by omega)
 have w2:IntKind.i64.wrap ((i:Int)+l.length+2)=i+l.length+2:=wid (by omega)
 have hyes:l∈wJ0→keyF l=true:=fun h=>decide_eq_true h
 have hnot:l∉wJ0→keyF l=false:=fun h=>decide_eq_false h
 by_cases hc1:(i:Int)+l.length+2≤85
 ·by_cases hc2:(0:Int)<l.length
  ·have hi84:(i:Int)<85:=by omega
   have hKT:(KT.length:Int)=85:=rfl
   have w3:IntKind.i64.wrap ((i:Int)+l.length+1)=i+l.length+1:=wid (by omega)
   have w4:IntKind.i64.wrap ((i:Int)+1)=i+1:=wid (by omega)
   have w5:IntKind.i64.wrap ((i:Int)+1+l.length)=i+1+l.length:=wid (by omega)
   have t1:((i:Int)+l.length+1).toNat=i+l.length+1:=by omega
   have t2:((i:Int)+1).toNat=i+1:=by omega
   have t3:((i:Int)+1+l.length).toNat-(i+1)=l.length:=by omega
   push_cast(disch:=first|omega|(apply id;push_cast;try omega))[w1,w2,w3,w4,w5,hc1,hc2,t1,t2,t3,hi84,hKT,Int.toNat_natCast]
   have hnM:¬ KM l i→∀ j,j<i+1→¬ KM l j:=fun h0 j hj=>by
    rcases Nat.lt_or_ge j i with h1|h1
    ·exact hno j h1
    ·rw[show j=i by omega];exact h0
   by_cases hk1:bt KT i=32
   ·by_cases hk2:bt KT (i+l.length+1)=32
    ·by_cases hk3:(KU.drop i).take l.length=l
     ·push_cast(disch:=first|omega|(apply id;push_cast;try omega))[hk1,hk2,hk3,w1,w2,w3,w4,w5,t1,t2,t3,hKT,beq_self_eq_true]
      have hM:KM l i:=⟨by omega,by rw[← bt32];exact hk1,by rw[← bt32];exact hk2,hk3⟩
      refine WD.loop4 (q:=qq) (qB G) (by kernel_rfl) (qZ2 l i) ?_ _ _ (qZ2.mk 0 _ 0 _ rfl rfl (by omega) (fun j hj=>by omega) hl1 hl2)
      clear hl1 hl2
      intro k s1 hI
      cases hI with|mk k iv kv h hiv hkv hk h32 hl1 hl2=>
      subst hiv hkv
      rw[qY1]
      by_cases hkl:(k:Int)<l.length
      ·by_cases hk5:bt l k=32
       ·have hn : l ∉ wJ0 := fun h0 => by
         have e:=(bt32 l k).mp hk5
         apply dI1 h0
         rw[← e,List.getD_eq_getElem?_getD,List.getElem?_eq_getElem (by omega)]
         exact List.getElem_mem _
        push_cast(disch:=first|omega|(apply id;push_cast;try omega))[hkl,Int.toNat_natCast,hk5]
        rw[hnot hn]
        exact .id rfl
       ·push_cast(disch:=first|omega|(apply id;push_cast;try omega))[hkl,Int.toNat_natCast,hk5]
        exact ⟨_,by omega,qZ2.mk (k+1) _ _ _ (by first|rfl|omega) (by first|rfl|omega) (by omega) (fun j hj=>by
         rcases Nat.lt_or_ge j k with h1|h1
         ·exact h32 j h1
         ·rw[show j=k by omega];intro e;exact hk5 (by rw[bt32];exact e)) hl1 hl2⟩
      ·have hin : l ∈ wJ0 := keys_in hM (by omega) (fun h0 => by
        obtain ⟨j,hj,e⟩:=List.getElem_of_mem h0
        apply h32 j (by omega)
        rw[List.getD_eq_getElem?_getD,List.getElem?_eq_getElem hj]
        exact e)
       push_cast(disch:=first|omega|(apply id;push_cast;try omega))[hkl]
       rw[qX1]
       push_cast(disch:=first|omega|(apply id;push_cast;try omega))
       rw[hyes hin]
       exact .id rfl
     ·have hk3b:((KU.drop i).take l.length == l)=false:=beq_eq_false_iff_ne.2 hk3
      push_cast(disch:=first|omega|(apply id;push_cast;try omega))[hk1,hk2,hk3b,w1,w2,w3,w4,w5,t1,t2,t3,hKT]
      exact ⟨_,by omega,IKey.mk (i+1) _ _ (by first|rfl|omega) (by omega) (hnM fun h0=>hk3 h0.2.2.2) hl1 hl2⟩
    ·push_cast(disch:=first|omega|(apply id;push_cast;try omega))[hk1,hk2,w1,w2,w3,w4,w5,t1,t2,t3,hKT]
     exact ⟨_,by omega,IKey.mk (i+1) _ _ (by first|rfl|omega) (by omega) (hnM fun h0=>hk2 (by rw[bt32];exact h0.2.2.1)) hl1 hl2⟩
   ·push_cast(disch:=first|omega|(apply id;push_cast;try omega))[hk1,w1,w2,w3,w4,w5,t1,t2,t3,hKT]
    exact ⟨_,by omega,IKey.mk (i+1) _ _ (by first|rfl|omega) (by omega) (hnM fun h0=>hk1 (by rw[bt32];exact h0.2.1)) hl1 hl2⟩
  ·push_cast(disch:=first|omega|(apply id;push_cast;try omega))[w1,w2,hc1,hc2]
   rw[hnot fun h0=>by have:=pZ1 h0;omega]
   rw[dD0]
   push_cast(disch:=first|omega|(apply id;push_cast;try omega))
   exact .id rfl
 ·have hno2 : l ∉ wJ0 := fun h0 => by
   obtain ⟨j,hj⟩:=cM2 h0
   exact hno j (by have:=hj.1;omega) hj
  push_cast(disch:=first|omega|(apply id;push_cast;try omega))[w1,w2,hc1]
  rw[hnot hno2]
  rw[dD0]
  push_cast(disch:=first|omega|(apply id;push_cast;try omega))
  exact .id rfl
theorem fV2 (r:Int) (b:Bool):jI (pp G) H0 59 [.int .u8 r,.bool b] (.bool (cW r || (!b&&(qI0 r || decide (r=95))))):=by
 refine cE G fir59 (by kernel_rfl) (fJ2 ..) fun hlo=>?_;rw[kZ2]
 unfold cW qI0
 by_cases h1:97≤r∧r≤122
 ·rw[decide_eq_true h1,Bool.true_or]
  obtain ⟨h1,h2⟩:=h1
  push_cast(disch:=first|omega|(apply id;push_cast;try omega))[h1,h2]
  exact .id rfl
 rw[decide_eq_false h1,Bool.false_or]
 have hs:∀ {b:Bool},b=(decide (97≤r)&&decide (r≤122))→b=false:=fun h=>by rw[h];simp;omega
 by_cases h2:97≤r
 case' pos=>
  have h3:¬ r≤122:=fun h=>h1 ⟨h2,h⟩
  push_cast(disch:=first|omega|(apply id;push_cast;try omega))[h2,h3]
 case' neg=>push_cast(disch:=first|omega|(apply id;push_cast;try omega))[h2]
 all_goals
  cases b with
  | true=>
   push_cast(disch:=first|omega|(apply id;push_cast;try omega))[Bool.not_true,Bool.false_and]
   exact .id rfl
  | false=>
   push_cast(disch:=first|omega|(apply id;push_cast;try omega))[Bool.not_false,Bool.true_and]
   by_cases g1:48≤r
   ·by_cases g2:r≤57
    ·rw[decide_eq_true (⟨g1,g2⟩:48≤r∧r≤57),Bool.true_or]
     push_cast(disch:=first|omega|(apply id;push_cast;try omega))[g1,g2]
     exact .id rfl
    ·rw[decide_eq_false (fun h:48≤r∧r≤57=>g2 h.2),Bool.false_or]
     push_cast(disch:=first|omega|(apply id;push_cast;try omega))[g1,g2]
     exact .id rfl
   ·rw[decide_eq_false (fun h:48≤r∧r≤57=>g1 h.1),Bool.false_or]
    push_cast(disch:=first|omega|(apply id;push_cast;try omega))[g1]
    exact .id rfl
theorem gZ2 (c:UInt8) (b:Bool):(cW (c.toNat:Int) || (!b&&(qI0 (c.toNat:Int) || decide ((c.toNat:Int)=95))))=if b then small c else kM c:=by
 have a:cW (c.toNat:Int)=small c:=by unfold cW small;congr 1;simp only[eq_iff_iff];omega
 have d:qI0 (c.toNat:Int)=digit c:=by unfold qI0 digit;congr 1;simp only[eq_iff_iff];omega
 have e:decide ((c.toNat:Int)=95)=decide (c.toNat=95):=by congr 1;simp only[eq_iff_iff];omega
 rw[a,d,e]
 cases b
 ·simp[kM,Bool.or_assoc]
 ·simp
inductive I35 (s:List UInt8):Nat→S→Prop
 | mk (i:Nat) (iv:Int) (h:jA) {x1 x2 x4 x5 x6 x7 x8 x9 xA xB xC xD xE xF xG xH xI xJ xK xL xM xN xO xP xQ xR xS:Value} (hiv:iv=(i:Int)) (hi:i≤s.length) (h0:0<i→small (s.getD 0 0)=true) (ha:∀ j,j<i→kM (s.getD j 0)=true) (hl1:h.lo=1) (hl2:1≤h.next) :
  I35 s (s.length-i) ⟨(F29 (.string (Tx s)) x1 x2 (.int .i64 iv) x4 x5 x6 x7 x8 x9 xA xB xC xD xE xF xG xH xI xJ xK xL xM xN xO xP xQ xR xS),[],h⟩
theorem oB0 {c:UInt8} (h:small c=true):kM c=true:=by unfold kM;rw[h];rfl
theorem gV2 (s:List UInt8):jI (pp G) H0 35 [.string (Tx s)] (.bool (qN0 s)):=by
 refine cE G fir35 (by kernel_rfl) (rW0 ..) fun hlo=>?_;rw[yW2]
 unfold qN0
 by_cases h1:s=[]
 ·subst h1
  push_cast(disch:=first|omega|(apply id;push_cast;try omega))
  exact .id rfl
 have hs0:0<s.length:=List.length_pos_iff.2 h1
 have h1':¬ (s.length:Int)<1:=by omega
 rw[decide_eq_false h1,Bool.not_false,Bool.true_and]
 by_cases h2:(20:Int)<s.length
 ·rw[decide_eq_false (show ¬ s.length≤20 by omega),Bool.false_and]
  push_cast(disch:=first|omega|(apply id;push_cast;try omega))[h1',h2]
  exact .id rfl
 rw[decide_eq_true (show s.length≤20 by omega),Bool.true_and]
 push_cast(disch:=first|omega|(apply id;push_cast;try omega))[h1',h2]
 refine dK (lE2 G s (by omega)) ?_
 cases hk:keyF s with
 | true=>
  rw[Bool.not_true,Bool.false_and]
  push_cast(disch:=first|omega|(apply id;push_cast;try omega))
  exact .id rfl
 | false=>
  rw[Bool.not_false,Bool.true_and]
  push_cast(disch:=first|omega|(apply id;push_cast;try omega))
  refine WD.loop4 (q:=qq) (qB G) (by kernel_rfl) (I35 s) ?_ _ _ (I35.mk 0 0 _ rfl (Nat.zero_le _) (fun h=>by omega) (fun j hj=>by omega) rfl tH)
  intro m s1 hI
  cases hI with|mk i iv h hiv hi h0 ha hl1 hl2=>
  subst hiv
  rw[uW1]
  by_cases hil:(i:Int)<s.length
  ·push_cast(disch:=first|omega|(apply id;push_cast;try omega))[hil,Int.toNat_natCast]
   refine dK (fV2 G (bt s i) (decide ((i:Int)=0))) ?_
   rw[show bt s i=((s.getD i 0).toNat:Int) from rfl,gZ2]
   by_cases hi0:i=0
   ·subst hi0
    rw[if_pos (by decide)]
    cases hw:small (s.getD 0 0) with
    | true=>
     push_cast(disch:=first|omega|(apply id;push_cast;try omega))[Bool.not_true]
     exact ⟨_,by omega,I35.mk 1 _ _ (by first|rfl|omega) (by omega) (fun _=>hw) (fun j hj=>by rw[show j=0 by omega];exact oB0 hw) hl1 hl2⟩
    | false=>
     push_cast(disch:=first|omega|(apply id;push_cast;try omega))[Bool.not_false,Bool.false_and]
     exact .id rfl
   ·rw[if_neg (by simp;omega)]
    cases hw:kM (s.getD i 0) with
    | true=>
     push_cast(disch:=first|omega|(apply id;push_cast;try omega))[Bool.not_true]
     exact ⟨_,by omega,I35.mk (i+1) _ _ (by first|rfl|omega) (by omega) (fun _=>h0 (by omega)) (fun j hj=>by
      by_cases e:j=i
      ·subst e;exact hw
      ·exact ha j (by omega)) hl1 hl2⟩
    | false=>
     have hf:¬ gI kM s=s.length:=fun e=>by
      have:=zL0 kM s i (by omega)
      rw[hw] at this;cases this
     rw[h0 (by omega),decide_eq_false hf]
     push_cast(disch:=first|omega|(apply id;push_cast;try omega))[Bool.not_false,Bool.true_and]
     exact .id rfl
  ·have hie:i=s.length:=by omega
   subst hie
   have hfl:=tH0 kM s
   have hf:gI kM s=s.length:=by
    rcases Nat.lt_or_ge (gI kM s) s.length with h|h
    ·have:=pQ0 kM s h
     rw[ha _ h] at this;cases this
    ·omega
   rw[h0 hs0,decide_eq_true hf]
   push_cast(disch:=first|omega|(apply id;push_cast;try omega))[hil]
   rw[uV1]
   push_cast(disch:=first|omega|(apply id;push_cast;try omega))
   exact .id rfl
mutual
def jT0 (v st p:Int):Tm→Bool
 | .mk k a b s e l=>!decide (k<0)&&(!decide (14<k)&&(decide ((l.length:Int)=shL k)&&(numF v st p k a b&&((fA k || decide (a=0))&&((fB k || decide (b=0))&&((fN k == !decide (s=[]))&&((!fN k || qN0 s)&&((!fE k || jZ v e)&&((fE k || gD e zE)&&(kQ v st p l&&(!decide (k=3) || !bD (l.take 1))))))))))))
def kQ (v st p:Int):List Tm→Bool
 | []=>true
 | x :: l=>jT0 v st p x&&kQ v st p l
end
theorem oK0 {v st p:Int} (a b:List Tm):kQ v st p (a++b)=(kQ v st p a&&kQ v st p b):=by
 induction a with
 | nil=>simp[kQ]
 | cons x a ih=>simp[kQ,ih,Bool.and_assoc]
theorem lN0 {v st p:Int} {l:List Tm} {i:Nat} {x:Tm} (h:l[i]?=some x):kQ v st p (l.take (i+1))=(kQ v st p (l.take i)&&jT0 v st p x):=by
 rw[jW h,oK0];simp[kQ]
theorem dP0 {v st p:Int}:∀ {l:List Tm} {x:Tm},x∈l→jT0 v st p x=false→kQ v st p l=false
 | y :: l,x,h,hx=>by
  rw[kQ]
  rcases List.mem_cons.1 h with rfl|h
  ·rw[hx];rfl
  ·rw[dP0 h hx,Bool.and_false]
inductive I16 (v st p:Int) (k a b:Int) (s:List UInt8) (e:Ex) (l:List Tm):Nat→S→Prop
 | mk (i:Nat) (iv:Int) (h:jA) {x0 x5 x6 x7 x8 x9 xB xC xD xE xF xG xH xI xJ xK xL xM xN xO xP xQ xR xS xT xU xV xW xX xY xZ yA yB yC yD yE yF yG yH yI yJ yK yL yM yN yO yP yQ yR yS yT yU yV yW yX yY yZ zA zB zC zD zF zG zH zI zJ zK zL zM zN zO zP zQ zR zS zU zV zW zX zY zZ wA wB wC wD wE wF wG wH wI wJ wK wL wM wN wO wP wQ wR wU wV wW wX wY wZ uA uB uC uD uE uF uG uH uI uJ uK uL uM:Value} (hiv:iv=(i:Int)) (hi:i≤l.length) (hok:kQ v st p (l.take i)=true) (c1:cells h 1=some (tmC (.mk k a b s e l),etm,false)) (hl1:h.lo=1) (hl2:2≤h.next) :
  I16 v st p k a b s e l (l.length-i) ⟨(F123 x0 (.int .i64 v) (.int .i64 st) (.int .i64 p) (.pointer (some ⟨1,0,none⟩)) x5 x6 x7 x8 x9 (.int .i64 iv) xB xC xD xE xF xG xH xI xJ xK xL xM xN xO xP xQ xR xS xT xU xV xW xX xY xZ yA yB yC yD yE yF yG yH yI yJ yK yL yM yN yO yP yQ yR yS yT yU yV yW yX yY yZ zA zB zC zD zF zG zH zI zJ zK zL zM zN zO zP zQ zR zS zU zV zW zX zY zZ wA wB wC wD wE wF wG wH wI wJ wK wL wM wN wO wP wQ wR wU wV wW wX wY wZ uA uB uC uD uE uF uG uH uI uJ uK uL uM),[],h⟩
theorem oX1 (v st p:Int) (k a b:Int) (s:List UInt8) (e:Ex) (l:List Tm) (hll:l.length<100000000000) (hsl:bK l=true) (h3:k=3→l.length=1)
  (ih:∀ x∈l,jI (pp G) H0 16 [tmV x,.int .i64 v,.int .i64 st,.int .i64 p] (.bool (jT0 v st p x))) (h:jA)
  (c1:cells h 1=some (tmC (.mk k a b s e l),etm,false)) (hl1:h.lo=1) (hl2:2≤h.next) {c:Bool} (hc:c=(kQ v st p l&&(!decide (k=3) || !bD (l.take 1)))) {x0 x5 x6 x7 x8 x9 xB xC xD xE xF xG xH xI xJ xK xL xM xN xO xP xQ xR xS xT xU xV xW xX xY xZ yA yB yC yD yE yF yG yH yI yJ yK yL yM yN yO yP yQ yR yS yT yU yV yW yX yY yZ zA zB zC zD zF zG zH zI zJ zK zL zM zN zO zP zQ zR zS zU zV zW zX zY zZ wA wB wC wD wE wF wG wH wI wJ wK wL wM wN wO wP wQ wR wU wV wW wX wY wZ uA uB uC uD uE uF uG uH uI uJ uK uL uM:Value} :
  WD (pp G) qq.H none (.loop pM0) ⟨(F123 x0 (.int .i64 v) (.int .i64 st) (.int .i64 p) (.pointer (some ⟨1,0,none⟩)) x5 x6 x7 x8 x9 (.int .i64 0) xB xC xD xE xF xG xH xI xJ xK xL xM xN xO xP xQ xR xS xT xU xV xW xX xY xZ yA yB yC yD yE yF yG yH yI yJ yK yL yM yN yO yP yQ yR yS yT yU yV yW yX yY yZ zA zB zC zD zF zG zH zI zJ zK zL zM zN zO zP zQ zR zS zU zV zW zX zY zZ wA wB wC wD wE wF wG wH wI wJ wK wL wM wN wO wP wQ wR wU wV wW wX wY wZ uA uB uC uD uE uF uG uH uI uJ uK uL uM),[],h⟩
   (@kR ⟨jH 0 (jE (fun s1=>dc3 (pp G) qq none pL0 s1 (@kR ⟨jC prog [.tmp 8] (fun v' σ'=>FzV prog 1 σ' v' (.bool c))⟩)) (jC prog [.tmp 8] (fun v' σ'=>FzV prog 1 σ' v' (.bool c))))⟩):=by
 refine WD.loop4 (q:=qq) (qB G) (by kernel_rfl) (I16 v st p k a b s e l) ?_ _ _ (I16.mk 0 0 h rfl (Nat.zero_le _) rfl c1 hl1 hl2)
 clear c1 hl1 hl2
 intro m s1 hI
 cases hI with|mk i iv h hiv hi hok c1 hl1 hl2=>
 subst hiv
 rw[wW1]
 rw[qH0] at c1
 by_cases hil:(i:Int)<l.length
 ·obtain ⟨x,hx⟩:=jR (l:=l) (i:=i) (by omega)
  have hxm:=List.mem_of_getElem? hx
  have hp:=qW hx
  have hle:i*9+9≤l.length*9:=by omega
  push_cast(disch:=first|omega|(apply id;push_cast;try omega))[hil,c1,Int.toNat_natCast,hp,hle,hl1]
  refine dK (ih x hxm) ?_
  cases hr:jT0 v st p x with
  | false=>
   obtain rfl:c=false:=by rw[hc,dP0 hxm hr];rfl
   push_cast(disch:=first|omega|(apply id;push_cast;try omega))
   exact .id rfl
  | true=>
   push_cast(disch:=first|omega|(apply id;push_cast;try omega))
   exact ⟨_,by omega,I16.mk (i+1) _ _ (by first|rfl|omega) (by omega) (by rw[lN0 hx,hok,hr];rfl) (by first|assumption|(push_cast(disch:=first|omega|(apply id;push_cast;try omega))[c1];try omega)) (by first|assumption|(push_cast(disch:=first|omega|(apply id;push_cast;try omega))[hl1];try omega)) tH⟩
 ·have hie:i=l.length:=by omega
  subst hie
  rw[List.take_length] at hok
  rw[hok,Bool.true_and] at hc
  push_cast(disch:=first|omega|(apply id;push_cast;try omega))[hil,c1,hl1]
  rw[wV1]
  by_cases hk3:k=3
  ·have hl:=h3 hk3
   obtain ⟨x,rfl⟩:∃ x,l=[x]:=by
    match l,hl with
    | [x],_=>exact ⟨x,rfl⟩
   have hp:=qW (l:=[x]) (i:=0) rfl
   rw[Nat.zero_mul,List.drop_zero] at hp
   simp only[bK,Bool.and_eq_true] at hsl
   push_cast(disch:=first|omega|(apply id;push_cast;try omega))[c1,hl1,hk3,hp]
   refine dK (pO2 G x hsl.1) ?_
   obtain rfl:c = !anyT x:=by rw[hc];simp[hk3,bD]
   push_cast(disch:=first|omega|(apply id;push_cast;try omega))
   exact .id rfl
  ·obtain rfl:c=true:=by rw[hc];simp[hk3]
   push_cast(disch:=first|omega|(apply id;push_cast;try omega))[c1,hl1,hk3]
   exact .id rfl
theorem fzE0 (N:Nat) (σ:jA):FzV prog N σ (.agg ⟨[.int .i64 0,.int .i64 0,.string (Tx []),.slice none 0 0]⟩) (exV zE):=.agg (.cons (.id rfl) (.cons (.id rfl) (.cons (.id rfl) (.cons (.nil (size:=4) rfl (by decide)) .nil))))
theorem oY1 (v st p:Int):∀ x:Tm,smT x=true→jI (pp G) H0 16 [tmV x,.int .i64 v,.int .i64 st,.int .i64 p] (.bool (jT0 v st p x))
 | .mk k a b s e l,hs=>by
  have hs0:=hs
  simp only[smT,Bool.and_eq_true,decide_eq_true_eq] at hs
  obtain ⟨⟨hll,hse⟩,hsl⟩:=hs
  have ih:∀ x∈l,jI (pp G) H0 16 [tmV x,.int .i64 v,.int .i64 st,.int .i64 p] (.bool (jT0 v st p x)):=fun x hx=>oY1 v st p x (uU hsl x hx)
  obtain ⟨c,hc⟩:∃ c,c=jT0 v st p (.mk k a b s e l):=⟨_,rfl⟩
  rw[← hc]
  rw[jT0] at hc
  refine cE G fir16 (by kernel_rfl) (uD2 ..) fun hlo=>?_;rw[gL2]
  push_cast(disch:=first|omega|(apply id;push_cast;try omega))
  refine dK (of_f G k) ?_
  unfold ofV
  by_cases h1:k<0
  ·obtain rfl:c=false:=by rw[hc];simp[h1]
   push_cast(disch:=first|omega|(apply id;push_cast;try omega))[h1]
   exact .id rfl
  by_cases h2:14<k
  ·obtain rfl:c=false:=by rw[hc];simp[h2]
   push_cast(disch:=first|omega|(apply id;push_cast;try omega))[h1,h2]
   exact .id rfl
  by_cases h3:(l.length:Int)=shL k
  rotate_left
  ·obtain rfl:c=false:=by rw[hc];simp[h3]
   push_cast(disch:=first|omega|(apply id;push_cast;try omega))[h1,h2,h3]
   exact .id rfl
  have hk3:k=3→l.length=1:=fun h=>by
   rw[h] at h3;simp[shL] at h3;omega
  push_cast(disch:=first|omega|(apply id;push_cast;try omega))[h1,h2,h3]
  refine dK (num_f G v st p k a b s e l) ?_
  cases hn:numF v st p k a b with
  | false=>
   obtain rfl:c=false:=by rw[hc];simp[hn]
   push_cast(disch:=first|omega|(apply id;push_cast;try omega))
   exact .id rfl
  | true=>
  rw[decide_eq_false h1,decide_eq_false h2,decide_eq_true h3,hn] at hc
  simp only[Bool.not_false,Bool.true_and] at hc
  generalize fA k=A at hc ⊢
  generalize fB k=B at hc ⊢
  generalize fN k=N at hc ⊢
  generalize fE k=E at hc ⊢
  have hAc:A=true∨(A=false∧a=0)∨(A=false∧a≠0):=by cases A<;>simp[Classical.em]
  have hBc:B=true∨(B=false∧b=0)∨(B=false∧b≠0):=by cases B<;>simp[Classical.em]
  rcases hAc with rfl|⟨rfl,ha⟩|⟨rfl,ha⟩
  rotate_right
  ·obtain rfl:c=false:=by rw[hc];simp[ha]
   push_cast(disch:=first|omega|(apply id;push_cast;try omega))[ha]
   exact .id rfl
  case' inl=>push_cast(disch:=first|omega|(apply id;push_cast;try omega))
  case' inr.inl=>push_cast(disch:=first|omega|(apply id;push_cast;try omega))[ha]
  all_goals
   rcases hBc with rfl|⟨rfl,hb⟩|⟨rfl,hb⟩
   rotate_right
   ·obtain rfl:c=false:=by rw[hc];simp[hb]
    push_cast(disch:=first|omega|(apply id;push_cast;try omega))[hb]
    exact .id rfl
   case' inl=>push_cast(disch:=first|omega|(apply id;push_cast;try omega))
   case' inr.inl=>push_cast(disch:=first|omega|(apply id;push_cast;try omega))[hb]
  all_goals
   by_cases hs1:s=[]
   case' pos=>
    have hsb:(s == ([]:List UInt8))=true:=by simpa using hs1
    cases N
    case true=>
     obtain rfl:c=false:=by rw[hc];simp[hs1]
     (rw[hsb,show (!(true == !true))=true from rfl];push_cast(disch:=first|omega|(apply id;push_cast;try omega)))
     exact .id rfl
    case' false=>(rw[hsb,show (!(false == !true))=false from rfl];push_cast(disch:=first|omega|(apply id;push_cast;try omega)))
   case' neg=>
    have hsb:(s == ([]:List UInt8))=false:=by simpa using hs1
    cases N
    case false=>
     obtain rfl:c=false:=by rw[hc];simp[hs1]
     (rw[hsb,show (!(false == !false))=true from rfl];push_cast(disch:=first|omega|(apply id;push_cast;try omega)))
     exact .id rfl
    case' true=>
     (rw[hsb,show (!(true == !false))=false from rfl];push_cast(disch:=first|omega|(apply id;push_cast;try omega)))
     refine dK (gV2 G s) ?_
     cases hnm:qN0 s
     case false=>
      obtain rfl:c=false:=by rw[hc];simp[hnm]
      push_cast(disch:=first|omega|(apply id;push_cast;try omega))[Bool.not_false]
      exact .id rfl
     case' true=>push_cast(disch:=first|omega|(apply id;push_cast;try omega))[Bool.not_true]
  all_goals
   cases E
   case' true=>
    push_cast(disch:=first|omega|(apply id;push_cast;try omega))
    refine dK (rr_f G v e hse) ?_
    cases hr:jZ v e
    case false=>
     obtain rfl:c=false:=by rw[hc];simp[hr]
     push_cast(disch:=first|omega|(apply id;push_cast;try omega))[Bool.not_false]
     exact .id rfl
    case' true=>push_cast(disch:=first|omega|(apply id;push_cast;try omega))[Bool.not_true]
   case' false=>
    push_cast(disch:=first|omega|(apply id;push_cast;try omega))
    refine jB.data (bX1 G e zE hse rfl) (.cons (.id (mU0 _ H0q e)) (.cons (fzE0 ..) .nil)) (by first|rfl|(simp(disch:=first|omega|(apply id;push_cast;try omega))only[push_cast])) (by first|rfl|(simp(disch:=first|omega|(apply id;push_cast;try omega))only[push_cast])) ?_
    cases hr:gD e zE
    case false=>
     obtain rfl:c=false:=by rw[hc];simp[hr]
     push_cast(disch:=first|omega|(apply id;push_cast;try omega))[Bool.not_false]
     exact .id rfl
    case' true=>push_cast(disch:=first|omega|(apply id;push_cast;try omega))[Bool.not_true]
  all_goals exact oX1 G v st p k _ _ s e l hll hsl hk3 ih _ (by push_cast(disch:=first|omega|(apply id;push_cast;try omega));first|done|rfl) (by push_cast(disch:=first|omega|(apply id;push_cast;try omega))) (by push_cast(disch:=first|omega|(apply id;push_cast;try omega))) (by rw[hc];simp[*])
theorem oW1:∀ e:Ex,gD e zE = !uW e
 | .mk k n s l=>by
  unfold uW zE
  rw[gD]
  simp only[Ex.k,Ex.n,Ex.s,Ex.l]
  cases l with
  | nil=>by_cases h1:k=0<;>by_cases h2:n=0<;>by_cases h3:s=[]<;>simp[h1,h2,h3,bN]
  | cons x l=>simp
theorem lL0 {v:Int}:∀ {e:Ex},jZ v e=true→uW e=true
 | .mk k n s l,h=>by
  have:k≠0:=by
   rintro rfl
   simp[jZ] at h
  simp[uW,Ex.k,this]
theorem bP2 (v:Int) (k:Int) (s:List UInt8) (e:Ex) (hk:0≤k∧k<15) :
  (decide ((if s=[] then (0:Int) else 1)=shN k∧(if uW e then (1:Int) else 0)=shE k)&&((decide (s=[]) || qN0 s)&&(!uW e || jZ v e)))=((fN k == !decide (s=[]))&&((!fN k || qN0 s)&&((!fE k || jZ v e)&&(fE k || gD e zE)))):=by
 rw[oW1]
 have hN:shN k=if fN k then 1 else 0:=by unfold shN fN;simp
 have hE:shE k=if fE k then 1 else 0:=by unfold shE fE;simp
 rw[hN,hE]
 have hn:s=[]→qN0 s=false:=fun h=>by subst h;rfl
 have hg:uW e=false→jZ v e=false:=fun h=>by
  cases hr:jZ v e with
  | false=>rfl
  | true=>rw[lL0 hr] at h;cases h
 generalize fN k=N
 generalize fE k=E
 generalize qN0 s=nm at hn ⊢
 generalize jZ v e=r at hg ⊢
 generalize uW e=g at hg ⊢
 by_cases hs:s=[]<;>cases N<;>cases E<;>cases nm<;>cases r<;>cases g<;>simp_all
theorem mF2 (v st p:Int) (hv:0≤v) (k a b:Int) (hk:0≤k∧k<15):(cZ v st p (shA k) a&&cZ v st p (shB k) b)=(numF v st p k a b&&((fA k || decide (a=0))&&(fB k || decide (b=0)))):=by
 obtain rfl|rfl|rfl|rfl|rfl|rfl|rfl|rfl|rfl|rfl|rfl|rfl|rfl|rfl|rfl:k=0∨k=1∨k=2∨k=3∨k=4∨k=5∨k=6∨k=7∨k=8∨k=9∨k=10∨k=11∨k=12∨k=13∨k=14:=by omega
 all_goals
  simp[cZ,numF,shA,shB,fA,fB]
 all_goals first
  | done
  | (rw[Bool.eq_iff_iff];simp;omega)
mutual
theorem right_eq (v st p:Int) (hv:0≤v):∀ (x:Tm) (q:Bool),jY v st p q x=(jT0 v st p x&&!(q&&anyT x))
 | .mk k a b s e l,q=>by
  have ih:=lK0 v st p hv l (q || decide (k=3))
  rw[jY,jT0,anyT,ih]
  by_cases hk:0≤k∧k<15
  rotate_left
  ·rw[decide_eq_false hk,Bool.false_and]
   by_cases h1:k<0
   ·simp[h1]
   ·have h2:14<k:=by omega
    simp[h2]
  rw[decide_eq_true hk,decide_eq_false (show ¬ k<0 by omega),decide_eq_false (show ¬ 14<k by omega)]
  simp only[Bool.not_false,Bool.true_and]
  by_cases hl:(l.length:Int)=shL k
  rotate_left
  ·simp[hl]
  have e1:∀ W:Bool,(cZ v st p (shA k) a&&(cZ v st p (shB k) b&&W))=(numF v st p k a b&&((fA k || decide (a=0))&&((fB k || decide (b=0))&&W))):=fun W=>by
   have:=mF2 v st p hv k a b hk
   rw[← Bool.and_assoc,this];simp only[Bool.and_assoc]
  have e2:∀ W:Bool,(decide ((if s=[] then (0:Int) else 1)=shN k∧(if uW e then (1:Int) else 0)=shE k)&&((decide (s=[]) || qN0 s)&&((!uW e || jZ v e)&&W)))=((fN k == !decide (s=[]))&&((!fN k || qN0 s)&&((!fE k || jZ v e)&&((fE k || gD e zE)&&W)))):=fun W=>by
   have:=bP2 v k s e hk
   have h2:∀ x y z:Bool,(x&&(y&&(z&&W)))=((x&&(y&&z))&&W):=fun x y z=>by simp only[Bool.and_assoc]
   rw[h2,this];simp only[Bool.and_assoc]
  have e3:decide ((if s=[] then (0:Int) else 1)=shN k∧(if uW e=true then (1:Int) else 0)=shE k∧(l.length:Int)=shL k)=decide ((if s=[] then (0:Int) else 1)=shN k∧(if uW e then (1:Int) else 0)=shE k):=by
   congr 1;simp[hl]
  have e4:(!decide (k=3) || !bD (l.take 1))=(!decide (k=3) || !bD l):=by
   by_cases h3:k=3
   ·subst h3
    have:l.length=1:=by simp[shL] at hl;omega
    rw[List.take_of_length_le (by omega)]
   ·simp[h3]
  rw[e3,e1,e2,e4,decide_eq_true hl,Bool.true_and]
  generalize numF v st p k a b=c1
  generalize (fA k || decide (a=0))=c2
  generalize (fB k || decide (b=0))=c3
  generalize (fN k == !decide (s=[]))=c4
  generalize (!fN k || qN0 s)=c5
  generalize (!fE k || jZ v e)=c6
  generalize (fE k || gD e zE)=c7
  generalize kQ v st p l=c8
  generalize bD l=y
  generalize decide (k=14)=k14
  generalize decide (k=3)=k3
  cases q<;>cases k14<;>cases k3<;>cases y<;>simp
theorem lK0 (v st p:Int) (hv:0≤v):∀ (l:List Tm) (q:Bool),qL v st p q l=(kQ v st p l&&!(q&&bD l))
 | [],q=>by simp[qL,kQ,bD]
 | x :: l,q=>by
  rw[qL,kQ,bD,right_eq v st p hv x q,lK0 v st p hv l q]
  generalize jT0 v st p x=c1
  generalize kQ v st p l=c2
  cases q<;>cases anyT x<;>cases bD l<;>simp
end
theorem bZ1 (v st p:Int) (hv:0≤v) (x:Tm):jT0 v st p x=jY v st p false x:=by rw[right_eq v st p hv x false];simp
theorem lB2 (σ:jA):bsD (qq.m 32) (slT prog 32) 0 [] σ=some (.slice (some ⟨σ.next,0,none⟩) 0 0,σ.add (O [] etm false)):=by kernel_rfl
theorem row6 (c x:Int) (σ:jA):bsD (qq.m 42) (slT prog 42) 6 [(0,.int .i64 (-2)),(1,.int .i64 (-1)),(2,.int .i64 0),(3,.int .i64 2),(4,.int .i64 c),(5,.int .i64 x)] σ=some (Rw true eI 6 (ivs [-2,-1,0,2,c,x]),σ):=by kernel_rfl
theorem row5n (σ:jA):bsD (qq.m 54) (slT prog 54) 5 [(0,.string (Tx [])),(1,.string (Tx [112,97,121])),(2,.string (Tx [100,111])),(3,.string (Tx [97,32,98])),(4,.string (Tx [80,97,121]))] σ=some (Rw true eS 5 (nss [[],[112,97,121],[100,111],[97,32,98],[80,97,121]]),σ):=by kernel_rfl
theorem rowTx (k a b:Int) (s:List UInt8) (e:Ex) (l:List Tm) (σ:jA):bsD (qq.m 32) (slT prog 32) 1 [(0,.agg ⟨[.int .i64 k,.int .i64 a,.int .i64 b,.string (Tx s),.int .i64 e.k,.int .i64 e.n,.string (Tx e.s),Rw false eE e.l.length (kF e.l),Rw false etm l.length (qK l)]⟩)] σ=some (Rw true etm 1 (qK [.mk k a b s e l]),σ):=oG0 (.mk k a b s e l) σ
def waC:List Value:=[.int .i64 14,.int .i64 0,.int .i64 (-1),.string (Tx [112,97,121]),.int .i64 0,.int .i64 0,.string (Tx []),.slice none 0 0,.slice none 0 0]
theorem rowW (σ:jA):bsD (qq.m 32) (slT prog 32) 1 [(0,.agg ⟨[.int .i64 14,.int .i64 0,.int .i64 (-1),.string (Tx [112,97,121]),.int .i64 0,.int .i64 0,.string (Tx []),.slice none 0 0,.slice none 0 0]⟩)] σ=some (Rw true etm 1 waC,σ):=by kernel_rfl
theorem sV0 {σ:jA} (hlo:σ.lo=1) (hnx:σ.next=3) (l:List Tm) (hl:l.length<1000000) :
  ∃ a c σ',apS etm 9 120 (.slice (some ⟨3,0,none⟩) 0 0) (some (l.length,qK l)) (σ.add (O [] etm false))=some (.slice a l.length c,σ')∧qI σ' etm 9 a l.length c (qK l)∧σ'.lo=1∧4≤σ'.next∧(∀ i,i<3→∀ x,cells σ i=some x→cells σ' i=some x)∧(∀ k,blk a k→3≤k):=by
 have h0:qI (σ.add (O [] etm false)) etm 9 (some ⟨σ.next,0,none⟩) 0 0 []:=⟨rfl,rfl,.inr ⟨σ.next,false,rfl,by rw[kI];omega,by rw[jK];omega,qG0 _ _ _ _ rfl,.inr ⟨rfl,rfl⟩⟩⟩
 obtain ⟨a1,c1,σ1,e1,o1,g1,b1⟩:=gM (by_:=120) h0 (by omega) (by rw[kI,jK];omega) (m:=l.length) (xs:=qK l) (bB l) (jK0 l) (by omega)
 rw[Nat.zero_add,List.nil_append] at o1
 rw[Nat.zero_add,hnx] at e1
 have hn1:4≤σ1.next:=by have:=g1.next;rw[jK] at this;omega
 refine ⟨a1,c1,σ1,e1,o1,by rw[g1.lo,kI,hlo],hn1,fun i hi x hx=>?_,fun k hk=>?_⟩
 ·exact g1.cellsE (by rw[wS0 _ _ (by omega)];exact hx) (by rw[jK];omega) fun ⟨o,s,e⟩=>by cases e;omega
 ·rcases b1 k hk with ⟨o,s,e⟩|hb
  ·cases e;omega
  ·rw[jK] at hb;omega
theorem gL1 (l:List Tm):(qK l).drop 9=qK l.tail:=by
 cases l with
 | nil=>rfl
 | cons x l=>rw[qK,List.tail_cons];exact List.drop_left' (jO0 x)
theorem cI:∀ l:List Tm,(l.length:Int)≤jU l∧0≤jU l
 | []=>by simp[jU]
 | .mk k a b s e m :: l=>by
  have h1:=cI l
  have h2:=(cI m).2
  rw[jU,qR,List.length_cons];omega
theorem zX0:∀ {l:List Tm} {x:Tm},x∈l→qR x≤jU l
 | .mk k a b s e m :: l,x,h=>by
  have h1:=(cI l).2
  have h2:=(cI m).2
  rcases List.mem_cons.1 h with rfl|h
  ·rw[jU];omega
  ·have:=zX0 h
   rw[jU,qR];omega
theorem oN1 {l:List Tm} {y:Tm} (h:bK l=true) (hy:smT y=true) (t:Nat):bK (l.set t y)=true:=by
 induction l generalizing t with
 | nil=>rfl
 | cons x l ih=>
  rw[bK,Bool.and_eq_true] at h
  cases t with
  | zero=>rw[List.set_cons_zero,bK,hy,h.2];rfl
  | succ t=>rw[List.set_cons_succ,bK,h.1,ih h.2];rfl
theorem gV1 {l:List Tm} (h:bK l=true):bK l.tail=true:=by
 cases l with
 | nil=>rfl
 | cons x l=>rw[bK,Bool.and_eq_true] at h;exact h.2
theorem uN2 {P:Program} {N:Nat} {σ:jA} (hN:0<N) (k a b:Int) (s:List UInt8) (e:Ex) {r:Value} {l:List Tm} (hr:FzV P N σ r (Rw false etm l.length (qK l))):FzV P N σ (.agg ⟨[.int .i64 k,.int .i64 a,.int .i64 b,.string (Tx s),.int .i64 e.k,.int .i64 e.n,.string (Tx e.s),Rw false eE e.l.length (kF e.l),r]⟩) (tmV (.mk k a b s e l)):=
 .agg (.cons (.id rfl) (.cons (.id rfl) (.cons (.id rfl) (.cons (.id rfl) (.cons (.id rfl) (.cons (.id rfl) (.cons (.id rfl) (.cons (.row (.ids (jP0 _ hN _))) (.cons hr .nil)))))))))
def wT:Tm:=.mk 14 0 (-1) [112,97,121] (.mk 0 0 [] []) []
theorem wa_fz (N:Nat) (σ:jA):FzL (pp G).P N σ waC (tmC wT):=
 .cons (.id rfl) (.cons (.id rfl) (.cons (.id rfl) (.cons (.id rfl) (.cons (.id rfl) (.cons (.id rfl) (.cons (.id rfl) (.cons (.nil (size:=4) rfl (by decide)) (.cons (.nil (size:=9) rfl (by decide)) .nil))))))))
def SpT (d:Value):Prop:=∃ y:Tm,d=tmV y∧smT y=true
theorem sJ0 (w v:Int):∀ (x:Tm) (at_:Int),smT x=true→qR x≤255→gA (pp G) H0 14 [tmV x,.int .i64 w,.int .i64 v,.int .i64 at_] SpT
 | .mk k a b s e l,at_,hs,hz=>by
  simp only[smT,Bool.and_eq_true,decide_eq_true_eq] at hs
  obtain ⟨⟨hl0,hse⟩,hsl⟩:=hs
  rw[qR] at hz
  have hll:=(cI l).1
  have ih:∀ x∈l,∀ a,gA (pp G) H0 14 [tmV x,.int .i64 w,.int .i64 v,.int .i64 a] SpT:=fun x hx a=>sJ0 w v x a (uU hsl x hx) (by have:=zX0 hx;omega)
  have hsx:∀ {k a b:Int} {s:List UInt8},smT (.mk k a b s e l)=true:=by
   intro k a b s
   simp only[smT,Bool.and_eq_true,decide_eq_true_eq];exact ⟨⟨by omega,hse⟩,hsl⟩
  refine cY G fir14 (by kernel_rfl) (uF2 ..) fun hlo=>?_;rw[gN2]
  have hN:0<H0.next:=by rw[bI];decide
  have hz4:(4:Int)≠0:=by decide
  have hz9:(9:Int)≠0:=by decide
  by_cases h12:(0:Int)<l.length∧0<jN at_ 4
  ·obtain ⟨h1,h2⟩:=h12
   push_cast(disch:=first|omega|(apply id;push_cast;try omega))[h1]
   refine dK (gO G at_ 4 (by omega) (by omega)) ?_
   push_cast(disch:=first|omega|(apply id;push_cast;try omega))[h2,↓lB2]
   obtain ⟨a1,c1,σ1,e1,o1,hl1,hn1,hk1,hb1⟩:=sV0 (σ:=(H0.add (O [.int .i64 k,.int .i64 a,.int .i64 b,.string (Tx s),.int .i64 e.k,.int .i64 e.n,.string (Tx e.s),Rw false eE e.l.length (kF e.l),Rw false etm l.length (qK l)] etm false)).add (O ztm etm false)) (by push_cast(disch:=first|omega|(apply id;push_cast;try omega))) (by push_cast(disch:=first|omega|(apply id;push_cast;try omega))) l (by omega)
   have c6:=hk1 1 (by omega) (tmC (.mk k a b s e l),etm,false) (by push_cast(disch:=first|omega|(apply id;push_cast;try omega));first|done|rfl)
   have c7:=hk1 2 (by omega) (ztm,etm,false) (by push_cast(disch:=first|omega|(apply id;push_cast;try omega));first|done|rfl)
   unfold ztm at *
   rw[qH0] at c6
   clear hk1
   rcases o1.hat with ⟨_,h0,_⟩|⟨bq,m,rfl,q1,q2,q3,q4⟩
   ·omega
   have hb8:=hb1 bq ⟨0,none,rfl⟩
   have hlp:(0:Int)<l.length:=h1
   have hkr:=qC (a:=IntKind.i64.wrap (at_.tdiv 4)) hlp
   push_cast(disch:=first|omega|(apply id;push_cast;try omega))[e1,mE1 hz4,mE1 hz9]
   refine dK (gO G (IntKind.i64.wrap (at_.tdiv 4)) l.length (by omega) (by omega)) ?_
   generalize jN (IntKind.i64.wrap (at_.tdiv 4)) l.length=kk' at hkr
   obtain ⟨t,rfl⟩:∃ t:Nat,kk'=(t:Int):=⟨kk'.toNat,by omega⟩
   obtain ⟨x,hx⟩:=jR (l:=l) (i:=t) (by omega)
   have hxm:=List.mem_of_getElem? hx
   have hp:=qW hx
   have hle:t*9+9≤l.length*9:=by omega
   have hlt:(t:Int)<l.length:=by omega
   have hlen4:(qK l).length=l.length*9:=bB l
   push_cast(disch:=first|omega|(apply id;push_cast;try omega))[hlt,q3,hl1,hp,hle,hlen4,mE1 hz9,Int.toNat_natCast]
   refine dL (ih x hxm _) ?_
   rintro d ⟨y,rfl,hy⟩
   refine ⟨kV _ (by omega) y,?_⟩
   have hset:=oG1 (l:=l) (i:=t) y (by omega)
   push_cast(disch:=first|omega|(apply id;push_cast;try omega))[c6,c7,q3,hl1,hlen4,hle,hlt,hset,Int.toNat_natCast]
   have hll':(l.set t y).length=l.length:=List.length_set
   refine ⟨tmV (.mk k a b s e (l.set t y)),⟨_,rfl,?_⟩,uN2 hN k a b s e ?_⟩
   ·simp only[smT,Bool.and_eq_true,decide_eq_true_eq,hll'];exact ⟨⟨by omega,hse⟩,oN1 hsl hy t⟩
   ·rw[hll']
    refine qI.fz ?_ rfl (by decide) (by omega) (.ids (gB _ hN _)) (fun b' hb'=>by have:=hb1 b' hb';rw[bI];omega)
    exact ⟨by rw[bB,hll'];rfl,jK0 _,.inr ⟨bq,m,rfl,by push_cast(disch:=first|omega|(apply id;push_cast;try omega));omega,by push_cast(disch:=first|omega|(apply id;push_cast;try omega));omega,by push_cast(disch:=first|omega|(apply id;push_cast;try omega)),q4⟩⟩
  ·have hor:¬ (0:Int)<l.length∨((0:Int)<l.length∧¬ 0<jN at_ 4):=by omega
   rcases hor with h1|⟨h1,h2⟩
   case' inl=>push_cast(disch:=first|omega|(apply id;push_cast;try omega))[h1]
   case' inr=>
    push_cast(disch:=first|omega|(apply id;push_cast;try omega))[h1]
    refine dK (gO G at_ 4 (by omega) (by omega)) ?_
    push_cast(disch:=first|omega|(apply id;push_cast;try omega))[h2]
   all_goals
    refine dK (gO G w 8 (by omega) (by omega)) ?_
    have hw5:=qC (a:=w) (n:=8) (by omega)
    generalize jN w 8=u at hw5
    obtain rfl|rfl|rfl|rfl|rfl|rfl|rfl|rfl:u=0∨u=1∨u=2∨u=3∨u=4∨u=5∨u=6∨u=7:=by omega
    ·push_cast(disch:=first|omega|(apply id;push_cast;try omega))
     refine dK (gO G v 17 (by omega) (by omega)) ?_
     push_cast(disch:=first|omega|(apply id;push_cast;try omega))
     exact ⟨_,⟨.mk _ a b s e l,rfl,hsx⟩,.id (kV _ hN (.mk _ _ _ _ e l))⟩
    ·push_cast(disch:=first|omega|(apply id;push_cast;try omega))[↓row6]
     refine dK (gO G v 6 (by omega) (by omega)) ?_
     have hv5:=qC (a:=v) (n:=6) (by omega)
     generalize jN v 6=u at hv5
     obtain rfl|rfl|rfl|rfl|rfl|rfl:u=0∨u=1∨u=2∨u=3∨u=4∨u=5:=by omega
     all_goals
      push_cast(disch:=first|omega|(apply id;push_cast;try omega))
      exact ⟨_,⟨.mk k _ b s e l,rfl,hsx⟩,.id (kV _ hN (.mk _ _ _ _ e l))⟩
    ·push_cast(disch:=first|omega|(apply id;push_cast;try omega))[↓row6]
     refine dK (gO G v 6 (by omega) (by omega)) ?_
     have hv5:=qC (a:=v) (n:=6) (by omega)
     generalize jN v 6=u at hv5
     obtain rfl|rfl|rfl|rfl|rfl|rfl:u=0∨u=1∨u=2∨u=3∨u=4∨u=5:=by omega
     all_goals
      push_cast(disch:=first|omega|(apply id;push_cast;try omega))
      exact ⟨_,⟨.mk k a _ s e l,rfl,hsx⟩,.id (kV _ hN (.mk _ _ _ _ e l))⟩
    ·push_cast(disch:=first|omega|(apply id;push_cast;try omega))[↓row5n]
     refine dK (gO G v 5 (by omega) (by omega)) ?_
     have hv5:=qC (a:=v) (n:=5) (by omega)
     generalize jN v 5=u at hv5
     obtain rfl|rfl|rfl|rfl|rfl:u=0∨u=1∨u=2∨u=3∨u=4:=by omega
     all_goals
      push_cast(disch:=first|omega|(apply id;push_cast;try omega))
      exact ⟨_,⟨.mk k a b _ e l,rfl,hsx⟩,.id (kV _ hN (.mk _ _ _ _ e l))⟩
    ·push_cast(disch:=first|omega|(apply id;push_cast;try omega))
     refine dK (gO G v 4 (by omega) (by omega)) ?_
     push_cast(disch:=first|omega|(apply id;push_cast;try omega))[mE1 hz4]
     refine dK (gO G (IntKind.i64.wrap (v.tdiv 4)) 5 (by omega) (by omega)) ?_
     push_cast(disch:=first|omega|(apply id;push_cast;try omega))
     exact ⟨_,⟨.mk k a b s (.mk _ _ [] []) l,rfl,by simp only[smT,Bool.and_eq_true,decide_eq_true_eq];exact ⟨⟨by omega,rfl⟩,hsl⟩⟩,.agg (.cons (.id rfl) (.cons (.id rfl) (.cons (.id rfl) (.cons (.id rfl) (.cons (.id rfl) (.cons (.id rfl) (.cons (.id rfl) (.cons (.nil (size:=4) rfl (by decide)) (.cons (.row (.ids (gB _ hN _))) .nil)))))))))⟩
    ·push_cast(disch:=first|omega|(apply id;push_cast;try omega))[↓lB2]
     obtain ⟨a1,c1,σ1,e1,o1,hl1,hn1,hk1,hb1⟩:=sV0 (σ:=(H0.add (O [.int .i64 k,.int .i64 a,.int .i64 b,.string (Tx s),.int .i64 e.k,.int .i64 e.n,.string (Tx e.s),Rw false eE e.l.length (kF e.l),Rw false etm l.length (qK l)] etm false)).add (O ztm etm false)) (by push_cast(disch:=first|omega|(apply id;push_cast;try omega))) (by push_cast(disch:=first|omega|(apply id;push_cast;try omega))) l (by omega)
     have c6:=hk1 1 (by omega) (tmC (.mk k a b s e l),etm,false) (by push_cast(disch:=first|omega|(apply id;push_cast;try omega));first|done|rfl)
     have c7:=hk1 2 (by omega) (ztm,etm,false) (by push_cast(disch:=first|omega|(apply id;push_cast;try omega));first|done|rfl)
     unfold ztm at *
     rw[qH0] at c6
     clear hk1
     obtain ⟨a2,c2,σ2,e2,o2,g2,b2⟩:=gM (by_:=120) o1 (by omega) (by omega) (m:=1) (xs:=waC) rfl rfl (by omega)
     have k6:cells σ2 1=_:=g2.cellsE c6 (by omega) (fun hb=>by have:=hb1 _ hb;omega)
     have k7:cells σ2 2=_:=g2.cellsE c7 (by omega) (fun hb=>by have:=hb1 _ hb;omega)
     have hl2':σ2.lo=1:=by rw[g2.lo,hl1]
     have hn2:=g2.next
     have hw1:waC.length=9:=rfl
     have hw2:waC.all one=true:=rfl
     have hw3:waC.take 9=waC:=rfl
     push_cast(disch:=first|omega|(apply id;push_cast;try omega))[e1,↓rowW,hw1,hw2,hw3,e2,k6,k7,hl2']
     have hll':(l++[wT]).length=l.length+1:=List.length_append
     refine ⟨tmV (.mk k a b s e (l++[wT])),⟨_,rfl,?_⟩,uN2 hN k a b s e ?_⟩
     ·simp only[smT,Bool.and_eq_true,decide_eq_true_eq,hll'];exact ⟨⟨by omega,hse⟩,yR0 hsl rfl⟩
     ·rw[hll',jL0]
      have hb2:∀ b',blk a2 b'→3≤b':=fun b' hb'=>(b2 b' hb').elim (hb1 b') fun h=>by omega
      refine qI.fz (o2.grew (S:=fun k=>k=1∨k=2) ((jF.put _ 1 _ fun _=>.inl rfl).trans (jF.put _ 2 _ fun _=>.inr rfl) fun _ _ h=>h) (fun b hb e=>by have:=hb2 b hb;omega)) rfl (by decide) (by omega) ?_ (fun b' hb'=>by have:=hb2 b' hb';rw[bI];omega)
      exact (FzL.ids (gB _ hN _)).app (by rw[show qK [wT]=tmC wT from List.append_nil _];exact wa_fz G _ _)
    ·by_cases h0:(0:Int)<l.length
     ·first|exact absurd h0 h1|(push_cast(disch:=first|omega|(apply id;push_cast;try omega))[h0];have ht1:l.length-1=l.tail.length:=List.length_tail.symm;rw[gL1,ht1];exact ⟨tmV (.mk k a b s e l.tail),⟨_,rfl,by simp only[smT,Bool.and_eq_true,decide_eq_true_eq];exact ⟨⟨by omega,hse⟩,gV1 hsl⟩⟩,.id (kV 1 (by decide) (.mk k a b s e l.tail))⟩)
     ·first|exact absurd h1 h0|(push_cast(disch:=first|omega|(apply id;push_cast;try omega))[h0];exact ⟨_,⟨.mk k a b s e l,rfl,hsx⟩,.id (kV _ hN (.mk _ _ _ _ e l))⟩)
    ·push_cast(disch:=first|omega|(apply id;push_cast;try omega))[↓rowTx]
     exact ⟨_,⟨.mk _ 0 0 [] zE [.mk k a b s e l],rfl,by simp[smT,bK,zE,smE,smEs];exact ⟨⟨by omega,hse⟩,hsl⟩⟩,lB0 rfl _ 0 0 [] (l:=[.mk k a b s e l]) rfl (.ids (gB _ hN _))⟩
theorem nZ2 (N:Nat) (hN:0<N) (σ:jA) (l:List Rb):FzL (pp G).P N σ [.agg ⟨[.int .i64 0,.int .i64 0,Rw true erb l.length (rbCs l)]⟩] [shV 0 0 l]:=
 .cons (.agg (.cons (.id rfl) (.cons (.id rfl) (.cons (.row (.ids (gT0 _ hN _))) .nil)))) .nil
theorem cD2 (r:Rb) (w:Int) (hr:smB r=true):gA (pp G) H0 13 [rbV r,.int .i64 w] (fun d=>∃ y,d=tmV y∧rD1 y):=
 fun g h vs hP hrr hv=>(cC2 G r w hr g h vs hP hrr hv).mono fun u h' ⟨d,g',⟨y,e,hs,hy⟩,x⟩=>⟨d,g',⟨y,e,dA1 hs hy⟩,x⟩
inductive I23 (a b:List Int):Nat→S→Prop
 | mk (i:Nat) (iv:Int) (h:jA) {x2 x3 x4 x6 x7 x8 x9 xA xB xC xD xE xF xG xH xI xJ xK xL xM xN xO xP:Value} (hiv:iv=(i:Int)) (hi:i≤a.length) (he:∀ j,j<i→a.getD j 0=b.getD j 0) (hl1:h.lo=1) (hl2:1≤h.next) :
  I23 a b (a.length-i) ⟨(F26 (ivV a) (ivV b) x2 x3 x4 (.int .i64 iv) x6 x7 x8 x9 xA xB xC xD xE xF xG xH xI xJ xK xL xM xN xO xP),[],h⟩
theorem mV2 (a b:List Int) (ha:a.length<1000000000000) (hb:b.length<1000000000000):jI (pp G) H0 23 [ivV a,ivV b] (.bool (decide (a=b))):=by
 refine cE G fir23 (by kernel_rfl) (nH1 ..) fun hlo=>?_;rw[gG2]
 have hA:ivV a=Rw false eI a.length (ivs a):=rfl
 have hB:ivV b=Rw false eI b.length (ivs b):=rfl
 by_cases hl:a.length=b.length
 rotate_left
 ·rw[decide_eq_false (fun e=>hl (by rw[e]))]
  have hl':¬ (a.length:Int)=b.length:=by omega
  push_cast(disch:=first|omega|(apply id;push_cast;try omega))[hA,hB,hl']
  exact .id rfl
 have hl':(a.length:Int)=b.length:=by omega
 push_cast(disch:=first|omega|(apply id;push_cast;try omega))[hA,hB,hl']
 rw[← hA,← hB]
 refine WD.loop4 (q:=qq) (qB G) (by kernel_rfl) (I23 a b) ?_ _ _ (I23.mk 0 0 _ rfl (Nat.zero_le _) (fun j hj=>by omega) rfl tH)
 intro m s1 hI
 cases hI with|mk i iv h hiv hi he hl1 hl2=>
 subst hiv
 rw[wM1]
 by_cases hil:(i:Int)<a.length
 ·have hilb:(i:Int)<b.length:=by omega
  have g1:=fR0 (l:=a) (i:=i) (by omega)
  have g2:=fR0 (l:=b) (i:=i) (by omega)
  by_cases hx:a.getD i 0=b.getD i 0
  ·push_cast(disch:=first|omega|(apply id;push_cast;try omega))[hA,hB,hil,hilb,g1,g2,hx,Int.toNat_natCast]
   rw[← hA,← hB]
   exact ⟨_,by omega,I23.mk (i+1) _ _ (by first|rfl|omega) (by omega) (fun j hj=>by
    by_cases e:j=i
    ·subst e;exact hx
    ·exact he j (by omega)) (by first|assumption|(push_cast(disch:=first|omega|(apply id;push_cast;try omega))[hl1];try omega)) tH⟩
  ·rw[decide_eq_false (fun e=>hx (by rw[e]))]
   push_cast(disch:=first|omega|(apply id;push_cast;try omega))[hA,hB,hil,hilb,g1,g2,hx,Int.toNat_natCast]
   exact .id rfl
 ·push_cast(disch:=first|omega|(apply id;push_cast;try omega))[hA,hB,hil]
  rw[wL1]
  rw[decide_eq_true (List.ext_getElem hl fun j h1 h2=>by
   have:=he j (by omega)
   rw[List.getD_eq_getElem?_getD,List.getD_eq_getElem?_getD,List.getElem?_eq_getElem h1,List.getElem?_eq_getElem h2] at this
   exact this)]
  push_cast(disch:=first|omega|(apply id;push_cast;try omega))
  exact .id rfl
mutual
theorem rJ0:∀ x:Tm,((cK x).length:Int)≤qR x
 | .mk k a b s e l=>by
  rw[cK,qR]
  have hL:=iS0 l
  have hH:=sX1 l
  have hp:=jB0 l
  split
  ·rw[List.length_cons];omega
  ·split
   ·rw[List.length_cons];omega
   ·simp;omega
theorem iS0:∀ l:List Tm,((gU l).length:Int)≤jU l
 | []=>by simp[gU,jU]
 | x :: l=>by rw[gU,jU,List.length_append];have:=rJ0 x;have:=iS0 l;omega
theorem sX1:∀ l:List Tm,((actH l).length:Int)≤jU l
 | []=>by simp[actH,jU]
 | x :: l=>by rw[actH,jU];have:=rJ0 x;have:=jB0 l;omega
end
theorem fW2 (a b:List Tm):wS (a++b)=wS a++wS b:=by unfold wS;rw[List.filter_append,List.map_append]
theorem zB2 {k a b:Int} {s:List UInt8} {e:Ex} {l:List Tm} (h:k≠14) (m:List Tm):wS (.mk k a b s e l :: m)=wS m:=by
 unfold wS;simp[Tm.k,h]
theorem uH2 {x:Tm} (h:rD1 x):(cK x).length≤255∧(gY x).length≤255:=by
 have h1:=rJ0 x
 have h2:=h.2.2
 have h3:=sD0 (cK x)
 have h4:(gY x).length=(wS (cK x)).length:=rfl
 omega
theorem wt_f {x:Tm} (h:rD1 x):jI (pp G) H0 24 [tmV x] (ivV (gY x)):=wZ2 G x h.1 (by have:=uH2 h;omega)
def actN (k:Int):Nat:=if k=12∨k=7 then 1 else if k=11 then 2 else 0
theorem mI1 (t:Tm):jI (pp G) H0 43 [tmV t] (.int .i64 (actN t.k)):=by
 obtain ⟨k,a,b,s,e,l⟩:=t
 refine cE G fir43 (by kernel_rfl) (fO2 ..) fun hlo=>?_;rw[yO2]
 rw[Tm.k_mk]
 unfold actN
 by_cases h12:k=12
 ·rw[if_pos (.inl h12)]
  push_cast(disch:=first|omega|(apply id;push_cast;try omega))[h12]
  rw[kA0]
  push_cast(disch:=first|omega|(apply id;push_cast;try omega))
  exact .id rfl
 by_cases h7:k=7
 ·rw[if_pos (.inr h7)]
  push_cast(disch:=first|omega|(apply id;push_cast;try omega))[h12,h7]
  rw[kA0]
  push_cast(disch:=first|omega|(apply id;push_cast;try omega))
  exact .id rfl
 push_cast(disch:=first|omega|(apply id;push_cast;try omega))[h12,h7]
 rw[kA0]
 rw[if_neg (by omega)]
 by_cases h11:k=11
 ·rw[if_pos h11]
  push_cast(disch:=first|omega|(apply id;push_cast;try omega))[h11]
  exact .id rfl
 ·rw[if_neg h11]
  push_cast(disch:=first|omega|(apply id;push_cast;try omega))[h11]
  rw[uL1]
  push_cast(disch:=first|omega|(apply id;push_cast;try omega))
  exact .id rfl
theorem iT2 {p:Bool} {k a b:Int} {s:List UInt8} {e:Ex} {l:List Tm} (h:jY 3 2 5 p (.mk k a b s e l)=true):(l.length:Int)=shL k∧∀ x∈l,jY 3 2 5 (p || decide (k=3)) x=true:=by
 rw[jY] at h
 simp only[Bool.and_eq_true,decide_eq_true_eq] at h
 exact ⟨h.2.2.2.2.1.2.2,wH0 h.2.2.2.2.2.2.2⟩
theorem nP1 {k a b:Int} {s:List UInt8} {e:Ex} {l:List Tm} (h:k≠14) (hl:(l.length:Int)=shL k):gY (.mk k a b s e l)=wS (gU (l.take (actN k)))∧actN k≤l.length:=by
 unfold gY actN
 rw[cK,zB2 h]
 by_cases h12:k=12
 ·subst h12
  rw[if_pos rfl,if_pos (.inl rfl),nL0]
  exact ⟨rfl,by have:shL 12=2:=rfl;omega⟩
 rw[if_neg h12]
 by_cases h7:k=7
 ·subst h7
  have:shL 7=1:=rfl
  rw[if_pos (.inr rfl),if_pos (.inr rfl),List.take_of_length_le (by omega)]
  exact ⟨rfl,by omega⟩
 by_cases h11:k=11
 ·subst h11
  have:shL 11=2:=rfl
  rw[if_pos (.inl rfl),if_neg (by decide),if_pos rfl,List.take_of_length_le (by omega)]
  exact ⟨rfl,by omega⟩
 ·rw[if_neg (by omega),if_neg (by omega),if_neg h11,List.take_zero]
  exact ⟨rfl,by omega⟩
inductive I25 (t:Tm):Nat→S→Prop
 | mk (i : Nat) (iv : Int) (h : jA) (q : Option Addr) (c : Nat) {x0 x2 x5 x6 x7 x8 x9 xA xB xC xD xE xF xG xH xI xJ xK xL xM xN xO xP : Value} (hiv : iv = (i : Int)) (hi : i ≤ actN t.k) (c1 : cells h 1 = some (tmC t, etm, false))
   (ho:qI h eI 1 q (wS (gU (t.l.take i))).length c (ivs (wS (gU (t.l.take i))))) (hq:∀ b,blk q b→2≤b) (hl1:h.lo=1) (hl2:2≤h.next) :
  I25 t (actN t.k-i) ⟨(F26 x0 (.pointer (some ⟨1,0,none⟩)) x2 (.slice q (wS (gU (t.l.take i))).length c) (.int .i64 iv) x5 x6 x7 x8 x9 xA xB xC xD xE xF xG xH xI xJ xK xL xM xN xO xP),[],h⟩
theorem sN0:∀ (t:Tm) (p:Bool),smT t=true→jY 3 2 5 p t=true→qR t≤255→jI (pp G) H0 25 [tmV t] (ivV (gY t))
 | .mk k a b s e l,p,hs,hr,hz=>by
  have hs0:=hs
  simp only[smT,Bool.and_eq_true,decide_eq_true_eq] at hs
  obtain ⟨⟨hll,hse⟩,hsl⟩:=hs
  obtain ⟨hL,hrs⟩:=iT2 hr
  have hz0:=hz
  rw[qR] at hz
  have hlen:=(cI l).1
  have ih:∀ x∈l,jI (pp G) H0 25 [tmV x] (ivV (gY x)):=fun x hx=>sN0 x _ (uU hsl x hx) (hrs x hx) (by have:=zX0 hx;omega)
  refine cE G fir25 (by kernel_rfl) (nH1 ..) fun hlo=>?_;rw[gE2]
  by_cases h14:k=14
  ·subst h14
   push_cast(disch:=first|omega|(apply id;push_cast;try omega))[↓uX2]
   rw[show gY (.mk 14 a b s e l)=[a] by unfold gY wS;rw[cK,if_neg (by decide),if_neg (by decide)];rfl]
   exact .row (.ids (bG0 _ _))
  ·obtain ⟨hw,hn⟩:=nP1 (a:=a) (b:=b) (s:=s) (e:=e) h14 hL
   push_cast(disch:=first|omega|(apply id;push_cast;try omega))[h14]
   refine WD.loop4 (q:=qq) (qB G) (by kernel_rfl) (I25 (.mk k a b s e l)) ?_ _ _ (I25.mk 0 0 _ none 0 rfl (Nat.zero_le _) ?_ (qI.nil _ _ _) (fun b hb=>by obtain ⟨o,s,e⟩:=hb;cases e) ?_ ?_)
   ·intro m s1 hI
    cases hI with|mk i iv h q c hiv hi c1 ho hq hl1 hl2=>
    subst hiv
    simp only[Tm.k_mk,Tm.l_mk] at hi ho ⊢
    have hwb:∀ j,(wS (gU (l.take j))).length≤255:=fun j=>by
     have h1:=sD0 (gU (l.take j))
     have h2:=iS0 (l.take j)
     have h3:jU (l.take j)≤jU l:=by
      have e:=zY0 (l.take j) (l.drop j)
      rw[List.take_append_drop] at e
      have:=(cI (l.drop j)).2
      omega
     omega
    have hb0:=hwb i
    rw[wJ1]
    push_cast(disch:=first|omega|(apply id;push_cast;try omega))[c1,hl1]
    refine dK (mI1 G (.mk k a b s e l)) ?_
    rw[Tm.k_mk]
    rw[qH0] at c1
    by_cases hil:(i:Int)<actN k
    ·obtain ⟨x,hx⟩:=jR (l:=l) (i:=i) (by omega)
     have hp:=qW hx
     have hle:i*9+9≤l.length*9:=by omega
     have hill:(i:Int)<l.length:=by omega
     have hta:wS (gU (l.take (i+1)))=wS (gU (l.take i))++gY x:=by
      rw[jW hx,gB0,fW2]
      unfold gY
      rw[gU,gU,List.append_nil]
     have hb1:=hwb (i+1)
     rw[hta,List.length_append] at hb1
     have hsr:∀ h:jA,srcD 1 (ivV (gY x)) h=some ((gY x).length,ivs (gY x)):=fun h=>uS2 _ (by rw[oS0,Nat.mul_one])
     obtain ⟨a',c',σ',e',o',g',b'⟩:=gM (by_:=8) ho (by omega) (by omega) (m:=(gY x).length) (xs:=ivs (gY x)) (by rw[oS0,Nat.mul_one]) (oR0 _) (by omega)
     rw[← oT0,← List.length_append,← hta] at o'
     rw[← List.length_append,← hta] at e'
     have k1:cells σ' 1=_:=g'.cellsE c1 (by omega) (fun hb=>by have:=hq _ hb;omega)
     have hn':=g'.next
     have hl':=g'.lo
     push_cast(disch:=first|omega|(apply id;push_cast;try omega))[hil,c1,hill,hp,hle,Int.toNat_natCast,hl1]
     refine dK (ih x (List.mem_of_getElem? hx)) ?_
     push_cast(disch:=first|omega|(apply id;push_cast;try omega))[hsr,e']
     refine ⟨_,by simp only[Tm.k_mk];omega,I25.mk (i+1) _ σ' a' c' (by first|rfl|omega) (by simp only[Tm.k_mk];omega) k1 o' (fun k hk=>?_) (by omega) (by omega)⟩
     rcases b' k hk with hb|hb
     ·exact hq k hb
     ·omega
    ·obtain rfl:i=actN k:=by omega
     push_cast(disch:=first|omega|(apply id;push_cast;try omega))[hil]
     rw[wI1]
     push_cast(disch:=first|omega|(apply id;push_cast;try omega))
     rw[hw]
     exact ho.fz rfl (by decide) (by omega) (.ids (bG0 _ _)) (fun b hb=>by have:=hq b hb;omega)
   ·exact tH
   ·rfl
   ·exact tH
 termination_by t=>SizeOf.sizeOf t
mutual
theorem dO0:∀ x:Ex,gD x x=true
 | .mk k n s l=>by simp[gD,gQ0 l]
theorem gQ0:∀ l:List Ex,bN l l=true
 | []=>rfl
 | x :: l=>by simp[bN,dO0 x,gQ0 l]
end
mutual
theorem dN0:∀ x:Tm,wG0 x x=true
 | .mk k a b s e l=>by simp[wG0,dO0 e,gO0 l]
theorem gO0:∀ l:List Tm,cC l l=true
 | []=>rfl
 | x :: l=>by simp[cC,dN0 x,gO0 l]
end
structure NmOk (t n:Tm):Prop where
 i:qD n=n
 z:qR n≤qR t
 r:∀ q,jY 3 2 5 q t=true→jY 3 2 5 q n=true
 s:smT t=true→smT n=true
theorem NmOk.of_eq {t:Tm} (h:qD t=t):NmOk t (qD t):=by
 rw[h];exact ⟨h,Int.le_refl _,fun _ h=>h,fun h=>h⟩
theorem nm_z (t:Tm):NmOk t zT:=⟨rfl,by have:=jF0 t;show 1≤_;omega,fun q _=>by cases q<;>decide,fun _=>rfl⟩
theorem gW2 {q:Bool} {k a b:Int} {s:List UInt8} {e:Ex} {x x':Tm} (hx:∀ q,jY 3 2 5 q x=true→jY 3 2 5 q x'=true) (h:jY 3 2 5 q (.mk k a b s e [x])=true):jY 3 2 5 q (.mk k a b s e [x'])=true:=by
 simp only[jY,qL,Bool.and_eq_true,List.length_singleton] at h ⊢
 exact ⟨h.1,h.2.1,h.2.2.1,h.2.2.2.1,h.2.2.2.2.1,h.2.2.2.2.2.1,h.2.2.2.2.2.2.1,hx _ h.2.2.2.2.2.2.2.1,trivial⟩
theorem cD1 {q:Bool} {k a b:Int} {s:List UInt8} {e:Ex} {x x' y y':Tm} (hx:∀ q,jY 3 2 5 q x=true→jY 3 2 5 q x'=true) (hy:∀ q,jY 3 2 5 q y=true→jY 3 2 5 q y'=true) (h:jY 3 2 5 q (.mk k a b s e [x,y])=true):jY 3 2 5 q (.mk k a b s e [x',y'])=true:=by
 simp only[jY,qL,Bool.and_eq_true,List.length_cons,List.length_nil] at h ⊢
 exact ⟨h.1,h.2.1,h.2.2.1,h.2.2.2.1,h.2.2.2.2.1,h.2.2.2.2.2.1,h.2.2.2.2.2.2.1,hx _ h.2.2.2.2.2.2.2.1,hy _ h.2.2.2.2.2.2.2.2.1,trivial⟩
theorem cC1 {q:Bool} {a b:Int} {s:List UInt8} {e:Ex} {x y:Tm} (h:jY 3 2 5 q (.mk 12 a b s e [x,y])=true):jY 3 2 5 q y=true:=by
 simp only[jY,qL,Bool.and_eq_true] at h
 have:=h.2.2.2.2.2.2.2.2.1
 cases q<;>exact this
theorem sm_1 {k a b:Int} {s:List UInt8} {e:Ex} {x x':Tm} (hx:smT x=true→smT x'=true) (h:smT (.mk k a b s e [x])=true):smT (.mk k a b s e [x'])=true:=by
 simp only[smT,bK,Bool.and_eq_true,List.length_singleton] at h ⊢
 exact ⟨h.1,hx h.2.1,trivial⟩
theorem sm_2 {k a b:Int} {s:List UInt8} {e:Ex} {x x' y y':Tm} (hx:smT x=true→smT x'=true) (hy:smT y=true→smT y'=true) (h:smT (.mk k a b s e [x,y])=true):smT (.mk k a b s e [x',y'])=true:=by
 simp only[smT,bK,Bool.and_eq_true,List.length_cons,List.length_nil] at h ⊢
 exact ⟨h.1,hx h.2.1,hy h.2.2.1,trivial⟩
theorem sz1 (k a b:Int) (s:List UInt8) (e:Ex) (x:Tm):qR (.mk k a b s e [x])=1+qR x:=by simp[qR,jU]
theorem sz2 (k a b:Int) (s:List UInt8) (e:Ex) (x y:Tm):qR (.mk k a b s e [x,y])=1+(qR x+qR y):=by simp[qR,jU]
theorem fO0:∀ t:Tm,NmOk t (qD t)
 | .mk k a b s e [x,y]=>by
  have hx:=fO0 x
  have hy:=fO0 y
  rw[qD]
  by_cases h12:k=12
  ·subst h12
   rw[if_pos rfl]
   by_cases h0:(qD x).k=0
   ·rw[if_pos h0]
    refine ⟨hy.i,?_,fun q h=>hy.r q (cC1 h),fun h=>hy.s ?_⟩
    ·rw[sz2];have:=hy.z;have:=jF0 x;omega
    ·simp only[smT,bK,Bool.and_eq_true] at h;exact h.2.2.1
   ·rw[if_neg h0]
    refine ⟨?_,?_,fun q h=>cD1 hx.r (fun _ h=>h) h,sm_2 hx.s fun h=>h⟩
    ·rw[qD,if_pos rfl,hx.i,if_neg h0]
    ·rw[sz2,sz2];have:=hx.z;omega
  rw[if_neg h12]
  by_cases h11:k=11
  ·subst h11
   rw[if_pos rfl]
   by_cases h0:(qD x).k=0∧(qD y).k=0
   ·rw[if_pos h0];exact nm_z _
   ·rw[if_neg h0]
    refine ⟨?_,?_,fun q h=>cD1 hx.r hy.r h,sm_2 hx.s hy.s⟩
    ·rw[qD,if_neg (by decide),if_pos rfl,hx.i,hy.i,if_neg h0]
    ·rw[sz2,sz2];have:=hx.z;have:=hy.z;omega
  rw[if_neg h11]
  exact ⟨by rw[qD,if_neg h12,if_neg h11],Int.le_refl _,fun _ h=>h,fun h=>h⟩
 | .mk k a b s e [x]=>by
  have hx:=fO0 x
  rw[qD]
  by_cases h7:k=7
  ·subst h7
   rw[if_pos rfl]
   by_cases h0:(qD x).k=0
   ·rw[if_pos h0];exact nm_z _
   ·rw[if_neg h0]
    refine ⟨?_,?_,fun q h=>gW2 hx.r h,sm_1 hx.s⟩
    ·rw[qD,if_pos rfl,hx.i,if_neg h0]
    ·rw[sz1,sz1];have:=hx.z;omega
  rw[if_neg h7]
  exact ⟨by rw[qD,if_neg h7],Int.le_refl _,fun _ h=>h,fun h=>h⟩
 | .mk k a b s e []=>.of_eq rfl
 | .mk k a b s e (x :: y :: z :: l)=>.of_eq rfl
 termination_by t=>SizeOf.sizeOf t
theorem rE1 {e:Ex} (h:uW e=false):e=zE:=by
 obtain ⟨k,n,s,l⟩:=e
 unfold uW at h
 simp only[Bool.or_eq_false_iff,Bool.not_eq_false',decide_eq_true_eq,decide_eq_false_iff_not] at h
 obtain ⟨h1,h2,h3,h4⟩:=h
 have e1:k=0:=h1
 have e2:n=0:=h2
 have e3:s=[]:=h3
 have e4:l=[]:=by
  cases l with
  | nil=>rfl
  | cons x l=>exact absurd (Nat.zero_lt_succ _) h4
 subst e1 e2 e3 e4
 rfl
theorem bare {p:Bool} {k a b:Int} {s:List UInt8} {e:Ex} {l:List Tm} (hk:k=12∨k=11∨k=7) (h:jY 3 2 5 p (.mk k a b s e l)=true):a=0∧b=0∧s=[]∧e=zE:=by
 rw[jY] at h
 simp only[Bool.and_eq_true,decide_eq_true_eq] at h
 obtain ⟨_,_,h3,h4,⟨h5,h6,_⟩,_⟩:=h
 have hA:shA k=0:=by rcases hk with rfl|rfl|rfl<;>rfl
 have hB:shB k=0:=by rcases hk with rfl|rfl|rfl<;>rfl
 have hS:shN k=0:=by rcases hk with rfl|rfl|rfl<;>rfl
 have hE:shE k=0:=by rcases hk with rfl|rfl|rfl<;>rfl
 rw[hA] at h3
 rw[hB] at h4
 rw[hS] at h5
 rw[hE] at h6
 refine ⟨by simpa[cZ] using h3,by simpa[cZ] using h4,?_,rE1 ?_⟩
 ·by_cases hs:s=[]
  ·exact hs
  ·rw[if_neg hs] at h5;omega
 ·cases hg:uW e with
  | false=>rfl
  | true=>rw[if_pos hg] at h6;omega
set_option maxHeartbeats 2000000 in
theorem cB1:∀ (x:Tm) (p:Bool),smT x=true→jY 3 2 5 p x=true→jI (pp G) H0 22 [tmV x] (tmV (qD x))
 | .mk k a b s e l,p,hs,hr=>by
  have hs0:=hs
  simp only[smT,Bool.and_eq_true,decide_eq_true_eq] at hs
  obtain ⟨⟨hll,hse⟩,hsl⟩:=hs
  obtain ⟨hL,hrs⟩:=iT2 hr
  have ih:∀ x∈l,jI (pp G) H0 22 [tmV x] (tmV (qD x)):=fun x hx=>cB1 x _ (uU hsl x hx) (hrs x hx)
  have hbare:=fun hk=>bare hk hr
  by_cases h12:k=12
  ·subst h12
   obtain ⟨rfl,rfl,rfl,rfl⟩:=hbare (.inl rfl)
   obtain ⟨x,y,rfl⟩:∃ x y,l=[x,y]:=by
    match l,hL with
    | [x,y],_=>exact ⟨x,y,rfl⟩
   have hx:=ih x (by simp)
   have hy:=ih y (by simp)
   clear ih hs0 hr hbare hrs hsl
   refine cE G rQ1 (by kernel_rfl) (iV0 ..) fun hlo=>?_;rw[fE0]
   rw[qD,if_pos rfl]
   push_cast(disch:=first|omega|(apply id;push_cast;try omega))
   refine dK (hx) ?_
   generalize qD x=x'
   by_cases h0:x'.k=0
   ·rw[if_pos h0]
    push_cast(disch:=first|omega|(apply id;push_cast;try omega))[cR,h0]
    refine dK (hy) ?_
    push_cast(disch:=first|omega|(apply id;push_cast;try omega))
    exact .id (kV 1 (by decide) _)
   ·rw[if_neg (by exact h0)]
    push_cast(disch:=first|omega|(apply id;push_cast;try omega))[cR,h0,↓lI0]
    exact lB0 rfl 12 0 0 [] (l:=[x',y]) rfl (.ids (gB _ (by decide) _))
  by_cases h11:k=11
  ·subst h11
   obtain ⟨rfl,rfl,rfl,rfl⟩:=hbare (.inr (.inl rfl))
   obtain ⟨x,y,rfl⟩:∃ x y,l=[x,y]:=by
    match l,hL with
    | [x,y],_=>exact ⟨x,y,rfl⟩
   have hx:=ih x (by simp)
   have hy:=ih y (by simp)
   clear ih hs0 hr hbare hrs hsl
   refine cE G rQ1 (by kernel_rfl) (iV0 ..) fun hlo=>?_;rw[fE0]
   rw[qD,if_neg (by omega),if_pos rfl]
   generalize qD x=x' at hx ⊢
   generalize qD y=y' at hy ⊢
   by_cases h0:x'.k=0
   ·by_cases h0':y'.k=0
    ·rw[if_pos ⟨h0,h0'⟩]
     push_cast(disch:=first|omega|(apply id;push_cast;try omega))
     all_goals repeat' apply And.intro
     all_goals
      refine dK (hx) ?_
      push_cast(disch:=first|omega|(apply id;push_cast;try omega))
     all_goals repeat' apply And.intro
     all_goals
      refine dK (hy) ?_
      push_cast(disch:=first|omega|(apply id;push_cast;try omega))
     all_goals repeat' apply And.intro
     all_goals
      rw[kB0]
      push_cast(disch:=first|omega|(apply id;push_cast;try omega))[cR,h0,h0',↓lI0]
     all_goals repeat' apply And.intro
     all_goals exact nN1 prog _ _
    ·rw[if_neg (fun h=>h0' h.2)]
     push_cast(disch:=first|omega|(apply id;push_cast;try omega))
     all_goals repeat' apply And.intro
     all_goals
      refine dK (hx) ?_
      push_cast(disch:=first|omega|(apply id;push_cast;try omega))
     all_goals repeat' apply And.intro
     all_goals
      refine dK (hy) ?_
      push_cast(disch:=first|omega|(apply id;push_cast;try omega))
     all_goals repeat' apply And.intro
     all_goals
      rw[kB0]
      push_cast(disch:=first|omega|(apply id;push_cast;try omega))[cR,h0,h0',↓lI0]
     all_goals repeat' apply And.intro
     all_goals exact lB0 rfl 11 0 0 [] (l:=[x',y']) rfl (.ids (gB _ (by decide) _))
   ·rw[if_neg (fun h=>h0 h.1)]
    push_cast(disch:=first|omega|(apply id;push_cast;try omega))
    all_goals repeat' apply And.intro
    all_goals
     refine dK (hx) ?_
     push_cast(disch:=first|omega|(apply id;push_cast;try omega))
    all_goals repeat' apply And.intro
    all_goals
     refine dK (hy) ?_
     push_cast(disch:=first|omega|(apply id;push_cast;try omega))
    all_goals repeat' apply And.intro
    all_goals
     rw[kB0]
     push_cast(disch:=first|omega|(apply id;push_cast;try omega))[cR,h0,↓lI0]
    all_goals repeat' apply And.intro
    all_goals exact lB0 rfl 11 0 0 [] (l:=[x',y']) rfl (.ids (gB _ (by decide) _))
  by_cases h7:k=7
  ·subst h7
   obtain ⟨rfl,rfl,rfl,rfl⟩:=hbare (.inr (.inr rfl))
   obtain ⟨x,rfl⟩:∃ x,l=[x]:=by
    match l,hL with
    | [x],_=>exact ⟨x,rfl⟩
   have hx:=ih x (by simp)
   clear ih hs0 hr hbare hrs hsl
   refine cE G rQ1 (by kernel_rfl) (iV0 ..) fun hlo=>?_;rw[fE0]
   rw[qD,if_pos rfl]
   generalize qD x=x' at hx ⊢
   push_cast(disch:=first|omega|(apply id;push_cast;try omega))
   refine dK (hx) ?_
   by_cases h0:x'.k=0
   ·rw[if_pos h0]
    push_cast(disch:=first|omega|(apply id;push_cast;try omega))[cR,h0]
    exact nN1 prog _ _
   ·rw[if_neg h0]
    push_cast(disch:=first|omega|(apply id;push_cast;try omega))[cR,h0,↓oG0]
    exact lB0 rfl 7 0 0 [] (l:=[x']) rfl (.ids (gB _ (by decide) _))
  have hn:qD (.mk k a b s e l)=.mk k a b s e l:=by
   unfold qD
   split
   ·rename_i e1;cases e1;rw[if_neg h12,if_neg h11]
   ·rename_i e1;cases e1;rw[if_neg h7]
   ·rename_i e1;cases e1;rfl
  rw[hn]
  refine cE G rQ1 (by kernel_rfl) (iV0 ..) fun hlo=>?_;rw[fE0]
  push_cast(disch:=first|omega|(apply id;push_cast;try omega))[h12,h11,h7]
  try (rw[sd_ir22_s1];push_cast(disch:=first|omega|(apply id;push_cast;try omega)))
  exact .id (kV 1 (by decide) (.mk k a b s e l))
 termination_by x=>SizeOf.sizeOf x
inductive I3 (t x:Tm) (p q:Nat):Nat→S→Prop
 | mk (i:Nat) (iv:Int) (h:jA) {x0 x1 x2 x3 x4 x5 x6 x7 x8 x9 xA xE xF xG xH xI xJ xK xL xM xN xO xP xQ xR xS xT xU xV xW xX xY xZ yA yB yC yD yE yF yG yH yI yJ yK yL yM yN yO yP yQ yR yS yT yU yV yW yX yY yZ zA zB zC zD zF zG zH zI zJ zK zL zM zN zO zP zQ zR zS zU zV zW zX zY zZ wA wB wC wD:Value} (hiv:iv=(i:Int)) (hi:i≤4) (ca:cells h p=some (tmC t,etm,false)) (cb:cells h q=some (tmC x,etm,false)) (hl1:h.lo=1) (hl2:1≤h.next) :
  I3 t x p q (4-i) ⟨(F90 x0 x1 x2 x3 x4 x5 x6 x7 x8 x9 xA (.pointer (some ⟨p,0,none⟩)) (.pointer (some ⟨q,0,none⟩)) (.int .i64 iv) xE xF xG xH xI xJ xK xL xM xN xO xP xQ xR xS xT xU xV xW xX xY xZ yA yB yC yD yE yF yG yH yI yJ yK yL yM yN yO yP yQ yR yS yT yU yV yW yX yY yZ zA zB zC zD zF zG zH zI zJ zK zL zM zN zO zP zQ zR zS zU zV zW zX zY zZ wA wB wC wD),[],h⟩
theorem all_law (r:Rb) (u w v at_:Int) (hr:smB r=true):jI (pp G) H0 3 [rbV r,.int .i64 u,.int .i64 w,.int .i64 v,.int .i64 at_] (.bool true):=by
 refine cE G fir3 (by kernel_rfl) (eW2 ..) fun hlo=>?_;rw[iV2]
 push_cast(disch:=first|omega|(apply id;push_cast;try omega))
 refine dK (dH1 G) ?_
 have hcl:∀ x:Rb,(rbV x).cells.toList=rbC x:=fun _=>rfl
 have hone:=oL0
 have hlen:=cV
 have htk:∀ r:Rb,(rbC r).take 5=rbC r:=fun r=>List.take_of_length_le (by rw[cV];exact Nat.le_refl _)
 push_cast(disch:=first|omega|(apply id;push_cast;try omega))[hcl,hone,hlen,htk,↓uW2]
 refine jB.data (oA2 G 0 0 [r] (by simp) (by simp[smBs,hr])) (nZ2 G _ (by decide) _ [r]) (by first|rfl|(simp(disch:=first|omega|(apply id;push_cast;try omega))only[push_cast])) (by first|rfl|(simp(disch:=first|omega|(apply id;push_cast;try omega))only[push_cast])) ?_
 cases hf:fewB [r] with
 | false=>push_cast(disch:=first | omega | (apply id;push_cast;try omega))[Bool.not_false];exact .id rfl
 | true=>
 push_cast(disch:=first|omega|(apply id;push_cast;try omega))[Bool.not_true]
 refine dL (cD2 G r u hr) ?_
 rintro _ ⟨t,rfl,ht⟩
 refine ⟨by push_cast(disch:=first|omega|(apply id;push_cast;try omega));first|done|rfl,?_⟩
 push_cast(disch:=first|omega|(apply id;push_cast;try omega))
 refine dL (sJ0 G w v t at_ ht.1 ht.2.2) ?_
 rintro _ ⟨x,rfl,hx⟩
 refine ⟨by push_cast(disch:=first|omega|(apply id;push_cast;try omega));first|done|rfl,?_⟩
 push_cast(disch:=first|omega|(apply id;push_cast;try omega))
 refine WD.loop4 (q:=qq) (qB G) (by kernel_rfl) (I3 t x 2 3) ?_ _ _ (I3.mk 0 0 _ rfl (Nat.zero_le _) ?_ ?_ ?_ ?_)
 ·have hp:=jF0 t
  have hwl:=uH2 ht
  intro m s1 hI
  cases hI with|mk i iv h hiv hi ca cb hl1 hl2=>
  subst hiv
  rw[bM1]
  by_cases hil:(i:Int)<4
  ·have hi0:(0:Int)≤i:=by omega
   push_cast(disch:=first|omega|(apply id;push_cast;try omega))[hil,ca,cb,hl1]
   refine dK (fH0 G i 2 5 x hx) ?_
   push_cast(disch:=first|omega|(apply id;push_cast;try omega))
   refine dK (oY1 G i 2 5 x hx) ?_
   rw[bZ1 i 2 5 hi0 x]
   push_cast(disch:=first|omega|(apply id;push_cast;try omega))[bne_self_eq_false,beq_self_eq_true,Bool.not_true,ca,cb,hl1]
   refine dK (fH0 G 3 i 5 t ht.1) ?_
   push_cast(disch:=first|omega|(apply id;push_cast;try omega))
   refine dK (oY1 G 3 i 5 t ht.1) ?_
   rw[bZ1 3 i 5 (by decide) t]
   push_cast(disch:=first|omega|(apply id;push_cast;try omega))[bne_self_eq_false,beq_self_eq_true,Bool.not_true,ca,cb,hl1]
   refine dK (fH0 G 3 2 i t ht.1) ?_
   push_cast(disch:=first|omega|(apply id;push_cast;try omega))
   refine dK (oY1 G 3 2 i t ht.1) ?_
   rw[bZ1 3 2 i (by decide) t]
   push_cast(disch:=first|omega|(apply id;push_cast;try omega))[bne_self_eq_false,beq_self_eq_true,Bool.not_true,ca,cb,hl1]
   exact ⟨_,by omega,I3.mk (i+1) _ _ (by first|rfl|omega) (by omega) ca cb hl1 hl2⟩
  ·push_cast(disch:=first|omega|(apply id;push_cast;try omega))[hil]
   rw[bL1]
   push_cast(disch:=first|omega|(apply id;push_cast;try omega))[ca,cb,hl1]
   refine dK (fH0 G 3 2 5 t ht.1) ?_
   rw[ht.2.1]
   push_cast(disch:=first|omega|(apply id;push_cast;try omega))[ca,cb,hl1]
   refine dK (uT2 G t ht.1) ?_
   push_cast(disch:=first|omega|(apply id;push_cast;try omega))
   refine dK (uU2 G t ht.1) ?_
   push_cast(disch:=first|omega|(apply id;push_cast;try omega))[decide_true,ca,cb,hl1]
   refine dK (bV1 G t x ht.1 hx) ?_
   push_cast(disch:=first|omega|(apply id;push_cast;try omega))
   refine dK (bW1 G t x ht.1 hx) ?_
   push_cast(disch:=first|omega|(apply id;push_cast;try omega))[beq_self_eq_true,ca,cb,hl1]
   have hns:=(fO0 t).s ht.1
   refine dK (wC2 G t ht.1) ?_
   push_cast(disch:=first|omega|(apply id;push_cast;try omega))[ca,cb,hl1]
   refine dK (cB1 G t false ht.1 ht.2.1) ?_
   push_cast(disch:=first|omega|(apply id;push_cast;try omega))[ca,cb,hl1]
   refine dK (bW1 G (qD t) (qD t) hns hns) ?_
   rw[dN0]
   push_cast(disch:=first|omega|(apply id;push_cast;try omega))[ca,cb,hl1]
   refine dK (wt_f G ht) ?_
   push_cast(disch:=first|omega|(apply id;push_cast;try omega))[ca,cb,hl1]
   refine dK (sN0 G t false ht.1 ht.2.1 ht.2.2) ?_
   push_cast(disch:=first|omega|(apply id;push_cast;try omega))[ca,cb,hl1]
   refine dK (mV2 G (gY t) (gY t) (by omega) (by omega)) ?_
   push_cast(disch:=first|omega|(apply id;push_cast;try omega))[decide_true]
   exact .id rfl
 iterate 2 exact tH
 ·rfl
 ·exact tH
end
end Go.Proofs.YtgeakofgklcipaaDoor
namespace Go.Proofs.YtgeakofgklcipaaDoor
open _root_.Go.Proofs.Tryd (prog)
open Go Go.RowKit Go.Ev Go.Dv
noncomputable section
attribute [local push_cast] eq_self iff_self
set_option maxRecDepth 100000
section
variable {w:World} {H:Type} {enc:TypeId×Value→H}
theorem gF1:prog.underlying eI=some (.int .i64):=by kernel_rfl
theorem fY2:prog.underlying 22=some (.slice era):=by kernel_rfl
theorem u_rbs:prog.underlying 23=some (.slice erb):=by kernel_rfl
theorem f_raw:fieldsB prog era [(eI,0),(eI,1),(22,2)]=true:=by kernel_rfl
theorem f_rb:fieldsB prog erb [(eI,0),(eI,1),(eI,2),(22,3),(23,4)]=true:=by kernel_rfl
theorem lT0:∀ l:List Ra,l.flatMap raC=raCs l
 | []=>rfl
 | x :: l=>by rw[List.flatMap_cons,lT0 l,raCs]
theorem lR0:∀ l:List Rb,l.flatMap rbC=rbCs l
 | []=>rfl
 | x :: l=>by rw[List.flatMap_cons,lR0 l,rbCs]
theorem gX1:∀ {l:List Ra},(∀ x∈l,smR x=true)→smRs l=true
 | [],_=>rfl
 | x :: l,h=>by rw[smRs,h x (by simp),gX1 fun y hy=>h y (by simp[hy])];rfl
theorem bE1:∀ {l:List Rb},(∀ x∈l,smB x=true)→smBs l=true
 | [],_=>rfl
 | x :: l,h=>by rw[smBs,h x (by simp),bE1 fun y hy=>h y (by simp[hy])];rfl
theorem pK1:∀ (fuel:Nat) {cs:List Value} {x:DataW H×List MemPlace},DataW.trod enc prog w 0 (fun _=>true) true fuel 22 cs=some x→(x.1.weights prog 22).all (·≤reachBytes)=true→
  ∃ l:List Ra,Go.Dv.Op prog 1 LL w [rasV l] cs∧smRs l=true∧l.length<1000000000000000:=by
 intro fuel
 induction fuel using Nat.strongRecOn with
 | ind fuel ih=>
 intro cs x h hw
 obtain ⟨l,h1,h2,h3⟩:=open_slice (n:=1) (L:=LL) fY2 (size:=3) (by kernel_rfl) (by kernel_rfl) (by omega) (of_decide_eq_true (by kernel_rfl)) raC (fun r=>smR r=true) h hw fun k c y hk hy hwy=>by
  obtain ⟨k',hk',hl,hfs⟩:=gZ0 f_raw hy hwy
  rw[show prog.cellsOf era=3 by kernel_rfl] at hl
  match c,hl with
  | [a,b,d],_=>
   obtain ⟨y0,t0,_⟩:=hfs 0 _ _ rfl
   obtain ⟨y1,t1,_⟩:=hfs 1 _ _ rfl
   obtain ⟨y2,t2,w2⟩:=hfs 2 _ _ rfl
   rw[show prog.cellsOf eI=1 by kernel_rfl] at t0 t1
   rw[show prog.cellsOf 22=1 by kernel_rfl] at t2
   obtain ⟨m0,e0,o0,_⟩:=zF0 (n:=1) (L:=LL) gF1 t0
   obtain ⟨m1,e1,o1,_⟩:=zF0 (n:=1) (L:=LL) gF1 t1
   obtain ⟨l2,o2,s2,n2⟩:=ih k' (by omega) t2 w2
   refine ⟨.mk m0 m1 l2,?_,?_⟩
   ·exact (o0.append o1).append o2
   ·simp only[smR,s2,Bool.and_true,decide_eq_true_eq];exact n2
 rw[lT0] at h1
 exact ⟨l,h1,gX1 h2,h3⟩
theorem dU0 (fuel:Nat) (ih:∀ k,k<fuel→∀ {cs:List Value} {x:DataW H×List MemPlace},DataW.trod enc prog w 0 (fun _=>true) true k 23 cs=some x→(x.1.weights prog 23).all (·≤reachBytes)=true→
   ∃ l:List Rb,Go.Dv.Op prog 1 LL w [rbsV l] cs∧smBs l=true∧l.length<1000000000000000)
  {c:List Value} {y:DataW H×List MemPlace} (hy:DataW.trod enc prog w 0 (fun _=>true) true fuel erb c=some y) (hwy:(y.1.weights prog erb).all (·≤reachBytes)=true) :
  ∃ r:Rb,Go.Dv.Op prog 1 LL w (rbC r) c∧smB r=true:=by
 obtain ⟨k',hk',hl,hfs⟩:=gZ0 f_rb hy hwy
 rw[show prog.cellsOf erb=5 by kernel_rfl] at hl
 match c,hl with
 | [a,b,d,e,f],_=>
  obtain ⟨y0,t0,_⟩:=hfs 0 _ _ rfl
  obtain ⟨y1,t1,_⟩:=hfs 1 _ _ rfl
  obtain ⟨y2,t2,_⟩:=hfs 2 _ _ rfl
  obtain ⟨y3,t3,w3⟩:=hfs 3 _ _ rfl
  obtain ⟨y4,t4,w4⟩:=hfs 4 _ _ rfl
  rw[show prog.cellsOf eI=1 by kernel_rfl] at t0 t1 t2
  rw[show prog.cellsOf 22=1 by kernel_rfl] at t3
  rw[show prog.cellsOf 23=1 by kernel_rfl] at t4
  obtain ⟨m0,e0,o0,_⟩:=zF0 (n:=1) (L:=LL) gF1 t0
  obtain ⟨m1,e1,o1,_⟩:=zF0 (n:=1) (L:=LL) gF1 t1
  obtain ⟨m2,e2,o2,_⟩:=zF0 (n:=1) (L:=LL) gF1 t2
  obtain ⟨l3,o3,s3,n3⟩:=pK1 k' t3 w3
  obtain ⟨l4,o4,s4,n4⟩:=ih k' (by omega) t4 w4
  refine ⟨.mk m0 m1 m2 l3 l4,?_,?_⟩
  ·exact (((o0.append o1).append o2).append o3).append o4
  ·simp only[smB,s3,s4,Bool.and_true,Bool.and_eq_true,decide_eq_true_eq];exact ⟨n4,n3⟩
theorem pJ1:∀ (fuel:Nat) {cs:List Value} {x:DataW H×List MemPlace},DataW.trod enc prog w 0 (fun _=>true) true fuel 23 cs=some x→(x.1.weights prog 23).all (·≤reachBytes)=true→
  ∃ l:List Rb,Go.Dv.Op prog 1 LL w [rbsV l] cs∧smBs l=true∧l.length<1000000000000000:=by
 intro fuel
 induction fuel using Nat.strongRecOn with
 | ind fuel ih=>
 intro cs x h hw
 obtain ⟨l,h1,h2,h3⟩:=open_slice (n:=1) (L:=LL) u_rbs (size:=5) (by kernel_rfl) (by kernel_rfl) (by omega) (of_decide_eq_true (by kernel_rfl)) rbC (fun r=>smB r=true) h hw fun k c y hk hy hwy=>
  dU0 k (fun k' hk'=>ih k' (by omega)) hy hwy
 rw[lR0] at h1
 exact ⟨l,h1,bE1 h2,h3⟩
theorem open_rb (fuel:Nat) {c:List Value} {y:DataW H×List MemPlace} (hy:DataW.trod enc prog w 0 (fun _=>true) true fuel erb c=some y) (hwy:(y.1.weights prog erb).all (·≤reachBytes)=true) :
  ∃ r:Rb,Go.Dv.Op prog 1 LL w (rbC r) c∧smB r=true:=dU0 fuel (fun k _=>pJ1 k) hy hwy
end
end
end Go.Proofs.YtgeakofgklcipaaDoor
namespace Go.Proofs.YtgeakofgklcipaaDoor
open _root_.Go.Proofs.Tryd (prog)
open Go Go.RowKit Go.Ev Go.Dv
noncomputable section
attribute [local push_cast] eq_self iff_self
@[reducible] def witB:Value:=.agg ⟨[.int .i64 0,.int .i64 0,.int .i64 0,.slice none 0 0,.slice none 0 0]⟩
end
end Go.Proofs.YtgeakofgklcipaaDoor
