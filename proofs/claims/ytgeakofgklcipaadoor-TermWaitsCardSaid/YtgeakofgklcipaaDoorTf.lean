/-
  A part of the proof: what the program's functions hand back,as theorems. No condition but those that each theorem names.
-/
import Derived.Test.YtgeakofgklcipaaDoorTd
import Derived.Test.YtgeakofgklcipaaDoorTe
import Derived.Test.YtgeakofgklcipaaDoorEvd
import Derived.Test.YtgeakofgklcipaaDoorTb
set_option linter.unusedSimpArgs false
set_option linter.unusedVariables false
namespace Go.Proofs.YtgeakofgklcipaaDoor
open _root_.Go.Proofs.Tryd (prog)
open Go Go.RowKit Go.Ev Go.Dv
noncomputable section
set_option maxRecDepth 100000
mutual
def gP (V Sk D:List (List UInt8)):Pr→Bool
 | .mk k n t e l=>decide (0≤k∧k<14∧(l.length:Int)=shL k)&&(decide (k=1→n≠[]∧nameF n=true∧(t=[]∨t∈V))&&(decide (k=2→t∈V)&&(decide (k=3∨k=4∨k=5∨k=6→n∈Sk)&&(decide (k=6→t∈Sk)&&(decide (k=13→n∈D)&&(decide (k=2∨k=9→qT V.length (lowE V e)=true)&&gPs V Sk D l))))))
def gPs (V Sk D:List (List UInt8)):List Pr→Bool
 | []=>true
 | x :: l=>gP V Sk D x&&gPs V Sk D l
end
theorem findF_in {l:List (List UInt8)} {s:List UInt8} (h:s∈l):0≤kZ l s∧kZ l s<l.length:=by
 have h1:=findF_mem h
 have h2:=findF_le l s
 omega
theorem right_given {v:Int}:∀ {e:Ex},qT v e=true→bC e=true
 | .mk k n s l,h=>by
  have:k≠0:=by
   rintro rfl
   simp[qT] at h
  simp[bC,Ex.k,this]
theorem zE_given:bC (.mk 0 0 [] [])=false:=rfl
theorem W_id {a:Int} (h:-9223372036854775808≤a∧a≤9223372036854775807):W a=a:=by
 unfold W;simp only[IntKind.wrap_i64];omega
mutual
theorem sizeT_pos:∀ x:Tm,1≤kA x
 | .mk _ _ _ _ _ l=>by rw[kA];have:=sizeTs_pos l;omega
theorem sizeTs_pos:∀ l:List Tm,0≤qC l
 | []=>by simp[qC]
 | x :: l=>by rw[qC];have:=sizeT_pos x;have:=sizeTs_pos l;omega
end
mutual
theorem wt_right (V Sk D:List (List UInt8)) (w:Int):∀ (x:Pr) (push:Bool) (n:Int),gP V Sk D x=true→0≤n→n+kA (bI V Sk D x)<4611686018427387904→
  kQ V.length Sk.length D.length push (wtF w push (bI V Sk D x) n).1=true∧n≤(wtF w push (bI V Sk D x) n).2∧(wtF w push (bI V Sk D x) n).2≤n+kA (bI V Sk D x)∧kA (wtF w push (bI V Sk D x) n).1≤kA (bI V Sk D x)
 | .mk k m t e l,push,n,hg,hn,hs=>by
  simp only[gP,Bool.and_eq_true,decide_eq_true_eq] at hg
  obtain ⟨⟨hk0,hk1,hll⟩,h1,h2,h3,h4,h5,h6,hgl⟩:=hg
  rw[bI] at hs ⊢
  rw[kA] at hs
  have hpos:=sizeTs_pos (kO V Sk D l)
  have ih:=fun q=>wt_rights V Sk D w l q n hgl hn (by omega)
  by_cases hk:k=1
  ·subst hk
   obtain rfl:l=[]:=by
    cases l with
    | nil=>rfl
    | cons x l=>simp[shL] at hll;omega
   obtain ⟨hm,hnm,ht⟩:=h1 rfl
   have hW:W (n+1)=n+1:=W_id (by omega)
   have hA:lowA V Sk D 1 m t = -1∨0≤lowA V Sk D 1 m t∧lowA V Sk D 1 m t<V.length:=by
    unfold lowA
    rw[if_pos rfl]
    split
    ·exact .inl rfl
    ·rename_i h
     exact .inr (findF_in (ht.resolve_left h))
   have hB:lowB Sk 1 t=0:=by simp[lowB]
   have hN:lowN 1 m=m:=by simp[lowN]
   have hX:lowX V 1 e=.mk 0 0 [] []:=by simp[lowX]
   rw[hB,hN,hX,kO,wtF,if_pos rfl]
   by_cases hc:(!push&&wtB w n)=true
   ·rw[if_pos hc]
    have hp:push=false:=by cases push<;>simp_all
    subst hp
    refine ⟨?_,by show n≤W (n+1);omega,by show W (n+1)≤_;rw[kA,qC];omega,by simp[kA,qC]⟩
    simp[kQ,qS,fitsF,shA,shB,shN,shE,shL,zE_given,hm,hnm,hn]
    omega
   ·rw[if_neg hc]
    refine ⟨?_,by show n≤W (n+1);omega,by show W (n+1)≤_;rw[kA,qC];omega,by simp[wtL]⟩
    simp[wtL,kQ,qS,fitsF,shA,shB,shN,shE,shL,zE_given,hm,hnm]
    omega
  ·rw[wtF,if_neg hk]
   have ih':=ih (push || is3 k)
   have hwl:(wtL w (push || is3 k) (kO V Sk D l) n).1.length=l.length:=by rw[wtL_len,lowPs_map,List.length_map]
   refine ⟨?_,ih'.2.1,by rw[kA];have:=ih'.2.2.1;show (wtL w (push || is3 k) (kO V Sk D l) n).2≤_;omega,by rw[kA,kA];have:=ih'.2.2.2;omega⟩
   have ihr:=ih'.1
   generalize wtL w (push || is3 k) (kO V Sk D l) n=r at hwl ihr ⊢
   rw[kQ]
   have hz:(r.1.length:Int)=shL k:=by rw[hwl];exact hll
   have hN:lowN k m=[]:=by unfold lowN;rw[if_neg hk]
   rw[hN]
   have e14:¬ k=14:=by omega
   have e15:k<15:=by omega
   have i3:is3 k=decide (k=3):=rfl
   rw[i3] at ihr
   rw[ihr,hz]
   have fA:fitsF V.length Sk.length D.length (shA k) (lowA V Sk D k m t)=true:=by
    unfold fitsF shA lowA
    by_cases e2:k=2
    ·have:=findF_in (h2 e2)
     subst e2;simp;omega
    by_cases e3:k=3∨k=4∨k=5∨k=6
    ·have:=findF_in (h3 e3)
     rcases e3 with rfl|rfl|rfl|rfl<;>(simp;omega)
    by_cases e13:k=13
    ·have:=findF_in (h5 e13)
     subst e13;simp;omega
    ·simp only[not_or] at e3
     simp[hk,e2,e3,e13,e14]
   have fB:fitsF V.length Sk.length D.length (shB k) (lowB Sk k t)=true:=by
    unfold fitsF shB lowB
    by_cases e6:k=6
    ·have:=findF_in (h4 e6)
     subst e6;simp;omega
    ·simp[e6,e14]
   have fE:(if bC (lowX V k e)=true then (1:Int) else 0)=shE k∧(!bC (lowX V k e) || qT V.length (lowX V k e))=true:=by
    unfold lowX shE
    by_cases e2:k=2∨k=9
    ·rw[if_pos e2,if_pos e2]
     have:=h6 e2
     have hgv:=right_given this
     rw[hgv,this];simp
    ·rw[if_neg e2,if_neg e2]
     simp[zE_given]
   rw[fA,fB,fE.2]
   have fN:(0:Int)=shN k:=by unfold shN;rw[if_neg (by omega)]
   simp[fE.1,← fN,hk0,e15,e14]
theorem wt_rights (V Sk D:List (List UInt8)) (w:Int):∀ (l:List Pr) (push:Bool) (n:Int),gPs V Sk D l=true→0≤n→n+qC (kO V Sk D l)<4611686018427387904→
  qS V.length Sk.length D.length push (wtL w push (kO V Sk D l) n).1=true∧n≤(wtL w push (kO V Sk D l) n).2∧(wtL w push (kO V Sk D l) n).2≤n+qC (kO V Sk D l)∧qC (wtL w push (kO V Sk D l) n).1≤qC (kO V Sk D l)
 | [],push,n,hg,hn,hs=>by simp[kO,wtL,qS,qC]
 | x :: l,push,n,hg,hn,hs=>by
  simp only[gPs,Bool.and_eq_true] at hg
  rw[kO,qC] at hs
  have p1:=sizeT_pos (bI V Sk D x)
  have p2:=sizeTs_pos (kO V Sk D l)
  have i1:=wt_right V Sk D w x push n hg.1 hn (by omega)
  have i2:=wt_rights V Sk D w l push (wtF w push (bI V Sk D x) n).2 hg.2 (by omega) (by omega)
  rw[kO,wtL]
  refine ⟨?_,by show n≤(wtL w push (kO V Sk D l) (wtF w push (bI V Sk D x) n).2).2;omega,by rw[qC];show (wtL w push (kO V Sk D l) (wtF w push (bI V Sk D x) n).2).2≤_;omega,by rw[qC,qC];omega⟩
  rw[qS,i1.1,i2.1];rfl
end
theorem low_mk (V:List (List UInt8)) (k n:Int) (s:List UInt8) (l:List Ex) (h:k≠2):lowE V (.mk k n s l)=.mk k n [] (lowEs V l):=by rw[lowE,if_neg h]
theorem rightF_num {v n:Int} (hn:0≤n):qT v (.mk 1 n [] [])=true:=by simp[qT,kI,hn]
theorem part_right (n:Int) (l:List Ex) (i:Nat) (h:∀ x∈l,qT 3 (lowE jS x)=true):qT 3 (lowE jS (partF n l i))=true:=by
 unfold partF
 rw[List.getD_eq_getElem?_getD]
 cases hx:l[i]? with
 | none=>
  show qT 3 (lowE jS (.mk 1 _ [] []))=true
  rw[low_mk _ _ _ _ _ (by decide)]
  exact rightF_num (qH (by omega)).1
 | some x=>exact h x (List.mem_of_getElem? hx)
mutual
theorem mkF_right:∀ x:Ra,qT 3 (lowE jS (mkF jS x))=true
 | .mk k n l=>by
  have ih:=mkL_right l
  have hw:=qH (a:=k) (n:=24) (by omega)
  have hp:=part_right n (mkL jS l) 0 ih
  have hq:=part_right n (mkL jS l) 1 ih
  rw[mkF]
  by_cases h1:jP k 24<4
  ·rw[if_pos h1,low_mk _ _ _ _ _ (by decide)]
   refine rightF_num ?_
   have hn:=qH (a:=n) (n:=8) (by omega)
   obtain ⟨j,hj⟩:∃ j:Nat,jP n 8=j:=⟨(jP n 8).toNat,by omega⟩
   rw[hj,Int.toNat_natCast]
   have hj8:j<8:=by omega
   have:∀ j:Nat,j<8→0≤numsF.getD j 0:=by decide
   exact this j hj8
  rw[if_neg h1]
  by_cases h2:jP k 24<9
  ·rw[if_pos ⟨h2,by decide⟩,lowE,if_pos rfl]
   have hn:=qH (a:=n) (n:=3) (by omega)
   have hm:jS.getD (jP n jS.length).toNat []∈jS:=getD_mem (by show _<3;show (jP n 3).toNat<3;omega)
   have hf:=findF_in hm
   have h3:(jS.length:Int)=3:=rfl
   rw[h3] at hf
   simp only[lowEs]
   rw[h3]
   generalize kZ jS (jS.getD (jP n 3).toNat [])=f at hf ⊢
   simp[qT,kI,hf]
  rw[if_neg (fun h=>h2 h.1),if_neg h2]
  by_cases h3:jP k 24=9
  ·rw[if_pos h3,low_mk _ _ _ _ _ (by decide),lowEs,lowEs]
   simp[qT,kI,hp]
  rw[if_neg h3]
  by_cases h4:jP k 24=10
  ·rw[if_pos h4,low_mk _ _ _ _ _ (by decide),lowEs,lowEs]
   simp[qT,kI,hp]
  rw[if_neg h4,low_mk _ _ _ _ _ (by omega),lowEs,lowEs,lowEs]
  have a1:¬ (5+jP k 24-11=1):=by omega
  have a2:¬ (5+jP k 24-11=2):=by omega
  have a3:¬ (5+jP k 24-11=3):=by omega
  have a4:¬ (5+jP k 24-11=4):=by omega
  have a5:5≤5+jP k 24-11:=by omega
  have a6:5+jP k 24-11≤17:=by omega
  simp[qT,kI,hp,hq,a1,a2,a3,a4,a5,a6]
theorem mkL_right:∀ (l:List Ra),∀ x∈mkL jS l,qT 3 (lowE jS x)=true
 | [],x,hx=>by simp[mkL] at hx
 | y :: l,x,hx=>by
  rw[mkL] at hx
  rcases List.mem_cons.1 hx with rfl|hx
  ·exact mkF_right y
  ·exact mkL_right l x hx
end
theorem first_right (l:List Ra):qT 3 (lowE jS (firstF jS l))=true:=by
 cases l with
 | nil=>decide
 | cons x l=>exact mkF_right x
theorem p_ite {α:Type} (P:α→Prop) {c:Prop} [Decidable c] {a b:α} (h1:P a) (h2:P b):P (if c then a else b):=by
 by_cases h:c
 ·rw[if_pos h];exact h1
 ·rw[if_neg h];exact h2
theorem gP_of {k:Int} {n t:List UInt8} {e:Ex} {l:List Pr} (h0:0≤k∧k<14∧(l.length:Int)=shL k) (h1:k=1→n≠[]∧nameF n=true∧(t=[]∨t∈jS)) (h2:k=2→t∈jS) (h3:k=3∨k=4∨k=5∨k=6→n∈jM) (h4:k=6→t∈jM) (h5:k=13→n∈qG) (h6:k=2∨k=9→qT 3 (lowE jS e)=true) (h7:∀ x∈l,gP jS jM qG x=true) :
  gP jS jM qG (.mk k n t e l)=true:=by
 have h8:gPs jS jM qG l=true:=by
  clear h0
  induction l with
  | nil=>rfl
  | cons x l ih=>simp only[gPs,Bool.and_eq_true];exact ⟨h7 x (by simp),ih fun y hy=>h7 y (by simp[hy])⟩
 simp only[gP,Bool.and_eq_true,decide_eq_true_eq,h8,and_true]
 exact ⟨h0,h1,h2,h3,h4,h5,h6⟩
theorem skip_good:gP jS jM qG qA=true:=by decide
theorem acts_name:∀ s∈actsF,s≠[]∧nameF s=true:=by
 intro s hs
 simp only[actsF,List.mem_cons,List.not_mem_nil,or_false] at hs
 rcases hs with rfl|rfl|rfl<;>exact ⟨by decide,by decide⟩
mutual
theorem mkP_good:∀ (x:Rb) (d:Nat),gP jS jM qG (mkP x d)=true
 | .mk k a b e l,d=>by
  have ih:=mkPs_good l (d+1)
  have hpart:∀ i,gP jS jM qG (if d<6 then (bB l (d+1)).getD i qA else qA)=true:=fun i=>by
   split
   ·rw[List.getD_eq_getElem?_getD]
    cases hx:(bB l (d+1))[i]? with
    | none=>exact skip_good
    | some x=>exact ih x (List.mem_of_getElem? hx)
   ·exact skip_good
  have hv:jS.getD (jP a 3).toNat []∈jS:=getD_mem (by have:=qH (a:=a) (n:=3) (by omega);show _<3;omega)
  have hs:jM.getD (jP a 2).toNat []∈jM:=getD_mem (by have:=qH (a:=a) (n:=2) (by omega);show _<2;omega)
  have hs2:jM.getD (jP b 2).toNat []∈jM:=getD_mem (by have:=qH (a:=b) (n:=2) (by omega);show _<2;omega)
  have hd:qG.getD (jP a 5).toNat []∈qG:=getD_mem (by have:=qH (a:=a) (n:=5) (by omega);show _<5;omega)
  have ha:=acts_name (actsF.getD (jP b 3).toNat []) (getD_mem (by have:=qH (a:=b) (n:=3) (by omega);show _<3;omega))
  have he:=first_right e
  have h1:∀ x∈[if d<6 then (bB l (d+1)).getD 0 qA else qA],gP jS jM qG x=true:=fun x hx=>by simp only[List.mem_singleton] at hx;subst hx;exact hpart 0
  have h2:∀ x∈[if d<6 then (bB l (d+1)).getD 0 qA else qA,if d<6 then (bB l (d+1)).getD 1 qA else qA],gP jS jM qG x=true:=fun x hx=>by
   simp only[List.mem_cons,List.not_mem_nil,or_false] at hx
   rcases hx with rfl|rfl
   ·exact hpart 0
   ·exact hpart 1
  rw[mkP]
  generalize (if d<6 then (bB l (d+1)).getD 0 qA else qA)=pa at *
  generalize (if d<6 then (bB l (d+1)).getD 1 qA else qA)=pb at *
  generalize jS.getD (jP a 3).toNat []=v at *
  generalize jM.getD (jP a 2).toNat []=s at *
  generalize jM.getD (jP b 2).toNat []=s2 at *
  generalize qG.getD (jP a 5).toNat []=df at *
  generalize actsF.getD (jP b 3).toNat []=ac at *
  generalize firstF jS e=ee at *
  repeat' refine p_ite (fun y=>gP jS jM qG y=true) ?_ ?_
  all_goals first
   | exact skip_good
   | exact gP_of (by simp[shL]) (by first | (intro h;exact ⟨ha.1,ha.2,.inl rfl⟩) | (intro h;exact ⟨ha.1,ha.2,.inr hv⟩) | (intro h;omega)) (by first | exact fun _=>hv | (intro h;omega)) (by first | exact fun _=>hs | (intro h;omega)) (by first | exact fun _=>hs2 | (intro h;omega)) (by first | exact fun _=>hd | (intro h;omega)) (by first | exact fun _=>he | (intro h;omega)) (by first | exact h1 | exact h2 | simp)
theorem mkPs_good:∀ (l:List Rb) (d:Nat),∀ x∈bB l d,gP jS jM qG x=true
 | [],d,x,hx=>by simp[bB] at hx
 | y :: l,d,x,hx=>by
  rw[bB] at hx
  rcases List.mem_cons.1 hx with rfl|hx
  ·exact mkP_good y d
  ·exact mkPs_good l d x hx
end
abbrev szP (x:Pr):Int:=kA (bI jS jM qG x)
theorem szP_0 (k:Int) (n t:List UInt8) (e:Ex):szP (.mk k n t e [])=1:=by simp[szP,bI,kO,kA,qC]
theorem szP_1 (k:Int) (n t:List UInt8) (e:Ex) (x:Pr):szP (.mk k n t e [x])=1+szP x:=by simp[szP,bI,kO,kA,qC]
theorem szP_2 (k:Int) (n t:List UInt8) (e:Ex) (x y:Pr):szP (.mk k n t e [x,y])=1+(szP x+szP y):=by simp[szP,bI,kO,kA,qC]
theorem szP_s:szP qA=1:=szP_0 ..
def p2:Nat→Int
 | 0=>256
 | 1=>128
 | 2=>64
 | 3=>32
 | 4=>16
 | 5=>8
 | 6=>4
 | _=>2
theorem p2_s {d:Nat} (h:d≤6):p2 d=2*p2 (d+1)∧2≤p2 (d+1):=by
 obtain rfl|rfl|rfl|rfl|rfl|rfl|rfl:d=0∨d=1∨d=2∨d=3∨d=4∨d=5∨d=6:=by omega
 all_goals decide
mutual
theorem mkP_size:∀ (x:Rb) (d:Nat),d≤6→szP (mkP x d)+1≤p2 d
 | .mk k a b e l,d,hd=>by
  obtain ⟨q1,q2⟩:=p2_s hd
  have hpart:∀ i,szP (if d<6 then (bB l (d+1)).getD i qA else qA)+1≤p2 (d+1):=fun i=>by
   by_cases h6:d<6
   ·rw[if_pos h6,List.getD_eq_getElem?_getD]
    cases hx:(bB l (d+1))[i]? with
    | none=>show szP qA+1≤_;rw[szP_s];omega
    | some x=>exact mkPs_size l (d+1) (by omega) x (List.mem_of_getElem? hx)
   ·rw[if_neg h6,szP_s];omega
  have ha:=hpart 0
  have hb:=hpart 1
  rw[mkP]
  generalize (if d<6 then (bB l (d+1)).getD 0 qA else qA)=pa at *
  generalize (if d<6 then (bB l (d+1)).getD 1 qA else qA)=pb at *
  have:=sizeT_pos (bI jS jM qG pa)
  have:=sizeT_pos (bI jS jM qG pb)
  repeat' refine p_ite (fun y=>szP y+1≤p2 d) ?_ ?_
  all_goals first
   | (rw[szP_s];omega)
   | (rw[szP_0];omega)
   | (rw[szP_1];omega)
   | (rw[szP_2];omega)
theorem mkPs_size:∀ (l:List Rb) (d:Nat),d≤6→∀ x∈bB l d,szP x+1≤p2 d
 | [],d,hd,x,hx=>by simp[bB] at hx
 | y :: l,d,hd,x,hx=>by
  rw[bB] at hx
  rcases List.mem_cons.1 hx with rfl|hx
  ·exact mkP_size y d hd
  ·exact mkPs_size l d hd x hx
end
def goodT (y:Tm):Prop:=smT y=true∧kQ 3 2 5 false y=true∧kA y≤255
theorem made_good {y:Tm} {w:Int} {r:Rb} (hs:smT y=true) (h:y=askT∨y=madeT w r):goodT y:=by
 rcases h with rfl|rfl
 ·exact ⟨rfl,by decide,by decide⟩
 ·have h1:=mkP_size r 0 (by omega)
  have h2:kA (bI jS jM qG (mkP r 0))+1≤256:=h1
  have h3:=wt_right jS jM qG w (mkP r 0) false 0 (mkP_good r 0) (by omega) (by omega)
  exact ⟨hs,h3.1,by unfold madeT;omega⟩
end
end Go.Proofs.YtgeakofgklcipaaDoor
namespace Go.Proofs.YtgeakofgklcipaaDoor
open _root_.Go.Proofs.Tryd (prog)
open Go Go.RowKit Go.Ev Go.Dv
noncomputable section
set_option maxRecDepth 100000
variable (G:Nat×Nat)
theorem rowRb2 (x y:Rb) (σ:jB):bsD (qq.m 23) (slT prog 23) 2 [(0,rbV x),(1,rbV y)] σ=some (Rw true erb 2 (rbCs [x,y]),σ):=by
 cases x;cases y;kernel_rfl
theorem few_fz (N:Nat) (hN:0<N) (σ:jB) (l:List Rb):FzL (pp G).P N σ [.agg ⟨[.int .i64 0,.int .i64 0,Rw true erb l.length (rbCs l)]⟩] [shV 0 0 l]:=
 .cons (.agg (.cons (.id rfl) (.cons (.id rfl) (.cons (.row (.ids (rbCs_sc _ hN _))) .nil)))) .nil
theorem made5_f (r:Rb) (w:Int) (hr:smB r=true):uX (pp G) H0 13 [rbV r,.int .i64 w] (fun d=>∃ y,d=tmV y∧goodT y):=
 fun g h vs hP hrr hv=>(make5_f G r w hr g h vs hP hrr hv).mono fun u h' ⟨d,g',⟨y,e,hs,hy⟩,x⟩=>⟨d,g',⟨y,e,made_good hs hy⟩,x⟩
inductive I23 (a b:List Int):Nat→S→Prop
 | mk (i:Nat) (iv:Int) (h:jB) {x2 x3 x4 x6 x7 x8 x9 xA xB xC xD xE xF xG xH xI xJ xK xL xM xN xO xP:Value} (hiv:iv=(i:Int)) (hi:i≤a.length) (he:∀ j,j<i→a.getD j 0=b.getD j 0) (hl1:h.lo=1) (hl2:1≤h.next) :
  I23 a b (a.length-i) ⟨(F26 (ivV a) (ivV b) x2 x3 x4 (.int .i64 iv) x6 x7 x8 x9 xA xB xC xD xE xF xG xH xI xJ xK xL xM xN xO xP),[],h⟩
theorem ints_f (a b:List Int) (ha:a.length<1000000000000) (hb:b.length<1000000000000):jH (pp G) H0 23 [ivV a,ivV b] (.bool (decide (a=b))):=by
 have hlo:H0.lo≤H0.next:=Nat.le_refl _;refine jH.cut (jI.fir4 (q:=qq) (jO G) fir23 (by kernel_rfl) rfl rfl (F26_arr ..) (show NGG≤H0.lo by rw[jY];decide) ?_);rw[sd_ir23]
 have hA:ivV a=Rw false eI a.length (ivs a):=rfl
 have hB:ivV b=Rw false eI b.length (ivs b):=rfl
 by_cases hl:a.length=b.length
 rotate_left
 ·rw[decide_eq_false (fun e=>hl (by rw[e]))]
  have hl':¬ (a.length:Int)=b.length:=by omega
  simp (disch:=first|omega|(refine id ?_;simp only[push_cast];try omega)) only [push_cast,simprocAttr,hA,hB,hl']
  exact .id rfl
 have hl':(a.length:Int)=b.length:=by omega
 simp (disch:=first|omega|(refine id ?_;simp only[push_cast];try omega)) only [push_cast,simprocAttr,hA,hB,hl']
 rw[← hA,← hB]
 refine WD.loop4 (q:=qq) (jO G) (by kernel_rfl) (I23 a b) ?_ _ _ (I23.mk 0 0 _ rfl (Nat.zero_le _) (fun j hj=>by omega) rfl (by first|assumption|(simp (disch:=first|omega|(refine id ?_;simp only[push_cast];try omega)) only [push_cast,simprocAttr];try omega)))
 intro m s1 hI
 cases hI with|mk i iv h hiv hi he hl1 hl2=>
 subst hiv
 rw[sd_ir23_s0]
 by_cases hil:(i:Int)<a.length
 ·have hilb:(i:Int)<b.length:=by omega
  have g1:=ivs_get' (l:=a) (i:=i) (by omega)
  have g2:=ivs_get' (l:=b) (i:=i) (by omega)
  by_cases hx:a.getD i 0=b.getD i 0
  ·simp (disch:=first|omega|(refine id ?_;simp only[push_cast];try omega)) only [push_cast,simprocAttr,hA,hB,hil,hilb,g1,g2,hx,Int.toNat_natCast]
   rw[← hA,← hB]
   exact ⟨_,by omega,I23.mk (i+1) _ _ (by first|rfl|omega) (by omega) (fun j hj=>by
    by_cases e:j=i
    ·subst e;exact hx
    ·exact he j (by omega)) (by first|assumption|(simp (disch:=first|omega|(refine id ?_;simp only[push_cast];try omega)) only [push_cast,simprocAttr,hl1];try omega)) (by first|assumption|(simp (disch:=first|omega|(refine id ?_;simp only[push_cast];try omega)) only [push_cast,simprocAttr];try omega))⟩
  ·rw[decide_eq_false (fun e=>hx (by rw[e]))]
   simp (disch:=first|omega|(refine id ?_;simp only[push_cast];try omega)) only [push_cast,simprocAttr,hA,hB,hil,hilb,g1,g2,hx,Int.toNat_natCast]
   exact .id rfl
 ·simp (disch:=first|omega|(refine id ?_;simp only[push_cast];try omega)) only [push_cast,simprocAttr,hA,hB,hil]
  rw[sd_ir23_s1]
  rw[decide_eq_true (List.ext_getElem hl fun j h1 h2=>by
   have:=he j (by omega)
   rw[List.getD_eq_getElem?_getD,List.getD_eq_getElem?_getD,List.getElem?_eq_getElem h1,List.getElem?_eq_getElem h2] at this
   exact this)]
  simp (disch:=first|omega|(refine id ?_;simp only[push_cast];try omega)) only [push_cast,simprocAttr]
  exact .id rfl
mutual
theorem act_len:∀ x:Tm,((kS x).length:Int)≤kA x
 | .mk k a b s e l=>by
  rw[kS,kA]
  have hL:=act_lens l
  have hH:=act_lenh l
  have hp:=sizeTs_pos l
  split
  ·rw[List.length_cons];omega
  ·split
   ·rw[List.length_cons];omega
   ·simp;omega
theorem act_lens:∀ l:List Tm,((bF l).length:Int)≤qC l
 | []=>by simp[bF,qC]
 | x :: l=>by rw[bF,qC,List.length_append];have:=act_len x;have:=act_lens l;omega
theorem act_lenh:∀ l:List Tm,((actH l).length:Int)≤qC l
 | []=>by simp[actH,qC]
 | x :: l=>by rw[actH,qC];have:=act_len x;have:=sizeTs_pos l;omega
end
theorem wS_app (a b:List Tm):wS (a++b)=wS a++wS b:=by unfold wS;rw[List.filter_append,List.map_append]
theorem wS_cons {k a b:Int} {s:List UInt8} {e:Ex} {l:List Tm} (h:k≠14) (m:List Tm):wS (.mk k a b s e l :: m)=wS m:=by
 unfold wS;simp[Tm.k,h]
theorem wt_par (x y:Tm):qD (.mk 11 0 0 [] zE [x,y])=qD x++qD y:=by
 have e:kS (.mk 11 0 0 [] zE [x,y])=.mk 11 0 0 [] zE [x,y] :: (kS x++kS y):=by simp[kS,bF]
 unfold qD;rw[e,wS_cons (by decide),wS_app]
theorem wt_seq (x y:Tm):qD (.mk 12 0 0 [] zE [x,y])=qD x:=by
 have e:kS (.mk 12 0 0 [] zE [x,y])=.mk 12 0 0 [] zE [x,y] :: kS x:=by simp[kS,actH]
 unfold qD;rw[e,wS_cons (by decide)]
theorem wt_block (x:Tm):qD (.mk 7 0 0 [] zE [x])=qD x:=by
 have e:kS (.mk 7 0 0 [] zE [x])=.mk 7 0 0 [] zE [x] :: kS x:=by simp[kS,bF]
 unfold qD;rw[e,wS_cons (by decide)]
theorem wt_choose (x y:Tm):qD (.mk 10 0 0 [] zE [x,y])=[]:=by
 have e:kS (.mk 10 0 0 [] zE [x,y])=[.mk 10 0 0 [] zE [x,y]]:=by simp[kS]
 unfold qD;rw[e,wS_cons (by decide)];rfl
theorem wt_len {x:Tm} (h:goodT x):(kS x).length≤255∧(qD x).length≤255:=by
 have h1:=act_len x
 have h2:=h.2.2
 have h3:=wS_len (kS x)
 have h4:(qD x).length=(wS (kS x)).length:=rfl
 omega
theorem wt_f {x:Tm} (h:goodT x):jH (pp G) H0 24 [tmV x] (ivV (qD x)):=waits_f G x h.1 (by have:=wt_len h;omega)
theorem wt2_f {x y:Tm} (k:Int) (hx:goodT x) (hy:goodT y):jH (pp G) H0 24 [tmV (.mk k 0 0 [] zE [x,y])] (ivV (qD (.mk k 0 0 [] zE [x,y]))):=by
 refine waits_f G _ (by simp[smT,smTs,hx.1,hy.1,zE,smE,smEs]) ?_
 have h1:=act_len (.mk k 0 0 [] zE [x,y])
 have h2:=hx.2.2
 have h3:=hy.2.2
 have e:kA (.mk k 0 0 [] zE [x,y])=1+(kA x+kA y):=by simp[kA,qC]
 omega
theorem wt1_f {x:Tm} (k:Int) (hx:goodT x):jH (pp G) H0 24 [tmV (.mk k 0 0 [] zE [x])] (ivV (qD (.mk k 0 0 [] zE [x]))):=by
 refine waits_f G _ (by simp[smT,smTs,hx.1,zE,smE,smEs]) ?_
 have h1:=act_len (.mk k 0 0 [] zE [x])
 have h2:=hx.2.2
 have e:kA (.mk k 0 0 [] zE [x])=1+kA x:=by simp[kA,qC]
 omega
theorem row0I (σ:jB):bsD (qq.m 42) (slT prog 42) 0 [] σ=some (.slice (some ⟨σ.next,0,none⟩) 0 0,σ.add (O [] eI false)):=by kernel_rfl
theorem own_ints {σ:jB} (hlo:σ.lo≤σ.next) (l m:List Int) (hl:l.length<1000000) (hm:m.length<1000000) :
  ∃ a1 c1 σ1 a2 c2 σ2,apS eI 1 8 (.slice (some ⟨σ.next,0,none⟩) 0 0) (some (l.length,ivs l)) (σ.add (O [] eI false))=some (.slice a1 l.length c1,σ1)∧apS eI 1 8 (.slice a1 l.length c1) (some (m.length,ivs m)) σ1=some (.slice a2 (l.length+m.length) c2,σ2)∧
   qI σ2 eI 1 a2 (l.length+m.length) c2 (ivs (l++m))∧jF σ σ2 (fun _=>False)∧∀ b,blk a2 b→σ.next≤b:=by
 have o0:qI (σ.add (O [] eI false)) eI 1 (some ⟨σ.next,0,none⟩) 0 0 []:=⟨rfl,rfl,.inr ⟨σ.next,false,rfl,by rw[uU];exact hlo,by rw[jL];omega,cells_add_s _ _ _ _ rfl,.inr ⟨rfl,rfl⟩⟩⟩
 obtain ⟨a1,c1,σ1,e1,o1,g1,b1⟩:=gA (by_:=8) o0 (by omega) (by rw[uU,jL];omega) (m:=l.length) (xs:=ivs l) (by rw[ivs_len,Nat.mul_one]) (ivs_one l) (by omega)
 rw[Nat.zero_add,List.nil_append] at o1
 rw[Nat.zero_add] at e1
 have hb1:∀ b,blk a1 b→σ.next≤b:=fun b hb=>by
  rcases b1 b hb with ⟨o,s,e⟩|h
  ·cases e;omega
  ·rw[jL] at h;omega
 have hn:=g1.next
 rw[jL] at hn
 have hl1:=g1.lo
 rw[uU] at hl1
 obtain ⟨a2,c2,σ2,e2,o2,g2,b2⟩:=gA (by_:=8) o1 (by omega) (by omega) (m:=m.length) (xs:=ivs m) (by rw[ivs_len,Nat.mul_one]) (ivs_one m) (by omega)
 rw[← ivs_app] at o2
 refine ⟨a1,c1,σ1,a2,c2,σ2,e1,e2,o2,?_,fun b hb=>?_⟩
 ·refine ((jF.add σ _ (fun _=>False)).tr' g1 (fun k hk hb=>?_)).tr' g2 (fun k hk hb=>?_)
  ·obtain ⟨o,s,e⟩:=hb;cases e;omega
  ·have:=hb1 k hb;omega
 ·rcases b2 b hb with h|h
  ·exact hb1 b h
  ·omega
theorem waits_s0 {x y:Tm} (hx:goodT x) (hy:goodT y) (h:jB) (p q:Nat) (ca:cells h p=some (tmC x,etm,false)) (cb:cells h q=some (tmC y,etm,false)) (hl1:h.lo=1) (hl2:1≤h.next) (hp:p<h.next) (hq:q<h.next) (hp1:1≤p) (hq1:1≤q) {x0 x1 x2 x3 x4 x5 x6 x7 x8 xB xC xD xE xF xG xH xI xJ xK xL xM xN xO xP xQ xR xS xT xU xV xW xX xY xZ yA yB yC yD yE yF yG yH yI yJ yK yL yM yN yO yP yQ yR yS yT yU yV yW yX yY yZ zA zB zC zD zF zG:Value} :
  dc3 (pp G) qq none bJ ⟨(F68 x0 x1 x2 x3 x4 x5 x6 x7 x8 (.pointer (some ⟨p,0,none⟩)) (.pointer (some ⟨q,0,none⟩)) xB xC xD xE xF xG xH xI xJ xK xL xM xN xO xP xQ xR xS xT xU xV xW xX xY xZ yA yB yC yD yE yF yG yH yI yJ yK yL yM yN yO yP yQ yR yS yT yU yV yW yX yY yZ zA zB zC zD zF zG),[],h⟩ (@kR ⟨jG prog [.tmp 8] (fun v' σ'=>FzV prog 1 σ' v' (.bool true))⟩):=by
 have lx:=wt_len hx
 have ly:=wt_len hy
 have hsr:∀ (l:List Int) (h:jB),srcD 1 (ivV l) h=some (l.length,ivs l):=fun l h=>srcD_r _ (by rw[ivs_len,Nat.mul_one])
 obtain ⟨a1,c1,σ1,a2,c2,σ2,e1,e2,o2,gg,hb2⟩:=own_ints (σ:=h) (by omega) (qD x) (qD y) (by omega) (by omega)
 have ka:=gg.cellsE ca hp id
 have kb:=gg.cellsE cb hq id
 have kl:σ2.lo=1:=by rw[gg.lo,hl1]
 rw[sd_ir6_s0]
 simp (disch:=first|omega|(refine id ?_;simp only[push_cast];try omega)) only [push_cast,simprocAttr,ca,cb,hl1]
 refine jC.dataI (wt_f G hx) (by and_intros<;>first|rfl|(simp (disch:=first|omega|(refine id ?_;simp only[push_cast];try omega)) only [push_cast])) ?_
 simp (disch:=first|omega|(refine id ?_;simp only[push_cast];try omega)) only [push_cast,simprocAttr]
 refine jC.dataI (wt_f G hy) (by and_intros<;>first|rfl|(simp (disch:=first|omega|(refine id ?_;simp only[push_cast];try omega)) only [push_cast])) ?_
 simp (disch:=first|omega|(refine id ?_;simp only[push_cast];try omega)) only [push_cast,simprocAttr,↓row0I,hsr,e1,e2,ka,kb,kl,↓rowT2]
 refine jC.data (wt2_f G 11 hx hy) (.cons (tmz_fz rfl _ 0 0 [] (l:=[x,y]) rfl (.ids (gU _ (by decide) _))) .nil) (by first|rfl|(simp (disch:=first|omega|(refine id ?_;simp only[push_cast];try omega)) only [push_cast])) (by first|rfl|(simp (disch:=first|omega|(refine id ?_;simp only[push_cast];try omega)) only [push_cast])) ?_
 rw[wt_par]
 simp (disch:=first|omega|(refine id ?_;simp only[push_cast];try omega)) only [push_cast,simprocAttr]
 have hla:(qD x++qD y).length=(qD x).length+(qD y).length:=List.length_append
 have hfz:FzV (pp G).P σ2.lo σ2 (.slice a2 ((qD x).length+(qD y).length) c2) (ivV (qD x++qD y)):=by
  unfold ivV
  rw[hla]
  exact o2.fz rfl (by decide) (by omega) (.ids (ivs_sc _ _)) (fun b hb=>by have:=hb2 b hb;omega)
 refine jC.lend (cap:=[]) (args:=[_,_]) (ints_f G (qD x++qD y) (qD x++qD y) (by omega) (by omega)) (.cons (.id (ivV_sc _ (by omega) _)) (.cons hfz .nil)) rfl ?_
 simp (disch:=first|omega|(refine id ?_;simp only[push_cast];try omega)) only [push_cast,simprocAttr,decide_true]
 refine jC.data (wt2_f G 12 hx hy) (.cons (tmz_fz rfl _ 0 0 [] (l:=[x,y]) rfl (.ids (gU _ (by decide) _))) .nil) (by first|rfl|(simp (disch:=first|omega|(refine id ?_;simp only[push_cast];try omega)) only [push_cast])) (by first|rfl|(simp (disch:=first|omega|(refine id ?_;simp only[push_cast];try omega)) only [push_cast])) ?_
 rw[wt_seq]
 simp (disch:=first|omega|(refine id ?_;simp only[push_cast];try omega)) only [push_cast,simprocAttr]
 refine jC.dataI (ints_f G (qD x) (qD x) (by omega) (by omega)) (by and_intros<;>first|rfl|(simp (disch:=first|omega|(refine id ?_;simp only[push_cast];try omega)) only [push_cast])) ?_
 simp (disch:=first|omega|(refine id ?_;simp only[push_cast];try omega)) only [push_cast,simprocAttr,decide_true,ka,↓rowT1]
 refine jC.data (wt1_f G 7 hx) (.cons (tmz_fz rfl _ 0 0 [] (l:=[x]) rfl (.ids (gU _ (by decide) _))) .nil) (by first|rfl|(simp (disch:=first|omega|(refine id ?_;simp only[push_cast];try omega)) only [push_cast])) (by first|rfl|(simp (disch:=first|omega|(refine id ?_;simp only[push_cast];try omega)) only [push_cast])) ?_
 rw[wt_block]
 simp (disch:=first|omega|(refine id ?_;simp only[push_cast];try omega)) only [push_cast,simprocAttr]
 refine jC.dataI (ints_f G (qD x) (qD x) (by omega) (by omega)) (by and_intros<;>first|rfl|(simp (disch:=first|omega|(refine id ?_;simp only[push_cast];try omega)) only [push_cast])) ?_
 simp (disch:=first|omega|(refine id ?_;simp only[push_cast];try omega)) only [push_cast,simprocAttr,decide_true]
 refine jC.data (wt2_f G 10 hx hy) (.cons (tmz_fz rfl _ 0 0 [] (l:=[x,y]) rfl (.ids (gU _ (by decide) _))) .nil) (by first|rfl|(simp (disch:=first|omega|(refine id ?_;simp only[push_cast];try omega)) only [push_cast])) (by first|rfl|(simp (disch:=first|omega|(refine id ?_;simp only[push_cast];try omega)) only [push_cast])) ?_
 rw[wt_choose]
 unfold ivV
 simp (disch:=first|omega|(refine id ?_;simp only[push_cast];try omega)) only [push_cast,simprocAttr]
 exact .id rfl
set_option maxHeartbeats 2000000 in
theorem waits_law (r s:Rb) (u v:Int) (hr:smB r=true) (hs:smB s=true):jH (pp G) H0 6 [rbV r,rbV s,.int .i64 u,.int .i64 v] (.bool true):=by
 have hlo:H0.lo≤H0.next:=Nat.le_refl _;refine jH.cut (jI.fir4 (q:=qq) (jO G) fir6 (by kernel_rfl) rfl rfl (F68_arr ..) (show NGG≤H0.lo by rw[jY];decide) ?_);rw[sd_ir6]
 simp (disch:=first|omega|(refine id ?_;simp only[push_cast];try omega)) only [push_cast,simprocAttr]
 refine jC.dataI (known5_f G) (by and_intros<;>first|rfl|(simp (disch:=first|omega|(refine id ?_;simp only[push_cast];try omega)) only [push_cast])) ?_
 have hcl:∀ x:Rb,(rbV x).cells.toList=rbC x:=fun _=>rfl
 have hone:=rbC_one
 have hlen:=bP
 have htk:∀ r:Rb,(rbC r).take 5=rbC r:=fun r=>List.take_of_length_le (by rw[bP];exact Nat.le_refl _)
 simp (disch:=first|omega|(refine id ?_;simp only[push_cast];try omega)) only [push_cast,simprocAttr,hcl,hone,hlen,htk,↓rowRb2]
 refine jC.data (few3_f G 0 0 [r,s] (by simp) (by simp[smBs,hr,hs])) (few_fz G _ (by decide) _ [r,s]) (by first|rfl|(simp (disch:=first|omega|(refine id ?_;simp only[push_cast];try omega)) only [push_cast])) (by first|rfl|(simp (disch:=first|omega|(refine id ?_;simp only[push_cast];try omega)) only [push_cast])) ?_
 cases hf:fewB [r,s] with
 | false=>simp (disch:=first|omega|(refine id ?_;simp only[push_cast];try omega)) only [push_cast,simprocAttr,Bool.not_false];exact .id rfl
 | true=>
 simp (disch:=first|omega|(refine id ?_;simp only[push_cast];try omega)) only [push_cast,simprocAttr,Bool.not_true]
 all_goals repeat' apply And.intro
 all_goals
  refine jC.dataEI (made5_f G r u hr) (by and_intros<;>first|rfl|(simp (disch:=first|omega|(refine id ?_;simp only[push_cast];try omega)) only [push_cast])) ?_
  rintro _ ⟨x,rfl,hx⟩
  refine ⟨by simp (disch:=first|omega|(refine id ?_;simp only[push_cast];try omega)) only [push_cast,simprocAttr];first|done|rfl,?_⟩
  simp (disch:=first|omega|(refine id ?_;simp only[push_cast];try omega)) only [push_cast,simprocAttr]
 all_goals repeat' apply And.intro
 all_goals
  refine jC.dataEI (made5_f G s v hs) (by and_intros<;>first|rfl|(simp (disch:=first|omega|(refine id ?_;simp only[push_cast];try omega)) only [push_cast])) ?_
  rintro _ ⟨y,rfl,hy⟩
  refine ⟨by simp (disch:=first|omega|(refine id ?_;simp only[push_cast];try omega)) only [push_cast,simprocAttr];first|done|rfl,?_⟩
  simp (disch:=first|omega|(refine id ?_;simp only[push_cast];try omega)) only [push_cast,simprocAttr]
 all_goals repeat' apply And.intro
 all_goals exact waits_s0 G hx hy _ _ _ (by simp (disch:=first|omega|(refine id ?_;simp only[push_cast];try omega)) only [push_cast,simprocAttr]) (by simp (disch:=first|omega|(refine id ?_;simp only[push_cast];try omega)) only [push_cast,simprocAttr]) (by simp (disch:=first|omega|(refine id ?_;simp only[push_cast];try omega)) only [push_cast,simprocAttr]) (by simp (disch:=first|omega|(refine id ?_;simp only[push_cast];try omega)) only [push_cast,simprocAttr]) (by simp (disch:=first|omega|(refine id ?_;simp only[push_cast];try omega)) only [push_cast,simprocAttr]) (by simp (disch:=first|omega|(refine id ?_;simp only[push_cast];try omega)) only [push_cast,simprocAttr]) (by omega) (by omega)
end
end Go.Proofs.YtgeakofgklcipaaDoor
namespace Go.Proofs.YtgeakofgklcipaaDoor
open _root_.Go.Proofs.Tryd (prog)
open Go Go.RowKit Go.Ev Go.Dv
noncomputable section
set_option maxRecDepth 100000
section
variable {w:World} {H:Type} {enc:TypeId×Value→H}
theorem u_int:prog.underlying eI=some (.int .i64):=by kernel_rfl
theorem u_raws:prog.underlying 22=some (.slice era):=by kernel_rfl
theorem u_rbs:prog.underlying 23=some (.slice erb):=by kernel_rfl
theorem f_raw:fieldsB prog era [(eI,0),(eI,1),(22,2)]=true:=by kernel_rfl
theorem f_rb:fieldsB prog erb [(eI,0),(eI,1),(eI,2),(22,3),(23,4)]=true:=by kernel_rfl
theorem raCs_flat:∀ l:List Ra,l.flatMap raC=raCs l
 | []=>rfl
 | x :: l=>by rw[List.flatMap_cons,raCs_flat l,raCs]
theorem rbCs_flat:∀ l:List Rb,l.flatMap rbC=rbCs l
 | []=>rfl
 | x :: l=>by rw[List.flatMap_cons,rbCs_flat l,rbCs]
theorem smRs_of:∀ {l:List Ra},(∀ x∈l,smR x=true)→smRs l=true
 | [],_=>rfl
 | x :: l,h=>by rw[smRs,h x (by simp),smRs_of fun y hy=>h y (by simp[hy])];rfl
theorem smBs_of:∀ {l:List Rb},(∀ x∈l,smB x=true)→smBs l=true
 | [],_=>rfl
 | x :: l,h=>by rw[smBs,h x (by simp),smBs_of fun y hy=>h y (by simp[hy])];rfl
theorem open_ras:∀ (fuel:Nat) {cs:List Value} {x:DataW H×List MemPlace},DataW.trod enc prog w 0 (fun _=>true) true fuel 22 cs=some x→(x.1.weights prog 22).all (·≤reachBytes)=true→
  ∃ l:List Ra,Go.Dv.Op prog 1 LL w [rasV l] cs∧smRs l=true∧l.length<1000000000000000:=by
 intro fuel
 induction fuel using Nat.strongRecOn with
 | ind fuel ih=>
 intro cs x h hw
 obtain ⟨l,h1,h2,h3⟩:=open_slice (n:=1) (L:=LL) u_raws (size:=3) (by kernel_rfl) (by kernel_rfl) (by omega) (of_decide_eq_true (by kernel_rfl)) raC (fun r=>smR r=true) h hw fun k c y hk hy hwy=>by
  obtain ⟨k',hk',hl,hfs⟩:=open_struct f_raw hy hwy
  rw[show prog.cellsOf era=3 by kernel_rfl] at hl
  match c,hl with
  | [a,b,d],_=>
   obtain ⟨y0,t0,_⟩:=hfs 0 _ _ rfl
   obtain ⟨y1,t1,_⟩:=hfs 1 _ _ rfl
   obtain ⟨y2,t2,w2⟩:=hfs 2 _ _ rfl
   rw[show prog.cellsOf eI=1 by kernel_rfl] at t0 t1
   rw[show prog.cellsOf 22=1 by kernel_rfl] at t2
   obtain ⟨m0,e0,o0,_⟩:=open_num (n:=1) (L:=LL) u_int t0
   obtain ⟨m1,e1,o1,_⟩:=open_num (n:=1) (L:=LL) u_int t1
   obtain ⟨l2,o2,s2,n2⟩:=ih k' (by omega) t2 w2
   refine ⟨.mk m0 m1 l2,?_,?_⟩
   ·exact (o0.append o1).append o2
   ·simp only[smR,s2,Bool.and_true,decide_eq_true_eq];exact n2
 rw[raCs_flat] at h1
 exact ⟨l,h1,smRs_of h2,h3⟩
theorem open_rb_of (fuel:Nat) (ih:∀ k,k<fuel→∀ {cs:List Value} {x:DataW H×List MemPlace},DataW.trod enc prog w 0 (fun _=>true) true k 23 cs=some x→(x.1.weights prog 23).all (·≤reachBytes)=true→
   ∃ l:List Rb,Go.Dv.Op prog 1 LL w [rbsV l] cs∧smBs l=true∧l.length<1000000000000000)
  {c:List Value} {y:DataW H×List MemPlace} (hy:DataW.trod enc prog w 0 (fun _=>true) true fuel erb c=some y) (hwy:(y.1.weights prog erb).all (·≤reachBytes)=true) :
  ∃ r:Rb,Go.Dv.Op prog 1 LL w (rbC r) c∧smB r=true:=by
 obtain ⟨k',hk',hl,hfs⟩:=open_struct f_rb hy hwy
 rw[show prog.cellsOf erb=5 by kernel_rfl] at hl
 match c,hl with
 | [a,b,d,e,f],_=>
  obtain ⟨y0,t0,_⟩:=hfs 0 _ _ rfl
  obtain ⟨y1,t1,_⟩:=hfs 1 _ _ rfl
  obtain ⟨y2,t2,_⟩:=hfs 2 _ _ rfl
  obtain ⟨y3,t3,w3⟩:=hfs 3 _ _ rfl
  obtain ⟨y4,t4,w4⟩:=hfs 4 _ _ rfl
  rw[show prog.cellsOf eI=1 by kernel_rfl] at t0 t1 t2
  rw[show prog.cellsOf 22=1 by kernel_rfl] at t3
  rw[show prog.cellsOf 23=1 by kernel_rfl] at t4
  obtain ⟨m0,e0,o0,_⟩:=open_num (n:=1) (L:=LL) u_int t0
  obtain ⟨m1,e1,o1,_⟩:=open_num (n:=1) (L:=LL) u_int t1
  obtain ⟨m2,e2,o2,_⟩:=open_num (n:=1) (L:=LL) u_int t2
  obtain ⟨l3,o3,s3,n3⟩:=open_ras k' t3 w3
  obtain ⟨l4,o4,s4,n4⟩:=ih k' (by omega) t4 w4
  refine ⟨.mk m0 m1 m2 l3 l4,?_,?_⟩
  ·exact (((o0.append o1).append o2).append o3).append o4
  ·simp only[smB,s3,s4,Bool.and_true,Bool.and_eq_true,decide_eq_true_eq];exact ⟨n4,n3⟩
theorem open_rbs:∀ (fuel:Nat) {cs:List Value} {x:DataW H×List MemPlace},DataW.trod enc prog w 0 (fun _=>true) true fuel 23 cs=some x→(x.1.weights prog 23).all (·≤reachBytes)=true→
  ∃ l:List Rb,Go.Dv.Op prog 1 LL w [rbsV l] cs∧smBs l=true∧l.length<1000000000000000:=by
 intro fuel
 induction fuel using Nat.strongRecOn with
 | ind fuel ih=>
 intro cs x h hw
 obtain ⟨l,h1,h2,h3⟩:=open_slice (n:=1) (L:=LL) u_rbs (size:=5) (by kernel_rfl) (by kernel_rfl) (by omega) (of_decide_eq_true (by kernel_rfl)) rbC (fun r=>smB r=true) h hw fun k c y hk hy hwy=>
  open_rb_of k (fun k' hk'=>ih k' (by omega)) hy hwy
 rw[rbCs_flat] at h1
 exact ⟨l,h1,smBs_of h2,h3⟩
theorem open_rb (fuel:Nat) {c:List Value} {y:DataW H×List MemPlace} (hy:DataW.trod enc prog w 0 (fun _=>true) true fuel erb c=some y) (hwy:(y.1.weights prog erb).all (·≤reachBytes)=true) :
  ∃ r:Rb,Go.Dv.Op prog 1 LL w (rbC r) c∧smB r=true:=open_rb_of fuel (fun k _=>open_rbs k) hy hwy
end
end
end Go.Proofs.YtgeakofgklcipaaDoor
namespace Go.Proofs.YtgeakofgklcipaaDoor
open _root_.Go.Proofs.Tryd (prog)
open Go Go.RowKit Go.Ev Go.Dv
noncomputable section
@[reducible] def witB:Value:=.agg ⟨[.int .i64 0,.int .i64 0,.int .i64 0,.slice none 0 0,.slice none 0 0]⟩
end
end Go.Proofs.YtgeakofgklcipaaDoor
