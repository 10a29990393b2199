/-
  A part of the proof: what the program's functions hand back,as theorems. No condition but those that each theorem names.
-/
import Derived.Test.YtgeakofgklcipaaDoorTd
import Derived.Test.YtgeakofgklcipaaDoorTe
import Derived.Test.YtgeakofgklcipaaDoorTa
import Derived.Test.YtgeakofgklcipaaDoorTb
set_option linter.unusedSimpArgs false
set_option linter.unusedVariables false
namespace Go.Proofs.YtgeakofgklcipaaDoor
open _root_.Go.Proofs.Tryd (prog)
open Go Go.RowKit Go.Ev Go.Dv
noncomputable section
set_option maxRecDepth 100000
mutual
def gP (V Sk D:List (List UInt8)):Pr→Bool
 | .mk k n t e l=>decide (0≤k∧k<14∧(l.length:Int)=shL k)&&(decide (k=1→n≠[]∧nameF n=true∧(t=[]∨t∈V))&&(decide (k=2→t∈V)&&(decide (k=3∨k=4∨k=5∨k=6→n∈Sk)&&(decide (k=6→t∈Sk)&&(decide (k=13→n∈D)&&(decide (k=2∨k=9→qW V.length (lowE V e)=true)&&gPs V Sk D l))))))
def gPs (V Sk D:List (List UInt8)):List Pr→Bool
 | []=>true
 | x :: l=>gP V Sk D x&&gPs V Sk D l
end
theorem findF_in {l:List (List UInt8)} {s:List UInt8} (h:s∈l):0≤kZ l s∧kZ l s<l.length:=by
 have h1:=findF_mem h
 have h2:=findF_le l s
 omega
theorem right_given {v:Int}:∀ {e:Ex},qW v e=true→bD e=true
 | .mk k n s l,h=>by
  have:k≠0:=by
   rintro rfl
   simp[qW] at h
  simp[bD,Ex.k,this]
theorem zE_given:bD (.mk 0 0 [] [])=false:=rfl
theorem W_id {a:Int} (h:-9223372036854775808≤a∧a≤9223372036854775807):W a=a:=by
 unfold W;simp only[IntKind.wrap_i64];omega
mutual
theorem sizeT_pos:∀ x:Tm,1≤qU x
 | .mk _ _ _ _ _ l=>by rw[qU];have:=sizeTs_pos l;omega
theorem sizeTs_pos:∀ l:List Tm,0≤qM l
 | []=>by simp[qM]
 | x :: l=>by rw[qM];have:=sizeT_pos x;have:=sizeTs_pos l;omega
end
mutual
theorem wt_right (V Sk D:List (List UInt8)) (w:Int):∀ (x:Pr) (push:Bool) (n:Int),gP V Sk D x=true→0≤n→n+qU (bH V Sk D x)<4611686018427387904→
  qF V.length Sk.length D.length push (wtF w push (bH V Sk D x) n).1=true∧n≤(wtF w push (bH V Sk D x) n).2∧(wtF w push (bH V Sk D x) n).2≤n+qU (bH V Sk D x)∧qU (wtF w push (bH V Sk D x) n).1≤qU (bH V Sk D x)
 | .mk k m t e l,push,n,hg,hn,hs=>by
  simp only[gP,Bool.and_eq_true,decide_eq_true_eq] at hg
  obtain ⟨⟨hk0,hk1,hll⟩,h1,h2,h3,h4,h5,h6,hgl⟩:=hg
  rw[bH] at hs ⊢
  rw[qU] at hs
  have hpos:=sizeTs_pos (kP V Sk D l)
  have ih:=fun q=>wt_rights V Sk D w l q n hgl hn (by omega)
  by_cases hk:k=1
  ·subst hk
   obtain rfl:l=[]:=by
    cases l with
    | nil=>rfl
    | cons x l=>simp[shL] at hll;omega
   obtain ⟨hm,hnm,ht⟩:=h1 rfl
   have hW:W (n+1)=n+1:=W_id (by omega)
   have hA:lowA V Sk D 1 m t = -1∨0≤lowA V Sk D 1 m t∧lowA V Sk D 1 m t<V.length:=by
    unfold lowA
    rw[if_pos rfl]
    split
    ·exact .inl rfl
    ·rename_i h
     exact .inr (findF_in (ht.resolve_left h))
   have hB:lowB Sk 1 t=0:=by simp[lowB]
   have hN:lowN 1 m=m:=by simp[lowN]
   have hX:lowX V 1 e=.mk 0 0 [] []:=by simp[lowX]
   rw[hB,hN,hX,kP,wtF,if_pos rfl]
   by_cases hc:(!push&&wtB w n)=true
   ·rw[if_pos hc]
    have hp:push=false:=by cases push<;>simp_all
    subst hp
    refine ⟨?_,by show n≤W (n+1);omega,by show W (n+1)≤_;rw[qU,qM];omega,by simp[qU,qM]⟩
    simp[qF,qN,fitsF,shA,shB,shN,shE,shL,zE_given,hm,hnm,hn]
    omega
   ·rw[if_neg hc]
    refine ⟨?_,by show n≤W (n+1);omega,by show W (n+1)≤_;rw[qU,qM];omega,by simp[wtL]⟩
    simp[wtL,qF,qN,fitsF,shA,shB,shN,shE,shL,zE_given,hm,hnm]
    omega
  ·rw[wtF,if_neg hk]
   have ih':=ih (push || is3 k)
   have hwl:(wtL w (push || is3 k) (kP V Sk D l) n).1.length=l.length:=by rw[wtL_len,lowPs_map,List.length_map]
   refine ⟨?_,ih'.2.1,by rw[qU];have:=ih'.2.2.1;show (wtL w (push || is3 k) (kP V Sk D l) n).2≤_;omega,by rw[qU,qU];have:=ih'.2.2.2;omega⟩
   have ihr:=ih'.1
   generalize wtL w (push || is3 k) (kP V Sk D l) n=r at hwl ihr ⊢
   rw[qF]
   have hz:(r.1.length:Int)=shL k:=by rw[hwl];exact hll
   have hN:lowN k m=[]:=by unfold lowN;rw[if_neg hk]
   rw[hN]
   have e14:¬ k=14:=by omega
   have e15:k<15:=by omega
   have i3:is3 k=decide (k=3):=rfl
   rw[i3] at ihr
   rw[ihr,hz]
   have fA:fitsF V.length Sk.length D.length (shA k) (lowA V Sk D k m t)=true:=by
    unfold fitsF shA lowA
    by_cases e2:k=2
    ·have:=findF_in (h2 e2)
     subst e2;simp;omega
    by_cases e3:k=3∨k=4∨k=5∨k=6
    ·have:=findF_in (h3 e3)
     rcases e3 with rfl|rfl|rfl|rfl<;>(simp;omega)
    by_cases e13:k=13
    ·have:=findF_in (h5 e13)
     subst e13;simp;omega
    ·simp only[not_or] at e3
     simp[hk,e2,e3,e13,e14]
   have fB:fitsF V.length Sk.length D.length (shB k) (lowB Sk k t)=true:=by
    unfold fitsF shB lowB
    by_cases e6:k=6
    ·have:=findF_in (h4 e6)
     subst e6;simp;omega
    ·simp[e6,e14]
   have fE:(if bD (lowX V k e)=true then (1:Int) else 0)=shE k∧(!bD (lowX V k e) || qW V.length (lowX V k e))=true:=by
    unfold lowX shE
    by_cases e2:k=2∨k=9
    ·rw[if_pos e2,if_pos e2]
     have:=h6 e2
     have hgv:=right_given this
     rw[hgv,this];simp
    ·rw[if_neg e2,if_neg e2]
     simp[zE_given]
   rw[fA,fB,fE.2]
   have fN:(0:Int)=shN k:=by unfold shN;rw[if_neg (by omega)]
   simp[fE.1,← fN,hk0,e15,e14]
theorem wt_rights (V Sk D:List (List UInt8)) (w:Int):∀ (l:List Pr) (push:Bool) (n:Int),gPs V Sk D l=true→0≤n→n+qM (kP V Sk D l)<4611686018427387904→
  qN V.length Sk.length D.length push (wtL w push (kP V Sk D l) n).1=true∧n≤(wtL w push (kP V Sk D l) n).2∧(wtL w push (kP V Sk D l) n).2≤n+qM (kP V Sk D l)∧qM (wtL w push (kP V Sk D l) n).1≤qM (kP V Sk D l)
 | [],push,n,hg,hn,hs=>by simp[kP,wtL,qN,qM]
 | x :: l,push,n,hg,hn,hs=>by
  simp only[gPs,Bool.and_eq_true] at hg
  rw[kP,qM] at hs
  have p1:=sizeT_pos (bH V Sk D x)
  have p2:=sizeTs_pos (kP V Sk D l)
  have i1:=wt_right V Sk D w x push n hg.1 hn (by omega)
  have i2:=wt_rights V Sk D w l push (wtF w push (bH V Sk D x) n).2 hg.2 (by omega) (by omega)
  rw[kP,wtL]
  refine ⟨?_,by show n≤(wtL w push (kP V Sk D l) (wtF w push (bH V Sk D x) n).2).2;omega,by rw[qM];show (wtL w push (kP V Sk D l) (wtF w push (bH V Sk D x) n).2).2≤_;omega,by rw[qM,qM];omega⟩
  rw[qN,i1.1,i2.1];rfl
end
theorem low_mk (V:List (List UInt8)) (k n:Int) (s:List UInt8) (l:List Ex) (h:k≠2):lowE V (.mk k n s l)=.mk k n [] (lowEs V l):=by rw[lowE,if_neg h]
theorem rightF_num {v n:Int} (hn:0≤n):qW v (.mk 1 n [] [])=true:=by simp[qW,kI,hn]
theorem part_right (n:Int) (l:List Ex) (i:Nat) (h:∀ x∈l,qW 3 (lowE jS x)=true):qW 3 (lowE jS (partF n l i))=true:=by
 unfold partF
 rw[List.getD_eq_getElem?_getD]
 cases hx:l[i]? with
 | none=>
  show qW 3 (lowE jS (.mk 1 _ [] []))=true
  rw[low_mk _ _ _ _ _ (by decide)]
  exact rightF_num (qH (by omega)).1
 | some x=>exact h x (List.mem_of_getElem? hx)
mutual
theorem mkF_right:∀ x:Ra,qW 3 (lowE jS (mkF jS x))=true
 | .mk k n l=>by
  have ih:=mkL_right l
  have hw:=qH (a:=k) (n:=24) (by omega)
  have hp:=part_right n (mkL jS l) 0 ih
  have hq:=part_right n (mkL jS l) 1 ih
  rw[mkF]
  by_cases h1:jQ k 24<4
  ·rw[if_pos h1,low_mk _ _ _ _ _ (by decide)]
   refine rightF_num ?_
   have hn:=qH (a:=n) (n:=8) (by omega)
   obtain ⟨j,hj⟩:∃ j:Nat,jQ n 8=j:=⟨(jQ n 8).toNat,by omega⟩
   rw[hj,Int.toNat_natCast]
   have hj8:j<8:=by omega
   have:∀ j:Nat,j<8→0≤numsF.getD j 0:=by decide
   exact this j hj8
  rw[if_neg h1]
  by_cases h2:jQ k 24<9
  ·rw[if_pos ⟨h2,by decide⟩,lowE,if_pos rfl]
   have hn:=qH (a:=n) (n:=3) (by omega)
   have hm:jS.getD (jQ n jS.length).toNat []∈jS:=getD_mem (by show _<3;show (jQ n 3).toNat<3;omega)
   have hf:=findF_in hm
   have h3:(jS.length:Int)=3:=rfl
   rw[h3] at hf
   simp only[lowEs]
   rw[h3]
   generalize kZ jS (jS.getD (jQ n 3).toNat [])=f at hf ⊢
   simp[qW,kI,hf]
  rw[if_neg (fun h=>h2 h.1),if_neg h2]
  by_cases h3:jQ k 24=9
  ·rw[if_pos h3,low_mk _ _ _ _ _ (by decide),lowEs,lowEs]
   simp[qW,kI,hp]
  rw[if_neg h3]
  by_cases h4:jQ k 24=10
  ·rw[if_pos h4,low_mk _ _ _ _ _ (by decide),lowEs,lowEs]
   simp[qW,kI,hp]
  rw[if_neg h4,low_mk _ _ _ _ _ (by omega),lowEs,lowEs,lowEs]
  have a1:¬ (5+jQ k 24-11=1):=by omega
  have a2:¬ (5+jQ k 24-11=2):=by omega
  have a3:¬ (5+jQ k 24-11=3):=by omega
  have a4:¬ (5+jQ k 24-11=4):=by omega
  have a5:5≤5+jQ k 24-11:=by omega
  have a6:5+jQ k 24-11≤17:=by omega
  simp[qW,kI,hp,hq,a1,a2,a3,a4,a5,a6]
theorem mkL_right:∀ (l:List Ra),∀ x∈mkL jS l,qW 3 (lowE jS x)=true
 | [],x,hx=>by simp[mkL] at hx
 | y :: l,x,hx=>by
  rw[mkL] at hx
  rcases List.mem_cons.1 hx with rfl|hx
  ·exact mkF_right y
  ·exact mkL_right l x hx
end
theorem first_right (l:List Ra):qW 3 (lowE jS (firstF jS l))=true:=by
 cases l with
 | nil=>decide
 | cons x l=>exact mkF_right x
theorem p_ite {α:Type} (P:α→Prop) {c:Prop} [Decidable c] {a b:α} (h1:P a) (h2:P b):P (if c then a else b):=by
 by_cases h:c
 ·rw[if_pos h];exact h1
 ·rw[if_neg h];exact h2
theorem gP_of {k:Int} {n t:List UInt8} {e:Ex} {l:List Pr} (h0:0≤k∧k<14∧(l.length:Int)=shL k) (h1:k=1→n≠[]∧nameF n=true∧(t=[]∨t∈jS)) (h2:k=2→t∈jS) (h3:k=3∨k=4∨k=5∨k=6→n∈jM) (h4:k=6→t∈jM) (h5:k=13→n∈qG) (h6:k=2∨k=9→qW 3 (lowE jS e)=true) (h7:∀ x∈l,gP jS jM qG x=true) :
  gP jS jM qG (.mk k n t e l)=true:=by
 have h8:gPs jS jM qG l=true:=by
  clear h0
  induction l with
  | nil=>rfl
  | cons x l ih=>simp only[gPs,Bool.and_eq_true];exact ⟨h7 x (by simp),ih fun y hy=>h7 y (by simp[hy])⟩
 simp only[gP,Bool.and_eq_true,decide_eq_true_eq,h8,and_true]
 exact ⟨h0,h1,h2,h3,h4,h5,h6⟩
theorem skip_good:gP jS jM qG qC=true:=by decide
theorem acts_name:∀ s∈actsF,s≠[]∧nameF s=true:=by
 intro s hs
 simp only[actsF,List.mem_cons,List.not_mem_nil,or_false] at hs
 rcases hs with rfl|rfl|rfl<;>exact ⟨by decide,by decide⟩
mutual
theorem mkP_good:∀ (x:Rb) (d:Nat),gP jS jM qG (mkP x d)=true
 | .mk k a b e l,d=>by
  have ih:=mkPs_good l (d+1)
  have hpart:∀ i,gP jS jM qG (if d<6 then (bC l (d+1)).getD i qC else qC)=true:=fun i=>by
   split
   ·rw[List.getD_eq_getElem?_getD]
    cases hx:(bC l (d+1))[i]? with
    | none=>exact skip_good
    | some x=>exact ih x (List.mem_of_getElem? hx)
   ·exact skip_good
  have hv:jS.getD (jQ a 3).toNat []∈jS:=getD_mem (by have:=qH (a:=a) (n:=3) (by omega);show _<3;omega)
  have hs:jM.getD (jQ a 2).toNat []∈jM:=getD_mem (by have:=qH (a:=a) (n:=2) (by omega);show _<2;omega)
  have hs2:jM.getD (jQ b 2).toNat []∈jM:=getD_mem (by have:=qH (a:=b) (n:=2) (by omega);show _<2;omega)
  have hd:qG.getD (jQ a 5).toNat []∈qG:=getD_mem (by have:=qH (a:=a) (n:=5) (by omega);show _<5;omega)
  have ha:=acts_name (actsF.getD (jQ b 3).toNat []) (getD_mem (by have:=qH (a:=b) (n:=3) (by omega);show _<3;omega))
  have he:=first_right e
  have h1:∀ x∈[if d<6 then (bC l (d+1)).getD 0 qC else qC],gP jS jM qG x=true:=fun x hx=>by simp only[List.mem_singleton] at hx;subst hx;exact hpart 0
  have h2:∀ x∈[if d<6 then (bC l (d+1)).getD 0 qC else qC,if d<6 then (bC l (d+1)).getD 1 qC else qC],gP jS jM qG x=true:=fun x hx=>by
   simp only[List.mem_cons,List.not_mem_nil,or_false] at hx
   rcases hx with rfl|rfl
   ·exact hpart 0
   ·exact hpart 1
  rw[mkP]
  generalize (if d<6 then (bC l (d+1)).getD 0 qC else qC)=pa at *
  generalize (if d<6 then (bC l (d+1)).getD 1 qC else qC)=pb at *
  generalize jS.getD (jQ a 3).toNat []=v at *
  generalize jM.getD (jQ a 2).toNat []=s at *
  generalize jM.getD (jQ b 2).toNat []=s2 at *
  generalize qG.getD (jQ a 5).toNat []=df at *
  generalize actsF.getD (jQ b 3).toNat []=ac at *
  generalize firstF jS e=ee at *
  repeat' refine p_ite (fun y=>gP jS jM qG y=true) ?_ ?_
  all_goals first
   | exact skip_good
   | exact gP_of (by simp[shL]) (by first | (intro h;exact ⟨ha.1,ha.2,.inl rfl⟩) | (intro h;exact ⟨ha.1,ha.2,.inr hv⟩) | (intro h;omega)) (by first | exact fun _=>hv | (intro h;omega)) (by first | exact fun _=>hs | (intro h;omega)) (by first | exact fun _=>hs2 | (intro h;omega)) (by first | exact fun _=>hd | (intro h;omega)) (by first | exact fun _=>he | (intro h;omega)) (by first | exact h1 | exact h2 | simp)
theorem mkPs_good:∀ (l:List Rb) (d:Nat),∀ x∈bC l d,gP jS jM qG x=true
 | [],d,x,hx=>by simp[bC] at hx
 | y :: l,d,x,hx=>by
  rw[bC] at hx
  rcases List.mem_cons.1 hx with rfl|hx
  ·exact mkP_good y d
  ·exact mkPs_good l d x hx
end
abbrev szP (x:Pr):Int:=qU (bH jS jM qG x)
theorem szP_0 (k:Int) (n t:List UInt8) (e:Ex):szP (.mk k n t e [])=1:=by simp[szP,bH,kP,qU,qM]
theorem szP_1 (k:Int) (n t:List UInt8) (e:Ex) (x:Pr):szP (.mk k n t e [x])=1+szP x:=by simp[szP,bH,kP,qU,qM]
theorem szP_2 (k:Int) (n t:List UInt8) (e:Ex) (x y:Pr):szP (.mk k n t e [x,y])=1+(szP x+szP y):=by simp[szP,bH,kP,qU,qM]
theorem szP_s:szP qC=1:=szP_0 ..
def p2:Nat→Int
 | 0=>256
 | 1=>128
 | 2=>64
 | 3=>32
 | 4=>16
 | 5=>8
 | 6=>4
 | _=>2
theorem p2_s {d:Nat} (h:d≤6):p2 d=2*p2 (d+1)∧2≤p2 (d+1):=by
 obtain rfl|rfl|rfl|rfl|rfl|rfl|rfl:d=0∨d=1∨d=2∨d=3∨d=4∨d=5∨d=6:=by omega
 all_goals decide
mutual
theorem mkP_size:∀ (x:Rb) (d:Nat),d≤6→szP (mkP x d)+1≤p2 d
 | .mk k a b e l,d,hd=>by
  obtain ⟨q1,q2⟩:=p2_s hd
  have hpart:∀ i,szP (if d<6 then (bC l (d+1)).getD i qC else qC)+1≤p2 (d+1):=fun i=>by
   by_cases h6:d<6
   ·rw[if_pos h6,List.getD_eq_getElem?_getD]
    cases hx:(bC l (d+1))[i]? with
    | none=>show szP qC+1≤_;rw[szP_s];omega
    | some x=>exact mkPs_size l (d+1) (by omega) x (List.mem_of_getElem? hx)
   ·rw[if_neg h6,szP_s];omega
  have ha:=hpart 0
  have hb:=hpart 1
  rw[mkP]
  generalize (if d<6 then (bC l (d+1)).getD 0 qC else qC)=pa at *
  generalize (if d<6 then (bC l (d+1)).getD 1 qC else qC)=pb at *
  have:=sizeT_pos (bH jS jM qG pa)
  have:=sizeT_pos (bH jS jM qG pb)
  repeat' refine p_ite (fun y=>szP y+1≤p2 d) ?_ ?_
  all_goals first
   | (rw[szP_s];omega)
   | (rw[szP_0];omega)
   | (rw[szP_1];omega)
   | (rw[szP_2];omega)
theorem mkPs_size:∀ (l:List Rb) (d:Nat),d≤6→∀ x∈bC l d,szP x+1≤p2 d
 | [],d,hd,x,hx=>by simp[bC] at hx
 | y :: l,d,hd,x,hx=>by
  rw[bC] at hx
  rcases List.mem_cons.1 hx with rfl|hx
  ·exact mkP_size y d hd
  ·exact mkPs_size l d hd x hx
end
def goodT (y:Tm):Prop:=smT y=true∧qF 3 2 5 false y=true∧qU y≤255
theorem made_good {y:Tm} {w:Int} {r:Rb} (hs:smT y=true) (h:y=askT∨y=madeT w r):goodT y:=by
 rcases h with rfl|rfl
 ·exact ⟨rfl,by decide,by decide⟩
 ·have h1:=mkP_size r 0 (by omega)
  have h2:qU (bH jS jM qG (mkP r 0))+1≤256:=h1
  have h3:=wt_right jS jM qG w (mkP r 0) false 0 (mkP_good r 0) (by omega) (by omega)
  exact ⟨hs,h3.1,by unfold madeT;omega⟩
end
end Go.Proofs.YtgeakofgklcipaaDoor
namespace Go.Proofs.YtgeakofgklcipaaDoor
open _root_.Go.Proofs.Tryd (prog)
open Go Go.RowKit Go.Ev Go.Dv
noncomputable section
set_option maxRecDepth 100000
variable (G:Nat×Nat)
theorem few_fz (N:Nat) (hN:0<N) (σ:jB) (l:List Rb):FzL (pp G).P N σ [.agg ⟨[.int .i64 0,.int .i64 0,Rw true erb l.length (rbCs l)]⟩] [shV 0 0 l]:=
 .cons (.agg (.cons (.id rfl) (.cons (.id rfl) (.cons (.row (.ids (rbCs_sc _ hN _))) .nil)))) .nil
theorem made5_f (r:Rb) (w:Int) (hr:smB r=true):uY (pp G) H0 13 [rbV r,.int .i64 w] (fun d=>∃ y,d=tmV y∧goodT y):=
 fun g h vs hP hrr hv=>(make5_f G r w hr g h vs hP hrr hv).mono fun u h' ⟨d,g',⟨y,e,hs,hy⟩,x⟩=>⟨d,g',⟨y,e,made_good hs hy⟩,x⟩
mutual
theorem sameE_refl:∀ x:Ex,gW x x=true
 | .mk k n s l=>by simp[gW,sameEs_refl l]
theorem sameEs_refl:∀ l:List Ex,bB l l=true
 | []=>rfl
 | x :: l=>by simp[bB,sameE_refl x,sameEs_refl l]
end
mutual
theorem sameT_refl:∀ x:Tm,sameT x x=true
 | .mk k a b s e l=>by simp[sameT,sameE_refl e,sameTs_refl l]
theorem sameTs_refl:∀ l:List Tm,bA l l=true
 | []=>rfl
 | x :: l=>by simp[bA,sameT_refl x,sameTs_refl l]
end
structure NmOk (t n:Tm):Prop where
 i:jV n=n
 z:qU n≤qU t
 r:∀ q,qF 3 2 5 q t=true→qF 3 2 5 q n=true
 s:smT t=true→smT n=true
theorem NmOk.of_eq {t:Tm} (h:jV t=t):NmOk t (jV t):=by
 rw[h];exact ⟨h,Int.le_refl _,fun _ h=>h,fun h=>h⟩
theorem nm_z (t:Tm):NmOk t zT:=⟨rfl,by have:=sizeT_pos t;show 1≤_;omega,fun q _=>by cases q<;>decide,fun _=>rfl⟩
theorem right_1 {q:Bool} {k a b:Int} {s:List UInt8} {e:Ex} {x x':Tm} (hx:∀ q,qF 3 2 5 q x=true→qF 3 2 5 q x'=true) (h:qF 3 2 5 q (.mk k a b s e [x])=true):qF 3 2 5 q (.mk k a b s e [x'])=true:=by
 simp only[qF,qN,Bool.and_eq_true,List.length_singleton] at h ⊢
 exact ⟨h.1,h.2.1,h.2.2.1,h.2.2.2.1,h.2.2.2.2.1,h.2.2.2.2.2.1,h.2.2.2.2.2.2.1,hx _ h.2.2.2.2.2.2.2.1,trivial⟩
theorem right_2 {q:Bool} {k a b:Int} {s:List UInt8} {e:Ex} {x x' y y':Tm} (hx:∀ q,qF 3 2 5 q x=true→qF 3 2 5 q x'=true) (hy:∀ q,qF 3 2 5 q y=true→qF 3 2 5 q y'=true) (h:qF 3 2 5 q (.mk k a b s e [x,y])=true):qF 3 2 5 q (.mk k a b s e [x',y'])=true:=by
 simp only[qF,qN,Bool.and_eq_true,List.length_cons,List.length_nil] at h ⊢
 exact ⟨h.1,h.2.1,h.2.2.1,h.2.2.2.1,h.2.2.2.2.1,h.2.2.2.2.2.1,h.2.2.2.2.2.2.1,hx _ h.2.2.2.2.2.2.2.1,hy _ h.2.2.2.2.2.2.2.2.1,trivial⟩
theorem right_snd {q:Bool} {a b:Int} {s:List UInt8} {e:Ex} {x y:Tm} (h:qF 3 2 5 q (.mk 12 a b s e [x,y])=true):qF 3 2 5 q y=true:=by
 simp only[qF,qN,Bool.and_eq_true] at h
 have:=h.2.2.2.2.2.2.2.2.1
 cases q<;>exact this
theorem sm_1 {k a b:Int} {s:List UInt8} {e:Ex} {x x':Tm} (hx:smT x=true→smT x'=true) (h:smT (.mk k a b s e [x])=true):smT (.mk k a b s e [x'])=true:=by
 simp only[smT,smTs,Bool.and_eq_true,List.length_singleton] at h ⊢
 exact ⟨h.1,hx h.2.1,trivial⟩
theorem sm_2 {k a b:Int} {s:List UInt8} {e:Ex} {x x' y y':Tm} (hx:smT x=true→smT x'=true) (hy:smT y=true→smT y'=true) (h:smT (.mk k a b s e [x,y])=true):smT (.mk k a b s e [x',y'])=true:=by
 simp only[smT,smTs,Bool.and_eq_true,List.length_cons,List.length_nil] at h ⊢
 exact ⟨h.1,hx h.2.1,hy h.2.2.1,trivial⟩
theorem sz1 (k a b:Int) (s:List UInt8) (e:Ex) (x:Tm):qU (.mk k a b s e [x])=1+qU x:=by simp[qU,qM]
theorem sz2 (k a b:Int) (s:List UInt8) (e:Ex) (x y:Tm):qU (.mk k a b s e [x,y])=1+(qU x+qU y):=by simp[qU,qM]
theorem norm_ok:∀ t:Tm,NmOk t (jV t)
 | .mk k a b s e [x,y]=>by
  have hx:=norm_ok x
  have hy:=norm_ok y
  rw[jV]
  by_cases h12:k=12
  ·subst h12
   rw[if_pos rfl]
   by_cases h0:(jV x).k=0
   ·rw[if_pos h0]
    refine ⟨hy.i,?_,fun q h=>hy.r q (right_snd h),fun h=>hy.s ?_⟩
    ·rw[sz2];have:=hy.z;have:=sizeT_pos x;omega
    ·simp only[smT,smTs,Bool.and_eq_true] at h;exact h.2.2.1
   ·rw[if_neg h0]
    refine ⟨?_,?_,fun q h=>right_2 hx.r (fun _ h=>h) h,sm_2 hx.s fun h=>h⟩
    ·rw[jV,if_pos rfl,hx.i,if_neg h0]
    ·rw[sz2,sz2];have:=hx.z;omega
  rw[if_neg h12]
  by_cases h11:k=11
  ·subst h11
   rw[if_pos rfl]
   by_cases h0:(jV x).k=0∧(jV y).k=0
   ·rw[if_pos h0];exact nm_z _
   ·rw[if_neg h0]
    refine ⟨?_,?_,fun q h=>right_2 hx.r hy.r h,sm_2 hx.s hy.s⟩
    ·rw[jV,if_neg (by decide),if_pos rfl,hx.i,hy.i,if_neg h0]
    ·rw[sz2,sz2];have:=hx.z;have:=hy.z;omega
  rw[if_neg h11]
  exact ⟨by rw[jV,if_neg h12,if_neg h11],Int.le_refl _,fun _ h=>h,fun h=>h⟩
 | .mk k a b s e [x]=>by
  have hx:=norm_ok x
  rw[jV]
  by_cases h7:k=7
  ·subst h7
   rw[if_pos rfl]
   by_cases h0:(jV x).k=0
   ·rw[if_pos h0];exact nm_z _
   ·rw[if_neg h0]
    refine ⟨?_,?_,fun q h=>right_1 hx.r h,sm_1 hx.s⟩
    ·rw[jV,if_pos rfl,hx.i,if_neg h0]
    ·rw[sz1,sz1];have:=hx.z;omega
  rw[if_neg h7]
  exact ⟨by rw[jV,if_neg h7],Int.le_refl _,fun _ h=>h,fun h=>h⟩
 | .mk k a b s e []=>.of_eq rfl
 | .mk k a b s e (x :: y :: z :: l)=>.of_eq rfl
 termination_by t=>SizeOf.sizeOf t
theorem rowZT (t:Tm) (σ:jB):bsD (qq.m 32) (slT prog 32) 2 [(0,.agg ⟨[.int .i64 0,.int .i64 0,.int .i64 0,.string (Tx []),.int .i64 0,.int .i64 0,.string (Tx []),.slice none 0 0,.slice none 0 0]⟩),(1,tmV t)] σ=some (Rw true 34 2 (zc 0 0 0 []++tmC t),σ):=by
 cases t;kernel_rfl
theorem zt_fz2 (N:Nat) (hN:0<N) (σ:jB) (t:Tm):FzL prog N σ (zc 0 0 0 []++tmC t) (qV [zT,t]):=by
 rw[show qV [zT,t]=tmC zT++tmC t by rw[qV,tmCs_1]]
 exact (tmzL_fz rfl rfl 0 0 0 []).app (.ids (tmC_sc N hN t))
theorem zt_sc (t:Tm):Ev.sc 1 (Rw true 34 2 (zc 0 0 0 []++tmC t))=true:=scL_append rfl (tmC_sc 1 (by decide) t)
theorem norms_law (r:Rb) (w:Int) (hr:smB r=true):jH (pp G) H0 5 [rbV r,.int .i64 w] (.bool true):=by
 have hlo:H0.lo≤H0.next:=Nat.le_refl _;refine jH.cut (jI.fir4 (q:=qq) (jO G) fir5 (by kernel_rfl) rfl rfl (F89_arr ..) (show NGG≤H0.lo by rw[jZ];decide) ?_);rw[sd_ir5]
 simp(disch:=first|omega|(apply id;simp only[push_cast];try omega))only[push_cast,simprocAttr]
 refine jC.dataI (known5_f G) (by and_intros<;>first|rfl|(simp(disch:=first|omega|(apply id;simp only[push_cast];try omega))only[push_cast])) ?_
 have hcl:∀ x:Rb,(rbV x).cells.toList=rbC x:=fun _=>rfl
 have hone:=rbC_one
 have hlen:=bN
 have htk:∀ r:Rb,(rbC r).take 5=rbC r:=fun r=>List.take_of_length_le (by rw[bN];exact Nat.le_refl _)
 simp(disch:=first|omega|(apply id;simp only[push_cast];try omega))only[push_cast,simprocAttr,hcl,hone,hlen,htk,↓rowRb1]
 refine jC.data (few3_f G 0 0 [r] (by simp) (by simp[smBs,hr])) (few_fz G _ (by decide) _ [r]) (by first|rfl|(simp(disch:=first|omega|(apply id;simp only[push_cast];try omega))only[push_cast])) (by first|rfl|(simp(disch:=first|omega|(apply id;simp only[push_cast];try omega))only[push_cast])) ?_
 cases hf:fewB [r] with
 | false=>simp(disch:=first|omega|(apply id;simp only[push_cast];try omega))only[push_cast,simprocAttr,Bool.not_false];exact .id rfl
 | true=>
 simp(disch:=first|omega|(apply id;simp only[push_cast];try omega))only[push_cast,simprocAttr,Bool.not_true]
 refine jC.dataEI (made5_f G r w hr) (by and_intros<;>first|rfl|(simp(disch:=first|omega|(apply id;simp only[push_cast];try omega))only[push_cast])) ?_
 rintro _ ⟨t,rfl,ht⟩
 refine ⟨by simp(disch:=first|omega|(apply id;simp only[push_cast];try omega))only[push_cast,simprocAttr];first|done|rfl,?_⟩
 have hn:=norm_ok t
 have hns:=hn.s ht.1
 have hnr:=hn.r _ ht.2.1
 have hnz:=hn.z
 have hnl:=ht.2.2
 have hnp:=sizeT_pos (jV t)
 have hzs:=zt_sc t
 simp(disch:=first|omega|(apply id;simp only[push_cast];try omega))only[push_cast,simprocAttr]
 refine jC.dataI (norm_f G t ht.1) (by and_intros<;>first|rfl|(simp(disch:=first|omega|(apply id;simp only[push_cast];try omega))only[push_cast])) ?_
 have hi:jV (jV t)=jV t:=hn.i
 have hb:jV (.mk 7 0 0 [] zE [t])=if (jV t).k=0 then zT else .mk 7 0 0 [] zE [jV t]:=by rw[jV,if_pos rfl]
 have hr:jV (.mk 12 0 0 [] zE [zT,t])=jV t:=by rw[jV,if_pos rfl,if_pos (show (jV zT).k=0 from rfl)]
 have h2:jV (.mk 11 0 0 [] zE [zT,zT])=zT:=by rw[jV,if_neg (by decide),if_pos rfl,if_pos (show (jV zT).k=0∧(jV zT).k=0 from ⟨rfl,rfl⟩)]
 have hw1:W (qU (jV t))=qU (jV t):=W_id (by omega)
 have hw2:W (qU t)=qU t:=W_id (by omega)
 generalize jV t=n at *
 have hle:¬ qU t<qU n:=by omega
 simp(disch:=first|omega|(apply id;simp only[push_cast];try omega))only[push_cast,simprocAttr,↓rowZT,↓rowT1,↓rowZ2]
 refine jC.dataI (norm_f G n hns) (by and_intros<;>first|rfl|(simp(disch:=first|omega|(apply id;simp only[push_cast];try omega))only[push_cast])) ?_
 rw[hi]
 simp(disch:=first|omega|(apply id;simp only[push_cast];try omega))only[push_cast,simprocAttr]
 refine jC.dataI (same_t G n n hns hns) (by and_intros<;>first|rfl|(simp(disch:=first|omega|(apply id;simp only[push_cast];try omega))only[push_cast])) ?_
 rw[sameT_refl]
 simp(disch:=first|omega|(apply id;simp only[push_cast];try omega))only[push_cast,simprocAttr,Bool.not_true]
 refine jC.dataI (size_t G n hns) (by and_intros<;>first|rfl|(simp(disch:=first|omega|(apply id;simp only[push_cast];try omega))only[push_cast])) ?_
 rw[hw1]
 simp(disch:=first|omega|(apply id;simp only[push_cast];try omega))only[push_cast,simprocAttr]
 refine jC.dataI (size_t G t ht.1) (by and_intros<;>first|rfl|(simp(disch:=first|omega|(apply id;simp only[push_cast];try omega))only[push_cast])) ?_
 rw[hw2]
 simp(disch:=first|omega|(apply id;simp only[push_cast];try omega))only[push_cast,simprocAttr,hle]
 refine jC.data (norm_f G (.mk 12 0 0 [] zE [zT,t]) (by simp[smT,smTs,ht.1,zT,zE,smE,smEs])) (.cons (tmz_fz rfl 12 0 0 [] (l:=[zT,t]) rfl (zt_fz2 _ (by decide) _ t)) .nil) (by simp(disch:=first|omega|(apply id;simp only[push_cast];try omega))only[push_cast,simprocAttr,hzs]) (by simp(disch:=first|omega|(apply id;simp only[push_cast];try omega))only[push_cast,simprocAttr]) ?_
 rw[hr]
 simp(disch:=first|omega|(apply id;simp only[push_cast];try omega))only[push_cast,simprocAttr]
 refine jC.dataI (same_t G n n hns hns) (by and_intros<;>first|rfl|(simp(disch:=first|omega|(apply id;simp only[push_cast];try omega))only[push_cast])) ?_
 rw[sameT_refl]
 simp(disch:=first|omega|(apply id;simp only[push_cast];try omega))only[push_cast,simprocAttr,Bool.not_true]
 refine jC.data (norm_f G (.mk 11 0 0 [] zE [zT,zT]) rfl) (.cons (tmz_fz rfl 11 0 0 [] (l:=[zT,zT]) rfl ((tmzL_fz rfl rfl 0 0 0 []).app (tmzL_fz rfl rfl 0 0 0 []))) .nil) (by first|rfl|(simp(disch:=first|omega|(apply id;simp only[push_cast];try omega))only[push_cast])) (by first|rfl|(simp(disch:=first|omega|(apply id;simp only[push_cast];try omega))only[push_cast])) ?_
 rw[h2]
 simp(disch:=first|omega|(apply id;simp only[push_cast];try omega))only[push_cast,simprocAttr]
 refine jC.data (same_t G zT zT rfl rfl) (.cons (.id (gY _ H0q zT)) (.cons (tmz0_fz rfl rfl 0 0 0 []) .nil)) (by first|rfl|(simp(disch:=first|omega|(apply id;simp only[push_cast];try omega))only[push_cast])) (by first|rfl|(simp(disch:=first|omega|(apply id;simp only[push_cast];try omega))only[push_cast])) ?_
 rw[show sameT zT zT=true from rfl]
 simp(disch:=first|omega|(apply id;simp only[push_cast];try omega))only[push_cast,simprocAttr,Bool.not_true]
 refine jC.data (norm_f G (.mk 7 0 0 [] zE [t]) (by simp[smT,smTs,ht.1,zE,smE,smEs])) (.cons (tmz_fz rfl 7 0 0 [] (l:=[t]) rfl (.ids (tmCs_sc _ (by decide) _))) .nil) (by first|rfl|(simp(disch:=first|omega|(apply id;simp only[push_cast];try omega))only[push_cast])) (by first|rfl|(simp(disch:=first|omega|(apply id;simp only[push_cast];try omega))only[push_cast])) ?_
 rw[hb]
 by_cases h0:n.k=0
 ·rw[if_pos h0]
  simp(disch:=first|omega|(apply id;simp only[push_cast];try omega))only[push_cast,simprocAttr,tmC_g0,h0,show zT.k=0 from rfl]
  exact .id rfl
 ·rw[if_neg h0,show tmV (.mk 7 0 0 [] zE [n])=.agg ⟨[.int .i64 7,.int .i64 0,.int .i64 0,.string (Tx []),.int .i64 0,.int .i64 0,.string (Tx []),Rw false eE 0 [],Rw false etm 1 (qV [n])]⟩ from rfl]
  have hp:=kM (l:=[n]) (i:=0) rfl
  rw[Nat.zero_mul,List.drop_zero] at hp
  simp(disch:=first|omega|(apply id;simp only[push_cast];try omega))only[push_cast,simprocAttr,tmC_g0,h0,hp]
  refine jC.dataI (same_t G n n hns hns) (by and_intros<;>first|rfl|(simp(disch:=first|omega|(apply id;simp only[push_cast];try omega))only[push_cast])) ?_
  rw[sameT_refl]
  simp(disch:=first|omega|(apply id;simp only[push_cast];try omega))only[push_cast,simprocAttr]
  refine jC.dataI (right_t G 3 2 5 n hns) (by and_intros<;>first|rfl|(simp(disch:=first|omega|(apply id;simp only[push_cast];try omega))only[push_cast])) ?_
  rw[hnr]
  simp(disch:=first|omega|(apply id;simp only[push_cast];try omega))only[push_cast,simprocAttr]
  exact .id rfl
end
end Go.Proofs.YtgeakofgklcipaaDoor
namespace Go.Proofs.YtgeakofgklcipaaDoor
open _root_.Go.Proofs.Tryd (prog)
open Go Go.RowKit Go.Ev Go.Dv
noncomputable section
set_option maxRecDepth 100000
section
variable {w:World} {H:Type} {enc:TypeId×Value→H}
theorem u_int:prog.underlying eI=some (.int .i64):=by kernel_rfl
theorem u_raws:prog.underlying 22=some (.slice era):=by kernel_rfl
theorem u_rbs:prog.underlying 23=some (.slice erb):=by kernel_rfl
theorem f_raw:fieldsB prog era [(eI,0),(eI,1),(22,2)]=true:=by kernel_rfl
theorem f_rb:fieldsB prog erb [(eI,0),(eI,1),(eI,2),(22,3),(23,4)]=true:=by kernel_rfl
theorem raCs_flat:∀ l:List Ra,l.flatMap raC=raCs l
 | []=>rfl
 | x :: l=>by rw[List.flatMap_cons,raCs_flat l,raCs]
theorem rbCs_flat:∀ l:List Rb,l.flatMap rbC=rbCs l
 | []=>rfl
 | x :: l=>by rw[List.flatMap_cons,rbCs_flat l,rbCs]
theorem smRs_of:∀ {l:List Ra},(∀ x∈l,smR x=true)→smRs l=true
 | [],_=>rfl
 | x :: l,h=>by rw[smRs,h x (by simp),smRs_of fun y hy=>h y (by simp[hy])];rfl
theorem smBs_of:∀ {l:List Rb},(∀ x∈l,smB x=true)→smBs l=true
 | [],_=>rfl
 | x :: l,h=>by rw[smBs,h x (by simp),smBs_of fun y hy=>h y (by simp[hy])];rfl
theorem open_ras:∀ (fuel:Nat) {cs:List Value} {x:DataW H×List MemPlace},DataW.trod enc prog w 0 (fun _=>true) true fuel 22 cs=some x→(x.1.weights prog 22).all (·≤reachBytes)=true→
  ∃ l:List Ra,Go.Dv.Op prog 1 LL w [rasV l] cs∧smRs l=true∧l.length<1000000000000000:=by
 intro fuel
 induction fuel using Nat.strongRecOn with
 | ind fuel ih=>
 intro cs x h hw
 obtain ⟨l,h1,h2,h3⟩:=open_slice (n:=1) (L:=LL) u_raws (size:=3) (by kernel_rfl) (by kernel_rfl) (by omega) (of_decide_eq_true (by kernel_rfl)) raC (fun r=>smR r=true) h hw fun k c y hk hy hwy=>by
  obtain ⟨k',hk',hl,hfs⟩:=open_struct f_raw hy hwy
  rw[show prog.cellsOf era=3 by kernel_rfl] at hl
  match c,hl with
  | [a,b,d],_=>
   obtain ⟨y0,t0,_⟩:=hfs 0 _ _ rfl
   obtain ⟨y1,t1,_⟩:=hfs 1 _ _ rfl
   obtain ⟨y2,t2,w2⟩:=hfs 2 _ _ rfl
   rw[show prog.cellsOf eI=1 by kernel_rfl] at t0 t1
   rw[show prog.cellsOf 22=1 by kernel_rfl] at t2
   obtain ⟨m0,e0,o0,_⟩:=open_num (n:=1) (L:=LL) u_int t0
   obtain ⟨m1,e1,o1,_⟩:=open_num (n:=1) (L:=LL) u_int t1
   obtain ⟨l2,o2,s2,n2⟩:=ih k' (by omega) t2 w2
   refine ⟨.mk m0 m1 l2,?_,?_⟩
   ·exact (o0.append o1).append o2
   ·simp only[smR,s2,Bool.and_true,decide_eq_true_eq];exact n2
 rw[raCs_flat] at h1
 exact ⟨l,h1,smRs_of h2,h3⟩
theorem open_rb_of (fuel:Nat) (ih:∀ k,k<fuel→∀ {cs:List Value} {x:DataW H×List MemPlace},DataW.trod enc prog w 0 (fun _=>true) true k 23 cs=some x→(x.1.weights prog 23).all (·≤reachBytes)=true→
   ∃ l:List Rb,Go.Dv.Op prog 1 LL w [rbsV l] cs∧smBs l=true∧l.length<1000000000000000)
  {c:List Value} {y:DataW H×List MemPlace} (hy:DataW.trod enc prog w 0 (fun _=>true) true fuel erb c=some y) (hwy:(y.1.weights prog erb).all (·≤reachBytes)=true) :
  ∃ r:Rb,Go.Dv.Op prog 1 LL w (rbC r) c∧smB r=true:=by
 obtain ⟨k',hk',hl,hfs⟩:=open_struct f_rb hy hwy
 rw[show prog.cellsOf erb=5 by kernel_rfl] at hl
 match c,hl with
 | [a,b,d,e,f],_=>
  obtain ⟨y0,t0,_⟩:=hfs 0 _ _ rfl
  obtain ⟨y1,t1,_⟩:=hfs 1 _ _ rfl
  obtain ⟨y2,t2,_⟩:=hfs 2 _ _ rfl
  obtain ⟨y3,t3,w3⟩:=hfs 3 _ _ rfl
  obtain ⟨y4,t4,w4⟩:=hfs 4 _ _ rfl
  rw[show prog.cellsOf eI=1 by kernel_rfl] at t0 t1 t2
  rw[show prog.cellsOf 22=1 by kernel_rfl] at t3
  rw[show prog.cellsOf 23=1 by kernel_rfl] at t4
  obtain ⟨m0,e0,o0,_⟩:=open_num (n:=1) (L:=LL) u_int t0
  obtain ⟨m1,e1,o1,_⟩:=open_num (n:=1) (L:=LL) u_int t1
  obtain ⟨m2,e2,o2,_⟩:=open_num (n:=1) (L:=LL) u_int t2
  obtain ⟨l3,o3,s3,n3⟩:=open_ras k' t3 w3
  obtain ⟨l4,o4,s4,n4⟩:=ih k' (by omega) t4 w4
  refine ⟨.mk m0 m1 m2 l3 l4,?_,?_⟩
  ·exact (((o0.append o1).append o2).append o3).append o4
  ·simp only[smB,s3,s4,Bool.and_true,Bool.and_eq_true,decide_eq_true_eq];exact ⟨n4,n3⟩
theorem open_rbs:∀ (fuel:Nat) {cs:List Value} {x:DataW H×List MemPlace},DataW.trod enc prog w 0 (fun _=>true) true fuel 23 cs=some x→(x.1.weights prog 23).all (·≤reachBytes)=true→
  ∃ l:List Rb,Go.Dv.Op prog 1 LL w [rbsV l] cs∧smBs l=true∧l.length<1000000000000000:=by
 intro fuel
 induction fuel using Nat.strongRecOn with
 | ind fuel ih=>
 intro cs x h hw
 obtain ⟨l,h1,h2,h3⟩:=open_slice (n:=1) (L:=LL) u_rbs (size:=5) (by kernel_rfl) (by kernel_rfl) (by omega) (of_decide_eq_true (by kernel_rfl)) rbC (fun r=>smB r=true) h hw fun k c y hk hy hwy=>
  open_rb_of k (fun k' hk'=>ih k' (by omega)) hy hwy
 rw[rbCs_flat] at h1
 exact ⟨l,h1,smBs_of h2,h3⟩
theorem open_rb (fuel:Nat) {c:List Value} {y:DataW H×List MemPlace} (hy:DataW.trod enc prog w 0 (fun _=>true) true fuel erb c=some y) (hwy:(y.1.weights prog erb).all (·≤reachBytes)=true) :
  ∃ r:Rb,Go.Dv.Op prog 1 LL w (rbC r) c∧smB r=true:=open_rb_of fuel (fun k _=>open_rbs k) hy hwy
end
end
end Go.Proofs.YtgeakofgklcipaaDoor
namespace Go.Proofs.YtgeakofgklcipaaDoor
open _root_.Go.Proofs.Tryd (prog)
open Go Go.RowKit Go.Ev Go.Dv
noncomputable section
@[reducible] def witB:Value:=.agg ⟨[.int .i64 0,.int .i64 0,.int .i64 0,.slice none 0 0,.slice none 0 0]⟩
end
end Go.Proofs.YtgeakofgklcipaaDoor
