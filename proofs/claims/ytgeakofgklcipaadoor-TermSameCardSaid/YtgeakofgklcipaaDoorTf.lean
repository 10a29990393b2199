/-
  A part of the proof: what the program's functions hand back,as theorems. No condition but those that each theorem names.
-/
import Derived.Test.YtgeakofgklcipaaDoorTd
import Derived.Test.YtgeakofgklcipaaDoorTe
import Derived.Test.YtgeakofgklcipaaDoorTa
import Derived.Test.YtgeakofgklcipaaDoorTc
import Derived.Test.YtgeakofgklcipaaDoorExd
import Derived.Test.YtgeakofgklcipaaDoorTb
set_option linter.unusedSimpArgs false
set_option linter.unusedVariables false
namespace Go.Proofs.YtgeakofgklcipaaDoor
open _root_.Go.Proofs.Tryd (prog)
open Go Go.RowKit Go.Ev Go.Dv
noncomputable section
set_option maxRecDepth 100000
mutual
def gP (V Sk D:List (List UInt8)):Pr→Bool
 | .mk k n t e l=>decide (0≤k∧k<14∧(l.length:Int)=shL k)&&(decide (k=1→n≠[]∧nameF n=true∧(t=[]∨t∈V))&&(decide (k=2→t∈V)&&(decide (k=3∨k=4∨k=5∨k=6→n∈Sk)&&(decide (k=6→t∈Sk)&&(decide (k=13→n∈D)&&(decide (k=2∨k=9→kU V.length (lowE V e)=true)&&gPs V Sk D l))))))
def gPs (V Sk D:List (List UInt8)):List Pr→Bool
 | []=>true
 | x :: l=>gP V Sk D x&&gPs V Sk D l
end
theorem findF_in {l:List (List UInt8)} {s:List UInt8} (h:s∈l):0≤qD l s∧qD l s<l.length:=by
 have h1:=findF_mem h
 have h2:=findF_le l s
 omega
theorem right_given {v:Int}:∀ {e:Ex},kU v e=true→givenF e=true
 | .mk k n s l,h=>by
  have:k≠0:=by
   rintro rfl
   simp[kU] at h
  simp[givenF,Ex.k,this]
theorem zE_given:givenF (.mk 0 0 [] [])=false:=rfl
theorem W_id {a:Int} (h:-9223372036854775808≤a∧a≤9223372036854775807):W a=a:=by
 unfold W;simp only[IntKind.wrap_i64];omega
mutual
theorem sizeT_pos:∀ x:Tm,1≤kP x
 | .mk _ _ _ _ _ l=>by rw[kP];have:=sizeTs_pos l;omega
theorem sizeTs_pos:∀ l:List Tm,0≤qZ l
 | []=>by simp[qZ]
 | x :: l=>by rw[qZ];have:=sizeT_pos x;have:=sizeTs_pos l;omega
end
mutual
theorem wt_right (V Sk D:List (List UInt8)) (w:Int):∀ (x:Pr) (push:Bool) (n:Int),gP V Sk D x=true→0≤n→n+kP (bB V Sk D x)<4611686018427387904→
  rightT V.length Sk.length D.length push (wtF w push (bB V Sk D x) n).1=true∧n≤(wtF w push (bB V Sk D x) n).2∧(wtF w push (bB V Sk D x) n).2≤n+kP (bB V Sk D x)∧kP (wtF w push (bB V Sk D x) n).1≤kP (bB V Sk D x)
 | .mk k m t e l,push,n,hg,hn,hs=>by
  simp only[gP,Bool.and_eq_true,decide_eq_true_eq] at hg
  obtain ⟨⟨hk0,hk1,hll⟩,h1,h2,h3,h4,h5,h6,hgl⟩:=hg
  rw[bB] at hs ⊢
  rw[kP] at hs
  have hpos:=sizeTs_pos (kH V Sk D l)
  have ih:=fun q=>wt_rights V Sk D w l q n hgl hn (by omega)
  by_cases hk:k=1
  ·subst hk
   obtain rfl:l=[]:=by
    cases l with
    | nil=>rfl
    | cons x l=>simp[shL] at hll;omega
   obtain ⟨hm,hnm,ht⟩:=h1 rfl
   have hW:W (n+1)=n+1:=W_id (by omega)
   have hA:lowA V Sk D 1 m t = -1∨0≤lowA V Sk D 1 m t∧lowA V Sk D 1 m t<V.length:=by
    unfold lowA
    rw[if_pos rfl]
    split
    ·exact .inl rfl
    ·rename_i h
     exact .inr (findF_in (ht.resolve_left h))
   have hB:lowB Sk 1 t=0:=by simp[lowB]
   have hN:lowN 1 m=m:=by simp[lowN]
   have hX:lowX V 1 e=.mk 0 0 [] []:=by simp[lowX]
   rw[hB,hN,hX,kH,wtF,if_pos rfl]
   by_cases hc:(!push&&wtB w n)=true
   ·rw[if_pos hc]
    have hp:push=false:=by cases push<;>simp_all
    subst hp
    refine ⟨?_,by show n≤W (n+1);omega,by show W (n+1)≤_;rw[kP,qZ];omega,by simp[kP,qZ]⟩
    simp[rightT,rightTs,fitsF,shA,shB,shN,shE,shL,zE_given,hm,hnm,hn]
    omega
   ·rw[if_neg hc]
    refine ⟨?_,by show n≤W (n+1);omega,by show W (n+1)≤_;rw[kP,qZ];omega,by simp[wtL]⟩
    simp[wtL,rightT,rightTs,fitsF,shA,shB,shN,shE,shL,zE_given,hm,hnm]
    omega
  ·rw[wtF,if_neg hk]
   have ih':=ih (push || is3 k)
   have hwl:(wtL w (push || is3 k) (kH V Sk D l) n).1.length=l.length:=by rw[wtL_len,lowPs_map,List.length_map]
   refine ⟨?_,ih'.2.1,by rw[kP];have:=ih'.2.2.1;show (wtL w (push || is3 k) (kH V Sk D l) n).2≤_;omega,by rw[kP,kP];have:=ih'.2.2.2;omega⟩
   have ihr:=ih'.1
   generalize wtL w (push || is3 k) (kH V Sk D l) n=r at hwl ihr ⊢
   rw[rightT]
   have hz:(r.1.length:Int)=shL k:=by rw[hwl];exact hll
   have hN:lowN k m=[]:=by unfold lowN;rw[if_neg hk]
   rw[hN]
   have e14:¬ k=14:=by omega
   have e15:k<15:=by omega
   have i3:is3 k=decide (k=3):=rfl
   rw[i3] at ihr
   rw[ihr,hz]
   have fA:fitsF V.length Sk.length D.length (shA k) (lowA V Sk D k m t)=true:=by
    unfold fitsF shA lowA
    by_cases e2:k=2
    ·have:=findF_in (h2 e2)
     subst e2;simp;omega
    by_cases e3:k=3∨k=4∨k=5∨k=6
    ·have:=findF_in (h3 e3)
     rcases e3 with rfl|rfl|rfl|rfl<;>(simp;omega)
    by_cases e13:k=13
    ·have:=findF_in (h5 e13)
     subst e13;simp;omega
    ·simp only[not_or] at e3
     simp[hk,e2,e3,e13,e14]
   have fB:fitsF V.length Sk.length D.length (shB k) (lowB Sk k t)=true:=by
    unfold fitsF shB lowB
    by_cases e6:k=6
    ·have:=findF_in (h4 e6)
     subst e6;simp;omega
    ·simp[e6,e14]
   have fE:(if givenF (lowX V k e)=true then (1:Int) else 0)=shE k∧(!givenF (lowX V k e) || kU V.length (lowX V k e))=true:=by
    unfold lowX shE
    by_cases e2:k=2∨k=9
    ·rw[if_pos e2,if_pos e2]
     have:=h6 e2
     have hgv:=right_given this
     rw[hgv,this];simp
    ·rw[if_neg e2,if_neg e2]
     simp[zE_given]
   rw[fA,fB,fE.2]
   have fN:(0:Int)=shN k:=by unfold shN;rw[if_neg (by omega)]
   simp[fE.1,← fN,hk0,e15,e14]
theorem wt_rights (V Sk D:List (List UInt8)) (w:Int):∀ (l:List Pr) (push:Bool) (n:Int),gPs V Sk D l=true→0≤n→n+qZ (kH V Sk D l)<4611686018427387904→
  rightTs V.length Sk.length D.length push (wtL w push (kH V Sk D l) n).1=true∧n≤(wtL w push (kH V Sk D l) n).2∧(wtL w push (kH V Sk D l) n).2≤n+qZ (kH V Sk D l)∧qZ (wtL w push (kH V Sk D l) n).1≤qZ (kH V Sk D l)
 | [],push,n,hg,hn,hs=>by simp[kH,wtL,rightTs,qZ]
 | x :: l,push,n,hg,hn,hs=>by
  simp only[gPs,Bool.and_eq_true] at hg
  rw[kH,qZ] at hs
  have p1:=sizeT_pos (bB V Sk D x)
  have p2:=sizeTs_pos (kH V Sk D l)
  have i1:=wt_right V Sk D w x push n hg.1 hn (by omega)
  have i2:=wt_rights V Sk D w l push (wtF w push (bB V Sk D x) n).2 hg.2 (by omega) (by omega)
  rw[kH,wtL]
  refine ⟨?_,by show n≤(wtL w push (kH V Sk D l) (wtF w push (bB V Sk D x) n).2).2;omega,by rw[qZ];show (wtL w push (kH V Sk D l) (wtF w push (bB V Sk D x) n).2).2≤_;omega,by rw[qZ,qZ];omega⟩
  rw[rightTs,i1.1,i2.1];rfl
end
theorem low_mk (V:List (List UInt8)) (k n:Int) (s:List UInt8) (l:List Ex) (h:k≠2):lowE V (.mk k n s l)=.mk k n [] (lowEs V l):=by rw[lowE,if_neg h]
theorem rightF_num {v n:Int} (hn:0≤n):kU v (.mk 1 n [] [])=true:=by simp[kU,rightL,hn]
theorem part_right (n:Int) (l:List Ex) (i:Nat) (h:∀ x∈l,kU 3 (lowE jN x)=true):kU 3 (lowE jN (partF n l i))=true:=by
 unfold partF
 rw[List.getD_eq_getElem?_getD]
 cases hx:l[i]? with
 | none=>
  show kU 3 (lowE jN (.mk 1 _ [] []))=true
  rw[low_mk _ _ _ _ _ (by decide)]
  exact rightF_num (jX (by omega)).1
 | some x=>exact h x (List.mem_of_getElem? hx)
mutual
theorem mkF_right:∀ x:Ra,kU 3 (lowE jN (mkF jN x))=true
 | .mk k n l=>by
  have ih:=mkL_right l
  have hw:=jX (a:=k) (n:=24) (by omega)
  have hp:=part_right n (mkL jN l) 0 ih
  have hq:=part_right n (mkL jN l) 1 ih
  rw[mkF]
  by_cases h1:jK k 24<4
  ·rw[if_pos h1,low_mk _ _ _ _ _ (by decide)]
   refine rightF_num ?_
   have hn:=jX (a:=n) (n:=8) (by omega)
   obtain ⟨j,hj⟩:∃ j:Nat,jK n 8=j:=⟨(jK n 8).toNat,by omega⟩
   rw[hj,Int.toNat_natCast]
   have hj8:j<8:=by omega
   have:∀ j:Nat,j<8→0≤numsF.getD j 0:=by decide
   exact this j hj8
  rw[if_neg h1]
  by_cases h2:jK k 24<9
  ·rw[if_pos ⟨h2,by decide⟩,lowE,if_pos rfl]
   have hn:=jX (a:=n) (n:=3) (by omega)
   have hm:jN.getD (jK n jN.length).toNat []∈jN:=getD_mem (by show _<3;show (jK n 3).toNat<3;omega)
   have hf:=findF_in hm
   have h3:(jN.length:Int)=3:=rfl
   rw[h3] at hf
   simp only[lowEs]
   rw[h3]
   generalize qD jN (jN.getD (jK n 3).toNat [])=f at hf ⊢
   simp[kU,rightL,hf]
  rw[if_neg (fun h=>h2 h.1),if_neg h2]
  by_cases h3:jK k 24=9
  ·rw[if_pos h3,low_mk _ _ _ _ _ (by decide),lowEs,lowEs]
   simp[kU,rightL,hp]
  rw[if_neg h3]
  by_cases h4:jK k 24=10
  ·rw[if_pos h4,low_mk _ _ _ _ _ (by decide),lowEs,lowEs]
   simp[kU,rightL,hp]
  rw[if_neg h4,low_mk _ _ _ _ _ (by omega),lowEs,lowEs,lowEs]
  have a1:¬ (5+jK k 24-11=1):=by omega
  have a2:¬ (5+jK k 24-11=2):=by omega
  have a3:¬ (5+jK k 24-11=3):=by omega
  have a4:¬ (5+jK k 24-11=4):=by omega
  have a5:5≤5+jK k 24-11:=by omega
  have a6:5+jK k 24-11≤17:=by omega
  simp[kU,rightL,hp,hq,a1,a2,a3,a4,a5,a6]
theorem mkL_right:∀ (l:List Ra),∀ x∈mkL jN l,kU 3 (lowE jN x)=true
 | [],x,hx=>by simp[mkL] at hx
 | y :: l,x,hx=>by
  rw[mkL] at hx
  rcases List.mem_cons.1 hx with rfl|hx
  ·exact mkF_right y
  ·exact mkL_right l x hx
end
theorem first_right (l:List Ra):kU 3 (lowE jN (firstF jN l))=true:=by
 cases l with
 | nil=>decide
 | cons x l=>exact mkF_right x
theorem p_ite {α:Type} (P:α→Prop) {c:Prop} [Decidable c] {a b:α} (h1:P a) (h2:P b):P (if c then a else b):=by
 by_cases h:c
 ·rw[if_pos h];exact h1
 ·rw[if_neg h];exact h2
theorem gP_of {k:Int} {n t:List UInt8} {e:Ex} {l:List Pr} (h0:0≤k∧k<14∧(l.length:Int)=shL k) (h1:k=1→n≠[]∧nameF n=true∧(t=[]∨t∈jN)) (h2:k=2→t∈jN) (h3:k=3∨k=4∨k=5∨k=6→n∈jH) (h4:k=6→t∈jH) (h5:k=13→n∈qF) (h6:k=2∨k=9→kU 3 (lowE jN e)=true) (h7:∀ x∈l,gP jN jH qF x=true) :
  gP jN jH qF (.mk k n t e l)=true:=by
 have h8:gPs jN jH qF l=true:=by
  clear h0
  induction l with
  | nil=>rfl
  | cons x l ih=>simp only[gPs,Bool.and_eq_true];exact ⟨h7 x (by simp),ih fun y hy=>h7 y (by simp[hy])⟩
 simp only[gP,Bool.and_eq_true,decide_eq_true_eq,h8,and_true]
 exact ⟨h0,h1,h2,h3,h4,h5,h6⟩
theorem skip_good:gP jN jH qF jY=true:=by decide
theorem acts_name:∀ s∈actsF,s≠[]∧nameF s=true:=by
 intro s hs
 simp only[actsF,List.mem_cons,List.not_mem_nil,or_false] at hs
 rcases hs with rfl|rfl|rfl<;>exact ⟨by decide,by decide⟩
mutual
theorem mkP_good:∀ (x:Rb) (d:Nat),gP jN jH qF (mkP x d)=true
 | .mk k a b e l,d=>by
  have ih:=mkPs_good l (d+1)
  have hpart:∀ i,gP jN jH qF (if d<6 then (gU l (d+1)).getD i jY else jY)=true:=fun i=>by
   split
   ·rw[List.getD_eq_getElem?_getD]
    cases hx:(gU l (d+1))[i]? with
    | none=>exact skip_good
    | some x=>exact ih x (List.mem_of_getElem? hx)
   ·exact skip_good
  have hv:jN.getD (jK a 3).toNat []∈jN:=getD_mem (by have:=jX (a:=a) (n:=3) (by omega);show _<3;omega)
  have hs:jH.getD (jK a 2).toNat []∈jH:=getD_mem (by have:=jX (a:=a) (n:=2) (by omega);show _<2;omega)
  have hs2:jH.getD (jK b 2).toNat []∈jH:=getD_mem (by have:=jX (a:=b) (n:=2) (by omega);show _<2;omega)
  have hd:qF.getD (jK a 5).toNat []∈qF:=getD_mem (by have:=jX (a:=a) (n:=5) (by omega);show _<5;omega)
  have ha:=acts_name (actsF.getD (jK b 3).toNat []) (getD_mem (by have:=jX (a:=b) (n:=3) (by omega);show _<3;omega))
  have he:=first_right e
  have h1:∀ x∈[if d<6 then (gU l (d+1)).getD 0 jY else jY],gP jN jH qF x=true:=fun x hx=>by simp only[List.mem_singleton] at hx;subst hx;exact hpart 0
  have h2:∀ x∈[if d<6 then (gU l (d+1)).getD 0 jY else jY,if d<6 then (gU l (d+1)).getD 1 jY else jY],gP jN jH qF x=true:=fun x hx=>by
   simp only[List.mem_cons,List.not_mem_nil,or_false] at hx
   rcases hx with rfl|rfl
   ·exact hpart 0
   ·exact hpart 1
  rw[mkP]
  generalize (if d<6 then (gU l (d+1)).getD 0 jY else jY)=pa at *
  generalize (if d<6 then (gU l (d+1)).getD 1 jY else jY)=pb at *
  generalize jN.getD (jK a 3).toNat []=v at *
  generalize jH.getD (jK a 2).toNat []=s at *
  generalize jH.getD (jK b 2).toNat []=s2 at *
  generalize qF.getD (jK a 5).toNat []=df at *
  generalize actsF.getD (jK b 3).toNat []=ac at *
  generalize firstF jN e=ee at *
  repeat' refine p_ite (fun y=>gP jN jH qF y=true) ?_ ?_
  all_goals first
   | exact skip_good
   | exact gP_of (by simp[shL]) (by first | (intro h;exact ⟨ha.1,ha.2,.inl rfl⟩) | (intro h;exact ⟨ha.1,ha.2,.inr hv⟩) | (intro h;omega)) (by first | exact fun _=>hv | (intro h;omega)) (by first | exact fun _=>hs | (intro h;omega)) (by first | exact fun _=>hs2 | (intro h;omega)) (by first | exact fun _=>hd | (intro h;omega)) (by first | exact fun _=>he | (intro h;omega)) (by first | exact h1 | exact h2 | simp)
theorem mkPs_good:∀ (l:List Rb) (d:Nat),∀ x∈gU l d,gP jN jH qF x=true
 | [],d,x,hx=>by simp[gU] at hx
 | y :: l,d,x,hx=>by
  rw[gU] at hx
  rcases List.mem_cons.1 hx with rfl|hx
  ·exact mkP_good y d
  ·exact mkPs_good l d x hx
end
abbrev szP (x:Pr):Int:=kP (bB jN jH qF x)
theorem szP_0 (k:Int) (n t:List UInt8) (e:Ex):szP (.mk k n t e [])=1:=by simp[szP,bB,kH,kP,qZ]
theorem szP_1 (k:Int) (n t:List UInt8) (e:Ex) (x:Pr):szP (.mk k n t e [x])=1+szP x:=by simp[szP,bB,kH,kP,qZ]
theorem szP_2 (k:Int) (n t:List UInt8) (e:Ex) (x y:Pr):szP (.mk k n t e [x,y])=1+(szP x+szP y):=by simp[szP,bB,kH,kP,qZ]
theorem szP_s:szP jY=1:=szP_0 ..
def p2:Nat→Int
 | 0=>256
 | 1=>128
 | 2=>64
 | 3=>32
 | 4=>16
 | 5=>8
 | 6=>4
 | _=>2
theorem p2_s {d:Nat} (h:d≤6):p2 d=2*p2 (d+1)∧2≤p2 (d+1):=by
 obtain rfl|rfl|rfl|rfl|rfl|rfl|rfl:d=0∨d=1∨d=2∨d=3∨d=4∨d=5∨d=6:=by omega
 all_goals decide
mutual
theorem mkP_size:∀ (x:Rb) (d:Nat),d≤6→szP (mkP x d)+1≤p2 d
 | .mk k a b e l,d,hd=>by
  obtain ⟨q1,q2⟩:=p2_s hd
  have hpart:∀ i,szP (if d<6 then (gU l (d+1)).getD i jY else jY)+1≤p2 (d+1):=fun i=>by
   by_cases h6:d<6
   ·rw[if_pos h6,List.getD_eq_getElem?_getD]
    cases hx:(gU l (d+1))[i]? with
    | none=>show szP jY+1≤_;rw[szP_s];omega
    | some x=>exact mkPs_size l (d+1) (by omega) x (List.mem_of_getElem? hx)
   ·rw[if_neg h6,szP_s];omega
  have ha:=hpart 0
  have hb:=hpart 1
  rw[mkP]
  generalize (if d<6 then (gU l (d+1)).getD 0 jY else jY)=pa at *
  generalize (if d<6 then (gU l (d+1)).getD 1 jY else jY)=pb at *
  have:=sizeT_pos (bB jN jH qF pa)
  have:=sizeT_pos (bB jN jH qF pb)
  repeat' refine p_ite (fun y=>szP y+1≤p2 d) ?_ ?_
  all_goals first
   | (rw[szP_s];omega)
   | (rw[szP_0];omega)
   | (rw[szP_1];omega)
   | (rw[szP_2];omega)
theorem mkPs_size:∀ (l:List Rb) (d:Nat),d≤6→∀ x∈gU l d,szP x+1≤p2 d
 | [],d,hd,x,hx=>by simp[gU] at hx
 | y :: l,d,hd,x,hx=>by
  rw[gU] at hx
  rcases List.mem_cons.1 hx with rfl|hx
  ·exact mkP_size y d hd
  ·exact mkPs_size l d hd x hx
end
def goodT (y:Tm):Prop:=smT y=true∧rightT 3 2 5 false y=true∧kP y≤255
theorem made_good {y:Tm} {w:Int} {r:Rb} (hs:smT y=true) (h:y=askT∨y=madeT w r):goodT y:=by
 rcases h with rfl|rfl
 ·exact ⟨rfl,by decide,by decide⟩
 ·have h1:=mkP_size r 0 (by omega)
  have h2:kP (bB jN jH qF (mkP r 0))+1≤256:=h1
  have h3:=wt_right jN jH qF w (mkP r 0) false 0 (mkP_good r 0) (by omega) (by omega)
  exact ⟨hs,h3.1,by unfold madeT;omega⟩
end
end Go.Proofs.YtgeakofgklcipaaDoor
namespace Go.Proofs.YtgeakofgklcipaaDoor
open _root_.Go.Proofs.Tryd (prog)
open Go Go.RowKit Go.Ev Go.Dv
noncomputable section
set_option maxRecDepth 100000
variable (G:Nat×Nat)
theorem rowT0 (σ:jA):bsD (qq.m 32) (slT prog 32) 0 [] σ=some (.slice (some ⟨σ.next,0,none⟩) 0 0,σ.add (O [] etm false)):=by kernel_rfl
theorem row6 (c x:Int) (σ:jA):bsD (qq.m 42) (slT prog 42) 6 [(0,.int .i64 (-2)),(1,.int .i64 (-1)),(2,.int .i64 0),(3,.int .i64 2),(4,.int .i64 c),(5,.int .i64 x)] σ=some (Rw true eI 6 (ivs [-2,-1,0,2,c,x]),σ):=by kernel_rfl
theorem row5n (σ:jA):bsD (qq.m 54) (slT prog 54) 5 [(0,.string (Tx [])),(1,.string (Tx [112,97,121])),(2,.string (Tx [100,111])),(3,.string (Tx [97,32,98])),(4,.string (Tx [80,97,121]))] σ=some (Rw true eS 5 (nss [[],[112,97,121],[100,111],[97,32,98],[80,97,121]]),σ):=by kernel_rfl
theorem rowTx (k a b:Int) (s:List UInt8) (e:Ex) (l:List Tm) (σ:jA):bsD (qq.m 32) (slT prog 32) 1 [(0,.agg ⟨[.int .i64 k,.int .i64 a,.int .i64 b,.string (Tx s),.int .i64 e.k,.int .i64 e.n,.string (Tx e.s),Rw false eE e.l.length (kG e.l),Rw false etm l.length (qR l)]⟩)] σ=some (Rw true etm 1 (qR [.mk k a b s e l]),σ):=rowT1 (.mk k a b s e l) σ
def waC:List Value:=[.int .i64 14,.int .i64 0,.int .i64 (-1),.string (Tx [112,97,121]),.int .i64 0,.int .i64 0,.string (Tx []),.slice none 0 0,.slice none 0 0]
theorem rowW (σ:jA):bsD (qq.m 32) (slT prog 32) 1 [(0,.agg ⟨[.int .i64 14,.int .i64 0,.int .i64 (-1),.string (Tx [112,97,121]),.int .i64 0,.int .i64 0,.string (Tx []),.slice none 0 0,.slice none 0 0]⟩)] σ=some (Rw true etm 1 waC,σ):=by kernel_rfl
theorem own_newT {σ:jA} (hlo:σ.lo=1) (hnx:σ.next=3) (l:List Tm) (hl:l.length<1000000) :
  ∃ a c σ',apS etm 9 120 (.slice (some ⟨3,0,none⟩) 0 0) (some (l.length,qR l)) (σ.add (O [] etm false))=some (.slice a l.length c,σ')∧qL σ' etm 9 a l.length c (qR l)∧σ'.lo=1∧4≤σ'.next∧(∀ i,i<3→∀ x,cells σ i=some x→cells σ' i=some x)∧(∀ k,blk a k→3≤k):=by
 have h0:qL (σ.add (O [] etm false)) etm 9 (some ⟨σ.next,0,none⟩) 0 0 []:=⟨rfl,rfl,.inr ⟨σ.next,false,rfl,by rw[uT];omega,by rw[jU];omega,cells_add_s _ _ _ _ rfl,.inr ⟨rfl,rfl⟩⟩⟩
 obtain ⟨a1,c1,σ1,e1,o1,g1,b1⟩:=kZ (by_:=120) h0 (by omega) (by rw[uT,jU];omega) (m:=l.length) (xs:=qR l) (gW l) (tmCs_one l) (by omega)
 rw[Nat.zero_add,List.nil_append] at o1
 rw[Nat.zero_add,hnx] at e1
 have hn1:4≤σ1.next:=by have:=g1.next;rw[jU] at this;omega
 refine ⟨a1,c1,σ1,e1,o1,by rw[g1.lo,uT,hlo],hn1,fun i hi x hx=>?_,fun k hk=>?_⟩
 ·exact g1.cellsE (by rw[cells_add_n _ _ (by omega)];exact hx) (by rw[jU];omega) fun ⟨o,s,e⟩=>by cases e;omega
 ·rcases b1 k hk with ⟨o,s,e⟩|hb
  ·cases e;omega
  ·rw[jU] at hb;omega
theorem tmCs_tail (l:List Tm):(qR l).drop 9=qR l.tail:=by
 cases l with
 | nil=>rfl
 | cons x l=>rw[qR,List.tail_cons];exact List.drop_left' (tmC_len x)
theorem sizeTs_len:∀ l:List Tm,(l.length:Int)≤qZ l∧0≤qZ l
 | []=>by simp[qZ]
 | .mk k a b s e m :: l=>by
  have h1:=sizeTs_len l
  have h2:=(sizeTs_len m).2
  rw[qZ,kP,List.length_cons];omega
theorem sizeTs_mem:∀ {l:List Tm} {x:Tm},x∈l→kP x≤qZ l
 | .mk k a b s e m :: l,x,h=>by
  have h1:=(sizeTs_len l).2
  have h2:=(sizeTs_len m).2
  rcases List.mem_cons.1 h with rfl|h
  ·rw[qZ];omega
  ·have:=sizeTs_mem h
   rw[qZ,kP];omega
theorem smTs_set {l:List Tm} {y:Tm} (h:smTs l=true) (hy:smT y=true) (t:Nat):smTs (l.set t y)=true:=by
 induction l generalizing t with
 | nil=>rfl
 | cons x l ih=>
  rw[smTs,Bool.and_eq_true] at h
  cases t with
  | zero=>rw[List.set_cons_zero,smTs,hy,h.2];rfl
  | succ t=>rw[List.set_cons_succ,smTs,h.1,ih h.2];rfl
theorem smTs_tail {l:List Tm} (h:smTs l=true):smTs l.tail=true:=by
 cases l with
 | nil=>rfl
 | cons x l=>rw[smTs,Bool.and_eq_true] at h;exact h.2
theorem tmr_fz {P:Program} {N:Nat} {σ:jA} (hN:0<N) (k a b:Int) (s:List UInt8) (e:Ex) {r:Value} {l:List Tm} (hr:FzV P N σ r (Rw false etm l.length (qR l))):FzV P N σ (.agg ⟨[.int .i64 k,.int .i64 a,.int .i64 b,.string (Tx s),.int .i64 e.k,.int .i64 e.n,.string (Tx e.s),Rw false eE e.l.length (kG e.l),r]⟩) (tmV (.mk k a b s e l)):=
 .agg (.cons (.id rfl) (.cons (.id rfl) (.cons (.id rfl) (.cons (.id rfl) (.cons (.id rfl) (.cons (.id rfl) (.cons (.id rfl) (.cons (.row (.ids (exCs_sc _ hN _))) (.cons hr .nil)))))))))
def wT:Tm:=.mk 14 0 (-1) [112,97,121] (.mk 0 0 [] []) []
theorem wa_fz (N:Nat) (σ:jA):FzL (pp G).P N σ waC (tmC wT):=
 .cons (.id rfl) (.cons (.id rfl) (.cons (.id rfl) (.cons (.id rfl) (.cons (.id rfl) (.cons (.id rfl) (.cons (.id rfl) (.cons (.nil (size:=4) rfl (by decide)) (.cons (.nil (size:=9) rfl (by decide)) .nil))))))))
def SpT (d:Value):Prop:=∃ y:Tm,d=tmV y∧smT y=true
theorem spoilt_t (w v:Int):∀ (x:Tm) (at_:Int),smT x=true→kP x≤255→qV (pp G) H0 14 [tmV x,.int .i64 w,.int .i64 v,.int .i64 at_] SpT
 | .mk k a b s e l,at_,hs,hz=>by
  simp only[smT,Bool.and_eq_true,decide_eq_true_eq] at hs
  obtain ⟨⟨hl0,hse⟩,hsl⟩:=hs
  rw[kP] at hz
  have hll:=(sizeTs_len l).1
  have ih:∀ x∈l,∀ a,qV (pp G) H0 14 [tmV x,.int .i64 w,.int .i64 v,.int .i64 a] SpT:=fun x hx a=>spoilt_t w v x a (smTs_all hsl x hx) (by have:=sizeTs_mem hx;omega)
  have hsx:∀ {k a b:Int} {s:List UInt8},smT (.mk k a b s e l)=true:=by
   intro k a b s
   simp only[smT,Bool.and_eq_true,decide_eq_true_eq];exact ⟨⟨by omega,hse⟩,hsl⟩
  have hlo:H0.lo≤H0.next:=Nat.le_refl _;refine qV.cut (jL.fir4 (q:=qq) (jW G) fir14 (by kernel_rfl) rfl rfl (F113_arr ..) (show NGG≤H0.lo by rw[uY];decide) ?_);rw[sd_ir14]
  have hN:0<H0.next:=by rw[gO];decide
  have hz4:(4:Int)≠0:=by decide
  have hz9:(9:Int)≠0:=by decide
  by_cases h12:(0:Int)<l.length∧0<jK at_ 4
  ·obtain ⟨h1,h2⟩:=h12
   simp(disch:=first|omega|(apply id;simp only[push_cast];try omega))only[push_cast,simprocAttr,h1]
   refine jC.dataI (kO G at_ 4 (by omega) (by omega)) (by and_intros<;>first|rfl|(simp(disch:=first|omega|(apply id;simp only[push_cast];try omega))only[push_cast])) ?_
   simp(disch:=first|omega|(apply id;simp only[push_cast];try omega))only[push_cast,simprocAttr,h2,↓rowT0]
   obtain ⟨a1,c1,σ1,e1,o1,hl1,hn1,hk1,hb1⟩:=own_newT (σ:=(H0.add (O [.int .i64 k,.int .i64 a,.int .i64 b,.string (Tx s),.int .i64 e.k,.int .i64 e.n,.string (Tx e.s),Rw false eE e.l.length (kG e.l),Rw false etm l.length (qR l)] etm false)).add (O ztm etm false)) (by simp(disch:=first|omega|(apply id;simp only[push_cast];try omega))only[push_cast,simprocAttr]) (by simp(disch:=first|omega|(apply id;simp only[push_cast];try omega))only[push_cast,simprocAttr]) l (by omega)
   have c6:=hk1 1 (by omega) (tmC (.mk k a b s e l),etm,false) (by simp(disch:=first|omega|(apply id;simp only[push_cast];try omega))only[push_cast,simprocAttr];first|done|rfl)
   have c7:=hk1 2 (by omega) (ztm,etm,false) (by simp(disch:=first|omega|(apply id;simp only[push_cast];try omega))only[push_cast,simprocAttr];first|done|rfl)
   unfold ztm at *
   rw[tmC_mk] at c6
   clear hk1
   rcases o1.hat with ⟨_,h0,_⟩|⟨bq,m,rfl,q1,q2,q3,q4⟩
   ·omega
   have hb8:=hb1 bq ⟨0,none,rfl⟩
   have hlp:(0:Int)<l.length:=h1
   have hkr:=jX (a:=IntKind.i64.wrap (at_.tdiv 4)) hlp
   simp(disch:=first|omega|(apply id;simp only[push_cast];try omega))only[push_cast,simprocAttr,e1,b_quo hz4,b_quo hz9]
   refine jC.dataI (kO G (IntKind.i64.wrap (at_.tdiv 4)) l.length (by omega) (by omega)) (by and_intros<;>first|rfl|(simp(disch:=first|omega|(apply id;simp only[push_cast];try omega))only[push_cast])) ?_
   generalize jK (IntKind.i64.wrap (at_.tdiv 4)) l.length=kk' at hkr
   obtain ⟨t,rfl⟩:∃ t:Nat,kk'=(t:Int):=⟨kk'.toNat,by omega⟩
   obtain ⟨x,hx⟩:=qC (l:=l) (i:=t) (by omega)
   have hxm:=List.mem_of_getElem? hx
   have hp:=tmCs_take hx
   have hle:t*9+9≤l.length*9:=by omega
   have hlt:(t:Int)<l.length:=by omega
   have hlen4:(qR l).length=l.length*9:=gW l
   simp(disch:=first|omega|(apply id;simp only[push_cast];try omega))only[push_cast,simprocAttr,hlt,q3,hl1,hp,hle,hlen4,b_quo hz9,Int.toNat_natCast]
   refine jC.dataEI (ih x hxm _) (by and_intros<;>first|rfl|(simp(disch:=first|omega|(apply id;simp only[push_cast];try omega))only[push_cast])) ?_
   rintro d ⟨y,rfl,hy⟩
   refine ⟨tmV_sc _ (by omega) y,?_⟩
   have hset:=tmCs_set (l:=l) (i:=t) y (by omega)
   simp(disch:=first|omega|(apply id;simp only[push_cast];try omega))only[push_cast,simprocAttr,c6,c7,q3,hl1,hlen4,hle,hlt,hset,Int.toNat_natCast]
   have hll':(l.set t y).length=l.length:=List.length_set
   refine ⟨tmV (.mk k a b s e (l.set t y)),⟨_,rfl,?_⟩,tmr_fz hN k a b s e ?_⟩
   ·simp only[smT,Bool.and_eq_true,decide_eq_true_eq,hll'];exact ⟨⟨by omega,hse⟩,smTs_set hsl hy t⟩
   ·rw[hll']
    refine qL.fz ?_ rfl (by decide) (by omega) (.ids (bI _ hN _)) (fun b' hb'=>by have:=hb1 b' hb';rw[gO];omega)
    exact ⟨by rw[gW,hll'];rfl,tmCs_one _,.inr ⟨bq,m,rfl,by simp(disch:=first|omega|(apply id;simp only[push_cast];try omega))only[push_cast,simprocAttr];omega,by simp(disch:=first|omega|(apply id;simp only[push_cast];try omega))only[push_cast,simprocAttr];omega,by simp(disch:=first|omega|(apply id;simp only[push_cast];try omega))only[push_cast,simprocAttr],q4⟩⟩
  ·have hor:¬ (0:Int)<l.length∨((0:Int)<l.length∧¬ 0<jK at_ 4):=by omega
   rcases hor with h1|⟨h1,h2⟩
   case' inl=>simp(disch:=first|omega|(apply id;simp only[push_cast];try omega))only[push_cast,simprocAttr,h1]
   case' inr=>
    simp(disch:=first|omega|(apply id;simp only[push_cast];try omega))only[push_cast,simprocAttr,h1]
    refine jC.dataI (kO G at_ 4 (by omega) (by omega)) (by and_intros<;>first|rfl|(simp(disch:=first|omega|(apply id;simp only[push_cast];try omega))only[push_cast])) ?_
    simp(disch:=first|omega|(apply id;simp only[push_cast];try omega))only[push_cast,simprocAttr,h2]
   all_goals
    refine jC.dataI (kO G w 8 (by omega) (by omega)) (by and_intros<;>first|rfl|(simp(disch:=first|omega|(apply id;simp only[push_cast];try omega))only[push_cast])) ?_
    have hw5:=jX (a:=w) (n:=8) (by omega)
    generalize jK w 8=u at hw5
    obtain rfl|rfl|rfl|rfl|rfl|rfl|rfl|rfl:u=0∨u=1∨u=2∨u=3∨u=4∨u=5∨u=6∨u=7:=by omega
    ·simp(disch:=first|omega|(apply id;simp only[push_cast];try omega))only[push_cast,simprocAttr]
     refine jC.dataI (kO G v 17 (by omega) (by omega)) (by and_intros<;>first|rfl|(simp(disch:=first|omega|(apply id;simp only[push_cast];try omega))only[push_cast])) ?_
     simp(disch:=first|omega|(apply id;simp only[push_cast];try omega))only[push_cast,simprocAttr]
     exact ⟨_,⟨.mk _ a b s e l,rfl,hsx⟩,.id (tmV_sc _ hN (.mk _ _ _ _ e l))⟩
    ·simp(disch:=first|omega|(apply id;simp only[push_cast];try omega))only[push_cast,simprocAttr,↓row6]
     refine jC.dataI (kO G v 6 (by omega) (by omega)) (by and_intros<;>first|rfl|(simp(disch:=first|omega|(apply id;simp only[push_cast];try omega))only[push_cast])) ?_
     have hv5:=jX (a:=v) (n:=6) (by omega)
     generalize jK v 6=u at hv5
     obtain rfl|rfl|rfl|rfl|rfl|rfl:u=0∨u=1∨u=2∨u=3∨u=4∨u=5:=by omega
     all_goals
      simp(disch:=first|omega|(apply id;simp only[push_cast];try omega))only[push_cast,simprocAttr]
      exact ⟨_,⟨.mk k _ b s e l,rfl,hsx⟩,.id (tmV_sc _ hN (.mk _ _ _ _ e l))⟩
    ·simp(disch:=first|omega|(apply id;simp only[push_cast];try omega))only[push_cast,simprocAttr,↓row6]
     refine jC.dataI (kO G v 6 (by omega) (by omega)) (by and_intros<;>first|rfl|(simp(disch:=first|omega|(apply id;simp only[push_cast];try omega))only[push_cast])) ?_
     have hv5:=jX (a:=v) (n:=6) (by omega)
     generalize jK v 6=u at hv5
     obtain rfl|rfl|rfl|rfl|rfl|rfl:u=0∨u=1∨u=2∨u=3∨u=4∨u=5:=by omega
     all_goals
      simp(disch:=first|omega|(apply id;simp only[push_cast];try omega))only[push_cast,simprocAttr]
      exact ⟨_,⟨.mk k a _ s e l,rfl,hsx⟩,.id (tmV_sc _ hN (.mk _ _ _ _ e l))⟩
    ·simp(disch:=first|omega|(apply id;simp only[push_cast];try omega))only[push_cast,simprocAttr,↓row5n]
     refine jC.dataI (kO G v 5 (by omega) (by omega)) (by and_intros<;>first|rfl|(simp(disch:=first|omega|(apply id;simp only[push_cast];try omega))only[push_cast])) ?_
     have hv5:=jX (a:=v) (n:=5) (by omega)
     generalize jK v 5=u at hv5
     obtain rfl|rfl|rfl|rfl|rfl:u=0∨u=1∨u=2∨u=3∨u=4:=by omega
     all_goals
      simp(disch:=first|omega|(apply id;simp only[push_cast];try omega))only[push_cast,simprocAttr]
      exact ⟨_,⟨.mk k a b _ e l,rfl,hsx⟩,.id (tmV_sc _ hN (.mk _ _ _ _ e l))⟩
    ·simp(disch:=first|omega|(apply id;simp only[push_cast];try omega))only[push_cast,simprocAttr]
     refine jC.dataI (kO G v 4 (by omega) (by omega)) (by and_intros<;>first|rfl|(simp(disch:=first|omega|(apply id;simp only[push_cast];try omega))only[push_cast])) ?_
     simp(disch:=first|omega|(apply id;simp only[push_cast];try omega))only[push_cast,simprocAttr,b_quo hz4]
     refine jC.dataI (kO G (IntKind.i64.wrap (v.tdiv 4)) 5 (by omega) (by omega)) (by and_intros<;>first|rfl|(simp(disch:=first|omega|(apply id;simp only[push_cast];try omega))only[push_cast])) ?_
     simp(disch:=first|omega|(apply id;simp only[push_cast];try omega))only[push_cast,simprocAttr]
     exact ⟨_,⟨.mk k a b s (.mk _ _ [] []) l,rfl,by simp only[smT,Bool.and_eq_true,decide_eq_true_eq];exact ⟨⟨by omega,rfl⟩,hsl⟩⟩,.agg (.cons (.id rfl) (.cons (.id rfl) (.cons (.id rfl) (.cons (.id rfl) (.cons (.id rfl) (.cons (.id rfl) (.cons (.id rfl) (.cons (.nil (size:=4) rfl (by decide)) (.cons (.row (.ids (bI _ hN _))) .nil)))))))))⟩
    ·simp(disch:=first|omega|(apply id;simp only[push_cast];try omega))only[push_cast,simprocAttr,↓rowT0]
     obtain ⟨a1,c1,σ1,e1,o1,hl1,hn1,hk1,hb1⟩:=own_newT (σ:=(H0.add (O [.int .i64 k,.int .i64 a,.int .i64 b,.string (Tx s),.int .i64 e.k,.int .i64 e.n,.string (Tx e.s),Rw false eE e.l.length (kG e.l),Rw false etm l.length (qR l)] etm false)).add (O ztm etm false)) (by simp(disch:=first|omega|(apply id;simp only[push_cast];try omega))only[push_cast,simprocAttr]) (by simp(disch:=first|omega|(apply id;simp only[push_cast];try omega))only[push_cast,simprocAttr]) l (by omega)
     have c6:=hk1 1 (by omega) (tmC (.mk k a b s e l),etm,false) (by simp(disch:=first|omega|(apply id;simp only[push_cast];try omega))only[push_cast,simprocAttr];first|done|rfl)
     have c7:=hk1 2 (by omega) (ztm,etm,false) (by simp(disch:=first|omega|(apply id;simp only[push_cast];try omega))only[push_cast,simprocAttr];first|done|rfl)
     unfold ztm at *
     rw[tmC_mk] at c6
     clear hk1
     obtain ⟨a2,c2,σ2,e2,o2,g2,b2⟩:=kZ (by_:=120) o1 (by omega) (by omega) (m:=1) (xs:=waC) rfl rfl (by omega)
     have k6:cells σ2 1=_:=g2.cellsE c6 (by omega) (fun hb=>by have:=hb1 _ hb;omega)
     have k7:cells σ2 2=_:=g2.cellsE c7 (by omega) (fun hb=>by have:=hb1 _ hb;omega)
     have hl2':σ2.lo=1:=by rw[g2.lo,hl1]
     have hn2:=g2.next
     have hw1:waC.length=9:=rfl
     have hw2:waC.all one=true:=rfl
     have hw3:waC.take 9=waC:=rfl
     simp(disch:=first|omega|(apply id;simp only[push_cast];try omega))only[push_cast,simprocAttr,e1,↓rowW,hw1,hw2,hw3,e2,k6,k7,hl2']
     have hll':(l++[wT]).length=l.length+1:=List.length_append
     refine ⟨tmV (.mk k a b s e (l++[wT])),⟨_,rfl,?_⟩,tmr_fz hN k a b s e ?_⟩
     ·simp only[smT,Bool.and_eq_true,decide_eq_true_eq,hll'];exact ⟨⟨by omega,hse⟩,smTs_app hsl rfl⟩
     ·rw[hll',tmCs_app]
      have hb2:∀ b',blk a2 b'→3≤b':=fun b' hb'=>(b2 b' hb').elim (hb1 b') fun h=>by omega
      refine qL.fz (o2.grew (S:=fun k=>k=1∨k=2) ((jF.put _ 1 _ fun _=>.inl rfl).trans (jF.put _ 2 _ fun _=>.inr rfl) fun _ _ h=>h) (fun b hb e=>by have:=hb2 b hb;omega)) rfl (by decide) (by omega) ?_ (fun b' hb'=>by have:=hb2 b' hb';rw[gO];omega)
      exact (FzL.ids (bI _ hN _)).app (by rw[show qR [wT]=tmC wT from List.append_nil _];exact wa_fz G _ _)
    ·by_cases h0:(0:Int)<l.length
     ·first|exact absurd h0 h1|(simp(disch:=first|omega|(apply id;simp only[push_cast];try omega))only[push_cast,simprocAttr,h0];have ht1:l.length-1=l.tail.length:=List.length_tail.symm;rw[tmCs_tail,ht1];exact ⟨tmV (.mk k a b s e l.tail),⟨_,rfl,by simp only[smT,Bool.and_eq_true,decide_eq_true_eq];exact ⟨⟨by omega,hse⟩,smTs_tail hsl⟩⟩,.id (tmV_sc 1 (by decide) (.mk k a b s e l.tail))⟩)
     ·first|exact absurd h1 h0|(simp(disch:=first|omega|(apply id;simp only[push_cast];try omega))only[push_cast,simprocAttr,h0];exact ⟨_,⟨.mk k a b s e l,rfl,hsx⟩,.id (tmV_sc _ hN (.mk _ _ _ _ e l))⟩)
    ·simp(disch:=first|omega|(apply id;simp only[push_cast];try omega))only[push_cast,simprocAttr,↓rowTx]
     exact ⟨_,⟨.mk _ 0 0 [] zE [.mk k a b s e l],rfl,by simp[smT,smTs,zE,smE,smEs];exact ⟨⟨by omega,hse⟩,hsl⟩⟩,tmz_fz rfl _ 0 0 [] (l:=[.mk k a b s e l]) rfl (.ids (bI _ hN _))⟩
theorem few_fz (N:Nat) (hN:0<N) (σ:jA) (l:List Rb):FzL (pp G).P N σ [.agg ⟨[.int .i64 0,.int .i64 0,Rw true erb l.length (rbCs l)]⟩] [shV 0 0 l]:=
 .cons (.agg (.cons (.id rfl) (.cons (.id rfl) (.cons (.row (.ids (rbCs_sc _ hN _))) .nil)))) .nil
mutual
theorem sameEr:∀ x:Ex,gQ x x=true
 | .mk k n s l=>by simp[gQ,sameErs l]
theorem sameErs:∀ l:List Ex,gS l l=true
 | []=>rfl
 | x :: l=>by simp[gS,sameEr x,sameErs l]
end
mutual
theorem sameTr:∀ x:Tm,sameT x x=true
 | .mk k a b s e l=>by simp[sameT,sameEr e,sameTrs l]
theorem sameTrs:∀ l:List Tm,gR l l=true
 | []=>rfl
 | x :: l=>by simp[gR,sameTr x,sameTrs l]
end
theorem made_size {w:Int} {r:Rb} (hs:smT (made5 w r)=true):kP (made5 w r)≤255:=by
 refine (made_good hs (w:=w) (r:=r) ?_).2.2
 unfold made5
 split
 ·exact .inr rfl
 ·exact .inl rfl
theorem same_s0 (w v at_:Int) {a:Tm} (ha:smT a=true) (hz:kP a≤255) (h:jA) (p q:Nat) (ca:cells h p=some (tmC a,etm,false)) (cb:cells h q=some (tmC a,etm,false)) (hl1:h.lo=1) (hp1:1≤p) (hq1:1≤q) (hp2:p<h.next) (hq2:q<h.next) {x0 x1 x5 x6 x7 x8 x9 xA xB xC xD xE xF xG xH xI xJ xK xL xM xN xO xP xQ xR xS xT xU xV xW xX xY xZ yA yB yC yD yE yF yG yH yI yJ yK yL yM yN yO:Value} :
  dc3 (pp G) qq none bC ⟨(F53 x0 x1 (.int .i64 w) (.int .i64 v) (.int .i64 at_) x5 x6 x7 x8 x9 xA (.pointer (some ⟨p,0,none⟩)) (.pointer (some ⟨q,0,none⟩)) xB xC xD xE xF xG xH xI xJ xK xL xM xN xO xP xQ xR xS xT xU xV xW xX xY xZ yA yB yC yD yE yF yG yH yI yJ yK yL yM yN yO),[],h⟩ (@kR ⟨jG prog [.tmp 10] (fun v' σ'=>FzV prog 1 σ' v' (.bool true))⟩):=by
 rw[sd_ir8_s0]
 have hpn:¬ p=h.next:=by omega
 have hqn:¬ q=h.next:=by omega
 simp(disch:=first|omega|(apply id;simp only[push_cast];try omega))only[push_cast,simprocAttr,cb,hl1]
 refine jC.dataEI (spoilt_t G w v a at_ ha hz) (by and_intros<;>first|rfl|(simp(disch:=first|omega|(apply id;simp only[push_cast];try omega))only[push_cast])) ?_
 rintro _ ⟨x,rfl,hx⟩
 refine ⟨by simp(disch:=first|omega|(apply id;simp only[push_cast];try omega))only[push_cast,simprocAttr];first|done|rfl,?_⟩
 simp(disch:=first|omega|(apply id;simp only[push_cast];try omega))only[push_cast,simprocAttr,ca,cb,hl1,hpn,hqn]
 refine jC.dataI (samet_t G a a ha ha) (by and_intros<;>first|rfl|(simp(disch:=first|omega|(apply id;simp only[push_cast];try omega))only[push_cast])) ?_
 rw[sameTr]
 simp(disch:=first|omega|(apply id;simp only[push_cast];try omega))only[push_cast,simprocAttr,ca,cb,hl1,hpn,hqn]
 refine jC.dataI (samet_t G a x ha hx) (by and_intros<;>first|rfl|(simp(disch:=first|omega|(apply id;simp only[push_cast];try omega))only[push_cast])) ?_
 simp(disch:=first|omega|(apply id;simp only[push_cast];try omega))only[push_cast,simprocAttr,ca,cb,hl1,hpn,hqn]
 refine jC.dataI (same_t G a x ha hx) (by and_intros<;>first|rfl|(simp(disch:=first|omega|(apply id;simp only[push_cast];try omega))only[push_cast])) ?_
 simp(disch:=first|omega|(apply id;simp only[push_cast];try omega))only[push_cast,simprocAttr,beq_self_eq_true,ca,cb,hl1,hpn,hqn]
 refine jC.dataI (samet_t G x a hx ha) (by and_intros<;>first|rfl|(simp(disch:=first|omega|(apply id;simp only[push_cast];try omega))only[push_cast])) ?_
 simp(disch:=first|omega|(apply id;simp only[push_cast];try omega))only[push_cast,simprocAttr,ca,cb,hl1,hpn,hqn]
 refine jC.dataI (same_t G x a hx ha) (by and_intros<;>first|rfl|(simp(disch:=first|omega|(apply id;simp only[push_cast];try omega))only[push_cast])) ?_
 simp(disch:=first|omega|(apply id;simp only[push_cast];try omega))only[push_cast,simprocAttr,beq_self_eq_true]
 exact .id rfl
theorem same_law (r:Rb) (u w v at_:Int) (hr:smB r=true):jS (pp G) H0 8 [rbV r,.int .i64 u,.int .i64 w,.int .i64 v,.int .i64 at_] (.bool true):=by
 have hlo:H0.lo≤H0.next:=Nat.le_refl _;refine jS.cut (jL.fir4 (q:=qq) (jW G) fir8 (by kernel_rfl) rfl rfl (F53_arr ..) (show NGG≤H0.lo by rw[uY];decide) ?_);rw[sd_ir8]
 simp(disch:=first|omega|(apply id;simp only[push_cast];try omega))only[push_cast,simprocAttr]
 refine jC.dataI (known5e_f G) (by and_intros<;>first|rfl|(simp(disch:=first|omega|(apply id;simp only[push_cast];try omega))only[push_cast])) ?_
 have hcl:∀ x:Rb,(rbV x).cells.toList=rbC x:=fun _=>rfl
 have hone:=rbC_one
 have hlen:=bL
 have htk:∀ r:Rb,(rbC r).take 5=rbC r:=fun r=>List.take_of_length_le (by rw[bL];exact Nat.le_refl _)
 simp(disch:=first|omega|(apply id;simp only[push_cast];try omega))only[push_cast,simprocAttr,hcl,hone,hlen,htk,↓rowRb1]
 refine jC.data (few3_f G 0 0 [r] (by simp) (by simp[smBs,hr])) (few_fz G _ (by decide) _ [r]) (by first|rfl|(simp(disch:=first|omega|(apply id;simp only[push_cast];try omega))only[push_cast])) (by first|rfl|(simp(disch:=first|omega|(apply id;simp only[push_cast];try omega))only[push_cast])) ?_
 cases hf:fewB [r] with
 | false=>simp(disch:=first|omega|(apply id;simp only[push_cast];try omega))only[push_cast,simprocAttr,Bool.not_false];exact .id rfl
 | true=>
 simp(disch:=first|omega|(apply id;simp only[push_cast];try omega))only[push_cast,simprocAttr,Bool.not_true]
 all_goals repeat' apply And.intro
 all_goals
  refine jC.dataEI (make5_f G r u hr) (by and_intros<;>first|rfl|(simp(disch:=first|omega|(apply id;simp only[push_cast];try omega))only[push_cast])) ?_
  rintro _ ⟨_,rfl,ha,rfl⟩
  refine ⟨by simp(disch:=first|omega|(apply id;simp only[push_cast];try omega))only[push_cast,simprocAttr];first|done|rfl,?_⟩
  simp(disch:=first|omega|(apply id;simp only[push_cast];try omega))only[push_cast,simprocAttr]
 all_goals repeat' apply And.intro
 all_goals
  refine jC.dataEI (make5_f G r u hr) (by and_intros<;>first|rfl|(simp(disch:=first|omega|(apply id;simp only[push_cast];try omega))only[push_cast])) ?_
  rintro _ ⟨_,rfl,_,rfl⟩
  refine ⟨by simp(disch:=first|omega|(apply id;simp only[push_cast];try omega))only[push_cast,simprocAttr];first|done|rfl,?_⟩
  simp(disch:=first|omega|(apply id;simp only[push_cast];try omega))only[push_cast,simprocAttr]
 all_goals repeat' apply And.intro
 all_goals exact same_s0 G w v at_ ha (made_size ha) _ _ _ (by simp(disch:=first|omega|(apply id;simp only[push_cast];try omega))only[push_cast,simprocAttr]) (by simp(disch:=first|omega|(apply id;simp only[push_cast];try omega))only[push_cast,simprocAttr]) (by simp(disch:=first|omega|(apply id;simp only[push_cast];try omega))only[push_cast,simprocAttr]) (by omega) (by omega) (by simp(disch:=first|omega|(apply id;simp only[push_cast];try omega))only[push_cast,simprocAttr]) (by simp(disch:=first|omega|(apply id;simp only[push_cast];try omega))only[push_cast,simprocAttr])
end
end Go.Proofs.YtgeakofgklcipaaDoor
namespace Go.Proofs.YtgeakofgklcipaaDoor
open _root_.Go.Proofs.Tryd (prog)
open Go Go.RowKit Go.Ev Go.Dv
noncomputable section
set_option maxRecDepth 100000
section
variable {w:World} {H:Type} {enc:TypeId×Value→H}
theorem u_int:prog.underlying eI=some (.int .i64):=by kernel_rfl
theorem u_raws:prog.underlying 22=some (.slice era):=by kernel_rfl
theorem u_rbs:prog.underlying 23=some (.slice erb):=by kernel_rfl
theorem f_raw:fieldsB prog era [(eI,0),(eI,1),(22,2)]=true:=by kernel_rfl
theorem f_rb:fieldsB prog erb [(eI,0),(eI,1),(eI,2),(22,3),(23,4)]=true:=by kernel_rfl
theorem raCs_flat:∀ l:List Ra,l.flatMap raC=raCs l
 | []=>rfl
 | x :: l=>by rw[List.flatMap_cons,raCs_flat l,raCs]
theorem rbCs_flat:∀ l:List Rb,l.flatMap rbC=rbCs l
 | []=>rfl
 | x :: l=>by rw[List.flatMap_cons,rbCs_flat l,rbCs]
theorem smRs_of:∀ {l:List Ra},(∀ x∈l,smR x=true)→smRs l=true
 | [],_=>rfl
 | x :: l,h=>by rw[smRs,h x (by simp),smRs_of fun y hy=>h y (by simp[hy])];rfl
theorem smBs_of:∀ {l:List Rb},(∀ x∈l,smB x=true)→smBs l=true
 | [],_=>rfl
 | x :: l,h=>by rw[smBs,h x (by simp),smBs_of fun y hy=>h y (by simp[hy])];rfl
theorem open_ras:∀ (fuel:Nat) {cs:List Value} {x:DataW H×List MemPlace},DataW.trod enc prog w 0 (fun _=>true) true fuel 22 cs=some x→(x.1.weights prog 22).all (·≤reachBytes)=true→
  ∃ l:List Ra,Go.Dv.Op prog 1 LL w [rasV l] cs∧smRs l=true∧l.length<1000000000000000:=by
 intro fuel
 induction fuel using Nat.strongRecOn with
 | ind fuel ih=>
 intro cs x h hw
 obtain ⟨l,h1,h2,h3⟩:=open_slice (n:=1) (L:=LL) u_raws (size:=3) (by kernel_rfl) (by kernel_rfl) (by omega) (of_decide_eq_true (by kernel_rfl)) raC (fun r=>smR r=true) h hw fun k c y hk hy hwy=>by
  obtain ⟨k',hk',hl,hfs⟩:=open_struct f_raw hy hwy
  rw[show prog.cellsOf era=3 by kernel_rfl] at hl
  match c,hl with
  | [a,b,d],_=>
   obtain ⟨y0,t0,_⟩:=hfs 0 _ _ rfl
   obtain ⟨y1,t1,_⟩:=hfs 1 _ _ rfl
   obtain ⟨y2,t2,w2⟩:=hfs 2 _ _ rfl
   rw[show prog.cellsOf eI=1 by kernel_rfl] at t0 t1
   rw[show prog.cellsOf 22=1 by kernel_rfl] at t2
   obtain ⟨m0,e0,o0,_⟩:=open_num (n:=1) (L:=LL) u_int t0
   obtain ⟨m1,e1,o1,_⟩:=open_num (n:=1) (L:=LL) u_int t1
   obtain ⟨l2,o2,s2,n2⟩:=ih k' (by omega) t2 w2
   refine ⟨.mk m0 m1 l2,?_,?_⟩
   ·exact (o0.append o1).append o2
   ·simp only[smR,s2,Bool.and_true,decide_eq_true_eq];exact n2
 rw[raCs_flat] at h1
 exact ⟨l,h1,smRs_of h2,h3⟩
theorem open_rb_of (fuel:Nat) (ih:∀ k,k<fuel→∀ {cs:List Value} {x:DataW H×List MemPlace},DataW.trod enc prog w 0 (fun _=>true) true k 23 cs=some x→(x.1.weights prog 23).all (·≤reachBytes)=true→
   ∃ l:List Rb,Go.Dv.Op prog 1 LL w [rbsV l] cs∧smBs l=true∧l.length<1000000000000000)
  {c:List Value} {y:DataW H×List MemPlace} (hy:DataW.trod enc prog w 0 (fun _=>true) true fuel erb c=some y) (hwy:(y.1.weights prog erb).all (·≤reachBytes)=true) :
  ∃ r:Rb,Go.Dv.Op prog 1 LL w (rbC r) c∧smB r=true:=by
 obtain ⟨k',hk',hl,hfs⟩:=open_struct f_rb hy hwy
 rw[show prog.cellsOf erb=5 by kernel_rfl] at hl
 match c,hl with
 | [a,b,d,e,f],_=>
  obtain ⟨y0,t0,_⟩:=hfs 0 _ _ rfl
  obtain ⟨y1,t1,_⟩:=hfs 1 _ _ rfl
  obtain ⟨y2,t2,_⟩:=hfs 2 _ _ rfl
  obtain ⟨y3,t3,w3⟩:=hfs 3 _ _ rfl
  obtain ⟨y4,t4,w4⟩:=hfs 4 _ _ rfl
  rw[show prog.cellsOf eI=1 by kernel_rfl] at t0 t1 t2
  rw[show prog.cellsOf 22=1 by kernel_rfl] at t3
  rw[show prog.cellsOf 23=1 by kernel_rfl] at t4
  obtain ⟨m0,e0,o0,_⟩:=open_num (n:=1) (L:=LL) u_int t0
  obtain ⟨m1,e1,o1,_⟩:=open_num (n:=1) (L:=LL) u_int t1
  obtain ⟨m2,e2,o2,_⟩:=open_num (n:=1) (L:=LL) u_int t2
  obtain ⟨l3,o3,s3,n3⟩:=open_ras k' t3 w3
  obtain ⟨l4,o4,s4,n4⟩:=ih k' (by omega) t4 w4
  refine ⟨.mk m0 m1 m2 l3 l4,?_,?_⟩
  ·exact (((o0.append o1).append o2).append o3).append o4
  ·simp only[smB,s3,s4,Bool.and_true,Bool.and_eq_true,decide_eq_true_eq];exact ⟨n4,n3⟩
theorem open_rbs:∀ (fuel:Nat) {cs:List Value} {x:DataW H×List MemPlace},DataW.trod enc prog w 0 (fun _=>true) true fuel 23 cs=some x→(x.1.weights prog 23).all (·≤reachBytes)=true→
  ∃ l:List Rb,Go.Dv.Op prog 1 LL w [rbsV l] cs∧smBs l=true∧l.length<1000000000000000:=by
 intro fuel
 induction fuel using Nat.strongRecOn with
 | ind fuel ih=>
 intro cs x h hw
 obtain ⟨l,h1,h2,h3⟩:=open_slice (n:=1) (L:=LL) u_rbs (size:=5) (by kernel_rfl) (by kernel_rfl) (by omega) (of_decide_eq_true (by kernel_rfl)) rbC (fun r=>smB r=true) h hw fun k c y hk hy hwy=>
  open_rb_of k (fun k' hk'=>ih k' (by omega)) hy hwy
 rw[rbCs_flat] at h1
 exact ⟨l,h1,smBs_of h2,h3⟩
theorem open_rb (fuel:Nat) {c:List Value} {y:DataW H×List MemPlace} (hy:DataW.trod enc prog w 0 (fun _=>true) true fuel erb c=some y) (hwy:(y.1.weights prog erb).all (·≤reachBytes)=true) :
  ∃ r:Rb,Go.Dv.Op prog 1 LL w (rbC r) c∧smB r=true:=open_rb_of fuel (fun k _=>open_rbs k) hy hwy
end
end
end Go.Proofs.YtgeakofgklcipaaDoor
namespace Go.Proofs.YtgeakofgklcipaaDoor
open _root_.Go.Proofs.Tryd (prog)
open Go Go.RowKit Go.Ev Go.Dv
noncomputable section
@[reducible] def witB:Value:=.agg ⟨[.int .i64 0,.int .i64 0,.int .i64 0,.slice none 0 0,.slice none 0 0]⟩
end
end Go.Proofs.YtgeakofgklcipaaDoor
