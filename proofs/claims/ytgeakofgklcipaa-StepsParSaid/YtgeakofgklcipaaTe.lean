/-
  A part of the proof: what the program's functions hand back,as theorems. No condition but those that each theorem names.
-/
import Derived.Test.YtgeakofgklcipaaEvd
import Derived.Test.YtgeakofgklcipaaExa
import Derived.Test.YtgeakofgklcipaaEva
import Derived.Test.YtgeakofgklcipaaTa
import Derived.Test.YtgeakofgklcipaaExc
import Derived.Test.YtgeakofgklcipaaEve
set_option linter.unusedSimpArgs false
set_option linter.unusedVariables false
namespace Go.Proofs.Ytgeakofgklcipaa
open Go Go.RowKit Go.Ev Go.Dv
set_option maxRecDepth 100000
noncomputable section
theorem gP1 (P:Program) (sg:Nat→Int) (tg:Nat→ByteArray) {NG:Nat} {L:List (Nat×List Value)} {w:World} (hs:NG≤w.heap.size) (hL:okPl L=true)
  (hobj:∀ x∈L,x.1<NG∧∀ (j:Nat) (u:Value),x.2[j]?=some u→w.cell? ⟨x.1,j,none⟩=some u) :
  jW ⟨P,NG,NG,w.heap.size,sg,tg⟩ ⟨fun i=>i,fun _=>0,sg,tg⟩ (kH0 NG L) w:=by
 have hg:∀ i x,(kH0 NG L).get i=some x→i<NG∧∃ cs,x=⟨.cells ⟨cs⟩ 0 (0,0),false⟩∧cs.all one=true∧jU cs=true∧∀ (j:Nat) (u:Value),cs[j]?=some u→w.cell? ⟨i,j,none⟩=some u:=fun i x hx=>by
  obtain ⟨y,hy,rfl,rfl⟩:=qZ0 hx
  obtain ⟨h1,h2⟩:=hobj y hy
  obtain ⟨h3,h4⟩:=eY0 hL hy
  exact ⟨h1,_,rfl,h4,h3,h2⟩
 refine ⟨fun i x hx=>?_,fun i x hx _ hi=>?_,fun i j x y hx _ _ _ hi _ _=>?_,fun g _=>rfl,fun i x hi _ _=>Nat.lt_of_lt_of_le hi hs,rfl,Nat.le_refl _,⟨Nat.le_refl _,hs⟩,Nat.le_refl _,⟨rfl,rfl⟩,iK0.no fun i x hx=>by obtain ⟨_,cs,rfl,_⟩:=hg i x hx;rfl⟩
 ·obtain ⟨hi,cs,rfl,h1,h2,h3⟩:=hg i x hx
  refine ⟨hi,?_⟩
  simp only[OR]
  refine ⟨fun hG=>(by have hG:NG≤i:=hG;omega),fun _=>⟨trivial,Nat.lt_of_lt_of_le hi hs,fun j v hj hv=>?_⟩⟩
  have hj:cs[j]?=some v:=by simpa using hj
  have hm:=List.mem_of_getElem? hj
  refine ⟨List.all_eq_true.1 h1 v hm,?_⟩
  rw[qU _ v (jH0 h2 v hm)]
  exact h3 j v hj
 ·have:=(hg i x hx).1
  have hi:NG≤i:=hi
  omega
 ·have:=(hg i x hx).1
  have hi:NG≤i:=hi
  omega
def noX:Ext:=fun _ _ _=>none
theorem mA1:(mL0 Try.prog noX (evC Try.prog noX 400) 36 [] (kH0 0 [])).map (·.1)=some (.bool true):=by kernel_rfl
theorem mB1 (G:Nat×Nat):jN (pp G) H0 36 [] (.bool true):=
 jN.of_known (jR G) Try.func36 rfl rfl (fun x hx=>by cases hx) fun w hsz hl=>by
  have:=cN0 (X:=noX) (sg:=fun _=>0) (tg:=fun _=>.empty) (args:=[]) (w:=w) ⟨lV0,mixed,fun _ _ _ _ _ h=>by cases h⟩ (gP1 Try.prog _ _ (Nat.zero_le _) (L:=[]) rfl fun x hx=>by cases hx) Try.func36 rfl rfl mA1 rfl rfl
  exact this
end
end Go.Proofs.Ytgeakofgklcipaa
namespace Go.Proofs.Ytgeakofgklcipaa
open Go Go.RowKit Go.Ev Go.Dv
noncomputable section
set_option maxRecDepth 100000
variable (G:Nat×Nat)
mutual
def kO:Tm→List Tm
 | .mk k a b s e l=>.mk k a b s e l :: (if k=12 then actH l else if k=11∨k=7 then gJ l else [])
def gJ:List Tm→List Tm
 | []=>[]
 | x :: l=>kO x++gJ l
def actH:List Tm→List Tm
 | []=>[]
 | x :: _=>kO x
end
theorem iJ0:∀ (a b:List Tm),gJ (a++b)=gJ a++gJ b
 | [],b=>rfl
 | x :: a,b=>by rw[List.cons_append,gJ,gJ,iJ0 a b,List.append_assoc]
theorem mT0 (l:List Tm):actH l=gJ (l.take 1):=by
 cases l with
 | nil=>rfl
 | cons x l=>rw[actH,List.take_succ_cons,List.take_zero,gJ,gJ,List.append_nil]
theorem mS0 {l:List Tm} {i:Nat} {x:Tm} (h:l[i]?=some x):gJ (l.take (i+1))=gJ (l.take i)++kO x:=by
 rw[qJ h,iJ0,gJ,gJ,List.append_nil]
structure Yp (lid:Nat) (Y:List Tm→(Nat→Prop)→jA→Prop) (N:List Tm→Prop):Prop where
 lt:∀ {acc B σ},Y acc B σ→∀ k,B k→k<σ.next
 lo:∀ {acc B σ},Y acc B σ→σ.lo=1∧1≤σ.next∧lid<σ.next
 st:∀ {acc B σ σ'},Y acc B σ→jE σ σ' (fun k=>¬ B k)→Y acc B σ'
 y:∀ {acc B σ},Y acc B σ→∀ x,smT x=true→N (acc++[x])→jC (pp G) H0 (.func (.yield lid) ⟨[]⟩ ⟨[]⟩) [tmV x] σ (fun _ v σ'=>v=.bool true∧∃ B',Y (acc++[x]) B' σ'∧(∀ k,B' k→B k∨σ.next≤k)∧jE σ σ' B)
 n:∀ {a b},N (a++b)→N a
def rB0 (Y:List Tm→(Nat→Prop)→jA→Prop) (acc:List Tm) (B:Nat→Prop) (σ:jA) (v:Value) (σ':jA):Prop:=v=.bool true∧∃ B',Y acc B' σ'∧(∀ k,B' k→B k∨σ.next≤k)∧jE σ σ' B
inductive I63 (lid:Nat) (Y:List Tm→(Nat→Prop)→jA→Prop) (acc:List Tm) (B:Nat→Prop) (σ:jA) (l:List Tm):Nat→S→Prop
 | mk (i:Nat) (iv:Int) (h:jA) (B':Nat→Prop) {x0 x2 x3 x4 x5 x6 x7 x8 x9 xA xB xC xD xE xF xG xH xI xJ xK xL xM xN xO xP xT xU xV xW xX xY xZ yA:Value} (hiv:iv=(i:Int)) (hi:i≤l.length) (hY:Y (acc++gJ (l.take i)) B' h) (hB:∀ k,B' k→B k∨σ.next≤k) (g:jE σ h B) :
  I63 lid Y acc B σ l (l.length-i) ⟨(F37 x0 (.func (.yield lid) ⟨[]⟩ ⟨[]⟩) x2 x3 x4 x5 x6 x7 x8 x9 xA xB xC xD xE xF xG xH xI xJ xK xL xM xN xO xP (Rw false etm l.length (kF l)) (.int .i64 l.length) (.int .i64 iv) xT xU xV xW xX xY xZ yA),[],h⟩
theorem pB0 {lid:Nat} {Y:List Tm→(Nat→Prop)→jA→Prop} {N:List Tm→Prop} (yp:Yp G lid Y N) (l:List Tm) (hll:l.length<100000000000) (hsl:smTs l=true)
  (ih:∀ x∈l,∀ (acc:List Tm) (B:Nat→Prop) (σ:jA),Y acc B σ→N (acc++kO x)→jI (pp G) H0 91 [tmV x,.func (.yield lid) ⟨[]⟩ ⟨[]⟩] σ (rB0 Y (acc++kO x) B σ))
  (acc:List Tm) (B:Nat→Prop) (σ:jA) (hY:Y acc B σ) (hN:N (acc++gJ l)) {R:Value→jA→Prop} (hR:∀ v σ',rB0 Y (acc++gJ l) B σ v σ'→R v σ') {x0 x2 x3 x4 x6 x7 x8 x9 xA xB xC xD xE xF xG xH xI xJ xK xL xM xN xO xP xQ xR xS xT xU xV xW xX xY xZ yA:Value} :
  dc3 (pp G) qq none gX0 ⟨(F37 x0 (.func (.yield lid) ⟨[]⟩ ⟨[]⟩) x2 x3 x4 (Rw false etm l.length (kF l)) x6 x7 x8 x9 xA xB xC xD xE xF xG xH xI xJ xK xL xM xN xO xP xQ xR xS xT xU xV xW xX xY xZ yA),[],σ⟩ (@kR ⟨jH Try.prog [.tmp 4] R⟩):=by
 rw[tP0]
 simp(disch:=first|omega|(apply id;simp only[push_cast];try omega))only[push_cast,simprocAttr]
 refine WD.loop4 (q:=qq) (jR G) (by kernel_rfl) (I63 lid Y acc B σ l) ?_ _ _ (I63.mk 0 0 _ B rfl (Nat.zero_le _) (by rw[List.take_zero,gJ,List.append_nil];exact hY) (fun k hk=>.inl hk) (jE.refl _ _))
 intro m s1 hI
 cases hI with|mk i iv h B' hiv hi hY' hB g=>
 subst hiv
 rw[tO0]
 obtain ⟨hl1,hl2,hl3⟩:=yp.lo hY'
 by_cases hil:(i:Int)<l.length
 ·obtain ⟨x,hx⟩:=qP (l:=l) (i:=i) (by omega)
  have hxm:=List.mem_of_getElem? hx
  have hp:=jF0 hx
  have hle:i*9+9≤l.length*9:=by omega
  simp(disch:=first|omega|(apply id;simp only[push_cast];try omega))only[push_cast,simprocAttr,hil,Int.toNat_natCast,hp,hle,hl1]
  obtain ⟨τ,hτ⟩:∃ τ,τ=(h.add (O [.int .i64 0,.int .i64 0,.int .i64 0,.string (Tx []),.int .i64 0,.int .i64 0,.string (Tx []),.slice none 0 0,.slice none 0 0] 34 false)).put h.next (O (tmC x) 34 false):=⟨_,rfl⟩
  have g0:jE h τ (fun _=>False):=by rw[hτ];exact (by (repeat (first|exact Gr.refl _|assumption|(refine jE.put' ?_ _ _ (by first|omega|(simp only[push_cast];omega)))|(refine jE.add' ?_ _))))
  have hY1:=yp.st hY' (g0.mono fun _ _ h=>h.elim)
  rw[← hτ]
  have hN2:N ((acc++gJ (l.take i))++kO x):=by
   have h1:gJ l=gJ (l.take (i+1))++gJ (l.drop (i+1)):=by rw[← iJ0,List.take_append_drop]
   rw[h1,← List.append_assoc] at hN
   have:=yp.n hN
   rw[mS0 hx,← List.append_assoc] at this
   exact this
  refine jC.func (cap:=[]) (args:=[_,_]) (ih x hxm _ B' τ hY1 hN2) ?_
  rintro _ σ2 ⟨rfl,B2,hY2,hB2,g2⟩
  simp(disch:=first|omega|(apply id;simp only[push_cast];try omega))only[push_cast,simprocAttr,Bool.not_true]
  have hn0:=g0.next
  refine ⟨_,by omega,I63.mk (i+1) _ _ B2 (by first|rfl|omega) (by omega) (by rw[mS0 hx,← List.append_assoc];exact hY2) (fun k hk=>?_) ?_⟩
  ·have hng:=g.next
   rcases hB2 k hk with h1|h1
   ·exact hB k h1
   ·exact .inr (by omega)
  ·exact (g.tr' g0 fun _ _ h => h.elim).tr' g2 fun k hk hb => by
    rcases hB k hb with h1|h1
    ·exact h1
    ·omega
 ·have hie:i=l.length:=by omega
  subst hie
  rw[List.take_length] at hY'
  simp(disch:=first|omega|(apply id;simp only[push_cast];try omega))only[push_cast,simprocAttr,hil]
  rw[tN0]
  simp(disch:=first|omega|(apply id;simp only[push_cast];try omega))only[push_cast,simprocAttr]
  exact hR _ _ ⟨rfl,B',hY',hB,g⟩
theorem tL1 {lid:Nat} {Y:List Tm→(Nat→Prop)→jA→Prop} {N:List Tm→Prop} (yp:Yp G lid Y N):∀ (x:Tm),smT x=true→∀ (acc:List Tm) (B:Nat→Prop) (σ:jA),Y acc B σ→N (acc++kO x)→
   jI (pp G) H0 91 [tmV x,.func (.yield lid) ⟨[]⟩ ⟨[]⟩] σ (rB0 Y (acc++kO x) B σ)
 | .mk k a b s e l,hs,acc,B,σ,hY,hN=>by
  have hs0:=hs
  simp only[smT,Bool.and_eq_true,decide_eq_true_eq] at hs
  obtain ⟨⟨hll,hse⟩,hsl⟩:=hs
  have ih:∀ x∈l,∀ (acc:List Tm) (B:Nat→Prop) (σ:jA),Y acc B σ→N (acc++kO x)→jI (pp G) H0 91 [tmV x,.func (.yield lid) ⟨[]⟩ ⟨[]⟩] σ (rB0 Y (acc++kO x) B σ):=fun x hx=>tL1 yp x (bJ hsl x hx)
  obtain ⟨hl1,hl2,hl3⟩:=yp.lo hY
  refine jI.fir4 (q:=qq) (jR G) fir91 (by kernel_rfl) rfl rfl (fP1 ..) (by first|exact Nat.le_trans (show NGG≤1 by decide) (by omega)) ?_;rw[qL2]
  have g0:jE σ (σ.add (O (tmC (.mk k a b s e l)) 34 false)) (fun _=>False):=by (repeat (first|exact Gr.refl _|assumption|(refine jE.put' ?_ _ _ (by first|omega|(simp only[push_cast];omega)))|(refine jE.add' ?_ _)))
  have hY1:=yp.st hY (g0.mono fun _ _ h=>h.elim)
  have hN1:N (acc++[.mk k a b s e l]):=by
   rw[kO,← List.singleton_append,← List.append_assoc] at hN
   exact yp.n hN
  simp(disch:=first|omega|(apply id;simp only[push_cast];try omega))only[push_cast,simprocAttr,hl1]
  refine jC.mono (yp.y hY1 _ hs0 hN1) ?_
  rintro _ _ σ2 ⟨rfl,B2,hY2,hB2,g2⟩
  have hnB:¬ B σ.next:=fun hb=>by have:=yp.lt hY _ hb;omega
  have c0:cells σ2 σ.next=some (tmC (.mk k a b s e l),34,false):=g2.cellsE (by simp(disch:=first|omega|(apply id;simp only[push_cast];try omega))only[push_cast,simprocAttr]) (by simp(disch:=first|omega|(apply id;simp only[push_cast];try omega))only[push_cast,simprocAttr];omega) hnB
  have hn2:=g2.next
  rw[jJ] at hn2
  have hl2':σ2.lo=1:=(yp.lo hY2).1
  have fin:∀ (l':List Tm),kO (.mk k a b s e l)=.mk k a b s e l :: gJ l'→∀ v σ',rB0 Y ((acc++[.mk k a b s e l])++gJ l') B2 σ2 v σ'→rB0 Y (acc++kO (.mk k a b s e l)) B σ v σ':=by
   rintro l' he v σ' ⟨rfl,B3,hY3,hB3,g3⟩
   refine ⟨rfl,B3,by rw[he,← List.singleton_append,← List.append_assoc];exact hY3,fun k' hk=>?_,(g0.mono fun _ _ h=>h.elim).trans (g2.tr' g3 fun k' hk hb=>?_) fun _ _ h=>h⟩
   ·rcases hB3 k' hk with h1|h1
    ·rcases hB2 k' h1 with h2|h2
     ·exact .inl h2
     ·rw[jJ] at h2;exact .inr (by omega)
    ·exact .inr (by omega)
   ·rcases hB2 k' hb with h2|h2
    ·exact h2
    ·omega
  have e0:(kF l).take ((l.take 1).length*9)=kF (l.take 1):=by rw[zX0];congr 1;cases l<;>rfl
  rw[cS0] at c0
  by_cases h1:k=12
  ·subst h1
   have he:kO (.mk 12 a b s e l)=.mk 12 a b s e l :: gJ (l.take 1):=by rw[kO,if_pos rfl,mT0]
   have hm:min 1 (l.length:Int)=((l.take 1).length:Int):=by rw[List.length_take];omega
   rw[he,← List.singleton_append,← List.append_assoc] at hN
   simp(disch:=first|omega|(apply id;simp only[push_cast];try omega))only[push_cast,simprocAttr,c0,hl2',gH1,hm,Int.toNat_natCast,e0,Bool.not_true]
   exact pB0 G yp (l.take 1) (by rw[List.length_take];omega) (nQ0 fun x hx=>bJ hsl x (List.mem_of_mem_take hx)) (fun x hx=>ih x (List.mem_of_mem_take hx)) _ _ _ hY2 hN (fin _ he)
  ·by_cases h2:k=11∨k=7
   ·have he:kO (.mk k a b s e l)=.mk k a b s e l :: gJ l:=by rw[kO,if_neg h1,if_pos h2]
    rw[he,← List.singleton_append,← List.append_assoc] at hN
    by_cases h3:k=11
    ·simp(disch:=first|omega|(apply id;simp only[push_cast];try omega))only[push_cast,simprocAttr,c0,hl2',h1,h3,Bool.not_true]
     exact pB0 G yp l hll hsl ih _ _ _ hY2 hN (fin l he)
    ·have h4:k=7:=by omega
     simp(disch:=first|omega|(apply id;simp only[push_cast];try omega))only[push_cast,simprocAttr,c0,hl2',h1,h3,h4,Bool.not_true]
     exact pB0 G yp l hll hsl ih _ _ _ hY2 hN (fin l he)
   ·have he:kO (.mk k a b s e l)=.mk k a b s e l :: gJ []:=by rw[kO,if_neg h1,if_neg h2];rfl
    have h3:¬ k=11:=fun h=>h2 (.inl h)
    have h4:¬ k=7:=fun h=>h2 (.inr h)
    simp(disch:=first|omega|(apply id;simp only[push_cast];try omega))only[push_cast,simprocAttr,c0,hl2',h1,h3,h4,Bool.not_true]
    exact fin [] he _ _ ⟨rfl,B2,by rw[gJ,List.append_nil];exact hY2,fun k hk=>.inl hk,jE.refl _ _⟩
 termination_by x=>SizeOf.sizeOf x
theorem oE1 (x:Tm) (σ:jA) (hl0:1≤σ.lo):jI (pp G) H0 79 [tmV x] σ (fun v σ'=>v=.func (.func 90) ⟨[]⟩ ⟨[.pointer (some ⟨σ.next,0,none⟩)]⟩∧σ'=σ.add (O (tmC x) 34 false)):=by
 refine jI.fir4 (q:=qq) (jR G) fir79 (by kernel_rfl) rfl rfl (tZ1 ..) (by first|exact Nat.le_trans (show NGG≤1 by decide) (by omega)) ?_;rw[qX2]
 simp(disch:=first|omega|(apply id;simp only[push_cast];try omega))only[push_cast,simprocAttr]
 try exact ⟨rfl,rfl⟩
theorem eU1 {lid:Nat} {Y:List Tm→(Nat→Prop)→jA→Prop} {N:List Tm→Prop} (yp:Yp G lid Y N) (x:Tm) (hs:smT x=true) (b:Nat) (B:Nat→Prop) (σ:jA) (hb:cells σ b=some (tmC x,34,false)) (hb1:1≤b) (hY:Y [] B σ) (hN:N (kO x)) :
  jI (pp G) H0 90 [.func (.yield lid) ⟨[]⟩ ⟨[]⟩,.pointer (some ⟨b,0,none⟩)] σ (fun _ σ'=>rB0 Y (kO x) B σ (.bool true) σ'):=by
 obtain ⟨hl1,hl2,hl3⟩:=yp.lo hY
 refine jI.fir4 (q:=qq) (jR G) fir90 (by kernel_rfl) rfl rfl (tY1 ..) (by first|exact Nat.le_trans (show NGG≤1 by decide) (by omega)) ?_;rw[qM2]
 simp(disch:=first|omega|(apply id;simp only[push_cast];try omega))only[push_cast,simprocAttr,hb,hl1]
 refine jC.func (cap:=[]) (args:=[_,_]) (tL1 G yp x hs [] B σ hY hN) ?_
 rintro _ σ2 ⟨rfl,B2,hY2,hB2,g2⟩
 simp(disch:=first|omega|(apply id;simp only[push_cast];try omega))only[push_cast,simprocAttr]
 exact ⟨rfl,B2,hY2,hB2,g2⟩
def wS (acc:List Tm):List Int:=(acc.filter fun x=>decide (x.k=14)).map Tm.a
def kN (x:Tm):List Int:=wS (kO x)
theorem jB2 (acc:List Tm) (x:Tm):wS (acc++[x])=wS acc++(if x.k=14 then [x.a] else []):=by
 unfold wS
 rw[List.filter_append,List.map_append]
 congr 1
 by_cases h:x.k=14<;>simp[h]
theorem sJ1 (acc:List Tm):(wS acc).length≤acc.length:=by
 unfold wS
 rw[List.length_map]
 exact List.length_filter_le _ _
def tmW (t:Tm):VT:=F17 (tmV t) (.pointer (some ⟨1,0,none⟩)) (.slice none 0 0) (.pointer (some ⟨2,0,none⟩)) ud (tmV t) (.func (.func 90) ⟨[]⟩ ⟨[.pointer (some ⟨3,0,none⟩)]⟩) ud ud ud ud ud ud ud ud ud ud
def lpW (t:Tm):Loop:={ state:=.ready,pending:=none,fn:=0,tmps:=(tmW t).arr,params:=#[7],assign:=subC Try.prog 63 0,body:=subC Try.prog 63 1,defers:=4 }
structure Yw (t:Tm) (acc:List Tm) (B:Nat→Prop) (σ:jA):Prop where
 lo:σ.lo=1
 nx:6≤σ.next
 lp:σ.get 5=some ⟨.loop (lpW t),false⟩
 w:∃ q c,cells σ 2=some ([.slice q (wS acc).length c],23,false)∧qM σ eI 1 q (wS acc).length c (ivs (wS acc))∧(∀ k,blk q k→6≤k∧k<σ.next)∧B=fun k=>k=5∨k=2∨blk q k
theorem setW (t x:Tm):kS (tmW t) ((#[7]:Array Nat).toList.zip [tmV x])=F17 (tmV t) (.pointer (some ⟨1,0,none⟩)) (.slice none 0 0) (.pointer (some ⟨2,0,none⟩)) ud (tmV t) (.func (.func 90) ⟨[]⟩ ⟨[.pointer (some ⟨3,0,none⟩)]⟩) (tmV x) ud ud ud ud ud ud ud ud ud:=by kernel_rfl
theorem yK1 (x:Int) (σ:jA):bsD (qq.m 23) (slT Try.prog 23) 1 [(0,.int .i64 x)] σ=some (Rw true eI 1 (ivs [x]),σ):=by kernel_rfl
theorem yw (t:Tm):Yp G 5 (Yw t) (fun acc=>acc.length<1000000000000) where
 lt:=fun {acc B σ} hY k hk=>by
  obtain ⟨hl,hn,hlp,q,c,h1,h2,h3,rfl⟩:=hY
  rcases hk with rfl|rfl|hk
  ·omega
  ·omega
  ·exact (h3 k hk).2
 lo:=fun {acc B σ} hY=>⟨hY.lo,by have:=hY.nx;omega,by have:=hY.nx;omega⟩
 n:=fun {a b} h=>by rw[List.length_append] at h;omega
 st:=fun {acc B σ σ'} hY g=>by
  obtain ⟨hl,hn,hlp,q,c,h1,h2,h3,rfl⟩:=hY
  have hgn:=g.next
  refine ⟨g.lo.trans hl,by omega,(g.get _ (by omega) (fun h=>h (.inl rfl))).trans hlp,q,c,g.cellsE h1 (by omega) (fun h=>h (.inr (.inl rfl))),h2.grew g (fun b hb h=>h (.inr (.inr hb))),fun k hk=>⟨(h3 k hk).1,by have:=(h3 k hk).2;omega⟩,rfl⟩
 y:=fun {acc B σ} hY x hsx hN=>by
  obtain ⟨hl,hn,hlp,q,c,h1,h2,h3,rfl⟩:=hY
  rw[List.length_append,List.length_singleton] at hN
  have hwl:=sJ1 acc
  refine jC.yield (q:=qq) (T:=tmW t) (jR G) (kZ hlp (by omega)) (by omega) rfl (by show 17<U;unfold U;omega) rfl nT1 nS1 (show irOk NGG cG1=true by kernel_rfl) (show irOk NGG cF1=true by kernel_rfl) (by rw[hl];exact (show NGG≤1 by decide)) ?_
  rw[show (lpW t).params=#[7] from rfl,setW,yB1]
  simp(disch:=first|omega|(apply id;simp only[push_cast];try omega))only[push_cast,simprocAttr]
  obtain ⟨τ,hτ⟩:∃ τ,τ=(σ.add (O [.int .i64 0,.int .i64 0,.int .i64 0,.string (Tx []),.int .i64 0,.int .i64 0,.string (Tx []),.slice none 0 0,.slice none 0 0] 34 false)).put σ.next (O (tmC x) 34 false):=⟨_,rfl⟩
  have g0:jE σ τ (fun _=>False):=by rw[hτ];exact (by (repeat (first|exact Gr.refl _|assumption|(refine jE.put' ?_ _ _ (by first|omega|(simp only[push_cast];omega)))|(refine jE.add' ?_ _))))
  have c0:cells τ σ.next=some (tmC x,34,false):=by rw[hτ];simp(disch:=first|omega|(apply id;simp only[push_cast];try omega))only[push_cast,simprocAttr]
  rw[← hτ]
  have hn0:σ.next+1≤τ.next:=by rw[hτ];simp(disch:=first|omega|(apply id;simp only[push_cast];try omega))only[push_cast,simprocAttr];omega
  have hl0:τ.lo=1:=by rw[g0.lo,hl]
  have k1:=g0.cellsE h1 (by omega) id
  have k2:=h2.grew g0 (fun _ _ h=>h)
  have klp:=(g0.get _ (by omega) id).trans hlp
  clear hτ
  simp only[kR,hi,iH0]
  rw[kZ klp (by omega)]
  refine ⟨rfl,?_⟩
  rw[show (jQ τ 5 { lpW t with state:=.busy })=τ.put 5 ⟨.loop { lpW t with state:=.busy },false⟩ from rfl]
  obtain ⟨τ2,hτ2⟩:∃ τ2,τ2=τ.put 5 ⟨.loop { lpW t with state:=.busy },false⟩:=⟨_,rfl⟩
  rw[← hτ2]
  have g2:jE τ τ2 (fun k=>k=5):=by rw[hτ2];exact jE.put _ _ _ fun _=>rfl
  have b0:=g2.cellsE c0 (by omega) (by omega)
  have b1:=g2.cellsE k1 (by omega) (by omega)
  have b2:=k2.grew g2 (fun k hk e=>by have:=h3 k hk;omega)
  have blp:τ2.get 5=some ⟨.loop { lpW t with state:=.busy },false⟩:=by rw[hτ2];exact gO _ _
  have hl2:τ2.lo=1:=by rw[g2.lo,hl0]
  have hn2:=g2.next
  have gg:jE σ τ2 (fun k=>k=5∨k=2∨blk q k):=(g0.mono fun _ _ h=>h.elim).tr' g2 fun k _ h=>.inl h
  clear hτ2 g2 g0
  rw[yA1]
  obtain ⟨xk,xa,xb,xs,xe,xl⟩:=x
  rw[cS0] at b0
  have hwx:=jB2 acc (.mk xk xa xb xs xe xl)
  have fin : ∀ (D : S) (q' : Option Addr) (c' : Nat), D.h.get 5 = some ⟨.loop { lpW t with state := .busy }, false⟩ → D.h.lo = 1 → cells D.h 2 = some ([.slice q' (wS (acc ++ [.mk xk xa xb xs xe xl])).length c'], 23, false) → qM D.h eI 1 q' (wS (acc ++ [.mk xk xa xb xs xe xl])).length c' (ivs (wS (acc ++ [.mk xk xa xb xs xe xl]))) →
    (∀ k,blk q' k→blk q k∨τ2.next≤k)→jE τ2 D.h (fun k=>k=2∨blk q k)→
    qW0 5 (fun (_:Bool) v σ'=>v=.bool true∧∃ B',Yw t (acc++[.mk xk xa xb xs xe xl]) B' σ'∧(∀ k,B' k→(k=5∨k=2∨blk q k)∨σ.next≤k)∧jE σ σ' (fun k=>k=5∨k=2∨blk q k)) .normal D:=by
   rintro ⟨tm,df,τ3⟩ q' c' f1 f2 f3 f4 f5 f6
   simp only[qW0]
   rw[kZ f1 (by omega)]
   have f7:τ2.next≤τ3.next:=f6.next
   have hq':∀ k,blk q' k→6≤k∧k<τ3.next:=fun k hk=>⟨by rcases f5 k hk with h|h;exact (h3 k h).1;omega,(qM.lt f4 hk).2⟩
   have gp:jE τ3 (jQ τ3 5 (lpW t)) (fun k=>k=5):=jE.put _ _ _ fun _=>rfl
   refine ⟨rfl,fun k=>k=5∨k=2∨blk q' k,⟨f2,(by show 6≤τ3.next;omega),gO _ _,q',c',gp.cellsE f3 (by show _<τ3.next;omega) (by omega),f4.grew gp (fun k hk e=>by have:=hq' k hk;omega),hq',rfl⟩,fun k hk=>?_,(gg.tr' f6 fun k hk h=>.inr h).tr' gp fun k hk h=>.inl h⟩
   ·rcases hk with rfl|rfl|hk
    ·exact .inl (.inl rfl)
    ·exact .inl (.inr (.inl rfl))
    ·rcases f5 k hk with h|h
     ·exact .inl (.inr (.inr h))
     ·exact .inr (by omega)
  by_cases hk:xk=14
  ·subst hk
   obtain ⟨a',c',σ',e,o',g',b'⟩:=bF (by_:=8) b2 (by omega) (by omega) (m:=1) (xs:=ivs [xa]) rfl rfl (by omega)
   have hn':=g'.next
   have r1:=g'.cellsE b1 (by omega) (fun h=>by have:=h3 _ h;omega)
   have rl:=(g'.get _ (by omega) (fun h=>by have:=h3 _ h;omega)).trans blp
   have hl3:σ'.lo=1:=by rw[g'.lo,hl2]
   rw[if_pos (by rfl)] at hwx
   have hwl2:(wS (acc++[.mk 14 xa xb xs xe xl])).length=(wS acc).length+1:=by rw[hwx];exact List.length_append
   simp(disch:=first|omega|(apply id;simp only[push_cast];try omega))only[push_cast,simprocAttr,b0,b1,hl2,↓yK1,e,r1,hl3]
   have gp:jE σ' (σ'.put 2 (O [.slice a' ((wS acc).length+1) c'] 23 false)) (fun k=>k=2):=jE.put _ _ _ fun _=>rfl
   have hb':∀ k,blk a' k→¬ k=2:=fun k hk=>by
    rcases b' k hk with h|h
    ·have:=h3 k h;omega
    ·omega
   refine fin _ a' c' ((gp.get _ (by omega) (by omega)).trans rl) (by simp(disch:=first|omega|(apply id;simp only[push_cast];try omega))only[push_cast,simprocAttr,hl3]) (by rw[hwl2];simp(disch:=first|omega|(apply id;simp only[push_cast];try omega))only[push_cast,simprocAttr]) ?_ b' ((g'.mono (T:=fun k=>k=2∨blk q k) fun _ _ h=>.inr h).tr' gp fun _ _ h=>.inl h)
   rw[hwl2,hwx]
   show qM _ _ _ _ _ _ (ivs (wS acc++[xa]))
   rw[fG0]
   exact o'.grew gp hb'
  ·rw[if_neg (by exact hk),List.append_nil] at hwx
   simp(disch:=first|omega|(apply id;simp only[push_cast];try omega))only[push_cast,simprocAttr,b0,b1,hk,hl2]
   exact fin _ q c blp hl2 (by rw[hwx];exact b1) (by rw[hwx];exact b2) (fun k h=>.inl h) (jE.refl _ _)
theorem sA0 {l:Nat} {s:S} {mk:List Nat} {R:jK→S→Prop} {v:Value} {h2:jA} {r:Loop} (hg:qI h2 l=some r) (hs:r.state=.ready) (hp:r.pending=none) (hR:R .normal ⟨s.tm,mk++s.df,jQ h2 l { r with state:=.exhausted }⟩):zM0 l s mk R v h2:=by
 have he:uE0 l ⟨s.tm,mk++s.df,h2⟩=some (.normal,⟨s.tm,mk++s.df,jQ h2 l { r with state:=.exhausted }⟩):=by
  unfold uE0
  rw[hg]
  obtain ⟨st,pd,fn,tm',ps',as',bd',df'⟩:=r
  cases hs
  cases hp
  rfl
 unfold zM0
 rw[he]
 exact hR
theorem jA2 (t:Tm) (hs:smT t=true) (hn:(kO t).length<1000000000000):jN (pp G) H0 63 [tmV t] (ivV (kN t)):=by
 have hlo:H0.lo≤H0.next:=Nat.le_refl _;refine jN.cut (jI.fir4 (q:=qq) (jR G) fir63 (by kernel_rfl) rfl rfl (pZ0 ..) (show NGG≤H0.lo by rw[qQ];decide) ?_);rw[uM2]
 simp(disch:=first|omega|(apply id;simp only[push_cast];try omega))only[push_cast,simprocAttr]
 refine jC.func (cap:=[]) (args:=[_]) (oE1 G t _ (by simp(disch:=first|omega|(apply id;simp only[push_cast];try omega))only[push_cast,simprocAttr])) ?_
 rintro _ _ ⟨rfl,rfl⟩
 simp(disch:=first|omega|(apply id;simp only[push_cast];try omega))only[push_cast,simprocAttr]
 obtain ⟨σ,hσ⟩:∃ σ,σ=((H0.add (O (tmC t) 34 false)).add (O [.slice none 0 0] 23 false)).add (O (tmC t) 34 false):=⟨_,rfl⟩
 have n4:σ.next=4:=by rw[hσ];simp(disch:=first|omega|(apply id;simp only[push_cast];try omega))only[push_cast,simprocAttr]
 have l4:σ.lo=1:=by rw[hσ];simp(disch:=first|omega|(apply id;simp only[push_cast];try omega))only[push_cast,simprocAttr]
 have c2:cells σ 2=some ([.slice none 0 0],23,false):=by rw[hσ];simp(disch:=first|omega|(apply id;simp only[push_cast];try omega))only[push_cast,simprocAttr]
 have c3:cells σ 3=some (tmC t,34,false):=by rw[hσ];simp(disch:=first|omega|(apply id;simp only[push_cast];try omega))only[push_cast,simprocAttr]
 have gH:jE H0 σ (fun _=>False):=by rw[hσ];exact (by (repeat (first|exact Gr.refl _|assumption|(refine jE.put' ?_ _ _ (by first|omega|(simp only[push_cast];omega)))|(refine jE.add' ?_ _))))
 rw[← hσ]
 clear hσ
 refine WD.range (q:=qq) (jR G) (f:=90) (captured:=[.pointer (some ⟨3,0,none⟩)]) rfl rfl ?_
 show jI _ _ _ (.func (.yield (σ.next+1)) _ _ :: _) ((σ.add _).add ⟨.loop { state:=.ready,pending:=none,fn:=0,tmps:=_,params:=_,assign:=_,body:=_,defers:=σ.next },false⟩) (zM0 (σ.next+1) _ [σ.next] _)
 rw[n4]
 have g1:jE σ ((σ.add ⟨.deferred (some []),false⟩).add ⟨.loop (lpW t),false⟩) (fun _=>False):=(jE.add _ _ _).trans (jE.add _ _ _) fun _ _ h=>h
 have hY:Yw t [] (fun k=>k=5∨k=2∨blk none k) ((σ.add ⟨.deferred (some []),false⟩).add ⟨.loop (lpW t),false⟩):=by
  refine ⟨by simp(disch:=first|omega|(apply id;simp only[push_cast];try omega))only[push_cast,simprocAttr,l4],by simp(disch:=first|omega|(apply id;simp only[push_cast];try omega))only[push_cast,simprocAttr,n4],bC _ _ (by rw[jJ,n4]),none,0,g1.cellsE c2 (by omega) id,qM.nil _ _ _,fun k hk=>?_,rfl⟩
  obtain ⟨o,s,e⟩:=hk
  cases e
 refine (eU1 G (yw G t) t hs 3 _ _ (g1.cellsE c3 (by omega) id) (by decide) hY hn).mono ?_
 rintro v σ2 ⟨-,B2,hY2,hB2,g2⟩
 obtain ⟨hl,hnx,hlp,q,c,h1,h2,h3,rfl⟩:=hY2
 have hmk:σ2.get 4=some ⟨.deferred (some []),false⟩:=by
  refine (g2.get _ (by rw[jJ,jJ];omega) ?_).trans ?_
  ·rintro (h|h|⟨o,s,e⟩)
   ·omega
   ·omega
   ·cases e
  ·rw[qN _ _ (by rw[jJ];omega),bC _ _ n4.symm]
 have gp:jE σ2 (jQ σ2 5 { lpW t with state:=.exhausted }) (fun k=>k=5):=jE.put _ _ _ fun _=>rfl
 refine sA0 (kZ hlp (by omega)) rfl rfl ?_
 generalize jQ σ2 5 { lpW t with state:=.exhausted }=τ at gp
 have r1:=gp.cellsE h1 (by omega) (by omega)
 have r2:=h2.grew gp (fun k hk e=>by have:=h3 k hk;omega)
 have r3:=(gp.get _ (by omega) (by omega)).trans hmk
 have r4:τ.lo=1:=by rw[gp.lo,hl]
 have hwl:=sJ1 (kO t)
 simp(disch:=first|omega|(apply id;simp only[push_cast];try omega))only[push_cast,simprocAttr]
 rw[qB1]
 simp(disch:=first|omega|(apply id;simp only[push_cast];try omega))only[push_cast,simprocAttr,r1,r4]
 rw[kZ0 r3 (by omega),show gA [] (τ.put 4 ⟨.deferred none,false⟩)=some (τ.put 4 ⟨.deferred none,false⟩) from rfl]
 simp(disch:=first|omega|(apply id;simp only[push_cast];try omega))only[push_cast,simprocAttr]
 have g4:jE τ (τ.put 4 ⟨.deferred none,false⟩) (fun k=>k=4):=jE.put _ _ _ fun _=>rfl
 have:=qM.fz (P:=(pp G).P) (N:=1) (r2.grew g4 (fun k hk e=>by have:=h3 k hk;omega)) (by rfl) (by decide) (by omega) (.ids (kY0 _ _)) (fun k hk=>by have:=h3 k hk;omega)
 exact this
def jL:Tm→Tm
 | .mk k a b s e [x,y]=>if k=12 then (if (jL x).k=0 then jL y else .mk k a b s e [jL x,y]) else if k=11 then (if (jL x).k=0∧(jL y).k=0 then zT else .mk k a b s e [jL x,jL y]) else .mk k a b s e [x,y]
 | .mk k a b s e [x]=>if k=7 then (if (jL x).k=0 then zT else .mk k a b s e [jL x]) else .mk k a b s e [x]
 | .mk k a b s e l=>.mk k a b s e l
theorem rD0 (k a b:Int) (s:List UInt8) (e:Ex) (l m:List Tm) (hse:smE e=true):jN (pp G) H0 78 [tmV (.mk k a b s e l),Rw true etm m.length (kF m)] (tmV (.mk k a b s e m)):=by
 have hlo:H0.lo≤H0.next:=Nat.le_refl _;refine jN.cut (jI.fir4 (q:=qq) (jR G) fir78 (by kernel_rfl) rfl rfl (fU1 ..) (show NGG≤H0.lo by rw[qQ];decide) ?_);rw[qY2]
 simp(disch:=first|omega|(apply id;simp only[push_cast];try omega))only[push_cast,simprocAttr]
 refine jC.dataI (yX1 G e hse) (by and_intros<;>first|rfl|(simp(disch:=first|omega|(apply id;simp only[push_cast];try omega))only[push_cast])) ?_
 simp(disch:=first|omega|(apply id;simp only[push_cast];try omega))only[push_cast,simprocAttr,sJ0]
 unfold tmV
 rw[cS0]
 exact .agg (.cons (.id rfl) (.cons (.id rfl) (.cons (.id rfl) (.cons (.id rfl) (.cons (.id rfl) (.cons (.id rfl) (.cons (.id rfl) (.cons (.id (bG0 _ (by omega) ..)) (.cons (.row (.ids (gU _ (by omega) m))) .nil)))))))))
theorem cH0 (t u:Tm) (σ:jA):bsD (qq.m 32) (slT Try.prog 32) 2 [(0,tmV t),(1,tmV u)] σ=some (Rw true 34 2 (kF [t,u]),σ):=by
 cases t;cases u;kernel_rfl
theorem fV1 (P:Program) (N:Nat) (σ:jA) (h1:szT P eE=some 4:=by rfl) (h2:szT P etm=some 9:=by rfl):FzV P N σ (.agg ⟨ztm⟩) (tmV zT):=.agg (.cons (.id rfl) (.cons (.id rfl) (.cons (.id rfl) (.cons (.id rfl) (.cons (.id rfl) (.cons (.id rfl) (.cons (.id rfl) (.cons (.nil (size:=4) h1 (by decide)) (.cons (.nil (size:=9) h2 (by decide)) .nil)))))))))
theorem cH (x:Tm):(tmC x)[0]?=some (.int .i64 x.k):=by cases x;rfl
theorem zC2 (a b:Int) (s:List UInt8) (e:Ex) (x y:Tm) (hse:smE e=true) (hx:jN (pp G) H0 62 [tmV x] (tmV (jL x))) (hy:jN (pp G) H0 62 [tmV y] (tmV (jL y))) (hoy:jN (pp G) H0 54 [tmV y] (tmV y)):jN (pp G) H0 62 [tmV (.mk 12 a b s e [x,y])] (tmV (jL (.mk 12 a b s e [x,y]))):=by
 have hlo:H0.lo≤H0.next:=Nat.le_refl _;refine jN.cut (jI.fir4 (q:=qq) (jR G) mT1 (by kernel_rfl) rfl rfl (iL0 ..) (show NGG≤H0.lo by rw[qQ];decide) ?_);rw[eR0]
 rw[jL,if_pos rfl]
 simp(disch:=first|omega|(apply id;simp only[push_cast];try omega))only[push_cast,simprocAttr]
 refine jC.dataI (hx) (by and_intros<;>first|rfl|(simp(disch:=first|omega|(apply id;simp only[push_cast];try omega))only[push_cast])) ?_
 generalize jL x=x'
 by_cases h0:x'.k=0
 ·rw[if_pos h0]
  simp(disch:=first|omega|(apply id;simp only[push_cast];try omega))only[push_cast,simprocAttr,cH,h0]
  refine jC.dataI (hy) (by and_intros<;>first|rfl|(simp(disch:=first|omega|(apply id;simp only[push_cast];try omega))only[push_cast])) ?_
  simp(disch:=first|omega|(apply id;simp only[push_cast];try omega))only[push_cast,simprocAttr]
  exact .id (bV 1 (by decide) _)
 ·rw[if_neg (by exact h0)]
  simp(disch:=first|omega|(apply id;simp only[push_cast];try omega))only[push_cast,simprocAttr,cH,h0]
  refine jC.dataI (hoy) (by and_intros<;>first|rfl|(simp(disch:=first|omega|(apply id;simp only[push_cast];try omega))only[push_cast])) ?_
  simp(disch:=first|omega|(apply id;simp only[push_cast];try omega))only[push_cast,simprocAttr,↓cH0]
  refine jC.dataI (rD0 G 12 a b s e [x,y] [x',y] hse) (by and_intros<;>first|rfl|(simp(disch:=first|omega|(apply id;simp only[push_cast];try omega))only[push_cast])) ?_
  simp(disch:=first|omega|(apply id;simp only[push_cast];try omega))only[push_cast,simprocAttr]
  exact .id (bV 1 (by decide) (.mk 12 a b s e [x',y]))
theorem zD2 (a b:Int) (s:List UInt8) (e:Ex) (x y:Tm) (hse:smE e=true) (hx:jN (pp G) H0 62 [tmV x] (tmV (jL x))) (hy:jN (pp G) H0 62 [tmV y] (tmV (jL y))):jN (pp G) H0 62 [tmV (.mk 11 a b s e [x,y])] (tmV (jL (.mk 11 a b s e [x,y]))):=by
 have hlo:H0.lo≤H0.next:=Nat.le_refl _;refine jN.cut (jI.fir4 (q:=qq) (jR G) mT1 (by kernel_rfl) rfl rfl (iL0 ..) (show NGG≤H0.lo by rw[qQ];decide) ?_);rw[eR0]
 rw[jL,if_neg (by omega),if_pos rfl]
 generalize jL x=x' at hx ⊢
 generalize jL y=y' at hy ⊢
 by_cases h0:x'.k=0
 ·by_cases h0':y'.k=0
  ·rw[if_pos ⟨h0,h0'⟩]
   simp(disch:=first|omega|(apply id;simp only[push_cast];try omega))only[push_cast,simprocAttr]
   all_goals repeat' apply And.intro
   all_goals
    refine jC.dataI (hx) (by and_intros<;>first|rfl|(simp(disch:=first|omega|(apply id;simp only[push_cast];try omega))only[push_cast])) ?_
    simp(disch:=first|omega|(apply id;simp only[push_cast];try omega))only[push_cast,simprocAttr]
   all_goals repeat' apply And.intro
   all_goals
    refine jC.dataI (hy) (by and_intros<;>first|rfl|(simp(disch:=first|omega|(apply id;simp only[push_cast];try omega))only[push_cast])) ?_
    simp(disch:=first|omega|(apply id;simp only[push_cast];try omega))only[push_cast,simprocAttr,cH,h0,h0',↓cH0]
   all_goals repeat' apply And.intro
   all_goals exact fV1 Try.prog _ _
  ·rw[if_neg (fun h=>h0' h.2)]
   simp(disch:=first|omega|(apply id;simp only[push_cast];try omega))only[push_cast,simprocAttr]
   all_goals repeat' apply And.intro
   all_goals
    refine jC.dataI (hx) (by and_intros<;>first|rfl|(simp(disch:=first|omega|(apply id;simp only[push_cast];try omega))only[push_cast])) ?_
    simp(disch:=first|omega|(apply id;simp only[push_cast];try omega))only[push_cast,simprocAttr]
   all_goals repeat' apply And.intro
   all_goals
    refine jC.dataI (hy) (by and_intros<;>first|rfl|(simp(disch:=first|omega|(apply id;simp only[push_cast];try omega))only[push_cast])) ?_
    simp(disch:=first|omega|(apply id;simp only[push_cast];try omega))only[push_cast,simprocAttr,cH,h0,h0',↓cH0]
   all_goals repeat' apply And.intro
   all_goals
    refine jC.dataI (rD0 G 11 a b s e [x,y] [x',y'] hse) (by and_intros<;>first|rfl|(simp(disch:=first|omega|(apply id;simp only[push_cast];try omega))only[push_cast])) ?_
    simp(disch:=first|omega|(apply id;simp only[push_cast];try omega))only[push_cast,simprocAttr]
    exact .id (bV 1 (by decide) (.mk 11 a b s e [x',y']))
 ·rw[if_neg (fun h=>h0 h.1)]
  simp(disch:=first|omega|(apply id;simp only[push_cast];try omega))only[push_cast,simprocAttr]
  all_goals repeat' apply And.intro
  all_goals
   refine jC.dataI (hx) (by and_intros<;>first|rfl|(simp(disch:=first|omega|(apply id;simp only[push_cast];try omega))only[push_cast])) ?_
   simp(disch:=first|omega|(apply id;simp only[push_cast];try omega))only[push_cast,simprocAttr]
  all_goals repeat' apply And.intro
  all_goals
   refine jC.dataI (hy) (by and_intros<;>first|rfl|(simp(disch:=first|omega|(apply id;simp only[push_cast];try omega))only[push_cast])) ?_
   simp(disch:=first|omega|(apply id;simp only[push_cast];try omega))only[push_cast,simprocAttr,cH,h0,↓cH0]
  all_goals repeat' apply And.intro
  all_goals
   refine jC.dataI (rD0 G 11 a b s e [x,y] [x',y'] hse) (by and_intros<;>first|rfl|(simp(disch:=first|omega|(apply id;simp only[push_cast];try omega))only[push_cast])) ?_
   simp(disch:=first|omega|(apply id;simp only[push_cast];try omega))only[push_cast,simprocAttr]
   exact .id (bV 1 (by decide) (.mk 11 a b s e [x',y']))
theorem cT2 (a b:Int) (s:List UInt8) (e:Ex) (x:Tm) (hse:smE e=true) (hx:jN (pp G) H0 62 [tmV x] (tmV (jL x))):jN (pp G) H0 62 [tmV (.mk 7 a b s e [x])] (tmV (jL (.mk 7 a b s e [x]))):=by
 have hlo:H0.lo≤H0.next:=Nat.le_refl _;refine jN.cut (jI.fir4 (q:=qq) (jR G) mT1 (by kernel_rfl) rfl rfl (iL0 ..) (show NGG≤H0.lo by rw[qQ];decide) ?_);rw[eR0]
 rw[jL,if_pos rfl]
 generalize jL x=x' at hx ⊢
 simp(disch:=first|omega|(apply id;simp only[push_cast];try omega))only[push_cast,simprocAttr]
 refine jC.dataI (hx) (by and_intros<;>first|rfl|(simp(disch:=first|omega|(apply id;simp only[push_cast];try omega))only[push_cast])) ?_
 by_cases h0:x'.k=0
 ·rw[if_pos h0]
  simp(disch:=first|omega|(apply id;simp only[push_cast];try omega))only[push_cast,simprocAttr,cH,h0]
  exact fV1 Try.prog _ _
 ·rw[if_neg h0]
  simp(disch:=first|omega|(apply id;simp only[push_cast];try omega))only[push_cast,simprocAttr,cH,h0,↓qY1]
  refine jC.dataI (rD0 G 7 a b s e [x] [x'] hse) (by and_intros<;>first|rfl|(simp(disch:=first|omega|(apply id;simp only[push_cast];try omega))only[push_cast])) ?_
  simp(disch:=first|omega|(apply id;simp only[push_cast];try omega))only[push_cast,simprocAttr]
  exact .id (bV 1 (by decide) (.mk 7 a b s e [x']))
theorem cS2 (k a b:Int) (s:List UInt8) (e:Ex) (l:List Tm) (hll:l.length<100000000000) (hown:jN (pp G) H0 54 [tmV (.mk k a b s e l)] (tmV (.mk k a b s e l))) (h12:¬(k=12∧l.length=2)) (h11:¬(k=11∧l.length=2)) (h7:¬(k=7∧l.length=1)) :
  jN (pp G) H0 62 [tmV (.mk k a b s e l)] (tmV (jL (.mk k a b s e l))):=by
 have hn:jL (.mk k a b s e l)=.mk k a b s e l:=by
  unfold jL
  split
  ·rename_i e1;cases e1;rw[if_neg (fun h=>h12 ⟨h,rfl⟩),if_neg (fun h=>h11 ⟨h,rfl⟩)]
  ·rename_i e1;cases e1;rw[if_neg (fun h=>h7 ⟨h,rfl⟩)]
  ·rename_i e1;cases e1;rfl
 rw[hn]
 have hlo:H0.lo≤H0.next:=Nat.le_refl _;refine jN.cut (jI.fir4 (q:=qq) (jR G) mT1 (by kernel_rfl) rfl rfl (iL0 ..) (show NGG≤H0.lo by rw[qQ];decide) ?_);rw[eR0]
 by_cases g12:k=12
 ·have g2:¬ (l.length:Int)=2:=fun h=>h12 ⟨g12,by omega⟩
  simp(disch:=first|omega|(apply id;simp only[push_cast];try omega))only[push_cast,simprocAttr,g12,g2]
  subst g12
  refine jC.dataI (hown) (by and_intros<;>first|rfl|(simp(disch:=first|omega|(apply id;simp only[push_cast];try omega))only[push_cast])) ?_
  simp(disch:=first|omega|(apply id;simp only[push_cast];try omega))only[push_cast,simprocAttr]
  exact .id (bV 1 (by decide) (.mk 12 a b s e l))
 by_cases g11:k=11
 ·have g2:¬ (l.length:Int)=2:=fun h=>h11 ⟨g11,by omega⟩
  simp(disch:=first|omega|(apply id;simp only[push_cast];try omega))only[push_cast,simprocAttr,g11,g2]
  subst g11
  refine jC.dataI (hown) (by and_intros<;>first|rfl|(simp(disch:=first|omega|(apply id;simp only[push_cast];try omega))only[push_cast])) ?_
  simp(disch:=first|omega|(apply id;simp only[push_cast];try omega))only[push_cast,simprocAttr]
  exact .id (bV 1 (by decide) (.mk 11 a b s e l))
 by_cases g7:k=7
 ·have g2:¬ (l.length:Int)=1:=fun h=>h7 ⟨g7,by omega⟩
  simp(disch:=first|omega|(apply id;simp only[push_cast];try omega))only[push_cast,simprocAttr,g7,g2]
  subst g7
  refine jC.dataI (hown) (by and_intros<;>first|rfl|(simp(disch:=first|omega|(apply id;simp only[push_cast];try omega))only[push_cast])) ?_
  simp(disch:=first|omega|(apply id;simp only[push_cast];try omega))only[push_cast,simprocAttr]
  exact .id (bV 1 (by decide) (.mk 7 a b s e l))
 simp(disch:=first|omega|(apply id;simp only[push_cast];try omega))only[push_cast,simprocAttr,g12,g11,g7]
 refine jC.dataI (hown) (by and_intros<;>first|rfl|(simp(disch:=first|omega|(apply id;simp only[push_cast];try omega))only[push_cast])) ?_
 simp(disch:=first|omega|(apply id;simp only[push_cast];try omega))only[push_cast,simprocAttr]
 exact .id (bV 1 (by decide) (.mk k a b s e l))
theorem tF1:∀ (x:Tm),smT x=true→jN (pp G) H0 62 [tmV x] (tmV (jL x))
 | .mk k a b s e l,hs=>by
  have hs0:=hs
  simp only[smT,Bool.and_eq_true,decide_eq_true_eq] at hs
  obtain ⟨⟨hll,hse⟩,hsl⟩:=hs
  have ih:∀ x∈l,jN (pp G) H0 62 [tmV x] (tmV (jL x)):=fun x hx=>tF1 x (bJ hsl x hx)
  by_cases h12:k=12∧l.length=2
  ·obtain ⟨rfl,h2⟩:=h12
   obtain ⟨x,y,rfl⟩:∃ x y,l=[x,y]:=by
    match l,h2 with
    | [x,y],_=>exact ⟨x,y,rfl⟩
   exact zC2 G a b s e x y hse (ih x (by simp)) (ih y (by simp)) (yW1 G y (bJ hsl y (by simp)))
  by_cases h11:k=11∧l.length=2
  ·obtain ⟨rfl,h2⟩:=h11
   obtain ⟨x,y,rfl⟩:∃ x y,l=[x,y]:=by
    match l,h2 with
    | [x,y],_=>exact ⟨x,y,rfl⟩
   exact zD2 G a b s e x y hse (ih x (by simp)) (ih y (by simp))
  by_cases h7:k=7∧l.length=1
  ·obtain ⟨rfl,h2⟩:=h7
   obtain ⟨x,rfl⟩:∃ x,l=[x]:=by
    match l,h2 with
    | [x],_=>exact ⟨x,rfl⟩
   exact cT2 G a b s e x hse (ih x (by simp))
  exact cS2 G k a b s e l hll (yW1 G _ hs0) h12 h11 h7
 termination_by x=>SizeOf.sizeOf x
end
end Go.Proofs.Ytgeakofgklcipaa
namespace Go.Proofs.Ytgeakofgklcipaa
open Go Go.RowKit Go.Ev Go.Dv
noncomputable section
set_option maxRecDepth 100000
def small (c:UInt8):Bool:=decide (97≤c.toNat∧c.toNat≤122)
def digit (c:UInt8):Bool:=decide (48≤c.toNat∧c.toNat≤57)
def wordy (c:UInt8):Bool:=small c || digit c || decide (c.toNat=95)
def front (p:UInt8→Bool) (l:List UInt8):Nat:=(l.takeWhile p).length
def keysF:List (List UInt8):=[[118,97,114],[115,116,97,99,107],[112,114,111,99],[115,107,105,112],[100,111],[112,117,115,104],[114,101,118,101,114,115,101],[97,99,99,101,112,116],[109,101,114,103,101],[98,108,111,99,107],[101,120,105,116],[105,102],[101,108,115,101],[99,104,111,111,115,101],[112,97,114],[99,97,108,108]]
def keyF (s:List UInt8):Bool:=decide (s∈keysF)
def lT1 (s:List UInt8):Bool:=!decide (s=[])&&(decide (s.length≤20)&&(!keyF s&&(small (s.getD 0 0)&&decide (front wordy s=s.length))))
mutual
def gW (v:Int):Ex→Bool
 | .mk k n s l => (if k = 1 ∧ 0 ≤ n then decide (l.length = 0) else if k = 2 ∧ 0 ≤ n ∧ n < v then decide (l.length = 0) else if k = 3 ∨ k = 4 then decide (l.length = 1 ∧ n = 0) else if 5 ≤ k ∧ k ≤ 17 then decide (l.length = 2 ∧ n = 0) else false)
   &&decide (s=[])&&gK0 v l
def gK0 (v:Int):List Ex→Bool
 | []=>true
 | x :: l=>gW v x&&gK0 v l
end
def cM0 (v st p what n:Int):Bool:=
 if what=1 then decide (0≤n∧n<v) else if what=2 then decide (n = -1∨(0≤n∧n<v)) else if what=3 then decide (0≤n∧n<st) else if what=4 then decide (0≤n∧n<p) else if what=5 then decide (0≤n) else decide (n=0)
def wE0 (e:Ex):Bool:=!decide (e.k=0) || (!decide (e.n=0) || (!decide (e.s=[]) || decide (0<e.l.length)))
def shA (k:Int):Int:=if k=1 then 2 else if k=2 then 1 else if k=3∨k=4∨k=5∨k=6 then 3 else if k=13 then 4 else if k=14 then 5 else 0
def shB (k:Int):Int:=if k=6 then 3 else if k=14 then 2 else 0
def shN (k:Int):Int:=if k=1∨k=14 then 1 else 0
def shE (k:Int):Int:=if k=2∨k=9 then 1 else 0
def shL (k:Int):Int:=if k=3∨k=7 then 1 else if k=9∨k=10∨k=11∨k=12 then 2 else 0
mutual
def qG (v st p:Int) (pushed:Bool):Tm→Bool
 | .mk k a b s e l=>decide (0≤k∧k<15)&&(!(pushed&&decide (k=14))&&(cM0 v st p (shA k) a&&(cM0 v st p (shB k) b&&(decide ((if s=[] then (0:Int) else 1)=shN k∧(if wE0 e then (1:Int) else 0)=shE k∧(l.length:Int)=shL k)&&((decide (s=[]) || lT1 s)&&((!wE0 e || gW v e)&&cA v st p (pushed || decide (k=3)) l))))))
def cA (v st p:Int) (pushed:Bool):List Tm→Bool
 | []=>true
 | x :: l=>qG v st p pushed x&&cA v st p pushed l
end
theorem gJ0 {v st p:Int} {q:Bool}:∀ {l:List Tm},cA v st p q l=true→∀ x∈l,qG v st p q x=true
 | [],_,x,hx=>by cases hx
 | y :: l,h,x,hx=>by
  simp only[cA,Bool.and_eq_true] at h
  rcases List.mem_cons.1 hx with rfl|hx
  ·exact h.1
  ·exact gJ0 h.2 x hx
end
end Go.Proofs.Ytgeakofgklcipaa
