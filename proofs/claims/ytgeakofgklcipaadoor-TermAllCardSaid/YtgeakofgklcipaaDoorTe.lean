/-
  A part of the proof: what the program's functions hand back,as theorems. No condition but those that each theorem names.
-/
import Derived.Test.YtgeakofgklcipaaDoorEvd
import Derived.Test.YtgeakofgklcipaaDoorExa
import Derived.Test.YtgeakofgklcipaaDoorEva
import Derived.Test.YtgeakofgklcipaaDoorTa
import Derived.Test.YtgeakofgklcipaaDoorExc
import Derived.Test.YtgeakofgklcipaaDoorEve
import Derived.Lib.Bytealg
import Derived.Laws.RangeAny
import Derived.Test.YtgeakofgklcipaaDoorExd
set_option linter.unusedSimpArgs false
set_option linter.unusedVariables false
namespace Go.Proofs.YtgeakofgklcipaaDoor
open _root_.Go.Proofs.Tryd (prog)
open Go Go.RowKit Go.Ev Go.Dv
set_option maxRecDepth 100000
noncomputable section
attribute [local push_cast] eq_self iff_self
theorem dF1 (P:Program) (sg:Nat→Int) (tg:Nat→ByteArray) {NG:Nat} {L:List (Nat×List Value)} {w:World} (hs:NG≤w.heap.size) (hL:okPl L=true)
  (hobj:∀ x∈L,x.1<NG∧∀ (j:Nat) (u:Value),x.2[j]?=some u→w.cell? ⟨x.1,j,none⟩=some u) :
  jT ⟨P,NG,NG,w.heap.size,sg,tg⟩ ⟨fun i=>i,fun _=>0,sg,tg⟩ (kL0 NG L) w:=by
 have hg:∀ i x,(kL0 NG L).get i=some x→i<NG∧∃ cs,x=⟨.cells ⟨cs⟩ 0 (0,0),false⟩∧cs.all one=true∧jQ cs=true∧∀ (j:Nat) (u:Value),cs[j]?=some u→w.cell? ⟨i,j,none⟩=some u:=fun i x hx=>by
  obtain ⟨y,hy,rfl,rfl⟩:=uA0 hx
  obtain ⟨h1,h2⟩:=hobj y hy
  obtain ⟨h3,h4⟩:=fM0 hL hy
  exact ⟨h1,_,rfl,h4,h3,h2⟩
 refine ⟨fun i x hx=>?_,fun i x hx _ hi=>?_,fun i j x y hx _ _ _ hi _ _=>?_,fun g _=>rfl,fun i x hi _ _=>Nat.lt_of_lt_of_le hi hs,rfl,Nat.le_refl _,⟨Nat.le_refl _,hs⟩,Nat.le_refl _,⟨rfl,rfl⟩,iT0.no fun i x hx=>by obtain ⟨_,cs,rfl,_⟩:=hg i x hx;rfl⟩
 ·obtain ⟨hi,cs,rfl,h1,h2,h3⟩:=hg i x hx
  refine ⟨hi,?_⟩
  simp only[OR]
  refine ⟨fun hG=>(by have hG:NG≤i:=hG;omega),fun _=>⟨trivial,Nat.lt_of_lt_of_le hi hs,fun j v hj hv=>?_⟩⟩
  have hj:cs[j]?=some v:=by simpa using hj
  have hm:=List.mem_of_getElem? hj
  refine ⟨List.all_eq_true.1 h1 v hm,?_⟩
  rw[qS _ v (jJ0 h2 v hm)]
  exact h3 j v hj
 ·have:=(hg i x hx).1
  have hi:NG≤i:=hi
  omega
 ·have:=(hg i x hx).1
  have hi:NG≤i:=hi
  omega
def noX:Ext:=fun _ _ _=>none
theorem pY1:(nB0 prog noX (evC prog noX 400) 11 [] (kL0 1 LL)).map (·.1)=some (.bool true):=by kernel_rfl
theorem dH1 (G:Nat×Nat):jI (pp G) H0 11 [] (.bool true):=
 jI.of_known (qB G) Tryd.func11 rfl rfl (fun x hx=>by
  simp only[LL,List.mem_cons,List.not_mem_nil,or_false] at hx
  subst hx
  exact ⟨rfl,rfl,by show (0:Nat)<1;omega,by show (0:Nat)<1;omega⟩) fun w hsz hl=>by
  have:=cU0 (X:=noX) (sg:=fun _=>0) (tg:=fun _=>.empty) (args:=[]) (w:=w) ⟨mL0,mixed,fun _ _ _ _ _ h=>by cases h⟩ (dF1 prog _ _ hsz LL_ok fun x hx=>⟨by
   simp only[LL,List.mem_cons,List.not_mem_nil,or_false] at hx
   subst hx
   show (0:Nat)<1
   omega,hl x hx⟩) Tryd.func11 rfl rfl pY1 rfl rfl
  exact this
end
end Go.Proofs.YtgeakofgklcipaaDoor
namespace Go.Proofs.YtgeakofgklcipaaDoor
open _root_.Go.Proofs.Tryd (prog)
open Go Go.RowKit Go.Ev Go.Dv
noncomputable section
attribute [local push_cast] eq_self iff_self
set_option maxRecDepth 100000
variable (G:Nat×Nat)
mutual
def cK:Tm→List Tm
 | .mk k a b s e l=>.mk k a b s e l :: (if k=12 then actH l else if k=11∨k=7 then gU l else [])
def gU:List Tm→List Tm
 | []=>[]
 | x :: l=>cK x++gU l
def actH:List Tm→List Tm
 | []=>[]
 | x :: _=>cK x
end
theorem gB0:∀ (a b:List Tm),gU (a++b)=gU a++gU b
 | [],b=>rfl
 | x :: a,b=>by rw[List.cons_append,gU,gU,gB0 a b,List.append_assoc]
theorem nL0 (l:List Tm):actH l=gU (l.take 1):=by
 cases l with
 | nil=>rfl
 | cons x l=>rw[actH,List.take_succ_cons,List.take_zero,gU,gU,List.append_nil]
theorem nK0 {l:List Tm} {i:Nat} {x:Tm} (h:l[i]?=some x):gU (l.take (i+1))=gU (l.take i)++cK x:=by
 rw[jW h,gB0,gU,gU,List.append_nil]
structure Yp (lid:Nat) (Y:List Tm→(Nat→Prop)→jA→Prop) (N:List Tm→Prop):Prop where
 lt:∀ {acc B σ},Y acc B σ→∀ k,B k→k<σ.next
 lo:∀ {acc B σ},Y acc B σ→σ.lo=1∧1≤σ.next∧lid<σ.next
 st:∀ {acc B σ σ'},Y acc B σ→jF σ σ' (fun k=>¬ B k)→Y acc B σ'
 y:∀ {acc B σ},Y acc B σ→∀ x,smT x=true→N (acc++[x])→jB (pp G) H0 (.func (.yield lid) ⟨[]⟩ ⟨[]⟩) [tmV x] σ (fun _ v σ'=>v=.bool true∧∃ B',Y (acc++[x]) B' σ'∧(∀ k,B' k→B k∨σ.next≤k)∧jF σ σ' B)
 n:∀ {a b},N (a++b)→N a
def rZ0 (Y:List Tm→(Nat→Prop)→jA→Prop) (acc:List Tm) (B:Nat→Prop) (σ:jA) (v:Value) (σ':jA):Prop:=v=.bool true∧∃ B',Y acc B' σ'∧(∀ k,B' k→B k∨σ.next≤k)∧jF σ σ' B
inductive I63 (lid:Nat) (Y:List Tm→(Nat→Prop)→jA→Prop) (acc:List Tm) (B:Nat→Prop) (σ:jA) (l:List Tm):Nat→S→Prop
 | mk (i:Nat) (iv:Int) (h:jA) (B':Nat→Prop) {x0 x2 x3 x4 x5 x6 x7 x8 x9 xA xB xC xD xE xF xG xH xI xJ xK xL xM xN xO xP xT xU xV xW xX xY xZ yA:Value} (hiv:iv=(i:Int)) (hi:i≤l.length) (hY:Y (acc++gU (l.take i)) B' h) (hB:∀ k,B' k→B k∨σ.next≤k) (g:jF σ h B) :
  I63 lid Y acc B σ l (l.length-i) ⟨(F37 x0 (.func (.yield lid) ⟨[]⟩ ⟨[]⟩) x2 x3 x4 x5 x6 x7 x8 x9 xA xB xC xD xE xF xG xH xI xJ xK xL xM xN xO xP (Rw false etm l.length (qK l)) (.int .i64 l.length) (.int .i64 iv) xT xU xV xW xX xY xZ yA),[],h⟩
theorem rA0 {lid:Nat} {Y:List Tm→(Nat→Prop)→jA→Prop} {N:List Tm→Prop} (yp:Yp G lid Y N) (l:List Tm) (hll:l.length<100000000000) (hsl:bK l=true)
  (ih:∀ x∈l,∀ (acc:List Tm) (B:Nat→Prop) (σ:jA),Y acc B σ→N (acc++cK x)→jX (pp G) H0 63 [tmV x,.func (.yield lid) ⟨[]⟩ ⟨[]⟩] σ (rZ0 Y (acc++cK x) B σ))
  (acc:List Tm) (B:Nat→Prop) (σ:jA) (hY:Y acc B σ) (hN:N (acc++gU l)) {R:Value→jA→Prop} (hR:∀ v σ',rZ0 Y (acc++gU l) B σ v σ'→R v σ') {x0 x2 x3 x4 x6 x7 x8 x9 xA xB xC xD xE xF xG xH xI xJ xK xL xM xN xO xP xQ xR xS xT xU xV xW xX xY xZ yA:Value} :
  dc3 (pp G) qq none bI0 ⟨(F37 x0 (.func (.yield lid) ⟨[]⟩ ⟨[]⟩) x2 x3 x4 (Rw false etm l.length (qK l)) x6 x7 x8 x9 xA xB xC xD xE xF xG xH xI xJ xK xL xM xN xO xP xQ xR xS xT xU xV xW xX xY xZ yA),[],σ⟩ (@kR ⟨jC prog [.tmp 4] R⟩):=by
 rw[qW1]
 push_cast(disch:=first|omega|(apply id;push_cast;try omega))
 refine WD.loop4 (q:=qq) (qB G) (by kernel_rfl) (I63 lid Y acc B σ l) ?_ _ _ (I63.mk 0 0 _ B rfl (Nat.zero_le _) (by rw[List.take_zero,gU,List.append_nil];exact hY) (fun k hk=>.inl hk) (jF.refl _ _))
 intro m s1 hI
 cases hI with|mk i iv h B' hiv hi hY' hB g=>
 subst hiv
 rw[qV1]
 obtain ⟨hl1,hl2,hl3⟩:=yp.lo hY'
 by_cases hil:(i:Int)<l.length
 ·obtain ⟨x,hx⟩:=jR (l:=l) (i:=i) (by omega)
  have hxm:=List.mem_of_getElem? hx
  have hp:=qW hx
  have hle:i*9+9≤l.length*9:=by omega
  push_cast(disch:=first|omega|(apply id;push_cast;try omega))[hil,Int.toNat_natCast,hp,hle,hl1]
  obtain ⟨τ,hτ⟩:∃ τ,τ=(h.add (O [.int .i64 0,.int .i64 0,.int .i64 0,.string (Tx []),.int .i64 0,.int .i64 0,.string (Tx []),.slice none 0 0,.slice none 0 0] 34 false)).put h.next (O (tmC x) 34 false):=⟨_,rfl⟩
  have g0:jF h τ (fun _=>False):=by rw[hτ];exact (by (repeat (first|exact Gr.refl _|assumption|(refine jF.put' ?_ _ _ (by first|omega|(simp only[push_cast];omega)))|(refine jF.add' ?_ _))))
  have hY1:=yp.st hY' (g0.mono fun _ _ h=>h.elim)
  rw[← hτ]
  have hN2:N ((acc++gU (l.take i))++cK x):=by
   have h1:gU l=gU (l.take (i+1))++gU (l.drop (i+1)):=by rw[← gB0,List.take_append_drop]
   rw[h1,← List.append_assoc] at hN
   have:=yp.n hN
   rw[nK0 hx,← List.append_assoc] at this
   exact this
  refine jB.func (cap:=[]) (args:=[_,_]) (ih x hxm _ B' τ hY1 hN2) ?_
  rintro _ σ2 ⟨rfl,B2,hY2,hB2,g2⟩
  push_cast(disch:=first|omega|(apply id;push_cast;try omega))[Bool.not_true]
  have hn0:=g0.next
  refine ⟨_,by omega,I63.mk (i+1) _ _ B2 (by first|rfl|omega) (by omega) (by rw[nK0 hx,← List.append_assoc];exact hY2) (fun k hk=>?_) ?_⟩
  ·have hng:=g.next
   rcases hB2 k hk with h1|h1
   ·exact hB k h1
   ·exact .inr (by omega)
  ·exact (g.tr' g0 fun _ _ h => h.elim).tr' g2 fun k hk hb => by
    rcases hB k hb with h1|h1
    ·exact h1
    ·omega
 ·have hie:i=l.length:=by omega
  subst hie
  rw[List.take_length] at hY'
  push_cast(disch:=first|omega|(apply id;push_cast;try omega))[hil]
  rw[qU1]
  push_cast(disch:=first|omega|(apply id;push_cast;try omega))
  exact hR _ _ ⟨rfl,B',hY',hB,g⟩
theorem wL2 {lid:Nat} {Y:List Tm→(Nat→Prop)→jA→Prop} {N:List Tm→Prop} (yp:Yp G lid Y N):∀ (x:Tm),smT x=true→∀ (acc:List Tm) (B:Nat→Prop) (σ:jA),Y acc B σ→N (acc++cK x)→
   jX (pp G) H0 63 [tmV x,.func (.yield lid) ⟨[]⟩ ⟨[]⟩] σ (rZ0 Y (acc++cK x) B σ)
 | .mk k a b s e l,hs,acc,B,σ,hY,hN=>by
  have hs0:=hs
  simp only[smT,Bool.and_eq_true,decide_eq_true_eq] at hs
  obtain ⟨⟨hll,hse⟩,hsl⟩:=hs
  have ih:∀ x∈l,∀ (acc:List Tm) (B:Nat→Prop) (σ:jA),Y acc B σ→N (acc++cK x)→jX (pp G) H0 63 [tmV x,.func (.yield lid) ⟨[]⟩ ⟨[]⟩] σ (rZ0 Y (acc++cK x) B σ):=fun x hx=>wL2 yp x (uU hsl x hx)
  obtain ⟨hl1,hl2,hl3⟩:=yp.lo hY
  refine jX.fir4 (q:=qq) (qB G) fir63 (by kernel_rfl) rfl rfl (nE1 ..) (by first|exact Nat.le_trans (show NGG≤1 by decide) (by omega)) ?_;rw[kV2]
  have g0:jF σ (σ.add (O (tmC (.mk k a b s e l)) 34 false)) (fun _=>False):=by (repeat (first|exact Gr.refl _|assumption|(refine jF.put' ?_ _ _ (by first|omega|(simp only[push_cast];omega)))|(refine jF.add' ?_ _)))
  have hY1:=yp.st hY (g0.mono fun _ _ h=>h.elim)
  have hN1:N (acc++[.mk k a b s e l]):=by
   rw[cK,← List.singleton_append,← List.append_assoc] at hN
   exact yp.n hN
  push_cast(disch:=first|omega|(apply id;push_cast;try omega))[hl1]
  refine jB.mono (yp.y hY1 _ hs0 hN1) ?_
  rintro _ _ σ2 ⟨rfl,B2,hY2,hB2,g2⟩
  have hnB:¬ B σ.next:=fun hb=>by have:=yp.lt hY _ hb;omega
  have c0:cells σ2 σ.next=some (tmC (.mk k a b s e l),34,false):=g2.cellsE (by push_cast(disch:=first|omega|(apply id;push_cast;try omega))) (by push_cast(disch:=first|omega|(apply id;push_cast;try omega));omega) hnB
  have hn2:=g2.next
  rw[jK] at hn2
  have hl2':σ2.lo=1:=(yp.lo hY2).1
  have fin:∀ (l':List Tm),cK (.mk k a b s e l)=.mk k a b s e l :: gU l'→∀ v σ',rZ0 Y ((acc++[.mk k a b s e l])++gU l') B2 σ2 v σ'→rZ0 Y (acc++cK (.mk k a b s e l)) B σ v σ':=by
   rintro l' he v σ' ⟨rfl,B3,hY3,hB3,g3⟩
   refine ⟨rfl,B3,by rw[he,← List.singleton_append,← List.append_assoc];exact hY3,fun k' hk=>?_,(g0.mono fun _ _ h=>h.elim).trans (g2.tr' g3 fun k' hk hb=>?_) fun _ _ h=>h⟩
   ·rcases hB3 k' hk with h1|h1
    ·rcases hB2 k' h1 with h2|h2
     ·exact .inl h2
     ·rw[jK] at h2;exact .inr (by omega)
    ·exact .inr (by omega)
   ·rcases hB2 k' hb with h2|h2
    ·exact h2
    ·omega
  have e0:(qK l).take ((l.take 1).length*9)=qK (l.take 1):=by rw[zW0];congr 1;cases l<;>rfl
  rw[qH0] at c0
  by_cases h1:k=12
  ·subst h1
   have he:cK (.mk 12 a b s e l)=.mk 12 a b s e l :: gU (l.take 1):=by rw[cK,if_pos rfl,nL0]
   have hm:min 1 (l.length:Int)=((l.take 1).length:Int):=by rw[List.length_take];omega
   rw[he,← List.singleton_append,← List.append_assoc] at hN
   push_cast(disch:=first|omega|(apply id;push_cast;try omega))[c0,hl2',cB2,hm,Int.toNat_natCast,e0,Bool.not_true]
   exact rA0 G yp (l.take 1) (by rw[List.length_take];omega) (gW1 fun x hx=>uU hsl x (List.mem_of_mem_take hx)) (fun x hx=>ih x (List.mem_of_mem_take hx)) _ _ _ hY2 hN (fin _ he)
  ·by_cases h2:k=11∨k=7
   ·have he:cK (.mk k a b s e l)=.mk k a b s e l :: gU l:=by rw[cK,if_neg h1,if_pos h2]
    rw[he,← List.singleton_append,← List.append_assoc] at hN
    by_cases h3:k=11
    ·push_cast(disch:=first|omega|(apply id;push_cast;try omega))[c0,hl2',h1,h3,Bool.not_true]
     exact rA0 G yp l hll hsl ih _ _ _ hY2 hN (fin l he)
    ·have h4:k=7:=by omega
     push_cast(disch:=first|omega|(apply id;push_cast;try omega))[c0,hl2',h1,h3,h4,Bool.not_true]
     exact rA0 G yp l hll hsl ih _ _ _ hY2 hN (fin l he)
   ·have he:cK (.mk k a b s e l)=.mk k a b s e l :: gU []:=by rw[cK,if_neg h1,if_neg h2];rfl
    have h3:¬ k=11:=fun h=>h2 (.inl h)
    have h4:¬ k=7:=fun h=>h2 (.inr h)
    push_cast(disch:=first|omega|(apply id;push_cast;try omega))[c0,hl2',h1,h3,h4,Bool.not_true]
    exact fin [] he _ _ ⟨rfl,B2,by rw[gU,List.append_nil];exact hY2,fun k hk=>.inl hk,jF.refl _ _⟩
 termination_by x=>SizeOf.sizeOf x
theorem sW1 (x:Tm) (σ:jA) (hl0:1≤σ.lo):jX (pp G) H0 42 [tmV x] σ (fun v σ'=>v=.func (.func 62) ⟨[]⟩ ⟨[.pointer (some ⟨σ.next,0,none⟩)]⟩∧σ'=σ.add (O (tmC x) 34 false)):=by
 refine jX.fir4 (q:=qq) (qB G) fir42 (by kernel_rfl) rfl rfl (pW2 ..) (by first|exact Nat.le_trans (show NGG≤1 by decide) (by omega)) ?_;rw[yP2]
 push_cast(disch:=first|omega|(apply id;push_cast;try omega))
 try exact ⟨rfl,rfl⟩
theorem mJ1 {lid:Nat} {Y:List Tm→(Nat→Prop)→jA→Prop} {N:List Tm→Prop} (yp:Yp G lid Y N) (x:Tm) (hs:smT x=true) (b:Nat) (B:Nat→Prop) (σ:jA) (hb:cells σ b=some (tmC x,34,false)) (hb1:1≤b) (hY:Y [] B σ) (hN:N (cK x)) :
  jX (pp G) H0 62 [.func (.yield lid) ⟨[]⟩ ⟨[]⟩,.pointer (some ⟨b,0,none⟩)] σ (fun _ σ'=>rZ0 Y (cK x) B σ (.bool true) σ'):=by
 obtain ⟨hl1,hl2,hl3⟩:=yp.lo hY
 refine jX.fir4 (q:=qq) (qB G) fir62 (by kernel_rfl) rfl rfl (wX2 ..) (by first|exact Nat.le_trans (show NGG≤1 by decide) (by omega)) ?_;rw[kW2]
 push_cast(disch:=first|omega|(apply id;push_cast;try omega))[hb,hl1]
 refine jB.func (cap:=[]) (args:=[_,_]) (wL2 G yp x hs [] B σ hY hN) ?_
 rintro _ σ2 ⟨rfl,B2,hY2,hB2,g2⟩
 push_cast(disch:=first|omega|(apply id;push_cast;try omega))
 exact ⟨rfl,B2,hY2,hB2,g2⟩
def wS (acc:List Tm):List Int:=(acc.filter fun x=>decide (x.k=14)).map Tm.a
def gY (x:Tm):List Int:=wS (cK x)
theorem zA2 (acc:List Tm) (x:Tm):wS (acc++[x])=wS acc++(if x.k=14 then [x.a] else []):=by
 unfold wS
 rw[List.filter_append,List.map_append]
 congr 1
 by_cases h:x.k=14<;>simp[h]
theorem sD0 (acc:List Tm):(wS acc).length≤acc.length:=by
 unfold wS
 rw[List.length_map]
 exact List.length_filter_le _ _
def tmW (t:Tm):VT:=F17 (tmV t) (.pointer (some ⟨1,0,none⟩)) (.slice none 0 0) (.pointer (some ⟨2,0,none⟩)) ud (tmV t) (.func (.func 62) ⟨[]⟩ ⟨[.pointer (some ⟨3,0,none⟩)]⟩) ud ud ud ud ud ud ud ud ud ud
def lpW (t:Tm):Loop:={ state:=.ready,pending:=none,fn:=0,tmps:=(tmW t).arr,params:=#[7],assign:=subC prog 24 0,body:=subC prog 24 1,defers:=4 }
structure Yw (t:Tm) (acc:List Tm) (B:Nat→Prop) (σ:jA):Prop where
 lo:σ.lo=1
 nx:6≤σ.next
 lp:σ.get 5=some ⟨.loop (lpW t),false⟩
 w:∃ q c,cells σ 2=some ([.slice q (wS acc).length c],42,false)∧qI σ eI 1 q (wS acc).length c (ivs (wS acc))∧(∀ k,blk q k→6≤k∧k<σ.next)∧B=fun k=>k=5∨k=2∨blk q k
theorem setW (t x:Tm):bL (tmW t) ((#[7]:Array Nat).toList.zip [tmV x])=F17 (tmV t) (.pointer (some ⟨1,0,none⟩)) (.slice none 0 0) (.pointer (some ⟨2,0,none⟩)) ud (tmV t) (.func (.func 62) ⟨[]⟩ ⟨[.pointer (some ⟨3,0,none⟩)]⟩) (tmV x) ud ud ud ud ud ud ud ud ud:=by kernel_rfl
theorem uX2 (x:Int) (σ:jA):bsD (qq.m 42) (slT prog 42) 1 [(0,.int .i64 x)] σ=some (Rw true eI 1 (ivs [x]),σ):=by kernel_rfl
theorem yw (t:Tm):Yp G 5 (Yw t) (fun acc=>acc.length<1000000000000) where
 lt:=fun {acc B σ} hY k hk=>by
  obtain ⟨hl,hn,hlp,q,c,h1,h2,h3,rfl⟩:=hY
  rcases hk with rfl|rfl|hk
  ·omega
  ·omega
  ·exact (h3 k hk).2
 lo:=fun {acc B σ} hY=>⟨hY.lo,by have:=hY.nx;omega,by have:=hY.nx;omega⟩
 n:=fun {a b} h=>by rw[List.length_append] at h;omega
 st:=fun {acc B σ σ'} hY g=>by
  obtain ⟨hl,hn,hlp,q,c,h1,h2,h3,rfl⟩:=hY
  have hgn:=g.next
  refine ⟨g.lo.trans hl,by omega,(g.get _ (by omega) (fun h=>h (.inl rfl))).trans hlp,q,c,g.cellsE h1 (by omega) (fun h=>h (.inr (.inl rfl))),h2.grew g (fun b hb h=>h (.inr (.inr hb))),fun k hk=>⟨(h3 k hk).1,by have:=(h3 k hk).2;omega⟩,rfl⟩
 y:=fun {acc B σ} hY x hsx hN=>by
  obtain ⟨hl,hn,hlp,q,c,h1,h2,h3,rfl⟩:=hY
  rw[List.length_append,List.length_singleton] at hN
  have hwl:=sD0 acc
  refine jB.yield (q:=qq) (T:=tmW t) (qB G) (jI0 hlp (by omega)) (by omega) rfl (by show 17<U;unfold U;omega) rfl sQ1 sP1 (show irOk NGG fY1=true by kernel_rfl) (show irOk NGG fX1=true by kernel_rfl) (by rw[hl];exact (show NGG≤1 by decide)) ?_
  rw[show (lpW t).params=#[7] from rfl,setW,bP1]
  push_cast(disch:=first|omega|(apply id;push_cast;try omega))
  obtain ⟨τ,hτ⟩:∃ τ,τ=(σ.add (O [.int .i64 0,.int .i64 0,.int .i64 0,.string (Tx []),.int .i64 0,.int .i64 0,.string (Tx []),.slice none 0 0,.slice none 0 0] 34 false)).put σ.next (O (tmC x) 34 false):=⟨_,rfl⟩
  have g0:jF σ τ (fun _=>False):=by rw[hτ];exact (by (repeat (first|exact Gr.refl _|assumption|(refine jF.put' ?_ _ _ (by first|omega|(simp only[push_cast];omega)))|(refine jF.add' ?_ _))))
  have c0:cells τ σ.next=some (tmC x,34,false):=by rw[hτ];push_cast(disch:=first|omega|(apply id;push_cast;try omega))
  rw[← hτ]
  have hn0:σ.next+1≤τ.next:=by rw[hτ];push_cast(disch:=first|omega|(apply id;push_cast;try omega));omega
  have hl0:τ.lo=1:=by rw[g0.lo,hl]
  have k1:=g0.cellsE h1 (by omega) id
  have k2:=h2.grew g0 (fun _ _ h=>h)
  have klp:=(g0.get _ (by omega) id).trans hlp
  clear hτ
  simp only[kR,hi,iQ0]
  rw[jI0 klp (by omega)]
  refine ⟨rfl,?_⟩
  rw[show (jS τ 5 { lpW t with state:=.busy })=τ.put 5 ⟨.loop { lpW t with state:=.busy },false⟩ from rfl]
  obtain ⟨τ2,hτ2⟩:∃ τ2,τ2=τ.put 5 ⟨.loop { lpW t with state:=.busy },false⟩:=⟨_,rfl⟩
  rw[← hτ2]
  have g2:jF τ τ2 (fun k=>k=5):=by rw[hτ2];exact jF.put _ _ _ fun _=>rfl
  have b0:=g2.cellsE c0 (by omega) (by omega)
  have b1:=g2.cellsE k1 (by omega) (by omega)
  have b2:=k2.grew g2 (fun k hk e=>by have:=h3 k hk;omega)
  have blp:τ2.get 5=some ⟨.loop { lpW t with state:=.busy },false⟩:=by rw[hτ2];exact cM _ _
  have hl2:τ2.lo=1:=by rw[g2.lo,hl0]
  have hn2:=g2.next
  have gg:jF σ τ2 (fun k=>k=5∨k=2∨blk q k):=(g0.mono fun _ _ h=>h.elim).tr' g2 fun k _ h=>.inl h
  clear hτ2 g2 g0
  rw[bO1]
  obtain ⟨xk,xa,xb,xs,xe,xl⟩:=x
  rw[qH0] at b0
  have hwx:=zA2 acc (.mk xk xa xb xs xe xl)
  have fin : ∀ (D : S) (q' : Option Addr) (c' : Nat), D.h.get 5 = some ⟨.loop { lpW t with state := .busy }, false⟩ → D.h.lo = 1 → cells D.h 2 = some ([.slice q' (wS (acc ++ [.mk xk xa xb xs xe xl])).length c'], 42, false) → qI D.h eI 1 q' (wS (acc ++ [.mk xk xa xb xs xe xl])).length c' (ivs (wS (acc ++ [.mk xk xa xb xs xe xl]))) →
    (∀ k,blk q' k→blk q k∨τ2.next≤k)→jF τ2 D.h (fun k=>k=2∨blk q k)→
    lJ0 5 (fun (_:Bool) v σ'=>v=.bool true∧∃ B',Yw t (acc++[.mk xk xa xb xs xe xl]) B' σ'∧(∀ k,B' k→(k=5∨k=2∨blk q k)∨σ.next≤k)∧jF σ σ' (fun k=>k=5∨k=2∨blk q k)) .normal D:=by
   rintro ⟨tm,df,τ3⟩ q' c' f1 f2 f3 f4 f5 f6
   simp only[lJ0]
   rw[jI0 f1 (by omega)]
   have f7:τ2.next≤τ3.next:=f6.next
   have hq':∀ k,blk q' k→6≤k∧k<τ3.next:=fun k hk=>⟨by rcases f5 k hk with h|h;exact (h3 k h).1;omega,(qI.lt f4 hk).2⟩
   have gp:jF τ3 (jS τ3 5 (lpW t)) (fun k=>k=5):=jF.put _ _ _ fun _=>rfl
   refine ⟨rfl,fun k=>k=5∨k=2∨blk q' k,⟨f2,(by show 6≤τ3.next;omega),cM _ _,q',c',gp.cellsE f3 (by show _<τ3.next;omega) (by omega),f4.grew gp (fun k hk e=>by have:=hq' k hk;omega),hq',rfl⟩,fun k hk=>?_,(gg.tr' f6 fun k hk h=>.inr h).tr' gp fun k hk h=>.inl h⟩
   ·rcases hk with rfl|rfl|hk
    ·exact .inl (.inl rfl)
    ·exact .inl (.inr (.inl rfl))
    ·rcases f5 k hk with h|h
     ·exact .inl (.inr (.inr h))
     ·exact .inr (by omega)
  by_cases hk:xk=14
  ·subst hk
   obtain ⟨a',c',σ',e,o',g',b'⟩:=gM (by_:=8) b2 (by omega) (by omega) (m:=1) (xs:=ivs [xa]) rfl rfl (by omega)
   have hn':=g'.next
   have r1:=g'.cellsE b1 (by omega) (fun h=>by have:=h3 _ h;omega)
   have rl:=(g'.get _ (by omega) (fun h=>by have:=h3 _ h;omega)).trans blp
   have hl3:σ'.lo=1:=by rw[g'.lo,hl2]
   rw[if_pos (by rfl)] at hwx
   have hwl2:(wS (acc++[.mk 14 xa xb xs xe xl])).length=(wS acc).length+1:=by rw[hwx];exact List.length_append
   push_cast(disch:=first|omega|(apply id;push_cast;try omega))[b0,b1,hl2,↓uX2,e,r1,hl3]
   have gp:jF σ' (σ'.put 2 (O [.slice a' ((wS acc).length+1) c'] 42 false)) (fun k=>k=2):=jF.put _ _ _ fun _=>rfl
   have hb':∀ k,blk a' k→¬ k=2:=fun k hk=>by
    rcases b' k hk with h|h
    ·have:=h3 k h;omega
    ·omega
   refine fin _ a' c' ((gp.get _ (by omega) (by omega)).trans rl) (by push_cast(disch:=first|omega|(apply id;push_cast;try omega))[hl3]) (by rw[hwl2];push_cast(disch:=first|omega|(apply id;push_cast;try omega))) ?_ b' ((g'.mono (T:=fun k=>k=2∨blk q k) fun _ _ h=>.inr h).tr' gp fun _ _ h=>.inl h)
   rw[hwl2,hwx]
   show qI _ _ _ _ _ _ (ivs (wS acc++[xa]))
   rw[oT0]
   exact o'.grew gp hb'
  ·rw[if_neg (by exact hk),List.append_nil] at hwx
   push_cast(disch:=first|omega|(apply id;push_cast;try omega))[b0,b1,hk,hl2]
   exact fin _ q c blp hl2 (by rw[hwx];exact b1) (by rw[hwx];exact b2) (fun k h=>.inl h) (jF.refl _ _)
theorem pW1 {l:Nat} {s:S} {mk:List Nat} {R:jJ→S→Prop} {v:Value} {h2:jA} {r:Loop} (hg:qM h2 l=some r) (hs:r.state=.ready) (hp:r.pending=none) (hR:R .normal ⟨s.tm,mk++s.df,jS h2 l { r with state:=.exhausted }⟩):yC0 l s mk R v h2:=by
 have he:uE0 l ⟨s.tm,mk++s.df,h2⟩=some (.normal,⟨s.tm,mk++s.df,jS h2 l { r with state:=.exhausted }⟩):=by
  unfold uE0
  rw[hg]
  obtain ⟨st,pd,fn,tm',ps',as',bd',df'⟩:=r
  cases hs
  cases hp
  rfl
 unfold yC0
 rw[he]
 exact hR
theorem wZ2 (t:Tm) (hs:smT t=true) (hn:(cK t).length<1000000000000):jI (pp G) H0 24 [tmV t] (ivV (gY t)):=by
 refine cE G fir24 (by kernel_rfl) (rY0 ..) fun hlo=>?_;rw[gF2]
 push_cast(disch:=first|omega|(apply id;push_cast;try omega))
 refine jB.func (cap:=[]) (args:=[_]) (sW1 G t _ (by push_cast(disch:=first|omega|(apply id;push_cast;try omega)))) ?_
 rintro _ _ ⟨rfl,rfl⟩
 push_cast(disch:=first|omega|(apply id;push_cast;try omega))
 obtain ⟨σ,hσ⟩:∃ σ,σ=((H0.add (O (tmC t) 34 false)).add (O [.slice none 0 0] 42 false)).add (O (tmC t) 34 false):=⟨_,rfl⟩
 have n4:σ.next=4:=by rw[hσ];push_cast(disch:=first|omega|(apply id;push_cast;try omega))
 have l4:σ.lo=1:=by rw[hσ];push_cast(disch:=first|omega|(apply id;push_cast;try omega))
 have c2:cells σ 2=some ([.slice none 0 0],42,false):=by rw[hσ];push_cast(disch:=first|omega|(apply id;push_cast;try omega))
 have c3:cells σ 3=some (tmC t,34,false):=by rw[hσ];push_cast(disch:=first|omega|(apply id;push_cast;try omega))
 have gH:jF H0 σ (fun _=>False):=by rw[hσ];exact (by (repeat (first|exact Gr.refl _|assumption|(refine jF.put' ?_ _ _ (by first|omega|(simp only[push_cast];omega)))|(refine jF.add' ?_ _))))
 rw[← hσ]
 clear hσ
 refine WD.range (q:=qq) (qB G) (f:=62) (captured:=[.pointer (some ⟨3,0,none⟩)]) rfl rfl ?_
 show jX _ _ _ (.func (.yield (σ.next+1)) _ _ :: _) ((σ.add _).add ⟨.loop { state:=.ready,pending:=none,fn:=0,tmps:=_,params:=_,assign:=_,body:=_,defers:=σ.next },false⟩) (yC0 (σ.next+1) _ [σ.next] _)
 rw[n4]
 have g1:jF σ ((σ.add ⟨.deferred (some []),false⟩).add ⟨.loop (lpW t),false⟩) (fun _=>False):=(jF.add _ _ _).trans (jF.add _ _ _) fun _ _ h=>h
 have hY:Yw t [] (fun k=>k=5∨k=2∨blk none k) ((σ.add ⟨.deferred (some []),false⟩).add ⟨.loop (lpW t),false⟩):=by
  refine ⟨by push_cast(disch:=first|omega|(apply id;push_cast;try omega))[l4],by push_cast(disch:=first|omega|(apply id;push_cast;try omega))[n4],jH0 _ _ (by rw[jK,n4]),none,0,g1.cellsE c2 (by omega) id,qI.nil _ _ _,fun k hk=>?_,rfl⟩
  obtain ⟨o,s,e⟩:=hk
  cases e
 refine (mJ1 G (yw G t) t hs 3 _ _ (g1.cellsE c3 (by omega) id) (by decide) hY hn).mono ?_
 rintro v σ2 ⟨-,B2,hY2,hB2,g2⟩
 obtain ⟨hl,hnx,hlp,q,c,h1,h2,h3,rfl⟩:=hY2
 have hmk:σ2.get 4=some ⟨.deferred (some []),false⟩:=by
  refine (g2.get _ (by rw[jK,jK];omega) ?_).trans ?_
  ·rintro (h|h|⟨o,s,e⟩)
   ·omega
   ·omega
   ·cases e
  ·rw[qY _ _ (by rw[jK];omega),jH0 _ _ n4.symm]
 have gp:jF σ2 (jS σ2 5 { lpW t with state:=.exhausted }) (fun k=>k=5):=jF.put _ _ _ fun _=>rfl
 refine pW1 (jI0 hlp (by omega)) rfl rfl ?_
 generalize jS σ2 5 { lpW t with state:=.exhausted }=τ at gp
 have r1:=gp.cellsE h1 (by omega) (by omega)
 have r2:=h2.grew gp (fun k hk e=>by have:=h3 k hk;omega)
 have r3:=(gp.get _ (by omega) (by omega)).trans hmk
 have r4:τ.lo=1:=by rw[gp.lo,hl]
 have hwl:=sD0 (cK t)
 push_cast(disch:=first|omega|(apply id;push_cast;try omega))
 rw[wK1]
 push_cast(disch:=first|omega|(apply id;push_cast;try omega))[r1,r4]
 rw[mY0 r3 (by omega),show gN [] (τ.put 4 ⟨.deferred none,false⟩)=some (τ.put 4 ⟨.deferred none,false⟩) from rfl]
 push_cast(disch:=first|omega|(apply id;push_cast;try omega))
 have g4:jF τ (τ.put 4 ⟨.deferred none,false⟩) (fun k=>k=4):=jF.put _ _ _ fun _=>rfl
 have:=qI.fz (P:=(pp G).P) (N:=1) (r2.grew g4 (fun k hk e=>by have:=h3 k hk;omega)) (by rfl) (by decide) (by omega) (.ids (bG0 _ _)) (fun k hk=>by have:=h3 k hk;omega)
 exact this
end
end Go.Proofs.YtgeakofgklcipaaDoor
namespace Go.Proofs.YtgeakofgklcipaaDoor
open _root_.Go.Proofs.Tryd (prog)
open Go Go.RowKit Go.Ev Go.Dv
noncomputable section
attribute [local push_cast] eq_self iff_self
set_option maxRecDepth 100000
theorem u_a3:prog.underlying 77=some (.array 3 3):=by kernel_rfl
theorem nA2:prog.eqGuardType prog.depth 77=false:=by kernel_rfl
theorem bA2 (P:Program):pv P program=some P:=rfl
theorem lY2 (a b c:Int):pv prog (part 3 ⟨[.int .i64 a,.int .i64 b,.int .i64 c]⟩ (0*1))=some (.int .i64 a)∧pv prog (part 3 ⟨[.int .i64 a,.int .i64 b,.int .i64 c]⟩ (1*1))=some (.int .i64 b)∧pv prog (part 3 ⟨[.int .i64 a,.int .i64 b,.int .i64 c]⟩ (2*1))=some (.int .i64 c):=⟨by kernel_rfl,by kernel_rfl,by kernel_rfl⟩
theorem szA:pv prog (sizeOf 3)=some 1:=by kernel_rfl
theorem eqI (d:Nat) (a b:Int):pv prog (Op.equalIn (d+1) 3 (.int .i64 a) (.int .i64 b))=some (a == b):=by kernel_rfl
theorem bB2 {α:Type} (P:Program) (c:Prop) [Decidable c] (x y:Sem α):pv P (if c then x else y)=if c then pv P x else pv P y:=by split<;>rfl
theorem lT2 (d:Nat) (a b c a' b' c':Int):pv prog (Op.equalIn (d+2) 77 (.agg ⟨[.int .i64 a,.int .i64 b,.int .i64 c]⟩) (.agg ⟨[.int .i64 a',.int .i64 b',.int .i64 c']⟩))=some (a == a'&&b == b'&&c == c'):=by
 rw[Op.equalIn]
 simp only[bR,jM0 u_a3,Option.bind_some,szA]
 simp only[Std.Legacy.Range.forIn_eq_forIn_range',Std.Legacy.Range.size]
 rw[show List.range' 0 ((3-0+1-1) / 1)=[0,1,2] from rfl]
 have p1:=lY2 a b c
 have p2:=lY2 a' b' c'
 simp only[List.forIn_cons,List.forIn_nil,bR,bB2,p1,p2,eqI,Option.bind_some]
 cases h1:(a == a')<;>cases h2:(b == b')<;>cases h3:(c == c')<;>simp[kS,bR,bB2,p1,p2,eqI,h1,h2,h3]
theorem bC2 (a b c a' b' c':Int):pv prog (Op.equal 77 (.agg ⟨[.int .i64 a,.int .i64 b,.int .i64 c]⟩) (.agg ⟨[.int .i64 a',.int .i64 b',.int .i64 c']⟩))=some (a == a'&&b == b'&&c == c'):=lT2 9998 a b c a' b' c'
theorem eL0 {x y:Operand} {a b c a' b' c':Int}:jD prog .neq 77 x y (.agg ⟨[.int .i64 a,.int .i64 b,.int .i64 c]⟩) (.agg ⟨[.int .i64 a',.int .i64 b',.int .i64 c']⟩)=some (.bool (!decide (a=a'∧b=b'∧c=c'))):=by
 have hg:pv prog (eqGuard .neq 77 x y (.agg ⟨[.int .i64 a,.int .i64 b,.int .i64 c]⟩) (.agg ⟨[.int .i64 a',.int .i64 b',.int .i64 c']⟩))=some ():=by
  simp only[eqGuard,bB2,bR,bA2,Option.bind_some,nA2,Bool.not_true,Bool.not_false,Bool.false_eq_true,if_false,if_true,kS]
 have hb:pv prog (binOp .neq 77 (.agg ⟨[.int .i64 a,.int .i64 b,.int .i64 c]⟩) (.agg ⟨[.int .i64 a',.int .i64 b',.int .i64 c']⟩))=some (.bool (!(a == a'&&b == b'&&c == c'))):=by
  simp only[binOp,cI1,bR,bC2,Option.map_some,Option.bind_some,kS]
 have e:(a == a'&&b == b'&&c == c')=decide (a=a'∧b=b'∧c=c'):=by
  rw[Bool.eq_iff_iff]
  simp[and_assoc]
 rw[← e]
 simp only[jD,pvF,flat,jQ,Bool.and_self,bR,hg,hb,Option.bind_some]
end
end Go.Proofs.YtgeakofgklcipaaDoor
namespace Go.Proofs.YtgeakofgklcipaaDoor
open _root_.Go.Proofs.Tryd (prog)
open Go Go.RowKit Go.Ev Go.Dv
noncomputable section
attribute [local push_cast] eq_self iff_self
set_option maxRecDepth 100000
variable (G:Nat×Nat)
inductive I39 (k n:Int) (s:List UInt8) (l:List Ex) (k' n':Int) (s':List UInt8) (l':List Ex):Nat→S→Prop
 | mk (i : Nat) (iv : Int) (h : jA) {x0 x1 x2 x4 x5 x6 x7 x8 x9 xA xB xC xD xE xF xG xH xI xJ xK xL xM xN xO xP xQ xR xS xT xU xV xW xX xY xZ yD yE yF yG yH yI yJ yK yL yM yN yO yP : Value} (hiv : iv = (i : Int)) (hi : i ≤ l.length) (c2 : cells h 2 = some (exC (.mk k' n' s' l'), 31, false)) (hl1 : h.lo = 1) (hl2 : 3 ≤ h.next)
   (ha:∀ j,j<i→∀ x y,l[j]?=some x→l'[j]?=some y→gD x y=true) :
  I39 k n s l k' n' s' l' (l.length-i) ⟨(F52 x0 x1 x2 (.pointer (some ⟨2,0,none⟩)) x4 x5 x6 x7 x8 x9 xA xB xC xD xE xF xG xH xI xJ xK xL xM xN xO xP xQ xR xS xT xU xV xW xX xY xZ (Rw false eE l.length (kF l)) (.int .i64 l'.length) (.int .i64 iv) yD yE yF yG yH yI yJ yK yL yM yN yO yP),[],h⟩
theorem bU1:∀ a b:Ex,smE a=true→smE b=true→jI (pp G) H0 39 [exV a,exV b] (.bool (gD a b))
 | .mk k n s l,.mk k' n' s' l',hs,hs'=>by
  simp only[smE,Bool.and_eq_true,decide_eq_true_eq] at hs hs'
  have ih:∀ x∈l,∀ y∈l',jI (pp G) H0 39 [exV x,exV y] (.bool (gD x y)):=fun x hx y hy=>bU1 x y (cT hs.2 x hx) (cT hs'.2 y hy)
  refine cE G fir39 (by kernel_rfl) (nC1 ..) fun hlo=>?_;rw[yS2]
  rw[gD]
  obtain ⟨b,hb⟩:∃ b,b=(decide (k=k')&&(decide (n=n')&&(decide (s=s')&&(decide (l.length=l'.length)&&bN l l')))):=⟨_,rfl⟩
  rw[← hb]
  by_cases h1:k=k'
  rotate_left
  ·obtain rfl:b=false:=by rw[hb];simp[h1]
   push_cast(disch:=first|omega|(apply id;push_cast;try omega))[h1]
   exact .id rfl
  by_cases h2:n=n'
  rotate_left
  ·obtain rfl:b=false:=by rw[hb];simp[h2]
   push_cast(disch:=first|omega|(apply id;push_cast;try omega))[h1,h2]
   exact .id rfl
  by_cases h3:s=s'
  rotate_left
  ·obtain rfl:b=false:=by rw[hb];simp[h3]
   have h3':(s == s')=false:=by simpa using h3
   push_cast(disch:=first|omega|(apply id;push_cast;try omega))[h1,h2,h3']
   exact .id rfl
  by_cases h4:l.length=l'.length
  rotate_left
  ·obtain rfl:b=false:=by rw[hb];simp[h4]
   have h4':¬ (l.length:Int)=l'.length:=by omega
   push_cast(disch:=first|omega|(apply id;push_cast;try omega))[h1,h2,h3,h4',beq_self_eq_true]
   exact .id rfl
  have h4':(l.length:Int)=l'.length:=by omega
  have hb':b=bN l l':=by rw[hb];simp[h1,h2,h3,h4]
  clear hb
  push_cast(disch:=first|omega|(apply id;push_cast;try omega))[h1,h2,h3,h4',beq_self_eq_true]
  refine WD.loop4 (q:=qq) (qB G) (by kernel_rfl) (I39 k n s l k' n' s' l') ?_ _ _ (I39.mk 0 0 _ rfl (Nat.zero_le _) (by first|assumption|(push_cast(disch:=first|omega|(apply id;push_cast;try omega))[h1,h2,h3];try omega)) rfl tH (fun j hj=>by omega))
  intro m s1 hI
  cases hI with|mk i iv h hiv hi c2 hl1 hl2 ha=>
  subst hiv
  rw[uN1]
  by_cases hil:(i:Int)<l'.length
  ·obtain ⟨x,hx⟩:=jR (l:=l) (i:=i) (by omega)
   obtain ⟨y,hy⟩:=jR (l:=l') (i:=i) (by omega)
   have hp:=cN hx
   have hp':=cN hy
   have hle:i*4+4≤l'.length*4:=by omega
   have hle2:i*4+4≤l.length*4:=by omega
   push_cast(disch:=first|omega|(apply id;push_cast;try omega))[hil,Int.toNat_natCast,hp,hp',hle,hle2,hl1,c2,h4']
   refine dK (ih x (List.mem_of_getElem? hx) y (List.mem_of_getElem? hy)) ?_
   cases hr:gD x y with
   | true=>
    push_cast(disch:=first|omega|(apply id;push_cast;try omega))
    exact ⟨_,by omega,I39.mk (i+1) _ _ (by first|rfl|omega) (by omega) (by first|assumption|(push_cast(disch:=first|omega|(apply id;push_cast;try omega))[c2];try omega)) (by first|assumption|(push_cast(disch:=first|omega|(apply id;push_cast;try omega))[hl1];try omega)) tH fun j hj u v hu hv=>by
     by_cases e:j=i
     ·subst e;rw[hx] at hu;rw[hy] at hv;cases hu;cases hv;exact hr
     ·exact ha j (by omega) u v hu hv⟩
   | false=>
    obtain rfl:b=false:=by
     rw[hb']
     cases hc:bN l l' with
     | false=>rfl
     | true=>rw[kE0 hc i x y hx hy] at hr;cases hr
    push_cast(disch:=first|omega|(apply id;push_cast;try omega))
    exact .id rfl
  ·obtain rfl : b = true := by
    rw[hb']
    exact gR0 fun j u v hu hv=>ha j (by have:=(List.getElem?_eq_some_iff.1 hu).1;omega) u v hu hv
   push_cast(disch:=first|omega|(apply id;push_cast;try omega))[hil,c2,hl1,h4']
   rw[uM1]
   push_cast(disch:=first|omega|(apply id;push_cast;try omega))
   exact .id rfl
 termination_by x=>SizeOf.sizeOf x
inductive I19 (l:List Tm) (k a b:Int) (s:List UInt8) (e:Ex) (l':List Tm):Nat→S→Prop
 | mk (i : Nat) (iv : Int) (h : jA) {x0 x1 x2 x4 x5 x6 x7 x8 x9 xA xB xC xD xE xF xG xH xI xJ xK xL xM xN xO xP xQ xR xS xT xU xV xW xX xY xZ yA yB yC yD yE yF yG yH yI yJ yK yO yP yQ yR yS yT yU yV yW yX yY yZ zA : Value} (hiv : iv = (i : Int)) (hi : i ≤ l.length) (c2 : cells h 2 = some (tmC (.mk k a b s e l'), 34, false)) (hl1 : h.lo = 1) (hl2 : 3 ≤ h.next)
   (ha:∀ j,j<i→∀ x y,l[j]?=some x→l'[j]?=some y→wG0 x y=true) :
  I19 l k a b s e l' (l.length-i) ⟨(F63 x0 x1 x2 (.pointer (some ⟨2,0,none⟩)) x4 x5 x6 x7 x8 x9 xA xB xC xD xE xF xG xH xI xJ xK xL xM xN xO xP xQ xR xS xT xU xV xW xX xY xZ yA yB yC yD yE yF yG yH yI yJ yK (Rw false etm l.length (qK l)) (.int .i64 l'.length) (.int .i64 iv) yO yP yQ yR yS yT yU yV yW yX yY yZ zA),[],h⟩
theorem bV1:∀ t u:Tm,smT t=true→smT u=true→jI (pp G) H0 19 [tmV t,tmV u] (.bool (wG0 t u))
 | .mk k a b s e l,.mk k' a' b' s' e' l',hs,hs'=>by
  simp only[smT,Bool.and_eq_true,decide_eq_true_eq] at hs hs'
  have ih:∀ x∈l,∀ y∈l',jI (pp G) H0 19 [tmV x,tmV y] (.bool (wG0 x y)):=fun x hx y hy=>bV1 x y (uU hs.2 x hx) (uU hs'.2 y hy)
  have he:=bU1 G e e' hs.1.2 hs'.1.2
  refine cE G fir19 (by kernel_rfl) (fC2 ..) fun hlo=>?_;rw[gI2]
  rw[wG0]
  obtain ⟨c,hb⟩:∃ c,c=(decide (k=k')&&(decide (a=a')&&(decide (b=b')&&(decide (s=s')&&(gD e e'&&(decide (l.length=l'.length)&&cC l l')))))):=⟨_,rfl⟩
  rw[← hb]
  by_cases h1:k=k'∧a=a'∧b=b'
  rotate_left
  ·obtain rfl : c = false := by
    rw[hb]
    by_cases g1:k=k'
    ·by_cases g2:a=a'
     ·have g3:¬ b=b':=fun g3=>h1 ⟨g1,g2,g3⟩
      simp[g3]
     ·simp[g2]
    ·simp[g1]
   push_cast(disch:=first|omega|(apply id;push_cast;try omega))[eL0,h1,decide_false,Bool.not_false]
   exact .id rfl
  obtain ⟨rfl,rfl,rfl⟩:=h1
  have h1:(k=k∧a=a∧b=b):=⟨rfl,rfl,rfl⟩
  by_cases h3:s=s'
  rotate_left
  ·obtain rfl:c=false:=by rw[hb];simp[h3]
   have h3':(s == s')=false:=by simpa using h3
   push_cast(disch:=first|omega|(apply id;push_cast;try omega))[eL0,h1,decide_true,Bool.not_true,h3']
   exact .id rfl
  by_cases h4:l.length=l'.length
  rotate_left
  ·obtain rfl:c=false:=by rw[hb];simp[h4]
   have h4':¬ (l.length:Int)=l'.length:=by omega
   push_cast(disch:=first|omega|(apply id;push_cast;try omega))[eL0,h1,decide_true,Bool.not_true,h3,beq_self_eq_true,h4']
   exact .id rfl
  have h4':(l.length:Int)=l'.length:=by omega
  push_cast(disch:=first|omega|(apply id;push_cast;try omega))[eL0,h1,decide_true,Bool.not_true,h3,beq_self_eq_true,h4']
  refine dK (he) ?_
  by_cases h6:gD e e'=true
  rotate_left
  ·have h6:gD e e'=false:=by simpa using h6
   obtain rfl:c=false:=by rw[hb];simp[h6]
   push_cast(disch:=first|omega|(apply id;push_cast;try omega))[h6]
   exact .id rfl
  have hb':c=cC l l':=by rw[hb];simp[h3,h4,h6]
  clear hb
  push_cast(disch:=first|omega|(apply id;push_cast;try omega))[h6,h4']
  refine WD.loop4 (q:=qq) (qB G) (by kernel_rfl) (I19 l k a b s' e' l') ?_ _ _ (I19.mk 0 0 _ rfl (Nat.zero_le _) (by first|assumption|(push_cast(disch:=first|omega|(apply id;push_cast;try omega))[h3];try omega)) rfl tH (fun j hj=>by omega))
  intro m s1 hI
  cases hI with|mk i iv h hiv hi c2 hl1 hl2 ha=>
  subst hiv
  rw[wQ1]
  by_cases hil:(i:Int)<l'.length
  ·obtain ⟨x,hx⟩:=jR (l:=l) (i:=i) (by omega)
   obtain ⟨y,hy⟩:=jR (l:=l') (i:=i) (by omega)
   have hp:=qW hx
   have hp':=qW hy
   have hle:i*9+9≤l'.length*9:=by omega
   have hle2:i*9+9≤l.length*9:=by omega
   push_cast(disch:=first|omega|(apply id;push_cast;try omega))[hil,Int.toNat_natCast,hp,hp',hle,hle2,hl1,c2,h4']
   refine dK (ih x (List.mem_of_getElem? hx) y (List.mem_of_getElem? hy)) ?_
   cases hr:wG0 x y with
   | true=>
    push_cast(disch:=first|omega|(apply id;push_cast;try omega))
    exact ⟨_,by omega,I19.mk (i+1) _ _ (by first|rfl|omega) (by omega) (by first|assumption|(push_cast(disch:=first|omega|(apply id;push_cast;try omega))[c2];try omega)) (by first|assumption|(push_cast(disch:=first|omega|(apply id;push_cast;try omega))[hl1];try omega)) tH fun j hj u v hu hv=>by
     by_cases e:j=i
     ·subst e;rw[hx] at hu;rw[hy] at hv;cases hu;cases hv;exact hr
     ·exact ha j (by omega) u v hu hv⟩
   | false=>
    obtain rfl:c=false:=by
     rw[hb']
     cases hc:cC l l' with
     | false=>rfl
     | true=>rw[kD0 hc i x y hx hy] at hr;cases hr
    push_cast(disch:=first|omega|(apply id;push_cast;try omega))
    exact .id rfl
  ·obtain rfl : c = true := by
    rw[hb']
    exact gP0 fun j u v hu hv=>ha j (by have:=(List.getElem?_eq_some_iff.1 hu).1;omega) u v hu hv
   push_cast(disch:=first|omega|(apply id;push_cast;try omega))[hil,c2,hl1,h4']
   rw[wP1]
   push_cast(disch:=first|omega|(apply id;push_cast;try omega))
   exact .id rfl
 termination_by x=>SizeOf.sizeOf x
def qD:Tm→Tm
 | .mk k a b s e [x,y]=>if k=12 then (if (qD x).k=0 then qD y else .mk k a b s e [qD x,y]) else if k=11 then (if (qD x).k=0∧(qD y).k=0 then zT else .mk k a b s e [qD x,qD y]) else .mk k a b s e [x,y]
 | .mk k a b s e [x]=>if k=7 then (if (qD x).k=0 then zT else .mk k a b s e [qD x]) else .mk k a b s e [x]
 | .mk k a b s e l=>.mk k a b s e l
theorem sC0 (k a b:Int) (s:List UInt8) (e:Ex) (l m:List Tm) (hse:smE e=true):jI (pp G) H0 40 [tmV (.mk k a b s e l),Rw true etm m.length (qK m)] (tmV (.mk k a b s e m)):=by
 refine cE G fir40 (by kernel_rfl) (nM1 ..) fun hlo=>?_;rw[yR2]
 push_cast(disch:=first|omega|(apply id;push_cast;try omega))
 refine dK (cO1 G e hse) ?_
 push_cast(disch:=first|omega|(apply id;push_cast;try omega))[tN0]
 unfold tmV
 rw[qH0]
 exact .agg (.cons (.id rfl) (.cons (.id rfl) (.cons (.id rfl) (.cons (.id rfl) (.cons (.id rfl) (.cons (.id rfl) (.cons (.id rfl) (.cons (.id (bP0 _ (by omega) ..)) (.cons (.row (.ids (gB _ (by omega) m))) .nil)))))))))
theorem lI0 (t u:Tm) (σ:jA):bsD (qq.m 32) (slT prog 32) 2 [(0,tmV t),(1,tmV u)] σ=some (Rw true 34 2 (qK [t,u]),σ):=by
 cases t;cases u;kernel_rfl
theorem nN1 (P:Program) (N:Nat) (σ:jA) (h1:szT P eE=some 4:=by rfl) (h2:szT P etm=some 9:=by rfl):FzV P N σ (.agg ⟨ztm⟩) (tmV zT):=.agg (.cons (.id rfl) (.cons (.id rfl) (.cons (.id rfl) (.cons (.id rfl) (.cons (.id rfl) (.cons (.id rfl) (.cons (.id rfl) (.cons (.nil (size:=4) h1 (by decide)) (.cons (.nil (size:=9) h2 (by decide)) .nil)))))))))
theorem cR (x:Tm):(tmC x)[0]?=some (.int .i64 x.k):=by cases x;rfl
theorem bY2 (a b:Int) (s:List UInt8) (e:Ex) (x y:Tm) (hse:smE e=true) (hx:jI (pp G) H0 21 [tmV x] (tmV (qD x))) (hy:jI (pp G) H0 21 [tmV y] (tmV (qD y))) (hoy:jI (pp G) H0 41 [tmV y] (tmV y)):jI (pp G) H0 21 [tmV (.mk 12 a b s e [x,y])] (tmV (qD (.mk 12 a b s e [x,y]))):=by
 refine cE G rR1 (by kernel_rfl) (iU0 ..) fun hlo=>?_;rw[fF0]
 rw[qD,if_pos rfl]
 push_cast(disch:=first|omega|(apply id;push_cast;try omega))
 refine dK (hx) ?_
 generalize qD x=x'
 by_cases h0:x'.k=0
 ·rw[if_pos h0]
  push_cast(disch:=first|omega|(apply id;push_cast;try omega))[cR,h0]
  refine dK (hy) ?_
  push_cast(disch:=first|omega|(apply id;push_cast;try omega))
  exact .id (kV 1 (by decide) _)
 ·rw[if_neg (by exact h0)]
  push_cast(disch:=first|omega|(apply id;push_cast;try omega))[cR,h0]
  refine dK (hoy) ?_
  push_cast(disch:=first|omega|(apply id;push_cast;try omega))[↓lI0]
  refine dK (sC0 G 12 a b s e [x,y] [x',y] hse) ?_
  push_cast(disch:=first|omega|(apply id;push_cast;try omega))
  exact .id (kV 1 (by decide) (.mk 12 a b s e [x',y]))
theorem bZ2 (a b:Int) (s:List UInt8) (e:Ex) (x y:Tm) (hse:smE e=true) (hx:jI (pp G) H0 21 [tmV x] (tmV (qD x))) (hy:jI (pp G) H0 21 [tmV y] (tmV (qD y))):jI (pp G) H0 21 [tmV (.mk 11 a b s e [x,y])] (tmV (qD (.mk 11 a b s e [x,y]))):=by
 refine cE G rR1 (by kernel_rfl) (iU0 ..) fun hlo=>?_;rw[fF0]
 rw[qD,if_neg (by omega),if_pos rfl]
 generalize qD x=x' at hx ⊢
 generalize qD y=y' at hy ⊢
 by_cases h0:x'.k=0
 ·by_cases h0':y'.k=0
  ·rw[if_pos ⟨h0,h0'⟩]
   push_cast(disch:=first|omega|(apply id;push_cast;try omega))
   all_goals repeat' apply And.intro
   all_goals
    refine dK (hx) ?_
    push_cast(disch:=first|omega|(apply id;push_cast;try omega))
   all_goals repeat' apply And.intro
   all_goals
    refine dK (hy) ?_
    push_cast(disch:=first|omega|(apply id;push_cast;try omega))
   all_goals repeat' apply And.intro
   all_goals
    rw[kC0]
    push_cast(disch:=first|omega|(apply id;push_cast;try omega))[cR,h0,h0',↓lI0]
   all_goals repeat' apply And.intro
   all_goals exact nN1 prog _ _
  ·rw[if_neg (fun h=>h0' h.2)]
   push_cast(disch:=first|omega|(apply id;push_cast;try omega))
   all_goals repeat' apply And.intro
   all_goals
    refine dK (hx) ?_
    push_cast(disch:=first|omega|(apply id;push_cast;try omega))
   all_goals repeat' apply And.intro
   all_goals
    refine dK (hy) ?_
    push_cast(disch:=first|omega|(apply id;push_cast;try omega))
   all_goals repeat' apply And.intro
   all_goals
    rw[kC0]
    push_cast(disch:=first|omega|(apply id;push_cast;try omega))[cR,h0,h0',↓lI0]
   all_goals repeat' apply And.intro
   all_goals
    refine dK (sC0 G 11 a b s e [x,y] [x',y'] hse) ?_
    push_cast(disch:=first|omega|(apply id;push_cast;try omega))
    exact .id (kV 1 (by decide) (.mk 11 a b s e [x',y']))
 ·rw[if_neg (fun h=>h0 h.1)]
  push_cast(disch:=first|omega|(apply id;push_cast;try omega))
  all_goals repeat' apply And.intro
  all_goals
   refine dK (hx) ?_
   push_cast(disch:=first|omega|(apply id;push_cast;try omega))
  all_goals repeat' apply And.intro
  all_goals
   refine dK (hy) ?_
   push_cast(disch:=first|omega|(apply id;push_cast;try omega))
  all_goals repeat' apply And.intro
  all_goals
   rw[kC0]
   push_cast(disch:=first|omega|(apply id;push_cast;try omega))[cR,h0,↓lI0]
  all_goals repeat' apply And.intro
  all_goals
   refine dK (sC0 G 11 a b s e [x,y] [x',y'] hse) ?_
   push_cast(disch:=first|omega|(apply id;push_cast;try omega))
   exact .id (kV 1 (by decide) (.mk 11 a b s e [x',y']))
theorem mH2 (a b:Int) (s:List UInt8) (e:Ex) (x:Tm) (hse:smE e=true) (hx:jI (pp G) H0 21 [tmV x] (tmV (qD x))):jI (pp G) H0 21 [tmV (.mk 7 a b s e [x])] (tmV (qD (.mk 7 a b s e [x]))):=by
 refine cE G rR1 (by kernel_rfl) (iU0 ..) fun hlo=>?_;rw[fF0]
 rw[qD,if_pos rfl]
 generalize qD x=x' at hx ⊢
 push_cast(disch:=first|omega|(apply id;push_cast;try omega))
 refine dK (hx) ?_
 by_cases h0:x'.k=0
 ·rw[if_pos h0]
  push_cast(disch:=first|omega|(apply id;push_cast;try omega))[cR,h0]
  exact nN1 prog _ _
 ·rw[if_neg h0]
  push_cast(disch:=first|omega|(apply id;push_cast;try omega))[cR,h0,↓oG0]
  refine dK (sC0 G 7 a b s e [x] [x'] hse) ?_
  push_cast(disch:=first|omega|(apply id;push_cast;try omega))
  exact .id (kV 1 (by decide) (.mk 7 a b s e [x']))
theorem mG2 (k a b:Int) (s:List UInt8) (e:Ex) (l:List Tm) (hll:l.length<100000000000) (hown:jI (pp G) H0 41 [tmV (.mk k a b s e l)] (tmV (.mk k a b s e l))) (h12:¬(k=12∧l.length=2)) (h11:¬(k=11∧l.length=2)) (h7:¬(k=7∧l.length=1)) :
  jI (pp G) H0 21 [tmV (.mk k a b s e l)] (tmV (qD (.mk k a b s e l))):=by
 have hn:qD (.mk k a b s e l)=.mk k a b s e l:=by
  unfold qD
  split
  ·rename_i e1;cases e1;rw[if_neg (fun h=>h12 ⟨h,rfl⟩),if_neg (fun h=>h11 ⟨h,rfl⟩)]
  ·rename_i e1;cases e1;rw[if_neg (fun h=>h7 ⟨h,rfl⟩)]
  ·rename_i e1;cases e1;rfl
 rw[hn]
 refine cE G rR1 (by kernel_rfl) (iU0 ..) fun hlo=>?_;rw[fF0]
 by_cases g12:k=12
 ·have g2:¬ (l.length:Int)=2:=fun h=>h12 ⟨g12,by omega⟩
  push_cast(disch:=first|omega|(apply id;push_cast;try omega))[g12,g2]
  subst g12
  try (rw[sd_ir21_s1];push_cast(disch:=first|omega|(apply id;push_cast;try omega)))
  refine dK (hown) ?_
  push_cast(disch:=first|omega|(apply id;push_cast;try omega))
  exact .id (kV 1 (by decide) (.mk 12 a b s e l))
 by_cases g11:k=11
 ·have g2:¬ (l.length:Int)=2:=fun h=>h11 ⟨g11,by omega⟩
  push_cast(disch:=first|omega|(apply id;push_cast;try omega))[g11,g2]
  subst g11
  try (rw[sd_ir21_s1];push_cast(disch:=first|omega|(apply id;push_cast;try omega)))
  refine dK (hown) ?_
  push_cast(disch:=first|omega|(apply id;push_cast;try omega))
  exact .id (kV 1 (by decide) (.mk 11 a b s e l))
 by_cases g7:k=7
 ·have g2:¬ (l.length:Int)=1:=fun h=>h7 ⟨g7,by omega⟩
  push_cast(disch:=first|omega|(apply id;push_cast;try omega))[g7,g2]
  subst g7
  try (rw[sd_ir21_s1];push_cast(disch:=first|omega|(apply id;push_cast;try omega)))
  refine dK (hown) ?_
  push_cast(disch:=first|omega|(apply id;push_cast;try omega))
  exact .id (kV 1 (by decide) (.mk 7 a b s e l))
 push_cast(disch:=first|omega|(apply id;push_cast;try omega))[g12,g11,g7]
 try (rw[sd_ir21_s1];push_cast(disch:=first|omega|(apply id;push_cast;try omega)))
 refine dK (hown) ?_
 push_cast(disch:=first|omega|(apply id;push_cast;try omega))
 exact .id (kV 1 (by decide) (.mk k a b s e l))
theorem wC2:∀ (x:Tm),smT x=true→jI (pp G) H0 21 [tmV x] (tmV (qD x))
 | .mk k a b s e l,hs=>by
  have hs0:=hs
  simp only[smT,Bool.and_eq_true,decide_eq_true_eq] at hs
  obtain ⟨⟨hll,hse⟩,hsl⟩:=hs
  have ih:∀ x∈l,jI (pp G) H0 21 [tmV x] (tmV (qD x)):=fun x hx=>wC2 x (uU hsl x hx)
  by_cases h12:k=12∧l.length=2
  ·obtain ⟨rfl,h2⟩:=h12
   obtain ⟨x,y,rfl⟩:∃ x y,l=[x,y]:=by
    match l,h2 with
    | [x,y],_=>exact ⟨x,y,rfl⟩
   exact bY2 G a b s e x y hse (ih x (by simp)) (ih y (by simp)) (cN1 G y (uU hsl y (by simp)))
  by_cases h11:k=11∧l.length=2
  ·obtain ⟨rfl,h2⟩:=h11
   obtain ⟨x,y,rfl⟩:∃ x y,l=[x,y]:=by
    match l,h2 with
    | [x,y],_=>exact ⟨x,y,rfl⟩
   exact bZ2 G a b s e x y hse (ih x (by simp)) (ih y (by simp))
  by_cases h7:k=7∧l.length=1
  ·obtain ⟨rfl,h2⟩:=h7
   obtain ⟨x,rfl⟩:∃ x,l=[x]:=by
    match l,h2 with
    | [x],_=>exact ⟨x,rfl⟩
   exact mH2 G a b s e x hse (ih x (by simp))
  exact mG2 G k a b s e l hll (cN1 G _ hs0) h12 h11 h7
 termination_by x=>SizeOf.sizeOf x
def small (c:UInt8):Bool:=decide (97≤c.toNat∧c.toNat≤122)
def digit (c:UInt8):Bool:=decide (48≤c.toNat∧c.toNat≤57)
def kM (c:UInt8):Bool:=small c || digit c || decide (c.toNat=95)
def gI (p:UInt8→Bool) (l:List UInt8):Nat:=(l.takeWhile p).length
theorem tH0 (p:UInt8→Bool) (l:List UInt8):gI p l≤l.length:=by
 unfold gI;exact List.Sublist.length_le (List.takeWhile_sublist p)
theorem eC0 (p:UInt8→Bool) (c:UInt8) (l:List UInt8):gI p (c :: l)=if p c then gI p l+1 else 0:=by
 unfold gI;rw[List.takeWhile_cons];split<;>simp
theorem zL0 (p:UInt8→Bool):∀ (l:List UInt8) (i:Nat),i<gI p l→p (l.getD i 0)=true
 | [],i,h=>by simp[gI] at h
 | c :: l,i,h=>by
  rw[eC0] at h
  split at h
  ·cases i with
   | zero=>simpa
   | succ i=>simpa using zL0 p l i (by omega)
  ·omega
theorem pQ0 (p:UInt8→Bool):∀ (l:List UInt8),gI p l<l.length→p (l.getD (gI p l) 0)=false
 | [],h=>by simp[gI] at h
 | c :: l,h=>by
  rw[eC0] at h ⊢
  split at h
  ·rename_i hc
   rw[if_pos hc]
   simpa using pQ0 p l (by simpa using h)
  ·rename_i hc
   rw[if_neg hc]
   simpa using hc
def cW (r:Int):Bool:=decide (97≤r∧r≤122)
def qI0 (r:Int):Bool:=decide (48≤r∧r≤57)
def dS0 (r:Int):Bool:=cW r || qI0 r || decide (r=95)
theorem gU1 (r:Int):jI (pp G) H0 73 [.int .i32 r] (.bool (cW r)):=by
 refine cE G fir73 (by kernel_rfl) (wW2 ..) fun hlo=>?_;rw[kL2]
 unfold cW
 by_cases h1:97≤r
 ·push_cast(disch:=first|omega|(apply id;push_cast;try omega))[h1,true_and]
  exact .id rfl
 ·push_cast(disch:=first|omega|(apply id;push_cast;try omega))[h1,false_and]
  exact .id rfl
theorem dX2 (r:Int):jI (pp G) H0 82 [.int .i32 r] (.bool (qI0 r)):=by
 refine cE G fir82 (by kernel_rfl) (wW2 ..) fun hlo=>?_;rw[kD2]
 unfold qI0
 by_cases h1:48≤r
 ·push_cast(disch:=first|omega|(apply id;push_cast;try omega))[h1,true_and]
  exact .id rfl
 ·push_cast(disch:=first|omega|(apply id;push_cast;try omega))[h1,false_and]
  exact .id rfl
theorem wY2 (r:Int):jI (pp G) H0 75 [.int .i32 r] (.bool (dS0 r)):=by
 refine cE G fir75 (by kernel_rfl) (fN2 ..) fun hlo=>?_;rw[kJ2]
 unfold dS0
 push_cast(disch:=first|omega|(apply id;push_cast;try omega))
 refine dK (gU1 G r) ?_
 cases h1:cW r with
 | true=>
  push_cast(disch:=first|omega|(apply id;push_cast;try omega))[Bool.true_or]
  exact .id rfl
 | false=>
  push_cast(disch:=first|omega|(apply id;push_cast;try omega))[Bool.false_or]
  refine dK (dX2 G r) ?_
  cases h2:qI0 r with
  | true=>
   push_cast(disch:=first|omega|(apply id;push_cast;try omega))[Bool.true_or]
   exact .id rfl
  | false=>
   push_cast(disch:=first|omega|(apply id;push_cast;try omega))[Bool.false_or]
   exact .id rfl
theorem oU2 {L:List UInt8} {pos:Nat} (hp:pos<L.length) (ha:(L.getD pos 0).toNat<128):Utf8.decode (Tx L) pos=((L.getD pos 0).toNat,1):=by
 have e:(Tx L)[pos]'hp=L.getD pos 0:=by
  rw[List.getD_eq_getElem?_getD,List.getElem?_eq_getElem hp];rfl
 have:=decode_ascii (Tx L) pos hp (by rw[e];exact ha)
 rw[e] at this
 exact this
theorem oV2 {L:List UInt8} {pos:Nat} (hp:pos<L.length) (ha:128≤(L.getD pos 0).toNat):128≤(Utf8.decode (Tx L) pos).1∧1≤(Utf8.decode (Tx L) pos).2:=by
 have e:(Tx L)[pos]'hp=L.getD pos 0:=by
  rw[List.getD_eq_getElem?_getD,List.getElem?_eq_getElem hp];rfl
 exact decode_high (Tx L) pos hp (by rw[e];exact ha)
theorem lR2 (c:UInt8):dS0 (c.toNat:Int)=kM c:=by
 have a:cW (c.toNat:Int)=small c:=by unfold cW small;congr 1;simp only[eq_iff_iff];omega
 have b:qI0 (c.toNat:Int)=digit c:=by unfold qI0 digit;congr 1;simp only[eq_iff_iff];omega
 unfold dS0 kM;rw[a,b];congr 2;simp only[eq_iff_iff];omega
theorem lQ2 (r:Int) (h:128≤r):dS0 r=false:=by
 unfold dS0 cW qI0;simp;omega
inductive I74 (L:List UInt8):Nat→S→Prop
 | mk (pos:Nat) (h:jA) {x2 x3 x4 x5 x6 x7 x9 xA xB xC xD xE xF xG xH xI xJ:Value} (hg:h.get 1=some (itO (Tx L) pos)) (hl1:h.lo=1) (hl2:2≤h.next) (hp:pos≤gI kM L) :
  I74 L (L.length-pos) ⟨(F20 (.string (Tx L)) (.func (.func 75) #[] #[]) x2 x3 x4 x5 x6 x7 (.pointer (some ⟨1,0,none⟩)) x9 xA xB xC xD xE xF xG xH xI xJ),[],h⟩
theorem cZ2 (L:List UInt8):jI (pp G) H0 74 [.string (Tx L),.func (.func 75) #[] #[]] (.int .i64 (gI kM L)):=by
 refine cE G fir74 (by kernel_rfl) (nJ1 ..) fun hlo=>?_;rw[kK2]
 push_cast(disch:=first|omega|(apply id;push_cast;try omega))
 refine WD.loop4 (q:=qq) (qB G) (by kernel_rfl) (I74 L) ?_ _ _ (I74.mk 0 _ (by rw[jH0 _ _ bI.symm]) rfl (by push_cast(disch:=first|omega|(apply id;push_cast;try omega));first|done|omega) (Nat.zero_le _))
 intro m s1 hI
 cases hI with|mk pos h hg hl1 hl2 hp=>
 rw[jY1]
 have hfl:=tH0 kM L
 by_cases hpl:pos<L.length
 ·push_cast(disch:=first|omega|(apply id;push_cast;try omega))[mD2 _ pos L hg (by omega) hpl]
  refine dK (wY2 G _) ?_
  by_cases ha:(L.getD pos 0).toNat<128
  ·rw[oU2 hpl ha]
   have e:=lR2 (L.getD pos 0)
   dsimp only
   cases hc:kM (L.getD pos 0) with
   | true=>
    rw[hc] at e
    push_cast(disch:=first|omega|(apply id;push_cast;try omega))[e,Bool.not_true]
    have hlt:pos<gI kM L:=by
     rcases Nat.lt_or_ge pos (gI kM L) with h2|h2
     ·exact h2
     ·have h3:gI kM L=pos:=by omega
      have:=pQ0 kM L (by omega)
      rw[h3,hc] at this;cases this
    exact ⟨_,by omega,I74.mk (pos+1) _ (cM _ _) hl1 hl2 (by omega)⟩
   | false=>
    rw[hc] at e
    push_cast(disch:=first|omega|(apply id;push_cast;try omega))[e,Bool.not_false]
    have h3:gI kM L=pos:=by
     rcases Nat.lt_or_ge pos (gI kM L) with h2|h2
     ·have:=zL0 kM L pos h2
      rw[hc] at this;cases this
     ·omega
    rw[h3]
    exact .id rfl
  ·have hh:=oV2 hpl (by omega)
   have e:=lQ2 ((Utf8.decode (Tx L) pos).1:Int) (by omega)
   push_cast(disch:=first|omega|(apply id;push_cast;try omega))[e,Bool.not_false]
   have h3:gI kM L=pos:=by
    rcases Nat.lt_or_ge pos (gI kM L) with h2|h2
    ·have h4:=zL0 kM L pos h2
     rw[← lR2,lQ2 _ (by omega)] at h4;cases h4
    ·omega
   rw[h3]
   exact .id rfl
 ·push_cast(disch:=first|omega|(apply id;push_cast;try omega))[mE2 _ pos L hg (by omega) (by omega)]
  rw[jX1]
  push_cast(disch:=first|omega|(apply id;push_cast;try omega))
  have h3:gI kM L=L.length:=by omega
  rw[h3]
  exact .id rfl
def wJ0:List (List UInt8):=[[118,97,114],[115,116,97,99,107],[112,114,111,99],[115,107,105,112],[100,111],[112,117,115,104],[114,101,118,101,114,115,101],[97,99,99,101,112,116],[109,101,114,103,101],[98,108,111,99,107],[101,120,105,116],[105,102],[101,108,115,101],[99,104,111,111,115,101],[112,97,114],[99,97,108,108]]
def keyF (s:List UInt8):Bool:=decide (s∈wJ0)
theorem pU1 (s:List UInt8):jI (pp G) H0 72 [.string (Tx s)] (.bool (keyF s)):=by
 refine cE G fir72 (by kernel_rfl) (nI1 ..) fun hlo=>?_;rw[kM2]
 by_cases h0:s=[118,97,114]
 ·have t0:(s == [118,97,114])=true:=by simpa using h0
  rw[show keyF s=true from by rw[h0];decide]
  push_cast(disch:=first|omega|(apply id;push_cast;try omega))[t0]
  exact .id rfl
 have g0:(s == [118,97,114])=false:=by simpa using h0
 by_cases h1:s=[115,116,97,99,107]
 ·have t1:(s == [115,116,97,99,107])=true:=by simpa using h1
  rw[show keyF s=true from by rw[h1];decide]
  push_cast(disch:=first|omega|(apply id;push_cast;try omega))[g0,t1]
  exact .id rfl
 have g1:(s == [115,116,97,99,107])=false:=by simpa using h1
 by_cases h2:s=[112,114,111,99]
 ·have t2:(s == [112,114,111,99])=true:=by simpa using h2
  rw[show keyF s=true from by rw[h2];decide]
  push_cast(disch:=first|omega|(apply id;push_cast;try omega))[g0,g1,t2]
  exact .id rfl
 have g2:(s == [112,114,111,99])=false:=by simpa using h2
 by_cases h3:s=[115,107,105,112]
 ·have t3:(s == [115,107,105,112])=true:=by simpa using h3
  rw[show keyF s=true from by rw[h3];decide]
  push_cast(disch:=first|omega|(apply id;push_cast;try omega))[g0,g1,g2,t3]
  exact .id rfl
 have g3:(s == [115,107,105,112])=false:=by simpa using h3
 by_cases h4:s=[100,111]
 ·have t4:(s == [100,111])=true:=by simpa using h4
  rw[show keyF s=true from by rw[h4];decide]
  push_cast(disch:=first|omega|(apply id;push_cast;try omega))[g0,g1,g2,g3,t4]
  exact .id rfl
 have g4:(s == [100,111])=false:=by simpa using h4
 by_cases h5:s=[112,117,115,104]
 ·have t5:(s == [112,117,115,104])=true:=by simpa using h5
  rw[show keyF s=true from by rw[h5];decide]
  push_cast(disch:=first|omega|(apply id;push_cast;try omega))[g0,g1,g2,g3,g4,t5]
  exact .id rfl
 have g5:(s == [112,117,115,104])=false:=by simpa using h5
 by_cases h6:s=[114,101,118,101,114,115,101]
 ·have t6:(s == [114,101,118,101,114,115,101])=true:=by simpa using h6
  rw[show keyF s=true from by rw[h6];decide]
  push_cast(disch:=first|omega|(apply id;push_cast;try omega))[g0,g1,g2,g3,g4,g5,t6]
  exact .id rfl
 have g6:(s == [114,101,118,101,114,115,101])=false:=by simpa using h6
 by_cases h7:s=[97,99,99,101,112,116]
 ·have t7:(s == [97,99,99,101,112,116])=true:=by simpa using h7
  rw[show keyF s=true from by rw[h7];decide]
  push_cast(disch:=first|omega|(apply id;push_cast;try omega))[g0,g1,g2,g3,g4,g5,g6,t7]
  exact .id rfl
 have g7:(s == [97,99,99,101,112,116])=false:=by simpa using h7
 by_cases h8:s=[109,101,114,103,101]
 ·have t8:(s == [109,101,114,103,101])=true:=by simpa using h8
  rw[show keyF s=true from by rw[h8];decide]
  push_cast(disch:=first|omega|(apply id;push_cast;try omega))[g0,g1,g2,g3,g4,g5,g6,g7,t8]
  exact .id rfl
 have g8:(s == [109,101,114,103,101])=false:=by simpa using h8
 by_cases h9:s=[98,108,111,99,107]
 ·have t9:(s == [98,108,111,99,107])=true:=by simpa using h9
  rw[show keyF s=true from by rw[h9];decide]
  push_cast(disch:=first|omega|(apply id;push_cast;try omega))[g0,g1,g2,g3,g4,g5,g6,g7,g8,t9]
  exact .id rfl
 have g9:(s == [98,108,111,99,107])=false:=by simpa using h9
 by_cases h10:s=[101,120,105,116]
 ·have t10:(s == [101,120,105,116])=true:=by simpa using h10
  rw[show keyF s=true from by rw[h10];decide]
  push_cast(disch:=first|omega|(apply id;push_cast;try omega))[g0,g1,g2,g3,g4,g5,g6,g7,g8,g9,t10]
  exact .id rfl
 have g10:(s == [101,120,105,116])=false:=by simpa using h10
 by_cases h11:s=[105,102]
 ·have t11:(s == [105,102])=true:=by simpa using h11
  rw[show keyF s=true from by rw[h11];decide]
  push_cast(disch:=first|omega|(apply id;push_cast;try omega))[g0,g1,g2,g3,g4,g5,g6,g7,g8,g9,g10,t11]
  exact .id rfl
 have g11:(s == [105,102])=false:=by simpa using h11
 by_cases h12:s=[101,108,115,101]
 ·have t12:(s == [101,108,115,101])=true:=by simpa using h12
  rw[show keyF s=true from by rw[h12];decide]
  push_cast(disch:=first|omega|(apply id;push_cast;try omega))[g0,g1,g2,g3,g4,g5,g6,g7,g8,g9,g10,g11,t12]
  exact .id rfl
 have g12:(s == [101,108,115,101])=false:=by simpa using h12
 by_cases h13:s=[99,104,111,111,115,101]
 ·have t13:(s == [99,104,111,111,115,101])=true:=by simpa using h13
  rw[show keyF s=true from by rw[h13];decide]
  push_cast(disch:=first|omega|(apply id;push_cast;try omega))[g0,g1,g2,g3,g4,g5,g6,g7,g8,g9,g10,g11,g12,t13]
  exact .id rfl
 have g13:(s == [99,104,111,111,115,101])=false:=by simpa using h13
 by_cases h14:s=[112,97,114]
 ·have t14:(s == [112,97,114])=true:=by simpa using h14
  rw[show keyF s=true from by rw[h14];decide]
  push_cast(disch:=first|omega|(apply id;push_cast;try omega))[g0,g1,g2,g3,g4,g5,g6,g7,g8,g9,g10,g11,g12,g13,t14]
  exact .id rfl
 have g14:(s == [112,97,114])=false:=by simpa using h14
 by_cases h15:s=[99,97,108,108]
 ·have t15:(s == [99,97,108,108])=true:=by simpa using h15
  rw[show keyF s=true from by rw[h15];decide]
  push_cast(disch:=first|omega|(apply id;push_cast;try omega))[g0,g1,g2,g3,g4,g5,g6,g7,g8,g9,g10,g11,g12,g13,g14,t15]
  exact .id rfl
 have g15:(s == [99,97,108,108])=false:=by simpa using h15
 rw[show keyF s=false from by unfold keyF wJ0;simp[h0,h1,h2,h3,h4,h5,h6,h7,h8,h9,h10,h11,h12,h13,h14,h15]]
 push_cast(disch:=first|omega|(apply id;push_cast;try omega))[g0,g1,g2,g3,g4,g5,g6,g7,g8,g9,g10,g11,g12,g13,g14,g15]
 exact .id rfl
def qN0 (s:List UInt8):Bool:=!decide (s=[])&&(decide (s.length≤20)&&(!keyF s&&(small (s.getD 0 0)&&decide (gI kM s=s.length))))
theorem qs_eq (c:UInt8):cW (c.toNat:Int)=small c:=by unfold cW small;congr 1;simp only[eq_iff_iff];omega
theorem dE1 (s:List UInt8):jI (pp G) H0 54 [.string (Tx s)] (.bool (qN0 s)):=by
 refine cE G fir54 (by kernel_rfl) (rX0 ..) fun hlo=>?_;rw[yE2]
 unfold qN0
 by_cases h1:s=[]
 ·push_cast(disch:=first|omega|(apply id;push_cast;try omega))[h1,beq_self_eq_true,decide_true,Bool.not_true,Bool.false_and]
  exact .id rfl
 have hb:(s == ([]:List UInt8))=false:=by simpa using h1
 by_cases h2:(20:Int)<s.length
 ·have h2':¬ s.length≤20:=by omega
  push_cast(disch:=first|omega|(apply id;push_cast;try omega))[h1,hb,h2,h2',decide_false,Bool.false_and,Bool.and_false]
  exact .id rfl
 have h2':s.length≤20:=by omega
 have hs0:0<s.length:=List.length_pos_iff.2 h1
 rw[decide_eq_false h1,decide_eq_true h2',Bool.not_false,Bool.true_and,Bool.true_and]
 push_cast(disch:=first|omega|(apply id;push_cast;try omega))[h1,hb,h2,h2',decide_true,decide_false,Bool.not_false,Bool.true_and]
 refine dK (pU1 G s) ?_
 cases hk:keyF s with
 | true=>
  push_cast(disch:=first|omega|(apply id;push_cast;try omega))[Bool.not_true,Bool.false_and]
  exact .id rfl
 | false=>
  have hcv:∀ n h,cvV prog 5 21 (.int .u8 n) h=some (.int .i32 (IntKind.i32.wrap n)):=fun n h=>lQ1 cH0
  have hbt:IntKind.i32.wrap (bt s 0)=((s.getD 0 0).toNat:Int):=by
   have:(s.getD 0 0).toNat<256:=(s.getD 0 0).toNat_lt
   have e:bt s 0=((s.getD 0 0).toNat:Int):=rfl
   rw[e,IntKind.wrap_i32]
   omega
  push_cast(disch:=first|omega|(apply id;push_cast;try omega))[hcv,hbt,Bool.not_false,Bool.true_and]
  refine dK (gU1 G _) ?_
  rw[qs_eq]
  cases hs:small (s.getD 0 0) with
  | false=>
   push_cast(disch:=first|omega|(apply id;push_cast;try omega))[Bool.false_and]
   exact .id rfl
  | true=>
   push_cast(disch:=first|omega|(apply id;push_cast;try omega))[Bool.true_and]
   refine dK (cZ2 G s) ?_
   by_cases hf:gI kM s=s.length
   ·have hf':(gI kM s:Int)=s.length:=by omega
    rw[show decide (gI kM s=s.length)=true from decide_eq_true hf]
    push_cast(disch:=first|omega|(apply id;push_cast;try omega))[hf',decide_true]
    exact .id rfl
   ·have hf':¬ (gI kM s:Int)=s.length:=by omega
    rw[show decide (gI kM s=s.length)=false from decide_eq_false hf]
    push_cast(disch:=first|omega|(apply id;push_cast;try omega))[hf',decide_false]
    exact .id rfl
mutual
def jZ (v:Int):Ex→Bool
 | .mk k n s l => (if k = 1 ∧ 0 ≤ n then decide (l.length = 0) else if k = 2 ∧ 0 ≤ n ∧ n < v then decide (l.length = 0) else if k = 3 ∨ k = 4 then decide (l.length = 1 ∧ n = 0) else if 5 ≤ k ∧ k ≤ 17 then decide (l.length = 2 ∧ n = 0) else false)
   &&decide (s=[])&&kH v l
def kH (v:Int):List Ex→Bool
 | []=>true
 | x :: l=>jZ v x&&kH v l
end
theorem dQ0 {v:Int}:∀ {l:List Ex},kH v l=true→∀ x∈l,jZ v x=true
 | [],_,x,hx=>by cases hx
 | y :: l,h,x,hx=>by
  simp only[kH,Bool.and_eq_true] at h
  rcases List.mem_cons.1 hx with rfl|hx
  ·exact h.1
  ·exact dQ0 h.2 x hx
theorem gS0 {v:Int} {l:List Ex} {i:Nat} {x:Ex} (h:l[i]?=some x):kH v (l.take (i+1))=(kH v (l.take i)&&jZ v x):=by
 have hi:=(List.getElem?_eq_some_iff.1 h).1
 have app:∀ a b:List Ex,kH v (a++b)=(kH v a&&kH v b):=by
  intro a b
  induction a with
  | nil=>simp[kH]
  | cons x a ih=>simp[kH,ih,Bool.and_assoc]
 rw[List.take_add_one,h,app]
 simp[kH]
theorem lO0 {v:Int} {l:List Ex} {x:Ex} (h:x∈l) (hx:jZ v x=false):kH v l=false:=by
 cases hc:kH v l with
 | false=>rfl
 | true=>rw[dQ0 hc x h] at hx;cases hx
inductive I56r (v:Int) (l:List Ex):Nat→S→Prop
 | mk (i:Nat) (iv:Int) (h:jA) {x0 x2 x3 x4 x5 x6 x7 x8 x9 xA xB xC xD xE xF xG xH xI xJ xK xL xM xN xO xP xQ xR xS xT xU xV xW xX xY xZ yA yB yC yD yE yF yG yH yI yJ yK yL yM yN yO yP yQ yR yS yT yU yV yW yX yY yZ zA zB zC zD zF zG zH zI zM zN zO zP zQ zR zS zU:Value} (hiv:iv=(i:Int)) (hi:i≤l.length) (hok:kH v (l.take i)=true) (hl1:h.lo=1) (hl2:1≤h.next) :
  I56r v l (l.length-i) ⟨(F81 x0 (.int .i64 v) x2 x3 x4 x5 x6 x7 x8 x9 xA xB xC xD xE xF xG xH xI xJ xK xL xM xN xO xP xQ xR xS xT xU xV xW xX xY xZ yA yB yC yD yE yF yG yH yI yJ yK yL yM yN yO yP yQ yR yS yT yU yV yW yX yY yZ zA zB zC zD zF zG zH zI (Rw false eE l.length (kF l)) (.int .i64 l.length) (.int .i64 iv) zM zN zO zP zQ zR zS zU),[],h⟩
theorem zC0 (v c k n:Int) (s:List UInt8) (l:List Ex) (hll:l.length<100000000000) (ih:∀ x∈l,jI (pp G) H0 56 [exV x,.int .i64 v] (.bool (jZ v x))) {x0 x3 x4 x6 x7 x8 x9 xA xB xC xD xE xF xG xH xI xJ xK xL xM xN xO xP xQ xR xS xT xU xV xW xX xY xZ yA yB yC yD yE yF yG yH yI yJ yK yL yM yN yO yP yQ yR yS yT yU yV yW yX yY yZ zA zB zC zD zF zG zH zI zJ zK zL zM zN zO zP zQ zR zS zU:Value} (b:Bool)
  (hb:b=(decide (s=[])&&decide ((l.length:Int)=c)&&decide (c=0∨n=0)&&kH v l)) :
  dc3 (pp G) qq none kM0 ⟨(F81 x0 (.int .i64 v) (.pointer (some ⟨1,0,none⟩)) x3 x4 (.int .i64 c) x6 x7 x8 x9 xA xB xC xD xE xF xG xH xI xJ xK xL xM xN xO xP xQ xR xS xT xU xV xW xX xY xZ yA yB yC yD yE yF yG yH yI yJ yK yL yM yN yO yP yQ yR yS yT yU yV yW yX yY yZ zA zB zC zD zF zG zH zI zJ zK zL zM zN zO zP zQ zR zS zU),[],H0.add (O [.int .i64 k,.int .i64 n,.string (Tx s),Rw false eE l.length (kF l)] 31 false)⟩ (@kR ⟨jC prog [.tmp 4] (fun v' σ'=>FzV prog 1 σ' v' (.bool b))⟩):=by
 rw[uB1]
 have key : ∀ {yO yP yQ yR yS yT yU yV yW yX yY yZ zA zB zC zD zF zG zH zI : Value} (hb : b = kH v l) (h : jA) (hl1 : h.lo = 1) (hl2 : 1 ≤ h.next), WD (pp G) qq.H none (.loop oZ0) ⟨(F81 x0 (.int .i64 v) (.pointer (some ⟨1, 0, none⟩)) x3 x4 (.int .i64 c) x6 x7 x8 x9 xA xB xC xD xE xF xG xH xI xJ xK xL xM xN xO xP xQ xR xS xT xU xV xW xX xY xZ yA yB yC yD yE yF yG yH yI yJ yK yL yM yN yO yP yQ yR yS yT yU yV yW yX yY yZ zA zB zC zD zF zG zH zI (Rw false eE l.length (kF l)) (.int .i64 l.length) (.int .i64 0) zM zN zO zP zQ zR zS zU), [], h⟩
   (@kR ⟨jH 1 (jE (fun s1=>dc3 (pp G) qq none eZ1 s1 (@kR ⟨@kR ⟨jC prog [.tmp 4] (fun v' σ'=>FzV prog 1 σ' v' (.bool b))⟩⟩)) (@kR ⟨jC prog [.tmp 4] (fun v' σ'=>FzV prog 1 σ' v' (.bool b))⟩))⟩):=by
  intro yO yP yQ yR yS yT yU yV yW yX yY yZ zA zB zC zD zF zG zH zI hb h hl1 hl2
  refine WD.loop4 (q:=qq) (qB G) (by kernel_rfl) (I56r v l) ?_ _ _ (I56r.mk 0 0 h rfl (Nat.zero_le _) rfl hl1 hl2)
  intro m s1 hI
  cases hI with|mk i iv h hiv hi hok hl1 hl2=>
  subst hiv
  rw[uA1]
  by_cases hil:(i:Int)<l.length
  ·obtain ⟨x,hx⟩:∃ x,l[i]?=some x:=⟨_,List.getElem?_eq_getElem (by omega)⟩
   have hxm:=List.mem_of_getElem? hx
   have hp:=cN hx
   have hle:i*4+4≤l.length*4:=by omega
   push_cast(disch:=first|omega|(apply id;push_cast;try omega))[hil,Int.toNat_natCast,hp,hle,hl1]
   refine dK (ih x hxm) ?_
   cases hr:jZ v x with
   | true=>
    push_cast(disch:=first|omega|(apply id;push_cast;try omega))
    exact ⟨_,by omega,I56r.mk (i+1) _ _ (by first|rfl|omega) (by omega) (by rw[gS0 hx,hok,hr];rfl) (by first|(push_cast(disch:=first|omega|(apply id;push_cast;try omega))[hl1];done)|(push_cast(disch:=first|omega|(apply id;push_cast;try omega));omega)) (by first|(push_cast(disch:=first|omega|(apply id;push_cast;try omega));done)|(push_cast(disch:=first|omega|(apply id;push_cast;try omega));omega))⟩
   | false=>
    rw[lO0 hxm hr] at hb
    subst hb
    push_cast(disch:=first|omega|(apply id;push_cast;try omega))
    exact .id rfl
  ·have hie:i=l.length:=by omega
   subst hie
   rw[List.take_length] at hok
   rw[hok] at hb
   subst hb
   push_cast(disch:=first|omega|(apply id;push_cast;try omega))[hil]
   exact .id rfl
 by_cases h1:s=[]
 ·by_cases h2:(l.length:Int)=c
  ·subst h2
   by_cases h3:(0:Int)<l.length
   ·by_cases h4:n=0
    ·push_cast(disch:=first|omega|(apply id;push_cast;try omega))[h1,h3,h4,beq_self_eq_true]
     exact key (by rw[hb];simp[h1,h4]) _ (by push_cast(disch:=first|omega|(apply id;push_cast;try omega))) (by first|(push_cast(disch:=first|omega|(apply id;push_cast;try omega));done)|(push_cast(disch:=first|omega|(apply id;push_cast;try omega));omega))
    ·have hno:¬ ((l.length:Int)=0∨n=0):=by omega
     have:b=false:=by rw[hb,decide_eq_false hno];simp
     subst this
     push_cast(disch:=first|omega|(apply id;push_cast;try omega))[h1,h3,h4,beq_self_eq_true]
     exact .id rfl
   ·push_cast(disch:=first|omega|(apply id;push_cast;try omega))[h1,h3,beq_self_eq_true]
    exact key (by rw[hb,decide_eq_true (show (l.length:Int)=0∨n=0 by omega)];simp[h1]) _ (by push_cast(disch:=first|omega|(apply id;push_cast;try omega))) (by first|(push_cast(disch:=first|omega|(apply id;push_cast;try omega));done)|(push_cast(disch:=first|omega|(apply id;push_cast;try omega));omega))
  ·have:b=false:=by rw[hb];simp[h2]
   subst this
   push_cast(disch:=first|omega|(apply id;push_cast;try omega))[h1,h2,beq_self_eq_true]
   exact .id rfl
 ·have:b=false:=by rw[hb];simp[h1]
  subst this
  have hs:(s == [])=false:=by simpa using h1
  push_cast(disch:=first|omega|(apply id;push_cast;try omega))[hs]
  exact .id rfl
theorem oI0 (v:Int):∀ x:Ex,smE x=true→jI (pp G) H0 56 [exV x,.int .i64 v] (.bool (jZ v x))
 | .mk k n s l,hsm=>by
  simp only[smE,Bool.and_eq_true,decide_eq_true_eq] at hsm
  have hall:=cT hsm.2
  have ih:∀ x∈l,jI (pp G) H0 56 [exV x,.int .i64 v] (.bool (jZ v x)):=fun x hx=>oI0 v x (hall x hx)
  refine cE G fir56 (by kernel_rfl) (eY2 ..) fun hlo=>?_;rw[yC2]
  unfold exV exC
  rw[jZ]
  have hq:∀ (c:Int) (A:Bool),A=(decide ((l.length:Int)=c)&&decide (c=0∨n=0))→(A&&decide (s=[])&&kH v l)=(decide (s=[])&&decide ((l.length:Int)=c)&&decide (c=0∨n=0)&&kH v l):=fun c A hA=>by
   rw[hA]
   cases decide (s=[])<;>cases decide ((l.length:Int)=c)<;>cases decide (c=0∨n=0)<;>rfl
  by_cases h1:k=1
  ·by_cases h2:0≤n
   ·rw[if_pos ⟨h1,h2⟩]
    push_cast(disch:=first|omega|(apply id;push_cast;try omega))[h1,h2]
    exact zC0 G v 0 1 n s l hsm.1 ih _ (hq 0 (decide (l.length=0)) (by rw[Bool.eq_iff_iff];simp only[Bool.and_eq_true,decide_eq_true_eq];constructor<;>intro hz<;>first|omega|exact ⟨by omega,by first|omega|exact .inl rfl⟩|exact ⟨by omega,by simp⟩|exact hz.1|(simp at hz ⊢;omega)))
   ·rw[if_neg (by omega),if_neg (by omega),if_neg (by omega),if_neg (by omega)]
    subst h1
    push_cast(disch:=first|omega|(apply id;push_cast;try omega))[h2]
    exact .id rfl
  rw[if_neg (by omega)]
  by_cases h2:k=2
  ·by_cases h3:0≤n
   ·by_cases h4:n<v
    ·rw[if_pos ⟨h2,h3,h4⟩]
     subst h2
     push_cast(disch:=first|omega|(apply id;push_cast;try omega))[h3,h4]
     exact zC0 G v 0 2 n s l hsm.1 ih _ (hq 0 (decide (l.length=0)) (by rw[Bool.eq_iff_iff];simp only[Bool.and_eq_true,decide_eq_true_eq];constructor<;>intro hz<;>first|omega|exact ⟨by omega,by first|omega|exact .inl rfl⟩|exact ⟨by omega,by simp⟩|exact hz.1|(simp at hz ⊢;omega)))
    ·rw[if_neg (by omega),if_neg (by omega),if_neg (by omega)]
     subst h2
     push_cast(disch:=first|omega|(apply id;push_cast;try omega))[h3,h4]
     exact .id rfl
   ·rw[if_neg (by omega),if_neg (by omega),if_neg (by omega)]
    subst h2
    push_cast(disch:=first|omega|(apply id;push_cast;try omega))[h3]
    exact .id rfl
  rw[if_neg (by omega)]
  by_cases h3:k=3
  ·rw[if_pos (.inl h3)]
   subst h3
   push_cast(disch:=first|omega|(apply id;push_cast;try omega))
   exact zC0 G v 1 3 n s l hsm.1 ih _ (hq 1 (decide (l.length=1∧n=0)) (by rw[Bool.eq_iff_iff];simp only[Bool.and_eq_true,decide_eq_true_eq];constructor<;>intro hz<;>first|omega|exact ⟨by omega,by first|omega|exact .inl rfl⟩|exact ⟨by omega,by simp⟩|exact hz.1|(simp at hz ⊢;omega)))
  by_cases h4:k=4
  ·rw[if_pos (.inr h4)]
   subst h4
   push_cast(disch:=first|omega|(apply id;push_cast;try omega))
   exact zC0 G v 1 4 n s l hsm.1 ih _ (hq 1 (decide (l.length=1∧n=0)) (by rw[Bool.eq_iff_iff];simp only[Bool.and_eq_true,decide_eq_true_eq];constructor<;>intro hz<;>first|omega|exact ⟨by omega,by first|omega|exact .inl rfl⟩|exact ⟨by omega,by simp⟩|exact hz.1|(simp at hz ⊢;omega)))
  rw[if_neg (by omega)]
  by_cases h5:5≤k
  ·by_cases h6:k≤17
   ·rw[if_pos ⟨h5,h6⟩]
    push_cast(disch:=first|omega|(apply id;push_cast;try omega))[h1,h2,h3,h4,h5,h6]
    exact zC0 G v 2 k n s l hsm.1 ih _ (hq 2 (decide (l.length=2∧n=0)) (by rw[Bool.eq_iff_iff];simp only[Bool.and_eq_true,decide_eq_true_eq];constructor<;>intro hz<;>first|omega|exact ⟨by omega,by first|omega|exact .inl rfl⟩|exact ⟨by omega,by simp⟩|exact hz.1|(simp at hz ⊢;omega)))
   ·rw[if_neg (by omega)]
    push_cast(disch:=first|omega|(apply id;push_cast;try omega))[h1,h2,h3,h4,h5,h6]
    exact .id rfl
  ·rw[if_neg (by omega)]
   push_cast(disch:=first|omega|(apply id;push_cast;try omega))[h1,h2,h3,h4,h5]
   exact .id rfl
 termination_by x=>SizeOf.sizeOf x
inductive I36r (v:Int) (k n:Int) (s:List UInt8) (l:List Ex):Nat→S→Prop
 | mk (i:Nat) (iv:Int) (h:jA) {x0 x3 x4 x7 x8 x9 xA xB xC xD xE xF xG xH xI xJ xK xL xM xN xO xP xQ xR xS xT xU xV xW xX xY xZ yA yB yC yD yE yF yG yH yI yJ yK yL yM yN yO yP yQ yR yS yT yU yV yW yX yY yZ zA zB zC zD zF zG zH zI zJ zK zL zM zN zO zP zQ zR zS zU zV zW zX:Value} (hiv:iv=(i:Int)) (hi:i≤l.length) (hok:kH v (l.take i)=true) (c6:cells h 1=some ([.int .i64 k,.int .i64 n,.string (Tx s),Rw false eE l.length (kF l)],31,false)) (hl1:h.lo=1) (hl2:2≤h.next) :
  I36r v k n s l (l.length-i) ⟨(F84 x0 (.int .i64 v) (.pointer (some ⟨1,0,none⟩)) x3 x4 (.int .i64 l.length) (.int .i64 iv) x7 x8 x9 xA xB xC xD xE xF xG xH xI xJ xK xL xM xN xO xP xQ xR xS xT xU xV xW xX xY xZ yA yB yC yD yE yF yG yH yI yJ yK yL yM yN yO yP yQ yR yS yT yU yV yW yX yY yZ zA zB zC zD zF zG zH zI zJ zK zL zM zN zO zP zQ zR zS zU zV zW zX),[],h⟩
theorem gR2 (v c k n:Int) (s:List UInt8) (l:List Ex) (hll:l.length<100000000000) (ih:∀ x∈l,jI (pp G) H0 36 [exV x,.int .i64 v] (.bool (jZ v x))) {x0 x3 x4 x6 x7 x8 x9 xA xB xC xD xE xF xG xH xI xJ xK xL xM xN xO xP xQ xR xS xT xU xV xW xX xY xZ yA yB yC yD yE yF yG yH yI yJ yK yL yM yN yO yP yQ yR yS yT yU yV yW yX yY yZ zA zB zC zD zF zG zH zI zJ zK zL zM zN zO zP zQ zR zS zU zV zW zX:Value} (b:Bool)
  (hb:b=(decide (l.length=c∧n=0)&&kH v l)) :
  dc3 (pp G) qq none fX0 ⟨(F84 x0 (.int .i64 v) (.pointer (some ⟨1,0,none⟩)) x3 x4 (.int .i64 c) x6 x7 x8 x9 xA xB xC xD xE xF xG xH xI xJ xK xL xM xN xO xP xQ xR xS xT xU xV xW xX xY xZ yA yB yC yD yE yF yG yH yI yJ yK yL yM yN yO yP yQ yR yS yT yU yV yW yX yY yZ zA zB zC zD zF zG zH zI zJ zK zL zM zN zO zP zQ zR zS zU zV zW zX),[],H0.add (O [.int .i64 k,.int .i64 n,.string (Tx s),Rw false eE l.length (kF l)] 31 false)⟩ (@kR ⟨jC prog [.tmp 4] (fun v' σ'=>FzV prog 1 σ' v' (.bool b))⟩):=by
 rw[uU1]
 by_cases h1:n=0
 rotate_left
 ·have:b=false:=by rw[hb,decide_eq_false (fun h=>h1 h.2)];rfl
  subst this
  push_cast(disch:=first|omega|(apply id;push_cast;try omega))[h1]
  exact .id rfl
 by_cases h2:(l.length:Int)=c
 rotate_left
 ·have:b=false:=by rw[hb,decide_eq_false (fun h=>h2 h.1)];rfl
  subst this
  push_cast(disch:=first|omega|(apply id;push_cast;try omega))[h1,h2]
  exact .id rfl
 rw[decide_eq_true ⟨h2,h1⟩,Bool.true_and] at hb
 subst h2
 push_cast(disch:=first|omega|(apply id;push_cast;try omega))[h1]
 subst h1
 refine WD.loop4 (q:=qq) (qB G) (by kernel_rfl) (I36r v k 0 s l) ?_ _ _ (I36r.mk 0 0 _ rfl (Nat.zero_le _) rfl (by push_cast(disch:=first|omega|(apply id;push_cast;try omega));first|done|rfl) (by push_cast(disch:=first|omega|(apply id;push_cast;try omega));first|done|rfl) (by push_cast(disch:=first|omega|(apply id;push_cast;try omega));first|done|omega))
 intro m s1 hI
 cases hI with|mk i iv h hiv hi hok c6 hl1 hl2=>
 subst hiv
 rw[uT1]
 by_cases hil:(i:Int)<l.length
 ·obtain ⟨x,hx⟩:∃ x,l[i]?=some x:=⟨_,List.getElem?_eq_getElem (by omega)⟩
  have hxm:=List.mem_of_getElem? hx
  have hp:=cN hx
  have hle:i*4+4≤l.length*4:=by omega
  push_cast(disch:=first|omega|(apply id;push_cast;try omega))[hil,Int.toNat_natCast,c6,hp,hle,hl1]
  refine dK (ih x hxm) ?_
  cases hr:jZ v x with
  | true=>
   push_cast(disch:=first|omega|(apply id;push_cast;try omega))
   exact ⟨_,by omega,I36r.mk (i+1) _ _ (by first|rfl|omega) (by omega) (by rw[gS0 hx,hok,hr];rfl) c6 hl1 hl2⟩
  | false=>
   rw[lO0 hxm hr] at hb
   subst hb
   push_cast(disch:=first|omega|(apply id;push_cast;try omega))
   exact .id rfl
 ·have hie:i=l.length:=by omega
  subst hie
  rw[List.take_length] at hok
  rw[hok] at hb
  subst hb
  push_cast(disch:=first|omega|(apply id;push_cast;try omega))[hil]
  rw[uS1]
  push_cast(disch:=first|omega|(apply id;push_cast;try omega))
  exact .id rfl
theorem rr_f (v:Int):∀ x:Ex,smE x=true→jI (pp G) H0 36 [exV x,.int .i64 v] (.bool (jZ v x))
 | .mk k n s l,hsm=>by
  simp only[smE,Bool.and_eq_true,decide_eq_true_eq] at hsm
  have hll:=hsm.1
  have hall:=cT hsm.2
  have ih:∀ x∈l,jI (pp G) H0 36 [exV x,.int .i64 v] (.bool (jZ v x)):=fun x hx=>rr_f v x (hall x hx)
  refine cE G fir36 (by kernel_rfl) (eX2 ..) fun hlo=>?_;rw[yV2]
  unfold exV exC
  rw[jZ]
  by_cases h0:s=[]
  rotate_left
  ·rw[decide_eq_false h0,Bool.and_false,Bool.false_and]
   have hb0:(s == ([]:List UInt8))=false:=by simpa using h0
   push_cast(disch:=first|omega|(apply id;push_cast;try omega))[hb0,Bool.not_false]
   exact .id rfl
  rw[decide_eq_true h0,Bool.and_true]
  subst h0
  have hb0:(([]:List UInt8) == [])=true:=rfl
  by_cases h1:k=1
  ·by_cases h2:0≤n
   ·rw[if_pos ⟨h1,h2⟩]
    by_cases h3:(l.length:Int)=0
    ·have:l=[]:=List.length_eq_zero_iff.1 (by omega)
     subst this
     push_cast(disch:=first|omega|(apply id;push_cast;try omega))[hb0,h1,h2,decide_true,Bool.not_true,kH]
     exact .id rfl
    ·rw[decide_eq_false (by omega),Bool.false_and]
     push_cast(disch:=first|omega|(apply id;push_cast;try omega))[hb0,h1,h2,h3,decide_true,Bool.not_true]
     exact .id rfl
   ·rw[if_neg (by omega),if_neg (by omega),if_neg (by omega),if_neg (by omega),Bool.false_and]
    push_cast(disch:=first|omega|(apply id;push_cast;try omega))[hb0,h1,h2,decide_true,Bool.not_true]
    exact .id rfl
  rw[if_neg (by omega)]
  by_cases h2:k=2
  ·by_cases h3:0≤n
   ·by_cases h4:n<v
    ·rw[if_pos ⟨h2,h3,h4⟩]
     by_cases h5:(l.length:Int)=0
     ·have:l=[]:=List.length_eq_zero_iff.1 (by omega)
      subst this
      push_cast(disch:=first|omega|(apply id;push_cast;try omega))[hb0,h1,h2,h3,h4,decide_true,Bool.not_true,kH]
      exact .id rfl
     ·rw[decide_eq_false (by omega),Bool.false_and]
      push_cast(disch:=first|omega|(apply id;push_cast;try omega))[hb0,h1,h2,h3,h4,h5,decide_true,Bool.not_true]
      exact .id rfl
    ·rw[if_neg (by omega),if_neg (by omega),if_neg (by omega),Bool.false_and]
     push_cast(disch:=first|omega|(apply id;push_cast;try omega))[hb0,h1,h2,h3,h4,decide_true,Bool.not_true]
     exact .id rfl
   ·rw[if_neg (by omega),if_neg (by omega),if_neg (by omega),Bool.false_and]
    push_cast(disch:=first|omega|(apply id;push_cast;try omega))[hb0,h1,h2,h3,decide_true,Bool.not_true]
    exact .id rfl
  rw[if_neg (by omega)]
  by_cases h3:k=3
  ·rw[if_pos (.inl h3)]
   push_cast(disch:=first|omega|(apply id;push_cast;try omega))[hb0,h1,h2,h3,decide_true,Bool.not_true]
   subst h3
   exact gR2 G v 1 3 n [] l hll ih _ (by congr 2;rw[eq_iff_iff];constructor<;>intro hz<;>exact ⟨by omega,hz.2⟩)
  by_cases h4:k=4
  ·rw[if_pos (.inr h4)]
   push_cast(disch:=first|omega|(apply id;push_cast;try omega))[hb0,h1,h2,h3,h4,decide_true,Bool.not_true]
   subst h4
   exact gR2 G v 1 4 n [] l hll ih _ (by congr 2;rw[eq_iff_iff];constructor<;>intro hz<;>exact ⟨by omega,hz.2⟩)
  rw[if_neg (by omega)]
  by_cases h5:k<5
  ·rw[if_neg (by omega),Bool.false_and]
   push_cast(disch:=first|omega|(apply id;push_cast;try omega))[hb0,h1,h2,h3,h4,h5,decide_true,Bool.not_true]
   exact .id rfl
  by_cases h6:17<k
  ·rw[if_neg (by omega),Bool.false_and]
   push_cast(disch:=first|omega|(apply id;push_cast;try omega))[hb0,h1,h2,h3,h4,h5,h6,decide_true,Bool.not_true]
   exact .id rfl
  rw[if_pos ⟨by omega,by omega⟩]
  push_cast(disch:=first|omega|(apply id;push_cast;try omega))[hb0,h1,h2,h3,h4,h5,h6,decide_true,Bool.not_true]
  exact gR2 G v 2 k n [] l hll ih _ (by congr 2;rw[eq_iff_iff];constructor<;>intro hz<;>exact ⟨by omega,hz.2⟩)
def cZ (v st p what n:Int):Bool:=
 if what=1 then decide (0≤n∧n<v) else if what=2 then decide (n = -1∨(0≤n∧n<v)) else if what=3 then decide (0≤n∧n<st) else if what=4 then decide (0≤n∧n<p) else if what=5 then decide (0≤n) else decide (n=0)
theorem wJ2 (v st p what n:Int):jI (pp G) H0 52 [.agg ⟨[.int .i64 v,.int .i64 st,.int .i64 p]⟩,.int .i64 what,.int .i64 n] (.bool (cZ v st p what n)):=by
 refine cE G fir52 (by kernel_rfl) (nB1 ..) fun hlo=>?_;rw[yG2]
 unfold cZ
 by_cases h1:what=1
 ·rw[if_pos h1]
  by_cases h2:0≤n
  ·push_cast(disch:=first|omega|(apply id;push_cast;try omega))[h1,h2,true_and]
   exact .id rfl
  ·push_cast(disch:=first|omega|(apply id;push_cast;try omega))[h1,h2,false_and]
   exact .id rfl
 rw[if_neg h1]
 by_cases h2:what=2
 ·rw[if_pos h2]
  by_cases h3:n = -1
  ·push_cast(disch:=first|omega|(apply id;push_cast;try omega))[h1,h2,h3,true_or]
   exact .id rfl
  ·by_cases h4:0≤n
   ·push_cast(disch:=first|omega|(apply id;push_cast;try omega))[h1,h2,h3,h4,true_and,false_or]
    exact .id rfl
   ·push_cast(disch:=first|omega|(apply id;push_cast;try omega))[h1,h2,h3,h4,false_and,false_or]
    exact .id rfl
 rw[if_neg h2]
 by_cases h3:what=3
 ·rw[if_pos h3]
  by_cases h4:0≤n
  ·push_cast(disch:=first|omega|(apply id;push_cast;try omega))[h1,h2,h3,h4,true_and]
   exact .id rfl
  ·push_cast(disch:=first|omega|(apply id;push_cast;try omega))[h1,h2,h3,h4,false_and]
   exact .id rfl
 rw[if_neg h3]
 by_cases h4:what=4
 ·rw[if_pos h4]
  by_cases h5:0≤n
  ·push_cast(disch:=first|omega|(apply id;push_cast;try omega))[h1,h2,h3,h4,h5,true_and]
   exact .id rfl
  ·push_cast(disch:=first|omega|(apply id;push_cast;try omega))[h1,h2,h3,h4,h5,false_and]
   exact .id rfl
 rw[if_neg h4]
 by_cases h5:what=5
 ·rw[if_pos h5]
  push_cast(disch:=first|omega|(apply id;push_cast;try omega))[h1,h2,h3,h4,h5]
  exact .id rfl
 rw[if_neg h5]
 push_cast(disch:=first|omega|(apply id;push_cast;try omega))[h1,h2,h3,h4,h5]
 exact .id rfl
def uW (e:Ex):Bool:=!decide (e.k=0) || (!decide (e.n=0) || (!decide (e.s=[]) || decide (0<e.l.length)))
theorem iO1:∀ e:Ex,smE e=true→jI (pp G) H0 55 [exV e] (.bool (uW e))
 | .mk k n s l,hs=>by
  refine cE G fir55 (by kernel_rfl) (fK2 ..) fun hlo=>?_;rw[yD2]
  unfold uW
  by_cases h1:k=0
  rotate_left
  ·rw[show (!decide ((Ex.mk k n s l).k=0))=true from by simp[Ex.k,h1],Bool.true_or]
   push_cast(disch:=first|omega|(apply id;push_cast;try omega))[h1]
   exact .id rfl
  rw[show (!decide ((Ex.mk k n s l).k=0))=false from by simp[Ex.k,h1],Bool.false_or]
  by_cases h2:n=0
  rotate_left
  ·rw[show (!decide ((Ex.mk k n s l).n=0))=true from by simp[Ex.n,h2],Bool.true_or]
   push_cast(disch:=first|omega|(apply id;push_cast;try omega))[h1,h2]
   exact .id rfl
  rw[show (!decide ((Ex.mk k n s l).n=0))=false from by simp[Ex.n,h2],Bool.false_or]
  by_cases h3:s=[]
  rotate_left
  ·rw[show (!decide ((Ex.mk k n s l).s=[]))=true from by simp[Ex.s,h3],Bool.true_or]
   have hb:(s == ([]:List UInt8))=false:=by simpa using h3
   push_cast(disch:=first|omega|(apply id;push_cast;try omega))[h1,h2,hb]
   exact .id rfl
  rw[show (!decide ((Ex.mk k n s l).s=[]))=false from by simp[Ex.s,h3],Bool.false_or]
  by_cases h4:0<l.length
  ·have h4':(0:Int)<l.length:=by omega
   rw[show decide (0<(Ex.mk k n s l).l.length)=true from by simp only[Ex.l,h4,decide_true]]
   push_cast(disch:=first|omega|(apply id;push_cast;try omega))[h1,h2,h3,h4',beq_self_eq_true]
   exact .id rfl
  ·have h4':¬ (0:Int)<l.length:=by omega
   rw[show decide (0<(Ex.mk k n s l).l.length)=false from by simp only[Ex.l,h4,decide_false]]
   push_cast(disch:=first|omega|(apply id;push_cast;try omega))[h1,h2,h3,h4',beq_self_eq_true]
   exact .id rfl
def cU2 (s:List UInt8) (e:Ex) (l:List Tm):Value:=.agg ⟨[.int .i64 (if s=[] then 0 else 1),.int .i64 (if uW e then 1 else 0),.int .i64 l.length]⟩
theorem mY2 (k a b:Int) (s:List UInt8) (e:Ex) (l:List Tm) (hse:smE e=true):jI (pp G) H0 53 [tmV (.mk k a b s e l)] (cU2 s e l):=by
 have hg:=iO1 G e hse
 refine cE G fir53 (by kernel_rfl) (fL2 ..) fun hlo=>?_;rw[yF2]
 unfold cU2
 by_cases h1:s=[]
 ·rw[if_pos h1]
  push_cast(disch:=first|omega|(apply id;push_cast;try omega))[h1,beq_self_eq_true]
  rw[dE0]
  push_cast(disch:=first|omega|(apply id;push_cast;try omega))
  refine dK (hg) ?_
  cases hv:uW e with
  | true=>
   push_cast(disch:=first|omega|(apply id;push_cast;try omega))
   rw[uN0]
   push_cast(disch:=first|omega|(apply id;push_cast;try omega))
   exact .id rfl
  | false=>
   push_cast(disch:=first|omega|(apply id;push_cast;try omega))
   rw[uN0]
   push_cast(disch:=first|omega|(apply id;push_cast;try omega))
   exact .id rfl
 ·have hb:(s == ([]:List UInt8))=false:=by simpa using h1
  rw[if_neg h1]
  push_cast(disch:=first|omega|(apply id;push_cast;try omega))[hb]
  rw[dE0]
  push_cast(disch:=first|omega|(apply id;push_cast;try omega))
  refine dK (hg) ?_
  cases hv:uW e with
  | true=>
   push_cast(disch:=first|omega|(apply id;push_cast;try omega))
   rw[uN0]
   push_cast(disch:=first|omega|(apply id;push_cast;try omega))
   exact .id rfl
  | false=>
   push_cast(disch:=first|omega|(apply id;push_cast;try omega))
   rw[uN0]
   push_cast(disch:=first|omega|(apply id;push_cast;try omega))
   exact .id rfl
def shC:List Value:=match LL with|[(_,l)]=>l|_=>[]
def shA (k:Int):Int:=if k=1 then 2 else if k=2 then 1 else if k=3∨k=4∨k=5∨k=6 then 3 else if k=13 then 4 else if k=14 then 5 else 0
def shB (k:Int):Int:=if k=6 then 3 else if k=14 then 2 else 0
def shN (k:Int):Int:=if k=1∨k=14 then 1 else 0
def shE (k:Int):Int:=if k=2∨k=9 then 1 else 0
def shL (k:Int):Int:=if k=3∨k=7 then 1 else if k=9∨k=10∨k=11∨k=12 then 2 else 0
theorem iU2:∀ k:Nat,k<15→(shC.drop (k*5)).take 5=[.int .i64 (shA k),.int .i64 (shB k),.int .i64 (shN k),.int .i64 (shE k),.int .i64 (shL k)]
 | 0,_=>by kernel_rfl
 | 1,_=>by kernel_rfl
 | 2,_=>by kernel_rfl
 | 3,_=>by kernel_rfl
 | 4,_=>by kernel_rfl
 | 5,_=>by kernel_rfl
 | 6,_=>by kernel_rfl
 | 7,_=>by kernel_rfl
 | 8,_=>by kernel_rfl
 | 9,_=>by kernel_rfl
 | 10,_=>by kernel_rfl
 | 11,_=>by kernel_rfl
 | 12,_=>by kernel_rfl
 | 13,_=>by kernel_rfl
 | 14,_=>by kernel_rfl
 | n+15,h=>by omega
theorem oQ1:∃ ty,cells H0 0=some (shC,ty,false):=⟨_,rfl⟩
theorem zX2:shC.length=75:=by kernel_rfl
mutual
def jY (v st p:Int) (pushed:Bool):Tm→Bool
 | .mk k a b s e l=>decide (0≤k∧k<15)&&(!(pushed&&decide (k=14))&&(cZ v st p (shA k) a&&(cZ v st p (shB k) b&&(decide ((if s=[] then (0:Int) else 1)=shN k∧(if uW e then (1:Int) else 0)=shE k∧(l.length:Int)=shL k)&&((decide (s=[]) || qN0 s)&&((!uW e || jZ v e)&&qL v st p (pushed || decide (k=3)) l))))))
def qL (v st p:Int) (pushed:Bool):List Tm→Bool
 | []=>true
 | x :: l=>jY v st p pushed x&&qL v st p pushed l
end
theorem wH0 {v st p:Int} {q:Bool}:∀ {l:List Tm},qL v st p q l=true→∀ x∈l,jY v st p q x=true
 | [],_,x,hx=>by cases hx
 | y :: l,h,x,hx=>by
  simp only[qL,Bool.and_eq_true] at h
  rcases List.mem_cons.1 hx with rfl|hx
  ·exact h.1
  ·exact wH0 h.2 x hx
theorem oJ0 {v st p:Int} {q:Bool} (a b:List Tm):qL v st p q (a++b)=(qL v st p q a&&qL v st p q b):=by
 induction a with
 | nil=>simp[qL]
 | cons x a ih=>simp[qL,ih,Bool.and_assoc]
theorem lM0 {v st p:Int} {q:Bool} {l:List Tm} {i:Nat} {x:Tm} (h:l[i]?=some x):qL v st p q (l.take (i+1))=(qL v st p q (l.take i)&&jY v st p q x):=by
 rw[jW h,oJ0];simp[qL]
theorem zB1 {v st p:Int} {q:Bool} {l:List Tm} {x:Tm} (h:x∈l) (hx:jY v st p q x=false):qL v st p q l=false:=by
 cases hc:qL v st p q l with
 | false=>rfl
 | true=>rw[wH0 hc x h] at hx;cases hx
inductive I32 (v st p:Int) (q:Bool) (k a b:Int) (s:List UInt8) (e:Ex) (l:List Tm):Nat→S→Prop
 | mk (i:Nat) (iv:Int) (h:jA) {x0 x1 x5 x6 x7 x8 x9 xA xB xC xD xE xF xG xH xI xJ xK xL xM xN xO xP xQ xR xS xT xU xV xW xX xY xZ yA yB yC yD yE yF yG yH yI yJ yK yL yM yN yO yP yQ yR yS yT yU yV yW yX yY yZ zA zB zC zD zF zG zH zI zJ zK zL zM zN zO zP zU zV zW zX zY zZ wA wB wC wD wE wF wG wH:Value} (hiv:iv=(i:Int)) (hi:i≤l.length) (hok:qL v st p (q || decide (k=3)) (l.take i)=true) (c0:cells h 1=some ([.int .i64 v,.int .i64 st,.int .i64 p],69,false)) (c1:cells h 2=some (tmC (.mk k a b s e l),34,false)) (hl1:h.lo=1) (hl2:3≤h.next) :
  I32 v st p q k a b s e l (l.length-i) ⟨(F94 x0 x1 (.bool q) (.pointer (some ⟨1,0,none⟩)) (.pointer (some ⟨2,0,none⟩)) x5 x6 x7 x8 x9 xA xB xC xD xE xF xG xH xI xJ xK xL xM xN xO xP xQ xR xS xT xU xV xW xX xY xZ yA yB yC yD yE yF yG yH yI yJ yK yL yM yN yO yP yQ yR yS yT yU yV yW yX yY yZ zA zB zC zD zF zG zH zI zJ zK zL zM zN zO zP (Rw false etm l.length (qK l)) (.int .i64 l.length) (.int .i64 iv) zU zV zW zX zY zZ wA wB wC wD wE wF wG wH),[],h⟩
theorem fG0 (v st p:Int) (q:Bool) (k a b:Int) (s:List UInt8) (e:Ex) (l:List Tm) (hll:l.length<100000000000)
  (ih:∀ x∈l,∀ q,jI (pp G) H0 32 [.agg ⟨[.int .i64 v,.int .i64 st,.int .i64 p]⟩,tmV x,.bool q] (.bool (jY v st p q x))) (h:jA)
  (c0:cells h 1=some ([.int .i64 v,.int .i64 st,.int .i64 p],69,false)) (c1:cells h 2=some (tmC (.mk k a b s e l),34,false)) (hl1:h.lo=1) (hl2:3≤h.next) {c:Bool} (hc:c=qL v st p (q || decide (k=3)) l) {x0 x1 x5 x6 x7 x8 x9 xA xB xC xD xE xF xG xH xI xJ xK xL xM xN xO xP xQ xR xS xT xU xV xW xX xY xZ yA yB yC yD yE yF yG yH yI yJ yK yL yM yN yO yP yQ yR yS yT yU yV yW yX yY yZ zA zB zC zD zF zG zH zI zJ zK zL zM zN zO zP zU zV zW zX zY zZ wA wB wC wD wE wF wG wH:Value} :
  WD (pp G) qq.H none (.loop pI0) ⟨(F94 x0 x1 (.bool q) (.pointer (some ⟨1,0,none⟩)) (.pointer (some ⟨2,0,none⟩)) x5 x6 x7 x8 x9 xA xB xC xD xE xF xG xH xI xJ xK xL xM xN xO xP xQ xR xS xT xU xV xW xX xY xZ yA yB yC yD yE yF yG yH yI yJ yK yL yM yN yO yP yQ yR yS yT yU yV yW yX yY yZ zA zB zC zD zF zG zH zI zJ zK zL zM zN zO zP (Rw false etm l.length (qK l)) (.int .i64 l.length) (.int .i64 0) zU zV zW zX zY zZ wA wB wC wD wE wF wG wH),[],h⟩
   (@kR ⟨jH 1 (jE (fun s1=>dc3 (pp G) qq none pH0 s1 (@kR ⟨jC prog [.tmp 6] (fun v' σ'=>FzV prog 1 σ' v' (.bool c))⟩)) (jC prog [.tmp 6] (fun v' σ'=>FzV prog 1 σ' v' (.bool c))))⟩):=by
 refine WD.loop4 (q:=qq) (qB G) (by kernel_rfl) (I32 v st p q k a b s e l) ?_ _ _ (I32.mk 0 0 h rfl (Nat.zero_le _) rfl c0 c1 hl1 hl2)
 clear c0 c1 hl1 hl2
 intro m s1 hI
 cases hI with|mk i iv h hiv hi hok c0 c1 hl1 hl2=>
 subst hiv
 rw[uZ1]
 rw[qH0] at c1
 by_cases hil:(i:Int)<l.length
 ·obtain ⟨x,hx⟩:=jR (l:=l) (i:=i) (by omega)
  have hxm:=List.mem_of_getElem? hx
  have hp:=qW hx
  have hle:i*9+9≤l.length*9:=by omega
  have hq:∀ {b:Bool},(q || decide (k=3))=b→jI (pp G) H0 32 [.agg ⟨[.int .i64 v,.int .i64 st,.int .i64 p]⟩,tmV x,.bool b] (.bool (jY v st p b x)):=fun _=>ih x hxm _
  have done1:∀ (b:Bool),(q || decide (k=3))=b→jY v st p b x=true→qL v st p (q || decide (k=3)) (l.take (i+1))=true:=fun b hb hr=>by rw[lM0 hx,hok,hb,hr];rfl
  have done0:∀ (b:Bool),(q || decide (k=3))=b→jY v st p b x=false→c=false:=fun b hb hr=>by rw[hc];exact zB1 hxm (by rw[hb];exact hr)
  cases q with
  | true=>
   push_cast(disch:=first|omega|(apply id;push_cast;try omega))[hil,Int.toNat_natCast,hp,hle,hl1,c0,c1]
   refine dK (hq (Bool.true_or _)) ?_
   cases hr:jY v st p true x with
   | true=>
    push_cast(disch:=first|omega|(apply id;push_cast;try omega))
    exact ⟨_,by omega,I32.mk (i+1) _ _ (by first|rfl|omega) (by omega) (done1 true (Bool.true_or _) hr) (by first|assumption|(push_cast(disch:=first|omega|(apply id;push_cast;try omega))[c0];try omega)) (by first|assumption|(push_cast(disch:=first|omega|(apply id;push_cast;try omega))[c1];try omega)) (by first|assumption|(push_cast(disch:=first|omega|(apply id;push_cast;try omega))[hl1];try omega)) tH⟩
   | false=>
    obtain rfl:=done0 true (Bool.true_or _) hr
    push_cast(disch:=first|omega|(apply id;push_cast;try omega))
    exact .id rfl
  | false=>
   push_cast(disch:=first|omega|(apply id;push_cast;try omega))[hil,Int.toNat_natCast,hp,hle,hl1,c0,c1]
   refine dK (hq (Bool.false_or _)) ?_
   cases hr:jY v st p (decide (k=3)) x with
   | true=>
    push_cast(disch:=first|omega|(apply id;push_cast;try omega))
    exact ⟨_,by omega,I32.mk (i+1) _ _ (by first|rfl|omega) (by omega) (done1 _ (Bool.false_or _) hr) (by first|assumption|(push_cast(disch:=first|omega|(apply id;push_cast;try omega))[c0];try omega)) (by first|assumption|(push_cast(disch:=first|omega|(apply id;push_cast;try omega))[c1];try omega)) (by first|assumption|(push_cast(disch:=first|omega|(apply id;push_cast;try omega))[hl1];try omega)) tH⟩
   | false=>
    obtain rfl:=done0 _ (Bool.false_or _) hr
    push_cast(disch:=first|omega|(apply id;push_cast;try omega))
    exact .id rfl
 ·have hie:i=l.length:=by omega
  subst hie
  rw[List.take_length] at hok
  rw[hok] at hc
  subst hc
  push_cast(disch:=first|omega|(apply id;push_cast;try omega))[hil]
  rw[uY1]
  push_cast(disch:=first|omega|(apply id;push_cast;try omega))
  exact .id rfl
theorem rt_f (v st p:Int):∀ (x:Tm) (q:Bool),smT x=true→jI (pp G) H0 32 [.agg ⟨[.int .i64 v,.int .i64 st,.int .i64 p]⟩,tmV x,.bool q] (.bool (jY v st p q x))
 | .mk k a b s e l,q,hs=>by
  have hs0:=hs
  simp only[smT,Bool.and_eq_true,decide_eq_true_eq] at hs
  obtain ⟨⟨hll,hse⟩,hsl⟩:=hs
  have ih:∀ x∈l,∀ q,jI (pp G) H0 32 [.agg ⟨[.int .i64 v,.int .i64 st,.int .i64 p]⟩,tmV x,.bool q] (.bool (jY v st p q x)):=fun x hx q=>rt_f v st p x q (uU hsl x hx)
  have hheld:=mY2 G k a b s e l hse
  have hgiven:=iO1 G e hse
  obtain ⟨ty,c0⟩:=oQ1
  refine cE G fir32 (by kernel_rfl) (eV2 ..) fun hlo=>?_;rw[yY2]
  rw[jY]
  by_cases h1:0≤k∧k<15
  rotate_left
  ·rw[decide_eq_false h1,Bool.false_and]
   by_cases g1:k<0
   ·push_cast(disch:=first|omega|(apply id;push_cast;try omega))[g1]
    exact .id rfl
   ·have g2:15≤k:=by omega
    push_cast(disch:=first|omega|(apply id;push_cast;try omega))[g1,g2]
    exact .id rfl
  rw[decide_eq_true h1,Bool.true_and]
  have g1:¬ k<0:=by omega
  have g2:¬ 15≤k:=by omega
  by_cases h2:(q&&decide (k=14))=true
  ·rw[h2,Bool.not_true,Bool.false_and]
   rw[Bool.and_eq_true,decide_eq_true_eq] at h2
   obtain ⟨rfl,rfl⟩:=h2
   push_cast(disch:=first|omega|(apply id;push_cast;try omega))
   exact .id rfl
  have h2:(q&&decide (k=14))=false:=by simpa using h2
  rw[h2,Bool.not_false,Bool.true_and]
  obtain ⟨kn,rfl⟩:∃ kn:Nat,k=(kn:Int):=⟨k.toNat,by omega⟩
  have hsg:=iU2 kn (by omega)
  have hk15:(kn:Int)<15:=h1.2
  have hle:kn*5+5≤75:=by omega
  have hld:ldC (some (true,5)) (kn*5) 1 0 (some (shC,ty,false))=some (.agg ⟨[.int .i64 (shA (kn:Int)),.int .i64 (shB (kn:Int)),.int .i64 (shN (kn:Int)),.int .i64 (shE (kn:Int)),.int .i64 (shL (kn:Int))]⟩):=by
   refine pX1 true 5 _ _ _ _ _ _ _ ?_ rfl
   simp only[gR]
   rw[if_pos (by rw[zX2];omega),hsg]
  cases q
  case' true=>
   have h14:¬ (kn:Int)=14:=by simpa using h2
   push_cast(disch:=first|omega|(apply id;push_cast;try omega))[g1,g2,h14,c0,hld,hk15,Int.toNat_natCast]
  case' false=>
   push_cast(disch:=first|omega|(apply id;push_cast;try omega))[g1,g2,c0,hld,hk15,Int.toNat_natCast]
  all_goals
   refine dK (wJ2 G v st p (shA kn) a) ?_
   cases hf1:cZ v st p (shA kn) a with
   | false=>
    push_cast(disch:=first|omega|(apply id;push_cast;try omega))
    exact .id rfl
   | true=>
    push_cast(disch:=first|omega|(apply id;push_cast;try omega))
    refine dK (wJ2 G v st p (shB kn) b) ?_
    cases hf2:cZ v st p (shB kn) b with
    | false=>
     push_cast(disch:=first|omega|(apply id;push_cast;try omega))
     exact .id rfl
    | true=>
     push_cast(disch:=first|omega|(apply id;push_cast;try omega))
     refine dK (hheld) ?_
     unfold cU2
     by_cases hh:(if s=[] then (0:Int) else 1)=shN kn∧(if uW e then (1:Int) else 0)=shE kn∧(l.length:Int)=shL kn
     rotate_left
     ·rw[decide_eq_false hh]
      push_cast(disch:=first|omega|(apply id;push_cast;try omega))[eL0,hh,decide_false,Bool.not_false]
      exact .id rfl
     rw[decide_eq_true hh]
     push_cast(disch:=first|omega|(apply id;push_cast;try omega))[eL0,hh,decide_true,Bool.not_true]
     by_cases hs:s=[]
     ·have hb:(s == ([]:List UInt8))=true:=by simpa using hs
      rw[show decide (s=[])=true from decide_eq_true hs,Bool.true_or,Bool.true_and,Bool.true_and,Bool.true_and]
      push_cast(disch:=first|omega|(apply id;push_cast;try omega))[hb,Bool.not_true]
      refine dK (hgiven) ?_
      cases hg:uW e with
      | false=>
       skip
       push_cast(disch:=first|omega|(apply id;push_cast;try omega))
       exact fG0 G v st p _ kn a b s e l hll ih _ (by push_cast(disch:=first|omega|(apply id;push_cast;try omega))) (by push_cast(disch:=first|omega|(apply id;push_cast;try omega));try rfl) (by push_cast(disch:=first|omega|(apply id;push_cast;try omega))) (by first|(push_cast(disch:=first|omega|(apply id;push_cast;try omega));done)|(push_cast(disch:=first|omega|(apply id;push_cast;try omega));omega)) (by rfl)
      | true=>
       skip
       push_cast(disch:=first|omega|(apply id;push_cast;try omega))
       refine dK (oI0 G v e hse) ?_
       cases hr:jZ v e with
       | false=>
        push_cast(disch:=first|omega|(apply id;push_cast;try omega))
        exact .id rfl
       | true=>
        push_cast(disch:=first|omega|(apply id;push_cast;try omega))
        exact fG0 G v st p _ kn a b s e l hll ih _ (by push_cast(disch:=first|omega|(apply id;push_cast;try omega))) (by push_cast(disch:=first|omega|(apply id;push_cast;try omega));try rfl) (by push_cast(disch:=first|omega|(apply id;push_cast;try omega))) (by first|(push_cast(disch:=first|omega|(apply id;push_cast;try omega));done)|(push_cast(disch:=first|omega|(apply id;push_cast;try omega));omega)) (by rfl)
     ·have hb:(s == ([]:List UInt8))=false:=by simpa using hs
      rw[show decide (s=[])=false from decide_eq_false hs,Bool.false_or]
      push_cast(disch:=first|omega|(apply id;push_cast;try omega))[hb,Bool.not_false]
      refine dK (dE1 G s) ?_
      cases hnm:qN0 s with
      | false=>
       push_cast(disch:=first|omega|(apply id;push_cast;try omega))[hb,Bool.not_false,Bool.not_true]
       exact .id rfl
      | true=>
       push_cast(disch:=first|omega|(apply id;push_cast;try omega))[hb,Bool.not_false,Bool.not_true]
       refine dK (hgiven) ?_
       cases hg:uW e with
       | false=>
        skip
        push_cast(disch:=first|omega|(apply id;push_cast;try omega))
        exact fG0 G v st p _ kn a b s e l hll ih _ (by push_cast(disch:=first|omega|(apply id;push_cast;try omega))) (by push_cast(disch:=first|omega|(apply id;push_cast;try omega));try rfl) (by push_cast(disch:=first|omega|(apply id;push_cast;try omega))) (by first|(push_cast(disch:=first|omega|(apply id;push_cast;try omega));done)|(push_cast(disch:=first|omega|(apply id;push_cast;try omega));omega)) (by rfl)
       | true=>
        skip
        push_cast(disch:=first|omega|(apply id;push_cast;try omega))
        refine dK (oI0 G v e hse) ?_
        cases hr:jZ v e with
        | false=>
         push_cast(disch:=first|omega|(apply id;push_cast;try omega))
         exact .id rfl
        | true=>
         push_cast(disch:=first|omega|(apply id;push_cast;try omega))
         exact fG0 G v st p _ kn a b s e l hll ih _ (by push_cast(disch:=first|omega|(apply id;push_cast;try omega))) (by push_cast(disch:=first|omega|(apply id;push_cast;try omega));try rfl) (by push_cast(disch:=first|omega|(apply id;push_cast;try omega))) (by first|(push_cast(disch:=first|omega|(apply id;push_cast;try omega));done)|(push_cast(disch:=first|omega|(apply id;push_cast;try omega));omega)) (by rfl)
 termination_by x=>SizeOf.sizeOf x
theorem fH0 (v st p:Int) (x:Tm) (hs:smT x=true):jI (pp G) H0 15 [tmV x,.int .i64 v,.int .i64 st,.int .i64 p] (.bool (jY v st p false x)):=by
 refine cE G fir15 (by kernel_rfl) (cL0 ..) fun hlo=>?_;rw[gM2]
 push_cast(disch:=first|omega|(apply id;push_cast;try omega))
 refine dK (rt_f G v st p x false hs) ?_
 push_cast(disch:=first|omega|(apply id;push_cast;try omega))
 exact .id rfl
theorem lB0 {P:Program} {N:Nat} {σ:jA} (h1:szT P eE=some 4) (k a b:Int) (s:List UInt8) {f:Bool} {cs:List Value} {n:Nat} {l:List Tm} (hn:n=l.length) (hc:FzL P N σ cs (qK l)) :
  FzV P N σ (.agg ⟨[.int .i64 k,.int .i64 a,.int .i64 b,.string (Tx s),.int .i64 0,.int .i64 0,.string (Tx []),.slice none 0 0,Rw f etm n cs]⟩) (tmV (.mk k a b s zE l)):=by
 subst hn
 exact .agg (.cons (.id rfl) (.cons (.id rfl) (.cons (.id rfl) (.cons (.id rfl) (.cons (.id rfl) (.cons (.id rfl) (.cons (.id rfl) (.cons (.nil (size:=4) h1 (by decide)) (.cons (.row hc) .nil)))))))))
end
end Go.Proofs.YtgeakofgklcipaaDoor
