/-
  A part of the proof: what the program's functions hand back,as theorems. No condition but those that each theorem names.
-/
import Derived.Test.YtgeakofgklcipaaDoorTa
import Derived.Test.YtgeakofgklcipaaDoorExc
import Derived.Test.YtgeakofgklcipaaDoorEve
import Derived.Lib.Bytealg
import Derived.Laws.RangeAny
import Derived.Test.YtgeakofgklcipaaDoorExd
set_option linter.unusedSimpArgs false
set_option linter.unusedVariables false
namespace Go.Proofs.YtgeakofgklcipaaDoor
open _root_.Go.Proofs.Tryd (prog)
open Go Go.RowKit Go.Ev Go.Dv
noncomputable section
set_option maxRecDepth 100000
variable (G:Nat×Nat)
mutual
def actF:Tm→List Tm
 | .mk k a b s e l=>.mk k a b s e l :: (if k=12 then actH l else if k=11∨k=7 then actL l else [])
def actL:List Tm→List Tm
 | []=>[]
 | x :: l=>actF x++actL l
def actH:List Tm→List Tm
 | []=>[]
 | x :: _=>actF x
end
theorem actL_app:∀ (a b:List Tm),actL (a++b)=actL a++actL b
 | [],b=>rfl
 | x :: a,b=>by rw[List.cons_append,actL,actL,actL_app a b,List.append_assoc]
theorem actH_take (l:List Tm):actH l=actL (l.take 1):=by
 cases l with
 | nil=>rfl
 | cons x l=>rw[actH,List.take_succ_cons,List.take_zero,actL,actL,List.append_nil]
theorem actL_snoc {l:List Tm} {i:Nat} {x:Tm} (h:l[i]?=some x):actL (l.take (i+1))=actL (l.take i)++actF x:=by
 rw[qG h,actL_app,actL,actL,List.append_nil]
structure Yp (lid:Nat) (Y:List Tm→(Nat→Prop)→jA→Prop) (N:List Tm→Prop):Prop where
 lt:∀ {acc B σ},Y acc B σ→∀ k,B k→k<σ.next
 lo:∀ {acc B σ},Y acc B σ→σ.lo=1∧1≤σ.next∧lid<σ.next
 st:∀ {acc B σ σ'},Y acc B σ→jT σ σ' (fun k=>¬ B k)→Y acc B σ'
 y:∀ {acc B σ},Y acc B σ→∀ x,smT x=true→N (acc++[x])→jC (pp G) H0 (.func (.yield lid) ⟨[]⟩ ⟨[]⟩) [tmV x] σ (fun _ v σ'=>v=.bool true∧∃ B',Y (acc++[x]) B' σ'∧(∀ k,B' k→B k∨σ.next≤k)∧jT σ σ' B)
 n:∀ {a b},N (a++b)→N a
def EachR (Y:List Tm→(Nat→Prop)→jA→Prop) (acc:List Tm) (B:Nat→Prop) (σ:jA) (v:Value) (σ':jA):Prop:=v=.bool true∧∃ B',Y acc B' σ'∧(∀ k,B' k→B k∨σ.next≤k)∧jT σ σ' B
inductive I63 (lid:Nat) (Y:List Tm→(Nat→Prop)→jA→Prop) (acc:List Tm) (B:Nat→Prop) (σ:jA) (l:List Tm):Nat→S→Prop
 | mk (i:Nat) (iv:Int) (h:jA) (B':Nat→Prop) {x0 x2 x3 x4 x5 x6 x7 x8 x9 xA xB xC xD xE xF xG xH xI xJ xK xL xM xN xO xP xT xU xV xW xX xY xZ yA:Value} (hiv:iv=(i:Int)) (hi:i≤l.length) (hY:Y (acc++actL (l.take i)) B' h) (hB:∀ k,B' k→B k∨σ.next≤k) (g:jT σ h B) :
  I63 lid Y acc B σ l (l.length-i) ⟨(F37 x0 (.func (.yield lid) ⟨[]⟩ ⟨[]⟩) x2 x3 x4 x5 x6 x7 x8 x9 xA xB xC xD xE xF xG xH xI xJ xK xL xM xN xO xP (Rw false etm l.length (qP l)) (.int .i64 l.length) (.int .i64 iv) xT xU xV xW xX xY xZ yA),[],h⟩
theorem each_s0 {lid:Nat} {Y:List Tm→(Nat→Prop)→jA→Prop} {N:List Tm→Prop} (yp:Yp G lid Y N) (l:List Tm) (hll:l.length<100000000000) (hsl:smTs l=true)
  (ih:∀ x∈l,∀ (acc:List Tm) (B:Nat→Prop) (σ:jA),Y acc B σ→N (acc++actF x)→jN (pp G) H0 63 [tmV x,.func (.yield lid) ⟨[]⟩ ⟨[]⟩] σ (EachR Y (acc++actF x) B σ))
  (acc:List Tm) (B:Nat→Prop) (σ:jA) (hY:Y acc B σ) (hN:N (acc++actL l)) {R:Value→jA→Prop} (hR:∀ v σ',EachR Y (acc++actL l) B σ v σ'→R v σ') {x0 x2 x3 x4 x6 x7 x8 x9 xA xB xC xD xE xF xG xH xI xJ xK xL xM xN xO xP xQ xR xS xT xU xV xW xX xY xZ yA:Value} :
  dc3 (pp G) qq none ir63_s0 ⟨(F37 x0 (.func (.yield lid) ⟨[]⟩ ⟨[]⟩) x2 x3 x4 (Rw false etm l.length (qP l)) x6 x7 x8 x9 xA xB xC xD xE xF xG xH xI xJ xK xL xM xN xO xP xQ xR xS xT xU xV xW xX xY xZ yA),[],σ⟩ (@kR ⟨jL prog [.tmp 4] R⟩):=by
 rw[sd_ir63_s0]
 simp(disch:=first|omega|(apply id;simp only[push_cast];try omega))only[push_cast,simprocAttr]
 refine WD.loop4 (q:=qq) (jO G) (by kernel_rfl) (I63 lid Y acc B σ l) ?_ _ _ (I63.mk 0 0 _ B rfl (Nat.zero_le _) (by rw[List.take_zero,actL,List.append_nil];exact hY) (fun k hk=>.inl hk) (jT.refl _ _))
 intro m s1 hI
 cases hI with|mk i iv h B' hiv hi hY' hB g=>
 subst hiv
 rw[sd_ir63_s1]
 obtain ⟨hl1,hl2,hl3⟩:=yp.lo hY'
 by_cases hil:(i:Int)<l.length
 ·obtain ⟨x,hx⟩:=qU (l:=l) (i:=i) (by omega)
  have hxm:=List.mem_of_getElem? hx
  have hp:=uK hx
  have hle:i*9+9≤l.length*9:=by omega
  simp(disch:=first|omega|(apply id;simp only[push_cast];try omega))only[push_cast,simprocAttr,hil,Int.toNat_natCast,hp,hle,hl1]
  obtain ⟨τ,hτ⟩:∃ τ,τ=(h.add (O [.int .i64 0,.int .i64 0,.int .i64 0,.string (Tx []),.int .i64 0,.int .i64 0,.string (Tx []),.slice none 0 0,.slice none 0 0] 34 false)).put h.next (O (tmC x) 34 false):=⟨_,rfl⟩
  have g0:jT h τ (fun _=>False):=by rw[hτ];exact (by (repeat (first|exact Gr.refl _|assumption|(refine jT.put' ?_ _ _ (by first|omega|(simp only[push_cast];omega)))|(refine jT.add' ?_ _))))
  have hY1:=yp.st hY' (g0.mono fun _ _ h=>h.elim)
  rw[← hτ]
  have hN2:N ((acc++actL (l.take i))++actF x):=by
   have h1:actL l=actL (l.take (i+1))++actL (l.drop (i+1)):=by rw[← actL_app,List.take_append_drop]
   rw[h1,← List.append_assoc] at hN
   have:=yp.n hN
   rw[actL_snoc hx,← List.append_assoc] at this
   exact this
  refine jC.func (cap:=[]) (args:=[_,_]) (ih x hxm _ B' τ hY1 hN2) ?_
  rintro _ σ2 ⟨rfl,B2,hY2,hB2,g2⟩
  simp(disch:=first|omega|(apply id;simp only[push_cast];try omega))only[push_cast,simprocAttr,Bool.not_true]
  have hn0:=g0.next
  refine ⟨_,by omega,I63.mk (i+1) _ _ B2 (by first|rfl|omega) (by omega) (by rw[actL_snoc hx,← List.append_assoc];exact hY2) (fun k hk=>?_) ?_⟩
  ·have hng:=g.next
   rcases hB2 k hk with h1|h1
   ·exact hB k h1
   ·exact .inr (by omega)
  ·exact (g.tr' g0 fun _ _ h => h.elim).tr' g2 fun k hk hb => by
    rcases hB k hb with h1|h1
    ·exact h1
    ·omega
 ·have hie:i=l.length:=by omega
  subst hie
  rw[List.take_length] at hY'
  simp(disch:=first|omega|(apply id;simp only[push_cast];try omega))only[push_cast,simprocAttr,hil]
  rw[sd_ir63_s2]
  simp(disch:=first|omega|(apply id;simp only[push_cast];try omega))only[push_cast,simprocAttr]
  exact hR _ _ ⟨rfl,B',hY',hB,g⟩
theorem each_d {lid:Nat} {Y:List Tm→(Nat→Prop)→jA→Prop} {N:List Tm→Prop} (yp:Yp G lid Y N):∀ (x:Tm),smT x=true→∀ (acc:List Tm) (B:Nat→Prop) (σ:jA),Y acc B σ→N (acc++actF x)→
   jN (pp G) H0 63 [tmV x,.func (.yield lid) ⟨[]⟩ ⟨[]⟩] σ (EachR Y (acc++actF x) B σ)
 | .mk k a b s e l,hs,acc,B,σ,hY,hN=>by
  have hs0:=hs
  simp only[smT,Bool.and_eq_true,decide_eq_true_eq] at hs
  obtain ⟨⟨hll,hse⟩,hsl⟩:=hs
  have ih:∀ x∈l,∀ (acc:List Tm) (B:Nat→Prop) (σ:jA),Y acc B σ→N (acc++actF x)→jN (pp G) H0 63 [tmV x,.func (.yield lid) ⟨[]⟩ ⟨[]⟩] σ (EachR Y (acc++actF x) B σ):=fun x hx=>each_d yp x (uY hsl x hx)
  obtain ⟨hl1,hl2,hl3⟩:=yp.lo hY
  refine jN.fir4 (q:=qq) (jO G) fir63 (by kernel_rfl) rfl rfl (F37_arr ..) (by first|exact Nat.le_trans (show NGG≤1 by decide) (by omega)) ?_;rw[sd_ir63]
  have g0:jT σ (σ.add (O (tmC (.mk k a b s e l)) 34 false)) (fun _=>False):=by (repeat (first|exact Gr.refl _|assumption|(refine jT.put' ?_ _ _ (by first|omega|(simp only[push_cast];omega)))|(refine jT.add' ?_ _)))
  have hY1:=yp.st hY (g0.mono fun _ _ h=>h.elim)
  have hN1:N (acc++[.mk k a b s e l]):=by
   rw[actF,← List.singleton_append,← List.append_assoc] at hN
   exact yp.n hN
  simp(disch:=first|omega|(apply id;simp only[push_cast];try omega))only[push_cast,simprocAttr,hl1]
  refine jC.mono (yp.y hY1 _ hs0 hN1) ?_
  rintro _ _ σ2 ⟨rfl,B2,hY2,hB2,g2⟩
  have hnB:¬ B σ.next:=fun hb=>by have:=yp.lt hY _ hb;omega
  have c0:cells σ2 σ.next=some (tmC (.mk k a b s e l),34,false):=g2.cellsE (by simp(disch:=first|omega|(apply id;simp only[push_cast];try omega))only[push_cast,simprocAttr]) (by simp(disch:=first|omega|(apply id;simp only[push_cast];try omega))only[push_cast,simprocAttr];omega) hnB
  have hn2:=g2.next
  rw[jH] at hn2
  have hl2':σ2.lo=1:=(yp.lo hY2).1
  have fin:∀ (l':List Tm),actF (.mk k a b s e l)=.mk k a b s e l :: actL l'→∀ v σ',EachR Y ((acc++[.mk k a b s e l])++actL l') B2 σ2 v σ'→EachR Y (acc++actF (.mk k a b s e l)) B σ v σ':=by
   rintro l' he v σ' ⟨rfl,B3,hY3,hB3,g3⟩
   refine ⟨rfl,B3,by rw[he,← List.singleton_append,← List.append_assoc];exact hY3,fun k' hk=>?_,(g0.mono fun _ _ h=>h.elim).trans (g2.tr' g3 fun k' hk hb=>?_) fun _ _ h=>h⟩
   ·rcases hB3 k' hk with h1|h1
    ·rcases hB2 k' h1 with h2|h2
     ·exact .inl h2
     ·rw[jH] at h2;exact .inr (by omega)
    ·exact .inr (by omega)
   ·rcases hB2 k' hb with h2|h2
    ·exact h2
    ·omega
  have e0:(qP l).take ((l.take 1).length*9)=qP (l.take 1):=by rw[tmCs_front];congr 1;cases l<;>rfl
  rw[tmC_mk] at c0
  by_cases h1:k=12
  ·subst h1
   have he:actF (.mk 12 a b s e l)=.mk 12 a b s e l :: actL (l.take 1):=by rw[actF,if_pos rfl,actH_take]
   have hm:min 1 (l.length:Int)=((l.take 1).length:Int):=by rw[List.length_take];omega
   rw[he,← List.singleton_append,← List.append_assoc] at hN
   simp(disch:=first|omega|(apply id;simp only[push_cast];try omega))only[push_cast,simprocAttr,c0,hl2',mnV_int,hm,Int.toNat_natCast,e0,Bool.not_true]
   exact each_s0 G yp (l.take 1) (by rw[List.length_take];omega) (smTs_of fun x hx=>uY hsl x (List.mem_of_mem_take hx)) (fun x hx=>ih x (List.mem_of_mem_take hx)) _ _ _ hY2 hN (fin _ he)
  ·by_cases h2:k=11∨k=7
   ·have he:actF (.mk k a b s e l)=.mk k a b s e l :: actL l:=by rw[actF,if_neg h1,if_pos h2]
    rw[he,← List.singleton_append,← List.append_assoc] at hN
    by_cases h3:k=11
    ·simp(disch:=first|omega|(apply id;simp only[push_cast];try omega))only[push_cast,simprocAttr,c0,hl2',h1,h3,Bool.not_true]
     exact each_s0 G yp l hll hsl ih _ _ _ hY2 hN (fin l he)
    ·have h4:k=7:=by omega
     simp(disch:=first|omega|(apply id;simp only[push_cast];try omega))only[push_cast,simprocAttr,c0,hl2',h1,h3,h4,Bool.not_true]
     exact each_s0 G yp l hll hsl ih _ _ _ hY2 hN (fin l he)
   ·have he:actF (.mk k a b s e l)=.mk k a b s e l :: actL []:=by rw[actF,if_neg h1,if_neg h2];rfl
    have h3:¬ k=11:=fun h=>h2 (.inl h)
    have h4:¬ k=7:=fun h=>h2 (.inr h)
    simp(disch:=first|omega|(apply id;simp only[push_cast];try omega))only[push_cast,simprocAttr,c0,hl2',h1,h3,h4,Bool.not_true]
    exact fin [] he _ _ ⟨rfl,B2,by rw[actL,List.append_nil];exact hY2,fun k hk=>.inl hk,jT.refl _ _⟩
 termination_by x=>SizeOf.sizeOf x
theorem active_d (x:Tm) (σ:jA) (hl0:1≤σ.lo):jN (pp G) H0 42 [tmV x] σ (fun v σ'=>v=.func (.func 62) ⟨[]⟩ ⟨[.pointer (some ⟨σ.next,0,none⟩)]⟩∧σ'=σ.add (O (tmC x) 34 false)):=by
 refine jN.fir4 (q:=qq) (jO G) fir42 (by kernel_rfl) rfl rfl (F4_arr ..) (by first|exact Nat.le_trans (show NGG≤1 by decide) (by omega)) ?_;rw[sd_ir42]
 simp(disch:=first|omega|(apply id;simp only[push_cast];try omega))only[push_cast,simprocAttr]
 try exact ⟨rfl,rfl⟩
theorem active1_d {lid:Nat} {Y:List Tm→(Nat→Prop)→jA→Prop} {N:List Tm→Prop} (yp:Yp G lid Y N) (x:Tm) (hs:smT x=true) (b:Nat) (B:Nat→Prop) (σ:jA) (hb:cells σ b=some (tmC x,34,false)) (hb1:1≤b) (hY:Y [] B σ) (hN:N (actF x)) :
  jN (pp G) H0 62 [.func (.yield lid) ⟨[]⟩ ⟨[]⟩,.pointer (some ⟨b,0,none⟩)] σ (fun _ σ'=>EachR Y (actF x) B σ (.bool true) σ'):=by
 obtain ⟨hl1,hl2,hl3⟩:=yp.lo hY
 refine jN.fir4 (q:=qq) (jO G) fir62 (by kernel_rfl) rfl rfl (F6_arr ..) (by first|exact Nat.le_trans (show NGG≤1 by decide) (by omega)) ?_;rw[sd_ir62]
 simp(disch:=first|omega|(apply id;simp only[push_cast];try omega))only[push_cast,simprocAttr,hb,hl1]
 refine jC.func (cap:=[]) (args:=[_,_]) (each_d G yp x hs [] B σ hY hN) ?_
 rintro _ σ2 ⟨rfl,B2,hY2,hB2,g2⟩
 simp(disch:=first|omega|(apply id;simp only[push_cast];try omega))only[push_cast,simprocAttr]
 exact ⟨rfl,B2,hY2,hB2,g2⟩
def wS (acc:List Tm):List Int:=(acc.filter fun x=>decide (x.k=14)).map Tm.a
def waitsF (x:Tm):List Int:=wS (actF x)
theorem wS_snoc (acc:List Tm) (x:Tm):wS (acc++[x])=wS acc++(if x.k=14 then [x.a] else []):=by
 unfold wS
 rw[List.filter_append,List.map_append]
 congr 1
 by_cases h:x.k=14<;>simp[h]
theorem wS_len (acc:List Tm):(wS acc).length≤acc.length:=by
 unfold wS
 rw[List.length_map]
 exact List.length_filter_le _ _
def tmW (t:Tm):VT:=F17 (tmV t) (.pointer (some ⟨1,0,none⟩)) (.slice none 0 0) (.pointer (some ⟨2,0,none⟩)) ud (tmV t) (.func (.func 62) ⟨[]⟩ ⟨[.pointer (some ⟨3,0,none⟩)]⟩) ud ud ud ud ud ud ud ud ud ud
def lpW (t:Tm):Loop:={ state:=.ready,pending:=none,fn:=0,tmps:=(tmW t).arr,params:=#[7],assign:=subC prog 24 0,body:=subC prog 24 1,defers:=4 }
structure Yw (t:Tm) (acc:List Tm) (B:Nat→Prop) (σ:jA):Prop where
 lo:σ.lo=1
 nx:6≤σ.next
 lp:σ.get 5=some ⟨.loop (lpW t),false⟩
 w:∃ q c,cells σ 2=some ([.slice q (wS acc).length c],42,false)∧OwnD σ eI 1 q (wS acc).length c (ivs (wS acc))∧(∀ k,blk q k→6≤k∧k<σ.next)∧B=fun k=>k=5∨k=2∨blk q k
theorem setW (t x:Tm):kQ (tmW t) ((#[7]:Array Nat).toList.zip [tmV x])=F17 (tmV t) (.pointer (some ⟨1,0,none⟩)) (.slice none 0 0) (.pointer (some ⟨2,0,none⟩)) ud (tmV t) (.func (.func 62) ⟨[]⟩ ⟨[.pointer (some ⟨3,0,none⟩)]⟩) (tmV x) ud ud ud ud ud ud ud ud ud:=by kernel_rfl
theorem rowI1' (x:Int) (σ:jA):bsD (qq.m 42) (slT prog 42) 1 [(0,.int .i64 x)] σ=some (Rw true eI 1 (ivs [x]),σ):=by kernel_rfl
theorem yw (t:Tm):Yp G 5 (Yw t) (fun acc=>acc.length<1000000000000) where
 lt:=fun {acc B σ} hY k hk=>by
  obtain ⟨hl,hn,hlp,q,c,h1,h2,h3,rfl⟩:=hY
  rcases hk with rfl|rfl|hk
  ·omega
  ·omega
  ·exact (h3 k hk).2
 lo:=fun {acc B σ} hY=>⟨hY.lo,by have:=hY.nx;omega,by have:=hY.nx;omega⟩
 n:=fun {a b} h=>by rw[List.length_append] at h;omega
 st:=fun {acc B σ σ'} hY g=>by
  obtain ⟨hl,hn,hlp,q,c,h1,h2,h3,rfl⟩:=hY
  have hgn:=g.next
  refine ⟨g.lo.trans hl,by omega,(g.get _ (by omega) (fun h=>h (.inl rfl))).trans hlp,q,c,g.cellsE h1 (by omega) (fun h=>h (.inr (.inl rfl))),h2.grew g (fun b hb h=>h (.inr (.inr hb))),fun k hk=>⟨(h3 k hk).1,by have:=(h3 k hk).2;omega⟩,rfl⟩
 y:=fun {acc B σ} hY x hsx hN=>by
  obtain ⟨hl,hn,hlp,q,c,h1,h2,h3,rfl⟩:=hY
  rw[List.length_append,List.length_singleton] at hN
  have hwl:=wS_len acc
  refine jC.yield (q:=qq) (T:=tmW t) (jO G) (getLoopA_of hlp (by omega)) (by omega) rfl (by show 17<U;unfold U;omega) rfl comp24_0 comp24_1 (show irOk NGG ir24_0=true by kernel_rfl) (show irOk NGG ir24_1=true by kernel_rfl) (by rw[hl];exact Nat.le_refl _) ?_
  rw[show (lpW t).params=#[7] from rfl,setW,sd_ir24_0]
  simp(disch:=first|omega|(apply id;simp only[push_cast];try omega))only[push_cast,simprocAttr]
  obtain ⟨τ,hτ⟩:∃ τ,τ=(σ.add (O [.int .i64 0,.int .i64 0,.int .i64 0,.string (Tx []),.int .i64 0,.int .i64 0,.string (Tx []),.slice none 0 0,.slice none 0 0] 34 false)).put σ.next (O (tmC x) 34 false):=⟨_,rfl⟩
  have g0:jT σ τ (fun _=>False):=by rw[hτ];exact (by (repeat (first|exact Gr.refl _|assumption|(refine jT.put' ?_ _ _ (by first|omega|(simp only[push_cast];omega)))|(refine jT.add' ?_ _))))
  have c0:cells τ σ.next=some (tmC x,34,false):=by rw[hτ];simp(disch:=first|omega|(apply id;simp only[push_cast];try omega))only[push_cast,simprocAttr]
  rw[← hτ]
  have hn0:σ.next+1≤τ.next:=by rw[hτ];simp(disch:=first|omega|(apply id;simp only[push_cast];try omega))only[push_cast,simprocAttr];omega
  have hl0:τ.lo=1:=by rw[g0.lo,hl]
  have k1:=g0.cellsE h1 (by omega) id
  have k2:=h2.grew g0 (fun _ _ h=>h)
  have klp:=(g0.get _ (by omega) id).trans hlp
  clear hτ
  simp only[kR,hi,assignD]
  rw[getLoopA_of klp (by omega)]
  refine ⟨rfl,?_⟩
  rw[show (jP τ 5 { lpW t with state:=.busy })=τ.put 5 ⟨.loop { lpW t with state:=.busy },false⟩ from rfl]
  obtain ⟨τ2,hτ2⟩:∃ τ2,τ2=τ.put 5 ⟨.loop { lpW t with state:=.busy },false⟩:=⟨_,rfl⟩
  rw[← hτ2]
  have g2:jT τ τ2 (fun k=>k=5):=by rw[hτ2];exact jT.put _ _ _ fun _=>rfl
  have b0:=g2.cellsE c0 (by omega) (by omega)
  have b1:=g2.cellsE k1 (by omega) (by omega)
  have b2:=k2.grew g2 (fun k hk e=>by have:=h3 k hk;omega)
  have blp:τ2.get 5=some ⟨.loop { lpW t with state:=.busy },false⟩:=by rw[hτ2];exact get_put_s _ _
  have hl2:τ2.lo=1:=by rw[g2.lo,hl0]
  have hn2:=g2.next
  have gg:jT σ τ2 (fun k=>k=5∨k=2∨blk q k):=(g0.mono fun _ _ h=>h.elim).tr' g2 fun k _ h=>.inl h
  clear hτ2 g2 g0
  rw[sd_ir24_1]
  obtain ⟨xk,xa,xb,xs,xe,xl⟩:=x
  rw[tmC_mk] at b0
  have hwx:=wS_snoc acc (.mk xk xa xb xs xe xl)
  have fin : ∀ (D : S) (q' : Option Addr) (c' : Nat), D.h.get 5 = some ⟨.loop { lpW t with state := .busy }, false⟩ → D.h.lo = 1 → cells D.h 2 = some ([.slice q' (wS (acc ++ [.mk xk xa xb xs xe xl])).length c'], 42, false) → OwnD D.h eI 1 q' (wS (acc ++ [.mk xk xa xb xs xe xl])).length c' (ivs (wS (acc ++ [.mk xk xa xb xs xe xl]))) →
    (∀ k,blk q' k→blk q k∨τ2.next≤k)→jT τ2 D.h (fun k=>k=2∨blk q k)→
    roundD 5 (fun (_:Bool) v σ'=>v=.bool true∧∃ B',Yw t (acc++[.mk xk xa xb xs xe xl]) B' σ'∧(∀ k,B' k→(k=5∨k=2∨blk q k)∨σ.next≤k)∧jT σ σ' (fun k=>k=5∨k=2∨blk q k)) .normal D:=by
   rintro ⟨tm,df,τ3⟩ q' c' f1 f2 f3 f4 f5 f6
   simp only[roundD]
   rw[getLoopA_of f1 (by omega)]
   have f7:τ2.next≤τ3.next:=f6.next
   have hq':∀ k,blk q' k→6≤k∧k<τ3.next:=fun k hk=>⟨by rcases f5 k hk with h|h;exact (h3 k h).1;omega,(OwnD.lt f4 hk).2⟩
   have gp:jT τ3 (jP τ3 5 (lpW t)) (fun k=>k=5):=jT.put _ _ _ fun _=>rfl
   refine ⟨rfl,fun k=>k=5∨k=2∨blk q' k,⟨f2,(by show 6≤τ3.next;omega),get_put_s _ _,q',c',gp.cellsE f3 (by show _<τ3.next;omega) (by omega),f4.grew gp (fun k hk e=>by have:=hq' k hk;omega),hq',rfl⟩,fun k hk=>?_,(gg.tr' f6 fun k hk h=>.inr h).tr' gp fun k hk h=>.inl h⟩
   ·rcases hk with rfl|rfl|hk
    ·exact .inl (.inl rfl)
    ·exact .inl (.inr (.inl rfl))
    ·rcases f5 k hk with h|h
     ·exact .inl (.inr (.inr h))
     ·exact .inr (by omega)
  by_cases hk:xk=14
  ·subst hk
   obtain ⟨a',c',σ',e,o',g',b'⟩:=own_app (by_:=8) b2 (by omega) (by omega) (m:=1) (xs:=ivs [xa]) rfl rfl (by omega)
   have hn':=g'.next
   have r1:=g'.cellsE b1 (by omega) (fun h=>by have:=h3 _ h;omega)
   have rl:=(g'.get _ (by omega) (fun h=>by have:=h3 _ h;omega)).trans blp
   have hl3:σ'.lo=1:=by rw[g'.lo,hl2]
   rw[if_pos (by rfl)] at hwx
   have hwl2:(wS (acc++[.mk 14 xa xb xs xe xl])).length=(wS acc).length+1:=by rw[hwx];exact List.length_append
   simp(disch:=first|omega|(apply id;simp only[push_cast];try omega))only[push_cast,simprocAttr,b0,b1,hl2,↓rowI1',e,r1,hl3]
   have gp:jT σ' (σ'.put 2 (O [.slice a' ((wS acc).length+1) c'] 42 false)) (fun k=>k=2):=jT.put _ _ _ fun _=>rfl
   have hb':∀ k,blk a' k→¬ k=2:=fun k hk=>by
    rcases b' k hk with h|h
    ·have:=h3 k h;omega
    ·omega
   refine fin _ a' c' ((gp.get _ (by omega) (by omega)).trans rl) (by simp(disch:=first|omega|(apply id;simp only[push_cast];try omega))only[push_cast,simprocAttr,hl3]) (by rw[hwl2];simp(disch:=first|omega|(apply id;simp only[push_cast];try omega))only[push_cast,simprocAttr]) ?_ b' ((g'.mono (T:=fun k=>k=2∨blk q k) fun _ _ h=>.inr h).tr' gp fun _ _ h=>.inl h)
   rw[hwl2,hwx]
   show OwnD _ _ _ _ _ _ (ivs (wS acc++[xa]))
   rw[ivs_app]
   exact o'.grew gp hb'
  ·rw[if_neg (by exact hk),List.append_nil] at hwx
   simp(disch:=first|omega|(apply id;simp only[push_cast];try omega))only[push_cast,simprocAttr,b0,b1,hk,hl2]
   exact fin _ q c blp hl2 (by rw[hwx];exact b1) (by rw[hwx];exact b2) (fun k h=>.inl h) (jT.refl _ _)
theorem leaveR_n {l:Nat} {s:S} {mk:List Nat} {R:jJ→S→Prop} {v:Value} {h2:jA} {r:Loop} (hg:jY h2 l=some r) (hs:r.state=.ready) (hp:r.pending=none) (hR:R .normal ⟨s.tm,mk++s.df,jP h2 l { r with state:=.exhausted }⟩):leaveR l s mk R v h2:=by
 have he:evLeave l ⟨s.tm,mk++s.df,h2⟩=some (.normal,⟨s.tm,mk++s.df,jP h2 l { r with state:=.exhausted }⟩):=by
  unfold evLeave
  rw[hg]
  obtain ⟨st,pd,fn,tm',ps',as',bd',df'⟩:=r
  cases hs
  cases hp
  rfl
 unfold leaveR
 rw[he]
 exact hR
theorem waits_f (t:Tm) (hs:smT t=true) (hn:(actF t).length<1000000000000):jE (pp G) H0 24 [tmV t] (ivV (waitsF t)):=by
 have hlo:H0.lo≤H0.next:=Nat.le_refl _;refine jE.cut (jN.fir4 (q:=qq) (jO G) fir24 (by kernel_rfl) rfl rfl (F17_arr ..) (show NGG≤H0.lo by rw[jV];decide) ?_);rw[sd_ir24]
 simp(disch:=first|omega|(apply id;simp only[push_cast];try omega))only[push_cast,simprocAttr]
 refine jC.func (cap:=[]) (args:=[_]) (active_d G t _ (by simp(disch:=first|omega|(apply id;simp only[push_cast];try omega))only[push_cast,simprocAttr])) ?_
 rintro _ _ ⟨rfl,rfl⟩
 simp(disch:=first|omega|(apply id;simp only[push_cast];try omega))only[push_cast,simprocAttr]
 obtain ⟨σ,hσ⟩:∃ σ,σ=((H0.add (O (tmC t) 34 false)).add (O [.slice none 0 0] 42 false)).add (O (tmC t) 34 false):=⟨_,rfl⟩
 have n4:σ.next=4:=by rw[hσ];simp(disch:=first|omega|(apply id;simp only[push_cast];try omega))only[push_cast,simprocAttr]
 have l4:σ.lo=1:=by rw[hσ];simp(disch:=first|omega|(apply id;simp only[push_cast];try omega))only[push_cast,simprocAttr]
 have c2:cells σ 2=some ([.slice none 0 0],42,false):=by rw[hσ];simp(disch:=first|omega|(apply id;simp only[push_cast];try omega))only[push_cast,simprocAttr]
 have c3:cells σ 3=some (tmC t,34,false):=by rw[hσ];simp(disch:=first|omega|(apply id;simp only[push_cast];try omega))only[push_cast,simprocAttr]
 have gH:jT H0 σ (fun _=>False):=by rw[hσ];exact (by (repeat (first|exact Gr.refl _|assumption|(refine jT.put' ?_ _ _ (by first|omega|(simp only[push_cast];omega)))|(refine jT.add' ?_ _))))
 rw[← hσ]
 clear hσ
 refine WD.range (q:=qq) (jO G) (f:=62) (captured:=[.pointer (some ⟨3,0,none⟩)]) rfl rfl ?_
 show jN _ _ _ (.func (.yield (σ.next+1)) _ _ :: _) ((σ.add _).add ⟨.loop { state:=.ready,pending:=none,fn:=0,tmps:=_,params:=_,assign:=_,body:=_,defers:=σ.next },false⟩) (leaveR (σ.next+1) _ [σ.next] _)
 rw[n4]
 have g1:jT σ ((σ.add ⟨.deferred (some []),false⟩).add ⟨.loop (lpW t),false⟩) (fun _=>False):=(jT.add _ _ _).trans (jT.add _ _ _) fun _ _ h=>h
 have hY:Yw t [] (fun k=>k=5∨k=2∨blk none k) ((σ.add ⟨.deferred (some []),false⟩).add ⟨.loop (lpW t),false⟩):=by
  refine ⟨by simp(disch:=first|omega|(apply id;simp only[push_cast];try omega))only[push_cast,simprocAttr,l4],by simp(disch:=first|omega|(apply id;simp only[push_cast];try omega))only[push_cast,simprocAttr,n4],get_add_s _ _ (by rw[jH,n4]),none,0,g1.cellsE c2 (by omega) id,OwnD.nil _ _ _,fun k hk=>?_,rfl⟩
  obtain ⟨o,s,e⟩:=hk
  cases e
 refine (active1_d G (yw G t) t hs 3 _ _ (g1.cellsE c3 (by omega) id) (by decide) hY hn).mono ?_
 rintro v σ2 ⟨-,B2,hY2,hB2,g2⟩
 obtain ⟨hl,hnx,hlp,q,c,h1,h2,h3,rfl⟩:=hY2
 have hmk:σ2.get 4=some ⟨.deferred (some []),false⟩:=by
  refine (g2.get _ (by rw[jH,jH];omega) ?_).trans ?_
  ·rintro (h|h|⟨o,s,e⟩)
   ·omega
   ·omega
   ·cases e
  ·rw[jX _ _ (by rw[jH];omega),get_add_s _ _ n4.symm]
 have gp:jT σ2 (jP σ2 5 { lpW t with state:=.exhausted }) (fun k=>k=5):=jT.put _ _ _ fun _=>rfl
 refine leaveR_n (getLoopA_of hlp (by omega)) rfl rfl ?_
 generalize jP σ2 5 { lpW t with state:=.exhausted }=τ at gp
 have r1:=gp.cellsE h1 (by omega) (by omega)
 have r2:=h2.grew gp (fun k hk e=>by have:=h3 k hk;omega)
 have r3:=(gp.get _ (by omega) (by omega)).trans hmk
 have r4:τ.lo=1:=by rw[gp.lo,hl]
 have hwl:=wS_len (actF t)
 simp(disch:=first|omega|(apply id;simp only[push_cast];try omega))only[push_cast,simprocAttr]
 rw[sd_ir24_s0]
 simp(disch:=first|omega|(apply id;simp only[push_cast];try omega))only[push_cast,simprocAttr,r1,r4]
 rw[evMarks_cons r3 (by omega),show uX [] (τ.put 4 ⟨.deferred none,false⟩)=some (τ.put 4 ⟨.deferred none,false⟩) from rfl]
 simp(disch:=first|omega|(apply id;simp only[push_cast];try omega))only[push_cast,simprocAttr]
 have g4:jT τ (τ.put 4 ⟨.deferred none,false⟩) (fun k=>k=4):=jT.put _ _ _ fun _=>rfl
 have:=OwnD.fz (P:=(pp G).P) (N:=1) (r2.grew g4 (fun k hk e=>by have:=h3 k hk;omega)) (by rfl) (by decide) (by omega) (.ids (ivs_sc _ _)) (fun k hk=>by have:=h3 k hk;omega)
 exact this
end
end Go.Proofs.YtgeakofgklcipaaDoor
namespace Go.Proofs.YtgeakofgklcipaaDoor
open _root_.Go.Proofs.Tryd (prog)
open Go Go.RowKit Go.Ev Go.Dv
noncomputable section
set_option maxRecDepth 100000
theorem u_a3:prog.underlying 77=some (.array 3 3):=by kernel_rfl
theorem guardA:prog.eqGuardType prog.depth 77=false:=by kernel_rfl
theorem pv_prog (P:Program):pv P program=some P:=rfl
theorem partA (a b c:Int):pv prog (part 3 ⟨[.int .i64 a,.int .i64 b,.int .i64 c]⟩ (0*1))=some (.int .i64 a)∧pv prog (part 3 ⟨[.int .i64 a,.int .i64 b,.int .i64 c]⟩ (1*1))=some (.int .i64 b)∧pv prog (part 3 ⟨[.int .i64 a,.int .i64 b,.int .i64 c]⟩ (2*1))=some (.int .i64 c):=⟨by kernel_rfl,by kernel_rfl,by kernel_rfl⟩
theorem szA:pv prog (sizeOf 3)=some 1:=by kernel_rfl
theorem eqI (d:Nat) (a b:Int):pv prog (Op.equalIn (d+1) 3 (.int .i64 a) (.int .i64 b))=some (a == b):=by kernel_rfl
theorem pv_if {α:Type} (P:Program) (c:Prop) [Decidable c] (x y:Sem α):pv P (if c then x else y)=if c then pv P x else pv P y:=by split<;>rfl
theorem pv_eqA (d:Nat) (a b c a' b' c':Int):pv prog (Op.equalIn (d+2) 77 (.agg ⟨[.int .i64 a,.int .i64 b,.int .i64 c]⟩) (.agg ⟨[.int .i64 a',.int .i64 b',.int .i64 c']⟩))=some (a == a'&&b == b'&&c == c'):=by
 rw[Op.equalIn]
 simp only[kO,pv_under u_a3,Option.bind_some,szA]
 simp only[Std.Legacy.Range.forIn_eq_forIn_range',Std.Legacy.Range.size]
 rw[show List.range' 0 ((3-0+1-1) / 1)=[0,1,2] from rfl]
 have p1:=partA a b c
 have p2:=partA a' b' c'
 simp only[List.forIn_cons,List.forIn_nil,kO,pv_if,p1,p2,eqI,Option.bind_some]
 cases h1:(a == a')<;>cases h2:(b == b')<;>cases h3:(c == c')<;>simp[uV,kO,pv_if,p1,p2,eqI,h1,h2,h3]
theorem pv_eqA' (a b c a' b' c':Int):pv prog (Op.equal 77 (.agg ⟨[.int .i64 a,.int .i64 b,.int .i64 c]⟩) (.agg ⟨[.int .i64 a',.int .i64 b',.int .i64 c']⟩))=some (a == a'&&b == b'&&c == c'):=pv_eqA 9998 a b c a' b' c'
theorem b_neqA {x y:Operand} {a b c a' b' c':Int}:jB prog .neq 77 x y (.agg ⟨[.int .i64 a,.int .i64 b,.int .i64 c]⟩) (.agg ⟨[.int .i64 a',.int .i64 b',.int .i64 c']⟩)=some (.bool (!decide (a=a'∧b=b'∧c=c'))):=by
 have hg:pv prog (eqGuard .neq 77 x y (.agg ⟨[.int .i64 a,.int .i64 b,.int .i64 c]⟩) (.agg ⟨[.int .i64 a',.int .i64 b',.int .i64 c']⟩))=some ():=by
  simp only[eqGuard,pv_if,kO,pv_prog,Option.bind_some,guardA,Bool.not_true,Bool.not_false,Bool.false_eq_true,if_false,if_true,uV]
 have hb:pv prog (binOp .neq 77 (.agg ⟨[.int .i64 a,.int .i64 b,.int .i64 c]⟩) (.agg ⟨[.int .i64 a',.int .i64 b',.int .i64 c']⟩))=some (.bool (!(a == a'&&b == b'&&c == c'))):=by
  simp only[binOp,pv_map,kO,pv_eqA',Option.map_some,Option.bind_some,uV]
 have e:(a == a'&&b == b'&&c == c')=decide (a=a'∧b=b'∧c=c'):=by
  rw[Bool.eq_iff_iff]
  simp[and_assoc]
 rw[← e]
 simp only[jB,pvF,flat,jM,Bool.and_self,kO,hg,hb,Option.bind_some]
end
end Go.Proofs.YtgeakofgklcipaaDoor
namespace Go.Proofs.YtgeakofgklcipaaDoor
open _root_.Go.Proofs.Tryd (prog)
open Go Go.RowKit Go.Ev Go.Dv
noncomputable section
set_option maxRecDepth 100000
variable (G:Nat×Nat)
inductive I39 (k n:Int) (s:List UInt8) (l:List Ex) (k' n':Int) (s':List UInt8) (l':List Ex):Nat→S→Prop
 | mk (i : Nat) (iv : Int) (h : jA) {x0 x1 x2 x4 x5 x6 x7 x8 x9 xA xB xC xD xE xF xG xH xI xJ xK xL xM xN xO xP xQ xR xS xT xU xV xW xX xY xZ yD yE yF yG yH yI yJ yK yL yM yN yO yP : Value} (hiv : iv = (i : Int)) (hi : i ≤ l.length) (c2 : cells h 2 = some (exC (.mk k' n' s' l'), 31, false)) (hl1 : h.lo = 1) (hl2 : 3 ≤ h.next)
   (ha:∀ j,j<i→∀ x y,l[j]?=some x→l'[j]?=some y→uT x y=true) :
  I39 k n s l k' n' s' l' (l.length-i) ⟨(F52 x0 x1 x2 (.pointer (some ⟨2,0,none⟩)) x4 x5 x6 x7 x8 x9 xA xB xC xD xE xF xG xH xI xJ xK xL xM xN xO xP xQ xR xS xT xU xV xW xX xY xZ (Rw false eE l.length (uP l)) (.int .i64 l'.length) (.int .i64 iv) yD yE yF yG yH yI yJ yK yL yM yN yO yP),[],h⟩
theorem samex_e:∀ a b:Ex,smE a=true→smE b=true→jE (pp G) H0 39 [exV a,exV b] (.bool (uT a b))
 | .mk k n s l,.mk k' n' s' l',hs,hs'=>by
  simp only[smE,Bool.and_eq_true,decide_eq_true_eq] at hs hs'
  have ih:∀ x∈l,∀ y∈l',jE (pp G) H0 39 [exV x,exV y] (.bool (uT x y)):=fun x hx y hy=>samex_e x y (smEs_all hs.2 x hx) (smEs_all hs'.2 y hy)
  have hlo:H0.lo≤H0.next:=Nat.le_refl _;refine jE.cut (jN.fir4 (q:=qq) (jO G) fir39 (by kernel_rfl) rfl rfl (F52_arr ..) (show NGG≤H0.lo by rw[jV];decide) ?_);rw[sd_ir39]
  rw[uT]
  obtain ⟨b,hb⟩:∃ b,b=(decide (k=k')&&(decide (n=n')&&(decide (s=s')&&(decide (l.length=l'.length)&&kJ l l')))):=⟨_,rfl⟩
  rw[← hb]
  by_cases h1:k=k'
  rotate_left
  ·obtain rfl:b=false:=by rw[hb];simp[h1]
   simp(disch:=first|omega|(apply id;simp only[push_cast];try omega))only[push_cast,simprocAttr,h1]
   exact .id rfl
  by_cases h2:n=n'
  rotate_left
  ·obtain rfl:b=false:=by rw[hb];simp[h2]
   simp(disch:=first|omega|(apply id;simp only[push_cast];try omega))only[push_cast,simprocAttr,h1,h2]
   exact .id rfl
  by_cases h3:s=s'
  rotate_left
  ·obtain rfl:b=false:=by rw[hb];simp[h3]
   have h3':(s == s')=false:=by simpa using h3
   simp(disch:=first|omega|(apply id;simp only[push_cast];try omega))only[push_cast,simprocAttr,h1,h2,h3']
   exact .id rfl
  by_cases h4:l.length=l'.length
  rotate_left
  ·obtain rfl:b=false:=by rw[hb];simp[h4]
   have h4':¬ (l.length:Int)=l'.length:=by omega
   simp(disch:=first|omega|(apply id;simp only[push_cast];try omega))only[push_cast,simprocAttr,h1,h2,h3,h4',beq_self_eq_true]
   exact .id rfl
  have h4':(l.length:Int)=l'.length:=by omega
  have hb':b=kJ l l':=by rw[hb];simp[h1,h2,h3,h4]
  clear hb
  simp(disch:=first|omega|(apply id;simp only[push_cast];try omega))only[push_cast,simprocAttr,h1,h2,h3,h4',beq_self_eq_true]
  refine WD.loop4 (q:=qq) (jO G) (by kernel_rfl) (I39 k n s l k' n' s' l') ?_ _ _ (I39.mk 0 0 _ rfl (Nat.zero_le _) (by first|assumption|(simp(disch:=first|omega|(apply id;simp only[push_cast];try omega))only[push_cast,simprocAttr,h1,h2,h3];try omega)) rfl (by first|assumption|(simp(disch:=first|omega|(apply id;simp only[push_cast];try omega))only[push_cast,simprocAttr];try omega)) (fun j hj=>by omega))
  intro m s1 hI
  cases hI with|mk i iv h hiv hi c2 hl1 hl2 ha=>
  subst hiv
  rw[sd_ir39_s0]
  by_cases hil:(i:Int)<l'.length
  ·obtain ⟨x,hx⟩:=qU (l:=l) (i:=i) (by omega)
   obtain ⟨y,hy⟩:=qU (l:=l') (i:=i) (by omega)
   have hp:=kX hx
   have hp':=kX hy
   have hle:i*4+4≤l'.length*4:=by omega
   have hle2:i*4+4≤l.length*4:=by omega
   simp(disch:=first|omega|(apply id;simp only[push_cast];try omega))only[push_cast,simprocAttr,hil,Int.toNat_natCast,hp,hp',hle,hle2,hl1,c2,h4']
   refine jC.dataI (ih x (List.mem_of_getElem? hx) y (List.mem_of_getElem? hy)) (by and_intros<;>first|rfl|(simp(disch:=first|omega|(apply id;simp only[push_cast];try omega))only[push_cast])) ?_
   cases hr:uT x y with
   | true=>
    simp(disch:=first|omega|(apply id;simp only[push_cast];try omega))only[push_cast,simprocAttr]
    exact ⟨_,by omega,I39.mk (i+1) _ _ (by first|rfl|omega) (by omega) (by first|assumption|(simp(disch:=first|omega|(apply id;simp only[push_cast];try omega))only[push_cast,simprocAttr,c2];try omega)) (by first|assumption|(simp(disch:=first|omega|(apply id;simp only[push_cast];try omega))only[push_cast,simprocAttr,hl1];try omega)) (by first|assumption|(simp(disch:=first|omega|(apply id;simp only[push_cast];try omega))only[push_cast,simprocAttr];try omega)) fun j hj u v hu hv=>by
     by_cases e:j=i
     ·subst e;rw[hx] at hu;rw[hy] at hv;cases hu;cases hv;exact hr
     ·exact ha j (by omega) u v hu hv⟩
   | false=>
    obtain rfl:b=false:=by
     rw[hb']
     cases hc:kJ l l' with
     | false=>rfl
     | true=>rw[sameEs_all hc i x y hx hy] at hr;cases hr
    simp(disch:=first|omega|(apply id;simp only[push_cast];try omega))only[push_cast,simprocAttr]
    exact .id rfl
  ·obtain rfl : b = true := by
    rw[hb']
    exact sameEs_of fun j u v hu hv=>ha j (by have:=(List.getElem?_eq_some_iff.1 hu).1;omega) u v hu hv
   simp(disch:=first|omega|(apply id;simp only[push_cast];try omega))only[push_cast,simprocAttr,hil,c2,hl1,h4']
   rw[sd_ir39_s1]
   simp(disch:=first|omega|(apply id;simp only[push_cast];try omega))only[push_cast,simprocAttr]
   exact .id rfl
 termination_by x=>SizeOf.sizeOf x
inductive I19 (l:List Tm) (k a b:Int) (s:List UInt8) (e:Ex) (l':List Tm):Nat→S→Prop
 | mk (i : Nat) (iv : Int) (h : jA) {x0 x1 x2 x4 x5 x6 x7 x8 x9 xA xB xC xD xE xF xG xH xI xJ xK xL xM xN xO xP xQ xR xS xT xU xV xW xX xY xZ yA yB yC yD yE yF yG yH yI yJ yK yO yP yQ yR yS yT yU yV yW yX yY yZ zA : Value} (hiv : iv = (i : Int)) (hi : i ≤ l.length) (c2 : cells h 2 = some (tmC (.mk k a b s e l'), 34, false)) (hl1 : h.lo = 1) (hl2 : 3 ≤ h.next)
   (ha:∀ j,j<i→∀ x y,l[j]?=some x→l'[j]?=some y→sameT x y=true) :
  I19 l k a b s e l' (l.length-i) ⟨(F63 x0 x1 x2 (.pointer (some ⟨2,0,none⟩)) x4 x5 x6 x7 x8 x9 xA xB xC xD xE xF xG xH xI xJ xK xL xM xN xO xP xQ xR xS xT xU xV xW xX xY xZ yA yB yC yD yE yF yG yH yI yJ yK (Rw false etm l.length (qP l)) (.int .i64 l'.length) (.int .i64 iv) yO yP yQ yR yS yT yU yV yW yX yY yZ zA),[],h⟩
theorem samet_t:∀ t u:Tm,smT t=true→smT u=true→jE (pp G) H0 19 [tmV t,tmV u] (.bool (sameT t u))
 | .mk k a b s e l,.mk k' a' b' s' e' l',hs,hs'=>by
  simp only[smT,Bool.and_eq_true,decide_eq_true_eq] at hs hs'
  have ih:∀ x∈l,∀ y∈l',jE (pp G) H0 19 [tmV x,tmV y] (.bool (sameT x y)):=fun x hx y hy=>samet_t x y (uY hs.2 x hx) (uY hs'.2 y hy)
  have he:=samex_e G e e' hs.1.2 hs'.1.2
  have hlo:H0.lo≤H0.next:=Nat.le_refl _;refine jE.cut (jN.fir4 (q:=qq) (jO G) fir19 (by kernel_rfl) rfl rfl (F63_arr ..) (show NGG≤H0.lo by rw[jV];decide) ?_);rw[sd_ir19]
  rw[sameT]
  obtain ⟨c,hb⟩:∃ c,c=(decide (k=k')&&(decide (a=a')&&(decide (b=b')&&(decide (s=s')&&(uT e e'&&(decide (l.length=l'.length)&&sameTs l l')))))):=⟨_,rfl⟩
  rw[← hb]
  by_cases h1:k=k'∧a=a'∧b=b'
  rotate_left
  ·obtain rfl : c = false := by
    rw[hb]
    by_cases g1:k=k'
    ·by_cases g2:a=a'
     ·have g3:¬ b=b':=fun g3=>h1 ⟨g1,g2,g3⟩
      simp[g3]
     ·simp[g2]
    ·simp[g1]
   simp(disch:=first|omega|(apply id;simp only[push_cast];try omega))only[push_cast,simprocAttr,b_neqA,h1,decide_false,Bool.not_false]
   exact .id rfl
  obtain ⟨rfl,rfl,rfl⟩:=h1
  have h1:(k=k∧a=a∧b=b):=⟨rfl,rfl,rfl⟩
  by_cases h3:s=s'
  rotate_left
  ·obtain rfl:c=false:=by rw[hb];simp[h3]
   have h3':(s == s')=false:=by simpa using h3
   simp(disch:=first|omega|(apply id;simp only[push_cast];try omega))only[push_cast,simprocAttr,b_neqA,h1,decide_true,Bool.not_true,h3']
   exact .id rfl
  by_cases h4:l.length=l'.length
  rotate_left
  ·obtain rfl:c=false:=by rw[hb];simp[h4]
   have h4':¬ (l.length:Int)=l'.length:=by omega
   simp(disch:=first|omega|(apply id;simp only[push_cast];try omega))only[push_cast,simprocAttr,b_neqA,h1,decide_true,Bool.not_true,h3,beq_self_eq_true,h4']
   exact .id rfl
  have h4':(l.length:Int)=l'.length:=by omega
  simp(disch:=first|omega|(apply id;simp only[push_cast];try omega))only[push_cast,simprocAttr,b_neqA,h1,decide_true,Bool.not_true,h3,beq_self_eq_true,h4']
  refine jC.dataI (he) (by and_intros<;>first|rfl|(simp(disch:=first|omega|(apply id;simp only[push_cast];try omega))only[push_cast])) ?_
  by_cases h6:uT e e'=true
  rotate_left
  ·have h6:uT e e'=false:=by simpa using h6
   obtain rfl:c=false:=by rw[hb];simp[h6]
   simp(disch:=first|omega|(apply id;simp only[push_cast];try omega))only[push_cast,simprocAttr,h6]
   exact .id rfl
  have hb':c=sameTs l l':=by rw[hb];simp[h3,h4,h6]
  clear hb
  simp(disch:=first|omega|(apply id;simp only[push_cast];try omega))only[push_cast,simprocAttr,h6,h4']
  refine WD.loop4 (q:=qq) (jO G) (by kernel_rfl) (I19 l k a b s' e' l') ?_ _ _ (I19.mk 0 0 _ rfl (Nat.zero_le _) (by first|assumption|(simp(disch:=first|omega|(apply id;simp only[push_cast];try omega))only[push_cast,simprocAttr,h3];try omega)) rfl (by first|assumption|(simp(disch:=first|omega|(apply id;simp only[push_cast];try omega))only[push_cast,simprocAttr];try omega)) (fun j hj=>by omega))
  intro m s1 hI
  cases hI with|mk i iv h hiv hi c2 hl1 hl2 ha=>
  subst hiv
  rw[sd_ir19_s0]
  by_cases hil:(i:Int)<l'.length
  ·obtain ⟨x,hx⟩:=qU (l:=l) (i:=i) (by omega)
   obtain ⟨y,hy⟩:=qU (l:=l') (i:=i) (by omega)
   have hp:=uK hx
   have hp':=uK hy
   have hle:i*9+9≤l'.length*9:=by omega
   have hle2:i*9+9≤l.length*9:=by omega
   simp(disch:=first|omega|(apply id;simp only[push_cast];try omega))only[push_cast,simprocAttr,hil,Int.toNat_natCast,hp,hp',hle,hle2,hl1,c2,h4']
   refine jC.dataI (ih x (List.mem_of_getElem? hx) y (List.mem_of_getElem? hy)) (by and_intros<;>first|rfl|(simp(disch:=first|omega|(apply id;simp only[push_cast];try omega))only[push_cast])) ?_
   cases hr:sameT x y with
   | true=>
    simp(disch:=first|omega|(apply id;simp only[push_cast];try omega))only[push_cast,simprocAttr]
    exact ⟨_,by omega,I19.mk (i+1) _ _ (by first|rfl|omega) (by omega) (by first|assumption|(simp(disch:=first|omega|(apply id;simp only[push_cast];try omega))only[push_cast,simprocAttr,c2];try omega)) (by first|assumption|(simp(disch:=first|omega|(apply id;simp only[push_cast];try omega))only[push_cast,simprocAttr,hl1];try omega)) (by first|assumption|(simp(disch:=first|omega|(apply id;simp only[push_cast];try omega))only[push_cast,simprocAttr];try omega)) fun j hj u v hu hv=>by
     by_cases e:j=i
     ·subst e;rw[hx] at hu;rw[hy] at hv;cases hu;cases hv;exact hr
     ·exact ha j (by omega) u v hu hv⟩
   | false=>
    obtain rfl:c=false:=by
     rw[hb']
     cases hc:sameTs l l' with
     | false=>rfl
     | true=>rw[sameTs_all hc i x y hx hy] at hr;cases hr
    simp(disch:=first|omega|(apply id;simp only[push_cast];try omega))only[push_cast,simprocAttr]
    exact .id rfl
  ·obtain rfl : c = true := by
    rw[hb']
    exact sameTs_of fun j u v hu hv=>ha j (by have:=(List.getElem?_eq_some_iff.1 hu).1;omega) u v hu hv
   simp(disch:=first|omega|(apply id;simp only[push_cast];try omega))only[push_cast,simprocAttr,hil,c2,hl1,h4']
   rw[sd_ir19_s1]
   simp(disch:=first|omega|(apply id;simp only[push_cast];try omega))only[push_cast,simprocAttr]
   exact .id rfl
 termination_by x=>SizeOf.sizeOf x
def qW:Tm→Tm
 | .mk k a b s e [x,y]=>if k=12 then (if (qW x).k=0 then qW y else .mk k a b s e [qW x,y]) else if k=11 then (if (qW x).k=0∧(qW y).k=0 then zT else .mk k a b s e [qW x,qW y]) else .mk k a b s e [x,y]
 | .mk k a b s e [x]=>if k=7 then (if (qW x).k=0 then zT else .mk k a b s e [qW x]) else .mk k a b s e [x]
 | .mk k a b s e l=>.mk k a b s e l
theorem with_f (k a b:Int) (s:List UInt8) (e:Ex) (l m:List Tm) (hse:smE e=true):jE (pp G) H0 40 [tmV (.mk k a b s e l),Rw true etm m.length (qP m)] (tmV (.mk k a b s e m)):=by
 have hlo:H0.lo≤H0.next:=Nat.le_refl _;refine jE.cut (jN.fir4 (q:=qq) (jO G) fir40 (by kernel_rfl) rfl rfl (F12_arr ..) (show NGG≤H0.lo by rw[jV];decide) ?_);rw[sd_ir40]
 simp(disch:=first|omega|(apply id;simp only[push_cast];try omega))only[push_cast,simprocAttr]
 refine jC.dataI (ownE_f G e hse) (by and_intros<;>first|rfl|(simp(disch:=first|omega|(apply id;simp only[push_cast];try omega))only[push_cast])) ?_
 simp(disch:=first|omega|(apply id;simp only[push_cast];try omega))only[push_cast,simprocAttr,exC_of]
 unfold tmV
 rw[tmC_mk]
 exact .agg (.cons (.id rfl) (.cons (.id rfl) (.cons (.id rfl) (.cons (.id rfl) (.cons (.id rfl) (.cons (.id rfl) (.cons (.id rfl) (.cons (.id (exR_sc _ (by omega) ..)) (.cons (.row (.ids (tmCs_sc _ (by omega) m))) .nil)))))))))
theorem rowT2 (t u:Tm) (σ:jA):bsD (qq.m 32) (slT prog 32) 2 [(0,tmV t),(1,tmV u)] σ=some (Rw true 34 2 (qP [t,u]),σ):=by
 cases t;cases u;kernel_rfl
theorem zt_fz (P:Program) (N:Nat) (σ:jA) (h1:szT P eE=some 4:=by rfl) (h2:szT P etm=some 9:=by rfl):FzV P N σ (.agg ⟨ztm⟩) (tmV zT):=.agg (.cons (.id rfl) (.cons (.id rfl) (.cons (.id rfl) (.cons (.id rfl) (.cons (.id rfl) (.cons (.id rfl) (.cons (.id rfl) (.cons (.nil (size:=4) h1 (by decide)) (.cons (.nil (size:=9) h2 (by decide)) .nil)))))))))
theorem tmC_g0 (x:Tm):(tmC x)[0]?=some (.int .i64 x.k):=by cases x;rfl
theorem norm_12 (a b:Int) (s:List UInt8) (e:Ex) (x y:Tm) (hse:smE e=true) (hx:jE (pp G) H0 21 [tmV x] (tmV (qW x))) (hy:jE (pp G) H0 21 [tmV y] (tmV (qW y))) (hoy:jE (pp G) H0 41 [tmV y] (tmV y)):jE (pp G) H0 21 [tmV (.mk 12 a b s e [x,y])] (tmV (qW (.mk 12 a b s e [x,y]))):=by
 have hlo:H0.lo≤H0.next:=Nat.le_refl _;refine jE.cut (jN.fir4 (q:=qq) (jO G) fir21 (by kernel_rfl) rfl rfl (F98_arr ..) (show NGG≤H0.lo by rw[jV];decide) ?_);rw[sd_ir21]
 rw[qW,if_pos rfl]
 simp(disch:=first|omega|(apply id;simp only[push_cast];try omega))only[push_cast,simprocAttr]
 refine jC.dataI (hx) (by and_intros<;>first|rfl|(simp(disch:=first|omega|(apply id;simp only[push_cast];try omega))only[push_cast])) ?_
 generalize qW x=x'
 by_cases h0:x'.k=0
 ·rw[if_pos h0]
  simp(disch:=first|omega|(apply id;simp only[push_cast];try omega))only[push_cast,simprocAttr,tmC_g0,h0]
  refine jC.dataI (hy) (by and_intros<;>first|rfl|(simp(disch:=first|omega|(apply id;simp only[push_cast];try omega))only[push_cast])) ?_
  simp(disch:=first|omega|(apply id;simp only[push_cast];try omega))only[push_cast,simprocAttr]
  exact .id (tmV_sc 1 (by decide) _)
 ·rw[if_neg (by exact h0)]
  simp(disch:=first|omega|(apply id;simp only[push_cast];try omega))only[push_cast,simprocAttr,tmC_g0,h0]
  refine jC.dataI (hoy) (by and_intros<;>first|rfl|(simp(disch:=first|omega|(apply id;simp only[push_cast];try omega))only[push_cast])) ?_
  simp(disch:=first|omega|(apply id;simp only[push_cast];try omega))only[push_cast,simprocAttr,↓rowT2]
  refine jC.dataI (with_f G 12 a b s e [x,y] [x',y] hse) (by and_intros<;>first|rfl|(simp(disch:=first|omega|(apply id;simp only[push_cast];try omega))only[push_cast])) ?_
  simp(disch:=first|omega|(apply id;simp only[push_cast];try omega))only[push_cast,simprocAttr]
  exact .id (tmV_sc 1 (by decide) (.mk 12 a b s e [x',y]))
theorem norm_11 (a b:Int) (s:List UInt8) (e:Ex) (x y:Tm) (hse:smE e=true) (hx:jE (pp G) H0 21 [tmV x] (tmV (qW x))) (hy:jE (pp G) H0 21 [tmV y] (tmV (qW y))):jE (pp G) H0 21 [tmV (.mk 11 a b s e [x,y])] (tmV (qW (.mk 11 a b s e [x,y]))):=by
 have hlo:H0.lo≤H0.next:=Nat.le_refl _;refine jE.cut (jN.fir4 (q:=qq) (jO G) fir21 (by kernel_rfl) rfl rfl (F98_arr ..) (show NGG≤H0.lo by rw[jV];decide) ?_);rw[sd_ir21]
 rw[qW,if_neg (by omega),if_pos rfl]
 generalize qW x=x' at hx ⊢
 generalize qW y=y' at hy ⊢
 by_cases h0:x'.k=0
 ·by_cases h0':y'.k=0
  ·rw[if_pos ⟨h0,h0'⟩]
   simp(disch:=first|omega|(apply id;simp only[push_cast];try omega))only[push_cast,simprocAttr]
   all_goals repeat' apply And.intro
   all_goals
    refine jC.dataI (hx) (by and_intros<;>first|rfl|(simp(disch:=first|omega|(apply id;simp only[push_cast];try omega))only[push_cast])) ?_
    simp(disch:=first|omega|(apply id;simp only[push_cast];try omega))only[push_cast,simprocAttr]
   all_goals repeat' apply And.intro
   all_goals
    refine jC.dataI (hy) (by and_intros<;>first|rfl|(simp(disch:=first|omega|(apply id;simp only[push_cast];try omega))only[push_cast])) ?_
    simp(disch:=first|omega|(apply id;simp only[push_cast];try omega))only[push_cast,simprocAttr,tmC_g0,h0,h0',↓rowT2]
   all_goals repeat' apply And.intro
   all_goals exact zt_fz prog _ _
  ·rw[if_neg (fun h=>h0' h.2)]
   simp(disch:=first|omega|(apply id;simp only[push_cast];try omega))only[push_cast,simprocAttr]
   all_goals repeat' apply And.intro
   all_goals
    refine jC.dataI (hx) (by and_intros<;>first|rfl|(simp(disch:=first|omega|(apply id;simp only[push_cast];try omega))only[push_cast])) ?_
    simp(disch:=first|omega|(apply id;simp only[push_cast];try omega))only[push_cast,simprocAttr]
   all_goals repeat' apply And.intro
   all_goals
    refine jC.dataI (hy) (by and_intros<;>first|rfl|(simp(disch:=first|omega|(apply id;simp only[push_cast];try omega))only[push_cast])) ?_
    simp(disch:=first|omega|(apply id;simp only[push_cast];try omega))only[push_cast,simprocAttr,tmC_g0,h0,h0',↓rowT2]
   all_goals repeat' apply And.intro
   all_goals
    refine jC.dataI (with_f G 11 a b s e [x,y] [x',y'] hse) (by and_intros<;>first|rfl|(simp(disch:=first|omega|(apply id;simp only[push_cast];try omega))only[push_cast])) ?_
    simp(disch:=first|omega|(apply id;simp only[push_cast];try omega))only[push_cast,simprocAttr]
    exact .id (tmV_sc 1 (by decide) (.mk 11 a b s e [x',y']))
 ·rw[if_neg (fun h=>h0 h.1)]
  simp(disch:=first|omega|(apply id;simp only[push_cast];try omega))only[push_cast,simprocAttr]
  all_goals repeat' apply And.intro
  all_goals
   refine jC.dataI (hx) (by and_intros<;>first|rfl|(simp(disch:=first|omega|(apply id;simp only[push_cast];try omega))only[push_cast])) ?_
   simp(disch:=first|omega|(apply id;simp only[push_cast];try omega))only[push_cast,simprocAttr]
  all_goals repeat' apply And.intro
  all_goals
   refine jC.dataI (hy) (by and_intros<;>first|rfl|(simp(disch:=first|omega|(apply id;simp only[push_cast];try omega))only[push_cast])) ?_
   simp(disch:=first|omega|(apply id;simp only[push_cast];try omega))only[push_cast,simprocAttr,tmC_g0,h0,↓rowT2]
  all_goals repeat' apply And.intro
  all_goals
   refine jC.dataI (with_f G 11 a b s e [x,y] [x',y'] hse) (by and_intros<;>first|rfl|(simp(disch:=first|omega|(apply id;simp only[push_cast];try omega))only[push_cast])) ?_
   simp(disch:=first|omega|(apply id;simp only[push_cast];try omega))only[push_cast,simprocAttr]
   exact .id (tmV_sc 1 (by decide) (.mk 11 a b s e [x',y']))
theorem norm_7 (a b:Int) (s:List UInt8) (e:Ex) (x:Tm) (hse:smE e=true) (hx:jE (pp G) H0 21 [tmV x] (tmV (qW x))):jE (pp G) H0 21 [tmV (.mk 7 a b s e [x])] (tmV (qW (.mk 7 a b s e [x]))):=by
 have hlo:H0.lo≤H0.next:=Nat.le_refl _;refine jE.cut (jN.fir4 (q:=qq) (jO G) fir21 (by kernel_rfl) rfl rfl (F98_arr ..) (show NGG≤H0.lo by rw[jV];decide) ?_);rw[sd_ir21]
 rw[qW,if_pos rfl]
 generalize qW x=x' at hx ⊢
 simp(disch:=first|omega|(apply id;simp only[push_cast];try omega))only[push_cast,simprocAttr]
 refine jC.dataI (hx) (by and_intros<;>first|rfl|(simp(disch:=first|omega|(apply id;simp only[push_cast];try omega))only[push_cast])) ?_
 by_cases h0:x'.k=0
 ·rw[if_pos h0]
  simp(disch:=first|omega|(apply id;simp only[push_cast];try omega))only[push_cast,simprocAttr,tmC_g0,h0]
  exact zt_fz prog _ _
 ·rw[if_neg h0]
  simp(disch:=first|omega|(apply id;simp only[push_cast];try omega))only[push_cast,simprocAttr,tmC_g0,h0,↓rowT1]
  refine jC.dataI (with_f G 7 a b s e [x] [x'] hse) (by and_intros<;>first|rfl|(simp(disch:=first|omega|(apply id;simp only[push_cast];try omega))only[push_cast])) ?_
  simp(disch:=first|omega|(apply id;simp only[push_cast];try omega))only[push_cast,simprocAttr]
  exact .id (tmV_sc 1 (by decide) (.mk 7 a b s e [x']))
theorem norm_o (k a b:Int) (s:List UInt8) (e:Ex) (l:List Tm) (hll:l.length<100000000000) (hown:jE (pp G) H0 41 [tmV (.mk k a b s e l)] (tmV (.mk k a b s e l))) (h12:¬(k=12∧l.length=2)) (h11:¬(k=11∧l.length=2)) (h7:¬(k=7∧l.length=1)) :
  jE (pp G) H0 21 [tmV (.mk k a b s e l)] (tmV (qW (.mk k a b s e l))):=by
 have hn:qW (.mk k a b s e l)=.mk k a b s e l:=by
  unfold qW
  split
  ·rename_i e1;cases e1;rw[if_neg (fun h=>h12 ⟨h,rfl⟩),if_neg (fun h=>h11 ⟨h,rfl⟩)]
  ·rename_i e1;cases e1;rw[if_neg (fun h=>h7 ⟨h,rfl⟩)]
  ·rename_i e1;cases e1;rfl
 rw[hn]
 have hlo:H0.lo≤H0.next:=Nat.le_refl _;refine jE.cut (jN.fir4 (q:=qq) (jO G) fir21 (by kernel_rfl) rfl rfl (F98_arr ..) (show NGG≤H0.lo by rw[jV];decide) ?_);rw[sd_ir21]
 by_cases g12:k=12
 ·have g2:¬ (l.length:Int)=2:=fun h=>h12 ⟨g12,by omega⟩
  simp(disch:=first|omega|(apply id;simp only[push_cast];try omega))only[push_cast,simprocAttr,g12,g2]
  subst g12
  refine jC.dataI (hown) (by and_intros<;>first|rfl|(simp(disch:=first|omega|(apply id;simp only[push_cast];try omega))only[push_cast])) ?_
  simp(disch:=first|omega|(apply id;simp only[push_cast];try omega))only[push_cast,simprocAttr]
  exact .id (tmV_sc 1 (by decide) (.mk 12 a b s e l))
 by_cases g11:k=11
 ·have g2:¬ (l.length:Int)=2:=fun h=>h11 ⟨g11,by omega⟩
  simp(disch:=first|omega|(apply id;simp only[push_cast];try omega))only[push_cast,simprocAttr,g11,g2]
  subst g11
  refine jC.dataI (hown) (by and_intros<;>first|rfl|(simp(disch:=first|omega|(apply id;simp only[push_cast];try omega))only[push_cast])) ?_
  simp(disch:=first|omega|(apply id;simp only[push_cast];try omega))only[push_cast,simprocAttr]
  exact .id (tmV_sc 1 (by decide) (.mk 11 a b s e l))
 by_cases g7:k=7
 ·have g2:¬ (l.length:Int)=1:=fun h=>h7 ⟨g7,by omega⟩
  simp(disch:=first|omega|(apply id;simp only[push_cast];try omega))only[push_cast,simprocAttr,g7,g2]
  subst g7
  refine jC.dataI (hown) (by and_intros<;>first|rfl|(simp(disch:=first|omega|(apply id;simp only[push_cast];try omega))only[push_cast])) ?_
  simp(disch:=first|omega|(apply id;simp only[push_cast];try omega))only[push_cast,simprocAttr]
  exact .id (tmV_sc 1 (by decide) (.mk 7 a b s e l))
 simp(disch:=first|omega|(apply id;simp only[push_cast];try omega))only[push_cast,simprocAttr,g12,g11,g7]
 refine jC.dataI (hown) (by and_intros<;>first|rfl|(simp(disch:=first|omega|(apply id;simp only[push_cast];try omega))only[push_cast])) ?_
 simp(disch:=first|omega|(apply id;simp only[push_cast];try omega))only[push_cast,simprocAttr]
 exact .id (tmV_sc 1 (by decide) (.mk k a b s e l))
theorem norm_f:∀ (x:Tm),smT x=true→jE (pp G) H0 21 [tmV x] (tmV (qW x))
 | .mk k a b s e l,hs=>by
  have hs0:=hs
  simp only[smT,Bool.and_eq_true,decide_eq_true_eq] at hs
  obtain ⟨⟨hll,hse⟩,hsl⟩:=hs
  have ih:∀ x∈l,jE (pp G) H0 21 [tmV x] (tmV (qW x)):=fun x hx=>norm_f x (uY hsl x hx)
  by_cases h12:k=12∧l.length=2
  ·obtain ⟨rfl,h2⟩:=h12
   obtain ⟨x,y,rfl⟩:∃ x y,l=[x,y]:=by
    match l,h2 with
    | [x,y],_=>exact ⟨x,y,rfl⟩
   exact norm_12 G a b s e x y hse (ih x (by simp)) (ih y (by simp)) (ownT_f G y (uY hsl y (by simp)))
  by_cases h11:k=11∧l.length=2
  ·obtain ⟨rfl,h2⟩:=h11
   obtain ⟨x,y,rfl⟩:∃ x y,l=[x,y]:=by
    match l,h2 with
    | [x,y],_=>exact ⟨x,y,rfl⟩
   exact norm_11 G a b s e x y hse (ih x (by simp)) (ih y (by simp))
  by_cases h7:k=7∧l.length=1
  ·obtain ⟨rfl,h2⟩:=h7
   obtain ⟨x,rfl⟩:∃ x,l=[x]:=by
    match l,h2 with
    | [x],_=>exact ⟨x,rfl⟩
   exact norm_7 G a b s e x hse (ih x (by simp))
  exact norm_o G k a b s e l hll (ownT_f G _ hs0) h12 h11 h7
 termination_by x=>SizeOf.sizeOf x
def small (c:UInt8):Bool:=decide (97≤c.toNat∧c.toNat≤122)
def digit (c:UInt8):Bool:=decide (48≤c.toNat∧c.toNat≤57)
def qJ (c:UInt8):Bool:=small c || digit c || decide (c.toNat=95)
def uN (p:UInt8→Bool) (l:List UInt8):Nat:=(l.takeWhile p).length
theorem front_le (p:UInt8→Bool) (l:List UInt8):uN p l≤l.length:=by
 unfold uN;exact List.Sublist.length_le (List.takeWhile_sublist p)
theorem front_cons (p:UInt8→Bool) (c:UInt8) (l:List UInt8):uN p (c :: l)=if p c then uN p l+1 else 0:=by
 unfold uN;rw[List.takeWhile_cons];split<;>simp
theorem front_all (p:UInt8→Bool):∀ (l:List UInt8) (i:Nat),i<uN p l→p (l.getD i 0)=true
 | [],i,h=>by simp[uN] at h
 | c :: l,i,h=>by
  rw[front_cons] at h
  split at h
  ·cases i with
   | zero=>simpa
   | succ i=>simpa using front_all p l i (by omega)
  ·omega
theorem frw_end (p:UInt8→Bool):∀ (l:List UInt8),uN p l<l.length→p (l.getD (uN p l) 0)=false
 | [],h=>by simp[uN] at h
 | c :: l,h=>by
  rw[front_cons] at h ⊢
  split at h
  ·rename_i hc
   rw[if_pos hc]
   simpa using frw_end p l (by simpa using h)
  ·rename_i hc
   rw[if_neg hc]
   simpa using hc
def gA (r:Int):Bool:=decide (97≤r∧r≤122)
def qdigit (r:Int):Bool:=decide (48≤r∧r≤57)
def qwordy (r:Int):Bool:=gA r || qdigit r || decide (r=95)
theorem small_f (r:Int):jE (pp G) H0 73 [.int .i32 r] (.bool (gA r)):=by
 have hlo:H0.lo≤H0.next:=Nat.le_refl _;refine jE.cut (jN.fir4 (q:=qq) (jO G) fir73 (by kernel_rfl) rfl rfl (F9_arr ..) (show NGG≤H0.lo by rw[jV];decide) ?_);rw[sd_ir73]
 unfold gA
 by_cases h1:97≤r
 ·simp(disch:=first|omega|(apply id;simp only[push_cast];try omega))only[push_cast,simprocAttr,h1,true_and]
  exact .id rfl
 ·simp(disch:=first|omega|(apply id;simp only[push_cast];try omega))only[push_cast,simprocAttr,h1,false_and]
  exact .id rfl
theorem digit_f (r:Int):jE (pp G) H0 82 [.int .i32 r] (.bool (qdigit r)):=by
 have hlo:H0.lo≤H0.next:=Nat.le_refl _;refine jE.cut (jN.fir4 (q:=qq) (jO G) fir82 (by kernel_rfl) rfl rfl (F9_arr ..) (show NGG≤H0.lo by rw[jV];decide) ?_);rw[sd_ir82]
 unfold qdigit
 by_cases h1:48≤r
 ·simp(disch:=first|omega|(apply id;simp only[push_cast];try omega))only[push_cast,simprocAttr,h1,true_and]
  exact .id rfl
 ·simp(disch:=first|omega|(apply id;simp only[push_cast];try omega))only[push_cast,simprocAttr,h1,false_and]
  exact .id rfl
theorem wordy_f (r:Int):jE (pp G) H0 75 [.int .i32 r] (.bool (qwordy r)):=by
 have hlo:H0.lo≤H0.next:=Nat.le_refl _;refine jE.cut (jN.fir4 (q:=qq) (jO G) fir75 (by kernel_rfl) rfl rfl (F13_arr ..) (show NGG≤H0.lo by rw[jV];decide) ?_);rw[sd_ir75]
 unfold qwordy
 simp(disch:=first|omega|(apply id;simp only[push_cast];try omega))only[push_cast,simprocAttr]
 refine jC.dataI (small_f G r) (by and_intros<;>first|rfl|(simp(disch:=first|omega|(apply id;simp only[push_cast];try omega))only[push_cast])) ?_
 cases h1:gA r with
 | true=>
  simp(disch:=first|omega|(apply id;simp only[push_cast];try omega))only[push_cast,simprocAttr,Bool.true_or]
  exact .id rfl
 | false=>
  simp(disch:=first|omega|(apply id;simp only[push_cast];try omega))only[push_cast,simprocAttr,Bool.false_or]
  refine jC.dataI (digit_f G r) (by and_intros<;>first|rfl|(simp(disch:=first|omega|(apply id;simp only[push_cast];try omega))only[push_cast])) ?_
  cases h2:qdigit r with
  | true=>
   simp(disch:=first|omega|(apply id;simp only[push_cast];try omega))only[push_cast,simprocAttr,Bool.true_or]
   exact .id rfl
  | false=>
   simp(disch:=first|omega|(apply id;simp only[push_cast];try omega))only[push_cast,simprocAttr,Bool.false_or]
   exact .id rfl
theorem dec_lo {L:List UInt8} {pos:Nat} (hp:pos<L.length) (ha:(L.getD pos 0).toNat<128):Utf8.decode (Tx L) pos=((L.getD pos 0).toNat,1):=by
 have e:(Tx L)[pos]'hp=L.getD pos 0:=by
  rw[List.getD_eq_getElem?_getD,List.getElem?_eq_getElem hp];rfl
 have:=decode_ascii (Tx L) pos hp (by rw[e];exact ha)
 rw[e] at this
 exact this
theorem dec_hi {L:List UInt8} {pos:Nat} (hp:pos<L.length) (ha:128≤(L.getD pos 0).toNat):128≤(Utf8.decode (Tx L) pos).1∧1≤(Utf8.decode (Tx L) pos).2:=by
 have e:(Tx L)[pos]'hp=L.getD pos 0:=by
  rw[List.getD_eq_getElem?_getD,List.getElem?_eq_getElem hp];rfl
 exact decode_high (Tx L) pos hp (by rw[e];exact ha)
theorem qw_eq (c:UInt8):qwordy (c.toNat:Int)=qJ c:=by
 have a:gA (c.toNat:Int)=small c:=by unfold gA small;congr 1;simp only[eq_iff_iff];omega
 have b:qdigit (c.toNat:Int)=digit c:=by unfold qdigit digit;congr 1;simp only[eq_iff_iff];omega
 unfold qwordy qJ;rw[a,b];congr 2;simp only[eq_iff_iff];omega
theorem qw_hi (r:Int) (h:128≤r):qwordy r=false:=by
 unfold qwordy gA qdigit;simp;omega
inductive I74 (L:List UInt8):Nat→S→Prop
 | mk (pos:Nat) (h:jA) {x2 x3 x4 x5 x6 x7 x9 xA xB xC xD xE xF xG xH xI xJ:Value} (hg:h.get 1=some (itO (Tx L) pos)) (hl1:h.lo=1) (hl2:2≤h.next) (hp:pos≤uN qJ L) :
  I74 L (L.length-pos) ⟨(F20 (.string (Tx L)) (.func (.func 75) #[] #[]) x2 x3 x4 x5 x6 x7 (.pointer (some ⟨1,0,none⟩)) x9 xA xB xC xD xE xF xG xH xI xJ),[],h⟩
theorem front_f (L:List UInt8):jE (pp G) H0 74 [.string (Tx L),.func (.func 75) #[] #[]] (.int .i64 (uN qJ L)):=by
 have hlo:H0.lo≤H0.next:=Nat.le_refl _;refine jE.cut (jN.fir4 (q:=qq) (jO G) fir74 (by kernel_rfl) rfl rfl (F20_arr ..) (show NGG≤H0.lo by rw[jV];decide) ?_);rw[sd_ir74]
 simp(disch:=first|omega|(apply id;simp only[push_cast];try omega))only[push_cast,simprocAttr]
 refine WD.loop4 (q:=qq) (jO G) (by kernel_rfl) (I74 L) ?_ _ _ (I74.mk 0 _ (by rw[get_add_s _ _ H0_next.symm]) rfl (by simp(disch:=first|omega|(apply id;simp only[push_cast];try omega))only[push_cast,simprocAttr];first|done|omega) (Nat.zero_le _))
 intro m s1 hI
 cases hI with|mk pos h hg hl1 hl2 hp=>
 rw[sd_ir74_s0]
 have hfl:=front_le qJ L
 by_cases hpl:pos<L.length
 ·simp(disch:=first|omega|(apply id;simp only[push_cast];try omega))only[push_cast,simprocAttr,nxE_t _ pos L hg (by omega) hpl]
  refine jC.dataI (wordy_f G _) (by and_intros<;>first|rfl|(simp(disch:=first|omega|(apply id;simp only[push_cast];try omega))only[push_cast])) ?_
  by_cases ha:(L.getD pos 0).toNat<128
  ·rw[dec_lo hpl ha]
   have e:=qw_eq (L.getD pos 0)
   dsimp only
   cases hc:qJ (L.getD pos 0) with
   | true=>
    rw[hc] at e
    simp(disch:=first|omega|(apply id;simp only[push_cast];try omega))only[push_cast,simprocAttr,e,Bool.not_true]
    have hlt:pos<uN qJ L:=by
     rcases Nat.lt_or_ge pos (uN qJ L) with h2|h2
     ·exact h2
     ·have h3:uN qJ L=pos:=by omega
      have:=frw_end qJ L (by omega)
      rw[h3,hc] at this;cases this
    exact ⟨_,by omega,I74.mk (pos+1) _ (get_put_s _ _) hl1 hl2 (by omega)⟩
   | false=>
    rw[hc] at e
    simp(disch:=first|omega|(apply id;simp only[push_cast];try omega))only[push_cast,simprocAttr,e,Bool.not_false]
    have h3:uN qJ L=pos:=by
     rcases Nat.lt_or_ge pos (uN qJ L) with h2|h2
     ·have:=front_all qJ L pos h2
      rw[hc] at this;cases this
     ·omega
    rw[h3]
    exact .id rfl
  ·have hh:=dec_hi hpl (by omega)
   have e:=qw_hi ((Utf8.decode (Tx L) pos).1:Int) (by omega)
   simp(disch:=first|omega|(apply id;simp only[push_cast];try omega))only[push_cast,simprocAttr,e,Bool.not_false]
   have h3:uN qJ L=pos:=by
    rcases Nat.lt_or_ge pos (uN qJ L) with h2|h2
    ·have h4:=front_all qJ L pos h2
     rw[← qw_eq,qw_hi _ (by omega)] at h4;cases h4
    ·omega
   rw[h3]
   exact .id rfl
 ·simp(disch:=first|omega|(apply id;simp only[push_cast];try omega))only[push_cast,simprocAttr,nxE_f _ pos L hg (by omega) (by omega)]
  rw[sd_ir74_s1]
  simp(disch:=first|omega|(apply id;simp only[push_cast];try omega))only[push_cast,simprocAttr]
  have h3:uN qJ L=L.length:=by omega
  rw[h3]
  exact .id rfl
def keysF:List (List UInt8):=[[118,97,114],[115,116,97,99,107],[112,114,111,99],[115,107,105,112],[100,111],[112,117,115,104],[114,101,118,101,114,115,101],[97,99,99,101,112,116],[109,101,114,103,101],[98,108,111,99,107],[101,120,105,116],[105,102],[101,108,115,101],[99,104,111,111,115,101],[112,97,114],[99,97,108,108]]
def keyF (s:List UInt8):Bool:=decide (s∈keysF)
theorem lexkey_f (s:List UInt8):jE (pp G) H0 72 [.string (Tx s)] (.bool (keyF s)):=by
 have hlo:H0.lo≤H0.next:=Nat.le_refl _;refine jE.cut (jN.fir4 (q:=qq) (jO G) fir72 (by kernel_rfl) rfl rfl (F21_arr ..) (show NGG≤H0.lo by rw[jV];decide) ?_);rw[sd_ir72]
 by_cases h0:s=[118,97,114]
 ·have t0:(s == [118,97,114])=true:=by simpa using h0
  rw[show keyF s=true from by rw[h0];decide]
  simp(disch:=first|omega|(apply id;simp only[push_cast];try omega))only[push_cast,simprocAttr,t0]
  exact .id rfl
 have g0:(s == [118,97,114])=false:=by simpa using h0
 by_cases h1:s=[115,116,97,99,107]
 ·have t1:(s == [115,116,97,99,107])=true:=by simpa using h1
  rw[show keyF s=true from by rw[h1];decide]
  simp(disch:=first|omega|(apply id;simp only[push_cast];try omega))only[push_cast,simprocAttr,g0,t1]
  exact .id rfl
 have g1:(s == [115,116,97,99,107])=false:=by simpa using h1
 by_cases h2:s=[112,114,111,99]
 ·have t2:(s == [112,114,111,99])=true:=by simpa using h2
  rw[show keyF s=true from by rw[h2];decide]
  simp(disch:=first|omega|(apply id;simp only[push_cast];try omega))only[push_cast,simprocAttr,g0,g1,t2]
  exact .id rfl
 have g2:(s == [112,114,111,99])=false:=by simpa using h2
 by_cases h3:s=[115,107,105,112]
 ·have t3:(s == [115,107,105,112])=true:=by simpa using h3
  rw[show keyF s=true from by rw[h3];decide]
  simp(disch:=first|omega|(apply id;simp only[push_cast];try omega))only[push_cast,simprocAttr,g0,g1,g2,t3]
  exact .id rfl
 have g3:(s == [115,107,105,112])=false:=by simpa using h3
 by_cases h4:s=[100,111]
 ·have t4:(s == [100,111])=true:=by simpa using h4
  rw[show keyF s=true from by rw[h4];decide]
  simp(disch:=first|omega|(apply id;simp only[push_cast];try omega))only[push_cast,simprocAttr,g0,g1,g2,g3,t4]
  exact .id rfl
 have g4:(s == [100,111])=false:=by simpa using h4
 by_cases h5:s=[112,117,115,104]
 ·have t5:(s == [112,117,115,104])=true:=by simpa using h5
  rw[show keyF s=true from by rw[h5];decide]
  simp(disch:=first|omega|(apply id;simp only[push_cast];try omega))only[push_cast,simprocAttr,g0,g1,g2,g3,g4,t5]
  exact .id rfl
 have g5:(s == [112,117,115,104])=false:=by simpa using h5
 by_cases h6:s=[114,101,118,101,114,115,101]
 ·have t6:(s == [114,101,118,101,114,115,101])=true:=by simpa using h6
  rw[show keyF s=true from by rw[h6];decide]
  simp(disch:=first|omega|(apply id;simp only[push_cast];try omega))only[push_cast,simprocAttr,g0,g1,g2,g3,g4,g5,t6]
  exact .id rfl
 have g6:(s == [114,101,118,101,114,115,101])=false:=by simpa using h6
 by_cases h7:s=[97,99,99,101,112,116]
 ·have t7:(s == [97,99,99,101,112,116])=true:=by simpa using h7
  rw[show keyF s=true from by rw[h7];decide]
  simp(disch:=first|omega|(apply id;simp only[push_cast];try omega))only[push_cast,simprocAttr,g0,g1,g2,g3,g4,g5,g6,t7]
  exact .id rfl
 have g7:(s == [97,99,99,101,112,116])=false:=by simpa using h7
 by_cases h8:s=[109,101,114,103,101]
 ·have t8:(s == [109,101,114,103,101])=true:=by simpa using h8
  rw[show keyF s=true from by rw[h8];decide]
  simp(disch:=first|omega|(apply id;simp only[push_cast];try omega))only[push_cast,simprocAttr,g0,g1,g2,g3,g4,g5,g6,g7,t8]
  exact .id rfl
 have g8:(s == [109,101,114,103,101])=false:=by simpa using h8
 by_cases h9:s=[98,108,111,99,107]
 ·have t9:(s == [98,108,111,99,107])=true:=by simpa using h9
  rw[show keyF s=true from by rw[h9];decide]
  simp(disch:=first|omega|(apply id;simp only[push_cast];try omega))only[push_cast,simprocAttr,g0,g1,g2,g3,g4,g5,g6,g7,g8,t9]
  exact .id rfl
 have g9:(s == [98,108,111,99,107])=false:=by simpa using h9
 by_cases h10:s=[101,120,105,116]
 ·have t10:(s == [101,120,105,116])=true:=by simpa using h10
  rw[show keyF s=true from by rw[h10];decide]
  simp(disch:=first|omega|(apply id;simp only[push_cast];try omega))only[push_cast,simprocAttr,g0,g1,g2,g3,g4,g5,g6,g7,g8,g9,t10]
  exact .id rfl
 have g10:(s == [101,120,105,116])=false:=by simpa using h10
 by_cases h11:s=[105,102]
 ·have t11:(s == [105,102])=true:=by simpa using h11
  rw[show keyF s=true from by rw[h11];decide]
  simp(disch:=first|omega|(apply id;simp only[push_cast];try omega))only[push_cast,simprocAttr,g0,g1,g2,g3,g4,g5,g6,g7,g8,g9,g10,t11]
  exact .id rfl
 have g11:(s == [105,102])=false:=by simpa using h11
 by_cases h12:s=[101,108,115,101]
 ·have t12:(s == [101,108,115,101])=true:=by simpa using h12
  rw[show keyF s=true from by rw[h12];decide]
  simp(disch:=first|omega|(apply id;simp only[push_cast];try omega))only[push_cast,simprocAttr,g0,g1,g2,g3,g4,g5,g6,g7,g8,g9,g10,g11,t12]
  exact .id rfl
 have g12:(s == [101,108,115,101])=false:=by simpa using h12
 by_cases h13:s=[99,104,111,111,115,101]
 ·have t13:(s == [99,104,111,111,115,101])=true:=by simpa using h13
  rw[show keyF s=true from by rw[h13];decide]
  simp(disch:=first|omega|(apply id;simp only[push_cast];try omega))only[push_cast,simprocAttr,g0,g1,g2,g3,g4,g5,g6,g7,g8,g9,g10,g11,g12,t13]
  exact .id rfl
 have g13:(s == [99,104,111,111,115,101])=false:=by simpa using h13
 by_cases h14:s=[112,97,114]
 ·have t14:(s == [112,97,114])=true:=by simpa using h14
  rw[show keyF s=true from by rw[h14];decide]
  simp(disch:=first|omega|(apply id;simp only[push_cast];try omega))only[push_cast,simprocAttr,g0,g1,g2,g3,g4,g5,g6,g7,g8,g9,g10,g11,g12,g13,t14]
  exact .id rfl
 have g14:(s == [112,97,114])=false:=by simpa using h14
 by_cases h15:s=[99,97,108,108]
 ·have t15:(s == [99,97,108,108])=true:=by simpa using h15
  rw[show keyF s=true from by rw[h15];decide]
  simp(disch:=first|omega|(apply id;simp only[push_cast];try omega))only[push_cast,simprocAttr,g0,g1,g2,g3,g4,g5,g6,g7,g8,g9,g10,g11,g12,g13,g14,t15]
  exact .id rfl
 have g15:(s == [99,97,108,108])=false:=by simpa using h15
 rw[show keyF s=false from by unfold keyF keysF;simp[h0,h1,h2,h3,h4,h5,h6,h7,h8,h9,h10,h11,h12,h13,h14,h15]]
 simp(disch:=first|omega|(apply id;simp only[push_cast];try omega))only[push_cast,simprocAttr,g0,g1,g2,g3,g4,g5,g6,g7,g8,g9,g10,g11,g12,g13,g14,g15]
 exact .id rfl
def nameF (s:List UInt8):Bool:=!decide (s=[])&&(decide (s.length≤20)&&(!keyF s&&(small (s.getD 0 0)&&decide (uN qJ s=s.length))))
theorem qs_eq (c:UInt8):gA (c.toNat:Int)=small c:=by unfold gA small;congr 1;simp only[eq_iff_iff];omega
theorem lexname_f (s:List UInt8):jE (pp G) H0 54 [.string (Tx s)] (.bool (nameF s)):=by
 have hlo:H0.lo≤H0.next:=Nat.le_refl _;refine jE.cut (jN.fir4 (q:=qq) (jO G) fir54 (by kernel_rfl) rfl rfl (F25_arr ..) (show NGG≤H0.lo by rw[jV];decide) ?_);rw[sd_ir54]
 unfold nameF
 by_cases h1:s=[]
 ·simp(disch:=first|omega|(apply id;simp only[push_cast];try omega))only[push_cast,simprocAttr,h1,beq_self_eq_true,decide_true,Bool.not_true,Bool.false_and]
  exact .id rfl
 have hb:(s == ([]:List UInt8))=false:=by simpa using h1
 by_cases h2:(20:Int)<s.length
 ·have h2':¬ s.length≤20:=by omega
  simp(disch:=first|omega|(apply id;simp only[push_cast];try omega))only[push_cast,simprocAttr,h1,hb,h2,h2',decide_false,Bool.false_and,Bool.and_false]
  exact .id rfl
 have h2':s.length≤20:=by omega
 have hs0:0<s.length:=List.length_pos_iff.2 h1
 rw[decide_eq_false h1,decide_eq_true h2',Bool.not_false,Bool.true_and,Bool.true_and]
 simp(disch:=first|omega|(apply id;simp only[push_cast];try omega))only[push_cast,simprocAttr,h1,hb,h2,h2',decide_true,decide_false,Bool.not_false,Bool.true_and]
 refine jC.dataI (lexkey_f G s) (by and_intros<;>first|rfl|(simp(disch:=first|omega|(apply id;simp only[push_cast];try omega))only[push_cast])) ?_
 cases hk:keyF s with
 | true=>
  simp(disch:=first|omega|(apply id;simp only[push_cast];try omega))only[push_cast,simprocAttr,Bool.not_true,Bool.false_and]
  exact .id rfl
 | false=>
  have hcv:∀ n h,cvV prog 5 21 (.int .u8 n) h=some (.int .i32 (IntKind.i32.wrap n)):=fun n h=>cv_int T_cnvT_5_21
  have hbt:IntKind.i32.wrap (bt s 0)=((s.getD 0 0).toNat:Int):=by
   have:(s.getD 0 0).toNat<256:=(s.getD 0 0).toNat_lt
   have e:bt s 0=((s.getD 0 0).toNat:Int):=rfl
   rw[e,IntKind.wrap_i32]
   omega
  simp(disch:=first|omega|(apply id;simp only[push_cast];try omega))only[push_cast,simprocAttr,hcv,hbt,Bool.not_false,Bool.true_and]
  refine jC.dataI (small_f G _) (by and_intros<;>first|rfl|(simp(disch:=first|omega|(apply id;simp only[push_cast];try omega))only[push_cast])) ?_
  rw[qs_eq]
  cases hs:small (s.getD 0 0) with
  | false=>
   simp(disch:=first|omega|(apply id;simp only[push_cast];try omega))only[push_cast,simprocAttr,Bool.false_and]
   exact .id rfl
  | true=>
   simp(disch:=first|omega|(apply id;simp only[push_cast];try omega))only[push_cast,simprocAttr,Bool.true_and]
   refine jC.dataI (front_f G s) (by and_intros<;>first|rfl|(simp(disch:=first|omega|(apply id;simp only[push_cast];try omega))only[push_cast])) ?_
   by_cases hf:uN qJ s=s.length
   ·have hf':(uN qJ s:Int)=s.length:=by omega
    rw[show decide (uN qJ s=s.length)=true from decide_eq_true hf]
    simp(disch:=first|omega|(apply id;simp only[push_cast];try omega))only[push_cast,simprocAttr,hf',decide_true]
    exact .id rfl
   ·have hf':¬ (uN qJ s:Int)=s.length:=by omega
    rw[show decide (uN qJ s=s.length)=false from decide_eq_false hf]
    simp(disch:=first|omega|(apply id;simp only[push_cast];try omega))only[push_cast,simprocAttr,hf',decide_false]
    exact .id rfl
mutual
def qB (v:Int):Ex→Bool
 | .mk k n s l => (if k = 1 ∧ 0 ≤ n then decide (l.length = 0) else if k = 2 ∧ 0 ≤ n ∧ n < v then decide (l.length = 0) else if k = 3 ∨ k = 4 then decide (l.length = 1 ∧ n = 0) else if 5 ≤ k ∧ k ≤ 17 then decide (l.length = 2 ∧ n = 0) else false)
   &&decide (s=[])&&qV v l
def qV (v:Int):List Ex→Bool
 | []=>true
 | x :: l=>qB v x&&qV v l
end
theorem rightL_all {v:Int}:∀ {l:List Ex},qV v l=true→∀ x∈l,qB v x=true
 | [],_,x,hx=>by cases hx
 | y :: l,h,x,hx=>by
  simp only[qV,Bool.and_eq_true] at h
  rcases List.mem_cons.1 hx with rfl|hx
  ·exact h.1
  ·exact rightL_all h.2 x hx
theorem rightL_take {v:Int} {l:List Ex} {i:Nat} {x:Ex} (h:l[i]?=some x):qV v (l.take (i+1))=(qV v (l.take i)&&qB v x):=by
 have hi:=(List.getElem?_eq_some_iff.1 h).1
 have app:∀ a b:List Ex,qV v (a++b)=(qV v a&&qV v b):=by
  intro a b
  induction a with
  | nil=>simp[qV]
  | cons x a ih=>simp[qV,ih,Bool.and_assoc]
 rw[List.take_add_one,h,app]
 simp[qV]
theorem rightL_no {v:Int} {l:List Ex} {x:Ex} (h:x∈l) (hx:qB v x=false):qV v l=false:=by
 cases hc:qV v l with
 | false=>rfl
 | true=>rw[rightL_all hc x h] at hx;cases hx
inductive I56r (v:Int) (l:List Ex):Nat→S→Prop
 | mk (i:Nat) (iv:Int) (h:jA) {x0 x2 x3 x4 x5 x6 x7 x8 x9 xA xB xC xD xE xF xG xH xI xJ xK xL xM xN xO xP xQ xR xS xT xU xV xW xX xY xZ yA yB yC yD yE yF yG yH yI yJ yK yL yM yN yO yP yQ yR yS yT yU yV yW yX yY yZ zA zB zC zD zF zG zH zI zM zN zO zP zQ zR zS zU:Value} (hiv:iv=(i:Int)) (hi:i≤l.length) (hok:qV v (l.take i)=true) (hl1:h.lo=1) (hl2:1≤h.next) :
  I56r v l (l.length-i) ⟨(F81 x0 (.int .i64 v) x2 x3 x4 x5 x6 x7 x8 x9 xA xB xC xD xE xF xG xH xI xJ xK xL xM xN xO xP xQ xR xS xT xU xV xW xX xY xZ yA yB yC yD yE yF yG yH yI yJ yK yL yM yN yO yP yQ yR yS yT yU yV yW yX yY yZ zA zB zC zD zF zG zH zI (Rw false eE l.length (uP l)) (.int .i64 l.length) (.int .i64 iv) zM zN zO zP zQ zR zS zU),[],h⟩
theorem right_s0 (v c k n:Int) (s:List UInt8) (l:List Ex) (hll:l.length<100000000000) (ih:∀ x∈l,jE (pp G) H0 56 [exV x,.int .i64 v] (.bool (qB v x))) {x0 x3 x4 x6 x7 x8 x9 xA xB xC xD xE xF xG xH xI xJ xK xL xM xN xO xP xQ xR xS xT xU xV xW xX xY xZ yA yB yC yD yE yF yG yH yI yJ yK yL yM yN yO yP yQ yR yS yT yU yV yW yX yY yZ zA zB zC zD zF zG zH zI zJ zK zL zM zN zO zP zQ zR zS zU:Value} (b:Bool)
  (hb:b=(decide (s=[])&&decide ((l.length:Int)=c)&&decide (c=0∨n=0)&&qV v l)) :
  dc3 (pp G) qq none ir56_s0 ⟨(F81 x0 (.int .i64 v) (.pointer (some ⟨1,0,none⟩)) x3 x4 (.int .i64 c) x6 x7 x8 x9 xA xB xC xD xE xF xG xH xI xJ xK xL xM xN xO xP xQ xR xS xT xU xV xW xX xY xZ yA yB yC yD yE yF yG yH yI yJ yK yL yM yN yO yP yQ yR yS yT yU yV yW yX yY yZ zA zB zC zD zF zG zH zI zJ zK zL zM zN zO zP zQ zR zS zU),[],H0.add (O [.int .i64 k,.int .i64 n,.string (Tx s),Rw false eE l.length (uP l)] 31 false)⟩ (@kR ⟨jL prog [.tmp 4] (fun v' σ'=>FzV prog 1 σ' v' (.bool b))⟩):=by
 rw[sd_ir56_s0]
 have key : ∀ {yO yP yQ yR yS yT yU yV yW yX yY yZ zA zB zC zD zF zG zH zI : Value} (hb : b = qV v l) (h : jA) (hl1 : h.lo = 1) (hl2 : 1 ≤ h.next), WD (pp G) qq.H none (.loop ir56_s1) ⟨(F81 x0 (.int .i64 v) (.pointer (some ⟨1, 0, none⟩)) x3 x4 (.int .i64 c) x6 x7 x8 x9 xA xB xC xD xE xF xG xH xI xJ xK xL xM xN xO xP xQ xR xS xT xU xV xW xX xY xZ yA yB yC yD yE yF yG yH yI yJ yK yL yM yN yO yP yQ yR yS yT yU yV yW yX yY yZ zA zB zC zD zF zG zH zI (Rw false eE l.length (uP l)) (.int .i64 l.length) (.int .i64 0) zM zN zO zP zQ zR zS zU), [], h⟩
   (@kR ⟨qM 1 (jR (fun s1=>dc3 (pp G) qq none ir56_s2 s1 (@kR ⟨@kR ⟨jL prog [.tmp 4] (fun v' σ'=>FzV prog 1 σ' v' (.bool b))⟩⟩)) (@kR ⟨jL prog [.tmp 4] (fun v' σ'=>FzV prog 1 σ' v' (.bool b))⟩))⟩):=by
  intro yO yP yQ yR yS yT yU yV yW yX yY yZ zA zB zC zD zF zG zH zI hb h hl1 hl2
  refine WD.loop4 (q:=qq) (jO G) (by kernel_rfl) (I56r v l) ?_ _ _ (I56r.mk 0 0 h rfl (Nat.zero_le _) rfl hl1 hl2)
  intro m s1 hI
  cases hI with|mk i iv h hiv hi hok hl1 hl2=>
  subst hiv
  rw[sd_ir56_s1]
  by_cases hil:(i:Int)<l.length
  ·obtain ⟨x,hx⟩:∃ x,l[i]?=some x:=⟨_,List.getElem?_eq_getElem (by omega)⟩
   have hxm:=List.mem_of_getElem? hx
   have hp:=kX hx
   have hle:i*4+4≤l.length*4:=by omega
   simp(disch:=first|omega|(apply id;simp only[push_cast];try omega))only[push_cast,simprocAttr,hil,Int.toNat_natCast,hp,hle,hl1]
   refine jC.dataI (ih x hxm) (by and_intros<;>first|rfl|(simp(disch:=first|omega|(apply id;simp only[push_cast];try omega))only[push_cast])) ?_
   cases hr:qB v x with
   | true=>
    simp(disch:=first|omega|(apply id;simp only[push_cast];try omega))only[push_cast,simprocAttr]
    exact ⟨_,by omega,I56r.mk (i+1) _ _ (by first|rfl|omega) (by omega) (by rw[rightL_take hx,hok,hr];rfl) (by first|(simp(disch:=first|omega|(apply id;simp only[push_cast];try omega))only[push_cast,simprocAttr,hl1];done)|(simp(disch:=first|omega|(apply id;simp only[push_cast];try omega))only[push_cast,simprocAttr];omega)) (by first|(simp(disch:=first|omega|(apply id;simp only[push_cast];try omega))only[push_cast,simprocAttr];done)|(simp(disch:=first|omega|(apply id;simp only[push_cast];try omega))only[push_cast,simprocAttr];omega))⟩
   | false=>
    rw[rightL_no hxm hr] at hb
    subst hb
    simp(disch:=first|omega|(apply id;simp only[push_cast];try omega))only[push_cast,simprocAttr]
    exact .id rfl
  ·have hie:i=l.length:=by omega
   subst hie
   rw[List.take_length] at hok
   rw[hok] at hb
   subst hb
   simp(disch:=first|omega|(apply id;simp only[push_cast];try omega))only[push_cast,simprocAttr,hil]
   exact .id rfl
 by_cases h1:s=[]
 ·by_cases h2:(l.length:Int)=c
  ·subst h2
   by_cases h3:(0:Int)<l.length
   ·by_cases h4:n=0
    ·simp(disch:=first|omega|(apply id;simp only[push_cast];try omega))only[push_cast,simprocAttr,h1,h3,h4,beq_self_eq_true]
     exact key (by rw[hb];simp[h1,h4]) _ (by simp(disch:=first|omega|(apply id;simp only[push_cast];try omega))only[push_cast,simprocAttr]) (by first|(simp(disch:=first|omega|(apply id;simp only[push_cast];try omega))only[push_cast,simprocAttr];done)|(simp(disch:=first|omega|(apply id;simp only[push_cast];try omega))only[push_cast,simprocAttr];omega))
    ·have hno:¬ ((l.length:Int)=0∨n=0):=by omega
     have:b=false:=by rw[hb,decide_eq_false hno];simp
     subst this
     simp(disch:=first|omega|(apply id;simp only[push_cast];try omega))only[push_cast,simprocAttr,h1,h3,h4,beq_self_eq_true]
     exact .id rfl
   ·simp(disch:=first|omega|(apply id;simp only[push_cast];try omega))only[push_cast,simprocAttr,h1,h3,beq_self_eq_true]
    exact key (by rw[hb,decide_eq_true (show (l.length:Int)=0∨n=0 by omega)];simp[h1]) _ (by simp(disch:=first|omega|(apply id;simp only[push_cast];try omega))only[push_cast,simprocAttr]) (by first|(simp(disch:=first|omega|(apply id;simp only[push_cast];try omega))only[push_cast,simprocAttr];done)|(simp(disch:=first|omega|(apply id;simp only[push_cast];try omega))only[push_cast,simprocAttr];omega))
  ·have:b=false:=by rw[hb];simp[h2]
   subst this
   simp(disch:=first|omega|(apply id;simp only[push_cast];try omega))only[push_cast,simprocAttr,h1,h2,beq_self_eq_true]
   exact .id rfl
 ·have:b=false:=by rw[hb];simp[h1]
  subst this
  have hs:(s == [])=false:=by simpa using h1
  simp(disch:=first|omega|(apply id;simp only[push_cast];try omega))only[push_cast,simprocAttr,hs]
  exact .id rfl
theorem right_f (v:Int):∀ x:Ex,smE x=true→jE (pp G) H0 56 [exV x,.int .i64 v] (.bool (qB v x))
 | .mk k n s l,hsm=>by
  simp only[smE,Bool.and_eq_true,decide_eq_true_eq] at hsm
  have hall:=smEs_all hsm.2
  have ih:∀ x∈l,jE (pp G) H0 56 [exV x,.int .i64 v] (.bool (qB v x)):=fun x hx=>right_f v x (hall x hx)
  have hlo:H0.lo≤H0.next:=Nat.le_refl _;refine jE.cut (jN.fir4 (q:=qq) (jO G) fir56 (by kernel_rfl) rfl rfl (F81_arr ..) (show NGG≤H0.lo by rw[jV];decide) ?_);rw[sd_ir56]
  unfold exV exC
  rw[qB]
  have hq:∀ (c:Int) (A:Bool),A=(decide ((l.length:Int)=c)&&decide (c=0∨n=0))→(A&&decide (s=[])&&qV v l)=(decide (s=[])&&decide ((l.length:Int)=c)&&decide (c=0∨n=0)&&qV v l):=fun c A hA=>by
   rw[hA]
   cases decide (s=[])<;>cases decide ((l.length:Int)=c)<;>cases decide (c=0∨n=0)<;>rfl
  by_cases h1:k=1
  ·by_cases h2:0≤n
   ·rw[if_pos ⟨h1,h2⟩]
    simp(disch:=first|omega|(apply id;simp only[push_cast];try omega))only[push_cast,simprocAttr,h1,h2]
    exact right_s0 G v 0 1 n s l hsm.1 ih _ (hq 0 (decide (l.length=0)) (by rw[Bool.eq_iff_iff];simp only[Bool.and_eq_true,decide_eq_true_eq];constructor<;>intro hz<;>first|omega|exact ⟨by omega,by first|omega|exact .inl rfl⟩|exact ⟨by omega,by simp⟩|exact hz.1|(simp at hz ⊢;omega)))
   ·rw[if_neg (by omega),if_neg (by omega),if_neg (by omega),if_neg (by omega)]
    subst h1
    simp(disch:=first|omega|(apply id;simp only[push_cast];try omega))only[push_cast,simprocAttr,h2]
    exact .id rfl
  rw[if_neg (by omega)]
  by_cases h2:k=2
  ·by_cases h3:0≤n
   ·by_cases h4:n<v
    ·rw[if_pos ⟨h2,h3,h4⟩]
     subst h2
     simp(disch:=first|omega|(apply id;simp only[push_cast];try omega))only[push_cast,simprocAttr,h3,h4]
     exact right_s0 G v 0 2 n s l hsm.1 ih _ (hq 0 (decide (l.length=0)) (by rw[Bool.eq_iff_iff];simp only[Bool.and_eq_true,decide_eq_true_eq];constructor<;>intro hz<;>first|omega|exact ⟨by omega,by first|omega|exact .inl rfl⟩|exact ⟨by omega,by simp⟩|exact hz.1|(simp at hz ⊢;omega)))
    ·rw[if_neg (by omega),if_neg (by omega),if_neg (by omega)]
     subst h2
     simp(disch:=first|omega|(apply id;simp only[push_cast];try omega))only[push_cast,simprocAttr,h3,h4]
     exact .id rfl
   ·rw[if_neg (by omega),if_neg (by omega),if_neg (by omega)]
    subst h2
    simp(disch:=first|omega|(apply id;simp only[push_cast];try omega))only[push_cast,simprocAttr,h3]
    exact .id rfl
  rw[if_neg (by omega)]
  by_cases h3:k=3
  ·rw[if_pos (.inl h3)]
   subst h3
   simp(disch:=first|omega|(apply id;simp only[push_cast];try omega))only[push_cast,simprocAttr]
   exact right_s0 G v 1 3 n s l hsm.1 ih _ (hq 1 (decide (l.length=1∧n=0)) (by rw[Bool.eq_iff_iff];simp only[Bool.and_eq_true,decide_eq_true_eq];constructor<;>intro hz<;>first|omega|exact ⟨by omega,by first|omega|exact .inl rfl⟩|exact ⟨by omega,by simp⟩|exact hz.1|(simp at hz ⊢;omega)))
  by_cases h4:k=4
  ·rw[if_pos (.inr h4)]
   subst h4
   simp(disch:=first|omega|(apply id;simp only[push_cast];try omega))only[push_cast,simprocAttr]
   exact right_s0 G v 1 4 n s l hsm.1 ih _ (hq 1 (decide (l.length=1∧n=0)) (by rw[Bool.eq_iff_iff];simp only[Bool.and_eq_true,decide_eq_true_eq];constructor<;>intro hz<;>first|omega|exact ⟨by omega,by first|omega|exact .inl rfl⟩|exact ⟨by omega,by simp⟩|exact hz.1|(simp at hz ⊢;omega)))
  rw[if_neg (by omega)]
  by_cases h5:5≤k
  ·by_cases h6:k≤17
   ·rw[if_pos ⟨h5,h6⟩]
    simp(disch:=first|omega|(apply id;simp only[push_cast];try omega))only[push_cast,simprocAttr,h1,h2,h3,h4,h5,h6]
    exact right_s0 G v 2 k n s l hsm.1 ih _ (hq 2 (decide (l.length=2∧n=0)) (by rw[Bool.eq_iff_iff];simp only[Bool.and_eq_true,decide_eq_true_eq];constructor<;>intro hz<;>first|omega|exact ⟨by omega,by first|omega|exact .inl rfl⟩|exact ⟨by omega,by simp⟩|exact hz.1|(simp at hz ⊢;omega)))
   ·rw[if_neg (by omega)]
    simp(disch:=first|omega|(apply id;simp only[push_cast];try omega))only[push_cast,simprocAttr,h1,h2,h3,h4,h5,h6]
    exact .id rfl
  ·rw[if_neg (by omega)]
   simp(disch:=first|omega|(apply id;simp only[push_cast];try omega))only[push_cast,simprocAttr,h1,h2,h3,h4,h5]
   exact .id rfl
 termination_by x=>SizeOf.sizeOf x
inductive I36r (v:Int) (k n:Int) (s:List UInt8) (l:List Ex):Nat→S→Prop
 | mk (i:Nat) (iv:Int) (h:jA) {x0 x3 x4 x7 x8 x9 xA xB xC xD xE xF xG xH xI xJ xK xL xM xN xO xP xQ xR xS xT xU xV xW xX xY xZ yA yB yC yD yE yF yG yH yI yJ yK yL yM yN yO yP yQ yR yS yT yU yV yW yX yY yZ zA zB zC zD zF zG zH zI zJ zK zL zM zN zO zP zQ zR zS zU zV zW zX:Value} (hiv:iv=(i:Int)) (hi:i≤l.length) (hok:qV v (l.take i)=true) (c6:cells h 1=some ([.int .i64 k,.int .i64 n,.string (Tx s),Rw false eE l.length (uP l)],31,false)) (hl1:h.lo=1) (hl2:2≤h.next) :
  I36r v k n s l (l.length-i) ⟨(F84 x0 (.int .i64 v) (.pointer (some ⟨1,0,none⟩)) x3 x4 (.int .i64 l.length) (.int .i64 iv) x7 x8 x9 xA xB xC xD xE xF xG xH xI xJ xK xL xM xN xO xP xQ xR xS xT xU xV xW xX xY xZ yA yB yC yD yE yF yG yH yI yJ yK yL yM yN yO yP yQ yR yS yT yU yV yW yX yY yZ zA zB zC zD zF zG zH zI zJ zK zL zM zN zO zP zQ zR zS zU zV zW zX),[],h⟩
theorem rr_s0 (v c k n:Int) (s:List UInt8) (l:List Ex) (hll:l.length<100000000000) (ih:∀ x∈l,jE (pp G) H0 36 [exV x,.int .i64 v] (.bool (qB v x))) {x0 x3 x4 x6 x7 x8 x9 xA xB xC xD xE xF xG xH xI xJ xK xL xM xN xO xP xQ xR xS xT xU xV xW xX xY xZ yA yB yC yD yE yF yG yH yI yJ yK yL yM yN yO yP yQ yR yS yT yU yV yW yX yY yZ zA zB zC zD zF zG zH zI zJ zK zL zM zN zO zP zQ zR zS zU zV zW zX:Value} (b:Bool)
  (hb:b=(decide (l.length=c∧n=0)&&qV v l)) :
  dc3 (pp G) qq none ir36_s0 ⟨(F84 x0 (.int .i64 v) (.pointer (some ⟨1,0,none⟩)) x3 x4 (.int .i64 c) x6 x7 x8 x9 xA xB xC xD xE xF xG xH xI xJ xK xL xM xN xO xP xQ xR xS xT xU xV xW xX xY xZ yA yB yC yD yE yF yG yH yI yJ yK yL yM yN yO yP yQ yR yS yT yU yV yW yX yY yZ zA zB zC zD zF zG zH zI zJ zK zL zM zN zO zP zQ zR zS zU zV zW zX),[],H0.add (O [.int .i64 k,.int .i64 n,.string (Tx s),Rw false eE l.length (uP l)] 31 false)⟩ (@kR ⟨jL prog [.tmp 4] (fun v' σ'=>FzV prog 1 σ' v' (.bool b))⟩):=by
 rw[sd_ir36_s0]
 by_cases h1:n=0
 rotate_left
 ·have:b=false:=by rw[hb,decide_eq_false (fun h=>h1 h.2)];rfl
  subst this
  simp(disch:=first|omega|(apply id;simp only[push_cast];try omega))only[push_cast,simprocAttr,h1]
  exact .id rfl
 by_cases h2:(l.length:Int)=c
 rotate_left
 ·have:b=false:=by rw[hb,decide_eq_false (fun h=>h2 h.1)];rfl
  subst this
  simp(disch:=first|omega|(apply id;simp only[push_cast];try omega))only[push_cast,simprocAttr,h1,h2]
  exact .id rfl
 rw[decide_eq_true ⟨h2,h1⟩,Bool.true_and] at hb
 subst h2
 simp(disch:=first|omega|(apply id;simp only[push_cast];try omega))only[push_cast,simprocAttr,h1]
 subst h1
 refine WD.loop4 (q:=qq) (jO G) (by kernel_rfl) (I36r v k 0 s l) ?_ _ _ (I36r.mk 0 0 _ rfl (Nat.zero_le _) rfl (by simp(disch:=first|omega|(apply id;simp only[push_cast];try omega))only[push_cast,simprocAttr];first|done|rfl) (by simp(disch:=first|omega|(apply id;simp only[push_cast];try omega))only[push_cast,simprocAttr];first|done|rfl) (by simp(disch:=first|omega|(apply id;simp only[push_cast];try omega))only[push_cast,simprocAttr];first|done|omega))
 intro m s1 hI
 cases hI with|mk i iv h hiv hi hok c6 hl1 hl2=>
 subst hiv
 rw[sd_ir36_s1]
 by_cases hil:(i:Int)<l.length
 ·obtain ⟨x,hx⟩:∃ x,l[i]?=some x:=⟨_,List.getElem?_eq_getElem (by omega)⟩
  have hxm:=List.mem_of_getElem? hx
  have hp:=kX hx
  have hle:i*4+4≤l.length*4:=by omega
  simp(disch:=first|omega|(apply id;simp only[push_cast];try omega))only[push_cast,simprocAttr,hil,Int.toNat_natCast,c6,hp,hle,hl1]
  refine jC.dataI (ih x hxm) (by and_intros<;>first|rfl|(simp(disch:=first|omega|(apply id;simp only[push_cast];try omega))only[push_cast])) ?_
  cases hr:qB v x with
  | true=>
   simp(disch:=first|omega|(apply id;simp only[push_cast];try omega))only[push_cast,simprocAttr]
   exact ⟨_,by omega,I36r.mk (i+1) _ _ (by first|rfl|omega) (by omega) (by rw[rightL_take hx,hok,hr];rfl) c6 hl1 hl2⟩
  | false=>
   rw[rightL_no hxm hr] at hb
   subst hb
   simp(disch:=first|omega|(apply id;simp only[push_cast];try omega))only[push_cast,simprocAttr]
   exact .id rfl
 ·have hie:i=l.length:=by omega
  subst hie
  rw[List.take_length] at hok
  rw[hok] at hb
  subst hb
  simp(disch:=first|omega|(apply id;simp only[push_cast];try omega))only[push_cast,simprocAttr,hil]
  rw[sd_ir36_s2]
  simp(disch:=first|omega|(apply id;simp only[push_cast];try omega))only[push_cast,simprocAttr]
  exact .id rfl
theorem rr_f (v:Int):∀ x:Ex,smE x=true→jE (pp G) H0 36 [exV x,.int .i64 v] (.bool (qB v x))
 | .mk k n s l,hsm=>by
  simp only[smE,Bool.and_eq_true,decide_eq_true_eq] at hsm
  have hll:=hsm.1
  have hall:=smEs_all hsm.2
  have ih:∀ x∈l,jE (pp G) H0 36 [exV x,.int .i64 v] (.bool (qB v x)):=fun x hx=>rr_f v x (hall x hx)
  have hlo:H0.lo≤H0.next:=Nat.le_refl _;refine jE.cut (jN.fir4 (q:=qq) (jO G) fir36 (by kernel_rfl) rfl rfl (F84_arr ..) (show NGG≤H0.lo by rw[jV];decide) ?_);rw[sd_ir36]
  unfold exV exC
  rw[qB]
  by_cases h0:s=[]
  rotate_left
  ·rw[decide_eq_false h0,Bool.and_false,Bool.false_and]
   have hb0:(s == ([]:List UInt8))=false:=by simpa using h0
   simp(disch:=first|omega|(apply id;simp only[push_cast];try omega))only[push_cast,simprocAttr,hb0,Bool.not_false]
   exact .id rfl
  rw[decide_eq_true h0,Bool.and_true]
  subst h0
  have hb0:(([]:List UInt8) == [])=true:=rfl
  by_cases h1:k=1
  ·by_cases h2:0≤n
   ·rw[if_pos ⟨h1,h2⟩]
    by_cases h3:(l.length:Int)=0
    ·have:l=[]:=List.length_eq_zero_iff.1 (by omega)
     subst this
     simp(disch:=first|omega|(apply id;simp only[push_cast];try omega))only[push_cast,simprocAttr,hb0,h1,h2,decide_true,Bool.not_true,qV]
     exact .id rfl
    ·rw[decide_eq_false (by omega),Bool.false_and]
     simp(disch:=first|omega|(apply id;simp only[push_cast];try omega))only[push_cast,simprocAttr,hb0,h1,h2,h3,decide_true,Bool.not_true]
     exact .id rfl
   ·rw[if_neg (by omega),if_neg (by omega),if_neg (by omega),if_neg (by omega),Bool.false_and]
    simp(disch:=first|omega|(apply id;simp only[push_cast];try omega))only[push_cast,simprocAttr,hb0,h1,h2,decide_true,Bool.not_true]
    exact .id rfl
  rw[if_neg (by omega)]
  by_cases h2:k=2
  ·by_cases h3:0≤n
   ·by_cases h4:n<v
    ·rw[if_pos ⟨h2,h3,h4⟩]
     by_cases h5:(l.length:Int)=0
     ·have:l=[]:=List.length_eq_zero_iff.1 (by omega)
      subst this
      simp(disch:=first|omega|(apply id;simp only[push_cast];try omega))only[push_cast,simprocAttr,hb0,h1,h2,h3,h4,decide_true,Bool.not_true,qV]
      exact .id rfl
     ·rw[decide_eq_false (by omega),Bool.false_and]
      simp(disch:=first|omega|(apply id;simp only[push_cast];try omega))only[push_cast,simprocAttr,hb0,h1,h2,h3,h4,h5,decide_true,Bool.not_true]
      exact .id rfl
    ·rw[if_neg (by omega),if_neg (by omega),if_neg (by omega),Bool.false_and]
     simp(disch:=first|omega|(apply id;simp only[push_cast];try omega))only[push_cast,simprocAttr,hb0,h1,h2,h3,h4,decide_true,Bool.not_true]
     exact .id rfl
   ·rw[if_neg (by omega),if_neg (by omega),if_neg (by omega),Bool.false_and]
    simp(disch:=first|omega|(apply id;simp only[push_cast];try omega))only[push_cast,simprocAttr,hb0,h1,h2,h3,decide_true,Bool.not_true]
    exact .id rfl
  rw[if_neg (by omega)]
  by_cases h3:k=3
  ·rw[if_pos (.inl h3)]
   simp(disch:=first|omega|(apply id;simp only[push_cast];try omega))only[push_cast,simprocAttr,hb0,h1,h2,h3,decide_true,Bool.not_true]
   subst h3
   exact rr_s0 G v 1 3 n [] l hll ih _ (by congr 2;rw[eq_iff_iff];constructor<;>intro hz<;>exact ⟨by omega,hz.2⟩)
  by_cases h4:k=4
  ·rw[if_pos (.inr h4)]
   simp(disch:=first|omega|(apply id;simp only[push_cast];try omega))only[push_cast,simprocAttr,hb0,h1,h2,h3,h4,decide_true,Bool.not_true]
   subst h4
   exact rr_s0 G v 1 4 n [] l hll ih _ (by congr 2;rw[eq_iff_iff];constructor<;>intro hz<;>exact ⟨by omega,hz.2⟩)
  rw[if_neg (by omega)]
  by_cases h5:k<5
  ·rw[if_neg (by omega),Bool.false_and]
   simp(disch:=first|omega|(apply id;simp only[push_cast];try omega))only[push_cast,simprocAttr,hb0,h1,h2,h3,h4,h5,decide_true,Bool.not_true]
   exact .id rfl
  by_cases h6:17<k
  ·rw[if_neg (by omega),Bool.false_and]
   simp(disch:=first|omega|(apply id;simp only[push_cast];try omega))only[push_cast,simprocAttr,hb0,h1,h2,h3,h4,h5,h6,decide_true,Bool.not_true]
   exact .id rfl
  rw[if_pos ⟨by omega,by omega⟩]
  simp(disch:=first|omega|(apply id;simp only[push_cast];try omega))only[push_cast,simprocAttr,hb0,h1,h2,h3,h4,h5,h6,decide_true,Bool.not_true]
  exact rr_s0 G v 2 k n [] l hll ih _ (by congr 2;rw[eq_iff_iff];constructor<;>intro hz<;>exact ⟨by omega,hz.2⟩)
def fitsF (v st p what n:Int):Bool:=
 if what=1 then decide (0≤n∧n<v) else if what=2 then decide (n = -1∨(0≤n∧n<v)) else if what=3 then decide (0≤n∧n<st) else if what=4 then decide (0≤n∧n<p) else if what=5 then decide (0≤n) else decide (n=0)
theorem fits_f (v st p what n:Int):jE (pp G) H0 52 [.agg ⟨[.int .i64 v,.int .i64 st,.int .i64 p]⟩,.int .i64 what,.int .i64 n] (.bool (fitsF v st p what n)):=by
 have hlo:H0.lo≤H0.next:=Nat.le_refl _;refine jE.cut (jN.fir4 (q:=qq) (jO G) fir52 (by kernel_rfl) rfl rfl (F58_arr ..) (show NGG≤H0.lo by rw[jV];decide) ?_);rw[sd_ir52]
 unfold fitsF
 by_cases h1:what=1
 ·rw[if_pos h1]
  by_cases h2:0≤n
  ·simp(disch:=first|omega|(apply id;simp only[push_cast];try omega))only[push_cast,simprocAttr,h1,h2,true_and]
   exact .id rfl
  ·simp(disch:=first|omega|(apply id;simp only[push_cast];try omega))only[push_cast,simprocAttr,h1,h2,false_and]
   exact .id rfl
 rw[if_neg h1]
 by_cases h2:what=2
 ·rw[if_pos h2]
  by_cases h3:n = -1
  ·simp(disch:=first|omega|(apply id;simp only[push_cast];try omega))only[push_cast,simprocAttr,h1,h2,h3,true_or]
   exact .id rfl
  ·by_cases h4:0≤n
   ·simp(disch:=first|omega|(apply id;simp only[push_cast];try omega))only[push_cast,simprocAttr,h1,h2,h3,h4,true_and,false_or]
    exact .id rfl
   ·simp(disch:=first|omega|(apply id;simp only[push_cast];try omega))only[push_cast,simprocAttr,h1,h2,h3,h4,false_and,false_or]
    exact .id rfl
 rw[if_neg h2]
 by_cases h3:what=3
 ·rw[if_pos h3]
  by_cases h4:0≤n
  ·simp(disch:=first|omega|(apply id;simp only[push_cast];try omega))only[push_cast,simprocAttr,h1,h2,h3,h4,true_and]
   exact .id rfl
  ·simp(disch:=first|omega|(apply id;simp only[push_cast];try omega))only[push_cast,simprocAttr,h1,h2,h3,h4,false_and]
   exact .id rfl
 rw[if_neg h3]
 by_cases h4:what=4
 ·rw[if_pos h4]
  by_cases h5:0≤n
  ·simp(disch:=first|omega|(apply id;simp only[push_cast];try omega))only[push_cast,simprocAttr,h1,h2,h3,h4,h5,true_and]
   exact .id rfl
  ·simp(disch:=first|omega|(apply id;simp only[push_cast];try omega))only[push_cast,simprocAttr,h1,h2,h3,h4,h5,false_and]
   exact .id rfl
 rw[if_neg h4]
 by_cases h5:what=5
 ·rw[if_pos h5]
  simp(disch:=first|omega|(apply id;simp only[push_cast];try omega))only[push_cast,simprocAttr,h1,h2,h3,h4,h5]
  exact .id rfl
 rw[if_neg h5]
 simp(disch:=first|omega|(apply id;simp only[push_cast];try omega))only[push_cast,simprocAttr,h1,h2,h3,h4,h5]
 exact .id rfl
def qX (e:Ex):Bool:=!decide (e.k=0) || (!decide (e.n=0) || (!decide (e.s=[]) || decide (0<e.l.length)))
theorem given_f:∀ e:Ex,smE e=true→jE (pp G) H0 55 [exV e] (.bool (qX e))
 | .mk k n s l,hs=>by
  have hlo:H0.lo≤H0.next:=Nat.le_refl _;refine jE.cut (jN.fir4 (q:=qq) (jO G) fir55 (by kernel_rfl) rfl rfl (F22_arr ..) (show NGG≤H0.lo by rw[jV];decide) ?_);rw[sd_ir55]
  unfold qX
  by_cases h1:k=0
  rotate_left
  ·rw[show (!decide ((Ex.mk k n s l).k=0))=true from by simp[Ex.k,h1],Bool.true_or]
   simp(disch:=first|omega|(apply id;simp only[push_cast];try omega))only[push_cast,simprocAttr,h1]
   exact .id rfl
  rw[show (!decide ((Ex.mk k n s l).k=0))=false from by simp[Ex.k,h1],Bool.false_or]
  by_cases h2:n=0
  rotate_left
  ·rw[show (!decide ((Ex.mk k n s l).n=0))=true from by simp[Ex.n,h2],Bool.true_or]
   simp(disch:=first|omega|(apply id;simp only[push_cast];try omega))only[push_cast,simprocAttr,h1,h2]
   exact .id rfl
  rw[show (!decide ((Ex.mk k n s l).n=0))=false from by simp[Ex.n,h2],Bool.false_or]
  by_cases h3:s=[]
  rotate_left
  ·rw[show (!decide ((Ex.mk k n s l).s=[]))=true from by simp[Ex.s,h3],Bool.true_or]
   have hb:(s == ([]:List UInt8))=false:=by simpa using h3
   simp(disch:=first|omega|(apply id;simp only[push_cast];try omega))only[push_cast,simprocAttr,h1,h2,hb]
   exact .id rfl
  rw[show (!decide ((Ex.mk k n s l).s=[]))=false from by simp[Ex.s,h3],Bool.false_or]
  by_cases h4:0<l.length
  ·have h4':(0:Int)<l.length:=by omega
   rw[show decide (0<(Ex.mk k n s l).l.length)=true from by simp only[Ex.l,h4,decide_true]]
   simp(disch:=first|omega|(apply id;simp only[push_cast];try omega))only[push_cast,simprocAttr,h1,h2,h3,h4',beq_self_eq_true]
   exact .id rfl
  ·have h4':¬ (0:Int)<l.length:=by omega
   rw[show decide (0<(Ex.mk k n s l).l.length)=false from by simp only[Ex.l,h4,decide_false]]
   simp(disch:=first|omega|(apply id;simp only[push_cast];try omega))only[push_cast,simprocAttr,h1,h2,h3,h4',beq_self_eq_true]
   exact .id rfl
def heldA (s:List UInt8) (e:Ex) (l:List Tm):Value:=.agg ⟨[.int .i64 (if s=[] then 0 else 1),.int .i64 (if qX e then 1 else 0),.int .i64 l.length]⟩
theorem held_f (k a b:Int) (s:List UInt8) (e:Ex) (l:List Tm) (hse:smE e=true):jE (pp G) H0 53 [tmV (.mk k a b s e l)] (heldA s e l):=by
 have hg:=given_f G e hse
 have hlo:H0.lo≤H0.next:=Nat.le_refl _;refine jE.cut (jN.fir4 (q:=qq) (jO G) fir53 (by kernel_rfl) rfl rfl (F16_arr ..) (show NGG≤H0.lo by rw[jV];decide) ?_);rw[sd_ir53]
 unfold heldA
 by_cases h1:s=[]
 ·rw[if_pos h1]
  simp(disch:=first|omega|(apply id;simp only[push_cast];try omega))only[push_cast,simprocAttr,h1,beq_self_eq_true]
  rw[sd_ir53_s0]
  simp(disch:=first|omega|(apply id;simp only[push_cast];try omega))only[push_cast,simprocAttr]
  refine jC.dataI (hg) (by and_intros<;>first|rfl|(simp(disch:=first|omega|(apply id;simp only[push_cast];try omega))only[push_cast])) ?_
  cases hv:qX e with
  | true=>
   simp(disch:=first|omega|(apply id;simp only[push_cast];try omega))only[push_cast,simprocAttr]
   rw[sd_ir53_s1]
   simp(disch:=first|omega|(apply id;simp only[push_cast];try omega))only[push_cast,simprocAttr]
   exact .id rfl
  | false=>
   simp(disch:=first|omega|(apply id;simp only[push_cast];try omega))only[push_cast,simprocAttr]
   rw[sd_ir53_s1]
   simp(disch:=first|omega|(apply id;simp only[push_cast];try omega))only[push_cast,simprocAttr]
   exact .id rfl
 ·have hb:(s == ([]:List UInt8))=false:=by simpa using h1
  rw[if_neg h1]
  simp(disch:=first|omega|(apply id;simp only[push_cast];try omega))only[push_cast,simprocAttr,hb]
  rw[sd_ir53_s0]
  simp(disch:=first|omega|(apply id;simp only[push_cast];try omega))only[push_cast,simprocAttr]
  refine jC.dataI (hg) (by and_intros<;>first|rfl|(simp(disch:=first|omega|(apply id;simp only[push_cast];try omega))only[push_cast])) ?_
  cases hv:qX e with
  | true=>
   simp(disch:=first|omega|(apply id;simp only[push_cast];try omega))only[push_cast,simprocAttr]
   rw[sd_ir53_s1]
   simp(disch:=first|omega|(apply id;simp only[push_cast];try omega))only[push_cast,simprocAttr]
   exact .id rfl
  | false=>
   simp(disch:=first|omega|(apply id;simp only[push_cast];try omega))only[push_cast,simprocAttr]
   rw[sd_ir53_s1]
   simp(disch:=first|omega|(apply id;simp only[push_cast];try omega))only[push_cast,simprocAttr]
   exact .id rfl
def shC:List Value:=match LL with|[(_,l)]=>l|_=>[]
def shA (k:Int):Int:=if k=1 then 2 else if k=2 then 1 else if k=3∨k=4∨k=5∨k=6 then 3 else if k=13 then 4 else if k=14 then 5 else 0
def shB (k:Int):Int:=if k=6 then 3 else if k=14 then 2 else 0
def shN (k:Int):Int:=if k=1∨k=14 then 1 else 0
def shE (k:Int):Int:=if k=2∨k=9 then 1 else 0
def shL (k:Int):Int:=if k=3∨k=7 then 1 else if k=9∨k=10∨k=11∨k=12 then 2 else 0
theorem sh_get:∀ k:Nat,k<15→(shC.drop (k*5)).take 5=[.int .i64 (shA k),.int .i64 (shB k),.int .i64 (shN k),.int .i64 (shE k),.int .i64 (shL k)]
 | 0,_=>by kernel_rfl
 | 1,_=>by kernel_rfl
 | 2,_=>by kernel_rfl
 | 3,_=>by kernel_rfl
 | 4,_=>by kernel_rfl
 | 5,_=>by kernel_rfl
 | 6,_=>by kernel_rfl
 | 7,_=>by kernel_rfl
 | 8,_=>by kernel_rfl
 | 9,_=>by kernel_rfl
 | 10,_=>by kernel_rfl
 | 11,_=>by kernel_rfl
 | 12,_=>by kernel_rfl
 | 13,_=>by kernel_rfl
 | 14,_=>by kernel_rfl
 | n+15,h=>by omega
theorem sh_cells:∃ ty,cells H0 0=some (shC,ty,false):=⟨_,rfl⟩
theorem shC_len:shC.length=75:=by kernel_rfl
mutual
def uU (v st p:Int) (pushed:Bool):Tm→Bool
 | .mk k a b s e l=>decide (0≤k∧k<15)&&(!(pushed&&decide (k=14))&&(fitsF v st p (shA k) a&&(fitsF v st p (shB k) b&&(decide ((if s=[] then (0:Int) else 1)=shN k∧(if qX e then (1:Int) else 0)=shE k∧(l.length:Int)=shL k)&&((decide (s=[]) || nameF s)&&((!qX e || qB v e)&&qH v st p (pushed || decide (k=3)) l))))))
def qH (v st p:Int) (pushed:Bool):List Tm→Bool
 | []=>true
 | x :: l=>uU v st p pushed x&&qH v st p pushed l
end
theorem rightTs_all {v st p:Int} {q:Bool}:∀ {l:List Tm},qH v st p q l=true→∀ x∈l,uU v st p q x=true
 | [],_,x,hx=>by cases hx
 | y :: l,h,x,hx=>by
  simp only[qH,Bool.and_eq_true] at h
  rcases List.mem_cons.1 hx with rfl|hx
  ·exact h.1
  ·exact rightTs_all h.2 x hx
theorem rightTs_app {v st p:Int} {q:Bool} (a b:List Tm):qH v st p q (a++b)=(qH v st p q a&&qH v st p q b):=by
 induction a with
 | nil=>simp[qH]
 | cons x a ih=>simp[qH,ih,Bool.and_assoc]
theorem rightTs_take {v st p:Int} {q:Bool} {l:List Tm} {i:Nat} {x:Tm} (h:l[i]?=some x):qH v st p q (l.take (i+1))=(qH v st p q (l.take i)&&uU v st p q x):=by
 rw[qG h,rightTs_app];simp[qH]
theorem rightTs_no {v st p:Int} {q:Bool} {l:List Tm} {x:Tm} (h:x∈l) (hx:uU v st p q x=false):qH v st p q l=false:=by
 cases hc:qH v st p q l with
 | false=>rfl
 | true=>rw[rightTs_all hc x h] at hx;cases hx
inductive I32 (v st p:Int) (q:Bool) (k a b:Int) (s:List UInt8) (e:Ex) (l:List Tm):Nat→S→Prop
 | mk (i:Nat) (iv:Int) (h:jA) {x0 x1 x5 x6 x7 x8 x9 xA xB xC xD xE xF xG xH xI xJ xK xL xM xN xO xP xQ xR xS xT xU xV xW xX xY xZ yA yB yC yD yE yF yG yH yI yJ yK yL yM yN yO yP yQ yR yS yT yU yV yW yX yY yZ zA zB zC zD zF zG zH zI zJ zK zL zM zN zO zP zU zV zW zX zY zZ wA wB wC wD wE wF wG wH:Value} (hiv:iv=(i:Int)) (hi:i≤l.length) (hok:qH v st p (q || decide (k=3)) (l.take i)=true) (c0:cells h 1=some ([.int .i64 v,.int .i64 st,.int .i64 p],69,false)) (c1:cells h 2=some (tmC (.mk k a b s e l),34,false)) (hl1:h.lo=1) (hl2:3≤h.next) :
  I32 v st p q k a b s e l (l.length-i) ⟨(F94 x0 x1 (.bool q) (.pointer (some ⟨1,0,none⟩)) (.pointer (some ⟨2,0,none⟩)) x5 x6 x7 x8 x9 xA xB xC xD xE xF xG xH xI xJ xK xL xM xN xO xP xQ xR xS xT xU xV xW xX xY xZ yA yB yC yD yE yF yG yH yI yJ yK yL yM yN yO yP yQ yR yS yT yU yV yW yX yY yZ zA zB zC zD zF zG zH zI zJ zK zL zM zN zO zP (Rw false etm l.length (qP l)) (.int .i64 l.length) (.int .i64 iv) zU zV zW zX zY zZ wA wB wC wD wE wF wG wH),[],h⟩
theorem rt_loop (v st p:Int) (q:Bool) (k a b:Int) (s:List UInt8) (e:Ex) (l:List Tm) (hll:l.length<100000000000)
  (ih:∀ x∈l,∀ q,jE (pp G) H0 32 [.agg ⟨[.int .i64 v,.int .i64 st,.int .i64 p]⟩,tmV x,.bool q] (.bool (uU v st p q x))) (h:jA)
  (c0:cells h 1=some ([.int .i64 v,.int .i64 st,.int .i64 p],69,false)) (c1:cells h 2=some (tmC (.mk k a b s e l),34,false)) (hl1:h.lo=1) (hl2:3≤h.next) {c:Bool} (hc:c=qH v st p (q || decide (k=3)) l) {x0 x1 x5 x6 x7 x8 x9 xA xB xC xD xE xF xG xH xI xJ xK xL xM xN xO xP xQ xR xS xT xU xV xW xX xY xZ yA yB yC yD yE yF yG yH yI yJ yK yL yM yN yO yP yQ yR yS yT yU yV yW yX yY yZ zA zB zC zD zF zG zH zI zJ zK zL zM zN zO zP zU zV zW zX zY zZ wA wB wC wD wE wF wG wH:Value} :
  WD (pp G) qq.H none (.loop ir32_s0) ⟨(F94 x0 x1 (.bool q) (.pointer (some ⟨1,0,none⟩)) (.pointer (some ⟨2,0,none⟩)) x5 x6 x7 x8 x9 xA xB xC xD xE xF xG xH xI xJ xK xL xM xN xO xP xQ xR xS xT xU xV xW xX xY xZ yA yB yC yD yE yF yG yH yI yJ yK yL yM yN yO yP yQ yR yS yT yU yV yW yX yY yZ zA zB zC zD zF zG zH zI zJ zK zL zM zN zO zP (Rw false etm l.length (qP l)) (.int .i64 l.length) (.int .i64 0) zU zV zW zX zY zZ wA wB wC wD wE wF wG wH),[],h⟩
   (@kR ⟨qM 1 (jR (fun s1=>dc3 (pp G) qq none ir32_s1 s1 (@kR ⟨jL prog [.tmp 6] (fun v' σ'=>FzV prog 1 σ' v' (.bool c))⟩)) (jL prog [.tmp 6] (fun v' σ'=>FzV prog 1 σ' v' (.bool c))))⟩):=by
 refine WD.loop4 (q:=qq) (jO G) (by kernel_rfl) (I32 v st p q k a b s e l) ?_ _ _ (I32.mk 0 0 h rfl (Nat.zero_le _) rfl c0 c1 hl1 hl2)
 clear c0 c1 hl1 hl2
 intro m s1 hI
 cases hI with|mk i iv h hiv hi hok c0 c1 hl1 hl2=>
 subst hiv
 rw[sd_ir32_s0]
 rw[tmC_mk] at c1
 by_cases hil:(i:Int)<l.length
 ·obtain ⟨x,hx⟩:=qU (l:=l) (i:=i) (by omega)
  have hxm:=List.mem_of_getElem? hx
  have hp:=uK hx
  have hle:i*9+9≤l.length*9:=by omega
  have hq:∀ {b:Bool},(q || decide (k=3))=b→jE (pp G) H0 32 [.agg ⟨[.int .i64 v,.int .i64 st,.int .i64 p]⟩,tmV x,.bool b] (.bool (uU v st p b x)):=fun _=>ih x hxm _
  have done1:∀ (b:Bool),(q || decide (k=3))=b→uU v st p b x=true→qH v st p (q || decide (k=3)) (l.take (i+1))=true:=fun b hb hr=>by rw[rightTs_take hx,hok,hb,hr];rfl
  have done0:∀ (b:Bool),(q || decide (k=3))=b→uU v st p b x=false→c=false:=fun b hb hr=>by rw[hc];exact rightTs_no hxm (by rw[hb];exact hr)
  cases q with
  | true=>
   simp(disch:=first|omega|(apply id;simp only[push_cast];try omega))only[push_cast,simprocAttr,hil,Int.toNat_natCast,hp,hle,hl1,c0,c1]
   refine jC.dataI (hq (Bool.true_or _)) (by and_intros<;>first|rfl|(simp(disch:=first|omega|(apply id;simp only[push_cast];try omega))only[push_cast])) ?_
   cases hr:uU v st p true x with
   | true=>
    simp(disch:=first|omega|(apply id;simp only[push_cast];try omega))only[push_cast,simprocAttr]
    exact ⟨_,by omega,I32.mk (i+1) _ _ (by first|rfl|omega) (by omega) (done1 true (Bool.true_or _) hr) (by first|assumption|(simp(disch:=first|omega|(apply id;simp only[push_cast];try omega))only[push_cast,simprocAttr,c0];try omega)) (by first|assumption|(simp(disch:=first|omega|(apply id;simp only[push_cast];try omega))only[push_cast,simprocAttr,c1];try omega)) (by first|assumption|(simp(disch:=first|omega|(apply id;simp only[push_cast];try omega))only[push_cast,simprocAttr,hl1];try omega)) (by first|assumption|(simp(disch:=first|omega|(apply id;simp only[push_cast];try omega))only[push_cast,simprocAttr];try omega))⟩
   | false=>
    obtain rfl:=done0 true (Bool.true_or _) hr
    simp(disch:=first|omega|(apply id;simp only[push_cast];try omega))only[push_cast,simprocAttr]
    exact .id rfl
  | false=>
   simp(disch:=first|omega|(apply id;simp only[push_cast];try omega))only[push_cast,simprocAttr,hil,Int.toNat_natCast,hp,hle,hl1,c0,c1]
   refine jC.dataI (hq (Bool.false_or _)) (by and_intros<;>first|rfl|(simp(disch:=first|omega|(apply id;simp only[push_cast];try omega))only[push_cast])) ?_
   cases hr:uU v st p (decide (k=3)) x with
   | true=>
    simp(disch:=first|omega|(apply id;simp only[push_cast];try omega))only[push_cast,simprocAttr]
    exact ⟨_,by omega,I32.mk (i+1) _ _ (by first|rfl|omega) (by omega) (done1 _ (Bool.false_or _) hr) (by first|assumption|(simp(disch:=first|omega|(apply id;simp only[push_cast];try omega))only[push_cast,simprocAttr,c0];try omega)) (by first|assumption|(simp(disch:=first|omega|(apply id;simp only[push_cast];try omega))only[push_cast,simprocAttr,c1];try omega)) (by first|assumption|(simp(disch:=first|omega|(apply id;simp only[push_cast];try omega))only[push_cast,simprocAttr,hl1];try omega)) (by first|assumption|(simp(disch:=first|omega|(apply id;simp only[push_cast];try omega))only[push_cast,simprocAttr];try omega))⟩
   | false=>
    obtain rfl:=done0 _ (Bool.false_or _) hr
    simp(disch:=first|omega|(apply id;simp only[push_cast];try omega))only[push_cast,simprocAttr]
    exact .id rfl
 ·have hie:i=l.length:=by omega
  subst hie
  rw[List.take_length] at hok
  rw[hok] at hc
  subst hc
  simp(disch:=first|omega|(apply id;simp only[push_cast];try omega))only[push_cast,simprocAttr,hil]
  rw[sd_ir32_s1]
  simp(disch:=first|omega|(apply id;simp only[push_cast];try omega))only[push_cast,simprocAttr]
  exact .id rfl
theorem rt_f (v st p:Int):∀ (x:Tm) (q:Bool),smT x=true→jE (pp G) H0 32 [.agg ⟨[.int .i64 v,.int .i64 st,.int .i64 p]⟩,tmV x,.bool q] (.bool (uU v st p q x))
 | .mk k a b s e l,q,hs=>by
  have hs0:=hs
  simp only[smT,Bool.and_eq_true,decide_eq_true_eq] at hs
  obtain ⟨⟨hll,hse⟩,hsl⟩:=hs
  have ih:∀ x∈l,∀ q,jE (pp G) H0 32 [.agg ⟨[.int .i64 v,.int .i64 st,.int .i64 p]⟩,tmV x,.bool q] (.bool (uU v st p q x)):=fun x hx q=>rt_f v st p x q (uY hsl x hx)
  have hheld:=held_f G k a b s e l hse
  have hgiven:=given_f G e hse
  obtain ⟨ty,c0⟩:=sh_cells
  have hlo:H0.lo≤H0.next:=Nat.le_refl _;refine jE.cut (jN.fir4 (q:=qq) (jO G) fir32 (by kernel_rfl) rfl rfl (F94_arr ..) (show NGG≤H0.lo by rw[jV];decide) ?_);rw[sd_ir32]
  rw[uU]
  by_cases h1:0≤k∧k<15
  rotate_left
  ·rw[decide_eq_false h1,Bool.false_and]
   by_cases g1:k<0
   ·simp(disch:=first|omega|(apply id;simp only[push_cast];try omega))only[push_cast,simprocAttr,g1]
    exact .id rfl
   ·have g2:15≤k:=by omega
    simp(disch:=first|omega|(apply id;simp only[push_cast];try omega))only[push_cast,simprocAttr,g1,g2]
    exact .id rfl
  rw[decide_eq_true h1,Bool.true_and]
  have g1:¬ k<0:=by omega
  have g2:¬ 15≤k:=by omega
  by_cases h2:(q&&decide (k=14))=true
  ·rw[h2,Bool.not_true,Bool.false_and]
   rw[Bool.and_eq_true,decide_eq_true_eq] at h2
   obtain ⟨rfl,rfl⟩:=h2
   simp(disch:=first|omega|(apply id;simp only[push_cast];try omega))only[push_cast,simprocAttr]
   exact .id rfl
  have h2:(q&&decide (k=14))=false:=by simpa using h2
  rw[h2,Bool.not_false,Bool.true_and]
  obtain ⟨kn,rfl⟩:∃ kn:Nat,k=(kn:Int):=⟨k.toNat,by omega⟩
  have hsg:=sh_get kn (by omega)
  have hk15:(kn:Int)<15:=h1.2
  have hle:kn*5+5≤75:=by omega
  have hld:ldC (some (true,5)) (kn*5) 1 0 (some (shC,ty,false))=some (.agg ⟨[.int .i64 (shA (kn:Int)),.int .i64 (shB (kn:Int)),.int .i64 (shN (kn:Int)),.int .i64 (shE (kn:Int)),.int .i64 (shL (kn:Int))]⟩):=by
   refine ldC_flat true 5 _ _ _ _ _ _ _ ?_ rfl
   simp only[uR]
   rw[if_pos (by rw[shC_len];omega),hsg]
  cases q
  case' true=>
   have h14:¬ (kn:Int)=14:=by simpa using h2
   simp(disch:=first|omega|(apply id;simp only[push_cast];try omega))only[push_cast,simprocAttr,g1,g2,h14,c0,hld,hk15,Int.toNat_natCast]
  case' false=>
   simp(disch:=first|omega|(apply id;simp only[push_cast];try omega))only[push_cast,simprocAttr,g1,g2,c0,hld,hk15,Int.toNat_natCast]
  all_goals
   refine jC.dataI (fits_f G v st p (shA kn) a) (by and_intros<;>first|rfl|(simp(disch:=first|omega|(apply id;simp only[push_cast];try omega))only[push_cast])) ?_
   cases hf1:fitsF v st p (shA kn) a with
   | false=>
    simp(disch:=first|omega|(apply id;simp only[push_cast];try omega))only[push_cast,simprocAttr]
    exact .id rfl
   | true=>
    simp(disch:=first|omega|(apply id;simp only[push_cast];try omega))only[push_cast,simprocAttr]
    refine jC.dataI (fits_f G v st p (shB kn) b) (by and_intros<;>first|rfl|(simp(disch:=first|omega|(apply id;simp only[push_cast];try omega))only[push_cast])) ?_
    cases hf2:fitsF v st p (shB kn) b with
    | false=>
     simp(disch:=first|omega|(apply id;simp only[push_cast];try omega))only[push_cast,simprocAttr]
     exact .id rfl
    | true=>
     simp(disch:=first|omega|(apply id;simp only[push_cast];try omega))only[push_cast,simprocAttr]
     refine jC.dataI (hheld) (by and_intros<;>first|rfl|(simp(disch:=first|omega|(apply id;simp only[push_cast];try omega))only[push_cast])) ?_
     unfold heldA
     by_cases hh:(if s=[] then (0:Int) else 1)=shN kn∧(if qX e then (1:Int) else 0)=shE kn∧(l.length:Int)=shL kn
     rotate_left
     ·rw[decide_eq_false hh]
      simp(disch:=first|omega|(apply id;simp only[push_cast];try omega))only[push_cast,simprocAttr,b_neqA,hh,decide_false,Bool.not_false]
      exact .id rfl
     rw[decide_eq_true hh]
     simp(disch:=first|omega|(apply id;simp only[push_cast];try omega))only[push_cast,simprocAttr,b_neqA,hh,decide_true,Bool.not_true]
     by_cases hs:s=[]
     ·have hb:(s == ([]:List UInt8))=true:=by simpa using hs
      rw[show decide (s=[])=true from decide_eq_true hs,Bool.true_or,Bool.true_and,Bool.true_and,Bool.true_and]
      simp(disch:=first|omega|(apply id;simp only[push_cast];try omega))only[push_cast,simprocAttr,hb,Bool.not_true]
      refine jC.dataI (hgiven) (by and_intros<;>first|rfl|(simp(disch:=first|omega|(apply id;simp only[push_cast];try omega))only[push_cast])) ?_
      cases hg:qX e with
      | false=>
       skip
       simp(disch:=first|omega|(apply id;simp only[push_cast];try omega))only[push_cast,simprocAttr]
       exact rt_loop G v st p _ kn a b s e l hll ih _ (by simp(disch:=first|omega|(apply id;simp only[push_cast];try omega))only[push_cast,simprocAttr]) (by simp(disch:=first|omega|(apply id;simp only[push_cast];try omega))only[push_cast,simprocAttr];try rfl) (by simp(disch:=first|omega|(apply id;simp only[push_cast];try omega))only[push_cast,simprocAttr]) (by first|(simp(disch:=first|omega|(apply id;simp only[push_cast];try omega))only[push_cast,simprocAttr];done)|(simp(disch:=first|omega|(apply id;simp only[push_cast];try omega))only[push_cast,simprocAttr];omega)) (by rfl)
      | true=>
       skip
       simp(disch:=first|omega|(apply id;simp only[push_cast];try omega))only[push_cast,simprocAttr]
       refine jC.dataI (right_f G v e hse) (by and_intros<;>first|rfl|(simp(disch:=first|omega|(apply id;simp only[push_cast];try omega))only[push_cast])) ?_
       cases hr:qB v e with
       | false=>
        simp(disch:=first|omega|(apply id;simp only[push_cast];try omega))only[push_cast,simprocAttr]
        exact .id rfl
       | true=>
        simp(disch:=first|omega|(apply id;simp only[push_cast];try omega))only[push_cast,simprocAttr]
        exact rt_loop G v st p _ kn a b s e l hll ih _ (by simp(disch:=first|omega|(apply id;simp only[push_cast];try omega))only[push_cast,simprocAttr]) (by simp(disch:=first|omega|(apply id;simp only[push_cast];try omega))only[push_cast,simprocAttr];try rfl) (by simp(disch:=first|omega|(apply id;simp only[push_cast];try omega))only[push_cast,simprocAttr]) (by first|(simp(disch:=first|omega|(apply id;simp only[push_cast];try omega))only[push_cast,simprocAttr];done)|(simp(disch:=first|omega|(apply id;simp only[push_cast];try omega))only[push_cast,simprocAttr];omega)) (by rfl)
     ·have hb:(s == ([]:List UInt8))=false:=by simpa using hs
      rw[show decide (s=[])=false from decide_eq_false hs,Bool.false_or]
      simp(disch:=first|omega|(apply id;simp only[push_cast];try omega))only[push_cast,simprocAttr,hb,Bool.not_false]
      refine jC.dataI (lexname_f G s) (by and_intros<;>first|rfl|(simp(disch:=first|omega|(apply id;simp only[push_cast];try omega))only[push_cast])) ?_
      cases hnm:nameF s with
      | false=>
       simp(disch:=first|omega|(apply id;simp only[push_cast];try omega))only[push_cast,simprocAttr,hb,Bool.not_false,Bool.not_true]
       exact .id rfl
      | true=>
       simp(disch:=first|omega|(apply id;simp only[push_cast];try omega))only[push_cast,simprocAttr,hb,Bool.not_false,Bool.not_true]
       refine jC.dataI (hgiven) (by and_intros<;>first|rfl|(simp(disch:=first|omega|(apply id;simp only[push_cast];try omega))only[push_cast])) ?_
       cases hg:qX e with
       | false=>
        skip
        simp(disch:=first|omega|(apply id;simp only[push_cast];try omega))only[push_cast,simprocAttr]
        exact rt_loop G v st p _ kn a b s e l hll ih _ (by simp(disch:=first|omega|(apply id;simp only[push_cast];try omega))only[push_cast,simprocAttr]) (by simp(disch:=first|omega|(apply id;simp only[push_cast];try omega))only[push_cast,simprocAttr];try rfl) (by simp(disch:=first|omega|(apply id;simp only[push_cast];try omega))only[push_cast,simprocAttr]) (by first|(simp(disch:=first|omega|(apply id;simp only[push_cast];try omega))only[push_cast,simprocAttr];done)|(simp(disch:=first|omega|(apply id;simp only[push_cast];try omega))only[push_cast,simprocAttr];omega)) (by rfl)
       | true=>
        skip
        simp(disch:=first|omega|(apply id;simp only[push_cast];try omega))only[push_cast,simprocAttr]
        refine jC.dataI (right_f G v e hse) (by and_intros<;>first|rfl|(simp(disch:=first|omega|(apply id;simp only[push_cast];try omega))only[push_cast])) ?_
        cases hr:qB v e with
        | false=>
         simp(disch:=first|omega|(apply id;simp only[push_cast];try omega))only[push_cast,simprocAttr]
         exact .id rfl
        | true=>
         simp(disch:=first|omega|(apply id;simp only[push_cast];try omega))only[push_cast,simprocAttr]
         exact rt_loop G v st p _ kn a b s e l hll ih _ (by simp(disch:=first|omega|(apply id;simp only[push_cast];try omega))only[push_cast,simprocAttr]) (by simp(disch:=first|omega|(apply id;simp only[push_cast];try omega))only[push_cast,simprocAttr];try rfl) (by simp(disch:=first|omega|(apply id;simp only[push_cast];try omega))only[push_cast,simprocAttr]) (by first|(simp(disch:=first|omega|(apply id;simp only[push_cast];try omega))only[push_cast,simprocAttr];done)|(simp(disch:=first|omega|(apply id;simp only[push_cast];try omega))only[push_cast,simprocAttr];omega)) (by rfl)
 termination_by x=>SizeOf.sizeOf x
theorem right_t (v st p:Int) (x:Tm) (hs:smT x=true):jE (pp G) H0 15 [tmV x,.int .i64 v,.int .i64 st,.int .i64 p] (.bool (uU v st p false x)):=by
 have hlo:H0.lo≤H0.next:=Nat.le_refl _;refine jE.cut (jN.fir4 (q:=qq) (jO G) fir15 (by kernel_rfl) rfl rfl (F15_arr ..) (show NGG≤H0.lo by rw[jV];decide) ?_);rw[sd_ir15]
 simp(disch:=first|omega|(apply id;simp only[push_cast];try omega))only[push_cast,simprocAttr]
 refine jC.dataI (rt_f G v st p x false hs) (by and_intros<;>first|rfl|(simp(disch:=first|omega|(apply id;simp only[push_cast];try omega))only[push_cast])) ?_
 simp(disch:=first|omega|(apply id;simp only[push_cast];try omega))only[push_cast,simprocAttr]
 exact .id rfl
theorem tmz_fz {P:Program} {N:Nat} {σ:jA} (h1:szT P eE=some 4) (k a b:Int) (s:List UInt8) {f:Bool} {cs:List Value} {n:Nat} {l:List Tm} (hn:n=l.length) (hc:FzL P N σ cs (qP l)) :
  FzV P N σ (.agg ⟨[.int .i64 k,.int .i64 a,.int .i64 b,.string (Tx s),.int .i64 0,.int .i64 0,.string (Tx []),.slice none 0 0,Rw f etm n cs]⟩) (tmV (.mk k a b s zE l)):=by
 subst hn
 exact .agg (.cons (.id rfl) (.cons (.id rfl) (.cons (.id rfl) (.cons (.id rfl) (.cons (.id rfl) (.cons (.id rfl) (.cons (.id rfl) (.cons (.nil (size:=4) h1 (by decide)) (.cons (.row hc) .nil)))))))))
theorem tmz0_fz {P:Program} {N:Nat} {σ:jA} (h1:szT P eE=some 4) (h2:szT P etm=some 9) (k a b:Int) (s:List UInt8) :
  FzV P N σ (.agg ⟨[.int .i64 k,.int .i64 a,.int .i64 b,.string (Tx s),.int .i64 0,.int .i64 0,.string (Tx []),.slice none 0 0,.slice none 0 0]⟩) (tmV (.mk k a b s zE [])):=
 .agg (.cons (.id rfl) (.cons (.id rfl) (.cons (.id rfl) (.cons (.id rfl) (.cons (.id rfl) (.cons (.id rfl) (.cons (.id rfl) (.cons (.nil (size:=4) h1 (by decide)) (.cons (.nil (size:=9) h2 (by decide)) .nil)))))))))
theorem tmzL_fz {P:Program} {N:Nat} {σ:jA} (h1:szT P eE=some 4) (h2:szT P etm=some 9) (k a b:Int) (s:List UInt8):FzL P N σ [.int .i64 k,.int .i64 a,.int .i64 b,.string (Tx s),.int .i64 0,.int .i64 0,.string (Tx []),.slice none 0 0,.slice none 0 0] (tmC (.mk k a b s zE [])):=
 .cons (.id rfl) (.cons (.id rfl) (.cons (.id rfl) (.cons (.id rfl) (.cons (.id rfl) (.cons (.id rfl) (.cons (.id rfl) (.cons (.nil (size:=4) h1 (by decide)) (.cons (.nil (size:=9) h2 (by decide)) .nil))))))))
def zc (k a b:Int) (s:List UInt8):List Value:=[.int .i64 k,.int .i64 a,.int .i64 b,.string (Tx s),.int .i64 0,.int .i64 0,.string (Tx []),.slice none 0 0,.slice none 0 0]
theorem rowZ1 (k a b:Int) (s:List UInt8) (σ:jA):bsD (qq.m 32) (slT prog 32) 1 [(0,.agg ⟨[.int .i64 k,.int .i64 a,.int .i64 b,.string (Tx s),.int .i64 0,.int .i64 0,.string (Tx []),.slice none 0 0,.slice none 0 0]⟩)] σ=some (Rw true etm 1 (zc k a b s),σ):=by kernel_rfl
theorem rowZ2 (k a b:Int) (s:List UInt8) (k' a' b':Int) (s':List UInt8) (σ:jA):bsD (qq.m 32) (slT prog 32) 2 [(0,.agg ⟨[.int .i64 k,.int .i64 a,.int .i64 b,.string (Tx s),.int .i64 0,.int .i64 0,.string (Tx []),.slice none 0 0,.slice none 0 0]⟩),(1,.agg ⟨[.int .i64 k',.int .i64 a',.int .i64 b',.string (Tx s'),.int .i64 0,.int .i64 0,.string (Tx []),.slice none 0 0,.slice none 0 0]⟩)] σ=some (Rw true etm 2 (zc k a b s++zc k' a' b' s'),σ):=by kernel_rfl
def payS:List UInt8:=[112,97,121]
theorem known5_f:jE (pp G) H0 11 [] (.bool true):=by
 have hlo:H0.lo≤H0.next:=Nat.le_refl _;refine jE.cut (jN.fir4 (q:=qq) (jO G) fir11 (by kernel_rfl) rfl rfl (F37_arr ..) (show NGG≤H0.lo by rw[jV];decide) ?_);rw[sd_ir11]
 simp(disch:=first|omega|(apply id;simp only[push_cast];try omega))only[push_cast,simprocAttr,↓rowZ1,↓rowZ2]
 have e1:waitsF (.mk 12 0 0 [] zE [.mk 14 3 (-1) payS zE [],zT])=[3]:=by
  simp[waitsF,wS,actF,actH,Tm.k,Tm.a]
 have e2:qW (.mk 7 0 0 [] zE [zT])=zT:=by simp[qW,zT,Tm.k]
 have e3:uU 0 0 0 false (.mk 14 3 (-1) payS zE [])=true:=by
  simp[uU,qH,fitsF,shA,shB,shN,shE,shL,qX,zE,Ex.k,Ex.n,Ex.s,Ex.l]
  decide
 have hb:FzV prog H0.next H0 (.agg ⟨[.int .i64 7,.int .i64 0,.int .i64 0,.string (Tx []),.int .i64 0,.int .i64 0,.string (Tx []),.slice none 0 0,Rw true etm 1 (zc 0 0 0 [])]⟩) (tmV (.mk 7 0 0 [] zE [zT])):=tmz_fz rfl 7 0 0 [] (l:=[zT]) rfl (tmzL_fz rfl rfl 0 0 0 [])
 have hw:FzV prog H0.next H0 (.agg ⟨[.int .i64 14,.int .i64 3,.int .i64 (-1),.string (Tx payS),.int .i64 0,.int .i64 0,.string (Tx []),.slice none 0 0,.slice none 0 0]⟩) (tmV (.mk 14 3 (-1) payS zE [])):=tmz0_fz rfl rfl 14 3 (-1) payS
 refine jC.data (waits_f G (.mk 12 0 0 [] zE [.mk 14 3 (-1) payS zE [],zT]) rfl (by simp[actF,actH])) (.cons (tmz_fz rfl 12 0 0 [] (l:=[.mk 14 3 (-1) payS zE [],zT]) rfl ((tmzL_fz rfl rfl 14 3 (-1) payS).app (tmzL_fz rfl rfl 0 0 0 []))) .nil) (by first|rfl|(simp(disch:=first|omega|(apply id;simp only[push_cast];try omega))only[push_cast])) (by first|rfl|(simp(disch:=first|omega|(apply id;simp only[push_cast];try omega))only[push_cast])) ?_
 rw[e1]
 simp(disch:=first|omega|(apply id;simp only[push_cast];try omega))only[push_cast,simprocAttr]
 refine jC.data (norm_f G (.mk 7 0 0 [] zE [zT]) rfl) (.cons hb .nil) (by first|rfl|(simp(disch:=first|omega|(apply id;simp only[push_cast];try omega))only[push_cast])) (by first|rfl|(simp(disch:=first|omega|(apply id;simp only[push_cast];try omega))only[push_cast])) ?_
 rw[e2]
 simp(disch:=first|omega|(apply id;simp only[push_cast];try omega))only[push_cast,simprocAttr]
 refine jC.data (samet_t G zT zT rfl rfl) (.cons (.id (tmV_sc _ H0q zT)) (.cons (tmz0_fz rfl rfl 0 0 0 []) .nil)) (by first|rfl|(simp(disch:=first|omega|(apply id;simp only[push_cast];try omega))only[push_cast])) (by first|rfl|(simp(disch:=first|omega|(apply id;simp only[push_cast];try omega))only[push_cast])) ?_
 rw[show sameT zT zT=true from rfl]
 simp(disch:=first|omega|(apply id;simp only[push_cast];try omega))only[push_cast,simprocAttr]
 refine jC.data (size_t G (.mk 7 0 0 [] zE [zT]) rfl) (.cons hb .nil) (by first|rfl|(simp(disch:=first|omega|(apply id;simp only[push_cast];try omega))only[push_cast])) (by first|rfl|(simp(disch:=first|omega|(apply id;simp only[push_cast];try omega))only[push_cast])) ?_
 rw[show W (sizeT (.mk 7 0 0 [] zE [zT]))=2 from rfl]
 simp(disch:=first|omega|(apply id;simp only[push_cast];try omega))only[push_cast,simprocAttr]
 refine jC.data (right_t G 0 0 0 (.mk 14 3 (-1) payS zE []) rfl) (.cons hw (.cons (.id rfl) (.cons (.id rfl) (.cons (.id rfl) .nil)))) (by first|rfl|(simp(disch:=first|omega|(apply id;simp only[push_cast];try omega))only[push_cast])) (by first|rfl|(simp(disch:=first|omega|(apply id;simp only[push_cast];try omega))only[push_cast])) ?_
 rw[e3]
 unfold ivV
 have e4:(ivs [3])[0]?=some (.int .i64 3):=rfl
 simp(disch:=first|omega|(apply id;simp only[push_cast];try omega))only[push_cast,simprocAttr,e4]
 exact .id rfl
end
end Go.Proofs.YtgeakofgklcipaaDoor
