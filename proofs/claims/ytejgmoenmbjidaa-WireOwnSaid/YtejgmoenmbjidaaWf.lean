/-
  A part of the proof: what the program's functions hand back,as theorems. No condition but those that each theorem names.
-/
import Derived.Test.YtejgmoenmbjidaaWd
set_option linter.unusedSimpArgs false
set_option linter.unusedVariables false
namespace Go.Ev
open Go Go.RowKit
noncomputable section
theorem W.eachS {p:Par}(jW:yT0 p){tm:VT}{df:List Nat}{h:jB}{R:jL→S→Prop}{g:Zo}{ps:Array Tmp}{a b:Code}{aIR bIR:IR}(ha:comp p.P a=aIR)(hb:comp p.P b=bIR)(hU:tm.sz<U)
  {f:FuncId} {captured:List Z6} (hgv:ev tm g=.func (.func f) #[] ⟨captured⟩) (hlo:h.lo≤h.next)
  {ι:Type} (i0:ι) (Fin:ι→Prop) (J:ι→jB→Prop) (S T:Nat→Prop) (It:ι→ι→jB→List Z6→Prop) (A:List Z6→VT)
  (hST:¬ S h.next∧¬ S (h.next+1)∧¬ T h.next∧¬ T (h.next+1))
  (hJ0:J i0 h) (hJ:∀ i h2 h3,J i h2→h.next≤h2.next→h2.lo=h.lo→jI h2 h3 (λk=>k=h.next+1∨T k)→J i h3)
  (hlen:∀ i j h2 args,It i j h2 args→args.length=ps.toList.length)
  (hIt:∀ i j h2 h3 args,It i j h2 args→h.next+2≤h2.next→h2.lo=h.lo→jI h2 h3 (λk=>k=h.next+1)→It i j h3 args)
  (hA:∀ i j h2 args,It i j h2 args→vc p (some (h.next+1)) aIR ⟨uG0 tm (ps.toList.zip args),[],h2⟩ (λe s1=>e=.normal∧s1=⟨A args,[],h2⟩))
  (step:∀ i j h2 args,J i h2→h.next+2≤h2.next→h2.lo=h.lo→It i j h2 args→vc p (some (h.next+1)) bIR ⟨A args,[],h2⟩ (λe s2=>e=.normal∧J j s2.h∧jI h2 s2.h S))
  (iter:∀ (h1:jB) (Y:ι→jB→Prop),jI h h1 (λ_=>False)→h1.next=h.next+2→Y i0 h1→
   (∀ i j h2 args,Y i h2→h.next+2≤h2.next→h2.lo=h.lo→It i j h2 args→gR p (h.next+1) args h2 (λv h3=>v=.bool true∧Y j h3∧jI h2 h3 (λk=>S k∨k=h.next+1)))→
   (∀ i h2 h3,Y i h2→jI h2 h3 T→Y i h3)→
   (∀ i h2,Y i h2→J i h2)→
   (∀ i j h2,Y i h2→J j h2→Y j h2)→
   jG p f (.func (.yield (h.next+1)) #[] #[] :: captured) h1 (λ_ h2=>(∃ i,Fin i∧Y i h2)∧jI h1 h2 (λk=>S k∨T k∨k=h.next+1)))
  (hR:∀ i h2,Fin i→J i h2→jI h h2 (λk=>S k∨T k)→h.next+2≤h2.next→h2.get h.next=some ⟨.deferred (some []),false⟩→R .normal ⟨tm,h.next :: df,h2⟩) :
  W p none (.range g ps a b) ⟨tm,df,h⟩ R:=by
 let r:Loop:={ state:=.ready,pending:=none,fn:=0,tmps:=tm.arr,params:=ps,assign:=a,body:=b,defers:=h.next }
 let h1:jB:=(h.add ⟨.deferred (some []),false⟩).add ⟨.loop r,false⟩
 have hn1:h1.next=h.next+2:=by simp only[h1,jH]
 have hlo1:h1.lo=h.lo:=by simp only[h1,jS]
 have hent:uN0 none tm ps a b h=some (h.next+1,[h.next],h1):=by
  simp only[uN0,h1,jB.add]
  rw[jB.new_eq,jB.new_eq]
 have hg1:jI h h1 (λ_=>False):=(jI.add h _ _).trans (jI.add _ _ _) λi _ h=>h
 have hL1:bB0 h r h1:=by
  refine ⟨Z0,hlo1,?_,?_⟩
  ·show ((h.add _).add _).get h.next=_
   rw[qN0 _ _ (by rw[jH];omega),jF0 _ _ rfl]
  ·show ((h.add _).add _).get (h.next+1)=_
   rw[jF0 _ _ (by rw[jH])]
 refine W.range hent hgv ?_
 refine (iter h1 (λi h2=>J i h2∧bB0 h r h2) hg1 hn1 ⟨hJ i0 h h1 hJ0 (Z3 _) rfl (hg1.mono λ_ _ h=>h.elim),hL1⟩ ?_ ?_ (λ_ _ h=>h.1) λ_ _ _ h hj=>⟨hj,h.2⟩).mono ?_
 ·-- a round
  intro i j h2 args ⟨hJ2,hL⟩ hn hl2 hargs
  have hlol:h2.lo≤h.next+1:=by rw[hl2];omega
  have hgl:qZ h2 (h.next+1)=some r:=uM0 hL.loop hlol
  refine gR.of hgl (T:=tm) rfl hU (hlen i j h2 args hargs) ?_
  refine WP.mono (R:=λe s1=>e=.normal∧s1=⟨A args,[],h2⟩) (uT0 jW a _ _ ?_) ?_
  ·rw[ha];exact hA i j h2 args hargs
  ·rintro e s1 ⟨rfl,rfl⟩
   simp only[iN0,hgl]
   refine ⟨rfl,?_⟩
   have hgp:jI h2 (qY h2 (h.next+1) { r with state:=.busy }) (λk=>k=h.next+1):=jI.put _ _ _ λ_=>rfl
   have hJ3:=hJ i h2 _ hJ2 Z0 hl2 (hgp.mono λ_ _ h=>.inl h)
   have hIt3:=hIt i j h2 _ args hargs hn hl2 hgp
   have hL3:bB0 h { r with state:=.busy } (qY h2 (h.next+1) { r with state:=.busy }):=
    ⟨hn,hl2,(hgp.get _ Z0 (by simp)).trans hL.mark,jE0 _ _⟩
   refine WP.mono (R:=λe s2=>e=.normal∧J j s2.h∧jI (qY h2 (h.next+1) { r with state:=.busy }) s2.h S) (uT0 jW b _ _ ?_) ?_
   ·rw[hb];exact step i j _ args hJ3 hn hl2 hIt3
   ·rintro e s2 ⟨rfl,hJ4,hg4⟩
    have hL4:=hL3.grew hg4 hST.1 hST.2.1
    have hgl4:qZ s2.h (h.next+1)=some { r with state:=.busy }:=uM0 hL4.loop (by rw[hL4.lo];omega)
    simp only[rX0,hgl4]
    have hgp4:∀ x,jI s2.h (qY s2.h (h.next+1) x) (λk=>k=h.next+1):=λx=>jI.put _ _ _ λ_=>rfl
    have hn4:=hL4.next
    refine ⟨rfl,⟨hJ _ _ _ hJ4 Z0 hL4.lo ((hgp4 _).mono λ_ _ h=>.inl h),hL4.next,hL4.lo,((hgp4 _).get _ Z0 (by simp)).trans hL4.mark,jE0 _ _⟩,?_⟩
    exact (hgp.mono λ_ _ h=>.inr h).trans ((hg4.mono λ_ _ h=>.inl h).trans ((hgp4 _).mono λ_ _ h=>.inr h) λ_ _ h=>h) λ_ _ h=>h
 ·intro i h2 h3 ⟨hJ2,hL⟩ hg
  have:=hL.next
  exact ⟨hJ i h2 h3 hJ2 Z0 hL.lo (hg.mono λ_ _ h=>.inr h),hL.grew hg hST.2.2.1 hST.2.2.2⟩
 ·rintro v h2 ⟨⟨i,hfi,hJ2,hL⟩,hg⟩
  have hn:=hL.next
  have hgl:qZ h2 (h.next+1)=some r:=uM0 hL.loop (by rw[hL.lo];omega)
  simp only[lS0,cH0,hgl]
  have hgp:∀ x,jI h2 (qY h2 (h.next+1) x) (λk=>k=h.next+1):=λx=>jI.put _ _ _ λ_=>rfl
  refine hR i _ hfi (hJ _ _ _ hJ2 Z0 hL.lo ((hgp _).mono λ_ _ h=>.inl h)) ?_ hn ?_
  ·refine (hg1.mono λ_ _ h=>h.elim).trans (hg.trans ((hgp _).mono λ_ _ h=>.inr (.inr h)) λ_ _ h=>h) λi hi h=>?_
   rcases h with h|h|h
   ·exact .inl h
   ·exact .inr h
   ·omega
  ·exact ((hgp _).get _ Z0 (by simp)).trans hL.mark
end
end Go.Ev
namespace Go.Proofs.Ytejgmoenmbjidaa
open Go Go.RowKit Go.Ev
noncomputable section
set_option maxRecDepth 100000
variable (G:Nat) (h:jB)
theorem sI0:∀ (a b:List Nat),a.Nodup→(∀ x∈a,x∈b)→a.length≤b.length
 | [],_,_,_=>Nat.zero_le _
 | x :: a,b,hn,hs=>by
  rw[List.nodup_cons] at hn
  have hx:=hs x (List.mem_cons_self ..)
  have h1:=sI0 a (b.erase x) hn.2 λy hy=>(List.mem_erase_of_ne λe=>hn.1 (by rw[← e];exact hy)).2 (hs y (List.mem_cons_of_mem _ hy))
  have h2:=List.length_erase_of_mem hx
  have h3:=List.length_pos_of_mem hx
  rw[List.length_cons]
  omega
def ItK (l i j:List (Opn×Nat))(_:jB)(args:List Z6):Prop:=∃ x∈l,x.2∉i.map (·.2)∧j=i++[x]∧args=[.int .i64 x.1.key]∧i.length<l.length
structure FinK (l i:List (Opn×Nat)):Prop where
 nd:(i.map (·.2)).Nodup
 sub:∀ x∈i,x∈l
 all:∀ x∈l,x.2∈i.map (·.2)
inductive I54 (h:jB)(bx r c lp:Nat)(l:List (Opn×Nat))(Z:Nat→Prop)(Y:List (Opn×Nat)→jB→Prop):Nat→S→Prop
 | mk (i : List (Opn × Nat)) (h2 : jB) (x2 x3 x4 x6 x7 x8 x9 xA xB xC xD : Z6) : Y i h2 → (i.map (·.2)).Nodup → (∀ x ∈ i, x ∈ l) → jI h h2 (fun k => Z k ∨ k = h.next ∨ k = lp) → h.next + 1 ≤ h2.next →
   h2.get h.next=some (IO' (some r) c (i.map (·.2)) c)→
   I54 h bx r c lp l Z Y (l.length-i.length) ⟨(F14 (.func (.yield lp) #[] #[]) (.pointer (some ⟨bx,0,none⟩)) x2 x3 x4 (.pointer (some ⟨h.next,0,none⟩)) x6 x7 x8 x9 xA xB xC xD),[],h2⟩
theorem fM1 {h:jB}{bx r c lp:Nat}{l:List (Opn×Nat)}{Z:Nat→Prop}(Y:List (Opn×Nat)→jB→Prop)
  (hcb:cells h bx=some ([.map (some r)],52,false)) (hbl:h.lo≤bx) (hbn:bx<h.next)
  (hm:mapOf h r=some (ME (l.map opE),c)) (hr:r<h.next) (e5:∀ x∈l,x.2<c) (e6:(l.map (·.2)).Nodup)
  (hlp:lp<h.next) (hZ:¬ Z h.next∧¬ Z r) (hrl:r≠lp)
  (h0:Y [] h) (hY:∀ i h2 h3,Y i h2→jI h2 h3 (λk=>k=h.next)→Y i h3)
  (hround:∀ i j h2 args,Y i h2→h.next+1≤h2.next→h2.lo=h.lo→ItK l i j h2 args→gR (pp G) lp args h2 (λv h3=>v=.bool true∧Y j h3∧jI h2 h3 (λk=>Z k∨k=lp))) :
  jG (pp G) 54 [.func (.yield lp) #[] #[],.pointer (some ⟨bx,0,none⟩)] h (λ_ h2=>(∃ i,FinK l i∧Y i h2)∧jI h h2 (λk=>Z k∨k=h.next∨k=lp)):=by
 refine jG.fir4 (jW G) rD1 rfl rfl (uM1 ..) λhlo=>?_
 rw[rL0]
 simp(disch:=first|omega|(apply id;simp only[push_cast];first|done|omega))only[push_cast,Nat.reduceAdd,Nat.reduceMul,Nat.reduceSub,Nat.reduceLT,Nat.reduceEqDiff,Nat.reduceLeDiff,Int.reduceToNat,reduceCtorEq,Int.reduceLT,Int.reduceLE,Int.reduceAdd,Int.reduceSub,Int.reduceMul,Int.reduceNeg,Int.reduceEq,hcb,hbl,wS1 hm]
 have ga:Gr h (h.add (IO' (some r) c [] c)):=jI.add _ _ _
 refine W.loop4 (jW G) (I54 h bx r c lp l Z Y) ?_ _ _ (I54.mk [] _ _ _ _ _ _ _ _ _ _ _ _ (hY _ _ _ h0 (jI.mono ga λ_ _ h=>h.elim)) (by simp) (λx hx=>by cases hx) (jI.mono ga λ_ _ h=>h.elim) (by rw[jH];exact Z3 _) (jF0 _ _ rfl))
 intro k s1 hI
 cases hI with|mk i h2 _ _ _ _ _ _ _ _ _ _ _ hY2 hnd hsub hg hn hit=>
 have hl2:=hg.lo
 have hm2:=jI.mapE hg hm hr (λe=>by
  rcases e with e|e|e
  ·exact hZ.2 e
  ·omega
  ·exact hrl e)
 rw[gD0]
 refine fH1 hit (by rw[hl2];exact hlo) hm2 (λx hx=>?_) (λhall=>?_) λx hx hns=>?_
 ·obtain ⟨y,hy,rfl⟩:=List.mem_map.1 hx
  exact e5 y hy
 ·simp(disch:=first|omega|(apply id;simp only[push_cast];first|done|omega))only[push_cast,Nat.reduceAdd,Nat.reduceMul,Nat.reduceSub,Nat.reduceLT,Nat.reduceEqDiff,Nat.reduceLeDiff,Int.reduceToNat,reduceCtorEq,Int.reduceLT,Int.reduceLE,Int.reduceAdd,Int.reduceSub,Int.reduceMul,Int.reduceNeg,Int.reduceEq]
  exact ⟨⟨i,⟨hnd,hsub,λx hx=>hall (opE x) (List.mem_map.2 ⟨x,hx,rfl⟩)⟩,hY2⟩,hg⟩
 ·obtain ⟨y,hy,rfl⟩:=List.mem_map.1 hx
  have hns:y.2∉i.map (·.2):=hns
  have gp:jI h2 (h2.put h.next (IO' (some r) c (i.map (·.2)++[y.2]) c)) (λk=>k=h.next):=(jI.refl h2 _).put'' _ _ λ_=>rfl
  have hm3:=jI.mapE gp hm2 Z0 Z0
  have hen:=iI1 (x:=opE y) (jE0 (h:=h2) h.next (IO' (some r) c (i.map (·.2)++[y.2]) c)) (by rw[qI,hl2];exact hlo) hm3 hx (by rw[List.map_map];exact e6)
  unfold opE at hen ⊢
  dsimp only at hen ⊢
  simp(disch:=first|omega|(apply id;simp only[push_cast];first|done|omega))only[push_cast,Nat.reduceAdd,Nat.reduceMul,Nat.reduceSub,Nat.reduceLT,Nat.reduceEqDiff,Nat.reduceLeDiff,Int.reduceToNat,reduceCtorEq,Int.reduceLT,Int.reduceLE,Int.reduceAdd,Int.reduceSub,Int.reduceMul,Int.reduceNeg,Int.reduceEq,hen,cL0]
  have hnd3:((i++[y]).map (·.2)).Nodup:=by
   rw[List.map_append,List.nodup_append]
   exact ⟨hnd,by simp,λa ha b hb e=>by simp at hb;exact hns (by rw[← hb,← e];exact ha)⟩
  have hsub3:∀ x∈i++[y],x∈l:=λx hx=>(List.mem_append.1 hx).elim (hsub x) λh=>by cases List.mem_singleton.1 h;exact hy
  have hle:=sI0 _ (l.map (·.2)) hnd3 λb hb=>by
   obtain ⟨z,hz,rfl⟩:=List.mem_map.1 hb
   exact List.mem_map.2 ⟨z,hsub3 z hz,rfl⟩
  simp only[List.length_map,List.length_append,List.length_singleton] at hle
  refine gR.mono (hround i (i++[y]) _ _ (hY _ _ _ hY2 gp) (by rw[jN];omega) (by rw[qI];exact hl2) ⟨y,hy,hns,rfl,rfl,Z0⟩) ?_
  rintro v h3 ⟨rfl,hY3,g3⟩
  have hn3:=g3.next
  rw[jN] at hn3
  simp(disch:=first|omega|(apply id;simp only[push_cast];first|done|omega))only[push_cast,Nat.reduceAdd,Nat.reduceMul,Nat.reduceSub,Nat.reduceLT,Nat.reduceEqDiff,Nat.reduceLeDiff,Int.reduceToNat,reduceCtorEq,Int.reduceLT,Int.reduceLE,Int.reduceAdd,Int.reduceSub,Int.reduceMul,Int.reduceNeg,Int.reduceEq]
  refine ⟨_,?_,I54.mk (i++[y]) h3 _ _ _ _ _ _ _ _ _ _ _ hY3 hnd3 hsub3 ((hg.tr' gp λb _ e=>.inr (.inl e)).tr' g3 λb _ e=>e.elim .inl λe=>.inr (.inr e)) Z0 ?_⟩
  ·simp only[List.length_append,List.length_singleton];omega
  ·rw[g3.get _ (by rw[jN];omega) (λe=>e.elim hZ.1 λe=>by omega),jE0,List.map_append]
   rfl
end
end Go.Proofs.Ytejgmoenmbjidaa
namespace Go.Proofs.Ytejgmoenmbjidaa
open Go Go.RowKit Go.Ev
noncomputable section
set_option maxRecDepth 100000
variable (G:Nat) (h:jB)
theorem rowI (h:jB)(k:Int):bsC 1 3 h (wV0 (List.map (λi=>(i,1)) (List.range 1)) (List.replicate 1 [Value.int IntKind.i64 0]).flatten
  (.int .i64 k) [] (List.map (λi=>(i,1)) (List.range 1))[0]?)=some (.slice (some ⟨h.next,0,none⟩) 1 1,h.add (O [.int .i64 k] 3 false)):=Z7
def wA0 (i:List (Opn×Nat)):List Int:=i.map (·.1.key)
structure ColJ (h:jB)(bs lo:Nat)(i:List (Opn×Nat))(h2:jB):Prop where
 cell:∃ a c,cells h2 bs=some ([.slice a i.length c],22,false)∧OwR h2 3 1 a i.length c (ivs (wA0 i))∧∀ b,blk a b→lo≤b
 lo:h2.lo≤bs
 lt:bs<h2.next
theorem ColJ.grew {h:jB}{bs lo:Nat}{i:List (Opn×Nat)}{h2 h3:jB}{S:Nat→Prop}(r:ColJ h bs lo i h2)(g:jI h2 h3 S)(hS:∀ b,lo≤b∨b=bs→¬ S b):ColJ h bs lo i h3:=by
 obtain ⟨⟨a,c,h1,h2,h5⟩,h3,h4⟩:=r
 exact ⟨⟨a,c,g.cellsE h1 h4 (hS bs (.inr rfl)),h2.grew g λb hb=>hS b (.inl (h5 b hb)),h5⟩,by rw[g.lo];exact h3,Nat.lt_of_lt_of_le h4 g.next⟩
structure ColR (h:jB)(l:List (Opn×Nat))(v:Z6)(h2:jB):Prop where
 has:∃ i a c,FinK l i∧v=.slice a i.length c∧OwR h2 3 1 a i.length c (ivs (wA0 i))∧∀ b,blk a b→h.next≤b
 gr:Gr h h2
def KIt (h:jB)(bx:Nat)(l:List (Opn×Nat)):Prop:=∀ (h2:jB) (lp:Nat) (Z:Nat→Prop) (Y:List (Opn×Nat)→jB→Prop),Gr h h2→h.next≤lp→lp<h2.next→(∀ k,Z k→h.next≤k∧k≠h2.next)→Y [] h2→
 (∀ i h3 h4,Y i h3→jI h3 h4 (λk=>k=h2.next)→Y i h4)→
 (∀ i j h3 args,Y i h3→h2.next+1≤h3.next→h3.lo=h2.lo→ItK l i j h3 args→gR (pp G) lp args h3 (λv h4=>v=.bool true∧Y j h4∧jI h3 h4 (λk=>Z k∨k=lp)))→
 jG (pp G) 54 [.func (.yield lp) #[] #[],.pointer (some ⟨bx,0,none⟩)] h2 (λ_ h3=>(∃ i,FinK l i∧Y i h3)∧jI h2 h3 (λk=>Z k∨k=h2.next∨k=lp))
theorem wZ1 {h:jB}{bx r c:Nat}{l:List (Opn×Nat)}(hcb:cells h bx=some ([.map (some r)],52,false))(hbl:h.lo≤bx)(hbn:bx<h.next)
  (hm:mapOf h r=some (ME (l.map opE),c)) (hr:r<h.next) (e5:∀ x∈l,x.2<c) (e6:(l.map (·.2)).Nodup):KIt G h bx l:=λh2 lp Z Y g h1 h3 hZ h0 hY hround=>
 fM1 G Y (g.cellsE hcb hbn λh=>h) (by rw[g.lo];exact hbl) (Nat.lt_of_lt_of_le hbn g.next) (jI.mapE g hm hr λh=>h) (Nat.lt_of_lt_of_le hr g.next) e5 e6 h3 ⟨λh=>(hZ _ h).2 rfl,λh=>by have:=(hZ _ h).1;omega⟩ Z0 h0 hY hround
theorem qI1 {bx:Nat}{l:List (Opn×Nat)}(hk:KIt G h bx l)(hn:l.length<1000000) :
  jG (pp G) 55 [.slice none 0 0,.func (.func 54) #[] #[.pointer (some ⟨bx,0,none⟩)]] h (ColR h l):=by
 refine jG.fir4 (jW G) fir55 rfl rfl (lV1 ..) λhlo=>?_
 rw[dE1]
 simp(disch:=first|omega|(apply id;simp only[push_cast];first|done|omega))only[push_cast,Nat.reduceAdd,Nat.reduceMul,Nat.reduceSub,Nat.reduceLT,Nat.reduceEqDiff,Nat.reduceLeDiff,Int.reduceToNat,reduceCtorEq,Int.reduceLT,Int.reduceLE,Int.reduceAdd,Int.reduceSub,Int.reduceMul,Int.reduceNeg,Int.reduceEq]
 have hn1:(h.add (O [.slice none 0 0] 22 false)).next=h.next+1:=jH _
 have hl1:(h.add (O [.slice none 0 0] 22 false)).lo=h.lo:=jS _
 have hg1:Gr h (h.add (O [.slice none 0 0] 22 false)):=jI.add _ _ _
 have hc1:=jP (h:=h) [.slice none 0 0] 22 false h.next rfl
 generalize h.add (O [.slice none 0 0] 22 false)=h1 at *
 refine W.eachS (jW G) kL1 kK1 (by show 13<U;unfold U;omega) (f:=54) (captured:=[.pointer (some ⟨bx,0,none⟩)]) rfl Z0 [] (FinK l) (ColJ h h.next (h.next+4)) (λk=>k=h.next∨h.next+4≤k) (λk=>k=h.next+3) (λi j h2 args=>ItK l i j h2 args∧h.next+4≤h2.next)
  (λargs=>F13 (.slice none 0 0) (.func (.func 54) #[] #[.pointer (some ⟨bx,0,none⟩)]) (.pointer (some ⟨h.next,0,none⟩)) undef (.slice none 0 0) (args.headD undef) (.func (.func 54) #[] #[.pointer (some ⟨bx,0,none⟩)]) (args.headD undef) undef undef undef undef undef)
  ?hST ?hJ0 ?hJ ?hlen ?hIt ?hA ?step ?iter ?hR
 case hST=>rw[hn1];omega
 case hJ0=>exact ⟨⟨none,0,hc1,OwR.nil _ _ _,λb hb=>by obtain ⟨o,s,e⟩:=hb;cases e⟩,Z0,Z0⟩
 case hJ=>exact λi h2 h3 hJ2 hn2 hl2 hg2=>hJ2.grew hg2 λb hb hx=>by omega
 case hlen=>
  rintro i j h2 args ⟨⟨x,hx,hns,rfl,rfl,hil⟩,_⟩
  rfl
 case hIt=>
  rintro i j h2 h3 args ⟨hq,hn4⟩ hn2 hl2 hg2
  exact ⟨hq,Nat.le_trans hn4 hg2.next⟩
 case hA=>
  rintro i j h2 args ⟨⟨x,hx,hns,rfl,rfl,hil⟩,_⟩
  rw[← uF0]
  show vc3 (pp G) _ tD0 ⟨F13 _ _ _ _ _ _ _ _ _ _ _ _ _,[],h2⟩ _
  rw[rK0]
  simp(disch:=first|omega|(apply id;simp only[push_cast];first|done|omega))only[push_cast,Nat.reduceAdd,Nat.reduceMul,Nat.reduceSub,Nat.reduceLT,Nat.reduceEqDiff,Nat.reduceLeDiff,Int.reduceToNat,reduceCtorEq,Int.reduceLT,Int.reduceLE,Int.reduceAdd,Int.reduceSub,Int.reduceMul,Int.reduceNeg,Int.reduceEq]
  rfl
 case step=>
  rintro i j h2 args ⟨⟨ao,co,hc2,ho,hb⟩,hlo2,hlt2⟩ hn2 hl2 ⟨⟨x,hx,hns,rfl,rfl,hil⟩,hn4⟩
  rw[← uF0,rJ0]
  have g3:Gr h2 (h2.add (O [.int .i64 x.1.key] 3 false)):=jI.add _ _ _
  have hc3:=Gr.cells g3 hc2 hlt2
  have hs3:Sl (h2.add (O [.int .i64 x.1.key] 3 false)) (some ⟨h2.next,0,none⟩) [.int .i64 x.1.key]:=Sl.row (jP _ _ _ _ rfl) (by rw[jS];omega)
  obtain ⟨a5,c5,h5,e5',o5,g5,b5⟩:=bO0 (P:=Try.prog) gY (ho.grew g3 λb _ h=>h) (by rw[jS,jH];omega) (x:=.slice (some ⟨h2.next,0,none⟩) 1 1) rfl (Sl.src hs3 rfl Z1) rfl rfl (by constructor<;>omega)
  have n3:(h2.add (O [.int .i64 x.1.key] 3 false)).next=h2.next+1:=jH _
  have n5:=g5.next
  have l5:h5.lo≤h.next:=by rw[g5.lo,jS];exact hlo2
  have hnb:¬ blk ao h.next:=λhb'=>by have:=hb _ hb';omega
  have hc5:=g5.cellsE hc3 Z0 hnb
  have hst:=kY (h:=h5) 1 0 (.slice a5 (i.length+1) c5) h.next [.slice ao i.length co] 22 false rfl (o5.fone _ _) l5 (by show 0+1≤1;omega)
  have hgp:jI h5 (h5.put h.next (O (jJ [.slice ao i.length co] 0 (Value.slice a5 (i.length+1) c5).cells.toList) 22 false)) (λb=>b=h.next):=(jI.refl h5 _).put'' _ _ λ_=>rfl
  have hcp6:cells (h5.put h.next (O (jJ [.slice ao i.length co] 0 (Value.slice a5 (i.length+1) c5).cells.toList) 22 false)) h.next=some ([.slice a5 (i.length+1) c5],22,false):=by rw[jO];rfl
  have hln6:(h5.put h.next (O (jJ [.slice ao i.length co] 0 (Value.slice a5 (i.length+1) c5).cells.toList) 22 false)).next=h5.next:=by simp only[push_cast]
  have hlo6:(h5.put h.next (O (jJ [.slice ao i.length co] 0 (Value.slice a5 (i.length+1) c5).cells.toList) 22 false)).lo=h5.lo:=by simp only[push_cast]
  generalize h5.put h.next (O (jJ [.slice ao i.length co] 0 (Value.slice a5 (i.length+1) c5).cells.toList) 22 false)=h6 at hst hgp hcp6 hln6 hlo6
  have hb5:∀ b,blk a5 b→h.next+4≤b:=λb hb'=>by
   rcases b5 b hb' with h6|h6
   ·exact hb b h6
   ·omega
  simp(disch:=first|omega|(apply id;simp only[push_cast];first|done|omega))only[push_cast,Nat.reduceAdd,Nat.reduceMul,Nat.reduceSub,Nat.reduceLT,Nat.reduceEqDiff,Nat.reduceLeDiff,Int.reduceToNat,reduceCtorEq,Int.reduceLT,Int.reduceLE,Int.reduceAdd,Int.reduceSub,Int.reduceMul,Int.reduceNeg,Int.reduceEq,hc2,hlo2,List.headD_cons,rowI,hc3,e5',hc5,l5,hst,hcp6]
  refine ⟨⟨⟨a5,c5,?_,?_,hb5⟩,Z0,Z0⟩,((jI.mono g3 (T:=λk=>k=h.next∨h.next+4≤k) λ_ _ h=>h.elim).tr' g5 λb _ hb'=>.inr (hb b hb')).tr' hgp λb _ e=>.inl e⟩
  ·rw[List.length_append];exact hcp6
  ·rw[List.length_append,wA0,List.map_append,sR0]
   exact o5.grew hgp λb hb' e=>by have:=hb5 b hb';omega
 case iter=>
  intro h2 Y hg2 hn2 hY0 hround hstab _ _
  have hn2':h2.next=h.next+3:=Z0
  have hl2:=hg2.lo
  refine (hk h2 (h1.next+1) (λk=>k=h.next∨h.next+4≤k) Y (hg1.tr' hg2 λ_ _ h=>h) Z0 Z0 (λk hk=>by omega) hY0 (λi h3 h4 hy g=>hstab i h3 h4 hy (g.mono λk _ e=>by omega)) λi j h3 args hy hn3 hl3 hit=>?_).mono ?_
  ·exact (hround i j h3 args hy Z0 Z0 ⟨hit,Z0⟩).mono λv h4 hv=>hv
  ·rintro v h3 ⟨hfin,g3⟩
   exact ⟨hfin,g3.mono λk _ e=>by omega⟩
 case hR=>
  rintro i h2 hfi ⟨⟨ao,co,hc2,ho,hb⟩,hlo2,hlt2⟩ hg2 hn2 hd
  have hm:h2.lo≤h1.next:=Z0
  simp(disch:=first|omega|(apply id;simp only[push_cast];first|done|omega))only[push_cast,Nat.reduceAdd,Nat.reduceMul,Nat.reduceSub,Nat.reduceLT,Nat.reduceEqDiff,Nat.reduceLeDiff,Int.reduceToNat,reduceCtorEq,Int.reduceLT,Int.reduceLE,Int.reduceAdd,Int.reduceSub,Int.reduceMul,Int.reduceNeg,Int.reduceEq,hc2,hlo2,zL0 hd hm]
  have hgp:jI h2 (h2.put h1.next ⟨.deferred none,false⟩) (λk=>k=h1.next):=(jI.refl h2 _).put'' _ _ λ_=>rfl
  have hgf:Gr h h2:=hg1.tr' hg2 λi hi ht=>by omega
  exact ⟨⟨i,ao,co,hfi,rfl,ho.grew hgp λb hb' e=>by have:=hb b hb';omega,λb hb'=>by have:=hb b hb';omega⟩,hgf.tr' hgp λi hi e=>by omega⟩
inductive I54z (h:jB)(bx lp:Nat):Nat→S→Prop
 | mk (h2:jB) (x2 x3 x4 x6 x7 x8 x9 xA xB xC xD:Z6):h2.get h.next=some (IO' none 0 [] 0)→h2.lo=h.lo→h2=h.add (IO' none 0 [] 0)→I54z h bx lp 0 ⟨(F14 (.func (.yield lp) #[] #[]) (.pointer (some ⟨bx,0,none⟩)) x2 x3 x4 (.pointer (some ⟨h.next,0,none⟩)) x6 x7 x8 x9 xA xB xC xD),[],h2⟩
theorem zA1 {h:jB}{bx:Nat}(hcb:cells h bx=some ([.map none],52,false))(hbl:h.lo≤bx)(hbn:bx<h.next):KIt G h bx []:=λh2 lp Z Y g h1 h3 hZ h0 hY hround=>by
 refine jG.fir4 (jW G) rD1 rfl rfl (uM1 ..) λhlo=>?_
 rw[rL0]
 have hc:=g.cellsE hcb hbn λh=>h
 have hl:h2.lo≤bx:=by rw[g.lo];exact hbl
 simp(disch:=first|omega|(apply id;simp only[push_cast];first|done|omega))only[push_cast,Nat.reduceAdd,Nat.reduceMul,Nat.reduceSub,Nat.reduceLT,Nat.reduceEqDiff,Nat.reduceLeDiff,Int.reduceToNat,reduceCtorEq,Int.reduceLT,Int.reduceLE,Int.reduceAdd,Int.reduceSub,Int.reduceMul,Int.reduceNeg,Int.reduceEq,hc,hl,eX1]
 refine W.loop4 (jW G) (I54z h2 bx lp) ?_ 0 _ (I54z.mk _ _ _ _ _ _ _ _ _ _ _ _ (jF0 _ _ rfl) (jS _) rfl)
 intro m s1 hI
 cases hI with|mk h5 _ _ _ _ _ _ _ _ _ _ _ hg5 hl5 e5=>
 rw[gD0,wU1 hg5 (by rw[hl5];exact hlo)]
 simp(disch:=first|omega|(apply id;simp only[push_cast];first|done|omega))only[push_cast,Nat.reduceAdd,Nat.reduceMul,Nat.reduceSub,Nat.reduceLT,Nat.reduceEqDiff,Nat.reduceLeDiff,Int.reduceToNat,reduceCtorEq,Int.reduceLT,Int.reduceLE,Int.reduceAdd,Int.reduceSub,Int.reduceMul,Int.reduceNeg,Int.reduceEq]
 have ga:Gr h2 h5:=by rw[e5];exact jI.add _ _ _
 exact ⟨⟨[],⟨by simp,λx hx=>(by cases hx),λx hx=>(by cases hx)⟩,hY _ _ _ h0 (jI.mono ga λ_ _ h=>h.elim)⟩,jI.mono ga λ_ _ h=>h.elim⟩
end
end Go.Proofs.Ytejgmoenmbjidaa
namespace Go.Proofs.Ytejgmoenmbjidaa
open Go Go.RowKit Go.Ev
noncomputable section
set_option maxRecDepth 100000
variable (G:Nat) (h:jB)
theorem nan_w (x:Int):jG (pp G) 74 [.int .i64 x] h (λv h'=>v=.bool false∧h'=h):=by
 refine jG.fir4 (jW G) fir74 rfl rfl (bX1 ..) λhlo=>?_
 rw[dA1]
 simp(disch:=first|omega|(apply id;simp only[push_cast];first|done|omega))only[push_cast,Nat.reduceAdd,Nat.reduceMul,Nat.reduceSub,Nat.reduceLT,Nat.reduceEqDiff,Nat.reduceLeDiff,Int.reduceToNat,reduceCtorEq,Int.reduceLT,Int.reduceLE,Int.reduceAdd,Int.reduceSub,Int.reduceMul,Int.reduceNeg,Int.reduceEq]
theorem oQ1 (x y:Int):jG (pp G) 64 [.int .i64 x,.int .i64 y] h (λv h'=>v=.bool (decide (x<y))∧h'=h):=by
 refine jG.fir4 (jW G) fir64 rfl rfl (lS1 ..) λhlo=>?_
 rw[dC1]
 simp(disch:=first|omega|(apply id;simp only[push_cast];first|done|omega))only[push_cast,Nat.reduceAdd,Nat.reduceMul,Nat.reduceSub,Nat.reduceLT,Nat.reduceEqDiff,Nat.reduceLeDiff,Int.reduceToNat,reduceCtorEq,Int.reduceLT,Int.reduceLE,Int.reduceAdd,Int.reduceSub,Int.reduceMul,Int.reduceNeg,Int.reduceEq]
 refine jG.to (nan_w G _ x) ?_
 rintro _ _ ⟨rfl,e⟩
 rw[e]
 simp(disch:=first|omega|(apply id;simp only[push_cast];first|done|omega))only[push_cast,Nat.reduceAdd,Nat.reduceMul,Nat.reduceSub,Nat.reduceLT,Nat.reduceEqDiff,Nat.reduceLeDiff,Int.reduceToNat,reduceCtorEq,Int.reduceLT,Int.reduceLE,Int.reduceAdd,Int.reduceSub,Int.reduceMul,Int.reduceNeg,Int.reduceEq]
theorem fK1 (n:Nat)(hn:n≤12):jG (pp G) 68 [.int .u64 n] h (λv h'=>(∃ k:Int,v=.int .i64 k)∧h'=h):=by
 refine jG.fir4 (jW G) fir68 rfl rfl (uK1 ..) λhlo=>?_
 rw[dB1]
 have h1:¬ (4294967296:Int)≤n:=Z0
 have h2:¬ (65536:Int)≤n:=Z0
 have h3:¬ (256:Int)≤n:=Z0
 have h4:IntKind.u8.wrap (n:Int)=n:=by
  rcases (by omega:n=0∨n=1∨n=2∨n=3∨n=4∨n=5∨n=6∨n=7∨n=8∨n=9∨n=10∨n=11∨n=12) with rfl|rfl|rfl|rfl|rfl|rfl|rfl|rfl|rfl|rfl|rfl|rfl|rfl<;>rfl
 have h5:ixV (ixT Try.prog 9) (.string (Tx [0,1,2,2,3,3,3,3,4,4,4,4,4,4,4,4,5,5,5,5,5,5,5,5,5,5,5,5,5,5,5,5,6,6,6,6,6,6,6,6,6,6,6,6,6,6,6,6,6,6,6,6,6,6,6,6,6,6,6,6,6,6,6,6,7,7,7,7,7,7,7,7,7,7,7,7,7,7,7,7,7,7,7,7,7,7,7,7,7,7,7,7,7,7,7,7,7,7,7,7,7,7,7,7,7,7,7,7,7,7,7,7,7,7,7,7,7,7,7,7,7,7,7,7,7,7,7,7,8,8,8,8,8,8,8,8,8,8,8,8,8,8,8,8,8,8,8,8,8,8,8,8,8,8,8,8,8,8,8,8,8,8,8,8,8,8,8,8,8,8,8,8,8,8,8,8,8,8,8,8,8,8,8,8,8,8,8,8,8,8,8,8,8,8,8,8,8,8,8,8,8,8,8,8,8,8,8,8,8,8,8,8,8,8,8,8,8,8,8,8,8,8,8,8,8,8,8,8,8,8,8,8,8,8,8,8,8,8,8,8,8,8,8,8,8,8,8,8,8,8,8,8,8,8,8,8])) (.int .u8 n)=some (.int .u8 (bt [0,1,2,2,3,3,3,3,4,4,4,4,4,4,4,4,5,5,5,5,5,5,5,5,5,5,5,5,5,5,5,5,6,6,6,6,6,6,6,6,6,6,6,6,6,6,6,6,6,6,6,6,6,6,6,6,6,6,6,6,6,6,6,6,7,7,7,7,7,7,7,7,7,7,7,7,7,7,7,7,7,7,7,7,7,7,7,7,7,7,7,7,7,7,7,7,7,7,7,7,7,7,7,7,7,7,7,7,7,7,7,7,7,7,7,7,7,7,7,7,7,7,7,7,7,7,7,7,8,8,8,8,8,8,8,8,8,8,8,8,8,8,8,8,8,8,8,8,8,8,8,8,8,8,8,8,8,8,8,8,8,8,8,8,8,8,8,8,8,8,8,8,8,8,8,8,8,8,8,8,8,8,8,8,8,8,8,8,8,8,8,8,8,8,8,8,8,8,8,8,8,8,8,8,8,8,8,8,8,8,8,8,8,8,8,8,8,8,8,8,8,8,8,8,8,8,8,8,8,8,8,8,8,8,8,8,8,8,8,8,8,8,8,8,8,8,8,8,8,8,8,8,8,8,8,8] (n:Int).toNat)):=by
  rw[uF1]
  exact oX1 _ _ _ Z0 (by show (n:Int)<(256:Nat);omega)
 simp(disch:=first|omega|(apply id;simp only[push_cast];first|done|omega))only[push_cast,Nat.reduceAdd,Nat.reduceMul,Nat.reduceSub,Nat.reduceLT,Nat.reduceEqDiff,Nat.reduceLeDiff,Int.reduceToNat,reduceCtorEq,Int.reduceLT,Int.reduceLE,Int.reduceAdd,Int.reduceSub,Int.reduceMul,Int.reduceNeg,Int.reduceEq,h1,h2,h3,h4,eH0 zP0,eH0 bA0,h5]
 exact ⟨_,rfl⟩
theorem oR1 (n:Nat)(hn:n≤12):jG (pp G) 57 [.int .u64 n] h (λv h'=>(∃ k:Int,v=.int .i64 k)∧h'=h):=by
 refine jG.fir4 (jW G) fir57 rfl rfl (yW0 ..) λhlo=>?_
 rw[dD1]
 simp(disch:=first|omega|(apply id;simp only[push_cast];first|done|omega))only[push_cast,Nat.reduceAdd,Nat.reduceMul,Nat.reduceSub,Nat.reduceLT,Nat.reduceEqDiff,Nat.reduceLeDiff,Int.reduceToNat,reduceCtorEq,Int.reduceLT,Int.reduceLE,Int.reduceAdd,Int.reduceSub,Int.reduceMul,Int.reduceNeg,Int.reduceEq]
 refine jG.to (fK1 G _ n hn) ?_
 rintro _ _ ⟨⟨k,rfl⟩,e⟩
 rw[e]
 simp(disch:=first|omega|(apply id;simp only[push_cast];first|done|omega))only[push_cast,Nat.reduceAdd,Nat.reduceMul,Nat.reduceSub,Nat.reduceLT,Nat.reduceEqDiff,Nat.reduceLeDiff,Int.reduceToNat,reduceCtorEq,Int.reduceLT,Int.reduceLE,Int.reduceAdd,Int.reduceSub,Int.reduceMul,Int.reduceNeg,Int.reduceEq]
 exact ⟨k,rfl⟩
end
end Go.Proofs.Ytejgmoenmbjidaa
namespace Go.Proofs.Ytejgmoenmbjidaa
open Go Go.RowKit Go.Ev
noncomputable section
set_option maxRecDepth 100000
variable (G:Nat) (h:jB)
structure RowI (h:jB)(b:Nat)(rest:List Z6)(xs:List Int):Prop where
 c:cells h b=some (ivs xs++rest,3,true)
 lo:h.lo≤b
theorem bC1 {xs:List Int}{rest:List Z6}{j:Nat}{v:Int}(hj:j<xs.length):jJ (ivs xs++rest) j [.int .i64 v]=ivs (xs.set j v)++rest:=by
 induction xs generalizing j with
 | nil=>simp at hj
 | cons x xs ih=>
  cases j with
  | zero=>simp[jJ,ivs]
  | succ j=>
   have:=ih (j:=j) (by simpa using hj)
   simp only[jJ,ivs,List.map_cons,List.cons_append,List.set_cons_succ,List.take_succ_cons,List.length_singleton] at this ⊢
   rw[show j+1+1=(j+1)+1 from rfl,List.drop_succ_cons]
   simpa using this
inductive I58b (h:jB)(b n i:Nat)(rest:List Z6)(P:Nat→List Int→Prop):Nat→S→Prop
 | mk (j : Nat) (iv jv : Int) (xs : List Int) (h2 : jB) (x3 x4 x5 x8 x9 xA xB xC xD xE xF xG xH xI xJ xK xL xM xN xO xP xQ xR xS xT xU xV xW xX xY xZ yA yB yC yD yE yF yG yH yI yJ yK yL yM : Z6) : iv = (i : Int) → jv = (j : Int) → xs.length = n → j ≤ i → P j xs → RowI h2 b rest xs → jI h h2 (fun k => k = b) →
   I58b h b n i rest P j ⟨(F49 (.slice (some ⟨b,0,none⟩) n UC) (.int .i64 0) (.int .i64 n) x3 x4 x5 (.int .i64 iv) (.int .i64 jv) x8 x9 xA xB xC xD xE xF xG xH xI xJ xK xL xM xN xO xP xQ xR xS xT xU xV xW xX xY xZ yA yB yC yD yE yF yG yH yI yJ yK yL yM),[],h2⟩
theorem fO1 {b n i:Nat}{rest:List Z6}(hi:i<n)(hn:n≤12)(P:Nat→List Int→Prop)(Q:List Int→Prop)
  (hst:∀ j xs,P (j+1) xs→xs.length=n→j+1≤i→xs.getD (j+1) 0<xs.getD j 0→P j ((xs.set (j+1) (xs.getD j 0)).set j (xs.getD (j+1) 0)))
  (h0:∀ xs,P 0 xs→Q xs) (hq:∀ j xs,P (j+1) xs→¬ xs.getD (j+1) 0<xs.getD j 0→Q xs) (R:jL→S→Prop)
  (hR:∀ xs h2 (x3 x4 x5 x7 x8 x9 xA xB xC xD xE xF xG xH xI xJ xK xL xM xN xO xP xQ xR xS xT xU xV xW xX xY xZ yA yB yC yD yE yF yG yH yI yJ yK yL yM:Z6),xs.length=n→Q xs→RowI h2 b rest xs→jI h h2 (λk=>k=b)→R (.exit 2) ⟨(F49 (.slice (some ⟨b,0,none⟩) n UC) (.int .i64 0) (.int .i64 n) x3 x4 x5 (.int .i64 i) x7 x8 x9 xA xB xC xD xE xF xG xH xI xJ xK xL xM xN xO xP xQ xR xS xT xU xV xW xX xY xZ yA yB yC yD yE yF yG yH yI yJ yK yL yM),[],h2⟩) :
  ∀ k s,I58b h b n i rest P k s→W (pp G) none (.loop fQ0) s R:=by
 refine W.loop4 (jW G) _ λj s1 hI=>?_
 cases hI with|mk iv jv xs h2 _ _ _ _ _ _ _ _ _ _ _ _ _ _ _ _ _ _ _ _ _ _ _ _ _ _ _ _ _ _ _ _ _ _ _ _ _ _ _ _ _ _ _ _ hiv hjv hxl hji hP hrow hg=>
 subst hiv hjv
 obtain ⟨hc,hl⟩:=hrow
 rw[nA0]
 cases j with
 | zero=>
  simp(disch:=first|omega|(apply id;simp only[push_cast];first|done|omega))only[push_cast,Nat.reduceAdd,Nat.reduceMul,Nat.reduceSub,Nat.reduceLT,Nat.reduceEqDiff,Nat.reduceLeDiff,Int.reduceToNat,reduceCtorEq,Int.reduceLT,Int.reduceLE,Int.reduceAdd,Int.reduceSub,Int.reduceMul,Int.reduceNeg,Int.reduceEq]
  exact hR _ _ _ _ _ _ _ _ _ _ _ _ _ _ _ _ _ _ _ _ _ _ _ _ _ _ _ _ _ _ _ _ _ _ _ _ _ _ _ _ _ _ _ _ _ _ _ hxl (h0 _ hP) ⟨hc,hl⟩ hg
 | succ j=>
  have hj:(0:Int)<(j:Int)+1:=Z0
  have hj0:(0:Int)≤(j:Int)+1:=Z0
  have hjn:(j:Int)+1<(n:Int):=Z0
  have ht:((j:Int)+1).toNat=j+1:=Z0
  have hw:IntKind.i64.wrap ((j:Int)+1-1)=(j:Int):=by rw[wrap_i64 Z0 Z0];omega
  have hjn2:(j:Int)<(n:Int):=Z0
  have g1:(ivs xs++rest)[j+1]?=some (.int .i64 (xs.getD (j+1) 0)):=by rw[List.getElem?_append_left (by rw[qM0];omega)];exact bW0 Z0
  have g0:(ivs xs++rest)[j]?=some (.int .i64 (xs.getD j 0)):=by rw[List.getElem?_append_left (by rw[qM0];omega)];exact bW0 Z0
  simp(disch:=first|omega|(apply id;simp only[push_cast];first|done|omega))only[push_cast,Nat.reduceAdd,Nat.reduceMul,Nat.reduceSub,Nat.reduceLT,Nat.reduceEqDiff,Nat.reduceLeDiff,Int.reduceToNat,reduceCtorEq,Int.reduceLT,Int.reduceLE,Int.reduceAdd,Int.reduceSub,Int.reduceMul,Int.reduceNeg,Int.reduceEq,hc,hl,hj,hj0,hjn,ht,hw,hjn2,g1,g0,Z4]
  refine jG.to (oQ1 G _ _ _) ?_
  rintro _ _ ⟨rfl,e⟩
  rw[e]
  clear e
  by_cases hlt:xs.getD (j+1) 0<xs.getD j 0
  ·have s1:=kY (h:=h2) 1 (j+1) (.int .i64 (xs.getD j 0)) b (ivs xs++rest) 3 true rfl rfl hl (by rw[List.length_append,qM0];omega)
   rw[show (Value.int IntKind.i64 (xs.getD j 0)).cells.toList=[.int .i64 (xs.getD j 0)] from rfl,bC1 Z0] at s1
   have hc2:=jO (h:=h2) b (ivs (xs.set (j+1) (xs.getD j 0))++rest) 3 true
   have l2:(h2.put b (O (ivs (xs.set (j+1) (xs.getD j 0))++rest) 3 true)).lo=h2.lo:=qI _ _
   have s2:=kY (h:=h2.put b (O (ivs (xs.set (j+1) (xs.getD j 0))++rest) 3 true)) 1 j (.int .i64 (xs.getD (j+1) 0)) b (ivs (xs.set (j+1) (xs.getD j 0))++rest) 3 true rfl rfl (by rw[l2];exact hl) (by rw[List.length_append,qM0,List.length_set];omega)
   rw[show (Value.int IntKind.i64 (xs.getD (j+1) 0)).cells.toList=[.int .i64 (xs.getD (j+1) 0)] from rfl,bC1 (by rw[List.length_set];omega)] at s2
   simp(disch:=first|omega|(apply id;simp only[push_cast];first|done|omega))only[push_cast,Nat.reduceAdd,Nat.reduceMul,Nat.reduceSub,Nat.reduceLT,Nat.reduceEqDiff,Nat.reduceLeDiff,Int.reduceToNat,reduceCtorEq,Int.reduceLT,Int.reduceLE,Int.reduceAdd,Int.reduceSub,Int.reduceMul,Int.reduceNeg,Int.reduceEq,hc,hl,hj,hj0,hjn,ht,hw,hjn2,g1,g0,Z4,hlt,s1,hc2,s2]
   exact ⟨j,Nat.lt_succ_self _,I58b.mk j _ _ _ _ _ _ _ _ _ _ _ _ _ _ _ _ _ _ _ _ _ _ _ _ _ _ _ _ _ _ _ _ _ _ _ _ _ _ _ _ _ _ _ _ _ _ _ _ rfl rfl (by rw[List.length_set,List.length_set];exact hxl) Z0 (hst j xs hP hxl hji hlt) ⟨jO _ _ _ _,by rw[qI,qI];exact hl⟩ ((hg.put'' _ _ λ_=>rfl).put'' _ _ λ_=>rfl)⟩
  ·simp(disch:=first|omega|(apply id;simp only[push_cast];first|done|omega))only[push_cast,Nat.reduceAdd,Nat.reduceMul,Nat.reduceSub,Nat.reduceLT,Nat.reduceEqDiff,Nat.reduceLeDiff,Int.reduceToNat,reduceCtorEq,Int.reduceLT,Int.reduceLE,Int.reduceAdd,Int.reduceSub,Int.reduceMul,Int.reduceNeg,Int.reduceEq,hlt]
   exact hR _ _ _ _ _ _ _ _ _ _ _ _ _ _ _ _ _ _ _ _ _ _ _ _ _ _ _ _ _ _ _ _ _ _ _ _ _ _ _ _ _ _ _ _ _ _ _ hxl (hq j xs hP hlt) ⟨hc,hl⟩ hg
end
end Go.Proofs.Ytejgmoenmbjidaa
namespace Go.Proofs.Ytejgmoenmbjidaa
open Go Go.RowKit Go.Ev
noncomputable section
set_option maxRecDepth 100000
variable (G:Nat) (h:jB)
structure SrtP (xs0:List Int)(i:Nat)(j:Nat)(xs:List Int):Prop where
 pm:xs.Perm xs0
 le:∀ p q,p<q→q≤i→q≠j→xs.getD p 0≤xs.getD q 0
structure SrtQ (xs0:List Int)(i:Nat)(xs:List Int):Prop where
 pm:xs.Perm xs0
 le:∀ p q,p<q→q≤i→xs.getD p 0≤xs.getD q 0
theorem SrtP.zero {xs0 xs:List Int}{i:Nat}(p:SrtP xs0 i 0 xs):SrtQ xs0 i xs:=⟨p.pm,λa b h1 h2=>p.le a b h1 h2 Z0⟩
theorem SrtP.stop {xs0 xs:List Int}{i j:Nat}(p:SrtP xs0 i (j+1) xs)(hn:¬ xs.getD (j+1) 0<xs.getD j 0):SrtQ xs0 i xs:=⟨p.pm,λa b h1 h2=>by
 by_cases e:b=j+1
 ·subst e
  by_cases e2:a=j
  ·subst e2;omega
  ·have:=p.le a j Z0 Z0 Z0
   omega
 ·exact p.le a b h1 h2 e⟩
theorem lX0 (xs:List Int)(i j:Nat)(v:Int)(hi:i<xs.length):(xs.set i v).getD j 0=if i=j then v else xs.getD j 0:=by
 rw[List.getD_eq_getElem?_getD,List.getD_eq_getElem?_getD,List.getElem?_set]
 by_cases e:i=j
 ·rw[if_pos e,if_pos e,if_pos hi];rfl
 ·rw[if_neg e,if_neg e]
theorem SrtP.swap {xs0 xs:List Int}{i j n:Nat}(p:SrtP xs0 i (j+1) xs)(hl:xs.length=n)(hin:i<n)(hji:j+1≤i)(hlt:xs.getD (j+1) 0<xs.getD j 0):SrtP xs0 i j ((xs.set (j+1) (xs.getD j 0)).set j (xs.getD (j+1) 0)):=by
 refine ⟨?_,λa b h1 h2 h3=>?_⟩
 ·have e1:xs.getD j 0=xs[j]'Z0:=by rw[List.getD_eq_getElem?_getD,List.getElem?_eq_getElem Z0];rfl
  have e2:xs.getD (j+1) 0=xs[j+1]'Z0:=by rw[List.getD_eq_getElem?_getD,List.getElem?_eq_getElem Z0];rfl
  rw[e1,e2]
  exact (List.set_set_perm Z0 Z0).trans p.pm
 ·have q1:=p.le a b h1 h2
  have q2:=p.le a j
  have q3:=p.le (j+1) b
  have q4:=p.le j b
  have hg:∀ c,((xs.set (j+1) (xs.getD j 0)).set j (xs.getD (j+1) 0)).getD c 0=if j=c then xs.getD (j+1) 0 else if j+1=c then xs.getD j 0 else xs.getD c 0:=λc=>by
   rw[lX0 (xs.set (j+1) (xs.getD j 0)) j c _ (by rw[List.length_set];omega),lX0 xs (j+1) c _ Z0]
  rw[hg a,hg b]
  by_cases ea:j=a
  ·subst ea
   rw[if_pos rfl,if_neg Z0]
   by_cases eb:j+1=b
   ·rw[if_pos eb];omega
   ·rw[if_neg eb];exact q3 Z0 h2 Z0
  ·rw[if_neg ea,if_neg (show ¬ j=b by omega)]
   by_cases ea1:j+1=a
   ·rw[if_pos ea1,if_neg (show ¬ j+1=b by omega)];exact q4 Z0 h2 Z0
   ·rw[if_neg ea1]
    by_cases eb:j+1=b
    ·rw[if_pos eb];exact q2 Z0 Z0 Z0
    ·rw[if_neg eb];exact q1 Z0
inductive I58a (h:jB)(b n:Nat)(rest:List Z6)(xs0:List Int):Nat→S→Prop
 | mk (i : Nat) (iv : Int) (xs : List Int) (h2 : jB) (x3 x4 x5 x7 x8 x9 xA xB xC xD xE xF xG xH xI xJ xK xL xM xN xO xP xQ xR xS xT xU xV xW xX xY xZ yA yB yC yD yE yF yG yH yI yJ yK yL yM : Z6) : iv = (i : Int) → 1 ≤ i → xs.length = n → SrtQ xs0 (i - 1) xs → RowI h2 b rest xs → jI h h2 (fun k => k = b) →
   I58a h b n rest xs0 (n-i) ⟨(F49 (.slice (some ⟨b,0,none⟩) n UC) (.int .i64 0) (.int .i64 n) x3 x4 x5 (.int .i64 iv) x7 x8 x9 xA xB xC xD xE xF xG xH xI xJ xK xL xM xN xO xP xQ xR xS xT xU xV xW xX xY xZ yA yB yC yD yE yF yG yH yI yJ yK yL yM),[],h2⟩
theorem zE1 {b n:Nat}{rest:List Z6}{xs:List Int}(hxl:xs.length=n)(hn:n≤12)(hr:RowI h b rest xs) :
  jG (pp G) 58 [.slice (some ⟨b,0,none⟩) n UC,.int .i64 0,.int .i64 n] h (λv h'=>v=.tuple #[]∧∃ ys,SrtQ xs (n-1) ys∧RowI h' b rest ys∧jI h h' (λk=>k=b)):=by
 refine jG.fir4 (jW G) rB1 rfl rfl (uI1 ..) λhlo=>?_
 rw[rH0]
 simp(disch:=first|omega|(apply id;simp only[push_cast];first|done|omega))only[push_cast,Nat.reduceAdd,Nat.reduceMul,Nat.reduceSub,Nat.reduceLT,Nat.reduceEqDiff,Nat.reduceLeDiff,Int.reduceToNat,reduceCtorEq,Int.reduceLT,Int.reduceLE,Int.reduceAdd,Int.reduceSub,Int.reduceMul,Int.reduceNeg,Int.reduceEq]
 refine W.loop4 (jW G) (I58a h b n rest xs) ?_ _ _ (I58a.mk 1 _ xs h _ _ _ _ _ _ _ _ _ _ _ _ _ _ _ _ _ _ _ _ _ _ _ _ _ _ _ _ _ _ _ _ _ _ _ _ _ _ _ _ _ _ _ _ _ rfl (Z3 _) hxl ⟨List.Perm.refl _,λp q h1 h2=>by omega⟩ hr (jI.refl _ _))
 intro k s1 hI
 cases hI with|mk i iv ys h2 _ _ _ _ _ _ _ _ _ _ _ _ _ _ _ _ _ _ _ _ _ _ _ _ _ _ _ _ _ _ _ _ _ _ _ _ _ _ _ _ _ _ _ _ _ hiv hi1 hyl hq hrow hg=>
 subst hiv
 rw[gB0]
 by_cases hlt:(i:Int)<n
 ·simp(disch:=first|omega|(apply id;simp only[push_cast];first|done|omega))only[push_cast,Nat.reduceAdd,Nat.reduceMul,Nat.reduceSub,Nat.reduceLT,Nat.reduceEqDiff,Nat.reduceLeDiff,Int.reduceToNat,reduceCtorEq,Int.reduceLT,Int.reduceLE,Int.reduceAdd,Int.reduceSub,Int.reduceMul,Int.reduceNeg,Int.reduceEq,hlt]
  refine fO1 G h2 (i:=i) Z0 hn (SrtP xs i) (SrtQ xs i) (λj zs p hl hj=>p.swap hl Z0 hj) (λzs p=>p.zero) (λj zs p=>p.stop) _ ?_ _ _ (I58b.mk i _ _ ys h2 _ _ _ _ _ _ _ _ _ _ _ _ _ _ _ _ _ _ _ _ _ _ _ _ _ _ _ _ _ _ _ _ _ _ _ _ _ _ _ _ _ _ _ _ rfl rfl hyl (Z3 _) ⟨hq.pm,λp q h1 h2 h3=>hq.le p q h1 Z0⟩ hrow (jI.refl _ _))
  intro zs h3 x3 x4 x5 x7 x8 x9 xA xB xC xD xE xF xG xH xI xJ xK xL xM xN xO xP xQ xR xS xT xU xV xW xX xY xZ yA yB yC yD yE yF yG yH yI yJ yK yL yM hzl hQ hrow3 hg3
  simp(disch:=first|omega|(apply id;simp only[push_cast];first|done|omega))only[push_cast,Nat.reduceAdd,Nat.reduceMul,Nat.reduceSub,Nat.reduceLT,Nat.reduceEqDiff,Nat.reduceLeDiff,Int.reduceToNat,reduceCtorEq,Int.reduceLT,Int.reduceLE,Int.reduceAdd,Int.reduceSub,Int.reduceMul,Int.reduceNeg,Int.reduceEq]
  exact ⟨n-(i+1),Z0,I58a.mk (i+1) _ zs h3 _ _ _ _ _ _ _ _ _ _ _ _ _ _ _ _ _ _ _ _ _ _ _ _ _ _ _ _ _ _ _ _ _ _ _ _ _ _ _ _ _ _ _ _ _ Z0 Z0 hzl ⟨hQ.pm,λp q h1 h2=>hQ.le p q h1 Z0⟩ hrow3 (hg.tr' hg3 λ_ _ h=>h)⟩
 ·simp(disch:=first|omega|(apply id;simp only[push_cast];first|done|omega))only[push_cast,Nat.reduceAdd,Nat.reduceMul,Nat.reduceSub,Nat.reduceLT,Nat.reduceEqDiff,Nat.reduceLeDiff,Int.reduceToNat,reduceCtorEq,Int.reduceLT,Int.reduceLE,Int.reduceAdd,Int.reduceSub,Int.reduceMul,Int.reduceNeg,Int.reduceEq,hlt]
  exact ⟨ys,⟨hq.pm,λp q h1 h2=>hq.le p q h1 Z0⟩,hrow,hg⟩
inductive I56 (h:jB)(b n:Nat)(k:Int):Nat→S→Prop
 | mk (x4 x5 x6 x7 x8 x9 xA xB xC xD xE xF xG xH xI xJ xK xL xM xN xO xP xQ xR xS xT xU xV xW xX xY xZ yA yB yC yD yE yF yG yH yI yJ yK yL yM yN yO yP yQ yR yS yT yU yV yW yX yY yZ zA zB zC zD zE zF zG zH zI zJ zK zL zM zN zO zP zQ zR zS zT zU zV zW zX zY zZ wA wB wC wD wE wF wG wH wI wJ wK wL wM wN wO wP wQ wR wS wT wU wV wW wX wY wZ uA uB uC uD uE uF uG uH uI uJ uK uL uM uN uO uP uQ uR uS uT:Z6):I56 h b n k 0 ⟨(F134 (.slice (some ⟨b,0,none⟩) n UC) (.int .i64 0) (.int .i64 n) (.int .i64 k) x4 x5 x6 x7 x8 x9 xA xB xC xD xE xF xG xH xI xJ xK xL xM xN xO xP xQ xR xS xT xU xV xW xX xY xZ yA yB yC yD yE yF yG yH yI yJ yK yL yM yN yO yP yQ yR yS yT yU yV yW yX yY yZ zA zB zC zD zE zF zG zH zI zJ zK zL zM zN zO zP zQ zR zS zT zU zV zW zX zY zZ wA wB wC wD wE wF wG wH wI wJ wK wL wM wN wO wP wQ wR wS wT wU wV wW wX wY wZ uA uB uC uD uE uF uG uH uI uJ uK uL uM uN uO uP uQ uR uS uT),[],h⟩
theorem pdq_w {b n:Nat}{rest:List Z6}{xs:List Int}(hxl:xs.length=n)(hn:n≤12)(hr:RowI h b rest xs)(k:Int) :
  jG (pp G) 56 [.slice (some ⟨b,0,none⟩) n UC,.int .i64 0,.int .i64 n,.int .i64 k] h (λv h'=>v=.tuple #[]∧∃ ys,SrtQ xs (n-1) ys∧RowI h' b rest ys∧jI h h' (λk=>k=b)):=by
 refine jG.fir4 (jW G) rC1 rfl rfl (mQ0 ..) λhlo=>?_
 rw[rI0]
 simp(disch:=first|omega|(apply id;simp only[push_cast];first|done|omega))only[push_cast,Nat.reduceAdd,Nat.reduceMul,Nat.reduceSub,Nat.reduceLT,Nat.reduceEqDiff,Nat.reduceLeDiff,Int.reduceToNat,reduceCtorEq,Int.reduceLT,Int.reduceLE,Int.reduceAdd,Int.reduceSub,Int.reduceMul,Int.reduceNeg,Int.reduceEq]
 refine W.loop4 (jW G) (I56 h b n k) ?_ 0 _ (I56.mk _ _ _ _ _ _ _ _ _ _ _ _ _ _ _ _ _ _ _ _ _ _ _ _ _ _ _ _ _ _ _ _ _ _ _ _ _ _ _ _ _ _ _ _ _ _ _ _ _ _ _ _ _ _ _ _ _ _ _ _ _ _ _ _ _ _ _ _ _ _ _ _ _ _ _ _ _ _ _ _ _ _ _ _ _ _ _ _ _ _ _ _ _ _ _ _ _ _ _ _ _ _ _ _ _ _ _ _ _ _ _ _ _ _ _ _ _ _ _ _ _ _ _ _ _ _ _ _ _ _)
 intro m s1 hI
 cases hI with|mk _ _ _ _ _ _ _ _ _ _ _ _ _ _ _ _ _ _ _ _ _ _ _ _ _ _ _ _ _ _ _ _ _ _ _ _ _ _ _ _ _ _ _ _ _ _ _ _ _ _ _ _ _ _ _ _ _ _ _ _ _ _ _ _ _ _ _ _ _ _ _ _ _ _ _ _ _ _ _ _ _ _ _ _ _ _ _ _ _ _ _ _ _ _ _ _ _ _ _ _ _ _ _ _ _ _ _ _ _ _ _ _ _ _ _ _ _ _ _ _ _ _ _ _ _ _ _ _ _ _=>
 rw[gC0]
 have hw:IntKind.i64.wrap ((n:Int)-0)=n:=by rw[wrap_i64 Z0 Z0];omega
 have hw2:IntKind.i64.wrap (n:Int)=n:=wrap_i64 Z0 Z0
 have h12:(n:Int)≤12:=Z0
 simp(disch:=first|omega|(apply id;simp only[push_cast];first|done|omega))only[push_cast,Nat.reduceAdd,Nat.reduceMul,Nat.reduceSub,Nat.reduceLT,Nat.reduceEqDiff,Nat.reduceLeDiff,Int.reduceToNat,reduceCtorEq,Int.reduceLT,Int.reduceLE,Int.reduceAdd,Int.reduceSub,Int.reduceMul,Int.reduceNeg,Int.reduceEq,hw,hw2,h12,Int.sub_zero]
 refine jG.to (zE1 G _ hxl hn hr) ?_
 rintro _ h2 ⟨rfl,ys,h3,h4,h5⟩
 simp(disch:=first|omega|(apply id;simp only[push_cast];first|done|omega))only[push_cast,Nat.reduceAdd,Nat.reduceMul,Nat.reduceSub,Nat.reduceLT,Nat.reduceEqDiff,Nat.reduceLeDiff,Int.reduceToNat,reduceCtorEq,Int.reduceLT,Int.reduceLE,Int.reduceAdd,Int.reduceSub,Int.reduceMul,Int.reduceNeg,Int.reduceEq]
 exact ⟨ys,h3,h4,h5⟩
theorem nL1 {b n:Nat}{rest:List Z6}{xs:List Int}(hxl:xs.length=n)(hn:n≤12)(hr:RowI h b rest xs) :
  jG (pp G) 53 [.slice (some ⟨b,0,none⟩) n UC] h (λv h'=>v=.tuple #[]∧∃ ys,SrtQ xs (n-1) ys∧RowI h' b rest ys∧jI h h' (λk=>k=b)):=by
 refine jG.fir4 (jW G) rE1 rfl rfl (uN1 ..) λhlo=>?_
 rw[rM0]
 have hw:IntKind.u64.wrap (n:Int)=n:=by
  rcases (by omega:n=0∨n=1∨n=2∨n=3∨n=4∨n=5∨n=6∨n=7∨n=8∨n=9∨n=10∨n=11∨n=12) with e|e|e|e|e|e|e|e|e|e|e|e|e<;>rw[e]<;>rfl
 simp(disch:=first|omega|(apply id;simp only[push_cast];first|done|omega))only[push_cast,Nat.reduceAdd,Nat.reduceMul,Nat.reduceSub,Nat.reduceLT,Nat.reduceEqDiff,Nat.reduceLeDiff,Int.reduceToNat,reduceCtorEq,Int.reduceLT,Int.reduceLE,Int.reduceAdd,Int.reduceSub,Int.reduceMul,Int.reduceNeg,Int.reduceEq,eH0 uQ0,hw]
 refine jG.to (oR1 G _ n hn) ?_
 rintro _ _ ⟨⟨k,rfl⟩,e⟩
 rw[e]
 clear e
 simp(disch:=first|omega|(apply id;simp only[push_cast];first|done|omega))only[push_cast,Nat.reduceAdd,Nat.reduceMul,Nat.reduceSub,Nat.reduceLT,Nat.reduceEqDiff,Nat.reduceLeDiff,Int.reduceToNat,reduceCtorEq,Int.reduceLT,Int.reduceLE,Int.reduceAdd,Int.reduceSub,Int.reduceMul,Int.reduceNeg,Int.reduceEq]
 refine jG.to (pdq_w G _ hxl hn hr k) ?_
 rintro _ h2 ⟨rfl,ys,h3,h4,h5⟩
 simp(disch:=first|omega|(apply id;simp only[push_cast];first|done|omega))only[push_cast,Nat.reduceAdd,Nat.reduceMul,Nat.reduceSub,Nat.reduceLT,Nat.reduceEqDiff,Nat.reduceLeDiff,Int.reduceToNat,reduceCtorEq,Int.reduceLT,Int.reduceLE,Int.reduceAdd,Int.reduceSub,Int.reduceMul,Int.reduceNeg,Int.reduceEq]
 exact ⟨ys,h3,h4,h5⟩
end
end Go.Proofs.Ytejgmoenmbjidaa
namespace Go.Proofs.Ytejgmoenmbjidaa
open Go Go.RowKit Go.Ev
noncomputable section
set_option maxRecDepth 100000
variable (G:Nat) (h:jB)
inductive I58z (h:jB):Nat→S→Prop
 | mk (x3 x4 x5 x7 x8 x9 xA xB xC xD xE xF xG xH xI xJ xK xL xM xN xO xP xQ xR xS xT xU xV xW xX xY xZ yA yB yC yD yE yF yG yH yI yJ yK yL yM:Z6):I58z h 0 ⟨(F49 (.slice none 0 0) (.int .i64 0) (.int .i64 0) x3 x4 x5 (.int .i64 1) x7 x8 x9 xA xB xC xD xE xF xG xH xI xJ xK xL xM xN xO xP xQ xR xS xT xU xV xW xX xY xZ yA yB yC yD yE yF yG yH yI yJ yK yL yM),[],h⟩
theorem tW0:jG (pp G) 58 [.slice none 0 0,.int .i64 0,.int .i64 0] h (λv h'=>v=.tuple #[]∧h'=h):=by
 refine jG.fir4 (jW G) rB1 rfl rfl (uI1 ..) λhlo=>?_
 rw[rH0]
 simp(disch:=first|omega|(apply id;simp only[push_cast];first|done|omega))only[push_cast,Nat.reduceAdd,Nat.reduceMul,Nat.reduceSub,Nat.reduceLT,Nat.reduceEqDiff,Nat.reduceLeDiff,Int.reduceToNat,reduceCtorEq,Int.reduceLT,Int.reduceLE,Int.reduceAdd,Int.reduceSub,Int.reduceMul,Int.reduceNeg,Int.reduceEq]
 refine W.loop4 (jW G) (I58z h) ?_ 0 _ (I58z.mk _ _ _ _ _ _ _ _ _ _ _ _ _ _ _ _ _ _ _ _ _ _ _ _ _ _ _ _ _ _ _ _ _ _ _ _ _ _ _ _ _ _ _ _ _)
 intro m s1 hI
 cases hI with|mk _ _ _ _ _ _ _ _ _ _ _ _ _ _ _ _ _ _ _ _ _ _ _ _ _ _ _ _ _ _ _ _ _ _ _ _ _ _ _ _ _ _ _ _ _=>
 rw[gB0]
 simp(disch:=first|omega|(apply id;simp only[push_cast];first|done|omega))only[push_cast,Nat.reduceAdd,Nat.reduceMul,Nat.reduceSub,Nat.reduceLT,Nat.reduceEqDiff,Nat.reduceLeDiff,Int.reduceToNat,reduceCtorEq,Int.reduceLT,Int.reduceLE,Int.reduceAdd,Int.reduceSub,Int.reduceMul,Int.reduceNeg,Int.reduceEq]
inductive I56z (h:jB)(k:Int):Nat→S→Prop
 | mk (x4 x5 x6 x7 x8 x9 xA xB xC xD xE xF xG xH xI xJ xK xL xM xN xO xP xQ xR xS xT xU xV xW xX xY xZ yA yB yC yD yE yF yG yH yI yJ yK yL yM yN yO yP yQ yR yS yT yU yV yW yX yY yZ zA zB zC zD zE zF zG zH zI zJ zK zL zM zN zO zP zQ zR zS zT zU zV zW zX zY zZ wA wB wC wD wE wF wG wH wI wJ wK wL wM wN wO wP wQ wR wS wT wU wV wW wX wY wZ uA uB uC uD uE uF uG uH uI uJ uK uL uM uN uO uP uQ uR uS uT:Z6):I56z h k 0 ⟨(F134 (.slice none 0 0) (.int .i64 0) (.int .i64 0) (.int .i64 k) x4 x5 x6 x7 x8 x9 xA xB xC xD xE xF xG xH xI xJ xK xL xM xN xO xP xQ xR xS xT xU xV xW xX xY xZ yA yB yC yD yE yF yG yH yI yJ yK yL yM yN yO yP yQ yR yS yT yU yV yW yX yY yZ zA zB zC zD zE zF zG zH zI zJ zK zL zM zN zO zP zQ zR zS zT zU zV zW zX zY zZ wA wB wC wD wE wF wG wH wI wJ wK wL wM wN wO wP wQ wR wS wT wU wV wW wX wY wZ uA uB uC uD uE uF uG uH uI uJ uK uL uM uN uO uP uQ uR uS uT),[],h⟩
theorem oI1 (k:Int):jG (pp G) 56 [.slice none 0 0,.int .i64 0,.int .i64 0,.int .i64 k] h (λv h'=>v=.tuple #[]∧h'=h):=by
 refine jG.fir4 (jW G) rC1 rfl rfl (mQ0 ..) λhlo=>?_
 rw[rI0]
 simp(disch:=first|omega|(apply id;simp only[push_cast];first|done|omega))only[push_cast,Nat.reduceAdd,Nat.reduceMul,Nat.reduceSub,Nat.reduceLT,Nat.reduceEqDiff,Nat.reduceLeDiff,Int.reduceToNat,reduceCtorEq,Int.reduceLT,Int.reduceLE,Int.reduceAdd,Int.reduceSub,Int.reduceMul,Int.reduceNeg,Int.reduceEq]
 refine W.loop4 (jW G) (I56z h k) ?_ 0 _ (I56z.mk _ _ _ _ _ _ _ _ _ _ _ _ _ _ _ _ _ _ _ _ _ _ _ _ _ _ _ _ _ _ _ _ _ _ _ _ _ _ _ _ _ _ _ _ _ _ _ _ _ _ _ _ _ _ _ _ _ _ _ _ _ _ _ _ _ _ _ _ _ _ _ _ _ _ _ _ _ _ _ _ _ _ _ _ _ _ _ _ _ _ _ _ _ _ _ _ _ _ _ _ _ _ _ _ _ _ _ _ _ _ _ _ _ _ _ _ _ _ _ _ _ _ _ _ _ _ _ _ _ _)
 intro m s1 hI
 cases hI with|mk _ _ _ _ _ _ _ _ _ _ _ _ _ _ _ _ _ _ _ _ _ _ _ _ _ _ _ _ _ _ _ _ _ _ _ _ _ _ _ _ _ _ _ _ _ _ _ _ _ _ _ _ _ _ _ _ _ _ _ _ _ _ _ _ _ _ _ _ _ _ _ _ _ _ _ _ _ _ _ _ _ _ _ _ _ _ _ _ _ _ _ _ _ _ _ _ _ _ _ _ _ _ _ _ _ _ _ _ _ _ _ _ _ _ _ _ _ _ _ _ _ _ _ _ _ _ _ _ _ _=>
 rw[gC0]
 have hw:IntKind.i64.wrap (0:Int)=0:=rfl
 simp(disch:=first|omega|(apply id;simp only[push_cast];first|done|omega))only[push_cast,Nat.reduceAdd,Nat.reduceMul,Nat.reduceSub,Nat.reduceLT,Nat.reduceEqDiff,Nat.reduceLeDiff,Int.reduceToNat,reduceCtorEq,Int.reduceLT,Int.reduceLE,Int.reduceAdd,Int.reduceSub,Int.reduceMul,Int.reduceNeg,Int.reduceEq,hw,Int.sub_zero]
 refine jG.to (tW0 G _) ?_
 rintro _ _ ⟨rfl,e⟩
 rw[e]
 simp(disch:=first|omega|(apply id;simp only[push_cast];first|done|omega))only[push_cast,Nat.reduceAdd,Nat.reduceMul,Nat.reduceSub,Nat.reduceLT,Nat.reduceEqDiff,Nat.reduceLeDiff,Int.reduceToNat,reduceCtorEq,Int.reduceLT,Int.reduceLE,Int.reduceAdd,Int.reduceSub,Int.reduceMul,Int.reduceNeg,Int.reduceEq]
theorem cY1:jG (pp G) 53 [.slice none 0 0] h (λv h'=>v=.tuple #[]∧h'=h):=by
 refine jG.fir4 (jW G) rE1 rfl rfl (uN1 ..) λhlo=>?_
 rw[rM0]
 have hw:IntKind.u64.wrap (0:Int)=0:=rfl
 have hl:=oR1 G h 0 Z0
 simp(disch:=first|omega|(apply id;simp only[push_cast];first|done|omega))only[push_cast,Nat.reduceAdd,Nat.reduceMul,Nat.reduceSub,Nat.reduceLT,Nat.reduceEqDiff,Nat.reduceLeDiff,Int.reduceToNat,reduceCtorEq,Int.reduceLT,Int.reduceLE,Int.reduceAdd,Int.reduceSub,Int.reduceMul,Int.reduceNeg,Int.reduceEq,eH0 uQ0,hw]
 refine jG.to hl ?_
 rintro _ _ ⟨⟨k,rfl⟩,e⟩
 rw[e]
 clear e
 simp(disch:=first|omega|(apply id;simp only[push_cast];first|done|omega))only[push_cast,Nat.reduceAdd,Nat.reduceMul,Nat.reduceSub,Nat.reduceLT,Nat.reduceEqDiff,Nat.reduceLeDiff,Int.reduceToNat,reduceCtorEq,Int.reduceLT,Int.reduceLE,Int.reduceAdd,Int.reduceSub,Int.reduceMul,Int.reduceNeg,Int.reduceEq]
 refine jG.to (oI1 G _ k) ?_
 rintro _ _ ⟨rfl,e⟩
 rw[e]
 simp(disch:=first|omega|(apply id;simp only[push_cast];first|done|omega))only[push_cast,Nat.reduceAdd,Nat.reduceMul,Nat.reduceSub,Nat.reduceLT,Nat.reduceEqDiff,Nat.reduceLeDiff,Int.reduceToNat,reduceCtorEq,Int.reduceLT,Int.reduceLE,Int.reduceAdd,Int.reduceSub,Int.reduceMul,Int.reduceNeg,Int.reduceEq]
end
end Go.Proofs.Ytejgmoenmbjidaa
namespace Go.Proofs.Ytejgmoenmbjidaa
open Go Go.RowKit Go.Ev
noncomputable section
set_option maxRecDepth 100000
variable (G:Nat) (h:jB)
theorem iI0 {bx:Nat}{l:List (Opn×Nat)}(hk:KIt G h bx l)(hn:l.length<1000000) :
  jG (pp G) 52 [.func (.func 54) #[] #[.pointer (some ⟨bx,0,none⟩)]] h (ColR h l):=by
 refine jG.fir4 (jW G) fir52 rfl rfl (bY1 ..) λhlo=>?_
 rw[dF1]
 simp(disch:=first|omega|(apply id;simp only[push_cast];first|done|omega))only[push_cast,Nat.reduceAdd,Nat.reduceMul,Nat.reduceSub,Nat.reduceLT,Nat.reduceEqDiff,Nat.reduceLeDiff,Int.reduceToNat,reduceCtorEq,Int.reduceLT,Int.reduceLE,Int.reduceAdd,Int.reduceSub,Int.reduceMul,Int.reduceNeg,Int.reduceEq]
 refine jG.to (qI1 G _ hk hn) ?_
 intro v h2 p
 simp(disch:=first|omega|(apply id;simp only[push_cast];first|done|omega))only[push_cast,Nat.reduceAdd,Nat.reduceMul,Nat.reduceSub,Nat.reduceLT,Nat.reduceEqDiff,Nat.reduceLeDiff,Int.reduceToNat,reduceCtorEq,Int.reduceLT,Int.reduceLE,Int.reduceAdd,Int.reduceSub,Int.reduceMul,Int.reduceNeg,Int.reduceEq]
 exact p
structure SortR (h:jB)(l:List (Opn×Nat))(v:Z6)(h2:jB):Prop where
 has:∃ i ys a c,FinK l i∧SrtQ (wA0 i) (i.length-1) ys∧v=.slice a i.length c∧Sl h2 a (ivs ys)∧(∀ b,blk a b→h.next≤b∧b<h2.next)∧(a=none→ys=[])∧ys.length=i.length
 gr:Gr h h2
theorem FinK.le {l i:List (Opn×Nat)}(f:FinK l i):i.length≤l.length:=by
 have:=sI0 _ (l.map (·.2)) f.nd λb hb=>by
  obtain ⟨z,hz,rfl⟩:=List.mem_map.1 hb
  exact List.mem_map.2 ⟨z,f.sub z hz,rfl⟩
 simpa using this
theorem wM1 {bx:Nat}{l:List (Opn×Nat)}(hk:KIt G h bx l)(hn:l.length≤12) :
  jG (pp G) 48 [.func (.func 54) #[] #[.pointer (some ⟨bx,0,none⟩)]] h (SortR h l):=by
 refine jG.fir4 (jW G) fir48 rfl rfl (eS0 ..) λhlo=>?_
 rw[dJ1]
 simp(disch:=first|omega|(apply id;simp only[push_cast];first|done|omega))only[push_cast,Nat.reduceAdd,Nat.reduceMul,Nat.reduceSub,Nat.reduceLT,Nat.reduceEqDiff,Nat.reduceLeDiff,Int.reduceToNat,reduceCtorEq,Int.reduceLT,Int.reduceLE,Int.reduceAdd,Int.reduceSub,Int.reduceMul,Int.reduceNeg,Int.reduceEq]
 refine jG.to (iI0 G _ hk Z0) ?_
 rintro _ h2 ⟨⟨i,a,c,hf,rfl,ho,hb⟩,g⟩
 have hle:=hf.le
 have hkl:(wA0 i).length=i.length:=by simp[wA0]
 simp(disch:=first|omega|(apply id;simp only[push_cast];first|done|omega))only[push_cast,Nat.reduceAdd,Nat.reduceMul,Nat.reduceSub,Nat.reduceLT,Nat.reduceEqDiff,Nat.reduceLeDiff,Int.reduceToNat,reduceCtorEq,Int.reduceLT,Int.reduceLE,Int.reduceAdd,Int.reduceSub,Int.reduceMul,Int.reduceNeg,Int.reduceEq]
 rcases ho.hat with ⟨rfl,hi0,rfl⟩|⟨b,full,L,rfl,h1,h2',h3,rfl,h4,h5,h6,h7,hLb⟩
 ·rw[hi0]
  refine jG.to (cY1 G _) ?_
  rintro _ _ ⟨rfl,e⟩
  rw[e]
  clear e
  simp(disch:=first|omega|(apply id;simp only[push_cast];first|done|omega))only[push_cast,Nat.reduceAdd,Nat.reduceMul,Nat.reduceSub,Nat.reduceLT,Nat.reduceEqDiff,Nat.reduceLeDiff,Int.reduceToNat,reduceCtorEq,Int.reduceLT,Int.reduceLE,Int.reduceAdd,Int.reduceSub,Int.reduceMul,Int.reduceNeg,Int.reduceEq]
  have hk0:wA0 i=[]:=List.eq_nil_of_length_eq_zero Z0
  exact ⟨⟨i,[],none,0,hf,by rw[hk0];exact ⟨List.Perm.refl _,λp q h1 h2=>by simp⟩,by rw[hi0],Sl.nil _ jR0,λb hb'=>⟨hb b hb',ho.lt b hb'⟩,λ_=>rfl,by rw[hi0];rfl⟩,g⟩
 ·rw[Nat.mul_one] at h4 h6
  have hfull:full=ivs (wA0 i)++full.drop i.length:=by rw[← h6,List.take_append_drop]
  have hr:RowI h2 b (full.drop i.length) (wA0 i):=⟨by rw[← hfull];exact h3,h1⟩
  refine jG.to (nL1 G _ hkl Z0 hr) ?_
  rintro _ h8 ⟨rfl,ys,hs,hr8,g8⟩
  simp(disch:=first|omega|(apply id;simp only[push_cast];first|done|omega))only[push_cast,Nat.reduceAdd,Nat.reduceMul,Nat.reduceSub,Nat.reduceLT,Nat.reduceEqDiff,Nat.reduceLeDiff,Int.reduceToNat,reduceCtorEq,Int.reduceLT,Int.reduceLE,Int.reduceAdd,Int.reduceSub,Int.reduceMul,Int.reduceNeg,Int.reduceEq]
  have hyl:ys.length=i.length:=hs.pm.length_eq.trans hkl
  refine ⟨⟨i,ys,some ⟨b,0,none⟩,UC,hf,hs,rfl,?_,λb' hb'=>⟨hb b' hb',Nat.lt_of_lt_of_le (ho.lt b' hb') g8.next⟩,λh=>(by cases h),hyl⟩,g.tr' g8 λk hk e=>by have:=hb b ⟨0,none,rfl⟩;omega⟩
  right
  refine ⟨b,0,_,3,true,rfl,hr8.c,by rw[List.length_append];omega,?_,.inl hr8.lo⟩
  rw[List.drop_zero,List.take_append_of_le_length (Z3 _),List.take_of_length_le (Z3 _)]
theorem oU1 (mo:Z8 Nat)(hlt:∀ r,mo=some r→r<h.next):jG (pp G) 49 [.map mo] h (λv h'=>v=.func (.func 54) #[] #[.pointer (some ⟨h.next,0,none⟩)]∧h'=h.add (O [.map mo] 52 false)):=by
 refine jG.fir4 (jW G) fir49 rfl rfl (bZ1 ..) λhlo=>?_
 rw[dI1]
 have hbx:bxE 52 (.map mo) h=some (.pointer (some ⟨h.next,0,none⟩),h.add (O [.map mo] 52 false)):=iQ1 _ _ (by
  cases mo with
  | none=>rfl
  | some r=>exact gM _ _ _ (jI1 _ _ (hlt r rfl)) rfl)
 simp(disch:=first|omega|(apply id;simp only[push_cast];first|done|omega))only[push_cast,Nat.reduceAdd,Nat.reduceMul,Nat.reduceSub,Nat.reduceLT,Nat.reduceEqDiff,Nat.reduceLeDiff,Int.reduceToNat,reduceCtorEq,Int.reduceLT,Int.reduceLE,Int.reduceAdd,Int.reduceSub,Int.reduceMul,Int.reduceNeg,Int.reduceEq,hbx]
theorem sH0 {α:Type}(f:α→Nat):∀ (a b:List α),(a.map f).Nodup→(b.map f).Nodup→(∀ x∈a,x∈b)→(∀ x∈b,f x∈a.map f)→a.Perm b
 | [],b,_,_,_,h=>by
  cases b with
  | nil=>exact List.Perm.refl _
  | cons y b=>have:=h y (List.mem_cons_self ..);simp at this
 | x :: a,b,ha,hb,h1,h2=>by
  obtain ⟨s,t,rfl⟩:=List.append_of_mem (h1 x (List.mem_cons_self ..))
  rw[List.map_cons,List.nodup_cons] at ha
  have hpm:(s++x :: t).Perm (x :: (s++t)):=List.perm_middle
  have hb2:((x :: (s++t)).map f).Nodup:=((hpm.map f).nodup_iff).1 hb
  rw[List.map_cons,List.nodup_cons] at hb2
  refine ((sH0 f a (s++t) ha.2 hb2.2 (λy hy=>?_) λy hy=>?_).cons x).trans hpm.symm
  ·have:=hpm.mem_iff.1 (h1 y (List.mem_cons_of_mem _ hy))
   rcases List.mem_cons.1 this with rfl|h
   ·exact absurd (List.mem_map.2 ⟨y,hy,rfl⟩) ha.1
   ·exact h
  ·have:=h2 y (hpm.mem_iff.2 (List.mem_cons_of_mem _ hy))
   rw[List.map_cons] at this
   rcases List.mem_cons.1 this with e|h
   ·exact absurd (List.mem_map.2 ⟨y,hy,e⟩) hb2.1
   ·exact h
theorem oJ1 {q:Pl}{w:Wi}(a:WAt h q w)(hn:w.op.length≤12):jG (pp G) 27 [.pointer (some ⟨q.p,0,none⟩)] h (λv h'=>(∃ ys aa c,ys.Perm (w.op.map (·.key))∧(∀ p r,p<r→r<ys.length→ys.getD p 0≤ys.getD r 0)∧v=.slice aa ys.length c∧Sl h' aa (ivs ys)∧(∀ b,blk aa b→h.next≤b∧b<h'.next)∧(aa=none→ys=[]))∧Gr h h'):=by
 refine jG.fir4 (jW G) fir27 rfl rfl (eS0 ..) λhlo=>?_
 rw[eE1]
 have hc:=a.cell
 have hl:=a.lo
 unfold wcs at hc
 simp(disch:=first|omega|(apply id;simp only[push_cast];first|done|omega))only[push_cast,Nat.reduceAdd,Nat.reduceMul,Nat.reduceSub,Nat.reduceLT,Nat.reduceEqDiff,Nat.reduceLeDiff,Int.reduceToNat,reduceCtorEq,Int.reduceLT,Int.reduceLE,Int.reduceAdd,Int.reduceSub,Int.reduceMul,Int.reduceNeg,Int.reduceEq,hc,hl]
 refine jG.to (oU1 G _ q.mo λr hr=>a.lt r 2 hr) ?_
 rintro _ h2 ⟨rfl,e⟩
 have hg:Gr h h2:=by rw[e];exact jI.add _ _ _
 have hn2:h2.next=h.next+1:=by rw[e,jH]
 have hcb:cells h2 h.next=some ([.map q.mo],52,false):=by rw[e];exact jP _ _ _ _ rfl
 have hl2:h2.lo=h.lo:=hg.lo
 clear e
 simp(disch:=first|omega|(apply id;simp only[push_cast];first|done|omega))only[push_cast,Nat.reduceAdd,Nat.reduceMul,Nat.reduceSub,Nat.reduceLT,Nat.reduceEqDiff,Nat.reduceLeDiff,Int.reduceToNat,reduceCtorEq,Int.reduceLT,Int.reduceLE,Int.reduceAdd,Int.reduceSub,Int.reduceMul,Int.reduceNeg,Int.reduceEq]
 have main:∃ l:List (Opn×Nat),(l.map (·.1)).Perm w.op∧(l.map (·.2)).Nodup∧KIt G h2 h.next l:=by
  rcases a.op.has with ⟨e1,e2⟩|⟨r,c,l,e1,e2,e3,e4,e5,e6⟩
  ·rw[e1] at hcb
   exact ⟨[],by rw[e2];exact List.Perm.refl _,by simp,zA1 G hcb Z0 Z0⟩
  ·rw[e1] at hcb
   exact ⟨l,e4,e6,wZ1 G hcb Z0 Z0 (jI.mapE hg e3 e2 λh=>h) Z0 e5 e6⟩
 obtain ⟨l,hp,hd,hk⟩:=main
 have hll:l.length=w.op.length:=by simpa using hp.length_eq
 refine jG.to (wM1 G _ hk Z0) ?_
 rintro v h3 ⟨⟨i,ys,aa,c,hf,hs,rfl,hsl,hb,hnone,hyl⟩,g⟩
 simp(disch:=first|omega|(apply id;simp only[push_cast];first|done|omega))only[push_cast,Nat.reduceAdd,Nat.reduceMul,Nat.reduceSub,Nat.reduceLT,Nat.reduceEqDiff,Nat.reduceLeDiff,Int.reduceToNat,reduceCtorEq,Int.reduceLT,Int.reduceLE,Int.reduceAdd,Int.reduceSub,Int.reduceMul,Int.reduceNeg,Int.reduceEq]
 refine ⟨⟨ys,aa,c,?_,λp r h1 h2=>hs.le p r h1 Z0,by rw[hyl],hsl,λb h=>by have:=hb b h;omega,hnone⟩,hg.tr' g λ_ _ h=>h⟩
 have h0:i.Perm l:=sH0 (λx:Opn×Nat=>x.2) i l hf.nd hd hf.sub hf.all
 have h1:(wA0 i).Perm (wA0 l):=by unfold wA0;exact h0.map _
 have h2:wA0 l=(l.map (λx=>x.1)).map (λo=>o.key):=by simp[wA0]
 rw[h2] at h1
 exact (hs.pm.trans h1).trans (hp.map _)
end
end Go.Proofs.Ytejgmoenmbjidaa
namespace Go.Proofs.Ytejgmoenmbjidaa
open Go Go.RowKit Go.Ev
noncomputable section
def Ris (l:List Int):Prop:=l.Pairwise (·<·)
theorem lF0:∀ (a b:List Int),a.Perm b→a.Pairwise (·≤·)→Ris b→a=b
 | [],b,hp,_,_=>(List.Perm.nil_eq hp)
 | x :: a,[],hp,_,_=>by have:=hp.length_eq;simp at this
 | x :: a,y :: b,hp,ha,hb=>by
  unfold Ris at hb
  rw[List.pairwise_cons] at ha hb
  have hxy:x=y:=by
   rcases List.mem_cons.1 (hp.mem_iff.1 (List.mem_cons_self ..)) with e|h1
   ·exact e
   ·rcases List.mem_cons.1 (hp.mem_iff.2 (List.mem_cons_self ..)) with e|h2
    ·exact e.symm
    ·have:=hb.1 x h1
     have:=ha.1 y h2
     omega
  subst hxy
  rw[lF0 a b (hp.cons_inv) ha.2 hb.2]
theorem nZ1 (ys:List Int)(h:∀ p r,p<r→r<ys.length→ys.getD p 0≤ys.getD r 0):ys.Pairwise (·≤·):=by
 rw[List.pairwise_iff_getElem]
 intro i j hi hj hij
 have:=h i j hij hj
 rwa [List.getD_eq_getElem?_getD,List.getD_eq_getElem?_getD,List.getElem?_eq_getElem hi,List.getElem?_eq_getElem hj] at this
theorem rZ0 (x:Opn):∀ l:List Opn,Ris (l.map (·.key))→gJ x.key l=false→Ris ((insK x l).map (·.key))
 | [],_,_=>by simp[insK,Ris]
 | o :: l,h,hk=>by
  unfold Ris at h ⊢
  rw[gJ,Bool.or_eq_false_iff] at hk
  have hne:=of_decide_eq_false hk.1
  rw[List.map_cons,List.pairwise_cons] at h
  rw[insK]
  split
  ·rename_i hlt
   rw[List.map_cons,List.pairwise_cons]
   refine ⟨λk hk2=>?_,rZ0 x l h.2 hk.2⟩
   rcases List.mem_cons.1 ((((wB0 x l).map (·.key)).mem_iff).2 hk2) with e|h3
   ·rw[e];exact hlt
   ·exact h.1 k h3
  ·rw[List.map_cons,List.map_cons,List.pairwise_cons,List.pairwise_cons]
   refine ⟨λk hk2=>?_,h⟩
   rcases List.mem_cons.1 hk2 with e|h3
   ·rw[e];omega
   ·have:=h.1 k h3;omega
theorem jJ0 {l:List Int}(h:Ris l):l.Nodup:=List.Pairwise.imp (λh=>by omega) h
theorem kE0 (k:Int):∀ l:List Opn,List.Sublist (delK k l) l
 | []=>List.Sublist.refl _
 | x :: l=>by
  rw[delK]
  split
  ·exact List.sublist_cons_self _ _
  ·exact (kE0 k l).cons_cons x
theorem eY1 (k:Int)(l:List Opn)(h:Ris (l.map (·.key))):Ris ((delK k l).map (·.key)):=h.sublist ((kE0 k l).map _)
theorem sE0 (G:Nat){h:jB}{q:Pl}{w:Wi}(a:WAt h q w)(hn:w.op.length≤12)(hr:Ris (w.op.map (·.key))):jG (pp G) 27 [.pointer (some ⟨q.p,0,none⟩)] h (λv h'=>(∃ aa c,v=.slice aa w.op.length c∧Sl h' aa (ivs (w.op.map (·.key)))∧(∀ b,blk aa b→h.next≤b∧b<h'.next)∧(aa=none→w.op=[]))∧Gr h h'):=by
 refine (oJ1 G h a hn).mono ?_
 rintro v h2 ⟨⟨ys,aa,c,h1,h3,rfl,h4,h5,h6⟩,g⟩
 have e:=lF0 ys _ h1 (nZ1 ys h3) hr
 subst e
 exact ⟨⟨aa,c,by rw[List.length_map],h4,h5,λe=>by simpa using h6 e⟩,g⟩
end
end Go.Proofs.Ytejgmoenmbjidaa
namespace Go.Proofs.Ytejgmoenmbjidaa
open Go Go.RowKit Go.Ev
noncomputable section
set_option maxRecDepth 100000
variable (G:Nat) (h:jB)
def bmp (c:Int)(o:Opn):Opn:=if o.time=c then ⟨o.nm,o.key,c+min (2*o.wait) 8,min (2*o.wait) 8⟩ else o
def rqs (c:Int)(l:List Opn):List Msg:=(l.filter (λo=>decide (o.time=c))).map λo=>⟨false,⟨o.nm,o.key,0⟩⟩
def tkW (w:Wi)(p:Nat):Wi:={ w with ck:=w.ck+1,op:=(w.op.take p).map (bmp (w.ck+1))++w.op.drop p,fl:=w.fl++rqs (w.ck+1) (w.op.take p) }
def kK0 (w:Wi):Wi:={ w with ck:=w.ck+1,op:=w.op.map (bmp (w.ck+1)),fl:=w.fl++rqs (w.ck+1) w.op }
theorem yK0 (c:Int)(o:Opn):(bmp c o).key=o.key:=by unfold bmp;split<;>rfl
theorem sN0 (c:Int)(l:List Opn):(l.map (bmp c)).map (·.key)=l.map (·.key):=by
 rw[List.map_map];exact List.map_congr_left λo _=>yK0 c o
theorem nF1 (w:Wi):tkW w 0={ w with ck:=w.ck+1 }:=by
 unfold tkW rqs
 simp only[List.take_zero,List.map_nil,List.filter_nil,List.nil_append,List.drop_zero,List.append_nil]
theorem pW0 (w:Wi):tkW w w.op.length=kK0 w:=by
 unfold tkW kK0
 rw[List.take_of_length_le (Z3 _),List.drop_of_length_le (Z3 _),List.append_nil]
theorem uU0 (w:Wi)(p:Nat):(tkW w p).op.map (·.key)=w.op.map (·.key):=by
 show (((w.op.take p).map (bmp (w.ck+1))++w.op.drop p).map (·.key))=_
 rw[List.map_append,sN0,← List.map_append,List.take_append_drop]
theorem kJ0 {w:Wi}{p:Nat}{o:Opn}(ho:w.op[p]?=some o):w.op.take (p+1)=w.op.take p++[o]∧w.op.drop p=o :: w.op.drop (p+1):=by
 have hp:=(List.getElem?_eq_some_iff.1 ho).1
 have e:=(List.getElem?_eq_some_iff.1 ho).2
 exact ⟨by rw[List.take_add_one,ho];rfl,by rw[List.drop_eq_getElem_cons hp,e]⟩
theorem iZ0 {w:Wi}{p:Nat}{o:Opn}(ho:w.op[p]?=some o)(ht:o.time≠w.ck+1):tkW w (p+1)=tkW w p:=by
 obtain ⟨h1,h2⟩:=kJ0 ho
 have hb:bmp (w.ck+1) o=o:=if_neg ht
 unfold tkW rqs
 rw[h1,h2,List.map_append,List.filter_append,List.map_append]
 simp[hb,ht]
def repK (x:Opn)(l:List Opn):List Opn:=l.map λo=>if x.key=o.key then x else o
theorem sA0 (x:Opn):∀ l:List Opn,(∀ y∈l,x.key≠y.key)→repK x l=l
 | [],_=>rfl
 | y :: l,h=>by
  have:=sA0 x l λz hz=>h z (List.mem_cons_of_mem _ hz)
  unfold repK at this ⊢
  rw[List.map_cons,this,if_neg (h y (List.mem_cons_self ..))]
theorem eY0 {w:Wi}{p:Nat}{o:Opn}(ho:w.op[p]?=some o):o∈(tkW w p).op:=by
 obtain ⟨h1,h2⟩:=kJ0 ho
 show o∈(w.op.take p).map (bmp (w.ck+1))++w.op.drop p
 rw[h2]
 exact List.mem_append_right _ (List.mem_cons_self ..)
theorem cQ1 {w:Wi}{p:Nat}{o:Opn}(ho:w.op[p]?=some o)(ht:o.time=w.ck+1)(hd:(w.op.map (·.key)).Nodup) :
  tkW w (p+1)={ tkW w p with op:=repK ⟨o.nm,o.key,w.ck+1+min (2*o.wait) 8,min (2*o.wait) 8⟩ (tkW w p).op,fl:=(tkW w p).fl++[⟨false,⟨o.nm,o.key,0⟩⟩] }:=by
 obtain ⟨h1,h2⟩:=kJ0 ho
 have hb:bmp (w.ck+1) o=⟨o.nm,o.key,w.ck+1+min (2*o.wait) 8,min (2*o.wait) 8⟩:=if_pos ht
 have hk:=uU0 w p
 rw[← hk] at hd
 unfold tkW at hd ⊢
 dsimp only at hd ⊢
 rw[h2,List.map_append,List.map_cons,List.nodup_append,List.nodup_cons] at hd
 obtain ⟨d1,⟨d2,d3⟩,d4⟩:=hd
 rw[← hb]
 have e1:repK (bmp (w.ck+1) o) ((w.op.take p).map (bmp (w.ck+1)))=(w.op.take p).map (bmp (w.ck+1)):=sA0 _ _ λy hy e=>d4 _ (List.mem_map.2 ⟨y,hy,rfl⟩) _ (List.mem_cons_self ..) (by rw[← e,yK0])
 have e2:repK (bmp (w.ck+1) o) (w.op.drop (p+1))=w.op.drop (p+1):=sA0 _ _ λy hy e=>d2 (List.mem_map.2 ⟨y,hy,by rw[← e,yK0]⟩)
 have e3:repK (bmp (w.ck+1) o) ((w.op.take p).map (bmp (w.ck+1))++w.op.drop p)=(w.op.take p).map (bmp (w.ck+1))++bmp (w.ck+1) o :: w.op.drop (p+1):=by
  rw[h2]
  unfold repK at e1 e2 ⊢
  rw[List.map_append,List.map_cons,e1,e2,if_pos (yK0 _ _)]
 rw[e3,h1,List.map_append,List.append_assoc]
 unfold rqs
 rw[List.filter_append,List.map_append,List.append_assoc]
 simp[ht]
def repL (x:Opn)(l:List (Opn×Nat)):List (Opn×Nat):=l.map λy=>if x.key=y.1.key then (x,y.2) else y
theorem lC0 (x:Opn):∀ l:List (Opn×Nat),((l.map (·.1)).map (·.key)).Nodup→setM x.key (asV x) (l.map opE)=(repL x l).map opE
 | [],_=>rfl
 | y :: l,h=>by
  rw[List.map_cons,List.map_cons,List.nodup_cons] at h
  show (if x.key=y.1.key then (x.key,asV x,y.2) :: l.map opE else opE y :: setM x.key (asV x) (l.map opE))=((if x.key=y.1.key then (x,y.2) else y) :: repL x l).map opE
  by_cases e:x.key=y.1.key
  ·rw[if_pos e,if_pos e]
   have:repL x l=l:=by
    unfold repL
    refine (List.map_congr_left λz hz=>?_).trans (List.map_id _)
    exact if_neg λe2=>h.1 (by rw[← e,e2];exact List.mem_map.2 ⟨z.1,List.mem_map.2 ⟨z,hz,rfl⟩,rfl⟩)
   rw[this]
   rfl
  ·rw[if_neg e,if_neg e,lC0 x l h.2]
   rfl
theorem wT1 (x:Opn)(l:List (Opn×Nat)):(repL x l).map (·.1)=repK x (l.map (·.1)):=by
 unfold repL repK
 rw[List.map_map,List.map_map]
 refine List.map_congr_left λy _=>?_
 show (if x.key=y.1.key then (x,y.2) else y).1=if x.key=y.1.key then x else y.1
 split<;>rfl
theorem lG0 (x:Opn)(l:List (Opn×Nat)):(repL x l).map (·.2)=l.map (·.2):=by
 unfold repL
 rw[List.map_map]
 refine List.map_congr_left λy _=>?_
 show (if x.key=y.1.key then (x,y.2) else y).2=y.2
 split<;>rfl
theorem MapO.upd {h:jB}{r c:Nat}{l:List (Opn×Nat)}{op:List Opn}{o:Opn}(hr:r<h.next)(hm:mapOf h r=some (ME (putM o.key (asV o) c (l.map opE)),wZ0 o.key c (l.map opE)))(e4:(l.map (·.1)).Perm op)(e5:∀ x∈l,x.2<c)(e6:(l.map (·.2)).Nodup)(hk:gJ o.key op=true)(hd:(op.map (·.key)).Nodup):MapO h (some r) (repK o op):=by
 have hs:(bN o.key (l.map opE)).isSome=true:=by
  cases hg:bN o.key (l.map opE) with
  | none=>rw[yB0 e4.symm,kA0.1 hg] at hk;cases hk
  | some v=>rfl
 have hd2:((l.map (·.1)).map (·.key)).Nodup:=((e4.map (·.key)).nodup_iff).2 hd
 unfold putM wZ0 at hm
 rw[hs,if_pos rfl,if_pos rfl,lC0 o l hd2] at hm
 refine ⟨.inr ⟨r,c,repL o l,rfl,hr,hm,?_,λx hx=>?_,?_⟩⟩
 ·rw[wT1];exact e4.map _
 ·have:x.2∈(repL o l).map (·.2):=List.mem_map.2 ⟨x,hx,rfl⟩
  rw[lG0] at this
  obtain ⟨y,hy,e⟩:=List.mem_map.1 this
  rw[← e];exact e5 y hy
 ·rw[lG0];exact e6
theorem bV0:∀ {l:List Opn},(l.map (·.key)).Nodup→∀ {a b:Opn},a∈l→b∈l→a.key=b.key→a=b
 | x :: l,h,a,b,ha,hb,e=>by
  rw[List.map_cons,List.nodup_cons] at h
  rcases List.mem_cons.1 ha with ea|ha1<;>rcases List.mem_cons.1 hb with eb|hb1
  ·rw[ea,eb]
  ·exact (h.1 (List.mem_map.2 ⟨b,hb1,by rw[← e,ea]⟩)).elim
  ·exact (h.1 (List.mem_map.2 ⟨a,ha1,by rw[e,eb]⟩)).elim
  ·exact bV0 h.2 ha1 hb1 e
end
end Go.Proofs.Ytejgmoenmbjidaa
namespace Go.Proofs.Ytejgmoenmbjidaa
open Go Go.RowKit Go.Ev
noncomputable section
set_option maxRecDepth 100000
variable (G:Nat) (h:jB)
theorem cU1 {q:Pl}{w:Wi}(a:WAt h q w){bx:Nat}(cbx:cells h bx=some ([.pointer (some ⟨q.p,0,none⟩)],24,false))(hbl:h.lo≤bx)(hbx:bx<h.next)(hnb:¬ q.B bx){o:Opn}(ho:o∈w.op)(hck:0≤w.ck∧w.ck<1000000)(hw:0≤o.wait∧o.wait≤8)(hn:w.fl.length<1000000)(hd:(w.op.map (·.key)).Nodup)
  (ro:Z8 Nat) (hlo:h.lo≤h.next) {x0 x3 x4 x5 x6 x7 x8 x9 xA xB xC xD xE xF xG xH xI xJ xK xL xM xN xO xP xQ xR xS xT xU xV xW xX xY xZ yA yB yC yD yE yF yG yH:Z6} {R:jL→S→Prop} (hR:∀ tm h',Post h q { w with op:=repK ⟨o.nm,o.key,w.ck+min (2*o.wait) 8,min (2*o.wait) 8⟩ w.op,fl:=w.fl++[⟨false,⟨o.nm,o.key,0⟩⟩] } h'→R .normal ⟨tm,[],h'⟩) :
  vc3 (pp G) ro tP0 ⟨(F44 x0 (.pointer (some ⟨bx,0,none⟩)) (.int .i64 o.key) x3 x4 x5 x6 x7 x8 x9 xA xB xC xD xE xF xG xH xI xJ xK xL xM xN xO xP xQ xR xS xT xU xV xW xX xY xZ yA yB yC yD yE yF yG yH),[],h⟩ R:=by
 rw[rN0]
 have hc:=a.cell
 have hl:=a.lo
 have hlt:=bA a
 unfold wcs at hc
 obtain ⟨o',hlk,ho'⟩:=lR0 a.op o.key false
 have hk:gJ o.key w.op=true:=jU0.2 ⟨o,ho,rfl⟩
 obtain ⟨h1,h2⟩:=ho' hk
 have e:=bV0 hd h1 ho h2
 subst e
 rcases a.op.has with ⟨e1,e2⟩|⟨r,c,l,e1,e2,e3,e4,e5,e6⟩
 ·rw[e2] at ho;cases ho
 have hrp:r≠q.p:=λe=>by have:=a.sep r 2 0 e1 e;omega
 have hrb:r≠bx:=λe=>hnb ⟨2,by rw[← e];exact e1⟩
 have hqb:q.p≠bx:=λe=>hnb ⟨0,by rw[← e];rfl⟩
 have g2:=λ(x y:jV)=>((Gr.refl h).add' x).put' h.next y (Z3 _)
 have g3:=λ(x y z:jV)=>(g2 x y).put' h.next z (Z3 _)
 have g4:=λ(x y z t:jV)=>(g3 x y z).put' h.next t (Z3 _)
 have q3:=λ(x y z:jV)=>Gr.cells (g3 x y z) hc hlt
 have q4:=λ(x y z t:jV)=>Gr.cells (g4 x y z t) hc hlt
 have b3:=λ(x y z:jV)=>Gr.cells (g3 x y z) cbx hbx
 have b4:=λ(x y z t:jV)=>Gr.cells (g4 x y z t) cbx hbx
 have hset:=λ(x y z t:jV)=>uV0 mp52 (jI.mapE (g4 x y z t) e3 e2 id) o'.key (asV ⟨o'.nm,o'.key,w.ck+min (2*o'.wait) 8,min (2*o'.wait) 8⟩) (iO0 _ _)
 have w1:IntKind.i64.wrap (2*o'.wait)=2*o'.wait:=wrap_i64 Z0 Z0
 have w2:IntKind.i64.wrap (w.ck+min (2*o'.wait) 8)=w.ck+min (2*o'.wait) 8:=wrap_i64 Z0 Z0
 unfold asV at hlk hset
 rw[e1] at hlk hc q3 q4
 have n4:=λ(x y z t:jV)=>(by simp only[jN,jH]:((((h.add x).put h.next y).put h.next z).put h.next t).next=h.next+1)
 have a4:=λ(x y z t:jV)=>a.grew (g4 x y z t) λ_ _ h=>h
 simp(disch:=first|omega|(apply id;simp only[push_cast];first|done|omega))only[push_cast,Nat.reduceAdd,Nat.reduceMul,Nat.reduceSub,Nat.reduceLT,Nat.reduceEqDiff,Nat.reduceLeDiff,Int.reduceToNat,reduceCtorEq,Int.reduceLT,Int.reduceLE,Int.reduceAdd,Int.reduceSub,Int.reduceMul,Int.reduceNeg,Int.reduceEq,cbx,hbl,hc,hl,hlk,q3,q4,b3,b4,w1,w2,sK0,hset]
 have G4:=g4 (O [.string (Tx []),.int .i64 0,.int .i64 0] 65 false) (O [.string (Tx o'.nm),.int .i64 o'.time,.int .i64 o'.wait] 65 false) (O [.string (Tx o'.nm),.int .i64 o'.time,.int .i64 (min (2*o'.wait) 8)] 65 false) (O [.string (Tx o'.nm),.int .i64 (w.ck+min (2*o'.wait) 8),.int .i64 (min (2*o'.wait) 8)] 65 false)
 have A4:=a4 (O [.string (Tx []),.int .i64 0,.int .i64 0] 65 false) (O [.string (Tx o'.nm),.int .i64 o'.time,.int .i64 o'.wait] 65 false) (O [.string (Tx o'.nm),.int .i64 o'.time,.int .i64 (min (2*o'.wait) 8)] 65 false) (O [.string (Tx o'.nm),.int .i64 (w.ck+min (2*o'.wait) 8),.int .i64 (min (2*o'.wait) 8)] 65 false)
 have N4:=n4 (O [.string (Tx []),.int .i64 0,.int .i64 0] 65 false) (O [.string (Tx o'.nm),.int .i64 o'.time,.int .i64 o'.wait] 65 false) (O [.string (Tx o'.nm),.int .i64 o'.time,.int .i64 (min (2*o'.wait) 8)] 65 false) (O [.string (Tx o'.nm),.int .i64 (w.ck+min (2*o'.wait) 8),.int .i64 (min (2*o'.wait) 8)] 65 false)
 clear g2 g3 g4 q3 q4 b3 b4 hset n4 a4
 generalize (((h.add (O [.string (Tx []),.int .i64 0,.int .i64 0] 65 false)).put h.next (O [.string (Tx o'.nm),.int .i64 o'.time,.int .i64 o'.wait] 65 false)).put h.next (O [.string (Tx o'.nm),.int .i64 o'.time,.int .i64 (min (2*o'.wait) 8)] 65 false)).put h.next (O [.string (Tx o'.nm),.int .i64 (w.ck+min (2*o'.wait) 8),.int .i64 (min (2*o'.wait) 8)] 65 false)=H4 at *
 have hm4:=jI.mapE G4 e3 e2 id
 have a5:=A4.setO (h2:=H4.put r (MO (putM o'.key (asV ⟨o'.nm,o'.key,w.ck+min (2*o'.wait) 8,min (2*o'.wait) 8⟩) c (l.map opE)) (wZ0 o'.key c (l.map opE)))) (mo:=q.mo) (op:=repK ⟨o'.nm,o'.key,w.ck+min (2*o'.wait) 8,min (2*o'.wait) 8⟩ w.op)
  ((jI.refl H4 _).put'' _ _ λ_=>.inr e1) (by rw[qH _ _ _ (Ne.symm hrp)];exact A4.cell)
  (by rw[e1];exact MapO.upd (by rw[jN,N4];omega) (kM (uA0 hm4)) e4 e5 e6 hk hd) λb hb=>.inl hb
 unfold asV at a5
 have G5:jI h _ q.B:=(G4.mono λ_ _ h=>h.elim).put'' r (MO (putM o'.key (asV ⟨o'.nm,o'.key,w.ck+min (2*o'.wait) 8,min (2*o'.wait) 8⟩) c (l.map opE)) (wZ0 o'.key c (l.map opE))) λ_=>⟨2,e1⟩
 unfold asV at G5
 dsimp only at a5 G5
 have n5:=G5.next
 have l5:=G5.lo
 refine jG.to (dA0 G _ a5 Z0 hn o'.nm o'.key) ?_
 rintro _ h6 ⟨rfl,af,cf,a6,g6,b6⟩
 simp(disch:=first|omega|(apply id;simp only[push_cast];first|done|omega))only[push_cast,Nat.reduceAdd,Nat.reduceMul,Nat.reduceSub,Nat.reduceLT,Nat.reduceEqDiff,Nat.reduceLeDiff,Int.reduceToNat,reduceCtorEq,Int.reduceLT,Int.reduceLE,Int.reduceAdd,Int.reduceSub,Int.reduceMul,Int.reduceNeg,Int.reduceEq]
 refine hR _ _ ⟨⟨{ q with af:=af,cf:=cf },rfl,a6,λb ⟨i,hi⟩=>?_⟩,G5.tr' g6 λb _ hb=>hb⟩
 by_cases e3:i=3
 ·subst e3
  rcases b6 b hi with h1|h1
  ·exact .inl ⟨3,h1⟩
  ·exact .inr Z0
 ·exact .inl ⟨i,eZ0 e3 hi⟩
end
end Go.Proofs.Ytejgmoenmbjidaa
namespace Go.Proofs.Ytejgmoenmbjidaa
open Go Go.RowKit Go.Ev
noncomputable section
set_option maxRecDepth 100000
variable (G:Nat) (h:jB)
structure TkS (h:jB)(q:Pl)(w:Wi)(p:Nat)(m:jB)(h2:jB):Prop where
 at_:∃ q',q'.p=q.p∧WAt h2 q' (tkW w p)∧∀ b,q'.B b→q.B b∨(m.next≤b∧h.next+2≤b)
 gr:jI m h2 (λb=>q.B b∨b=h.next+1)
def TkJ0 (h:jB)(q:Pl)(w:Wi):Z8 (Nat×jB)→jB→Prop
 | none,h2=>WAt h2 q (tkW w 0)
 | some (p,m),h2=>TkS h q w p m h2
structure TkJ (h:jB)(q:Pl)(w:Wi)(i:Z8 (Nat×jB))(h2:jB):Prop where
 j:TkJ0 h q w i h2
 g:jI h h2 q.B
theorem TkJ.grew {h h2 h3:jB}{q:Pl}{w:Wi}{i:Z8 (Nat×jB)}{S:Nat→Prop}(a:TkJ h q w i h2)(g:jI h2 h3 S)(hb:∀ b,q.B b→b<h.next)(hS:∀ b,S b→b=h.next+1):TkJ h q w i h3:=by
 have h0:∀ b,q.B b→¬ S b:=λb h1 h2=>by have:=hb b h1;have:=hS b h2;omega
 obtain ⟨a,ga⟩:=a
 refine ⟨?_,ga.tr' g λb hb e=>by have:=hS b e;omega⟩
 match i,a with
 | none,a=>exact WAt.grew (show WAt h2 q (tkW w 0) from a) g h0
 | some (p,m),a=>
  obtain ⟨⟨q',h1,h4,h5⟩,h6⟩:=a
  refine ⟨⟨q',h1,h4.grew g λb h6 h7=>?_,h5⟩,h6.tr' g λb _ e=>.inr (hS b e)⟩
  have:=hS b h7
  rcases h5 b h6 with h8|h8
  ·exact h0 b h8 h7
  ·omega
def TkI (w:Wi)(i j:Z8 (Nat×jB))(args:List Z6):Prop:=∃ p m o,i=some (p,m)∧j=some (p+1,m)∧w.op[p]?=some o∧o.time=w.ck+1∧args=[.int .i64 o.key]
def TkF (w:Wi)(i:Z8 (Nat×jB)):Prop:=∃ m,i=some (w.op.length,m)
theorem due_f {p:Nat}(hp:p<h.next):jG (pp G) 47 [.pointer (some ⟨p,0,none⟩)] h (λv h'=>v=.func (.func 51) #[] #[.pointer (some ⟨h.next,0,none⟩)]∧h'=h.add (O [.pointer (some ⟨p,0,none⟩)] 24 false)):=by
 refine jG.fir4 (jW G) fir47 rfl rfl (bZ1 ..) λhlo=>?_
 rw[dK1]
 simp(disch:=first|omega|(apply id;simp only[push_cast];first|done|omega))only[push_cast,Nat.reduceAdd,Nat.reduceMul,Nat.reduceSub,Nat.reduceLT,Nat.reduceEqDiff,Nat.reduceLeDiff,Int.reduceToNat,reduceCtorEq,Int.reduceLT,Int.reduceLE,Int.reduceAdd,Int.reduceSub,Int.reduceMul,Int.reduceNeg,Int.reduceEq,hp]
inductive I51 (h h1 m:jB)(q:Pl)(w:Wi)(bx:Nat)(aa:Z8 Addr)(c:Nat)(Y:Z8 (Nat×jB)→jB→Prop):Nat→S→Prop
 | mk {p : Nat} {h3 : jB} {x2 x3 x4 x5 x9 xA xB xC xD xE xF xG xH xI xJ xK xL xM xN xO xP xQ xR xS xT xU : Z6} : p ≤ w.op.length → Y (some (p, m)) h3 → jI h1 h3 (fun k => (q.B k ∨ h.next + 2 ≤ k) ∨ False ∨ k = h.next + 1) →
   I51 h h1 m q w bx aa c Y (w.op.length-p) ⟨(F31 (.func (.yield (h.next+1)) #[] #[]) (.pointer (some ⟨bx,0,none⟩)) x2 x3 x4 x5 (.slice aa w.op.length c) (.int .i64 w.op.length) (.int .i64 p) x9 xA xB xC xD xE xF xG xH xI xJ xK xL xM xN xO xP xQ xR xS xT xU),[],h3⟩
theorem rV1 {h h1:jB}{q:Pl}{w:Wi}{bx:Nat}(Y:Z8 (Nat×jB)→jB→Prop)
  (hlt:∀ b,q.B b→b<h.next) (hn:w.op.length≤12) (hr:Ris (w.op.map (·.key)))
  (cbx:cells h bx=some ([.pointer (some ⟨q.p,0,none⟩)],24,false)) (hbl:h.lo≤bx) (hbx:bx<h.next) (hnb:¬ q.B bx)
  (g1:jI h h1 (λ_=>False)) (n1:h1.next=h.next+2) (y0:Y none h1)
  (hround:∀ i j h2 args,Y i h2→h.next+2≤h2.next→h2.lo=h.lo→TkI w i j args→gR (pp G) (h.next+1) args h2 (λv h3=>v=.bool true∧Y j h3∧jI h2 h3 (λk=>(q.B k∨h.next+2≤k)∨k=h.next+1)))
  (hstab:∀ i h2 h3,Y i h2→jI h2 h3 (λ_=>False)→Y i h3) (hY:∀ i h2,Y i h2→TkJ h q w i h2) (hre:∀ i j h2,Y i h2→TkJ h q w j h2→Y j h2) :
  jG (pp G) 51 [.func (.yield (h.next+1)) #[] #[],.pointer (some ⟨bx,0,none⟩)] h1 (λ_ h2=>(∃ i,TkF w i∧Y i h2)∧jI h1 h2 (λk=>(q.B k∨h.next+2≤k)∨False∨k=h.next+1)):=by
 refine jG.fir4 (jW G) fir51 rfl rfl (lN1 ..) λhlo=>?_
 rw[dG1]
 have cb1:=g1.cellsE cbx hbx id
 have l1:=g1.lo
 simp(disch:=first|omega|(apply id;simp only[push_cast];first|done|omega))only[push_cast,Nat.reduceAdd,Nat.reduceMul,Nat.reduceSub,Nat.reduceLT,Nat.reduceEqDiff,Nat.reduceLeDiff,Int.reduceToNat,reduceCtorEq,Int.reduceLT,Int.reduceLE,Int.reduceAdd,Int.reduceSub,Int.reduceMul,Int.reduceNeg,Int.reduceEq,cb1]
 have a1:WAt h1 q (tkW w 0):=(hY none h1 y0).j
 have hk:=uU0 w 0
 have hl0:(tkW w 0).op.length=w.op.length:=by simpa using congrArg List.length hk
 refine jG.to (sE0 G a1 (by rw[hl0];exact hn) (by rw[hk];exact hr)) ?_
 rintro _ m ⟨⟨aa,c,rfl,hs,hba,hno⟩,gm⟩
 rw[hk] at hs
 rw[hl0]
 simp(disch:=first|omega|(apply id;simp only[push_cast];first|done|omega))only[push_cast,Nat.reduceAdd,Nat.reduceMul,Nat.reduceSub,Nat.reduceLT,Nat.reduceEqDiff,Nat.reduceLeDiff,Int.reduceToNat,reduceCtorEq,Int.reduceLT,Int.reduceLE,Int.reduceAdd,Int.reduceSub,Int.reduceMul,Int.reduceNeg,Int.reduceEq]
 have nm:=gm.next
 have ym:Y (some (0,m)) m:=by
  have y1:=hstab _ _ _ y0 gm
  exact hre _ _ _ y1 ⟨⟨⟨q,rfl,(hY _ _ y1).j,λb hb=>.inl hb⟩,jI.refl _ _⟩,(hY _ _ y1).g⟩
 refine W.loop4 (jW G) (I51 h h1 m q w bx aa c Y) ?_ _ _ (I51.mk (Nat.zero_le _) ym (jI.mono gm λ_ _ h=>h.elim))
 intro k s1 hI
 cases hI with|@mk p h3 _ _ _ _ _ _ _ _ _ _ _ _ _ _ _ _ _ _ _ _ _ _ _ _ _ _ hp hy g3=>
 rw[nB0]
 by_cases hlt2:p<w.op.length
 ·obtain ⟨o,ho⟩:∃ o,w.op[p]?=some o:=⟨_,List.getElem?_eq_getElem hlt2⟩
  have ts:TkS h q w p m h3:=(hY _ _ hy).j
  have hb3:=g3.cellsE cb1 Z0 (λe=>by rcases e with (e|e)|e|e<;>first|exact hnb e|exact e|omega)
  have hs3 := Sl.grew hs ts.gr fun b hb _ => ⟨(hba b hb).2, fun e => by
    have:=hba b hb
    rcases e with e|e
    ·have:=hlt b e;omega
    ·omega⟩
  obtain ⟨q',hq,a3,hB⟩:=ts.at_
  have c3:=a3.cell
  have l3:=g3.lo
  have n3:=g3.next
  have hkey:(ivs (w.op.map (·.key)))[p]?=some (.int .i64 o.key):=by
   simp[ivs,ho]
  obtain ⟨b,off,rfl,hld⟩:=Sl.load hs3 bJ hkey
  rw[bG,bJ] at hld
  obtain ⟨o',hlk,ho'⟩:=lR0 a3.op o.key false
  obtain ⟨u1,u2⟩:=ho' (jU0.2 ⟨o,eY0 ho,rfl⟩)
  have hd3:((tkW w p).op.map (·.key)).Nodup:=by rw[uU0];exact jJ0 hr
  have e:=bV0 hd3 u1 (eY0 ho) u2
  subst e
  unfold asV at hlk
  rw[hq] at c3
  unfold wcs at c3
  have hck:(tkW w p).ck=w.ck+1:=rfl
  rw[hck] at c3
  have hl3:h3.lo≤q.p:=by rw[← hq];exact a3.lo
  have hp1:(p:Int)<(w.op.length:Int):=Z0
  have hwr:IntKind.i64.wrap ((p:Int)+1)=(((p+1:Nat)):Int):=(wrap_i64 Z0 Z0).trans Z0
  by_cases ht:o'.time=w.ck+1
  ·simp(disch:=first|omega|(apply id;simp only[push_cast];first|done|omega))only[push_cast,Nat.reduceAdd,Nat.reduceMul,Nat.reduceSub,Nat.reduceLT,Nat.reduceEqDiff,Nat.reduceLeDiff,Int.reduceToNat,reduceCtorEq,Int.reduceLT,Int.reduceLE,Int.reduceAdd,Int.reduceSub,Int.reduceMul,Int.reduceNeg,Int.reduceEq,hp1,hlt2,Z4,hld,hb3,c3,hl3,hlk,ht,hwr,cL0]
   refine gR.mono (hround (some (p,m)) (some (p+1,m)) h3 _ hy Z0 Z0 ⟨p,m,o',rfl,rfl,ho,ht,rfl⟩) ?_
   rintro _ h4 ⟨rfl,hy4,g4⟩
   simp(disch:=first|omega|(apply id;simp only[push_cast];first|done|omega))only[push_cast,Nat.reduceAdd,Nat.reduceMul,Nat.reduceSub,Nat.reduceLT,Nat.reduceEqDiff,Nat.reduceLeDiff,Int.reduceToNat,reduceCtorEq,Int.reduceLT,Int.reduceLE,Int.reduceAdd,Int.reduceSub,Int.reduceMul,Int.reduceNeg,Int.reduceEq,hwr]
   exact ⟨w.op.length-(p+1),Z0,I51.mk Z0 hy4 (g3.tr' g4 λb _ e=>e.elim .inl λe=>.inr (.inr e))⟩
  ·simp(disch:=first|omega|(apply id;simp only[push_cast];first|done|omega))only[push_cast,Nat.reduceAdd,Nat.reduceMul,Nat.reduceSub,Nat.reduceLT,Nat.reduceEqDiff,Nat.reduceLeDiff,Int.reduceToNat,reduceCtorEq,Int.reduceLT,Int.reduceLE,Int.reduceAdd,Int.reduceSub,Int.reduceMul,Int.reduceNeg,Int.reduceEq,hp1,hlt2,Z4,hld,hb3,c3,hl3,hlk,ht,hwr]
   exact ⟨w.op.length-(p+1),Z0,I51.mk Z0 (hre _ (some (p+1,m)) _ hy ⟨⟨⟨q',hq,by rw[iZ0 ho ht];exact a3,hB⟩,ts.gr⟩,(hY _ _ hy).g⟩) g3⟩
 ·have hp1:¬ ((p:Int)<(w.op.length:Int)):=Z0
  simp(disch:=first|omega|(apply id;simp only[push_cast];first|done|omega))only[push_cast,Nat.reduceAdd,Nat.reduceMul,Nat.reduceSub,Nat.reduceLT,Nat.reduceEqDiff,Nat.reduceLeDiff,Int.reduceToNat,reduceCtorEq,Int.reduceLT,Int.reduceLE,Int.reduceAdd,Int.reduceSub,Int.reduceMul,Int.reduceNeg,Int.reduceEq,hp1]
  have:p=w.op.length:=Z0
  subst this
  exact ⟨⟨_,⟨m,rfl⟩,hy⟩,g3.mono λk _ e=>e.elim .inl λe=>e.elim False.elim .inr⟩
end
end Go.Proofs.Ytejgmoenmbjidaa
namespace Go.Proofs.Ytejgmoenmbjidaa
open Go Go.RowKit Go.Ev
noncomputable section
set_option maxRecDepth 100000
variable (G:Nat) (h:jB)
theorem WAt.setC {h h2:jB}{q:Pl}{w:Wi}(a:WAt h q w){ck:Int}(g:jI h h2 (λb=>b=q.p))(hc:cells h2 q.p=some (wcs q { w with ck:=ck },55,false)):WAt h2 q { w with ck:=ck }:=by
 have hS:∀ b i,i≠0→q.tg b i→¬ b=q.p:=λb i h0 ht e=>h0 (a.sep b i 0 ht e)
 exact ⟨hc,by rw[g.lo];exact a.lo,λb i ht=>Nat.lt_of_lt_of_le (a.lt b i ht) g.next,Sl.grew a.vs g λb hb _=>⟨a.lt b 1 hb,hS b 1 Z1 hb⟩,a.fl.grew g λb hb=>hS b 3 Z1 hb,a.ap.grew g λb hb=>hS b 4 Z1 hb,a.op.grew g λb hb=>hS b 2 Z1 hb,a.kn.grew g λb hb=>hS b 5 Z1 hb,a.sep⟩
theorem gY1 {q:Pl}{w:Wi}(a:WAt h q w)(hck:0≤w.ck∧w.ck<900000)(hn:w.fl.length<900000)(hop:w.op.length≤12)(hr:Ris (w.op.map (·.key)))(hw:∀ o∈w.op,0≤o.wait∧o.wait≤8) :
  jG (pp G) 26 [.pointer (some ⟨q.p,0,none⟩)] h (λv h'=>v=.tuple #[]∧Post h q (kK0 w) h'):=by
 refine jG.fir4 (jW G) fir26 rfl rfl (lJ1 ..) λhlo=>?_
 rw[eF1]
 have hc:=a.cell
 have hl:=a.lo
 have hlt:=bA a
 have g1:=λx=>(Gr.refl h).add' x
 have c1:=λx=>Gr.cells (g1 x) hc hlt
 have hw1:IntKind.i64.wrap (w.ck+1)=w.ck+1:=wrap_i64 Z0 Z0
 have a2:=λx=>(a.grew (g1 x) λ_ _ h=>h).setC (ck:=w.ck+1) ((jI.refl (h.add x) (λb=>b=q.p)).put'' q.p (O (wcs q { w with ck:=w.ck+1 }) 55 false) λ_=>rfl) (jO _ _ _ _)
 unfold wcs at hc c1
 simp(disch:=first|omega|(apply id;simp only[push_cast];first|done|omega))only[push_cast,Nat.reduceAdd,Nat.reduceMul,Nat.reduceSub,Nat.reduceLT,Nat.reduceEqDiff,Nat.reduceLeDiff,Int.reduceToNat,reduceCtorEq,Int.reduceLT,Int.reduceLE,Int.reduceAdd,Int.reduceSub,Int.reduceMul,Int.reduceNeg,Int.reduceEq,hlt,c1,hl,hw1]
 have A2:=a2 (O [.pointer (some ⟨q.p,0,none⟩)] 24 false)
 unfold wcs at A2
 dsimp only at A2
 have G2:jI h ((h.add (O [.pointer (some ⟨q.p,0,none⟩)] 24 false)).put q.p (O [.slice q.av w.vs.length q.cv,.int .i64 (w.ck+1),.map q.mo,.slice q.af w.fl.length q.cf,.slice q.aa w.ap.length q.ca,.map q.mq] 55 false)) q.B:=(((jI.refl h q.B).add' _).put'' q.p _ λ_=>⟨0,rfl⟩)
 have n2:((h.add (O [.pointer (some ⟨q.p,0,none⟩)] 24 false)).put q.p (O [.slice q.av w.vs.length q.cv,.int .i64 (w.ck+1),.map q.mo,.slice q.af w.fl.length q.cf,.slice q.aa w.ap.length q.ca,.map q.mq] 55 false)).next=h.next+1:=by rw[jN,jH]
 have cb2:cells ((h.add (O [.pointer (some ⟨q.p,0,none⟩)] 24 false)).put q.p (O [.slice q.av w.vs.length q.cv,.int .i64 (w.ck+1),.map q.mo,.slice q.af w.fl.length q.cf,.slice q.aa w.ap.length q.ca,.map q.mq] 55 false)) h.next=some ([.pointer (some ⟨q.p,0,none⟩)],24,false):=by rw[qH _ _ _ Z0,jP _ _ _ _ rfl]
 generalize (h.add (O [.pointer (some ⟨q.p,0,none⟩)] 24 false)).put q.p (O [.slice q.av w.vs.length q.cv,.int .i64 (w.ck+1),.map q.mo,.slice q.af w.fl.length q.cf,.slice q.aa w.ap.length q.ca,.map q.mq] 55 false)=H2 at *
 have l2:=G2.lo
 refine jG.to (due_f G H2 (p:=q.p) Z0) ?_
 rintro _ h3 ⟨rfl,e3⟩
 have g3:Gr H2 h3:=by rw[e3];exact jI.add _ _ _
 have n3:h3.next=h.next+2:=by rw[e3,jH,n2]
 have cb3:cells h3 h.next=some ([.pointer (some ⟨q.p,0,none⟩)],24,false):=Gr.cells g3 cb2 Z0
 have cd3:cells h3 (h.next+1)=some ([.pointer (some ⟨q.p,0,none⟩)],24,false):=by rw[e3,← n2];exact jP _ _ _ _ rfl
 have A3:WAt h3 q { w with ck:=w.ck+1 }:=A2.grew g3 λ_ _ h=>h
 have l3:=g3.lo
 clear e3
 simp(disch:=first|omega|(apply id;simp only[push_cast];first|done|omega))only[push_cast,Nat.reduceAdd,Nat.reduceMul,Nat.reduceSub,Nat.reduceLT,Nat.reduceEqDiff,Nat.reduceLeDiff,Int.reduceToNat,reduceCtorEq,Int.reduceLT,Int.reduceLE,Int.reduceAdd,Int.reduceSub,Int.reduceMul,Int.reduceNeg,Int.reduceEq]
 have hB:∀ b,q.B b→b<h.next:=λb ⟨i,hi⟩=>a.lt b i hi
 rw[← nF1] at A3
 refine W.eachS (jW G) kN1 kM1 (by show 44<U;unfold U;omega) (f:=51) (captured:=[.pointer (some ⟨h.next+1,0,none⟩)]) (by rw[n2];rfl) Z0 none (TkF w) (TkJ h3 q w) (λk=>q.B k∨h3.next+2≤k) (λ_=>False) (λi j h2 args=>TkI w i j args)
  (λargs=>F44 (.pointer (some ⟨q.p,0,none⟩)) (.pointer (some ⟨h.next,0,none⟩)) (args.headD undef) undef (.pointer (some ⟨q.p,0,none⟩)) (.pointer (some ⟨q.p,0,none⟩)) (.pointer (some ⟨q.p,1,none⟩)) (.int .i64 w.ck) (.int .i64 (w.ck+1)) (.pointer (some ⟨q.p,0,none⟩)) (.pointer (some ⟨q.p,1,none⟩)) (.pointer (some ⟨q.p,0,none⟩)) (.func (.func 51) #[] #[.pointer (some ⟨h.next+1,0,none⟩)]) (args.headD undef) undef undef undef undef undef undef undef undef undef undef undef undef undef undef undef undef undef undef undef undef undef undef undef undef undef undef undef undef undef undef)
  ?hST ?hJ0 ?hJ ?hlen ?hIt ?hA ?step ?iter ?hR
 case hST=>exact ⟨λe=>e.elim (λe=>by have:=hB _ e;omega) λe=>by omega,λe=>e.elim (λe=>by have:=hB _ e;omega) λe=>by omega,id,id⟩
 case hJ0=>exact ⟨A3,jI.refl _ _⟩
 case hJ=>exact λi h4 h5 hJ4 hn4 hl4 hg4=>TkJ.grew hJ4 hg4 (λb hb=>by have:=hB b hb;omega) λb hb=>hb.elim id False.elim
 case hlen=>
  rintro i j h4 args ⟨p,m,o,rfl,rfl,ho,ht,rfl⟩
  rfl
 case hIt=>exact λi j h4 h5 args hq _ _ _=>hq
 case hA=>
  rintro i j h4 args ⟨p,m,o,rfl,rfl,ho,ht,rfl⟩
  rw[← uF0]
  show vc3 (pp G) _ tQ0 ⟨F44 _ _ _ _ _ _ _ _ _ _ _ _ _ _ _ _ _ _ _ _ _ _ _ _ _ _ _ _ _ _ _ _ _ _ _ _ _ _ _ _ _ _ _ _,[],h4⟩ _
  rw[rO0]
  simp(disch:=first|omega|(apply id;simp only[push_cast];first|done|omega))only[push_cast,Nat.reduceAdd,Nat.reduceMul,Nat.reduceSub,Nat.reduceLT,Nat.reduceEqDiff,Nat.reduceLeDiff,Int.reduceToNat,reduceCtorEq,Int.reduceLT,Int.reduceLE,Int.reduceAdd,Int.reduceSub,Int.reduceMul,Int.reduceNeg,Int.reduceEq,List.headD_cons]
  rw[n2]
 case step=>
  rintro i j h4 args hJ4 hn4 hl4 ⟨p,m,o,rfl,rfl,ho,ht,rfl⟩
  obtain ⟨⟨⟨q',hq,a4,hB4⟩,gr4⟩,g4⟩:=hJ4
  rw[← uF0]
  have cb4:=g4.cellsE cb3 Z0 (λe=>by have:=hB _ e;omega)
  rw[← hq] at cb4
  have ck4:(tkW w p).ck=w.ck+1:=rfl
  have hp:=(List.getElem?_eq_some_iff.1 ho).1
  have hom:o∈w.op:=by rw[← (List.getElem?_eq_some_iff.1 ho).2];exact List.getElem_mem _
  have fl4:(tkW w p).fl.length≤w.fl.length+12:=by
   show (w.fl++rqs (w.ck+1) (w.op.take p)).length≤_
   have h1:=List.length_filter_le (λo=>decide (o.time=w.ck+1)) (w.op.take p)
   rw[List.length_take] at h1
   unfold rqs
   rw[List.length_append,List.length_map]
   omega
  refine cU1 G h4 a4 (bx:=h.next) (o:=o) cb4 Z0 Z0 (λe=>by rcases hB4 _ e with e|e;(have:=hB _ e;omega);omega) (eY0 ho) (by rw[ck4];omega) (hw o hom) Z0 (by rw[uU0];exact jJ0 hr) _ Z0 λtm h5 hp5=>?_
  obtain ⟨⟨q5,hq5,a5,hB5⟩,g5⟩:=hp5
  refine ⟨rfl,⟨⟨⟨q5,hq5.trans hq,?_,λb hb=>?_⟩,gr4.tr' g5 λb hb e=>?_⟩,g4.tr' g5 λb hb e=>?_⟩,g5.mono λb hb e=>?_⟩
  ·rw[cQ1 ho ht (jJ0 hr)];rw[ck4] at a5;exact a5
  ·rcases hB5 b hb with h1|h1
   ·exact hB4 b h1
   ·have:=gr4.next;exact .inr Z0
  ·rcases hB4 b e with h1|h1
   ·exact .inl h1
   ·omega
  ·rcases hB4 b e with h1|h1
   ·exact h1
   ·omega
  ·rcases hB4 b e with h1|h1
   ·exact .inl h1
   ·exact .inr h1.2
 case iter=>
  intro h4 Y hg4 hn4 hY0 hround hstab hYJ hre
  exact (rV1 G Y (λb hb=>by have:=hB b hb;omega) hop hr cd3 Z0 Z0 (λe=>by have:=hB _ e;omega) hg4 hn4 hY0 hround hstab hYJ hre)
 case hR=>
  rintro i h4 ⟨m,rfl⟩ ⟨⟨⟨q',hq,a4,hB4⟩,gr4⟩,g4⟩ hg4 hn4 hd
  have hm:h4.lo≤h3.next:=by have:=g4.lo;omega
  rw[pW0] at a4
  have hgp:jI h4 (h4.put h3.next ⟨.deferred none,false⟩) (λk=>k=h3.next):=(jI.refl h4 _).put'' _ _ λ_=>rfl
  simp(disch:=first|omega|(apply id;simp only[push_cast];first|done|omega))only[push_cast,Nat.reduceAdd,Nat.reduceMul,Nat.reduceSub,Nat.reduceLT,Nat.reduceEqDiff,Nat.reduceLeDiff,Int.reduceToNat,reduceCtorEq,Int.reduceLT,Int.reduceLE,Int.reduceAdd,Int.reduceSub,Int.reduceMul,Int.reduceNeg,Int.reduceEq,zL0 hd hm]
  refine ⟨⟨q',hq,a4.grew hgp λb hb e=>?_,λb hb=>?_⟩,((G2.tr' g3 λ_ _ h=>h.elim).tr' g4 λb _ e=>e).tr' hgp λb hb e=>by omega⟩
  ·rcases hB4 b hb with h1|h1
   ·have:=hB b h1;omega
   ·omega
  ·rcases hB4 b hb with h1|h1
   ·exact .inl h1
   ·exact .inr Z0
end
end Go.Proofs.Ytejgmoenmbjidaa
namespace Go.Proofs.Ytejgmoenmbjidaa
open Go Go.RowKit Go.Ev
noncomputable section
set_option maxRecDepth 100000
structure WOk (w:Wi)(n:Nat):Prop where
 ck:0≤w.ck∧w.ck≤n
 fl:w.fl.length≤12*n
 ap:w.ap.length≤n
 ris:Ris (w.op.map (·.key))
 wt:∀ o∈w.op,0≤o.wait∧o.wait≤8
 kp:w.kp=w.ap
def WRg (w:Wi):Prop:=∀ o∈w.op,0≤o.key∧o.key<12
theorem rY0:∀ (l:List Int) (a:Int),Ris l→(∀ k∈l,a≤k∧k<12)→l.length≤(12-a).toNat
 | [],a,_,_=>Nat.zero_le _
 | x :: l,a,h,hr=>by
  unfold Ris at h
  rw[List.pairwise_cons] at h
  have h1:=hr x (List.mem_cons_self ..)
  have h2:=rY0 l (x+1) h.2 λk hk=>by
   have:=h.1 k hk
   have:=hr k (List.mem_cons_of_mem _ hk)
   omega
  rw[List.length_cons]
  omega
theorem gH0 {w:Wi}{n:Nat}(ok:WOk w n)(rg:WRg w):w.op.length≤12:=by
 have:=rY0 (w.op.map (·.key)) 0 ok.ris λk hk=>by
  obtain ⟨o,ho,rfl⟩:=List.mem_map.1 hk
  exact rg o ho
 simpa using this
theorem gI0 (vs:List Int):WOk (newW vs) 0:=⟨⟨Int.le_refl _,Int.le_refl _⟩,Z3 _,Z3 _,List.Pairwise.nil,λo ho=>(by cases ho),rfl⟩
theorem bJ1 (vs:List Int):WRg (newW vs):=λo ho=>by cases ho
theorem WOk.le {w:Wi}{n m:Nat}(ok:WOk w n)(h:n≤m):WOk w m:=⟨by have:=ok.ck;omega,by have:=ok.fl;omega,by have:=ok.ap;omega,ok.ris,ok.wt,ok.kp⟩
theorem sM0 {x o:Opn}{l:List Opn}(h:o∈insK x l):o=x∨o∈l:=by
 have:=(wB0 x l).mem_iff.2 h
 exact List.mem_cons.1 this
theorem mN0 {w:Wi}{n:Nat}(ok:WOk w n)(nm:List Zu)(k:Int):WOk (askW w nm k) (n+1):=by
 unfold askW
 cases hk:gJ k w.op with
 | true=>exact ok.le (Nat.le_succ _)
 | false=>
  refine ⟨by have:=ok.ck;show 0≤w.ck∧w.ck≤_;omega,?_,by have:=ok.ap;show w.ap.length≤_;omega,rZ0 _ _ ok.ris hk,λo ho=>?_,ok.kp⟩
  ·show (w.fl++[_]).length≤_
   have:=ok.fl
   rw[List.length_append,List.length_singleton]
   omega
  ·rcases sM0 ho with rfl|ho
   ·exact ⟨(by decide:(0:Int)≤1),(by decide:(1:Int)≤8)⟩
   ·exact ok.wt o ho
theorem bT1 {w:Wi}(rg:WRg w)(nm:List Zu)(k:Int)(h:0≤k∧k<12):WRg (askW w nm k):=by
 unfold askW
 cases hk:gJ k w.op with
 | true=>exact rg
 | false=>
  intro o ho
  rcases sM0 ho with rfl|ho
  ·exact h
  ·exact rg o ho
theorem dT0 {w:Wi}{n:Nat}(ok:WOk w n)(k:Int):WOk (uY w k) n:=
 ⟨ok.ck,ok.fl,ok.ap,eY1 _ _ ok.ris,λo ho=>ok.wt o ((kE0 k w.op).subset ho),ok.kp⟩
theorem dS0 {w:Wi}(rg:WRg w)(k:Int):WRg (uY w k):=λo ho=>rg o ((kE0 k w.op).subset ho)
theorem kG1 {w:Wi}{n:Nat}(ok:WOk w n):WOk (wH0 w) n:=⟨ok.ck,ok.fl,ok.ap,List.Pairwise.nil,λo ho=>(by cases ho),ok.kp⟩
theorem kF1 (w:Wi):WRg (wH0 w):=λo ho=>by cases ho
theorem pY0 {w:Wi}{n:Nat}(ok:WOk w n)(hl:w.op.length≤12):WOk (kK0 w) (n+1):=by
 refine ⟨by have:=ok.ck;show 0≤w.ck+1∧w.ck+1≤_;omega,?_,by have:=ok.ap;show w.ap.length≤_;omega,?_,λo ho=>?_,ok.kp⟩
 ·show (w.fl++rqs (w.ck+1) w.op).length≤_
  have h1:=List.length_filter_le (λo=>decide (o.time=w.ck+1)) w.op
  have:=ok.fl
  unfold rqs
  rw[List.length_append,List.length_map]
  omega
 ·show Ris ((w.op.map (bmp (w.ck+1))).map (·.key))
  rw[sN0];exact ok.ris
 ·obtain ⟨x,hx,rfl⟩:=List.mem_map.1 ho
  have:=ok.wt x hx
  unfold bmp
  split
  ·show 0≤min (2*x.wait) 8∧min (2*x.wait) 8≤8
   omega
  ·exact this
theorem pX0 {w:Wi}(rg:WRg w):WRg (kK0 w):=λo ho=>by
 obtain ⟨x,hx,rfl⟩:=List.mem_map.1 ho
 rw[yK0];exact rg x hx
theorem yH0 {w:Wi}{n:Nat}(ok:WOk w n)(i:Int):WOk (jX w i) n:=by
 unfold jX
 split
 ·exact ⟨ok.ck,Nat.le_trans (List.eraseIdx_sublist ..).length_le ok.fl,ok.ap,ok.ris,ok.wt,ok.kp⟩
 ·exact ok
theorem iH0 (w:Wi)(i:Int):(jX w i).op=w.op:=by unfold jX;split<;>rfl
theorem iG0 {w:Wi}(rg:WRg w)(i:Int):WRg (jX w i):=by unfold WRg;rw[iH0];exact rg
def jX0 (w:Wi)(i:Int):Wi:=if 0≤i∧i<w.fl.length then { w with fl:=w.fl++(w.fl[i.toNat]?).toList } else w
theorem uY1 {w:Wi}{n:Nat}(ok:WOk w n)(i:Int):WOk (jX0 w i) (n+1):=by
 unfold jX0
 split
 ·refine ⟨by have:=ok.ck;show 0≤w.ck∧w.ck≤_;omega,?_,by have:=ok.ap;show w.ap.length≤_;omega,ok.ris,ok.wt,ok.kp⟩
  show (w.fl++(w.fl[i.toNat]?).toList).length≤_
  have:=ok.fl
  rw[List.length_append]
  have:(w.fl[i.toNat]?).toList.length≤1:=by cases w.fl[i.toNat]?<;>simp
  omega
 ·exact ok.le (Nat.le_succ _)
theorem uX1 {w:Wi}(rg:WRg w)(i:Int):WRg (jX0 w i):=by unfold jX0;split<;>exact rg
theorem kR1 {w:Wi}{n:Nat}(ok:WOk w n)(e:Evt):WOk (jY w e).2 (n+1)∧(jY w e).2.fl=w.fl∧(jY w e).2.op=w.op:=by
 unfold jY
 cases kF e.key w.kp with
 | some v=>exact ⟨ok.le (Nat.le_succ _),rfl,rfl⟩
 | none=>
  refine ⟨⟨by have:=ok.ck;show 0≤w.ck∧w.ck≤_;omega,by have:=ok.fl;show w.fl.length≤_;omega,?_,ok.ris,ok.wt,?_⟩,rfl,rfl⟩
  ·show (w.ap++[_]).length≤_
   have:=ok.ap
   rw[List.length_append,List.length_singleton]
   omega
  ·show w.kp++[_]=w.ap++[_]
   rw[ok.kp]
theorem uC0 {w:Wi}{n:Nat}(ok:WOk w n)(i:Int):WOk (jQ w i).2 (n+1):=by
 unfold jQ
 split
 ·rename_i hi
  split
  ·exact ok.le (Nat.le_succ _)
  ·rename_i m hm
   split
   ·split
    ·exact (dT0 (yH0 ok i) _).le (Nat.le_succ _)
    ·exact (yH0 ok i).le (Nat.le_succ _)
   ·obtain ⟨k1,k2,k3⟩:=kR1 (yH0 ok i) m.e
    refine ⟨k1.ck,?_,k1.ap,k1.ris,k1.wt,k1.kp⟩
    show ((jY (jX w i) m.e).2.fl++[_]).length≤_
    have:=(yH0 ok i).fl
    rw[List.length_append,List.length_singleton,k2]
    omega
 ·exact ok.le (Nat.le_succ _)
theorem kQ1 (w:Wi)(e:Evt):(jY w e).2.op=w.op:=by unfold jY;cases kF e.key w.kp<;>rfl
theorem gW0 {w:Wi}(rg:WRg w)(i:Int):WRg (jQ w i).2:=by
 unfold jQ
 split
 ·split
  ·exact rg
  ·rename_i m hm
   split
   ·split
    ·exact dS0 (iG0 rg i) _
    ·exact iG0 rg i
   ·unfold WRg
    show ∀ o∈(jY (jX w i) m.e).2.op,_
    rw[kQ1,iH0]
    exact rg
 ·exact rg
structure WW (h:jB)(p:Nat)(B:Nat→Prop)(w:Wi):Prop where
 has:∃ q:Pl,q.p=p∧WAt h q w∧∀ b,q.B b→B b∧b<h.next
theorem WW.mono {h:jB}{p:Nat}{B C:Nat→Prop}{w:Wi}(a:WW h p B w)(hb:∀ b,B b→C b):WW h p C w:=by
 obtain ⟨q,h1,h2,h3⟩:=a.has
 exact ⟨q,h1,h2,λb h=>⟨hb b (h3 b h).1,(h3 b h).2⟩⟩
theorem WW.grew {h h':jB}{p:Nat}{B S:Nat→Prop}{w:Wi}(a:WW h p B w)(g:jI h h' S)(hS:∀ b,B b→b<h.next→¬ S b):WW h' p B w:=by
 obtain ⟨q,h1,h2,h3⟩:=a.has
 exact ⟨q,h1,h2.grew g λb hb=>hS b (h3 b hb).1 (h3 b hb).2,λb hb=>⟨(h3 b hb).1,Nat.lt_of_lt_of_le (h3 b hb).2 g.next⟩⟩
structure WP (h:jB)(p:Nat)(B:Nat→Prop)(w':Wi)(h':jB):Prop where
 at_:WW h' p (λb=>B b∨h.next≤b) w'
 gr:jI h h' B
theorem WP.of {h h':jB}{q:Pl}{w':Wi}{B:Nat→Prop}(p:Post h q w' h')(hB:∀ b,q.B b→B b):WP h q.p B w' h':=by
 obtain ⟨⟨q',h1,h2,h3⟩,h4⟩:=p
 exact ⟨⟨q',h1,h2,λb hb=>⟨(h3 b hb).imp (hB b) id,by obtain ⟨i,hi⟩:=hb;exact h2.lt b i hi⟩⟩,h4.mono λb _=>hB b⟩
variable (G:Nat) {h:jB} {p:Nat} {B:Nat→Prop} {w:Wi} {n:Nat}
theorem sU1 (a:WW h p B w)(ok:WOk w n)(hn:n<1000)(e:Evt):jG (pp G) 24 [.pointer (some ⟨p,0,none⟩),.agg ⟨evC e⟩] h (λv h'=>v=.tuple #[]∧WP h p B (askW w e.nm e.key) h'):=by
 obtain ⟨q,rfl,h2,h3⟩:=a.has
 have:=ok.ck
 have:=ok.fl
 exact (sT1 G h h2 Z0 Z0 e).mono λv h' ⟨e,p⟩=>⟨e,WP.of p λb hb=>(h3 b hb).1⟩
theorem nH1 (a:WW h p B w)(ok:WOk w n)(hn:n<1000)(hl:w.op.length≤12):jG (pp G) 26 [.pointer (some ⟨p,0,none⟩)] h (λv h'=>v=.tuple #[]∧WP h p B (kK0 w) h'):=by
 obtain ⟨q,rfl,h2,h3⟩:=a.has
 have:=ok.ck
 have:=ok.fl
 exact (gY1 G h h2 Z0 Z0 hl ok.ris ok.wt).mono λv h' ⟨e,p⟩=>⟨e,WP.of p λb hb=>(h3 b hb).1⟩
theorem yJ0 (a:WW h p B w)(ok:WOk w n)(hn:n<1000)(i:Int):jG (pp G) 15 [.pointer (some ⟨p,0,none⟩),.int .i64 i] h (λv h'=>v=.tuple ⟨[.agg ⟨evC (jQ w i).1.1⟩,.bool (jQ w i).1.2]⟩∧WP h p B (jQ w i).2 h'):=by
 obtain ⟨q,rfl,h2,h3⟩:=a.has
 have:=ok.fl
 have:=ok.ap
 exact (eG0 G h h2 Z0 Z0 (jJ0 ok.ris) i).mono λv h' ⟨e,p⟩=>⟨e,WP.of p λb hb=>(h3 b hb).1⟩
theorem oN1 (h:jB)(xs:List Int)(ar:Z8 Addr)(cr:Nat)(hs:Sl h ar (ivs xs))(hb:∀ b,blk ar b→b<h.next)(hn:xs.length<1000000000000)(h0:ar=none→xs=[]) :
  jG (pp G) 11 [.slice ar xs.length cr] h (λv h'=>(∃ p:Nat,v=.pointer (some ⟨p,0,none⟩)∧WW h' p (λb=>h.next≤b) (newW xs))∧Gr h h'):=by
 exact (oM1 G h xs ar cr hs hb hn h0).mono λv h' ⟨⟨q,e,a,hb⟩,g⟩=>⟨⟨q.p,e,⟨q,rfl,a,λb h=>⟨hb b h,by obtain ⟨i,hi⟩:=h;exact a.lt b i hi⟩⟩⟩,g⟩
theorem cE0 (a:WW h p B w)(ok:WOk w n)(hn:n<1000):jG (pp G) 21 [.pointer (some ⟨p,0,none⟩)] h (Told h 49 msC w.fl):=by
 obtain ⟨q,rfl,h2,h3⟩:=a.has
 have:=ok.fl
 exact mD0 G h h2 Z0
theorem yM0 (a:WW h p B w)(ok:WOk w n)(hn:n<1000):jG (pp G) 23 [.pointer (some ⟨p,0,none⟩)] h (Told h 31 evC w.ap):=by
 obtain ⟨q,rfl,h2,h3⟩:=a.has
 have:=ok.ap
 exact eN0 G h h2 Z0
theorem dE0 (a:WW h p B w)(ok:WOk w n)(hl:w.op.length≤12):jG (pp G) 27 [.pointer (some ⟨p,0,none⟩)] h (λv h'=>(∃ aa c,v=.slice aa w.op.length c∧Sl h' aa (ivs (w.op.map (·.key)))∧(∀ b,blk aa b→h.next≤b∧b<h'.next)∧(aa=none→w.op=[]))∧Gr h h'):=by
 obtain ⟨q,rfl,h2,h3⟩:=a.has
 exact sE0 G h2 hl ok.ris
end
end Go.Proofs.Ytejgmoenmbjidaa
