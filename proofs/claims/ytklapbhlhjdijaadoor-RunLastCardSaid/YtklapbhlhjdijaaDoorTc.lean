/-
  A part of the proof: what the program's functions hand back,as theorems. No condition but those that each theorem names.
-/
import Derived.Test.YtklapbhlhjdijaaDoorTa
import Derived.Test.YtklapbhlhjdijaaDoorTb
import Derived.Test.YtklapbhlhjdijaaDoorExc
set_option linter.unusedSimpArgs false
set_option linter.unusedVariables false
namespace Go.Proofs.YtklapbhlhjdijaaDoor
open Go Go.RowKit Go.Ev Go.Dv
noncomputable section
set_option maxRecDepth 100000
variable (G:Nat×Nat)
def tmH (k a b:Int) (s:List UInt8) (e:Ex) (L:Value):List Value:=[.int .i64 k,.int .i64 a,.int .i64 b,.string (Tx s),.int .i64 e.k,.int .i64 e.n,.string (Tx e.s),Rw false eE e.l.length (cH e.l),L]
inductive NTs (σ:jA):Nat→Nat→Tm→List Value→Prop
 | leaf {lo hi:Nat} {t:Tm} (h:lo≤hi) (h12:t.k≠12) (h11:t.k≠11) (h7:t.k≠7):NTs σ lo hi t (tmC t)
 | blk {lo hi b : Nat} {a b' : Int} {s : List UInt8} {e : Ex} {x : Tm} {cx : List Value} (hx : NTs σ lo b x cx) (hc : cells σ b = some (cx, etm, false)) (hb : b < hi) :
   NTs σ lo hi (.mk 7 a b' s e [x]) (tmH 7 a b' s e (.slice (some ⟨b,0,none⟩) 1 1))
 | seq {lo hi b : Nat} {a b' : Int} {s : List UInt8} {e : Ex} {x y : Tm} {cx : List Value} (hx : NTs σ lo b x cx) (hc : cells σ b = some (cx ++ tmC y, etm, false)) (hb : b < hi) :
   NTs σ lo hi (.mk 12 a b' s e [x,y]) (tmH 12 a b' s e (.slice (some ⟨b,0,none⟩) 2 2))
 | par {lo m hi b : Nat} {a b' : Int} {s : List UInt8} {e : Ex} {x y : Tm} {cx cy : List Value} (hx : NTs σ lo m x cx) (hy : NTs σ m b y cy) (hc : cells σ b = some (cx ++ cy, etm, false)) (hb : b < hi) :
   NTs σ lo hi (.mk 11 a b' s e [x,y]) (tmH 11 a b' s e (.slice (some ⟨b,0,none⟩) 2 2))
theorem NTs.le {σ:jA} {lo hi:Nat} {t:Tm} {c:List Value} (h:NTs σ lo hi t c):lo≤hi:=by
 induction h<;>omega
theorem NTs.len {σ:jA} {lo hi:Nat} {t:Tm} {c:List Value} (h:NTs σ lo hi t c):c.length=9:=by
 cases h<;>first|exact kU _|rfl
theorem NTs.one {σ:jA} {lo hi:Nat} {t:Tm} {c:List Value} (h:NTs σ lo hi t c):c.all one=true:=by
 cases h<;>first|exact qK0 _|rfl
theorem NTs.mono {σ:jA} {lo hi:Nat} {t:Tm} {c:List Value} (h:NTs σ lo hi t c):∀ {lo' hi':Nat},lo'≤lo→hi≤hi'→NTs σ lo' hi' t c:=by
 induction h with
 | leaf h h12 h11 h7=>intro lo' hi' h1 h2;exact .leaf (by omega) h12 h11 h7
 | blk hx hc hb ih=>intro lo' hi' h1 h2;exact .blk (ih h1 (Nat.le_refl _)) hc (by omega)
 | seq hx hc hb ih=>intro lo' hi' h1 h2;exact .seq (ih h1 (Nat.le_refl _)) hc (by omega)
 | par hx hy hc hb ihx ihy=>intro lo' hi' h1 h2;exact .par (ihx h1 (Nat.le_refl _)) hy hc (by omega)
theorem NTs.grew {σ σ':jA} {S:Nat→Prop} {lo hi:Nat} {t:Tm} {c:List Value} (h:NTs σ lo hi t c) (g:jC σ σ' S) (hS:∀ k,lo≤k→k<hi→¬ S k) (hn:hi≤σ.next):NTs σ' lo hi t c:=by
 induction h with
 | leaf h h12 h11 h7=>exact .leaf h h12 h11 h7
 | blk hx hc hb ih=>
  have:=hx.le
  exact .blk (ih (fun k h1 h2=>hS k h1 (by omega)) (by omega)) ((g.cells (by omega) (hS _ (by omega) hb)).trans hc) hb
 | seq hx hc hb ih=>
  have:=hx.le
  exact .seq (ih (fun k h1 h2=>hS k h1 (by omega)) (by omega)) ((g.cells (by omega) (hS _ (by omega) hb)).trans hc) hb
 | par hx hy hc hb ihx ihy=>
  have:=hx.le
  have:=hy.le
  exact .par (ihx (fun k h1 h2=>hS k h1 (by omega)) (by omega)) (ihy (fun k h1 h2=>hS k (by omega) (by omega)) (by omega)) ((g.cells (by omega) (hS _ (by omega) hb)).trans hc) hb
theorem yQ0 {P:Program} {n:Nat} {σ:jA} {L D:Value} (k a b:Int) (s:List UInt8) (e:Ex) (hn:0<n) (h:FzV P n σ L D):FzL P n σ (tmH k a b s e L) (tmH k a b s e D):=
 .cons (.id rfl) (.cons (.id rfl) (.cons (.id rfl) (.cons (.id rfl) (.cons (.id rfl) (.cons (.id rfl) (.cons (.id rfl) (.cons (.id (pD0 _ hn ..)) (.cons h .nil))))))))
theorem gA0 {P:Program} {n:Nat} {σ:jA} {b m:Nat} {cs:List Value} {l:List Tm} (h9:szT P etm=some 9) (hb:n≤b) (hc:cells σ b=some (cs,etm,false)) (hl:l.length=m) (hm:m<100) (hz:FzL P n σ cs (jZ l)) (hcl:cs.length=m*9):FzV P n σ (.slice (some ⟨b,0,none⟩) m m) (Rw false etm l.length (jZ l)):=by
 subst hl
 refine .sl hb hc h9 (by decide) (by omega) (.inl ⟨by simp only[UC];omega,Nat.le_refl _⟩) ?_
 rw[List.drop_zero,List.take_of_length_le (by omega)]
 exact hz
theorem NTs.fz {P:Program} (h9:szT P etm=some 9) {n:Nat} (hn:0<n) {σ:jA} {lo hi:Nat} {t:Tm} {c:List Value} (h:NTs σ lo hi t c) (hlo:n≤lo):FzL P n σ c (tmC t):=by
 induction h with
 | leaf=>exact .ids (qJ0 n hn _)
 | blk hx hc hb ih=>
  have:=hx.le
  exact yQ0 _ _ _ _ _ hn (gA0 h9 (by omega) hc rfl (by decide) (by rw[jK0];exact ih hlo) (by rw[hx.len]))
 | @seq lo hi b a b' s e x y cx hx hc hb ih=>
  have:=hx.le
  refine yQ0 _ _ _ _ _ hn (gA0 (l:=[x,y]) h9 (by omega) hc rfl (by decide) ?_ (by rw[List.length_append,hx.len,kU]))
  rw[show jZ [x,y]=tmC x++tmC y by rw[jZ,jK0]]
  exact (ih hlo).app (.ids (qJ0 n hn _))
 | @par lo m hi b a b' s e x y cx cy hx hy hc hb ihx ihy=>
  have:=hx.le
  have:=hy.le
  refine yQ0 _ _ _ _ _ hn (gA0 (l:=[x,y]) h9 (by omega) hc rfl (by decide) ?_ (by rw[List.length_append,hx.len,hy.len]))
  rw[show jZ [x,y]=tmC x++tmC y by rw[jZ,jK0]]
  exact (ihx hlo).app (ihy (by omega))
def atT:Tm→List Int→Tm
 | t,[]=>t
 | .mk _ _ _ _ _ l,i :: p=>atT (l.getD i.toNat zT) p
def dD:Tm→List Int→Tm→Tm
 | _,[],x=>x
 | .mk k a b s e l,i :: p,x=>.mk k a b s e (l.set i.toNat (dD (l.getD i.toNat zT) p x))
inductive cJ:Tm→List Int→Prop
 | nil {t:Tm}:cJ t []
 | blk {a b:Int} {s:List UInt8} {e:Ex} {x:Tm} {p:List Int} (h:cJ x p):cJ (.mk 7 a b s e [x]) (0 :: p)
 | seq {a b:Int} {s:List UInt8} {e:Ex} {x y:Tm} {p:List Int} (h:cJ x p):cJ (.mk 12 a b s e [x,y]) (0 :: p)
 | parl {a b:Int} {s:List UInt8} {e:Ex} {x y:Tm} {p:List Int} (h:cJ x p):cJ (.mk 11 a b s e [x,y]) (0 :: p)
 | parr {a b:Int} {s:List UInt8} {e:Ex} {x y:Tm} {p:List Int} (h:cJ y p):cJ (.mk 11 a b s e [x,y]) (1 :: p)
structure LocT (σ:jA) (b off lo hi:Nat) (full:List Value) (ty:Nat) (t:Tm) (c:List Value):Prop where
 lc:cells σ b=some (full,ty,false)
 lw:off+9≤full.length
 lh:b<lo∨hi≤b
 ln:b<σ.next
 le:(full.drop off).take 9=c
 lt:NTs σ lo hi t c
 lp:0<b
 lg:hi≤σ.next
def Wr (P:Program) (n:Nat) (O:Nat→Prop) (σ:jA) (b off:Nat) (full:List Value) (ty:Nat) (t:Tm) (p:List Int) (bq oq loq hiq:Nat) (fullq:List Value) (tyq:Nat):Prop:=
 ∀ (σ':jA) (y:Tm) (cy:List Value),cy.length=9→jC σ σ' (fun k=>(k=bq∨(loq≤k∧k<hiq))∨O k)→cells σ' bq=some (setFrom fullq oq cy,tyq,false)→FzL P n σ' cy (tmC y)→
  ∃ c',c'.length=9∧cells σ' b=some (setFrom full off c',ty,false)∧FzL P n σ' c' (tmC (dD t p y))
theorem fE0 {full c:List Value} {off:Nat} (h:(full.drop off).take 9=c) (hc:c.length=9):setFrom full off c=full:=by
 unfold setFrom
 rw[hc,← h,← List.drop_drop,List.append_assoc,List.take_append_drop,List.take_append_drop]
theorem Wr.self {P:Program} {n:Nat} {O:Nat→Prop} {σ:jA} {b off lo hi:Nat} {full:List Value} {ty:Nat} {t:Tm}:Wr P n O σ b off full ty t [] b off lo hi full ty:=
 fun σ' y cy h1 _ h3 h4=>⟨cy,h1,h3,h4⟩
theorem wW0:∀ (t:Tm) (p q:List Int) (y:Tm),cJ t p→dD t (p++q) y=dD t p (dD (atT t p) q y)
 | t,[],q,y,_=>by simp[dD,atT]
 | .mk k a b s e l,i :: p,q,y,h=>by
  cases h with
  | blk h=>exact congrArg (fun z=>Tm.mk 7 a b s e [z]) (wW0 _ p q y h)
  | @seq _ _ _ _ x z _ h=>exact congrArg (fun w=>Tm.mk 12 a b s e [w,z]) (wW0 _ p q y h)
  | @parl _ _ _ _ x z _ h=>exact congrArg (fun w=>Tm.mk 11 a b s e [w,z]) (wW0 _ p q y h)
  | @parr _ _ _ _ x z _ h=>exact congrArg (fun w=>Tm.mk 11 a b s e [x,w]) (wW0 _ p q y h)
theorem Wr.trans {P:Program} {n:Nat} {O:Nat→Prop} {σ:jA} {b off:Nat} {full:List Value} {ty:Nat} {t:Tm} {p q:List Int} {b1 o1 l1 h1:Nat} {full1:List Value} {ty1:Nat} {b2 o2 l2 h2:Nat} {full2:List Value} {ty2:Nat}
  (ha:cJ t p) (w1:Wr P n O σ b off full ty t p b1 o1 l1 h1 full1 ty1) (w2:Wr P n O σ b1 o1 full1 ty1 (atT t p) q b2 o2 l2 h2 full2 ty2) (hb:b2=b1∨(l1≤b2∧b2<h1)) (hl:l1≤l2) (hh:h2≤h1) :
  Wr P n O σ b off full ty t (p++q) b2 o2 l2 h2 full2 ty2:=by
 intro σ' y cy c1 g c3 c4
 obtain ⟨c',d1,d2,d3⟩:=w2 σ' y cy c1 g c3 c4
 rw[wW0 t p q y ha]
 exact w1 σ' _ c' d1 (g.mono fun k _ hk=>by
  rcases hk with (rfl|⟨h3,h4⟩)|ho
  ·exact .inl hb
  ·exact .inl (.inr ⟨by omega,by omega⟩)
  ·exact .inr ho) d2 d3
theorem LocT.step {P:Program} (h9:szT P etm=some 9) {n:Nat} (hn:0<n) {O:Nat→Prop} {σ:jA} {b off lo hi:Nat} (hO:∀ k,O k→k≠b∧(k<lo∨hi≤k)) {full:List Value} {ty:Nat} {t:Tm} {c:List Value} (h:LocT σ b off lo hi full ty t c) (hlo:n≤lo) {i:Int} {p:List Int} (ha:cJ t (i :: p)) :
  ∃ (b1 m lo1 hi1:Nat) (full1:List Value) (x:Tm) (cx:List Value),c[8]?=some (.slice (some ⟨b1,0,none⟩) m m)∧0≤i∧i<m∧full1.length=m*9∧x=atT t [i]∧cJ t [i]∧LocT σ b1 (i.toNat*9) lo1 hi1 full1 etm x cx∧lo≤lo1∧lo≤b1∧b1<hi∧
   hi1≤hi∧Wr P n O σ b off full ty t [i] b1 (i.toNat*9) lo1 hi1 full1 etm∧cJ x p:=by
 obtain ⟨hc,hw,hhi,hnx,he,ht,hbp,hgn⟩:=h
 have hs:=fE0 he ht.len
 have old:∀ (σ':jA) (S:Nat→Prop),jC σ σ' S→¬ S b→cells σ' b=some (setFrom full off c,ty,false):=fun σ' S g hS=>by rw[hs];exact (g.cells hnx hS).trans hc
 cases ht with
 | leaf h h12 h11 h7=>
  cases ha<;>first|exact absurd rfl h7|exact absurd rfl h12|exact absurd rfl h11
 | @blk _ _ b1 a b' s e x cx hx hcc hb=>
  cases ha with
  | blk hp=>
   have hxl:=hx.le
   refine ⟨b1,1,lo,b1,cx,x,cx,rfl,by decide,by decide,by rw[hx.len],rfl,.blk .nil,⟨hcc,by rw[hx.len];decide,.inr (Nat.le_refl _),by omega,by rw[show (0:Int).toNat*9=0 from rfl,List.drop_zero,List.take_of_length_le (by rw[hx.len];exact Nat.le_refl _)],hx,by omega,by omega⟩,Nat.le_refl _,hxl,hb,by omega,?_,hp⟩
   intro σ' y cy c1 g c3 c4
   rw[show setFrom cx ((0:Int).toNat*9) cy=cy by unfold setFrom;rw[show (0:Int).toNat*9=0 from rfl,List.take_zero,List.nil_append,List.drop_of_length_le (by rw[hx.len];omega),List.append_nil]] at c3
   exact ⟨_,rfl,old σ' _ g (fun hh=>hh.elim (by omega) fun ho=>(hO _ ho).1 rfl),yQ0 _ _ _ _ _ hn (gA0 (l:=[y]) h9 (by omega) c3 rfl (by decide) (by rw[jK0];exact c4) (by rw[c1]))⟩
 | @seq _ _ b1 a b' s e x y cx hx hcc hb=>
  cases ha with
  | seq hp=>
   have hxl:=hx.le
   have hl:(cx++tmC y).length=18:=by rw[List.length_append,hx.len,kU]
   refine ⟨b1,2,lo,b1,cx++tmC y,x,cx,rfl,by decide,by decide,hl,rfl,.seq .nil,⟨hcc,by rw[hl];decide,.inr (Nat.le_refl _),by omega,by rw[show (0:Int).toNat*9=0 from rfl,List.drop_zero,List.take_left' hx.len],hx,by omega,by omega⟩,Nat.le_refl _,hxl,hb,by omega,?_,hp⟩
   intro σ' z cz c1 g c3 c4
   rw[show setFrom (cx++tmC y) ((0:Int).toNat*9) cz=cz++tmC y by unfold setFrom;rw[show (0:Int).toNat*9=0 from rfl,List.take_zero,List.nil_append,c1,Nat.zero_add,List.drop_left' hx.len]] at c3
   refine ⟨_,rfl,old σ' _ g (fun hh=>hh.elim (by omega) fun ho=>(hO _ ho).1 rfl),yQ0 _ _ _ _ _ hn (gA0 (l:=[z,y]) h9 (by omega) c3 rfl (by decide) ?_ (by rw[List.length_append,c1,kU]))⟩
   rw[show jZ [z,y]=tmC z++tmC y by rw[jZ,jK0]]
   exact c4.app (.ids (qJ0 n hn _))
 | @par _ m _ b1 a b' s e x y cx cy hx hy hcc hb=>
  have hxl:=hx.le
  have hyl:=hy.le
  have hl:(cx++cy).length=18:=by rw[List.length_append,hx.len,hy.len]
  cases ha with
  | parl hp=>
   refine ⟨b1,2,lo,m,cx++cy,x,cx,rfl,by decide,by decide,hl,rfl,.parl .nil,⟨hcc,by rw[hl];decide,.inr hyl,by omega,by rw[show (0:Int).toNat*9=0 from rfl,List.drop_zero,List.take_left' hx.len],hx,by omega,by omega⟩,Nat.le_refl _,by omega,hb,by omega,?_,hp⟩
   intro σ' z cz c1 g c3 c4
   rw[show setFrom (cx++cy) ((0:Int).toNat*9) cz=cz++cy by unfold setFrom;rw[show (0:Int).toNat*9=0 from rfl,List.take_zero,List.nil_append,c1,Nat.zero_add,List.drop_left' hx.len]] at c3
   have hy':=hy.grew g (fun k h1 h2 hk=>hk.elim (fun hk=>by omega) (fun hk=>by have:=hO k hk;omega)) (by omega)
   refine ⟨_,rfl,old σ' _ g (fun hh=>hh.elim (by omega) fun ho=>(hO _ ho).1 rfl),yQ0 _ _ _ _ _ hn (gA0 (l:=[z,y]) h9 (by omega) c3 rfl (by decide) ?_ (by rw[List.length_append,c1,hy.len]))⟩
   rw[show jZ [z,y]=tmC z++tmC y by rw[jZ,jK0]]
   exact c4.app (hy'.fz h9 hn (by omega))
  | parr hp=>
   refine ⟨b1,2,m,b1,cx++cy,y,cy,rfl,by decide,by decide,hl,rfl,.parr .nil,⟨hcc,by rw[hl];decide,.inr (Nat.le_refl _),by omega,by rw[show (1:Int).toNat*9=9 from rfl,List.drop_left' hx.len,List.take_of_length_le (by rw[hy.len];exact Nat.le_refl _)],hy,by omega,by omega⟩,hxl,by omega,hb,by omega,?_,hp⟩
   intro σ' z cz c1 g c3 c4
   rw[show setFrom (cx++cy) ((1:Int).toNat*9) cz=cx++cz by unfold setFrom;rw[show (1:Int).toNat*9=9 from rfl,List.take_left' hx.len,c1,List.drop_of_length_le (by rw[hl];omega),List.append_nil]] at c3
   have hx':=hx.grew g (fun k h1 h2 hk=>hk.elim (fun hk=>by omega) (fun hk=>by have:=hO k hk;omega)) (by omega)
   refine ⟨_,rfl,old σ' _ g (fun hh=>hh.elim (by omega) fun ho=>(hO _ ho).1 rfl),yQ0 _ _ _ _ _ hn (gA0 (l:=[x,z]) h9 (by omega) c3 rfl (by decide) ?_ (by rw[List.length_append,c1,hx.len]))⟩
   rw[show jZ [x,z]=tmC x++tmC z by rw[jZ,jK0]]
   exact (hx'.fz h9 hn (by omega)).app c4
def qn:Q:=⟨fun t=>Nat.beq t 24 || Nat.beq t 1000029,H0⟩
theorem qn_r:qn.m 24=true:=rfl
theorem qn_h:qn.H=H0:=rfl
theorem qn_b:qn.m 1000029=true:=rfl
def NrP (σ:jA) (t:Tm) (v:Value) (σ':jA):Prop:=∃ cs,v=.agg ⟨cs⟩∧NTs σ' σ.next σ'.next t cs∧jC σ σ' (fun _=>False)
theorem nQ0 (k a b:Int) (s:List UInt8) (e:Ex) (l:List Tm) (hse:smE e=true) {σ:jA} (hl:σ.lo=1) (hn:1≤σ.next) (q:Option Addr) (n m:Nat) :
  jP (pp G) H0 24 [tmV (.mk k a b s e l),.slice q n m] σ (fun v σ'=>v=.agg ⟨tmH k a b s e (.slice q n m)⟩∧jC σ σ' (fun _=>False)):=by
 refine jP.fir4 (q:=qq) (jW G) gI2 (by kernel_rfl) rfl rfl (nN0 ..) (by first|exact Nat.le_trans (show NGG≤1 by decide) (by omega)) ?_;rw[wH1]
 simp(disch:=first|omega|(apply id;simp only[push_cast];try omega))only[push_cast,simprocAttr]
 refine dK (oK0 G e hse) ?_
 simp(disch:=first|omega|(apply id;simp only[push_cast];try omega))only[push_cast,simprocAttr,pF0,hl]
 exact ⟨rfl,(by (repeat (first|exact Gr.refl _|assumption|(refine jC.put' ?_ _ _ (by first|omega|(simp only[push_cast];omega)))|(refine jC.add' ?_ _))))⟩
theorem oB0:slT Tryd.prog 24=some (etm,9,[.int .i64 0,.int .i64 0,.int .i64 0,.string (Tx []),.int .i64 0,.int .i64 0,.string (Tx []),.slice none 0 0,.slice none 0 0]):=by kernel_rfl
theorem rowN {c d:List Value} (hc:c.length=9) (hd:d.length=9) (h1:c.all one=true) (h2:d.all one=true) (σ:jA):bsD (qn.m 24) (slT Tryd.prog 24) 2 [(0,.agg ⟨c⟩),(1,.agg ⟨d⟩)] σ=some (.slice (some ⟨σ.next,0,none⟩) 2 2,σ.add (O (c++d) etm false)):=by
 match c,hc,d,hd with
 | [x0,x1,x2,x3,x4,x5,x6,x7,x8],_,[y0,y1,y2,y3,y4,y5,y6,y7,y8],_=>
  rw[oB0,iN0 (n:=9) _ _ _ _ (by decide),qn_r]
  exact bF1 (cs:=[x0,x1,x2,x3,x4,x5,x6,x7,x8]++[y0,y1,y2,y3,y4,y5,y6,y7,y8]) 2 (by rw[List.all_append,h1,h2];rfl)
theorem zS2 {c:List Value} (hc:c.length=9) (h1:c.all one=true) (σ:jA):bsD (qn.m 24) (slT Tryd.prog 24) 1 [(0,.agg ⟨c⟩)] σ=some (.slice (some ⟨σ.next,0,none⟩) 1 1,σ.add (O c etm false)):=by
 match c,hc with
 | [x0,x1,x2,x3,x4,x5,x6,x7,x8],_=>
  rw[oB0,iN0 (n:=9) _ _ _ _ (by decide),qn_r]
  exact bF1 (cs:=[x0,x1,x2,x3,x4,x5,x6,x7,x8]) 1 h1
theorem rowNd (y:Tm) {c:List Value} (hc:c.length=9) (h1:c.all one=true) (σ:jA):bsD (qn.m 24) (slT Tryd.prog 24) 2 [(0,.agg ⟨c⟩),(1,tmV y)] σ=some (.slice (some ⟨σ.next,0,none⟩) 2 2,σ.add (O (c++tmC y) etm false)):=rowN hc (kU y) h1 (qK0 y) σ
theorem NTs.k0 {σ:jA} {lo hi:Nat} {t:Tm} {c:List Value} (h:NTs σ lo hi t c):c[0]?=some (.int .i64 t.k):=by
 cases h with
 | leaf=>exact wO0 _
 | blk=>rfl
 | seq=>rfl
 | par=>rfl
def Nrm (G:Nat×Nat) (x:Tm):Prop:=∀ σ:jA,σ.lo=1→1≤σ.next→jP (pp G) H0 11 [tmV x] σ (NrP σ (jF x))
theorem kP2 (a b:Int) (s:List UInt8) (e:Ex) (x y:Tm) (hse:smE e=true) (hx:Nrm G x) (hy:Nrm G y) (hoy:jK (pp G) H0 25 [tmV y] (tmV y)):Nrm G (.mk 12 a b s e [x,y]):=by
 intro σ hl hn
 refine jP.fir4 (q:=qn) (jW G) iD0 (by kernel_rfl) rfl rfl (uH0 ..) (by rw[hl];exact (show NGG≤1 by decide)) ?_
 rw[qN0]
 rw[jF,if_pos rfl]
 simp(disch:=first|omega|(apply id;simp only[push_cast];try omega))only[push_cast,simprocAttr,qn_r,qn_b,qn_h]
 refine jD.func (cap:=[]) (hx _ (by rw[jN];exact hl) (by rw[jB];omega)) ?_
 rintro _ σ2 ⟨cx,rfl,hN,g⟩
 have c0:cells σ2 σ.next=some ([.int .i64 0,.int .i64 0,.int .i64 0,.string (Tx []),.int .i64 0,.int .i64 0,.string (Tx []),.slice none 0 0,.slice none 0 0],etm,false):=g.cellsE (kK _ _ _ _ rfl) (by rw[jB];omega) id
 have hl2:σ2.lo=1:=by rw[g.lo,jN,hl]
 have hn2:=g.next
 rw[jB] at hn2 hN
 have h9:=hN.len
 have h91:=hN.one
 have ht9:cx.take 9=cx:=List.take_of_length_le (by omega)
 have hd9:cx.drop 9=[]:=List.drop_of_length_le (by omega)
 have hcc:(Value.agg ⟨cx⟩).cells.toList=cx:=rfl
 have hk0:=hN.k0
 have g1:jC σ σ2 (fun _=>False):=(jC.add _ _ _).trans g fun _ _ h=>h
 generalize jF x=x' at *
 by_cases h0:x'.k=0
 ·rw[if_pos h0]
  simp(disch:=first|omega|(apply id;simp only[push_cast];try omega))only[push_cast,simprocAttr,qn_r,qn_b,qn_h,h9,h91,ht9,hd9,hcc,hk0,h0,hl2,c0]
  refine jD.func (cap:=[]) (hy _ (by rw[bZ,jN];exact hl2) (by rw[jI,jB];omega)) ?_
  rintro _ σ3 ⟨cy,rfl,hM,g3⟩
  have c1:cells σ3 σ.next=some ([.int .i64 0,.int .i64 0,.int .i64 0,.string (Tx []),.int .i64 0,.int .i64 0,.string (Tx []),.slice none 0 0,.slice none 0 0],etm,false):=g3.cellsE ((jH _ _ _ (by omega)).trans ((gD _ _ (by omega)).trans c0)) (by rw[jI,jB];omega) id
  have hl3:σ3.lo=1:=by rw[g3.lo,bZ,jN,hl2]
  have hn3:=g3.next
  rw[jI,jB] at hn3 hM
  have h9':=hM.len
  have h91':=hM.one
  have ht9':cy.take 9=cy:=List.take_of_length_le (by omega)
  have hd9':cy.drop 9=[]:=List.drop_of_length_le (by omega)
  have hcc':(Value.agg ⟨cy⟩).cells.toList=cy:=rfl
  simp(disch:=first|omega|(apply id;simp only[push_cast];try omega))only[push_cast,simprocAttr,qn_r,qn_b,qn_h,h9',h91',ht9',hd9',hcc',hl3,c1]
  have gA:jC σ2 (σ3.put σ.next (O cy etm false)) (fun k=>k=σ.next):=(((jC.add _ _ _).trans (jC.put _ _ _ (S:=fun k=>k=σ2.next) fun _=>rfl) fun i hi h=>absurd h (by omega)).trans g3 fun _ _ h=>h.elim).trans (jC.put _ _ _ (S:=fun k=>k=σ.next) fun _=>rfl) fun _ _ h=>h
  have gB:jC σ (σ3.put σ.next (O cy etm false)) (fun _=>False):=g1.trans gA fun i hi h=>absurd h (by omega)
  refine ⟨cy,rfl,NTs.mono (NTs.grew hM (jC.put _ _ _ (S:=fun k=>k=σ.next) fun _=>rfl) (fun k h1 h2=>(by omega:¬ k=σ.next)) (Nat.le_refl _)) (by omega) (by rw[jI];exact Nat.le_refl _),gB⟩
 ·rw[if_neg (by exact h0)]
  simp(disch:=first|omega|(apply id;simp only[push_cast];try omega))only[push_cast,simprocAttr,qn_r,qn_b,qn_h,h9,h91,ht9,hd9,hcc,hk0,h0,hl2,c0]
  refine dK (hoy) ?_
  simp(disch:=first|omega|(apply id;simp only[push_cast];try omega))only[push_cast,simprocAttr,qn_r,qn_b,qn_h,h9,h91,ht9,hd9,hcc,hk0,h0,hl2,c0,↓rowNd y h9 h91]
  refine jD.func (cap:=[]) (nQ0 G 12 a b s e [x,y] hse (by rw[jN,bZ,jN];exact hl2) (by rw[jB,jI,jB];omega) _ 2 2) ?_
  rintro _ σ4 ⟨rfl,g4⟩
  have c1:cells σ4 σ.next=some ([.int .i64 0,.int .i64 0,.int .i64 0,.string (Tx []),.int .i64 0,.int .i64 0,.string (Tx []),.slice none 0 0,.slice none 0 0],etm,false):=g4.cellsE ((gD _ _ (by rw[jI,jB];omega)).trans ((jH _ _ _ (by omega)).trans ((gD _ _ (by omega)).trans c0))) (by rw[jB,jI,jB];omega) id
  have c2:cells σ4 (σ2.next+1)=some (cx++tmC y,etm,false):=g4.cellsE (kK _ _ _ _ (by rw[jI,jB])) (by rw[jB,jI,jB];omega) id
  have hl4:σ4.lo=1:=by rw[g4.lo,jN,bZ,jN,hl2]
  have hn4:=g4.next
  rw[jB,jI,jB] at hn4
  unfold tmH
  simp(disch:=first|omega|(apply id;simp only[push_cast];try omega))only[push_cast,simprocAttr,qn_r,qn_b,qn_h,c1,hl4]
  have gA:∀ X,jC σ2 (σ4.put σ.next X) (fun k=>k=σ.next):=fun X=>((((jC.add _ _ _).trans (jC.put _ _ _ (S:=fun k=>k=σ2.next) fun _=>rfl) fun i hi h=>absurd h (by omega)).trans (jC.add _ _ _) fun _ _ h=>h).trans g4 fun _ _ h=>h.elim).trans (jC.put _ _ _ (S:=fun k=>k=σ.next) fun _=>rfl) fun _ _ h=>h
  have gB:∀ X,jC σ (σ4.put σ.next X) (fun _=>False):=fun X=>g1.trans (gA X) fun i hi h=>absurd h (by omega)
  exact ⟨_,rfl,NTs.seq (b:=σ2.next+1) (NTs.mono (NTs.grew hN (gA _) (fun k h1 h2=>(by omega:¬ k=σ.next)) (Nat.le_refl _)) (by omega) (by omega)) ((jH _ _ _ (by omega)).trans c2) (by rw[jI];omega),gB _⟩
@[reducible] def ZC:List Value:=[.int .i64 0,.int .i64 0,.int .i64 0,.string (Tx []),.int .i64 0,.int .i64 0,.string (Tx []),.slice none 0 0,.slice none 0 0]
theorem NTs.up {σ2 σf:jA} {L M:Nat} {t:Tm} {c:List Value} (h:NTs σ2 L M t c) (g:jC σ2 σf (fun k=>k<L∨M≤k)) (hM:M≤σ2.next):NTs σf L M t c:=
 NTs.grew h g (fun k h1 h2 h3=>by cases h3<;>omega) hM
theorem nrm_j (a b:Int) (s:List UInt8) (e:Ex) (x y:Tm) (hse:smE e=true) {σ0 σ:jA} {bx bz lo m hi:Nat} {x' y':Tm} {cx cy:List Value} {x0 x3 x6 x7 x8 x9 xA xB xC xD xE xF xG xH xI xJ xK xL xM xN xO xP xQ xR xS xT xU xV xW xX xY xZ yA yB yC yD yE yF yG yH yI yJ yK yL yM yN yO yP yQ yR yS yT yU yV yW yX yY yZ zA zB zC zD zF zG zH zI zJ zK zL zM zN zO zP zQ zR zS zU zV zW zX zY zZ wA wB wC wD wE wF wG wH wI wJ wK wL:Value}
  (hl:σ.lo=1) (hn:1≤σ0.next) (hr:cells σ σ0.next=some (ZC,etm,false)) (hbx:cells σ bx=some (cx,etm,false)) (hbz:cells σ bz=some (cy,etm,false))
  (hN:NTs σ lo m x' cx) (hM:NTs σ m hi y' cy) (hlo:σ0.next<lo) (hhi:hi≤σ.next) (hx0:σ0.next<bx) (hz0:σ0.next<bz) (hx1:bx<σ.next) (hz1:bz<σ.next) (g:jC σ0 σ (fun _=>False)) (R:Value→jA→Prop)
  (hz:x'.k=0∧y'.k=0→∀ σ',jC σ0 σ' (fun _=>False)→R (.agg ⟨ZC⟩) σ') (hnz:¬ (x'.k=0∧y'.k=0)→∀ v σ',NrP σ0 (.mk 11 a b s e [x',y']) v σ'→R v σ') :
  dc3 (pp G) qn none cM ⟨(F98 x0 (Rpt 0 (tmC (.mk 11 a b s e [x,y]))) (.pointer (some ⟨σ0.next,0,none⟩)) x3 (.pointer (some ⟨bx,0,none⟩)) (.pointer (some ⟨bz,0,none⟩)) x6 x7 x8 x9 xA xB xC xD xE xF xG xH xI xJ xK xL xM xN xO xP xQ xR xS xT xU xV xW xX xY xZ yA yB yC yD yE yF yG yH yI yJ yK yL yM yN yO yP yQ yR yS yT yU yV yW yX yY yZ zA zB zC zD zF zG zH zI zJ zK zL zM zN zO zP zQ zR zS zU zV zW zX zY zZ wA wB wC wD wE wF wG wH wI wJ wK wL),[],σ⟩ (@kR ⟨jU 0 (jQ (fun s1=>dc3 (pp G) qn none cX s1 (@kR ⟨jG Tryd.prog [(.cell 2 29)] R⟩)) (jG Tryd.prog [(.cell 2 29)] R))⟩):=by
 have h9:=hN.len
 have h91:=hN.one
 have ht9:cx.take 9=cx:=List.take_of_length_le (by omega)
 have hd9:cx.drop 9=[]:=List.drop_of_length_le (by omega)
 have hcc:(Value.agg ⟨cx⟩).cells.toList=cx:=rfl
 have hk0:=hN.k0
 have h9':=hM.len
 have h91':=hM.one
 have ht9':cy.take 9=cy:=List.take_of_length_le (by omega)
 have hd9':cy.drop 9=[]:=List.drop_of_length_le (by omega)
 have hcc':(Value.agg ⟨cy⟩).cells.toList=cy:=rfl
 have hk0':=hM.k0
 have hsn:σ0.next<σ.next:=by omega
 rw[uK0,gI]
 by_cases h0:x'.k=0
 ·by_cases h1:y'.k=0
  ·simp(disch:=first|omega|(apply id;simp only[push_cast];try omega))only[push_cast,simprocAttr,qn_r,qn_b,qn_h,hl,hr,hbx,hbz,hk0,hk0',h0,h1,h9,h9',ht9,hd9,hcc,h91,ht9',hd9',hcc',h91']
   exact hz ⟨h0,h1⟩ _ (g.trans (jC.put _ _ _ (S:=fun k=>k=σ0.next) fun _=>rfl) fun i hi h=>absurd h (by omega))
  ·simp(disch:=first|omega|(apply id;simp only[push_cast];try omega))only[push_cast,simprocAttr,qn_r,qn_b,qn_h,hl,hr,hbx,hbz,hk0,hk0',h0,h1,h9,h9',ht9,hd9,hcc,h91,ht9',hd9',hcc',h91',↓rowN h9 h9' h91 h91']
   refine jD.func (cap:=[]) (nQ0 G 11 a b s e [x,y] hse (by rw[jN];exact hl) (by rw[jB];omega) _ 2 2) ?_
   rintro _ σ4 ⟨rfl,g4⟩
   have c1:cells σ4 σ0.next=some (ZC,etm,false):=g4.cellsE ((gD _ _ (by omega)).trans hr) (by rw[jB];omega) id
   have c2:cells σ4 σ.next=some (cx++cy,etm,false):=g4.cellsE (kK _ _ _ _ rfl) (by rw[jB];omega) id
   have hl4:σ4.lo=1:=by rw[g4.lo,jN,hl]
   have hn4:=g4.next
   rw[jB] at hn4
   unfold tmH
   simp(disch:=first|omega|(apply id;simp only[push_cast];try omega))only[push_cast,simprocAttr,qn_r,qn_b,qn_h,c1,hl4]
   have gA:∀ X,jC σ (σ4.put σ0.next X) (fun k=>k=σ0.next):=fun X=>((jC.add _ _ _).trans g4 fun _ _ h=>h.elim).trans (jC.put _ _ _ (S:=fun k=>k=σ0.next) fun _=>rfl) fun _ _ h=>h
   have gB:∀ X,jC σ0 (σ4.put σ0.next X) (fun _=>False):=fun X=>g.trans (gA X) fun i hi h=>absurd h (by omega)
   have q1:=hN.le
   have q2:=hM.le
   exact hnz (by simp[h0,h1]) _ _ ⟨_,rfl,NTs.par (b:=σ.next) (NTs.mono (NTs.grew hN (gA _) (fun k h1 h2=>(by omega:¬ k=σ0.next)) (by omega)) (by omega) (Nat.le_refl _)) (NTs.mono (NTs.grew hM (gA _) (fun k h1 h2=>(by omega:¬ k=σ0.next)) hhi) (Nat.le_refl _) (by omega)) ((jH _ _ _ (by omega)).trans c2) (by rw[jI];omega),gB _⟩
 ·simp(disch:=first|omega|(apply id;simp only[push_cast];try omega))only[push_cast,simprocAttr,qn_r,qn_b,qn_h,hl,hr,hbx,hbz,hk0,hk0',h0,h9,h9',ht9,hd9,hcc,h91,ht9',hd9',hcc',h91',↓rowN h9 h9' h91 h91']
  refine jD.func (cap:=[]) (nQ0 G 11 a b s e [x,y] hse (by rw[jN];exact hl) (by rw[jB];omega) _ 2 2) ?_
  rintro _ σ4 ⟨rfl,g4⟩
  have c1:cells σ4 σ0.next=some (ZC,etm,false):=g4.cellsE ((gD _ _ (by omega)).trans hr) (by rw[jB];omega) id
  have c2:cells σ4 σ.next=some (cx++cy,etm,false):=g4.cellsE (kK _ _ _ _ rfl) (by rw[jB];omega) id
  have hl4:σ4.lo=1:=by rw[g4.lo,jN,hl]
  have hn4:=g4.next
  rw[jB] at hn4
  unfold tmH
  simp(disch:=first|omega|(apply id;simp only[push_cast];try omega))only[push_cast,simprocAttr,qn_r,qn_b,qn_h,c1,hl4]
  have gA:∀ X,jC σ (σ4.put σ0.next X) (fun k=>k=σ0.next):=fun X=>((jC.add _ _ _).trans g4 fun _ _ h=>h.elim).trans (jC.put _ _ _ (S:=fun k=>k=σ0.next) fun _=>rfl) fun _ _ h=>h
  have gB:∀ X,jC σ0 (σ4.put σ0.next X) (fun _=>False):=fun X=>g.trans (gA X) fun i hi h=>absurd h (by omega)
  have q1:=hN.le
  have q2:=hM.le
  exact hnz (by simp[h0]) _ _ ⟨_,rfl,NTs.par (b:=σ.next) (NTs.mono (NTs.grew hN (gA _) (fun k h1 h2=>(by omega:¬ k=σ0.next)) (by omega)) (by omega) (Nat.le_refl _)) (NTs.mono (NTs.grew hM (gA _) (fun k h1 h2=>(by omega:¬ k=σ0.next)) hhi) (Nat.le_refl _) (by omega)) ((jH _ _ _ (by omega)).trans c2) (by rw[jI];omega),gB _⟩
theorem zJ1 (a b:Int) (s:List UInt8) (e:Ex) (x y:Tm) (hse:smE e=true) (hx:Nrm G x) (hy:Nrm G y) {σ:jA} (hl:σ.lo=1) (hn:1≤σ.next) (R:Value→jA→Prop)
  (hz:(jF x).k=0∧(jF y).k=0→∀ σ',jC σ σ' (fun _=>False)→R (.agg ⟨ZC⟩) σ') (hnz:¬ ((jF x).k=0∧(jF y).k=0)→∀ v σ',NrP σ (.mk 11 a b s e [jF x,jF y]) v σ'→R v σ') :
  jP (pp G) H0 11 [tmV (.mk 11 a b s e [x,y])] σ R:=by
 refine jP.fir4 (q:=qn) (jW G) iD0 (by kernel_rfl) rfl rfl (uH0 ..) (by rw[hl];exact (show NGG≤1 by decide)) ?_
 rw[qN0]
 simp(disch:=first|omega|(apply id;simp only[push_cast];try omega))only[push_cast,simprocAttr,qn_r,qn_b,qn_h]
 repeat' apply And.intro
 all_goals
  refine jD.func (cap:=[]) (hx _ (by (try simp only[jN,bZ]);exact hl) (by (try simp only[jB,jI]);omega)) ?_
  rintro _ σ2 ⟨cx,rfl,hN,g⟩
  have hl2:σ2.lo=1:=by rw[g.lo];(try simp only[jN,bZ]);exact hl
  have hn2:=g.next
  simp only[jI,jB] at hn2 hN
  have h9:=hN.len
  have h91:=hN.one
  have ht9:cx.take 9=cx:=List.take_of_length_le (by omega)
  have hd9:cx.drop 9=[]:=List.drop_of_length_le (by omega)
  have hcc:(Value.agg ⟨cx⟩).cells.toList=cx:=rfl
  have hk0:=hN.k0
  simp(disch:=first|omega|(apply id;simp only[push_cast];try omega))only[push_cast,simprocAttr,qn_r,qn_b,qn_h,h9,h91,ht9,hd9,hcc,hk0,hl2]
  have c0:cells σ2 σ.next=some (ZC,etm,false):=g.cellsE (by simp(disch:=first|omega|(apply id;simp only[push_cast];try omega))only[push_cast,simprocAttr];first|done|rfl) (by (try simp only[jB,jI]);omega) id
  first|(have b1:cells σ2 (σ.next+1)=some (ZC,etm,false):=g.cellsE (by simp(disch:=first|omega|(apply id;simp only[push_cast];try omega))only[push_cast,simprocAttr];first|done|rfl) (by (try simp only[jB,jI]);omega) id)|have b1:=c0
  first|(have b2:cells σ2 (σ.next+2)=some (ZC,etm,false):=g.cellsE (by simp(disch:=first|omega|(apply id;simp only[push_cast];try omega))only[push_cast,simprocAttr];first|done|rfl) (by (try simp only[jB,jI]);omega) id)|have b2:=c0
 all_goals repeat' apply And.intro
 all_goals
  refine jD.func (cap:=[]) (hy _ (by (try simp only[jN,bZ]);exact hl2) (by (try simp only[jB,jI]);omega)) ?_
  rintro _ σ3 ⟨cy,rfl,hM,g3⟩
  have hl3:σ3.lo=1:=by rw[g3.lo];(try simp only[jN,bZ]);exact hl2
  have hn3:=g3.next
  try simp only[jI,jB] at hn3 hM
  have h9':=hM.len
  have h91':=hM.one
  have ht9':cy.take 9=cy:=List.take_of_length_le (by omega)
  have hd9':cy.drop 9=[]:=List.drop_of_length_le (by omega)
  have hcc':(Value.agg ⟨cy⟩).cells.toList=cy:=rfl
  have hk0':=hM.k0
  have d0:cells σ3 σ.next=some (ZC,etm,false):=g3.cellsE (by simp(disch:=first|omega|(apply id;simp only[push_cast];try omega))only[push_cast,simprocAttr,c0];first|done|rfl) (by (try simp only[jB,jI]);omega) id
  first|(have d1:cells σ3 (σ.next+1)=some (ZC,etm,false):=g3.cellsE (by simp(disch:=first|omega|(apply id;simp only[push_cast];try omega))only[push_cast,simprocAttr,b1];first|done|rfl) (by (try simp only[jB,jI]);omega) id)|have d1:=d0
  first|(have d2:cells σ3 (σ.next+2)=some (ZC,etm,false):=g3.cellsE (by simp(disch:=first|omega|(apply id;simp only[push_cast];try omega))only[push_cast,simprocAttr,b2];first|done|rfl) (by (try simp only[jB,jI]);omega) id)|have d2:=d0
  first|(have d3:cells σ3 σ2.next=some (ZC,etm,false):=g3.cellsE (by simp(disch:=first|omega|(apply id;simp only[push_cast];try omega))only[push_cast,simprocAttr];first|done|rfl) (by (try simp only[jB,jI]);omega) id)|have d3:=d0
  first|(have d4:cells σ3 (σ2.next+1)=some (ZC,etm,false):=g3.cellsE (by simp(disch:=first|omega|(apply id;simp only[push_cast];try omega))only[push_cast,simprocAttr];first|done|rfl) (by (try simp only[jB,jI]);omega) id)|have d4:=d0
  simp(disch:=first|omega|(apply id;simp only[push_cast];try omega))only[push_cast,simprocAttr,qn_r,qn_b,qn_h,h9',h91',ht9',hd9',hcc',hk0',hl3,h9,h91,ht9,hd9,hcc,hk0,d0,d1,d2,d3,d4]
 all_goals repeat' apply And.intro
 all_goals
  refine nrm_j G a b s e x y hse (σ0:=σ) (by simp only[jN,bZ];exact hl3) hn (by simp(disch:=first|omega|(apply id;simp only[push_cast];try omega))only[push_cast,simprocAttr,d0];first|done|rfl) (by simp(disch:=first|omega|(apply id;simp only[push_cast];try omega))only[push_cast,simprocAttr,d1,d2,d3,d4];first|done|rfl) (by simp(disch:=first|omega|(apply id;simp only[push_cast];try omega))only[push_cast,simprocAttr,d1,d2,d3,d4];first|done|rfl) (NTs.mono (NTs.up hN (by (repeat (first|assumption|exact jC.refl _ _|refine jC.put'' ?_ _ _ (by intro _;first|(exfalso;omega)|(show _∨_;omega))|refine jC.add' ?_ _|refine jC.tr ?_ g3|refine jC.tr ?_ g))) (by omega)) (Nat.le_refl _) ?_) (NTs.up hM (by (repeat (first|assumption|exact jC.refl _ _|refine jC.put'' ?_ _ _ (by intro _;first|(exfalso;omega)|(show _∨_;omega))|refine jC.add' ?_ _|refine jC.tr ?_ g3|refine jC.tr ?_ g))) (by omega)) ?_ ?_ ?_ ?_ ?_ ?_ (by (repeat (first|assumption|exact jC.refl _ _|refine jC.put'' ?_ _ _ (by intro _;first|(exfalso;omega)|(show _∨_;omega))|refine jC.add' ?_ _|refine jC.tr ?_ g3|refine jC.tr ?_ g))) R hz hnz
  all_goals (try simp only[jB,jI])
  all_goals omega
theorem kQ2 (a b:Int) (s:List UInt8) (e:Ex) (x y:Tm) (hse:smE e=true) (hx:Nrm G x) (hy:Nrm G y):Nrm G (.mk 11 a b s e [x,y]):=by
 intro σ hl hn
 rw[jF,if_neg (by omega),if_pos rfl]
 by_cases h:(jF x).k=0∧(jF y).k=0
 ·rw[if_pos h]
  refine jP.cutE ?_
  exact zJ1 G a b s e x y hse hx hy hl hn _ (fun _ σ' g=>⟨tmV zT,σ,⟨_,rfl,.leaf (Nat.le_refl _) (by decide) (by decide) (by decide),jC.refl _ _⟩,eQ0 Tryd.prog _ _,uF0.gr g⟩) (fun h'=>absurd h h')
 ·rw[if_neg h]
  exact zJ1 G a b s e x y hse hx hy hl hn _ (fun h'=>absurd h' h) (fun _ v σ' h=>h)
theorem mY1 (a b:Int) (s:List UInt8) (e:Ex) (x:Tm) (hse:smE e=true) (hx:Nrm G x) {σ:jA} (hl:σ.lo=1) (hn:1≤σ.next) (R:Value→jA→Prop)
  (hz:(jF x).k=0→∀ σ',jC σ σ' (fun _=>False)→R (.agg ⟨ZC⟩) σ') (hnz:¬ (jF x).k=0→∀ v σ',NrP σ (.mk 7 a b s e [jF x]) v σ'→R v σ') :
  jP (pp G) H0 11 [tmV (.mk 7 a b s e [x])] σ R:=by
 refine jP.fir4 (q:=qn) (jW G) iD0 (by kernel_rfl) rfl rfl (uH0 ..) (by rw[hl];exact (show NGG≤1 by decide)) ?_
 rw[qN0]
 simp(disch:=first|omega|(apply id;simp only[push_cast];try omega))only[push_cast,simprocAttr,qn_r,qn_b,qn_h]
 refine jD.func (cap:=[]) (hx _ (by rw[jN];exact hl) (by rw[jB];omega)) ?_
 rintro _ σ2 ⟨cx,rfl,hN,g⟩
 have c0:cells σ2 σ.next=some (ZC,etm,false):=g.cellsE (kK _ _ _ _ rfl) (by rw[jB];omega) id
 have hl2:σ2.lo=1:=by rw[g.lo,jN,hl]
 have hn2:=g.next
 rw[jB] at hn2 hN
 have h9:=hN.len
 have h91:=hN.one
 have ht9:cx.take 9=cx:=List.take_of_length_le (by omega)
 have hd9:cx.drop 9=[]:=List.drop_of_length_le (by omega)
 have hcc:(Value.agg ⟨cx⟩).cells.toList=cx:=rfl
 have hk0:=hN.k0
 have g1:jC σ σ2 (fun _=>False):=(jC.add _ _ _).trans g fun _ _ h=>h
 generalize jF x=x' at *
 by_cases h0:x'.k=0
 ·simp(disch:=first|omega|(apply id;simp only[push_cast];try omega))only[push_cast,simprocAttr,qn_r,qn_b,qn_h,h9,h91,ht9,hd9,hcc,hk0,h0,hl2,c0]
  exact hz h0 _ (by (repeat (first|assumption|exact jC.refl _ _|refine jC.put'' ?_ _ _ (by intro _;(exfalso;omega))|refine jC.add' ?_ _)))
 ·simp(disch:=first|omega|(apply id;simp only[push_cast];try omega))only[push_cast,simprocAttr,qn_r,qn_b,qn_h,h9,h91,ht9,hd9,hcc,hk0,h0,hl2,c0,↓zS2 h9 h91]
  refine jD.func (cap:=[]) (nQ0 G 7 a b s e [x] hse (by rw[jN,bZ,jN];exact hl2) (by rw[jB,jI,jB];omega) _ 1 1) ?_
  rintro _ σ4 ⟨rfl,g4⟩
  have c1:cells σ4 σ.next=some (ZC,etm,false):=g4.cellsE ((gD _ _ (by rw[jI,jB];omega)).trans ((jH _ _ _ (by omega)).trans ((gD _ _ (by omega)).trans c0))) (by rw[jB,jI,jB];omega) id
  have c2:cells σ4 (σ2.next+1)=some (cx,etm,false):=g4.cellsE (kK _ _ _ _ (by rw[jI,jB])) (by rw[jB,jI,jB];omega) id
  have hl4:σ4.lo=1:=by rw[g4.lo,jN,bZ,jN,hl2]
  have hn4:=g4.next
  rw[jB,jI,jB] at hn4
  unfold tmH
  simp(disch:=first|omega|(apply id;simp only[push_cast];try omega))only[push_cast,simprocAttr,qn_r,qn_b,qn_h,c1,hl4]
  have gA:∀ X,jC σ2 (σ4.put σ.next X) (fun k=>k=σ.next):=fun X=>((((jC.add _ _ _).trans (jC.put _ _ _ (S:=fun k=>k=σ2.next) fun _=>rfl) fun i hi h=>absurd h (by omega)).trans (jC.add _ _ _) fun _ _ h=>h).trans g4 fun _ _ h=>h.elim).trans (jC.put _ _ _ (S:=fun k=>k=σ.next) fun _=>rfl) fun _ _ h=>h
  have gB:∀ X,jC σ (σ4.put σ.next X) (fun _=>False):=fun X=>g1.trans (gA X) fun i hi h=>absurd h (by omega)
  exact hnz h0 _ _ ⟨_,rfl,NTs.blk (b:=σ2.next+1) (NTs.mono (NTs.grew hN (gA _) (fun k h1 h2=>(by omega:¬ k=σ.next)) (Nat.le_refl _)) (by omega) (by omega)) ((jH _ _ _ (by omega)).trans c2) (by rw[jI];omega),gB _⟩
theorem nrm_7 (a b:Int) (s:List UInt8) (e:Ex) (x:Tm) (hse:smE e=true) (hx:Nrm G x):Nrm G (.mk 7 a b s e [x]):=by
 intro σ hl hn
 rw[jF,if_pos rfl]
 by_cases h:(jF x).k=0
 ·rw[if_pos h]
  refine jP.cutE ?_
  exact mY1 G a b s e x hse hx hl hn _ (fun _ σ' g=>⟨tmV zT,σ,⟨_,rfl,.leaf (Nat.le_refl _) (by decide) (by decide) (by decide),jC.refl _ _⟩,eQ0 Tryd.prog _ _,uF0.gr g⟩) (fun h'=>absurd h h')
 ·rw[if_neg h]
  exact mY1 G a b s e x hse hx hl hn _ (fun h'=>absurd h' h) (fun _ v σ' h=>h)
theorem nrm_o (k a b:Int) (s:List UInt8) (e:Ex) (l:List Tm) (hown:jK (pp G) H0 25 [tmV (.mk k a b s e l)] (tmV (.mk k a b s e l))) (h12:k≠12) (h11:k≠11) (h7:k≠7):Nrm G (.mk k a b s e l):=by
 intro σ hl hn
 have hnf:jF (.mk k a b s e l)=.mk k a b s e l:=by
  unfold jF
  split
  ·rename_i e1;cases e1;rw[if_neg h12,if_neg h11]
  ·rename_i e1;cases e1;rw[if_neg h7]
  ·rename_i e1;cases e1;rfl
 rw[hnf]
 refine jP.fir4 (q:=qn) (jW G) iD0 (by kernel_rfl) rfl rfl (uH0 ..) (by rw[hl];exact (show NGG≤1 by decide)) ?_
 rw[qN0]
 simp(disch:=first|omega|(apply id;simp only[push_cast];try omega))only[push_cast,simprocAttr,qn_r,qn_b,qn_h,h12,h11,h7]
 try (rw[sd_ir11_s1];simp(disch:=first|omega|(apply id;simp only[push_cast];try omega))only[push_cast,simprocAttr,qn_r,qn_b,qn_h])
 refine dK (hown) ?_
 have htc:=kU (.mk k a b s e l)
 simp(disch:=first|omega|(apply id;simp only[push_cast];try omega))only[push_cast,simprocAttr,qn_r,qn_b,qn_h,hl]
 exact ⟨_,rfl,.leaf (by first|omega|(simp only[jB,jI];omega)) h12 h11 h7,(by (repeat (first|exact Gr.refl _|assumption|(refine jC.put' ?_ _ _ (by first|omega|(simp only[push_cast];omega)))|(refine jC.add' ?_ _))))⟩
inductive RS:Tm→Prop
 | leaf {k a b:Int} {s:List UInt8} {e:Ex} {l:List Tm} (h12:k≠12) (h11:k≠11) (h7:k≠7):RS (.mk k a b s e l)
 | blk {a b:Int} {s:List UInt8} {e:Ex} {x:Tm} (hx:RS x):RS (.mk 7 a b s e [x])
 | seq {a b:Int} {s:List UInt8} {e:Ex} {x y:Tm} (hx:RS x) (hy:RS y):RS (.mk 12 a b s e [x,y])
 | par {a b:Int} {s:List UInt8} {e:Ex} {x y:Tm} (hx:RS x) (hy:RS y):RS (.mk 11 a b s e [x,y])
theorem kS2 {t:Tm} (h:RS t):smT t=true→Nrm G t:=by
 induction h with
 | leaf h12 h11 h7=>intro hs;exact nrm_o G _ _ _ _ _ _ (gC0 G _ hs) h12 h11 h7
 | blk hx ih=>
  intro hs
  simp only[smT,Bool.and_eq_true,decide_eq_true_eq] at hs
  obtain ⟨⟨hll,hse⟩,hsl⟩:=hs
  exact nrm_7 G _ _ _ _ _ hse (ih (kN hsl _ (by simp)))
 | seq hx hy ihx ihy=>
  intro hs
  simp only[smT,Bool.and_eq_true,decide_eq_true_eq] at hs
  obtain ⟨⟨hll,hse⟩,hsl⟩:=hs
  exact kP2 G _ _ _ _ _ _ hse (ihx (kN hsl _ (by simp))) (ihy (kN hsl _ (by simp))) (gC0 G _ (kN hsl _ (by simp)))
 | par hx hy ihx ihy=>
  intro hs
  simp only[smT,Bool.and_eq_true,decide_eq_true_eq] at hs
  obtain ⟨⟨hll,hse⟩,hsl⟩:=hs
  exact kQ2 G _ _ _ _ _ _ hse (ihx (kN hsl _ (by simp))) (ihy (kN hsl _ (by simp)))
theorem sQ1 (n:Int):jK (pp G) H0 27 [.int .i64 n] (.int .i64 n):=by
 refine cE G fir27 (by kernel_rfl) (lC0 ..) fun hlo=>?_;rw[rZ1]
 simp(disch:=first|omega|(apply id;simp only[push_cast];try omega))only[push_cast,simprocAttr]
 exact .id rfl
def IvR (σ:jA) (l:List Int) (v:Value) (σ':jA):Prop:=jC σ σ' (fun _=>False)∧((l=[]∧v=.slice none 0 0)∨(v=.slice (some ⟨σ.next,0,none⟩) l.length l.length∧cells σ' σ.next=some (ivs l,eI,false)∧σ.next<σ'.next))
inductive ILi (σ:jA) (l:List Int) (fv:Value):Nat→S→Prop
 | mk (i:Nat) (iv:Int) (h:jA) {x0 x2 x3 x4 x6 x7 x8 x9 xA xB xC xD xH xI xJ xK xL xM xN xO xP xQ xR xS:Value} (hiv:iv=(i:Int)) (hi:i≤l.length) (c1:cells h σ.next=some (ivs (l.take i)++(List.replicate (l.length-i) [Value.int .i64 0]).flatten,eI,false)) (g:jC σ h (fun _=>False)) (hn:σ.next<h.next) :
  ILi σ l fv (l.length-i) ⟨(F29 x0 fv x2 x3 x4 (.slice (some ⟨σ.next,0,none⟩) l.length l.length) x6 x7 x8 x9 xA xB xC xD (Rw false eI l.length (ivs l)) (.int .i64 l.length) (.int .i64 iv) xH xI xJ xK xL xM xN xO xP xQ xR xS),[],h⟩
theorem tW1 (l:List Int) (hll:l.length<100000000000) {σ:jA} (hl:σ.lo=1) (hn:1≤σ.next):jP (pp G) H0 26 [ivV l,.func (.func 27) #[] #[]] σ (IvR σ l):=by
 refine jP.fir4 (q:=qq) (jW G) fir26 (by kernel_rfl) rfl rfl (bE0 ..) (by first|exact Nat.le_trans (show NGG≤1 by decide) (by omega)) ?_;rw[sA1]
 unfold ivV
 by_cases h0:l.length=0
 ·have h0':(l.length:Int)=0:=by omega
  obtain rfl:l=[]:=List.length_eq_zero_iff.1 h0
  simp(disch:=first|omega|(apply id;simp only[push_cast];try omega))only[push_cast,simprocAttr,h0']
  exact ⟨jC.refl _ _,.inl ⟨rfl,rfl⟩⟩
 have h0':¬ (l.length:Int)=0:=by omega
 have h1:(l.length:Int)*400+l.length<100000000000000:=by omega
 simp(disch:=first|omega|(apply id;simp only[push_cast];try omega))only[push_cast,simprocAttr,h0',h1,Int.toNat_natCast]
 refine WD.loop4 (q:=qq) (jW G) (by kernel_rfl) (ILi σ l (.func (.func 27) #[] #[])) ?_ _ _ (ILi.mk 0 0 _ rfl (Nat.zero_le _) (by simp(disch:=first|omega|(apply id;simp only[push_cast];try omega))only[push_cast,simprocAttr,List.take_zero];rfl) (jC.add _ _ _) (by rw[jB];omega))
 intro m s1 hI
 cases hI with|mk i iv h hiv hi c1 g hnx=>
 subst hiv
 have hlh:h.lo=1:=by rw[g.lo,hl]
 rw[sM0]
 by_cases hil:(i:Int)<l.length
 ·obtain ⟨x,hx⟩:=kO (l:=l) (i:=i) (by omega)
  have hx1:(ivs l)[i]?=some (.int .i64 x):=by rw[ivs,List.getElem?_map,hx];rfl
  have hle:i+1≤l.length:=by omega
  have hil':i<l.length:=by omega
  simp(disch:=first|omega|(apply id;simp only[push_cast];try omega))only[push_cast,simprocAttr,hil,Int.toNat_natCast,hx1,hle,hlh,cL,hil']
  refine dK (sQ1 G x) ?_
  obtain ⟨k,hk⟩:∃ k,l.length-i=k+1:=⟨l.length-i-1,by omega⟩
  have hta:(ivs (l.take i)).length=i:=by rw[cL,List.length_take,Nat.min_eq_left hi]
  have hlen:=zG0 (w:=1) (z:=[Value.int .i64 0]) (k:=l.length-i) (n:=l.length) hta rfl (by omega)
  have hst:=qW0 (c:=[Value.int .i64 x]) (w:=1) (z:=[Value.int .i64 0]) (k:=k) hta rfl
  rw[← hk,show [Value.int .i64 x]=ivs [x] from rfl,← dR0,← kH hx,show k=l.length-(i+1) by omega,show ivs [x]=[Value.int .i64 x] from rfl] at hst
  simp(disch:=first|omega|(apply id;simp only[push_cast];try omega))only[push_cast,simprocAttr,hil,Int.toNat_natCast,hle,hlh,c1,hlen,hst,hil']
  exact ⟨_,by omega,ILi.mk (i+1) _ _ (by first|rfl|omega) (by omega) tH (jC.put'' g _ _ (by intro hh;exfalso;omega)) tH⟩
 ·have hie:i=l.length:=by omega
  subst hie
  rw[List.take_length,Nat.sub_self,List.replicate_zero,List.flatten_nil,List.append_nil] at c1
  simp(disch:=first|omega|(apply id;simp only[push_cast];try omega))only[push_cast,simprocAttr,hil]
  rw[sL0]
  simp(disch:=first|omega|(apply id;simp only[push_cast];try omega))only[push_cast,simprocAttr]
  exact ⟨g,.inr ⟨rfl,c1,hnx⟩⟩
def zR0 (l:List Tm):Prop:=l.length<100000000000∧smTs l=true
abbrev eR:Nat:=24
def trs (s:List (List Tm)):List Value:=s.map kM
def trV (s:List (List Tm)):Value:=Rw false eR s.length (trs s)
theorem qH0 (s:List (List Tm)):(trs s).length=s.length:=by simp[trs]
theorem lI0:∀ s:List (List Tm),(trs s).all one=true
 | []=>rfl
 | x :: s=>by
  have:=lI0 s
  simp only[trs] at this
  simp only[trs,List.map_cons,List.all_cons,this,Bool.and_true]
  rfl
theorem kN0 (n:Nat) (hn:0<n):∀ s:List (List Tm),scL n (trs s)=true
 | []=>rfl
 | x :: s=>by
  have:=kN0 n hn s
  simp only[trs] at this
  simp[trs,scL,this,cJ0 n hn]
theorem nU0 (n:Nat) (hn:0<n) (k:Nat) (f:Bool) (s:List (List Tm)):Ev.sc n (Rw f eR k (trs s))=true:=by
 have:=kN0 n hn s
 simp[Ev.sc,Rw,scL,this,hn]
theorem lJ0 {s:List (List Tm)} {i:Nat} {l:List Tm} (h:s[i]?=some l):(trs s)[i]?=some (kM l):=by simp[trs,h]
theorem lK0 (a b:List (List Tm)):trs (a++b)=trs a++trs b:=by simp[trs]
attribute [push_cast] qH0 lI0 kN0 nU0
def qA0 (s:List (List Tm)):Prop:=s.length<100000000000∧∀ l∈s,zR0 l
def uU0:List (List Tm)→Int
 | []=>0
 | x :: s=>cS x+uU0 s
theorem fD0:∀ (a b:List (List Tm)),uU0 (a++b)=uU0 a+uU0 b
 | [],b=>by simp[uU0]
 | x :: a,b=>by rw[List.cons_append,uU0,uU0,fD0 a b];omega
theorem rE0 {l:List (List Tm)} {i:Nat} {x:List Tm} (h:l[i]?=some x):uU0 (l.take (i+1))=uU0 (l.take i)+cS x:=by
 rw[kH h,fD0,uU0,uU0];omega
inductive I33 (s:List (List Tm)):Nat→S→Prop
 | mk (i:Nat) (iv n:Int) (h:jA) {x0 x1 x2 x4 x5 x6 x7 xB xC xD xE xF xG xH xI xJ xK xL xM xN xO xP xQ:Value} (hiv:iv=(i:Int)) (hi:i≤s.length) (hn:n=W (uU0 (s.take i))) (hl1:h.lo=1) (hl2:1≤h.next) :
  I33 s (s.length-i) ⟨(F27 x0 x1 x2 (.int .i64 n) x4 x5 x6 x7 (trV s) (.int .i64 s.length) (.int .i64 iv) xB xC xD xE xF xG xH xI xJ xK xL xM xN xO xP xQ),[],h⟩
inductive I33b (s:List (List Tm)) (j:Nat) (l:List Tm):Nat→S→Prop
 | mk (i:Nat) (iv n:Int) (h:jA) {x0 x1 x2 x4 x5 x6 x7 xB xC xD xH xI xJ xK xL xM xN xO xP xQ:Value} (hiv:iv=(i:Int)) (hi:i≤l.length) (hn:n=W (uU0 (s.take j)+cS (l.take i))) (hl1:h.lo=1) (hl2:1≤h.next) :
  I33b s j l (l.length-i) ⟨(F27 x0 x1 x2 (.int .i64 n) x4 x5 x6 x7 (trV s) (.int .i64 s.length) (.int .i64 j) xB xC xD (kM l) (.int .i64 l.length) (.int .i64 iv) xH xI xJ xK xL xM xN xO xP xQ),[],h⟩
theorem pA1 (s:List (List Tm)) (hs:qA0 s):jK (pp G) H0 18 [trV s] (.int .i64 (W (uU0 s))):=by
 have hsl:=hs.1
 refine cE G fir18 (by kernel_rfl) (cH1 ..) fun hlo=>?_;rw[sH1]
 unfold trV
 simp(disch:=first|omega|(apply id;simp only[push_cast];try omega))only[push_cast,simprocAttr]
 refine WD.loop4 (q:=qq) (jW G) (by kernel_rfl) (I33 s) ?_ _ _ (I33.mk 0 0 _ _ rfl (Nat.zero_le _) rfl rfl tH)
 intro m s1 hI
 cases hI with|mk j jv n h hiv hi hn hl1 hl2=>
 subst hiv hn
 rw[sR0]
 unfold trV
 by_cases hjl:(j:Int)<s.length
 ·obtain ⟨l,hl⟩:=kO (l:=s) (i:=j) (by omega)
  have hlm:=List.mem_of_getElem? hl
  obtain ⟨hll,hlt⟩:=hs.2 l hlm
  have hp:=lJ0 hl
  have hle2:j<s.length:=by omega
  unfold kM at hp
  simp(disch:=first|omega|(apply id;simp only[push_cast];try omega))only[push_cast,simprocAttr,hjl,Int.toNat_natCast,hp,hle2,hl1]
  refine WD.loop4 (q:=qq) (jW G) (by kernel_rfl) (I33b s j l) ?_ _ _ (I33b.mk 0 0 _ _ rfl (Nat.zero_le _) (by rw[List.take_zero,cS,Int.add_zero]) (by first|assumption|(simp(disch:=first|omega|(apply id;simp only[push_cast];try omega))only[push_cast,simprocAttr,hl1];try omega)) tH)
  intro m s1 hI
  cases hI with|mk i iv n h hiv hi hn hl1 hl2=>
  subst hiv hn
  rw[sP0]
  unfold kM
  by_cases hil:(i:Int)<l.length
  ·obtain ⟨x,hx⟩:=kO (l:=l) (i:=i) (by omega)
   have hp:=gX hx
   have hle2:i*9+9≤l.length*9:=by omega
   simp(disch:=first|omega|(apply id;simp only[push_cast];try omega))only[push_cast,simprocAttr,hil,Int.toNat_natCast,hp,hle2,hl1]
   refine dK (oD0 G x (kN hlt x (List.mem_of_getElem? hx))) ?_
   simp(disch:=first|omega|(apply id;simp only[push_cast];try omega))only[push_cast,simprocAttr,bP2]
   exact ⟨_,by omega,I33b.mk (i+1) _ _ _ (by first|rfl|omega) (by omega) (by rw[yS0 hx];congr 1;omega) (by first|assumption|(simp(disch:=first|omega|(apply id;simp only[push_cast];try omega))only[push_cast,simprocAttr,hl1];try omega)) tH⟩
  ·have hie:i=l.length:=by omega
   subst hie
   simp(disch:=first|omega|(apply id;simp only[push_cast];try omega))only[push_cast,simprocAttr,hil]
   rw[sO0]
   simp(disch:=first|omega|(apply id;simp only[push_cast];try omega))only[push_cast,simprocAttr,List.take_length]
   exact ⟨_,by omega,I33.mk (j+1) _ _ _ (by first|rfl|omega) (by omega) (by rw[rE0 hl]) (by first|assumption|(simp(disch:=first|omega|(apply id;simp only[push_cast];try omega))only[push_cast,simprocAttr,hl1];try omega)) tH⟩
 ·have hie:j=s.length:=by omega
  subst hie
  simp(disch:=first|omega|(apply id;simp only[push_cast];try omega))only[push_cast,simprocAttr,hjl]
  rw[sQ0]
  simp(disch:=first|omega|(apply id;simp only[push_cast];try omega))only[push_cast,simprocAttr,List.take_length]
  exact .id rfl
theorem uB2 {e k n by_ m:Nat} {cs xs:List Value} {h:jA} (hl:cs.length=n*k) (ho:cs.all one=true) (hx:xs.all one=true) (hm:0<m) (hb:((n+m)*by_≤140737488355328∧(n+m)<100000000000000)) :
  apS e k by_ (Rw true e n cs) (some (m,xs)) h=some (.slice (some ⟨h.next,0,none⟩) (n+m) UC,h.add (O (cs++xs) e true)):=by
 show (if xs.all one=true then (if cs.length=n*k∧((n+m)*by_≤140737488355328∧(n+m)<100000000000000)∧cs.all one=true then (if m=0 then some (Rw true e n cs,h) else some (.slice (some ⟨h.next,0,none⟩) (n+m) UC,h.add (O (cs++xs) e true))) else none) else none)=_
 rw[if_pos hx,if_pos ⟨hl,hb,ho⟩,if_neg (by omega)]
theorem fU1 {e k n by_:Nat} {cs xs:List Value} {h:jA} (hl:cs.length=n*k) (ho:cs.all one=true) (hx:xs.all one=true) (hb:(n*by_≤140737488355328∧n<100000000000000)) :
  apS e k by_ (Rw true e n cs) (some (0,xs)) h=some (Rw true e n cs,h):=by
 show (if xs.all one=true then (if cs.length=n*k∧((n+0)*by_≤140737488355328∧(n+0)<100000000000000)∧cs.all one=true then (if 0=0 then some (Rw true e n cs,h) else some (.slice (some ⟨h.next,0,none⟩) (n+0) UC,h.add (O (cs++xs) e true))) else none) else none)=_
 rw[if_pos hx,if_pos ⟨hl,by simpa using hb,ho⟩,if_pos rfl]
theorem pJ0 (n:Nat):Nat.beq n n=true:=Nat.beq_refl n
theorem eI1 (s:List (List Tm)) (a:Int) (hs:s.length<100000000000):jK (pp G) H0 52 [trV s,.int .i64 a] (.bool (decide (0≤a∧a<s.length))):=by
 refine cE G fir52 (by kernel_rfl) (eP0 ..) fun hlo=>?_;rw[rC1]
 unfold trV
 by_cases h:0≤a
 ·simp(disch:=first|omega|(apply id;simp only[push_cast];try omega))only[push_cast,simprocAttr,h,true_and]
  exact .id rfl
 ·simp(disch:=first|omega|(apply id;simp only[push_cast];try omega))only[push_cast,simprocAttr,h,false_and]
  exact .id rfl
theorem pK0 (l m:List Tm) (hl:l.length<100000000000) (hm:m.length<100000000000):jK (pp G) H0 54 [kM l,kM m] (kM (l++m)):=by
 refine cE G fir54 (by kernel_rfl) (eP0 ..) fun hlo=>?_;rw[rA1]
 unfold kM
 have ht:(jZ l).take (l.length*9)=jZ l:=List.take_of_length_le (by rw[dQ];exact Nat.le_refl _)
 by_cases h0:m.length=0
 ·obtain rfl:m=[]:=List.length_eq_zero_iff.1 h0
  have h1:l.length*120+l.length<100000000000000:=by omega
  have ha:apS 29 9 120 (Rw true 29 l.length (jZ l)) (some (0,[])) H0=some (Rw true 29 l.length (jZ l),H0):=fU1 (by rw[dQ]) (wN0 l) rfl (by omega)
  simp(disch:=first|omega|(apply id;simp only[push_cast];try omega))only[push_cast,simprocAttr,pJ0,Int.toNat_natCast,ht,List.length_nil,show jZ []=[] from rfl,ha]
  exact .row (.ids (jJ0 _ H0q l))
 have h1:(l.length+m.length)*120+(l.length+m.length)<100000000000000:=by omega
 have ha:apS 29 9 120 (Rw true 29 l.length (jZ l)) (some (m.length,jZ m)) H0=some (.slice (some ⟨H0.next,0,none⟩) (l.length+m.length) UC,H0.add (O (jZ l++jZ m) 29 true)):=uB2 (by rw[dQ]) (wN0 l) (wN0 m) (by omega) (by omega)
 simp(disch:=first|omega|(apply id;simp only[push_cast];try omega))only[push_cast,simprocAttr,pJ0,Int.toNat_natCast,ht,ha]
 rw[← cK0,← List.length_append]
 have hlt:(l++m).length<U:=by rw[List.length_append,show U=100000000000000 by unfold U;rfl];omega
 refine .sl (Nat.le_refl _) (kK _ _ _ _ rfl) (size:=9) rfl (by decide) ?_ (.inr ⟨rfl,Nat.le_refl _,by simp,hlt⟩) ?_
 ·rw[dQ];omega
 rw[List.drop_zero,List.take_of_length_le (by rw[dQ];exact Nat.le_refl _)]
 exact .ids (jJ0 _ H0q _)
def dB {α:Type} (s:List α) (a:Int) (l:α):List α:=if 0≤a then s.set a.toNat l else s
theorem jT0 {α:Type} (s:List α) (a:Int) (l:α):(dB s a l).length=s.length:=by
 unfold dB;split<;>simp
theorem pD1 {α:Type} {s:List α} {i:Nat} {l x:α} (h:s[i]?=some x):(dB s i l)[i]?=some l:=by
 unfold dB
 have:=(List.getElem?_eq_some_iff.1 h).1
 rw[if_pos (by omega),Int.toNat_natCast]
 simp[this]
theorem pC1 {α:Type} {s:List α} {i:Nat} {a:Int} {l x:α} (h:s[i]?=some x) (hne:¬ (i:Int)=a):(dB s a l)[i]?=some x:=by
 unfold dB
 split
 ·rw[List.getElem?_set_ne (by omega)];exact h
 ·exact h
inductive I52 (σ:jA) (s r:List (List Tm)) (a:Int) (l:List Tm) (fv:Value):Nat→S→Prop
 | mk (i:Nat) (iv:Int) (h:jA) {x0 x4 x5 x6 x7 x8 xA xB xC xD xE xI xJ xK xL xM xN xO xP xQ xR xS xT xU xV xW xX:Value} (hiv:iv=(i:Int)) (hi:i≤s.length) (c1:cells h σ.next=some (trs (r.take i)++(List.replicate (s.length-i) [Value.slice none 0 0]).flatten,24,false)) (hl1:h.lo=1) (hl2:σ.next<h.next) (hg:jC σ h fun _=>False) :
  I52 σ s r a l fv (s.length-i) ⟨(F34 x0 (.int .i64 a) (kM l) fv x4 x5 x6 x7 x8 (.slice (some ⟨σ.next,0,none⟩) s.length s.length) xA xB xC xD xE (trV s) (.int .i64 s.length) (.int .i64 iv) xI xJ xK xL xM xN xO xP xQ xR xS xT xU xV xW xX),[],h⟩
theorem qK1 (σ:jA) (s:List (List Tm)) (a:Int) (l:List Tm) (hs:qA0 s) (hl:zR0 l):jP (pp G) H0 53 [trV s,.int .i64 a,kM l,.func (.func 25) #[] #[]] σ
  fun v σ'=>v=.slice (some ⟨σ.next,0,none⟩) s.length s.length∧σ'=σ.add (O (trs (dB s a l)) eR false):=by
 have ho:∀ m:List Tm,zR0 m→jK (pp G) H0 63 [kM m,.func (.func 25) #[] #[]] (kM m):=fun m hm=>dM0 G m 25 hm.1 fun x hx=>gC0 G x (kN hm.2 x hx)
 have hsl:=hs.1
 refine jP.wlog fun hl0 hH0 hp0 hlo=>?_;rw[cO] at hl0;refine jP.cut (jP.fir4 (q:=qq) (jW G) fir53 (by kernel_rfl) rfl rfl (cG1 ..) (by rw[hl0];exact (show NGG≤1 by decide)) ?_);rw[rB1]
 unfold trV
 have h1:(s.length:Int)*24+s.length<100000000000000:=by omega
 simp(disch:=first|omega|(apply id;simp only[push_cast];try omega))only[push_cast,simprocAttr,h1]
 refine WD.loop4 (q:=qq) (jW G) (by kernel_rfl) (I52 σ s (dB s a l) a l (.func (.func 25) #[] #[])) ?_ _ _ (I52.mk 0 0 _ rfl (Nat.zero_le _) (by simp(disch:=first|omega|(apply id;simp only[push_cast];try omega))only[push_cast,simprocAttr,List.take_zero];rfl) tH tH (by (repeat (first|exact Gr.refl _|assumption|(refine jC.put' ?_ _ _ (by first|omega|(simp only[push_cast];omega)))|(refine jC.add' ?_ _)))))
 intro m s1 hI
 cases hI with|mk i iv h hiv hi c1 hl1 hl2 hg=>
 subst hiv
 rw[rS0]
 unfold trV
 by_cases hil:(i:Int)<s.length
 ·obtain ⟨x,hx⟩:=kO (l:=s) (i:=i) (by omega)
  have hxm:=hs.2 x (List.mem_of_getElem? hx)
  have hp:=lJ0 hx
  have hle:i<s.length:=by omega
  have key : ∀ (y : List Tm) (hy : zR0 y) (hr : (dB s a l)[i]? = some y) {x4 x5 x6 x7 x8 xC xD xE xI xJ xK xL xM xN xO xP xQ xR xS xT xU xV xW xX x0 : Value} (R : jL → S → Prop)
    (hR:∀ {x4 x5 x6 x7 x8 xC xD xE xI xJ xK xL xM xN xO xP xQ xR xS xT xU xV xW xX x0 xA xB:Value} (h':jA),cells h' σ.next=some (trs ((dB s a l).take (i+1))++(List.replicate (s.length-(i+1)) [Value.slice none 0 0]).flatten,24,false)→h'.lo=1→σ.next<h'.next→(jC σ h' fun _=>False)→
     @kR ⟨R⟩ .normal ⟨(F34 x0 (.int .i64 a) (kM l) (.func (.func 25) #[] #[]) x4 x5 x6 x7 x8 (.slice (some ⟨σ.next,0,none⟩) s.length s.length) xA xB xC xD xE (trV s) (.int .i64 s.length) (.int .i64 i) xI xJ xK xL xM xN xO xP xQ xR xS xT xU xV xW xX),[],h'⟩),
    dc3 (pp G) qq none dT0 ⟨(F34 x0 (.int .i64 a) (kM l) (.func (.func 25) #[] #[]) x4 x5 x6 x7 x8 (.slice (some ⟨σ.next,0,none⟩) s.length s.length) (.int .i64 i) (kM y) xC xD xE (trV s) (.int .i64 s.length) (.int .i64 i) xI xJ xK xL xM xN xO xP xQ xR xS xT xU xV xW xX),[],h⟩ (@kR ⟨R⟩):=by
   intro y hy hr
   intros
   rename_i R hR
   rw[rQ0]
   obtain ⟨k,hk⟩:∃ k,s.length-i=k+1:=⟨s.length-i-1,by omega⟩
   have hta:(trs ((dB s a l).take i)).length=i:=by rw[qH0,List.length_take,jT0,Nat.min_eq_left hi]
   have hlen:=zG0 (w:=1) (z:=[Value.slice none 0 0]) (k:=s.length-i) (n:=s.length) hta rfl (by omega)
   have hst:=qW0 (c:=[kM y]) (w:=1) (z:=[Value.slice none 0 0]) (k:=k) hta rfl
   rw[← hk,show [kM y]=trs [y] from rfl,← lK0,← kH hr,show k=s.length-(i+1) by omega,show trs [y]=[kM y] from rfl] at hst
   simp(disch:=first|omega|(apply id;simp only[push_cast];try omega))only[push_cast,simprocAttr]
   refine dK (ho y hy) ?_
   unfold kM at hst ⊢
   simp(disch:=first|omega|(apply id;simp only[push_cast];try omega))only[push_cast,simprocAttr,hil,Int.toNat_natCast,hle,hl1,c1,hlen,hst]
   exact hR _ tH (by first|assumption|(simp(disch:=first|omega|(apply id;simp only[push_cast];try omega))only[push_cast,simprocAttr,hl1];try omega)) tH (by (repeat (first|exact Gr.refl _|assumption|(refine jC.put' ?_ _ _ (by first|omega|(simp only[push_cast];omega)))|(refine jC.add' ?_ _))))
  unfold trV at key
  have fin : ∀ (h' : jA) {x4 x5 x6 x7 x8 xC xD xE xI xJ xK xL xM xN xO xP xQ xR xS xT xU xV xW xX x0 xA xB : Value}, cells h' σ.next = some (trs ((dB s a l).take (i + 1)) ++ (List.replicate (s.length - (i + 1)) [Value.slice none 0 0]).flatten, 24, false) → h'.lo = 1 → σ.next < h'.next → (jC σ h' fun _ => False) →
    (∃ m',m'<s.length-i∧I52 σ s (dB s a l) a l (.func (.func 25) #[] #[]) m' ⟨(F34 x0 (.int .i64 a) (kM l) (.func (.func 25) #[] #[]) x4 x5 x6 x7 x8 (.slice (some ⟨σ.next,0,none⟩) s.length s.length) xA xB xC xD xE (Rw false eR s.length (trs s)) (.int .i64 s.length) (.int .i64 ((i:Int)+1)) xI xJ xK xL xM xN xO xP xQ xR xS xT xU xV xW xX),[],h'⟩):=fun h'=>by
   intros
   rename_i c1 hl1 hl2 hg
   exact ⟨_,by omega,I52.mk (i+1) _ _ (by first|rfl|omega) (by omega) c1 hl1 hl2 hg⟩
  by_cases ha:(i:Int)=a
  ·subst ha
   simp(disch:=first|omega|(apply id;simp only[push_cast];try omega))only[push_cast,simprocAttr,hil,Int.toNat_natCast,hp,hle,hl1]
   refine key l hl (pD1 hx) _ ?_
   intros
   rename_i h' c1' hl1' hl2' hg'
   simp(disch:=first|omega|(apply id;simp only[push_cast];try omega))only[push_cast,simprocAttr]
   rw[bO0]
   simp(disch:=first|omega|(apply id;simp only[push_cast];try omega))only[push_cast,simprocAttr,hil]
   exact fin _ c1' hl1' hl2' hg'
  ·simp(disch:=first|omega|(apply id;simp only[push_cast];try omega))only[push_cast,simprocAttr,hil,Int.toNat_natCast,hp,hle,hl1,ha]
   refine key x hxm (pC1 hx ha) _ ?_
   intros
   rename_i h' c1' hl1' hl2' hg'
   simp(disch:=first|omega|(apply id;simp only[push_cast];try omega))only[push_cast,simprocAttr]
   rw[bO0]
   simp(disch:=first|omega|(apply id;simp only[push_cast];try omega))only[push_cast,simprocAttr,hil]
   exact fin _ c1' hl1' hl2' hg'
 ·have hie:i=s.length:=by omega
  subst hie
  rw[List.take_of_length_le (by rw[jT0];exact Nat.le_refl _),Nat.sub_self,List.replicate_zero,List.flatten_nil,List.append_nil] at c1
  simp(disch:=first|omega|(apply id;simp only[push_cast];try omega))only[push_cast,simprocAttr,hil]
  rw[rR0]
  simp(disch:=first|omega|(apply id;simp only[push_cast];try omega))only[push_cast,simprocAttr]
  refine ⟨.id tH,uF0.new1 hg hlo hl2 c1 (.ids (kN0 _ (by omega) _)) (lI0 _)⟩
theorem qJ1 (s:List (List Tm)) (a:Int) (l:List Tm) (hs:qA0 s) (hl:zR0 l):jK (pp G) H0 53 [trV s,.int .i64 a,kM l,.func (.func 25) #[] #[]] (trV (dB s a l)):=by
 refine jK.cut ((qK1 G H0 s a l hs hl).mono ?_)
 rintro v σ' ⟨rfl,rfl⟩
 have hsl:=hs.1
 unfold trV
 rw[jT0]
 refine .sl (Nat.le_refl _) (kK _ _ _ _ rfl) (size:=1) rfl (by decide) (by rw[qH0,jT0];omega) (.inl ⟨by simp only[UC];omega,Nat.le_refl _⟩) ?_
 rw[List.drop_zero,List.take_of_length_le (by rw[qH0,jT0];omega)]
 exact .ids (kN0 _ H0q _)
theorem eZ0:zR0 []:=⟨by simp,rfl⟩
theorem fA0 {l m:List Tm} (h1:zR0 l) (h2:zR0 m) (hl:l.length+m.length<100000000000):zR0 (l++m):=
 ⟨by rw[List.length_append];exact hl,cS0 fun x hx=>(List.mem_append.1 hx).elim (kN h1.2 x) (kN h2.2 x)⟩
theorem wP0 {s:List (List Tm)} (h:qA0 s) (i:Nat):zR0 (s.getD i []):=by
 rw[List.getD_eq_getElem?_getD]
 cases hx:s[i]? with
 | none=>exact eZ0
 | some x=>exact h.2 x (List.mem_of_getElem? hx)
inductive IL (s:List (List Tm)) (fv:Value):Nat→S→Prop
 | mk (i:Nat) (iv:Int) (h:jA) {x0 x2 x3 x4 x6 x7 x8 x9 xA xB xC xD xH xI xJ xK xL xM xN xO xP xQ xR xS:Value} (hiv:iv=(i:Int)) (hi:i≤s.length) (c1:cells h 1=some (trs (s.take i)++(List.replicate (s.length-i) [Value.slice none 0 0]).flatten,24,false)) (hl1:h.lo=1) (hl2:2≤h.next) :
  IL s fv (s.length-i) ⟨(F29 x0 fv x2 x3 x4 (.slice (some ⟨1,0,none⟩) s.length s.length) x6 x7 x8 x9 xA xB xC xD (trV s) (.int .i64 s.length) (.int .i64 iv) xH xI xJ xK xL xM xN xO xP xQ xR xS),[],h⟩
theorem tX1 (s:List (List Tm)) (f:FuncId) (hll:s.length<100000000000) (hf:∀ x∈s,jK (pp G) H0 f [kM x] (kM x)):jK (pp G) H0 49 [trV s,.func (.func f) #[] #[]] (trV s):=by
 refine cE G fir49 (by kernel_rfl) (bE0 ..) fun hlo=>?_;rw[rF1]
 unfold trV
 by_cases h0:s.length=0
 ·have h0':(s.length:Int)=0:=by omega
  obtain rfl:s=[]:=List.length_eq_zero_iff.1 h0
  simp(disch:=first|omega|(apply id;simp only[push_cast];try omega))only[push_cast,simprocAttr,h0']
  exact .nil (size:=1) rfl (by decide)
 have h0':¬ (s.length:Int)=0:=by omega
 have h1:(s.length:Int)*400+s.length<100000000000000:=by omega
 simp(disch:=first|omega|(apply id;simp only[push_cast];try omega))only[push_cast,simprocAttr,h0',h1]
 refine WD.loop4 (q:=qq) (jW G) (by kernel_rfl) (IL s (.func (.func f) #[] #[])) ?_ _ _ (IL.mk 0 0 _ rfl (Nat.zero_le _) (by simp(disch:=first|omega|(apply id;simp only[push_cast];try omega))only[push_cast,simprocAttr,List.take_zero];rfl) rfl tH)
 intro m s1 hI
 cases hI with|mk i iv h hiv hi c1 hl1 hl2=>
 subst hiv
 rw[rW0]
 unfold trV
 by_cases hil:(i:Int)<s.length
 ·obtain ⟨x,hx⟩:=kO (l:=s) (i:=i) (by omega)
  have hxm:=List.mem_of_getElem? hx
  have hp:=lJ0 hx
  have hle:i<s.length:=by omega
  simp(disch:=first|omega|(apply id;simp only[push_cast];try omega))only[push_cast,simprocAttr,hil,Int.toNat_natCast,hp,hle,hl1]
  refine dK (hf x hxm) ?_
  obtain ⟨k,hk⟩:∃ k,s.length-i=k+1:=⟨s.length-i-1,by omega⟩
  have hta:(trs (s.take i)).length=i:=by rw[qH0,List.length_take,Nat.min_eq_left hi]
  have hlen:=zG0 (w:=1) (z:=[Value.slice none 0 0]) (k:=s.length-i) (n:=s.length) hta rfl (by omega)
  have hst:=qW0 (c:=[kM x]) (w:=1) (z:=[Value.slice none 0 0]) (k:=k) hta rfl
  rw[← hk,show [kM x]=trs [x] from rfl,← lK0,← kH hx,show k=s.length-(i+1) by omega,show trs [x]=[kM x] from rfl] at hst
  unfold kM at hst ⊢
  simp(disch:=first|omega|(apply id;simp only[push_cast];try omega))only[push_cast,simprocAttr,hil,Int.toNat_natCast,hle,hl1,c1,hlen,hst]
  exact ⟨_,by omega,IL.mk (i+1) _ _ (by first|rfl|omega) (by omega) tH (by first|assumption|(simp(disch:=first|omega|(apply id;simp only[push_cast];try omega))only[push_cast,simprocAttr,hl1];try omega)) tH⟩
 ·have hie:i=s.length:=by omega
  subst hie
  rw[List.take_length,Nat.sub_self,List.replicate_zero,List.flatten_nil,List.append_nil] at c1
  simp(disch:=first|omega|(apply id;simp only[push_cast];try omega))only[push_cast,simprocAttr,hil]
  rw[rV0]
  simp(disch:=first|omega|(apply id;simp only[push_cast];try omega))only[push_cast,simprocAttr]
  refine .sl (by simp(disch:=first|omega|(apply id;simp only[push_cast];try omega))only[push_cast,simprocAttr]) c1 (size:=1) rfl (by decide) tH (.inl ⟨by simp only[UC];omega,Nat.le_refl _⟩) ?_
  rw[List.drop_zero,List.take_of_length_le (by rw[qH0];omega)]
  exact .ids (kN0 _ H0q s)
theorem zE1 (l:List Tm) (hl:zR0 l):jK (pp G) H0 45 [kM l] (kM l):=by
 refine cE G gG2 (by kernel_rfl) (pT0 ..) fun hlo=>?_;rw[uT1]
 simp(disch:=first|omega|(apply id;simp only[push_cast];try omega))only[push_cast,simprocAttr]
 refine jD.dataI (dM0 G l 25 hl.1 fun x hx=>gC0 G x (kN hl.2 x hx)) (by and_intros<;>first|rfl|(simp(disch:=first|omega|(apply id;simp only[push_cast];try omega))only[push_cast])) ?_
 simp(disch:=first|omega|(apply id;simp only[push_cast];try omega))only[push_cast,simprocAttr]
 exact .id (cJ0 _ H0q l)
@[push_cast]theorem yP0 (n:Nat) (hn:0<n) (s:List (List Tm)):Ev.sc n (trV s)=true:=nU0 n hn ..
theorem zF1 (s:List (List Tm)) (hs:qA0 s):jK (pp G) H0 30 [trV s] (trV s):=by
 refine cE G fir30 (by kernel_rfl) (pT0 ..) fun hlo=>?_;rw[rW1]
 simp(disch:=first|omega|(apply id;simp only[push_cast];try omega))only[push_cast,simprocAttr]
 refine jD.dataI (tX1 G s 45 hs.1 fun x hx=>zE1 G x (hs.2 x hx)) (by and_intros<;>first|rfl|(simp(disch:=first|omega|(apply id;simp only[push_cast];try omega))only[push_cast])) ?_
 simp(disch:=first|omega|(apply id;simp only[push_cast];try omega))only[push_cast,simprocAttr]
 exact .id (yP0 _ H0q s)
theorem zR2 (t:Tm) (σ:jA):bsD (qq.m 24) (slT Tryd.prog 24) 1 [(0,tmV t)] σ=some (Rw true 29 1 (jZ [t]),σ):=by
 rw[jK0];cases t;kernel_rfl
theorem yB0 {s:List (List Tm)} {i:Nat} (h:i<s.length):(trs s)[i]?=some (kM (s.getD i [])):=by simp[trs,h]
theorem tB1 (s:List (List Tm)) (a:Int) (t:Tm) (hs:qA0 s) (hgl:(s.getD a.toNat []).length+1<100000000000) (ht:smT t=true) (ha:0≤a∧a<s.length):jK (pp G) H0 33 [trV s,.int .i64 a,tmV t] (trV (dB s a (s.getD a.toNat []++[t]))):=by
 have hg:=wP0 hs a.toNat
 have hsl:=hs.1
 refine cE G fir33 (by kernel_rfl) (uY2 ..) fun hlo=>?_;rw[rU1]
 simp(disch:=first|omega|(apply id;simp only[push_cast];try omega))only[push_cast,simprocAttr]
 refine dK (eI1 G s a hs.1) ?_
 have hp:=yB0 (s:=s) (i:=a.toNat) (by omega)
 have hd:decide (0≤a∧a<(s.length:Int))=true:=by simpa using ha
 have hc:(a.toNat:Int)=a:=by omega
 have hlt:a.toNat<s.length:=by omega
 have hsr:zR0 (s.getD a.toNat []++[t]):=fA0 hg ⟨by simp,by simp[smTs,ht]⟩ (by rw[List.length_cons,List.length_nil];omega)
 unfold trV
 simp(disch:=first|omega|(apply id;simp only[push_cast];try omega))only[push_cast,simprocAttr,hd,hp,hc,hlt,ha.1,ha.2,↓zR2]
 refine jD.data (pK0 G (s.getD a.toNat []) [t] (by omega) (by simp)) (.cons (.id (cJ0 _ H0q _)) (.cons (.row (.ids (jJ0 _ H0q _))) .nil)) (by first|rfl|(simp(disch:=first|omega|(apply id;simp only[push_cast];try omega))only[push_cast])) (by first|rfl|(simp(disch:=first|omega|(apply id;simp only[push_cast];try omega))only[push_cast])) ?_
 simp(disch:=first|omega|(apply id;simp only[push_cast];try omega))only[push_cast,simprocAttr]
 refine dK (qJ1 G s a (s.getD a.toNat []++[t]) hs hsr) ?_
 simp(disch:=first|omega|(apply id;simp only[push_cast];try omega))only[push_cast,simprocAttr]
 exact .id (yP0 _ H0q _)
theorem pQ0 (s:List (List Tm)) (a:Int) (hs:qA0 s):jK (pp G) H0 35 [trV s,.int .i64 a] (trV (dB s a [])):=by
 refine cE G fir35 (by kernel_rfl) (pS0 ..) fun hlo=>?_;rw[rS1]
 simp(disch:=first|omega|(apply id;simp only[push_cast];try omega))only[push_cast,simprocAttr]
 refine jD.data (qJ1 G s a [] hs eZ0) (by repeat' (first|exact FzL.nil|apply FzL.cons|exact FzV.id rfl|(refine FzV.id ?_;simp(disch:=first|omega|(apply id;simp only[push_cast];try omega))only[push_cast];done)|exact zK1 ..|exact zL1 ..|exact nil_tr ..|exact kV2 ..|exact nil_Pr ..|exact kU2 ..|apply FzV.agg|apply FzV.row)) (by first|rfl|(simp(disch:=first|omega|(apply id;simp only[push_cast];try omega))only[push_cast])) (by first|rfl|(simp(disch:=first|omega|(apply id;simp only[push_cast];try omega))only[push_cast])) ?_
 simp(disch:=first|omega|(apply id;simp only[push_cast];try omega))only[push_cast,simprocAttr]
 exact .id (yP0 _ H0q _)
def oO0 (s:List (List Tm)) (a b:Int):List (List Tm):=if a=b then s else dB (dB s b (s.getD b.toNat []++s.getD a.toNat [])) a []
theorem tT1 (s:List (List Tm)) (a b:Int) (hs:qA0 s) (hl:(s.getD b.toNat []).length+(s.getD a.toNat []).length<100000000000) (ha:0≤a∧a<s.length) (hb:0≤b∧b<s.length) :
  jK (pp G) H0 36 [trV s,.int .i64 a,.int .i64 b] (trV (oO0 s a b)):=by
 have hga:=wP0 hs a.toNat
 have hgb:=wP0 hs b.toNat
 have hsl:=hs.1
 unfold oO0
 refine cE G fir36 (by kernel_rfl) (uR2 ..) fun hlo=>?_;rw[rR1]
 simp(disch:=first|omega|(apply id;simp only[push_cast];try omega))only[push_cast,simprocAttr]
 refine dK (eI1 G s a hs.1) ?_
 have hd:decide (0≤a∧a<(s.length:Int))=true:=by simpa using ha
 have hd2:decide (0≤b∧b<(s.length:Int))=true:=by simpa using hb
 simp(disch:=first|omega|(apply id;simp only[push_cast];try omega))only[push_cast,simprocAttr,hd]
 refine dK (eI1 G s b hs.1) ?_
 by_cases hab:a=b
 ·rw[if_pos hab]
  subst hab
  simp(disch:=first|omega|(apply id;simp only[push_cast];try omega))only[push_cast,simprocAttr,hd2]
  refine dK (zF1 G s hs) ?_
  simp(disch:=first|omega|(apply id;simp only[push_cast];try omega))only[push_cast,simprocAttr]
  exact .id (yP0 _ H0q _)
 rw[if_neg hab]
 have hp:=yB0 (s:=s) (i:=a.toNat) (by omega)
 have hp2:=yB0 (s:=s) (i:=b.toNat) (by omega)
 have hc:(a.toNat:Int)=a:=by omega
 have hc2:(b.toNat:Int)=b:=by omega
 have hlt:a.toNat<s.length:=by omega
 have hlt2:b.toNat<s.length:=by omega
 have hsr:zR0 (s.getD b.toNat []++s.getD a.toNat []):=fA0 hgb hga hl
 obtain ⟨r,hr⟩:∃ r,r=dB s b (s.getD b.toNat []++s.getD a.toNat []):=⟨_,rfl⟩
 have hw:=qK1 G H0 s b (s.getD b.toNat []++s.getD a.toNat []) hs hsr
 have hrl:r.length=s.length:=by rw[hr,jT0]
 rw[← hr] at hw ⊢
 unfold trV
 simp(disch:=first|omega|(apply id;simp only[push_cast];try omega))only[push_cast,simprocAttr,hd2,hab,hp,hp2,hlt,hlt2,ha.1,ha.2,hb.1,hb.2]
 refine dK (pK0 G (s.getD b.toNat []) (s.getD a.toNat []) hgb.1 hga.1) ?_
 simp(disch:=first|omega|(apply id;simp only[push_cast];try omega))only[push_cast,simprocAttr]
 refine jD.new1 (hw) (by first|exact FzL.ids rfl|(refine FzL.ids ?_;simp(disch:=first|omega|(apply id;simp only[push_cast];try omega))only[push_cast])) (by first|rfl|(simp(disch:=first|omega|(apply id;simp only[push_cast];try omega))only[push_cast])) (by first|rfl|(simp(disch:=first|omega|(apply id;simp only[push_cast];try omega))only[push_cast])) ?_
 simp(disch:=first|omega|(apply id;simp only[push_cast];try omega))only[push_cast,simprocAttr,ha.1,ha.2,hlt,hrl]
 have hq:r=r.take a.toNat++(r.drop a.toNat):=(List.take_append_drop _ _).symm
 have hdr:r.drop a.toNat=r.getD a.toNat [] :: r.drop (a.toNat+1):=by
  rw[List.drop_eq_getElem_cons (by omega),List.getD_eq_getElem?_getD,List.getElem?_eq_getElem (by omega)];rfl
 have hz:dB r a []=r.take a.toNat++[] :: r.drop (a.toNat+1):=by
  unfold dB
  rw[if_pos ha.1,List.set_eq_take_append_cons_drop,if_pos (by omega)]
 rw[hz]
 have e1:(r.take a.toNat++[] :: r.drop (a.toNat+1)).length=s.length:=by
  rw[← hz,jT0,hrl]
 rw[e1]
 refine .sl (Nat.le_refl _) (jO _ _ _ _) (size:=1) rfl (by decide) ?_ (.inl ⟨by simp only[UC];omega,Nat.le_refl _⟩) ?_
 ·simp only[List.length_append,List.length_take,List.length_drop,qH0,List.length_cons,List.length_nil];omega
 rw[List.drop_zero,List.take_of_length_le (i:=s.length*1) (by simp only[List.length_append,List.length_take,List.length_drop,qH0,List.length_cons,List.length_nil];omega),lK0,show trs ([] :: r.drop (a.toNat+1))=[kM []]++trs (r.drop (a.toNat+1)) from rfl,List.append_assoc]
 have t1:(trs r).take a.toNat=trs (r.take a.toNat):=by simp[trs,List.map_take]
 have t2:(trs r).drop (a.toNat+1)=trs (r.drop (a.toNat+1)):=by simp[trs,List.map_drop]
 rw[t1,t2]
 exact (FzL.ids (kN0 _ H0q _)).app (.cons (zK1 G _ _) (.ids (kN0 _ H0q _)))
def tV0 (x:Tm):List Tm→Tm
 | []=>x
 | t :: r=>.mk 12 0 0 [] zE [t,tV0 x r]
def dY (x:Tm):List Tm→List Value
 | []=>tmC x
 | t :: r=>[.int .i64 12,.int .i64 0,.int .i64 0,.string (Tx []),.int .i64 0,.int .i64 0,.string (Tx []),.slice none 0 0,Rw true 29 2 (tmC t++dY x r)]
def revF:List Tm→Tm
 | []=>zT
 | x :: r=>tV0 x r.reverse
theorem iR0 (x:Tm) (r:List Tm):(dY x r).length=9:=by cases r<;>simp[dY,kU]
theorem iQ0 (x:Tm) (r:List Tm):(dY x r).all one=true:=by
 cases r with
 | nil=>exact qK0 x
 | cons t r=>rfl
theorem pL0 (n:Nat) (hn:0<n) (σ:jA) (x:Tm):∀ r:List Tm,FzL (pp G).P n σ (dY x r) (tmC (tV0 x r))
 | []=>.ids (qJ0 n hn x)
 | t :: r=>by
  rw[dY,tV0]
  refine .cons (.id rfl) (.cons (.id rfl) (.cons (.id rfl) (.cons (.id rfl) (.cons (.id rfl) (.cons (.id rfl) (.cons (.id rfl) (.cons (zL1 G n σ) (.cons (.row ?_) .nil))))))))
  rw[show jZ [t,tV0 x r]=tmC t++tmC (tV0 x r) by rw[jZ,jK0]]
  exact (FzL.ids (qJ0 n hn t)).app (pL0 n hn σ x r)
theorem row2 (t x:Tm) (r:List Tm) (σ:jA):bsD (qq.m 24) (slT Tryd.prog 24) 2 [(0,tmV t),(1,.agg ⟨dY x r⟩)] σ=some (Rw true 29 2 (tmC t++dY x r),σ):=by
 cases r with
 | nil=>rw[dY];cases t;cases x;kernel_rfl
 | cons u r=>rw[dY];generalize dY x r=c;cases t;cases u;kernel_rfl
inductive I25 (s:List (List Tm)) (a:Int) (x:Tm) (l:List Tm):Nat→S→Prop
 | mk (i : Nat) (iv : Int) (h : jA) {x2 x3 x5 x6 x8 x9 xA xB xC xD xE xF xG xH xI xJ xK xL xM xN xO xP xQ xR xS xT xU xV xW xX yB yC yD yE yF yG yH yI yJ yK yL yM : Value} (hiv : iv = (i : Int)) (hi : i ≤ l.length)
   (c0:cells h 1=some ([.int .i64 0,.int .i64 0,.int .i64 0,.string (Tx []),.int .i64 0,.int .i64 0,.string (Tx []),.slice none 0 0,.slice none 0 0],29,false))
   (c1:cells h 2=some (dY x (l.take i).reverse,29,false)) (hl1:h.lo=1) (hl2:3≤h.next) :
  I25 s a x l (l.length-i) ⟨(F49 (trV s) (.int .i64 a) x2 x3 (.pointer (some ⟨1,0,none⟩)) x5 x6 (.pointer (some ⟨2,0,none⟩)) x8 x9 xA xB xC xD xE xF xG xH xI xJ xK xL xM xN xO xP xQ xR xS xT xU xV xW xX (kM l) (.int .i64 l.length) (.int .i64 iv) yB yC yD yE yF yG yH yI yJ yK yL yM),[],h⟩
def ttV (t:Tm) (s:List (List Tm)):Value:=.tuple ⟨[tmV t,trV s]⟩
theorem dO1 (l:List Tm) {i:Nat} {t:Tm} (h:l[i]?=some t):(l.take (i+1)).reverse=t :: (l.take i).reverse:=by
 rw[kH h,List.reverse_append];rfl
theorem wY1 (s:List (List Tm)) (a:Int) (hs:qA0 s) (ha:0≤a∧a<s.length) :
  jK (pp G) H0 34 [trV s,.int .i64 a] (ttV (revF (s.getD a.toNat [])) (dB s a [])):=by
 have hga:=wP0 hs a.toNat
 have hsl:=hs.1
 have hp:=yB0 (s:=s) (i:=a.toNat) (by omega)
 have hc:(a.toNat:Int)=a:=by omega
 have hlt:a.toNat<s.length:=by omega
 have hset:s.getD a.toNat []=[]→dB s a []=s:=fun h0=>by
  unfold dB
  rw[if_pos ha.1]
  rw[List.getD_eq_getElem?_getD,List.getElem?_eq_getElem hlt] at h0
  simp only[Option.getD_some] at h0
  rw[← h0]
  exact List.set_getElem_self hlt
 generalize s.getD a.toNat []=row at hga hp hset
 have hd:decide (0≤a∧a<(s.length:Int))=true:=by simpa using ha
 have hrl:=hga.1
 refine cE G fir34 (by kernel_rfl) (uQ2 ..) fun hlo=>?_;rw[rT1]
 simp(disch:=first|omega|(apply id;simp only[push_cast];try omega))only[push_cast,simprocAttr]
 refine dK (eI1 G s a hs.1) ?_
 cases row with
 | nil=>
  rw[hset rfl]
  unfold trV
  unfold kM at hp
  simp(disch:=first|omega|(apply id;simp only[push_cast];try omega))only[push_cast,simprocAttr,hd,hp,hlt,ha.1,ha.2,List.length_nil,show ((0:Nat):Int)=0 from rfl]
  have:=zF1 G s hs
  unfold trV at this
  refine dK (this) ?_
  simp(disch:=first|omega|(apply id;simp only[push_cast];try omega))only[push_cast,simprocAttr]
  refine .tup (.cons (.agg ?_) (.cons (.id (nU0 _ H0q _ _ _)) .nil))
  exact .cons (.id rfl) (.cons (.id rfl) (.cons (.id rfl) (.cons (.id rfl) (.cons (.id rfl) (.cons (.id rfl) (.cons (.id rfl) (.cons (zL1 G _ _) (.cons (zK1 G _ _) .nil))))))))
 | cons x l=>
  have hll:l.length+1<100000000000:=by simpa using hrl
  have hxs:smT x=true:=kN hga.2 x (by simp)
  have hls:smTs l=true:=by have:=hga.2;simp only[smTs,Bool.and_eq_true] at this;exact this.2
  have hne:¬ ((l.length:Int)+1)=0:=by omega
  have h9:9≤(l.length+1)*9:=by omega
  have hT:jK (pp G) H0 45 [Rw false etm (x :: l).length (jZ (x :: l))] (Rw false etm (x :: l).length (jZ (x :: l))):=zE1 G _ hga
  have hdr:(jZ (x :: l)).drop 9=jZ l:=by
   have:=yR0 (x :: l) 1
   simpa using this
  unfold trV
  unfold kM at hp
  simp(disch:=first|omega|(apply id;simp only[push_cast];try omega))only[push_cast,simprocAttr,hd,hp,hlt,ha.1,ha.2,List.length_cons,hne]
  rw[List.length_cons] at hT
  refine dK (hT) ?_
  have e2:(l.length:Int)+1-1=l.length:=by omega
  simp(disch:=first|omega|(apply id;simp only[push_cast];try omega))only[push_cast,simprocAttr,h9,List.length_cons,hdr,Nat.add_sub_cancel,e2]
  refine WD.loop4 (q:=qq) (jW G) (by kernel_rfl) (I25 s a x l) ?_ _ _ (I25.mk 0 0 _ rfl (Nat.zero_le _) (by simp(disch:=first|omega|(apply id;simp only[push_cast];try omega))only[push_cast,simprocAttr]) (by simp(disch:=first|omega|(apply id;simp only[push_cast];try omega))only[push_cast,simprocAttr];rfl) rfl tH)
  intro m s1 hI
  cases hI with|mk i iv h hiv hi c0 c1 hl1 hl2=>
  subst hiv
  rw[sJ0]
  unfold trV kM
  by_cases hil:(i:Int)<l.length
  ·obtain ⟨t,ht⟩:=kO (l:=l) (i:=i) (by omega)
   have hpt:=gX ht
   have hle2:i*9+9≤l.length*9:=by omega
   have hbl:=iR0 x (l.take i).reverse
   have hbt:(dY x (l.take i).reverse).take 9=dY x (l.take i).reverse:=List.take_of_length_le (by rw[hbl];omega)
   have hbd:(dY x (l.take i).reverse).drop 9=[]:=List.drop_of_length_le (by rw[hbl];omega)
   have hbo:=iQ0 x (l.take i).reverse
   simp(disch:=first|omega|(apply id;simp only[push_cast];try omega))only[push_cast,simprocAttr,hil,Int.toNat_natCast,hpt,hle2,hl1,c1,hbl,hbt,hbd,hbo,↓row2]
   exact ⟨_,by omega,I25.mk (i+1) _ _ (by first|rfl|omega) (by omega) (by first|assumption|(simp(disch:=first|omega|(apply id;simp only[push_cast];try omega))only[push_cast,simprocAttr,c0];try omega)) (by rw[dO1 l ht,dY];simp(disch:=first|omega|(apply id;simp only[push_cast];try omega))only[push_cast,simprocAttr]) (by first|assumption|(simp(disch:=first|omega|(apply id;simp only[push_cast];try omega))only[push_cast,simprocAttr,hl1];try omega)) tH⟩
  ·have hie:i=l.length:=by omega
   subst hie
   rw[List.take_length] at c1
   have hbl:=iR0 x l.reverse
   have hbt:(dY x l.reverse).take 9=dY x l.reverse:=List.take_of_length_le (by rw[hbl];omega)
   have hbd:(dY x l.reverse).drop 9=[]:=List.drop_of_length_le (by rw[hbl];omega)
   have hbo:=iQ0 x l.reverse
   simp(disch:=first|omega|(apply id;simp only[push_cast];try omega))only[push_cast,simprocAttr,hil]
   rw[sI0]
   simp(disch:=first|omega|(apply id;simp only[push_cast];try omega))only[push_cast,simprocAttr,c1,hbl,hbt,hl1]
   have hA:=pQ0 G s a hs
   unfold trV at hA
   refine dK (hA) ?_
   simp(disch:=first|omega|(apply id;simp only[push_cast];try omega))only[push_cast,simprocAttr,c0,hl1,hbl,hbo,hbt,hbd]
   refine .tup (.cons (.agg (pL0 G _ H0q _ x _)) (.cons (.id (nU0 _ H0q _ _ _)) .nil))
mutual
def anyT:Tm→Bool
 | .mk k _ _ _ _ l=>decide (k=14) || fW1 l
def fW1:List Tm→Bool
 | []=>false
 | x :: l=>anyT x || fW1 l
end
theorem wW1 (v st p:Int) (x:Tm) (hs:smT x=true):jK (pp G) H0 22 [tmV x,.int .i64 v,.int .i64 st,.int .i64 p] (.bool (cF v st p false x)):=by
 refine cE G fir22 (by kernel_rfl) (nM0 ..) fun hlo=>?_;rw[sD1]
 simp(disch:=first|omega|(apply id;simp only[push_cast];try omega))only[push_cast,simprocAttr]
 refine dK (rt_f G v st p x false hs) ?_
 simp(disch:=first|omega|(apply id;simp only[push_cast];try omega))only[push_cast,simprocAttr]
 exact .id rfl
def idxF (g:Tm→Bool):List Tm→Nat→Int
 | [],_=>-1
 | x :: l,i=>if g x=true then i else idxF g l (i+1)
theorem oX0 (g:Tm→Bool):∀ (l:List Tm) (i:Nat),decide (0≤idxF g l i)=l.any g
 | [],_=>rfl
 | x :: l,i=>by
  rw[idxF,List.any_cons]
  split
  ·rename_i h;rw[h];simp
  ·rename_i h;rw[oX0 g l (i+1)];simp[h]
theorem yN1 (g:Tm→Bool) {l:List Tm} {i:Nat} {x:Tm} (h:l[i]?=some x):idxF g (l.drop i) i=if g x=true then (i:Int) else idxF g (l.drop (i+1)) (i+1):=by
 obtain ⟨hi,hx⟩:=List.getElem?_eq_some_iff.1 h
 rw[List.drop_eq_getElem_cons hi,idxF,hx]
inductive J109 (l:List Tm) (fv:Value) (g:Tm→Bool):Nat→S→Prop
 | mk (i:Nat) (iv:Int) (h:jA) {x2 x3 x4 x5 x6 x9 xA xB xC xD xE xF xG xH xI:Value} (hiv:iv=(i:Int)) (hi:i≤l.length) (hx:idxF g l 0=idxF g (l.drop i) i) (hl1:h.lo=1) (hl2:1≤h.next) :
  J109 l fv g (l.length-i) ⟨(F19 (kM l) fv x2 x3 x4 x5 x6 (.int .i64 l.length) (.int .i64 iv) x9 xA xB xC xD xE xF xG xH xI),[],h⟩
theorem jI2 (l:List Tm) (f:FuncId) (g:Tm→Bool) (hll:l.length<100000000000) (hf:∀ x∈l,jK (pp G) H0 f [tmV x] (.bool (g x))) :
  jK (pp G) H0 61 [kM l,.func (.func f) #[] #[]] (.int .i64 (idxF g l 0)):=by
 refine cE G fir61 (by kernel_rfl) (eN0 ..) fun hlo=>?_;rw[pT1]
 unfold kM
 simp(disch:=first|omega|(apply id;simp only[push_cast];try omega))only[push_cast,simprocAttr]
 refine WD.loop4 (q:=qq) (jW G) (by kernel_rfl) (J109 l (.func (.func f) #[] #[]) g) ?_ _ _ (J109.mk 0 0 _ rfl (Nat.zero_le _) rfl rfl tH)
 intro m s1 hI
 cases hI with|mk i iv h hiv hi hx hl1 hl2=>
 subst hiv
 rw[rM0]
 unfold kM
 by_cases hil:(i:Int)<l.length
 ·obtain ⟨x,hxx⟩:=kO (l:=l) (i:=i) (by omega)
  have hp:=gX hxx
  have hle2:i*9+9≤l.length*9:=by omega
  simp(disch:=first|omega|(apply id;simp only[push_cast];try omega))only[push_cast,simprocAttr,hil,Int.toNat_natCast,hp,hle2,hl1]
  refine dK (hf x (List.mem_of_getElem? hxx)) ?_
  rw[yN1 g hxx] at hx
  cases hg:g x with
  | true=>
   rw[if_pos hg] at hx
   simp(disch:=first|omega|(apply id;simp only[push_cast];try omega))only[push_cast,simprocAttr,hx]
   exact .id rfl
  | false=>
   rw[if_neg (by rw[hg];simp)] at hx
   simp(disch:=first|omega|(apply id;simp only[push_cast];try omega))only[push_cast,simprocAttr]
   exact ⟨_,by omega,J109.mk (i+1) _ _ (by first|rfl|omega) (by omega) hx (by first|assumption|(simp(disch:=first|omega|(apply id;simp only[push_cast];try omega))only[push_cast,simprocAttr,hl1];try omega)) tH⟩
 ·obtain rfl:i=l.length:=by omega
  rw[List.drop_length] at hx
  simp(disch:=first|omega|(apply id;simp only[push_cast];try omega))only[push_cast,simprocAttr,hil]
  rw[rL0]
  rw[hx]
  simp(disch:=first|omega|(apply id;simp only[push_cast];try omega))only[push_cast,simprocAttr]
  exact .id rfl
theorem tO0 (l:List Tm) (f:FuncId) (g:Tm→Bool) (hll:l.length<100000000000) (hf:∀ x∈l,jK (pp G) H0 f [tmV x] (.bool (g x))) :
  jK (pp G) H0 43 [kM l,.func (.func f) #[] #[]] (.bool (l.any g)):=by
 refine cE G fir43 (by kernel_rfl) (pR0 ..) fun hlo=>?_;rw[rK1]
 simp(disch:=first|omega|(apply id;simp only[push_cast];try omega))only[push_cast,simprocAttr]
 refine dK (jI2 G l f g hll hf) ?_
 rw[← oX0 g l 0]
 simp(disch:=first|omega|(apply id;simp only[push_cast];try omega))only[push_cast,simprocAttr]
 exact .id rfl
theorem iS0:∀ l:List Tm,fW1 l=l.any anyT
 | []=>rfl
 | x :: l=>by rw[fW1,iS0 l];rfl
theorem eU0:∀ t:Tm,smT t=true→jK (pp G) H0 23 [tmV t] (.bool (anyT t))
 | .mk k a b s e l,hs=>by
  simp only[smT,Bool.and_eq_true,decide_eq_true_eq] at hs
  have hsl:=hs.1.1
  have ih:∀ x∈l,jK (pp G) H0 23 [tmV x] (.bool (anyT x)):=fun x hx=>eU0 x (kN hs.2 x hx)
  have hc:=tO0 G l 23 anyT hsl ih
  unfold kM at hc
  refine cE G fir23 (by kernel_rfl) (wC2 ..) fun hlo=>?_;rw[sC1]
  rw[anyT,iS0]
  by_cases hk:k=14
  ·subst hk
   simp(disch:=first|omega|(apply id;simp only[push_cast];try omega))only[push_cast,simprocAttr]
   exact kX0 rfl rfl
  ·rw[decide_eq_false hk,Bool.false_or]
   simp(disch:=first|omega|(apply id;simp only[push_cast];try omega))only[push_cast,simprocAttr,hk]
   refine dK (hc) ?_
   simp(disch:=first|omega|(apply id;simp only[push_cast];try omega))only[push_cast,simprocAttr]
   exact kX0 rfl rfl
 termination_by x=>SizeOf.sizeOf x
def okT (c:Co) (x:Tm):Bool:=cF c.v.length c.s c.p.length false x&&(!anyT x&&decide (W (cY0 x)≤2000))
def chkC (c:Co):Bool:=decide (c.v.length≤20∧0≤c.s∧c.s≤10∧c.p.length≤20∧0≤c.m∧c.m<c.p.length)&&c.p.all (okT c)
theorem cA0 {c:Co} (h:¬ (c.v.length≤20∧0≤c.s∧c.s≤10∧c.p.length≤20∧0≤c.m∧c.m<c.p.length)):chkC c=false:=by
 unfold chkC;rw[decide_eq_false h];rfl
theorem qW2 {c:Co} {x:Tm} (hx:x∈c.p) (h:okT c x=false):chkC c=false:=by
 unfold chkC
 rw[show c.p.all (okT c)=false from List.all_eq_false.2 ⟨x,hx,by rw[h];simp⟩,Bool.and_false]
structure SmC (c:Co):Prop where
 v:c.v.length<100000000000
 p:c.p.length<100000000000
 t:smTs c.p=true
inductive J14 (c:Co):Nat→S→Prop
 | mk (i:Nat) (iv:Int) (h:jA) {x0 x2 x3 x4 x5 x6 x7 x8 x9 xA xB xC xD xE xF xG xH xI xJ xK xL xM xN xO xP xQ xR xS xT xU xV xW xX xY xZ yA yB yC yG yH yI yJ yK yL yM yN yO yP yQ yR yS yT yU yV yW yX yY yZ zA zB zC zD:Value} (hiv:iv=(i:Int)) (hi:i≤c.p.length) (hok:(c.p.take i).all (okT c)=true) (c0:cells h 1=some (coC c,33,false)) (hl1:h.lo=1) (hl2:2≤h.next) :
  J14 c (c.p.length-i) ⟨(F66 x0 (.pointer (some ⟨1,0,none⟩)) x2 x3 x4 x5 x6 x7 x8 x9 xA xB xC xD xE xF xG xH xI xJ xK xL xM xN xO xP xQ xR xS xT xU xV xW xX xY xZ yA yB yC (kM c.p) (.int .i64 c.p.length) (.int .i64 iv) yG yH yI yJ yK yL yM yN yO yP yQ yR yS yT yU yV yW yX yY yZ zA zB zC zD),[],h⟩
theorem gX1 (c:Co) (hc:SmC c):jK (pp G) H0 10 [coV c] (.bool (chkC c)):=by
 obtain ⟨hv,hp,ht⟩:=hc
 refine cE G fir10 (by kernel_rfl) (uN2 ..) fun hlo=>?_;rw[sO1]
 by_cases h1:(c.v.length:Int) > 20
 ·rw[cA0 (by omega)]
  unfold coV coC ivV kM
  simp(disch:=first|omega|(apply id;simp only[push_cast];try omega))only[push_cast,simprocAttr,h1]
  exact kX0 rfl rfl
 by_cases h2:c.s<0
 ·rw[cA0 (by omega)]
  unfold coV coC ivV kM
  simp(disch:=first|omega|(apply id;simp only[push_cast];try omega))only[push_cast,simprocAttr,h1,h2]
  exact kX0 rfl rfl
 by_cases h3:c.s > 10
 ·rw[cA0 (by omega)]
  unfold coV coC ivV kM
  simp(disch:=first|omega|(apply id;simp only[push_cast];try omega))only[push_cast,simprocAttr,h1,h2,h3]
  exact kX0 rfl rfl
 by_cases h4:(c.p.length:Int) > 20
 ·rw[cA0 (by omega)]
  unfold coV coC ivV kM
  simp(disch:=first|omega|(apply id;simp only[push_cast];try omega))only[push_cast,simprocAttr,h1,h2,h3,h4]
  exact kX0 rfl rfl
 by_cases h5:c.m<0
 ·rw[cA0 (by omega)]
  unfold coV coC ivV kM
  simp(disch:=first|omega|(apply id;simp only[push_cast];try omega))only[push_cast,simprocAttr,h1,h2,h3,h4,h5]
  exact kX0 rfl rfl
 by_cases h6:c.m ≥ (c.p.length:Int)
 ·rw[cA0 (by omega)]
  unfold coV coC ivV kM
  simp(disch:=first|omega|(apply id;simp only[push_cast];try omega))only[push_cast,simprocAttr,h1,h2,h3,h4,h5,h6]
  exact kX0 rfl rfl
 have hd:chkC c=c.p.all (okT c):=by unfold chkC;rw[decide_eq_true (by omega)];rfl
 unfold coV coC ivV kM
 simp(disch:=first|omega|(apply id;simp only[push_cast];try omega))only[push_cast,simprocAttr,h1,h2,h3,h4,h5,h6]
 refine WD.loop4 (q:=qq) (jW G) (by kernel_rfl) (J14 c) ?_ _ _ (J14.mk 0 0 _ rfl (Nat.zero_le _) rfl (by unfold coC ivV kM;simp(disch:=first|omega|(apply id;simp only[push_cast];try omega))only[push_cast,simprocAttr]) tH tH)
 intro m s1 hI
 cases hI with|mk i iv h hiv hi hok c0 hl1 hl2=>
 subst hiv
 rw[sX0]
 have c0':=c0
 unfold coC ivV kM at c0'
 by_cases hil:(i:Int)<c.p.length
 ·obtain ⟨x,hx⟩:=kO (l:=c.p) (i:=i) (by omega)
  have hxm:=List.mem_of_getElem? hx
  have hxs:=kN ht x hxm
  have hpx:=gX hx
  have hle2:i*9+9≤c.p.length*9:=by omega
  unfold kM
  simp(disch:=first|omega|(apply id;simp only[push_cast];try omega))only[push_cast,simprocAttr,hil,Int.toNat_natCast,hpx,hle2,hl1,c0']
  have hbad:okT c x=false→chkC c=false:=qW2 hxm
  refine dK (wW1 G c.v.length c.s c.p.length x hxs) ?_
  cases hr:cF c.v.length c.s c.p.length false x with
  | false=>
   simp(disch:=first|omega|(apply id;simp only[push_cast];try omega))only[push_cast,simprocAttr]
   rw[hbad (by unfold okT;rw[hr];rfl)]
   exact kX0 rfl rfl
  | true=>
  simp(disch:=first|omega|(apply id;simp only[push_cast];try omega))only[push_cast,simprocAttr]
  refine dK (eU0 G x hxs) ?_
  cases ha:anyT x with
  | true=>
   simp(disch:=first|omega|(apply id;simp only[push_cast];try omega))only[push_cast,simprocAttr]
   rw[hbad (by unfold okT;rw[hr,ha];rfl)]
   exact kX0 rfl rfl
  | false=>
  simp(disch:=first|omega|(apply id;simp only[push_cast];try omega))only[push_cast,simprocAttr]
  refine dK (oD0 G x hxs) ?_
  by_cases hz:W (cY0 x) > 2000
  ·simp(disch:=first|omega|(apply id;simp only[push_cast];try omega))only[push_cast,simprocAttr,hz]
   rw[hbad (by unfold okT;rw[hr,ha,decide_eq_false (by omega)];rfl)]
   exact kX0 rfl rfl
  ·simp(disch:=first|omega|(apply id;simp only[push_cast];try omega))only[push_cast,simprocAttr,hz]
   exact ⟨_,by omega,J14.mk (i+1) _ _ (by first|rfl|omega) (by omega) (by rw[kH hx,List.all_append,hok,List.all_cons,List.all_nil];unfold okT;rw[hr,ha,decide_eq_true (by omega)];rfl) (by first|assumption|(simp(disch:=first|omega|(apply id;simp only[push_cast];try omega))only[push_cast,simprocAttr,c0];try omega)) (by first|assumption|(simp(disch:=first|omega|(apply id;simp only[push_cast];try omega))only[push_cast,simprocAttr,hl1];try omega)) tH⟩
 ·obtain rfl:i=c.p.length:=by omega
  rw[List.take_length] at hok
  unfold kM
  simp(disch:=first|omega|(apply id;simp only[push_cast];try omega))only[push_cast,simprocAttr,hil]
  rw[sW0]
  rw[hd,hok]
  simp(disch:=first|omega|(apply id;simp only[push_cast];try omega))only[push_cast,simprocAttr]
  exact kX0 rfl rfl
end
end Go.Proofs.YtklapbhlhjdijaaDoor
