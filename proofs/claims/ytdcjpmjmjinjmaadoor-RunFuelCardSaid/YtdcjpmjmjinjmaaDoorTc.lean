/-
  A part of the proof: what the program's functions hand back,as theorems. No condition but those that each theorem names.
-/
import Derived.Test.YtdcjpmjmjinjmaaDoorTa
import Derived.Test.YtdcjpmjmjinjmaaDoorTb
import Derived.Test.YtdcjpmjmjinjmaaDoorExc
set_option linter.unusedSimpArgs false
set_option linter.unusedVariables false
namespace Go.Proofs.YtdcjpmjmjinjmaaDoor
open Go Go.RowKit Go.Ev Go.Dv
noncomputable section
set_option maxRecDepth 100000
variable (G:Nat×Nat)
def tmH (k a b:Int) (s:List UInt8) (e:Ex) (L:Value):List Value:=[.int .i64 k,.int .i64 a,.int .i64 b,.string (Tx s),.int .i64 e.k,.int .i64 e.n,.string (Tx e.s),Rw false eE e.l.length (wY e.l),L]
inductive NTs (σ:jA):Nat→Nat→Tm→List Value→Prop
 | leaf {lo hi:Nat} {t:Tm} (h:lo≤hi) (h12:t.k≠12) (h11:t.k≠11) (h7:t.k≠7):NTs σ lo hi t (tmC t)
 | blk {lo hi b : Nat} {a b' : Int} {s : List UInt8} {e : Ex} {x : Tm} {cx : List Value} (hx : NTs σ lo b x cx) (hc : cells σ b = some (cx, etm, false)) (hb : b < hi) :
   NTs σ lo hi (.mk 7 a b' s e [x]) (tmH 7 a b' s e (.slice (some ⟨b,0,none⟩) 1 1))
 | seq {lo hi b : Nat} {a b' : Int} {s : List UInt8} {e : Ex} {x y : Tm} {cx : List Value} (hx : NTs σ lo b x cx) (hc : cells σ b = some (cx ++ tmC y, etm, false)) (hb : b < hi) :
   NTs σ lo hi (.mk 12 a b' s e [x,y]) (tmH 12 a b' s e (.slice (some ⟨b,0,none⟩) 2 2))
 | par {lo m hi b : Nat} {a b' : Int} {s : List UInt8} {e : Ex} {x y : Tm} {cx cy : List Value} (hx : NTs σ lo m x cx) (hy : NTs σ m b y cy) (hc : cells σ b = some (cx ++ cy, etm, false)) (hb : b < hi) :
   NTs σ lo hi (.mk 11 a b' s e [x,y]) (tmH 11 a b' s e (.slice (some ⟨b,0,none⟩) 2 2))
theorem NTs.le {σ:jA} {lo hi:Nat} {t:Tm} {c:List Value} (h:NTs σ lo hi t c):lo≤hi:=by
 induction h<;>omega
theorem NTs.len {σ:jA} {lo hi:Nat} {t:Tm} {c:List Value} (h:NTs σ lo hi t c):c.length=9:=by
 cases h<;>first|exact qM _|rfl
theorem NTs.one {σ:jA} {lo hi:Nat} {t:Tm} {c:List Value} (h:NTs σ lo hi t c):c.all one=true:=by
 cases h<;>first|exact qJ0 _|rfl
theorem NTs.mono {σ:jA} {lo hi:Nat} {t:Tm} {c:List Value} (h:NTs σ lo hi t c):∀ {lo' hi':Nat},lo'≤lo→hi≤hi'→NTs σ lo' hi' t c:=by
 induction h with
 | leaf h h12 h11 h7=>intro lo' hi' h1 h2;exact .leaf (by omega) h12 h11 h7
 | blk hx hc hb ih=>intro lo' hi' h1 h2;exact .blk (ih h1 (Nat.le_refl _)) hc (by omega)
 | seq hx hc hb ih=>intro lo' hi' h1 h2;exact .seq (ih h1 (Nat.le_refl _)) hc (by omega)
 | par hx hy hc hb ihx ihy=>intro lo' hi' h1 h2;exact .par (ihx h1 (Nat.le_refl _)) hy hc (by omega)
theorem NTs.grew {σ σ':jA} {S:Nat→Prop} {lo hi:Nat} {t:Tm} {c:List Value} (h:NTs σ lo hi t c) (g:jD σ σ' S) (hS:∀ k,lo≤k→k<hi→¬ S k) (hn:hi≤σ.next):NTs σ' lo hi t c:=by
 induction h with
 | leaf h h12 h11 h7=>exact .leaf h h12 h11 h7
 | blk hx hc hb ih=>
  have:=hx.le
  exact .blk (ih (fun k h1 h2=>hS k h1 (by omega)) (by omega)) ((g.cells (by omega) (hS _ (by omega) hb)).trans hc) hb
 | seq hx hc hb ih=>
  have:=hx.le
  exact .seq (ih (fun k h1 h2=>hS k h1 (by omega)) (by omega)) ((g.cells (by omega) (hS _ (by omega) hb)).trans hc) hb
 | par hx hy hc hb ihx ihy=>
  have:=hx.le
  have:=hy.le
  exact .par (ihx (fun k h1 h2=>hS k h1 (by omega)) (by omega)) (ihy (fun k h1 h2=>hS k (by omega) (by omega)) (by omega)) ((g.cells (by omega) (hS _ (by omega) hb)).trans hc) hb
theorem yS0 {P:Program} {n:Nat} {σ:jA} {L D:Value} (k a b:Int) (s:List UInt8) (e:Ex) (hn:0<n) (h:FzV P n σ L D):FzL P n σ (tmH k a b s e L) (tmH k a b s e D):=
 .cons (.id rfl) (.cons (.id rfl) (.cons (.id rfl) (.cons (.id rfl) (.cons (.id rfl) (.cons (.id rfl) (.cons (.id rfl) (.cons (.id (oL0 _ hn ..)) (.cons h .nil))))))))
theorem yZ0 {P:Program} {n:Nat} {σ:jA} {b m:Nat} {cs:List Value} {l:List Tm} (h9:szT P etm=some 9) (hb:n≤b) (hc:cells σ b=some (cs,etm,false)) (hl:l.length=m) (hm:m<100) (hz:FzL P n σ cs (jZ l)) (hcl:cs.length=m*9):FzV P n σ (.slice (some ⟨b,0,none⟩) m m) (Rw false etm l.length (jZ l)):=by
 subst hl
 refine .sl hb hc h9 (by decide) (by omega) (.inl ⟨by simp only[UC];omega,Nat.le_refl _⟩) ?_
 rw[List.drop_zero,List.take_of_length_le (by omega)]
 exact hz
theorem NTs.fz {P:Program} (h9:szT P etm=some 9) {n:Nat} (hn:0<n) {σ:jA} {lo hi:Nat} {t:Tm} {c:List Value} (h:NTs σ lo hi t c) (hlo:n≤lo):FzL P n σ c (tmC t):=by
 induction h with
 | leaf=>exact .ids (qI0 n hn _)
 | blk hx hc hb ih=>
  have:=hx.le
  exact yS0 _ _ _ _ _ hn (yZ0 h9 (by omega) hc rfl (by decide) (by rw[kW];exact ih hlo) (by rw[hx.len]))
 | @seq lo hi b a b' s e x y cx hx hc hb ih=>
  have:=hx.le
  refine yS0 _ _ _ _ _ hn (yZ0 (l:=[x,y]) h9 (by omega) hc rfl (by decide) ?_ (by rw[List.length_append,hx.len,qM]))
  rw[show jZ [x,y]=tmC x++tmC y by rw[jZ,kW]]
  exact (ih hlo).app (.ids (qI0 n hn _))
 | @par lo m hi b a b' s e x y cx cy hx hy hc hb ihx ihy=>
  have:=hx.le
  have:=hy.le
  refine yS0 _ _ _ _ _ hn (yZ0 (l:=[x,y]) h9 (by omega) hc rfl (by decide) ?_ (by rw[List.length_append,hx.len,hy.len]))
  rw[show jZ [x,y]=tmC x++tmC y by rw[jZ,kW]]
  exact (ihx hlo).app (ihy (by omega))
def atT:Tm→List Int→Tm
 | t,[]=>t
 | .mk _ _ _ _ _ l,i :: p=>atT (l.getD i.toNat zT) p
def gD:Tm→List Int→Tm→Tm
 | _,[],x=>x
 | .mk k a b s e l,i :: p,x=>.mk k a b s e (l.set i.toNat (gD (l.getD i.toNat zT) p x))
inductive kF:Tm→List Int→Prop
 | nil {t:Tm}:kF t []
 | blk {a b:Int} {s:List UInt8} {e:Ex} {x:Tm} {p:List Int} (h:kF x p):kF (.mk 7 a b s e [x]) (0 :: p)
 | seq {a b:Int} {s:List UInt8} {e:Ex} {x y:Tm} {p:List Int} (h:kF x p):kF (.mk 12 a b s e [x,y]) (0 :: p)
 | parl {a b:Int} {s:List UInt8} {e:Ex} {x y:Tm} {p:List Int} (h:kF x p):kF (.mk 11 a b s e [x,y]) (0 :: p)
 | parr {a b:Int} {s:List UInt8} {e:Ex} {x y:Tm} {p:List Int} (h:kF y p):kF (.mk 11 a b s e [x,y]) (1 :: p)
structure LocT (σ:jA) (b off lo hi:Nat) (full:List Value) (ty:Nat) (t:Tm) (c:List Value):Prop where
 lc:cells σ b=some (full,ty,false)
 lw:off+9≤full.length
 lh:b<lo∨hi≤b
 ln:b<σ.next
 le:(full.drop off).take 9=c
 lt:NTs σ lo hi t c
 lp:0<b
 lg:hi≤σ.next
def Wr (P:Program) (n:Nat) (O:Nat→Prop) (σ:jA) (b off:Nat) (full:List Value) (ty:Nat) (t:Tm) (p:List Int) (bq oq loq hiq:Nat) (fullq:List Value) (tyq:Nat):Prop:=
 ∀ (σ':jA) (y:Tm) (cy:List Value),cy.length=9→jD σ σ' (fun k=>(k=bq∨(loq≤k∧k<hiq))∨O k)→cells σ' bq=some (setFrom fullq oq cy,tyq,false)→FzL P n σ' cy (tmC y)→
  ∃ c',c'.length=9∧cells σ' b=some (setFrom full off c',ty,false)∧FzL P n σ' c' (tmC (gD t p y))
theorem eZ0 {full c:List Value} {off:Nat} (h:(full.drop off).take 9=c) (hc:c.length=9):setFrom full off c=full:=by
 unfold setFrom
 rw[hc,← h,← List.drop_drop,List.append_assoc,List.take_append_drop,List.take_append_drop]
theorem Wr.self {P:Program} {n:Nat} {O:Nat→Prop} {σ:jA} {b off lo hi:Nat} {full:List Value} {ty:Nat} {t:Tm}:Wr P n O σ b off full ty t [] b off lo hi full ty:=
 fun σ' y cy h1 _ h3 h4=>⟨cy,h1,h3,h4⟩
theorem wS0:∀ (t:Tm) (p q:List Int) (y:Tm),kF t p→gD t (p++q) y=gD t p (gD (atT t p) q y)
 | t,[],q,y,_=>by simp[gD,atT]
 | .mk k a b s e l,i :: p,q,y,h=>by
  cases h with
  | blk h=>exact congrArg (fun z=>Tm.mk 7 a b s e [z]) (wS0 _ p q y h)
  | @seq _ _ _ _ x z _ h=>exact congrArg (fun w=>Tm.mk 12 a b s e [w,z]) (wS0 _ p q y h)
  | @parl _ _ _ _ x z _ h=>exact congrArg (fun w=>Tm.mk 11 a b s e [w,z]) (wS0 _ p q y h)
  | @parr _ _ _ _ x z _ h=>exact congrArg (fun w=>Tm.mk 11 a b s e [x,w]) (wS0 _ p q y h)
theorem Wr.trans {P:Program} {n:Nat} {O:Nat→Prop} {σ:jA} {b off:Nat} {full:List Value} {ty:Nat} {t:Tm} {p q:List Int} {b1 o1 l1 h1:Nat} {full1:List Value} {ty1:Nat} {b2 o2 l2 h2:Nat} {full2:List Value} {ty2:Nat}
  (ha:kF t p) (w1:Wr P n O σ b off full ty t p b1 o1 l1 h1 full1 ty1) (w2:Wr P n O σ b1 o1 full1 ty1 (atT t p) q b2 o2 l2 h2 full2 ty2) (hb:b2=b1∨(l1≤b2∧b2<h1)) (hl:l1≤l2) (hh:h2≤h1) :
  Wr P n O σ b off full ty t (p++q) b2 o2 l2 h2 full2 ty2:=by
 intro σ' y cy c1 g c3 c4
 obtain ⟨c',d1,d2,d3⟩:=w2 σ' y cy c1 g c3 c4
 rw[wS0 t p q y ha]
 exact w1 σ' _ c' d1 (g.mono fun k _ hk=>by
  rcases hk with (rfl|⟨h3,h4⟩)|ho
  ·exact .inl hb
  ·exact .inl (.inr ⟨by omega,by omega⟩)
  ·exact .inr ho) d2 d3
theorem LocT.step {P:Program} (h9:szT P etm=some 9) {n:Nat} (hn:0<n) {O:Nat→Prop} {σ:jA} {b off lo hi:Nat} (hO:∀ k,O k→k≠b∧(k<lo∨hi≤k)) {full:List Value} {ty:Nat} {t:Tm} {c:List Value} (h:LocT σ b off lo hi full ty t c) (hlo:n≤lo) {i:Int} {p:List Int} (ha:kF t (i :: p)) :
  ∃ (b1 m lo1 hi1:Nat) (full1:List Value) (x:Tm) (cx:List Value),c[8]?=some (.slice (some ⟨b1,0,none⟩) m m)∧0≤i∧i<m∧full1.length=m*9∧x=atT t [i]∧kF t [i]∧LocT σ b1 (i.toNat*9) lo1 hi1 full1 etm x cx∧lo≤lo1∧lo≤b1∧b1<hi∧
   hi1≤hi∧Wr P n O σ b off full ty t [i] b1 (i.toNat*9) lo1 hi1 full1 etm∧kF x p:=by
 obtain ⟨hc,hw,hhi,hnx,he,ht,hbp,hgn⟩:=h
 have hs:=eZ0 he ht.len
 have old:∀ (σ':jA) (S:Nat→Prop),jD σ σ' S→¬ S b→cells σ' b=some (setFrom full off c,ty,false):=fun σ' S g hS=>by rw[hs];exact (g.cells hnx hS).trans hc
 cases ht with
 | leaf h h12 h11 h7=>
  cases ha<;>first|exact absurd rfl h7|exact absurd rfl h12|exact absurd rfl h11
 | @blk _ _ b1 a b' s e x cx hx hcc hb=>
  cases ha with
  | blk hp=>
   have hxl:=hx.le
   refine ⟨b1,1,lo,b1,cx,x,cx,rfl,by decide,by decide,by rw[hx.len],rfl,.blk .nil,⟨hcc,by rw[hx.len];decide,.inr (Nat.le_refl _),by omega,by rw[show (0:Int).toNat*9=0 from rfl,List.drop_zero,List.take_of_length_le (by rw[hx.len];exact Nat.le_refl _)],hx,by omega,by omega⟩,Nat.le_refl _,hxl,hb,by omega,?_,hp⟩
   intro σ' y cy c1 g c3 c4
   rw[show setFrom cx ((0:Int).toNat*9) cy=cy by unfold setFrom;rw[show (0:Int).toNat*9=0 from rfl,List.take_zero,List.nil_append,List.drop_of_length_le (by rw[hx.len];omega),List.append_nil]] at c3
   exact ⟨_,rfl,old σ' _ g (fun hh=>hh.elim (by omega) fun ho=>(hO _ ho).1 rfl),yS0 _ _ _ _ _ hn (yZ0 (l:=[y]) h9 (by omega) c3 rfl (by decide) (by rw[kW];exact c4) (by rw[c1]))⟩
 | @seq _ _ b1 a b' s e x y cx hx hcc hb=>
  cases ha with
  | seq hp=>
   have hxl:=hx.le
   have hl:(cx++tmC y).length=18:=by rw[List.length_append,hx.len,qM]
   refine ⟨b1,2,lo,b1,cx++tmC y,x,cx,rfl,by decide,by decide,hl,rfl,.seq .nil,⟨hcc,by rw[hl];decide,.inr (Nat.le_refl _),by omega,by rw[show (0:Int).toNat*9=0 from rfl,List.drop_zero,List.take_left' hx.len],hx,by omega,by omega⟩,Nat.le_refl _,hxl,hb,by omega,?_,hp⟩
   intro σ' z cz c1 g c3 c4
   rw[show setFrom (cx++tmC y) ((0:Int).toNat*9) cz=cz++tmC y by unfold setFrom;rw[show (0:Int).toNat*9=0 from rfl,List.take_zero,List.nil_append,c1,Nat.zero_add,List.drop_left' hx.len]] at c3
   refine ⟨_,rfl,old σ' _ g (fun hh=>hh.elim (by omega) fun ho=>(hO _ ho).1 rfl),yS0 _ _ _ _ _ hn (yZ0 (l:=[z,y]) h9 (by omega) c3 rfl (by decide) ?_ (by rw[List.length_append,c1,qM]))⟩
   rw[show jZ [z,y]=tmC z++tmC y by rw[jZ,kW]]
   exact c4.app (.ids (qI0 n hn _))
 | @par _ m _ b1 a b' s e x y cx cy hx hy hcc hb=>
  have hxl:=hx.le
  have hyl:=hy.le
  have hl:(cx++cy).length=18:=by rw[List.length_append,hx.len,hy.len]
  cases ha with
  | parl hp=>
   refine ⟨b1,2,lo,m,cx++cy,x,cx,rfl,by decide,by decide,hl,rfl,.parl .nil,⟨hcc,by rw[hl];decide,.inr hyl,by omega,by rw[show (0:Int).toNat*9=0 from rfl,List.drop_zero,List.take_left' hx.len],hx,by omega,by omega⟩,Nat.le_refl _,by omega,hb,by omega,?_,hp⟩
   intro σ' z cz c1 g c3 c4
   rw[show setFrom (cx++cy) ((0:Int).toNat*9) cz=cz++cy by unfold setFrom;rw[show (0:Int).toNat*9=0 from rfl,List.take_zero,List.nil_append,c1,Nat.zero_add,List.drop_left' hx.len]] at c3
   have hy':=hy.grew g (fun k h1 h2 hk=>hk.elim (fun hk=>by omega) (fun hk=>by have:=hO k hk;omega)) (by omega)
   refine ⟨_,rfl,old σ' _ g (fun hh=>hh.elim (by omega) fun ho=>(hO _ ho).1 rfl),yS0 _ _ _ _ _ hn (yZ0 (l:=[z,y]) h9 (by omega) c3 rfl (by decide) ?_ (by rw[List.length_append,c1,hy.len]))⟩
   rw[show jZ [z,y]=tmC z++tmC y by rw[jZ,kW]]
   exact c4.app (hy'.fz h9 hn (by omega))
  | parr hp=>
   refine ⟨b1,2,m,b1,cx++cy,y,cy,rfl,by decide,by decide,hl,rfl,.parr .nil,⟨hcc,by rw[hl];decide,.inr (Nat.le_refl _),by omega,by rw[show (1:Int).toNat*9=9 from rfl,List.drop_left' hx.len,List.take_of_length_le (by rw[hy.len];exact Nat.le_refl _)],hy,by omega,by omega⟩,hxl,by omega,hb,by omega,?_,hp⟩
   intro σ' z cz c1 g c3 c4
   rw[show setFrom (cx++cy) ((1:Int).toNat*9) cz=cx++cz by unfold setFrom;rw[show (1:Int).toNat*9=9 from rfl,List.take_left' hx.len,c1,List.drop_of_length_le (by rw[hl];omega),List.append_nil]] at c3
   have hx':=hx.grew g (fun k h1 h2 hk=>hk.elim (fun hk=>by omega) (fun hk=>by have:=hO k hk;omega)) (by omega)
   refine ⟨_,rfl,old σ' _ g (fun hh=>hh.elim (by omega) fun ho=>(hO _ ho).1 rfl),yS0 _ _ _ _ _ hn (yZ0 (l:=[x,z]) h9 (by omega) c3 rfl (by decide) ?_ (by rw[List.length_append,c1,hx.len]))⟩
   rw[show jZ [x,z]=tmC x++tmC z by rw[jZ,kW]]
   exact (hx'.fz h9 hn (by omega)).app c4
def qn:Q:=⟨fun t=>Nat.beq t 26 || Nat.beq t 1000028,H0⟩
theorem qn_r:qn.m 26=true:=rfl
theorem kJ:qn.H=H0:=rfl
theorem qn_b:qn.m 1000028=true:=rfl
def NrP (σ:jA) (t:Tm) (v:Value) (σ':jA):Prop:=∃ cs,v=.agg ⟨cs⟩∧NTs σ' σ.next σ'.next t cs∧jD σ σ' (fun _=>False)
theorem nC0 (k a b:Int) (s:List UInt8) (e:Ex) (l:List Tm) (hse:smE e=true) {σ:jA} (hl:σ.lo=1) (hn:1≤σ.next) (q:Option Addr) (n m:Nat) :
  jO (pp G) H0 25 [tmV (.mk k a b s e l),.slice q n m] σ (fun v σ'=>v=.agg ⟨tmH k a b s e (.slice q n m)⟩∧jD σ σ' (fun _=>False)):=by
 refine jO.fir4 (q:=qq) (jX G) kU2 (by kernel_rfl) rfl rfl (mZ0 ..) (by first|exact Nat.le_trans (show NGG≤1 by decide) (by omega)) ?_;rw[uF1]
 simp(disch:=first|omega|(apply id;simp only[push_cast];try omega))only[push_cast,simprocAttr]
 refine dK (nS0 G e hse) ?_
 simp(disch:=first|omega|(apply id;simp only[push_cast];try omega))only[push_cast,simprocAttr,oN0,hl]
 exact ⟨rfl,(by (repeat (first|exact Gr.refl _|assumption|(refine jD.put' ?_ _ _ (by first|omega|(simp only[push_cast];omega)))|(refine jD.add' ?_ _))))⟩
theorem lK1:slT Tryd.prog 26=some (etm,9,[.int .i64 0,.int .i64 0,.int .i64 0,.string (Tx []),.int .i64 0,.int .i64 0,.string (Tx []),.slice none 0 0,.slice none 0 0]):=by kernel_rfl
theorem rowN {c d:List Value} (hc:c.length=9) (hd:d.length=9) (h1:c.all one=true) (h2:d.all one=true) (σ:jA):bsD (qn.m 26) (slT Tryd.prog 26) 2 [(0,.agg ⟨c⟩),(1,.agg ⟨d⟩)] σ=some (.slice (some ⟨σ.next,0,none⟩) 2 2,σ.add (O (c++d) etm false)):=by
 match c,hc,d,hd with
 | [x0,x1,x2,x3,x4,x5,x6,x7,x8],_,[y0,y1,y2,y3,y4,y5,y6,y7,y8],_=>
  rw[lK1,gD1 (n:=9) _ _ _ _ (by decide),qn_r]
  exact gE1 (cs:=[x0,x1,x2,x3,x4,x5,x6,x7,x8]++[y0,y1,y2,y3,y4,y5,y6,y7,y8]) 2 (by rw[List.all_append,h1,h2];rfl)
theorem uS1 {c:List Value} (hc:c.length=9) (h1:c.all one=true) (σ:jA):bsD (qn.m 26) (slT Tryd.prog 26) 1 [(0,.agg ⟨c⟩)] σ=some (.slice (some ⟨σ.next,0,none⟩) 1 1,σ.add (O c etm false)):=by
 match c,hc with
 | [x0,x1,x2,x3,x4,x5,x6,x7,x8],_=>
  rw[lK1,gD1 (n:=9) _ _ _ _ (by decide),qn_r]
  exact gE1 (cs:=[x0,x1,x2,x3,x4,x5,x6,x7,x8]) 1 h1
theorem rowNd (y:Tm) {c:List Value} (hc:c.length=9) (h1:c.all one=true) (σ:jA):bsD (qn.m 26) (slT Tryd.prog 26) 2 [(0,.agg ⟨c⟩),(1,tmV y)] σ=some (.slice (some ⟨σ.next,0,none⟩) 2 2,σ.add (O (c++tmC y) etm false)):=rowN hc (qM y) h1 (qJ0 y) σ
theorem NTs.k0 {σ:jA} {lo hi:Nat} {t:Tm} {c:List Value} (h:NTs σ lo hi t c):c[0]?=some (.int .i64 t.k):=by
 cases h with
 | leaf=>exact wL0 _
 | blk=>rfl
 | seq=>rfl
 | par=>rfl
def Nrm (G:Nat×Nat) (x:Tm):Prop:=∀ σ:jA,σ.lo=1→1≤σ.next→jO (pp G) H0 12 [tmV x] σ (NrP σ (jF x))
theorem zF2 (a b:Int) (s:List UInt8) (e:Ex) (x y:Tm) (hse:smE e=true) (hx:Nrm G x) (hy:Nrm G y) (hoy:jI (pp G) H0 26 [tmV y] (tmV y)):Nrm G (.mk 12 a b s e [x,y]):=by
 intro σ hl hn
 refine jO.fir4 (q:=qn) (jX G) fW0 (by kernel_rfl) rfl rfl (uF0 ..) (by rw[hl];exact (show NGG≤1 by decide)) ?_
 rw[qM0]
 rw[jF,if_pos rfl]
 simp(disch:=first|omega|(apply id;simp only[push_cast];try omega))only[push_cast,simprocAttr,qn_r,qn_b,kJ]
 refine jC.func (cap:=[]) (hx _ (by rw[jN];exact hl) (by rw[jB];omega)) ?_
 rintro _ σ2 ⟨cx,rfl,hN,g⟩
 have c0:cells σ2 σ.next=some ([.int .i64 0,.int .i64 0,.int .i64 0,.string (Tx []),.int .i64 0,.int .i64 0,.string (Tx []),.slice none 0 0,.slice none 0 0],etm,false):=g.cellsE (qC _ _ _ _ rfl) (by rw[jB];omega) id
 have hl2:σ2.lo=1:=by rw[g.lo,jN,hl]
 have hn2:=g.next
 rw[jB] at hn2 hN
 have h9:=hN.len
 have h91:=hN.one
 have ht9:cx.take 9=cx:=List.take_of_length_le (by omega)
 have hd9:cx.drop 9=[]:=List.drop_of_length_le (by omega)
 have hcc:(Value.agg ⟨cx⟩).cells.toList=cx:=rfl
 have hk0:=hN.k0
 have g1:jD σ σ2 (fun _=>False):=(jD.add _ _ _).trans g fun _ _ h=>h
 generalize jF x=x' at *
 by_cases h0:x'.k=0
 ·rw[if_pos h0]
  simp(disch:=first|omega|(apply id;simp only[push_cast];try omega))only[push_cast,simprocAttr,qn_r,qn_b,kJ,h9,h91,ht9,hd9,hcc,hk0,h0,hl2,c0]
  refine jC.func (cap:=[]) (hy _ (by rw[wX,jN];exact hl2) (by rw[jK,jB];omega)) ?_
  rintro _ σ3 ⟨cy,rfl,hM,g3⟩
  have c1:cells σ3 σ.next=some ([.int .i64 0,.int .i64 0,.int .i64 0,.string (Tx []),.int .i64 0,.int .i64 0,.string (Tx []),.slice none 0 0,.slice none 0 0],etm,false):=g3.cellsE ((jG _ _ _ (by omega)).trans ((qG _ _ (by omega)).trans c0)) (by rw[jK,jB];omega) id
  have hl3:σ3.lo=1:=by rw[g3.lo,wX,jN,hl2]
  have hn3:=g3.next
  rw[jK,jB] at hn3 hM
  have h9':=hM.len
  have h91':=hM.one
  have ht9':cy.take 9=cy:=List.take_of_length_le (by omega)
  have hd9':cy.drop 9=[]:=List.drop_of_length_le (by omega)
  have hcc':(Value.agg ⟨cy⟩).cells.toList=cy:=rfl
  simp(disch:=first|omega|(apply id;simp only[push_cast];try omega))only[push_cast,simprocAttr,qn_r,qn_b,kJ,h9',h91',ht9',hd9',hcc',hl3,c1]
  have gA:jD σ2 (σ3.put σ.next (O cy etm false)) (fun k=>k=σ.next):=(((jD.add _ _ _).trans (jD.put _ _ _ (S:=fun k=>k=σ2.next) fun _=>rfl) fun i hi h=>absurd h (by omega)).trans g3 fun _ _ h=>h.elim).trans (jD.put _ _ _ (S:=fun k=>k=σ.next) fun _=>rfl) fun _ _ h=>h
  have gB:jD σ (σ3.put σ.next (O cy etm false)) (fun _=>False):=g1.trans gA fun i hi h=>absurd h (by omega)
  refine ⟨cy,rfl,NTs.mono (NTs.grew hM (jD.put _ _ _ (S:=fun k=>k=σ.next) fun _=>rfl) (fun k h1 h2=>(by omega:¬ k=σ.next)) (Nat.le_refl _)) (by omega) (by rw[jK];exact Nat.le_refl _),gB⟩
 ·rw[if_neg (by exact h0)]
  simp(disch:=first|omega|(apply id;simp only[push_cast];try omega))only[push_cast,simprocAttr,qn_r,qn_b,kJ,h9,h91,ht9,hd9,hcc,hk0,h0,hl2,c0]
  refine dK (hoy) ?_
  simp(disch:=first|omega|(apply id;simp only[push_cast];try omega))only[push_cast,simprocAttr,qn_r,qn_b,kJ,h9,h91,ht9,hd9,hcc,hk0,h0,hl2,c0,↓rowNd y h9 h91]
  refine jC.func (cap:=[]) (nC0 G 12 a b s e [x,y] hse (by rw[jN,wX,jN];exact hl2) (by rw[jB,jK,jB];omega) _ 2 2) ?_
  rintro _ σ4 ⟨rfl,g4⟩
  have c1:cells σ4 σ.next=some ([.int .i64 0,.int .i64 0,.int .i64 0,.string (Tx []),.int .i64 0,.int .i64 0,.string (Tx []),.slice none 0 0,.slice none 0 0],etm,false):=g4.cellsE ((qG _ _ (by rw[jK,jB];omega)).trans ((jG _ _ _ (by omega)).trans ((qG _ _ (by omega)).trans c0))) (by rw[jB,jK,jB];omega) id
  have c2:cells σ4 (σ2.next+1)=some (cx++tmC y,etm,false):=g4.cellsE (qC _ _ _ _ (by rw[jK,jB])) (by rw[jB,jK,jB];omega) id
  have hl4:σ4.lo=1:=by rw[g4.lo,jN,wX,jN,hl2]
  have hn4:=g4.next
  rw[jB,jK,jB] at hn4
  unfold tmH
  simp(disch:=first|omega|(apply id;simp only[push_cast];try omega))only[push_cast,simprocAttr,qn_r,qn_b,kJ,c1,hl4]
  have gA:∀ X,jD σ2 (σ4.put σ.next X) (fun k=>k=σ.next):=fun X=>((((jD.add _ _ _).trans (jD.put _ _ _ (S:=fun k=>k=σ2.next) fun _=>rfl) fun i hi h=>absurd h (by omega)).trans (jD.add _ _ _) fun _ _ h=>h).trans g4 fun _ _ h=>h.elim).trans (jD.put _ _ _ (S:=fun k=>k=σ.next) fun _=>rfl) fun _ _ h=>h
  have gB:∀ X,jD σ (σ4.put σ.next X) (fun _=>False):=fun X=>g1.trans (gA X) fun i hi h=>absurd h (by omega)
  exact ⟨_,rfl,NTs.seq (b:=σ2.next+1) (NTs.mono (NTs.grew hN (gA _) (fun k h1 h2=>(by omega:¬ k=σ.next)) (Nat.le_refl _)) (by omega) (by omega)) ((jG _ _ _ (by omega)).trans c2) (by rw[jK];omega),gB _⟩
@[reducible] def ZC:List Value:=[.int .i64 0,.int .i64 0,.int .i64 0,.string (Tx []),.int .i64 0,.int .i64 0,.string (Tx []),.slice none 0 0,.slice none 0 0]
theorem NTs.up {σ2 σf:jA} {L M:Nat} {t:Tm} {c:List Value} (h:NTs σ2 L M t c) (g:jD σ2 σf (fun k=>k<L∨M≤k)) (hM:M≤σ2.next):NTs σf L M t c:=
 NTs.grew h g (fun k h1 h2 h3=>by cases h3<;>omega) hM
theorem nrm_j (a b:Int) (s:List UInt8) (e:Ex) (x y:Tm) (hse:smE e=true) {σ0 σ:jA} {bx bz lo m hi:Nat} {x' y':Tm} {cx cy:List Value} {x0 x3 x6 x7 x8 x9 xA xB xC xD xE xF xG xH xI xJ xK xL xM xN xO xP xQ xR xS xT xU xV xW xX xY xZ yA yB yC yD yE yF yG yH yI yJ yK yL yM yN yO yP yQ yR yS yT yU yV yW yX yY yZ zA zB zC zD zF zG zH zI zJ zK zL zM zN zO zP zQ zR zS zU zV zW zX zY zZ wA wB wC wD wE wF wG wH wI wJ wK wL:Value}
  (hl:σ.lo=1) (hn:1≤σ0.next) (hr:cells σ σ0.next=some (ZC,etm,false)) (hbx:cells σ bx=some (cx,etm,false)) (hbz:cells σ bz=some (cy,etm,false))
  (hN:NTs σ lo m x' cx) (hM:NTs σ m hi y' cy) (hlo:σ0.next<lo) (hhi:hi≤σ.next) (hx0:σ0.next<bx) (hz0:σ0.next<bz) (hx1:bx<σ.next) (hz1:bz<σ.next) (g:jD σ0 σ (fun _=>False)) (R:Value→jA→Prop)
  (hz:x'.k=0∧y'.k=0→∀ σ',jD σ0 σ' (fun _=>False)→R (.agg ⟨ZC⟩) σ') (hnz:¬ (x'.k=0∧y'.k=0)→∀ v σ',NrP σ0 (.mk 11 a b s e [x',y']) v σ'→R v σ') :
  dc3 (pp G) qn none kH ⟨(F98 x0 (Rpt 0 (tmC (.mk 11 a b s e [x,y]))) (.pointer (some ⟨σ0.next,0,none⟩)) x3 (.pointer (some ⟨bx,0,none⟩)) (.pointer (some ⟨bz,0,none⟩)) x6 x7 x8 x9 xA xB xC xD xE xF xG xH xI xJ xK xL xM xN xO xP xQ xR xS xT xU xV xW xX xY xZ yA yB yC yD yE yF yG yH yI yJ yK yL yM yN yO yP yQ yR yS yT yU yV yW yX yY yZ zA zB zC zD zF zG zH zI zJ zK zL zM zN zO zP zQ zR zS zU zV zW zX zY zZ wA wB wC wD wE wF wG wH wI wJ wK wL),[],σ⟩ (@kR ⟨jU 0 (jQ (fun s1=>dc3 (pp G) qn none kS s1 (@kR ⟨jH Tryd.prog [(.cell 2 28)] R⟩)) (jH Tryd.prog [(.cell 2 28)] R))⟩):=by
 have h9:=hN.len
 have h91:=hN.one
 have ht9:cx.take 9=cx:=List.take_of_length_le (by omega)
 have hd9:cx.drop 9=[]:=List.drop_of_length_le (by omega)
 have hcc:(Value.agg ⟨cx⟩).cells.toList=cx:=rfl
 have hk0:=hN.k0
 have h9':=hM.len
 have h91':=hM.one
 have ht9':cy.take 9=cy:=List.take_of_length_le (by omega)
 have hd9':cy.drop 9=[]:=List.drop_of_length_le (by omega)
 have hcc':(Value.agg ⟨cy⟩).cells.toList=cy:=rfl
 have hk0':=hM.k0
 have hsn:σ0.next<σ.next:=by omega
 rw[uI0,qQ]
 by_cases h0:x'.k=0
 ·by_cases h1:y'.k=0
  ·simp(disch:=first|omega|(apply id;simp only[push_cast];try omega))only[push_cast,simprocAttr,qn_r,qn_b,kJ,hl,hr,hbx,hbz,hk0,hk0',h0,h1,h9,h9',ht9,hd9,hcc,h91,ht9',hd9',hcc',h91']
   exact hz ⟨h0,h1⟩ _ (g.trans (jD.put _ _ _ (S:=fun k=>k=σ0.next) fun _=>rfl) fun i hi h=>absurd h (by omega))
  ·simp(disch:=first|omega|(apply id;simp only[push_cast];try omega))only[push_cast,simprocAttr,qn_r,qn_b,kJ,hl,hr,hbx,hbz,hk0,hk0',h0,h1,h9,h9',ht9,hd9,hcc,h91,ht9',hd9',hcc',h91',↓rowN h9 h9' h91 h91']
   refine jC.func (cap:=[]) (nC0 G 11 a b s e [x,y] hse (by rw[jN];exact hl) (by rw[jB];omega) _ 2 2) ?_
   rintro _ σ4 ⟨rfl,g4⟩
   have c1:cells σ4 σ0.next=some (ZC,etm,false):=g4.cellsE ((qG _ _ (by omega)).trans hr) (by rw[jB];omega) id
   have c2:cells σ4 σ.next=some (cx++cy,etm,false):=g4.cellsE (qC _ _ _ _ rfl) (by rw[jB];omega) id
   have hl4:σ4.lo=1:=by rw[g4.lo,jN,hl]
   have hn4:=g4.next
   rw[jB] at hn4
   unfold tmH
   simp(disch:=first|omega|(apply id;simp only[push_cast];try omega))only[push_cast,simprocAttr,qn_r,qn_b,kJ,c1,hl4]
   have gA:∀ X,jD σ (σ4.put σ0.next X) (fun k=>k=σ0.next):=fun X=>((jD.add _ _ _).trans g4 fun _ _ h=>h.elim).trans (jD.put _ _ _ (S:=fun k=>k=σ0.next) fun _=>rfl) fun _ _ h=>h
   have gB:∀ X,jD σ0 (σ4.put σ0.next X) (fun _=>False):=fun X=>g.trans (gA X) fun i hi h=>absurd h (by omega)
   have q1:=hN.le
   have q2:=hM.le
   exact hnz (by simp[h0,h1]) _ _ ⟨_,rfl,NTs.par (b:=σ.next) (NTs.mono (NTs.grew hN (gA _) (fun k h1 h2=>(by omega:¬ k=σ0.next)) (by omega)) (by omega) (Nat.le_refl _)) (NTs.mono (NTs.grew hM (gA _) (fun k h1 h2=>(by omega:¬ k=σ0.next)) hhi) (Nat.le_refl _) (by omega)) ((jG _ _ _ (by omega)).trans c2) (by rw[jK];omega),gB _⟩
 ·simp(disch:=first|omega|(apply id;simp only[push_cast];try omega))only[push_cast,simprocAttr,qn_r,qn_b,kJ,hl,hr,hbx,hbz,hk0,hk0',h0,h9,h9',ht9,hd9,hcc,h91,ht9',hd9',hcc',h91',↓rowN h9 h9' h91 h91']
  refine jC.func (cap:=[]) (nC0 G 11 a b s e [x,y] hse (by rw[jN];exact hl) (by rw[jB];omega) _ 2 2) ?_
  rintro _ σ4 ⟨rfl,g4⟩
  have c1:cells σ4 σ0.next=some (ZC,etm,false):=g4.cellsE ((qG _ _ (by omega)).trans hr) (by rw[jB];omega) id
  have c2:cells σ4 σ.next=some (cx++cy,etm,false):=g4.cellsE (qC _ _ _ _ rfl) (by rw[jB];omega) id
  have hl4:σ4.lo=1:=by rw[g4.lo,jN,hl]
  have hn4:=g4.next
  rw[jB] at hn4
  unfold tmH
  simp(disch:=first|omega|(apply id;simp only[push_cast];try omega))only[push_cast,simprocAttr,qn_r,qn_b,kJ,c1,hl4]
  have gA:∀ X,jD σ (σ4.put σ0.next X) (fun k=>k=σ0.next):=fun X=>((jD.add _ _ _).trans g4 fun _ _ h=>h.elim).trans (jD.put _ _ _ (S:=fun k=>k=σ0.next) fun _=>rfl) fun _ _ h=>h
  have gB:∀ X,jD σ0 (σ4.put σ0.next X) (fun _=>False):=fun X=>g.trans (gA X) fun i hi h=>absurd h (by omega)
  have q1:=hN.le
  have q2:=hM.le
  exact hnz (by simp[h0]) _ _ ⟨_,rfl,NTs.par (b:=σ.next) (NTs.mono (NTs.grew hN (gA _) (fun k h1 h2=>(by omega:¬ k=σ0.next)) (by omega)) (by omega) (Nat.le_refl _)) (NTs.mono (NTs.grew hM (gA _) (fun k h1 h2=>(by omega:¬ k=σ0.next)) hhi) (Nat.le_refl _) (by omega)) ((jG _ _ _ (by omega)).trans c2) (by rw[jK];omega),gB _⟩
theorem wI1 (a b:Int) (s:List UInt8) (e:Ex) (x y:Tm) (hse:smE e=true) (hx:Nrm G x) (hy:Nrm G y) {σ:jA} (hl:σ.lo=1) (hn:1≤σ.next) (R:Value→jA→Prop)
  (hz:(jF x).k=0∧(jF y).k=0→∀ σ',jD σ σ' (fun _=>False)→R (.agg ⟨ZC⟩) σ') (hnz:¬ ((jF x).k=0∧(jF y).k=0)→∀ v σ',NrP σ (.mk 11 a b s e [jF x,jF y]) v σ'→R v σ') :
  jO (pp G) H0 12 [tmV (.mk 11 a b s e [x,y])] σ R:=by
 refine jO.fir4 (q:=qn) (jX G) fW0 (by kernel_rfl) rfl rfl (uF0 ..) (by rw[hl];exact (show NGG≤1 by decide)) ?_
 rw[qM0]
 simp(disch:=first|omega|(apply id;simp only[push_cast];try omega))only[push_cast,simprocAttr,qn_r,qn_b,kJ]
 repeat' apply And.intro
 all_goals
  refine jC.func (cap:=[]) (hx _ (by (try simp only[jN,wX]);exact hl) (by (try simp only[jB,jK]);omega)) ?_
  rintro _ σ2 ⟨cx,rfl,hN,g⟩
  have hl2:σ2.lo=1:=by rw[g.lo];(try simp only[jN,wX]);exact hl
  have hn2:=g.next
  simp only[jK,jB] at hn2 hN
  have h9:=hN.len
  have h91:=hN.one
  have ht9:cx.take 9=cx:=List.take_of_length_le (by omega)
  have hd9:cx.drop 9=[]:=List.drop_of_length_le (by omega)
  have hcc:(Value.agg ⟨cx⟩).cells.toList=cx:=rfl
  have hk0:=hN.k0
  simp(disch:=first|omega|(apply id;simp only[push_cast];try omega))only[push_cast,simprocAttr,qn_r,qn_b,kJ,h9,h91,ht9,hd9,hcc,hk0,hl2]
  have c0:cells σ2 σ.next=some (ZC,etm,false):=g.cellsE (by simp(disch:=first|omega|(apply id;simp only[push_cast];try omega))only[push_cast,simprocAttr];first|done|rfl) (by (try simp only[jB,jK]);omega) id
  first|(have b1:cells σ2 (σ.next+1)=some (ZC,etm,false):=g.cellsE (by simp(disch:=first|omega|(apply id;simp only[push_cast];try omega))only[push_cast,simprocAttr];first|done|rfl) (by (try simp only[jB,jK]);omega) id)|have b1:=c0
  first|(have b2:cells σ2 (σ.next+2)=some (ZC,etm,false):=g.cellsE (by simp(disch:=first|omega|(apply id;simp only[push_cast];try omega))only[push_cast,simprocAttr];first|done|rfl) (by (try simp only[jB,jK]);omega) id)|have b2:=c0
 all_goals repeat' apply And.intro
 all_goals
  refine jC.func (cap:=[]) (hy _ (by (try simp only[jN,wX]);exact hl2) (by (try simp only[jB,jK]);omega)) ?_
  rintro _ σ3 ⟨cy,rfl,hM,g3⟩
  have hl3:σ3.lo=1:=by rw[g3.lo];(try simp only[jN,wX]);exact hl2
  have hn3:=g3.next
  try simp only[jK,jB] at hn3 hM
  have h9':=hM.len
  have h91':=hM.one
  have ht9':cy.take 9=cy:=List.take_of_length_le (by omega)
  have hd9':cy.drop 9=[]:=List.drop_of_length_le (by omega)
  have hcc':(Value.agg ⟨cy⟩).cells.toList=cy:=rfl
  have hk0':=hM.k0
  have d0:cells σ3 σ.next=some (ZC,etm,false):=g3.cellsE (by simp(disch:=first|omega|(apply id;simp only[push_cast];try omega))only[push_cast,simprocAttr,c0];first|done|rfl) (by (try simp only[jB,jK]);omega) id
  first|(have d1:cells σ3 (σ.next+1)=some (ZC,etm,false):=g3.cellsE (by simp(disch:=first|omega|(apply id;simp only[push_cast];try omega))only[push_cast,simprocAttr,b1];first|done|rfl) (by (try simp only[jB,jK]);omega) id)|have d1:=d0
  first|(have d2:cells σ3 (σ.next+2)=some (ZC,etm,false):=g3.cellsE (by simp(disch:=first|omega|(apply id;simp only[push_cast];try omega))only[push_cast,simprocAttr,b2];first|done|rfl) (by (try simp only[jB,jK]);omega) id)|have d2:=d0
  first|(have d3:cells σ3 σ2.next=some (ZC,etm,false):=g3.cellsE (by simp(disch:=first|omega|(apply id;simp only[push_cast];try omega))only[push_cast,simprocAttr];first|done|rfl) (by (try simp only[jB,jK]);omega) id)|have d3:=d0
  first|(have d4:cells σ3 (σ2.next+1)=some (ZC,etm,false):=g3.cellsE (by simp(disch:=first|omega|(apply id;simp only[push_cast];try omega))only[push_cast,simprocAttr];first|done|rfl) (by (try simp only[jB,jK]);omega) id)|have d4:=d0
  simp(disch:=first|omega|(apply id;simp only[push_cast];try omega))only[push_cast,simprocAttr,qn_r,qn_b,kJ,h9',h91',ht9',hd9',hcc',hk0',hl3,h9,h91,ht9,hd9,hcc,hk0,d0,d1,d2,d3,d4]
 all_goals repeat' apply And.intro
 all_goals
  refine nrm_j G a b s e x y hse (σ0:=σ) (by simp only[jN,wX];exact hl3) hn (by simp(disch:=first|omega|(apply id;simp only[push_cast];try omega))only[push_cast,simprocAttr,d0];first|done|rfl) (by simp(disch:=first|omega|(apply id;simp only[push_cast];try omega))only[push_cast,simprocAttr,d1,d2,d3,d4];first|done|rfl) (by simp(disch:=first|omega|(apply id;simp only[push_cast];try omega))only[push_cast,simprocAttr,d1,d2,d3,d4];first|done|rfl) (NTs.mono (NTs.up hN (by (repeat (first|assumption|exact jD.refl _ _|refine jD.put'' ?_ _ _ (by intro _;first|(exfalso;omega)|(show _∨_;omega))|refine jD.add' ?_ _|refine jD.tr ?_ g3|refine jD.tr ?_ g))) (by omega)) (Nat.le_refl _) ?_) (NTs.up hM (by (repeat (first|assumption|exact jD.refl _ _|refine jD.put'' ?_ _ _ (by intro _;first|(exfalso;omega)|(show _∨_;omega))|refine jD.add' ?_ _|refine jD.tr ?_ g3|refine jD.tr ?_ g))) (by omega)) ?_ ?_ ?_ ?_ ?_ ?_ (by (repeat (first|assumption|exact jD.refl _ _|refine jD.put'' ?_ _ _ (by intro _;first|(exfalso;omega)|(show _∨_;omega))|refine jD.add' ?_ _|refine jD.tr ?_ g3|refine jD.tr ?_ g))) R hz hnz
  all_goals (try simp only[jB,jK])
  all_goals omega
theorem zG2 (a b:Int) (s:List UInt8) (e:Ex) (x y:Tm) (hse:smE e=true) (hx:Nrm G x) (hy:Nrm G y):Nrm G (.mk 11 a b s e [x,y]):=by
 intro σ hl hn
 rw[jF,if_neg (by omega),if_pos rfl]
 by_cases h:(jF x).k=0∧(jF y).k=0
 ·rw[if_pos h]
  refine jO.cutE ?_
  exact wI1 G a b s e x y hse hx hy hl hn _ (fun _ σ' g=>⟨tmV zT,σ,⟨_,rfl,.leaf (Nat.le_refl _) (by decide) (by decide) (by decide),jD.refl _ _⟩,cD0 Tryd.prog _ _,uD0.gr g⟩) (fun h'=>absurd h h')
 ·rw[if_neg h]
  exact wI1 G a b s e x y hse hx hy hl hn _ (fun h'=>absurd h' h) (fun _ v σ' h=>h)
theorem lO1 (a b:Int) (s:List UInt8) (e:Ex) (x:Tm) (hse:smE e=true) (hx:Nrm G x) {σ:jA} (hl:σ.lo=1) (hn:1≤σ.next) (R:Value→jA→Prop)
  (hz:(jF x).k=0→∀ σ',jD σ σ' (fun _=>False)→R (.agg ⟨ZC⟩) σ') (hnz:¬ (jF x).k=0→∀ v σ',NrP σ (.mk 7 a b s e [jF x]) v σ'→R v σ') :
  jO (pp G) H0 12 [tmV (.mk 7 a b s e [x])] σ R:=by
 refine jO.fir4 (q:=qn) (jX G) fW0 (by kernel_rfl) rfl rfl (uF0 ..) (by rw[hl];exact (show NGG≤1 by decide)) ?_
 rw[qM0]
 simp(disch:=first|omega|(apply id;simp only[push_cast];try omega))only[push_cast,simprocAttr,qn_r,qn_b,kJ]
 refine jC.func (cap:=[]) (hx _ (by rw[jN];exact hl) (by rw[jB];omega)) ?_
 rintro _ σ2 ⟨cx,rfl,hN,g⟩
 have c0:cells σ2 σ.next=some (ZC,etm,false):=g.cellsE (qC _ _ _ _ rfl) (by rw[jB];omega) id
 have hl2:σ2.lo=1:=by rw[g.lo,jN,hl]
 have hn2:=g.next
 rw[jB] at hn2 hN
 have h9:=hN.len
 have h91:=hN.one
 have ht9:cx.take 9=cx:=List.take_of_length_le (by omega)
 have hd9:cx.drop 9=[]:=List.drop_of_length_le (by omega)
 have hcc:(Value.agg ⟨cx⟩).cells.toList=cx:=rfl
 have hk0:=hN.k0
 have g1:jD σ σ2 (fun _=>False):=(jD.add _ _ _).trans g fun _ _ h=>h
 generalize jF x=x' at *
 by_cases h0:x'.k=0
 ·simp(disch:=first|omega|(apply id;simp only[push_cast];try omega))only[push_cast,simprocAttr,qn_r,qn_b,kJ,h9,h91,ht9,hd9,hcc,hk0,h0,hl2,c0]
  exact hz h0 _ (by (repeat (first|assumption|exact jD.refl _ _|refine jD.put'' ?_ _ _ (by intro _;(exfalso;omega))|refine jD.add' ?_ _)))
 ·simp(disch:=first|omega|(apply id;simp only[push_cast];try omega))only[push_cast,simprocAttr,qn_r,qn_b,kJ,h9,h91,ht9,hd9,hcc,hk0,h0,hl2,c0,↓uS1 h9 h91]
  refine jC.func (cap:=[]) (nC0 G 7 a b s e [x] hse (by rw[jN,wX,jN];exact hl2) (by rw[jB,jK,jB];omega) _ 1 1) ?_
  rintro _ σ4 ⟨rfl,g4⟩
  have c1:cells σ4 σ.next=some (ZC,etm,false):=g4.cellsE ((qG _ _ (by rw[jK,jB];omega)).trans ((jG _ _ _ (by omega)).trans ((qG _ _ (by omega)).trans c0))) (by rw[jB,jK,jB];omega) id
  have c2:cells σ4 (σ2.next+1)=some (cx,etm,false):=g4.cellsE (qC _ _ _ _ (by rw[jK,jB])) (by rw[jB,jK,jB];omega) id
  have hl4:σ4.lo=1:=by rw[g4.lo,jN,wX,jN,hl2]
  have hn4:=g4.next
  rw[jB,jK,jB] at hn4
  unfold tmH
  simp(disch:=first|omega|(apply id;simp only[push_cast];try omega))only[push_cast,simprocAttr,qn_r,qn_b,kJ,c1,hl4]
  have gA:∀ X,jD σ2 (σ4.put σ.next X) (fun k=>k=σ.next):=fun X=>((((jD.add _ _ _).trans (jD.put _ _ _ (S:=fun k=>k=σ2.next) fun _=>rfl) fun i hi h=>absurd h (by omega)).trans (jD.add _ _ _) fun _ _ h=>h).trans g4 fun _ _ h=>h.elim).trans (jD.put _ _ _ (S:=fun k=>k=σ.next) fun _=>rfl) fun _ _ h=>h
  have gB:∀ X,jD σ (σ4.put σ.next X) (fun _=>False):=fun X=>g1.trans (gA X) fun i hi h=>absurd h (by omega)
  exact hnz h0 _ _ ⟨_,rfl,NTs.blk (b:=σ2.next+1) (NTs.mono (NTs.grew hN (gA _) (fun k h1 h2=>(by omega:¬ k=σ.next)) (Nat.le_refl _)) (by omega) (by omega)) ((jG _ _ _ (by omega)).trans c2) (by rw[jK];omega),gB _⟩
theorem nrm_7 (a b:Int) (s:List UInt8) (e:Ex) (x:Tm) (hse:smE e=true) (hx:Nrm G x):Nrm G (.mk 7 a b s e [x]):=by
 intro σ hl hn
 rw[jF,if_pos rfl]
 by_cases h:(jF x).k=0
 ·rw[if_pos h]
  refine jO.cutE ?_
  exact lO1 G a b s e x hse hx hl hn _ (fun _ σ' g=>⟨tmV zT,σ,⟨_,rfl,.leaf (Nat.le_refl _) (by decide) (by decide) (by decide),jD.refl _ _⟩,cD0 Tryd.prog _ _,uD0.gr g⟩) (fun h'=>absurd h h')
 ·rw[if_neg h]
  exact lO1 G a b s e x hse hx hl hn _ (fun h'=>absurd h' h) (fun _ v σ' h=>h)
theorem nrm_o (k a b:Int) (s:List UInt8) (e:Ex) (l:List Tm) (hown:jI (pp G) H0 26 [tmV (.mk k a b s e l)] (tmV (.mk k a b s e l))) (h12:k≠12) (h11:k≠11) (h7:k≠7):Nrm G (.mk k a b s e l):=by
 intro σ hl hn
 have hnf:jF (.mk k a b s e l)=.mk k a b s e l:=by
  unfold jF
  split
  ·rename_i e1;cases e1;rw[if_neg h12,if_neg h11]
  ·rename_i e1;cases e1;rw[if_neg h7]
  ·rename_i e1;cases e1;rfl
 rw[hnf]
 refine jO.fir4 (q:=qn) (jX G) fW0 (by kernel_rfl) rfl rfl (uF0 ..) (by rw[hl];exact (show NGG≤1 by decide)) ?_
 rw[qM0]
 simp(disch:=first|omega|(apply id;simp only[push_cast];try omega))only[push_cast,simprocAttr,qn_r,qn_b,kJ,h12,h11,h7]
 try (rw[sd_ir12_s1];simp(disch:=first|omega|(apply id;simp only[push_cast];try omega))only[push_cast,simprocAttr,qn_r,qn_b,kJ])
 refine dK (hown) ?_
 have htc:=qM (.mk k a b s e l)
 simp(disch:=first|omega|(apply id;simp only[push_cast];try omega))only[push_cast,simprocAttr,qn_r,qn_b,kJ,hl]
 exact ⟨_,rfl,.leaf (by first|omega|(simp only[jB,jK];omega)) h12 h11 h7,(by (repeat (first|exact Gr.refl _|assumption|(refine jD.put' ?_ _ _ (by first|omega|(simp only[push_cast];omega)))|(refine jD.add' ?_ _))))⟩
inductive RS:Tm→Prop
 | leaf {k a b:Int} {s:List UInt8} {e:Ex} {l:List Tm} (h12:k≠12) (h11:k≠11) (h7:k≠7):RS (.mk k a b s e l)
 | blk {a b:Int} {s:List UInt8} {e:Ex} {x:Tm} (hx:RS x):RS (.mk 7 a b s e [x])
 | seq {a b:Int} {s:List UInt8} {e:Ex} {x y:Tm} (hx:RS x) (hy:RS y):RS (.mk 12 a b s e [x,y])
 | par {a b:Int} {s:List UInt8} {e:Ex} {x y:Tm} (hx:RS x) (hy:RS y):RS (.mk 11 a b s e [x,y])
theorem zI2 {t:Tm} (h:RS t):smT t=true→Nrm G t:=by
 induction h with
 | leaf h12 h11 h7=>intro hs;exact nrm_o G _ _ _ _ _ _ (gA0 G _ hs) h12 h11 h7
 | blk hx ih=>
  intro hs
  simp only[smT,Bool.and_eq_true,decide_eq_true_eq] at hs
  obtain ⟨⟨hll,hse⟩,hsl⟩:=hs
  exact nrm_7 G _ _ _ _ _ hse (ih (qA hsl _ (by simp)))
 | seq hx hy ihx ihy=>
  intro hs
  simp only[smT,Bool.and_eq_true,decide_eq_true_eq] at hs
  obtain ⟨⟨hll,hse⟩,hsl⟩:=hs
  exact zF2 G _ _ _ _ _ _ hse (ihx (qA hsl _ (by simp))) (ihy (qA hsl _ (by simp))) (gA0 G _ (qA hsl _ (by simp)))
 | par hx hy ihx ihy=>
  intro hs
  simp only[smT,Bool.and_eq_true,decide_eq_true_eq] at hs
  obtain ⟨⟨hll,hse⟩,hsl⟩:=hs
  exact zG2 G _ _ _ _ _ _ hse (ihx (qA hsl _ (by simp))) (ihy (qA hsl _ (by simp)))
theorem rH1 (n:Int):jI (pp G) H0 28 [.int .i64 n] (.int .i64 n):=by
 refine cE G fir28 (by kernel_rfl) (iT0 ..) fun hlo=>?_;rw[pQ1]
 simp(disch:=first|omega|(apply id;simp only[push_cast];try omega))only[push_cast,simprocAttr]
 exact .id rfl
def IvR (σ:jA) (l:List Int) (v:Value) (σ':jA):Prop:=jD σ σ' (fun _=>False)∧((l=[]∧v=.slice none 0 0)∨(v=.slice (some ⟨σ.next,0,none⟩) l.length l.length∧cells σ' σ.next=some (ivs l,eI,false)∧σ.next<σ'.next))
inductive ILi (σ:jA) (l:List Int) (fv:Value):Nat→S→Prop
 | mk (i:Nat) (iv:Int) (h:jA) {x0 x2 x3 x4 x6 x7 x8 x9 xA xB xC xD xH xI xJ xK xL xM xN xO xP xQ xR xS:Value} (hiv:iv=(i:Int)) (hi:i≤l.length) (c1:cells h σ.next=some (ivs (l.take i)++(List.replicate (l.length-i) [Value.int .i64 0]).flatten,eI,false)) (g:jD σ h (fun _=>False)) (hn:σ.next<h.next) :
  ILi σ l fv (l.length-i) ⟨(F29 x0 fv x2 x3 x4 (.slice (some ⟨σ.next,0,none⟩) l.length l.length) x6 x7 x8 x9 xA xB xC xD (Rw false eI l.length (ivs l)) (.int .i64 l.length) (.int .i64 iv) xH xI xJ xK xL xM xN xO xP xQ xR xS),[],h⟩
theorem sH1 (l:List Int) (hll:l.length<100000000000) {σ:jA} (hl:σ.lo=1) (hn:1≤σ.next):jO (pp G) H0 27 [ivV l,.func (.func 28) #[] #[]] σ (IvR σ l):=by
 refine jO.fir4 (q:=qq) (jX G) fir27 (by kernel_rfl) rfl rfl (bE0 ..) (by first|exact Nat.le_trans (show NGG≤1 by decide) (by omega)) ?_;rw[pR1]
 unfold ivV
 by_cases h0:l.length=0
 ·have h0':(l.length:Int)=0:=by omega
  obtain rfl:l=[]:=List.length_eq_zero_iff.1 h0
  simp(disch:=first|omega|(apply id;simp only[push_cast];try omega))only[push_cast,simprocAttr,h0']
  exact ⟨jD.refl _ _,.inl ⟨rfl,rfl⟩⟩
 have h0':¬ (l.length:Int)=0:=by omega
 have h1:(l.length:Int)*400+l.length<100000000000000:=by omega
 simp(disch:=first|omega|(apply id;simp only[push_cast];try omega))only[push_cast,simprocAttr,h0',h1,Int.toNat_natCast]
 refine WD.loop4 (q:=qq) (jX G) (by kernel_rfl) (ILi σ l (.func (.func 28) #[] #[])) ?_ _ _ (ILi.mk 0 0 _ rfl (Nat.zero_le _) (by simp(disch:=first|omega|(apply id;simp only[push_cast];try omega))only[push_cast,simprocAttr,List.take_zero];rfl) (jD.add _ _ _) (by rw[jB];omega))
 intro m s1 hI
 cases hI with|mk i iv h hiv hi c1 g hnx=>
 subst hiv
 have hlh:h.lo=1:=by rw[g.lo,hl]
 rw[rT0]
 by_cases hil:(i:Int)<l.length
 ·obtain ⟨x,hx⟩:=qJ (l:=l) (i:=i) (by omega)
  have hx1:(ivs l)[i]?=some (.int .i64 x):=by rw[ivs,List.getElem?_map,hx];rfl
  have hle:i+1≤l.length:=by omega
  have hil':i<l.length:=by omega
  simp(disch:=first|omega|(apply id;simp only[push_cast];try omega))only[push_cast,simprocAttr,hil,Int.toNat_natCast,hx1,hle,hlh,kG,hil']
  refine dK (rH1 G x) ?_
  obtain ⟨k,hk⟩:∃ k,l.length-i=k+1:=⟨l.length-i-1,by omega⟩
  have hta:(ivs (l.take i)).length=i:=by rw[kG,List.length_take,Nat.min_eq_left hi]
  have hlen:=zC0 (w:=1) (z:=[Value.int .i64 0]) (k:=l.length-i) (n:=l.length) hta rfl (by omega)
  have hst:=qU0 (c:=[Value.int .i64 x]) (w:=1) (z:=[Value.int .i64 0]) (k:=k) hta rfl
  rw[← hk,show [Value.int .i64 x]=ivs [x] from rfl,← dN0,← qL hx,show k=l.length-(i+1) by omega,show ivs [x]=[Value.int .i64 x] from rfl] at hst
  simp(disch:=first|omega|(apply id;simp only[push_cast];try omega))only[push_cast,simprocAttr,hil,Int.toNat_natCast,hle,hlh,c1,hlen,hst,hil']
  exact ⟨_,by omega,ILi.mk (i+1) _ _ (by first|rfl|omega) (by omega) tH (jD.put'' g _ _ (by intro hh;exfalso;omega)) tH⟩
 ·have hie:i=l.length:=by omega
  subst hie
  rw[List.take_length,Nat.sub_self,List.replicate_zero,List.flatten_nil,List.append_nil] at c1
  simp(disch:=first|omega|(apply id;simp only[push_cast];try omega))only[push_cast,simprocAttr,hil]
  rw[rS0]
  simp(disch:=first|omega|(apply id;simp only[push_cast];try omega))only[push_cast,simprocAttr]
  exact ⟨g,.inr ⟨rfl,c1,hnx⟩⟩
def zO0 (l:List Tm):Prop:=l.length<100000000000∧smTs l=true
abbrev eR:Nat:=26
def trs (s:List (List Tm)):List Value:=s.map qD
def trV (s:List (List Tm)):Value:=Rw false eR s.length (trs s)
theorem qG0 (s:List (List Tm)):(trs s).length=s.length:=by simp[trs]
theorem iZ0:∀ s:List (List Tm),(trs s).all one=true
 | []=>rfl
 | x :: s=>by
  have:=iZ0 s
  simp only[trs] at this
  simp only[trs,List.map_cons,List.all_cons,this,Bool.and_true]
  rfl
theorem kN0 (n:Nat) (hn:0<n):∀ s:List (List Tm),scL n (trs s)=true
 | []=>rfl
 | x :: s=>by
  have:=kN0 n hn s
  simp only[trs] at this
  simp[trs,scL,this,cI0 n hn]
theorem nH0 (n:Nat) (hn:0<n) (k:Nat) (f:Bool) (s:List (List Tm)):Ev.sc n (Rw f eR k (trs s))=true:=by
 have:=kN0 n hn s
 simp[Ev.sc,Rw,scL,this,hn]
theorem cH0 {s:List (List Tm)} {i:Nat} {l:List Tm} (h:s[i]?=some l):(trs s)[i]?=some (qD l):=by simp[trs,h]
theorem lA0 (a b:List (List Tm)):trs (a++b)=trs a++trs b:=by simp[trs]
attribute [push_cast] qG0 iZ0 kN0 nH0
def kX (s:List (List Tm)):Prop:=s.length<100000000000∧∀ l∈s,zO0 l
def kU:List (List Tm)→Int
 | []=>0
 | x :: s=>uK x+kU s
theorem eY0:∀ (a b:List (List Tm)),kU (a++b)=kU a+kU b
 | [],b=>by simp[kU]
 | x :: a,b=>by rw[List.cons_append,kU,kU,eY0 a b];omega
theorem bN0 {l:List (List Tm)} {i:Nat} {x:List Tm} (h:l[i]?=some x):kU (l.take (i+1))=kU (l.take i)+uK x:=by
 rw[qL h,eY0,kU,kU];omega
inductive I33 (s:List (List Tm)):Nat→S→Prop
 | mk (i:Nat) (iv n:Int) (h:jA) {x0 x1 x2 x4 x5 x6 x7 xB xC xD xE xF xG xH xI xJ xK xL xM xN xO xP xQ:Value} (hiv:iv=(i:Int)) (hi:i≤s.length) (hn:n=W (kU (s.take i))) (hl1:h.lo=1) (hl2:1≤h.next) :
  I33 s (s.length-i) ⟨(F27 x0 x1 x2 (.int .i64 n) x4 x5 x6 x7 (trV s) (.int .i64 s.length) (.int .i64 iv) xB xC xD xE xF xG xH xI xJ xK xL xM xN xO xP xQ),[],h⟩
inductive I33b (s:List (List Tm)) (j:Nat) (l:List Tm):Nat→S→Prop
 | mk (i:Nat) (iv n:Int) (h:jA) {x0 x1 x2 x4 x5 x6 x7 xB xC xD xH xI xJ xK xL xM xN xO xP xQ:Value} (hiv:iv=(i:Int)) (hi:i≤l.length) (hn:n=W (kU (s.take j)+uK (l.take i))) (hl1:h.lo=1) (hl2:1≤h.next) :
  I33b s j l (l.length-i) ⟨(F27 x0 x1 x2 (.int .i64 n) x4 x5 x6 x7 (trV s) (.int .i64 s.length) (.int .i64 j) xB xC xD (qD l) (.int .i64 l.length) (.int .i64 iv) xH xI xJ xK xL xM xN xO xP xQ),[],h⟩
theorem nR1 (s:List (List Tm)) (hs:kX s):jI (pp G) H0 19 [trV s] (.int .i64 (W (kU s))):=by
 have hsl:=hs.1
 refine cE G fir19 (by kernel_rfl) (bG1 ..) fun hlo=>?_;rw[pY1]
 unfold trV
 simp(disch:=first|omega|(apply id;simp only[push_cast];try omega))only[push_cast,simprocAttr]
 refine WD.loop4 (q:=qq) (jX G) (by kernel_rfl) (I33 s) ?_ _ _ (I33.mk 0 0 _ _ rfl (Nat.zero_le _) rfl rfl tH)
 intro m s1 hI
 cases hI with|mk j jv n h hiv hi hn hl1 hl2=>
 subst hiv hn
 rw[rY0]
 unfold trV
 by_cases hjl:(j:Int)<s.length
 ·obtain ⟨l,hl⟩:=qJ (l:=s) (i:=j) (by omega)
  have hlm:=List.mem_of_getElem? hl
  obtain ⟨hll,hlt⟩:=hs.2 l hlm
  have hp:=cH0 hl
  have hle2:j<s.length:=by omega
  unfold qD at hp
  simp(disch:=first|omega|(apply id;simp only[push_cast];try omega))only[push_cast,simprocAttr,hjl,Int.toNat_natCast,hp,hle2,hl1]
  refine WD.loop4 (q:=qq) (jX G) (by kernel_rfl) (I33b s j l) ?_ _ _ (I33b.mk 0 0 _ _ rfl (Nat.zero_le _) (by rw[List.take_zero,uK,Int.add_zero]) (by first|assumption|(simp(disch:=first|omega|(apply id;simp only[push_cast];try omega))only[push_cast,simprocAttr,hl1];try omega)) tH)
  intro m s1 hI
  cases hI with|mk i iv n h hiv hi hn hl1 hl2=>
  subst hiv hn
  rw[rW0]
  unfold qD
  by_cases hil:(i:Int)<l.length
  ·obtain ⟨x,hx⟩:=qJ (l:=l) (i:=i) (by omega)
   have hp:=qV hx
   have hle2:i*9+9≤l.length*9:=by omega
   simp(disch:=first|omega|(apply id;simp only[push_cast];try omega))only[push_cast,simprocAttr,hil,Int.toNat_natCast,hp,hle2,hl1]
   refine dK (nO0 G x (qA hlt x (List.mem_of_getElem? hx))) ?_
   simp(disch:=first|omega|(apply id;simp only[push_cast];try omega))only[push_cast,simprocAttr,eY1]
   exact ⟨_,by omega,I33b.mk (i+1) _ _ _ (by first|rfl|omega) (by omega) (by rw[jR0 hx];congr 1;omega) (by first|assumption|(simp(disch:=first|omega|(apply id;simp only[push_cast];try omega))only[push_cast,simprocAttr,hl1];try omega)) tH⟩
  ·have hie:i=l.length:=by omega
   subst hie
   simp(disch:=first|omega|(apply id;simp only[push_cast];try omega))only[push_cast,simprocAttr,hil]
   rw[rV0]
   simp(disch:=first|omega|(apply id;simp only[push_cast];try omega))only[push_cast,simprocAttr,List.take_length]
   exact ⟨_,by omega,I33.mk (j+1) _ _ _ (by first|rfl|omega) (by omega) (by rw[bN0 hl]) (by first|assumption|(simp(disch:=first|omega|(apply id;simp only[push_cast];try omega))only[push_cast,simprocAttr,hl1];try omega)) tH⟩
 ·have hie:j=s.length:=by omega
  subst hie
  simp(disch:=first|omega|(apply id;simp only[push_cast];try omega))only[push_cast,simprocAttr,hjl]
  rw[rX0]
  simp(disch:=first|omega|(apply id;simp only[push_cast];try omega))only[push_cast,simprocAttr,List.take_length]
  exact .id rfl
theorem jO2 {e k n by_ m:Nat} {cs xs:List Value} {h:jA} (hl:cs.length=n*k) (ho:cs.all one=true) (hx:xs.all one=true) (hm:0<m) (hb:((n+m)*by_≤140737488355328∧(n+m)<100000000000000)) :
  apS e k by_ (Rw true e n cs) (some (m,xs)) h=some (.slice (some ⟨h.next,0,none⟩) (n+m) UC,h.add (O (cs++xs) e true)):=by
 show (if xs.all one=true then (if cs.length=n*k∧((n+m)*by_≤140737488355328∧(n+m)<100000000000000)∧cs.all one=true then (if m=0 then some (Rw true e n cs,h) else some (.slice (some ⟨h.next,0,none⟩) (n+m) UC,h.add (O (cs++xs) e true))) else none) else none)=_
 rw[if_pos hx,if_pos ⟨hl,hb,ho⟩,if_neg (by omega)]
theorem eU1 {e k n by_:Nat} {cs xs:List Value} {h:jA} (hl:cs.length=n*k) (ho:cs.all one=true) (hx:xs.all one=true) (hb:(n*by_≤140737488355328∧n<100000000000000)) :
  apS e k by_ (Rw true e n cs) (some (0,xs)) h=some (Rw true e n cs,h):=by
 show (if xs.all one=true then (if cs.length=n*k∧((n+0)*by_≤140737488355328∧(n+0)<100000000000000)∧cs.all one=true then (if 0=0 then some (Rw true e n cs,h) else some (.slice (some ⟨h.next,0,none⟩) (n+0) UC,h.add (O (cs++xs) e true))) else none) else none)=_
 rw[if_pos hx,if_pos ⟨hl,by simpa using hb,ho⟩,if_pos rfl]
theorem oU0 (n:Nat):Nat.beq n n=true:=Nat.beq_refl n
theorem dI1 (s:List (List Tm)) (a:Int) (hs:s.length<100000000000):jI (pp G) H0 53 [trV s,.int .i64 a] (.bool (decide (0≤a∧a<s.length))):=by
 refine cE G fir53 (by kernel_rfl) (eK0 ..) fun hlo=>?_;rw[oT1]
 unfold trV
 by_cases h:0≤a
 ·simp(disch:=first|omega|(apply id;simp only[push_cast];try omega))only[push_cast,simprocAttr,h,true_and]
  exact .id rfl
 ·simp(disch:=first|omega|(apply id;simp only[push_cast];try omega))only[push_cast,simprocAttr,h,false_and]
  exact .id rfl
theorem oV0 (l m:List Tm) (hl:l.length<100000000000) (hm:m.length<100000000000):jI (pp G) H0 55 [qD l,qD m] (qD (l++m)):=by
 refine cE G fir55 (by kernel_rfl) (eK0 ..) fun hlo=>?_;rw[oR1]
 unfold qD
 have ht:(jZ l).take (l.length*9)=jZ l:=List.take_of_length_le (by rw[gW];exact Nat.le_refl _)
 by_cases h0:m.length=0
 ·obtain rfl:m=[]:=List.length_eq_zero_iff.1 h0
  have h1:l.length*120+l.length<100000000000000:=by omega
  have ha:apS 28 9 120 (Rw true 28 l.length (jZ l)) (some (0,[])) H0=some (Rw true 28 l.length (jZ l),H0):=eU1 (by rw[gW]) (wK0 l) rfl (by omega)
  simp(disch:=first|omega|(apply id;simp only[push_cast];try omega))only[push_cast,simprocAttr,oU0,Int.toNat_natCast,ht,List.length_nil,show jZ []=[] from rfl,ha]
  exact .row (.ids (gU _ H0q l))
 have h1:(l.length+m.length)*120+(l.length+m.length)<100000000000000:=by omega
 have ha:apS 28 9 120 (Rw true 28 l.length (jZ l)) (some (m.length,jZ m)) H0=some (.slice (some ⟨H0.next,0,none⟩) (l.length+m.length) UC,H0.add (O (jZ l++jZ m) 28 true)):=jO2 (by rw[gW]) (wK0 l) (wK0 m) (by omega) (by omega)
 simp(disch:=first|omega|(apply id;simp only[push_cast];try omega))only[push_cast,simprocAttr,oU0,Int.toNat_natCast,ht,ha]
 rw[← cJ0,← List.length_append]
 have hlt:(l++m).length<U:=by rw[List.length_append,show U=100000000000000 by unfold U;rfl];omega
 refine .sl (Nat.le_refl _) (qC _ _ _ _ rfl) (size:=9) rfl (by decide) ?_ (.inr ⟨rfl,Nat.le_refl _,by simp,hlt⟩) ?_
 ·rw[gW];omega
 rw[List.drop_zero,List.take_of_length_le (by rw[gW];exact Nat.le_refl _)]
 exact .ids (gU _ H0q _)
def kZ {α:Type} (s:List α) (a:Int) (l:α):List α:=if 0≤a then s.set a.toNat l else s
theorem jS0 {α:Type} (s:List α) (a:Int) (l:α):(kZ s a l).length=s.length:=by
 unfold kZ;split<;>simp
theorem nU1 {α:Type} {s:List α} {i:Nat} {l x:α} (h:s[i]?=some x):(kZ s i l)[i]?=some l:=by
 unfold kZ
 have:=(List.getElem?_eq_some_iff.1 h).1
 rw[if_pos (by omega),Int.toNat_natCast]
 simp[this]
theorem nT1 {α:Type} {s:List α} {i:Nat} {a:Int} {l x:α} (h:s[i]?=some x) (hne:¬ (i:Int)=a):(kZ s a l)[i]?=some x:=by
 unfold kZ
 split
 ·rw[List.getElem?_set_ne (by omega)];exact h
 ·exact h
inductive I52 (σ:jA) (s r:List (List Tm)) (a:Int) (l:List Tm) (fv:Value):Nat→S→Prop
 | mk (i:Nat) (iv:Int) (h:jA) {x0 x4 x5 x6 x7 x8 xA xB xC xD xE xI xJ xK xL xM xN xO xP xQ xR xS xT xU xV xW xX:Value} (hiv:iv=(i:Int)) (hi:i≤s.length) (c1:cells h σ.next=some (trs (r.take i)++(List.replicate (s.length-i) [Value.slice none 0 0]).flatten,26,false)) (hl1:h.lo=1) (hl2:σ.next<h.next) (hg:jD σ h fun _=>False) :
  I52 σ s r a l fv (s.length-i) ⟨(F34 x0 (.int .i64 a) (qD l) fv x4 x5 x6 x7 x8 (.slice (some ⟨σ.next,0,none⟩) s.length s.length) xA xB xC xD xE (trV s) (.int .i64 s.length) (.int .i64 iv) xI xJ xK xL xM xN xO xP xQ xR xS xT xU xV xW xX),[],h⟩
theorem jQ1 (σ:jA) (s:List (List Tm)) (a:Int) (l:List Tm) (hs:kX s) (hl:zO0 l):jO (pp G) H0 54 [trV s,.int .i64 a,qD l,.func (.func 26) #[] #[]] σ
  fun v σ'=>v=.slice (some ⟨σ.next,0,none⟩) s.length s.length∧σ'=σ.add (O (trs (kZ s a l)) eR false):=by
 have ho:∀ m:List Tm,zO0 m→jI (pp G) H0 64 [qD m,.func (.func 26) #[] #[]] (qD m):=fun m hm=>dI0 G m 26 hm.1 fun x hx=>gA0 G x (qA hm.2 x hx)
 have hsl:=hs.1
 refine jO.wlog fun hl0 hH0 hp0 hlo=>?_;rw[kI] at hl0;refine jO.cut (jO.fir4 (q:=qq) (jX G) fir54 (by kernel_rfl) rfl rfl (bF1 ..) (by rw[hl0];exact (show NGG≤1 by decide)) ?_);rw[oS1]
 unfold trV
 have h1:(s.length:Int)*24+s.length<100000000000000:=by omega
 simp(disch:=first|omega|(apply id;simp only[push_cast];try omega))only[push_cast,simprocAttr,h1]
 refine WD.loop4 (q:=qq) (jX G) (by kernel_rfl) (I52 σ s (kZ s a l) a l (.func (.func 26) #[] #[])) ?_ _ _ (I52.mk 0 0 _ rfl (Nat.zero_le _) (by simp(disch:=first|omega|(apply id;simp only[push_cast];try omega))only[push_cast,simprocAttr,List.take_zero];rfl) tH tH (by (repeat (first|exact Gr.refl _|assumption|(refine jD.put' ?_ _ _ (by first|omega|(simp only[push_cast];omega)))|(refine jD.add' ?_ _)))))
 intro m s1 hI
 cases hI with|mk i iv h hiv hi c1 hl1 hl2 hg=>
 subst hiv
 rw[rA0]
 unfold trV
 by_cases hil:(i:Int)<s.length
 ·obtain ⟨x,hx⟩:=qJ (l:=s) (i:=i) (by omega)
  have hxm:=hs.2 x (List.mem_of_getElem? hx)
  have hp:=cH0 hx
  have hle:i<s.length:=by omega
  have key : ∀ (y : List Tm) (hy : zO0 y) (hr : (kZ s a l)[i]? = some y) {x4 x5 x6 x7 x8 xC xD xE xI xJ xK xL xM xN xO xP xQ xR xS xT xU xV xW xX x0 : Value} (R : jL → S → Prop)
    (hR:∀ {x4 x5 x6 x7 x8 xC xD xE xI xJ xK xL xM xN xO xP xQ xR xS xT xU xV xW xX x0 xA xB:Value} (h':jA),cells h' σ.next=some (trs ((kZ s a l).take (i+1))++(List.replicate (s.length-(i+1)) [Value.slice none 0 0]).flatten,26,false)→h'.lo=1→σ.next<h'.next→(jD σ h' fun _=>False)→
     @kR ⟨R⟩ .normal ⟨(F34 x0 (.int .i64 a) (qD l) (.func (.func 26) #[] #[]) x4 x5 x6 x7 x8 (.slice (some ⟨σ.next,0,none⟩) s.length s.length) xA xB xC xD xE (trV s) (.int .i64 s.length) (.int .i64 i) xI xJ xK xL xM xN xO xP xQ xR xS xT xU xV xW xX),[],h'⟩),
    dc3 (pp G) qq none dP0 ⟨(F34 x0 (.int .i64 a) (qD l) (.func (.func 26) #[] #[]) x4 x5 x6 x7 x8 (.slice (some ⟨σ.next,0,none⟩) s.length s.length) (.int .i64 i) (qD y) xC xD xE (trV s) (.int .i64 s.length) (.int .i64 i) xI xJ xK xL xM xN xO xP xQ xR xS xT xU xV xW xX),[],h⟩ (@kR ⟨R⟩):=by
   intro y hy hr
   intros
   rename_i R hR
   rw[pY0]
   obtain ⟨k,hk⟩:∃ k,s.length-i=k+1:=⟨s.length-i-1,by omega⟩
   have hta:(trs ((kZ s a l).take i)).length=i:=by rw[qG0,List.length_take,jS0,Nat.min_eq_left hi]
   have hlen:=zC0 (w:=1) (z:=[Value.slice none 0 0]) (k:=s.length-i) (n:=s.length) hta rfl (by omega)
   have hst:=qU0 (c:=[qD y]) (w:=1) (z:=[Value.slice none 0 0]) (k:=k) hta rfl
   rw[← hk,show [qD y]=trs [y] from rfl,← lA0,← qL hr,show k=s.length-(i+1) by omega,show trs [y]=[qD y] from rfl] at hst
   simp(disch:=first|omega|(apply id;simp only[push_cast];try omega))only[push_cast,simprocAttr]
   refine dK (ho y hy) ?_
   unfold qD at hst ⊢
   simp(disch:=first|omega|(apply id;simp only[push_cast];try omega))only[push_cast,simprocAttr,hil,Int.toNat_natCast,hle,hl1,c1,hlen,hst]
   exact hR _ tH (by first|assumption|(simp(disch:=first|omega|(apply id;simp only[push_cast];try omega))only[push_cast,simprocAttr,hl1];try omega)) tH (by (repeat (first|exact Gr.refl _|assumption|(refine jD.put' ?_ _ _ (by first|omega|(simp only[push_cast];omega)))|(refine jD.add' ?_ _))))
  unfold trV at key
  have fin : ∀ (h' : jA) {x4 x5 x6 x7 x8 xC xD xE xI xJ xK xL xM xN xO xP xQ xR xS xT xU xV xW xX x0 xA xB : Value}, cells h' σ.next = some (trs ((kZ s a l).take (i + 1)) ++ (List.replicate (s.length - (i + 1)) [Value.slice none 0 0]).flatten, 26, false) → h'.lo = 1 → σ.next < h'.next → (jD σ h' fun _ => False) →
    (∃ m',m'<s.length-i∧I52 σ s (kZ s a l) a l (.func (.func 26) #[] #[]) m' ⟨(F34 x0 (.int .i64 a) (qD l) (.func (.func 26) #[] #[]) x4 x5 x6 x7 x8 (.slice (some ⟨σ.next,0,none⟩) s.length s.length) xA xB xC xD xE (Rw false eR s.length (trs s)) (.int .i64 s.length) (.int .i64 ((i:Int)+1)) xI xJ xK xL xM xN xO xP xQ xR xS xT xU xV xW xX),[],h'⟩):=fun h'=>by
   intros
   rename_i c1 hl1 hl2 hg
   exact ⟨_,by omega,I52.mk (i+1) _ _ (by first|rfl|omega) (by omega) c1 hl1 hl2 hg⟩
  by_cases ha:(i:Int)=a
  ·subst ha
   simp(disch:=first|omega|(apply id;simp only[push_cast];try omega))only[push_cast,simprocAttr,hil,Int.toNat_natCast,hp,hle,hl1]
   refine key l hl (nU1 hx) _ ?_
   intros
   rename_i h' c1' hl1' hl2' hg'
   simp(disch:=first|omega|(apply id;simp only[push_cast];try omega))only[push_cast,simprocAttr]
   rw[bP0]
   simp(disch:=first|omega|(apply id;simp only[push_cast];try omega))only[push_cast,simprocAttr,hil]
   exact fin _ c1' hl1' hl2' hg'
  ·simp(disch:=first|omega|(apply id;simp only[push_cast];try omega))only[push_cast,simprocAttr,hil,Int.toNat_natCast,hp,hle,hl1,ha]
   refine key x hxm (nT1 hx ha) _ ?_
   intros
   rename_i h' c1' hl1' hl2' hg'
   simp(disch:=first|omega|(apply id;simp only[push_cast];try omega))only[push_cast,simprocAttr]
   rw[bP0]
   simp(disch:=first|omega|(apply id;simp only[push_cast];try omega))only[push_cast,simprocAttr,hil]
   exact fin _ c1' hl1' hl2' hg'
 ·have hie:i=s.length:=by omega
  subst hie
  rw[List.take_of_length_le (by rw[jS0];exact Nat.le_refl _),Nat.sub_self,List.replicate_zero,List.flatten_nil,List.append_nil] at c1
  simp(disch:=first|omega|(apply id;simp only[push_cast];try omega))only[push_cast,simprocAttr,hil]
  rw[pZ0]
  simp(disch:=first|omega|(apply id;simp only[push_cast];try omega))only[push_cast,simprocAttr]
  refine ⟨.id tH,uD0.new1 hg hlo hl2 c1 (.ids (kN0 _ (by omega) _)) (iZ0 _)⟩
theorem jP1 (s:List (List Tm)) (a:Int) (l:List Tm) (hs:kX s) (hl:zO0 l):jI (pp G) H0 54 [trV s,.int .i64 a,qD l,.func (.func 26) #[] #[]] (trV (kZ s a l)):=by
 refine jI.cut ((jQ1 G H0 s a l hs hl).mono ?_)
 rintro v σ' ⟨rfl,rfl⟩
 have hsl:=hs.1
 unfold trV
 rw[jS0]
 refine .sl (Nat.le_refl _) (qC _ _ _ _ rfl) (size:=1) rfl (by decide) (by rw[qG0,jS0];omega) (.inl ⟨by simp only[UC];omega,Nat.le_refl _⟩) ?_
 rw[List.drop_zero,List.take_of_length_le (by rw[qG0,jS0];omega)]
 exact .ids (kN0 _ H0q _)
theorem eU0:zO0 []:=⟨by simp,rfl⟩
theorem eV0 {l m:List Tm} (h1:zO0 l) (h2:zO0 m) (hl:l.length+m.length<100000000000):zO0 (l++m):=
 ⟨by rw[List.length_append];exact hl,zN0 fun x hx=>(List.mem_append.1 hx).elim (qA h1.2 x) (qA h2.2 x)⟩
theorem wM0 {s:List (List Tm)} (h:kX s) (i:Nat):zO0 (s.getD i []):=by
 rw[List.getD_eq_getElem?_getD]
 cases hx:s[i]? with
 | none=>exact eU0
 | some x=>exact h.2 x (List.mem_of_getElem? hx)
inductive IL (s:List (List Tm)) (fv:Value):Nat→S→Prop
 | mk (i:Nat) (iv:Int) (h:jA) {x0 x2 x3 x4 x6 x7 x8 x9 xA xB xC xD xH xI xJ xK xL xM xN xO xP xQ xR xS:Value} (hiv:iv=(i:Int)) (hi:i≤s.length) (c1:cells h 1=some (trs (s.take i)++(List.replicate (s.length-i) [Value.slice none 0 0]).flatten,26,false)) (hl1:h.lo=1) (hl2:2≤h.next) :
  IL s fv (s.length-i) ⟨(F29 x0 fv x2 x3 x4 (.slice (some ⟨1,0,none⟩) s.length s.length) x6 x7 x8 x9 xA xB xC xD (trV s) (.int .i64 s.length) (.int .i64 iv) xH xI xJ xK xL xM xN xO xP xQ xR xS),[],h⟩
theorem sI1 (s:List (List Tm)) (f:FuncId) (hll:s.length<100000000000) (hf:∀ x∈s,jI (pp G) H0 f [qD x] (qD x)):jI (pp G) H0 50 [trV s,.func (.func f) #[] #[]] (trV s):=by
 refine cE G fir50 (by kernel_rfl) (bE0 ..) fun hlo=>?_;rw[oW1]
 unfold trV
 by_cases h0:s.length=0
 ·have h0':(s.length:Int)=0:=by omega
  obtain rfl:s=[]:=List.length_eq_zero_iff.1 h0
  simp(disch:=first|omega|(apply id;simp only[push_cast];try omega))only[push_cast,simprocAttr,h0']
  exact .nil (size:=1) rfl (by decide)
 have h0':¬ (s.length:Int)=0:=by omega
 have h1:(s.length:Int)*400+s.length<100000000000000:=by omega
 simp(disch:=first|omega|(apply id;simp only[push_cast];try omega))only[push_cast,simprocAttr,h0',h1]
 refine WD.loop4 (q:=qq) (jX G) (by kernel_rfl) (IL s (.func (.func f) #[] #[])) ?_ _ _ (IL.mk 0 0 _ rfl (Nat.zero_le _) (by simp(disch:=first|omega|(apply id;simp only[push_cast];try omega))only[push_cast,simprocAttr,List.take_zero];rfl) rfl tH)
 intro m s1 hI
 cases hI with|mk i iv h hiv hi c1 hl1 hl2=>
 subst hiv
 rw[rE0]
 unfold trV
 by_cases hil:(i:Int)<s.length
 ·obtain ⟨x,hx⟩:=qJ (l:=s) (i:=i) (by omega)
  have hxm:=List.mem_of_getElem? hx
  have hp:=cH0 hx
  have hle:i<s.length:=by omega
  simp(disch:=first|omega|(apply id;simp only[push_cast];try omega))only[push_cast,simprocAttr,hil,Int.toNat_natCast,hp,hle,hl1]
  refine dK (hf x hxm) ?_
  obtain ⟨k,hk⟩:∃ k,s.length-i=k+1:=⟨s.length-i-1,by omega⟩
  have hta:(trs (s.take i)).length=i:=by rw[qG0,List.length_take,Nat.min_eq_left hi]
  have hlen:=zC0 (w:=1) (z:=[Value.slice none 0 0]) (k:=s.length-i) (n:=s.length) hta rfl (by omega)
  have hst:=qU0 (c:=[qD x]) (w:=1) (z:=[Value.slice none 0 0]) (k:=k) hta rfl
  rw[← hk,show [qD x]=trs [x] from rfl,← lA0,← qL hx,show k=s.length-(i+1) by omega,show trs [x]=[qD x] from rfl] at hst
  unfold qD at hst ⊢
  simp(disch:=first|omega|(apply id;simp only[push_cast];try omega))only[push_cast,simprocAttr,hil,Int.toNat_natCast,hle,hl1,c1,hlen,hst]
  exact ⟨_,by omega,IL.mk (i+1) _ _ (by first|rfl|omega) (by omega) tH (by first|assumption|(simp(disch:=first|omega|(apply id;simp only[push_cast];try omega))only[push_cast,simprocAttr,hl1];try omega)) tH⟩
 ·have hie:i=s.length:=by omega
  subst hie
  rw[List.take_length,Nat.sub_self,List.replicate_zero,List.flatten_nil,List.append_nil] at c1
  simp(disch:=first|omega|(apply id;simp only[push_cast];try omega))only[push_cast,simprocAttr,hil]
  rw[rD0]
  simp(disch:=first|omega|(apply id;simp only[push_cast];try omega))only[push_cast,simprocAttr]
  refine .sl (by simp(disch:=first|omega|(apply id;simp only[push_cast];try omega))only[push_cast,simprocAttr]) c1 (size:=1) rfl (by decide) tH (.inl ⟨by simp only[UC];omega,Nat.le_refl _⟩) ?_
  rw[List.drop_zero,List.take_of_length_le (by rw[qG0];omega)]
  exact .ids (kN0 _ H0q s)
theorem wD1 (l:List Tm) (hl:zO0 l):jI (pp G) H0 46 [qD l] (qD l):=by
 refine cE G kS2 (by kernel_rfl) (pD0 ..) fun hlo=>?_;rw[qY1]
 simp(disch:=first|omega|(apply id;simp only[push_cast];try omega))only[push_cast,simprocAttr]
 refine jC.dataI (dI0 G l 26 hl.1 fun x hx=>gA0 G x (qA hl.2 x hx)) (by and_intros<;>first|rfl|(simp(disch:=first|omega|(apply id;simp only[push_cast];try omega))only[push_cast])) ?_
 simp(disch:=first|omega|(apply id;simp only[push_cast];try omega))only[push_cast,simprocAttr]
 exact .id (cI0 _ H0q l)
@[push_cast]theorem yR0 (n:Nat) (hn:0<n) (s:List (List Tm)):Ev.sc n (trV s)=true:=nH0 n hn ..
theorem wE1 (s:List (List Tm)) (hs:kX s):jI (pp G) H0 31 [trV s] (trV s):=by
 refine cE G fir31 (by kernel_rfl) (pD0 ..) fun hlo=>?_;rw[pN1]
 simp(disch:=first|omega|(apply id;simp only[push_cast];try omega))only[push_cast,simprocAttr]
 refine jC.dataI (sI1 G s 46 hs.1 fun x hx=>wD1 G x (hs.2 x hx)) (by and_intros<;>first|rfl|(simp(disch:=first|omega|(apply id;simp only[push_cast];try omega))only[push_cast])) ?_
 simp(disch:=first|omega|(apply id;simp only[push_cast];try omega))only[push_cast,simprocAttr]
 exact .id (yR0 _ H0q s)
theorem wI2 (t:Tm) (σ:jA):bsD (qq.m 26) (slT Tryd.prog 26) 1 [(0,tmV t)] σ=some (Rw true 28 1 (jZ [t]),σ):=by
 rw[kW];cases t;kernel_rfl
theorem yC0 {s:List (List Tm)} {i:Nat} (h:i<s.length):(trs s)[i]?=some (qD (s.getD i [])):=by simp[trs,h]
theorem rM1 (s:List (List Tm)) (a:Int) (t:Tm) (hs:kX s) (hgl:(s.getD a.toNat []).length+1<100000000000) (ht:smT t=true) (ha:0≤a∧a<s.length):jI (pp G) H0 34 [trV s,.int .i64 a,tmV t] (trV (kZ s a (s.getD a.toNat []++[t]))):=by
 have hg:=wM0 hs a.toNat
 have hsl:=hs.1
 refine cE G fir34 (by kernel_rfl) (qL2 ..) fun hlo=>?_;rw[pL1]
 simp(disch:=first|omega|(apply id;simp only[push_cast];try omega))only[push_cast,simprocAttr]
 refine dK (dI1 G s a hs.1) ?_
 have hp:=yC0 (s:=s) (i:=a.toNat) (by omega)
 have hd:decide (0≤a∧a<(s.length:Int))=true:=by simpa using ha
 have hc:(a.toNat:Int)=a:=by omega
 have hlt:a.toNat<s.length:=by omega
 have hsr:zO0 (s.getD a.toNat []++[t]):=eV0 hg ⟨by simp,by simp[smTs,ht]⟩ (by rw[List.length_cons,List.length_nil];omega)
 unfold trV
 simp(disch:=first|omega|(apply id;simp only[push_cast];try omega))only[push_cast,simprocAttr,hd,hp,hc,hlt,ha.1,ha.2,↓wI2]
 refine jC.data (oV0 G (s.getD a.toNat []) [t] (by omega) (by simp)) (.cons (.id (cI0 _ H0q _)) (.cons (.row (.ids (gU _ H0q _))) .nil)) (by first|rfl|(simp(disch:=first|omega|(apply id;simp only[push_cast];try omega))only[push_cast])) (by first|rfl|(simp(disch:=first|omega|(apply id;simp only[push_cast];try omega))only[push_cast])) ?_
 simp(disch:=first|omega|(apply id;simp only[push_cast];try omega))only[push_cast,simprocAttr]
 refine dK (jP1 G s a (s.getD a.toNat []++[t]) hs hsr) ?_
 simp(disch:=first|omega|(apply id;simp only[push_cast];try omega))only[push_cast,simprocAttr]
 exact .id (yR0 _ H0q _)
theorem pA0 (s:List (List Tm)) (a:Int) (hs:kX s):jI (pp G) H0 36 [trV s,.int .i64 a] (trV (kZ s a [])):=by
 refine cE G fir36 (by kernel_rfl) (pC0 ..) fun hlo=>?_;rw[pJ1]
 simp(disch:=first|omega|(apply id;simp only[push_cast];try omega))only[push_cast,simprocAttr]
 refine jC.data (jP1 G s a [] hs eU0) (by repeat' (first|exact FzL.nil|apply FzL.cons|exact FzV.id rfl|(refine FzV.id ?_;simp(disch:=first|omega|(apply id;simp only[push_cast];try omega))only[push_cast];done)|exact wJ1 ..|exact wK1 ..|exact nil_tr ..|exact zL2 ..|exact nil_Pr ..|exact zK2 ..|apply FzV.agg|apply FzV.row)) (by first|rfl|(simp(disch:=first|omega|(apply id;simp only[push_cast];try omega))only[push_cast])) (by first|rfl|(simp(disch:=first|omega|(apply id;simp only[push_cast];try omega))only[push_cast])) ?_
 simp(disch:=first|omega|(apply id;simp only[push_cast];try omega))only[push_cast,simprocAttr]
 exact .id (yR0 _ H0q _)
def nW0 (s:List (List Tm)) (a b:Int):List (List Tm):=if a=b then s else kZ (kZ s b (s.getD b.toNat []++s.getD a.toNat [])) a []
theorem sE1 (s:List (List Tm)) (a b:Int) (hs:kX s) (hl:(s.getD b.toNat []).length+(s.getD a.toNat []).length<100000000000) (ha:0≤a∧a<s.length) (hb:0≤b∧b<s.length) :
  jI (pp G) H0 37 [trV s,.int .i64 a,.int .i64 b] (trV (nW0 s a b)):=by
 have hga:=wM0 hs a.toNat
 have hgb:=wM0 hs b.toNat
 have hsl:=hs.1
 unfold nW0
 refine cE G fir37 (by kernel_rfl) (qE2 ..) fun hlo=>?_;rw[pI1]
 simp(disch:=first|omega|(apply id;simp only[push_cast];try omega))only[push_cast,simprocAttr]
 refine dK (dI1 G s a hs.1) ?_
 have hd:decide (0≤a∧a<(s.length:Int))=true:=by simpa using ha
 have hd2:decide (0≤b∧b<(s.length:Int))=true:=by simpa using hb
 simp(disch:=first|omega|(apply id;simp only[push_cast];try omega))only[push_cast,simprocAttr,hd]
 refine dK (dI1 G s b hs.1) ?_
 by_cases hab:a=b
 ·rw[if_pos hab]
  subst hab
  simp(disch:=first|omega|(apply id;simp only[push_cast];try omega))only[push_cast,simprocAttr,hd2]
  refine dK (wE1 G s hs) ?_
  simp(disch:=first|omega|(apply id;simp only[push_cast];try omega))only[push_cast,simprocAttr]
  exact .id (yR0 _ H0q _)
 rw[if_neg hab]
 have hp:=yC0 (s:=s) (i:=a.toNat) (by omega)
 have hp2:=yC0 (s:=s) (i:=b.toNat) (by omega)
 have hc:(a.toNat:Int)=a:=by omega
 have hc2:(b.toNat:Int)=b:=by omega
 have hlt:a.toNat<s.length:=by omega
 have hlt2:b.toNat<s.length:=by omega
 have hsr:zO0 (s.getD b.toNat []++s.getD a.toNat []):=eV0 hgb hga hl
 obtain ⟨r,hr⟩:∃ r,r=kZ s b (s.getD b.toNat []++s.getD a.toNat []):=⟨_,rfl⟩
 have hw:=jQ1 G H0 s b (s.getD b.toNat []++s.getD a.toNat []) hs hsr
 have hrl:r.length=s.length:=by rw[hr,jS0]
 rw[← hr] at hw ⊢
 unfold trV
 simp(disch:=first|omega|(apply id;simp only[push_cast];try omega))only[push_cast,simprocAttr,hd2,hab,hp,hp2,hlt,hlt2,ha.1,ha.2,hb.1,hb.2]
 refine dK (oV0 G (s.getD b.toNat []) (s.getD a.toNat []) hgb.1 hga.1) ?_
 simp(disch:=first|omega|(apply id;simp only[push_cast];try omega))only[push_cast,simprocAttr]
 refine jC.new1 (hw) (by first|exact FzL.ids rfl|(refine FzL.ids ?_;simp(disch:=first|omega|(apply id;simp only[push_cast];try omega))only[push_cast])) (by first|rfl|(simp(disch:=first|omega|(apply id;simp only[push_cast];try omega))only[push_cast])) (by first|rfl|(simp(disch:=first|omega|(apply id;simp only[push_cast];try omega))only[push_cast])) ?_
 simp(disch:=first|omega|(apply id;simp only[push_cast];try omega))only[push_cast,simprocAttr,ha.1,ha.2,hlt,hrl]
 have hq:r=r.take a.toNat++(r.drop a.toNat):=(List.take_append_drop _ _).symm
 have hdr:r.drop a.toNat=r.getD a.toNat [] :: r.drop (a.toNat+1):=by
  rw[List.drop_eq_getElem_cons (by omega),List.getD_eq_getElem?_getD,List.getElem?_eq_getElem (by omega)];rfl
 have hz:kZ r a []=r.take a.toNat++[] :: r.drop (a.toNat+1):=by
  unfold kZ
  rw[if_pos ha.1,List.set_eq_take_append_cons_drop,if_pos (by omega)]
 rw[hz]
 have e1:(r.take a.toNat++[] :: r.drop (a.toNat+1)).length=s.length:=by
  rw[← hz,jS0,hrl]
 rw[e1]
 refine .sl (Nat.le_refl _) (jP _ _ _ _) (size:=1) rfl (by decide) ?_ (.inl ⟨by simp only[UC];omega,Nat.le_refl _⟩) ?_
 ·simp only[List.length_append,List.length_take,List.length_drop,qG0,List.length_cons,List.length_nil];omega
 rw[List.drop_zero,List.take_of_length_le (i:=s.length*1) (by simp only[List.length_append,List.length_take,List.length_drop,qG0,List.length_cons,List.length_nil];omega),lA0,show trs ([] :: r.drop (a.toNat+1))=[qD []]++trs (r.drop (a.toNat+1)) from rfl,List.append_assoc]
 have t1:(trs r).take a.toNat=trs (r.take a.toNat):=by simp[trs,List.map_take]
 have t2:(trs r).drop (a.toNat+1)=trs (r.drop (a.toNat+1)):=by simp[trs,List.map_drop]
 rw[t1,t2]
 exact (FzL.ids (kN0 _ H0q _)).app (.cons (wJ1 G _ _) (.ids (kN0 _ H0q _)))
def tC0 (x:Tm):List Tm→Tm
 | []=>x
 | t :: r=>.mk 12 0 0 [] zE [t,tC0 x r]
def bD (x:Tm):List Tm→List Value
 | []=>tmC x
 | t :: r=>[.int .i64 12,.int .i64 0,.int .i64 0,.string (Tx []),.int .i64 0,.int .i64 0,.string (Tx []),.slice none 0 0,Rw true 28 2 (tmC t++bD x r)]
def revF:List Tm→Tm
 | []=>zT
 | x :: r=>tC0 x r.reverse
theorem iJ0 (x:Tm) (r:List Tm):(bD x r).length=9:=by cases r<;>simp[bD,qM]
theorem iI0 (x:Tm) (r:List Tm):(bD x r).all one=true:=by
 cases r with
 | nil=>exact qJ0 x
 | cons t r=>rfl
theorem oW0 (n:Nat) (hn:0<n) (σ:jA) (x:Tm):∀ r:List Tm,FzL (pp G).P n σ (bD x r) (tmC (tC0 x r))
 | []=>.ids (qI0 n hn x)
 | t :: r=>by
  rw[bD,tC0]
  refine .cons (.id rfl) (.cons (.id rfl) (.cons (.id rfl) (.cons (.id rfl) (.cons (.id rfl) (.cons (.id rfl) (.cons (.id rfl) (.cons (wK1 G n σ) (.cons (.row ?_) .nil))))))))
  rw[show jZ [t,tC0 x r]=tmC t++tmC (tC0 x r) by rw[jZ,kW]]
  exact (FzL.ids (qI0 n hn t)).app (oW0 n hn σ x r)
theorem row2 (t x:Tm) (r:List Tm) (σ:jA):bsD (qq.m 26) (slT Tryd.prog 26) 2 [(0,tmV t),(1,.agg ⟨bD x r⟩)] σ=some (Rw true 28 2 (tmC t++bD x r),σ):=by
 cases r with
 | nil=>rw[bD];cases t;cases x;kernel_rfl
 | cons u r=>rw[bD];generalize bD x r=c;cases t;cases u;kernel_rfl
inductive I25 (s:List (List Tm)) (a:Int) (x:Tm) (l:List Tm):Nat→S→Prop
 | mk (i : Nat) (iv : Int) (h : jA) {x2 x3 x5 x6 x8 x9 xA xB xC xD xE xF xG xH xI xJ xK xL xM xN xO xP xQ xR xS xT xU xV xW xX yB yC yD yE yF yG yH yI yJ yK yL yM : Value} (hiv : iv = (i : Int)) (hi : i ≤ l.length)
   (c0:cells h 1=some ([.int .i64 0,.int .i64 0,.int .i64 0,.string (Tx []),.int .i64 0,.int .i64 0,.string (Tx []),.slice none 0 0,.slice none 0 0],28,false))
   (c1:cells h 2=some (bD x (l.take i).reverse,28,false)) (hl1:h.lo=1) (hl2:3≤h.next) :
  I25 s a x l (l.length-i) ⟨(F49 (trV s) (.int .i64 a) x2 x3 (.pointer (some ⟨1,0,none⟩)) x5 x6 (.pointer (some ⟨2,0,none⟩)) x8 x9 xA xB xC xD xE xF xG xH xI xJ xK xL xM xN xO xP xQ xR xS xT xU xV xW xX (qD l) (.int .i64 l.length) (.int .i64 iv) yB yC yD yE yF yG yH yI yJ yK yL yM),[],h⟩
def ttV (t:Tm) (s:List (List Tm)):Value:=.tuple ⟨[tmV t,trV s]⟩
theorem cR1 (l:List Tm) {i:Nat} {t:Tm} (h:l[i]?=some t):(l.take (i+1)).reverse=t :: (l.take i).reverse:=by
 rw[qL h,List.reverse_append];rfl
theorem uX1 (s:List (List Tm)) (a:Int) (hs:kX s) (ha:0≤a∧a<s.length) :
  jI (pp G) H0 35 [trV s,.int .i64 a] (ttV (revF (s.getD a.toNat [])) (kZ s a [])):=by
 have hga:=wM0 hs a.toNat
 have hsl:=hs.1
 have hp:=yC0 (s:=s) (i:=a.toNat) (by omega)
 have hc:(a.toNat:Int)=a:=by omega
 have hlt:a.toNat<s.length:=by omega
 have hset:s.getD a.toNat []=[]→kZ s a []=s:=fun h0=>by
  unfold kZ
  rw[if_pos ha.1]
  rw[List.getD_eq_getElem?_getD,List.getElem?_eq_getElem hlt] at h0
  simp only[Option.getD_some] at h0
  rw[← h0]
  exact List.set_getElem_self hlt
 generalize s.getD a.toNat []=row at hga hp hset
 have hd:decide (0≤a∧a<(s.length:Int))=true:=by simpa using ha
 have hrl:=hga.1
 refine cE G fir35 (by kernel_rfl) (qD2 ..) fun hlo=>?_;rw[pK1]
 simp(disch:=first|omega|(apply id;simp only[push_cast];try omega))only[push_cast,simprocAttr]
 refine dK (dI1 G s a hs.1) ?_
 cases row with
 | nil=>
  rw[hset rfl]
  unfold trV
  unfold qD at hp
  simp(disch:=first|omega|(apply id;simp only[push_cast];try omega))only[push_cast,simprocAttr,hd,hp,hlt,ha.1,ha.2,List.length_nil,show ((0:Nat):Int)=0 from rfl]
  have:=wE1 G s hs
  unfold trV at this
  refine dK (this) ?_
  simp(disch:=first|omega|(apply id;simp only[push_cast];try omega))only[push_cast,simprocAttr]
  refine .tup (.cons (.agg ?_) (.cons (.id (nH0 _ H0q _ _ _)) .nil))
  exact .cons (.id rfl) (.cons (.id rfl) (.cons (.id rfl) (.cons (.id rfl) (.cons (.id rfl) (.cons (.id rfl) (.cons (.id rfl) (.cons (wK1 G _ _) (.cons (wJ1 G _ _) .nil))))))))
 | cons x l=>
  have hll:l.length+1<100000000000:=by simpa using hrl
  have hxs:smT x=true:=qA hga.2 x (by simp)
  have hls:smTs l=true:=by have:=hga.2;simp only[smTs,Bool.and_eq_true] at this;exact this.2
  have hne:¬ ((l.length:Int)+1)=0:=by omega
  have h9:9≤(l.length+1)*9:=by omega
  have hT:jI (pp G) H0 46 [Rw false etm (x :: l).length (jZ (x :: l))] (Rw false etm (x :: l).length (jZ (x :: l))):=wD1 G _ hga
  have hdr:(jZ (x :: l)).drop 9=jZ l:=by
   have:=yT0 (x :: l) 1
   simpa using this
  unfold trV
  unfold qD at hp
  simp(disch:=first|omega|(apply id;simp only[push_cast];try omega))only[push_cast,simprocAttr,hd,hp,hlt,ha.1,ha.2,List.length_cons,hne]
  rw[List.length_cons] at hT
  refine dK (hT) ?_
  have e2:(l.length:Int)+1-1=l.length:=by omega
  simp(disch:=first|omega|(apply id;simp only[push_cast];try omega))only[push_cast,simprocAttr,h9,List.length_cons,hdr,Nat.add_sub_cancel,e2]
  refine WD.loop4 (q:=qq) (jX G) (by kernel_rfl) (I25 s a x l) ?_ _ _ (I25.mk 0 0 _ rfl (Nat.zero_le _) (by simp(disch:=first|omega|(apply id;simp only[push_cast];try omega))only[push_cast,simprocAttr]) (by simp(disch:=first|omega|(apply id;simp only[push_cast];try omega))only[push_cast,simprocAttr];rfl) rfl tH)
  intro m s1 hI
  cases hI with|mk i iv h hiv hi c0 c1 hl1 hl2=>
  subst hiv
  rw[rQ0]
  unfold trV qD
  by_cases hil:(i:Int)<l.length
  ·obtain ⟨t,ht⟩:=qJ (l:=l) (i:=i) (by omega)
   have hpt:=qV ht
   have hle2:i*9+9≤l.length*9:=by omega
   have hbl:=iJ0 x (l.take i).reverse
   have hbt:(bD x (l.take i).reverse).take 9=bD x (l.take i).reverse:=List.take_of_length_le (by rw[hbl];omega)
   have hbd:(bD x (l.take i).reverse).drop 9=[]:=List.drop_of_length_le (by rw[hbl];omega)
   have hbo:=iI0 x (l.take i).reverse
   simp(disch:=first|omega|(apply id;simp only[push_cast];try omega))only[push_cast,simprocAttr,hil,Int.toNat_natCast,hpt,hle2,hl1,c1,hbl,hbt,hbd,hbo,↓row2]
   exact ⟨_,by omega,I25.mk (i+1) _ _ (by first|rfl|omega) (by omega) (by first|assumption|(simp(disch:=first|omega|(apply id;simp only[push_cast];try omega))only[push_cast,simprocAttr,c0];try omega)) (by rw[cR1 l ht,bD];simp(disch:=first|omega|(apply id;simp only[push_cast];try omega))only[push_cast,simprocAttr]) (by first|assumption|(simp(disch:=first|omega|(apply id;simp only[push_cast];try omega))only[push_cast,simprocAttr,hl1];try omega)) tH⟩
  ·have hie:i=l.length:=by omega
   subst hie
   rw[List.take_length] at c1
   have hbl:=iJ0 x l.reverse
   have hbt:(bD x l.reverse).take 9=bD x l.reverse:=List.take_of_length_le (by rw[hbl];omega)
   have hbd:(bD x l.reverse).drop 9=[]:=List.drop_of_length_le (by rw[hbl];omega)
   have hbo:=iI0 x l.reverse
   simp(disch:=first|omega|(apply id;simp only[push_cast];try omega))only[push_cast,simprocAttr,hil]
   rw[rP0]
   simp(disch:=first|omega|(apply id;simp only[push_cast];try omega))only[push_cast,simprocAttr,c1,hbl,hbt,hl1]
   have hA:=pA0 G s a hs
   unfold trV at hA
   refine dK (hA) ?_
   simp(disch:=first|omega|(apply id;simp only[push_cast];try omega))only[push_cast,simprocAttr,c0,hl1,hbl,hbo,hbt,hbd]
   refine .tup (.cons (.agg (oW0 G _ H0q _ x _)) (.cons (.id (nH0 _ H0q _ _ _)) .nil))
mutual
def anyT:Tm→Bool
 | .mk k _ _ _ _ l=>decide (k=14) || eW1 l
def eW1:List Tm→Bool
 | []=>false
 | x :: l=>anyT x || eW1 l
end
theorem uV1 (v st p:Int) (x:Tm) (hs:smT x=true):jI (pp G) H0 23 [tmV x,.int .i64 v,.int .i64 st,.int .i64 p] (.bool (wW v st p false x)):=by
 refine cE G fir23 (by kernel_rfl) (mY0 ..) fun hlo=>?_;rw[pU1]
 simp(disch:=first|omega|(apply id;simp only[push_cast];try omega))only[push_cast,simprocAttr]
 refine dK (rt_f G v st p x false hs) ?_
 simp(disch:=first|omega|(apply id;simp only[push_cast];try omega))only[push_cast,simprocAttr]
 exact .id rfl
def idxF (g:Tm→Bool):List Tm→Nat→Int
 | [],_=>-1
 | x :: l,i=>if g x=true then i else idxF g l (i+1)
theorem oF0 (g:Tm→Bool):∀ (l:List Tm) (i:Nat),decide (0≤idxF g l i)=l.any g
 | [],_=>rfl
 | x :: l,i=>by
  rw[idxF,List.any_cons]
  split
  ·rename_i h;rw[h];simp
  ·rename_i h;rw[oF0 g l (i+1)];simp[h]
theorem kM1 (g:Tm→Bool) {l:List Tm} {i:Nat} {x:Tm} (h:l[i]?=some x):idxF g (l.drop i) i=if g x=true then (i:Int) else idxF g (l.drop (i+1)) (i+1):=by
 obtain ⟨hi,hx⟩:=List.getElem?_eq_some_iff.1 h
 rw[List.drop_eq_getElem_cons hi,idxF,hx]
inductive J109 (l:List Tm) (fv:Value) (g:Tm→Bool):Nat→S→Prop
 | mk (i:Nat) (iv:Int) (h:jA) {x2 x3 x4 x5 x6 x9 xA xB xC xD xE xF xG xH xI:Value} (hiv:iv=(i:Int)) (hi:i≤l.length) (hx:idxF g l 0=idxF g (l.drop i) i) (hl1:h.lo=1) (hl2:1≤h.next) :
  J109 l fv g (l.length-i) ⟨(F19 (qD l) fv x2 x3 x4 x5 x6 (.int .i64 l.length) (.int .i64 iv) x9 xA xB xC xD xE xF xG xH xI),[],h⟩
theorem sT1 (l:List Tm) (f:FuncId) (g:Tm→Bool) (hll:l.length<100000000000) (hf:∀ x∈l,jI (pp G) H0 f [tmV x] (.bool (g x))) :
  jI (pp G) H0 62 [qD l,.func (.func f) #[] #[]] (.int .i64 (idxF g l 0)):=by
 refine cE G fir62 (by kernel_rfl) (eI0 ..) fun hlo=>?_;rw[oK1]
 unfold qD
 simp(disch:=first|omega|(apply id;simp only[push_cast];try omega))only[push_cast,simprocAttr]
 refine WD.loop4 (q:=qq) (jX G) (by kernel_rfl) (J109 l (.func (.func f) #[] #[]) g) ?_ _ _ (J109.mk 0 0 _ rfl (Nat.zero_le _) rfl rfl tH)
 intro m s1 hI
 cases hI with|mk i iv h hiv hi hx hl1 hl2=>
 subst hiv
 rw[pU0]
 unfold qD
 by_cases hil:(i:Int)<l.length
 ·obtain ⟨x,hxx⟩:=qJ (l:=l) (i:=i) (by omega)
  have hp:=qV hxx
  have hle2:i*9+9≤l.length*9:=by omega
  simp(disch:=first|omega|(apply id;simp only[push_cast];try omega))only[push_cast,simprocAttr,hil,Int.toNat_natCast,hp,hle2,hl1]
  refine dK (hf x (List.mem_of_getElem? hxx)) ?_
  rw[kM1 g hxx] at hx
  cases hg:g x with
  | true=>
   rw[if_pos hg] at hx
   simp(disch:=first|omega|(apply id;simp only[push_cast];try omega))only[push_cast,simprocAttr,hx]
   exact .id rfl
  | false=>
   rw[if_neg (by rw[hg];simp)] at hx
   simp(disch:=first|omega|(apply id;simp only[push_cast];try omega))only[push_cast,simprocAttr]
   exact ⟨_,by omega,J109.mk (i+1) _ _ (by first|rfl|omega) (by omega) hx (by first|assumption|(simp(disch:=first|omega|(apply id;simp only[push_cast];try omega))only[push_cast,simprocAttr,hl1];try omega)) tH⟩
 ·obtain rfl:i=l.length:=by omega
  rw[List.drop_length] at hx
  simp(disch:=first|omega|(apply id;simp only[push_cast];try omega))only[push_cast,simprocAttr,hil]
  rw[pT0]
  rw[hx]
  simp(disch:=first|omega|(apply id;simp only[push_cast];try omega))only[push_cast,simprocAttr]
  exact .id rfl
theorem sV0 (l:List Tm) (f:FuncId) (g:Tm→Bool) (hll:l.length<100000000000) (hf:∀ x∈l,jI (pp G) H0 f [tmV x] (.bool (g x))) :
  jI (pp G) H0 44 [qD l,.func (.func f) #[] #[]] (.bool (l.any g)):=by
 refine cE G fir44 (by kernel_rfl) (pB0 ..) fun hlo=>?_;rw[pB1]
 simp(disch:=first|omega|(apply id;simp only[push_cast];try omega))only[push_cast,simprocAttr]
 refine dK (sT1 G l f g hll hf) ?_
 rw[← oF0 g l 0]
 simp(disch:=first|omega|(apply id;simp only[push_cast];try omega))only[push_cast,simprocAttr]
 exact .id rfl
theorem iK0:∀ l:List Tm,eW1 l=l.any anyT
 | []=>rfl
 | x :: l=>by rw[eW1,iK0 l];rfl
theorem eO0:∀ t:Tm,smT t=true→jI (pp G) H0 24 [tmV t] (.bool (anyT t))
 | .mk k a b s e l,hs=>by
  simp only[smT,Bool.and_eq_true,decide_eq_true_eq] at hs
  have hsl:=hs.1.1
  have ih:∀ x∈l,jI (pp G) H0 24 [tmV x] (.bool (anyT x)):=fun x hx=>eO0 x (qA hs.2 x hx)
  have hc:=sV0 G l 24 anyT hsl ih
  unfold qD at hc
  refine cE G fir24 (by kernel_rfl) (qP2 ..) fun hlo=>?_;rw[pT1]
  rw[anyT,iK0]
  by_cases hk:k=14
  ·subst hk
   simp(disch:=first|omega|(apply id;simp only[push_cast];try omega))only[push_cast,simprocAttr]
   exact kX0 rfl rfl
  ·rw[decide_eq_false hk,Bool.false_or]
   simp(disch:=first|omega|(apply id;simp only[push_cast];try omega))only[push_cast,simprocAttr,hk]
   refine dK (hc) ?_
   simp(disch:=first|omega|(apply id;simp only[push_cast];try omega))only[push_cast,simprocAttr]
   exact kX0 rfl rfl
 termination_by x=>SizeOf.sizeOf x
def okT (c:Co) (x:Tm):Bool:=wW c.v.length c.s c.p.length false x&&(!anyT x&&decide (W (zP0 x)≤2000))
def chkC (c:Co):Bool:=decide (c.v.length≤20∧0≤c.s∧c.s≤10∧c.p.length≤20∧0≤c.m∧c.m<c.p.length)&&c.p.all (okT c)
theorem bZ0 {c:Co} (h:¬ (c.v.length≤20∧0≤c.s∧c.s≤10∧c.p.length≤20∧0≤c.m∧c.m<c.p.length)):chkC c=false:=by
 unfold chkC;rw[decide_eq_false h];rfl
theorem jI2 {c:Co} {x:Tm} (hx:x∈c.p) (h:okT c x=false):chkC c=false:=by
 unfold chkC
 rw[show c.p.all (okT c)=false from List.all_eq_false.2 ⟨x,hx,by rw[h];simp⟩,Bool.and_false]
structure SmC (c:Co):Prop where
 v:c.v.length<100000000000
 p:c.p.length<100000000000
 t:smTs c.p=true
inductive J14 (c:Co):Nat→S→Prop
 | mk (i:Nat) (iv:Int) (h:jA) {x0 x2 x3 x4 x5 x6 x7 x8 x9 xA xB xC xD xE xF xG xH xI xJ xK xL xM xN xO xP xQ xR xS xT xU xV xW xX xY xZ yA yB yC yG yH yI yJ yK yL yM yN yO yP yQ yR yS yT yU yV yW yX yY yZ zA zB zC zD:Value} (hiv:iv=(i:Int)) (hi:i≤c.p.length) (hok:(c.p.take i).all (okT c)=true) (c0:cells h 1=some (coC c,31,false)) (hl1:h.lo=1) (hl2:2≤h.next) :
  J14 c (c.p.length-i) ⟨(F66 x0 (.pointer (some ⟨1,0,none⟩)) x2 x3 x4 x5 x6 x7 x8 x9 xA xB xC xD xE xF xG xH xI xJ xK xL xM xN xO xP xQ xR xS xT xU xV xW xX xY xZ yA yB yC (qD c.p) (.int .i64 c.p.length) (.int .i64 iv) yG yH yI yJ yK yL yM yN yO yP yQ yR yS yT yU yV yW yX yY yZ zA zB zC zD),[],h⟩
theorem yW1 (c:Co) (hc:SmC c):jI (pp G) H0 11 [coV c] (.bool (chkC c)):=by
 obtain ⟨hv,hp,ht⟩:=hc
 refine cE G fir11 (by kernel_rfl) (qA2 ..) fun hlo=>?_;rw[rF1]
 by_cases h1:(c.v.length:Int) > 20
 ·rw[bZ0 (by omega)]
  unfold coV coC ivV qD
  simp(disch:=first|omega|(apply id;simp only[push_cast];try omega))only[push_cast,simprocAttr,h1]
  exact kX0 rfl rfl
 by_cases h2:c.s<0
 ·rw[bZ0 (by omega)]
  unfold coV coC ivV qD
  simp(disch:=first|omega|(apply id;simp only[push_cast];try omega))only[push_cast,simprocAttr,h1,h2]
  exact kX0 rfl rfl
 by_cases h3:c.s > 10
 ·rw[bZ0 (by omega)]
  unfold coV coC ivV qD
  simp(disch:=first|omega|(apply id;simp only[push_cast];try omega))only[push_cast,simprocAttr,h1,h2,h3]
  exact kX0 rfl rfl
 by_cases h4:(c.p.length:Int) > 20
 ·rw[bZ0 (by omega)]
  unfold coV coC ivV qD
  simp(disch:=first|omega|(apply id;simp only[push_cast];try omega))only[push_cast,simprocAttr,h1,h2,h3,h4]
  exact kX0 rfl rfl
 by_cases h5:c.m<0
 ·rw[bZ0 (by omega)]
  unfold coV coC ivV qD
  simp(disch:=first|omega|(apply id;simp only[push_cast];try omega))only[push_cast,simprocAttr,h1,h2,h3,h4,h5]
  exact kX0 rfl rfl
 by_cases h6:c.m ≥ (c.p.length:Int)
 ·rw[bZ0 (by omega)]
  unfold coV coC ivV qD
  simp(disch:=first|omega|(apply id;simp only[push_cast];try omega))only[push_cast,simprocAttr,h1,h2,h3,h4,h5,h6]
  exact kX0 rfl rfl
 have hd:chkC c=c.p.all (okT c):=by unfold chkC;rw[decide_eq_true (by omega)];rfl
 unfold coV coC ivV qD
 simp(disch:=first|omega|(apply id;simp only[push_cast];try omega))only[push_cast,simprocAttr,h1,h2,h3,h4,h5,h6]
 refine WD.loop4 (q:=qq) (jX G) (by kernel_rfl) (J14 c) ?_ _ _ (J14.mk 0 0 _ rfl (Nat.zero_le _) rfl (by unfold coC ivV qD;simp(disch:=first|omega|(apply id;simp only[push_cast];try omega))only[push_cast,simprocAttr]) tH tH)
 intro m s1 hI
 cases hI with|mk i iv h hiv hi hok c0 hl1 hl2=>
 subst hiv
 rw[sE0]
 have c0':=c0
 unfold coC ivV qD at c0'
 by_cases hil:(i:Int)<c.p.length
 ·obtain ⟨x,hx⟩:=qJ (l:=c.p) (i:=i) (by omega)
  have hxm:=List.mem_of_getElem? hx
  have hxs:=qA ht x hxm
  have hpx:=qV hx
  have hle2:i*9+9≤c.p.length*9:=by omega
  unfold qD
  simp(disch:=first|omega|(apply id;simp only[push_cast];try omega))only[push_cast,simprocAttr,hil,Int.toNat_natCast,hpx,hle2,hl1,c0']
  have hbad:okT c x=false→chkC c=false:=jI2 hxm
  refine dK (uV1 G c.v.length c.s c.p.length x hxs) ?_
  cases hr:wW c.v.length c.s c.p.length false x with
  | false=>
   simp(disch:=first|omega|(apply id;simp only[push_cast];try omega))only[push_cast,simprocAttr]
   rw[hbad (by unfold okT;rw[hr];rfl)]
   exact kX0 rfl rfl
  | true=>
  simp(disch:=first|omega|(apply id;simp only[push_cast];try omega))only[push_cast,simprocAttr]
  refine dK (eO0 G x hxs) ?_
  cases ha:anyT x with
  | true=>
   simp(disch:=first|omega|(apply id;simp only[push_cast];try omega))only[push_cast,simprocAttr]
   rw[hbad (by unfold okT;rw[hr,ha];rfl)]
   exact kX0 rfl rfl
  | false=>
  simp(disch:=first|omega|(apply id;simp only[push_cast];try omega))only[push_cast,simprocAttr]
  refine dK (nO0 G x hxs) ?_
  by_cases hz:W (zP0 x) > 2000
  ·simp(disch:=first|omega|(apply id;simp only[push_cast];try omega))only[push_cast,simprocAttr,hz]
   rw[hbad (by unfold okT;rw[hr,ha,decide_eq_false (by omega)];rfl)]
   exact kX0 rfl rfl
  ·simp(disch:=first|omega|(apply id;simp only[push_cast];try omega))only[push_cast,simprocAttr,hz]
   exact ⟨_,by omega,J14.mk (i+1) _ _ (by first|rfl|omega) (by omega) (by rw[qL hx,List.all_append,hok,List.all_cons,List.all_nil];unfold okT;rw[hr,ha,decide_eq_true (by omega)];rfl) (by first|assumption|(simp(disch:=first|omega|(apply id;simp only[push_cast];try omega))only[push_cast,simprocAttr,c0];try omega)) (by first|assumption|(simp(disch:=first|omega|(apply id;simp only[push_cast];try omega))only[push_cast,simprocAttr,hl1];try omega)) tH⟩
 ·obtain rfl:i=c.p.length:=by omega
  rw[List.take_length] at hok
  unfold qD
  simp(disch:=first|omega|(apply id;simp only[push_cast];try omega))only[push_cast,simprocAttr,hil]
  rw[sD0]
  rw[hd,hok]
  simp(disch:=first|omega|(apply id;simp only[push_cast];try omega))only[push_cast,simprocAttr]
  exact kX0 rfl rfl
end
end Go.Proofs.YtdcjpmjmjinjmaaDoor
