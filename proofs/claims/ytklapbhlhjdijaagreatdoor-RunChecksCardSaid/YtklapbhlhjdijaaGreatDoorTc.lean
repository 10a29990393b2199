/-
  A part of the proof: what the program's functions hand back,as theorems. No condition but those that each theorem names.
-/
import Derived.Test.YtklapbhlhjdijaaGreatDoorTa
import Derived.Test.YtklapbhlhjdijaaGreatDoorTb
import Derived.Test.YtklapbhlhjdijaaGreatDoorExc
set_option linter.unusedSimpArgs false
set_option linter.unusedVariables false
namespace Go.Proofs.YtklapbhlhjdijaaGreatDoor
open _root_.Go.Proofs.Tryz (prog)
open Go Go.RowKit Go.Ev Go.Dv
noncomputable section
attribute [local push_cast] eq_self iff_self
set_option maxRecDepth 100000
variable (G:Nat×Nat)
def tmH (k a b:Int)(s:List Zu)(e:Ex)(L:Z6):List Z6:=[.int .i64 k,.int .i64 a,.int .i64 b,.string (Tx s),.int .i64 e.k,.int .i64 e.n,.string (Tx e.s),Rw false eE e.l.length (gN e.l),L]
inductive NTs (σ:jA):Nat→Nat→Tm→List Z6→Prop
 | leaf {lo hi:Nat} {t:Tm} (h:lo≤hi) (h12:t.k≠12) (h11:t.k≠11) (h7:t.k≠7):NTs σ lo hi t (tmC t)
 | blk {lo hi b : Nat} {a b' : Int} {s : List Zu} {e : Ex} {x : Tm} {cx : List Z6} (hx : NTs σ lo b x cx) (hc : cells σ b = some (cx, etm, false)) (hb : b < hi) :
   NTs σ lo hi (.mk 7 a b' s e [x]) (tmH 7 a b' s e (.slice (some ⟨b,0,none⟩) 1 1))
 | seq {lo hi b : Nat} {a b' : Int} {s : List Zu} {e : Ex} {x y : Tm} {cx : List Z6} (hx : NTs σ lo b x cx) (hc : cells σ b = some (cx ++ tmC y, etm, false)) (hb : b < hi) :
   NTs σ lo hi (.mk 12 a b' s e [x,y]) (tmH 12 a b' s e (.slice (some ⟨b,0,none⟩) 2 2))
 | par {lo m hi b : Nat} {a b' : Int} {s : List Zu} {e : Ex} {x y : Tm} {cx cy : List Z6} (hx : NTs σ lo m x cx) (hy : NTs σ m b y cy) (hc : cells σ b = some (cx ++ cy, etm, false)) (hb : b < hi) :
   NTs σ lo hi (.mk 11 a b' s e [x,y]) (tmH 11 a b' s e (.slice (some ⟨b,0,none⟩) 2 2))
theorem NTs.le {σ:jA}{lo hi:Nat}{t:Tm}{c:List Z6}(h:NTs σ lo hi t c):lo≤hi:=by
 induction h<;>omega
theorem NTs.len {σ:jA}{lo hi:Nat}{t:Tm}{c:List Z6}(h:NTs σ lo hi t c):c.length=9:=by
 cases h<;>first|exact bV _|rfl
theorem NTs.one {σ:jA}{lo hi:Nat}{t:Tm}{c:List Z6}(h:NTs σ lo hi t c):c.all one=true:=by
 cases h<;>first|exact gO0 _|rfl
theorem NTs.mono {σ:jA}{lo hi:Nat}{t:Tm}{c:List Z6}(h:NTs σ lo hi t c):∀ {lo' hi':Nat},lo'≤lo→hi≤hi'→NTs σ lo' hi' t c:=by
 induction h with
 | leaf h e i n=>intro lo' hi' a f;exact .leaf Z0 e i n
 | blk j b k g=>intro lo' hi' a f;exact .blk (g a (Z3 _)) b Z0
 | seq j b k g=>intro lo' hi' a f;exact .seq (g a (Z3 _)) b Z0
 | par j l b k d m=>intro lo' hi' a f;exact .par (d a (Z3 _)) l b Z0
theorem NTs.grew {σ σ':jA}{S:Nat→Prop}{lo hi:Nat}{t:Tm}{c:List Z6}(h:NTs σ lo hi t c)(g:jC σ σ' S)(b:∀ k,lo≤k→k<hi→¬ S k)(r:hi≤σ.next):NTs σ' lo hi t c:=by
 induction h with
 | leaf h j o q=>exact .leaf h j o q
 | blk e f a n=>
  have:=e.le
  exact .blk (n (λk d m=>b k d Z0) Z0) ((g.cells Z0 (b _ Z0 a)).trans f) a
 | seq e f a n=>
  have:=e.le
  exact .seq (n (λk d m=>b k d Z0) Z0) ((g.cells Z0 (b _ Z0 a)).trans f) a
 | par e p f a i l=>
  have:=e.le
  have:=p.le
  exact .par (i (λk d m=>b k d Z0) Z0) (l (λk d m=>b k Z0 Z0) Z0) ((g.cells Z0 (b _ Z0 a)).trans f) a
theorem gL0 {P:Z9}{n:Nat}{σ:jA}{L D:Z6}(k a b:Int)(s:List Zu)(e:Ex)(c:0<n)(h:FzV P n σ L D):FzL P n σ (tmH k a b s e L) (tmH k a b s e D):=
 .cons (.id rfl) (.cons (.id rfl) (.cons (.id rfl) (.cons (.id rfl) (.cons (.id rfl) (.cons (.id rfl) (.cons (.id rfl) (.cons (.id (bT0 _ c ..)) (.cons h .nil))))))))
theorem bD0 {P:Z9}{n:Nat}{σ:jA}{b m:Nat}{cs:List Z6}{l:List Tm}(a:szT P etm=some 9)(f:n≤b)(c:cells σ b=some (cs,etm,false))(e:l.length=m)(g:m<100)(d:FzL P n σ cs (jX l))(h:cs.length=m*9):FzV P n σ (.slice (some ⟨b,0,none⟩) m m) (Rw false etm l.length (jX l)):=by
 subst e
 refine .sl f c a Z1 Z0 (.inl ⟨by simp only[UC];omega,Z3 _⟩) ?_
 rw[List.drop_zero,List.take_of_length_le Z0]
 exact d
theorem NTs.fz {P:Z9}(p:szT P etm=some 9){n:Nat}(g:0<n){σ:jA}{lo hi:Nat}{t:Tm}{c:List Z6}(h:NTs σ lo hi t c)(f:n≤lo):FzL P n σ c (tmC t):=by
 induction h with
 | leaf=>exact .ids (gN0 n g _)
 | blk d i r o=>
  have:=d.le
  exact gL0 _ _ _ _ _ g (bD0 p Z0 i rfl Z1 (by rw[wP0];exact o f) (by rw[d.len]))
 | @seq lo hi b a b' s e x y u d i r o=>
  have:=d.le
  refine gL0 _ _ _ _ _ g (bD0 (l:=[x,y]) p Z0 i rfl Z1 ?_ (by rw[List.length_append,d.len,bV]))
  rw[show jX [x,y]=tmC x++tmC y by rw[jX,wP0]]
  exact (o f).app (.ids (gN0 n g _))
 | @par lo m hi b a b' s e x y u v d q i r j k=>
  have:=d.le
  have:=q.le
  refine gL0 _ _ _ _ _ g (bD0 (l:=[x,y]) p Z0 i rfl Z1 ?_ (by rw[List.length_append,d.len,q.len]))
  rw[show jX [x,y]=tmC x++tmC y by rw[jX,wP0]]
  exact (j f).app (k Z0)
def atT:Tm→List Int→Tm
 | t,[]=>t
 | .mk _ _ _ _ _ l,i :: p=>atT (l.getD i.toNat zT) p
def putT:Tm→List Int→Tm→Tm
 | _,[],x=>x
 | .mk k a b s e l,i :: p,x=>.mk k a b s e (l.set i.toNat (putT (l.getD i.toNat zT) p x))
inductive dB:Tm→List Int→Prop
 | nil {t:Tm}:dB t []
 | blk {a b:Int} {s:List Zu} {e:Ex} {x:Tm} {p:List Int} (h:dB x p):dB (.mk 7 a b s e [x]) (0 :: p)
 | seq {a b:Int} {s:List Zu} {e:Ex} {x y:Tm} {p:List Int} (h:dB x p):dB (.mk 12 a b s e [x,y]) (0 :: p)
 | parl {a b:Int} {s:List Zu} {e:Ex} {x y:Tm} {p:List Int} (h:dB x p):dB (.mk 11 a b s e [x,y]) (0 :: p)
 | parr {a b:Int} {s:List Zu} {e:Ex} {x y:Tm} {p:List Int} (h:dB y p):dB (.mk 11 a b s e [x,y]) (1 :: p)
structure LocT (σ:jA)(b off lo hi:Nat)(full:List Z6)(ty:Nat)(t:Tm)(c:List Z6):Prop where
 lc:cells σ b=some (full,ty,false)
 lw:off+9≤full.length
 lh:b<lo∨hi≤b
 ln:b<σ.next
 le:(full.drop off).take 9=c
 lt:NTs σ lo hi t c
 lp:0<b
 lg:hi≤σ.next
def Wr (P:Z9)(n:Nat)(O:Nat→Prop)(σ:jA)(b off:Nat)(full:List Z6)(ty:Nat)(t:Tm)(p:List Int)(g i f a:Nat)(h:List Z6)(d:Nat):Prop:=
 ∀ (σ':jA) (y:Tm) (c:List Z6),c.length=9→jC σ σ' (λk=>(k=g∨(f≤k∧k<a))∨O k)→cells σ' g=some (setFrom h i c,d,false)→FzL P n σ' c (tmC y)→
  ∃ e,e.length=9∧cells σ' b=some (setFrom full off e,ty,false)∧FzL P n σ' e (tmC (putT t p y))
theorem lQ0 {full c:List Z6}{off:Nat}(h:(full.drop off).take 9=c)(a:c.length=9):setFrom full off c=full:=by
 unfold setFrom
 rw[a,← h,← List.drop_drop,List.append_assoc,List.take_append_drop,List.take_append_drop]
theorem Wr.self {P:Z9}{n:Nat}{O:Nat→Prop}{σ:jA}{b off lo hi:Nat}{full:List Z6}{ty:Nat}{t:Tm}:Wr P n O σ b off full ty t [] b off lo hi full ty:=
 λσ' y h d _ c a=>⟨h,d,c,a⟩
theorem zP0:∀ (t:Tm) (p q:List Int) (y:Tm),dB t p→putT t (p++q) y=putT t p (putT (atT t p) q y)
 | t,[],q,y,_=>by simp[putT,atT]
 | .mk k a b s e l,i :: p,q,y,h=>by
  cases h with
  | blk h=>exact congrArg (λz=>Tm.mk 7 a b s e [z]) (zP0 _ p q y h)
  | @seq _ _ _ _ x z _ h=>exact congrArg (λw=>Tm.mk 12 a b s e [w,z]) (zP0 _ p q y h)
  | @parl _ _ _ _ x z _ h=>exact congrArg (λw=>Tm.mk 11 a b s e [w,z]) (zP0 _ p q y h)
  | @parr _ _ _ _ x z _ h=>exact congrArg (λw=>Tm.mk 11 a b s e [x,w]) (zP0 _ p q y h)
theorem Wr.trans {P:Z9}{n:Nat}{O:Nat→Prop}{σ:jA}{b off:Nat}{full:List Z6}{ty:Nat}{t:Tm}{p q:List Int}{f r j l:Nat}{h:List Z6}{d:Nat}{c o m i:Nat}{a:List Z6}{e:Nat}
  (F:dB t p) (u:Wr P n O σ b off full ty t p f r j l h d) (E:Wr P n O σ f r h d (atT t p) q c o m i a e) (H:c=f∨(j≤c∧c<l)) (J:j≤m) (M:i≤l) :
  Wr P n O σ b off full ty t (p++q) c o m i a e:=by
 intro σ' y w x g D v
 obtain ⟨z,C,I,A⟩:=E σ' y w x g D v
 rw[zP0 t p q y F]
 exact u σ' _ z C (g.mono λk _ B=>by
  rcases B with (rfl|⟨K,L⟩)|s
  ·exact .inl H
  ·exact .inl (.inr ⟨Z0,Z0⟩)
  ·exact .inr s) I A
theorem LocT.step {P:Z9}(R:szT P etm=some 9){n:Nat}(I:0<n){O:Nat→Prop}{σ:jA}{b off lo hi:Nat}(N:∀ k,O k→k≠b∧(k<lo∨hi≤k)){full:List Z6}{ty:Nat}{t:Tm}{c:List Z6}(h:LocT σ b off lo hi full ty t c)(hlo:n≤lo){i:Int}{p:List Int}(V:dB t (i :: p)) :
  ∃ (o m F K:Nat) (j:List Z6) (x:Tm) (f:List Z6),c[8]?=some (.slice (some ⟨o,0,none⟩) m m)∧0≤i∧i<m∧j.length=m*9∧x=atT t [i]∧dB t [i]∧LocT σ o (i.toNat*9) F K j etm x f∧lo≤F∧lo≤o∧o<hi∧
   K≤hi∧Wr P n O σ b off full ty t [i] o (i.toNat*9) F K j etm∧dB x p:=by
 obtain ⟨hc,hw,hhi,hnx,he,ht,hbp,hgn⟩:=h
 have hs:=lQ0 he ht.len
 have A:∀ (σ':jA) (S:Nat→Prop),jC σ σ' S→¬ S b→cells σ' b=some (setFrom full off c,ty,false):=λσ' S g hS=>by rw[hs];exact (g.cells hnx hS).trans hc
 cases ht with
 | leaf h X h11 h7=>
  cases V<;>first|exact absurd rfl h7|exact absurd rfl X|exact absurd rfl h11
 | @blk _ _ o a b' s e x f d q T=>
  cases V with
  | blk J=>
   have u:=d.le
   refine ⟨o,1,lo,o,f,x,f,rfl,by decide,by decide,by rw[d.len],rfl,.blk .nil,⟨q,by rw[d.len];decide,.inr (Z3 _),Z0,by rw[show (0:Int).toNat*9=0 from rfl,List.drop_zero,List.take_of_length_le (by rw[d.len];exact Z3 _)],d,Z0,Z0⟩,Z3 _,u,T,Z0,?_,J⟩
   intro σ' y v w g r H
   rw[show setFrom f ((0:Int).toNat*9) v=v by unfold setFrom;rw[show (0:Int).toNat*9=0 from rfl,List.take_zero,List.nil_append,List.drop_of_length_le (by rw[d.len];omega),List.append_nil]] at r
   exact ⟨_,rfl,A σ' _ g (λL=>L.elim Z0 λE=>(N _ E).1 rfl),gL0 _ _ _ _ _ I (bD0 (l:=[y]) R Z0 r rfl Z1 (by rw[wP0];exact H) (by rw[w]))⟩
 | @seq _ _ o a b' s e x y f d q T=>
  cases V with
  | seq J=>
   have u:=d.le
   have C:(f++tmC y).length=18:=by rw[List.length_append,d.len,bV]
   refine ⟨o,2,lo,o,f++tmC y,x,f,rfl,by decide,by decide,C,rfl,.seq .nil,⟨q,by rw[C];decide,.inr (Z3 _),Z0,by rw[show (0:Int).toNat*9=0 from rfl,List.drop_zero,List.take_left' d.len],d,Z0,Z0⟩,Z3 _,u,T,Z0,?_,J⟩
   intro σ' z D w g r H
   rw[show setFrom (f++tmC y) ((0:Int).toNat*9) D=D++tmC y by unfold setFrom;rw[show (0:Int).toNat*9=0 from rfl,List.take_zero,List.nil_append,w,Nat.zero_add,List.drop_left' d.len]] at r
   refine ⟨_,rfl,A σ' _ g (λL=>L.elim Z0 λE=>(N _ E).1 rfl),gL0 _ _ _ _ _ I (bD0 (l:=[z,y]) R Z0 r rfl Z1 ?_ (by rw[List.length_append,w,bV]))⟩
   rw[show jX [z,y]=tmC z++tmC y by rw[jX,wP0]]
   exact H.app (.ids (gN0 n I _))
 | @par _ m _ o a b' s e x y f v d M q T=>
  have u:=d.le
  have Z:=M.le
  have C:(f++v).length=18:=by rw[List.length_append,d.len,M.len]
  cases V with
  | parl J=>
   refine ⟨o,2,lo,m,f++v,x,f,rfl,by decide,by decide,C,rfl,.parl .nil,⟨q,by rw[C];decide,.inr Z,Z0,by rw[show (0:Int).toNat*9=0 from rfl,List.drop_zero,List.take_left' d.len],d,Z0,Z0⟩,Z3 _,Z0,T,Z0,?_,J⟩
   intro σ' z D w g r H
   rw[show setFrom (f++v) ((0:Int).toNat*9) D=D++v by unfold setFrom;rw[show (0:Int).toNat*9=0 from rfl,List.take_zero,List.nil_append,w,Nat.zero_add,List.drop_left' d.len]] at r
   have hy':=M.grew g (λk h1 h2 B=>B.elim (λB=>by omega) (λB=>by have:=N k B;omega)) Z0
   refine ⟨_,rfl,A σ' _ g (λL=>L.elim Z0 λE=>(N _ E).1 rfl),gL0 _ _ _ _ _ I (bD0 (l:=[z,y]) R Z0 r rfl Z1 ?_ (by rw[List.length_append,w,M.len]))⟩
   rw[show jX [z,y]=tmC z++tmC y by rw[jX,wP0]]
   exact H.app (hy'.fz R I Z0)
  | parr J=>
   refine ⟨o,2,m,o,f++v,y,v,rfl,by decide,by decide,C,rfl,.parr .nil,⟨q,by rw[C];decide,.inr (Z3 _),Z0,by rw[show (1:Int).toNat*9=9 from rfl,List.drop_left' d.len,List.take_of_length_le (by rw[M.len];exact Z3 _)],M,Z0,Z0⟩,u,Z0,T,Z0,?_,J⟩
   intro σ' z D w g r H
   rw[show setFrom (f++v) ((1:Int).toNat*9) D=f++D by unfold setFrom;rw[show (1:Int).toNat*9=9 from rfl,List.take_left' d.len,w,List.drop_of_length_le (by rw[C];omega),List.append_nil]] at r
   have Y:=d.grew g (λk h1 h2 B=>B.elim (λB=>by omega) (λB=>by have:=N k B;omega)) Z0
   refine ⟨_,rfl,A σ' _ g (λL=>L.elim Z0 λE=>(N _ E).1 rfl),gL0 _ _ _ _ _ I (bD0 (l:=[x,z]) R Z0 r rfl Z1 ?_ (by rw[List.length_append,w,d.len]))⟩
   rw[show jX [x,z]=tmC x++tmC z by rw[jX,wP0]]
   exact (Y.fz R I Z0).app H
def qn:Q:=⟨λt=>Nat.beq t 26 || Nat.beq t 1000034,H0⟩
theorem qn_r:qn.m 26=true:=rfl
theorem qn_h:qn.H=H0:=rfl
theorem qn_b:qn.m 1000034=true:=rfl
def NrP (σ:jA)(t:Tm)(v:Z6)(σ':jA):Prop:=∃ cs,v=.agg ⟨cs⟩∧NTs σ' σ.next σ'.next t cs∧jC σ σ' (λ_=>False)
theorem jL1 (k a b:Int)(s:List Zu)(e:Ex)(l:List Tm)(h:smE e=true){σ:jA}(c:σ.lo=1)(d:1≤σ.next)(q:Z8 Addr)(n m:Nat) :
  jI (pp G) H0 78 [tmV (.mk k a b s e l),.slice q n m] σ (λv σ'=>v=.agg ⟨tmH k a b s e (.slice q n m)⟩∧jC σ σ' (λ_=>False)):=by
 refine jI.fir4 (q:=qq) (jS G) dU3 Z7 rfl rfl (jH1 ..) (by first|exact Nat.le_trans (show NGG≤1 by decide) Z0) ?_;rw[iU1]
 refine S0 ?_
 refine dK (qM1 G e h) ?_
 refine S2 @nL0 c ?_
 exact ⟨rfl,(by (repeat (first|exact Gr.refl _|assumption|(refine jC.put' ?_ _ _ (by first|omega|(simp only[push_cast];omega)))|(refine jC.add' ?_ _))))⟩
theorem mB2:slT prog 26=some (etm,9,[.int .i64 0,.int .i64 0,.int .i64 0,.string (Tx []),.int .i64 0,.int .i64 0,.string (Tx []),.slice none 0 0,.slice none 0 0]):=Z7
theorem rowN {c d:List Z6}(b:c.length=9)(h:d.length=9)(e:c.all one=true)(a:d.all one=true)(σ:jA):bsD (qn.m 26) (slT prog 26) 2 [(0,.agg ⟨c⟩),(1,.agg ⟨d⟩)] σ=some (.slice (some ⟨σ.next,0,none⟩) 2 2,σ.add (O (c++d) etm false)):=by
 match c,b,d,h with
 | [x0,x1,x2,x3,x4,x5,x6,x7,x8],_,[y0,y1,y2,y3,y4,y5,y6,y7,y8],_=>
  rw[mB2,nS0 (n:=9) _ _ _ _ Z1,qn_r]
  exact uI2 (cs:=[x0,x1,x2,x3,x4,x5,x6,x7,x8]++[y0,y1,y2,y3,y4,y5,y6,y7,y8]) 2 (by rw[List.all_append,e,a];rfl)
theorem yQ3 {c:List Z6}(a:c.length=9)(h:c.all one=true)(σ:jA):bsD (qn.m 26) (slT prog 26) 1 [(0,.agg ⟨c⟩)] σ=some (.slice (some ⟨σ.next,0,none⟩) 1 1,σ.add (O c etm false)):=by
 match c,a with
 | [x0,x1,x2,x3,x4,x5,x6,x7,x8],_=>
  rw[mB2,nS0 (n:=9) _ _ _ _ Z1,qn_r]
  exact uI2 (cs:=[x0,x1,x2,x3,x4,x5,x6,x7,x8]) 1 h
theorem rowNd (y:Tm){c:List Z6}(h:c.length=9)(a:c.all one=true)(σ:jA):bsD (qn.m 26) (slT prog 26) 2 [(0,.agg ⟨c⟩),(1,tmV y)] σ=some (.slice (some ⟨σ.next,0,none⟩) 2 2,σ.add (O (c++tmC y) etm false)):=rowN h (bV y) a (gO0 y) σ
theorem NTs.k0 {σ:jA}{lo hi:Nat}{t:Tm}{c:List Z6}(h:NTs σ lo hi t c):c[0]?=some (.int .i64 t.k):=by
 cases h with
 | leaf=>exact zH0 _
 | blk=>rfl
 | seq=>rfl
 | par=>rfl
def Nrm (G:Nat×Nat)(x:Tm):Prop:=∀ σ:jA,σ.lo=1→1≤σ.next→jI (pp G) H0 39 [tmV x] σ (NrP σ (jF x))
theorem gX3 (a b:Int)(s:List Zu)(e:Ex)(x y:Tm)(Y:smE e=true)(hx:Nrm G x)(hy:Nrm G y)(J:jG (pp G) H0 79 [tmV y] (tmV y)):Nrm G (.mk 12 a b s e [x,y]):=by
 intro σ K hn
 refine jI.fir4 (q:=qn) (jS G) nE0 Z7 rfl rfl (uX0 ..) (by rw[K];exact (show NGG≤1 by decide)) ?_
 rw[uB0]
 rw[jF,if_pos rfl]
 refine S3 @qn_r @qn_b @qn_h ?_
 refine jD.func (cap:=[]) (hx _ (by rw[jP];exact K) (by rw[jB];omega)) ?_
 rintro _ c ⟨t,rfl,A,g⟩
 have C:cells c σ.next=some ([.int .i64 0,.int .i64 0,.int .i64 0,.string (Tx []),.int .i64 0,.int .i64 0,.string (Tx []),.slice none 0 0,.slice none 0 0],etm,false):=g.cellsE (qV _ _ _ _ rfl) (by rw[jB];omega) id
 have d:c.lo=1:=by rw[g.lo,jP,K]
 have L:=g.next
 rw[jB] at L A
 have H:=A.len
 have j:=A.one
 have o:t.take 9=t:=List.take_of_length_le Z0
 have r:t.drop 9=[]:=List.drop_of_length_le Z0
 have p:(Value.agg ⟨t⟩).cells.toList=t:=rfl
 have n:=A.k0
 have Z:jC σ c (λ_=>False):=(jC.add _ _ _).trans g λ_ _ h=>h
 generalize jF x=x' at *
 by_cases h0:x'.k=0
 ·rw[if_pos h0]
  push_cast(disch:=first|omega|(apply id;push_cast;try omega))[qn_r,qn_b,qn_h,H,j,o,r,p,n,h0,d,C]
  refine jD.func (cap:=[]) (hy _ (by rw[dT,jP];exact d) (by rw[jN,jB];omega)) ?_
  rintro _ l ⟨m,rfl,E,D⟩
  have P:cells l σ.next=some ([.int .i64 0,.int .i64 0,.int .i64 0,.string (Tx []),.int .i64 0,.int .i64 0,.string (Tx []),.slice none 0 0,.slice none 0 0],etm,false):=D.cellsE ((jR _ _ _ Z0).trans ((gD _ _ Z0).trans C)) (by rw[jN,jB];omega) id
  have N:l.lo=1:=by rw[D.lo,dT,jP,d]
  have R:=D.next
  rw[jN,jB] at R E
  have T:=E.len
  have B:=E.one
  have v:m.take 9=m:=List.take_of_length_le Z0
  have z:m.drop 9=[]:=List.drop_of_length_le Z0
  have u:(Value.agg ⟨m⟩).cells.toList=m:=rfl
  push_cast(disch:=first|omega|(apply id;push_cast;try omega))[qn_r,qn_b,qn_h,T,B,v,z,u,N,P]
  have F:jC c (l.put σ.next (O m etm false)) (λk=>k=σ.next):=(((jC.add _ _ _).trans (jC.put _ _ _ (S:=λk=>k=c.next) λ_=>rfl) λi hi h=>absurd h Z0).trans D λ_ _ h=>h.elim).trans (jC.put _ _ _ (S:=λk=>k=σ.next) λ_=>rfl) λ_ _ h=>h
  have I:jC σ (l.put σ.next (O m etm false)) (λ_=>False):=Z.trans F λi hi h=>absurd h Z0
  refine ⟨m,rfl,NTs.mono (NTs.grew E (jC.put _ _ _ (S:=λk=>k=σ.next) λ_=>rfl) (λk h1 h2=>(by omega:¬ k=σ.next)) (Z3 _)) Z0 (by rw[jN];exact Z3 _),I⟩
 ·rw[if_neg (by exact h0)]
  push_cast(disch:=first|omega|(apply id;push_cast;try omega))[qn_r,qn_b,qn_h,H,j,o,r,p,n,h0,d,C]
  refine dK (J) ?_
  push_cast(disch:=first|omega|(apply id;push_cast;try omega))[qn_r,qn_b,qn_h,H,j,o,r,p,n,h0,d,C,↓rowNd y H j]
  refine jD.func (cap:=[]) (jL1 G 12 a b s e [x,y] Y (by rw[jP,dT,jP];exact d) (by rw[jB,jN,jB];omega) _ 2 2) ?_
  rintro _ f ⟨rfl,w⟩
  have P:cells f σ.next=some ([.int .i64 0,.int .i64 0,.int .i64 0,.string (Tx []),.int .i64 0,.int .i64 0,.string (Tx []),.slice none 0 0,.slice none 0 0],etm,false):=w.cellsE ((gD _ _ (by rw[jN,jB];omega)).trans ((jR _ _ _ Z0).trans ((gD _ _ Z0).trans C))) (by rw[jB,jN,jB];omega) id
  have c2:cells f (c.next+1)=some (t++tmC y,etm,false):=w.cellsE (qV _ _ _ _ (by rw[jN,jB])) (by rw[jB,jN,jB];omega) id
  have M:f.lo=1:=by rw[w.lo,jP,dT,jP,d]
  have V:=w.next
  rw[jB,jN,jB] at V
  unfold tmH
  refine S5 @qn_r @qn_b @qn_h P M ?_
  have F:∀ X,jC c (f.put σ.next X) (λk=>k=σ.next):=λX=>((((jC.add _ _ _).trans (jC.put _ _ _ (S:=λk=>k=c.next) λ_=>rfl) λi hi h=>absurd h Z0).trans (jC.add _ _ _) λ_ _ h=>h).trans w λ_ _ h=>h.elim).trans (jC.put _ _ _ (S:=λk=>k=σ.next) λ_=>rfl) λ_ _ h=>h
  have I:∀ X,jC σ (f.put σ.next X) (λ_=>False):=λX=>Z.trans (F X) λi hi h=>absurd h Z0
  exact ⟨_,rfl,NTs.seq (b:=c.next+1) (NTs.mono (NTs.grew A (F _) (λk h1 h2=>(by omega:¬ k=σ.next)) (Z3 _)) Z0 Z0) ((jR _ _ _ Z0).trans c2) (by rw[jN];omega),I _⟩
@[reducible] def ZC:List Z6:=[.int .i64 0,.int .i64 0,.int .i64 0,.string (Tx []),.int .i64 0,.int .i64 0,.string (Tx []),.slice none 0 0,.slice none 0 0]
theorem NTs.up {a b:jA}{L M:Nat}{t:Tm}{c:List Z6}(h:NTs a L M t c)(g:jC a b (λk=>k<L∨M≤k))(d:M≤a.next):NTs b L M t c:=
 NTs.grew h g (λk i f e=>by cases e<;>omega) d
theorem nrm_j (a b:Int)(s:List Zu)(e:Ex)(x y:Tm)(V:smE e=true){σ0 σ:jA}{Y Z lo m hi:Nat}{x' N:Tm}{t r:List Z6}{x0 x3 x6 x7 x8 x9 xA xB xC xD xE xF xG xH xI xJ xK xL xM xN xO xP xQ xR xS xT xU xV xW xX xY xZ yA yB yC yD yE yF yG yH yI yJ yK yL yM yN yO yP yQ yR yS yT yU yV yW yX yY yZ zA zB zC zD zF zG zH zI zJ zK zL zM zN zO zP zQ zR zS zU zV zW zX zY zZ wA wB wC wD wE wF wG wH wI wJ wK wL:Z6}
  (K:σ.lo=1) (hn:1≤σ0.next) (L:cells σ σ0.next=some (ZC,etm,false)) (J:cells σ Y=some (t,etm,false)) (A:cells σ Z=some (r,etm,false))
  (C:NTs σ lo m x' t) (I:NTs σ m hi N r) (hlo:σ0.next<lo) (T:hi≤σ.next) (hx0:σ0.next<Y) (hz0:σ0.next<Z) (hx1:Y<σ.next) (hz1:Z<σ.next) (g:jC σ0 σ (λ_=>False)) (R:Z6→jA→Prop)
  (hz:x'.k=0∧N.k=0→∀ σ',jC σ0 σ' (λ_=>False)→R (.agg ⟨ZC⟩) σ') (M:¬ (x'.k=0∧N.k=0)→∀ v σ',NrP σ0 (.mk 11 a b s e [x',N]) v σ'→R v σ') :
  dc3 (pp G) qn none sE0 ⟨(F98 x0 (Rpt 0 (tmC (.mk 11 a b s e [x,y]))) (.pointer (some ⟨σ0.next,0,none⟩)) x3 (.pointer (some ⟨Y,0,none⟩)) (.pointer (some ⟨Z,0,none⟩)) x6 x7 x8 x9 xA xB xC xD xE xF xG xH xI xJ xK xL xM xN xO xP xQ xR xS xT xU xV xW xX xY xZ yA yB yC yD yE yF yG yH yI yJ yK yL yM yN yO yP yQ yR yS yT yU yV yW yX yY yZ zA zB zC zD zF zG zH zI zJ zK zL zM zN zO zP zQ zR zS zU zV zW zX zY zZ wA wB wC wD wE wF wG wH wI wJ wK wL),[],σ⟩ (@kR ⟨kZ 0 (cQ (λs1=>dc3 (pp G) qn none sD0 s1 (@kR ⟨jO prog [(.cell 2 34)] R⟩)) (jO prog [(.cell 2 34)] R))⟩):=by
 have P:=C.len
 have p:=C.one
 have H:t.take 9=t:=List.take_of_length_le Z0
 have D:t.drop 9=[]:=List.drop_of_length_le Z0
 have z:(Value.agg ⟨t⟩).cells.toList=t:=rfl
 have w:=C.k0
 have o:=I.len
 have d:=I.one
 have q:r.take 9=r:=List.take_of_length_le Z0
 have j:r.drop 9=[]:=List.drop_of_length_le Z0
 have l:(Value.agg ⟨r⟩).cells.toList=r:=rfl
 have n:=I.k0
 have hsn:σ0.next<σ.next:=Z0
 rw[wC0,bH]
 by_cases h0:x'.k=0
 ·by_cases u:N.k=0
  ·push_cast(disch:=first|omega|(apply id;push_cast;try omega))[qn_r,qn_b,qn_h,K,L,J,A,w,n,h0,u,P,o,H,D,z,p,q,j,l,d]
   exact hz ⟨h0,u⟩ _ (g.trans (jC.put _ _ _ (S:=λk=>k=σ0.next) λ_=>rfl) λi hi h=>absurd h Z0)
  ·push_cast(disch:=first|omega|(apply id;push_cast;try omega))[qn_r,qn_b,qn_h,K,L,J,A,w,n,h0,u,P,o,H,D,z,p,q,j,l,d,↓rowN P o p d]
   refine jD.func (cap:=[]) (jL1 G 11 a b s e [x,y] V (by rw[jP];exact K) (by rw[jB];omega) _ 2 2) ?_
   rintro _ c ⟨rfl,f⟩
   have c1:cells c σ0.next=some (ZC,etm,false):=f.cellsE ((gD _ _ Z0).trans L) (by rw[jB];omega) id
   have c2:cells c σ.next=some (t++r,etm,false):=f.cellsE (qV _ _ _ _ rfl) (by rw[jB];omega) id
   have F:c.lo=1:=by rw[f.lo,jP,K]
   have E:=f.next
   rw[jB] at E
   unfold tmH
   refine S5 @qn_r @qn_b @qn_h c1 F ?_
   have B:∀ X,jC σ (c.put σ0.next X) (λk=>k=σ0.next):=λX=>((jC.add _ _ _).trans f λ_ _ h=>h.elim).trans (jC.put _ _ _ (S:=λk=>k=σ0.next) λ_=>rfl) λ_ _ h=>h
   have gB:∀ X,jC σ0 (c.put σ0.next X) (λ_=>False):=λX=>g.trans (B X) λi hi h=>absurd h Z0
   have q1:=C.le
   have q2:=I.le
   exact M (by simp[h0,u]) _ _ ⟨_,rfl,NTs.par (b:=σ.next) (NTs.mono (NTs.grew C (B _) (λk u h2=>(by omega:¬ k=σ0.next)) Z0) Z0 (Z3 _)) (NTs.mono (NTs.grew I (B _) (λk u h2=>(by omega:¬ k=σ0.next)) T) (Z3 _) Z0) ((jR _ _ _ Z0).trans c2) (by rw[jN];omega),gB _⟩
 ·push_cast(disch:=first|omega|(apply id;push_cast;try omega))[qn_r,qn_b,qn_h,K,L,J,A,w,n,h0,P,o,H,D,z,p,q,j,l,d,↓rowN P o p d]
  refine jD.func (cap:=[]) (jL1 G 11 a b s e [x,y] V (by rw[jP];exact K) (by rw[jB];omega) _ 2 2) ?_
  rintro _ c ⟨rfl,f⟩
  have c1:cells c σ0.next=some (ZC,etm,false):=f.cellsE ((gD _ _ Z0).trans L) (by rw[jB];omega) id
  have c2:cells c σ.next=some (t++r,etm,false):=f.cellsE (qV _ _ _ _ rfl) (by rw[jB];omega) id
  have F:c.lo=1:=by rw[f.lo,jP,K]
  have E:=f.next
  rw[jB] at E
  unfold tmH
  refine S5 @qn_r @qn_b @qn_h c1 F ?_
  have B:∀ X,jC σ (c.put σ0.next X) (λk=>k=σ0.next):=λX=>((jC.add _ _ _).trans f λ_ _ h=>h.elim).trans (jC.put _ _ _ (S:=λk=>k=σ0.next) λ_=>rfl) λ_ _ h=>h
  have gB:∀ X,jC σ0 (c.put σ0.next X) (λ_=>False):=λX=>g.trans (B X) λi hi h=>absurd h Z0
  have q1:=C.le
  have q2:=I.le
  exact M (by simp[h0]) _ _ ⟨_,rfl,NTs.par (b:=σ.next) (NTs.mono (NTs.grew C (B _) (λk u h2=>(by omega:¬ k=σ0.next)) Z0) Z0 (Z3 _)) (NTs.mono (NTs.grew I (B _) (λk u h2=>(by omega:¬ k=σ0.next)) T) (Z3 _) Z0) ((jR _ _ _ Z0).trans c2) (by rw[jN];omega),gB _⟩
theorem mI1 (a b:Int)(s:List Zu)(e:Ex)(x y:Tm)(T:smE e=true)(hx:Nrm G x)(Z:Nrm G y){σ:jA}(J:σ.lo=1)(hn:1≤σ.next)(R:Z6→jA→Prop)
  (hz:(jF x).k=0∧(jF y).k=0→∀ σ',jC σ σ' (λ_=>False)→R (.agg ⟨ZC⟩) σ') (L:¬ ((jF x).k=0∧(jF y).k=0)→∀ v σ',NrP σ (.mk 11 a b s e [jF x,jF y]) v σ'→R v σ') :
  jI (pp G) H0 39 [tmV (.mk 11 a b s e [x,y])] σ R:=by
 refine jI.fir4 (q:=qn) (jS G) nE0 Z7 rfl rfl (uX0 ..) (by rw[J];exact (show NGG≤1 by decide)) ?_
 rw[uB0]
 refine S3 @qn_r @qn_b @qn_h ?_
 repeat' apply And.intro
 all_goals
  refine jD.func (cap:=[]) (hx _ (by (try simp only[jP,dT]);exact J) (by (try simp only[jB,jN]);omega)) ?_
  rintro _ h ⟨u,rfl,w,g⟩
  have f:h.lo=1:=by rw[g.lo];(try simp only[jP,dT]);exact J
  have K:=g.next
  simp only[jN,jB] at K w
  have X:=w.len
  have C:=w.one
  have o:u.take 9=u:=List.take_of_length_le Z0
  have B:u.drop 9=[]:=List.drop_of_length_le Z0
  have z:(Value.agg ⟨u⟩).cells.toList=u:=rfl
  have n:=w.k0
  push_cast(disch:=first|omega|(apply id;push_cast;try omega))[qn_r,qn_b,qn_h,X,C,o,B,z,n,f]
  have P:cells h σ.next=some (ZC,etm,false):=g.cellsE (by push_cast(disch:=first|omega|(apply id;push_cast;try omega));first|done|rfl) (by (try simp only[jB,jN]);omega) id
  first|(have Y:cells h (σ.next+1)=some (ZC,etm,false):=g.cellsE (by push_cast(disch:=first|omega|(apply id;push_cast;try omega));first|done|rfl) (by (try simp only[jB,jN]);omega) id)|have Y:=P
  first|(have V:cells h (σ.next+2)=some (ZC,etm,false):=g.cellsE (by push_cast(disch:=first|omega|(apply id;push_cast;try omega));first|done|rfl) (by (try simp only[jB,jN]);omega) id)|have V:=P
 all_goals repeat' apply And.intro
 all_goals
  refine jD.func (cap:=[]) (Z _ (by (try simp only[jP,dT]);exact f) (by (try simp only[jB,jN]);omega)) ?_
  rintro _ c ⟨A,rfl,p,d⟩
  have r:c.lo=1:=by rw[d.lo];(try simp only[jP,dT]);exact f
  have N:=d.next
  try simp only[jN,jB] at N p
  have M:=p.len
  have D:=p.one
  have l:A.take 9=A:=List.take_of_length_le Z0
  have m:A.drop 9=[]:=List.drop_of_length_le Z0
  have j:(Value.agg ⟨A⟩).cells.toList=A:=rfl
  have t:=p.k0
  have i:cells c σ.next=some (ZC,etm,false):=d.cellsE (by push_cast(disch:=first|omega|(apply id;push_cast;try omega))[P];first|done|rfl) (by (try simp only[jB,jN]);omega) id
  first|(have H:cells c (σ.next+1)=some (ZC,etm,false):=d.cellsE (by push_cast(disch:=first|omega|(apply id;push_cast;try omega))[Y];first|done|rfl) (by (try simp only[jB,jN]);omega) id)|have H:=i
  first|(have I:cells c (σ.next+2)=some (ZC,etm,false):=d.cellsE (by push_cast(disch:=first|omega|(apply id;push_cast;try omega))[V];first|done|rfl) (by (try simp only[jB,jN]);omega) id)|have I:=i
  first|(have F:cells c h.next=some (ZC,etm,false):=d.cellsE (by push_cast(disch:=first|omega|(apply id;push_cast;try omega));first|done|rfl) (by (try simp only[jB,jN]);omega) id)|have F:=i
  first|(have E:cells c (h.next+1)=some (ZC,etm,false):=d.cellsE (by push_cast(disch:=first|omega|(apply id;push_cast;try omega));first|done|rfl) (by (try simp only[jB,jN]);omega) id)|have E:=i
  push_cast(disch:=first|omega|(apply id;push_cast;try omega))[qn_r,qn_b,qn_h,M,D,l,m,j,t,r,X,C,o,B,z,n,i,H,I,F,E]
 all_goals repeat' apply And.intro
 all_goals
  refine nrm_j G a b s e x y T (σ0:=σ) (by simp only[jP,dT];exact r) hn (by push_cast(disch:=first|omega|(apply id;push_cast;try omega))[i];first|done|rfl) (by push_cast(disch:=first|omega|(apply id;push_cast;try omega))[H,I,F,E];first|done|rfl) (by push_cast(disch:=first|omega|(apply id;push_cast;try omega))[H,I,F,E];first|done|rfl) (NTs.mono (NTs.up w (by (repeat (first|assumption|exact jC.refl _ _|refine jC.put'' ?_ _ _ (by intro _;first|(exfalso;omega)|(show _∨_;omega))|refine jC.add' ?_ _|refine jC.tr ?_ d|refine jC.tr ?_ g))) Z0) (Z3 _) ?_) (NTs.up p (by (repeat (first|assumption|exact jC.refl _ _|refine jC.put'' ?_ _ _ (by intro _;first|(exfalso;omega)|(show _∨_;omega))|refine jC.add' ?_ _|refine jC.tr ?_ d|refine jC.tr ?_ g))) Z0) ?_ ?_ ?_ ?_ ?_ ?_ (by (repeat (first|assumption|exact jC.refl _ _|refine jC.put'' ?_ _ _ (by intro _;first|(exfalso;omega)|(show _∨_;omega))|refine jC.add' ?_ _|refine jC.tr ?_ d|refine jC.tr ?_ g))) R hz L
  all_goals (try simp only[jB,jN])
  all_goals omega
theorem gY3 (a b:Int)(s:List Zu)(e:Ex)(x y:Tm)(c:smE e=true)(l:Nrm G x)(i:Nrm G y):Nrm G (.mk 11 a b s e [x,y]):=by
 intro σ j f
 rw[jF,if_neg Z0,if_pos rfl]
 by_cases h:(jF x).k=0∧(jF y).k=0
 ·rw[if_pos h]
  refine jI.cutE ?_
  exact mI1 G a b s e x y c l i j f _ (λ_ σ' g=>⟨tmV zT,σ,⟨_,rfl,.leaf (Z3 _) Z1 Z1 Z1,jC.refl _ _⟩,zF1 prog _ _,qB0.gr g⟩) (λd=>absurd h d)
 ·rw[if_neg h]
  exact mI1 G a b s e x y c l i j f _ (λd=>absurd d h) (λ_ v σ' h=>h)
theorem mL2 (a b:Int)(s:List Zu)(e:Ex)(x:Tm)(D:smE e=true)(I:Nrm G x){σ:jA}(u:σ.lo=1)(N:1≤σ.next)(R:Z6→jA→Prop)
  (J:(jF x).k=0→∀ σ',jC σ σ' (λ_=>False)→R (.agg ⟨ZC⟩) σ') (z:¬ (jF x).k=0→∀ v σ',NrP σ (.mk 7 a b s e [jF x]) v σ'→R v σ') :
  jI (pp G) H0 39 [tmV (.mk 7 a b s e [x])] σ R:=by
 refine jI.fir4 (q:=qn) (jS G) nE0 Z7 rfl rfl (uX0 ..) (by rw[u];exact (show NGG≤1 by decide)) ?_
 rw[uB0]
 refine S3 @qn_r @qn_b @qn_h ?_
 refine jD.func (cap:=[]) (I _ (by rw[jP];exact u) (by rw[jB];omega)) ?_
 rintro _ c ⟨l,rfl,p,g⟩
 have B:cells c σ.next=some (ZC,etm,false):=g.cellsE (qV _ _ _ _ rfl) (by rw[jB];omega) id
 have f:c.lo=1:=by rw[g.lo,jP,u]
 have w:=g.next
 rw[jB] at w p
 have C:=p.len
 have j:=p.one
 have o:l.take 9=l:=List.take_of_length_le Z0
 have t:l.drop 9=[]:=List.drop_of_length_le Z0
 have r:(Value.agg ⟨l⟩).cells.toList=l:=rfl
 have n:=p.k0
 have F:jC σ c (λ_=>False):=(jC.add _ _ _).trans g λ_ _ h=>h
 generalize jF x=x' at *
 by_cases h0:x'.k=0
 ·push_cast(disch:=first|omega|(apply id;push_cast;try omega))[qn_r,qn_b,qn_h,C,j,o,t,r,n,h0,f,B]
  exact J h0 _ (by (repeat (first|assumption|exact jC.refl _ _|refine jC.put'' ?_ _ _ (by intro _;(exfalso;omega))|refine jC.add' ?_ _)))
 ·push_cast(disch:=first|omega|(apply id;push_cast;try omega))[qn_r,qn_b,qn_h,C,j,o,t,r,n,h0,f,B,↓yQ3 C j]
  refine jD.func (cap:=[]) (jL1 G 7 a b s e [x] D (by rw[jP,dT,jP];exact f) (by rw[jB,jN,jB];omega) _ 1 1) ?_
  rintro _ d ⟨rfl,m⟩
  have K:cells d σ.next=some (ZC,etm,false):=m.cellsE ((gD _ _ (by rw[jN,jB];omega)).trans ((jR _ _ _ Z0).trans ((gD _ _ Z0).trans B))) (by rw[jB,jN,jB];omega) id
  have L:cells d (c.next+1)=some (l,etm,false):=m.cellsE (qV _ _ _ _ (by rw[jN,jB])) (by rw[jB,jN,jB];omega) id
  have y:d.lo=1:=by rw[m.lo,jP,dT,jP,f]
  have A:=m.next
  rw[jB,jN,jB] at A
  unfold tmH
  refine S5 @qn_r @qn_b @qn_h K y ?_
  have E:∀ X,jC c (d.put σ.next X) (λk=>k=σ.next):=λX=>((((jC.add _ _ _).trans (jC.put _ _ _ (S:=λk=>k=c.next) λ_=>rfl) λi hi h=>absurd h Z0).trans (jC.add _ _ _) λ_ _ h=>h).trans m λ_ _ h=>h.elim).trans (jC.put _ _ _ (S:=λk=>k=σ.next) λ_=>rfl) λ_ _ h=>h
  have H:∀ X,jC σ (d.put σ.next X) (λ_=>False):=λX=>F.trans (E X) λi hi h=>absurd h Z0
  exact z h0 _ _ ⟨_,rfl,NTs.blk (b:=c.next+1) (NTs.mono (NTs.grew p (E _) (λk P M=>(by omega:¬ k=σ.next)) (Z3 _)) Z0 Z0) ((jR _ _ _ Z0).trans L) (by rw[jN];omega),H _⟩
theorem nrm_7 (a b:Int)(s:List Zu)(e:Ex)(x:Tm)(c:smE e=true)(j:Nrm G x):Nrm G (.mk 7 a b s e [x]):=by
 intro σ i f
 rw[jF,if_pos rfl]
 by_cases h:(jF x).k=0
 ·rw[if_pos h]
  refine jI.cutE ?_
  exact mL2 G a b s e x c j i f _ (λ_ σ' g=>⟨tmV zT,σ,⟨_,rfl,.leaf (Z3 _) Z1 Z1 Z1,jC.refl _ _⟩,zF1 prog _ _,qB0.gr g⟩) (λd=>absurd h d)
 ·rw[if_neg h]
  exact mL2 G a b s e x c j i f _ (λd=>absurd d h) (λ_ v σ' h=>h)
theorem nrm_o (k a b:Int)(s:List Zu)(e:Ex)(l:List Tm)(d:jG (pp G) H0 79 [tmV (.mk k a b s e l)] (tmV (.mk k a b s e l)))(c:k≠12)(h:k≠11)(g:k≠7):Nrm G (.mk k a b s e l):=by
 intro σ j n
 have i:jF (.mk k a b s e l)=.mk k a b s e l:=by
  unfold jF
  split
  ·rename_i f;cases f;rw[if_neg c,if_neg h]
  ·rename_i f;cases f;rw[if_neg g]
  ·rename_i f;cases f;rfl
 rw[i]
 refine jI.fir4 (q:=qn) (jS G) nE0 Z7 rfl rfl (uX0 ..) (by rw[j];exact (show NGG≤1 by decide)) ?_
 rw[uB0]
 refine S6 @qn_r @qn_b @qn_h c h g ?_
 try (rw[jP0];push_cast(disch:=first|omega|(apply id;push_cast;try omega))[qn_r,qn_b,qn_h])
 refine dK (d) ?_
 have m:=bV (.mk k a b s e l)
 refine S4 @qn_r @qn_b @qn_h j ?_
 exact ⟨_,rfl,.leaf (by first|omega|(simp only[jB,jN];omega)) c h g,(by (repeat (first|exact Gr.refl _|assumption|(refine jC.put' ?_ _ _ (by first|omega|(simp only[push_cast];omega)))|(refine jC.add' ?_ _))))⟩
inductive RS:Tm→Prop
 | leaf {k a b:Int} {s:List Zu} {e:Ex} {l:List Tm} (h12:k≠12) (h11:k≠11) (h7:k≠7):RS (.mk k a b s e l)
 | blk {a b:Int} {s:List Zu} {e:Ex} {x:Tm} (hx:RS x):RS (.mk 7 a b s e [x])
 | seq {a b:Int} {s:List Zu} {e:Ex} {x y:Tm} (hx:RS x) (hy:RS y):RS (.mk 12 a b s e [x,y])
 | par {a b:Int} {s:List Zu} {e:Ex} {x y:Tm} (hx:RS x) (hy:RS y):RS (.mk 11 a b s e [x,y])
theorem bA3 {t:Tm}(h:RS t):smT t=true→Nrm G t:=by
 induction h with
 | leaf i g k=>intro b;exact nrm_o G _ _ _ _ _ _ (dU0 G _ b) i g k
 | blk j m=>
  intro b
  simp only[smT,Z5,decide_eq_true_eq] at b
  obtain ⟨⟨f,c⟩,a⟩:=b
  exact nrm_7 G _ _ _ _ _ c (m (kK a _ (by simp)))
 | seq j l d e=>
  intro b
  simp only[smT,Z5,decide_eq_true_eq] at b
  obtain ⟨⟨f,c⟩,a⟩:=b
  exact gX3 G _ _ _ _ _ _ c (d (kK a _ (by simp))) (e (kK a _ (by simp))) (dU0 G _ (kK a _ (by simp)))
 | par j l d e=>
  intro b
  simp only[smT,Z5,decide_eq_true_eq] at b
  obtain ⟨⟨f,c⟩,a⟩:=b
  exact gY3 G _ _ _ _ _ _ c (d (kK a _ (by simp))) (e (kK a _ (by simp)))
theorem rZ2 (n:Int):jG (pp G) H0 81 [.int .i64 n] (.int .i64 n):=by
 refine cE G fir81 Z7 (zE1 ..) λh=>?_;rw[pE2]
 refine S0 ?_
 exact .id rfl
def IvR (σ:jA)(l:List Int)(v:Z6)(σ':jA):Prop:=jC σ σ' (λ_=>False)∧((l=[]∧v=.slice none 0 0)∨(v=.slice (some ⟨σ.next,0,none⟩) l.length l.length∧cells σ' σ.next=some (ivs l,eI,false)∧σ.next<σ'.next))
inductive ILi (σ:jA)(l:List Int)(fv:Z6):Nat→S→Prop
 | mk (i:Nat) (iv:Int) (h:jA) {x0 x2 x3 x4 x6 x7 x8 x9 xA xB xC xD xH xI xJ xK xL xM xN xO xP xQ xR xS:Z6} (hiv:iv=(i:Int)) (hi:i≤l.length) (c1:cells h σ.next=some (ivs (l.take i)++(List.replicate (l.length-i) [Value.int .i64 0]).flatten,eI,false)) (g:jC σ h (λ_=>False)) (hn:σ.next<h.next) :
  ILi σ l fv (l.length-i) ⟨(F29 x0 fv x2 x3 x4 (.slice (some ⟨σ.next,0,none⟩) l.length l.length) x6 x7 x8 x9 xA xB xC xD (Rw false eI l.length (ivs l)) (.int .i64 l.length) (.int .i64 iv) xH xI xJ xK xL xM xN xO xP xQ xR xS),[],h⟩
theorem tP2 (l:List Int)(C:l.length<100000000000){σ:jA}(A:σ.lo=1)(I:1≤σ.next):jI (pp G) H0 80 [ivV l,.func (.func 81) #[] #[]] σ (IvR σ l):=by
 refine jI.fir4 (q:=qq) (jS G) fir80 Z7 rfl rfl (yG0 ..) (by first|exact Nat.le_trans (show NGG≤1 by decide) Z0) ?_;rw[pF2]
 unfold ivV
 by_cases h0:l.length=0
 ·have d:(l.length:Int)=0:=Z0
  obtain rfl:l=[]:=List.length_eq_zero_iff.1 h0
  refine S1 d ?_
  exact ⟨jC.refl _ _,.inl ⟨rfl,rfl⟩⟩
 have d:¬ (l.length:Int)=0:=Z0
 have E:(l.length:Int)*400+l.length<100000000000000:=Z0
 refine S3 d E @Z4 ?_
 refine WD.loop4 (q:=qq) (jS G) Z7 (ILi σ l (.func (.func 81) #[] #[])) ?_ _ _ (ILi.mk 0 0 _ rfl (Nat.zero_le _) (by push_cast(disch:=first|omega|(apply id;push_cast;try omega))[List.take_zero];rfl) (jC.add _ _ _) (by rw[jB];omega))
 intro m H B
 cases B with|mk i F h u hi r g s=>
 subst u
 have e:h.lo=1:=by rw[g.lo,A]
 rw[kA1]
 by_cases b:(i:Int)<l.length
 ·obtain ⟨x,y⟩:=jU (l:=l) (i:=i) Z0
  have t:(ivs l)[i]?=some (.int .i64 x):=by rw[ivs,List.getElem?_map,y];rfl
  have p:i+1≤l.length:=Z0
  have a:i<l.length:=Z0
  refine S7 b @Z4 t p e @dD a ?_
  refine dK (rZ2 G x) ?_
  obtain ⟨k,D⟩:∃ k,l.length-i=k+1:=⟨l.length-i-1,Z0⟩
  have o:(ivs (l.take i)).length=i:=by rw[dD,List.length_take,Nat.min_eq_left hi]
  have j:=gD0 (w:=1) (z:=[Value.int .i64 0]) (k:=l.length-i) (n:=l.length) o rfl Z0
  have f:=kB0 (c:=[Value.int .i64 x]) (w:=1) (z:=[Value.int .i64 0]) (k:=k) o rfl
  rw[← D,show [Value.int .i64 x]=ivs [x] from rfl,← bK0,← jT y,show k=l.length-(i+1) by omega,show ivs [x]=[Value.int .i64 x] from rfl] at f
  refine S8 b @Z4 p e r j f a ?_
  exact ⟨_,Z0,ILi.mk (i+1) _ _ Z2 Z0 tH (jC.put'' g _ _ (by intro J;exfalso;omega)) tH⟩
 ·have v:i=l.length:=Z0
  subst v
  rw[List.take_length,Nat.sub_self,List.replicate_zero,List.flatten_nil,List.append_nil] at r
  refine S1 b ?_
  rw[zZ1]
  refine S0 ?_
  exact ⟨g,.inr ⟨rfl,r,s⟩⟩
def kZ3 (l:List Tm):Prop:=l.length<100000000000∧cC l=true
abbrev eR:Nat:=26
def trs (s:List (List Tm)):List Z6:=s.map kV
def trV (s:List (List Tm)):Z6:=Rw false eR s.length (trs s)
theorem oQ0 (s:List (List Tm)):(trs s).length=s.length:=by simp[trs]
theorem fO1:∀ s:List (List Tm),(trs s).all one=true
 | []=>rfl
 | x :: s=>by
  have:=fO1 s
  simp only[trs] at this
  simp only[trs,List.map_cons,List.all_cons,this,Bool.and_true]
  rfl
theorem jP1 (n:Nat)(h:0<n):∀ s:List (List Tm),scL n (trs s)=true
 | []=>rfl
 | x :: s=>by
  have:=jP1 n h s
  simp only[trs] at this
  simp[trs,scL,this,eO0 n h]
theorem lT2 (n:Nat)(h:0<n)(k:Nat)(f:Zb)(s:List (List Tm)):Ev.sc n (Rw f eR k (trs s))=true:=by
 have:=jP1 n h s
 simp[Ev.sc,Rw,scL,this,h]
theorem fP1 {s:List (List Tm)}{i:Nat}{l:List Tm}(h:s[i]?=some l):(trs s)[i]?=some (kV l):=by simp[trs,h]
theorem oC2 (a b:List (List Tm)):trs (a++b)=trs a++trs b:=by simp[trs]
attribute [push_cast] oQ0 fO1 jP1 lT2
def lM0 (s:List (List Tm)):Prop:=s.length<100000000000∧∀ l∈s,kZ3 l
def wN0:List (List Tm)→Int
 | []=>0
 | x :: s=>qW x+wN0 s
theorem lP0:∀ (a b:List (List Tm)),wN0 (a++b)=wN0 a+wN0 b
 | [],b=>by simp[wN0]
 | x :: a,b=>by rw[List.cons_append,wN0,wN0,lP0 a b];omega
theorem zR1 {l:List (List Tm)}{i:Nat}{x:List Tm}(h:l[i]?=some x):wN0 (l.take (i+1))=wN0 (l.take i)+qW x:=by
 rw[jT h,lP0,wN0,wN0];omega
inductive I33 (s:List (List Tm)):Nat→S→Prop
 | mk (i:Nat) (iv n:Int) (h:jA) {x0 x1 x2 x4 x5 x6 x7 xB xC xD xE xF xG xH xI xJ xK xL xM xN xO xP xQ:Z6} (hiv:iv=(i:Int)) (hi:i≤s.length) (hn:n=W (wN0 (s.take i))) (hl1:h.lo=1) (hl2:1≤h.next) :
  I33 s (s.length-i) ⟨(F27 x0 x1 x2 (.int .i64 n) x4 x5 x6 x7 (trV s) (.int .i64 s.length) (.int .i64 iv) xB xC xD xE xF xG xH xI xJ xK xL xM xN xO xP xQ),[],h⟩
inductive I33b (s:List (List Tm))(j:Nat)(l:List Tm):Nat→S→Prop
 | mk (i:Nat) (iv n:Int) (h:jA) {x0 x1 x2 x4 x5 x6 x7 xB xC xD xH xI xJ xK xL xM xN xO xP xQ:Z6} (hiv:iv=(i:Int)) (hi:i≤l.length) (hn:n=W (wN0 (s.take j)+qW (l.take i))) (hl1:h.lo=1) (hl2:1≤h.next) :
  I33b s j l (l.length-i) ⟨(F27 x0 x1 x2 (.int .i64 n) x4 x5 x6 x7 (trV s) (.int .i64 s.length) (.int .i64 j) xB xC xD (kV l) (.int .i64 l.length) (.int .i64 iv) xH xI xJ xK xL xM xN xO xP xQ),[],h⟩
theorem oT2 (s:List (List Tm))(w:lM0 s):jG (pp G) H0 46 [trV s] (.int .i64 (W (wN0 s))):=by
 have A:=w.1
 refine cE G fir46 Z7 (zN2 ..) λB=>?_;rw[rB2]
 unfold trV
 push_cast(disch:=first|omega|(apply id;push_cast;try omega))
 refine WD.loop4 (q:=qq) (jS G) Z7 (I33 s) ?_ _ _ (I33.mk 0 0 _ _ rfl (Nat.zero_le _) rfl rfl tH)
 intro m y o
 cases o with|mk j D n h b hi t a v=>
 subst b t
 rw[yP1]
 unfold trV
 by_cases f:(j:Int)<s.length
 ·obtain ⟨l,k⟩:=jU (l:=s) (i:=j) Z0
  have u:=List.mem_of_getElem? k
  obtain ⟨z,p⟩:=w.2 l u
  have g:=fP1 k
  have c:j<s.length:=Z0
  unfold kV at g
  push_cast(disch:=first|omega|(apply id;push_cast;try omega))[f,Z4,g,c,a]
  refine WD.loop4 (q:=qq) (jS G) Z7 (I33b s j l) ?_ _ _ (I33b.mk 0 0 _ _ rfl (Nat.zero_le _) (by rw[List.take_zero,qW,Int.add_zero]) (by first|assumption|(push_cast(disch:=first|omega|(apply id;push_cast;try omega))[a];try omega)) tH)
  intro m y o
  cases o with|mk i C n h b hi t a v=>
  subst b t
  rw[yN1]
  unfold kV
  by_cases e:(i:Int)<l.length
  ·obtain ⟨x,r⟩:=jU (l:=l) (i:=i) Z0
   have g:=gA r
   have c:i*9+9≤l.length*9:=Z0
   push_cast(disch:=first|omega|(apply id;push_cast;try omega))[e,Z4,g,c,a]
   refine dK (qC1 G x (kK p x (List.mem_of_getElem? r))) ?_
   push_cast(disch:=first|omega|(apply id;push_cast;try omega))[wH3]
   exact ⟨_,Z0,I33b.mk (i+1) _ _ _ Z2 Z0 (by rw[wT0 r];congr 1;omega) (by first|assumption|(push_cast(disch:=first|omega|(apply id;push_cast;try omega))[a];try omega)) tH⟩
  ·have d:i=l.length:=Z0
   subst d
   push_cast(disch:=first|omega|(apply id;push_cast;try omega))[e]
   rw[yM1]
   push_cast(disch:=first|omega|(apply id;push_cast;try omega))[List.take_length]
   exact ⟨_,Z0,I33.mk (j+1) _ _ _ Z2 Z0 (by rw[zR1 k]) (by first|assumption|(push_cast(disch:=first|omega|(apply id;push_cast;try omega))[a];try omega)) tH⟩
 ·have d:j=s.length:=Z0
  subst d
  push_cast(disch:=first|omega|(apply id;push_cast;try omega))[f]
  rw[yO1]
  push_cast(disch:=first|omega|(apply id;push_cast;try omega))[List.take_length]
  exact .id rfl
inductive IL (s:List (List Tm))(fv:Z6):Nat→S→Prop
 | mk (i:Nat) (iv:Int) (h:jA) {x0 x2 x3 x4 x6 x7 x8 x9 xA xB xC xD xH xI xJ xK xL xM xN xO xP xQ xR xS:Z6} (hiv:iv=(i:Int)) (hi:i≤s.length) (c1:cells h 1=some (trs (s.take i)++(List.replicate (s.length-i) [Value.slice none 0 0]).flatten,26,false)) (hl1:h.lo=1) (hl2:2≤h.next) :
  IL s fv (s.length-i) ⟨(F29 x0 fv x2 x3 x4 (.slice (some ⟨1,0,none⟩) s.length s.length) x6 x7 x8 x9 xA xB xC xD (trV s) (.int .i64 s.length) (.int .i64 iv) xH xI xJ xK xL xM xN xO xP xQ xR xS),[],h⟩
theorem tQ2 (s:List (List Tm))(f:FuncId)(B:s.length<100000000000)(y:∀ x∈s,jG (pp G) H0 f [kV x] (kV x)):jG (pp G) H0 118 [trV s,.func (.func f) #[] #[]] (trV s):=by
 refine cE G eM3 Z7 (yG0 ..) λC=>?_;rw[yK2]
 unfold trV
 by_cases h0:s.length=0
 ·have d:(s.length:Int)=0:=Z0
  obtain rfl:s=[]:=List.length_eq_zero_iff.1 h0
  refine S1 d ?_
  exact .nil (size:=1) rfl Z1
 have d:¬ (s.length:Int)=0:=Z0
 have F:(s.length:Int)*400+s.length<100000000000000:=Z0
 refine S2 d F ?_
 refine WD.loop4 (q:=qq) (jS G) Z7 (IL s (.func (.func f) #[] #[])) ?_ _ _ (IL.mk 0 0 _ rfl (Nat.zero_le _) (by push_cast(disch:=first|omega|(apply id;push_cast;try omega))[List.take_zero];rfl) rfl tH)
 intro m J A
 cases A with|mk i I h u hi t b H=>
 subst u
 rw[pT0]
 unfold trV
 by_cases a:(i:Int)<s.length
 ·obtain ⟨x,p⟩:=jU (l:=s) (i:=i) Z0
  have r:=List.mem_of_getElem? p
  have D:=fP1 p
  have o:i<s.length:=Z0
  refine S5 a @Z4 D o b ?_
  refine dK (y x r) ?_
  obtain ⟨k,E⟩:∃ k,s.length-i=k+1:=⟨s.length-i-1,Z0⟩
  have j:(trs (s.take i)).length=i:=by rw[oQ0,List.length_take,Nat.min_eq_left hi]
  have g:=gD0 (w:=1) (z:=[Value.slice none 0 0]) (k:=s.length-i) (n:=s.length) j rfl Z0
  have e:=kB0 (c:=[kV x]) (w:=1) (z:=[Value.slice none 0 0]) (k:=k) j rfl
  rw[← E,show [kV x]=trs [x] from rfl,← oC2,← jT p,show k=s.length-(i+1) by omega,show trs [x]=[kV x] from rfl] at e
  unfold kV at e ⊢
  refine S7 a @Z4 o b t g e ?_
  exact ⟨_,Z0,IL.mk (i+1) _ _ Z2 Z0 tH (by first|assumption|(push_cast(disch:=first|omega|(apply id;push_cast;try omega))[b];try omega)) tH⟩
 ·have v:i=s.length:=Z0
  subst v
  rw[List.take_length,Nat.sub_self,List.replicate_zero,List.flatten_nil,List.append_nil] at t
  refine S1 a ?_
  rw[pS0]
  refine S0 ?_
  refine .sl (by push_cast(disch:=first|omega|(apply id;push_cast;try omega))) t (size:=1) rfl Z1 tH (.inl ⟨by simp only[UC];omega,Z3 _⟩) ?_
  rw[List.drop_zero,List.take_of_length_le (by rw[oQ0];omega)]
  exact .ids (jP1 _ H0q s)
theorem tA2 (l:List Tm)(h:kZ3 l):jG (pp G) H0 114 [kV l] (kV l):=by
 refine cE G mV2 Z7 (zD1 ..) λc=>?_;rw[qD1]
 refine S0 ?_
 refine jD.dataI (qX1 G l 79 h.1 λx a=>dU0 G x (kK h.2 x a)) (by and_intros<;>first|rfl|(simp(disch:=first|omega|(apply id;push_cast;try omega))only[push_cast])) ?_
 refine S0 ?_
 exact .id (eO0 _ H0q l)
@[push_cast]theorem jQ1 (n:Nat)(h:0<n)(s:List (List Tm)):Ev.sc n (trV s)=true:=lT2 n h ..
theorem gQ3 (s:List (List Tm))(h:lM0 s):jG (pp G) H0 84 [trV s] (trV s):=by
 refine cE G fir84 Z7 (zD1 ..) λc=>?_;rw[pB2]
 refine S0 ?_
 refine jD.dataI (tQ2 G s 114 h.1 λx a=>tA2 G x (h.2 x a)) (by and_intros<;>first|rfl|(simp(disch:=first|omega|(apply id;push_cast;try omega))only[push_cast])) ?_
 refine S0 ?_
 exact .id (jQ1 _ H0q s)
theorem in_f (n lo hi:Int):jG (pp G) H0 110 [.int .i64 n,.int .i64 lo,.int .i64 hi] (.bool (decide (lo≤n∧n<hi))):=by
 refine cE G eT3 Z7 (yH0 ..) λa=>?_;rw[yR2]
 by_cases h:lo≤n
 ·refine S2 h true_and ?_
  exact .id rfl
 ·refine S2 h false_and ?_
  exact .id rfl
def fA (k:Int):Zb:=decide (k=1∨k=2∨k=3∨k=4∨k=5∨k=6∨k=13∨k=14)
def fB (k:Int):Zb:=decide (k=6∨k=14)
def fN (k:Int):Zb:=decide (k=1∨k=14)
def fE (k:Int):Zb:=decide (k=2∨k=9)
def ofV (k:Int):Z6:=.agg ⟨[.bool (fA k),.bool (fB k),.bool (fN k),.bool (fE k),.int .i64 (shL k)]⟩
theorem of_f (k:Int):jG (pp G) H0 73 [.int .i64 k] (ofV k):=by
 by_cases h0:1≤k∧k≤14
 ·obtain rfl|rfl|rfl|rfl|rfl|rfl|rfl|rfl|rfl|rfl|rfl|rfl|rfl|rfl:k=1∨k=2∨k=3∨k=4∨k=5∨k=6∨k=7∨k=8∨k=9∨k=10∨k=11∨k=12∨k=13∨k=14:=Z0
  all_goals
   refine cE G dV3 Z7 (zL2 ..) λj=>?_;rw[iV1]
   refine S0 ?_
   repeat ((first|rw[dI0]|rw[dH0]|rw[dG0]);push_cast(disch:=first|omega|(apply id;push_cast;try omega)))
   exact .id rfl
 ·have n:¬ k=1:=Z0
  have m:¬ k=2:=Z0
  have o:¬ k=3:=Z0
  have p:¬ k=4:=Z0
  have l:¬ k=5:=Z0
  have g:¬ k=6:=Z0
  have i:¬ k=7:=Z0
  have f:¬ k=9:=Z0
  have a:¬ k=10:=Z0
  have c:¬ k=11:=Z0
  have b:¬ k=12:=Z0
  have d:¬ k=13:=Z0
  have h:¬ k=14:=Z0
  have e:ofV k=.agg ⟨[.bool false,.bool false,.bool false,.bool false,.int .i64 0]⟩:=by
   simp[ofV,fA,fB,fN,fE,shL,n,m,o,p,l,g,i,f,a,c,b,d,h]
  rw[e]
  refine cE G dV3 Z7 (zL2 ..) λj=>?_;rw[iV1]
  push_cast(disch:=first|omega|(apply id;push_cast;try omega))[n,m,o,p,l,g,i,f,a,c,b,d,h]
  rw[dI0]
  refine S6 g i f a c b ?_
  rw[dG0]
  refine S1 h ?_
  rw[dH0]
  refine S0 ?_
  exact .id rfl
def numF (v h p k a b:Int):Zb:=
 if k=1 then decide (-1≤a∧a<v) else if k=2 then decide (0≤a∧a<v) else if k=3∨k=4∨k=5 then decide (0≤a∧a<h) else if k=6 then decide (0≤a∧a<h)&&decide (0≤b∧b<h) else if k=13 then decide (0≤a∧a<p) else if k=14 then decide (0≤a)&&decide (-1≤b∧b<v) else true
theorem num_f (v g p k a b:Int)(s:List Zu)(e:Ex)(l:List Tm):jG (pp G) H0 74 [tmV (.mk k a b s e l),.int .i64 v,.int .i64 g,.int .i64 p] (.bool (numF v g p k a b)):=by
 refine cE G fir74 Z7 (wZ3 ..) λo=>?_;rw[pK2]
 unfold numF
 by_cases i:k=1
 ·rw[if_pos i]
  refine S1 i ?_
  refine dK (in_f G a (-1) v) ?_
  refine S0 ?_
  exact .id rfl
 rw[if_neg i]
 by_cases j:k=2
 ·rw[if_pos j]
  refine S2 i j ?_
  refine dK (in_f G a 0 v) ?_
  refine S0 ?_
  exact .id rfl
 rw[if_neg j]
 by_cases d:k=3∨k=4∨k=5
 ·rw[if_pos d]
  rcases d with rfl|rfl|rfl
  all_goals
   refine S0 ?_
   rw[dF0]
   refine S0 ?_
   refine dK (in_f G a 0 g) ?_
   refine S0 ?_
   exact .id rfl
 rw[if_neg d]
 simp only[not_or] at d
 obtain ⟨d,q,n⟩:=d
 refine S5 i j d q n ?_
 rw[dF0]
 by_cases f:k=6
 ·rw[if_pos f]
  refine S1 f ?_
  refine dK (in_f G a 0 g) ?_
  cases r:decide (0≤a∧a<g) with
  | false=>
   refine S1 @Bool.false_and ?_
   exact .id rfl
  | true=>
   refine S1 @Bool.true_and ?_
   refine dK (in_f G b 0 g) ?_
   refine S0 ?_
   exact .id rfl
 rw[if_neg f]
 by_cases h:k=13
 ·rw[if_pos h]
  refine S2 f h ?_
  refine dK (in_f G a 0 p) ?_
  refine S0 ?_
  exact .id rfl
 rw[if_neg h]
 by_cases c:k=14
 ·rw[if_pos c]
  by_cases m:0≤a
  ·rw[decide_eq_true m,Bool.true_and]
   refine S4 f h c m ?_
   refine dK (in_f G b (-1) v) ?_
   refine S0 ?_
   exact .id rfl
  ·rw[decide_eq_false m,Bool.false_and]
   refine S4 f h c m ?_
   exact .id rfl
 rw[if_neg c]
 refine S3 f h c ?_
 rw[kI1]
 refine S0 ?_
 exact .id rfl
mutual
def anyT:Tm→Zb
 | .mk k _ _ _ _ l=>decide (k=14) || bZ l
def bZ:List Tm→Zb
 | []=>false
 | x :: l=>anyT x || bZ l
end
theorem nW0:∀ a b:List Tm,bZ (a++b)=(bZ a || bZ b)
 | [],b=>by simp[bZ]
 | x :: a,b=>by rw[List.cons_append,bZ,bZ,nW0 a b,Bool.or_assoc]
theorem dE1 {l:List Tm}{i:Nat}{x:Tm}(h:l[i]?=some x):bZ (l.take (i+1))=(bZ (l.take i) || anyT x):=by
 rw[jT h,nW0,bZ,bZ,Bool.or_false]
theorem nV0:∀ {l:List Tm} {x:Tm},x∈l→anyT x=true→bZ l=true
 | y :: l,x,h,hx=>by
  rw[bZ]
  rcases List.mem_cons.1 h with rfl|h
  ·rw[hx];rfl
  ·rw[nV0 h hx,Bool.or_true]
inductive I38 (t:Tm):Nat→S→Prop
 | mk (i:Nat) (iv:Int) (h:jA) {x0 x2 x4 x5 x6 x7 x8 x9 xA xB xC xD xE xF xG xH xI xJ:Z6} (hiv:iv=(i:Int)) (hi:i≤t.l.length) (hok:bZ (t.l.take i)=false) (c1:cells h 1=some (tmC t,etm,false)) (hl1:h.lo=1) (hl2:2≤h.next) :
  I38 t (t.l.length-i) ⟨(F20 x0 (.pointer (some ⟨1,0,none⟩)) x2 (.int .i64 iv) x4 x5 x6 x7 x8 x9 xA xB xC xD xE xF xG xH xI xJ),[],h⟩
theorem wF3:∀ t:Tm,smT t=true→jG (pp G) H0 36 [tmV t] (.bool (anyT t))
 | .mk k a b s e l,hs=>by
  simp only[smT,Z5,decide_eq_true_eq] at hs
  obtain ⟨⟨y,C⟩,n⟩:=hs
  have z:∀ x∈l,jG (pp G) H0 36 [tmV x] (.bool (anyT x)):=λx f=>wF3 x (kK n x f)
  refine cE G fir36 Z7 (zO2 ..) λA=>?_;rw[rJ2]
  rw[anyT]
  by_cases o:k=14
  ·refine S3 o decide_true @Bool.true_or ?_
   exact .id rfl
  rw[decide_eq_false o,Bool.false_or]
  refine S1 o ?_
  refine WD.loop4 (q:=qq) (jS G) Z7 (I38 (.mk k a b s e l)) ?_ _ _ (I38.mk 0 0 _ rfl (Nat.zero_le _) rfl tH rfl tH)
  intro m F w
  cases w with|mk i E h p hi c j d D=>
  subst p
  simp only[Tm.l_mk] at hi c
  rw[yV1]
  rw[bH] at j
  by_cases g:(i:Int)<l.length
  ·obtain ⟨x,f⟩:=jU (l:=l) (i:=i) Z0
   have B:=gA f
   have r:i*9+9≤l.length*9:=Z0
   refine S6 g j @Z4 B r d ?_
   refine dK (z x (List.mem_of_getElem? f)) ?_
   cases v:anyT x with
   | true=>
    rw[nV0 (List.mem_of_getElem? f) v]
    refine S0 ?_
    exact .id rfl
   | false=>
    refine S0 ?_
    exact ⟨_,by simp only[Tm.l_mk];omega,I38.mk (i+1) _ _ Z2 (by simp only[Tm.l_mk];omega) (by simp only[Tm.l_mk];rw[dE1 f,c,v];rfl) (by first|assumption|(push_cast(disch:=first|omega|(apply id;push_cast;try omega))[j];try omega)) (by first|assumption|(push_cast(disch:=first|omega|(apply id;push_cast;try omega))[d];try omega)) tH⟩
  ·have u:i=l.length:=Z0
   subst u
   rw[List.take_length] at c
   rw[c]
   refine S3 g j d ?_
   rw[yU1]
   refine S0 ?_
   exact .id rfl
 termination_by t=>SizeOf.sizeOf t
abbrev KT:List Zu:=[32,118,97,114,32,115,116,97,99,107,32,112,114,111,99,32,115,107,105,112,32,100,111,32,112,117,115,104,32,114,101,118,101,114,115,101,32,97,99,99,101,112,116,32,109,101,114,103,101,32,98,108,111,99,107,32,101,120,105,116,32,105,102,32,101,108,115,101,32,99,104,111,111,115,101,32,112,97,114,32,99,97,108,108,32]
abbrev KU:List Zu:=[118,97,114,32,115,116,97,99,107,32,112,114,111,99,32,115,107,105,112,32,100,111,32,112,117,115,104,32,114,101,118,101,114,115,101,32,97,99,99,101,112,116,32,109,101,114,103,101,32,98,108,111,99,107,32,101,120,105,116,32,105,102,32,101,108,115,101,32,99,104,111,111,115,101,32,112,97,114,32,99,97,108,108,32]
def KM (l:List Zu)(i:Nat):Prop:=i+l.length+2≤85∧KT.getD i 0=32∧KT.getD (i+l.length+1) 0=32∧(KT.drop (i+1)).take l.length=l
theorem mV1 {l:List Zu}(h:l∈wY0):(32:Zu)∉l:=by
 have:∀ w∈wY0,(32:Zu)∉w:=by decide
 exact this l h
theorem bM2 {l:List Zu}(h:l∈wY0):0<l.length:=by
 have:∀ w∈wY0,0<w.length:=by decide
 exact this l h
theorem tW2 {l:List Zu}(h:l∈wY0):∃ i,KM l i:=by
 have:∀ w∈wY0,∃ i∈List.range 85,i+w.length+2≤85∧KT.getD i 0=32∧KT.getD (i+w.length+1) 0=32∧(KT.drop (i+1)).take w.length=w:=by decide +kernel
 obtain ⟨i,_,a⟩:=this l h
 exact ⟨i,a⟩
theorem tV2:∀ i∈List.range 85,∀ n∈List.range 85,i+n+2≤85→0<n→KT.getD i 0=32→KT.getD (i+n+1) 0=32→(32:Zu)∉(KT.drop (i+1)).take n→(KT.drop (i+1)).take n∈wY0:=by decide +kernel
theorem keys_in {l:List Zu}{i:Nat}(h:KM l i)(h0:0<l.length)(a:(32:Zu)∉l):l∈wY0:=by
 obtain ⟨e,b,d,c⟩:=h
 have:=tV2 i (List.mem_range.2 Z0) l.length (List.mem_range.2 Z0) e h0 b d (by rw[c];exact a)
 rwa [c] at this
theorem wid {a:Int}(h:-9223372036854775808≤a∧a≤9223372036854775807):IntKind.i64.wrap a=a:=by
 simp only[IntKind.wrap_i64];omega
theorem bt32 (l:List Zu)(i:Nat):(bt l i=32)=(l.getD i 0=32):=by
 apply propext
 constructor
 ·intro e
  have:(l.getD i 0).toNat=32:=by unfold bt at e;omega
  exact UInt8.toNat_inj.1 this
 ·intro e;unfold bt;rw[e];rfl
inductive lE2 (l:List Zu)(i:Nat):Nat→S→Prop
 | mk (k:Nat) (iv kv:Int) (h:jA) {x1 x2 x5 x6 x7 x8 x9 xA xB xC xD xE xF xG xH xI xJ xK xL xM xN xO xP xQ xR xS xT xU xV xW xX xY xZ yA yB yC yD yE yF yG yH yI yJ yK yL yM yN yO yP:Z6} (hiv:iv=(i:Int)) (hkv:kv=(k:Int)) (hk:k≤l.length) (h32:∀ j,j<k→l.getD j 0≠32) (hl1:h.lo=1) (hl2:1≤h.next) :
  lE2 l i (l.length-k) ⟨(F52 (.string (Tx l)) x1 x2 (.int .i64 iv) (.int .i64 kv) x5 x6 x7 x8 x9 xA xB xC xD xE xF xG xH xI xJ xK xL xM xN xO xP xQ xR xS xT xU xV xW xX xY xZ yA yB yC yD yE yF yG yH yI yJ yK yL yM yN yO yP),[],h⟩
inductive IKey (l:List Zu):Nat→S→Prop
 | mk (i:Nat) (iv:Int) (h:jA) {x1 x2 x4 x5 x6 x7 x8 x9 xA xB xC xD xE xF xG xH xI xJ xK xL xM xN xO xP xQ xR xS xT xU xV xW xX xY xZ yA yB yC yD yE yF yG yH yI yJ yK yL yM yN yO yP:Z6} (hiv:iv=(i:Int)) (hi:i≤86) (hno:∀ j,j<i→¬ KM l j) (hl1:h.lo=1) (hl2:1≤h.next) :
  IKey l (86-i) ⟨(F52 (.string (Tx l)) x1 x2 (.int .i64 iv) x4 x5 x6 x7 x8 x9 xA xB xC xD xE xF xG xH xI xJ xK xL xM xN xO xP xQ xR xS xT xU xV xW xX xY xZ yA yB yC yD yE yF yG yH yI yJ yK yL yM yN yO yP),[],h⟩
theorem yT3 (l:List Zu)(Y:l.length<1000000000000):jG (pp G) H0 111 [.string (Tx l)] (.bool (keyF l)):=by
 refine cE G eS3 Z7 (zJ2 ..) λX=>?_;rw[yQ2]
 refine S0 ?_
 refine WD.loop4 (q:=qq) (jS G) Z7 (IKey l) ?_ _ _ (IKey.mk 0 0 _ rfl Z0 (λj o=>by omega) rfl tH)
 intro k T L
 cases L with|mk i P h t hi y a c=>
 subst t
 rw[pZ0]
 have s:IntKind.i64.wrap ((i:Int)+l.length)=i+l.length:=wid Z0
 have u:IntKind.i64.wrap ((i:Int)+l.length+2)=i+l.length+2:=wid Z0
 have w:l∈wY0→keyF l=true:=λh=>decide_eq_true h
 have d:l∉wY0→keyF l=false:=λh=>decide_eq_false h
 by_cases r:(i:Int)+l.length+2≤85
 ·by_cases H:(0:Int)<l.length
  ·have I:(i:Int)<85:=Z0
   have g:(KT.length:Int)=85:=rfl
   have E:IntKind.i64.wrap ((i:Int)+l.length+1)=i+l.length+1:=wid Z0
   have C:IntKind.i64.wrap ((i:Int)+1)=i+1:=wid Z0
   have J:IntKind.i64.wrap ((i:Int)+1+l.length)=i+1+l.length:=wid Z0
   have B:((i:Int)+l.length+1).toNat=i+l.length+1:=Z0
   have D:((i:Int)+1).toNat=i+1:=Z0
   have x:((i:Int)+1+l.length).toNat-(i+1)=l.length:=Z0
   push_cast(disch:=first|omega|(apply id;push_cast;try omega))[s,u,E,C,J,r,H,B,D,x,I,g,Z4]
   have v:¬ KM l i→∀ j,j<i+1→¬ KM l j:=λh0 j o=>by
    rcases Nat.lt_or_ge j i with F|F
    ·exact y j F
    ·rw[show j=i by omega];exact h0
   by_cases b:bt KT i=32
   ·by_cases f:bt KT (i+l.length+1)=32
    ·by_cases n:(KU.drop i).take l.length=l
     ·push_cast(disch:=first|omega|(apply id;push_cast;try omega))[b,f,n,s,u,E,C,J,B,D,x,g,beq_self_eq_true]
      have R:KM l i:=⟨Z0,by rw[← bt32];exact b,by rw[← bt32];exact f,n⟩
      refine WD.loop4 (q:=qq) (jS G) Z7 (lE2 l i) ?_ _ _ (lE2.mk 0 _ 0 _ rfl rfl Z0 (λj o=>by omega) a c)
      clear a c
      intro k T L
      cases L with|mk k P kv h t M Z K a c=>
      subst t M
      rw[pY0]
      by_cases p:(k:Int)<l.length
      ·by_cases m:bt l k=32
       ·have V : l ∉ wY0 := fun h0 => by
         have e:=(bt32 l k).mp m
         apply mV1 h0
         rw[← e,List.getD_eq_getElem?_getD,List.getElem?_eq_getElem Z0]
         exact List.getElem_mem _
        refine S3 p @Z4 m ?_
        rw[d V]
        exact .id rfl
       ·refine S3 p @Z4 m ?_
        exact ⟨_,Z0,lE2.mk (k+1) _ _ _ Z2 Z2 Z0 (λj o=>by
         rcases Nat.lt_or_ge j k with F|F
         ·exact K j F
         ·rw[show j=k by omega];intro e;exact m (by rw[bt32];exact e)) a c⟩
      ·have N : l ∈ wY0 := keys_in R Z0 (fun h0 => by
        obtain ⟨j,o,e⟩:=List.getElem_of_mem h0
        apply K j Z0
        rw[List.getD_eq_getElem?_getD,List.getElem?_eq_getElem o]
        exact e)
       refine S1 p ?_
       rw[pX0]
       refine S0 ?_
       rw[w N]
       exact .id rfl
     ·have z:((KU.drop i).take l.length == l)=false:=beq_eq_false_iff_ne.2 n
      push_cast(disch:=first|omega|(apply id;push_cast;try omega))[b,f,z,s,u,E,C,J,B,D,x,g]
      exact ⟨_,Z0,IKey.mk (i+1) _ _ Z2 Z0 (v λh0=>n h0.2.2.2) a c⟩
    ·push_cast(disch:=first|omega|(apply id;push_cast;try omega))[b,f,s,u,E,C,J,B,D,x,g]
     exact ⟨_,Z0,IKey.mk (i+1) _ _ Z2 Z0 (v λh0=>f (by rw[bt32];exact h0.2.2.1)) a c⟩
   ·push_cast(disch:=first|omega|(apply id;push_cast;try omega))[b,s,u,E,C,J,B,D,x,g]
    exact ⟨_,Z0,IKey.mk (i+1) _ _ Z2 Z0 (v λh0=>b (by rw[bt32];exact h0.2.1)) a c⟩
  ·refine S4 s u r H ?_
   rw[d λh0=>by have:=bM2 h0;omega]
   rw[gV0]
   refine S0 ?_
   exact .id rfl
 ·have A : l ∉ wY0 := fun h0 => by
   obtain ⟨j,o⟩:=tW2 h0
   exact y j (by have:=o.1;omega) o
  refine S3 s u r ?_
  rw[d A]
  rw[gV0]
  refine S0 ?_
  exact .id rfl
theorem zW3 (r:Int)(b:Zb):jG (pp G) H0 112 [.int .u8 r,.bool b] (.bool (eN r || (!b&&(qO0 r || decide (r=95))))):=by
 refine cE G eR3 Z7 (zN2 ..) λg=>?_;rw[yP2]
 unfold eN qO0
 by_cases a:97≤r∧r≤122
 ·rw[decide_eq_true a,Bool.true_or]
  obtain ⟨a,c⟩:=a
  refine S2 a c ?_
  exact .id rfl
 rw[decide_eq_false a,Bool.false_or]
 have i:∀ {b:Zb},b=(decide (97≤r)&&decide (r≤122))→b=false:=λh=>by rw[h];simp;omega
 by_cases c:97≤r
 case' pos=>
  have f:¬ r≤122:=λh=>a ⟨c,h⟩
  push_cast(disch:=first|omega|(apply id;push_cast;try omega))[c,f]
 case' neg=>push_cast(disch:=first|omega|(apply id;push_cast;try omega))[c]
 all_goals
  cases b with
  | true=>
   refine S2 @Bool.not_true @Bool.false_and ?_
   exact .id rfl
  | false=>
   refine S2 @Bool.not_false @Bool.true_and ?_
   by_cases d:48≤r
   ·by_cases e:r≤57
    ·rw[decide_eq_true (⟨d,e⟩:48≤r∧r≤57),Bool.true_or]
     refine S2 d e ?_
     exact .id rfl
    ·rw[decide_eq_false (λh:48≤r∧r≤57=>e h.2),Bool.false_or]
     refine S2 d e ?_
     exact .id rfl
   ·rw[decide_eq_false (λh:48≤r∧r≤57=>d h.1),Bool.false_or]
    refine S1 d ?_
    exact .id rfl
theorem sJ2 (c:Zu)(b:Zb):(eN (c.toNat:Int) || (!b&&(qO0 (c.toNat:Int) || decide ((c.toNat:Int)=95))))=if b then small c else bC c:=by
 have a:eN (c.toNat:Int)=small c:=by unfold eN small;congr 1;simp only[eq_iff_iff];omega
 have d:qO0 (c.toNat:Int)=digit c:=by unfold qO0 digit;congr 1;simp only[eq_iff_iff];omega
 have e:decide ((c.toNat:Int)=95)=decide (c.toNat=95):=by congr 1;simp only[eq_iff_iff];omega
 rw[a,d,e]
 cases b
 ·simp[bC,Bool.or_assoc]
 ·simp
inductive I35 (s:List Zu):Nat→S→Prop
 | mk (i:Nat) (iv:Int) (h:jA) {x1 x2 x4 x5 x6 x7 x8 x9 xA xB xC xD xE xF xG xH xI xJ xK xL xM xN xO xP xQ xR xS:Z6} (hiv:iv=(i:Int)) (hi:i≤s.length) (h0:0<i→small (s.getD 0 0)=true) (ha:∀ j,j<i→bC (s.getD j 0)=true) (hl1:h.lo=1) (hl2:1≤h.next) :
  I35 s (s.length-i) ⟨(F29 (.string (Tx s)) x1 x2 (.int .i64 iv) x4 x5 x6 x7 x8 x9 xA xB xC xD xE xF xG xH xI xJ xK xL xM xN xO xP xQ xR xS),[],h⟩
theorem oX0 {c:Zu}(h:small c=true):bC c=true:=by unfold bC;rw[h];rfl
theorem sE2 (s:List Zu):jG (pp G) H0 75 [.string (Tx s)] (.bool (qU0 s)):=by
 refine cE G fir75 Z7 (yG0 ..) λx=>?_;rw[pJ2]
 unfold qU0
 by_cases n:s=[]
 ·subst n
  refine S0 ?_
  exact .id rfl
 have l:0<s.length:=List.length_pos_iff.2 n
 have c:¬ (s.length:Int)<1:=Z0
 rw[decide_eq_false n,Bool.not_false,Bool.true_and]
 by_cases t:(20:Int)<s.length
 ·rw[decide_eq_false (show ¬ s.length≤20 by omega),Bool.false_and]
  refine S2 c t ?_
  exact .id rfl
 rw[decide_eq_true (show s.length≤20 by omega),Bool.true_and]
 refine S2 c t ?_
 refine dK (yT3 G s Z0) ?_
 cases A:keyF s with
 | true=>
  rw[Bool.not_true,Bool.false_and]
  refine S0 ?_
  exact .id rfl
 | false=>
  rw[Bool.not_false,Bool.true_and]
  refine S0 ?_
  refine WD.loop4 (q:=qq) (jS G) Z7 (I35 s) ?_ _ _ (I35.mk 0 0 _ rfl (Nat.zero_le _) (λh=>by omega) (λj r=>by omega) rfl tH)
  intro m z v
  cases v with|mk i y h o hi h0 u b f=>
  subst o
  rw[kH1]
  by_cases a:(i:Int)<s.length
  ·refine S2 a @Z4 ?_
   refine dK (zW3 G (bt s i) (decide ((i:Int)=0))) ?_
   rw[show bt s i=((s.getD i 0).toNat:Int) from rfl,sJ2]
   by_cases k:i=0
   ·subst k
    rw[if_pos Z1]
    cases d:small (s.getD 0 0) with
    | true=>
     refine S1 @Bool.not_true ?_
     exact ⟨_,Z0,I35.mk 1 _ _ Z2 Z0 (λ_=>d) (λj r=>by rw[show j=0 by omega];exact oX0 d) b f⟩
    | false=>
     refine S2 @Bool.not_false @Bool.false_and ?_
     exact .id rfl
   ·rw[if_neg (by simp;omega)]
    cases d:bC (s.getD i 0) with
    | true=>
     refine S1 @Bool.not_true ?_
     exact ⟨_,Z0,I35.mk (i+1) _ _ Z2 Z0 (λ_=>h0 Z0) (λj r=>by
      by_cases e:j=i
      ·subst e;exact d
      ·exact u j Z0) b f⟩
    | false=>
     have g:¬ bY bC s=s.length:=λe=>by
      have:=zZ0 bC s i Z0
      rw[d] at this;cases this
     rw[h0 Z0,decide_eq_false g]
     refine S2 @Bool.not_false @Bool.true_and ?_
     exact .id rfl
  ·have p:i=s.length:=Z0
   subst p
   have w:=wL1 bC s
   have g:bY bC s=s.length:=by
    rcases Nat.lt_or_ge (bY bC s) s.length with h|h
    ·have:=sM0 bC s h
     rw[u _ h] at this;cases this
    ·omega
   rw[h0 l,decide_eq_true g]
   refine S1 a ?_
   rw[kG1]
   refine S0 ?_
   exact .id rfl
theorem lP1 (v h p:Int)(x:Tm)(a:smT x=true):jG (pp G) H0 32 [tmV x,.int .i64 v,.int .i64 h,.int .i64 p] (.bool (kQ v h p false x)):=by
 refine cE G fir32 Z7 (yH0 ..) λc=>?_;rw[rN2]
 refine S0 ?_
 refine dK (rt_f G v h p x false a) ?_
 refine S0 ?_
 exact .id rfl
theorem kL3 {P:Z9}{N:Nat}{σ:jA}(d:szT P eE=some 4)(k a b:Int)(s:List Zu){f:Zb}{cs:List Z6}{n:Nat}{l:List Tm}(h:n=l.length)(c:FzL P N σ cs (jX l)) :
  FzV P N σ (.agg ⟨[.int .i64 k,.int .i64 a,.int .i64 b,.string (Tx s),.int .i64 0,.int .i64 0,.string (Tx []),.slice none 0 0,Rw f etm n cs]⟩) (tmV (.mk k a b s zE l)):=by
 subst h
 exact .agg (.cons (.id rfl) (.cons (.id rfl) (.cons (.id rfl) (.cons (.id rfl) (.cons (.id rfl) (.cons (.id rfl) (.cons (.id rfl) (.cons (.nil (size:=4) d Z1) (.cons (.row c) .nil)))))))))
mutual
def jQ0 (v h p:Int):Tm→Zb
 | .mk k a b s e l=>!decide (k<0)&&(!decide (14<k)&&(decide ((l.length:Int)=shL k)&&(numF v h p k a b&&((fA k || decide (a=0))&&((fB k || decide (b=0))&&((fN k == !decide (s=[]))&&((!fN k || qU0 s)&&((!fE k || qY v e)&&((fE k || wV0 e zE)&&(bL v h p l&&(!decide (k=3) || !bZ (l.take 1))))))))))))
def bL (v h p:Int):List Tm→Zb
 | []=>true
 | x :: l=>jQ0 v h p x&&bL v h p l
end
theorem rM0 {v h p:Int}(a b:List Tm):bL v h p (a++b)=(bL v h p a&&bL v h p b):=by
 induction a with
 | nil=>simp[bL]
 | cons x a c=>simp[bL,c,Bool.and_assoc]
theorem mB0 {v a p:Int}{l:List Tm}{i:Nat}{x:Tm}(h:l[i]?=some x):bL v a p (l.take (i+1))=(bL v a p (l.take i)&&jQ0 v a p x):=by
 rw[jT h,rM0];simp[bL]
theorem dP0 {v a p:Int}:∀ {l:List Tm} {x:Tm},x∈l→jQ0 v a p x=false→bL v a p l=false
 | y :: l,x,h,hx=>by
  rw[bL]
  rcases List.mem_cons.1 h with rfl|h
  ·rw[hx];rfl
  ·rw[dP0 h hx,Bool.and_false]
inductive I16 (v st p:Int)(k a b:Int)(s:List Zu)(e:Ex)(l:List Tm):Nat→S→Prop
 | mk (i:Nat) (iv:Int) (h:jA) {x0 x5 x6 x7 x8 x9 xB xC xD xE xF xG xH xI xJ xK xL xM xN xO xP xQ xR xS xT xU xV xW xX xY xZ yA yB yC yD yE yF yG yH yI yJ yK yL yM yN yO yP yQ yR yS yT yU yV yW yX yY yZ zA zB zC zD zF zG zH zI zJ zK zL zM zN zO zP zQ zR zS zU zV zW zX zY zZ wA wB wC wD wE wF wG wH wI wJ wK wL wM wN wO wP wQ wR wS wU wV wW wX wY wZ uA uB uC uD uE uF uG uH uI uJ uK uL:Z6} (hiv:iv=(i:Int)) (hi:i≤l.length) (hok:bL v st p (l.take i)=true) (c1:cells h 1=some (tmC (.mk k a b s e l),etm,false)) (hl1:h.lo=1) (hl2:2≤h.next) :
  I16 v st p k a b s e l (l.length-i) ⟨(F123 x0 (.int .i64 v) (.int .i64 st) (.int .i64 p) (.pointer (some ⟨1,0,none⟩)) x5 x6 x7 x8 x9 (.int .i64 iv) xB xC xD xE xF xG xH xI xJ xK xL xM xN xO xP xQ xR xS xT xU xV xW xX xY xZ yA yB yC yD yE yF yG yH yI yJ yK yL yM yN yO yP yQ yR yS yT yU yV yW yX yY yZ zA zB zC zD zF zG zH zI zJ zK zL zM zN zO zP zQ zR zS zU zV zW zX zY zZ wA wB wC wD wE wF wG wH wI wJ wK wL wM wN wO wP wQ wR wS wU wV wW wX wY wZ uA uB uC uD uE uF uG uH uI uJ uK uL),[],h⟩
theorem gH2 (v o p:Int)(k a b:Int)(s:List Zu)(e:Ex)(l:List Tm)(hll:l.length<100000000000)(w:cC l=true)(h3:k=3→l.length=1)
  (ih:∀ x∈l,jG (pp G) H0 35 [tmV x,.int .i64 v,.int .i64 o,.int .i64 p] (.bool (jQ0 v o p x))) (h:jA)
  (g:cells h 1=some (tmC (.mk k a b s e l),etm,false)) (d:h.lo=1) (n:2≤h.next) {c:Zb} (hc:c=(bL v o p l&&(!decide (k=3) || !bZ (l.take 1)))) {x0 x5 x6 x7 x8 x9 xB xC xD xE xF xG xH xI xJ xK xL xM xN xO xP xQ xR xS xT xU xV xW xX xY xZ yA yB yC yD yE yF yG yH yI yJ yK yL yM yN yO yP yQ yR yS yT yU yV yW yX yY yZ zA zB zC zD zF zG zH zI zJ zK zL zM zN zO zP zQ zR zS zU zV zW zX zY zZ wA wB wC wD wE wF wG wH wI wJ wK wL wM wN K B D F y C Z M P A R J X N E L T u V uI Y I z:Z6} :
  WD (pp G) qq.H none (.loop sG0) ⟨(F123 x0 (.int .i64 v) (.int .i64 o) (.int .i64 p) (.pointer (some ⟨1,0,none⟩)) x5 x6 x7 x8 x9 (.int .i64 0) xB xC xD xE xF xG xH xI xJ xK xL xM xN xO xP xQ xR xS xT xU xV xW xX xY xZ yA yB yC yD yE yF yG yH yI yJ yK yL yM yN yO yP yQ yR yS yT yU yV yW yX yY yZ zA zB zC zD zF zG zH zI zJ zK zL zM zN zO zP zQ zR zS zU zV zW zX zY zZ wA wB wC wD wE wF wG wH wI wJ wK wL wM wN K B D F y C Z M P A R J X N E L T u V uI Y I z),[],h⟩
   (@kR ⟨kZ 0 (cQ (λs1=>dc3 (pp G) qq none sF0 s1 (@kR ⟨jO prog [.tmp 8] (λv' σ'=>FzV prog 1 σ' v' (.bool c))⟩)) (jO prog [.tmp 8] (λv' σ'=>FzV prog 1 σ' v' (.bool c))))⟩):=by
 refine WD.loop4 (q:=qq) (jS G) Z7 (I16 v o p k a b s e l) ?_ _ _ (I16.mk 0 0 h rfl (Nat.zero_le _) rfl g d n)
 clear g d n
 intro m s1 hI
 cases hI with|mk i iv h hiv hi j g d n=>
 subst hiv
 rw[yX1]
 rw[bH] at g
 by_cases r:(i:Int)<l.length
 ·obtain ⟨x,hx⟩:=jU (l:=l) (i:=i) Z0
  have t:=List.mem_of_getElem? hx
  have hp:=gA hx
  have hle:i*9+9≤l.length*9:=Z0
  refine S6 r g @Z4 hp hle d ?_
  refine dK (ih x t) ?_
  cases hr:jQ0 v o p x with
  | false=>
   obtain rfl:c=false:=by rw[hc,dP0 t hr];rfl
   refine S0 ?_
   exact .id rfl
  | true=>
   refine S0 ?_
   exact ⟨_,Z0,I16.mk (i+1) _ _ Z2 Z0 (by rw[mB0 hx,j,hr];rfl) (by first|assumption|(push_cast(disch:=first|omega|(apply id;push_cast;try omega))[g];try omega)) (by first|assumption|(push_cast(disch:=first|omega|(apply id;push_cast;try omega))[d];try omega)) tH⟩
 ·have hie:i=l.length:=Z0
  subst hie
  rw[List.take_length] at j
  rw[j,Bool.true_and] at hc
  refine S3 r g d ?_
  rw[yW1]
  by_cases f:k=3
  ·have hl:=h3 f
   obtain ⟨x,rfl⟩:∃ x,l=[x]:=by
    match l,hl with
    | [x],_=>exact ⟨x,rfl⟩
   have hp:=gA (l:=[x]) (i:=0) rfl
   rw[Nat.zero_mul,List.drop_zero] at hp
   simp only[cC,Z5] at w
   refine S4 g d f hp ?_
   refine dK (wF3 G x w.1) ?_
   obtain rfl:c = !anyT x:=by rw[hc];simp[f,bZ]
   refine S0 ?_
   exact .id rfl
  ·obtain rfl:c=true:=by rw[hc];simp[f]
   refine S3 g d f ?_
   exact .id rfl
theorem fzE0 (N:Nat)(σ:jA):FzV prog N σ (.agg ⟨[.int .i64 0,.int .i64 0,.string (Tx []),.slice none 0 0]⟩) (exV zE):=.agg (.cons (.id rfl) (.cons (.id rfl) (.cons (.id rfl) (.cons (.nil (size:=4) rfl Z1) .nil))))
theorem yN3 (v g p:Int):∀ x:Tm,smT x=true→jG (pp G) H0 35 [tmV x,.int .i64 v,.int .i64 g,.int .i64 p] (.bool (jQ0 v g p x))
 | .mk k a b s e l,hs=>by
  have I:=hs
  simp only[smT,Z5,decide_eq_true_eq] at hs
  obtain ⟨⟨y,q⟩,n⟩:=hs
  have J:∀ x∈l,jG (pp G) H0 35 [tmV x,.int .i64 v,.int .i64 g,.int .i64 p] (.bool (jQ0 v g p x)):=λx H=>yN3 v g p x (kK n x H)
  obtain ⟨c,d⟩:∃ c,c=jQ0 v g p (.mk k a b s e l):=⟨_,rfl⟩
  rw[← d]
  rw[jQ0] at d
  refine cE G fir35 Z7 (lJ2 ..) λK=>?_;rw[rK2]
  refine S0 ?_
  refine dK (of_f G k) ?_
  unfold ofV
  by_cases m:k<0
  ·obtain rfl:c=false:=by rw[d];simp[m]
   refine S1 m ?_
   exact .id rfl
  by_cases o:14<k
  ·obtain rfl:c=false:=by rw[d];simp[o]
   refine S2 m o ?_
   exact .id rfl
  by_cases j:(l.length:Int)=shL k
  rotate_left
  ·obtain rfl:c=false:=by rw[d];simp[j]
   refine S3 m o j ?_
   exact .id rfl
  have D:k=3→l.length=1:=λh=>by
   rw[h] at j;simp[shL] at j;omega
  refine S3 m o j ?_
  refine dK (num_f G v g p k a b s e l) ?_
  cases F:numF v g p k a b with
  | false=>
   obtain rfl:c=false:=by rw[d];simp[F]
   refine S0 ?_
   exact .id rfl
  | true=>
  rw[decide_eq_false m,decide_eq_false o,decide_eq_true j,F] at d
  simp only[Bool.not_false,Bool.true_and] at d
  generalize fA k=A at d ⊢
  generalize fB k=B at d ⊢
  generalize fN k=N at d ⊢
  generalize fE k=E at d ⊢
  have z:A=true∨(A=false∧a=0)∨(A=false∧a≠0):=by cases A<;>simp[Classical.em]
  have w:B=true∨(B=false∧b=0)∨(B=false∧b≠0):=by cases B<;>simp[Classical.em]
  rcases z with rfl|⟨rfl,r⟩|⟨rfl,r⟩
  rotate_right
  ·obtain rfl:c=false:=by rw[d];simp[r]
   refine S1 r ?_
   exact .id rfl
  case' inl=>push_cast(disch:=first|omega|(apply id;push_cast;try omega))
  case' inr.inl=>push_cast(disch:=first|omega|(apply id;push_cast;try omega))[r]
  all_goals
   rcases w with rfl|⟨rfl,t⟩|⟨rfl,t⟩
   rotate_right
   ·obtain rfl:c=false:=by rw[d];simp[t]
    refine S1 t ?_
    exact .id rfl
   case' inl=>push_cast(disch:=first|omega|(apply id;push_cast;try omega))
   case' inr.inl=>push_cast(disch:=first|omega|(apply id;push_cast;try omega))[t]
  all_goals
   by_cases i:s=[]
   case' pos=>
    have f:(s == ([]:List Zu))=true:=by simpa using i
    cases N
    case true=>
     obtain rfl:c=false:=by rw[d];simp[i]
     (rw[f,show (!(true == !true))=true from rfl];push_cast(disch:=first|omega|(apply id;push_cast;try omega)))
     exact .id rfl
    case' false=>(rw[f,show (!(false == !true))=false from rfl];push_cast(disch:=first|omega|(apply id;push_cast;try omega)))
   case' neg=>
    have f:(s == ([]:List Zu))=false:=by simpa using i
    cases N
    case false=>
     obtain rfl:c=false:=by rw[d];simp[i]
     (rw[f,show (!(false == !false))=true from rfl];push_cast(disch:=first|omega|(apply id;push_cast;try omega)))
     exact .id rfl
    case' true=>
     (rw[f,show (!(true == !false))=false from rfl];push_cast(disch:=first|omega|(apply id;push_cast;try omega)))
     refine dK (sE2 G s) ?_
     cases C:qU0 s
     case false=>
      obtain rfl:c=false:=by rw[d];simp[C]
      refine S1 @Bool.not_false ?_
      exact .id rfl
     case' true=>push_cast(disch:=first|omega|(apply id;push_cast;try omega))[Bool.not_true]
  all_goals
   cases E
   case' true=>
    refine S0 ?_
    refine dK (rr_f G v e q) ?_
    cases u:qY v e
    case false=>
     obtain rfl:c=false:=by rw[d];simp[u]
     refine S1 @Bool.not_false ?_
     exact .id rfl
    case' true=>push_cast(disch:=first|omega|(apply id;push_cast;try omega))[Bool.not_true]
   case' false=>
    refine S0 ?_
    refine jD.data (mE2 G e zE q rfl) (.cons (.id (nI0 _ H0q e)) (.cons (fzE0 ..) .nil)) (by first|rfl|(simp(disch:=first|omega|(apply id;push_cast;try omega))only[push_cast])) (by first|rfl|(simp(disch:=first|omega|(apply id;push_cast;try omega))only[push_cast])) ?_
    cases u:wV0 e zE
    case false=>
     obtain rfl:c=false:=by rw[d];simp[u]
     refine S1 @Bool.not_false ?_
     exact .id rfl
    case' true=>push_cast(disch:=first|omega|(apply id;push_cast;try omega))[Bool.not_true]
  all_goals exact gH2 G v g p k _ _ s e l y n D J _ (by push_cast(disch:=first|omega|(apply id;push_cast;try omega));first|done|rfl) (by push_cast(disch:=first|omega|(apply id;push_cast;try omega))) (by push_cast(disch:=first|omega|(apply id;push_cast;try omega))) (by rw[d];simp[*])
theorem gG2:∀ e:Ex,wV0 e zE = !bB e
 | .mk k n s l=>by
  unfold bB zE
  rw[wV0]
  simp only[Ex.k,Ex.n,Ex.s,Ex.l]
  cases l with
  | nil=>by_cases h:k=0<;>by_cases a:n=0<;>by_cases c:s=[]<;>simp[h,a,c,qN0]
  | cons x l=>simp
theorem lZ0 {v:Int}:∀ {e:Ex},qY v e=true→bB e=true
 | .mk k n s l,h=>by
  have:k≠0:=by
   rintro rfl
   simp[qY] at h
  simp[bB,Ex.k,this]
theorem sX2 (v:Int)(k:Int)(s:List Zu)(e:Ex)(j:0≤k∧k<15) :
  (decide ((if s=[] then (0:Int) else 1)=shN k∧(if bB e then (1:Int) else 0)=shE k)&&((decide (s=[]) || qU0 s)&&(!bB e || qY v e)))=((fN k == !decide (s=[]))&&((!fN k || qU0 s)&&((!fE k || qY v e)&&(fE k || wV0 e zE)))):=by
 rw[gG2]
 have f:shN k=if fN k then 1 else 0:=by unfold shN fN;simp
 have c:shE k=if fE k then 1 else 0:=by unfold shE fE;simp
 rw[f,c]
 have b:s=[]→qU0 s=false:=λh=>by subst h;rfl
 have a:bB e=false→qY v e=false:=λh=>by
  cases d:qY v e with
  | false=>rfl
  | true=>rw[lZ0 d] at h;cases h
 generalize fN k=N
 generalize fE k=E
 generalize qU0 s=nm at b ⊢
 generalize qY v e=r at a ⊢
 generalize bB e=g at a ⊢
 by_cases i:s=[]<;>cases N<;>cases E<;>cases nm<;>cases r<;>cases g<;>simp_all
theorem gW3 (v h p:Int)(d:0≤v)(k a b:Int)(c:0≤k∧k<15):(uL0 v h p (shA k) a&&uL0 v h p (shB k) b)=(numF v h p k a b&&((fA k || decide (a=0))&&(fB k || decide (b=0)))):=by
 obtain rfl|rfl|rfl|rfl|rfl|rfl|rfl|rfl|rfl|rfl|rfl|rfl|rfl|rfl|rfl:k=0∨k=1∨k=2∨k=3∨k=4∨k=5∨k=6∨k=7∨k=8∨k=9∨k=10∨k=11∨k=12∨k=13∨k=14:=Z0
 all_goals
  simp[uL0,numF,shA,shB,fA,fB]
 all_goals first
  | done
  | (rw[Bool.eq_iff_iff];simp;omega)
mutual
theorem right_eq (v h p:Int)(i:0≤v):∀ (x:Tm) (q:Zb),kQ v h p q x=(jQ0 v h p x&&!(q&&anyT x))
 | .mk k a b s e l,q=>by
  have r:=lX0 v h p i l (q || decide (k=3))
  rw[kQ,jQ0,anyT,r]
  by_cases d:0≤k∧k<15
  rotate_left
  ·rw[decide_eq_false d,Bool.false_and]
   by_cases t:k<0
   ·simp[t]
   ·have f:14<k:=Z0
    simp[f]
  rw[decide_eq_true d,decide_eq_false (show ¬ k<0 by omega),decide_eq_false (show ¬ 14<k by omega)]
  simp only[Bool.not_false,Bool.true_and]
  by_cases c:(l.length:Int)=shL k
  rotate_left
  ·simp[c]
  have o:∀ W:Zb,(uL0 v h p (shA k) a&&(uL0 v h p (shB k) b&&W))=(numF v h p k a b&&((fA k || decide (a=0))&&((fB k || decide (b=0))&&W))):=λW=>by
   have:=gW3 v h p i k a b d
   rw[← Bool.and_assoc,this];simp only[Bool.and_assoc]
  have j:∀ W:Zb,(decide ((if s=[] then (0:Int) else 1)=shN k∧(if bB e then (1:Int) else 0)=shE k)&&((decide (s=[]) || qU0 s)&&((!bB e || qY v e)&&W)))=((fN k == !decide (s=[]))&&((!fN k || qU0 s)&&((!fE k || qY v e)&&((fE k || wV0 e zE)&&W)))):=λW=>by
   have:=sX2 v k s e d
   have f:∀ x y z:Zb,(x&&(y&&(z&&W)))=((x&&(y&&z))&&W):=λx y z=>by simp only[Bool.and_assoc]
   rw[f,this];simp only[Bool.and_assoc]
  have n:decide ((if s=[] then (0:Int) else 1)=shN k∧(if bB e=true then (1:Int) else 0)=shE k∧(l.length:Int)=shL k)=decide ((if s=[] then (0:Int) else 1)=shN k∧(if bB e then (1:Int) else 0)=shE k):=by
   congr 1;simp[c]
  have m:(!decide (k=3) || !bZ (l.take 1))=(!decide (k=3) || !bZ l):=by
   by_cases g:k=3
   ·subst g
    have:l.length=1:=by simp[shL] at c;omega
    rw[List.take_of_length_le Z0]
   ·simp[g]
  rw[n,o,j,m,decide_eq_true c,Bool.true_and]
  generalize numF v h p k a b=c1
  generalize (fA k || decide (a=0))=c2
  generalize (fB k || decide (b=0))=c3
  generalize (fN k == !decide (s=[]))=c4
  generalize (!fN k || qU0 s)=c5
  generalize (!fE k || qY v e)=c6
  generalize (fE k || wV0 e zE)=c7
  generalize bL v h p l=c8
  generalize bZ l=y
  generalize decide (k=14)=k14
  generalize decide (k=3)=k3
  cases q<;>cases k14<;>cases k3<;>cases y<;>simp
theorem lX0 (v h p:Int)(a:0≤v):∀ (l:List Tm) (q:Zb),kX v h p q l=(bL v h p l&&!(q&&bZ l))
 | [],q=>by simp[kX,bL,bZ]
 | x :: l,q=>by
  rw[kX,bL,bZ,right_eq v h p a x q,lX0 v h p a l q]
  generalize jQ0 v h p x=c1
  generalize bL v h p l=c2
  cases q<;>cases anyT x<;>cases bZ l<;>simp
end
theorem yO3 (v h p:Int)(a:0≤v)(x:Tm):jQ0 v h p x=kQ v h p false x:=by rw[right_eq v h p a x false];simp
theorem wtB_0 (n:Int):wtB 0 n=false:=by
 unfold wtB
 rw[Int.zero_fdiv]
 decide
mutual
theorem lP2:∀ (x:Tm) (p:Zb) (n:Int),(wtF 0 p x n).1=x
 | .mk k a b s e l,p,n=>by
  rw[wtF]
  simp only[wtB_0,Bool.and_false]
  have h:=λm=>lO2 l (p || is3 k) m
  split<;>simp[h]
theorem lO2:∀ (l:List Tm) (p:Zb) (n:Int),(wtL 0 p l n).1=l
 | [],_,_=>rfl
 | x :: l,p,n=>by rw[wtL,lP2 x p n,lO2 l p]
end
theorem mQ1 (V a D:List (List Zu))(x:Pr)(p:Zb)(h:okPr V a D x=true)(c:kS (cM V a D x)<4611686018427387904):kQ V.length a.length D.length p (cM V a D x)=true:=by
 have:=(jK1 V a D 0 x p 0 h Z0 Z0).1
 rwa [lP2] at this
theorem lY0 (v d q:Int):∀ x:Tm,kQ v d q true x=true→anyT x=false
 | .mk k a b s e l,h=>by
  have j:k≠14:=by
   rintro rfl
   simp[kQ] at h
  rw[kQ] at h
  simp only[Z5,decide_eq_true_eq,Bool.true_or] at h
  have c:=h.2.2.2.2.2.2.2
  have:∀ l:List Tm,(∀ x∈l,anyT x=false)→bZ l=false:=λl c=>by
   induction l with
   | nil=>rfl
   | cons y l f=>rw[bZ,c y (by simp),f λz g=>c z (by simp[g])];rfl
  rw[anyT,this l λx i=>lY0 v d q x (wW0 c x i)]
  simp[j]
 termination_by x=>SizeOf.sizeOf x
structure zE2 (c:Co):Prop where
 v:c.v.length=3
 s:c.s=2
 p:1≤c.p.length∧c.p.length≤5
 m:0≤c.m∧c.m<c.p.length
 sm:cC c.p=true
 r:∀ x∈c.p,kQ 3 2 c.p.length true x=true
 z:∀ x∈c.p,kS x≤300
def payX:Pr:=.mk 1 [112,97,121] [120] zE []
def cS0 (b:Pr):Pr:=.mk 12 [] [] zE [payX,b]
theorem mA1:okPr jM jE qU payX=true:=by decide
theorem zI1 {b:Pr}(h:okPr jM jE qU b=true):okPr jM jE qU (cS0 b)=true:=by
 unfold cS0
 rw[okPr]
 simp only[rQ0,mA1,h,Bool.and_true,Z5,decide_eq_true_eq,List.length_cons,List.length_nil]
 refine ⟨by decide,?_⟩
 and_intros<;>first|rfl|decide|simp
def shD (l:List Rb)(w:Zb):List (List Zu×Pr):=(defL l).map λx=>(x.1,if w then cS0 x.2 else x.2)
def shG (v:Int)(l:List Rb)(w:Zb):Pg:=⟨varL v,jE,shD l w⟩
theorem iO1 (l:List Rb)(w:Zb):(shD l w).map Prod.fst=qU:=by
 simp only[shD,List.map_map]
 rfl
theorem yG3 (l:List Rb)(w:Zb):∀ x∈shD l w,okPr jM jE qU x.2=true∧kS (cM jM jE qU x.2)≤300:=by
 have a:∀ r:Rb,kS (cM jM jE qU (mkP r 0))+1≤256:=λr=>qS1 r 0 Z0
 have e:∀ x∈defL l,okPr jM jE qU x.2=true∧kS (cM jM jE qU x.2)≤255:=λx h=>by
  simp only[defL,List.mem_map,List.mem_range] at h
  obtain ⟨i,hi,rfl⟩:=h
  unfold kH0
  cases g:l[i]? with
  | none=>exact ⟨(by decide:okPr jM jE qU qZ=true),(by decide:kS (cM jM jE qU qZ)≤255)⟩
  | some r=>exact ⟨qT1 r 0,by have:=a r;show kS (cM jM jE qU (mkP r 0))≤255;omega⟩
 intro x h
 simp only[shD,List.mem_map] at h
 obtain ⟨y,b,rfl⟩:=h
 obtain ⟨c,f⟩:=e y b
 cases w with
 | false=>exact ⟨c,by show kS (cM jM jE qU y.2)≤300;omega⟩
 | true=>
  refine ⟨zI1 c,?_⟩
  show kS (cM jM jE qU (cS0 y.2))≤300
  have d:kS (cM jM jE qU payX)=1:=by decide
  unfold cS0
  rw[cM,kS,gU,gU,gU,qW,qW,qW,d]
  omega
theorem iN1 (v:Int)(l:List Rb)(w:Zb):bF2 (shG v l w)=(shD l w).map λx=>cM jM jE qU x.2:=by
 have h:∀ m:List Pr,gU jM jE qU m=m.map (cM jM jE qU):=λm=>by
  induction m with
  | nil=>rw[gU];rfl
  | cons x m a=>rw[gU,a];rfl
 unfold bF2
 show gU jM jE ((shD l w).map Prod.fst) ((shD l w).map Prod.snd)=_
 rw[iO1,h,List.map_map]
 rfl
theorem gQ0 (l:List Rb)(w:Zb):(shD l w).length=5:=by simp[shD,defL]
theorem bS2 {c:Co}{v:Int}{l:List Rb}{w:Zb}(j:c.v=(varL v).map Prod.snd)(f:c.s=2)(e:c.p=bF2 (shG v l w))(n:0≤c.m∧c.m<5)(d:cC c.p=true):zE2 c:=by
 have b:c.p.length=5:=by rw[e,iN1,List.length_map,gQ0]
 have h:∀ x∈c.p,kQ 3 2 5 true x=true∧kS x≤300:=λx a=>by
  rw[e,iN1] at a
  simp only[List.mem_map] at a
  obtain ⟨y,i,rfl⟩:=a
  obtain ⟨k,g⟩:=yG3 l w y i
  exact ⟨mQ1 jM jE qU y.2 true k Z0,g⟩
 exact ⟨by rw[j,List.length_map];rfl,f,Z0,Z0,d,λx a=>by rw[b];exact (h x a).1,λx a=>(h x a).2⟩
def noC:Co:=⟨[0,0,0],2,[.mk 1 0 0 [112,97,121] zE []],0⟩
theorem bB2:zE2 noC:=⟨rfl,rfl,⟨by decide,by decide⟩,⟨by decide,by decide⟩,rfl,λx h=>by
 simp only[noC,List.mem_singleton] at h;subst h;decide,λx h=>by
 simp only[noC,List.mem_singleton] at h;subst h;decide⟩
def idxF (g:Tm→Zb):List Tm→Nat→Int
 | [],_=>-1
 | x :: l,i=>if g x=true then i else idxF g l (i+1)
theorem wJ1 (g:Tm→Zb):∀ (l:List Tm) (i:Nat),decide (0≤idxF g l i)=l.any g
 | [],_=>rfl
 | x :: l,i=>by
  rw[idxF,List.any_cons]
  split
  ·rename_i h;rw[h];simp
  ·rename_i h;rw[wJ1 g l (i+1)];simp[h]
theorem rA1 (g:Tm→Zb){l:List Tm}{i:Nat}{x:Tm}(h:l[i]?=some x):idxF g (l.drop i) i=if g x=true then (i:Int) else idxF g (l.drop (i+1)) (i+1):=by
 obtain ⟨hi,a⟩:=List.getElem?_eq_some_iff.1 h
 rw[List.drop_eq_getElem_cons hi,idxF,a]
inductive J109 (l:List Tm)(fv:Z6)(g:Tm→Zb):Nat→S→Prop
 | mk (i:Nat) (iv:Int) (h:jA) {x2 x3 x4 x5 x6 x9 xA xB xC xD xE xF xG xH xI:Z6} (hiv:iv=(i:Int)) (hi:i≤l.length) (hx:idxF g l 0=idxF g (l.drop i) i) (hl1:h.lo=1) (hl2:1≤h.next) :
  J109 l fv g (l.length-i) ⟨(F19 (kV l) fv x2 x3 x4 x5 x6 (.int .i64 l.length) (.int .i64 iv) x9 xA xB xC xD xE xF xG xH xI),[],h⟩
theorem jD3 (l:List Tm)(f:FuncId)(g:Tm→Zb)(p:l.length<100000000000)(n:∀ x∈l,jG (pp G) H0 f [tmV x] (.bool (g x))) :
  jG (pp G) H0 109 [kV l,.func (.func f) #[] #[]] (.int .i64 (idxF g l 0)):=by
 refine cE G eU3 Z7 (lA0 ..) λs=>?_;rw[yS2]
 unfold kV
 refine S0 ?_
 refine WD.loop4 (q:=qq) (jS G) Z7 (J109 l (.func (.func f) #[] #[]) g) ?_ _ _ (J109.mk 0 0 _ rfl (Nat.zero_le _) rfl rfl tH)
 intro m v o
 cases o with|mk i u h j hi a e t=>
 subst j
 rw[rB0]
 unfold kV
 by_cases b:(i:Int)<l.length
 ·obtain ⟨x,c⟩:=jU (l:=l) (i:=i) Z0
  have r:=gA c
  have d:i*9+9≤l.length*9:=Z0
  refine S5 b @Z4 r d e ?_
  refine dK (n x (List.mem_of_getElem? c)) ?_
  rw[rA1 g c] at a
  cases k:g x with
  | true=>
   rw[if_pos k] at a
   refine S1 a ?_
   exact .id rfl
  | false=>
   rw[if_neg (by rw[k];simp)] at a
   refine S0 ?_
   exact ⟨_,Z0,J109.mk (i+1) _ _ Z2 Z0 a (by first|assumption|(push_cast(disch:=first|omega|(apply id;push_cast;try omega))[e];try omega)) tH⟩
 ·obtain rfl:i=l.length:=Z0
  rw[List.drop_length] at a
  refine S1 b ?_
  rw[rA0]
  rw[a]
  refine S0 ?_
  exact .id rfl
theorem cV1 (l:List Tm)(f:FuncId)(g:Tm→Zb)(h:l.length<100000000000)(a:∀ x∈l,jG (pp G) H0 f [tmV x] (.bool (g x))) :
  jG (pp G) H0 72 [kV l,.func (.func f) #[] #[]] (.bool (l.any g)):=by
 refine cE G fir72 Z7 (zC1 ..) λc=>?_;rw[pL2]
 refine S0 ?_
 refine dK (jD3 G l f g h a) ?_
 rw[← wJ1 g l 0]
 refine S0 ?_
 exact .id rfl
theorem nX0:∀ l:List Tm,bZ l=l.any anyT
 | []=>rfl
 | x :: l=>by rw[bZ,nX0 l];rfl
theorem lE0:∀ t:Tm,smT t=true→jG (pp G) H0 33 [tmV t] (.bool (anyT t))
 | .mk k a b s e l,hs=>by
  simp only[smT,Z5,decide_eq_true_eq] at hs
  have h:=hs.1.1
  have f:∀ x∈l,jG (pp G) H0 33 [tmV x] (.bool (anyT x)):=λx g=>lE0 x (kK hs.2 x g)
  have d:=cV1 G l 33 anyT h f
  unfold kV at d
  refine cE G fir33 Z7 (zN3 ..) λi=>?_;rw[rM2]
  rw[anyT,nX0]
  by_cases c:k=14
  ·subst c
   refine S0 ?_
   exact dH rfl rfl
  ·rw[decide_eq_false c,Bool.false_or]
   refine S1 c ?_
   refine dK (d) ?_
   refine S0 ?_
   exact dH rfl rfl
 termination_by x=>SizeOf.sizeOf x
def okT (c:Co)(x:Tm):Zb:=kQ c.v.length c.s c.p.length false x&&(!anyT x&&decide (W (kS x)≤2000))
def chkC (c:Co):Zb:=decide (c.v.length≤20∧0≤c.s∧c.s≤10∧c.p.length≤20∧0≤c.m∧c.m<c.p.length)&&c.p.all (okT c)
theorem jX0 {c:Co}(h:¬ (c.v.length≤20∧0≤c.s∧c.s≤10∧c.p.length≤20∧0≤c.m∧c.m<c.p.length)):chkC c=false:=by
 unfold chkC;rw[decide_eq_false h];rfl
theorem qY2 {c:Co}{x:Tm}(a:x∈c.p)(h:okT c x=false):chkC c=false:=by
 unfold chkC
 rw[show c.p.all (okT c)=false from List.all_eq_false.2 ⟨x,a,by rw[h];simp⟩,Bool.and_false]
structure SmC (c:Co):Prop where
 v:c.v.length<100000000000
 p:c.p.length<100000000000
 t:cC c.p=true
theorem uW3 (c:Co):(coC c).all one=true:=rfl
theorem uX3 (c:Co):(coC c).length=4:=rfl
theorem qX2 (c:Co):(coV c).cells.toList=coC c:=rfl
inductive J14 (c:Co):Nat→S→Prop
 | mk (i:Nat) (iv:Int) (h:jA) {x0 x2 x3 x4 x5 x6 x7 x8 x9 xA xB xC xD xE xF xG xH xI xJ xK xL xM xN xO xP xQ xR xS xT xU xV xW xX xY xZ yA yB yC yG yH yI yJ yK yL yM yN yO yP yQ yR yS yT yU yV yW yX yY yZ zA zB zC zD:Z6} (hiv:iv=(i:Int)) (hi:i≤c.p.length) (hok:(c.p.take i).all (okT c)=true) (c0:cells h 1=some (coC c,28,false)) (hl1:h.lo=1) (hl2:2≤h.next) :
  J14 c (c.p.length-i) ⟨(F66 x0 (.pointer (some ⟨1,0,none⟩)) x2 x3 x4 x5 x6 x7 x8 x9 xA xB xC xD xE xF xG xH xI xJ xK xL xM xN xO xP xQ xR xS xT xU xV xW xX xY xZ yA yB yC (kV c.p) (.int .i64 c.p.length) (.int .i64 iv) yG yH yI yJ yK yL yM yN yO yP yQ yR yS yT yU yV yW yX yY yZ zA zB zC zD),[],h⟩
theorem bY0 (c:Co)(I:SmC c):jG (pp G) H0 14 [coV c] (.bool (chkC c)):=by
 obtain ⟨R,P,K⟩:=I
 refine cE G fir14 Z7 (wY3 ..) λJ=>?_;rw[rU2]
 by_cases d:(c.v.length:Int) > 20
 ·rw[jX0 Z0]
  unfold coV coC ivV kV
  refine S1 d ?_
  exact dH rfl rfl
 by_cases f:c.s<0
 ·rw[jX0 Z0]
  unfold coV coC ivV kV
  refine S2 d f ?_
  exact dH rfl rfl
 by_cases o:c.s > 10
 ·rw[jX0 Z0]
  unfold coV coC ivV kV
  refine S3 d f o ?_
  exact dH rfl rfl
 by_cases u:(c.p.length:Int) > 20
 ·rw[jX0 Z0]
  unfold coV coC ivV kV
  refine S4 d f o u ?_
  exact dH rfl rfl
 by_cases y:c.m<0
 ·rw[jX0 Z0]
  unfold coV coC ivV kV
  refine S5 d f o u y ?_
  exact dH rfl rfl
 by_cases E:c.m ≥ (c.p.length:Int)
 ·rw[jX0 Z0]
  unfold coV coC ivV kV
  refine S6 d f o u y E ?_
  exact dH rfl rfl
 have F:chkC c=c.p.all (okT c):=by unfold chkC;rw[decide_eq_true Z0];rfl
 unfold coV coC ivV kV
 refine S6 d f o u y E ?_
 refine WD.loop4 (q:=qq) (jS G) Z7 (J14 c) ?_ _ _ (J14.mk 0 0 _ rfl (Nat.zero_le _) rfl (by unfold coC ivV kV;push_cast(disch:=first|omega|(apply id;push_cast;try omega))) tH tH)
 intro m N H
 cases H with|mk i M h A hi e D n L=>
 subst A
 rw[gN1]
 have r:=D
 unfold coC ivV kV at r
 by_cases g:(i:Int)<c.p.length
 ·obtain ⟨x,w⟩:=jU (l:=c.p) (i:=i) Z0
  have k:=List.mem_of_getElem? w
  have b:=kK K x k
  have z:=gA w
  have j:i*9+9≤c.p.length*9:=Z0
  unfold kV
  refine S6 g @Z4 z j n r ?_
  have a:okT c x=false→chkC c=false:=qY2 k
  refine dK (lP1 G c.v.length c.s c.p.length x b) ?_
  cases t:kQ c.v.length c.s c.p.length false x with
  | false=>
   refine S0 ?_
   rw[a (by unfold okT;rw[t];rfl)]
   exact dH rfl rfl
  | true=>
  refine S0 ?_
  refine dK (lE0 G x b) ?_
  cases B:anyT x with
  | true=>
   refine S0 ?_
   rw[a (by unfold okT;rw[t,B];rfl)]
   exact dH rfl rfl
  | false=>
  refine S0 ?_
  refine dK (qC1 G x b) ?_
  by_cases C:W (kS x) > 2000
  ·refine S1 C ?_
   rw[a (by unfold okT;rw[t,B,decide_eq_false Z0];rfl)]
   exact dH rfl rfl
  ·refine S1 C ?_
   exact ⟨_,Z0,J14.mk (i+1) _ _ Z2 Z0 (by rw[jT w,List.all_append,e,List.all_cons,List.all_nil];unfold okT;rw[t,B,decide_eq_true Z0];rfl) (by first|assumption|(push_cast(disch:=first|omega|(apply id;push_cast;try omega))[D];try omega)) (by first|assumption|(push_cast(disch:=first|omega|(apply id;push_cast;try omega))[n];try omega)) tH⟩
 ·obtain rfl:i=c.p.length:=Z0
  rw[List.take_length] at e
  unfold kV
  refine S1 g ?_
  rw[gM1]
  rw[F,e]
  refine S0 ?_
  exact dH rfl rfl
inductive J15 (c:Co):Nat→S→Prop
 | mk (i:Nat) (iv:Int) (h:jA) {x0 x2 x4 x5 x6 x7 x8 x9 xA xB xC xD xE xF xG xH xI xJ xK xL xM xN xO xP xQ xR xS xT xU xV xW xX xY xZ yA yB yC yD yE yF yG yH yI yJ yK yL yM yN yO yP yQ yR yS yT yU yV yW yX yY yZ zA zB zC zD zF zG zH zI zJ zK zL zM zN zO zP zQ zR zS zU zV:Z6} (hiv:iv=(i:Int)) (hi:i≤c.p.length) (hok:(c.p.take i).all (okT c)=true) (c0:cells h 1=some (coC c,28,false)) (hl1:h.lo=1) (hl2:2≤h.next) :
  J15 c (c.p.length-i) ⟨(F82 x0 (.pointer (some ⟨1,0,none⟩)) x2 (.int .i64 iv) x4 x5 x6 x7 x8 x9 xA xB xC xD xE xF xG xH xI xJ xK xL xM xN xO xP xQ xR xS xT xU xV xW xX xY xZ yA yB yC yD yE yF yG yH yI yJ yK yL yM yN yO yP yQ yR yS yT yU yV yW yX yY yZ zA zB zC zD zF zG zH zI zJ zK zL zM zN zO zP zQ zR zS zU zV),[],h⟩
theorem uA2 (c:Co)(I:SmC c):jG (pp G) H0 15 [coV c] (.bool (chkC c)):=by
 obtain ⟨R,P,K⟩:=I
 refine cE G fir15 Z7 (wT3 ..) λJ=>?_;rw[rT2]
 by_cases j:(c.v.length:Int) > 20
 ·rw[jX0 Z0]
  unfold coV coC ivV kV
  refine S1 j ?_
  exact dH rfl rfl
 by_cases n:c.s<0
 ·rw[jX0 Z0]
  unfold coV coC ivV kV
  refine S2 j n ?_
  exact dH rfl rfl
 by_cases r:c.s > 10
 ·rw[jX0 Z0]
  unfold coV coC ivV kV
  refine S3 j n r ?_
  exact dH rfl rfl
 by_cases h0:(c.p.length:Int)<1
 ·rw[jX0 Z0]
  unfold coV coC ivV kV
  refine S4 j n r @h0 ?_
  exact dH rfl rfl
 by_cases w:(c.p.length:Int) > 20
 ·rw[jX0 Z0]
  unfold coV coC ivV kV
  refine S5 j n r @h0 w ?_
  exact dH rfl rfl
 by_cases z:c.m<0
 ·rw[jX0 Z0]
  unfold coV coC ivV kV
  refine S6 j n r @h0 w z ?_
  exact dH rfl rfl
 by_cases E:c.m ≥ (c.p.length:Int)
 ·rw[jX0 Z0]
  unfold coV coC ivV kV
  refine S7 j n r @h0 w z E ?_
  exact dH rfl rfl
 have F:chkC c=c.p.all (okT c):=by unfold chkC;rw[decide_eq_true Z0];rfl
 unfold coV coC ivV kV
 refine S7 j n r @h0 w z E ?_
 refine WD.loop4 (q:=qq) (jS G) Z7 (J15 c) ?_ _ _ (J15.mk 0 0 _ rfl (Nat.zero_le _) rfl (by unfold coC ivV kV;push_cast(disch:=first|omega|(apply id;push_cast;try omega))) tH tH)
 intro m N H
 cases H with|mk i M h A hi o D b L=>
 subst A
 rw[gL1]
 have d:=D
 unfold coC ivV kV at d
 by_cases e:(i:Int)<c.p.length
 ·obtain ⟨x,y⟩:=jU (l:=c.p) (i:=i) Z0
  have t:=List.mem_of_getElem? y
  have k:=kK K x t
  have f:=gA y
  have a:i*9+9≤c.p.length*9:=Z0
  have g:okT c x=false→chkC c=false:=qY2 t
  refine S6 e @Z4 f a b d ?_
  refine dK (yN3 G c.v.length c.s c.p.length x k) ?_
  rw[yO3 c.v.length c.s c.p.length Z0 x]
  cases u:kQ c.v.length c.s c.p.length false x with
  | false=>
   refine S6 e @Z4 f a b d ?_
   rw[g (by unfold okT;rw[u];rfl)]
   exact dH rfl rfl
  | true=>
  refine S6 e @Z4 f a b d ?_
  refine dK (wF3 G x k) ?_
  cases B:anyT x with
  | true=>
   refine S6 e @Z4 f a b d ?_
   rw[g (by unfold okT;rw[u,B];rfl)]
   exact dH rfl rfl
  | false=>
  refine S6 e @Z4 f a b d ?_
  refine dK (mC2 G x k) ?_
  by_cases C:W (kS x) > 2000
  ·refine S7 C e @Z4 f a b d ?_
   rw[g (by unfold okT;rw[u,B,decide_eq_false Z0];rfl)]
   exact dH rfl rfl
  ·refine S7 C e @Z4 f a b d ?_
   exact ⟨_,Z0,J15.mk (i+1) _ _ Z2 Z0 (by rw[jT y,List.all_append,o,List.all_cons,List.all_nil];unfold okT;rw[u,B,decide_eq_true Z0];rfl) (by first|assumption|(push_cast(disch:=first|omega|(apply id;push_cast;try omega))[D];try omega)) (by first|assumption|(push_cast(disch:=first|omega|(apply id;push_cast;try omega))[b];try omega)) tH⟩
 ·obtain rfl:i=c.p.length:=Z0
  rw[List.take_length] at o
  refine S3 e d b ?_
  rw[gK1]
  rw[F,o]
  refine S0 ?_
  exact dH rfl rfl
mutual
theorem dO0 {v c q:Int}:∀ (x:Tm) (p:Zb),kQ v c q true x=true→kQ v c q p x=true
 | .mk k a b s e l,p,h=>by
  have d:k≠14:=by
   rintro rfl
   simp[kQ] at h
  rw[kQ] at h ⊢
  simp only[Z5,Bool.true_or] at h ⊢
  refine ⟨h.1,by simp[d],h.2.2.1,h.2.2.2.1,h.2.2.2.2.1,h.2.2.2.2.2.1,h.2.2.2.2.2.2.1,gZ0 l _ h.2.2.2.2.2.2.2⟩
theorem gZ0 {v a q:Int}:∀ (l:List Tm) (p:Zb),kX v a q true l=true→kX v a q p l=true
 | [],_,_=>rfl
 | x :: l,p,h=>by
  simp only[kX,Z5] at h ⊢
  exact ⟨dO0 x p h.1,gZ0 l p h.2⟩
end
theorem bT2 {c:Co}(h:zE2 c):chkC c=true:=by
 unfold chkC
 rw[decide_eq_true ⟨by have:=h.v;omega,by have:=h.s;omega,by have:=h.s;omega,by have:=h.p;omega,h.m.1,h.m.2⟩,Bool.true_and,List.all_eq_true]
 intro x a
 have b:=h.r x a
 have g:=h.z x a
 have i:=uA0 x
 unfold okT
 rw[h.v,h.s]
 have d:=lY0 _ _ _ x b
 have e:kQ 3 2 c.p.length false x=true:=dO0 x false b
 have f:W (kS x)=kS x:=W_id ⟨Z0,Z0⟩
 rw[f,decide_eq_true Z0,d]
 simpa using e
theorem sB2 (σ:jA):bsD (qq.m 26) (slT prog 26) 0 [] σ=some (.slice (some ⟨σ.next,0,none⟩) 0 0,σ.add (O [] etm false)):=Z7
theorem row6 (c x:Int)(σ:jA):bsD (qq.m 25) (slT prog 25) 6 [(0,.int .i64 (-2)),(1,.int .i64 (-1)),(2,.int .i64 0),(3,.int .i64 2),(4,.int .i64 c),(5,.int .i64 x)] σ=some (Rw true eI 6 (ivs [-2,-1,0,2,c,x]),σ):=Z7
theorem row5n (σ:jA):bsD (qq.m 73) (slT prog 73) 5 [(0,.string (Tx [])),(1,.string (Tx [112,97,121])),(2,.string (Tx [100,111])),(3,.string (Tx [97,32,98])),(4,.string (Tx [80,97,121]))] σ=some (Rw true eS 5 (nss [[],[112,97,121],[100,111],[97,32,98],[80,97,121]]),σ):=Z7
theorem rowTx (k a b:Int)(s:List Zu)(e:Ex)(l:List Tm)(σ:jA):bsD (qq.m 26) (slT prog 26) 1 [(0,.agg ⟨[.int .i64 k,.int .i64 a,.int .i64 b,.string (Tx s),.int .i64 e.k,.int .i64 e.n,.string (Tx e.s),Rw false eE e.l.length (gN e.l),Rw false etm l.length (jX l)]⟩)] σ=some (Rw true etm 1 (jX [.mk k a b s e l]),σ):=gK2 (.mk k a b s e l) σ
def waC:List Z6:=[.int .i64 14,.int .i64 0,.int .i64 (-1),.string (Tx [112,97,121]),.int .i64 0,.int .i64 0,.string (Tx []),.slice none 0 0,.slice none 0 0]
theorem rowW (σ:jA):bsD (qq.m 26) (slT prog 26) 1 [(0,.agg ⟨[.int .i64 14,.int .i64 0,.int .i64 (-1),.string (Tx [112,97,121]),.int .i64 0,.int .i64 0,.string (Tx []),.slice none 0 0,.slice none 0 0]⟩)] σ=some (Rw true etm 1 waC,σ):=Z7
theorem qL1 {σ:jA}(f:σ.lo=1)(g:σ.next=3)(l:List Tm)(w:l.length<1000000) :
  ∃ a c σ',apS etm 9 120 (.slice (some ⟨3,0,none⟩) 0 0) (some (l.length,jX l)) (σ.add (O [] etm false))=some (.slice a l.length c,σ')∧kM σ' etm 9 a l.length c (jX l)∧σ'.lo=1∧4≤σ'.next∧(∀ i,i<3→∀ x,cells σ i=some x→cells σ' i=some x)∧(∀ k,blk a k→3≤k):=by
 have h0:kM (σ.add (O [] etm false)) etm 9 (some ⟨σ.next,0,none⟩) 0 0 []:=⟨rfl,rfl,.inr ⟨σ.next,false,rfl,by rw[jP];omega,by rw[jB];omega,qV _ _ _ _ rfl,.inr ⟨rfl,rfl⟩⟩⟩
 obtain ⟨q,r,h,j,n,b,u⟩:=cD (by_:=120) h0 Z0 (by rw[jP,jB];omega) (m:=l.length) (xs:=jX l) (cF l) (eL l) Z0
 rw[Nat.zero_add,List.nil_append] at n
 rw[Nat.zero_add,g] at j
 have d:4≤h.next:=by have:=b.next;rw[jB] at this;omega
 refine ⟨q,r,h,j,n,by rw[b.lo,jP,f],d,λi hi x p=>?_,λk t=>?_⟩
 ·exact b.cellsE (by rw[gD _ _ Z0];exact p) (by rw[jB];omega) λ⟨o,s,e⟩=>by cases e;omega
 ·rcases u k t with ⟨o,s,e⟩|v
  ·cases e;omega
  ·rw[jB] at v;omega
theorem lF0 (l:List Tm):(jX l).drop 9=jX l.tail:=by
 cases l with
 | nil=>rfl
 | cons x l=>rw[jX,List.tail_cons];exact List.drop_left' (bV x)
theorem jO0:∀ l:List Tm,(l.length:Int)≤qW l∧0≤qW l
 | []=>by simp[qW]
 | .mk k a b s e m :: l=>by
  have h:=jO0 l
  have c:=(jO0 m).2
  rw[qW,kS,List.length_cons];omega
theorem dC0:∀ {l:List Tm} {x:Tm},x∈l→kS x≤qW l
 | .mk k a b s e m :: l,x,h=>by
  have d:=(jO0 l).2
  have c:=(jO0 m).2
  rcases List.mem_cons.1 h with rfl|h
  ·rw[qW];omega
  ·have:=dC0 h
   rw[qW,kS];omega
theorem jY1 {l:List Tm}{y:Tm}(h:cC l=true)(a:smT y=true)(t:Nat):cC (l.set t y)=true:=by
 induction l generalizing t with
 | nil=>rfl
 | cons x l c=>
  rw[cC,Z5] at h
  cases t with
  | zero=>rw[List.set_cons_zero,cC,a,h.2];rfl
  | succ t=>rw[List.set_cons_succ,cC,h.1,c h.2];rfl
theorem lL0 {l:List Tm}(h:cC l=true):cC l.tail=true:=by
 cases l with
 | nil=>rfl
 | cons x l=>rw[cC,Z5] at h;exact h.2
theorem lW2 {P:Z9}{N:Nat}{σ:jA}(c:0<N)(k a b:Int)(s:List Zu)(e:Ex){r:Z6}{l:List Tm}(h:FzV P N σ r (Rw false etm l.length (jX l))):FzV P N σ (.agg ⟨[.int .i64 k,.int .i64 a,.int .i64 b,.string (Tx s),.int .i64 e.k,.int .i64 e.n,.string (Tx e.s),Rw false eE e.l.length (gN e.l),r]⟩) (tmV (.mk k a b s e l)):=
 .agg (.cons (.id rfl) (.cons (.id rfl) (.cons (.id rfl) (.cons (.id rfl) (.cons (.id rfl) (.cons (.id rfl) (.cons (.id rfl) (.cons (.row (.ids (eQ _ c _))) (.cons h .nil)))))))))
def wT:Tm:=.mk 14 0 (-1) [112,97,121] (.mk 0 0 [] []) []
theorem zX3 (N:Nat)(σ:jA):FzL (pp G).P N σ waC (tmC wT):=
 .cons (.id rfl) (.cons (.id rfl) (.cons (.id rfl) (.cons (.id rfl) (.cons (.id rfl) (.cons (.id rfl) (.cons (.id rfl) (.cons (.nil (size:=4) rfl Z1) (.cons (.nil (size:=9) rfl Z1) .nil))))))))
def SpT (d:Z6):Prop:=∃ y:Tm,d=tmV y∧smT y=true
theorem jW1 (w v:Int):∀ (x:Tm) (f:Int),smT x=true→kS x≤1000→cL (pp G) H0 17 [tmV x,.int .i64 w,.int .i64 v,.int .i64 f] SpT
 | .mk k a b s e l,f,hs,hz=>by
  simp only[smT,Z5,decide_eq_true_eq] at hs
  obtain ⟨⟨hl0,B⟩,g⟩:=hs
  rw[kS] at hz
  have hll:=(jO0 l).1
  have ih:∀ x∈l,∀ a,cL (pp G) H0 17 [tmV x,.int .i64 w,.int .i64 v,.int .i64 a] SpT:=λx M a=>jW1 w v x a (kK g x M) (by have:=dC0 M;omega)
  have r:∀ {k a b:Int} {s:List Zu},smT (.mk k a b s e l)=true:=by
   intro k a b s
   simp only[smT,Z5,decide_eq_true_eq];exact ⟨⟨Z0,B⟩,g⟩
  refine cY G fir17 Z7 (lL2 ..) λhlo=>?_;rw[rR2]
  have q:0<H0.next:=by rw[kY];decide
  have L:(4:Int)≠0:=by decide
  have K:(9:Int)≠0:=by decide
  by_cases h12:(0:Int)<l.length∧0<jK f 4
  ·obtain ⟨D,h2⟩:=h12
   refine S1 D ?_
   refine dK (cV G f 4 Z0 Z0) ?_
   push_cast(disch:=first|omega|(apply id;push_cast;try omega))[h2,↓sB2]
   obtain ⟨a1,c1,σ1,e1,o1,C,hn1,j,o⟩:=qL1 (σ:=(H0.add (O [.int .i64 k,.int .i64 a,.int .i64 b,.string (Tx s),.int .i64 e.k,.int .i64 e.n,.string (Tx e.s),Rw false eE e.l.length (gN e.l),Rw false etm l.length (jX l)] etm false)).add (O ztm etm false)) (by push_cast(disch:=first|omega|(apply id;push_cast;try omega))) (by push_cast(disch:=first|omega|(apply id;push_cast;try omega))) l Z0
   have F:=j 1 Z0 (tmC (.mk k a b s e l),etm,false) (by push_cast(disch:=first|omega|(apply id;push_cast;try omega));first|done|rfl)
   have c7:=j 2 Z0 (ztm,etm,false) (by push_cast(disch:=first|omega|(apply id;push_cast;try omega));first|done|rfl)
   unfold ztm at *
   rw[bH] at F
   clear j
   rcases o1.hat with ⟨_,h0,_⟩|⟨bq,m,rfl,q1,q2,q3,q4⟩
   ·omega
   have hb8:=o bq ⟨0,none,rfl⟩
   have V:(0:Int)<l.length:=D
   have Z:=qS (a:=IntKind.i64.wrap (f.tdiv 4)) V
   push_cast(disch:=first|omega|(apply id;push_cast;try omega))[e1,dC1 L,dC1 K]
   refine dK (cV G (IntKind.i64.wrap (f.tdiv 4)) l.length Z0 Z0) ?_
   generalize jK (IntKind.i64.wrap (f.tdiv 4)) l.length=kk' at Z
   obtain ⟨t,rfl⟩:∃ t:Nat,kk'=(t:Int):=⟨kk'.toNat,Z0⟩
   obtain ⟨x,M⟩:=jU (l:=l) (i:=t) Z0
   have X:=List.mem_of_getElem? M
   have hp:=gA M
   have I:t*9+9≤l.length*9:=Z0
   have J:(t:Int)<l.length:=Z0
   have A:(jX l).length=l.length*9:=cF l
   push_cast(disch:=first|omega|(apply id;push_cast;try omega))[J,q3,C,hp,I,A,dC1 K,Z4]
   refine dL (ih x X _) ?_
   rintro d ⟨y,rfl,hy⟩
   refine ⟨cP _ Z0 y,?_⟩
   have N:=jS1 (l:=l) (i:=t) y Z0
   push_cast(disch:=first|omega|(apply id;push_cast;try omega))[F,c7,q3,C,A,I,J,N,Z4]
   have c:(l.set t y).length=l.length:=List.length_set
   refine ⟨tmV (.mk k a b s e (l.set t y)),⟨_,rfl,?_⟩,lW2 q k a b s e ?_⟩
   ·simp only[smT,Z5,decide_eq_true_eq,c];exact ⟨⟨Z0,B⟩,jY1 g hy t⟩
   ·rw[c]
    refine kM.fz ?_ rfl Z1 Z0 (.ids (bK _ q _)) (λb' z=>by have:=o b' z;rw[kY];omega)
    exact ⟨by rw[cF,c];rfl,eL _,.inr ⟨bq,m,rfl,by push_cast(disch:=first|omega|(apply id;push_cast;try omega));omega,by push_cast(disch:=first|omega|(apply id;push_cast;try omega));omega,by push_cast(disch:=first|omega|(apply id;push_cast;try omega)),q4⟩⟩
  ·have Y:¬ (0:Int)<l.length∨((0:Int)<l.length∧¬ 0<jK f 4):=Z0
   rcases Y with D|⟨D,h2⟩
   case' inl=>push_cast(disch:=first|omega|(apply id;push_cast;try omega))[D]
   case' inr=>
    refine S1 D ?_
    refine dK (cV G f 4 Z0 Z0) ?_
    push_cast(disch:=first|omega|(apply id;push_cast;try omega))[h2]
   all_goals
    refine dK (cV G w 8 Z0 Z0) ?_
    have hw5:=qS (a:=w) (n:=8) Z0
    generalize jK w 8=u at hw5
    obtain rfl|rfl|rfl|rfl|rfl|rfl|rfl|rfl:u=0∨u=1∨u=2∨u=3∨u=4∨u=5∨u=6∨u=7:=Z0
    ·refine S0 ?_
     refine dK (cV G v 17 Z0 Z0) ?_
     refine S0 ?_
     exact ⟨_,⟨.mk _ a b s e l,rfl,r⟩,.id (cP _ q (.mk _ _ _ _ e l))⟩
    ·push_cast(disch:=first|omega|(apply id;push_cast;try omega))[↓row6]
     refine dK (cV G v 6 Z0 Z0) ?_
     have p:=qS (a:=v) (n:=6) Z0
     generalize jK v 6=u at p
     obtain rfl|rfl|rfl|rfl|rfl|rfl:u=0∨u=1∨u=2∨u=3∨u=4∨u=5:=Z0
     all_goals
      refine S0 ?_
      exact ⟨_,⟨.mk k _ b s e l,rfl,r⟩,.id (cP _ q (.mk _ _ _ _ e l))⟩
    ·push_cast(disch:=first|omega|(apply id;push_cast;try omega))[↓row6]
     refine dK (cV G v 6 Z0 Z0) ?_
     have p:=qS (a:=v) (n:=6) Z0
     generalize jK v 6=u at p
     obtain rfl|rfl|rfl|rfl|rfl|rfl:u=0∨u=1∨u=2∨u=3∨u=4∨u=5:=Z0
     all_goals
      refine S0 ?_
      exact ⟨_,⟨.mk k a _ s e l,rfl,r⟩,.id (cP _ q (.mk _ _ _ _ e l))⟩
    ·push_cast(disch:=first|omega|(apply id;push_cast;try omega))[↓row5n]
     refine dK (cV G v 5 Z0 Z0) ?_
     have p:=qS (a:=v) (n:=5) Z0
     generalize jK v 5=u at p
     obtain rfl|rfl|rfl|rfl|rfl:u=0∨u=1∨u=2∨u=3∨u=4:=Z0
     all_goals
      refine S0 ?_
      exact ⟨_,⟨.mk k a b _ e l,rfl,r⟩,.id (cP _ q (.mk _ _ _ _ e l))⟩
    ·refine S0 ?_
     refine dK (cV G v 4 Z0 Z0) ?_
     push_cast(disch:=first|omega|(apply id;push_cast;try omega))[dC1 L]
     refine dK (cV G (IntKind.i64.wrap (v.tdiv 4)) 5 Z0 Z0) ?_
     refine S0 ?_
     exact ⟨_,⟨.mk k a b s (.mk _ _ [] []) l,rfl,by simp only[smT,Z5,decide_eq_true_eq];exact ⟨⟨Z0,rfl⟩,g⟩⟩,.agg (.cons (.id rfl) (.cons (.id rfl) (.cons (.id rfl) (.cons (.id rfl) (.cons (.id rfl) (.cons (.id rfl) (.cons (.id rfl) (.cons (.nil (size:=4) rfl Z1) (.cons (.row (.ids (bK _ q _))) .nil)))))))))⟩
    ·push_cast(disch:=first|omega|(apply id;push_cast;try omega))[↓sB2]
     obtain ⟨a1,c1,σ1,e1,o1,C,hn1,j,o⟩:=qL1 (σ:=(H0.add (O [.int .i64 k,.int .i64 a,.int .i64 b,.string (Tx s),.int .i64 e.k,.int .i64 e.n,.string (Tx e.s),Rw false eE e.l.length (gN e.l),Rw false etm l.length (jX l)] etm false)).add (O ztm etm false)) (by push_cast(disch:=first|omega|(apply id;push_cast;try omega))) (by push_cast(disch:=first|omega|(apply id;push_cast;try omega))) l Z0
     have F:=j 1 Z0 (tmC (.mk k a b s e l),etm,false) (by push_cast(disch:=first|omega|(apply id;push_cast;try omega));first|done|rfl)
     have c7:=j 2 Z0 (ztm,etm,false) (by push_cast(disch:=first|omega|(apply id;push_cast;try omega));first|done|rfl)
     unfold ztm at *
     rw[bH] at F
     clear j
     obtain ⟨a2,c2,E,e2,o2,T,b2⟩:=cD (by_:=120) o1 Z0 Z0 (m:=1) (xs:=waC) rfl rfl Z0
     have k6:cells E 1=_:=T.cellsE F Z0 (λR=>by have:=o _ R;omega)
     have k7:cells E 2=_:=T.cellsE c7 Z0 (λR=>by have:=o _ R;omega)
     have P:E.lo=1:=by rw[T.lo,C]
     have hn2:=T.next
     have hw1:waC.length=9:=rfl
     have hw2:waC.all one=true:=rfl
     have hw3:waC.take 9=waC:=rfl
     push_cast(disch:=first|omega|(apply id;push_cast;try omega))[e1,↓rowW,hw1,hw2,hw3,e2,k6,k7,P]
     have c:(l++[wT]).length=l.length+1:=List.length_append
     refine ⟨tmV (.mk k a b s e (l++[wT])),⟨_,rfl,?_⟩,lW2 q k a b s e ?_⟩
     ·simp only[smT,Z5,decide_eq_true_eq,c];exact ⟨⟨Z0,B⟩,uZ0 g rfl⟩
     ·rw[c,qD0]
      have H:∀ b',blk a2 b'→3≤b':=λb' z=>(b2 b' z).elim (o b') λh=>by omega
      refine kM.fz (o2.grew (S:=λk=>k=1∨k=2) ((jC.put _ 1 _ λ_=>.inl rfl).trans (jC.put _ 2 _ λ_=>.inr rfl) λ_ _ h=>h) (λb R e=>by have:=H b R;omega)) rfl Z1 Z0 ?_ (λb' z=>by have:=H b' z;rw[kY];omega)
      exact (FzL.ids (bK _ q _)).app (by rw[show jX [wT]=tmC wT from List.append_nil _];exact zX3 G _ _)
    ·by_cases h0:(0:Int)<l.length
     ·first|exact absurd h0 D|(push_cast(disch:=first|omega|(apply id;push_cast;try omega))[h0];have ht1:l.length-1=l.tail.length:=List.length_tail.symm;rw[lF0,ht1];exact ⟨tmV (.mk k a b s e l.tail),⟨_,rfl,by simp only[smT,Z5,decide_eq_true_eq];exact ⟨⟨Z0,B⟩,lL0 g⟩⟩,.id (cP 1 Z1 (.mk k a b s e l.tail))⟩)
     ·first|exact absurd D h0|(push_cast(disch:=first|omega|(apply id;push_cast;try omega))[h0];exact ⟨_,⟨.mk k a b s e l,rfl,r⟩,.id (cP _ q (.mk _ _ _ _ e l))⟩)
    ·push_cast(disch:=first|omega|(apply id;push_cast;try omega))[↓rowTx]
     exact ⟨_,⟨.mk _ 0 0 [] zE [.mk k a b s e l],rfl,by simp[smT,cC,zE,smE,smEs];exact ⟨⟨Z0,B⟩,g⟩⟩,kL3 rfl _ 0 0 [] (l:=[.mk k a b s e l]) rfl (.ids (bK _ q _))⟩
theorem dK2 (c:Co):(coC c).take 4=coC c:=rfl
theorem dL2 (c:Co):(coC c).drop 4=[]:=rfl
theorem wW1 (c:Co):Value.agg ⟨coC c⟩=coV c:=rfl
attribute [push_cast] qX2 uX3 uW3 dK2 dL2 wW1
theorem kQ2 {b:Pr}(h:smP jM jE b=true):smP jM jE (cS0 b)=true:=
 iD1 (by simp) rfl (by simp) (by simp) (by simp) λx a=>by
  simp only[List.mem_cons,List.not_mem_nil,or_false] at a
  rcases a with rfl|rfl
  ·decide
  ·exact h
theorem yF3 (v:Int)(l:List Rb)(w:Zb)(c:smBs l=true):∀ x∈(shG v l w).d,smP ((shG v l w).v.map Prod.fst) (shG v l w).s x.2=true:=by
 intro x a
 show smP jM jE x.2=true
 simp only[shG,shD,defL,List.mem_map,List.mem_range] at a
 obtain ⟨y,⟨i,hi,rfl⟩,rfl⟩:=a
 have h:smP jM jE ((kH0 l i).getD qZ)=true:=by
  unfold kH0
  cases l[i]? with
  | none=>exact yX0 _ _
  | some r=>exact iE1 r 0
 cases w with
 | false=>exact h
 | true=>exact kQ2 h
theorem qV1 (v:Int)(l:List Rb)(w:Zb)(hsl:smBs l=true){h:jA}{q:Z8 Addr}{c b2 k:Nat}{m:Zb}{cs:List Z6}(ho:kM h eVr 2 q 3 c (vrs (varL v)))(hq:∀ b,blk q b→3≤b)(hb2:3≤b2)(hc2:cells h b2=some (cs,eDf,m))
  (hm:(m=true∧k=UC)∨(m=false∧k=5)) (hl:cs.length=5*9) (hcs:∀ τ,FzL (pp G).P 1 τ cs (dfs (shD l w))) (hl1:h.lo=1) (Qk:Nat→Zb) (hQ:∀ i,i<1→Qk i=true) (hQq:∀ b,blk q b→Qk b=false) (hQb:Qk b2=false)
  {K:Zb→Z6→jA→Prop} (hK:∀ (co:Co) (e:Int),cC co.p=true→co.p.length<1000→(e=0→zE2 co)→K true (.tuple ⟨[coV co,.int .i64 e]⟩) (cA Qk h)) :
  jD (pp G) H0 (.func (.func 30) ⟨[]⟩ ⟨[]⟩) [.agg ⟨[.slice q 3 c,Rw false eS 2 (nss jE),.slice (some ⟨b2,0,none⟩) 5 k]⟩] h K:=by
 have hlf:∀ b,Qk b=false→(!Qk b || Nat.blt b h.lo)=true:=λb hb=>by rw[hb];rfl
 have hf1:kM (cA (λi=>!Qk i || Nat.blt i h.lo) h) eVr 2 q 3 c (vrs (varL v)):=kM.flt ho λb hb=>hlf b (hQq b hb)
 have hz:FzL (pp G).P h.lo (cA (λi=>!Qk i || Nat.blt i h.lo) h) [.agg ⟨[.slice q 3 c,Rw false eS 2 (nss jE),.slice (some ⟨b2,0,none⟩) 5 k]⟩] [pgV (shG v l w)]:=by
  unfold pgV pgC
  rw[show (shG v l w).d.length=5 from gQ0 l w]
  refine .cons (.agg (.cons (hf1.fz rfl Z1 Z1 (.ids (lQ2 _ _)) (λb hb=>by have:=hq b hb;omega)) (.cons (.id (dW0 _ Z0 _ _ _)) (.cons ?_ .nil)))) .nil
  refine .sl (size:=9) Z0 ((dG h (hlf b2 hQb)).trans hc2) rfl Z1 Z0 ?_ ?_
  ·rcases hm with ⟨rfl,rfl⟩|⟨rfl,rfl⟩
   ·exact .inr ⟨rfl,Z3 _,by simp,by simp only[U];omega⟩
   ·exact .inl ⟨by simp only[UC];omega,Z3 _⟩
  ·rw[List.drop_zero,List.take_of_length_le Z0]
   have:=hcs (cA (λi=>!Qk i || Nat.blt i h.lo) h)
   rw[hl1] at this ⊢;exact this
 refine jD.giveE (cap:=[]) (args:=[_]) Qk (λi hi=>hQ i Z0) (tM2 G (shG v l w) (by show 3≤20;omega) (by show 2≤10;omega) (by rw[show (shG v l w).d.length=5 from gQ0 l w];omega) (by rw[show (shG v l w).d.length=5 from gQ0 l w];omega) (yF3 v l w hsl)) hz ?_
 rintro _ ⟨co,e,rfl,h1,h2,-,h4,h5⟩
 refine ⟨by simp[Ev.sc,scL,wV1 _ (show 0<h.lo by omega)],hK co e h2 h1 λhe=>?_⟩
 obtain ⟨e1,e2,e3,e4⟩:=h5 he
 rw[show (shG v l w).d.length=5 from gQ0 l w] at e4
 exact bS2 e1 e2 (h4 he) ⟨e3,e4⟩ h2
def wrD (l:List Rb)(i:Nat):List (List Zu×Pr):=(List.range 5).map λj=>(qU.getD j [],if j<i then cS0 ((kH0 l j).getD qZ) else (kH0 l j).getD qZ)
theorem wrD_0 (l:List Rb):wrD l 0=defL l:=by simp[wrD,defL]
theorem wrD_5 (l:List Rb):wrD l 5=shD l true:=by
 simp only[wrD,shD,defL,List.map_map]
 refine List.map_congr_left λj h=>?_
 rw[List.mem_range] at h
 simp[h]
theorem nP2 (l:List Rb)(i:Nat){j:Nat}(h:j<5):(wrD l i)[j]?=some (qU.getD j [],if j<i then cS0 ((kH0 l j).getD qZ) else (kH0 l j).getD qZ):=by
 simp[wrD,h]
theorem nO2 (l:List Rb){i:Nat}(h:i<5):(wrD l i).set i (qU.getD i [],cS0 ((kH0 l i).getD qZ))=wrD l (i+1):=by
 obtain rfl|rfl|rfl|rfl|rfl:i=0∨i=1∨i=2∨i=3∨i=4:=Z0
 all_goals rfl
def gV1:List Z6:=[.int .i64 1,.string (Tx [112,97,121]),.string (Tx [120]),.int .i64 0,.int .i64 0,.string (Tx []),.slice none 0 0,.slice none 0 0]
theorem gR2 (h:jA)(N:Nat):FzL (pp G).P N h gV1 (prC payX):=.cons (.id rfl) (.cons (.id rfl) (.cons (.id rfl) (.cons (.id rfl) (.cons (.id rfl) (.cons (.id rfl) (.cons (.nil (size:=4) rfl Z1) (.cons (.nil (size:=8) rfl Z1) .nil)))))))
def wrC (b:List Z6):List Z6:=[.int .i64 12,.string (Tx []),.string (Tx []),.int .i64 0,.int .i64 0,.string (Tx []),.slice none 0 0,Rw true epr 2 (gV1++b)]
theorem zV3 (a:jA)(N:Nat){b:List Z6}{p:Pr}(h:FzL (pp G).P N a b (prC p)):FzL (pp G).P N a (wrC b) (prC (cS0 p)):=
 .cons (.id rfl) (.cons (.id rfl) (.cons (.id rfl) (.cons (.id rfl) (.cons (.id rfl) (.cons (.id rfl) (.cons (.nil (size:=4) rfl Z1) (.cons (.row (by
  rw[show prCs [payX,p]=prC payX++prC p by rw[prCs,prCs,prCs,List.append_nil]]
  exact (gR2 G a N).app h)) .nil)))))))
theorem rowQ2 {b:List Z6}(a:b.length=8)(h:b.all one=true)(σ:jA):bsD (qq.m 78) (slT prog 78) 2 [(0,.agg ⟨gV1⟩),(1,.agg ⟨b⟩)] σ=some (Rw true epr 2 (gV1++b),σ):=by
 match b,a with
 | [x0,x1,x2,x3,x4,x5,x6,x7],_=>
  have e:slT prog 78=some (epr,8,[.int .i64 0,.string (Tx []),.string (Tx []),.int .i64 0,.int .i64 0,.string (Tx []),.slice none 0 0,.slice none 0 0]):=Z7
  rw[e,nS0 (n:=8) _ _ _ _ Z1]
  exact uH2 (cs:=gV1++[x0,x1,x2,x3,x4,x5,x6,x7]) 2 (by rw[List.all_append,h];rfl) Z1
theorem rowI3 (σ:jA):bsD (qq.m 25) (slT prog 25) 3 [(0,.int .i64 0),(1,.int .i64 0),(2,.int .i64 0)] σ=some (Rw true eI 3 (ivs [0,0,0]),σ):=Z7
def gS2:List Z6:=[.int .i64 1,.int .i64 0,.int .i64 0,.string (Tx [112,97,121]),.int .i64 0,.int .i64 0,.string (Tx []),.slice none 0 0,.slice none 0 0]
theorem yP3 (σ:jA):bsD (qq.m 26) (slT prog 26) 1 [(0,.agg ⟨[.int .i64 1,.int .i64 0,.int .i64 0,.string (Tx [112,97,121]),.int .i64 0,.int .i64 0,.string (Tx []),.slice none 0 0,.slice none 0 0]⟩)] σ=some (Rw true etm 1 gS2,σ):=Z7
theorem coB:bdV (plc prog 28) [(0,Rw true eI 3 (ivs [0,0,0])),(1,.int .i64 2),(2,Rw true etm 1 gS2)]=some (.agg ⟨[Rw true eI 3 (ivs [0,0,0]),.int .i64 2,Rw true etm 1 gS2,.int .i64 0]⟩):=Z7
theorem bC3 (N:Nat)(σ:jA):FzV (pp G).P N σ (.agg ⟨[Rw true eI 3 (ivs [0,0,0]),.int .i64 2,Rw true etm 1 gS2,.int .i64 0]⟩) (coV noC):=
 .agg (.cons (.row (.ids rfl)) (.cons (.id rfl) (.cons (.row (by
  exact .cons (.id rfl) (.cons (.id rfl) (.cons (.id rfl) (.cons (.id rfl) (.cons (.id rfl) (.cons (.id rfl) (.cons (.id rfl) (.cons (dX0 G N σ) (.cons (bD3 G N σ) .nil)))))))))) (.cons (.id rfl) .nil))))
theorem nJ2 {a b:Nat}(h:¬ a=b):Nat.beq a b=false:=by
 cases c:Nat.beq a b with
 | false=>rfl
 | true=>exact absurd (Nat.eq_of_beq_eq_true c) h
inductive K13 (l:List Rb)(v e:Int)(co:Co)(vi bp b2 c k:Nat)(m:Zb)(q:Z8 Addr):Nat→S→Prop
 | mk (i : Nat) (iv : Int) (h : jA) (cs : List Z6) {x0 x1 x7 x8 x9 xA xB xC xD xE xF xG xH xI xJ xK xL xM xN xO xP xQ xR xS xT xU xV xW xX xY xZ yA yB yC yD yE yF yG yH yI yJ yK yL yM yN : Z6} (hiv : iv = (i : Int)) (hi : i ≤ 5)
   (d1:cells h 2=some (coZ,tCo,false)) (dv:cells h vi=some (coC co,28,false)) (c2:cells h bp=some ([.slice q 3 c,Rw false eS 2 (nss jE),.slice (some ⟨b2,0,none⟩) 5 k],76,false))
   (ho:kM h eVr 2 q 3 c (vrs (varL v))) (hb2:cells h b2=some (cs,eDf,m)) (hl:cs.length=5*9) (h1:cs.all one=true) (hcs:∀ τ,FzL (pp G).P 1 τ cs (dfs (wrD l i))) (hl1:h.lo=1) (hl2:bp<h.next) :
  K13 l v e co vi bp b2 c k m q (5-i) ⟨(F50 x0 x1 (.pointer (some ⟨2,0,none⟩)) (.pointer (some ⟨vi,0,none⟩)) (.int .i64 e) (.pointer (some ⟨bp,0,none⟩)) (.int .i64 iv) x7 x8 x9 xA xB xC xD xE xF xG xH xI xJ xK xL xM xN xO xP xQ xR xS xT xU xV xW xX xY xZ yA yB yC yD yE yF yG yH yI yJ yK yL yM yN),[],h⟩
def CoreR (d:Z6):Prop:=∃ c,d=coV c∧zE2 c
theorem mL3 (v st:Int)(l:List Rb)(Y:l.length<1000000000000000)(D:smBs l=true):cL (pp G) H0 13 [shV v st l] CoreR:=by
 refine cY G fir13 Z7 (zB3 ..) λhlo=>?_;rw[rV2]
 unfold shV
 refine S0 ?_
 refine jD.func (cap:=[]) (args:=[_]) (lZ1 G false v st l Y D _) ?_
 rintro _ h ⟨q,c,q2,k,cs,rfl,C,K,r,A,d,g⟩
 obtain ⟨n,m,rfl,b1,X,t,hm⟩:∃ n m,q2=some ⟨n,0,none⟩∧h.lo≤n∧n<h.next∧cells h n=some (cs,eDf,m)∧((m=true∧k=UC)∨(m=false∧k=5)):=by
  rcases r.hat with ⟨_,h0,_⟩|p
  ·omega
  ·exact p
 have f:=A n ⟨0,none,rfl⟩
 have u:=g.lo
 have E:=g.next
 push_cast(disch:=first|omega|(apply id;push_cast;try omega)) at f u E K
 have c0:cells h 1=some ([.int .i64 v,.int .i64 st,Rw false erb l.length (rbCs l)],24,false):=g.cellsE (by rw[gD _ _ (by simp only[jB,kY];omega)];exact qV _ _ _ _ (by rw[kY])) (by simp only[jB,kY];omega) id
 have c1:cells h 2=some (coZ,tCo,false):=g.cellsE (qV _ _ _ _ (by simp only[jB,kY])) (by simp only[jB,kY];omega) id
 have s:=r.hlen
 have hsh0:defL l=shD l false:=by unfold shD;simp
 rw[hsh0] at d
 clear g r A
 refine S0 ?_
 refine qV1 G v l false D C K f.1 t hm s d u (λi=>Nat.blt i 3) (λi hi=>uN2 Z0) (λb y=>uP2 (by have:=K b y;omega)) (uP2 (by have:=f.1;omega)) ?_
 intro co e hco1 hco2 hco3
 have V:cells (cA (λi=>Nat.blt i 3) h) 1=_:=(dG h Z1).trans c0
 have o:cells (cA (λi=>Nat.blt i 3) h) 2=_:=(dG h Z1).trans c1
 have a:(cA (λi=>Nat.blt i 3) h).lo=1:=u
 have hn3:3≤(cA (λi=>Nat.blt i 3) h).next:=by show 3≤h.next;omega
 generalize cA (λi=>Nat.blt i 3) h=p at *
 clear C K t hm d s c0 c1 u b1 X f E
 unfold coZ at o
 by_cases he:e=0
 ·subst he
  refine S2 o a ?_
  rw[dM0]
  refine S2 o a ?_
  exact ⟨_,⟨co,rfl,hco3 rfl⟩,.id (wV1 _ Z0 _)⟩
 ·refine S4 o a he V ?_
  obtain ⟨w,B⟩:∃ w,w=(p.add (O [.slice none 0 0,.int .i64 0,.slice none 0 0,.int .i64 0] 28 false)).put p.next (O (coC co) 28 false):=⟨_,rfl⟩
  have g0:jC p w (λ_=>False):=by rw[B];exact (jC.add _ _ _).put' _ _ (Z3 _)
  have d0:=g0.cellsE V Z0 id
  have J:=g0.cellsE o Z0 id
  have P:cells w p.next=some (coC co,28,false):=by rw[B];exact jQ _ _ _ _
  have M:w.lo=1:=by rw[g0.lo,a]
  have hn2:w.next=p.next+1:=by rw[B];show (p.add _).next=_;rw[jB]
  rw[← B]
  clear B V o a g0
  generalize p.next=vi at *
  clear p
  refine jD.func (cap:=[]) (args:=[_]) (lZ1 G false v st l Y D w) ?_
  rintro _ h ⟨q,c,q2,k,cs,rfl,C,K,r,A,d,g⟩
  obtain ⟨n,m,rfl,b1,X,t,hm⟩:∃ n m,q2=some ⟨n,0,none⟩∧h.lo≤n∧n<h.next∧cells h n=some (cs,eDf,m)∧((m=true∧k=UC)∨(m=false∧k=5)):=by
   rcases r.hat with ⟨_,h0,_⟩|p
   ·omega
   ·exact p
  have f:=A n ⟨0,none,rfl⟩
  have s:=r.hlen
  have hco:=r.hone
  have d0:=g.cellsE d0 Z0 id
  have J:=g.cellsE J Z0 id
  have P:=g.cellsE P Z0 id
  have u:h.lo=1:=by rw[g.lo,M]
  have E:=g.next
  clear g r A M
  rw[← wrD_0] at d
  have L:¬ h.next=n:=Z0
  have Z:∀ b,blk q b→¬ b=h.next:=λb y=>by have:=(kM.lt C y).2;omega
  have N:¬ vi=n:=Z0
  have I:∀ b,blk q b→3≤b∧¬ b=vi:=λb y=>by have:=K b y;omega
  refine S0 ?_
  refine WD.loop4 (q:=qq) (jS G) Z7 (K13 G l v e co vi h.next n c k m q) ?_ _ _ (K13.mk 0 0 _ cs rfl (Nat.zero_le _) (by unfold coZ;exact (by first|assumption|(push_cast(disch:=first|omega|(apply id;push_cast;try omega))[J];try omega))) ?_ tH ?_ ?_ s hco d (by first|assumption|(push_cast(disch:=first|omega|(apply id;push_cast;try omega))[u];try omega)) tH)
  ·have F:∃ bp,bp=h.next:=⟨_,rfl⟩
   obtain ⟨bp,F⟩:=F
   have hvp:vi<bp:=Z0
   have hb23:vi<n:=Z0
   have hqb:¬ blk q n:=f.2
   rw[← F] at L Z ⊢
   clear F d0 J P s hco d t b1 X u E C f K h cs
   intro μ s1 hI
   cases hI with|mk i iv h cs hiv hi J P c2 C t hl p d z M=>
   subst hiv
   rw[gP1]
   by_cases hil:(i:Int)<5
   ·have hile:i*9+1+8≤5*9:=Z0
    have T:=nP2 l i (j:=i) Z0
    rw[if_neg (Nat.lt_irrefl i)] at T
    have hb8:((cs.drop (i*9+1)).take 8).length=8:=by rw[List.length_take,List.length_drop,hl];omega
    have hb1:((cs.drop (i*9+1)).take 8).all one=true:=List.all_eq_true.2 λx hx=>List.all_eq_true.1 p x (List.mem_of_mem_drop (List.mem_of_mem_take hx))
    have H:=rowQ2 hb8 hb1
    have hz8:=λw=>((d w).drop (i*9+1)).take 8
    rw[(bX0 T).2] at hz8
    have hz:=λw=>(((d w).take (i*9+1)).app (zV3 G w 1 (hz8 w))).app ((d w).drop (i*9+1+8))
    rw[show i*9+1+8=i*9+9 by omega] at hz
    rw[qP2 _ T,nO2 l Z0] at hz
    unfold gV1 at H
    push_cast(disch:=first|omega|(apply id;push_cast;try omega))[hil,c2,t,hl,z,Z4,hile,↓H]
    have hnv:¬ n=vi:=λe=>N e.symm
    have hnb':¬ n=bp:=λe=>L e.symm
    have hb2':¬ (2:Nat)=n:=Z0
    refine ⟨_,Z0,K13.mk (i+1) _ _ (cs.take (i*9+1)++wrC ((cs.drop (i*9+1)).take 8)++cs.drop (i*9+9)) Z2 Z0 ?_ ?_ ?_ ?_ ?_ ?_ ?_ hz ?_ ?_⟩
    iterate 3 exact (by first|assumption|(push_cast(disch:=first|omega|(apply id;push_cast;try omega))[J,hb2',P,N,hnv,c2,L,hnb'];try omega))
    ·exact C.grew (S:=λk=>k=n) (jC.put _ _ _ λ_=>rfl) (λb y e=>hqb (by rw[← e];exact y))
    ·rw[show i*9+9=i*9+1+8 by omega];exact jQ _ _ _ _
    ·simp only[List.length_append,List.length_take,List.length_drop,hl,show (wrC ((cs.drop (i*9+1)).take 8)).length=8 from rfl];omega
    ·simp only[List.all_append,Z5]
     refine ⟨⟨?_,rfl⟩,?_⟩
     ·rw[List.all_eq_true] at p ⊢;exact λv hv=>p v (List.mem_of_mem_take hv)
     ·rw[List.all_eq_true] at p ⊢;exact λv hv=>p v (List.mem_of_mem_drop hv)
    iterate 2 exact (by first|assumption|(push_cast(disch:=first|omega|(apply id;push_cast;try omega))[z];try omega))
   ·obtain rfl:i=5:=Z0
    rw[wrD_5] at d
    refine S2 c2 z ?_
    rw[gO1]
    refine S2 c2 z ?_
    refine qV1 G v l true D C (λb y=>(I b y).1) Z0 t hm hl d z (λi=>Nat.blt i 3 || Nat.beq i vi) (λi hi=>by rw[uN2 Z0];rfl) (λb y=>by rw[uP2 (by have:=(I b y).1;omega),nJ2 (I b y).2];rfl) (by rw[uP2 Z0,nJ2 (λe=>N e.symm)];rfl) ?_
    intro co' e' hco1' hco2' R
    have o:cells (cA (λi=>Nat.blt i 3 || Nat.beq i vi) h) 2=_:=(dG h (by rw[uN2 Z0];rfl)).trans J
    have cv':cells (cA (λi=>Nat.blt i 3 || Nat.beq i vi) h) vi=_:=(dG h (by simp)).trans P
    have a:(cA (λi=>Nat.blt i 3 || Nat.beq i vi) h).lo=1:=z
    generalize cA (λi=>Nat.blt i 3 || Nat.beq i vi) h=h2 at *
    unfold coZ at o
    refine S2 cv' a ?_
    rw[dM0]
    have hv2:¬ vi=2:=Z0
    have hv3:¬ (2:Nat)=vi:=Z0
    by_cases he':e'=0
    ·subst he'
     refine S4 o a hv2 hv3 ?_
     exact ⟨_,⟨co',rfl,R rfl⟩,.id (wV1 _ Z0 _)⟩
    ·push_cast(disch:=first|omega|(apply id;push_cast;try omega))[he',o,a,hv2,hv3,↓rowI3,↓yP3,↓coB]
     exact ⟨_,⟨noC,rfl,bB2⟩,bC3 G _ _⟩
  ·exact (by first|assumption|(push_cast(disch:=first|omega|(apply id;push_cast;try omega))[P];try omega))
  ·exact (C.grew (jC.add h _ (λ_=>False)) λ_ _ h=>h).grew (S:=λk=>k=h.next) (jC.put _ _ _ λ_=>rfl) (λb y e=>Z b y e)
  ·exact (by first|assumption|(push_cast(disch:=first|omega|(apply id;push_cast;try omega))[t];try omega))
end
end Go.Proofs.YtklapbhlhjdijaaGreatDoor
namespace Go.Proofs.YtklapbhlhjdijaaGreatDoor
open _root_.Go.Proofs.Tryz (prog)
open Go Go.RowKit Go.Ev Go.Dv
noncomputable section
attribute [local push_cast] eq_self iff_self
set_option maxRecDepth 100000
theorem in_wf {a:Int}(h:(Lit.int .i64 a).wf=true):In a:=by
 simp only[Lit.wf,Z5,decide_eq_true_eq] at h
 exact h
section
variable {w:Zw} {H:Type} {enc:Zt×Z6→H}
theorem wS0:prog.underlying eI=some (.int .i64):=Z7
theorem kB3:prog.underlying 25=some (.slice eI):=Z7
theorem kA3:prog.underlying 67=some (.slice era):=Z7
theorem u_rbs:prog.underlying 22=some (.slice erb):=Z7
theorem f_raw:fieldsB prog era [(eI,0),(eI,1),(67,2)]=true:=Z7
theorem f_rb:fieldsB prog erb [(eI,0),(eI,1),(eI,2),(67,3),(22,4)]=true:=Z7
theorem mG0:∀ l:List Ra,l.flatMap raC=raCs l
 | []=>rfl
 | x :: l=>by rw[List.flatMap_cons,mG0 l,raCs]
theorem mE0:∀ l:List Rb,l.flatMap rbC=rbCs l
 | []=>rfl
 | x :: l=>by rw[List.flatMap_cons,mE0 l,rbCs]
theorem uA1:∀ l:List Int,(l.flatMap λi=>[Value.int .i64 i])=ivs l
 | []=>rfl
 | x :: l=>by rw[List.flatMap_cons,uA1 l];rfl
theorem iC1:∀ {l:List Ra},(∀ x∈l,smR x=true)→smRs l=true
 | [],_=>rfl
 | x :: l,h=>by rw[smRs,h x (by simp),iC1 λy a=>h y (by simp[a])];rfl
theorem iJ1:∀ {l:List Rb},(∀ x∈l,smB x=true)→smBs l=true
 | [],_=>rfl
 | x :: l,h=>by rw[smBs,h x (by simp),iJ1 λy a=>h y (by simp[a])];rfl
theorem gY2 {fuel:Nat}{cs:List Z6}{x:DataW H×List MemPlace}(h:DataW.trod enc prog w 0 (λ_=>true) true fuel 25 cs=some x)(f:(x.1.weights prog 25).all (·≤reachBytes)=true) :
  ∃ l:List Int,Go.Dv.Op prog 1 LL w [ivV l] cs∧(∀ a∈l,In a)∧l.length<1000000000000000:=by
 obtain ⟨l,b,d,g⟩:=open_slice (n:=1) (L:=LL) kB3 (size:=1) Z7 Z7 Z0 (of_decide_eq_true Z7) (λi=>[Value.int .i64 i]) In h f λk c y _ e _=>by
  obtain ⟨m,rfl,b,d⟩:=bO (n:=1) (L:=LL) wS0 e
  exact ⟨m,b,in_wf d⟩
 rw[uA1] at b
 exact ⟨l,b,d,g⟩
theorem gX2:∀ (fuel:Nat) {cs:List Z6} {x:DataW H×List MemPlace},DataW.trod enc prog w 0 (λ_=>true) true fuel 67 cs=some x→(x.1.weights prog 67).all (·≤reachBytes)=true→
  ∃ l:List Ra,Go.Dv.Op prog 1 LL w [rasV l] cs∧smRs l=true∧l.length<1000000000000000:=by
 intro fuel
 induction fuel using Nat.strongRecOn with
 | ind fuel B=>
 intro cs x h I
 obtain ⟨l,o,A,u⟩:=open_slice (n:=1) (L:=LL) kA3 (size:=3) Z7 Z7 Z0 (of_decide_eq_true Z7) raC (λr=>smR r=true) h I λk c y T s f=>by
  obtain ⟨q,t,g,e⟩:=eF f_raw s f
  rw[show prog.cellsOf era=3 by kernel_rfl] at g
  match c,g with
  | [a,b,d],_=>
   obtain ⟨R,j,_⟩:=e 0 _ _ rfl
   obtain ⟨N,i,_⟩:=e 1 _ _ rfl
   obtain ⟨M,m,J⟩:=e 2 _ _ rfl
   rw[show prog.cellsOf eI=1 by kernel_rfl] at j i
   rw[show prog.cellsOf 67=1 by kernel_rfl] at m
   obtain ⟨D,e0,C,_⟩:=bO (n:=1) (L:=LL) wS0 j
   obtain ⟨K,P,z,_⟩:=bO (n:=1) (L:=LL) wS0 i
   obtain ⟨F,v,p,E⟩:=B q Z0 m J
   refine ⟨.mk D K F,?_,?_⟩
   ·exact (C.append z).append v
   ·simp only[smR,p,Bool.and_true,decide_eq_true_eq];exact E
 rw[mG0] at o
 exact ⟨l,o,iC1 A,u⟩
theorem gY1 (fuel:Nat)(M:∀ k,k<fuel→∀ {cs:List Z6} {x:DataW H×List MemPlace},DataW.trod enc prog w 0 (λ_=>true) true k 22 cs=some x→(x.1.weights prog 22).all (·≤reachBytes)=true→
   ∃ l:List Rb,Go.Dv.Op prog 1 LL w [rbsV l] cs∧smBs l=true∧l.length<1000000000000000)
  {c:List Z6} {y:DataW H×List MemPlace} (u:DataW.trod enc prog w 0 (λ_=>true) true fuel erb c=some y) (g:(y.1.weights prog erb).all (·≤reachBytes)=true) :
  ∃ r:Rb,Go.Dv.Op prog 1 LL w (rbC r) c∧smB r=true:=by
 obtain ⟨j,z,m,h⟩:=eF f_rb u g
 rw[show prog.cellsOf erb=5 by kernel_rfl] at m
 match c,m with
 | [a,b,d,e,f],_=>
  obtain ⟨y0,p,_⟩:=h 0 _ _ rfl
  obtain ⟨y1,o,_⟩:=h 1 _ _ rfl
  obtain ⟨Z,q,_⟩:=h 2 _ _ rfl
  obtain ⟨y3,s,N⟩:=h 3 _ _ rfl
  obtain ⟨Y,i,J⟩:=h 4 _ _ rfl
  rw[show prog.cellsOf eI=1 by kernel_rfl] at p o q
  rw[show prog.cellsOf 67=1 by kernel_rfl] at s
  rw[show prog.cellsOf 22=1 by kernel_rfl] at i
  obtain ⟨T,e0,P,_⟩:=bO (n:=1) (L:=LL) wS0 p
  obtain ⟨V,e1,K,_⟩:=bO (n:=1) (L:=LL) wS0 o
  obtain ⟨F,X,C,_⟩:=bO (n:=1) (L:=LL) wS0 q
  obtain ⟨A,t,B,v⟩:=gX2 j s N
  obtain ⟨E,D,I,R⟩:=M j Z0 i J
  refine ⟨.mk T V F A E,?_,?_⟩
  ·exact (((P.append K).append C).append t).append D
  ·simp only[smB,B,I,Bool.and_true,Z5,decide_eq_true_eq];exact ⟨R,v⟩
theorem gW2:∀ (fuel:Nat) {cs:List Z6} {x:DataW H×List MemPlace},DataW.trod enc prog w 0 (λ_=>true) true fuel 22 cs=some x→(x.1.weights prog 22).all (·≤reachBytes)=true→
  ∃ l:List Rb,Go.Dv.Op prog 1 LL w [rbsV l] cs∧smBs l=true∧l.length<1000000000000000:=by
 intro fuel
 induction fuel using Nat.strongRecOn with
 | ind fuel j=>
 intro cs x h m
 obtain ⟨l,b,i,g⟩:=open_slice (n:=1) (L:=LL) u_rbs (size:=5) Z7 Z7 Z0 (of_decide_eq_true Z7) rbC (λr=>smB r=true) h m λk c y o e a=>
  gY1 k (λd f=>j d Z0) e a
 rw[mE0] at b
 exact ⟨l,b,iJ1 i,g⟩
end
section
variable {w:Zw} {H:Type} {enc:Zt×Z6→H}
theorem zZ3:prog.underlying 9=some .string:=Z7
theorem u_exs:prog.underlying 30=some (.slice eE):=Z7
theorem f_ex:fieldsB prog eE [(eI,0),(eI,1),(9,2),(30,3)]=true:=Z7
theorem nJ0:∀ l:List Ex,l.flatMap exC=gN l
 | []=>rfl
 | x :: l=>by rw[List.flatMap_cons,nJ0 l,gN]
theorem dV0 (fuel:Nat)(B:∀ k,k<fuel→∀ {cs:List Z6} {x:DataW H×List MemPlace},DataW.trod enc prog w 0 (λ_=>true) true k 30 cs=some x→(x.1.weights prog 30).all (·≤reachBytes)=true→
   ∃ l:List Ex,Go.Dv.Op prog 1 LL w [Rw false eE l.length (gN l)] cs)
  {c:List Z6} {y:DataW H×List MemPlace} (t:DataW.trod enc prog w 0 (λ_=>true) true fuel eE c=some y) (f:(y.1.weights prog eE).all (·≤reachBytes)=true) :
  ∃ r:Ex,Go.Dv.Op prog 1 LL w (exC r) c:=by
 obtain ⟨q,u,g,h⟩:=eF f_ex t f
 rw[show prog.cellsOf eE=4 by kernel_rfl] at g
 match c,g with
 | [a,b,d,e],_=>
  obtain ⟨N,j,_⟩:=h 0 _ _ rfl
  obtain ⟨K,i,_⟩:=h 1 _ _ rfl
  obtain ⟨J,m,_⟩:=h 2 _ _ rfl
  obtain ⟨P,o,C⟩:=h 3 _ _ rfl
  rw[show prog.cellsOf eI=1 by kernel_rfl] at j i
  rw[show prog.cellsOf 9=1 by kernel_rfl] at m
  rw[show prog.cellsOf 30=1 by kernel_rfl] at o
  obtain ⟨E,e0,D,_⟩:=bO (n:=1) (L:=LL) wS0 j
  obtain ⟨F,M,A,_⟩:=bO (n:=1) (L:=LL) wS0 i
  obtain ⟨⟨⟨p⟩⟩,I,z⟩:=qO1 (n:=1) (L:=LL) zZ3 m
  obtain ⟨v,s⟩:=B q Z0 o C
  exact ⟨.mk E F p v,((D.append A).append z).append s⟩
theorem gZ2:∀ (fuel:Nat) {cs:List Z6} {x:DataW H×List MemPlace},DataW.trod enc prog w 0 (λ_=>true) true fuel 30 cs=some x→(x.1.weights prog 30).all (·≤reachBytes)=true→
  ∃ l:List Ex,Go.Dv.Op prog 1 LL w [Rw false eE l.length (gN l)] cs:=by
 intro fuel
 induction fuel using Nat.strongRecOn with
 | ind fuel g=>
 intro cs x h i
 obtain ⟨l,b,m,j⟩:=open_slice (n:=1) (L:=LL) u_exs (size:=4) Z7 Z7 Z0 (of_decide_eq_true Z7) exC (λ_=>True) h i λk c y o e a=>
  (dV0 k (λd f=>g d Z0) e a).imp λ_ h=>⟨h,trivial⟩
 rw[nJ0] at b
 exact ⟨l,b⟩
theorem tB2 (fuel:Nat){c:List Z6}{y:DataW H×List MemPlace}(a:DataW.trod enc prog w 0 (λ_=>true) true fuel eE c=some y)(h:(y.1.weights prog eE).all (·≤reachBytes)=true) :
  ∃ r:Ex,Go.Dv.Op prog 1 LL w (exC r) c:=dV0 fuel (λk _=>gZ2 k) a h
theorem u_tms:prog.underlying 26=some (.slice etm):=Z7
theorem f_tm:fieldsB prog etm [(eI,0),(eI,1),(eI,2),(9,3),(eE,4),(26,8)]=true:=Z7
theorem lG0:∀ l:List Tm,l.flatMap tmC=jX l
 | []=>rfl
 | x :: l=>by rw[List.flatMap_cons,lG0 l,jX]
theorem gX1 (fuel:Nat)(M:∀ k,k<fuel→∀ {cs:List Z6} {x:DataW H×List MemPlace},DataW.trod enc prog w 0 (λ_=>true) true k 26 cs=some x→(x.1.weights prog 26).all (·≤reachBytes)=true→
   ∃ l:List Tm,Go.Dv.Op prog 1 LL w [Rw false etm l.length (jX l)] cs)
  {c:List Z6} {y:DataW H×List MemPlace} (z:DataW.trod enc prog w 0 (λ_=>true) true fuel etm c=some y) (f:(y.1.weights prog etm).all (·≤reachBytes)=true) :
  ∃ r:Tm,Go.Dv.Op prog 1 LL w (tmC r) c:=by
 obtain ⟨j,B,m,h⟩:=eF f_tm z f
 rw[show prog.cellsOf etm=9 by kernel_rfl] at m
 match c,m with
 | [a,b,d,e,f1,f2,f3,f4,g],_=>
  obtain ⟨y0,s,_⟩:=h 0 _ _ rfl
  obtain ⟨y1,q,_⟩:=h 1 _ _ rfl
  obtain ⟨Z,t,_⟩:=h 2 _ _ rfl
  obtain ⟨y3,u,_⟩:=h 3 _ _ rfl
  obtain ⟨Y,i,J⟩:=h 4 _ _ rfl
  obtain ⟨y5,p,R⟩:=h 5 _ _ rfl
  rw[show prog.cellsOf eI=1 by kernel_rfl] at s q t
  rw[show prog.cellsOf 9=1 by kernel_rfl] at u
  rw[show prog.cellsOf eE=4 by kernel_rfl] at i
  rw[show prog.cellsOf 26=1 by kernel_rfl] at p
  obtain ⟨P,e0,N,_⟩:=bO (n:=1) (L:=LL) wS0 s
  obtain ⟨T,e1,K,_⟩:=bO (n:=1) (L:=LL) wS0 q
  obtain ⟨F,V,D,_⟩:=bO (n:=1) (L:=LL) wS0 t
  obtain ⟨⟨⟨C⟩⟩,X,v⟩:=qO1 (n:=1) (L:=LL) zZ3 u
  obtain ⟨o,E⟩:=tB2 j i J
  obtain ⟨I,A⟩:=M j Z0 p R
  refine ⟨.mk P T F C o I,?_⟩
  cases o;exact ((((N.append K).append D).append v).append E).append A
theorem gV2:∀ (fuel:Nat) {cs:List Z6} {x:DataW H×List MemPlace},DataW.trod enc prog w 0 (λ_=>true) true fuel 26 cs=some x→(x.1.weights prog 26).all (·≤reachBytes)=true→
  ∃ l:List Tm,Go.Dv.Op prog 1 LL w [Rw false etm l.length (jX l)] cs:=by
 intro fuel
 induction fuel using Nat.strongRecOn with
 | ind fuel g=>
 intro cs x h i
 obtain ⟨l,b,m,j⟩:=open_slice (n:=1) (L:=LL) u_tms (size:=9) Z7 Z7 Z0 (of_decide_eq_true Z7) tmC (λ_=>True) h i λk c y o e a=>
  (gX1 k (λd f=>g d Z0) e a).imp λ_ h=>⟨h,trivial⟩
 rw[lG0] at b
 exact ⟨l,b⟩
end
end
end Go.Proofs.YtklapbhlhjdijaaGreatDoor
