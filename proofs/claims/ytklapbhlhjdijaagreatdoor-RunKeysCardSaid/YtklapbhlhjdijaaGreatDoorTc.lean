/-
  A part of the proof: what the program's functions hand back,as theorems. No condition but those that each theorem names.
-/
import Derived.Test.YtklapbhlhjdijaaGreatDoorTa
import Derived.Test.YtklapbhlhjdijaaGreatDoorTb
import Derived.Test.YtklapbhlhjdijaaGreatDoorExc
set_option linter.unusedSimpArgs false
set_option linter.unusedVariables false
namespace Go.Proofs.YtklapbhlhjdijaaGreatDoor
open _root_.Go.Proofs.Tryz (prog)
open Go Go.RowKit Go.Ev Go.Dv
noncomputable section
attribute [local push_cast] eq_self iff_self
set_option maxRecDepth 100000
variable (G:Nat×Nat)
def tmH (k a b:Int)(s:List Zu)(e:Ex)(L:Z6):List Z6:=[.int .i64 k,.int .i64 a,.int .i64 b,.string (Tx s),.int .i64 e.k,.int .i64 e.n,.string (Tx e.s),Rw false eE e.l.length (kY e.l),L]
inductive NTs (σ:jA):Nat→Nat→Tm→List Z6→Prop
 | leaf {lo hi:Nat} {t:Tm} (h:lo≤hi) (h12:t.k≠12) (h11:t.k≠11) (h7:t.k≠7):NTs σ lo hi t (tmC t)
 | blk {lo hi b : Nat} {a b' : Int} {s : List Zu} {e : Ex} {x : Tm} {cx : List Z6} (hx : NTs σ lo b x cx) (hc : cells σ b = some (cx, etm, false)) (hb : b < hi) :
   NTs σ lo hi (.mk 7 a b' s e [x]) (tmH 7 a b' s e (.slice (some ⟨b,0,none⟩) 1 1))
 | seq {lo hi b : Nat} {a b' : Int} {s : List Zu} {e : Ex} {x y : Tm} {cx : List Z6} (hx : NTs σ lo b x cx) (hc : cells σ b = some (cx ++ tmC y, etm, false)) (hb : b < hi) :
   NTs σ lo hi (.mk 12 a b' s e [x,y]) (tmH 12 a b' s e (.slice (some ⟨b,0,none⟩) 2 2))
 | par {lo m hi b : Nat} {a b' : Int} {s : List Zu} {e : Ex} {x y : Tm} {cx cy : List Z6} (hx : NTs σ lo m x cx) (hy : NTs σ m b y cy) (hc : cells σ b = some (cx ++ cy, etm, false)) (hb : b < hi) :
   NTs σ lo hi (.mk 11 a b' s e [x,y]) (tmH 11 a b' s e (.slice (some ⟨b,0,none⟩) 2 2))
theorem NTs.le {σ:jA}{lo hi:Nat}{t:Tm}{c:List Z6}(h:NTs σ lo hi t c):lo≤hi:=by
 induction h<;>omega
theorem NTs.len {σ:jA}{lo hi:Nat}{t:Tm}{c:List Z6}(h:NTs σ lo hi t c):c.length=9:=by
 cases h<;>first|exact uQ _|rfl
theorem NTs.one {σ:jA}{lo hi:Nat}{t:Tm}{c:List Z6}(h:NTs σ lo hi t c):c.all one=true:=by
 cases h<;>first|exact uC0 _|rfl
theorem NTs.mono {σ:jA}{lo hi:Nat}{t:Tm}{c:List Z6}(h:NTs σ lo hi t c):∀ {lo' hi':Nat},lo'≤lo→hi≤hi'→NTs σ lo' hi' t c:=by
 induction h with
 | leaf h e i n=>intro lo' hi' a f;exact .leaf Z0 e i n
 | blk j b k g=>intro lo' hi' a f;exact .blk (g a (Z3 _)) b Z0
 | seq j b k g=>intro lo' hi' a f;exact .seq (g a (Z3 _)) b Z0
 | par j l b k d m=>intro lo' hi' a f;exact .par (d a (Z3 _)) l b Z0
theorem NTs.grew {σ σ':jA}{S:Nat→Prop}{lo hi:Nat}{t:Tm}{c:List Z6}(h:NTs σ lo hi t c)(g:jC σ σ' S)(b:∀ k,lo≤k→k<hi→¬ S k)(r:hi≤σ.next):NTs σ' lo hi t c:=by
 induction h with
 | leaf h j o q=>exact .leaf h j o q
 | blk e f a n=>
  have:=e.le
  exact .blk (n (λk d m=>b k d Z0) Z0) ((g.cells Z0 (b _ Z0 a)).trans f) a
 | seq e f a n=>
  have:=e.le
  exact .seq (n (λk d m=>b k d Z0) Z0) ((g.cells Z0 (b _ Z0 a)).trans f) a
 | par e p f a i l=>
  have:=e.le
  have:=p.le
  exact .par (i (λk d m=>b k d Z0) Z0) (l (λk d m=>b k Z0 Z0) Z0) ((g.cells Z0 (b _ Z0 a)).trans f) a
theorem bB0 {P:Z9}{n:Nat}{σ:jA}{L D:Z6}(k a b:Int)(s:List Zu)(e:Ex)(c:0<n)(h:FzV P n σ L D):FzL P n σ (tmH k a b s e L) (tmH k a b s e D):=
 .cons (.id rfl) (.cons (.id rfl) (.cons (.id rfl) (.cons (.id rfl) (.cons (.id rfl) (.cons (.id rfl) (.cons (.id rfl) (.cons (.id (cM0 _ c ..)) (.cons h .nil))))))))
theorem bW0 {P:Z9}{n:Nat}{σ:jA}{b m:Nat}{cs:List Z6}{l:List Tm}(a:szT P etm=some 9)(f:n≤b)(c:cells σ b=some (cs,etm,false))(e:l.length=m)(g:m<100)(d:FzL P n σ cs (qN l))(h:cs.length=m*9):FzV P n σ (.slice (some ⟨b,0,none⟩) m m) (Rw false etm l.length (qN l)):=by
 subst e
 refine .sl f c a Z1 Z0 (.inl ⟨by simp only[UC];omega,Z3 _⟩) ?_
 rw[List.drop_zero,List.take_of_length_le Z0]
 exact d
theorem NTs.fz {P:Z9}(p:szT P etm=some 9){n:Nat}(g:0<n){σ:jA}{lo hi:Nat}{t:Tm}{c:List Z6}(h:NTs σ lo hi t c)(f:n≤lo):FzL P n σ c (tmC t):=by
 induction h with
 | leaf=>exact .ids (uB0 n g _)
 | blk d i r o=>
  have:=d.le
  exact bB0 _ _ _ _ _ g (bW0 p Z0 i rfl Z1 (by rw[jT0];exact o f) (by rw[d.len]))
 | @seq lo hi b a b' s e x y u d i r o=>
  have:=d.le
  refine bB0 _ _ _ _ _ g (bW0 (l:=[x,y]) p Z0 i rfl Z1 ?_ (by rw[List.length_append,d.len,uQ]))
  rw[show qN [x,y]=tmC x++tmC y by rw[qN,jT0]]
  exact (o f).app (.ids (uB0 n g _))
 | @par lo m hi b a b' s e x y u v d q i r j k=>
  have:=d.le
  have:=q.le
  refine bB0 _ _ _ _ _ g (bW0 (l:=[x,y]) p Z0 i rfl Z1 ?_ (by rw[List.length_append,d.len,q.len]))
  rw[show qN [x,y]=tmC x++tmC y by rw[qN,jT0]]
  exact (j f).app (k Z0)
def atT:Tm→List Int→Tm
 | t,[]=>t
 | .mk _ _ _ _ _ l,i :: p=>atT (l.getD i.toNat zT) p
def bC:Tm→List Int→Tm→Tm
 | _,[],x=>x
 | .mk k a b s e l,i :: p,x=>.mk k a b s e (l.set i.toNat (bC (l.getD i.toNat zT) p x))
inductive gK:Tm→List Int→Prop
 | nil {t:Tm}:gK t []
 | blk {a b:Int} {s:List Zu} {e:Ex} {x:Tm} {p:List Int} (h:gK x p):gK (.mk 7 a b s e [x]) (0 :: p)
 | seq {a b:Int} {s:List Zu} {e:Ex} {x y:Tm} {p:List Int} (h:gK x p):gK (.mk 12 a b s e [x,y]) (0 :: p)
 | parl {a b:Int} {s:List Zu} {e:Ex} {x y:Tm} {p:List Int} (h:gK x p):gK (.mk 11 a b s e [x,y]) (0 :: p)
 | parr {a b:Int} {s:List Zu} {e:Ex} {x y:Tm} {p:List Int} (h:gK y p):gK (.mk 11 a b s e [x,y]) (1 :: p)
structure LocT (σ:jA)(b off lo hi:Nat)(full:List Z6)(ty:Nat)(t:Tm)(c:List Z6):Prop where
 lc:cells σ b=some (full,ty,false)
 lw:off+9≤full.length
 lh:b<lo∨hi≤b
 ln:b<σ.next
 le:(full.drop off).take 9=c
 lt:NTs σ lo hi t c
 lp:0<b
 lg:hi≤σ.next
def Wr (P:Z9)(n:Nat)(O:Nat→Prop)(σ:jA)(b off:Nat)(full:List Z6)(ty:Nat)(t:Tm)(p:List Int)(g i f a:Nat)(h:List Z6)(d:Nat):Prop:=
 ∀ (σ':jA) (y:Tm) (c:List Z6),c.length=9→jC σ σ' (λk=>(k=g∨(f≤k∧k<a))∨O k)→cells σ' g=some (setFrom h i c,d,false)→FzL P n σ' c (tmC y)→
  ∃ e,e.length=9∧cells σ' b=some (setFrom full off e,ty,false)∧FzL P n σ' e (tmC (bC t p y))
theorem mN0 {full c:List Z6}{off:Nat}(h:(full.drop off).take 9=c)(a:c.length=9):setFrom full off c=full:=by
 unfold setFrom
 rw[a,← h,← List.drop_drop,List.append_assoc,List.take_append_drop,List.take_append_drop]
theorem Wr.self {P:Z9}{n:Nat}{O:Nat→Prop}{σ:jA}{b off lo hi:Nat}{full:List Z6}{ty:Nat}{t:Tm}:Wr P n O σ b off full ty t [] b off lo hi full ty:=
 λσ' y h d _ c a=>⟨h,d,c,a⟩
theorem zU0:∀ (t:Tm) (p q:List Int) (y:Tm),gK t p→bC t (p++q) y=bC t p (bC (atT t p) q y)
 | t,[],q,y,_=>by simp[bC,atT]
 | .mk k a b s e l,i :: p,q,y,h=>by
  cases h with
  | blk h=>exact congrArg (λz=>Tm.mk 7 a b s e [z]) (zU0 _ p q y h)
  | @seq _ _ _ _ x z _ h=>exact congrArg (λw=>Tm.mk 12 a b s e [w,z]) (zU0 _ p q y h)
  | @parl _ _ _ _ x z _ h=>exact congrArg (λw=>Tm.mk 11 a b s e [w,z]) (zU0 _ p q y h)
  | @parr _ _ _ _ x z _ h=>exact congrArg (λw=>Tm.mk 11 a b s e [x,w]) (zU0 _ p q y h)
theorem Wr.trans {P:Z9}{n:Nat}{O:Nat→Prop}{σ:jA}{b off:Nat}{full:List Z6}{ty:Nat}{t:Tm}{p q:List Int}{f r j l:Nat}{h:List Z6}{d:Nat}{c o m i:Nat}{a:List Z6}{e:Nat}
  (F:gK t p) (u:Wr P n O σ b off full ty t p f r j l h d) (E:Wr P n O σ f r h d (atT t p) q c o m i a e) (H:c=f∨(j≤c∧c<l)) (J:j≤m) (M:i≤l) :
  Wr P n O σ b off full ty t (p++q) c o m i a e:=by
 intro σ' y w x g D v
 obtain ⟨z,C,I,A⟩:=E σ' y w x g D v
 rw[zU0 t p q y F]
 exact u σ' _ z C (g.mono λk _ B=>by
  rcases B with (rfl|⟨K,L⟩)|s
  ·exact .inl H
  ·exact .inl (.inr ⟨Z0,Z0⟩)
  ·exact .inr s) I A
theorem LocT.step {P:Z9}(R:szT P etm=some 9){n:Nat}(I:0<n){O:Nat→Prop}{σ:jA}{b off lo hi:Nat}(N:∀ k,O k→k≠b∧(k<lo∨hi≤k)){full:List Z6}{ty:Nat}{t:Tm}{c:List Z6}(h:LocT σ b off lo hi full ty t c)(hlo:n≤lo){i:Int}{p:List Int}(V:gK t (i :: p)) :
  ∃ (o m F K:Nat) (j:List Z6) (x:Tm) (f:List Z6),c[8]?=some (.slice (some ⟨o,0,none⟩) m m)∧0≤i∧i<m∧j.length=m*9∧x=atT t [i]∧gK t [i]∧LocT σ o (i.toNat*9) F K j etm x f∧lo≤F∧lo≤o∧o<hi∧
   K≤hi∧Wr P n O σ b off full ty t [i] o (i.toNat*9) F K j etm∧gK x p:=by
 obtain ⟨hc,hw,hhi,hnx,he,ht,hbp,hgn⟩:=h
 have hs:=mN0 he ht.len
 have A:∀ (σ':jA) (S:Nat→Prop),jC σ σ' S→¬ S b→cells σ' b=some (setFrom full off c,ty,false):=λσ' S g hS=>by rw[hs];exact (g.cells hnx hS).trans hc
 cases ht with
 | leaf h X h11 h7=>
  cases V<;>first|exact absurd rfl h7|exact absurd rfl X|exact absurd rfl h11
 | @blk _ _ o a b' s e x f d q T=>
  cases V with
  | blk J=>
   have u:=d.le
   refine ⟨o,1,lo,o,f,x,f,rfl,by decide,by decide,by rw[d.len],rfl,.blk .nil,⟨q,by rw[d.len];decide,.inr (Z3 _),Z0,by rw[show (0:Int).toNat*9=0 from rfl,List.drop_zero,List.take_of_length_le (by rw[d.len];exact Z3 _)],d,Z0,Z0⟩,Z3 _,u,T,Z0,?_,J⟩
   intro σ' y v w g r H
   rw[show setFrom f ((0:Int).toNat*9) v=v by unfold setFrom;rw[show (0:Int).toNat*9=0 from rfl,List.take_zero,List.nil_append,List.drop_of_length_le (by rw[d.len];omega),List.append_nil]] at r
   exact ⟨_,rfl,A σ' _ g (λL=>L.elim Z0 λE=>(N _ E).1 rfl),bB0 _ _ _ _ _ I (bW0 (l:=[y]) R Z0 r rfl Z1 (by rw[jT0];exact H) (by rw[w]))⟩
 | @seq _ _ o a b' s e x y f d q T=>
  cases V with
  | seq J=>
   have u:=d.le
   have C:(f++tmC y).length=18:=by rw[List.length_append,d.len,uQ]
   refine ⟨o,2,lo,o,f++tmC y,x,f,rfl,by decide,by decide,C,rfl,.seq .nil,⟨q,by rw[C];decide,.inr (Z3 _),Z0,by rw[show (0:Int).toNat*9=0 from rfl,List.drop_zero,List.take_left' d.len],d,Z0,Z0⟩,Z3 _,u,T,Z0,?_,J⟩
   intro σ' z D w g r H
   rw[show setFrom (f++tmC y) ((0:Int).toNat*9) D=D++tmC y by unfold setFrom;rw[show (0:Int).toNat*9=0 from rfl,List.take_zero,List.nil_append,w,Nat.zero_add,List.drop_left' d.len]] at r
   refine ⟨_,rfl,A σ' _ g (λL=>L.elim Z0 λE=>(N _ E).1 rfl),bB0 _ _ _ _ _ I (bW0 (l:=[z,y]) R Z0 r rfl Z1 ?_ (by rw[List.length_append,w,uQ]))⟩
   rw[show qN [z,y]=tmC z++tmC y by rw[qN,jT0]]
   exact H.app (.ids (uB0 n I _))
 | @par _ m _ o a b' s e x y f v d M q T=>
  have u:=d.le
  have Z:=M.le
  have C:(f++v).length=18:=by rw[List.length_append,d.len,M.len]
  cases V with
  | parl J=>
   refine ⟨o,2,lo,m,f++v,x,f,rfl,by decide,by decide,C,rfl,.parl .nil,⟨q,by rw[C];decide,.inr Z,Z0,by rw[show (0:Int).toNat*9=0 from rfl,List.drop_zero,List.take_left' d.len],d,Z0,Z0⟩,Z3 _,Z0,T,Z0,?_,J⟩
   intro σ' z D w g r H
   rw[show setFrom (f++v) ((0:Int).toNat*9) D=D++v by unfold setFrom;rw[show (0:Int).toNat*9=0 from rfl,List.take_zero,List.nil_append,w,Nat.zero_add,List.drop_left' d.len]] at r
   have hy':=M.grew g (λk h1 h2 B=>B.elim (λB=>by omega) (λB=>by have:=N k B;omega)) Z0
   refine ⟨_,rfl,A σ' _ g (λL=>L.elim Z0 λE=>(N _ E).1 rfl),bB0 _ _ _ _ _ I (bW0 (l:=[z,y]) R Z0 r rfl Z1 ?_ (by rw[List.length_append,w,M.len]))⟩
   rw[show qN [z,y]=tmC z++tmC y by rw[qN,jT0]]
   exact H.app (hy'.fz R I Z0)
  | parr J=>
   refine ⟨o,2,m,o,f++v,y,v,rfl,by decide,by decide,C,rfl,.parr .nil,⟨q,by rw[C];decide,.inr (Z3 _),Z0,by rw[show (1:Int).toNat*9=9 from rfl,List.drop_left' d.len,List.take_of_length_le (by rw[M.len];exact Z3 _)],M,Z0,Z0⟩,u,Z0,T,Z0,?_,J⟩
   intro σ' z D w g r H
   rw[show setFrom (f++v) ((1:Int).toNat*9) D=f++D by unfold setFrom;rw[show (1:Int).toNat*9=9 from rfl,List.take_left' d.len,w,List.drop_of_length_le (by rw[C];omega),List.append_nil]] at r
   have Y:=d.grew g (λk h1 h2 B=>B.elim (λB=>by omega) (λB=>by have:=N k B;omega)) Z0
   refine ⟨_,rfl,A σ' _ g (λL=>L.elim Z0 λE=>(N _ E).1 rfl),bB0 _ _ _ _ _ I (bW0 (l:=[x,z]) R Z0 r rfl Z1 ?_ (by rw[List.length_append,w,d.len]))⟩
   rw[show qN [x,z]=tmC x++tmC z by rw[qN,jT0]]
   exact (Y.fz R I Z0).app H
def qn:Q:=⟨λt=>Nat.beq t 26 || Nat.beq t 1000034,H0⟩
theorem qn_r:qn.m 26=true:=rfl
theorem qn_h:qn.H=H0:=rfl
theorem qn_b:qn.m 1000034=true:=rfl
def NrP (σ:jA)(t:Tm)(v:Z6)(σ':jA):Prop:=∃ cs,v=.agg ⟨cs⟩∧NTs σ' σ.next σ'.next t cs∧jC σ σ' (λ_=>False)
theorem jU1 (k a b:Int)(s:List Zu)(e:Ex)(l:List Tm)(h:smE e=true){σ:jA}(c:σ.lo=1)(d:1≤σ.next)(q:Z8 Addr)(n m:Nat) :
  jH (pp G) H0 78 [tmV (.mk k a b s e l),.slice q n m] σ (λv σ'=>v=.agg ⟨tmH k a b s e (.slice q n m)⟩∧jC σ σ' (λ_=>False)):=by
 refine jH.fir4 (q:=qq) (jV G) eE3 Z7 rfl rfl (jQ1 ..) (by first|exact Nat.le_trans (show NGG≤1 by decide) Z0) ?_;rw[iV1]
 refine S0 ?_
 refine dK (qT1 G e h) ?_
 refine S2 @nZ0 c ?_
 exact ⟨rfl,(by (repeat (first|exact Gr.refl _|assumption|(refine jC.put' ?_ _ _ (by first|omega|(simp only[push_cast];omega)))|(refine jC.add' ?_ _))))⟩
theorem lR2:slT prog 26=some (etm,9,[.int .i64 0,.int .i64 0,.int .i64 0,.string (Tx []),.int .i64 0,.int .i64 0,.string (Tx []),.slice none 0 0,.slice none 0 0]):=Z7
theorem rowN {c d:List Z6}(b:c.length=9)(h:d.length=9)(e:c.all one=true)(a:d.all one=true)(σ:jA):bsD (qn.m 26) (slT prog 26) 2 [(0,.agg ⟨c⟩),(1,.agg ⟨d⟩)] σ=some (.slice (some ⟨σ.next,0,none⟩) 2 2,σ.add (O (c++d) etm false)):=by
 match c,b,d,h with
 | [x0,x1,x2,x3,x4,x5,x6,x7,x8],_,[y0,y1,y2,y3,y4,y5,y6,y7,y8],_=>
  rw[lR2,oH0 (n:=9) _ _ _ _ Z1,qn_r]
  exact qO2 (cs:=[x0,x1,x2,x3,x4,x5,x6,x7,x8]++[y0,y1,y2,y3,y4,y5,y6,y7,y8]) 2 (by rw[List.all_append,e,a];rfl)
theorem yP3 {c:List Z6}(a:c.length=9)(h:c.all one=true)(σ:jA):bsD (qn.m 26) (slT prog 26) 1 [(0,.agg ⟨c⟩)] σ=some (.slice (some ⟨σ.next,0,none⟩) 1 1,σ.add (O c etm false)):=by
 match c,a with
 | [x0,x1,x2,x3,x4,x5,x6,x7,x8],_=>
  rw[lR2,oH0 (n:=9) _ _ _ _ Z1,qn_r]
  exact qO2 (cs:=[x0,x1,x2,x3,x4,x5,x6,x7,x8]) 1 h
theorem rowNd (y:Tm){c:List Z6}(h:c.length=9)(a:c.all one=true)(σ:jA):bsD (qn.m 26) (slT prog 26) 2 [(0,.agg ⟨c⟩),(1,tmV y)] σ=some (.slice (some ⟨σ.next,0,none⟩) 2 2,σ.add (O (c++tmC y) etm false)):=rowN h (uQ y) a (uC0 y) σ
theorem NTs.k0 {σ:jA}{lo hi:Nat}{t:Tm}{c:List Z6}(h:NTs σ lo hi t c):c[0]?=some (.int .i64 t.k):=by
 cases h with
 | leaf=>exact zH0 _
 | blk=>rfl
 | seq=>rfl
 | par=>rfl
def Nrm (G:Nat×Nat)(x:Tm):Prop:=∀ σ:jA,σ.lo=1→1≤σ.next→jH (pp G) H0 39 [tmV x] σ (NrP σ (jD x))
theorem gU3 (a b:Int)(s:List Zu)(e:Ex)(x y:Tm)(Y:smE e=true)(hx:Nrm G x)(hy:Nrm G y)(J:jF (pp G) H0 79 [tmV y] (tmV y)):Nrm G (.mk 12 a b s e [x,y]):=by
 intro σ K hn
 refine jH.fir4 (q:=qn) (jV G) nU0 Z7 rfl rfl (wC0 ..) (by rw[K];exact (show NGG≤1 by decide)) ?_
 rw[uF0]
 rw[jD,if_pos rfl]
 refine S3 @qn_r @qn_b @qn_h ?_
 refine jE.func (cap:=[]) (hx _ (by rw[jM];exact K) (by rw[jB];omega)) ?_
 rintro _ c ⟨t,rfl,A,g⟩
 have C:cells c σ.next=some ([.int .i64 0,.int .i64 0,.int .i64 0,.string (Tx []),.int .i64 0,.int .i64 0,.string (Tx []),.slice none 0 0,.slice none 0 0],etm,false):=g.cellsE (qM _ _ _ _ rfl) (by rw[jB];omega) id
 have d:c.lo=1:=by rw[g.lo,jM,K]
 have L:=g.next
 rw[jB] at L A
 have H:=A.len
 have j:=A.one
 have o:t.take 9=t:=List.take_of_length_le Z0
 have r:t.drop 9=[]:=List.drop_of_length_le Z0
 have p:(Value.agg ⟨t⟩).cells.toList=t:=rfl
 have n:=A.k0
 have Z:jC σ c (λ_=>False):=(jC.add _ _ _).trans g λ_ _ h=>h
 generalize jD x=x' at *
 by_cases h0:x'.k=0
 ·rw[if_pos h0]
  push_cast(disch:=first|omega|(apply id;push_cast;try omega))[qn_r,qn_b,qn_h,H,j,o,r,p,n,h0,d,C]
  refine jE.func (cap:=[]) (hy _ (by rw[cR,jM];exact d) (by rw[jP,jB];omega)) ?_
  rintro _ l ⟨m,rfl,E,D⟩
  have P:cells l σ.next=some ([.int .i64 0,.int .i64 0,.int .i64 0,.string (Tx []),.int .i64 0,.int .i64 0,.string (Tx []),.slice none 0 0,.slice none 0 0],etm,false):=D.cellsE ((jL _ _ _ Z0).trans ((kG _ _ Z0).trans C)) (by rw[jP,jB];omega) id
  have N:l.lo=1:=by rw[D.lo,cR,jM,d]
  have R:=D.next
  rw[jP,jB] at R E
  have T:=E.len
  have B:=E.one
  have v:m.take 9=m:=List.take_of_length_le Z0
  have z:m.drop 9=[]:=List.drop_of_length_le Z0
  have u:(Value.agg ⟨m⟩).cells.toList=m:=rfl
  push_cast(disch:=first|omega|(apply id;push_cast;try omega))[qn_r,qn_b,qn_h,T,B,v,z,u,N,P]
  have F:jC c (l.put σ.next (O m etm false)) (λk=>k=σ.next):=(((jC.add _ _ _).trans (jC.put _ _ _ (S:=λk=>k=c.next) λ_=>rfl) λi hi h=>absurd h Z0).trans D λ_ _ h=>h.elim).trans (jC.put _ _ _ (S:=λk=>k=σ.next) λ_=>rfl) λ_ _ h=>h
  have I:jC σ (l.put σ.next (O m etm false)) (λ_=>False):=Z.trans F λi hi h=>absurd h Z0
  refine ⟨m,rfl,NTs.mono (NTs.grew E (jC.put _ _ _ (S:=λk=>k=σ.next) λ_=>rfl) (λk h1 h2=>(by omega:¬ k=σ.next)) (Z3 _)) Z0 (by rw[jP];exact Z3 _),I⟩
 ·rw[if_neg (by exact h0)]
  push_cast(disch:=first|omega|(apply id;push_cast;try omega))[qn_r,qn_b,qn_h,H,j,o,r,p,n,h0,d,C]
  refine dK (J) ?_
  push_cast(disch:=first|omega|(apply id;push_cast;try omega))[qn_r,qn_b,qn_h,H,j,o,r,p,n,h0,d,C,↓rowNd y H j]
  refine jE.func (cap:=[]) (jU1 G 12 a b s e [x,y] Y (by rw[jM,cR,jM];exact d) (by rw[jB,jP,jB];omega) _ 2 2) ?_
  rintro _ f ⟨rfl,w⟩
  have P:cells f σ.next=some ([.int .i64 0,.int .i64 0,.int .i64 0,.string (Tx []),.int .i64 0,.int .i64 0,.string (Tx []),.slice none 0 0,.slice none 0 0],etm,false):=w.cellsE ((kG _ _ (by rw[jP,jB];omega)).trans ((jL _ _ _ Z0).trans ((kG _ _ Z0).trans C))) (by rw[jB,jP,jB];omega) id
  have c2:cells f (c.next+1)=some (t++tmC y,etm,false):=w.cellsE (qM _ _ _ _ (by rw[jP,jB])) (by rw[jB,jP,jB];omega) id
  have M:f.lo=1:=by rw[w.lo,jM,cR,jM,d]
  have V:=w.next
  rw[jB,jP,jB] at V
  unfold tmH
  refine S5 @qn_r @qn_b @qn_h P M ?_
  have F:∀ X,jC c (f.put σ.next X) (λk=>k=σ.next):=λX=>((((jC.add _ _ _).trans (jC.put _ _ _ (S:=λk=>k=c.next) λ_=>rfl) λi hi h=>absurd h Z0).trans (jC.add _ _ _) λ_ _ h=>h).trans w λ_ _ h=>h.elim).trans (jC.put _ _ _ (S:=λk=>k=σ.next) λ_=>rfl) λ_ _ h=>h
  have I:∀ X,jC σ (f.put σ.next X) (λ_=>False):=λX=>Z.trans (F X) λi hi h=>absurd h Z0
  exact ⟨_,rfl,NTs.seq (b:=c.next+1) (NTs.mono (NTs.grew A (F _) (λk h1 h2=>(by omega:¬ k=σ.next)) (Z3 _)) Z0 Z0) ((jL _ _ _ Z0).trans c2) (by rw[jP];omega),I _⟩
@[reducible] def ZC:List Z6:=[.int .i64 0,.int .i64 0,.int .i64 0,.string (Tx []),.int .i64 0,.int .i64 0,.string (Tx []),.slice none 0 0,.slice none 0 0]
theorem NTs.up {a b:jA}{L M:Nat}{t:Tm}{c:List Z6}(h:NTs a L M t c)(g:jC a b (λk=>k<L∨M≤k))(d:M≤a.next):NTs b L M t c:=
 NTs.grew h g (λk i f e=>by cases e<;>omega) d
theorem nrm_j (a b:Int)(s:List Zu)(e:Ex)(x y:Tm)(V:smE e=true){σ0 σ:jA}{Y Z lo m hi:Nat}{x' N:Tm}{t r:List Z6}{x0 x3 x6 x7 x8 x9 xA xB xC xD xE xF xG xH xI xJ xK xL xM xN xO xP xQ xR xS xT xU xV xW xX xY xZ yA yB yC yD yE yF yG yH yI yJ yK yL yM yN yO yP yQ yR yS yT yU yV yW yX yY yZ zA zB zC zD zF zG zH zI zJ zK zL zM zN zO zP zQ zR zS zU zV zW zX zY zZ wA wB wC wD wE wF wG wH wI wJ wK wL:Z6}
  (K:σ.lo=1) (hn:1≤σ0.next) (L:cells σ σ0.next=some (ZC,etm,false)) (J:cells σ Y=some (t,etm,false)) (A:cells σ Z=some (r,etm,false))
  (C:NTs σ lo m x' t) (I:NTs σ m hi N r) (hlo:σ0.next<lo) (T:hi≤σ.next) (hx0:σ0.next<Y) (hz0:σ0.next<Z) (hx1:Y<σ.next) (hz1:Z<σ.next) (g:jC σ0 σ (λ_=>False)) (R:Z6→jA→Prop)
  (hz:x'.k=0∧N.k=0→∀ σ',jC σ0 σ' (λ_=>False)→R (.agg ⟨ZC⟩) σ') (M:¬ (x'.k=0∧N.k=0)→∀ v σ',NrP σ0 (.mk 11 a b s e [x',N]) v σ'→R v σ') :
  dc3 (pp G) qn none sT0 ⟨(F98 x0 (Rpt 0 (tmC (.mk 11 a b s e [x,y]))) (.pointer (some ⟨σ0.next,0,none⟩)) x3 (.pointer (some ⟨Y,0,none⟩)) (.pointer (some ⟨Z,0,none⟩)) x6 x7 x8 x9 xA xB xC xD xE xF xG xH xI xJ xK xL xM xN xO xP xQ xR xS xT xU xV xW xX xY xZ yA yB yC yD yE yF yG yH yI yJ yK yL yM yN yO yP yQ yR yS yT yU yV yW yX yY yZ zA zB zC zD zF zG zH zI zJ zK zL zM zN zO zP zQ zR zS zU zV zW zX zY zZ wA wB wC wD wE wF wG wH wI wJ wK wL),[],σ⟩ (@kR ⟨uS 0 (bV (λs1=>dc3 (pp G) qn none sS0 s1 (@kR ⟨jR prog [(.cell 2 34)] R⟩)) (jR prog [(.cell 2 34)] R))⟩):=by
 have P:=C.len
 have p:=C.one
 have H:t.take 9=t:=List.take_of_length_le Z0
 have D:t.drop 9=[]:=List.drop_of_length_le Z0
 have z:(Value.agg ⟨t⟩).cells.toList=t:=rfl
 have w:=C.k0
 have o:=I.len
 have d:=I.one
 have q:r.take 9=r:=List.take_of_length_le Z0
 have j:r.drop 9=[]:=List.drop_of_length_le Z0
 have l:(Value.agg ⟨r⟩).cells.toList=r:=rfl
 have n:=I.k0
 have hsn:σ0.next<σ.next:=Z0
 rw[wE0,uX]
 by_cases h0:x'.k=0
 ·by_cases u:N.k=0
  ·push_cast(disch:=first|omega|(apply id;push_cast;try omega))[qn_r,qn_b,qn_h,K,L,J,A,w,n,h0,u,P,o,H,D,z,p,q,j,l,d]
   exact hz ⟨h0,u⟩ _ (g.trans (jC.put _ _ _ (S:=λk=>k=σ0.next) λ_=>rfl) λi hi h=>absurd h Z0)
  ·push_cast(disch:=first|omega|(apply id;push_cast;try omega))[qn_r,qn_b,qn_h,K,L,J,A,w,n,h0,u,P,o,H,D,z,p,q,j,l,d,↓rowN P o p d]
   refine jE.func (cap:=[]) (jU1 G 11 a b s e [x,y] V (by rw[jM];exact K) (by rw[jB];omega) _ 2 2) ?_
   rintro _ c ⟨rfl,f⟩
   have c1:cells c σ0.next=some (ZC,etm,false):=f.cellsE ((kG _ _ Z0).trans L) (by rw[jB];omega) id
   have c2:cells c σ.next=some (t++r,etm,false):=f.cellsE (qM _ _ _ _ rfl) (by rw[jB];omega) id
   have F:c.lo=1:=by rw[f.lo,jM,K]
   have E:=f.next
   rw[jB] at E
   unfold tmH
   refine S5 @qn_r @qn_b @qn_h c1 F ?_
   have B:∀ X,jC σ (c.put σ0.next X) (λk=>k=σ0.next):=λX=>((jC.add _ _ _).trans f λ_ _ h=>h.elim).trans (jC.put _ _ _ (S:=λk=>k=σ0.next) λ_=>rfl) λ_ _ h=>h
   have gB:∀ X,jC σ0 (c.put σ0.next X) (λ_=>False):=λX=>g.trans (B X) λi hi h=>absurd h Z0
   have q1:=C.le
   have q2:=I.le
   exact M (by simp[h0,u]) _ _ ⟨_,rfl,NTs.par (b:=σ.next) (NTs.mono (NTs.grew C (B _) (λk u h2=>(by omega:¬ k=σ0.next)) Z0) Z0 (Z3 _)) (NTs.mono (NTs.grew I (B _) (λk u h2=>(by omega:¬ k=σ0.next)) T) (Z3 _) Z0) ((jL _ _ _ Z0).trans c2) (by rw[jP];omega),gB _⟩
 ·push_cast(disch:=first|omega|(apply id;push_cast;try omega))[qn_r,qn_b,qn_h,K,L,J,A,w,n,h0,P,o,H,D,z,p,q,j,l,d,↓rowN P o p d]
  refine jE.func (cap:=[]) (jU1 G 11 a b s e [x,y] V (by rw[jM];exact K) (by rw[jB];omega) _ 2 2) ?_
  rintro _ c ⟨rfl,f⟩
  have c1:cells c σ0.next=some (ZC,etm,false):=f.cellsE ((kG _ _ Z0).trans L) (by rw[jB];omega) id
  have c2:cells c σ.next=some (t++r,etm,false):=f.cellsE (qM _ _ _ _ rfl) (by rw[jB];omega) id
  have F:c.lo=1:=by rw[f.lo,jM,K]
  have E:=f.next
  rw[jB] at E
  unfold tmH
  refine S5 @qn_r @qn_b @qn_h c1 F ?_
  have B:∀ X,jC σ (c.put σ0.next X) (λk=>k=σ0.next):=λX=>((jC.add _ _ _).trans f λ_ _ h=>h.elim).trans (jC.put _ _ _ (S:=λk=>k=σ0.next) λ_=>rfl) λ_ _ h=>h
  have gB:∀ X,jC σ0 (c.put σ0.next X) (λ_=>False):=λX=>g.trans (B X) λi hi h=>absurd h Z0
  have q1:=C.le
  have q2:=I.le
  exact M (by simp[h0]) _ _ ⟨_,rfl,NTs.par (b:=σ.next) (NTs.mono (NTs.grew C (B _) (λk u h2=>(by omega:¬ k=σ0.next)) Z0) Z0 (Z3 _)) (NTs.mono (NTs.grew I (B _) (λk u h2=>(by omega:¬ k=σ0.next)) T) (Z3 _) Z0) ((jL _ _ _ Z0).trans c2) (by rw[jP];omega),gB _⟩
theorem mM1 (a b:Int)(s:List Zu)(e:Ex)(x y:Tm)(T:smE e=true)(hx:Nrm G x)(Z:Nrm G y){σ:jA}(J:σ.lo=1)(hn:1≤σ.next)(R:Z6→jA→Prop)
  (hz:(jD x).k=0∧(jD y).k=0→∀ σ',jC σ σ' (λ_=>False)→R (.agg ⟨ZC⟩) σ') (L:¬ ((jD x).k=0∧(jD y).k=0)→∀ v σ',NrP σ (.mk 11 a b s e [jD x,jD y]) v σ'→R v σ') :
  jH (pp G) H0 39 [tmV (.mk 11 a b s e [x,y])] σ R:=by
 refine jH.fir4 (q:=qn) (jV G) nU0 Z7 rfl rfl (wC0 ..) (by rw[J];exact (show NGG≤1 by decide)) ?_
 rw[uF0]
 refine S3 @qn_r @qn_b @qn_h ?_
 repeat' apply And.intro
 all_goals
  refine jE.func (cap:=[]) (hx _ (by (try simp only[jM,cR]);exact J) (by (try simp only[jB,jP]);omega)) ?_
  rintro _ h ⟨u,rfl,w,g⟩
  have f:h.lo=1:=by rw[g.lo];(try simp only[jM,cR]);exact J
  have K:=g.next
  simp only[jP,jB] at K w
  have X:=w.len
  have C:=w.one
  have o:u.take 9=u:=List.take_of_length_le Z0
  have B:u.drop 9=[]:=List.drop_of_length_le Z0
  have z:(Value.agg ⟨u⟩).cells.toList=u:=rfl
  have n:=w.k0
  push_cast(disch:=first|omega|(apply id;push_cast;try omega))[qn_r,qn_b,qn_h,X,C,o,B,z,n,f]
  have P:cells h σ.next=some (ZC,etm,false):=g.cellsE (by push_cast(disch:=first|omega|(apply id;push_cast;try omega));first|done|rfl) (by (try simp only[jB,jP]);omega) id
  first|(have Y:cells h (σ.next+1)=some (ZC,etm,false):=g.cellsE (by push_cast(disch:=first|omega|(apply id;push_cast;try omega));first|done|rfl) (by (try simp only[jB,jP]);omega) id)|have Y:=P
  first|(have V:cells h (σ.next+2)=some (ZC,etm,false):=g.cellsE (by push_cast(disch:=first|omega|(apply id;push_cast;try omega));first|done|rfl) (by (try simp only[jB,jP]);omega) id)|have V:=P
 all_goals repeat' apply And.intro
 all_goals
  refine jE.func (cap:=[]) (Z _ (by (try simp only[jM,cR]);exact f) (by (try simp only[jB,jP]);omega)) ?_
  rintro _ c ⟨A,rfl,p,d⟩
  have r:c.lo=1:=by rw[d.lo];(try simp only[jM,cR]);exact f
  have N:=d.next
  try simp only[jP,jB] at N p
  have M:=p.len
  have D:=p.one
  have l:A.take 9=A:=List.take_of_length_le Z0
  have m:A.drop 9=[]:=List.drop_of_length_le Z0
  have j:(Value.agg ⟨A⟩).cells.toList=A:=rfl
  have t:=p.k0
  have i:cells c σ.next=some (ZC,etm,false):=d.cellsE (by push_cast(disch:=first|omega|(apply id;push_cast;try omega))[P];first|done|rfl) (by (try simp only[jB,jP]);omega) id
  first|(have H:cells c (σ.next+1)=some (ZC,etm,false):=d.cellsE (by push_cast(disch:=first|omega|(apply id;push_cast;try omega))[Y];first|done|rfl) (by (try simp only[jB,jP]);omega) id)|have H:=i
  first|(have I:cells c (σ.next+2)=some (ZC,etm,false):=d.cellsE (by push_cast(disch:=first|omega|(apply id;push_cast;try omega))[V];first|done|rfl) (by (try simp only[jB,jP]);omega) id)|have I:=i
  first|(have F:cells c h.next=some (ZC,etm,false):=d.cellsE (by push_cast(disch:=first|omega|(apply id;push_cast;try omega));first|done|rfl) (by (try simp only[jB,jP]);omega) id)|have F:=i
  first|(have E:cells c (h.next+1)=some (ZC,etm,false):=d.cellsE (by push_cast(disch:=first|omega|(apply id;push_cast;try omega));first|done|rfl) (by (try simp only[jB,jP]);omega) id)|have E:=i
  push_cast(disch:=first|omega|(apply id;push_cast;try omega))[qn_r,qn_b,qn_h,M,D,l,m,j,t,r,X,C,o,B,z,n,i,H,I,F,E]
 all_goals repeat' apply And.intro
 all_goals
  refine nrm_j G a b s e x y T (σ0:=σ) (by simp only[jM,cR];exact r) hn (by push_cast(disch:=first|omega|(apply id;push_cast;try omega))[i];first|done|rfl) (by push_cast(disch:=first|omega|(apply id;push_cast;try omega))[H,I,F,E];first|done|rfl) (by push_cast(disch:=first|omega|(apply id;push_cast;try omega))[H,I,F,E];first|done|rfl) (NTs.mono (NTs.up w (by (repeat (first|assumption|exact jC.refl _ _|refine jC.put'' ?_ _ _ (by intro _;first|(exfalso;omega)|(show _∨_;omega))|refine jC.add' ?_ _|refine jC.tr ?_ d|refine jC.tr ?_ g))) Z0) (Z3 _) ?_) (NTs.up p (by (repeat (first|assumption|exact jC.refl _ _|refine jC.put'' ?_ _ _ (by intro _;first|(exfalso;omega)|(show _∨_;omega))|refine jC.add' ?_ _|refine jC.tr ?_ d|refine jC.tr ?_ g))) Z0) ?_ ?_ ?_ ?_ ?_ ?_ (by (repeat (first|assumption|exact jC.refl _ _|refine jC.put'' ?_ _ _ (by intro _;first|(exfalso;omega)|(show _∨_;omega))|refine jC.add' ?_ _|refine jC.tr ?_ d|refine jC.tr ?_ g))) R hz L
  all_goals (try simp only[jB,jP])
  all_goals omega
theorem gV3 (a b:Int)(s:List Zu)(e:Ex)(x y:Tm)(c:smE e=true)(l:Nrm G x)(i:Nrm G y):Nrm G (.mk 11 a b s e [x,y]):=by
 intro σ j f
 rw[jD,if_neg Z0,if_pos rfl]
 by_cases h:(jD x).k=0∧(jD y).k=0
 ·rw[if_pos h]
  refine jH.cutE ?_
  exact mM1 G a b s e x y c l i j f _ (λ_ σ' g=>⟨tmV zT,σ,⟨_,rfl,.leaf (Z3 _) Z1 Z1 Z1,jC.refl _ _⟩,lW0 prog _ _,cJ.gr g⟩) (λd=>absurd h d)
 ·rw[if_neg h]
  exact mM1 G a b s e x y c l i j f _ (λd=>absurd d h) (λ_ v σ' h=>h)
theorem mA2 (a b:Int)(s:List Zu)(e:Ex)(x:Tm)(D:smE e=true)(I:Nrm G x){σ:jA}(u:σ.lo=1)(N:1≤σ.next)(R:Z6→jA→Prop)
  (J:(jD x).k=0→∀ σ',jC σ σ' (λ_=>False)→R (.agg ⟨ZC⟩) σ') (z:¬ (jD x).k=0→∀ v σ',NrP σ (.mk 7 a b s e [jD x]) v σ'→R v σ') :
  jH (pp G) H0 39 [tmV (.mk 7 a b s e [x])] σ R:=by
 refine jH.fir4 (q:=qn) (jV G) nU0 Z7 rfl rfl (wC0 ..) (by rw[u];exact (show NGG≤1 by decide)) ?_
 rw[uF0]
 refine S3 @qn_r @qn_b @qn_h ?_
 refine jE.func (cap:=[]) (I _ (by rw[jM];exact u) (by rw[jB];omega)) ?_
 rintro _ c ⟨l,rfl,p,g⟩
 have B:cells c σ.next=some (ZC,etm,false):=g.cellsE (qM _ _ _ _ rfl) (by rw[jB];omega) id
 have f:c.lo=1:=by rw[g.lo,jM,u]
 have w:=g.next
 rw[jB] at w p
 have C:=p.len
 have j:=p.one
 have o:l.take 9=l:=List.take_of_length_le Z0
 have t:l.drop 9=[]:=List.drop_of_length_le Z0
 have r:(Value.agg ⟨l⟩).cells.toList=l:=rfl
 have n:=p.k0
 have F:jC σ c (λ_=>False):=(jC.add _ _ _).trans g λ_ _ h=>h
 generalize jD x=x' at *
 by_cases h0:x'.k=0
 ·push_cast(disch:=first|omega|(apply id;push_cast;try omega))[qn_r,qn_b,qn_h,C,j,o,t,r,n,h0,f,B]
  exact J h0 _ (by (repeat (first|assumption|exact jC.refl _ _|refine jC.put'' ?_ _ _ (by intro _;(exfalso;omega))|refine jC.add' ?_ _)))
 ·push_cast(disch:=first|omega|(apply id;push_cast;try omega))[qn_r,qn_b,qn_h,C,j,o,t,r,n,h0,f,B,↓yP3 C j]
  refine jE.func (cap:=[]) (jU1 G 7 a b s e [x] D (by rw[jM,cR,jM];exact f) (by rw[jB,jP,jB];omega) _ 1 1) ?_
  rintro _ d ⟨rfl,m⟩
  have K:cells d σ.next=some (ZC,etm,false):=m.cellsE ((kG _ _ (by rw[jP,jB];omega)).trans ((jL _ _ _ Z0).trans ((kG _ _ Z0).trans B))) (by rw[jB,jP,jB];omega) id
  have L:cells d (c.next+1)=some (l,etm,false):=m.cellsE (qM _ _ _ _ (by rw[jP,jB])) (by rw[jB,jP,jB];omega) id
  have y:d.lo=1:=by rw[m.lo,jM,cR,jM,f]
  have A:=m.next
  rw[jB,jP,jB] at A
  unfold tmH
  refine S5 @qn_r @qn_b @qn_h K y ?_
  have E:∀ X,jC c (d.put σ.next X) (λk=>k=σ.next):=λX=>((((jC.add _ _ _).trans (jC.put _ _ _ (S:=λk=>k=c.next) λ_=>rfl) λi hi h=>absurd h Z0).trans (jC.add _ _ _) λ_ _ h=>h).trans m λ_ _ h=>h.elim).trans (jC.put _ _ _ (S:=λk=>k=σ.next) λ_=>rfl) λ_ _ h=>h
  have H:∀ X,jC σ (d.put σ.next X) (λ_=>False):=λX=>F.trans (E X) λi hi h=>absurd h Z0
  exact z h0 _ _ ⟨_,rfl,NTs.blk (b:=c.next+1) (NTs.mono (NTs.grew p (E _) (λk P M=>(by omega:¬ k=σ.next)) (Z3 _)) Z0 Z0) ((jL _ _ _ Z0).trans L) (by rw[jP];omega),H _⟩
theorem nrm_7 (a b:Int)(s:List Zu)(e:Ex)(x:Tm)(c:smE e=true)(j:Nrm G x):Nrm G (.mk 7 a b s e [x]):=by
 intro σ i f
 rw[jD,if_pos rfl]
 by_cases h:(jD x).k=0
 ·rw[if_pos h]
  refine jH.cutE ?_
  exact mA2 G a b s e x c j i f _ (λ_ σ' g=>⟨tmV zT,σ,⟨_,rfl,.leaf (Z3 _) Z1 Z1 Z1,jC.refl _ _⟩,lW0 prog _ _,cJ.gr g⟩) (λd=>absurd h d)
 ·rw[if_neg h]
  exact mA2 G a b s e x c j i f _ (λd=>absurd d h) (λ_ v σ' h=>h)
theorem nrm_o (k a b:Int)(s:List Zu)(e:Ex)(l:List Tm)(d:jF (pp G) H0 79 [tmV (.mk k a b s e l)] (tmV (.mk k a b s e l)))(c:k≠12)(h:k≠11)(g:k≠7):Nrm G (.mk k a b s e l):=by
 intro σ j n
 have i:jD (.mk k a b s e l)=.mk k a b s e l:=by
  unfold jD
  split
  ·rename_i f;cases f;rw[if_neg c,if_neg h]
  ·rename_i f;cases f;rw[if_neg g]
  ·rename_i f;cases f;rfl
 rw[i]
 refine jH.fir4 (q:=qn) (jV G) nU0 Z7 rfl rfl (wC0 ..) (by rw[j];exact (show NGG≤1 by decide)) ?_
 rw[uF0]
 refine S6 @qn_r @qn_b @qn_h c h g ?_
 try (rw[jX0];push_cast(disch:=first|omega|(apply id;push_cast;try omega))[qn_r,qn_b,qn_h])
 refine dK (d) ?_
 have m:=uQ (.mk k a b s e l)
 refine S4 @qn_r @qn_b @qn_h j ?_
 exact ⟨_,rfl,.leaf (by first|omega|(simp only[jB,jP];omega)) c h g,(by (repeat (first|exact Gr.refl _|assumption|(refine jC.put' ?_ _ _ (by first|omega|(simp only[push_cast];omega)))|(refine jC.add' ?_ _))))⟩
inductive RS:Tm→Prop
 | leaf {k a b:Int} {s:List Zu} {e:Ex} {l:List Tm} (h12:k≠12) (h11:k≠11) (h7:k≠7):RS (.mk k a b s e l)
 | blk {a b:Int} {s:List Zu} {e:Ex} {x:Tm} (hx:RS x):RS (.mk 7 a b s e [x])
 | seq {a b:Int} {s:List Zu} {e:Ex} {x y:Tm} (hx:RS x) (hy:RS y):RS (.mk 12 a b s e [x,y])
 | par {a b:Int} {s:List Zu} {e:Ex} {x y:Tm} (hx:RS x) (hy:RS y):RS (.mk 11 a b s e [x,y])
theorem gX3 {t:Tm}(h:RS t):smT t=true→Nrm G t:=by
 induction h with
 | leaf i g k=>intro b;exact nrm_o G _ _ _ _ _ _ (bX0 G _ b) i g k
 | blk j m=>
  intro b
  simp only[smT,Z5,decide_eq_true_eq] at b
  obtain ⟨⟨f,c⟩,a⟩:=b
  exact nrm_7 G _ _ _ _ _ c (m (qQ a _ (by simp)))
 | seq j l d e=>
  intro b
  simp only[smT,Z5,decide_eq_true_eq] at b
  obtain ⟨⟨f,c⟩,a⟩:=b
  exact gU3 G _ _ _ _ _ _ c (d (qQ a _ (by simp))) (e (qQ a _ (by simp))) (bX0 G _ (qQ a _ (by simp)))
 | par j l d e=>
  intro b
  simp only[smT,Z5,decide_eq_true_eq] at b
  obtain ⟨⟨f,c⟩,a⟩:=b
  exact gV3 G _ _ _ _ _ _ c (d (qQ a _ (by simp))) (e (qQ a _ (by simp)))
theorem rV2 (n:Int):jF (pp G) H0 81 [.int .i64 n] (.int .i64 n):=by
 refine cE G fir81 Z7 (oZ0 ..) λh=>?_;rw[pI2]
 refine S0 ?_
 exact .id rfl
def IvR (σ:jA)(l:List Int)(v:Z6)(σ':jA):Prop:=jC σ σ' (λ_=>False)∧((l=[]∧v=.slice none 0 0)∨(v=.slice (some ⟨σ.next,0,none⟩) l.length l.length∧cells σ' σ.next=some (ivs l,eI,false)∧σ.next<σ'.next))
inductive ILi (σ:jA)(l:List Int)(fv:Z6):Nat→S→Prop
 | mk (i:Nat) (iv:Int) (h:jA) {x0 x2 x3 x4 x6 x7 x8 x9 xA xB xC xD xH xI xJ xK xL xM xN xO xP xQ xR xS:Z6} (hiv:iv=(i:Int)) (hi:i≤l.length) (c1:cells h σ.next=some (ivs (l.take i)++(List.replicate (l.length-i) [Value.int .i64 0]).flatten,eI,false)) (g:jC σ h (λ_=>False)) (hn:σ.next<h.next) :
  ILi σ l fv (l.length-i) ⟨(F29 x0 fv x2 x3 x4 (.slice (some ⟨σ.next,0,none⟩) l.length l.length) x6 x7 x8 x9 xA xB xC xD (Rw false eI l.length (ivs l)) (.int .i64 l.length) (.int .i64 iv) xH xI xJ xK xL xM xN xO xP xQ xR xS),[],h⟩
theorem tI2 (l:List Int)(C:l.length<100000000000){σ:jA}(A:σ.lo=1)(I:1≤σ.next):jH (pp G) H0 80 [ivV l,.func (.func 81) #[] #[]] σ (IvR σ l):=by
 refine jH.fir4 (q:=qq) (jV G) fir80 Z7 rfl rfl (dK0 ..) (by first|exact Nat.le_trans (show NGG≤1 by decide) Z0) ?_;rw[pJ2]
 unfold ivV
 by_cases h0:l.length=0
 ·have d:(l.length:Int)=0:=Z0
  obtain rfl:l=[]:=List.length_eq_zero_iff.1 h0
  refine S1 d ?_
  exact ⟨jC.refl _ _,.inl ⟨rfl,rfl⟩⟩
 have d:¬ (l.length:Int)=0:=Z0
 have E:(l.length:Int)*400+l.length<100000000000000:=Z0
 refine S3 d E @Z4 ?_
 refine WD.loop4 (q:=qq) (jV G) Z7 (ILi σ l (.func (.func 81) #[] #[])) ?_ _ _ (ILi.mk 0 0 _ rfl (Nat.zero_le _) (by push_cast(disch:=first|omega|(apply id;push_cast;try omega))[List.take_zero];rfl) (jC.add _ _ _) (by rw[jB];omega))
 intro m H B
 cases B with|mk i F h u hi r g s=>
 subst u
 have e:h.lo=1:=by rw[g.lo,A]
 rw[kN1]
 by_cases b:(i:Int)<l.length
 ·obtain ⟨x,y⟩:=jT (l:=l) (i:=i) Z0
  have t:(ivs l)[i]?=some (.int .i64 x):=by rw[ivs,List.getElem?_map,y];rfl
  have p:i+1≤l.length:=Z0
  have a:i<l.length:=Z0
  refine S7 b @Z4 t p e @bD a ?_
  refine dK (rV2 G x) ?_
  obtain ⟨k,D⟩:∃ k,l.length-i=k+1:=⟨l.length-i-1,Z0⟩
  have o:(ivs (l.take i)).length=i:=by rw[bD,List.length_take,Nat.min_eq_left hi]
  have j:=kG0 (w:=1) (z:=[Value.int .i64 0]) (k:=l.length-i) (n:=l.length) o rfl Z0
  have f:=uP0 (c:=[Value.int .i64 x]) (w:=1) (z:=[Value.int .i64 0]) (k:=k) o rfl
  rw[← D,show [Value.int .i64 x]=ivs [x] from rfl,← yG0,← jY y,show k=l.length-(i+1) by omega,show ivs [x]=[Value.int .i64 x] from rfl] at f
  refine S8 b @Z4 p e r j f a ?_
  exact ⟨_,Z0,ILi.mk (i+1) _ _ Z2 Z0 tH (jC.put'' g _ _ (by intro J;exfalso;omega)) tH⟩
 ·have v:i=l.length:=Z0
  subst v
  rw[List.take_length,Nat.sub_self,List.replicate_zero,List.flatten_nil,List.append_nil] at r
  refine S1 b ?_
  rw[kM1]
  refine S0 ?_
  exact ⟨g,.inr ⟨rfl,r,s⟩⟩
def kR0 (l:List Tm):Prop:=l.length<100000000000∧dI l=true
abbrev eR:Nat:=26
def trs (s:List (List Tm)):List Z6:=s.map qP
def trV (s:List (List Tm)):Z6:=Rw false eR s.length (trs s)
theorem qZ0 (s:List (List Tm)):(trs s).length=s.length:=by simp[trs]
theorem pG0:∀ s:List (List Tm),(trs s).all one=true
 | []=>rfl
 | x :: s=>by
  have:=pG0 s
  simp only[trs] at this
  simp only[trs,List.map_cons,List.all_cons,this,Bool.and_true]
  rfl
theorem yS0 (n:Nat)(h:0<n):∀ s:List (List Tm),scL n (trs s)=true
 | []=>rfl
 | x :: s=>by
  have:=yS0 n h s
  simp only[trs] at this
  simp[trs,scL,this,bA0 n h]
theorem jY1 (n:Nat)(h:0<n)(k:Nat)(f:Zb)(s:List (List Tm)):Ev.sc n (Rw f eR k (trs s))=true:=by
 have:=yS0 n h s
 simp[Ev.sc,Rw,scL,this,h]
theorem pH0 {s:List (List Tm)}{i:Nat}{l:List Tm}(h:s[i]?=some l):(trs s)[i]?=some (qP l):=by simp[trs,h]
theorem pI0 (a b:List (List Tm)):trs (a++b)=trs a++trs b:=by simp[trs]
attribute [push_cast] qZ0 pG0 yS0 jY1
def jV0 (s:List (List Tm)):Prop:=s.length<100000000000∧∀ l∈s,kR0 l
def kF:List (List Tm)→Int
 | []=>0
 | x :: s=>jI x+kF s
theorem mM0:∀ (a b:List (List Tm)),kF (a++b)=kF a+kF b
 | [],b=>by simp[kF]
 | x :: a,b=>by rw[List.cons_append,kF,kF,mM0 a b];omega
theorem kB1 {l:List (List Tm)}{i:Nat}{x:List Tm}(h:l[i]?=some x):kF (l.take (i+1))=kF (l.take i)+jI x:=by
 rw[jY h,mM0,kF,kF];omega
inductive I33 (s:List (List Tm)):Nat→S→Prop
 | mk (i:Nat) (iv n:Int) (h:jA) {x0 x1 x2 x4 x5 x6 x7 xB xC xD xE xF xG xH xI xJ xK xL xM xN xO xP xQ:Z6} (hiv:iv=(i:Int)) (hi:i≤s.length) (hn:n=W (kF (s.take i))) (hl1:h.lo=1) (hl2:1≤h.next) :
  I33 s (s.length-i) ⟨(F27 x0 x1 x2 (.int .i64 n) x4 x5 x6 x7 (trV s) (.int .i64 s.length) (.int .i64 iv) xB xC xD xE xF xG xH xI xJ xK xL xM xN xO xP xQ),[],h⟩
inductive I33b (s:List (List Tm))(j:Nat)(l:List Tm):Nat→S→Prop
 | mk (i:Nat) (iv n:Int) (h:jA) {x0 x1 x2 x4 x5 x6 x7 xB xC xD xH xI xJ xK xL xM xN xO xP xQ:Z6} (hiv:iv=(i:Int)) (hi:i≤l.length) (hn:n=W (kF (s.take j)+jI (l.take i))) (hl1:h.lo=1) (hl2:1≤h.next) :
  I33b s j l (l.length-i) ⟨(F27 x0 x1 x2 (.int .i64 n) x4 x5 x6 x7 (trV s) (.int .i64 s.length) (.int .i64 j) xB xC xD (qP l) (.int .i64 l.length) (.int .i64 iv) xH xI xJ xK xL xM xN xO xP xQ),[],h⟩
theorem oQ2 (s:List (List Tm))(w:jV0 s):jF (pp G) H0 46 [trV s] (.int .i64 (W (kF s))):=by
 have A:=w.1
 refine cE G fir46 Z7 (wW2 ..) λB=>?_;rw[rB2]
 unfold trV
 push_cast(disch:=first|omega|(apply id;push_cast;try omega))
 refine WD.loop4 (q:=qq) (jV G) Z7 (I33 s) ?_ _ _ (I33.mk 0 0 _ _ rfl (Nat.zero_le _) rfl rfl tH)
 intro m y o
 cases o with|mk j D n h b hi t a v=>
 subst b t
 rw[yT1]
 unfold trV
 by_cases f:(j:Int)<s.length
 ·obtain ⟨l,k⟩:=jT (l:=s) (i:=j) Z0
  have u:=List.mem_of_getElem? k
  obtain ⟨z,p⟩:=w.2 l u
  have g:=pH0 k
  have c:j<s.length:=Z0
  unfold qP at g
  push_cast(disch:=first|omega|(apply id;push_cast;try omega))[f,Z4,g,c,a]
  refine WD.loop4 (q:=qq) (jV G) Z7 (I33b s j l) ?_ _ _ (I33b.mk 0 0 _ _ rfl (Nat.zero_le _) (by rw[List.take_zero,jI,Int.add_zero]) (tH1 a) tH)
  intro m y o
  cases o with|mk i C n h b hi t a v=>
  subst b t
  rw[yR1]
  unfold qP
  by_cases e:(i:Int)<l.length
  ·obtain ⟨x,r⟩:=jT (l:=l) (i:=i) Z0
   have g:=kS r
   have c:i*9+9≤l.length*9:=Z0
   push_cast(disch:=first|omega|(apply id;push_cast;try omega))[e,Z4,g,c,a]
   refine dK (qI1 G x (qQ p x (List.mem_of_getElem? r))) ?_
   push_cast(disch:=first|omega|(apply id;push_cast;try omega))[nO3]
   exact ⟨_,Z0,I33b.mk (i+1) _ _ _ Z2 Z0 (by rw[bG0 r];congr 1;omega) (tH1 a) tH⟩
  ·have d:i=l.length:=Z0
   subst d
   push_cast(disch:=first|omega|(apply id;push_cast;try omega))[e]
   rw[yQ1]
   push_cast(disch:=first|omega|(apply id;push_cast;try omega))[List.take_length]
   exact ⟨_,Z0,I33.mk (j+1) _ _ _ Z2 Z0 (by rw[kB1 k]) (tH1 a) tH⟩
 ·have d:j=s.length:=Z0
  subst d
  push_cast(disch:=first|omega|(apply id;push_cast;try omega))[f]
  rw[yS1]
  push_cast(disch:=first|omega|(apply id;push_cast;try omega))[List.take_length]
  exact .id rfl
theorem wJ3 {e k n by_ m:Nat}{cs xs:List Z6}{h:jA}(c:cs.length=n*k)(a:cs.all one=true)(b:xs.all one=true)(f:0<m)(d:((n+m)*by_≤140737488355328∧(n+m)<100000000000000)) :
  apS e k by_ (Rw true e n cs) (some (m,xs)) h=some (.slice (some ⟨h.next,0,none⟩) (n+m) UC,h.add (O (cs++xs) e true)):=by
 show (if xs.all one=true then (if cs.length=n*k∧((n+m)*by_≤140737488355328∧(n+m)<100000000000000)∧cs.all one=true then (if m=0 then some (Rw true e n cs,h) else some (.slice (some ⟨h.next,0,none⟩) (n+m) UC,h.add (O (cs++xs) e true))) else none) else none)=_
 rw[if_pos b,if_pos ⟨c,d,a⟩,if_neg Z0]
theorem dI2 {e k n by_:Nat}{cs xs:List Z6}{h:jA}(c:cs.length=n*k)(a:cs.all one=true)(b:xs.all one=true)(d:(n*by_≤140737488355328∧n<100000000000000)) :
  apS e k by_ (Rw true e n cs) (some (0,xs)) h=some (Rw true e n cs,h):=by
 show (if xs.all one=true then (if cs.length=n*k∧((n+0)*by_≤140737488355328∧(n+0)<100000000000000)∧cs.all one=true then (if 0=0 then some (Rw true e n cs,h) else some (.slice (some ⟨h.next,0,none⟩) (n+0) UC,h.add (O (cs++xs) e true))) else none) else none)=_
 rw[if_pos b,if_pos ⟨c,by simpa using d,a⟩,if_pos rfl]
theorem zF1 (n:Nat):Nat.beq n n=true:=Nat.beq_refl n
theorem bA2 (s:List (List Tm))(a:Int)(b:s.length<100000000000):jF (pp G) H0 120 [trV s,.int .i64 a] (.bool (decide (0≤a∧a<s.length))):=by
 refine cE G fF3 Z7 (lV0 ..) λc=>?_;rw[yC2]
 unfold trV
 by_cases h:0≤a
 ·refine S2 h true_and ?_
  exact .id rfl
 ·refine S2 h false_and ?_
  exact .id rfl
theorem zG1 (l m:List Tm)(f:l.length<100000000000)(e:m.length<100000000000):jF (pp G) H0 122 [qP l,qP m] (qP (l++m)):=by
 refine cE G fD3 Z7 (lV0 ..) λb=>?_;rw[yA2]
 unfold qP
 have c:(qN l).take (l.length*9)=qN l:=List.take_of_length_le (by rw[cD];exact Z3 _)
 by_cases h0:m.length=0
 ·obtain rfl:m=[]:=List.length_eq_zero_iff.1 h0
  have d:l.length*120+l.length<100000000000000:=Z0
  have h:apS 34 9 120 (Rw true 34 l.length (qN l)) (some (0,[])) H0=some (Rw true 34 l.length (qN l),H0):=dI2 (by rw[cD]) (qG0 l) rfl Z0
  push_cast(disch:=first|omega|(apply id;push_cast;try omega))[zF1,Z4,c,List.length_nil,show qN []=[] from rfl,h]
  exact .row (.ids (cV _ H0q l))
 have d:(l.length+m.length)*120+(l.length+m.length)<100000000000000:=Z0
 have h:apS 34 9 120 (Rw true 34 l.length (qN l)) (some (m.length,qN m)) H0=some (.slice (some ⟨H0.next,0,none⟩) (l.length+m.length) UC,H0.add (O (qN l++qN m) 34 true)):=wJ3 (by rw[cD]) (qG0 l) (qG0 m) Z0 Z0
 refine S4 @zF1 @Z4 c h ?_
 rw[← zG0,← List.length_append]
 have a:(l++m).length<U:=by rw[List.length_append,show U=100000000000000 by unfold U;rfl];omega
 refine .sl (Z3 _) (qM _ _ _ _ rfl) (size:=9) rfl Z1 ?_ (.inr ⟨rfl,Z3 _,by simp,a⟩) ?_
 ·rw[cD];omega
 rw[List.drop_zero,List.take_of_length_le (by rw[cD];exact Z3 _)]
 exact .ids (cV _ H0q _)
def bQ {h:Type}(s:List h)(a:Int)(l:h):List h:=if 0≤a then s.set a.toNat l else s
theorem bP {h:Type}(s:List h)(a:Int)(l:h):(bQ s a l).length=s.length:=by
 unfold bQ;split<;>simp
theorem oT2 {a:Type}{s:List a}{i:Nat}{l x:a}(h:s[i]?=some x):(bQ s i l)[i]?=some l:=by
 unfold bQ
 have:=(List.getElem?_eq_some_iff.1 h).1
 rw[if_pos Z0,Z4]
 simp[this]
theorem oS2 {c:Type}{s:List c}{i:Nat}{a:Int}{l x:c}(h:s[i]?=some x)(b:¬ (i:Int)=a):(bQ s a l)[i]?=some x:=by
 unfold bQ
 split
 ·rw[List.getElem?_set_ne Z0];exact h
 ·exact h
inductive I52 (σ:jA)(s r:List (List Tm))(a:Int)(l:List Tm)(fv:Z6):Nat→S→Prop
 | mk (i:Nat) (iv:Int) (h:jA) {x0 x4 x5 x6 x7 x8 xA xB xC xD xE xI xJ xK xL xM xN xO xP xQ xR xS xT xU xV xW xX:Z6} (hiv:iv=(i:Int)) (hi:i≤s.length) (c1:cells h σ.next=some (trs (r.take i)++(List.replicate (s.length-i) [Value.slice none 0 0]).flatten,26,false)) (hl1:h.lo=1) (hl2:σ.next<h.next) (hg:jC σ h λ_=>False) :
  I52 σ s r a l fv (s.length-i) ⟨(F34 x0 (.int .i64 a) (qP l) fv x4 x5 x6 x7 x8 (.slice (some ⟨σ.next,0,none⟩) s.length s.length) xA xB xC xD xE (trV s) (.int .i64 s.length) (.int .i64 iv) xI xJ xK xL xM xN xO xP xQ xR xS xT xU xV xW xX),[],h⟩
theorem fE1 (σ:jA)(s:List (List Tm))(a:Int)(l:List Tm)(hs:jV0 s)(hl:kR0 l):jH (pp G) H0 121 [trV s,.int .i64 a,qP l,.func (.func 79) #[] #[]] σ
  λv σ'=>v=.slice (some ⟨σ.next,0,none⟩) s.length s.length∧σ'=σ.add (O (trs (bQ s a l)) eR false):=by
 have ho:∀ m:List Tm,kR0 m→jF (pp G) H0 140 [qP m,.func (.func 79) #[] #[]] (qP m):=λm hm=>iH0 G m 79 hm.1 λx hx=>bX0 G x (qQ hm.2 x hx)
 have hsl:=hs.1
 refine jH.wlog λhl0 hH0 hp0 hlo=>?_;rw[uU] at hl0;refine jH.cut (jH.fir4 (q:=qq) (jV G) fE3 Z7 rfl rfl (wT2 ..) (by rw[hl0];exact (show NGG≤1 by decide)) ?_);rw[yB2]
 unfold trV
 have h1:(s.length:Int)*24+s.length<100000000000000:=Z0
 refine S1 h1 ?_
 refine WD.loop4 (q:=qq) (jV G) Z7 (I52 σ s (bQ s a l) a l (.func (.func 79) #[] #[])) ?_ _ _ (I52.mk 0 0 _ rfl (Nat.zero_le _) (by push_cast(disch:=first|omega|(apply id;push_cast;try omega))[List.take_zero];rfl) tH tH (by (repeat (first|exact Gr.refl _|assumption|(refine jC.put' ?_ _ _ (by first|omega|(simp only[push_cast];omega)))|(refine jC.add' ?_ _)))))
 intro m s1 hI
 cases hI with|mk i iv h hiv hi c1 e Y hg=>
 subst hiv
 rw[rK0]
 unfold trV
 by_cases d:(i:Int)<s.length
 ·obtain ⟨x,hx⟩:=jT (l:=s) (i:=i) Z0
  have hxm:=hs.2 x (List.mem_of_getElem? hx)
  have hp:=pH0 hx
  have T:i<s.length:=Z0
  have P : ∀ (y : List Tm) (hy : kR0 y) (hr : (bQ s a l)[i]? = some y) {x4 x5 x6 x7 x8 E t C J j u r A p B g D H F M f o L K x0 : Z6} (R : jK → S → Prop)
    (hR:∀ {x4 x5 x6 x7 x8 E t C J j u r A p B g D H F M f o L K x0 xA Z:Z6} (b:jA),cells b σ.next=some (trs ((bQ s a l).take (i+1))++(List.replicate (s.length-(i+1)) [Value.slice none 0 0]).flatten,26,false)→b.lo=1→σ.next<b.next→(jC σ b λ_=>False)→
     @kR ⟨R⟩ .normal ⟨(F34 x0 (.int .i64 a) (qP l) (.func (.func 79) #[] #[]) x4 x5 x6 x7 x8 (.slice (some ⟨σ.next,0,none⟩) s.length s.length) xA Z E t C (trV s) (.int .i64 s.length) (.int .i64 i) J j u r A p B g D H F M f o L K),[],b⟩),
    dc3 (pp G) qq none iS0 ⟨(F34 x0 (.int .i64 a) (qP l) (.func (.func 79) #[] #[]) x4 x5 x6 x7 x8 (.slice (some ⟨σ.next,0,none⟩) s.length s.length) (.int .i64 i) (qP y) E t C (trV s) (.int .i64 s.length) (.int .i64 i) J j u r A p B g D H F M f o L K),[],h⟩ (@kR ⟨R⟩):=by
   intro y hy hr
   intros
   rename_i R hR
   rw[rI0]
   obtain ⟨k,hk⟩:∃ k,s.length-i=k+1:=⟨s.length-i-1,Z0⟩
   have hta:(trs ((bQ s a l).take i)).length=i:=by rw[qZ0,List.length_take,bP,Nat.min_eq_left hi]
   have hlen:=kG0 (w:=1) (z:=[Value.slice none 0 0]) (k:=s.length-i) (n:=s.length) hta rfl Z0
   have X:=uP0 (c:=[qP y]) (w:=1) (z:=[Value.slice none 0 0]) (k:=k) hta rfl
   rw[← hk,show [qP y]=trs [y] from rfl,← pI0,← jY hr,show k=s.length-(i+1) by omega,show trs [y]=[qP y] from rfl] at X
   refine S0 ?_
   refine dK (ho y hy) ?_
   unfold qP at X ⊢
   refine S7 d @Z4 T e c1 hlen X ?_
   exact hR _ tH (tH1 e) tH (by (repeat (first|exact Gr.refl _|assumption|(refine jC.put' ?_ _ _ (by first|omega|(simp only[push_cast];omega)))|(refine jC.add' ?_ _))))
  unfold trV at P
  have fin : ∀ (b : jA) {x4 x5 x6 x7 x8 E t C J j u r A p B g D H F M f o L K x0 xA Z : Z6}, cells b σ.next = some (trs ((bQ s a l).take (i + 1)) ++ (List.replicate (s.length - (i + 1)) [Value.slice none 0 0]).flatten, 26, false) → b.lo = 1 → σ.next < b.next → (jC σ b fun _ => False) →
    (∃ m',m'<s.length-i∧I52 σ s (bQ s a l) a l (.func (.func 79) #[] #[]) m' ⟨(F34 x0 (.int .i64 a) (qP l) (.func (.func 79) #[] #[]) x4 x5 x6 x7 x8 (.slice (some ⟨σ.next,0,none⟩) s.length s.length) xA Z E t C (Rw false eR s.length (trs s)) (.int .i64 s.length) (.int .i64 ((i:Int)+1)) J j u r A p B g D H F M f o L K),[],b⟩):=λb=>by
   intros
   rename_i c1 e Y hg
   exact ⟨_,Z0,I52.mk (i+1) _ _ Z2 Z0 c1 e Y hg⟩
  by_cases ha:(i:Int)=a
  ·subst ha
   refine S5 d @Z4 hp T e ?_
   refine P l hl (oT2 hx) _ ?_
   intros
   rename_i b V I N hg'
   refine S0 ?_
   rw[bM0]
   refine S1 d ?_
   exact fin _ V I N hg'
  ·refine S6 d @Z4 hp T e ha ?_
   refine P x hxm (oS2 hx ha) _ ?_
   intros
   rename_i b V I N hg'
   refine S0 ?_
   rw[bM0]
   refine S1 d ?_
   exact fin _ V I N hg'
 ·have hie:i=s.length:=Z0
  subst hie
  rw[List.take_of_length_le (by rw[bP];exact Z3 _),Nat.sub_self,List.replicate_zero,List.flatten_nil,List.append_nil] at c1
  refine S1 d ?_
  rw[rJ0]
  refine S0 ?_
  refine ⟨.id tH,cJ.new1 hg hlo Y c1 (.ids (yS0 _ Z0 _)) (pG0 _)⟩
theorem fD1 (s:List (List Tm))(a:Int)(l:List Tm)(h:jV0 s)(c:kR0 l):jF (pp G) H0 121 [trV s,.int .i64 a,qP l,.func (.func 79) #[] #[]] (trV (bQ s a l)):=by
 refine jF.cut ((fE1 G H0 s a l h c).mono ?_)
 rintro v σ' ⟨rfl,rfl⟩
 have b:=h.1
 unfold trV
 rw[bP]
 refine .sl (Z3 _) (qM _ _ _ _ rfl) (size:=1) rfl Z1 (by rw[qZ0,bP];omega) (.inl ⟨by simp only[UC];omega,Z3 _⟩) ?_
 rw[List.drop_zero,List.take_of_length_le (by rw[qZ0,bP];omega)]
 exact .ids (yS0 _ H0q _)
theorem mH0:kR0 []:=⟨by simp,rfl⟩
theorem mI0 {l m:List Tm}(b:kR0 l)(h:kR0 m)(a:l.length+m.length<100000000000):kR0 (l++m):=
 ⟨by rw[List.length_append];exact a,fN0 λx c=>(List.mem_append.1 c).elim (qQ b.2 x) (qQ h.2 x)⟩
theorem zJ0 {s:List (List Tm)}(h:jV0 s)(i:Nat):kR0 (s.getD i []):=by
 rw[List.getD_eq_getElem?_getD]
 cases a:s[i]? with
 | none=>exact mH0
 | some x=>exact h.2 x (List.mem_of_getElem? a)
inductive IL (s:List (List Tm))(fv:Z6):Nat→S→Prop
 | mk (i:Nat) (iv:Int) (h:jA) {x0 x2 x3 x4 x6 x7 x8 x9 xA xB xC xD xH xI xJ xK xL xM xN xO xP xQ xR xS:Z6} (hiv:iv=(i:Int)) (hi:i≤s.length) (c1:cells h 1=some (trs (s.take i)++(List.replicate (s.length-i) [Value.slice none 0 0]).flatten,26,false)) (hl1:h.lo=1) (hl2:2≤h.next) :
  IL s fv (s.length-i) ⟨(F29 x0 fv x2 x3 x4 (.slice (some ⟨1,0,none⟩) s.length s.length) x6 x7 x8 x9 xA xB xC xD (trV s) (.int .i64 s.length) (.int .i64 iv) xH xI xJ xK xL xM xN xO xP xQ xR xS),[],h⟩
theorem tJ2 (s:List (List Tm))(f:FuncId)(B:s.length<100000000000)(y:∀ x∈s,jF (pp G) H0 f [qP x] (qP x)):jF (pp G) H0 118 [trV s,.func (.func f) #[] #[]] (trV s):=by
 refine cE G fH3 Z7 (dK0 ..) λC=>?_;rw[yE2]
 unfold trV
 by_cases h0:s.length=0
 ·have d:(s.length:Int)=0:=Z0
  obtain rfl:s=[]:=List.length_eq_zero_iff.1 h0
  refine S1 d ?_
  exact .nil (size:=1) rfl Z1
 have d:¬ (s.length:Int)=0:=Z0
 have F:(s.length:Int)*400+s.length<100000000000000:=Z0
 refine S2 d F ?_
 refine WD.loop4 (q:=qq) (jV G) Z7 (IL s (.func (.func f) #[] #[])) ?_ _ _ (IL.mk 0 0 _ rfl (Nat.zero_le _) (by push_cast(disch:=first|omega|(apply id;push_cast;try omega))[List.take_zero];rfl) rfl tH)
 intro m J A
 cases A with|mk i I h u hi t b H=>
 subst u
 rw[rM0]
 unfold trV
 by_cases a:(i:Int)<s.length
 ·obtain ⟨x,p⟩:=jT (l:=s) (i:=i) Z0
  have r:=List.mem_of_getElem? p
  have D:=pH0 p
  have o:i<s.length:=Z0
  refine S5 a @Z4 D o b ?_
  refine dK (y x r) ?_
  obtain ⟨k,E⟩:∃ k,s.length-i=k+1:=⟨s.length-i-1,Z0⟩
  have j:(trs (s.take i)).length=i:=by rw[qZ0,List.length_take,Nat.min_eq_left hi]
  have g:=kG0 (w:=1) (z:=[Value.slice none 0 0]) (k:=s.length-i) (n:=s.length) j rfl Z0
  have e:=uP0 (c:=[qP x]) (w:=1) (z:=[Value.slice none 0 0]) (k:=k) j rfl
  rw[← E,show [qP x]=trs [x] from rfl,← pI0,← jY p,show k=s.length-(i+1) by omega,show trs [x]=[qP x] from rfl] at e
  unfold qP at e ⊢
  refine S7 a @Z4 o b t g e ?_
  exact ⟨_,Z0,IL.mk (i+1) _ _ Z2 Z0 tH (tH1 b) tH⟩
 ·have v:i=s.length:=Z0
  subst v
  rw[List.take_length,Nat.sub_self,List.replicate_zero,List.flatten_nil,List.append_nil] at t
  refine S1 a ?_
  rw[rL0]
  refine S0 ?_
  refine .sl (by push_cast(disch:=first|omega|(apply id;push_cast;try omega))) t (size:=1) rfl Z1 tH (.inl ⟨by simp only[UC];omega,Z3 _⟩) ?_
  rw[List.drop_zero,List.take_of_length_le (by rw[qZ0];omega)]
  exact .ids (yS0 _ H0q s)
theorem mF1 (l:List Tm)(h:kR0 l):jF (pp G) H0 114 [qP l] (qP l):=by
 refine cE G mO2 Z7 (zP1 ..) λc=>?_;rw[qJ1]
 refine S0 ?_
 refine jE.dataI (iH0 G l 79 h.1 λx a=>bX0 G x (qQ h.2 x a)) (by and_intros<;>first|rfl|(simp(disch:=first|omega|(apply id;push_cast;try omega))only[push_cast])) ?_
 refine S0 ?_
 exact .id (bA0 _ H0q l)
@[push_cast]theorem gZ0 (n:Nat)(h:0<n)(s:List (List Tm)):Ev.sc n (trV s)=true:=jY1 n h ..
theorem mG1 (s:List (List Tm))(h:jV0 s):jF (pp G) H0 84 [trV s] (trV s):=by
 refine cE G fir84 Z7 (zP1 ..) λc=>?_;rw[pF2]
 refine S0 ?_
 refine jE.dataI (tJ2 G s 114 h.1 λx a=>mF1 G x (h.2 x a)) (by and_intros<;>first|rfl|(simp(disch:=first|omega|(apply id;push_cast;try omega))only[push_cast])) ?_
 refine S0 ?_
 exact .id (gZ0 _ H0q s)
theorem bA3 (n:Nat)(σ:jA):FzV (pp G).P n σ (.slice none 0 0) (trV []):=.nil (size:=1) rfl Z1
theorem yN3 (t:Tm)(σ:jA):bsD (qq.m 26) (slT prog 26) 1 [(0,tmV t)] σ=some (Rw true 34 1 (qN [t]),σ):=by
 rw[jT0];cases t;kernel_rfl
theorem gG0 {s:List (List Tm)}{i:Nat}(h:i<s.length):(trs s)[i]?=some (qP (s.getD i [])):=by simp[trs,h]
theorem sG2 (s:List (List Tm))(a:Int)(t:Tm)(h:jV0 s)(g:(s.getD a.toNat []).length+1<100000000000)(e:smT t=true)(d:0≤a∧a<s.length):jF (pp G) H0 87 [trV s,.int .i64 a,tmV t] (trV (bQ s a (s.getD a.toNat []++[t]))):=by
 have n:=zJ0 h a.toNat
 have m:=h.1
 refine cE G fir87 Z7 (zO3 ..) λj=>?_;rw[pD2]
 refine S0 ?_
 refine dK (bA2 G s a h.1) ?_
 have l:=gG0 (s:=s) (i:=a.toNat) Z0
 have f:decide (0≤a∧a<(s.length:Int))=true:=by simpa using d
 have k:(a.toNat:Int)=a:=Z0
 have b:a.toNat<s.length:=Z0
 have c:kR0 (s.getD a.toNat []++[t]):=mI0 n ⟨by simp,by simp[dI,e]⟩ (by rw[List.length_cons,List.length_nil];omega)
 unfold trV
 push_cast(disch:=first|omega|(apply id;push_cast;try omega))[f,l,k,b,d.1,d.2,↓yN3]
 refine jE.data (zG1 G (s.getD a.toNat []) [t] Z0 (by simp)) (.cons (.id (bA0 _ H0q _)) (.cons (.row (.ids (cV _ H0q _))) .nil)) (by first|rfl|(simp(disch:=first|omega|(apply id;push_cast;try omega))only[push_cast])) (by first|rfl|(simp(disch:=first|omega|(apply id;push_cast;try omega))only[push_cast])) ?_
 refine S0 ?_
 refine dK (fD1 G s a (s.getD a.toNat []++[t]) h c) ?_
 refine S0 ?_
 exact .id (gZ0 _ H0q _)
theorem zM1 (s:List (List Tm))(a:Int)(h:jV0 s):jF (pp G) H0 89 [trV s,.int .i64 a] (trV (bQ s a [])):=by
 refine cE G fir89 Z7 (zO1 ..) λc=>?_;rw[pB2]
 refine S0 ?_
 refine jE.data (fD1 G s a [] h mH0) (by repeat' (first|exact FzL.nil|apply FzL.cons|exact FzV.id rfl|(refine FzV.id ?_;simp(disch:=first|omega|(apply id;push_cast;try omega))only[push_cast];done)|exact qX1 ..|exact zX0 ..|exact bA3 ..|exact bC3 ..|exact qY1 ..|exact bB3 ..|apply FzV.agg|apply FzV.row)) (by first|rfl|(simp(disch:=first|omega|(apply id;push_cast;try omega))only[push_cast])) (by first|rfl|(simp(disch:=first|omega|(apply id;push_cast;try omega))only[push_cast])) ?_
 refine S0 ?_
 exact .id (gZ0 _ H0q _)
def yV0 (s:List (List Tm))(a b:Int):List (List Tm):=if a=b then s else bQ (bQ s b (s.getD b.toNat []++s.getD a.toNat [])) a []
theorem tD2 (s:List (List Tm))(a b:Int)(c:jV0 s)(v:(s.getD b.toNat []).length+(s.getD a.toNat []).length<100000000000)(d:0≤a∧a<s.length)(o:0≤b∧b<s.length) :
  jF (pp G) H0 90 [trV s,.int .i64 a,.int .i64 b] (trV (yV0 s a b)):=by
 have l:=zJ0 c a.toNat
 have g:=zJ0 c b.toNat
 have D:=c.1
 unfold yV0
 refine cE G fir90 Z7 (zI3 ..) λA=>?_;rw[pA2]
 refine S0 ?_
 refine dK (bA2 G s a c.1) ?_
 have u:decide (0≤a∧a<(s.length:Int))=true:=by simpa using d
 have e:decide (0≤b∧b<(s.length:Int))=true:=by simpa using o
 refine S1 u ?_
 refine dK (bA2 G s b c.1) ?_
 by_cases h:a=b
 ·rw[if_pos h]
  subst h
  refine S1 e ?_
  refine dK (mG1 G s c) ?_
  refine S0 ?_
  exact .id (gZ0 _ H0q _)
 rw[if_neg h]
 have B:=gG0 (s:=s) (i:=a.toNat) Z0
 have m:=gG0 (s:=s) (i:=b.toNat) Z0
 have F:(a.toNat:Int)=a:=Z0
 have C:(b.toNat:Int)=b:=Z0
 have j:a.toNat<s.length:=Z0
 have f:b.toNat<s.length:=Z0
 have n:kR0 (s.getD b.toNat []++s.getD a.toNat []):=mI0 g l v
 obtain ⟨r,p⟩:∃ r,r=bQ s b (s.getD b.toNat []++s.getD a.toNat []):=⟨_,rfl⟩
 have t:=fE1 G H0 s b (s.getD b.toNat []++s.getD a.toNat []) c n
 have k:r.length=s.length:=by rw[p,bP]
 rw[← p] at t ⊢
 unfold trV
 push_cast(disch:=first|omega|(apply id;push_cast;try omega))[e,h,B,m,j,f,d.1,d.2,o.1,o.2]
 refine dK (zG1 G (s.getD b.toNat []) (s.getD a.toNat []) g.1 l.1) ?_
 refine S0 ?_
 refine jE.new1 (t) (by first|exact FzL.ids rfl|(refine FzL.ids ?_;simp(disch:=first|omega|(apply id;push_cast;try omega))only[push_cast])) (by first|rfl|(simp(disch:=first|omega|(apply id;push_cast;try omega))only[push_cast])) (by first|rfl|(simp(disch:=first|omega|(apply id;push_cast;try omega))only[push_cast])) ?_
 refine S4 @d.1 @d.2 j k ?_
 have E:r=r.take a.toNat++(r.drop a.toNat):=(List.take_append_drop _ _).symm
 have w:r.drop a.toNat=r.getD a.toNat [] :: r.drop (a.toNat+1):=by
  rw[List.drop_eq_getElem_cons Z0,List.getD_eq_getElem?_getD,List.getElem?_eq_getElem Z0];rfl
 have q:bQ r a []=r.take a.toNat++[] :: r.drop (a.toNat+1):=by
  unfold bQ
  rw[if_pos d.1,List.set_eq_take_append_cons_drop,if_pos Z0]
 rw[q]
 have y:(r.take a.toNat++[] :: r.drop (a.toNat+1)).length=s.length:=by
  rw[← q,bP,k]
 rw[y]
 refine .sl (Z3 _) (jX _ _ _ _) (size:=1) rfl Z1 ?_ (.inl ⟨by simp only[UC];omega,Z3 _⟩) ?_
 ·simp only[List.length_append,List.length_take,List.length_drop,qZ0,List.length_cons,List.length_nil];omega
 rw[List.drop_zero,List.take_of_length_le (i:=s.length*1) (by simp only[List.length_append,List.length_take,List.length_drop,qZ0,List.length_cons,List.length_nil];omega),pI0,show trs ([] :: r.drop (a.toNat+1))=[qP []]++trs (r.drop (a.toNat+1)) from rfl,List.append_assoc]
 have x:(trs r).take a.toNat=trs (r.take a.toNat):=by simp[trs,List.map_take]
 have z:(trs r).drop (a.toNat+1)=trs (r.drop (a.toNat+1)):=by simp[trs,List.map_drop]
 rw[x,z]
 exact (FzL.ids (yS0 _ H0q _)).app (.cons (qX1 G _ _) (.ids (yS0 _ H0q _)))
def dX0 (x:Tm):List Tm→Tm
 | []=>x
 | t :: r=>.mk 12 0 0 [] zE [t,dX0 x r]
def dS (x:Tm):List Tm→List Z6
 | []=>tmC x
 | t :: r=>[.int .i64 12,.int .i64 0,.int .i64 0,.string (Tx []),.int .i64 0,.int .i64 0,.string (Tx []),.slice none 0 0,Rw true 34 2 (tmC t++dS x r)]
def revF:List Tm→Tm
 | []=>zT
 | x :: r=>dX0 x r.reverse
theorem oL0 (x:Tm)(r:List Tm):(dS x r).length=9:=by cases r<;>simp[dS,uQ]
theorem oK0 (x:Tm)(r:List Tm):(dS x r).all one=true:=by
 cases r with
 | nil=>exact uC0 x
 | cons t r=>rfl
theorem zH1 (n:Nat)(h:0<n)(σ:jA)(x:Tm):∀ r:List Tm,FzL (pp G).P n σ (dS x r) (tmC (dX0 x r))
 | []=>.ids (uB0 n h x)
 | t :: r=>by
  rw[dS,dX0]
  refine .cons (.id rfl) (.cons (.id rfl) (.cons (.id rfl) (.cons (.id rfl) (.cons (.id rfl) (.cons (.id rfl) (.cons (.id rfl) (.cons (zX0 G n σ) (.cons (.row ?_) .nil))))))))
  rw[show qN [t,dX0 x r]=tmC t++tmC (dX0 x r) by rw[qN,jT0]]
  exact (FzL.ids (uB0 n h t)).app (zH1 n h σ x r)
theorem row2 (t x:Tm)(r:List Tm)(σ:jA):bsD (qq.m 26) (slT prog 26) 2 [(0,tmV t),(1,.agg ⟨dS x r⟩)] σ=some (Rw true 34 2 (tmC t++dS x r),σ):=by
 cases r with
 | nil=>rw[dS];cases t;cases x;kernel_rfl
 | cons u r=>rw[dS];generalize dS x r=c;cases t;cases u;kernel_rfl
inductive I25 (s:List (List Tm))(a:Int)(x:Tm)(l:List Tm):Nat→S→Prop
 | mk (i : Nat) (iv : Int) (h : jA) {x2 x3 x5 x6 x8 x9 xA xB xC xD xE xF xG xH xI xJ xK xL xM xN xO xP xQ xR xS xT xU xV xW xX yB yC yD yE yF yG yH yI yJ yK yL yM : Z6} (hiv : iv = (i : Int)) (hi : i ≤ l.length)
   (c0:cells h 1=some ([.int .i64 0,.int .i64 0,.int .i64 0,.string (Tx []),.int .i64 0,.int .i64 0,.string (Tx []),.slice none 0 0,.slice none 0 0],34,false))
   (c1:cells h 2=some (dS x (l.take i).reverse,34,false)) (hl1:h.lo=1) (hl2:3≤h.next) :
  I25 s a x l (l.length-i) ⟨(F49 (trV s) (.int .i64 a) x2 x3 (.pointer (some ⟨1,0,none⟩)) x5 x6 (.pointer (some ⟨2,0,none⟩)) x8 x9 xA xB xC xD xE xF xG xH xI xJ xK xL xM xN xO xP xQ xR xS xT xU xV xW xX (qP l) (.int .i64 l.length) (.int .i64 iv) yB yC yD yE yF yG yH yI yJ yK yL yM),[],h⟩
def ttV (t:Tm)(s:List (List Tm)):Z6:=.tuple ⟨[tmV t,trV s]⟩
theorem yZ2 (l:List Tm){i:Nat}{t:Tm}(h:l[i]?=some t):(l.take (i+1)).reverse=t :: (l.take i).reverse:=by
 rw[jY h,List.reverse_append];rfl
theorem lS1 (s:List (List Tm))(a:Int)(u:jV0 s)(n:0≤a∧a<s.length) :
  jF (pp G) H0 88 [trV s,.int .i64 a] (ttV (revF (s.getD a.toNat [])) (bQ s a [])):=by
 have b:=zJ0 u a.toNat
 have N:=u.1
 have r:=gG0 (s:=s) (i:=a.toNat) Z0
 have Z:(a.toNat:Int)=a:=Z0
 have e:a.toNat<s.length:=Z0
 have g:s.getD a.toNat []=[]→bQ s a []=s:=λh0=>by
  unfold bQ
  rw[if_pos n.1]
  rw[List.getD_eq_getElem?_getD,List.getElem?_eq_getElem e] at h0
  simp only[Option.getD_some] at h0
  rw[← h0]
  exact List.set_getElem_self e
 generalize s.getD a.toNat []=row at b r g
 have D:decide (0≤a∧a<(s.length:Int))=true:=by simpa using n
 have w:=b.1
 refine cE G fir88 Z7 (zF3 ..) λP=>?_;rw[pC2]
 push_cast(disch:=first|omega|(apply id;push_cast;try omega))
 refine dK (bA2 G s a u.1) ?_
 cases row with
 | nil=>
  rw[g rfl]
  unfold trV
  unfold qP at r
  push_cast(disch:=first|omega|(apply id;push_cast;try omega))[D,r,e,n.1,n.2,List.length_nil,show ((0:Nat):Int)=0 from rfl]
  have:=mG1 G s u
  unfold trV at this
  refine dK (this) ?_
  push_cast(disch:=first|omega|(apply id;push_cast;try omega))
  refine .tup (.cons (.agg ?_) (.cons (.id (jY1 _ H0q _ _ _)) .nil))
  exact .cons (.id rfl) (.cons (.id rfl) (.cons (.id rfl) (.cons (.id rfl) (.cons (.id rfl) (.cons (.id rfl) (.cons (.id rfl) (.cons (zX0 G _ _) (.cons (qX1 G _ _) .nil))))))))
 | cons x l=>
  have M:l.length+1<100000000000:=by simpa using w
  have L:smT x=true:=qQ b.2 x (by simp)
  have R:dI l=true:=by have:=b.2;simp only[dI,Z5] at this;exact this.2
  have v:¬ ((l.length:Int)+1)=0:=Z0
  have T:9≤(l.length+1)*9:=Z0
  have F:jF (pp G) H0 114 [Rw false etm (x :: l).length (qN (x :: l))] (Rw false etm (x :: l).length (qN (x :: l))):=mF1 G _ b
  have y:(qN (x :: l)).drop 9=qN l:=by
   have:=bC0 (x :: l) 1
   simpa using this
  unfold trV
  unfold qP at r
  push_cast(disch:=first|omega|(apply id;push_cast;try omega))[D,r,e,n.1,n.2,List.length_cons,v]
  rw[List.length_cons] at F
  refine dK (F) ?_
  have K:(l.length:Int)+1-1=l.length:=Z0
  push_cast(disch:=first|omega|(apply id;push_cast;try omega))[T,List.length_cons,y,Nat.add_sub_cancel,K]
  refine WD.loop4 (q:=qq) (jV G) Z7 (I25 s a x l) ?_ _ _ (I25.mk 0 0 _ rfl (Nat.zero_le _) (by push_cast(disch:=first|omega|(apply id;push_cast;try omega))) (by push_cast(disch:=first|omega|(apply id;push_cast;try omega));rfl) rfl tH)
  intro m Y J
  cases J with|mk i X h A hi I z f V=>
  subst A
  rw[kJ1]
  unfold trV qP
  by_cases o:(i:Int)<l.length
  ·obtain ⟨t,H⟩:=jT (l:=l) (i:=i) Z0
   have B:=kS H
   have p:i*9+9≤l.length*9:=Z0
   have c:=oL0 x (l.take i).reverse
   have d:(dS x (l.take i).reverse).take 9=dS x (l.take i).reverse:=List.take_of_length_le (by rw[c];omega)
   have k:(dS x (l.take i).reverse).drop 9=[]:=List.drop_of_length_le (by rw[c];omega)
   have j:=oK0 x (l.take i).reverse
   push_cast(disch:=first|omega|(apply id;push_cast;try omega))[o,Z4,B,p,f,z,c,d,k,j,↓row2]
   exact ⟨_,Z0,I25.mk (i+1) _ _ Z2 Z0 (tH1 I) (by rw[yZ2 l H,dS];push_cast(disch:=first|omega|(apply id;push_cast;try omega))) (tH1 f) tH⟩
  ·have C:i=l.length:=Z0
   subst C
   rw[List.take_length] at z
   have c:=oL0 x l.reverse
   have d:(dS x l.reverse).take 9=dS x l.reverse:=List.take_of_length_le (by rw[c];omega)
   have k:(dS x l.reverse).drop 9=[]:=List.drop_of_length_le (by rw[c];omega)
   have j:=oK0 x l.reverse
   push_cast(disch:=first|omega|(apply id;push_cast;try omega))[o]
   rw[kI1]
   push_cast(disch:=first|omega|(apply id;push_cast;try omega))[z,c,d,f]
   have E:=zM1 G s a u
   unfold trV at E
   refine dK (E) ?_
   push_cast(disch:=first|omega|(apply id;push_cast;try omega))[I,f,c,j,d,k]
   refine .tup (.cons (.agg (zH1 G _ H0q _ x _)) (.cons (.id (jY1 _ H0q _ _ _)) .nil))
mutual
def anyT:Tm→Zb
 | .mk k _ _ _ _ l=>decide (k=14) || oN0 l
def oN0:List Tm→Zb
 | []=>false
 | x :: l=>anyT x || oN0 l
end
theorem lQ1 (v h p:Int)(x:Tm)(a:smT x=true):jF (pp G) H0 32 [tmV x,.int .i64 v,.int .i64 h,.int .i64 p] (.bool (jZ v h p false x)):=by
 refine cE G fir32 Z7 (dN0 ..) λc=>?_;rw[rK2]
 refine S0 ?_
 refine dK (rt_f G v h p x false a) ?_
 refine S0 ?_
 exact .id rfl
theorem wtB_0 (n:Int):wtB 0 n=false:=by
 unfold wtB
 rw[Int.zero_fdiv]
 decide
mutual
theorem lE2:∀ (x:Tm) (p:Zb) (n:Int),(wtF 0 p x n).1=x
 | .mk k a b s e l,p,n=>by
  rw[wtF]
  simp only[wtB_0,Bool.and_false]
  have h:=λm=>lD2 l (p || is3 k) m
  split<;>simp[h]
theorem lD2:∀ (l:List Tm) (p:Zb) (n:Int),(wtL 0 p l n).1=l
 | [],_,_=>rfl
 | x :: l,p,n=>by rw[wtL,lE2 x p n,lD2 l p]
end
theorem mT1 (V a D:List (List Zu))(x:Pr)(p:Zb)(h:okPr V a D x=true)(c:jJ (bK V a D x)<4611686018427387904):jZ V.length a.length D.length p (bK V a D x)=true:=by
 have:=(jT1 V a D 0 x p 0 h Z0 Z0).1
 rwa [lE2] at this
theorem bR0 (v d q:Int):∀ x:Tm,jZ v d q true x=true→anyT x=false
 | .mk k a b s e l,h=>by
  have j:k≠14:=by
   rintro rfl
   simp[jZ] at h
  rw[jZ] at h
  simp only[Z5,decide_eq_true_eq,Bool.true_or] at h
  have c:=h.2.2.2.2.2.2.2
  have:∀ l:List Tm,(∀ x∈l,anyT x=false)→oN0 l=false:=λl c=>by
   induction l with
   | nil=>rfl
   | cons y l f=>rw[oN0,c y (by simp),f λz g=>c z (by simp[g])];rfl
  rw[anyT,this l λx i=>bR0 v d q x (dD c x i)]
  simp[j]
 termination_by x=>SizeOf.sizeOf x
structure wQ0 (c:Co):Prop where
 v:c.v.length=3
 s:c.s=2
 p:1≤c.p.length∧c.p.length≤5
 m:0≤c.m∧c.m<c.p.length
 sm:dI c.p=true
 r:∀ x∈c.p,jZ 3 2 c.p.length true x=true
 z:∀ x∈c.p,jJ x≤300
def payX:Pr:=.mk 1 [112,97,121] [120] zE []
def dP0 (b:Pr):Pr:=.mk 12 [] [] zE [payX,b]
theorem mC1:okPr jQ jG qG payX=true:=by decide
theorem zS1 {b:Pr}(h:okPr jQ jG qG b=true):okPr jQ jG qG (dP0 b)=true:=by
 unfold dP0
 rw[okPr]
 simp only[sE0,mC1,h,Bool.and_true,Z5,decide_eq_true_eq,List.length_cons,List.length_nil]
 refine ⟨by decide,?_⟩
 and_intros<;>first|rfl|decide|simp
def shD (l:List Rb)(w:Zb):List (List Zu×Pr):=(defL l).map λx=>(x.1,if w then dP0 x.2 else x.2)
def shG (v:Int)(l:List Rb)(w:Zb):Pg:=⟨varL v,jG,shD l w⟩
theorem iO1 (l:List Rb)(w:Zb):(shD l w).map Prod.fst=qG:=by
 simp only[shD,List.map_map]
 rfl
theorem yG3 (l:List Rb)(w:Zb):∀ x∈shD l w,okPr jQ jG qG x.2=true∧jJ (bK jQ jG qG x.2)≤300:=by
 have a:∀ r:Rb,jJ (bK jQ jG qG (mkP r 0))+1≤256:=λr=>uA1 r 0 Z0
 have e:∀ x∈defL l,okPr jQ jG qG x.2=true∧jJ (bK jQ jG qG x.2)≤255:=λx h=>by
  simp only[defL,List.mem_map,List.mem_range] at h
  obtain ⟨i,hi,rfl⟩:=h
  unfold kM0
  cases g:l[i]? with
  | none=>exact ⟨(by decide:okPr jQ jG qG qH=true),(by decide:jJ (bK jQ jG qG qH)≤255)⟩
  | some r=>exact ⟨uB1 r 0,by have:=a r;show jJ (bK jQ jG qG (mkP r 0))≤255;omega⟩
 intro x h
 simp only[shD,List.mem_map] at h
 obtain ⟨y,b,rfl⟩:=h
 obtain ⟨c,f⟩:=e y b
 cases w with
 | false=>exact ⟨c,by show jJ (bK jQ jG qG y.2)≤300;omega⟩
 | true=>
  refine ⟨zS1 c,?_⟩
  show jJ (bK jQ jG qG (dP0 y.2))≤300
  have d:jJ (bK jQ jG qG payX)=1:=by decide
  unfold dP0
  rw[bK,jJ,kO,kO,kO,jI,jI,jI,d]
  omega
theorem iN1 (v:Int)(l:List Rb)(w:Zb):gQ2 (shG v l w)=(shD l w).map λx=>bK jQ jG qG x.2:=by
 have h:∀ m:List Pr,kO jQ jG qG m=m.map (bK jQ jG qG):=λm=>by
  induction m with
  | nil=>rw[kO];rfl
  | cons x m a=>rw[kO,a];rfl
 unfold gQ2
 show kO jQ jG ((shD l w).map Prod.fst) ((shD l w).map Prod.snd)=_
 rw[iO1,h,List.map_map]
 rfl
theorem bH0 (l:List Rb)(w:Zb):(shD l w).length=5:=by simp[shD,defL]
theorem bC2 {c:Co}{v:Int}{l:List Rb}{w:Zb}(j:c.v=(varL v).map Prod.snd)(f:c.s=2)(e:c.p=gQ2 (shG v l w))(n:0≤c.m∧c.m<5)(d:dI c.p=true):wQ0 c:=by
 have b:c.p.length=5:=by rw[e,iN1,List.length_map,bH0]
 have h:∀ x∈c.p,jZ 3 2 5 true x=true∧jJ x≤300:=λx a=>by
  rw[e,iN1] at a
  simp only[List.mem_map] at a
  obtain ⟨y,i,rfl⟩:=a
  obtain ⟨k,g⟩:=yG3 l w y i
  exact ⟨mT1 jQ jG qG y.2 true k Z0,g⟩
 exact ⟨by rw[j,List.length_map];rfl,f,Z0,Z0,d,λx a=>by rw[b];exact (h x a).1,λx a=>(h x a).2⟩
def noC:Co:=⟨[0,0,0],2,[.mk 1 0 0 [112,97,121] zE []],0⟩
theorem gM2:wQ0 noC:=⟨rfl,rfl,⟨by decide,by decide⟩,⟨by decide,by decide⟩,rfl,λx h=>by
 simp only[noC,List.mem_singleton] at h;subst h;decide,λx h=>by
 simp only[noC,List.mem_singleton] at h;subst h;decide⟩
def idxF (g:Tm→Zb):List Tm→Nat→Int
 | [],_=>-1
 | x :: l,i=>if g x=true then i else idxF g l (i+1)
theorem wQ1 (g:Tm→Zb):∀ (l:List Tm) (i:Nat),decide (0≤idxF g l i)=l.any g
 | [],_=>rfl
 | x :: l,i=>by
  rw[idxF,List.any_cons]
  split
  ·rename_i h;rw[h];simp
  ·rename_i h;rw[wQ1 g l (i+1)];simp[h]
theorem pS1 (g:Tm→Zb){l:List Tm}{i:Nat}{x:Tm}(h:l[i]?=some x):idxF g (l.drop i) i=if g x=true then (i:Int) else idxF g (l.drop (i+1)) (i+1):=by
 obtain ⟨hi,a⟩:=List.getElem?_eq_some_iff.1 h
 rw[List.drop_eq_getElem_cons hi,idxF,a]
inductive J109 (l:List Tm)(fv:Z6)(g:Tm→Zb):Nat→S→Prop
 | mk (i:Nat) (iv:Int) (h:jA) {x2 x3 x4 x5 x6 x9 xA xB xC xD xE xF xG xH xI:Z6} (hiv:iv=(i:Int)) (hi:i≤l.length) (hx:idxF g l 0=idxF g (l.drop i) i) (hl1:h.lo=1) (hl2:1≤h.next) :
  J109 l fv g (l.length-i) ⟨(F19 (qP l) fv x2 x3 x4 x5 x6 (.int .i64 l.length) (.int .i64 iv) x9 xA xB xC xD xE xF xG xH xI),[],h⟩
theorem tV2 (l:List Tm)(f:FuncId)(g:Tm→Zb)(p:l.length<100000000000)(n:∀ x∈l,jF (pp G) H0 f [tmV x] (.bool (g x))) :
  jF (pp G) H0 109 [qP l,.func (.func f) #[] #[]] (.int .i64 (idxF g l 0)):=by
 refine cE G fM3 Z7 (dL0 ..) λs=>?_;rw[yJ2]
 unfold qP
 refine S0 ?_
 refine WD.loop4 (q:=qq) (jV G) Z7 (J109 l (.func (.func f) #[] #[]) g) ?_ _ _ (J109.mk 0 0 _ rfl (Nat.zero_le _) rfl rfl tH)
 intro m v o
 cases o with|mk i u h j hi a e t=>
 subst j
 rw[rR0]
 unfold qP
 by_cases b:(i:Int)<l.length
 ·obtain ⟨x,c⟩:=jT (l:=l) (i:=i) Z0
  have r:=kS c
  have d:i*9+9≤l.length*9:=Z0
  refine S5 b @Z4 r d e ?_
  refine dK (n x (List.mem_of_getElem? c)) ?_
  rw[pS1 g c] at a
  cases k:g x with
  | true=>
   rw[if_pos k] at a
   refine S1 a ?_
   exact .id rfl
  | false=>
   rw[if_neg (by rw[k];simp)] at a
   refine S0 ?_
   exact ⟨_,Z0,J109.mk (i+1) _ _ Z2 Z0 a (tH1 e) tH⟩
 ·obtain rfl:i=l.length:=Z0
  rw[List.drop_length] at a
  refine S1 b ?_
  rw[rQ0]
  rw[a]
  refine S0 ?_
  exact .id rfl
theorem cT1 (l:List Tm)(f:FuncId)(g:Tm→Zb)(h:l.length<100000000000)(a:∀ x∈l,jF (pp G) H0 f [tmV x] (.bool (g x))) :
  jF (pp G) H0 72 [qP l,.func (.func f) #[] #[]] (.bool (l.any g)):=by
 refine cE G fir72 Z7 (zN1 ..) λc=>?_;rw[pL2]
 refine S0 ?_
 refine dK (tV2 G l f g h a) ?_
 rw[← wQ1 g l 0]
 refine S0 ?_
 exact .id rfl
theorem oM0:∀ l:List Tm,oN0 l=l.any anyT
 | []=>rfl
 | x :: l=>by rw[oN0,oM0 l];rfl
theorem mA0:∀ t:Tm,smT t=true→jF (pp G) H0 33 [tmV t] (.bool (anyT t))
 | .mk k a b s e l,hs=>by
  simp only[smT,Z5,decide_eq_true_eq] at hs
  have h:=hs.1.1
  have f:∀ x∈l,jF (pp G) H0 33 [tmV x] (.bool (anyT x)):=λx g=>mA0 x (qQ hs.2 x g)
  have d:=cT1 G l 33 anyT h f
  unfold qP at d
  refine cE G fir33 Z7 (zS3 ..) λi=>?_;rw[rJ2]
  rw[anyT,oM0]
  by_cases c:k=14
  ·subst c
   refine S0 ?_
   exact gC0 rfl rfl
  ·rw[decide_eq_false c,Bool.false_or]
   refine S1 c ?_
   refine dK (d) ?_
   refine S0 ?_
   exact gC0 rfl rfl
 termination_by x=>SizeOf.sizeOf x
def okT (c:Co)(x:Tm):Zb:=jZ c.v.length c.s c.p.length false x&&(!anyT x&&decide (W (jJ x)≤2000))
def chkC (c:Co):Zb:=decide (c.v.length≤20∧0≤c.s∧c.s≤10∧c.p.length≤20∧0≤c.m∧c.m<c.p.length)&&c.p.all (okT c)
theorem eX0 {c:Co}(h:¬ (c.v.length≤20∧0≤c.s∧c.s≤10∧c.p.length≤20∧0≤c.m∧c.m<c.p.length)):chkC c=false:=by
 unfold chkC;rw[decide_eq_false h];rfl
theorem wF3 {c:Co}{x:Tm}(a:x∈c.p)(h:okT c x=false):chkC c=false:=by
 unfold chkC
 rw[show c.p.all (okT c)=false from List.all_eq_false.2 ⟨x,a,by rw[h];simp⟩,Bool.and_false]
structure SmC (c:Co):Prop where
 v:c.v.length<100000000000
 p:c.p.length<100000000000
 t:dI c.p=true
theorem wC3 (c:Co):(coC c).all one=true:=rfl
theorem wD3 (c:Co):(coC c).length=4:=rfl
theorem qF2 (c:Co):(coV c).cells.toList=coC c:=rfl
inductive J14 (c:Co):Nat→S→Prop
 | mk (i:Nat) (iv:Int) (h:jA) {x0 x2 x3 x4 x5 x6 x7 x8 x9 xA xB xC xD xE xF xG xH xI xJ xK xL xM xN xO xP xQ xR xS xT xU xV xW xX xY xZ yA yB yC yG yH yI yJ yK yL yM yN yO yP yQ yR yS yT yU yV yW yX yY yZ zA zB zC zD:Z6} (hiv:iv=(i:Int)) (hi:i≤c.p.length) (hok:(c.p.take i).all (okT c)=true) (c0:cells h 1=some (coC c,28,false)) (hl1:h.lo=1) (hl2:2≤h.next) :
  J14 c (c.p.length-i) ⟨(F66 x0 (.pointer (some ⟨1,0,none⟩)) x2 x3 x4 x5 x6 x7 x8 x9 xA xB xC xD xE xF xG xH xI xJ xK xL xM xN xO xP xQ xR xS xT xU xV xW xX xY xZ yA yB yC (qP c.p) (.int .i64 c.p.length) (.int .i64 iv) yG yH yI yJ yK yL yM yN yO yP yQ yR yS yT yU yV yW yX yY yZ zA zB zC zD),[],h⟩
theorem qG2 (c:Co)(I:SmC c):jF (pp G) H0 14 [coV c] (.bool (chkC c)):=by
 obtain ⟨R,P,K⟩:=I
 refine cE G fir14 Z7 (zC3 ..) λJ=>?_;rw[rQ2]
 by_cases d:(c.v.length:Int) > 20
 ·rw[eX0 Z0]
  unfold coV coC ivV qP
  refine S1 d ?_
  exact gC0 rfl rfl
 by_cases f:c.s<0
 ·rw[eX0 Z0]
  unfold coV coC ivV qP
  refine S2 d f ?_
  exact gC0 rfl rfl
 by_cases o:c.s > 10
 ·rw[eX0 Z0]
  unfold coV coC ivV qP
  refine S3 d f o ?_
  exact gC0 rfl rfl
 by_cases u:(c.p.length:Int) > 20
 ·rw[eX0 Z0]
  unfold coV coC ivV qP
  refine S4 d f o u ?_
  exact gC0 rfl rfl
 by_cases y:c.m<0
 ·rw[eX0 Z0]
  unfold coV coC ivV qP
  refine S5 d f o u y ?_
  exact gC0 rfl rfl
 by_cases E:c.m ≥ (c.p.length:Int)
 ·rw[eX0 Z0]
  unfold coV coC ivV qP
  refine S6 d f o u y E ?_
  exact gC0 rfl rfl
 have F:chkC c=c.p.all (okT c):=by unfold chkC;rw[decide_eq_true Z0];rfl
 unfold coV coC ivV qP
 refine S6 d f o u y E ?_
 refine WD.loop4 (q:=qq) (jV G) Z7 (J14 c) ?_ _ _ (J14.mk 0 0 _ rfl (Nat.zero_le _) rfl (by unfold coC ivV qP;push_cast(disch:=first|omega|(apply id;push_cast;try omega))) tH tH)
 intro m N H
 cases H with|mk i M h A hi e D n L=>
 subst A
 rw[gM1]
 have r:=D
 unfold coC ivV qP at r
 by_cases g:(i:Int)<c.p.length
 ·obtain ⟨x,w⟩:=jT (l:=c.p) (i:=i) Z0
  have k:=List.mem_of_getElem? w
  have b:=qQ K x k
  have z:=kS w
  have j:i*9+9≤c.p.length*9:=Z0
  unfold qP
  refine S6 g @Z4 z j n r ?_
  have a:okT c x=false→chkC c=false:=wF3 k
  refine dK (lQ1 G c.v.length c.s c.p.length x b) ?_
  cases t:jZ c.v.length c.s c.p.length false x with
  | false=>
   refine S0 ?_
   rw[a (by unfold okT;rw[t];rfl)]
   exact gC0 rfl rfl
  | true=>
  refine S0 ?_
  refine dK (mA0 G x b) ?_
  cases B:anyT x with
  | true=>
   refine S0 ?_
   rw[a (by unfold okT;rw[t,B];rfl)]
   exact gC0 rfl rfl
  | false=>
  refine S0 ?_
  refine dK (qI1 G x b) ?_
  by_cases C:W (jJ x) > 2000
  ·refine S1 C ?_
   rw[a (by unfold okT;rw[t,B,decide_eq_false Z0];rfl)]
   exact gC0 rfl rfl
  ·refine S1 C ?_
   exact ⟨_,Z0,J14.mk (i+1) _ _ Z2 Z0 (by rw[jY w,List.all_append,e,List.all_cons,List.all_nil];unfold okT;rw[t,B,decide_eq_true Z0];rfl) (tH1 D) (tH1 n) tH⟩
 ·obtain rfl:i=c.p.length:=Z0
  rw[List.take_length] at e
  unfold qP
  refine S1 g ?_
  rw[gL1]
  rw[F,e]
  refine S0 ?_
  exact gC0 rfl rfl
mutual
theorem kW0 {v c q:Int}:∀ (x:Tm) (p:Zb),jZ v c q true x=true→jZ v c q p x=true
 | .mk k a b s e l,p,h=>by
  have d:k≠14:=by
   rintro rfl
   simp[jZ] at h
  rw[jZ] at h ⊢
  simp only[Z5,Bool.true_or] at h ⊢
  refine ⟨h.1,by simp[d],h.2.2.1,h.2.2.2.1,h.2.2.2.2.1,h.2.2.2.2.2.1,h.2.2.2.2.2.2.1,bQ0 l _ h.2.2.2.2.2.2.2⟩
theorem bQ0 {v a q:Int}:∀ (l:List Tm) (p:Zb),jS v a q true l=true→jS v a q p l=true
 | [],_,_=>rfl
 | x :: l,p,h=>by
  simp only[jS,Z5] at h ⊢
  exact ⟨kW0 x p h.1,bQ0 l p h.2⟩
end
theorem bD2 {c:Co}(h:wQ0 c):chkC c=true:=by
 unfold chkC
 rw[decide_eq_true ⟨by have:=h.v;omega,by have:=h.s;omega,by have:=h.s;omega,by have:=h.p;omega,h.m.1,h.m.2⟩,Bool.true_and,List.all_eq_true]
 intro x a
 have b:=h.r x a
 have g:=h.z x a
 have i:=qT x
 unfold okT
 rw[h.v,h.s]
 have d:=bR0 _ _ _ x b
 have e:jZ 3 2 c.p.length false x=true:=kW0 x false b
 have f:W (jJ x)=jJ x:=W_id ⟨Z0,Z0⟩
 rw[f,decide_eq_true Z0,d]
 simpa using e
theorem jB0:∀ l:List Tm,(l.length:Int)≤jI l∧0≤jI l
 | []=>by simp[jI]
 | .mk k a b s e m :: l=>by
  have h:=jB0 l
  have c:=(jB0 m).2
  rw[jI,jJ,List.length_cons];omega
theorem kS0:∀ {l:List Tm} {x:Tm},x∈l→jJ x≤jI l
 | .mk k a b s e m :: l,x,h=>by
  have d:=(jB0 l).2
  have c:=(jB0 m).2
  rcases List.mem_cons.1 h with rfl|h
  ·rw[jI];omega
  ·have:=kS0 h
   rw[jI,jJ];omega
theorem cY2 (c:Co):(coC c).take 4=coC c:=rfl
theorem dA2 (c:Co):(coC c).drop 4=[]:=rfl
theorem cZ2 (c:Co):Value.agg ⟨coC c⟩=coV c:=rfl
attribute [push_cast] qF2 wD3 wC3 cY2 dA2 cZ2
theorem zY2 {b:Pr}(h:smP jQ jG b=true):smP jQ jG (dP0 b)=true:=
 iD1 (by simp) rfl (by simp) (by simp) (by simp) λx a=>by
  simp only[List.mem_cons,List.not_mem_nil,or_false] at a
  rcases a with rfl|rfl
  ·decide
  ·exact h
theorem yF3 (v:Int)(l:List Rb)(w:Zb)(c:smBs l=true):∀ x∈(shG v l w).d,smP ((shG v l w).v.map Prod.fst) (shG v l w).s x.2=true:=by
 intro x a
 show smP jQ jG x.2=true
 simp only[shG,shD,defL,List.mem_map,List.mem_range] at a
 obtain ⟨y,⟨i,hi,rfl⟩,rfl⟩:=a
 have h:smP jQ jG ((kM0 l i).getD qH)=true:=by
  unfold kM0
  cases l[i]? with
  | none=>exact gJ0 _ _
  | some r=>exact iE1 r 0
 cases w with
 | false=>exact h
 | true=>exact zY2 h
theorem uD1 (v:Int)(l:List Rb)(w:Zb)(hsl:smBs l=true){h:jA}{q:Z8 Addr}{c b2 k:Nat}{m:Zb}{cs:List Z6}(ho:qY h eVr 2 q 3 c (vrs (varL v)))(hq:∀ b,blk q b→3≤b)(hb2:3≤b2)(hc2:cells h b2=some (cs,eDf,m))
  (hm:(m=true∧k=UC)∨(m=false∧k=5)) (hl:cs.length=5*9) (hcs:∀ τ,FzL (pp G).P 1 τ cs (dfs (shD l w))) (hl1:h.lo=1) (Qk:Nat→Zb) (hQ:∀ i,i<1→Qk i=true) (hQq:∀ b,blk q b→Qk b=false) (hQb:Qk b2=false)
  {K:Zb→Z6→jA→Prop} (hK:∀ (co:Co) (e:Int),dI co.p=true→co.p.length<1000→(e=0→wQ0 co)→K true (.tuple ⟨[coV co,.int .i64 e]⟩) (bA Qk h)) :
  jE (pp G) H0 (.func (.func 30) ⟨[]⟩ ⟨[]⟩) [.agg ⟨[.slice q 3 c,Rw false eS 2 (nss jG),.slice (some ⟨b2,0,none⟩) 5 k]⟩] h K:=by
 have hlf:∀ b,Qk b=false→(!Qk b || Nat.blt b h.lo)=true:=λb hb=>by rw[hb];rfl
 have hf1:qY (bA (λi=>!Qk i || Nat.blt i h.lo) h) eVr 2 q 3 c (vrs (varL v)):=qY.flt ho λb hb=>hlf b (hQq b hb)
 have hz:FzL (pp G).P h.lo (bA (λi=>!Qk i || Nat.blt i h.lo) h) [.agg ⟨[.slice q 3 c,Rw false eS 2 (nss jG),.slice (some ⟨b2,0,none⟩) 5 k]⟩] [pgV (shG v l w)]:=by
  unfold pgV pgC
  rw[show (shG v l w).d.length=5 from bH0 l w]
  refine .cons (.agg (.cons (hf1.fz rfl Z1 Z1 (.ids (lH2 _ _)) (λb hb=>by have:=hq b hb;omega)) (.cons (.id (eK0 _ Z0 _ _ _)) (.cons ?_ .nil)))) .nil
  refine .sl (size:=9) Z0 ((cF h (hlf b2 hQb)).trans hc2) rfl Z1 Z0 ?_ ?_
  ·rcases hm with ⟨rfl,rfl⟩|⟨rfl,rfl⟩
   ·exact .inr ⟨rfl,Z3 _,by simp,by simp only[U];omega⟩
   ·exact .inl ⟨by simp only[UC];omega,Z3 _⟩
  ·rw[List.drop_zero,List.take_of_length_le Z0]
   have:=hcs (bA (λi=>!Qk i || Nat.blt i h.lo) h)
   rw[hl1] at this ⊢;exact this
 refine jE.giveE (cap:=[]) (args:=[_]) Qk (λi hi=>hQ i Z0) (tE2 G (shG v l w) (by show 3≤20;omega) (by show 2≤10;omega) (by rw[show (shG v l w).d.length=5 from bH0 l w];omega) (by rw[show (shG v l w).d.length=5 from bH0 l w];omega) (yF3 v l w hsl)) hz ?_
 rintro _ ⟨co,e,rfl,h1,h2,-,h4,h5⟩
 refine ⟨by simp[Ev.sc,scL,zB1 _ (show 0<h.lo by omega)],hK co e h2 h1 λhe=>?_⟩
 obtain ⟨e1,e2,e3,e4⟩:=h5 he
 rw[show (shG v l w).d.length=5 from bH0 l w] at e4
 exact bC2 e1 e2 (h4 he) ⟨e3,e4⟩ h2
def wrD (l:List Rb)(i:Nat):List (List Zu×Pr):=(List.range 5).map λj=>(qG.getD j [],if j<i then dP0 ((kM0 l j).getD qH) else (kM0 l j).getD qH)
theorem wrD_0 (l:List Rb):wrD l 0=defL l:=by simp[wrD,defL]
theorem wrD_5 (l:List Rb):wrD l 5=shD l true:=by
 simp only[wrD,shD,defL,List.map_map]
 refine List.map_congr_left λj h=>?_
 rw[List.mem_range] at h
 simp[h]
theorem nI2 (l:List Rb)(i:Nat){j:Nat}(h:j<5):(wrD l i)[j]?=some (qG.getD j [],if j<i then dP0 ((kM0 l j).getD qH) else (kM0 l j).getD qH):=by
 simp[wrD,h]
theorem nH2 (l:List Rb){i:Nat}(h:i<5):(wrD l i).set i (qG.getD i [],dP0 ((kM0 l i).getD qH))=wrD l (i+1):=by
 obtain rfl|rfl|rfl|rfl|rfl:i=0∨i=1∨i=2∨i=3∨i=4:=Z0
 all_goals rfl
def gU1:List Z6:=[.int .i64 1,.string (Tx [112,97,121]),.string (Tx [120]),.int .i64 0,.int .i64 0,.string (Tx []),.slice none 0 0,.slice none 0 0]
theorem gG2 (h:jA)(N:Nat):FzL (pp G).P N h gU1 (prC payX):=.cons (.id rfl) (.cons (.id rfl) (.cons (.id rfl) (.cons (.id rfl) (.cons (.id rfl) (.cons (.id rfl) (.cons (.nil (size:=4) rfl Z1) (.cons (.nil (size:=8) rfl Z1) .nil)))))))
def wrC (b:List Z6):List Z6:=[.int .i64 12,.string (Tx []),.string (Tx []),.int .i64 0,.int .i64 0,.string (Tx []),.slice none 0 0,Rw true epr 2 (gU1++b)]
theorem kA3 (a:jA)(N:Nat){b:List Z6}{p:Pr}(h:FzL (pp G).P N a b (prC p)):FzL (pp G).P N a (wrC b) (prC (dP0 p)):=
 .cons (.id rfl) (.cons (.id rfl) (.cons (.id rfl) (.cons (.id rfl) (.cons (.id rfl) (.cons (.id rfl) (.cons (.nil (size:=4) rfl Z1) (.cons (.row (by
  rw[show prCs [payX,p]=prC payX++prC p by rw[prCs,prCs,prCs,List.append_nil]]
  exact (gG2 G a N).app h)) .nil)))))))
theorem rowQ2 {b:List Z6}(a:b.length=8)(h:b.all one=true)(σ:jA):bsD (qq.m 78) (slT prog 78) 2 [(0,.agg ⟨gU1⟩),(1,.agg ⟨b⟩)] σ=some (Rw true epr 2 (gU1++b),σ):=by
 match b,a with
 | [x0,x1,x2,x3,x4,x5,x6,x7],_=>
  have e:slT prog 78=some (epr,8,[.int .i64 0,.string (Tx []),.string (Tx []),.int .i64 0,.int .i64 0,.string (Tx []),.slice none 0 0,.slice none 0 0]):=Z7
  rw[e,oH0 (n:=8) _ _ _ _ Z1]
  exact qN2 (cs:=gU1++[x0,x1,x2,x3,x4,x5,x6,x7]) 2 (by rw[List.all_append,h];rfl) Z1
theorem rowI3 (σ:jA):bsD (qq.m 25) (slT prog 25) 3 [(0,.int .i64 0),(1,.int .i64 0),(2,.int .i64 0)] σ=some (Rw true eI 3 (ivs [0,0,0]),σ):=Z7
def gH2:List Z6:=[.int .i64 1,.int .i64 0,.int .i64 0,.string (Tx [112,97,121]),.int .i64 0,.int .i64 0,.string (Tx []),.slice none 0 0,.slice none 0 0]
theorem yO3 (σ:jA):bsD (qq.m 26) (slT prog 26) 1 [(0,.agg ⟨[.int .i64 1,.int .i64 0,.int .i64 0,.string (Tx [112,97,121]),.int .i64 0,.int .i64 0,.string (Tx []),.slice none 0 0,.slice none 0 0]⟩)] σ=some (Rw true etm 1 gH2,σ):=Z7
theorem coB:bdV (plc prog 28) [(0,Rw true eI 3 (ivs [0,0,0])),(1,.int .i64 2),(2,Rw true etm 1 gH2)]=some (.agg ⟨[Rw true eI 3 (ivs [0,0,0]),.int .i64 2,Rw true etm 1 gH2,.int .i64 0]⟩):=Z7
theorem gZ3 (N:Nat)(σ:jA):FzV (pp G).P N σ (.agg ⟨[Rw true eI 3 (ivs [0,0,0]),.int .i64 2,Rw true etm 1 gH2,.int .i64 0]⟩) (coV noC):=
 .agg (.cons (.row (.ids rfl)) (.cons (.id rfl) (.cons (.row (by
  exact .cons (.id rfl) (.cons (.id rfl) (.cons (.id rfl) (.cons (.id rfl) (.cons (.id rfl) (.cons (.id rfl) (.cons (.id rfl) (.cons (zX0 G N σ) (.cons (qX1 G N σ) .nil)))))))))) (.cons (.id rfl) .nil))))
theorem nC2 {a b:Nat}(h:¬ a=b):Nat.beq a b=false:=by
 cases c:Nat.beq a b with
 | false=>rfl
 | true=>exact absurd (Nat.eq_of_beq_eq_true c) h
inductive K13 (l:List Rb)(v e:Int)(co:Co)(vi bp b2 c k:Nat)(m:Zb)(q:Z8 Addr):Nat→S→Prop
 | mk (i : Nat) (iv : Int) (h : jA) (cs : List Z6) {x0 x1 x7 x8 x9 xA xB xC xD xE xF xG xH xI xJ xK xL xM xN xO xP xQ xR xS xT xU xV xW xX xY xZ yA yB yC yD yE yF yG yH yI yJ yK yL yM yN : Z6} (hiv : iv = (i : Int)) (hi : i ≤ 5)
   (d1:cells h 2=some (coZ,tCo,false)) (dv:cells h vi=some (coC co,28,false)) (c2:cells h bp=some ([.slice q 3 c,Rw false eS 2 (nss jG),.slice (some ⟨b2,0,none⟩) 5 k],76,false))
   (ho:qY h eVr 2 q 3 c (vrs (varL v))) (hb2:cells h b2=some (cs,eDf,m)) (hl:cs.length=5*9) (h1:cs.all one=true) (hcs:∀ τ,FzL (pp G).P 1 τ cs (dfs (wrD l i))) (hl1:h.lo=1) (hl2:bp<h.next) :
  K13 l v e co vi bp b2 c k m q (5-i) ⟨(F50 x0 x1 (.pointer (some ⟨2,0,none⟩)) (.pointer (some ⟨vi,0,none⟩)) (.int .i64 e) (.pointer (some ⟨bp,0,none⟩)) (.int .i64 iv) x7 x8 x9 xA xB xC xD xE xF xG xH xI xJ xK xL xM xN xO xP xQ xR xS xT xU xV xW xX xY xZ yA yB yC yD yE yF yG yH yI yJ yK yL yM yN),[],h⟩
def CoreR (d:Z6):Prop:=∃ c,d=coV c∧wQ0 c
theorem nB3 (v st:Int)(l:List Rb)(Y:l.length<1000000000000000)(D:smBs l=true):bW (pp G) H0 13 [shV v st l] CoreR:=by
 refine cY G fir13 Z7 (zE3 ..) λhlo=>?_;rw[rR2]
 unfold shV
 refine S0 ?_
 refine jE.func (cap:=[]) (args:=[_]) (mB1 G false v st l Y D _) ?_
 rintro _ h ⟨q,c,q2,k,cs,rfl,C,K,r,A,d,g⟩
 obtain ⟨n,m,rfl,b1,X,t,hm⟩:∃ n m,q2=some ⟨n,0,none⟩∧h.lo≤n∧n<h.next∧cells h n=some (cs,eDf,m)∧((m=true∧k=UC)∨(m=false∧k=5)):=by
  rcases r.hat with ⟨_,h0,_⟩|p
  ·omega
  ·exact p
 have f:=A n ⟨0,none,rfl⟩
 have u:=g.lo
 have E:=g.next
 push_cast(disch:=first|omega|(apply id;push_cast;try omega)) at f u E K
 have c0:cells h 1=some ([.int .i64 v,.int .i64 st,Rw false erb l.length (rbCs l)],24,false):=g.cellsE (by rw[kG _ _ (by simp only[jB,uU];omega)];exact qM _ _ _ _ (by rw[uU])) (by simp only[jB,uU];omega) id
 have c1:cells h 2=some (coZ,tCo,false):=g.cellsE (qM _ _ _ _ (by simp only[jB,uU])) (by simp only[jB,uU];omega) id
 have s:=r.hlen
 have hsh0:defL l=shD l false:=by unfold shD;simp
 rw[hsh0] at d
 clear g r A
 refine S0 ?_
 refine uD1 G v l false D C K f.1 t hm s d u (λi=>Nat.blt i 3) (λi hi=>qT2 Z0) (λb y=>qV2 (by have:=K b y;omega)) (qV2 (by have:=f.1;omega)) ?_
 intro co e hco1 hco2 hco3
 have V:cells (bA (λi=>Nat.blt i 3) h) 1=_:=(cF h Z1).trans c0
 have o:cells (bA (λi=>Nat.blt i 3) h) 2=_:=(cF h Z1).trans c1
 have a:(bA (λi=>Nat.blt i 3) h).lo=1:=u
 have hn3:3≤(bA (λi=>Nat.blt i 3) h).next:=by show 3≤h.next;omega
 generalize bA (λi=>Nat.blt i 3) h=p at *
 clear C K t hm d s c0 c1 u b1 X f E
 unfold coZ at o
 by_cases he:e=0
 ·subst he
  refine S2 o a ?_
  rw[eG0]
  refine S2 o a ?_
  exact ⟨_,⟨co,rfl,hco3 rfl⟩,.id (zB1 _ Z0 _)⟩
 ·refine S4 o a he V ?_
  obtain ⟨w,B⟩:∃ w,w=(p.add (O [.slice none 0 0,.int .i64 0,.slice none 0 0,.int .i64 0] 28 false)).put p.next (O (coC co) 28 false):=⟨_,rfl⟩
  have g0:jC p w (λ_=>False):=by rw[B];exact (jC.add _ _ _).put' _ _ (Z3 _)
  have d0:=g0.cellsE V Z0 id
  have J:=g0.cellsE o Z0 id
  have P:cells w p.next=some (coC co,28,false):=by rw[B];exact jX _ _ _ _
  have M:w.lo=1:=by rw[g0.lo,a]
  have hn2:w.next=p.next+1:=by rw[B];show (p.add _).next=_;rw[jB]
  rw[← B]
  clear B V o a g0
  generalize p.next=vi at *
  clear p
  refine jE.func (cap:=[]) (args:=[_]) (mB1 G false v st l Y D w) ?_
  rintro _ h ⟨q,c,q2,k,cs,rfl,C,K,r,A,d,g⟩
  obtain ⟨n,m,rfl,b1,X,t,hm⟩:∃ n m,q2=some ⟨n,0,none⟩∧h.lo≤n∧n<h.next∧cells h n=some (cs,eDf,m)∧((m=true∧k=UC)∨(m=false∧k=5)):=by
   rcases r.hat with ⟨_,h0,_⟩|p
   ·omega
   ·exact p
  have f:=A n ⟨0,none,rfl⟩
  have s:=r.hlen
  have hco:=r.hone
  have d0:=g.cellsE d0 Z0 id
  have J:=g.cellsE J Z0 id
  have P:=g.cellsE P Z0 id
  have u:h.lo=1:=by rw[g.lo,M]
  have E:=g.next
  clear g r A M
  rw[← wrD_0] at d
  have L:¬ h.next=n:=Z0
  have Z:∀ b,blk q b→¬ b=h.next:=λb y=>by have:=(qY.lt C y).2;omega
  have N:¬ vi=n:=Z0
  have I:∀ b,blk q b→3≤b∧¬ b=vi:=λb y=>by have:=K b y;omega
  refine S0 ?_
  refine WD.loop4 (q:=qq) (jV G) Z7 (K13 G l v e co vi h.next n c k m q) ?_ _ _ (K13.mk 0 0 _ cs rfl (Nat.zero_le _) (by unfold coZ;exact (tH1 J)) ?_ tH ?_ ?_ s hco d (tH1 u) tH)
  ·have F:∃ bp,bp=h.next:=⟨_,rfl⟩
   obtain ⟨bp,F⟩:=F
   have hvp:vi<bp:=Z0
   have hb23:vi<n:=Z0
   have hqb:¬ blk q n:=f.2
   rw[← F] at L Z ⊢
   clear F d0 J P s hco d t b1 X u E C f K h cs
   intro μ s1 hI
   cases hI with|mk i iv h cs hiv hi J P c2 C t hl p d z M=>
   subst hiv
   rw[gO1]
   by_cases hil:(i:Int)<5
   ·have hile:i*9+1+8≤5*9:=Z0
    have T:=nI2 l i (j:=i) Z0
    rw[if_neg (Nat.lt_irrefl i)] at T
    have hb8:((cs.drop (i*9+1)).take 8).length=8:=by rw[List.length_take,List.length_drop,hl];omega
    have hb1:((cs.drop (i*9+1)).take 8).all one=true:=List.all_eq_true.2 λx hx=>List.all_eq_true.1 p x (List.mem_of_mem_drop (List.mem_of_mem_take hx))
    have H:=rowQ2 hb8 hb1
    have hz8:=λw=>((d w).drop (i*9+1)).take 8
    rw[(cQ0 T).2] at hz8
    have hz:=λw=>(((d w).take (i*9+1)).app (kA3 G w 1 (hz8 w))).app ((d w).drop (i*9+1+8))
    rw[show i*9+1+8=i*9+9 by omega] at hz
    rw[jW2 _ T,nH2 l Z0] at hz
    unfold gU1 at H
    push_cast(disch:=first|omega|(apply id;push_cast;try omega))[hil,c2,t,hl,z,Z4,hile,↓H]
    have hnv:¬ n=vi:=λe=>N e.symm
    have hnb':¬ n=bp:=λe=>L e.symm
    have hb2':¬ (2:Nat)=n:=Z0
    refine ⟨_,Z0,K13.mk (i+1) _ _ (cs.take (i*9+1)++wrC ((cs.drop (i*9+1)).take 8)++cs.drop (i*9+9)) Z2 Z0 ?_ ?_ ?_ ?_ ?_ ?_ ?_ hz ?_ ?_⟩
    iterate 3 exact (by first|assumption|(push_cast(disch:=first|omega|(apply id;push_cast;try omega))[J,hb2',P,N,hnv,c2,L,hnb'];try omega))
    ·exact C.grew (S:=λk=>k=n) (jC.put _ _ _ λ_=>rfl) (λb y e=>hqb (by rw[← e];exact y))
    ·rw[show i*9+9=i*9+1+8 by omega];exact jX _ _ _ _
    ·simp only[List.length_append,List.length_take,List.length_drop,hl,show (wrC ((cs.drop (i*9+1)).take 8)).length=8 from rfl];omega
    ·simp only[List.all_append,Z5]
     refine ⟨⟨?_,rfl⟩,?_⟩
     ·rw[List.all_eq_true] at p ⊢;exact λv hv=>p v (List.mem_of_mem_take hv)
     ·rw[List.all_eq_true] at p ⊢;exact λv hv=>p v (List.mem_of_mem_drop hv)
    iterate 2 exact (tH1 z)
   ·obtain rfl:i=5:=Z0
    rw[wrD_5] at d
    refine S2 c2 z ?_
    rw[gN1]
    refine S2 c2 z ?_
    refine uD1 G v l true D C (λb y=>(I b y).1) Z0 t hm hl d z (λi=>Nat.blt i 3 || Nat.beq i vi) (λi hi=>by rw[qT2 Z0];rfl) (λb y=>by rw[qV2 (by have:=(I b y).1;omega),nC2 (I b y).2];rfl) (by rw[qV2 Z0,nC2 (λe=>N e.symm)];rfl) ?_
    intro co' e' hco1' hco2' R
    have o:cells (bA (λi=>Nat.blt i 3 || Nat.beq i vi) h) 2=_:=(cF h (by rw[qT2 Z0];rfl)).trans J
    have cv':cells (bA (λi=>Nat.blt i 3 || Nat.beq i vi) h) vi=_:=(cF h (by simp)).trans P
    have a:(bA (λi=>Nat.blt i 3 || Nat.beq i vi) h).lo=1:=z
    generalize bA (λi=>Nat.blt i 3 || Nat.beq i vi) h=h2 at *
    unfold coZ at o
    refine S2 cv' a ?_
    rw[eG0]
    have hv2:¬ vi=2:=Z0
    have hv3:¬ (2:Nat)=vi:=Z0
    by_cases he':e'=0
    ·subst he'
     refine S4 o a hv2 hv3 ?_
     exact ⟨_,⟨co',rfl,R rfl⟩,.id (zB1 _ Z0 _)⟩
    ·push_cast(disch:=first|omega|(apply id;push_cast;try omega))[he',o,a,hv2,hv3,↓rowI3,↓yO3,↓coB]
     exact ⟨_,⟨noC,rfl,gM2⟩,gZ3 G _ _⟩
  ·exact (tH1 P)
  ·exact (C.grew (jC.add h _ (λ_=>False)) λ_ _ h=>h).grew (S:=λk=>k=h.next) (jC.put _ _ _ λ_=>rfl) (λb y e=>Z b y e)
  ·exact (tH1 t)
end
end Go.Proofs.YtklapbhlhjdijaaGreatDoor
namespace Go.Proofs.YtklapbhlhjdijaaGreatDoor
open _root_.Go.Proofs.Tryz (prog)
open Go Go.RowKit Go.Ev Go.Dv
noncomputable section
attribute [local push_cast] eq_self iff_self
set_option maxRecDepth 100000
theorem in_wf {a:Int}(h:(Lit.int .i64 a).wf=true):In a:=by
 simp only[Lit.wf,Z5,decide_eq_true_eq] at h
 exact h
section
variable {w:Zw} {H:Type} {enc:Zt×Z6→H}
theorem mC0:prog.underlying eI=some (.int .i64):=Z7
theorem kE3:prog.underlying 25=some (.slice eI):=Z7
theorem kD3:prog.underlying 67=some (.slice era):=Z7
theorem u_rbs:prog.underlying 22=some (.slice erb):=Z7
theorem f_raw:fieldsB prog era [(eI,0),(eI,1),(67,2)]=true:=Z7
theorem f_rb:fieldsB prog erb [(eI,0),(eI,1),(eI,2),(67,3),(22,4)]=true:=Z7
theorem mY0:∀ l:List Ra,l.flatMap raC=raCs l
 | []=>rfl
 | x :: l=>by rw[List.flatMap_cons,mY0 l,raCs]
theorem mW0:∀ l:List Rb,l.flatMap rbC=rbCs l
 | []=>rfl
 | x :: l=>by rw[List.flatMap_cons,mW0 l,rbCs]
theorem uI1:∀ l:List Int,(l.flatMap λi=>[Value.int .i64 i])=ivs l
 | []=>rfl
 | x :: l=>by rw[List.flatMap_cons,uI1 l];rfl
theorem iC1:∀ {l:List Ra},(∀ x∈l,smR x=true)→smRs l=true
 | [],_=>rfl
 | x :: l,h=>by rw[smRs,h x (by simp),iC1 λy a=>h y (by simp[a])];rfl
theorem iJ1:∀ {l:List Rb},(∀ x∈l,smB x=true)→smBs l=true
 | [],_=>rfl
 | x :: l,h=>by rw[smBs,h x (by simp),iJ1 λy a=>h y (by simp[a])];rfl
theorem open_ivs {fuel:Nat}{cs:List Z6}{x:DataW H×List MemPlace}(h:DataW.trod enc prog w 0 (λ_=>true) true fuel 25 cs=some x)(f:(x.1.weights prog 25).all (·≤reachBytes)=true) :
  ∃ l:List Int,Go.Dv.Op prog 1 LL w [ivV l] cs∧(∀ a∈l,In a)∧l.length<1000000000000000:=by
 obtain ⟨l,b,d,g⟩:=open_slice (n:=1) (L:=LL) kE3 (size:=1) Z7 Z7 Z0 (of_decide_eq_true Z7) (λi=>[Value.int .i64 i]) In h f λk c y _ e _=>by
  obtain ⟨m,rfl,b,d⟩:=jM0 (n:=1) (L:=LL) mC0 e
  exact ⟨m,b,in_wf d⟩
 rw[uI1] at b
 exact ⟨l,b,d,g⟩
theorem gK2:∀ (fuel:Nat) {cs:List Z6} {x:DataW H×List MemPlace},DataW.trod enc prog w 0 (λ_=>true) true fuel 67 cs=some x→(x.1.weights prog 67).all (·≤reachBytes)=true→
  ∃ l:List Ra,Go.Dv.Op prog 1 LL w [rasV l] cs∧smRs l=true∧l.length<1000000000000000:=by
 intro fuel
 induction fuel using Nat.strongRecOn with
 | ind fuel B=>
 intro cs x h I
 obtain ⟨l,o,A,u⟩:=open_slice (n:=1) (L:=LL) kD3 (size:=3) Z7 Z7 Z0 (of_decide_eq_true Z7) raC (λr=>smR r=true) h I λk c y T s f=>by
  obtain ⟨q,t,g,e⟩:=wW0 f_raw s f
  rw[show prog.cellsOf era=3 by kernel_rfl] at g
  match c,g with
  | [a,b,d],_=>
   obtain ⟨R,j,_⟩:=e 0 _ _ rfl
   obtain ⟨N,i,_⟩:=e 1 _ _ rfl
   obtain ⟨M,m,J⟩:=e 2 _ _ rfl
   rw[show prog.cellsOf eI=1 by kernel_rfl] at j i
   rw[show prog.cellsOf 67=1 by kernel_rfl] at m
   obtain ⟨D,e0,C,_⟩:=jM0 (n:=1) (L:=LL) mC0 j
   obtain ⟨K,P,z,_⟩:=jM0 (n:=1) (L:=LL) mC0 i
   obtain ⟨F,v,p,E⟩:=B q Z0 m J
   refine ⟨.mk D K F,?_,?_⟩
   ·exact (C.append z).append v
   ·simp only[smR,p,Bool.and_true,decide_eq_true_eq];exact E
 rw[mY0] at o
 exact ⟨l,o,iC1 A,u⟩
theorem gW1 (fuel:Nat)(M:∀ k,k<fuel→∀ {cs:List Z6} {x:DataW H×List MemPlace},DataW.trod enc prog w 0 (λ_=>true) true k 22 cs=some x→(x.1.weights prog 22).all (·≤reachBytes)=true→
   ∃ l:List Rb,Go.Dv.Op prog 1 LL w [rbsV l] cs∧smBs l=true∧l.length<1000000000000000)
  {c:List Z6} {y:DataW H×List MemPlace} (u:DataW.trod enc prog w 0 (λ_=>true) true fuel erb c=some y) (g:(y.1.weights prog erb).all (·≤reachBytes)=true) :
  ∃ r:Rb,Go.Dv.Op prog 1 LL w (rbC r) c∧smB r=true:=by
 obtain ⟨j,z,m,h⟩:=wW0 f_rb u g
 rw[show prog.cellsOf erb=5 by kernel_rfl] at m
 match c,m with
 | [a,b,d,e,f],_=>
  obtain ⟨y0,p,_⟩:=h 0 _ _ rfl
  obtain ⟨y1,o,_⟩:=h 1 _ _ rfl
  obtain ⟨Z,q,_⟩:=h 2 _ _ rfl
  obtain ⟨y3,s,N⟩:=h 3 _ _ rfl
  obtain ⟨Y,i,J⟩:=h 4 _ _ rfl
  rw[show prog.cellsOf eI=1 by kernel_rfl] at p o q
  rw[show prog.cellsOf 67=1 by kernel_rfl] at s
  rw[show prog.cellsOf 22=1 by kernel_rfl] at i
  obtain ⟨T,e0,P,_⟩:=jM0 (n:=1) (L:=LL) mC0 p
  obtain ⟨V,e1,K,_⟩:=jM0 (n:=1) (L:=LL) mC0 o
  obtain ⟨F,X,C,_⟩:=jM0 (n:=1) (L:=LL) mC0 q
  obtain ⟨A,t,B,v⟩:=gK2 j s N
  obtain ⟨E,D,I,R⟩:=M j Z0 i J
  refine ⟨.mk T V F A E,?_,?_⟩
  ·exact (((P.append K).append C).append t).append D
  ·simp only[smB,B,I,Bool.and_true,Z5,decide_eq_true_eq];exact ⟨R,v⟩
theorem gJ2:∀ (fuel:Nat) {cs:List Z6} {x:DataW H×List MemPlace},DataW.trod enc prog w 0 (λ_=>true) true fuel 22 cs=some x→(x.1.weights prog 22).all (·≤reachBytes)=true→
  ∃ l:List Rb,Go.Dv.Op prog 1 LL w [rbsV l] cs∧smBs l=true∧l.length<1000000000000000:=by
 intro fuel
 induction fuel using Nat.strongRecOn with
 | ind fuel j=>
 intro cs x h m
 obtain ⟨l,b,i,g⟩:=open_slice (n:=1) (L:=LL) u_rbs (size:=5) Z7 Z7 Z0 (of_decide_eq_true Z7) rbC (λr=>smB r=true) h m λk c y o e a=>
  gW1 k (λd f=>j d Z0) e a
 rw[mW0] at b
 exact ⟨l,b,iJ1 i,g⟩
end
section
variable {w:Zw} {H:Type} {enc:Zt×Z6→H}
end
end
end Go.Proofs.YtklapbhlhjdijaaGreatDoor
