/-
  A part of the proof: conditions over an abstract memory,and that they are enough for what the model's calls do. No condition of its own.
-/
import Derived.Test.YtklapbhlhjdijaaGreatDoorEvb
import Derived.Test.YtklapbhlhjdijaaGreatDoorEva
import Derived.LaidHandle
import Derived.ChangeArms
import Derived.SizedLaws
import Derived.ChangeSlices
set_option linter.unusedSimpArgs false
set_option linter.unusedVariables false
namespace Go.Dv
open Go Go.RowKit Go.Ev
noncomputable section
def Rw (f:Zb)(e n:Nat)(cs:List Z6):Z6:=.func (.yield 0) ⟨[.int .i64 (Int.ofNat n),.int .i64 (Int.ofNat e),.bool f]⟩ ⟨cs⟩
def Rpt (off:Nat)(cs:List Z6):Z6:=.func (.yield 0) ⟨[.int .i64 (Int.ofNat off)]⟩ ⟨cs⟩
structure Gh where
 P:Z9
 H0:jA
 δ:Nat→Nat
 F:Nat→Prop
def ren (h:Nat→Nat)(a:Addr):Addr:=⟨h a.block,a.off,a.spot⟩
theorem fX0 (h:Nat→Nat)(a:Addr)(n:Nat):ren h (a.add n)=(ren h a).add n:=by
 unfold ren Addr.add
 split<;>rfl
def eX1 (P:Z9)(h:jA)(a:Z8 Addr)(n c size e:Nat):Prop:=
 (c<UC∧n≤c)∨∃ b off full,a=some ⟨b,off,none⟩∧cells h b=some (full,e,true)∧UC≤c∧off=(c-UC)*size∧off+n*size≤full.length∧n<U∧szT P e=some size
def Fz (g:Gh)(h:jA)(a:Z8 Addr)(vs:List Z6):Prop:=Sl h a vs∧∀ b,blk a b→b<h.next∧g.F b
def RowP (g:Gh)(h:jA)(N l:Nat)(d vs:List Z6)(v:Z6):Prop:=match d with
 | []=>vs=[]∧l<N∧v=.func (.yield (g.δ l)) ⟨[]⟩ ⟨[]⟩
 | [.int _ (.ofNat off)]=>∃ b o,v=.pointer (some ⟨b,o+off,none⟩)∧Fz g h (some ⟨b,o,none⟩) vs∧off<vs.length
 | [.int _ (.ofNat n),.int _ (.ofNat e),.bool f]=>∃ a c size,v=.slice a n c∧Fz g h a vs∧(f=true→c=n)∧0<size∧vs.length=n*size∧eX1 g.P h a n c size e
 | _=>False
mutual
def RV (g:Gh)(h:jA)(N:Nat):Z6→Z6→Prop
 | .pointer a,v=>fscP N a=true∧v=.pointer (a.map (ren g.δ))
 | .slice a n c,v=>fscP N a=true∧v=.slice (a.map (ren g.δ)) n c
 | .map r,v=>(∀ i,r=some i→i<N)∧v=.map (r.map g.δ)
 | .chan _,_=>False
 | .func (.func f) ⟨fs⟩ ⟨cs⟩,v=>∃ us vs,v=.func (.func f) ⟨us⟩ ⟨vs⟩∧RVL g h N fs us∧RVL g h N cs vs
 | .func (.yield l) ⟨fs⟩ ⟨cs⟩,v=>∃ vs,RVL g h N cs vs∧RowP g h N l fs vs v
 | .func _ _ _,_=>False
 | .iface t d,v=>∃ u,v=.iface t u∧RV g h N d u
 | .agg ⟨ds⟩,v=>∃ vs,v=.agg ⟨vs⟩∧RVL g h N ds vs
 | .tuple ⟨ds⟩,v=>∃ vs,v=.tuple ⟨vs⟩∧RVL g h N ds vs
 | .bool b,v=>v=.bool b
 | .int k n,v=>v=.int k n
 | .float k n,v=>v=.float k n
 | .complex k a b,v=>v=.complex k a b
 | .string s,v=>v=.string s
 | .nilFunc,v=>v=.nilFunc
 | .nilIface,v=>v=.nilIface
def RVL (g:Gh)(h:jA)(N:Nat):List Z6→List Z6→Prop
 | [],l=>l=[]
 | d :: ds,l=>∃ v vs,l=v :: vs∧RV g h N d v∧RVL g h N ds vs
end
structure Ext0 (g:Gh)(h:jA)(N:Nat)(g':Gh)(h':jA)(N':Nat):Prop where
 P:g'.P=g.P
 nn:N≤N'
 δ:∀ i,i<N→g'.δ i=g.δ i
 F:∀ b,g.F b→g'.F b
 next:h.next≤h'.next
 lo:h'.lo=h.lo
 get:∀ b,g.F b→b<h.next→h'.get b=h.get b
theorem eX1.ext {g g':Gh}{h d:jA}{N m:Nat}(x:Ext0 g h N g' d m){a:Z8 Addr}{n c size e:Nat}{P:Z9}(j:∀ b,blk a b→b<h.next∧g.F b)(p:eX1 P h a n c size e):eX1 P d a n c size e:=by
 rcases p with f|⟨b,off,full,rfl,o,k⟩
 ·exact .inl f
 ·obtain ⟨l,i⟩:=j b ⟨off,none,rfl⟩
  exact .inr ⟨b,off,full,rfl,(qV (x.get b i l)).trans o,k⟩
theorem Fz.ext {g g':Gh}{h e:jA}{N k:Nat}(x:Ext0 g h N g' e k){a:Z8 Addr}{vs:List Z6}(m:Fz g h a vs):Fz g' e a vs:=by
 obtain ⟨i,f⟩:=m
 refine ⟨i.frame x.lo λb o l _=>?_,λb j=>?_⟩
 ·obtain ⟨c,d⟩:=f b ⟨o,none,l⟩
  exact qV (x.get b d c)
 ·obtain ⟨c,d⟩:=f b j
  exact ⟨Nat.lt_of_lt_of_le c x.next,x.F b d⟩
theorem RowP.ext {g g':Gh}{h m:jA}{N j:Nat}(x:Ext0 g h N g' m j){l:Nat}{k vs:List Z6}{v:Z6}(e:RowP g h N l k vs v):RowP g' m j l k vs v:=by
 unfold RowP at e
 split at e
 ·obtain ⟨f,d,rfl⟩:=e
  exact ⟨f,Nat.lt_of_lt_of_le d x.nn,by rw[x.δ l d]⟩
 ·obtain ⟨b,o,f,d,i⟩:=e
  exact ⟨b,o,f,d.ext x,i⟩
 ·obtain ⟨a,c,size,f,d,i,p,n,q⟩:=e
  exact ⟨a,c,size,f,d.ext x,i,p,n,by rw[x.P];exact q.ext x d.2⟩
 ·exact e.elim
theorem dE {g g':Gh}{N:Nat}(h:∀ i,i<N→g'.δ i=g.δ i){a:Z8 Addr}(b:fscP N a=true):a.map (ren g'.δ)=a.map (ren g.δ):=by
 cases a with
 | none=>rfl
 | some a=>
  have c:scA N a=true:=(uT N (some a)).symm.trans b
  simp only[scA,Nat.blt_eq] at c
  simp only[Option.map_some,ren,h a.block c]
theorem nQ0 {n m:Nat}(c:n≤m){a:Z8 Addr}(h:fscP n a=true):fscP m a=true:=by
 rw[uT] at h ⊢
 exact kN c _ h
mutual
theorem RV.ext {g g':Gh}{h o:jA}{N m:Nat}(x:Ext0 g h N g' o m):∀ (d v:Z6),RV g h N d v→RV g' o m d v
 | .pointer a,v,hv=>by
  simp only[RV] at hv ⊢
  exact ⟨nQ0 x.nn hv.1,by rw[dE x.δ hv.1];exact hv.2⟩
 | .slice a n c,v,hv=>by
  simp only[RV] at hv ⊢
  exact ⟨nQ0 x.nn hv.1,by rw[dE x.δ hv.1];exact hv.2⟩
 | .map r,v,hv=>by
  simp only[RV] at hv ⊢
  refine ⟨λi hi=>Nat.lt_of_lt_of_le (hv.1 i hi) x.nn,?_⟩
  cases r with
  | none=>exact hv.2
  | some i=>rw[hv.2,Option.map_some,Option.map_some,x.δ i (hv.1 i rfl)]
 | .chan _,v,hv=>by simp only[RV] at hv
 | .func (.func f) ⟨fs⟩ ⟨cs⟩,v,hv=>by
  simp only[RV] at hv ⊢
  obtain ⟨us,vs,e,j,p⟩:=hv
  exact ⟨us,vs,e,RVL.ext x fs us j,RVL.ext x cs vs p⟩
 | .func (.yield l) ⟨fs⟩ ⟨cs⟩,v,hv=>by
  simp only[RV] at hv ⊢
  obtain ⟨vs,e,j⟩:=hv
  exact ⟨vs,RVL.ext x cs vs e,j.ext x⟩
 | .func (.method _) _ _,v,hv=>by simp only[RV] at hv
 | .func (.methodOf _ _) _ _,v,hv=>by simp only[RV] at hv
 | .func (.via _ _ _ _) _ _,v,hv=>by simp only[RV] at hv
 | .iface t d,v,hv=>by
  simp only[RV] at hv ⊢
  obtain ⟨u,e,j⟩:=hv
  exact ⟨u,e,RV.ext x d u j⟩
 | .agg ⟨ds⟩,v,hv=>by
  simp only[RV] at hv ⊢
  obtain ⟨vs,e,j⟩:=hv
  exact ⟨vs,e,RVL.ext x ds vs j⟩
 | .tuple ⟨ds⟩,v,hv=>by
  simp only[RV] at hv ⊢
  obtain ⟨vs,e,j⟩:=hv
  exact ⟨vs,e,RVL.ext x ds vs j⟩
 | .bool b,v,hv=>by simp only[RV] at hv ⊢;exact hv
 | .int k n,v,hv=>by simp only[RV] at hv ⊢;exact hv
 | .float k n,v,hv=>by simp only[RV] at hv ⊢;exact hv
 | .complex k a b,v,hv=>by simp only[RV] at hv ⊢;exact hv
 | .string s,v,hv=>by simp only[RV] at hv ⊢;exact hv
 | .nilFunc,v,hv=>by simp only[RV] at hv ⊢;exact hv
 | .nilIface,v,hv=>by simp only[RV] at hv ⊢;exact hv
theorem RVL.ext {g g':Gh}{h c:jA}{N a:Nat}(x:Ext0 g h N g' c a):∀ (ds vs:List Z6),RVL g h N ds vs→RVL g' c a ds vs
 | [],l,hv=>by simp only[RVL] at hv ⊢;exact hv
 | d :: ds,l,hv=>by
  simp only[RVL] at hv ⊢
  obtain ⟨v,vs,b,f,e⟩:=hv
  exact ⟨v,vs,b,RV.ext x d v f,RVL.ext x ds vs e⟩
end
variable {g:Gh} {h:jA} {N:Nat}
theorem RVL.len:∀ {ds vs:List Z6},RVL g h N ds vs→vs.length=ds.length
 | [],l,hv=>by simp only[RVL] at hv;subst hv;rfl
 | d :: ds,l,hv=>by
  simp only[RVL] at hv
  obtain ⟨v,vs,rfl,_,a⟩:=hv
  simp[RVL.len a]
theorem RVL.nil:RVL g h N [] []:=by simp only[RVL]
theorem RVL.cons {d v:Z6}{ds vs:List Z6}(a:RV g h N d v)(c:RVL g h N ds vs):RVL g h N (d :: ds) (v :: vs):=by
 simp only[RVL];exact ⟨v,vs,rfl,a,c⟩
theorem RVL.one {d v:Z6}(a:RV g h N d v):RVL g h N [d] [v]:=RVL.cons a RVL.nil
theorem RVL.inv {d v:Z6}{ds vs:List Z6}(a:RVL g h N (d :: ds) (v :: vs)):RV g h N d v∧RVL g h N ds vs:=by
 simp only[RVL] at a
 obtain ⟨_,_,e,c,b⟩:=a
 cases e
 exact ⟨c,b⟩
theorem RVL.get:∀ {ds vs:List Z6},RVL g h N ds vs→∀ {i:Nat} {d:Z6},ds[i]?=some d→∃ v,vs[i]?=some v∧RV g h N d v
 | [],l,hv,i,d,hd=>by simp at hd
 | x :: ds,l,hv,i,d,hd=>by
  simp only[RVL] at hv
  obtain ⟨v,vs,rfl,e,c⟩:=hv
  cases i with
  | zero=>simp at hd;subst hd;exact ⟨v,by simp,e⟩
  | succ i=>simp at hd;obtain ⟨u,b,a⟩:=c.get hd;exact ⟨u,by simp[b],a⟩
theorem RVL.of:∀ {ds vs:List Z6},vs.length=ds.length→(∀ (i:Nat) (d v:Z6),ds[i]?=some d→vs[i]?=some v→RV g h N d v)→RVL g h N ds vs
 | [],[],_,_=>RVL.nil
 | [],v :: vs,hl,_=>by simp at hl
 | d :: ds,[],hl,_=>by simp at hl
 | d :: ds,v :: vs,hl,ha=>RVL.cons (ha 0 d v rfl rfl) (RVL.of (by simpa using hl) λi d v c a=>ha (i+1) d v (by simpa using c) (by simpa using a))
theorem RVL.app:∀ {ds vs a us:List Z6},RVL g h N ds vs→RVL g h N a us→RVL g h N (ds++a) (vs++us)
 | [],l,a,us,hv,hu=>by simp only[RVL] at hv;subst hv;exact hu
 | x :: ds,l,a,us,hv,hu=>by
  simp only[RVL] at hv
  obtain ⟨v,vs,rfl,b,c⟩:=hv
  exact RVL.cons b (c.app hu)
theorem RVL.take:∀ {ds vs:List Z6},RVL g h N ds vs→∀ n,RVL g h N (ds.take n) (vs.take n)
 | [],l,hv,n=>by simp only[RVL] at hv;subst hv;simp;exact RVL.nil
 | x :: ds,l,hv,n=>by
  simp only[RVL] at hv
  obtain ⟨v,vs,rfl,c,a⟩:=hv
  cases n with
  | zero=>simp;exact RVL.nil
  | succ n=>simp;exact RVL.cons c (a.take n)
theorem RVL.drop:∀ {ds vs:List Z6},RVL g h N ds vs→∀ n,RVL g h N (ds.drop n) (vs.drop n)
 | [],l,hv,n=>by simp only[RVL] at hv;subst hv;simp;exact RVL.nil
 | x :: ds,l,hv,n=>by
  simp only[RVL] at hv
  obtain ⟨v,vs,rfl,c,a⟩:=hv
  cases n with
  | zero=>simp;exact RVL.cons c a
  | succ n=>simp;exact a.drop n
theorem RVL.setFrom {ds vs c us:List Z6}(a:RVL g h N ds vs)(b:RVL g h N c us)(off:Nat):RVL g h N (setFrom ds off c) (setFrom vs off us):=by
 unfold Ev.setFrom
 rw[b.len]
 exact ((a.take off).app b).app (a.drop _)
mutual
theorem RV.flat:∀ (d v:Z6),flat d=true→RV g h N d v→v=d
 | .pointer none,v,_,hv=>by simp only[RV] at hv;exact hv.2
 | .pointer (some _),v,hf,_=>by simp[Ev.flat] at hf
 | .slice none n c,v,_,hv=>by simp only[RV] at hv;exact hv.2
 | .slice (some _) n c,v,hf,hv=>by simp[Ev.flat] at hf
 | .map none,v,_,hv=>by simp only[RV] at hv;exact hv.2
 | .map (some _),v,hf,hv=>by simp[Ev.flat] at hf
 | .chan _,v,hf,hv=>by simp[Ev.flat] at hf
 | .func (.func f) ⟨fs⟩ ⟨cs⟩,v,hf,hv=>by
  simp only[RV] at hv
  simp only[Ev.flat,Z5] at hf
  obtain ⟨us,vs,e,i,j⟩:=hv
  rw[RVL.flat fs us hf.1 i,RVL.flat cs vs hf.2 j] at e
  exact e
 | .func (.yield l) ⟨fs⟩ ⟨cs⟩,v,hf,hv=>by simp[Ev.flat] at hf
 | .func (.method _) _ _,v,hf,hv=>by simp[Ev.flat] at hf
 | .func (.methodOf _ _) _ _,v,hf,hv=>by simp[Ev.flat] at hf
 | .func (.via _ _ _ _) _ _,v,hf,hv=>by simp[Ev.flat] at hf
 | .iface t d,v,hf,hv=>by
  simp only[RV] at hv
  obtain ⟨u,e,i⟩:=hv
  simp only[Ev.flat] at hf
  rw[RV.flat d u hf i] at e
  exact e
 | .agg ⟨ds⟩,v,hf,hv=>by
  simp only[RV] at hv
  obtain ⟨vs,e,i⟩:=hv
  simp only[Ev.flat] at hf
  rw[RVL.flat ds vs hf i] at e
  exact e
 | .tuple ⟨ds⟩,v,hf,hv=>by
  simp only[RV] at hv
  obtain ⟨vs,e,i⟩:=hv
  simp only[Ev.flat] at hf
  rw[RVL.flat ds vs hf i] at e
  exact e
 | .bool b,v,_,hv=>by simp only[RV] at hv;exact hv
 | .int k n,v,_,hv=>by simp only[RV] at hv;exact hv
 | .float k n,v,hf,hv=>by simp[Ev.flat] at hf
 | .complex k a b,v,_,hv=>by simp only[RV] at hv;exact hv
 | .string s,v,_,hv=>by simp only[RV] at hv;exact hv
 | .nilFunc,v,_,hv=>by simp only[RV] at hv;exact hv
 | .nilIface,v,_,hv=>by simp only[RV] at hv;exact hv
theorem RVL.flat:∀ (ds vs:List Z6),qB ds=true→RVL g h N ds vs→vs=ds
 | [],l,_,hv=>by simp only[RVL] at hv;exact hv
 | d :: ds,l,hf,hv=>by
  simp only[RVL] at hv
  obtain ⟨v,vs,a,b,c⟩:=hv
  simp only[qB,Z5] at hf
  rw[RV.flat d v hf.1 b,RVL.flat ds vs hf.2 c] at a
  exact a
end
mutual
theorem RV.of_flat:∀ (d:Z6),Ev.flat d=true→RV g h N d d
 | .pointer none,_=>by simp only[RV];exact ⟨by rw[uT];rfl,rfl⟩
 | .pointer (some _),hf=>by simp[Ev.flat] at hf
 | .slice none n c,_=>by simp only[RV];exact ⟨by rw[uT];rfl,rfl⟩
 | .slice (some _) n c,hf=>by simp[Ev.flat] at hf
 | .map none,_=>by simp only[RV];exact ⟨λi hi=>(by cases hi),rfl⟩
 | .map (some _),hf=>by simp[Ev.flat] at hf
 | .chan _,hf=>by simp[Ev.flat] at hf
 | .func (.func f) ⟨fs⟩ ⟨cs⟩,hf=>by
  simp only[RV]
  simp only[Ev.flat,Z5] at hf
  exact ⟨fs,cs,rfl,RVL.of_flat fs hf.1,RVL.of_flat cs hf.2⟩
 | .func (.yield l) ⟨fs⟩ ⟨cs⟩,hf=>by simp[Ev.flat] at hf
 | .func (.method _) _ _,hf=>by simp[Ev.flat] at hf
 | .func (.methodOf _ _) _ _,hf=>by simp[Ev.flat] at hf
 | .func (.via _ _ _ _) _ _,hf=>by simp[Ev.flat] at hf
 | .iface t d,hf=>by
  simp only[RV]
  simp only[Ev.flat] at hf
  exact ⟨d,rfl,RV.of_flat d hf⟩
 | .agg ⟨ds⟩,hf=>by
  simp only[RV]
  simp only[Ev.flat] at hf
  exact ⟨ds,rfl,RVL.of_flat ds hf⟩
 | .tuple ⟨ds⟩,hf=>by
  simp only[RV]
  simp only[Ev.flat] at hf
  exact ⟨ds,rfl,RVL.of_flat ds hf⟩
 | .bool b,_=>by simp only[RV]
 | .int k n,_=>by simp only[RV]
 | .float k n,hf=>by simp[Ev.flat] at hf
 | .complex k a b,_=>by simp only[RV]
 | .string s,_=>by simp only[RV]
 | .nilFunc,_=>by simp only[RV]
 | .nilIface,_=>by simp only[RV]
theorem RVL.of_flat:∀ (ds:List Z6),qB ds=true→RVL g h N ds ds
 | [],_=>RVL.nil
 | d :: ds,hf=>by
  simp only[qB,Z5] at hf
  exact RVL.cons (RV.of_flat d hf.1) (RVL.of_flat ds hf.2)
end
theorem wR1 {b:Nat→Nat}{n:Nat}(d:∀ i,i<N→b i<n){a:Z8 Addr}(c:fscP N a=true):fscP n (a.map (ren b))=true:=by
 cases a with
 | none=>exact c
 | some a=>
  rw[uT] at c ⊢
  simp only[Option.map_some,sc,scA,ren,Z5,Nat.blt_eq] at c ⊢
  exact d _ c
theorem RowP.sc (j:∀ i,i<N→g.δ i<h.next){l:Nat}{f vs:List Z6}{v:Z6}(d:RowP g h N l f vs v):sc h.next v=true:=by
 unfold RowP at d
 split at d
 ·obtain ⟨k,e,rfl⟩:=d
  simp[Ev.sc,scL,j l e]
 ·obtain ⟨b,o,rfl,e,m⟩:=d
  have:=(e.2 b ⟨o,none,rfl⟩).1
  simp[Ev.sc,scA,this]
 ·obtain ⟨a,c,size,rfl,e,_⟩:=d
  cases a with
  | none=>rfl
  | some a=>
   obtain ⟨b,o,s⟩:=a
   have:=(e.2 b ⟨o,s,rfl⟩).1
   simp[Ev.sc,scA,this]
 ·exact d.elim
mutual
theorem RV.sc (e:∀ i,i<N→g.δ i<h.next):∀ (d v:Z6),RV g h N d v→sc h.next v=true
 | .pointer a,v,hv=>by simp only[RV] at hv;rw[hv.2,← uT];exact wR1 e hv.1
 | .slice a n c,v,hv=>by
  simp only[RV] at hv
  have:=wR1 e hv.1
  rw[uT] at this
  rw[hv.2]
  cases a<;>exact this
 | .map none,v,hv=>by simp only[RV] at hv;rw[hv.2];rfl
 | .map (some i),v,hv=>by
  simp only[RV] at hv
  rw[hv.2]
  simp[Ev.sc,e i (hv.1 i rfl)]
 | .chan _,v,hv=>by simp only[RV] at hv
 | .func (.func f) ⟨fs⟩ ⟨cs⟩,v,hv=>by
  simp only[RV] at hv
  obtain ⟨us,vs,rfl,j,m⟩:=hv
  simp only[Ev.sc,Z5]
  exact ⟨RVL.sc e fs us j,RVL.sc e cs vs m⟩
 | .func (.yield l) ⟨fs⟩ ⟨cs⟩,v,hv=>by
  simp only[RV] at hv
  obtain ⟨vs,_,j⟩:=hv
  exact j.sc e
 | .func (.method _) _ _,v,hv=>by simp only[RV] at hv
 | .func (.methodOf _ _) _ _,v,hv=>by simp only[RV] at hv
 | .func (.via _ _ _ _) _ _,v,hv=>by simp only[RV] at hv
 | .iface t d,v,hv=>by
  simp only[RV] at hv
  obtain ⟨u,rfl,j⟩:=hv
  simp only[Ev.sc]
  exact RV.sc e d u j
 | .agg ⟨ds⟩,v,hv=>by
  simp only[RV] at hv
  obtain ⟨vs,rfl,j⟩:=hv
  simp only[Ev.sc]
  exact RVL.sc e ds vs j
 | .tuple ⟨ds⟩,v,hv=>by
  simp only[RV] at hv
  obtain ⟨vs,rfl,j⟩:=hv
  simp only[Ev.sc]
  exact RVL.sc e ds vs j
 | .bool b,v,hv=>by simp only[RV] at hv;rw[hv];rfl
 | .int k n,v,hv=>by simp only[RV] at hv;rw[hv];rfl
 | .float k n,v,hv=>by simp only[RV] at hv;rw[hv];rfl
 | .complex k a b,v,hv=>by simp only[RV] at hv;rw[hv];rfl
 | .string s,v,hv=>by simp only[RV] at hv;rw[hv];rfl
 | .nilFunc,v,hv=>by simp only[RV] at hv;rw[hv];rfl
 | .nilIface,v,hv=>by simp only[RV] at hv;rw[hv];rfl
theorem RVL.sc (a:∀ i,i<N→g.δ i<h.next):∀ (ds vs:List Z6),RVL g h N ds vs→scL h.next vs=true
 | [],l,hv=>by simp only[RVL] at hv;subst hv;rfl
 | d :: ds,l,hv=>by
  simp only[RVL] at hv
  obtain ⟨v,vs,rfl,b,c⟩:=hv
  simp only[scL,RV.sc a d v b,RVL.sc a ds vs c,Bool.and_self]
end
theorem RV.one {d v:Z6}(e:RV g h N d v):one v=one d:=by
 cases d with
 | func f j cs=>
  obtain ⟨j⟩:=j
  obtain ⟨cs⟩:=cs
  cases f with
  | func f=>simp only[RV] at e;obtain ⟨us,vs,rfl,_⟩:=e;rfl
  | yield l=>
   simp only[RV] at e
   obtain ⟨vs,_,i⟩:=e
   unfold RowP at i
   split at i
   ·obtain ⟨_,_,rfl⟩:=i;rfl
   ·obtain ⟨b,o,rfl,_⟩:=i;rfl
   ·obtain ⟨a,c,size,rfl,_⟩:=i;rfl
   ·exact i.elim
  | _=>simp only[RV] at e
 | agg ds=>obtain ⟨ds⟩:=ds;simp only[RV] at e;obtain ⟨vs,rfl,_⟩:=e;rfl
 | tuple ds=>obtain ⟨ds⟩:=ds;simp only[RV] at e;obtain ⟨vs,rfl,_⟩:=e;rfl
 | iface t d=>simp only[RV] at e;obtain ⟨u,rfl,_⟩:=e;rfl
 | chan _=>simp only[RV] at e
 | pointer a=>simp only[RV] at e;rw[e.2];rfl
 | slice a n c=>simp only[RV] at e;rw[e.2];rfl
 | map a=>simp only[RV] at e;rw[e.2];rfl
 | _=>simp only[RV] at e;rw[e]
theorem RV.bool {d v:Z6}(e:RV g h N d v)(b:Zb):v=.bool b↔d=.bool b:=by
 cases d with
 | func f j cs=>
  obtain ⟨j⟩:=j
  obtain ⟨cs⟩:=cs
  cases f with
  | func f=>simp only[RV] at e;obtain ⟨us,vs,rfl,_⟩:=e;simp
  | yield l=>
   simp only[RV] at e
   obtain ⟨vs,_,i⟩:=e
   unfold RowP at i
   split at i
   ·obtain ⟨_,_,rfl⟩:=i;simp
   ·obtain ⟨b,o,rfl,_⟩:=i;simp
   ·obtain ⟨a,c,size,rfl,_⟩:=i;simp
   ·exact i.elim
  | _=>simp only[RV] at e
 | agg ds=>obtain ⟨ds⟩:=ds;simp only[RV] at e;obtain ⟨vs,rfl,_⟩:=e;simp
 | tuple ds=>obtain ⟨ds⟩:=ds;simp only[RV] at e;obtain ⟨vs,rfl,_⟩:=e;simp
 | iface t d=>simp only[RV] at e;obtain ⟨u,rfl,_⟩:=e;simp
 | chan _=>simp only[RV] at e
 | pointer a=>simp only[RV] at e;rw[e.2];simp
 | slice a n c=>simp only[RV] at e;rw[e.2];simp
 | map a=>simp only[RV] at e;rw[e.2];simp
 | _=>simp only[RV] at e;rw[e]
theorem RV.cells {d v:Z6}(a:RV g h N d v):RVL g h N d.cells.toList v.cells.toList:=by
 have c:=a.one
 cases d with
 | agg ds=>obtain ⟨ds⟩:=ds;simp only[RV] at a;obtain ⟨vs,rfl,b⟩:=a;exact b
 | _=>
  cases v with
  | agg vs=>
   exfalso
   first
   | (simp[Ev.one] at c;done)
   | (obtain ⟨vs⟩ := vs
      simp only[RV] at a
      first
      | exact a
      | (cases a;done)
      | (obtain ⟨_,e,_⟩:=a;cases e))
  | _=>exact RVL.one a
theorem RV.int {k:IntKind}{n:Int}{v:Z6}(a:RV g h N (.int k n) v):v=.int k n:=by simpa only [RV] using a
theorem RV.boolE {b:Zb}{v:Z6}(a:RV g h N (.bool b) v):v=.bool b:=by simpa only [RV] using a
theorem RV.str {s:ByteArray}{v:Z6}(a:RV g h N (.string s) v):v=.string s:=by simpa only [RV] using a
theorem RV.row {f:Zb}{e n:Nat}{cs:List Z6}{v:Z6}(b:RV g h N (Rw f e n cs) v):∃ a c size vs,v=.slice a n c∧RVL g h N cs vs∧Fz g h a vs∧(f=true→c=n)∧0<size∧vs.length=n*size∧eX1 g.P h a n c size e:=by
 unfold Rw at b
 simp only[RV] at b
 obtain ⟨vs,d,k⟩:=b
 obtain ⟨a,c,size,i,j⟩:=k
 exact ⟨a,c,size,vs,i,d,j⟩
theorem RV.mkRow {f:Zb}{e n c size:Nat}{cs vs:List Z6}{a:Z8 Addr}(b:RVL g h N cs vs)(k:Fz g h a vs)(i:f=true→c=n)(j:0<size)(d:vs.length=n*size)(l:eX1 g.P h a n c size e):RV g h N (Rw f e n cs) (.slice a n c):=by
 unfold Rw
 simp only[RV]
 exact ⟨vs,b,a,c,size,rfl,k,i,j,d,l⟩
theorem RV.mkRpt {off b o:Nat}{cs vs:List Z6}(a:RVL g h N cs vs)(d:Fz g h (some ⟨b,o,none⟩) vs)(c:off<vs.length):RV g h N (Rpt off cs) (.pointer (some ⟨b,o+off,none⟩)):=by
 unfold Rpt
 simp only[RV]
 exact ⟨vs,a,b,o,rfl,d,c⟩
end
end Go.Dv
namespace Go.Dv
open Go Go.RowKit Go.Ev
noncomputable section
def ObjR (g:Gh)(h:jA)(N:Nat)(o:Prop)(b:Nat):qW→Prop
 | ⟨.cells ⟨ds⟩ e _,m⟩=>∃ vs a,cells h b=some (vs,a,m)∧(o→a=e)∧RVL g h N ds vs∧ds.all one=true
 | ⟨.loop r,m⟩=>∃ us,h.get b=some ⟨.loop { r with tmps:=⟨us⟩,defers:=g.δ r.defers },m⟩∧r.defers<N∧RVL g h N r.tmps.toList us
 | ⟨.pending ⟨ds⟩ e,m⟩=>∃ vs,h.get b=some ⟨.pending ⟨vs⟩ e,m⟩∧RVL g h N ds vs
 | x=>h.get b=some x
def kZ (σ:jA)(i:Nat):Prop:=σ.lo≤i∧i<σ.next∧(σ.get i).isSome=true
structure Rel (g:Gh)(σ h:jA):Prop where
 pos:0<σ.lo
 lo:σ.lo=g.H0.next∧g.H0.lo=g.H0.next
 lon:σ.lo≤σ.next
 hlo:h.lo≤h.next
 base:∀ i,i<σ.lo→σ.get i=g.H0.get i
 baseF:∀ i x,i<σ.lo→σ.get i=some x→∃ ds e fr,x=⟨.cells ⟨ds⟩ e fr,false⟩∧qB ds=true
 baseD:∀ i,i<σ.lo→g.δ i=i∧(i<h.lo∨σ.get i=none)
 obj:∀ i x,i<σ.next→σ.get i=some x→ObjR g h σ.next (σ.lo≤i) (g.δ i) x
 dlt:∀ i,i<σ.next→g.δ i<h.next
 dlo:∀ i,kZ σ i→h.lo≤g.δ i
 inj:∀ i j,kZ σ i→kZ σ j→g.δ i=g.δ j→i=j
 frz:∀ b,g.F b→b<h.next∧∀ i,kZ σ i→g.δ i≠b
 wf:∀ b,h.next≤b→h.get b=none
structure Tms (g:Gh)(h:jA)(N:Nat)(D T:VT):Prop where
 sz:T.sz=D.sz
 sU:D.sz<U
 get:∀ i,RV g h N (D.get i) (T.get i)
theorem RV.undef {g:Gh}{h:jA}{N:Nat}:RV g h N undef undef:=RV.of_flat _ rfl
theorem VT.get_set {T:VT}(a:T.sz<U)(i:Nat)(v:Z6)(j:Nat):(T.set i v).get j=if i=j then (if i<T.sz then v else undef) else T.get j:=by
 have c:(T.set i v).sz<U:=by rw[VT.set_sz];exact a
 rw[← VT.arr_getD,VT.arr_set _ a,Array.getD_eq_getD_getElem?,Array.getElem?_setIfInBounds,VT.arr_size]
 by_cases h:i=j
 ·rw[if_pos h,if_pos h]
  split<;>rfl
 ·rw[if_neg h,if_neg h,← VT.arr_getD,Array.getD_eq_getD_getElem?]
theorem Tms.set {g:Gh}{h:jA}{N:Nat}{D T:VT}(a:Tms g h N D T)(i:Nat){d v:Z6}(c:RV g h N d v):Tms g h N (D.set i d) (T.set i v):=by
 refine ⟨by rw[VT.set_sz,VT.set_sz];exact a.sz,by rw[VT.set_sz];exact a.sU,λj=>?_⟩
 rw[VT.get_set a.sU,VT.get_set (by rw[a.sz];exact a.sU),a.sz]
 split
 ·split
  ·exact c
  ·exact RV.undef
 ·exact a.get j
theorem Tms.put {g:Gh}{h:jA}{N:Nat}{D T:VT}(a:Tms g h N D T)(x:Z8 Nat){d v:Z6}(c:RV g h N d v):Tms g h N (put D x d) (put T x v):=by
 cases x with
 | none=>exact a
 | some i=>exact a.set i c
theorem Tms.ext {g g':Gh}{h b:jA}{N c:Nat}(x:Ext0 g h N g' b c){D T:VT}(a:Tms g h N D T):Tms g' b c D T:=⟨a.sz,a.sU,λi=>(a.get i).ext x⟩
theorem qT0 {g:Gh}{σ h:jA}(c:Rel g σ h){D T:VT}(e:Tms g h σ.next D T){NG:Nat}(d:NG≤σ.lo){o:Zo}(a:gA NG o=true):RV g h σ.next (ev D o) (ev T o):=by
 cases o with
 | tmp t=>exact e.get t
 | const v=>exact RV.of_flat v a
 | global i=>
  have hi:i<NG:=by simpa[gA] using a
  have b:=(c.baseD i Z0).1
  show RV g h σ.next (evG i) (evG i)
  unfold evG
  simp only[RV,Option.map_some,ren,b]
  exact ⟨by rw[uT];simp[sc,scA];have:=c.lon;omega,trivial⟩
 | func f=>
  show RV g h σ.next (evF f) (evF f)
  exact RV.of_flat _ rfl
def lnD (b:Z8 Zb)(v:Z6):Z8 Z6:=match v with
 | .func (.yield _) ⟨[.int _ (.ofNat n),.int _ (.ofNat _),.bool _]⟩ _=>match b with | some false=>some (.int .i64 (Int.ofNat n)) | _=>none
 | v=>lnB b v
def faD (o:Z8 Nat)(v:Z6):Z8 Z6:=match v with
 | .func (.yield _) ⟨[.int _ (.ofNat off)]⟩ ⟨cs⟩=>match o with | some o=>if off+o<cs.length then some (Rpt (off+o) cs) else none | none=>none
 | v=>faV o v
def iaD (z:Z8 (Z8 Nat×Nat))(x i:Z6):Z8 Z6:=match x with
 | .func (.yield _) ⟨[.int _ (.ofNat n),.int _ (.ofNat _),.bool _]⟩ ⟨cs⟩=>match z,i with
  | some (none,k),.int _ i=>if 0≤i∧i<n∧i.toNat*k<cs.length∧cs.length=n*k then some (Rpt (i.toNat*k) cs) else none
  | _,_=>none
 | x=>iaV z x i
def ncD (v:Z6):Z8 Z6:=match v with
 | .func (.yield _) ⟨[.int _ (.ofNat _)]⟩ ⟨_⟩=>some v
 | v=>ncV v
def tpD (P:Z9)(o:Op)(t:Zt)(tm:VT):Z8 Z6:=match o with
 | .fieldAddr s x f=>faD (fld P s f) (ev tm x)
 | .indexAddr s x i=>iaD (esz P s) (ev tm x) (ev tm i)
 | .call ⟨.builtin .len,⟨[x]⟩,⟨[ty]⟩⟩=>lnD (lnT P ty) (ev tm x)
 | .nilCheck x=>ncD (ev tm x)
 | o=>tp P o t tm
theorem sB0 {P:Z9}{s s':Sem Z6}{b b':Zb}{d:Z6}(c:b=true→s'=s∧b'=true)(a:pvF P s b=some d):pvF P s' b'=some d∧flat d=true:=by
 cases b with
 | false=>cases a
 | true=>
  obtain ⟨rfl,rfl⟩:=c rfl
  exact ⟨a,(gU a).2.1⟩
section
variable {g:Gh} {h:jA} {N:Nat}
theorem wH0 (c:Nat→Nat)(a:Z8 Addr):(a.map (ren c)).isNone=a.isNone:=by cases a<;>rfl
theorem wI3 {P:Z9}{op:BinOp}{t:Zt}{x y:Zo}{a b k b' d:Z6}(f:RV g h N a k)(e:RV g h N b b')(c:jW P op t x y a b=some d):jW P op t x y k b'=some d∧flat d=true:=by
 have j:=yZ0 c
 refine ⟨?_,j⟩
 unfold jW at c
 split at c
 ·rw[f.str,e.str];exact c
 ·rw[f.str,e.str];exact c
 ·simp only[RV] at f e
  rw[f.2,e.2]
  show (match P.underlying t with|some (.slice _)=>some (Value.bool (Option.map (ren g.δ) _).isNone)|_=>none)=_
  rw[wH0]
  exact c
 ·simp only[RV] at f e
  rw[f.2,e.2]
  show (match P.underlying t with|some (.slice _)=>some (Value.bool (!(Option.map (ren g.δ) _).isNone))|_=>none)=_
  rw[wH0]
  exact c
 ·simp only[RV] at f e
  rw[f.2,e.2]
  show (match P.underlying t with|some (.pointer _)=>some (Value.bool (Option.map (ren g.δ) _).isNone)|_=>none)=_
  rw[wH0]
  exact c
 ·simp only[RV] at f e
  rw[f.2,e.2]
  show (match P.underlying t with|some (.pointer _)=>some (Value.bool (!(Option.map (ren g.δ) _).isNone))|_=>none)=_
  rw[wH0]
  exact c
 ·have l : flat a = true ∧ flat b = true := by
   cases i:flat a&&flat b with
   | false=>rw[i] at c;cases c
   | true=>simpa using i
  have m:=f.flat a k l.1
  have q:=e.flat b b' l.2
  subst m q
  rename_i q1 q2 q3 p n o
  unfold jW
  split<;>first|exact absurd rfl (by first|exact q1 _ _|exact q2 _ _ )|(exfalso;first|exact q1 _ _ rfl rfl rfl|exact q2 _ _ rfl rfl rfl|exact q3 _ _ _ _ _ rfl rfl rfl|exact p _ _ _ _ _ rfl rfl rfl|exact n _ rfl rfl rfl|exact o _ rfl rfl rfl)|exact c
theorem zV0 {b:Zb}{n off:Nat}{ds vs:List Z6}{d:Z6}(c:RVL g h N ds vs)(a:bG b n ds off=some d):∃ v,bG b n vs off=some v∧RV g h N d v:=by
 cases b with
 | true=>
  simp only[bG] at a ⊢
  split at a<;>cases a
  rename_i e
  rw[if_pos (by rw[c.len];exact e)]
  refine ⟨_,rfl,?_⟩
  simp only[RV]
  exact ⟨_,rfl,(c.drop off).take n⟩
 | false=>exact c.get a
theorem lB0 {pl:List (Nat×Nat)}:∀ {f ps':List (Nat×Z6)} {cs c ds:List Z6},RVL g h N cs c→f.map (·.1)=ps'.map (·.1)→RVL g h N (f.map (·.2)) (ps'.map (·.2))→cA pl cs f=some ds→∃ vs,cA pl c ps'=some vs∧RVL g h N ds vs
 | [],[],cs,c,ds,hc,_,_,he=>by simp only[cA] at he ⊢;cases he;exact ⟨_,rfl,hc⟩
 | [],_ :: _,_,_,_,_,b,_,_=>by simp at b
 | _ :: _,[],_,_,_,_,b,_,_=>by simp at b
 | (i,d) :: f,(j,v) :: ps',cs,c,ds,hc,b,h2,he=>by
  simp only[List.map_cons,List.cons.injEq] at b
  obtain ⟨rfl,b⟩:=b
  simp only[List.map_cons] at h2
  obtain ⟨l,m⟩:=h2.inv
  simp only[cA] at he ⊢
  split at he
  ·rename_i off n k
   split at he
   ·rename_i a
    have e:=l.cells
    rw[if_pos ⟨by rw[e.len];exact a.1,by rw[hc.len];exact a.2⟩]
    exact lB0 (hc.setFrom e off) b m he
   ·cases he
  ·cases he
theorem RVL.map_ev {σ:jA}(c:Rel g σ h){D T:VT}(b:Tms g h σ.next D T){NG:Nat}(a:NG≤σ.lo):∀ (l:List Zo),(∀ x∈l,gA NG x=true)→RVL g h σ.next (l.map (ev D)) (l.map (ev T))
 | [],_=>RVL.nil
 | x :: l,ho=>RVL.cons (qT0 c b a (ho x (List.mem_cons_self ..))) (RVL.map_ev c b a l λy d=>ho y (List.mem_cons_of_mem _ d))
theorem jO3 {o:Z8 Nat}{d v u:Z6}(c:RV g h N d v)(b:faV o d=some u):∃ w,faV o v=some w∧RV g h N u w:=by
 unfold faV at b
 split at b<;>cases b
 rename_i o a
 simp only[RV] at c
 rw[c.2]
 refine ⟨_,rfl,?_⟩
 simp only[RV,Option.map_some,fX0]
 refine ⟨?_,trivial⟩
 rw[uT] at c ⊢
 exact uH0 c.1
theorem jP3 {o:Z8 Nat}{d v u:Z6}(c:RV g h N d v)(a:faD o d=some u):∃ w,faV o v=some w∧RV g h N u w:=by
 unfold faD at a
 split at a
 ·rename_i l k off cs
  split at a
  ·rename_i o
   split at a<;>cases a
   rename_i e
   simp only[RV] at c
   obtain ⟨vs,f,b,i,rfl,j,m⟩:=c
   refine ⟨_,rfl,?_⟩
   have:=RV.mkRpt (off:=off+o) f j (by rw[f.len];exact e)
   rw[addr_add,show i+off+o=i+(off+o) by omega]
   exact this
  ·cases a
 ·exact jO3 c a
theorem tW2 {z:Z8 (Z8 Nat×Nat)}{d v i j u:Z6}(b:RV g h N d v)(hi:RV g h N i j)(e:iaV z d i=some u):∃ w,iaV z v j=some w∧RV g h N u w:=by
 unfold iaV at e
 split at e
 ·rename_i n a len c k i
  split at e<;>cases e
  rename_i f
  simp only[RV] at b
  rw[b.2,hi.int]
  refine ⟨.pointer (some ((ren g.δ a).add (i.toNat*n))),if_pos f,?_⟩
  simp only[RV,Option.map_some,fX0]
  refine ⟨?_,trivial⟩
  rw[uT] at b ⊢
  exact uH0 b.1
 ·rename_i len n a k i
  split at e<;>cases e
  rename_i f
  simp only[RV] at b
  rw[b.2,hi.int]
  refine ⟨.pointer (some ((ren g.δ a).add (i.toNat*n))),if_pos f,?_⟩
  simp only[RV,Option.map_some,fX0]
  refine ⟨?_,trivial⟩
  rw[uT] at b ⊢
  exact uH0 b.1
 ·cases e
theorem Fz.at {a:Z8 Addr}{vs:List Z6}(f:Fz g h a vs)(c:vs≠[]):∃ b o,a=some ⟨b,o,none⟩:=by
 rcases f.1 with h0|⟨b,off,full,e,m,d,_⟩
 ·exact absurd h0.1 c
 ·exact ⟨b,off,d⟩
theorem tX2 {z:Z8 (Z8 Nat×Nat)}{d v i j u:Z6}(p:RV g h N d v)(hi:RV g h N i j)(m:iaD z d i=some u):∃ w,iaV z v j=some w∧RV g h N u w:=by
 unfold iaD at m
 split at m
 ·rename_i l F n D e f cs
  split at m
  ·rename_i q w k i
   split at m<;>cases m
   rename_i B
   obtain ⟨x,A,y,E⟩:=B
   simp only[RV] at p
   obtain ⟨vs,s,a,c,size,rfl,t,C⟩:=p
   have r:=s.len
   obtain ⟨b,o,rfl⟩:=t.at (λe=>by rw[e] at r;simp at r;omega)
   rw[hi.int]
   refine ⟨.pointer (some ((⟨b,o,none⟩:Addr).add (i.toNat*w))),if_pos ⟨x,A⟩,?_⟩
   rw[addr_add]
   exact RV.mkRpt s t (by rw[r];exact y)
  ·cases m
 ·exact tW2 p hi m
theorem tG2 {b:Z8 Zb}{d v u:Z6}(c:RV g h N d v)(a:lnB b d=some u):lnB b v=some u∧flat u=true:=by
 unfold lnB at a
 split at a
 ·cases a;rw[c.str];exact ⟨rfl,rfl⟩
 ·cases a;simp only[RV] at c;rw[c.2];exact ⟨rfl,rfl⟩
 ·cases a
theorem tF2 {b:Z8 Zb}{d v u:Z6}(f:RV g h N d v)(e:lnD b d=some u):lnB b v=some u∧flat u=true:=by
 unfold lnD at e
 split at e
 ·split at e<;>cases e
  simp only[RV] at f
  obtain ⟨vs,_,a,c,size,rfl,_⟩:=f
  exact ⟨rfl,rfl⟩
 ·exact tG2 f e
theorem tC2 {c k d:Z6}(e:RV g h N c k)(i:ncD c=some d):∃ v,ncV k=some v∧RV g h N d v:=by
 unfold ncD at i
 split at i
 ·cases i
  have j:=e
  simp only[RV] at j
  obtain ⟨vs,_,m⟩:=j
  unfold RowP at m
  obtain ⟨b,o,rfl,_⟩:=m
  exact ⟨_,rfl,e⟩
 ·unfold ncV at i
  split at i<;>cases i
  ·rename_i a _
   refine ⟨k,?_,e⟩
   simp only[RV] at e
   rw[e.2];rfl
  ·rename_i f l cs _
   obtain ⟨l⟩:=l
   obtain ⟨cs⟩:=cs
   refine ⟨k,?_,e⟩
   simp only[RV] at e
   obtain ⟨us,vs,n,_⟩:=e
   rw[n];rfl
theorem lK2 {P:Z9}{σ:jA}(M:Rel g σ h){D T:VT}(L:Tms g h σ.next D T){NG:Nat}(C:NG≤σ.lo){o:Op}{t:Zt}(E:o.operands.all (gA NG)=true){d:Z6}(e:tpD P o t D=some d) :
  ∃ v,tp P o t T=some v∧RV g h σ.next d v:=by
 have u:∀ x∈o.operands,RV g h σ.next (ev D x) (ev T x):=λx u=>qT0 M L C (by
  rw[Array.all_eq_true_iff_forall_mem] at E;exact E x u)
 unfold tpD at e
 split at e
 ·rename_i s x f
  obtain ⟨w,p,r⟩:=jP3 (u x (by simp[Op.operands])) e
  exact ⟨w,p,r⟩
 ·rename_i s x i
  obtain ⟨w,p,r⟩:=tX2 (u x (by simp[Op.operands])) (u i (by simp[Op.operands])) e
  exact ⟨w,p,r⟩
 ·rename_i x ty
  obtain ⟨p,r⟩:=tF2 (u x (by simp[Op.operands,Call.operands])) e
  exact ⟨d,p,RV.of_flat d r⟩
 ·rename_i x
  exact tC2 (u x (by simp[Op.operands])) e
 ·rename_i n1 n2 n3 n4
  unfold tp at e
  split at e
  ·rename_i x;cases e;exact ⟨_,rfl,u x (by simp[Op.operands])⟩
  ·rename_i x;cases e;exact ⟨_,rfl,u x (by simp[Op.operands])⟩
  ·rename_i c a b
   have m:=u c (by simp[Op.operands])
   unfold gB0 at e
   split at e<;>cases e
   ·rename_i l
    rw[l] at m
    exact ⟨_,by show gB0 _ _ _=_;rw[m.boolE];rfl,u a (by simp[Op.operands])⟩
   ·rename_i l
    rw[l] at m
    exact ⟨_,by show gB0 _ _ _=_;rw[m.boolE];rfl,u b (by simp[Op.operands])⟩
  ·rename_i x i
   have m:=u x (by simp[Op.operands])
   unfold extV at e
   split at e
   ·rename_i ds l
    obtain ⟨ds⟩:=ds
    rw[l] at m
    simp only[RV] at m
    obtain ⟨vs,p,r⟩:=m
    obtain ⟨v,V,X⟩:=r.get (show ds[i]?=some d by simpa using e)
    exact ⟨v,by show extV _ _=_;rw[p];simpa[extV] using V,X⟩
   ·cases e
  ·rename_i op ty x y q
   obtain ⟨p,r⟩:=wI3 (u x (by simp[Op.operands])) (u y (by simp[Op.operands])) e
   exact ⟨d,p,RV.of_flat d r⟩
  ·rename_i op ty x
   have m:=u x (by simp[Op.operands])
   obtain ⟨p,r⟩:=sB0 (s':=Op.unary op (ev T x)) (b':=flat (ev T x)) (λF=>by rw[m.flat _ _ F];exact ⟨rfl,F⟩) e
   exact ⟨d,p,RV.of_flat d r⟩
  ·exact absurd rfl (n1 _ _ _)
  ·rename_i s x f
   have m:=u x (by simp[Op.operands])
   show ∃ v,fdV (fldT P s f) (ev T x)=some v∧_
   unfold fdV at e
   split at e
   ·rename_i b n off ds F l
    obtain ⟨ds⟩:=ds
    rw[l] at m
    simp only[RV] at m
    obtain ⟨vs,p,r⟩:=m
    rw[F,p]
    exact zV0 r e
   ·cases e
  ·exact absurd rfl (n2 _ _ _)
  ·rename_i s x i
   have m:=u x (by simp[Op.operands])
   have hi:=u i (by simp[Op.operands])
   show ∃ v,ixV (ixT P s) (ev T x) (ev T i)=some v∧_
   unfold ixV at e
   split at e
   ·rename_i s k i R l K
    split at e<;>cases e
    rename_i B
    rw[l] at m
    rw[K] at hi
    rw[R,m.str,hi.int]
    exact ⟨_,if_pos B,RV.of_flat _ rfl⟩
   ·rename_i b n z len ds k i R l K
    obtain ⟨ds⟩:=ds
    split at e
    ·rename_i B
     rw[l] at m
     rw[K] at hi
     simp only[RV] at m
     obtain ⟨vs,p,r⟩:=m
     rw[R,p,hi.int]
     obtain ⟨v,V,X⟩:=zV0 r e
     exact ⟨v,(if_pos B).trans V,X⟩
    ·cases e
   ·cases e
  ·rename_i ty H
   show ∃ v,bdV (plc P ty) _=some v∧_
   unfold bdV at e
   split at e
   ·rename_i pl cs j
    split at e<;>cases e
    rename_i cs' F
    have R:qB cs=true:=by
     unfold plc at j
     split at j
     ·cases j
     ·split at j
      ·cases j
      ·rename_i z _
       have I:flat z=true→qB z.cells.toList=true:=λI=>by
        cases z with
        | agg cs=>obtain ⟨cs⟩:=cs;simpa[Ev.flat,Value.cells] using I
        | _=>simpa[qB,Value.cells] using I
       split at j
       ·rename_i J _
        split at j<;>cases j
        exact I J
       ·rename_i J _
        split at j<;>cases j
        exact I J
       ·cases j
    obtain ⟨vs,p,r⟩:=lB0 (ps':=H.toList.map λx=>(x.1,ev T x.2)) (RVL.of_flat cs R) (by simp) (by
     have:=RVL.map_ev M L C (H.toList.map (·.2)) λx A=>by
      rw[Array.all_eq_true_iff_forall_mem] at E
      refine E x ?_
      obtain ⟨y,Z,rfl⟩:=List.mem_map.1 A
      simp only[Op.operands,List.mem_toArray,List.mem_map]
      exact ⟨y,Z,rfl⟩
     simpa[List.map_map,Function.comp_def] using this) F
    rw[j]
    refine ⟨.agg ⟨vs⟩,by simp only[bdV,p],?_⟩
    simp only[RV]
    exact ⟨vs,rfl,r⟩
   ·cases e
  ·rename_i f fs cs
   cases e
   refine ⟨_,rfl,?_⟩
   simp only[RV]
   refine ⟨_,_,rfl,RVL.map_ev M L C _ λx A=>?_,RVL.map_ev M L C _ λx A=>?_⟩
   ·rw[Array.all_eq_true_iff_forall_mem] at E
    exact E x (by simp[Op.operands,Array.mem_toList_iff.1 A])
   ·rw[Array.all_eq_true_iff_forall_mem] at E
    exact E x (by simp[Op.operands,Array.mem_toList_iff.1 A])
  ·rename_i ty x
   have m:=u x (by simp[Op.operands])
   unfold miV at e
   split at e<;>cases e
   rename_i hI
   refine ⟨_,by show miV _ _ _=_;rw[hI];rfl,?_⟩
   simp only[RV]
   exact ⟨_,rfl,m⟩
  ·exact absurd rfl (n4 _)
  ·exact absurd rfl (n3 _ _)
  ·rename_i args ts
   have Y:=RVL.map_ev M L C args.toList λx A=>by
    rw[Array.all_eq_true_iff_forall_mem] at E
    exact E x (by simp[Op.operands,Call.operands,Array.mem_toList_iff.1 A])
   obtain ⟨p,r⟩:=sB0 (s':=Builtin.min_ ts t ⟨args.toList.map (ev T)⟩) (b':=qB (args.toList.map (ev T))) (λF=>by rw[RVL.flat _ _ F Y];exact ⟨rfl,F⟩) e
   exact ⟨d,p,RV.of_flat d r⟩
  ·rename_i args ts
   have Y:=RVL.map_ev M L C args.toList λx A=>by
    rw[Array.all_eq_true_iff_forall_mem] at E
    exact E x (by simp[Op.operands,Call.operands,Array.mem_toList_iff.1 A])
   obtain ⟨p,r⟩:=sB0 (s':=Builtin.max_ ts t ⟨args.toList.map (ev T)⟩) (b':=qB (args.toList.map (ev T))) (λF=>by rw[RVL.flat _ _ F Y];exact ⟨rfl,F⟩) e
   exact ⟨d,p,RV.of_flat d r⟩
  ·cases e
end
def ldD (P:Z9)(t:Zt)(a:Z6)(σ:jA):Z8 Z6:=match a with
 | .func (.yield _) ⟨[.int _ (.ofNat off)]⟩ ⟨cs⟩=>match knd P t with | some (b,n)=>bG b n cs off | none=>none
 | a=>qL P t a σ
def yH0 (f:Zb)(n h:Nat)(m:Z8 Nat):Zb:=match m with|some m=>Nat.beq m h|none=>f&&Nat.beq h n
def slR (z:Z8 (Z8 (Zt×Nat)))(f:Zb)(e n:Nat)(cs:List Z6)(lo hi mx:Z8 Z6):Z8 Z6:=match z with
 | some (some (e', size)) => if e' = e ∧ 0 < size ∧ cs.length = n * size then
   match bounds n n mx hi lo with
   | some (l,h,m)=>some (Rw (yH0 f n h m) e (h-l) ((cs.drop (l*size)).take ((h-l)*size)))
   | none=>none
  else none
 | _=>none
def slD (P:Z9)(t:Zt)(x:Z6)(lo hi mx:Z8 Z6)(σ:jA):Z8 Z6:=match x with
 | .func (.yield _) ⟨[.int _ (.ofNat n),.int _ (.ofNat e),.bool f]⟩ ⟨cs⟩=>slR (slcT P t) f e n cs lo hi mx
 | x=>slV P t x lo hi mx σ
def cvD (P:Z9)(s d:Zt)(x:Z6)(σ:jA):Z8 Z6:=match x with
 | .func (.yield _) ⟨[.int _ (.ofNat n),.int _ (.ofNat e),.bool f]⟩ ⟨cs⟩=>match cnvT P s d with
  | some (1,_)=>if cs.length=n then match bytesOf cs with | some l=>some (.string ⟨⟨l⟩⟩) | none=>none else none
  | _=>none
 | x=>cvV P s d x σ
def tvD (P:Z9)(o:Op)(t:Zt)(tm:VT)(σ:jA):Z8 Z6:=match o with
 | .load ty a=>ldD P ty (ev tm a) σ
 | .slice ty x lo hi mx=>slD P ty (ev tm x) (lo.map (ev tm)) (hi.map (ev tm)) (mx.map (ev tm)) σ
 | .convert s d x=>cvD P s d (ev tm x) σ
 | o=>tpD P o t tm
section
variable {g:Gh} {σ h:jA}
theorem Rel.cells' (k:Rel g σ h){i:Nat}{ds:List Z6}{e:Zt}{m:Zb}(hi:i<σ.next)(c:Ev.cells σ i=some (ds,e,m)):∃ vs a,Ev.cells h (g.δ i)=some (vs,a,m)∧(σ.lo≤i∨m=true→a=e)∧RVL g h σ.next ds vs:=by
 unfold Ev.cells at c
 split at c
 ·rename_i cs a p q f
  cases c
  obtain ⟨vs,a,l,j,o,_⟩:=k.obj i _ hi f
  refine ⟨vs,a,l,λb=>?_,o⟩
  rcases b with b|rfl
  ·exact j b
  ·by_cases d:σ.lo≤i
   ·exact j d
   ·obtain ⟨_,_,_,n,_⟩:=k.baseF i _ Z0 f
    cases n
 ·cases c
theorem Rel.cells (d:Rel g σ h){i:Nat}{ds:List Z6}{e:Zt}{m:Zb}(hi:i<σ.next)(c:σ.lo≤i∨m=true)(j:Ev.cells σ i=some (ds,e,m)):∃ vs,Ev.cells h (g.δ i)=some (vs,e,m)∧RVL g h σ.next ds vs:=by
 obtain ⟨vs,k,a,f,b⟩:=d.cells' hi j
 obtain rfl:=f c
 exact ⟨vs,a,b⟩
theorem sc_p {N b off:Nat}(a:fscP N (some ⟨b,off,none⟩)=true):b<N:=by
 rw[uT] at a
 simpa[sc,scA] using a
theorem fT0 {lo b:Nat}{v:Z6}(a:lo≤b):Ev.seen lo b v=some v:=by
 have:Nat.ble lo b=true:=by simpa using a
 simp only[Ev.seen,this]
theorem iP1 {lo b:Nat}{v:Z6}(a:sc lo v=true):Ev.seen lo b v=some v:=by
 unfold Ev.seen
 rw[pX1,a]
 cases Nat.ble lo b<;>rfl
theorem gV1 {b:Zb}{n off:Nat}{ds:List Z6}{d:Z6}(j:qB ds=true)(c:bG b n ds off=some d):flat d=true:=by
 have a:=kF0 j
 have f:∀ l:List Z6,(∀ v∈l,flat v=true)→qB l=true:=by
  intro l
  induction l with
  | nil=>intro _;rfl
  | cons x l k=>intro i;simp only[qB,i x (List.mem_cons_self ..),k λv e=>i v (List.mem_cons_of_mem _ e),Bool.and_self]
 cases b with
 | true=>
  simp only[bG] at c
  split at c<;>cases c
  simp only[Ev.flat]
  exact f _ λv e=>a v (List.mem_of_mem_drop (List.mem_of_mem_take e))
 | false=>exact a d (List.mem_of_getElem? c)
theorem uE1 (r:Rel g σ h){P:Z9}{t:Zt}{a B d:Z6}(z:RV g h σ.next a B)(c:qL P t a σ=some d):∃ v,qL P t B h=some v∧RV g h σ.next d v:=by
 obtain ⟨b,off,rfl⟩:∃ b off,a=.pointer (some ⟨b,off,none⟩):=by
  unfold qL at c
  split at c
  ·exact ⟨_,_,rfl⟩
  ·cases c
 simp only[RV,Option.map_some,ren] at z
 obtain ⟨J,rfl⟩:=z
 have s:=sc_p J
 rw[yD0] at c ⊢
 cases f:cells σ b with
 | none=>rw[f] at c;simp[ldC] at c
 | some x=>
  obtain ⟨ds,e,m⟩:=x
  obtain ⟨vs,I,C,_,M⟩:=r.cells' s f
  rw[f] at c
  rw[C]
  cases w:knd P t with
  | none=>rw[w] at c;simp[ldC] at c
  | some y=>
   obtain ⟨q,n⟩:=y
   rw[w] at c
   simp only[ldC] at c ⊢
   cases o:bG q n ds off with
   | none=>rw[o] at c;cases c
   | some u=>
    rw[o] at c
    obtain ⟨v,F,p⟩:=zV0 M o
    rw[F]
    dsimp only at c ⊢
    by_cases l:σ.lo≤b
    ·rw[fT0 l] at c
     cases c
     have j:(σ.get b).isSome=true:=by
      unfold Ev.cells at f
      split at f
      ·rename_i j;rw[j];rfl
      ·cases f
     exact ⟨v,fT0 (r.dlo b ⟨l,s,j⟩),p⟩
    ·have K : u = d := by
      unfold Ev.seen at c
      cases i:Nat.ble σ.lo b with
      | true=>simp at i;omega
      | false=>
       rw[i] at c
       cases A:fsc σ.lo u with
       | true=>rw[A] at c;simpa using c
       | false=>rw[A] at c;simp at c
     subst K
     have k:flat u=true:=by
      unfold Ev.cells at f
      split at f
      ·rename_i cs I R T j
       cases f
       obtain ⟨N,E,L,D,H⟩:=r.baseF b _ Z0 j
       cases D
       exact gV1 H o
      ·cases f
     have:=p.flat u v k
     subst this
     exact ⟨v,iP1 (bO _ _ k),p⟩
theorem Fz.part {a:Z8 Addr}{vs:List Z6}(r:Fz g h a vs){P:Z9}{t:Zt}{q:Zb}{n:Nat}(p:knd P t=some (q,n)){off:Nat}{v:Z6}(c:bG q n vs off=some v)(f:off<vs.length) :
  ∃ b o,a=some ⟨b,o,none⟩∧qL P t (.pointer (some ⟨b,o+off,none⟩)) h=some v:=by
 rcases r.1 with h0|⟨b,o,full,e,m,rfl,k,w,j,d⟩
 ·rw[h0.1] at f;simp at f
 ·refine ⟨b,o,rfl,?_⟩
  rw[yD0,k,p]
  have i:bG q n full (o+off)=some v:=by
   cases q with
   | true=>
    simp only[bG] at c ⊢
    split at c<;>cases c
    rename_i l
    rw[if_pos Z0]
    congr 2
    rw[← j,List.drop_take,List.drop_drop,List.take_take,Nat.min_eq_left Z0]
   | false=>
    simp only[bG] at c ⊢
    rw[← j,List.getElem?_take,if_pos f,List.getElem?_drop] at c
    exact c
  simp only[ldC,i]
  rcases d with d|d
  ·exact fT0 d
  ·refine iP1 ?_
   simp only[gO,Z5] at d
   cases q with
   | true=>
    simp only[bG] at c
    split at c<;>cases c
    simp only[Ev.sc]
    exact qK λu s=>qJ d.2 u (List.mem_of_mem_drop (List.mem_of_mem_take s))
   | false=>exact qJ d.2 v (List.mem_of_getElem? c)
theorem sI0 (x:Rel g σ h){P:Z9}{t:Zt}{a f d:Z6}(e:RV g h σ.next a f)(c:ldD P t a σ=some d):∃ v,qL P t f h=some v∧RV g h σ.next d v:=by
 unfold ldD at c
 split at c
 ·rename_i l k off cs
  split at c
  ·rename_i q n m
   simp only[RV] at e
   obtain ⟨vs,i,b,o,rfl,u,p⟩:=e
   obtain ⟨v,r,j⟩:=zV0 i c
   obtain ⟨b',y,w,s⟩:=u.part m r p
   cases w
   exact ⟨v,s,j⟩
  ·cases c
 ·exact uE1 x e c
theorem cW1 {n c:Nat}{mx hi lo:Z8 Z6}{r:Nat×Nat×Z8 Nat}(d:n≤c)(a:bounds n n mx hi lo=some r):bounds n c mx hi lo=some r:=by
 unfold bounds at a ⊢
 cases mx with
 | none=>
  dsimp only at a ⊢
  cases hi with
  | none=>exact a
  | some v=>
   cases v with
   | int k i=>
    cases i with
    | ofNat i=>
     dsimp only at a ⊢
     cases b:Nat.ble i n with
     | true=>
      rw[b] at a
      have:Nat.ble i c=true:=by simp at b ⊢;omega
      rw[this];exact a
     | false=>rw[b] at a;cases a
    | negSucc i=>cases a
   | _=>cases a
 | some v=>
  cases v with
  | int k i=>
   cases i with
   | ofNat i=>
    dsimp only at a ⊢
    cases b:Nat.ble i n with
    | true=>
     rw[b] at a
     have:Nat.ble i c=true:=by simp at b ⊢;omega
     rw[this]
     cases hi with
     | none=>exact a
     | some v=>
      cases v with
      | int k i=>cases i<;>exact a
      | _=>exact a
    | false=>rw[b] at a;cases a
   | negSucc i=>cases a
  | _=>cases a
theorem tM0 {n:Nat}{mx hi lo:Z8 Z6}{l r:Nat}{m:Z8 Nat}(f:bounds n n mx hi lo=some (l,r,m)):l≤r∧r≤n∧(∀ k,m=some k→r≤k∧k≤n)∧(m=none↔mx=none):=by
 unfold bounds at f
 split at f
 ·cases f
 ·rename_i u a
  split at f
  ·cases f
  ·rename_i t c
   split at f
   ·cases f
   ·rename_i s d
    cases f
    have j:∀ k,m=some k→k≤n:=by
     intro k e
     subst e
     split at a
     ·cases a
     ·split at a<;>cases a
      rename_i b
      simpa using b
     ·cases a
    have q:m=none↔mx=none:=by
     split at a
     ·cases a;simp
     ·split at a<;>cases a
      simp
     ·cases a
    have o:r≤n∧∀ k,m=some k→r≤k:=by
     split at c
     ·cases c;exact ⟨Z3 _,λk e=>by cases e⟩
     ·cases c
     ·split at c<;>cases c
      rename_i b
      exact ⟨by simpa using b,λk e=>by cases e⟩
     ·rename_i _ _ k0
      split at c<;>cases c
      rename_i b
      have i:r≤k0:=by simpa using b
      exact ⟨Nat.le_trans i (j k0 rfl),λk e=>by cases e;exact i⟩
     ·cases c
    have p:l≤r:=by
     split at d
     ·cases d;exact Nat.zero_le _
     ·split at d<;>cases d
      rename_i b
      simpa using b
     ·cases d
    exact ⟨p,o.1,λk e=>⟨o.2 k e,j k e⟩,q⟩
theorem Fz.sub {a:Z8 Addr}{vs:List Z6}(c:Fz g h a vs)(i k:Nat):Fz g h (a.map (·.add i)) ((vs.drop i).take k):=by
 refine ⟨c.1.sub i k,λb d=>?_⟩
 obtain ⟨o,s,e⟩:=d
 cases a with
 | none=>cases e
 | some a=>
  refine c.2 b ?_
  simp only[Option.map_some,Option.some.injEq] at e
  refine ⟨a.off,a.spot,?_⟩
  have:(a.add i).block=a.block:=by unfold Addr.add;split<;>rfl
  rw[e] at this
  cases a
  simp only at this
  rw[this]
theorem Fz.nil {a:Z8 Addr}{vs:List Z6}(c:Fz g h a vs):Fz g h a []:=⟨Sl.nil _ c.1.spot,c.2⟩
theorem mO1 {a b s:Nat}(h:a≤b):a*s≤b*s:=Nat.mul_le_mul_right _ h
theorem tK2 {vs:List Z6}{n size l r:Nat}(a:vs.length=n*size)(b:l≤r)(c:r≤n):((vs.drop (l*size)).take ((r-l)*size)).length=(r-l)*size:=by
 have d:=mO1 (s:=size) c
 have e:(r-l)*size=r*size-l*size:=Nat.sub_mul ..
 rw[List.length_take,List.length_drop,a]
 omega
theorem iL1 {P:Z9}{t e size:Nat}(a:slcT P t=some (some (e,size))):P.underlying t=some (.slice e)∧szT P e=some size:=by
 unfold slcT at a
 split at a
 ·cases a
 ·rename_i d b
  split at a<;>cases a
  rename_i c
  exact ⟨b,c⟩
 ·cases a
theorem oO2 {P:Z9}(hP:g.P=P){N:Nat}{t:Zt}{f:Zb}{e n:Nat}{cs:List Z6}{lo hi mx:Z8 Z6}{d v:Z6}(hv:RV g h N (Rw f e n cs) v)(z:slR (slcT P t) f e n cs lo hi mx=some d) :
  (∃ u,slV P t v lo hi mx h=some u∧RV g h N d u)∨(slV P t v lo hi mx h=none∧∃ u1 u2,tailV P t v lo hi mx h=some (u1,u2)∧RV g h N d u1∧RV g h N d u2):=by
 obtain ⟨a,c,size,vs,rfl,h1,K,h3,h4,h5,h6⟩:=hv.row
 unfold slR at z
 split at z
 ·rename_i e' A hz
  split at z
  ·rename_i B
   obtain ⟨rfl,F,c3⟩:=B
   obtain ⟨I,D⟩:=iL1 hz
   split at z
   ·rename_i l r m H
    obtain ⟨b1,b2,T,b4⟩:=tM0 H
    simp only[Option.some.injEq] at z
    subst z
    have hl5:=h1.len
    have i:RVL g h N ((cs.drop (l*A)).take ((r-l)*A)) ((vs.drop (l*A)).take ((r-l)*A)):=(h1.drop _).take _
    have w:=tK2 (vs:=vs) (by rw[hl5];exact c3) b1 b2
    have j:r-l=0→(vs.drop (l*A)).take ((r-l)*A)=[]:=λe=>by rw[e];simp
    rcases h6 with ⟨c4,c5⟩|⟨b,off,full,rfl,q1,q2,q3,q4,q5,M⟩
    ·left
     have X:=cW1 c5 H
     have q:kU P t a n c lo hi mx=some (.slice (if m.getD c=l then a else a.map (·.add (l*A))) (r-l) (m.getD c-l)):=by
      have c4':Nat.blt c UC=true:=by simpa using c4
      unfold kU
      rw[I]
      simp only[D,c4',X]
      cases o:Nat.beq (m.getD c) l with
      | true=>simp at o;rw[if_pos o]
      | false=>
       have:¬ m.getD c=l:=λe=>by rw[e] at o;simp at o
       rw[if_neg this]
     refine ⟨.slice (if m.getD c=l then a else a.map (·.add (l*A))) (r-l) (m.getD c-l),by simp only[slV,q],?_⟩
     have hM:r≤m.getD c:=by
      cases m with
      | none=>simp;omega
      | some k=>exact (T k rfl).1
     have hMc:m.getD c≤c:=by
      cases m with
      | none=>simp
      | some k=>simp;have:=(T k rfl).2;omega
     refine RV.mkRow i ?_ (λy=>?_) F w (.inl ⟨Z0,Z0⟩)
     ·split
      ·rename_i hml
       rw[j Z0]
       exact K.nil
      ·exact K.sub _ _
     ·cases m with
      | none=>
       simp only[yH0,Z5,Nat.beq_eq] at y
       have:=h3 y.1
       simp only[Option.getD_none]
       omega
      | some k=>
       simp only[yH0,Nat.beq_eq] at y
       simp only[Option.getD_some]
       omega
    ·have L : f = false := by
      cases f with
      | false=>rfl
      | true=>
       have:=h3 rfl
       have:=U_UC
       omega
     have R:Nat.blt c UC=false:=by
      rw[Bool.eq_false_iff]
      simp;omega
     have q:kU P t (some ⟨b,off,none⟩) n c lo hi mx=none:=by
      unfold kU
      rw[I]
      simp only[D,R]
     have Y:size=A:=by rw[hP,D] at M;cases M;rfl
     subst Y
     have e2:(Nat.beq e' e'&&Nat.ble UC c&&Nat.beq off ((c-UC)*size)&&Nat.blt 0 size&&Nat.ble (off+n*size) full.length&&Nat.blt n U)=true:=by
      simp only[Z5,Nat.beq_eq,Nat.ble_eq,Nat.blt_eq]
      exact ⟨⟨⟨⟨⟨trivial,q2⟩,q3⟩,F⟩,q4⟩,q5⟩
     have x:(⟨b,off,none⟩:Addr).add (l*size)=⟨b,off+l*size,none⟩:=addr_add ..
     have p:=K.sub (l*size) ((r-l)*size)
     rw[Option.map_some,x] at p
     cases m with
     | some k=>
      left
      obtain ⟨b5,b6⟩:=T k rfl
      have E:slV P t (.slice (some ⟨b,off,none⟩) n c) lo hi mx h=some (.slice (if k=l then some ⟨b,off,none⟩ else some ⟨b,off+l*size,none⟩) (r-l) (k-l)):=by
       simp only[slV,q,kT,I,D,q1,e2,H]
       cases o:Nat.beq k l with
       | true=>simp at o;rw[if_pos o]
       | false=>
        have:¬ k=l:=λe=>by rw[e] at o;simp at o
        rw[if_neg this,x]
      refine ⟨_,E,RV.mkRow i ?_ (λy=>?_) F w (.inl ⟨by have:=U_UC;omega,Z0⟩)⟩
      ·split
       ·rw[j Z0];exact K.nil
       ·exact p
      ·simp only[yH0,Nat.beq_eq] at y
       omega
     | none=>
      by_cases J:l<n
      ·left
       have C:Nat.blt l n=true:=by simpa using J
       have E:slV P t (.slice (some ⟨b,off,none⟩) n c) lo hi mx h=some (.slice (some ⟨b,off+l*size,none⟩) (r-l) (c+l)):=by
        simp only[slV,q,kT,I,D,q1,e2,H,C,x]
       refine ⟨_,E,RV.mkRow i p (λy=>?_) F w (.inr ⟨b,off+l*size,full,rfl,q1,Z0,?_,?_,Z0,M⟩)⟩
       ·rw[L] at y;simp[yH0] at y
       ·rw[show c+l-UC=(c-UC)+l by omega,Nat.add_mul,q3]
       ·have h7:=mO1 (s:=size) b2
        have h8:(r-l)*size=r*size-l*size:=Nat.sub_mul ..
        have h9:=mO1 (s:=size) b1
        omega
      ·right
       have Z:l=n:=Z0
       have V:r=n:=Z0
       subst Z
       have C:Nat.blt l l=false:=by rw[Bool.eq_false_iff];simp
       have hmx:mx=none:=b4.1 rfl
       subst hmx
       refine ⟨by simp only[slV,q,kT,I,D,q1,e2,H,C],.slice (some ⟨b,off,none⟩) 0 0,.slice (some ⟨b,off+l*size,none⟩) 0 (c+l),?_,?_,?_⟩
       ·simp only[tailV,I,q1,D,H]
        rw[if_pos ⟨trivial,q2,q3,F,q4,trivial,V,q5⟩]
       ·have h0:r-l=0:=Z0
        rw[j h0] at i
        rw[h0] at i w ⊢
        exact RV.mkRow i K.nil (λ_=>rfl) F (by simp) (.inl ⟨dF0,Z3 _⟩)
       ·have h0:r-l=0:=Z0
        rw[j h0] at i p
        rw[h0] at i w ⊢
        refine RV.mkRow i p (λy=>?_) F (by simp) (.inr ⟨b,off+l*size,full,rfl,q1,Z0,?_,Z0,by unfold U;omega,M⟩)
        ·rw[L] at y;simp[yH0] at y
        ·rw[show c+l-UC=(c-UC)+l by omega,Nat.add_mul,q3]
   ·cases z
  ·cases z
 ·cases z
end
section
variable {g:Gh} {σ h:jA}
def OV (g:Gh)(h:jA)(N:Nat)(a b:Z8 Z6):Prop:=match a,b with
 | none,none=>True
 | some d,some v=>RV g h N d v
 | _,_=>False
theorem OV.eq {N:Nat}{a b:Z8 Z6}(c:OV g h N a b)(hi:∀ v,a=some v→(∃ k i,v=.int k i)∨flat v=true):b=a:=by
 cases a with
 | none=>cases b with | none=>rfl | some v=>exact c.elim
 | some d=>cases b with
  | none=>exact c.elim
  | some v=>
   rcases hi d rfl with ⟨k,i,rfl⟩|e
   ·exact congrArg some (RV.int (g:=g) (h:=h) (N:=N) c)
   ·exact congrArg some (RV.flat (g:=g) (h:=h) (N:=N) d v e c)
theorem OV.ev (b:Rel g σ h){D T:VT}(d:Tms g h σ.next D T){NG:Nat}(a:NG≤σ.lo){o:Z8 Zo}(c:∀ x,o=some x→gA NG x=true):OV g h σ.next (o.map (ev D)) (o.map (ev T)):=by
 cases o with
 | none=>trivial
 | some x=>exact qT0 b d a (c x rfl)
theorem wN0 {n c:Nat}{mx hi lo:Z8 Z6}{r:Nat×Nat×Z8 Nat}(a:bounds n c mx hi lo=some r) :
  (∀ v,mx=some v→(∃ k i,v=.int k i)∨flat v=true)∧(∀ v,hi=some v→(∃ k i,v=.int k i)∨flat v=true)∧(∀ v,lo=some v→(∃ k i,v=.int k i)∨flat v=true):=by
 refine ⟨λv b=>?_,λv b=>?_,λv b=>?_⟩
 ·subst b
  cases v with
  | int k i=>exact .inl ⟨_,_,rfl⟩
  | _=>exact absurd a (by unfold bounds;intro a;cases a)
 ·subst b
  cases v with
  | int k i=>exact .inl ⟨_,_,rfl⟩
  | _=>
   exfalso
   unfold bounds at a
   split at a
   ·cases a
   ·rename_i e d
    cases e<;>cases a
 ·subst b
  cases v with
  | int k i=>exact .inl ⟨_,_,rfl⟩
  | _=>
   exfalso
   unfold bounds at a
   split at a
   ·cases a
   ·split at a
    ·cases a
    ·cases a
theorem RV.slice0 {N n c:Nat}{a:Z8 Addr}(b:fscP N a=true):RV g h N (.slice a n c) (.slice (a.map (ren g.δ)) n c):=by simp only[RV];exact ⟨b,trivial⟩
theorem gQ0 {N k:Nat}{a:Z8 Addr}(c:fscP N a=true):fscP N (a.map (·.add k))=true:=by
 cases a with
 | none=>exact c
 | some a=>
  rw[uT] at c ⊢
  exact uH0 c
theorem qL0 (c:Nat→Nat)(a:Z8 Addr)(k:Nat):(a.map (·.add k)).map (ren c)=(a.map (ren c)).map (·.add k):=by
 cases a with
 | none=>rfl
 | some a=>simp only[Option.map_some,fX0]
theorem fR0 {P:Z9}{N t n c:Nat}{a:Z8 Addr}{lo hi mx lo' hi' mx':Z8 Z6}{d:Z6}(v:OV g h N lo lo')(k:OV g h N hi hi')(x:OV g h N mx mx')(j:fscP N a=true)
  (b:kU P t a n c lo hi mx=some d):∃ u,kU P t (a.map (ren g.δ)) n c lo' hi' mx'=some u∧RV g h N d u:=by
 unfold kU at b ⊢
 split at b
 ·rename_i e q
  (try rw[q])
  (try dsimp only)
  split at b
  ·rename_i size p y
   (try rw[p,y])
   (try dsimp only)
   split at b
   ·rename_i l r m i
    obtain ⟨o,s,w⟩:=wN0 i
    rw[v.eq w,k.eq s,x.eq o,i]
    dsimp only at b ⊢
    split at b<;>cases b
    ·rename_i f
     (try rw[f])
     exact ⟨_,rfl,RV.slice0 j⟩
    ·rename_i f
     (try rw[f])
     refine ⟨_,rfl,?_⟩
     rw[← qL0]
     exact RV.slice0 (gQ0 j)
   ·cases b
  ·cases b
 ·cases b
theorem dR0 {P:Z9}{N t n c:Nat}{a:Z8 Addr}{lo hi mx lo' hi' mx':Z8 Z6}{e size:Nat}(b:P.underlying t=some (.slice e))(d:Nat.blt c UC=false):kU P t a n c lo hi mx=none:=by
 unfold kU
 rw[b]
 simp only[d]
 split<;>simp_all
theorem fP0 (H:Rel g σ h){P:Z9}{t n c:Nat}{a:Z8 Addr}{lo hi mx lo' hi' mx':Z8 Z6}{d:Z6}(C:OV g h σ.next lo lo')(y:OV g h σ.next hi hi')(F:OV g h σ.next mx mx')(q:fscP σ.next a=true)
  (f:kT P t a n c lo hi mx σ=some d):kU P t (a.map (ren g.δ)) n c lo' hi' mx'=none∧∃ u,kT P t (a.map (ren g.δ)) n c lo' hi' mx' h=some u∧RV g h σ.next d u:=by
 unfold kT at f ⊢
 split at f
 ·rename_i e b off v
  have x:=sc_p q
  (try rw[v])
  simp only[Option.map_some,ren]
  split at f
  ·rename_i size ds J A I
   obtain ⟨vs,w,D⟩:=H.cells x (.inr rfl) I
   (try rw[A])
   rw[w]
   (try dsimp only)
   split at f
   ·rename_i i
    rw[D.len,i]
    have s:Nat.blt c UC=false:=by
     simp only[Z5,Nat.ble_eq] at i
     rw[Bool.eq_false_iff];simp;omega
    refine ⟨dR0 (N:=0) (size:=size) (lo':=none) (hi':=none) (mx':=none) v s,?_⟩
    dsimp only
    split at f
    ·rename_i l r m p
     obtain ⟨z,B,E⟩:=wN0 p
     rw[C.eq E,y.eq B,F.eq z,p]
     dsimp only at f ⊢
     have o:∀ k,RV g h σ.next (.slice (some ((⟨b,off,none⟩:Addr).add k)) (r-l) (c+l)) (.slice (some ((⟨g.δ b,off,none⟩:Addr).add k)) (r-l) (c+l)):=λk=>by
      have:=RV.slice0 (g:=g) (h:=h) (n:=r-l) (c:=c+l) (gQ0 (k:=k) q)
      rw[qL0] at this
      exact this
     split at f
     ·rename_i k
      split at f<;>cases f
      ·rename_i j
       (try rw[j])
       exact ⟨_,rfl,RV.slice0 q⟩
      ·rename_i j
       (try rw[j])
       refine ⟨_,rfl,?_⟩
       have:=RV.slice0 (g:=g) (h:=h) (n:=r-l) (c:=k-l) (gQ0 (k:=l*size) q)
       rw[qL0] at this
       exact this
     ·split at f<;>cases f
      rename_i j
      (try rw[j])
      exact ⟨_,rfl,o _⟩
    ·cases f
   ·cases f
  ·cases f
 ·cases f
theorem mJ0 {P:Z9}{N t:Nat}{a:Addr}{lo hi mx lo' hi' mx':Z8 Z6}{d:Z6}(w:OV g h N lo lo')(o:OV g h N hi hi')(y:OV g h N mx mx')(j:fscP N (some a)=true)
  (b:jK0 P t a lo hi mx=some d):∃ u,jK0 P t (ren g.δ a) lo' hi' mx'=some u∧RV g h N d u:=by
 unfold jK0 at b ⊢
 split at b
 ·rename_i n e s
  (try rw[s])
  (try dsimp only)
  split at b
  ·rename_i size q z
   (try rw[q,z])
   (try dsimp only)
   split at b
   ·rename_i l r m i
    obtain ⟨p,v,x⟩:=wN0 i
    rw[w.eq x,o.eq v,y.eq p,i]
    dsimp only at b ⊢
    split at b<;>cases b
    ·rename_i f
     (try rw[f])
     exact ⟨_,rfl,RV.slice0 j⟩
    ·rename_i f
     (try rw[f])
     refine ⟨_,rfl,?_⟩
     have:=RV.slice0 (g:=g) (h:=h) (n:=r-l) (c:=m.getD n-l) (gQ0 (k:=l*size) j)
     rw[qL0] at this
     exact this
   ·cases b
  ·cases b
 ·cases b
theorem oN2 (A:Rel g σ h){P:Z9}{t:Zt}{x x':Z6}{lo hi mx lo' hi' mx':Z8 Z6}{d:Z6}(j:RV g h σ.next x x')(o:OV g h σ.next lo lo')(l:OV g h σ.next hi hi')(p:OV g h σ.next mx mx')
  (b:slV P t x lo hi mx σ=some d):∃ u,slV P t x' lo' hi' mx' h=some u∧RV g h σ.next d u:=by
 unfold slV at b
 split at b
 ·have e : (lo.all flat && hi.all flat && mx.all flat) = true := by
   cases y:(lo.all flat&&hi.all flat&&mx.all flat) with
   | true=>rfl
   | false=>rw[y] at b;cases b
  simp only[Z5] at e
  have z:lo'=lo:=o.eq λv i=>.inr (by have:=e.1.1;rw[i] at this;simpa using this)
  have s:hi'=hi:=l.eq λv i=>.inr (by have:=e.1.2;rw[i] at this;simpa using this)
  have r:mx'=mx:=p.eq λv i=>.inr (by have:=e.2;rw[i] at this;simpa using this)
  rw[j.str,z,s,r]
  exact ⟨d,b,RV.of_flat d (gU b).2.1⟩
 ·rename_i a n c
  simp only[RV] at j
  obtain ⟨m,rfl⟩:=j
  split at b
  ·rename_i u q
   cases b
   obtain ⟨w,f,k⟩:=fR0 o l p m q
   exact ⟨w,by simp only[slV,f],k⟩
  ·obtain ⟨h0,w,f,k⟩:=fP0 A o l p m b
   exact ⟨w,by simp only[slV,h0,f],k⟩
 ·rename_i a
  simp only[RV] at j
  obtain ⟨m,rfl⟩:=j
  obtain ⟨w,f,k⟩:=mJ0 o l p m b
  exact ⟨w,f,k⟩
 ·cases b
theorem kA1 {z:Z8 (Z8 (Zt×Nat))}{f:Zb}{e n:Nat}{cs:List Z6}{lo hi mx:Z8 Z6}{d:Z6}(a:slR z f e n cs lo hi mx=some d):∃ r,bounds n n mx hi lo=some r:=by
 unfold slR at a
 split at a
 ·split at a
  ·split at a
   ·exact ⟨_,by assumption⟩
   ·cases a
  ·cases a
 ·cases a
theorem oP2 (w:Rel g σ h){P:Z9}(o:g.P=P){t:Zt}{x x':Z6}{lo hi mx lo' hi' mx':Z8 Z6}{d:Z6}(c:RV g h σ.next x x')(j:OV g h σ.next lo lo')(b:OV g h σ.next hi hi')(m:OV g h σ.next mx mx')
  (a:slD P t x lo hi mx σ=some d):(∃ u,slV P t x' lo' hi' mx' h=some u∧RV g h σ.next d u)∨(slV P t x' lo' hi' mx' h=none∧∃ k i,tailV P t x' lo' hi' mx' h=some (k,i)∧RV g h σ.next d k∧RV g h σ.next d i):=by
 unfold slD at a
 split at a
 ·rename_i l z n y e f cs
  obtain ⟨r,p⟩:=kA1 a
  obtain ⟨q,s,v⟩:=wN0 p
  rw[j.eq v,b.eq s,m.eq q]
  refine oO2 o (f:=f) (e:=e) ?_ a
  unfold Rw
  simp only[RV] at c ⊢
  exact c
 ·exact .inl (oN2 w c j b m a)
theorem uV0:∀ {cs:List Z6} {l:List Zu},bytesOf cs=some l→qB cs=true
 | [],_,_=>rfl
 | v :: cs,l,h=>by
  unfold bytesOf at h
  split at h
  ·rename_i a;cases a
  ·rename_i a
   cases a
   split at h
   ·rename_i c
    simp only[qB,Ev.flat,uV0 c,Bool.and_self]
   ·cases h
  ·cases h
theorem bytesOf_bv:∀ {cs:List Z6} {l:List Zu},bytesOf cs=some l→∃ is:List Int,cs=bv is∧l=is.map λn=>UInt8.ofNat n.toNat
 | [],_,h=>by cases h;exact ⟨[],rfl,rfl⟩
 | v :: cs,l,h=>by
  unfold bytesOf at h
  split at h
  ·rename_i a;cases a
  ·rename_i n vs a
   cases a
   split at h<;>cases h
   rename_i b c
   obtain ⟨is,rfl,rfl⟩:=bytesOf_bv c
   exact ⟨n :: is,rfl,rfl⟩
  ·cases h
theorem wG3 (z:Rel g σ h){P:Z9}{s d:Zt}{x x':Z6}{u:Z6}(i:RV g h σ.next x x')(f:btS P s d x σ=some u):btS P s d x' h=some u∧flat u=true:=by
 unfold btS at f ⊢
 split at f
 ·rename_i e n c j r
  simp only[RV,Option.map_none] at i
  rw[j,r,i.2]
  (try dsimp only)
  split at f<;>cases f
  rename_i p
  (try rw[p])
  exact ⟨rfl,rfl⟩
 ·rename_i e a c j r
  simp only[RV,Option.map_some,ren] at i
  rw[j,r,i.2]
  show (match P.underlying e with|some (.int .u8)=>some (Value.string .empty)|_=>none)=_∧_
  split at f<;>cases f
  rename_i p
  (try rw[p])
  exact ⟨rfl,rfl⟩
 ·rename_i e b o n c k j r
  simp only[RV,Option.map_some,ren] at i
  rw[j,r,i.2]
  cases n with
  | zero=>first | exact absurd rfl k | exact (k _ rfl).elim | exact (k _ rfl rfl).elim | exact (k _ _ rfl rfl).elim | exact (k _ _ rfl).elim
  | succ n=>
   show (match P.underlying e,cells h (g.δ b) with|some (.int .u8),some (cs,_,_)=>(match takeN cs o (n+1) with|some l=>(match bytesOf l with|some l=>some (Value.string ⟨⟨l⟩⟩)|none=>none)|none=>none)|_,_=>none)=_∧_
   split at f
   ·rename_i ds C m p A
    obtain ⟨vs,D,v,_,t⟩:=z.cells' (sc_p i.1) A
    (try rw[p])
    rw[v]
    (try dsimp only)
    split at f
    ·rename_i l y
     obtain ⟨w,rfl⟩:=gH0 y
     rw[jU0 vs o (n+1) (by rw[t.len];exact w)]
     (try dsimp only)
     split at f<;>cases f
     rename_i B q
     have:=RVL.flat _ _ (uV0 q) ((t.drop o).take (n+1))
     rw[this,q]
     exact ⟨rfl,rfl⟩
    ·cases f
   ·cases f
 ·cases f
theorem wB3 (B:Rel g σ h){P:Z9}{s d:Zt}{x x':Z6}{u:Z6}(j:RV g h σ.next x x')(b:cvD P s d x σ=some u):cvV P s d x' h=some u∧flat u=true:=by
 unfold cvD at b
 split at b
 ·rename_i l E n D e f cs
  split at b
  ·rename_i y A
   obtain ⟨k,q⟩:=y
   split at b
   ·rename_i p
    split at b<;>cases b
    rename_i C o
    simp only[RV] at j
    obtain ⟨vs,r,a,c,size,rfl,v,_⟩:=j
    have:=RVL.flat _ _ (uV0 o) r
    subst this
    obtain ⟨is,rfl,rfl⟩:=bytesOf_bv o
    refine ⟨?_,rfl⟩
    exact wA3 A v.1 (by simpa[bv] using p)
   ·cases b
  ·cases b
 ·unfold cvV at b ⊢
  split at b
  ·rename_i w i
   cases b
   have m:flat x=true:=by
    unfold cvP at i
    cases m:flat x with
    | true=>rfl
    | false=>rw[m] at i;cases i
   have:=j.flat x x' m
   subst this
   rw[i]
   exact ⟨rfl,(gU i).2.1⟩
  ·rename_i i
   obtain ⟨r,v⟩:=wG3 B j b
   refine ⟨?_,v⟩
   by_cases m:flat x=true
   ·have:=j.flat x x' m
    subst this
    rw[i]
    exact r
   ·have t : flat x' = false := by
     cases x with
     | slice a n c=>
      simp only[RV] at j
      rw[j.2]
      cases a with
      | none=>exact absurd rfl m
      | some a=>rfl
     | _=>
      exfalso
      unfold btS at b
      split at b<;>first|(rename_i z;cases z;done)|cases b
    have:cvP P s d x'=none:=by unfold cvP pvF;rw[t]
    rw[this]
    exact r
theorem lJ2 (b:Rel g σ h){P:Z9}(r:g.P=P){D T:VT}(k:Tms g h σ.next D T){NG:Nat}(c:NG≤σ.lo){o:Op}{t:Zt}(l:o.operands.all (gA NG)=true){d:Z6}(i:tvD P o t D σ=some d) :
  (∃ v,tv P o t T h=some v∧RV g h σ.next d v)∨(tv P o t T h=none∧∃ q p,tw P o T h=some (q,p)∧RV g h σ.next d q∧RV g h σ.next d p):=by
 have e:∀ x∈o.operands,RV g h σ.next (ev D x) (ev T x):=λx e=>qT0 b k c (by
  rw[Array.all_eq_true_iff_forall_mem] at l;exact l x e)
 have f:∀ x∈o.operands,gA NG x=true:=λx e=>by rw[Array.all_eq_true_iff_forall_mem] at l;exact l x e
 unfold tvD at i
 split at i
 ·rename_i ty a
  exact .inl (sI0 b (e a (by simp[Op.operands])) i)
 ·rename_i ty x lo hi mx
  refine oP2 b r (e x (by simp[Op.operands])) (OV.ev b k c λy j=>?_) (OV.ev b k c λy j=>?_) (OV.ev b k c λy j=>?_) i
  ·subst j;exact f y (by simp[Op.operands])
  ·subst j;exact f y (by simp[Op.operands])
  ·subst j;exact f y (by simp[Op.operands])
 ·rename_i s A x
  obtain ⟨m,n⟩:=wB3 b (e x (by simp[Op.operands])) i
  exact .inl ⟨d,m,RV.of_flat d n⟩
 ·rename_i z w u
  obtain ⟨v,m,n⟩:=lK2 b k c l i
  refine .inl ⟨v,?_,n⟩
  unfold tv
  split
  ·exact absurd rfl (z _ _)
  ·exact absurd rfl (w _ _ _ _ _)
  ·exact absurd rfl (u _ _ _)
  ·exact m
end
def Agr (h h':jA):Prop:=∀ b,b<h.next→h'.get b=h.get b
structure Ext (g:Gh)(σ h:jA)(g':Gh)(σ' h':jA):Prop where
 P:g'.P=g.P
 H0:g'.H0=g.H0
 nn:σ.next≤σ'.next
 lo:σ'.lo=σ.lo
 next:h.next≤h'.next
 hlo:h'.lo=h.lo
 δ:∀ i,i<σ.next→g'.δ i=g.δ i
 F:∀ b,g.F b→g'.F b
 Fn:∀ b,g'.F b→g.F b∨h.next≤b∨∃ i,kZ σ i∧g.δ i=b
 fr:∀ b,b<h.next→(∀ i,kZ σ i→g.δ i≠b)→h'.get b=h.get b
 im:∀ i,kZ σ' i→kZ σ i∨h.next≤g'.δ i
section
variable {g g' g'':Gh} {σ σ' σ'' h h' h'':jA}
theorem Ext.refl:Ext g σ h g σ h:=⟨rfl,rfl,Z3 _,rfl,Z3 _,rfl,λ_ _=>rfl,λ_ h=>h,λ_ h=>.inl h,λ_ _ _=>rfl,λ_ h=>.inl h⟩
theorem Ext.trans (x:Ext g σ h g' σ' h')(y:Ext g' σ' h' g'' σ'' h''):Ext g σ h g'' σ'' h'':=by
 refine ⟨y.P.trans x.P,y.H0.trans x.H0,Nat.le_trans x.nn y.nn,y.lo.trans x.lo,Nat.le_trans x.next y.next,y.hlo.trans x.hlo,λi hi=>(y.δ i (Nat.lt_of_lt_of_le hi x.nn)).trans (x.δ i hi),λb d=>y.F b (x.F b d),λb d=>?_,λb d f=>?_,λi hi=>?_⟩
 ·rcases y.Fn b d with a|a|⟨i,a,e⟩
  ·exact x.Fn b a
  ·exact .inr (.inl (Nat.le_trans x.next a))
  ·rcases x.im i a with c|c
   ·exact .inr (.inr ⟨i,c,by rw[← x.δ i c.2.1];exact e⟩)
   ·exact .inr (.inl Z0)
 ·refine (y.fr b (Nat.lt_of_lt_of_le d x.next) λi hi=>?_).trans (x.fr b d f)
  rcases x.im i hi with c|c
  ·rw[x.δ i c.2.1];exact f i c
  ·omega
 ·rcases y.im i hi with a|a
  ·rcases x.im i a with e|e
   ·exact .inl e
   ·exact .inr (by rw[y.δ i a.2.1];exact e)
  ·exact .inr (Nat.le_trans x.next a)
theorem Ext.e0 (x:Ext g σ h g' σ' h')(d:Rel g σ h):Ext0 g h σ.next g' h' σ'.next:=
 ⟨x.P,x.nn,x.δ,x.F,x.next,x.hlo,λb c a=>x.fr b a λi hi=>(d.frz b c).2 i hi⟩
theorem Agr.add (x:qW):Agr h (h.add x):=λb a=>qF x b Z0
theorem Rel.own (b:Rel g σ h){i:Nat}{x:qW}(hi:i<σ.next)(a:σ.lo≤i)(c:σ.get i=some x):kZ σ i:=⟨a,hi,by rw[c];rfl⟩
theorem ObjR.ext {N k b:Nat}{o:Prop}(x:Ext0 g h N g' h' k)(i:h'.get b=h.get b){y:qW}(f:ObjR g h N o b y):ObjR g' h' k o b y:=by
 obtain ⟨q,m⟩:=y
 cases q with
 | cells cs e n=>
  obtain ⟨ds⟩:=cs
  obtain ⟨vs,l,d,h0,a,j⟩:=f
  exact ⟨vs,l,(qV i).trans d,h0,a.ext x,j⟩
 | loop r=>
  obtain ⟨us,d,a,j⟩:=f
  exact ⟨us,by rw[i,d,x.δ _ a],Nat.lt_of_lt_of_le a x.nn,j.ext x⟩
 | pending c e=>
  obtain ⟨ds⟩:=c
  obtain ⟨vs,d,a⟩:=f
  exact ⟨vs,by rw[i,d],a.ext x⟩
 | _=>exact i.trans f
theorem ObjR.imp {N b:Nat}{o c:Prop}{y:qW}(a:ObjR g h N o b y)(i:c→o):ObjR g h N c b y:=by
 obtain ⟨q,m⟩:=y
 cases q with
 | cells cs e l=>
  obtain ⟨ds⟩:=cs
  obtain ⟨vs,j,d,h0,k,f⟩:=a
  exact ⟨vs,j,d,λh=>h0 (i h),k,f⟩
 | _=>exact a
theorem Rel.dne (a:Rel g σ h){i b:Nat}{x:qW}(hi:i<σ.next)(d:σ.get i=some x)(k:kZ σ b)(f:i≠b):g.δ i≠g.δ b:=by
 intro e
 by_cases j:σ.lo≤i
 ·exact f (a.inj i b (a.own hi j d) k e)
 ·obtain ⟨l,c⟩:=a.baseD i Z0
  rcases c with c|c
  ·have:=a.dlo b k
   omega
  ·rw[c] at d;cases d
def Gh.new (g:Gh)(i b:Nat):Gh:={ g with δ:=λj=>if j=i then b else g.δ j }
theorem dA0 (f:Rel g σ h){x y:qW}(s:∀ h' g' q,Ext0 g h σ.next g' h' q→h'.get h.next=some y→ObjR g' h' q True h.next x) :
  Ext g σ h (g.new σ.next h.next) (σ.add x) (h.add y)∧Rel (g.new σ.next h.next) (σ.add x) (h.add y)∧Agr h (h.add y):=by
 have c:∀ i,i<σ.next→(g.new σ.next h.next).δ i=g.δ i:=λi hi=>if_neg Z0
 have a:(g.new σ.next h.next).δ σ.next=h.next:=if_pos rfl
 have d:∀ i,kZ (σ.add x) i→kZ σ i∨i=σ.next:=λi ⟨k,l,o⟩=>by
  rw[jB] at l
  rw[jM] at k
  by_cases e:i=σ.next
  ·exact .inr e
  ·rw[qF x i e] at o
   exact .inl ⟨k,Z0,o⟩
 have ext:Ext g σ h (g.new σ.next h.next) (σ.add x) (h.add y):=by
  refine ⟨rfl,rfl,by rw[jB];omega,jM x,by rw[jB];omega,jM y,c,λ_ m=>m,λ_ m=>.inl m,λb m _=>qF y b Z0,λi hi=>?_⟩
  rcases d i hi with k|rfl
  ·exact .inl k
  ·exact .inr (by rw[a];exact Z3 _)
 refine ⟨ext,?_,Agr.add y⟩
 have e0:=ext.e0 f
 have r:=f.lon
 refine ⟨by rw[jM];exact f.pos,by rw[jM];exact f.lo,by rw[jM,jB];omega,by rw[jM,jB];have:=f.hlo;omega,λi hi=>?_,λi z hi n=>?_,λi hi=>?_,λi z hi n=>?_,λi hi=>?_,λi hi=>?_,λi j hi p e=>?_,λb m=>?_,λb m=>?_⟩
 ·rw[jM] at hi;rw[qF x i Z0];exact f.base i hi
 ·rw[jM] at hi;rw[qF x i Z0] at n;exact f.baseF i z hi n
 ·rw[jM] at hi;rw[qF x i Z0,jM,c i Z0];exact f.baseD i hi
 ·rw[jB] at hi ⊢
  by_cases e:i=σ.next
  ·subst e
   rw[kM x _ rfl] at n
   cases n
   rw[a]
   exact (s _ _ _ (by rw[jB] at e0;exact e0) (kM y _ rfl)).imp λ_=>trivial
  ·rw[qF x i e] at n
   rw[c i Z0]
   rw[jB] at e0
   exact ((f.obj i z Z0 n).ext e0 (qF y _ (by have:=f.dlt i Z0;omega))).imp λh=>by rw[jM] at h;exact h
 ·rw[jB] at hi ⊢
  by_cases e:i=σ.next
  ·subst e;rw[a];omega
  ·rw[c i Z0];have:=f.dlt i Z0;omega
 ·rw[jM]
  rcases d i hi with k|rfl
  ·rw[c i k.2.1];exact f.dlo i k
  ·rw[a];exact f.hlo
 ·rcases d i hi with k|rfl
  ·rcases d j p with l|rfl
   ·rw[c i k.2.1,c j l.2.1] at e
    exact f.inj i j k l e
   ·rw[c i k.2.1,a] at e
    have:=f.dlt i k.2.1
    omega
  ·rcases d j p with l|rfl
   ·rw[c j l.2.1,a] at e
    have:=f.dlt j l.2.1
    omega
   ·rfl
 ·obtain ⟨k,l⟩:=f.frz b m
  refine ⟨by rw[jB];omega,λi hi=>?_⟩
  rcases d i hi with o|rfl
  ·rw[c i o.2.1];exact l i o
  ·rw[a];omega
 ·rw[jB] at m;rw[qF y b Z0];exact f.wf b Z0
theorem wV0 (d:Rel g σ h){b:Nat}(f:kZ σ b){x y:qW}(p:∀ h',h'.get (g.δ b)=some y→Ext0 g h σ.next g h' σ.next→ObjR g h' σ.next True (g.δ b) x) :
  Ext g σ h g (σ.put b x) (h.put (g.δ b) y)∧Rel g (σ.put b x) (h.put (g.δ b) y):=by
 have a:∀ i,kZ (σ.put b x) i→kZ σ i:=λi ⟨m,n,o⟩=>by
  by_cases e:i=b
  ·subst e;exact f
  ·rw[qC b x i e] at o
   exact ⟨m,n,o⟩
 have ext:Ext g σ h g (σ.put b x) (h.put (g.δ b) y):=
  ⟨rfl,rfl,Z3 _,rfl,Z3 _,rfl,λ_ _=>rfl,λ_ f=>f,λ_ f=>.inl f,λc l q=>qC _ y c (λe=>q b f e.symm),λi hi=>.inl (a i hi)⟩
 refine ⟨ext,?_⟩
 have e0:=ext.e0 d
 refine ⟨d.pos,d.lo,d.lon,d.hlo,λi hi=>?_,λi z hi k=>?_,λi hi=>?_,λi z hi k=>?_,d.dlt,λi hi=>d.dlo i (a i hi),λi j hi r e=>d.inj i j (a i hi) (a j r) e,λc l=>?_,λc l=>?_⟩
 ·have hi:i<σ.lo:=hi
  rw[qC b x i (by have:=f.1;omega)];exact d.base i hi
 ·have hi:i<σ.lo:=hi
  rw[qC b x i (by have:=f.1;omega)] at k;exact d.baseF i z hi k
 ·have hi:i<σ.lo:=hi
  rw[qC b x i (by have:=f.1;omega)];exact d.baseD i hi
 ·have hi:i<σ.next:=hi
  by_cases e:i=b
  ·subst e
   rw[uV] at k
   cases k
   exact (p _ (uV _ _) e0).imp λ_=>trivial
  ·rw[qC b x i e] at k
   exact (d.obj i z hi k).ext e0 (qC _ y _ (d.dne hi k f e))
 ·obtain ⟨m,n⟩:=d.frz c l
  exact ⟨m,λi hi=>n i (a i hi)⟩
 ·have l:h.next≤c:=l
  rw[qC _ y c (by have:=d.dlt b f.2.1;omega)];exact d.wf c l
def Gh.fix (g:Gh)(b:Nat):Gh:={ g with F:=λc=>g.F c∨c=b }
theorem lO1 (a:Rel g σ h)(y:qW):Ext g σ h (g.fix h.next) σ (h.add y)∧Rel (g.fix h.next) σ (h.add y)∧Agr h (h.add y):=by
 have ext:Ext g σ h (g.fix h.next) σ (h.add y):=
  ⟨rfl,rfl,Z3 _,rfl,by rw[jB];omega,jM y,λ_ _=>rfl,λ_ c=>.inl c,λb c=>by
   rcases c with c|c
   ·exact .inl c
   ·exact .inr (.inl Z0),λb c _=>qF y b Z0,λi hi=>.inl hi⟩
 refine ⟨ext,?_,Agr.add y⟩
 have e0:=ext.e0 a
 refine ⟨a.pos,a.lo,a.lon,by rw[jM,jB];have:=a.hlo;omega,a.base,a.baseF,λi hi=>by rw[jM];exact a.baseD i hi,λi z hi d=>?_,λi hi=>by rw[jB];have:=a.dlt i hi;show g.δ i<_;omega,λi hi=>by rw[jM];exact a.dlo i hi,a.inj,λb c=>?_,λb c=>?_⟩
 ·exact (a.obj i z hi d).ext e0 (qF y _ (by have:=a.dlt i hi;omega))
 ·rw[jB]
  rcases c with c|rfl
  ·obtain ⟨f,e⟩:=a.frz b c
   exact ⟨Z0,e⟩
  ·exact ⟨Z0,λi hi=>by have:=a.dlt i hi.2.1;show g.δ i≠_;omega⟩
 ·rw[jB] at c;rw[qF y b Z0];exact a.wf b Z0
theorem gN2 (n:Rel g σ h){b:Nat}(a:kZ σ b){x y:qW}{e:Zt}{cs us:List Z6}(f:RVL g h σ.next cs us)(p:∀ h' g' l,Ext0 g h σ.next g' h' l→h'.get h.next=some y→ObjR g' h' l True h.next x) :
  Ext g σ h (g.new σ.next h.next) { t:=(σ.t.put σ.next x).put b (qO σ.next e cs),next:=σ.next+1,lo:=σ.lo } { t:=(h.t.put h.next y).put (g.δ b) (qO h.next e us),next:=h.next+1,lo:=h.lo }∧
  Rel (g.new σ.next h.next) { t:=(σ.t.put σ.next x).put b (qO σ.next e cs),next:=σ.next+1,lo:=σ.lo } { t:=(h.t.put h.next y).put (g.δ b) (qO h.next e us),next:=h.next+1,lo:=h.lo }:=by
 obtain ⟨j,q,_⟩:=dA0 n (x:=x) (y:=y) p
 have c:(g.new σ.next h.next).δ b=g.δ b:=if_neg (by have:=a.2.1;omega)
 have d:(g.new σ.next h.next).δ σ.next=h.next:=if_pos rfl
 have i:kZ (σ.add x) b:=⟨by rw[jM];exact a.1,by rw[jB];have:=a.2.1;omega,by rw[qF x b (by have:=a.2.1;omega)];exact a.2.2⟩
 obtain ⟨k,m⟩:=wV0 q i (x:=qO σ.next e cs) (y:=qO h.next e us) λh' o u=>by
  refine ⟨.pointer (some ⟨h.next,0,none⟩) :: us,o,RVL.cons ?_ ((f.ext (j.e0 n)).ext u)⟩
  simp only[RV,Option.map_some,ren,d]
  exact ⟨by rw[uT];simp[Ev.sc,scA,jB],trivial⟩
 rw[c] at k m
 have r:((σ.add x).put b (qO σ.next e cs))={ t:=(σ.t.put σ.next x).put b (qO σ.next e cs),next:=σ.next+1,lo:=σ.lo }:=by
  unfold jA.add
  rw[jA.new_eq]
  rfl
 have s:((h.add y).put (g.δ b) (qO h.next e us))={ t:=(h.t.put h.next y).put (g.δ b) (qO h.next e us),next:=h.next+1,lo:=h.lo }:=by
  unfold jA.add
  rw[jA.new_eq]
  rfl
 rw[← r,← s]
 exact ⟨j.trans k,m⟩
theorem dH2 (d:Rel g σ h){b c:Nat}{e:Zt}{cs ds:List Z6}{fr0:Nat×Nat}(A:σ.lo≤b)(q:σ.get b=some (qO c e cs))(k:b<σ.next)(l:c<σ.next)(m:σ.lo≤c)(o:σ.get c=some ⟨.cells ⟨cs++ds⟩ e fr0,true⟩)(i:cs.all one=true)(z:qB (cs++ds)=true)(r:qB cs=true) :
  ∃ h',(∀ (p:Par) (t:Gam) (w:Zw),qI p t h w→qI p t h' w)∧h'.next=h.next∧
   Ext g σ h g ((σ.put c dead).put b (O cs e true)) h'∧Rel g ((σ.put c dead).put b (O cs e true)) h':=by
 have a:kZ σ b:=d.own k A q
 have s:kZ σ c:=d.own l m o
 obtain ⟨N,f,F⟩:=d.obj b _ k q
 simp only[RVL] at F
 obtain ⟨v,us,rfl,C,D⟩:=F
 simp only[RV,Option.map_some,ren] at C
 obtain ⟨_,rfl⟩:=C
 obtain ⟨vs,n,M,k0,H,T⟩:=d.obj c _ l o
 obtain rfl:=k0 m
 obtain rfl:=RVL.flat _ _ z H
 obtain rfl:=RVL.flat _ _ r D
 have B:b≠c:=λK=>by subst K;rw[q] at o;cases o
 obtain ⟨E,I⟩:=wV0 d s (x:=dead) (y:=dead) λh' f _=>f
 have j:kZ (σ.put c dead) b:=⟨a.1,a.2.1,by rw[qC c dead b B];exact a.2.2⟩
 obtain ⟨J,P⟩:=wV0 I j (x:=O us n true) (y:=O us n true) λh' f x=>⟨us,n,by unfold Ev.cells;rw[f];rfl,λ_=>rfl,(D.ext (E.e0 d)).ext x,i⟩
 refine ⟨(h.put (g.δ c) dead).put (g.δ b) (O us n true),λp t w L=>?_,rfl,E.trans J,P⟩
 obtain ⟨R,u⟩:=gM M
 exact L.back f u
end
def bxD (e:Zt)(v:Z6)(σ:jA):Z8 (Z6×jA):=if v.cells.toList.all one=true then some (.pointer (some ⟨σ.next,0,none⟩),σ.add (O v.cells.toList e false)) else none
def bxQ (c:Zb)(e:Zt)(v:Z6)(σ:jA):Z8 (Z6×jA):=match c with
 | true=>if v.cells.toList.all one=true∧0<v.cells.toList.length then some (Rpt 0 v.cells.toList,σ) else none
 | false=>bxD e v σ
def bsD (q:Zb)(z:Z8 (Zt×Nat×List Z6))(len:Nat)(a:List (Nat×Z6))(σ:jA):Z8 (Z6×jA):=match z with
 | some (e, n, zs) => if len * n ≤ 16777216 then
   match cA ((List.range len).map (λi=>(i*n,n))) (List.replicate len zs).flatten a with
   | some cs=>if cs.all one=true then (if q=true∨len=0 then some (.slice (some ⟨σ.next,0,none⟩) len len,σ.add (O cs e false)) else some (Rw true e len cs,σ)) else none
   | none=>none
  else none
 | none=>none
def stD (n:Z8 Nat)(a v:Z6)(σ:jA):Z8 (Z6×jA):=match n,a with
 | some n,.pointer (some ⟨b,off,none⟩)=>match cells σ b with
  | some (cs,e,m)=>if v.cells.toList.length=n∧v.cells.toList.all one=true∧σ.lo≤b∧off+n≤cs.length then some (undef,σ.put b (O (setFrom cs off v.cells.toList) e m)) else none
  | none=>none
 | _,_=>none
def srcD (size:Nat)(x:Z6)(σ:jA):Z8 (Nat×List Z6):=match x with
 | .func (.yield _) ⟨[.int _ (.ofNat m),.int _ (.ofNat _),.bool _]⟩ ⟨xs⟩=>if xs.length=m*size then some (m,xs) else none
 | x=>match lenV x with
  | some m=>match uZ size m x σ with | some xs=>if xs.length=m*size∧xs.all one=true then some (m,xs) else none | none=>none
  | none=>none
def apB (e size by_:Nat)(s:Z6)(m:Nat)(xs:List Z6)(σ:jA):Z8 (Z6×jA):=match s with
 | .slice none 0 0=>if m=0 then some (.slice none 0 0,σ) else if m*by_≤140737488355328∧m<100000000000000 then some (.slice (some ⟨σ.next,0,none⟩) m UC,σ.add (O xs e true)) else none
 | .slice (some ⟨b,0,none⟩) n c=>match cells σ b with
  | some (cs, e', mo) => if e' = e ∧ σ.lo ≤ b ∧ cs.length = n * size ∧ (n + m) * by_ ≤ 140737488355328 ∧ (n + m) < 100000000000000 then
    (if mo=true∧c=UC then some (.slice (some ⟨σ.next,0,none⟩) (n+m) UC,{ t:=(σ.t.put σ.next (O (cs++xs) e true)).put b (qO σ.next e cs),next:=σ.next+1,lo:=σ.lo })
     else if mo=false∧c=n then (if m=0 then some (.slice (some ⟨b,0,none⟩) n c,σ) else some (.slice (some ⟨σ.next,0,none⟩) (n+m) UC,σ.add (O (cs++xs) e true)))
     else none)
   else none
  | none=>none
 | .func (.yield _) ⟨[.int _ (.ofNat n), .int _ (.ofNat _), .bool true]⟩ ⟨cs⟩ => if cs.length = n * size ∧ ((n + m) * by_ ≤ 140737488355328 ∧ (n + m) < 100000000000000) ∧ cs.all one = true then
   (if m=0 then some (s,σ) else some (.slice (some ⟨σ.next,0,none⟩) (n+m) UC,σ.add (O (cs++xs) e true))) else none
 | _=>none
def apD (z:Z8 (Zt×Nat×Nat))(s x:Z6)(σ:jA):Z8 (Z6×jA):=match z with
 | some (e,size,by_)=>match srcD size x σ with
  | some (m,xs)=>if xs.all one=true then apB e size by_ s m xs σ else none
  | none=>none
 | none=>none
def teD (P:Z9)(q:Nat→Zb)(o:Op)(t:Zt)(tm:VT)(σ:jA):Z8 (Z6×jA):=match o with
 | .alloc e=>alE (zro P e) e σ
 | .box e x=>bxQ (q (e+1000000)) e (ev tm x) σ
 | .buildSlice ty len b=>bsD (q ty) (slT P ty) len (b.toList.map λx=>(x.1,ev tm x.2)) σ
 | .store ty a x=>stD (szT P ty) (ev tm a) (ev tm x) σ
 | .makeSlice ty l c=>msE (mkT P ty) (ev tm l) (ev tm c) σ
 | .call ⟨.builtin .append,⟨[s,x]⟩,⟨[sT,xT]⟩⟩=>apD (appT P sT xT) (ev tm s) (ev tm x) σ
 | .range ty x=>rgV P ty (ev tm x) σ
 | .next x true=>nxE (ev tm x) σ
 | _=>none
def nA0 (s:Z6)(σ:jA):Zb:=match s with
 | .slice (some ⟨b,_,_⟩) _ _=>match cells σ b with
  | some (_,_,mo)=>!mo
  | none=>true
 | _=>true
def dA (o:Op)(tm:VT)(σ:jA):Zb:=match o with
 | .alloc _=>true
 | .box _ _=>true
 | .buildSlice _ _ _=>true
 | .makeSlice _ _ _=>true
 | .call ⟨.builtin .append,⟨[s,_]⟩,_⟩=>nA0 (ev tm s) σ
 | _=>false
section
variable {g:Gh} {σ h:jA}
theorem jP0 (f:Rel g σ h){ds vs:List Z6}(b:RVL g h σ.next ds vs)(e:ds.all one=true):gD h.next vs=true:=by
 rw[gO,RVL.sc f.dlt ds vs b,Bool.and_true,List.all_eq_true]
 intro v c
 obtain ⟨i,hi⟩:=List.getElem?_of_mem c
 have a:i<ds.length:=by have:=(List.getElem?_eq_some_iff.1 hi).1;rw[b.len] at this;exact this
 obtain ⟨u,d,j⟩:=b.get (List.getElem?_eq_getElem a)
 rw[hi] at d
 cases d
 rw[j.one]
 exact List.all_eq_true.1 e _ (List.getElem_mem a)
def Eff (g:Gh)(σ h:jA)(a:Zb)(d:Z6)(σ':jA)(v:Z6)(c:jA):Prop:=
 ∃ g',Ext g σ h g' σ' c∧Rel g' σ' c∧RV g' c σ'.next d v∧(a=true→Agr h c)
theorem yC0 {g':Gh}{a:jA}{c b:Nat}{ds vs:List Z6}{e:Zt}{m:Zb}(i:a.get b=some (O vs e m))(d:RVL g' a c ds vs)(f:ds.all one=true):ObjR g' a c True b (O ds e m):=by
 refine ⟨vs,e,?_,λ_=>rfl,d,f⟩
 unfold Ev.cells
 rw[i]
 rfl
theorem RV.p0 {N i:Nat}(hi:i<N):RV g h N (.pointer (some ⟨i,0,none⟩)) (.pointer (some ⟨g.δ i,0,none⟩)):=by
 simp only[RV,Option.map_some,ren]
 exact ⟨by rw[uT];simp[Ev.sc,scA,hi],trivial⟩
theorem RV.s0 {N i n c:Nat}(hi:i<N):RV g h N (.slice (some ⟨i,0,none⟩) n c) (.slice (some ⟨g.δ i,0,none⟩) n c):=by
 simp only[RV,Option.map_some,ren]
 exact ⟨by rw[uT];simp[Ev.sc,scA,hi],trivial⟩
theorem zK1 (i:Rel g σ h){ds vs:List Z6}(a:RVL g h σ.next ds vs)(b:ds.all one=true)(e:Zt)(m:Zb) :
  ∃ g',Ext g σ h g' (σ.add (O ds e m)) (h.add (O vs e m))∧Rel g' (σ.add (O ds e m)) (h.add (O vs e m))∧g'.δ σ.next=h.next∧Agr h (h.add (O vs e m)):=by
 obtain ⟨j,c,d⟩:=dA0 i (x:=O ds e m) (y:=O vs e m) λl g' k x f=>yC0 f (a.ext x) b
 exact ⟨_,j,c,if_pos rfl,d⟩
theorem zJ1 (i:Rel g σ h){ds vs:List Z6}(a:RVL g h σ.next ds vs)(b:ds.all one=true)(e:Zt)(m:Zb):Eff g σ h true (.pointer (some ⟨σ.next,0,none⟩)) (σ.add (O ds e m)) (.pointer (some ⟨h.next,0,none⟩)) (h.add (O vs e m)):=by
 obtain ⟨g',j,c,d,f⟩:=zK1 i a b e m
 refine ⟨g',j,c,?_,λ_=>f⟩
 rw[← d]
 exact RV.p0 (by rw[jB];omega)
theorem kP0 (j:Rel g σ h){ds vs:List Z6}(a:RVL g h σ.next ds vs)(d:ds.all one=true)(e:Zt)(m:Zb)(n c:Nat)(p:Zb):Eff g σ h p (.slice (some ⟨σ.next,0,none⟩) n c) (σ.add (O ds e m)) (.slice (some ⟨h.next,0,none⟩) n c) (h.add (O vs e m)):=by
 obtain ⟨g',k,b,f,i⟩:=zK1 j a d e m
 refine ⟨g',k,b,?_,λ_=>i⟩
 rw[← f]
 exact RV.s0 (by rw[jB];omega)
theorem wT1 {n:Nat}{e:List Z6}(j:qB e=true):qB (List.replicate n e).flatten=true:=by
 have c:=kF0 j
 have b:∀ l:List Z6,(∀ v∈l,flat v=true)→qB l=true:=by
  intro l
  induction l with
  | nil=>intro _;rfl
  | cons x l i=>intro d;simp only[qB,d x (List.mem_cons_self ..),i λv a=>d v (List.mem_cons_of_mem _ a),Bool.and_self]
 refine b _ λv a=>?_
 simp only[List.mem_flatten] at a
 obtain ⟨l,f,a⟩:=a
 rw[(List.mem_replicate.1 f).2] at a
 exact c v a
theorem kA2 {P:Z9}{t e n:Nat}{b:List Z6}(a:slT P t=some (e,n,b)):P.underlying t=some (.slice e)∧szT P e=some n∧0<n∧b.length=n∧qB b=true∧gD 0 b=true:=by
 unfold slT at a
 split at a
 ·rename_i j f
  split at a
  ·rename_i i hi
   split at a
   ·rename_i z d
    split at a
    ·rename_i c
     cases a
     simp only[Z5,Nat.beq_eq,Nat.blt_eq] at c
     exact ⟨f,by unfold szT;rw[hi],c.1.1.2,by simpa using c.1.1.1,c.1.2,c.2⟩
    ·cases a
   ·cases a
  ·cases a
 ·cases a
theorem nX0 {pl:List (Nat×Nat)}:∀ {a:List (Nat×Z6)} {cs ds:List Z6},cA pl cs a=some ds→ds.length=cs.length
 | [],cs,ds,he=>by simp only[cA] at he;cases he;rfl
 | (i,d) :: a,cs,ds,he=>by
  simp only[cA] at he
  split at he
  ·split at he
   ·rename_i c
    rw[nX0 he]
    unfold setFrom
    simp only[List.length_append,List.length_take,List.length_drop]
    omega
   ·cases he
  ·cases he
theorem tL2 (n:Nat)(a:List Z6):(List.replicate n a).flatten.length=n*a.length:=by simp[List.length_flatten]
theorem wH3 (i:Rel g σ h){P:Z9}(I:g.P=P){q:Zb}{ty len:Nat}{l ps':List (Nat×Z6)}{d:Z6}{σ':jA}(y:l.map (·.1)=ps'.map (·.1))(F:RVL g h σ.next (l.map (·.2)) (ps'.map (·.2)))
  (a:bsD q (slT P ty) len l σ=some (d,σ')):∃ v u,bsE (slT P ty) len ps' h=some (v,u)∧Eff g σ h true d σ' v u:=by
 unfold bsD at a
 split at a
 ·rename_i e n M t
  obtain ⟨J,N,x,z,D,L⟩:=kA2 t
  split at a
  ·rename_i j
   split at a
   ·rename_i cs p
    obtain ⟨vs,k,c⟩:=lB0 (RVL.of_flat _ (wT1 (n:=len) D)) y F p
    split at a
    ·rename_i r
     have H:=jP0 i c r
     have w:bsE (slT P ty) len ps' h=some (.slice (some ⟨h.next,0,none⟩) len len,h.add (O vs e false)):=by
      rw[t]
      simp only[bsE,if_pos j,k,if_pos H]
     split at a
     ·cases a
      exact ⟨_,_,w,kP0 i c r e false len len true⟩
     ·cases a
      refine ⟨_,_,w,?_⟩
      obtain ⟨m,C,E⟩:=lO1 i (O vs e false)
      refine ⟨_,m,C,?_,λ_=>E⟩
      have f:cells (h.add (O vs e false)) h.next=some (vs,e,false):=qM _ _ _ _ rfl
      refine RV.mkRow (size:=n) (c.ext (m.e0 i)) ⟨Sl.row f (by rw[jM];exact i.hlo),λb A=>?_⟩ (λ_=>rfl) x ?_ (.inl ⟨?_,Z3 _⟩)
      ·obtain ⟨o,s,e⟩:=A
       cases e
       exact ⟨by rw[jB];omega,.inr rfl⟩
      ·rw[c.len,nX0 p,tL2,z]
      ·have K:len≤len*n:=Nat.le_mul_of_pos_right _ x
       have B:=U_UC
       unfold U at B
       omega
    ·cases a
   ·cases a
  ·cases a
 ·cases a
theorem oI2 (q:Rel g σ h){n:Z8 Nat}{a D v r:Z6}{d:Z6}{σ':jA}(A:RV g h σ.next a D)(J:RV g h σ.next v r)(k:stD n a v σ=some (d,σ')) :
  ∃ u w,stE n D r h=some (u,w)∧Eff g σ h false d σ' u w:=by
 unfold stD at k
 split at k
 ·rename_i n b off
  simp only[RV,Option.map_some,ren] at A
  obtain ⟨M,rfl⟩:=A
  have s:=sc_p M
  split at k
  ·rename_i cs e m i
   split at k<;>cases k
   rename_i o
   obtain ⟨I,z,B,K⟩:=o
   obtain ⟨vs,E,C⟩:=q.cells s (.inl B) i
   have l:=J.cells
   have p:(σ.get b).isSome=true:=by
    unfold Ev.cells at i
    split at i
    ·rename_i p;rw[p];rfl
    ·cases i
   have f:kZ σ b:=⟨B,s,p⟩
   have j:cs.all one=true:=by
    unfold Ev.cells at i
    split at i
    ·rename_i N R P T p
     cases i
     obtain ⟨_,_,_,_,_,F⟩:=q.obj b _ s p
     exact F
    ·cases i
   refine ⟨undef,h.put (g.δ b) (O (setFrom vs off r.cells.toList) e m),?_,?_⟩
   ·unfold stE
    dsimp only
    rw[E]
    dsimp only
    rw[if_pos ⟨by rw[l.len];exact I,jP0 q l z,q.dlo b f,by rw[C.len];exact K⟩]
   ·obtain ⟨H, L⟩ := wV0 q f (x := O (setFrom cs off v.cells.toList) e m) (y := O (setFrom vs off r.cells.toList) e m) fun w t x => yC0 t ((C.setFrom l off).ext x) (by
     rw[List.all_eq_true] at j z ⊢
     intro u c
     simp only[setFrom,List.mem_append] at c
     rcases c with (c|c)|c
     ·exact j u (List.mem_of_mem_take c)
     ·exact z u c
     ·exact j u (List.mem_of_mem_drop c))
    exact ⟨g,H,L,RV.undef,λe=>by cases e⟩
  ·cases k
 ·cases k
theorem qT2 {a b:Nat}(h:a<b):Nat.blt a b=true:=by rw[Nat.blt_eq];exact h
theorem qV2 {a b:Nat}(h:¬ a<b):Nat.blt a b=false:=by
 cases c:Nat.blt a b with
 | false=>rfl
 | true=>rw[Nat.blt_eq] at c;exact absurd c h
theorem ble_f {a b:Nat}(h:¬ a≤b):Nat.ble a b=false:=by
 cases c:Nat.ble a b with
 | false=>rfl
 | true=>rw[Nat.ble_eq] at c;exact absurd c h
theorem yP0 {P:Z9}{p o e n by_:Nat}(A:appT P p o=some (e,n,by_)){base:Z8 Addr}{len cap m:Nat}{cs xs:List Z6}{x:Z6}(y:lenV x=some m)(w:uZ n m x h=some xs)
  (q:cap<UC) (B:cap<len+m) (t:uZ n len (.slice base len cap) h=some cs) (d:gD h.next (cs++xs)=true) (s:(len+m)*by_≤140737488355328∧(len+m)<100000000000000) :
  bI P p o (.slice base len cap) x h=some (.slice (some ⟨h.next,0,none⟩) (len+m) UC,h.add (O (cs++xs) e true)):=by
 obtain ⟨C,i,z,u,f,l,hi,v,j,c,k,r⟩:=wA0 A
 have b:(Nat.ble ((len+m)*i.bytes) 140737488355328&&Nat.blt (len+m) U)=true:=by
  rw[k];simp only[Z5,Nat.ble_eq,Nat.blt_eq];unfold U;exact s
 have a:(Nat.beq z.cells.size i.size&&Nat.blt 0 i.size)=true:=by
  rw[c];simp only[Z5,Nat.beq_eq,Nat.blt_eq];exact ⟨j,r⟩
 rw[yK0 u f l hi y]
 unfold wW1
 dsimp only
 rw[c,w,qT2 q]
 dsimp only
 rw[ble_f Z0]
 dsimp only
 rw[t,v]
 rw[c] at a
 simp only[b,a,zY0 d]
theorem lR0 {P:Z9}{l k e n by_:Nat}(v:appT P l k=some (e,n,by_)){base:Z8 Addr}{len cap:Nat}{x:Z6}(t:lenV x=some 0)(r:uZ n 0 x h=some [])(m:cap<UC)(u:len≤cap)(y:fL0 base) :
  bI P l k (.slice base len cap) x h=some (.slice base len cap,h):=by
 obtain ⟨B,i,z,d,c,f,hi,A,p,j,q,w⟩:=wA0 v
 rw[yK0 d c f hi t]
 unfold wW1
 dsimp only
 rw[j,r,qT2 m]
 dsimp only
 rw[show Nat.ble (len+0) cap=true by simpa using u]
 dsimp only
 cases base with
 | none=>rfl
 | some a=>
  obtain ⟨b,o,s⟩:=a
  rfl
theorem cX0 {P:Z9}{s r e n by_:Nat}(E:appT P s r=some (e,n,by_)){b len m:Nat}{cs xs:List Z6}{x:Z6}(D:lenV x=some m)(C:uZ n m x h=some xs)
  (F:cells h b=some (cs,e,true)) (p:h.lo≤b) (l:cs.length=len*n) (f:gD h.next xs=true) (w:(len+m)*by_≤140737488355328∧(len+m)<100000000000000) :
  bI P s r (.slice (some ⟨b,0,none⟩) len UC) x h=some (.slice (some ⟨h.next,0,none⟩) (len+m) UC,{ t:=(h.t.put h.next ⟨.cells ⟨cs++xs⟩ e,true⟩).put b (qO h.next e cs),next:=h.next+1,lo:=h.lo }):=by
 obtain ⟨H,i,z,A,j,q,hi,B,k,c,o,u⟩:=wA0 E
 have d:(Nat.ble ((len+m)*i.bytes) 140737488355328&&Nat.blt (len+m) U)=true:=by
  rw[o];simp only[Z5,Nat.ble_eq,Nat.blt_eq];unfold U;exact w
 have a:(Nat.beq z.cells.size i.size&&Nat.blt 0 i.size)=true:=by
  rw[c];simp only[Z5,Nat.beq_eq,Nat.blt_eq];exact ⟨k,u⟩
 rw[yK0 A j q hi D]
 unfold wW1
 dsimp only
 rw[c,C]
 have v:(Nat.beq e e&&Nat.beq UC UC&&Nat.ble h.lo b&&Nat.beq cs.length (len*n)&&(Nat.ble ((len+m)*i.bytes) 140737488355328&&Nat.blt (len+m) U))=true:=by
  simp only[Z5,Nat.beq_eq,Nat.ble_eq]
  exact ⟨⟨⟨⟨trivial,trivial⟩,p⟩,l⟩,by simpa only [Z5,Nat.ble_eq] using d⟩
 rw[c] at a
 have y:(Nat.beq z.cells.size n&&Nat.blt 0 n&&gD h.next xs)=true:=by rw[a,f];rfl
 simp only[qV2 (Nat.lt_irrefl UC),F,v,B,y]
theorem fY1 (F:Rel g σ h){size m:Nat}{x x':Z6}{xs:List Z6}(H:0<size)(p:RV g h σ.next x x')(o:srcD size x σ=some (m,xs))(T:xs.all one=true) :
  lenV x'=some m∧xs.length=m*size∧∃ vs,uZ size m x' h=some vs∧RVL g h σ.next xs vs:=by
 unfold srcD at o
 split at o
 ·rename_i l k1 k k2 e f cs
  split at o<;>cases o
  rename_i i
  simp only[RV] at p
  obtain ⟨vs,w,a,c,sz,rfl,u,_⟩:=p
  exact ⟨rfl,i,vs,u.1.src (by rw[w.len];exact i) H,w⟩
 ·split at o
  ·rename_i m' E
   split at o
   ·rename_i l d
    split at o<;>cases o
    rename_i j
    refine ⟨?_,j.1,?_⟩
    ·cases x<;>first|(cases E;done)|skip
     ·rw[p.str];exact E
     ·simp only[RV] at p;rw[p.2];exact E
    ·unfold uZ at d
     split at d
     ·rename_i a len c
      have R:=p
      simp only[RV] at p
      obtain ⟨V,rfl⟩:=p
      split at d
      ·cases d
       exact ⟨[],by rfl,RVL.nil⟩
      ·rename_i m
       split at d
       ·rename_i b off
        have K:=sc_p V
        split at d
        ·rename_i ds e mo q
         obtain ⟨vs,X,w,_,u⟩:=F.cells' K q
         split at d
         ·rename_i l' D
          obtain ⟨P,rfl⟩:=gH0 D
          have A:(ds.drop off).take ((m+1)*size)=xs:=by
           revert d
           cases Nat.ble σ.lo b with
           | true=>intro d;cases d;rfl
           | false=>
            cases gD σ.lo ((ds.drop off).take ((m+1)*size)) with
            | true=>intro d;cases d;rfl
            | false=>intro d;cases d
          have n:=(u.drop off).take ((m+1)*size)
          rw[A] at n
          have i:(List.take ((m+1)*size) (List.drop off vs)).length=(m+1)*size:=by rw[n.len];exact j.1
          refine ⟨(vs.drop off).take ((m+1)*size),?_,n⟩
          have y:Sl h (some ⟨g.δ b,off,none⟩) ((vs.drop off).take ((m+1)*size)):=by
           refine .inr ⟨g.δ b,off,vs,X,mo,rfl,w,by rw[i,u.len];exact P,by rw[i],?_⟩
           by_cases C:σ.lo≤b
           ·have r : (σ.get b).isSome = true := by
             unfold Ev.cells at q
             split at q
             ·rename_i r;rw[r];rfl
             ·cases q
            exact .inl (F.dlo b ⟨C,K,r⟩)
           ·right
            unfold Ev.cells at q
            split at q
            ·rename_i Y e' fr m' r
             cases q
             obtain ⟨ds',N,Z,L,I⟩:=F.baseF b _ Z0 r
             cases L
             have B:=RVL.flat _ _ I u
             subst B
             rw[A,gO,T,Bool.true_and]
             have t:=kF0 I
             exact qK λv J=>bO _ _ (t v (by rw[← A] at J;exact List.mem_of_mem_drop (List.mem_of_mem_take J)))
            ·cases q
          exact y.src i H
         ·cases d
        ·cases d
       ·cases d
     ·rename_i s
      have:=p.str
      subst this
      refine ⟨xs,d,RVL.of_flat _ ?_⟩
      split at d<;>cases d
      have z:∀ l:List Zu,qB (l.map λb=>Value.int .u8 b.toNat)=true:=by
       intro l
       induction l with
       | nil=>rfl
       | cons x l M=>simp only[List.map_cons,qB,M];rfl
      exact z _
     ·cases d
   ·cases o
  ·cases o
theorem wK3 (q:Rel g σ h){P:Z9}(hP:g.P=P){sT xT:Zt}{s s' x x':Z6}{d:Z6}{σ':jA}(J:RV g h σ.next s s')(hx:RV g h σ.next x x')(f:apD (appT P sT xT) s x σ=some (d,σ')) :
  ∃ v h',bI P sT xT s' x' h=some (v,h')∧Eff g σ h (nA0 s σ) d σ' v h':=by
 unfold apD at f
 split at f
 ·rename_i e size by_ C
  have hn:0<size:=(wA0 C).choose_spec.choose_spec.choose_spec.2.2.2.2.2.2.2.2
  split at f
  ·rename_i m xs Z
   split at f
   ·rename_i V
    obtain ⟨I,E,vs,p,j⟩:=fY1 q hn hx Z V
    have hfx:=jP0 q j V
    unfold apB at f
    split at f
    ·simp only[RV,Option.map_none] at J
     obtain ⟨_,rfl⟩:=J
     split at f
     ·cases f
      rename_i A
      subst A
      have u:vs=[]:=List.length_eq_zero_iff.1 (by rw[j.len,E];simp)
      subst u
      exact ⟨_,_,lR0 C I p dF0 (Z3 _) pL0,g,Ext.refl,q,RV.of_flat _ rfl,λ_ _ _=>rfl⟩
     ·rename_i A
      split at f<;>cases f
      rename_i K
      have h3:uZ size 0 (.slice none 0 0) h=some []:=rfl
      have:=yP0 (base:=none) (len:=0) (cap:=0) (cs:=[]) C I p dF0 Z0 h3 (by simpa using hfx) (by simpa using K)
      rw[List.nil_append,Nat.zero_add] at this
      exact ⟨_,_,this,kP0 q j V e true m UC _⟩
    ·rename_i b n c
     simp only[RV,Option.map_some,ren] at J
     obtain ⟨ha,rfl⟩:=J
     have K:=sc_p ha
     split at f
     ·rename_i cs H mo R
      have M:∃ T Y,σ.get b=some ⟨.cells ⟨T⟩ H Y,mo⟩∧T=cs:=by
       unfold Ev.cells at R
       split at R
       ·rename_i z e'' fr m' M
        cases R
        exact ⟨_,_,M,rfl⟩
       ·cases R
      obtain ⟨z,Y,M,hcs'⟩:=M
      subst hcs'
      obtain ⟨_,_,_,_,_,hcs⟩:=q.obj b _ K M
      split at f
      ·rename_i o
       obtain ⟨rfl,c2,c3,c4⟩:=o
       obtain ⟨us,L,D⟩:=q.cells K (.inl c2) R
       have B:kZ σ b:=q.own K c2 M
       have X:=q.dlo b B
       have w:us.length=n*size:=by rw[D.len];exact c3
       have k:(z++xs).all one=true:=by rw[List.all_append,hcs,V];rfl
       have F:=jP0 q (D.app j) k
       split at f
       ·rename_i hq
        obtain ⟨rfl,rfl⟩:=hq
        cases f
        refine ⟨_,_,cX0 C I p L X w hfx c4,?_⟩
        obtain ⟨x1,x2⟩:=gN2 q B (e:=H) (cs:=z) (us:=us) (x:=O (z++xs) H true) (y:=O (us++vs) H true) D λh' g' N' x hg'=>yC0 hg' ((D.app j).ext x) k
        refine ⟨_,x1,x2,?_,λe=>by
         have e:(match cells σ b with|some (_,_,mo)=>!mo|none=>true)=true:=e
         rw[R] at e
         cases e⟩
        have hd:(g.new σ.next h.next).δ σ.next=h.next:=if_pos rfl
        have:=RV.s0 (g:=g.new σ.next h.next) (h:={ t:=(h.t.put h.next (O (us++vs) H true)).put (g.δ b) (qO h.next H us),next:=h.next+1,lo:=h.lo }) (N:=σ.next+1) (i:=σ.next) (n:=n+m) (c:=UC) Z0
        rw[hd] at this
        exact this
       ·split at f
        ·rename_i hq
         obtain ⟨rfl,rfl⟩:=hq
         have r:c<UC:=by
          have:c≤(c+m)*by_+(c+m):=Z0
          have:=U_UC
          unfold U at this
          omega
         have hsl:Sl h (some ⟨g.δ b,0,none⟩) us:=Sl.row L X
         split at f
         ·cases f
          rename_i A
          subst A
          have u:vs=[]:=List.length_eq_zero_iff.1 (by rw[j.len,E];simp)
          subst u
          exact ⟨_,_,lR0 C I p r (Z3 _) (fK0 _ _),g,Ext.refl,q,RV.s0 K,λ_ _ _=>rfl⟩
         ·rename_i A
          cases f
          exact ⟨_,_,yP0 C I p r Z0 (hsl.src w hn) F c4,kP0 q (D.app j) k H true _ UC _⟩
        ·cases f
      ·cases f
     ·cases f
    ·rename_i l k1 n k2 e2 cs
     have hs0:=J
     simp only[RV] at J
     obtain ⟨us,L,a,c,sz,rfl,D,h3,h4,h5,h6⟩:=J
     obtain rfl:=h3 rfl
     split at f
     ·rename_i o
      obtain ⟨c1,c2,c3⟩:=o
      have w:us.length=c*size:=by rw[L.len];exact c1
      have k:(cs++xs).all one=true:=by rw[List.all_append,c3,V];rfl
      have F:=jP0 q (L.app j) k
      have r:c<UC:=by
       have:c≤(c+m)*by_+(c+m):=Z0
       have:=U_UC
       unfold U at this
       omega
      split at f
      ·cases f
       rename_i A
       subst A
       have u:vs=[]:=List.length_eq_zero_iff.1 (by rw[j.len,E];simp)
       subst u
       exact ⟨_,_,lR0 C I p r (Z3 _) D.1.spot,g,Ext.refl,q,hs0,λ_ _ _=>rfl⟩
      ·rename_i A
       cases f
       exact ⟨_,_,yP0 C I p r Z0 (D.1.src w hn) F c2,kP0 q (L.app j) k e true _ UC _⟩
     ·cases f
    ·cases f
   ·cases f
  ·cases f
 ·cases f
theorem kR3 (m:Rel g σ h){P:Z9}(hP:g.P=P){q:Nat→Zb}{D T:VT}(ht:Tms g h σ.next D T){NG:Nat}(M:NG≤σ.lo){o:Op}{t:Zt}(L:o.operands.all (gA NG)=true){d:Z6}{σ':jA}(f:teD P q o t D σ=some (d,σ')) :
  ∃ v F,te P o t T h=some (v,F)∧Eff g σ h (dA o D σ) d σ' v F:=by
 have R:∀ x∈o.operands,gA NG x=true:=λx p=>by rw[Array.all_eq_true_iff_forall_mem] at L;exact L x p
 have p:∀ x∈o.operands,RV g h σ.next (ev D x) (ev T x):=λx p=>qT0 m ht M (R x p)
 unfold teD at f
 split at f
 ·rename_i e
  unfold alE at f
  split at f<;>cases f
  rename_i cs k
  have r:qB cs=true∧cs.all one=true:=by
   unfold zro at k
   split at k
   ·rename_i z _
    split at k
    ·rename_i hf
     split at k<;>cases k
     rename_i L
     refine ⟨?_,?_⟩
     ·cases z with
      | agg cs=>obtain ⟨cs⟩:=cs;simpa[Ev.flat,Value.cells] using hf
      | _=>simpa[qB,Value.cells] using hf
     ·rw[gO,Z5] at L
      exact L.1
    ·cases k
   ·cases k
  exact ⟨_,_,by show alE (zro P e) e h=_;rw[k];rfl,zJ1 m (RVL.of_flat _ r.1) r.2 e false⟩
 ·rename_i e x
  have j:=p x (by simp[Op.operands])
  unfold bxQ at f
  split at f
  ·split at f<;>cases f
   rename_i H
   obtain ⟨E,K,x3⟩:=lO1 m (O (ev T x).cells.toList e false)
   have V:cells (h.add (O (ev T x).cells.toList e false)) h.next=some ((ev T x).cells.toList,e,false):=qM _ _ _ _ rfl
   refine ⟨_,_,if_pos (jP0 m j.cells H.1),_,E,K,RV.mkRpt (o:=0) (off:=0) (j.cells.ext (E.e0 m)) ⟨Sl.row V (by rw[jM];exact m.hlo),λb A=>?_⟩ (by rw[j.cells.len];exact H.2),λ_=>x3⟩
   obtain ⟨o,s,e⟩:=A
   cases e
   exact ⟨by rw[jB];omega,.inr rfl⟩
  ·unfold bxD at f
   split at f<;>cases f
   rename_i H
   exact ⟨_,_,if_pos (jP0 m j.cells H),zJ1 m j.cells H e false⟩
 ·rename_i ty len u
  refine wH3 m hP (ps':=u.toList.map λx=>(x.1,ev T x.2)) (by simp) ?_ f
  have:=RVL.map_ev m ht M (u.toList.map (·.2)) λx hxm=>by
   refine R x ?_
   obtain ⟨y,hy,rfl⟩:=List.mem_map.1 hxm
   simp only[Op.operands,List.mem_toArray,List.mem_map]
   exact ⟨y,hy,rfl⟩
  simpa[List.map_map,Function.comp_def] using this
 ·rename_i ty a x
  exact oI2 m (p a (by simp[Op.operands])) (p x (by simp[Op.operands])) f
 ·rename_i ty l c
  have B:=p l (by simp[Op.operands])
  have hc:=p c (by simp[Op.operands])
  show ∃ v F,msE (mkT P ty) (ev T l) (ev T c) h=some (v,F)∧_
  unfold msE at f
  split at f
  ·rename_i e n by_ zs k1 l' k2 c' k hld Z
   split at f<;>cases f
   rename_i C
   rw[hld] at B
   rw[Z] at hc
   rw[k,B.int,hc.int]
   have r:qB zs=true∧zs.all one=true:=by
    unfold mkT at k
    split at k
    ·split at k
     ·split at k
      ·split at k
       ·rename_i A
        cases k
        simp only[Z5] at A
        refine ⟨A.1.2,?_⟩
        have:=A.2
        rw[gO,Z5] at this
        exact this.1
       ·cases k
      ·cases k
     ·cases k
    ·cases k
   refine ⟨_,_,if_pos C,kP0 m (RVL.of_flat _ (wT1 r.1)) ?_ e false _ _ true⟩
   rw[List.all_eq_true]
   intro v j
   simp only[List.mem_flatten] at j
   obtain ⟨l,B,j⟩:=j
   rw[(List.mem_replicate.1 B).2] at j
   exact List.all_eq_true.1 r.2 v j
  ·cases f
 ·rename_i s x sT xT
  exact wK3 m hP (p s (by simp[Op.operands,Call.operands])) (p x (by simp[Op.operands,Call.operands])) f
 ·rename_i ty x
  have j:=p x (by simp[Op.operands])
  unfold rgV at f
  split at f
  ·rename_i s hu hs
   cases f
   rw[hs] at j
   simp only[RV] at j
   obtain ⟨E,K,x3⟩:=dA0 m (x:=itO s 0) (y:=itO s 0) λF g' N' _ e=>e
   refine ⟨.pointer (some ⟨h.next,0,none⟩),h.add (itO s 0),?_,_,E,K,?_,λe=>by cases e⟩
   ·have hT:sK0 P ty=true:=by unfold sK0;rw[hu]
    rw[qA1 hT,j];rfl
   ·have:=RV.p0 (g:=g.new σ.next h.next) (h:=h.add (itO s 0)) (N:=(σ.add (itO s 0)).next) (i:=σ.next) (by rw[jB];omega)
    rw[show (g.new σ.next h.next).δ σ.next=h.next from if_pos rfl] at this
    exact this
  ·cases f
 ·rename_i x
  have j:=p x (by simp[Op.operands])
  unfold nxE at f
  split at f
  ·rename_i b A
   split at f
   ·rename_i s pos hg hlo
    rw[A] at j
    simp only[RV,Option.map_some,ren] at j
    obtain ⟨hsc,j⟩:=j
    have X:b<σ.next:=sc_p hsc
    have I:σ.lo≤b:=by simpa using hlo
    have w:=m.own X I hg
    have J:h.get (g.δ b)=some ⟨.stringIter s pos,false⟩:=m.obj b _ X hg
    have B:Nat.ble h.lo (g.δ b)=true:=by simpa using m.dlo b w
    cases Y:Nat.blt pos s.size with
    | true=>
     rw[Y] at f
     cases f
     obtain ⟨E,K⟩:=wV0 m w (x:=⟨.stringIter s (pos+(Utf8.decode s pos).2),false⟩) (y:=⟨.stringIter s (pos+(Utf8.decode s pos).2),false⟩) λF e _=>e
     refine ⟨_,_,?_,_,E,K,RV.of_flat _ rfl,λe=>by cases e⟩
     show nxE (ev T x) h=_
     rw[j]
     simp only[nxE,J,B,Y]
    | false=>
     rw[Y] at f
     cases f
     refine ⟨_,_,?_,_,Ext.refl,m,RV.of_flat _ rfl,λe=>by cases e⟩
     show nxE (ev T x) h=_
     rw[j]
     simp only[nxE,J,B,Y]
   ·cases f
  ·cases f
 ·cases f
def apO:Cl→Op→Zb
 | .eff,.call ⟨.builtin .append,_,_⟩=>true
 | _,_=>false
def AgrL (h a:jA):Prop:=∀ b,b<h.next→a.get b=h.get b∨Ev.cells a b=none
theorem wL3 (hr:Rel g σ h){P:Z9}(hP:g.P=P){sT xT:Zt}{s s' x x':Z6}{d:Z6}{σ':jA}(hs:RV g h σ.next s s')(hx:RV g h σ.next x x')(he:apD (appT P sT xT) s x σ=some (d,σ'))(hp:nA0 s σ=false){v:Z6}{h':jA}(hv:bI P sT xT s' x' h=some (v,h')):AgrL h h':=by
 unfold apD at he
 split at he
 ·rename_i e size by_ hT
  have hn:0<size:=(wA0 hT).choose_spec.choose_spec.choose_spec.2.2.2.2.2.2.2.2
  split at he
  ·rename_i m xs hsrc
   split at he
   ·rename_i ho
    obtain ⟨hl,hxl,vs,hvs,hxv⟩:=fY1 hr hn hx hsrc ho
    have hfx:=jP0 hr hxv ho
    unfold apB at he
    split at he
    ·cases hp
    ·rename_i b n c
     simp only[RV,Option.map_some,ren] at hs
     obtain ⟨ha,rfl⟩:=hs
     have hb:=sc_p ha
     split at he
     ·rename_i cs e' mo hc
      have hp':(match Ev.cells σ b with|some (_,_,mo)=>!mo|none=>true)=false:=hp
      rw[hc] at hp'
      have hmo:mo=true:=by simpa using hp'
      subst hmo
      obtain ⟨fr',hg⟩:=gM hc
      split at he
      ·rename_i hcond
       obtain ⟨rfl,c2,c3,c4⟩:=hcond
       obtain ⟨us,h1,h2⟩:=hr.cells hb (.inl c2) hc
       have hown:kZ σ b:=hr.own hb c2 hg
       have hul:us.length=n*size:=by rw[h2.len];exact c3
       split at he
       ·rename_i hq
        obtain ⟨-,rfl⟩:=hq
        have:=cX0 hT hl hvs h1 (hr.dlo b hown) hul hfx c4
        rw[this] at hv
        cases hv
        intro k hk
        have hgm:=λy=>jN0 (h:=h) (b:=g.δ b) (x':=⟨.cells ⟨us++vs⟩ e',true⟩) (y:=y) k
        by_cases hkb:k=g.δ b
        ·right
         unfold Ev.cells
         rw[hgm,if_pos hkb]
         rfl
        ·left
         rw[hgm,if_neg hkb,if_neg Z0]
       ·split at he
        ·rename_i hq;cases hq.1
        ·cases he
      ·cases he
     ·cases he
    ·cases hp
    ·cases he
   ·cases he
  ·cases he
 ·cases he
theorem kT3 (n:Rel g σ h){P:Z9}(p:g.P=P){q:Nat→Zb}{D T:VT}(r:Tms g h σ.next D T){NG:Nat}(e:NG≤σ.lo){o:Op}{t:Zt}(m:o.operands.all (gA NG)=true){d:Z6}{σ':jA}(c:teD P q o t D σ=some (d,σ'))
  (j:apO .eff o=true) {v:Z6} {f:jA} (u:te P o t T h=some (v,f)) (w:dA o D σ=true→Agr h f):AgrL h f:=by
 cases l:dA o D σ with
 | true=>exact λb k=>.inl (w l b k)
 | false=>
  have i:∀ x∈o.operands,gA NG x=true:=λx a=>by rw[Array.all_eq_true_iff_forall_mem] at m;exact m x a
  have a:∀ x∈o.operands,RV g h σ.next (ev D x) (ev T x):=λx a=>qT0 n r e (i x a)
  unfold teD at c
  split at c
  all_goals first|(cases j;done)|(cases c;done)|skip
  rename_i s x y z
  exact wL3 n p (a s (by simp[Op.operands,Call.operands])) (a x (by simp[Op.operands,Call.operands])) c l u
end
section
variable {P:Z9} {h h':jA}
structure Same (h h':jA):Prop where
 c:∀ b x,cells h b=some x→cells h' b=some x
 lo:h'.lo=h.lo
theorem mU1 (s:Same h h'){t:Zt}{a v:Z6}(d:qL P t a h=some v):qL P t a h'=some v:=by
 unfold qL at d ⊢
 split at d
 ·rename_i b off
  (try dsimp only)
  split at d
  ·rename_i cs e m f
   rw[s.c b _ f,s.lo]
   exact d
  ·cases d
 ·cases d
theorem dQ0 (s:Same h h'){t n c:Nat}{a:Z8 Addr}{lo hi mx:Z8 Z6}{v:Z6}(d:kT P t a n c lo hi mx h=some v):kT P t a n c lo hi mx h'=some v:=by
 unfold kT at d ⊢
 split at d
 ·rename_i e b off k
  split at d
  ·rename_i size cs j f i
   rw[s.c b _ i]
   (try rw[f])
   exact d
  ·cases d
 ·cases d
theorem zZ2 (s:Same h h'){t:Zt}{x:Z6}{lo hi mx:Z8 Z6}{v:Z6}(d:slV P t x lo hi mx h=some v):slV P t x lo hi mx h'=some v:=by
 unfold slV at d ⊢
 split at d
 ·exact d
 ·rename_i a n c
  (try dsimp only)
  split at d
  ·rename_i u e;exact d
  ·rename_i e;exact dQ0 s d
 ·exact d
 ·cases d
theorem zZ1 (s:Same h h'){t:Zt}{x:Z6}{lo hi mx:Z8 Z6}{v:Z6×Z6}(a:tailV P t x lo hi mx h=some v):tailV P t x lo hi mx h'=some v:=by
 unfold tailV at a ⊢
 split at a
 ·rename_i b off n c
  (try dsimp only)
  split at a
  ·rename_i e cs i d f
   rw[s.c b _ f]
   (try rw[d])
   exact a
  ·cases a
 ·cases a
theorem dC2 (s:Same h h'){a b:Zt}{x v:Z6}(d:btS P a b x h=some v):btS P a b x h'=some v:=by
 unfold btS at d ⊢
 split at d
 ·exact d
 ·exact d
 ·rename_i e b o n c f k t
  cases n with
  | zero=>exact absurd rfl f
  | succ n=>
   have d:(match P.underlying e,cells h b with|some (.int .u8),some (cs,_,_)=>(match takeN cs o (n+1) with|some l=>(match bytesOf l with|some l=>some (Value.string ⟨⟨l⟩⟩)|none=>none)|none=>none)|_,_=>none)=some v:=d
   show (match P.underlying e,cells h' b with|some (.int .u8),some (cs,_,_)=>(match takeN cs o (n+1) with|some l=>(match bytesOf l with|some l=>some (Value.string ⟨⟨l⟩⟩)|none=>none)|none=>none)|_,_=>none)=some v
   split at d
   ·rename_i cs r m i j
    rw[s.c b _ j]
    (try rw[i])
    exact d
   ·cases d
 ·cases d
theorem cQ2 (s:Same h h'){a b:Zt}{x v:Z6}(c:cvV P a b x h=some v):cvV P a b x h'=some v:=by
 unfold cvV at c ⊢
 split at c
 ·exact c
 ·exact dC2 s c
theorem nU2 (s:Same h h'){o:Op}{t:Zt}{T:VT}{v:Z6}(a:tv P o t T h=some v):tv P o t T h'=some v:=by
 unfold tv at a ⊢
 split at a
 ·exact mU1 s a
 ·exact zZ2 s a
 ·exact cQ2 s a
 ·exact a
theorem nT2 (s:Same h h'){o:Op}{T:VT}{v:Z6×Z6}(a:tw P o T h=some v):tw P o T h'=some v:=by
 unfold tw at a ⊢
 split at a
 ·exact zZ1 s a
 ·cases a
end
theorem Same.of {g:Gh}{σ h h':jA}(i:Rel g σ h)(f:Agr h h')(d:h'.lo=h.lo):Same h h':=by
 refine ⟨λb x a=>?_,d⟩
 have e:b<h.next:=by
  rcases Nat.lt_or_ge b h.next with c|c
  ·exact c
  ·have:=i.wf b c
   unfold Ev.cells at a
   rw[this] at a
   cases a
 exact (qV (f b e)).trans a
structure oX0 (h h':jA):Prop where
 c:∀ b x,cells h b=some x→cells h' b=some x∨cells h' b=none
 lo:h'.lo=h.lo
theorem oX0.of {g:Gh}{σ h h':jA}(i:Rel g σ h)(f:AgrL h h')(d:h'.lo=h.lo):oX0 h h':=by
 refine ⟨λb x c=>?_,d⟩
 have e:b<h.next:=by
  rcases Nat.lt_or_ge b h.next with a|a
  ·exact a
  ·have:=i.wf b a
   unfold Ev.cells at c
   rw[this] at c
   cases c
 rcases f b e with a|a
 ·exact .inl ((qV a).trans c)
 ·exact .inr a
theorem gY1 {P:Z9}{h h':jA}(s:oX0 h h'){t:Zt}{a v k:Z6}(d:qL P t a h=some v)(e:qL P t a h'=some k):qL P t a h'=some v:=by
 have j:∃ b off,a=.pointer (some ⟨b,off,none⟩):=by
  unfold qL at d
  split at d
  ·exact ⟨_,_,rfl⟩
  ·cases d
 obtain ⟨b,off,rfl⟩:=j
 rw[yD0] at d e ⊢
 rw[s.lo]
 cases i:cells h b with
 | none=>rw[i] at d;cases d
 | some x=>
  rcases s.c b x i with f|f
  ·rw[f,← i];exact d
  ·rw[f] at e;cases e
structure Q where
 m:Nat→Zb
 H:jA
def Gh.ok (g:Gh)(p:Par)(H:jA):Prop:=g.P=p.P∧g.H0=H
theorem Ext.ok {g g':Gh}{σ h σ' h':jA}(x:Ext g σ h g' σ' h'){p:Par}{H:jA}(a:g.ok p H):g'.ok p H:=⟨x.P.trans a.1,x.H0.trans a.2⟩
def jE (p:Par)(H:jA)(f:Z6)(args:List Z6)(σ:jA)(K:Zb→Z6→jA→Prop):Prop:=
 ∀ (g:Gh) (h:jA) (a:Z6) (vs:List Z6),g.ok p H→Rel g σ h→RV g h σ.next f a→RVL g h σ.next args vs→dO0 p a vs h λu h'=>∃ b d σ',K b d σ'∧Eff g σ h b d σ' u h'
def vopD (p:Par)(q:Q)(c:Cl)(o:Op)(t:Zt)(tm:VT)(σ:jA)(K:Zb→Z6→jA→Prop):Prop:=
 match c with
 | .take=>oP (tvD p.P o t tm σ) σ (K true)
 | .eff=>oE (teD p.P q.m o t tm σ) (K (dA o tm σ))
 | .call=>match o with
  | .call ⟨.value f,args,_⟩=>jE p q.H (ev tm f) (args.toList.map (ev tm)) σ K
  | _=>False
def dops (p:Par)(q:Q):List It→VT→jA→(VT→jA→Prop)→Prop
 | [],tm,σ,K=>K tm σ
 | x :: l,tm,σ,K=>vgd tm x.g (vopD p q x.c x.o x.t tm σ λ_ v σ'=>dops p q l (put tm x.d v) σ' K) (dops p q l (put tm x.d undef) σ K)
def ldK (P:Z9)(t:Zt)(a:Z6)(σ:jA):Z8 Z6:=ldD P t a σ
def nrd (_:jA):Z8 Z6:=none
def rdD (P:Z9)(o:Op)(tm:VT):jA→Z8 Z6:=match o with
 | .load ty a=>ldK P ty (ev tm a)
 | _=>nrd
def eqv:Z6→Zb
 | .pointer _=>true
 | .slice _ _ _=>true
 | .bool _=>true
 | .int _ _=>true
 | .string _=>true
 | .agg a=>Ev.flat (.agg a)
 | _=>false
abbrev LD:=List (Nat×(jA→Z8 Z6)×Z6)
def cst (c:jA→Z8 Z6):Prop:=∀ d a,c d=c a
def kE (σ:jA)(a:jA→Z8 Z6)(v:Z6):Prop:=a σ=some v∧(eqv v=true∨cst a)
def cT (i:Nat):List Nat→Zb
 | []=>false
 | x :: l=>match Nat.beq i x with | true=>true | false=>cT i l
def kL (bind:List Nat)(σ:jA)(L:LD):Prop:=List.rec (motive:=λ_=>Prop) True (λx _ a=>Bool.rec (motive:=λ_=>Prop) (kE σ x.2.1 x.2.2∧a) a (cT x.1 bind)) L
def kD (c:Zb)(A:Prop):Prop:=Bool.rec (motive:=λ_=>Prop) A True c
def bR (c:Zb)(bind:List Nat)(σ:jA)(L:LD):Prop:=kD c (kL bind σ L)
def kA (σ:jA)(a:jA→Z8 Z6)(v:Z6):Prop:=a σ=some v
def kLA (bind:List Nat)(σ:jA)(L:LD):Prop:=List.rec (motive:=λ_=>Prop) True (λx _ a=>Bool.rec (motive:=λ_=>Prop) (kA σ x.2.1 x.2.2∧a) a (cT x.1 bind)) L
def cO (x:It)(c:Zb)(bind:List Nat)(σ:jA)(L:LD):Prop:=match x.g,x.c,x.o with
 | none,.eff,.call ⟨.builtin .append,_,_⟩=>kD c (kLA bind σ L)
 | _,_,_=>bR c bind σ L
def bN (b:List Nat)(L:LD):LD:=List.rec (motive:=λ_=>LD) [] (λx _ a=>Bool.rec (motive:=λ_=>LD) (x :: a) a (cT x.1 b)) L
def wZ0 (p:Par)(q:Q):PT→LD→VT→jA→(VT→jA→Prop)→Prop
 | .fin,_,tm,σ,K=>K tm σ
 | .no,_,_,_,_=>True
 | .bad,_,_,_,_=>False
 | .take i rd x k, L, tm, σ, K => vgd tm x.g
   (match rd with
    | false=>oP (tpD p.P x.o x.t tm) σ λv _=>wZ0 p q k L (put tm x.d v) σ K
    | true=>oP (tvD p.P x.o x.t tm σ) σ λv _=>wZ0 p q k ((i,rdD p.P x.o tm,v) :: L) (put tm x.d v) σ K)
   (wZ0 p q k (match rd with|false=>L|true=>(i,rdD p.P x.o tm,undef) :: L) (put tm x.d undef) σ K)
 | .eff _ x bind k alt,L,tm,σ,K=>vgd tm x.g (vopD p q x.c x.o x.t tm σ λb v σ'=>cO x b bind σ' L∧wZ0 p q k (bN bind L) (put tm x.d v) σ' K) (wZ0 p q k (bN bind L) (put tm x.d undef) σ K)∧wZ0 p q alt L tm σ K
def itOk (NG:Nat)(x:It):Zb:=x.o.operands.all (gA NG)
def ptOk (NG:Nat):PT→Zb
 | .take _ _ x k=>itOk NG x&&ptOk NG k
 | .eff _ x _ k a=>itOk NG x&&ptOk NG k&&ptOk NG a
 | _=>true
section
variable {p:Par} {q:Q} {NG:Nat}
theorem pC0 {g:Gh}{h:jA}{N:Nat}{D T:VT}(n:Tms g h N D T){y:Z8 (Nat×Zb)}{A B m k:Prop}(l:A→m)(j:B→k)(a:vgd D y A B):vgd T y m k:=by
 unfold vgd at a ⊢
 cases y with
 | none=>exact l a
 | some z=>
  obtain ⟨d,w⟩:=z
  dsimp only at a ⊢
  have c:=n.get d
  unfold gV at a ⊢
  split at a
  ·rename_i b f
   rw[(c.bool b).2 f]
   exact ⟨λe=>l (a.1 e),λe=>j (a.2 e)⟩
  ·rename_i i
   split
   ·rename_i b f
    exact absurd ((c.bool b).1 f) (i b)
   ·exact j a
theorem fI1 {g:Gh}{σ h:jA}(r:Rel g σ h)(z:g.ok p q.H){D T:VT}(s:Tms g h σ.next D T)(i:NG≤σ.lo){c:Cl}{o:Op}{t:Zt}(w:o.operands.all (gA NG)=true){K:Zb→Z6→jA→Prop}
  (a:vopD p q c o t D σ K) {k:Z6→jA→Prop} (A:∀ b d σ' v h',K b d σ'→Eff g σ h b d σ' v h'→(apO c o=true→AgrL h h')→k v h'):vop p c o t T h k:=by
 cases c with
 | take=>
  simp only[vopD] at a
  cases l:tvD p.P o t D σ with
  | none=>rw[l] at a;exact a.elim
  | some d=>
   rw[l] at a
   have E:∀ v,RV g h σ.next d v→k v h:=λv I=>A true d σ v h a ⟨g,Ext.refl,r,I,λ_ _ _=>rfl⟩ (λe=>by cases e)
   simp only[vop]
   rcases lJ2 r z.1 s i w l with ⟨v,j,n⟩|⟨j,V,R,n,J,N⟩
   ·rw[j];exact E v n
   ·rw[j,n];exact ⟨E V J,E R N⟩
 | eff=>
  simp only[vopD] at a
  cases l:teD p.P q.m o t D σ with
  | none=>rw[l] at a;exact a.elim
  | some x=>
   obtain ⟨d,σ'⟩:=x
   rw[l] at a
   obtain ⟨v,h',j,n⟩:=kR3 r z.1 s i w l
   simp only[vop,j]
   exact A _ d σ' v h' a n (λF=>kT3 r z.1 s i w l F j n.choose_spec.2.2.2)
 | call=>
  simp only[vopD,vop] at a ⊢
  split at a
  ·rename_i f args B
   have y:∀ x∈(Op.call ⟨.value f,args,B⟩).operands,gA NG x=true:=λx C=>by rw[Array.all_eq_true_iff_forall_mem] at w;exact w x C
   refine (a g h _ _ z r (qT0 r s i (y f (by simp[Op.operands,Call.operands]))) (RVL.map_ev r s i args.toList λx C=>y x (by simp[Op.operands,Call.operands,Array.mem_toList_iff.1 C]))).mono ?_
   rintro u h' ⟨b,d,σ',j,n⟩
   exact A b d σ' u h' j n (λe=>by cases e)
  ·exact a.elim
def Aft (g:Gh)(σ h:jA)(K:VT→jA→Prop)(T:VT)(h':jA):Prop:=∃ g' σ' D,K D σ'∧Ext g σ h g' σ' h'∧Rel g' σ' h'∧Tms g' h' σ'.next D T
theorem Aft.of {g d:Gh}{σ h a c:jA}(x:Ext g σ h d a c){K:VT→jA→Prop}{T:VT}{h':jA}(f:Aft d a c K T h'):Aft g σ h K T h':=by
 obtain ⟨g',σ',D,j,e,i⟩:=f
 exact ⟨g',σ',D,j,x.trans e,i⟩
theorem lK0 {K:VT→jA→Prop}:∀ (l:List It),l.all (itOk NG)=true→∀ {g:Gh} {σ h:jA} (f:Rel g σ h) (i:g.ok p q.H) {D T:VT} (e:Tms g h σ.next D T) (a:NG≤σ.lo),dops p q l D σ K→vops p l T h (Aft g σ h K)
 | [],_,g,σ,h,f,i,D,T,e,a,c=>⟨g,σ,D,c,Ext.refl,f,e⟩
 | x :: l,hok,g,σ,h,f,i,D,T,e,a,c=>by
  simp only[List.all_cons,Z5] at hok
  simp only[dops] at c
  simp only[vops]
  refine pC0 e (λc=>?_) (λc=>?_) c
  ·refine fI1 f i e a hok.1 c λb d σ' v h' r m _=>?_
   obtain ⟨g',j,k,n,_⟩:=m
   refine qX0 (λT s o=>Aft.of j o) l _ _ ?_
   exact lK0 l hok.2 k (j.ok i) ((e.ext (j.e0 f)).put _ n) (by rw[j.lo];exact a) r
  ·exact lK0 l hok.2 f i (e.put _ RV.undef) a c
theorem qF3 {g g':Gh}{h h':jA}{N r:Nat}(f:∀ i,i<N→g'.δ i=g.δ i){d v k:Z6}(l:eqv d=true)(c:RV g h N d v)(e:RV g' h' r d k):k=v:=by
 by_cases j:Ev.flat d=true
 ·rw[RV.flat _ _ j e,RV.flat _ _ j c]
 have t:∀ a:Z8 Addr,fscP N a=true→a.map (ren g'.δ)=a.map (ren g.δ):=λa m=>by
  cases a with
  | none=>rfl
  | some x=>
   obtain ⟨b,o,s⟩:=x
   have n:b<N:=by
    rw[uT] at m
    simpa[Ev.sc,scA] using m
   simp only[Option.map_some,ren,f b n]
 cases d<;>simp only[eqv,Bool.false_eq_true] at l<;>first|exact absurd l j|simp only[RV] at c e
 all_goals first|rw[c.2,e.2,t _ c.1]|rw[c,e]
structure RdOk (g:Gh)(σ h:jA)(x e:Nat×(jA→Z8 Z6)×Z6):Prop where
 i:x.1=e.1
 now:e.2.1 h=some e.2.2
 st:∀ h1 h2,Same h1 h2→e.2.1 h1=some e.2.2→e.2.1 h2=some e.2.2
 sim:∀ g' σ' h',Ext g σ h g' σ' h'→Rel g' σ' h'→(eqv x.2.2=true∨cst x.2.1)→x.2.1 σ'=some x.2.2→e.2.1 h'=some e.2.2
 sim2:∀ g' σ' h' h1,Ext g σ h g' σ' h'→Rel g' σ' h'→oX0 h1 h'→e.2.1 h1=some e.2.2→x.2.1 σ'=some x.2.2→e.2.1 h'=some e.2.2
def LOk (g:Gh)(σ h:jA)(L:HL)(M:LD):Prop:=∀ e∈L,∃ x∈M,RdOk g σ h x e
theorem uC1 (i:Nat):∀ l:List Nat,cT i l=true↔i∈l
 | []=>by simp[cT]
 | x :: l=>by
  rw[cT]
  cases a:Nat.beq i x with
  | true=>simp[Nat.eq_of_beq_eq_true a]
  | false=>
   have:i≠x:=λe=>by subst e;rw[Nat.beq_refl] at a;cases a
   simp[uC1 i l,this]
theorem sG0 {i:Nat}{b:List Nat}(h:¬ i∈b):cT i b=false:=by
 cases a:cT i b with
 | false=>rfl
 | true=>exact absurd ((uC1 i b).1 a) h
theorem uG1 {bind:List Nat}{σ:jA}:∀ {M:LD},kL bind σ M→∀ x∈M,¬ x.1∈bind→kE σ x.2.1 x.2.2
 | y :: M,hk,x,c,hn=>by
  have a:Bool.rec (motive:=λ_=>Prop) (kE σ y.2.1 y.2.2∧kL bind σ M) (kL bind σ M) (cT y.1 bind):=hk
  rcases List.mem_cons.1 c with rfl|c
  ·rw[sG0 hn] at a;exact a.1
  ·cases d:cT y.1 bind with
   | true=>rw[d] at a;exact uG1 a x c hn
   | false=>rw[d] at a;exact uG1 a.2 x c hn
theorem iK0 {bind:List Nat}{σ:jA}:∀ {M:LD},kLA bind σ M→∀ x∈M,¬ x.1∈bind→kA σ x.2.1 x.2.2
 | y :: M,hk,x,c,hn=>by
  have a:Bool.rec (motive:=λ_=>Prop) (kA σ y.2.1 y.2.2∧kLA bind σ M) (kLA bind σ M) (cT y.1 bind):=hk
  rcases List.mem_cons.1 c with rfl|c
  ·rw[sG0 hn] at a;exact a.1
  ·cases d:cT y.1 bind with
   | true=>rw[d] at a;exact iK0 a x c hn
   | false=>rw[d] at a;exact iK0 a.2 x c hn
theorem kJ0 {bind:List Nat}:∀ {M:LD},∀ x∈M,¬ x.1∈bind→x∈bN bind M
 | y :: M,x,a,hn=>by
  show x∈Bool.rec (motive:=λ_=>LD) (y :: bN bind M) (bN bind M) (cT y.1 bind)
  rcases List.mem_cons.1 a with rfl|a
  ·rw[sG0 hn];exact List.mem_cons_self ..
  ·cases c:cT y.1 bind with
   | true=>exact kJ0 x a hn
   | false=>exact List.mem_cons_of_mem _ (kJ0 x a hn)
section
variable {g g':Gh} {σ h σ' h':jA} {L:HL} {M:LD} {b:Zb} {bind:List Nat}
theorem RdOk.go {x e:Nat×(jA→Z8 Z6)×Z6}(a:RdOk g σ h x e)(j:Ext g σ h g' σ' h')(m:Rel g' σ' h')(c:b=true∨kE σ' x.2.1 x.2.2∨(oX0 h h'∧kA σ' x.2.1 x.2.2))(r:b=true→Same h h'):RdOk g' σ' h' x e:=
 ⟨a.i,c.elim (λo=>a.st _ _ (r o) a.now) (λc=>c.elim (λc=>a.sim _ _ _ j m c.2 c.1) (λc=>a.sim2 _ _ _ _ j m c.1 a.now c.2)),a.st,λk f l d=>a.sim k f l (j.trans d),λk f l n d=>a.sim2 k f l n (j.trans d)⟩
theorem gY2 {x:It}(a:cO x b bind σ' M):b=true∨kL bind σ' M∨(apO x.c x.o=true∧kLA bind σ' M):=by
 cases b with
 | true=>exact .inl rfl
 | false=>
  right
  unfold cO at a
  split at a
  ·rename_i e d;exact .inr ⟨by rw[e,d];rfl,a⟩
  ·exact .inl a
theorem LOk.kept (l:LOk g σ h L M)(a:b=true∨kL bind σ' M∨(oX0 h h'∧kLA bind σ' M))(s:Ext g σ h g' σ' h')(t:Rel g' σ' h')(r:b=true→Same h h'):dT0 bind h' L:=by
 induction L with
 | nil=>trivial
 | cons e L m=>
  obtain ⟨i,n,v⟩:=e
  refine ⟨?_,m λe o=>l e (List.mem_cons_of_mem _ o)⟩
  cases k:bind.contains i with
  | true=>trivial
  | false=>
   have j:i∉bind:=λhi=>by simp at k;exact k hi
   obtain ⟨x,d,f⟩:=l (i,n,v) (List.mem_cons_self ..)
   have c:¬ x.1∈bind:=by rw[f.i];exact j
   exact (f.go s t (a.imp id λa=>a.imp (λa=>uG1 a x d c) λa=>⟨a.1,iK0 a.2 x d c⟩) r).now
theorem LOk.next (m:LOk g σ h L M)(c:b=true∨kL bind σ' M∨(oX0 h h'∧kLA bind σ' M))(l:Ext g σ h g' σ' h')(r:Rel g' σ' h')(o:b=true→Same h h'):LOk g' σ' h' (cP0 bind L) (bN bind M):=by
 intro e n
 obtain ⟨k,s⟩:=List.mem_filter.1 n
 have j:e.1∉bind:=by simpa using s
 obtain ⟨x,d,f⟩:=m e k
 have a:¬ x.1∈bind:=by rw[f.i];exact j
 exact ⟨x,kJ0 x d a,f.go l r (c.imp id λc=>c.imp (λc=>uG1 c x d a) λc=>⟨c.1,iK0 c.2 x d a⟩) o⟩
theorem LOk.drop (bind:List Nat)(j:LOk g σ h L M):LOk g σ h (cP0 bind L) (bN bind M):=by
 intro e k
 obtain ⟨f,l⟩:=List.mem_filter.1 k
 have d:e.1∉bind:=by simpa using l
 obtain ⟨x,c,a⟩:=j e f
 exact ⟨x,kJ0 x c (by rw[a.i];exact d),a⟩
theorem LOk.cons (f:LOk g σ h L M){x e:Nat×(jA→Z8 Z6)×Z6}(d:RdOk g σ h x e):LOk g σ h (e :: L) (x :: M):=by
 intro i a
 rcases List.mem_cons.1 a with rfl|a
 ·exact ⟨x,List.mem_cons_self ..,d⟩
 ·obtain ⟨y,c,j⟩:=f i a
  exact ⟨y,List.mem_cons_of_mem _ c,j⟩
theorem LOk.more (c:LOk g σ h L M)(x:Nat×(jA→Z8 Z6)×Z6):LOk g σ h L (x :: M):=λe d=>by
 obtain ⟨y,a,f⟩:=c e d
 exact ⟨y,List.mem_cons_of_mem _ a,f⟩
theorem rd_ok (y:Rel g σ h){P:Z9}{D T:VT}(A:Tms g h σ.next D T){NG:Nat}(n:NG≤σ.lo){o:Op}{t:Zt}(s:o.operands.all (gA NG)=true){d v:Z6}(H:tv P o t T h=some v)(J:RV g h σ.next d v)(i:Nat) :
  RdOk g σ h (i,rdD P o D,d) (i,λh'=>tv P o t T h',v):=by
 refine ⟨rfl,H,λz u B x=>nU2 B x,λg' σ' h' m f w x=>?_,λg' σ' h' z m f B F x=>?_⟩
 rotate_left
 ·have c:rdD P o D σ'=some d:=x
  unfold rdD at c
  split at c
  ·rename_i ty a
   have C:RV g' h' σ'.next (ev D a) (ev T a):=qT0 f (A.ext (m.e0 y)) (by rw[m.lo];exact n) (by
    rw[Array.all_eq_true_iff_forall_mem] at s
    exact s a (by simp[Op.operands]))
   obtain ⟨V,u,_⟩:=sI0 f C c
   exact gY1 B F u
  ·cases c
 have c:rdD P o D σ'=some d:=x
 unfold rdD at c
 split at c
 ·rename_i ty a
  have E:=A.ext (m.e0 y)
  have C:RV g' h' σ'.next (ev D a) (ev T a):=qT0 f E (by rw[m.lo];exact n) (by
   rw[Array.all_eq_true_iff_forall_mem] at s
   exact s a (by simp[Op.operands]))
  rcases w with w|w
  ·obtain ⟨V,z,u⟩:=sI0 f C c
   have:=qF3 (m.e0 y).δ w J u
   subst this
   exact z
  ·have e:ldD P ty (ev D a) ⟨.nil,0,0⟩=some d:=(w ⟨.nil,0,0⟩ σ').trans c
   have j:RV g h σ.next (ev D a) (ev T a):=qT0 y A n (by
    rw[Array.all_eq_true_iff_forall_mem] at s
    exact s a (by simp[Op.operands]))
   have r:qL P ty (ev T a) h=some v:=H
   show qL P ty (ev T a) h'=some v
   revert j e
   generalize ev D a=da
   intro e j
   unfold ldD at e
   split at e
   ·rename_i l k off cs
    simp only[RV] at j
    obtain ⟨vs,z,b,o,N,u,X⟩:=j
    rw[N] at r ⊢
    obtain ⟨I,K⟩:=u.2 b ⟨o,none,rfl⟩
    rw[yD0] at r ⊢
    rw[m.hlo,qV ((m.e0 y).get b K I)]
    exact r
   ·rename_i Y _
    exfalso
    unfold qL at e
    split at e
    ·have R : ∀ b, Ev.cells ⟨.nil, 0, 0⟩ b = none := fun b => by
      unfold Ev.cells
      have:(⟨.nil,0,0⟩:jA).get b=none:=Tr.get_nil b
      rw[this]
     rw[R _] at e
     cases e
    ·cases e
 ·cases c
theorem yW3 (z:Rel g σ h){P:Z9}{D T:VT}{o:Op}{t:Zt}{d:Z6}{i:Nat}{f:Z6×Z6→Z6}{u:Z6×Z6}(x:tv P o t T h=none)(r:tw P o T h=some u) :
  RdOk g σ h (i,rdD P o D,d) (i,λh'=>(tw P o T h').map f,f u):=by
 have j:∀ e l,Same e l→(tw P o T e).map f=some (f u)→(tw P o T l).map f=some (f u):=λe l n c=>by
  cases m:tw P o T e with
  | none=>rw[m] at c;cases c
  | some w=>rw[m] at c;rw[nT2 n m];exact c
 refine ⟨rfl,by show (tw P o T h).map f=_;rw[r];rfl,j,λg' σ' h' s k y c=>?_,λg' σ' h' e s k n v c=>?_⟩
 all_goals
  have a:rdD P o D σ'=some d:=c
  unfold rdD at a
  split at a
  ·cases r
  ·cases a
end
theorem bU {K:VT→jA→Prop}:∀ (t:PT),ptOk NG t=true→∀ {g:Gh} {σ h:jA} (e:Rel g σ h) (l:g.ok p q.H) {D T:VT} (j:Tms g h σ.next D T) (a:NG≤σ.lo) {L:HL} {M:LD} (m:LOk g σ h L M),wZ0 p q t M D σ K→bB p t L T h (Aft g σ h K)
 | .fin,_,g,σ,h,e,l,D,T,j,a,L,M,m,c=>⟨g,σ,D,c,Ext.refl,e,j⟩
 | .no,_,g,σ,h,e,l,D,T,j,a,L,M,m,c=>trivial
 | .bad,_,g,σ,h,e,l,D,T,j,a,L,M,m,c=>c
 | .take i rd x k,hok,g,σ,h,e,l,D,T,j,a,L,M,m,c=>by
  simp only[ptOk,Z5] at hok
  simp only[wZ0] at c
  simp only[bB]
  refine pC0 j (λc=>?_) (λc=>?_) c
  ·cases rd with
   | false=>
    dsimp only at c ⊢
    cases n:tpD p.P x.o x.t D with
    | none=>rw[n] at c;exact c.elim
    | some d=>
     rw[n] at c
     obtain ⟨v,w,r⟩:=lK2 e j a hok.1 n
     rw[w]
     exact bU k hok.2 e l (j.put _ r) a m c
   | true=>
    dsimp only at c ⊢
    cases n:tvD p.P x.o x.t D σ with
    | none=>rw[n] at c;exact c.elim
    | some d=>
     rw[n] at c
     rcases lJ2 e l.1 j a hok.1 n with ⟨v,w,r⟩|⟨w,F,E,r,J,N⟩
     ·rw[w]
      exact bU k hok.2 e l (j.put _ r) a (m.cons (rd_ok e j a hok.1 w r i)) c
     ·rw[w,r]
      exact ⟨bU k hok.2 e l (j.put _ J) a (m.cons (yW3 e (f:=(·.1)) (u:=(F,E)) w r)) c,
       bU k hok.2 e l (j.put _ N) a (m.cons (yW3 e (f:=(·.2)) (u:=(F,E)) w r)) c⟩
  ·cases rd with
   | false=>exact bU k hok.2 e l (j.put _ RV.undef) a m c
   | true=>
    exact bU k hok.2 e l (j.put _ RV.undef) a (m.more _) c
 | .eff i x bind k alt,hok,g,σ,h,e,l,D,T,j,a,L,M,m,c=>by
  simp only[ptOk,Z5] at hok
  simp only[wZ0] at c
  simp only[bB]
  refine ⟨pC0 j (λc=>?_) (λc=>?_) c.1,bU alt hok.2 e l j a m c.2⟩
  ·refine fI1 e l j a hok.1.1 c λb d σ' v h' B n R=>?_
   obtain ⟨s,B⟩:=B
   obtain ⟨g',y,A,V,Y⟩:=n
   have s:=(gY2 s).imp id λz=>z.imp id λz=>And.intro (oX0.of e (R z.1) y.hlo) z.2
   have C:b=true→Same h h':=λI=>Same.of e (Y I) y.hlo
   refine ⟨m.kept s y A C,?_⟩
   refine gN (λT r X=>Aft.of y X) k _ _ _ ?_
   exact bU k hok.1.2 A (y.ok l) ((j.ext (y.e0 e)).put _ V) (by rw[y.lo];exact a) (m.next s y A C) B
  ·exact bU k hok.1.2 e l (j.put _ RV.undef) a (m.drop bind) c
end
def dB (NG:Nat):IR→Zb
 | .ops l=>l.all (itOk NG)
 | .plan t=>ptOk NG t
 | .seq a b=>dB NG a&&dB NG b
 | .cond x a b=>gA NG x&&dB NG a&&dB NG b
 | .block _ b=>dB NG b
 | .loop b=>dB NG b
 | _=>true
structure SRel (g:Gh)(D s:S):Prop where
 r:Rel g D.h s.h
 t:Tms g s.h D.h.next D.tm s.tm
 df:s.df=D.df.map g.δ
 dl:∀ d∈D.df,d<D.h.next
def RA (g:Gh)(σ h:jA)(R:jK→S→Prop)(e:jK)(s:S):Prop:=∃ g' D,R e D∧Ext g σ h g' D.h s.h∧SRel g' D s
theorem RA.of {g b:Gh}{σ h a c:jA}(x:Ext g σ h b a c){R:jK→S→Prop}{e:jK}{s:S}(f:RA b a c R e s):RA g σ h R e s:=by
 obtain ⟨g',D,j,d,i⟩:=f
 exact ⟨g',D,j,x.trans d,i⟩
def WD (p:Par)(H:jA)(ro:Z8 Nat)(a:IR)(D:S)(R:jK→S→Prop):Prop:=
 ∀ (g:Gh) (s:S),g.ok p H→p.NG≤D.h.lo→SRel g D s→(∀ l,ro=some l→l<D.h.next)→W p (ro.map g.δ) a s (RA g D.h s.h R)
def WinD (p:Par)(H:jA)(ro:Z8 Nat)(b c:Code)(D:S)(R:jK→S→Prop):Prop:=
 ∀ (g:Gh) (s:S),g.ok p H→p.NG≤D.h.lo→SRel g D s→(∀ l,ro=some l→l<D.h.next)→WPin p (ro.map g.δ) b c s (RA g D.h s.h R)
def dc (p:Par)(q:Q)(ro:Z8 Nat):IR→S→(jK→S→Prop)→Prop
 | .bad,_,_=>False
 | .skip,s,R=>R .normal s
 | .ret,s,R=>R .ret s
 | .exit i,s,R=>R (.exit i) s
 | .goto l,s,R=>R (.goto l) s
 | .label _,s,R=>R .normal s
 | .ops l,s,R=>dops p q l s.tm s.h λtm h=>R .normal ⟨tm,s.df,h⟩
 | .plan t,s,R=>wZ0 p q t [] s.tm s.h λtm h=>R .normal ⟨tm,s.df,h⟩
 | .seq a b,s,R=>dc p q ro a s (fG0 (λc=>dc p q ro b c R) R)
 | .cond x a b,s,R=>zE0 (ev s.tm x) (dc p q ro a s R) (dc p q ro b s R)
 | .block i b,s,R=>dc p q ro b s (outR i R)
 | .loop b,s,R=>WD p q.H ro (.loop b) s R
 | .scope b,s,R=>WinD p q.H ro b b s R
 | .range g ps a b,s,R=>WD p q.H ro (.range g ps a b) s R
section
variable {p:Par} {q:Q}
theorem lP1 {g g':Gh}{σ σ' h c:jA}(x:Ext g σ h g' σ' c){ro:Z8 Nat}(a:∀ l,ro=some l→l<σ.next):ro.map g'.δ=ro.map g.δ:=by
 cases ro with
 | none=>rfl
 | some l=>simp only[Option.map_some,x.δ l (a l rfl)]
theorem SRel.ext {g g':Gh}{D D' s s':S}(x:Ext g D.h s.h g' D'.h s'.h)(c:SRel g D s)(f:Rel g' D'.h s'.h)(i:Tms g' s'.h D'.h.next D'.tm s'.tm)(e:s'.df=s.df)(b:D'.df=D.df):SRel g' D' s':=
 ⟨f,i,by rw[e,b,c.df];exact (List.map_congr_left λd a=>x.δ d (c.dl d a)).symm,λd a=>by rw[b] at a;exact Nat.lt_of_lt_of_le (c.dl d a) x.nn⟩
theorem jZ0 {ro:Z8 Nat}:∀ (w:IR),dB p.NG w=true→∀ {g:Gh} {D s:S} {R:jK→S→Prop},g.ok p q.H→p.NG≤D.h.lo→SRel g D s→(∀ l,ro=some l→l<D.h.next)→dc p q ro w D R→vc p (ro.map g.δ) w s (RA g D.h s.h R)
 | .bad,_,g,D,s,R,_,_,hs,_,hv=>hv
 | .skip,_,g,D,s,R,_,_,hs,_,hv=>⟨g,D,hv,Ext.refl,hs⟩
 | .ret,_,g,D,s,R,_,_,hs,_,hv=>⟨g,D,hv,Ext.refl,hs⟩
 | .exit i,_,g,D,s,R,_,_,hs,_,hv=>⟨g,D,hv,Ext.refl,hs⟩
 | .goto l,_,g,D,s,R,_,_,hs,_,hv=>⟨g,D,hv,Ext.refl,hs⟩
 | .label l,_,g,D,s,R,_,_,hs,_,hv=>⟨g,D,hv,Ext.refl,hs⟩
 | .ops l,hok,g,D,s,R,hP,hNG,hs,_,hv=>by
  refine qX0 (λT y n=>?_) l _ _ (lK0 l hok hs.r hP hs.t hNG hv)
  obtain ⟨g',σ',D',k,d,m,u⟩:=n
  exact ⟨g',⟨D',D.df,σ'⟩,k,d,hs.ext (D':=⟨D',D.df,σ'⟩) (s':=⟨T,s.df,y⟩) d m u rfl rfl⟩
 | .plan t,hok,g,D,s,R,hP,hNG,hs,_,hv=>by
  refine gN (λT y n=>?_) t _ _ _ (bU t hok hs.r hP hs.t hNG (L:=[]) (M:=[]) (λe B=>by cases B) hv)
  obtain ⟨g',σ',D',k,d,m,u⟩:=n
  exact ⟨g',⟨D',D.df,σ'⟩,k,d,hs.ext (D':=⟨D',D.df,σ'⟩) (s':=⟨T,s.df,y⟩) d m u rfl rfl⟩
 | .seq a b,hok,g,D,s,R,hP,hNG,hs,hro,hv=>by
  simp only[dB,Z5] at hok
  simp only[dc] at hv
  simp only[vc]
  refine gR _ _ _ _ (λe A n=>?_) (jZ0 a hok.1 hP hNG hs hro hv)
  obtain ⟨g',o,k,d,m⟩:=n
  cases e with
  | normal=>
   have:=jZ0 b hok.2 (d.ok hP) (by rw[d.lo];exact hNG) m (λl e=>Nat.lt_of_lt_of_le (hro l e) d.nn) k
   rw[lP1 d hro] at this
   exact gR _ _ _ _ (λe E n=>RA.of d n) this
  | exit i=>exact ⟨g',o,k,d,m⟩
  | goto l=>exact ⟨g',o,k,d,m⟩
  | ret=>exact ⟨g',o,k,d,m⟩
 | .cond x a b,hok,g,D,s,R,hP,hNG,hs,hro,hv=>by
  simp only[dB,Z5] at hok
  simp only[dc] at hv
  simp only[vc]
  have z:=qT0 hs.r hs.t hNG hok.1.1
  unfold zE0 at hv ⊢
  split at hv
  ·rename_i c C
   rw[C] at z
   rw[z.boolE]
   exact ⟨λe=>jZ0 a hok.1.2 hP hNG hs hro (hv.1 e),λe=>jZ0 b hok.2 hP hNG hs hro (hv.2 e)⟩
  ·exact hv.elim
 | .block i b,hok,g,D,s,R,hP,hNG,hs,hro,hv=>by
  refine gR b s _ _ (λe A n=>?_) (jZ0 b hok hP hNG hs hro hv)
  obtain ⟨g',o,k,d,m⟩:=n
  cases e with
  | normal=>exact ⟨g',o,k,d,m⟩
  | exit j=>
   simp only[outR] at k ⊢
   split
   ·rename_i v;rw[if_pos v] at k;exact ⟨g',o,k,d,m⟩
   ·rename_i v;rw[if_neg v] at k;exact ⟨g',o,k,d,m⟩
  | goto l=>exact ⟨g',o,k,d,m⟩
  | ret=>exact ⟨g',o,k,d,m⟩
 | .loop b,_,g,D,s,R,hP,hNG,hs,hro,hv=>hv g s hP hNG hs hro
 | .scope b,_,g,D,s,R,hP,hNG,hs,hro,hv=>hv g s hP hNG hs hro
 | .range f ps a b,_,g,D,s,R,hP,hNG,hs,hro,hv=>hv g s hP hNG hs hro
theorem WD.loop (jV:wB0 p){ro:Z8 Nat}{b:IR}{R:jK→S→Prop}(v:dB p.NG b=true)(I:Nat→S→Prop)(A:∀ n a,I n a→dc p q ro b a (fG0 (λy=>∃ m,m<n∧I m y) R)) :
  ∀ n s,I n s→WD p q.H ro (.loop b) s R:=by
 intro n D E g s z t B c
 refine W.loopI jV (λn a=>∃ g' D',I n D'∧Ext g D.h s.h g' D'.h a.h∧SRel g' D' a) ?_ n s ⟨g,D,E,Ext.refl,B⟩
 rintro n a ⟨g',D',u,x,r⟩
 have:=jZ0 b v (x.ok z) (by rw[x.lo];exact t) r (λl e=>Nat.lt_of_lt_of_le (c l e) x.nn) (A n D' u)
 rw[lP1 x c] at this
 refine gR _ _ _ _ (λe y C=>?_) this
 obtain ⟨j,o,d,k,f⟩:=C
 cases e with
 | normal=>
  obtain ⟨m,F,w⟩:=d
  exact ⟨m,F,j,o,w,x.trans k,f⟩
 | exit i=>exact ⟨j,o,d,x.trans k,f⟩
 | goto l=>exact ⟨j,o,d,x.trans k,f⟩
 | ret=>exact ⟨j,o,d,x.trans k,f⟩
def jH (p:Par)(H:jA)(f:FuncId)(args:List Z6)(σ:jA)(R:Z6→jA→Prop):Prop:=
 ∀ (g:Gh) (h:jA) (vs:List Z6),g.ok p H→Rel g σ h→RVL g h σ.next args vs→cP p f vs h λu a=>∃ d σ',R d σ'∧Eff g σ h false d σ' u a
theorem jH.mono {H:jA}{f:FuncId}{args:List Z6}{σ:jA}{R a:Z6→jA→Prop}(l:jH p H f args σ R)(i:∀ d σ',R d σ'→a d σ'):jH p H f args σ a:=
 λg h vs b k e=>(l g h vs b k e).mono λu m ⟨d,σ',c,j⟩=>⟨d,σ',i d σ' c,j⟩
theorem nM0 {g:Gh}:∀ (df:List Nat) {σ σ' h:jA} (c:Rel g σ h) (i:∀ d∈df,d<σ.next),gQ df σ=some σ'→∃ b,gQ (df.map g.δ) h=some b∧Ext g σ h g σ' b∧Rel g σ' b
 | [],σ,σ',h,c,i,he=>by cases he;exact ⟨h,rfl,Ext.refl,c⟩
 | d :: df,σ,σ',h,c,i,he=>by
  simp only[gQ] at he
  split at he
  ·rename_i m n
   split at he
   ·rename_i k
    have f:=i d (List.mem_cons_self ..)
    have e:σ.lo≤d:=by simpa using k
    have a:=c.own f e n
    have j:h.get (g.δ d)=some ⟨.deferred (some []),m⟩:=c.obj d _ f n
    obtain ⟨u,v⟩:=wV0 c a (x:=⟨.deferred none,false⟩) (y:=⟨.deferred none,false⟩) λb o _=>o
    obtain ⟨b,w,s,t⟩:=nM0 df v (λd l=>i d (List.mem_cons_of_mem _ l)) he
    refine ⟨b,?_,u.trans s,t⟩
    have r:Nat.ble h.lo (g.δ d)=true:=by simpa using c.dlo d a
    simp only[List.map_cons,gQ,j,r]
    exact w
   ·cases he
  ·cases he
theorem fW0 {P:Z9}{g:Gh}{σ h:jA}(i:Rel g σ h){D T:VT}(d:Tms g h σ.next D T):∀ (b:List ResultVar) {l:List Z6},qZ.go P D σ b=some l→∃ vs,qZ.go P T h b=some vs∧RVL g h σ.next l vs
 | [],l,he=>by cases he;exact ⟨[],rfl,RVL.nil⟩
 | .tmp t :: b,l,he=>by
  simp only[qZ.go] at he ⊢
  split at he<;>cases he
  rename_i n c
  obtain ⟨vs,e,f⟩:=fW0 i d b c
  rw[e]
  exact ⟨_,rfl,RVL.cons (d.get t) f⟩
 | .cell a t :: b,l,he=>by
  simp only[qZ.go] at he ⊢
  split at he<;>cases he
  rename_i v n m c
  obtain ⟨vs,e,f⟩:=fW0 i d b c
  obtain ⟨u,j,k⟩:=uE1 i (d.get a) m
  rw[j,e]
  exact ⟨_,rfl,RVL.cons k f⟩
theorem rL1 {P:Z9}{g:Gh}{σ h:jA}(j:Rel g σ h){D T:VT}(i:Tms g h σ.next D T){b:List ResultVar}{d:Z6}(c:dF P b D σ=some d):∃ v,dF P b T h=some v∧RV g h σ.next d v:=by
 unfold dF at c ⊢
 split at c
 ·rename_i u o
  cases c
  obtain ⟨vs,e,a⟩:=fW0 j i b o
  simp only[RVL] at a
  obtain ⟨v,n,rfl,k,m⟩:=a
  subst m
  rw[e]
  exact ⟨v,rfl,k⟩
 ·rename_i l f r
  cases c
  obtain ⟨vs,e,a⟩:=fW0 j i b r
  rw[e]
  refine ⟨.tuple ⟨vs⟩,?_,?_⟩
  ·cases vs with
   | nil=>rfl
   | cons v vs=>
    cases vs with
    | nil=>
     cases l with
     | nil=>simp only[RVL] at a;cases a
     | cons x l=>
      have:=a.len
      simp at this
      subst this
      exact absurd rfl (f x)
    | cons s vs=>rfl
  ·simp only[RV]
   exact ⟨vs,rfl,a⟩
 ·cases c
theorem jH.fir (jV:wB0 p){f:FuncId}{a:FIR}(hf:Ev.fir p.P f=some a)(K:dB p.NG a.ir=true){args:List Z6}{σ:jA}{R:Z6→jA→Prop}{T:VT}(C:Nat.ble args.length a.n=true)(E:Nat.ble a.n 100000=true)
  (X:T.arr=⟨args++List.replicate (a.n-args.length) undef⟩) (F:p.NG≤σ.lo) (hv:dc p q none a.ir ⟨T,[],σ⟩ (jR p.P a.rs R)):jH p q.H f args σ R:=by
 intro g h vs Y hr A
 have s:=A.len
 refine cP.fir3 jV hf (T:=VT.of (vs++List.replicate (a.n-vs.length) undef) a.n) (by rw[s];exact C) E ?_ λhlo=>?_
 ·have D:args.length≤a.n:=by simpa using C
  have k:a.n<U:=le_U (by simpa using E)
  have b:(vs++List.replicate (a.n-vs.length) undef).length=a.n:=by simp;omega
  have m:(VT.of (vs++List.replicate (a.n-vs.length) undef) a.n).sz=a.n:=by
   show (vs++List.replicate (a.n-vs.length) undef).length+(a.n-(vs++List.replicate (a.n-vs.length) undef).length)=_
   rw[b];omega
  rw[VT.of_arr _ _ (by rw[m];exact k),b]
  apply Array.ext';simp
 ·rw[gY0]
  have D:args.length≤a.n:=by simpa using C
  have k:a.n<U:=le_U (by simpa using E)
  have b:(vs++List.replicate (a.n-vs.length) undef).length=a.n:=by simp;omega
  have m:(VT.of (vs++List.replicate (a.n-vs.length) undef) a.n).sz=a.n:=by
   show (vs++List.replicate (a.n-vs.length) undef).length+(a.n-(vs++List.replicate (a.n-vs.length) undef).length)=_
   rw[b];omega
  have B:(VT.of (vs++List.replicate (a.n-vs.length) undef) a.n).arr=⟨vs++List.replicate (a.n-vs.length) undef⟩:=by
   rw[VT.of_arr _ _ (by rw[m];exact k),b]
   apply Array.ext';simp
  have o:T.sz=a.n:=by
   rw[← VT.arr_size,X]
   simp;omega
  have c:RVL g h σ.next (args++List.replicate (a.n-args.length) undef) (vs++List.replicate (a.n-vs.length) undef):=by
   refine A.app ?_
   rw[s]
   refine RVL.of rfl λi d v j x=>?_
   rw[j] at x
   cases x
   have:=List.eq_of_mem_replicate (List.mem_of_getElem? j)
   rw[this]
   exact RV.undef
  have ht:Tms g h σ.next T (VT.of (vs++List.replicate (a.n-vs.length) undef) a.n):=by
   refine ⟨by rw[m,o],by rw[o];exact k,λi=>?_⟩
   rw[← VT.arr_getD,← VT.arr_getD,X,B]
   simp only[Array.getD_eq_getD_getElem?,List.getElem?_toArray]
   cases hi:(args++List.replicate (a.n-args.length) undef)[i]? with
   | none=>
    have:(vs++List.replicate (a.n-vs.length) undef)[i]?=none:=by
     rw[List.getElem?_eq_none_iff] at hi ⊢
     rw[c.len];exact hi
    rw[this]
    exact RV.undef
   | some d=>
    obtain ⟨v,j,x⟩:=c.get hi
    rw[j]
    exact x
  have hs:SRel g ⟨T,[],σ⟩ ⟨VT.of (vs++List.replicate (a.n-vs.length) undef) a.n,[],h⟩:=⟨hr,ht,rfl,λd J=>by cases J⟩
  have:=jZ0 a.ir K Y F hs (λl e=>by cases e) hv
  refine gR _ _ _ _ (λe s1 ha=>?_) this
  obtain ⟨g',V,j,x,y⟩:=ha
  have z:endR p.P a.rs R V→endR p.P a.rs (λu N=>∃ d σ',R d σ'∧Eff g σ h false d σ' u N) s1:=by
   intro w
   unfold endR at w ⊢
   split at w
   ·rename_i I hm
    obtain ⟨N,m1,L,M⟩:=nM0 V.df y.r y.dl hm
    rw[y.df,m1]
    dsimp only
    split at w
    ·rename_i d J
     obtain ⟨v,v1,Z⟩:=rL1 M (y.t.ext (L.e0 y.r)) J
     rw[v1]
     exact ⟨d,I,w,g',x.trans L,M,Z,λe=>by cases e⟩
    ·exact w.elim
   ·exact w.elim
  cases e with
  | normal=>exact z j
  | ret=>exact z j
  | exit i=>exact j.elim
  | goto l=>exact j.elim
end
section
variable {g g':Gh} {h:jA} {N n:Nat}
structure Wid (g g':Gh)(n:Nat):Prop where
 P:g'.P=g.P
 δ:∀ i,i<n→g'.δ i=g.δ i
 F:∀ b,g.F b→g'.F b
theorem Fz.wid (w:Wid g g' n){a:Z8 Addr}{vs:List Z6}(c:Fz g h a vs):Fz g' h a vs:=⟨c.1,λb d=>⟨(c.2 b d).1,w.F b (c.2 b d).2⟩⟩
theorem RowP.wid (w:Wid g g' n){l:Nat}{j vs:List Z6}{v:Z6}(k:l<n)(d:RowP g h N l j vs v):RowP g' h n l j vs v:=by
 unfold RowP at d
 split at d
 ·obtain ⟨e,f,rfl⟩:=d
  exact ⟨e,k,by rw[w.δ l k]⟩
 ·obtain ⟨b,o,e,f,i⟩:=d
  exact ⟨b,o,e,f.wid w,i⟩
 ·obtain ⟨a,c,size,e,f,i,q,m,r⟩:=d
  exact ⟨a,c,size,e,f.wid w,i,q,m,by rw[w.P];exact r⟩
 ·exact d.elim
mutual
theorem RV.wid (w:Wid g g' n):∀ (d v:Z6),sc n d=true→RV g h N d v→RV g' h n d v
 | .pointer none,v,hs,hv=>by simp only[RV] at hv ⊢;exact ⟨by rw[uT];rfl,hv.2⟩
 | .pointer (some a),v,hs,hv=>by
  simp only[RV] at hv ⊢
  have j:fscP n (some a)=true:=by rw[uT];exact hs
  exact ⟨j,by rw[dE w.δ j];exact hv.2⟩
 | .slice none _ _,v,hs,hv=>by simp only[RV] at hv ⊢;exact ⟨by rw[uT];rfl,hv.2⟩
 | .slice (some a) _ _,v,hs,hv=>by
  simp only[RV] at hv ⊢
  have j:fscP n (some a)=true:=by rw[uT];exact hs
  exact ⟨j,by rw[dE w.δ j];exact hv.2⟩
 | .map none,v,hs,hv=>by simp only[RV] at hv ⊢;exact ⟨λi hi=>(by cases hi),hv.2⟩
 | .map (some r),v,hs,hv=>by
  simp only[RV] at hv ⊢
  simp only[Ev.sc,Nat.blt_eq] at hs
  exact ⟨λi hi=>(by cases hi;exact hs),by rw[hv.2,Option.map_some,Option.map_some,w.δ r hs]⟩
 | .chan _,v,hs,hv=>by simp only[RV] at hv
 | .func (.func f) ⟨fs⟩ ⟨cs⟩,v,hs,hv=>by
  simp only[RV] at hv ⊢
  simp only[Ev.sc,Z5] at hs
  obtain ⟨us,vs,c,e,m⟩:=hv
  exact ⟨us,vs,c,RVL.wid w fs us hs.1 e,RVL.wid w cs vs hs.2 m⟩
 | .func (.yield l) ⟨fs⟩ ⟨cs⟩,v,hs,hv=>by
  simp only[RV] at hv ⊢
  simp only[Ev.sc,Z5,Nat.blt_eq] at hs
  obtain ⟨vs,c,e⟩:=hv
  exact ⟨vs,RVL.wid w cs vs hs.2 c,e.wid w hs.1.1⟩
 | .func (.method _) _ _,v,hs,hv=>by simp only[RV] at hv
 | .func (.methodOf _ _) _ _,v,hs,hv=>by simp only[RV] at hv
 | .func (.via _ _ _ _) _ _,v,hs,hv=>by simp only[RV] at hv
 | .iface t d,v,hs,hv=>by
  simp only[RV] at hv ⊢
  simp only[Ev.sc] at hs
  obtain ⟨u,c,e⟩:=hv
  exact ⟨u,c,RV.wid w d u hs e⟩
 | .agg ⟨ds⟩,v,hs,hv=>by
  simp only[RV] at hv ⊢
  simp only[Ev.sc] at hs
  obtain ⟨vs,c,e⟩:=hv
  exact ⟨vs,c,RVL.wid w ds vs hs e⟩
 | .tuple ⟨ds⟩,v,hs,hv=>by
  simp only[RV] at hv ⊢
  simp only[Ev.sc] at hs
  obtain ⟨vs,c,e⟩:=hv
  exact ⟨vs,c,RVL.wid w ds vs hs e⟩
 | .bool b,v,hs,hv=>by simp only[RV] at hv ⊢;exact hv
 | .int k n,v,hs,hv=>by simp only[RV] at hv ⊢;exact hv
 | .float k n,v,hs,hv=>by simp only[RV] at hv ⊢;exact hv
 | .complex k a b,v,hs,hv=>by simp only[RV] at hv ⊢;exact hv
 | .string s,v,hs,hv=>by simp only[RV] at hv ⊢;exact hv
 | .nilFunc,v,hs,hv=>by simp only[RV] at hv ⊢;exact hv
 | .nilIface,v,hs,hv=>by simp only[RV] at hv ⊢;exact hv
theorem RVL.wid (w:Wid g g' n):∀ (ds vs:List Z6),scL n ds=true→RVL g h N ds vs→RVL g' h n ds vs
 | [],l,hs,hv=>by simp only[RVL] at hv ⊢;exact hv
 | d :: ds,l,hs,hv=>by
  simp only[RVL] at hv ⊢
  simp only[scL,Z5] at hs
  obtain ⟨v,vs,a,b,c⟩:=hv
  exact ⟨v,vs,a,RV.wid w d v hs.1 b,RVL.wid w ds vs hs.2 c⟩
end
end
mutual
inductive FzV (P:Z9)(n:Nat)(σ:jA):Z6→Z6→Prop
 | id {v:Z6} (h:sc n v=true):FzV P n σ v v
 | nil {e size:Nat} (hs:szT P e=some size) (hp:0<size):FzV P n σ (.slice none 0 0) (Rw false e 0 [])
 | sl {i off k c e size : Nat} {full ds : List Z6} {m : Zb} (hlo : n ≤ i) (hc : cells σ i = some (full, e, m)) (hs : szT P e = some size) (hp : 0 < size) (hle : off + k * size ≤ full.length)
   (hcap:(c<UC∧k≤c)∨(m=true∧UC≤c∧off=(c-UC)*size∧k<U)) (hd:FzL P n σ ((full.drop off).take (k*size)) ds):FzV P n σ (.slice (some ⟨i,off,none⟩) k c) (Rw false e k ds)
 | ptr {i off e:Nat} {full ds:List Z6} {m:Zb} (hlo:n≤i) (hc:cells σ i=some (full,e,m)) (hlt:off<full.length) (hd:FzL P n σ full ds):FzV P n σ (.pointer (some ⟨i,off,none⟩)) (Rpt off ds)
 | row {f:Zb} {e k:Nat} {cs ds:List Z6} (hd:FzL P n σ cs ds):FzV P n σ (Rw f e k cs) (Rw false e k ds)
 | agg {cs ds:List Z6} (hd:FzL P n σ cs ds):FzV P n σ (.agg ⟨cs⟩) (.agg ⟨ds⟩)
 | tup {cs ds:List Z6} (hd:FzL P n σ cs ds):FzV P n σ (.tuple ⟨cs⟩) (.tuple ⟨ds⟩)
 | fn {f:FuncId} {cs ds:List Z6} (hd:FzL P n σ cs ds):FzV P n σ (.func (.func f) ⟨[]⟩ ⟨cs⟩) (.func (.func f) ⟨[]⟩ ⟨ds⟩)
inductive FzL (P:Z9)(n:Nat)(σ:jA):List Z6→List Z6→Prop
 | nil:FzL P n σ [] []
 | cons {v d:Z6} {vs ds:List Z6} (h:FzV P n σ v d) (hs:FzL P n σ vs ds):FzL P n σ (v :: vs) (d :: ds)
end
theorem FzL.ids {P:Z9}{n:Nat}{σ:jA}:∀ {l:List Z6},scL n l=true→FzL P n σ l l
 | [],_=>.nil
 | v :: l,h=>by
  simp only[scL,Z5] at h
  exact .cons (.id h.1) (FzL.ids h.2)
def Gh.all (g:Gh)(m:Nat)(σ:jA):Gh:={ g with F:=λb=>g.F b∨∃ i,kZ σ i∧m≤i∧g.δ i=b }
theorem gU0 {g:Gh}{σ:jA}{n m:Nat}:Wid g (g.all m σ) n:=⟨rfl,λ_ _=>rfl,λ_ a=>Or.inl a⟩
theorem jS0 {g:Gh}{σ h:jA}(c:Rel g σ h){m:Nat}:Rel (g.all m σ) g.H0 h:=by
 have d:=c.lo
 have no:∀ i,¬ kZ g.H0 i:=λi hi=>by have:=hi.1;have:=hi.2.1;omega
 have a:∀ i,i<g.H0.next→σ.get i=g.H0.get i:=λi hi=>c.base i Z0
 refine ⟨by rw[d.2,← d.1];exact c.pos,⟨d.2,d.2⟩,Z0,c.hlo,λi hi=>rfl,λi x hi o=>?_,λi hi=>?_,λi x hi o=>?_,λi hi=>?_,λi hi=>absurd hi (no i),λi j hi=>absurd hi (no i),λb l=>?_,c.wf⟩
 ·exact c.baseF i x Z0 (by rw[a i Z0];exact o)
 ·have:=c.baseD i Z0
  rw[a i Z0] at this
  exact this
 ·have k:σ.get i=some x:=by rw[a i hi];exact o
  have q:=c.obj i x (by have:=c.lon;omega) k
  obtain ⟨ds,e,v,rfl,f⟩:=c.baseF i x Z0 k
  obtain ⟨vs,t,u,h0,r,s⟩:=q
  have:=RVL.flat _ _ f r
  subst this
  exact ⟨_,t,u,λh=>by omega,RVL.of_flat _ f,s⟩
 ·exact c.dlt i (by have:=c.lon;omega)
 ·refine ⟨?_,λi hi=>absurd hi (no i)⟩
  rcases l with l|⟨i,hi,_,rfl⟩
  ·exact (c.frz b l).1
  ·exact c.dlt i hi.2.1
theorem yB3 {h:jA}{b off:Nat}{vs:List Z6}{e:Zt}{m:Zb}(f:cells h b=some (vs,e,m))(d:h.lo≤b){k:Nat}(c:off+k≤vs.length):Sl h (some ⟨b,off,none⟩) ((vs.drop off).take k):=by
 have a:((vs.drop off).take k).length=k:=by simp;omega
 exact .inr ⟨b,off,vs,e,m,rfl,f,by rw[a];exact c,by rw[a],.inl d⟩
section
variable {g:Gh} {σ h:jA} {P:Z9}
mutual
theorem eQ0 (q:Rel g σ h)(w:g.P=P){n:Nat}(r:σ.lo≤n)(B:n≤σ.next):∀ {v d:Z6},FzV P n σ v d→∀ {u:Z6},RV g h σ.next v u→RV (g.all n σ) h n d u
 | _,_,.id z,u,hv=>RV.wid gU0 _ _ z hv
 | _,_,.nil z hp,u,hv=>by
  simp only[RV,Option.map_none] at hv
  obtain ⟨_,rfl⟩:=hv
  exact RV.mkRow (a:=none) (vs:=[]) RVL.nil ⟨Sl.nil _ pL0,λb D=>by obtain ⟨o,s,e⟩:=D;cases e⟩ (λe=>by cases e) hp (by simp) (.inl ⟨dF0,Z3 _⟩)
 | _,_,.sl (i:=i) (off:=off) (k:=k) (c:=c) (e:=e) (size:=size) (full:=full) (m:=m) hlo hc z hp hle hcap hd,u,hv=>by
  simp only[RV,Option.map_some,ren] at hv
  obtain ⟨J,rfl⟩:=hv
  have hi:=sc_p J
  obtain ⟨vs,l,j⟩:=q.cells hi (.inl (Nat.le_trans r hlo)) hc
  have x:(σ.get i).isSome=true:=by
   unfold Ev.cells at hc
   split at hc
   ·rename_i x;rw[x];rfl
   ·cases hc
  have f:kZ σ i:=⟨Nat.le_trans r hlo,hi,x⟩
  have y:=q.dlo i f
  have E:=(j.drop off).take (k*size)
  have A:=gW q w r B hd E
  have t:off+k*size≤vs.length:=by rw[j.len];exact hle
  refine RV.mkRow A ⟨yB3 l y t,λb D=>?_⟩ (λe=>by cases e) hp ?_ ?_
  ·obtain ⟨o,s,e⟩:=D
   cases e
   exact ⟨q.dlt i hi,.inr ⟨i,f,hlo,rfl⟩⟩
  ·simp;omega
  ·rcases hcap with C|⟨rfl,C,I,F⟩
   ·exact .inl C
   ·exact .inr ⟨g.δ i,off,vs,rfl,l,C,I,t,F,by show szT g.P e=_;rw[w];exact z⟩
 | _,_,.ptr (i:=i) (off:=off) (e:=e) (full:=full) (m:=m) hlo hc hlt hd,u,hv=>by
  simp only[RV,Option.map_some,ren] at hv
  obtain ⟨J,rfl⟩:=hv
  have hi:=sc_p J
  obtain ⟨vs,l,j⟩:=q.cells hi (.inl (Nat.le_trans r hlo)) hc
  have x:(σ.get i).isSome=true:=by
   unfold Ev.cells at hc
   split at hc
   ·rename_i x;rw[x];rfl
   ·cases hc
  have f:kZ σ i:=⟨Nat.le_trans r hlo,hi,x⟩
  have y:=q.dlo i f
  have A:=gW q w r B hd j
  have z:=yB3 l y (off:=0) (k:=vs.length) Z0
  rw[List.drop_zero,List.take_length] at z
  have:=RV.mkRpt (off:=off) (b:=g.δ i) (o:=0) A ⟨z,λb D=>by
   obtain ⟨o,s,e⟩:=D
   cases e
   exact ⟨q.dlt i hi,.inr ⟨i,f,hlo,rfl⟩⟩⟩ (by rw[j.len];exact hlt)
  rwa [Nat.zero_add] at this
 | _,_,.row hd,u,hv=>by
  obtain ⟨a,c,size,vs,rfl,l,j,C,I,F,K⟩:=hv.row
  exact RV.mkRow (gW q w r B hd l) (j.wid (n:=0) gU0) (λe=>by cases e) I F K
 | _,_,.agg hd,u,hv=>by
  simp only[RV] at hv ⊢
  obtain ⟨vs,l,j⟩:=hv
  exact ⟨vs,l,gW q w r B hd j⟩
 | _,_,.tup hd,u,hv=>by
  simp only[RV] at hv ⊢
  obtain ⟨vs,l,j⟩:=hv
  exact ⟨vs,l,gW q w r B hd j⟩
 | _,_,.fn hd,u,hv=>by
  simp only[RV] at hv ⊢
  obtain ⟨us,vs,l,j,C⟩:=hv
  simp only[RVL] at j
  subst j
  exact ⟨[],vs,l,RVL.nil,gW q w r B hd C⟩
theorem gW (d:Rel g σ h)(c:g.P=P){n:Nat}(b:σ.lo≤n)(a:n≤σ.next):∀ {vs ds:List Z6},FzL P n σ vs ds→∀ {us:List Z6},RVL g h σ.next vs us→RVL (g.all n σ) h n ds us
 | _,_,.nil,us,hv=>by simp only[RVL] at hv ⊢;exact hv
 | _,_,.cons h1 h2,us,hv=>by
  simp only[RVL] at hv ⊢
  obtain ⟨v,vs,e,f,i⟩:=hv
  exact ⟨v,vs,e,eQ0 d c b a h1 f,gW d c b a h2 i⟩
end
end
section
variable {g g' g0:Gh} {h h0:jA} {N n:Nat}
theorem RowP.wid2 (w:Wid g g' n){l:Nat}{k vs m:List Z6}{v v0:Z6}(d:RowP g0 h0 n l k m v0)(e:RowP g h N l k vs v):RowP g' h n l k vs v:=by
 unfold RowP at e d ⊢
 split at e
 ·obtain ⟨f,i,rfl⟩:=e
  exact ⟨f,d.2.1,by rw[w.δ l d.2.1]⟩
 ·obtain ⟨b,o,f,i,j⟩:=e
  exact ⟨b,o,f,i.wid w,j⟩
 ·obtain ⟨a,c,size,f,i,j,r,q,s⟩:=e
  exact ⟨a,c,size,f,i.wid w,j,r,q,by rw[w.P];exact s⟩
 ·exact e.elim
mutual
theorem RV.wid2 (w:Wid g g' n):∀ (d v v0:Z6),RV g0 h0 n d v0→RV g h N d v→RV g' h n d v
 | .pointer a,v,v0,hs,hv=>by
  simp only[RV] at hs hv ⊢
  exact ⟨hs.1,by rw[dE w.δ hs.1];exact hv.2⟩
 | .slice a _ _,v,v0,hs,hv=>by
  simp only[RV] at hs hv ⊢
  exact ⟨hs.1,by rw[dE w.δ hs.1];exact hv.2⟩
 | .map r,v,v0,hs,hv=>by
  simp only[RV] at hs hv ⊢
  refine ⟨hs.1,?_⟩
  cases r with
  | none=>exact hv.2
  | some i=>rw[hv.2,Option.map_some,Option.map_some,w.δ i (hs.1 i rfl)]
 | .chan _,v,v0,hs,hv=>by simp only[RV] at hv
 | .func (.func f) ⟨fs⟩ ⟨cs⟩,v,v0,hs,hv=>by
  simp only[RV] at hs hv ⊢
  obtain ⟨us,vs,e,j,q⟩:=hv
  obtain ⟨o,c,_,x,z⟩:=hs
  exact ⟨us,vs,e,RVL.wid2 w fs us o x j,RVL.wid2 w cs vs c z q⟩
 | .func (.yield l) ⟨fs⟩ ⟨cs⟩,v,v0,hs,hv=>by
  simp only[RV] at hs hv ⊢
  obtain ⟨vs,e,j⟩:=hv
  obtain ⟨c,q,m⟩:=hs
  exact ⟨vs,RVL.wid2 w cs vs c q e,RowP.wid2 w m j⟩
 | .func (.method _) _ _,v,v0,hs,hv=>by simp only[RV] at hv
 | .func (.methodOf _ _) _ _,v,v0,hs,hv=>by simp only[RV] at hv
 | .func (.via _ _ _ _) _ _,v,v0,hs,hv=>by simp only[RV] at hv
 | .iface t d,v,v0,hs,hv=>by
  simp only[RV] at hs hv ⊢
  obtain ⟨u,e,j⟩:=hv
  obtain ⟨y,_,m⟩:=hs
  exact ⟨u,e,RV.wid2 w d u y m j⟩
 | .agg ⟨ds⟩,v,v0,hs,hv=>by
  simp only[RV] at hs hv ⊢
  obtain ⟨vs,e,j⟩:=hv
  obtain ⟨c,_,m⟩:=hs
  exact ⟨vs,e,RVL.wid2 w ds vs c m j⟩
 | .tuple ⟨ds⟩,v,v0,hs,hv=>by
  simp only[RV] at hs hv ⊢
  obtain ⟨vs,e,j⟩:=hv
  obtain ⟨c,_,m⟩:=hs
  exact ⟨vs,e,RVL.wid2 w ds vs c m j⟩
 | .bool b,v,v0,hs,hv=>by simp only[RV] at hv ⊢;exact hv
 | .int k n,v,v0,hs,hv=>by simp only[RV] at hv ⊢;exact hv
 | .float k n,v,v0,hs,hv=>by simp only[RV] at hv ⊢;exact hv
 | .complex k a b,v,v0,hs,hv=>by simp only[RV] at hv ⊢;exact hv
 | .string s,v,v0,hs,hv=>by simp only[RV] at hv ⊢;exact hv
 | .nilFunc,v,v0,hs,hv=>by simp only[RV] at hv ⊢;exact hv
 | .nilIface,v,v0,hs,hv=>by simp only[RV] at hv ⊢;exact hv
theorem RVL.wid2 (w:Wid g g' n):∀ (ds vs a:List Z6),RVL g0 h0 n ds a→RVL g h N ds vs→RVL g' h n ds vs
 | [],l,l0,hs,hv=>by simp only[RVL] at hv ⊢;exact hv
 | d :: ds,l,l0,hs,hv=>by
  simp only[RVL] at hs hv ⊢
  obtain ⟨v,vs,c,f,e⟩:=hv
  obtain ⟨v0,a,_,b,i⟩:=hs
  exact ⟨v,vs,c,RV.wid2 w d v v0 b f,RVL.wid2 w ds vs a i e⟩
end
end
structure cJ (P:Z9)(σ σ1 σ':jA):Prop where
 next:σ.next≤σ1.next
 nx:σ1.next≤σ'.next
 lo:σ1.lo=σ.lo
 get:∀ i,i<σ1.next→(i<σ.next∧σ'.get i=σ1.get i∧σ1.get i=σ.get i)∨(σ.lo≤i∧∃ cs cs1 e fr fr1 m,σ'.get i=some ⟨.cells ⟨cs⟩ e fr,m⟩∧σ1.get i=some ⟨.cells ⟨cs1⟩ e fr1,m⟩∧FzL P σ1.next σ' cs cs1∧cs1.all one=true)
theorem gP0 {P:Z9}{g g':Gh}{σ h σ' A f:jA}(L:Rel g σ h)(x:Ext g σ h g' σ' A)(a:Rel g' σ' A)(Z:g'.P=P)(k:cJ P σ f σ'):Ext g σ h (g'.all f.next σ') f A∧Rel (g'.all f.next σ') f A:=by
 have d:σ'.lo=σ.lo:=x.lo
 have T:σ.lo≤σ.next:=L.lon
 have Y:=k.next
 have hkx:=k.nx
 have own:∀ i,kZ f i→kZ σ' i∧i<f.next:=λi ⟨v,I,M⟩=>by
  rw[k.lo] at v
  refine ⟨⟨by rw[d];exact v,Nat.lt_of_lt_of_le I k.nx,?_⟩,I⟩
  rcases k.get i I with ⟨_,s,_⟩|⟨_,cs,J,e,R,K,m,s,z,_⟩
  ·rw[s];exact M
  ·rw[s];rfl
 have low:∀ i,i<σ.lo→f.get i=σ'.get i:=λi hi=>by
  rcases k.get i Z0 with ⟨_,s,_⟩|⟨s,_⟩
  ·exact s.symm
  ·omega
 refine ⟨⟨x.P,x.H0,k.next,k.lo,x.next,x.hlo,x.δ,λb l=>.inl (x.F b l),λb l=>?_,x.fr,λi hi=>x.im i (own i hi).1⟩,?_⟩
 ·rcases l with l|⟨i,hi,X,rfl⟩
  ·exact x.Fn b l
  ·rcases x.im i hi with v|v
   ·have:=v.2.1;omega
   ·exact .inr (.inl v)
 refine ⟨by rw[k.lo];exact L.pos,⟨by rw[k.lo,← d];exact a.lo.1,a.lo.2⟩,by rw[k.lo];omega,a.hlo,λi hi=>?_,λi y hi u=>?_,λi hi=>?_,λi y hi u=>?_,λi hi=>a.dlt i Z0,λi hi=>a.dlo i (own i hi).1,λi j hi w e=>a.inj i j (own i hi).1 (own j w).1 e,λb l=>?_,a.wf⟩
 ·rw[k.lo] at hi
  rw[low i hi]
  exact a.base i (by rw[d];exact hi)
 ·rw[k.lo] at hi
  rw[low i hi] at u
  exact a.baseF i y (by rw[d];exact hi) u
 ·rw[k.lo] at hi
  rw[low i hi]
  exact a.baseD i (by rw[d];exact hi)
 ·rw[k.lo]
  have hi':i<σ'.next:=Z0
  rcases k.get i hi with ⟨E,s,z⟩|⟨M,cs,J,e,R,K,m,s,z,h6,h7⟩
  ·have t:=a.obj i y hi' (by rw[s];exact u)
   have D:=L.obj i y E (by rw[← z];exact u)
   rw[d] at t
   obtain ⟨q,mm⟩:=y
   cases q with
   | cells ca e R=>
    obtain ⟨ds⟩:=ca
    obtain ⟨vs,C,q1,q2,q3,V⟩:=t
    obtain ⟨o,_,_,_,q7,_⟩:=D
    exact ⟨vs,C,q1,q2,RVL.ext ⟨rfl,k.next,λ_ _=>rfl,λ_ l=>l,Z3 _,rfl,λ_ _ _=>rfl⟩ _ _ (RVL.wid2 (g:=g') gU0 ds vs o q7 q3),V⟩
   | loop r=>
    obtain ⟨us,q1,q2,q3⟩:=t
    obtain ⟨o,_,q5,B⟩:=D
    exact ⟨us,q1,Nat.lt_of_lt_of_le q5 k.next,RVL.ext ⟨rfl,k.next,λ_ _=>rfl,λ_ l=>l,Z3 _,rfl,λ_ _ _=>rfl⟩ _ _ (RVL.wid2 (g:=g') gU0 r.tmps.toList us o B q3)⟩
   | pending c e=>
    obtain ⟨ds⟩:=c
    obtain ⟨us,q1,q2⟩:=t
    obtain ⟨o,_,B⟩:=D
    exact ⟨us,q1,RVL.ext ⟨rfl,k.next,λ_ _=>rfl,λ_ l=>l,Z3 _,rfl,λ_ _ _=>rfl⟩ _ _ (RVL.wid2 (g:=g') gU0 ds us o B q2)⟩
   | _=>exact t
  ·rw[z] at u
   cases u
   have t:=a.obj i _ hi' s
   rw[d] at t
   obtain ⟨vs,C,q1,q2,q3,V⟩:=t
   exact ⟨vs,C,q1,q2,gW a Z (by rw[d];omega) k.nx h6 q3,h7⟩
 ·rcases l with l|⟨i,hi,X,rfl⟩
  ·exact ⟨(a.frz b l).1,λj w=>(a.frz b l).2 j (own j w).1⟩
  ·refine ⟨a.dlt i hi.2.1,λj w e=>?_⟩
   have:=a.inj j i (own j w).1 hi e
   have:=(own j w).2
   omega
def jF (p:Par)(H:jA)(f:FuncId)(args:List Z6)(d:Z6):Prop:=
 ∀ (g:Gh) (h:jA) (vs:List Z6),g.ok p H→Rel g H h→RVL g h H.next args vs→cP p f vs h λu a=>∃ g',Ext g H h g' H a∧Rel g' H a∧RV g' a H.next d u
section
variable {p:Par} {H:jA}
theorem jH.wlog {f:FuncId}{args:List Z6}{σ:jA}{R:Z6→jA→Prop}(d:σ.lo=H.next→H.lo=H.next→0<σ.lo→σ.lo≤σ.next→jH p H f args σ R):jH p H f args σ R:=by
 intro g h vs c a b
 have:=a.lo
 rw[c.2] at this
 exact d this.1 this.2 a.pos a.lon g h vs c a b
theorem jH.cut {f:FuncId}{args:List Z6}{σ a:jA}{d:Z6}(s:jH p H f args σ λv σ'=>FzV p.P a.next σ' v d∧cJ p.P σ a σ'):jH p H f args σ λv σ'=>v=d∧σ'=a:=by
 intro g h vs l k o
 refine (s g h vs l k o).mono ?_
 rintro u t ⟨v,σ',⟨r,i⟩,g',x,b,j,_⟩
 have c:=x.ok l
 obtain ⟨m,q⟩:=gP0 k x b c.1 i
 have:=k.lon
 have:=i.next
 exact ⟨d,a,⟨rfl,rfl⟩,_,m,q,eQ0 b c.1 (by rw[x.lo];omega) i.nx r j,λe=>by cases e⟩
theorem cJ.gr {P:Z9}{σ σ':jA}(g:jC σ σ' λ_=>False):cJ P σ σ σ':=
 ⟨Z3 _,g.next,rfl,λi hi=>.inl ⟨hi,g.get i hi id,rfl⟩⟩
theorem cJ.new1 {P:Z9}{σ σ':jA}(g:jC σ σ' λ_=>False)(c:σ.lo≤σ.next){cs a:List Z6}{e:Zt}{m:Zb}(l:σ.next<σ'.next)(b:cells σ' σ.next=some (cs,e,m))(j:FzL P (σ.next+1) σ' cs a)(d:a.all one=true):cJ P σ (σ.add (O a e m)) σ':=by
 obtain ⟨k,f⟩:=gM b
 refine ⟨by rw[jB];omega,by rw[jB];omega,jM _,λi hi=>?_⟩
 rw[jB] at hi
 by_cases e:i=σ.next
 ·subst e
  refine .inr ⟨c,cs,a,_,k,(0,0),_,f,?_,by rw[jB];exact j,d⟩
  rw[kM _ _ rfl];rfl
 ·exact .inl ⟨Z0,by rw[qF _ _ e];exact g.get i Z0 id,qF _ _ e⟩
theorem cJ.put1 {P:Z9}{σ σ':jA}{b:Nat}(g:jC σ σ' λk=>k=b)(q:b<σ.next)(c:σ.lo≤b){cs a:List Z6}{e:Zt}{m:Zb}(o:cells σ' b=some (cs,e,m))(l:FzL P σ.next σ' cs a)(j:a.all one=true):cJ P σ (σ.put b (O a e m)) σ':=by
 obtain ⟨f,d⟩:=gM o
 refine ⟨Z3 _,g.next,rfl,λi hi=>?_⟩
 by_cases e:i=b
 ·subst e
  refine .inr ⟨c,cs,a,_,f,(0,0),_,d,?_,l,j⟩
  rw[uV];rfl
 ·exact .inl ⟨hi,by rw[qC _ _ _ e];exact g.get i hi e,qC _ _ _ e⟩
theorem jF.cut {f:FuncId}{args:List Z6}{d:Z6}(t:jH p H f args H λv σ'=>FzV p.P H.next σ' v d):jF p H f args d:=by
 intro g h vs e b q
 refine (t g h vs e b q).mono ?_
 rintro u w ⟨v,σ',s,g',x,c,j,_⟩
 have a:=x.ok e
 have k:=b.lo
 rw[e.2] at k
 have m:cJ p.P H H σ':=⟨Z3 _,x.nn,rfl,λi hi=>.inl ⟨hi,by
  have l:=c.base i (by rw[x.lo];omega)
  rw[a.2] at l
  exact l,rfl⟩⟩
 obtain ⟨o,r⟩:=gP0 b x c a.1 m
 exact ⟨_,o,r,eQ0 c a.1 (by rw[x.lo];exact b.lon) x.nn s j⟩
theorem jI0 {g:Gh}{h:jA}{N:Nat}{f:FuncId}{cap:List Z6}{c:Z6}(a:RV g h N (.func (.func f) ⟨[]⟩ ⟨cap⟩) c):∃ cs,c=.func (.func f) ⟨[]⟩ ⟨cs⟩∧RVL g h N cap cs:=by
 simp only[RV] at a
 obtain ⟨us,vs,d,b,e⟩:=a
 simp only[RVL] at b
 subst b
 exact ⟨vs,d,e⟩
theorem jE.func {f:FuncId}{cap args:List Z6}{σ:jA}{R:Z6→jA→Prop}{K:Zb→Z6→jA→Prop}(m:jH p H f (args++cap) σ R)(i:∀ d σ',R d σ'→K false d σ'):jE p H (.func (.func f) ⟨[]⟩ ⟨cap⟩) args σ K:=by
 intro g h o vs b l k e
 obtain ⟨cs,rfl,a⟩:=jI0 k
 show zC0 p f (vs++cs) h _
 refine ((m g h _ b l (e.app a)).mono ?_).w
 rintro u q ⟨d,σ',c,j⟩
 exact ⟨false,d,σ',i d σ' c,j⟩
theorem Rel.same {g:Gh}{σ h c:jA}(a:Rel g σ h)(l:Agr h c)(k:h.next≤c.next)(d:c.lo=h.lo)(e:∀ b,c.next≤b→c.get b=none){F':Nat→Prop}(o:∀ b,F' b→b<c.next∧∀ i,kZ σ i→g.δ i≠b)(f:∀ b,g.F b→F' b) :
  Rel { g with F:=F' } σ c∧Ext0 g h σ.next { g with F:=F' } c σ.next:=by
 have e0:Ext0 g h σ.next { g with F:=F' } c σ.next:=⟨rfl,Z3 _,λ_ _=>rfl,f,k,d,λb _ j=>l b j⟩
 refine ⟨⟨a.pos,a.lo,a.lon,by have:=a.hlo;omega,a.base,a.baseF,λi hi=>by rw[d];exact a.baseD i hi,λi x hi m=>(a.obj i x hi m).ext e0 (l _ (a.dlt i hi)),λi hi=>Nat.lt_of_lt_of_le (a.dlt i hi) k,λi hi=>by rw[d];exact a.dlo i hi,a.inj,o,e⟩,e0⟩
theorem jE.lend {f:FuncId}{cap args c:List Z6}{σ:jA}{d:Z6}{K:Zb→Z6→jA→Prop}(E:jF p H f c d)(z:FzL p.P σ.lo σ (args++cap) c)(s:flat d=true)(B:K true d σ) :
  jE p H (.func (.func f) ⟨[]⟩ ⟨cap⟩) args σ K:=by
 intro g h J vs o l D y
 obtain ⟨cs,rfl,q⟩:=jI0 D
 show zC0 p f (vs++cs) h _
 have k:=jS0 l (m:=σ.lo)
 have j:=l.lo
 rw[o.2] at k j
 have r:=gW l o.1 (Z3 _) l.lon z (y.app q)
 rw[j.1] at r
 rw[j.1] at k
 refine ((E (g.all H.next σ) h _ ⟨o.1,o.2⟩ k r).mono ?_).w
 rintro u C ⟨g',x,I,v⟩
 have no:∀ i,¬ kZ H i:=λi hi=>by have:=hi.1;have:=hi.2.1;omega
 have A:=RV.flat d u s v
 subst A
 have e:Agr h C:=λb a=>x.fr b a λi hi=>absurd hi (no i)
 obtain ⟨t,e0⟩:=l.same e x.next x.hlo I.wf (F':=g.F) (λb a=>⟨Nat.lt_of_lt_of_le (l.frz b a).1 x.next,(l.frz b a).2⟩) (λb a=>a)
 exact ⟨true,u,σ,B,{ g with F:=g.F },⟨rfl,rfl,Z3 _,rfl,x.next,x.hlo,λ_ _=>rfl,λ_ a=>a,λ_ a=>.inl a,λb a _=>e b a,λi hi=>.inl hi⟩,t,RV.of_flat u s,λ_=>e⟩
theorem jE.data {f:FuncId}{cap args k:List Z6}{σ:jA}{d:Z6}{K:Zb→Z6→jA→Prop}(hc:jF p H f k d)(C:FzL p.P H.next H (args++cap) k)(X:scL σ.lo (args++cap)=true)(hd:sc σ.lo d=true)(Z:K true d σ) :
  jE p H (.func (.func f) ⟨[]⟩ ⟨cap⟩) args σ K:=by
 intro g h fv vs o l hf T
 obtain ⟨cs,rfl,B⟩:=jI0 hf
 show zC0 p f (vs++cs) h _
 have t:=l.lo
 rw[o.2] at t
 have no:∀ i,¬ kZ H i:=λi hi=>by have:=hi.1;have:=hi.2.1;omega
 have v:Rel g H h:=by
  have a:=jS0 l (m:=0)
  rw[o.2] at a
  exact ⟨a.pos,a.lo,a.lon,a.hlo,a.base,a.baseF,a.baseD,λi x hi Y=>by
   have z:σ.get i=some x:=by rw[l.base i Z0,o.2];exact Y
   obtain ⟨ds,e,fr,rfl,s⟩:=l.baseF i x Z0 z
   obtain ⟨vs,V,h2,h0,J,L⟩:=l.obj i _ (by have:=l.lon;omega) z
   have:=RVL.flat _ _ s J
   subst this
   exact ⟨_,V,h2,λh=>by omega,RVL.of_flat _ s,L⟩,a.dlt,λi hi=>absurd hi (no i),λi j hi=>absurd hi (no i),λb c=>⟨(l.frz b c).1,λi hi=>absurd hi (no i)⟩,a.wf⟩
 have A:=RVL.wid (g:=g) (g':=g) (n:=σ.lo) ⟨rfl,λ_ _=>rfl,λ_ c=>c⟩ _ _ X (T.app B)
 rw[t.1] at A
 have A:=gW v o.1 Z0 (Z3 _) C A
 have y:=jS0 v (m:=H.next)
 rw[o.2] at y
 refine ((hc (g.all H.next H) h _ ⟨o.1,o.2⟩ y A).mono ?_).w
 rintro u D ⟨g',x,E,R⟩
 have q:Agr h D:=λb c=>x.fr b c λi hi=>absurd hi (no i)
 have r:∀ b,g'.F b→g.F b∨h.next≤b:=λb c=>by
  rcases x.Fn b c with a|a|⟨i,hi,_⟩
  ·rcases a with a|⟨i,hi,_⟩
   ·exact .inl a
   ·exact absurd hi (no i)
  ·exact .inr a
  ·exact absurd hi (no i)
 obtain ⟨M,e0⟩:=l.same q x.next x.hlo E.wf (F':=g'.F) (λb c=>⟨(E.frz b c).1,λi hi=>by
  rcases r b c with a|a
  ·exact (l.frz b a).2 i hi
  ·have:=l.dlt i hi.2.1;omega⟩) (λb c=>x.F b (.inl c))
 refine ⟨true,d,σ,Z,{ g with F:=g'.F },⟨rfl,rfl,Z3 _,rfl,x.next,x.hlo,λ_ _=>rfl,λb c=>x.F b (.inl c),λb c=>by
  rcases r b c with a|a
  ·exact .inl a
  ·exact .inr (.inl a),λb c _=>q b c,λi hi=>.inl hi⟩,M,?_,λ_=>q⟩
 have I:=RV.wid (g:=g') (g':={ g with F:=g'.F }) (h:=D) (N:=H.next) (n:=σ.lo) ⟨x.P.symm,λi hi=>(x.δ i Z0).symm,λ_ c=>c⟩ d u hd R
 exact I.ext ⟨rfl,l.lon,λ_ _=>rfl,λ_ c=>c,Z3 _,rfl,λ_ _ _=>rfl⟩
end
class WBK where a:Zb→Z6→jA→Prop
class WCB where a:Zb→Z6→jA→Prop→Prop
def kB [x:WBK]:Zb→Z6→jA→Prop:=x.a
def kC [x:WCB]:Zb→Z6→jA→Prop→Prop:=x.a
theorem bR3 (K:Zb→Z6→jA→Prop)(b:Zb)(v:Z6)(h:jA):@kB ⟨K⟩ b v h=K b v h:=propext Iff.rfl
theorem bQ3 (K:Zb→Z6→jA→Prop→Prop)(b:Zb)(v:Z6)(h:jA)(c:Prop):@kC ⟨K⟩ b v h c=K b v h c:=propext Iff.rfl
def gCV (p:Par)(H:jA)(v:Z6)(w:Zb)(f:Z6)(args:List Z6)(h:jA)(K:Zb→Z6→jA→Prop):Prop:=gV v w (jE p H f args h K) (K true undef h)
def gCD (p:Par)(H:jA)(v:Z6)(w:Zb)(f:Z6)(args:List Z6)(b:List Nat)(L:LD)(h:jA)(K:Zb→Z6→jA→Prop→Prop):Prop:=gV v w (jE p H f args h (λc v a=>K c v a (bR c b a L))) (K true undef h True)
def gED (v:Z6)(w:Zb)(E:Z8 (Z6×jA))(c:Zb)(b:List Nat)(L:LD)(h:jA)(K:Z6→jA→Prop→Prop):Prop:=gV v w (oE E (λv a=>K v a (bR c b a L))) (K undef h True)
section
variable {p:Par} {H:jA} {w c:Zb} {E:Z8 (Z6×jA)} {h:jA} {K:Zb→Z6→jA→Prop} {f:Z6} {args:List Z6} {b:List Nat} {L:LD} {Kc:Zb→Z6→jA→Prop→Prop} {Ke:Z6→jA→Prop→Prop}
theorem dT3:gCV p H (.bool true) true f args h K=jE p H f args h K:=bF2
theorem dW3:gCV p H (.bool false) false f args h K=jE p H f args h K:=bI2
theorem dU3:gCV p H (.bool true) false f args h K=K true undef h:=bG2
theorem dV3:gCV p H (.bool false) true f args h K=K true undef h:=bH2
theorem gCV_u:gCV p H undef w f args h K=K true undef h:=propext Iff.rfl
theorem dX3:gCD p H (.bool true) true f args b L h Kc=jE p H f args h (λc v a=>Kc c v a (bR c b a L)):=bF2
theorem eA3:gCD p H (.bool false) false f args b L h Kc=jE p H f args h (λc v a=>Kc c v a (bR c b a L)):=bI2
theorem dY3:gCD p H (.bool true) false f args b L h Kc=Kc true undef h True:=bG2
theorem dZ3:gCD p H (.bool false) true f args b L h Kc=Kc true undef h True:=bH2
theorem gCD_u:gCD p H undef w f args b L h Kc=Kc true undef h True:=propext Iff.rfl
theorem dP3:gED (.bool true) true E c b L h Ke=oE E (λv a=>Ke v a (bR c b a L)):=bF2
theorem dS3:gED (.bool false) false E c b L h Ke=oE E (λv a=>Ke v a (bR c b a L)):=bI2
theorem dQ3:gED (.bool true) false E c b L h Ke=Ke undef h True:=bG2
theorem dR3:gED (.bool false) true E c b L h Ke=Ke undef h True:=bH2
theorem gED_u:gED undef w E c b L h Ke=Ke undef h True:=propext Iff.rfl
theorem tQ2 (b:List Nat)(h:jA)(L:LD):bR true b h L=True:=rfl
theorem tS2 (b:List Nat)(h:jA)(L:LD):bR false b h L=kL b h L:=rfl
theorem tR2 (c:Zb)(b:List Nat)(h:jA):bR c b h []=True:=by cases c<;>rfl
theorem kD_t (A:Prop):kD true A=True:=rfl
theorem kD_f (A:Prop):kD false A=A:=rfl
theorem kD_n (c:Zb):kD c True=True:=by cases c<;>rfl
theorem kE_ld (P:Z9)(t:Zt)(a:Z8 Addr)(v:Z6)(h:jA):kE h (ldK P t (.pointer a)) v=(ldD P t (.pointer a) h=some v∧eqv v=true):=by
 refine propext ⟨λ⟨g,d⟩=>⟨g,?_⟩,λ⟨g,d⟩=>⟨g,.inl d⟩⟩
 rcases d with d|d
 ·exact d
 ·exfalso
  have e:ldD P t (.pointer a) ⟨.nil,0,0⟩=some v:=(d _ h).trans g
  unfold ldD qL at e
  split at e
  ·rename_i i;cases i
  ·split at e
   ·have j : ∀ b, Ev.cells ⟨.nil, 0, 0⟩ b = none := fun b => by
     unfold Ev.cells
     have:(⟨.nil,0,0⟩:jA).get b=none:=Tr.get_nil b
     rw[this]
    rw[j _] at e
    cases e
   ·cases e
theorem kE_r (P:Z9)(t:Zt)(off:Nat)(cs:List Z6)(v:Z6)(h:jA):kE h (ldK P t (Rpt off cs)) v=(ldD P t (Rpt off cs) h=some v):=
 propext ⟨λh=>h.1,λa=>⟨a,.inr λ_ _=>rfl⟩⟩
theorem kE_no (v:Z6)(h:jA):kE h nrd v=False:=by simp[kE,nrd]
def kL1 (c:Zb)(A B:Prop):Prop:=match c with|true=>B|false=>A∧B
theorem kL1_t (A B:Prop):kL1 true A B=B:=rfl
theorem kL1_f (A B:Prop):kL1 false A B=(A∧B):=rfl
theorem kL_n (b:List Nat)(h:jA):kL b h []=True:=rfl
theorem kL_c (b:List Nat)(h:jA)(i:Nat)(a:jA→Z8 Z6)(v:Z6)(L:LD):kL b h ((i,a,v) :: L)=kL1 (cT i b) (kE h a v) (kL b h L):=by
 show Bool.rec (motive:=λ_=>Prop) (kE h a v∧kL b h L) (kL b h L) (cT i b)=_
 cases cT i b<;>rfl
theorem kA_ld (P:Z9)(t:Zt)(a v:Z6)(h:jA):kA h (ldK P t a) v=(ldD P t a h=some v):=propext Iff.rfl
theorem kA_no (v:Z6)(h:jA):kA h nrd v=False:=by simp[kA,nrd]
theorem eqv_p (a:Z8 Addr):eqv (.pointer a)=true:=rfl
theorem eqv_s (a:Z8 Addr)(n c:Nat):eqv (.slice a n c)=true:=rfl
theorem eqv_b (b:Zb):eqv (.bool b)=true:=rfl
theorem eqv_i (k:IntKind)(i:Int):eqv (.int k i)=true:=rfl
theorem eqv_t (s:ByteArray):eqv (.string s)=true:=rfl
theorem ncD_p (a:Addr):ncD (.pointer (some a))=some (.pointer (some a)):=rfl
theorem ncD_f (g:FuncId)(f c:Array Z6):ncD (.func (.func g) f c)=some (.func (.func g) f c):=rfl
theorem ncD_r (o:Nat)(cs:List Z6):ncD (Rpt o cs)=some (Rpt o cs):=rfl
attribute [push_cast] ncD_p ncD_f ncD_r
attribute [push_cast] tS2 kD_t kD_f kD_n kE_ld kE_r kE_no kA_ld kA_no kL1_t kL1_f kL_n kL_c eqv_p eqv_s eqv_b eqv_i eqv_t
end
def gF3 (x:Z8 (List Z6×Zt×Zb)):Zb:=match x with|some (_,_,mo)=>!mo|none=>true
theorem gD2 (f:Zb)(e n:Nat)(cs:List Z6)(h:jA):nA0 (Rw f e n cs) h=true:=rfl
theorem lY1 (n c:Nat)(h:jA):nA0 (.slice none n c) h=true:=rfl
theorem sI2 (b o n c:Nat)(s:Z8 Nat)(h:jA):nA0 (.slice (some ⟨b,o,s⟩) n c) h=gF3 (cells h b):=rfl
theorem sJ2 (cs:List Z6)(e:Zt)(m:Zb):gF3 (some (cs,e,m)) = !m:=rfl
theorem sH2 (h:jA):nA0 undef h=true:=rfl
theorem gO2 (i:Nat):cT i []=false:=rfl
theorem bH3 {i x:Nat}{l:List Nat}(h:i=x):cT i (x :: l)=true:=by rw[cT,h,Nat.beq_refl]
theorem bI3 {i x:Nat}{l:List Nat}(h:i≠x):cT i (x :: l)=cT i l:=by
 have a:Nat.beq i x=false:=by
  cases a:Nat.beq i x with
  | false=>rfl
  | true=>exact absurd (Nat.eq_of_beq_eq_true a) h
 rw[cT,a]
attribute [push_cast] gD2 lY1 sI2 sJ2 sH2 gO2
attribute [push_cast] bR3 bQ3 dT3 dW3 dU3 dV3 gCV_u dX3 eA3 dY3 dZ3 gCD_u dP3 dS3 dQ3 dR3 gED_u tQ2 tR2
def mvT:Go.Op→Z8 Nat
 | .move (.tmp i)=>some i
 | .assign (.tmp i)=>some i
 | _=>none
theorem bG3 {P:Z9}{o:Go.Op}{t:Zt}{tm:VT}{i:Nat}(h:mvT o=some i):tpD P o t tm=some (tm.get i):=by
 unfold mvT at h
 split at h
 ·cases h;rfl
 ·cases h;rfl
 ·cases h
theorem bF3 {P:Z9}{o:Go.Op}{t:Zt}{tm:VT}{σ:jA}{i:Nat}(h:mvT o=some i):tvD P o t tm σ=some (tm.get i):=by
 unfold mvT at h
 split at h
 ·cases h;rfl
 ·cases h;rfl
 ·cases h
abbrev KD:=LD→VT→jA→(VT→jA→Prop)→Prop
def mW2 (p:Par)(x:It)(a:KD):KD:=λL tm h K=>match x.g with
 | none=>match mvT x.o with
  | some i=>a L (put tm x.d (tm.get i)) h K
  | none=>oP (tpD p.P x.o x.t tm) h (@kk ⟨λv _=>a L (put tm x.d v) h K⟩)
 | some (d,w)=>gP (tm.get d) w (tpD p.P x.o x.t tm) h (@kk ⟨λv _=>a L (put tm x.d v) h K⟩)
def mV2 (p:Par)(i:Nat)(x:It)(a:KD):KD:=λL tm h K=>match x.g with
 | none=>oP (tvD p.P x.o x.t tm h) h (@kk ⟨λv _=>a ((i,rdD p.P x.o tm,v) :: L) (put tm x.d v) h K⟩)
 | some (d,w)=>gP (tm.get d) w (tvD p.P x.o x.t tm h) h (@kk ⟨λv _=>a ((i,rdD p.P x.o tm,v) :: L) (put tm x.d v) h K⟩)
def dEff (p:Par)(q:Q)(x:It)(a:List Nat)(i:KD):KD:=λL tm h K=>match x.g,x.c,x.o with
 | none,.eff,o=>oE (teD p.P q.m o x.t tm h) (@kk ⟨λv e=>bZ (cO x (dA o tm h) a e L) (@kb ⟨i (bN a L) (put tm x.d v) e K⟩)⟩)
 | none,.call,.call ⟨.value f,args,_⟩=>jE p q.H (ev tm f) (args.toList.map (ev tm)) h (@kB ⟨λb v e=>bZ (bR b a e L) (@kb ⟨i (bN a L) (put tm x.d v) e K⟩)⟩)
 | some (d,w),.eff,o=>gED (tm.get d) w (teD p.P q.m o x.t tm h) (dA o tm h) a L h (@kc ⟨λv e c=>bZ c (@kb ⟨i (bN a L) (put tm x.d v) e K⟩)⟩)
 | some (d,w),.call,.call ⟨.value f,args,_⟩=>gCD p q.H (tm.get d) w (ev tm f) (args.toList.map (ev tm)) a L h (@kC ⟨λb v e c=>bZ c (@kb ⟨i (bN a L) (put tm x.d v) e K⟩)⟩)
 | _,_,_=>vgd tm x.g (vopD p q x.c x.o x.t tm h (@kB ⟨λb v e=>bZ (cO x b a e L) (@kb ⟨i (bN a L) (put tm x.d v) e K⟩)⟩)) (i (bN a L) (put tm x.d undef) h K)
def dTk (p:Par)(i:Nat)(d:Zb)(x:It)(a:KD):KD:=Bool.rec (motive:=λ_=>KD) (mW2 p x a) (mV2 p i x a) d
def jO (p:Par)(q:Q)(t:PT):KD:=
 PT.rec (motive:=λ_=>KD) (λ_ tm h K=>K tm h) (λ_ _ _ _=>True) (λ_ _ _ _=>False)
  (λi j x _ d=>dTk p i j x d)
  (λ_ x a _ g d e=>Bool.rec (motive:=λ_=>KD) (λL tm h K=>dEff p q x a d L tm h K∧e L tm h K) (dEff p q x a d) (isNo g)) t
theorem kK0 (p:Par)(q:Q)(K:VT→jA→Prop):∀ (t:PT) (L:LD) (tm:VT) (h:jA),jO p q t L tm h K=wZ0 p q t L tm h K
 | .fin,L,tm,h=>rfl
 | .no,L,tm,h=>rfl
 | .bad,L,tm,h=>rfl
 | .take i rd x k,L,tm,h=>by
  have r:=kK0 p q K k
  show dTk p i rd x (jO p q k) L tm h K=_
  unfold dTk
  simp only[wZ0]
  cases rd with
  | false=>
   dsimp only
   unfold mW2
   simp only[r,kk]
   cases x.g with
   | none=>
    dsimp only
    split
    ·rename_i j z
     rw[bG3 z]
     rfl
    ·rfl
   | some y=>obtain ⟨d,w⟩:=y;rfl
  | true=>
   dsimp only
   unfold mV2
   simp only[r,kk]
   cases x.g with
   | none=>rfl
   | some y=>obtain ⟨d,w⟩:=y;rfl
 | .eff i x bind k alt,L,tm,h=>by
  have r:=kK0 p q K k
  have e:dEff p q x bind (jO p q k) L tm h K=vgd tm x.g (vopD p q x.c x.o x.t tm h λb v n=>cO x b bind n L∧wZ0 p q k (bN bind L) (put tm x.d v) n K) (wZ0 p q k (bN bind L) (put tm x.d undef) h K):=by
   have u:∀ {c:Zb} {n:jA},(x.g≠none∨x.c=.call)→cO x c bind n L=bR c bind n L:=λa=>by
    unfold cO
    split
    ·rename_i l m _;rcases a with a|a
     ·exact absurd l a
     ·rw[m] at a;cases a
    ·rfl
   unfold dEff
   simp only[r,kb,kk,kc,kB,kC]
   split
   ·rename_i l m
    simp only[l,m,vgd,vopD,bZ]
   ·rename_i f args _ l m s
    simp only[u (.inr m),l,m,s,vgd,vopD,bZ]
   ·rename_i d w l m
    simp only[u (.inl (by rw[l];simp)),l,m,gED,vgd,vopD,bZ,true_and]
   ·rename_i d w f args _ l m s
    simp only[u (.inl (by rw[l];simp)),l,m,s,gCD,vgd,vopD,bZ,true_and]
   ·rfl
  show (Bool.rec (motive:=λ_=>KD) (λL tm h K=>dEff p q x bind (jO p q k) L tm h K∧jO p q alt L tm h K) (dEff p q x bind (jO p q k)) (isNo alt):KD) L tm h K=_
  simp only[wZ0,← kK0 p q K alt]
  cases alt with
  | no=>
   show dEff p q x bind (jO p q k) L tm h K=_
   rw[e]
   exact (and_true _).symm
  | _=>exact congrArg (·∧_) e
def dop3 (p:Par)(q:Q)(x:It)(tm:VT)(h:jA)(K:Z6→jA→Prop):Prop:=match x.g,x.c,x.o with
 | none,.take,o=>oP (tvD p.P o x.t tm h) h K
 | none,.eff,o=>oE (teD p.P q.m o x.t tm h) K
 | none,.call,.call ⟨.value f,args,_⟩=>jE p q.H (ev tm f) (args.toList.map (ev tm)) h (@kB ⟨λ_=>K⟩)
 | some (d,w),.take,o=>gP (tm.get d) w (tvD p.P o x.t tm h) h K
 | some (d,w),.eff,o=>gE (tm.get d) w (teD p.P q.m o x.t tm h) h K
 | some (d,w),.call,.call ⟨.value f,args,_⟩=>gCV p q.H (tm.get d) w (ev tm f) (args.toList.map (ev tm)) h (@kB ⟨λ_=>K⟩)
 | _,_,_=>vgd tm x.g (vopD p q x.c x.o x.t tm h λ_=>K) (K undef h)
def qD (p:Par)(q:Q)(l:List It):VT→jA→(VT→jA→Prop)→Prop:=
 List.rec (motive:=λ_=>VT→jA→(VT→jA→Prop)→Prop) (λtm h K=>K tm h)
  (λx _ a tm h K=>match x.g,x.c,mvT x.o with
   | none,.take,some i=>a (put tm x.d (tm.get i)) h K
   | _,_,_=>dop3 p q x tm h (@kk ⟨λv e=>a (put tm x.d v) e K⟩)) l
theorem wX1 (p:Par)(q:Q)(K:VT→jA→Prop):∀ (l:List It) (tm:VT) (h:jA),qD p q l tm h K=dops p q l tm h K
 | [],tm,h=>rfl
 | x :: l,tm,h=>by
  show (match x.g,x.c,mvT x.o with
   | none,.take,some i=>qD p q l (put tm x.d (tm.get i)) h K
   | _,_,_=>dop3 p q x tm h (@kk ⟨λv n=>qD p q l (put tm x.d v) n K⟩))=_
  simp only[wX1 p q K l,kk,dops]
  split
  ·rename_i j a e m
   rw[a]
   simp only[vgd,e,vopD,bF3 m]
   rfl
  unfold dop3
  simp only[kB]
  split
  ·rename_i a e;simp only[a,e,vgd,vopD]
  ·rename_i a e;simp only[a,e,vgd,vopD]
  ·rename_i f args _ a e k;simp only[a,e,k,vgd,vopD]
  ·rename_i d w a e;simp only[a,e,vgd,vopD,gP]
  ·rename_i d w a e;simp only[a,e,vgd,vopD,gE]
  ·rename_i d w f args _ a e k;simp only[a,e,k,vgd,vopD,gCV]
  ·rfl
def dc3 (p:Par)(q:Q)(ro:Z8 Nat):IR→S→(jK→S→Prop)→Prop
 | .bad,_,_=>False
 | .skip,s,R=>R .normal s
 | .ret,s,R=>R .ret s
 | .exit i,s,R=>R (.exit i) s
 | .goto l,s,R=>R (.goto l) s
 | .label _,s,R=>R .normal s
 | .ops l,s,R=>qD p q l s.tm s.h λtm h=>R .normal ⟨tm,s.df,h⟩
 | .plan t,s,R=>jO p q t [] s.tm s.h λtm h=>R .normal ⟨tm,s.df,h⟩
 | .seq a b,s,R=>dc3 p q ro a s (bV (λd=>dc3 p q ro b d (@kR ⟨R⟩)) R)
 | .cond x a b,s,R=>zE0 (ev s.tm x) (@kb ⟨dc3 p q ro a s R⟩) (@kb ⟨dc3 p q ro b s R⟩)
 | .block i b,s,R=>dc3 p q ro b s (uS i R)
 | .loop b,s,R=>WD p q.H ro (.loop b) s (@kR ⟨R⟩)
 | .scope b,s,R=>WinD p q.H ro b b s (@kR ⟨R⟩)
 | .range g ps a b,s,R=>WD p q.H ro (.range g ps a b) s (@kR ⟨R⟩)
theorem qA0 (p:Par)(q:Q)(ro:Z8 Nat):∀ (d:IR) (s:S) (R:jK→S→Prop),dc3 p q ro d s R=dc p q ro d s R
 | .bad,s,R=>rfl
 | .skip,s,R=>rfl
 | .ret,s,R=>rfl
 | .exit i,s,R=>rfl
 | .goto l,s,R=>rfl
 | .label l,s,R=>rfl
 | .ops l,s,R=>wX1 p q _ l _ _
 | .plan t,s,R=>kK0 p q _ t _ _ _
 | .seq a b,s,R=>by simp only[dc3,dc,qA0 p q ro a,qA0 p q ro b,kR,kb,mE0,hi]
 | .cond x a b,s,R=>by simp only[dc3,dc,qA0 p q ro a,qA0 p q ro b,kR,kb,mE0,hi]
 | .block i b,s,R=>qA0 p q ro b s _
 | .loop b,s,R=>rfl
 | .scope b,s,R=>rfl
 | .range g ps a b,s,R=>rfl
theorem jH.fir4 {p:Par}{q:Q}(jV:wB0 p){f:FuncId}{a:FIR}(k:Ev.fir p.P f=some a)(e:dB p.NG a.ir=true){args:List Z6}{σ:jA}{R:Z6→jA→Prop}{T:VT}(j:Nat.ble args.length a.n=true)(g:Nat.ble a.n 100000=true)
  (l:T.arr=⟨args++List.replicate (a.n-args.length) undef⟩) (d:p.NG≤σ.lo) (i:dc3 p q none a.ir ⟨T,[],σ⟩ (jR p.P a.rs R)):jH p q.H f args σ R:=
 jH.fir jV k e j g l d (by rw[← qA0];exact i)
theorem WD.loop4 {p:Par}{q:Q}(jV:wB0 p){ro:Z8 Nat}{b:IR}{R:jK→S→Prop}(d:dB p.NG b=true)(I:Nat→S→Prop)(h:∀ n a,I n a→dc3 p q ro b a (@kR ⟨bV (λg=>∃ m,m<n∧I m g) R⟩)) :
  ∀ n s,I n s→WD p q.H ro (.loop b) s R:=WD.loop jV d I λn a e=>by
   have:=h n a e
   rw[qA0] at this
   exact this
section
variable {P:Z9} {t e n k:Nat} {f:Zb} {cs:List Z6} {h:jA} {b off o i:Nat} {v:Z6} {kk:IntKind}
theorem lnD_r:lnD (some false) (Rw f e n cs)=some (.int .i64 n):=rfl
theorem lnD_l (a:Z8 Addr)(n c:Nat)(z:Z8 Zb):lnD z (.slice a n c)=lnB z (.slice a n c):=rfl
theorem lnD_s (s:ByteArray)(z:Z8 Zb):lnD z (.string s)=lnB z (.string s):=rfl
theorem faD_p:faD (some o) (.pointer (some ⟨b,k,none⟩))=some (.pointer (some ⟨b,k+o,none⟩)):=by simp[faD,faV,addr_add]
theorem faD_r (a:off+o<cs.length):faD (some o) (Rpt off cs)=some (Rpt (off+o) cs):=by
 show (if off+o<cs.length then some (Rpt (off+o) cs) else none)=_
 rw[if_pos a]
theorem iaD_s (len c:Nat)(i:Int)(h0:0≤i)(hi:i<len):iaD (some (none,n)) (.slice (some ⟨b,o,none⟩) len c) (.int kk i)=some (.pointer (some ⟨b,o+i.toNat*n,none⟩)):=dJ3 n b o len c kk i h0 hi
theorem iaD_a (len:Nat)(i:Int)(h0:0≤i)(hi:i<len):iaD (some (some len,n)) (.pointer (some ⟨b,o,none⟩)) (.int kk i)=some (.pointer (some ⟨b,o+i.toNat*n,none⟩)):=dK3 n len b o kk i h0 hi
theorem iaD_r (i:Int)(h0:0≤i)(hi:i<n)(c:0<k)(a:cs.length=n*k):iaD (some (none,k)) (Rw f e n cs) (.int kk i)=some (Rpt (i.toNat*k) cs):=by
 show (if 0≤i∧i<n∧i.toNat*k<cs.length∧cs.length=n*k then some (Rpt (i.toNat*k) cs) else none)=_
 refine if_pos ⟨h0,hi,?_,a⟩
 rw[a]
 exact Nat.mul_lt_mul_of_pos_right Z0 c
def ldR (z:Z8 (Zb×Nat))(cs:List Z6)(off:Nat):Z8 Z6:=match z with|some (b,n)=>bG b n cs off|none=>none
theorem ldD_r:ldD P t (Rpt off cs) h=ldR (knd P t) cs off:=rfl
theorem ldR_s (q:Zb):ldR (some (q,n)) cs off=bG q n cs off:=rfl
theorem ldD_p:ldD P t (.pointer (some ⟨b,off,none⟩)) h=ldC (knd P t) off h.lo b (cells h b):=yD0 b off
theorem slD_r (lo hi mx:Z8 Z6):slD P t (Rw f e n cs) lo hi mx h=slR (slcT P t) f e n cs lo hi mx:=rfl
theorem slD_s (s:ByteArray)(lo hi mx:Z8 Z6):slD P t (.string s) lo hi mx h=slV P t (.string s) lo hi mx h:=rfl
theorem slD_l (a:Z8 Addr)(n c:Nat)(lo hi mx:Z8 Z6):slD P t (.slice a n c) lo hi mx h=slV P t (.slice a n c) lo hi mx h:=rfl
theorem qH1 {lo hi mx:Z8 Z6}{l r:Nat}{m:Z8 Nat}(d:0<k)(a:cs.length=n*k)(c:bounds n n mx hi lo=some (l,r,m)):slR (some (some (e,k))) f e n cs lo hi mx=some (Rw (yH0 f n r m) e (r-l) ((cs.drop (l*k)).take ((r-l)*k))):=by
 show (if e=e∧0<k∧cs.length=n*k then (match bounds n n mx hi lo with|some (l,h,m)=>some (Rw (yH0 f n h m) e (h-l) ((cs.drop (l*k)).take ((h-l)*k)))|none=>none) else none)=_
 rw[if_pos ⟨rfl,d,a⟩,c]
theorem slR_l (i:Int)(g:0<k)(c:cs.length=n*k)(h0:0≤i)(hi:i≤n):slR (some (some (e,k))) f e n cs (some (.int kk i)) none none=some (Rw f e (n-i.toNat) (cs.drop (i.toNat*k))):=by
 have d:=gS0 (len:=n) (kl:=kk) (kh:=.i64) (km:=.i64) (lo:=some i) (hi:=none) (mx:=none) (λx a=>by cases a) (λx a=>by cases a) (λ_=>rfl) (λx a=>by cases a;exact ⟨h0,hi⟩)
 simp only[Option.map_none,Option.map_some] at d
 rw[qH1 g c d]
 have j:yH0 f n n none=f:=by simp[yH0]
 simp only[Option.getD_none,Option.getD_some,Z4,Option.map_none,j]
 rw[List.take_of_length_le]
 rw[List.length_drop,c,Nat.sub_mul]
 exact Z3 _
theorem slR_h (i:Int)(g:0<k)(d:cs.length=n*k)(h0:0≤i)(hi:i≤n):slR (some (some (e,k))) f e n cs none (some (.int kk i)) none=some (Rw (f&&Nat.beq i.toNat n) e i.toNat (cs.take (i.toNat*k))):=by
 have c:=gS0 (len:=n) (kl:=.i64) (kh:=kk) (km:=.i64) (lo:=none) (hi:=some i) (mx:=none) (λx a=>by cases a) (λx a=>by cases a;exact ⟨h0,hi⟩) (λh=>by cases h) (λx a=>by cases a)
 simp only[Option.map_none,Option.map_some] at c
 rw[qH1 g d c]
 simp only[Option.getD_none,Option.getD_some,Option.map_none,yH0]
 simp
theorem yD3 (i j:Int){d:IntKind}(l:0<k)(g:cs.length=n*k)(h0:0≤i)(hi:i≤j)(m:j≤n):slR (some (some (e,k))) f e n cs none (some (.int kk i)) (some (.int d j))=some (Rw (Nat.beq j.toNat i.toNat) e i.toNat (cs.take (i.toNat*k))):=by
 have c:=gS0 (len:=n) (kl:=.i64) (kh:=kk) (km:=d) (lo:=none) (hi:=some i) (mx:=some j) (λx a=>by cases a;exact ⟨Z0,m⟩) (λx a=>by cases a;exact ⟨h0,hi⟩) (λh=>by cases h) (λx a=>by cases a)
 simp only[Option.map_none,Option.map_some] at c
 rw[qH1 l g c]
 simp only[Option.getD_none,Option.getD_some,Option.map_some,yH0]
 simp
theorem yC3 (i j:Int){d:IntKind}(l:0<k)(g:cs.length=n*k)(h0:0≤i)(hi:i≤j)(m:j≤n):slR (some (some (e,k))) f e n cs (some (.int kk i)) (some (.int d j)) none=some (Rw (f&&Nat.beq j.toNat n) e (j.toNat-i.toNat) ((cs.drop (i.toNat*k)).take ((j.toNat-i.toNat)*k))):=by
 have c:=gS0 (len:=n) (kl:=kk) (kh:=d) (km:=.i64) (lo:=some i) (hi:=some j) (mx:=none) (λx a=>by cases a) (λx a=>by cases a;exact ⟨Z0,m⟩) (λh=>by cases h) (λx a=>by cases a;exact ⟨h0,hi⟩)
 simp only[Option.map_none,Option.map_some] at c
 rw[qH1 l g c]
 simp only[Option.getD_none,Option.getD_some,Option.map_none,yH0]
theorem cvD_i {s d:Zt}(z:Int):cvD P s d (.int kk z) h=cvV P s d (.int kk z) h:=rfl
theorem cvD_s {s d:Zt}(z:ByteArray):cvD P s d (.string z) h=cvV P s d (.string z) h:=rfl
theorem cvD_l {s d:Zt}(a:Z8 Addr)(n c:Nat):cvD P s d (.slice a n c) h=cvV P s d (.slice a n c) h:=rfl
theorem bxQ_t (c:v.cells.toList.all one=true)(a:0<v.cells.toList.length):bxQ true e v h=some (Rpt 0 v.cells.toList,h):=if_pos ⟨c,a⟩
theorem bxQ_f:bxQ false e v h=bxD e v h:=rfl
theorem bxD_s (a:v.cells.toList.all one=true):bxD e v h=some (.pointer (some ⟨h.next,0,none⟩),h.add (O v.cells.toList e false)):=if_pos a
def stDC (n off:Nat)(v:Z6)(σ:jA)(b:Nat):Z8 (List Z6×Zt×Zb)→Z8 (Z6×jA)
 | some (cs,e,m)=>if v.cells.toList.length=n∧v.cells.toList.all one=true∧σ.lo≤b∧off+n≤cs.length then some (undef,σ.put b (O (setFrom cs off v.cells.toList) e m)) else none
 | none=>none
theorem kZ3:stD (some n) (.pointer (some ⟨b,off,none⟩)) v h=stDC n off v h b (cells h b):=by
 unfold stD stDC
 dsimp only
 all_goals (rcases cells h b with _|⟨cs,e,m⟩<;>rfl)
theorem qC1 (cs:List Z6)(e:Zt)(m:Zb)(a:v.cells.toList.length=n)(g:v.cells.toList.all one=true)(c:h.lo≤b)(d:off+n≤cs.length):stDC n off v h b (some (cs,e,m))=some (undef,h.put b (O (setFrom cs off v.cells.toList) e m)):=if_pos ⟨a,g,c,d⟩
def bsDC (q:Zb)(len e:Nat)(σ:jA):Z8 (List Z6)→Z8 (Z6×jA)
 | some cs=>if cs.all one=true then (if q=true∨len=0 then some (.slice (some ⟨σ.next,0,none⟩) len len,σ.add (O cs e false)) else some (Rw true e len cs,σ)) else none
 | none=>none
theorem oH0 (q:Zb)(c:List Z6)(len:Nat)(a:List (Nat×Z6))(d:len*n≤16777216):bsD q (some (e,n,c)) len a h=bsDC q len e h (cA ((List.range len).map (λi=>(i*n,n))) (List.replicate len c).flatten a):=by
 unfold bsD bsDC
 dsimp only
 all_goals rw[if_pos d]
 all_goals cases cA (List.map (λi=>(i*n,n)) (List.range len)) (List.replicate len c).flatten a<;>rfl
theorem qN2 (len:Nat)(a:cs.all one=true)(c:0<len):bsDC false len e h (some cs)=some (Rw true e len cs,h):=by
 unfold bsDC
 dsimp only
 rw[if_pos a,if_neg (by simp;omega)]
theorem qO2 (len:Nat)(a:cs.all one=true):bsDC true len e h (some cs)=some (.slice (some ⟨h.next,0,none⟩) len len,h.add (O cs e false)):=by
 unfold bsDC
 dsimp only
 rw[if_pos a,if_pos (.inl rfl)]
theorem nG3 (q:Zb)(a:cs.all one=true):bsDC q 0 e h (some cs)=some (.slice (some ⟨h.next,0,none⟩) 0 0,h.add (O cs e false)):=by
 unfold bsDC
 dsimp only
 rw[if_pos a,if_pos (.inr rfl)]
def apS (e size by_:Nat)(s:Z6)(x:Z8 (Nat×List Z6))(σ:jA):Z8 (Z6×jA):=match x with
 | some (m,xs)=>if xs.all one=true then apB e size by_ s m xs σ else none
 | none=>none
theorem nN3 (by_:Nat)(s x:Z6):apD (some (e,k,by_)) s x h=apS e k by_ s (srcD k x h) h:=rfl
theorem lQ2 (m:Nat)(a:cs.length=m*k):srcD k (Rw f e m cs) h=some (m,cs):=if_pos a
theorem tQ0 (by_ m:Nat)(xs:List Z6)(c:xs.all one=true)(d:0<m)(a:m*by_≤140737488355328∧m<100000000000000):apS e k by_ (.slice none 0 0) (some (m,xs)) h=some (.slice (some ⟨h.next,0,none⟩) m UC,h.add (O xs e true)):=by
 show (if xs.all one=true then (if m=0 then some (Value.slice none 0 0,h) else if m*by_≤140737488355328∧m<100000000000000 then some (Value.slice (some ⟨h.next,0,none⟩) m UC,h.add (O xs e true)) else none) else none)=_
 rw[if_pos c,if_neg Z0,if_pos a]
theorem zI1 (by_:Nat)(xs:List Z6)(a:xs.all one=true):apS e k by_ (.slice none 0 0) (some (0,xs)) h=some (.slice none 0 0,h):=by
 show (if xs.all one=true then (if (0:Nat)=0 then some (Value.slice none 0 0,h) else if 0*by_≤140737488355328∧0<100000000000000 then some (Value.slice (some ⟨h.next,0,none⟩) 0 UC,h.add (O xs e true)) else none) else none)=_
 rw[if_pos a,if_pos rfl]
end
attribute [push_cast] lnD_r lnD_l lnD_s faD_p faD_r iaD_s iaD_a iaD_r ldD_r ldR_s ldD_p slD_r slD_s slD_l slR_l slR_h yD3 yC3 cvD_i cvD_s cvD_l bxD_s bxQ_t bxQ_f kZ3 qC1 oH0 qN2 qO2 nG3 nN3 lQ2 tQ0 zI1
theorem gQ3 {f:Zb}{e n:Nat}{cs:List Z6}:one (Rw f e n cs)=true:=rfl
theorem fK1 {f:Zb}{e n:Nat}{cs:List Z6}:(Rw f e n cs).cells.toList=[Rw f e n cs]:=rfl
theorem all_cons {v:Z6}{l:List Z6}:((v :: l).all one=true)=(one v=true∧l.all one=true):=by simp
theorem all_nil:([].all one=true)=True:=by simp
theorem wM3 {l m:List Z6}:((l++m).all one=true)=(l.all one=true∧m.all one=true):=by simp
theorem sV2 {k:IntKind}{n:Int}:one (.int k n)=true:=rfl
theorem gL2 {b:Zb}:one (.bool b)=true:=rfl
theorem sU2 {b:ByteArray}:one (.string b)=true:=rfl
theorem gP3 {a:Z8 Addr}{n c:Nat}:one (.slice a n c)=true:=rfl
theorem one_p {a:Z8 Addr}:one (.pointer a)=true:=rfl
theorem one_f {g:Fn}{a b:Array Z6}:one (.func g a b)=true:=rfl
attribute [push_cast] gQ3 fK1 all_cons all_nil wM3 sV2 gL2 sU2 gP3 one_p one_f
theorem gC0 {P:Z9}{n:Nat}{σ:jA}{v d:Z6}(h:v=d)(a:sc n v=true):FzV P n σ v d:=by rw[← h];exact .id a
structure qY (σ:jA)(e n:Nat)(a:Z8 Addr)(len c:Nat)(cs:List Z6):Prop where
 hlen:cs.length=len*n
 hone:cs.all one=true
 hat:(a=none∧len=0∧c=0)∨∃ b m,a=some ⟨b,0,none⟩∧σ.lo≤b∧b<σ.next∧cells σ b=some (cs,e,m)∧((m=true∧c=UC)∨(m=false∧c=len))
theorem qY.nil (σ:jA)(e n:Nat):qY σ e n none 0 0 []:=⟨by simp,rfl,.inl ⟨rfl,rfl,rfl⟩⟩
theorem qY.grew {σ σ':jA}{S:Nat→Prop}{e n:Nat}{a:Z8 Addr}{len c:Nat}{cs:List Z6}(d:qY σ e n a len c cs)(g:jC σ σ' S)(s:∀ b,blk a b→¬ S b):qY σ' e n a len c cs:=by
 refine ⟨d.hlen,d.hone,?_⟩
 rcases d.hat with h0|⟨b,m,j,p,l,q,r⟩
 ·exact .inl h0
 ·exact .inr ⟨b,m,j,by rw[g.lo];exact p,Nat.lt_of_lt_of_le l g.next,(g.cells l (s b ⟨0,none,j⟩)).trans q,r⟩
theorem cM {σ:jA}{e n by_:Nat}{a:Z8 Addr}{len c:Nat}{cs:List Z6}(w:qY σ e n a len c cs)(L:0<n)(D:σ.lo≤σ.next){m:Nat}{xs:List Z6}(u:xs.length=m*n)(z:xs.all one=true)(l:(len+m)*by_≤140737488355328∧(len+m)<100000000000000) :
  ∃ E F σ',apS e n by_ (.slice a len c) (some (m,xs)) σ=some (.slice E (len+m) F,σ')∧qY σ' e n E (len+m) F (cs++xs)∧jC σ σ' (blk a)∧(∀ b,blk E b→blk a b∨σ.next≤b):=by
 have p:(cs++xs).length=(len+m)*n:=by rw[List.length_append,w.hlen,u,Nat.add_mul]
 have r:(cs++xs).all one=true:=by rw[List.all_append,w.hone,z];rfl
 have g:∀ q,qY (σ.add (O (cs++xs) e true)) e n (some ⟨σ.next,0,none⟩) (len+m) UC (cs++xs)∧jC σ (σ.add (O (cs++xs) e true)) q∧(∀ b,blk (some (⟨σ.next,0,none⟩:Addr)) b→blk a b∨σ.next≤b):=λq=>
  ⟨⟨p,r,.inr ⟨σ.next,true,rfl,by rw[jM];exact D,by rw[jB];omega,qM _ _ _ _ rfl,.inl ⟨rfl,rfl⟩⟩⟩,jC.add _ _ _,λb l=>by
   obtain ⟨o,s,l⟩:=l
   right
   cases l
   exact Z3 _⟩
 rcases w.hat with ⟨rfl,rfl,rfl⟩|⟨b,A,rfl,I,M,J,K⟩
 ·have C:cs=[]:=List.length_eq_zero_iff.1 (by rw[w.hlen];simp)
  subst C
  cases m with
  | zero=>
   have x:xs=[]:=List.length_eq_zero_iff.1 (by rw[u];simp)
   subst x
   exact ⟨none,0,σ,zI1 _ _ rfl,w,jC.refl _ _,λb l=>.inl l⟩
  | succ m=>
   obtain ⟨q1,q2,q3⟩:=g (blk none)
   rw[List.nil_append] at q1 q2
   rw[Nat.zero_add] at l
   refine ⟨_,_,_,?_,q1,q2,q3⟩
   rw[Nat.zero_add]
   exact tQ0 _ _ _ z Z0 l
 ·have d : apS e n by_ (.slice (some ⟨b, 0, none⟩) len c) (some (m, xs)) σ = (if A = true ∧ c = UC then some (.slice (some ⟨σ.next, 0, none⟩) (len + m) UC, { t := (σ.t.put σ.next (O (cs ++ xs) e true)).put b (qO σ.next e cs), next := σ.next + 1, lo := σ.lo })
     else if A=false∧c=len then (if m=0 then some (.slice (some ⟨b,0,none⟩) len c,σ) else some (.slice (some ⟨σ.next,0,none⟩) (len+m) UC,σ.add (O (cs++xs) e true)))
     else none):=by
   show (if xs.all one=true then (match cells σ b with
    | some (cs,e',A)=>if e'=e∧σ.lo≤b∧cs.length=len*n∧(len+m)*by_≤140737488355328∧(len+m)<100000000000000 then
    (if A=true∧c=UC then some (Value.slice (some ⟨σ.next,0,none⟩) (len+m) UC,{ t:=(σ.t.put σ.next (O (cs++xs) e true)).put b (qO σ.next e cs),next:=σ.next+1,lo:=σ.lo })
     else if A=false∧c=len then (if m=0 then some (Value.slice (some ⟨b,0,none⟩) len c,σ) else some (Value.slice (some ⟨σ.next,0,none⟩) (len+m) UC,σ.add (O (cs++xs) e true)))
     else none)
   else none
    | none=>none) else none)=_
   rw[if_pos z,J]
   dsimp only
   rw[if_pos ⟨rfl,I,w.hlen,l⟩]
  rcases K with ⟨rfl,rfl⟩|⟨rfl,rfl⟩
  ·rw[if_pos ⟨rfl,rfl⟩] at d
   refine ⟨_,_,_,d,⟨p,r,.inr ⟨σ.next,true,rfl,by show σ.lo≤σ.next;omega,Nat.lt_succ_self _,?_,.inl ⟨rfl,rfl⟩⟩⟩,⟨Nat.le_succ _,rfl,λj B l=>?_⟩,λj B=>?_⟩
   ·unfold Ev.cells
    have:=jN0 (h:=σ) (b:=b) (x':=⟨.cells ⟨cs++xs⟩ e,true⟩) (y:=qO σ.next e cs) σ.next
    rw[if_neg Z0,if_pos rfl] at this
    show (match jA.get { t:=(σ.t.put σ.next ⟨.cells ⟨cs++xs⟩ e,true⟩).put b (qO σ.next e cs),next:=σ.next+1,lo:=σ.lo } σ.next with|some ⟨.cells ⟨cs⟩ e _,m⟩=>some (cs,e,m)|_=>none)=_
    rw[this]
   ·have:=jN0 (h:=σ) (b:=b) (x':=⟨.cells ⟨cs++xs⟩ e,true⟩) (y:=qO σ.next e cs) j
    rw[if_neg (λe=>l ⟨0,none,by rw[e]⟩),if_neg Z0] at this
    exact this
   ·obtain ⟨o,s,B⟩:=B
    cases B
    exact .inr (Z3 _)
  ·rw[if_neg (by simp),if_pos ⟨rfl,rfl⟩] at d
   by_cases H:m=0
   ·subst H
    have x:xs=[]:=List.length_eq_zero_iff.1 (by rw[u];simp)
    subst x
    rw[if_pos rfl] at d
    exact ⟨_,_,_,d,by simpa using w,jC.refl _ _,λb l=>.inl l⟩
   ·rw[if_neg H] at d
    obtain ⟨q1,q2,q3⟩:=g (blk (some ⟨b,0,none⟩))
    exact ⟨_,_,_,d,q1,q2,q3⟩
theorem qY.fz {P:Z9}{σ:jA}{e n:Nat}{a:Z8 Addr}{len c:Nat}{cs ds:List Z6}{N:Nat}(d:qY σ e n a len c cs)(l:szT P e=some n)(j:0<n)(p:len<100000000000000)(m:FzL P N σ cs ds)(s:∀ b,blk a b→N≤b):FzV P N σ (.slice a len c) (Rw false e len ds):=by
 rcases d.hat with ⟨rfl,rfl,rfl⟩|⟨b,y,rfl,u,x,q,r⟩
 ·have g:cs=[]:=List.length_eq_zero_iff.1 (by rw[d.hlen];simp)
  subst g
  cases m
  exact .nil l j
 ·refine .sl (s b ⟨0,none,rfl⟩) q l j (by rw[d.hlen];omega) ?_ ?_
  ·have w:U=100000000000000:=by unfold U;rfl
   rcases r with ⟨rfl,rfl⟩|⟨rfl,rfl⟩
   ·exact .inr ⟨rfl,Z3 _,by simp,Z0⟩
   ·exact .inl ⟨by have:=U_UC;omega,Z3 _⟩
  ·rw[List.drop_zero,List.take_of_length_le (by rw[d.hlen];omega)]
   exact m
end
end Go.Dv
namespace Go.Ev
open Go Go.RowKit
mutual
def bB1:DataW Unit→List Z6
 | .lit (.bool b)=>[.bool b]
 | .lit (.int k n)=>[.int k n]
 | .lit (.string s)=>[.string ⟨⟨s⟩⟩]
 | .agg ds=>wU1 ds
 | _=>[]
def wU1:List (DataW Unit)→List Z6
 | []=>[]
 | d :: ds=>bB1 d++wU1 ds
end
def fF0 (P:Z9)(f:Zt→Zb):List Field→Nat→Nat→Zb
 | [],off,tot=>Nat.beq off tot
 | x :: fs,off,tot=>Nat.beq x.offset off&&f x.type&&fF0 P f fs (off+P.cellsOf x.type) tot
def mD0 (P:Z9):Nat→Zt→Zb
 | 0,_=>false
 | n+1,t=>match P.underlying t with
  | some .bool=>true
  | some (.int _)=>true
  | some .string=>true
  | some (.struct fs)=>fF0 P (mD0 P n) fs.toList 0 (P.cellsOf t)
  | some (.array m e)=>Nat.beq (P.cellsOf t) (m*P.cellsOf e)&&mD0 P n e
  | _=>false
theorem pieces (cs:List Z6)(c:Nat):∀ (n k:Nat),(List.range' k n).flatMap (λi=>(cs.drop (i*c)).take c)=(cs.drop (k*c)).take (n*c)
 | 0,k=>by simp
 | n+1,k=>by
  rw[List.range'_succ,List.flatMap_cons,pieces cs c n (k+1)]
  have a:(k+1)*c=k*c+c:=by rw[Nat.add_mul,Nat.one_mul]
  have h:(n+1)*c=c+n*c:=by rw[Nat.add_mul,Nat.one_mul,Nat.add_comm]
  rw[a,h,List.take_add,List.drop_drop]
theorem mapM_flat {e:Type}{f:e→Z8 (DataW Unit×List MemPlace)}{g:e→List Z6}:∀ {l:List e} {xs:List (DataW Unit×List MemPlace)},l.mapM f=some xs→
  (∀ a∈l,∀ x,f a=some x→g a=bB1 x.1)→wU1 (xs.map (·.1))=l.flatMap g
 | [],xs,h,_=>by simp at h;subst h;rfl
 | a :: l,xs,h,hf=>by
  rw[List.mapM_cons] at h
  cases c:f a with
  | none=>simp[c] at h
  | some x=>
   cases d:l.mapM f with
   | none=>simp[c,d] at h
   | some j=>
    simp[c,d] at h
    subst h
    simp only[List.map_cons,wU1,List.flatMap_cons]
    rw[mapM_flat d (λb i=>hf b (by simp[i])),hf a (by simp) x c]
theorem cL0 {P:Z9}{f:Zt→Zb}{cs:List Z6}:∀ {c:List Field} {off a:Nat},fF0 P f c off a=true→a=cs.length→
  (∀ x∈c,f x.type=true)∧c.flatMap (λx=>(cs.drop x.offset).take (P.cellsOf x.type))=cs.drop off
 | [],off,a,h,ht=>by
  have:=Nat.eq_of_beq_eq_true h
  subst this;subst ht
  simp
 | x :: c,off,a,h,ht=>by
  simp only[fF0,Z5] at h
  obtain ⟨⟨b,k⟩,i⟩:=h
  have b:=Nat.eq_of_beq_eq_true b
  obtain ⟨j,g⟩:=cL0 i ht
  refine ⟨λy d=>(List.mem_cons.1 d).elim (λe=>by rw[e];exact k) (j y),?_⟩
  rw[List.flatMap_cons,g,b]
  rw[← List.drop_drop,List.take_append_drop]
theorem yW0 {P:Z9}{w:Zw}{enc:Zt×Z6→Unit}{sp:Nat→Zb}:∀ (n fuel:Nat) (t:Zt) (cs:List Z6) (d:DataW Unit) (p:List MemPlace),
  DataW.trod enc P w 0 sp false fuel t cs=some (d,p)→mD0 P n t=true→cs=bB1 d
 | 0,_,_,_,_,_,_,h=>by cases h
 | n+1,0,t,cs,d,p,h,_=>by simp[DataW.trod] at h
 | n+1,fuel+1,t,cs,d,p,h,ht=>by
  have q:=yW0 (P:=P) (w:=w) (enc:=enc) (sp:=sp) n fuel
  unfold mD0 at ht
  unfold DataW.trod at h
  split at ht
  ·rename_i b
   rw[b] at h
   cases cs with
   | nil=>simp at h
   | cons v l=>cases l with
    | nil=>cases v<;>simp at h;obtain ⟨rfl,_⟩:=h;rfl
    | cons _ _=>simp at h
  ·rename_i k b
   rw[b] at h
   cases cs with
   | nil=>simp at h
   | cons v l=>cases l with
    | nil=>cases v<;>simp at h;obtain ⟨⟨rfl,_⟩,rfl,_⟩:=h;rfl
    | cons _ _=>simp at h
  ·rename_i b
   rw[b] at h
   cases cs with
   | nil=>simp at h
   | cons v l=>cases l with
    | nil=>cases v<;>simp at h;obtain ⟨_,rfl,_⟩:=h;rfl
    | cons _ _=>simp at h
  ·rename_i z b
   rw[b] at h
   dsimp only at h
   split at h
   ·rename_i c
    cases j:(z.toList.mapM λf=>DataW.trod enc P w 0 sp false fuel f.type ((cs.drop f.offset).take (P.cellsOf f.type))) with
    | none=>rw[j] at h;cases h
    | some xs=>
     rw[j] at h
     simp only[Option.map_some,Option.some.injEq,Prod.mk.injEq] at h
     obtain ⟨rfl,_⟩:=h
     obtain ⟨y,u⟩:=cL0 (cs:=cs) ht c.symm
     simp only[bB1]
     rw[mapM_flat (g:=λx=>(cs.drop x.offset).take (P.cellsOf x.type)) j (λa r x o=>q _ _ x.1 x.2 o (y a r)),u]
     rfl
   ·cases h
  ·rename_i m e b
   rw[b] at h
   simp only[Z5] at ht
   dsimp only at h
   split at h
   ·rename_i c
    cases j:((List.range m).mapM λi=>DataW.trod enc P w 0 sp false fuel e ((cs.drop (i*P.cellsOf e)).take (P.cellsOf e))) with
    | none=>rw[j] at h;cases h
    | some xs=>
     rw[j] at h
     simp only[Option.map_some,Option.some.injEq,Prod.mk.injEq] at h
     obtain ⟨rfl,_⟩:=h
     simp only[bB1]
     rw[mapM_flat (g:=λi=>(cs.drop (i*P.cellsOf e)).take (P.cellsOf e)) j (λa r x o=>q _ _ x.1 x.2 o ht.2),List.range_eq_range',pieces]
     have s:=Nat.eq_of_beq_eq_true ht.1
     rw[s] at c
     rw[Nat.zero_mul,List.drop_zero,← c,List.take_length]
   ·cases h
  ·cases ht
end Go.Ev
namespace Go.Dv
open Go Go.RowKit Go.Ev
noncomputable section
def mX1:List (Nat×List Z6)→Tr
 | []=>.nil
 | x :: l=>(mX1 l).put x.1 ⟨.cells ⟨x.2⟩ 0 (0,0),false⟩
def nO0 (n:Nat)(L:List (Nat×List Z6)):jA:=⟨mX1 L,n,n⟩
structure LaidW (n:Nat)(L:List (Nat×List Z6))(w:Zw):Prop where
 size:n≤w.heap.size+1
 row:∀ x∈L,x.1<w.heap.size∧x.1<n∧∃ e fr,w.heap[x.1]?=some (.cells ⟨x.2⟩ e fr)
def okPl (L:List (Nat×List Z6)):Zb:=L.all λx=>qB x.2&&x.2.all one
theorem kB0:∀ {L:List (Nat×List Z6)} {i:Nat} {x:qW},(mX1 L).get i=some x→∃ y∈L,y.1=i∧x=⟨.cells ⟨y.2⟩ 0 (0,0),false⟩
 | [],i,x,h=>by simp[mX1,Tr.get] at h
 | y :: L,i,x,h=>by
  simp only[mX1,Tr.get_put] at h
  split at h
  ·rename_i e;cases h;exact ⟨y,by simp,e.symm,rfl⟩
  ·obtain ⟨z,c,a,b⟩:=kB0 h
   exact ⟨z,by simp[c],a,b⟩
theorem qV1 {L:List (Nat×List Z6)}(h:okPl L=true){x:Nat×List Z6}(a:x∈L):qB x.2=true∧x.2.all one=true:=by
 have:=List.all_eq_true.1 h x a
 simpa using this
def qU0 (G:Nat)(w:Zw):jA:=⟨oJ0 G w w.heap.size,G+1,G⟩
theorem qE0 (G:Nat)(w:Zw)(i:Nat):(qU0 G w).get i=(dA1 G w).get i:=rfl
theorem cZ1 (P:Z9)(NG G:Nat)(s:Nat→Int)(t:Nat→ByteArray)(w:Zw)(k:NG≤w.heap.size)(m:w.heap.size≤G):qI ⟨P,NG,G,w.heap.size,s,t⟩ (idΓ s t) (qU0 G w) w:=by
 have h:=qX2 P NG G s t w k m
 have d:∀ i x,(qU0 G w).get i=some x→i<w.heap.size:=λi x a=>by
  rw[qE0,uY0] at a
  unfold tP0 at a
  split at a
  ·rename_i c e r hi
   exact (Array.getElem?_eq_some_iff.1 hi).1
  ·cases a
 refine ⟨λi x a=>?_,λi x a p hi=>?_,λi j x y a n g f hi o e=>?_,h.gl,h.low,h.lo,Nat.le_succ _,h.ng,h.size,h.gs,oY0.no λi x a=>by
  rw[qE0,uY0] at a
  unfold tP0 at a
  split at a
  ·cases a;rfl
  ·cases a⟩
 ·have l:=d i x a
  have q:=(h.obj i x a).2
  have b:i<G:=Nat.lt_of_lt_of_le l m
  refine ⟨Nat.lt_succ_of_lt b,?_⟩
  exact q.ag (Ag.refl _ _) (Nat.le_succ _) (Z3 _) b rfl
 ·exact h.base i x a p hi
 ·exact h.inj i j x y a n g f hi o e
mutual
theorem tB0:∀ v:Z6,Ev.flat v=true→pl v=true
 | .bool _,_=>rfl
 | .int _ _,_=>rfl
 | .float _ _,h=>by simp[Ev.flat] at h
 | .complex _ _ _,_=>rfl
 | .string _,_=>rfl
 | .pointer none,_=>rfl
 | .pointer (some _),h=>rfl
 | .slice none _ _,_=>rfl
 | .slice (some _) _ _,h=>by simp[Ev.flat] at h
 | .map none,_=>rfl
 | .map (some _),h=>rfl
 | .chan _,h=>rfl
 | .func (.func g) ⟨f⟩ ⟨c⟩,h=>by
  simp only[Ev.flat,Z5] at h
  simp only[pl,wI0 f h.1,wI0 c h.2,Bool.and_self]
 | .func (.method _) _ _,h=>by simp[Ev.flat] at h
 | .func (.methodOf _ _) _ _,h=>by simp[Ev.flat] at h
 | .func (.via _ _ _ _) _ _,h=>by simp[Ev.flat] at h
 | .func (.yield _) _ _,h=>by simp[Ev.flat] at h
 | .nilFunc,_=>rfl
 | .iface t v,h=>by
  simp only[Ev.flat] at h
  simp only[pl,tB0 v h]
 | .nilIface,_=>rfl
 | .agg ⟨cs⟩,h=>by
  simp only[Ev.flat] at h
  simp only[pl,wI0 cs h]
 | .tuple ⟨cs⟩,h=>by
  simp only[Ev.flat] at h
  simp only[pl,wI0 cs h]
theorem wI0:∀ l:List Z6,qB l=true→plL l=true
 | [],_=>rfl
 | v :: l,h=>by
  simp only[qB,Z5] at h
  simp only[plL,tB0 v h.1,wI0 l h.2,Bool.and_self]
end
theorem dG2 {G:Nat}{w:Zw}{i:Nat}{cs:List Z6}{e:Zt}{m:Nat×Nat}(b:w.heap[i]?=some (.cells ⟨cs⟩ e m))(f:qB cs=true)(j:cs.all one=true):cells (qU0 G w) i=some (cs,e,false):=by
 have d:=cW0 (G:=G) b
 have k:cells (qU0 G w) i=cells (dA1 G w) i:=qV (qE0 G w i)
 rw[k,d]
 congr 2
 have c:∀ l:List Z6,qB l=true→l.all one=true→l.map (fix G)=l:=by
  intro l
  induction l with
  | nil=>intro _ _;rfl
  | cons v l g=>
   intro h a
   simp only[qB,Z5] at h
   simp only[List.all_cons,Z5] at a
   rw[List.map_cons,g h.2 a.2,mM2 a.1 (tB0 v h.1) (bO _ v h.1)]
 exact c cs f j
theorem dF2 {P:Z9}{n G:Nat}{L:List (Nat×List Z6)}{w:Zw}(m:0<n)(l:okPl L=true)(g:LaidW n L w)(p:w.heap.size≤G):Rel ⟨P,nO0 n L,λi=>i,λb=>b<G⟩ (nO0 n L) (qU0 G w):=by
 have no:∀ i,¬ kZ (nO0 n L) i:=λi hi=>by have c:n≤i:=hi.1;have k:i<n:=hi.2.1;omega
 refine ⟨m,⟨rfl,rfl⟩,Z3 _,Nat.le_succ _,λi hi=>rfl,λi x hi d=>?_,λi hi=>?_,λi x hi d=>?_,λi hi=>?_,λi hi=>absurd hi (no i),λi j hi=>absurd hi (no i),λb f=>⟨Nat.lt_succ_of_lt f,λi hi=>absurd hi (no i)⟩,λb f=>?_⟩
 ·obtain ⟨y,a,rfl,rfl⟩:=kB0 d
  exact ⟨y.2,0,_,rfl,(qV1 l a).1⟩
 ·refine ⟨rfl,?_⟩
  cases d:(nO0 n L).get i with
  | none=>exact .inr rfl
  | some x=>
   obtain ⟨y,a,rfl,rfl⟩:=kB0 d
   exact .inl (Nat.lt_of_lt_of_le (g.row y a).1 p)
 ·obtain ⟨y,a,rfl,rfl⟩:=kB0 d
  obtain ⟨c,k⟩:=qV1 l a
  obtain ⟨r,_,e,t,o⟩:=g.row y a
  refine ⟨y.2,e,dG2 o c k,λh=>?_,RVL.of_flat _ c,k⟩
  have q:n≤y.1:=h
  have s:y.1<n:=hi
  omega
 ·have c:i<n:=hi
  show i<G+1
  have:=g.size
  omega
 ·have c:G+1≤b:=f
  rw[qE0,uY0,Array.getElem?_eq_none Z0]
  rfl
theorem calls_of_callF {P:Z9}{NG n G:Nat}{L:List (Nat×List Z6)}{s:Nat→Int}{t:Nat→ByteArray}{w:Zw}(q:0<n)(y:okPl L=true)(B:LaidW n L w)(g:NG≤w.heap.size)(p:w.heap.size≤G){f:FuncId}{args vs:List Z6}{v:Z6}
  (l:jF ⟨P,NG,G,w.heap.size,s,t⟩ (nO0 n L) f args v) (h:RVL ⟨P,nO0 n L,λi=>i,λb=>b<G⟩ (qU0 G w) n args vs) (j:plL vs=true) (c:scL G vs=true) (o:flat v=true) :
  Calls P f ⟨vs⟩ w λe w'=>e=.returned v∧Below w.heap.size w w':=by
 have a:=cZ1 P NG G s t w g p
 have l:=l _ _ vs ⟨rfl,rfl⟩ (dF2 q y B p) h
 obtain ⟨_,D⟩:=l _ w a (λx C=>kN (Nat.le_succ _) x (qJ c x C))
 have z:(⟨vs.map (con (idΓ s t))⟩:Array Z6)=⟨vs⟩:=by
  rw[← dQ,yL0 s t vs j]
 have m:=D Fence.wide ⟨rfl⟩ 0 (λe w'=>e=.returned v∧Below w.heap.size w w') (λu E d w' A _ _ r _ _=>by
  obtain ⟨g',_,_,k⟩:=A
  have:=RV.flat v u o k
  subst this
  exact ⟨by rw[kQ d u o],r⟩)
 rw[z] at m
 exact callsIn_wide.1 m
theorem uM0 {P:Z9}{w:Zw}:∀ {l:List (String×DataW Unit)} {c:List MemPlace},DataW.LaidVars P w l c→∀ x∈l,
  ∃ g t cs fuel p,P.globalNamed x.1=some g∧(P.globals[g]?).map (·.type)=some t∧w.var? P x.1=some cs∧DataW.trod (λ_=>()) P w 0 (λ_=>true) false fuel t cs.toList=some (x.2,p)
 | [],c,h,x,a=>by cases a
 | (n,d) :: l,c,h,x,a=>by
  obtain ⟨g,t,cs,fuel,p,q,b,j,f,i,e,_⟩:=h
  rcases List.mem_cons.1 a with rfl|a
  ·exact ⟨g,t,cs,fuel,p,b,j,f,i⟩
  ·exact uM0 e x a
theorem kC0 {P:Z9}{w:Zw}{l:List (String×DataW Unit)}(h:laidMetH P l w):∃ d a,DataW.LaidVars P w d a∧∀ x∈l,x.2.handleName?=none→x∈d:=by
 unfold laidMetH at h
 split at h
 ·obtain ⟨a,c,_⟩:=h;exact ⟨l,a,c,λx b _=>b⟩
 ·obtain ⟨⟨a,c,_⟩,_⟩:=h
  exact ⟨_,a,c,λx b e=>List.mem_filter.2 ⟨b,by rw[e];rfl⟩⟩
structure VarAt (P:Z9)(l:List (String×DataW Unit))(name:String)(g:Nat)(d:DataW Unit):Prop where
 mem:(name,d)∈l
 hand:d.handleName?=none
 at_:P.globalNamed name=some g
theorem VarAt.size {P:Z9}{w:Zw}{l:List (String×DataW Unit)}{c:String}{g:Nat}{d:DataW Unit}(v:VarAt P l c g d)(h:laidMetH P l w):g<w.heap.size:=by
 obtain ⟨n,m,e,i⟩:=kC0 h
 obtain ⟨g',t,cs,fuel,p,b,j,a,k⟩:=uM0 e _ (i _ v.mem v.hand)
 obtain rfl:=Option.some.inj (v.at_.symm.trans b)
 unfold World.var? at a
 rw[b] at a
 simp only[Option.bind_some] at a
 split at a
 ·rename_i f;exact (Array.getElem?_eq_some_iff.1 f).1
 ·cases a
theorem VarAt.row {P:Z9}{w:Zw}{l:List (String×DataW Unit)}{b:String}{g:Nat}{d:DataW Unit}(v:VarAt P l b g d)(h:laidMetH P l w)
  {n:Nat} (j:(match (P.globals[g]?).map (·.type) with|some t=>mD0 P n t|none=>false)=true) {cs:List Z6} (s:bB1 d=cs) :
  ∃ e f,w.heap[g]?=some (.cells ⟨cs⟩ e f):=by
 obtain ⟨y,x,k,u⟩:=kC0 h
 obtain ⟨g',t,r,fuel,p,i,m,a,q⟩:=uM0 k _ (u _ v.mem v.hand)
 obtain rfl:=Option.some.inj (v.at_.symm.trans i)
 rw[m] at j
 have:=yW0 n fuel t _ _ _ q j
 rw[s] at this
 unfold World.var? at a
 rw[i] at a
 simp only[Option.bind_some] at a
 split at a
 ·rename_i c e f o
  cases a
  refine ⟨e,f,?_⟩
  rw[o,← this]
 ·cases a
end
end Go.Dv
namespace Go.Dv
open Go Go.RowKit Go.Ev
noncomputable section
abbrev gG (P:Z9)(n:Nat)(L:List (Nat×List Z6))(G:Nat):Gh:=⟨P,nO0 n L,λi=>i,λb=>b<G⟩
def Op (P:Z9)(n:Nat)(L:List (Nat×List Z6))(w:Zw)(ds cs:List Z6):Prop:=
 ∃ h,∀ G,h≤G→w.heap.size≤G→RVL (gG P n L G) (qU0 G w) n ds cs∧plL cs=true∧scL G cs=true∧cs.all one=true
section
variable {P:Z9} {n:Nat} {L:List (Nat×List Z6)} {w:Zw}
theorem yA0:∀ {a b:List Z6},plL a=true→plL b=true→plL (a++b)=true
 | [],b,_,h=>h
 | v :: a,b,h1,h2=>by
  simp only[plL,List.cons_append,Z5] at h1 ⊢
  exact ⟨h1.1,yA0 h1.2 h2⟩
theorem wF0 {m:Nat}{a b:List Z6}(c:scL m a=true)(d:scL m b=true):scL m (a++b)=true:=
 qK λv h=>(List.mem_append.1 h).elim (qJ c v) (qJ d v)
theorem Op.nil:Op P n L w [] []:=⟨0,λG _ _=>⟨RVL.nil,rfl,rfl,rfl⟩⟩
theorem Op.append {a b c d:List Z6}(h:Op P n L w a c)(e:Op P n L w b d):Op P n L w (a++b) (c++d):=by
 obtain ⟨l,h⟩:=h
 obtain ⟨i,e⟩:=e
 refine ⟨max l i,λG s f=>?_⟩
 obtain ⟨j,p,r,o⟩:=h G Z0 f
 obtain ⟨g,k,q,m⟩:=e G Z0 f
 exact ⟨j.app g,yA0 p k,wF0 r q,by rw[List.all_append,o,m];rfl⟩
theorem Op.flat {cs:List Z6}(h:qB cs=true)(a:cs.all one=true):Op P n L w cs cs:=
 ⟨0,λG _ _=>⟨RVL.of_flat _ h,wI0 _ h,wJ0 _ _ h,a⟩⟩
theorem Op.list {Y:Type}(f:Y→List Z6):∀ (a:List Y) (css:List (List Z6)),a.length=css.length→(∀ (i:Nat) (y:Y) (c:List Z6),a[i]?=some y→css[i]?=some c→Op P n L w (f y) c)→Op P n L w (a.flatMap f) css.flatten
 | [],[],_,_=>Op.nil
 | y :: a,c :: css,h,hh=>by
  rw[List.flatMap_cons,List.flatten_cons]
  exact (hh 0 y c rfl rfl).append (Op.list f a css (by simpa using h) λi d e b g=>hh (i+1) d e (by simpa using b) (by simpa using g))
 | [],_ :: _,h,_=>by simp at h
 | _ :: _,[],h,_=>by simp at h
theorem cR0 {a:Addr}{k:Nat}{cs:List Z6}(h:w.cells? 0 a k=some cs):cs.length=k∧∀ j,j<k→w.cell? (a.add j)=cs[j]?:=by
 unfold World.cells? at h
 rw[if_pos (Nat.zero_le _)] at h
 exact ⟨by simpa using mapM_some_length h,λj c=>mapM_some_get h j j (by simp[c])⟩
theorem nS0 {size:Nat}(full:List Z6):∀ (css:List (List Z6)) (off:Nat),(∀ i c,css[i]?=some c→(full.drop (off+i*size)).take size=c)→(full.drop off).take (css.length*size)=css.flatten
 | [],off,_=>by simp
 | c :: css,off,h=>by
  have h0:=h 0 c rfl
  rw[Nat.zero_mul,Nat.add_zero] at h0
  rw[List.length_cons,Nat.add_mul,Nat.one_mul,Nat.add_comm,List.take_add,h0,List.drop_drop,nS0 full css (off+size) λi a b=>by
   have:=h (i+1) a (by simpa using b)
   rwa [show off+(i+1)*size=off+size+i*size by rw[Nat.add_mul];omega] at this]
  rfl
theorem flatten_len {size:Nat}:∀ (css:List (List Z6)),(∀ c∈css,c.length=size)→css.flatten.length=css.length*size
 | [],_=>by simp
 | c :: css,h=>by
  rw[List.flatten_cons,List.length_append,h c (by simp),flatten_len css λc a=>h c (by simp[a]),List.length_cons,Nat.add_mul];omega
theorem Op.row {e size:Nat}(hsz:szT P e=some size)(h0:0<size){a:Addr}{len cap:Nat}{css:List (List Z6)}{ds:List Z6}(C:css.length=len)
  (X:∀ i c,css[i]?=some c→w.cells? 0 (a.add (i*size)) size=some c) (N:Op P n L w ds css.flatten) (m:cap<UC) (K:len≤cap):Op P n L w [Rw false e len ds] [.slice (some a) len cap]:=by
 obtain ⟨g0,N⟩:=N
 refine ⟨max g0 (a.block+1),λG hG hw=>?_⟩
 obtain ⟨h1,h2,Y,Z⟩:=N G Z0 hw
 have z:∀ c∈css,c.length=size:=λc y=>by
  obtain ⟨i,hi⟩:=List.mem_iff_getElem?.1 y
  exact (cR0 (X i c hi)).1
 have r:=flatten_len css z
 have I:Sl (qU0 G w) (some a) css.flatten:=by
  cases css with
  | nil=>exact .inl ⟨rfl,rfl⟩
  | cons A k=>
   obtain ⟨b,off,sp⟩:=a
   have B:=cR0 (X 0 A rfl)
   have d:=B.2 0 h0
   have E:A[0]?=some A[0]:=List.getElem?_eq_getElem (by rw[B.1];exact h0)
   rw[Nat.zero_mul,E] at d
   have q:((⟨b,off,sp⟩:Addr).add 0).add 0=⟨b,off,sp⟩:=rfl
   rw[q] at d
   unfold World.cell? at d
   split at d
   rotate_left
   ·cases d
   rename_i arr t fr F
   cases sp with
   | some s=>simp at d
   | none=>
   have p:cells (qU0 G w) b=some (arr.toList.map (fix G),t,false):=by
    rw[qV (qE0 G w b)]
    exact cW0 (G:=G) F
   have R:∀ v∈(A :: k).flatten,fix G v=v:=λv g=>by
    refine mM2 (List.all_eq_true.1 Z v g) ?_ (qJ Y v g)
    have:∀ l:List Z6,plL l=true→∀ v∈l,pl v=true:=by
     intro l
     induction l with
     | nil=>intro _ v g;cases g
     | cons x l ih=>
      intro h v g
      simp only[plL,Z5] at h
      rcases List.mem_cons.1 g with rfl|g
      ·exact h.1
      ·exact ih h.2 v g
    exact this _ h2 v g
   have f:=nS0 (size:=size) (arr.toList.map (fix G)) (A :: k) off λi c D=>by
    have u:=cR0 (X i c D)
    have y:∀ v∈c,fix G v=v:=λv g=>R v (List.mem_flatten.2 ⟨c,List.mem_of_getElem? D,g⟩)
    apply List.ext_getElem?
    intro j
    by_cases M:j<size
    ·rw[List.getElem?_take_of_lt M,List.getElem?_drop,List.getElem?_map,Array.getElem?_toList]
     have J:=u.2 j M
     rw[addr_add,addr_add] at J
     simp only[World.cell?,F,Option.isSome_none,Bool.false_eq_true,if_false] at J
     rw[J]
     have V:c[j]?=some c[j]:=List.getElem?_eq_getElem (by rw[u.1];exact M)
     rw[V,Option.map_some,y _ (List.getElem_mem _)]
    ·rw[List.getElem?_eq_none (by rw[List.length_take];omega),List.getElem?_eq_none (by rw[u.1];omega)]
   rw[← r] at f
   refine .inr ⟨b,off,_,t,false,rfl,p,?_,f,.inr ?_⟩
   ·have h6:=congrArg List.length f
    rw[List.length_take,List.length_drop] at h6
    have h7:0<(A :: k).flatten.length:=by
     rw[r,List.length_cons,Nat.add_mul];omega
    omega
   ·rw[gO,Z];exact Y
 have T:RV (gG P n L G) (qU0 G w) n (Rw false e len ds) (.slice (some a) len cap):=by
  refine RV.mkRow h1 ⟨I,λb F=>?_⟩ (λe=>by cases e) h0 (by rw[r,C]) (.inl ⟨m,K⟩)
  obtain ⟨o,s,e⟩:=F
  cases e
  have h8:b<G:=by
   have h9:b+1≤G:=Nat.le_trans (Nat.le_max_right _ _) hG
   omega
  exact ⟨Nat.lt_succ_of_lt h8,h8⟩
 refine ⟨?_,?_,?_,rfl⟩
 ·simp only[RVL];exact ⟨_,[],rfl,T,rfl⟩
 ·have:Nat.blt cap UC=true:=by simpa using m
  simp[plL,pl,this]
 ·have:a.block<G:=Z0
  simp[scL,sc,scA,this]
end
section
variable {P:Z9} {n:Nat} {L:List (Nat×List Z6)} {w:Zw} {H:Type} {enc:Zt×Z6→H}
theorem mV1 {Y:Type}{R:Nat→Y→Prop}:∀ (k:Nat),(∀ i,i<k→∃ z,R i z)→∃ c:List Y,c.length=k∧∀ (i:Nat) (z:Y),c[i]?=some z→R i z
 | 0,_=>⟨[],rfl,λi z h=>by simp at h⟩
 | k+1,h=>by
  obtain ⟨c,b,e⟩:=mV1 k λi hi=>h i Z0
  obtain ⟨z,d⟩:=h k Z0
  refine ⟨c++[z],by simp[b],λi y a=>?_⟩
  by_cases hi:i<c.length
  ·exact e i y (by rwa [List.getElem?_append_left hi] at a)
  ·rw[List.getElem?_append_right Z0] at a
   have:i-c.length=0:=by
    have:=(List.getElem?_eq_some_iff.1 a).1
    simp at this;omega
   rw[this] at a
   simp only[List.getElem?_cons_zero,Option.some.injEq] at a
   subst a
   have:i=k:=Z0
   subst this
   exact d
theorem gV0 {e:Zt}:∀ {ds:List (DataW H)} {d:DataW H},d∈ds→∀ m∈d.weights P e,m∈DataW.weightsAll P e ds
 | d0 :: ds,d,h,m,hm=>by
  simp only[DataW.weightsAll,List.mem_append]
  rcases List.mem_cons.1 h with rfl|h
  ·exact .inl hm
  ·exact .inr (gV0 h m hm)
theorem Op.nils {e size:Nat}(h:szT P e=some size)(h0:0<size):Op P n L w [Rw false e 0 []] [.slice none 0 0]:=by
 refine ⟨0,λG _ _=>⟨?_,rfl,rfl,rfl⟩⟩
 simp only[RVL]
 refine ⟨_,[],rfl,?_,rfl⟩
 exact RV.mkRow (a:=none) (vs:=[]) RVL.nil ⟨Sl.nil _ pL0,λb c=>by obtain ⟨o,s,e⟩:=c;cases e⟩ (λe=>by cases e) h0 (by simp) (.inl ⟨dF0,Z3 _⟩)
theorem open_slice {t e:Zt}{size:Nat}(M:P.underlying t=some (.slice e))(u:szT P e=some size)(B:P.cellsOf e=size)(h0:0<size)(C:1≤P.bytesOf e){Y:Type}(f:Y→List Z6)(Q:Y→Prop)
  {fuel:Nat} {cs:List Z6} {x:DataW H×List MemPlace} (h:DataW.trod enc P w 0 (λ_=>true) true fuel t cs=some x) (Z:(x.1.weights P t).all (·≤reachBytes)=true)
  (D:∀ (k:Nat) (c:List Z6) (y:DataW H×List MemPlace),fuel=k+1→DataW.trod enc P w 0 (λ_=>true) true k e c=some y→(y.1.weights P e).all (·≤reachBytes)=true→∃ z,Op P n L w (f z) c∧Q z) :
  ∃ d:List Y,Op P n L w [Rw false e d.length (d.flatMap f)] cs∧(∀ z∈d,Q z)∧d.length<1000000000000000:=by
 rcases DataW.trod_slice M h with ⟨rfl,rfl⟩|⟨a,len,cap,b,v,k,F,rfl,rfl,hb,A,hmx,r,s,J,R⟩
 ·refine ⟨[],Op.nils u h0,?_,?_⟩
  ·intro z g;cases g
  ·simp
 ·obtain ⟨E,_⟩:=J rfl
  have q:∀ m∈DataW.weights P t (.slice (b.map (·.1)) (v.map (·.1))),m≤reachBytes:=λm I=>by simpa using List.all_eq_true.1 Z m I
  simp only[DataW.weights,M,List.length_map,List.mem_cons,List.mem_append] at q
  have K:cap≤reachBytes:=by
   have j:=q _ (.inl rfl)
   rw[r,E] at j
   have p:len+(cap-len)=cap:=Z0
   rw[p] at j
   exact Nat.le_trans (Nat.le_mul_of_pos_right _ C) j
  have hr:reachBytes=140737488351232:=rfl
  have hi:∀ i,i<len→∃ z:(List Z6)×Y,w.cells? 0 (a.add (i*size)) size=some z.1∧Op P n L w (f z.2) z.1∧Q z.2:=λi hi=>by
   have j:=s i hi
   rw[B,List.getElem?_eq_getElem Z0] at j
   obtain ⟨c,p,T⟩:=Option.bind_eq_some_iff.1 j
   obtain ⟨z,V,N⟩:=D k c _ F T (List.all_eq_true.2 λm I=>by
    have:=q m (.inr (.inl (gV0 (List.mem_map.2 ⟨b[i],List.getElem_mem _,rfl⟩) m I)))
    simpa using this)
   exact ⟨(c,z),p,V,N⟩
  obtain ⟨d,j,p⟩:=mV1 len hi
  refine ⟨d.map (·.2),?_,λz g=>?_,by rw[List.length_map];omega⟩
  ·have X : Op P n L w ((d.map (·.2)).flatMap f) (d.map (·.1)).flatten := Op.list f _ _ (by simp) fun i y c o l => by
    rw[List.getElem?_map] at o l
    cases g:d[i]? with
    | none=>rw[g] at o;cases o
    | some z=>
     rw[g] at o l
     cases o;cases l
     exact (p i z g).2.1
   have:=Op.row (P:=P) (n:=n) (L:=L) (w:=w) u h0 (a:=a) (len:=len) (cap:=cap) (css:=d.map (·.1)) (by simp[j]) (λi c l=>by
    rw[List.getElem?_map] at l
    cases g:d[i]? with
    | none=>rw[g] at l;cases l
    | some z=>
     rw[g] at l
     cases l
     exact (p i z g).1) X (by simp only[UC];omega) A
   rw[List.length_map,j]
   exact this
  ·obtain ⟨y,o,rfl⟩:=List.mem_map.1 g
   obtain ⟨i,hi'⟩:=List.mem_iff_getElem?.1 o
   exact (p i y hi').2.2
theorem jM0 {t:Zt}{k:IntKind}(c:P.underlying t=some (.int k)){fuel:Nat}{cs:List Z6}{x:DataW H×List MemPlace}(h:DataW.trod enc P w 0 (λ_=>true) true fuel t cs=some x) :
  ∃ m,cs=[.int k m]∧Op P n L w [.int k m] cs∧(Lit.int k m).wf=true:=by
 obtain ⟨m,rfl,_,a⟩:=DataW.trod_int c h
 exact ⟨m,rfl,Op.flat rfl rfl,a⟩
def fieldsB (P:Z9)(t:Zt)(l:List (Zt×Nat)):Zb:=match P.underlying t with
 | some (.struct fs)=>decide ((fs.toList.map λf=>(f.type,f.offset))=l)
 | _=>false
theorem wW0 {t:Zt}{l:List (Zt×Nat)}(b:fieldsB P t l=true){fuel:Nat}{cs:List Z6}{x:DataW H×List MemPlace}(h:DataW.trod enc P w 0 (λ_=>true) true fuel t cs=some x)(g:(x.1.weights P t).all (·≤reachBytes)=true) :
  ∃ k,fuel=k+1∧cs.length=P.cellsOf t∧∀ (i:Nat) (ty:Zt) (off:Nat),l[i]?=some (ty,off)→∃ y,DataW.trod enc P w 0 (λ_=>true) true k ty ((cs.drop off).take (P.cellsOf ty))=some y∧(y.1.weights P ty).all (·≤reachBytes)=true:=by
 unfold fieldsB at b
 split at b
 rotate_left
 ·cases b
 rename_i c e
 have v:(c.toList.map λf=>(f.type,f.offset))=l:=by simpa using b
 obtain ⟨xs,k,p,z,r,C,q⟩:=DataW.trod_struct e h
 subst z
 refine ⟨k,p,r,λi ty off hi=>?_⟩
 rw[← v,List.getElem?_map] at hi
 cases a:c.toList[i]? with
 | none=>rw[a] at hi;cases hi
 | some f=>
  rw[a] at hi
  cases hi
  have B:i<c.size:=by have:=(List.getElem?_eq_some_iff.1 a).1;simpa using this
  have u:=q i f (by simpa using a)
  have o:xs[i]?=some xs[i]:=List.getElem?_eq_getElem Z0
  refine ⟨xs[i],by rw[u,o],List.all_eq_true.2 λm A=>?_⟩
  have s:=DataW.weights_mem_each (P:=P) (ts:=c.toList.map (·.type)) (ds:=xs.map (·.1)) (j:=i) (t:=f.type) (d:=xs[i].1) (by rw[List.getElem?_map,a];rfl) (by rw[List.getElem?_map,o];rfl) m A
  simp only[DataW.weights,e] at g
  exact List.all_eq_true.1 g m s
end
variable {P:Z9} {n:Nat} {L:List (Nat×List Z6)} {w:Zw} {H:Type} {enc:Zt×Z6→H}
end
end Go.Dv
