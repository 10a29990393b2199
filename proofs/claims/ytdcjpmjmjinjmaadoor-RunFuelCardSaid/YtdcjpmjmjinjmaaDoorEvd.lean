/-
  A part of the proof: conditions over an abstract memory,and that they are enough for what the model's calls do. No condition of its own.
-/
import Derived.Test.YtdcjpmjmjinjmaaDoorEvb
import Derived.Test.YtdcjpmjmjinjmaaDoorEva
import Derived.LaidHandle
import Derived.ChangeArms
import Derived.SizedLaws
import Derived.ChangeSlices
set_option linter.unusedSimpArgs false
set_option linter.unusedVariables false
namespace Go.Dv
open Go Go.RowKit Go.Ev
noncomputable section
def Rw (f:Bool) (e n:Nat) (cs:List Value):Value:=.func (.yield 0) ⟨[.int .i64 (Int.ofNat n),.int .i64 (Int.ofNat e),.bool f]⟩ ⟨cs⟩
def Rpt (off:Nat) (cs:List Value):Value:=.func (.yield 0) ⟨[.int .i64 (Int.ofNat off)]⟩ ⟨cs⟩
structure Gh where
 P:Program
 H0:jA
 δ:Nat→Nat
 F:Nat→Prop
def ren (δ:Nat→Nat) (a:Addr):Addr:=⟨δ a.block,a.off,a.spot⟩
theorem dB0 (δ:Nat→Nat) (a:Addr) (n:Nat):ren δ (a.add n)=(ren δ a).add n:=by
 unfold ren Addr.add
 split<;>rfl
def jM1 (P:Program) (h:jA) (a:Option Addr) (n c size e:Nat):Prop:=
 (c<UC∧n≤c)∨∃ b off full,a=some ⟨b,off,none⟩∧cells h b=some (full,e,true)∧UC≤c∧off=(c-UC)*size∧off+n*size≤full.length∧n<U∧szT P e=some size
def Fz (g:Gh) (h:jA) (a:Option Addr) (vs:List Value):Prop:=Sl h a vs∧∀ b,blk a b→b<h.next∧g.F b
def RowP (g:Gh) (h:jA) (N l:Nat) (fs vs:List Value) (v:Value):Prop:=match fs with
 | []=>vs=[]∧l<N∧v=.func (.yield (g.δ l)) ⟨[]⟩ ⟨[]⟩
 | [.int _ (.ofNat off)]=>∃ b o,v=.pointer (some ⟨b,o+off,none⟩)∧Fz g h (some ⟨b,o,none⟩) vs∧off<vs.length
 | [.int _ (.ofNat n),.int _ (.ofNat e),.bool f]=>∃ a c size,v=.slice a n c∧Fz g h a vs∧(f=true→c=n)∧0<size∧vs.length=n*size∧jM1 g.P h a n c size e
 | _=>False
mutual
def RV (g:Gh) (h:jA) (N:Nat):Value→Value→Prop
 | .pointer a,v=>fscP N a=true∧v=.pointer (a.map (ren g.δ))
 | .slice a n c,v=>fscP N a=true∧v=.slice (a.map (ren g.δ)) n c
 | .map r,v=>(∀ i,r=some i→i<N)∧v=.map (r.map g.δ)
 | .chan _,_=>False
 | .func (.func f) ⟨fs⟩ ⟨cs⟩,v=>∃ us vs,v=.func (.func f) ⟨us⟩ ⟨vs⟩∧RVL g h N fs us∧RVL g h N cs vs
 | .func (.yield l) ⟨fs⟩ ⟨cs⟩,v=>∃ vs,RVL g h N cs vs∧RowP g h N l fs vs v
 | .func _ _ _,_=>False
 | .iface t d,v=>∃ u,v=.iface t u∧RV g h N d u
 | .agg ⟨ds⟩,v=>∃ vs,v=.agg ⟨vs⟩∧RVL g h N ds vs
 | .tuple ⟨ds⟩,v=>∃ vs,v=.tuple ⟨vs⟩∧RVL g h N ds vs
 | .bool b,v=>v=.bool b
 | .int k n,v=>v=.int k n
 | .float k n,v=>v=.float k n
 | .complex k a b,v=>v=.complex k a b
 | .string s,v=>v=.string s
 | .nilFunc,v=>v=.nilFunc
 | .nilIface,v=>v=.nilIface
def RVL (g:Gh) (h:jA) (N:Nat):List Value→List Value→Prop
 | [],l=>l=[]
 | d :: ds,l=>∃ v vs,l=v :: vs∧RV g h N d v∧RVL g h N ds vs
end
structure Ext0 (g:Gh) (h:jA) (N:Nat) (g':Gh) (h':jA) (N':Nat):Prop where
 P:g'.P=g.P
 nn:N≤N'
 δ:∀ i,i<N→g'.δ i=g.δ i
 F:∀ b,g.F b→g'.F b
 next:h.next≤h'.next
 lo:h'.lo=h.lo
 get:∀ b,g.F b→b<h.next→h'.get b=h.get b
theorem jM1.ext {g g':Gh} {h h':jA} {N N':Nat} (x:Ext0 g h N g' h' N') {a:Option Addr} {n c size e:Nat} {P:Program} (hb:∀ b,blk a b→b<h.next∧g.F b) (hc:jM1 P h a n c size e):jM1 P h' a n c size e:=by
 rcases hc with h1|⟨b,off,full,rfl,h2,h3⟩
 ·exact .inl h1
 ·obtain ⟨h4,h5⟩:=hb b ⟨off,none,rfl⟩
  exact .inr ⟨b,off,full,rfl,(qT (x.get b h5 h4)).trans h2,h3⟩
theorem Fz.ext {g g':Gh} {h h':jA} {N N':Nat} (x:Ext0 g h N g' h' N') {a:Option Addr} {vs:List Value} (hz:Fz g h a vs):Fz g' h' a vs:=by
 obtain ⟨h1,h2⟩:=hz
 refine ⟨h1.frame x.lo fun b o ha _=>?_,fun b hb=>?_⟩
 ·obtain ⟨h3,h4⟩:=h2 b ⟨o,none,ha⟩
  exact qT (x.get b h4 h3)
 ·obtain ⟨h3,h4⟩:=h2 b hb
  exact ⟨Nat.lt_of_lt_of_le h3 x.next,x.F b h4⟩
theorem RowP.ext {g g':Gh} {h h':jA} {N N':Nat} (x:Ext0 g h N g' h' N') {l:Nat} {fs vs:List Value} {v:Value} (hp:RowP g h N l fs vs v):RowP g' h' N' l fs vs v:=by
 unfold RowP at hp
 split at hp
 ·obtain ⟨h1,h2,rfl⟩:=hp
  exact ⟨h1,Nat.lt_of_lt_of_le h2 x.nn,by rw[x.δ l h2]⟩
 ·obtain ⟨b,o,h1,h2,h3⟩:=hp
  exact ⟨b,o,h1,h2.ext x,h3⟩
 ·obtain ⟨a,c,size,h1,h2,h3,h4,h5,h6⟩:=hp
  exact ⟨a,c,size,h1,h2.ext x,h3,h4,h5,by rw[x.P];exact h6.ext x h2.2⟩
 ·exact hp.elim
theorem gO {g g':Gh} {N:Nat} (hδ:∀ i,i<N→g'.δ i=g.δ i) {a:Option Addr} (ha:fscP N a=true):a.map (ren g'.δ)=a.map (ren g.δ):=by
 cases a with
 | none=>rfl
 | some a=>
  have h1:scA N a=true:=(qN N (some a)).symm.trans ha
  simp only[scA,Nat.blt_eq] at h1
  simp only[Option.map_some,ren,hδ a.block h1]
theorem fT0 {n m:Nat} (hn:n≤m) {a:Option Addr} (ha:fscP n a=true):fscP m a=true:=by
 rw[qN] at ha ⊢
 exact qX hn _ ha
mutual
theorem RV.ext {g g':Gh} {h h':jA} {N N':Nat} (x:Ext0 g h N g' h' N'):∀ (d v:Value),RV g h N d v→RV g' h' N' d v
 | .pointer a,v,hv=>by
  simp only[RV] at hv ⊢
  exact ⟨fT0 x.nn hv.1,by rw[gO x.δ hv.1];exact hv.2⟩
 | .slice a n c,v,hv=>by
  simp only[RV] at hv ⊢
  exact ⟨fT0 x.nn hv.1,by rw[gO x.δ hv.1];exact hv.2⟩
 | .map r,v,hv=>by
  simp only[RV] at hv ⊢
  refine ⟨fun i hi=>Nat.lt_of_lt_of_le (hv.1 i hi) x.nn,?_⟩
  cases r with
  | none=>exact hv.2
  | some i=>rw[hv.2,Option.map_some,Option.map_some,x.δ i (hv.1 i rfl)]
 | .chan _,v,hv=>by simp only[RV] at hv
 | .func (.func f) ⟨fs⟩ ⟨cs⟩,v,hv=>by
  simp only[RV] at hv ⊢
  obtain ⟨us,vs,h1,h2,h3⟩:=hv
  exact ⟨us,vs,h1,RVL.ext x fs us h2,RVL.ext x cs vs h3⟩
 | .func (.yield l) ⟨fs⟩ ⟨cs⟩,v,hv=>by
  simp only[RV] at hv ⊢
  obtain ⟨vs,h1,h2⟩:=hv
  exact ⟨vs,RVL.ext x cs vs h1,h2.ext x⟩
 | .func (.method _) _ _,v,hv=>by simp only[RV] at hv
 | .func (.methodOf _ _) _ _,v,hv=>by simp only[RV] at hv
 | .func (.via _ _ _ _) _ _,v,hv=>by simp only[RV] at hv
 | .iface t d,v,hv=>by
  simp only[RV] at hv ⊢
  obtain ⟨u,h1,h2⟩:=hv
  exact ⟨u,h1,RV.ext x d u h2⟩
 | .agg ⟨ds⟩,v,hv=>by
  simp only[RV] at hv ⊢
  obtain ⟨vs,h1,h2⟩:=hv
  exact ⟨vs,h1,RVL.ext x ds vs h2⟩
 | .tuple ⟨ds⟩,v,hv=>by
  simp only[RV] at hv ⊢
  obtain ⟨vs,h1,h2⟩:=hv
  exact ⟨vs,h1,RVL.ext x ds vs h2⟩
 | .bool b,v,hv=>by simp only[RV] at hv ⊢;exact hv
 | .int k n,v,hv=>by simp only[RV] at hv ⊢;exact hv
 | .float k n,v,hv=>by simp only[RV] at hv ⊢;exact hv
 | .complex k a b,v,hv=>by simp only[RV] at hv ⊢;exact hv
 | .string s,v,hv=>by simp only[RV] at hv ⊢;exact hv
 | .nilFunc,v,hv=>by simp only[RV] at hv ⊢;exact hv
 | .nilIface,v,hv=>by simp only[RV] at hv ⊢;exact hv
theorem RVL.ext {g g':Gh} {h h':jA} {N N':Nat} (x:Ext0 g h N g' h' N'):∀ (ds vs:List Value),RVL g h N ds vs→RVL g' h' N' ds vs
 | [],l,hv=>by simp only[RVL] at hv ⊢;exact hv
 | d :: ds,l,hv=>by
  simp only[RVL] at hv ⊢
  obtain ⟨v,vs,h1,h2,h3⟩:=hv
  exact ⟨v,vs,h1,RV.ext x d v h2,RVL.ext x ds vs h3⟩
end
variable {g:Gh} {h:jA} {N:Nat}
theorem RVL.len:∀ {ds vs:List Value},RVL g h N ds vs→vs.length=ds.length
 | [],l,hv=>by simp only[RVL] at hv;subst hv;rfl
 | d :: ds,l,hv=>by
  simp only[RVL] at hv
  obtain ⟨v,vs,rfl,_,h3⟩:=hv
  simp[RVL.len h3]
theorem RVL.nil:RVL g h N [] []:=by simp only[RVL]
theorem RVL.cons {d v:Value} {ds vs:List Value} (h1:RV g h N d v) (h2:RVL g h N ds vs):RVL g h N (d :: ds) (v :: vs):=by
 simp only[RVL];exact ⟨v,vs,rfl,h1,h2⟩
theorem RVL.one {d v:Value} (h1:RV g h N d v):RVL g h N [d] [v]:=RVL.cons h1 RVL.nil
theorem RVL.inv {d v:Value} {ds vs:List Value} (hv:RVL g h N (d :: ds) (v :: vs)):RV g h N d v∧RVL g h N ds vs:=by
 simp only[RVL] at hv
 obtain ⟨_,_,e,h1,h2⟩:=hv
 cases e
 exact ⟨h1,h2⟩
theorem RVL.get:∀ {ds vs:List Value},RVL g h N ds vs→∀ {i:Nat} {d:Value},ds[i]?=some d→∃ v,vs[i]?=some v∧RV g h N d v
 | [],l,hv,i,d,hd=>by simp at hd
 | x :: ds,l,hv,i,d,hd=>by
  simp only[RVL] at hv
  obtain ⟨v,vs,rfl,h2,h3⟩:=hv
  cases i with
  | zero=>simp at hd;subst hd;exact ⟨v,by simp,h2⟩
  | succ i=>simp at hd;obtain ⟨u,h4,h5⟩:=h3.get hd;exact ⟨u,by simp[h4],h5⟩
theorem RVL.of:∀ {ds vs:List Value},vs.length=ds.length→(∀ (i:Nat) (d v:Value),ds[i]?=some d→vs[i]?=some v→RV g h N d v)→RVL g h N ds vs
 | [],[],_,_=>RVL.nil
 | [],v :: vs,hl,_=>by simp at hl
 | d :: ds,[],hl,_=>by simp at hl
 | d :: ds,v :: vs,hl,ha=>RVL.cons (ha 0 d v rfl rfl) (RVL.of (by simpa using hl) fun i d v hd hv=>ha (i+1) d v (by simpa using hd) (by simpa using hv))
theorem RVL.app:∀ {ds vs es us:List Value},RVL g h N ds vs→RVL g h N es us→RVL g h N (ds++es) (vs++us)
 | [],l,es,us,hv,hu=>by simp only[RVL] at hv;subst hv;exact hu
 | x :: ds,l,es,us,hv,hu=>by
  simp only[RVL] at hv
  obtain ⟨v,vs,rfl,h2,h3⟩:=hv
  exact RVL.cons h2 (h3.app hu)
theorem RVL.take:∀ {ds vs:List Value},RVL g h N ds vs→∀ n,RVL g h N (ds.take n) (vs.take n)
 | [],l,hv,n=>by simp only[RVL] at hv;subst hv;simp;exact RVL.nil
 | x :: ds,l,hv,n=>by
  simp only[RVL] at hv
  obtain ⟨v,vs,rfl,h2,h3⟩:=hv
  cases n with
  | zero=>simp;exact RVL.nil
  | succ n=>simp;exact RVL.cons h2 (h3.take n)
theorem RVL.drop:∀ {ds vs:List Value},RVL g h N ds vs→∀ n,RVL g h N (ds.drop n) (vs.drop n)
 | [],l,hv,n=>by simp only[RVL] at hv;subst hv;simp;exact RVL.nil
 | x :: ds,l,hv,n=>by
  simp only[RVL] at hv
  obtain ⟨v,vs,rfl,h2,h3⟩:=hv
  cases n with
  | zero=>simp;exact RVL.cons h2 h3
  | succ n=>simp;exact h3.drop n
theorem RVL.setFrom {ds vs es us:List Value} (h1:RVL g h N ds vs) (h2:RVL g h N es us) (off:Nat):RVL g h N (setFrom ds off es) (setFrom vs off us):=by
 unfold Ev.setFrom
 rw[h2.len]
 exact ((h1.take off).app h2).app (h1.drop _)
mutual
theorem RV.flat:∀ (d v:Value),flat d=true→RV g h N d v→v=d
 | .pointer none,v,_,hv=>by simp only[RV] at hv;exact hv.2
 | .pointer (some _),v,hf,_=>by simp[Ev.flat] at hf
 | .slice none n c,v,_,hv=>by simp only[RV] at hv;exact hv.2
 | .slice (some _) n c,v,hf,hv=>by simp[Ev.flat] at hf
 | .map none,v,_,hv=>by simp only[RV] at hv;exact hv.2
 | .map (some _),v,hf,hv=>by simp[Ev.flat] at hf
 | .chan _,v,hf,hv=>by simp[Ev.flat] at hf
 | .func (.func f) ⟨fs⟩ ⟨cs⟩,v,hf,hv=>by
  simp only[RV] at hv
  simp only[Ev.flat,Bool.and_eq_true] at hf
  obtain ⟨us,vs,h1,h2,h3⟩:=hv
  rw[RVL.flat fs us hf.1 h2,RVL.flat cs vs hf.2 h3] at h1
  exact h1
 | .func (.yield l) ⟨fs⟩ ⟨cs⟩,v,hf,hv=>by simp[Ev.flat] at hf
 | .func (.method _) _ _,v,hf,hv=>by simp[Ev.flat] at hf
 | .func (.methodOf _ _) _ _,v,hf,hv=>by simp[Ev.flat] at hf
 | .func (.via _ _ _ _) _ _,v,hf,hv=>by simp[Ev.flat] at hf
 | .iface t d,v,hf,hv=>by
  simp only[RV] at hv
  obtain ⟨u,h1,h2⟩:=hv
  simp only[Ev.flat] at hf
  rw[RV.flat d u hf h2] at h1
  exact h1
 | .agg ⟨ds⟩,v,hf,hv=>by
  simp only[RV] at hv
  obtain ⟨vs,h1,h2⟩:=hv
  simp only[Ev.flat] at hf
  rw[RVL.flat ds vs hf h2] at h1
  exact h1
 | .tuple ⟨ds⟩,v,hf,hv=>by
  simp only[RV] at hv
  obtain ⟨vs,h1,h2⟩:=hv
  simp only[Ev.flat] at hf
  rw[RVL.flat ds vs hf h2] at h1
  exact h1
 | .bool b,v,_,hv=>by simp only[RV] at hv;exact hv
 | .int k n,v,_,hv=>by simp only[RV] at hv;exact hv
 | .float k n,v,hf,hv=>by simp[Ev.flat] at hf
 | .complex k a b,v,_,hv=>by simp only[RV] at hv;exact hv
 | .string s,v,_,hv=>by simp only[RV] at hv;exact hv
 | .nilFunc,v,_,hv=>by simp only[RV] at hv;exact hv
 | .nilIface,v,_,hv=>by simp only[RV] at hv;exact hv
theorem RVL.flat:∀ (ds vs:List Value),jT ds=true→RVL g h N ds vs→vs=ds
 | [],l,_,hv=>by simp only[RVL] at hv;exact hv
 | d :: ds,l,hf,hv=>by
  simp only[RVL] at hv
  obtain ⟨v,vs,h1,h2,h3⟩:=hv
  simp only[jT,Bool.and_eq_true] at hf
  rw[RV.flat d v hf.1 h2,RVL.flat ds vs hf.2 h3] at h1
  exact h1
end
mutual
theorem RV.of_flat:∀ (d:Value),Ev.flat d=true→RV g h N d d
 | .pointer none,_=>by simp only[RV];exact ⟨by rw[qN];rfl,rfl⟩
 | .pointer (some _),hf=>by simp[Ev.flat] at hf
 | .slice none n c,_=>by simp only[RV];exact ⟨by rw[qN];rfl,rfl⟩
 | .slice (some _) n c,hf=>by simp[Ev.flat] at hf
 | .map none,_=>by simp only[RV];exact ⟨fun i hi=>(by cases hi),rfl⟩
 | .map (some _),hf=>by simp[Ev.flat] at hf
 | .chan _,hf=>by simp[Ev.flat] at hf
 | .func (.func f) ⟨fs⟩ ⟨cs⟩,hf=>by
  simp only[RV]
  simp only[Ev.flat,Bool.and_eq_true] at hf
  exact ⟨fs,cs,rfl,RVL.of_flat fs hf.1,RVL.of_flat cs hf.2⟩
 | .func (.yield l) ⟨fs⟩ ⟨cs⟩,hf=>by simp[Ev.flat] at hf
 | .func (.method _) _ _,hf=>by simp[Ev.flat] at hf
 | .func (.methodOf _ _) _ _,hf=>by simp[Ev.flat] at hf
 | .func (.via _ _ _ _) _ _,hf=>by simp[Ev.flat] at hf
 | .iface t d,hf=>by
  simp only[RV]
  simp only[Ev.flat] at hf
  exact ⟨d,rfl,RV.of_flat d hf⟩
 | .agg ⟨ds⟩,hf=>by
  simp only[RV]
  simp only[Ev.flat] at hf
  exact ⟨ds,rfl,RVL.of_flat ds hf⟩
 | .tuple ⟨ds⟩,hf=>by
  simp only[RV]
  simp only[Ev.flat] at hf
  exact ⟨ds,rfl,RVL.of_flat ds hf⟩
 | .bool b,_=>by simp only[RV]
 | .int k n,_=>by simp only[RV]
 | .float k n,hf=>by simp[Ev.flat] at hf
 | .complex k a b,_=>by simp only[RV]
 | .string s,_=>by simp only[RV]
 | .nilFunc,_=>by simp only[RV]
 | .nilIface,_=>by simp only[RV]
theorem RVL.of_flat:∀ (ds:List Value),jT ds=true→RVL g h N ds ds
 | [],_=>RVL.nil
 | d :: ds,hf=>by
  simp only[jT,Bool.and_eq_true] at hf
  exact RVL.cons (RV.of_flat d hf.1) (RVL.of_flat ds hf.2)
end
theorem oG0 {δ:Nat→Nat} {n:Nat} (hd:∀ i,i<N→δ i<n) {a:Option Addr} (ha:fscP N a=true):fscP n (a.map (ren δ))=true:=by
 cases a with
 | none=>exact ha
 | some a=>
  rw[qN] at ha ⊢
  simp only[Option.map_some,sc,scA,ren,Bool.and_eq_true,Nat.blt_eq] at ha ⊢
  exact hd _ ha
theorem RowP.sc (hd:∀ i,i<N→g.δ i<h.next) {l:Nat} {fs vs:List Value} {v:Value} (hp:RowP g h N l fs vs v):sc h.next v=true:=by
 unfold RowP at hp
 split at hp
 ·obtain ⟨h1,h2,rfl⟩:=hp
  simp[Ev.sc,scL,hd l h2]
 ·obtain ⟨b,o,rfl,h2,h3⟩:=hp
  have:=(h2.2 b ⟨o,none,rfl⟩).1
  simp[Ev.sc,scA,this]
 ·obtain ⟨a,c,size,rfl,h2,_⟩:=hp
  cases a with
  | none=>rfl
  | some a=>
   obtain ⟨b,o,s⟩:=a
   have:=(h2.2 b ⟨o,s,rfl⟩).1
   simp[Ev.sc,scA,this]
 ·exact hp.elim
mutual
theorem RV.sc (hd:∀ i,i<N→g.δ i<h.next):∀ (d v:Value),RV g h N d v→sc h.next v=true
 | .pointer a,v,hv=>by simp only[RV] at hv;rw[hv.2,← qN];exact oG0 hd hv.1
 | .slice a n c,v,hv=>by
  simp only[RV] at hv
  have:=oG0 hd hv.1
  rw[qN] at this
  rw[hv.2]
  cases a<;>exact this
 | .map none,v,hv=>by simp only[RV] at hv;rw[hv.2];rfl
 | .map (some i),v,hv=>by
  simp only[RV] at hv
  rw[hv.2]
  simp[Ev.sc,hd i (hv.1 i rfl)]
 | .chan _,v,hv=>by simp only[RV] at hv
 | .func (.func f) ⟨fs⟩ ⟨cs⟩,v,hv=>by
  simp only[RV] at hv
  obtain ⟨us,vs,rfl,h2,h3⟩:=hv
  simp only[Ev.sc,Bool.and_eq_true]
  exact ⟨RVL.sc hd fs us h2,RVL.sc hd cs vs h3⟩
 | .func (.yield l) ⟨fs⟩ ⟨cs⟩,v,hv=>by
  simp only[RV] at hv
  obtain ⟨vs,_,h2⟩:=hv
  exact h2.sc hd
 | .func (.method _) _ _,v,hv=>by simp only[RV] at hv
 | .func (.methodOf _ _) _ _,v,hv=>by simp only[RV] at hv
 | .func (.via _ _ _ _) _ _,v,hv=>by simp only[RV] at hv
 | .iface t d,v,hv=>by
  simp only[RV] at hv
  obtain ⟨u,rfl,h2⟩:=hv
  simp only[Ev.sc]
  exact RV.sc hd d u h2
 | .agg ⟨ds⟩,v,hv=>by
  simp only[RV] at hv
  obtain ⟨vs,rfl,h2⟩:=hv
  simp only[Ev.sc]
  exact RVL.sc hd ds vs h2
 | .tuple ⟨ds⟩,v,hv=>by
  simp only[RV] at hv
  obtain ⟨vs,rfl,h2⟩:=hv
  simp only[Ev.sc]
  exact RVL.sc hd ds vs h2
 | .bool b,v,hv=>by simp only[RV] at hv;rw[hv];rfl
 | .int k n,v,hv=>by simp only[RV] at hv;rw[hv];rfl
 | .float k n,v,hv=>by simp only[RV] at hv;rw[hv];rfl
 | .complex k a b,v,hv=>by simp only[RV] at hv;rw[hv];rfl
 | .string s,v,hv=>by simp only[RV] at hv;rw[hv];rfl
 | .nilFunc,v,hv=>by simp only[RV] at hv;rw[hv];rfl
 | .nilIface,v,hv=>by simp only[RV] at hv;rw[hv];rfl
theorem RVL.sc (hd:∀ i,i<N→g.δ i<h.next):∀ (ds vs:List Value),RVL g h N ds vs→scL h.next vs=true
 | [],l,hv=>by simp only[RVL] at hv;subst hv;rfl
 | d :: ds,l,hv=>by
  simp only[RVL] at hv
  obtain ⟨v,vs,rfl,h2,h3⟩:=hv
  simp only[scL,RV.sc hd d v h2,RVL.sc hd ds vs h3,Bool.and_self]
end
theorem RV.one {d v:Value} (hv:RV g h N d v):one v=one d:=by
 cases d with
 | func f fs cs=>
  obtain ⟨fs⟩:=fs
  obtain ⟨cs⟩:=cs
  cases f with
  | func f=>simp only[RV] at hv;obtain ⟨us,vs,rfl,_⟩:=hv;rfl
  | yield l=>
   simp only[RV] at hv
   obtain ⟨vs,_,h2⟩:=hv
   unfold RowP at h2
   split at h2
   ·obtain ⟨_,_,rfl⟩:=h2;rfl
   ·obtain ⟨b,o,rfl,_⟩:=h2;rfl
   ·obtain ⟨a,c,size,rfl,_⟩:=h2;rfl
   ·exact h2.elim
  | _=>simp only[RV] at hv
 | agg ds=>obtain ⟨ds⟩:=ds;simp only[RV] at hv;obtain ⟨vs,rfl,_⟩:=hv;rfl
 | tuple ds=>obtain ⟨ds⟩:=ds;simp only[RV] at hv;obtain ⟨vs,rfl,_⟩:=hv;rfl
 | iface t d=>simp only[RV] at hv;obtain ⟨u,rfl,_⟩:=hv;rfl
 | chan _=>simp only[RV] at hv
 | pointer a=>simp only[RV] at hv;rw[hv.2];rfl
 | slice a n c=>simp only[RV] at hv;rw[hv.2];rfl
 | map a=>simp only[RV] at hv;rw[hv.2];rfl
 | _=>simp only[RV] at hv;rw[hv]
theorem RV.bool {d v:Value} (hv:RV g h N d v) (b:Bool):v=.bool b↔d=.bool b:=by
 cases d with
 | func f fs cs=>
  obtain ⟨fs⟩:=fs
  obtain ⟨cs⟩:=cs
  cases f with
  | func f=>simp only[RV] at hv;obtain ⟨us,vs,rfl,_⟩:=hv;simp
  | yield l=>
   simp only[RV] at hv
   obtain ⟨vs,_,h2⟩:=hv
   unfold RowP at h2
   split at h2
   ·obtain ⟨_,_,rfl⟩:=h2;simp
   ·obtain ⟨b,o,rfl,_⟩:=h2;simp
   ·obtain ⟨a,c,size,rfl,_⟩:=h2;simp
   ·exact h2.elim
  | _=>simp only[RV] at hv
 | agg ds=>obtain ⟨ds⟩:=ds;simp only[RV] at hv;obtain ⟨vs,rfl,_⟩:=hv;simp
 | tuple ds=>obtain ⟨ds⟩:=ds;simp only[RV] at hv;obtain ⟨vs,rfl,_⟩:=hv;simp
 | iface t d=>simp only[RV] at hv;obtain ⟨u,rfl,_⟩:=hv;simp
 | chan _=>simp only[RV] at hv
 | pointer a=>simp only[RV] at hv;rw[hv.2];simp
 | slice a n c=>simp only[RV] at hv;rw[hv.2];simp
 | map a=>simp only[RV] at hv;rw[hv.2];simp
 | _=>simp only[RV] at hv;rw[hv]
theorem RV.cells {d v:Value} (hv:RV g h N d v):RVL g h N d.cells.toList v.cells.toList:=by
 have h1:=hv.one
 cases d with
 | agg ds=>obtain ⟨ds⟩:=ds;simp only[RV] at hv;obtain ⟨vs,rfl,h2⟩:=hv;exact h2
 | _=>
  cases v with
  | agg vs=>
   exfalso
   first
   | (simp[Ev.one] at h1;done)
   | (obtain ⟨vs⟩ := vs
      simp only[RV] at hv
      first
      | exact hv
      | (cases hv;done)
      | (obtain ⟨_,e,_⟩:=hv;cases e))
  | _=>exact RVL.one hv
theorem RV.int {k:IntKind} {n:Int} {v:Value} (hv:RV g h N (.int k n) v):v=.int k n:=by simpa only [RV] using hv
theorem RV.boolE {b:Bool} {v:Value} (hv:RV g h N (.bool b) v):v=.bool b:=by simpa only [RV] using hv
theorem RV.str {s:ByteArray} {v:Value} (hv:RV g h N (.string s) v):v=.string s:=by simpa only [RV] using hv
theorem RV.row {f:Bool} {e n:Nat} {cs:List Value} {v:Value} (hv:RV g h N (Rw f e n cs) v):∃ a c size vs,v=.slice a n c∧RVL g h N cs vs∧Fz g h a vs∧(f=true→c=n)∧0<size∧vs.length=n*size∧jM1 g.P h a n c size e:=by
 unfold Rw at hv
 simp only[RV] at hv
 obtain ⟨vs,h1,h2⟩:=hv
 obtain ⟨a,c,size,h3,h4⟩:=h2
 exact ⟨a,c,size,vs,h3,h1,h4⟩
theorem RV.mkRow {f:Bool} {e n c size:Nat} {cs vs:List Value} {a:Option Addr} (h1:RVL g h N cs vs) (h2:Fz g h a vs) (h3:f=true→c=n) (h4:0<size) (h5:vs.length=n*size) (h6:jM1 g.P h a n c size e):RV g h N (Rw f e n cs) (.slice a n c):=by
 unfold Rw
 simp only[RV]
 exact ⟨vs,h1,a,c,size,rfl,h2,h3,h4,h5,h6⟩
theorem RV.mkRpt {off b o:Nat} {cs vs:List Value} (h1:RVL g h N cs vs) (h2:Fz g h (some ⟨b,o,none⟩) vs) (h3:off<vs.length):RV g h N (Rpt off cs) (.pointer (some ⟨b,o+off,none⟩)):=by
 unfold Rpt
 simp only[RV]
 exact ⟨vs,h1,b,o,rfl,h2,h3⟩
end
end Go.Dv
namespace Go.Dv
open Go Go.RowKit Go.Ev
noncomputable section
def ObjR (g:Gh) (h:jA) (N:Nat) (o:Prop) (b:Nat):qH→Prop
 | ⟨.cells ⟨ds⟩ e _,m⟩=>∃ vs e',cells h b=some (vs,e',m)∧(o→e'=e)∧RVL g h N ds vs∧ds.all one=true
 | ⟨.loop r,m⟩=>∃ us,h.get b=some ⟨.loop { r with tmps:=⟨us⟩,defers:=g.δ r.defers },m⟩∧r.defers<N∧RVL g h N r.tmps.toList us
 | ⟨.pending ⟨ds⟩ e,m⟩=>∃ vs,h.get b=some ⟨.pending ⟨vs⟩ e,m⟩∧RVL g h N ds vs
 | x=>h.get b=some x
def uH (σ:jA) (i:Nat):Prop:=σ.lo≤i∧i<σ.next∧(σ.get i).isSome=true
structure Rel (g:Gh) (σ h:jA):Prop where
 pos:0<σ.lo
 lo:σ.lo=g.H0.next∧g.H0.lo=g.H0.next
 lon:σ.lo≤σ.next
 hlo:h.lo≤h.next
 base:∀ i,i<σ.lo→σ.get i=g.H0.get i
 baseF:∀ i x,i<σ.lo→σ.get i=some x→∃ ds e fr,x=⟨.cells ⟨ds⟩ e fr,false⟩∧jT ds=true
 baseD:∀ i,i<σ.lo→g.δ i=i∧(i<h.lo∨σ.get i=none)
 obj:∀ i x,i<σ.next→σ.get i=some x→ObjR g h σ.next (σ.lo≤i) (g.δ i) x
 dlt:∀ i,i<σ.next→g.δ i<h.next
 dlo:∀ i,uH σ i→h.lo≤g.δ i
 inj:∀ i j,uH σ i→uH σ j→g.δ i=g.δ j→i=j
 frz:∀ b,g.F b→b<h.next∧∀ i,uH σ i→g.δ i≠b
 wf:∀ b,h.next≤b→h.get b=none
structure Tms (g:Gh) (h:jA) (N:Nat) (D T:VT):Prop where
 sz:T.sz=D.sz
 sU:D.sz<U
 get:∀ i,RV g h N (D.get i) (T.get i)
theorem RV.undef {g:Gh} {h:jA} {N:Nat}:RV g h N undef undef:=RV.of_flat _ rfl
theorem VT.get_set {T:VT} (hU:T.sz<U) (i:Nat) (v:Value) (j:Nat):(T.set i v).get j=if i=j then (if i<T.sz then v else undef) else T.get j:=by
 have hU':(T.set i v).sz<U:=by rw[VT.set_sz];exact hU
 rw[← VT.arr_getD,VT.arr_set _ hU,Array.getD_eq_getD_getElem?,Array.getElem?_setIfInBounds,VT.arr_size]
 by_cases h:i=j
 ·rw[if_pos h,if_pos h]
  split<;>rfl
 ·rw[if_neg h,if_neg h,← VT.arr_getD,Array.getD_eq_getD_getElem?]
theorem Tms.set {g:Gh} {h:jA} {N:Nat} {D T:VT} (ht:Tms g h N D T) (i:Nat) {d v:Value} (hv:RV g h N d v):Tms g h N (D.set i d) (T.set i v):=by
 refine ⟨by rw[VT.set_sz,VT.set_sz];exact ht.sz,by rw[VT.set_sz];exact ht.sU,fun j=>?_⟩
 rw[VT.get_set ht.sU,VT.get_set (by rw[ht.sz];exact ht.sU),ht.sz]
 split
 ·split
  ·exact hv
  ·exact RV.undef
 ·exact ht.get j
theorem Tms.put {g:Gh} {h:jA} {N:Nat} {D T:VT} (ht:Tms g h N D T) (x:Option Nat) {d v:Value} (hv:RV g h N d v):Tms g h N (put D x d) (put T x v):=by
 cases x with
 | none=>exact ht
 | some i=>exact ht.set i hv
theorem Tms.ext {g g':Gh} {h h':jA} {N N':Nat} (x:Ext0 g h N g' h' N') {D T:VT} (ht:Tms g h N D T):Tms g' h' N' D T:=⟨ht.sz,ht.sU,fun i=>(ht.get i).ext x⟩
theorem qD0 {g:Gh} {σ h:jA} (hr:Rel g σ h) {D T:VT} (ht:Tms g h σ.next D T) {NG:Nat} (hNG:NG≤σ.lo) {o:Operand} (ho:uE NG o=true):RV g h σ.next (ev D o) (ev T o):=by
 cases o with
 | tmp t=>exact ht.get t
 | const v=>exact RV.of_flat v ho
 | global i=>
  have hi:i<NG:=by simpa[uE] using ho
  have h1:=(hr.baseD i (by omega)).1
  show RV g h σ.next (evG i) (evG i)
  unfold evG
  simp only[RV,Option.map_some,ren,h1]
  exact ⟨by rw[qN];simp[sc,scA];have:=hr.lon;omega,trivial⟩
 | func f=>
  show RV g h σ.next (evF f) (evF f)
  exact RV.of_flat _ rfl
def lnD (b:Option Bool) (v:Value):Option Value:=match v with
 | .func (.yield _) ⟨[.int _ (.ofNat n),.int _ (.ofNat _),.bool _]⟩ _=>match b with | some false=>some (.int .i64 (Int.ofNat n)) | _=>none
 | v=>lnB b v
def faD (o:Option Nat) (v:Value):Option Value:=match v with
 | .func (.yield _) ⟨[.int _ (.ofNat off)]⟩ ⟨cs⟩=>match o with | some o=>if off+o<cs.length then some (Rpt (off+o) cs) else none | none=>none
 | v=>faV o v
def iaD (z:Option (Option Nat×Nat)) (x i:Value):Option Value:=match x with
 | .func (.yield _) ⟨[.int _ (.ofNat n),.int _ (.ofNat _),.bool _]⟩ ⟨cs⟩=>match z,i with
  | some (none,k),.int _ i=>if 0≤i∧i<n∧i.toNat*k<cs.length∧cs.length=n*k then some (Rpt (i.toNat*k) cs) else none
  | _,_=>none
 | x=>iaV z x i
def ncD (v:Value):Option Value:=match v with
 | .func (.yield _) ⟨[.int _ (.ofNat _)]⟩ ⟨_⟩=>some v
 | v=>ncV v
def tpD (P:Program) (o:Op) (t:TypeId) (tm:VT):Option Value:=match o with
 | .fieldAddr s x f=>faD (fld P s f) (ev tm x)
 | .indexAddr s x i=>iaD (esz P s) (ev tm x) (ev tm i)
 | .call ⟨.builtin .len,⟨[x]⟩,⟨[ty]⟩⟩=>lnD (lnT P ty) (ev tm x)
 | .nilCheck x=>ncD (ev tm x)
 | o=>tp P o t tm
theorem lL0 {P:Program} {s s':Sem Value} {b b':Bool} {d:Value} (hs:b=true→s'=s∧b'=true) (he:pvF P s b=some d):pvF P s' b'=some d∧flat d=true:=by
 cases b with
 | false=>cases he
 | true=>
  obtain ⟨rfl,rfl⟩:=hs rfl
  exact ⟨he,(uR he).2.1⟩
section
variable {g:Gh} {h:jA} {N:Nat}
theorem uK0 (δ:Nat→Nat) (a:Option Addr):(a.map (ren δ)).isNone=a.isNone:=by cases a<;>rfl
theorem jL2 {P:Program} {op:BinOp} {t:TypeId} {x y:Operand} {a b a' b' d:Value} (ha:RV g h N a a') (hb:RV g h N b b') (he:jE P op t x y a b=some d):jE P op t x y a' b'=some d∧flat d=true:=by
 have hfl:=kT0 he
 refine ⟨?_,hfl⟩
 unfold jE at he
 split at he
 ·rw[ha.str,hb.str];exact he
 ·rw[ha.str,hb.str];exact he
 ·simp only[RV] at ha hb
  rw[ha.2,hb.2]
  show (match P.underlying t with|some (.slice _)=>some (Value.bool (Option.map (ren g.δ) _).isNone)|_=>none)=_
  rw[uK0]
  exact he
 ·simp only[RV] at ha hb
  rw[ha.2,hb.2]
  show (match P.underlying t with|some (.slice _)=>some (Value.bool (!(Option.map (ren g.δ) _).isNone))|_=>none)=_
  rw[uK0]
  exact he
 ·simp only[RV] at ha hb
  rw[ha.2,hb.2]
  show (match P.underlying t with|some (.pointer _)=>some (Value.bool (Option.map (ren g.δ) _).isNone)|_=>none)=_
  rw[uK0]
  exact he
 ·simp only[RV] at ha hb
  rw[ha.2,hb.2]
  show (match P.underlying t with|some (.pointer _)=>some (Value.bool (!(Option.map (ren g.δ) _).isNone))|_=>none)=_
  rw[uK0]
  exact he
 ·have hf : flat a = true ∧ flat b = true := by
   cases hfa:flat a&&flat b with
   | false=>rw[hfa] at he;cases he
   | true=>simpa using hfa
  have h1:=ha.flat a a' hf.1
  have h2:=hb.flat b b' hf.2
  subst h1 h2
  rename_i q1 q2 q3 q4 q5 q6
  unfold jE
  split<;>first|exact absurd rfl (by first|exact q1 _ _|exact q2 _ _ )|(exfalso;first|exact q1 _ _ rfl rfl rfl|exact q2 _ _ rfl rfl rfl|exact q3 _ _ _ _ _ rfl rfl rfl|exact q4 _ _ _ _ _ rfl rfl rfl|exact q5 _ rfl rfl rfl|exact q6 _ rfl rfl rfl)|exact he
theorem wT0 {b:Bool} {n off:Nat} {ds vs:List Value} {d:Value} (hv:RVL g h N ds vs) (he:uW b n ds off=some d):∃ v,uW b n vs off=some v∧RV g h N d v:=by
 cases b with
 | true=>
  simp only[uW] at he ⊢
  split at he<;>cases he
  rename_i hle
  rw[if_pos (by rw[hv.len];exact hle)]
  refine ⟨_,rfl,?_⟩
  simp only[RV]
  exact ⟨_,rfl,(hv.drop off).take n⟩
 | false=>exact hv.get he
theorem dU0 {pl:List (Nat×Nat)}:∀ {ps ps':List (Nat×Value)} {cs cs' ds:List Value},RVL g h N cs cs'→ps.map (·.1)=ps'.map (·.1)→RVL g h N (ps.map (·.2)) (ps'.map (·.2))→kV pl cs ps=some ds→∃ vs,kV pl cs' ps'=some vs∧RVL g h N ds vs
 | [],[],cs,cs',ds,hc,_,_,he=>by simp only[kV] at he ⊢;cases he;exact ⟨_,rfl,hc⟩
 | [],_ :: _,_,_,_,_,h1,_,_=>by simp at h1
 | _ :: _,[],_,_,_,_,h1,_,_=>by simp at h1
 | (i,d) :: ps,(j,v) :: ps',cs,cs',ds,hc,h1,h2,he=>by
  simp only[List.map_cons,List.cons.injEq] at h1
  obtain ⟨rfl,h1⟩:=h1
  simp only[List.map_cons] at h2
  obtain ⟨h3,h4⟩:=h2.inv
  simp only[kV] at he ⊢
  split at he
  ·rename_i off n hpl
   split at he
   ·rename_i hcond
    have hcl:=h3.cells
    rw[if_pos ⟨by rw[hcl.len];exact hcond.1,by rw[hc.len];exact hcond.2⟩]
    exact dU0 (hc.setFrom hcl off) h1 h4 he
   ·cases he
  ·cases he
theorem RVL.map_ev {σ:jA} (hr:Rel g σ h) {D T:VT} (ht:Tms g h σ.next D T) {NG:Nat} (hNG:NG≤σ.lo):∀ (l:List Operand),(∀ x∈l,uE NG x=true)→RVL g h σ.next (l.map (ev D)) (l.map (ev T))
 | [],_=>RVL.nil
 | x :: l,ho=>RVL.cons (qD0 hr ht hNG (ho x (List.mem_cons_self ..))) (RVL.map_ev hr ht hNG l fun y hy=>ho y (List.mem_cons_of_mem _ hy))
theorem tK1 {o:Option Nat} {d v u:Value} (hv:RV g h N d v) (he:faV o d=some u):∃ w,faV o v=some w∧RV g h N u w:=by
 unfold faV at he
 split at he<;>cases he
 rename_i o a
 simp only[RV] at hv
 rw[hv.2]
 refine ⟨_,rfl,?_⟩
 simp only[RV,Option.map_some,dB0]
 refine ⟨?_,trivial⟩
 rw[qN] at hv ⊢
 exact qO0 hv.1
theorem tL1 {o:Option Nat} {d v u:Value} (hv:RV g h N d v) (he:faD o d=some u):∃ w,faV o v=some w∧RV g h N u w:=by
 unfold faD at he
 split at he
 ·rename_i l k off cs
  split at he
  ·rename_i o
   split at he<;>cases he
   rename_i hlt
   simp only[RV] at hv
   obtain ⟨vs,h1,b,oo,rfl,h3,h4⟩:=hv
   refine ⟨_,rfl,?_⟩
   have:=RV.mkRpt (off:=off+o) h1 h3 (by rw[h1.len];exact hlt)
   rw[addr_add,show oo+off+o=oo+(off+o) by omega]
   exact this
  ·cases he
 ·exact tK1 hv he
theorem sU1 {z:Option (Option Nat×Nat)} {d v i j u:Value} (hv:RV g h N d v) (hi:RV g h N i j) (he:iaV z d i=some u):∃ w,iaV z v j=some w∧RV g h N u w:=by
 unfold iaV at he
 split at he
 ·rename_i n a len c k i
  split at he<;>cases he
  rename_i hc
  simp only[RV] at hv
  rw[hv.2,hi.int]
  refine ⟨.pointer (some ((ren g.δ a).add (i.toNat*n))),if_pos hc,?_⟩
  simp only[RV,Option.map_some,dB0]
  refine ⟨?_,trivial⟩
  rw[qN] at hv ⊢
  exact qO0 hv.1
 ·rename_i len n a k i
  split at he<;>cases he
  rename_i hc
  simp only[RV] at hv
  rw[hv.2,hi.int]
  refine ⟨.pointer (some ((ren g.δ a).add (i.toNat*n))),if_pos hc,?_⟩
  simp only[RV,Option.map_some,dB0]
  refine ⟨?_,trivial⟩
  rw[qN] at hv ⊢
  exact qO0 hv.1
 ·cases he
theorem Fz.at {a:Option Addr} {vs:List Value} (hz:Fz g h a vs) (hne:vs≠[]):∃ b o,a=some ⟨b,o,none⟩:=by
 rcases hz.1 with h0|⟨b,off,full,e,m,ha,_⟩
 ·exact absurd h0.1 hne
 ·exact ⟨b,off,ha⟩
theorem sV1 {z:Option (Option Nat×Nat)} {d v i j u:Value} (hv:RV g h N d v) (hi:RV g h N i j) (he:iaD z d i=some u):∃ w,iaV z v j=some w∧RV g h N u w:=by
 unfold iaD at he
 split at he
 ·rename_i l k1 n k2 e f cs
  split at he
  ·rename_i q w k i
   split at he<;>cases he
   rename_i hc
   obtain ⟨c1,c2,c3,c4⟩:=hc
   simp only[RV] at hv
   obtain ⟨vs,h1,a,c,size,rfl,h3,h4⟩:=hv
   have hl:=h1.len
   obtain ⟨b,o,rfl⟩:=h3.at (fun e=>by rw[e] at hl;simp at hl;omega)
   rw[hi.int]
   refine ⟨.pointer (some ((⟨b,o,none⟩:Addr).add (i.toNat*w))),if_pos ⟨c1,c2⟩,?_⟩
   rw[addr_add]
   exact RV.mkRpt h1 h3 (by rw[hl];exact c3)
  ·cases he
 ·exact sU1 hv hi he
theorem sG1 {b:Option Bool} {d v u:Value} (hv:RV g h N d v) (he:lnB b d=some u):lnB b v=some u∧flat u=true:=by
 unfold lnB at he
 split at he
 ·cases he;rw[hv.str];exact ⟨rfl,rfl⟩
 ·cases he;simp only[RV] at hv;rw[hv.2];exact ⟨rfl,rfl⟩
 ·cases he
theorem sF1 {b:Option Bool} {d v u:Value} (hv:RV g h N d v) (he:lnD b d=some u):lnB b v=some u∧flat u=true:=by
 unfold lnD at he
 split at he
 ·split at he<;>cases he
  simp only[RV] at hv
  obtain ⟨vs,_,a,c,size,rfl,_⟩:=hv
  exact ⟨rfl,rfl⟩
 ·exact sG1 hv he
theorem sD1 {c c' d:Value} (hc:RV g h N c c') (he:ncD c=some d):∃ v,ncV c'=some v∧RV g h N d v:=by
 unfold ncD at he
 split at he
 ·cases he
  have hc2:=hc
  simp only[RV] at hc2
  obtain ⟨vs,_,h2⟩:=hc2
  unfold RowP at h2
  obtain ⟨b,o,rfl,_⟩:=h2
  exact ⟨_,rfl,hc⟩
 ·unfold ncV at he
  split at he<;>cases he
  ·rename_i a _
   refine ⟨c',?_,hc⟩
   simp only[RV] at hc
   rw[hc.2];rfl
  ·rename_i f fs cs _
   obtain ⟨fs⟩:=fs
   obtain ⟨cs⟩:=cs
   refine ⟨c',?_,hc⟩
   simp only[RV] at hc
   obtain ⟨us,vs,h1,_⟩:=hc
   rw[h1];rfl
theorem lH1 {P:Program} {σ:jA} (hr:Rel g σ h) {D T:VT} (ht:Tms g h σ.next D T) {NG:Nat} (hNG:NG≤σ.lo) {o:Op} {t:TypeId} (ho:o.operands.all (uE NG)=true) {d:Value} (he:tpD P o t D=some d) :
  ∃ v,tp P o t T=some v∧RV g h σ.next d v:=by
 have hx:∀ x∈o.operands,RV g h σ.next (ev D x) (ev T x):=fun x hx=>qD0 hr ht hNG (by
  rw[Array.all_eq_true_iff_forall_mem] at ho;exact ho x hx)
 unfold tpD at he
 split at he
 ·rename_i s x f
  obtain ⟨w,h1,h2⟩:=tL1 (hx x (by simp[Op.operands])) he
  exact ⟨w,h1,h2⟩
 ·rename_i s x i
  obtain ⟨w,h1,h2⟩:=sV1 (hx x (by simp[Op.operands])) (hx i (by simp[Op.operands])) he
  exact ⟨w,h1,h2⟩
 ·rename_i x ty
  obtain ⟨h1,h2⟩:=sF1 (hx x (by simp[Op.operands,Call.operands])) he
  exact ⟨d,h1,RV.of_flat d h2⟩
 ·rename_i x
  exact sD1 (hx x (by simp[Op.operands])) he
 ·rename_i n1 n2 n3 n4
  unfold tp at he
  split at he
  ·rename_i x;cases he;exact ⟨_,rfl,hx x (by simp[Op.operands])⟩
  ·rename_i x;cases he;exact ⟨_,rfl,hx x (by simp[Op.operands])⟩
  ·rename_i c a b
   have hc:=hx c (by simp[Op.operands])
   unfold uZ0 at he
   split at he<;>cases he
   ·rename_i hcd
    rw[hcd] at hc
    exact ⟨_,by show uZ0 _ _ _=_;rw[hc.boolE];rfl,hx a (by simp[Op.operands])⟩
   ·rename_i hcd
    rw[hcd] at hc
    exact ⟨_,by show uZ0 _ _ _=_;rw[hc.boolE];rfl,hx b (by simp[Op.operands])⟩
  ·rename_i x i
   have hc:=hx x (by simp[Op.operands])
   unfold extV at he
   split at he
   ·rename_i ds hcd
    obtain ⟨ds⟩:=ds
    rw[hcd] at hc
    simp only[RV] at hc
    obtain ⟨vs,h1,h2⟩:=hc
    obtain ⟨v,h3,h4⟩:=h2.get (show ds[i]?=some d by simpa using he)
    exact ⟨v,by show extV _ _=_;rw[h1];simpa[extV] using h3,h4⟩
   ·cases he
  ·rename_i op ty x y q
   obtain ⟨h1,h2⟩:=jL2 (hx x (by simp[Op.operands])) (hx y (by simp[Op.operands])) he
   exact ⟨d,h1,RV.of_flat d h2⟩
  ·rename_i op ty x
   have hc:=hx x (by simp[Op.operands])
   obtain ⟨h1,h2⟩:=lL0 (s':=Op.unary op (ev T x)) (b':=flat (ev T x)) (fun hf=>by rw[hc.flat _ _ hf];exact ⟨rfl,hf⟩) he
   exact ⟨d,h1,RV.of_flat d h2⟩
  ·exact absurd rfl (n1 _ _ _)
  ·rename_i s x f
   have hc:=hx x (by simp[Op.operands])
   show ∃ v,fdV (fldT P s f) (ev T x)=some v∧_
   unfold fdV at he
   split at he
   ·rename_i b n off ds hf hcd
    obtain ⟨ds⟩:=ds
    rw[hcd] at hc
    simp only[RV] at hc
    obtain ⟨vs,h1,h2⟩:=hc
    rw[hf,h1]
    exact wT0 h2 he
   ·cases he
  ·exact absurd rfl (n2 _ _ _)
  ·rename_i s x i
   have hc:=hx x (by simp[Op.operands])
   have hi:=hx i (by simp[Op.operands])
   show ∃ v,ixV (ixT P s) (ev T x) (ev T i)=some v∧_
   unfold ixV at he
   split at he
   ·rename_i s k i hz hcd hid
    split at he<;>cases he
    rename_i hcond
    rw[hcd] at hc
    rw[hid] at hi
    rw[hz,hc.str,hi.int]
    exact ⟨_,if_pos hcond,RV.of_flat _ rfl⟩
   ·rename_i b n z len ds k i hz hcd hid
    obtain ⟨ds⟩:=ds
    split at he
    ·rename_i hcond
     rw[hcd] at hc
     rw[hid] at hi
     simp only[RV] at hc
     obtain ⟨vs,h1,h2⟩:=hc
     rw[hz,h1,hi.int]
     obtain ⟨v,h3,h4⟩:=wT0 h2 he
     exact ⟨v,(if_pos hcond).trans h3,h4⟩
    ·cases he
   ·cases he
  ·rename_i ty parts
   show ∃ v,bdV (plc P ty) _=some v∧_
   unfold bdV at he
   split at he
   ·rename_i pl cs hpl
    split at he<;>cases he
    rename_i cs' hf
    have hz:jT cs=true:=by
     unfold plc at hpl
     split at hpl
     ·cases hpl
     ·split at hpl
      ·cases hpl
      ·rename_i z _
       have hfz:flat z=true→jT z.cells.toList=true:=fun hfz=>by
        cases z with
        | agg cs=>obtain ⟨cs⟩:=cs;simpa[Ev.flat,Value.cells] using hfz
        | _=>simpa[jT,Value.cells] using hfz
       split at hpl
       ·rename_i hfl _
        split at hpl<;>cases hpl
        exact hfz hfl
       ·rename_i hfl _
        split at hpl<;>cases hpl
        exact hfz hfl
       ·cases hpl
    obtain ⟨vs,h1,h2⟩:=dU0 (ps':=parts.toList.map fun x=>(x.1,ev T x.2)) (RVL.of_flat cs hz) (by simp) (by
     have:=RVL.map_ev hr ht hNG (parts.toList.map (·.2)) fun x hxm=>by
      rw[Array.all_eq_true_iff_forall_mem] at ho
      refine ho x ?_
      obtain ⟨y,hy,rfl⟩:=List.mem_map.1 hxm
      simp only[Op.operands,List.mem_toArray,List.mem_map]
      exact ⟨y,hy,rfl⟩
     simpa[List.map_map,Function.comp_def] using this) hf
    rw[hpl]
    refine ⟨.agg ⟨vs⟩,by simp only[bdV,h1],?_⟩
    simp only[RV]
    exact ⟨vs,rfl,h2⟩
   ·cases he
  ·rename_i f fs cs
   cases he
   refine ⟨_,rfl,?_⟩
   simp only[RV]
   refine ⟨_,_,rfl,RVL.map_ev hr ht hNG _ fun x hxm=>?_,RVL.map_ev hr ht hNG _ fun x hxm=>?_⟩
   ·rw[Array.all_eq_true_iff_forall_mem] at ho
    exact ho x (by simp[Op.operands,Array.mem_toList_iff.1 hxm])
   ·rw[Array.all_eq_true_iff_forall_mem] at ho
    exact ho x (by simp[Op.operands,Array.mem_toList_iff.1 hxm])
  ·rename_i ty x
   have hc:=hx x (by simp[Op.operands])
   unfold miV at he
   split at he<;>cases he
   rename_i hI
   refine ⟨_,by show miV _ _ _=_;rw[hI];rfl,?_⟩
   simp only[RV]
   exact ⟨_,rfl,hc⟩
  ·exact absurd rfl (n4 _)
  ·exact absurd rfl (n3 _ _)
  ·rename_i args ts
   have hl:=RVL.map_ev hr ht hNG args.toList fun x hxm=>by
    rw[Array.all_eq_true_iff_forall_mem] at ho
    exact ho x (by simp[Op.operands,Call.operands,Array.mem_toList_iff.1 hxm])
   obtain ⟨h1,h2⟩:=lL0 (s':=Builtin.min_ ts t ⟨args.toList.map (ev T)⟩) (b':=jT (args.toList.map (ev T))) (fun hf=>by rw[RVL.flat _ _ hf hl];exact ⟨rfl,hf⟩) he
   exact ⟨d,h1,RV.of_flat d h2⟩
  ·rename_i args ts
   have hl:=RVL.map_ev hr ht hNG args.toList fun x hxm=>by
    rw[Array.all_eq_true_iff_forall_mem] at ho
    exact ho x (by simp[Op.operands,Call.operands,Array.mem_toList_iff.1 hxm])
   obtain ⟨h1,h2⟩:=lL0 (s':=Builtin.max_ ts t ⟨args.toList.map (ev T)⟩) (b':=jT (args.toList.map (ev T))) (fun hf=>by rw[RVL.flat _ _ hf hl];exact ⟨rfl,hf⟩) he
   exact ⟨d,h1,RV.of_flat d h2⟩
  ·cases he
end
def ldD (P:Program) (t:TypeId) (a:Value) (σ:jA):Option Value:=match a with
 | .func (.yield _) ⟨[.int _ (.ofNat off)]⟩ ⟨cs⟩=>match knd P t with | some (b,n)=>uW b n cs off | none=>none
 | a=>jJ P t a σ
def kA0 (f:Bool) (n h:Nat) (m:Option Nat):Bool:=match m with|some m=>Nat.beq m h|none=>f&&Nat.beq h n
def slR (z:Option (Option (TypeId×Nat))) (f:Bool) (e n:Nat) (cs:List Value) (lo hi mx:Option Value):Option Value:=match z with
 | some (some (e', size)) => if e' = e ∧ 0 < size ∧ cs.length = n * size then
   match bounds n n mx hi lo with
   | some (l,h,m)=>some (Rw (kA0 f n h m) e (h-l) ((cs.drop (l*size)).take ((h-l)*size)))
   | none=>none
  else none
 | _=>none
def slD (P:Program) (t:TypeId) (x:Value) (lo hi mx:Option Value) (σ:jA):Option Value:=match x with
 | .func (.yield _) ⟨[.int _ (.ofNat n),.int _ (.ofNat e),.bool f]⟩ ⟨cs⟩=>slR (slcT P t) f e n cs lo hi mx
 | x=>slV P t x lo hi mx σ
def cvD (P:Program) (s d:TypeId) (x:Value) (σ:jA):Option Value:=match x with
 | .func (.yield _) ⟨[.int _ (.ofNat n),.int _ (.ofNat e),.bool f]⟩ ⟨cs⟩=>match cnvT P s d with
  | some (1,_)=>if cs.length=n then match bytesOf cs with | some l=>some (.string ⟨⟨l⟩⟩) | none=>none else none
  | _=>none
 | x=>cvV P s d x σ
def tvD (P:Program) (o:Op) (t:TypeId) (tm:VT) (σ:jA):Option Value:=match o with
 | .load ty a=>ldD P ty (ev tm a) σ
 | .slice ty x lo hi mx=>slD P ty (ev tm x) (lo.map (ev tm)) (hi.map (ev tm)) (mx.map (ev tm)) σ
 | .convert s d x=>cvD P s d (ev tm x) σ
 | o=>tpD P o t tm
section
variable {g:Gh} {σ h:jA}
theorem Rel.cells' (hr:Rel g σ h) {i:Nat} {ds:List Value} {e:TypeId} {m:Bool} (hi:i<σ.next) (hc:Ev.cells σ i=some (ds,e,m)):∃ vs e',Ev.cells h (g.δ i)=some (vs,e',m)∧(σ.lo≤i∨m=true→e'=e)∧RVL g h σ.next ds vs:=by
 unfold Ev.cells at hc
 split at hc
 ·rename_i cs e' fr m' hg
  cases hc
  obtain ⟨vs,e',h1,h2,h3,_⟩:=hr.obj i _ hi hg
  refine ⟨vs,e',h1,fun ho=>?_,h3⟩
  rcases ho with ho|rfl
  ·exact h2 ho
  ·by_cases hlo:σ.lo≤i
   ·exact h2 hlo
   ·obtain ⟨_,_,_,h5,_⟩:=hr.baseF i _ (by omega) hg
    cases h5
 ·cases hc
theorem Rel.cells (hr:Rel g σ h) {i:Nat} {ds:List Value} {e:TypeId} {m:Bool} (hi:i<σ.next) (ho:σ.lo≤i∨m=true) (hc:Ev.cells σ i=some (ds,e,m)):∃ vs,Ev.cells h (g.δ i)=some (vs,e,m)∧RVL g h σ.next ds vs:=by
 obtain ⟨vs,e',h1,h2,h3⟩:=hr.cells' hi hc
 obtain rfl:=h2 ho
 exact ⟨vs,h1,h3⟩
theorem sc_p {N b off:Nat} (hs:fscP N (some ⟨b,off,none⟩)=true):b<N:=by
 rw[qN] at hs
 simpa[sc,scA] using hs
theorem cX0 {lo b:Nat} {v:Value} (hb:lo≤b):Ev.seen lo b v=some v:=by
 have:Nat.ble lo b=true:=by simpa using hb
 simp only[Ev.seen,this]
theorem qQ1 {lo b:Nat} {v:Value} (hv:sc lo v=true):Ev.seen lo b v=some v:=by
 unfold Ev.seen
 rw[kS1,hv]
 cases Nat.ble lo b<;>rfl
theorem sJ0 {b:Bool} {n off:Nat} {ds:List Value} {d:Value} (hl:jT ds=true) (he:uW b n ds off=some d):flat d=true:=by
 have hall:=zB0 hl
 have hof:∀ l:List Value,(∀ v∈l,flat v=true)→jT l=true:=by
  intro l
  induction l with
  | nil=>intro _;rfl
  | cons x l ih=>intro hx;simp only[jT,hx x (List.mem_cons_self ..),ih fun v hv=>hx v (List.mem_cons_of_mem _ hv),Bool.and_self]
 cases b with
 | true=>
  simp only[uW] at he
  split at he<;>cases he
  simp only[Ev.flat]
  exact hof _ fun v hv=>hall v (List.mem_of_mem_drop (List.mem_of_mem_take hv))
 | false=>exact hall d (List.mem_of_getElem? he)
theorem nY0 (hr:Rel g σ h) {P:Program} {t:TypeId} {a a' d:Value} (ha:RV g h σ.next a a') (he:jJ P t a σ=some d):∃ v,jJ P t a' h=some v∧RV g h σ.next d v:=by
 obtain ⟨b,off,rfl⟩:∃ b off,a=.pointer (some ⟨b,off,none⟩):=by
  unfold jJ at he
  split at he
  ·exact ⟨_,_,rfl⟩
  ·cases he
 simp only[RV,Option.map_some,ren] at ha
 obtain ⟨hs,rfl⟩:=ha
 have hb:=sc_p hs
 rw[zV0] at he ⊢
 cases hc:cells σ b with
 | none=>rw[hc] at he;simp[ldC] at he
 | some x=>
  obtain ⟨ds,e,m⟩:=x
  obtain ⟨vs,e',h1,_,h2⟩:=hr.cells' hb hc
  rw[hc] at he
  rw[h1]
  cases hk:knd P t with
  | none=>rw[hk] at he;simp[ldC] at he
  | some y=>
   obtain ⟨q,n⟩:=y
   rw[hk] at he
   simp only[ldC] at he ⊢
   cases hp:uW q n ds off with
   | none=>rw[hp] at he;cases he
   | some u=>
    rw[hp] at he
    obtain ⟨v,h3,h4⟩:=wT0 h2 hp
    rw[h3]
    dsimp only at he ⊢
    by_cases hlo:σ.lo≤b
    ·rw[cX0 hlo] at he
     cases he
     have hg:(σ.get b).isSome=true:=by
      unfold Ev.cells at hc
      split at hc
      ·rename_i hg;rw[hg];rfl
      ·cases hc
     exact ⟨v,cX0 (hr.dlo b ⟨hlo,hb,hg⟩),h4⟩
    ·have hu : u = d := by
      unfold Ev.seen at he
      cases hle:Nat.ble σ.lo b with
      | true=>simp at hle;omega
      | false=>
       rw[hle] at he
       cases hf:fsc σ.lo u with
       | true=>rw[hf] at he;simpa using he
       | false=>rw[hf] at he;simp at he
     subst hu
     have hfl:flat u=true:=by
      unfold Ev.cells at hc
      split at hc
      ·rename_i cs e' fr m' hg
       cases hc
       obtain ⟨ds',e'',fr',h5,h6⟩:=hr.baseF b _ (by omega) hg
       cases h5
       exact sJ0 h6 hp
      ·cases hc
     have:=h4.flat u v hfl
     subst this
     exact ⟨v,qQ1 (wR _ _ hfl),h4⟩
theorem Fz.part {a:Option Addr} {vs:List Value} (hz:Fz g h a vs) {P:Program} {t:TypeId} {q:Bool} {n:Nat} (hk:knd P t=some (q,n)) {off:Nat} {v:Value} (hp:uW q n vs off=some v) (hlt:off<vs.length) :
  ∃ b o,a=some ⟨b,o,none⟩∧jJ P t (.pointer (some ⟨b,o+off,none⟩)) h=some v:=by
 rcases hz.1 with h0|⟨b,o,full,e,m,rfl,h1,h2,h3,h4⟩
 ·rw[h0.1] at hlt;simp at hlt
 ·refine ⟨b,o,rfl,?_⟩
  rw[zV0,h1,hk]
  have hpf:uW q n full (o+off)=some v:=by
   cases q with
   | true=>
    simp only[uW] at hp ⊢
    split at hp<;>cases hp
    rename_i hle
    rw[if_pos (by omega)]
    congr 2
    rw[← h3,List.drop_take,List.drop_drop,List.take_take,Nat.min_eq_left (by omega)]
   | false=>
    simp only[uW] at hp ⊢
    rw[← h3,List.getElem?_take,if_pos hlt,List.getElem?_drop] at hp
    exact hp
  simp only[ldC,hpf]
  rcases h4 with h4|h4
  ·exact cX0 h4
  ·refine qQ1 ?_
   simp only[uS,Bool.and_eq_true] at h4
   cases q with
   | true=>
    simp only[uW] at hp
    split at hp<;>cases hp
    simp only[Ev.sc]
    exact qK fun u hu=>qP h4.2 u (List.mem_of_mem_drop (List.mem_of_mem_take hu))
   | false=>exact qP h4.2 v (List.mem_of_getElem? hp)
theorem lP0 (hr:Rel g σ h) {P:Program} {t:TypeId} {a a' d:Value} (ha:RV g h σ.next a a') (he:ldD P t a σ=some d):∃ v,jJ P t a' h=some v∧RV g h σ.next d v:=by
 unfold ldD at he
 split at he
 ·rename_i l k off cs
  split at he
  ·rename_i q n hk
   simp only[RV] at ha
   obtain ⟨vs,h1,b,o,rfl,h2,h3⟩:=ha
   obtain ⟨v,h4,h5⟩:=wT0 h1 he
   obtain ⟨b',o',e1,h6⟩:=h2.part hk h4 h3
   cases e1
   exact ⟨v,h6,h5⟩
  ·cases he
 ·exact nY0 hr ha he
theorem sY0 {n c:Nat} {mx hi lo:Option Value} {r:Nat×Nat×Option Nat} (hc:n≤c) (hb:bounds n n mx hi lo=some r):bounds n c mx hi lo=some r:=by
 unfold bounds at hb ⊢
 cases mx with
 | none=>
  dsimp only at hb ⊢
  cases hi with
  | none=>exact hb
  | some v=>
   cases v with
   | int k i=>
    cases i with
    | ofNat i=>
     dsimp only at hb ⊢
     cases hle:Nat.ble i n with
     | true=>
      rw[hle] at hb
      have:Nat.ble i c=true:=by simp at hle ⊢;omega
      rw[this];exact hb
     | false=>rw[hle] at hb;cases hb
    | negSucc i=>cases hb
   | _=>cases hb
 | some v=>
  cases v with
  | int k i=>
   cases i with
   | ofNat i=>
    dsimp only at hb ⊢
    cases hle:Nat.ble i n with
    | true=>
     rw[hle] at hb
     have:Nat.ble i c=true:=by simp at hle ⊢;omega
     rw[this]
     cases hi with
     | none=>exact hb
     | some v=>
      cases v with
      | int k i=>cases i<;>exact hb
      | _=>exact hb
    | false=>rw[hle] at hb;cases hb
   | negSucc i=>cases hb
  | _=>cases hb
theorem mN0 {n:Nat} {mx hi lo:Option Value} {l r:Nat} {m:Option Nat} (hb:bounds n n mx hi lo=some (l,r,m)):l≤r∧r≤n∧(∀ k,m=some k→r≤k∧k≤n)∧(m=none↔mx=none):=by
 unfold bounds at hb
 split at hb
 ·cases hb
 ·rename_i m0 hm0
  split at hb
  ·cases hb
  ·rename_i r0 hr0
   split at hb
   ·cases hb
   ·rename_i l0 hl0
    cases hb
    have h1:∀ k,m=some k→k≤n:=by
     intro k hk
     subst hk
     split at hm0
     ·cases hm0
     ·split at hm0<;>cases hm0
      rename_i hle
      simpa using hle
     ·cases hm0
    have h2:m=none↔mx=none:=by
     split at hm0
     ·cases hm0;simp
     ·split at hm0<;>cases hm0
      simp
     ·cases hm0
    have h3:r≤n∧∀ k,m=some k→r≤k:=by
     split at hr0
     ·cases hr0;exact ⟨Nat.le_refl _,fun k hk=>by cases hk⟩
     ·cases hr0
     ·split at hr0<;>cases hr0
      rename_i hle
      exact ⟨by simpa using hle,fun k hk=>by cases hk⟩
     ·rename_i _ _ k0
      split at hr0<;>cases hr0
      rename_i hle
      have hle':r≤k0:=by simpa using hle
      exact ⟨Nat.le_trans hle' (h1 k0 rfl),fun k hk=>by cases hk;exact hle'⟩
     ·cases hr0
    have h4:l≤r:=by
     split at hl0
     ·cases hl0;exact Nat.zero_le _
     ·split at hl0<;>cases hl0
      rename_i hle
      simpa using hle
     ·cases hl0
    exact ⟨h4,h3.1,fun k hk=>⟨h3.2 k hk,h1 k hk⟩,h2⟩
theorem Fz.sub {a:Option Addr} {vs:List Value} (hz:Fz g h a vs) (i k:Nat):Fz g h (a.map (·.add i)) ((vs.drop i).take k):=by
 refine ⟨hz.1.sub i k,fun b hb=>?_⟩
 obtain ⟨o,s,e⟩:=hb
 cases a with
 | none=>cases e
 | some a=>
  refine hz.2 b ?_
  simp only[Option.map_some,Option.some.injEq] at e
  refine ⟨a.off,a.spot,?_⟩
  have:(a.add i).block=a.block:=by unfold Addr.add;split<;>rfl
  rw[e] at this
  cases a
  simp only at this
  rw[this]
theorem Fz.nil {a:Option Addr} {vs:List Value} (hz:Fz g h a vs):Fz g h a []:=⟨Sl.nil _ hz.1.spot,hz.2⟩
theorem wL1 {a b s:Nat} (h:a≤b):a*s≤b*s:=Nat.mul_le_mul_right _ h
theorem sJ1 {vs:List Value} {n size l r:Nat} (hl:vs.length=n*size) (h1:l≤r) (h2:r≤n):((vs.drop (l*size)).take ((r-l)*size)).length=(r-l)*size:=by
 have h3:=wL1 (s:=size) h2
 have h4:(r-l)*size=r*size-l*size:=Nat.sub_mul ..
 rw[List.length_take,List.length_drop,hl]
 omega
theorem qO1 {P:Program} {t e size:Nat} (hz:slcT P t=some (some (e,size))):P.underlying t=some (.slice e)∧szT P e=some size:=by
 unfold slcT at hz
 split at hz
 ·cases hz
 ·rename_i e' hu
  split at hz<;>cases hz
  rename_i hs
  exact ⟨hu,hs⟩
 ·cases hz
theorem nP1 {P:Program} (hP:g.P=P) {N:Nat} {t:TypeId} {f:Bool} {e n:Nat} {cs:List Value} {lo hi mx:Option Value} {d v:Value} (hv:RV g h N (Rw f e n cs) v) (he:slR (slcT P t) f e n cs lo hi mx=some d) :
  (∃ u,slV P t v lo hi mx h=some u∧RV g h N d u)∨(slV P t v lo hi mx h=none∧∃ u1 u2,tailV P t v lo hi mx h=some (u1,u2)∧RV g h N d u1∧RV g h N d u2):=by
 obtain ⟨a,c,size,vs,rfl,h1,h2,h3,h4,h5,h6⟩:=hv.row
 unfold slR at he
 split at he
 ·rename_i e' sz hz
  split at he
  ·rename_i hcond
   obtain ⟨rfl,c2,c3⟩:=hcond
   obtain ⟨hu,hs⟩:=qO1 hz
   split at he
   ·rename_i l r m hb
    obtain ⟨b1,b2,b3,b4⟩:=mN0 hb
    simp only[Option.some.injEq] at he
    subst he
    have hl5:=h1.len
    have hsub:RVL g h N ((cs.drop (l*sz)).take ((r-l)*sz)) ((vs.drop (l*sz)).take ((r-l)*sz)):=(h1.drop _).take _
    have hln:=sJ1 (vs:=vs) (by rw[hl5];exact c3) b1 b2
    have hempty:r-l=0→(vs.drop (l*sz)).take ((r-l)*sz)=[]:=fun e=>by rw[e];simp
    rcases h6 with ⟨c4,c5⟩|⟨b,off,full,rfl,q1,q2,q3,q4,q5,q6⟩
    ·left
     have hb':=sY0 c5 hb
     have hsp:uB P t a n c lo hi mx=some (.slice (if m.getD c=l then a else a.map (·.add (l*sz))) (r-l) (m.getD c-l)):=by
      have c4':Nat.blt c UC=true:=by simpa using c4
      unfold uB
      rw[hu]
      simp only[hs,c4',hb']
      cases hbq:Nat.beq (m.getD c) l with
      | true=>simp at hbq;rw[if_pos hbq]
      | false=>
       have:¬ m.getD c=l:=fun e=>by rw[e] at hbq;simp at hbq
       rw[if_neg this]
     refine ⟨.slice (if m.getD c=l then a else a.map (·.add (l*sz))) (r-l) (m.getD c-l),by simp only[slV,hsp],?_⟩
     have hM:r≤m.getD c:=by
      cases m with
      | none=>simp;omega
      | some k=>exact (b3 k rfl).1
     have hMc:m.getD c≤c:=by
      cases m with
      | none=>simp
      | some k=>simp;have:=(b3 k rfl).2;omega
     refine RV.mkRow hsub ?_ (fun hf=>?_) c2 hln (.inl ⟨by omega,by omega⟩)
     ·split
      ·rename_i hml
       rw[hempty (by omega)]
       exact h2.nil
      ·exact h2.sub _ _
     ·cases m with
      | none=>
       simp only[kA0,Bool.and_eq_true,Nat.beq_eq] at hf
       have:=h3 hf.1
       simp only[Option.getD_none]
       omega
      | some k=>
       simp only[kA0,Nat.beq_eq] at hf
       simp only[Option.getD_some]
       omega
    ·have hff : f = false := by
      cases f with
      | false=>rfl
      | true=>
       have:=h3 rfl
       have:=U_UC
       omega
     have hc0:Nat.blt c UC=false:=by
      rw[Bool.eq_false_iff]
      simp;omega
     have hsp:uB P t (some ⟨b,off,none⟩) n c lo hi mx=none:=by
      unfold uB
      rw[hu]
      simp only[hs,hc0]
     have hsz:size=sz:=by rw[hP,hs] at q6;cases q6;rfl
     subst hsz
     have e2:(Nat.beq e' e'&&Nat.ble UC c&&Nat.beq off ((c-UC)*size)&&Nat.blt 0 size&&Nat.ble (off+n*size) full.length&&Nat.blt n U)=true:=by
      simp only[Bool.and_eq_true,Nat.beq_eq,Nat.ble_eq,Nat.blt_eq]
      exact ⟨⟨⟨⟨⟨trivial,q2⟩,q3⟩,c2⟩,q4⟩,q5⟩
     have hadd:(⟨b,off,none⟩:Addr).add (l*size)=⟨b,off+l*size,none⟩:=addr_add ..
     have hfs:=h2.sub (l*size) ((r-l)*size)
     rw[Option.map_some,hadd] at hfs
     cases m with
     | some k=>
      left
      obtain ⟨b5,b6⟩:=b3 k rfl
      have hsr:slV P t (.slice (some ⟨b,off,none⟩) n c) lo hi mx h=some (.slice (if k=l then some ⟨b,off,none⟩ else some ⟨b,off+l*size,none⟩) (r-l) (k-l)):=by
       simp only[slV,hsp,uA,hu,hs,q1,e2,hb]
       cases hbq:Nat.beq k l with
       | true=>simp at hbq;rw[if_pos hbq]
       | false=>
        have:¬ k=l:=fun e=>by rw[e] at hbq;simp at hbq
        rw[if_neg this,hadd]
      refine ⟨_,hsr,RV.mkRow hsub ?_ (fun hf=>?_) c2 hln (.inl ⟨by have:=U_UC;omega,by omega⟩)⟩
      ·split
       ·rw[hempty (by omega)];exact h2.nil
       ·exact hfs
      ·simp only[kA0,Nat.beq_eq] at hf
       omega
     | none=>
      by_cases hln':l<n
      ·left
       have hlt:Nat.blt l n=true:=by simpa using hln'
       have hsr:slV P t (.slice (some ⟨b,off,none⟩) n c) lo hi mx h=some (.slice (some ⟨b,off+l*size,none⟩) (r-l) (c+l)):=by
        simp only[slV,hsp,uA,hu,hs,q1,e2,hb,hlt,hadd]
       refine ⟨_,hsr,RV.mkRow hsub hfs (fun hf=>?_) c2 hln (.inr ⟨b,off+l*size,full,rfl,q1,by omega,?_,?_,by omega,q6⟩)⟩
       ·rw[hff] at hf;simp[kA0] at hf
       ·rw[show c+l-UC=(c-UC)+l by omega,Nat.add_mul,q3]
       ·have h7:=wL1 (s:=size) b2
        have h8:(r-l)*size=r*size-l*size:=Nat.sub_mul ..
        have h9:=wL1 (s:=size) b1
        omega
      ·right
       have hl0:l=n:=by omega
       have hr0:r=n:=by omega
       subst hl0
       have hlt:Nat.blt l l=false:=by rw[Bool.eq_false_iff];simp
       have hmx:mx=none:=b4.1 rfl
       subst hmx
       refine ⟨by simp only[slV,hsp,uA,hu,hs,q1,e2,hb,hlt],.slice (some ⟨b,off,none⟩) 0 0,.slice (some ⟨b,off+l*size,none⟩) 0 (c+l),?_,?_,?_⟩
       ·simp only[tailV,hu,q1,hs,hb]
        rw[if_pos ⟨trivial,q2,q3,c2,q4,trivial,hr0,q5⟩]
       ·have h0:r-l=0:=by omega
        rw[hempty h0] at hsub
        rw[h0] at hsub hln ⊢
        exact RV.mkRow hsub h2.nil (fun _=>rfl) c2 (by simp) (.inl ⟨cC0,Nat.le_refl _⟩)
       ·have h0:r-l=0:=by omega
        rw[hempty h0] at hsub hfs
        rw[h0] at hsub hln ⊢
        refine RV.mkRow hsub hfs (fun hf=>?_) c2 (by simp) (.inr ⟨b,off+l*size,full,rfl,q1,by omega,?_,by omega,by unfold U;omega,q6⟩)
        ·rw[hff] at hf;simp[kA0] at hf
        ·rw[show c+l-UC=(c-UC)+l by omega,Nat.add_mul,q3]
   ·cases he
  ·cases he
 ·cases he
end
section
variable {g:Gh} {σ h:jA}
def OV (g:Gh) (h:jA) (N:Nat) (a b:Option Value):Prop:=match a,b with
 | none,none=>True
 | some d,some v=>RV g h N d v
 | _,_=>False
theorem OV.eq {N:Nat} {a b:Option Value} (ho:OV g h N a b) (hi:∀ v,a=some v→(∃ k i,v=.int k i)∨flat v=true):b=a:=by
 cases a with
 | none=>cases b with | none=>rfl | some v=>exact ho.elim
 | some d=>cases b with
  | none=>exact ho.elim
  | some v=>
   rcases hi d rfl with ⟨k,i,rfl⟩|hf
   ·exact congrArg some (RV.int (g:=g) (h:=h) (N:=N) ho)
   ·exact congrArg some (RV.flat (g:=g) (h:=h) (N:=N) d v hf ho)
theorem OV.ev (hr:Rel g σ h) {D T:VT} (ht:Tms g h σ.next D T) {NG:Nat} (hNG:NG≤σ.lo) {o:Option Operand} (ho:∀ x,o=some x→uE NG x=true):OV g h σ.next (o.map (ev D)) (o.map (ev T)):=by
 cases o with
 | none=>trivial
 | some x=>exact qD0 hr ht hNG (ho x rfl)
theorem uP0 {n c:Nat} {mx hi lo:Option Value} {r:Nat×Nat×Option Nat} (hb:bounds n c mx hi lo=some r) :
  (∀ v,mx=some v→(∃ k i,v=.int k i)∨flat v=true)∧(∀ v,hi=some v→(∃ k i,v=.int k i)∨flat v=true)∧(∀ v,lo=some v→(∃ k i,v=.int k i)∨flat v=true):=by
 refine ⟨fun v hv=>?_,fun v hv=>?_,fun v hv=>?_⟩
 ·subst hv
  cases v with
  | int k i=>exact .inl ⟨_,_,rfl⟩
  | _=>exact absurd hb (by unfold bounds;intro hb;cases hb)
 ·subst hv
  cases v with
  | int k i=>exact .inl ⟨_,_,rfl⟩
  | _=>
   exfalso
   unfold bounds at hb
   split at hb
   ·cases hb
   ·rename_i m0 hm0
    cases m0<;>cases hb
 ·subst hv
  cases v with
  | int k i=>exact .inl ⟨_,_,rfl⟩
  | _=>
   exfalso
   unfold bounds at hb
   split at hb
   ·cases hb
   ·split at hb
    ·cases hb
    ·cases hb
theorem RV.slice0 {N n c:Nat} {a:Option Addr} (ha:fscP N a=true):RV g h N (.slice a n c) (.slice (a.map (ren g.δ)) n c):=by simp only[RV];exact ⟨ha,trivial⟩
theorem yI0 {N k:Nat} {a:Option Addr} (ha:fscP N a=true):fscP N (a.map (·.add k))=true:=by
 cases a with
 | none=>exact ha
 | some a=>
  rw[qN] at ha ⊢
  exact qO0 ha
theorem jV0 (δ:Nat→Nat) (a:Option Addr) (k:Nat):(a.map (·.add k)).map (ren δ)=(a.map (ren δ)).map (·.add k):=by
 cases a with
 | none=>rfl
 | some a=>simp only[Option.map_some,dB0]
theorem cV0 {P:Program} {N t n c:Nat} {a:Option Addr} {lo hi mx lo' hi' mx':Option Value} {d:Value} (hl:OV g h N lo lo') (hh:OV g h N hi hi') (hm:OV g h N mx mx') (ha:fscP N a=true)
  (he:uB P t a n c lo hi mx=some d):∃ u,uB P t (a.map (ren g.δ)) n c lo' hi' mx'=some u∧RV g h N d u:=by
 unfold uB at he ⊢
 split at he
 ·rename_i e hu
  (try rw[hu])
  (try dsimp only)
  split at he
  ·rename_i size hs hc
   (try rw[hs,hc])
   (try dsimp only)
   split at he
   ·rename_i l r m hb
    obtain ⟨i1,i2,i3⟩:=uP0 hb
    rw[hl.eq i3,hh.eq i2,hm.eq i1,hb]
    dsimp only at he ⊢
    split at he<;>cases he
    ·rename_i hq
     (try rw[hq])
     exact ⟨_,rfl,RV.slice0 ha⟩
    ·rename_i hq
     (try rw[hq])
     refine ⟨_,rfl,?_⟩
     rw[← jV0]
     exact RV.slice0 (yI0 ha)
   ·cases he
  ·cases he
 ·cases he
theorem bG0 {P:Program} {N t n c:Nat} {a:Option Addr} {lo hi mx lo' hi' mx':Option Value} {e size:Nat} (hu:P.underlying t=some (.slice e)) (hc:Nat.blt c UC=false):uB P t a n c lo hi mx=none:=by
 unfold uB
 rw[hu]
 simp only[hc]
 split<;>simp_all
theorem cT0 (hr:Rel g σ h) {P:Program} {t n c:Nat} {a:Option Addr} {lo hi mx lo' hi' mx':Option Value} {d:Value} (hl:OV g h σ.next lo lo') (hh:OV g h σ.next hi hi') (hm:OV g h σ.next mx mx') (ha:fscP σ.next a=true)
  (he:uA P t a n c lo hi mx σ=some d):uB P t (a.map (ren g.δ)) n c lo' hi' mx'=none∧∃ u,uA P t (a.map (ren g.δ)) n c lo' hi' mx' h=some u∧RV g h σ.next d u:=by
 unfold uA at he ⊢
 split at he
 ·rename_i e b off hu
  have hb:=sc_p ha
  (try rw[hu])
  simp only[Option.map_some,ren]
  split at he
  ·rename_i size ds e' hs hc
   obtain ⟨vs,h1,h2⟩:=hr.cells hb (.inr rfl) hc
   (try rw[hs])
   rw[h1]
   (try dsimp only)
   split at he
   ·rename_i hcond
    rw[h2.len,hcond]
    have hUC:Nat.blt c UC=false:=by
     simp only[Bool.and_eq_true,Nat.ble_eq] at hcond
     rw[Bool.eq_false_iff];simp;omega
    refine ⟨bG0 (N:=0) (size:=size) (lo':=none) (hi':=none) (mx':=none) hu hUC,?_⟩
    dsimp only
    split at he
    ·rename_i l r m hbd
     obtain ⟨i1,i2,i3⟩:=uP0 hbd
     rw[hl.eq i3,hh.eq i2,hm.eq i1,hbd]
     dsimp only at he ⊢
     have hadd:∀ k,RV g h σ.next (.slice (some ((⟨b,off,none⟩:Addr).add k)) (r-l) (c+l)) (.slice (some ((⟨g.δ b,off,none⟩:Addr).add k)) (r-l) (c+l)):=fun k=>by
      have:=RV.slice0 (g:=g) (h:=h) (n:=r-l) (c:=c+l) (yI0 (k:=k) ha)
      rw[jV0] at this
      exact this
     split at he
     ·rename_i k
      split at he<;>cases he
      ·rename_i hq
       (try rw[hq])
       exact ⟨_,rfl,RV.slice0 ha⟩
      ·rename_i hq
       (try rw[hq])
       refine ⟨_,rfl,?_⟩
       have:=RV.slice0 (g:=g) (h:=h) (n:=r-l) (c:=k-l) (yI0 (k:=l*size) ha)
       rw[jV0] at this
       exact this
     ·split at he<;>cases he
      rename_i hq
      (try rw[hq])
      exact ⟨_,rfl,hadd _⟩
    ·cases he
   ·cases he
  ·cases he
 ·cases he
theorem eW0 {P:Program} {N t:Nat} {a:Addr} {lo hi mx lo' hi' mx':Option Value} {d:Value} (hl:OV g h N lo lo') (hh:OV g h N hi hi') (hm:OV g h N mx mx') (ha:fscP N (some a)=true)
  (he:jG0 P t a lo hi mx=some d):∃ u,jG0 P t (ren g.δ a) lo' hi' mx'=some u∧RV g h N d u:=by
 unfold jG0 at he ⊢
 split at he
 ·rename_i n e hu
  (try rw[hu])
  (try dsimp only)
  split at he
  ·rename_i size hs hc
   (try rw[hs,hc])
   (try dsimp only)
   split at he
   ·rename_i l r m hb
    obtain ⟨i1,i2,i3⟩:=uP0 hb
    rw[hl.eq i3,hh.eq i2,hm.eq i1,hb]
    dsimp only at he ⊢
    split at he<;>cases he
    ·rename_i hq
     (try rw[hq])
     exact ⟨_,rfl,RV.slice0 ha⟩
    ·rename_i hq
     (try rw[hq])
     refine ⟨_,rfl,?_⟩
     have:=RV.slice0 (g:=g) (h:=h) (n:=r-l) (c:=m.getD n-l) (yI0 (k:=l*size) ha)
     rw[jV0] at this
     exact this
   ·cases he
  ·cases he
 ·cases he
theorem nO1 (hr:Rel g σ h) {P:Program} {t:TypeId} {x x':Value} {lo hi mx lo' hi' mx':Option Value} {d:Value} (hx:RV g h σ.next x x') (hl:OV g h σ.next lo lo') (hh:OV g h σ.next hi hi') (hm:OV g h σ.next mx mx')
  (he:slV P t x lo hi mx σ=some d):∃ u,slV P t x' lo' hi' mx' h=some u∧RV g h σ.next d u:=by
 unfold slV at he
 split at he
 ·have hfl : (lo.all flat && hi.all flat && mx.all flat) = true := by
   cases hf:(lo.all flat&&hi.all flat&&mx.all flat) with
   | true=>rfl
   | false=>rw[hf] at he;cases he
  simp only[Bool.and_eq_true] at hfl
  have e1:lo'=lo:=hl.eq fun v hv=>.inr (by have:=hfl.1.1;rw[hv] at this;simpa using this)
  have e2:hi'=hi:=hh.eq fun v hv=>.inr (by have:=hfl.1.2;rw[hv] at this;simpa using this)
  have e3:mx'=mx:=hm.eq fun v hv=>.inr (by have:=hfl.2;rw[hv] at this;simpa using this)
  rw[hx.str,e1,e2,e3]
  exact ⟨d,he,RV.of_flat d (uR he).2.1⟩
 ·rename_i a n c
  simp only[RV] at hx
  obtain ⟨ha,rfl⟩:=hx
  split at he
  ·rename_i u hu
   cases he
   obtain ⟨w,h1,h2⟩:=cV0 hl hh hm ha hu
   exact ⟨w,by simp only[slV,h1],h2⟩
  ·obtain ⟨h0,w,h1,h2⟩:=cT0 hr hl hh hm ha he
   exact ⟨w,by simp only[slV,h0,h1],h2⟩
 ·rename_i a
  simp only[RV] at hx
  obtain ⟨ha,rfl⟩:=hx
  obtain ⟨w,h1,h2⟩:=eW0 hl hh hm ha he
  exact ⟨w,h1,h2⟩
 ·cases he
theorem pM0 {z:Option (Option (TypeId×Nat))} {f:Bool} {e n:Nat} {cs:List Value} {lo hi mx:Option Value} {d:Value} (he:slR z f e n cs lo hi mx=some d):∃ r,bounds n n mx hi lo=some r:=by
 unfold slR at he
 split at he
 ·split at he
  ·split at he
   ·exact ⟨_,by assumption⟩
   ·cases he
  ·cases he
 ·cases he
theorem nQ1 (hr:Rel g σ h) {P:Program} (hP:g.P=P) {t:TypeId} {x x':Value} {lo hi mx lo' hi' mx':Option Value} {d:Value} (hx:RV g h σ.next x x') (hl:OV g h σ.next lo lo') (hh:OV g h σ.next hi hi') (hm:OV g h σ.next mx mx')
  (he:slD P t x lo hi mx σ=some d):(∃ u,slV P t x' lo' hi' mx' h=some u∧RV g h σ.next d u)∨(slV P t x' lo' hi' mx' h=none∧∃ u1 u2,tailV P t x' lo' hi' mx' h=some (u1,u2)∧RV g h σ.next d u1∧RV g h σ.next d u2):=by
 unfold slD at he
 split at he
 ·rename_i l k1 n k2 e f cs
  obtain ⟨r,hb⟩:=pM0 he
  obtain ⟨i1,i2,i3⟩:=uP0 hb
  rw[hl.eq i3,hh.eq i2,hm.eq i1]
  refine nP1 hP (f:=f) (e:=e) ?_ he
  unfold Rw
  simp only[RV] at hx ⊢
  exact hx
 ·exact .inl (nO1 hr hx hl hh hm he)
theorem qZ0:∀ {cs:List Value} {l:List UInt8},bytesOf cs=some l→jT cs=true
 | [],_,_=>rfl
 | v :: cs,l,h=>by
  unfold bytesOf at h
  split at h
  ·rename_i he;cases he
  ·rename_i he
   cases he
   split at h
   ·rename_i h2
    simp only[jT,Ev.flat,qZ0 h2,Bool.and_self]
   ·cases h
  ·cases h
theorem bytesOf_bv:∀ {cs:List Value} {l:List UInt8},bytesOf cs=some l→∃ is:List Int,cs=bv is∧l=is.map fun n=>UInt8.ofNat n.toNat
 | [],_,h=>by cases h;exact ⟨[],rfl,rfl⟩
 | v :: cs,l,h=>by
  unfold bytesOf at h
  split at h
  ·rename_i he;cases he
  ·rename_i n vs he
   cases he
   split at h<;>cases h
   rename_i l' h2
   obtain ⟨is,rfl,rfl⟩:=bytesOf_bv h2
   exact ⟨n :: is,rfl,rfl⟩
  ·cases h
theorem jJ2 (hr:Rel g σ h) {P:Program} {s d:TypeId} {x x':Value} {u:Value} (hx:RV g h σ.next x x') (he:btS P s d x σ=some u):btS P s d x' h=some u∧flat u=true:=by
 unfold btS at he ⊢
 split at he
 ·rename_i e n c h1 h2
  simp only[RV,Option.map_none] at hx
  rw[h1,h2,hx.2]
  (try dsimp only)
  split at he<;>cases he
  rename_i h3
  (try rw[h3])
  exact ⟨rfl,rfl⟩
 ·rename_i e a c h1 h2
  simp only[RV,Option.map_some,ren] at hx
  rw[h1,h2,hx.2]
  show (match P.underlying e with|some (.int .u8)=>some (Value.string .empty)|_=>none)=_∧_
  split at he<;>cases he
  rename_i h3
  (try rw[h3])
  exact ⟨rfl,rfl⟩
 ·rename_i e b o n c hn h1 h2
  simp only[RV,Option.map_some,ren] at hx
  rw[h1,h2,hx.2]
  cases n with
  | zero=>first | exact absurd rfl hn | exact (hn _ rfl).elim | exact (hn _ rfl rfl).elim | exact (hn _ _ rfl rfl).elim | exact (hn _ _ rfl).elim
  | succ n=>
   show (match P.underlying e,cells h (g.δ b) with|some (.int .u8),some (cs,_,_)=>(match takeN cs o (n+1) with|some l=>(match bytesOf l with|some l=>some (Value.string ⟨⟨l⟩⟩)|none=>none)|none=>none)|_,_=>none)=_∧_
   split at he
   ·rename_i ds e' m h3 hc
    obtain ⟨vs,e2,h4,_,h5⟩:=hr.cells' (sc_p hx.1) hc
    (try rw[h3])
    rw[h4]
    (try dsimp only)
    split at he
    ·rename_i l hl
     obtain ⟨h6,rfl⟩:=yD0 hl
     rw[jK0 vs o (n+1) (by rw[h5.len];exact h6)]
     (try dsimp only)
     split at he<;>cases he
     rename_i bs hbs
     have:=RVL.flat _ _ (qZ0 hbs) ((h5.drop o).take (n+1))
     rw[this,hbs]
     exact ⟨rfl,rfl⟩
    ·cases he
   ·cases he
 ·cases he
theorem jG2 (hr:Rel g σ h) {P:Program} {s d:TypeId} {x x':Value} {u:Value} (hx:RV g h σ.next x x') (he:cvD P s d x σ=some u):cvV P s d x' h=some u∧flat u=true:=by
 unfold cvD at he
 split at he
 ·rename_i l k1 n k2 e f cs
  split at he
  ·rename_i y hT
   obtain ⟨k,q⟩:=y
   split at he
   ·rename_i hlen
    split at he<;>cases he
    rename_i bs hbs
    simp only[RV] at hx
    obtain ⟨vs,h1,a,c,size,rfl,h2,_⟩:=hx
    have:=RVL.flat _ _ (qZ0 hbs) h1
    subst this
    obtain ⟨is,rfl,rfl⟩:=bytesOf_bv hbs
    refine ⟨?_,rfl⟩
    exact jF2 hT h2.1 (by simpa[bv] using hlen)
   ·cases he
  ·cases he
 ·unfold cvV at he ⊢
  split at he
  ·rename_i w hw
   cases he
   have hf:flat x=true:=by
    unfold cvP at hw
    cases hf:flat x with
    | true=>rfl
    | false=>rw[hf] at hw;cases hw
   have:=hx.flat x x' hf
   subst this
   rw[hw]
   exact ⟨rfl,(uR hw).2.1⟩
  ·rename_i hw
   obtain ⟨h1,h2⟩:=jJ2 hr hx he
   refine ⟨?_,h2⟩
   by_cases hf:flat x=true
   ·have:=hx.flat x x' hf
    subst this
    rw[hw]
    exact h1
   ·have hf' : flat x' = false := by
     cases x with
     | slice a n c=>
      simp only[RV] at hx
      rw[hx.2]
      cases a with
      | none=>exact absurd rfl hf
      | some a=>rfl
     | _=>
      exfalso
      unfold btS at he
      split at he<;>first|(rename_i hq;cases hq;done)|cases he
    have:cvP P s d x'=none:=by unfold cvP pvF;rw[hf']
    rw[this]
    exact h1
theorem lG1 (hr:Rel g σ h) {P:Program} (hP:g.P=P) {D T:VT} (ht:Tms g h σ.next D T) {NG:Nat} (hNG:NG≤σ.lo) {o:Op} {t:TypeId} (ho:o.operands.all (uE NG)=true) {d:Value} (he:tvD P o t D σ=some d) :
  (∃ v,tv P o t T h=some v∧RV g h σ.next d v)∨(tv P o t T h=none∧∃ u1 u2,tw P o T h=some (u1,u2)∧RV g h σ.next d u1∧RV g h σ.next d u2):=by
 have hx:∀ x∈o.operands,RV g h σ.next (ev D x) (ev T x):=fun x hx=>qD0 hr ht hNG (by
  rw[Array.all_eq_true_iff_forall_mem] at ho;exact ho x hx)
 have hok:∀ x∈o.operands,uE NG x=true:=fun x hx=>by rw[Array.all_eq_true_iff_forall_mem] at ho;exact ho x hx
 unfold tvD at he
 split at he
 ·rename_i ty a
  exact .inl (lP0 hr (hx a (by simp[Op.operands])) he)
 ·rename_i ty x lo hi mx
  refine nQ1 hr hP (hx x (by simp[Op.operands])) (OV.ev hr ht hNG fun y hy=>?_) (OV.ev hr ht hNG fun y hy=>?_) (OV.ev hr ht hNG fun y hy=>?_) he
  ·subst hy;exact hok y (by simp[Op.operands])
  ·subst hy;exact hok y (by simp[Op.operands])
  ·subst hy;exact hok y (by simp[Op.operands])
 ·rename_i s d' x
  obtain ⟨h1,h2⟩:=jG2 hr (hx x (by simp[Op.operands])) he
  exact .inl ⟨d,h1,RV.of_flat d h2⟩
 ·rename_i n1 n2 n3
  obtain ⟨v,h1,h2⟩:=lH1 hr ht hNG ho he
  refine .inl ⟨v,?_,h2⟩
  unfold tv
  split
  ·exact absurd rfl (n1 _ _)
  ·exact absurd rfl (n2 _ _ _ _ _)
  ·exact absurd rfl (n3 _ _ _)
  ·exact h1
end
def Agr (h h':jA):Prop:=∀ b,b<h.next→h'.get b=h.get b
structure Ext (g:Gh) (σ h:jA) (g':Gh) (σ' h':jA):Prop where
 P:g'.P=g.P
 H0:g'.H0=g.H0
 nn:σ.next≤σ'.next
 lo:σ'.lo=σ.lo
 next:h.next≤h'.next
 hlo:h'.lo=h.lo
 δ:∀ i,i<σ.next→g'.δ i=g.δ i
 F:∀ b,g.F b→g'.F b
 Fn:∀ b,g'.F b→g.F b∨h.next≤b∨∃ i,uH σ i∧g.δ i=b
 fr:∀ b,b<h.next→(∀ i,uH σ i→g.δ i≠b)→h'.get b=h.get b
 im:∀ i,uH σ' i→uH σ i∨h.next≤g'.δ i
section
variable {g g' g'':Gh} {σ σ' σ'' h h' h'':jA}
theorem Ext.refl:Ext g σ h g σ h:=⟨rfl,rfl,Nat.le_refl _,rfl,Nat.le_refl _,rfl,fun _ _=>rfl,fun _ h=>h,fun _ h=>.inl h,fun _ _ _=>rfl,fun _ h=>.inl h⟩
theorem Ext.trans (x:Ext g σ h g' σ' h') (y:Ext g' σ' h' g'' σ'' h''):Ext g σ h g'' σ'' h'':=by
 refine ⟨y.P.trans x.P,y.H0.trans x.H0,Nat.le_trans x.nn y.nn,y.lo.trans x.lo,Nat.le_trans x.next y.next,y.hlo.trans x.hlo,fun i hi=>(y.δ i (Nat.lt_of_lt_of_le hi x.nn)).trans (x.δ i hi),fun b hb=>y.F b (x.F b hb),fun b hb=>?_,fun b hb hn=>?_,fun i hi=>?_⟩
 ·rcases y.Fn b hb with h1|h1|⟨i,h1,h2⟩
  ·exact x.Fn b h1
  ·exact .inr (.inl (Nat.le_trans x.next h1))
  ·rcases x.im i h1 with h3|h3
   ·exact .inr (.inr ⟨i,h3,by rw[← x.δ i h3.2.1];exact h2⟩)
   ·exact .inr (.inl (by omega))
 ·refine (y.fr b (Nat.lt_of_lt_of_le hb x.next) fun i hi=>?_).trans (x.fr b hb hn)
  rcases x.im i hi with h3|h3
  ·rw[x.δ i h3.2.1];exact hn i h3
  ·omega
 ·rcases y.im i hi with h1|h1
  ·rcases x.im i h1 with h2|h2
   ·exact .inl h2
   ·exact .inr (by rw[y.δ i h1.2.1];exact h2)
  ·exact .inr (Nat.le_trans x.next h1)
theorem Ext.e0 (x:Ext g σ h g' σ' h') (hr:Rel g σ h):Ext0 g h σ.next g' h' σ'.next:=
 ⟨x.P,x.nn,x.δ,x.F,x.next,x.hlo,fun b hb hlt=>x.fr b hlt fun i hi=>(hr.frz b hb).2 i hi⟩
theorem Agr.add (x:qH):Agr h (h.add x):=fun b hb=>jV x b (by omega)
theorem Rel.own (hr:Rel g σ h) {i:Nat} {x:qH} (hi:i<σ.next) (hlo:σ.lo≤i) (hx:σ.get i=some x):uH σ i:=⟨hlo,hi,by rw[hx];rfl⟩
theorem ObjR.ext {N N' b:Nat} {o:Prop} (x:Ext0 g h N g' h' N') (hb:h'.get b=h.get b) {y:qH} (hy:ObjR g h N o b y):ObjR g' h' N' o b y:=by
 obtain ⟨q,m⟩:=y
 cases q with
 | cells cs e fr=>
  obtain ⟨ds⟩:=cs
  obtain ⟨vs,e',h1,h0,h2,h3⟩:=hy
  exact ⟨vs,e',(qT hb).trans h1,h0,h2.ext x,h3⟩
 | loop r=>
  obtain ⟨us,h1,h2,h3⟩:=hy
  exact ⟨us,by rw[hb,h1,x.δ _ h2],Nat.lt_of_lt_of_le h2 x.nn,h3.ext x⟩
 | pending c e=>
  obtain ⟨ds⟩:=c
  obtain ⟨vs,h1,h2⟩:=hy
  exact ⟨vs,by rw[hb,h1],h2.ext x⟩
 | _=>exact hb.trans hy
theorem ObjR.imp {N b:Nat} {o o':Prop} {y:qH} (hy:ObjR g h N o b y) (ho:o'→o):ObjR g h N o' b y:=by
 obtain ⟨q,m⟩:=y
 cases q with
 | cells cs e fr=>
  obtain ⟨ds⟩:=cs
  obtain ⟨vs,e',h1,h0,h2,h3⟩:=hy
  exact ⟨vs,e',h1,fun h=>h0 (ho h),h2,h3⟩
 | _=>exact hy
theorem Rel.dne (hr:Rel g σ h) {i b:Nat} {x:qH} (hi:i<σ.next) (hx:σ.get i=some x) (hb:uH σ b) (hne:i≠b):g.δ i≠g.δ b:=by
 intro e
 by_cases hlo:σ.lo≤i
 ·exact hne (hr.inj i b (hr.own hi hlo hx) hb e)
 ·obtain ⟨h1,h2⟩:=hr.baseD i (by omega)
  rcases h2 with h2|h2
  ·have:=hr.dlo b hb
   omega
  ·rw[h2] at hx;cases hx
def Gh.new (g:Gh) (i b:Nat):Gh:={ g with δ:=fun j=>if j=i then b else g.δ j }
theorem gZ0 (hr:Rel g σ h) {x y:qH} (hy:∀ h' g' N',Ext0 g h σ.next g' h' N'→h'.get h.next=some y→ObjR g' h' N' True h.next x) :
  Ext g σ h (g.new σ.next h.next) (σ.add x) (h.add y)∧Rel (g.new σ.next h.next) (σ.add x) (h.add y)∧Agr h (h.add y):=by
 have hδ:∀ i,i<σ.next→(g.new σ.next h.next).δ i=g.δ i:=fun i hi=>if_neg (by omega)
 have hδn:(g.new σ.next h.next).δ σ.next=h.next:=if_pos rfl
 have hown:∀ i,uH (σ.add x) i→uH σ i∨i=σ.next:=fun i ⟨h1,h2,h3⟩=>by
  rw[jB] at h2
  rw[jN] at h1
  by_cases e:i=σ.next
  ·exact .inr e
  ·rw[jV x i e] at h3
   exact .inl ⟨h1,by omega,h3⟩
 have ext:Ext g σ h (g.new σ.next h.next) (σ.add x) (h.add y):=by
  refine ⟨rfl,rfl,by rw[jB];omega,jN x,by rw[jB];omega,jN y,hδ,fun _ hb=>hb,fun _ hb=>.inl hb,fun b hb _=>jV y b (by omega),fun i hi=>?_⟩
  rcases hown i hi with h1|rfl
  ·exact .inl h1
  ·exact .inr (by rw[hδn];exact Nat.le_refl _)
 refine ⟨ext,?_,Agr.add y⟩
 have e0:=ext.e0 hr
 have hlon:=hr.lon
 refine ⟨by rw[jN];exact hr.pos,by rw[jN];exact hr.lo,by rw[jN,jB];omega,by rw[jN,jB];have:=hr.hlo;omega,fun i hi=>?_,fun i z hi hz=>?_,fun i hi=>?_,fun i z hi hz=>?_,fun i hi=>?_,fun i hi=>?_,fun i j hi hj e=>?_,fun b hb=>?_,fun b hb=>?_⟩
 ·rw[jN] at hi;rw[jV x i (by omega)];exact hr.base i hi
 ·rw[jN] at hi;rw[jV x i (by omega)] at hz;exact hr.baseF i z hi hz
 ·rw[jN] at hi;rw[jV x i (by omega),jN,hδ i (by omega)];exact hr.baseD i hi
 ·rw[jB] at hi ⊢
  by_cases e:i=σ.next
  ·subst e
   rw[qW x _ rfl] at hz
   cases hz
   rw[hδn]
   exact (hy _ _ _ (by rw[jB] at e0;exact e0) (qW y _ rfl)).imp fun _=>trivial
  ·rw[jV x i e] at hz
   rw[hδ i (by omega)]
   rw[jB] at e0
   exact ((hr.obj i z (by omega) hz).ext e0 (jV y _ (by have:=hr.dlt i (by omega);omega))).imp fun h=>by rw[jN] at h;exact h
 ·rw[jB] at hi ⊢
  by_cases e:i=σ.next
  ·subst e;rw[hδn];omega
  ·rw[hδ i (by omega)];have:=hr.dlt i (by omega);omega
 ·rw[jN]
  rcases hown i hi with h1|rfl
  ·rw[hδ i h1.2.1];exact hr.dlo i h1
  ·rw[hδn];exact hr.hlo
 ·rcases hown i hi with h1|rfl
  ·rcases hown j hj with h2|rfl
   ·rw[hδ i h1.2.1,hδ j h2.2.1] at e
    exact hr.inj i j h1 h2 e
   ·rw[hδ i h1.2.1,hδn] at e
    have:=hr.dlt i h1.2.1
    omega
  ·rcases hown j hj with h2|rfl
   ·rw[hδ j h2.2.1,hδn] at e
    have:=hr.dlt j h2.2.1
    omega
   ·rfl
 ·obtain ⟨h1,h2⟩:=hr.frz b hb
  refine ⟨by rw[jB];omega,fun i hi=>?_⟩
  rcases hown i hi with h3|rfl
  ·rw[hδ i h3.2.1];exact h2 i h3
  ·rw[hδn];omega
 ·rw[jB] at hb;rw[jV y b (by omega)];exact hr.wf b (by omega)
theorem uY0 (hr:Rel g σ h) {b:Nat} (hb:uH σ b) {x y:qH} (hy:∀ h',h'.get (g.δ b)=some y→Ext0 g h σ.next g h' σ.next→ObjR g h' σ.next True (g.δ b) x) :
  Ext g σ h g (σ.put b x) (h.put (g.δ b) y)∧Rel g (σ.put b x) (h.put (g.δ b) y):=by
 have hown:∀ i,uH (σ.put b x) i→uH σ i:=fun i ⟨h1,h2,h3⟩=>by
  by_cases e:i=b
  ·subst e;exact hb
  ·rw[jW b x i e] at h3
   exact ⟨h1,h2,h3⟩
 have ext:Ext g σ h g (σ.put b x) (h.put (g.δ b) y):=
  ⟨rfl,rfl,Nat.le_refl _,rfl,Nat.le_refl _,rfl,fun _ _=>rfl,fun _ hb=>hb,fun _ hb=>.inl hb,fun c hc hn=>jW _ y c (fun e=>hn b hb e.symm),fun i hi=>.inl (hown i hi)⟩
 refine ⟨ext,?_⟩
 have e0:=ext.e0 hr
 refine ⟨hr.pos,hr.lo,hr.lon,hr.hlo,fun i hi=>?_,fun i z hi hz=>?_,fun i hi=>?_,fun i z hi hz=>?_,hr.dlt,fun i hi=>hr.dlo i (hown i hi),fun i j hi hj e=>hr.inj i j (hown i hi) (hown j hj) e,fun c hc=>?_,fun c hc=>?_⟩
 ·have hi:i<σ.lo:=hi
  rw[jW b x i (by have:=hb.1;omega)];exact hr.base i hi
 ·have hi:i<σ.lo:=hi
  rw[jW b x i (by have:=hb.1;omega)] at hz;exact hr.baseF i z hi hz
 ·have hi:i<σ.lo:=hi
  rw[jW b x i (by have:=hb.1;omega)];exact hr.baseD i hi
 ·have hi:i<σ.next:=hi
  by_cases e:i=b
  ·subst e
   rw[qO] at hz
   cases hz
   exact (hy _ (qO _ _) e0).imp fun _=>trivial
  ·rw[jW b x i e] at hz
   exact (hr.obj i z hi hz).ext e0 (jW _ y _ (hr.dne hi hz hb e))
 ·obtain ⟨h1,h2⟩:=hr.frz c hc
  exact ⟨h1,fun i hi=>h2 i (hown i hi)⟩
 ·have hc:h.next≤c:=hc
  rw[jW _ y c (by have:=hr.dlt b hb.2.1;omega)];exact hr.wf c hc
def Gh.fix (g:Gh) (b:Nat):Gh:={ g with F:=fun c=>g.F c∨c=b }
theorem uR1 (hr:Rel g σ h) (y:qH):Ext g σ h (g.fix h.next) σ (h.add y)∧Rel (g.fix h.next) σ (h.add y)∧Agr h (h.add y):=by
 have ext:Ext g σ h (g.fix h.next) σ (h.add y):=
  ⟨rfl,rfl,Nat.le_refl _,rfl,by rw[jB];omega,jN y,fun _ _=>rfl,fun _ hb=>.inl hb,fun b hb=>by
   rcases hb with hb|hb
   ·exact .inl hb
   ·exact .inr (.inl (by omega)),fun b hb _=>jV y b (by omega),fun i hi=>.inl hi⟩
 refine ⟨ext,?_,Agr.add y⟩
 have e0:=ext.e0 hr
 refine ⟨hr.pos,hr.lo,hr.lon,by rw[jN,jB];have:=hr.hlo;omega,hr.base,hr.baseF,fun i hi=>by rw[jN];exact hr.baseD i hi,fun i z hi hz=>?_,fun i hi=>by rw[jB];have:=hr.dlt i hi;show g.δ i<_;omega,fun i hi=>by rw[jN];exact hr.dlo i hi,hr.inj,fun b hb=>?_,fun b hb=>?_⟩
 ·exact (hr.obj i z hi hz).ext e0 (jV y _ (by have:=hr.dlt i hi;omega))
 ·rw[jB]
  rcases hb with hb|rfl
  ·obtain ⟨h1,h2⟩:=hr.frz b hb
   exact ⟨by omega,h2⟩
  ·exact ⟨by omega,fun i hi=>by have:=hr.dlt i hi.2.1;show g.δ i≠_;omega⟩
 ·rw[jB] at hb;rw[jV y b (by omega)];exact hr.wf b (by omega)
theorem cW1 (hr:Rel g σ h) {b:Nat} (hb:uH σ b) {x y:qH} {e:TypeId} {cs us:List Value} (hcu:RVL g h σ.next cs us) (hy:∀ h' g' N',Ext0 g h σ.next g' h' N'→h'.get h.next=some y→ObjR g' h' N' True h.next x) :
  Ext g σ h (g.new σ.next h.next) { t:=(σ.t.put σ.next x).put b (qB σ.next e cs),next:=σ.next+1,lo:=σ.lo } { t:=(h.t.put h.next y).put (g.δ b) (qB h.next e us),next:=h.next+1,lo:=h.lo }∧
  Rel (g.new σ.next h.next) { t:=(σ.t.put σ.next x).put b (qB σ.next e cs),next:=σ.next+1,lo:=σ.lo } { t:=(h.t.put h.next y).put (g.δ b) (qB h.next e us),next:=h.next+1,lo:=h.lo }:=by
 obtain ⟨x1,r1,_⟩:=gZ0 hr (x:=x) (y:=y) hy
 have hδb:(g.new σ.next h.next).δ b=g.δ b:=if_neg (by have:=hb.2.1;omega)
 have hδn:(g.new σ.next h.next).δ σ.next=h.next:=if_pos rfl
 have hb':uH (σ.add x) b:=⟨by rw[jN];exact hb.1,by rw[jB];have:=hb.2.1;omega,by rw[jV x b (by have:=hb.2.1;omega)];exact hb.2.2⟩
 obtain ⟨x2,r2⟩:=uY0 r1 hb' (x:=qB σ.next e cs) (y:=qB h.next e us) fun h' h1 h2=>by
  refine ⟨.pointer (some ⟨h.next,0,none⟩) :: us,h1,RVL.cons ?_ ((hcu.ext (x1.e0 hr)).ext h2)⟩
  simp only[RV,Option.map_some,ren,hδn]
  exact ⟨by rw[qN];simp[Ev.sc,scA,jB],trivial⟩
 rw[hδb] at x2 r2
 have es:((σ.add x).put b (qB σ.next e cs))={ t:=(σ.t.put σ.next x).put b (qB σ.next e cs),next:=σ.next+1,lo:=σ.lo }:=by
  unfold jA.add
  rw[jA.new_eq]
  rfl
 have eh:((h.add y).put (g.δ b) (qB h.next e us))={ t:=(h.t.put h.next y).put (g.δ b) (qB h.next e us),next:=h.next+1,lo:=h.lo }:=by
  unfold jA.add
  rw[jA.new_eq]
  rfl
 rw[← es,← eh]
 exact ⟨x1.trans x2,r2⟩
theorem eT1 (hr:Rel g σ h) {b c:Nat} {e:TypeId} {cs ds:List Value} {fr0:Nat×Nat} (hlo:σ.lo≤b) (hb:σ.get b=some (qB c e cs)) (hbn:b<σ.next) (hcn:c<σ.next) (hlc:σ.lo≤c) (hc:σ.get c=some ⟨.cells ⟨cs++ds⟩ e fr0,true⟩) (hone:cs.all one=true) (hfl:jT (cs++ds)=true) (hfc:jT cs=true) :
  ∃ h',(∀ (p:Par) (Γ:Gam) (w:World),jY p Γ h w→jY p Γ h' w)∧h'.next=h.next∧
   Ext g σ h g ((σ.put c dead).put b (O cs e true)) h'∧Rel g ((σ.put c dead).put b (O cs e true)) h':=by
 have hob:uH σ b:=hr.own hbn hlo hb
 have hoc:uH σ c:=hr.own hcn hlc hc
 obtain ⟨vs0,h1,h2⟩:=hr.obj b _ hbn hb
 simp only[RVL] at h2
 obtain ⟨v,us,rfl,h3,h4⟩:=h2
 simp only[RV,Option.map_some,ren] at h3
 obtain ⟨_,rfl⟩:=h3
 obtain ⟨vs,e',k1,k0,k2,k3⟩:=hr.obj c _ hcn hc
 obtain rfl:=k0 hlc
 obtain rfl:=RVL.flat _ _ hfl k2
 obtain rfl:=RVL.flat _ _ hfc h4
 have hbc:b≠c:=fun he=>by subst he;rw[hb] at hc;cases hc
 obtain ⟨x1,r1⟩:=uY0 hr hoc (x:=dead) (y:=dead) fun h' h1 _=>h1
 have hob':uH (σ.put c dead) b:=⟨hob.1,hob.2.1,by rw[jW c dead b hbc];exact hob.2.2⟩
 obtain ⟨x2,r2⟩:=uY0 r1 hob' (x:=O us e' true) (y:=O us e' true) fun h' h1 x=>⟨us,e',by unfold Ev.cells;rw[h1];rfl,fun _=>rfl,(h4.ext (x1.e0 hr)).ext x,hone⟩
 refine ⟨(h.put (g.δ c) dead).put (g.δ b) (O us e' true),fun p Γ w hw=>?_,rfl,x1.trans x2,r2⟩
 obtain ⟨fr1,hcg⟩:=uI k1
 exact hw.back h1 hcg
end
def bxD (e:TypeId) (v:Value) (σ:jA):Option (Value×jA):=if v.cells.toList.all one=true then some (.pointer (some ⟨σ.next,0,none⟩),σ.add (O v.cells.toList e false)) else none
def bxQ (c:Bool) (e:TypeId) (v:Value) (σ:jA):Option (Value×jA):=match c with
 | true=>if v.cells.toList.all one=true∧0<v.cells.toList.length then some (Rpt 0 v.cells.toList,σ) else none
 | false=>bxD e v σ
def bsD (q:Bool) (z:Option (TypeId×Nat×List Value)) (len:Nat) (parts:List (Nat×Value)) (σ:jA):Option (Value×jA):=match z with
 | some (e, n, zs) => if len * n ≤ 16777216 then
   match kV ((List.range len).map (fun i=>(i*n,n))) (List.replicate len zs).flatten parts with
   | some cs=>if cs.all one=true then (if q=true∨len=0 then some (.slice (some ⟨σ.next,0,none⟩) len len,σ.add (O cs e false)) else some (Rw true e len cs,σ)) else none
   | none=>none
  else none
 | none=>none
def stD (n:Option Nat) (a v:Value) (σ:jA):Option (Value×jA):=match n,a with
 | some n,.pointer (some ⟨b,off,none⟩)=>match cells σ b with
  | some (cs,e,m)=>if v.cells.toList.length=n∧v.cells.toList.all one=true∧σ.lo≤b∧off+n≤cs.length then some (undef,σ.put b (O (setFrom cs off v.cells.toList) e m)) else none
  | none=>none
 | _,_=>none
def srcD (size:Nat) (x:Value) (σ:jA):Option (Nat×List Value):=match x with
 | .func (.yield _) ⟨[.int _ (.ofNat m),.int _ (.ofNat _),.bool _]⟩ ⟨xs⟩=>if xs.length=m*size then some (m,xs) else none
 | x=>match lenV x with
  | some m=>match qS size m x σ with | some xs=>if xs.length=m*size∧xs.all one=true then some (m,xs) else none | none=>none
  | none=>none
def apB (e size by_:Nat) (s:Value) (m:Nat) (xs:List Value) (σ:jA):Option (Value×jA):=match s with
 | .slice none 0 0=>if m=0 then some (.slice none 0 0,σ) else if m*by_≤140737488355328∧m<100000000000000 then some (.slice (some ⟨σ.next,0,none⟩) m UC,σ.add (O xs e true)) else none
 | .slice (some ⟨b,0,none⟩) n c=>match cells σ b with
  | some (cs, e', mo) => if e' = e ∧ σ.lo ≤ b ∧ cs.length = n * size ∧ (n + m) * by_ ≤ 140737488355328 ∧ (n + m) < 100000000000000 then
    (if mo=true∧c=UC then some (.slice (some ⟨σ.next,0,none⟩) (n+m) UC,{ t:=(σ.t.put σ.next (O (cs++xs) e true)).put b (qB σ.next e cs),next:=σ.next+1,lo:=σ.lo })
     else if mo=false∧c=n then (if m=0 then some (.slice (some ⟨b,0,none⟩) n c,σ) else some (.slice (some ⟨σ.next,0,none⟩) (n+m) UC,σ.add (O (cs++xs) e true)))
     else none)
   else none
  | none=>none
 | .func (.yield _) ⟨[.int _ (.ofNat n), .int _ (.ofNat _), .bool true]⟩ ⟨cs⟩ => if cs.length = n * size ∧ ((n + m) * by_ ≤ 140737488355328 ∧ (n + m) < 100000000000000) ∧ cs.all one = true then
   (if m=0 then some (s,σ) else some (.slice (some ⟨σ.next,0,none⟩) (n+m) UC,σ.add (O (cs++xs) e true))) else none
 | _=>none
def apD (z:Option (TypeId×Nat×Nat)) (s x:Value) (σ:jA):Option (Value×jA):=match z with
 | some (e,size,by_)=>match srcD size x σ with
  | some (m,xs)=>if xs.all one=true then apB e size by_ s m xs σ else none
  | none=>none
 | none=>none
def teD (P:Program) (q:Nat→Bool) (o:Op) (t:TypeId) (tm:VT) (σ:jA):Option (Value×jA):=match o with
 | .alloc e=>alE (zro P e) e σ
 | .box e x=>bxQ (q (e+1000000)) e (ev tm x) σ
 | .buildSlice ty len parts=>bsD (q ty) (slT P ty) len (parts.toList.map fun x=>(x.1,ev tm x.2)) σ
 | .store ty a x=>stD (szT P ty) (ev tm a) (ev tm x) σ
 | .makeSlice ty l c=>msE (mkT P ty) (ev tm l) (ev tm c) σ
 | .call ⟨.builtin .append,⟨[s,x]⟩,⟨[sT,xT]⟩⟩=>apD (appT P sT xT) (ev tm s) (ev tm x) σ
 | .range ty x=>rgV P ty (ev tm x) σ
 | .next x true=>nxE (ev tm x) σ
 | _=>none
def bH0 (s:Value) (σ:jA):Bool:=match s with
 | .slice (some ⟨b,_,_⟩) _ _=>match cells σ b with
  | some (_,_,mo)=>!mo
  | none=>true
 | _=>true
def bT0 (o:Op) (tm:VT) (σ:jA):Bool:=match o with
 | .alloc _=>true
 | .box _ _=>true
 | .buildSlice _ _ _=>true
 | .makeSlice _ _ _=>true
 | .call ⟨.builtin .append,⟨[s,_]⟩,_⟩=>bH0 (ev tm s) σ
 | _=>false
section
variable {g:Gh} {σ h:jA}
theorem jI0 (hr:Rel g σ h) {ds vs:List Value} (hv:RVL g h σ.next ds vs) (ho:ds.all one=true):uF h.next vs=true:=by
 rw[uS,RVL.sc hr.dlt ds vs hv,Bool.and_true,List.all_eq_true]
 intro v hvm
 obtain ⟨i,hi⟩:=List.getElem?_of_mem hvm
 have hlt:i<ds.length:=by have:=(List.getElem?_eq_some_iff.1 hi).1;rw[hv.len] at this;exact this
 obtain ⟨u,h1,h2⟩:=hv.get (List.getElem?_eq_getElem hlt)
 rw[hi] at h1
 cases h1
 rw[h2.one]
 exact List.all_eq_true.1 ho _ (List.getElem_mem hlt)
def Eff (g:Gh) (σ h:jA) (pure:Bool) (d:Value) (σ':jA) (v:Value) (h':jA):Prop:=
 ∃ g',Ext g σ h g' σ' h'∧Rel g' σ' h'∧RV g' h' σ'.next d v∧(pure=true→Agr h h')
theorem zU0 {g':Gh} {h':jA} {N' b:Nat} {ds vs:List Value} {e:TypeId} {m:Bool} (hg:h'.get b=some (O vs e m)) (hv:RVL g' h' N' ds vs) (ho:ds.all one=true):ObjR g' h' N' True b (O ds e m):=by
 refine ⟨vs,e,?_,fun _=>rfl,hv,ho⟩
 unfold Ev.cells
 rw[hg]
 rfl
theorem RV.p0 {N i:Nat} (hi:i<N):RV g h N (.pointer (some ⟨i,0,none⟩)) (.pointer (some ⟨g.δ i,0,none⟩)):=by
 simp only[RV,Option.map_some,ren]
 exact ⟨by rw[qN];simp[Ev.sc,scA,hi],trivial⟩
theorem RV.s0 {N i n c:Nat} (hi:i<N):RV g h N (.slice (some ⟨i,0,none⟩) n c) (.slice (some ⟨g.δ i,0,none⟩) n c):=by
 simp only[RV,Option.map_some,ren]
 exact ⟨by rw[qN];simp[Ev.sc,scA,hi],trivial⟩
theorem oZ0 (hr:Rel g σ h) {ds vs:List Value} (hv:RVL g h σ.next ds vs) (ho:ds.all one=true) (e:TypeId) (m:Bool) :
  ∃ g',Ext g σ h g' (σ.add (O ds e m)) (h.add (O vs e m))∧Rel g' (σ.add (O ds e m)) (h.add (O vs e m))∧g'.δ σ.next=h.next∧Agr h (h.add (O vs e m)):=by
 obtain ⟨x1,x2,x3⟩:=gZ0 hr (x:=O ds e m) (y:=O vs e m) fun h' g' N' x hg=>zU0 hg (hv.ext x) ho
 exact ⟨_,x1,x2,if_pos rfl,x3⟩
theorem oY0 (hr:Rel g σ h) {ds vs:List Value} (hv:RVL g h σ.next ds vs) (ho:ds.all one=true) (e:TypeId) (m:Bool):Eff g σ h true (.pointer (some ⟨σ.next,0,none⟩)) (σ.add (O ds e m)) (.pointer (some ⟨h.next,0,none⟩)) (h.add (O vs e m)):=by
 obtain ⟨g',x1,x2,x3,x4⟩:=oZ0 hr hv ho e m
 refine ⟨g',x1,x2,?_,fun _=>x4⟩
 rw[← x3]
 exact RV.p0 (by rw[jB];omega)
theorem zK0 (hr:Rel g σ h) {ds vs:List Value} (hv:RVL g h σ.next ds vs) (ho:ds.all one=true) (e:TypeId) (m:Bool) (n c:Nat) (p:Bool):Eff g σ h p (.slice (some ⟨σ.next,0,none⟩) n c) (σ.add (O ds e m)) (.slice (some ⟨h.next,0,none⟩) n c) (h.add (O vs e m)):=by
 obtain ⟨g',x1,x2,x3,x4⟩:=oZ0 hr hv ho e m
 refine ⟨g',x1,x2,?_,fun _=>x4⟩
 rw[← x3]
 exact RV.s0 (by rw[jB];omega)
theorem oI0 {n:Nat} {zs:List Value} (hz:jT zs=true):jT (List.replicate n zs).flatten=true:=by
 have hall:=zB0 hz
 have hof:∀ l:List Value,(∀ v∈l,flat v=true)→jT l=true:=by
  intro l
  induction l with
  | nil=>intro _;rfl
  | cons x l ih=>intro hx;simp only[jT,hx x (List.mem_cons_self ..),ih fun v hv=>hx v (List.mem_cons_of_mem _ hv),Bool.and_self]
 refine hof _ fun v hv=>?_
 simp only[List.mem_flatten] at hv
 obtain ⟨l,hl,hv⟩:=hv
 rw[(List.mem_replicate.1 hl).2] at hv
 exact hall v hv
theorem cI1 {P:Program} {t e n:Nat} {zs:List Value} (hz:slT P t=some (e,n,zs)):P.underlying t=some (.slice e)∧szT P e=some n∧0<n∧zs.length=n∧jT zs=true∧uF 0 zs=true:=by
 unfold slT at hz
 split at hz
 ·rename_i e' hu
  split at hz
  ·rename_i i hi
   split at hz
   ·rename_i z hzz
    split at hz
    ·rename_i hb
     cases hz
     simp only[Bool.and_eq_true,Nat.beq_eq,Nat.blt_eq] at hb
     exact ⟨hu,by unfold szT;rw[hi],hb.1.1.2,by simpa using hb.1.1.1,hb.1.2,hb.2⟩
    ·cases hz
   ·cases hz
  ·cases hz
 ·cases hz
theorem fX0 {pl:List (Nat×Nat)}:∀ {ps:List (Nat×Value)} {cs ds:List Value},kV pl cs ps=some ds→ds.length=cs.length
 | [],cs,ds,he=>by simp only[kV] at he;cases he;rfl
 | (i,d) :: ps,cs,ds,he=>by
  simp only[kV] at he
  split at he
  ·split at he
   ·rename_i hc
    rw[fX0 he]
    unfold setFrom
    simp only[List.length_append,List.length_take,List.length_drop]
    omega
   ·cases he
  ·cases he
theorem sK1 (n:Nat) (zs:List Value):(List.replicate n zs).flatten.length=n*zs.length:=by simp[List.length_flatten]
theorem jK2 (hr:Rel g σ h) {P:Program} (hP:g.P=P) {q:Bool} {ty len:Nat} {ps ps':List (Nat×Value)} {d:Value} {σ':jA} (h1:ps.map (·.1)=ps'.map (·.1)) (h2:RVL g h σ.next (ps.map (·.2)) (ps'.map (·.2)))
  (he:bsD q (slT P ty) len ps σ=some (d,σ')):∃ v h',bsE (slT P ty) len ps' h=some (v,h')∧Eff g σ h true d σ' v h':=by
 unfold bsD at he
 split at he
 ·rename_i e n zs hz
  obtain ⟨z1,z2,z3,z4,z5,z6⟩:=cI1 hz
  split at he
  ·rename_i hle
   split at he
   ·rename_i cs hc
    obtain ⟨vs,hvs,hcv⟩:=dU0 (RVL.of_flat _ (oI0 (n:=len) z5)) h1 h2 hc
    split at he
    ·rename_i ho
     have hf:=jI0 hr hcv ho
     have hE:bsE (slT P ty) len ps' h=some (.slice (some ⟨h.next,0,none⟩) len len,h.add (O vs e false)):=by
      rw[hz]
      simp only[bsE,if_pos hle,hvs,if_pos hf]
     split at he
     ·cases he
      exact ⟨_,_,hE,zK0 hr hcv ho e false len len true⟩
     ·cases he
      refine ⟨_,_,hE,?_⟩
      obtain ⟨x1,x2,x3⟩:=uR1 hr (O vs e false)
      refine ⟨_,x1,x2,?_,fun _=>x3⟩
      have hrow:cells (h.add (O vs e false)) h.next=some (vs,e,false):=qC _ _ _ _ rfl
      refine RV.mkRow (size:=n) (hcv.ext (x1.e0 hr)) ⟨Sl.row hrow (by rw[jN];exact hr.hlo),fun b hb=>?_⟩ (fun _=>rfl) z3 ?_ (.inl ⟨?_,Nat.le_refl _⟩)
      ·obtain ⟨o,s,e⟩:=hb
       cases e
       exact ⟨by rw[jB];omega,.inr rfl⟩
      ·rw[hcv.len,fX0 hc,sK1,z4]
      ·have h3:len≤len*n:=Nat.le_mul_of_pos_right _ z3
       have h4:=U_UC
       unfold U at h4
       omega
    ·cases he
   ·cases he
  ·cases he
 ·cases he
theorem nL1 (hr:Rel g σ h) {n:Option Nat} {a a' v v':Value} {d:Value} {σ':jA} (ha:RV g h σ.next a a') (hv:RV g h σ.next v v') (he:stD n a v σ=some (d,σ')) :
  ∃ u h',stE n a' v' h=some (u,h')∧Eff g σ h false d σ' u h':=by
 unfold stD at he
 split at he
 ·rename_i n b off
  simp only[RV,Option.map_some,ren] at ha
  obtain ⟨hs,rfl⟩:=ha
  have hb:=sc_p hs
  split at he
  ·rename_i cs e m hc
   split at he<;>cases he
   rename_i hcond
   obtain ⟨c1,c2,c3,c4⟩:=hcond
   obtain ⟨vs,h1,h2⟩:=hr.cells hb (.inl c3) hc
   have hcl:=hv.cells
   have hg:(σ.get b).isSome=true:=by
    unfold Ev.cells at hc
    split at hc
    ·rename_i hg;rw[hg];rfl
    ·cases hc
   have hown:uH σ b:=⟨c3,hb,hg⟩
   have hcs:cs.all one=true:=by
    unfold Ev.cells at hc
    split at hc
    ·rename_i cs' e' fr m' hg
     cases hc
     obtain ⟨_,_,_,_,_,h3⟩:=hr.obj b _ hb hg
     exact h3
    ·cases hc
   refine ⟨undef,h.put (g.δ b) (O (setFrom vs off v'.cells.toList) e m),?_,?_⟩
   ·unfold stE
    dsimp only
    rw[h1]
    dsimp only
    rw[if_pos ⟨by rw[hcl.len];exact c1,jI0 hr hcl c2,hr.dlo b hown,by rw[h2.len];exact c4⟩]
   ·obtain ⟨x1, x2⟩ := uY0 hr hown (x := O (setFrom cs off v.cells.toList) e m) (y := O (setFrom vs off v'.cells.toList) e m) fun h' hg' x => zU0 hg' ((h2.setFrom hcl off).ext x) (by
     rw[List.all_eq_true] at hcs c2 ⊢
     intro u hu
     simp only[setFrom,List.mem_append] at hu
     rcases hu with (hu|hu)|hu
     ·exact hcs u (List.mem_of_mem_take hu)
     ·exact c2 u hu
     ·exact hcs u (List.mem_of_mem_drop hu))
    exact ⟨g,x1,x2,RV.undef,fun e=>by cases e⟩
  ·cases he
 ·cases he
theorem yW2 {a b:Nat} (h:a<b):Nat.blt a b=true:=by rw[Nat.blt_eq];exact h
theorem blt_f {a b:Nat} (h:¬ a<b):Nat.blt a b=false:=by
 cases hx:Nat.blt a b with
 | false=>rfl
 | true=>rw[Nat.blt_eq] at hx;exact absurd hx h
theorem ble_f {a b:Nat} (h:¬ a≤b):Nat.ble a b=false:=by
 cases hx:Nat.ble a b with
 | false=>rfl
 | true=>rw[Nat.ble_eq] at hx;exact absurd hx h
theorem kI0 {P:Program} {sT xT e n by_:Nat} (hT:appT P sT xT=some (e,n,by_)) {base:Option Addr} {len cap m:Nat} {cs xs:List Value} {x:Value} (hl:lenV x=some m) (hx:qS n m x h=some xs)
  (h1:cap<UC) (h2:cap<len+m) (h3:qS n len (.slice base len cap) h=some cs) (hfon:uF h.next (cs++xs)=true) (hb:(len+m)*by_≤140737488355328∧(len+m)<100000000000000) :
  uZ P sT xT (.slice base len cap) x h=some (.slice (some ⟨h.next,0,none⟩) (len+m) UC,h.add (O (cs++xs) e true)):=by
 obtain ⟨dx,i,z,hs,hxT,hni,hi,hz,hzz,hsz,hby,hn⟩:=uC0 hT
 have hbnd:(Nat.ble ((len+m)*i.bytes) 140737488355328&&Nat.blt (len+m) U)=true:=by
  rw[hby];simp only[Bool.and_eq_true,Nat.ble_eq,Nat.blt_eq];unfold U;exact hb
 have hcond:(Nat.beq z.cells.size i.size&&Nat.blt 0 i.size)=true:=by
  rw[hsz];simp only[Bool.and_eq_true,Nat.beq_eq,Nat.blt_eq];exact ⟨hzz,hn⟩
 rw[kD0 hs hxT hni hi hl]
 unfold oO0
 dsimp only
 rw[hsz,hx,yW2 h1]
 dsimp only
 rw[ble_f (by omega)]
 dsimp only
 rw[h3,hz]
 rw[hsz] at hcond
 simp only[hbnd,hcond,wU0 hfon]
theorem eF0 {P:Program} {sT xT e n by_:Nat} (hT:appT P sT xT=some (e,n,by_)) {base:Option Addr} {len cap:Nat} {x:Value} (hl:lenV x=some 0) (hx:qS n 0 x h=some []) (h1:cap<UC) (h2:len≤cap) (hs:cP0 base) :
  uZ P sT xT (.slice base len cap) x h=some (.slice base len cap,h):=by
 obtain ⟨dx,i,z,hs',hxT,hni,hi,hz,hzz,hsz,hby,hn⟩:=uC0 hT
 rw[kD0 hs' hxT hni hi hl]
 unfold oO0
 dsimp only
 rw[hsz,hx,yW2 h1]
 dsimp only
 rw[show Nat.ble (len+0) cap=true by simpa using h2]
 dsimp only
 cases base with
 | none=>rfl
 | some a=>
  obtain ⟨b,o,s⟩:=a
  rfl
theorem gW0 {P:Program} {sT xT e n by_:Nat} (hT:appT P sT xT=some (e,n,by_)) {b len m:Nat} {cs xs:List Value} {x:Value} (hl:lenV x=some m) (hx:qS n m x h=some xs)
  (hc:cells h b=some (cs,e,true)) (hlo:h.lo≤b) (hcl:cs.length=len*n) (hxf:uF h.next xs=true) (hb:(len+m)*by_≤140737488355328∧(len+m)<100000000000000) :
  uZ P sT xT (.slice (some ⟨b,0,none⟩) len UC) x h=some (.slice (some ⟨h.next,0,none⟩) (len+m) UC,{ t:=(h.t.put h.next ⟨.cells ⟨cs++xs⟩ e,true⟩).put b (qB h.next e cs),next:=h.next+1,lo:=h.lo }):=by
 obtain ⟨dx,i,z,hs,hxT,hni,hi,hz,hzz,hsz,hby,hn⟩:=uC0 hT
 have hbnd:(Nat.ble ((len+m)*i.bytes) 140737488355328&&Nat.blt (len+m) U)=true:=by
  rw[hby];simp only[Bool.and_eq_true,Nat.ble_eq,Nat.blt_eq];unfold U;exact hb
 have hcond:(Nat.beq z.cells.size i.size&&Nat.blt 0 i.size)=true:=by
  rw[hsz];simp only[Bool.and_eq_true,Nat.beq_eq,Nat.blt_eq];exact ⟨hzz,hn⟩
 rw[kD0 hs hxT hni hi hl]
 unfold oO0
 dsimp only
 rw[hsz,hx]
 have h5:(Nat.beq e e&&Nat.beq UC UC&&Nat.ble h.lo b&&Nat.beq cs.length (len*n)&&(Nat.ble ((len+m)*i.bytes) 140737488355328&&Nat.blt (len+m) U))=true:=by
  simp only[Bool.and_eq_true,Nat.beq_eq,Nat.ble_eq]
  exact ⟨⟨⟨⟨trivial,trivial⟩,hlo⟩,hcl⟩,by simpa only [Bool.and_eq_true,Nat.ble_eq] using hbnd⟩
 rw[hsz] at hcond
 have h6:(Nat.beq z.cells.size n&&Nat.blt 0 n&&uF h.next xs)=true:=by rw[hcond,hxf];rfl
 simp only[blt_f (Nat.lt_irrefl UC),hc,h5,hz,h6]
theorem qI1 (hr:Rel g σ h) {size m:Nat} {x x':Value} {xs:List Value} (hn:0<size) (hx:RV g h σ.next x x') (he:srcD size x σ=some (m,xs)) (ho:xs.all one=true) :
  lenV x'=some m∧xs.length=m*size∧∃ vs,qS size m x' h=some vs∧RVL g h σ.next xs vs:=by
 unfold srcD at he
 split at he
 ·rename_i l k1 k k2 e f cs
  split at he<;>cases he
  rename_i hlen
  simp only[RV] at hx
  obtain ⟨vs,h1,a,c,sz,rfl,h2,_⟩:=hx
  exact ⟨rfl,hlen,vs,h2.1.src (by rw[h1.len];exact hlen) hn,h1⟩
 ·split at he
  ·rename_i m' hm
   split at he
   ·rename_i l hl
    split at he<;>cases he
    rename_i hcond
    refine ⟨?_,hcond.1,?_⟩
    ·cases x<;>first|(cases hm;done)|skip
     ·rw[hx.str];exact hm
     ·simp only[RV] at hx;rw[hx.2];exact hm
    ·unfold qS at hl
     split at hl
     ·rename_i a len c
      have hx0:=hx
      simp only[RV] at hx
      obtain ⟨ha,rfl⟩:=hx
      split at hl
      ·cases hl
       exact ⟨[],by rfl,RVL.nil⟩
      ·rename_i m
       split at hl
       ·rename_i b off
        have hb:=sc_p ha
        split at hl
        ·rename_i ds e mo hc
         obtain ⟨vs,e2,h1,_,h2⟩:=hr.cells' hb hc
         split at hl
         ·rename_i l' hl'
          obtain ⟨h3,rfl⟩:=yD0 hl'
          have hq:(ds.drop off).take ((m+1)*size)=xs:=by
           revert hl
           cases Nat.ble σ.lo b with
           | true=>intro hl;cases hl;rfl
           | false=>
            cases uF σ.lo ((ds.drop off).take ((m+1)*size)) with
            | true=>intro hl;cases hl;rfl
            | false=>intro hl;cases hl
          have hsub:=(h2.drop off).take ((m+1)*size)
          rw[hq] at hsub
          have hlen:(List.take ((m+1)*size) (List.drop off vs)).length=(m+1)*size:=by rw[hsub.len];exact hcond.1
          refine ⟨(vs.drop off).take ((m+1)*size),?_,hsub⟩
          have hsl:Sl h (some ⟨g.δ b,off,none⟩) ((vs.drop off).take ((m+1)*size)):=by
           refine .inr ⟨g.δ b,off,vs,e2,mo,rfl,h1,by rw[hlen,h2.len];exact h3,by rw[hlen],?_⟩
           by_cases hlo:σ.lo≤b
           ·have hg : (σ.get b).isSome = true := by
             unfold Ev.cells at hc
             split at hc
             ·rename_i hg;rw[hg];rfl
             ·cases hc
            exact .inl (hr.dlo b ⟨hlo,hb,hg⟩)
           ·right
            unfold Ev.cells at hc
            split at hc
            ·rename_i cs' e' fr m' hg
             cases hc
             obtain ⟨ds',e'',fr',h5,h6⟩:=hr.baseF b _ (by omega) hg
             cases h5
             have hfl:=RVL.flat _ _ h6 h2
             subst hfl
             rw[hq,uS,ho,Bool.true_and]
             have hall:=zB0 h6
             exact qK fun v hv=>wR _ _ (hall v (by rw[← hq] at hv;exact List.mem_of_mem_drop (List.mem_of_mem_take hv)))
            ·cases hc
          exact hsl.src hlen hn
         ·cases hl
        ·cases hl
       ·cases hl
     ·rename_i s
      have:=hx.str
      subst this
      refine ⟨xs,hl,RVL.of_flat _ ?_⟩
      split at hl<;>cases hl
      have hof:∀ l:List UInt8,jT (l.map fun b=>Value.int .u8 b.toNat)=true:=by
       intro l
       induction l with
       | nil=>rfl
       | cons x l ih=>simp only[List.map_cons,jT,ih];rfl
      exact hof _
     ·cases hl
   ·cases he
  ·cases he
theorem jP2 (hr:Rel g σ h) {P:Program} (hP:g.P=P) {sT xT:TypeId} {s s' x x':Value} {d:Value} {σ':jA} (hs:RV g h σ.next s s') (hx:RV g h σ.next x x') (he:apD (appT P sT xT) s x σ=some (d,σ')) :
  ∃ v h',uZ P sT xT s' x' h=some (v,h')∧Eff g σ h (bH0 s σ) d σ' v h':=by
 unfold apD at he
 split at he
 ·rename_i e size by_ hT
  have hn:0<size:=(uC0 hT).choose_spec.choose_spec.choose_spec.2.2.2.2.2.2.2.2
  split at he
  ·rename_i m xs hsrc
   split at he
   ·rename_i ho
    obtain ⟨hl,hxl,vs,hvs,hxv⟩:=qI1 hr hn hx hsrc ho
    have hfx:=jI0 hr hxv ho
    unfold apB at he
    split at he
    ·simp only[RV,Option.map_none] at hs
     obtain ⟨_,rfl⟩:=hs
     split at he
     ·cases he
      rename_i hm
      subst hm
      have hv0:vs=[]:=List.length_eq_zero_iff.1 (by rw[hxv.len,hxl];simp)
      subst hv0
      exact ⟨_,_,eF0 hT hl hvs cC0 (Nat.le_refl _) qK1,g,Ext.refl,hr,RV.of_flat _ rfl,fun _ _ _=>rfl⟩
     ·rename_i hm
      split at he<;>cases he
      rename_i hb
      have h3:qS size 0 (.slice none 0 0) h=some []:=rfl
      have:=kI0 (base:=none) (len:=0) (cap:=0) (cs:=[]) hT hl hvs cC0 (by omega) h3 (by simpa using hfx) (by simpa using hb)
      rw[List.nil_append,Nat.zero_add] at this
      exact ⟨_,_,this,zK0 hr hxv ho e true m UC _⟩
    ·rename_i b n c
     simp only[RV,Option.map_some,ren] at hs
     obtain ⟨ha,rfl⟩:=hs
     have hb:=sc_p ha
     split at he
     ·rename_i cs e' mo hc
      have hg:∃ ds' fr',σ.get b=some ⟨.cells ⟨ds'⟩ e' fr',mo⟩∧ds'=cs:=by
       unfold Ev.cells at hc
       split at hc
       ·rename_i cs' e'' fr m' hg
        cases hc
        exact ⟨_,_,hg,rfl⟩
       ·cases hc
      obtain ⟨cs',fr',hg,hcs'⟩:=hg
      subst hcs'
      obtain ⟨_,_,_,_,_,hcs⟩:=hr.obj b _ hb hg
      split at he
      ·rename_i hcond
       obtain ⟨rfl,c2,c3,c4⟩:=hcond
       obtain ⟨us,h1,h2⟩:=hr.cells hb (.inl c2) hc
       have hown:uH σ b:=hr.own hb c2 hg
       have hdl:=hr.dlo b hown
       have hul:us.length=n*size:=by rw[h2.len];exact c3
       have hall:(cs'++xs).all one=true:=by rw[List.all_append,hcs,ho];rfl
       have hfa:=jI0 hr (h2.app hxv) hall
       split at he
       ·rename_i hq
        obtain ⟨rfl,rfl⟩:=hq
        cases he
        refine ⟨_,_,gW0 hT hl hvs h1 hdl hul hfx c4,?_⟩
        obtain ⟨x1,x2⟩:=cW1 hr hown (e:=e') (cs:=cs') (us:=us) (x:=O (cs'++xs) e' true) (y:=O (us++vs) e' true) h2 fun h' g' N' x hg'=>zU0 hg' ((h2.app hxv).ext x) hall
        refine ⟨_,x1,x2,?_,fun e=>by
         have e:(match cells σ b with|some (_,_,mo)=>!mo|none=>true)=true:=e
         rw[hc] at e
         cases e⟩
        have hd:(g.new σ.next h.next).δ σ.next=h.next:=if_pos rfl
        have:=RV.s0 (g:=g.new σ.next h.next) (h:={ t:=(h.t.put h.next (O (us++vs) e' true)).put (g.δ b) (qB h.next e' us),next:=h.next+1,lo:=h.lo }) (N:=σ.next+1) (i:=σ.next) (n:=n+m) (c:=UC) (by omega)
        rw[hd] at this
        exact this
       ·split at he
        ·rename_i hq
         obtain ⟨rfl,rfl⟩:=hq
         have hcU:c<UC:=by
          have:c≤(c+m)*by_+(c+m):=by omega
          have:=U_UC
          unfold U at this
          omega
         have hsl:Sl h (some ⟨g.δ b,0,none⟩) us:=Sl.row h1 hdl
         split at he
         ·cases he
          rename_i hm
          subst hm
          have hv0:vs=[]:=List.length_eq_zero_iff.1 (by rw[hxv.len,hxl];simp)
          subst hv0
          exact ⟨_,_,eF0 hT hl hvs hcU (Nat.le_refl _) (cO0 _ _),g,Ext.refl,hr,RV.s0 hb,fun _ _ _=>rfl⟩
         ·rename_i hm
          cases he
          exact ⟨_,_,kI0 hT hl hvs hcU (by omega) (hsl.src hul hn) hfa c4,zK0 hr (h2.app hxv) hall e' true _ UC _⟩
        ·cases he
      ·cases he
     ·cases he
    ·rename_i l k1 n k2 e2 cs
     have hs0:=hs
     simp only[RV] at hs
     obtain ⟨us,h1,a,c,sz,rfl,h2,h3,h4,h5,h6⟩:=hs
     obtain rfl:=h3 rfl
     split at he
     ·rename_i hcond
      obtain ⟨c1,c2,c3⟩:=hcond
      have hul:us.length=c*size:=by rw[h1.len];exact c1
      have hall:(cs++xs).all one=true:=by rw[List.all_append,c3,ho];rfl
      have hfa:=jI0 hr (h1.app hxv) hall
      have hcU:c<UC:=by
       have:c≤(c+m)*by_+(c+m):=by omega
       have:=U_UC
       unfold U at this
       omega
      split at he
      ·cases he
       rename_i hm
       subst hm
       have hv0:vs=[]:=List.length_eq_zero_iff.1 (by rw[hxv.len,hxl];simp)
       subst hv0
       exact ⟨_,_,eF0 hT hl hvs hcU (Nat.le_refl _) h2.1.spot,g,Ext.refl,hr,hs0,fun _ _ _=>rfl⟩
      ·rename_i hm
       cases he
       exact ⟨_,_,kI0 hT hl hvs hcU (by omega) (h2.1.src hul hn) hfa c2,zK0 hr (h1.app hxv) hall e true _ UC _⟩
     ·cases he
    ·cases he
   ·cases he
  ·cases he
 ·cases he
theorem uL2 (hr:Rel g σ h) {P:Program} (hP:g.P=P) {q:Nat→Bool} {D T:VT} (ht:Tms g h σ.next D T) {NG:Nat} (hNG:NG≤σ.lo) {o:Op} {t:TypeId} (ho:o.operands.all (uE NG)=true) {d:Value} {σ':jA} (he:teD P q o t D σ=some (d,σ')) :
  ∃ v h',te P o t T h=some (v,h')∧Eff g σ h (bT0 o D σ) d σ' v h':=by
 have hok:∀ x∈o.operands,uE NG x=true:=fun x hx=>by rw[Array.all_eq_true_iff_forall_mem] at ho;exact ho x hx
 have hx:∀ x∈o.operands,RV g h σ.next (ev D x) (ev T x):=fun x hx=>qD0 hr ht hNG (hok x hx)
 unfold teD at he
 split at he
 ·rename_i e
  unfold alE at he
  split at he<;>cases he
  rename_i cs hz
  have hz':jT cs=true∧cs.all one=true:=by
   unfold zro at hz
   split at hz
   ·rename_i z _
    split at hz
    ·rename_i hf
     split at hz<;>cases hz
     rename_i ho
     refine ⟨?_,?_⟩
     ·cases z with
      | agg cs=>obtain ⟨cs⟩:=cs;simpa[Ev.flat,Value.cells] using hf
      | _=>simpa[jT,Value.cells] using hf
     ·rw[uS,Bool.and_eq_true] at ho
      exact ho.1
    ·cases hz
   ·cases hz
  exact ⟨_,_,by show alE (zro P e) e h=_;rw[hz];rfl,oY0 hr (RVL.of_flat _ hz'.1) hz'.2 e false⟩
 ·rename_i e x
  have hv:=hx x (by simp[Op.operands])
  unfold bxQ at he
  split at he
  ·split at he<;>cases he
   rename_i h1
   obtain ⟨x1,x2,x3⟩:=uR1 hr (O (ev T x).cells.toList e false)
   have hrow:cells (h.add (O (ev T x).cells.toList e false)) h.next=some ((ev T x).cells.toList,e,false):=qC _ _ _ _ rfl
   refine ⟨_,_,if_pos (jI0 hr hv.cells h1.1),_,x1,x2,RV.mkRpt (o:=0) (off:=0) (hv.cells.ext (x1.e0 hr)) ⟨Sl.row hrow (by rw[jN];exact hr.hlo),fun b hb=>?_⟩ (by rw[hv.cells.len];exact h1.2),fun _=>x3⟩
   obtain ⟨o,s,e⟩:=hb
   cases e
   exact ⟨by rw[jB];omega,.inr rfl⟩
  ·unfold bxD at he
   split at he<;>cases he
   rename_i h1
   exact ⟨_,_,if_pos (jI0 hr hv.cells h1),oY0 hr hv.cells h1 e false⟩
 ·rename_i ty len parts
  refine jK2 hr hP (ps':=parts.toList.map fun x=>(x.1,ev T x.2)) (by simp) ?_ he
  have:=RVL.map_ev hr ht hNG (parts.toList.map (·.2)) fun x hxm=>by
   refine hok x ?_
   obtain ⟨y,hy,rfl⟩:=List.mem_map.1 hxm
   simp only[Op.operands,List.mem_toArray,List.mem_map]
   exact ⟨y,hy,rfl⟩
  simpa[List.map_map,Function.comp_def] using this
 ·rename_i ty a x
  exact nL1 hr (hx a (by simp[Op.operands])) (hx x (by simp[Op.operands])) he
 ·rename_i ty l c
  have hl:=hx l (by simp[Op.operands])
  have hc:=hx c (by simp[Op.operands])
  show ∃ v h',msE (mkT P ty) (ev T l) (ev T c) h=some (v,h')∧_
  unfold msE at he
  split at he
  ·rename_i e n by_ zs k1 l' k2 c' hz hld hcd
   split at he<;>cases he
   rename_i hcond
   rw[hld] at hl
   rw[hcd] at hc
   rw[hz,hl.int,hc.int]
   have hz':jT zs=true∧zs.all one=true:=by
    unfold mkT at hz
    split at hz
    ·split at hz
     ·split at hz
      ·split at hz
       ·rename_i hb
        cases hz
        simp only[Bool.and_eq_true] at hb
        refine ⟨hb.1.2,?_⟩
        have:=hb.2
        rw[uS,Bool.and_eq_true] at this
        exact this.1
       ·cases hz
      ·cases hz
     ·cases hz
    ·cases hz
   refine ⟨_,_,if_pos hcond,zK0 hr (RVL.of_flat _ (oI0 hz'.1)) ?_ e false _ _ true⟩
   rw[List.all_eq_true]
   intro v hv
   simp only[List.mem_flatten] at hv
   obtain ⟨l,hl,hv⟩:=hv
   rw[(List.mem_replicate.1 hl).2] at hv
   exact List.all_eq_true.1 hz'.2 v hv
  ·cases he
 ·rename_i s x sT xT
  exact jP2 hr hP (hx s (by simp[Op.operands,Call.operands])) (hx x (by simp[Op.operands,Call.operands])) he
 ·rename_i ty x
  have hv:=hx x (by simp[Op.operands])
  unfold rgV at he
  split at he
  ·rename_i s hu hs
   cases he
   rw[hs] at hv
   simp only[RV] at hv
   obtain ⟨x1,x2,x3⟩:=gZ0 hr (x:=itO s 0) (y:=itO s 0) fun h' g' N' _ e=>e
   refine ⟨.pointer (some ⟨h.next,0,none⟩),h.add (itO s 0),?_,_,x1,x2,?_,fun e=>by cases e⟩
   ·have hT:lR0 P ty=true:=by unfold lR0;rw[hu]
    rw[nJ0 hT,hv];rfl
   ·have:=RV.p0 (g:=g.new σ.next h.next) (h:=h.add (itO s 0)) (N:=(σ.add (itO s 0)).next) (i:=σ.next) (by rw[jB];omega)
    rw[show (g.new σ.next h.next).δ σ.next=h.next from if_pos rfl] at this
    exact this
  ·cases he
 ·rename_i x
  have hv:=hx x (by simp[Op.operands])
  unfold nxE at he
  split at he
  ·rename_i b hb
   split at he
   ·rename_i s pos hg hlo
    rw[hb] at hv
    simp only[RV,Option.map_some,ren] at hv
    obtain ⟨hsc,hv⟩:=hv
    have hlt:b<σ.next:=sc_p hsc
    have hlo':σ.lo≤b:=by simpa using hlo
    have hown:=hr.own hlt hlo' hg
    have hg':h.get (g.δ b)=some ⟨.stringIter s pos,false⟩:=hr.obj b _ hlt hg
    have hl:Nat.ble h.lo (g.δ b)=true:=by simpa using hr.dlo b hown
    cases hp:Nat.blt pos s.size with
    | true=>
     rw[hp] at he
     cases he
     obtain ⟨x1,x2⟩:=uY0 hr hown (x:=⟨.stringIter s (pos+(Utf8.decode s pos).2),false⟩) (y:=⟨.stringIter s (pos+(Utf8.decode s pos).2),false⟩) fun h' e _=>e
     refine ⟨_,_,?_,_,x1,x2,RV.of_flat _ rfl,fun e=>by cases e⟩
     show nxE (ev T x) h=_
     rw[hv]
     simp only[nxE,hg',hl,hp]
    | false=>
     rw[hp] at he
     cases he
     refine ⟨_,_,?_,_,Ext.refl,hr,RV.of_flat _ rfl,fun e=>by cases e⟩
     show nxE (ev T x) h=_
     rw[hv]
     simp only[nxE,hg',hl,hp]
   ·cases he
  ·cases he
 ·cases he
def apO:Cl→Op→Bool
 | .eff,.call ⟨.builtin .append,_,_⟩=>true
 | _,_=>false
def AgrL (h h':jA):Prop:=∀ b,b<h.next→h'.get b=h.get b∨Ev.cells h' b=none
theorem jQ2 (hr:Rel g σ h) {P:Program} (hP:g.P=P) {sT xT:TypeId} {s s' x x':Value} {d:Value} {σ':jA} (hs:RV g h σ.next s s') (hx:RV g h σ.next x x') (he:apD (appT P sT xT) s x σ=some (d,σ')) (hp:bH0 s σ=false) {v:Value} {h':jA} (hv:uZ P sT xT s' x' h=some (v,h')):AgrL h h':=by
 unfold apD at he
 split at he
 ·rename_i e size by_ hT
  have hn:0<size:=(uC0 hT).choose_spec.choose_spec.choose_spec.2.2.2.2.2.2.2.2
  split at he
  ·rename_i m xs hsrc
   split at he
   ·rename_i ho
    obtain ⟨hl,hxl,vs,hvs,hxv⟩:=qI1 hr hn hx hsrc ho
    have hfx:=jI0 hr hxv ho
    unfold apB at he
    split at he
    ·cases hp
    ·rename_i b n c
     simp only[RV,Option.map_some,ren] at hs
     obtain ⟨ha,rfl⟩:=hs
     have hb:=sc_p ha
     split at he
     ·rename_i cs e' mo hc
      have hp':(match Ev.cells σ b with|some (_,_,mo)=>!mo|none=>true)=false:=hp
      rw[hc] at hp'
      have hmo:mo=true:=by simpa using hp'
      subst hmo
      obtain ⟨fr',hg⟩:=uI hc
      split at he
      ·rename_i hcond
       obtain ⟨rfl,c2,c3,c4⟩:=hcond
       obtain ⟨us,h1,h2⟩:=hr.cells hb (.inl c2) hc
       have hown:uH σ b:=hr.own hb c2 hg
       have hul:us.length=n*size:=by rw[h2.len];exact c3
       split at he
       ·rename_i hq
        obtain ⟨-,rfl⟩:=hq
        have:=gW0 hT hl hvs h1 (hr.dlo b hown) hul hfx c4
        rw[this] at hv
        cases hv
        intro k hk
        have hgm:=fun y=>jH0 (h:=h) (b:=g.δ b) (x':=⟨.cells ⟨us++vs⟩ e',true⟩) (y:=y) k
        by_cases hkb:k=g.δ b
        ·right
         unfold Ev.cells
         rw[hgm,if_pos hkb]
         rfl
        ·left
         rw[hgm,if_neg hkb,if_neg (by omega)]
       ·split at he
        ·rename_i hq;cases hq.1
        ·cases he
      ·cases he
     ·cases he
    ·cases hp
    ·cases he
   ·cases he
  ·cases he
 ·cases he
theorem uN2 (hr:Rel g σ h) {P:Program} (hP:g.P=P) {q:Nat→Bool} {D T:VT} (ht:Tms g h σ.next D T) {NG:Nat} (hNG:NG≤σ.lo) {o:Op} {t:TypeId} (ho:o.operands.all (uE NG)=true) {d:Value} {σ':jA} (he:teD P q o t D σ=some (d,σ'))
  (hap:apO .eff o=true) {v:Value} {h':jA} (hv:te P o t T h=some (v,h')) (hA:bT0 o D σ=true→Agr h h'):AgrL h h':=by
 cases hb:bT0 o D σ with
 | true=>exact fun b hlt=>.inl (hA hb b hlt)
 | false=>
  have hok:∀ x∈o.operands,uE NG x=true:=fun x hx=>by rw[Array.all_eq_true_iff_forall_mem] at ho;exact ho x hx
  have hx:∀ x∈o.operands,RV g h σ.next (ev D x) (ev T x):=fun x hx=>qD0 hr ht hNG (hok x hx)
  unfold teD at he
  split at he
  all_goals first|(cases hap;done)|(cases he;done)|skip
  rename_i s x sT xT
  exact jQ2 hr hP (hx s (by simp[Op.operands,Call.operands])) (hx x (by simp[Op.operands,Call.operands])) he hb hv
end
section
variable {P:Program} {h h':jA}
structure Same (h h':jA):Prop where
 c:∀ b x,cells h b=some x→cells h' b=some x
 lo:h'.lo=h.lo
theorem wN1 (s:Same h h') {t:TypeId} {a v:Value} (he:jJ P t a h=some v):jJ P t a h'=some v:=by
 unfold jJ at he ⊢
 split at he
 ·rename_i b off
  (try dsimp only)
  split at he
  ·rename_i cs e m hc
   rw[s.c b _ hc,s.lo]
   exact he
  ·cases he
 ·cases he
theorem bF0 (s:Same h h') {t n c:Nat} {a:Option Addr} {lo hi mx:Option Value} {v:Value} (he:uA P t a n c lo hi mx h=some v):uA P t a n c lo hi mx h'=some v:=by
 unfold uA at he ⊢
 split at he
 ·rename_i e b off hu
  split at he
  ·rename_i size cs e' hs hc
   rw[s.c b _ hc]
   (try rw[hs])
   exact he
  ·cases he
 ·cases he
theorem cH1 (s:Same h h') {t:TypeId} {x:Value} {lo hi mx:Option Value} {v:Value} (he:slV P t x lo hi mx h=some v):slV P t x lo hi mx h'=some v:=by
 unfold slV at he ⊢
 split at he
 ·exact he
 ·rename_i a n c
  (try dsimp only)
  split at he
  ·rename_i u hu;exact he
  ·rename_i hu;exact bF0 s he
 ·exact he
 ·cases he
theorem pL0 (s:Same h h') {t:TypeId} {x:Value} {lo hi mx:Option Value} {v:Value×Value} (he:tailV P t x lo hi mx h=some v):tailV P t x lo hi mx h'=some v:=by
 unfold tailV at he ⊢
 split at he
 ·rename_i b off n c
  (try dsimp only)
  split at he
  ·rename_i e cs e' hu hc
   rw[s.c b _ hc]
   (try rw[hu])
   exact he
  ·cases he
 ·cases he
theorem eO1 (s:Same h h') {a b:TypeId} {x v:Value} (he:btS P a b x h=some v):btS P a b x h'=some v:=by
 unfold btS at he ⊢
 split at he
 ·exact he
 ·exact he
 ·rename_i e b o n c hn h1 h2
  cases n with
  | zero=>exact absurd rfl hn
  | succ n=>
   have he:(match P.underlying e,cells h b with|some (.int .u8),some (cs,_,_)=>(match takeN cs o (n+1) with|some l=>(match bytesOf l with|some l=>some (Value.string ⟨⟨l⟩⟩)|none=>none)|none=>none)|_,_=>none)=some v:=he
   show (match P.underlying e,cells h' b with|some (.int .u8),some (cs,_,_)=>(match takeN cs o (n+1) with|some l=>(match bytesOf l with|some l=>some (Value.string ⟨⟨l⟩⟩)|none=>none)|none=>none)|_,_=>none)=some v
   split at he
   ·rename_i cs e' m h3 hc
    rw[s.c b _ hc]
    (try rw[h3])
    exact he
   ·cases he
 ·cases he
theorem eF1 (s:Same h h') {a b:TypeId} {x v:Value} (he:cvV P a b x h=some v):cvV P a b x h'=some v:=by
 unfold cvV at he ⊢
 split at he
 ·exact he
 ·exact eO1 s he
theorem mZ1 (s:Same h h') {o:Op} {t:TypeId} {T:VT} {v:Value} (he:tv P o t T h=some v):tv P o t T h'=some v:=by
 unfold tv at he ⊢
 split at he
 ·exact wN1 s he
 ·exact cH1 s he
 ·exact eF1 s he
 ·exact he
theorem mY1 (s:Same h h') {o:Op} {T:VT} {v:Value×Value} (he:tw P o T h=some v):tw P o T h'=some v:=by
 unfold tw at he ⊢
 split at he
 ·exact pL0 s he
 ·cases he
end
theorem Same.of {g:Gh} {σ h h':jA} (hr:Rel g σ h) (ha:Agr h h') (hlo:h'.lo=h.lo):Same h h':=by
 refine ⟨fun b x hc=>?_,hlo⟩
 have hb:b<h.next:=by
  rcases Nat.lt_or_ge b h.next with h1|h1
  ·exact h1
  ·have:=hr.wf b h1
   unfold Ev.cells at hc
   rw[this] at hc
   cases hc
 exact (qT (ha b hb)).trans hc
structure iR0 (h h':jA):Prop where
 c:∀ b x,cells h b=some x→cells h' b=some x∨cells h' b=none
 lo:h'.lo=h.lo
theorem iR0.of {g:Gh} {σ h h':jA} (hr:Rel g σ h) (ha:AgrL h h') (hlo:h'.lo=h.lo):iR0 h h':=by
 refine ⟨fun b x hc=>?_,hlo⟩
 have hb:b<h.next:=by
  rcases Nat.lt_or_ge b h.next with h1|h1
  ·exact h1
  ·have:=hr.wf b h1
   unfold Ev.cells at hc
   rw[this] at hc
   cases hc
 rcases ha b hb with h1|h1
 ·exact .inl ((qT h1).trans hc)
 ·exact .inr h1
theorem sK0 {P:Program} {h h':jA} (s:iR0 h h') {t:TypeId} {a v v':Value} (he:jJ P t a h=some v) (he':jJ P t a h'=some v'):jJ P t a h'=some v:=by
 have hp:∃ b off,a=.pointer (some ⟨b,off,none⟩):=by
  unfold jJ at he
  split at he
  ·exact ⟨_,_,rfl⟩
  ·cases he
 obtain ⟨b,off,rfl⟩:=hp
 rw[zV0] at he he' ⊢
 rw[s.lo]
 cases hc:cells h b with
 | none=>rw[hc] at he;cases he
 | some x=>
  rcases s.c b x hc with h1|h1
  ·rw[h1,← hc];exact he
  ·rw[h1] at he';cases he'
structure Q where
 m:Nat→Bool
 H:jA
def Gh.ok (g:Gh) (p:Par) (H:jA):Prop:=g.P=p.P∧g.H0=H
theorem Ext.ok {g g':Gh} {σ h σ' h':jA} (x:Ext g σ h g' σ' h') {p:Par} {H:jA} (hP:g.ok p H):g'.ok p H:=⟨x.P.trans hP.1,x.H0.trans hP.2⟩
def jC (p:Par) (H:jA) (f:Value) (args:List Value) (σ:jA) (K:Bool→Value→jA→Prop):Prop:=
 ∀ (g:Gh) (h:jA) (fv:Value) (vs:List Value),g.ok p H→Rel g σ h→RV g h σ.next f fv→RVL g h σ.next args vs→yB0 p fv vs h fun u h'=>∃ b d σ',K b d σ'∧Eff g σ h b d σ' u h'
def vopD (p:Par) (q:Q) (c:Cl) (o:Op) (t:TypeId) (tm:VT) (σ:jA) (K:Bool→Value→jA→Prop):Prop:=
 match c with
 | .take=>oP (tvD p.P o t tm σ) σ (K true)
 | .eff=>oE (teD p.P q.m o t tm σ) (K (bT0 o tm σ))
 | .call=>match o with
  | .call ⟨.value f,args,_⟩=>jC p q.H (ev tm f) (args.toList.map (ev tm)) σ K
  | _=>False
def dops (p:Par) (q:Q):List It→VT→jA→(VT→jA→Prop)→Prop
 | [],tm,σ,K=>K tm σ
 | x :: l,tm,σ,K=>vgd tm x.g (vopD p q x.c x.o x.t tm σ fun _ v σ'=>dops p q l (put tm x.d v) σ' K) (dops p q l (put tm x.d undef) σ K)
def ldK (P:Program) (t:TypeId) (a:Value) (σ:jA):Option Value:=ldD P t a σ
def nrd (_:jA):Option Value:=none
def rdD (P:Program) (o:Op) (tm:VT):jA→Option Value:=match o with
 | .load ty a=>ldK P ty (ev tm a)
 | _=>nrd
def eqv:Value→Bool
 | .pointer _=>true
 | .slice _ _ _=>true
 | .bool _=>true
 | .int _ _=>true
 | .string _=>true
 | .agg a=>Ev.flat (.agg a)
 | _=>false
abbrev LD:=List (Nat×(jA→Option Value)×Value)
def cst (rd:jA→Option Value):Prop:=∀ τ τ',rd τ=rd τ'
def kE (σ:jA) (rd:jA→Option Value) (v:Value):Prop:=rd σ=some v∧(eqv v=true∨cst rd)
def memN (i:Nat):List Nat→Bool
 | []=>false
 | x :: l=>match Nat.beq i x with | true=>true | false=>memN i l
def kL (bind:List Nat) (σ:jA) (L:LD):Prop:=List.rec (motive:=fun _=>Prop) True (fun x _ ih=>Bool.rec (motive:=fun _=>Prop) (kE σ x.2.1 x.2.2∧ih) ih (memN x.1 bind)) L
def kD (c:Bool) (A:Prop):Prop:=Bool.rec (motive:=fun _=>Prop) A True c
def kW0 (c:Bool) (bind:List Nat) (σ:jA) (L:LD):Prop:=kD c (kL bind σ L)
def kA (σ:jA) (rd:jA→Option Value) (v:Value):Prop:=rd σ=some v
def kLA (bind:List Nat) (σ:jA) (L:LD):Prop:=List.rec (motive:=fun _=>Prop) True (fun x _ ih=>Bool.rec (motive:=fun _=>Prop) (kA σ x.2.1 x.2.2∧ih) ih (memN x.1 bind)) L
def fQ0 (x:It) (c:Bool) (bind:List Nat) (σ:jA) (L:LD):Prop:=match x.g,x.c,x.o with
 | none,.eff,.call ⟨.builtin .append,_,_⟩=>kD c (kLA bind σ L)
 | _,_,_=>kW0 c bind σ L
def wE0 (b:List Nat) (L:LD):LD:=List.rec (motive:=fun _=>LD) [] (fun x _ ih=>Bool.rec (motive:=fun _=>LD) (x :: ih) ih (memN x.1 b)) L
def wF0 (p:Par) (q:Q):PT→LD→VT→jA→(VT→jA→Prop)→Prop
 | .fin,_,tm,σ,K=>K tm σ
 | .no,_,_,_,_=>True
 | .bad,_,_,_,_=>False
 | .take i rd x k, L, tm, σ, K => vgd tm x.g
   (match rd with
    | false=>oP (tpD p.P x.o x.t tm) σ fun v _=>wF0 p q k L (put tm x.d v) σ K
    | true=>oP (tvD p.P x.o x.t tm σ) σ fun v _=>wF0 p q k ((i,rdD p.P x.o tm,v) :: L) (put tm x.d v) σ K)
   (wF0 p q k (match rd with|false=>L|true=>(i,rdD p.P x.o tm,undef) :: L) (put tm x.d undef) σ K)
 | .eff _ x bind k alt,L,tm,σ,K=>vgd tm x.g (vopD p q x.c x.o x.t tm σ fun b v σ'=>fQ0 x b bind σ' L∧wF0 p q k (wE0 bind L) (put tm x.d v) σ' K) (wF0 p q k (wE0 bind L) (put tm x.d undef) σ K)∧wF0 p q alt L tm σ K
def itOk (NG:Nat) (x:It):Bool:=x.o.operands.all (uE NG)
def ptOk (NG:Nat):PT→Bool
 | .take _ _ x k=>itOk NG x&&ptOk NG k
 | .eff _ x _ k alt=>itOk NG x&&ptOk NG k&&ptOk NG alt
 | _=>true
section
variable {p:Par} {q:Q} {NG:Nat}
theorem iW0 {g:Gh} {h:jA} {N:Nat} {D T:VT} (ht:Tms g h N D T) {y:Option (Nat×Bool)} {A B A' B':Prop} (hA:A→A') (hB:B→B') (hv:vgd D y A B):vgd T y A' B':=by
 unfold vgd at hv ⊢
 cases y with
 | none=>exact hA hv
 | some z=>
  obtain ⟨d,w⟩:=z
  dsimp only at hv ⊢
  have hrv:=ht.get d
  unfold gV at hv ⊢
  split at hv
  ·rename_i b hb
   rw[(hrv.bool b).2 hb]
   exact ⟨fun e=>hA (hv.1 e),fun e=>hB (hv.2 e)⟩
  ·rename_i hne
   split
   ·rename_i b hb
    exact absurd ((hrv.bool b).1 hb) (hne b)
   ·exact hB hv
theorem jU1 {g:Gh} {σ h:jA} (hr:Rel g σ h) (hP:g.ok p q.H) {D T:VT} (ht:Tms g h σ.next D T) (hNG:NG≤σ.lo) {c:Cl} {o:Op} {t:TypeId} (ho:o.operands.all (uE NG)=true) {K:Bool→Value→jA→Prop}
  (hv:vopD p q c o t D σ K) {k:Value→jA→Prop} (hk:∀ b d σ' v h',K b d σ'→Eff g σ h b d σ' v h'→(apO c o=true→AgrL h h')→k v h'):vop p c o t T h k:=by
 cases c with
 | take=>
  simp only[vopD] at hv
  cases he:tvD p.P o t D σ with
  | none=>rw[he] at hv;exact hv.elim
  | some d=>
   rw[he] at hv
   have hK:∀ v,RV g h σ.next d v→k v h:=fun v hrv=>hk true d σ v h hv ⟨g,Ext.refl,hr,hrv,fun _ _ _=>rfl⟩ (fun e=>by cases e)
   simp only[vop]
   rcases lG1 hr hP.1 ht hNG ho he with ⟨v,h1,h2⟩|⟨h1,u1,u2,h2,h3,h4⟩
   ·rw[h1];exact hK v h2
   ·rw[h1,h2];exact ⟨hK u1 h3,hK u2 h4⟩
 | eff=>
  simp only[vopD] at hv
  cases he:teD p.P q.m o t D σ with
  | none=>rw[he] at hv;exact hv.elim
  | some x=>
   obtain ⟨d,σ'⟩:=x
   rw[he] at hv
   obtain ⟨v,h',h1,h2⟩:=uL2 hr hP.1 ht hNG ho he
   simp only[vop,h1]
   exact hk _ d σ' v h' hv h2 (fun hap=>uN2 hr hP.1 ht hNG ho he hap h1 h2.choose_spec.2.2.2)
 | call=>
  simp only[vopD,vop] at hv ⊢
  split at hv
  ·rename_i f args ats
   have hok:∀ x∈(Op.call ⟨.value f,args,ats⟩).operands,uE NG x=true:=fun x hx=>by rw[Array.all_eq_true_iff_forall_mem] at ho;exact ho x hx
   refine (hv g h _ _ hP hr (qD0 hr ht hNG (hok f (by simp[Op.operands,Call.operands]))) (RVL.map_ev hr ht hNG args.toList fun x hx=>hok x (by simp[Op.operands,Call.operands,Array.mem_toList_iff.1 hx]))).mono ?_
   rintro u h' ⟨b,d,σ',h1,h2⟩
   exact hk b d σ' u h' h1 h2 (fun e=>by cases e)
  ·exact hv.elim
def Aft (g:Gh) (σ h:jA) (K:VT→jA→Prop) (T:VT) (h':jA):Prop:=∃ g' σ' D,K D σ'∧Ext g σ h g' σ' h'∧Rel g' σ' h'∧Tms g' h' σ'.next D T
theorem Aft.of {g g1:Gh} {σ h σ1 h1:jA} (x:Ext g σ h g1 σ1 h1) {K:VT→jA→Prop} {T:VT} {h':jA} (ha:Aft g1 σ1 h1 K T h'):Aft g σ h K T h':=by
 obtain ⟨g',σ',D,h2,h3,h4⟩:=ha
 exact ⟨g',σ',D,h2,x.trans h3,h4⟩
theorem eB0 {K:VT→jA→Prop}:∀ (l:List It),l.all (itOk NG)=true→∀ {g:Gh} {σ h:jA} (hr:Rel g σ h) (hP:g.ok p q.H) {D T:VT} (ht:Tms g h σ.next D T) (hNG:NG≤σ.lo),dops p q l D σ K→vops p l T h (Aft g σ h K)
 | [],_,g,σ,h,hr,hP,D,T,ht,hNG,hv=>⟨g,σ,D,hv,Ext.refl,hr,ht⟩
 | x :: l,hok,g,σ,h,hr,hP,D,T,ht,hNG,hv=>by
  simp only[List.all_cons,Bool.and_eq_true] at hok
  simp only[dops] at hv
  simp only[vops]
  refine iW0 ht (fun hv=>?_) (fun hv=>?_) hv
  ·refine jU1 hr hP ht hNG hok.1 hv fun b d σ' v h' hK he _=>?_
   obtain ⟨g',x1,x2,x3,_⟩:=he
   refine qE0 (fun T h2 ha=>Aft.of x1 ha) l _ _ ?_
   exact eB0 l hok.2 x2 (x1.ok hP) ((ht.ext (x1.e0 hr)).put _ x3) (by rw[x1.lo];exact hNG) hK
  ·exact eB0 l hok.2 hr hP (ht.put _ RV.undef) hNG hv
theorem jC2 {g g':Gh} {h h':jA} {N N':Nat} (hδ:∀ i,i<N→g'.δ i=g.δ i) {d v v':Value} (he:eqv d=true) (h1:RV g h N d v) (h2:RV g' h' N' d v'):v'=v:=by
 by_cases hf:Ev.flat d=true
 ·rw[RV.flat _ _ hf h2,RV.flat _ _ hf h1]
 have hm:∀ a:Option Addr,fscP N a=true→a.map (ren g'.δ)=a.map (ren g.δ):=fun a ha=>by
  cases a with
  | none=>rfl
  | some x=>
   obtain ⟨b,o,s⟩:=x
   have hb:b<N:=by
    rw[qN] at ha
    simpa[Ev.sc,scA] using ha
   simp only[Option.map_some,ren,hδ b hb]
 cases d<;>simp only[eqv,Bool.false_eq_true] at he<;>first|exact absurd he hf|simp only[RV] at h1 h2
 all_goals first|rw[h1.2,h2.2,hm _ h1.1]|rw[h1,h2]
structure RdOk (g:Gh) (σ h:jA) (x e:Nat×(jA→Option Value)×Value):Prop where
 i:x.1=e.1
 now:e.2.1 h=some e.2.2
 st:∀ h1 h2,Same h1 h2→e.2.1 h1=some e.2.2→e.2.1 h2=some e.2.2
 sim:∀ g' σ' h',Ext g σ h g' σ' h'→Rel g' σ' h'→(eqv x.2.2=true∨cst x.2.1)→x.2.1 σ'=some x.2.2→e.2.1 h'=some e.2.2
 sim2:∀ g' σ' h' h1,Ext g σ h g' σ' h'→Rel g' σ' h'→iR0 h1 h'→e.2.1 h1=some e.2.2→x.2.1 σ'=some x.2.2→e.2.1 h'=some e.2.2
def LOk (g:Gh) (σ h:jA) (L:HL) (M:LD):Prop:=∀ e∈L,∃ x∈M,RdOk g σ h x e
theorem nX0 (i:Nat):∀ l:List Nat,memN i l=true↔i∈l
 | []=>by simp[memN]
 | x :: l=>by
  rw[memN]
  cases hb:Nat.beq i x with
  | true=>simp[Nat.eq_of_beq_eq_true hb]
  | false=>
   have:i≠x:=fun e=>by subst e;rw[Nat.beq_refl] at hb;cases hb
   simp[nX0 i l,this]
theorem lO0 {i:Nat} {b:List Nat} (h:¬ i∈b):memN i b=false:=by
 cases hc:memN i b with
 | false=>rfl
 | true=>exact absurd ((nX0 i b).1 hc) h
theorem oA0 {bind:List Nat} {σ:jA}:∀ {M:LD},kL bind σ M→∀ x∈M,¬ x.1∈bind→kE σ x.2.1 x.2.2
 | y :: M,hk,x,hx,hn=>by
  have hk':Bool.rec (motive:=fun _=>Prop) (kE σ y.2.1 y.2.2∧kL bind σ M) (kL bind σ M) (memN y.1 bind):=hk
  rcases List.mem_cons.1 hx with rfl|hx
  ·rw[lO0 hn] at hk';exact hk'.1
  ·cases hc:memN y.1 bind with
   | true=>rw[hc] at hk';exact oA0 hk' x hx hn
   | false=>rw[hc] at hk';exact oA0 hk'.2 x hx hn
theorem dM0 {bind:List Nat} {σ:jA}:∀ {M:LD},kLA bind σ M→∀ x∈M,¬ x.1∈bind→kA σ x.2.1 x.2.2
 | y :: M,hk,x,hx,hn=>by
  have hk':Bool.rec (motive:=fun _=>Prop) (kA σ y.2.1 y.2.2∧kLA bind σ M) (kLA bind σ M) (memN y.1 bind):=hk
  rcases List.mem_cons.1 hx with rfl|hx
  ·rw[lO0 hn] at hk';exact hk'.1
  ·cases hc:memN y.1 bind with
   | true=>rw[hc] at hk';exact dM0 hk' x hx hn
   | false=>rw[hc] at hk';exact dM0 hk'.2 x hx hn
theorem zF0 {bind:List Nat}:∀ {M:LD},∀ x∈M,¬ x.1∈bind→x∈wE0 bind M
 | y :: M,x,hx,hn=>by
  show x∈Bool.rec (motive:=fun _=>LD) (y :: wE0 bind M) (wE0 bind M) (memN y.1 bind)
  rcases List.mem_cons.1 hx with rfl|hx
  ·rw[lO0 hn];exact List.mem_cons_self ..
  ·cases hc:memN y.1 bind with
   | true=>exact zF0 x hx hn
   | false=>exact List.mem_cons_of_mem _ (zF0 x hx hn)
section
variable {g g':Gh} {σ h σ' h':jA} {L:HL} {M:LD} {b:Bool} {bind:List Nat}
theorem RdOk.go {x e:Nat×(jA→Option Value)×Value} (hl:RdOk g σ h x e) (hx:Ext g σ h g' σ' h') (hr:Rel g' σ' h') (hk:b=true∨kE σ' x.2.1 x.2.2∨(iR0 h h'∧kA σ' x.2.1 x.2.2)) (hs:b=true→Same h h'):RdOk g' σ' h' x e:=
 ⟨hl.i,hk.elim (fun hb=>hl.st _ _ (hs hb) hl.now) (fun hk=>hk.elim (fun hk=>hl.sim _ _ _ hx hr hk.2 hk.1) (fun hk=>hl.sim2 _ _ _ _ hx hr hk.1 hl.now hk.2)),hl.st,fun g2 σ2 h2 hx2=>hl.sim g2 σ2 h2 (hx.trans hx2),fun g2 σ2 h2 h1 hx2=>hl.sim2 g2 σ2 h2 h1 (hx.trans hx2)⟩
theorem dF1 {x:It} (hk:fQ0 x b bind σ' M):b=true∨kL bind σ' M∨(apO x.c x.o=true∧kLA bind σ' M):=by
 cases b with
 | true=>exact .inl rfl
 | false=>
  right
  unfold fQ0 at hk
  split at hk
  ·rename_i hc ho;exact .inr ⟨by rw[hc,ho];rfl,hk⟩
  ·exact .inl hk
theorem LOk.kept (hl:LOk g σ h L M) (hk:b=true∨kL bind σ' M∨(iR0 h h'∧kLA bind σ' M)) (hx:Ext g σ h g' σ' h') (hr:Rel g' σ' h') (hs:b=true→Same h h'):bI0 bind h' L:=by
 induction L with
 | nil=>trivial
 | cons e L ih=>
  obtain ⟨i,rd,v⟩:=e
  refine ⟨?_,ih fun e he=>hl e (List.mem_cons_of_mem _ he)⟩
  cases hb:bind.contains i with
  | true=>trivial
  | false=>
   have hni:i∉bind:=fun hi=>by simp at hb;exact hb hi
   obtain ⟨x,hxm,hx1⟩:=hl (i,rd,v) (List.mem_cons_self ..)
   have hni':¬ x.1∈bind:=by rw[hx1.i];exact hni
   exact (hx1.go hx hr (hk.imp id fun hk=>hk.imp (fun hk=>oA0 hk x hxm hni') fun hk=>⟨hk.1,dM0 hk.2 x hxm hni'⟩) hs).now
theorem LOk.next (hl:LOk g σ h L M) (hk:b=true∨kL bind σ' M∨(iR0 h h'∧kLA bind σ' M)) (hx:Ext g σ h g' σ' h') (hr:Rel g' σ' h') (hs:b=true→Same h h'):LOk g' σ' h' (gR0 bind L) (wE0 bind M):=by
 intro e he
 obtain ⟨h1,h2⟩:=List.mem_filter.1 he
 have hni:e.1∉bind:=by simpa using h2
 obtain ⟨x,hxm,hx1⟩:=hl e h1
 have hni':¬ x.1∈bind:=by rw[hx1.i];exact hni
 exact ⟨x,zF0 x hxm hni',hx1.go hx hr (hk.imp id fun hk=>hk.imp (fun hk=>oA0 hk x hxm hni') fun hk=>⟨hk.1,dM0 hk.2 x hxm hni'⟩) hs⟩
theorem LOk.drop (bind:List Nat) (hl:LOk g σ h L M):LOk g σ h (gR0 bind L) (wE0 bind M):=by
 intro e he
 obtain ⟨h1,h2⟩:=List.mem_filter.1 he
 have hni:e.1∉bind:=by simpa using h2
 obtain ⟨x,hxm,hx1⟩:=hl e h1
 exact ⟨x,zF0 x hxm (by rw[hx1.i];exact hni),hx1⟩
theorem LOk.cons (hl:LOk g σ h L M) {x e:Nat×(jA→Option Value)×Value} (hx:RdOk g σ h x e):LOk g σ h (e :: L) (x :: M):=by
 intro e' he
 rcases List.mem_cons.1 he with rfl|he
 ·exact ⟨x,List.mem_cons_self ..,hx⟩
 ·obtain ⟨y,h1,h2⟩:=hl e' he
  exact ⟨y,List.mem_cons_of_mem _ h1,h2⟩
theorem LOk.more (hl:LOk g σ h L M) (x:Nat×(jA→Option Value)×Value):LOk g σ h L (x :: M):=fun e he=>by
 obtain ⟨y,h1,h2⟩:=hl e he
 exact ⟨y,List.mem_cons_of_mem _ h1,h2⟩
theorem rd_ok (hr:Rel g σ h) {P:Program} {D T:VT} (ht:Tms g h σ.next D T) {NG:Nat} (hNG:NG≤σ.lo) {o:Op} {t:TypeId} (ho:o.operands.all (uE NG)=true) {d v:Value} (hv:tv P o t T h=some v) (hd:RV g h σ.next d v) (i:Nat) :
  RdOk g σ h (i,rdD P o D,d) (i,fun h'=>tv P o t T h',v):=by
 refine ⟨rfl,hv,fun h1 h2 hs he=>mZ1 hs he,fun g' σ' h' hx hr' hq he=>?_,fun g' σ' h' h1 hx hr' hs hv1 he=>?_⟩
 rotate_left
 ·have he':rdD P o D σ'=some d:=he
  unfold rdD at he'
  split at he'
  ·rename_i ty a
   have ha:RV g' h' σ'.next (ev D a) (ev T a):=qD0 hr' (ht.ext (hx.e0 hr)) (by rw[hx.lo];exact hNG) (by
    rw[Array.all_eq_true_iff_forall_mem] at ho
    exact ho a (by simp[Op.operands]))
   obtain ⟨v',h2,_⟩:=lP0 hr' ha he'
   exact sK0 hs hv1 h2
  ·cases he'
 have he':rdD P o D σ'=some d:=he
 unfold rdD at he'
 split at he'
 ·rename_i ty a
  have ht':=ht.ext (hx.e0 hr)
  have ha:RV g' h' σ'.next (ev D a) (ev T a):=qD0 hr' ht' (by rw[hx.lo];exact hNG) (by
   rw[Array.all_eq_true_iff_forall_mem] at ho
   exact ho a (by simp[Op.operands]))
  rcases hq with hq|hq
  ·obtain ⟨v',h1,h2⟩:=lP0 hr' ha he'
   have:=jC2 (hx.e0 hr).δ hq hd h2
   subst this
   exact h1
  ·have hr0:ldD P ty (ev D a) ⟨.nil,0,0⟩=some d:=(hq ⟨.nil,0,0⟩ σ').trans he'
   have ha0:RV g h σ.next (ev D a) (ev T a):=qD0 hr ht hNG (by
    rw[Array.all_eq_true_iff_forall_mem] at ho
    exact ho a (by simp[Op.operands]))
   have hv0:jJ P ty (ev T a) h=some v:=hv
   show jJ P ty (ev T a) h'=some v
   revert ha0 hr0
   generalize ev D a=da
   intro hr0 ha0
   unfold ldD at hr0
   split at hr0
   ·rename_i l k off cs
    simp only[RV] at ha0
    obtain ⟨vs,h1,b,o,e1,h2,h3⟩:=ha0
    rw[e1] at hv0 ⊢
    obtain ⟨hb,hF⟩:=h2.2 b ⟨o,none,rfl⟩
    rw[zV0] at hv0 ⊢
    rw[hx.hlo,qT ((hx.e0 hr).get b hF hb)]
    exact hv0
   ·rename_i a' _
    exfalso
    unfold jJ at hr0
    split at hr0
    ·have hc : ∀ b, Ev.cells ⟨.nil, 0, 0⟩ b = none := fun b => by
      unfold Ev.cells
      have:(⟨.nil,0,0⟩:jA).get b=none:=Tr.get_nil b
      rw[this]
     rw[hc _] at hr0
     cases hr0
    ·cases hr0
 ·cases he'
theorem wM2 (hr:Rel g σ h) {P:Program} {D T:VT} {o:Op} {t:TypeId} {d:Value} {i:Nat} {f:Value×Value→Value} {u:Value×Value} (hn:tv P o t T h=none) (hw:tw P o T h=some u) :
  RdOk g σ h (i,rdD P o D,d) (i,fun h'=>(tw P o T h').map f,f u):=by
 have hst:∀ h1 h2,Same h1 h2→(tw P o T h1).map f=some (f u)→(tw P o T h2).map f=some (f u):=fun h1 h2 hs he=>by
  cases hc:tw P o T h1 with
  | none=>rw[hc] at he;cases he
  | some w=>rw[hc] at he;rw[mY1 hs hc];exact he
 refine ⟨rfl,by show (tw P o T h).map f=_;rw[hw];rfl,hst,fun g' σ' h' hx hr' hq he=>?_,fun g' σ' h' h1 hx hr' hs hv1 he=>?_⟩
 all_goals
  have he':rdD P o D σ'=some d:=he
  unfold rdD at he'
  split at he'
  ·cases hw
  ·cases he'
end
theorem wV {K:VT→jA→Prop}:∀ (t:PT),ptOk NG t=true→∀ {g:Gh} {σ h:jA} (hr:Rel g σ h) (hP:g.ok p q.H) {D T:VT} (ht:Tms g h σ.next D T) (hNG:NG≤σ.lo) {L:HL} {M:LD} (hl:LOk g σ h L M),wF0 p q t M D σ K→uT p t L T h (Aft g σ h K)
 | .fin,_,g,σ,h,hr,hP,D,T,ht,hNG,L,M,hl,hv=>⟨g,σ,D,hv,Ext.refl,hr,ht⟩
 | .no,_,g,σ,h,hr,hP,D,T,ht,hNG,L,M,hl,hv=>trivial
 | .bad,_,g,σ,h,hr,hP,D,T,ht,hNG,L,M,hl,hv=>hv
 | .take i rd x k,hok,g,σ,h,hr,hP,D,T,ht,hNG,L,M,hl,hv=>by
  simp only[ptOk,Bool.and_eq_true] at hok
  simp only[wF0] at hv
  simp only[uT]
  refine iW0 ht (fun hv=>?_) (fun hv=>?_) hv
  ·cases rd with
   | false=>
    dsimp only at hv ⊢
    cases he:tpD p.P x.o x.t D with
    | none=>rw[he] at hv;exact hv.elim
    | some d=>
     rw[he] at hv
     obtain ⟨v,h1,h2⟩:=lH1 hr ht hNG hok.1 he
     rw[h1]
     exact wV k hok.2 hr hP (ht.put _ h2) hNG hl hv
   | true=>
    dsimp only at hv ⊢
    cases he:tvD p.P x.o x.t D σ with
    | none=>rw[he] at hv;exact hv.elim
    | some d=>
     rw[he] at hv
     rcases lG1 hr hP.1 ht hNG hok.1 he with ⟨v,h1,h2⟩|⟨h1,u1,u2,h2,h3,h4⟩
     ·rw[h1]
      exact wV k hok.2 hr hP (ht.put _ h2) hNG (hl.cons (rd_ok hr ht hNG hok.1 h1 h2 i)) hv
     ·rw[h1,h2]
      exact ⟨wV k hok.2 hr hP (ht.put _ h3) hNG (hl.cons (wM2 hr (f:=(·.1)) (u:=(u1,u2)) h1 h2)) hv,
       wV k hok.2 hr hP (ht.put _ h4) hNG (hl.cons (wM2 hr (f:=(·.2)) (u:=(u1,u2)) h1 h2)) hv⟩
  ·cases rd with
   | false=>exact wV k hok.2 hr hP (ht.put _ RV.undef) hNG hl hv
   | true=>
    exact wV k hok.2 hr hP (ht.put _ RV.undef) hNG (hl.more _) hv
 | .eff i x bind k alt,hok,g,σ,h,hr,hP,D,T,ht,hNG,L,M,hl,hv=>by
  simp only[ptOk,Bool.and_eq_true] at hok
  simp only[wF0] at hv
  simp only[uT]
  refine ⟨iW0 ht (fun hv=>?_) (fun hv=>?_) hv.1,wV alt hok.2 hr hP ht hNG hl hv.2⟩
  ·refine jU1 hr hP ht hNG hok.1.1 hv fun b d σ' v h' hK he hA=>?_
   obtain ⟨hkp,hK⟩:=hK
   obtain ⟨g',x1,x2,x3,x4⟩:=he
   have hkp:=(dF1 hkp).imp id fun hk=>hk.imp id fun hk=>And.intro (iR0.of hr (hA hk.1) x1.hlo) hk.2
   have hs:b=true→Same h h':=fun hb=>Same.of hr (x4 hb) x1.hlo
   refine ⟨hl.kept hkp x1 x2 hs,?_⟩
   refine uJ (fun T h2 ha=>Aft.of x1 ha) k _ _ _ ?_
   exact wV k hok.1.2 x2 (x1.ok hP) ((ht.ext (x1.e0 hr)).put _ x3) (by rw[x1.lo];exact hNG) (hl.next hkp x1 x2 hs) hK
  ·exact wV k hok.1.2 hr hP (ht.put _ RV.undef) hNG (hl.drop bind) hv
end
def gS (NG:Nat):IR→Bool
 | .ops l=>l.all (itOk NG)
 | .plan t=>ptOk NG t
 | .seq a b=>gS NG a&&gS NG b
 | .cond x a b=>uE NG x&&gS NG a&&gS NG b
 | .block _ b=>gS NG b
 | .loop b=>gS NG b
 | _=>true
structure SRel (g:Gh) (D s:S):Prop where
 r:Rel g D.h s.h
 t:Tms g s.h D.h.next D.tm s.tm
 df:s.df=D.df.map g.δ
 dl:∀ d∈D.df,d<D.h.next
def RA (g:Gh) (σ h:jA) (R:jL→S→Prop) (e:jL) (s:S):Prop:=∃ g' D,R e D∧Ext g σ h g' D.h s.h∧SRel g' D s
theorem RA.of {g g1:Gh} {σ h σ1 h1:jA} (x:Ext g σ h g1 σ1 h1) {R:jL→S→Prop} {e:jL} {s:S} (ha:RA g1 σ1 h1 R e s):RA g σ h R e s:=by
 obtain ⟨g',D,h2,h3,h4⟩:=ha
 exact ⟨g',D,h2,x.trans h3,h4⟩
def WD (p:Par) (H:jA) (ro:Option Nat) (ir:IR) (D:S) (R:jL→S→Prop):Prop:=
 ∀ (g:Gh) (s:S),g.ok p H→p.NG≤D.h.lo→SRel g D s→(∀ l,ro=some l→l<D.h.next)→W p (ro.map g.δ) ir s (RA g D.h s.h R)
def WinD (p:Par) (H:jA) (ro:Option Nat) (b c:Code) (D:S) (R:jL→S→Prop):Prop:=
 ∀ (g:Gh) (s:S),g.ok p H→p.NG≤D.h.lo→SRel g D s→(∀ l,ro=some l→l<D.h.next)→WPin p (ro.map g.δ) b c s (RA g D.h s.h R)
def dc (p:Par) (q:Q) (ro:Option Nat):IR→S→(jL→S→Prop)→Prop
 | .bad,_,_=>False
 | .skip,s,R=>R .normal s
 | .ret,s,R=>R .ret s
 | .exit i,s,R=>R (.exit i) s
 | .goto l,s,R=>R (.goto l) s
 | .label _,s,R=>R .normal s
 | .ops l,s,R=>dops p q l s.tm s.h fun tm h=>R .normal ⟨tm,s.df,h⟩
 | .plan t,s,R=>wF0 p q t [] s.tm s.h fun tm h=>R .normal ⟨tm,s.df,h⟩
 | .seq a b,s,R=>dc p q ro a s (cL0 (fun s1=>dc p q ro b s1 R) R)
 | .cond x a b,s,R=>uW0 (ev s.tm x) (dc p q ro a s R) (dc p q ro b s R)
 | .block i b,s,R=>dc p q ro b s (outR i R)
 | .loop b,s,R=>WD p q.H ro (.loop b) s R
 | .scope b,s,R=>WinD p q.H ro b b s R
 | .range g ps a b,s,R=>WD p q.H ro (.range g ps a b) s R
section
variable {p:Par} {q:Q}
theorem uU1 {g g':Gh} {σ σ' h h':jA} (x:Ext g σ h g' σ' h') {ro:Option Nat} (hro:∀ l,ro=some l→l<σ.next):ro.map g'.δ=ro.map g.δ:=by
 cases ro with
 | none=>rfl
 | some l=>simp only[Option.map_some,x.δ l (hro l rfl)]
theorem SRel.ext {g g':Gh} {D D' s s':S} (x:Ext g D.h s.h g' D'.h s'.h) (hs:SRel g D s) (hr:Rel g' D'.h s'.h) (ht:Tms g' s'.h D'.h.next D'.tm s'.tm) (h1:s'.df=s.df) (h2:D'.df=D.df):SRel g' D' s':=
 ⟨hr,ht,by rw[h1,h2,hs.df];exact (List.map_congr_left fun d hd=>x.δ d (hs.dl d hd)).symm,fun d hd=>by rw[h2] at hd;exact Nat.lt_of_lt_of_le (hs.dl d hd) x.nn⟩
theorem jL0 {ro:Option Nat}:∀ (ir:IR),gS p.NG ir=true→∀ {g:Gh} {D s:S} {R:jL→S→Prop},g.ok p q.H→p.NG≤D.h.lo→SRel g D s→(∀ l,ro=some l→l<D.h.next)→dc p q ro ir D R→vc p (ro.map g.δ) ir s (RA g D.h s.h R)
 | .bad,_,g,D,s,R,_,_,hs,_,hv=>hv
 | .skip,_,g,D,s,R,_,_,hs,_,hv=>⟨g,D,hv,Ext.refl,hs⟩
 | .ret,_,g,D,s,R,_,_,hs,_,hv=>⟨g,D,hv,Ext.refl,hs⟩
 | .exit i,_,g,D,s,R,_,_,hs,_,hv=>⟨g,D,hv,Ext.refl,hs⟩
 | .goto l,_,g,D,s,R,_,_,hs,_,hv=>⟨g,D,hv,Ext.refl,hs⟩
 | .label l,_,g,D,s,R,_,_,hs,_,hv=>⟨g,D,hv,Ext.refl,hs⟩
 | .ops l,hok,g,D,s,R,hP,hNG,hs,_,hv=>by
  refine qE0 (fun T h' ha=>?_) l _ _ (eB0 l hok hs.r hP hs.t hNG hv)
  obtain ⟨g',σ',D',h1,h2,h3,h4⟩:=ha
  exact ⟨g',⟨D',D.df,σ'⟩,h1,h2,hs.ext (D':=⟨D',D.df,σ'⟩) (s':=⟨T,s.df,h'⟩) h2 h3 h4 rfl rfl⟩
 | .plan t,hok,g,D,s,R,hP,hNG,hs,_,hv=>by
  refine uJ (fun T h' ha=>?_) t _ _ _ (wV t hok hs.r hP hs.t hNG (L:=[]) (M:=[]) (fun e he=>by cases he) hv)
  obtain ⟨g',σ',D',h1,h2,h3,h4⟩:=ha
  exact ⟨g',⟨D',D.df,σ'⟩,h1,h2,hs.ext (D':=⟨D',D.df,σ'⟩) (s':=⟨T,s.df,h'⟩) h2 h3 h4 rfl rfl⟩
 | .seq a b,hok,g,D,s,R,hP,hNG,hs,hro,hv=>by
  simp only[gS,Bool.and_eq_true] at hok
  simp only[dc] at hv
  simp only[vc]
  refine uN _ _ _ _ (fun e s1 ha=>?_) (jL0 a hok.1 hP hNG hs hro hv)
  obtain ⟨g',D1,h1,h2,h3⟩:=ha
  cases e with
  | normal=>
   have:=jL0 b hok.2 (h2.ok hP) (by rw[h2.lo];exact hNG) h3 (fun l e=>Nat.lt_of_lt_of_le (hro l e) h2.nn) h1
   rw[uU1 h2 hro] at this
   exact uN _ _ _ _ (fun e s2 ha=>RA.of h2 ha) this
  | exit i=>exact ⟨g',D1,h1,h2,h3⟩
  | goto l=>exact ⟨g',D1,h1,h2,h3⟩
  | ret=>exact ⟨g',D1,h1,h2,h3⟩
 | .cond x a b,hok,g,D,s,R,hP,hNG,hs,hro,hv=>by
  simp only[gS,Bool.and_eq_true] at hok
  simp only[dc] at hv
  simp only[vc]
  have hx:=qD0 hs.r hs.t hNG hok.1.1
  unfold uW0 at hv ⊢
  split at hv
  ·rename_i c hc
   rw[hc] at hx
   rw[hx.boolE]
   exact ⟨fun e=>jL0 a hok.1.2 hP hNG hs hro (hv.1 e),fun e=>jL0 b hok.2 hP hNG hs hro (hv.2 e)⟩
  ·exact hv.elim
 | .block i b,hok,g,D,s,R,hP,hNG,hs,hro,hv=>by
  refine uN b s _ _ (fun e s1 ha=>?_) (jL0 b hok hP hNG hs hro hv)
  obtain ⟨g',D1,h1,h2,h3⟩:=ha
  cases e with
  | normal=>exact ⟨g',D1,h1,h2,h3⟩
  | exit j=>
   simp only[outR] at h1 ⊢
   split
   ·rename_i hj;rw[if_pos hj] at h1;exact ⟨g',D1,h1,h2,h3⟩
   ·rename_i hj;rw[if_neg hj] at h1;exact ⟨g',D1,h1,h2,h3⟩
  | goto l=>exact ⟨g',D1,h1,h2,h3⟩
  | ret=>exact ⟨g',D1,h1,h2,h3⟩
 | .loop b,_,g,D,s,R,hP,hNG,hs,hro,hv=>hv g s hP hNG hs hro
 | .scope b,_,g,D,s,R,hP,hNG,hs,hro,hv=>hv g s hP hNG hs hro
 | .range f ps a b,_,g,D,s,R,hP,hNG,hs,hro,hv=>hv g s hP hNG hs hro
theorem WD.loop (jX:uE0 p) {ro:Option Nat} {b:IR} {R:jL→S→Prop} (hok:gS p.NG b=true) (I:Nat→S→Prop) (hb:∀ n s1,I n s1→dc p q ro b s1 (cL0 (fun s2=>∃ m,m<n∧I m s2) R)) :
  ∀ n s,I n s→WD p q.H ro (.loop b) s R:=by
 intro n D hI g s hP hNG hs hro
 refine W.loopI jX (fun n s1=>∃ g' D',I n D'∧Ext g D.h s.h g' D'.h s1.h∧SRel g' D' s1) ?_ n s ⟨g,D,hI,Ext.refl,hs⟩
 rintro n s1 ⟨g',D',hI',x,hs'⟩
 have:=jL0 b hok (x.ok hP) (by rw[x.lo];exact hNG) hs' (fun l e=>Nat.lt_of_lt_of_le (hro l e) x.nn) (hb n D' hI')
 rw[uU1 x hro] at this
 refine uN _ _ _ _ (fun e s2 ha=>?_) this
 obtain ⟨g2,D2,h1,h2,h3⟩:=ha
 cases e with
 | normal=>
  obtain ⟨m,hm,hIm⟩:=h1
  exact ⟨m,hm,g2,D2,hIm,x.trans h2,h3⟩
 | exit i=>exact ⟨g2,D2,h1,x.trans h2,h3⟩
 | goto l=>exact ⟨g2,D2,h1,x.trans h2,h3⟩
 | ret=>exact ⟨g2,D2,h1,x.trans h2,h3⟩
def jO (p:Par) (H:jA) (f:FuncId) (args:List Value) (σ:jA) (R:Value→jA→Prop):Prop:=
 ∀ (g:Gh) (h:jA) (vs:List Value),g.ok p H→Rel g σ h→RVL g h σ.next args vs→gJ p f vs h fun u h'=>∃ d σ',R d σ'∧Eff g σ h false d σ' u h'
theorem jO.mono {H:jA} {f:FuncId} {args:List Value} {σ:jA} {R R':Value→jA→Prop} (hc:jO p H f args σ R) (hR:∀ d σ',R d σ'→R' d σ'):jO p H f args σ R':=
 fun g h vs hP hr hv=>(hc g h vs hP hr hv).mono fun u h' ⟨d,σ',h1,h2⟩=>⟨d,σ',hR d σ' h1,h2⟩
theorem fN0 {g:Gh}:∀ (df:List Nat) {σ σ' h:jA} (hr:Rel g σ h) (hd:∀ d∈df,d<σ.next),uL df σ=some σ'→∃ h',uL (df.map g.δ) h=some h'∧Ext g σ h g σ' h'∧Rel g σ' h'
 | [],σ,σ',h,hr,hd,he=>by cases he;exact ⟨h,rfl,Ext.refl,hr⟩
 | d :: df,σ,σ',h,hr,hd,he=>by
  simp only[uL] at he
  split at he
  ·rename_i m hg
   split at he
   ·rename_i hlo
    have hlt:=hd d (List.mem_cons_self ..)
    have hlo':σ.lo≤d:=by simpa using hlo
    have hown:=hr.own hlt hlo' hg
    have hg':h.get (g.δ d)=some ⟨.deferred (some []),m⟩:=hr.obj d _ hlt hg
    obtain ⟨x1,r1⟩:=uY0 hr hown (x:=⟨.deferred none,false⟩) (y:=⟨.deferred none,false⟩) fun h' h1 _=>h1
    obtain ⟨h',h2,h3,h4⟩:=fN0 df r1 (fun d hd'=>hd d (List.mem_cons_of_mem _ hd')) he
    refine ⟨h',?_,x1.trans h3,h4⟩
    have hq:Nat.ble h.lo (g.δ d)=true:=by simpa using hr.dlo d hown
    simp only[List.map_cons,uL,hg',hq]
    exact h2
   ·cases he
  ·cases he
theorem dA0 {P:Program} {g:Gh} {σ h:jA} (hr:Rel g σ h) {D T:VT} (ht:Tms g h σ.next D T):∀ (rs:List ResultVar) {l:List Value},qI.go P D σ rs=some l→∃ vs,qI.go P T h rs=some vs∧RVL g h σ.next l vs
 | [],l,he=>by cases he;exact ⟨[],rfl,RVL.nil⟩
 | .tmp t :: rs,l,he=>by
  simp only[qI.go] at he ⊢
  split at he<;>cases he
  rename_i l' hl'
  obtain ⟨vs,h1,h2⟩:=dA0 hr ht rs hl'
  rw[h1]
  exact ⟨_,rfl,RVL.cons (ht.get t) h2⟩
 | .cell a t :: rs,l,he=>by
  simp only[qI.go] at he ⊢
  split at he<;>cases he
  rename_i v l' hv hl'
  obtain ⟨vs,h1,h2⟩:=dA0 hr ht rs hl'
  obtain ⟨u,h3,h4⟩:=nY0 hr (ht.get a) hv
  rw[h3,h1]
  exact ⟨_,rfl,RVL.cons h4 h2⟩
theorem yD1 {P:Program} {g:Gh} {σ h:jA} (hr:Rel g σ h) {D T:VT} (ht:Tms g h σ.next D T) {rs:List ResultVar} {d:Value} (he:gQ P rs D σ=some d):∃ v,gQ P rs T h=some v∧RV g h σ.next d v:=by
 unfold gQ at he ⊢
 split at he
 ·rename_i u hu
  cases he
  obtain ⟨vs,h1,h2⟩:=dA0 hr ht rs hu
  simp only[RVL] at h2
  obtain ⟨v,vs',rfl,h3,h4⟩:=h2
  subst h4
  rw[h1]
  exact ⟨v,rfl,h3⟩
 ·rename_i l hne hl
  cases he
  obtain ⟨vs,h1,h2⟩:=dA0 hr ht rs hl
  rw[h1]
  refine ⟨.tuple ⟨vs⟩,?_,?_⟩
  ·cases vs with
   | nil=>rfl
   | cons v vs=>
    cases vs with
    | nil=>
     cases l with
     | nil=>simp only[RVL] at h2;cases h2
     | cons x l=>
      have:=h2.len
      simp at this
      subst this
      exact absurd rfl (hne x)
    | cons v2 vs=>rfl
  ·simp only[RV]
   exact ⟨vs,rfl,h2⟩
 ·cases he
theorem jO.fir (jX:uE0 p) {f:FuncId} {fi:FIR} (hf:Ev.fir p.P f=some fi) (hok:gS p.NG fi.ir=true) {args:List Value} {σ:jA} {R:Value→jA→Prop} {T:VT} (hn:Nat.ble args.length fi.n=true) (hU:Nat.ble fi.n 100000=true)
  (hT:T.arr=⟨args++List.replicate (fi.n-args.length) undef⟩) (hNG:p.NG≤σ.lo) (hv:dc p q none fi.ir ⟨T,[],σ⟩ (jH p.P fi.rs R)):jO p q.H f args σ R:=by
 intro g h vs hP hr hvs
 have hlen:=hvs.len
 refine gJ.fir3 jX hf (T:=VT.of (vs++List.replicate (fi.n-vs.length) undef) fi.n) (by rw[hlen];exact hn) hU ?_ fun hlo=>?_
 ·have hnn:args.length≤fi.n:=by simpa using hn
  have hUU:fi.n<U:=le_U (by simpa using hU)
  have hll:(vs++List.replicate (fi.n-vs.length) undef).length=fi.n:=by simp;omega
  have hsz:(VT.of (vs++List.replicate (fi.n-vs.length) undef) fi.n).sz=fi.n:=by
   show (vs++List.replicate (fi.n-vs.length) undef).length+(fi.n-(vs++List.replicate (fi.n-vs.length) undef).length)=_
   rw[hll];omega
  rw[VT.of_arr _ _ (by rw[hsz];exact hUU),hll]
  apply Array.ext';simp
 ·rw[yQ0]
  have hnn:args.length≤fi.n:=by simpa using hn
  have hUU:fi.n<U:=le_U (by simpa using hU)
  have hll:(vs++List.replicate (fi.n-vs.length) undef).length=fi.n:=by simp;omega
  have hsz:(VT.of (vs++List.replicate (fi.n-vs.length) undef) fi.n).sz=fi.n:=by
   show (vs++List.replicate (fi.n-vs.length) undef).length+(fi.n-(vs++List.replicate (fi.n-vs.length) undef).length)=_
   rw[hll];omega
  have harr:(VT.of (vs++List.replicate (fi.n-vs.length) undef) fi.n).arr=⟨vs++List.replicate (fi.n-vs.length) undef⟩:=by
   rw[VT.of_arr _ _ (by rw[hsz];exact hUU),hll]
   apply Array.ext';simp
  have hTsz:T.sz=fi.n:=by
   rw[← VT.arr_size,hT]
   simp;omega
  have hrows:RVL g h σ.next (args++List.replicate (fi.n-args.length) undef) (vs++List.replicate (fi.n-vs.length) undef):=by
   refine hvs.app ?_
   rw[hlen]
   refine RVL.of rfl fun i d v h1 h2=>?_
   rw[h1] at h2
   cases h2
   have:=List.eq_of_mem_replicate (List.mem_of_getElem? h1)
   rw[this]
   exact RV.undef
  have ht:Tms g h σ.next T (VT.of (vs++List.replicate (fi.n-vs.length) undef) fi.n):=by
   refine ⟨by rw[hsz,hTsz],by rw[hTsz];exact hUU,fun i=>?_⟩
   rw[← VT.arr_getD,← VT.arr_getD,hT,harr]
   simp only[Array.getD_eq_getD_getElem?,List.getElem?_toArray]
   cases hi:(args++List.replicate (fi.n-args.length) undef)[i]? with
   | none=>
    have:(vs++List.replicate (fi.n-vs.length) undef)[i]?=none:=by
     rw[List.getElem?_eq_none_iff] at hi ⊢
     rw[hrows.len];exact hi
    rw[this]
    exact RV.undef
   | some d=>
    obtain ⟨v,h1,h2⟩:=hrows.get hi
    rw[h1]
    exact h2
  have hs:SRel g ⟨T,[],σ⟩ ⟨VT.of (vs++List.replicate (fi.n-vs.length) undef) fi.n,[],h⟩:=⟨hr,ht,rfl,fun d hd=>by cases hd⟩
  have:=jL0 fi.ir hok hP hNG hs (fun l e=>by cases e) hv
  refine uN _ _ _ _ (fun e s1 ha=>?_) this
  obtain ⟨g',D1,h1,h2,h3⟩:=ha
  have key:endR p.P fi.rs R D1→endR p.P fi.rs (fun u h'=>∃ d σ',R d σ'∧Eff g σ h false d σ' u h') s1:=by
   intro he
   unfold endR at he ⊢
   split at he
   ·rename_i σ1 hm
    obtain ⟨h',m1,m2,m3⟩:=fN0 D1.df h3.r h3.dl hm
    rw[h3.df,m1]
    dsimp only
    split at he
    ·rename_i d hd
     obtain ⟨v,v1,v2⟩:=yD1 m3 (h3.t.ext (m2.e0 h3.r)) hd
     rw[v1]
     exact ⟨d,σ1,he,g',h2.trans m2,m3,v2,fun e=>by cases e⟩
    ·exact he.elim
   ·exact he.elim
  cases e with
  | normal=>exact key h1
  | ret=>exact key h1
  | exit i=>exact h1.elim
  | goto l=>exact h1.elim
end
section
variable {g g':Gh} {h:jA} {N n:Nat}
structure Wid (g g':Gh) (n:Nat):Prop where
 P:g'.P=g.P
 δ:∀ i,i<n→g'.δ i=g.δ i
 F:∀ b,g.F b→g'.F b
theorem Fz.wid (w:Wid g g' n) {a:Option Addr} {vs:List Value} (hz:Fz g h a vs):Fz g' h a vs:=⟨hz.1,fun b hb=>⟨(hz.2 b hb).1,w.F b (hz.2 b hb).2⟩⟩
theorem RowP.wid (w:Wid g g' n) {l:Nat} {fs vs:List Value} {v:Value} (hl:l<n) (hp:RowP g h N l fs vs v):RowP g' h n l fs vs v:=by
 unfold RowP at hp
 split at hp
 ·obtain ⟨h1,h2,rfl⟩:=hp
  exact ⟨h1,hl,by rw[w.δ l hl]⟩
 ·obtain ⟨b,o,h1,h2,h3⟩:=hp
  exact ⟨b,o,h1,h2.wid w,h3⟩
 ·obtain ⟨a,c,size,h1,h2,h3,h4,h5,h6⟩:=hp
  exact ⟨a,c,size,h1,h2.wid w,h3,h4,h5,by rw[w.P];exact h6⟩
 ·exact hp.elim
mutual
theorem RV.wid (w:Wid g g' n):∀ (d v:Value),sc n d=true→RV g h N d v→RV g' h n d v
 | .pointer none,v,hs,hv=>by simp only[RV] at hv ⊢;exact ⟨by rw[qN];rfl,hv.2⟩
 | .pointer (some a),v,hs,hv=>by
  simp only[RV] at hv ⊢
  have hf:fscP n (some a)=true:=by rw[qN];exact hs
  exact ⟨hf,by rw[gO w.δ hf];exact hv.2⟩
 | .slice none _ _,v,hs,hv=>by simp only[RV] at hv ⊢;exact ⟨by rw[qN];rfl,hv.2⟩
 | .slice (some a) _ _,v,hs,hv=>by
  simp only[RV] at hv ⊢
  have hf:fscP n (some a)=true:=by rw[qN];exact hs
  exact ⟨hf,by rw[gO w.δ hf];exact hv.2⟩
 | .map none,v,hs,hv=>by simp only[RV] at hv ⊢;exact ⟨fun i hi=>(by cases hi),hv.2⟩
 | .map (some r),v,hs,hv=>by
  simp only[RV] at hv ⊢
  simp only[Ev.sc,Nat.blt_eq] at hs
  exact ⟨fun i hi=>(by cases hi;exact hs),by rw[hv.2,Option.map_some,Option.map_some,w.δ r hs]⟩
 | .chan _,v,hs,hv=>by simp only[RV] at hv
 | .func (.func f) ⟨fs⟩ ⟨cs⟩,v,hs,hv=>by
  simp only[RV] at hv ⊢
  simp only[Ev.sc,Bool.and_eq_true] at hs
  obtain ⟨us,vs,h1,h2,h3⟩:=hv
  exact ⟨us,vs,h1,RVL.wid w fs us hs.1 h2,RVL.wid w cs vs hs.2 h3⟩
 | .func (.yield l) ⟨fs⟩ ⟨cs⟩,v,hs,hv=>by
  simp only[RV] at hv ⊢
  simp only[Ev.sc,Bool.and_eq_true,Nat.blt_eq] at hs
  obtain ⟨vs,h1,h2⟩:=hv
  exact ⟨vs,RVL.wid w cs vs hs.2 h1,h2.wid w hs.1.1⟩
 | .func (.method _) _ _,v,hs,hv=>by simp only[RV] at hv
 | .func (.methodOf _ _) _ _,v,hs,hv=>by simp only[RV] at hv
 | .func (.via _ _ _ _) _ _,v,hs,hv=>by simp only[RV] at hv
 | .iface t d,v,hs,hv=>by
  simp only[RV] at hv ⊢
  simp only[Ev.sc] at hs
  obtain ⟨u,h1,h2⟩:=hv
  exact ⟨u,h1,RV.wid w d u hs h2⟩
 | .agg ⟨ds⟩,v,hs,hv=>by
  simp only[RV] at hv ⊢
  simp only[Ev.sc] at hs
  obtain ⟨vs,h1,h2⟩:=hv
  exact ⟨vs,h1,RVL.wid w ds vs hs h2⟩
 | .tuple ⟨ds⟩,v,hs,hv=>by
  simp only[RV] at hv ⊢
  simp only[Ev.sc] at hs
  obtain ⟨vs,h1,h2⟩:=hv
  exact ⟨vs,h1,RVL.wid w ds vs hs h2⟩
 | .bool b,v,hs,hv=>by simp only[RV] at hv ⊢;exact hv
 | .int k n,v,hs,hv=>by simp only[RV] at hv ⊢;exact hv
 | .float k n,v,hs,hv=>by simp only[RV] at hv ⊢;exact hv
 | .complex k a b,v,hs,hv=>by simp only[RV] at hv ⊢;exact hv
 | .string s,v,hs,hv=>by simp only[RV] at hv ⊢;exact hv
 | .nilFunc,v,hs,hv=>by simp only[RV] at hv ⊢;exact hv
 | .nilIface,v,hs,hv=>by simp only[RV] at hv ⊢;exact hv
theorem RVL.wid (w:Wid g g' n):∀ (ds vs:List Value),scL n ds=true→RVL g h N ds vs→RVL g' h n ds vs
 | [],l,hs,hv=>by simp only[RVL] at hv ⊢;exact hv
 | d :: ds,l,hs,hv=>by
  simp only[RVL] at hv ⊢
  simp only[scL,Bool.and_eq_true] at hs
  obtain ⟨v,vs,h1,h2,h3⟩:=hv
  exact ⟨v,vs,h1,RV.wid w d v hs.1 h2,RVL.wid w ds vs hs.2 h3⟩
end
end
mutual
inductive FzV (P:Program) (n:Nat) (σ:jA):Value→Value→Prop
 | id {v:Value} (h:sc n v=true):FzV P n σ v v
 | nil {e size:Nat} (hs:szT P e=some size) (hp:0<size):FzV P n σ (.slice none 0 0) (Rw false e 0 [])
 | sl {i off k c e size : Nat} {full ds : List Value} {m : Bool} (hlo : n ≤ i) (hc : cells σ i = some (full, e, m)) (hs : szT P e = some size) (hp : 0 < size) (hle : off + k * size ≤ full.length)
   (hcap:(c<UC∧k≤c)∨(m=true∧UC≤c∧off=(c-UC)*size∧k<U)) (hd:FzL P n σ ((full.drop off).take (k*size)) ds):FzV P n σ (.slice (some ⟨i,off,none⟩) k c) (Rw false e k ds)
 | ptr {i off e:Nat} {full ds:List Value} {m:Bool} (hlo:n≤i) (hc:cells σ i=some (full,e,m)) (hlt:off<full.length) (hd:FzL P n σ full ds):FzV P n σ (.pointer (some ⟨i,off,none⟩)) (Rpt off ds)
 | row {f:Bool} {e k:Nat} {cs ds:List Value} (hd:FzL P n σ cs ds):FzV P n σ (Rw f e k cs) (Rw false e k ds)
 | agg {cs ds:List Value} (hd:FzL P n σ cs ds):FzV P n σ (.agg ⟨cs⟩) (.agg ⟨ds⟩)
 | tup {cs ds:List Value} (hd:FzL P n σ cs ds):FzV P n σ (.tuple ⟨cs⟩) (.tuple ⟨ds⟩)
 | fn {f:FuncId} {cs ds:List Value} (hd:FzL P n σ cs ds):FzV P n σ (.func (.func f) ⟨[]⟩ ⟨cs⟩) (.func (.func f) ⟨[]⟩ ⟨ds⟩)
inductive FzL (P:Program) (n:Nat) (σ:jA):List Value→List Value→Prop
 | nil:FzL P n σ [] []
 | cons {v d:Value} {vs ds:List Value} (h:FzV P n σ v d) (hs:FzL P n σ vs ds):FzL P n σ (v :: vs) (d :: ds)
end
theorem FzL.ids {P:Program} {n:Nat} {σ:jA}:∀ {l:List Value},scL n l=true→FzL P n σ l l
 | [],_=>.nil
 | v :: l,h=>by
  simp only[scL,Bool.and_eq_true] at h
  exact .cons (.id h.1) (FzL.ids h.2)
def Gh.all (g:Gh) (m:Nat) (σ:jA):Gh:={ g with F:=fun b=>g.F b∨∃ i,uH σ i∧m≤i∧g.δ i=b }
theorem yN0 {g:Gh} {σ:jA} {n m:Nat}:Wid g (g.all m σ) n:=⟨rfl,fun _ _=>rfl,fun _ hb=>Or.inl hb⟩
theorem kJ0 {g:Gh} {σ h:jA} (hr:Rel g σ h) {m:Nat}:Rel (g.all m σ) g.H0 h:=by
 have hlo:=hr.lo
 have no:∀ i,¬ uH g.H0 i:=fun i hi=>by have:=hi.1;have:=hi.2.1;omega
 have hbase:∀ i,i<g.H0.next→σ.get i=g.H0.get i:=fun i hi=>hr.base i (by omega)
 refine ⟨by rw[hlo.2,← hlo.1];exact hr.pos,⟨hlo.2,hlo.2⟩,by omega,hr.hlo,fun i hi=>rfl,fun i x hi hx=>?_,fun i hi=>?_,fun i x hi hx=>?_,fun i hi=>?_,fun i hi=>absurd hi (no i),fun i j hi=>absurd hi (no i),fun b hb=>?_,hr.wf⟩
 ·exact hr.baseF i x (by omega) (by rw[hbase i (by omega)];exact hx)
 ·have:=hr.baseD i (by omega)
  rw[hbase i (by omega)] at this
  exact this
 ·have hx':σ.get i=some x:=by rw[hbase i hi];exact hx
  have h1:=hr.obj i x (by have:=hr.lon;omega) hx'
  obtain ⟨ds,e,fr,rfl,hfl⟩:=hr.baseF i x (by omega) hx'
  obtain ⟨vs,e',h2,h0,h3,h4⟩:=h1
  have:=RVL.flat _ _ hfl h3
  subst this
  exact ⟨_,e',h2,fun h=>by omega,RVL.of_flat _ hfl,h4⟩
 ·exact hr.dlt i (by have:=hr.lon;omega)
 ·refine ⟨?_,fun i hi=>absurd hi (no i)⟩
  rcases hb with hb|⟨i,hi,_,rfl⟩
  ·exact (hr.frz b hb).1
  ·exact hr.dlt i hi.2.1
theorem uU2 {h:jA} {b off:Nat} {vs:List Value} {e:TypeId} {m:Bool} (hc:cells h b=some (vs,e,m)) (hlo:h.lo≤b) {k:Nat} (hle:off+k≤vs.length):Sl h (some ⟨b,off,none⟩) ((vs.drop off).take k):=by
 have hlen:((vs.drop off).take k).length=k:=by simp;omega
 exact .inr ⟨b,off,vs,e,m,rfl,hc,by rw[hlen];exact hle,by rw[hlen],.inl hlo⟩
section
variable {g:Gh} {σ h:jA} {P:Program}
mutual
theorem fS0 (hr:Rel g σ h) (hP:g.P=P) {n:Nat} (hl:σ.lo≤n) (hn:n≤σ.next):∀ {v d:Value},FzV P n σ v d→∀ {u:Value},RV g h σ.next v u→RV (g.all n σ) h n d u
 | _,_,.id hs,u,hv=>RV.wid yN0 _ _ hs hv
 | _,_,.nil hs hp,u,hv=>by
  simp only[RV,Option.map_none] at hv
  obtain ⟨_,rfl⟩:=hv
  exact RV.mkRow (a:=none) (vs:=[]) RVL.nil ⟨Sl.nil _ qK1,fun b hb=>by obtain ⟨o,s,e⟩:=hb;cases e⟩ (fun e=>by cases e) hp (by simp) (.inl ⟨cC0,Nat.le_refl _⟩)
 | _,_,.sl (i:=i) (off:=off) (k:=k) (c:=c) (e:=e) (size:=size) (full:=full) (m:=m) hlo hc hs hp hle hcap hd,u,hv=>by
  simp only[RV,Option.map_some,ren] at hv
  obtain ⟨ha,rfl⟩:=hv
  have hi:=sc_p ha
  obtain ⟨vs,h1,h2⟩:=hr.cells hi (.inl (Nat.le_trans hl hlo)) hc
  have hg:(σ.get i).isSome=true:=by
   unfold Ev.cells at hc
   split at hc
   ·rename_i hg;rw[hg];rfl
   ·cases hc
  have hown:uH σ i:=⟨Nat.le_trans hl hlo,hi,hg⟩
  have hdl:=hr.dlo i hown
  have hsub:=(h2.drop off).take (k*size)
  have hv2:=uU hr hP hl hn hd hsub
  have hle':off+k*size≤vs.length:=by rw[h2.len];exact hle
  refine RV.mkRow hv2 ⟨uU2 h1 hdl hle',fun b hb=>?_⟩ (fun e=>by cases e) hp ?_ ?_
  ·obtain ⟨o,s,e⟩:=hb
   cases e
   exact ⟨hr.dlt i hi,.inr ⟨i,hown,hlo,rfl⟩⟩
  ·simp;omega
  ·rcases hcap with h3|⟨rfl,h3,h4,h5⟩
   ·exact .inl h3
   ·exact .inr ⟨g.δ i,off,vs,rfl,h1,h3,h4,hle',h5,by show szT g.P e=_;rw[hP];exact hs⟩
 | _,_,.ptr (i:=i) (off:=off) (e:=e) (full:=full) (m:=m) hlo hc hlt hd,u,hv=>by
  simp only[RV,Option.map_some,ren] at hv
  obtain ⟨ha,rfl⟩:=hv
  have hi:=sc_p ha
  obtain ⟨vs,h1,h2⟩:=hr.cells hi (.inl (Nat.le_trans hl hlo)) hc
  have hg:(σ.get i).isSome=true:=by
   unfold Ev.cells at hc
   split at hc
   ·rename_i hg;rw[hg];rfl
   ·cases hc
  have hown:uH σ i:=⟨Nat.le_trans hl hlo,hi,hg⟩
  have hdl:=hr.dlo i hown
  have hv2:=uU hr hP hl hn hd h2
  have hs:=uU2 h1 hdl (off:=0) (k:=vs.length) (by omega)
  rw[List.drop_zero,List.take_length] at hs
  have:=RV.mkRpt (off:=off) (b:=g.δ i) (o:=0) hv2 ⟨hs,fun b hb=>by
   obtain ⟨o,s,e⟩:=hb
   cases e
   exact ⟨hr.dlt i hi,.inr ⟨i,hown,hlo,rfl⟩⟩⟩ (by rw[h2.len];exact hlt)
  rwa [Nat.zero_add] at this
 | _,_,.row hd,u,hv=>by
  obtain ⟨a,c,size,vs,rfl,h1,h2,h3,h4,h5,h6⟩:=hv.row
  exact RV.mkRow (uU hr hP hl hn hd h1) (h2.wid (n:=0) yN0) (fun e=>by cases e) h4 h5 h6
 | _,_,.agg hd,u,hv=>by
  simp only[RV] at hv ⊢
  obtain ⟨vs,h1,h2⟩:=hv
  exact ⟨vs,h1,uU hr hP hl hn hd h2⟩
 | _,_,.tup hd,u,hv=>by
  simp only[RV] at hv ⊢
  obtain ⟨vs,h1,h2⟩:=hv
  exact ⟨vs,h1,uU hr hP hl hn hd h2⟩
 | _,_,.fn hd,u,hv=>by
  simp only[RV] at hv ⊢
  obtain ⟨us,vs,h1,h2,h3⟩:=hv
  simp only[RVL] at h2
  subst h2
  exact ⟨[],vs,h1,RVL.nil,uU hr hP hl hn hd h3⟩
theorem uU (hr:Rel g σ h) (hP:g.P=P) {n:Nat} (hl:σ.lo≤n) (hn:n≤σ.next):∀ {vs ds:List Value},FzL P n σ vs ds→∀ {us:List Value},RVL g h σ.next vs us→RVL (g.all n σ) h n ds us
 | _,_,.nil,us,hv=>by simp only[RVL] at hv ⊢;exact hv
 | _,_,.cons h1 h2,us,hv=>by
  simp only[RVL] at hv ⊢
  obtain ⟨v,vs,e,h3,h4⟩:=hv
  exact ⟨v,vs,e,fS0 hr hP hl hn h1 h3,uU hr hP hl hn h2 h4⟩
end
end
section
variable {g g' g0:Gh} {h h0:jA} {N n:Nat}
theorem RowP.wid2 (w:Wid g g' n) {l:Nat} {fs vs vs0:List Value} {v v0:Value} (h0':RowP g0 h0 n l fs vs0 v0) (hp:RowP g h N l fs vs v):RowP g' h n l fs vs v:=by
 unfold RowP at hp h0' ⊢
 split at hp
 ·obtain ⟨h1,h2,rfl⟩:=hp
  exact ⟨h1,h0'.2.1,by rw[w.δ l h0'.2.1]⟩
 ·obtain ⟨b,o,h1,h2,h3⟩:=hp
  exact ⟨b,o,h1,h2.wid w,h3⟩
 ·obtain ⟨a,c,size,h1,h2,h3,h4,h5,h6⟩:=hp
  exact ⟨a,c,size,h1,h2.wid w,h3,h4,h5,by rw[w.P];exact h6⟩
 ·exact hp.elim
mutual
theorem RV.wid2 (w:Wid g g' n):∀ (d v v0:Value),RV g0 h0 n d v0→RV g h N d v→RV g' h n d v
 | .pointer a,v,v0,hs,hv=>by
  simp only[RV] at hs hv ⊢
  exact ⟨hs.1,by rw[gO w.δ hs.1];exact hv.2⟩
 | .slice a _ _,v,v0,hs,hv=>by
  simp only[RV] at hs hv ⊢
  exact ⟨hs.1,by rw[gO w.δ hs.1];exact hv.2⟩
 | .map r,v,v0,hs,hv=>by
  simp only[RV] at hs hv ⊢
  refine ⟨hs.1,?_⟩
  cases r with
  | none=>exact hv.2
  | some i=>rw[hv.2,Option.map_some,Option.map_some,w.δ i (hs.1 i rfl)]
 | .chan _,v,v0,hs,hv=>by simp only[RV] at hv
 | .func (.func f) ⟨fs⟩ ⟨cs⟩,v,v0,hs,hv=>by
  simp only[RV] at hs hv ⊢
  obtain ⟨us,vs,h1,h2,h3⟩:=hv
  obtain ⟨us0,vs0,_,h5,h6⟩:=hs
  exact ⟨us,vs,h1,RVL.wid2 w fs us us0 h5 h2,RVL.wid2 w cs vs vs0 h6 h3⟩
 | .func (.yield l) ⟨fs⟩ ⟨cs⟩,v,v0,hs,hv=>by
  simp only[RV] at hs hv ⊢
  obtain ⟨vs,h1,h2⟩:=hv
  obtain ⟨vs0,h3,h4⟩:=hs
  exact ⟨vs,RVL.wid2 w cs vs vs0 h3 h1,RowP.wid2 w h4 h2⟩
 | .func (.method _) _ _,v,v0,hs,hv=>by simp only[RV] at hv
 | .func (.methodOf _ _) _ _,v,v0,hs,hv=>by simp only[RV] at hv
 | .func (.via _ _ _ _) _ _,v,v0,hs,hv=>by simp only[RV] at hv
 | .iface t d,v,v0,hs,hv=>by
  simp only[RV] at hs hv ⊢
  obtain ⟨u,h1,h2⟩:=hv
  obtain ⟨u0,_,h4⟩:=hs
  exact ⟨u,h1,RV.wid2 w d u u0 h4 h2⟩
 | .agg ⟨ds⟩,v,v0,hs,hv=>by
  simp only[RV] at hs hv ⊢
  obtain ⟨vs,h1,h2⟩:=hv
  obtain ⟨vs0,_,h4⟩:=hs
  exact ⟨vs,h1,RVL.wid2 w ds vs vs0 h4 h2⟩
 | .tuple ⟨ds⟩,v,v0,hs,hv=>by
  simp only[RV] at hs hv ⊢
  obtain ⟨vs,h1,h2⟩:=hv
  obtain ⟨vs0,_,h4⟩:=hs
  exact ⟨vs,h1,RVL.wid2 w ds vs vs0 h4 h2⟩
 | .bool b,v,v0,hs,hv=>by simp only[RV] at hv ⊢;exact hv
 | .int k n,v,v0,hs,hv=>by simp only[RV] at hv ⊢;exact hv
 | .float k n,v,v0,hs,hv=>by simp only[RV] at hv ⊢;exact hv
 | .complex k a b,v,v0,hs,hv=>by simp only[RV] at hv ⊢;exact hv
 | .string s,v,v0,hs,hv=>by simp only[RV] at hv ⊢;exact hv
 | .nilFunc,v,v0,hs,hv=>by simp only[RV] at hv ⊢;exact hv
 | .nilIface,v,v0,hs,hv=>by simp only[RV] at hv ⊢;exact hv
theorem RVL.wid2 (w:Wid g g' n):∀ (ds vs vs0:List Value),RVL g0 h0 n ds vs0→RVL g h N ds vs→RVL g' h n ds vs
 | [],l,l0,hs,hv=>by simp only[RVL] at hv ⊢;exact hv
 | d :: ds,l,l0,hs,hv=>by
  simp only[RVL] at hs hv ⊢
  obtain ⟨v,vs,h1,h2,h3⟩:=hv
  obtain ⟨v0,vs0,_,h5,h6⟩:=hs
  exact ⟨v,vs,h1,RV.wid2 w d v v0 h5 h2,RVL.wid2 w ds vs vs0 h6 h3⟩
end
end
structure uD0 (P:Program) (σ σ1 σ':jA):Prop where
 next:σ.next≤σ1.next
 nx:σ1.next≤σ'.next
 lo:σ1.lo=σ.lo
 get:∀ i,i<σ1.next→(i<σ.next∧σ'.get i=σ1.get i∧σ1.get i=σ.get i)∨(σ.lo≤i∧∃ cs cs1 e fr fr1 m,σ'.get i=some ⟨.cells ⟨cs⟩ e fr,m⟩∧σ1.get i=some ⟨.cells ⟨cs1⟩ e fr1,m⟩∧FzL P σ1.next σ' cs cs1∧cs1.all one=true)
theorem dL0 {P:Program} {g g':Gh} {σ h σ' h' σ1:jA} (hr:Rel g σ h) (x:Ext g σ h g' σ' h') (hr':Rel g' σ' h') (hP:g'.P=P) (k:uD0 P σ σ1 σ'):Ext g σ h (g'.all σ1.next σ') σ1 h'∧Rel (g'.all σ1.next σ') σ1 h':=by
 have hlo':σ'.lo=σ.lo:=x.lo
 have hlon:σ.lo≤σ.next:=hr.lon
 have hkn:=k.next
 have hkx:=k.nx
 have own:∀ i,uH σ1 i→uH σ' i∧i<σ1.next:=fun i ⟨h1,h2,h3⟩=>by
  rw[k.lo] at h1
  refine ⟨⟨by rw[hlo'];exact h1,Nat.lt_of_lt_of_le h2 k.nx,?_⟩,h2⟩
  rcases k.get i h2 with ⟨_,h4,_⟩|⟨_,cs,cs1,e,fr,fr1,m,h4,h5,_⟩
  ·rw[h4];exact h3
  ·rw[h4];rfl
 have low:∀ i,i<σ.lo→σ1.get i=σ'.get i:=fun i hi=>by
  rcases k.get i (by omega) with ⟨_,h4,_⟩|⟨h4,_⟩
  ·exact h4.symm
  ·omega
 refine ⟨⟨x.P,x.H0,k.next,k.lo,x.next,x.hlo,x.δ,fun b hb=>.inl (x.F b hb),fun b hb=>?_,x.fr,fun i hi=>x.im i (own i hi).1⟩,?_⟩
 ·rcases hb with hb|⟨i,hi,hn,rfl⟩
  ·exact x.Fn b hb
  ·rcases x.im i hi with h1|h1
   ·have:=h1.2.1;omega
   ·exact .inr (.inl h1)
 refine ⟨by rw[k.lo];exact hr.pos,⟨by rw[k.lo,← hlo'];exact hr'.lo.1,hr'.lo.2⟩,by rw[k.lo];omega,hr'.hlo,fun i hi=>?_,fun i y hi hy=>?_,fun i hi=>?_,fun i y hi hy=>?_,fun i hi=>hr'.dlt i (by omega),fun i hi=>hr'.dlo i (own i hi).1,fun i j hi hj e=>hr'.inj i j (own i hi).1 (own j hj).1 e,fun b hb=>?_,hr'.wf⟩
 ·rw[k.lo] at hi
  rw[low i hi]
  exact hr'.base i (by rw[hlo'];exact hi)
 ·rw[k.lo] at hi
  rw[low i hi] at hy
  exact hr'.baseF i y (by rw[hlo'];exact hi) hy
 ·rw[k.lo] at hi
  rw[low i hi]
  exact hr'.baseD i (by rw[hlo'];exact hi)
 ·rw[k.lo]
  have hi':i<σ'.next:=by omega
  rcases k.get i hi with ⟨hi0,h4,h5⟩|⟨h3,cs,cs1,e,fr,fr1,m,h4,h5,h6,h7⟩
  ·have o1:=hr'.obj i y hi' (by rw[h4];exact hy)
   have o0:=hr.obj i y hi0 (by rw[← h5];exact hy)
   rw[hlo'] at o1
   obtain ⟨q,mm⟩:=y
   cases q with
   | cells ca e fr=>
    obtain ⟨ds⟩:=ca
    obtain ⟨vs,e',q1,q2,q3,q4⟩:=o1
    obtain ⟨vs0,_,_,_,q7,_⟩:=o0
    exact ⟨vs,e',q1,q2,RVL.ext ⟨rfl,k.next,fun _ _=>rfl,fun _ hb=>hb,Nat.le_refl _,rfl,fun _ _ _=>rfl⟩ _ _ (RVL.wid2 (g:=g') yN0 ds vs vs0 q7 q3),q4⟩
   | loop r=>
    obtain ⟨us,q1,q2,q3⟩:=o1
    obtain ⟨vs0,_,q5,q6⟩:=o0
    exact ⟨us,q1,Nat.lt_of_lt_of_le q5 k.next,RVL.ext ⟨rfl,k.next,fun _ _=>rfl,fun _ hb=>hb,Nat.le_refl _,rfl,fun _ _ _=>rfl⟩ _ _ (RVL.wid2 (g:=g') yN0 r.tmps.toList us vs0 q6 q3)⟩
   | pending c e=>
    obtain ⟨ds⟩:=c
    obtain ⟨us,q1,q2⟩:=o1
    obtain ⟨vs0,_,q6⟩:=o0
    exact ⟨us,q1,RVL.ext ⟨rfl,k.next,fun _ _=>rfl,fun _ hb=>hb,Nat.le_refl _,rfl,fun _ _ _=>rfl⟩ _ _ (RVL.wid2 (g:=g') yN0 ds us vs0 q6 q2)⟩
   | _=>exact o1
  ·rw[h5] at hy
   cases hy
   have o1:=hr'.obj i _ hi' h4
   rw[hlo'] at o1
   obtain ⟨vs,e',q1,q2,q3,q4⟩:=o1
   exact ⟨vs,e',q1,q2,uU hr' hP (by rw[hlo'];omega) k.nx h6 q3,h7⟩
 ·rcases hb with hb|⟨i,hi,hn,rfl⟩
  ·exact ⟨(hr'.frz b hb).1,fun j hj=>(hr'.frz b hb).2 j (own j hj).1⟩
  ·refine ⟨hr'.dlt i hi.2.1,fun j hj e=>?_⟩
   have:=hr'.inj j i (own j hj).1 hi e
   have:=(own j hj).2
   omega
def jI (p:Par) (H:jA) (f:FuncId) (args:List Value) (d:Value):Prop:=
 ∀ (g:Gh) (h:jA) (vs:List Value),g.ok p H→Rel g H h→RVL g h H.next args vs→gJ p f vs h fun u h'=>∃ g',Ext g H h g' H h'∧Rel g' H h'∧RV g' h' H.next d u
section
variable {p:Par} {H:jA}
theorem jO.wlog {f:FuncId} {args:List Value} {σ:jA} {R:Value→jA→Prop} (hc:σ.lo=H.next→H.lo=H.next→0<σ.lo→σ.lo≤σ.next→jO p H f args σ R):jO p H f args σ R:=by
 intro g h vs hP hr hv
 have:=hr.lo
 rw[hP.2] at this
 exact hc this.1 this.2 hr.pos hr.lon g h vs hP hr hv
theorem jO.cut {f:FuncId} {args:List Value} {σ σ1:jA} {d:Value} (hc:jO p H f args σ fun v σ'=>FzV p.P σ1.next σ' v d∧uD0 p.P σ σ1 σ'):jO p H f args σ fun v σ'=>v=d∧σ'=σ1:=by
 intro g h vs hP hr hv
 refine (hc g h vs hP hr hv).mono ?_
 rintro u h' ⟨v,σ',⟨hz,hk⟩,g',x,hr',hv',_⟩
 have hP':=x.ok hP
 obtain ⟨x1,r1⟩:=dL0 hr x hr' hP'.1 hk
 have:=hr.lon
 have:=hk.next
 exact ⟨d,σ1,⟨rfl,rfl⟩,_,x1,r1,fS0 hr' hP'.1 (by rw[x.lo];omega) hk.nx hz hv',fun e=>by cases e⟩
theorem uD0.gr {P:Program} {σ σ':jA} (g:jD σ σ' fun _=>False):uD0 P σ σ σ':=
 ⟨Nat.le_refl _,g.next,rfl,fun i hi=>.inl ⟨hi,g.get i hi id,rfl⟩⟩
theorem uD0.new1 {P:Program} {σ σ':jA} (g:jD σ σ' fun _=>False) (hlo:σ.lo≤σ.next) {cs cs1:List Value} {e:TypeId} {m:Bool} (hn:σ.next<σ'.next) (hc:cells σ' σ.next=some (cs,e,m)) (hz:FzL P (σ.next+1) σ' cs cs1) (ho:cs1.all one=true):uD0 P σ (σ.add (O cs1 e m)) σ':=by
 obtain ⟨fr,hg⟩:=uI hc
 refine ⟨by rw[jB];omega,by rw[jB];omega,jN _,fun i hi=>?_⟩
 rw[jB] at hi
 by_cases e:i=σ.next
 ·subst e
  refine .inr ⟨hlo,cs,cs1,_,fr,(0,0),_,hg,?_,by rw[jB];exact hz,ho⟩
  rw[qW _ _ rfl];rfl
 ·exact .inl ⟨by omega,by rw[jV _ _ e];exact g.get i (by omega) id,jV _ _ e⟩
theorem jI.cut {f:FuncId} {args:List Value} {d:Value} (hc:jO p H f args H fun v σ'=>FzV p.P H.next σ' v d):jI p H f args d:=by
 intro g h vs hP hr hv
 refine (hc g h vs hP hr hv).mono ?_
 rintro u h' ⟨v,σ',hz,g',x,hr',hv',_⟩
 have hP':=x.ok hP
 have hlo:=hr.lo
 rw[hP.2] at hlo
 have hk:uD0 p.P H H σ':=⟨Nat.le_refl _,x.nn,rfl,fun i hi=>.inl ⟨hi,by
  have h1:=hr'.base i (by rw[x.lo];omega)
  rw[hP'.2] at h1
  exact h1,rfl⟩⟩
 obtain ⟨x1,r1⟩:=dL0 hr x hr' hP'.1 hk
 exact ⟨_,x1,r1,fS0 hr' hP'.1 (by rw[x.lo];exact hr.lon) x.nn hz hv'⟩
theorem zL0 {g:Gh} {h:jA} {N:Nat} {f:FuncId} {cap:List Value} {fv:Value} (hv:RV g h N (.func (.func f) ⟨[]⟩ ⟨cap⟩) fv):∃ cs,fv=.func (.func f) ⟨[]⟩ ⟨cs⟩∧RVL g h N cap cs:=by
 simp only[RV] at hv
 obtain ⟨us,vs,h1,h2,h3⟩:=hv
 simp only[RVL] at h2
 subst h2
 exact ⟨vs,h1,h3⟩
theorem jC.func {f:FuncId} {cap args:List Value} {σ:jA} {R:Value→jA→Prop} {K:Bool→Value→jA→Prop} (hc:jO p H f (args++cap) σ R) (hK:∀ d σ',R d σ'→K false d σ'):jC p H (.func (.func f) ⟨[]⟩ ⟨cap⟩) args σ K:=by
 intro g h fv vs hP hr hf hv
 obtain ⟨cs,rfl,hcs⟩:=zL0 hf
 show yA0 p f (vs++cs) h _
 refine ((hc g h _ hP hr (hv.app hcs)).mono ?_).w
 rintro u h' ⟨d,σ',h1,h2⟩
 exact ⟨false,d,σ',hK d σ' h1,h2⟩
theorem Rel.same {g:Gh} {σ h h':jA} (hr:Rel g σ h) (ha:Agr h h') (hn:h.next≤h'.next) (hlo:h'.lo=h.lo) (hwf:∀ b,h'.next≤b→h'.get b=none) {F':Nat→Prop} (hF:∀ b,F' b→b<h'.next∧∀ i,uH σ i→g.δ i≠b) (hF2:∀ b,g.F b→F' b) :
  Rel { g with F:=F' } σ h'∧Ext0 g h σ.next { g with F:=F' } h' σ.next:=by
 have e0:Ext0 g h σ.next { g with F:=F' } h' σ.next:=⟨rfl,Nat.le_refl _,fun _ _=>rfl,hF2,hn,hlo,fun b _ hlt=>ha b hlt⟩
 refine ⟨⟨hr.pos,hr.lo,hr.lon,by have:=hr.hlo;omega,hr.base,hr.baseF,fun i hi=>by rw[hlo];exact hr.baseD i hi,fun i x hi hx=>(hr.obj i x hi hx).ext e0 (ha _ (hr.dlt i hi)),fun i hi=>Nat.lt_of_lt_of_le (hr.dlt i hi) hn,fun i hi=>by rw[hlo];exact hr.dlo i hi,hr.inj,hF,hwf⟩,e0⟩
theorem jC.lend {f:FuncId} {cap args args':List Value} {σ:jA} {d:Value} {K:Bool→Value→jA→Prop} (hc:jI p H f args' d) (hz:FzL p.P σ.lo σ (args++cap) args') (hd:flat d=true) (hK:K true d σ) :
  jC p H (.func (.func f) ⟨[]⟩ ⟨cap⟩) args σ K:=by
 intro g h fv vs hP hr hf hv
 obtain ⟨cs,rfl,hcs⟩:=zL0 hf
 show yA0 p f (vs++cs) h _
 have hr2:=kJ0 hr (m:=σ.lo)
 have hlo:=hr.lo
 rw[hP.2] at hr2 hlo
 have ha:=uU hr hP.1 (Nat.le_refl _) hr.lon hz (hv.app hcs)
 rw[hlo.1] at ha
 rw[hlo.1] at hr2
 refine ((hc (g.all H.next σ) h _ ⟨hP.1,hP.2⟩ hr2 ha).mono ?_).w
 rintro u h' ⟨g',x,r',rv⟩
 have no:∀ i,¬ uH H i:=fun i hi=>by have:=hi.1;have:=hi.2.1;omega
 have hu:=RV.flat d u hd rv
 subst hu
 have hag:Agr h h':=fun b hb=>x.fr b hb fun i hi=>absurd hi (no i)
 obtain ⟨r3,e0⟩:=hr.same hag x.next x.hlo r'.wf (F':=g.F) (fun b hb=>⟨Nat.lt_of_lt_of_le (hr.frz b hb).1 x.next,(hr.frz b hb).2⟩) (fun b hb=>hb)
 exact ⟨true,u,σ,hK,{ g with F:=g.F },⟨rfl,rfl,Nat.le_refl _,rfl,x.next,x.hlo,fun _ _=>rfl,fun _ hb=>hb,fun _ hb=>.inl hb,fun b hb _=>hag b hb,fun i hi=>.inl hi⟩,r3,RV.of_flat u hd,fun _=>hag⟩
theorem jC.data {f:FuncId} {cap args args':List Value} {σ:jA} {d:Value} {K:Bool→Value→jA→Prop} (hc:jI p H f args' d) (hfz:FzL p.P H.next H (args++cap) args') (hz:scL σ.lo (args++cap)=true) (hd:sc σ.lo d=true) (hK:K true d σ) :
  jC p H (.func (.func f) ⟨[]⟩ ⟨cap⟩) args σ K:=by
 intro g h fv vs hP hr hf hv
 obtain ⟨cs,rfl,hcs⟩:=zL0 hf
 show yA0 p f (vs++cs) h _
 have hlo:=hr.lo
 rw[hP.2] at hlo
 have no:∀ i,¬ uH H i:=fun i hi=>by have:=hi.1;have:=hi.2.1;omega
 have hr2:Rel g H h:=by
  have h1:=kJ0 hr (m:=0)
  rw[hP.2] at h1
  exact ⟨h1.pos,h1.lo,h1.lon,h1.hlo,h1.base,h1.baseF,h1.baseD,fun i x hi hx=>by
   have hx':σ.get i=some x:=by rw[hr.base i (by omega),hP.2];exact hx
   obtain ⟨ds,e,fr,rfl,hfl⟩:=hr.baseF i x (by omega) hx'
   obtain ⟨vs,e',h2,h0,h3,h4⟩:=hr.obj i _ (by have:=hr.lon;omega) hx'
   have:=RVL.flat _ _ hfl h3
   subst this
   exact ⟨_,e',h2,fun h=>by omega,RVL.of_flat _ hfl,h4⟩,h1.dlt,fun i hi=>absurd hi (no i),fun i j hi=>absurd hi (no i),fun b hb=>⟨(hr.frz b hb).1,fun i hi=>absurd hi (no i)⟩,h1.wf⟩
 have ha:=RVL.wid (g:=g) (g':=g) (n:=σ.lo) ⟨rfl,fun _ _=>rfl,fun _ hb=>hb⟩ _ _ hz (hv.app hcs)
 rw[hlo.1] at ha
 have ha:=uU hr2 hP.1 (by omega) (Nat.le_refl _) hfz ha
 have hr4:=kJ0 hr2 (m:=H.next)
 rw[hP.2] at hr4
 refine ((hc (g.all H.next H) h _ ⟨hP.1,hP.2⟩ hr4 ha).mono ?_).w
 rintro u h' ⟨g',x,r',rv⟩
 have hag:Agr h h':=fun b hb=>x.fr b hb fun i hi=>absurd hi (no i)
 have hFn:∀ b,g'.F b→g.F b∨h.next≤b:=fun b hb=>by
  rcases x.Fn b hb with h1|h1|⟨i,hi,_⟩
  ·rcases h1 with h1|⟨i,hi,_⟩
   ·exact .inl h1
   ·exact absurd hi (no i)
  ·exact .inr h1
  ·exact absurd hi (no i)
 obtain ⟨r3,e0⟩:=hr.same hag x.next x.hlo r'.wf (F':=g'.F) (fun b hb=>⟨(r'.frz b hb).1,fun i hi=>by
  rcases hFn b hb with h1|h1
  ·exact (hr.frz b h1).2 i hi
  ·have:=hr.dlt i hi.2.1;omega⟩) (fun b hb=>x.F b (.inl hb))
 refine ⟨true,d,σ,hK,{ g with F:=g'.F },⟨rfl,rfl,Nat.le_refl _,rfl,x.next,x.hlo,fun _ _=>rfl,fun b hb=>x.F b (.inl hb),fun b hb=>by
  rcases hFn b hb with h1|h1
  ·exact .inl h1
  ·exact .inr (.inl h1),fun b hb _=>hag b hb,fun i hi=>.inl hi⟩,r3,?_,fun _=>hag⟩
 have h5:=RV.wid (g:=g') (g':={ g with F:=g'.F }) (h:=h') (N:=H.next) (n:=σ.lo) ⟨x.P.symm,fun i hi=>(x.δ i (by omega)).symm,fun _ hb=>hb⟩ d u hd rv
 exact h5.ext ⟨rfl,hr.lon,fun _ _=>rfl,fun _ hb=>hb,Nat.le_refl _,rfl,fun _ _ _=>rfl⟩
end
class WBK where a:Bool→Value→jA→Prop
class WCB where a:Bool→Value→jA→Prop→Prop
def kB [x:WBK]:Bool→Value→jA→Prop:=x.a
def kC [x:WCB]:Bool→Value→jA→Prop→Prop:=x.a
theorem zX2 (K:Bool→Value→jA→Prop) (b:Bool) (v:Value) (h:jA):@kB ⟨K⟩ b v h=K b v h:=propext Iff.rfl
theorem zW2 (K:Bool→Value→jA→Prop→Prop) (b:Bool) (v:Value) (h:jA) (c:Prop):@kC ⟨K⟩ b v h c=K b v h c:=propext Iff.rfl
def gCV (p:Par) (H:jA) (v:Value) (w:Bool) (f:Value) (args:List Value) (h:jA) (K:Bool→Value→jA→Prop):Prop:=gV v w (jC p H f args h K) (K true undef h)
def gCD (p:Par) (H:jA) (v:Value) (w:Bool) (f:Value) (args:List Value) (b:List Nat) (L:LD) (h:jA) (K:Bool→Value→jA→Prop→Prop):Prop:=gV v w (jC p H f args h (fun c v h'=>K c v h' (kW0 c b h' L))) (K true undef h True)
def gED (v:Value) (w:Bool) (E:Option (Value×jA)) (c:Bool) (b:List Nat) (L:LD) (h:jA) (K:Value→jA→Prop→Prop):Prop:=gV v w (oE E (fun v h'=>K v h' (kW0 c b h' L))) (K undef h True)
section
variable {p:Par} {H:jA} {w c:Bool} {E:Option (Value×jA)} {h:jA} {K:Bool→Value→jA→Prop} {f:Value} {args:List Value} {b:List Nat} {L:LD} {Kc:Bool→Value→jA→Prop→Prop} {Ke:Value→jA→Prop→Prop}
theorem kH2:gCV p H (.bool true) true f args h K=jC p H f args h K:=dK1
theorem kK2:gCV p H (.bool false) false f args h K=jC p H f args h K:=dN1
theorem kI2:gCV p H (.bool true) false f args h K=K true undef h:=dL1
theorem kJ2:gCV p H (.bool false) true f args h K=K true undef h:=dM1
theorem gCV_u:gCV p H undef w f args h K=K true undef h:=propext Iff.rfl
theorem kL2:gCD p H (.bool true) true f args b L h Kc=jC p H f args h (fun c v h'=>Kc c v h' (kW0 c b h' L)):=dK1
theorem kO2:gCD p H (.bool false) false f args b L h Kc=jC p H f args h (fun c v h'=>Kc c v h' (kW0 c b h' L)):=dN1
theorem kM2:gCD p H (.bool true) false f args b L h Kc=Kc true undef h True:=dL1
theorem kN2:gCD p H (.bool false) true f args b L h Kc=Kc true undef h True:=dM1
theorem gCD_u:gCD p H undef w f args b L h Kc=Kc true undef h True:=propext Iff.rfl
theorem kD2:gED (.bool true) true E c b L h Ke=oE E (fun v h'=>Ke v h' (kW0 c b h' L)):=dK1
theorem kG2:gED (.bool false) false E c b L h Ke=oE E (fun v h'=>Ke v h' (kW0 c b h' L)):=dN1
theorem kE2:gED (.bool true) false E c b L h Ke=Ke undef h True:=dL1
theorem kF2:gED (.bool false) true E c b L h Ke=Ke undef h True:=dM1
theorem gED_u:gED undef w E c b L h Ke=Ke undef h True:=propext Iff.rfl
theorem sO1 (b:List Nat) (h:jA) (L:LD):kW0 true b h L=True:=rfl
theorem sQ1 (b:List Nat) (h:jA) (L:LD):kW0 false b h L=kL b h L:=rfl
theorem sP1 (c:Bool) (b:List Nat) (h:jA):kW0 c b h []=True:=by cases c<;>rfl
theorem kD_t (A:Prop):kD true A=True:=rfl
theorem kD_f (A:Prop):kD false A=A:=rfl
theorem kD_n (c:Bool):kD c True=True:=by cases c<;>rfl
theorem kE_ld (P:Program) (t:TypeId) (a:Option Addr) (v:Value) (h:jA):kE h (ldK P t (.pointer a)) v=(ldD P t (.pointer a) h=some v∧eqv v=true):=by
 refine propext ⟨fun ⟨h1,h2⟩=>⟨h1,?_⟩,fun ⟨h1,h2⟩=>⟨h1,.inl h2⟩⟩
 rcases h2 with h2|h2
 ·exact h2
 ·exfalso
  have h3:ldD P t (.pointer a) ⟨.nil,0,0⟩=some v:=(h2 _ h).trans h1
  unfold ldD jJ at h3
  split at h3
  ·rename_i h4;cases h4
  ·split at h3
   ·have hc : ∀ b, Ev.cells ⟨.nil, 0, 0⟩ b = none := fun b => by
     unfold Ev.cells
     have:(⟨.nil,0,0⟩:jA).get b=none:=Tr.get_nil b
     rw[this]
    rw[hc _] at h3
    cases h3
   ·cases h3
theorem kE_r (P:Program) (t:TypeId) (off:Nat) (cs:List Value) (v:Value) (h:jA):kE h (ldK P t (Rpt off cs)) v=(ldD P t (Rpt off cs) h=some v):=
 propext ⟨fun h=>h.1,fun h1=>⟨h1,.inr fun _ _=>rfl⟩⟩
theorem kE_no (v:Value) (h:jA):kE h nrd v=False:=by simp[kE,nrd]
def kL1 (c:Bool) (A B:Prop):Prop:=match c with|true=>B|false=>A∧B
theorem kL1_t (A B:Prop):kL1 true A B=B:=rfl
theorem kL1_f (A B:Prop):kL1 false A B=(A∧B):=rfl
theorem kL_n (b:List Nat) (h:jA):kL b h []=True:=rfl
theorem kL_c (b:List Nat) (h:jA) (i:Nat) (rd:jA→Option Value) (v:Value) (L:LD):kL b h ((i,rd,v) :: L)=kL1 (memN i b) (kE h rd v) (kL b h L):=by
 show Bool.rec (motive:=fun _=>Prop) (kE h rd v∧kL b h L) (kL b h L) (memN i b)=_
 cases memN i b<;>rfl
theorem kA_ld (P:Program) (t:TypeId) (a v:Value) (h:jA):kA h (ldK P t a) v=(ldD P t a h=some v):=propext Iff.rfl
theorem kA_no (v:Value) (h:jA):kA h nrd v=False:=by simp[kA,nrd]
theorem eqv_p (a:Option Addr):eqv (.pointer a)=true:=rfl
theorem eqv_s (a:Option Addr) (n c:Nat):eqv (.slice a n c)=true:=rfl
theorem eqv_b (b:Bool):eqv (.bool b)=true:=rfl
theorem eqv_i (k:IntKind) (i:Int):eqv (.int k i)=true:=rfl
theorem eqv_t (s:ByteArray):eqv (.string s)=true:=rfl
theorem ncD_p (a:Addr):ncD (.pointer (some a))=some (.pointer (some a)):=rfl
theorem ncD_f (g:FuncId) (f c:Array Value):ncD (.func (.func g) f c)=some (.func (.func g) f c):=rfl
theorem ncD_r (o:Nat) (cs:List Value):ncD (Rpt o cs)=some (Rpt o cs):=rfl
attribute [push_cast] ncD_p ncD_f ncD_r
attribute [push_cast] sQ1 kD_t kD_f kD_n kE_ld kE_r kE_no kA_ld kA_no kL1_t kL1_f kL_n kL_c eqv_p eqv_s eqv_b eqv_i eqv_t
end
def wV2 (x:Option (List Value×TypeId×Bool)):Bool:=match x with|some (_,_,mo)=>!mo|none=>true
theorem cS1 (f:Bool) (e n:Nat) (cs:List Value) (h:jA):bH0 (Rw f e n cs) h=true:=rfl
theorem wA1 (n c:Nat) (h:jA):bH0 (.slice none n c) h=true:=rfl
theorem rO1 (b o n c:Nat) (s:Option Nat) (h:jA):bH0 (.slice (some ⟨b,o,s⟩) n c) h=wV2 (cells h b):=rfl
theorem rP1 (cs:List Value) (e:TypeId) (m:Bool):wV2 (some (cs,e,m)) = !m:=rfl
theorem rN1 (h:jA):bH0 undef h=true:=rfl
theorem cX1 (i:Nat):memN i []=false:=rfl
theorem zO2 {i x:Nat} {l:List Nat} (h:i=x):memN i (x :: l)=true:=by rw[memN,h,Nat.beq_refl]
theorem zP2 {i x:Nat} {l:List Nat} (h:i≠x):memN i (x :: l)=memN i l:=by
 have hb:Nat.beq i x=false:=by
  cases hb:Nat.beq i x with
  | false=>rfl
  | true=>exact absurd (Nat.eq_of_beq_eq_true hb) h
 rw[memN,hb]
attribute [push_cast] cS1 wA1 rO1 rP1 rN1 cX1
attribute [push_cast] zX2 zW2 kH2 kK2 kI2 kJ2 gCV_u kL2 kO2 kM2 kN2 gCD_u kD2 kG2 kE2 kF2 gED_u sO1 sP1
def mvT:Go.Op→Option Nat
 | .move (.tmp i)=>some i
 | .assign (.tmp i)=>some i
 | _=>none
theorem zN2 {P:Program} {o:Go.Op} {t:TypeId} {tm:VT} {i:Nat} (h:mvT o=some i):tpD P o t tm=some (tm.get i):=by
 unfold mvT at h
 split at h
 ·cases h;rfl
 ·cases h;rfl
 ·cases h
theorem zM2 {P:Program} {o:Go.Op} {t:TypeId} {tm:VT} {σ:jA} {i:Nat} (h:mvT o=some i):tvD P o t tm σ=some (tm.get i):=by
 unfold mvT at h
 split at h
 ·cases h;rfl
 ·cases h;rfl
 ·cases h
abbrev KD:=LD→VT→jA→(VT→jA→Prop)→Prop
def mI1 (p:Par) (x:It) (ih:KD):KD:=fun L tm h K=>match x.g with
 | none=>match mvT x.o with
  | some i=>ih L (put tm x.d (tm.get i)) h K
  | none=>oP (tpD p.P x.o x.t tm) h (@kk ⟨fun v _=>ih L (put tm x.d v) h K⟩)
 | some (d,w)=>gP (tm.get d) w (tpD p.P x.o x.t tm) h (@kk ⟨fun v _=>ih L (put tm x.d v) h K⟩)
def mH1 (p:Par) (i:Nat) (x:It) (ih:KD):KD:=fun L tm h K=>match x.g with
 | none=>oP (tvD p.P x.o x.t tm h) h (@kk ⟨fun v _=>ih ((i,rdD p.P x.o tm,v) :: L) (put tm x.d v) h K⟩)
 | some (d,w)=>gP (tm.get d) w (tvD p.P x.o x.t tm h) h (@kk ⟨fun v _=>ih ((i,rdD p.P x.o tm,v) :: L) (put tm x.d v) h K⟩)
def dEff (p:Par) (q:Q) (x:It) (bind:List Nat) (ih:KD):KD:=fun L tm h K=>match x.g,x.c,x.o with
 | none,.eff,o=>oE (teD p.P q.m o x.t tm h) (@kk ⟨fun v h'=>jR (fQ0 x (bT0 o tm h) bind h' L) (@kb ⟨ih (wE0 bind L) (put tm x.d v) h' K⟩)⟩)
 | none,.call,.call ⟨.value f,args,_⟩=>jC p q.H (ev tm f) (args.toList.map (ev tm)) h (@kB ⟨fun b v h'=>jR (kW0 b bind h' L) (@kb ⟨ih (wE0 bind L) (put tm x.d v) h' K⟩)⟩)
 | some (d,w),.eff,o=>gED (tm.get d) w (teD p.P q.m o x.t tm h) (bT0 o tm h) bind L h (@kc ⟨fun v h' c=>jR c (@kb ⟨ih (wE0 bind L) (put tm x.d v) h' K⟩)⟩)
 | some (d,w),.call,.call ⟨.value f,args,_⟩=>gCD p q.H (tm.get d) w (ev tm f) (args.toList.map (ev tm)) bind L h (@kC ⟨fun b v h' c=>jR c (@kb ⟨ih (wE0 bind L) (put tm x.d v) h' K⟩)⟩)
 | _,_,_=>vgd tm x.g (vopD p q x.c x.o x.t tm h (@kB ⟨fun b v h'=>jR (fQ0 x b bind h' L) (@kb ⟨ih (wE0 bind L) (put tm x.d v) h' K⟩)⟩)) (ih (wE0 bind L) (put tm x.d undef) h K)
def dTk (p:Par) (i:Nat) (rd:Bool) (x:It) (ih:KD):KD:=Bool.rec (motive:=fun _=>KD) (mI1 p x ih) (mH1 p i x ih) rd
def kR0 (p:Par) (q:Q) (t:PT):KD:=
 PT.rec (motive:=fun _=>KD) (fun _ tm h K=>K tm h) (fun _ _ _ _=>True) (fun _ _ _ _=>False)
  (fun i rd x _ ih=>dTk p i rd x ih)
  (fun _ x bind _ alt ih ih2=>Bool.rec (motive:=fun _=>KD) (fun L tm h K=>dEff p q x bind ih L tm h K∧ih2 L tm h K) (dEff p q x bind ih) (isNo alt)) t
theorem zG0 (p:Par) (q:Q) (K:VT→jA→Prop):∀ (t:PT) (L:LD) (tm:VT) (h:jA),kR0 p q t L tm h K=wF0 p q t L tm h K
 | .fin,L,tm,h=>rfl
 | .no,L,tm,h=>rfl
 | .bad,L,tm,h=>rfl
 | .take i rd x k,L,tm,h=>by
  have ih:=zG0 p q K k
  show dTk p i rd x (kR0 p q k) L tm h K=_
  unfold dTk
  simp only[wF0]
  cases rd with
  | false=>
   dsimp only
   unfold mI1
   simp only[ih,kk]
   cases x.g with
   | none=>
    dsimp only
    split
    ·rename_i j hm
     rw[zN2 hm]
     rfl
    ·rfl
   | some y=>obtain ⟨d,w⟩:=y;rfl
  | true=>
   dsimp only
   unfold mH1
   simp only[ih,kk]
   cases x.g with
   | none=>rfl
   | some y=>obtain ⟨d,w⟩:=y;rfl
 | .eff i x bind k alt,L,tm,h=>by
  have ih:=zG0 p q K k
  have e:dEff p q x bind (kR0 p q k) L tm h K=vgd tm x.g (vopD p q x.c x.o x.t tm h fun b v h'=>fQ0 x b bind h' L∧wF0 p q k (wE0 bind L) (put tm x.d v) h' K) (wF0 p q k (wE0 bind L) (put tm x.d undef) h K):=by
   have hO:∀ {c:Bool} {h':jA},(x.g≠none∨x.c=.call)→fQ0 x c bind h' L=kW0 c bind h' L:=fun hne=>by
    unfold fQ0
    split
    ·rename_i hg hc _;rcases hne with hne|hne
     ·exact absurd hg hne
     ·rw[hc] at hne;cases hne
    ·rfl
   unfold dEff
   simp only[ih,kb,kk,kc,kB,kC]
   split
   ·rename_i hg hc
    simp only[hg,hc,vgd,vopD,jR]
   ·rename_i f args _ hg hc ho
    simp only[hO (.inr hc),hg,hc,ho,vgd,vopD,jR]
   ·rename_i d w hg hc
    simp only[hO (.inl (by rw[hg];simp)),hg,hc,gED,vgd,vopD,jR,true_and]
   ·rename_i d w f args _ hg hc ho
    simp only[hO (.inl (by rw[hg];simp)),hg,hc,ho,gCD,vgd,vopD,jR,true_and]
   ·rfl
  show (Bool.rec (motive:=fun _=>KD) (fun L tm h K=>dEff p q x bind (kR0 p q k) L tm h K∧kR0 p q alt L tm h K) (dEff p q x bind (kR0 p q k)) (isNo alt):KD) L tm h K=_
  simp only[wF0,← zG0 p q K alt]
  cases alt with
  | no=>
   show dEff p q x bind (kR0 p q k) L tm h K=_
   rw[e]
   exact (and_true _).symm
  | _=>exact congrArg (·∧_) e
def dop3 (p:Par) (q:Q) (x:It) (tm:VT) (h:jA) (K:Value→jA→Prop):Prop:=match x.g,x.c,x.o with
 | none,.take,o=>oP (tvD p.P o x.t tm h) h K
 | none,.eff,o=>oE (teD p.P q.m o x.t tm h) K
 | none,.call,.call ⟨.value f,args,_⟩=>jC p q.H (ev tm f) (args.toList.map (ev tm)) h (@kB ⟨fun _=>K⟩)
 | some (d,w),.take,o=>gP (tm.get d) w (tvD p.P o x.t tm h) h K
 | some (d,w),.eff,o=>gE (tm.get d) w (teD p.P q.m o x.t tm h) h K
 | some (d,w),.call,.call ⟨.value f,args,_⟩=>gCV p q.H (tm.get d) w (ev tm f) (args.toList.map (ev tm)) h (@kB ⟨fun _=>K⟩)
 | _,_,_=>vgd tm x.g (vopD p q x.c x.o x.t tm h fun _=>K) (K undef h)
def eC1 (p:Par) (q:Q) (l:List It):VT→jA→(VT→jA→Prop)→Prop:=
 List.rec (motive:=fun _=>VT→jA→(VT→jA→Prop)→Prop) (fun tm h K=>K tm h)
  (fun x _ ih tm h K=>match x.g,x.c,mvT x.o with
   | none,.take,some i=>ih (put tm x.d (tm.get i)) h K
   | _,_,_=>dop3 p q x tm h (@kk ⟨fun v h'=>ih (put tm x.d v) h' K⟩)) l
theorem oQ0 (p:Par) (q:Q) (K:VT→jA→Prop):∀ (l:List It) (tm:VT) (h:jA),eC1 p q l tm h K=dops p q l tm h K
 | [],tm,h=>rfl
 | x :: l,tm,h=>by
  show (match x.g,x.c,mvT x.o with
   | none,.take,some i=>eC1 p q l (put tm x.d (tm.get i)) h K
   | _,_,_=>dop3 p q x tm h (@kk ⟨fun v h'=>eC1 p q l (put tm x.d v) h' K⟩))=_
  simp only[oQ0 p q K l,kk,dops]
  split
  ·rename_i j hg hc hm
   rw[hg]
   simp only[vgd,hc,vopD,zM2 hm]
   rfl
  unfold dop3
  simp only[kB]
  split
  ·rename_i hg hc;simp only[hg,hc,vgd,vopD]
  ·rename_i hg hc;simp only[hg,hc,vgd,vopD]
  ·rename_i f args _ hg hc ho;simp only[hg,hc,ho,vgd,vopD]
  ·rename_i d w hg hc;simp only[hg,hc,vgd,vopD,gP]
  ·rename_i d w hg hc;simp only[hg,hc,vgd,vopD,gE]
  ·rename_i d w f args _ hg hc ho;simp only[hg,hc,ho,vgd,vopD,gCV]
  ·rfl
def dc3 (p:Par) (q:Q) (ro:Option Nat):IR→S→(jL→S→Prop)→Prop
 | .bad,_,_=>False
 | .skip,s,R=>R .normal s
 | .ret,s,R=>R .ret s
 | .exit i,s,R=>R (.exit i) s
 | .goto l,s,R=>R (.goto l) s
 | .label _,s,R=>R .normal s
 | .ops l,s,R=>eC1 p q l s.tm s.h fun tm h=>R .normal ⟨tm,s.df,h⟩
 | .plan t,s,R=>kR0 p q t [] s.tm s.h fun tm h=>R .normal ⟨tm,s.df,h⟩
 | .seq a b,s,R=>dc3 p q ro a s (jQ (fun s1=>dc3 p q ro b s1 (@kR ⟨R⟩)) R)
 | .cond x a b,s,R=>uW0 (ev s.tm x) (@kb ⟨dc3 p q ro a s R⟩) (@kb ⟨dc3 p q ro b s R⟩)
 | .block i b,s,R=>dc3 p q ro b s (jU i R)
 | .loop b,s,R=>WD p q.H ro (.loop b) s (@kR ⟨R⟩)
 | .scope b,s,R=>WinD p q.H ro b b s (@kR ⟨R⟩)
 | .range g ps a b,s,R=>WD p q.H ro (.range g ps a b) s (@kR ⟨R⟩)
theorem jM0 (p:Par) (q:Q) (ro:Option Nat):∀ (ir:IR) (s:S) (R:jL→S→Prop),dc3 p q ro ir s R=dc p q ro ir s R
 | .bad,s,R=>rfl
 | .skip,s,R=>rfl
 | .ret,s,R=>rfl
 | .exit i,s,R=>rfl
 | .goto l,s,R=>rfl
 | .label l,s,R=>rfl
 | .ops l,s,R=>oQ0 p q _ l _ _
 | .plan t,s,R=>zG0 p q _ t _ _ _
 | .seq a b,s,R=>by simp only[dc3,dc,jM0 p q ro a,jM0 p q ro b,kR,kb,eQ0,hi]
 | .cond x a b,s,R=>by simp only[dc3,dc,jM0 p q ro a,jM0 p q ro b,kR,kb,eQ0,hi]
 | .block i b,s,R=>jM0 p q ro b s _
 | .loop b,s,R=>rfl
 | .scope b,s,R=>rfl
 | .range g ps a b,s,R=>rfl
theorem jO.fir4 {p:Par} {q:Q} (jX:uE0 p) {f:FuncId} {fi:FIR} (hf:Ev.fir p.P f=some fi) (hok:gS p.NG fi.ir=true) {args:List Value} {σ:jA} {R:Value→jA→Prop} {T:VT} (hn:Nat.ble args.length fi.n=true) (hU:Nat.ble fi.n 100000=true)
  (hT:T.arr=⟨args++List.replicate (fi.n-args.length) undef⟩) (hNG:p.NG≤σ.lo) (hv:dc3 p q none fi.ir ⟨T,[],σ⟩ (jH p.P fi.rs R)):jO p q.H f args σ R:=
 jO.fir jX hf hok hn hU hT hNG (by rw[← jM0];exact hv)
theorem WD.loop4 {p:Par} {q:Q} (jX:uE0 p) {ro:Option Nat} {b:IR} {R:jL→S→Prop} (hok:gS p.NG b=true) (I:Nat→S→Prop) (h:∀ n s1,I n s1→dc3 p q ro b s1 (@kR ⟨jQ (fun s2=>∃ m,m<n∧I m s2) R⟩)) :
  ∀ n s,I n s→WD p q.H ro (.loop b) s R:=WD.loop jX hok I fun n s1 hI=>by
   have:=h n s1 hI
   rw[jM0] at this
   exact this
section
variable {P:Program} {t e n k:Nat} {f:Bool} {cs:List Value} {h:jA} {b off o i:Nat} {v:Value} {kk:IntKind}
theorem lnD_r:lnD (some false) (Rw f e n cs)=some (.int .i64 n):=rfl
theorem lnD_l (a:Option Addr) (n c:Nat) (z:Option Bool):lnD z (.slice a n c)=lnB z (.slice a n c):=rfl
theorem lnD_s (s:ByteArray) (z:Option Bool):lnD z (.string s)=lnB z (.string s):=rfl
theorem faD_p:faD (some o) (.pointer (some ⟨b,k,none⟩))=some (.pointer (some ⟨b,k+o,none⟩)):=by simp[faD,faV,addr_add]
theorem faD_r (hc:off+o<cs.length):faD (some o) (Rpt off cs)=some (Rpt (off+o) cs):=by
 show (if off+o<cs.length then some (Rpt (off+o) cs) else none)=_
 rw[if_pos hc]
theorem iaD_s (len c:Nat) (i:Int) (h0:0≤i) (hi:i<len):iaD (some (none,n)) (.slice (some ⟨b,o,none⟩) len c) (.int kk i)=some (.pointer (some ⟨b,o+i.toNat*n,none⟩)):=zY2 n b o len c kk i h0 hi
theorem iaD_a (len:Nat) (i:Int) (h0:0≤i) (hi:i<len):iaD (some (some len,n)) (.pointer (some ⟨b,o,none⟩)) (.int kk i)=some (.pointer (some ⟨b,o+i.toNat*n,none⟩)):=zZ2 n len b o kk i h0 hi
theorem iaD_r (i:Int) (h0:0≤i) (hi:i<n) (hk:0<k) (hl:cs.length=n*k):iaD (some (none,k)) (Rw f e n cs) (.int kk i)=some (Rpt (i.toNat*k) cs):=by
 show (if 0≤i∧i<n∧i.toNat*k<cs.length∧cs.length=n*k then some (Rpt (i.toNat*k) cs) else none)=_
 refine if_pos ⟨h0,hi,?_,hl⟩
 rw[hl]
 exact Nat.mul_lt_mul_of_pos_right (by omega) hk
def ldR (z:Option (Bool×Nat)) (cs:List Value) (off:Nat):Option Value:=match z with|some (b,n)=>uW b n cs off|none=>none
theorem ldD_r:ldD P t (Rpt off cs) h=ldR (knd P t) cs off:=rfl
theorem ldR_s (q:Bool):ldR (some (q,n)) cs off=uW q n cs off:=rfl
theorem ldD_p:ldD P t (.pointer (some ⟨b,off,none⟩)) h=ldC (knd P t) off h.lo b (cells h b):=zV0 b off
theorem slD_r (lo hi mx:Option Value):slD P t (Rw f e n cs) lo hi mx h=slR (slcT P t) f e n cs lo hi mx:=rfl
theorem slD_s (s:ByteArray) (lo hi mx:Option Value):slD P t (.string s) lo hi mx h=slV P t (.string s) lo hi mx h:=rfl
theorem slD_l (a:Option Addr) (n c:Nat) (lo hi mx:Option Value):slD P t (.slice a n c) lo hi mx h=slV P t (.slice a n c) lo hi mx h:=rfl
theorem nN0 {lo hi mx:Option Value} {l r:Nat} {m:Option Nat} (hk:0<k) (hl:cs.length=n*k) (hb:bounds n n mx hi lo=some (l,r,m)):slR (some (some (e,k))) f e n cs lo hi mx=some (Rw (kA0 f n r m) e (r-l) ((cs.drop (l*k)).take ((r-l)*k))):=by
 show (if e=e∧0<k∧cs.length=n*k then (match bounds n n mx hi lo with|some (l,h,m)=>some (Rw (kA0 f n h m) e (h-l) ((cs.drop (l*k)).take ((h-l)*k)))|none=>none) else none)=_
 rw[if_pos ⟨rfl,hk,hl⟩,hb]
theorem slR_l (i:Int) (hk:0<k) (hl:cs.length=n*k) (h0:0≤i) (hi:i≤n):slR (some (some (e,k))) f e n cs (some (.int kk i)) none none=some (Rw f e (n-i.toNat) (cs.drop (i.toNat*k))):=by
 have hb:=yM0 (len:=n) (kl:=kk) (kh:=.i64) (km:=.i64) (lo:=some i) (hi:=none) (mx:=none) (fun x hx=>by cases hx) (fun x hx=>by cases hx) (fun _=>rfl) (fun x hx=>by cases hx;exact ⟨h0,hi⟩)
 simp only[Option.map_none,Option.map_some] at hb
 rw[nN0 hk hl hb]
 have e1:kA0 f n n none=f:=by simp[kA0]
 simp only[Option.getD_none,Option.getD_some,Int.toNat_natCast,Option.map_none,e1]
 rw[List.take_of_length_le]
 rw[List.length_drop,hl,Nat.sub_mul]
 exact Nat.le_refl _
theorem slR_h (i:Int) (hk:0<k) (hl:cs.length=n*k) (h0:0≤i) (hi:i≤n):slR (some (some (e,k))) f e n cs none (some (.int kk i)) none=some (Rw (f&&Nat.beq i.toNat n) e i.toNat (cs.take (i.toNat*k))):=by
 have hb:=yM0 (len:=n) (kl:=.i64) (kh:=kk) (km:=.i64) (lo:=none) (hi:=some i) (mx:=none) (fun x hx=>by cases hx) (fun x hx=>by cases hx;exact ⟨h0,hi⟩) (fun h=>by cases h) (fun x hx=>by cases hx)
 simp only[Option.map_none,Option.map_some] at hb
 rw[nN0 hk hl hb]
 simp only[Option.getD_none,Option.getD_some,Option.map_none,kA0]
 simp
theorem uW2 (i j:Int) {kj:IntKind} (hk:0<k) (hl:cs.length=n*k) (h0:0≤i) (hi:i≤j) (hj:j≤n):slR (some (some (e,k))) f e n cs none (some (.int kk i)) (some (.int kj j))=some (Rw (Nat.beq j.toNat i.toNat) e i.toNat (cs.take (i.toNat*k))):=by
 have hb:=yM0 (len:=n) (kl:=.i64) (kh:=kk) (km:=kj) (lo:=none) (hi:=some i) (mx:=some j) (fun x hx=>by cases hx;exact ⟨by omega,hj⟩) (fun x hx=>by cases hx;exact ⟨h0,hi⟩) (fun h=>by cases h) (fun x hx=>by cases hx)
 simp only[Option.map_none,Option.map_some] at hb
 rw[nN0 hk hl hb]
 simp only[Option.getD_none,Option.getD_some,Option.map_some,kA0]
 simp
theorem uV2 (i j:Int) {kj:IntKind} (hk:0<k) (hl:cs.length=n*k) (h0:0≤i) (hi:i≤j) (hj:j≤n):slR (some (some (e,k))) f e n cs (some (.int kk i)) (some (.int kj j)) none=some (Rw (f&&Nat.beq j.toNat n) e (j.toNat-i.toNat) ((cs.drop (i.toNat*k)).take ((j.toNat-i.toNat)*k))):=by
 have hb:=yM0 (len:=n) (kl:=kk) (kh:=kj) (km:=.i64) (lo:=some i) (hi:=some j) (mx:=none) (fun x hx=>by cases hx) (fun x hx=>by cases hx;exact ⟨by omega,hj⟩) (fun h=>by cases h) (fun x hx=>by cases hx;exact ⟨h0,hi⟩)
 simp only[Option.map_none,Option.map_some] at hb
 rw[nN0 hk hl hb]
 simp only[Option.getD_none,Option.getD_some,Option.map_none,kA0]
theorem cvD_i {s d:TypeId} (z:Int):cvD P s d (.int kk z) h=cvV P s d (.int kk z) h:=rfl
theorem cvD_s {s d:TypeId} (z:ByteArray):cvD P s d (.string z) h=cvV P s d (.string z) h:=rfl
theorem cvD_l {s d:TypeId} (a:Option Addr) (n c:Nat):cvD P s d (.slice a n c) h=cvV P s d (.slice a n c) h:=rfl
theorem bxQ_t (hc:v.cells.toList.all one=true) (hn:0<v.cells.toList.length):bxQ true e v h=some (Rpt 0 v.cells.toList,h):=if_pos ⟨hc,hn⟩
theorem bxQ_f:bxQ false e v h=bxD e v h:=rfl
theorem bxD_s (hc:v.cells.toList.all one=true):bxD e v h=some (.pointer (some ⟨h.next,0,none⟩),h.add (O v.cells.toList e false)):=if_pos hc
def stDC (n off:Nat) (v:Value) (σ:jA) (b:Nat):Option (List Value×TypeId×Bool)→Option (Value×jA)
 | some (cs,e,m)=>if v.cells.toList.length=n∧v.cells.toList.all one=true∧σ.lo≤b∧off+n≤cs.length then some (undef,σ.put b (O (setFrom cs off v.cells.toList) e m)) else none
 | none=>none
theorem uS2:stD (some n) (.pointer (some ⟨b,off,none⟩)) v h=stDC n off v h b (cells h b):=by
 unfold stD stDC
 dsimp only
 all_goals (rcases cells h b with _|⟨cs,e,m⟩<;>rfl)
theorem eT0 (cs:List Value) (e:TypeId) (m:Bool) (h1:v.cells.toList.length=n) (h2:v.cells.toList.all one=true) (h3:h.lo≤b) (h4:off+n≤cs.length):stDC n off v h b (some (cs,e,m))=some (undef,h.put b (O (setFrom cs off v.cells.toList) e m)):=if_pos ⟨h1,h2,h3,h4⟩
def bsDC (q:Bool) (len e:Nat) (σ:jA):Option (List Value)→Option (Value×jA)
 | some cs=>if cs.all one=true then (if q=true∨len=0 then some (.slice (some ⟨σ.next,0,none⟩) len len,σ.add (O cs e false)) else some (Rw true e len cs,σ)) else none
 | none=>none
theorem gD1 (q:Bool) (zs:List Value) (len:Nat) (parts:List (Nat×Value)) (hl:len*n≤16777216):bsD q (some (e,n,zs)) len parts h=bsDC q len e h (kV ((List.range len).map (fun i=>(i*n,n))) (List.replicate len zs).flatten parts):=by
 unfold bsD bsDC
 dsimp only
 all_goals rw[if_pos hl]
 all_goals cases kV (List.map (fun i=>(i*n,n)) (List.range len)) (List.replicate len zs).flatten parts<;>rfl
theorem yU2 (len:Nat) (hc:cs.all one=true) (hl:0<len):bsDC false len e h (some cs)=some (Rw true e len cs,h):=by
 unfold bsDC
 dsimp only
 rw[if_pos hc,if_neg (by simp;omega)]
theorem gE1 (len:Nat) (hc:cs.all one=true):bsDC true len e h (some cs)=some (.slice (some ⟨h.next,0,none⟩) len len,h.add (O cs e false)):=by
 unfold bsDC
 dsimp only
 rw[if_pos hc,if_pos (.inl rfl)]
theorem yV2 (q:Bool) (hc:cs.all one=true):bsDC q 0 e h (some cs)=some (.slice (some ⟨h.next,0,none⟩) 0 0,h.add (O cs e false)):=by
 unfold bsDC
 dsimp only
 rw[if_pos hc,if_pos (.inr rfl)]
def apS (e size by_:Nat) (s:Value) (x:Option (Nat×List Value)) (σ:jA):Option (Value×jA):=match x with
 | some (m,xs)=>if xs.all one=true then apB e size by_ s m xs σ else none
 | none=>none
theorem gC2 (by_:Nat) (s x:Value):apD (some (e,k,by_)) s x h=apS e k by_ s (srcD k x h) h:=rfl
theorem uT2 (m:Nat) (hl:cs.length=m*k):srcD k (Rw f e m cs) h=some (m,cs):=if_pos hl
theorem mR0 (by_ m:Nat) (xs:List Value) (ho:xs.all one=true) (hm:0<m) (hb:m*by_≤140737488355328∧m<100000000000000):apS e k by_ (.slice none 0 0) (some (m,xs)) h=some (.slice (some ⟨h.next,0,none⟩) m UC,h.add (O xs e true)):=by
 show (if xs.all one=true then (if m=0 then some (Value.slice none 0 0,h) else if m*by_≤140737488355328∧m<100000000000000 then some (Value.slice (some ⟨h.next,0,none⟩) m UC,h.add (O xs e true)) else none) else none)=_
 rw[if_pos ho,if_neg (by omega),if_pos hb]
theorem oX0 (by_:Nat) (xs:List Value) (ho:xs.all one=true):apS e k by_ (.slice none 0 0) (some (0,xs)) h=some (.slice none 0 0,h):=by
 show (if xs.all one=true then (if (0:Nat)=0 then some (Value.slice none 0 0,h) else if 0*by_≤140737488355328∧0<100000000000000 then some (Value.slice (some ⟨h.next,0,none⟩) 0 UC,h.add (O xs e true)) else none) else none)=_
 rw[if_pos ho,if_pos rfl]
end
attribute [push_cast] lnD_r lnD_l lnD_s faD_p faD_r iaD_s iaD_a iaD_r ldD_r ldR_s ldD_p slD_r slD_s slD_l slR_l slR_h uW2 uV2 cvD_i cvD_s cvD_l bxD_s bxQ_t bxQ_f uS2 eT0 gD1 yU2 gE1 yV2 gC2 uT2 mR0 oX0
theorem zC2 {f:Bool} {e n:Nat} {cs:List Value}:one (Rw f e n cs)=true:=rfl
theorem jW1 {f:Bool} {e n:Nat} {cs:List Value}:(Rw f e n cs).cells.toList=[Rw f e n cs]:=rfl
theorem all_cons {v:Value} {l:List Value}:((v :: l).all one=true)=(one v=true∧l.all one=true):=by simp
theorem all_nil:([].all one=true)=True:=by simp
theorem jR2 {l m:List Value}:((l++m).all one=true)=(l.all one=true∧m.all one=true):=by simp
theorem rX1 {k:IntKind} {n:Int}:one (.int k n)=true:=rfl
theorem cU1 {b:Bool}:one (.bool b)=true:=rfl
theorem rW1 {b:ByteArray}:one (.string b)=true:=rfl
theorem zB2 {a:Option Addr} {n c:Nat}:one (.slice a n c)=true:=rfl
theorem one_p {a:Option Addr}:one (.pointer a)=true:=rfl
theorem one_f {g:Fn} {a b:Array Value}:one (.func g a b)=true:=rfl
attribute [push_cast] zC2 jW1 all_cons all_nil jR2 rX1 cU1 rW1 zB2 one_p one_f
theorem kX0 {P:Program} {n:Nat} {σ:jA} {v d:Value} (h:v=d) (hs:sc n v=true):FzV P n σ v d:=by rw[← h];exact .id hs
structure OwnD (σ:jA) (e n:Nat) (a:Option Addr) (len c:Nat) (cs:List Value):Prop where
 hlen:cs.length=len*n
 hone:cs.all one=true
 hat:(a=none∧len=0∧c=0)∨∃ b m,a=some ⟨b,0,none⟩∧σ.lo≤b∧b<σ.next∧cells σ b=some (cs,e,m)∧((m=true∧c=UC)∨(m=false∧c=len))
theorem OwnD.nil (σ:jA) (e n:Nat):OwnD σ e n none 0 0 []:=⟨by simp,rfl,.inl ⟨rfl,rfl,rfl⟩⟩
theorem OwnD.grew {σ σ':jA} {S:Nat→Prop} {e n:Nat} {a:Option Addr} {len c:Nat} {cs:List Value} (ho:OwnD σ e n a len c cs) (g:jD σ σ' S) (hS:∀ b,blk a b→¬ S b):OwnD σ' e n a len c cs:=by
 refine ⟨ho.hlen,ho.hone,?_⟩
 rcases ho.hat with h0|⟨b,m,ha,h1,h2,h3,h4⟩
 ·exact .inl h0
 ·exact .inr ⟨b,m,ha,by rw[g.lo];exact h1,Nat.lt_of_lt_of_le h2 g.next,(g.cells h2 (hS b ⟨0,none,ha⟩)).trans h3,h4⟩
theorem wC1 {σ:jA} {e n by_:Nat} {a:Option Addr} {len c:Nat} {cs:List Value} (ho:OwnD σ e n a len c cs) (hn:0<n) (hlo:σ.lo≤σ.next) {m:Nat} {xs:List Value} (hxl:xs.length=m*n) (hxo:xs.all one=true) (hb:(len+m)*by_≤140737488355328∧(len+m)<100000000000000) :
  ∃ a' c' σ',apS e n by_ (.slice a len c) (some (m,xs)) σ=some (.slice a' (len+m) c',σ')∧OwnD σ' e n a' (len+m) c' (cs++xs)∧jD σ σ' (blk a)∧(∀ b,blk a' b→blk a b∨σ.next≤b):=by
 have hlen:(cs++xs).length=(len+m)*n:=by rw[List.length_append,ho.hlen,hxl,Nat.add_mul]
 have hone:(cs++xs).all one=true:=by rw[List.all_append,ho.hone,hxo];rfl
 have hfresh:∀ q,OwnD (σ.add (O (cs++xs) e true)) e n (some ⟨σ.next,0,none⟩) (len+m) UC (cs++xs)∧jD σ (σ.add (O (cs++xs) e true)) q∧(∀ b,blk (some (⟨σ.next,0,none⟩:Addr)) b→blk a b∨σ.next≤b):=fun q=>
  ⟨⟨hlen,hone,.inr ⟨σ.next,true,rfl,by rw[jN];exact hlo,by rw[jB];omega,qC _ _ _ _ rfl,.inl ⟨rfl,rfl⟩⟩⟩,jD.add _ _ _,fun b hb=>by
   obtain ⟨o,s,hb⟩:=hb
   right
   cases hb
   exact Nat.le_refl _⟩
 rcases ho.hat with ⟨rfl,rfl,rfl⟩|⟨b,mo,rfl,h1,h2,h3,h4⟩
 ·have hcs:cs=[]:=List.length_eq_zero_iff.1 (by rw[ho.hlen];simp)
  subst hcs
  cases m with
  | zero=>
   have hxs:xs=[]:=List.length_eq_zero_iff.1 (by rw[hxl];simp)
   subst hxs
   exact ⟨none,0,σ,oX0 _ _ rfl,ho,jD.refl _ _,fun b hb=>.inl hb⟩
  | succ m=>
   obtain ⟨q1,q2,q3⟩:=hfresh (blk none)
   rw[List.nil_append] at q1 q2
   rw[Nat.zero_add] at hb
   refine ⟨_,_,_,?_,q1,q2,q3⟩
   rw[Nat.zero_add]
   exact mR0 _ _ _ hxo (by omega) hb
 ·have hap : apS e n by_ (.slice (some ⟨b, 0, none⟩) len c) (some (m, xs)) σ = (if mo = true ∧ c = UC then some (.slice (some ⟨σ.next, 0, none⟩) (len + m) UC, { t := (σ.t.put σ.next (O (cs ++ xs) e true)).put b (qB σ.next e cs), next := σ.next + 1, lo := σ.lo })
     else if mo=false∧c=len then (if m=0 then some (.slice (some ⟨b,0,none⟩) len c,σ) else some (.slice (some ⟨σ.next,0,none⟩) (len+m) UC,σ.add (O (cs++xs) e true)))
     else none):=by
   show (if xs.all one=true then (match cells σ b with
    | some (cs,e',mo)=>if e'=e∧σ.lo≤b∧cs.length=len*n∧(len+m)*by_≤140737488355328∧(len+m)<100000000000000 then
    (if mo=true∧c=UC then some (Value.slice (some ⟨σ.next,0,none⟩) (len+m) UC,{ t:=(σ.t.put σ.next (O (cs++xs) e true)).put b (qB σ.next e cs),next:=σ.next+1,lo:=σ.lo })
     else if mo=false∧c=len then (if m=0 then some (Value.slice (some ⟨b,0,none⟩) len c,σ) else some (Value.slice (some ⟨σ.next,0,none⟩) (len+m) UC,σ.add (O (cs++xs) e true)))
     else none)
   else none
    | none=>none) else none)=_
   rw[if_pos hxo,h3]
   dsimp only
   rw[if_pos ⟨rfl,h1,ho.hlen,hb⟩]
  rcases h4 with ⟨rfl,rfl⟩|⟨rfl,rfl⟩
  ·rw[if_pos ⟨rfl,rfl⟩] at hap
   refine ⟨_,_,_,hap,⟨hlen,hone,.inr ⟨σ.next,true,rfl,by show σ.lo≤σ.next;omega,Nat.lt_succ_self _,?_,.inl ⟨rfl,rfl⟩⟩⟩,⟨Nat.le_succ _,rfl,fun j hj hb=>?_⟩,fun j hj=>?_⟩
   ·unfold Ev.cells
    have:=jH0 (h:=σ) (b:=b) (x':=⟨.cells ⟨cs++xs⟩ e,true⟩) (y:=qB σ.next e cs) σ.next
    rw[if_neg (by omega),if_pos rfl] at this
    show (match jA.get { t:=(σ.t.put σ.next ⟨.cells ⟨cs++xs⟩ e,true⟩).put b (qB σ.next e cs),next:=σ.next+1,lo:=σ.lo } σ.next with|some ⟨.cells ⟨cs⟩ e _,m⟩=>some (cs,e,m)|_=>none)=_
    rw[this]
   ·have:=jH0 (h:=σ) (b:=b) (x':=⟨.cells ⟨cs++xs⟩ e,true⟩) (y:=qB σ.next e cs) j
    rw[if_neg (fun e=>hb ⟨0,none,by rw[e]⟩),if_neg (by omega)] at this
    exact this
   ·obtain ⟨o,s,hj⟩:=hj
    cases hj
    exact .inr (Nat.le_refl _)
  ·rw[if_neg (by simp),if_pos ⟨rfl,rfl⟩] at hap
   by_cases hm:m=0
   ·subst hm
    have hxs:xs=[]:=List.length_eq_zero_iff.1 (by rw[hxl];simp)
    subst hxs
    rw[if_pos rfl] at hap
    exact ⟨_,_,_,hap,by simpa using ho,jD.refl _ _,fun b hb=>.inl hb⟩
   ·rw[if_neg hm] at hap
    obtain ⟨q1,q2,q3⟩:=hfresh (blk (some ⟨b,0,none⟩))
    exact ⟨_,_,_,hap,q1,q2,q3⟩
theorem OwnD.fz {P:Program} {σ:jA} {e n:Nat} {a:Option Addr} {len c:Nat} {cs ds:List Value} {N:Nat} (ho:OwnD σ e n a len c cs) (hs:szT P e=some n) (hn:0<n) (hlen:len<100000000000000) (hd:FzL P N σ cs ds) (hN:∀ b,blk a b→N≤b):FzV P N σ (.slice a len c) (Rw false e len ds):=by
 rcases ho.hat with ⟨rfl,rfl,rfl⟩|⟨b,mo,rfl,h1,h2,h3,h4⟩
 ·have hcs:cs=[]:=List.length_eq_zero_iff.1 (by rw[ho.hlen];simp)
  subst hcs
  cases hd
  exact .nil hs hn
 ·refine .sl (hN b ⟨0,none,rfl⟩) h3 hs hn (by rw[ho.hlen];omega) ?_ ?_
  ·have hU:U=100000000000000:=by unfold U;rfl
   rcases h4 with ⟨rfl,rfl⟩|⟨rfl,rfl⟩
   ·exact .inr ⟨rfl,Nat.le_refl _,by simp,by omega⟩
   ·exact .inl ⟨by have:=U_UC;omega,Nat.le_refl _⟩
  ·rw[List.drop_zero,List.take_of_length_le (by rw[ho.hlen];omega)]
   exact hd
end
end Go.Dv
namespace Go.Ev
open Go Go.RowKit
mutual
def sN0:DataW Unit→List Value
 | .lit (.bool b)=>[.bool b]
 | .lit (.int k n)=>[.int k n]
 | .lit (.string s)=>[.string ⟨⟨s⟩⟩]
 | .agg ds=>oJ0 ds
 | _=>[]
def oJ0:List (DataW Unit)→List Value
 | []=>[]
 | d :: ds=>sN0 d++oJ0 ds
end
def cK0 (P:Program) (f:TypeId→Bool):List Field→Nat→Nat→Bool
 | [],off,tot=>Nat.beq off tot
 | x :: fs,off,tot=>Nat.beq x.offset off&&f x.type&&cK0 P f fs (off+P.cellsOf x.type) tot
def eP0 (P:Program):Nat→TypeId→Bool
 | 0,_=>false
 | n+1,t=>match P.underlying t with
  | some .bool=>true
  | some (.int _)=>true
  | some .string=>true
  | some (.struct fs)=>cK0 P (eP0 P n) fs.toList 0 (P.cellsOf t)
  | some (.array m e)=>Nat.beq (P.cellsOf t) (m*P.cellsOf e)&&eP0 P n e
  | _=>false
theorem pieces (cs:List Value) (c:Nat):∀ (n k:Nat),(List.range' k n).flatMap (fun i=>(cs.drop (i*c)).take c)=(cs.drop (k*c)).take (n*c)
 | 0,k=>by simp
 | n+1,k=>by
  rw[List.range'_succ,List.flatMap_cons,pieces cs c n (k+1)]
  have e1:(k+1)*c=k*c+c:=by rw[Nat.add_mul,Nat.one_mul]
  have e2:(n+1)*c=c+n*c:=by rw[Nat.add_mul,Nat.one_mul,Nat.add_comm]
  rw[e1,e2,List.take_add,List.drop_drop]
theorem mapM_flat {α:Type} {f:α→Option (DataW Unit×List MemPlace)} {g:α→List Value}:∀ {l:List α} {xs:List (DataW Unit×List MemPlace)},l.mapM f=some xs→
  (∀ a∈l,∀ x,f a=some x→g a=sN0 x.1)→oJ0 (xs.map (·.1))=l.flatMap g
 | [],xs,h,_=>by simp at h;subst h;rfl
 | a :: l,xs,h,hf=>by
  rw[List.mapM_cons] at h
  cases hx:f a with
  | none=>simp[hx] at h
  | some x=>
   cases hl:l.mapM f with
   | none=>simp[hx,hl] at h
   | some ys=>
    simp[hx,hl] at h
    subst h
    simp only[List.map_cons,oJ0,List.flatMap_cons]
    rw[mapM_flat hl (fun b hb=>hf b (by simp[hb])),hf a (by simp) x hx]
theorem gO0 {P:Program} {f:TypeId→Bool} {cs:List Value}:∀ {fs:List Field} {off tot:Nat},cK0 P f fs off tot=true→tot=cs.length→
  (∀ x∈fs,f x.type=true)∧fs.flatMap (fun x=>(cs.drop x.offset).take (P.cellsOf x.type))=cs.drop off
 | [],off,tot,h,ht=>by
  have:=Nat.eq_of_beq_eq_true h
  subst this;subst ht
  simp
 | x :: fs,off,tot,h,ht=>by
  simp only[cK0,Bool.and_eq_true] at h
  obtain ⟨⟨h1,h2⟩,h3⟩:=h
  have h1:=Nat.eq_of_beq_eq_true h1
  obtain ⟨h4,h5⟩:=gO0 h3 ht
  refine ⟨fun y hy=>(List.mem_cons.1 hy).elim (fun e=>by rw[e];exact h2) (h4 y),?_⟩
  rw[List.flatMap_cons,h5,h1]
  rw[← List.drop_drop,List.take_append_drop]
theorem kQ0 {P:Program} {w:World} {enc:TypeId×Value→Unit} {sp:Nat→Bool}:∀ (n fuel:Nat) (t:TypeId) (cs:List Value) (d:DataW Unit) (ps:List MemPlace),
  DataW.trod enc P w 0 sp false fuel t cs=some (d,ps)→eP0 P n t=true→cs=sN0 d
 | 0,_,_,_,_,_,_,h=>by cases h
 | n+1,0,t,cs,d,ps,h,_=>by simp[DataW.trod] at h
 | n+1,fuel+1,t,cs,d,ps,h,ht=>by
  have ih:=kQ0 (P:=P) (w:=w) (enc:=enc) (sp:=sp) n fuel
  unfold eP0 at ht
  unfold DataW.trod at h
  split at ht
  ·rename_i hu
   rw[hu] at h
   cases cs with
   | nil=>simp at h
   | cons v l=>cases l with
    | nil=>cases v<;>simp at h;obtain ⟨rfl,_⟩:=h;rfl
    | cons _ _=>simp at h
  ·rename_i k hu
   rw[hu] at h
   cases cs with
   | nil=>simp at h
   | cons v l=>cases l with
    | nil=>cases v<;>simp at h;obtain ⟨⟨rfl,_⟩,rfl,_⟩:=h;rfl
    | cons _ _=>simp at h
  ·rename_i hu
   rw[hu] at h
   cases cs with
   | nil=>simp at h
   | cons v l=>cases l with
    | nil=>cases v<;>simp at h;obtain ⟨_,rfl,_⟩:=h;rfl
    | cons _ _=>simp at h
  ·rename_i fs hu
   rw[hu] at h
   dsimp only at h
   split at h
   ·rename_i hlen
    cases hm:(fs.toList.mapM fun f=>DataW.trod enc P w 0 sp false fuel f.type ((cs.drop f.offset).take (P.cellsOf f.type))) with
    | none=>rw[hm] at h;cases h
    | some xs=>
     rw[hm] at h
     simp only[Option.map_some,Option.some.injEq,Prod.mk.injEq] at h
     obtain ⟨rfl,_⟩:=h
     obtain ⟨h4,h5⟩:=gO0 (cs:=cs) ht hlen.symm
     simp only[sN0]
     rw[mapM_flat (g:=fun x=>(cs.drop x.offset).take (P.cellsOf x.type)) hm (fun a ha x hx=>ih _ _ x.1 x.2 hx (h4 a ha)),h5]
     rfl
   ·cases h
  ·rename_i m e hu
   rw[hu] at h
   simp only[Bool.and_eq_true] at ht
   dsimp only at h
   split at h
   ·rename_i hlen
    cases hm:((List.range m).mapM fun i=>DataW.trod enc P w 0 sp false fuel e ((cs.drop (i*P.cellsOf e)).take (P.cellsOf e))) with
    | none=>rw[hm] at h;cases h
    | some xs=>
     rw[hm] at h
     simp only[Option.map_some,Option.some.injEq,Prod.mk.injEq] at h
     obtain ⟨rfl,_⟩:=h
     simp only[sN0]
     rw[mapM_flat (g:=fun i=>(cs.drop (i*P.cellsOf e)).take (P.cellsOf e)) hm (fun a ha x hx=>ih _ _ x.1 x.2 hx ht.2),List.range_eq_range',pieces]
     have h1:=Nat.eq_of_beq_eq_true ht.1
     rw[h1] at hlen
     rw[Nat.zero_mul,List.drop_zero,← hlen,List.take_length]
   ·cases h
  ·cases ht
end Go.Ev
namespace Go.Dv
open Go Go.RowKit Go.Ev
noncomputable section
def wP1:List (Nat×List Value)→Tr
 | []=>.nil
 | x :: l=>(wP1 l).put x.1 ⟨.cells ⟨x.2⟩ 0 (0,0),false⟩
def fO0 (n:Nat) (L:List (Nat×List Value)):jA:=⟨wP1 L,n,n⟩
structure LaidW (n:Nat) (L:List (Nat×List Value)) (w:World):Prop where
 size:n≤w.heap.size+1
 row:∀ x∈L,x.1<w.heap.size∧x.1<n∧∃ e fr,w.heap[x.1]?=some (.cells ⟨x.2⟩ e fr)
def okPl (L:List (Nat×List Value)):Bool:=L.all fun x=>jT x.2&&x.2.all one
theorem wW0:∀ {L:List (Nat×List Value)} {i:Nat} {x:qH},(wP1 L).get i=some x→∃ y∈L,y.1=i∧x=⟨.cells ⟨y.2⟩ 0 (0,0),false⟩
 | [],i,x,h=>by simp[wP1,Tr.get] at h
 | y :: L,i,x,h=>by
  simp only[wP1,Tr.get_put] at h
  split at h
  ·rename_i e;cases h;exact ⟨y,by simp,e.symm,rfl⟩
  ·obtain ⟨z,hz,h1,h2⟩:=wW0 h
   exact ⟨z,by simp[hz],h1,h2⟩
theorem nU0 {L:List (Nat×List Value)} (h:okPl L=true) {x:Nat×List Value} (hx:x∈L):jT x.2=true∧x.2.all one=true:=by
 have:=List.all_eq_true.1 h x hx
 simpa using this
def kU0 (G:Nat) (w:World):jA:=⟨iH0 G w w.heap.size,G+1,G⟩
theorem uQ0 (G:Nat) (w:World) (i:Nat):(kU0 G w).get i=(tB0 G w).get i:=rfl
theorem tA0 (P:Program) (NG G:Nat) (s:Nat→Int) (t:Nat→ByteArray) (w:World) (hNG:NG≤w.heap.size) (hG:w.heap.size≤G):jY ⟨P,NG,G,w.heap.size,s,t⟩ (idΓ s t) (kU0 G w) w:=by
 have h:=gK1 P NG G s t w hNG hG
 have key:∀ i x,(kU0 G w).get i=some x→i<w.heap.size:=fun i x hx=>by
  rw[uQ0,uA0] at hx
  unfold mP0 at hx
  split at hx
  ·rename_i c e fr hi
   exact (Array.getElem?_eq_some_iff.1 hi).1
  ·cases hx
 refine ⟨fun i x hx=>?_,fun i x hx ho hi=>?_,fun i j x y hx hy ho1 ho2 hi hj e=>?_,h.gl,h.low,h.lo,Nat.le_succ _,h.ng,h.size,h.gs,iS0.no fun i x hx=>by
  rw[uQ0,uA0] at hx
  unfold mP0 at hx
  split at hx
  ·cases hx;rfl
  ·cases hx⟩
 ·have hlt:=key i x hx
  have h2:=(h.obj i x hx).2
  have hlt':i<G:=Nat.lt_of_lt_of_le hlt hG
  refine ⟨Nat.lt_succ_of_lt hlt',?_⟩
  exact h2.ag (Ag.refl _ _) (Nat.le_succ _) (Nat.le_refl _) hlt' rfl
 ·exact h.base i x hx ho hi
 ·exact h.inj i j x y hx hy ho1 ho2 hi hj e
mutual
theorem mE0:∀ v:Value,Ev.flat v=true→pl v=true
 | .bool _,_=>rfl
 | .int _ _,_=>rfl
 | .float _ _,h=>by simp[Ev.flat] at h
 | .complex _ _ _,_=>rfl
 | .string _,_=>rfl
 | .pointer none,_=>rfl
 | .pointer (some _),h=>rfl
 | .slice none _ _,_=>rfl
 | .slice (some _) _ _,h=>by simp[Ev.flat] at h
 | .map none,_=>rfl
 | .map (some _),h=>rfl
 | .chan _,h=>rfl
 | .func (.func g) ⟨f⟩ ⟨c⟩,h=>by
  simp only[Ev.flat,Bool.and_eq_true] at h
  simp only[pl,uL0 f h.1,uL0 c h.2,Bool.and_self]
 | .func (.method _) _ _,h=>by simp[Ev.flat] at h
 | .func (.methodOf _ _) _ _,h=>by simp[Ev.flat] at h
 | .func (.via _ _ _ _) _ _,h=>by simp[Ev.flat] at h
 | .func (.yield _) _ _,h=>by simp[Ev.flat] at h
 | .nilFunc,_=>rfl
 | .iface t v,h=>by
  simp only[Ev.flat] at h
  simp only[pl,mE0 v h]
 | .nilIface,_=>rfl
 | .agg ⟨cs⟩,h=>by
  simp only[Ev.flat] at h
  simp only[pl,uL0 cs h]
 | .tuple ⟨cs⟩,h=>by
  simp only[Ev.flat] at h
  simp only[pl,uL0 cs h]
theorem uL0:∀ l:List Value,jT l=true→plL l=true
 | [],_=>rfl
 | v :: l,h=>by
  simp only[jT,Bool.and_eq_true] at h
  simp only[plL,mE0 v h.1,uL0 l h.2,Bool.and_self]
end
theorem eS1 {G:Nat} {w:World} {i:Nat} {cs:List Value} {e:TypeId} {fr:Nat×Nat} (hw:w.heap[i]?=some (.cells ⟨cs⟩ e fr)) (hf:jT cs=true) (ho:cs.all one=true):cells (kU0 G w) i=some (cs,e,false):=by
 have h1:=mQ0 (G:=G) hw
 have h2:cells (kU0 G w) i=cells (tB0 G w) i:=qT (uQ0 G w i)
 rw[h2,h1]
 congr 2
 have key:∀ l:List Value,jT l=true→l.all one=true→l.map (fix G)=l:=by
  intro l
  induction l with
  | nil=>intro _ _;rfl
  | cons v l ih=>
   intro h3 h4
   simp only[jT,Bool.and_eq_true] at h3
   simp only[List.all_cons,Bool.and_eq_true] at h4
   rw[List.map_cons,ih h3.2 h4.2,kR2 h4.1 (mE0 v h3.1) (wR _ v h3.1)]
 exact key cs hf ho
theorem eR1 {P:Program} {n G:Nat} {L:List (Nat×List Value)} {w:World} (hn:0<n) (hL:okPl L=true) (hw:LaidW n L w) (hG:w.heap.size≤G):Rel ⟨P,fO0 n L,fun i=>i,fun b=>b<G⟩ (fO0 n L) (kU0 G w):=by
 have no:∀ i,¬ uH (fO0 n L) i:=fun i hi=>by have h1:n≤i:=hi.1;have h2:i<n:=hi.2.1;omega
 refine ⟨hn,⟨rfl,rfl⟩,Nat.le_refl _,Nat.le_succ _,fun i hi=>rfl,fun i x hi hx=>?_,fun i hi=>?_,fun i x hi hx=>?_,fun i hi=>?_,fun i hi=>absurd hi (no i),fun i j hi=>absurd hi (no i),fun b hb=>⟨Nat.lt_succ_of_lt hb,fun i hi=>absurd hi (no i)⟩,fun b hb=>?_⟩
 ·obtain ⟨y,hy,rfl,rfl⟩:=wW0 hx
  exact ⟨y.2,0,_,rfl,(nU0 hL hy).1⟩
 ·refine ⟨rfl,?_⟩
  cases hx:(fO0 n L).get i with
  | none=>exact .inr rfl
  | some x=>
   obtain ⟨y,hy,rfl,rfl⟩:=wW0 hx
   exact .inl (Nat.lt_of_lt_of_le (hw.row y hy).1 hG)
 ·obtain ⟨y,hy,rfl,rfl⟩:=wW0 hx
  obtain ⟨h1,h2⟩:=nU0 hL hy
  obtain ⟨h3,_,e,fr,h4⟩:=hw.row y hy
  refine ⟨y.2,e,eS1 h4 h1 h2,fun h=>?_,RVL.of_flat _ h1,h2⟩
  have h5:n≤y.1:=h
  have h6:y.1<n:=hi
  omega
 ·have h1:i<n:=hi
  show i<G+1
  have:=hw.size
  omega
 ·have h1:G+1≤b:=hb
  rw[uQ0,uA0,Array.getElem?_eq_none (by omega)]
  rfl
theorem calls_of_callF {P:Program} {NG n G:Nat} {L:List (Nat×List Value)} {s:Nat→Int} {t:Nat→ByteArray} {w:World} (hn:0<n) (hL:okPl L=true) (hw:LaidW n L w) (hNG:NG≤w.heap.size) (hG:w.heap.size≤G) {f:FuncId} {args vs:List Value} {v:Value}
  (hc:jI ⟨P,NG,G,w.heap.size,s,t⟩ (fO0 n L) f args v) (hargs:RVL ⟨P,fO0 n L,fun i=>i,fun b=>b<G⟩ (kU0 G w) n args vs) (hpl:plL vs=true) (hsc:scL G vs=true) (hv:flat v=true) :
  Calls P f ⟨vs⟩ w fun e w'=>e=.returned v∧Below w.heap.size w w':=by
 have hrel:=tA0 P NG G s t w hNG hG
 have hc:=hc _ _ vs ⟨rfl,rfl⟩ (eR1 hn hL hw hG) hargs
 obtain ⟨_,h2⟩:=hc _ w hrel (fun x hx=>qX (Nat.le_succ _) x (qP hsc x hx))
 have he:(⟨vs.map (con (idΓ s t))⟩:Array Value)=⟨vs⟩:=by
  rw[← bB,kE0 s t vs hpl]
 have h3:=h2 Fence.wide ⟨rfl⟩ 0 (fun e w'=>e=.returned v∧Below w.heap.size w w') (fun u h' Γ' w' hu _ _ hb _ _=>by
  obtain ⟨g',_,_,hrv⟩:=hu
  have:=RV.flat v u hv hrv
  subst this
  exact ⟨by rw[qZ Γ' u hv],hb⟩)
 rw[he] at h3
 exact callsIn_wide.1 h3
theorem qS0 {P:Program} {w:World}:∀ {l:List (String×DataW Unit)} {ps:List MemPlace},DataW.LaidVars P w l ps→∀ x∈l,
  ∃ g t cs fuel p,P.globalNamed x.1=some g∧(P.globals[g]?).map (·.type)=some t∧w.var? P x.1=some cs∧DataW.trod (fun _=>()) P w 0 (fun _=>true) false fuel t cs.toList=some (x.2,p)
 | [],ps,h,x,hx=>by cases hx
 | (n,d) :: l,ps,h,x,hx=>by
  obtain ⟨g,t,cs,fuel,p,q,h1,h2,h3,h4,h5,_⟩:=h
  rcases List.mem_cons.1 hx with rfl|hx
  ·exact ⟨g,t,cs,fuel,p,h1,h2,h3,h4⟩
  ·exact qS0 h5 x hx
theorem wX0 {P:Program} {w:World} {l:List (String×DataW Unit)} (h:laidMetH P l w):∃ l' ps,DataW.LaidVars P w l' ps∧∀ x∈l,x.2.handleName?=none→x∈l':=by
 unfold laidMetH at h
 split at h
 ·obtain ⟨ps,h1,_⟩:=h;exact ⟨l,ps,h1,fun x hx _=>hx⟩
 ·obtain ⟨⟨ps,h1,_⟩,_⟩:=h
  exact ⟨_,ps,h1,fun x hx hn=>List.mem_filter.2 ⟨hx,by rw[hn];rfl⟩⟩
structure VarAt (P:Program) (l:List (String×DataW Unit)) (name:String) (g:Nat) (d:DataW Unit):Prop where
 mem:(name,d)∈l
 hand:d.handleName?=none
 at_:P.globalNamed name=some g
theorem VarAt.size {P:Program} {w:World} {l:List (String×DataW Unit)} {name:String} {g:Nat} {d:DataW Unit} (v:VarAt P l name g d) (h:laidMetH P l w):g<w.heap.size:=by
 obtain ⟨l',ps,h1,h2⟩:=wX0 h
 obtain ⟨g',t,cs,fuel,p,h3,h4,h5,h6⟩:=qS0 h1 _ (h2 _ v.mem v.hand)
 obtain rfl:=Option.some.inj (v.at_.symm.trans h3)
 unfold World.var? at h5
 rw[h3] at h5
 simp only[Option.bind_some] at h5
 split at h5
 ·rename_i hh;exact (Array.getElem?_eq_some_iff.1 hh).1
 ·cases h5
theorem VarAt.row {P:Program} {w:World} {l:List (String×DataW Unit)} {name:String} {g:Nat} {d:DataW Unit} (v:VarAt P l name g d) (h:laidMetH P l w)
  {n:Nat} (ht:(match (P.globals[g]?).map (·.type) with|some t=>eP0 P n t|none=>false)=true) {cs:List Value} (hd:sN0 d=cs) :
  ∃ e fr,w.heap[g]?=some (.cells ⟨cs⟩ e fr):=by
 obtain ⟨l',ps,h1,h2⟩:=wX0 h
 obtain ⟨g',t,cs',fuel,p,h3,h4,h5,h6⟩:=qS0 h1 _ (h2 _ v.mem v.hand)
 obtain rfl:=Option.some.inj (v.at_.symm.trans h3)
 rw[h4] at ht
 have:=kQ0 n fuel t _ _ _ h6 ht
 rw[hd] at this
 unfold World.var? at h5
 rw[h3] at h5
 simp only[Option.bind_some] at h5
 split at h5
 ·rename_i c e fr hh
  cases h5
  refine ⟨e,fr,?_⟩
  rw[hh,← this]
 ·cases h5
end
end Go.Dv
namespace Go.Dv
open Go Go.RowKit Go.Ev
noncomputable section
abbrev gG (P:Program) (n:Nat) (L:List (Nat×List Value)) (G:Nat):Gh:=⟨P,fO0 n L,fun i=>i,fun b=>b<G⟩
def Op (P:Program) (n:Nat) (L:List (Nat×List Value)) (w:World) (ds cs:List Value):Prop:=
 ∃ G0,∀ G,G0≤G→w.heap.size≤G→RVL (gG P n L G) (kU0 G w) n ds cs∧plL cs=true∧scL G cs=true∧cs.all one=true
section
variable {P:Program} {n:Nat} {L:List (Nat×List Value)} {w:World}
theorem bR0:∀ {a b:List Value},plL a=true→plL b=true→plL (a++b)=true
 | [],b,_,h=>h
 | v :: a,b,h1,h2=>by
  simp only[plL,List.cons_append,Bool.and_eq_true] at h1 ⊢
  exact ⟨h1.1,bR0 h1.2 h2⟩
theorem zS0 {m:Nat} {a b:List Value} (h1:scL m a=true) (h2:scL m b=true):scL m (a++b)=true:=
 qK fun v hv=>(List.mem_append.1 hv).elim (qP h1 v) (qP h2 v)
theorem Op.append {a b c d:List Value} (h1:Op P n L w a c) (h2:Op P n L w b d):Op P n L w (a++b) (c++d):=by
 obtain ⟨g1,h1⟩:=h1
 obtain ⟨g2,h2⟩:=h2
 refine ⟨max g1 g2,fun G hG hw=>?_⟩
 obtain ⟨a1,a2,a3,a4⟩:=h1 G (by omega) hw
 obtain ⟨b1,b2,b3,b4⟩:=h2 G (by omega) hw
 exact ⟨a1.app b1,bR0 a2 b2,zS0 a3 b3,by rw[List.all_append,a4,b4];rfl⟩
theorem Op.flat {cs:List Value} (h1:jT cs=true) (h2:cs.all one=true):Op P n L w cs cs:=
 ⟨0,fun G _ _=>⟨RVL.of_flat _ h1,uL0 _ h1,uM0 _ _ h1,h2⟩⟩
end
section
variable {P:Program} {n:Nat} {L:List (Nat×List Value)} {w:World} {H:Type} {enc:TypeId×Value→H}
end
end
end Go.Dv
