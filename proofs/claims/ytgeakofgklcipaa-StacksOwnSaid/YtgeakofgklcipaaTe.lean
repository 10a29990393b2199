/-
  A part of the proof: what the program's functions hand back,as theorems. No condition but those that each theorem names.
-/
import Derived.Test.YtgeakofgklcipaaTa
import Derived.Test.YtgeakofgklcipaaEve
import Derived.Test.YtgeakofgklcipaaTd
import Derived.Test.YtgeakofgklcipaaTb
set_option linter.unusedSimpArgs false
set_option linter.unusedVariables false
namespace Go.Proofs.Ytgeakofgklcipaa
open _root_.Go.Proofs.Try (prog)
open Go Go.RowKit Go.Ev Go.Dv
noncomputable section
set_option maxRecDepth 100000
variable (G:Nat×Nat)
def mV1 (σ:jA) (b m:Nat):Prop:=∃ cs,cells σ b=some (cs,etm,false)∧cs.length=m*9∧cs.all one=true∧m<100000000000
def RowV (σ:jA) (v:Value):Prop:=v=.slice none 0 0∨∃ b m,v=.slice (some ⟨b,0,none⟩) m m∧1≤b∧b<σ.next∧mV1 σ b m
def bA (σ:jA) (v:Value) (n:Nat):Prop:=(v=.slice none 0 0∧n=0)∨∃ b vs,v=.slice (some ⟨b,0,none⟩) n n∧vs.length=n∧1≤b∧b<σ.next∧cells σ b=some (vs,eR,false)∧∀ x∈vs,RowV σ x
theorem RowV.grew {σ σ':jA} {S:Nat→Prop} {v:Value} (h:RowV σ v) (g:jC σ σ' S) (hS:∀ b m,mV1 σ b m→¬ S b):RowV σ' v:=by
 rcases h with rfl|⟨b,m,rfl,h1,h2,h3⟩
 ·exact .inl rfl
 ·obtain ⟨cs,h4,h5⟩:=id h3
  exact .inr ⟨b,m,rfl,h1,Nat.lt_of_lt_of_le h2 g.next,cs,(g.cells h2 (hS b m h3)).trans h4,h5⟩
theorem bA.grew {σ σ':jA} {v:Value} {n:Nat} (h:bA σ v n) (g:jC σ σ' (fun _=>False)):bA σ' v n:=by
 rcases h with h|⟨b,vs,rfl,h0,h1,h2,h3,h4⟩
 ·exact .inl h
 ·exact .inr ⟨b,vs,rfl,h0,h1,Nat.lt_of_lt_of_le h2 g.next,(g.cells h2 id).trans h3,fun x hx=>(h4 x hx).grew g fun _ _ _=>id⟩
inductive JL (σ:jA) (l:List Tm) (fv:Value):Nat→S→Prop
 | mk (i:Nat) (iv:Int) (h:jA) {x0 x2 x3 x4 x6 x7 x8 x9 xA xB xC xD xH xI xJ xK xL xM xN xO xP xQ xR xS:Value} (hiv:iv=(i:Int)) (hi:i≤l.length) (c1:cells h σ.next=some (jY (l.take i)++(List.replicate (l.length-i) ztm).flatten,34,false)) (hl1:h.lo=1) (hl2:σ.next<h.next) (hg:jC σ h (fun _=>False)) :
  JL σ l fv (l.length-i) ⟨(F29 x0 fv x2 x3 x4 (.slice (some ⟨σ.next,0,none⟩) l.length l.length) x6 x7 x8 x9 xA xB xC xD (Rw false etm l.length (jY l)) (.int .i64 l.length) (.int .i64 iv) xH xI xJ xK xL xM xN xO xP xQ xR xS),[],h⟩
theorem kZ0 (σ:jA) (l:List Tm) (f:FuncId) (hll:l.length<100000000000) (hl:σ.lo=1) (hln:1≤σ.next) (hf:∀ x∈l,jG (pp G) H0 f [tmV x] (tmV x)) :
  jD (pp G) H0 73 [qA l,.func (.func f) #[] #[]] σ (fun v σ'=>RowV σ' v∧jC σ σ' (fun _=>False)):=by
 refine jD.fir4 (q:=qq) (jJ G) jX2 (by kernel_rfl) rfl rfl (kF0 ..) (by first|exact Nat.le_trans (show NGG≤1 by decide) (by omega)) ?_;rw[lS0]
 unfold qA
 by_cases h0:l.length=0
 ·have h0':(l.length:Int)=0:=by omega
  obtain rfl:l=[]:=List.length_eq_zero_iff.1 h0
  simp(disch:=first|omega|(apply id;simp only[push_cast];try omega))only[push_cast,simprocAttr,h0']
  exact ⟨.inl rfl,jC.refl _ _⟩
 have h0':¬ (l.length:Int)=0:=by omega
 have h1:(l.length:Int)*400+l.length<100000000000000:=by omega
 simp(disch:=first|omega|(apply id;simp only[push_cast];try omega))only[push_cast,simprocAttr,h0',h1]
 refine WD.loop4 (q:=qq) (jJ G) (by kernel_rfl) (JL σ l (.func (.func f) #[] #[])) ?_ _ _ (JL.mk 0 0 _ rfl (Nat.zero_le _) (by simp(disch:=first|omega|(apply id;simp only[push_cast];try omega))only[push_cast,simprocAttr,List.take_zero];rfl) (by first|assumption|(simp(disch:=first|omega|(apply id;simp only[push_cast];try omega))only[push_cast,simprocAttr,hl];try omega)) (by first|assumption|(simp(disch:=first|omega|(apply id;simp only[push_cast];try omega))only[push_cast,simprocAttr];try omega)) (by (repeat (first|exact Gr.refl _|assumption|(refine jC.put' ?_ _ _ (by first|omega|(simp only[push_cast];omega)))|(refine jC.add' ?_ _)))))
 intro m s1 hI
 cases hI with|mk i iv h hiv hi c1 hl1 hl2 hg=>
 subst hiv
 rw[bW0]
 by_cases hil:(i:Int)<l.length
 ·obtain ⟨x,hx⟩:=jM (l:=l) (i:=i) (by omega)
  have hxm:=List.mem_of_getElem? hx
  have hp:=uW hx
  have hle:i*9+9≤l.length*9:=by omega
  simp(disch:=first|omega|(apply id;simp only[push_cast];try omega))only[push_cast,simprocAttr,hil,Int.toNat_natCast,hp,hle,hl1]
  refine jB.dataI (hf x hxm) (by and_intros<;>first|rfl|(simp(disch:=first|omega|(apply id;simp only[push_cast];try omega))only[push_cast])) ?_
  obtain ⟨k,hk⟩:∃ k,l.length-i=k+1:=⟨l.length-i-1,by omega⟩
  have hta:(jY (l.take i)).length=i*9:=by rw[qR,List.length_take,Nat.min_eq_left hi]
  have hlen:=jF0 (w:=9) (z:=ztm) (k:=l.length-i) (n:=l.length*9) hta rfl (by rw[Nat.sub_mul];omega)
  have hst:=gW (c:=tmC x) (w:=9) (z:=ztm) (k:=k) hta rfl
  rw[← hk,← yL0,← bD,← jL hx,show k=l.length-(i+1) by omega,yL0] at hst
  simp(disch:=first|omega|(apply id;simp only[push_cast];try omega))only[push_cast,simprocAttr,hil,Int.toNat_natCast,hle,hl1,c1,hlen,hst]
  exact ⟨_,by omega,JL.mk (i+1) _ _ (by first|rfl|omega) (by omega) (by first|assumption|(simp(disch:=first|omega|(apply id;simp only[push_cast];try omega))only[push_cast,simprocAttr];try omega)) (by first|assumption|(simp(disch:=first|omega|(apply id;simp only[push_cast];try omega))only[push_cast,simprocAttr,hl1];try omega)) (by first|assumption|(simp(disch:=first|omega|(apply id;simp only[push_cast];try omega))only[push_cast,simprocAttr];try omega)) (by (repeat (first|exact Gr.refl _|assumption|(refine jC.put' ?_ _ _ (by first|omega|(simp only[push_cast];omega)))|(refine jC.add' ?_ _))))⟩
 ·have hie:i=l.length:=by omega
  subst hie
  rw[List.take_length,Nat.sub_self,List.replicate_zero,List.flatten_nil,List.append_nil] at c1
  simp(disch:=first|omega|(apply id;simp only[push_cast];try omega))only[push_cast,simprocAttr,hil]
  rw[bV0]
  simp(disch:=first|omega|(apply id;simp only[push_cast];try omega))only[push_cast,simprocAttr]
  exact ⟨.inr ⟨σ.next,l.length,rfl,hln,hl2,jY l,c1,qR l,kY l,hll⟩,hg⟩
theorem tH1 (σ:jA) (l:List Tm) (hs:qE0 l) (hl:σ.lo=1) (hln:1≤σ.next) :
  jD (pp G) H0 56 [qA l] σ (fun v σ'=>RowV σ' v∧jC σ σ' (fun _=>False)):=by
 refine jD.fir4 (q:=qq) (jJ G) jY2 (by kernel_rfl) rfl rfl (lE0 ..) (by first|exact Nat.le_trans (show NGG≤1 by decide) (by omega)) ?_;rw[lT0]
 simp(disch:=first|omega|(apply id;simp only[push_cast];try omega))only[push_cast,simprocAttr]
 refine jB.func (cap:=[]) (kZ0 G σ l 54 hs.1 hl hln fun x hx=>yW0 G x (qN hs.2 x hx)) ?_
 rintro v σ' hv
 simp(disch:=first|omega|(apply id;simp only[push_cast];try omega))only[push_cast,simprocAttr]
 exact hv
theorem bA.mk {σ:jA} {b n:Nat} {vs:List Value} (h0:vs.length=n) (h1:1≤b) (h2:b<σ.next) (h3:cells σ b=some (vs,eR,false)) (h4:∀ x∈vs,RowV σ x):bA σ (.slice (some ⟨b,0,none⟩) n n) n:=.inr ⟨b,vs,rfl,h0,h1,h2,h3,h4⟩
theorem RowV.putR {σ:jA} {v:Value} {b:Nat} {cs cs':List Value} (h:RowV σ v) (hc:cells σ b=some (cs,eR,false)):RowV (σ.put b (O cs' eR false)) v:=by
 refine h.grew (S:=fun k=>k=b) (jC.put _ _ _ fun _=>rfl) fun k m ⟨ds,h1,_⟩ e=>?_
 subst e
 rw[hc] at h1
 cases h1
theorem nR0 {σ:jA} {v:Value} (h:RowV σ v):∃ a n c,v=.slice a n c:=by
 rcases h with rfl|⟨b,m,rfl,_⟩<;>exact ⟨_,_,_,rfl⟩
inductive JR (σ:jA) (s:List (List Tm)) (fv:Value):Nat→S→Prop
 | mk (i:Nat) (iv:Int) (h:jA) (vs:List Value) {x0 x2 x3 x4 x6 x7 x8 x9 xA xB xC xD xH xI xJ xK xL xM xN xO xP xQ xR xS:Value} (hiv:iv=(i:Int)) (hi:i≤s.length) (c1:cells h σ.next=some (vs++(List.replicate (s.length-i) [Value.slice none 0 0]).flatten,32,false)) (hvl:vs.length=i) (hv:∀ x∈vs,RowV h x) (hl1:h.lo=1) (hl2:σ.next<h.next) (hg:jC σ h (fun _=>False)) :
  JR σ s fv (s.length-i) ⟨(F29 x0 fv x2 x3 x4 (.slice (some ⟨σ.next,0,none⟩) s.length s.length) x6 x7 x8 x9 xA xB xC xD (trV s) (.int .i64 s.length) (.int .i64 iv) xH xI xJ xK xL xM xN xO xP xQ xR xS),[],h⟩
theorem tZ1 (σ:jA) (s:List (List Tm)) (hs:kM s) (hl:σ.lo=1) (hln:1≤σ.next):jD (pp G) H0 72 [trV s,.func (.func 56) #[] #[]] σ (fun v σ'=>bA σ' v s.length∧jC σ σ' (fun _=>False)):=by
 have hsl:=hs.1
 refine jD.fir4 (q:=qq) (jJ G) yL2 (by kernel_rfl) rfl rfl (kF0 ..) (by first|exact Nat.le_trans (show NGG≤1 by decide) (by omega)) ?_;rw[uZ1]
 unfold trV
 by_cases h0:s.length=0
 ·have h0':(s.length:Int)=0:=by omega
  simp(disch:=first|omega|(apply id;simp only[push_cast];try omega))only[push_cast,simprocAttr,h0']
  exact ⟨.inl ⟨rfl,h0⟩,jC.refl _ _⟩
 have h0':¬ (s.length:Int)=0:=by omega
 have h1:(s.length:Int)*400+s.length<100000000000000:=by omega
 simp(disch:=first|omega|(apply id;simp only[push_cast];try omega))only[push_cast,simprocAttr,h0',h1]
 refine WD.loop4 (q:=qq) (jJ G) (by kernel_rfl) (JR σ s (.func (.func 56) #[] #[])) ?_ _ _ (JR.mk 0 0 _ [] rfl (Nat.zero_le _) (by simp(disch:=first|omega|(apply id;simp only[push_cast];try omega))only[push_cast,simprocAttr];rfl) rfl (fun x hx=>by cases hx) (by first|assumption|(simp(disch:=first|omega|(apply id;simp only[push_cast];try omega))only[push_cast,simprocAttr,hl];try omega)) (by first|assumption|(simp(disch:=first|omega|(apply id;simp only[push_cast];try omega))only[push_cast,simprocAttr];try omega)) (by (repeat (first|exact Gr.refl _|assumption|(refine jC.put' ?_ _ _ (by first|omega|(simp only[push_cast];omega)))|(refine jC.add' ?_ _)))))
 intro m s1 hI
 cases hI with|mk i iv h vs hiv hi c1 hvl hv hl1 hl2 hg=>
 subst hiv
 rw[bY0]
 unfold trV
 by_cases hil:(i:Int)<s.length
 ·obtain ⟨x,hx⟩:=jM (l:=s) (i:=i) (by omega)
  have hxm:=List.mem_of_getElem? hx
  have hp:=uR0 hx
  have hle:i<s.length:=by omega
  simp(disch:=first|omega|(apply id;simp only[push_cast];try omega))only[push_cast,simprocAttr,hil,Int.toNat_natCast,hp,hle,hl1]
  refine jB.func (cap:=[]) (tH1 G h x (hs.2 x hxm) hl1 (by omega)) ?_
  rintro v h2 ⟨hv2,g2⟩
  obtain ⟨qa,qn,qc,rfl⟩:=nR0 hv2
  have d1:=g2.cellsE c1 hl2 id
  have hl2':h2.lo=1:=by rw[g2.lo,hl1]
  have hn2:=g2.next
  obtain ⟨k,hk⟩:∃ k,s.length-i=k+1:=⟨s.length-i-1,by omega⟩
  have hlen:=jF0 (w:=1) (z:=[Value.slice none 0 0]) (k:=s.length-i) (n:=s.length) (A:=vs) (off:=i) (by omega) rfl (by omega)
  have hst:=gW (c:=[.slice qa qn qc]) (w:=1) (z:=[Value.slice none 0 0]) (k:=k) (A:=vs) (off:=i) (by omega) rfl
  rw[← hk,show k=s.length-(i+1) by omega] at hst
  simp(disch:=first|omega|(apply id;simp only[push_cast];try omega))only[push_cast,simprocAttr,hil,Int.toNat_natCast,hle,hl2',d1,hlen,hst]
  have hput:∀ x,RowV h2 x→RowV (h2.put σ.next (O (vs++[.slice qa qn qc]++(List.replicate (s.length-(i+1)) [Value.slice none 0 0]).flatten) 32 false)) x:=fun x hx=>hx.putR d1
  refine ⟨_,by omega,JR.mk (i+1) _ _ (vs++[.slice qa qn qc]) (by first|rfl|omega) (by omega) (by first|assumption|(simp(disch:=first|omega|(apply id;simp only[push_cast];try omega))only[push_cast,simprocAttr];try omega)) (by simp[hvl]) (fun x hx=>?_) (by first|assumption|(simp(disch:=first|omega|(apply id;simp only[push_cast];try omega))only[push_cast,simprocAttr,hl2'];try omega)) (by show σ.next<h2.next;omega) ((hg.trans g2 fun _ _ h=>h).put' _ _ (Nat.le_refl _))⟩
  rcases List.mem_append.1 hx with hx|hx
  ·exact hput x ((hv x hx).grew g2 fun _ _ _=>id)
  ·simp only[List.mem_singleton] at hx
   subst hx
   exact hput _ hv2
 ·have hie:i=s.length:=by omega
  subst hie
  rw[Nat.sub_self,List.replicate_zero,List.flatten_nil,List.append_nil] at c1
  simp(disch:=first|omega|(apply id;simp only[push_cast];try omega))only[push_cast,simprocAttr,hil]
  rw[bX0]
  simp(disch:=first|omega|(apply id;simp only[push_cast];try omega))only[push_cast,simprocAttr]
  exact ⟨bA.mk hvl hln hl2 c1 hv,hg⟩
theorem nT1 (σ:jA) (s:List (List Tm)) (hs:kM s) (hl:σ.lo=1) (hln:1≤σ.next):jD (pp G) H0 51 [trV s] σ (fun v σ'=>bA σ' v s.length∧jC σ σ' (fun _=>False)):=by
 refine jD.fir4 (q:=qq) (jJ G) yN2 (by kernel_rfl) rfl rfl (lE0 ..) (by first|exact Nat.le_trans (show NGG≤1 by decide) (by omega)) ?_;rw[wH1]
 simp(disch:=first|omega|(apply id;simp only[push_cast];try omega))only[push_cast,simprocAttr]
 refine jB.func (cap:=[]) (tZ1 G σ s hs hl hln) ?_
 rintro v σ' hv
 simp(disch:=first|omega|(apply id;simp only[push_cast];try omega))only[push_cast,simprocAttr]
 exact hv
theorem fA1 (σ:jA) (f:FuncId):jD (pp G) H0 73 [.slice none 0 0,.func (.func f) #[] #[]] σ (fun v σ'=>RowV σ' v∧jC σ σ' (fun _=>False)):=by
 refine jD.wlog fun hl0 hH0 hp0 hlo=>?_
 rw[kW] at hl0
 refine jD.fir4 (q:=qq) (jJ G) jX2 (by kernel_rfl) rfl rfl (kF0 ..) (by first|exact Nat.le_trans (show NGG≤1 by decide) (by omega)) ?_;rw[lS0]
 simp(disch:=first|omega|(apply id;simp only[push_cast];try omega))only[push_cast,simprocAttr]
 exact ⟨.inl rfl,jC.refl _ _⟩
inductive K52 (σ:jA) (s:List (List Tm)) (a:Int) (lv:Value) (fv:Value):Nat→S→Prop
 | mk (i:Nat) (iv:Int) (h:jA) (vs:List Value) {x0 x4 x5 x6 x7 x8 xA xB xC xD xE xI xJ xK xL xM xN xO xP xQ xR xS xT xU xV xW xX:Value} (hiv:iv=(i:Int)) (hi:i≤s.length) (c1:cells h σ.next=some (vs++(List.replicate (s.length-i) [Value.slice none 0 0]).flatten,32,false)) (hvl:vs.length=i) (hv:∀ x∈vs,RowV h x) (hl1:h.lo=1) (hl2:σ.next<h.next) (hg:jC σ h (fun _=>False)) :
  K52 σ s a lv fv (s.length-i) ⟨(F34 x0 (.int .i64 a) lv fv x4 x5 x6 x7 x8 (.slice (some ⟨σ.next,0,none⟩) s.length s.length) xA xB xC xD xE (trV s) (.int .i64 s.length) (.int .i64 iv) xI xJ xK xL xM xN xO xP xQ xR xS xT xU xV xW xX),[],h⟩
theorem qN1 (σ:jA) (s:List (List Tm)) (a:Int) (lv:Value) (hs:kM s) (hlr:∀ h:jA,h.lo=1→1≤h.next→jD (pp G) H0 73 [lv,.func (.func 54) #[] #[]] h (fun v σ'=>RowV σ' v∧jC h σ' (fun _=>False))) (hl:σ.lo=1) (hln:1≤σ.next):jD (pp G) H0 52 [trV s,.int .i64 a,lv,.func (.func 54) #[] #[]] σ
  (fun v σ'=>(∃ b vs,v=.slice (some ⟨b,0,none⟩) s.length s.length∧vs.length=s.length∧1≤b∧b<σ'.next∧σ.next≤b∧cells σ' b=some (vs,eR,false)∧∀ x∈vs,RowV σ' x)∧jC σ σ' (fun _=>False)):=by
 have hsl:=hs.1
 refine jD.fir4 (q:=qq) (jJ G) yM2 (by kernel_rfl) rfl rfl (cN1 ..) (by first|exact Nat.le_trans (show NGG≤1 by decide) (by omega)) ?_;rw[wG1]
 unfold trV
 have h1:(s.length:Int)*24+s.length<100000000000000:=by omega
 simp(disch:=first|omega|(apply id;simp only[push_cast];try omega))only[push_cast,simprocAttr,h1]
 refine WD.loop4 (q:=qq) (jJ G) (by kernel_rfl) (K52 σ s a lv (.func (.func 54) #[] #[])) ?_ _ _ (K52.mk 0 0 _ [] rfl (Nat.zero_le _) (by simp(disch:=first|omega|(apply id;simp only[push_cast];try omega))only[push_cast,simprocAttr];rfl) rfl (fun x hx=>by cases hx) (by first|assumption|(simp(disch:=first|omega|(apply id;simp only[push_cast];try omega))only[push_cast,simprocAttr,hl];try omega)) (by first|assumption|(simp(disch:=first|omega|(apply id;simp only[push_cast];try omega))only[push_cast,simprocAttr];try omega)) (by (repeat (first|exact Gr.refl _|assumption|(refine jC.put' ?_ _ _ (by first|omega|(simp only[push_cast];omega)))|(refine jC.add' ?_ _)))))
 intro m s1 hI
 cases hI with|mk i iv h vs hiv hi c1 hvl hv hl1 hl2 hg=>
 subst hiv
 rw[cB0]
 unfold trV
 by_cases hil:(i:Int)<s.length
 ·obtain ⟨x,hx⟩:=jM (l:=s) (i:=i) (by omega)
  have hxm:=hs.2 x (List.mem_of_getElem? hx)
  have hp:=uR0 hx
  have hle:i<s.length:=by omega
  obtain ⟨k,hk⟩:∃ k,s.length-i=k+1:=⟨s.length-i-1,by omega⟩
  have key:∀ (y:List Tm) (hy:qE0 y),jD (pp G) H0 73 [qA y,.func (.func 54) #[] #[]] h (fun v σ'=>RowV σ' v∧jC h σ' (fun _=>False)):=fun y hy=>kZ0 G h y 54 hy.1 hl1 (by omega) fun z hz=>yW0 G z (qN hy.2 z hz)
  by_cases ha:(i:Int)=a
  ·subst ha
   simp(disch:=first|omega|(apply id;simp only[push_cast];try omega))only[push_cast,simprocAttr,hil,Int.toNat_natCast,hp,hle,hl1]
   rw[zO0]
   refine jB.func (cap:=[]) (hlr h hl1 (by omega)) ?_
   rintro v h2 ⟨hv2,g2⟩
   obtain ⟨qa,qn,qc,rfl⟩:=nR0 hv2
   have d1:=g2.cellsE c1 hl2 id
   have hl2':h2.lo=1:=by rw[g2.lo,hl1]
   have hn2:=g2.next
   have hlen:=jF0 (w:=1) (z:=[Value.slice none 0 0]) (k:=s.length-i) (n:=s.length) (A:=vs) (off:=i) (by omega) rfl (by omega)
   have hst:=gW (c:=[.slice qa qn qc]) (w:=1) (z:=[Value.slice none 0 0]) (k:=k) (A:=vs) (off:=i) (by omega) rfl
   rw[← hk,show k=s.length-(i+1) by omega] at hst
   have hput:∀ x,RowV h2 x→RowV (h2.put σ.next (O (vs++[.slice qa qn qc]++(List.replicate (s.length-(i+1)) [Value.slice none 0 0]).flatten) 32 false)) x:=fun x hx=>hx.putR d1
   simp(disch:=first|omega|(apply id;simp only[push_cast];try omega))only[push_cast,simprocAttr,hil,Int.toNat_natCast,hle,hl2',d1,hlen,hst]
   rw[uD0]
   simp(disch:=first|omega|(apply id;simp only[push_cast];try omega))only[push_cast,simprocAttr,hil]
   refine ⟨_,by omega,K52.mk (i+1) _ _ (vs++[.slice qa qn qc]) (by first|rfl|omega) (by omega) (by first|assumption|(simp(disch:=first|omega|(apply id;simp only[push_cast];try omega))only[push_cast,simprocAttr];try omega)) (by simp[hvl]) (fun x hx=>?_) (by first|assumption|(simp(disch:=first|omega|(apply id;simp only[push_cast];try omega))only[push_cast,simprocAttr,hl2'];try omega)) (by show σ.next<h2.next;omega) ((hg.trans g2 fun _ _ h=>h).put' _ _ (Nat.le_refl _))⟩
   rcases List.mem_append.1 hx with hx|hx
   ·exact hput x ((hv x hx).grew g2 fun _ _ _=>id)
   ·simp only[List.mem_singleton] at hx
    subst hx
    exact hput _ hv2
  ·simp(disch:=first|omega|(apply id;simp only[push_cast];try omega))only[push_cast,simprocAttr,hil,Int.toNat_natCast,hp,hle,hl1,ha]
   rw[zO0]
   refine jB.func (cap:=[]) (key x hxm) ?_
   rintro v h2 ⟨hv2,g2⟩
   obtain ⟨qa,qn,qc,rfl⟩:=nR0 hv2
   have d1:=g2.cellsE c1 hl2 id
   have hl2':h2.lo=1:=by rw[g2.lo,hl1]
   have hn2:=g2.next
   have hlen:=jF0 (w:=1) (z:=[Value.slice none 0 0]) (k:=s.length-i) (n:=s.length) (A:=vs) (off:=i) (by omega) rfl (by omega)
   have hst:=gW (c:=[.slice qa qn qc]) (w:=1) (z:=[Value.slice none 0 0]) (k:=k) (A:=vs) (off:=i) (by omega) rfl
   rw[← hk,show k=s.length-(i+1) by omega] at hst
   have hput:∀ x,RowV h2 x→RowV (h2.put σ.next (O (vs++[.slice qa qn qc]++(List.replicate (s.length-(i+1)) [Value.slice none 0 0]).flatten) 32 false)) x:=fun x hx=>hx.putR d1
   simp(disch:=first|omega|(apply id;simp only[push_cast];try omega))only[push_cast,simprocAttr,hil,Int.toNat_natCast,hle,hl2',d1,hlen,hst]
   rw[uD0]
   simp(disch:=first|omega|(apply id;simp only[push_cast];try omega))only[push_cast,simprocAttr,hil]
   refine ⟨_,by omega,K52.mk (i+1) _ _ (vs++[.slice qa qn qc]) (by first|rfl|omega) (by omega) (by first|assumption|(simp(disch:=first|omega|(apply id;simp only[push_cast];try omega))only[push_cast,simprocAttr];try omega)) (by simp[hvl]) (fun x hx=>?_) (by first|assumption|(simp(disch:=first|omega|(apply id;simp only[push_cast];try omega))only[push_cast,simprocAttr,hl2'];try omega)) (by show σ.next<h2.next;omega) ((hg.trans g2 fun _ _ h=>h).put' _ _ (Nat.le_refl _))⟩
   rcases List.mem_append.1 hx with hx|hx
   ·exact hput x ((hv x hx).grew g2 fun _ _ _=>id)
   ·simp only[List.mem_singleton] at hx
    subst hx
    exact hput _ hv2
 ·have hie:i=s.length:=by omega
  subst hie
  rw[Nat.sub_self,List.replicate_zero,List.flatten_nil,List.append_nil] at c1
  simp(disch:=first|omega|(apply id;simp only[push_cast];try omega))only[push_cast,simprocAttr,hil]
  rw[cA0]
  simp(disch:=first|omega|(apply id;simp only[push_cast];try omega))only[push_cast,simprocAttr]
  exact ⟨⟨_,vs,rfl,hvl,hln,hl2,Nat.le_refl _,c1,hv⟩,hg⟩
end
end Go.Proofs.Ytgeakofgklcipaa
namespace Go.Dv
open Go Go.RowKit Go.Ev
theorem WD.frz {p:Par} {H:jA} {ro:Option Nat} {ir:IR} {D:S} {R:jQ→S→Prop} (hw:WD p H ro ir D (@kR ⟨fun e s=>∃ D',Frz s D'∧@kR ⟨R⟩ e D'⟩)):WD p H ro ir D (@kR ⟨R⟩):=by
 intro g s h1 h2 h3 h4
 intro c hc
 refine WP.mono (hw g s h1 h2 h3 h4 c hc) fun e s' hA=>?_
 obtain ⟨g',D1,⟨D',hF,hR⟩,x,r⟩:=hA
 obtain ⟨g2,x2,r2⟩:=hF g' s' r
 exact ⟨g2,D',hR,x.trans x2,r2⟩
end Go.Dv
namespace Go.Proofs.Ytgeakofgklcipaa
open _root_.Go.Proofs.Try (prog)
open Go Go.RowKit Go.Ev Go.Dv
noncomputable section
set_option maxRecDepth 100000
variable (G:Nat×Nat)
def FrS (σ:jA) (n:Nat) (v:Value) (σ':jA):Prop:=bA σ' v n∧jC σ σ' (fun _=>False)
theorem pI0 (σ:jA) (s:List (List Tm)) (a:Int) (hs:kM s) (hl:σ.lo=1) (hln:1≤σ.next):jD (pp G) H0 28 [trV s,.int .i64 a] σ (FrS σ s.length):=by
 refine jD.fir4 (q:=qq) (jJ G) yO2 (by kernel_rfl) rfl rfl (cJ1 ..) (by first|exact Nat.le_trans (show NGG≤1 by decide) (by omega)) ?_;rw[wI1]
 simp(disch:=first|omega|(apply id;simp only[push_cast];try omega))only[push_cast,simprocAttr]
 refine jB.func (cap:=[]) (qN1 G σ s a (.slice none 0 0) hs (fun h _ _=>fA1 G h _) hl hln) ?_
 rintro v σ' ⟨⟨b,vs,rfl,h1,h2,h3,_,h4,h5⟩,g⟩
 simp(disch:=first|omega|(apply id;simp only[push_cast];try omega))only[push_cast,simprocAttr]
 exact ⟨bA.mk h1 h2 h3 h4 h5,g⟩
theorem rowZ6 (σ:jA):bsD (qq.m 32) (slT prog 32) 1 [(0,.agg #[.int .i64 0,.int .i64 0,.int .i64 0,.string (Tx []),.int .i64 0,.int .i64 0,.string (Tx []),.slice none 0 0,.slice none 0 0])] σ=some (Rw true etm 1 ztm,σ):=by kernel_rfl
theorem oU1 (N:Nat) (σ:jA):FzL (pp G).P N σ ztm (jY [zT]):=.cons (.id rfl) (.cons (.id rfl) (.cons (.id rfl) (.cons (.id rfl) (.cons (.id rfl) (.cons (.id rfl) (.cons (.id rfl) (.cons (wT0 G N σ) (.cons (zG1 G N σ) .nil))))))))
@[push_cast]theorem ztmR_sc (n:Nat) (hn:0<n):Ev.sc n (Rw true etm 1 ztm)=true:=by
 simp[Ev.sc,scL,Rw,ztm];omega
theorem zS2 (σ:jA) (s:List (List Tm)) (a:Int) (hs:kM s) (hgl:(s.getD a.toNat []).length+1<100000000000) (ha:0≤a∧a<s.length) (hl:σ.lo=1) (hln:1≤σ.next):jD (pp G) H0 23 [trV s,.int .i64 a,.agg ⟨ztm⟩] σ (FrS σ s.length):=by
 have hg:=jJ0 hs a.toNat
 have hsl:=hs.1
 refine jD.fir4 (q:=qq) (jJ G) yQ2 (by kernel_rfl) rfl rfl (cQ1 ..) (by first|exact Nat.le_trans (show NGG≤1 by decide) (by omega)) ?_;rw[wK1]
 unfold ztm
 simp(disch:=first|omega|(apply id;simp only[push_cast];try omega))only[push_cast,simprocAttr]
 refine jB.dataI (tO0 G s a hs.1) (by and_intros<;>first|rfl|(simp(disch:=first|omega|(apply id;simp only[push_cast];try omega))only[push_cast])) ?_
 have hp:=uB0 (s:=s) (i:=a.toNat) (by omega)
 have hd:decide (0≤a∧a<(s.length:Int))=true:=by simpa using ha
 have hc:(a.toNat:Int)=a:=by omega
 have hlt:a.toNat<s.length:=by omega
 have hsr:qE0 (s.getD a.toNat []++[zT]):=yM0 hg ⟨by simp,by rfl⟩ (by rw[List.length_cons,List.length_nil];omega)
 unfold trV
 simp(disch:=first|omega|(apply id;simp only[push_cast];try omega))only[push_cast,simprocAttr,hd,hp,hc,hlt,ha.1,ha.2,↓rowZ6]
 refine jB.data (eY0 G (s.getD a.toNat []) [zT] (by omega) (by simp)) (.cons (.id (zN0 _ H0q _)) (.cons (.row (oU1 G _ _)) .nil)) (by first|rfl|(simp(disch:=first|omega|(apply id;simp only[push_cast];try omega))only[push_cast])) (by first|rfl|(simp(disch:=first|omega|(apply id;simp only[push_cast];try omega))only[push_cast])) ?_
 simp(disch:=first|omega|(apply id;simp only[push_cast];try omega))only[push_cast,simprocAttr]
 refine jB.func (cap:=[]) (qN1 G _ s a (qA (s.getD a.toNat []++[zT])) hs (fun h hh1 hh2=>kZ0 G h _ _ hsr.1 hh1 hh2 fun z hz=>yW0 G z (qN hsr.2 z hz)) (by simp(disch:=first|omega|(apply id;simp only[push_cast];try omega))only[push_cast,simprocAttr];exact hl) (by simp(disch:=first|omega|(apply id;simp only[push_cast];try omega))only[push_cast,simprocAttr])) ?_
 rintro v σ' ⟨⟨b,vs,rfl,h1,h2,h3,_,h4,h5⟩,g⟩
 simp(disch:=first|omega|(apply id;simp only[push_cast];try omega))only[push_cast,simprocAttr]
 exact ⟨bA.mk h1 h2 h3 h4 h5,(jC.add _ _ _).trans g fun _ _ h=>h⟩
end
end Go.Proofs.Ytgeakofgklcipaa
namespace Go.Proofs.Ytgeakofgklcipaa
open _root_.Go.Proofs.Try (prog)
open Go Go.RowKit Go.Ev Go.Dv
noncomputable section
set_option maxRecDepth 100000
variable (G:Nat×Nat)
theorem tQ1 (σ:jA) (s:List (List Tm)) (a b:Int) (hs:kM s) (hll:(s.getD b.toNat []).length+(s.getD a.toNat []).length<100000000000) (ha:0≤a∧a<s.length) (hb:0≤b∧b<s.length) (hl:σ.lo=1) (hln:1≤σ.next) :
  jD (pp G) H0 30 [trV s,.int .i64 a,.int .i64 b] σ (FrS σ s.length):=by
 have hga:=jJ0 hs a.toNat
 have hgb:=jJ0 hs b.toNat
 have hsl:=hs.1
 refine jD.fir4 (q:=qq) (jJ G) fir30 (by kernel_rfl) rfl rfl (uP2 ..) (by first|exact Nat.le_trans (show NGG≤1 by decide) (by omega)) ?_;rw[sC1]
 simp(disch:=first|omega|(apply id;simp only[push_cast];try omega))only[push_cast,simprocAttr]
 refine jB.dataI (tO0 G s a hs.1) (by and_intros<;>first|rfl|(simp(disch:=first|omega|(apply id;simp only[push_cast];try omega))only[push_cast])) ?_
 have hd:decide (0≤a∧a<(s.length:Int))=true:=by simpa using ha
 have hd2:decide (0≤b∧b<(s.length:Int))=true:=by simpa using hb
 simp(disch:=first|omega|(apply id;simp only[push_cast];try omega))only[push_cast,simprocAttr,hd]
 refine jB.dataI (tO0 G s b hs.1) (by and_intros<;>first|rfl|(simp(disch:=first|omega|(apply id;simp only[push_cast];try omega))only[push_cast])) ?_
 by_cases hab:a=b
 ·subst hab
  simp(disch:=first|omega|(apply id;simp only[push_cast];try omega))only[push_cast,simprocAttr,hd2]
  refine jB.func (cap:=[]) (nT1 G σ s hs hl hln) ?_
  rintro v σ' hv
  simp(disch:=first|omega|(apply id;simp only[push_cast];try omega))only[push_cast,simprocAttr]
  exact hv
 have hp:=uB0 (s:=s) (i:=a.toNat) (by omega)
 have hp2:=uB0 (s:=s) (i:=b.toNat) (by omega)
 have hlt:a.toNat<s.length:=by omega
 have hlt2:b.toNat<s.length:=by omega
 have hsr:qE0 (s.getD b.toNat []++s.getD a.toNat []):=yM0 hgb hga hll
 unfold trV
 simp(disch:=first|omega|(apply id;simp only[push_cast];try omega))only[push_cast,simprocAttr,hd2,hab,hp,hp2,hlt,hlt2,ha.1,ha.2,hb.1,hb.2]
 refine jB.dataI (eY0 G (s.getD b.toNat []) (s.getD a.toNat []) hgb.1 hga.1) (by and_intros<;>first|rfl|(simp(disch:=first|omega|(apply id;simp only[push_cast];try omega))only[push_cast])) ?_
 simp(disch:=first|omega|(apply id;simp only[push_cast];try omega))only[push_cast,simprocAttr]
 refine jB.func (cap:=[]) (qN1 G σ s b (qA (s.getD b.toNat []++s.getD a.toNat [])) hs (fun h hh1 hh2=>kZ0 G h _ _ hsr.1 hh1 hh2 fun z hz=>yW0 G z (qN hsr.2 z hz)) hl hln) ?_
 rintro v σ' ⟨⟨c,vs,rfl,h1,h2,h3,h6,h4,h5⟩,g⟩
 have hl':σ'.lo=1:=by rw[g.lo,hl]
 have hset:vs.take a.toNat++.slice none 0 0 :: vs.drop (a.toNat+1)=vs.set a.toNat (.slice none 0 0):=by rw[List.set_eq_take_append_cons_drop,if_pos (by omega)]
 simp(disch:=first|omega|(apply id;simp only[push_cast];try omega))only[push_cast,simprocAttr,ha.1,ha.2,hlt,hl',h4,h1,hset]
 refine ⟨bA.mk (vs:=vs.set a.toNat (.slice none 0 0)) (by simp[h1]) h2 h3 (by simp(disch:=first|omega|(apply id;simp only[push_cast];try omega))only[push_cast,simprocAttr];rw[← hset];simp) (fun x hx=>?_),?_⟩
 ·rcases List.mem_or_eq_of_mem_set hx with hx|rfl
  ·exact (h5 x hx).putR h4
  ·exact .inl rfl
 ·exact g.put' _ _ (by omega)
theorem getF7 {x0 x1 x2 x3 x4 x5 x6 x8 x9 xA xB xC xD xE xF xG xH xI xJ xK xL xM xN xO xP xQ xR xS xT xU xV xW xX xY xZ yA yB yC yD yE yF yG yH yI yJ yK yL yM:Value} (u:Value):VT.get (F49 x0 x1 x2 x3 x4 x5 x6 u x8 x9 xA xB xC xD xE xF xG xH xI xJ xK xL xM xN xO xP xQ xR xS xT xU xV xW xX xY xZ yA yB yC yD yE yF yG yH yI yJ yK yL yM) 7=u:=by kernel_rfl
theorem setF7 {x0 x1 x2 x3 x4 x5 x6 x8 x9 xA xB xC xD xE xF xG xH xI xJ xK xL xM xN xO xP xQ xR xS xT xU xV xW xX xY xZ yA yB yC yD yE yF yG yH yI yJ yK yL yM:Value} (u v:Value):VT.set (F49 x0 x1 x2 x3 x4 x5 x6 u x8 x9 xA xB xC xD xE xF xG xH xI xJ xK xL xM xN xO xP xQ xR xS xT xU xV xW xX xY xZ yA yB yC yD yE yF yG yH yI yJ yK yL yM) 7 v=(F49 x0 x1 x2 x3 x4 x5 x6 v x8 x9 xA xB xC xD xE xF xG xH xI xJ xK xL xM xN xO xP xQ xR xS xT xU xV xW xX xY xZ yA yB yC yD yE yF yG yH yI yJ yK yL yM):=by kernel_rfl
inductive K25 (σ:jA) (s:List (List Tm)) (a:Int) (x:Tm) (l:List Tm):Nat→S→Prop
 | mk (i : Nat) (iv : Int) (h : jA) {x2 x3 x5 x6 x8 x9 xA xB xC xD xE xF xG xH xI xJ xK xL xM xN xO xP xQ xR xS xT xU xV xW xX yB yC yD yE yF yG yH yI yJ yK yL yM : Value} (hiv : iv = (i : Int)) (hi : i ≤ l.length)
   (c0:cells h σ.next=some ([.int .i64 0,.int .i64 0,.int .i64 0,.string (Tx []),.int .i64 0,.int .i64 0,.string (Tx []),.slice none 0 0,.slice none 0 0],34,false))
   (c1:h.get (σ.next+1)=some (O (kK x (l.take i).reverse) 34 false)) (hl1:h.lo=1) (hl2:σ.next+2≤h.next) (hg:jC σ h (fun _=>False)) :
  K25 σ s a x l (l.length-i) ⟨(F49 (trV s) (.int .i64 a) x2 x3 (.pointer (some ⟨σ.next,0,none⟩)) x5 x6 (.pointer (some ⟨σ.next+1,0,none⟩)) x8 x9 xA xB xC xD xE xF xG xH xI xJ xK xL xM xN xO xP xQ xR xS xT xU xV xW xX (qA l) (.int .i64 l.length) (.int .i64 iv) yB yC yD yE yF yG yH yI yJ yK yL yM),[],h⟩
theorem eG1 {σ:jA} {v:Value} {b:Nat} {cs cs':List Value} (h:RowV σ v) (hc:cells σ b=some (cs,etm,false)) (hl:cs'.length=cs.length) (ho:cs'.all one=true):RowV (σ.put b (O cs' etm false)) v:=by
 rcases h with rfl|⟨d,m,rfl,k1,k2,ds,k3,k4,k5⟩
 ·exact .inl rfl
 ·refine .inr ⟨d,m,rfl,k1,k2,?_⟩
  by_cases e:d=b
  ·subst e
   rw[hc] at k3
   cases k3
   exact ⟨cs',wB0 _ _ _ _,by rw[hl];exact k4,ho,k5.2⟩
  ·exact ⟨ds,((jC.put (S:=fun k=>k=b) _ _ _ fun _=>rfl).cells k2 e).trans k3,k4,k5⟩
theorem yS0 {σ:jA} {v:Value} {n b:Nat} {cs cs':List Value} (h:bA σ v n) (hc:cells σ b=some (cs,etm,false)) (hl:cs'.length=cs.length) (ho:cs'.all one=true):bA (σ.put b (O cs' etm false)) v n:=by
 rcases h with h|⟨c,vs,rfl,h0,h1,h2,h3,h4⟩
 ·exact .inl h
 ·have e1:c≠b:=fun e=>by subst e;rw[hc] at h3;cases h3
  exact .inr ⟨c,vs,rfl,h0,h1,h2,((jC.put (S:=fun k=>k=b) _ _ _ fun _=>rfl).cells h2 e1).trans h3,fun x hx=>eG1 (h4 x hx) hc hl ho⟩
def TtR (σ:jA) (n:Nat) (v:Value) (σ':jA):Prop:=∃ cs w,v=.tuple ⟨[.agg ⟨cs⟩,w]⟩∧cs.length=9∧cs.all one=true∧bA σ' w n∧jC σ σ' (fun _=>False)
theorem wS1 (σ:jA) (s:List (List Tm)) (a:Int) (hs:kM s) (ha:0≤a∧a<s.length) (hl:σ.lo=1) (hln:1≤σ.next) :
  jD (pp G) H0 25 [trV s,.int .i64 a] σ (TtR σ s.length):=by
 have hga:=jJ0 hs a.toNat
 have hsl:=hs.1
 have hp:=uB0 (s:=s) (i:=a.toNat) (by omega)
 have hc:(a.toNat:Int)=a:=by omega
 have hlt:a.toNat<s.length:=by omega
 generalize s.getD a.toNat []=row at hga hp
 have hd:decide (0≤a∧a<(s.length:Int))=true:=by simpa using ha
 have hrl:=hga.1
 refine jD.fir4 (q:=qq) (jJ G) yP2 (by kernel_rfl) rfl rfl (cL1 ..) (by first|exact Nat.le_trans (show NGG≤1 by decide) (by omega)) ?_;rw[wJ1]
 simp(disch:=first|omega|(apply id;simp only[push_cast];try omega))only[push_cast,simprocAttr]
 refine jB.dataI (tO0 G s a hs.1) (by and_intros<;>first|rfl|(simp(disch:=first|omega|(apply id;simp only[push_cast];try omega))only[push_cast])) ?_
 cases row with
 | nil=>
  unfold trV
  unfold qA at hp
  simp(disch:=first|omega|(apply id;simp only[push_cast];try omega))only[push_cast,simprocAttr,hd,hp,hlt,ha.1,ha.2,List.length_nil,show ((0:Nat):Int)=0 from rfl]
  have ho:=nT1 G (σ.add (O [.int .i64 0,.int .i64 0,.int .i64 0,.string (Tx []),.int .i64 0,.int .i64 0,.string (Tx []),.slice none 0 0,.slice none 0 0] 34 false)) s hs (by rw[qP];exact hl) (by simp(disch:=first|omega|(apply id;simp only[push_cast];try omega))only[push_cast,simprocAttr];try omega)
  unfold trV at ho
  refine jB.func (cap:=[]) (ho) ?_
  rintro v σ' ⟨hv,g⟩
  have c0:=g.cellsE (gZ _ _ _ _ rfl) (by simp(disch:=first|omega|(apply id;simp only[push_cast];try omega))only[push_cast,simprocAttr];omega) id
  have hl':σ'.lo=1:=by rw[g.lo,qP];exact hl
  have hn':=g.next
  simp only[push_cast] at hn'
  simp(disch:=first|omega|(apply id;simp only[push_cast];try omega))only[push_cast,simprocAttr,c0,hl']
  refine ⟨_,v,rfl,rfl,rfl,?_,((jC.add _ _ _).trans g fun _ _ h=>h).put' _ _ (Nat.le_refl _)⟩
  exact yS0 hv c0 rfl rfl
 | cons x l=>
  have hll:l.length+1<100000000000:=by simpa using hrl
  have hxs:smT x=true:=qN hga.2 x (by simp)
  have hls:smTs l=true:=by have:=hga.2;simp only[smTs,Bool.and_eq_true] at this;exact this.2
  have hne:¬ ((l.length:Int)+1)=0:=by omega
  have h9:9≤(l.length+1)*9:=by omega
  have hT:jG (pp G) H0 56 [Rw false etm (x :: l).length (jY (x :: l))] (Rw false etm (x :: l).length (jY (x :: l))):=mA0 G _ hga
  have hdr:(jY (x :: l)).drop 9=jY l:=by
   have:=wH0 (x :: l) 1
   simpa using this
  unfold trV
  unfold qA at hp
  simp(disch:=first|omega|(apply id;simp only[push_cast];try omega))only[push_cast,simprocAttr,hd,hp,hlt,ha.1,ha.2,List.length_cons,hne]
  rw[List.length_cons] at hT
  refine jB.dataI (hT) (by and_intros<;>first|rfl|(simp(disch:=first|omega|(apply id;simp only[push_cast];try omega))only[push_cast])) ?_
  have e2:(l.length:Int)+1-1=l.length:=by omega
  simp(disch:=first|omega|(apply id;simp only[push_cast];try omega))only[push_cast,simprocAttr,h9,List.length_cons,hdr,Nat.add_sub_cancel,e2]
  refine WD.frz ?_
  refine WD.loop4 (q:=qq) (jJ G) (by kernel_rfl) (K25 σ s a x l) ?_ _ _ (K25.mk 0 0 _ rfl (Nat.zero_le _) (by simp(disch:=first|omega|(apply id;simp only[push_cast];try omega))only[push_cast,simprocAttr]) ?_ (by first|assumption|(simp(disch:=first|omega|(apply id;simp only[push_cast];try omega))only[push_cast,simprocAttr,hl];try omega)) (by first|assumption|(simp(disch:=first|omega|(apply id;simp only[push_cast];try omega))only[push_cast,simprocAttr];try omega)) (by (repeat (first|exact Gr.refl _|assumption|(refine jC.put' ?_ _ _ (by first|omega|(simp only[push_cast];omega)))|(refine jC.add' ?_ _)))))
  ·intro m s1 hI
   cases hI with|mk i iv h hiv hi c0 gb hl1 hl2 hg=>
   subst hiv
   have c1:cells h (σ.next+1)=some (kK x (l.take i).reverse,34,false):=by unfold Ev.cells;rw[gb];rfl
   rw[cG0]
   unfold trV qA
   by_cases hil:(i:Int)<l.length
   ·obtain ⟨t,ht⟩:=jM (l:=l) (i:=i) (by omega)
    have hpt:=uW ht
    have hle2:i*9+9≤l.length*9:=by omega
    have hbl:=zI0 x (l.take i).reverse
    have hbt:(kK x (l.take i).reverse).take 9=kK x (l.take i).reverse:=List.take_of_length_le (by rw[hbl];omega)
    have hbd:(kK x (l.take i).reverse).drop 9=[]:=List.drop_of_length_le (by rw[hbl];omega)
    have hbo:=zH0 x (l.take i).reverse
    simp(disch:=first|omega|(apply id;simp only[push_cast];try omega))only[push_cast,simprocAttr,hil,Int.toNat_natCast,hpt,hle2,hl1,c1,hbl,hbt,hbd,hbo,↓row2]
    exact ⟨_,by omega,K25.mk (i+1) _ _ (by first|rfl|omega) (by omega) (by first|assumption|(simp(disch:=first|omega|(apply id;simp only[push_cast];try omega))only[push_cast,simprocAttr,c0];try omega)) (by rw[oE0 l ht,kK];simp(disch:=first|omega|(apply id;simp only[push_cast];try omega))only[push_cast,simprocAttr];first|done|rfl|exact jD0 _ _) (by first|assumption|(simp(disch:=first|omega|(apply id;simp only[push_cast];try omega))only[push_cast,simprocAttr,hl1];try omega)) (by first|assumption|(simp(disch:=first|omega|(apply id;simp only[push_cast];try omega))only[push_cast,simprocAttr];try omega)) (by (repeat (first|exact Gr.refl _|assumption|(refine jC.put' ?_ _ _ (by first|omega|(simp only[push_cast];omega)))|(refine jC.add' ?_ _))))⟩
   ·have hie:i=l.length:=by omega
    subst hie
    rw[List.take_length] at c1 gb
    have hbl:=zI0 x l.reverse
    have hbt:(kK x l.reverse).take 9=kK x l.reverse:=List.take_of_length_le (by rw[hbl];omega)
    have hbd:(kK x l.reverse).drop 9=[]:=List.drop_of_length_le (by rw[hbl];omega)
    have hbo:=zH0 x l.reverse
    simp(disch:=first|omega|(apply id;simp only[push_cast];try omega))only[push_cast,simprocAttr,hil]
    show ∃ D',Frz _ D'∧_
    refine ⟨_,jQ2 (D:=⟨_,_,h⟩) (i:=σ.next+1) (k:=7) (by show h.lo≤_;omega) (by show _<h.next;omega) gb (by rw[hbl];decide) (by show 7<49;decide) (getF7 _),?_⟩
    rw[setF7]
    have gF:=fK1 h (σ.next+1)
    have c0:=gF.cellsE c0 (by omega) (by omega)
    have hl2':(hflt (fun j=>!Nat.beq j (σ.next+1)) h).lo=1:=by rw[gH1,hl1]
    have hn3:=iC0 (fun j=>!Nat.beq j (σ.next+1)) h
    have gg:jC σ (hflt (fun j=>!Nat.beq j (σ.next+1)) h) (fun _=>False):=hg.tr' gF (fun k hk e=>by omega)
    show (@kR ⟨_⟩) _ ⟨_,[],hflt (fun j=>!Nat.beq j (σ.next+1)) h⟩
    clear c1 gb
    generalize hflt (fun j=>!Nat.beq j (σ.next+1)) h=τ at *
    simp(disch:=first|omega|(apply id;simp only[push_cast];try omega))only[push_cast,simprocAttr]
    rw[cF0]
    simp(disch:=first|omega|(apply id;simp only[push_cast];try omega))only[push_cast,simprocAttr,hbl,hbt]
    have hA:=pI0 G τ s a hs hl2' (by omega)
    unfold trV at hA
    refine jB.func (cap:=[]) (hA) ?_
    rintro v σ' ⟨hv,g2⟩
    have c0:=g2.cellsE c0 (by omega) id
    have hl3:σ'.lo=1:=by rw[g2.lo,hl2']
    have hn4:=g2.next
    simp(disch:=first|omega|(apply id;simp only[push_cast];try omega))only[push_cast,simprocAttr,c0,hl3,hbl,hbt,hbo,hbd]
    refine ⟨_,v,rfl,hbl,hbo,?_,(gg.trans g2 fun _ _ h=>h).put' _ _ (Nat.le_refl _)⟩
    exact yS0 hv c0 hbl hbo
  ·rw[List.take_zero];exact jD0 _ _
abbrev eRR:Nat:=26
theorem yF0 {σ:jA} {v:Value} {n:Nat} (h:bA σ v n):∃ a c,v=.slice a n c:=by
 rcases h with ⟨rfl,rfl⟩|⟨b,vs,rfl,_⟩<;>exact ⟨_,_,rfl⟩
theorem rowA4 (a0 a1 a2 a3:Option Addr) (n c0 c1 c2 c3:Nat) (σ:jA):bsD (qq.m 50) (slT prog 50) 4 [(0,.slice a0 n c0),(1,.slice a1 n c1),(2,.slice a2 n c2),(3,.slice a3 n c3)] σ=some (Rw true eRR 4 [.slice a0 n c0,.slice a1 n c1,.slice a2 n c2,.slice a3 n c3],σ):=by kernel_rfl
def exT:List Value:=[.int .i64 8,.int .i64 9,.int .i64 0,.string (Tx []),.int .i64 0,.int .i64 0,.string (Tx []),.slice none 0 0,.slice none 0 0]
inductive K6a (s:List (List Tm)) (vl:List Value) (n:Nat):Nat→S→Prop
 | mk (i:Nat) (iv:Int) (h:jA) {x0 x1 x2 x3 x4 x5 x6 x7 x8 xB xC xD xE xH xI xJ xK xL xM xN xO xP xQ xR xS xT xU xV xW xX xY xZ yA yB yC yD yE yF yG yH yI yJ yK yL yM yN yO yP yQ yR yS yT yU yV yW yX yY yZ zA zB zC zD zE zF zG zH zI zJ zK zL zM zN zO zP zQ zR zS zU zV zW zX zY zZ wA wB wC wD wE wF wG wH wI wJ:Value} (hiv:iv=(i:Int)) (hi:i≤4) (ha:∀ v∈vl,bA h v n) (hl1:h.lo=1) (hl2:1≤h.next) :
  K6a s vl n (4-i) ⟨(F97 x0 x1 x2 x3 x4 x5 x6 x7 x8 (trV s) (trV s) xB xC xD xE (Rw true eRR 4 vl) (.int .i64 iv) xH xI xJ xK xL xM xN xO xP xQ xR xS xT xU xV xW xX xY xZ yA yB yC yD yE yF yG yH yI yJ yK yL yM yN yO yP yQ yR yS yT yU yV yW yX yY yZ zA zB zC zD zE zF zG zH zI zJ zK zL zM zN zO zP zQ zR zS zU zV zW zX zY zZ wA wB wC wD wE wF wG wH wI wJ),[],h⟩
inductive K6b (s:List (List Tm)) (vl:List Value) (n:Nat) (i:Nat):Nat→S→Prop
 | mk (k:Nat) (kv:Int) (h:jA) {x0 x1 x2 x3 x4 x5 x6 x7 x8 xB xC xD xE xI xJ xK xL xM xN xO xP xQ xR xS xT xU xV xW xX xY xZ yA yB yC yD yE yF yG yH yI yJ yK yL yM yN yO yP yQ yR yS yT yU yV yW yX yY yZ zA zB zC zD zE zF zG zH zI zJ zK zL zM zN zO zP zQ zR zS zU zV zW zX zY zZ wA wB wC wD wE wF wG wH wI wJ:Value} (hkv:kv=(k:Int)) (hk:k≤n) (ha:∀ v∈vl,bA h v n) (hl1:h.lo=1) (hl2:1≤h.next) :
  K6b s vl n i (n-k) ⟨(F97 x0 x1 x2 x3 x4 x5 x6 x7 x8 (trV s) (trV s) xB xC xD xE (Rw true eRR 4 vl) (.int .i64 i) (.int .i64 kv) xI xJ xK xL xM xN xO xP xQ xR xS xT xU xV xW xX xY xZ yA yB yC yD yE yF yG yH yI yJ yK yL yM yN yO yP yQ yR yS yT yU yV yW yX yY yZ zA zB zC zD zE zF zG zH zI zJ zK zL zM zN zO zP zQ zR zS zU zV zW zX zY zZ wA wB wC wD wE wF wG wH wI wJ),[],h⟩
inductive K6c (s:List (List Tm)) (vl:List Value) (n:Nat) (i k:Nat) (b:Nat) (vs:List Value) (qa:Option Addr) (m:Nat):Nat→S→Prop
 | mk (j:Nat) (jv:Int) (h:jA) {x0 x1 x2 x3 x4 x5 x6 x7 x8 xB xC xD xE xJ xK xL xM xN xO xP xQ xR xS xT xU xV xW xX xY xZ yA yB yC yD yE yF yG yH yI yJ yK yL yM yN yO yP yQ yR yS yT yU yV yW yX yY yZ zA zB zC zD zE zF zG zH zI zJ zK zL zM zN zO zP zQ zR zS zU zV zW zX zY zZ wA wB wC wD wE wF wG wH wI wJ:Value} (hjv:jv=(j:Int)) (hj:j≤m) (ha:∀ v∈vl,bA h v n) (cb:cells h b=some (vs,eR,false)) (hr:∀ b',qa=some ⟨b',0,none⟩→mV1 h b' m) (hl1:h.lo=1) (hl2:1≤h.next) :
  K6c s vl n i k b vs qa m (m-j) ⟨(F97 x0 x1 x2 x3 x4 x5 x6 x7 x8 (trV s) (trV s) xB xC xD xE (Rw true eRR 4 vl) (.int .i64 i) (.int .i64 k) (.int .i64 jv) xJ xK xL xM xN xO xP xQ xR xS xT xU xV xW xX xY xZ yA yB yC yD yE yF yG yH yI yJ yK yL yM yN yO yP yQ yR yS yT yU yV yW yX yY yZ zA zB zC zD zE zF zG zH zI zJ zK zL zM zN zO zP zQ zR zS zU zV zW zX zY zZ wA wB wC wD wE wF wG wH wI wJ),[],h⟩
theorem own_law (l:List Rb) (n a b:Int) (hll:l.length<1000000000000000) (hsl:smBs l=true):jG (pp G) H0 6 [rbsV l,.int .i64 n,.int .i64 a,.int .i64 b] (.bool true):=by
 refine qL.eq ?_
 have hlo:H0.lo≤H0.next:=Nat.le_refl _;refine qL.cut (jD.fir4 (q:=qq) (jJ G) fir6 (by kernel_rfl) rfl rfl (uF2 ..) (show NGG≤H0.lo by rw[jW];decide) ?_);rw[wX2]
 simp(disch:=first|omega|(apply id;simp only[push_cast];try omega))only[push_cast,simprocAttr]
 refine jB.dataI (fE1 G) (by and_intros<;>first|rfl|(simp(disch:=first|omega|(apply id;simp only[push_cast];try omega))only[push_cast])) ?_
 simp(disch:=first|omega|(apply id;simp only[push_cast];try omega))only[push_cast,simprocAttr]
 refine jB.dataI (yT2 G l hll hsl) (by and_intros<;>first|rfl|(simp(disch:=first|omega|(apply id;simp only[push_cast];try omega))only[push_cast])) ?_
 cases hf:fewB l with
 | false=>simp(disch:=first|omega|(apply id;simp only[push_cast];try omega))only[push_cast,simprocAttr,hf,Bool.not_false];exact ⟨_,rfl,.id rfl⟩
 | true=>
 simp(disch:=first|omega|(apply id;simp only[push_cast];try omega))only[push_cast,simprocAttr,hf,Bool.not_true]
 refine jB.dataEI (zK1 G l n (yS2 hf) hsl) (by and_intros<;>first|rfl|(simp(disch:=first|omega|(apply id;simp only[push_cast];try omega))only[push_cast])) ?_
 rintro _ ⟨s,rfl,hsn,h5,h6⟩
 refine ⟨by simp(disch:=first|omega|(apply id;simp only[push_cast];try omega))only[push_cast,simprocAttr];first|done|rfl,?_⟩
 refine jB.dataEI (zK1 G l n (yS2 hf) hsl) (by and_intros<;>first|rfl|(simp(disch:=first|omega|(apply id;simp only[push_cast];try omega))only[push_cast])) ?_
 rintro _ ⟨s',rfl,-,-,h6'⟩
 refine ⟨by simp(disch:=first|omega|(apply id;simp only[push_cast];try omega))only[push_cast,simprocAttr];first|done|rfl,?_⟩
 rw[← h6] at h6'
 subst h6'
 clear h6
 have hs3:=wP2 hsn
 have hsm:=eF1 (by omega) (by omega) h5
 have hsp:(0:Int)<s'.length:=by omega
 have ha:=qM (a:=a) hsp
 have hb:=qM (a:=b) hsp
 simp(disch:=first|omega|(apply id;simp only[push_cast];try omega))only[push_cast,simprocAttr]
 refine jB.dataI (wF0 G a s'.length hsp (by omega)) (by and_intros<;>first|rfl|(simp(disch:=first|omega|(apply id;simp only[push_cast];try omega))only[push_cast])) ?_
 simp(disch:=first|omega|(apply id;simp only[push_cast];try omega))only[push_cast,simprocAttr]
 refine jB.dataI (wF0 G b s'.length hsp (by omega)) (by and_intros<;>first|rfl|(simp(disch:=first|omega|(apply id;simp only[push_cast];try omega))only[push_cast])) ?_
 generalize jP a s'.length=a at ha
 generalize jP b s'.length=b at hb
 have ra:=fM0 h5 a.toNat
 have rb:=fM0 h5 b.toNat
 simp(disch:=first|omega|(apply id;simp only[push_cast];try omega))only[push_cast,simprocAttr]
 refine jB.func (cap:=[]) (wS1 G H0 s' a hsm ha jW (by rw[kW];exact Nat.le_refl _)) ?_
 rintro _ σ1 ⟨cs,w1,rfl,hcl,hco,hw1,g1⟩
 have hl1:σ1.lo=1:=by rw[g1.lo];exact jW
 have hn1:1≤σ1.next:=Nat.le_trans (by rw[kW];exact Nat.le_refl _) g1.next
 have hct:cs.take 9=cs:=List.take_of_length_le (by omega)
 have hcd:cs.drop 9=[]:=List.drop_of_length_le (by omega)
 have hcc:(Value.agg ⟨cs⟩).cells.toList=cs:=rfl
 simp(disch:=first|omega|(apply id;simp only[push_cast];try omega))only[push_cast,simprocAttr,hcl,hco,hl1,hct,hcd,hcc]
 obtain ⟨τ,hτ⟩:∃ τ,τ=(σ1.add (O ztm 34 false)).put σ1.next (O cs 34 false):=⟨_,rfl⟩
 have g0:jC σ1 τ (fun _=>False):=by rw[hτ];exact (jC.add _ _ _).put' _ _ (Nat.le_refl _)
 have hlt:τ.lo=1:=by rw[g0.lo,hl1]
 have hnt:1≤τ.next:=Nat.le_trans hn1 g0.next
 have hz:(ztm:List Value)=[.int .i64 0,.int .i64 0,.int .i64 0,.string (Tx []),.int .i64 0,.int .i64 0,.string (Tx []),.slice none 0 0,.slice none 0 0]:=rfl
 rw[← hz,← hτ]
 clear hτ hz
 refine jB.func (cap:=[]) (zS2 G τ s' a hsm (by omega) ha hlt hnt) ?_
 rintro vP σ2 ⟨hP,g2⟩
 have hl2:σ2.lo=1:=by rw[g2.lo,hlt]
 have hn2:=g2.next
 simp(disch:=first|omega|(apply id;simp only[push_cast];try omega))only[push_cast,simprocAttr]
 refine jB.func (cap:=[]) (pI0 G σ2 s' a hsm hl2 (by omega)) ?_
 rintro vA σ3 ⟨hA,g3⟩
 have hl3:σ3.lo=1:=by rw[g3.lo,hl2]
 have hn3:=g3.next
 simp(disch:=first|omega|(apply id;simp only[push_cast];try omega))only[push_cast,simprocAttr]
 refine jB.func (cap:=[]) (tQ1 G σ3 s' a b hsm (by omega) ha hb hl3 (by omega)) ?_
 rintro vM σ4 ⟨hM,g4⟩
 have hl4:σ4.lo=1:=by rw[g4.lo,hl3]
 have hn4:=g4.next
 have hW:=((((hw1.grew g0).grew g2).grew g3).grew g4)
 have hP:=((hP.grew g3).grew g4)
 have hA:=hA.grew g4
 obtain ⟨aP,cP,rfl⟩:=yF0 hP
 obtain ⟨aA,cA,rfl⟩:=yF0 hA
 obtain ⟨aM,cM,rfl⟩:=yF0 hM
 obtain ⟨aW,cW,rfl⟩:=yF0 hW
 have hall:∀ v∈[Value.slice aP s'.length cP,.slice aW s'.length cW,.slice aA s'.length cA,.slice aM s'.length cM],bA σ4 v s'.length:=by
  intro v hv
  simp only[List.mem_cons,List.not_mem_nil,or_false] at hv
  rcases hv with rfl|rfl|rfl|rfl<;>assumption
 have hvl:[Value.slice aP s'.length cP,.slice aW s'.length cW,.slice aA s'.length cA,.slice aM s'.length cM].length=4:=rfl
 have hsv:∀ v∈[Value.slice aP s'.length cP,.slice aW s'.length cW,.slice aA s'.length cA,.slice aM s'.length cM],∃ q c,v=.slice q s'.length c:=by
  intro v hv
  simp only[List.mem_cons,List.not_mem_nil,or_false] at hv
  rcases hv with rfl|rfl|rfl|rfl<;>exact ⟨_,_,rfl⟩
 simp(disch:=first|omega|(apply id;simp only[push_cast];try omega))only[push_cast,simprocAttr,↓rowA4]
 generalize [Value.slice aP s'.length cP,.slice aW s'.length cW,.slice aA s'.length cA,.slice aM s'.length cM]=vl at hall hvl hsv ⊢
 refine WD.loop4 (q:=qq) (jJ G) (by kernel_rfl) (K6a s' vl s'.length) ?_ _ _ (K6a.mk 0 0 _ rfl (Nat.zero_le _) hall hl4 (by omega))
 intro m s1 hI
 cases hI with|mk i iv h hiv hi hall hl5 hn5=>
 subst hiv
 rw[wF1]
 by_cases hi4:(i:Int)<4
 ·simp(disch:=first|omega|(apply id;simp only[push_cast];try omega))only[push_cast,simprocAttr,hi4]
  refine WD.loop4 (q:=qq) (jJ G) (by kernel_rfl) (K6b s' vl s'.length i) ?_ _ _ (K6b.mk 0 0 _ rfl (Nat.zero_le _) hall hl5 (by omega))
  clear hall hl5 hn5
  intro m2 s2 hI2
  cases hI2 with|mk k kv h hkv hk hall hl5 hn5=>
  subst hkv
  rw[wD1]
  obtain ⟨v,hv⟩:=jM (l:=vl) (i:=i) (by omega)
  have hvm:=List.mem_of_getElem? hv
  obtain ⟨q,c,rfl⟩:=hsv v hvm
  have hil:i<vl.length:=by omega
  have hil1:i*1<vl.length:=by omega
  have hvl1:vl.length=4*1:=hvl
  by_cases hkl:(k:Int)<s'.length
  ·simp(disch:=first|omega|(apply id;simp only[push_cast];try omega))only[push_cast,simprocAttr,hi4,hil,hil1,hvl1,hv,Int.toNat_natCast,Nat.mul_one,hkl]
   rcases hall _ hvm with ⟨e,e0⟩|⟨b0,vs,e,h0,h1,h2,h3,h4⟩
   ·omega
   obtain ⟨rfl,rfl⟩:q=some ⟨b0,0,none⟩∧c=s'.length:=by cases e;exact ⟨rfl,rfl⟩
   obtain ⟨x,hx⟩:=jM (l:=vs) (i:=k) (by omega)
   have hkv':k<vs.length:=by omega
   obtain ⟨qa,mm,rfl,hq0,hqr⟩:∃ qa mm,x=.slice qa mm mm∧(mm≠0→∃ b',qa=some ⟨b',0,none⟩∧1≤b')∧∀ b',qa=some ⟨b',0,none⟩→mV1 h b' mm:=by
    rcases h4 x (List.mem_of_getElem? hx) with rfl|⟨b',mm,rfl,k1,k2,k3⟩
    ·exact ⟨none,0,rfl,fun e=>absurd rfl e,fun b' e=>by cases e⟩
    ·exact ⟨_,mm,rfl,fun _=>⟨b',rfl,k1⟩,fun b'' e=>by cases e;exact k3⟩
   refine WD.loop4 (q:=qq) (jJ G) (by kernel_rfl) (K6c s' vl s'.length i k b0 vs qa mm) ?_ _ _ (K6c.mk 0 0 _ rfl (Nat.zero_le _) hall h3 hqr hl5 (by omega))
   clear hall hl5 hn5 h2 h3 h4 hqr
   intro m3 s3 hI3
   cases hI3 with|mk j jv h hjv hj hall cb hr hl5 hn5=>
   subst hjv
   rw[wB1]
   by_cases hjl:(j:Int)<mm
   ·obtain ⟨b',rfl,hb'⟩:=hq0 (by omega)
    obtain ⟨ds,d1,d2,d3,d4⟩:=hr b' rfl
    have e1:IntKind.i64.wrap ((j:Int)+1)=(j:Int)+1:=wrap_i64 (by omega) (by omega)
    have hjd:j*9+9≤ds.length:=by omega
    simp(disch:=first|omega|(apply id;simp only[push_cast];try omega))only[push_cast,simprocAttr,hi4,hil,hil1,hvl1,hv,Int.toNat_natCast,Nat.mul_one,hkl,hjl,cb,hl5,hkv',hx,d1,hjd,e1]
    have hlen:(ds.take (j*9)++exT++ds.drop (j*9+9)).length=ds.length:=by
     simp only[List.length_append,List.length_take,List.length_drop,show exT.length=9 from rfl];omega
    have hone:(ds.take (j*9)++exT++ds.drop (j*9+9)).all one=true:=by
     rw[List.all_append,List.all_append,show exT.all one=true from rfl,Bool.and_true,Bool.and_eq_true]
     exact ⟨List.all_eq_true.2 fun x hx=>List.all_eq_true.1 d3 x (List.mem_of_mem_take hx),List.all_eq_true.2 fun x hx=>List.all_eq_true.1 d3 x (List.mem_of_mem_drop hx)⟩
    have hb0:b0≠b':=fun e=>by subst e;rw[cb] at d1;cases d1
    have hb1:¬ b0=b':=hb0
    have hb2:¬ b'=b0:=fun e=>hb0 e.symm
    refine ⟨_,by omega,K6c.mk (j+1) _ _ (by first|rfl|omega) (by omega) (fun v hv=>yS0 (hall v hv) d1 hlen hone) (by simp(disch:=first|omega|(apply id;simp only[push_cast];try omega))only[push_cast,simprocAttr,hb1,hb2];exact cb) (fun b'' e=>?_) (by first|assumption|(simp(disch:=first|omega|(apply id;simp only[push_cast];try omega))only[push_cast,simprocAttr,hl5];try omega)) (by first|assumption|(simp(disch:=first|omega|(apply id;simp only[push_cast];try omega))only[push_cast,simprocAttr];try omega))⟩
    cases e
    exact ⟨_,wB0 _ _ _ _,hlen.trans d2,hone,d4⟩
   ·obtain rfl:j=mm:=by omega
    simp(disch:=first|omega|(apply id;simp only[push_cast];try omega))only[push_cast,simprocAttr,hi4,hil,hil1,hvl1,hv,Int.toNat_natCast,Nat.mul_one,hkl,hjl,cb,hl5,hkv',hx]
    rw[wA1]
    simp(disch:=first|omega|(apply id;simp only[push_cast];try omega))only[push_cast,simprocAttr,hkl]
    exact ⟨_,by omega,K6b.mk (k+1) _ _ (by first|rfl|omega) (by omega) hall hl5 hn5⟩
  ·obtain rfl:k=s'.length:=by omega
   simp(disch:=first|omega|(apply id;simp only[push_cast];try omega))only[push_cast,simprocAttr,hi4,hil,hil1,hvl1,hv,Int.toNat_natCast,Nat.mul_one,hkl]
   rw[wC1]
   simp(disch:=first|omega|(apply id;simp only[push_cast];try omega))only[push_cast,simprocAttr,hi4]
   exact ⟨_,by omega,K6a.mk (i+1) _ _ (by first|rfl|omega) (by omega) hall hl5 hn5⟩
 ·obtain rfl:i=4:=by omega
  simp(disch:=first|omega|(apply id;simp only[push_cast];try omega))only[push_cast,simprocAttr,hi4]
  rw[wE1]
  simp(disch:=first|omega|(apply id;simp only[push_cast];try omega))only[push_cast,simprocAttr]
  refine jB.dataI (dS1 G s' s' hsm hsm) (by and_intros<;>first|rfl|(simp(disch:=first|omega|(apply id;simp only[push_cast];try omega))only[push_cast])) ?_
  rw[lN0]
  simp(disch:=first|omega|(apply id;simp only[push_cast];try omega))only[push_cast,simprocAttr]
  exact ⟨_,rfl,.id rfl⟩
end
end Go.Proofs.Ytgeakofgklcipaa
namespace Go.Proofs.Ytgeakofgklcipaa
open _root_.Go.Proofs.Try (prog)
open Go Go.RowKit Go.Ev Go.Dv
noncomputable section
set_option maxRecDepth 100000
section
variable {w:World} {H:Type} {enc:TypeId×Value→H}
theorem qW1:prog.underlying eI=some (.int .i64):=by kernel_rfl
theorem wD2:prog.underlying 36=some (.slice era):=by kernel_rfl
theorem u_rbs:prog.underlying 22=some (.slice erb):=by kernel_rfl
theorem f_raw:fieldsB prog era [(eI,0),(eI,1),(36,2)]=true:=by kernel_rfl
theorem f_rb:fieldsB prog erb [(eI,0),(eI,1),(eI,2),(36,3),(22,4)]=true:=by kernel_rfl
theorem fR0:∀ l:List Ra,l.flatMap raC=raCs l
 | []=>rfl
 | x :: l=>by rw[List.flatMap_cons,fR0 l,raCs]
theorem fP0:∀ l:List Rb,l.flatMap rbC=rbCs l
 | []=>rfl
 | x :: l=>by rw[List.flatMap_cons,fP0 l,rbCs]
theorem uK1:∀ {l:List Ra},(∀ x∈l,smR x=true)→smRs l=true
 | [],_=>rfl
 | x :: l,h=>by rw[smRs,h x (by simp),uK1 fun y hy=>h y (by simp[hy])];rfl
theorem uR1:∀ {l:List Rb},(∀ x∈l,smB x=true)→smBs l=true
 | [],_=>rfl
 | x :: l,h=>by rw[smBs,h x (by simp),uR1 fun y hy=>h y (by simp[hy])];rfl
theorem eR1:∀ (fuel:Nat) {cs:List Value} {x:DataW H×List MemPlace},DataW.trod enc prog w 0 (fun _=>true) true fuel 36 cs=some x→(x.1.weights prog 36).all (·≤reachBytes)=true→
  ∃ l:List Ra,Go.Dv.Op prog 1 LL w [rasV l] cs∧smRs l=true∧l.length<1000000000000000:=by
 intro fuel
 induction fuel using Nat.strongRecOn with
 | ind fuel ih=>
 intro cs x h hw
 obtain ⟨l,h1,h2,h3⟩:=open_slice (n:=1) (L:=LL) wD2 (size:=3) (by kernel_rfl) (by kernel_rfl) (by omega) (of_decide_eq_true (by kernel_rfl)) raC (fun r=>smR r=true) h hw fun k c y hk hy hwy=>by
  obtain ⟨k',hk',hl,hfs⟩:=yY0 f_raw hy hwy
  rw[show prog.cellsOf era=3 by kernel_rfl] at hl
  match c,hl with
  | [a,b,d],_=>
   obtain ⟨y0,t0,_⟩:=hfs 0 _ _ rfl
   obtain ⟨y1,t1,_⟩:=hfs 1 _ _ rfl
   obtain ⟨y2,t2,w2⟩:=hfs 2 _ _ rfl
   rw[show prog.cellsOf eI=1 by kernel_rfl] at t0 t1
   rw[show prog.cellsOf 36=1 by kernel_rfl] at t2
   obtain ⟨m0,e0,o0,_⟩:=wR0 (n:=1) (L:=LL) qW1 t0
   obtain ⟨m1,e1,o1,_⟩:=wR0 (n:=1) (L:=LL) qW1 t1
   obtain ⟨l2,o2,s2,n2⟩:=ih k' (by omega) t2 w2
   refine ⟨.mk m0 m1 l2,?_,?_⟩
   ·exact (o0.append o1).append o2
   ·simp only[smR,s2,Bool.and_true,decide_eq_true_eq];exact n2
 rw[fR0] at h1
 exact ⟨l,h1,uK1 h2,h3⟩
theorem tL0 (fuel:Nat) (ih:∀ k,k<fuel→∀ {cs:List Value} {x:DataW H×List MemPlace},DataW.trod enc prog w 0 (fun _=>true) true k 22 cs=some x→(x.1.weights prog 22).all (·≤reachBytes)=true→
   ∃ l:List Rb,Go.Dv.Op prog 1 LL w [rbsV l] cs∧smBs l=true∧l.length<1000000000000000)
  {c:List Value} {y:DataW H×List MemPlace} (hy:DataW.trod enc prog w 0 (fun _=>true) true fuel erb c=some y) (hwy:(y.1.weights prog erb).all (·≤reachBytes)=true) :
  ∃ r:Rb,Go.Dv.Op prog 1 LL w (rbC r) c∧smB r=true:=by
 obtain ⟨k',hk',hl,hfs⟩:=yY0 f_rb hy hwy
 rw[show prog.cellsOf erb=5 by kernel_rfl] at hl
 match c,hl with
 | [a,b,d,e,f],_=>
  obtain ⟨y0,t0,_⟩:=hfs 0 _ _ rfl
  obtain ⟨y1,t1,_⟩:=hfs 1 _ _ rfl
  obtain ⟨y2,t2,_⟩:=hfs 2 _ _ rfl
  obtain ⟨y3,t3,w3⟩:=hfs 3 _ _ rfl
  obtain ⟨y4,t4,w4⟩:=hfs 4 _ _ rfl
  rw[show prog.cellsOf eI=1 by kernel_rfl] at t0 t1 t2
  rw[show prog.cellsOf 36=1 by kernel_rfl] at t3
  rw[show prog.cellsOf 22=1 by kernel_rfl] at t4
  obtain ⟨m0,e0,o0,_⟩:=wR0 (n:=1) (L:=LL) qW1 t0
  obtain ⟨m1,e1,o1,_⟩:=wR0 (n:=1) (L:=LL) qW1 t1
  obtain ⟨m2,e2,o2,_⟩:=wR0 (n:=1) (L:=LL) qW1 t2
  obtain ⟨l3,o3,s3,n3⟩:=eR1 k' t3 w3
  obtain ⟨l4,o4,s4,n4⟩:=ih k' (by omega) t4 w4
  refine ⟨.mk m0 m1 m2 l3 l4,?_,?_⟩
  ·exact (((o0.append o1).append o2).append o3).append o4
  ·simp only[smB,s3,s4,Bool.and_true,Bool.and_eq_true,decide_eq_true_eq];exact ⟨n4,n3⟩
theorem open_rbs:∀ (fuel:Nat) {cs:List Value} {x:DataW H×List MemPlace},DataW.trod enc prog w 0 (fun _=>true) true fuel 22 cs=some x→(x.1.weights prog 22).all (·≤reachBytes)=true→
  ∃ l:List Rb,Go.Dv.Op prog 1 LL w [rbsV l] cs∧smBs l=true∧l.length<1000000000000000:=by
 intro fuel
 induction fuel using Nat.strongRecOn with
 | ind fuel ih=>
 intro cs x h hw
 obtain ⟨l,h1,h2,h3⟩:=open_slice (n:=1) (L:=LL) u_rbs (size:=5) (by kernel_rfl) (by kernel_rfl) (by omega) (of_decide_eq_true (by kernel_rfl)) rbC (fun r=>smB r=true) h hw fun k c y hk hy hwy=>
  tL0 k (fun k' hk'=>ih k' (by omega)) hy hwy
 rw[fP0] at h1
 exact ⟨l,h1,uR1 h2,h3⟩
end
end
end Go.Proofs.Ytgeakofgklcipaa
