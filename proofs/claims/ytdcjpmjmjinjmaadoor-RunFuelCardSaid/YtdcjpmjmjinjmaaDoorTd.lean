/-
  A part of the proof: what the program's functions hand back,as theorems. No condition but those that each theorem names.
-/
import Derived.Test.YtdcjpmjmjinjmaaDoorTc
import Derived.Test.YtdcjpmjmjinjmaaDoorTa
import Derived.Test.YtdcjpmjmjinjmaaDoorTb
import Derived.Test.YtdcjpmjmjinjmaaDoorEve
import Derived.Test.YtdcjpmjmjinjmaaDoorExc
set_option linter.unusedSimpArgs false
set_option linter.unusedVariables false
namespace Go.Proofs.YtdcjpmjmjinjmaaDoor
open Go Go.RowKit Go.Ev Go.Dv
noncomputable section
set_option maxRecDepth 100000
variable (G:Nat×Nat)
structure Cf where
 t:Tm
 v:List Int
 st:List (List Tm)
 n:Int
 key:Int
def cfC (f:Cf):List Value:=tmC f.t++[ivV f.v,trV f.st,.int .i64 f.n,.int .i64 f.key]
def cfV (f:Cf):Value:=.agg ⟨cfC f⟩
structure SmF (f:Cf):Prop where
 t:smT f.t=true
 v:f.v.length<100000000000
 st:kX f.st
def gK (c:Co) (f:Cf):Bool:=decide (f.v.length=c.v.length∧(f.st.length:Int)=c.s)&&wW c.v.length c.s c.p.length false f.t
theorem fF0 (c:Co) (f:Cf) (hc:SmC c) (hf:SmF f):jI (pp G) H0 15 [coV c,cfV f] (.bool (gK c f)):=by
 obtain ⟨⟨k,a,b,s,e,l⟩,v,st,n,key⟩:=f
 obtain ⟨cv,cp,ct⟩:=hc
 obtain ⟨ft,fv,fst⟩:=hf
 have hst:=fst.1
 dsimp only at ft fv hst
 unfold coV coC cfV cfC ivV trV qD
 rw[qQ]
 simp only[List.cons_append,List.nil_append]
 refine cE G fir15 (by kernel_rfl) (qH2 ..) fun hlo=>?_;rw[rC1]
 by_cases h1:(v.length:Int)=c.v.length
 ·by_cases h2:(st.length:Int)=c.s
  ·simp(disch:=first|omega|(apply id;simp only[push_cast];try omega))only[push_cast,simprocAttr,h1,h2]
   refine dK (uV1 G c.v.length c.s c.p.length (.mk k a b s e l) ft) ?_
   simp(disch:=first|omega|(apply id;simp only[push_cast];try omega))only[push_cast,simprocAttr]
   rw[show gK c ⟨.mk k a b s e l,v,st,n,key⟩=wW c.v.length c.s c.p.length false (.mk k a b s e l) by rw[gK,decide_eq_true ⟨by show v.length=c.v.length;omega,h2⟩,Bool.true_and]]
   exact .id rfl
  ·simp(disch:=first|omega|(apply id;simp only[push_cast];try omega))only[push_cast,simprocAttr,h1,h2]
   rw[show gK c ⟨.mk k a b s e l,v,st,n,key⟩=false by rw[gK,decide_eq_false (fun h=>h2 h.2),Bool.false_and]]
   exact .id rfl
 ·simp(disch:=first|omega|(apply id;simp only[push_cast];try omega))only[push_cast,simprocAttr,h1]
  rw[show gK c ⟨.mk k a b s e l,v,st,n,key⟩=false by rw[gK,decide_eq_false (fun h=>h1 (by have:=h.1;dsimp only at this;omega)),Bool.false_and]]
  exact .id rfl
theorem fL0 (l:List Int) (hll:l.length<100000000000) {σ:jA} (hl:σ.lo=1) (hn:1≤σ.next):jO (pp G) H0 13 [ivV l] σ (IvR σ l):=by
 refine jO.fir4 (q:=qq) (jX G) fir13 (by kernel_rfl) rfl rfl (pD0 ..) (by first|exact Nat.le_trans (show NGG≤1 by decide) (by omega)) ?_;rw[rE1]
 simp(disch:=first|omega|(apply id;simp only[push_cast];try omega))only[push_cast,simprocAttr]
 refine jC.func (cap:=[]) (sH1 G l hll hl hn) ?_
 rintro _ σ1 h
 simp(disch:=first|omega|(apply id;simp only[push_cast];try omega))only[push_cast,simprocAttr]
 exact h
theorem wG1 (l:List Int) (hll:l.length<100000000000):jI (pp G) H0 13 [ivV l] (ivV l):=by
 refine jI.cut ((fL0 G l hll (σ:=H0) rfl (Nat.le_refl _)).mono ?_)
 rintro _ σ' ⟨g,⟨rfl,rfl⟩|⟨rfl,c1,hn⟩⟩
 ·exact .nil (size:=1) rfl (by decide)
 ·unfold ivV
  have hsz:=g.next
  refine .sl (by first|omega|trivial) c1 (size:=1) rfl (by decide) (by rw[kG];omega) (.inl ⟨by simp only[UC];omega,Nat.le_refl _⟩) ?_
  rw[List.drop_zero,List.take_of_length_le (by rw[kG];omega)]
  exact .ids (wY0 _ _)
def cfZ:Cf:=⟨zT,[],[],0,0⟩
def uV0 (c:Co):Cf:=if chkC c=true then ⟨jF (c.p.getD c.m.toNat zT),c.v,List.replicate c.s.toNat [],0,0⟩ else cfZ
theorem rI1 (j:Nat) {n:Nat} {σ:jA}:FzL (pp G).P n σ (List.replicate j [Value.slice none 0 0]).flatten (trs (List.replicate j [])):=by
 induction j with
 | zero=>exact .nil
 | succ j ih=>exact .cons (.nil (size:=9) rfl (by decide)) ih
theorem gJ1 (c:Co) (hc:SmC c):jI (pp G) H0 6 [coV c] (cfV (uV0 c)):=by
 have hc':=hc
 obtain ⟨cv,cp,ct⟩:=hc
 have hck:=yW1 G c hc'
 cases hk:chkC c with
 | false=>
  rw[show uV0 c=cfZ by rw[uV0,hk];rfl]
  rw[hk] at hck
  unfold coV coC ivV qD at hck ⊢
  refine cE G fir6 (by kernel_rfl) (eH0 ..) fun hlo=>?_;rw[lL1]
  simp(disch:=first|omega|(apply id;simp only[push_cast];try omega))only[push_cast,simprocAttr]
  refine dK (hck) ?_
  simp(disch:=first|omega|(apply id;simp only[push_cast];try omega))only[push_cast,simprocAttr]
  exact .agg (.cons (.id rfl) (.cons (.id rfl) (.cons (.id rfl) (.cons (.id rfl) (.cons (.id rfl) (.cons (.id rfl) (.cons (.id rfl) (.cons (.nil (size:=4) rfl (by decide)) (.cons (.nil (size:=9) rfl (by decide)) (.cons (.nil (size:=1) rfl (by decide)) (.cons (.nil (size:=1) rfl (by decide)) (.cons (.id rfl) (.cons (.id rfl) .nil)))))))))))))
 | true=>
  rw[show uV0 c=⟨jF (c.p.getD c.m.toNat zT),c.v,List.replicate c.s.toNat [],0,0⟩ by rw[uV0,hk];rfl]
  rw[hk] at hck
  have hb:=hk
  rw[chkC,Bool.and_eq_true,decide_eq_true_eq] at hb
  obtain ⟨⟨b1,b2,b3,b4,b5,b6⟩,hall⟩:=hb
  obtain ⟨i,hi⟩:∃ i:Nat,c.m=i:=⟨c.m.toNat,by omega⟩
  obtain ⟨j,hj⟩:∃ j:Nat,c.s=j:=⟨c.s.toNat,by omega⟩
  obtain ⟨x,hx⟩:=qJ (l:=c.p) (i:=i) (by omega)
  have hp:=qV hx
  have hle:i*9+9≤c.p.length*9:=by omega
  have hil:(i:Int)<c.p.length:=by omega
  have hil':i<c.p.length:=by omega
  have hxs:=qA ct x (List.mem_of_getElem? hx)
  have hgd:c.p.getD c.m.toNat zT=x:=by rw[hi,Int.toNat_natCast,List.getD_eq_getElem?_getD,hx];rfl
  rw[hgd]
  have hnum:=wG1 G c.v (by omega)
  have hnf:=fM0 G x hxs
  generalize jF x=x' at *
  unfold coV coC ivV qD at hck ⊢
  unfold ivV at hnum
  rw[hi,hj] at hck ⊢
  refine cE G fir6 (by kernel_rfl) (eH0 ..) fun hlo=>?_;rw[lL1]
  simp(disch:=first|omega|(apply id;simp only[push_cast];try omega))only[push_cast,simprocAttr]
  refine dK (hck) ?_
  have hj1:(j:Int)≤10:=by omega
  simp(disch:=first|omega|(apply id;simp only[push_cast];try omega))only[push_cast,simprocAttr,hil,Int.toNat_natCast,hp,hle,hil',hj1]
  obtain ⟨k',a',b',s',e',l'⟩:=x'
  repeat' apply And.intro
  all_goals
   refine dK (hnf) ?_
   simp(disch:=first|omega|(apply id;simp only[push_cast];try omega))only[push_cast,simprocAttr,Int.toNat_natCast,hj1]
  all_goals repeat' apply And.intro
  all_goals
   refine dK (hnum) ?_
   simp(disch:=first|omega|(apply id;simp only[push_cast];try omega))only[push_cast,simprocAttr,Int.toNat_natCast,hj1]
  all_goals
   refine .agg (.cons (.id rfl) (.cons (.id rfl) (.cons (.id rfl) (.cons (.id rfl) (.cons (.id rfl) (.cons (.id rfl) (.cons (.id rfl) (.cons (.row (.ids (wB0 _ (by decide) _))) (.cons (.row (.ids (gU _ (by decide) _))) (.cons (.row (.ids (wY0 _ _))) (.cons ?_ (.cons (.id rfl) (.cons (.id rfl) .nil)))))))))))))
   unfold trV
   rw[List.length_replicate]
   refine .sl (full:=(List.replicate j [Value.slice none 0 0]).flatten) (m:=false) ?_ ?_ (size:=1) rfl (by decide) ?_ (.inl ⟨by simp only[UC];omega,Nat.le_refl _⟩) ?_
   ·first|omega|(exact Nat.le_refl _)|(exact (by decide))|simp(disch:=first|omega|(apply id;simp only[push_cast];try omega))only[push_cast,simprocAttr]
   ·simp(disch:=first|omega|(apply id;simp only[push_cast];try omega))only[push_cast,simprocAttr];first|done|rfl
   ·simp
   ·rw[List.drop_zero,List.take_of_length_le (by simp)]
    exact rI1 G j
def VrR (σ':jA) (lo:Nat) (l:List Int) (v:Value):Prop:=(l=[]∧v=.slice none 0 0)∨∃ b,v=.slice (some ⟨b,0,none⟩) l.length l.length∧cells σ' b=some (ivs l,eI,false)∧lo≤b∧b<σ'.next
def AgR (σ:jA) (f:Cf) (v:Value) (σ':jA):Prop:=∃ cs vv m,v=.agg ⟨cs++[vv,trV f.st,.int .i64 f.n,.int .i64 f.key]⟩∧NTs σ' σ.next m (jF f.t) cs∧VrR σ' m f.v vv∧m≤σ'.next∧jD σ σ' (fun _=>False)
theorem jE2 {c:List Value} (h:c.length=9) (p q r t:Value):(c++[p,q,r,t])[9]?=some p:=by rw[List.getElem?_append_right (by omega),h];rfl
theorem yQ1 {c:List Value} (h:c.length=9) (p q r t:Value):(c++[p,q,r,t])[10]?=some q:=by rw[List.getElem?_append_right (by omega),h];rfl
theorem yM2 {c:List Value} (h:c.length=9) (l:List Value):(c++l).take 9=c:=by rw[← h,List.take_left]
theorem iE0 {c:List Value} (h:c.length=9) (p q r t:Value):(c++[p,q,r,t]).take 10=c++[p]:=by rw[List.take_append,List.take_of_length_le (by omega),h];rfl
theorem yO2 {c:List Value} (h:c.length=9) (p q r t:Value):(c++[p,q,r,t]).drop 10=[q,r,t]:=by rw[List.drop_append,List.drop_of_length_le (by omega),h];rfl
theorem iF0 {c:List Value} (h:c.length=9) (p q r t:Value):(c++[p,q,r,t]).drop 11=[r,t]:=by rw[List.drop_append,List.drop_of_length_le (by omega),h];rfl
theorem eC0 {c:List Value} (h:c.length=9) (p q r t:Value):(c++[p,q,r,t]).length=13:=by rw[List.length_append,h];rfl
theorem eE1 (c:List Value) (p:Value) (l:List Value):c++[p]++l=c++p :: l:=by simp
theorem eD1 (c:List Value) (p q:Value) (l:List Value):c++[p,q]++l=c++p :: q :: l:=by simp
theorem mJ1 {c:List Value} (h:c.length=9) (p q r t:Value):(c++[p,q,r,t]).take 13=c++[p,q,r,t]:=List.take_of_length_le (by rw[eC0 h];exact Nat.le_refl _)
theorem yR1 {c:List Value} (h:c.length=9) (p q r t:Value):(c++[p,q,r,t]).drop 13=[]:=List.drop_of_length_le (by rw[eC0 h];exact Nat.le_refl _)
theorem gM1 (f:Cf) (hf:SmF f) (hR:RS f.t) {σ:jA} (hl:σ.lo=1) (hn:1≤σ.next):jO (pp G) H0 16 [cfV f] σ (AgR σ f):=by
 obtain ⟨⟨k,a,b,s,e,l⟩,v,st,n,key⟩:=f
 obtain ⟨ft,fv,fst⟩:=hf
 dsimp only at ft fv fst hR
 have hnd:=zI2 G hR ft
 unfold AgR
 dsimp only
 unfold cfV cfC ivV trV
 rw[qQ]
 simp only[List.cons_append,List.nil_append]
 refine jO.fir4 (q:=qq) (jX G) fir16 (by kernel_rfl) rfl rfl (eJ0 ..) (by first|exact Nat.le_trans (show NGG≤1 by decide) (by omega)) ?_;rw[rB1]
 simp(disch:=first|omega|(apply id;simp only[push_cast];try omega))only[push_cast,simprocAttr]
 refine jC.func (cap:=[]) (hnd _ (by simp only[jN];exact hl) (by simp only[jB];omega)) ?_
 rintro _ σ2 ⟨cx,rfl,hN,g⟩
 have hl2:σ2.lo=1:=by rw[g.lo];simp only[jN];exact hl
 have hn2:=g.next
 simp only[jB] at hn2 hN
 have h9:=hN.len
 have h91:=hN.one
 have ht9:cx.take 9=cx:=List.take_of_length_le (by omega)
 have hd9:cx.drop 9=[]:=List.drop_of_length_le (by omega)
 have hcc:(Value.agg ⟨cx⟩).cells.toList=cx:=rfl
 have c0:cells σ2 σ.next=some ([.int .i64 k,.int .i64 a,.int .i64 b,.string (Tx s),.int .i64 e.k,.int .i64 e.n,.string (Tx e.s),Rw false eE e.l.length (wY e.l),Rw false etm l.length (jZ l),Rw false eI v.length (ivs v),Rw false eR st.length (trs st),.int .i64 n,.int .i64 key],35,false):=g.cellsE (by simp(disch:=first|omega|(apply id;simp only[push_cast];try omega))only[push_cast,simprocAttr];first|done|rfl) (by simp only[jB];omega) id
 have c1:cells σ2 (σ.next+1)=some ([.int .i64 0,.int .i64 0,.int .i64 0,.string (Tx []),.int .i64 0,.int .i64 0,.string (Tx []),.slice none 0 0,.slice none 0 0,.slice none 0 0,.slice none 0 0,.int .i64 0,.int .i64 0],35,false):=g.cellsE (by simp(disch:=first|omega|(apply id;simp only[push_cast];try omega))only[push_cast,simprocAttr];first|done|rfl) (by simp only[jB];omega) id
 have hgq:=jE2 h9
 have hgr:=yQ1 h9
 have htq:=yM2 h9
 have htr:=iE0 h9
 have hdq:=yO2 h9
 have hdr:=iF0 h9
 have hlq:=eC0 h9
 have hts:=mJ1 h9
 have hds:=yR1 h9
 simp(disch:=first|omega|(apply id;simp only[push_cast];try omega))only[push_cast,simprocAttr,h9,h91,ht9,hd9,hcc,hl2,c0,c1,hgq]
 refine jC.func (cap:=[]) (fL0 G v fv (by simp only[wX];exact hl2) (by simp only[jK];omega)) ?_
 rintro _ σ3 ⟨g3,hv⟩
 have hl3:σ3.lo=1:=by rw[g3.lo];simp only[wX];exact hl2
 have hn3:=g3.next
 simp only[jK] at hn3
 have d0:cells σ3 σ.next=some (cx++[Rw false eI v.length (ivs v),Rw false eR st.length (trs st),.int .i64 n,.int .i64 key],35,false):=g3.cellsE (by simp(disch:=first|omega|(apply id;simp only[push_cast];try omega))only[push_cast,simprocAttr];first|done|rfl) (by simp only[jK];omega) id
 have d1:cells σ3 (σ.next+1)=some ([.int .i64 0,.int .i64 0,.int .i64 0,.string (Tx []),.int .i64 0,.int .i64 0,.string (Tx []),.slice none 0 0,.slice none 0 0,.slice none 0 0,.slice none 0 0,.int .i64 0,.int .i64 0],35,false):=g3.cellsE (by simp(disch:=first|omega|(apply id;simp only[push_cast];try omega))only[push_cast,simprocAttr,c1];first|done|rfl) (by simp only[jK];omega) id
 have hos:=wE1 G st fst
 unfold trV at hos
 have hL0:=hlq (Rw false eI v.length (ivs v)) (Rw false eR st.length (trs st)) (.int .i64 n) (.int .i64 key)
 rcases hv with ⟨hv0,rfl⟩|⟨rfl,c3,hc3⟩
 ·have hL1:=hlq (.slice none 0 0) (Rw false eR st.length (trs st)) (.int .i64 n) (.int .i64 key)
  have hal:(cx++[.slice none 0 0,Rw false eR st.length (trs st),.int .i64 n,.int .i64 key]).all one=true:=by rw[List.all_append,h91];rfl
  simp(disch:=first|omega|(apply id;simp only[push_cast];try omega))only[push_cast,simprocAttr,hl3,d0,d1,h9,hgq,hgr,htq,htr,hdq,hdr,hlq,eE1,eD1,hts,hds,hal]
  refine dK (hos) ?_
  simp(disch:=first|omega|(apply id;simp only[push_cast];try omega))only[push_cast,simprocAttr,hl3,d0,d1,h9,hgq,hgr,htq,htr,hdq,hdr,hlq,eE1,eD1,hts,hds,hal]
  refine ⟨cx,_,σ2.next,rfl,NTs.mono (lo':=σ.next) (hi':=σ2.next) (NTs.up hN ?_ (Nat.le_refl _)) (by omega) (Nat.le_refl _),.inl ⟨hv0,rfl⟩,?_,?_⟩
  ·(repeat (first|assumption|exact jD.refl _ _|refine jD.put'' ?_ _ _ (by intro _;first|(exfalso;omega)|(show _∨_;omega))|refine jD.add' ?_ _|refine jD.tr ?_ g3|refine jD.tr ?_ g))
  ·first|omega|(simp only[jK];omega)
  ·(repeat (first|assumption|exact jD.refl _ _|refine jD.put'' ?_ _ _ (by intro _;first|(exfalso;omega)|(show _∨_;omega))|refine jD.add' ?_ _|refine jD.tr ?_ g3|refine jD.tr ?_ g))
 ·have hL1:=hlq (.slice (some ⟨σ2.next,0,none⟩) v.length v.length) (Rw false eR st.length (trs st)) (.int .i64 n) (.int .i64 key)
  have hal:(cx++[.slice (some ⟨σ2.next,0,none⟩) v.length v.length,Rw false eR st.length (trs st),.int .i64 n,.int .i64 key]).all one=true:=by rw[List.all_append,h91];rfl
  simp(disch:=first|omega|(apply id;simp only[push_cast];try omega))only[push_cast,simprocAttr,hl3,d0,d1,h9,hgq,hgr,htq,htr,hdq,hdr,hlq,eE1,eD1,hts,hds,hal]
  refine dK (hos) ?_
  simp(disch:=first|omega|(apply id;simp only[push_cast];try omega))only[push_cast,simprocAttr,hl3,d0,d1,h9,hgq,hgr,htq,htr,hdq,hdr,hlq,eE1,eD1,hts,hds,hal]
  simp only[jK] at c3 hc3
  refine ⟨cx,_,σ2.next,rfl,NTs.mono (lo':=σ.next) (hi':=σ2.next) (NTs.up hN ?_ (Nat.le_refl _)) (by omega) (Nat.le_refl _),.inr ⟨σ2.next,rfl,?_,Nat.le_refl _,?_⟩,?_,?_⟩
  ·(repeat (first|assumption|exact jD.refl _ _|refine jD.put'' ?_ _ _ (by intro _;first|(exfalso;omega)|(show _∨_;omega))|refine jD.add' ?_ _|refine jD.tr ?_ g3|refine jD.tr ?_ g))
  ·simp(disch:=first|omega|(apply id;simp only[push_cast];try omega))only[push_cast,simprocAttr,c3];first|done|rfl
  ·first|omega|(simp only[jK];omega)
  ·first|omega|(simp only[jK];omega)
  ·(repeat (first|assumption|exact jD.refl _ _|refine jD.put'' ?_ _ _ (by intro _;first|(exfalso;omega)|(show _∨_;omega))|refine jD.add' ?_ _|refine jD.tr ?_ g3|refine jD.tr ?_ g))
end
end Go.Proofs.YtdcjpmjmjinjmaaDoor
namespace Go.Proofs.YtdcjpmjmjinjmaaDoor
open Go Go.RowKit Go.Ev Go.Dv
noncomputable section
variable (G:Nat×Nat)
def t2 (x:Int×Int):Value:=.tuple #[.int .i64 x.1,.int .i64 x.2]
@[push_cast]theorem t2_eq (x:Int×Int):t2 x=.tuple ⟨[.int .i64 x.1,.int .i64 x.2]⟩:=rfl
def addF (a b:Int):Int×Int:=if decide (a<W (a+b)) == decide (0<b) then (W (a+b),0) else (0,8)
def subF (a b:Int):Int×Int:=if decide (W (a-b)<a) == decide (0<b) then (W (a-b),0) else (0,8)
def mulF (a b:Int):Int×Int:=if a≠0∧(W ((W (a*b)).tdiv a)≠b∨a = -1∧b = -9223372036854775808) then (0,8) else (W (a*b),0)
def divF (a b:Int):Int×Int:=if b=0 then (0,9) else if a = -9223372036854775808∧b = -1 then (0,8) else (W (a.tdiv b),0)
def remF (a b:Int):Int×Int:=if b=0 then (0,9) else if b = -1 then (0,0) else (a.tmod b,0)
def wJ0 (b:Bool):Int:=if b then 1 else 0
theorem qF0 (b:Bool):jI (pp G) H0 71 [.bool b] (.int .i64 (wJ0 b)):=by
 refine cE G fir71 (by kernel_rfl) (iT0 ..) fun hlo=>?_;rw[oB1]
 cases b with
 | true=>simp(disch:=first|omega|(apply id;simp only[push_cast];try omega))only[push_cast,simprocAttr];exact .id rfl
 | false=>simp(disch:=first|omega|(apply id;simp only[push_cast];try omega))only[push_cast,simprocAttr];exact .id rfl
theorem add_f (a b:Int):jI (pp G) H0 76 [.int .i64 a,.int .i64 b] (t2 (addF a b)):=by
 refine cE G fir76 (by kernel_rfl) (mX0 ..) fun hlo=>?_;rw[nW1]
 unfold addF W
 cases h:(decide (a<IntKind.i64.wrap (a+b)) == decide (0<b)) with
 | true=>simp(disch:=first|omega|(apply id;simp only[push_cast];try omega))only[push_cast,simprocAttr,h];exact .id rfl
 | false=>simp(disch:=first|omega|(apply id;simp only[push_cast];try omega))only[push_cast,simprocAttr,h];exact .id rfl
theorem uO2 (a b:Int):jI (pp G) H0 72 [.int .i64 a,.int .i64 b] (t2 (subF a b)):=by
 refine cE G fir72 (by kernel_rfl) (mX0 ..) fun hlo=>?_;rw[oA1]
 unfold subF W
 cases h:(decide (IntKind.i64.wrap (a-b)<a) == decide (0<b)) with
 | true=>simp(disch:=first|omega|(apply id;simp only[push_cast];try omega))only[push_cast,simprocAttr,h];exact .id rfl
 | false=>simp(disch:=first|omega|(apply id;simp only[push_cast];try omega))only[push_cast,simprocAttr,h];exact .id rfl
theorem div_f (a b:Int):jI (pp G) H0 74 [.int .i64 a,.int .i64 b] (t2 (divF a b)):=by
 refine cE G fir74 (by kernel_rfl) (eI0 ..) fun hlo=>?_;rw[nY1]
 unfold divF W
 by_cases h:b=0
 ·simp(disch:=first|omega|(apply id;simp only[push_cast];try omega))only[push_cast,simprocAttr,h];exact .id rfl
 by_cases h1:a = -9223372036854775808
 ·by_cases h2:b = -1
  ·simp(disch:=first|omega|(apply id;simp only[push_cast];try omega))only[push_cast,simprocAttr,h,h1,h2];exact .id rfl
  ·simp(disch:=first|omega|(apply id;simp only[push_cast];try omega))only[push_cast,simprocAttr,h,h1,h2];exact .id rfl
 ·simp(disch:=first|omega|(apply id;simp only[push_cast];try omega))only[push_cast,simprocAttr,h,h1,false_and];exact .id rfl
theorem rem_f (a b:Int):jI (pp G) H0 75 [.int .i64 a,.int .i64 b] (t2 (remF a b)):=by
 refine cE G fir75 (by kernel_rfl) (qO2 ..) fun hlo=>?_;rw[nX1]
 unfold remF
 by_cases h:b=0
 ·simp(disch:=first|omega|(apply id;simp only[push_cast];try omega))only[push_cast,simprocAttr,h];exact .id rfl
 by_cases h1:b = -1
 ·simp(disch:=first|omega|(apply id;simp only[push_cast];try omega))only[push_cast,simprocAttr,h,h1];exact .id rfl
 ·simp(disch:=first|omega|(apply id;simp only[push_cast];try omega))only[push_cast,simprocAttr,h,h1];exact .id rfl
theorem mul_f (a b:Int):jI (pp G) H0 73 [.int .i64 a,.int .i64 b] (t2 (mulF a b)):=by
 refine cE G fir73 (by kernel_rfl) (qJ2 ..) fun hlo=>?_;rw[nZ1]
 by_cases h:a=0
 ·rw[mulF,if_neg (fun hc=>hc.1 h)]
  subst h
  unfold W
  simp(disch:=first|omega|(apply id;simp only[push_cast];try omega))only[push_cast,simprocAttr];exact .id rfl
 by_cases h1:IntKind.i64.wrap ((IntKind.i64.wrap (a*b)).tdiv a)=b
 ·by_cases h2:a = -1
  ·by_cases h3:b = -9223372036854775808
   ·rw[mulF,if_pos ⟨h,.inr ⟨h2,h3⟩⟩]
    subst h2 h3
    have h4:IntKind.i64.wrap ((IntKind.i64.wrap 9223372036854775808).tdiv (-1)) = -9223372036854775808:=by decide
    simp(disch:=first|omega|(apply id;simp only[push_cast];try omega))only[push_cast,simprocAttr,h4];exact .id rfl
   ·rw[mulF,if_neg (fun hc=>hc.2.elim (fun hn=>hn h1) fun hn=>h3 hn.2)]
    subst h2
    simp(disch:=first|omega|(apply id;simp only[push_cast];try omega))only[push_cast,simprocAttr,h1,h3];exact .id rfl
  ·rw[mulF,if_neg (fun hc=>hc.2.elim (fun hn=>hn h1) fun hn=>h2 hn.1)]
   simp(disch:=first|omega|(apply id;simp only[push_cast];try omega))only[push_cast,simprocAttr,h,h1,h2];exact .id rfl
 ·rw[mulF,if_pos ⟨h,.inl h1⟩]
  simp(disch:=first|omega|(apply id;simp only[push_cast];try omega))only[push_cast,simprocAttr,h,h1];exact .id rfl
def oneF (k a:Int):Int×Int:=if k=3 then (wJ0 (decide (a=0)),0) else subF 0 a
theorem one_f (k a:Int):jI (pp G) H0 65 [.int .i64 k,.int .i64 a] (t2 (oneF k a)):=by
 refine cE G fir65 (by kernel_rfl) (mY0 ..) fun hlo=>?_;rw[oH1]
 by_cases h:k=3
 ·rw[oneF,if_pos h]
  simp(disch:=first|omega|(apply id;simp only[push_cast];try omega))only[push_cast,simprocAttr,h]
  refine dK (qF0 G (decide (a=0))) ?_
  simp(disch:=first|omega|(apply id;simp only[push_cast];try omega))only[push_cast,simprocAttr]
  exact .id rfl
 ·rw[oneF,if_neg h]
  simp(disch:=first|omega|(apply id;simp only[push_cast];try omega))only[push_cast,simprocAttr,h]
  refine dK (uO2 G 0 a) ?_
  simp(disch:=first|omega|(apply id;simp only[push_cast];try omega))only[push_cast,simprocAttr]
  exact .id rfl
def twoF (k a b:Int):Int×Int:=
 if k=5 then mulF a b else if k=6 then divF a b else if k=7 then remF a b else if k=8 then addF a b else if k=9 then subF a b
 else if k=10 then (wJ0 (decide (a=b)),0) else if k=11 then (wJ0 (!decide (a=b)),0) else if k=12 then (wJ0 (decide (a<b)),0) else if k=13 then (wJ0 (decide (a≤b)),0)
 else if k=14 then (wJ0 (decide (b<a)),0) else if k=15 then (wJ0 (decide (b≤a)),0) else (wJ0 (!decide (b=0)),0)
theorem mX1 (k a b:Int):jI (pp G) H0 66 [.int .i64 k,.int .i64 a,.int .i64 b] (t2 (twoF k a b)):=by
 refine cE G fir66 (by kernel_rfl) (jZ2 ..) fun hlo=>?_;rw[oG1]
 by_cases h1:k=5
 ·rw[twoF,if_pos h1]
  simp(disch:=first|omega|(apply id;simp only[push_cast];try omega))only[push_cast,simprocAttr,h1];refine dK (mul_f G a b) ?_;simp(disch:=first|omega|(apply id;simp only[push_cast];try omega))only[push_cast,simprocAttr];exact .id rfl
 by_cases h2:k=6
 ·rw[twoF,if_neg h1,if_pos h2]
  simp(disch:=first|omega|(apply id;simp only[push_cast];try omega))only[push_cast,simprocAttr,h1,h2];refine dK (div_f G a b) ?_;simp(disch:=first|omega|(apply id;simp only[push_cast];try omega))only[push_cast,simprocAttr];exact .id rfl
 by_cases h3:k=7
 ·rw[twoF,if_neg h1,if_neg h2,if_pos h3]
  simp(disch:=first|omega|(apply id;simp only[push_cast];try omega))only[push_cast,simprocAttr,h1,h2,h3];refine dK (rem_f G a b) ?_;simp(disch:=first|omega|(apply id;simp only[push_cast];try omega))only[push_cast,simprocAttr];exact .id rfl
 by_cases h4:k=8
 ·rw[twoF,if_neg h1,if_neg h2,if_neg h3,if_pos h4]
  simp(disch:=first|omega|(apply id;simp only[push_cast];try omega))only[push_cast,simprocAttr,h1,h2,h3,h4];refine dK (add_f G a b) ?_;simp(disch:=first|omega|(apply id;simp only[push_cast];try omega))only[push_cast,simprocAttr];exact .id rfl
 by_cases h5:k=9
 ·rw[twoF,if_neg h1,if_neg h2,if_neg h3,if_neg h4,if_pos h5]
  simp(disch:=first|omega|(apply id;simp only[push_cast];try omega))only[push_cast,simprocAttr,h1,h2,h3,h4,h5];refine dK (uO2 G a b) ?_;simp(disch:=first|omega|(apply id;simp only[push_cast];try omega))only[push_cast,simprocAttr];exact .id rfl
 by_cases h6:k=10
 ·rw[twoF,if_neg h1,if_neg h2,if_neg h3,if_neg h4,if_neg h5,if_pos h6]
  simp(disch:=first|omega|(apply id;simp only[push_cast];try omega))only[push_cast,simprocAttr,h1,h2,h3,h4,h5,h6];refine dK (qF0 G (decide (a=b))) ?_;simp(disch:=first|omega|(apply id;simp only[push_cast];try omega))only[push_cast,simprocAttr];exact .id rfl
 by_cases h7:k=11
 ·rw[twoF,if_neg h1,if_neg h2,if_neg h3,if_neg h4,if_neg h5,if_neg h6,if_pos h7]
  simp(disch:=first|omega|(apply id;simp only[push_cast];try omega))only[push_cast,simprocAttr,h1,h2,h3,h4,h5,h6,h7];refine dK (qF0 G (!decide (a=b))) ?_;simp(disch:=first|omega|(apply id;simp only[push_cast];try omega))only[push_cast,simprocAttr];exact .id rfl
 by_cases h8:k=12
 ·rw[twoF,if_neg h1,if_neg h2,if_neg h3,if_neg h4,if_neg h5,if_neg h6,if_neg h7,if_pos h8]
  simp(disch:=first|omega|(apply id;simp only[push_cast];try omega))only[push_cast,simprocAttr,h1,h2,h3,h4,h5,h6,h7,h8];refine dK (qF0 G (decide (a<b))) ?_;simp(disch:=first|omega|(apply id;simp only[push_cast];try omega))only[push_cast,simprocAttr];exact .id rfl
 by_cases h9:k=13
 ·rw[twoF,if_neg h1,if_neg h2,if_neg h3,if_neg h4,if_neg h5,if_neg h6,if_neg h7,if_neg h8,if_pos h9]
  simp(disch:=first|omega|(apply id;simp only[push_cast];try omega))only[push_cast,simprocAttr,h1,h2,h3,h4,h5,h6,h7,h8,h9];refine dK (qF0 G (decide (a≤b))) ?_;simp(disch:=first|omega|(apply id;simp only[push_cast];try omega))only[push_cast,simprocAttr];exact .id rfl
 by_cases h10:k=14
 ·rw[twoF,if_neg h1,if_neg h2,if_neg h3,if_neg h4,if_neg h5,if_neg h6,if_neg h7,if_neg h8,if_neg h9,if_pos h10]
  simp(disch:=first|omega|(apply id;simp only[push_cast];try omega))only[push_cast,simprocAttr,h1,h2,h3,h4,h5,h6,h7,h8,h9,h10];refine dK (qF0 G (decide (b<a))) ?_;simp(disch:=first|omega|(apply id;simp only[push_cast];try omega))only[push_cast,simprocAttr];exact .id rfl
 by_cases h11:k=15
 ·rw[twoF,if_neg h1,if_neg h2,if_neg h3,if_neg h4,if_neg h5,if_neg h6,if_neg h7,if_neg h8,if_neg h9,if_neg h10,if_pos h11]
  simp(disch:=first|omega|(apply id;simp only[push_cast];try omega))only[push_cast,simprocAttr,h1,h2,h3,h4,h5,h6,h7,h8,h9,h10,h11];refine dK (qF0 G (decide (b≤a))) ?_;simp(disch:=first|omega|(apply id;simp only[push_cast];try omega))only[push_cast,simprocAttr];exact .id rfl
 rw[twoF,if_neg h1,if_neg h2,if_neg h3,if_neg h4,if_neg h5,if_neg h6,if_neg h7,if_neg h8,if_neg h9,if_neg h10,if_neg h11]
 simp(disch:=first|omega|(apply id;simp only[push_cast];try omega))only[push_cast,simprocAttr,h1,h2,h3,h4,h5,h6,h7,h8,h9,h10,h11];refine dK (qF0 G (!decide (b=0))) ?_;simp(disch:=first|omega|(apply id;simp only[push_cast];try omega))only[push_cast,simprocAttr];exact .id rfl
end
end Go.Proofs.YtdcjpmjmjinjmaaDoor
namespace Go.Proofs.YtdcjpmjmjinjmaaDoor
open Go Go.RowKit Go.Ev Go.Dv
noncomputable section
set_option maxRecDepth 100000
variable (G:Nat×Nat)
mutual
def qY (vars:List Int):Ex→Int×Int
 | .mk k n s l=>if k=1 then (n,0) else if k=2 then (vars.getD n.toNat 0,0) else
  match dV1 vars l with
  | []=>(0,0)
  | a :: r=>if a.2≠0 then (0,a.2) else if l.length=1 then oneF k a.1 else if k=16∧a.1=0 then (0,0) else if k=17∧a.1≠0 then (1,0) else
   match r with
   | []=>(0,0)
   | b :: _=>if b.2≠0 then (0,b.2) else twoF k a.1 b.1
def dV1 (vars:List Int):List Ex→List (Int×Int)
 | []=>[]
 | x :: l=>qY vars x :: dV1 vars l
end
theorem tU1 {vars:List Int} {k n:Int} {s:List UInt8} {a:Ex} (h1:¬ k=1) (h2:¬ k=2):qY vars (.mk k n s [a])=if (qY vars a).2=0 then oneF k (qY vars a).1 else (0,(qY vars a).2):=by
 rw[qY,if_neg h1,if_neg h2]
 simp only[dV1,List.length_cons,List.length_nil,if_true,ne_eq,ite_not]
theorem tT1 {vars:List Int} {k n:Int} {s:List UInt8} {a b:Ex} (h1:¬ k=1) (h2:¬ k=2):qY vars (.mk k n s [a,b])=if (qY vars a).2=0 then (if k=16∧(qY vars a).1=0 then (0,0) else if k=17∧(qY vars a).1≠0 then (1,0) else
   if (qY vars b).2=0 then twoF k (qY vars a).1 (qY vars b).1 else (0,(qY vars b).2)) else (0,(qY vars a).2):=by
 rw[qY,if_neg h1,if_neg h2]
 simp only[dV1,List.length_cons,List.length_nil,ne_eq,ite_not,Nat.reduceAdd,Nat.reduceEqDiff,if_false]
theorem mD1 (vars:List Int):∀ x:Ex,wP vars.length x=true→jI (pp G) H0 52 [exV x,ivV vars] (t2 (qY vars x))
 | .mk k n s l,hr=>by
  have ih:∀ x∈l,wP vars.length x=true→jI (pp G) H0 52 [exV x,ivV vars] (t2 (qY vars x)):=fun x hx h=>mD1 vars x h
  simp only[wP,Bool.and_eq_true] at hr
  obtain ⟨⟨hr1,hr2⟩,hr3⟩:=hr
  have hall:=zT0 hr3
  refine cE G fir52 (by kernel_rfl) (bE1 ..) fun hlo=>?_;rw[oU1]
  unfold exV exC
  by_cases h1:k=1
  ·rw[qY,if_pos h1]
   simp(disch:=first|omega|(apply id;simp only[push_cast];try omega))only[push_cast,simprocAttr,h1]
   exact .id rfl
  by_cases h2:k=2
  ·rw[qY,if_neg h1,if_pos h2]
   have hn:0≤n∧n<vars.length:=by
    rw[if_neg (fun h=>h1 h.1)] at hr1
    by_cases hx:k=2∧0≤n∧n<vars.length
    ·exact hx.2
    ·rw[if_neg hx,if_neg (by omega),if_neg (by omega)] at hr1
     cases hr1
   have hp:=dH1 (l:=vars) (i:=n.toNat) (by omega)
   unfold ivV
   simp(disch:=first|omega|(apply id;simp only[push_cast];try omega))only[push_cast,simprocAttr,h1,h2,hp]
   exact .id rfl
  rw[if_neg (fun h=>h1 h.1),if_neg (fun h=>h2 h.1)] at hr1
  by_cases h3:k=3∨k=4
  ·rw[if_pos h3,decide_eq_true_eq] at hr1
   obtain ⟨a,rfl⟩:∃ a,l=[a]:=List.length_eq_one_iff.1 hr1.1
   have ha:=ih a (by simp) (hall a (by simp))
   rw[tU1 h1 h2]
   simp(disch:=first|omega|(apply id;simp only[push_cast];try omega))only[push_cast,simprocAttr,h1,h2]
   refine dK (ha) ?_
   by_cases h4:(qY vars a).2=0
   ·rw[if_pos h4]
    simp(disch:=first|omega|(apply id;simp only[push_cast];try omega))only[push_cast,simprocAttr,h4]
    refine dK (one_f G k (qY vars a).1) ?_
    simp(disch:=first|omega|(apply id;simp only[push_cast];try omega))only[push_cast,simprocAttr]
    exact .id rfl
   ·rw[if_neg h4]
    simp(disch:=first|omega|(apply id;simp only[push_cast];try omega))only[push_cast,simprocAttr,h4]
    exact .id rfl
  ·have hbd : 5 ≤ k ∧ k ≤ 17 := by
    rw[if_neg h3] at hr1
    by_cases hx:5≤k∧k≤17
    ·exact hx
    ·rw[if_neg hx] at hr1;cases hr1
   rw[if_neg h3,if_pos hbd,decide_eq_true_eq] at hr1
   obtain ⟨a,b,rfl⟩:∃ a b,l=[a,b]:=by
    match l,hr1.1 with
    | [a,b],_=>exact ⟨a,b,rfl⟩
   have ha:=ih a (by simp) (hall a (by simp))
   have hb:=ih b (by simp) (hall b (by simp))
   rw[tT1 h1 h2]
   simp(disch:=first|omega|(apply id;simp only[push_cast];try omega))only[push_cast,simprocAttr,h1,h2]
   refine dK (ha) ?_
   by_cases h4:(qY vars a).2=0
   ·rw[if_pos h4]
    by_cases h5:k=16∧(qY vars a).1=0
    ·rw[if_pos h5]
     obtain ⟨h5,h6⟩:=h5
     simp(disch:=first|omega|(apply id;simp only[push_cast];try omega))only[push_cast,simprocAttr,h4,h5,h6]
     exact .id rfl
    rw[if_neg h5]
    by_cases h6:k=17∧(qY vars a).1≠0
    ·rw[if_pos h6]
     obtain ⟨h6,h7⟩:=h6
     simp(disch:=first|omega|(apply id;simp only[push_cast];try omega))only[push_cast,simprocAttr,h4,h6,h7]
     exact .id rfl
    rw[if_neg h6]
    have key:∀ (K:Value→jA→Prop),True:=fun _=>trivial
    by_cases h8:k=16
    ·have h9:¬ (qY vars a).1=0:=fun h=>h5 ⟨h8,h⟩
     subst h8
     simp(disch:=first|omega|(apply id;simp only[push_cast];try omega))only[push_cast,simprocAttr,h4,h9]
     refine dK (hb) ?_
     by_cases h10:(qY vars b).2=0
     ·rw[if_pos h10];simp(disch:=first|omega|(apply id;simp only[push_cast];try omega))only[push_cast,simprocAttr,h10];refine dK (mX1 G 16 (qY vars a).1 (qY vars b).1) ?_;simp(disch:=first|omega|(apply id;simp only[push_cast];try omega))only[push_cast,simprocAttr];exact .id rfl
     ·rw[if_neg h10];simp(disch:=first|omega|(apply id;simp only[push_cast];try omega))only[push_cast,simprocAttr,h10];exact .id rfl
    by_cases h9:k=17
    ·have h9':(qY vars a).1=0:=Classical.byContradiction fun h=>h6 ⟨h9,h⟩
     subst h9
     simp(disch:=first|omega|(apply id;simp only[push_cast];try omega))only[push_cast,simprocAttr,h4,h9']
     refine dK (hb) ?_
     by_cases h10:(qY vars b).2=0
     ·rw[if_pos h10];simp(disch:=first|omega|(apply id;simp only[push_cast];try omega))only[push_cast,simprocAttr,h10];refine dK (mX1 G 17 0 (qY vars b).1) ?_;simp(disch:=first|omega|(apply id;simp only[push_cast];try omega))only[push_cast,simprocAttr,h9'];exact .id rfl
     ·rw[if_neg h10];simp(disch:=first|omega|(apply id;simp only[push_cast];try omega))only[push_cast,simprocAttr,h10];exact .id rfl
    simp(disch:=first|omega|(apply id;simp only[push_cast];try omega))only[push_cast,simprocAttr,h4,h8,h9]
    refine dK (hb) ?_
    by_cases h10:(qY vars b).2=0
    ·rw[if_pos h10];simp(disch:=first|omega|(apply id;simp only[push_cast];try omega))only[push_cast,simprocAttr,h10];refine dK (mX1 G k (qY vars a).1 (qY vars b).1) ?_;simp(disch:=first|omega|(apply id;simp only[push_cast];try omega))only[push_cast,simprocAttr];exact .id rfl
    ·rw[if_neg h10];simp(disch:=first|omega|(apply id;simp only[push_cast];try omega))only[push_cast,simprocAttr,h10];exact .id rfl
   ·rw[if_neg h4]
    simp(disch:=first|omega|(apply id;simp only[push_cast];try omega))only[push_cast,simprocAttr,h4]
    exact .id rfl
 termination_by x=>SizeOf.sizeOf x
theorem kY2 (vars:List Int) (x:Ex) (hs:smE x=true) (hl:vars.length<1000000000) (hr:wP vars.length x=true):jI (pp G) H0 33 [exV x,ivV vars] (t2 (qY vars x)):=by
 refine cE G kT2 (by kernel_rfl) (eJ0 ..) fun hlo=>?_;rw[uC1]
 unfold ivV
 simp(disch:=first|omega|(apply id;simp only[push_cast];try omega))only[push_cast,simprocAttr]
 refine dK (yW0 G vars.length x hs) ?_
 simp(disch:=first|omega|(apply id;simp only[push_cast];try omega))only[push_cast,simprocAttr,hr]
 refine dK (mD1 G vars x hr) ?_
 simp(disch:=first|omega|(apply id;simp only[push_cast];try omega))only[push_cast,simprocAttr]
 exact .id rfl
theorem kZ2 (vars:List Int) (x:Ex) (hs:smE x=true) (hl:vars.length<1000000000) (hr:wP vars.length x=false):jI (pp G) H0 33 [exV x,ivV vars] (t2 (0,4)):=by
 refine cE G kT2 (by kernel_rfl) (eJ0 ..) fun hlo=>?_;rw[uC1]
 unfold ivV
 simp(disch:=first|omega|(apply id;simp only[push_cast];try omega))only[push_cast,simprocAttr]
 refine dK (yW0 G vars.length x hs) ?_
 simp(disch:=first|omega|(apply id;simp only[push_cast];try omega))only[push_cast,simprocAttr,hr]
 exact .id rfl
def evF (vars:List Int) (x:Ex):Int×Int:=if wP vars.length x=true then qY vars x else (0,4)
theorem ev_f (vars:List Int) (x:Ex) (hs:smE x=true) (hl:vars.length<1000000000):jI (pp G) H0 33 [exV x,ivV vars] (t2 (evF vars x)):=by
 unfold evF
 split
 ·exact kY2 G vars x hs hl (by assumption)
 ·exact kZ2 G vars x hs hl (by simpa using ‹¬ wP vars.length x=true›)
end
end Go.Proofs.YtdcjpmjmjinjmaaDoor
namespace Go.Dv
open Go Go.RowKit Go.Ev
noncomputable section
theorem gP1 {p:Par} {ro:Option Nat} {b c:Code} {s:S} {R R':jL→S→Prop} (h:WPin p ro b c s R) (hR:∀ e s',R e s'→R' e s'):WPin p ro b c s R':=
 fun hokb hokc Γ ca w hst F n Q hF hro hl hQ=>h hokb hokc Γ ca w hst F n Q hF hro hl fun e s1 Γ1 ca1 w1 hr=>hQ e s1 Γ1 ca1 w1 (hR e s1 hr)
def sM0 (l:Nat) (B:S→Prop) (R:jL→S→Prop) (e:jL) (s:S):Prop:=match e with | .goto k=>k=l∧B s|e=>R e s
theorem kR_Gg {l k:Nat} {B:S→Prop} {R:jL→S→Prop} {s:S}:@kR ⟨sM0 l B R⟩ (.goto k) s=(k=l∧B s):=propext Iff.rfl
theorem kR_Gr {l:Nat} {B:S→Prop} {R:jL→S→Prop} {s:S}:@kR ⟨sM0 l B R⟩ .ret s=R .ret s:=propext Iff.rfl
attribute [push_cast] kR_Gg kR_Gr
theorem WinD.start {p:Par} {q:Q} (jX:uE0 p) {ro:Option Nat} {b c rest:Code} {l:Nat} {ir:IR} {D:S} {R:jL→S→Prop} {B:S→Prop} (hf:findLabel b l=some rest) (hc:comp p.P c=ir) (hok:gS p.NG ir=true)
  (h:dc3 p q ro ir D (@kR ⟨sM0 l B R⟩)) (hB:∀ s,B s→WinD p q.H ro b rest s R):WinD p q.H ro b c D R:=by
 intro g s hP hNG hs hro
 rw[jM0] at h
 have h1:=jL0 ir hok hP hNG hs hro h
 refine yP0 jX hc (uN _ _ _ _ (fun e s1 hA=>?_) h1)
 obtain ⟨g',D',hd,x,r⟩:=hA
 change sM0 l B R e D' at hd
 cases e with
 | goto k=>
  obtain ⟨rfl,hI'⟩:=hd
  unfold yV0
  dsimp only
  rw[hf]
  have h2:=hB D' hI' g' s1 (x.ok hP) (by rw[x.lo];exact hNG) r (fun l e=>Nat.lt_of_lt_of_le (hro l e) x.nn)
  rw[uU1 x hro] at h2
  exact gP1 h2 fun e s' hA=>RA.of x hA
 | normal=>exact ⟨g',D',hd,x,r⟩
 | exit i=>exact ⟨g',D',hd,x,r⟩
 | ret=>exact ⟨g',D',hd,x,r⟩
theorem WinD.round {p:Par} {q:Q} (jX:uE0 p) {ro:Option Nat} {b c:Code} {l:Nat} {ir:IR} {R:jL→S→Prop} (hf:findLabel b l=some c) (hc:comp p.P c=ir) (hok:gS p.NG ir=true) (I:Nat→S→Prop)
  (h:∀ n s,I n s→dc3 p q ro ir s (@kR ⟨sM0 l (fun s'=>∃ m,m<n∧I m s') R⟩)):∀ n s,I n s→WinD p q.H ro b c s R:=by
 intro n
 induction n using Nat.strongRecOn with
 | ind n ih=>exact fun s hI=>WinD.start jX hf hc hok (h n s hI) fun s' ⟨m,hm,hI'⟩=>ih m hm s' hI'
end
end Go.Dv
namespace Go.Proofs.YtdcjpmjmjinjmaaDoor
open Go Go.RowKit Go.Ev Go.Dv
noncomputable section
set_option maxRecDepth 100000
variable (G:Nat×Nat)
def blkR:Tm→List Int→List Int→List Int→List Int
 | x,[],r,k=>if x.k=7 then r else k
 | x,i :: p,r,k=>blkR (atT x [i]) p (r++[i]) (if x.k=7 then r else k)
structure AtP (σ:jA) (b off lo hi:Nat) (full:List Value) (ty:Nat) (t:Tm) (r:List Int) (bq oq lq hq:Nat) (fq:List Value) (tq:Nat) (x:Tm) (cx:List Value):Prop where
 l:LocT σ bq oq lq hq fq tq x cx
 x:x=atT t r
 a:kF t r
 w:Wr Tryd.prog lo (fun k=>k≠b∧(k<lo∨hi≤k)) σ b off full ty t r bq oq lq hq fq tq
 pos:0<lo
 bi:bq=b∨(lo≤bq∧bq<hi)
 hh:hq≤hi
 lo:lo≤lq
theorem AtP.root {σ:jA} {b off lo hi:Nat} {full:List Value} {ty:Nat} {t:Tm} {c:List Value} (h:LocT σ b off lo hi full ty t c) (hlo:1≤lo):AtP σ b off lo hi full ty t [] b off lo hi full ty t c:=
 ⟨h,by cases t;rfl,.nil,Wr.self (lo:=lo) (hi:=hi),hlo,.inl rfl,Nat.le_refl _,Nat.le_refl _⟩
theorem AtP.k {σ:jA} {b off lo hi:Nat} {full:List Value} {ty:Nat} {t:Tm} {r:List Int} {bq oq lq hq:Nat} {fq:List Value} {tq:Nat} {x:Tm} {cx:List Value} (h:AtP σ b off lo hi full ty t r bq oq lq hq fq tq x cx):fq[oq]?=some (.int .i64 x.k)∧∀ j v,cx[j]?=some v→fq[oq+j]?=some v:=by
 have hg:∀ j v,cx[j]?=some v→fq[oq+j]?=some v:=fun j v hj=>by
  rw[← h.l.le,List.getElem?_take,List.getElem?_drop] at hj
  split at hj
  ·exact hj
  ·cases hj
 refine ⟨?_,hg⟩
 have h0:cx[0]?=some (.int .i64 x.k):=by
  cases h.l.lt with
  | leaf=>exact wL0 _
  | blk=>rfl
  | seq=>rfl
  | par=>rfl
 exact hg 0 _ h0
theorem uB0:∀ (t:Tm) (p q:List Int),kF t p→atT t (p++q)=atT (atT t p) q
 | t,[],q,_=>by cases t;rfl
 | .mk k a b s e l,i :: p,q,h=>by
  cases h with
  | blk h=>exact uB0 _ p q h
  | seq h=>exact uB0 _ p q h
  | parl h=>exact uB0 _ p q h
  | parr h=>exact uB0 _ p q h
theorem kF.app:∀ {t:Tm} {p q:List Int},kF t p→kF (atT t p) q→kF t (p++q)
 | t,[],q,_,h=>by cases t;exact h
 | _,_ :: _,_,.blk h,h2=>.blk (h.app h2)
 | _,_ :: _,_,.seq h,h2=>.seq (h.app h2)
 | _,_ :: _,_,.parl h,h2=>.parl (h.app h2)
 | _,_ :: _,_,.parr h,h2=>.parr (h.app h2)
def mQ1 (bq oq lq hq bk ok lk hk:Nat):Prop:=((bq=bk∧oq=ok)∨(lk≤bq∧bq<hk))∧lk≤lq∧hq≤hk
def PlR (σ:jA) (b off lo hi:Nat) (full:List Value) (ty:Nat) (t:Tm) (r k:List Int) (vh vk:Value):Prop:=
 ∃ bq oq lq hq fq tq x cx bk ok lk hk fk tk xk ck,vh=.pointer (some ⟨bq,oq,none⟩)∧vk=.pointer (some ⟨bk,ok,none⟩)∧AtP σ b off lo hi full ty t r bq oq lq hq fq tq x cx∧AtP σ b off lo hi full ty t k bk ok lk hk fk tk xk ck∧mQ1 bq oq lq hq bk ok lk hk
inductive J85 (σ:jA) (b off lo hi:Nat) (full:List Value) (ty:Nat) (t:Tm) (p:List Int) (K:List Int):Nat→S→Prop
 | mk (q r k:List Int) (f:Bool) (vh vk:Value) {x0 x2 x3 x6 x7 x8 x9 xA xB xC xD xE xF xG xH xI xJ xK xL xM xN xO xP xQ xR xS:Value} (hp:r++q=p) (hk:blkR (atT t r) q r k=K) (ha:kF (atT t r) q) (h:PlR σ b off lo hi full ty t r k vh vk) :
  J85 σ b off lo hi full ty t p K q.length ⟨(F29 x0 (Rw f eI q.length (ivs q)) x2 x3 vh vk x6 x7 x8 x9 xA xB xC xD xE xF xG xH xI xJ xK xL xM xN xO xP xQ xR xS),[],σ⟩
theorem PlR.step {σ:jA} {b off lo hi:Nat} {full:List Value} {ty:Nat} {t:Tm} {r k:List Int} {i:Int} {q:List Int} {bq oq lq hq:Nat} {fq:List Value} {tq:Nat} {x:Tm} {cx:List Value} {bk ok lk hk:Nat} {fk:List Value} {tk:Nat} {xk:Tm} {ck:List Value}
  (h:AtP σ b off lo hi full ty t r bq oq lq hq fq tq x cx) (h2:AtP σ b off lo hi full ty t k bk ok lk hk fk tk xk ck) (hb:mQ1 bq oq lq hq bk ok lk hk) (ha:kF (atT t r) (i :: q)) :
  ∃ (b1 m:Nat),cx[8]?=some (.slice (some ⟨b1,0,none⟩) m m)∧0≤i∧i<m∧PlR σ b off lo hi full ty t (r++[i]) k (.pointer (some ⟨b1,i.toNat*9,none⟩)) (.pointer (some ⟨bk,ok,none⟩))∧kF (atT t (r++[i])) q:=by
 have ha':=ha
 rw[← h.x] at ha'
 obtain ⟨b1,m,lo1,hi1,full1,y,cy,e1,e2,e3,e4,e5,e6,e7,e8,e9,e10,e11,e12,e13⟩:=h.l.step (P:=Tryd.prog) rfl h.pos (O:=fun k=>k≠b∧(k<lo∨hi≤k)) (fun k hk=>by have g1:=h.bi;have g2:=h.hh;have g3:=h.lo;obtain ⟨g4,g5⟩:=hk;exact ⟨by omega,by omega⟩) h.lo ha'
 have hat:atT t (r++[i])=y:=by rw[uB0 _ _ _ h.a,← h.x,e5]
 refine ⟨b1,m,e1,e2,e3,⟨b1,_,lo1,hi1,full1,etm,y,cy,bk,ok,lk,hk,fk,tk,xk,ck,rfl,rfl,⟨e7,hat.symm,h.a.app (by rw[← h.x];exact e6),?_,h.pos,.inr ⟨by have:=h.lo;omega,by have:=h.hh;omega⟩,by have:=h.hh;omega,by have:=h.lo;omega⟩,h2,?_⟩,by rw[hat];exact e13⟩
 ·exact Wr.trans h.a h.w (by rw[← h.x];exact e12) (.inr ⟨e9,e10⟩) e8 e11
 ·obtain ⟨g1,g2,g3⟩:=hb
  exact ⟨.inr ⟨by omega,by omega⟩,by omega,by omega⟩
theorem yG0 {σ:jA} {b off lo hi:Nat} {full:List Value} {ty:Nat} {t:Tm} {p K:List Int} (hl:σ.lo=1) (hn:1≤σ.next) (q r k:List Int) (f:Bool) (vh vk:Value) {x0 x2 x3 x6 x7 x8 x9 xA xB xC xD xE xF xG xH xI xJ xK xL xM xN xO xP xQ xR xS:Value} (hpl:p.length<1000000000) (hp:r++q=p) (ha:kF (atT t r) q) (h:PlR σ b off lo hi full ty t r k vh vk)
  (hk:match q with|[]=>k=K|i :: q'=>blkR (atT t (r++[i])) q' (r++[i]) k=K) (B:S→Prop) (hB:∀ s',(∃ m,m<q.length∧J85 σ b off lo hi full ty t p K m s')→B s') (R:Value→jA→Prop) (hR:∀ vh vk,PlR σ b off lo hi full ty t p K vh vk→R (.tuple ⟨[vh,vk]⟩) σ) :
  dc3 (pp G) qq none zY0 ⟨(F29 x0 (Rw f eI q.length (ivs q)) x2 x3 vh vk x6 x7 x8 x9 xA xB xC xD xE xF xG xH xI xJ xK xL xM xN xO xP xQ xR xS),[],σ⟩ (@kR ⟨sM0 0 B (jH Tryd.prog [(.tmp 4),(.tmp 5)] R)⟩):=by
 rw[rR0]
 cases q with
 | nil=>
  rw[List.append_nil] at hp
  subst hp
  have hk:k=K:=hk
  subst hk
  simp(disch:=first|omega|(apply id;simp only[push_cast];try omega))only[push_cast,simprocAttr,List.length_nil]
  exact hR vh vk h
 | cons i q=>
  have hk:blkR (atT t (r++[i])) q (r++[i]) k=K:=hk
  obtain ⟨bq,oq,lq,hq,fq,tq,x,cx,bk,ok,lk,hhk,fk,tk,xk,ck,rfl,rfl,h1,h2,hb⟩:=h
  obtain ⟨b1,m,e1,e2,e3,e4,e5⟩:=PlR.step h1 h2 hb ha
  have hg:=h1.k.2 8 _ e1
  have hcq:=h1.l.lc
  have hlo:σ.lo≤bq:=by have:=h1.lo;have:=h1.l.lp;have:=h1.l.lt.le;omega
  have hql:q.length<1000000000:=by rw[← hp,List.length_append,List.length_cons] at hpl;omega
  have hne:¬ ((q.length:Int)+1=0):=by omega
  have hi0:(ivs (i :: q))[0]?=some (.int .i64 i):=rfl
  have hiv:(ivs (i :: q)).length=(q.length+1)*1:=by rw[kG];simp
  have hd1:(ivs (i :: q)).drop 1=ivs q:=rfl
  simp(disch:=first|omega|(apply id;simp only[push_cast];try omega))only[push_cast,simprocAttr,List.length_cons,hne,hcq,hlo,hg,hi0,hiv,hd1,e2,e3]
  exact hB _ ⟨q.length,by simp,J85.mk q (r++[i]) k f _ _ (by rw[List.append_assoc];exact hp) hk e5 e4⟩
theorem PlR.blk {σ:jA} {b off lo hi:Nat} {full:List Value} {ty:Nat} {t:Tm} {r:List Int} {bq oq lq hq:Nat} {fq:List Value} {tq:Nat} {x:Tm} {cx:List Value} (h:AtP σ b off lo hi full ty t r bq oq lq hq fq tq x cx):PlR σ b off lo hi full ty t r r (.pointer (some ⟨bq,oq,none⟩)) (.pointer (some ⟨bq,oq,none⟩)):=
 ⟨bq,oq,lq,hq,fq,tq,x,cx,bq,oq,lq,hq,fq,tq,x,cx,rfl,rfl,h,h,.inl ⟨rfl,rfl⟩,Nat.le_refl _,Nat.le_refl _⟩
theorem rQ1 {σ:jA} {b off lo hi:Nat} {full:List Value} {ty:Nat} {t:Tm} {c:List Value} (hL:LocT σ b off lo hi full ty t c) (hlo:1≤lo) (hl:σ.lo=1) (p:List Int) (f:Bool) (hpl:p.length<1000000000) (ha:kF t p) :
  jO (pp G) H0 32 [.pointer (some ⟨b,off,none⟩),Rw f eI p.length (ivs p)] σ (fun v σ'=>σ'=σ∧∃ vh vk,v=.tuple ⟨[vh,vk]⟩∧PlR σ b off lo hi full ty t p (blkR t p [] []) vh vk):=by
 have hn:1≤σ.next:=by have:=hL.ln;have:=hL.lp;have:=hL.lt.le;omega
 have h0:=AtP.root hL hlo
 refine jO.fir4 (q:=qq) (jX G) fir32 (by kernel_rfl) rfl rfl (bE0 ..) (by first|exact Nat.le_trans (show NGG≤1 by decide) (by omega)) ?_;rw[pM1]
 simp(disch:=first|omega|(apply id;simp only[push_cast];try omega))only[push_cast,simprocAttr]
 refine WinD.start (q:=qq) (jX G) zS2 eH1 (by kernel_rfl) (B:=fun s=>∃ n,J85 σ b off lo hi full ty t p (blkR t p [] []) n s) ?_ (fun s ⟨n,hI⟩=>WinD.round (q:=qq) (jX G) zS2 eG1 (by kernel_rfl) (J85 σ b off lo hi full ty t p (blkR t p [] [])) ?_ n s hI)
 ·rw[uE1]
  have hk0:=h0.k.1
  have hc0:=h0.l.lc
  have hlo0:σ.lo≤b:=by have:=hL.lp;have:=hL.lt.le;omega
  have hat:kF (atT t []) p:=by cases t;exact ha
  by_cases h7:t.k=7
  ·simp(disch:=first|omega|(apply id;simp only[push_cast];try omega))only[push_cast,simprocAttr,hc0,hlo0,hk0,h7]
   refine yG0 G (σ:=σ) (b:=b) (off:=off) (lo:=lo) (hi:=hi) (full:=full) (ty:=ty) (t:=t) (K:=blkR t p [] []) hl hn p [] [] f _ _ hpl rfl hat (PlR.blk h0) ?_ _ (fun s' ⟨m,_,h⟩=>⟨m,h⟩) _ (fun vh vk h=>⟨rfl,vh,vk,rfl,h⟩)
   cases p with
   | nil=>simp[blkR]
   | cons i q=>simp[blkR]
  ·simp(disch:=first|omega|(apply id;simp only[push_cast];try omega))only[push_cast,simprocAttr,hc0,hlo0,hk0,h7]
   refine yG0 G (σ:=σ) (b:=b) (off:=off) (lo:=lo) (hi:=hi) (full:=full) (ty:=ty) (t:=t) (K:=blkR t p [] []) hl hn p [] [] f _ _ hpl rfl hat (PlR.blk h0) ?_ _ (fun s' ⟨m,_,h⟩=>⟨m,h⟩) _ (fun vh vk h=>⟨rfl,vh,vk,rfl,h⟩)
   cases p with
   | nil=>simp[blkR]
   | cons i q=>simp[blkR]
 ·intro n s hI
  cases hI with|mk q r k f vh vk hp hk ha h=>
  obtain ⟨bq,oq,lq,hq,fq,tq,x,cx,bk,ok,lk,hhk,fk,tk,xk,ck,rfl,rfl,h1,h2,hb⟩:=h
  rw[uD1]
  have hk0:=h1.k.1
  have hc0:=h1.l.lc
  have hlo0:σ.lo≤bq:=by have:=h1.lo;have:=h1.l.lp;have:=h1.l.lt.le;omega
  by_cases h7:x.k=7
  ·simp(disch:=first|omega|(apply id;simp only[push_cast];try omega))only[push_cast,simprocAttr,hc0,hlo0,hk0,h7]
   refine yG0 G (σ:=σ) (b:=b) (off:=off) (lo:=lo) (hi:=hi) (full:=full) (ty:=ty) (t:=t) (K:=blkR t p [] []) hl hn q r r f _ _ hpl hp ha (PlR.blk h1) ?_ _ (fun s' h=>h) _ (fun vh vk h=>⟨rfl,vh,vk,rfl,h⟩)
   rw[← h1.x] at hk
   cases q with
   | nil=>rw[blkR,if_pos h7] at hk;exact hk
   | cons i q=>rw[blkR,if_pos h7,h1.x,← uB0 _ _ _ h1.a] at hk;exact hk
  ·simp(disch:=first|omega|(apply id;simp only[push_cast];try omega))only[push_cast,simprocAttr,hc0,hlo0,hk0,h7]
   refine yG0 G (σ:=σ) (b:=b) (off:=off) (lo:=lo) (hi:=hi) (full:=full) (ty:=ty) (t:=t) (K:=blkR t p [] []) hl hn q r k f _ _ hpl hp ha ⟨bq,oq,lq,hq,fq,tq,x,cx,bk,ok,lk,hhk,fk,tk,xk,ck,rfl,rfl,h1,h2,hb⟩ ?_ _ (fun s' h=>h) _ (fun vh vk h=>⟨rfl,vh,vk,rfl,h⟩)
   rw[← h1.x] at hk
   cases q with
   | nil=>rw[blkR,if_neg h7] at hk;exact hk
   | cons i q=>rw[blkR,if_neg h7,h1.x,← uB0 _ _ _ h1.a] at hk;exact hk
theorem yX1 {σ:jA} {bg lo m:Nat} {t:Tm} {cs:List Value} {p q r s:Value} (hc:cells σ bg=some (cs++[p,q,r,s],35,false)) (hN:NTs σ lo m t cs) (hb:0<bg) (hbl:bg<lo∨m≤bg) (hm:m≤σ.next) (hbn:bg<σ.next):LocT σ bg 0 lo m (cs++[p,q,r,s]) 35 t cs:=
 ⟨hc,by rw[eC0 hN.len];decide,hbl,hbn,by rw[List.drop_zero,yM2 hN.len],hN,hb,hm⟩
mutual
theorem dS0 {P:Program} {n:Nat} {σ σ':jA} (hk:∀ i x,n≤i→cells σ i=some x→cells σ' i=some x):∀ {v d:Value},FzV P n σ v d→FzV P n σ' v d
 | _,_,.id h=>.id h
 | _,_,.nil hs hp=>.nil hs hp
 | _,_,.sl hlo hc hs hp hle hcap hd=>.sl hlo (hk _ _ hlo hc) hs hp hle hcap (uY hk hd)
 | _,_,.ptr hlo hc hlt hd=>.ptr hlo (hk _ _ hlo hc) hlt (uY hk hd)
 | _,_,.row hd=>.row (uY hk hd)
 | _,_,.agg hd=>.agg (uY hk hd)
 | _,_,.tup hd=>.tup (uY hk hd)
 | _,_,.fn hd=>.fn (uY hk hd)
theorem uY {P:Program} {n:Nat} {σ σ':jA} (hk:∀ i x,n≤i→cells σ i=some x→cells σ' i=some x):∀ {v d:List Value},FzL P n σ v d→FzL P n σ' v d
 | _,_,.nil=>.nil
 | _,_,.cons h hs=>.cons (dS0 hk h) (uY hk hs)
end
theorem mA0 {P:Program} {n:Nat} {σ:jA} {b:Nat} {X:qH} (hb:b<n) {v d:List Value} (h:FzL P n σ v d):FzL P n (σ.put b X) v d:=
 uY (fun i x hi hx=>(jG _ _ _ (by omega)).trans hx) h
end
end Go.Proofs.YtdcjpmjmjinjmaaDoor
namespace Go.Dv
open Go Go.RowKit Go.Ev
noncomputable section
structure bH1 (P:Program) (n:Nat) (σ σ1:jA):Prop where
 next:σ1.next=σ.next
 lo:σ1.lo=σ.lo
 nl:σ.lo≤n
 nn:n≤σ.next
 get:∀ i,(n≤i∧σ1.get i=none)∨(i<n∧σ1.get i=σ.get i)∨(σ.lo≤i∧i<n∧∃ cs cs1 e fr fr1 m,σ.get i=some ⟨.cells ⟨cs⟩ e fr,m⟩∧σ1.get i=some ⟨.cells ⟨cs1⟩ e fr1,m⟩∧FzL P n σ cs cs1∧cs1.all one=true)
theorem eB1 {P:Program} {g:Gh} {n:Nat} {σ σ1 h:jA} (hr:Rel g σ h) (hP:g.P=P) (k:bH1 P n σ σ1):Ext g σ h (g.all n σ) σ1 h∧Rel (g.all n σ) σ1 h:=by
 have hlon:=hr.lon
 have e0:Ext0 g h σ.next (g.all n σ) h σ.next:=⟨rfl,Nat.le_refl _,fun _ _=>rfl,fun _ hb=>.inl hb,Nat.le_refl _,rfl,fun _ _ _=>rfl⟩
 have own:∀ i,uH σ1 i→uH σ i∧i<n:=fun i ⟨h1,h2,h3⟩=>by
  rw[k.lo] at h1
  rw[k.next] at h2
  rcases k.get i with ⟨_,h4⟩|⟨h5,h4⟩|⟨_,h5,cs,cs1,e,fr,fr1,m,h6,_⟩
  ·rw[h4] at h3;cases h3
  ·rw[h4] at h3;exact ⟨⟨h1,h2,h3⟩,h5⟩
  ·exact ⟨⟨h1,h2,by rw[h6];rfl⟩,h5⟩
 have low:∀ i,i<σ.lo→σ1.get i=σ.get i:=fun i hi=>by
  have:=k.nl
  rcases k.get i with ⟨h5,_⟩|⟨_,h4⟩|⟨h5,_⟩
  ·omega
  ·exact h4
  ·omega
 refine ⟨⟨rfl,rfl,by rw[k.next];exact Nat.le_refl _,k.lo,Nat.le_refl _,rfl,fun _ _=>rfl,fun _ hb=>.inl hb,fun b hb=>?_,fun _ _ _=>rfl,fun i hi=>.inl (own i hi).1⟩,?_⟩
 ·rcases hb with hb|⟨i,hi,_,e⟩
  ·exact .inl hb
  ·exact .inr (.inr ⟨i,hi,e⟩)
 refine ⟨by rw[k.lo];exact hr.pos,by rw[k.lo];exact hr.lo,by rw[k.lo,k.next];exact hlon,hr.hlo,fun i hi=>?_,fun i y hi hy=>?_,fun i hi=>?_,fun i y hi hy=>?_,fun i hi=>hr.dlt i (by rw[k.next] at hi;exact hi),fun i hi=>hr.dlo i (own i hi).1,fun i j hi hj e=>hr.inj i j (own i hi).1 (own j hj).1 e,fun b hb=>?_,hr.wf⟩
 ·rw[k.lo] at hi
  rw[low i hi];exact hr.base i hi
 ·rw[k.lo] at hi
  rw[low i hi] at hy;exact hr.baseF i y hi hy
 ·rw[k.lo] at hi
  rw[low i hi];exact hr.baseD i hi
 ·rw[k.next] at hi ⊢
  rw[k.lo]
  rcases k.get i with ⟨_,h4⟩|⟨_,h4⟩|⟨h5,h6,cs,cs1,e,fr,fr1,m,h7,h8,h9,h10⟩
  ·rw[h4] at hy;cases hy
  ·exact (hr.obj i y hi (by rw[← h4];exact hy)).ext e0 rfl
  ·rw[h8] at hy
   cases hy
   obtain ⟨vs,e',q1,q2,q3,q4⟩:=hr.obj i _ hi h7
   exact ⟨vs,e',q1,q2,RVL.ext ⟨rfl,k.nn,fun _ _=>rfl,fun _ hb=>hb,Nat.le_refl _,rfl,fun _ _ _=>rfl⟩ _ _ (uU hr hP k.nl k.nn h9 q3),h10⟩
 ·rcases hb with hb|⟨i,hi,hn,rfl⟩
  ·exact ⟨(hr.frz b hb).1,fun j hj=>(hr.frz b hb).2 j (own j hj).1⟩
  ·refine ⟨hr.dlt i hi.2.1,fun j hj e=>?_⟩
   have:=hr.inj j i (own j hj).1 hi e
   have:=(own j hj).2
   omega
theorem jO.drop {p:Par} {H:jA} {f:FuncId} {args:List Value} {σ:jA} {R R':Value→jA→Prop} (hc:jO p H f args σ R) (h:∀ v σ',R v σ'→∃ n d σ1,R' d σ1∧FzV p.P n σ' v d∧bH1 p.P n σ' σ1):jO p H f args σ R':=by
 intro g h0 vs hP hr hv
 refine (hc g h0 vs hP hr hv).mono ?_
 rintro u h' ⟨v,σ',hR,g',x,hr',hv',_⟩
 obtain ⟨n,d,σ1,h1,hz,hk⟩:=h v σ' hR
 have hP':=x.ok hP
 obtain ⟨x1,r1⟩:=eB1 hr' hP'.1 hk
 refine ⟨d,σ1,h1,_,x.trans x1,r1,?_,fun e=>by cases e⟩
 rw[hk.next]
 exact RV.ext ⟨rfl,hk.nn,fun _ _=>rfl,fun _ hb=>hb,Nat.le_refl _,rfl,fun _ _ _=>rfl⟩ _ _ (fS0 hr' hP'.1 hk.nl hk.nn hz hv')
def yP1 (n b:Nat) (x:qH) (σ:jA):jA:=(uM (fun i=>Nat.blt i n) σ).put b x
theorem sU0 {P:Program} {n b:Nat} {σ:jA} {cs cs1:List Value} {e:TypeId} {m:Bool} (hl:σ.lo≤b) (hb:b<n) (hn:n≤σ.next) (hc:cells σ b=some (cs,e,m)) (hz:FzL P n σ cs cs1) (ho:cs1.all one=true):bH1 P n σ (yP1 n b (O cs1 e m) σ):=by
 obtain ⟨fr,hg⟩:=uI hc
 refine ⟨rfl,rfl,by omega,hn,fun i=>?_⟩
 unfold yP1
 by_cases e:i=b
 ·subst e
  exact .inr (.inr ⟨hl,hb,cs,cs1,_,fr,(0,0),m,hg,qO _ _,hz,ho⟩)
 ·rw[jW _ _ _ e,kN]
  by_cases hi:i<n
  ·rw[if_pos (by simpa using hi)];exact .inr (.inl ⟨hi,rfl⟩)
  ·rw[if_neg (by simpa using hi)];exact .inl ⟨by omega,rfl⟩
theorem jO.borrow {p:Par} {H:jA} {f:FuncId} {args args':List Value} {σ:jA} {d:Value} (hc:jI p H f args' d) (hz:FzL p.P σ.lo σ args args') (hd:Ev.flat d=true):jO p H f args σ fun v σ'=>v=d∧σ'=σ:=by
 intro g h vs hP hr hv
 have hlo:=hr.lo
 rw[hP.2] at hlo
 have hlon:=hr.lon
 have no:∀ i,¬ uH H i:=fun i hi=>by have:=hi.1;have:=hi.2.1;omega
 have r1:=kJ0 hr (m:=σ.lo)
 have hP0:g.H0=H:=hP.2
 have ha:=uU hr hP.1 (Nat.le_refl _) hlon hz hv
 have hl1:=hlo.1
 have ha2:RVL (Gh.all g σ.lo σ) h H.next args' vs:=by rw[← hl1];exact ha
 refine (hc (Gh.all g σ.lo σ) h _ ⟨hP.1,hP.2⟩ (by rw[hP0] at r1;exact r1) ha2).mono ?_
 rintro u h' ⟨g',x,r',rv⟩
 have hag:Agr h h':=fun b hb=>x.fr b hb fun i hi=>absurd hi (no i)
 obtain ⟨r3,e0⟩:=hr.same hag x.next x.hlo r'.wf (F':=g.F) (fun b hb=>⟨Nat.lt_of_lt_of_le (hr.frz b hb).1 x.next,fun i hi=>(hr.frz b hb).2 i hi⟩) (fun b hb=>hb)
 have hu:=RV.flat _ _ hd rv
 subst hu
 exact ⟨_,σ,⟨rfl,rfl⟩,_,⟨rfl,rfl,Nat.le_refl _,rfl,x.next,x.hlo,fun _ _=>rfl,fun b hb=>hb,fun b hb=>.inl hb,fun b hb _=>hag b hb,fun i hi=>.inl hi⟩,r3,RV.of_flat _ hd,fun e=>by cases e⟩
end
end Go.Dv
namespace Go.Proofs.YtdcjpmjmjinjmaaDoor
open Go Go.RowKit Go.Ev Go.Dv
noncomputable section
set_option maxRecDepth 100000
variable (G:Nat×Nat)
theorem eP1 (vars:List Int) (k a b:Int) (s:List UInt8) (e:Ex) (x y:Tm) (hs:smE e=true) (hl:vars.length<1000000000) {σ:jA} (hσ:σ.lo=1) (hn:1≤σ.next) {vv:Value} (hz:∀ σ',jD σ σ' (fun _=>False)→FzV Tryd.prog 1 σ' vv (ivV vars)) :
  jO (pp G) H0 38 [tmV (.mk k a b s e [x,y]),vv] σ (fun v σ'=>v=.tuple ⟨[tmV (if (evF vars e).1=0 then y else x),.int .i64 (evF vars e).2]⟩∧jD σ σ' (fun _=>False)):=by
 have hev:=ev_f G vars e hs hl
 generalize evF vars e=r at *
 obtain ⟨n,er⟩:=r
 refine jO.fir4 (q:=qq) (jX G) fir38 (by kernel_rfl) rfl rfl (bG1 ..) (by first|exact Nat.le_trans (show NGG≤1 by decide) (by omega)) ?_;rw[pH1]
 simp(disch:=first|omega|(apply id;simp only[push_cast];try omega))only[push_cast,simprocAttr]
 refine jC.func (cap:=[]) (jO.borrow hev (.cons (.id (oK0 _ (by simp only[jN];omega) _)) (.cons (by simp only[jN];rw[hσ];exact hz _ (((jD.add _ _ _).add' _))) .nil)) rfl) ?_
 rintro _ _ ⟨rfl,he⟩
 rw[he]
 clear he
 have ht2:tmC (if n=0 then y else x)=if n=0 then tmC y else tmC x:=by split<;>rfl
 unfold t2
 by_cases h0:n=0
 ·rw[if_pos (by exact h0)]
  simp(disch:=first|omega|(apply id;simp only[push_cast];try omega))only[push_cast,simprocAttr,h0]
  (repeat (first|assumption|exact jD.refl _ _|refine jD.put' ?_ _ _ (by first|omega|(simp only[push_cast];omega))|refine jD.add' ?_ _))
 ·rw[if_neg (by exact h0)]
  simp(disch:=first|omega|(apply id;simp only[push_cast];try omega))only[push_cast,simprocAttr,h0]
  (repeat (first|assumption|exact jD.refl _ _|refine jD.put' ?_ _ _ (by first|omega|(simp only[push_cast];omega))|refine jD.add' ?_ _))
structure Dd where
 t:Tm
 v:List Int
 st:List (List Tm)
 key:Int
 en:List UInt8
 ek:Int
 e:Int
def kT (c:Co) (f:Cf) (alt:Int):Tm→Dd
 | .mk k a b s ex l=>
  if k=1 then ⟨.mk 14 f.key a s zE [],f.v,f.st,W (f.key+1),s,f.key,0⟩
  else if k=2 then ⟨zT,f.v.set a.toNat (evF f.v ex).1,f.st,f.key,[],0,(evF f.v ex).2⟩
  else if k=3 then ⟨zT,f.v,kZ f.st a (f.st.getD a.toNat []++[l.getD 0 zT]),f.key,[],0,0⟩
  else if k=4 then ⟨revF (f.st.getD a.toNat []),f.v,kZ f.st a [],f.key,[],0,0⟩
  else if k=5 then ⟨zT,f.v,kZ f.st a [],f.key,[],0,0⟩
  else if k=6 then ⟨zT,f.v,nW0 f.st a b,f.key,[],0,0⟩
  else if k=9 then ⟨if (evF f.v ex).1=0 then l.getD 1 zT else l.getD 0 zT,f.v,f.st,f.key,[],0,(evF f.v ex).2⟩
  else if k=10 then ⟨l.getD alt.toNat zT,f.v,f.st,f.key,[],0,0⟩
  else if k=13 then ⟨c.p.getD a.toNat zT,f.v,f.st,f.key,[],0,0⟩
  else ⟨zT,f.v,f.st,f.key,[],0,0⟩
def SOk (c:Co) (f:Cf) (alt:Int):Tm→Prop
 | .mk k a b s ex l=>
  (k=2→0≤a∧a<f.v.length∧smE ex=true)∧(k=3→0≤a∧a<f.st.length∧∃ y,l=[y]∧smT y=true)∧(k=4→0≤a∧a<f.st.length)∧(k=6→(0≤a∧a<f.st.length)∧0≤b∧b<f.st.length)∧
  (k=9→smE ex=true∧∃ y z,l=[y,z])∧(k=10→(∃ y z,l=[y,z])∧0≤alt∧alt<2)∧(k=13→0≤a∧a<c.p.length)∧(k=1∨k=2∨k=3∨k=4∨k=5∨k=6∨k=8∨k=9∨k=10∨k=13)
def stepT (c:Co) (f:Cf) (p:List Int) (alt:Int):Tm:=if (atT f.t p).k=8 then gD f.t (blkR f.t p [] []) zT else gD f.t p (kT c f alt (atT f.t p)).t
def StR (σ:jA) (bg lo:Nat) (T:Tm) (n:Int) (d:Dd) (v:Value) (σ':jA):Prop:=
 v=.tuple ⟨[.agg ⟨[.string (Tx d.en),.int .i64 d.ek,.int .i64 0]⟩,.int .i64 d.e]⟩∧∃ c' vv',c'.length=9∧cells σ' bg=some (c'++[vv',trV d.st,.int .i64 n,.int .i64 d.key],35,false)∧FzL Tryd.prog lo σ' c' (tmC T)∧FzV Tryd.prog lo σ' vv' (ivV d.v)∧jD σ σ' (fun k=>k=bg∨lo≤k)
theorem VrR.fz {P:Program} (h1:szT P eI=some 1) {σ:jA} {m n:Nat} {l:List Int} {v:Value} (h:VrR σ m l v) (hn:n≤m) (hl:l.length<100000000000):FzV P n σ v (ivV l):=by
 rcases h with ⟨rfl,rfl⟩|⟨b,rfl,hc,h2,h3⟩
 ·exact .nil (size:=1) h1 (by decide)
 ·refine .sl (by omega) hc h1 (by decide) (by rw[kG];omega) (.inl ⟨by simp only[UC];omega,Nat.le_refl _⟩) ?_
  rw[List.drop_zero,List.take_of_length_le (by rw[kG];omega)]
  exact .ids (wY0 _ _)
theorem VrR.grew {σ σ':jA} {m:Nat} {l:List Int} {v:Value} {S:Nat→Prop} (h:VrR σ m l v) (g:jD σ σ' S) (hS:∀ k,m≤k→k<σ.next→¬ S k):VrR σ' m l v:=by
 rcases h with h|⟨b,rfl,hc,h2,h3⟩
 ·exact .inl h
 ·exact .inr ⟨b,rfl,g.cellsE hc h3 (hS b h2 h3),h2,Nat.lt_of_lt_of_le h3 g.next⟩
theorem yN2 {c:List Value} (h:c.length=9) (p q r t:Value):(c++[p,q,r,t]).take 12=c++[p,q,r]:=by rw[List.take_append,List.take_of_length_le (by omega),h];rfl
theorem cx_a3 (c:List Value) (p q r:Value) (l:List Value):c++[p,q,r]++l=c++p :: q :: r :: l:=by simp
theorem uO1 {H:jA} {b:Nat} {cs:List Value} {e:TypeId} {m:Bool} (hc:cells H b=some (cs,e,m)) (n:Nat) (i:Nat) (x:List Value×TypeId×Bool) (_:n≤i) (hx:cells H i=some x):cells (H.put b (O cs e m)) i=some x:=by
 by_cases hi:i=b
 ·subst hi
  rw[hc] at hx
  cases hx
  exact jP _ _ _ _
 ·exact (jG _ _ _ hi).trans hx
theorem dT0 {P:Program} {n:Nat} {H:jA} {b:Nat} {cs:List Value} {e:TypeId} {m:Bool} (hc:cells H b=some (cs,e,m)) {v d:List Value} (h:FzL P n H v d):FzL P n (H.put b (O cs e m)) v d:=uY (uO1 hc n) h
theorem lQ0:∀ (l:List Int) (i:Nat) (x:Int),i<l.length→List.take i (ivs l)++[.int .i64 x]++List.drop (i+1) (ivs l)=ivs (l.set i x)
 | y :: l,0,x,_=>rfl
 | y :: l,i+1,x,h=>congrArg (Value.int .i64 y :: ·) (lQ0 l i x (by simpa using h))
theorem set2 {fq cy:List Value} {oq:Nat} (hw:oq+9≤fq.length) (hc:cy.length=9):List.take oq (setFrom fq oq ztm)++cy++List.drop (oq+9) (setFrom fq oq ztm)=setFrom fq oq cy:=by
 unfold setFrom
 have e1:List.take oq (List.take oq fq++ztm++List.drop (oq+ztm.length) fq)=List.take oq fq:=by rw[List.append_assoc,List.take_append_of_le_length (by rw[List.length_take];omega),List.take_take,Nat.min_self]
 have e2:List.drop (oq+9) (List.take oq fq++ztm++List.drop (oq+ztm.length) fq)=List.drop (oq+9) fq:=by rw[List.drop_append,List.drop_of_length_le (by simp[List.length_take,ztm];omega),List.nil_append,List.length_append,List.length_take,show ztm.length=9 from rfl,Nat.min_eq_left (by omega),Nat.sub_self,List.drop_zero]
 rw[e1,e2,hc]
theorem uP2 (c:Co) (f:Cf) (st:St) {σ:jA} {bg m lo:Nat} {cs:List Value} {vv:Value} (hl:σ.lo=1) (hn:1≤σ.next) (hlo:1≤lo) (hc:cells σ bg=some (cs++[vv,trV f.st,.int .i64 f.n,.int .i64 f.key],35,false)) (hN:NTs σ lo m f.t cs) (hb:0<bg) (hbl:bg<lo) (hm:m≤σ.next) (hbn:bg<σ.next)
  (hp:st.p.length<1000000000) (ha:kF f.t st.p) (hv:VrR σ m f.v vv) (hf:SmF f) (hrl:∀ i:Nat,(f.st.getD i []).length<50000000000) (hvl:f.v.length<1000000000) (hok:SOk c f st.a (atT f.t st.p)) :
  jO (pp G) H0 17 [coV c,.pointer (some ⟨bg,0,none⟩),.agg ⟨stC st⟩] σ (StR σ bg lo (stepT c f st.p st.a) f.n (kT c f st.a (atT f.t st.p))):=by
 unfold coV coC ivV qD stC
 refine jO.fir4 (q:=qq) (jX G) fir17 (by kernel_rfl) rfl rfl (lD1 ..) (by first|exact Nat.le_trans (show NGG≤1 by decide) (by omega)) ?_;rw[rA1]
 simp(disch:=first|omega|(apply id;simp only[push_cast];try omega))only[push_cast,simprocAttr]
 have g0:∀ X Y Z,jD σ (((σ.add X).add Y).add Z) (fun _=>False):=fun X Y Z=>((jD.add _ _ _).trans (jD.add _ _ _) fun _ _ h=>h).trans (jD.add _ _ _) fun _ _ h=>h
 have hL:=fun X Y Z=>yX1 ((g0 X Y Z).cellsE hc hbn id) (NTs.grew hN (g0 X Y Z) (fun _ _ _ h=>h) hm) hb (.inl hbl) (by simp only[jB];omega) (by simp only[jB];omega)
 refine jC.func (cap:=[]) (rQ1 G (hL _ _ _) hlo (by simp only[jN];exact hl) st.p false hp ha) ?_
 rintro _ _ ⟨rfl,vh,vk,rfl,hP⟩
 obtain ⟨bq,oq,lq,hq,fq,tq,x,cx,bk,ok,lk,hhk,fk,tk,xk,ck,rfl,rfl,h1,h2,hbb⟩:=hP
 have hcq:=h1.l.lc
 have hwq:=h1.l.lw
 have hle:=h1.l.le
 have hpq:=h1.l.lp
 have hlnq:=h1.l.ln
 simp only[jB] at hlnq
 have h9:=h1.l.lt.len
 have h91:=h1.l.lt.one
 have hk0:=h1.l.lt.k0
 have ht9:cx.take 9=cx:=List.take_of_length_le (by omega)
 have hd9:cx.drop 9=[]:=List.drop_of_length_le (by omega)
 have hcc:(Value.agg ⟨cx⟩).cells.toList=cx:=rfl
 have hloq:σ.lo≤bq:=by omega
 simp(disch:=first|omega|(apply id;simp only[push_cast];try omega))only[push_cast,simprocAttr,hcq,hwq,hle,h9,h91,hk0,ht9,hd9,hcc,hl]
 generalize hH:((((((σ.add (O [Rw false eI c.v.length (ivs c.v),.int .i64 c.s,Rw false etm c.p.length (jZ c.p),.int .i64 c.m] 31 false)).add (O [.int .i64 st.k,Rw false eI st.p.length (ivs st.p),.int .i64 st.a] 58 false)).add (O [.string (Tx []),.int .i64 0,.int .i64 0] 38 false)).add (O [.int .i64 0,.int .i64 0,.int .i64 0,.string (Tx []),.int .i64 0,.int .i64 0,.string (Tx []),.slice none 0 0,.slice none 0 0] 28 false)).put (σ.next+1+1+1) (O cx 28 false)).put bq (O (List.take oq fq++[.int .i64 0,.int .i64 0,.int .i64 0,.string (Tx []),.int .i64 0,.int .i64 0,.string (Tx []),.slice none 0 0,.slice none 0 0]++List.drop (oq+9) fq) tq false))=H
 have hw:=h1.w H
 have hlH:H.lo=1:=by rw[← hH];simp only[jN,wX];exact hl
 have hnH:H.next=σ.next+4:=by rw[← hH];simp only[jB,jK]
 have hbH:cells H bq=some (setFrom fq oq ztm,tq,false):=by rw[← hH];exact jP _ _ _ _
 have hcH:cells H (σ.next+1+1+1)=some (cx,etm,false):=by rw[← hH];refine (jG _ _ _ (by omega)).trans (jP _ _ _ _)
 have hne:bq≠σ.next+1+1:=fun ee=>by
  have h3:=hcq
  rw[ee,qC _ _ _ _ (by simp only[jB])] at h3
  simp only[Option.some.injEq,Prod.mk.injEq] at h3
  rw[← h3.1] at hwq
  simp at hwq
 have heH:cells H (σ.next+1+1)=some ([.string (Tx []),.int .i64 0,.int .i64 0],38,false):=by rw[← hH];refine (jG _ _ _ (by omega)).trans ((jG _ _ _ (by omega)).trans ((qG _ _ (by simp only[jB];omega)).trans (qC _ _ _ _ (by simp only[jB]))))
 have hzf:FzL Tryd.prog lo H ztm (tmC zT):=by cases cD0 Tryd.prog lo H with|agg h=>exact h
 have gw:jD (((σ.add _).add _).add _) H (fun k=>(k=bq∨(lq≤k∧k<hq))∨(k≠bg∧(k<lo∨m≤k))):=(by rw[← hH];exact ((jD.add _ _ _).trans (jD.put _ _ _ (S:=fun k=>k=σ.next+1+1+1) fun _=>rfl) fun i hi h=>absurd h (by simp only[jB] at hi;omega)).trans (jD.put _ _ _ (S:=fun k=>(k=bq∨(lq≤k∧k<hq))∨(k≠bg∧(k<lo∨m≤k))) fun _=>.inl (.inl rfl)) fun i hi h=>h)
 obtain ⟨c',hc9,hgH,hfz⟩:=hw zT ztm rfl gw hbH hzf
 have hsf:∀ l:List Value,setFrom (cs++l) 0 c'=c'++l:=fun l=>by unfold setFrom;rw[List.take_zero,List.nil_append,Nat.zero_add,hc9,List.drop_left' hN.len]
 rw[hsf] at hgH
 obtain ⟨kx,ax,bx,sx,ex,lx⟩:=x
 have hgq:=jE2 hc9
 have hnz:(σ.next+1+1)≠bq:=fun h=>hne h.symm
 have hlm:=hN.le
 have gq:jD σ H (fun k=>k=bq):=by rw[← hH];(repeat (first|assumption|exact jD.refl _ _|refine jD.put'' ?_ _ _ (by intro _;first|(exfalso;omega)|rfl)|refine jD.add' ?_ _))
 have hvb:∀ k,m≤k→k<σ.next→¬ k=bq:=fun k h3 h4 e=>by have:=h1.bi;omega
 have hvH:VrR H m f.v vv:=hv.grew gq hvb
 have gL:jD σ H (fun k=>k=bg∨lo≤k):=gq.mono fun k hk e=>by have:=h1.bi;omega
 rw[← h1.x] at hok ⊢
 have hW:∀ (Hf:jA),jD H Hf (fun k=>(k=bq∨(lq≤k∧k<hq))∨(k≠bg∧(k<lo∨m≤k)))→∀ (y:Tm) (cy:List Value),cy.length=9→cells Hf bq=some (setFrom fq oq cy,tq,false)→FzL Tryd.prog lo Hf cy (tmC y)→∃ c',c'.length=9∧cells Hf bg=some (c'++[vv,trV f.st,.int .i64 f.n,.int .i64 f.key],35,false)∧FzL Tryd.prog lo Hf c' (tmC (gD f.t st.p y)):=by
  intro Hf hg y cy h5 h6 h7
  obtain ⟨c3,d1,d2,d3⟩:=h1.w Hf y cy h5 (gw.trans hg fun k _ h=>h) h6 h7
  refine ⟨c3,d1,?_,d3⟩
  rw[d2]
  unfold setFrom
  rw[List.take_zero,List.nil_append,Nat.zero_add,d1,List.drop_left' hN.len]
 by_cases k1:kx=1
 ·obtain rfl:kx=1:=k1
  have hcx:cx=tmC (.mk 1 ax bx sx ex lx):=by cases h1.l.lt;rfl
  rw[hcx,qQ] at hcH
  have hgk:∀ p q r s:Value,(c'++[p,q,r,s])[12]?=some s:=fun p q r s=>by rw[List.getElem?_append_right (by omega),hc9];rfl
  have hkk:(Tm.mk 1 ax bx sx ex lx).k=1:=rfl
  have hsl:(setFrom fq oq ztm).length=fq.length:=by simp only[setFrom,List.length_append,List.length_take,List.length_drop,show ztm.length=9 from rfl];omega
  have hls:oq+9≤(List.take oq fq++ztm++List.drop (oq+ztm.length) fq).length:=by have:=hsl;unfold setFrom at this;rw[this];exact hwq
  have hloH:H.lo≤bq:=by omega
  simp(disch:=first|omega|(apply id;simp only[push_cast];try omega))only[push_cast,simprocAttr,hkk,hcH,hgH,heH,hbH,hlH,hgq,hgk,hls,hne]
  generalize hH2:(H.put (σ.next+1+1) (O [.string (Tx sx),.int .i64 f.key,.int .i64 0] 38 false)).put bq (O (List.take oq (List.take oq fq++ztm++List.drop (oq+ztm.length) fq)++[.int .i64 14,.int .i64 f.key,.int .i64 ax,.string (Tx sx),.int .i64 0,.int .i64 0,.string (Tx []),.slice none 0 0,.slice none 0 0]++List.drop (oq+9) (List.take oq fq++ztm++List.drop (oq+ztm.length) fq)) tq false)=H2
  have hlH2:H2.lo=1:=by rw[← hH2];simp only[wX];exact hlH
  have hnH2:H2.next=σ.next+4:=by rw[← hH2];simp only[jK];exact hnH
  have hss:List.take oq (List.take oq fq++ztm++List.drop (oq+ztm.length) fq)++[.int .i64 14,.int .i64 f.key,.int .i64 ax,.string (Tx sx),.int .i64 0,.int .i64 0,.string (Tx []),.slice none 0 0,.slice none 0 0]++List.drop (oq+9) (List.take oq fq++ztm++List.drop (oq+ztm.length) fq)=setFrom fq oq [.int .i64 14,.int .i64 f.key,.int .i64 ax,.string (Tx sx),.int .i64 0,.int .i64 0,.string (Tx []),.slice none 0 0,.slice none 0 0]:=set2 hwq rfl
  have hb2:cells H2 bq=some (setFrom fq oq [.int .i64 14,.int .i64 f.key,.int .i64 ax,.string (Tx sx),.int .i64 0,.int .i64 0,.string (Tx []),.slice none 0 0,.slice none 0 0],tq,false):=by rw[← hH2,← hss];exact jP _ _ _ _
  have hyf:FzL Tryd.prog lo H2 [.int .i64 14,.int .i64 f.key,.int .i64 ax,.string (Tx sx),.int .i64 0,.int .i64 0,.string (Tx []),.slice none 0 0,.slice none 0 0] (tmC (.mk 14 f.key ax sx zE [])):=by
   rw[qQ]
   exact .cons (.id rfl) (.cons (.id rfl) (.cons (.id rfl) (.cons (.id rfl) (.cons (.id rfl) (.cons (.id rfl) (.cons (.id rfl) (.cons (.nil (size:=4) rfl (by decide)) (.cons (.nil (size:=9) rfl (by decide)) .nil))))))))
  obtain ⟨c2,hc2,hg2,hf2⟩:=h1.w H2 (.mk 14 f.key ax sx zE []) [.int .i64 14,.int .i64 f.key,.int .i64 ax,.string (Tx sx),.int .i64 0,.int .i64 0,.string (Tx []),.slice none 0 0,.slice none 0 0] rfl (by
   rw[← hH2,← hH]
   refine (((((jD.add _ _ _).trans (jD.put _ _ _ (S:=fun k=>k=σ.next+1+1+1) fun _=>rfl) fun i hi h=>absurd h (by simp only[jB] at hi;omega)).trans (jD.put _ _ _ (S:=fun k=>(k=bq∨(lq≤k∧k<hq))∨(k≠bg∧(k<lo∨m≤k))) fun _=>.inl (.inl rfl)) fun i hi h=>h).trans (jD.put _ _ _ (S:=fun k=>(k=bq∨(lq≤k∧k<hq))∨(k≠bg∧(k<lo∨m≤k))) fun _=>.inr ⟨by omega,.inr (by omega)⟩) fun i hi h=>h).trans (jD.put _ _ _ (S:=fun k=>(k=bq∨(lq≤k∧k<hq))∨(k≠bg∧(k<lo∨m≤k))) fun _=>.inl (.inl rfl)) fun i hi h=>h)) hb2 hyf
  have hsf2:∀ l:List Value,setFrom (cs++l) 0 c2=c2++l:=fun l=>by unfold setFrom;rw[List.take_zero,List.nil_append,Nat.zero_add,hc2,List.drop_left' hN.len]
  rw[hsf2] at hg2
  have hgk2:∀ p q r s:Value,(c2++[p,q,r,s])[12]?=some s:=fun p q r s=>by rw[List.getElem?_append_right (by omega),hc2];rfl
  have heH2:cells H2 (σ.next+1+1)=some ([.string (Tx sx),.int .i64 f.key,.int .i64 0],38,false):=by rw[← hH2];exact (jG _ _ _ hnz).trans (jP _ _ _ _)
  have hl2:=eC0 hc2 vv (trV f.st) (.int .i64 f.n) (.int .i64 f.key)
  simp(disch:=first|omega|(apply id;simp only[push_cast];try omega))only[push_cast,simprocAttr,hg2,hgk2,heH2,hlH2]
  rw[yN2 hc2,yR1 hc2,List.append_nil,cx_a3]
  refine ⟨rfl,c2,vv,hc2,?_,?_,?_,?_⟩
  ·refine (jG _ _ _ (by omega)).trans (jP _ _ _ _)
  ·rw[stepT,← h1.x]
   exact dT0 ((jG _ _ _ (by omega)).trans heH2) (mA0 hbl hf2)
  ·refine VrR.fz rfl (VrR.grew (S:=fun k=>k=bq∨k=bg) hv (by rw[← hH2,← hH];(repeat (first|assumption|exact jD.refl _ _|refine jD.put'' ?_ _ _ (by intro _;first|(exfalso;omega)|exact .inl rfl|exact .inr rfl)|refine jD.add' ?_ _))) (fun k h3 h4 h5=>by have:=hvb k h3 h4;rcases h5 with h5|h5<;>omega)) ?_ ?_
   ·omega
   ·exact hf.v
  ·rw[← hH2,← hH]
   have:=h1.bi
   (repeat (first|assumption|exact jD.refl _ _|refine jD.put'' ?_ _ _ (by intro _;first|(exfalso;omega)|(show _∨_;omega))|refine jD.add' ?_ _))
 by_cases k2:kx=2
 ·obtain rfl:kx=2:=k2
  have hcx:cx=tmC (.mk 2 ax bx sx ex lx):=by cases h1.l.lt;rfl
  rw[hcx,qQ] at hcH
  have hkk:(Tm.mk 2 ax bx sx ex lx).k=2:=rfl
  obtain ⟨ha0,ha1,hse⟩:=hok.1 rfl
  rw[show kT c f st.a (.mk 2 ax bx sx ex lx)=⟨zT,f.v.set ax.toNat (evF f.v ex).1,f.st,f.key,[],0,(evF f.v ex).2⟩ from rfl,show stepT c f st.p st.a=gD f.t st.p zT by rw[stepT,← h1.x];rfl]
  obtain ⟨bv,rfl,hcv,hv2,hv3⟩:∃ b,vv=.slice (some ⟨b,0,none⟩) f.v.length f.v.length∧cells H b=some (ivs f.v,eI,false)∧m≤b∧b<σ.next:=by
   rcases hv with ⟨h5,_⟩|⟨b,h5,h6,h7,h8⟩
   ·rw[h5] at ha1;simp at ha1;omega
   ·exact ⟨b,h5,gq.cellsE h6 h8 (hvb b h7 h8),h7,h8⟩
  have hvz:FzV Tryd.prog H.lo H (.slice (some ⟨bv,0,none⟩) f.v.length f.v.length) (ivV f.v):=VrR.fz rfl (m:=m) (.inr ⟨bv,rfl,hcv,hv2,by omega⟩) (by omega) hf.v
  simp(disch:=first|omega|(apply id;simp only[push_cast];try omega))only[push_cast,simprocAttr,hkk,hcH,hgH,heH,hbH,hlH,hgq,hne,hcv]
  refine jC.func (cap:=[]) (jO.borrow (ev_f G f.v ex hse hvl) (.cons (.id (oK0 _ (by omega) _)) (.cons hvz .nil)) rfl) ?_
  rintro _ _ ⟨rfl,he⟩
  rw[he]
  obtain ⟨i,hi⟩:∃ i:Nat,ax=i:=⟨ax.toNat,by omega⟩
  subst hi
  have hi2:(i:Int)<f.v.length:=ha1
  generalize evF f.v ex=r at *
  obtain ⟨r1,r2⟩:=r
  unfold t2
  have hbv:bv≠σ.next+1+1:=by omega
  simp(disch:=first|omega|(apply id;simp only[push_cast];try omega))only[push_cast,simprocAttr,hkk,hcH,hgH,heH,hbH,hlH,hgq,hne,hcv,hi2,Int.toNat_natCast,hbv]
  rw[lQ0 _ _ _ (by omega)]
  obtain ⟨Hf,hHf⟩:∃ Hf,Hf=(H.put bv (O (ivs (f.v.set i r1)) eI false)).put (σ.next+1+1) (O [.string (Tx []),.int .i64 0,.int .i64 0] 38 false):=⟨_,rfl⟩
  rw[← hHf]
  have gf:jD H Hf (fun k=>k=bv∨k=σ.next+1+1):=by rw[hHf];exact ((jD.put _ _ _ (S:=fun k=>k=bv∨k=σ.next+1+1) fun _=>.inl rfl).put'' _ _ fun _=>.inr rfl)
  have hbb2:bq≠bv:=fun e=>hvb bv hv2 hv3 e.symm
  obtain ⟨c3,d1,d2,d3⟩:=hW Hf (gf.mono fun k hk e=>.inr (by omega)) zT ztm rfl (gf.cellsE hbH (by omega) (by omega)) (by cases cD0 Tryd.prog lo Hf with|agg h=>exact h)
  refine ⟨rfl,c3,_,d1,d2,?_,VrR.fz rfl (m:=m) (.inr ⟨bv,by rw[List.length_set],?_,hv2,by rw[hHf];simp only[jK];omega⟩) hlm ?_,gL.trans (gf.mono fun k hk e=>by show _∨_;omega) fun k _ h=>h⟩
  ·exact d3
  ·rw[hHf]
   exact (jG _ _ _ hbv).trans (jP _ _ _ _)
  ·rw[List.length_set]
   exact hf.v
 have hev:bg≠σ.next+1+1:=by omega
 have fin:∀ (d:Dd) (X:List Value),d.en=[]→d.ek=0→d.v=f.v→d.key=f.key→X=c'++[vv,trV d.st,.int .i64 f.n,.int .i64 d.key]→StR σ bg lo (gD f.t st.p zT) f.n d (.tuple ⟨[.agg ⟨[.string (Tx []),.int .i64 0,.int .i64 0]⟩,.int .i64 d.e]⟩) ((H.put bg (O X 35 false)).put (σ.next+1+1) (O [.string (Tx []),.int .i64 0,.int .i64 0] 38 false)):=by
  rintro d X e1 e2 e3 e4 rfl
  refine ⟨by rw[e1,e2],c',vv,hc9,(jG _ _ _ hev).trans (jP _ _ _ _),dT0 ((jG _ _ _ hev.symm).trans heH) (mA0 hbl hfz),?_,?_⟩
  ·rw[e3]
   exact VrR.fz rfl (VrR.grew (S:=fun k=>k=bq∨k=bg∨k=σ.next+1+1) hv ((gq.mono fun _ _ h=>.inl h).trans ((jD.put _ _ _ (S:=fun k=>k=bq∨k=bg∨k=σ.next+1+1) fun _=>.inr (.inl rfl)).put'' _ _ fun _=>.inr (.inr rfl)) (fun _ _ h=>h)) (fun k h3 h4 h5=>by have:=hvb k h3 h4;rcases h5 with h5|h5|h5<;>omega)) hlm hf.v
  ·exact gL.trans ((jD.put _ _ _ (S:=fun k=>k=bg∨lo≤k) fun _=>.inl rfl).put'' _ _ fun _=>.inr (by omega)) fun k _ h=>h
 have hl13:=eC0 hc9 vv (trV f.st) (.int .i64 f.n) (.int .i64 f.key)
 have hgr:=yQ1 hc9
 have hco:∀ s:List (List Tm),(trV s).cells.toList=[trV s]:=fun _=>rfl
 have hone:∀ s:List (List Tm),[trV s].all one=true:=fun _=>rfl
 have hlbg:H.lo≤bg:=by omega
 by_cases k3:kx=3
 ·obtain rfl:kx=3:=k3
  obtain ⟨ha0,ha1,y,rfl,hy⟩:=hok.2.1 rfl
  have hcx:cx=tmC (.mk 3 ax bx sx ex [y]):=by cases h1.l.lt;rfl
  rw[hcx,qQ] at hcH
  have hkk:(Tm.mk 3 ax bx sx ex [y]).k=3:=rfl
  rw[show kT c f st.a (.mk 3 ax bx sx ex [y])=⟨zT,f.v,kZ f.st ax (f.st.getD ax.toNat []++[y]),f.key,[],0,0⟩ from rfl,show stepT c f st.p st.a=gD f.t st.p zT by rw[stepT,← h1.x];rfl]
  have hgr:=yQ1 hc9
  simp(disch:=first|omega|(apply id;simp only[push_cast];try omega))only[push_cast,simprocAttr,hkk,hcH,hgH,heH,hbH,hlH,hgr,hne,kW]
  refine dK (rM1 G f.st ax y hf.st (by have:=hrl ax.toNat;omega) hy ⟨ha0,ha1⟩) ?_
  have hl14:=hl13
  have hgH2:=hgH
  unfold trV at hl14 hgH2 ⊢
  simp(disch:=first|omega|(apply id;simp only[push_cast];try omega))only[push_cast,simprocAttr,hgH2,heH,hlH,hne,hev]
  exact fin _ _ rfl rfl rfl rfl (by rw[iE0 hc9,iF0 hc9];simp;rfl)
 by_cases k5:kx=5
 ·obtain rfl:kx=5:=k5
  have hcx:cx=tmC (.mk 5 ax bx sx ex lx):=by cases h1.l.lt;rfl
  rw[hcx,qQ] at hcH
  have hkk:(Tm.mk 5 ax bx sx ex lx).k=5:=rfl
  rw[show kT c f st.a (.mk 5 ax bx sx ex lx)=⟨zT,f.v,kZ f.st ax [],f.key,[],0,0⟩ from rfl,show stepT c f st.p st.a=gD f.t st.p zT by rw[stepT,← h1.x];rfl]
  simp(disch:=first|omega|(apply id;simp only[push_cast];try omega))only[push_cast,simprocAttr,hkk,hcH,hgH,heH,hbH,hlH,hgr,hne]
  refine dK (pA0 G f.st ax hf.st) ?_
  have hl14:=hl13
  have hgH2:=hgH
  unfold trV at hl14 hgH2 ⊢
  simp(disch:=first|omega|(apply id;simp only[push_cast];try omega))only[push_cast,simprocAttr,hgH2,heH,hlH,hne,hev]
  exact fin _ _ rfl rfl rfl rfl (by rw[iE0 hc9,iF0 hc9];simp;rfl)
 by_cases k6:kx=6
 ·obtain rfl:kx=6:=k6
  obtain ⟨hA,hB⟩:=hok.2.2.2.1 rfl
  have hcx:cx=tmC (.mk 6 ax bx sx ex lx):=by cases h1.l.lt;rfl
  rw[hcx,qQ] at hcH
  have hkk:(Tm.mk 6 ax bx sx ex lx).k=6:=rfl
  rw[show kT c f st.a (.mk 6 ax bx sx ex lx)=⟨zT,f.v,nW0 f.st ax bx,f.key,[],0,0⟩ from rfl,show stepT c f st.p st.a=gD f.t st.p zT by rw[stepT,← h1.x];rfl]
  simp(disch:=first|omega|(apply id;simp only[push_cast];try omega))only[push_cast,simprocAttr,hkk,hcH,hgH,heH,hbH,hlH,hgr,hne]
  refine dK (sE1 G f.st ax bx hf.st (by have:=hrl ax.toNat;have:=hrl bx.toNat;omega) hA hB) ?_
  have hl14:=hl13
  have hgH2:=hgH
  unfold trV at hl14 hgH2 ⊢
  simp(disch:=first|omega|(apply id;simp only[push_cast];try omega))only[push_cast,simprocAttr,hgH2,heH,hlH,hne,hev]
  exact fin _ _ rfl rfl rfl rfl (by rw[iE0 hc9,iF0 hc9];simp;rfl)
 have finH:∀ (H3:jA) (_:jD H H3 (fun _=>False)) (d:Dd) (y:Tm) (X:List Value),d.en=[]→d.ek=0→d.v=f.v→d.key=f.key→d.st=f.st→X=setFrom fq oq (tmC y)→StR σ bg lo (gD f.t st.p y) f.n d (.tuple ⟨[.agg ⟨[.string (Tx []),.int .i64 0,.int .i64 0]⟩,.int .i64 d.e]⟩) ((H3.put bq (O X tq false)).put (σ.next+1+1) (O [.string (Tx []),.int .i64 0,.int .i64 0] 38 false)):=by
  rintro H3 g3 d y X e1 e2 e3 e4 e5 rfl
  have gf:jD H ((H3.put bq (O (setFrom fq oq (tmC y)) tq false)).put (σ.next+1+1) (O [.string (Tx []),.int .i64 0,.int .i64 0] 38 false)) (fun k=>k=bq∨k=σ.next+1+1):=((g3.mono fun _ _ h=>h.elim).put'' _ _ fun _=>.inl rfl).put'' _ _ fun _=>.inr rfl
  obtain ⟨c3,d1,d2,d3⟩:=hW _ (gf.mono fun k hk e=>by rcases e with e|e;exact .inl (.inl e);exact .inr (by omega)) y (tmC y) (qM y) ((jG _ _ _ hne).trans (jP _ _ _ _)) (.ids (qI0 _ (by omega) _))
  refine ⟨by rw[e1,e2],c3,vv,d1,by rw[e4,e5];exact d2,d3,?_,?_⟩
  ·rw[e3]
   exact VrR.fz rfl (VrR.grew (S:=fun k=>k=bq∨k=σ.next+1+1) hv ((gq.mono fun _ _ h=>.inl h).trans gf (fun _ _ h=>h)) (fun k h3 h4 h5=>by have:=hvb k h3 h4;rcases h5 with h5|h5<;>omega)) hlm hf.v
  ·exact gL.trans (gf.mono (T:=fun k=>k=bg∨lo≤k) fun k hk e=>by have:=h1.bi;show _∨_;omega) fun k _ h=>h
 have hsl2:(setFrom fq oq ztm).length=fq.length:=by simp only[setFrom,List.length_append,List.length_take,List.length_drop,show ztm.length=9 from rfl];omega
 have hls2:oq+9≤(setFrom fq oq ztm).length:=by omega
 have hbqlo:H.lo≤bq:=by omega
 have hst9:∀ (H:jA) (_:H.lo≤bq) (x:Tm),stDC 9 oq (tmV x) H bq (some (List.take oq fq++ztm++List.drop (oq+ztm.length) fq,tq,false))=some (undef,H.put bq (O (setFrom fq oq (tmC x)) tq false)):=fun H hbqlo x=>by
  have h5:setFrom (setFrom fq oq ztm) oq (tmC x)=setFrom fq oq (tmC x):=by
   rw[← set2 hwq (qM x)]
   conv=>lhs;unfold setFrom
   rw[qM]
   rfl
  refine (eT0 (v:=tmV x) (setFrom fq oq ztm) tq false (qM x) (qJ0 x) hbqlo hls2).trans ?_
  rw[show (tmV x).cells.toList=tmC x from rfl,h5]
 have hbqn:bq<σ.next:=by have:=h1.bi;omega
 have hcoH:cells H σ.next=some ([Rw false eI c.v.length (ivs c.v),.int .i64 c.s,Rw false etm c.p.length (jZ c.p),.int .i64 c.m],31,false):=by rw[← hH];simp(disch:=first|omega|(apply id;simp only[push_cast];try omega))only[push_cast,simprocAttr,hbqn]
 have hstH:cells H (σ.next+1)=some ([.int .i64 st.k,Rw false eI st.p.length (ivs st.p),.int .i64 st.a],58,false):=by rw[← hH];simp(disch:=first|omega|(apply id;simp only[push_cast];try omega))only[push_cast,simprocAttr,hbqn]
 by_cases k13:kx=13
 ·obtain rfl:kx=13:=k13
  obtain ⟨ha0,ha1⟩:=hok.2.2.2.2.2.2.1 rfl
  have hcx:cx=tmC (.mk 13 ax bx sx ex lx):=by cases h1.l.lt;rfl
  rw[hcx,qQ] at hcH
  have hkk:(Tm.mk 13 ax bx sx ex lx).k=13:=rfl
  rw[show kT c f st.a (.mk 13 ax bx sx ex lx)=⟨c.p.getD ax.toNat zT,f.v,f.st,f.key,[],0,0⟩ from rfl,show stepT c f st.p st.a=gD f.t st.p (c.p.getD ax.toNat zT) by rw[stepT,← h1.x];rfl]
  obtain ⟨i,hi⟩:∃ i:Nat,ax=i:=⟨ax.toNat,by omega⟩
  subst hi
  have hi2:(i:Int)<c.p.length:=ha1
  have hi3:i<c.p.length:=by omega
  obtain ⟨x,hx⟩:=qJ (l:=c.p) (i:=i) (by omega)
  have hpt:=qV hx
  have hle2:i*9+9≤c.p.length*9:=by omega
  have hgd:c.p.getD (i:Int).toNat zT=x:=by rw[Int.toNat_natCast,List.getD_eq_getElem?_getD,hx];rfl
  rw[hgd]
  simp(disch:=first|omega|(apply id;simp only[push_cast];try omega))only[push_cast,simprocAttr,hkk,hcH,hgH,heH,hbH,hlH,hne,hi2,Int.toNat_natCast,hcoH,hpt,hle2,hst9 H hbqlo]
  exact finH H (jD.refl _ _) ⟨x,f.v,f.st,f.key,[],0,0⟩ x _ rfl rfl rfl rfl rfl (by unfold setFrom;rw[qM])
 by_cases k10:kx=10
 ·obtain rfl:kx=10:=k10
  obtain ⟨⟨y,z,rfl⟩,ha0,ha1⟩:=hok.2.2.2.2.2.1 rfl
  have hcx:cx=tmC (.mk 10 ax bx sx ex [y,z]):=by cases h1.l.lt;rfl
  rw[hcx,qQ] at hcH
  have hkk:(Tm.mk 10 ax bx sx ex [y,z]).k=10:=rfl
  rw[show kT c f st.a (.mk 10 ax bx sx ex [y,z])=⟨[y,z].getD st.a.toNat zT,f.v,f.st,f.key,[],0,0⟩ from rfl,show stepT c f st.p st.a=gD f.t st.p ([y,z].getD st.a.toNat zT) by rw[stepT,← h1.x];rfl]
  obtain ⟨i,hi⟩:∃ i:Nat,st.a=i:=⟨st.a.toNat,by omega⟩
  rw[hi] at hstH ⊢
  have hi2:(i:Int)<2:=by omega
  obtain ⟨x,hx⟩:=qJ (l:=[y,z]) (i:=i) (by simp;omega)
  have hpt:=qV hx
  have hle2:i*9+9≤2*9:=by omega
  have hgd:[y,z].getD (i:Int).toNat zT=x:=by rw[Int.toNat_natCast,List.getD_eq_getElem?_getD,hx];rfl
  rw[hgd]
  simp(disch:=first|omega|(apply id;simp only[push_cast];try omega))only[push_cast,simprocAttr,hkk,hcH,hgH,heH,hbH,hlH,hne,hi2,Int.toNat_natCast,hstH,hpt,hle2,hst9 H hbqlo]
  exact finH H (jD.refl _ _) ⟨x,f.v,f.st,f.key,[],0,0⟩ x _ rfl rfl rfl rfl rfl (by unfold setFrom;rw[qM])
 by_cases k4:kx=4
 ·obtain rfl:kx=4:=k4
  have ha0:=hok.2.2.1 rfl
  have hcx:cx=tmC (.mk 4 ax bx sx ex lx):=by cases h1.l.lt;rfl
  rw[hcx,qQ] at hcH
  have hkk:(Tm.mk 4 ax bx sx ex lx).k=4:=rfl
  rw[show kT c f st.a (.mk 4 ax bx sx ex lx)=⟨revF (f.st.getD ax.toNat []),f.v,kZ f.st ax [],f.key,[],0,0⟩ from rfl,show stepT c f st.p st.a=gD f.t st.p (revF (f.st.getD ax.toNat [])) by rw[stepT,← h1.x];rfl]
  simp(disch:=first|omega|(apply id;simp only[push_cast];try omega))only[push_cast,simprocAttr,hkk,hcH,hgH,heH,hbH,hlH,hgr,hne]
  have hrv:=uX1 G f.st ax hf.st ha0
  unfold ttV at hrv
  generalize hyr:revF (f.st.getD ax.toNat [])=y at *
  refine dK (hrv) ?_
  have hxl:=qM y
  have hxo:=qJ0 y
  simp(disch:=first|omega|(apply id;simp only[push_cast];try omega))only[push_cast,simprocAttr,hkk,hcH,hgH,heH,hbH,hlH,hgr,hne,hst9 H hbqlo]
  rw[show List.take oq fq++tmC y++List.drop (oq+9) fq=setFrom fq oq (tmC y) by unfold setFrom;rw[qM]]
  generalize hH2:H.put bq (O (setFrom fq oq (tmC y)) tq false)=H2
  have gf:jD H H2 (fun k=>k=bq):=by rw[← hH2];exact jD.put _ _ _ fun _=>rfl
  obtain ⟨c3,d1,d2,d3⟩:=hW H2 (gf.mono fun _ _ h=>.inl (.inl h)) y (tmC y) (qM y) (by rw[← hH2];exact jP _ _ _ _) (.ids (qI0 _ (by omega) _))
  have heH2:cells H2 (σ.next+1+1)=some ([.string (Tx []),.int .i64 0,.int .i64 0],38,false):=gf.cellsE heH (by omega) hnz
  have hlH2:H2.lo=1:=by rw[gf.lo,hlH]
  have hl14:=eC0 d1 vv (trV f.st) (.int .i64 f.n) (.int .i64 f.key)
  have hgH2:=d2
  have hlbg2:H2.lo≤bg:=by omega
  unfold trV at hl14 hgH2 ⊢
  simp(disch:=first|omega|(apply id;simp only[push_cast];try omega))only[push_cast,simprocAttr,hgH2,heH2,hlH2,hne,hev]
  rw[iE0 d1,iF0 d1]
  have gp:jD H2 ((H2.put bg (O (c3++[vv]++[Rw false eR (kZ f.st ax []).length (trs (kZ f.st ax []))]++[.int .i64 f.n,.int .i64 f.key]) 35 false)).put (σ.next+1+1) (O [.string (Tx []),.int .i64 0,.int .i64 0] 38 false)) (fun k=>k=bg∨k=σ.next+1+1):=(jD.put _ _ _ (S:=fun k=>k=bg∨k=σ.next+1+1) fun _=>.inl rfl).put'' _ _ fun _=>.inr rfl
  refine ⟨rfl,c3,vv,d1,?_,dT0 ((jG _ _ _ hev.symm).trans heH2) (mA0 hbl d3),?_,?_⟩
  ·refine (jG _ _ _ hev).trans ((jP _ _ _ _).trans ?_)
   simp
   rfl
  ·exact VrR.fz rfl (VrR.grew (S:=fun k=>k=bq∨k=bg∨k=σ.next+1+1) hv ((gq.trans gf fun _ _ h=>h).mono (T:=fun k=>k=bq∨k=bg∨k=σ.next+1+1) (fun _ _ h=>.inl h) |>.trans gp fun _ _ h=>.inr h) (fun k h3 h4 h5=>by have:=hvb k h3 h4;rcases h5 with h5|h5|h5<;>omega)) hlm hf.v
  ·exact (gL.trans (gf.mono (T:=fun k=>k=bg∨lo≤k) fun k hk e=>by have:=h1.bi;omega) fun k _ h=>h).trans gp fun k _ h=>by show _∨_;omega
 by_cases k8:kx=8
 ·obtain rfl:kx=8:=k8
  have hcx:cx=tmC (.mk 8 ax bx sx ex lx):=by cases h1.l.lt;rfl
  rw[hcx,qQ] at hcH
  have hkk:(Tm.mk 8 ax bx sx ex lx).k=8:=rfl
  rw[show kT c f st.a (.mk 8 ax bx sx ex lx)=⟨zT,f.v,f.st,f.key,[],0,0⟩ from rfl,show stepT c f st.p st.a=gD f.t (blkR f.t st.p [] []) zT by rw[stepT,← h1.x];rfl]
  have hkc:=h2.l.lc
  have hkw:=h2.l.lw
  have hkn:=h2.l.ln
  have hkp:=h2.l.lp
  have hkh:=h2.l.lh
  have hki:=h2.bi
  have hkj:=h2.hh
  have hko:=h2.lo
  simp only[jB] at hkn
  obtain ⟨fk',q1,q2,q3⟩:∃ fk',cells H bk=some (fk',tk,false)∧ok+9≤fk'.length∧setFrom fk' ok ztm=setFrom fk ok ztm:=by
   by_cases e:bq=bk
   ·subst e
    rcases hbb.1 with ⟨_,rfl⟩|h
    ·have h5:=hcq.symm.trans hkc
     simp only[Option.some.injEq,Prod.mk.injEq,and_true] at h5
     obtain ⟨rfl,rfl⟩:=h5
     exact ⟨_,hbH,hls2,set2 hwq rfl⟩
    ·omega
   ·refine ⟨fk,?_,hkw,rfl⟩
    rw[← hH]
    refine (jG _ _ _ (Ne.symm e)).trans ((jG _ _ _ (by omega)).trans ((qG _ _ (by simp only[jB];omega)).trans hkc))
  have hbklo:H.lo≤bk:=by omega
  have hbke:bk≠σ.next+1+1:=by omega
  simp(disch:=first|omega|(apply id;simp only[push_cast];try omega))only[push_cast,simprocAttr,hkk,hcH,hgH,heH,hbH,hlH,hne,q1,q2,hbklo,hbke]
  obtain ⟨Hf,hHf⟩:∃ Hf,Hf=(H.put bk (O (setFrom fk' ok ztm) tk false)).put (σ.next+1+1) (O [.string (Tx []),.int .i64 0,.int .i64 0] 38 false):=⟨_,rfl⟩
  have gf:jD H Hf (fun k=>k=bk∨k=σ.next+1+1):=by rw[hHf];exact (jD.put _ _ _ (S:=fun k=>k=bk∨k=σ.next+1+1) fun _=>.inl rfl).put'' _ _ fun _=>.inr rfl
  have gw2:jD (((σ.add (O [Rw false eI c.v.length (ivs c.v),.int .i64 c.s,Rw false etm c.p.length (jZ c.p),.int .i64 c.m] 31 false)).add (O [.int .i64 st.k,Rw false eI st.p.length (ivs st.p),.int .i64 st.a] 58 false)).add (O [.string (Tx []),.int .i64 0,.int .i64 0] 38 false)) H (fun k=>k=bq):=by rw[← hH];exact ((jD.add _ _ _).put' _ _ (by simp only[jB];omega)).put'' _ _ fun _=>rfl
  obtain ⟨c3,d1,d2,d3⟩:=h2.w Hf zT ztm rfl ((gw2.mono fun k hk e=>by obtain ⟨e1,e2,e3⟩:=hbb;show (k=bk∨(lk≤k∧k<hhk))∨_;rcases e1 with e1|e1<;>exact .inl (by omega)).trans (gf.mono fun k hk e=>by rcases e with e|e;exact .inl (.inl e);exact .inr ⟨by omega,by omega⟩) fun _ _ h=>h) (by rw[hHf,← q3];exact (jG _ _ _ hbke).trans (jP _ _ _ _)) (by cases cD0 Tryd.prog lo Hf with|agg h=>exact h)
  have gs:jD σ Hf (fun k=>k=bq∨k=bk∨k=σ.next+1+1):=(gq.mono fun _ _ h=>.inl h).trans gf fun _ _ h=>.inr h
  show StR _ _ _ _ _ _ _ ((H.put bk (O (setFrom fk' ok ztm) tk false)).put (σ.next+1+1) (O [.string (Tx []),.int .i64 0,.int .i64 0] 38 false))
  rw[← hHf]
  have hd2:setFrom (cs++[vv,trV f.st,.int .i64 f.n,.int .i64 f.key]) 0 c3=c3++[vv,trV f.st,.int .i64 f.n,.int .i64 f.key]:=by
   unfold setFrom
   rw[List.take_zero,List.nil_append,Nat.zero_add,d1,List.drop_left' hN.len]
  refine ⟨rfl,c3,vv,d1,d2.trans (by rw[hd2]),d3,VrR.fz rfl (VrR.grew hv gs (fun k h3 h4 h5=>by have:=hvb k h3 h4;rcases h5 with h5|h5|h5<;>omega)) hlm hf.v,gs.mono fun k hk h5=>?_⟩
  have h6:=h1.bi
  show _∨_
  rcases h5 with h5|h5|h5<;>omega
 by_cases k9:kx=9
 ·obtain rfl:kx=9:=k9
  obtain ⟨hse,y,z,rfl⟩:=hok.2.2.2.2.1 rfl
  have hcx:cx=tmC (.mk 9 ax bx sx ex [y,z]):=by cases h1.l.lt;rfl
  rw[hcx,qQ] at hcH
  have hkk:(Tm.mk 9 ax bx sx ex [y,z]).k=9:=rfl
  have hiff:(if (evF f.v ex).1=0 then [y,z].getD 1 zT else [y,z].getD 0 zT)=if (evF f.v ex).1=0 then z else y:=rfl
  rw[show kT c f st.a (.mk 9 ax bx sx ex [y,z])=⟨if (evF f.v ex).1=0 then z else y,f.v,f.st,f.key,[],0,(evF f.v ex).2⟩ from rfl,show stepT c f st.p st.a=gD f.t st.p (if (evF f.v ex).1=0 then z else y) by rw[stepT,← h1.x];rfl]
  have hbr:=eP1 G f.v 9 ax bx sx ex y z hse hvl (σ:=H) hlH (by omega) (vv:=vv) (fun σ' g=>VrR.fz rfl (hvH.grew g fun _ _ _ h=>h) (by omega) hf.v)
  generalize (if (evF f.v ex).1=0 then z else y)=x at *
  generalize (evF f.v ex).2=er at *
  simp(disch:=first|omega|(apply id;simp only[push_cast];try omega))only[push_cast,simprocAttr,hkk,hcH,hgH,heH,hbH,hlH,hgq,hne]
  refine jC.func (cap:=[]) (hbr) ?_
  rintro _ H3 ⟨rfl,g3⟩
  have hcH3:=g3.cellsE hcH (by omega) id
  have hgH3:=g3.cellsE hgH (by omega) id
  have heH3:=g3.cellsE heH (by omega) id
  have hbH3:=g3.cellsE hbH (by omega) id
  have hlH3:H3.lo=1:=by rw[g3.lo,hlH]
  have hbqlo3:H3.lo≤bq:=by omega
  simp(disch:=first|omega|(apply id;simp only[push_cast];try omega))only[push_cast,simprocAttr,hkk,hcH3,hgH3,heH3,hbH3,hlH3,hgq,hne,hst9 H3 hbqlo3]
  exact finH H3 g3 ⟨x,f.v,f.st,f.key,[],0,er⟩ x _ rfl rfl rfl rfl rfl (by unfold setFrom;rw[qM])
 exfalso
 have:=hok.2.2.2.2.2.2.2
 omega
theorem mL0 {f:Cf}:(cfC f).all one=true:=by
 unfold cfC
 rw[List.all_append,qJ0];rfl
theorem uQ2 (c:Co) (f:Cf) (st:St) {σ:jA} {bg m lo:Nat} {cs:List Value} {vv:Value} (hl:σ.lo=1) (hn:1≤σ.next) (hlo:1≤lo) (hc:cells σ bg=some (cs++[vv,trV f.st,.int .i64 f.n,.int .i64 f.key],35,false)) (hN:NTs σ lo m f.t cs) (hb:0<bg) (hbl:bg<lo) (hm:m≤σ.next) (hbn:bg<σ.next)
  (hp:st.p.length<1000000000) (ha:kF f.t st.p) (hv:VrR σ m f.v vv) (hf:SmF f) (hrl:∀ i:Nat,(f.st.getD i []).length<50000000000) (hvl:f.v.length<1000000000) (hok:SOk c f st.a (atT f.t st.p)) :
  jO (pp G) H0 17 [coV c,.pointer (some ⟨bg,0,none⟩),.agg ⟨stC st⟩] σ (fun v σ'=>v=.tuple ⟨[.agg ⟨[.string (Tx (kT c f st.a (atT f.t st.p)).en),.int .i64 (kT c f st.a (atT f.t st.p)).ek,.int .i64 0]⟩,.int .i64 (kT c f st.a (atT f.t st.p)).e]⟩∧
   cells σ' bg=some (cfC ⟨stepT c f st.p st.a,(kT c f st.a (atT f.t st.p)).v,(kT c f st.a (atT f.t st.p)).st,f.n,(kT c f st.a (atT f.t st.p)).key⟩,35,false)∧jD σ σ' (fun k=>k=bg∨lo≤k)):=by
 refine jO.drop (uP2 G c f st hl hn hlo hc hN hb hbl hm hbn hp ha hv hf hrl hvl hok) ?_
 generalize kT c f st.a (atT f.t st.p)=d
 generalize stepT c f st.p st.a=T
 rintro v σ' ⟨rfl,c',vv',h9,hg,hz,hzv,gr⟩
 have hlm:=hN.le
 have h5:=gr.next
 have h6:=gr.lo
 refine ⟨lo,_,yP1 lo bg (O (cfC ⟨T,d.v,d.st,f.n,d.key⟩) 35 false) σ',⟨rfl,?_,?_⟩,.id rfl,sU0 (by omega) hbl (by omega) hg ?_ mL0⟩
 ·unfold yP1
  exact jP _ _ _ _
 ·refine ⟨h5,h6,fun i hi hS=>?_⟩
  unfold yP1
  rw[jW _ _ _ (by omega),kN,if_pos (by simp only[Nat.blt_eq];omega)]
  exact gr.get i hi hS
 ·unfold cfC
  exact hz.app (.cons hzv (.cons (.id (yR0 _ (by omega) _)) (.cons (.id rfl) (.cons (.id rfl) .nil))))
structure Dv where
 f:Cf
 en:List UInt8
 ek:Int
 is:Bool
 e:Int
def doF (c:Co) (f:Cf) (pick:Int):Dv:=
 if pick<0∨(enF f.t).length≤pick∨gK c f=false then ⟨cfZ,[],0,false,12⟩
 else if 5000≤f.n then ⟨cfZ,[],0,false,10⟩
 else
  let st:=(enF f.t).getD pick.toNat ⟨0,[],0⟩
  let f':Cf:=⟨jF f.t,f.v,f.st,f.n,f.key⟩
  let d:=kT c f' st.a (atT f'.t st.p)
  if d.e≠0 then ⟨cfZ,[],0,false,d.e⟩
  else if W (W (zP0 (jF (stepT c f' st.p st.a)))+W (kU d.st)) > 2000 then ⟨cfZ,[],0,false,11⟩
  else ⟨⟨jF (stepT c f' st.p st.a),d.v,d.st,W (f.n+1),d.key⟩,d.en,d.ek,decide (st.k=1),0⟩
def dvV (r:Dv):Value:=.tuple ⟨[cfV r.f,.agg ⟨[.string (Tx r.en),.int .i64 r.ek,.int .i64 0]⟩,.bool r.is,.int .i64 r.e]⟩
theorem gA1 (n:Nat) (hn:0<n) (f:Cf):scL n (cfC f)=true:=by
 unfold cfC
 refine zS0 (qI0 n hn f.t) ?_
 simp only[scL,wS1 n hn,yR0 n hn,Ev.sc,Bool.and_true]
theorem oP0 (n:Nat) (hn:0<n) (r:Dv):Ev.sc n (dvV r)=true:=by
 unfold dvV cfV
 simp only[Ev.sc,scL,gA1 n hn,Bool.and_true,Bool.true_and]
structure DoOk (c:Co) (f:Cf):Prop where
 hc:SmC c
 hf:SmF f
 vl:f.v.length<1000000000
 rl:∀ i:Nat,(f.st.getD i []).length<50000000000
 rs:RS f.t
 hn:smT (jF f.t)=true
 ha:(uD (jF f.t)).length<400000000000
 hst:∀ st∈enF f.t,kF (jF f.t) st.p∧st.p.length<1000000000∧SOk c ⟨jF f.t,f.v,f.st,f.n,f.key⟩ st.a (atT (jF f.t) st.p)∧smT (stepT c ⟨jF f.t,f.v,f.st,f.n,f.key⟩ st.p st.a)=true∧smT (jF (stepT c ⟨jF f.t,f.v,f.st,f.n,f.key⟩ st.p st.a))=true∧
  kX (kT c ⟨jF f.t,f.v,f.st,f.n,f.key⟩ st.a (atT (jF f.t) st.p)).st
theorem nL0:∀ l:List St,(stCs l).length=l.length*3
 | []=>rfl
 | x :: l=>by rw[stCs,List.length_append,nL0 l,List.length_cons,show (stC x).length=3 from rfl];omega
theorem qG1 {l:List St} {i:Nat} {x:St} (h:l[i]?=some x):((stCs l).drop (i*3)).take 3=stC x:=by
 induction l generalizing i with
 | nil=>cases h
 | cons y l ih=>
  cases i with
  | zero=>cases h;rfl
  | succ i=>
   rw[stCs,show (i+1)*3=(stC y).length+i*3 by rw[show (stC y).length=3 from rfl];omega,← List.drop_drop,List.drop_left]
   exact ih h
theorem mL1 {P:Program} (h1:szT P eI=some 1) (h4:szT P eE=some 4) (h9:szT P etm=some 9) (h5:szT P eR=some 1) {n:Nat} {σ:jA}:FzV P n σ (.agg ⟨[.int .i64 0,.int .i64 0,.int .i64 0,.string (Tx []),.int .i64 0,.int .i64 0,.string (Tx []),.slice none 0 0,.slice none 0 0,.slice none 0 0,.slice none 0 0,.int .i64 0,.int .i64 0]⟩) (cfV cfZ):=
 .agg (.cons (.id rfl) (.cons (.id rfl) (.cons (.id rfl) (.cons (.id rfl) (.cons (.id rfl) (.cons (.id rfl) (.cons (.id rfl) (.cons (.nil h4 (by decide)) (.cons (.nil h9 (by decide)) (.cons (.nil h1 (by decide)) (.cons (.nil h5 (by decide)) (.cons (.id rfl) (.cons (.id rfl) .nil)))))))))))))
theorem do_f (c:Co) (f:Cf) (pick:Int) (h:DoOk c f):jI (pp G) H0 7 [coV c,cfV f,.int .i64 pick] (dvV (doF c f pick)):=by
 have hen:=yI1 G f.t h.hf.t h.hn h.ha
 have hfi:=fF0 G c f h.hc h.hf
 have hst:=h.hst
 have fin:∀ (e:Int) {σ:jA},FzV (pp G).P H0.next σ (.tuple ⟨[.agg ⟨[.int .i64 0,.int .i64 0,.int .i64 0,.string (Tx []),.int .i64 0,.int .i64 0,.string (Tx []),.slice none 0 0,.slice none 0 0,.slice none 0 0,.slice none 0 0,.int .i64 0,.int .i64 0]⟩,.agg ⟨[.string (Tx []),.int .i64 0,.int .i64 0]⟩,.bool false,.int .i64 e]⟩) (dvV ⟨cfZ,[],0,false,e⟩):=fun e σ=>.tup (.cons (mL1 rfl rfl rfl rfl) (.cons (.id rfl) (.cons (.id rfl) (.cons (.id rfl) .nil))))
 unfold doF
 generalize hE:enF f.t=L at *
 by_cases h1:pick<0
 ·rw[if_pos (.inl h1)]
  obtain ⟨⟨k,a,b,s,e,l⟩,v,st,n,key⟩:=f
  unfold coV coC cfV cfC ivV trV qD at hfi ⊢
  simp only[qQ,List.cons_append,List.nil_append] at hfi hen ⊢
  refine cE G fir7 (by kernel_rfl) (kL0 ..) fun hlo=>?_;rw[fC0]
  simp(disch:=first|omega|(apply id;simp only[push_cast];try omega))only[push_cast,simprocAttr]
  refine dK (hen) ?_
  unfold stsV
  simp(disch:=first|omega|(apply id;simp only[push_cast];try omega))only[push_cast,simprocAttr,h1]
  exact fin 12
 by_cases h2:(L.length:Int)≤pick
 ·rw[if_pos (.inr (.inl h2))]
  obtain ⟨⟨k,a,b,s,e,l⟩,v,st,n,key⟩:=f
  unfold coV coC cfV cfC ivV trV qD at hfi ⊢
  simp only[qQ,List.cons_append,List.nil_append] at hfi hen ⊢
  refine cE G fir7 (by kernel_rfl) (kL0 ..) fun hlo=>?_;rw[fC0]
  simp(disch:=first|omega|(apply id;simp only[push_cast];try omega))only[push_cast,simprocAttr]
  refine dK (hen) ?_
  unfold stsV
  simp(disch:=first|omega|(apply id;simp only[push_cast];try omega))only[push_cast,simprocAttr,h1,h2]
  exact fin 12
 by_cases h3:gK c f=false
 ·rw[if_pos (.inr (.inr h3))]
  rw[h3] at hfi
  obtain ⟨⟨k,a,b,s,e,l⟩,v,st,n,key⟩:=f
  unfold coV coC cfV cfC ivV trV qD at hfi ⊢
  simp only[qQ,List.cons_append,List.nil_append] at hfi hen ⊢
  refine cE G fir7 (by kernel_rfl) (kL0 ..) fun hlo=>?_;rw[fC0]
  simp(disch:=first|omega|(apply id;simp only[push_cast];try omega))only[push_cast,simprocAttr]
  refine dK (hen) ?_
  unfold stsV
  simp(disch:=first|omega|(apply id;simp only[push_cast];try omega))only[push_cast,simprocAttr,h1,h2]
  refine dK (hfi) ?_
  simp(disch:=first|omega|(apply id;simp only[push_cast];try omega))only[push_cast,simprocAttr]
  exact fin 12
 rw[if_neg (by rintro (e|e|e);exact h1 e;exact h2 e;exact h3 e)]
 have h3:gK c f=true:=by simpa using h3
 rw[h3] at hfi
 by_cases h4:5000≤f.n
 ·rw[if_pos h4]
  obtain ⟨⟨k,a,b,s,e,l⟩,v,st,n,key⟩:=f
  have h4:5000≤n:=h4
  unfold coV coC cfV cfC ivV trV qD at hfi ⊢
  simp only[qQ,List.cons_append,List.nil_append] at hfi hen ⊢
  refine cE G fir7 (by kernel_rfl) (kL0 ..) fun hlo=>?_;rw[fC0]
  simp(disch:=first|omega|(apply id;simp only[push_cast];try omega))only[push_cast,simprocAttr]
  refine dK (hen) ?_
  unfold stsV
  simp(disch:=first|omega|(apply id;simp only[push_cast];try omega))only[push_cast,simprocAttr,h1,h2]
  refine dK (hfi) ?_
  simp(disch:=first|omega|(apply id;simp only[push_cast];try omega))only[push_cast,simprocAttr,h4]
  exact fin 10
 rw[if_neg h4]
 obtain ⟨i,hi⟩:∃ i:Nat,pick=i:=⟨pick.toNat,by omega⟩
 subst hi
 have hil:i<L.length:=by omega
 obtain ⟨x,hx⟩:=qJ (l:=L) (i:=i) hil
 have hgd:L.getD ((i:Nat):Int).toNat ⟨0,[],0⟩=x:=by rw[Int.toNat_natCast,List.getD_eq_getElem?_getD,hx];rfl
 rw[hgd]
 obtain ⟨q1,q2,q3,q4,q5,q6⟩:=hst x (List.mem_of_getElem? hx)
 have hpt:=qG1 hx
 have hle2:i*3+3≤L.length*3:=by omega
 have hag:=fun (σ:jA) hl hn=>gM1 G f h.hf h.rs (σ:=σ) hl hn
 have hi2:((i:Nat):Int)<L.length:=by omega
 have hi3:¬ (L.length:Int)≤i:=h2
 have hstp:=fun (σ:jA) (bg m lo:Nat) (cs:List Value) (vv:Value)=>uQ2 G c ⟨jF f.t,f.v,f.st,f.n,f.key⟩ x (σ:=σ) (bg:=bg) (m:=m) (lo:=lo) (cs:=cs) (vv:=vv)
 have hsf:SmF ⟨jF f.t,f.v,f.st,f.n,f.key⟩:=⟨h.hn,h.hf.v,h.hf.st⟩
 have hrl:∀ i:Nat,((⟨jF f.t,f.v,f.st,f.n,f.key⟩:Cf).st.getD i []).length<50000000000:=h.rl
 have hvl:=h.vl
 dsimp only at q1 q2 q3 q4 q5 q6 hstp hsf hrl hvl ⊢
 generalize kT c ⟨jF f.t,f.v,f.st,f.n,f.key⟩ x.a (atT (jF f.t) x.p)=d at *
 generalize stepT c ⟨jF f.t,f.v,f.st,f.n,f.key⟩ x.p x.a=T at *
 unfold AgR at hag
 obtain ⟨⟨k,a,b,s,e,l⟩,v,st,n,key⟩:=f
 have h4:¬ 5000≤n:=h4
 dsimp only at q1 q2 q3 q4 q5 q6 hstp hsf hrl hvl hag ⊢
 generalize jF (.mk k a b s e l)=nt at *
 unfold coV coC cfV cfC ivV trV qD at hfi ⊢
 unfold cfV cfC ivV trV at hag
 simp only[qQ,List.cons_append,List.nil_append] at hfi hen hag ⊢
 refine cE G fir7 (by kernel_rfl) (kL0 ..) fun hlo=>?_;rw[fC0]
 simp(disch:=first|omega|(apply id;simp only[push_cast];try omega))only[push_cast,simprocAttr]
 refine dK (hen) ?_
 unfold stsV
 simp(disch:=first|omega|(apply id;simp only[push_cast];try omega))only[push_cast,simprocAttr,h1,h2]
 refine dK (hfi) ?_
 simp(disch:=first|omega|(apply id;simp only[push_cast];try omega))only[push_cast,simprocAttr,h4]
 refine jC.func (cap:=[]) (hag _ (by simp only[push_cast]) (by simp only[jB];omega)) ?_
 rintro _ σ1 ⟨cs,vv,m,rfl,hN,hV,hm,g1⟩
 have hl1:σ1.lo=1:=by rw[g1.lo];rfl
 have hn1:=g1.next
 simp only[jB,kI] at hn1 hN
 have hlm:=hN.le
 have h9:=hN.len
 have h91:=hN.one
 have c0:cells σ1 1=some ([Rw false eI c.v.length (ivs c.v),.int .i64 c.s,Rw false etm c.p.length (jZ c.p),.int .i64 c.m],31,false):=g1.cellsE (by simp(disch:=first|omega|(apply id;simp only[push_cast];try omega))only[push_cast,simprocAttr];first|done|rfl) (by simp only[jB,kI];omega) id
 have c2:cells σ1 3=some ([.int .i64 0,.int .i64 0,.int .i64 0,.string (Tx []),.int .i64 0,.int .i64 0,.string (Tx []),.slice none 0 0,.slice none 0 0,.slice none 0 0,.slice none 0 0,.int .i64 0,.int .i64 0],35,false):=g1.cellsE (by simp(disch:=first|omega|(apply id;simp only[push_cast];try omega))only[push_cast,simprocAttr];first|done|rfl) (by simp only[jB,kI];omega) id
 have c3:cells σ1 4=some ([.string (Tx []),.int .i64 0,.int .i64 0],38,false):=g1.cellsE (by simp(disch:=first|omega|(apply id;simp only[push_cast];try omega))only[push_cast,simprocAttr];first|done|rfl) (by simp only[jB,kI];omega) id
 have hL13:=eC0 h9 vv (Rw false eR st.length (trs st)) (.int .i64 n) (.int .i64 key)
 have hvo:Ev.one vv=true:=by rcases hV with ⟨_,rfl⟩|⟨b,rfl,_⟩<;>rfl
 have hal:(cs++[vv,Rw false eR st.length (trs st),.int .i64 n,.int .i64 key]).all one=true:=by rw[List.all_append,h91];simp only[List.all_cons,List.all_nil,hvo];rfl
 have hts:=mJ1 h9
 have hds:=yR1 h9
 have hs13:stDC 13 0 (.agg ⟨cs++[vv,Rw false eR st.length (trs st),.int .i64 n,.int .i64 key]⟩) σ1 3 (some ([.int .i64 0,.int .i64 0,.int .i64 0,.string (Tx []),.int .i64 0,.int .i64 0,.string (Tx []),.slice none 0 0,.slice none 0 0,.slice none 0 0,.slice none 0 0,.int .i64 0,.int .i64 0],35,false))=some (undef,σ1.put 3 (O (cs++[vv,Rw false eR st.length (trs st),.int .i64 n,.int .i64 key]) 35 false)):=by
  refine (eT0 (v:=.agg ⟨cs++[vv,Rw false eR st.length (trs st),.int .i64 n,.int .i64 key]⟩) _ _ _ hL13 hal (by omega) (by decide)).trans ?_
  unfold setFrom
  rw[show (Value.agg ⟨cs++[vv,Rw false eR st.length (trs st),.int .i64 n,.int .i64 key]⟩).cells.toList=cs++[vv,Rw false eR st.length (trs st),.int .i64 n,.int .i64 key] from rfl,hL13,List.take_zero,List.nil_append,show List.drop (0+13) [Value.int .i64 0,.int .i64 0,.int .i64 0,.string (Tx []),.int .i64 0,.int .i64 0,.string (Tx []),.slice none 0 0,.slice none 0 0,.slice none 0 0,.slice none 0 0,.int .i64 0,.int .i64 0]=[] from rfl,List.append_nil]
 have hsl:=nL0 L
 have hle3:i*3+3≤(stCs L).length:=by omega
 simp(disch:=first|omega|(apply id;simp only[push_cast];try omega))only[push_cast,simprocAttr,hl1,c0,c2,c3,hs13,h1,hi2,Int.toNat_natCast,hpt,hle3]
 obtain ⟨τ,hτ⟩:∃ τ,τ=σ1.put 3 (O (cs++[vv,Rw false eR st.length (trs st),.int .i64 n,.int .i64 key]) 35 false):=⟨_,rfl⟩
 rw[← hτ]
 have gτ:jD σ1 τ (fun k=>k=3):=by rw[hτ];exact jD.put _ _ _ fun _=>rfl
 have hnτ:τ.next=σ1.next:=by rw[hτ];rfl
 have hlτ:τ.lo=1:=by rw[gτ.lo,hl1]
 have t3:=gτ.cellsE c3 (by omega) (by omega)
 have t2:cells τ 3=some (cs++[vv,trV st,.int .i64 n,.int .i64 key],35,false):=by rw[hτ];exact jP _ _ _ _
 have hNτ:=hN.grew gτ (fun k h5 h6 e=>by omega) hm
 have hVτ:=hV.grew gτ (fun k h5 h6 e=>by omega)
 refine jC.func (cap:=[]) (hstp τ 3 m _ cs vv hlτ (by omega) (by omega) t2 hNτ (by omega) (by omega) (by omega) (by omega) q2 q1 hVτ hsf hrl hvl q3) ?_
 rintro _ σ2 ⟨rfl,e2,g2⟩
 have hl2:σ2.lo=1:=by rw[g2.lo,hlτ]
 have hn2:=g2.next
 have e3:=g2.cellsE t3 (by omega) (by show ¬ (_∨_);(try simp only[jB,kI]);omega)
 clear hτ hs13 hV hVτ hN hNτ t2 t3 c0 c2 c3 hstp hag g1 gτ hal hts hds hvo hL13
 clear g2
 have hnf:=fM0 G T q4
 have hsz:=nO0 G (jF T) q5
 have hrz:=nR1 G d.st q6
 generalize jF T=T2 at *
 obtain ⟨dt,dv,dst,dk,den,dek,de⟩:=d
 dsimp only at e2 hrz ⊢
 unfold trV at hrz
 obtain ⟨k',a',b',s',x',l'⟩:=T
 unfold cfC ivV trV at e2
 simp only[qQ,List.cons_append,List.nil_append] at e2
 by_cases he:de=0
 ·subst he
  rw[if_neg (fun h=>h rfl)]
  obtain ⟨k2,a2,b2,s2,x2,l2⟩:=T2
  simp(disch:=first|omega|(apply id;simp only[push_cast];try omega))only[push_cast,simprocAttr,hl2,e2,e3]
  refine dK (hnf) ?_
  simp(disch:=first|omega|(apply id;simp only[push_cast];try omega))only[push_cast,simprocAttr,hl2,e2,e3]
  refine dK (hsz) ?_
  simp(disch:=first|omega|(apply id;simp only[push_cast];try omega))only[push_cast,simprocAttr,hl2,e2,e3]
  refine dK (hrz) ?_
  simp(disch:=first|omega|(apply id;simp only[push_cast];try omega))only[push_cast,simprocAttr,hl2,e2,e3]
  have h1':0≤((i:Nat):Int):=by omega
  have hk3:(stCs L)[i*3]?=some (.int .i64 x.k):=by
   have h5:((stCs L).drop (i*3))[0]?=(stC x)[0]?:=by rw[← hpt,List.getElem?_take];rfl
   rw[List.getElem?_drop,Nat.add_zero] at h5
   exact h5
  by_cases h5:2000<IntKind.i64.wrap (W (zP0 (.mk k2 a2 b2 s2 x2 l2))+W (kU dst))
  ·rw[if_pos (by exact h5)]
   simp(disch:=first|omega|(apply id;simp only[push_cast];try omega))only[push_cast,simprocAttr,hl2,e2,e3,h5]
   exact fin 11
  ·rw[if_neg (by exact h5)]
   have hev:Go.Dv.eqv (.agg ⟨[.string (Tx den),.int .i64 dek,.int .i64 0]⟩)=true:=rfl
   simp(disch:=first|omega|(apply id;simp only[push_cast];try omega))only[push_cast,simprocAttr,hl2,e2,e3,h5,h1',hi2,Int.toNat_natCast,hk3,hev]
   exact FzV.id (oP0 1 (by decide) ⟨⟨.mk k2 a2 b2 s2 x2 l2,dv,dst,W (n+1),dk⟩,den,dek,decide (x.k=1),0⟩)
 ·rw[if_pos he]
  simp(disch:=first|omega|(apply id;simp only[push_cast];try omega))only[push_cast,simprocAttr,hl2,e2,e3,he]
  exact fin de
end
end Go.Proofs.YtdcjpmjmjinjmaaDoor
