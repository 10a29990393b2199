/-
  A part of the proof: what the program's functions hand back,as theorems. No condition but those that each theorem names.
-/
import Derived.Test.YtdcjpmjmjinjmaaDoorTe
import Derived.Test.YtdcjpmjmjinjmaaDoorExc
set_option linter.unusedSimpArgs false
set_option linter.unusedVariables false
namespace Go.Proofs.YtdcjpmjmjinjmaaDoor
open Go Go.RowKit Go.Ev Go.Dv
noncomputable section
set_option maxRecDepth 100000
variable (G:Nat×Nat)
theorem jO1 (a n:Int) (hn:0<n) (hn2:n<1000000000000):jI (pp G) H0 5 [.int .i64 a,.int .i64 n] (.int .i64 (eN0 a n)):=by
 refine cE G fir5 (by kernel_rfl) (mY0 ..) fun hlo=>?_;rw[wA2]
 have h0:¬ n=0:=by omega
 have h1:¬ n = -1:=by omega
 have h2:=nE0 (a:=a) hn
 unfold eN0 at h2 ⊢
 by_cases h:a.tmod n<0
 ·rw[if_pos h]
  rw[if_pos h] at h2
  have h3:IntKind.i64.wrap (a.tmod n+n)=a.tmod n+n:=W_in (by unfold In;omega)
  simp(disch:=first|omega|(apply id;simp only[push_cast];try omega))only[push_cast,simprocAttr,h,h0,h1,h3]
  exact .id rfl
 ·rw[if_neg h]
  rw[if_neg h] at h2
  simp(disch:=first|omega|(apply id;simp only[push_cast];try omega))only[push_cast,simprocAttr,h,h0,h1]
  exact .id rfl
theorem yZ1 (f:Cf):(cfV f).cells.toList=cfC f:=rfl
theorem mM0 (f:Cf):(cfC f).length=13:=by unfold cfC;rw[List.length_append,qM];rfl
theorem cfC_t (f:Cf):(cfC f).take 13=cfC f:=List.take_of_length_le (by rw[mM0];exact Nat.le_refl _)
theorem cfC_d (f:Cf):(cfC f).drop 13=[]:=List.drop_of_length_le (by rw[mM0];exact Nat.le_refl _)
theorem cfC_0 (f:Cf):(cfC f)[0]?=some (.int .i64 f.t.k):=by obtain ⟨⟨k,a,b,s,e,l⟩,v,st,n,key⟩:=f;rfl
theorem yS2 (f:Cf):(cfC f)[12]?=some (.int .i64 f.key):=by obtain ⟨⟨k,a,b,s,e,l⟩,v,st,n,key⟩:=f;rfl
theorem cfC_1 (f:Cf):(cfC f).all one=true:=mL0
theorem eN1 (f:Cf):Value.agg ⟨cfC f⟩=cfV f:=rfl
theorem yY1 (n:Nat) (hn:0<n) (f:Cf):Ev.sc n (cfV f)=true:=by unfold cfV;simp only[Ev.sc];exact gA1 n hn f
attribute [push_cast] yZ1 mM0 cfC_t cfC_d cfC_0 yS2 cfC_1 eN1 yY1
def qQ0:Co:=⟨[],0,[.mk 1 (-1) 0 [112,97,121] zE []],0⟩
theorem wZ2 (σ:jA):bsD (qq.m 26) (slT Tryd.prog 26) 1 [(0,.agg ⟨[.int .i64 1,.int .i64 (-1),.int .i64 0,.string (Tx [112,97,121]),.int .i64 0,.int .i64 0,.string (Tx []),.slice none 0 0,.slice none 0 0]⟩)] σ=some (Rw true 28 1 [.int .i64 1,.int .i64 (-1),.int .i64 0,.string (Tx [112,97,121]),.int .i64 0,.int .i64 0,.string (Tx []),.slice none 0 0,.slice none 0 0],σ):=by kernel_rfl
theorem dC0 (n:Nat) (σ:jA):FzV Tryd.prog n σ (.agg ⟨[.slice none 0 0,.int .i64 0,Rw true 28 1 [.int .i64 1,.int .i64 (-1),.int .i64 0,.string (Tx [112,97,121]),.int .i64 0,.int .i64 0,.string (Tx []),.slice none 0 0,.slice none 0 0],.int .i64 0]⟩) (coV qQ0):=
 .agg (.cons (.nil (size:=1) rfl (by decide)) (.cons (.id rfl) (.cons (.row (.cons (.id rfl) (.cons (.id rfl) (.cons (.id rfl) (.cons (.id rfl) (.cons (.id rfl) (.cons (.id rfl) (.cons (.id rfl) (.cons (.nil (size:=4) rfl (by decide)) (.cons (.nil (size:=9) rfl (by decide)) .nil)))))))))) (.cons (.id rfl) .nil))))
def lM0:Cf:=uV0 qQ0
def wB1:Cf:=(doF qQ0 lM0 0).f
theorem lN1:doB qQ0 lM0=true:=by kernel_rfl
theorem wW2:tlB qQ0 wB1 0=true:=by kernel_rfl
theorem wY2:lM0=⟨.mk 1 (-1) 0 [112,97,121] zE [],[],[],0,0⟩:=by kernel_rfl
theorem wX2:doF qQ0 lM0 0=⟨⟨.mk 14 0 (-1) [112,97,121] zE [],[],[],1,1⟩,[112,97,121],0,true,0⟩:=by kernel_rfl
theorem pay_2:doF qQ0 lM0 1=⟨cfZ,[],0,false,12⟩:=by kernel_rfl
theorem pay_3:nH1 qQ0 wB1 0 7=⟨⟨zT,[],[],1,1⟩,[112,97,121],0,7,true⟩:=by kernel_rfl
theorem pay_4:chkC qQ0=true:=by kernel_rfl
theorem dE1:jI (pp G) H0 4 [] (.bool true):=by
 have hc:SmC qQ0:=⟨by decide,by decide,by kernel_rfl⟩
 have h0:=gJ1 G qQ0 hc
 have h1:=do_f G qQ0 lM0 0 (mG1 lN1)
 have h2:=do_f G qQ0 lM0 1 (mG1 lN1)
 have h3:=uK2 G qQ0 wB1 0 7 (uH2 wW2)
 have h4:=yW1 G qQ0 hc
 rw[wX2] at h1
 rw[pay_2] at h2
 rw[pay_3] at h3
 rw[pay_4] at h4
 have e1:wB1=⟨.mk 14 0 (-1) [112,97,121] zE [],[],[],1,1⟩:=by unfold wB1;rw[wX2]
 rw[e1] at h3
 have e0:uV0 qQ0=⟨.mk 1 (-1) 0 [112,97,121] zE [],[],[],0,0⟩:=wY2
 rw[e0] at h0
 rw[wY2] at h1 h2
 have hz:FzL Tryd.prog H0.next H0 [.agg ⟨[.slice none 0 0,.int .i64 0,Rw true 28 1 [.int .i64 1,.int .i64 (-1),.int .i64 0,.string (Tx [112,97,121]),.int .i64 0,.int .i64 0,.string (Tx []),.slice none 0 0,.slice none 0 0],.int .i64 0]⟩] [coV qQ0]:=.cons (dC0 _ _) .nil
 refine cE G fir4 (by kernel_rfl) (kL0 ..) fun hlo=>?_;rw[wB2]
 unfold dvV at h1 h2
 unfold tvV at h3
 dsimp only at h1 h2 h3
 simp(disch:=first|omega|(apply id;simp only[push_cast];try omega))only[push_cast,simprocAttr,↓wZ2]
 refine jC.data (cap:=[]) (args:=[_]) h0 hz rfl rfl ?_
 simp(disch:=first|omega|(apply id;simp only[push_cast];try omega))only[push_cast,simprocAttr]
 refine jC.data (cap:=[]) (args:=[_,_,_]) h1 (.cons (dC0 _ _) (.cons (.id rfl) (.cons (.id rfl) .nil))) rfl rfl ?_
 simp(disch:=first|omega|(apply id;simp only[push_cast];try omega))only[push_cast,simprocAttr]
 refine jC.data (cap:=[]) (args:=[_,_,_]) h2 (.cons (dC0 _ _) (.cons (.id rfl) (.cons (.id rfl) .nil))) rfl rfl ?_
 simp(disch:=first|omega|(apply id;simp only[push_cast];try omega))only[push_cast,simprocAttr]
 refine jC.data (cap:=[]) (args:=[_,_,_,_]) h3 (.cons (dC0 _ _) (.cons (.id rfl) (.cons (.id rfl) (.cons (.id rfl) .nil)))) rfl rfl ?_
 simp(disch:=first|omega|(apply id;simp only[push_cast];try omega))only[push_cast,simprocAttr]
 refine jC.data (cap:=[]) (args:=[_]) h4 hz rfl rfl ?_
 simp(disch:=first|omega|(apply id;simp only[push_cast];try omega))only[push_cast,simprocAttr]
 rw[show (([112,97,121]:List UInt8) == [112,97,121])=true by simp]
 simp(disch:=first|omega|(apply id;simp only[push_cast];try omega))only[push_cast,simprocAttr]
 exact .id rfl
end
end Go.Proofs.YtdcjpmjmjinjmaaDoor
namespace Go.Proofs.YtdcjpmjmjinjmaaDoor
open Go Go.RowKit Go.Ev Go.Dv
noncomputable section
set_option maxRecDepth 1000000
variable (G:Nat×Nat)
def cT:Tm:=.mk 13 0 0 [] zE []
def gE0:Nat→Tm
 | 0=>cT
 | m+1=>.mk 12 0 0 [] zE [zT,gE0 m]
def bigT:Tm:=.mk 12 0 0 [] zE [.mk 3 0 0 [] zE [zT],cT]
def coF (t:Tm):Co:=⟨[],1,[t],0⟩
theorem jM2 (m:Nat) (hm:m<5):uV0 (coF (gE0 m))=⟨cT,[],[[]],0,0⟩:=by
 rcases (show m=0∨m=1∨m=2∨m=3∨m=4 by omega) with rfl|rfl|rfl|rfl|rfl<;>kernel_rfl
theorem jN2:uV0 (coF bigT)=⟨bigT,[],[[]],0,0⟩:=by kernel_rfl
theorem do_s (m:Nat) (hm:m<5) (n:Int):doF (coF (gE0 m)) ⟨cT,[],[[]],n,0⟩ 0=if 5000≤n then ⟨cfZ,[],0,false,10⟩ else ⟨⟨cT,[],[[]],W (n+1),0⟩,[],0,false,0⟩:=by
 rcases (show m=0∨m=1∨m=2∨m=3∨m=4 by omega) with rfl|rfl|rfl|rfl|rfl<;>kernel_rfl
theorem do_b1 (r:List Tm) (n:Int):doF (coF bigT) ⟨bigT,[],[r],n,0⟩ 0=if 5000≤n then ⟨cfZ,[],0,false,10⟩ else if W (W 1+W (kU [r++[zT]])) > 2000 then ⟨cfZ,[],0,false,11⟩ else ⟨⟨cT,[],[r++[zT]],W (n+1),0⟩,[],0,false,0⟩:=by kernel_rfl
theorem yJ2 (r:List Tm) (n:Int):doF (coF bigT) ⟨cT,[],[r],n,0⟩ 0=if 5000≤n then ⟨cfZ,[],0,false,10⟩ else if W (W 4+W (kU [r])) > 2000 then ⟨cfZ,[],0,false,11⟩ else ⟨⟨bigT,[],[r],W (n+1),0⟩,[],0,false,0⟩:=by kernel_rfl
theorem yI2:enF cT=[⟨13,[],0⟩]:=by kernel_rfl
theorem enF_b:enF bigT=[⟨3,[0],0⟩]:=by kernel_rfl
theorem rl_1 {r:List Tm} (h:r.length<40000000000) (i:Nat):([r].getD i []).length<50000000000:=by
 cases i with
 | zero=>show r.length<_;omega
 | succ i=>show ([]:List Tm).length<_;decide
theorem sm_1 {r:List Tm} (h:r.length<40000000000) (hs:smTs r=true):kX [r]:=⟨by show 1<_;omega,fun l hl=>by
 rw[List.mem_singleton] at hl
 subst hl
 exact ⟨by omega,hs⟩⟩
theorem ok_s (m:Nat) (hm:m<5) (n:Int):DoOk (coF (gE0 m)) ⟨cT,[],[[]],n,0⟩:=by
 have hc:okC (coF (gE0 m))=true:=by rcases (show m=0∨m=1∨m=2∨m=3∨m=4 by omega) with rfl|rfl|rfl|rfl|rfl<;>kernel_rfl
 refine ⟨fK0 hc,⟨rfl,by show 0<_;omega,sm_1 (by decide) rfl⟩,by show 0<_;omega,rl_1 (by decide),uT0 (by kernel_rfl),by kernel_rfl,by show (uD cT).length<_;decide +kernel,fun st hs=>?_⟩
 have hs:st∈enF cT:=hs
 rw[yI2,List.mem_singleton] at hs
 subst hs
 refine ⟨.nil,by show 0<_;omega,cR0 ?_,?_,?_,sm_1 (by decide) rfl⟩
 all_goals rcases (show m=0∨m=1∨m=2∨m=3∨m=4 by omega) with rfl|rfl|rfl|rfl|rfl<;>kernel_rfl
theorem ok_b1 {r:List Tm} (h:r.length<30000000000) (hs:smTs r=true) (n:Int):DoOk (coF bigT) ⟨bigT,[],[r],n,0⟩:=by
 refine ⟨fK0 (by kernel_rfl),⟨by kernel_rfl,by show 0<_;omega,sm_1 (by omega) hs⟩,by show 0<_;omega,rl_1 (by omega),uT0 (by kernel_rfl),by kernel_rfl,by show (uD (jF bigT)).length<_;decide +kernel,fun st hs2=>?_⟩
 have hs2:st∈enF bigT:=hs2
 rw[enF_b,List.mem_singleton] at hs2
 subst hs2
 refine ⟨kK0 (by kernel_rfl),by show 1<_;omega,cR0 (by kernel_rfl),by kernel_rfl,by kernel_rfl,?_⟩
 show kX [r++[zT]]
 exact sm_1 (by rw[List.length_append];show r.length+1<_;omega) (zN0 fun x hx=>by
  rcases List.mem_append.1 hx with h1|h1
  ·exact qA hs x h1
  ·rw[List.mem_singleton] at h1;subst h1;rfl)
theorem ok_b2 {r:List Tm} (h:r.length<30000000000) (hs:smTs r=true) (n:Int):DoOk (coF bigT) ⟨cT,[],[r],n,0⟩:=by
 refine ⟨fK0 (by kernel_rfl),⟨by kernel_rfl,by show 0<_;omega,sm_1 (by omega) hs⟩,by show 0<_;omega,rl_1 (by omega),uT0 (by kernel_rfl),by kernel_rfl,by show (uD (jF cT)).length<_;decide +kernel,fun st hs2=>?_⟩
 have hs2:st∈enF cT:=hs2
 rw[yI2,List.mem_singleton] at hs2
 subst hs2
 refine ⟨.nil,by show 0<_;omega,cR0 (by kernel_rfl),by kernel_rfl,by kernel_rfl,?_⟩
 show kX [r]
 exact sm_1 (by omega) hs
theorem yE0 (i:Nat):kU [List.replicate i zT]=i:=by
 have h:∀ i:Nat,uK (List.replicate i zT)=i:=fun i=>by
  induction i with
  | zero=>rfl
  | succ i ih=>rw[List.replicate_succ,uK,ih];show (1:Int)+i=_;omega
 show uK (List.replicate i zT)+0=_
 rw[h];omega
theorem uY1 (i:Nat):smTs (List.replicate i zT)=true:=zN0 fun x hx=>by rw[(List.mem_replicate.1 hx).2];rfl
end
end Go.Proofs.YtdcjpmjmjinjmaaDoor
namespace Go.Dv
open Go Go.RowKit Go.Ev
noncomputable section
structure qQ2 (P:Program) (n:Nat) (q:Nat→Bool) (σ σ1:jA):Prop where
 next:σ1.next=σ.next
 lo:σ1.lo=σ.lo
 nl:σ.lo≤n
 nn:n≤σ.next
 hq:∀ i,i<n→q i=true
 get:∀ i,(n≤i∧q i=true∧σ1.get i=none)∨(n≤i∧q i=false∧σ1.get i=σ.get i)∨(i<n∧σ1.get i=σ.get i)∨(σ.lo≤i∧(i<n∨q i=false)∧∃ cs cs1 e fr fr1 m,σ.get i=some ⟨.cells ⟨cs⟩ e fr,m⟩∧σ1.get i=some ⟨.cells ⟨cs1⟩ e fr1,m⟩∧FzL P n (uM q σ) cs cs1∧cs1.all one=true)
theorem yL1 {P:Program} {g:Gh} {n:Nat} {q:Nat→Bool} {σ σ1 h:jA} (hr:Rel g σ h) (hP:g.P=P) (k:qQ2 P n q σ σ1):Rel g (uM q σ) h∧Ext g σ h (g.all n (uM q σ)) σ1 h∧Rel (g.all n (uM q σ)) σ1 h:=by
 have hlon:=hr.lon
 have r0:Rel g (uM q σ) h:=hr.flt q (fun i hi=>k.hq i (by have:=k.nl;omega)) (F':=g.F) (fun b hb=>⟨(hr.frz b hb).1,fun i hi _=>(hr.frz b hb).2 i hi⟩) (fun b hb=>hb)
 have e0:Ext0 g h σ.next (g.all n (uM q σ)) h σ.next:=⟨rfl,Nat.le_refl _,fun _ _=>rfl,fun _ hb=>.inl hb,Nat.le_refl _,rfl,fun _ _ _=>rfl⟩
 have own:∀ i,uH σ1 i→uH σ i∧(i<n∨q i=false):=fun i ⟨h1,h2,h3⟩=>by
  rw[k.lo] at h1
  rw[k.next] at h2
  rcases k.get i with ⟨_,_,h4⟩|⟨_,h5,h4⟩|⟨h5,h4⟩|⟨_,h5,cs,cs1,e,fr,fr1,m,h6,_⟩
  ·rw[h4] at h3;cases h3
  ·rw[h4] at h3;exact ⟨⟨h1,h2,h3⟩,.inr h5⟩
  ·rw[h4] at h3;exact ⟨⟨h1,h2,h3⟩,.inl h5⟩
  ·exact ⟨⟨h1,h2,by rw[h6];rfl⟩,h5⟩
 have low:∀ i,i<σ.lo→σ1.get i=σ.get i:=fun i hi=>by
  have:=k.nl
  rcases k.get i with ⟨h5,_⟩|⟨h5,_⟩|⟨_,h4⟩|⟨h5,_⟩
  ·omega
  ·omega
  ·exact h4
  ·omega
 refine ⟨r0,⟨rfl,rfl,by rw[k.next];exact Nat.le_refl _,k.lo,Nat.le_refl _,rfl,fun _ _=>rfl,fun _ hb=>.inl hb,fun b hb=>?_,fun _ _ _=>rfl,fun i hi=>.inl (own i hi).1⟩,?_⟩
 ·rcases hb with hb|⟨i,hi,_,e⟩
  ·exact .inl hb
  ·exact .inr (.inr ⟨i,(jJ0 hi).1,e⟩)
 refine ⟨by rw[k.lo];exact hr.pos,by rw[k.lo];exact hr.lo,by rw[k.lo,k.next];exact hlon,hr.hlo,fun i hi=>?_,fun i y hi hy=>?_,fun i hi=>?_,fun i y hi hy=>?_,fun i hi=>hr.dlt i (by rw[k.next] at hi;exact hi),fun i hi=>hr.dlo i (own i hi).1,fun i j hi hj e=>hr.inj i j (own i hi).1 (own j hj).1 e,fun b hb=>?_,hr.wf⟩
 ·rw[k.lo] at hi
  rw[low i hi];exact hr.base i hi
 ·rw[k.lo] at hi
  rw[low i hi] at hy;exact hr.baseF i y hi hy
 ·rw[k.lo] at hi
  rw[low i hi];exact hr.baseD i hi
 ·rw[k.next] at hi ⊢
  rw[k.lo]
  rcases k.get i with ⟨_,_,h4⟩|⟨_,_,h4⟩|⟨_,h4⟩|⟨h5,h6,cs,cs1,e,fr,fr1,m,h7,h8,h9,h10⟩
  ·rw[h4] at hy;cases hy
  ·exact (hr.obj i y hi (by rw[← h4];exact hy)).ext e0 rfl
  ·exact (hr.obj i y hi (by rw[← h4];exact hy)).ext e0 rfl
  ·rw[h8] at hy
   cases hy
   obtain ⟨vs,e',q1,q2,q3,q4⟩:=hr.obj i _ hi h7
   exact ⟨vs,e',q1,q2,RVL.ext ⟨rfl,k.nn,fun _ _=>rfl,fun _ hb=>hb,Nat.le_refl _,rfl,fun _ _ _=>rfl⟩ _ _ (uU r0 hP k.nl k.nn h9 q3),h10⟩
 ·rcases hb with hb|⟨i,hi,hn,rfl⟩
  ·exact ⟨(hr.frz b hb).1,fun j hj=>(hr.frz b hb).2 j (own j hj).1⟩
  ·obtain ⟨hi1,hi2⟩:=jJ0 hi
   refine ⟨hr.dlt i hi1.2.1,fun j hj e=>?_⟩
   have:=hr.inj j i (own j hj).1 hi1 e
   subst this
   rcases (own j hj).2 with h1|h1
   ·omega
   ·rw[hi2] at h1;cases h1
theorem jC.pre {p:Par} {H:jA} {fv:FuncId} {args args':List Value} {σ σ1:jA} {n:Nat} {q:Nat→Bool} {K:Bool→Value→jA→Prop} (k:qQ2 p.P n q σ σ1) (hz:FzL p.P n (uM q σ) args args') (hc:jC p H (.func (.func fv) ⟨[]⟩ ⟨[]⟩) args' σ1 K):jC p H (.func (.func fv) ⟨[]⟩ ⟨[]⟩) args σ K:=by
 intro g h f vs hP hr hf hv
 obtain ⟨r0,x1,r1⟩:=yL1 hr hP.1 k
 have hf':RV (g.all n (uM q σ)) h σ1.next (.func (.func fv) ⟨[]⟩ ⟨[]⟩) f:=RV.ext (x1.e0 hr) _ _ hf
 have hv':RVL (g.all n (uM q σ)) h σ1.next args' vs:=by
  rw[k.next]
  exact RVL.ext ⟨rfl,k.nn,fun _ _=>rfl,fun _ hb=>hb,Nat.le_refl _,rfl,fun _ _ _=>rfl⟩ _ _ (uU r0 hP.1 k.nl k.nn hz hv)
 refine yB0.mono (hc _ h f vs (x1.ok hP) r1 hf' hv') ?_
 rintro u h' ⟨b,d,σ',hK,g',x,r',rv,hb⟩
 exact ⟨b,d,σ',hK,g',x1.trans x,r',rv,hb⟩
end
end Go.Dv
namespace Go.Proofs.YtdcjpmjmjinjmaaDoor
open Go Go.RowKit Go.Ev Go.Dv
noncomputable section
set_option maxRecDepth 100000
variable (G:Nat×Nat)
inductive I8 (s:List (List Tm)):Nat→S→Prop
 | mk (i:Nat) (iv n:Int) (h:jA) {x1 x2 x5 x6 x7 x8 x9 xA xB xC xD xE xF xG xH xI xJ xK xL xM xN xO xP xQ xR xS xT xU xV:Value} (hiv:iv=(i:Int)) (hi:i≤s.length) (hn:n=W (kU (s.take i))) (hl1:h.lo=1) (hl2:1≤h.next) :
  I8 s (s.length-i) ⟨(F32 (trV s) x1 x2 (.int .i64 n) (.int .i64 iv) x5 x6 x7 x8 x9 xA xB xC xD xE xF xG xH xI xJ xK xL xM xN xO xP xQ xR xS xT xU xV),[],h⟩
inductive I8b (s:List (List Tm)) (j:Nat) (l:List Tm):Nat→S→Prop
 | mk (i:Nat) (iv n:Int) (h:jA) {x1 x2 x6 x7 x8 x9 xA xB xC xD xE xF xG xH xI xJ xK xL xM xN xO xP xQ xR xS xT xU xV:Value} (hiv:iv=(i:Int)) (hi:i≤l.length) (hn:n=W (kU (s.take j)+uK (l.take i))) (hl1:h.lo=1) (hl2:1≤h.next) :
  I8b s j l (l.length-i) ⟨(F32 (trV s) x1 x2 (.int .i64 n) (.int .i64 j) (.int .i64 iv) x6 x7 x8 x9 xA xB xC xD xE xF xG xH xI xJ xK xL xM xN xO xP xQ xR xS xT xU xV),[],h⟩
theorem cO1 (s:List (List Tm)) (hs:kX s):jI (pp G) H0 8 [trV s] (.int .i64 (W (kU s))):=by
 have hsl:=hs.1
 refine cE G fir8 (by kernel_rfl) (qI2 ..) fun hlo=>?_;rw[uZ2]
 unfold trV
 simp(disch:=first|omega|(apply id;simp only[push_cast];try omega))only[push_cast,simprocAttr]
 refine WD.loop4 (q:=qq) (jX G) (by kernel_rfl) (I8 s) ?_ _ _ (I8.mk 0 0 _ _ rfl (Nat.zero_le _) rfl rfl (by decide))
 intro m s1 hI
 cases hI with|mk j jv n h hiv hi hn hl1 hl2=>
 subst hiv hn
 rw[qX1]
 unfold trV
 by_cases hjl:(j:Int)<s.length
 ·obtain ⟨l,hl⟩:=qJ (l:=s) (i:=j) (by omega)
  have hlm:=List.mem_of_getElem? hl
  obtain ⟨hll,hlt⟩:=hs.2 l hlm
  have hp:=cH0 hl
  have hle2:j<s.length:=by omega
  unfold qD at hp
  simp(disch:=first|omega|(apply id;simp only[push_cast];try omega))only[push_cast,simprocAttr,hjl,Int.toNat_natCast,hp,hle2,hl1]
  refine WD.loop4 (q:=qq) (jX G) (by kernel_rfl) (I8b s j l) ?_ _ _ (I8b.mk 0 0 _ _ rfl (Nat.zero_le _) (by rw[List.take_zero,uK,Int.add_zero]) (by first|assumption|(simp(disch:=first|omega|(apply id;simp only[push_cast];try omega))only[push_cast,simprocAttr,hl1];try omega)) (by first|assumption|(simp(disch:=first|omega|(apply id;simp only[push_cast];try omega))only[push_cast,simprocAttr,hl2];try omega)))
  intro m s1 hI
  cases hI with|mk i iv n h hiv hi hn hl1 hl2=>
  subst hiv hn
  rw[qV1]
  unfold trV
  by_cases hil:(i:Int)<l.length
  ·obtain ⟨x,hx⟩:=qJ (l:=l) (i:=i) (by omega)
   have hpx:=qV hx
   have hle3:i*9+9≤l.length*9:=by omega
   simp(disch:=first|omega|(apply id;simp only[push_cast];try omega))only[push_cast,simprocAttr,hjl,hil,Int.toNat_natCast,hp,hle2,hpx,hle3,hl1]
   refine dK (qP1 G x (qA hlt x (List.mem_of_getElem? hx))) ?_
   simp(disch:=first|omega|(apply id;simp only[push_cast];try omega))only[push_cast,simprocAttr,eY1]
   exact ⟨_,by omega,I8b.mk (i+1) _ _ _ (by first|rfl|omega) (by omega) (by rw[jR0 hx];congr 1;omega) (by first|assumption|(simp(disch:=first|omega|(apply id;simp only[push_cast];try omega))only[push_cast,simprocAttr,hl1];try omega)) (by first|assumption|(simp(disch:=first|omega|(apply id;simp only[push_cast];try omega))only[push_cast,simprocAttr,hl2];try omega))⟩
  ·have hie:i=l.length:=by omega
   subst hie
   simp(disch:=first|omega|(apply id;simp only[push_cast];try omega))only[push_cast,simprocAttr,hjl,hil,Int.toNat_natCast,hp,hle2,hl1]
   rw[qU1]
   simp(disch:=first|omega|(apply id;simp only[push_cast];try omega))only[push_cast,simprocAttr]
   exact ⟨_,by omega,I8.mk (j+1) _ _ _ (by first|rfl|omega) (by omega) (by rw[List.take_length,bN0 hl]) (by first|assumption|(simp(disch:=first|omega|(apply id;simp only[push_cast];try omega))only[push_cast,simprocAttr,hl1];try omega)) (by first|assumption|(simp(disch:=first|omega|(apply id;simp only[push_cast];try omega))only[push_cast,simprocAttr,hl2];try omega))⟩
 ·have hje:j=s.length:=by omega
  subst hje
  simp(disch:=first|omega|(apply id;simp only[push_cast];try omega))only[push_cast,simprocAttr,hjl]
  rw[qW1]
  rw[List.take_length]
  exact .id rfl
theorem q1 (b:Value) (σ:jA):bsD (qn.m 26) (slT Tryd.prog 26) 1 [(0,.agg ⟨[.int .i64 0,.int .i64 0,.int .i64 0,.string (Tx []),.int .i64 0,.int .i64 0,.string (Tx []),.slice none 0 0,.slice none 0 0]⟩)] σ=some (.slice (some ⟨σ.next,0,none⟩) 1 1,σ.add (O ztm 28 false)):=uS1 (c:=ztm) rfl rfl σ
def pV (b:Nat):List Value:=[.int .i64 3,.int .i64 0,.int .i64 0,.string (Tx []),.int .i64 0,.int .i64 0,.string (Tx []),.slice none 0 0,.slice (some ⟨b,0,none⟩) 1 1]
def cV:List Value:=[.int .i64 13,.int .i64 0,.int .i64 0,.string (Tx []),.int .i64 0,.int .i64 0,.string (Tx []),.slice none 0 0,.slice none 0 0]
def sV (b:Nat):List Value:=[.int .i64 12,.int .i64 0,.int .i64 0,.string (Tx []),.int .i64 0,.int .i64 0,.string (Tx []),.slice none 0 0,.slice (some ⟨b,0,none⟩) 2 2]
theorem q2 (b:Nat) (σ:jA):bsD (qn.m 26) (slT Tryd.prog 26) 2 [(0,.agg ⟨[.int .i64 3,.int .i64 0,.int .i64 0,.string (Tx []),.int .i64 0,.int .i64 0,.string (Tx []),.slice none 0 0,.slice (some ⟨b,0,none⟩) 1 1]⟩),(1,.agg ⟨[.int .i64 13,.int .i64 0,.int .i64 0,.string (Tx []),.int .i64 0,.int .i64 0,.string (Tx []),.slice none 0 0,.slice none 0 0]⟩)] σ=some (.slice (some ⟨σ.next,0,none⟩) 2 2,σ.add (O (pV b++cV) 28 false)):=rowN (c:=pV b) (d:=cV) rfl rfl rfl rfl σ
theorem q3 (b:Nat) (σ:jA):bsD (qn.m 26) (slT Tryd.prog 26) 1 [(0,.agg ⟨[.int .i64 12,.int .i64 0,.int .i64 0,.string (Tx []),.int .i64 0,.int .i64 0,.string (Tx []),.slice none 0 0,.slice (some ⟨b,0,none⟩) 2 2]⟩)] σ=some (.slice (some ⟨σ.next,0,none⟩) 1 1,σ.add (O (sV b) 28 false)):=uS1 (c:=sV b) rfl rfl σ
abbrev RU (G:Nat×Nat):jL→S→Prop:=jH Tryd.prog [.tmp 4] (fun v' σ'=>FzV (pp G).P H0.next σ' v' (.bool true))
def nB (big:Bool):Nat:=if big=true then 3993 else 5000
def stB (big:Bool) (i:Nat):Cf:=if big=true then (if i % 2=0 then ⟨bigT,[],[List.replicate (i / 2) zT],i,0⟩ else ⟨cT,[],[List.replicate ((i+1) / 2) zT],i,0⟩) else ⟨cT,[],[[]],i,0⟩
def tB (big:Bool) (m:Nat):Tm:=if big=true then bigT else gE0 m
theorem W_n {n:Int} (h0:0≤n) (h1:n<1000000):W n=n:=W_in (by unfold In;omega)
theorem st_ok (big:Bool) (m:Nat) (hm:m<5) (i:Nat) (hi:i≤5000):DoOk (coF (tB big m)) (stB big i):=by
 cases big with
 | false=>exact ok_s m hm i
 | true=>
  show DoOk (coF bigT) (if i % 2=0 then _ else _)
  split
  ·exact ok_b1 (by rw[List.length_replicate];omega) (uY1 _) _
  ·exact ok_b2 (by rw[List.length_replicate];omega) (uY1 _) _
theorem nJ1 (big:Bool) (m:Nat) (hm:m<5) (i:Nat) (hi:i<nB big):doF (coF (tB big m)) (stB big i) 0=⟨stB big (i+1),[],0,false,0⟩:=by
 cases big with
 | false=>
  have hi:i<5000:=hi
  show doF (coF (gE0 m)) ⟨cT,[],[[]],i,0⟩ 0=_
  rw[do_s m hm,if_neg (by omega),W_n (by omega) (by omega)]
  rfl
 | true=>
  have hi:i<3993:=hi
  show doF (coF bigT) (if i % 2=0 then _ else _) 0=_
  by_cases h2:i % 2=0
  ·rw[if_pos h2,do_b1,if_neg (by omega),← List.replicate_succ',yE0,W_n (n:=((i / 2+1:Nat):Int)) (by omega) (by omega),W_n (n:=1) (by omega) (by omega),W_n (by omega) (by omega),if_neg (by omega),W_n (by omega) (by omega)]
   unfold stB
   rw[if_pos rfl,if_neg (by omega),show (i+1+1) / 2=i / 2+1 by omega]
   rfl
  ·rw[if_neg h2,yJ2,if_neg (by omega),yE0,W_n (n:=(((i+1) / 2:Nat):Int)) (by omega) (by omega),W_n (n:=4) (by omega) (by omega),W_n (by omega) (by omega),if_neg (by omega),W_n (by omega) (by omega)]
   unfold stB
   rw[if_pos rfl,if_pos (by omega)]
   rfl
theorem cC1 (m:Nat) (hm:m<5):doF (coF (tB false m)) (stB false 5000) 0=⟨cfZ,[],0,false,10⟩:=by
 show doF (coF (gE0 m)) ⟨cT,[],[[]],(5000:Nat),0⟩ 0=_
 rw[do_s m hm,if_pos (by omega)]
theorem cD1 (m:Nat):doF (coF (tB true m)) (stB true 3993) 0=⟨cfZ,[],0,false,11⟩:=by
 have h:stB true 3993=⟨cT,[],[List.replicate 1997 zT],(3993:Nat),0⟩:=rfl
 rw[h]
 show doF (coF bigT) _ 0=_
 rw[yJ2,if_neg (by omega),yE0,W_n (n:=((1997:Nat):Int)) (by omega) (by omega),W_n (n:=4) (by omega) (by omega),W_n (by omega) (by omega),if_pos (by omega)]
theorem cE1 (big:Bool) (m:Nat) (hm:m<5):uV0 (coF (tB big m))=stB big 0:=by
 cases big with
 | false=>exact jM2 m hm
 | true=>exact jN2
def gS0 (T:Tm):List Value:=[Rw false eI 0 [],.int .i64 1,Rw false 28 1 (jZ [T]),.int .i64 0]
theorem yS1 (T:Tm):coV (coF T)=.agg ⟨gS0 T⟩:=rfl
theorem yL0 (n:Nat) (hn:0<n) (T:Tm):Ev.sc n (.agg ⟨gS0 T⟩)=true:=by
 have h1:=gU n hn [T]
 simp only[gS0,scL,Ev.sc,Rw,h1,Bool.and_true,Bool.true_and,Bool.and_eq_true,Nat.blt_eq]
 exact ⟨hn,hn⟩
theorem cB0 (n:Nat) (hn:0<n) (T:Tm) (f:Cf):scL n [.agg ⟨gS0 T⟩,cfV f,.int .i64 0]=true:=by
 simp only[scL,yL0 n hn T,yY1 n hn f,Bool.true_and]
 rfl
inductive JB (big:Bool) (T:Tm) (bf:Nat):Nat→S→Prop
 | mk (i:Nat) (iv:Int) (h:jA) {x0 x2 x3 x4 x6 x9 xA xB xC xD xE xF xG xH xI xJ xK xL xM xN xO xP xQ xR xS xT xU xV xW xX xY xZ yA yB yC yD yE yF yG yH yI yJ yK yL yM yN yO yP yQ yR yS yT yU yV yW yX yY yZ zA zB zC zD zF zG zH zI zJ zK zL zM zN zO zP zQ zR zS zU zV zW zX zY zZ wA wB:Value} (hiv:iv=(i:Int)) (hi:i≤nB big) (hl:h.lo=1) (c4:cells h 4=some (gS0 T,31,false)) (cf:cells h bf=some (cfC (stB big i),35,false)) (hb:4<bf) (hn:bf<h.next) :
  JB big T bf (6000-i) ⟨(F88 x0 (.bool big) x2 x3 x4 (.pointer (some ⟨4,0,none⟩)) x6 (.pointer (some ⟨bf,0,none⟩)) (.int .i64 iv) x9 xA xB xC xD xE xF xG xH xI xJ xK xL xM xN xO xP xQ xR xS xT xU xV xW xX xY xZ yA yB yC yD yE yF yG yH yI yJ yK yL yM yN yO yP yQ yR yS yT yU yV yW yX yY yZ zA zB zC zD zF zG zH zI zJ zK zL zM zN zO zP zQ zR zS zU zV zW zX zY zZ wA wB),[],h⟩
theorem kR1 (big:Bool) (m:Nat) (hm:m<5) {h:jA} {bf:Nat} (hl:h.lo=1) (c4:cells h 4=some (gS0 (tB big m),31,false)) (cf:cells h bf=some (cfC (stB big 0),35,false)) (hb:4<bf) (hn:bf<h.next) {x0 x2 x3 x4 x6 x9 xA xB xC xD xE xF xG xH xI xJ xK xL xM xN xO xP xQ xR xS xT xU xV xW xX xY xZ yA yB yC yD yE yF yG yH yI yJ yK yL yM yN yO yP yQ yR yS yT yU yV yW yX yY yZ zA zB zC zD zF zG zH zI zJ zK zL zM zN zO zP zQ zR zS zU zV zW zX zY zZ wA wB:Value} :
  WD (pp G) qn.H none (.loop zN1) ⟨(F88 x0 (.bool big) x2 x3 x4 (.pointer (some ⟨4,0,none⟩)) x6 (.pointer (some ⟨bf,0,none⟩)) (.int .i64 0) x9 xA xB xC xD xE xF xG xH xI xJ xK xL xM xN xO xP xQ xR xS xT xU xV xW xX xY xZ yA yB yC yD yE yF yG yH yI yJ yK yL yM yN yO yP yQ yR yS yT yU yV yW yX yY yZ zA zB zC zD zF zG zH zI zJ zK zL zM zN zO zP zQ zR zS zU zV zW zX zY zZ wA wB),[],h⟩ (@kR ⟨jU 2 (jQ (fun s1=>dc3 (pp G) qn none lX1 s1 (@kR ⟨RU G⟩)) (RU G))⟩):=by
 refine WD.loop4 (q:=qn) (jX G) (by kernel_rfl) (JB big (tB big m) bf) ?_ _ _ (JB.mk 0 0 h rfl (Nat.zero_le _) hl c4 cf hb hn)
 clear hl c4 cf hn
 intro mm s1 hI
 cases hI with|mk i iv h hiv hi hl c4 cf hb2 hn=>
 subst hiv
 have hnb:nB big≤5000:=by unfold nB;split<;>omega
 have hi6:(i:Int)<6000:=by omega
 have hok:=st_ok big m hm i (by omega)
 have hdo:=do_f G (coF (tB big m)) (stB big i) 0 hok
 rw[yS1] at hdo
 unfold gS0 at hdo c4
 rw[qZ1]
 by_cases hib:i<nB big
 ·rw[nJ1 big m hm i hib] at hdo
  unfold dvV at hdo
  dsimp only at hdo
  simp(disch:=first|omega|(apply id;simp only[push_cast];try omega))only[push_cast,simprocAttr,kJ,hi6,hl,c4,cf]
  refine jC.dataI hdo ⟨cB0 _ (by decide) _ _,cB0 _ (by omega) _ _,oP0 _ (by omega) ⟨stB big (i+1),[],0,false,0⟩⟩ ?_
  simp(disch:=first|omega|(apply id;simp only[push_cast];try omega))only[push_cast,simprocAttr,kJ,hi6,hl,c4,cf]
  refine ⟨_,by omega,JB.mk (i+1) _ _ (by first|rfl|omega) (by omega) (by first|assumption|(simp(disch:=first|omega|(apply id;simp only[push_cast];try omega))only[push_cast,simprocAttr,hl];try omega)) ?_ ?_ hb ?_⟩
  ·refine (jG _ _ _ (by omega)).trans ((jG _ _ _ (by omega)).trans ((jG _ _ _ (by omega)).trans ((qG _ _ (by simp only[jB];omega)).trans ((qG _ _ (by omega)).trans c4))))
  ·exact jP _ _ _ _
  ·simp only[jK,jB]
   omega
 ·have hie:i=nB big:=by omega
  subst hie
  cases big with
  | false=>
   rw[show nB false=5000 from rfl] at *
   rw[cC1 m hm] at hdo
   unfold dvV at hdo
   dsimp only at hdo
   simp(disch:=first|omega|(apply id;simp only[push_cast];try omega))only[push_cast,simprocAttr,kJ,hi6,hl,c4,cf]
   refine jC.dataI hdo ⟨cB0 _ (by decide) _ _,cB0 _ (by omega) _ _,oP0 _ (by omega) ⟨cfZ,[],0,false,10⟩⟩ ?_
   have h11:(cfC (stB false 5000))[11]?=some (.int .i64 5000):=rfl
   simp(disch:=first|omega|(apply id;simp only[push_cast];try omega))only[push_cast,simprocAttr,kJ,hi6,hl,c4,cf,h11]
   exact .id rfl
  | true=>
   rw[show nB true=3993 from rfl] at *
   rw[cD1 m] at hdo
   unfold dvV at hdo
   dsimp only at hdo
   simp(disch:=first|omega|(apply id;simp only[push_cast];try omega))only[push_cast,simprocAttr,kJ,hi6,hl,c4,cf]
   refine jC.dataI hdo ⟨cB0 _ (by decide) _ _,cB0 _ (by omega) _ _,oP0 _ (by omega) ⟨cfZ,[],0,false,11⟩⟩ ?_
   have h10:(cfC (stB true 3993))[10]?=some (trV [List.replicate 1997 zT]):=rfl
   have h9:(cfC (stB true 3993)).take 9=tmC cT:=rfl
   have hz1:=cO1 G [List.replicate 1997 zT] (sm_1 (by rw[List.length_replicate];decide) (uY1 _))
   have hz2:=qP1 G cT rfl
   rw[yE0,W_n (by omega) (by omega)] at hz1
   rw[show W (zP0 cT)=1 from rfl] at hz2
   simp(disch:=first|omega|(apply id;simp only[push_cast];try omega))only[push_cast,simprocAttr,kJ,hi6,hl,c4,cf,h10,h9]
   refine dK (hz1) ?_
   simp(disch:=first|omega|(apply id;simp only[push_cast];try omega))only[push_cast,simprocAttr,kJ,hi6,hl,c4,cf,h10,h9]
   refine dK (hz2) ?_
   simp(disch:=first|omega|(apply id;simp only[push_cast];try omega))only[push_cast,simprocAttr,kJ,hi6,hl,c4,cf,h10,h9]
   refine dK (hz1) ?_
   simp(disch:=first|omega|(apply id;simp only[push_cast];try omega))only[push_cast,simprocAttr,kJ,hi6,hl,c4,cf,h10,h9]
   exact .id rfl
theorem mA1 (big:Bool) (m:Nat) (hm:m<5) {h:jA} {C:List Value} (hl:h.lo=1) (hn:4<h.next) (c4:cells h 4=some ([.slice none 0 0,.int .i64 1,.slice (some ⟨3,0,none⟩) 1 1,.int .i64 0],31,false)) (c3:cells h 3=some (C,28,false)) (hC:C.length=9)
  (hz:FzL Tryd.prog 1 (uM (fun i=>!Nat.beq i 4) h) C (tmC (tB big m))) {x0 x2 x3 x4 x6 x7 x8 x9 xA xB xC xD xE xF xG xH xI xJ xK xL xM xN xO xP xQ xR xS xT xU xV xW xX xY xZ yA yB yC yD yE yF yG yH yI yJ yK yL yM yN yO yP yQ yR yS yT yU yV yW yX yY yZ zA zB zC zD zF zG zH zI zJ zK zL zM zN zO zP zQ zR zS zU zV zW zX zY zZ wA wB:Value} :
  dc3 (pp G) qn none fR0 ⟨(F88 x0 (.bool big) x2 x3 x4 (.pointer (some ⟨4,0,none⟩)) x6 x7 x8 x9 xA xB xC xD xE xF xG xH xI xJ xK xL xM xN xO xP xQ xR xS xT xU xV xW xX xY xZ yA yB yC yD yE yF yG yH yI yJ yK yL yM yN yO yP yQ yR yS yT yU yV yW yX yY yZ zA zB zC zD zF zG zH zI zJ zK zL zM zN zO zP zQ zR zS zU zV zW zX zY zZ wA wB),[],h⟩ (@kR ⟨RU G⟩):=by
 have hsT:smT (tB big m)=true:=by
  cases big with
  | true=>kernel_rfl
  | false=>rcases (show m=0∨m=1∨m=2∨m=3∨m=4 by omega) with rfl | rfl | rfl | rfl | rfl<;>kernel_rfl
 have h0:=gJ1 G (coF (tB big m)) ⟨by show 0<_;omega,by show 1<_;omega,by simp only[coF,smTs,hsT,Bool.and_true]⟩
 rw[cE1 big m hm,yS1] at h0
 have hq3:cells (uM (fun i=>!Nat.beq i 4) h) 3=some (C,28,false):=by rw[jD0 h (by rfl)];exact c3
 have hz4:FzL Tryd.prog 1 (uM (fun i=>!Nat.beq i 4) h) [.slice none 0 0,.int .i64 1,.slice (some ⟨3,0,none⟩) 1 1,.int .i64 0] (gS0 (tB big m)):=by
  refine .cons (.nil (size:=1) rfl (by decide)) (.cons (.id rfl) (.cons (.sl (by decide) hq3 (size:=9) rfl (by decide) (by omega) (.inl ⟨by simp only[UC];omega,Nat.le_refl _⟩) ?_) (.cons (.id rfl) .nil)))
  rw[List.drop_zero,List.take_of_length_le (by omega),kW]
  exact hz
 obtain ⟨fr,hg4⟩:=uI c4
 have hD:qQ2 (pp G).P 1 (fun i=>!Nat.beq i 4) h ((uM (fun i=>Nat.blt i 1 || Nat.beq i 4) h).put 4 (O (gS0 (tB big m)) 31 false)):=by
  refine ⟨rfl,rfl,by rw[hl];exact Nat.le_refl _,by omega,fun i hi=>?_,fun i=>?_⟩
  ·have hi0 : i = 0 := by
    have hi:i<1:=hi
    omega
   subst hi0
   rfl
  by_cases e:i=4
  ·subst e
   exact .inr (.inr (.inr ⟨by omega,.inr rfl,_,_,_,fr,(0,0),false,hg4,qO _ _,hz4,rfl⟩))
  ·rw[jW _ _ _ e,kN]
   by_cases h1:i<1
   ·obtain rfl:i=0:=by omega
    exact .inr (.inr (.inl ⟨by omega,rfl⟩))
   ·have hb4 : Nat.beq i 4 = false := by
     cases hb:Nat.beq i 4 with
     | false=>rfl
     | true=>exact absurd (Nat.eq_of_beq_eq_true hb) e
    have hb1:Nat.blt i 1=false:=by
     cases hb:Nat.blt i 1 with
     | false=>rfl
     | true=>rw[Nat.blt_eq] at hb;omega
    exact .inl ⟨by omega,by show (!Nat.beq i 4)=true;rw[hb4];rfl,by rw[hb4,hb1];rfl⟩
 rw[uA1]
 simp(disch:=first|omega|(apply id;simp only[push_cast];try omega))only[push_cast,simprocAttr,kJ,hl,c4]
 refine jC.pre hD (.cons (.agg hz4) .nil) ?_
 refine jC.dataI h0 ⟨by simp only[scL,yL0 _ (show 0<H0.next by decide),Bool.and_true],by simp only[scL,yL0 h.lo (by omega),Bool.and_true];exact yL0 h.lo (by omega) _,yY1 h.lo (by omega) _⟩ ?_
 generalize hσ:(uM (fun i=>Nat.blt i 1 || Nat.beq i 4) h).put 4 (O (gS0 (tB big m)) 31 false)=σ1
 have hn1:σ1.next=h.next:=by rw[← hσ];rfl
 have hl1:σ1.lo=1:=by rw[← hσ];exact hl
 have d4:cells σ1 4=some (gS0 (tB big m),31,false):=by rw[← hσ];exact jP _ _ _ _
 clear hσ
 simp(disch:=first|omega|(apply id;simp only[push_cast];try omega))only[push_cast,simprocAttr,kJ,hl1]
 refine kR1 G big m hm (bf:=σ1.next) (by simp only[wX,jN];exact hl1) ((jG _ _ _ (by omega)).trans ((qG _ _ (by omega)).trans d4)) (jP _ _ _ _) (by omega) (by simp only[jK,jB];omega)
def q34 (N i:Nat):Bool:=(!Nat.beq i 3&&!Nat.beq i 4)&&Nat.blt i N
theorem wQ2 {N i:Nat} (h:q34 N i=true):i≠3∧i≠4∧i<N:=by
 unfold q34 at h
 rw[Bool.and_eq_true,Bool.and_eq_true,Nat.blt_eq] at h
 refine ⟨fun e=>?_,fun e=>?_,h.2⟩
 ·subst e;cases h.1.1
 ·subst e;cases h.1.2
theorem wP2 {N i:Nat} (h3:i≠3) (h4:i≠4) (hN:i<N):q34 N i=true:=by
 unfold q34
 have h5:Nat.beq i 3=false:=by
  cases hb:Nat.beq i 3 with
  | false=>rfl
  | true=>exact absurd (Nat.eq_of_beq_eq_true hb) h3
 have h6:Nat.beq i 4=false:=by
  cases hb:Nat.beq i 4 with
  | false=>rfl
  | true=>exact absurd (Nat.eq_of_beq_eq_true hb) h4
 have h7:Nat.blt i N=true:=by rw[Nat.blt_eq];exact hN
 rw[h5,h6,h7];rfl
theorem wR2 {h:jA} {N i:Nat} {x:List Value×TypeId×Bool} (hx:cells (uM (q34 N) h) i=some x):(i≠3∧i≠4∧i<N)∧cells h i=some x:=by
 cases hq:q34 N i with
 | false=>
  unfold Ev.cells at hx
  rw[kN,hq] at hx
  simp at hx
 | true=>
  rw[jD0 h hq] at hx
  exact ⟨wQ2 hq,hx⟩
theorem q34_q {h:jA} {N:Nat} (i:Nat) (x:List Value×TypeId×Bool) (_:1≤i) (hx:cells (uM (q34 N) h) i=some x):cells (uM (fun i=>!Nat.beq i 4) h) i=some x:=by
 obtain ⟨⟨h3,h4,h5⟩,hx⟩:=wR2 hx
 rw[jD0 h]
 ·exact hx
 ·have h6 : Nat.beq i 4 = false := by
   cases hb:Nat.beq i 4 with
   | false=>rfl
   | true=>exact absurd (Nat.eq_of_beq_eq_true hb) h4
  rw[h6];rfl
theorem wS2 {h:jA} {N i:Nat} (h3:i≠3) (h4:i≠4) (hN:i<N) {x:List Value×TypeId×Bool} (hx:cells h i=some x):cells (uM (q34 N) h) i=some x:=by
 rw[jD0 h (wP2 h3 h4 hN)]
 exact hx
theorem zt_l {n:Nat} {σ:jA}:FzL Tryd.prog n σ ztm (tmC zT):=by cases cD0 Tryd.prog n σ with|agg h=>exact h
theorem c_l {n:Nat} {σ:jA}:FzL Tryd.prog n σ cV (tmC cT):=
 .cons (.id rfl) (.cons (.id rfl) (.cons (.id rfl) (.cons (.id rfl) (.cons (.id rfl) (.cons (.id rfl) (.cons (.id rfl) (.cons (.nil (size:=4) rfl (by decide)) (.cons (.nil (size:=9) rfl (by decide)) .nil))))))))
theorem s_l {σ:jA} {b:Nat} {cx cy:List Value} {x y:Tm} (hb:1≤b) (hc:cells σ b=some (cx++cy,28,false)) (hlx:cx.length=9) (hly:cy.length=9) (hx:FzL Tryd.prog 1 σ cx (tmC x)) (hy:FzL Tryd.prog 1 σ cy (tmC y)):FzL Tryd.prog 1 σ (sV b) (tmC (.mk 12 0 0 [] zE [x,y])):=by
 rw[qQ]
 refine .cons (.id rfl) (.cons (.id rfl) (.cons (.id rfl) (.cons (.id rfl) (.cons (.id rfl) (.cons (.id rfl) (.cons (.id rfl) (.cons (.nil (size:=4) rfl (by decide)) (.cons (.sl hb hc (size:=9) rfl (by decide) (by rw[List.length_append];omega) (.inl ⟨by simp only[UC];omega,Nat.le_refl _⟩) ?_) .nil))))))))
 rw[List.drop_zero,List.take_of_length_le (by rw[List.length_append];omega),show jZ [x,y]=tmC x++tmC y by rw[jZ,kW]]
 exact hx.app hy
theorem p_l {σ:jA} {b:Nat} (hb:1≤b) (hc:cells σ b=some (ztm,28,false)):FzL Tryd.prog 1 σ (pV b) (tmC (.mk 3 0 0 [] zE [zT])):=by
 rw[qQ]
 refine .cons (.id rfl) (.cons (.id rfl) (.cons (.id rfl) (.cons (.id rfl) (.cons (.id rfl) (.cons (.id rfl) (.cons (.id rfl) (.cons (.nil (size:=4) rfl (by decide)) (.cons (.sl hb hc (size:=9) rfl (by decide) (by decide) (.inl ⟨by simp only[UC];omega,Nat.le_refl _⟩) ?_) .nil))))))))
 rw[List.drop_zero,List.take_of_length_le (by decide),kW]
 exact zt_l
inductive JN (n:Int) (w:Nat):Nat→S→Prop
 | mk (i:Nat) (iv:Int) (h:jA) (C:List Value) {x2 x3 x4 x7 x8 x9 xA xB xC xD xE xF xG xH xI xJ xK xL xM xN xO xP xQ xR xS xT xU xV xW xX xY xZ yA yB yC yD yE yF yG yH yI yJ yK yL yM yN yO yP yQ yR yS yT yU yV yW yX yY yZ zA zB zC zD zF zG zH zI zJ zK zL zM zN zO zP zQ zR zS zU zV zW zX zY zZ wA wB:Value} (hiv:iv=(i:Int)) (hi:i≤w) (hl:h.lo=1) (hn:4<h.next) (c4:cells h 4=some ([.slice none 0 0,.int .i64 1,.slice (some ⟨3,0,none⟩) 1 1,.int .i64 0],31,false)) (c3:cells h 3=some (C,28,false)) (hC:C.length=9) (ho:C.all one=true) (hz:FzL Tryd.prog 1 (uM (q34 h.next) h) C (tmC (gE0 i))) :
  JN n w (w-i) ⟨(F88 (.int .i64 n) (.bool false) x2 x3 x4 (.pointer (some ⟨4,0,none⟩)) (.int .i64 iv) x7 x8 x9 xA xB xC xD xE xF xG xH xI xJ xK xL xM xN xO xP xQ xR xS xT xU xV xW xX xY xZ yA yB yC yD yE yF yG yH yI yJ yK yL yM yN yO yP yQ yR yS yT yU yV yW yX yY yZ zA zB zC zD zF zG zH zI zJ zK zL zM zN zO zP zQ zR zS zU zV zW zX zY zZ wA wB),[],h⟩
theorem kP2 (n:Int) (w:Nat) (hw:eN0 n 5=w) (hw5:w<5) {h:jA} {C:List Value} (hl:h.lo=1) (hn:4<h.next) (c4:cells h 4=some ([.slice none 0 0,.int .i64 1,.slice (some ⟨3,0,none⟩) 1 1,.int .i64 0],31,false)) (c3:cells h 3=some (C,28,false)) (hC:C.length=9) (ho:C.all one=true) (hz:FzL Tryd.prog 1 (uM (q34 h.next) h) C (tmC (gE0 0))) {x2 x3 x4 x7 x8 x9 xA xB xC xD xE xF xG xH xI xJ xK xL xM xN xO xP xQ xR xS xT xU xV xW xX xY xZ yA yB yC yD yE yF yG yH yI yJ yK yL yM yN yO yP yQ yR yS yT yU yV yW yX yY yZ zA zB zC zD zF zG zH zI zJ zK zL zM zN zO zP zQ zR zS zU zV zW zX zY zZ wA wB:Value} :
  WD (pp G) qn.H none (.loop zO1) ⟨(F88 (.int .i64 n) (.bool false) x2 x3 x4 (.pointer (some ⟨4,0,none⟩)) (.int .i64 0) x7 x8 x9 xA xB xC xD xE xF xG xH xI xJ xK xL xM xN xO xP xQ xR xS xT xU xV xW xX xY xZ yA yB yC yD yE yF yG yH yI yJ yK yL yM yN yO yP yQ yR yS yT yU yV yW yX yY yZ zA zB zC zD zF zG zH zI zJ zK zL zM zN zO zP zQ zR zS zU zV zW zX zY zZ wA wB),[],h⟩ (@kR ⟨jU 0 (jQ (fun s1=>dc3 (pp G) qn none fR0 s1 (@kR ⟨RU G⟩)) (RU G))⟩):=by
 refine WD.loop4 (q:=qn) (jX G) (by kernel_rfl) (JN n w) ?_ _ _ (JN.mk 0 0 h C rfl (Nat.zero_le _) hl hn c4 c3 hC ho hz)
 clear hl hn c4 c3 hC ho hz
 intro mm s1 hI
 cases hI with|mk i iv h C hiv hi hl hn c4 c3 hC ho hz=>
 subst hiv
 have hw1:=jO1 G n 5 (by decide) (by decide)
 rw[hw] at hw1
 have hCt:C.take 9=C:=List.take_of_length_le (by omega)
 have hCl:0+9≤C.length:=by omega
 rw[uB1]
 simp(disch:=first|omega|(apply id;simp only[push_cast];try omega))only[push_cast,simprocAttr,kJ]
 refine dK (hw1) ?_
 by_cases hiw:(i:Int)<w
 ·have hr2:∀ σ:jA,bsD (qn.m 26) (slT Tryd.prog 26) 2 [(0,.agg ⟨[.int .i64 0,.int .i64 0,.int .i64 0,.string (Tx []),.int .i64 0,.int .i64 0,.string (Tx []),.slice none 0 0,.slice none 0 0]⟩),(1,.agg ⟨C⟩)] σ=some (.slice (some ⟨σ.next,0,none⟩) 2 2,σ.add (O (ztm++C) 28 false)):=fun σ=>rowN (c:=ztm) (d:=C) rfl hC rfl ho σ
  have hCd:C.drop 9=[]:=List.drop_of_length_le (by omega)
  simp(disch:=first|omega|(apply id;simp only[push_cast];try omega))only[push_cast,simprocAttr,kJ,hiw,hl,c4,c3,hCt,↓hr2,hCl,hCd]
  refine ⟨_,by omega,JN.mk (i+1) _ _ (sV h.next) (by first|rfl|omega) (by omega) (by simp only[wX,jN];exact hl) (by simp only[jK,jB];omega) ((jG _ _ _ (by omega)).trans ((qG _ _ (by omega)).trans c4)) (jP _ _ _ _) rfl rfl ?_⟩
  refine s_l (b:=h.next) (x:=zT) (y:=gE0 i) (cx:=ztm) (cy:=C) (by omega) (wS2 (by omega) (by omega) (by simp only[jK,jB];omega) ((jG _ _ _ (by omega)).trans (qC _ _ _ _ rfl))) rfl hC zt_l (uY (fun j x _ hx=>?_) hz)
  obtain ⟨⟨h3,h4,h5⟩,hx⟩:=wR2 hx
  exact wS2 h3 h4 (by simp only[jK,jB];omega) ((jG _ _ _ h3).trans ((qG _ _ (by omega)).trans hx))
 ·have hie:i=w:=by omega
  subst hie
  simp(disch:=first|omega|(apply id;simp only[push_cast];try omega))only[push_cast,simprocAttr,kJ,hiw]
  exact mA1 G false i hw5 hl hn c4 c3 hC (uY q34_q hz)
theorem fuel_l (n:Int) (big:Bool):jI (pp G) H0 3 [.int .i64 n,.bool big] (.bool true):=by
 have hb1:=nE0 (a:=n) (n:=5) (by decide)
 obtain ⟨w,hw⟩:∃ w:Nat,eN0 n 5=w:=⟨(eN0 n 5).toNat,by omega⟩
 refine jI.cut (jO.fir4 (q:=qn) (jX G) fir3 (by kernel_rfl) rfl rfl (jY2 ..) (show NGG≤H0.lo by rw[lC1];decide) ?_)
 rw[wC2]
 simp(disch:=first|omega|(apply id;simp only[push_cast];try omega))only[push_cast,simprocAttr,kJ]
 refine dK (dE1 G) ?_
 simp(disch:=first|omega|(apply id;simp only[push_cast];try omega))only[push_cast,simprocAttr,↓q1 undef,↓q2,↓q3]
 cases big with
 | true=>
  simp(disch:=first|omega|(apply id;simp only[push_cast];try omega))only[push_cast,simprocAttr]
  refine mA1 G true 0 (by decide) (C:=sV 2) rfl (by decide) (by kernel_rfl) (by kernel_rfl) rfl ?_
  exact s_l (x:=.mk 3 0 0 [] zE [zT]) (y:=cT) (by decide) (by kernel_rfl) rfl rfl (p_l (b:=1) (by decide) (by kernel_rfl)) c_l
 | false=>
  have hs3:∀ (h:jA) (hlo:h.lo≤3),stDC 9 0 (.agg ⟨[.int .i64 13,.int .i64 0,.int .i64 0,.string (Tx []),.int .i64 0,.int .i64 0,.string (Tx []),.slice none 0 0,.slice none 0 0]⟩) h 3 (some (sV 2,28,false))=some (undef,h.put 3 (O cV 28 false)):=fun h hlo=>eT0 (v:=.agg ⟨cV⟩) (sV 2) _ _ rfl rfl hlo (by decide)
  simp(disch:=first|omega|(apply id;simp only[push_cast];try omega))only[push_cast,simprocAttr]
  rw[hs3 _ (by decide)]
  simp(disch:=first|omega|(apply id;simp only[push_cast];try omega))only[push_cast,simprocAttr]
  exact kP2 G n w hw (by omega) rfl (by decide) (by kernel_rfl) (by kernel_rfl) rfl rfl c_l
end
end Go.Proofs.YtdcjpmjmjinjmaaDoor
