/-
  A part of the proof: what the program's functions hand back,as theorems. No condition but those that each theorem names.
-/
import Derived.Test.YtgeakofgklcipaaTc
import Derived.Test.YtgeakofgklcipaaEve
import Derived.Test.YtgeakofgklcipaaExc
set_option linter.unusedSimpArgs false
set_option linter.unusedVariables false
namespace Go.Proofs.Ytgeakofgklcipaa
open Go Go.RowKit Go.Ev Go.Dv
noncomputable section
set_option maxRecDepth 100000
variable (G:Nat×Nat)
@[push_cast]theorem coV_sc (n:Nat) (hn:0<n) (c:Co):Ev.sc n (coV c)=true:=by simp[Ev.sc,scL,coV,coC,nX1 _ hn,zN0 _ hn]
theorem uE1 (N:Nat) (σ:jA) (k a b:Int) (s:List UInt8):FzV (pp G).P N σ (.agg ⟨[.int .i64 k,.int .i64 a,.int .i64 b,.string (Tx s),.int .i64 0,.int .i64 0,.string (Tx []),.slice none 0 0,.slice none 0 0]⟩) (tmV (.mk k a b s (.mk 0 0 [] []) [])):=.agg (.cons (.id rfl) (.cons (.id rfl) (.cons (.id rfl) (.cons (.id rfl) (.cons (.id rfl) (.cons (.id rfl) (.cons (.id rfl) (.cons (.nil (size:=4) rfl (by decide)) (.cons (.nil (size:=9) rfl (by decide)) .nil)))))))))
theorem wA2 (N:Nat) (σ:jA):FzV (pp G).P N σ (.agg ⟨ztm⟩) (tmV zT):=.agg (.cons (.id rfl) (.cons (.id rfl) (.cons (.id rfl) (.cons (.id rfl) (.cons (.id rfl) (.cons (.id rfl) (.cons (.id rfl) (.cons (.nil (size:=4) rfl (by decide)) (.cons (.nil (size:=9) rfl (by decide)) .nil)))))))))
theorem zK2 (p:Pg) (hv:p.v.length≤20) (hst:p.s.length≤10) (hd:p.d.length≤20) (hn:1≤p.d.length) (hs:∀ x∈p.d,smP (p.v.map Prod.fst) p.s x.2=true) :
  qL (pp G) H0 48 [pgV p] (fun d=>∃ t b,d=.tuple ⟨[tmV t,.bool b]⟩∧smT t=true∧(b=true→(tT1 p)[0]?=some t)∧b=decide (eF p=0)):=by
 have hlo:H0.lo≤H0.next:=Nat.le_refl _;refine qL.cut (jD.fir4 (q:=qq) (jJ G) fir48 (by kernel_rfl) rfl rfl (cS1 ..) (show NGG≤H0.lo by rw[jW];decide) ?_);rw[rW1]
 unfold pgV
 have hpo:(pgC p).all one=true:=rfl
 have hpl:(pgC p).length=3:=rfl
 have hpt:(pgC p).take 3=pgC p:=rfl
 simp(disch:=first|omega|(apply id;simp only[push_cast];try omega))only[push_cast,simprocAttr,hpo,hpl,hpt]
 rw[show Value.agg ⟨pgC p⟩=pgV p from rfl]
 refine jB.dataEI (tS1 G p hv hst hd hn hs) (by and_intros<;>first|rfl|(simp(disch:=first|omega|(apply id;simp only[push_cast];try omega))only[push_cast])) ?_
 rintro _ ⟨c,e,rfl,hcl,hsm,h1,hlp,hE⟩
 refine ⟨by simp(disch:=first|omega|(apply id;simp only[push_cast];try omega))only[push_cast,simprocAttr];first|done|rfl,?_⟩
 unfold coV coC qA ivV
 by_cases he:e=0
 ·subst he
  obtain ⟨y,hy⟩:=jM (l:=c.p) (i:=0) (h1 rfl)
  have hp:=uW hy
  have hyl:0<(c.p.length:Int):=by have:=h1 rfl;omega
  have hle:9≤c.p.length*9:=by have:=h1 rfl;omega
  rw[Nat.zero_mul,List.drop_zero] at hp
  have hcl':=qR c.p
  simp(disch:=first|omega|(apply id;simp only[push_cast];try omega))only[push_cast,simprocAttr,hp,hyl,hle,hcl']
  exact ⟨_,⟨y,true,rfl,qN hsm y (List.mem_of_getElem? hy),fun _=>by rw[← hlp rfl];exact hy,(decide_eq_true hE.symm).symm⟩,.id (by simp[Ev.sc,scL,fD0])⟩
 ·simp(disch:=first|omega|(apply id;simp only[push_cast];try omega))only[push_cast,simprocAttr,he]
  exact ⟨_,⟨zT,false,rfl,rfl,fun h=>(by cases h),(decide_eq_false (fun h=>he (hE.trans h))).symm⟩,.tup (.cons (wA2 G _ _) (.cons (.id rfl) .nil))⟩
def wtB (bits n:Int):Bool:=decide (jP (bits.fdiv (2 ^ min (IntKind.u64.wrap (n.tmod 20)).toNat 64)) 2=1)
def is3 (k:Int):Bool:=decide (k=3)
mutual
def wtF (bits:Int) (push:Bool):Tm→Int→Tm×Int
 | .mk k a b s e l,n=>
  if k=1 then (if (!push&&wtB bits n)=true then (.mk 14 n a s (.mk 0 0 [] []) [],W (n+1)) else ((.mk k a b s e (wtL bits (push || is3 k) l (W (n+1))).1,(wtL bits (push || is3 k) l (W (n+1))).2)))
  else (.mk k a b s e (wtL bits (push || is3 k) l n).1,(wtL bits (push || is3 k) l n).2)
def wtL (bits:Int) (push:Bool):List Tm→Int→List Tm×Int
 | [],n=>([],n)
 | x :: l,n=>((wtF bits push x n).1 :: (wtL bits push l (wtF bits push x n).2).1,(wtL bits push l (wtF bits push x n).2).2)
end
theorem qK1 (bits:Int) (push:Bool):∀ (l m:List Tm) (n:Int),wtL bits push (l++m) n=((wtL bits push l n).1++(wtL bits push m (wtL bits push l n).2).1,(wtL bits push m (wtL bits push l n).2).2)
 | [],m,n=>rfl
 | x :: l,m,n=>by rw[List.cons_append,wtL,qK1 bits push l m,wtL];rfl
theorem cV1 (bits:Int) (push:Bool) {l:List Tm} {i:Nat} {y:Tm} (h:l[i]?=some y) (n:Int):wtL bits push (l.take (i+1)) n=((wtL bits push (l.take i) n).1++[(wtF bits push y (wtL bits push (l.take i) n).2).1],(wtF bits push y (wtL bits push (l.take i) n).2).2):=by
 rw[jL h,qK1]
 rfl
theorem cY0 (bits:Int) (push:Bool):∀ (l:List Tm) (n:Int),(wtL bits push l n).1.length=l.length
 | [],n=>rfl
 | x :: l,n=>by rw[wtL];simp[cY0 bits push l]
mutual
theorem nB1 (bits:Int):∀ (x:Tm) (push:Bool) (n:Int),smT x=true→smT (wtF bits push x n).1=true
 | .mk k a b s e l,push,n,h=>by
  simp only[smT,Bool.and_eq_true,decide_eq_true_eq] at h
  rw[wtF]
  split
  ·split
   ·rfl
   ·simp only[smT,Bool.and_eq_true,decide_eq_true_eq,cY0]
    exact ⟨h.1,qJ1 bits l _ _ h.2⟩
  ·simp only[smT,Bool.and_eq_true,decide_eq_true_eq,cY0]
   exact ⟨h.1,qJ1 bits l _ _ h.2⟩
theorem qJ1 (bits:Int):∀ (l:List Tm) (push:Bool) (n:Int),smTs l=true→smTs (wtL bits push l n).1=true
 | [],push,n,h=>rfl
 | x :: l,push,n,h=>by
  simp only[smTs,Bool.and_eq_true] at h
  rw[wtL]
  simp only[smTs,Bool.and_eq_true]
  exact ⟨nB1 bits x _ _ h.1,qJ1 bits l _ _ h.2⟩
end
inductive I49 (σ:jA) (b:Nat) (bits:Int) (push:Bool) (x:Tm) (n0:Int):Nat→S→Prop
 | mk (i : Nat) (iv : Int) (h : jA) (q : Option Addr) (c : Nat) {x0 x5 x6 x7 xA xC xD xE xF xG xH xI xJ xK xL xM xN xO xP xQ xR xS xT xU xV xW xX xY xZ yA yB yC yD yE yF yG yH yI yJ yK yL yM yN yO yP yQ yR yS yT yU yV yW yX yY yZ zA zB zC zD zF zG : Value} (hiv : iv = (i : Int)) (hi : i ≤ x.l.length)
   (cw:cells h b=some ([.int .i64 (wtL bits (push || is3 x.k) (x.l.take i) n0).2],eI,false)) (c0:cells h σ.next=some (tmC x,etm,false)) (c1:cells h (σ.next+1)=some (ztm,etm,false))
   (c2:cells h (σ.next+1+1)=some ([.int .i64 x.k,.int .i64 x.a,.int .i64 x.b,.string (Tx x.s),.int .i64 x.e.k,.int .i64 x.e.n,.string (Tx x.e.s),Rw false eE x.e.l.length (uX x.e.l),.slice q i c],etm,false))
   (ho:qC h etm 9 q i c (jY (wtL bits (push || is3 x.k) (x.l.take i) n0).1)) (hq:∀ k,blk q k→σ.next+3≤k)
   (g:jC σ h (fun k=>k=b)) (hl2:σ.next+3≤h.next) :
  I49 σ b bits push x n0 (x.l.length-i) ⟨(F68 x0 (.int .i64 bits) (.pointer (some ⟨b,0,none⟩)) (.bool push) (.pointer (some ⟨σ.next,0,none⟩)) x5 x6 x7 (.pointer (some ⟨σ.next+1,0,none⟩)) (.pointer (some ⟨σ.next+1+1,0,none⟩)) xA (.int .i64 iv) xC xD xE xF xG xH xI xJ xK xL xM xN xO xP xQ xR xS xT xU xV xW xX xY xZ yA yB yC yD yE yF yG yH yI yJ yK yL yM yN yO yP yQ yR yS yT yU yV yW yX yY yZ zA zB zC zD zF zG),[],h⟩
def WaR (σ:jA) (b:Nat) (r:Tm×Int) (v:Value) (σ':jA):Prop:=v=tmV r.1∧σ'=σ.put b (O [.int .i64 r.2] eI false)
theorem fB0 (σ:jA) (b:Nat) (bits:Int) (push:Bool) (hb1:1≤b) (hb:b<σ.next) (hl0:σ.lo=1) (k a bb:Int) (s:List UInt8) (e:Ex) (l:List Tm) (hll:l.length<100000000000)
  (ih:∀ x∈l,∀ (σ:jA) (b:Nat) (n:Int) (push:Bool) (hc:cells σ b=some ([.int .i64 n],eI,false)) (hb1:1≤b) (hb:b<σ.next),
   jD (pp G) H0 49 [tmV x,.int .i64 bits,.pointer (some ⟨b,0,none⟩),.bool push] σ (WaR σ b (wtF bits push x n)))
  (h:jA) (n:Int) {x0 x5 x6 x7 xA xB xC xD xE xF xG xH xI xJ xK xL xM xN xO xP xQ xR xS xT xU xV xW xX xY xZ yA yB yC yD yE yF yG yH yI yJ yK yL yM yN yO yP yQ yR yS yT yU yV yW yX yY yZ zA zB zC zD zF zG:Value}
  (cw:cells h b=some ([.int .i64 n],eI,false)) (c0:cells h σ.next=some (tmC (.mk k a bb s e l),etm,false)) (c1:cells h (σ.next+1)=some (ztm,etm,false))
  (c2:cells h (σ.next+1+1)=some ([.int .i64 k,.int .i64 a,.int .i64 bb,.string (Tx s),.int .i64 e.k,.int .i64 e.n,.string (Tx e.s),Rw false eE e.l.length (uX e.l),.slice none 0 0],etm,false))
  (g:jC σ h (fun k=>k=b)) (hl2:σ.next+3≤h.next) :
  dc3 (pp G) qq none eH0 ⟨(F68 x0 (.int .i64 bits) (.pointer (some ⟨b,0,none⟩)) (.bool push) (.pointer (some ⟨σ.next,0,none⟩)) x5 x6 x7 (.pointer (some ⟨σ.next+1,0,none⟩)) (.pointer (some ⟨σ.next+1+1,0,none⟩)) xA xB xC xD xE xF xG xH xI xJ xK xL xM xN xO xP xQ xR xS xT xU xV xW xX xY xZ yA yB yC yD yE yF yG yH yI yJ yK yL yM yN yO yP yQ yR yS yT yU yV yW yX yY yZ zA zB zC zD zF zG),[],h⟩
   (@kR ⟨jE Try.prog [(.cell 8 etm)] (fun v σ'=>FzV (pp G).P (σ.put b (O [.int .i64 (wtL bits (push || is3 k) l n).2] eI false)).next σ' v (tmV (.mk k a bb s e (wtL bits (push || is3 k) l n).1))∧bM (pp G).P σ (σ.put b (O [.int .i64 (wtL bits (push || is3 k) l n).2] eI false)) σ')⟩):=by
 rw[sQ0]
 simp(disch:=first|omega|(apply id;simp only[push_cast];try omega))only[push_cast,simprocAttr]
 refine WD.loop4 (q:=qq) (jJ G) (by kernel_rfl) (I49 σ b bits push (.mk k a bb s e l) n) ?_ _ _ (I49.mk 0 0 h none 0 rfl (Nat.zero_le _) cw c0 c1 c2 (qC.nil _ _ _) (fun b hb=>by obtain ⟨o,s,e⟩:=hb;cases e) g hl2)
 clear cw c0 c1 c2 g hl2 h
 intro m s1 hI
 cases hI with|mk i iv h q c hiv hi cw c0 c1 c2 ho hq g hl2=>
 subst hiv
 simp only[Tm.k_mk,Tm.l_mk,Tm.a,Tm.b,Tm.s,Tm.e] at hi cw ho c2
 have hl1:h.lo=1:=by rw[g.lo,hl0]
 rw[sP0]
 by_cases hil:(i:Int)<l.length
 ·obtain ⟨x,hx⟩:=jM (l:=l) (i:=i) (by omega)
  have hp:=uW hx
  have hle:i*9+9≤l.length*9:=by omega
  have hsn:=cV1 bits (push || is3 k) hx n
  cases push with
  | false=>
   have hp2:∃ p2,is3 k=p2:=⟨_,rfl⟩
   obtain ⟨p2,hp2⟩:=hp2
   rw[Bool.false_or,hp2] at cw ho hsn
   have hp3:decide (k=3)=p2:=hp2
   simp(disch:=first|omega|(apply id;simp only[push_cast];try omega))only[push_cast,simprocAttr,hil,c0,c2,hp,hle,Int.toNat_natCast,hl1,hp3]
   refine jB.func (cap:=[]) (args:=[_,_,_,_]) (ih x (List.mem_of_getElem? hx) h b _ p2 cw hb1 (by omega)) ?_
   rintro _ _ ⟨rfl,rfl⟩
   have gp:jC h (h.put b (O [.int .i64 (wtF bits p2 x (wtL bits p2 (l.take i) n).2).2] eI false)) (fun k=>k=b):=jC.put _ _ _ fun _=>rfl
   have w1:cells (h.put b (O [.int .i64 (wtF bits p2 x (wtL bits p2 (l.take i) n).2).2] eI false)) b=some ([.int .i64 (wtL bits p2 (l.take (i+1)) n).2],eI,false):=by rw[hsn];simp(disch:=first|omega|(apply id;simp only[push_cast];try omega))only[push_cast,simprocAttr];first|done|rfl
   have p0:cells (h.put b (O [.int .i64 (wtF bits p2 x (wtL bits p2 (l.take i) n).2).2] eI false)) σ.next=_:=gp.cellsE c0 (by omega) (by omega)
   have p1:cells (h.put b (O [.int .i64 (wtF bits p2 x (wtL bits p2 (l.take i) n).2).2] eI false)) (σ.next+1)=_:=gp.cellsE c1 (by omega) (by omega)
   have pc:cells (h.put b (O [.int .i64 (wtF bits p2 x (wtL bits p2 (l.take i) n).2).2] eI false)) (σ.next+1+1)=_:=gp.cellsE c2 (by omega) (by omega)
   have ho':=ho.grew gp (fun k hk e=>by have:=hq k hk;omega)
   have hnp:(h.put b (O [.int .i64 (wtF bits p2 x (wtL bits p2 (l.take i) n).2).2] eI false)).next=h.next:=rfl
   have hlp:(h.put b (O [.int .i64 (wtF bits p2 x (wtL bits p2 (l.take i) n).2).2] eI false)).lo=h.lo:=rfl
   generalize h.put b (O [.int .i64 (wtF bits p2 x (wtL bits p2 (l.take i) n).2).2] eI false)=h1 at *
   simp(disch:=first|omega|(apply id;simp only[push_cast];try omega))only[push_cast,simprocAttr,pc,↓wR1,hlp,hl1]
   obtain ⟨a',c',σ',e',o',g',b'⟩:=gH (by_:=120) ho' (by omega) (by omega) (m:=1) (xs:=jY [(wtF bits p2 x (wtL bits p2 (l.take i) n).2).1]) (qR [_]) (kY _) (by omega)
   have hsn1:(wtL bits p2 (l.take (i+1)) n).1=(wtL bits p2 (l.take i) n).1++[(wtF bits p2 x (wtL bits p2 (l.take i) n).2).1]:=by rw[hsn]
   rw[← bD,← hsn1] at o'
   have hn':=g'.next
   have hl':=g'.lo
   have kw:cells σ' b=_:=g'.cellsE w1 (by omega) (fun hb=>by have:=hq _ hb;omega)
   have k0:cells σ' σ.next=_:=g'.cellsE p0 (by omega) (fun hb=>by have:=hq _ hb;omega)
   have k1:cells σ' (σ.next+1)=_:=g'.cellsE p1 (by omega) (fun hb=>by have:=hq _ hb;omega)
   have k2:cells σ' (σ.next+1+1)=_:=g'.cellsE pc (by omega) (fun hb=>by have:=hq _ hb;omega)
   have gg:jC σ σ' (fun k=>k=b):=(g.tr' gp fun _ _ h=>h).tr' g' (fun k hk hb=>by have:=hq _ hb;omega)
   have hb':∀ k,blk a' k→σ.next+3≤k:=fun k hk=>by
    rcases b' k hk with hk|hk
    ·exact hq k hk
    ·omega
   simp(disch:=first|omega|(apply id;simp only[push_cast];try omega))only[push_cast,simprocAttr,e',k2,hl',hlp,hl1]
   refine ⟨_,by simp only[Tm.l_mk];omega,I49.mk (i+1) _ _ a' c' (by first|rfl|omega) (by simp only[Tm.l_mk];omega) ?_ ?_ ?_ ?_ ?_ hb' ?_ ?_⟩
   all_goals try simp only[Tm.k_mk,Tm.l_mk,Tm.a,Tm.b,Tm.s,Tm.e,Bool.false_or,hp2]
   iterate 4 exact (by first|assumption|(simp(disch:=first|omega|(apply id;simp only[push_cast];try omega))only[push_cast,simprocAttr,kw,k0,k1];try omega))
   ·exact o'.grew (S:=fun k=>k=σ.next+1+1) (jC.put _ _ _ fun _=>rfl) (fun k hk e=>by have:=hb' k hk;omega)
   ·exact gg.put' _ _ (by omega)
   ·first|assumption|(simp(disch:=first|omega|(apply id;simp only[push_cast];try omega))only[push_cast,simprocAttr];try omega)
  | true=>
   rw[Bool.true_or] at cw ho hsn
   simp(disch:=first|omega|(apply id;simp only[push_cast];try omega))only[push_cast,simprocAttr,hil,c0,c2,hp,hle,Int.toNat_natCast,hl1]
   refine jB.func (cap:=[]) (args:=[_,_,_,_]) (ih x (List.mem_of_getElem? hx) h b _ true cw hb1 (by omega)) ?_
   rintro _ _ ⟨rfl,rfl⟩
   have gp:jC h (h.put b (O [.int .i64 (wtF bits true x (wtL bits true (l.take i) n).2).2] eI false)) (fun k=>k=b):=jC.put _ _ _ fun _=>rfl
   have w1:cells (h.put b (O [.int .i64 (wtF bits true x (wtL bits true (l.take i) n).2).2] eI false)) b=some ([.int .i64 (wtL bits true (l.take (i+1)) n).2],eI,false):=by rw[hsn];simp(disch:=first|omega|(apply id;simp only[push_cast];try omega))only[push_cast,simprocAttr];first|done|rfl
   have p0:cells (h.put b (O [.int .i64 (wtF bits true x (wtL bits true (l.take i) n).2).2] eI false)) σ.next=_:=gp.cellsE c0 (by omega) (by omega)
   have p1:cells (h.put b (O [.int .i64 (wtF bits true x (wtL bits true (l.take i) n).2).2] eI false)) (σ.next+1)=_:=gp.cellsE c1 (by omega) (by omega)
   have pc:cells (h.put b (O [.int .i64 (wtF bits true x (wtL bits true (l.take i) n).2).2] eI false)) (σ.next+1+1)=_:=gp.cellsE c2 (by omega) (by omega)
   have ho':=ho.grew gp (fun k hk e=>by have:=hq k hk;omega)
   have hnp:(h.put b (O [.int .i64 (wtF bits true x (wtL bits true (l.take i) n).2).2] eI false)).next=h.next:=rfl
   have hlp:(h.put b (O [.int .i64 (wtF bits true x (wtL bits true (l.take i) n).2).2] eI false)).lo=h.lo:=rfl
   generalize h.put b (O [.int .i64 (wtF bits true x (wtL bits true (l.take i) n).2).2] eI false)=h1 at *
   simp(disch:=first|omega|(apply id;simp only[push_cast];try omega))only[push_cast,simprocAttr,pc,↓wR1,hlp,hl1]
   obtain ⟨a',c',σ',e',o',g',b'⟩:=gH (by_:=120) ho' (by omega) (by omega) (m:=1) (xs:=jY [(wtF bits true x (wtL bits true (l.take i) n).2).1]) (qR [_]) (kY _) (by omega)
   have hsn1:(wtL bits true (l.take (i+1)) n).1=(wtL bits true (l.take i) n).1++[(wtF bits true x (wtL bits true (l.take i) n).2).1]:=by rw[hsn]
   rw[← bD,← hsn1] at o'
   have hn':=g'.next
   have hl':=g'.lo
   have kw:cells σ' b=_:=g'.cellsE w1 (by omega) (fun hb=>by have:=hq _ hb;omega)
   have k0:cells σ' σ.next=_:=g'.cellsE p0 (by omega) (fun hb=>by have:=hq _ hb;omega)
   have k1:cells σ' (σ.next+1)=_:=g'.cellsE p1 (by omega) (fun hb=>by have:=hq _ hb;omega)
   have k2:cells σ' (σ.next+1+1)=_:=g'.cellsE pc (by omega) (fun hb=>by have:=hq _ hb;omega)
   have gg:jC σ σ' (fun k=>k=b):=(g.tr' gp fun _ _ h=>h).tr' g' (fun k hk hb=>by have:=hq _ hb;omega)
   have hb':∀ k,blk a' k→σ.next+3≤k:=fun k hk=>by
    rcases b' k hk with hk|hk
    ·exact hq k hk
    ·omega
   simp(disch:=first|omega|(apply id;simp only[push_cast];try omega))only[push_cast,simprocAttr,e',k2,hl',hlp,hl1]
   refine ⟨_,by simp only[Tm.l_mk];omega,I49.mk (i+1) _ _ a' c' (by first|rfl|omega) (by simp only[Tm.l_mk];omega) ?_ ?_ ?_ ?_ ?_ hb' ?_ ?_⟩
   all_goals try simp only[Tm.k_mk,Tm.l_mk,Tm.a,Tm.b,Tm.s,Tm.e,Bool.true_or]
   iterate 4 exact (by first|assumption|(simp(disch:=first|omega|(apply id;simp only[push_cast];try omega))only[push_cast,simprocAttr,kw,k0,k1];try omega))
   ·exact o'.grew (S:=fun k=>k=σ.next+1+1) (jC.put _ _ _ fun _=>rfl) (fun k hk e=>by have:=hb' k hk;omega)
   ·exact gg.put' _ _ (by omega)
   ·first|assumption|(simp(disch:=first|omega|(apply id;simp only[push_cast];try omega))only[push_cast,simprocAttr];try omega)
 ·have hie:i=l.length:=by omega
  subst hie
  rw[List.take_length] at cw ho
  simp(disch:=first|omega|(apply id;simp only[push_cast];try omega))only[push_cast,simprocAttr,hil,c0]
  rw[sO0]
  have c1':=c1
  unfold ztm at c1'
  simp(disch:=first|omega|(apply id;simp only[push_cast];try omega))only[push_cast,simprocAttr,c1',c2,hl1]
  refine ⟨?_,.put1 (g.put' _ _ (by omega)) hb (by omega) (cs:=[.int .i64 (wtL bits (push || is3 k) l n).2]) ?_ (.ids rfl) rfl⟩
  ·unfold tmV
   have ho2:=ho.grew (S:=fun k=>k=σ.next+1) (jC.put h (σ.next+1) (O [.int .i64 k,.int .i64 a,.int .i64 bb,.string (Tx s),.int .i64 e.k,.int .i64 e.n,.string (Tx e.s),Rw false eE e.l.length (uX e.l),.slice q l.length c] etm false) fun _=>rfl) (fun k hk e=>by have:=hq k hk;omega)
   have hf:=qC.fz (P:=(pp G).P) (N:=σ.next) ho2 (by rfl) (by decide) (by omega) (.ids (gO _ (by omega) _)) (fun b hb=>by have:=hq b hb;omega)
   rw[uD1,cY0]
   exact .agg (.cons (.id rfl) (.cons (.id rfl) (.cons (.id rfl) (.cons (.id rfl) (.cons (.id rfl) (.cons (.id rfl) (.cons (.id rfl) (.cons (.id (cS0 _ (by omega) ..)) (.cons hf .nil)))))))))
  ·first|assumption|(simp(disch:=first|omega|(apply id;simp only[push_cast];try omega))only[push_cast,simprocAttr,cw];try omega)
theorem fC0 (bits:Int):∀ (x:Tm) (hs:smT x=true) (σ:jA) (b:Nat) (n:Int) (push:Bool) (hc:cells σ b=some ([.int .i64 n],eI,false)) (hb1:1≤b) (hb:b<σ.next),
   jD (pp G) H0 49 [tmV x,.int .i64 bits,.pointer (some ⟨b,0,none⟩),.bool push] σ (WaR σ b (wtF bits push x n))
 | .mk k a bb s e l,hs,σ,b,n,push,hc,hb1,hb=>by
  simp only[smT,Bool.and_eq_true,decide_eq_true_eq] at hs
  obtain ⟨⟨hll,hse⟩,hsl⟩:=hs
  have ih:∀ x∈l,∀ (σ:jA) (b:Nat) (n:Int) (push:Bool) (hc:cells σ b=some ([.int .i64 n],eI,false)) (hb1:1≤b) (hb:b<σ.next),
   jD (pp G) H0 49 [tmV x,.int .i64 bits,.pointer (some ⟨b,0,none⟩),.bool push] σ (WaR σ b (wtF bits push x n)):=fun x hx=>fC0 bits x (qN hsl x hx)
  clear hsl
  refine jD.wlog fun hl0 hH0 hp0 hlo=>?_;rw[kW] at hl0;refine jD.cut (jD.fir4 (q:=qq) (jJ G) fir49 (by kernel_rfl) rfl rfl (cK1 ..) (by rw[hl0];exact (show NGG≤1 by decide)) ?_);rw[rV1]
  have hne:¬ b=σ.next:=by omega
  have hne1:¬ b=σ.next+1:=by omega
  have hne2:¬ b=σ.next+1+1:=by omega
  have hloop:=@fB0 G σ b bits push hb1 hb hl0 k a bb s e l hll ih
  by_cases h1:k=1
  ·subst h1
   rw[wtF,if_pos rfl]
   cases push with
   | true=>
    rw[show (!true&&wtB bits n)=false from rfl,if_neg (by decide)]
    simp(disch:=first|omega|(apply id;simp only[push_cast];try omega))only[push_cast,simprocAttr,hc,Bool.not_true]
    refine hloop _ (W (n+1)) ?_ ?_ ?_ ?_ ?_ ?_
    ·first|assumption|(simp(disch:=first|omega|(apply id;simp only[push_cast];try omega))only[push_cast,simprocAttr,W];try omega)
    ·exact (by simp(disch:=first|omega|(apply id;simp only[push_cast];try omega))only[push_cast,simprocAttr];first|done|rfl)
    ·exact (by simp(disch:=first|omega|(apply id;simp only[push_cast];try omega))only[push_cast,simprocAttr];first|done|rfl)
    ·exact (by simp(disch:=first|omega|(apply id;simp only[push_cast];try omega))only[push_cast,simprocAttr];first|done|rfl)
    ·exact (by repeat (first|exact jC.refl _ _|assumption|(refine jC.put'' ?_ _ _ (by intro _;first|rfl|omega|(simp only[push_cast] at *;omega)))|(refine jC.add' ?_ _)))
    ·first|assumption|(simp(disch:=first|omega|(apply id;simp only[push_cast];try omega))only[push_cast,simprocAttr];try omega)
   | false=>
    have hcv:∀ n h,cvV Try.prog 3 105 (.int .i64 n) h=some (.int .u64 (IntKind.u64.wrap n)):=fun n h=>oL1 kP0
    have hnn:0≤IntKind.u64.wrap (n.tmod 20):=by rw[IntKind.wrap_u64];omega
    have hbt:IntKind.i64.bits=64:=rfl
    simp(disch:=first|omega|(apply id;simp only[push_cast];try omega))only[push_cast,simprocAttr,hc,Bool.not_false,hcv,hnn,hbt]
    refine jB.dataI (qM1 G (bits.fdiv (2 ^ min (IntKind.u64.wrap (n.tmod 20)).toNat 64)) 2 (by omega) (by omega)) (by and_intros<;>first|rfl|(simp(disch:=first|omega|(apply id;simp only[push_cast];try omega))only[push_cast])) ?_
    by_cases hw:jP (bits.fdiv (2 ^ min (IntKind.u64.wrap (n.tmod 20)).toNat 64)) 2=1
    ·have hwb:wtB bits n=true:=by unfold wtB;rw[hw];rfl
     rw[hwb,if_pos (by decide)]
     simp(disch:=first|omega|(apply id;simp only[push_cast];try omega))only[push_cast,simprocAttr,hw,hc]
     refine ⟨uE1 G _ _ _ _ _ _,.put1 (by repeat (first|exact jC.refl _ _|assumption|(refine jC.put'' ?_ _ _ (by intro _;first|rfl|omega|(simp only[push_cast] at *;omega)))|(refine jC.add' ?_ _))) hb (by omega) (cs:=[.int .i64 (W (n+1))]) ?_ (.ids rfl) rfl⟩
     first|assumption|(simp(disch:=first|omega|(apply id;simp only[push_cast];try omega))only[push_cast,simprocAttr,W];try omega)
    ·have hwb:wtB bits n=false:=by unfold wtB;rw[decide_eq_false hw]
     rw[hwb,if_neg (by decide)]
     simp(disch:=first|omega|(apply id;simp only[push_cast];try omega))only[push_cast,simprocAttr,hw]
     refine hloop _ (W (n+1)) ?_ ?_ ?_ ?_ ?_ ?_
     ·first|assumption|(simp(disch:=first|omega|(apply id;simp only[push_cast];try omega))only[push_cast,simprocAttr,W];try omega)
     ·exact (by simp(disch:=first|omega|(apply id;simp only[push_cast];try omega))only[push_cast,simprocAttr];first|done|rfl)
     ·exact (by simp(disch:=first|omega|(apply id;simp only[push_cast];try omega))only[push_cast,simprocAttr];first|done|rfl)
     ·exact (by simp(disch:=first|omega|(apply id;simp only[push_cast];try omega))only[push_cast,simprocAttr];first|done|rfl)
     ·exact (by repeat (first|exact jC.refl _ _|assumption|(refine jC.put'' ?_ _ _ (by intro _;first|rfl|omega|(simp only[push_cast] at *;omega)))|(refine jC.add' ?_ _)))
     ·first|assumption|(simp(disch:=first|omega|(apply id;simp only[push_cast];try omega))only[push_cast,simprocAttr];try omega)
  ·rw[wtF,if_neg h1]
   simp(disch:=first|omega|(apply id;simp only[push_cast];try omega))only[push_cast,simprocAttr,h1]
   refine hloop _ n ?_ ?_ ?_ ?_ ?_ ?_
   ·first|assumption|(simp(disch:=first|omega|(apply id;simp only[push_cast];try omega))only[push_cast,simprocAttr,hc];try omega)
   ·exact (by simp(disch:=first|omega|(apply id;simp only[push_cast];try omega))only[push_cast,simprocAttr];first|done|rfl)
   ·exact (by simp(disch:=first|omega|(apply id;simp only[push_cast];try omega))only[push_cast,simprocAttr];first|done|rfl)
   ·exact (by simp(disch:=first|omega|(apply id;simp only[push_cast];try omega))only[push_cast,simprocAttr];first|done|rfl)
   ·exact (by repeat (first|exact jC.refl _ _|assumption|(refine jC.put'' ?_ _ _ (by intro _;first|rfl|omega|(simp only[push_cast] at *;omega)))|(refine jC.add' ?_ _)))
   ·first|assumption|(simp(disch:=first|omega|(apply id;simp only[push_cast];try omega))only[push_cast,simprocAttr];try omega)
 termination_by x=>SizeOf.sizeOf x
inductive K47 (f:Bool) (σ:jA) (v s:Int) (l:List Rb):Nat→S→Prop
 | mk (i : Nat) (iv : Int) (h : jA) (q : Option Addr) (c : Nat) {x0 x5 x6 x7 x8 x9 xA xB xC xD xE xF xG xH xI xJ xK xL xM xN xO xP xQ xR xS xT xU xV xW xX xY xZ yA yB yC yD yE yF yG yH yI yJ yK yL yM yN yO yP yQ yR yS yT yU yV : Value} (hiv : iv = (i : Int)) (hi : i ≤ 3)
   (c0:cells h σ.next=some ([.int .i64 v,.int .i64 s,Rw f erb l.length (rbCs l)],53,false)) (c1:cells h (σ.next+1)=some ([.slice none 0 0,.slice none 0 0,.slice none 0 0],73,false))
   (c2:cells h (σ.next+1+1)=some ([.slice q i c,Rw false eS 2 (nss jU),.slice none 0 0],73,false)) (ho:qC h eVr 2 q i c (vrs ((varL v).take i))) (hq:∀ b,blk q b→σ.next+3≤b) (hl1:h.lo=1) (hl2:σ.next+3≤h.next) (g:jC σ h (fun _=>False)) :
  K47 f σ v s l (3-i) ⟨(F58 x0 (.pointer (some ⟨σ.next,0,none⟩)) (.pointer (some ⟨σ.next+1,0,none⟩)) (.pointer (some ⟨σ.next+1+1,0,none⟩)) (.int .i64 iv) x5 x6 x7 x8 x9 xA xB xC xD xE xF xG xH xI xJ xK xL xM xN xO xP xQ xR xS xT xU xV xW xX xY xZ yA yB yC yD yE yF yG yH yI yJ yK yL yM yN yO yP yQ yR yS yT yU yV),[],h⟩
inductive K47b (f:Bool) (σ:jA) (v s:Int) (l:List Rb) (q:Option Addr) (c:Nat):Nat→S→Prop
 | mk (i : Nat) (iv : Int) (h : jA) (q2 : Option Addr) (k : Nat) (cs : List Value) {x0 x4 x6 x7 x8 x9 xA xB xC xD xE xF xG xH xI xJ xK xL xM xN xO xP xQ xR xS xT xU xV xW xX xY xZ yA yB yC yD yE yF yG yH yI yJ yK yL yM yN yO yP yQ yR yS yT yU yV : Value} (hiv : iv = (i : Int)) (hi : i ≤ 5)
   (c0:cells h σ.next=some ([.int .i64 v,.int .i64 s,Rw f erb l.length (rbCs l)],53,false)) (c1:cells h (σ.next+1)=some ([.slice none 0 0,.slice none 0 0,.slice none 0 0],73,false))
   (c2:cells h (σ.next+1+1)=some ([.slice q 3 c,Rw false eS 2 (nss jU),.slice q2 i k],73,false)) (ho:qC h eVr 2 q 3 c (vrs (varL v))) (hq:∀ b,blk q b→σ.next+3≤b)
   (ho2:qC h eDf 9 q2 i k cs) (hq2:∀ b,blk q2 b→σ.next+3≤b∧¬ blk q b) (hcs:∀ τ,FzL (pp G).P 1 τ cs (dfs ((defL l).take i))) (hl1:h.lo=1) (hl2:σ.next+3≤h.next) (g:jC σ h (fun _=>False)) :
  K47b f σ v s l q c (5-i) ⟨(F58 x0 (.pointer (some ⟨σ.next,0,none⟩)) (.pointer (some ⟨σ.next+1,0,none⟩)) (.pointer (some ⟨σ.next+1+1,0,none⟩)) x4 (.int .i64 iv) x6 x7 x8 x9 xA xB xC xD xE xF xG xH xI xJ xK xL xM xN xO xP xQ xR xS xT xU xV xW xX xY xZ yA yB yC yD yE yF yG yH yI yJ yK yL yM yN yO yP yQ yR yS yT yU yV),[],h⟩
def PmR (σ:jA) (v:Int) (l:List Rb) (w:Value) (σ':jA):Prop:=∃ q c q2 k cs,w=.agg ⟨[.slice q 3 c,Rw false eS 2 (nss jU),.slice q2 5 k]⟩∧qC σ' eVr 2 q 3 c (vrs (varL v))∧(∀ b,blk q b→σ.next≤b)∧qC σ' eDf 9 q2 5 k cs∧(∀ b,blk q2 b→σ.next≤b∧¬ blk q b)∧(∀ τ,FzL (pp G).P 1 τ cs (dfs (defL l)))∧jC σ σ' (fun _=>False)
theorem sZ1 (f:Bool) (v s:Int) (l:List Rb) (hll:l.length<1000000000000000) (hsl:smBs l=true) (σ:jA):jD (pp G) H0 47 [.agg ⟨[.int .i64 v,.int .i64 s,Rw f erb l.length (rbCs l)]⟩] σ (PmR G σ v l):=by
 have hn3:nsV qW=Rw false eS 3 (nss qW):=rfl
 have hn2:nsV jU=Rw false eS 2 (nss jU):=rfl
 have hn5:nsV kF=Rw false eS 5 (nss kF):=rfl
 have l3:(nss qW).length=3:=rfl
 have l5:(nss kF).length=5:=rfl
 refine jD.wlog fun hl0 hH0 hp0 hlo=>?_
 rw[kW] at hl0
 refine jD.fir4 (q:=qq) (jJ G) fir47 (by kernel_rfl) rfl rfl (uJ2 ..) (by first|exact Nat.le_trans (show NGG≤1 by decide) (by omega)) ?_;rw[rX1]
 simp(disch:=first|omega|(apply id;simp only[push_cast];try omega))only[push_cast,simprocAttr]
 refine jB.dataI (dE0 G) (by and_intros<;>first|rfl|(simp(disch:=first|omega|(apply id;simp only[push_cast];try omega))only[push_cast])) ?_
 simp(disch:=first|omega|(apply id;simp only[push_cast];try omega))only[push_cast,simprocAttr,hn2]
 refine WD.loop4 (q:=qq) (jJ G) (by kernel_rfl) (K47 f σ v s l) ?_ _ _ (K47.mk 0 0 _ none 0 rfl (Nat.zero_le _) (by first|assumption|(simp(disch:=first|omega|(apply id;simp only[push_cast];try omega))only[push_cast,simprocAttr];try omega)) (by first|assumption|(simp(disch:=first|omega|(apply id;simp only[push_cast];try omega))only[push_cast,simprocAttr];try omega)) (by first|assumption|(simp(disch:=first|omega|(apply id;simp only[push_cast];try omega))only[push_cast,simprocAttr];try omega)) (qC.nil _ _ _) (fun b hb=>by obtain ⟨o,s,e⟩:=hb;cases e) (by simp(disch:=first|omega|(apply id;simp only[push_cast];try omega))only[push_cast,simprocAttr];omega) (by first|assumption|(simp(disch:=first|omega|(apply id;simp only[push_cast];try omega))only[push_cast,simprocAttr];try omega)) (by repeat (first|exact jC.refl _ _|assumption|(refine jC.put'' ?_ _ _ (by intro _;first|rfl|omega|(simp only[push_cast] at *;omega)))|(refine jC.add' ?_ _))))
 intro m s1 hI
 cases hI with|mk i iv h q c hiv hi c0 c1 c2 ho hq hl1 hl2 g=>
 subst hiv
 rw[sU0]
 by_cases hil:(i:Int)<3
 ·have hg:=jU0 (l:=qW) (i:=i) (by show i<3;omega)
  have e1:IntKind.i64.wrap ((i:Int)+1)=(i:Int)+1:=wrap_i64 (by omega) (by omega)
  have hne:¬ (i:Int)+1=0:=by omega
  have hne2:¬ (i:Int)+1 = -1:=by omega
  simp(disch:=first|omega|(apply id;simp only[push_cast];try omega))only[push_cast,simprocAttr,hil,c0,c2,hl1,e1,hne,hne2,Int.toNat_natCast]
  refine jB.dataI (qV1 G) (by and_intros<;>first|rfl|(simp(disch:=first|omega|(apply id;simp only[push_cast];try omega))only[push_cast])) ?_
  simp(disch:=first|omega|(apply id;simp only[push_cast];try omega))only[push_cast,simprocAttr,hn3,hg,l3,hil,Int.toNat_natCast]
  refine jB.dataI (jB0 G (IntKind.i64.wrap (v.tdiv ((i:Int)+1))) 9 (by omega) (by omega)) (by and_intros<;>first|rfl|(simp(disch:=first|omega|(apply id;simp only[push_cast];try omega))only[push_cast])) ?_
  obtain ⟨a',c',σ',e,o',g',b'⟩:=gH (by_:=24) ho (by omega) (by omega) (m:=1) (xs:=vrs [(qW.getD i [],valF v i)]) (cZ0 _) rfl (by omega)
  rw[← oV1,← jL (dG1 v (by omega:i<3))] at o'
  have hn':=g'.next
  have hl':=g'.lo
  have k0:cells σ' σ.next=_:=g'.cellsE c0 (by omega) (fun hb=>by have:=hq _ hb;omega)
  have k1:cells σ' (σ.next+1)=_:=g'.cellsE c1 (by omega) (fun hb=>by have:=hq _ hb;omega)
  have k2:cells σ' (σ.next+1+1)=_:=g'.cellsE c2 (by omega) (fun hb=>by have:=hq _ hb;omega)
  have hlo':σ'.lo=1:=by omega
  unfold valF at e
  have hvl:(vrs [(qW.getD i [],IntKind.i64.wrap (jP (IntKind.i64.wrap (v.tdiv ((i:Int)+1))) 9-4))]).length=1*2:=cZ0 _
  simp(disch:=first|omega|(apply id;simp only[push_cast];try omega))only[push_cast,simprocAttr,↓rowV1,hvl,e,k2,hlo']
  have gg:jC σ σ' (fun _=>False):=g.tr' g' (fun k hk hb=>by have:=hq k hb;omega)
  refine ⟨_,by omega,K47.mk (i+1) _ _ a' c' (by first|rfl|omega) (by omega) (by first|assumption|(simp(disch:=first|omega|(apply id;simp only[push_cast];try omega))only[push_cast,simprocAttr,k0];try omega)) (by first|assumption|(simp(disch:=first|omega|(apply id;simp only[push_cast];try omega))only[push_cast,simprocAttr,k1];try omega)) (by first|assumption|(simp(disch:=first|omega|(apply id;simp only[push_cast];try omega))only[push_cast,simprocAttr,k2];try omega)) (o'.grew (S:=fun k=>k=σ.next+1+1) (by repeat (first|exact jC.refl _ _|assumption|(refine jC.put'' ?_ _ _ (by intro _;first|rfl|omega|(simp only[push_cast] at *;omega)))|(refine jC.add' ?_ _))) (fun k hk e=>?_)) (fun k hk=>?_) (by first|assumption|(simp(disch:=first|omega|(apply id;simp only[push_cast];try omega))only[push_cast,simprocAttr,hlo'];try omega)) (by first|assumption|(simp(disch:=first|omega|(apply id;simp only[push_cast];try omega))only[push_cast,simprocAttr];try omega)) (gg.put' _ _ (by omega))⟩
  ·rcases b' k hk with hb|hb
   ·have:=hq k hb;omega
   ·omega
  ·rcases b' k hk with hb|hb
   ·exact hq k hb
   ·omega
 ·have hi3:i=3:=by omega
  subst hi3
  have ht:(varL v).take 3=varL v:=rfl
  rw[ht] at ho
  simp(disch:=first|omega|(apply id;simp only[push_cast];try omega))only[push_cast,simprocAttr,c0,c2,hl1]
  rw[sT0]
  simp(disch:=first|omega|(apply id;simp only[push_cast];try omega))only[push_cast,simprocAttr]
  refine WD.loop4 (q:=qq) (jJ G) (by kernel_rfl) (K47b G f σ v s l q c) ?_ _ _ (K47b.mk 0 0 _ none 0 [] rfl (Nat.zero_le _) (by first|assumption|(simp(disch:=first|omega|(apply id;simp only[push_cast];try omega))only[push_cast,simprocAttr,c0];try omega)) (by first|assumption|(simp(disch:=first|omega|(apply id;simp only[push_cast];try omega))only[push_cast,simprocAttr,c1];try omega)) (by first|assumption|(simp(disch:=first|omega|(apply id;simp only[push_cast];try omega))only[push_cast,simprocAttr,c2];try omega)) (by exact ho) hq (qC.nil _ _ _) (fun b hb=>by obtain ⟨o,s,e⟩:=hb;cases e) (fun τ=>.nil) (by first|assumption|(simp(disch:=first|omega|(apply id;simp only[push_cast];try omega))only[push_cast,simprocAttr,hl1];try omega)) (by first|assumption|(simp(disch:=first|omega|(apply id;simp only[push_cast];try omega))only[push_cast,simprocAttr,hl2];try omega)) g)
  clear c0 c1 c2 ho hl1 hl2 hi g
  intro m s2 hI
  cases hI with|mk i iv h q2 k cs hiv hi c0 c1 c2 ho hq ho2 hq2 hcs hl1 hl2 g=>
  subst hiv
  rw[sS0]
  by_cases hil:(i:Int)<5
  ·have hg:=jU0 (l:=kF) (i:=i) (by show i<5;omega)
   by_cases hbl:(i:Int)<l.length
   ·obtain ⟨x,hx⟩:=jM (l:=l) (i:=i) (by omega)
    have hp:=jL0 hx
    have hle:i*5+5≤l.length*5:=by omega
    simp(disch:=first|omega|(apply id;simp only[push_cast];try omega))only[push_cast,simprocAttr,hil,c0,hl1,Int.toNat_natCast]
    refine jB.dataI (bE1 G) (by and_intros<;>first|rfl|(simp(disch:=first|omega|(apply id;simp only[push_cast];try omega))only[push_cast])) ?_
    simp(disch:=first|omega|(apply id;simp only[push_cast];try omega))only[push_cast,simprocAttr,hn5,hg,l5,hil,Int.toNat_natCast,c0,hbl,hl1,hp,hle]
    refine jB.dataI (zL1 G x 0 (by omega) (uC0 hsl x (List.mem_of_getElem? hx))) (by and_intros<;>first|rfl|(simp(disch:=first|omega|(apply id;simp only[push_cast];try omega))only[push_cast])) ?_
    simp(disch:=first|omega|(apply id;simp only[push_cast];try omega))only[push_cast,simprocAttr,hl1]
    rw[cD0]
    simp(disch:=first|omega|(apply id;simp only[push_cast];try omega))only[push_cast,simprocAttr,hl1,c2,↓rowD1]
    obtain ⟨τ,hτ⟩:∃ τ,τ=(((h.add (O [.string (Tx []),.int .i64 0,.string (Tx []),.string (Tx []),.int .i64 0,.int .i64 0,.string (Tx []),.slice none 0 0,.slice none 0 0] 79 false)).put h.next (O [.string (Tx (kF.getD i [])),.int .i64 0,.string (Tx []),.string (Tx []),.int .i64 0,.int .i64 0,.string (Tx []),.slice none 0 0,.slice none 0 0] 79 false)).put h.next (O (.string (Tx (kF.getD i [])) :: prC (mkP x 0)) 79 false)):=⟨_,rfl⟩
    have g0:jC h τ (fun _=>False):=by rw[hτ];exact (by (repeat (first|exact Gr.refl _|assumption|(refine jC.put' ?_ _ _ (by first|omega|(simp only[push_cast];omega)))|(refine jC.add' ?_ _))))
    have hn0:=g0.next
    have hl0:τ.lo=1:=by rw[g0.lo,hl1]
    have ho2':qC τ eDf 9 q2 i k cs:=ho2.grew g0 fun _ _ h=>h
    obtain ⟨a',c',σ',e,o',g',b'⟩:=gH (by_:=136) ho2' (by omega) (by omega) (m:=1) (xs:=dfC (kF.getD i []) (some (mkP x 0))) (eW0 _ _) (bD1 _ _) (by omega)
    have hn':=g'.next
    have hl':=g'.lo
    have d0:cells τ σ.next=_:=g0.cellsE c0 (by omega) id
    have d1:cells τ (σ.next+1)=_:=g0.cellsE c1 (by omega) id
    have d2:cells τ (σ.next+1+1)=_:=g0.cellsE c2 (by omega) id
    have k0:cells σ' σ.next=_:=g'.cellsE d0 (by omega) (fun hb=>by have:=(hq2 _ hb).1;omega)
    have k1:cells σ' (σ.next+1)=_:=g'.cellsE d1 (by omega) (fun hb=>by have:=(hq2 _ hb).1;omega)
    have k2:cells σ' (σ.next+1+1)=_:=g'.cellsE d2 (by omega) (fun hb=>by have:=(hq2 _ hb).1;omega)
    have hlo':σ'.lo=1:=by omega
    have hdl:(dfC (kF.getD i []) (some (mkP x 0))).length=1*9:=eW0 _ _
    unfold dfC at e hdl
    rw[hτ] at e
    simp(disch:=first|omega|(apply id;simp only[push_cast];try omega))only[push_cast,simprocAttr,hdl,e,k2,hlo']
    rw[cC0]
    simp(disch:=first|omega|(apply id;simp only[push_cast];try omega))only[push_cast,simprocAttr]
    have gg:jC σ σ' (fun _=>False):=(g.tr' g0 (fun _ _ h=>h)).tr' g' (fun k hk hb=>by have:=(hq2 k hb).1;omega)
    refine ⟨_,by omega,K47b.mk (i+1) _ _ a' c' (cs++dfC (kF.getD i []) (some (mkP x 0))) (by first|rfl|omega) (by omega) (by first|assumption|(simp(disch:=first|omega|(apply id;simp only[push_cast];try omega))only[push_cast,simprocAttr,k0];try omega)) (by first|assumption|(simp(disch:=first|omega|(apply id;simp only[push_cast];try omega))only[push_cast,simprocAttr,k1];try omega)) (by first|assumption|(simp(disch:=first|omega|(apply id;simp only[push_cast];try omega))only[push_cast,simprocAttr,k2];try omega)) (((ho.grew g0 (fun _ _ h=>h)).grew g' (fun b hb h2=>(hq2 b h2).2 hb)).grew (S:=fun k=>k=σ.next+1+1) (by repeat (first|exact jC.refl _ _|assumption|(refine jC.put'' ?_ _ _ (by intro _;first|rfl|omega|(simp only[push_cast] at *;omega)))|(refine jC.add' ?_ _))) (fun b hb e=>by have:=hq b hb;omega)) hq (o'.grew (S:=fun k=>k=σ.next+1+1) (by repeat (first|exact jC.refl _ _|assumption|(refine jC.put'' ?_ _ _ (by intro _;first|rfl|omega|(simp only[push_cast] at *;omega)))|(refine jC.add' ?_ _))) (fun b hb e=>?_)) (fun b hb=>?_) (fun τ=>?_) (by first|assumption|(simp(disch:=first|omega|(apply id;simp only[push_cast];try omega))only[push_cast,simprocAttr,hlo'];try omega)) (by first|assumption|(simp(disch:=first|omega|(apply id;simp only[push_cast];try omega))only[push_cast,simprocAttr];try omega)) (gg.put' _ _ (by omega))⟩
    ·rcases b' b hb with hb|hb
     ·have:=(hq2 b hb).1;omega
     ·omega
    ·rcases b' b hb with hb|hb
     ·exact hq2 b hb
     ·exact ⟨by omega,fun h1=>by have:=qC.lt ho h1;omega⟩
    ·rw[jL (pA0 l (by omega:i<5)),bC1]
     have hbo:tX0 l i=(some (mkP x 0)):=by rw[tX0,hx];rfl
     rw[hbo]
     exact (hcs τ).app (oI1 G _ (by omega) τ _ _)
   ·have hx:l[i]?=none:=List.getElem?_eq_none (by omega)
    simp(disch:=first|omega|(apply id;simp only[push_cast];try omega))only[push_cast,simprocAttr,hil,c0,hl1,Int.toNat_natCast]
    refine jB.dataI (bE1 G) (by and_intros<;>first|rfl|(simp(disch:=first|omega|(apply id;simp only[push_cast];try omega))only[push_cast])) ?_
    simp(disch:=first|omega|(apply id;simp only[push_cast];try omega))only[push_cast,simprocAttr,hn5,hg,l5,hil,Int.toNat_natCast,c0,hbl,hl1]
    rw[cD0]
    simp(disch:=first|omega|(apply id;simp only[push_cast];try omega))only[push_cast,simprocAttr,hl1,c2,↓rowD0]
    obtain ⟨τ,hτ⟩:∃ τ,τ=((h.add (O [.string (Tx []),.int .i64 0,.string (Tx []),.string (Tx []),.int .i64 0,.int .i64 0,.string (Tx []),.slice none 0 0,.slice none 0 0] 79 false)).put h.next (O [.string (Tx (kF.getD i [])),.int .i64 0,.string (Tx []),.string (Tx []),.int .i64 0,.int .i64 0,.string (Tx []),.slice none 0 0,.slice none 0 0] 79 false)):=⟨_,rfl⟩
    have g0:jC h τ (fun _=>False):=by rw[hτ];exact (by (repeat (first|exact Gr.refl _|assumption|(refine jC.put' ?_ _ _ (by first|omega|(simp only[push_cast];omega)))|(refine jC.add' ?_ _))))
    have hn0:=g0.next
    have hl0:τ.lo=1:=by rw[g0.lo,hl1]
    have ho2':qC τ eDf 9 q2 i k cs:=ho2.grew g0 fun _ _ h=>h
    obtain ⟨a',c',σ',e,o',g',b'⟩:=gH (by_:=136) ho2' (by omega) (by omega) (m:=1) (xs:=dfC (kF.getD i []) none) (eW0 _ _) (bD1 _ _) (by omega)
    have hn':=g'.next
    have hl':=g'.lo
    have d0:cells τ σ.next=_:=g0.cellsE c0 (by omega) id
    have d1:cells τ (σ.next+1)=_:=g0.cellsE c1 (by omega) id
    have d2:cells τ (σ.next+1+1)=_:=g0.cellsE c2 (by omega) id
    have k0:cells σ' σ.next=_:=g'.cellsE d0 (by omega) (fun hb=>by have:=(hq2 _ hb).1;omega)
    have k1:cells σ' (σ.next+1)=_:=g'.cellsE d1 (by omega) (fun hb=>by have:=(hq2 _ hb).1;omega)
    have k2:cells σ' (σ.next+1+1)=_:=g'.cellsE d2 (by omega) (fun hb=>by have:=(hq2 _ hb).1;omega)
    have hlo':σ'.lo=1:=by omega
    have hdl:(dfC (kF.getD i []) none).length=1*9:=eW0 _ _
    unfold dfC at e hdl
    rw[hτ] at e
    simp(disch:=first|omega|(apply id;simp only[push_cast];try omega))only[push_cast,simprocAttr,hdl,e,k2,hlo']
    rw[cC0]
    simp(disch:=first|omega|(apply id;simp only[push_cast];try omega))only[push_cast,simprocAttr]
    have gg:jC σ σ' (fun _=>False):=(g.tr' g0 (fun _ _ h=>h)).tr' g' (fun k hk hb=>by have:=(hq2 k hb).1;omega)
    refine ⟨_,by omega,K47b.mk (i+1) _ _ a' c' (cs++dfC (kF.getD i []) none) (by first|rfl|omega) (by omega) (by first|assumption|(simp(disch:=first|omega|(apply id;simp only[push_cast];try omega))only[push_cast,simprocAttr,k0];try omega)) (by first|assumption|(simp(disch:=first|omega|(apply id;simp only[push_cast];try omega))only[push_cast,simprocAttr,k1];try omega)) (by first|assumption|(simp(disch:=first|omega|(apply id;simp only[push_cast];try omega))only[push_cast,simprocAttr,k2];try omega)) (((ho.grew g0 (fun _ _ h=>h)).grew g' (fun b hb h2=>(hq2 b h2).2 hb)).grew (S:=fun k=>k=σ.next+1+1) (by repeat (first|exact jC.refl _ _|assumption|(refine jC.put'' ?_ _ _ (by intro _;first|rfl|omega|(simp only[push_cast] at *;omega)))|(refine jC.add' ?_ _))) (fun b hb e=>by have:=hq b hb;omega)) hq (o'.grew (S:=fun k=>k=σ.next+1+1) (by repeat (first|exact jC.refl _ _|assumption|(refine jC.put'' ?_ _ _ (by intro _;first|rfl|omega|(simp only[push_cast] at *;omega)))|(refine jC.add' ?_ _))) (fun b hb e=>?_)) (fun b hb=>?_) (fun τ=>?_) (by first|assumption|(simp(disch:=first|omega|(apply id;simp only[push_cast];try omega))only[push_cast,simprocAttr,hlo'];try omega)) (by first|assumption|(simp(disch:=first|omega|(apply id;simp only[push_cast];try omega))only[push_cast,simprocAttr];try omega)) (gg.put' _ _ (by omega))⟩
    ·rcases b' b hb with hb|hb
     ·have:=(hq2 b hb).1;omega
     ·omega
    ·rcases b' b hb with hb|hb
     ·exact hq2 b hb
     ·exact ⟨by omega,fun h1=>by have:=qC.lt ho h1;omega⟩
    ·rw[jL (pA0 l (by omega:i<5)),bC1]
     have hbo:tX0 l i=none:=by rw[tX0,hx];rfl
     rw[hbo]
     exact (hcs τ).app (oI1 G _ (by omega) τ _ _)
  ·have hi5:i=5:=by omega
   subst hi5
   have ht5:(defL l).take 5=defL l:=rfl
   rw[ht5] at hcs
   simp(disch:=first|omega|(apply id;simp only[push_cast];try omega))only[push_cast,simprocAttr,hil,c2,hl1]
   rw[sR0]
   simp(disch:=first|omega|(apply id;simp only[push_cast];try omega))only[push_cast,simprocAttr,c1,c2,hl1]
   refine ⟨q,c,q2,k,cs,rfl,ho.grew (S:=fun k=>k=σ.next+1) (jC.put _ _ _ fun _=>rfl) (fun b hb e=>by have:=hq b hb;omega),fun b hb=>by have:=hq b hb;omega,ho2.grew (S:=fun k=>k=σ.next+1) (jC.put _ _ _ fun _=>rfl) (fun b hb e=>by have:=(hq2 b hb).1;omega),fun b hb=>⟨by have:=(hq2 b hb).1;omega,(hq2 b hb).2⟩,hcs,g.put' _ _ (by omega)⟩
theorem uN1 {k n:Int} {s:List UInt8} {l:List Ex} (h1:l.length<100000000000) (h2:∀ x∈l,smE x=true):smE (.mk k n s l)=true:=by
 simp only[smE,Bool.and_eq_true,decide_eq_true_eq]
 refine ⟨h1,?_⟩
 clear h1
 induction l with
 | nil=>rfl
 | cons x l ih=>simp only[smEs,Bool.and_eq_true];exact ⟨h2 x (by simp),ih fun y hy=>h2 y (by simp[hy])⟩
theorem kX0 (n:Int) (l:List Ex) (h:∀ x∈l,smE x=true) (i:Nat):smE (yV0 n l i)=true:=by
 unfold yV0
 rw[List.getD_eq_getElem?_getD]
 cases hx:l[i]? with
 | none=>rfl
 | some x=>exact h x (List.mem_of_getElem? hx)
mutual
theorem uP1 (ns:List (List UInt8)):∀ x:Ra,smE (mkF ns x)=true
 | .mk k n l=>by
  have ih:=uO1 ns l
  rw[mkF]
  repeat' split
  ·rfl
  ·rfl
  ·rfl
  ·exact uN1 (by simp) fun x hx=>by simp at hx;subst hx;exact kX0 n _ ih 0
  ·exact uN1 (by simp) fun x hx=>by simp at hx;subst hx;exact kX0 n _ ih 0
  ·exact uN1 (by simp) fun x hx => by
    simp at hx
    rcases hx with rfl|rfl
    ·exact kX0 n _ ih 0
    ·exact kX0 n _ ih 1
theorem uO1 (ns:List (List UInt8)):∀ l:List Ra,∀ x∈mkL ns l,smE x=true
 | [],x,hx=>by simp[mkL] at hx
 | y :: l,x,hx=>by
  rw[mkL] at hx
  rcases List.mem_cons.1 hx with rfl|hx
  ·exact uP1 ns y
  ·exact uO1 ns l x hx
end
theorem uQ1 (ns:List (List UInt8)) (l:List Ra):smE (wZ0 ns l)=true:=by
 cases l with
 | nil=>rfl
 | cons x l=>exact uP1 ns x
theorem uL1 {V Sk:List (List UInt8)} {k:Int} {n t:List UInt8} {e:Ex} {l:List Pr} (h1:l.length<100000000000) (h2:smE e=true) (h3:k=2→t∈V) (h4:k=6→n∈Sk) (h5:k=12→2≤l.length) (h6:∀ x∈l,smP V Sk x=true):smP V Sk (.mk k n t e l)=true:=by
 have:smPs V Sk l=true:=by
  clear h1 h5
  induction l with
  | nil=>rfl
  | cons x l ih=>simp only[smPs,Bool.and_eq_true];exact ⟨h6 x (by simp),ih fun y hy=>h6 y (by simp[hy])⟩
 simp only[smP,Bool.and_eq_true,Bool.or_eq_true,decide_eq_true_eq,h2,this,and_true,true_and]
 refine ⟨h1,?_,?_,?_⟩
 ·by_cases h:k=2
  ·exact .inr (h3 h)
  ·exact .inl h
 ·by_cases h:k=6
  ·exact .inr (h4 h)
  ·exact .inl h
 ·by_cases h:k=12
  ·exact .inr (h5 h)
  ·exact .inl h
theorem oU0 {α:Type} {l:List α} {i:Nat} {d:α} (h:i<l.length):l.getD i d∈l:=by
 rw[List.getD_eq_getElem?_getD,List.getElem?_eq_getElem h]
 exact List.getElem_mem h
theorem dH0 (V Sk:List (List UInt8)):smP V Sk qZ=true:=uL1 (by simp) rfl (by simp) (by simp) (by simp) (by simp)
theorem pK1 {V Sk:List (List UInt8)} {c:Prop} [Decidable c] {a b:Pr} (h1:c→smP V Sk a=true) (h2:¬ c→smP V Sk b=true):smP V Sk (if c then a else b)=true:=by
 by_cases h:c
 ·rw[if_pos h];exact h1 h
 ·rw[if_neg h];exact h2 h
mutual
theorem uM1:∀ (x:Rb) (d:Nat),smP qW jU (mkP x d)=true
 | .mk k a b e l,d=>by
  have ih:=oA0 l (d+1)
  have hpart:∀ i,smP qW jU (if d<6 then (mkPs l (d+1)).getD i qZ else qZ)=true:=fun i=>by
   split
   ·rw[List.getD_eq_getElem?_getD]
    cases hx:(mkPs l (d+1))[i]? with
    | none=>exact dH0 _ _
    | some x=>exact ih x (List.mem_of_getElem? hx)
   ·exact dH0 _ _
  have hv:qW.getD (jP a 3).toNat []∈qW:=oU0 (by have:=qM (a:=a) (n:=3) (by omega);show _<3;omega)
  have hs:jU.getD (jP a 2).toNat []∈jU:=oU0 (by have:=qM (a:=a) (n:=2) (by omega);show _<2;omega)
  have h1:∀ x∈[if d<6 then (mkPs l (d+1)).getD 0 qZ else qZ],smP qW jU x=true:=fun x hx=>by simp only[List.mem_singleton] at hx;subst hx;exact hpart 0
  have h2:∀ x∈[if d<6 then (mkPs l (d+1)).getD 0 qZ else qZ,if d<6 then (mkPs l (d+1)).getD 1 qZ else qZ],smP qW jU x=true:=fun x hx=>by
   simp only[List.mem_cons,List.not_mem_nil,or_false] at hx
   rcases hx with rfl|rfl
   ·exact hpart 0
   ·exact hpart 1
  rw[mkP]
  generalize (if d<6 then (mkPs l (d+1)).getD 0 qZ else qZ)=pa at *
  generalize (if d<6 then (mkPs l (d+1)).getD 1 qZ else qZ)=pb at *
  generalize qW.getD (jP a 3).toNat []=v at *
  generalize jU.getD (jP a 2).toNat []=s at *
  repeat' refine pK1 (fun _=>?_) (fun _=>?_)
  all_goals first
   | exact dH0 _ _
   | exact uL1 (by simp) (by first | rfl | exact uQ1 _ _) (by first | exact fun _=>hv | simp) (by first | exact fun _=>hs | simp) (by simp) (by first | exact h1 | exact h2 | simp)
theorem oA0:∀ (l:List Rb) (d:Nat),∀ x∈mkPs l d,smP qW jU x=true
 | [],d,x,hx=>by simp[mkPs] at hx
 | y :: l,d,x,hx=>by
  rw[mkPs] at hx
  rcases List.mem_cons.1 hx with rfl|hx
  ·exact uM1 y d
  ·exact oA0 l d x hx
end
def payP:Pr:=.mk 1 [112,97,121] [] zE []
def payL (r:Rb) (i:Nat):List (List UInt8×Pr):=(List.range 5).map fun j=>(kF.getD j [],if j=0 then mkP r 0 else if j<i then payP else qZ)
def payG (r:Rb):Pg:=⟨varL 0,jU,payL r 5⟩
theorem tC1 (r:Rb):∀ x∈(payG r).d,smP ((payG r).v.map Prod.fst) (payG r).s x.2=true:=by
 intro x hx
 show smP qW jU x.2=true
 simp only[payG,payL,List.mem_map,List.mem_range] at hx
 obtain ⟨j,hj,rfl⟩:=hx
 dsimp only
 split
 ·exact uM1 r 0
 ·exact uL1 (by simp) rfl (by decide) (by decide) (by decide) (by simp)
theorem gC2 (r:Rb):defL [r]=payL r 1:=rfl
theorem eP1 (r:Rb) (i:Nat) {j:Nat} (h:j<5):(payL r i)[j]?=some (kF.getD j [],if j=0 then mkP r 0 else if j<i then payP else qZ):=by
 simp[payL,h]
theorem eO1 (r:Rb) {i:Nat} (h1:1≤i) (h2:i<5):(payL r i).set i (kF.getD i [],payP)=payL r (i+1):=by
 obtain rfl|rfl|rfl|rfl:i=1∨i=2∨i=3∨i=4:=by omega
 all_goals rfl
theorem bB1:∀ {l:List (List UInt8×Pr)} {i:Nat} {s:List UInt8} {p:Pr} (p':Pr),l[i]?=some (s,p)→(dfs l).take (i*9+1)++prC p'++(dfs l).drop (i*9+9)=dfs (l.set i (s,p'))
 | [],i,s,p,p',h=>by simp at h
 | y :: l,0,s,p,p',h=>by
  cases h
  have e:dfs ((s,p) :: l)=Value.string (Tx s) :: (prC p++dfs l):=rfl
  have e':dfs ((s,p') :: l)=Value.string (Tx s) :: (prC p'++dfs l):=rfl
  rw[List.set_cons_zero,e,e']
  show Value.string (Tx s) :: ((prC p++dfs l).take 0++prC p'++(prC p++dfs l).drop 8)=_
  rw[List.take_zero,List.nil_append,List.drop_left' (gD p)]
 | y :: l,i+1,s,p,p',h=>by
  have ih:=bB1 (l:=l) (i:=i) p' (by simpa using h)
  have e:∀ m,dfs (y :: m)=(Value.string (Tx y.1) :: prC y.2)++dfs m:=fun _=>rfl
  have hy:(Value.string (Tx y.1) :: prC y.2).length=9:=by simp[gD]
  rw[List.set_cons_succ,e,e,← ih,List.take_append,List.drop_append,hy,List.take_of_length_le (by omega),List.drop_of_length_le (by omega),List.nil_append,show (i+1)*9+1-9=i*9+1 by omega,show (i+1)*9+9-9=i*9+9 by omega]
  simp only[List.append_assoc]
theorem zE2 (x:Rb) (σ:jA):bsD (qq.m 22) (slT Try.prog 22) 1 [(0,rbV x)] σ=some (Rw true erb 1 (rbCs [x]),σ):=by
 rw[zN2];cases x;kernel_rfl
def payC:List Value:=[.int .i64 1,.string (Tx [112,97,121]),.string (Tx []),.int .i64 0,.int .i64 0,.string (Tx []),.slice none 0 0,.slice none 0 0]
theorem tD1 (τ:jA) (N:Nat):FzL (pp G).P N τ payC (prC payP):=.cons (.id rfl) (.cons (.id rfl) (.cons (.id rfl) (.cons (.id rfl) (.cons (.id rfl) (.cons (.id rfl) (.cons (.nil (size:=4) rfl (by decide)) (.cons (.nil (size:=8) rfl (by decide)) .nil)))))))
inductive I22 (r:Rb) (w:Int) (bp b2 c k:Nat) (m:Bool) (q:Option Addr):Nat→S→Prop
 | mk (i : Nat) (iv : Int) (h : jA) (cs : List Value) {x0 x2 x3 x7 x8 x9 xA xB xC xD xE xF xG xH xI xJ xK xL xM xN xO xP xQ xR xS xT xU xV xW xX xY xZ yA yB : Value} (hiv : iv = (i : Int)) (hi : 1 ≤ i ∧ i ≤ 5)
   (c1:cells h 2=some (ztm,etm,false)) (c2:cells h bp=some ([.slice q 3 c,Rw false eS 2 (nss jU),.slice (some ⟨b2,0,none⟩) 5 k],73,false))
   (ho:qC h eVr 2 q 3 c (vrs (varL 0))) (hb2:cells h b2=some (cs,eDf,m)) (hl:cs.length=5*9) (h1:cs.all one=true) (hcs:∀ τ,FzL (pp G).P 1 τ cs (dfs (payL r i))) (hl1:h.lo=1) (hl2:bp<h.next) :
  I22 r w bp b2 c k m q (5-i) ⟨(F38 x0 (.int .i64 w) x2 x3 (.pointer (some ⟨2,0,none⟩)) (.pointer (some ⟨bp,0,none⟩)) (.int .i64 iv) x7 x8 x9 xA xB xC xD xE xF xG xH xI xJ xK xL xM xN xO xP xQ xR xS xT xU xV xW xX xY xZ yA yB),[],h⟩
def askT:Tm:=.mk 1 (-1) 0 [97,115,107] zE []
def kL2 (w:Int) (r:Rb):Tm:=(wtF w false (lowP qW jU kF (mkP r 0)) 0).1
def eZ1 (w:Int) (r:Rb):Tm:=if eF (payG r)=0 then kL2 w r else askT
theorem eQ1 (r:Rb):(tT1 (payG r))[0]?=some (lowP qW jU kF (mkP r 0)):=rfl
theorem tR1 (r:Rb) (w:Int) (hr:smB r=true):qL (pp G) H0 22 [rbV r,.int .i64 w] (fun d=>∃ y,d=tmV y∧smT y=true∧y=eZ1 w r):=by
 have hlo:H0.lo≤H0.next:=Nat.le_refl _;refine qL.cut (jD.fir4 (q:=qq) (jJ G) fir22 (by kernel_rfl) rfl rfl (cM1 ..) (show NGG≤H0.lo by rw[jW];decide) ?_);rw[sE1]
 have hcl:∀ x:Rb,(rbV x).cells.toList=rbC x:=fun _=>rfl
 have hone:(rbC r).all one=true:=wW1 r
 have hlen:=qO0 r
 have htk:(rbC r).take 5=rbC r:=List.take_of_length_le (by rw[qO0];exact Nat.le_refl _)
 simp(disch:=first|omega|(apply id;simp only[push_cast];try omega))only[push_cast,simprocAttr,hcl,hone,hlen,htk,↓zE2]
 refine jB.func (cap:=[]) (args:=[_]) (sZ1 G true 0 0 [r] (by simp) (by simp[smBs,hr]) _) ?_
 rintro _ h ⟨q,c,q2,k,cs,rfl,ho,hq,ho2,hq2,hcs,g⟩
 obtain ⟨b2,m,rfl,b1,b2n,hb2,hm⟩:∃ b2 m,q2=some ⟨b2,0,none⟩∧h.lo≤b2∧b2<h.next∧cells h b2=some (cs,eDf,m)∧((m=true∧k=UC)∨(m=false∧k=5)):=by
  rcases ho2.hat with ⟨_,h0,_⟩|h1
  ·omega
  ·exact h1
 have hq21:=hq2 b2 ⟨0,none,rfl⟩
 have hgl:=g.lo
 have hgn:=g.next
 simp(disch:=first|omega|(apply id;simp only[push_cast];try omega))only[push_cast,simprocAttr] at hq21 hgl hgn hq
 have c1:cells h 2=some (ztm,etm,false):=g.cellsE (by simp(disch:=first|omega|(apply id;simp only[push_cast];try omega))only[push_cast,simprocAttr];first|done|rfl) (by simp(disch:=first|omega|(apply id;simp only[push_cast];try omega))only[push_cast,simprocAttr]) id
 have hcl1:=ho2.hlen
 have hco:=ho2.hone
 clear g ho2 hq2
 rw[gC2] at hcs
 have hnb:¬ h.next=b2:=by omega
 have hqn:∀ b,blk q b→¬ b=h.next:=fun b hb=>by have:=(qC.lt ho hb).2;omega
 simp(disch:=first|omega|(apply id;simp only[push_cast];try omega))only[push_cast,simprocAttr]
 refine WD.loop4 (q:=qq) (jJ G) (by kernel_rfl) (I22 G r w h.next b2 c k m q) ?_ _ _ (I22.mk 1 1 _ cs rfl ⟨by omega,by omega⟩ ?_ ?_ ?_ ?_ hcl1 hco hcs ?_ ?_)
 ·have hbp:∃ bp,bp=h.next:=⟨_,rfl⟩
  obtain ⟨bp,hbp⟩:=hbp
  rw[← hbp] at hnb hqn ⊢
  have hbp3:3≤bp:=by omega
  have hb23:3≤b2:=hq21.1
  have hqb:¬ blk q b2:=hq21.2
  clear hbp c1 hcl1 hco hcs hb2 b1 b2n hgl hgn ho hq21 h cs
  intro μ s1 hI
  cases hI with|mk i iv h cs hiv hi c1 c2 ho hb2 hl h1 hcs hl1 hl2=>
  subst hiv
  rw[tG0]
  by_cases hil:(i:Int)<5
  ·have hile:i*9+1+8≤5*9:=by omega
   simp(disch:=first|omega|(apply id;simp only[push_cast];try omega))only[push_cast,simprocAttr,hil,c2,hb2,hl,hl1,Int.toNat_natCast]
   have hz:=fun τ=>(((hcs τ).take (i*9+1)).app (tD1 G τ 1)).app ((hcs τ).drop (i*9+1+8))
   rw[show i*9+1+8=i*9+9 by omega] at hz
   rw[bB1 payP (eP1 r i (j:=i) (by omega)),eO1 r hi.1 (by omega)] at hz
   rw[show i*9+1+8=i*9+9 by omega]
   refine ⟨_,by omega,I22.mk (i+1) _ _ _ (by first|rfl|omega) (by omega) ?_ ?_ ?_ (by simp(disch:=first|omega|(apply id;simp only[push_cast];try omega))only[push_cast,simprocAttr];first|done|rfl) ?_ ?_ hz ?_ ?_⟩
   iterate 2 exact (by first|assumption|(simp(disch:=first|omega|(apply id;simp only[push_cast];try omega))only[push_cast,simprocAttr,c1,c2];try omega))
   ·exact ho.grew (S:=fun k=>k=b2) (jC.put _ _ _ fun _=>rfl) (fun b hb e=>hqb (by rw[← e];exact hb))
   ·simp[hl,show payC.length=8 from rfl];omega
   ·simp only[List.all_append,Bool.and_eq_true]
    refine ⟨⟨?_,rfl⟩,?_⟩
    ·rw[List.all_eq_true] at h1 ⊢;exact fun v hv=>h1 v (List.mem_of_mem_take hv)
    ·rw[List.all_eq_true] at h1 ⊢;exact fun v hv=>h1 v (List.mem_of_mem_drop hv)
   iterate 2 exact (by first|assumption|(simp(disch:=first|omega|(apply id;simp only[push_cast];try omega))only[push_cast,simprocAttr,hl1];try omega))
  ·obtain rfl:i=5:=by omega
   simp(disch:=first|omega|(apply id;simp only[push_cast];try omega))only[push_cast,simprocAttr,c2,hl1]
   rw[tF0]
   simp(disch:=first|omega|(apply id;simp only[push_cast];try omega))only[push_cast,simprocAttr,c2,hl1]
   have hlf:∀ b,3≤b→(!Nat.blt b 3 || Nat.blt b h.lo)=true:=fun b hb=>by rw[show Nat.blt b 3=false from gK2 (by omega)];rfl
   have hf1:qC (hflt (fun i=>!Nat.blt i 3 || Nat.blt i h.lo) h) eVr 2 q 3 c (vrs (varL 0)):=qC.flt ho fun b hb=>hlf b (hq b hb)
   have hz:FzL (pp G).P h.lo (hflt (fun i=>!Nat.blt i 3 || Nat.blt i h.lo) h) [.agg ⟨[.slice q 3 c,Rw false eS 2 (nss jU),.slice (some ⟨b2,0,none⟩) 5 k]⟩] [pgV (payG r)]:=by
    refine .cons (.agg (.cons (hf1.fz rfl (by decide) (by decide) (.ids (nD1 _ _)) (fun b hb=>by have:=hq b hb;omega)) (.cons (.id (cK0 _ (by omega) _ _ _)) (.cons ?_ .nil)))) .nil
    refine .sl (size:=9) (by omega) ((zW0 h (hlf b2 hb23)).trans hb2) rfl (by decide) (by omega) ?_ ?_
    ·rcases hm with ⟨rfl,rfl⟩|⟨rfl,rfl⟩
     ·exact .inr ⟨rfl,Nat.le_refl _,by simp,by simp only[U];omega⟩
     ·exact .inl ⟨by simp only[UC];omega,Nat.le_refl _⟩
    ·rw[List.drop_zero,List.take_of_length_le (by omega)]
     have:=hcs (hflt (fun i=>!Nat.blt i 3 || Nat.blt i h.lo) h)
     rw[hl1] at this ⊢;exact this
   refine jB.giveE (cap:=[]) (args:=[_]) (fun i=>Nat.blt i 3) (fun i hi=>by simp;omega) (zK2 G (payG r) (by show 3≤20;omega) (by show 2≤10;omega) (by show 5≤20;omega) (by show 1≤5;omega) (tC1 r)) hz ?_
   rintro _ ⟨t,b,rfl,ht,htE,hbE⟩
   refine ⟨by simp[Ev.sc,scL,fD0 _ (show 0<h.lo by omega)],?_⟩
   have c1':cells (hflt (fun i=>Nat.blt i 3) h) 2=some (ztm,etm,false):=(zW0 h (by decide)).trans c1
   have hl1':(hflt (fun i=>Nat.blt i 3) h).lo=1:=hl1
   have hn3:3≤(hflt (fun i=>Nat.blt i 3) h).next:=by show 3≤h.next;omega
   generalize hflt (fun i=>Nat.blt i 3) h=h1 at *
   have c1'':=c1'
   unfold ztm at c1''
   cases b with
   | false=>
    simp(disch:=first|omega|(apply id;simp only[push_cast];try omega))only[push_cast,simprocAttr,hl1',c1'',Bool.not_false]
    exact ⟨_,⟨_,rfl,rfl,(if_neg (of_decide_eq_false hbE.symm)).symm⟩,uE1 G _ _ 1 (-1) 0 [97,115,107]⟩
   | true=>
    simp(disch:=first|omega|(apply id;simp only[push_cast];try omega))only[push_cast,simprocAttr,hl1',c1'',Bool.not_true]
    refine jB.func (cap:=[]) (args:=[_,_,_,_]) (fC0 G w t ht _ (h1.next+1) 0 false ?_ (by omega) ?_) ?_
    iterate 2 exact (by first|assumption|(simp(disch:=first|omega|(apply id;simp only[push_cast];try omega))only[push_cast,simprocAttr];try omega))
    ·rintro _ _ ⟨rfl,rfl⟩
     have hsm:=nB1 w t false 0 ht
     simp(disch:=first|omega|(apply id;simp only[push_cast];try omega))only[push_cast,simprocAttr,hl1',c1'']
     have hte:t=lowP qW jU kF (mkP r 0):=by have:=htE rfl;rw[eQ1] at this;exact (Option.some.inj this).symm
     exact ⟨_,⟨_,rfl,hsm,by unfold eZ1 kL2;rw[if_pos (of_decide_eq_true hbE.symm),← hte]⟩,.id (fD0 _ (by omega) _)⟩
 iterate 2 exact (by first|assumption|(simp(disch:=first|omega|(apply id;simp only[push_cast];try omega))only[push_cast,simprocAttr,c1];try omega))
 ·exact (ho.grew (jC.add h _ (fun _=>False)) fun _ _ h=>h).grew (S:=fun k=>k=h.next) (jC.put _ _ _ fun _=>rfl) (fun b hb e=>hqn b hb e)
 iterate 3 exact (by first|assumption|(simp(disch:=first|omega|(apply id;simp only[push_cast];try omega))only[push_cast,simprocAttr,hb2,hgl];try omega))
structure Rws (h:jA) (lo bs:Nat) (vs:List Value) (s:List (List Tm)):Prop where
 len:vs.length=s.length
 c:cells h bs=some (vs,eR,false)
 rows:∀ (j:Nat) (v:Value) (row:List Tm),vs[j]?=some v→s[j]?=some row→∃ b c,v=.slice b row.length c∧qC h etm 9 b row.length c (jY row)∧∀ k,blk b k→k≠bs∧lo≤k
 dis:∀ (i j:Nat) (b b':Option Addr) (n c n' c':Nat),i≠j→vs[i]?=some (.slice b n c)→vs[j]?=some (.slice b' n' c')→∀ k,blk b k→¬ blk b' k
theorem Rws.at {h:jA} {lo bs:Nat} {vs:List Value} {s:List (List Tm)} (r:Rws h lo bs vs s) {k:Nat} {row:List Tm} (hk:s[k]?=some row):∃ b c,vs[k]?=some (.slice b row.length c)∧qC h etm 9 b row.length c (jY row)∧∀ i,blk b i→i≠bs∧lo≤i:=by
 obtain ⟨v,hv⟩:∃ v,vs[k]?=some v:=⟨_,List.getElem?_eq_getElem (by rw[r.len];exact (List.getElem?_eq_some_iff.1 hk).1)⟩
 obtain ⟨b,c,rfl,h1,h2⟩:=r.rows k v row hv hk
 exact ⟨b,c,hv,h1,h2⟩
theorem Rws.step {h h':jA} {lo bs:Nat} {vs:List Value} {s:List (List Tm)} (r:Rws h lo bs vs s) {k:Nat} {row:List Tm} (hk:s[k]?=some row) {b:Option Addr} {c:Nat} (hv:vs[k]?=some (.slice b row.length c)) {b' c':Nat} {y:Tm}
  (hb':blk b b'∨h.next≤b') (hb2:b'≠bs∧lo≤b') (g:jC h h' (fun i=>i=bs∨blk b i)) (cs:cells h' bs=some (vs.set k (.slice (some ⟨b',0,none⟩) (row.length+1) c'),eR,false)) (o:qC h' etm 9 (some ⟨b',0,none⟩) (row.length+1) c' (jY (row++[y]))) :
  Rws h' lo bs (vs.set k (.slice (some ⟨b',0,none⟩) (row.length+1) c')) (s.set k (row++[y])):=by
 have hkl:=(List.getElem?_eq_some_iff.1 hk).1
 have hkv:=(List.getElem?_eq_some_iff.1 hv).1
 have old:∀ (j:Nat) (bb:Option Addr) (n cc:Nat),k≠j→vs[j]?=some (.slice bb n cc)→¬ blk bb b':=fun j bb n cc hne hj hbb=>by
  obtain ⟨rw',hr'⟩:∃ x,s[j]?=some x:=⟨_,List.getElem?_eq_getElem (by rw[← r.len];exact (List.getElem?_eq_some_iff.1 hj).1)⟩
  rcases hb' with hb'|hb'
  ·exact r.dis k j b bb _ _ _ _ hne hv hj b' hb' hbb
  ·obtain ⟨b1,c1,e,h1,_⟩:=r.rows j _ rw' hj hr'
   cases e
   have:=(qC.lt h1 hbb).2
   omega
 refine ⟨by simp[r.len],cs,fun j v rw' h1 h2=>?_,fun i j bi bj ni ci nj cj hne hi hj q hq=>?_⟩
 ·by_cases hj:k=j
  ·subst hj
   rw[List.getElem?_set_self hkv] at h1
   rw[List.getElem?_set_self hkl] at h2
   cases h1;cases h2
   refine ⟨_,_,by rw[List.length_append];rfl,by rw[List.length_append];exact o,fun q hq=>?_⟩
   obtain ⟨o1,s1,e⟩:=hq
   cases e
   exact hb2
  ·rw[List.getElem?_set_ne hj] at h1 h2
   obtain ⟨b1,c1,rfl,h3,h4⟩:=r.rows j v rw' h1 h2
   exact ⟨b1,c1,rfl,h3.grew g fun q hq hs=>hs.elim (fun e=>(h4 q hq).1 e) (fun hb=>r.dis k j b b1 _ _ _ _ hj hv h1 q hb hq),h4⟩
 ·by_cases h1:k=i
  ·subst h1
   rw[List.getElem?_set_self hkv] at hi
   rw[List.getElem?_set_ne hne] at hj
   cases hi
   obtain ⟨o1,s1,e⟩:=hq
   cases e
   exact old j _ _ _ hne hj
  ·rw[List.getElem?_set_ne h1] at hi
   by_cases h2:k=j
   ·subst h2
    rw[List.getElem?_set_self hkv] at hj
    cases hj
    intro hq'
    obtain ⟨o1,s1,e⟩:=hq'
    cases e
    exact old i _ _ _ h1 hi hq
   ·rw[List.getElem?_set_ne h2] at hj
    exact r.dis i j _ _ _ _ _ _ hne hi hj q hq
theorem sL1 (σ:jA):bsD (qq.m 32) (slT Try.prog 32) 1 [(0,.agg #[.int .i64 0,.int .i64 0,.int .i64 0,.string (Tx []),.int .i64 0,.int .i64 0,.string (Tx []),.slice none 0 0,.slice none 0 0])] σ=some (Rw true etm 1 ztm,σ):=by kernel_rfl
theorem fC1 {α:Type} (l:List α) (i:Nat) (x:α) (h:i<l.length):l.take i++[x]++l.drop (i+1)=l.set i x:=by
 rw[List.set_eq_take_append_cons_drop,if_pos h,List.append_assoc];rfl
def wQ1 (s:List (List Tm)) (n:Nat):Prop:=∀ row∈s,row.length≤n∧smTs row=true
def rbA:Rb→Int
 | .mk _ a _ _ _=>a
def dV1 (N i:Nat) (x:Rb) (s:List (List Tm)):List (List Tm):=s.set (jP (IntKind.i64.wrap (rbA x+i)) N).toNat (s.getD (jP (IntKind.i64.wrap (rbA x+i)) N).toNat []++[eZ1 0 x])
def st6r (N:Nat):List Rb→List (List Tm)
 | []=>List.replicate N []
 | x :: r=>dV1 N r.length x (st6r N r)
def st6 (N:Nat) (l:List Rb):List (List Tm):=st6r N l.reverse
theorem dW1 (N:Nat) {l:List Rb} {i:Nat} {x:Rb} (h:l[i]?=some x):st6 N (l.take (i+1))=dV1 N i x (st6 N (l.take i)):=by
 have hi:=(List.getElem?_eq_some_iff.1 h).1
 unfold st6
 rw[show (l.take (i+1)).reverse=x :: (l.take i).reverse by rw[jL h,List.reverse_append];rfl]
 show dV1 N ((l.take i).reverse).length x _=_
 rw[List.length_reverse,List.length_take,Nat.min_eq_left (by omega)]
inductive I20 (l:List Rb) (n:Nat):Nat→S→Prop
 | mk (i : Nat) (iv : Int) (h : jA) (vs : List Value) (s : List (List Tm)) {x1 x2 x3 x4 x7 x8 x9 xA xB xC xD xE xF xG xH xI xJ xK xL xM xN xO xP xQ xR xS xT xU xV xW xX xY xZ yA yB yC yD yE yF yG : Value} (hiv : iv = (i : Int)) (hi : i ≤ l.length)
   (hr:Rws h 1 1 vs s) (hn:s.length=n) (h5:wQ1 s i) (h6:s=st6 n (l.take i)) (hl1:h.lo=1) (hl2:2≤h.next) :
  I20 l n (l.length-i) ⟨(F43 (rbsV l) x1 x2 x3 x4 (.slice (some ⟨1,0,none⟩) n n) (.int .i64 iv) x7 x8 x9 xA xB xC xD xE xF xG xH xI xJ xK xL xM xN xO xP xQ xR xS xT xU xV xW xX xY xZ yA yB yC yD yE yF yG),[],h⟩
def StR (l:List Rb) (n:Int) (d:Value):Prop:=∃ s,d=trV s∧s.length=(1+jP n 3).toNat∧wQ1 s 5∧s=st6 (1+jP n 3).toNat l
theorem rows0 (n k:Nat):wQ1 (List.replicate n []) k:=fun row hr=>by
 have:=List.eq_of_mem_replicate hr
 subst this
 exact ⟨Nat.zero_le _,rfl⟩
theorem Rws.zero {h:jA} {lo bs:Nat} (n:Nat) (hc:cells h bs=some ((List.replicate n [Value.slice none 0 0]).flatten,eR,false)):Rws h lo bs (List.replicate n (.slice none 0 0)) (List.replicate n []):=by
 have e:∀ n,(List.replicate n [Value.slice none 0 0]).flatten=List.replicate n (.slice none 0 0):=fun n=>by
  induction n with
  | zero=>rfl
  | succ n ih=>rw[List.replicate_succ,List.flatten_cons,ih];rfl
 refine ⟨by simp,by rw[← e];exact hc,fun j v row h1 h2=>?_,fun i j b b' m c m' c' _ h1 _ k hk=>?_⟩
 ·have h1:=List.eq_of_mem_replicate (List.mem_of_getElem? h1)
  have h2:=List.eq_of_mem_replicate (List.mem_of_getElem? h2)
  subst h1 h2
  exact ⟨none,0,rfl,qC.nil _ _ _,fun k hk=>by obtain ⟨o,s,e⟩:=hk;cases e⟩
 ·have h1:=List.eq_of_mem_replicate (List.mem_of_getElem? h1)
  cases h1
  obtain ⟨o,s,e⟩:=hk
  cases e
theorem zK1 (l:List Rb) (n:Int) (hl:l.length≤5) (hs:smBs l=true):qL (pp G) H0 20 [rbsV l,.int .i64 n] (StR l n):=by
 have hw:=qM (a:=n) (n:=3) (by omega)
 have hlo:H0.lo≤H0.next:=Nat.le_refl _;refine qL.cut (jD.fir4 (q:=qq) (jJ G) fir20 (by kernel_rfl) rfl rfl (uN2 ..) (show NGG≤H0.lo by rw[jW];decide) ?_);rw[sG1]
 simp(disch:=first|omega|(apply id;simp only[push_cast];try omega))only[push_cast,simprocAttr]
 refine jB.dataI (wF0 G n 3 (by omega) (by omega)) (by and_intros<;>first|rfl|(simp(disch:=first|omega|(apply id;simp only[push_cast];try omega))only[push_cast])) ?_
 have e1:IntKind.i64.wrap (1+jP n 3)=1+jP n 3:=wrap_i64 (by omega) (by omega)
 have h1:(1+jP n 3)*24+(1+jP n 3)<100000000000000:=by omega
 have h2:0≤1+jP n 3:=by omega
 simp(disch:=first|omega|(apply id;simp only[push_cast];try omega))only[push_cast,simprocAttr,e1,h1,h2]
 have hN:∃ N:Nat,(1+jP n 3).toNat=N:=⟨_,rfl⟩
 obtain ⟨N,hN⟩:=hN
 have hN3:1≤N∧N≤3:=by omega
 unfold StR
 rw[hN]
 refine WD.loop4 (q:=qq) (jJ G) (by kernel_rfl) (I20 l N) ?_ _ _ (I20.mk 0 0 _ _ _ rfl (Nat.zero_le _) (Rws.zero N ?_) (by simp) (rows0 _ _) rfl ?_ ?_)
 ·intro m s1 hI
  cases hI with|mk i iv h vs s hiv hi hr hn h5 h6 hl1 hl2=>
  subst hiv
  rw[tI0]
  unfold rbsV
  have hrl:=dQ0 l
  by_cases hil:(i:Int)<l.length
  ·obtain ⟨x,hx⟩:=jM (l:=l) (i:=i) (by omega)
   have hxs:=uC0 hs x (List.mem_of_getElem? hx)
   have hmk:=tR1 G x 0 hxs
   have hxf:Value.agg ⟨rbC x⟩=rbV x:=rfl
   have hp:=jL0 hx
   have hle:i*5+5≤l.length*5:=by omega
   have haa:(rbC x)[1]?=some (.int .i64 (rbA x)):=by cases x;rfl
   generalize haa':rbA x=aa at haa
   have hga:=eI1 (j:=1) hx (by omega) haa
   have hle2:i*5+1<l.length*5:=by omega
   simp(disch:=first|omega|(apply id;simp only[push_cast];try omega))only[push_cast,simprocAttr,hil,hrl,hle,hle2,hp,hga,Int.toNat_natCast]
   have hK:=qM (a:=IntKind.i64.wrap (aa+i)) (n:=N) (by omega)
   refine jB.dataI (wF0 G (IntKind.i64.wrap (aa+i)) N (by omega) (by omega)) (by and_intros<;>first|rfl|(simp(disch:=first|omega|(apply id;simp only[push_cast];try omega))only[push_cast])) ?_
   generalize hKe:jP (IntKind.i64.wrap (aa+i)) N=K at hK ⊢
   obtain ⟨hK0,hKN⟩:=hK
   obtain ⟨row,hrow⟩:=jM (l:=s) (i:=K.toNat) (by omega)
   obtain ⟨b,c,hv,ho,hb⟩:=hr.at hrow
   have h5r:=h5 row (List.mem_of_getElem? hrow)
   have cc:=hr.c
   have hvl:vs.length=N:=by rw[hr.len,hn]
   have hKv:K.toNat<N:=by omega
   obtain ⟨a',c',σ',e',o',g',b'⟩:=gH (by_:=120) ho (by omega) (by omega) (m:=1) (xs:=ztm) rfl rfl (by omega)
   obtain ⟨p',m',rfl,hp1,hp2,hpc,hpm⟩:∃ p' m',a'=some ⟨p',0,none⟩∧σ'.lo≤p'∧p'<σ'.next∧cells σ' p'=some (jY row++ztm,etm,m')∧((m'=true∧c'=UC)∨(m'=false∧c'=row.length+1)):=by
    rcases o'.hat with ⟨_,h0,_⟩|h1
    ·omega
    ·exact h1
   have hbp:=b' p' ⟨0,none,rfl⟩
   have hn':=g'.next
   have hl':=g'.lo
   have hp'1:¬ p'=1:=fun e=>by
    subst e
    rcases hbp with h1|h1
    ·exact (hb _ h1).1 rfl
    ·omega
   have hp'2:¬ 1=p':=fun e=>hp'1 e.symm
   have hbs:¬ blk b 1:=fun h1=>(hb _ h1).1 rfl
   have k1:cells σ' 1=_:=g'.cellsE cc (by omega) hbs
   have hrow9:=qR row
   have hz9:ztm.length=9:=rfl
   have hst1:∀ y,(jY row++ztm).take (row.length*9)++tmC y++(jY row++ztm).drop (row.length*9+9)=jY (row++[y]):=fun y=>by
    rw[List.take_left' hrow9,List.drop_of_length_le (by rw[List.length_append];omega),List.append_nil,bD,yL0]
   have hst2:∀ v,vs.take K.toNat++[v]++vs.drop (K.toNat+1)=vs.set K.toNat v:=fun v=>fC1 vs _ v (by omega)
   have hpx:row.length*9+9≤(jY row++ztm).length:=by rw[List.length_append];omega
   have fin : ∀ (y : Tm) (hy : smT y = true) (hye : y = eZ1 0 x) (h' : jA) {x1 x2 x3 x4 x7 x8 x9 xA xB xC xD xE xF xG xH xI xJ xK xL xM xN xO xP xQ xR xS xT xU xV xW xX xY xZ yA yB yC yD yE yF yG : Value}, (h' = (σ'.put p' (O (jY (row ++ [y])) etm m')).put 1 (O (vs.set K.toNat (.slice (some ⟨p', 0, none⟩) (row.length + 1) c')) eR false) ∨ h' = (σ'.put 1 (O (vs.set K.toNat (.slice (some ⟨p', 0, none⟩) (row.length + 1) c')) eR false)).put p' (O (jY (row ++ [y])) etm m')) →
     ∃ m,m<l.length-i∧I20 l N m ⟨(F43 (Rw false erb l.length (rbCs l)) x1 x2 x3 x4 (.slice (some ⟨1,0,none⟩) N N) (.int .i64 ((i:Int)+1)) x7 x8 x9 xA xB xC xD xE xF xG xH xI xJ xK xL xM xN xO xP xQ xR xS xT xU xV xW xX xY xZ yA yB yC yD yE yF yG),[],h'⟩:=by
    intro y hy hye h'
    intros
    rename_i hh
    have gg:jC h h' (fun i=>i=1∨blk b i):=by
     have g1:jC h σ' (fun i=>i=1∨blk b i):=g'.mono fun _ _ hh=>.inr hh
     have hx2:p'<h.next→p'=1∨blk b p':=fun hlt=>hbp.elim .inr (fun h1=>absurd h1 (by omega))
     rcases hh with rfl|rfl
     ·exact (g1.put'' _ _ hx2).put'' _ _ fun _=>.inl rfl
     ·exact (g1.put'' _ _ fun _=>.inl rfl).put'' _ _ hx2
    have w1:cells h' 1=some (vs.set K.toNat (.slice (some ⟨p',0,none⟩) (row.length+1) c'),eR,false):=by rcases hh with rfl|rfl<;>(simp(disch:=first|omega|(apply id;simp only[push_cast];try omega))only[push_cast,simprocAttr,hp'1,hp'2];first|done|rfl)
    have w2:cells h' p'=some (jY (row++[y]),etm,m'):=by rcases hh with rfl|rfl<;>(simp(disch:=first|omega|(apply id;simp only[push_cast];try omega))only[push_cast,simprocAttr,hp'1,hp'2];first|done|rfl)
    have w3:h'.next=σ'.next:=by rcases hh with rfl|rfl<;>rfl
    have w4:h'.lo=σ'.lo:=by rcases hh with rfl|rfl<;>rfl
    have hw:=hr.step (y:=y) (b':=p') (c':=c') hrow hv hbp ⟨hp'1,by omega⟩ gg w1 ⟨by rw[qR];simp,kY _,.inr ⟨p',m',rfl,by omega,by omega,w2,hpm⟩⟩
    refine ⟨_,by omega,I20.mk (i+1) _ h' _ _ (by first|rfl|omega) (by omega) hw (by simp[hn]) (fun rw' hrw'=>?_) (by rw[dW1 N hx,← h6];unfold dV1;rw[haa',hKe,List.getD_eq_getElem?_getD,hrow,← hye];rfl) (by omega) (by omega)⟩
    rcases List.mem_or_eq_of_mem_set hrw' with h1|rfl
    ·have:=h5 rw' h1;exact ⟨by omega,this.2⟩
    ·exact ⟨by simp;omega,kV0 h5r.2 (by rw[smTs,hy];rfl)⟩
   simp(disch:=first|omega|(apply id;simp only[push_cast];try omega))only[push_cast,simprocAttr,hK0,hKN,hKv,cc,hvl,hv,hl1,hil,hrl,hle,hle2,hp,hga,Int.toNat_natCast,hxf,↓sL1]
   refine ⟨?_,?_⟩
   ·skip
    refine jB.dataEI (hmk) (by and_intros<;>first|rfl|(simp(disch:=first|omega|(apply id;simp only[push_cast];try omega))only[push_cast])) ?_
    rintro _ ⟨y,rfl,hy,hye⟩
    refine ⟨by simp(disch:=first|omega|(apply id;simp only[push_cast];try omega))only[push_cast,simprocAttr];first|done|rfl,?_⟩
    simp(disch:=first|omega|(apply id;simp only[push_cast];try omega))only[push_cast,simprocAttr,↓sL1,hz9,e',k1,hvl,hst1,hst2,hpc,hpx,hl',hl1,hK0,hKN,hKv,hp'1,hp'2,Int.toNat_natCast]
    exact ⟨fin y hy hye _ (.inl rfl),fin y hy hye _ (.inr rfl)⟩
   ·skip
    refine jB.dataEI (hmk) (by and_intros<;>first|rfl|(simp(disch:=first|omega|(apply id;simp only[push_cast];try omega))only[push_cast])) ?_
    rintro _ ⟨y,rfl,hy,hye⟩
    refine ⟨by simp(disch:=first|omega|(apply id;simp only[push_cast];try omega))only[push_cast,simprocAttr];first|done|rfl,?_⟩
    simp(disch:=first|omega|(apply id;simp only[push_cast];try omega))only[push_cast,simprocAttr,↓sL1,hz9,e',k1,hvl,hst1,hst2,hpc,hpx,hl',hl1,hK0,hKN,hKv,hp'1,hp'2,Int.toNat_natCast]
    exact ⟨fin y hy hye _ (.inl rfl),fin y hy hye _ (.inr rfl)⟩
  ·obtain rfl:i=l.length:=by omega
   simp(disch:=first|omega|(apply id;simp only[push_cast];try omega))only[push_cast,simprocAttr,hil]
   rw[tH0]
   simp(disch:=first|omega|(apply id;simp only[push_cast];try omega))only[push_cast,simprocAttr]
   have hc':=hr.c
   have hra:pJ0 h 1 vs s (some ⟨1,0,none⟩):=⟨hr.len,fun j v row h1 h2=>by
    obtain ⟨b,c,e,h3,h4⟩:=hr.rows j v row h1 h2
    exact ⟨b,c,e,h3,fun k hk=>⟨fun hk'=>by obtain ⟨o1,s1,e1⟩:=hk';cases e1;exact (h4 _ hk).1 rfl,(h4 k hk).2⟩⟩⟩
   refine ⟨_,⟨s,rfl,hn,fun row hrow=>⟨by have:=h5 row hrow;omega,(h5 row hrow).2⟩,by rw[h6,List.take_length]⟩,?_⟩
   unfold trV
   rw[hn]
   refine .sl (size:=1) (by omega) hc' rfl (by decide) (by rw[hr.len];omega) (.inl ⟨by simp only[UC];omega,Nat.le_refl _⟩) ?_
   rw[List.drop_zero,List.take_of_length_le (by rw[hr.len];omega)]
   exact hra.fz (by omega) (by omega) rfl fun row hrow=>by have:=h5 row hrow;omega
 iterate 3 exact (by first|assumption|(simp(disch:=first|omega|(apply id;simp only[push_cast];try omega))only[push_cast,simprocAttr,hN];try omega))
theorem yT2 (l:List Rb) (hll:l.length<1000000000000000) (hsl:smBs l=true):jG (pp G) H0 19 [rbsV l] (.bool (fewB l)):=by
 have h:=yU2 G 0 0 l hll hsl
 unfold shV at h
 have hlo:H0.lo≤H0.next:=Nat.le_refl _;refine jG.cut (jD.fir4 (q:=qq) (jJ G) fir19 (by kernel_rfl) rfl rfl (oT1 ..) (show NGG≤H0.lo by rw[jW];decide) ?_);rw[sH1]
 unfold rbsV
 simp(disch:=first|omega|(apply id;simp only[push_cast];try omega))only[push_cast,simprocAttr]
 refine jB.dataI (h) (by and_intros<;>first|rfl|(simp(disch:=first|omega|(apply id;simp only[push_cast];try omega))only[push_cast])) ?_
 simp(disch:=first|omega|(apply id;simp only[push_cast];try omega))only[push_cast,simprocAttr]
 exact .id rfl
def uV0:Tm:=.mk 8 0 0 [] (.mk 0 0 [] []) []
theorem rowNN (σ:jA):bsD (qq.m 26) (slT Try.prog 26) 2 [(0,.slice none 0 0),(1,.slice none 0 0)] σ=some (Rw true eR 2 [.slice none 0 0,.slice none 0 0],σ):=by kernel_rfl
theorem sm2:kM [[],[]]:=⟨by simp,fun l hl=>by simp at hl;subst hl;exact wI0⟩
theorem sm2e:kM [[],[uV0]]:=⟨by simp,fun l hl=>by
 simp at hl
 rcases hl with rfl|rfl
 ·exact wI0
 ·exact ⟨by simp,rfl⟩⟩
theorem fE1:jG (pp G) H0 18 [] (.bool true):=by
 have hlo:H0.lo≤H0.next:=Nat.le_refl _;refine jG.cut (jD.fir4 (q:=qq) (jJ G) fir18 (by kernel_rfl) rfl rfl (uL2 ..) (show NGG≤H0.lo by rw[jW];decide) ?_);rw[sI1]
 simp(disch:=first|omega|(apply id;simp only[push_cast];try omega))only[push_cast,simprocAttr,↓rowNN]
 refine jB.data (sR1 G [[],[]] 1 uV0 sm2 (by decide) rfl (by decide)) (.cons (.row (.cons (.nil (size:=9) rfl (by decide)) (.cons (.nil (size:=9) rfl (by decide)) .nil))) (.cons (.id rfl) (.cons (uE1 G _ _ 8 0 0 []) .nil))) (by first|rfl|(simp(disch:=first|omega|(apply id;simp only[push_cast];try omega))only[push_cast])) (by first|rfl|(simp(disch:=first|omega|(apply id;simp only[push_cast];try omega))only[push_cast])) ?_
 rw[show setZ [[],[]] 1 (([[],[]]:List (List Tm)).getD (Int.toNat 1) []++[uV0])=[[],[uV0]] from rfl]
 simp(disch:=first|omega|(apply id;simp only[push_cast];try omega))only[push_cast,simprocAttr]
 refine jB.dataI (wT1 G [[],[uV0]] 1 sm2e (by decide)) (by and_intros<;>first|rfl|(simp(disch:=first|omega|(apply id;simp only[push_cast];try omega))only[push_cast])) ?_
 rw[show revF (([[],[uV0]]:List (List Tm)).getD (Int.toNat 1) [])=uV0 from rfl,show setZ [[],[uV0]] 1 []=([[],[]]:List (List Tm)) from rfl]
 unfold ttV
 simp(disch:=first|omega|(apply id;simp only[push_cast];try omega))only[push_cast,simprocAttr]
 refine jB.data (uU1 G [] ⟨by simp,by simp⟩) (.cons (nV1 G _ _) .nil) (by first|rfl|(simp(disch:=first|omega|(apply id;simp only[push_cast];try omega))only[push_cast])) (by first|rfl|(simp(disch:=first|omega|(apply id;simp only[push_cast];try omega))only[push_cast])) ?_
 rw[show W (uM0 [])=0 from rfl]
 unfold trV
 rw[show trs [[],[uV0]]=[Rw false etm 0 [],Rw false etm 1 (tmC uV0)] from rfl,show trs [[],[]]=[Rw false etm 0 [],Rw false etm 0 []] from rfl]
 have hx:(tmC uV0)[0]?=some (.int .i64 8):=rfl
 simp(disch:=first|omega|(apply id;simp only[push_cast];try omega))only[push_cast,simprocAttr,hx]
 rw[show Rw false eR 2 [Rw false etm 0 [],Rw false etm 1 (tmC uV0)]=trV [[],[uV0]] from rfl]
 refine jB.dataI (uU1 G [[],[uV0]] sm2e) (by and_intros<;>first|rfl|(simp(disch:=first|omega|(apply id;simp only[push_cast];try omega))only[push_cast])) ?_
 rw[show W (uM0 [[],[uV0]])=1 from rfl]
 simp(disch:=first|omega|(apply id;simp only[push_cast];try omega))only[push_cast,simprocAttr]
 exact .id rfl
theorem eF1 {s:List (List Tm)} {n:Nat} (hn:n<100000000000) (hl:s.length<100000000000) (h:wQ1 s n):kM s:=⟨hl,fun l hl=>⟨by have:=(h l hl).1;omega,(h l hl).2⟩⟩
theorem yS2 {l:List Rb} (h:fewB l=true):l.length≤5:=by
 simp only[fewB,Bool.and_eq_true,decide_eq_true_eq] at h
 exact h.1
theorem fM0 {s:List (List Tm)} {n:Nat} (h:wQ1 s n) (i:Nat):(s.getD i []).length≤n:=by
 rw[List.getD_eq_getElem?_getD]
 cases hx:s[i]? with
 | none=>exact Nat.zero_le _
 | some x=>exact (h x (List.mem_of_getElem? hx)).1
theorem wP2 {n:Int} {s:List (List Tm)} (h:s.length=(1+jP n 3).toNat):1≤s.length∧s.length≤3:=by
 have:=qM (a:=n) (n:=3) (by omega)
 omega
theorem kP2 (s:List (List Tm)):lnD (some false) (trV s)=some (.int .i64 s.length):=rfl
theorem tV1 (l:List Tm):lnD (some false) (qA l)=some (.int .i64 l.length):=rfl
attribute [push_cast] kP2 tV1
mutual
theorem cJ0:∀ x:Ex,wN0 x x=true
 | .mk k n s l=>by simp[wN0,yR0 l]
theorem yR0:∀ l:List Ex,jK0 l l=true
 | []=>rfl
 | x :: l=>by simp[jK0,cJ0 x,yR0 l]
end
mutual
theorem tJ0:∀ x:Tm,zQ0 x x=true
 | .mk k a b s e l=>by simp[zQ0,cJ0 e,uT0 l]
theorem uT0:∀ l:List Tm,gK l l=true
 | []=>rfl
 | x :: l=>by simp[gK,tJ0 x,uT0 l]
end
theorem fN0 (l:List Tm):gQ l l=true:=by simp[gQ,uT0]
theorem kO0:∀ l:List (List Tm),gR l l=true
 | []=>rfl
 | x :: l=>by simp[gR,fN0 x,kO0 l]
theorem lN0 (l:List (List Tm)):bR0 l l=true:=by simp[bR0,kO0]
end
end Go.Proofs.Ytgeakofgklcipaa
