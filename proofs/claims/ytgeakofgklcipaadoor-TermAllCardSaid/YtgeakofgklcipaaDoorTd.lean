/-
  A part of the proof: what the program's functions hand back,as theorems. No condition but those that each theorem names.
-/
import Derived.Test.YtgeakofgklcipaaDoorTc
import Derived.Test.YtgeakofgklcipaaDoorEve
set_option linter.unusedSimpArgs false
set_option linter.unusedVariables false
namespace Go.Proofs.YtgeakofgklcipaaDoor
open Go Go.RowKit Go.Ev Go.Dv
noncomputable section
attribute [local push_cast] eq_self iff_self
set_option maxRecDepth 100000
variable (G:Nat×Nat)
@[push_cast]theorem coV_sc (n:Nat) (hn:0<n) (c:Co):Ev.sc n (coV c)=true:=by simp[Ev.sc,scL,coV,coC,wE2 _ hn,gJ1 _ hn]
theorem uP2 (N:Nat) (σ:jA) (k a b:Int) (s:List UInt8):FzV (pp G).P N σ (.agg ⟨[.int .i64 k,.int .i64 a,.int .i64 b,.string (Tx s),.int .i64 0,.int .i64 0,.string (Tx []),.slice none 0 0,.slice none 0 0]⟩) (tmV (.mk k a b s (.mk 0 0 [] []) [])):=.agg (.cons (.id rfl) (.cons (.id rfl) (.cons (.id rfl) (.cons (.id rfl) (.cons (.id rfl) (.cons (.id rfl) (.cons (.id rfl) (.cons (.nil (size:=4) rfl (by decide)) (.cons (.nil (size:=9) rfl (by decide)) .nil)))))))))
theorem fU2 (N:Nat) (σ:jA):FzV (pp G).P N σ (.agg ⟨ztm⟩) (tmV zT):=.agg (.cons (.id rfl) (.cons (.id rfl) (.cons (.id rfl) (.cons (.id rfl) (.cons (.id rfl) (.cons (.id rfl) (.cons (.id rfl) (.cons (.nil (size:=4) rfl (by decide)) (.cons (.nil (size:=9) rfl (by decide)) .nil)))))))))
theorem lI2 (p:Pg) (hv:p.v.length≤20) (hst:p.s.length≤10) (hd:p.d.length≤20) (hn:1≤p.d.length) (hs:∀ x∈p.d,smP (p.v.map Prod.fst) p.s x.2=true) :
  gA (pp G) H0 30 [pgV p] (fun d=>∃ t b,d=.tuple ⟨[tmV t,.bool b]⟩∧smT t=true∧(b=true→(cF2 p)[0]?=some t)):=by
 refine cY G fir30 (by kernel_rfl) (nL1 ..) fun hlo=>?_;rw[gA2]
 unfold pgV
 have hpo:(pgC p).all one=true:=rfl
 have hpl:(pgC p).length=3:=rfl
 have hpt:(pgC p).take 3=pgC p:=rfl
 push_cast(disch:=first|omega|(apply id;push_cast;try omega))[hpo,hpl,hpt]
 rw[show Value.agg ⟨pgC p⟩=pgV p from rfl]
 refine dL (cE2 G p hv hst hd hn hs) ?_
 rintro _ ⟨c,e,rfl,hcl,hsm,h1,hlp⟩
 refine ⟨by push_cast(disch:=first|omega|(apply id;push_cast;try omega));first|done|rfl,?_⟩
 unfold coV coC tmsV ivV
 by_cases he:e=0
 ·subst he
  obtain ⟨y,hy⟩:=jR (l:=c.p) (i:=0) (h1 rfl)
  have hp:=qW hy
  have hyl:0<(c.p.length:Int):=by have:=h1 rfl;omega
  have hle:9≤c.p.length*9:=by have:=h1 rfl;omega
  rw[Nat.zero_mul,List.drop_zero] at hp
  have hcl':=bB c.p
  push_cast(disch:=first|omega|(apply id;push_cast;try omega))[hp,hyl,hle,hcl']
  exact ⟨_,⟨y,true,rfl,uU hsm y (List.mem_of_getElem? hy),fun _=>by rw[← hlp rfl];exact hy⟩,.id (by simp[Ev.sc,scL,kV])⟩
 ·push_cast(disch:=first|omega|(apply id;push_cast;try omega))[he]
  exact ⟨_,⟨zT,false,rfl,rfl,fun h=>by cases h⟩,.tup (.cons (fU2 G _ _) (.cons (.id rfl) .nil))⟩
def wtB (bits n:Int):Bool:=decide (jN (bits.fdiv (2 ^ min (IntKind.u64.wrap (n.tmod 20)).toNat 64)) 2=1)
def is3 (k:Int):Bool:=decide (k=3)
mutual
def wtF (bits:Int) (push:Bool):Tm→Int→Tm×Int
 | .mk k a b s e l,n=>
  if k=1 then (if (!push&&wtB bits n)=true then (.mk 14 n a s (.mk 0 0 [] []) [],W (n+1)) else ((.mk k a b s e (wtL bits (push || is3 k) l (W (n+1))).1,(wtL bits (push || is3 k) l (W (n+1))).2)))
  else (.mk k a b s e (wtL bits (push || is3 k) l n).1,(wtL bits (push || is3 k) l n).2)
def wtL (bits:Int) (push:Bool):List Tm→Int→List Tm×Int
 | [],n=>([],n)
 | x :: l,n=>((wtF bits push x n).1 :: (wtL bits push l (wtF bits push x n).2).1,(wtL bits push l (wtF bits push x n).2).2)
end
theorem yW1 (bits:Int) (push:Bool):∀ (l m:List Tm) (n:Int),wtL bits push (l++m) n=((wtL bits push l n).1++(wtL bits push m (wtL bits push l n).2).1,(wtL bits push m (wtL bits push l n).2).2)
 | [],m,n=>rfl
 | x :: l,m,n=>by rw[List.cons_append,wtL,yW1 bits push l m,wtL];rfl
theorem nO1 (bits:Int) (push:Bool) {l:List Tm} {i:Nat} {y:Tm} (h:l[i]?=some y) (n:Int):wtL bits push (l.take (i+1)) n=((wtL bits push (l.take i) n).1++[(wtF bits push y (wtL bits push (l.take i) n).2).1],(wtF bits push y (wtL bits push (l.take i) n).2).2):=by
 rw[jW h,yW1]
 rfl
theorem gC0 (bits:Int) (push:Bool):∀ (l:List Tm) (n:Int),(wtL bits push l n).1.length=l.length
 | [],n=>rfl
 | x :: l,n=>by rw[wtL];simp[gC0 bits push l]
mutual
theorem uI2 (bits:Int):∀ (x:Tm) (push:Bool) (n:Int),smT x=true→smT (wtF bits push x n).1=true
 | .mk k a b s e l,push,n,h=>by
  simp only[smT,Bool.and_eq_true,decide_eq_true_eq] at h
  rw[wtF]
  split
  ·split
   ·rfl
   ·simp only[smT,Bool.and_eq_true,decide_eq_true_eq,gC0]
    exact ⟨h.1,yV1 bits l _ _ h.2⟩
  ·simp only[smT,Bool.and_eq_true,decide_eq_true_eq,gC0]
   exact ⟨h.1,yV1 bits l _ _ h.2⟩
theorem yV1 (bits:Int):∀ (l:List Tm) (push:Bool) (n:Int),bK l=true→bK (wtL bits push l n).1=true
 | [],push,n,h=>rfl
 | x :: l,push,n,h=>by
  simp only[bK,Bool.and_eq_true] at h
  rw[wtL]
  simp only[bK,Bool.and_eq_true]
  exact ⟨uI2 bits x _ _ h.1,yV1 bits l _ _ h.2⟩
end
inductive I49 (σ:jA) (b:Nat) (bits:Int) (push:Bool) (x:Tm) (n0:Int):Nat→S→Prop
 | mk (i : Nat) (iv : Int) (h : jA) (q : Option Addr) (c : Nat) {x0 x5 x6 x7 xA xC xD xE xF xG xH xI xJ xK xL xM xN xO xP xQ xR xS xT xU xV xW xX xY xZ yA yB yC yD yE yF yG yH yI yJ yK yL yM yN yO yP yQ yR yS yT yU yV yW yX yY yZ zA zB zC zD zF zG : Value} (hiv : iv = (i : Int)) (hi : i ≤ x.l.length)
   (cw:cells h b=some ([.int .i64 (wtL bits (push || is3 x.k) (x.l.take i) n0).2],eI,false)) (c0:cells h σ.next=some (tmC x,etm,false)) (c1:cells h (σ.next+1)=some (ztm,etm,false))
   (c2:cells h (σ.next+1+1)=some ([.int .i64 x.k,.int .i64 x.a,.int .i64 x.b,.string (Tx x.s),.int .i64 x.e.k,.int .i64 x.e.n,.string (Tx x.e.s),Rw false eE x.e.l.length (kF x.e.l),.slice q i c],etm,false))
   (ho:qI h etm 9 q i c (qK (wtL bits (push || is3 x.k) (x.l.take i) n0).1)) (hq:∀ k,blk q k→σ.next+3≤k)
   (g:jF σ h (fun k=>k=b)) (hl2:σ.next+3≤h.next) :
  I49 σ b bits push x n0 (x.l.length-i) ⟨(F68 x0 (.int .i64 bits) (.pointer (some ⟨b,0,none⟩)) (.bool push) (.pointer (some ⟨σ.next,0,none⟩)) x5 x6 x7 (.pointer (some ⟨σ.next+1,0,none⟩)) (.pointer (some ⟨σ.next+1+1,0,none⟩)) xA (.int .i64 iv) xC xD xE xF xG xH xI xJ xK xL xM xN xO xP xQ xR xS xT xU xV xW xX xY xZ yA yB yC yD yE yF yG yH yI yJ yK yL yM yN yO yP yQ yR yS yT yU yV yW yX yY yZ zA zB zC zD zF zG),[],h⟩
def WaR (σ:jA) (b:Nat) (r:Tm×Int) (v:Value) (σ':jA):Prop:=v=tmV r.1∧σ'=σ.put b (O [.int .i64 r.2] eI false)
theorem iZ0 (σ:jA) (b:Nat) (bits:Int) (push:Bool) (hb1:1≤b) (hb:b<σ.next) (hl0:σ.lo=1) (k a bb:Int) (s:List UInt8) (e:Ex) (l:List Tm) (hll:l.length<100000000000)
  (ih:∀ x∈l,∀ (σ:jA) (b:Nat) (n:Int) (push:Bool) (hc:cells σ b=some ([.int .i64 n],eI,false)) (hb1:1≤b) (hb:b<σ.next),
   jX (pp G) H0 31 [tmV x,.int .i64 bits,.pointer (some ⟨b,0,none⟩),.bool push] σ (WaR σ b (wtF bits push x n)))
  (h:jA) (n:Int) {x0 x5 x6 x7 xA xB xC xD xE xF xG xH xI xJ xK xL xM xN xO xP xQ xR xS xT xU xV xW xX xY xZ yA yB yC yD yE yF yG yH yI yJ yK yL yM yN yO yP yQ yR yS yT yU yV yW yX yY yZ zA zB zC zD zF zG:Value}
  (cw:cells h b=some ([.int .i64 n],eI,false)) (c0:cells h σ.next=some (tmC (.mk k a bb s e l),etm,false)) (c1:cells h (σ.next+1)=some (ztm,etm,false))
  (c2:cells h (σ.next+1+1)=some ([.int .i64 k,.int .i64 a,.int .i64 bb,.string (Tx s),.int .i64 e.k,.int .i64 e.n,.string (Tx e.s),Rw false eE e.l.length (kF e.l),.slice none 0 0],etm,false))
  (g:jF σ h (fun k=>k=b)) (hl2:σ.next+3≤h.next) :
  dc3 (pp G) qq none iD0 ⟨(F68 x0 (.int .i64 bits) (.pointer (some ⟨b,0,none⟩)) (.bool push) (.pointer (some ⟨σ.next,0,none⟩)) x5 x6 x7 (.pointer (some ⟨σ.next+1,0,none⟩)) (.pointer (some ⟨σ.next+1+1,0,none⟩)) xA xB xC xD xE xF xG xH xI xJ xK xL xM xN xO xP xQ xR xS xT xU xV xW xX xY xZ yA yB yC yD yE yF yG yH yI yJ yK yL yM yN yO yP yQ yR yS yT yU yV yW yX yY yZ zA zB zC zD zF zG),[],h⟩
   (@kR ⟨jC Tryd.prog [(.cell 8 etm)] (fun v σ'=>FzV (pp G).P (σ.put b (O [.int .i64 (wtL bits (push || is3 k) l n).2] eI false)).next σ' v (tmV (.mk k a bb s e (wtL bits (push || is3 k) l n).1))∧uM0 (pp G).P σ (σ.put b (O [.int .i64 (wtL bits (push || is3 k) l n).2] eI false)) σ')⟩):=by
 rw[wC1]
 push_cast(disch:=first|omega|(apply id;push_cast;try omega))
 refine WD.loop4 (q:=qq) (qB G) (by kernel_rfl) (I49 σ b bits push (.mk k a bb s e l) n) ?_ _ _ (I49.mk 0 0 h none 0 rfl (Nat.zero_le _) cw c0 c1 c2 (qI.nil _ _ _) (fun b hb=>by obtain ⟨o,s,e⟩:=hb;cases e) g hl2)
 clear cw c0 c1 c2 g hl2 h
 intro m s1 hI
 cases hI with|mk i iv h q c hiv hi cw c0 c1 c2 ho hq g hl2=>
 subst hiv
 simp only[Tm.k_mk,Tm.l_mk,Tm.a,Tm.b,Tm.s,Tm.e] at hi cw ho c2
 have hl1:h.lo=1:=by rw[g.lo,hl0]
 rw[wB1]
 by_cases hil:(i:Int)<l.length
 ·obtain ⟨x,hx⟩:=jR (l:=l) (i:=i) (by omega)
  have hp:=qW hx
  have hle:i*9+9≤l.length*9:=by omega
  have hsn:=nO1 bits (push || is3 k) hx n
  cases push with
  | false=>
   have hp2:∃ p2,is3 k=p2:=⟨_,rfl⟩
   obtain ⟨p2,hp2⟩:=hp2
   rw[Bool.false_or,hp2] at cw ho hsn
   have hp3:decide (k=3)=p2:=hp2
   push_cast(disch:=first|omega|(apply id;push_cast;try omega))[hil,c0,c2,hp,hle,Int.toNat_natCast,hl1,hp3]
   refine jB.func (cap:=[]) (args:=[_,_,_,_]) (ih x (List.mem_of_getElem? hx) h b _ p2 cw hb1 (by omega)) ?_
   rintro _ _ ⟨rfl,rfl⟩
   have gp:jF h (h.put b (O [.int .i64 (wtF bits p2 x (wtL bits p2 (l.take i) n).2).2] eI false)) (fun k=>k=b):=jF.put _ _ _ fun _=>rfl
   have w1:cells (h.put b (O [.int .i64 (wtF bits p2 x (wtL bits p2 (l.take i) n).2).2] eI false)) b=some ([.int .i64 (wtL bits p2 (l.take (i+1)) n).2],eI,false):=by rw[hsn];push_cast(disch:=first|omega|(apply id;push_cast;try omega));first|done|rfl
   have p0:cells (h.put b (O [.int .i64 (wtF bits p2 x (wtL bits p2 (l.take i) n).2).2] eI false)) σ.next=_:=gp.cellsE c0 (by omega) (by omega)
   have p1:cells (h.put b (O [.int .i64 (wtF bits p2 x (wtL bits p2 (l.take i) n).2).2] eI false)) (σ.next+1)=_:=gp.cellsE c1 (by omega) (by omega)
   have pc:cells (h.put b (O [.int .i64 (wtF bits p2 x (wtL bits p2 (l.take i) n).2).2] eI false)) (σ.next+1+1)=_:=gp.cellsE c2 (by omega) (by omega)
   have ho':=ho.grew gp (fun k hk e=>by have:=hq k hk;omega)
   have hnp:(h.put b (O [.int .i64 (wtF bits p2 x (wtL bits p2 (l.take i) n).2).2] eI false)).next=h.next:=rfl
   have hlp:(h.put b (O [.int .i64 (wtF bits p2 x (wtL bits p2 (l.take i) n).2).2] eI false)).lo=h.lo:=rfl
   generalize h.put b (O [.int .i64 (wtF bits p2 x (wtL bits p2 (l.take i) n).2).2] eI false)=h1 at *
   push_cast(disch:=first|omega|(apply id;push_cast;try omega))[pc,↓oG0,hlp,hl1]
   obtain ⟨a',c',σ',e',o',g',b'⟩:=gM (by_:=120) ho' (by omega) (by omega) (m:=1) (xs:=qK [(wtF bits p2 x (wtL bits p2 (l.take i) n).2).1]) (bB [_]) (jK0 _) (by omega)
   have hsn1:(wtL bits p2 (l.take (i+1)) n).1=(wtL bits p2 (l.take i) n).1++[(wtF bits p2 x (wtL bits p2 (l.take i) n).2).1]:=by rw[hsn]
   rw[← jL0,← hsn1] at o'
   have hn':=g'.next
   have hl':=g'.lo
   have kw:cells σ' b=_:=g'.cellsE w1 (by omega) (fun hb=>by have:=hq _ hb;omega)
   have k0:cells σ' σ.next=_:=g'.cellsE p0 (by omega) (fun hb=>by have:=hq _ hb;omega)
   have k1:cells σ' (σ.next+1)=_:=g'.cellsE p1 (by omega) (fun hb=>by have:=hq _ hb;omega)
   have k2:cells σ' (σ.next+1+1)=_:=g'.cellsE pc (by omega) (fun hb=>by have:=hq _ hb;omega)
   have gg:jF σ σ' (fun k=>k=b):=(g.tr' gp fun _ _ h=>h).tr' g' (fun k hk hb=>by have:=hq _ hb;omega)
   have hb':∀ k,blk a' k→σ.next+3≤k:=fun k hk=>by
    rcases b' k hk with hk|hk
    ·exact hq k hk
    ·omega
   push_cast(disch:=first|omega|(apply id;push_cast;try omega))[e',k2,hl',hlp,hl1]
   refine ⟨_,by simp only[Tm.l_mk];omega,I49.mk (i+1) _ _ a' c' (by first|rfl|omega) (by simp only[Tm.l_mk];omega) ?_ ?_ ?_ ?_ ?_ hb' ?_ ?_⟩
   all_goals try simp only[Tm.k_mk,Tm.l_mk,Tm.a,Tm.b,Tm.s,Tm.e,Bool.false_or,hp2]
   iterate 4 exact (by first|assumption|(push_cast(disch:=first|omega|(apply id;push_cast;try omega))[kw,k0,k1];try omega))
   ·exact o'.grew (S:=fun k=>k=σ.next+1+1) (jF.put _ _ _ fun _=>rfl) (fun k hk e=>by have:=hb' k hk;omega)
   ·exact gg.put' _ _ (by omega)
   ·exact tH
  | true=>
   rw[Bool.true_or] at cw ho hsn
   push_cast(disch:=first|omega|(apply id;push_cast;try omega))[hil,c0,c2,hp,hle,Int.toNat_natCast,hl1]
   refine jB.func (cap:=[]) (args:=[_,_,_,_]) (ih x (List.mem_of_getElem? hx) h b _ true cw hb1 (by omega)) ?_
   rintro _ _ ⟨rfl,rfl⟩
   have gp:jF h (h.put b (O [.int .i64 (wtF bits true x (wtL bits true (l.take i) n).2).2] eI false)) (fun k=>k=b):=jF.put _ _ _ fun _=>rfl
   have w1:cells (h.put b (O [.int .i64 (wtF bits true x (wtL bits true (l.take i) n).2).2] eI false)) b=some ([.int .i64 (wtL bits true (l.take (i+1)) n).2],eI,false):=by rw[hsn];push_cast(disch:=first|omega|(apply id;push_cast;try omega));first|done|rfl
   have p0:cells (h.put b (O [.int .i64 (wtF bits true x (wtL bits true (l.take i) n).2).2] eI false)) σ.next=_:=gp.cellsE c0 (by omega) (by omega)
   have p1:cells (h.put b (O [.int .i64 (wtF bits true x (wtL bits true (l.take i) n).2).2] eI false)) (σ.next+1)=_:=gp.cellsE c1 (by omega) (by omega)
   have pc:cells (h.put b (O [.int .i64 (wtF bits true x (wtL bits true (l.take i) n).2).2] eI false)) (σ.next+1+1)=_:=gp.cellsE c2 (by omega) (by omega)
   have ho':=ho.grew gp (fun k hk e=>by have:=hq k hk;omega)
   have hnp:(h.put b (O [.int .i64 (wtF bits true x (wtL bits true (l.take i) n).2).2] eI false)).next=h.next:=rfl
   have hlp:(h.put b (O [.int .i64 (wtF bits true x (wtL bits true (l.take i) n).2).2] eI false)).lo=h.lo:=rfl
   generalize h.put b (O [.int .i64 (wtF bits true x (wtL bits true (l.take i) n).2).2] eI false)=h1 at *
   push_cast(disch:=first|omega|(apply id;push_cast;try omega))[pc,↓oG0,hlp,hl1]
   obtain ⟨a',c',σ',e',o',g',b'⟩:=gM (by_:=120) ho' (by omega) (by omega) (m:=1) (xs:=qK [(wtF bits true x (wtL bits true (l.take i) n).2).1]) (bB [_]) (jK0 _) (by omega)
   have hsn1:(wtL bits true (l.take (i+1)) n).1=(wtL bits true (l.take i) n).1++[(wtF bits true x (wtL bits true (l.take i) n).2).1]:=by rw[hsn]
   rw[← jL0,← hsn1] at o'
   have hn':=g'.next
   have hl':=g'.lo
   have kw:cells σ' b=_:=g'.cellsE w1 (by omega) (fun hb=>by have:=hq _ hb;omega)
   have k0:cells σ' σ.next=_:=g'.cellsE p0 (by omega) (fun hb=>by have:=hq _ hb;omega)
   have k1:cells σ' (σ.next+1)=_:=g'.cellsE p1 (by omega) (fun hb=>by have:=hq _ hb;omega)
   have k2:cells σ' (σ.next+1+1)=_:=g'.cellsE pc (by omega) (fun hb=>by have:=hq _ hb;omega)
   have gg:jF σ σ' (fun k=>k=b):=(g.tr' gp fun _ _ h=>h).tr' g' (fun k hk hb=>by have:=hq _ hb;omega)
   have hb':∀ k,blk a' k→σ.next+3≤k:=fun k hk=>by
    rcases b' k hk with hk|hk
    ·exact hq k hk
    ·omega
   push_cast(disch:=first|omega|(apply id;push_cast;try omega))[e',k2,hl',hlp,hl1]
   refine ⟨_,by simp only[Tm.l_mk];omega,I49.mk (i+1) _ _ a' c' (by first|rfl|omega) (by simp only[Tm.l_mk];omega) ?_ ?_ ?_ ?_ ?_ hb' ?_ ?_⟩
   all_goals try simp only[Tm.k_mk,Tm.l_mk,Tm.a,Tm.b,Tm.s,Tm.e,Bool.true_or]
   iterate 4 exact (by first|assumption|(push_cast(disch:=first|omega|(apply id;push_cast;try omega))[kw,k0,k1];try omega))
   ·exact o'.grew (S:=fun k=>k=σ.next+1+1) (jF.put _ _ _ fun _=>rfl) (fun k hk e=>by have:=hb' k hk;omega)
   ·exact gg.put' _ _ (by omega)
   ·exact tH
 ·have hie:i=l.length:=by omega
  subst hie
  rw[List.take_length] at cw ho
  push_cast(disch:=first|omega|(apply id;push_cast;try omega))[hil,c0]
  rw[wA1]
  have c1':=c1
  unfold ztm at c1'
  push_cast(disch:=first|omega|(apply id;push_cast;try omega))[c1',c2,hl1]
  refine ⟨?_,.put1 (g.put' _ _ (by omega)) hb (by omega) (cs:=[.int .i64 (wtL bits (push || is3 k) l n).2]) ?_ (.ids rfl) rfl⟩
  ·unfold tmV
   have ho2:=ho.grew (S:=fun k=>k=σ.next+1) (jF.put h (σ.next+1) (O [.int .i64 k,.int .i64 a,.int .i64 bb,.string (Tx s),.int .i64 e.k,.int .i64 e.n,.string (Tx e.s),Rw false eE e.l.length (kF e.l),.slice q l.length c] etm false) fun _=>rfl) (fun k hk e=>by have:=hq k hk;omega)
   have hf:=qI.fz (P:=(pp G).P) (N:=σ.next) ho2 (by rfl) (by decide) (by omega) (.ids (gB _ (by omega) _)) (fun b hb=>by have:=hq b hb;omega)
   rw[qH0,gC0]
   exact .agg (.cons (.id rfl) (.cons (.id rfl) (.cons (.id rfl) (.cons (.id rfl) (.cons (.id rfl) (.cons (.id rfl) (.cons (.id rfl) (.cons (.id (bP0 _ (by omega) ..)) (.cons hf .nil)))))))))
  ·exact (by first|assumption|(push_cast(disch:=first|omega|(apply id;push_cast;try omega))[cw];try omega))
theorem lA0 (bits:Int):∀ (x:Tm) (hs:smT x=true) (σ:jA) (b:Nat) (n:Int) (push:Bool) (hc:cells σ b=some ([.int .i64 n],eI,false)) (hb1:1≤b) (hb:b<σ.next),
   jX (pp G) H0 31 [tmV x,.int .i64 bits,.pointer (some ⟨b,0,none⟩),.bool push] σ (WaR σ b (wtF bits push x n))
 | .mk k a bb s e l,hs,σ,b,n,push,hc,hb1,hb=>by
  simp only[smT,Bool.and_eq_true,decide_eq_true_eq] at hs
  obtain ⟨⟨hll,hse⟩,hsl⟩:=hs
  have ih:∀ x∈l,∀ (σ:jA) (b:Nat) (n:Int) (push:Bool) (hc:cells σ b=some ([.int .i64 n],eI,false)) (hb1:1≤b) (hb:b<σ.next),
   jX (pp G) H0 31 [tmV x,.int .i64 bits,.pointer (some ⟨b,0,none⟩),.bool push] σ (WaR σ b (wtF bits push x n)):=fun x hx=>lA0 bits x (uU hsl x hx)
  clear hsl
  refine jX.wlog fun hl0 hH0 hp0 hlo=>?_;rw[bI] at hl0;refine jX.cut (jX.fir4 (q:=qq) (qB G) fir31 (by kernel_rfl) rfl rfl (nA1 ..) (by rw[hl0];exact (show NGG≤1 by decide)) ?_);rw[yZ2]
  have hne:¬ b=σ.next:=by omega
  have hne1:¬ b=σ.next+1:=by omega
  have hne2:¬ b=σ.next+1+1:=by omega
  have hloop:=@iZ0 G σ b bits push hb1 hb hl0 k a bb s e l hll ih
  by_cases h1:k=1
  ·subst h1
   rw[wtF,if_pos rfl]
   cases push with
   | true=>
    rw[show (!true&&wtB bits n)=false from rfl,if_neg (by decide)]
    push_cast(disch:=first|omega|(apply id;push_cast;try omega))[hc,Bool.not_true]
    refine hloop _ (W (n+1)) ?_ ?_ ?_ ?_ ?_ ?_
    ·exact (by first|assumption|(push_cast(disch:=first|omega|(apply id;push_cast;try omega))[W];try omega))
    ·exact (by push_cast(disch:=first|omega|(apply id;push_cast;try omega));first|done|rfl)
    ·exact (by push_cast(disch:=first|omega|(apply id;push_cast;try omega));first|done|rfl)
    ·exact (by push_cast(disch:=first|omega|(apply id;push_cast;try omega));first|done|rfl)
    ·exact (by repeat (first|exact jF.refl _ _|assumption|(refine jF.put'' ?_ _ _ (by intro _;first|rfl|omega|(simp only[push_cast] at *;omega)))|(refine jF.add' ?_ _)))
    ·exact tH
   | false=>
    have hcv:∀ n h,cvV Tryd.prog 3 91 (.int .i64 n) h=some (.int .u64 (IntKind.u64.wrap n)):=fun n h=>lQ1 cI0
    have hnn:0≤IntKind.u64.wrap (n.tmod 20):=by rw[IntKind.wrap_u64];omega
    have hbt:IntKind.i64.bits=64:=rfl
    push_cast(disch:=first|omega|(apply id;push_cast;try omega))[hc,Bool.not_false,hcv,hnn,hbt]
    refine dK (gO G (bits.fdiv (2 ^ min (IntKind.u64.wrap (n.tmod 20)).toNat 64)) 2 (by omega) (by omega)) ?_
    by_cases hw:jN (bits.fdiv (2 ^ min (IntKind.u64.wrap (n.tmod 20)).toNat 64)) 2=1
    ·have hwb:wtB bits n=true:=by unfold wtB;rw[hw];rfl
     rw[hwb,if_pos (by decide)]
     push_cast(disch:=first|omega|(apply id;push_cast;try omega))[hw,hc]
     refine ⟨uP2 G _ _ _ _ _ _,.put1 (by repeat (first|exact jF.refl _ _|assumption|(refine jF.put'' ?_ _ _ (by intro _;first|rfl|omega|(simp only[push_cast] at *;omega)))|(refine jF.add' ?_ _))) hb (by omega) (cs:=[.int .i64 (W (n+1))]) ?_ (.ids rfl) rfl⟩
     exact (by first|assumption|(push_cast(disch:=first|omega|(apply id;push_cast;try omega))[W];try omega))
    ·have hwb:wtB bits n=false:=by unfold wtB;rw[decide_eq_false hw]
     rw[hwb,if_neg (by decide)]
     push_cast(disch:=first|omega|(apply id;push_cast;try omega))[hw]
     refine hloop _ (W (n+1)) ?_ ?_ ?_ ?_ ?_ ?_
     ·exact (by first|assumption|(push_cast(disch:=first|omega|(apply id;push_cast;try omega))[W];try omega))
     ·exact (by push_cast(disch:=first|omega|(apply id;push_cast;try omega));first|done|rfl)
     ·exact (by push_cast(disch:=first|omega|(apply id;push_cast;try omega));first|done|rfl)
     ·exact (by push_cast(disch:=first|omega|(apply id;push_cast;try omega));first|done|rfl)
     ·exact (by repeat (first|exact jF.refl _ _|assumption|(refine jF.put'' ?_ _ _ (by intro _;first|rfl|omega|(simp only[push_cast] at *;omega)))|(refine jF.add' ?_ _)))
     ·exact tH
  ·rw[wtF,if_neg h1]
   push_cast(disch:=first|omega|(apply id;push_cast;try omega))[h1]
   refine hloop _ n ?_ ?_ ?_ ?_ ?_ ?_
   ·exact (by first|assumption|(push_cast(disch:=first|omega|(apply id;push_cast;try omega))[hc];try omega))
   ·exact (by push_cast(disch:=first|omega|(apply id;push_cast;try omega));first|done|rfl)
   ·exact (by push_cast(disch:=first|omega|(apply id;push_cast;try omega));first|done|rfl)
   ·exact (by push_cast(disch:=first|omega|(apply id;push_cast;try omega));first|done|rfl)
   ·exact (by repeat (first|exact jF.refl _ _|assumption|(refine jF.put'' ?_ _ _ (by intro _;first|rfl|omega|(simp only[push_cast] at *;omega)))|(refine jF.add' ?_ _)))
   ·exact tH
 termination_by x=>SizeOf.sizeOf x
inductive K47 (f:Bool) (σ:jA) (v s:Int) (l:List Rb):Nat→S→Prop
 | mk (i : Nat) (iv : Int) (h : jA) (q : Option Addr) (c : Nat) {x0 x5 x6 x7 x8 x9 xA xB xC xD xE xF xG xH xI xJ xK xL xM xN xO xP xQ xR xS xT xU xV xW xX xY xZ yA yB yC yD yE yF yG yH yI yJ yK yL yM yN yO yP yQ yR yS yT yU yV : Value} (hiv : iv = (i : Int)) (hi : i ≤ 3)
   (c0:cells h σ.next=some ([.int .i64 v,.int .i64 s,Rw f erb l.length (rbCs l)],28,false)) (c1:cells h (σ.next+1)=some ([.slice none 0 0,.slice none 0 0,.slice none 0 0],57,false))
   (c2:cells h (σ.next+1+1)=some ([.slice q i c,Rw false eS 2 (nss jM),.slice none 0 0],57,false)) (ho:qI h eVr 2 q i c (vrs ((varL v).take i))) (hq:∀ b,blk q b→σ.next+3≤b) (hl1:h.lo=1) (hl2:σ.next+3≤h.next) (g:jF σ h (fun _=>False)) :
  K47 f σ v s l (3-i) ⟨(F58 x0 (.pointer (some ⟨σ.next,0,none⟩)) (.pointer (some ⟨σ.next+1,0,none⟩)) (.pointer (some ⟨σ.next+1+1,0,none⟩)) (.int .i64 iv) x5 x6 x7 x8 x9 xA xB xC xD xE xF xG xH xI xJ xK xL xM xN xO xP xQ xR xS xT xU xV xW xX xY xZ yA yB yC yD yE yF yG yH yI yJ yK yL yM yN yO yP yQ yR yS yT yU yV),[],h⟩
inductive K47b (f:Bool) (σ:jA) (v s:Int) (l:List Rb) (q:Option Addr) (c:Nat):Nat→S→Prop
 | mk (i : Nat) (iv : Int) (h : jA) (q2 : Option Addr) (k : Nat) (cs : List Value) {x0 x4 x6 x7 x8 x9 xA xB xC xD xE xF xG xH xI xJ xK xL xM xN xO xP xQ xR xS xT xU xV xW xX xY xZ yA yB yC yD yE yF yG yH yI yJ yK yL yM yN yO yP yQ yR yS yT yU yV : Value} (hiv : iv = (i : Int)) (hi : i ≤ 5)
   (c0:cells h σ.next=some ([.int .i64 v,.int .i64 s,Rw f erb l.length (rbCs l)],28,false)) (c1:cells h (σ.next+1)=some ([.slice none 0 0,.slice none 0 0,.slice none 0 0],57,false))
   (c2:cells h (σ.next+1+1)=some ([.slice q 3 c,Rw false eS 2 (nss jM),.slice q2 i k],57,false)) (ho:qI h eVr 2 q 3 c (vrs (varL v))) (hq:∀ b,blk q b→σ.next+3≤b)
   (ho2:qI h eDf 9 q2 i k cs) (hq2:∀ b,blk q2 b→σ.next+3≤b∧¬ blk q b) (hcs:∀ τ,FzL (pp G).P 1 τ cs (dfs ((defL l).take i))) (hl1:h.lo=1) (hl2:σ.next+3≤h.next) (g:jF σ h (fun _=>False)) :
  K47b f σ v s l q c (5-i) ⟨(F58 x0 (.pointer (some ⟨σ.next,0,none⟩)) (.pointer (some ⟨σ.next+1,0,none⟩)) (.pointer (some ⟨σ.next+1+1,0,none⟩)) x4 (.int .i64 iv) x6 x7 x8 x9 xA xB xC xD xE xF xG xH xI xJ xK xL xM xN xO xP xQ xR xS xT xU xV xW xX xY xZ yA yB yC yD yE yF yG yH yI yJ yK yL yM yN yO yP yQ yR yS yT yU yV),[],h⟩
def PmR (σ:jA) (v:Int) (l:List Rb) (w:Value) (σ':jA):Prop:=∃ q c q2 k cs,w=.agg ⟨[.slice q 3 c,Rw false eS 2 (nss jM),.slice q2 5 k]⟩∧qI σ' eVr 2 q 3 c (vrs (varL v))∧(∀ b,blk q b→σ.next≤b)∧qI σ' eDf 9 q2 5 k cs∧(∀ b,blk q2 b→σ.next≤b∧¬ blk q b)∧(∀ τ,FzL (pp G).P 1 τ cs (dfs (defL l)))∧jF σ σ' (fun _=>False)
theorem bK2 (f:Bool) (v s:Int) (l:List Rb) (hll:l.length<1000000000000000) (hsl:smBs l=true) (σ:jA):jX (pp G) H0 29 [.agg ⟨[.int .i64 v,.int .i64 s,Rw f erb l.length (rbCs l)]⟩] σ (PmR G σ v l):=by
 have hn3:nsV jO=Rw false eS 3 (nss jO):=rfl
 have hn2:nsV jM=Rw false eS 2 (nss jM):=rfl
 have hn5:nsV qH=Rw false eS 5 (nss qH):=rfl
 have l3:(nss jO).length=3:=rfl
 have l5:(nss qH).length=5:=rfl
 refine jX.wlog fun hl0 hH0 hp0 hlo=>?_
 rw[bI] at hl0
 refine jX.fir4 (q:=qq) (qB G) fir29 (by kernel_rfl) rfl rfl (nB1 ..) (by first|exact Nat.le_trans (show NGG≤1 by decide) (by omega)) ?_;rw[gB2]
 push_cast(disch:=first|omega|(apply id;push_cast;try omega))
 refine dK (eV0 G) ?_
 push_cast(disch:=first|omega|(apply id;push_cast;try omega))[hn2]
 refine WD.loop4 (q:=qq) (qB G) (by kernel_rfl) (K47 f σ v s l) ?_ _ _ (K47.mk 0 0 _ none 0 rfl (Nat.zero_le _) tH tH tH (qI.nil _ _ _) (fun b hb=>by obtain ⟨o,s,e⟩:=hb;cases e) (by push_cast(disch:=first|omega|(apply id;push_cast;try omega));omega) tH (by repeat (first|exact jF.refl _ _|assumption|(refine jF.put'' ?_ _ _ (by intro _;first|rfl|omega|(simp only[push_cast] at *;omega)))|(refine jF.add' ?_ _))))
 intro m s1 hI
 cases hI with|mk i iv h q c hiv hi c0 c1 c2 ho hq hl1 hl2 g=>
 subst hiv
 rw[wG1]
 by_cases hil:(i:Int)<3
 ·have hg:=qB0 (l:=jO) (i:=i) (by show i<3;omega)
  have e1:IntKind.i64.wrap ((i:Int)+1)=(i:Int)+1:=wrap_i64 (by omega) (by omega)
  have hne:¬ (i:Int)+1=0:=by omega
  have hne2:¬ (i:Int)+1 = -1:=by omega
  push_cast(disch:=first|omega|(apply id;push_cast;try omega))[hil,c0,c2,hl1,e1,hne,hne2,Int.toNat_natCast]
  refine dK (gE1 G) ?_
  push_cast(disch:=first|omega|(apply id;push_cast;try omega))[hn3,hg,l3,hil,Int.toNat_natCast]
  refine dK (jE0 G (IntKind.i64.wrap (v.tdiv ((i:Int)+1))) 9 (by omega) (by omega)) ?_
  obtain ⟨a',c',σ',e,o',g',b'⟩:=gM (by_:=24) ho (by omega) (by omega) (m:=1) (xs:=vrs [(jO.getD i [],valF v i)]) (eO0 _) rfl (by omega)
  rw[← zC2,← jW (oA1 v (by omega:i<3))] at o'
  have hn':=g'.next
  have hl':=g'.lo
  have k0:cells σ' σ.next=_:=g'.cellsE c0 (by omega) (fun hb=>by have:=hq _ hb;omega)
  have k1:cells σ' (σ.next+1)=_:=g'.cellsE c1 (by omega) (fun hb=>by have:=hq _ hb;omega)
  have k2:cells σ' (σ.next+1+1)=_:=g'.cellsE c2 (by omega) (fun hb=>by have:=hq _ hb;omega)
  have hlo':σ'.lo=1:=by omega
  unfold valF at e
  have hvl:(vrs [(jO.getD i [],IntKind.i64.wrap (jN (IntKind.i64.wrap (v.tdiv ((i:Int)+1))) 9-4))]).length=1*2:=eO0 _
  push_cast(disch:=first|omega|(apply id;push_cast;try omega))[↓rowV1,hvl,e,k2,hlo']
  have gg:jF σ σ' (fun _=>False):=g.tr' g' (fun k hk hb=>by have:=hq k hb;omega)
  refine ⟨_,by omega,K47.mk (i+1) _ _ a' c' (by first|rfl|omega) (by omega) (by first|assumption|(push_cast(disch:=first|omega|(apply id;push_cast;try omega))[k0];try omega)) (by first|assumption|(push_cast(disch:=first|omega|(apply id;push_cast;try omega))[k1];try omega)) (by first|assumption|(push_cast(disch:=first|omega|(apply id;push_cast;try omega))[k2];try omega)) (o'.grew (S:=fun k=>k=σ.next+1+1) (by repeat (first|exact jF.refl _ _|assumption|(refine jF.put'' ?_ _ _ (by intro _;first|rfl|omega|(simp only[push_cast] at *;omega)))|(refine jF.add' ?_ _))) (fun k hk e=>?_)) (fun k hk=>?_) (by first|assumption|(push_cast(disch:=first|omega|(apply id;push_cast;try omega))[hlo'];try omega)) tH (gg.put' _ _ (by omega))⟩
  ·rcases b' k hk with hb|hb
   ·have:=hq k hb;omega
   ·omega
  ·rcases b' k hk with hb|hb
   ·exact hq k hb
   ·omega
 ·have hi3:i=3:=by omega
  subst hi3
  have ht:(varL v).take 3=varL v:=rfl
  rw[ht] at ho
  push_cast(disch:=first|omega|(apply id;push_cast;try omega))[c0,c2,hl1]
  rw[wF1]
  push_cast(disch:=first|omega|(apply id;push_cast;try omega))
  refine WD.loop4 (q:=qq) (qB G) (by kernel_rfl) (K47b G f σ v s l q c) ?_ _ _ (K47b.mk 0 0 _ none 0 [] rfl (Nat.zero_le _) (by first|assumption|(push_cast(disch:=first|omega|(apply id;push_cast;try omega))[c0];try omega)) (by first|assumption|(push_cast(disch:=first|omega|(apply id;push_cast;try omega))[c1];try omega)) (by first|assumption|(push_cast(disch:=first|omega|(apply id;push_cast;try omega))[c2];try omega)) (by exact ho) hq (qI.nil _ _ _) (fun b hb=>by obtain ⟨o,s,e⟩:=hb;cases e) (fun τ=>.nil) (by first|assumption|(push_cast(disch:=first|omega|(apply id;push_cast;try omega))[hl1];try omega)) (by first|assumption|(push_cast(disch:=first|omega|(apply id;push_cast;try omega))[hl2];try omega)) g)
  clear c0 c1 c2 ho hl1 hl2 hi g
  intro m s2 hI
  cases hI with|mk i iv h q2 k cs hiv hi c0 c1 c2 ho hq ho2 hq2 hcs hl1 hl2 g=>
  subst hiv
  rw[wE1]
  by_cases hil:(i:Int)<5
  ·have hg:=qB0 (l:=qH) (i:=i) (by show i<5;omega)
   by_cases hbl:(i:Int)<l.length
   ·obtain ⟨x,hx⟩:=jR (l:=l) (i:=i) (by omega)
    have hp:=zD0 hx
    have hle:i*5+5≤l.length*5:=by omega
    push_cast(disch:=first|omega|(apply id;push_cast;try omega))[hil,c0,hl1,Int.toNat_natCast]
    refine dK (lP1 G) ?_
    push_cast(disch:=first|omega|(apply id;push_cast;try omega))[hn5,hg,l5,hil,Int.toNat_natCast,c0,hbl,hl1,hp,hle]
    refine dK (cZ1 G x 0 (by omega) (wZ0 hsl x (List.mem_of_getElem? hx))) ?_
    push_cast(disch:=first|omega|(apply id;push_cast;try omega))[hl1]
    rw[dK0]
    push_cast(disch:=first|omega|(apply id;push_cast;try omega))[hl1,c2,↓rowD1]
    obtain ⟨τ,hτ⟩:∃ τ,τ=(((h.add (O [.string (Tx []),.int .i64 0,.string (Tx []),.string (Tx []),.int .i64 0,.int .i64 0,.string (Tx []),.slice none 0 0,.slice none 0 0] 63 false)).put h.next (O [.string (Tx (qH.getD i [])),.int .i64 0,.string (Tx []),.string (Tx []),.int .i64 0,.int .i64 0,.string (Tx []),.slice none 0 0,.slice none 0 0] 63 false)).put h.next (O (.string (Tx (qH.getD i [])) :: prC (mkP x 0)) 63 false)):=⟨_,rfl⟩
    have g0:jF h τ (fun _=>False):=by rw[hτ];exact (by (repeat (first|exact Gr.refl _|assumption|(refine jF.put' ?_ _ _ (by first|omega|(simp only[push_cast];omega)))|(refine jF.add' ?_ _))))
    have hn0:=g0.next
    have hl0:τ.lo=1:=by rw[g0.lo,hl1]
    have ho2':qI τ eDf 9 q2 i k cs:=ho2.grew g0 fun _ _ h=>h
    obtain ⟨a',c',σ',e,o',g',b'⟩:=gM (by_:=136) ho2' (by omega) (by omega) (m:=1) (xs:=dfC (qH.getD i []) (some (mkP x 0))) (iO0 _ _) (lO1 _ _) (by omega)
    have hn':=g'.next
    have hl':=g'.lo
    have d0:cells τ σ.next=_:=g0.cellsE c0 (by omega) id
    have d1:cells τ (σ.next+1)=_:=g0.cellsE c1 (by omega) id
    have d2:cells τ (σ.next+1+1)=_:=g0.cellsE c2 (by omega) id
    have k0:cells σ' σ.next=_:=g'.cellsE d0 (by omega) (fun hb=>by have:=(hq2 _ hb).1;omega)
    have k1:cells σ' (σ.next+1)=_:=g'.cellsE d1 (by omega) (fun hb=>by have:=(hq2 _ hb).1;omega)
    have k2:cells σ' (σ.next+1+1)=_:=g'.cellsE d2 (by omega) (fun hb=>by have:=(hq2 _ hb).1;omega)
    have hlo':σ'.lo=1:=by omega
    have hdl:(dfC (qH.getD i []) (some (mkP x 0))).length=1*9:=iO0 _ _
    unfold dfC at e hdl
    rw[hτ] at e
    push_cast(disch:=first|omega|(apply id;push_cast;try omega))[hdl,e,k2,hlo']
    rw[dJ0]
    push_cast(disch:=first|omega|(apply id;push_cast;try omega))
    have gg:jF σ σ' (fun _=>False):=(g.tr' g0 (fun _ _ h=>h)).tr' g' (fun k hk hb=>by have:=(hq2 k hb).1;omega)
    refine ⟨_,by omega,K47b.mk (i+1) _ _ a' c' (cs++dfC (qH.getD i []) (some (mkP x 0))) (by first|rfl|omega) (by omega) (by first|assumption|(push_cast(disch:=first|omega|(apply id;push_cast;try omega))[k0];try omega)) (by first|assumption|(push_cast(disch:=first|omega|(apply id;push_cast;try omega))[k1];try omega)) (by first|assumption|(push_cast(disch:=first|omega|(apply id;push_cast;try omega))[k2];try omega)) (((ho.grew g0 (fun _ _ h=>h)).grew g' (fun b hb h2=>(hq2 b h2).2 hb)).grew (S:=fun k=>k=σ.next+1+1) (by repeat (first|exact jF.refl _ _|assumption|(refine jF.put'' ?_ _ _ (by intro _;first|rfl|omega|(simp only[push_cast] at *;omega)))|(refine jF.add' ?_ _))) (fun b hb e=>by have:=hq b hb;omega)) hq (o'.grew (S:=fun k=>k=σ.next+1+1) (by repeat (first|exact jF.refl _ _|assumption|(refine jF.put'' ?_ _ _ (by intro _;first|rfl|omega|(simp only[push_cast] at *;omega)))|(refine jF.add' ?_ _))) (fun b hb e=>?_)) (fun b hb=>?_) (fun τ=>?_) (by first|assumption|(push_cast(disch:=first|omega|(apply id;push_cast;try omega))[hlo'];try omega)) tH (gg.put' _ _ (by omega))⟩
    ·rcases b' b hb with hb|hb
     ·have:=(hq2 b hb).1;omega
     ·omega
    ·rcases b' b hb with hb|hb
     ·exact hq2 b hb
     ·exact ⟨by omega,fun h1=>by have:=qI.lt ho h1;omega⟩
    ·rw[jW (tS0 l (by omega:i<5)),lN1]
     have hbo:zS1 l i=(some (mkP x 0)):=by rw[zS1,hx];rfl
     rw[hbo]
     exact (hcs τ).app (wM2 G _ (by omega) τ _ _)
   ·have hx:l[i]?=none:=List.getElem?_eq_none (by omega)
    push_cast(disch:=first|omega|(apply id;push_cast;try omega))[hil,c0,hl1,Int.toNat_natCast]
    refine dK (lP1 G) ?_
    push_cast(disch:=first|omega|(apply id;push_cast;try omega))[hn5,hg,l5,hil,Int.toNat_natCast,c0,hbl,hl1]
    rw[dK0]
    push_cast(disch:=first|omega|(apply id;push_cast;try omega))[hl1,c2,↓rowD0]
    obtain ⟨τ,hτ⟩:∃ τ,τ=((h.add (O [.string (Tx []),.int .i64 0,.string (Tx []),.string (Tx []),.int .i64 0,.int .i64 0,.string (Tx []),.slice none 0 0,.slice none 0 0] 63 false)).put h.next (O [.string (Tx (qH.getD i [])),.int .i64 0,.string (Tx []),.string (Tx []),.int .i64 0,.int .i64 0,.string (Tx []),.slice none 0 0,.slice none 0 0] 63 false)):=⟨_,rfl⟩
    have g0:jF h τ (fun _=>False):=by rw[hτ];exact (by (repeat (first|exact Gr.refl _|assumption|(refine jF.put' ?_ _ _ (by first|omega|(simp only[push_cast];omega)))|(refine jF.add' ?_ _))))
    have hn0:=g0.next
    have hl0:τ.lo=1:=by rw[g0.lo,hl1]
    have ho2':qI τ eDf 9 q2 i k cs:=ho2.grew g0 fun _ _ h=>h
    obtain ⟨a',c',σ',e,o',g',b'⟩:=gM (by_:=136) ho2' (by omega) (by omega) (m:=1) (xs:=dfC (qH.getD i []) none) (iO0 _ _) (lO1 _ _) (by omega)
    have hn':=g'.next
    have hl':=g'.lo
    have d0:cells τ σ.next=_:=g0.cellsE c0 (by omega) id
    have d1:cells τ (σ.next+1)=_:=g0.cellsE c1 (by omega) id
    have d2:cells τ (σ.next+1+1)=_:=g0.cellsE c2 (by omega) id
    have k0:cells σ' σ.next=_:=g'.cellsE d0 (by omega) (fun hb=>by have:=(hq2 _ hb).1;omega)
    have k1:cells σ' (σ.next+1)=_:=g'.cellsE d1 (by omega) (fun hb=>by have:=(hq2 _ hb).1;omega)
    have k2:cells σ' (σ.next+1+1)=_:=g'.cellsE d2 (by omega) (fun hb=>by have:=(hq2 _ hb).1;omega)
    have hlo':σ'.lo=1:=by omega
    have hdl:(dfC (qH.getD i []) none).length=1*9:=iO0 _ _
    unfold dfC at e hdl
    rw[hτ] at e
    push_cast(disch:=first|omega|(apply id;push_cast;try omega))[hdl,e,k2,hlo']
    rw[dJ0]
    push_cast(disch:=first|omega|(apply id;push_cast;try omega))
    have gg:jF σ σ' (fun _=>False):=(g.tr' g0 (fun _ _ h=>h)).tr' g' (fun k hk hb=>by have:=(hq2 k hb).1;omega)
    refine ⟨_,by omega,K47b.mk (i+1) _ _ a' c' (cs++dfC (qH.getD i []) none) (by first|rfl|omega) (by omega) (by first|assumption|(push_cast(disch:=first|omega|(apply id;push_cast;try omega))[k0];try omega)) (by first|assumption|(push_cast(disch:=first|omega|(apply id;push_cast;try omega))[k1];try omega)) (by first|assumption|(push_cast(disch:=first|omega|(apply id;push_cast;try omega))[k2];try omega)) (((ho.grew g0 (fun _ _ h=>h)).grew g' (fun b hb h2=>(hq2 b h2).2 hb)).grew (S:=fun k=>k=σ.next+1+1) (by repeat (first|exact jF.refl _ _|assumption|(refine jF.put'' ?_ _ _ (by intro _;first|rfl|omega|(simp only[push_cast] at *;omega)))|(refine jF.add' ?_ _))) (fun b hb e=>by have:=hq b hb;omega)) hq (o'.grew (S:=fun k=>k=σ.next+1+1) (by repeat (first|exact jF.refl _ _|assumption|(refine jF.put'' ?_ _ _ (by intro _;first|rfl|omega|(simp only[push_cast] at *;omega)))|(refine jF.add' ?_ _))) (fun b hb e=>?_)) (fun b hb=>?_) (fun τ=>?_) (by first|assumption|(push_cast(disch:=first|omega|(apply id;push_cast;try omega))[hlo'];try omega)) tH (gg.put' _ _ (by omega))⟩
    ·rcases b' b hb with hb|hb
     ·have:=(hq2 b hb).1;omega
     ·omega
    ·rcases b' b hb with hb|hb
     ·exact hq2 b hb
     ·exact ⟨by omega,fun h1=>by have:=qI.lt ho h1;omega⟩
    ·rw[jW (tS0 l (by omega:i<5)),lN1]
     have hbo:zS1 l i=none:=by rw[zS1,hx];rfl
     rw[hbo]
     exact (hcs τ).app (wM2 G _ (by omega) τ _ _)
  ·have hi5:i=5:=by omega
   subst hi5
   have ht5:(defL l).take 5=defL l:=rfl
   rw[ht5] at hcs
   push_cast(disch:=first|omega|(apply id;push_cast;try omega))[hil,c2,hl1]
   rw[wD1]
   push_cast(disch:=first|omega|(apply id;push_cast;try omega))[c1,c2,hl1]
   refine ⟨q,c,q2,k,cs,rfl,ho.grew (S:=fun k=>k=σ.next+1) (jF.put _ _ _ fun _=>rfl) (fun b hb e=>by have:=hq b hb;omega),fun b hb=>by have:=hq b hb;omega,ho2.grew (S:=fun k=>k=σ.next+1) (jF.put _ _ _ fun _=>rfl) (fun b hb e=>by have:=(hq2 b hb).1;omega),fun b hb=>⟨by have:=(hq2 b hb).1;omega,(hq2 b hb).2⟩,hcs,g.put' _ _ (by omega)⟩
theorem bA1 {k n:Int} {s:List UInt8} {l:List Ex} (h1:l.length<100000000000) (h2:∀ x∈l,smE x=true):smE (.mk k n s l)=true:=by
 simp only[smE,Bool.and_eq_true,decide_eq_true_eq]
 refine ⟨h1,?_⟩
 clear h1
 induction l with
 | nil=>rfl
 | cons x l ih=>simp only[smEs,Bool.and_eq_true];exact ⟨h2 x (by simp),ih fun y hy=>h2 y (by simp[hy])⟩
theorem yT0 (n:Int) (l:List Ex) (h:∀ x∈l,smE x=true) (i:Nat):smE (kI0 n l i)=true:=by
 unfold kI0
 rw[List.getD_eq_getElem?_getD]
 cases hx:l[i]? with
 | none=>rfl
 | some x=>exact h x (List.mem_of_getElem? hx)
mutual
theorem bC1 (ns:List (List UInt8)):∀ x:Ra,smE (mkF ns x)=true
 | .mk k n l=>by
  have ih:=bB1 ns l
  rw[mkF]
  repeat' split
  ·rfl
  ·rfl
  ·rfl
  ·exact bA1 (by simp) fun x hx=>by simp at hx;subst hx;exact yT0 n _ ih 0
  ·exact bA1 (by simp) fun x hx=>by simp at hx;subst hx;exact yT0 n _ ih 0
  ·exact bA1 (by simp) fun x hx => by
    simp at hx
    rcases hx with rfl|rfl
    ·exact yT0 n _ ih 0
    ·exact yT0 n _ ih 1
theorem bB1 (ns:List (List UInt8)):∀ l:List Ra,∀ x∈mkL ns l,smE x=true
 | [],x,hx=>by simp[mkL] at hx
 | y :: l,x,hx=>by
  rw[mkL] at hx
  rcases List.mem_cons.1 hx with rfl|hx
  ·exact bC1 ns y
  ·exact bB1 ns l x hx
end
theorem bD1 (ns:List (List UInt8)) (l:List Ra):smE (uC0 ns l)=true:=by
 cases l with
 | nil=>rfl
 | cons x l=>exact bC1 ns x
theorem gY1 {V Sk:List (List UInt8)} {k:Int} {n t:List UInt8} {e:Ex} {l:List Pr} (h1:l.length<100000000000) (h2:smE e=true) (h3:k=2→t∈V) (h4:k=6→n∈Sk) (h5:k=12→2≤l.length) (h6:∀ x∈l,smP V Sk x=true):smP V Sk (.mk k n t e l)=true:=by
 have:smPs V Sk l=true:=by
  clear h1 h5
  induction l with
  | nil=>rfl
  | cons x l ih=>simp only[smPs,Bool.and_eq_true];exact ⟨h6 x (by simp),ih fun y hy=>h6 y (by simp[hy])⟩
 simp only[smP,Bool.and_eq_true,Bool.or_eq_true,decide_eq_true_eq,h2,this,and_true,true_and]
 refine ⟨h1,?_,?_,?_⟩
 ·by_cases h:k=2
  ·exact .inr (h3 h)
  ·exact .inl h
 ·by_cases h:k=6
  ·exact .inr (h4 h)
  ·exact .inl h
 ·by_cases h:k=12
  ·exact .inr (h5 h)
  ·exact .inl h
theorem jN0 {α:Type} {l:List α} {i:Nat} {d:α} (h:i<l.length):l.getD i d∈l:=by
 rw[List.getD_eq_getElem?_getD,List.getElem?_eq_getElem h]
 exact List.getElem_mem h
theorem eY0 (V Sk:List (List UInt8)):smP V Sk qF=true:=gY1 (by simp) rfl (by simp) (by simp) (by simp) (by simp)
theorem zT2 {V Sk:List (List UInt8)} {c:Prop} [Decidable c] {a b:Pr} (h1:c→smP V Sk a=true) (h2:¬ c→smP V Sk b=true):smP V Sk (if c then a else b)=true:=by
 by_cases h:c
 ·rw[if_pos h];exact h1 h
 ·rw[if_neg h];exact h2 h
mutual
theorem gZ1:∀ (x:Rb) (d:Nat),smP jO jM (mkP x d)=true
 | .mk k a b e l,d=>by
  have ih:=sK0 l (d+1)
  have hpart:∀ i,smP jO jM (if d<6 then (cD l (d+1)).getD i qF else qF)=true:=fun i=>by
   split
   ·rw[List.getD_eq_getElem?_getD]
    cases hx:(cD l (d+1))[i]? with
    | none=>exact eY0 _ _
    | some x=>exact ih x (List.mem_of_getElem? hx)
   ·exact eY0 _ _
  have hv:jO.getD (jN a 3).toNat []∈jO:=jN0 (by have:=qC (a:=a) (n:=3) (by omega);show _<3;omega)
  have hs:jM.getD (jN a 2).toNat []∈jM:=jN0 (by have:=qC (a:=a) (n:=2) (by omega);show _<2;omega)
  have h1:∀ x∈[if d<6 then (cD l (d+1)).getD 0 qF else qF],smP jO jM x=true:=fun x hx=>by simp only[List.mem_singleton] at hx;subst hx;exact hpart 0
  have h2:∀ x∈[if d<6 then (cD l (d+1)).getD 0 qF else qF,if d<6 then (cD l (d+1)).getD 1 qF else qF],smP jO jM x=true:=fun x hx=>by
   simp only[List.mem_cons,List.not_mem_nil,or_false] at hx
   rcases hx with rfl|rfl
   ·exact hpart 0
   ·exact hpart 1
  rw[mkP]
  generalize (if d<6 then (cD l (d+1)).getD 0 qF else qF)=pa at *
  generalize (if d<6 then (cD l (d+1)).getD 1 qF else qF)=pb at *
  generalize jO.getD (jN a 3).toNat []=v at *
  generalize jM.getD (jN a 2).toNat []=s at *
  repeat' refine zT2 (fun _=>?_) (fun _=>?_)
  all_goals first
   | exact eY0 _ _
   | exact gY1 (by simp) (by first | rfl | exact bD1 _ _) (by first | exact fun _=>hv | simp) (by first | exact fun _=>hs | simp) (by simp) (by first | exact h1 | exact h2 | simp)
theorem sK0:∀ (l:List Rb) (d:Nat),∀ x∈cD l d,smP jO jM x=true
 | [],d,x,hx=>by simp[cD] at hx
 | y :: l,d,x,hx=>by
  rw[cD] at hx
  rcases List.mem_cons.1 hx with rfl|hx
  ·exact gZ1 y d
  ·exact sK0 l d x hx
end
def payP:Pr:=.mk 1 [112,97,121] [] zE []
def payL (r:Rb) (i:Nat):List (List UInt8×Pr):=(List.range 5).map fun j=>(qH.getD j [],if j=0 then mkP r 0 else if j<i then payP else qF)
def payG (r:Rb):Pg:=⟨varL 0,jM,payL r 5⟩
theorem bN2 (r:Rb):∀ x∈(payG r).d,smP ((payG r).v.map Prod.fst) (payG r).s x.2=true:=by
 intro x hx
 show smP jO jM x.2=true
 simp only[payG,payL,List.mem_map,List.mem_range] at hx
 obtain ⟨j,hj,rfl⟩:=hx
 dsimp only
 split
 ·exact gZ1 r 0
 ·exact gY1 (by simp) rfl (by decide) (by decide) (by decide) (by simp)
theorem oT2 (r:Rb):defL [r]=payL r 1:=rfl
theorem pH1 (r:Rb) (i:Nat) {j:Nat} (h:j<5):(payL r i)[j]?=some (qH.getD j [],if j=0 then mkP r 0 else if j<i then payP else qF):=by
 simp[payL,h]
theorem pG1 (r:Rb) {i:Nat} (h1:1≤i) (h2:i<5):(payL r i).set i (qH.getD i [],payP)=payL r (i+1):=by
 obtain rfl|rfl|rfl|rfl:i=1∨i=2∨i=3∨i=4:=by omega
 all_goals rfl
theorem lM1:∀ {l:List (List UInt8×Pr)} {i:Nat} {s:List UInt8} {p:Pr} (p':Pr),l[i]?=some (s,p)→(dfs l).take (i*9+1)++prC p'++(dfs l).drop (i*9+9)=dfs (l.set i (s,p'))
 | [],i,s,p,p',h=>by simp at h
 | y :: l,0,s,p,p',h=>by
  cases h
  have e:dfs ((s,p) :: l)=Value.string (Tx s) :: (prC p++dfs l):=rfl
  have e':dfs ((s,p') :: l)=Value.string (Tx s) :: (prC p'++dfs l):=rfl
  rw[List.set_cons_zero,e,e']
  show Value.string (Tx s) :: ((prC p++dfs l).take 0++prC p'++(prC p++dfs l).drop 8)=_
  rw[List.take_zero,List.nil_append,List.drop_left' (bT p)]
 | y :: l,i+1,s,p,p',h=>by
  have ih:=lM1 (l:=l) (i:=i) p' (by simpa using h)
  have e:∀ m,dfs (y :: m)=(Value.string (Tx y.1) :: prC y.2)++dfs m:=fun _=>rfl
  have hy:(Value.string (Tx y.1) :: prC y.2).length=9:=by simp[bT]
  rw[List.set_cons_succ,e,e,← ih,List.take_append,List.drop_append,hy,List.take_of_length_le (by omega),List.drop_of_length_le (by omega),List.nil_append,show (i+1)*9+1-9=i*9+1 by omega,show (i+1)*9+9-9=i*9+9 by omega]
  simp only[List.append_assoc]
theorem uW2 (x:Rb) (σ:jA):bsD (qq.m 23) (slT Tryd.prog 23) 1 [(0,rbV x)] σ=some (Rw true erb 1 (rbCs [x]),σ):=by
 rw[lM2];cases x;kernel_rfl
def payC:List Value:=[.int .i64 1,.string (Tx [112,97,121]),.string (Tx []),.int .i64 0,.int .i64 0,.string (Tx []),.slice none 0 0,.slice none 0 0]
theorem bO2 (τ:jA) (N:Nat):FzL (pp G).P N τ payC (prC payP):=.cons (.id rfl) (.cons (.id rfl) (.cons (.id rfl) (.cons (.id rfl) (.cons (.id rfl) (.cons (.id rfl) (.cons (.nil (size:=4) rfl (by decide)) (.cons (.nil (size:=8) rfl (by decide)) .nil)))))))
inductive I22 (r:Rb) (w:Int) (bp b2 c k:Nat) (m:Bool) (q:Option Addr):Nat→S→Prop
 | mk (i : Nat) (iv : Int) (h : jA) (cs : List Value) {x0 x2 x3 x7 x8 x9 xA xB xC xD xE xF xG xH xI xJ xK xL xM xN xO xP xQ xR xS xT xU xV xW xX xY xZ yA yB : Value} (hiv : iv = (i : Int)) (hi : 1 ≤ i ∧ i ≤ 5)
   (c1:cells h 2=some (ztm,etm,false)) (c2:cells h bp=some ([.slice q 3 c,Rw false eS 2 (nss jM),.slice (some ⟨b2,0,none⟩) 5 k],57,false))
   (ho:qI h eVr 2 q 3 c (vrs (varL 0))) (hb2:cells h b2=some (cs,eDf,m)) (hl:cs.length=5*9) (h1:cs.all one=true) (hcs:∀ τ,FzL (pp G).P 1 τ cs (dfs (payL r i))) (hl1:h.lo=1) (hl2:bp<h.next) :
  I22 r w bp b2 c k m q (5-i) ⟨(F38 x0 (.int .i64 w) x2 x3 (.pointer (some ⟨2,0,none⟩)) (.pointer (some ⟨bp,0,none⟩)) (.int .i64 iv) x7 x8 x9 xA xB xC xD xE xF xG xH xI xJ xK xL xM xN xO xP xQ xR xS xT xU xV xW xX xY xZ yA yB),[],h⟩
def askT:Tm:=.mk 1 (-1) 0 [97,115,107] zE []
def pR1 (w:Int) (r:Rb):Tm:=(wtF w false (cJ jO jM qH (mkP r 0)) 0).1
theorem pI1 (r:Rb):(cF2 (payG r))[0]?=some (cJ jO jM qH (mkP r 0)):=rfl
theorem cC2 (r:Rb) (w:Int) (hr:smB r=true):gA (pp G) H0 13 [rbV r,.int .i64 w] (fun d=>∃ y,d=tmV y∧smT y=true∧(y=askT∨y=pR1 w r)):=by
 refine cY G fir13 (by kernel_rfl) (nD1 ..) fun hlo=>?_;rw[gO2]
 have hcl:∀ x:Rb,(rbV x).cells.toList=rbC x:=fun _=>rfl
 have hone:(rbC r).all one=true:=oL0 r
 have hlen:=cV r
 have htk:(rbC r).take 5=rbC r:=List.take_of_length_le (by rw[cV];exact Nat.le_refl _)
 push_cast(disch:=first|omega|(apply id;push_cast;try omega))[hcl,hone,hlen,htk,↓uW2]
 refine jB.func (cap:=[]) (args:=[_]) (bK2 G true 0 0 [r] (by simp) (by simp[smBs,hr]) _) ?_
 rintro _ h ⟨q,c,q2,k,cs,rfl,ho,hq,ho2,hq2,hcs,g⟩
 obtain ⟨b2,m,rfl,b1,b2n,hb2,hm⟩:∃ b2 m,q2=some ⟨b2,0,none⟩∧h.lo≤b2∧b2<h.next∧cells h b2=some (cs,eDf,m)∧((m=true∧k=UC)∨(m=false∧k=5)):=by
  rcases ho2.hat with ⟨_,h0,_⟩|h1
  ·omega
  ·exact h1
 have hq21:=hq2 b2 ⟨0,none,rfl⟩
 have hgl:=g.lo
 have hgn:=g.next
 push_cast(disch:=first|omega|(apply id;push_cast;try omega)) at hq21 hgl hgn hq
 have c1:cells h 2=some (ztm,etm,false):=g.cellsE (by push_cast(disch:=first|omega|(apply id;push_cast;try omega));first|done|rfl) (by push_cast(disch:=first|omega|(apply id;push_cast;try omega))) id
 have hcl1:=ho2.hlen
 have hco:=ho2.hone
 clear g ho2 hq2
 rw[oT2] at hcs
 have hnb:¬ h.next=b2:=by omega
 have hqn:∀ b,blk q b→¬ b=h.next:=fun b hb=>by have:=(qI.lt ho hb).2;omega
 push_cast(disch:=first|omega|(apply id;push_cast;try omega))
 refine WD.loop4 (q:=qq) (qB G) (by kernel_rfl) (I22 G r w h.next b2 c k m q) ?_ _ _ (I22.mk 1 1 _ cs rfl ⟨by omega,by omega⟩ ?_ ?_ ?_ ?_ hcl1 hco hcs ?_ ?_)
 ·have hbp:∃ bp,bp=h.next:=⟨_,rfl⟩
  obtain ⟨bp,hbp⟩:=hbp
  rw[← hbp] at hnb hqn ⊢
  have hbp3:3≤bp:=by omega
  have hb23:3≤b2:=hq21.1
  have hqb:¬ blk q b2:=hq21.2
  clear hbp c1 hcl1 hco hcs hb2 b1 b2n hgl hgn ho hq21 h cs
  intro μ s1 hI
  cases hI with|mk i iv h cs hiv hi c1 c2 ho hb2 hl h1 hcs hl1 hl2=>
  subst hiv
  rw[wY1]
  by_cases hil:(i:Int)<5
  ·have hile:i*9+1+8≤5*9:=by omega
   push_cast(disch:=first|omega|(apply id;push_cast;try omega))[hil,c2,hb2,hl,hl1,Int.toNat_natCast]
   have hz:=fun τ=>(((hcs τ).take (i*9+1)).app (bO2 G τ 1)).app ((hcs τ).drop (i*9+1+8))
   rw[show i*9+1+8=i*9+9 by omega] at hz
   rw[lM1 payP (pH1 r i (j:=i) (by omega)),pG1 r hi.1 (by omega)] at hz
   rw[show i*9+1+8=i*9+9 by omega]
   refine ⟨_,by omega,I22.mk (i+1) _ _ _ (by first|rfl|omega) (by omega) ?_ ?_ ?_ (by push_cast(disch:=first|omega|(apply id;push_cast;try omega));first|done|rfl) ?_ ?_ hz ?_ ?_⟩
   iterate 2 exact (by first|assumption|(push_cast(disch:=first|omega|(apply id;push_cast;try omega))[c1,c2];try omega))
   ·exact ho.grew (S:=fun k=>k=b2) (jF.put _ _ _ fun _=>rfl) (fun b hb e=>hqb (by rw[← e];exact hb))
   ·simp[hl,show payC.length=8 from rfl];omega
   ·simp only[List.all_append,Bool.and_eq_true]
    refine ⟨⟨?_,rfl⟩,?_⟩
    ·rw[List.all_eq_true] at h1 ⊢;exact fun v hv=>h1 v (List.mem_of_mem_take hv)
    ·rw[List.all_eq_true] at h1 ⊢;exact fun v hv=>h1 v (List.mem_of_mem_drop hv)
   iterate 2 exact (by first|assumption|(push_cast(disch:=first|omega|(apply id;push_cast;try omega))[hl1];try omega))
  ·obtain rfl:i=5:=by omega
   push_cast(disch:=first|omega|(apply id;push_cast;try omega))[c2,hl1]
   rw[wX1]
   push_cast(disch:=first|omega|(apply id;push_cast;try omega))[c2,hl1]
   have hlf:∀ b,3≤b→(!Nat.blt b 3 || Nat.blt b h.lo)=true:=fun b hb=>by rw[show Nat.blt b 3=false from pG2 (by omega)];rfl
   have hf1:qI (hflt (fun i=>!Nat.blt i 3 || Nat.blt i h.lo) h) eVr 2 q 3 c (vrs (varL 0)):=qI.flt ho fun b hb=>hlf b (hq b hb)
   have hz:FzL (pp G).P h.lo (hflt (fun i=>!Nat.blt i 3 || Nat.blt i h.lo) h) [.agg ⟨[.slice q 3 c,Rw false eS 2 (nss jM),.slice (some ⟨b2,0,none⟩) 5 k]⟩] [pgV (payG r)]:=by
    refine .cons (.agg (.cons (hf1.fz rfl (by decide) (by decide) (.ids (uJ2 _ _)) (fun b hb=>by have:=hq b hb;omega)) (.cons (.id (dV0 _ (by omega) _ _ _)) (.cons ?_ .nil)))) .nil
    refine .sl (size:=9) (by omega) ((kN0 h (hlf b2 hb23)).trans hb2) rfl (by decide) (by omega) ?_ ?_
    ·rcases hm with ⟨rfl,rfl⟩|⟨rfl,rfl⟩
     ·exact .inr ⟨rfl,Nat.le_refl _,by simp,by simp only[U];omega⟩
     ·exact .inl ⟨by simp only[UC];omega,Nat.le_refl _⟩
    ·rw[List.drop_zero,List.take_of_length_le (by omega)]
     have:=hcs (hflt (fun i=>!Nat.blt i 3 || Nat.blt i h.lo) h)
     rw[hl1] at this ⊢;exact this
   refine jB.giveE (cap:=[]) (args:=[_]) (fun i=>Nat.blt i 3) (fun i hi=>by simp;omega) (lI2 G (payG r) (by show 3≤20;omega) (by show 2≤10;omega) (by show 5≤20;omega) (by show 1≤5;omega) (bN2 r)) hz ?_
   rintro _ ⟨t,b,rfl,ht,htE⟩
   refine ⟨by simp[Ev.sc,scL,kV _ (show 0<h.lo by omega)],?_⟩
   have c1':cells (hflt (fun i=>Nat.blt i 3) h) 2=some (ztm,etm,false):=(kN0 h (by decide)).trans c1
   have hl1':(hflt (fun i=>Nat.blt i 3) h).lo=1:=hl1
   have hn3:3≤(hflt (fun i=>Nat.blt i 3) h).next:=by show 3≤h.next;omega
   generalize hflt (fun i=>Nat.blt i 3) h=h1 at *
   have c1'':=c1'
   unfold ztm at c1''
   cases b with
   | false=>
    push_cast(disch:=first|omega|(apply id;push_cast;try omega))[hl1',c1'',Bool.not_false]
    exact ⟨_,⟨_,rfl,rfl,.inl rfl⟩,uP2 G _ _ 1 (-1) 0 [97,115,107]⟩
   | true=>
    push_cast(disch:=first|omega|(apply id;push_cast;try omega))[hl1',c1'',Bool.not_true]
    refine jB.func (cap:=[]) (args:=[_,_,_,_]) (lA0 G w t ht _ (h1.next+1) 0 false ?_ (by omega) ?_) ?_
    iterate 2 exact tH
    ·rintro _ _ ⟨rfl,rfl⟩
     have hsm:=uI2 w t false 0 ht
     push_cast(disch:=first|omega|(apply id;push_cast;try omega))[hl1',c1'']
     have hte:t=cJ jO jM qH (mkP r 0):=by have:=htE rfl;rw[pI1] at this;exact (Option.some.inj this).symm
     exact ⟨_,⟨_,rfl,hsm,.inr (by unfold pR1;rw[← hte])⟩,.id (kV _ (by omega) _)⟩
 iterate 2 exact (by first|assumption|(push_cast(disch:=first|omega|(apply id;push_cast;try omega))[c1];try omega))
 ·exact (ho.grew (jF.add h _ (fun _=>False)) fun _ _ h=>h).grew (S:=fun k=>k=h.next) (jF.put _ _ _ fun _=>rfl) (fun b hb e=>hqn b hb e)
 iterate 3 exact (by first|assumption|(push_cast(disch:=first|omega|(apply id;push_cast;try omega))[hb2,hgl];try omega))
end
end Go.Proofs.YtgeakofgklcipaaDoor
