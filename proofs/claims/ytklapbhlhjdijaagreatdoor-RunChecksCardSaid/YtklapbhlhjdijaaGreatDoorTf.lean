/-
  A part of the proof: what the program's functions hand back,as theorems. No condition but those that each theorem names.
-/
import Derived.Test.YtklapbhlhjdijaaGreatDoorTe
import Derived.Test.YtklapbhlhjdijaaGreatDoorExc
import Derived.Test.YtklapbhlhjdijaaGreatDoorTc
import Derived.Test.YtklapbhlhjdijaaGreatDoorTb
set_option linter.unusedSimpArgs false
set_option linter.unusedVariables false
namespace Go.Proofs.YtklapbhlhjdijaaGreatDoor
open _root_.Go.Proofs.Tryz (prog)
open Go Go.RowKit Go.Ev Go.Dv
noncomputable section
attribute [local push_cast] eq_self iff_self
set_option maxRecDepth 100000
variable (G:Nat×Nat)
theorem jM0 (a n:Int)(e:0<n)(d:n<1000000000000):jG (pp G) H0 16 [.int .i64 a,.int .i64 n] (.int .i64 (jK a n)):=by
 refine cE G fir16 Z7 (yH0 ..) λg=>?_;rw[rS2]
 have h0:¬ n=0:=Z0
 have b:¬ n = -1:=Z0
 have c:=qS (a:=a) e
 unfold jK at c ⊢
 by_cases h:a.tmod n<0
 ·rw[if_pos h]
  rw[if_pos h] at c
  have f:IntKind.i64.wrap (a.tmod n+n)=a.tmod n+n:=W_in (by unfold In;omega)
  refine S4 h @h0 b f ?_
  exact .id rfl
 ·rw[if_neg h]
  rw[if_neg h] at c
  refine S3 h @h0 b ?_
  exact .id rfl
theorem uD2 (f:Cf):(cfV f).cells.toList=cfC f:=rfl
theorem uE2 (f:Cf):(cfC f).length=13:=by unfold cfC;rw[List.length_append,bV];rfl
theorem cfC_t (f:Cf):(cfC f).take 13=cfC f:=List.take_of_length_le (by rw[uE2];exact Z3 _)
theorem cfC_0 (f:Cf):(cfC f)[0]?=some (.int .i64 f.t.k):=by obtain ⟨⟨k,a,b,s,e,l⟩,v,c,n,h⟩:=f;rfl
theorem mO3 (f:Cf):(cfC f)[12]?=some (.int .i64 f.key):=by obtain ⟨⟨k,a,b,s,e,l⟩,v,c,n,h⟩:=f;rfl
theorem cfC_1 (f:Cf):(cfC f).all one=true:=sX0
theorem dM2 (f:Cf):Value.agg ⟨cfC f⟩=cfV f:=rfl
attribute [push_cast] uD2 uE2 cfC_t cfC_0 mO3 cfC_1 dM2
def uG0:Co:=⟨[],0,[.mk 1 (-1) 0 [112,97,121] zE []],0⟩
theorem gN3 (σ:jA):bsD (qq.m 26) (slT prog 26) 1 [(0,.agg ⟨[.int .i64 1,.int .i64 (-1),.int .i64 0,.string (Tx [112,97,121]),.int .i64 0,.int .i64 0,.string (Tx []),.slice none 0 0,.slice none 0 0]⟩)] σ=some (Rw true 34 1 [.int .i64 1,.int .i64 (-1),.int .i64 0,.string (Tx [112,97,121]),.int .i64 0,.int .i64 0,.string (Tx []),.slice none 0 0,.slice none 0 0],σ):=Z7
theorem fI0 (n:Nat)(σ:jA):FzV prog n σ (.agg ⟨[.slice none 0 0,.int .i64 0,Rw true 34 1 [.int .i64 1,.int .i64 (-1),.int .i64 0,.string (Tx [112,97,121]),.int .i64 0,.int .i64 0,.string (Tx []),.slice none 0 0,.slice none 0 0],.int .i64 0]⟩) (coV uG0):=
 .agg (.cons (.nil (size:=1) rfl Z1) (.cons (.id rfl) (.cons (.row (.cons (.id rfl) (.cons (.id rfl) (.cons (.id rfl) (.cons (.id rfl) (.cons (.id rfl) (.cons (.id rfl) (.cons (.id rfl) (.cons (.nil (size:=4) rfl Z1) (.cons (.nil (size:=9) rfl Z1) .nil)))))))))) (.cons (.id rfl) .nil))))
def rO0:Cf:=cD0 uG0
def mB1:Cf:=(doF uG0 rO0 0).f
theorem mI2:doB uG0 rO0=true:=Z7
theorem gK3:tlB uG0 mB1 0=true:=Z7
theorem gM3:rO0=⟨.mk 1 (-1) 0 [112,97,121] zE [],[],[],0,0⟩:=Z7
theorem gL3:doF uG0 rO0 0=⟨⟨.mk 14 0 (-1) [112,97,121] zE [],[],[],1,1⟩,[112,97,121],0,true,0⟩:=Z7
theorem pay_2:doF uG0 rO0 1=⟨cfZ,[],0,false,12⟩:=Z7
theorem pay_3:oH2 uG0 mB1 0 7=⟨⟨zT,[],[],1,1⟩,[112,97,121],0,7,true⟩:=Z7
theorem pay_4:chkC uG0=true:=Z7
theorem bL2:jG (pp G) H0 11 [] (.bool true):=by
 have d:SmC uG0:=⟨by decide,by decide,Z7⟩
 have h0:=wC3 G uG0 d
 have c:=do_f G uG0 rO0 0 (mZ2 mI2)
 have h:=do_f G uG0 rO0 1 (mZ2 mI2)
 have a:=kP3 G uG0 mB1 0 7 (kM3 gK3)
 have b:=bY0 G uG0 d
 rw[gL3] at c
 rw[pay_2] at h
 rw[pay_3] at a
 rw[pay_4] at b
 have g:mB1=⟨.mk 14 0 (-1) [112,97,121] zE [],[],[],1,1⟩:=by unfold mB1;rw[gL3]
 rw[g] at a
 have e0:cD0 uG0=⟨.mk 1 (-1) 0 [112,97,121] zE [],[],[],0,0⟩:=gM3
 rw[e0] at h0
 rw[gM3] at c h
 have e:FzL prog H0.next H0 [.agg ⟨[.slice none 0 0,.int .i64 0,Rw true 34 1 [.int .i64 1,.int .i64 (-1),.int .i64 0,.string (Tx [112,97,121]),.int .i64 0,.int .i64 0,.string (Tx []),.slice none 0 0,.slice none 0 0],.int .i64 0]⟩] [coV uG0]:=.cons (fI0 _ _) .nil
 refine cE G fir11 Z7 (yF0 ..) λf=>?_;rw[rX2]
 unfold dvV at c h
 unfold tvV at a
 dsimp only at c h a
 push_cast(disch:=first|omega|(apply id;push_cast;try omega))[↓gN3]
 refine jD.data (cap:=[]) (args:=[_]) h0 e rfl rfl ?_
 refine S0 ?_
 refine jD.data (cap:=[]) (args:=[_,_,_]) c (.cons (fI0 _ _) (.cons (.id rfl) (.cons (.id rfl) .nil))) rfl rfl ?_
 refine S0 ?_
 refine jD.data (cap:=[]) (args:=[_,_,_]) h (.cons (fI0 _ _) (.cons (.id rfl) (.cons (.id rfl) .nil))) rfl rfl ?_
 refine S0 ?_
 refine jD.data (cap:=[]) (args:=[_,_,_,_]) a (.cons (fI0 _ _) (.cons (.id rfl) (.cons (.id rfl) (.cons (.id rfl) .nil)))) rfl rfl ?_
 refine S0 ?_
 refine jD.data (cap:=[]) (args:=[_]) b e rfl rfl ?_
 refine S0 ?_
 rw[show (([112,97,121]:List Zu) == [112,97,121])=true by simp]
 refine S0 ?_
 exact .id rfl
theorem qZ2 (y:Co)(d:SmC y){h:jA}{b:Nat}{cs:List Z6}(cb:cells h b=some (cs,28,false))(hl:cs.length=4)(h1:cs.all one=true)(hcs:FzL prog h.lo h cs (coC y))(g:h.lo=1)(hb:1≤b){x0 x1 x2 x3 x4 x5 x6 x7 x8 x9 xA xB xD xE xF xG xH xI xJ xK xL xM xN xO xP xQ xR xS xT xU xV xW xX xY xZ yA yB yC yD yE yF yG yH yI yJ yK yL yM yN yO yP yQ yR yS yT yU yV yW yX yY yZ zA zB zC zD zF zG zH zI zJ zK zL zM zN zO zP zQ zR zS zU zV zW zX zY zZ wA wB wC wD wE wF wG wH wI wJ wK wL wM wN X s F M o x wV wW wX q wZ V uB uC I Z uF m uH uI uJ R p n T J e C w i c A l L K r B f v D Y N H qG qH j k u z E a P qP qQ t:Z6} :
  dc3 (pp G) qq none uD1 ⟨(F155 x0 x1 x2 x3 x4 x5 x6 x7 x8 x9 xA xB (.pointer (some ⟨b,0,none⟩)) xD xE xF xG xH xI xJ xK xL xM xN xO xP xQ xR xS xT xU xV xW xX xY xZ yA yB yC yD yE yF yG yH yI yJ yK yL yM yN yO yP yQ yR yS yT yU yV yW yX yY yZ zA zB zC zD zF zG zH zI zJ zK zL zM zN zO zP zQ zR zS zU zV zW zX zY zZ wA wB wC wD wE wF wG wH wI wJ wK wL wM wN X s F M o x wV wW wX q wZ V uB uC I Z uF m uH uI uJ R p n T J e C w i c A l L K r B f v D Y N H qG qH j k u z E a P qP qQ t),[],h⟩ (@kR ⟨jO prog [.tmp 10] (λv' σ'=>FzV prog 1 σ' v' (.bool true))⟩):=by
 rw[lC1]
 have hz:FzL prog h.lo h [.agg ⟨cs⟩] [coV y]:=.cons (by rw[← wW1];exact .agg hcs) .nil
 have ht:cs.take 4=cs:=List.take_of_length_le Z0
 have hd:cs.drop 4=[]:=List.drop_of_length_le Z0
 push_cast(disch:=first|omega|(apply id;push_cast;try omega))[cb,g,hb,hl,h1,ht,hd]
 refine jD.lend (cap:=[]) (args:=[_]) (bY0 G y d) hz rfl ?_
 push_cast(disch:=first|omega|(apply id;push_cast;try omega))[cb,g,hb,hl,h1,ht,hd]
 refine jD.lend (cap:=[]) (args:=[_]) (uA2 G y d) hz rfl ?_
 push_cast(disch:=first|omega|(apply id;push_cast;try omega))[beq_self_eq_true]
 exact .id rfl
theorem gU2 {σ:jA}{N:Nat}(f:σ.next=N)(w:σ.lo≤N)(l:List Tm)(v:l.length<1000000) :
  ∃ a c σ',apS etm 9 120 (.slice (some ⟨N,0,none⟩) 0 0) (some (l.length,jX l)) (σ.add (O [] etm false))=some (.slice a l.length c,σ')∧kM σ' etm 9 a l.length c (jX l)∧σ'.lo=σ.lo∧N+1≤σ'.next∧(∀ i,i<N→∀ x,cells σ i=some x→cells σ' i=some x)∧(∀ k,blk a k→N≤k):=by
 have h0:kM (σ.add (O [] etm false)) etm 9 (some ⟨σ.next,0,none⟩) 0 0 []:=⟨rfl,rfl,.inr ⟨σ.next,false,rfl,by rw[jP];omega,by rw[jB];omega,qV _ _ _ _ rfl,.inr ⟨rfl,rfl⟩⟩⟩
 obtain ⟨p,q,h,g,j,b,t⟩:=cD (by_:=120) h0 Z0 (by rw[jP,jB];omega) (m:=l.length) (xs:=jX l) (cF l) (eL l) Z0
 rw[Nat.zero_add,List.nil_append] at j
 rw[Nat.zero_add,f] at g
 have d:N+1≤h.next:=by have:=b.next;rw[jB] at this;omega
 refine ⟨p,q,h,g,j,by rw[b.lo,jP],d,λi hi x n=>?_,λk r=>?_⟩
 ·exact b.cellsE (by rw[gD _ _ Z0];exact n) (by rw[jB];omega) λ⟨o,s,e⟩=>by cases e;omega
 ·rcases t k r with ⟨o,s,e⟩|u
  ·cases e;omega
  ·rw[jB] at u;omega
theorem eC {σ:jA}{b c1 n:Nat}{vs:List Int}{s m:Int}{p:List Tm}{a1:Z8 Addr}{xs:List Z6}{y:Z6}(hv:vs.length<100000000000)(hp:p.length<100000000000)(hsm:cC p=true)(hn:p.length=n)
  (cb:cells σ b=some ([y,.int .i64 s,.slice a1 n c1,.int .i64 m],28,false)) (hy:FzV prog 1 σ y (ivV vs)) (hy1:one y=true) (o:kM σ etm 9 a1 n c1 xs) (hx:∀ τ,FzL prog 1 τ xs (jX p)) (e:σ.lo=1) (hb:1≤b) (hb1:∀ k,blk a1 k→1≤k) {x0 x1 x2 x3 x4 x5 x6 x7 x8 x9 xA xB xD xE xF xG xH xI xJ xK xL xM xN xO xP xQ xR xS xT xU xV xW xX xY xZ yA yB yC yD yE yF yG yH yI yJ yK yL yM yN yO yP yQ yR yS yT yU yV yW yX yY yZ zA zB zC zD zF zG zH zI zJ zK zL zM zN zO zP zQ zR zS zU zV zW zX zY zZ wA wB wC wD wE wF wG wH wI wJ wK wL wM wN wO w K T r C wV wW wX u wZ uA uB uC M uE uF l uH uI uJ Y t q Z N c H B f a E j R P v F d A I qD V L qG qH g i z D J h X qP qQ x:Z6} :
  dc3 (pp G) qq none uD1 ⟨(F155 x0 x1 x2 x3 x4 x5 x6 x7 x8 x9 xA xB (.pointer (some ⟨b,0,none⟩)) xD xE xF xG xH xI xJ xK xL xM xN xO xP xQ xR xS xT xU xV xW xX xY xZ yA yB yC yD yE yF yG yH yI yJ yK yL yM yN yO yP yQ yR yS yT yU yV yW yX yY yZ zA zB zC zD zF zG zH zI zJ zK zL zM zN zO zP zQ zR zS zU zV zW zX zY zZ wA wB wC wD wE wF wG wH wI wJ wK wL wM wN wO w K T r C wV wW wX u wZ uA uB uC M uE uF l uH uI uJ Y t q Z N c H B f a E j R P v F d A I qD V L qG qH g i z D J h X qP qQ x),[],σ⟩ (@kR ⟨jO prog [.tmp 10] (λv' σ'=>FzV prog 1 σ' v' (.bool true))⟩):=by
 subst hn
 refine qZ2 G ⟨vs,s,p,m⟩ ⟨hv,hp,hsm⟩ cb rfl ?_ ?_ e hb
 ·rw[List.all_cons,hy1];rfl
 ·rw[e]
  exact .cons hy (.cons (.id rfl) (.cons (o.fz rfl Z1 Z0 (hx σ) hb1) (.cons (.id rfl) .nil)))
theorem row4 (n x:Int)(σ:jA):bsD (qq.m 25) (slT prog 25) 4 [(0,.int .i64 (-1)),(1,.int .i64 0),(2,.int .i64 n),(3,.int .i64 x)] σ=some (Rw true eI 4 (ivs [-1,0,n,x]),σ):=Z7
theorem row6k (x:Int)(σ:jA):bsD (qq.m 25) (slT prog 25) 6 [(0,.int .i64 (-1)),(1,.int .i64 0),(2,.int .i64 1),(3,.int .i64 10),(4,.int .i64 11),(5,.int .i64 x)] σ=some (Rw true eI 6 (ivs [-1,0,1,10,11,x]),σ):=Z7
theorem zU3 (N:Nat)(σ:jA):FzL (pp G).P N σ [.int .i64 0,.int .i64 0,.int .i64 0,.string (Tx []),.int .i64 0,.int .i64 0,.string (Tx []),.slice none 0 0,.slice none 0 0] (tmC zT):=
 .cons (.id rfl) (.cons (.id rfl) (.cons (.id rfl) (.cons (.id rfl) (.cons (.id rfl) (.cons (.id rfl) (.cons (.id rfl) (.cons (.nil (size:=4) rfl Z1) (.cons (.nil (size:=9) rfl Z1) .nil))))))))
theorem rowZ (σ:jA):bsD (qq.m 26) (slT prog 26) 1 [(0,.agg ⟨[.int .i64 0,.int .i64 0,.int .i64 0,.string (Tx []),.int .i64 0,.int .i64 0,.string (Tx []),.slice none 0 0,.slice none 0 0]⟩)] σ=some (Rw true etm 1 [.int .i64 0,.int .i64 0,.int .i64 0,.string (Tx []),.int .i64 0,.int .i64 0,.string (Tx []),.slice none 0 0,.slice none 0 0],σ):=Z7
inductive J22 (vs:List Int)(s m v:Int)(b:Nat):Nat→S→Prop
 | mk (n:Nat) (q:Z8 Addr) (cc:Nat) (xs:List Z6) (p:List Tm) (h:jA) {x0 x1 x2 x3 x5 x6 x7 x8 x9 xA xB xD xE xF xG xH xI xJ xK xL xM xN xO xP xQ xR xS xT xU xV xW xX xY xZ yA yB yC yD yE yF yG yH yI yJ yK yL yM yN yO yP yQ yR yS yT yU yV yW yX yY yZ zA zB zC zD zF zG zH zI zJ zK zL zM zN zO zP zQ zR zS zU zV zW zX zY zZ wA wB wC wD wE wF wG wH wI wJ wK wL wM wN wO wP wQ wR wS wU wV wW wX wY wZ uA uB uC uD uE uF uG uH uI uJ uK uL uM uN uO uP uQ uR uS uT uU uV uW uX uY uZ qA qB qC qD qE qF qG qH qI qJ qK qL qM qN qO qP qQ qR:Z6} (hn:p.length=n) (hnn:n≤22) (hsm:cC p=true)
  (cb:cells h b=some ([Rw false eI vs.length (ivs vs),.int .i64 s,.slice q n cc,.int .i64 m],28,false)) (o:kM h etm 9 q n cc xs) (hx:∀ τ,FzL prog 1 τ xs (jX p)) (hl1:h.lo=1) (hq:∀ k,blk q k→b+1≤k) (hnx:b+1≤h.next) :
  J22 vs s m v b (30-n) ⟨(F155 x0 x1 x2 x3 (.int .i64 v) x5 x6 x7 x8 x9 xA xB (.pointer (some ⟨b,0,none⟩)) xD xE xF xG xH xI xJ xK xL xM xN xO xP xQ xR xS xT xU xV xW xX xY xZ yA yB yC yD yE yF yG yH yI yJ yK yL yM yN yO yP yQ yR yS yT yU yV yW yX yY yZ zA zB zC zD zF zG zH zI zJ zK zL zM zN zO zP zQ zR zS zU zV zW zX zY zZ wA wB wC wD wE wF wG wH wI wJ wK wL wM wN wO wP wQ wR wS wU wV wW wX wY wZ uA uB uC uD uE uF uG uH uI uJ uK uL uM uN uO uP uQ uR uS uT uU uV uW uX uY uZ qA qB qC qD qE qF qG qH qI qJ qK qL qM qN qO qP qQ qR),[],h⟩
inductive J21 (sv:List Z6)(c0:Co)(w a v:Int):Nat→S→Prop
 | mk (i:Nat) (iv:Int) (h:jA) {x0 x1 x7 x8 x9 xA xC xD xE xF xG xH xI xJ xK xL xM xN xO xP xQ xR xS xT xU xV xW xX xY xZ yA yB yC yD yE yF yG yH yI yJ yK yL yM yN yO yP yQ yR yS yT yU yV yW yX yY yZ zA zB zC zD zF zG zH zI zJ zK zL zM zN zO zP zQ zR zS zU zV zW zX zY zZ wA wB wC wD wE wF wG wH wI wJ wK wL wM wN wO wP wQ wR wS wU wV wW wX wY wZ uA uB uC uD uE uF uG uH uI uJ uK uL uM uN uO uP uQ uR uS uT uU uV uW uX uY uZ qA qB qC qD qE qF qG qH qI qJ qK qL qM qN qO qP qQ qR:Z6} (hiv:iv=(i:Int)) (hi:i≤c0.p.length) (hks:cC (c0.p.take i)=true) (d0:cells h 1=some (sv,24,false)) (d1:cells h 2=some (coC c0,28,false)) (hl1:h.lo=1) (hl2:3≤h.next) :
  J21 sv c0 w a v (c0.p.length-i) ⟨(F155 x0 x1 (.int .i64 w) (.int .i64 a) (.int .i64 v) (.pointer (some ⟨1,0,none⟩)) (.pointer (some ⟨2,0,none⟩)) x7 x8 x9 xA (.int .i64 iv) xC xD xE xF xG xH xI xJ xK xL xM xN xO xP xQ xR xS xT xU xV xW xX xY xZ yA yB yC yD yE yF yG yH yI yJ yK yL yM yN yO yP yQ yR yS yT yU yV yW yX yY yZ zA zB zC zD zF zG zH zI zJ zK zL zM zN zO zP zQ zR zS zU zV zW zX zY zZ wA wB wC wD wE wF wG wH wI wJ wK wL wM wN wO wP wQ wR wS wU wV wW wX wY wZ uA uB uC uD uE uF uG uH uI uJ uK uL uM uN uO uP uQ uR uS uT uU uV uW uX uY uZ qA qB qC qD qE qF qG qH qI qJ qK qL qM qN qO qP qQ qR),[],h⟩
theorem lY2 {l:List Tm}{i k:Nat}{x:Tm}(h:l[i]?=some x)(a:k<9):(jX l)[i*9+k]?=(tmC x)[k]?:=by
 rw[← gA h,List.getElem?_take_of_lt a,List.getElem?_drop]
theorem checks_law (v0 st:Int)(l:List Rb)(L:Co)(B J v:Int)(hll:l.length<1000000000000000)(hsl:smBs l=true) :
  jG (pp G) H0 3 [shV v0 st l,coV L,.int .i64 B,.int .i64 J,.int .i64 v] (.bool true):=by
 refine cE G fir3 Z7 (lG2 ..) λhlo=>?_;rw[yH3]
 unfold shV
 refine S0 ?_
 refine dK (bL2 G) ?_
 refine S0 ?_
 refine dK (fE3 G v0 st l hll hsl) ?_
 cases hf:fewB l with
 | false=>push_cast(disch:=first | omega | (apply id;push_cast;try omega))[Bool.not_false];exact .id rfl
 | true=>
 refine S1 @Bool.not_true ?_
 by_cases hv6:(60:Int)<L.v.length
 ·unfold coC ivV kV
  refine S1 hv6 ?_
  exact .id rfl
 by_cases hp3:(30:Int)<L.p.length
 ·unfold coC ivV kV
  refine S2 hv6 hp3 ?_
  exact .id rfl
 have e0:coC L=coC L:=rfl
 conv at e0=>rhs;unfold coC ivV kV
 rw[e0]
 refine S2 hv6 hp3 ?_
 rw[← e0]
 clear e0
 refine WD.loop4 (q:=qq) (jS G) Z7 (J21 [.int .i64 v0,.int .i64 st,Rw false erb l.length (rbCs l)] L B J v) ?_ _ _ (J21.mk 0 0 _ rfl (Nat.zero_le _) rfl tH tH tH tH)
 intro m s1 hI
 cases hI with|mk i iv h hiv hi hks d0 d1 f hl2=>
 subst hiv
 rw[lE1]
 have K:=d1
 unfold coC ivV kV at K
 by_cases E:(i:Int)<L.p.length
 ·obtain ⟨x,V⟩:=jU (l:=L.p) (i:=i) Z0
  have M:i*9+9≤L.p.length*9:=Z0
  obtain ⟨k,a,b,s,⟨ek,en,es,el⟩,xl⟩:=x
  have hg8:=lY2 V (k:=8) Z1
  have hg7:=lY2 V (k:=7) Z1
  rw[show (tmC (.mk k a b s (.mk ek en es el) xl))[8]?=some (Rw false etm xl.length (jX xl)) from rfl] at hg8
  rw[show (tmC (.mk k a b s (.mk ek en es el) xl))[7]?=some (Rw false eE el.length (gN el)) from rfl] at hg7
  by_cases hx8:(0:Int)<xl.length
  ·refine S7 E @Z4 M f K hg8 hx8 ?_
   exact .id rfl
  by_cases hx7:(0:Int)<el.length
  ·push_cast(disch:=first|omega|(apply id;push_cast;try omega))[E,Z4,M,f,K,hg8,hx8,hg7,hx7]
   exact .id rfl
  have hxs:cC [Tm.mk k a b s (.mk ek en es el) xl]=true:=by
   obtain rfl:xl=[]:=List.eq_nil_of_length_eq_zero Z0
   obtain rfl:el=[]:=List.eq_nil_of_length_eq_zero Z0
   simp[cC,smT,smE,smEs]
  push_cast(disch:=first|omega|(apply id;push_cast;try omega))[E,Z4,M,f,K,hg8,hx8,hg7,hx7]
  exact ⟨_,Z0,J21.mk (i+1) _ _ Z2 Z0 (by rw[jT V];exact uZ0 hks hxs) (by first|assumption|(push_cast(disch:=first|omega|(apply id;push_cast;try omega))[d0];try omega)) (by first|assumption|(push_cast(disch:=first|omega|(apply id;push_cast;try omega))[d1];try omega)) (by first|assumption|(push_cast(disch:=first|omega|(apply id;push_cast;try omega))[f];try omega)) hl2⟩
 ·obtain rfl:i=L.p.length:=Z0
  refine S3 E f K ?_
  rw[lD1]
  refine S3 E f d0 ?_
  rw[show Value.agg ⟨[.int .i64 v0,.int .i64 st,Rw false erb l.length (rbCs l)]⟩=shV v0 st l from rfl]
  have hsv:∀ n,0<n→Ev.sc n (shV v0 st l)=true:=λn hn=>by unfold shV;rw[Ev.sc,scL,scL,scL,scL,mF2 n hn];rfl
  refine jD.dataE (cap:=[]) (args:=[_]) (mL3 G v0 st l hll hsl) (.cons (.id (hsv _ Z1)) .nil) (by show Ev.sc h.lo _&&true=true;rw[hsv _ Z0];rfl) ?_
  rintro _ ⟨c,rfl,I⟩
  refine ⟨wV1 _ Z0 _,?_⟩
  have hcl:∀ x:Co,(coV x).cells.toList=coC x:=λ_=>rfl
  have hc0:SmC L:=⟨Z0,Z0,by rw[List.take_length] at hks;exact hks⟩
  have j:SmC c:=⟨by rw[I.v];decide,by have:=I.p;omega,I.sm⟩
  refine S1 hcl ?_
  refine dK (bY0 G c j) ?_
  rw[bT2 I]
  refine S2 @d1 f ?_
  refine dK (bY0 G L hc0) ?_
  refine S2 @d1 f ?_
  refine dK (uA2 G L hc0) ?_
  obtain ⟨F,D⟩:∃ F,F=((h.add (O [.slice none 0 0,.int .i64 0,.slice none 0 0,.int .i64 0] 28 false)).put h.next (O (coC c) 28 false)):=⟨_,rfl⟩
  have hN:F.next=h.next+1:=by rw[D];show (h.add _).next=_;rw[jB]
  have hL:F.lo=1:=by rw[D];show (h.add _).lo=_;rw[jP,f]
  have hc1:cells F h.next=some (coC c,28,false):=by rw[D];exact jQ _ _ _ _
  rw[← D]
  clear D d0 d1 K f hi E hv6 hp3 hsv
  generalize h.next=b at *
  obtain ⟨a1,c1,Y,e1,o1,f,hn1,hk1,H⟩:=gU2 (σ:=F) hN Z0 c.p (by have:=I.p;omega)
  have hc2:=hk1 b Z0 _ hc1
  have T:=hc1
  unfold coC ivV kV at T
  push_cast(disch:=first|omega|(apply id;push_cast;try omega))[bne_self_eq_false,beq_self_eq_true,↓sB2,hN,hL,T,e1]
  have hL2:Y.lo=1:=by rw[f,hL]
  have hu:=hc2
  unfold coC ivV kV at hu
  refine S2 hu hL2 ?_
  obtain ⟨w,D⟩:∃ w,w=Y.put b (O [Rw false eI c.v.length (ivs c.v),.int .i64 c.s,.slice a1 c.p.length c1,.int .i64 c.m] 28 false):=⟨_,rfl⟩
  have g3:jC Y w (λk=>k=b):=by rw[D];exact jC.put _ _ _ λ_=>rfl
  have o3:=o1.grew g3 (λk g e=>by have:=H k g;omega)
  have A:cells w b=some ([Rw false eI c.v.length (ivs c.v),.int .i64 c.s,.slice a1 c.p.length c1,.int .i64 c.m],28,false):=by rw[D];exact jQ _ _ _ _
  have r:w.lo=1:=by rw[g3.lo,hL2]
  have hN3:b+2≤w.next:=by have:=g3.next;omega
  rw[← D]
  clear D g3 hu hc2 T hk1 hn1 o1 e1 hL2 f hN hL hc1 hf
  clear F Y
  have R:∀ k,blk a1 k→1≤k:=λk g=>by have:=H k g;omega
  have gS:∀ cs,kM (w.put b (O cs 28 false)) etm 9 a1 c.p.length c1 (jX c.p):=λcs=>o3.grew (S:=λk=>k=b) (jC.put _ _ _ λ_=>rfl) (λk g e=>by have:=H k g;omega)
  have hw7:=qS (a:=B) (n:=7) Z1
  refine dK (jM0 G B 7 Z1 Z1) ?_
  generalize jK B 7=u at hw7
  obtain rfl|rfl|rfl|rfl|rfl|rfl|rfl:u=0∨u=1∨u=2∨u=3∨u=4∨u=5∨u=6:=Z0
  ·have X:=qS (a:=v) (n:=4) Z1
   have g:=jM0 G v 4 Z1 Z1
   generalize jK v 4=u at X g
   obtain ⟨u,rfl⟩:∃ t:Nat,u=(t:Int):=⟨u.toNat,Z0⟩
   obtain ⟨m',hm'⟩:=jU (l:=[(-1:Int),0,c.p.length,v]) (i:=u) (by simp;omega)
   have hg:(ivs [-1,0,(c.p.length:Int),v])[u]?=some (.int .i64 m'):=by unfold ivs;rw[List.getElem?_map,hm'];rfl
   have hu4:(u:Int)<4:=Z0
   push_cast(disch:=first|omega|(apply id;push_cast;try omega))[↓row4,A,r]
   refine ⟨?_,?_⟩
   all_goals
    refine dK (g) ?_
    push_cast(disch:=first|omega|(apply id;push_cast;try omega))[↓row4,A,r,hg,hu4,Z4]
    exact eC G j.v j.p j.t rfl (jQ _ _ _ _) (.id (yL0 _ Z1 _ _ _)) rfl (gS _) (λτ=>.ids (bK _ Z1 _)) r Z0 R
  ·have X:=qS (a:=v) (n:=6) Z1
   have g:=jM0 G v 6 Z1 Z1
   generalize jK v 6=u at X g
   obtain ⟨u,rfl⟩:∃ t:Nat,u=(t:Int):=⟨u.toNat,Z0⟩
   obtain ⟨m',hm'⟩:=jU (l:=[(-1:Int),0,1,10,11,v]) (i:=u) (by simp;omega)
   have hg:(ivs [-1,0,1,10,11,v])[u]?=some (.int .i64 m'):=by unfold ivs;rw[List.getElem?_map,hm'];rfl
   have hu4:(u:Int)<6:=Z0
   push_cast(disch:=first|omega|(apply id;push_cast;try omega))[↓row6k,A,r]
   refine dK (g) ?_
   refine S5 A r hg hu4 @Z4 ?_
   exact eC G j.v j.p j.t rfl (jQ _ _ _ _) (.id (yL0 _ Z1 _ _ _)) rfl (gS _) (λτ=>.ids (bK _ Z1 _)) r Z0 R
  ·have X:=qS (a:=v) (n:=23) Z1
   have g:=jM0 G v 23 Z1 Z1
   generalize jK v 23=u at X g
   obtain ⟨u,rfl⟩:∃ t:Nat,u=(t:Int):=⟨u.toNat,Z0⟩
   refine S0 ?_
   refine dK (g) ?_
   refine S2 A r ?_
   have hrep:(List.replicate (u:Int).toNat [Value.int .i64 0]).flatten=ivs (List.replicate u 0):=by
    rw[Z4,List.flatten_replicate_singleton];unfold ivs;rw[List.map_replicate]
   rw[hrep,Z4]
   have oy:kM (w.add (O (ivs (List.replicate u 0)) eI false)) eI 1 (some ⟨w.next,0,none⟩) u u (ivs (List.replicate u 0)):=
    ⟨by unfold ivs;simp,by unfold ivs;simp[one],.inr ⟨w.next,false,rfl,by rw[jP];omega,by rw[jB];omega,qV _ _ _ _ rfl,.inr ⟨rfl,rfl⟩⟩⟩
   have oy':=oy.grew (σ':=(w.add (O (ivs (List.replicate u 0)) eI false)).put b (O [.slice (some ⟨w.next,0,none⟩) u u,.int .i64 c.s,.slice a1 c.p.length c1,.int .i64 c.m] 28 false)) (S:=λk=>k=b) (jC.put _ _ _ λ_=>rfl) (λk g e=>by obtain ⟨o,s,e'⟩:=g;cases e';omega)
   have o4:=(o3.grew (jC.add w (O (ivs (List.replicate u 0)) eI false) (λ_=>False)) λ_ _ h=>h).grew (σ':=(w.add (O (ivs (List.replicate u 0)) eI false)).put b (O [.slice (some ⟨w.next,0,none⟩) u u,.int .i64 c.s,.slice a1 c.p.length c1,.int .i64 c.m] 28 false)) (S:=λk=>k=b) (jC.put _ _ _ λ_=>rfl) (λk g e=>by have:=H k g;omega)
   have hfy:=oy'.fz (P:=prog) (N:=1) rfl Z1 Z0 (.ids (uJ0 _ _)) (λk g=>by obtain ⟨o,s,e'⟩:=g;cases e';omega)
   exact eC G (vs:=List.replicate u 0) (by simp;omega) j.p j.t rfl (jQ _ _ _ _) (by unfold ivV;rw[List.length_replicate];exact hfy) rfl o4 (λτ=>.ids (bK _ Z1 _)) (by show (w.add _).lo=_;rw[jP,r]) Z0 R
  ·rcases o3.hat with ⟨_,h0,_⟩|⟨bq,m,rfl,q1,q2,q3,q4⟩
   ·have:=I.p;omega
   have hbq:=H bq ⟨0,none,rfl⟩
   have hlt:(0:Int)<c.p.length:=by have:=I.p;omega
   have C:(jX c.p).length=c.p.length*9:=cF c.p
   have X:=qS (a:=J) hlt
   have g:=jM0 G J c.p.length hlt (by have:=I.p;omega)
   generalize jK J c.p.length=u at X g
   obtain ⟨t,rfl⟩:∃ t:Nat,u=(t:Int):=⟨u.toNat,Z0⟩
   obtain ⟨x,V⟩:=jU (l:=c.p) (i:=t) Z0
   have hxm:=List.mem_of_getElem? V
   have hp:=gA V
   have Z:t*9+9≤c.p.length*9:=Z0
   have htl:(t:Int)<c.p.length:=Z0
   have hz8:(8:Int)≠0:=by decide
   push_cast(disch:=first|omega|(apply id;push_cast;try omega))[A,r,dC1 hz8]
   refine dK (g) ?_
   refine S2 A r ?_
   refine dK (g) ?_
   refine S8 A r htl Z C @q3 hp @Z4 ?_
   have hzx:=I.z x hxm
   refine dL (jW1 G v J x _ (kK j.t x hxm) Z0) ?_
   rintro d ⟨y,rfl,hy⟩
   refine ⟨cP _ Z0 y,?_⟩
   have hset:=jS1 (l:=c.p) (i:=t) y Z0
   refine S8 A r htl Z C @q3 hset @Z4 ?_
   exact eC G (p:=c.p.set t y) (xs:=jX (c.p.set t y)) j.v (by rw[List.length_set];exact j.p) (jY1 j.t hy t) List.length_set ((jR _ _ _ (show b≠bq by omega)).trans A) (.id (yL0 _ Z1 _ _ _)) rfl ⟨by rw[cF,List.length_set],eL _,.inr ⟨bq,m,rfl,q1,q2,jQ _ _ _ _,q4⟩⟩ (λτ=>.ids (bK _ Z1 _)) r Z0 R
  ·rcases o3.hat with ⟨_,h0,_⟩|⟨bq,m,rfl,q1,q2,q3,q4⟩
   ·have:=I.p;omega
   have hbq:=H bq ⟨0,none,rfl⟩
   have hlt:(0:Int)<c.p.length:=by have:=I.p;omega
   have Z:9≤c.p.length*9:=by have:=I.p;omega
   have C:(jX c.p).length=c.p.length*9:=cF c.p
   refine S6 A r hlt Z C @q3 ?_
   have htl:(wT :: c.p.tail).length=c.p.length:=by rw[List.length_cons,List.length_tail];omega
   refine eC G (p:=wT :: c.p.tail) (xs:=waC++(jX c.p).drop 9) j.v (by have:=I.p;omega) (by rw[cC,lL0 j.t];rfl) htl ((jR _ _ _ (show b≠bq by omega)).trans A) (.id (yL0 _ Z1 _ _ _)) rfl ⟨?_,?_,.inr ⟨bq,m,rfl,q1,q2,jQ _ _ _ _,q4⟩⟩ (λτ=>?_) r Z0 R
   ·rw[List.length_append,List.length_drop,C];show 9+_=_;omega
   ·rw[List.all_append,List.all_eq_true.2 λx V=>List.all_eq_true.1 (eL c.p) x (List.mem_of_mem_drop V)];rfl
   ·rw[jX,lF0];exact (zX3 G _ _).app (.ids (bK _ Z1 _))
  ·refine S0 ?_
   refine WD.loop4 (q:=qq) (jS G) Z7 (J22 c.v c.s c.m v b) ?_ _ _ (J22.mk c.p.length a1 c1 (jX c.p) c.p w rfl (by have:=I.p;omega) j.t A o3 (λτ=>.ids (bK _ Z1 _)) r H Z0)
   intro μ s1 hI
   cases hI with|mk n q cc xs p h hn hnn hsm cb o V f hq hnx=>
   rw[lB1]
   have X:=qS (a:=v) (n:=3) Z1
   have g:=jM0 G v 3 Z1 Z1
   generalize jK v 3=u at X g
   have hwr:IntKind.i64.wrap (19+u)=19+u:=W_id Z0
   by_cases E:(n:Int)<19+u
   ·obtain ⟨q',cc',h',ea,oa,ga,ba⟩:=cD (by_:=120) o Z0 Z0 (m:=1) (xs:=[.int .i64 0,.int .i64 0,.int .i64 0,.string (Tx []),.int .i64 0,.int .i64 0,.string (Tx []),.slice none 0 0,.slice none 0 0]) rfl rfl Z0
    refine S2 @cb f ?_
    refine dK (g) ?_
    have cb':=ga.cellsE cb Z0 (λg=>by have:=hq b g;omega)
    have hl':h'.lo=1:=by rw[ga.lo,f]
    have hq':∀ k,blk q' k→b+1≤k:=λk g=>by
     rcases ba k g with h|h
     ·exact hq k h
     ·omega
    have hn':=ga.next
    push_cast(disch:=first|omega|(apply id;push_cast;try omega))[hwr,E,cb,f,↓rowZ,ea,cb',hl']
    refine ⟨_,Z0,J22.mk (n+1) q' cc' _ (p++[zT]) _ (by simp[hn]) Z0 (uZ0 hsm rfl) (jQ _ _ _ _) (oa.grew (S:=λk=>k=b) (jC.put _ _ _ λ_=>rfl) (λk g e=>by have:=hq' k g;omega)) (λτ=>?_) hl' hq' (by show b+1≤h'.next;omega)⟩
    rw[qD0,show jX [zT]=tmC zT from by rw[jX,jX,List.append_nil]]
    exact (V τ).app (zU3 G _ _)
   ·refine S2 @cb f ?_
    refine dK (g) ?_
    refine S4 hwr E @cb f ?_
    exact eC G j.v Z0 hsm hn cb (.id (yL0 _ Z1 _ _ _)) rfl o V f Z0 (λk g=>by have:=hq k g;omega)
  ·refine S2 A r ?_
   exact eC G (p:=[]) j.v Z1 rfl rfl (jQ _ _ _ _) (.id (yL0 _ Z1 _ _ _)) rfl ⟨rfl,rfl,.inl ⟨rfl,rfl,rfl⟩⟩ (λτ=>.nil) r Z0 (λk g=>by obtain ⟨o,s,e'⟩:=g;cases e')
end
end Go.Proofs.YtklapbhlhjdijaaGreatDoor
namespace Go.Proofs.YtklapbhlhjdijaaGreatDoor
open _root_.Go.Proofs.Tryz (prog)
open Go Go.RowKit Go.Ev Go.Dv
noncomputable section
attribute [local push_cast] eq_self iff_self
set_option maxRecDepth 100000
@[reducible] def witS:Z6:=.agg ⟨[.int .i64 0,.int .i64 0,.slice none 0 0]⟩
@[reducible] def witC:Z6:=.agg ⟨[.slice none 0 0,.int .i64 0,.slice none 0 0,.int .i64 0]⟩
section
variable {w:Zw} {H:Type} {enc:Zt×Z6→H}
theorem f_sh:fieldsB prog 24 [(eI,0),(eI,1),(22,2)]=true:=Z7
theorem f_co:fieldsB prog 28 [(25,0),(eI,1),(26,2),(eI,3)]=true:=Z7
theorem open_sh (fuel:Nat){c:List Z6}{y:DataW H×List MemPlace}(m:DataW.trod enc prog w 0 (λ_=>true) true fuel 24 c=some y)(e:(y.1.weights prog 24).all (·≤reachBytes)=true) :
  ∃ r:Int×Int×List Rb,Go.Dv.Op prog 1 LL w [.int .i64 r.1,.int .i64 r.2.1,Rw false erb r.2.2.length (rbCs r.2.2)] c∧smBs r.2.2=true∧r.2.2.length<1000000000000000:=by
 obtain ⟨l,o,f,h⟩:=eF f_sh m e
 rw[show prog.cellsOf 24=3 by kernel_rfl] at f
 match c,f with
 | [a,b,d],_=>
  obtain ⟨D,i,_⟩:=h 0 _ _ rfl
  obtain ⟨B,g,_⟩:=h 1 _ _ rfl
  obtain ⟨A,j,x⟩:=h 2 _ _ rfl
  rw[show prog.cellsOf eI=1 by kernel_rfl] at i g
  rw[show prog.cellsOf 22=1 by kernel_rfl] at j
  obtain ⟨t,e0,s,_⟩:=bO (n:=1) (L:=LL) wS0 i
  obtain ⟨z,C,q,_⟩:=bO (n:=1) (L:=LL) wS0 g
  obtain ⟨v,p,k,u⟩:=gW2 l j x
  exact ⟨(t,z,v),(s.append q).append p,k,u⟩
theorem open_co (fuel:Nat){c:List Z6}{y:DataW H×List MemPlace}(p:DataW.trod enc prog w 0 (λ_=>true) true fuel 28 c=some y)(f:(y.1.weights prog 28).all (·≤reachBytes)=true) :
  ∃ r:Co,Go.Dv.Op prog 1 LL w (coC r) c∧True:=by
 obtain ⟨m,q,g,h⟩:=eF f_co p f
 rw[show prog.cellsOf 28=4 by kernel_rfl] at g
 match c,g with
 | [a,b,d,e],_=>
  obtain ⟨J,j,z⟩:=h 0 _ _ rfl
  obtain ⟨F,i,_⟩:=h 1 _ _ rfl
  obtain ⟨E,k,A⟩:=h 2 _ _ rfl
  obtain ⟨K,l,_⟩:=h 3 _ _ rfl
  rw[show prog.cellsOf 25=1 by kernel_rfl] at j
  rw[show prog.cellsOf eI=1 by kernel_rfl] at i l
  rw[show prog.cellsOf 26=1 by kernel_rfl] at k
  obtain ⟨B,v,_,_⟩:=gY2 j z
  obtain ⟨C,I,t,_⟩:=bO (n:=1) (L:=LL) wS0 i
  obtain ⟨x,s⟩:=gV2 m k A
  obtain ⟨u,D,o,_⟩:=bO (n:=1) (L:=LL) wS0 l
  exact ⟨⟨B,C,x,u⟩,((v.append t).append s).append o,trivial⟩
end
end
end Go.Proofs.YtklapbhlhjdijaaGreatDoor
