/-
  A part of the proof: what the program's functions hand back,as theorems. No condition but those that each theorem names.
-/
import Derived.Test.YtejgmoenmbjidaaWc
import Derived.Test.YtejgmoenmbjidaaEvc
set_option linter.unusedSimpArgs false
set_option linter.unusedVariables false
namespace Go.Proofs.Ytejgmoenmbjidaa
open _root_.Go.Proofs.Try (prog)
open Go Go.RowKit Go.Ev
noncomputable section
variable (G:Nat) (h:jB) {α:Type}
theorem mp52:mpT prog 52=some (.agg ⟨[.string .empty,.int .i64 0,.int .i64 0]⟩):=Z7
theorem mp53:mpT prog 53=some (.int .i64 0):=Z7
structure Evt where
 nm:List Zu
 key:Int
 val:Int
structure Msg where
 back:Zb
 e:Evt
structure Opn where
 nm:List Zu
 key:Int
 time:Int
 wait:Int
structure Wi where
 vs:List Int
 ck:Int
 op:List Opn
 fl:List Msg
 ap:List Evt
 kp:List Evt
def evC (e:Evt):List Z6:=[.string (Tx e.nm),.int .i64 e.key,.int .i64 e.val]
def msC (m:Msg):List Z6:=.bool m.back :: evC m.e
def asV (o:Opn):Z6:=.agg ⟨[.string (Tx o.nm),.int .i64 o.time,.int .i64 o.wait]⟩
def opC (o:Opn):List Z6:=[.string (Tx o.nm),.int .i64 o.key,.int .i64 0,.int .i64 o.time,.int .i64 o.wait]
def rw (f:α→List Z6):List α→List Z6
 | []=>[]
 | x :: l=>f x++rw f l
theorem qE {f:α→List Z6}{n:Nat}(hf:∀ x,(f x).length=n):∀ l,(rw f l).length=l.length*n
 | []=>by simp[rw]
 | x :: l=>by rw[rw,List.length_append,hf,qE hf l,List.length_cons,Nat.add_mul];omega
theorem kW {f:α→List Z6}:∀ l m,rw f (l++m)=rw f l++rw f m
 | [],m=>rfl
 | x :: l,m=>by rw[List.cons_append,rw,rw,kW l m,List.append_assoc]
theorem bN0 {f:α→List Z6}{n:Nat}(hf:∀ x,(f x).length=n):∀ (l:List α) (i:Nat),(rw f l).drop (i*n)=rw f (l.drop i)
 | l,0=>by simp
 | [],i+1=>by simp[rw]
 | x :: l,i+1=>by
  rw[rw,List.drop_succ_cons,← bN0 hf l i,show (i+1)*n=(f x).length+i*n by rw[hf,Nat.add_mul];omega,List.drop_append]
  simp
theorem fD0 {f:α→List Z6}{n:Nat}(hf:∀ x,(f x).length=n):∀ (l:List α) (i:Nat),(rw f l).take (i*n)=rw f (l.take i)
 | l,0=>by simp[rw]
 | [],i+1=>by simp[rw]
 | x :: l,i+1=>by
  rw[List.take_succ_cons,rw,rw,← fD0 hf l i,show (i+1)*n=(f x).length+i*n by rw[hf,Nat.add_mul];omega,List.take_append]
  rw[List.take_of_length_le Z0]
  simp
theorem cY0 {f:α→List Z6}{n:Nat}(hf:∀ x,(f x).length=n){l:List α}{i:Nat}{x:α}(hx:l[i]?=some x):((rw f l).drop (i*n)).take n=f x:=by
 rw[bN0 hf]
 have hi:=(List.getElem?_eq_some_iff.1 hx).1
 rw[List.drop_eq_getElem_cons hi,rw]
 have:l[i]=x:=(List.getElem?_eq_some_iff.1 hx).2
 rw[this,List.take_append_of_le_length (by rw[hf];exact Z3 _),List.take_of_length_le (by rw[hf];exact Z3 _)]
theorem yC0 {n:Nat}:∀ {a b:List Z6},jT n a=true→jT n b=true→jT n (a++b)=true
 | [],b,_,h=>h
 | x :: a,b,h1,h2=>by
  rw[dB0] at h1
  exact gM _ _ _ h1.1 (yC0 h1.2 h2)
theorem qW {f:α→List Z6}(m:Nat)(hf:∀ x,jT m (f x)=true):∀ l,jT m (rw f l)=true
 | []=>rfl
 | x :: l=>by rw[rw];exact yC0 (hf x) (qW m hf l)
theorem bH (e:Evt):(evC e).length=3:=rfl
theorem qA (m:Msg):(msC m).length=4:=rfl
theorem qD (o:Opn):(opC o).length=5:=rfl
theorem kD0 (m:Nat)(e:Evt):jT m (evC e)=true:=rfl
theorem kT (m:Nat)(e:Msg):jT m (msC e)=true:=rfl
theorem gI (m:Nat)(e:Opn):jT m (opC e)=true:=rfl
structure OwR (h:jB)(e n:Nat)(a:Z8 Addr)(len c:Nat)(cs:List Z6):Prop where
 hlen:cs.length=len*n
 hat:(a=none∧len=0∧c=0)∨∃ b full L,a=some ⟨b,0,none⟩∧h.lo≤b∧b<h.next∧cells h b=some (full,e,true)∧c=UC∧full.length=L*n∧len≤L∧full.take (len*n)=cs∧jT h.next full=true∧L<100000000000000
theorem OwR.nil (h:jB)(e n:Nat):OwR h e n none 0 0 []:=⟨by simp,.inl ⟨rfl,rfl,rfl⟩⟩
theorem OwR.sl {h:jB}{e n:Nat}{a:Z8 Addr}{len c:Nat}{cs:List Z6}(o:OwR h e n a len c cs):Sl h a cs:=by
 rcases o.hat with ⟨rfl,rfl,_⟩|⟨b,full,L,rfl,h1,h2,h3,_,h4,h5,h6,_⟩
 ·left;exact ⟨List.length_eq_zero_iff.1 (by rw[o.hlen];simp),jR0⟩
 ·right
  have:=Nat.mul_le_mul_right n h5
  exact ⟨b,0,full,e,true,rfl,h3,by rw[o.hlen];omega,by rw[List.drop_zero,o.hlen,h6],.inl h1⟩
theorem OwR.lt {h:jB}{e n:Nat}{a:Z8 Addr}{len c:Nat}{cs:List Z6}(o:OwR h e n a len c cs):∀ b,blk a b→b<h.next:=by
 intro b hb
 obtain ⟨f,s,rfl⟩:=hb
 rcases o.hat with ⟨h0,_⟩|⟨b',full,L,h0,_,h2,_⟩
 ·cases h0
 ·cases h0;exact h2
theorem OwR.grew {h h':jB}{S:Nat→Prop}{e n:Nat}{a:Z8 Addr}{len c:Nat}{cs:List Z6}(o:OwR h e n a len c cs)(g:jI h h' S)(hS:∀ b,blk a b→¬ S b):OwR h' e n a len c cs:=by
 refine ⟨o.hlen,?_⟩
 rcases o.hat with h0|⟨b,full,L,rfl,h1,h2,h3,h4,h5,h6,h7,h8,h9⟩
 ·exact .inl h0
 ·exact .inr ⟨b,full,L,rfl,by rw[g.lo];exact h1,by have:=g.next;omega,g.cellsE h3 h2 (hS b ⟨0,none,rfl⟩),h4,h5,h6,h7,gL g.next h8,h9⟩
theorem bO0 {P:Z9}{sT xT e n by_:Nat}(hT:appT P sT xT=some (e,n,by_)){h:jB}{a:Z8 Addr}{len c:Nat}{cs:List Z6}(ho:OwR h e n a len c cs)(hln:h.lo≤h.next)
  {x:Z6} {xs:List Z6} (hl:lenV x=some 1) (hx:kL n 1 x h=some xs) (hxl:xs.length=n) (hxf:jT h.next xs=true) (hb:(len+1)*by_≤140737488355328∧(len+1)<100000000000000) :
  ∃ a' c' h',jE P sT xT (.slice a len c) x h=some (.slice a' (len+1) c',h')∧OwR h' e n a' (len+1) c' (cs++xs)∧jI h h' (blk a)∧(∀ b,blk a' b→blk a b∨h.next≤b):=by
 obtain ⟨dx,i,z,hs,hxT,hni,hi,hz,hzz,hsz,hby,hn⟩:=yP0 hT
 have hlen:(cs++xs).length=(len+1)*n:=by rw[List.length_append,ho.hlen,hxl,Nat.add_mul];omega
 have hbnd:(Nat.ble ((len+1)*i.bytes) 140737488355328&&Nat.blt (len+1) U)=true:=by
  rw[hby];simp only[Z5,Nat.ble_eq,Nat.blt_eq];unfold U;exact hb
 have hcond:(Nat.beq z.cells.size n&&Nat.blt 0 n)=true:=by
  simp only[Z5,Nat.beq_eq,Nat.blt_eq];exact ⟨hzz,hn⟩
 rcases ho.hat with ⟨rfl,rfl,rfl⟩|⟨b,full,L,rfl,h1,h2,h3,rfl,h4,h5,h6,h7,hLb⟩
 ·have hcs:cs=[]:=List.length_eq_zero_iff.1 (by rw[ho.hlen];simp)
  subst hcs
  refine ⟨some ⟨h.next,0,none⟩,UC,h.add (O xs e true),?_,⟨hlen,.inr ⟨h.next,xs,1,rfl,by rw[jS];exact hln,by rw[jH];omega,jP _ _ _ _ rfl,rfl,by rw[hxl];omega,Z3 _,?_,gL (by rw[jH];omega) hxf,Z0⟩⟩,jI.add _ _ _,λb hb=>by obtain ⟨o,s,hb⟩:=hb;cases hb;exact .inr (Z3 _)⟩
  ·rw[gN hs hxT hni hi hl]
   unfold wF0
   dsimp only
   have h0:Nat.blt 0 UC=true:=by simp only[Nat.blt_eq];exact eP0
   rw[hsz,hx,h0]
   dsimp only
   rw[hz,show kL n 0 (.slice none 0 0) h=some [] from rfl]
   simp only[hbnd,hcond,List.nil_append,qZ0 hxf]
  ·rw[List.nil_append,List.take_of_length_le (by rw[hxl];omega)]
 ·have h0:Nat.blt UC UC=false:=by rw[Bool.eq_false_iff];simp
  by_cases hL:len<L
  ·have hm1:=Nat.mul_le_mul_right n (show len+1≤L from hL)
   have hm2:=Nat.add_mul len 1 n
   have hst:setN full (0+len*n) xs=some (jJ full (len*n) xs):=by
    rw[Nat.zero_add]
    unfold setN
    exact qE0 _ _ _ (by rw[hxl,h4];omega)
   have hfl:(jJ full (len*n) xs).length=L*n:=by
    simp only[jJ,List.length_append,List.length_take,List.length_drop,h4,hxl]
    omega
   have hff:jT h.next (jJ full (len*n) xs)=true:=by
    have q:∀ l:List Z6,jT h.next l=true↔∀ v∈l,fone h.next v=true:=λl=>by
     induction l with
     | nil=>exact ⟨λ_ v hv=>(by cases hv),λ_=>rfl⟩
     | cons x l ih=>rw[dB0,ih];simp
    rw[q] at h7 hxf ⊢
    intro v hv
    simp only[jJ,List.mem_append] at hv
    rcases hv with (hv|hv)|hv
    ·exact h7 v (List.mem_of_mem_take hv)
    ·exact hxf v hv
    ·exact h7 v (List.mem_of_mem_drop hv)
   refine ⟨some ⟨b,0,none⟩,UC,h.put b (O (jJ full (len*n) xs) e true),?_,⟨hlen,.inr ⟨b,jJ full (len*n) xs,L,rfl,h1,h2,jO _ _ _ _,rfl,hfl,hL,?_,hff,hLb⟩⟩,jI.put _ _ _ λ_=>⟨0,none,rfl⟩,λb hb=>.inl hb⟩
   ·rw[gN hs hxT hni hi hl]
    unfold wF0
    dsimp only
    rw[hsz,hx,h0]
    dsimp only
    have hin:zV0 e n len UC 1 (some ⟨b,0,none⟩) xs h=some (.slice (some ⟨b,0,none⟩) (len+1) UC,h.put b (O (jJ full (len*n) xs) e true)):=by
     unfold zV0
     dsimp only
     rw[h3]
     dsimp only
     have hq:(Nat.beq e e&&Nat.ble UC UC&&Nat.beq 0 ((UC-UC)*n)&&Nat.blt 0 n&&Nat.blt (0+len*n) full.length&&Nat.ble (0+(len+1)*n) full.length&&Nat.ble h.lo b)=true:=by
      simp only[Z5,Nat.beq_eq,Nat.ble_eq,Nat.blt_eq,h4]
      refine ⟨⟨⟨⟨⟨⟨trivial,Z3 _⟩,?_⟩,hn⟩,?_⟩,?_⟩,h1⟩
      ·rw[Nat.sub_self,Nat.zero_mul]
      ·omega
      ·omega
     rw[hq,hst]
     rfl
    rw[hin]
   ·rw[jJ,← h6,List.append_assoc,← List.append_assoc,List.take_append_of_le_length (by rw[List.length_append,List.length_take,h4,hxl];omega),List.take_of_length_le (by rw[List.length_append,List.length_take,h4,hxl];omega)]
  ·have hLe:L=len:=Z0
   subst hLe
   have hcs:full=cs:=by rw[← h6,List.take_of_length_le (by rw[h4];exact Z3 _)]
   subst hcs
   have hfon:jT h.next (full++xs)=true:=yC0 h7 hxf
   refine ⟨some ⟨h.next,0,none⟩,UC,{ t:=(h.t.put h.next ⟨.cells ⟨full++xs⟩ e,true⟩).put b (kD h.next e full),next:=h.next+1,lo:=h.lo },?_,⟨hlen,.inr ⟨h.next,full++xs,L+1,rfl,by show h.lo≤h.next;omega,Nat.lt_succ_self _,?_,rfl,hlen,Z3 _,by rw[List.take_of_length_le (by rw[hlen];exact Z3 _)],gL (Nat.le_succ _) hfon,hb.2⟩⟩,⟨Nat.le_succ _,rfl,λj hj hb=>?_⟩,λj hj=>?_⟩
   ·rw[gN hs hxT hni hi hl]
    unfold wF0
    dsimp only
    rw[hsz,hx]
    have h5:(Nat.beq e e&&Nat.beq UC UC&&Nat.ble h.lo b&&Nat.beq full.length (L*n)&&(Nat.ble ((L+1)*i.bytes) 140737488355328&&Nat.blt (L+1) U))=true:=by
     simp only[Z5,Nat.beq_eq,Nat.ble_eq]
     exact ⟨⟨⟨⟨trivial,trivial⟩,h1⟩,h4⟩,by simpa only [Z5,Nat.ble_eq] using hbnd⟩
    have h6:(Nat.beq z.cells.size n&&Nat.blt 0 n&&jT h.next xs)=true:=by rw[hcond,hxf];rfl
    simp only[h0,eO0 h3 h4,h3,h5,hz,h6]
   ·unfold Ev.cells
    have:=wC0 (h:=h) (b:=b) (x':=⟨.cells ⟨full++xs⟩ e,true⟩) (y:=kD h.next e full) h.next
    rw[if_neg Z0,if_pos rfl] at this
    rw[this]
   ·have:=wC0 (h:=h) (b:=b) (x':=⟨.cells ⟨full++xs⟩ e,true⟩) (y:=kD h.next e full) j
    rw[if_neg (λe=>hb ⟨0,none,by rw[e]⟩),if_neg Z0] at this
    exact this
   ·obtain ⟨o,s,hj⟩:=hj
    cases hj
    exact .inr (Z3 _)
end
end Go.Proofs.Ytejgmoenmbjidaa
namespace Go.Proofs.Ytejgmoenmbjidaa
open _root_.Go.Proofs.Try (prog)
open Go Go.RowKit Go.Ev
noncomputable section
set_option maxRecDepth 100000
variable (G:Nat) (h:jB)
def ivs (xs:List Int):List Z6:=xs.map (Value.int .i64)
theorem bW0 {xs:List Int}{i:Nat}(hi:i<xs.length):(ivs xs)[i]?=some (.int .i64 (xs.getD i 0)):=by
 simp only[ivs,List.getElem?_map,List.getElem?_eq_getElem hi,Option.map_some,List.getD_eq_getElem?_getD,Option.getD_some]
theorem qM0 (xs:List Int):(ivs xs).length=xs.length:=by simp[ivs]
theorem sR0 (a b:List Int):ivs (a++b)=ivs a++ivs b:=by simp[ivs]
theorem zZ0 (n:Nat):∀ xs,jT n (ivs xs)=true
 | []=>rfl
 | x :: xs=>gM _ _ _ rfl (zZ0 n xs)
def opE (x:Opn×Nat):Ent:=(x.1.key,asV x.1,x.2)
structure MapO (h:jB)(mo:Z8 Nat)(op:List Opn):Prop where
 has:(mo=none∧op=[])∨∃ (r c:Nat) (l:List (Opn×Nat)),mo=some r∧r<h.next∧mapOf h r=some (ME (l.map opE),c)∧(l.map (·.1)).Perm op∧(∀ x∈l,x.2<c)∧(l.map (·.2)).Nodup
def apE:Nat→List Evt→List Ent
 | _,[]=>[]
 | i,e :: l=>(e.key,.int .i64 e.val,i) :: apE (i+1) l
structure MapK (h:jB)(mk:Z8 Nat)(ap:List Evt):Prop where
 has:(mk=none∧ap=[])∨∃ r,mk=some r∧r<h.next∧mapOf h r=some (ME (apE 0 ap),ap.length)
theorem jI.mapE {h h':jB}{S:Nat→Prop}(g:jI h h' S){r:Nat}{es:List MapEntry}{c:Nat}(hm:mapOf h r=some (es,c))(hr:r<h.next)(hs:¬ S r):mapOf h' r=some (es,c):=by
 rw[kX0 (g.get r hr hs) g.lo];exact hm
theorem MapO.grew {h h':jB}{S:Nat→Prop}{mo:Z8 Nat}{op:List Opn}(m:MapO h mo op)(g:jI h h' S)(hS:∀ b,mo=some b→¬ S b):MapO h' mo op:=by
 rcases m.has with h0|⟨r,c,l,rfl,h1,h2,h3⟩
 ·exact ⟨.inl h0⟩
 ·exact ⟨.inr ⟨r,c,l,rfl,by have:=g.next;omega,jI.mapE g h2 h1 (hS r rfl),h3⟩⟩
theorem MapK.grew {h h':jB}{S:Nat→Prop}{mk:Z8 Nat}{ap:List Evt}(m:MapK h mk ap)(g:jI h h' S)(hS:∀ b,mk=some b→¬ S b):MapK h' mk ap:=by
 rcases m.has with h0|⟨r,rfl,h1,h2⟩
 ·exact ⟨.inl h0⟩
 ·exact ⟨.inr ⟨r,rfl,by have:=g.next;omega,jI.mapE g h2 h1 (hS r rfl)⟩⟩
theorem MapO.lt {h:jB}{mo:Z8 Nat}{op:List Opn}(m:MapO h mo op):∀ b,mo=some b→b<h.next:=λb hb=>by
 rcases m.has with ⟨h0,_⟩|⟨r,c,l,h0,h1,_⟩<;>(rw[h0] at hb;cases hb)
 exact h1
theorem MapK.lt {h:jB}{mk:Z8 Nat}{ap:List Evt}(m:MapK h mk ap):∀ b,mk=some b→b<h.next:=λb hb=>by
 rcases m.has with ⟨h0,_⟩|⟨r,h0,h1,_⟩<;>(rw[h0] at hb;cases hb)
 exact h1
structure Pl where
 p:Nat
 av:Z8 Addr
 cv:Nat
 mo:Z8 Nat
 af:Z8 Addr
 cf:Nat
 aa:Z8 Addr
 ca:Nat
 mq:Z8 Nat
def Pl.tg (q:Pl)(b:Nat):Nat→Prop
 | 0=>b=q.p
 | 1=>blk q.av b
 | 2=>q.mo=some b
 | 3=>blk q.af b
 | 4=>blk q.aa b
 | 5=>q.mq=some b
 | _=>False
def Pl.B (q:Pl)(b:Nat):Prop:=∃ i,q.tg b i
def wcs (q:Pl)(w:Wi):List Z6:=[.slice q.av w.vs.length q.cv,.int .i64 w.ck,.map q.mo,.slice q.af w.fl.length q.cf,.slice q.aa w.ap.length q.ca,.map q.mq]
structure WAt (h:jB)(q:Pl)(w:Wi):Prop where
 cell:cells h q.p=some (wcs q w,55,false)
 lo:h.lo≤q.p
 lt:∀ b i,q.tg b i→b<h.next
 vs:Sl h q.av (ivs w.vs)
 fl:OwR h 49 4 q.af w.fl.length q.cf (rw msC w.fl)
 ap:OwR h 31 3 q.aa w.ap.length q.ca (rw evC w.ap)
 op:MapO h q.mo w.op
 kn:MapK h q.mq w.kp
 sep:∀ b i j,q.tg b i→q.tg b j→i=j
theorem WAt.grew {h h':jB}{S:Nat→Prop}{q:Pl}{w:Wi}(a:WAt h q w)(g:jI h h' S)(hS:∀ b,q.B b→¬ S b):WAt h' q w:=
 ⟨g.cellsE a.cell (a.lt _ 0 rfl) (hS _ ⟨0,rfl⟩),by rw[g.lo];exact a.lo,λb i hb=>Nat.lt_of_lt_of_le (a.lt b i hb) g.next,
  Sl.grew a.vs g λb hb _=>⟨a.lt b 1 hb,hS b ⟨1,hb⟩⟩,a.fl.grew g λb hb=>hS b ⟨3,hb⟩,a.ap.grew g λb hb=>hS b ⟨4,hb⟩,
  a.op.grew g λb hb=>hS b ⟨2,hb⟩,a.kn.grew g λb hb=>hS b ⟨5,hb⟩,a.sep⟩
theorem bA {h:jB}{q:Pl}{w:Wi}(a:WAt h q w):q.p<h.next:=a.lt _ 0 rfl
def Wi' (a m:Int):Int:=if a.tmod m<0 then a.tmod m+m else a.tmod m
theorem wM0 (a m:Int)(h1:1≤m):0≤Wi' a m∧Wi' a m<m:=by
 have hlt:=Int.tmod_lt_of_pos a (show 0<m by omega)
 have hgt:=Int.lt_tmod_of_pos a (show 0<m by omega)
 unfold Wi'
 split<;>omega
theorem fZ0 {q:Pl}{w:Wi}(a:WAt h q w)(i:Int):jG (pp G) 38 [.pointer (some ⟨q.p,0,none⟩),.int .i64 i] h (λv h'=>v=.bool (decide (0≤i∧i<w.fl.length))∧h'=h):=by
 refine jG.fir4 (jW G) fir38 rfl rfl (lT1 ..) λhlo=>?_
 rw[dT1]
 have hc:=a.cell
 have hl:=a.lo
 unfold wcs at hc
 by_cases h1:0≤i
 ·by_cases h2:i<w.fl.length
  ·simp(disch:=first|omega|(apply id;simp only[push_cast];first|done|omega))only[push_cast,Nat.reduceAdd,Nat.reduceMul,Nat.reduceSub,Nat.reduceLT,Nat.reduceEqDiff,Nat.reduceLeDiff,Int.reduceToNat,reduceCtorEq,Int.reduceLT,Int.reduceLE,Int.reduceAdd,Int.reduceSub,Int.reduceMul,Int.reduceNeg,Int.reduceEq,hc,hl,h1,h2]
  ·simp(disch:=first|omega|(apply id;simp only[push_cast];first|done|omega))only[push_cast,Nat.reduceAdd,Nat.reduceMul,Nat.reduceSub,Nat.reduceLT,Nat.reduceEqDiff,Nat.reduceLeDiff,Int.reduceToNat,reduceCtorEq,Int.reduceLT,Int.reduceLE,Int.reduceAdd,Int.reduceSub,Int.reduceMul,Int.reduceNeg,Int.reduceEq,hc,hl,h1,h2]
 ·simp(disch:=first|omega|(apply id;simp only[push_cast];first|done|omega))only[push_cast,Nat.reduceAdd,Nat.reduceMul,Nat.reduceSub,Nat.reduceLT,Nat.reduceEqDiff,Nat.reduceLeDiff,Int.reduceToNat,reduceCtorEq,Int.reduceLT,Int.reduceLE,Int.reduceAdd,Int.reduceSub,Int.reduceMul,Int.reduceNeg,Int.reduceEq,hc,hl,h1,false_and]
theorem rowM (h:jB)(s:ByteArray)(b:Zb)(k v:Int):bsC 1 49 h (wV0 (List.map (λi=>(i*4,4)) (List.range 1)) (List.replicate 1 [Value.bool false,Value.string (Tx []),Value.int IntKind.i64 0,Value.int IntKind.i64 0]).flatten
  (.agg ⟨[.bool b,.string s,.int .i64 k,.int .i64 v]⟩) [] (List.map (λi=>(i*4,4)) (List.range 1))[0]?)=some (.slice (some ⟨h.next,0,none⟩) 1 1,h.add (O [.bool b,.string s,.int .i64 k,.int .i64 v] 49 false)):=Z7
theorem OwR.fone {h:jB}{e n:Nat}{a:Z8 Addr}{len c:Nat}{cs:List Z6}(o:OwR h e n a len c cs)(l2 c2:Nat):jT h.next [.slice a l2 c2]=true:=by
 rcases o.hat with ⟨rfl,_⟩|⟨b,full,L,rfl,_,h2,_⟩
 ·rfl
 ·exact gM _ _ _ (gN0 _ _ _ _ _ h2) rfl
theorem eZ0 {q:Pl}{af:Z8 Addr}{cf b i:Nat}(hi:i≠3)(ht:({ q with af:=af,cf:=cf }:Pl).tg b i):q.tg b i:=by
 rcases i with _|_|_|_|_|_|i
 ·exact ht
 ·exact ht
 ·exact ht
 ·exact absurd rfl hi
 ·exact ht
 ·exact ht
 ·exact ht
theorem rP0 {h:jB}{q:Pl}{w:Wi}(a:WAt h q w){af:Z8 Addr}{cf:Nat}(hb:∀ b,blk af b→blk q.af b∨h.next≤b):∀ b i j,({ q with af:=af,cf:=cf }:Pl).tg b i→({ q with af:=af,cf:=cf }:Pl).tg b j→i=j:=by
 have key:∀ b i,i≠3→({ q with af:=af,cf:=cf }:Pl).tg b i→q.tg b i∧b<h.next:=λb i hi ht=>by
  have:q.tg b i:=eZ0 hi ht
  exact ⟨this,a.lt b i this⟩
 intro b i j hi hj
 by_cases ei:i=3
 ·by_cases ej:j=3
  ·rw[ei,ej]
  ·subst ei
   obtain ⟨k1,k2⟩:=key b j ej hj
   rcases hb b hi with h1|h1
   ·exact a.sep b 3 j h1 k1
   ·omega
 ·by_cases ej:j=3
  ·subst ej
   obtain ⟨k1,k2⟩:=key b i ei hi
   rcases hb b hj with h1|h1
   ·exact a.sep b i 3 k1 h1
   ·omega
  ·exact a.sep b i j (key b i ei hi).1 (key b j ej hj).1
theorem dA0 {q:Pl}{w:Wi}(a:WAt h q w)(hlo:h.lo≤h.next)(hn:w.fl.length<1000000)(nm:List Zu)(k:Int) :
  jG (pp G) 46 [.pointer (some ⟨q.p,0,none⟩),.string (Tx nm),.int .i64 k] h (λv h'=>v=.tuple #[]∧∃ af cf,WAt h' { q with af:=af,cf:=cf } { w with fl:=w.fl++[⟨false,⟨nm,k,0⟩⟩] }∧jI h h' q.B∧∀ b,blk af b→blk q.af b∨h.next≤b):=by
 refine jG.fir4 (jW G) fir46 rfl rfl (lR1 ..) λhlo=>?_
 rw[dL1]
 have hc:=a.cell
 have hl:=a.lo
 unfold wcs at hc
 have hg1:jI h (h.add (O (msC ⟨false,⟨nm,k,0⟩⟩) 49 false)) (λ_=>False):=jI.add h _ _
 have hc1:=hg1.cellsE hc (bA a) (λh=>h)
 have a1:=a.grew hg1 λ_ _ h=>h
 have hn1:(h.add (O (msC ⟨false,⟨nm,k,0⟩⟩) 49 false)).next=h.next+1:=jH _
 have hl1:(h.add (O (msC ⟨false,⟨nm,k,0⟩⟩) 49 false)).lo=h.lo:=jS _
 have hs1:Sl (h.add (O (msC ⟨false,⟨nm,k,0⟩⟩) 49 false)) (some ⟨h.next,0,none⟩) (msC ⟨false,⟨nm,k,0⟩⟩):=Sl.row (jP _ _ _ _ rfl) Z0
 have hb1:(w.fl.length+1)*40≤140737488355328∧(w.fl.length+1)<100000000000000:=by constructor<;>omega
 obtain ⟨a',c',h2,e2,o2,g2,b2⟩:=bO0 (P:=prog) bX a1.fl Z0 (x:=.slice (some ⟨h.next,0,none⟩) 1 1) rfl (Sl.src hs1 (qA _) Z1) (qA _) (kT _ _) hb1
 have hc2:=g2.cellsE hc1 (by have:=bA a;omega) (λhb=>by have:=a.sep q.p 3 0 hb rfl;omega)
 have em:msC ⟨false,⟨nm,k,0⟩⟩=[.bool false,.string (Tx nm),.int .i64 k,.int .i64 0]:=rfl
 rw[em] at hc1 hl1 e2
 have hl2:h2.lo=h.lo:=g2.lo.trans (jS _)
 have hst:=kY (h:=h2) 1 3 (.slice a' (w.fl.length+1) c') q.p [.slice q.av w.vs.length q.cv,.int .i64 w.ck,.map q.mo,.slice q.af w.fl.length q.cf,.slice q.aa w.ap.length q.ca,.map q.mq] 55 false rfl (o2.fone _ _) Z0 (by show 3+1≤6;omega)
 simp(disch:=first|omega|(apply id;simp only[push_cast];first|done|omega))only[push_cast,Nat.reduceAdd,Nat.reduceMul,Nat.reduceSub,Nat.reduceLT,Nat.reduceEqDiff,Nat.reduceLeDiff,Int.reduceToNat,reduceCtorEq,Int.reduceLT,Int.reduceLE,Int.reduceAdd,Int.reduceSub,Int.reduceMul,Int.reduceNeg,Int.reduceEq,hc,hl,rowM,hc1,hl1,e2,hc2,hl2,hst]
 have hn2:=g2.next
 have b2':∀ b,blk a' b→blk q.af b∨h.next≤b:=λb hb=>(b2 b hb).imp id λh=>by omega
 have g3:jI h2 (h2.put q.p (O [.slice q.av w.vs.length q.cv,.int .i64 w.ck,.map q.mo,.slice a' (w.fl.length+1) c',.slice q.aa w.ap.length q.ca,.map q.mq] 55 false)) (λb=>b=q.p):=(jI.refl h2 _).put'' _ _ λ_=>rfl
 have hp:∀ i b,i≠0→q.tg b i→b≠q.p:=λi b hi ht e=>hi (a.sep b i 0 ht e)
 have hf:∀ i b,i≠3→q.tg b i→¬ blk q.af b:=λi b hi ht e=>hi (a.sep b i 3 ht e)
 have hp2:∀ b,blk a' b→b≠q.p:=λb hb e=>by
  rcases b2' b hb with h1|h1
  ·exact hp 3 b Z1 h1 e
  ·have:=bA a;omega
 refine ⟨a',c',⟨?_,?_,λb i hb=>?_,?_,?_,?_,?_,?_,rP0 a b2'⟩,?_,b2'⟩
 ·rw[jO]
  unfold wcs
  rw[List.length_append]
  rfl
 ·rw[qI];show h2.lo≤q.p;omega
 ·rw[jN]
  by_cases e:i=3
  ·subst e;exact o2.lt b hb
  ·have:=eZ0 (q:=q) e hb
   have:=a.lt b i this
   omega
 ·exact Sl.grew (Sl.grew a1.vs g2 λb hb _=>⟨a1.lt b 1 hb,hf 1 b Z1 hb⟩) g3 λb hb _=>⟨by have:=a1.lt b 1 hb;omega,hp 1 b Z1 hb⟩
 ·rw[List.length_append,kW]
  exact (o2.grew g3 λb hb=>hp2 b hb)
 ·exact (a1.ap.grew g2 λb hb=>hf 4 b Z1 hb).grew g3 λb hb=>hp 4 b Z1 hb
 ·exact (a1.op.grew g2 λb hb=>hf 2 b Z1 hb).grew g3 λb hb=>hp 2 b Z1 hb
 ·exact (a1.kn.grew g2 λb hb=>hf 5 b Z1 hb).grew g3 λb hb=>hp 5 b Z1 hb
 ·exact ((jI.mono hg1 (T:=q.B) λ_ _ h=>h.elim).tr' g2 λb _ hb=>⟨3,hb⟩).tr' g3 λb _ hb=>⟨0,hb⟩
end
end Go.Proofs.Ytejgmoenmbjidaa
namespace Go.Proofs.Ytejgmoenmbjidaa
open _root_.Go.Proofs.Try (prog)
open Go Go.RowKit Go.Ev
noncomputable section
set_option maxRecDepth 100000
variable (G:Nat) (h:jB)
def lU0 (P:Z9)(t:Zt):Zb:=match P.underlying t with|some (.map _ _)=>true|_=>false
theorem sP1 {P:Z9}{ty:Zt}{x y:Zo}{u:Z8 Nat}(hu:lU0 P ty=true):jF P .eql ty x y (.map u) (.map none)=some (.bool u.isNone):=by
 unfold lU0 at hu
 simp only[jF]
 split at hu
 ·rename_i h;rw[h]
 ·cases hu
theorem mt52:lU0 prog 52=true:=Z7
theorem mt53:lU0 prog 53=true:=Z7
theorem jI1 (n r:Nat)(hr:r<n):fone n (.map (some r))=true:=by
 simp[qO0,one,sc,hr]
theorem q_mp (n r:Nat):(fone n (.map (some r))=true)=(r<n):=by
 simp[qO0,one,sc]
theorem oK1 (v:Z6)(b:Zb):okV2 true v b=.tuple ⟨[v,.bool b]⟩:=rfl
theorem oL1 (v:Z6)(b:Zb):okV2 false v b=v:=rfl
attribute [push_cast] oK1 oL1 jI1 q_mp oL_1 qI jS sP1 mt52 mt53
def gJ (k:Int):List Opn→Zb
 | []=>false
 | o :: l=>decide (k=o.key) || gJ k l
def insK (x:Opn):List Opn→List Opn
 | []=>[x]
 | o :: l=>if o.key<x.key then o :: insK x l else x :: o :: l
def delK (k:Int):List Opn→List Opn
 | []=>[]
 | o :: l=>if k=o.key then l else o :: delK k l
theorem wB0 (x:Opn):∀ l,(x :: l).Perm (insK x l)
 | []=>List.Perm.refl _
 | o :: l=>by
  rw[insK]
  split
  ·exact (List.Perm.swap o x l).trans ((wB0 x l).cons o)
  ·exact List.Perm.refl _
theorem jU0 {k:Int}:∀ {l:List Opn},gJ k l=true↔∃ o∈l,k=o.key
 | []=>by simp[gJ]
 | o :: l=>by simp[gJ,jU0 (l:=l)]
theorem kA0 {k:Int}:∀ {l:List (Opn×Nat)},bN k (l.map opE)=none↔gJ k (l.map (·.1))=false
 | []=>by simp[bN,gJ]
 | x :: l=>by
  show (if k=x.1.key then some (asV x.1) else bN k (l.map opE))=none↔(decide (k=x.1.key) || gJ k (l.map (·.1)))=false
  by_cases h:k=x.1.key
  ·simp[h]
  ·simp[h,kA0 (l:=l)]
theorem yB0 {k:Int}{l m:List Opn}(p:l.Perm m):gJ k l=gJ k m:=by
 have:gJ k l=true↔gJ k m=true:=by
  rw[jU0,jU0]
  exact ⟨λ⟨o,h1,h2⟩=>⟨o,p.mem_iff.1 h1,h2⟩,λ⟨o,h1,h2⟩=>⟨o,p.mem_iff.2 h1,h2⟩⟩
 cases h1:gJ k l<;>cases h2:gJ k m<;>simp_all
theorem iO0 (n:Nat)(o:Opn):fsc n (asV o)=true:=rfl
theorem tg_o {q:Pl}{mo:Z8 Nat}{b i:Nat}(hi:i≠2)(ht:({ q with mo:=mo }:Pl).tg b i):q.tg b i:=by
 rcases i with _|_|_|_|_|_|i
 ·exact ht
 ·exact ht
 ·exact absurd rfl hi
 ·exact ht
 ·exact ht
 ·exact ht
 ·exact ht
theorem WAt.setO {h h2:jB}{q:Pl}{w:Wi}(a:WAt h q w){mo:Z8 Nat}{op:List Opn}(g:jI h h2 (λb=>b=q.p∨q.mo=some b))(hc:cells h2 q.p=some (wcs { q with mo:=mo } w,55,false))(m:MapO h2 mo op)(hb:∀ b,mo=some b→q.mo=some b∨h.next≤b) :
  WAt h2 { q with mo:=mo } { w with op:=op }:=by
 have hS:∀ b i,i≠0→i≠2→q.tg b i→¬ (b=q.p∨q.mo=some b):=λb i h0 h2 ht e=>by
  rcases e with e|e
  ·exact h0 (a.sep b i 0 ht e)
  ·exact h2 (a.sep b i 2 ht e)
 have key:∀ b i,i≠2→({ q with mo:=mo }:Pl).tg b i→q.tg b i∧b<h.next:=λb i hi ht=>⟨tg_o hi ht,a.lt b i (tg_o hi ht)⟩
 refine ⟨hc,by rw[g.lo];exact a.lo,λb i ht=>?_,Sl.grew a.vs g λb hb _=>⟨a.lt b 1 hb,hS b 1 Z1 Z1 hb⟩,a.fl.grew g λb hb=>hS b 3 Z1 Z1 hb,a.ap.grew g λb hb=>hS b 4 Z1 Z1 hb,m,a.kn.grew g λb hb=>hS b 5 Z1 Z1 hb,λb i j hi hj=>?_⟩
 ·by_cases e:i=2
  ·subst e;exact m.lt b ht
  ·exact Nat.lt_of_lt_of_le (key b i e ht).2 g.next
 ·by_cases ei:i=2
  ·by_cases ej:j=2
   ·rw[ei,ej]
   ·subst ei
    obtain ⟨k1,k2⟩:=key b j ej hj
    rcases hb b hi with h1|h1
    ·exact a.sep b 2 j h1 k1
    ·omega
  ·by_cases ej:j=2
   ·subst ej
    obtain ⟨k1,k2⟩:=key b i ei hi
    rcases hb b hj with h1|h1
    ·exact a.sep b i 2 k1 h1
    ·omega
   ·exact a.sep b i j (key b i ei hi).1 (key b j ej hj).1
theorem lH0 {k:Int}{v:Z6}{c:Nat}{l:List Ent}(h:bN k l=none):putM k v c l=l++[(k,v,c)]∧wZ0 k c l=c+1:=by
 unfold putM wZ0
 rw[h]
 exact ⟨rfl,rfl⟩
theorem MapO.one {h:jB}{r c:Nat}{l:List (Opn×Nat)}{op:List Opn}{o:Opn}(hr:r<h.next)(hm:mapOf h r=some (ME (putM o.key (asV o) c (l.map opE)),wZ0 o.key c (l.map opE)))(e4:(l.map (·.1)).Perm op)(e5:∀ x∈l,x.2<c)(e6:(l.map (·.2)).Nodup)(hk:gJ o.key op=false):MapO h (some r) (insK o op):=by
 have hn:bN o.key (l.map opE)=none:=kA0.2 ((yB0 e4).trans hk)
 obtain ⟨h1,h2⟩:=lH0 (v:=asV o) (c:=c) hn
 rw[h1,h2,show l.map opE++[(o.key,asV o,c)]=(l++[(o,c)]).map opE by rw[List.map_append];rfl] at hm
 refine ⟨.inr ⟨r,c+1,l++[(o,c)],rfl,hr,hm,?_,λx hx=>?_,?_⟩⟩
 ·rw[List.map_append]
  exact (List.perm_append_comm.trans (e4.cons o)).trans (wB0 o op)
 ·rcases List.mem_append.1 hx with hx|hx
  ·have:=e5 x hx;omega
  ·cases List.mem_singleton.1 hx;exact Nat.lt_succ_self _
 ·rw[List.map_append,List.nodup_append]
  refine ⟨e6,by simp,λx hx y hy e=>?_⟩
  obtain ⟨z,hz,rfl⟩:=List.mem_map.1 hx
  have:=e5 z hz
  simp at hy
  omega
theorem uA0 {h:jB}{r:Nat}{x:List MapEntry×Nat}(hm:mapOf h r=some x):h.lo≤r:=by
 unfold mapOf at hm
 split at hm
 ·split at hm
  ·rename_i e;exact Nat.le_of_ble_eq_true e
  ·cases hm
 ·cases hm
theorem fA1 {q:Pl}{w:Wi}(a:WAt h q w)(o:Opn)(hk:gJ o.key w.op=false) :
  jG (pp G) 45 [.pointer (some ⟨q.p,2,none⟩),.int .i64 o.key,asV o] h (λv h'=>v=.tuple #[]∧∃ mo,WAt h' { q with mo:=mo } { w with op:=insK o w.op }∧jI h h' q.B∧∀ b,mo=some b→q.mo=some b∨h.next≤b):=by
 refine jG.fir4 (jW G) fir45 rfl rfl (uL1 ..) λhlo=>?_
 rw[dM1]
 have hc:=a.cell
 have hl:=a.lo
 have hlt:=bA a
 unfold wcs at hc
 have hc1:=(jI.add h (O [.string (Tx o.nm),.int .i64 o.time,.int .i64 o.wait] 65 false) (λ_=>False)).cellsE hc hlt (λh=>h)
 unfold asV
 rcases a.op.has with ⟨e1,e2⟩|⟨r,c,l,e1,e2,e3,e4,e5,e6⟩
 ·rw[e1] at hc hc1
  have hc2:cells ((h.add (O [.string (Tx o.nm),.int .i64 o.time,.int .i64 o.wait] 65 false)).add (MO [] 0)) q.p=_:=(jI.add _ _ (λ_=>False)).cellsE hc1 (by rw[jH];omega) λh=>h
  have hlo2:((h.add (O [.string (Tx o.nm),.int .i64 o.time,.int .i64 o.wait] 65 false)).add (MO [] 0)).lo=h.lo:=by simp only[jS]
  have hm1:mapOf (((h.add (O [.string (Tx o.nm),.int .i64 o.time,.int .i64 o.wait] 65 false)).add (MO [] 0)).put q.p (O [.slice q.av w.vs.length q.cv,.int .i64 w.ck,.map (some (h.next+1)),.slice q.af w.fl.length q.cf,.slice q.aa w.ap.length q.ca,.map q.mq] 55 false)) (h.next+1)=some (ME (([]:List (Opn×Nat)).map opE),0):=by
   rw[kW0 Z0]
   exact kY0 (by rw[jH]) (by rw[jS,jH];omega)
  have hset:=uV0 mp52 hm1 o.key (asV o) (iO0 _ o)
  unfold asV at hset
  simp(disch:=first|omega|(apply id;simp only[push_cast];first|done|omega))only[push_cast,Nat.reduceAdd,Nat.reduceMul,Nat.reduceSub,Nat.reduceLT,Nat.reduceEqDiff,Nat.reduceLeDiff,Int.reduceToNat,reduceCtorEq,Int.reduceLT,Int.reduceLE,Int.reduceAdd,Int.reduceSub,Int.reduceMul,Int.reduceNeg,Int.reduceEq,hc,hl,hc1,sG0 mp52,hc2,hset]
  refine ⟨some (h.next+1),a.setO (op:=insK o w.op) (((((jI.refl h _).add' _).add' _).put'' _ _ λ_=>.inl rfl).put' _ _ Z0) ?_ (MapO.one (l:=[]) (c:=0) (op:=w.op) (by simp only[jN,jH];omega) (kM (by simp only[qI,jS];omega)) (by rw[e2];exact List.Perm.refl _) (λx hx=>by cases hx) (by simp) hk) λb hb=>?_,?_,λb hb=>?_⟩
  ·rw[qH _ _ _ Z0,jO];rfl
  ·cases hb;exact .inr Z0
  ·exact ((((jI.refl h _).add' _).add' _).put'' _ _ λ_=>⟨0,rfl⟩).put' _ _ Z0
  ·cases hb;exact .inr Z0
 ·have hrp:r≠q.p:=λe=>by have:=a.sep r 2 0 e1 e;omega
  have hc':cells h q.p=some (wcs { q with mo:=some r } w,55,false):=by rw[a.cell];unfold wcs;rw[e1]
  rw[e1] at hc hc1
  have hm1:mapOf (h.add (O [.string (Tx o.nm),.int .i64 o.time,.int .i64 o.wait] 65 false)) r=some (ME (l.map opE),c):=jI.mapE (jI.add h _ (λ_=>False)) e3 e2 λh=>h
  have hset:=uV0 mp52 hm1 o.key (asV o) (iO0 _ o)
  unfold asV at hset
  simp(disch:=first|omega|(apply id;simp only[push_cast];first|done|omega))only[push_cast,Nat.reduceAdd,Nat.reduceMul,Nat.reduceSub,Nat.reduceLT,Nat.reduceEqDiff,Nat.reduceLeDiff,Int.reduceToNat,reduceCtorEq,Int.reduceLT,Int.reduceLE,Int.reduceAdd,Int.reduceSub,Int.reduceMul,Int.reduceNeg,Int.reduceEq,hc,hl,hc1,hset]
  refine ⟨some r,a.setO (op:=insK o w.op) (((jI.refl h _).add' _).put'' _ _ λ_=>.inr e1) ?_ (MapO.one (by simp only[jN,jH];omega) (kM (by rw[jS];exact uA0 e3)) e4 e5 e6 hk) λb hb=>?_,?_,λb hb=>?_⟩
  ·rw[qH _ _ _ (Ne.symm hrp),kN _ _ Z0];exact hc'
  ·exact .inl (e1.trans hb)
  ·exact ((jI.refl h _).add' _).put'' _ _ λ_=>⟨2,e1⟩
  ·exact .inl (e1.trans hb)
theorem lW0 {k:Int}{v:Z6}:∀ {l:List (Opn×Nat)},bN k (l.map opE)=some v→∃ o∈l.map (·.1),o.key=k∧v=asV o
 | [],h=>by cases h
 | x :: l,h=>by
  have h:(if k=x.1.key then some (asV x.1) else bN k (l.map opE))=some v:=h
  split at h
  ·rename_i e;cases h;exact ⟨x.1,List.mem_cons_self ..,e.symm,rfl⟩
  ·obtain ⟨o,h1,h2⟩:=lW0 h;exact ⟨o,List.mem_cons_of_mem _ h1,h2⟩
theorem lR0 {h:jB}{mo:Z8 Nat}{op:List Opn}(m:MapO h mo op)(k:Int)(ok:Zb):∃ o:Opn,qG prog 52 (.map mo) (.int .i64 k) ok h=some (okV2 ok (asV o) (gJ k op))∧(gJ k op=true→o∈op∧o.key=k):=by
 rcases m.has with ⟨rfl,rfl⟩|⟨r,c,l,rfl,e2,e3,e4,e5,e6⟩
 ·exact ⟨⟨[],0,0,0⟩,look_nil mp52 k ok,λh=>by cases h⟩
 ·rw[dH0 mp52 e3 k ok]
  cases hg:bN k (l.map opE) with
  | none=>
   have:gJ k op=false:=(yB0 e4).symm.trans (kA0.1 hg)
   rw[this]
   exact ⟨⟨[],0,0,0⟩,rfl,λh=>by cases h⟩
  | some v=>
   obtain ⟨o,h1,h2,rfl⟩:=lW0 hg
   have h3:=e4.mem_iff.1 h1
   have:gJ k op=true:=jU0.2 ⟨o,h3,h2.symm⟩
   rw[this]
   exact ⟨o,rfl,λ_=>⟨h3,h2⟩⟩
theorem qK0 {P:Z9}{t:Zt}{h h':jB}{S:Nat→Prop}(g:jI h h' S){mo:Z8 Nat}(hlt:∀ r,mo=some r→r<h.next∧¬ S r)(k:Z6)(ok:Zb):qG P t (.map mo) k ok h'=qG P t (.map mo) k ok h:=by
 cases mo with
 | none=>rfl
 | some r=>
  have e:mapOf h' r=mapOf h r:=kX0 (g.get r (hlt r rfl).1 (hlt r rfl).2) g.lo
  unfold qG gV0
  simp only[e]
def askW (w:Wi)(nm:List Zu)(k:Int):Wi:=if gJ k w.op then w else { w with op:=insK ⟨nm,k,w.ck+1,1⟩ w.op,fl:=w.fl++[⟨false,⟨nm,k,0⟩⟩] }
structure Post (h:jB)(q:Pl)(w':Wi)(h':jB):Prop where
 has:∃ q',q'.p=q.p∧WAt h' q' w'∧∀ b,q'.B b→q.B b∨h.next≤b
 gr:jI h h' q.B
theorem sT1 {q:Pl}{w:Wi}(a:WAt h q w)(hck:0≤w.ck∧w.ck<1000000)(hn:w.fl.length<1000000)(e:Evt) :
  jG (pp G) 24 [.pointer (some ⟨q.p,0,none⟩),.agg ⟨evC e⟩] h (λv h'=>v=.tuple #[]∧Post h q (askW w e.nm e.key) h'):=by
 refine jG.fir4 (jW G) fir24 rfl rfl (lK1 ..) λhlo=>?_
 rw[eH1]
 have hg1:jI h (h.add (O (evC e) 31 false)) (λ_=>False):=jI.add h _ _
 have a1:=a.grew hg1 λ_ _ h=>h
 have hc:=a1.cell
 have hl:=a.lo
 have hlt:=bA a1
 obtain ⟨o,hlk,hlo2⟩:=lR0 a1.op e.key true
 unfold wcs at hc
 unfold evC at hg1 hc hl hlt hlk
 unfold evC
 have hmo:∀ r,q.mo=some r→r<h.next∧¬ False:=λr hr=>⟨a.lt r 2 hr,id⟩
 have k2:=λ(x:jV) (y:jV)=>qK0 (P:=prog) (t:=52) (((Gr.refl h).add' x).add' y) hmo (.int .i64 e.key) true
 have k3:=λ(x:jV) (y:jV) (z:jV)=>qK0 (P:=prog) (t:=52) ((((Gr.refl h).add' x).add' y).put' (h.next+1) z Z0) hmo (.int .i64 e.key) true
 have k1:=λ(x:jV)=>qK0 (P:=prog) (t:=52) ((Gr.refl h).add' x) hmo (.int .i64 e.key) true
 rw[k1] at hlk
 unfold asV at hlk
 have c2:=λ(x:jV) (y:jV)=>Gr.cells (((Gr.refl h).add' x).add' y) a.cell (bA a)
 unfold wcs at c2
 have g3:=λ(x:jV) (y:jV) (z:jV)=>((((Gr.refl h).add' x).add' y).put' (h.next+1) z Z0)
 have c3:=λ(x:jV) (y:jV) (z:jV)=>Gr.cells (g3 x y z) a.cell (bA a)
 unfold wcs at c3
 have hw:IntKind.i64.wrap (w.ck+1)=w.ck+1:=wrap_i64 Z0 Z0
 cases hk:gJ e.key w.op with
 | true=>
  rw[hk] at hlk
  simp(disch:=first|omega|(apply id;simp only[push_cast];first|done|omega))only[push_cast,Nat.reduceAdd,Nat.reduceMul,Nat.reduceSub,Nat.reduceLT,Nat.reduceEqDiff,Nat.reduceLeDiff,Int.reduceToNat,reduceCtorEq,Int.reduceLT,Int.reduceLE,Int.reduceAdd,Int.reduceSub,Int.reduceMul,Int.reduceNeg,Int.reduceEq,hc,hl,hlk,k1,k2,k3,c2]
  refine ⟨⟨q,rfl,?_,λb hb=>.inl hb⟩,?_⟩
  ·unfold askW;rw[hk,if_pos rfl];exact a.grew (g3 _ _ _) λ_ _ h=>h
  ·exact jI.mono (g3 _ _ _) λ_ _ h=>h.elim
 | false=>
  rw[hk] at hlk
  simp(disch:=first|omega|(apply id;simp only[push_cast];first|done|omega))only[push_cast,Nat.reduceAdd,Nat.reduceMul,Nat.reduceSub,Nat.reduceLT,Nat.reduceEqDiff,Nat.reduceLeDiff,Int.reduceToNat,reduceCtorEq,Int.reduceLT,Int.reduceLE,Int.reduceAdd,Int.reduceSub,Int.reduceMul,Int.reduceNeg,Int.reduceEq,hc,hl,hlk,k1,k2,k3,c2,c3,hw]
  refine jG.to (fA1 G _ (a.grew (g3 _ _ _) λ_ _ h=>h) ⟨e.nm,e.key,w.ck+1,1⟩ hk) ?_
  rintro _ h4 ⟨rfl,mo,a4,g4,b4⟩
  have cE:=λ(x:jV) (z:jV)=>(qH (h:=(h.add (O [.string (Tx e.nm),.int .i64 e.key,.int .i64 e.val] 31 false)).add x) (h.next+1) z h.next Z0).trans ((kN (h:=h.add (O [.string (Tx e.nm),.int .i64 e.key,.int .i64 e.val] 31 false)) x h.next (by rw[jH];omega)).trans (jP (h:=h) [.string (Tx e.nm),.int .i64 e.key,.int .i64 e.val] 31 false h.next rfl))
  have hB:¬ q.B h.next:=λ⟨i,hi⟩=>by have:=a.lt _ i hi;omega
  have c4:=g4.cellsE (cE _ _) (by simp only[jN,jH];omega) hB
  have hl4:h4.lo=h.lo:=by rw[g4.lo];simp only[qI,jS]
  have hn4:=g4.next
  simp only[jN,jH] at hn4 b4
  simp(disch:=first|omega|(apply id;simp only[push_cast];first|done|omega))only[push_cast,Nat.reduceAdd,Nat.reduceMul,Nat.reduceSub,Nat.reduceLT,Nat.reduceEqDiff,Nat.reduceLeDiff,Int.reduceToNat,reduceCtorEq,Int.reduceLT,Int.reduceLE,Int.reduceAdd,Int.reduceSub,Int.reduceMul,Int.reduceNeg,Int.reduceEq,c4,hl4]
  refine jG.to (dA0 G _ a4 Z0 hn e.nm e.key) ?_
  rintro _ h5 ⟨rfl,af,cf,a5,g5,b5⟩
  simp(disch:=first|omega|(apply id;simp only[push_cast];first|done|omega))only[push_cast,Nat.reduceAdd,Nat.reduceMul,Nat.reduceSub,Nat.reduceLT,Nat.reduceEqDiff,Nat.reduceLeDiff,Int.reduceToNat,reduceCtorEq,Int.reduceLT,Int.reduceLE,Int.reduceAdd,Int.reduceSub,Int.reduceMul,Int.reduceNeg,Int.reduceEq]
  have gall:jI h h5 q.B:=(jI.tr' (jI.mono (T:=q.B) (g3 _ _ _) λ_ _ h=>h.elim) g4 λ_ _ hb=>hb).tr' g5 λb hlt ⟨i,hi⟩=>by
   by_cases ei:i=2
   ·subst ei
    rcases b4 b hi with h1|h1
    ·exact ⟨2,h1⟩
    ·omega
   ·exact ⟨i,tg_o ei hi⟩
  refine ⟨⟨{ ({ q with mo:=mo }:Pl) with af:=af,cf:=cf },rfl,by unfold askW;rw[hk,if_neg Z1];exact a5,λb ⟨i,hi⟩=>?_⟩,gall⟩
  by_cases e3:i=3
  ·subst e3
   rcases b5 b hi with h1|h1
   ·exact .inl ⟨3,h1⟩
   ·exact .inr Z0
  ·have h1:=eZ0 e3 hi
   by_cases e2:i=2
   ·subst e2
    rcases b4 b h1 with h2|h2
    ·exact .inl ⟨2,h2⟩
    ·exact .inr Z0
   ·exact .inl ⟨i,tg_o e2 h1⟩
end
end Go.Proofs.Ytejgmoenmbjidaa
namespace Go.Proofs.Ytejgmoenmbjidaa
open _root_.Go.Proofs.Try (prog)
open Go Go.RowKit Go.Ev
noncomputable section
set_option maxRecDepth 100000
variable (G:Nat) (h:jB)
theorem qM1 (a:Z8 Addr)(c:Nat){α:Type}(f:α→List Z6)(l:List α)(hf:∀ x,(f x).length=1)(hff:∀ m x,jT m (f x)=true)(hs:Sl h a (rw f l))(hb:∀ b,blk a b→b<h.next)(hl:l.length<1000000000000)(h0:a=none→l=[]) :
  jG (pp G) 30 [.slice a l.length c] h (λv h2=>(∃ a' c',v=.slice a' l.length c'∧Sl h2 a' (rw f l)∧(l=[]∨∃ b,a'=some ⟨b,0,none⟩∧h2.lo≤b∧∃ m,cells h2 b=some (rw f l,3,m))∧(∀ b,blk a' b→h.next≤b∧b<h2.next)∧∀ l2 c2,fone h2.next (.slice a' l2 c2)=true)∧Gr h h2):=by
 refine jG.fir4 (jW G) fir30 rfl rfl (yW0 ..) λhlo=>?_
 rw[eB1]
 cases a with
 | none=>
  obtain rfl:=h0 rfl
  simp(disch:=first|omega|(apply id;simp only[push_cast];first|done|omega))only[push_cast,Nat.reduceAdd,Nat.reduceMul,Nat.reduceSub,Nat.reduceLT,Nat.reduceEqDiff,Nat.reduceLeDiff,Int.reduceToNat,reduceCtorEq,Int.reduceLT,Int.reduceLE,Int.reduceAdd,Int.reduceSub,Int.reduceMul,Int.reduceNeg,Int.reduceEq]
  exact ⟨⟨none,0,rfl,Sl.nil _ jR0,λb hb=>by (obtain ⟨o,s,e⟩:=hb;cases e),λ_ _=>rfl⟩,Gr.refl _⟩
 | some a=>
  have hbs:bsC 0 3 h (some (List.replicate 0 [Value.int IntKind.i64 0]).flatten)=some (.slice (some ⟨h.next,0,none⟩) 0 0,h.add (O [] 3 false)):=eI0 _ _ _ rfl
  have hg0:jI h (h.add (O [] 3 false)) (λ_=>False):=jI.add h _ _
  have hown:Own (h.add (O [] 3 false)) 3 1 (some ⟨h.next,0,none⟩) 0 0 []:=⟨rfl,rfl,.inr ⟨h.next,false,rfl,by rw[jS];exact hlo,by rw[jH];omega,jP _ _ _ _ rfl,.inr ⟨rfl,rfl⟩⟩⟩
  have hs1:Sl (h.add (O [] 3 false)) (some a) (rw f l):=Sl.grew hs hg0 λb h1 _=>⟨hb b h1,λh=>h⟩
  have hbd:(0+l.length)*8≤140737488355328∧(0+l.length)<100000000000000:=by constructor<;>omega
  obtain ⟨a4,c4,h4,ha4,hown4,hg4,hb4⟩:=gG (P:=prog) gY hown (by rw[jS,jH];omega) (x:=.slice (some a) l.length c) (m:=l.length) (xs:=rw f l) rfl
   (Sl.src hs1 (qE hf l) Z1) (qE hf l) (qW _ (hff _) l) hbd
  rw[Nat.zero_add] at ha4 hown4
  rw[List.nil_append] at hown4
  simp(disch:=first|omega|(apply id;simp only[push_cast];first|done|omega))only[push_cast,Nat.reduceAdd,Nat.reduceMul,Nat.reduceSub,Nat.reduceLT,Nat.reduceEqDiff,Nat.reduceLeDiff,Int.reduceToNat,reduceCtorEq,Int.reduceLT,Int.reduceLE,Int.reduceAdd,Int.reduceSub,Int.reduceMul,Int.reduceNeg,Int.reduceEq,hbs,ha4]
  have hg:jI h h4 (λ_=>False):=hg0.tr' hg4 λi hi ht=>by obtain ⟨o,s,e⟩:=ht;cases e;exact absurd hi (Nat.lt_irrefl _)
  refine ⟨⟨a4,c4,rfl,hown4.sl,?_,λb hb=>⟨?_,?_⟩,λl2 c2=>?_⟩,hg⟩
  ·rcases hown4.hat with ⟨_,h1,_⟩|⟨b,m,h1,h2,h3,h5,_⟩
   ·exact .inl (List.eq_nil_of_length_eq_zero h1)
   ·exact .inr ⟨b,h1,h2,m,h5⟩
  ·rcases hb4 b hb with h6|h6
   ·obtain ⟨o,s,e⟩:=h6;cases e;exact Z3 _
   ·rw[jH] at h6;omega
  ·obtain ⟨o,s,e⟩:=hb
   rcases hown4.hat with ⟨h1,_⟩|⟨b',m,h1,h2,h3,_⟩
   ·rw[h1] at e;cases e
   ·rw[h1] at e;cases e;exact h3
  ·rcases hown4.hat with ⟨rfl,_⟩|⟨b,m,rfl,h2,h3,_⟩
   ·rfl
   ·exact gN0 _ _ _ _ _ h3
theorem qL1 (a:Z8 Addr)(c:Nat){α:Type}(f:α→List Z6)(l:List α)(hf:∀ x,(f x).length=4)(hff:∀ m x,jT m (f x)=true)(hs:Sl h a (rw f l))(hb:∀ b,blk a b→b<h.next)(hl:l.length<1000000000000)(h0:a=none→l=[]) :
  jG (pp G) 43 [.slice a l.length c] h (λv h2=>(∃ a' c',v=.slice a' l.length c'∧Sl h2 a' (rw f l)∧(l=[]∨∃ b,a'=some ⟨b,0,none⟩∧h2.lo≤b∧∃ m,cells h2 b=some (rw f l,49,m))∧(∀ b,blk a' b→h.next≤b∧b<h2.next)∧∀ l2 c2,fone h2.next (.slice a' l2 c2)=true)∧Gr h h2):=by
 refine jG.fir4 (jW G) fir43 rfl rfl (yW0 ..) λhlo=>?_
 rw[dO1]
 cases a with
 | none=>
  obtain rfl:=h0 rfl
  simp(disch:=first|omega|(apply id;simp only[push_cast];first|done|omega))only[push_cast,Nat.reduceAdd,Nat.reduceMul,Nat.reduceSub,Nat.reduceLT,Nat.reduceEqDiff,Nat.reduceLeDiff,Int.reduceToNat,reduceCtorEq,Int.reduceLT,Int.reduceLE,Int.reduceAdd,Int.reduceSub,Int.reduceMul,Int.reduceNeg,Int.reduceEq]
  exact ⟨⟨none,0,rfl,Sl.nil _ jR0,λb hb=>by (obtain ⟨o,s,e⟩:=hb;cases e),λ_ _=>rfl⟩,Gr.refl _⟩
 | some a=>
  have hbs:bsC 0 49 h (some (List.replicate 0 [Value.bool false,Value.string (Tx []),Value.int IntKind.i64 0,Value.int IntKind.i64 0]).flatten)=some (.slice (some ⟨h.next,0,none⟩) 0 0,h.add (O [] 49 false)):=eI0 _ _ _ rfl
  have hg0:jI h (h.add (O [] 49 false)) (λ_=>False):=jI.add h _ _
  have hown:Own (h.add (O [] 49 false)) 49 4 (some ⟨h.next,0,none⟩) 0 0 []:=⟨rfl,rfl,.inr ⟨h.next,false,rfl,by rw[jS];exact hlo,by rw[jH];omega,jP _ _ _ _ rfl,.inr ⟨rfl,rfl⟩⟩⟩
  have hs1:Sl (h.add (O [] 49 false)) (some a) (rw f l):=Sl.grew hs hg0 λb h1 _=>⟨hb b h1,λh=>h⟩
  have hbd:(0+l.length)*40≤140737488355328∧(0+l.length)<100000000000000:=by constructor<;>omega
  obtain ⟨a4,c4,h4,ha4,hown4,hg4,hb4⟩:=gG (P:=prog) bX hown (by rw[jS,jH];omega) (x:=.slice (some a) l.length c) (m:=l.length) (xs:=rw f l) rfl
   (Sl.src hs1 (qE hf l) Z1) (qE hf l) (qW _ (hff _) l) hbd
  rw[Nat.zero_add] at ha4 hown4
  rw[List.nil_append] at hown4
  simp(disch:=first|omega|(apply id;simp only[push_cast];first|done|omega))only[push_cast,Nat.reduceAdd,Nat.reduceMul,Nat.reduceSub,Nat.reduceLT,Nat.reduceEqDiff,Nat.reduceLeDiff,Int.reduceToNat,reduceCtorEq,Int.reduceLT,Int.reduceLE,Int.reduceAdd,Int.reduceSub,Int.reduceMul,Int.reduceNeg,Int.reduceEq,hbs,ha4]
  have hg:jI h h4 (λ_=>False):=hg0.tr' hg4 λi hi ht=>by obtain ⟨o,s,e⟩:=ht;cases e;exact absurd hi (Nat.lt_irrefl _)
  refine ⟨⟨a4,c4,rfl,hown4.sl,?_,λb hb=>⟨?_,?_⟩,λl2 c2=>?_⟩,hg⟩
  ·rcases hown4.hat with ⟨_,h1,_⟩|⟨b,m,h1,h2,h3,h5,_⟩
   ·exact .inl (List.eq_nil_of_length_eq_zero h1)
   ·exact .inr ⟨b,h1,h2,m,h5⟩
  ·rcases hb4 b hb with h6|h6
   ·obtain ⟨o,s,e⟩:=h6;cases e;exact Z3 _
   ·rw[jH] at h6;omega
  ·obtain ⟨o,s,e⟩:=hb
   rcases hown4.hat with ⟨h1,_⟩|⟨b',m,h1,h2,h3,_⟩
   ·rw[h1] at e;cases e
   ·rw[h1] at e;cases e;exact h3
  ·rcases hown4.hat with ⟨rfl,_⟩|⟨b,m,rfl,h2,h3,_⟩
   ·rfl
   ·exact gN0 _ _ _ _ _ h3
theorem qK1 (a:Z8 Addr)(c:Nat){α:Type}(f:α→List Z6)(l:List α)(hf:∀ x,(f x).length=3)(hff:∀ m x,jT m (f x)=true)(hs:Sl h a (rw f l))(hb:∀ b,blk a b→b<h.next)(hl:l.length<1000000000000)(h0:a=none→l=[]) :
  jG (pp G) 44 [.slice a l.length c] h (λv h2=>(∃ a' c',v=.slice a' l.length c'∧Sl h2 a' (rw f l)∧(l=[]∨∃ b,a'=some ⟨b,0,none⟩∧h2.lo≤b∧∃ m,cells h2 b=some (rw f l,31,m))∧(∀ b,blk a' b→h.next≤b∧b<h2.next)∧∀ l2 c2,fone h2.next (.slice a' l2 c2)=true)∧Gr h h2):=by
 refine jG.fir4 (jW G) fir44 rfl rfl (yW0 ..) λhlo=>?_
 rw[dN1]
 cases a with
 | none=>
  obtain rfl:=h0 rfl
  simp(disch:=first|omega|(apply id;simp only[push_cast];first|done|omega))only[push_cast,Nat.reduceAdd,Nat.reduceMul,Nat.reduceSub,Nat.reduceLT,Nat.reduceEqDiff,Nat.reduceLeDiff,Int.reduceToNat,reduceCtorEq,Int.reduceLT,Int.reduceLE,Int.reduceAdd,Int.reduceSub,Int.reduceMul,Int.reduceNeg,Int.reduceEq]
  exact ⟨⟨none,0,rfl,Sl.nil _ jR0,λb hb=>by (obtain ⟨o,s,e⟩:=hb;cases e),λ_ _=>rfl⟩,Gr.refl _⟩
 | some a=>
  have hbs:bsC 0 31 h (some (List.replicate 0 [Value.string (Tx []),Value.int IntKind.i64 0,Value.int IntKind.i64 0]).flatten)=some (.slice (some ⟨h.next,0,none⟩) 0 0,h.add (O [] 31 false)):=eI0 _ _ _ rfl
  have hg0:jI h (h.add (O [] 31 false)) (λ_=>False):=jI.add h _ _
  have hown:Own (h.add (O [] 31 false)) 31 3 (some ⟨h.next,0,none⟩) 0 0 []:=⟨rfl,rfl,.inr ⟨h.next,false,rfl,by rw[jS];exact hlo,by rw[jH];omega,jP _ _ _ _ rfl,.inr ⟨rfl,rfl⟩⟩⟩
  have hs1:Sl (h.add (O [] 31 false)) (some a) (rw f l):=Sl.grew hs hg0 λb h1 _=>⟨hb b h1,λh=>h⟩
  have hbd:(0+l.length)*32≤140737488355328∧(0+l.length)<100000000000000:=by constructor<;>omega
  obtain ⟨a4,c4,h4,ha4,hown4,hg4,hb4⟩:=gG (P:=prog) bW hown (by rw[jS,jH];omega) (x:=.slice (some a) l.length c) (m:=l.length) (xs:=rw f l) rfl
   (Sl.src hs1 (qE hf l) Z1) (qE hf l) (qW _ (hff _) l) hbd
  rw[Nat.zero_add] at ha4 hown4
  rw[List.nil_append] at hown4
  simp(disch:=first|omega|(apply id;simp only[push_cast];first|done|omega))only[push_cast,Nat.reduceAdd,Nat.reduceMul,Nat.reduceSub,Nat.reduceLT,Nat.reduceEqDiff,Nat.reduceLeDiff,Int.reduceToNat,reduceCtorEq,Int.reduceLT,Int.reduceLE,Int.reduceAdd,Int.reduceSub,Int.reduceMul,Int.reduceNeg,Int.reduceEq,hbs,ha4]
  have hg:jI h h4 (λ_=>False):=hg0.tr' hg4 λi hi ht=>by obtain ⟨o,s,e⟩:=ht;cases e;exact absurd hi (Nat.lt_irrefl _)
  refine ⟨⟨a4,c4,rfl,hown4.sl,?_,λb hb=>⟨?_,?_⟩,λl2 c2=>?_⟩,hg⟩
  ·rcases hown4.hat with ⟨_,h1,_⟩|⟨b,m,h1,h2,h3,h5,_⟩
   ·exact .inl (List.eq_nil_of_length_eq_zero h1)
   ·exact .inr ⟨b,h1,h2,m,h5⟩
  ·rcases hb4 b hb with h6|h6
   ·obtain ⟨o,s,e⟩:=h6;cases e;exact Z3 _
   ·rw[jH] at h6;omega
  ·obtain ⟨o,s,e⟩:=hb
   rcases hown4.hat with ⟨h1,_⟩|⟨b',m,h1,h2,h3,_⟩
   ·rw[h1] at e;cases e
   ·rw[h1] at e;cases e;exact h3
  ·rcases hown4.hat with ⟨rfl,_⟩|⟨b,m,rfl,h2,h3,_⟩
   ·rfl
   ·exact gN0 _ _ _ _ _ h3
def delL (k:Int):List (Opn×Nat)→List (Opn×Nat)
 | []=>[]
 | x :: l=>if k=x.1.key then l else x :: delL k l
theorem mG0 (k:Int):∀ l:List (Opn×Nat),delM k (l.map opE)=(delL k l).map opE
 | []=>rfl
 | x :: l=>by
  show (if k=x.1.key then l.map opE else opE x :: delM k (l.map opE))=(if k=x.1.key then l else x :: delL k l).map opE
  split
  ·rfl
  ·rw[mG0 k l];rfl
theorem mH0 (k:Int):∀ l:List (Opn×Nat),(delL k l).map (·.1)=delK k (l.map (·.1))
 | []=>rfl
 | x :: l=>by
  show (if k=x.1.key then l else x :: delL k l).map (·.1)=(if k=x.1.key then l.map (·.1) else x.1 :: delK k (l.map (·.1)))
  split
  ·rfl
  ·rw[List.map_cons,mH0 k l]
theorem cJ0 (k:Int):∀ l:List (Opn×Nat),List.Sublist (delL k l) l
 | []=>List.Sublist.refl _
 | x :: l=>by
  rw[delL]
  split
  ·exact List.sublist_cons_self _ _
  ·exact (cJ0 k l).cons_cons x
theorem uO0 (k:Int):∀ l:List Opn,(l.map (·.key)).Nodup→delK k l=l.filter (λo=>!decide (k=o.key))
 | [],_=>rfl
 | o :: l,h=>by
  rw[List.map_cons,List.nodup_cons] at h
  rw[delK]
  by_cases e:k=o.key
  ·rw[if_pos e,List.filter_cons_of_neg (by simp[e])]
   refine (List.filter_eq_self.2 λx hx=>?_).symm
   have:k≠x.key:=λe2=>h.1 (List.mem_map.2 ⟨x,hx,by rw[← e2,e]⟩)
   simp[this]
  ·rw[if_neg e,List.filter_cons_of_pos (by simp[e]),uO0 k l h.2]
theorem MapO.del {h h2:jB}{r c:Nat}{l:List (Opn×Nat)}{op:List Opn}{k:Int}(hr:r<h2.next)(hm:mapOf h2 r=some (ME (delM k (l.map opE)),c))(e4:(l.map (·.1)).Perm op)(e5:∀ x∈l,x.2<c)(e6:(l.map (·.2)).Nodup)(hd:(op.map (·.key)).Nodup):MapO h2 (some r) (delK k op):=by
 rw[mG0] at hm
 have hd2:((l.map (·.1)).map (·.key)).Nodup:=((e4.map (·.key)).nodup_iff).2 hd
 refine ⟨.inr ⟨r,c,delL k l,rfl,hr,hm,?_,λx hx=>e5 x ((cJ0 k l).subset hx),e6.sublist ((cJ0 k l).map _)⟩⟩
 rw[mH0,uO0 k _ hd2,uO0 k _ hd]
 exact e4.filter _
theorem qE1 {k:Int}:∀ {l:List Opn},gJ k l=false→delK k l=l
 | [],_=>rfl
 | o :: l,h=>by
  rw[gJ,Bool.or_eq_false_iff] at h
  rw[delK,if_neg (of_decide_eq_false h.1),qE1 h.2]
def uY (w:Wi)(k:Int):Wi:={ w with op:=delK k w.op }
theorem zJ1 {q:Pl}{w:Wi}(a:WAt h q w)(hd:(w.op.map (·.key)).Nodup)(k:Int) :
  jG (pp G) 25 [.pointer (some ⟨q.p,0,none⟩),.int .i64 k] h (λv h'=>v=.tuple #[]∧WAt h' q (uY w k)∧jI h h' (λb=>q.mo=some b)∧h'.next=h.next):=by
 refine jG.fir4 (jW G) fir25 rfl rfl (eS0 ..) λhlo=>?_
 rw[eG1]
 have hc:=a.cell
 have hl:=a.lo
 unfold wcs at hc
 rcases a.op.has with ⟨e1,e2⟩|⟨r,c,l,e1,e2,e3,e4,e5,e6⟩
 ·rw[e1] at hc
  simp(disch:=first|omega|(apply id;simp only[push_cast];first|done|omega))only[push_cast,Nat.reduceAdd,Nat.reduceMul,Nat.reduceSub,Nat.reduceLT,Nat.reduceEqDiff,Nat.reduceLeDiff,Int.reduceToNat,reduceCtorEq,Int.reduceLT,Int.reduceLE,Int.reduceAdd,Int.reduceSub,Int.reduceMul,Int.reduceNeg,Int.reduceEq,hc,hl,qB1 mp52]
  refine ⟨?_,jI.refl _ _⟩
  unfold uY
  rw[e2]
  have:=a
  obtain ⟨vs,ck,op,fl,ap,kp⟩:=w
  subst e2
  exact a
 ·have hrp:r≠q.p:=λe=>by have:=a.sep r 2 0 e1 e;omega
  rw[e1] at hc
  simp(disch:=first|omega|(apply id;simp only[push_cast];first|done|omega))only[push_cast,Nat.reduceAdd,Nat.reduceMul,Nat.reduceSub,Nat.reduceLT,Nat.reduceEqDiff,Nat.reduceLeDiff,Int.reduceToNat,reduceCtorEq,Int.reduceLT,Int.reduceLE,Int.reduceAdd,Int.reduceSub,Int.reduceMul,Int.reduceNeg,Int.reduceEq,hc,hl,mF0 mp52 e3]
  have g:jI h (h.put r (MO (delM k (l.map opE)) c)) (λb=>q.mo=some b):=(jI.refl h _).put'' _ _ λ_=>e1
  refine ⟨?_,g⟩
  have h2:=a.setO (mo:=q.mo) (op:=delK k w.op) (g.mono λb _ hb=>.inr hb) (by rw[qH _ _ _ (Ne.symm hrp)];exact a.cell) (by rw[e1];exact MapO.del (h:=h) (by rw[jN];exact e2) (kM (uA0 e3)) e4 e5 e6 hd) λb hb=>.inl hb
  exact h2
def wH0 (w:Wi):Wi:={ w with op:=[] }
theorem iM1 {q:Pl}{w:Wi}(a:WAt h q w) :
  jG (pp G) 34 [.pointer (some ⟨q.p,0,none⟩)] h (λv h'=>v=.tuple #[]∧WAt h' q (wH0 w)∧jI h h' (λb=>q.mo=some b)∧h'.next=h.next):=by
 refine jG.fir4 (jW G) fir34 rfl rfl (bX1 ..) λhlo=>?_
 rw[dX1]
 have hc:=a.cell
 have hl:=a.lo
 unfold wcs at hc
 rcases a.op.has with ⟨e1,e2⟩|⟨r,c,l,e1,e2,e3,e4,e5,e6⟩
 ·rw[e1] at hc
  simp(disch:=first|omega|(apply id;simp only[push_cast];first|done|omega))only[push_cast,Nat.reduceAdd,Nat.reduceMul,Nat.reduceSub,Nat.reduceLT,Nat.reduceEqDiff,Nat.reduceLeDiff,Int.reduceToNat,reduceCtorEq,Int.reduceLT,Int.reduceLE,Int.reduceAdd,Int.reduceSub,Int.reduceMul,Int.reduceNeg,Int.reduceEq,hc,hl,iN1 mp52]
  refine ⟨?_,jI.refl _ _⟩
  unfold wH0
  obtain ⟨vs,ck,op,fl,ap,kp⟩:=w
  subst e2
  exact a
 ·have hrp:r≠q.p:=λe=>by have:=a.sep r 2 0 e1 e;omega
  rw[e1] at hc
  simp(disch:=first|omega|(apply id;simp only[push_cast];first|done|omega))only[push_cast,Nat.reduceAdd,Nat.reduceMul,Nat.reduceSub,Nat.reduceLT,Nat.reduceEqDiff,Nat.reduceLeDiff,Int.reduceToNat,reduceCtorEq,Int.reduceLT,Int.reduceLE,Int.reduceAdd,Int.reduceSub,Int.reduceMul,Int.reduceNeg,Int.reduceEq,hc,hl,kO1 mp52 e3]
  have g:jI h (h.put r (MO [] c)) (λb=>q.mo=some b):=(jI.refl h _).put'' _ _ λ_=>e1
  refine ⟨?_,g⟩
  exact a.setO (mo:=q.mo) (op:=[]) (g.mono λb _ hb=>.inr hb) (by rw[qH _ _ _ (Ne.symm hrp)];exact a.cell) (by rw[e1];exact ⟨.inr ⟨r,c,[],rfl,by rw[jN];exact e2,kM (uA0 e3),List.Perm.refl _,λx hx=>(by cases hx),by simp⟩⟩) λb hb=>.inl hb
end
end Go.Proofs.Ytejgmoenmbjidaa
namespace Go.Proofs.Ytejgmoenmbjidaa
open _root_.Go.Proofs.Try (prog)
open Go Go.RowKit Go.Ev
noncomputable section
set_option maxRecDepth 100000
variable (G:Nat) (h:jB)
theorem OwR.none {h:jB}{e n c:Nat}{α:Type}{f:α→List Z6}{l:List α}(o:OwR h e n none l.length c (rw f l)):l=[]:=by
 rcases o.hat with ⟨_,h1,_⟩|⟨b,full,L,h1,_⟩
 ·exact List.eq_nil_of_length_eq_zero h1
 ·cases h1
structure Told (h:jB){α:Type}(e:Nat)(f:α→List Z6)(l:List α)(v:Z6)(h2:jB):Prop where
 has:∃ a' c',v=.slice a' l.length c'∧Sl h2 a' (rw f l)∧(l=[]∨∃ b,a'=some ⟨b,0,none⟩∧h2.lo≤b∧∃ m,cells h2 b=some (rw f l,e,m))∧(∀ b,blk a' b→h.next≤b∧b<h2.next)∧∀ l2 c2,fone h2.next (.slice a' l2 c2)=true
 gr:Gr h h2
theorem mD0 {q:Pl}{w:Wi}(a:WAt h q w)(hn:w.fl.length<1000000000000):jG (pp G) 21 [.pointer (some ⟨q.p,0,none⟩)] h (Told h 49 msC w.fl):=by
 refine jG.fir4 (jW G) fir21 rfl rfl (yW0 ..) λhlo=>?_
 rw[eK1]
 have hc:=a.cell
 have hl:=a.lo
 unfold wcs at hc
 simp(disch:=first|omega|(apply id;simp only[push_cast];first|done|omega))only[push_cast,Nat.reduceAdd,Nat.reduceMul,Nat.reduceSub,Nat.reduceLT,Nat.reduceEqDiff,Nat.reduceLeDiff,Int.reduceToNat,reduceCtorEq,Int.reduceLT,Int.reduceLE,Int.reduceAdd,Int.reduceSub,Int.reduceMul,Int.reduceNeg,Int.reduceEq,hc,hl]
 refine jG.to (qL1 G _ q.af q.cf msC w.fl qA kT a.fl.sl (λb hb=>a.lt b 3 hb) hn λe=>by have:=a.fl;rw[e] at this;exact this.none) ?_
 rintro v h2 ⟨h1,g⟩
 simp(disch:=first|omega|(apply id;simp only[push_cast];first|done|omega))only[push_cast,Nat.reduceAdd,Nat.reduceMul,Nat.reduceSub,Nat.reduceLT,Nat.reduceEqDiff,Nat.reduceLeDiff,Int.reduceToNat,reduceCtorEq,Int.reduceLT,Int.reduceLE,Int.reduceAdd,Int.reduceSub,Int.reduceMul,Int.reduceNeg,Int.reduceEq]
 exact ⟨h1,g⟩
theorem eN0 {q:Pl}{w:Wi}(a:WAt h q w)(hn:w.ap.length<1000000000000):jG (pp G) 23 [.pointer (some ⟨q.p,0,none⟩)] h (Told h 31 evC w.ap):=by
 refine jG.fir4 (jW G) fir23 rfl rfl (yW0 ..) λhlo=>?_
 rw[eI1]
 have hc:=a.cell
 have hl:=a.lo
 unfold wcs at hc
 simp(disch:=first|omega|(apply id;simp only[push_cast];first|done|omega))only[push_cast,Nat.reduceAdd,Nat.reduceMul,Nat.reduceSub,Nat.reduceLT,Nat.reduceEqDiff,Nat.reduceLeDiff,Int.reduceToNat,reduceCtorEq,Int.reduceLT,Int.reduceLE,Int.reduceAdd,Int.reduceSub,Int.reduceMul,Int.reduceNeg,Int.reduceEq,hc,hl]
 refine jG.to (qK1 G _ q.aa q.ca evC w.ap bH kD0 a.ap.sl (λb hb=>a.lt b 4 hb) hn λe=>by have:=a.ap;rw[e] at this;exact this.none) ?_
 rintro v h2 ⟨h1,g⟩
 simp(disch:=first|omega|(apply id;simp only[push_cast];first|done|omega))only[push_cast,Nat.reduceAdd,Nat.reduceMul,Nat.reduceSub,Nat.reduceLT,Nat.reduceEqDiff,Nat.reduceLeDiff,Int.reduceToNat,reduceCtorEq,Int.reduceLT,Int.reduceLE,Int.reduceAdd,Int.reduceSub,Int.reduceMul,Int.reduceNeg,Int.reduceEq]
 exact ⟨h1,g⟩
theorem nX1 (xs:List Int):rw (λi=>[Value.int .i64 i]) xs=ivs xs:=by
 induction xs with
 | nil=>rfl
 | cons x xs ih=>rw[rw,ih];rfl
def newW (vs:List Int):Wi:=⟨vs,0,[],[],[],[]⟩
theorem qX1 {h:jB}{q:Pl}{w:Wi}(a:WAt h q w)(hlo:h.lo≤h.next)(hn:w.fl.length<1000000)(m:Msg):∃ a' c' h2 h3,
  jE prog 36 36 (.slice q.af w.fl.length q.cf) (.slice (some ⟨h.next,0,none⟩) 1 1) (h.add (O (msC m) 49 false))=some (.slice a' (w.fl.length+1) c',h2)∧cells h2 q.p=some (wcs q w,55,false)∧h2.lo=h.lo∧
  stC 1 3 (.slice a' (w.fl.length+1) c') h2 q.p (some (wcs q w,55,false))=some (undef,h3)∧WAt h3 { q with af:=a',cf:=c' } { w with fl:=w.fl++[m] }∧jI h h3 q.B∧(∀ b,blk a' b→blk q.af b∨h.next≤b)∧h.next+1≤h2.next∧jI (h.add (O (msC m) 49 false)) h2 (blk q.af):=by
 have hg1:jI h (h.add (O (msC m) 49 false)) (λ_=>False):=jI.add h _ _
 have hc1:=hg1.cellsE a.cell (bA a) (λh=>h)
 have a1:=a.grew hg1 λ_ _ h=>h
 have hl:=a.lo
 have hn1:(h.add (O (msC m) 49 false)).next=h.next+1:=jH _
 have hl1:(h.add (O (msC m) 49 false)).lo=h.lo:=jS _
 have hs1:Sl (h.add (O (msC m) 49 false)) (some ⟨h.next,0,none⟩) (msC m):=Sl.row (jP _ _ _ _ rfl) Z0
 have hb1:(w.fl.length+1)*40≤140737488355328∧(w.fl.length+1)<100000000000000:=by constructor<;>omega
 obtain ⟨a',c',h2,e2,o2,g2,b2⟩:=bO0 (P:=prog) bX a1.fl Z0 (x:=.slice (some ⟨h.next,0,none⟩) 1 1) rfl (Sl.src hs1 (qA _) Z1) (qA _) (kT _ _) hb1
 have hc2:=g2.cellsE hc1 (by have:=bA a;omega) (λhb=>by have:=a.sep q.p 3 0 hb rfl;omega)
 have hl2:h2.lo=h.lo:=g2.lo.trans (jS _)
 have hst:=kY (h:=h2) 1 3 (.slice a' (w.fl.length+1) c') q.p (wcs q w) 55 false rfl (o2.fone _ _) Z0 (by show 3+1≤6;omega)
 have hn2:=g2.next
 have b2':∀ b,blk a' b→blk q.af b∨h.next≤b:=λb hb=>(b2 b hb).imp id λh=>by omega
 refine ⟨a',c',h2,_,e2,hc2,hl2,hst,?_⟩
 have g3:jI h2 (h2.put q.p (O (jJ (wcs q w) 3 (Value.slice a' (w.fl.length+1) c').cells.toList) 55 false)) (λb=>b=q.p):=(jI.refl h2 _).put'' _ _ λ_=>rfl
 have hp:∀ i b,i≠0→q.tg b i→b≠q.p:=λi b hi ht e=>hi (a.sep b i 0 ht e)
 have hf:∀ i b,i≠3→q.tg b i→¬ blk q.af b:=λi b hi ht e=>hi (a.sep b i 3 ht e)
 have hp2:∀ b,blk a' b→b≠q.p:=λb hb e=>by
  rcases b2' b hb with h1|h1
  ·exact hp 3 b Z1 h1 e
  ·have:=bA a;omega
 refine ⟨⟨?_,?_,λb i hb=>?_,?_,?_,?_,?_,?_,rP0 a b2'⟩,?_,b2',Z0,g2⟩
 ·rw[jO]
  unfold wcs
  rw[List.length_append]
  rfl
 ·rw[qI];show h2.lo≤q.p;omega
 ·rw[jN]
  by_cases e:i=3
  ·subst e;exact o2.lt b hb
  ·have:=eZ0 (q:=q) e hb
   have:=a.lt b i this
   omega
 ·exact Sl.grew (Sl.grew a1.vs g2 λb hb _=>⟨a1.lt b 1 hb,hf 1 b Z1 hb⟩) g3 λb hb _=>⟨by have:=a1.lt b 1 hb;omega,hp 1 b Z1 hb⟩
 ·rw[List.length_append,kW]
  exact (o2.grew g3 λb hb=>hp2 b hb)
 ·exact (a1.ap.grew g2 λb hb=>hf 4 b Z1 hb).grew g3 λb hb=>hp 4 b Z1 hb
 ·exact (a1.op.grew g2 λb hb=>hf 2 b Z1 hb).grew g3 λb hb=>hp 2 b Z1 hb
 ·exact (a1.kn.grew g2 λb hb=>hf 5 b Z1 hb).grew g3 λb hb=>hp 5 b Z1 hb
 ·exact ((jI.mono hg1 (T:=q.B) λ_ _ h=>h.elim).tr' g2 λb _ hb=>⟨3,hb⟩).tr' g3 λb _ hb=>⟨0,hb⟩
theorem B_fl {h:jB}{q:Pl}{af:Z8 Addr}{cf:Nat}(hb:∀ b,blk af b→blk q.af b∨h.next≤b):∀ b,({ q with af:=af,cf:=cf }:Pl).B b→q.B b∨h.next≤b:=λb ⟨i,hi⟩=>by
 by_cases e:i=3
 ·subst e;exact (hb b hi).imp (λh=>⟨3,h⟩) id
 ·exact .inl ⟨i,eZ0 e hi⟩
theorem oM1 (xs:List Int)(ar:Z8 Addr)(cr:Nat)(hs:Sl h ar (ivs xs))(hb:∀ b,blk ar b→b<h.next)(hn:xs.length<1000000000000)(h0:ar=none→xs=[]) :
  jG (pp G) 11 [.slice ar xs.length cr] h (λv h'=>(∃ q:Pl,v=.pointer (some ⟨q.p,0,none⟩)∧WAt h' q (newW xs)∧∀ b,q.B b→h.next≤b)∧Gr h h'):=by
 refine jG.fir4 (jW G) fir11 rfl rfl (tC1 ..) λhlo=>?_
 rw[eU1]
 simp(disch:=first|omega|(apply id;simp only[push_cast];first|done|omega))only[push_cast,Nat.reduceAdd,Nat.reduceMul,Nat.reduceSub,Nat.reduceLT,Nat.reduceEqDiff,Nat.reduceLeDiff,Int.reduceToNat,reduceCtorEq,Int.reduceLT,Int.reduceLE,Int.reduceAdd,Int.reduceSub,Int.reduceMul,Int.reduceNeg,Int.reduceEq]
 refine jG.to (qM1 G _ ar cr (λi=>[Value.int .i64 i]) xs (λ_=>rfl) (λ_ _=>rfl) (by rw[nX1];exact hs) hb hn h0) ?_
 rintro v h2 ⟨⟨a',c',rfl,s',_,b',f'⟩,g⟩
 rw[nX1] at s'
 have hbx:bxE 55 (.agg ⟨[.slice a' xs.length c',.int .i64 0,.map none,.slice none 0 0,.slice none 0 0,.map none]⟩) h2=some (.pointer (some ⟨h2.next,0,none⟩),h2.add (O [.slice a' xs.length c',.int .i64 0,.map none,.slice none 0 0,.slice none 0 0,.map none] 55 false)):=iQ1 _ _ (by
  show jT h2.next (.slice a' xs.length c' :: [.int .i64 0,.map none,.slice none 0 0,.slice none 0 0,.map none])=true
  exact gM _ _ _ (f' _ _) rfl)
 have hg:=g.next
 have ga:Gr h2 (h2.add (O [.slice a' xs.length c',.int .i64 0,.map none,.slice none 0 0,.slice none 0 0,.map none] 55 false)):=jI.add _ _ _
 simp(disch:=first|omega|(apply id;simp only[push_cast];first|done|omega))only[push_cast,Nat.reduceAdd,Nat.reduceMul,Nat.reduceSub,Nat.reduceLT,Nat.reduceEqDiff,Nat.reduceLeDiff,Int.reduceToNat,reduceCtorEq,Int.reduceLT,Int.reduceLE,Int.reduceAdd,Int.reduceSub,Int.reduceMul,Int.reduceNeg,Int.reduceEq,hbx]
 have tg:∀ b i,(⟨h2.next,a',c',none,none,0,none,0,none⟩:Pl).tg b i→(i=0∧b=h2.next)∨(i=1∧h.next≤b∧b<h2.next):=λb i ht=>by
  rcases i with _|_|_|_|_|_|i
  ·exact .inl ⟨rfl,ht⟩
  ·exact .inr ⟨rfl,b' b ht⟩
  ·cases ht
  ·obtain ⟨o,s,e⟩:=ht;cases e
  ·obtain ⟨o,s,e⟩:=ht;cases e
  ·cases ht
  ·exact ht.elim
 refine ⟨⟨⟨h2.next,a',c',none,none,0,none,0,none⟩,rfl,⟨jP _ _ _ _ rfl,by rw[jS,g.lo];show h.lo≤h2.next;omega,λb i hb=>?_,?_,OwR.nil _ _ _,OwR.nil _ _ _,⟨.inl ⟨rfl,rfl⟩⟩,⟨.inl ⟨rfl,rfl⟩⟩,λb i j hi hj=>?_⟩,λb hb=>?_⟩,g.tr ga⟩
 ·rw[jH]
  rcases tg b i hb with ⟨_,h1⟩|⟨_,_,h1⟩<;>omega
 ·exact Sl.grew s' ga λb hb _=>⟨(b' b hb).2,λh=>h⟩
 ·rcases tg b i hi with ⟨h1,h3⟩|⟨h1,h3,h4⟩<;>rcases tg b j hj with ⟨h5,h6⟩|⟨h5,h6,h7⟩<;>omega
 ·obtain ⟨i,hi⟩:=hb
  rcases tg b i hi with ⟨_,h1⟩|⟨_,h1,_⟩<;>omega
theorem cJ1 {q:Pl}{w:Wi}(a:WAt h q w)(hn:w.fl.length<1000000)(i:Int) :
  jG (pp G) 19 [.pointer (some ⟨q.p,0,none⟩),.int .i64 i] h (λv h'=>v=.bool (decide (0≤i∧i<w.fl.length))∧Post h q (if 0≤i∧i<w.fl.length then { w with fl:=w.fl++(w.fl[i.toNat]?).toList } else w) h'):=by
 refine jG.fir4 (jW G) fir19 rfl rfl (uK1 ..) λhlo=>?_
 rw[eM1]
 simp(disch:=first|omega|(apply id;simp only[push_cast];first|done|omega))only[push_cast,Nat.reduceAdd,Nat.reduceMul,Nat.reduceSub,Nat.reduceLT,Nat.reduceEqDiff,Nat.reduceLeDiff,Int.reduceToNat,reduceCtorEq,Int.reduceLT,Int.reduceLE,Int.reduceAdd,Int.reduceSub,Int.reduceMul,Int.reduceNeg,Int.reduceEq]
 refine jG.to (fZ0 G _ a i) ?_
 rintro _ _ ⟨rfl,e⟩
 rw[e]
 clear e
 by_cases hi:0≤i∧i<w.fl.length
 ·rw[if_pos hi,decide_eq_true hi]
  have hc:=a.cell
  have hl:=a.lo
  unfold wcs at hc
  obtain ⟨x,hx⟩:∃ x,w.fl[i.toNat]?=some x:=⟨_,List.getElem?_eq_getElem Z0⟩
  obtain ⟨hi1,hi2⟩:=hi
  have hlen:=qE qA w.fl
  obtain ⟨b,off,haf,hld⟩:=a.fl.sl.loadA (i:=i.toNat) jW0 Z1 (by rw[hlen];omega)
  rw[cY0 qA hx,bG,jW0] at hld
  have hg1:Gr h (h.add (O (msC x) 49 false)):=jI.add h _ _
  have cc:=Gr.cells hg1 a.cell (bA a)
  obtain ⟨b1,off1,haf1,hld1⟩:=(a.grew hg1 λ_ _ h=>h).fl.sl.loadA (i:=i.toNat) jW0 Z1 (by rw[hlen];omega)
  rw[haf] at haf1
  cases haf1
  rw[cY0 qA hx,bG,jW0] at hld1
  unfold wcs at cc
  obtain ⟨a',c',h2,h3,p1,p2,p3,p4,p5,p6,p7,p8,p9⟩:=qX1 a hlo hn x
  unfold wcs at p2 p4
  obtain ⟨bk,⟨nm,key,val⟩⟩:=x
  unfold msC evC at hld p1 cc hld1
  rw[haf] at hc p1 p2 p4 cc
  rw[jS] at hld1
  simp(disch:=first|omega|(apply id;simp only[push_cast];first|done|omega))only[push_cast,Nat.reduceAdd,Nat.reduceMul,Nat.reduceSub,Nat.reduceLT,Nat.reduceEqDiff,Nat.reduceLeDiff,Int.reduceToNat,reduceCtorEq,Int.reduceLT,Int.reduceLE,Int.reduceAdd,Int.reduceSub,Int.reduceMul,Int.reduceNeg,Int.reduceEq,hc,hl,hi1,hi2,hld,rowM,p1,p2,p3,p4,cc,hld1]
  rw[hx]
  exact ⟨⟨{ q with af:=a',cf:=c' },rfl,p5,B_fl p7⟩,p6⟩
 ·rw[if_neg hi,decide_eq_false hi]
  simp(disch:=first|omega|(apply id;simp only[push_cast];first|done|omega))only[push_cast,Nat.reduceAdd,Nat.reduceMul,Nat.reduceSub,Nat.reduceLT,Nat.reduceEqDiff,Nat.reduceLeDiff,Int.reduceToNat,reduceCtorEq,Int.reduceLT,Int.reduceLE,Int.reduceAdd,Int.reduceSub,Int.reduceMul,Int.reduceNeg,Int.reduceEq]
  exact ⟨⟨q,rfl,a,λb hb=>.inl hb⟩,jI.refl _ _⟩
end
end Go.Proofs.Ytejgmoenmbjidaa
namespace Go.Proofs.Ytejgmoenmbjidaa
open _root_.Go.Proofs.Try (prog)
open Go Go.RowKit Go.Ev
noncomputable section
set_option maxRecDepth 100000
variable (G:Nat) (h:jB)
theorem u36:prog.underlying 36=some (.slice 49):=Z7
theorem s49:szT prog 49=some 4:=Z7
theorem zA0 {a b:Nat}(h:a<b):Nat.blt a b=true:=by rw[Nat.blt_eq];exact h
theorem qR1 {a b:Nat}(h:¬ a<b):Nat.blt a b=false:=by
 cases hx:Nat.blt a b with
 | false=>rfl
 | true=>rw[Nat.blt_eq] at hx;exact absurd hx h
theorem qT0 {a b:Nat}(h:a≤b):Nat.ble a b=true:=by rw[Nat.ble_eq];exact h
theorem ble_f {a b:Nat}(h:¬ a≤b):Nat.ble a b=false:=by
 cases hx:Nat.ble a b with
 | false=>rfl
 | true=>rw[Nat.ble_eq] at hx;exact absurd hx h
theorem sD1 {a b:Nat}(h:a=b):Nat.beq a b=true:=by rw[Nat.beq_eq];exact h
theorem sE1 {a b:Nat}(h:¬ a=b):Nat.beq a b=false:=by
 cases hx:Nat.beq a b with
 | false=>rfl
 | true=>rw[Nat.beq_eq] at hx;exact absurd hx h
theorem oC0 {len top l h m:Nat}(h1:l≤h)(h2:h≤m)(h3:m≤top):bounds len top (some (.int .i64 m)) (some (.int .i64 h)) (some (.int .i64 l))=some (l,h,some m):=by
 show (match (match Nat.ble m top with|true=>some (some m)|false=>none:Z8 (Z8 Nat)) with
  | none=>none
  | some q=>match (match (some (.int .i64 h):Z8 Z6),q with
   | none,none=>some len
   | none,some _=>none
   | some (.int _ (.ofNat h)),none=>(match Nat.ble h top with | true=>some h | false=>none)
   | some (.int _ (.ofNat h)),some m=>(match Nat.ble h m with | true=>some h | false=>none)
   | some _,_=>none:Z8 Nat) with
   | none=>none
   | some h=>match (match Nat.ble l h with | true=>some l | false=>none:Z8 Nat) with
    | none=>none
    | some l=>some (l,h,q))=_
 rw[qT0 h3]
 show (match (match Nat.ble h m with | true => some h | false => none : Z8 Nat) with
   | none=>none
   | some h=>match (match Nat.ble l h with | true=>some l | false=>none:Z8 Nat) with
    | none=>none
    | some l=>some (l,h,some m))=_
 rw[qT0 h2]
 show (match (match Nat.ble l h with | true => some l | false => none : Z8 Nat) with
       | none=>none
       | some l=>some (l,h,some m))=_
 rw[qT0 h1]
theorem uE0 {len top l:Nat}(h1:l≤len):bounds len top none none (some (.int .i64 l))=some (l,len,none):=by
 show (match (match Nat.ble l len with | true => some l | false => none : Z8 Nat) with
       | none=>none
       | some l=>some (l,len,none))=_
 rw[qT0 h1]
theorem kF0 {len top h:Nat}(h1:h≤top):bounds len top none (some (.int .i64 h)) none=some (0,h,none):=by
 show (match (match Nat.ble h top with | true => some h | false => none : Z8 Nat) with
       | none=>none
       | some h=>some (0,h,none))=_
 rw[qT0 h1]
theorem qP1 {len top l h:Nat}(h1:l≤h)(h2:h≤top):bounds len top none (some (.int .i64 h)) (some (.int .i64 l))=some (l,h,none):=by
 show (match (match Nat.ble h top with | true => some h | false => none : Z8 Nat) with
   | none=>none
   | some h=>match (match Nat.ble l h with | true=>some l | false=>none:Z8 Nat) with
    | none=>none
    | some l=>some (l,h,none))=_
 rw[qT0 h2]
 show (match (match Nat.ble l h with | true => some l | false => none : Z8 Nat) with
       | none=>none
       | some l=>some (l,h,none))=_
 rw[qT0 h1]
theorem eJ0 {len top l h:Nat}(h2:¬ h≤top):bounds len top none (some (.int .i64 h)) (some (.int .i64 l))=none:=by
 show (match (match Nat.ble h top with | true => some h | false => none : Z8 Nat) with
   | none=>none
   | some h=>match (match Nat.ble l h with | true=>some l | false=>none:Z8 Nat) with
    | none=>none
    | some l=>some (l,h,none))=_
 rw[ble_f h2]
theorem addM (b o k:Nat):(⟨b,o,none⟩:Addr).add k=⟨b,o+k,none⟩:=addr_add _ _ _
structure RowM (h:jB)(b L n:Nat)(full:List Z6):Prop where
 c:cells h b=some (full,49,true)
 len:full.length=L*4
 le:n≤L
 u:L<100000000000000
theorem RowM.cond {h:jB}{b L n:Nat}{full:List Z6}(r:RowM h b L n full):(Nat.beq 49 49&&Nat.ble UC UC&&Nat.beq 0 ((UC-UC)*4)&&Nat.blt 0 4&&Nat.ble (0+n*4) full.length&&Nat.blt n U)=true:=by
 have h1:=r.len
 have h2:=r.le
 have h3:=r.u
 rw[Nat.sub_self,Nat.zero_mul,qT0 (show UC≤UC from Z3 _),qT0 (show 0+n*4≤full.length by omega),zA0 (show n<U by unfold U;omega)]
 rfl
theorem RowM.cond0 {h:jB}{b L n:Nat}{full:List Z6}(r:RowM h b L n full):(Nat.beq 49 49&&Nat.ble UC UC&&Nat.beq 0 ((UC-UC)*4)&&Nat.blt 0 4&&Nat.ble (n*4) full.length&&Nat.blt n U)=true:=by
 have:=r.cond
 rwa [Nat.zero_add] at this
theorem cR0 (b n:Nat)(lo hi mx:Z8 Z6):kC prog 36 (some ⟨b,0,none⟩) n UC lo hi mx=none:=by
 unfold kC
 simp only[u36,s49,qR1 (show ¬ UC<UC by omega)]
theorem sl_mx {h:jB}{b L n:Nat}{full:List Z6}(r:RowM h b L n full){i j:Nat}(h1:i≤j)(h2:j≤n)(h3:i<n) :
  slV prog 36 (.slice (some ⟨b,0,none⟩) n UC) (some (.int .i64 i)) (some (.int .i64 j)) (some (.int .i64 n)) h=some (.slice (some ⟨b,i*4,none⟩) (j-i) (n-i)):=by
 simp only[slV,cR0,kB,u36,s49,r.c,r.cond0,oC0 (len:=n) h1 h2 (Z3 n),sE1 (show ¬ n=i by omega),addM,Nat.zero_add]
theorem nN1 {h:jB}{b L n:Nat}{full:List Z6}(r:RowM h b L n full){i:Nat}(h1:i≤n)(h3:0<n) :
  slV prog 36 (.slice (some ⟨b,0,none⟩) n UC) none (some (.int .i64 i)) none h=some (.slice (some ⟨b,0,none⟩) i UC):=by
 simp only[slV,cR0,kB,u36,s49,r.c,r.cond,kF0 (len:=n) h1,zA0 h3,addM,Nat.zero_mul,Nat.add_zero,Nat.sub_zero]
theorem nM1 {h:jB}{b L n:Nat}{full:List Z6}(r:RowM h b L n full){j:Nat}(h1:j<n) :
  slV prog 36 (.slice (some ⟨b,0,none⟩) n UC) (some (.int .i64 j)) none none h=some (.slice (some ⟨b,j*4,none⟩) (n-j) (UC+j)):=by
 simp only[slV,cR0,kB,u36,s49,r.c,r.cond0,uE0 (len:=n) (top:=n) (Nat.le_of_lt h1),zA0 h1,addM,Nat.zero_add]
theorem bB1 {h:jB}{b L n:Nat}{full:List Z6}(r:RowM h b L n full) :
  slV prog 36 (.slice (some ⟨b,0,none⟩) n UC) (some (.int .i64 n)) none none h=none∧tailV prog 36 (.slice (some ⟨b,0,none⟩) n UC) (some (.int .i64 n)) none none h=some (.slice (some ⟨b,0,none⟩) 0 0,.slice (some ⟨b,0+n*4,none⟩) 0 (UC+n)):=by
 have hb:bounds n n none none (some (.int .i64 (n:Int)))=some (n,n,none):=uE0 (Z3 _)
 refine ⟨?_,?_⟩
 ·simp only[slV,cR0,kB,u36,s49,r.c,r.cond,hb,qR1 (show ¬ n<n by omega),zG0 hb]
 ·have h1:=r.len
  have h2:=r.le
  have h3:=r.u
  simp only[tailV,u36,s49,r.c,hb]
  rw[if_pos ⟨trivial,Z3 _,Z0,by decide,Z0,trivial,trivial,by unfold U;omega⟩]
theorem cZ1 {h:jB}{b L n:Nat}{full:List Z6}(r:RowM h b L (n+1) full) :
  slV prog 36 (.slice (some ⟨b,0,none⟩) n UC) (some (.int .i64 n)) (some (.int .i64 ((n+1:Nat):Int))) none h=some (.slice (some ⟨b,n*4,none⟩) 1 (UC+n)):=by
 have r':RowM h b L n full:=⟨r.c,r.len,by have:=r.le;omega,r.u⟩
 have h2:=r.le
 have h3:=r.u
 have hav:Nat.div (full.length-0) 4=L:=by rw[r.len];show (L*4-0) / 4=L;omega
 have hc:(Nat.beq 49 49&&Nat.ble UC UC&&Nat.beq 0 ((UC-UC)*4)&&Nat.blt 0 4&&Nat.ble (n*4) full.length&&Nat.blt L U)=true:=by
  have h1:=r.len
  rw[Nat.sub_self,Nat.zero_mul,qT0 (show UC≤UC from Z3 _),qT0 (show n*4≤full.length by omega),zA0 (show L<U by unfold U;omega)]
  rfl
 simp only[slV,cR0,kB,u36,s49,r.c,r'.cond0,eJ0 (len:=n) (l:=n) (show ¬ n+1≤n by omega),gS,hav,hc,qP1 (len:=n) (show n≤n+1 by omega) h2,zA0 (show n<n+1 by omega),zA0 (show n<L by omega),Bool.and_self,addM,Nat.zero_add,Nat.add_sub_cancel_left]
end
end Go.Proofs.Ytejgmoenmbjidaa
namespace Go.Proofs.Ytejgmoenmbjidaa
open _root_.Go.Proofs.Try (prog)
open Go Go.RowKit Go.Ev
noncomputable section
set_option maxRecDepth 100000
variable (G:Nat) (h:jB)
theorem qY1 {h:jB}{b L N i m:Nat}{full src:List Z6}{x:Z6}(r:RowM h b L N full)(hlo:h.lo≤b)(hl:lenV x=some m)(hx:kL 4 m x h=some src)(hsl:src.length=m*4)(hi:i<L)(him:i+m≤L) :
  jE prog 36 36 (.slice (some ⟨b,0,none⟩) i UC) x h=some (.slice (some ⟨b,0,none⟩) (i+m) UC,h.put b (O (jJ full (i*4) src) 49 true)):=by
 obtain ⟨dx,t,z,hs,hxT,hni,hti,hz,hzz,hsz,hby,hn⟩:=yP0 bX
 rw[gN hs hxT hni hti hl]
 unfold wF0
 dsimp only
 rw[hsz,hx,qR1 (show ¬ UC<UC by omega)]
 dsimp only
 have h1:=r.len
 have hst:setN full (0+i*4) src=some (jJ full (i*4) src):=by
  rw[Nat.zero_add]
  unfold setN
  exact qE0 _ _ _ (by rw[hsl,h1];omega)
 have hin:zV0 49 4 i UC m (some ⟨b,0,none⟩) src h=some (.slice (some ⟨b,0,none⟩) (i+m) UC,h.put b (O (jJ full (i*4) src) 49 true)):=by
  unfold zV0
  dsimp only
  rw[r.c]
  dsimp only
  have hq:(Nat.beq 49 49&&Nat.ble UC UC&&Nat.beq 0 ((UC-UC)*4)&&Nat.blt 0 4&&Nat.blt (0+i*4) full.length&&Nat.ble (0+(i+m)*4) full.length&&Nat.ble h.lo b)=true:=by
   rw[Nat.sub_self,Nat.zero_mul,qT0 (show UC≤UC from Z3 _),zA0 (show 0+i*4<full.length by omega),qT0 (show 0+(i+m)*4≤full.length by omega),qT0 hlo]
   rfl
  rw[hq,hst]
  rfl
 rw[hin]
theorem rX1 {h:jB}{b L N n:Nat}{full:List Z6}(r:RowM h b L N full)(hlo:h.lo≤b)(hn:n<L) :
  kS prog 36 (.slice (some ⟨b,n*4,none⟩) 1 (UC+n)) h=some (.tuple #[],h.put b (O (jJ full (n*4) (msC ⟨false,⟨[],0,0⟩⟩)) 49 true)):=by
 have hz:zeroOf prog 49=some (.agg ⟨msC ⟨false,⟨[],0,0⟩⟩⟩):=Z7
 have h1:=r.len
 have hst:setN full (n*4) (msC ⟨false,⟨[],0,0⟩⟩)=some (jJ full (n*4) (msC ⟨false,⟨[],0,0⟩⟩)):=by
  unfold setN
  exact qE0 _ _ _ (by rw[qA,h1];omega)
 have hq:(qT (msC ⟨false,⟨[],0,0⟩⟩)&&(msC ⟨false,⟨[],0,0⟩⟩).all one&&Nat.ble h.lo b)=true:=by
  rw[qT0 hlo];rfl
 have hfl:(List.replicate (0+1) (Value.agg ⟨msC ⟨false,⟨[],0,0⟩⟩⟩).cells.toList).flatten=msC ⟨false,⟨[],0,0⟩⟩:=rfl
 have hcl:(Value.agg ⟨msC ⟨false,⟨[],0,0⟩⟩⟩).cells.toList=msC ⟨false,⟨[],0,0⟩⟩:=rfl
 unfold kS
 rw[u36]
 dsimp only
 unfold rW0
 rw[r.c,hz]
 dsimp only
 rw[hfl,hcl,hq,hst]
 rfl
theorem jS0 {cs xs:List Z6}{o:Nat}(h:o+xs.length≤cs.length):(jJ cs o xs).length=cs.length:=by
 simp only[jJ,List.length_append,List.length_take,List.length_drop]
 omega
theorem dX0 (n:Nat):∀ l:List Z6,jT n l=true↔∀ v∈l,fone n v=true
 | []=>⟨λ_ v hv=>(by cases hv),λ_=>rfl⟩
 | x :: l=>by
  rw[dB0,dX0 n l]
  simp
theorem zH0 {n:Nat}{cs xs:List Z6}{o:Nat}(h1:jT n cs=true)(h2:jT n xs=true):jT n (jJ cs o xs)=true:=by
 rw[dX0] at h1 h2 ⊢
 intro v hv
 simp only[jJ,List.mem_append] at hv
 rcases hv with (hv|hv)|hv
 ·exact h1 v (List.mem_of_mem_take hv)
 ·exact h2 v hv
 ·exact h1 v (List.mem_of_mem_drop hv)
theorem cT0 {cs xs:List Z6}{o k:Nat}(hk:k≤o)(ho:o≤cs.length):(jJ cs o xs).take k=cs.take k:=by
 rw[jJ,List.append_assoc,List.take_append_of_le_length (by rw[List.length_take];omega),List.take_take,Nat.min_eq_left hk]
theorem qC1 {α:Type}{f:α→List Z6}(hf:∀ x,(f x).length=4){l:List α}{full:List Z6}{i n:Nat}(hn:l.length=n+1)(hi:i≤n)(ht:full.take ((n+1)*4)=rw f l)(z:List Z6)(hl:(n+1)*4≤full.length) :
  (jJ (jJ full (i*4) (rw f (l.drop (i+1)))) (n*4) z).take (n*4)=rw f (l.eraseIdx i):=by
 have hs:(rw f (l.drop (i+1))).length=(n-i)*4:=by rw[qE hf,List.length_drop,hn];congr 1;omega
 have h1:(jJ full (i*4) (rw f (l.drop (i+1)))).length=full.length:=jS0 (by rw[hs];omega)
 rw[cT0 (Z3 _) (by rw[h1];omega),List.eraseIdx_eq_take_drop_succ,kW]
 have ht2:full.take (i*4)=rw f (l.take i):=by
  rw[← fD0 hf,← ht,List.take_take,Nat.min_eq_left Z0]
 rw[jJ,ht2,List.take_append_of_le_length (by rw[List.length_append,hs,qE hf,List.length_take,hn];omega),List.take_of_length_le (by rw[List.length_append,hs,qE hf,List.length_take,hn];omega)]
theorem kE1 {af:Z8 Addr}{cf:Nat}{fl:List Msg}(o:OwR h 49 4 af fl.length cf (rw msC fl))(hn:fl.length<1000000)(i:Nat)(hi:i<fl.length) :
  jG (pp G) 42 [.slice af fl.length cf,.int .i64 i,.int .i64 ((i:Int)+1)] h (λv h'=>v=.slice af (fl.eraseIdx i).length cf∧OwR h' 49 4 af (fl.eraseIdx i).length cf (rw msC (fl.eraseIdx i))∧jI h h' (blk af)∧h'.next=h.next):=by
 refine jG.fir4 (jW G) fir42 rfl rfl (lM1 ..) λhlo=>?_
 rw[dP1]
 rcases o.hat with ⟨_,h0,_⟩|⟨b,full,L,rfl,h1,h2,h3,rfl,h4,h5,h6,h7,hLb⟩
 ·omega
 have r:RowM h b L fl.length full:=⟨h3,h4,h5,hLb⟩
 generalize hfn:fl.length=N at *
 obtain ⟨n,rfl⟩:∃ n,N=n+1:=⟨N-1,Z0⟩
 have ei:((i+1:Nat):Int)=(i:Int)+1:=Z0
 have en:((n+1:Nat):Int)=(n:Int)+1:=Z0
 have e1:=sl_mx r (i:=i) (j:=i+1) Z0 Z0 hi
 have e2:=nN1 r (i:=i) Z0 Z0
 rw[ei,en] at e1
 have hne:¬ (i:Int)=(i:Int)+1:=Z0
 have her:(fl.eraseIdx i).length=n:=by rw[List.length_eraseIdx,if_pos Z0];omega
 have hol:(rw msC (fl.drop (i+1))).length=(n-i)*4:=by rw[qE qA,List.length_drop,hfn];congr 1;omega
 have hL4:=h4
 have hfl4:(n+1)*4≤full.length:=by rw[h4];omega
 have fin : ∀ h9 : jB, h9 = ((h.put b (O (jJ full (i * 4) (rw msC (fl.drop (i + 1)))) 49 true)).put b (O (jJ (jJ full (i * 4) (rw msC (fl.drop (i + 1)))) (n * 4) (msC ⟨false, ⟨[], 0, 0⟩⟩)) 49 true)) →
   OwR h9 49 4 (some ⟨b,0,none⟩) n UC (rw msC (fl.eraseIdx i))∧jI h h9 (blk (some ⟨b,0,none⟩))∧h9.next=h.next:=λh9 e9=>by
  have hs1:(jJ full (i*4) (rw msC (fl.drop (i+1)))).length=full.length:=jS0 (by rw[hol];omega)
  refine ⟨⟨by rw[qE qA,her],.inr ⟨b,_,L,rfl,by rw[e9];exact h1,by rw[e9];exact h2,by rw[e9];exact jO _ _ _ _,rfl,by rw[jS0 (by rw[hs1,qA];omega),hs1,h4],Z0,qC1 qA hfn Z0 h6 _ hfl4,by rw[e9];exact zH0 (zH0 h7 (qW _ (kT _) _)) (kT _ _),hLb⟩⟩,?_,by rw[e9];rfl⟩
  rw[e9]
  exact ((jI.refl h _).put'' _ _ λ_=>⟨0,none,rfl⟩).put'' _ _ λ_=>⟨0,none,rfl⟩
 rw[her]
 have r1:RowM (h.put b (O (jJ full (i*4) (rw msC (fl.drop (i+1)))) 49 true)) b L (n+1) (jJ full (i*4) (rw msC (fl.drop (i+1)))):=⟨jO _ _ _ _,by rw[jS0 (by rw[hol];omega),h4],r.le,r.u⟩
 have f2:=nN1 r1 (i:=i) Z0 Z0
 have f3:=cZ1 r1
 rw[en] at f3
 have f4:=rX1 r1 (by rw[qI];exact h1) (n:=n) (by have:=r.le;omega)
 obtain ⟨H,hH⟩:∃ H,H=h.put b (O (jJ full (i*4) (rw msC (fl.drop (i+1)))) 49 true):=⟨_,rfl⟩
 rw[← hH] at r1 f2 f3 f4 fin
 obtain ⟨H9,hH9⟩:∃ H9,H9=H.put b (O (jJ (jJ full (i*4) (rw msC (fl.drop (i+1)))) (n*4) (msC ⟨false,⟨[],0,0⟩⟩)) 49 true):=⟨_,rfl⟩
 rw[← hH9] at f4 fin
 have fin:=fin H9 rfl
 have hrL:=r.le
 by_cases hlast:i=n
 ·subst hlast
  obtain ⟨e3,e4⟩:=bB1 r
  obtain ⟨g3,g4⟩:=bB1 r1
  rw[en] at e3 e4 g3 g4
  rw[Nat.zero_add] at e4 g4
  have hd:fl.drop (i+1)=[]:=List.drop_of_length_le Z0
  have a1:=qY1 (i:=i) (m:=0) (src:=rw msC (fl.drop (i+1))) (x:=.slice (some ⟨b,0,none⟩) 0 0) r h1 rfl (by rw[hd];rfl) (by rw[hd];rfl) Z0 Z0
  have a2:=qY1 (i:=i) (m:=0) (src:=rw msC (fl.drop (i+1))) (x:=.slice (some ⟨b,(i+1)*4,none⟩) 0 (UC+(i+1))) r h1 rfl (by rw[hd];rfl) (by rw[hd];rfl) Z0 Z0
  rw[← hH,Nat.add_zero] at a1 a2
  clear hH hH9
  simp(disch:=first|omega|(apply id;simp only[push_cast];first|done|omega))only[push_cast,Nat.reduceAdd,Nat.reduceMul,Nat.reduceSub,Nat.reduceLT,Nat.reduceEqDiff,Nat.reduceLeDiff,Int.reduceToNat,reduceCtorEq,Int.reduceLT,Int.reduceLE,Int.reduceAdd,Int.reduceSub,Int.reduceMul,Int.reduceNeg,Int.reduceEq,e1,e2,hne,e3,e4,a1,a2,f2,f3,f4,g3,g4]
  exact fin
 ·have e3:=nM1 r (j:=i+1) Z0
  have g3:=nM1 r1 (j:=i+1) Z0
  rw[ei] at e3 g3
  have hsl:Sl h (some ⟨b,(i+1)*4,none⟩) (rw msC (fl.drop (i+1))):=by
   have:=(o.sl.sub ((i+1)*4) ((n-i)*4))
   rw[bN0 qA,List.take_of_length_le (by rw[hol];exact Z3 _)] at this
   simpa[Addr.add] using this
  have a1:=qY1 (i:=i) (m:=n+1-(i+1)) (src:=rw msC (fl.drop (i+1))) (x:=.slice (some ⟨b,(i+1)*4,none⟩) (n+1-(i+1)) (UC+(i+1))) r h1 rfl (Sl.src hsl (by rw[hol];congr 1;omega) Z1) (by rw[hol];congr 1;omega) Z0 Z0
  rw[← hH,show i+(n+1-(i+1))=n by omega] at a1
  clear hH hH9
  simp(disch:=first|omega|(apply id;simp only[push_cast];first|done|omega))only[push_cast,Nat.reduceAdd,Nat.reduceMul,Nat.reduceSub,Nat.reduceLT,Nat.reduceEqDiff,Nat.reduceLeDiff,Int.reduceToNat,reduceCtorEq,Int.reduceLT,Int.reduceLE,Int.reduceAdd,Int.reduceSub,Int.reduceMul,Int.reduceNeg,Int.reduceEq,e1,e2,hne,e3,a1,f2,f3,f4,g3]
  exact fin
end
end Go.Proofs.Ytejgmoenmbjidaa
namespace Go.Proofs.Ytejgmoenmbjidaa
open _root_.Go.Proofs.Try (prog)
open Go Go.RowKit Go.Ev
noncomputable section
set_option maxRecDepth 100000
variable (G:Nat) (h:jB)
theorem WAt.setF {h h2:jB}{q:Pl}{w:Wi}(a:WAt h q w){af:Z8 Addr}{cf:Nat}{fl:List Msg}(g:jI h h2 (λb=>b=q.p∨blk q.af b))(hc:cells h2 q.p=some (wcs { q with af:=af,cf:=cf } { w with fl:=fl },55,false))(o:OwR h2 49 4 af fl.length cf (rw msC fl))(hb:∀ b,blk af b→blk q.af b∨h.next≤b) :
  WAt h2 { q with af:=af,cf:=cf } { w with fl:=fl }:=by
 have hS:∀ b i,i≠0→i≠3→q.tg b i→¬ (b=q.p∨blk q.af b):=λb i h0 h2 ht e=>by
  rcases e with e|e
  ·exact h0 (a.sep b i 0 ht e)
  ·exact h2 (a.sep b i 3 ht e)
 refine ⟨hc,by rw[g.lo];exact a.lo,λb i ht=>?_,Sl.grew a.vs g λb hb _=>⟨a.lt b 1 hb,hS b 1 Z1 Z1 hb⟩,o,a.ap.grew g λb hb=>hS b 4 Z1 Z1 hb,a.op.grew g λb hb=>hS b 2 Z1 Z1 hb,a.kn.grew g λb hb=>hS b 5 Z1 Z1 hb,rP0 a hb⟩
 by_cases e:i=3
 ·subst e;exact o.lt b ht
 ·exact Nat.lt_of_lt_of_le (a.lt b i (eZ0 e ht)) g.next
def jX (w:Wi)(i:Int):Wi:=if 0≤i∧i<w.fl.length then { w with fl:=w.fl.eraseIdx i.toNat } else w
theorem bS1 {q:Pl}{w:Wi}(a:WAt h q w)(hn:w.fl.length<1000000)(i:Int) :
  jG (pp G) 17 [.pointer (some ⟨q.p,0,none⟩),.int .i64 i] h (λv h'=>v=.bool (decide (0≤i∧i<w.fl.length))∧WAt h' q (jX w i)∧jI h h' (λb=>b=q.p∨blk q.af b)∧h'.next=h.next):=by
 refine jG.fir4 (jW G) fir17 rfl rfl (lQ1 ..) λhlo=>?_
 rw[eO1]
 simp(disch:=first|omega|(apply id;simp only[push_cast];first|done|omega))only[push_cast,Nat.reduceAdd,Nat.reduceMul,Nat.reduceSub,Nat.reduceLT,Nat.reduceEqDiff,Nat.reduceLeDiff,Int.reduceToNat,reduceCtorEq,Int.reduceLT,Int.reduceLE,Int.reduceAdd,Int.reduceSub,Int.reduceMul,Int.reduceNeg,Int.reduceEq]
 refine jG.to (fZ0 G _ a i) ?_
 rintro _ _ ⟨rfl,e⟩
 rw[e]
 clear e
 unfold jX
 by_cases hi:0≤i∧i<w.fl.length
 ·rw[if_pos hi,decide_eq_true hi]
  have hc:=a.cell
  have hl:=a.lo
  unfold wcs at hc
  obtain ⟨j,rfl⟩:∃ j:Nat,i=(j:Int):=⟨i.toNat,Z0⟩
  obtain ⟨hi1,hi2⟩:=hi
  have hwr:IntKind.i64.wrap ((j:Int)+1)=(j:Int)+1:=wrap_i64 Z0 Z0
  simp(disch:=first|omega|(apply id;simp only[push_cast];first|done|omega))only[push_cast,Nat.reduceAdd,Nat.reduceMul,Nat.reduceSub,Nat.reduceLT,Nat.reduceEqDiff,Nat.reduceLeDiff,Int.reduceToNat,reduceCtorEq,Int.reduceLT,Int.reduceLE,Int.reduceAdd,Int.reduceSub,Int.reduceMul,Int.reduceNeg,Int.reduceEq,hc,hl,hwr]
  refine jG.to (kE1 G _ a.fl hn j Z0) ?_
  rintro _ h2 ⟨rfl,o2,g2,n2⟩
  have hne:¬ blk q.af q.p:=λhb=>by have:=a.sep q.p 3 0 hb rfl;omega
  have hc2:=g2.cellsE hc (bA a) hne
  have hl2:=g2.lo
  have hst:=kY (h:=h2) 1 3 (.slice q.af (w.fl.eraseIdx j).length q.cf) q.p [.slice q.av w.vs.length q.cv,.int .i64 w.ck,.map q.mo,.slice q.af w.fl.length q.cf,.slice q.aa w.ap.length q.ca,.map q.mq] 55 false rfl (o2.fone _ _) Z0 (by show 3+1≤6;omega)
  simp(disch:=first|omega|(apply id;simp only[push_cast];first|done|omega))only[push_cast,Nat.reduceAdd,Nat.reduceMul,Nat.reduceSub,Nat.reduceLT,Nat.reduceEqDiff,Nat.reduceLeDiff,Int.reduceToNat,reduceCtorEq,Int.reduceLT,Int.reduceLE,Int.reduceAdd,Int.reduceSub,Int.reduceMul,Int.reduceNeg,Int.reduceEq,hc2,hl2,hst]
  have g3:jI h (h2.put q.p (O [.slice q.av w.vs.length q.cv,.int .i64 w.ck,.map q.mo,.slice q.af (w.fl.eraseIdx j).length q.cf,.slice q.aa w.ap.length q.ca,.map q.mq] 55 false)) (λb=>b=q.p∨blk q.af b):=(g2.mono λb _ hb=>.inr hb).put'' _ _ λ_=>.inl rfl
  refine ⟨?_,g3,n2⟩
  rw[Z4]
  exact a.setF g3 (jO _ _ _ _) (o2.grew ((jI.refl h2 _).put'' (S:=λb=>b=q.p) _ _ λ_=>rfl) λb hb e=>hne (e ▸ hb)) λb hb=>.inl hb
 ·rw[if_neg hi,decide_eq_false hi]
  simp(disch:=first|omega|(apply id;simp only[push_cast];first|done|omega))only[push_cast,Nat.reduceAdd,Nat.reduceMul,Nat.reduceSub,Nat.reduceLT,Nat.reduceEqDiff,Nat.reduceLeDiff,Int.reduceToNat,reduceCtorEq,Int.reduceLT,Int.reduceLE,Int.reduceAdd,Int.reduceSub,Int.reduceMul,Int.reduceNeg,Int.reduceEq]
  exact ⟨a,jI.refl _ _⟩
end
end Go.Proofs.Ytejgmoenmbjidaa
namespace Go.Proofs.Ytejgmoenmbjidaa
open _root_.Go.Proofs.Try (prog)
open Go Go.RowKit Go.Ev
noncomputable section
set_option maxRecDepth 100000
variable (G:Nat) (h:jB)
def kF (k:Int):List Evt→Z8 Int
 | []=>none
 | e :: l=>if k=e.key then some e.val else kF k l
theorem fV0 (k:Int):∀ (l:List Evt) (i:Nat),bN k (apE i l)=(kF k l).map (Value.int .i64)
 | [],i=>rfl
 | e :: l,i=>by
  show (if k=e.key then some (Value.int .i64 e.val) else bN k (apE (i+1) l))=(if k=e.key then some e.val else kF k l).map (Value.int .i64)
  split
  ·rfl
  ·exact fV0 k l (i+1)
theorem uA1 (e:Evt):∀ (l:List Evt) (i:Nat),apE i (l++[e])=apE i l++[(e.key,.int .i64 e.val,i+l.length)]
 | [],i=>rfl
 | x :: l,i=>by
  show (x.key,_,i) :: apE (i+1) (l++[e])=_
  rw[uA1 e l (i+1),List.length_cons,show i+1+l.length=i+(l.length+1) by omega]
  rfl
theorem MapK.one {h:jB}{r:Nat}{kp:List Evt}{e:Evt}(hr:r<h.next)(hm:mapOf h r=some (ME (putM e.key (.int .i64 e.val) kp.length (apE 0 kp)),wZ0 e.key kp.length (apE 0 kp)))(hk:kF e.key kp=none):MapK h (some r) (kp++[e]):=by
 have hn:bN e.key (apE 0 kp)=none:=by rw[fV0,hk];rfl
 obtain ⟨h1,h2⟩:=lH0 (v:=.int .i64 e.val) (c:=kp.length) hn
 rw[h1,h2] at hm
 refine ⟨.inr ⟨r,rfl,hr,?_⟩⟩
 rw[uA1,Nat.zero_add,List.length_append]
 exact hm
theorem tg_k {q:Pl}{mq:Z8 Nat}{b i:Nat}(hi:i≠5)(ht:({ q with mq:=mq }:Pl).tg b i):q.tg b i:=by
 rcases i with _|_|_|_|_|_|i
 ·exact ht
 ·exact ht
 ·exact ht
 ·exact ht
 ·exact ht
 ·exact absurd rfl hi
 ·exact ht
theorem WAt.setK {h h2:jB}{q:Pl}{w:Wi}(a:WAt h q w){mq:Z8 Nat}{kp:List Evt}(g:jI h h2 (λb=>b=q.p∨q.mq=some b))(hc:cells h2 q.p=some (wcs { q with mq:=mq } w,55,false))(m:MapK h2 mq kp)(hb:∀ b,mq=some b→q.mq=some b∨h.next≤b) :
  WAt h2 { q with mq:=mq } { w with kp:=kp }:=by
 have hS:∀ b i,i≠0→i≠5→q.tg b i→¬ (b=q.p∨q.mq=some b):=λb i h0 h2 ht e=>by
  rcases e with e|e
  ·exact h0 (a.sep b i 0 ht e)
  ·exact h2 (a.sep b i 5 ht e)
 have key:∀ b i,i≠5→({ q with mq:=mq }:Pl).tg b i→q.tg b i∧b<h.next:=λb i hi ht=>⟨tg_k hi ht,a.lt b i (tg_k hi ht)⟩
 refine ⟨hc,by rw[g.lo];exact a.lo,λb i ht=>?_,Sl.grew a.vs g λb hb _=>⟨a.lt b 1 hb,hS b 1 Z1 Z1 hb⟩,a.fl.grew g λb hb=>hS b 3 Z1 Z1 hb,a.ap.grew g λb hb=>hS b 4 Z1 Z1 hb,a.op.grew g λb hb=>hS b 2 Z1 Z1 hb,m,λb i j hi hj=>?_⟩
 ·by_cases e:i=5
  ·subst e;exact m.lt b ht
  ·exact Nat.lt_of_lt_of_le (key b i e ht).2 g.next
 ·by_cases ei:i=5
  ·by_cases ej:j=5
   ·rw[ei,ej]
   ·subst ei
    obtain ⟨k1,k2⟩:=key b j ej hj
    rcases hb b hi with h1|h1
    ·exact a.sep b 5 j h1 k1
    ·omega
  ·by_cases ej:j=5
   ·subst ej
    obtain ⟨k1,k2⟩:=key b i ei hi
    rcases hb b hj with h1|h1
    ·exact a.sep b i 5 k1 h1
    ·omega
   ·exact a.sep b i j (key b i ei hi).1 (key b j ej hj).1
theorem eZ1 {q:Pl}{w:Wi}(a:WAt h q w)(e:Evt)(hk:kF e.key w.kp=none) :
  jG (pp G) 50 [.pointer (some ⟨q.p,5,none⟩),.int .i64 e.key,.int .i64 e.val] h (λv h'=>v=.tuple #[]∧∃ mq,WAt h' { q with mq:=mq } { w with kp:=w.kp++[e] }∧jI h h' q.B∧∀ b,mq=some b→q.mq=some b∨h.next≤b):=by
 refine jG.fir4 (jW G) fir50 rfl rfl (uL1 ..) λhlo=>?_
 rw[dH1]
 have hc:=a.cell
 have hl:=a.lo
 have hlt:=bA a
 unfold wcs at hc
 rcases a.kn.has with ⟨e1,e2⟩|⟨r,e1,e2,e3⟩
 ·rw[e1] at hc
  have hc2:=(jI.add h (MO [] 0) (λ_=>False)).cellsE hc hlt λh=>h
  have hm1:mapOf ((h.add (MO [] 0)).put q.p (O [.slice q.av w.vs.length q.cv,.int .i64 w.ck,.map q.mo,.slice q.af w.fl.length q.cf,.slice q.aa w.ap.length q.ca,.map (some h.next)] 55 false)) h.next=some (ME (apE 0 []),0):=by
   rw[kW0 Z0]
   exact kY0 rfl hlo
  have hset:=uV0 mp53 hm1 e.key (.int .i64 e.val) rfl
  simp(disch:=first|omega|(apply id;simp only[push_cast];first|done|omega))only[push_cast,Nat.reduceAdd,Nat.reduceMul,Nat.reduceSub,Nat.reduceLT,Nat.reduceEqDiff,Nat.reduceLeDiff,Int.reduceToNat,reduceCtorEq,Int.reduceLT,Int.reduceLE,Int.reduceAdd,Int.reduceSub,Int.reduceMul,Int.reduceNeg,Int.reduceEq,hc,hl,sG0 mp53,hc2,hset]
  have g:jI h (((h.add (MO [] 0)).put q.p (O [.slice q.av w.vs.length q.cv,.int .i64 w.ck,.map q.mo,.slice q.af w.fl.length q.cf,.slice q.aa w.ap.length q.ca,.map (some h.next)] 55 false)).put h.next (MO (putM e.key (.int .i64 e.val) 0 (apE 0 [])) (wZ0 e.key 0 (apE 0 [])))) (λb=>b=q.p∨q.mq=some b):=(((jI.refl h _).add' _).put'' _ _ λ_=>.inl rfl).put' _ _ (Z3 _)
  refine ⟨some h.next,a.setK (kp:=w.kp++[e]) g ?_ (MapK.one (by simp only[jN,jH];omega) ?_ hk) λb hb=>?_,?_,λb hb=>?_⟩
  ·rw[qH _ _ _ Z0,jO];rfl
  ·rw[e2];exact kM (by simp only[qI,jS];omega)
  ·cases hb;exact .inr (Z3 _)
  ·exact g.mono λb _ hb=>hb.elim (λh=>⟨0,h⟩) λh=>⟨5,h⟩
  ·cases hb;exact .inr (Z3 _)
 ·have hrp:r≠q.p:=λe=>by have:=a.sep r 5 0 e1 e;omega
  have hc':cells h q.p=some (wcs { q with mq:=some r } w,55,false):=by rw[a.cell];unfold wcs;rw[e1]
  rw[e1] at hc
  have hset:=uV0 mp53 e3 e.key (.int .i64 e.val) rfl
  simp(disch:=first|omega|(apply id;simp only[push_cast];first|done|omega))only[push_cast,Nat.reduceAdd,Nat.reduceMul,Nat.reduceSub,Nat.reduceLT,Nat.reduceEqDiff,Nat.reduceLeDiff,Int.reduceToNat,reduceCtorEq,Int.reduceLT,Int.reduceLE,Int.reduceAdd,Int.reduceSub,Int.reduceMul,Int.reduceNeg,Int.reduceEq,hc,hl,hset]
  have g:jI h (h.put r (MO (putM e.key (.int .i64 e.val) w.kp.length (apE 0 w.kp)) (wZ0 e.key w.kp.length (apE 0 w.kp)))) (λb=>b=q.p∨q.mq=some b):=(jI.refl h _).put'' _ _ λ_=>.inr e1
  refine ⟨some r,a.setK (kp:=w.kp++[e]) g ?_ (MapK.one (by rw[jN];exact e2) (kM (uA0 e3)) hk) λb hb=>.inl (e1.trans hb),?_,λb hb=>.inl (e1.trans hb)⟩
  ·rw[qH _ _ _ (Ne.symm hrp)];exact hc'
  ·exact g.mono λb _ hb=>hb.elim (λh=>⟨0,h⟩) λh=>⟨5,h⟩
end
end Go.Proofs.Ytejgmoenmbjidaa
namespace Go.Proofs.Ytejgmoenmbjidaa
open _root_.Go.Proofs.Try (prog)
open Go Go.RowKit Go.Ev
noncomputable section
set_option maxRecDepth 100000
variable (G:Nat) (h:jB)
theorem cV1 {q:Pl}{aa:Z8 Addr}{ca b i:Nat}(hi:i≠4)(ht:({ q with aa:=aa,ca:=ca }:Pl).tg b i):q.tg b i:=by
 rcases i with _|_|_|_|_|_|i
 ·exact ht
 ·exact ht
 ·exact ht
 ·exact ht
 ·exact absurd rfl hi
 ·exact ht
 ·exact ht
theorem B_ap {h:jB}{q:Pl}{aa:Z8 Addr}{ca:Nat}(hb:∀ b,blk aa b→blk q.aa b∨h.next≤b):∀ b,({ q with aa:=aa,ca:=ca }:Pl).B b→q.B b∨h.next≤b:=λb ⟨i,hi⟩=>by
 by_cases e:i=4
 ·subst e;exact (hb b hi).imp (λh=>⟨4,h⟩) id
 ·exact .inl ⟨i,cV1 e hi⟩
theorem B_k {h:jB}{q:Pl}{mq:Z8 Nat}(hb:∀ b,mq=some b→q.mq=some b∨h.next≤b):∀ b,({ q with mq:=mq }:Pl).B b→q.B b∨h.next≤b:=λb ⟨i,hi⟩=>by
 by_cases e:i=5
 ·subst e;exact (hb b hi).imp (λh=>⟨5,h⟩) id
 ·exact .inl ⟨i,tg_k e hi⟩
theorem WAt.setA {h h2:jB}{q:Pl}{w:Wi}(a:WAt h q w){aa:Z8 Addr}{ca:Nat}{ap:List Evt}(g:jI h h2 (λb=>b=q.p∨blk q.aa b))(hc:cells h2 q.p=some (wcs { q with aa:=aa,ca:=ca } { w with ap:=ap },55,false))(o:OwR h2 31 3 aa ap.length ca (rw evC ap))(hb:∀ b,blk aa b→blk q.aa b∨h.next≤b) :
  WAt h2 { q with aa:=aa,ca:=ca } { w with ap:=ap }:=by
 have hS:∀ b i,i≠0→i≠4→q.tg b i→¬ (b=q.p∨blk q.aa b):=λb i h0 h2 ht e=>by
  rcases e with e|e
  ·exact h0 (a.sep b i 0 ht e)
  ·exact h2 (a.sep b i 4 ht e)
 have key:∀ b i,i≠4→({ q with aa:=aa,ca:=ca }:Pl).tg b i→q.tg b i∧b<h.next:=λb i hi ht=>⟨cV1 hi ht,a.lt b i (cV1 hi ht)⟩
 refine ⟨hc,by rw[g.lo];exact a.lo,λb i ht=>?_,Sl.grew a.vs g λb hb _=>⟨a.lt b 1 hb,hS b 1 Z1 Z1 hb⟩,a.fl.grew g λb hb=>hS b 3 Z1 Z1 hb,o,a.op.grew g λb hb=>hS b 2 Z1 Z1 hb,a.kn.grew g λb hb=>hS b 5 Z1 Z1 hb,λb i j hi hj=>?_⟩
 ·by_cases e:i=4
  ·subst e;exact o.lt b ht
  ·exact Nat.lt_of_lt_of_le (key b i e ht).2 g.next
 ·by_cases ei:i=4
  ·by_cases ej:j=4
   ·rw[ei,ej]
   ·subst ei
    obtain ⟨k1,k2⟩:=key b j ej hj
    rcases hb b hi with h1|h1
    ·exact a.sep b 4 j h1 k1
    ·omega
  ·by_cases ej:j=4
   ·subst ej
    obtain ⟨k1,k2⟩:=key b i ei hi
    rcases hb b hj with h1|h1
    ·exact a.sep b i 4 k1 h1
    ·omega
   ·exact a.sep b i j (key b i ei hi).1 (key b j ej hj).1
theorem rowE (h:jB)(s:ByteArray)(k v:Int):bsC 1 31 h (wV0 (List.map (λi=>(i*3,3)) (List.range 1)) (List.replicate 1 [Value.string (Tx []),Value.int IntKind.i64 0,Value.int IntKind.i64 0]).flatten
  (.agg ⟨[.string s,.int .i64 k,.int .i64 v]⟩) [] (List.map (λi=>(i*3,3)) (List.range 1))[0]?)=some (.slice (some ⟨h.next,0,none⟩) 1 1,h.add (O [.string s,.int .i64 k,.int .i64 v] 31 false)):=Z7
theorem iV1 {h:jB}{q:Pl}{w:Wi}(a:WAt h q w)(hlo:h.lo≤h.next)(hn:w.ap.length<1000000)(m:Evt):∃ a' c' h2 h3,
  jE prog 39 39 (.slice q.aa w.ap.length q.ca) (.slice (some ⟨h.next,0,none⟩) 1 1) (h.add (O (evC m) 31 false))=some (.slice a' (w.ap.length+1) c',h2)∧cells h2 q.p=some (wcs q w,55,false)∧h2.lo=h.lo∧
  stC 1 4 (.slice a' (w.ap.length+1) c') h2 q.p (some (wcs q w,55,false))=some (undef,h3)∧WAt h3 { q with aa:=a',ca:=c' } { w with ap:=w.ap++[m] }∧jI h h3 q.B∧(∀ b,blk a' b→blk q.aa b∨h.next≤b)∧h.next+1≤h2.next∧jI (h.add (O (evC m) 31 false)) h2 (blk q.aa):=by
 have hg1:jI h (h.add (O (evC m) 31 false)) (λ_=>False):=jI.add h _ _
 have hc1:=hg1.cellsE a.cell (bA a) (λh=>h)
 have a1:=a.grew hg1 λ_ _ h=>h
 have hl:=a.lo
 have hn1:(h.add (O (evC m) 31 false)).next=h.next+1:=jH _
 have hl1:(h.add (O (evC m) 31 false)).lo=h.lo:=jS _
 have hs1:Sl (h.add (O (evC m) 31 false)) (some ⟨h.next,0,none⟩) (evC m):=Sl.row (jP _ _ _ _ rfl) Z0
 have hb1:(w.ap.length+1)*32≤140737488355328∧(w.ap.length+1)<100000000000000:=by constructor<;>omega
 obtain ⟨a',c',h2,e2,o2,g2,b2⟩:=bO0 (P:=prog) bW a1.ap Z0 (x:=.slice (some ⟨h.next,0,none⟩) 1 1) rfl (Sl.src hs1 (bH _) Z1) (bH _) (kD0 _ _) hb1
 have hc2:=g2.cellsE hc1 (by have:=bA a;omega) (λhb=>by have:=a.sep q.p 4 0 hb rfl;omega)
 have hl2:h2.lo=h.lo:=g2.lo.trans (jS _)
 have hst:=kY (h:=h2) 1 4 (.slice a' (w.ap.length+1) c') q.p (wcs q w) 55 false rfl (o2.fone _ _) Z0 (by show 4+1≤6;omega)
 have hn2:=g2.next
 have b2':∀ b,blk a' b→blk q.aa b∨h.next≤b:=λb hb=>(b2 b hb).imp id λh=>by omega
 refine ⟨a',c',h2,_,e2,hc2,hl2,hst,?_⟩
 have g3:jI h2 (h2.put q.p (O (jJ (wcs q w) 4 (Value.slice a' (w.ap.length+1) c').cells.toList) 55 false)) (λb=>b=q.p):=(jI.refl h2 _).put'' _ _ λ_=>rfl
 have hp2:∀ b,blk a' b→b≠q.p:=λb hb e=>by
  rcases b2' b hb with h1|h1
  ·have:=a.sep b 4 0 h1 e;omega
  ·have:=bA a;omega
 have ga:jI h (h2.put q.p (O (jJ (wcs q w) 4 (Value.slice a' (w.ap.length+1) c').cells.toList) 55 false)) (λb=>b=q.p∨blk q.aa b):=((jI.mono hg1 (T:=λb=>b=q.p∨blk q.aa b) λ_ _ h=>h.elim).tr' g2 λb _ hb=>.inr hb).tr' g3 λb _ hb=>.inl hb
 refine ⟨a.setA ga ?_ ?_ b2',ga.mono λb _ hb=>hb.elim (λh=>⟨0,h⟩) λh=>⟨4,h⟩,b2',Z0,g2⟩
 ·rw[jO]
  unfold wcs
  rw[List.length_append]
  rfl
 ·rw[List.length_append,kW]
  exact (o2.grew g3 λb hb=>hp2 b hb)
theorem mO0 {h:jB}{q:Pl}{w:Wi}(a:WAt h q w)(hlo:h.lo≤h.next)(hn:w.ap.length<1000000)(e:Evt){bx:Nat}(hb:cells h bx=some (evC e,31,false))(hb1:h.lo≤bx)(hb2:bx<h.next)(hb3:¬ q.B bx)(hk:kF e.key w.kp=none)(R:Z6→jB→Prop)(hR:∀ h',Post h q { w with ap:=w.ap++[e],kp:=w.kp++[e] } h'→R (.int .i64 e.val) h')(x1 x2 x4 x5 x6 x7 x8 x9 xA xB xC xD xE xF xG xH xI xJ xK xL xM xN xO xP xQ xR xS xU xV xW xX xY xZ yA yB yC yD yE yF yG yH yI yJ yK yL yM yN yO yP yQ yR yS yT yU yV yW yX yY:Z6) :
  vc3 (pp G) none bY0 ⟨(F60 (.pointer (some ⟨q.p,0,none⟩)) x1 x2 (.pointer (some ⟨bx,0,none⟩)) x4 x5 x6 x7 x8 x9 xA xB xC xD xE xF xG xH xI xJ xK xL xM xN xO xP xQ xR xS xU xV xW xX xY xZ yA yB yC yD yE yF yG yH yI yJ yK yL yM yN yO yP yQ yR yS yT yU yV yW yX yY),[],h⟩ (@kR ⟨jZ prog [(.tmp 4)] R⟩):=by
 rw[nE0]
 have hc:=a.cell
 have hl:=a.lo
 obtain ⟨a',c',h2,h3,p1,p2,p3,p4,p5,p6,p7,p8,p9⟩:=iV1 a hlo hn e
 have hg1:Gr h (h.add (O (evC e) 31 false)):=jI.add h _ _
 have cc:=Gr.cells hg1 a.cell (bA a)
 have cb:=Gr.cells hg1 hb hb2
 have cb2:=p9.cellsE cb (by rw[jH];omega) λh=>hb3 ⟨4,h⟩
 have cb3:=p6.cellsE hb hb2 hb3
 have l3:=p6.lo
 unfold wcs at hc cc p2 p4
 unfold evC at hb cb cb2 cb3 p1 cc
 simp(disch:=first|omega|(apply id;simp only[push_cast];first|done|omega))only[push_cast,Nat.reduceAdd,Nat.reduceMul,Nat.reduceSub,Nat.reduceLT,Nat.reduceEqDiff,Nat.reduceLeDiff,Int.reduceToNat,reduceCtorEq,Int.reduceLT,Int.reduceLE,Int.reduceAdd,Int.reduceSub,Int.reduceMul,Int.reduceNeg,Int.reduceEq,hc,hl,hb,hb1,rowE,p1,p2,p3,p4,cc,cb,cb2,cb3,l3]
 refine jG.to (eZ1 G _ p5 e hk) ?_
 rintro _ h4 ⟨rfl,mq,a5,g5,b5⟩
 have hB3:¬ ({ q with aa:=a',ca:=c' }:Pl).B bx:=λh=>(B_ap p7 bx h).elim hb3 λh=>by omega
 have n3:=p6.next
 have cb4:=g5.cellsE cb3 Z0 hB3
 have l4:=g5.lo
 simp(disch:=first|omega|(apply id;simp only[push_cast];first|done|omega))only[push_cast,Nat.reduceAdd,Nat.reduceMul,Nat.reduceSub,Nat.reduceLT,Nat.reduceEqDiff,Nat.reduceLeDiff,Int.reduceToNat,reduceCtorEq,Int.reduceLT,Int.reduceLE,Int.reduceAdd,Int.reduceSub,Int.reduceMul,Int.reduceNeg,Int.reduceEq,cb4,l4,l3,hb1]
 refine hR h4 ⟨⟨{ ({ q with aa:=a',ca:=c' }:Pl) with mq:=mq },rfl,a5,λb hb=>?_⟩,p6.tr' g5 λb hlt hb=>(B_ap p7 b hb).elim id λh=>by omega⟩
 rcases B_k (h:=h3) (q:={ q with aa:=a',ca:=c' }) b5 b hb with h1|h1
 ·exact B_ap p7 b h1
 ·exact .inr Z0
theorem oP1 {h:jB}{mk:Z8 Nat}{ap:List Evt}(m:MapK h mk ap)(k:Int)(ok:Zb):qG prog 53 (.map mk) (.int .i64 k) ok h=some (okV2 ok (.int .i64 ((kF k ap).getD 0)) (kF k ap).isSome):=by
 rcases m.has with ⟨rfl,rfl⟩|⟨r,rfl,e2,e3⟩
 ·exact look_nil mp53 k ok
 ·rw[dH0 mp53 e3 k ok,fV0]
  cases kF k ap<;>rfl
def jY (w:Wi)(e:Evt):Int×Wi:=match kF e.key w.kp with
 | some v=>(v,w)
 | none=>(if w.ap.length<w.vs.length then w.vs.getD w.ap.length 0 else e.val,{ w with ap:=w.ap++[{ e with val:=if w.ap.length<w.vs.length then w.vs.getD w.ap.length 0 else e.val }],kp:=w.kp++[{ e with val:=if w.ap.length<w.vs.length then w.vs.getD w.ap.length 0 else e.val }] })
theorem iU1 {q:Pl}{w:Wi}(a:WAt h q w)(hn:w.ap.length<1000000)(e:Evt) :
  jG (pp G) 39 [.pointer (some ⟨q.p,0,none⟩),.agg ⟨evC e⟩] h (λv h'=>v=.int .i64 (jY w e).1∧Post h q (jY w e).2 h'):=by
 refine jG.fir4 (jW G) fir39 rfl rfl (lF1 ..) λhlo=>?_
 rw[dS1]
 have hg1:Gr h (h.add (O (evC e) 31 false)):=jI.add h _ _
 have a1:=a.grew hg1 λ_ _ h=>h
 have hc:=a1.cell
 have hl:=a.lo
 have hlk:=oP1 a1.kn e.key true
 have hB:¬ q.B h.next:=λ⟨i,hi⟩=>by have:=a.lt _ i hi;omega
 have cE:=jP (h:=h) (evC e) 31 false h.next rfl
 unfold wcs at hc
 cases hk:kF e.key w.kp with
 | some v=>
  rw[hk] at hlk
  rw[show jY w e=(v,w) by unfold jY;rw[hk]]
  unfold evC at hc hlk cE ⊢
  simp(disch:=first|omega|(apply id;simp only[push_cast];first|done|omega))only[push_cast,Nat.reduceAdd,Nat.reduceMul,Nat.reduceSub,Nat.reduceLT,Nat.reduceEqDiff,Nat.reduceLeDiff,Int.reduceToNat,reduceCtorEq,Int.reduceLT,Int.reduceLE,Int.reduceAdd,Int.reduceSub,Int.reduceMul,Int.reduceNeg,Int.reduceEq,hc,hl,hlk,cE,Option.isSome_some,Option.getD_some]
  exact ⟨⟨q,rfl,a1,λb hb=>.inl hb⟩,jI.mono hg1 λ_ _ h=>h.elim⟩
 | none=>
  rw[hk] at hlk
  by_cases hv:w.ap.length<w.vs.length
  ·rw[show jY w e=(w.vs.getD w.ap.length 0,{ w with ap:=w.ap++[{ e with val:=w.vs.getD w.ap.length 0 }],kp:=w.kp++[{ e with val:=w.vs.getD w.ap.length 0 }] }) by unfold jY;rw[hk];simp only[if_pos hv]]
   obtain ⟨b,off,hav,hld⟩:=a1.vs.load bJ (bW0 hv)
   rw[bG,bJ] at hld
   have hg2:=hg1.put' h.next (O (evC { e with val:=w.vs.getD w.ap.length 0 }) 31 false) (Z3 _)
   have fin:=λ(x1 x2 x4 x5 x6 x7 x8 x9 xA xB xC xD xE xF xG xH xI xJ xK xL xM xN xO xP xQ xR xS xU xV xW xX xY xZ yA yB yC yD yE yF yG yH yI yJ yK yL yM yN yO yP yQ yR yS yT yU yV yW yX yY:Z6)=>mO0 G (a.grew hg2 λ_ _ h=>h) (by simp only[qI,jS,jN,jH];omega) hn { e with val:=w.vs.getD w.ap.length 0 } (jO _ _ _ _) (by simp only[qI,jS];exact hlo) (by simp only[jN,jH];omega) hB hk (λv h'=>v=.int .i64 (w.vs.getD w.ap.length 0)∧Post h q { w with ap:=w.ap++[{ e with val:=w.vs.getD w.ap.length 0 }],kp:=w.kp++[{ e with val:=w.vs.getD w.ap.length 0 }] } h') (λh' p=>⟨rfl,⟨p.has.imp λ_ ⟨x,y,z⟩=>⟨x,y,λb hb=>(z b hb).imp id λh=>by simp only[jN,jH] at h;omega⟩,(jI.mono hg2 λ_ _ h=>h.elim).tr' p.gr λ_ _ h=>h⟩⟩) x1 x2 x4 x5 x6 x7 x8 x9 xA xB xC xD xE xF xG xH xI xJ xK xL xM xN xO xP xQ xR xS xU xV xW xX xY xZ yA yB yC yD yE yF yG yH yI yJ yK yL yM yN yO yP yQ yR yS yT yU yV yW yX yY
   unfold evC at hc hlk cE fin hld ⊢
   rw[hav] at hc
   rw[jS] at hld
   dsimp only at fin
   have hvi:(w.ap.length:Int)<w.vs.length:=Z0
   simp(disch:=first|omega|(apply id;simp only[push_cast];first|done|omega))only[push_cast,Nat.reduceAdd,Nat.reduceMul,Nat.reduceSub,Nat.reduceLT,Nat.reduceEqDiff,Nat.reduceLeDiff,Int.reduceToNat,reduceCtorEq,Int.reduceLT,Int.reduceLE,Int.reduceAdd,Int.reduceSub,Int.reduceMul,Int.reduceNeg,Int.reduceEq,hc,hl,hlk,cE,Option.isSome_none,Option.getD_none,hvi,Z4,hld,↓fin]
  ·rw[show jY w e=(e.val,{ w with ap:=w.ap++[e],kp:=w.kp++[e] }) by unfold jY;rw[hk];simp only[if_neg hv]]
   have fin:=λ(x1 x2 x4 x5 x6 x7 x8 x9 xA xB xC xD xE xF xG xH xI xJ xK xL xM xN xO xP xQ xR xS xU xV xW xX xY xZ yA yB yC yD yE yF yG yH yI yJ yK yL yM yN yO yP yQ yR yS yT yU yV yW yX yY:Z6)=>mO0 G a1 (by simp only[jS,jH];omega) hn e cE (by simp only[jS];exact hlo) (by simp only[jH];omega) hB hk (λv h'=>v=.int .i64 e.val∧Post h q { w with ap:=w.ap++[e],kp:=w.kp++[e] } h') (λh' p=>⟨rfl,⟨p.has.imp λ_ ⟨x,y,z⟩=>⟨x,y,λb hb=>(z b hb).imp id λh=>by simp only[jH] at h;omega⟩,(jI.mono hg1 λ_ _ h=>h.elim).tr' p.gr λ_ _ h=>h⟩⟩) x1 x2 x4 x5 x6 x7 x8 x9 xA xB xC xD xE xF xG xH xI xJ xK xL xM xN xO xP xQ xR xS xU xV xW xX xY xZ yA yB yC yD yE yF yG yH yI yJ yK yL yM yN yO yP yQ yR yS yT yU yV yW yX yY
   unfold evC at hc hlk cE fin ⊢
   have hvi:¬ (w.ap.length:Int)<w.vs.length:=Z0
   simp(disch:=first|omega|(apply id;simp only[push_cast];first|done|omega))only[push_cast,Nat.reduceAdd,Nat.reduceMul,Nat.reduceSub,Nat.reduceLT,Nat.reduceEqDiff,Nat.reduceLeDiff,Int.reduceToNat,reduceCtorEq,Int.reduceLT,Int.reduceLE,Int.reduceAdd,Int.reduceSub,Int.reduceMul,Int.reduceNeg,Int.reduceEq,hc,hl,hlk,cE,Option.isSome_none,Option.getD_none,hvi,↓fin]
end
end Go.Proofs.Ytejgmoenmbjidaa
namespace Go.Proofs.Ytejgmoenmbjidaa
open _root_.Go.Proofs.Try (prog)
open Go Go.RowKit Go.Ev
noncomputable section
set_option maxRecDepth 100000
variable (G:Nat) (h:jB)
theorem del_o {h:jB}{q:Pl}{w:Wi}(a:WAt h q w)(hd:(w.op.map (·.key)).Nodup)(k:Int):∃ h',uI0 prog 52 (.map q.mo) (.int .i64 k) h=some (.tuple #[],h')∧WAt h' q (uY w k)∧jI h h' (λb=>q.mo=some b)∧h'.next=h.next:=by
 rcases a.op.has with ⟨e1,e2⟩|⟨r,c,l,e1,e2,e3,e4,e5,e6⟩
 ·refine ⟨h,by rw[e1];exact qB1 mp52 k,?_,jI.refl _ _,rfl⟩
  unfold uY
  rw[e2]
  obtain ⟨vs,ck,op,fl,ap,kp⟩:=w
  subst e2
  exact a
 ·have hrp:r≠q.p:=λe=>by have:=a.sep r 2 0 e1 e;omega
  have g:jI h (h.put r (MO (delM k (l.map opE)) c)) (λb=>q.mo=some b):=(jI.refl h _).put'' _ _ λ_=>e1
  refine ⟨_,by rw[e1];exact mF0 mp52 e3 k,?_,g,rfl⟩
  exact a.setO (mo:=q.mo) (op:=delK k w.op) (g.mono λb _ hb=>.inr hb) (by rw[qH _ _ _ (Ne.symm hrp)];exact a.cell) (by rw[e1];exact MapO.del (h:=h) (by rw[jN];exact e2) (kM (uA0 e3)) e4 e5 e6 hd) λb hb=>.inl hb
def e0:Evt:=⟨[],0,0⟩
def jQ (w:Wi)(i:Int):(Evt×Zb)×Wi:=
 if 0≤i∧i<w.fl.length then match w.fl[i.toNat]? with
  | none=>((e0,false),w)
  | some m=>
   if m.back then if gJ m.e.key w.op then ((m.e,true),uY (jX w i) m.e.key) else ((e0,false),jX w i)
   else ((e0,false),{ (jY (jX w i) m.e).2 with fl:=(jY (jX w i) m.e).2.fl++[⟨true,{ m.e with val:=(jY (jX w i) m.e).1 }⟩] })
 else ((e0,false),w)
theorem qV1 (w:Wi)(e:Evt):(jY w e).2.fl=w.fl:=by
 unfold jY
 split<;>rfl
theorem jZ1 (w:Wi)(i:Int):(jX w i).fl.length≤w.fl.length:=by
 unfold jX
 split
 ·show (w.fl.eraseIdx _).length≤_
  rw[List.length_eraseIdx]
  split<;>omega
 ·exact Z3 _
theorem kD1 (w:Wi)(i:Int):(jX w i).ap=w.ap:=by
 unfold jX
 split<;>rfl
theorem kC1 (w:Wi)(i:Int):(jX w i).op=w.op:=by
 unfold jX
 split<;>rfl
theorem eG0 {q:Pl}{w:Wi}(a:WAt h q w)(hn:w.fl.length<1000000)(hna:w.ap.length<1000000)(hd:(w.op.map (·.key)).Nodup)(i:Int) :
  jG (pp G) 15 [.pointer (some ⟨q.p,0,none⟩),.int .i64 i] h (λv h'=>v=.tuple ⟨[.agg ⟨evC (jQ w i).1.1⟩,.bool (jQ w i).1.2]⟩∧Post h q (jQ w i).2 h'):=by
 refine jG.fir4 (jW G) fir15 rfl rfl (lE1 ..) λhlo=>?_
 rw[eQ1]
 have hg1:Gr h (h.add (O (evC e0) 31 false)):=jI.add h _ _
 have a1:=a.grew hg1 λ_ _ h=>h
 have c1:=jP (h:=h) (evC e0) 31 false h.next rfl
 have hc:=a1.cell
 have hl:=a.lo
 have hB:¬ q.B h.next:=λ⟨i,hi⟩=>by have:=a.lt _ i hi;omega
 have hB1:¬ q.B (h.next+1):=λ⟨i,hi⟩=>by have:=a.lt _ i hi;omega
 have hz:evC e0=[.string (Tx []),.int .i64 0,.int .i64 0]:=rfl
 unfold wcs at hc
 simp(disch:=first|omega|(apply id;simp only[push_cast];first|done|omega))only[push_cast,Nat.reduceAdd,Nat.reduceMul,Nat.reduceSub,Nat.reduceLT,Nat.reduceEqDiff,Nat.reduceLeDiff,Int.reduceToNat,reduceCtorEq,Int.reduceLT,Int.reduceLE,Int.reduceAdd,Int.reduceSub,Int.reduceMul,Int.reduceNeg,Int.reduceEq]
 refine jG.to (fZ0 G _ a1 i) ?_
 rintro _ _ ⟨rfl,e⟩
 rw[e]
 clear e
 by_cases hi:0≤i∧i<w.fl.length
 ·obtain ⟨x,hx⟩:∃ x,w.fl[i.toNat]?=some x:=⟨_,List.getElem?_eq_getElem Z0⟩
  rw[decide_eq_true hi]
  have hlen:=qE qA w.fl
  obtain ⟨b,off,haf,hld⟩:=a1.fl.sl.loadA (i:=i.toNat) jW0 Z1 (by rw[hlen];omega)
  rw[cY0 qA hx,bG,jW0,jS] at hld
  rw[haf] at hc
  obtain ⟨hi1,hi2⟩:=hi
  have hg2:=λ(x y:jV)=>(hg1.add' x).put' (h.next+1) y Z0
  obtain ⟨bk,⟨nm,key,val⟩⟩:=x
  rw[hz] at hc hld c1 hg2
  rw[hz]
  unfold msC evC at hld
  dsimp only at hld
  simp(disch:=first|omega|(apply id;simp only[push_cast];first|done|omega))only[push_cast,Nat.reduceAdd,Nat.reduceMul,Nat.reduceSub,Nat.reduceLT,Nat.reduceEqDiff,Nat.reduceLeDiff,Int.reduceToNat,reduceCtorEq,Int.reduceLT,Int.reduceLE,Int.reduceAdd,Int.reduceSub,Int.reduceMul,Int.reduceNeg,Int.reduceEq,hc,hl,hi1,hi2,hld]
  refine jG.to (bS1 G _ (a.grew (hg2 _ _) λ_ _ h=>h) hn i) ?_
  rintro _ h3 ⟨rfl,a3,g3,n3⟩
  have n3':h3.next=h.next+2:=by rw[n3];simp only[jN,jH]
  have nq:∀ b,h.next≤b→¬ (b=q.p∨blk q.af b):=λb hb e=>by
   rcases e with e|e
   ·have:=a.lt b 0 e;omega
   ·have:=a.lt b 3 e;omega
  have l3:h3.lo=h.lo:=by rw[g3.lo];simp only[qI,jS]
  have cm:=g3.cellsE (jO _ _ _ _) (by simp only[jN,jH];omega) (nq _ Z0)
  have cz:=g3.cellsE ((qH _ _ _ Z0).trans ((kN _ _ (by rw[jH];omega)).trans c1)) (by simp only[jN,jH];omega) (nq h.next (Z3 _))
  have g4:=λ(x y:jV)=>((Gr.refl h3).add' x).put' h3.next y (Z3 _)
  have cm4:=λ(x y:jV)=>Gr.cells (g4 x y) cm Z0
  have gall:jI h h3 (λb=>b=q.p∨blk q.af b):=(jI.mono (hg2 _ _) λ_ _ h=>h.elim).tr' g3 λ_ _ h=>h
  have hdr:(jX w i).op=w.op:=kC1 w i
  have gq:jI h h3 q.B:=gall.mono λb _ hb=>hb.elim (λh=>⟨0,h⟩) λh=>⟨3,h⟩
  have nB:∀ b,h.next≤b→¬ q.B b:=λb hb ⟨i,hi⟩=>by have:=a.lt b i hi;omega
  cases bk with
  | false=>
   rcases hA:jY (jX w i) ⟨nm,key,val⟩ with ⟨v,w5⟩
   rw[show jQ w i=((e0,false),{ w5 with fl:=w5.fl++[⟨true,⟨nm,key,v⟩⟩] }) by unfold jQ;rw[if_pos ⟨hi1,hi2⟩,hx];dsimp only;rw[if_neg Z1,hA]]
   simp(disch:=first|omega|(apply id;simp only[push_cast];first|done|omega))only[push_cast,Nat.reduceAdd,Nat.reduceMul,Nat.reduceSub,Nat.reduceLT,Nat.reduceEqDiff,Nat.reduceLeDiff,Int.reduceToNat,reduceCtorEq,Int.reduceLT,Int.reduceLE,Int.reduceAdd,Int.reduceSub,Int.reduceMul,Int.reduceNeg,Int.reduceEq,cm,l3,cm4]
   refine jG.to (iU1 G _ (a3.grew (g4 _ _) λ_ _ h=>h) (by rw[kD1];exact hna) ⟨nm,key,val⟩) ?_
   rintro _ h5 ⟨rfl,⟨q',hq,a5,b5⟩,g5⟩
   rw[hA] at a5 ⊢
   dsimp only at a5 ⊢
   have hf5:w5.fl.length<1000000:=by
    have h1:=qV1 (jX w i) ⟨nm,key,val⟩
    rw[hA] at h1
    have h2:=jZ1 w i
    rw[← h1] at h2
    exact Nat.lt_of_le_of_lt h2 hn
   simp only[jN,jH] at b5
   have n5:=g5.next
   simp only[jN,jH] at n5
   have l5:h5.lo=h.lo:=by rw[g5.lo];simp only[qI,jS];exact l3
   have cb5:=g5.cellsE (jO _ _ _ _) (by simp only[jN,jH];omega) (nB h3.next Z0)
   have cz5:=g5.cellsE (Gr.cells (g4 _ _) cz Z0) (by simp only[jN,jH];omega) (nB h.next (Z3 _))
   have g6:jI h5 (h5.put h3.next (O (evC ⟨nm,key,v⟩) 31 false)) (λb=>b=h3.next):=(jI.refl h5 _).put'' _ _ λ_=>rfl
   have a6:=a5.grew g6 λb hb e=>by
    rcases b5 b hb with h1|h1
    ·exact nB b Z0 h1
    ·omega
   have l6:=g6.lo.trans l5
   have cz6:=g6.cellsE cz5 Z0 Z0
   obtain ⟨a',c',h7,h8,p1,p2,p3,p4,p5,p6,p7,p8,p9⟩:=qX1 a6 (by rw[l6,jN];omega) hf5 ⟨true,⟨nm,key,v⟩⟩
   have gr7:Gr (h5.put h3.next (O (evC ⟨nm,key,v⟩) 31 false)) _:=jI.add _ (O (msC ⟨true,⟨nm,key,v⟩⟩) 49 false) _
   have c7:=Gr.cells gr7 a6.cell (bA a6)
   have cb7:=Gr.cells gr7 (jO _ _ _ _) (by rw[jN];omega)
   have c6:=a6.cell
   have cz8:=p6.cellsE cz6 (by rw[jN];omega) (λhb=>by
    rcases b5 _ hb with h1|h1
    ·exact nB h.next (Z3 _) h1
    ·omega)
   have l8:=p6.lo.trans l6
   unfold wcs at c6 c7 p2 p4
   simp only[msC,evC,qI] at c6 c7 p1 p9 cb7 cz8 l6 p3 p8 p6 cz6 l8
   rw[l5] at p3
   rw[← hq]
   simp only[jN] at p1
   simp(disch:=first|omega|(apply id;simp only[push_cast];first|done|omega))only[push_cast,Nat.reduceAdd,Nat.reduceMul,Nat.reduceSub,Nat.reduceLT,Nat.reduceEqDiff,Nat.reduceLeDiff,Int.reduceToNat,reduceCtorEq,Int.reduceLT,Int.reduceLE,Int.reduceAdd,Int.reduceSub,Int.reduceMul,Int.reduceNeg,Int.reduceEq,cb5,l5,c6,rowM,p1,p2,p3,p4,c7,cb7,cz8,l8,cz5]
   have n6:(h5.put h3.next (O [.string (Tx nm),.int .i64 key,.int .i64 v] 31 false)).next=h5.next:=jN _ _
   have hB8:∀ b,({ q' with af:=a',cf:=c' }:Pl).B b→q.B b∨h.next+3≤b:=λb hb=>by
    rcases B_fl p7 b hb with h1|h1
    ·exact (b5 b h1).imp id λh=>by omega
    ·exact .inr (by rw[jN] at h1;omega)
   have g8:jI h8 (h8.put h.next (O [.string (Tx []),.int .i64 0,.int .i64 0] 31 false)) (λb=>b=h.next):=(jI.refl h8 _).put'' _ _ λ_=>rfl
   refine ⟨rfl,⟨{ q' with af:=a',cf:=c' },hq,p5.grew g8 λb hb e=>?_,λb hb=>(hB8 b hb).imp id λh=>by omega⟩,?_⟩
   ·rcases hB8 b hb with h1|h1
    ·exact nB b Z0 h1
    ·omega
   ·exact ((((gq.tr' (g4 _ _) λ_ _ h=>h.elim).tr' g5 λ_ _ h=>h).tr' g6 λb _ e=>by omega).tr' p6 λb hlt hb=>(b5 b hb).elim id λh=>by omega).tr' g8 λb _ e=>by omega
  | true=>
   have a4:=a3.grew (g4 (O [.string (Tx []),.int .i64 0,.int .i64 0] 31 false) (O [.string (Tx nm),.int .i64 key,.int .i64 val] 31 false)) λ_ _ h=>h
   have g4':=g4 (O [.string (Tx []),.int .i64 0,.int .i64 0] 31 false) (O [.string (Tx nm),.int .i64 key,.int .i64 val] 31 false)
   have cb4:=jO (h:=h3.add (O [.string (Tx []),.int .i64 0,.int .i64 0] 31 false)) h3.next [.string (Tx nm),.int .i64 key,.int .i64 val] 31 false
   have n4:((h3.add (O [.string (Tx []),.int .i64 0,.int .i64 0] 31 false)).put h3.next (O [.string (Tx nm),.int .i64 key,.int .i64 val] 31 false)).next=h3.next+1:=by rw[jN,jH]
   have cz4:=Gr.cells g4' cz Z0
   have cq4:=a4.cell
   obtain ⟨o,hlk,ho⟩:=lR0 a4.op key true
   rw[hdr] at hlk ho
   have hmo:∀ r,q.mo=some r→r<h3.next+1∧¬ False:=λr hr=>⟨by have:=a.lt r 2 hr;omega,id⟩
   have l4:((h3.add (O [.string (Tx []),.int .i64 0,.int .i64 0] 31 false)).put h3.next (O [.string (Tx nm),.int .i64 key,.int .i64 val] 31 false)).lo=h.lo:=by simp only[qI,jS];exact l3
   have hD:jQ w i=if gJ key w.op then ((⟨nm,key,val⟩,true),uY (jX w i) key) else ((e0,false),jX w i):=by unfold jQ;rw[if_pos ⟨hi1,hi2⟩,hx];dsimp only;rw[if_pos rfl]
   simp(disch:=first|omega|(apply id;simp only[push_cast];first|done|omega))only[push_cast,Nat.reduceAdd,Nat.reduceMul,Nat.reduceSub,Nat.reduceLT,Nat.reduceEqDiff,Nat.reduceLeDiff,Int.reduceToNat,reduceCtorEq,Int.reduceLT,Int.reduceLE,Int.reduceAdd,Int.reduceSub,Int.reduceMul,Int.reduceNeg,Int.reduceEq,cm,l3,cm4]
   generalize (h3.add (O [.string (Tx []),.int .i64 0,.int .i64 0] 31 false)).put h3.next (O [.string (Tx nm),.int .i64 key,.int .i64 val] 31 false)=H4 at *
   rw[← n4] at hmo
   have gq4:jI h H4 q.B:=gq.tr' g4' λ_ _ h=>h.elim
   have g5:=λ(x:jV)=>(Gr.refl H4).add' x
   have g6:=λ(x y:jV)=>(g5 x).put' H4.next y (Z3 _)
   have k1:=λ(x:jV)=>qK0 (P:=prog) (t:=52) (g5 x) hmo (.int .i64 key) true
   have k2:=λ(x y:jV)=>qK0 (P:=prog) (t:=52) (g6 x y) hmo (.int .i64 key) true
   have cb5:=λ(x:jV)=>Gr.cells (g5 x) cb4 Z0
   have cb6:=λ(x y:jV)=>Gr.cells (g6 x y) cb4 Z0
   have cq5:=λ(x:jV)=>Gr.cells (g5 x) cq4 (bA a4)
   have cq6:=λ(x y:jV)=>Gr.cells (g6 x y) cq4 (bA a4)
   have cz6:=λ(x y:jV)=>Gr.cells (g6 x y) cz4 Z0
   unfold wcs at cq4 cq5 cq6
   unfold asV at hlk
   cases hk:gJ key w.op with
   | false=>
    rw[hk] at hlk hD
    rw[hD,if_neg Z1]
    simp(disch:=first|omega|(apply id;simp only[push_cast];first|done|omega))only[push_cast,Nat.reduceAdd,Nat.reduceMul,Nat.reduceSub,Nat.reduceLT,Nat.reduceEqDiff,Nat.reduceLeDiff,Int.reduceToNat,reduceCtorEq,Int.reduceLT,Int.reduceLE,Int.reduceAdd,Int.reduceSub,Int.reduceMul,Int.reduceNeg,Int.reduceEq,cq4,l4,hl,cb4,hlk,k1,k2,cb5,cb6,cq5,cq6,cz6]
    have g9:=(g6 (O [.string (Tx []),.int .i64 0,.int .i64 0] 65 false) (O [.string (Tx o.nm),.int .i64 o.time,.int .i64 o.wait] 65 false))
    have g8:=((jI.refl ((H4.add (O [.string (Tx []),.int .i64 0,.int .i64 0] 65 false)).put H4.next (O [.string (Tx o.nm),.int .i64 o.time,.int .i64 o.wait] 65 false)) (λb=>b=h.next)).put'' h.next (O [.string (Tx []),.int .i64 0,.int .i64 0] 31 false) λ_=>rfl)
    exact ⟨rfl,⟨q,rfl,(a4.grew g9 λ_ _ h=>h).grew g8 λb hb e=>nB b Z0 hb,λb hb=>.inl hb⟩,(gq4.tr' g9 λ_ _ h=>h.elim).tr' g8 λb _ e=>by omega⟩
   | true=>
    rw[hk] at hlk hD
    rw[hD,if_pos rfl]
    have a6:=λ(x y:jV)=>a4.grew (g6 x y) λ_ _ h=>h
    obtain ⟨h7,pd,a7,g7,n7⟩:=del_o (a6 (O [.string (Tx []),.int .i64 0,.int .i64 0] 65 false) (O [.string (Tx o.nm),.int .i64 o.time,.int .i64 o.wait] 65 false)) (by rw[hdr];exact hd) key
    have c7:=a7.cell
    have cb7:=g7.cellsE (cb6 _ _) (by rw[jN,jH];omega) (λhb=>nB _ Z0 ⟨2,hb⟩)
    have cz7:=g7.cellsE (cz6 _ _) (by rw[jN,jH];omega) (λhb=>nB _ Z0 ⟨2,hb⟩)
    have l7:=g7.lo.trans ((qI _ _).trans ((jS _).trans l4))
    unfold wcs uY at c7
    dsimp only at c7
    simp(disch:=first|omega|(apply id;simp only[push_cast];first|done|omega))only[push_cast,Nat.reduceAdd,Nat.reduceMul,Nat.reduceSub,Nat.reduceLT,Nat.reduceEqDiff,Nat.reduceLeDiff,Int.reduceToNat,reduceCtorEq,Int.reduceLT,Int.reduceLE,Int.reduceAdd,Int.reduceSub,Int.reduceMul,Int.reduceNeg,Int.reduceEq,cq4,l4,hl,cb4,hlk,k1,k2,cb5,cb6,cq5,cq6,cz6,pd,c7,cb7,cz7,l7]
    have g9:=(g6 (O [.string (Tx []),.int .i64 0,.int .i64 0] 65 false) (O [.string (Tx o.nm),.int .i64 o.time,.int .i64 o.wait] 65 false))
    have g8:=((jI.refl h7 (λb=>b=h.next)).put'' h.next (O [.string (Tx nm),.int .i64 key,.int .i64 val] 31 false) λ_=>rfl)
    exact ⟨rfl,⟨q,rfl,a7.grew g8 λb hb e=>nB b Z0 hb,λb hb=>.inl hb⟩,((gq4.tr' g9 λ_ _ h=>h.elim).tr' g7 λb _ e=>⟨2,e⟩).tr' g8 λb _ e=>by omega⟩
 ·rw[show jQ w i=((e0,false),w) by unfold jQ;rw[if_neg hi],decide_eq_false hi]
  have g2:=hg1.put' h.next (O (evC e0) 31 false) (Z3 _)
  rw[hz] at c1 g2 ⊢
  simp(disch:=first|omega|(apply id;simp only[push_cast];first|done|omega))only[push_cast,Nat.reduceAdd,Nat.reduceMul,Nat.reduceSub,Nat.reduceLT,Nat.reduceEqDiff,Nat.reduceLeDiff,Int.reduceToNat,reduceCtorEq,Int.reduceLT,Int.reduceLE,Int.reduceAdd,Int.reduceSub,Int.reduceMul,Int.reduceNeg,Int.reduceEq,c1]
  exact ⟨⟨q,rfl,a.grew g2 λ_ _ h=>h,λb hb=>.inl hb⟩,jI.mono g2 λ_ _ h=>h.elim⟩
end
end Go.Proofs.Ytejgmoenmbjidaa
