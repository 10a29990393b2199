/-
  A part of the proof: what the program's functions hand back,as theorems. No condition but those that each theorem names.
-/
import Derived.Test.YtgeakofgklcipaaDoorTd
import Derived.Test.YtgeakofgklcipaaDoorTe
import Derived.Test.YtgeakofgklcipaaDoorTa
import Derived.Test.YtgeakofgklcipaaDoorTb
set_option linter.unusedSimpArgs false
set_option linter.unusedVariables false
namespace Go.Proofs.YtgeakofgklcipaaDoor
open _root_.Go.Proofs.Tryd (prog)
open Go Go.RowKit Go.Ev Go.Dv
noncomputable section
set_option maxRecDepth 100000
theorem zE_given:kH (.mk 0 0 [] [])=false:=rfl
end
end Go.Proofs.YtgeakofgklcipaaDoor
namespace Go.Proofs.YtgeakofgklcipaaDoor
open _root_.Go.Proofs.Tryd (prog)
open Go Go.RowKit Go.Ev Go.Dv
noncomputable section
set_option maxRecDepth 100000
variable (G:Nat×Nat)
theorem in_f (n lo hi:Int):jI (pp G) H0 57 [.int .i64 n,.int .i64 lo,.int .i64 hi] (.bool (decide (lo≤n∧n<hi))):=by
 have hlo:H0.lo≤H0.next:=Nat.le_refl _;refine jI.cut (jK.fir4 (q:=qq) (jN G) fir57 (by kernel_rfl) rfl rfl (F15_arr ..) (show NGG≤H0.lo by rw[jY];decide) ?_);rw[sd_ir57]
 by_cases h1:lo≤n
 ·simp(disch:=first|omega|(apply id;simp only[push_cast];try omega))only[push_cast,simprocAttr,h1,true_and]
  exact .id rfl
 ·simp(disch:=first|omega|(apply id;simp only[push_cast];try omega))only[push_cast,simprocAttr,h1,false_and]
  exact .id rfl
def fA (k:Int):Bool:=decide (k=1∨k=2∨k=3∨k=4∨k=5∨k=6∨k=13∨k=14)
def fB (k:Int):Bool:=decide (k=6∨k=14)
def fN (k:Int):Bool:=decide (k=1∨k=14)
def fE (k:Int):Bool:=decide (k=2∨k=9)
def ofV (k:Int):Value:=.agg ⟨[.bool (fA k),.bool (fB k),.bool (fN k),.bool (fE k),.int .i64 (shL k)]⟩
theorem of_f (k:Int):jI (pp G) H0 33 [.int .i64 k] (ofV k):=by
 by_cases h0:1≤k∧k≤14
 ·obtain rfl|rfl|rfl|rfl|rfl|rfl|rfl|rfl|rfl|rfl|rfl|rfl|rfl|rfl:k=1∨k=2∨k=3∨k=4∨k=5∨k=6∨k=7∨k=8∨k=9∨k=10∨k=11∨k=12∨k=13∨k=14:=by omega
  all_goals
   have hlo:H0.lo≤H0.next:=Nat.le_refl _;refine jI.cut (jK.fir4 (q:=qq) (jN G) fir33 (by kernel_rfl) rfl rfl (F36_arr ..) (show NGG≤H0.lo by rw[jY];decide) ?_);rw[sd_ir33]
   simp(disch:=first|omega|(apply id;simp only[push_cast];try omega))only[push_cast,simprocAttr]
   repeat ((first|rw[sd_ir33_s0]|rw[sd_ir33_s1]|rw[sd_ir33_s2]);simp(disch:=first|omega|(apply id;simp only[push_cast];try omega))only[push_cast,simprocAttr])
   exact .id rfl
 ·have n1:¬ k=1:=by omega
  have n2:¬ k=2:=by omega
  have n3:¬ k=3:=by omega
  have n4:¬ k=4:=by omega
  have n5:¬ k=5:=by omega
  have n6:¬ k=6:=by omega
  have n7:¬ k=7:=by omega
  have n9:¬ k=9:=by omega
  have n10:¬ k=10:=by omega
  have n11:¬ k=11:=by omega
  have n12:¬ k=12:=by omega
  have n13:¬ k=13:=by omega
  have n14:¬ k=14:=by omega
  have e:ofV k=.agg ⟨[.bool false,.bool false,.bool false,.bool false,.int .i64 0]⟩:=by
   simp[ofV,fA,fB,fN,fE,shL,n1,n2,n3,n4,n5,n6,n7,n9,n10,n11,n12,n13,n14]
  rw[e]
  have hlo:H0.lo≤H0.next:=Nat.le_refl _;refine jI.cut (jK.fir4 (q:=qq) (jN G) fir33 (by kernel_rfl) rfl rfl (F36_arr ..) (show NGG≤H0.lo by rw[jY];decide) ?_);rw[sd_ir33]
  simp(disch:=first|omega|(apply id;simp only[push_cast];try omega))only[push_cast,simprocAttr,n1,n2,n3,n4,n5,n6,n7,n9,n10,n11,n12,n13,n14]
  rw[sd_ir33_s0]
  simp(disch:=first|omega|(apply id;simp only[push_cast];try omega))only[push_cast,simprocAttr,n6,n7,n9,n10,n11,n12]
  rw[sd_ir33_s2]
  simp(disch:=first|omega|(apply id;simp only[push_cast];try omega))only[push_cast,simprocAttr,n14]
  rw[sd_ir33_s1]
  simp(disch:=first|omega|(apply id;simp only[push_cast];try omega))only[push_cast,simprocAttr]
  exact .id rfl
def numF (v st p k a b:Int):Bool:=
 if k=1 then decide (-1≤a∧a<v) else if k=2 then decide (0≤a∧a<v) else if k=3∨k=4∨k=5 then decide (0≤a∧a<st) else if k=6 then decide (0≤a∧a<st)&&decide (0≤b∧b<st) else if k=13 then decide (0≤a∧a<p) else if k=14 then decide (0≤a)&&decide (-1≤b∧b<v) else true
theorem num_f (v st p k a b:Int) (s:List UInt8) (e:Ex) (l:List Tm):jI (pp G) H0 34 [tmV (.mk k a b s e l),.int .i64 v,.int .i64 st,.int .i64 p] (.bool (numF v st p k a b)):=by
 have hlo:H0.lo≤H0.next:=Nat.le_refl _;refine jI.cut (jK.fir4 (q:=qq) (jN G) fir34 (by kernel_rfl) rfl rfl (F60_arr ..) (show NGG≤H0.lo by rw[jY];decide) ?_);rw[sd_ir34]
 unfold numF
 by_cases h1:k=1
 ·rw[if_pos h1]
  simp(disch:=first|omega|(apply id;simp only[push_cast];try omega))only[push_cast,simprocAttr,h1]
  refine jC.dataI (in_f G a (-1) v) (by and_intros<;>first|rfl|(simp(disch:=first|omega|(apply id;simp only[push_cast];try omega))only[push_cast])) ?_
  simp(disch:=first|omega|(apply id;simp only[push_cast];try omega))only[push_cast,simprocAttr]
  exact .id rfl
 rw[if_neg h1]
 by_cases h2:k=2
 ·rw[if_pos h2]
  simp(disch:=first|omega|(apply id;simp only[push_cast];try omega))only[push_cast,simprocAttr,h1,h2]
  refine jC.dataI (in_f G a 0 v) (by and_intros<;>first|rfl|(simp(disch:=first|omega|(apply id;simp only[push_cast];try omega))only[push_cast])) ?_
  simp(disch:=first|omega|(apply id;simp only[push_cast];try omega))only[push_cast,simprocAttr]
  exact .id rfl
 rw[if_neg h2]
 by_cases h3:k=3∨k=4∨k=5
 ·rw[if_pos h3]
  rcases h3 with rfl|rfl|rfl
  all_goals
   simp(disch:=first|omega|(apply id;simp only[push_cast];try omega))only[push_cast,simprocAttr]
   rw[sd_ir34_s0]
   simp(disch:=first|omega|(apply id;simp only[push_cast];try omega))only[push_cast,simprocAttr]
   refine jC.dataI (in_f G a 0 st) (by and_intros<;>first|rfl|(simp(disch:=first|omega|(apply id;simp only[push_cast];try omega))only[push_cast])) ?_
   simp(disch:=first|omega|(apply id;simp only[push_cast];try omega))only[push_cast,simprocAttr]
   exact .id rfl
 rw[if_neg h3]
 simp only[not_or] at h3
 obtain ⟨h3,h4,h5⟩:=h3
 simp(disch:=first|omega|(apply id;simp only[push_cast];try omega))only[push_cast,simprocAttr,h1,h2,h3,h4,h5]
 rw[sd_ir34_s0]
 by_cases h6:k=6
 ·rw[if_pos h6]
  simp(disch:=first|omega|(apply id;simp only[push_cast];try omega))only[push_cast,simprocAttr,h6]
  refine jC.dataI (in_f G a 0 st) (by and_intros<;>first|rfl|(simp(disch:=first|omega|(apply id;simp only[push_cast];try omega))only[push_cast])) ?_
  cases hx:decide (0≤a∧a<st) with
  | false=>
   simp(disch:=first|omega|(apply id;simp only[push_cast];try omega))only[push_cast,simprocAttr,Bool.false_and]
   exact .id rfl
  | true=>
   simp(disch:=first|omega|(apply id;simp only[push_cast];try omega))only[push_cast,simprocAttr,Bool.true_and]
   refine jC.dataI (in_f G b 0 st) (by and_intros<;>first|rfl|(simp(disch:=first|omega|(apply id;simp only[push_cast];try omega))only[push_cast])) ?_
   simp(disch:=first|omega|(apply id;simp only[push_cast];try omega))only[push_cast,simprocAttr]
   exact .id rfl
 rw[if_neg h6]
 by_cases h13:k=13
 ·rw[if_pos h13]
  simp(disch:=first|omega|(apply id;simp only[push_cast];try omega))only[push_cast,simprocAttr,h6,h13]
  refine jC.dataI (in_f G a 0 p) (by and_intros<;>first|rfl|(simp(disch:=first|omega|(apply id;simp only[push_cast];try omega))only[push_cast])) ?_
  simp(disch:=first|omega|(apply id;simp only[push_cast];try omega))only[push_cast,simprocAttr]
  exact .id rfl
 rw[if_neg h13]
 by_cases h14:k=14
 ·rw[if_pos h14]
  by_cases ha:0≤a
  ·rw[decide_eq_true ha,Bool.true_and]
   simp(disch:=first|omega|(apply id;simp only[push_cast];try omega))only[push_cast,simprocAttr,h6,h13,h14,ha]
   refine jC.dataI (in_f G b (-1) v) (by and_intros<;>first|rfl|(simp(disch:=first|omega|(apply id;simp only[push_cast];try omega))only[push_cast])) ?_
   simp(disch:=first|omega|(apply id;simp only[push_cast];try omega))only[push_cast,simprocAttr]
   exact .id rfl
  ·rw[decide_eq_false ha,Bool.false_and]
   simp(disch:=first|omega|(apply id;simp only[push_cast];try omega))only[push_cast,simprocAttr,h6,h13,h14,ha]
   exact .id rfl
 rw[if_neg h14]
 simp(disch:=first|omega|(apply id;simp only[push_cast];try omega))only[push_cast,simprocAttr,h6,h13,h14]
 rw[sd_ir34_s1]
 simp(disch:=first|omega|(apply id;simp only[push_cast];try omega))only[push_cast,simprocAttr]
 exact .id rfl
mutual
def anyT:Tm→Bool
 | .mk k _ _ _ _ l=>decide (k=14) || kY l
def kY:List Tm→Bool
 | []=>false
 | x :: l=>anyT x || kY l
end
theorem anyTs_app:∀ a b:List Tm,kY (a++b)=(kY a || kY b)
 | [],b=>by simp[kY]
 | x :: a,b=>by rw[List.cons_append,kY,kY,anyTs_app a b,Bool.or_assoc]
theorem anyTs_take {l:List Tm} {i:Nat} {x:Tm} (h:l[i]?=some x):kY (l.take (i+1))=(kY (l.take i) || anyT x):=by
 rw[jZ h,anyTs_app,kY,kY,Bool.or_false]
theorem anyTs_yes:∀ {l:List Tm} {x:Tm},x∈l→anyT x=true→kY l=true
 | y :: l,x,h,hx=>by
  rw[kY]
  rcases List.mem_cons.1 h with rfl|h
  ·rw[hx];rfl
  ·rw[anyTs_yes h hx,Bool.or_true]
inductive I38 (t:Tm):Nat→S→Prop
 | mk (i:Nat) (iv:Int) (h:jB) {x0 x2 x4 x5 x6 x7 x8 x9 xA xB xC xD xE xF xG xH xI xJ:Value} (hiv:iv=(i:Int)) (hi:i≤t.l.length) (hok:kY (t.l.take i)=false) (c1:cells h 1=some (tmC t,etm,false)) (hl1:h.lo=1) (hl2:2≤h.next) :
  I38 t (t.l.length-i) ⟨(F20 x0 (.pointer (some ⟨1,0,none⟩)) x2 (.int .i64 iv) x4 x5 x6 x7 x8 x9 xA xB xC xD xE xF xG xH xI xJ),[],h⟩
theorem any_f:∀ t:Tm,smT t=true→jI (pp G) H0 38 [tmV t] (.bool (anyT t))
 | .mk k a b s e l,hs=>by
  simp only[smT,Bool.and_eq_true,decide_eq_true_eq] at hs
  obtain ⟨⟨hll,hse⟩,hsl⟩:=hs
  have ih:∀ x∈l,jI (pp G) H0 38 [tmV x] (.bool (anyT x)):=fun x hx=>any_f x (smTs_all hsl x hx)
  have hlo:H0.lo≤H0.next:=Nat.le_refl _;refine jI.cut (jK.fir4 (q:=qq) (jN G) fir38 (by kernel_rfl) rfl rfl (F20_arr ..) (show NGG≤H0.lo by rw[jY];decide) ?_);rw[sd_ir38]
  rw[anyT]
  by_cases hk:k=14
  ·simp(disch:=first|omega|(apply id;simp only[push_cast];try omega))only[push_cast,simprocAttr,hk,decide_true,Bool.true_or]
   exact .id rfl
  rw[decide_eq_false hk,Bool.false_or]
  simp(disch:=first|omega|(apply id;simp only[push_cast];try omega))only[push_cast,simprocAttr,hk]
  refine WD.loop4 (q:=qq) (jN G) (by kernel_rfl) (I38 (.mk k a b s e l)) ?_ _ _ (I38.mk 0 0 _ rfl (Nat.zero_le _) rfl (by first|assumption|(simp(disch:=first|omega|(apply id;simp only[push_cast];try omega))only[push_cast,simprocAttr];try omega)) rfl (by first|assumption|(simp(disch:=first|omega|(apply id;simp only[push_cast];try omega))only[push_cast,simprocAttr];try omega)))
  intro m s1 hI
  cases hI with|mk i iv h hiv hi hok c1 hl1 hl2=>
  subst hiv
  simp only[Tm.l_mk] at hi hok
  rw[sd_ir38_s0]
  rw[tmC_mk] at c1
  by_cases hil:(i:Int)<l.length
  ·obtain ⟨x,hx⟩:=qH (l:=l) (i:=i) (by omega)
   have hp:=tmCs_take hx
   have hle:i*9+9≤l.length*9:=by omega
   simp(disch:=first|omega|(apply id;simp only[push_cast];try omega))only[push_cast,simprocAttr,hil,c1,Int.toNat_natCast,hp,hle,hl1]
   refine jC.dataI (ih x (List.mem_of_getElem? hx)) (by and_intros<;>first|rfl|(simp(disch:=first|omega|(apply id;simp only[push_cast];try omega))only[push_cast])) ?_
   cases hr:anyT x with
   | true=>
    rw[anyTs_yes (List.mem_of_getElem? hx) hr]
    simp(disch:=first|omega|(apply id;simp only[push_cast];try omega))only[push_cast,simprocAttr]
    exact .id rfl
   | false=>
    simp(disch:=first|omega|(apply id;simp only[push_cast];try omega))only[push_cast,simprocAttr]
    exact ⟨_,by simp only[Tm.l_mk];omega,I38.mk (i+1) _ _ (by first|rfl|omega) (by simp only[Tm.l_mk];omega) (by simp only[Tm.l_mk];rw[anyTs_take hx,hok,hr];rfl) (by first|assumption|(simp(disch:=first|omega|(apply id;simp only[push_cast];try omega))only[push_cast,simprocAttr,c1];try omega)) (by first|assumption|(simp(disch:=first|omega|(apply id;simp only[push_cast];try omega))only[push_cast,simprocAttr,hl1];try omega)) (by first|assumption|(simp(disch:=first|omega|(apply id;simp only[push_cast];try omega))only[push_cast,simprocAttr];try omega))⟩
  ·have hie:i=l.length:=by omega
   subst hie
   rw[List.take_length] at hok
   rw[hok]
   simp(disch:=first|omega|(apply id;simp only[push_cast];try omega))only[push_cast,simprocAttr,hil,c1,hl1]
   rw[sd_ir38_s1]
   simp(disch:=first|omega|(apply id;simp only[push_cast];try omega))only[push_cast,simprocAttr]
   exact .id rfl
 termination_by t=>SizeOf.sizeOf t
abbrev KT:List UInt8:=[32,118,97,114,32,115,116,97,99,107,32,112,114,111,99,32,115,107,105,112,32,100,111,32,112,117,115,104,32,114,101,118,101,114,115,101,32,97,99,99,101,112,116,32,109,101,114,103,101,32,98,108,111,99,107,32,101,120,105,116,32,105,102,32,101,108,115,101,32,99,104,111,111,115,101,32,112,97,114,32,99,97,108,108,32]
abbrev KU:List UInt8:=[118,97,114,32,115,116,97,99,107,32,112,114,111,99,32,115,107,105,112,32,100,111,32,112,117,115,104,32,114,101,118,101,114,115,101,32,97,99,99,101,112,116,32,109,101,114,103,101,32,98,108,111,99,107,32,101,120,105,116,32,105,102,32,101,108,115,101,32,99,104,111,111,115,101,32,112,97,114,32,99,97,108,108,32]
def KM (l:List UInt8) (i:Nat):Prop:=i+l.length+2≤85∧KT.getD i 0=32∧KT.getD (i+l.length+1) 0=32∧(KT.drop (i+1)).take l.length=l
theorem keys_no32 {l:List UInt8} (h:l∈keysF):(32:UInt8)∉l:=by
 have:∀ w∈keysF,(32:UInt8)∉w:=by decide
 exact this l h
theorem keys_len {l:List UInt8} (h:l∈keysF):0<l.length:=by
 have:∀ w∈keysF,0<w.length:=by decide
 exact this l h
theorem keys_at {l:List UInt8} (h:l∈keysF):∃ i,KM l i:=by
 have:∀ w∈keysF,∃ i∈List.range 85,i+w.length+2≤85∧KT.getD i 0=32∧KT.getD (i+w.length+1) 0=32∧(KT.drop (i+1)).take w.length=w:=by decide +kernel
 obtain ⟨i,_,h2⟩:=this l h
 exact ⟨i,h2⟩
theorem keys_of:∀ i∈List.range 85,∀ n∈List.range 85,i+n+2≤85→0<n→KT.getD i 0=32→KT.getD (i+n+1) 0=32→(32:UInt8)∉(KT.drop (i+1)).take n→(KT.drop (i+1)).take n∈keysF:=by decide +kernel
theorem keys_in {l:List UInt8} {i:Nat} (h:KM l i) (h0:0<l.length) (h32:(32:UInt8)∉l):l∈keysF:=by
 obtain ⟨h1,h2,h3,h4⟩:=h
 have:=keys_of i (List.mem_range.2 (by omega)) l.length (List.mem_range.2 (by omega)) h1 h0 h2 h3 (by rw[h4];exact h32)
 rwa [h4] at this
theorem wid {a:Int} (h:-9223372036854775808≤a∧a≤9223372036854775807):IntKind.i64.wrap a=a:=by
 simp only[IntKind.wrap_i64];omega
theorem bt32 (l:List UInt8) (i:Nat):(bt l i=32)=(l.getD i 0=32):=by
 apply propext
 constructor
 ·intro e
  have:(l.getD i 0).toNat=32:=by unfold bt at e;omega
  exact UInt8.toNat_inj.1 this
 ·intro e;unfold bt;rw[e];rfl
inductive IKeyb (l:List UInt8) (i:Nat):Nat→S→Prop
 | mk (k:Nat) (iv kv:Int) (h:jB) {x1 x2 x5 x6 x7 x8 x9 xA xB xC xD xE xF xG xH xI xJ xK xL xM xN xO xP xQ xR xS xT xU xV xW xX xY xZ yA yB yC yD yE yF yG yH yI yJ yK yL yM yN yO yP:Value} (hiv:iv=(i:Int)) (hkv:kv=(k:Int)) (hk:k≤l.length) (h32:∀ j,j<k→l.getD j 0≠32) (hl1:h.lo=1) (hl2:1≤h.next) :
  IKeyb l i (l.length-k) ⟨(F52 (.string (Tx l)) x1 x2 (.int .i64 iv) (.int .i64 kv) x5 x6 x7 x8 x9 xA xB xC xD xE xF xG xH xI xJ xK xL xM xN xO xP xQ xR xS xT xU xV xW xX xY xZ yA yB yC yD yE yF yG yH yI yJ yK yL yM yN yO yP),[],h⟩
inductive IKey (l:List UInt8):Nat→S→Prop
 | mk (i:Nat) (iv:Int) (h:jB) {x1 x2 x4 x5 x6 x7 x8 x9 xA xB xC xD xE xF xG xH xI xJ xK xL xM xN xO xP xQ xR xS xT xU xV xW xX xY xZ yA yB yC yD yE yF yG yH yI yJ yK yL yM yN yO yP:Value} (hiv:iv=(i:Int)) (hi:i≤86) (hno:∀ j,j<i→¬ KM l j) (hl1:h.lo=1) (hl2:1≤h.next) :
  IKey l (86-i) ⟨(F52 (.string (Tx l)) x1 x2 (.int .i64 iv) x4 x5 x6 x7 x8 x9 xA xB xC xD xE xF xG xH xI xJ xK xL xM xN xO xP xQ xR xS xT xU xV xW xX xY xZ yA yB yC yD yE yF yG yH yI yJ yK yL yM yN yO yP),[],h⟩
theorem rkey_f (l:List UInt8) (hl:l.length<1000000000000):jI (pp G) H0 58 [.string (Tx l)] (.bool (keyF l)):=by
 have hlo:H0.lo≤H0.next:=Nat.le_refl _;refine jI.cut (jK.fir4 (q:=qq) (jN G) fir58 (by kernel_rfl) rfl rfl (F52_arr ..) (show NGG≤H0.lo by rw[jY];decide) ?_);rw[sd_ir58]
 simp(disch:=first|omega|(apply id;simp only[push_cast];try omega))only[push_cast,simprocAttr]
 refine WD.loop4 (q:=qq) (jN G) (by kernel_rfl) (IKey l) ?_ _ _ (IKey.mk 0 0 _ rfl (by omega) (fun j hj=>by omega) rfl (by first|assumption|(simp(disch:=first|omega|(apply id;simp only[push_cast];try omega))only[push_cast,simprocAttr];try omega)))
 intro k s1 hI
 cases hI with|mk i iv h hiv hi hno hl1 hl2=>
 subst hiv
 rw[sd_ir58_s0]
 have w1:IntKind.i64.wrap ((i:Int)+l.length)=i+l.length:=wid (by omega)
 have w2:IntKind.i64.wrap ((i:Int)+l.length+2)=i+l.length+2:=wid (by omega)
 have hyes:l∈keysF→keyF l=true:=fun h=>decide_eq_true h
 have hnot:l∉keysF→keyF l=false:=fun h=>decide_eq_false h
 by_cases hc1:(i:Int)+l.length+2≤85
 ·by_cases hc2:(0:Int)<l.length
  ·have hi84:(i:Int)<85:=by omega
   have hKT:(KT.length:Int)=85:=rfl
   have w3:IntKind.i64.wrap ((i:Int)+l.length+1)=i+l.length+1:=wid (by omega)
   have w4:IntKind.i64.wrap ((i:Int)+1)=i+1:=wid (by omega)
   have w5:IntKind.i64.wrap ((i:Int)+1+l.length)=i+1+l.length:=wid (by omega)
   have t1:((i:Int)+l.length+1).toNat=i+l.length+1:=by omega
   have t2:((i:Int)+1).toNat=i+1:=by omega
   have t3:((i:Int)+1+l.length).toNat-(i+1)=l.length:=by omega
   simp(disch:=first|omega|(apply id;simp only[push_cast];try omega))only[push_cast,simprocAttr,w1,w2,w3,w4,w5,hc1,hc2,t1,t2,t3,hi84,hKT,Int.toNat_natCast]
   have hnM:¬ KM l i→∀ j,j<i+1→¬ KM l j:=fun h0 j hj=>by
    rcases Nat.lt_or_ge j i with h1|h1
    ·exact hno j h1
    ·rw[show j=i by omega];exact h0
   by_cases hk1:bt KT i=32
   ·by_cases hk2:bt KT (i+l.length+1)=32
    ·by_cases hk3:(KU.drop i).take l.length=l
     ·simp(disch:=first|omega|(apply id;simp only[push_cast];try omega))only[push_cast,simprocAttr,hk1,hk2,hk3,w1,w2,w3,w4,w5,t1,t2,t3,hKT,beq_self_eq_true]
      have hM:KM l i:=⟨by omega,by rw[← bt32];exact hk1,by rw[← bt32];exact hk2,hk3⟩
      refine WD.loop4 (q:=qq) (jN G) (by kernel_rfl) (IKeyb l i) ?_ _ _ (IKeyb.mk 0 _ 0 _ rfl rfl (by omega) (fun j hj=>by omega) hl1 hl2)
      clear hl1 hl2
      intro k s1 hI
      cases hI with|mk k iv kv h hiv hkv hk h32 hl1 hl2=>
      subst hiv hkv
      rw[sd_ir58_s2]
      by_cases hkl:(k:Int)<l.length
      ·by_cases hk5:bt l k=32
       ·have hn : l ∉ keysF := fun h0 => by
         have e:=(bt32 l k).mp hk5
         apply keys_no32 h0
         rw[← e,List.getD_eq_getElem?_getD,List.getElem?_eq_getElem (by omega)]
         exact List.getElem_mem _
        simp(disch:=first|omega|(apply id;simp only[push_cast];try omega))only[push_cast,simprocAttr,hkl,Int.toNat_natCast,hk5]
        rw[hnot hn]
        exact .id rfl
       ·simp(disch:=first|omega|(apply id;simp only[push_cast];try omega))only[push_cast,simprocAttr,hkl,Int.toNat_natCast,hk5]
        exact ⟨_,by omega,IKeyb.mk (k+1) _ _ _ (by first|rfl|omega) (by first|rfl|omega) (by omega) (fun j hj=>by
         rcases Nat.lt_or_ge j k with h1|h1
         ·exact h32 j h1
         ·rw[show j=k by omega];intro e;exact hk5 (by rw[bt32];exact e)) hl1 hl2⟩
      ·have hin : l ∈ keysF := keys_in hM (by omega) (fun h0 => by
        obtain ⟨j,hj,e⟩:=List.getElem_of_mem h0
        apply h32 j (by omega)
        rw[List.getD_eq_getElem?_getD,List.getElem?_eq_getElem hj]
        exact e)
       simp(disch:=first|omega|(apply id;simp only[push_cast];try omega))only[push_cast,simprocAttr,hkl]
       rw[sd_ir58_s3]
       simp(disch:=first|omega|(apply id;simp only[push_cast];try omega))only[push_cast,simprocAttr]
       rw[hyes hin]
       exact .id rfl
     ·have hk3b:((KU.drop i).take l.length == l)=false:=beq_eq_false_iff_ne.2 hk3
      simp(disch:=first|omega|(apply id;simp only[push_cast];try omega))only[push_cast,simprocAttr,hk1,hk2,hk3b,w1,w2,w3,w4,w5,t1,t2,t3,hKT]
      exact ⟨_,by omega,IKey.mk (i+1) _ _ (by first|rfl|omega) (by omega) (hnM fun h0=>hk3 h0.2.2.2) hl1 hl2⟩
    ·simp(disch:=first|omega|(apply id;simp only[push_cast];try omega))only[push_cast,simprocAttr,hk1,hk2,w1,w2,w3,w4,w5,t1,t2,t3,hKT]
     exact ⟨_,by omega,IKey.mk (i+1) _ _ (by first|rfl|omega) (by omega) (hnM fun h0=>hk2 (by rw[bt32];exact h0.2.2.1)) hl1 hl2⟩
   ·simp(disch:=first|omega|(apply id;simp only[push_cast];try omega))only[push_cast,simprocAttr,hk1,w1,w2,w3,w4,w5,t1,t2,t3,hKT]
    exact ⟨_,by omega,IKey.mk (i+1) _ _ (by first|rfl|omega) (by omega) (hnM fun h0=>hk1 (by rw[bt32];exact h0.2.1)) hl1 hl2⟩
  ·simp(disch:=first|omega|(apply id;simp only[push_cast];try omega))only[push_cast,simprocAttr,w1,w2,hc1,hc2]
   rw[hnot fun h0=>by have:=keys_len h0;omega]
   rw[sd_ir58_s1]
   simp(disch:=first|omega|(apply id;simp only[push_cast];try omega))only[push_cast,simprocAttr]
   exact .id rfl
 ·have hno2 : l ∉ keysF := fun h0 => by
   obtain ⟨j,hj⟩:=keys_at h0
   exact hno j (by have:=hj.1;omega) hj
  simp(disch:=first|omega|(apply id;simp only[push_cast];try omega))only[push_cast,simprocAttr,w1,w2,hc1]
  rw[hnot hno2]
  rw[sd_ir58_s1]
  simp(disch:=first|omega|(apply id;simp only[push_cast];try omega))only[push_cast,simprocAttr]
  exact .id rfl
theorem word_f (r:Int) (b:Bool):jI (pp G) H0 59 [.int .u8 r,.bool b] (.bool (bF r || (!b&&(qdigit r || decide (r=95))))):=by
 have hlo:H0.lo≤H0.next:=Nat.le_refl _;refine jI.cut (jK.fir4 (q:=qq) (jN G) fir59 (by kernel_rfl) rfl rfl (F27_arr ..) (show NGG≤H0.lo by rw[jY];decide) ?_);rw[sd_ir59]
 unfold bF qdigit
 by_cases h1:97≤r∧r≤122
 ·rw[decide_eq_true h1,Bool.true_or]
  obtain ⟨h1,h2⟩:=h1
  simp(disch:=first|omega|(apply id;simp only[push_cast];try omega))only[push_cast,simprocAttr,h1,h2]
  exact .id rfl
 rw[decide_eq_false h1,Bool.false_or]
 have hs:∀ {b:Bool},b=(decide (97≤r)&&decide (r≤122))→b=false:=fun h=>by rw[h];simp;omega
 by_cases h2:97≤r
 case' pos=>
  have h3:¬ r≤122:=fun h=>h1 ⟨h2,h⟩
  simp(disch:=first|omega|(apply id;simp only[push_cast];try omega))only[push_cast,simprocAttr,h2,h3]
 case' neg=>simp(disch:=first|omega|(apply id;simp only[push_cast];try omega))only[push_cast,simprocAttr,h2]
 all_goals
  cases b with
  | true=>
   simp(disch:=first|omega|(apply id;simp only[push_cast];try omega))only[push_cast,simprocAttr,Bool.not_true,Bool.false_and]
   exact .id rfl
  | false=>
   simp(disch:=first|omega|(apply id;simp only[push_cast];try omega))only[push_cast,simprocAttr,Bool.not_false,Bool.true_and]
   by_cases g1:48≤r
   ·by_cases g2:r≤57
    ·rw[decide_eq_true (⟨g1,g2⟩:48≤r∧r≤57),Bool.true_or]
     simp(disch:=first|omega|(apply id;simp only[push_cast];try omega))only[push_cast,simprocAttr,g1,g2]
     exact .id rfl
    ·rw[decide_eq_false (fun h:48≤r∧r≤57=>g2 h.2),Bool.false_or]
     simp(disch:=first|omega|(apply id;simp only[push_cast];try omega))only[push_cast,simprocAttr,g1,g2]
     exact .id rfl
   ·rw[decide_eq_false (fun h:48≤r∧r≤57=>g1 h.1),Bool.false_or]
    simp(disch:=first|omega|(apply id;simp only[push_cast];try omega))only[push_cast,simprocAttr,g1]
    exact .id rfl
theorem q_wordy (c:UInt8) (b:Bool):(bF (c.toNat:Int) || (!b&&(qdigit (c.toNat:Int) || decide ((c.toNat:Int)=95))))=if b then small c else qV c:=by
 have a:bF (c.toNat:Int)=small c:=by unfold bF small;congr 1;simp only[eq_iff_iff];omega
 have d:qdigit (c.toNat:Int)=digit c:=by unfold qdigit digit;congr 1;simp only[eq_iff_iff];omega
 have e:decide ((c.toNat:Int)=95)=decide (c.toNat=95):=by congr 1;simp only[eq_iff_iff];omega
 rw[a,d,e]
 cases b
 ·simp[qV,Bool.or_assoc]
 ·simp
inductive I35 (s:List UInt8):Nat→S→Prop
 | mk (i:Nat) (iv:Int) (h:jB) {x1 x2 x4 x5 x6 x7 x8 x9 xA xB xC xD xE xF xG xH xI xJ xK xL xM xN xO xP xQ xR xS:Value} (hiv:iv=(i:Int)) (hi:i≤s.length) (h0:0<i→small (s.getD 0 0)=true) (ha:∀ j,j<i→qV (s.getD j 0)=true) (hl1:h.lo=1) (hl2:1≤h.next) :
  I35 s (s.length-i) ⟨(F29 (.string (Tx s)) x1 x2 (.int .i64 iv) x4 x5 x6 x7 x8 x9 xA xB xC xD xE xF xG xH xI xJ xK xL xM xN xO xP xQ xR xS),[],h⟩
theorem small_wordy {c:UInt8} (h:small c=true):qV c=true:=by unfold qV;rw[h];rfl
theorem rname_f (s:List UInt8):jI (pp G) H0 35 [.string (Tx s)] (.bool (nameF s)):=by
 have hlo:H0.lo≤H0.next:=Nat.le_refl _;refine jI.cut (jK.fir4 (q:=qq) (jN G) fir35 (by kernel_rfl) rfl rfl (F29_arr ..) (show NGG≤H0.lo by rw[jY];decide) ?_);rw[sd_ir35]
 unfold nameF
 by_cases h1:s=[]
 ·subst h1
  simp(disch:=first|omega|(apply id;simp only[push_cast];try omega))only[push_cast,simprocAttr]
  exact .id rfl
 have hs0:0<s.length:=List.length_pos_iff.2 h1
 have h1':¬ (s.length:Int)<1:=by omega
 rw[decide_eq_false h1,Bool.not_false,Bool.true_and]
 by_cases h2:(20:Int)<s.length
 ·rw[decide_eq_false (show ¬ s.length≤20 by omega),Bool.false_and]
  simp(disch:=first|omega|(apply id;simp only[push_cast];try omega))only[push_cast,simprocAttr,h1',h2]
  exact .id rfl
 rw[decide_eq_true (show s.length≤20 by omega),Bool.true_and]
 simp(disch:=first|omega|(apply id;simp only[push_cast];try omega))only[push_cast,simprocAttr,h1',h2]
 refine jC.dataI (rkey_f G s (by omega)) (by and_intros<;>first|rfl|(simp(disch:=first|omega|(apply id;simp only[push_cast];try omega))only[push_cast])) ?_
 cases hk:keyF s with
 | true=>
  rw[Bool.not_true,Bool.false_and]
  simp(disch:=first|omega|(apply id;simp only[push_cast];try omega))only[push_cast,simprocAttr]
  exact .id rfl
 | false=>
  rw[Bool.not_false,Bool.true_and]
  simp(disch:=first|omega|(apply id;simp only[push_cast];try omega))only[push_cast,simprocAttr]
  refine WD.loop4 (q:=qq) (jN G) (by kernel_rfl) (I35 s) ?_ _ _ (I35.mk 0 0 _ rfl (Nat.zero_le _) (fun h=>by omega) (fun j hj=>by omega) rfl (by first|assumption|(simp(disch:=first|omega|(apply id;simp only[push_cast];try omega))only[push_cast,simprocAttr];try omega)))
  intro m s1 hI
  cases hI with|mk i iv h hiv hi h0 ha hl1 hl2=>
  subst hiv
  rw[sd_ir35_s0]
  by_cases hil:(i:Int)<s.length
  ·simp(disch:=first|omega|(apply id;simp only[push_cast];try omega))only[push_cast,simprocAttr,hil,Int.toNat_natCast]
   refine jC.dataI (word_f G (bt s i) (decide ((i:Int)=0))) (by and_intros<;>first|rfl|(simp(disch:=first|omega|(apply id;simp only[push_cast];try omega))only[push_cast])) ?_
   rw[show bt s i=((s.getD i 0).toNat:Int) from rfl,q_wordy]
   by_cases hi0:i=0
   ·subst hi0
    rw[if_pos (by decide)]
    cases hw:small (s.getD 0 0) with
    | true=>
     simp(disch:=first|omega|(apply id;simp only[push_cast];try omega))only[push_cast,simprocAttr,Bool.not_true]
     exact ⟨_,by omega,I35.mk 1 _ _ (by first|rfl|omega) (by omega) (fun _=>hw) (fun j hj=>by rw[show j=0 by omega];exact small_wordy hw) hl1 hl2⟩
    | false=>
     simp(disch:=first|omega|(apply id;simp only[push_cast];try omega))only[push_cast,simprocAttr,Bool.not_false,Bool.false_and]
     exact .id rfl
   ·rw[if_neg (by simp;omega)]
    cases hw:qV (s.getD i 0) with
    | true=>
     simp(disch:=first|omega|(apply id;simp only[push_cast];try omega))only[push_cast,simprocAttr,Bool.not_true]
     exact ⟨_,by omega,I35.mk (i+1) _ _ (by first|rfl|omega) (by omega) (fun _=>h0 (by omega)) (fun j hj=>by
      by_cases e:j=i
      ·subst e;exact hw
      ·exact ha j (by omega)) hl1 hl2⟩
    | false=>
     have hf:¬ kO qV s=s.length:=fun e=>by
      have:=front_all qV s i (by omega)
      rw[hw] at this;cases this
     rw[h0 (by omega),decide_eq_false hf]
     simp(disch:=first|omega|(apply id;simp only[push_cast];try omega))only[push_cast,simprocAttr,Bool.not_false,Bool.true_and]
     exact .id rfl
  ·have hie:i=s.length:=by omega
   subst hie
   have hfl:=front_le qV s
   have hf:kO qV s=s.length:=by
    rcases Nat.lt_or_ge (kO qV s) s.length with h|h
    ·have:=frw_end qV s h
     rw[ha _ h] at this;cases this
    ·omega
   rw[h0 hs0,decide_eq_true hf]
   simp(disch:=first|omega|(apply id;simp only[push_cast];try omega))only[push_cast,simprocAttr,hil]
   rw[sd_ir35_s1]
   simp(disch:=first|omega|(apply id;simp only[push_cast];try omega))only[push_cast,simprocAttr]
   exact .id rfl
mutual
def rightR (v st p:Int):Tm→Bool
 | .mk k a b s e l=>!decide (k<0)&&(!decide (14<k)&&(decide ((l.length:Int)=shL k)&&(numF v st p k a b&&((fA k || decide (a=0))&&((fB k || decide (b=0))&&((fN k == !decide (s=[]))&&((!fN k || nameF s)&&((!fE k || qI v e)&&((fE k || sameE e zE)&&(uZ v st p l&&(!decide (k=3) || !kY (l.take 1))))))))))))
def uZ (v st p:Int):List Tm→Bool
 | []=>true
 | x :: l=>rightR v st p x&&uZ v st p l
end
theorem rightRs_app {v st p:Int} (a b:List Tm):uZ v st p (a++b)=(uZ v st p a&&uZ v st p b):=by
 induction a with
 | nil=>simp[uZ]
 | cons x a ih=>simp[uZ,ih,Bool.and_assoc]
theorem rightRs_take {v st p:Int} {l:List Tm} {i:Nat} {x:Tm} (h:l[i]?=some x):uZ v st p (l.take (i+1))=(uZ v st p (l.take i)&&rightR v st p x):=by
 rw[jZ h,rightRs_app];simp[uZ]
theorem rightRs_no {v st p:Int}:∀ {l:List Tm} {x:Tm},x∈l→rightR v st p x=false→uZ v st p l=false
 | y :: l,x,h,hx=>by
  rw[uZ]
  rcases List.mem_cons.1 h with rfl|h
  ·rw[hx];rfl
  ·rw[rightRs_no h hx,Bool.and_false]
inductive I16 (v st p:Int) (k a b:Int) (s:List UInt8) (e:Ex) (l:List Tm):Nat→S→Prop
 | mk (i:Nat) (iv:Int) (h:jB) {x0 x5 x6 x7 x8 x9 xB xC xD xE xF xG xH xI xJ xK xL xM xN xO xP xQ xR xS xT xU xV xW xX xY xZ yA yB yC yD yE yF yG yH yI yJ yK yL yM yN yO yP yQ yR yS yT yU yV yW yX yY yZ zA zB zC zD zF zG zH zI zJ zK zL zM zN zO zP zQ zR zS zT zU zV zW zX zY zZ wA wB wC wD wE wF wG wH wI wJ wK wL wM wN wO wP wQ wR wS wT wU wV wW wX wY wZ uA uB uC uD uE uF uG uH uI uJ:Value} (hiv:iv=(i:Int)) (hi:i≤l.length) (hok:uZ v st p (l.take i)=true) (c1:cells h 1=some (tmC (.mk k a b s e l),etm,false)) (hl1:h.lo=1) (hl2:2≤h.next) :
  I16 v st p k a b s e l (l.length-i) ⟨(F123 x0 (.int .i64 v) (.int .i64 st) (.int .i64 p) (.pointer (some ⟨1,0,none⟩)) x5 x6 x7 x8 x9 (.int .i64 iv) xB xC xD xE xF xG xH xI xJ xK xL xM xN xO xP xQ xR xS xT xU xV xW xX xY xZ yA yB yC yD yE yF yG yH yI yJ yK yL yM yN yO yP yQ yR yS yT yU yV yW yX yY yZ zA zB zC zD zF zG zH zI zJ zK zL zM zN zO zP zQ zR zS zT zU zV zW zX zY zZ wA wB wC wD wE wF wG wH wI wJ wK wL wM wN wO wP wQ wR wS wT wU wV wW wX wY wZ uA uB uC uD uE uF uG uH uI uJ),[],h⟩
theorem rr5_loop (v st p:Int) (k a b:Int) (s:List UInt8) (e:Ex) (l:List Tm) (hll:l.length<100000000000) (hsl:smTs l=true) (h3:k=3→l.length=1)
  (ih:∀ x∈l,jI (pp G) H0 16 [tmV x,.int .i64 v,.int .i64 st,.int .i64 p] (.bool (rightR v st p x))) (h:jB)
  (c1:cells h 1=some (tmC (.mk k a b s e l),etm,false)) (hl1:h.lo=1) (hl2:2≤h.next) {c:Bool} (hc:c=(uZ v st p l&&(!decide (k=3) || !kY (l.take 1)))) {x0 x5 x6 x7 x8 x9 xB xC xD xE xF xG xH xI xJ xK xL xM xN xO xP xQ xR xS xT xU xV xW xX xY xZ yA yB yC yD yE yF yG yH yI yJ yK yL yM yN yO yP yQ yR yS yT yU yV yW yX yY yZ zA zB zC zD zF zG zH zI zJ zK zL zM zN zO zP zQ zR zS zT zU zV zW zX zY zZ wA wB wC wD wE wF wG wH wI wJ wK wL wM wN wO wP wQ wR wS wT wU wV wW wX wY wZ uA uB uC uD uE uF uG uH uI uJ:Value} :
  WD (pp G) qq.H none (.loop ir16_s0) ⟨(F123 x0 (.int .i64 v) (.int .i64 st) (.int .i64 p) (.pointer (some ⟨1,0,none⟩)) x5 x6 x7 x8 x9 (.int .i64 0) xB xC xD xE xF xG xH xI xJ xK xL xM xN xO xP xQ xR xS xT xU xV xW xX xY xZ yA yB yC yD yE yF yG yH yI yJ yK yL yM yN yO yP yQ yR yS yT yU yV yW yX yY yZ zA zB zC zD zF zG zH zI zJ zK zL zM zN zO zP zQ zR zS zT zU zV zW zX zY zZ wA wB wC wD wE wF wG wH wI wJ wK wL wM wN wO wP wQ wR wS wT wU wV wW wX wY wZ uA uB uC uD uE uF uG uH uI uJ),[],h⟩
   (@kR ⟨jM 0 (jH (fun s1=>dc3 (pp G) qq none ir16_s1 s1 (@kR ⟨jF prog [.tmp 8] (fun v' σ'=>FzV prog 1 σ' v' (.bool c))⟩)) (jF prog [.tmp 8] (fun v' σ'=>FzV prog 1 σ' v' (.bool c))))⟩):=by
 refine WD.loop4 (q:=qq) (jN G) (by kernel_rfl) (I16 v st p k a b s e l) ?_ _ _ (I16.mk 0 0 h rfl (Nat.zero_le _) rfl c1 hl1 hl2)
 clear c1 hl1 hl2
 intro m s1 hI
 cases hI with|mk i iv h hiv hi hok c1 hl1 hl2=>
 subst hiv
 rw[sd_ir16_s0]
 rw[tmC_mk] at c1
 by_cases hil:(i:Int)<l.length
 ·obtain ⟨x,hx⟩:=qH (l:=l) (i:=i) (by omega)
  have hxm:=List.mem_of_getElem? hx
  have hp:=tmCs_take hx
  have hle:i*9+9≤l.length*9:=by omega
  simp(disch:=first|omega|(apply id;simp only[push_cast];try omega))only[push_cast,simprocAttr,hil,c1,Int.toNat_natCast,hp,hle,hl1]
  refine jC.dataI (ih x hxm) (by and_intros<;>first|rfl|(simp(disch:=first|omega|(apply id;simp only[push_cast];try omega))only[push_cast])) ?_
  cases hr:rightR v st p x with
  | false=>
   obtain rfl:c=false:=by rw[hc,rightRs_no hxm hr];rfl
   simp(disch:=first|omega|(apply id;simp only[push_cast];try omega))only[push_cast,simprocAttr]
   exact .id rfl
  | true=>
   simp(disch:=first|omega|(apply id;simp only[push_cast];try omega))only[push_cast,simprocAttr]
   exact ⟨_,by omega,I16.mk (i+1) _ _ (by first|rfl|omega) (by omega) (by rw[rightRs_take hx,hok,hr];rfl) (by first|assumption|(simp(disch:=first|omega|(apply id;simp only[push_cast];try omega))only[push_cast,simprocAttr,c1];try omega)) (by first|assumption|(simp(disch:=first|omega|(apply id;simp only[push_cast];try omega))only[push_cast,simprocAttr,hl1];try omega)) (by first|assumption|(simp(disch:=first|omega|(apply id;simp only[push_cast];try omega))only[push_cast,simprocAttr];try omega))⟩
 ·have hie:i=l.length:=by omega
  subst hie
  rw[List.take_length] at hok
  rw[hok,Bool.true_and] at hc
  simp(disch:=first|omega|(apply id;simp only[push_cast];try omega))only[push_cast,simprocAttr,hil,c1,hl1]
  rw[sd_ir16_s1]
  by_cases hk3:k=3
  ·have hl:=h3 hk3
   obtain ⟨x,rfl⟩:∃ x,l=[x]:=by
    match l,hl with
    | [x],_=>exact ⟨x,rfl⟩
   have hp:=tmCs_take (l:=[x]) (i:=0) rfl
   rw[Nat.zero_mul,List.drop_zero] at hp
   simp only[smTs,Bool.and_eq_true] at hsl
   simp(disch:=first|omega|(apply id;simp only[push_cast];try omega))only[push_cast,simprocAttr,c1,hl1,hk3,hp]
   refine jC.dataI (any_f G x hsl.1) (by and_intros<;>first|rfl|(simp(disch:=first|omega|(apply id;simp only[push_cast];try omega))only[push_cast])) ?_
   obtain rfl:c = !anyT x:=by rw[hc];simp[hk3,kY]
   simp(disch:=first|omega|(apply id;simp only[push_cast];try omega))only[push_cast,simprocAttr]
   exact .id rfl
  ·obtain rfl:c=true:=by rw[hc];simp[hk3]
   simp(disch:=first|omega|(apply id;simp only[push_cast];try omega))only[push_cast,simprocAttr,c1,hl1,hk3]
   exact .id rfl
theorem fzE0 (N:Nat) (σ:jB):FzV prog N σ (.agg ⟨[.int .i64 0,.int .i64 0,.string (Tx []),.slice none 0 0]⟩) (exV zE):=.agg (.cons (.id rfl) (.cons (.id rfl) (.cons (.id rfl) (.cons (.nil (size:=4) rfl (by decide)) .nil))))
theorem rr5_f (v st p:Int):∀ x:Tm,smT x=true→jI (pp G) H0 16 [tmV x,.int .i64 v,.int .i64 st,.int .i64 p] (.bool (rightR v st p x))
 | .mk k a b s e l,hs=>by
  have hs0:=hs
  simp only[smT,Bool.and_eq_true,decide_eq_true_eq] at hs
  obtain ⟨⟨hll,hse⟩,hsl⟩:=hs
  have ih:∀ x∈l,jI (pp G) H0 16 [tmV x,.int .i64 v,.int .i64 st,.int .i64 p] (.bool (rightR v st p x)):=fun x hx=>rr5_f v st p x (smTs_all hsl x hx)
  obtain ⟨c,hc⟩:∃ c,c=rightR v st p (.mk k a b s e l):=⟨_,rfl⟩
  rw[← hc]
  rw[rightR] at hc
  have hlo:H0.lo≤H0.next:=Nat.le_refl _;refine jI.cut (jK.fir4 (q:=qq) (jN G) fir16 (by kernel_rfl) rfl rfl (F123_arr ..) (show NGG≤H0.lo by rw[jY];decide) ?_);rw[sd_ir16]
  simp(disch:=first|omega|(apply id;simp only[push_cast];try omega))only[push_cast,simprocAttr]
  refine jC.dataI (of_f G k) (by and_intros<;>first|rfl|(simp(disch:=first|omega|(apply id;simp only[push_cast];try omega))only[push_cast])) ?_
  unfold ofV
  by_cases h1:k<0
  ·obtain rfl:c=false:=by rw[hc];simp[h1]
   simp(disch:=first|omega|(apply id;simp only[push_cast];try omega))only[push_cast,simprocAttr,h1]
   exact .id rfl
  by_cases h2:14<k
  ·obtain rfl:c=false:=by rw[hc];simp[h2]
   simp(disch:=first|omega|(apply id;simp only[push_cast];try omega))only[push_cast,simprocAttr,h1,h2]
   exact .id rfl
  by_cases h3:(l.length:Int)=shL k
  rotate_left
  ·obtain rfl:c=false:=by rw[hc];simp[h3]
   simp(disch:=first|omega|(apply id;simp only[push_cast];try omega))only[push_cast,simprocAttr,h1,h2,h3]
   exact .id rfl
  have hk3:k=3→l.length=1:=fun h=>by
   rw[h] at h3;simp[shL] at h3;omega
  simp(disch:=first|omega|(apply id;simp only[push_cast];try omega))only[push_cast,simprocAttr,h1,h2,h3]
  refine jC.dataI (num_f G v st p k a b s e l) (by and_intros<;>first|rfl|(simp(disch:=first|omega|(apply id;simp only[push_cast];try omega))only[push_cast])) ?_
  cases hn:numF v st p k a b with
  | false=>
   obtain rfl:c=false:=by rw[hc];simp[hn]
   simp(disch:=first|omega|(apply id;simp only[push_cast];try omega))only[push_cast,simprocAttr]
   exact .id rfl
  | true=>
  rw[decide_eq_false h1,decide_eq_false h2,decide_eq_true h3,hn] at hc
  simp only[Bool.not_false,Bool.true_and] at hc
  generalize fA k=A at hc ⊢
  generalize fB k=B at hc ⊢
  generalize fN k=N at hc ⊢
  generalize fE k=E at hc ⊢
  have hAc:A=true∨(A=false∧a=0)∨(A=false∧a≠0):=by cases A<;>simp[Classical.em]
  have hBc:B=true∨(B=false∧b=0)∨(B=false∧b≠0):=by cases B<;>simp[Classical.em]
  rcases hAc with rfl|⟨rfl,ha⟩|⟨rfl,ha⟩
  rotate_right
  ·obtain rfl:c=false:=by rw[hc];simp[ha]
   simp(disch:=first|omega|(apply id;simp only[push_cast];try omega))only[push_cast,simprocAttr,ha]
   exact .id rfl
  case' inl=>simp(disch:=first|omega|(apply id;simp only[push_cast];try omega))only[push_cast,simprocAttr]
  case' inr.inl=>simp(disch:=first|omega|(apply id;simp only[push_cast];try omega))only[push_cast,simprocAttr,ha]
  all_goals
   rcases hBc with rfl|⟨rfl,hb⟩|⟨rfl,hb⟩
   rotate_right
   ·obtain rfl:c=false:=by rw[hc];simp[hb]
    simp(disch:=first|omega|(apply id;simp only[push_cast];try omega))only[push_cast,simprocAttr,hb]
    exact .id rfl
   case' inl=>simp(disch:=first|omega|(apply id;simp only[push_cast];try omega))only[push_cast,simprocAttr]
   case' inr.inl=>simp(disch:=first|omega|(apply id;simp only[push_cast];try omega))only[push_cast,simprocAttr,hb]
  all_goals
   by_cases hs1:s=[]
   case' pos=>
    have hsb:(s == ([]:List UInt8))=true:=by simpa using hs1
    cases N
    case true=>
     obtain rfl:c=false:=by rw[hc];simp[hs1]
     (rw[hsb,show (!(true == !true))=true from rfl];simp(disch:=first|omega|(apply id;simp only[push_cast];try omega))only[push_cast,simprocAttr])
     exact .id rfl
    case' false=>(rw[hsb,show (!(false == !true))=false from rfl];simp(disch:=first|omega|(apply id;simp only[push_cast];try omega))only[push_cast,simprocAttr])
   case' neg=>
    have hsb:(s == ([]:List UInt8))=false:=by simpa using hs1
    cases N
    case false=>
     obtain rfl:c=false:=by rw[hc];simp[hs1]
     (rw[hsb,show (!(false == !false))=true from rfl];simp(disch:=first|omega|(apply id;simp only[push_cast];try omega))only[push_cast,simprocAttr])
     exact .id rfl
    case' true=>
     (rw[hsb,show (!(true == !false))=false from rfl];simp(disch:=first|omega|(apply id;simp only[push_cast];try omega))only[push_cast,simprocAttr])
     refine jC.dataI (rname_f G s) (by and_intros<;>first|rfl|(simp(disch:=first|omega|(apply id;simp only[push_cast];try omega))only[push_cast])) ?_
     cases hnm:nameF s
     case false=>
      obtain rfl:c=false:=by rw[hc];simp[hnm]
      simp(disch:=first|omega|(apply id;simp only[push_cast];try omega))only[push_cast,simprocAttr,Bool.not_false]
      exact .id rfl
     case' true=>simp(disch:=first|omega|(apply id;simp only[push_cast];try omega))only[push_cast,simprocAttr,Bool.not_true]
  all_goals
   cases E
   case' true=>
    simp(disch:=first|omega|(apply id;simp only[push_cast];try omega))only[push_cast,simprocAttr]
    refine jC.dataI (rr_f G v e hse) (by and_intros<;>first|rfl|(simp(disch:=first|omega|(apply id;simp only[push_cast];try omega))only[push_cast])) ?_
    cases hr:qI v e
    case false=>
     obtain rfl:c=false:=by rw[hc];simp[hr]
     simp(disch:=first|omega|(apply id;simp only[push_cast];try omega))only[push_cast,simprocAttr,Bool.not_false]
     exact .id rfl
    case' true=>simp(disch:=first|omega|(apply id;simp only[push_cast];try omega))only[push_cast,simprocAttr,Bool.not_true]
   case' false=>
    simp(disch:=first|omega|(apply id;simp only[push_cast];try omega))only[push_cast,simprocAttr]
    refine jC.data (same_e G e zE hse rfl) (.cons (.id (exV_sc _ H0q e)) (.cons (fzE0 ..) .nil)) (by first|rfl|(simp(disch:=first|omega|(apply id;simp only[push_cast];try omega))only[push_cast])) (by first|rfl|(simp(disch:=first|omega|(apply id;simp only[push_cast];try omega))only[push_cast])) ?_
    cases hr:sameE e zE
    case false=>
     obtain rfl:c=false:=by rw[hc];simp[hr]
     simp(disch:=first|omega|(apply id;simp only[push_cast];try omega))only[push_cast,simprocAttr,Bool.not_false]
     exact .id rfl
    case' true=>simp(disch:=first|omega|(apply id;simp only[push_cast];try omega))only[push_cast,simprocAttr,Bool.not_true]
  all_goals exact rr5_loop G v st p k _ _ s e l hll hsl hk3 ih _ (by simp(disch:=first|omega|(apply id;simp only[push_cast];try omega))only[push_cast,simprocAttr];first|done|rfl) (by simp(disch:=first|omega|(apply id;simp only[push_cast];try omega))only[push_cast,simprocAttr]) (by simp(disch:=first|omega|(apply id;simp only[push_cast];try omega))only[push_cast,simprocAttr]) (by rw[hc];simp[*])
theorem sameE_zE:∀ e:Ex,sameE e zE = !kH e
 | .mk k n s l=>by
  unfold kH zE
  rw[sameE]
  simp only[Ex.k,Ex.n,Ex.s,Ex.l]
  cases l with
  | nil=>by_cases h1:k=0<;>by_cases h2:n=0<;>by_cases h3:s=[]<;>simp[h1,h2,h3,sameEs]
  | cons x l=>simp
theorem right_given' {v:Int}:∀ {e:Ex},qI v e=true→kH e=true
 | .mk k n s l,h=>by
  have:k≠0:=by
   rintro rfl
   simp[qI] at h
  simp[kH,Ex.k,this]
theorem part_eq (v:Int) (k:Int) (s:List UInt8) (e:Ex) (hk:0≤k∧k<15) :
  (decide ((if s=[] then (0:Int) else 1)=shN k∧(if kH e then (1:Int) else 0)=shE k)&&((decide (s=[]) || nameF s)&&(!kH e || qI v e)))=((fN k == !decide (s=[]))&&((!fN k || nameF s)&&((!fE k || qI v e)&&(fE k || sameE e zE)))):=by
 rw[sameE_zE]
 have hN:shN k=if fN k then 1 else 0:=by unfold shN fN;simp
 have hE:shE k=if fE k then 1 else 0:=by unfold shE fE;simp
 rw[hN,hE]
 have hn:s=[]→nameF s=false:=fun h=>by subst h;rfl
 have hg:kH e=false→qI v e=false:=fun h=>by
  cases hr:qI v e with
  | false=>rfl
  | true=>rw[right_given' hr] at h;cases h
 generalize fN k=N
 generalize fE k=E
 generalize nameF s=nm at hn ⊢
 generalize qI v e=r at hg ⊢
 generalize kH e=g at hg ⊢
 by_cases hs:s=[]<;>cases N<;>cases E<;>cases nm<;>cases r<;>cases g<;>simp_all
theorem num_eq (v st p:Int) (hv:0≤v) (k a b:Int) (hk:0≤k∧k<15):(fitsF v st p (shA k) a&&fitsF v st p (shB k) b)=(numF v st p k a b&&((fA k || decide (a=0))&&(fB k || decide (b=0)))):=by
 obtain rfl|rfl|rfl|rfl|rfl|rfl|rfl|rfl|rfl|rfl|rfl|rfl|rfl|rfl|rfl:k=0∨k=1∨k=2∨k=3∨k=4∨k=5∨k=6∨k=7∨k=8∨k=9∨k=10∨k=11∨k=12∨k=13∨k=14:=by omega
 all_goals
  simp[fitsF,numF,shA,shB,fA,fB]
 all_goals first
  | done
  | (rw[Bool.eq_iff_iff];simp;omega)
mutual
theorem right_eq (v st p:Int) (hv:0≤v):∀ (x:Tm) (q:Bool),kQ v st p q x=(rightR v st p x&&!(q&&anyT x))
 | .mk k a b s e l,q=>by
  have ih:=rights_eq v st p hv l (q || decide (k=3))
  rw[kQ,rightR,anyT,ih]
  by_cases hk:0≤k∧k<15
  rotate_left
  ·rw[decide_eq_false hk,Bool.false_and]
   by_cases h1:k<0
   ·simp[h1]
   ·have h2:14<k:=by omega
    simp[h2]
  rw[decide_eq_true hk,decide_eq_false (show ¬ k<0 by omega),decide_eq_false (show ¬ 14<k by omega)]
  simp only[Bool.not_false,Bool.true_and]
  by_cases hl:(l.length:Int)=shL k
  rotate_left
  ·simp[hl]
  have e1:∀ W:Bool,(fitsF v st p (shA k) a&&(fitsF v st p (shB k) b&&W))=(numF v st p k a b&&((fA k || decide (a=0))&&((fB k || decide (b=0))&&W))):=fun W=>by
   have:=num_eq v st p hv k a b hk
   rw[← Bool.and_assoc,this];simp only[Bool.and_assoc]
  have e2:∀ W:Bool,(decide ((if s=[] then (0:Int) else 1)=shN k∧(if kH e then (1:Int) else 0)=shE k)&&((decide (s=[]) || nameF s)&&((!kH e || qI v e)&&W)))=((fN k == !decide (s=[]))&&((!fN k || nameF s)&&((!fE k || qI v e)&&((fE k || sameE e zE)&&W)))):=fun W=>by
   have:=part_eq v k s e hk
   have h2:∀ x y z:Bool,(x&&(y&&(z&&W)))=((x&&(y&&z))&&W):=fun x y z=>by simp only[Bool.and_assoc]
   rw[h2,this];simp only[Bool.and_assoc]
  have e3:decide ((if s=[] then (0:Int) else 1)=shN k∧(if kH e=true then (1:Int) else 0)=shE k∧(l.length:Int)=shL k)=decide ((if s=[] then (0:Int) else 1)=shN k∧(if kH e then (1:Int) else 0)=shE k):=by
   congr 1;simp[hl]
  have e4:(!decide (k=3) || !kY (l.take 1))=(!decide (k=3) || !kY l):=by
   by_cases h3:k=3
   ·subst h3
    have:l.length=1:=by simp[shL] at hl;omega
    rw[List.take_of_length_le (by omega)]
   ·simp[h3]
  rw[e3,e1,e2,e4,decide_eq_true hl,Bool.true_and]
  generalize numF v st p k a b=c1
  generalize (fA k || decide (a=0))=c2
  generalize (fB k || decide (b=0))=c3
  generalize (fN k == !decide (s=[]))=c4
  generalize (!fN k || nameF s)=c5
  generalize (!fE k || qI v e)=c6
  generalize (fE k || sameE e zE)=c7
  generalize uZ v st p l=c8
  generalize kY l=y
  generalize decide (k=14)=k14
  generalize decide (k=3)=k3
  cases q<;>cases k14<;>cases k3<;>cases y<;>simp
theorem rights_eq (v st p:Int) (hv:0≤v):∀ (l:List Tm) (q:Bool),qO v st p q l=(uZ v st p l&&!(q&&kY l))
 | [],q=>by simp[qO,uZ,kY]
 | x :: l,q=>by
  rw[qO,uZ,kY,right_eq v st p hv x q,rights_eq v st p hv l q]
  generalize rightR v st p x=c1
  generalize uZ v st p l=c2
  cases q<;>cases anyT x<;>cases kY l<;>simp
end
theorem rr5_eq (v st p:Int) (hv:0≤v) (x:Tm):rightR v st p x=kQ v st p false x:=by rw[right_eq v st p hv x false];simp
theorem few_fz (N:Nat) (hN:0<N) (σ:jB) (l:List Rb):FzL (pp G).P N σ [.agg ⟨[.int .i64 0,.int .i64 0,Rw true erb l.length (rbCs l)]⟩] [shV 0 0 l]:=
 .cons (.agg (.cons (.id rfl) (.cons (.id rfl) (.cons (.row (.ids (rbCs_sc _ hN _))) .nil)))) .nil
mutual
theorem rightF_mono {v v':Int} (h:v≤v'):∀ e:Ex,qI v e=true→qI v' e=true
 | .mk k n s l,hr=>by
  rw[qI] at hr ⊢
  simp only[Bool.and_eq_true] at hr ⊢
  refine ⟨⟨?_,hr.1.2⟩,rightL_mono h l hr.2⟩
  have h1:=hr.1.1
  by_cases c1:k=1∧0≤n
  ·rw[if_pos c1] at h1 ⊢;exact h1
  rw[if_neg c1] at h1 ⊢
  by_cases c2:k=2∧0≤n∧n<v
  ·rw[if_pos c2] at h1;rw[if_pos ⟨c2.1,c2.2.1,by omega⟩];exact h1
  rw[if_neg c2] at h1
  by_cases c3:k=2∧0≤n∧n<v'
  ·rw[if_neg (by omega),if_neg (by omega)] at h1;cases h1
  ·rw[if_neg c3];exact h1
theorem rightL_mono {v v':Int} (h:v≤v'):∀ l:List Ex,qY v l=true→qY v' l=true
 | [],_=>rfl
 | x :: l,hr=>by
  simp only[qY,Bool.and_eq_true] at hr ⊢
  exact ⟨rightF_mono h x hr.1,rightL_mono h l hr.2⟩
end
theorem fits_mono {v v' st st' p p':Int} (h1:v≤v') (h2:st≤st') (h3:p≤p') (k n:Int) (h:fitsF v st p k n=true):fitsF v' st' p' k n=true:=by
 unfold fitsF at h ⊢
 repeat' split
 all_goals simp_all
 all_goals omega
mutual
theorem rightT_mono {v v' st st' p p':Int} (h1:v≤v') (h2:st≤st') (h3:p≤p'):∀ (x:Tm) (q:Bool),kQ v st p q x=true→kQ v' st' p' q x=true
 | .mk k a b s e l,q,h=>by
  simp only[kQ,Bool.and_eq_true,Bool.or_eq_true] at h ⊢
  obtain ⟨g1,g2,g3,g4,g5,g6,g7,g8⟩:=h
  exact ⟨g1,g2,fits_mono h1 h2 h3 _ _ g3,fits_mono h1 h2 h3 _ _ g4,g5,g6,g7.imp id (rightF_mono h1 e),rightTs_mono h1 h2 h3 l _ g8⟩
theorem rightTs_mono {v v' st st' p p':Int} (h1:v≤v') (h2:st≤st') (h3:p≤p'):∀ (l:List Tm) (q:Bool),qO v st p q l=true→qO v' st' p' q l=true
 | [],_,_=>rfl
 | x :: l,q,h=>by
  simp only[qO,Bool.and_eq_true] at h ⊢
  exact ⟨rightT_mono h1 h2 h3 x q h.1,rightTs_mono h1 h2 h3 l q h.2⟩
end
theorem bounds_law (r:Rb) (w v s p:Int) (hr:smB r=true):jI (pp G) H0 9 [rbV r,.int .i64 w,.int .i64 v,.int .i64 s,.int .i64 p] (.bool true):=by
 have hlo:H0.lo≤H0.next:=Nat.le_refl _;refine jI.cut (jK.fir4 (q:=qq) (jN G) fir9 (by kernel_rfl) rfl rfl (F72_arr ..) (show NGG≤H0.lo by rw[jY];decide) ?_);rw[sd_ir9]
 simp(disch:=first|omega|(apply id;simp only[push_cast];try omega))only[push_cast,simprocAttr]
 refine jC.dataI (known5e_f G) (by and_intros<;>first|rfl|(simp(disch:=first|omega|(apply id;simp only[push_cast];try omega))only[push_cast])) ?_
 have hcl:∀ x:Rb,(rbV x).cells.toList=rbC x:=fun _=>rfl
 have hone:=rbC_one
 have hlen:=bD
 have htk:∀ r:Rb,(rbC r).take 5=rbC r:=fun r=>List.take_of_length_le (by rw[bD];exact Nat.le_refl _)
 simp(disch:=first|omega|(apply id;simp only[push_cast];try omega))only[push_cast,simprocAttr,hcl,hone,hlen,htk,↓rowRb1]
 refine jC.data (few3_f G 0 0 [r] (by simp) (by simp[smBs,hr])) (few_fz G _ (by decide) _ [r]) (by first|rfl|(simp(disch:=first|omega|(apply id;simp only[push_cast];try omega))only[push_cast])) (by first|rfl|(simp(disch:=first|omega|(apply id;simp only[push_cast];try omega))only[push_cast])) ?_
 cases hf:fewB [r] with
 | false=>simp(disch:=first|omega|(apply id;simp only[push_cast];try omega))only[push_cast,simprocAttr,Bool.not_false];exact .id rfl
 | true=>
 simp(disch:=first|omega|(apply id;simp only[push_cast];try omega))only[push_cast,simprocAttr,Bool.not_true]
 refine jC.dataEI (make5_f G r w hr) (by and_intros<;>first|rfl|(simp(disch:=first|omega|(apply id;simp only[push_cast];try omega))only[push_cast])) ?_
 rintro _ ⟨t,rfl,hts,_⟩
 refine ⟨by simp(disch:=first|omega|(apply id;simp only[push_cast];try omega))only[push_cast,simprocAttr];first|done|rfl,?_⟩
 simp(disch:=first|omega|(apply id;simp only[push_cast];try omega))only[push_cast,simprocAttr]
 refine jC.dataI (within5_f G v 5 (by omega) (by omega)) (by and_intros<;>first|rfl|(simp(disch:=first|omega|(apply id;simp only[push_cast];try omega))only[push_cast])) ?_
 simp(disch:=first|omega|(apply id;simp only[push_cast];try omega))only[push_cast,simprocAttr]
 refine jC.dataI (within5_f G s 4 (by omega) (by omega)) (by and_intros<;>first|rfl|(simp(disch:=first|omega|(apply id;simp only[push_cast];try omega))only[push_cast])) ?_
 simp(disch:=first|omega|(apply id;simp only[push_cast];try omega))only[push_cast,simprocAttr]
 refine jC.dataI (within5_f G p 7 (by omega) (by omega)) (by and_intros<;>first|rfl|(simp(disch:=first|omega|(apply id;simp only[push_cast];try omega))only[push_cast])) ?_
 have ha:=qW (a:=v) (n:=5) (by omega)
 have hb:=qW (a:=s) (n:=4) (by omega)
 have hc:=qW (a:=p) (n:=7) (by omega)
 generalize jV v 5=a at ha ⊢
 generalize jV s 4=b at hb ⊢
 generalize jV p 7=c at hc ⊢
 have wa:IntKind.i64.wrap (a+1)=a+1:=wid (by omega)
 have wb:IntKind.i64.wrap (b+1)=b+1:=wid (by omega)
 have wc:IntKind.i64.wrap (c+1)=c+1:=wid (by omega)
 simp(disch:=first|omega|(apply id;simp only[push_cast];try omega))only[push_cast,simprocAttr]
 refine jC.dataI (right_t G a b c t hts) (by and_intros<;>first|rfl|(simp(disch:=first|omega|(apply id;simp only[push_cast];try omega))only[push_cast])) ?_
 simp(disch:=first|omega|(apply id;simp only[push_cast];try omega))only[push_cast,simprocAttr]
 refine jC.dataI (rr5_f G a b c t hts) (by and_intros<;>first|rfl|(simp(disch:=first|omega|(apply id;simp only[push_cast];try omega))only[push_cast])) ?_
 rw[rr5_eq a b c ha.1 t]
 cases his:kQ a b c false t with
 | false=>
  simp(disch:=first|omega|(apply id;simp only[push_cast];try omega))only[push_cast,simprocAttr,beq_self_eq_true,Bool.not_false]
  exact .id rfl
 | true=>
  simp(disch:=first|omega|(apply id;simp only[push_cast];try omega))only[push_cast,simprocAttr,beq_self_eq_true,Bool.not_true,wa]
  refine jC.dataI (right_t G (a+1) b c t hts) (by and_intros<;>first|rfl|(simp(disch:=first|omega|(apply id;simp only[push_cast];try omega))only[push_cast])) ?_
  rw[rightT_mono (show a≤a+1 by omega) (Int.le_refl b) (Int.le_refl c) t false his]
  simp(disch:=first|omega|(apply id;simp only[push_cast];try omega))only[push_cast,simprocAttr,wb]
  refine jC.dataI (right_t G a (b+1) c t hts) (by and_intros<;>first|rfl|(simp(disch:=first|omega|(apply id;simp only[push_cast];try omega))only[push_cast])) ?_
  rw[rightT_mono (Int.le_refl a) (show b≤b+1 by omega) (Int.le_refl c) t false his]
  simp(disch:=first|omega|(apply id;simp only[push_cast];try omega))only[push_cast,simprocAttr,wc]
  refine jC.dataI (right_t G a b (c+1) t hts) (by and_intros<;>first|rfl|(simp(disch:=first|omega|(apply id;simp only[push_cast];try omega))only[push_cast])) ?_
  rw[rightT_mono (Int.le_refl a) (Int.le_refl b) (show c≤c+1 by omega) t false his]
  simp(disch:=first|omega|(apply id;simp only[push_cast];try omega))only[push_cast,simprocAttr]
  exact .id rfl
end
end Go.Proofs.YtgeakofgklcipaaDoor
namespace Go.Proofs.YtgeakofgklcipaaDoor
open _root_.Go.Proofs.Tryd (prog)
open Go Go.RowKit Go.Ev Go.Dv
noncomputable section
set_option maxRecDepth 100000
section
variable {w:World} {H:Type} {enc:TypeId×Value→H}
theorem u_int:prog.underlying eI=some (.int .i64):=by kernel_rfl
theorem u_raws:prog.underlying 22=some (.slice era):=by kernel_rfl
theorem u_rbs:prog.underlying 23=some (.slice erb):=by kernel_rfl
theorem f_raw:fieldsB prog era [(eI,0),(eI,1),(22,2)]=true:=by kernel_rfl
theorem f_rb:fieldsB prog erb [(eI,0),(eI,1),(eI,2),(22,3),(23,4)]=true:=by kernel_rfl
theorem raCs_flat:∀ l:List Ra,l.flatMap raC=raCs l
 | []=>rfl
 | x :: l=>by rw[List.flatMap_cons,raCs_flat l,raCs]
theorem rbCs_flat:∀ l:List Rb,l.flatMap rbC=rbCs l
 | []=>rfl
 | x :: l=>by rw[List.flatMap_cons,rbCs_flat l,rbCs]
theorem smRs_of:∀ {l:List Ra},(∀ x∈l,smR x=true)→smRs l=true
 | [],_=>rfl
 | x :: l,h=>by rw[smRs,h x (by simp),smRs_of fun y hy=>h y (by simp[hy])];rfl
theorem smBs_of:∀ {l:List Rb},(∀ x∈l,smB x=true)→smBs l=true
 | [],_=>rfl
 | x :: l,h=>by rw[smBs,h x (by simp),smBs_of fun y hy=>h y (by simp[hy])];rfl
theorem open_ras:∀ (fuel:Nat) {cs:List Value} {x:DataW H×List MemPlace},DataW.trod enc prog w 0 (fun _=>true) true fuel 22 cs=some x→(x.1.weights prog 22).all (·≤reachBytes)=true→
  ∃ l:List Ra,Go.Dv.Op prog 1 LL w [rasV l] cs∧smRs l=true∧l.length<1000000000000000:=by
 intro fuel
 induction fuel using Nat.strongRecOn with
 | ind fuel ih=>
 intro cs x h hw
 obtain ⟨l,h1,h2,h3⟩:=open_slice (n:=1) (L:=LL) u_raws (size:=3) (by kernel_rfl) (by kernel_rfl) (by omega) (of_decide_eq_true (by kernel_rfl)) raC (fun r=>smR r=true) h hw fun k c y hk hy hwy=>by
  obtain ⟨k',hk',hl,hfs⟩:=open_struct f_raw hy hwy
  rw[show prog.cellsOf era=3 by kernel_rfl] at hl
  match c,hl with
  | [a,b,d],_=>
   obtain ⟨y0,t0,_⟩:=hfs 0 _ _ rfl
   obtain ⟨y1,t1,_⟩:=hfs 1 _ _ rfl
   obtain ⟨y2,t2,w2⟩:=hfs 2 _ _ rfl
   rw[show prog.cellsOf eI=1 by kernel_rfl] at t0 t1
   rw[show prog.cellsOf 22=1 by kernel_rfl] at t2
   obtain ⟨m0,e0,o0,_⟩:=open_num (n:=1) (L:=LL) u_int t0
   obtain ⟨m1,e1,o1,_⟩:=open_num (n:=1) (L:=LL) u_int t1
   obtain ⟨l2,o2,s2,n2⟩:=ih k' (by omega) t2 w2
   refine ⟨.mk m0 m1 l2,?_,?_⟩
   ·exact (o0.append o1).append o2
   ·simp only[smR,s2,Bool.and_true,decide_eq_true_eq];exact n2
 rw[raCs_flat] at h1
 exact ⟨l,h1,smRs_of h2,h3⟩
theorem open_rb_of (fuel:Nat) (ih:∀ k,k<fuel→∀ {cs:List Value} {x:DataW H×List MemPlace},DataW.trod enc prog w 0 (fun _=>true) true k 23 cs=some x→(x.1.weights prog 23).all (·≤reachBytes)=true→
   ∃ l:List Rb,Go.Dv.Op prog 1 LL w [rbsV l] cs∧smBs l=true∧l.length<1000000000000000)
  {c:List Value} {y:DataW H×List MemPlace} (hy:DataW.trod enc prog w 0 (fun _=>true) true fuel erb c=some y) (hwy:(y.1.weights prog erb).all (·≤reachBytes)=true) :
  ∃ r:Rb,Go.Dv.Op prog 1 LL w (rbC r) c∧smB r=true:=by
 obtain ⟨k',hk',hl,hfs⟩:=open_struct f_rb hy hwy
 rw[show prog.cellsOf erb=5 by kernel_rfl] at hl
 match c,hl with
 | [a,b,d,e,f],_=>
  obtain ⟨y0,t0,_⟩:=hfs 0 _ _ rfl
  obtain ⟨y1,t1,_⟩:=hfs 1 _ _ rfl
  obtain ⟨y2,t2,_⟩:=hfs 2 _ _ rfl
  obtain ⟨y3,t3,w3⟩:=hfs 3 _ _ rfl
  obtain ⟨y4,t4,w4⟩:=hfs 4 _ _ rfl
  rw[show prog.cellsOf eI=1 by kernel_rfl] at t0 t1 t2
  rw[show prog.cellsOf 22=1 by kernel_rfl] at t3
  rw[show prog.cellsOf 23=1 by kernel_rfl] at t4
  obtain ⟨m0,e0,o0,_⟩:=open_num (n:=1) (L:=LL) u_int t0
  obtain ⟨m1,e1,o1,_⟩:=open_num (n:=1) (L:=LL) u_int t1
  obtain ⟨m2,e2,o2,_⟩:=open_num (n:=1) (L:=LL) u_int t2
  obtain ⟨l3,o3,s3,n3⟩:=open_ras k' t3 w3
  obtain ⟨l4,o4,s4,n4⟩:=ih k' (by omega) t4 w4
  refine ⟨.mk m0 m1 m2 l3 l4,?_,?_⟩
  ·exact (((o0.append o1).append o2).append o3).append o4
  ·simp only[smB,s3,s4,Bool.and_true,Bool.and_eq_true,decide_eq_true_eq];exact ⟨n4,n3⟩
theorem open_rbs:∀ (fuel:Nat) {cs:List Value} {x:DataW H×List MemPlace},DataW.trod enc prog w 0 (fun _=>true) true fuel 23 cs=some x→(x.1.weights prog 23).all (·≤reachBytes)=true→
  ∃ l:List Rb,Go.Dv.Op prog 1 LL w [rbsV l] cs∧smBs l=true∧l.length<1000000000000000:=by
 intro fuel
 induction fuel using Nat.strongRecOn with
 | ind fuel ih=>
 intro cs x h hw
 obtain ⟨l,h1,h2,h3⟩:=open_slice (n:=1) (L:=LL) u_rbs (size:=5) (by kernel_rfl) (by kernel_rfl) (by omega) (of_decide_eq_true (by kernel_rfl)) rbC (fun r=>smB r=true) h hw fun k c y hk hy hwy=>
  open_rb_of k (fun k' hk'=>ih k' (by omega)) hy hwy
 rw[rbCs_flat] at h1
 exact ⟨l,h1,smBs_of h2,h3⟩
theorem open_rb (fuel:Nat) {c:List Value} {y:DataW H×List MemPlace} (hy:DataW.trod enc prog w 0 (fun _=>true) true fuel erb c=some y) (hwy:(y.1.weights prog erb).all (·≤reachBytes)=true) :
  ∃ r:Rb,Go.Dv.Op prog 1 LL w (rbC r) c∧smB r=true:=open_rb_of fuel (fun k _=>open_rbs k) hy hwy
end
end
end Go.Proofs.YtgeakofgklcipaaDoor
namespace Go.Proofs.YtgeakofgklcipaaDoor
open _root_.Go.Proofs.Tryd (prog)
open Go Go.RowKit Go.Ev Go.Dv
noncomputable section
@[reducible] def witB:Value:=.agg ⟨[.int .i64 0,.int .i64 0,.int .i64 0,.slice none 0 0,.slice none 0 0]⟩
end
end Go.Proofs.YtgeakofgklcipaaDoor
