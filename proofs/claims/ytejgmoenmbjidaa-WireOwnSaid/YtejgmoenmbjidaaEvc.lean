/-
  A part of the proof: conditions over an abstract memory,and that they are enough for what the model's calls do. No condition of its own.
-/
import Derived.Test.YtejgmoenmbjidaaEvb
import Derived.Below
import Derived.Laws.StructEq
set_option linter.unusedSimpArgs false
set_option linter.unusedVariables false
namespace Go.Ev
open Go Go.RowKit
theorem wR0 (Γ:Gam){z:List Z6}(h:z.map (con Γ)=z)(n:Nat):((List.replicate n z).flatten).map (con Γ)=(List.replicate n z).flatten:=by
 induction n with
 | zero=>rfl
 | succ n ih=>simp[List.replicate_succ,h,ih]
theorem jA0 {P:Z9}{w:Zw}{g:Nat}{o o':Obj}(h:w.heap[g]?=some o)(hc:∀ c e f,o≠.cells c e f):(setObj g o').run P w=.ok () (wset w g o'):=by
 simp only[setObj,Sem.run]
 rw[h]
 cases o<;>first|rfl|(exact absurd rfl (hc _ _ _))
theorem wG0 {p:Par}{Γ:Gam}{h:jB}{w:Zw}(hr:jU p Γ h w){r:Nat}{es:List MapEntry}{c:Nat}(hm:mapOf h r=some (es,c)){es':List MapEntry}{c':Nat}
  (hes:∀ e∈es',keyF e.key=true∧sc h.next e.val=true) :
  jU p Γ (qA0 h r es' c') (wset w (Γ.b r) (.map ⟨es'.map (qL Γ)⟩ c'))∧Fr p Γ h w (wset w (Γ.b r) (.map ⟨es'.map (qL Γ)⟩ c')):=by
 obtain ⟨⟨m,hg⟩,hlo,_,hw⟩:=kQ hr hm
 refine hr.put hg rfl hlo ?_
 simp only[OR]
 refine ⟨hes,?_⟩
 rw[qF _ _ _ (Array.getElem?_eq_some_iff.1 hw).1]
 simp
theorem lQ0 {k x:Z6}:∀ {es:List MapEntry} {i:Nat} {e:MapEntry},e∈modE k x es i→e∈es∨(e.key=k∧e.val=x)
 | [],_,e,h=>by simp[modE] at h
 | y :: es,0,e,h=>by
  simp only[modE,List.mem_cons] at h
  rcases h with rfl|h
  ·exact .inr ⟨rfl,rfl⟩
  ·exact .inl (by simp[h])
 | y :: es,i+1,e,h=>by
  simp only[modE,List.mem_cons] at h
  rcases h with rfl|h
  ·exact .inl (by simp)
  ·rcases lQ0 h with h|h
   ·exact .inl (by simp[h])
   ·exact .inr h
theorem lP0 (Γ:Gam){k x:Z6}:∀ (es:List MapEntry) (i:Nat),(modE k x es i).map (qL Γ)=(es.map (qL Γ)).modify i (λe=>{ e with key:=k,val:=con Γ x })
 | [],i=>by simp[modE]
 | y :: es,0=>by simp[modE,qL]
 | y :: es,i+1=>by simp[modE,lP0 Γ es i]
theorem mJ0:∀ {es:List MapEntry} {i:Nat} {e:MapEntry},e∈delE es i→e∈es
 | [],_,e,h=>by simp[delE] at h
 | y :: es,0,e,h=>by simp only[delE] at h;simp[h]
 | y :: es,i+1,e,h=>by
  simp only[delE,List.mem_cons] at h
  rcases h with rfl|h
  ·simp
  ·simp[mJ0 h]
theorem mI0 (Γ:Gam):∀ (es:List MapEntry) (i:Nat),(delE es i).map (qL Γ)=(es.map (qL Γ)).eraseIdx i
 | [],i=>by simp[delE]
 | y :: es,0=>by simp[delE]
 | y :: es,i+1=>by simp[delE,mI0 Γ es i]
theorem mE0 {k:Z6}:∀ {es:List MapEntry} {n i:Nat} {v:Z6},bQ k es n=some (some (i,v))→n≤i∧∃ e,es[i-n]?=some e∧wS0 k e.key=some true
 | [],n,i,v,h=>by simp[bQ] at h
 | e :: es,n,i,v,h=>by
  simp only[bQ] at h
  split at h
  ·rename_i hk;cases h;exact ⟨Z3 _,e,by simp,hk⟩
  ·obtain ⟨h1,e',h2,h3⟩:=mE0 h
   refine ⟨Z0,e',?_,h3⟩
   obtain ⟨j,hj⟩:∃ j,i-n=j+1:=⟨i-(n+1),Z0⟩
   rw[hj,List.getElem?_cons_succ,← h2]
   congr 1;omega
  ·cases h
theorem cV0 {a b:Z6}(h:wS0 a b=some true)(n:Nat):Instr.sameBits n b a=true:=by
 unfold wS0 at h
 split at h
 ·split at h
  ·rename_i hk
   have hk:=of_decide_eq_true hk
   subst hk
   simp only[Option.some.injEq,decide_eq_true_eq] at h
   subst h
   cases n<;>simp[Instr.sameBits]
  ·cases h
 ·simp only[Option.some.injEq] at h
  rw[← mM0] at h
  rename_i x y
  have:(y == x)=true:=by
   rw[mM0,qU0,beq_iff_eq]
   rw[mM0,qU0,beq_iff_eq] at h
   exact h.symm
  cases n<;>simpa[Instr.sameBits] using this
 ·cases h
theorem cZ0 {P:Z9}{a b:Z6}(h:wS0 a b=some true)(w:Zw):(Instr.keyThatStays b a).run P w=.ok a w:=by
 simp[Instr.keyThatStays,cV0 h]
theorem gJ0 {p:Par}{Γ:Gam}{h h':jB}{w:Zw}(hr:jU p Γ h w){t:Zt}{m k x v:Z6}(he:uZ0 p.P t m k x h=some (v,h')) :
  v=undef∧h'.next=h.next∧∃ w',(Instr.mapUpdate t (con Γ m) (con Γ k) (con Γ x)).run p.P w=.ok () w'∧jU p Γ h' w'∧Fr p Γ h w w':=by
 unfold uZ0 at he
 split at he
 ·rename_i kt et r hu
  split at he
  ·rename_i es c hk hm
   simp only[Z5,lY0] at hk
   obtain ⟨hk,hx⟩:=hk
   have hki:con Γ k=k:=qC Γ k (bL (jL0 hk))
   obtain ⟨_,hlo,hall,hw⟩:=kQ hr hm
   have hnc:∀ (c':Array Z6) e f,(Obj.map ⟨es.map (qL Γ)⟩ c)≠.cells c' e f:=λ_ _ _ h=>by cases h
   have nx:∀ (es':List MapEntry) (c':Nat),(qA0 h r es' c').next=h.next:=λes' c'=>by unfold qA0;rw[jB.put_eq]
   split at he
   ·rename_i i u hf
    cases he
    obtain ⟨_,e,hei,heq⟩:=mE0 hf
    simp only[Nat.sub_zero] at hei
    have hput:=wG0 hr hm (es':=modE k x es i) (c':=c) (λe he=>by
     rcases lQ0 he with h1|⟨h1,h2⟩
     ·exact hall e h1
     ·rw[h1,h2];exact ⟨jL0 hk,hx⟩)
    refine ⟨rfl,nx _ _,_,?_,hput.1,hput.2⟩
    have hek:((((⟨es.map (qL Γ)⟩:Array MapEntry)[i]?).map (·.key)).getD k)=e.key:=by
     simp[hei,qL]
    simp only[con,hki,Instr.mapUpdate,Sem.run_bind,jM hu,Result.andThen_ok,kP hw,run_checkKey hk,run_findKey (Γ:=Γ) hk hf,Option.map_some]
    rw[hek,cZ0 heq,Result.andThen_ok,jA0 hw hnc]
    congr 2
    have:(⟨es.map (qL Γ)⟩:Array MapEntry).modify i (λe=>{ e with key:=k,val:=con Γ x })=⟨(modE k x es i).map (qL Γ)⟩:=by
     apply Array.ext'
     rw[Array.toList_modify,lP0]
    rw[this]
   ·rename_i hf
    cases he
    have hput:=wG0 hr hm (es':=es++[⟨k,x,c⟩]) (c':=c+1) (λe he=>by
     simp only[List.mem_append,List.mem_singleton] at he
     rcases he with h1|rfl
     ·exact hall e h1
     ·exact ⟨jL0 hk,hx⟩)
    refine ⟨rfl,nx _ _,_,?_,hput.1,hput.2⟩
    simp only[con,hki,Instr.mapUpdate,Sem.run_bind,jM hu,Result.andThen_ok,kP hw,run_checkKey hk,run_findKey (Γ:=Γ) hk hf,Option.map_none]
    rw[jA0 hw hnc]
    congr 2
    simp[qL]
   ·cases he
  ·cases he
 ·cases he
theorem nL0 {p:Par}{Γ:Gam}{h h':jB}{w:Zw}(hr:jU p Γ h w){t ty:Zt}{ts:List Zt}{m k v:Z6}(he:uI0 p.P t m k h=some (v,h')) :
  v=.tuple #[]∧h'.next=h.next∧∃ w',(Builtin.delete_ ⟨t :: ts⟩ ty #[con Γ m,con Γ k]).run p.P w=.ok (.tuple #[]) w'∧jU p Γ h' w'∧Fr p Γ h w w':=by
 unfold uI0 at he
 split at he
 ·rename_i kt et hu
  split at he
  ·rename_i hk
   cases he
   have hki:con Γ k=k:=qC Γ k (bL (jL0 hk))
   refine ⟨rfl,rfl,w,?_,hr,Fr.refl w⟩
   simp[Builtin.delete_,con,hki,jM hu,run_checkKey hk]
  ·rename_i r hk
   have hki:con Γ k=k:=qC Γ k (bL (jL0 hk))
   split at he
   ·rename_i es c hm
    obtain ⟨_,hlo,hall,hw⟩:=kQ hr hm
    have hnc:∀ (c':Array Z6) e f,(Obj.map ⟨es.map (qL Γ)⟩ c)≠.cells c' e f:=λ_ _ _ h=>by cases h
    have nx:∀ (es':List MapEntry) (c':Nat),(qA0 h r es' c').next=h.next:=λes' c'=>by unfold qA0;rw[jB.put_eq]
    split at he
    ·rename_i i u hf
     cases he
     have hput:=wG0 hr hm (es':=delE es i) (c':=c) (λe he=>hall e (mJ0 he))
     refine ⟨rfl,nx _ _,_,?_,hput.1,hput.2⟩
     simp[Builtin.delete_,con,hki,jM hu,kP hw,run_checkKey hk,run_findKey (Γ:=Γ) hk hf]
     rw[jA0 hw hnc,Result.andThen_ok]
     congr 3
     apply Array.ext'
     simp[mI0]
    ·rename_i hf
     cases he
     have hput:=wG0 hr hm (es':=es) (c':=c) hall
     refine ⟨rfl,nx _ _,_,?_,hput.1,hput.2⟩
     simp[Builtin.delete_,con,hki,jM hu,kP hw,run_checkKey hk,run_findKey (Γ:=Γ) hk hf]
     rw[jA0 hw hnc]
     rfl
    ·cases he
   ·cases he
  ·cases he
 ·cases he
theorem nM0 {p:Par}{Γ:Gam}{h h':jB}{w:Zw}(hr:jU p Γ h w){t ty:Zt}{m v:Z6}(he:kS p.P t m h=some (v,h')) :
  v=.tuple #[]∧h'.next=h.next∧∃ w',(Builtin.clear_ #[t] ty #[con Γ m]).run p.P w=.ok (.tuple #[]) w'∧jU p Γ h' w'∧Fr p Γ h w w':=by
 unfold kS at he
 split at he
 ·rename_i e hu
  split at he
  ·cases he
   exact ⟨rfl,rfl,w,by simp[Builtin.clear_,con,jM hu],hr,Fr.refl w⟩
  ·rename_i b off n c
   split at he
   ·cases he
    exact ⟨rfl,rfl,w,by simp[Builtin.clear_,con,uZ,jM hu],hr,Fr.refl w⟩
   ·rename_i n
    unfold rW0 at he
    split at he
    ·rename_i cs ct mo z hc hz
     split at he
     ·rename_i hb
      simp only[Z5,List.all_eq_true,Nat.ble_eq] at hb
      obtain ⟨⟨hzf,hz1⟩,h4⟩:=hb
      split at he<;>cases he
      rename_i cs' hset
      obtain ⟨hle,rfl⟩:=kM0 hset
      obtain ⟨fr0,hg⟩:=bM hc
      have hG:p.G≤b:=by rw[← hr.lo];exact h4
      obtain ⟨hlt,rest,fr,hrow⟩:=hr.row hc hG
      have hmem:∀ x∈(List.replicate (n+1) z.cells.toList).flatten,x∈z.cells.toList:=λx hx=>by
       simp only[List.mem_flatten] at hx
       obtain ⟨l,hl,hx⟩:=hx
       rw[(List.mem_replicate.1 hl).2] at hx
       exact hx
      have hzm:z.cells.toList.map (con Γ)=z.cells.toList:=by rw[← bF];exact gW Γ _ hzf
      have hmap:=wR0 Γ hzm (n+1)
      have hst:=kK p.P (Γ.b b) off ct fr ((List.replicate (n+1) z.cells.toList).flatten) 0 (cs.map (con Γ)++rest) w hrow.heap
       (by simpa using hrow.fr) (by simp only[List.length_append,List.length_map] at hle ⊢;omega) (λx hx=>hz1 x (hmem x hx))
      have hset:jJ (cs.map (con Γ)++rest) (off+0) ((List.replicate (n+1) z.cells.toList).flatten)=(jJ cs off ((List.replicate (n+1) z.cells.toList).flatten)).map (con Γ)++rest:=by
       rw[jC0,hmap]
       generalize (List.replicate (n+1) z.cells.toList).flatten=L at hle ⊢
       simp only[jJ,Nat.add_zero,List.length_map]
       rw[List.take_append_of_le_length (by simp;omega),List.drop_append_of_le_length (by simp;omega)]
       simp
      rw[hset] at hst
      have hlen:(jJ cs off ((List.replicate (n+1) z.cells.toList).flatten)).length=cs.length:=by
       generalize (List.replicate (n+1) z.cells.toList).flatten=L at hle ⊢
       simp only[jJ,List.length_append,List.length_take,List.length_drop]
       omega
      have hok:∀ x∈jJ cs off ((List.replicate (n+1) z.cells.toList).flatten),one x=true∧sc h.next x=true:=by
       intro x hx
       simp only[jJ,List.mem_append] at hx
       rcases hx with (hx|hx)|hx
       ·exact hrow.ok x (List.mem_of_mem_take hx)
       ·exact ⟨hz1 x (hmem x hx),qV (uB0 h.next _ hzf) x (hmem x hx)⟩
       ·exact hrow.ok x (List.mem_of_mem_drop hx)
      have hput:=hr.put (x':=⟨.cells ⟨jJ cs off ((List.replicate (n+1) z.cells.toList).flatten)⟩ ct,mo⟩) (o:=.cells ⟨(jJ cs off ((List.replicate (n+1) z.cells.toList).flatten)).map (con Γ)++rest⟩ ct fr) hg rfl h4 (by
       simp only[OR]
       refine ⟨λ_=>⟨hok,rest,fr,?_,?_,hrow.no,?_⟩,λh0=>absurd h0 (Nat.not_lt.2 hG)⟩
       ·rw[qF _ _ _ (Array.getElem?_eq_some_iff.1 hrow.heap).1];simp
       ·have:=hrow.fr
        simp only[List.size_toArray,hlen];exact this
       ·intro hm
        obtain ⟨ti,hh1,h2⟩:=hrow.more hm
        exact ⟨ti,hh1,by simp only[List.size_toArray,hlen];exact h2⟩)
      refine ⟨rfl,by rw[jB.put_eq],_,?_,hput.1,hput.2⟩
      have hzc:(Builtin.zeroCells z.cells (n+1)).toList=(List.replicate (n+1) z.cells.toList).flatten:=kO0 z.cells (n+1)
      simp only[Builtin.clear_,con,uZ,Sem.run_bind,jM hu,Result.andThen_ok,List.getElem?_toArray,List.getElem?_cons_zero]
      simp only[Sem.run_bind,jM hu,gF0 hz,Result.andThen_ok,hzc,hst,Sem.run_pure]
     ·cases he
    ·cases he
  ·cases he
 ·rename_i hu
  split at he
  ·cases he
   exact ⟨rfl,rfl,w,by simp[Builtin.clear_,con,jM hu],hr,Fr.refl w⟩
  ·rename_i r
   split at he
   ·rename_i es c hm
    cases he
    obtain ⟨_,hlo,hall,hw⟩:=kQ hr hm
    have hnc:∀ (c':Array Z6) e f,(Obj.map ⟨es.map (qL Γ)⟩ c)≠.cells c' e f:=λ_ _ _ h=>by cases h
    have hput:=wG0 hr hm (es':=[]) (c':=c) (λe he=>by cases he)
    refine ⟨rfl,by unfold qA0;rw[jB.put_eq],_,?_,hput.1,hput.2⟩
    simp[Builtin.clear_,con,jM hu,kP hw]
    rw[jA0 hw hnc]
    rfl
   ·cases he
  ·cases he
 ·cases he
theorem nK0 {p:Par}{Γ:Gam}{h:jB}{w:Zw}(hr:jU p Γ h w) :
  jU p (Γ.ext h.next w.heap.size 0) (h.new ⟨.map ⟨[]⟩ 0,false⟩).2 (w.alloc (.map #[] 0))∧Fr p Γ h w (w.alloc (.map #[] 0)):=by
 refine hr.new (x:=⟨.map ⟨[]⟩ 0,false⟩) (o:=.map #[] 0) (k:=0) ?_
 simp only[OR]
 refine ⟨λe he=>by simp at he,?_⟩
 rw[Gam.ext_b]
 have:Array.map (qL (Γ.ext h.next w.heap.size 0)) ⟨[]⟩=#[]:=by simp
 rw[this]
 exact heap_alloc_new w _
theorem kZ0 {p:Par}{Γ:Gam}{h:jB}{w:Zw}(hr:jU p Γ h w)(m:Z8 Nat)(hm:∀ r,m=some r→r<h.next)(c:Nat) :
  jU p (Γ.ext h.next w.heap.size 0) (h.new ⟨.mapIter m c #[] c,false⟩).2 (w.alloc (.mapIter (m.map Γ.b) c #[] c))∧Fr p Γ h w (w.alloc (.mapIter (m.map Γ.b) c #[] c)):=by
 refine hr.new (x:=⟨.mapIter m c #[] c,false⟩) (o:=.mapIter (m.map Γ.b) c #[] c) (k:=0) ?_
 simp only[OR]
 refine ⟨λr hr'=>Nat.lt_succ_of_lt (hm r hr'),?_⟩
 rw[Gam.ext_b]
 have:m.map (Γ.ext h.next w.heap.size 0).b=m.map Γ.b:=by
  cases m with
  | none=>rfl
  | some r=>simp only[Option.map_some,(Γ.ext_ag h.next w.heap.size 0).b r (hm r rfl)]
 rw[this]
 exact heap_alloc_new w _
theorem fH0 (n:Nat):∀ l:List Nat,memN n l=l.contains n
 | []=>rfl
 | x :: l=>by
  simp only[memN,List.contains_cons,fH0 n l]
  have hb:Nat.beq x n=(n == x):=by
   rw[Bool.eq_iff_iff,Nat.beq_eq,beq_iff_eq];exact ⟨λh=>h.symm,λh=>h.symm⟩
  rw[hb]
  cases (n == x)<;>simp
theorem dK0 (Γ:Gam)(seen:List Nat):∀ es:List MapEntry,(es.map (qL Γ)).filter (λe=>!(⟨seen⟩:Array Nat).contains e.born)=(gZ seen es).map (qL Γ)
 | []=>rfl
 | e :: es=>by
  have hc:(⟨seen⟩:Array Nat).contains (qL Γ e).born=memN e.born seen:=by rw[fH0];simp[qL]
  simp only[List.map_cons,List.filter_cons,gZ,hc,dK0 Γ seen es]
  cases memN e.born seen<;>simp
theorem lL0 (Γ:Gam)(since:Nat):∀ es:List MapEntry,(es.map (qL Γ)).filter (λe=>decide (e.born<since))=(oldE since es).map (qL Γ)
 | []=>rfl
 | e :: es=>by
  have hc:decide ((qL Γ e).born<since)=Nat.blt e.born since:=by
   rw[Bool.eq_iff_iff,decide_eq_true_iff,Nat.blt_eq];rfl
  simp only[List.map_cons,List.filter_cons,oldE,hc,lL0 Γ since es]
  cases Nat.blt e.born since<;>simp
theorem lO0 (Γ:Gam)(since:Nat):∀ es:List MapEntry,(es.map (qL Γ)).filter (λe=>decide (e.born ≥ since))=(newE since es).map (qL Γ)
 | []=>rfl
 | e :: es=>by
  have hc:decide ((qL Γ e).born ≥ since) = !Nat.blt e.born since:=by
   cases hb:Nat.blt e.born since with
   | true=>simp only[Nat.blt_eq] at hb;simp only[Bool.not_true,decide_eq_false_iff_not,ge_iff_le,Nat.not_le];exact hb
   | false=>
    have:¬ e.born<since:=λh=>by
     have:Nat.blt e.born since=true:=by simpa using h
     rw[this] at hb;cases hb
    simp only[Bool.not_false,decide_eq_true_eq,ge_iff_le];exact Nat.not_lt.1 this
  simp only[List.map_cons,List.filter_cons,newE,hc,lO0 Γ since es]
  cases Nat.blt e.born since<;>simp
theorem gZ0 (Γ:Gam)(last:Nat):∀ es:List MapEntry,yR0 last es=true→(es.map (qL Γ)).all (λe=>decide (e.born ≥ last))=false
 | [],h=>by cases h
 | e :: es,h=>by
  simp only[yR0] at h
  simp only[List.map_cons,List.all_cons]
  split at h
  ·rename_i hb
   simp only[Nat.blt_eq] at hb
   have:decide ((qL Γ e).born ≥ last)=false:=by simp only[decide_eq_false_iff_not,ge_iff_le,Nat.not_le];exact hb
   rw[this,Bool.false_and]
  ·rw[gZ0 Γ last es h,Bool.and_false]
theorem wR1 {P:Z9}{w:Zw}{n:Nat}(hn:0<n):∃ i w',i<n∧(choose (.mapNext n)).run P w=.ok i w'∧w'.heap=w.heap∧(w'=w∨w'=w.drew):=by
 rw[run_choose_drew]
 by_cases h:(Question.mapNext n).forced
 ·rw[if_pos h];exact ⟨0,w,hn,rfl,rfl,.inl rfl⟩
 ·rw[if_neg h];exact ⟨_,_,Nat.mod_lt _ hn,rfl,rfl,.inr rfl⟩
theorem jB1 {p:Par}{Γ:Gam}{h:jB}{w w' w2:Zw}(e:w'=w∨w'=w.drew)(f:Fr p Γ h w' w2):Fr p Γ h w w2:=by
 rcases e with rfl|rfl
 ·exact f
 ·exact ⟨(Below.refl p.B w).drew.trans f.below,f.low⟩
theorem mem_left {seen:List Nat}:∀ {l:List MapEntry} {x:MapEntry},x∈gZ seen l→x∈l
 | y :: l,x,hx=>by
  simp only[gZ] at hx
  split at hx
  ·simp[mem_left hx]
  ·rcases List.mem_cons.1 hx with rfl|hx
   ·simp
   ·simp[mem_left hx]
 | [],x,hx=>by cases hx
theorem fF0 {since:Nat}:∀ {l:List MapEntry} {x:MapEntry},x∈oldE since l→x∈l
 | y :: l,x,hx=>by
  simp only[oldE] at hx
  split at hx
  ·rcases List.mem_cons.1 hx with rfl|hx
   ·simp
   ·simp[fF0 hx]
  ·simp[fF0 hx]
 | [],x,hx=>by cases hx
theorem fG0 {since:Nat}:∀ {l:List MapEntry} {x:MapEntry},x∈newE since l→x∈l
 | y :: l,x,hx=>by
  simp only[newE] at hx
  split at hx
  ·simp[fG0 hx]
  ·rcases List.mem_cons.1 hx with rfl|hx
   ·simp
   ·simp[fG0 hx]
 | [],x,hx=>by cases hx
theorem dG0 {p:Par}{Γ:Gam}{h:jB}{w:Zw}(hr:jU p Γ h w){it:Z6}{l:List (Z6×jB)}{ty:Zt}(he:jI0 it h=some l) :
  ∃ v h',(v,h')∈l∧sc h'.next v=true∧h'.next=h.next∧∃ w',(Instr.next (con Γ it) false ty).run p.P w=.ok (con Γ v) w'∧jU p Γ h' w'∧Fr p Γ h w w':=by
 unfold jI0 at he
 split at he
 ·rename_i b
  split at he
  ·rename_i a c d mo hg hlo
   cases he
   obtain ⟨hO1,hO2⟩:=(hr.obj b _ hg).2
   refine ⟨_,_,List.mem_singleton.2 rfl,rfl,rfl,w,?_,hr,Fr.refl w⟩
   simp[con,uZ,Instr.next,getObj,Sem.run,hO2,conL]
  ·rename_i m since seen last mo hg hlo
   simp only[Nat.ble_eq] at hlo
   split at he
   ·rename_i es c hm
    split at he
    ·rename_i hq
     cases he
     obtain ⟨hO1,hO2⟩:=(hr.obj b _ hg).2
     obtain ⟨_,_,hall,hw⟩:=kQ hr hm
     have hget:(getObj (Γ.b b)).run p.P w=.ok (.mapIter (some (Γ.b m)) since ⟨seen⟩ last) w:=by simp[getObj,Sem.run,hO2]
     have hf1:(⟨es.map (qL Γ)⟩:Array MapEntry).filter (λe=>!(⟨seen⟩:Array Nat).contains e.born)=⟨(gZ seen es).map (qL Γ)⟩:=by
      apply Array.ext';rw[Array.toList_filter];exact dK0 Γ seen es
     have hf2:(⟨(gZ seen es).map (qL Γ)⟩:Array MapEntry).filter (λe=>decide (e.born<since))=⟨(oldE since (gZ seen es)).map (qL Γ)⟩:=by
      apply Array.ext';rw[Array.toList_filter];exact lL0 Γ since _
     have hf3:(⟨(gZ seen es).map (qL Γ)⟩:Array MapEntry).filter (λe=>decide (e.born ≥ since))=⟨(newE since (gZ seen es)).map (qL Γ)⟩:=by
      apply Array.ext';rw[Array.toList_filter];exact lO0 Γ since _
     have hgd:(!(⟨seen⟩:Array Nat).isEmpty&&!(⟨es.map (qL Γ)⟩:Array MapEntry).isEmpty&&(⟨es.map (qL Γ)⟩:Array MapEntry).all (λe=>decide (e.born ≥ last)))=false:=by
      simp only[Bool.or_eq_true] at hq
      rcases hq with (hq|hq)|hq
      ·have:(⟨seen⟩:Array Nat).isEmpty=true:=by simpa using hq
       rw[this];rfl
      ·have:(⟨es.map (qL Γ)⟩:Array MapEntry).isEmpty=true:=by simpa using hq
       rw[this];simp
      ·have : (⟨es.map (qL Γ)⟩ : Array MapEntry).all (fun e => decide (e.born ≥ last)) = false := by
        rw[← Array.all_toList];exact gZ0 Γ last es hq
       rw[this];simp
     generalize hO:oldE since (gZ seen es)=old at hf2 ⊢
     generalize hN:newE since (gZ seen es)=new at hf3 ⊢
     have hmem:∀ e∈old++new,e∈es:=λe he=>by
      rcases List.mem_append.1 he with he|he
      ·exact mem_left (fF0 (by rw[hO];exact he))
      ·exact mem_left (fG0 (by rw[hN];exact he))
     have hc : ((if (⟨old.map (qL Γ)⟩ : Array MapEntry).isEmpty then #[none] else #[]) ++ (((⟨old.map (qL Γ)⟩ : Array MapEntry) ++ (⟨new.map (qL Γ)⟩ : Array MapEntry)).map some) : Array (Z8 MapEntry))
       = ⟨endE old none++(old++new).map λe=>some (qL Γ e)⟩:=by
      apply Array.ext'
      cases old with
      | nil=>simp[endE,Function.comp_def]
      | cons x old=>simp[endE,Function.comp_def]
     generalize hL:(endE old none++(old++new).map λe=>some (qL Γ e):List (Z8 MapEntry))=L at hc
     have hpos:0<L.length:=by
      rw[← hL]
      cases old with
      | nil=>simp[endE]
      | cons x old=>simp[endE]
     obtain ⟨i,w1,hi,hp,hh,hw1⟩:=wR1 (P:=p.P) (w:=w) hpos
     have hr1:jU p Γ h w1:=hr.of_heap hh
     have hrun : (Instr.next (con Γ (.pointer (some ⟨b, 0, none⟩))) false ty).run p.P w = (match L[i]? with
       | some (some e)=>do
        setObj (Γ.b b) (.mapIter (some (Γ.b m)) since ((⟨seen⟩:Array Nat).push e.born) c)
        pure (.tuple #[.bool true,e.key,e.val])
       | some none=>pure (.tuple #[.bool false])
       | none => stuck "Next: no such candidate" : Sem Value).run p.P w1 := by
      simp only[con,uZ,Instr.next,Sem.run_bind,hget,Result.andThen_ok,kP hw,hgd,Bool.false_eq_true,if_false,Sem.run_pure]
      simp only[hf1,hf2,hf3]
      simp only[hc,List.size_toArray,hp,Result.andThen_ok,List.getElem?_toArray]
      rfl
     cases hx:L[i]? with
     | none=>rw[List.getElem?_eq_none_iff] at hx;omega
     | some x=>
      have hxm:=List.mem_of_getElem? hx
      rw[hx] at hrun
      rw[← hL] at hxm
      cases x with
      | none=>
       have hoe:old=[]:=by
        cases old with
        | nil=>rfl
        | cons x old=>simp[endE] at hxm
       subst hoe
       refine ⟨_,_,List.mem_append_left _ (List.mem_singleton.2 rfl),rfl,rfl,w1,?_,hr1,jB1 hw1 (Fr.refl _)⟩
       rw[hrun]
       simp[con,conL]
      | some e'=>
       obtain ⟨e,he,rfl⟩:∃ e∈old++new,qL Γ e=e':=by
        rcases List.mem_append.1 hxm with h1|h1
        ·cases old<;>simp[endE] at h1
        ·obtain ⟨e,he,h2⟩:=List.mem_map.1 h1
         exact ⟨e,he,Option.some.inj h2⟩
       obtain ⟨hk,hv⟩:=hall e (hmem e he)
       obtain ⟨_,hO2'⟩:=(hr1.obj b _ hg).2
       have hput:=hr1.put (x':=⟨.mapIter (some m) since ⟨seen++[e.born]⟩ c,false⟩) (o:=.mapIter (some (Γ.b m)) since ⟨seen++[e.born]⟩ c) hg rfl hlo (by
        simp only[OR]
        refine ⟨hO1,?_⟩
        rw[qF _ _ _ (Array.getElem?_eq_some_iff.1 hO2').1];simp)
       have hnc:∀ (c':Array Z6) e f,(Obj.mapIter (some (Γ.b m)) since ⟨seen⟩ last)≠.cells c' e f:=λ_ _ _ h=>by cases h
       refine ⟨_,_,List.mem_append_right _ (List.mem_map.2 ⟨e,he,rfl⟩),by rw[jB.put_eq];simp[sc,scL,gB _ _ (bL hk),hv],by rw[jB.put_eq],_,?_,hput.1,jB1 hw1 hput.2⟩
       rw[hrun]
       simp[conL,con,qL,qC Γ _ (bL hk),jA0 hO2' hnc]
    ·cases he
   ·cases he
  ·cases he
 ·cases he
theorem dF0 {p:Par}{Γ:Gam}{h h':jB}{w:Zw}(hr:jU p Γ h w){ca:Act}{tm:VT}{o:Oper}{t kt et:Zt}{x:Zo}{v:Z6}(ho:o.op=.range t x)(hx:ca.eval x=con Γ (ev tm x))
  (hu:p.P.underlying t=some (.map kt et)) (he:mapRange (ev tm x) h=some (v,h')):Out p Γ h ca o w v h'∧sc h'.next v=true:=by
 unfold mapRange at he
 have hn:∀ y,(h.new y).2.next=h.next+1:=λy=>by rw[jB.new_eq]
 split at he
 ·rename_i hxe
  cases he
  have hnew:=kZ0 hr none (λr h=>by cases h) 0
  refine ⟨⟨_,_,_,?_,.inl rfl,Γ.ext_ag _ _ _,by rw[hn];omega,hnew.1,hnew.2⟩,by rw[hn];simp[sc,scA]⟩
  rw[jG0]
  simp[execOp,ho,hx,hxe,con,Instr.range,jM hu]
 ·rename_i m hxe
  split at he<;>cases he
  rename_i es c hm
  obtain ⟨⟨mo,hg⟩,_,hall,hw⟩:=kQ hr hm
  have hnew:=kZ0 hr (some m) (λr h=>by cases h;exact (hr.obj m _ hg).1) c
  refine ⟨⟨_,_,_,?_,.inl rfl,Γ.ext_ag _ _ _,by rw[hn];omega,hnew.1,hnew.2⟩,by rw[hn];simp[sc,scA]⟩
  rw[jG0]
  simp[execOp,ho,hx,hxe,con,Instr.range,jM hu,kP hw]
 ·cases he
theorem jK0 {r:Z8 (Z6×jB)}{l:List (Z6×jB)}(h:one1 r=some l):∃ v h',r=some (v,h')∧l=[(v,h')]:=by
 unfold one1 at h
 split at h
 ·rename_i x;cases h;exact ⟨x.1,x.2,rfl,rfl⟩
 ·cases h
theorem wW1 {p:Par}{Γ:Gam}{h:jB}{w:Zw}(hr:jU p Γ h w){tm:VT}{ca:Act}{o:Oper}{l:List (Z6×jB)}(hev:∀ x∈o.op.operands,ca.eval x=con Γ (ev tm x))
  (he:mapE p.P o.op tm h=some l):∃ v h',(v,h')∈l∧Out p Γ h ca o w v h'∧sc h'.next v=true:=by
 unfold mapE at he
 split at he
 ·rename_i t r ho
  obtain ⟨v,h',he2,rfl⟩:=jK0 he
  refine ⟨v,h',List.mem_singleton.2 rfl,?_⟩
  have hnew:=nK0 hr
  unfold gK0 at he2
  have hcv:con (Γ.ext h.next w.heap.size 0) (.map (some h.next))=.map (some w.heap.size):=by simp[con,Gam.ext_b]
  have hn:(h.new ⟨.map ⟨[]⟩ 0,false⟩).2.next=h.next+1:=by rw[jB.new_eq]
  split at he2
  ·rename_i hu hre
   cases he2
   refine ⟨⟨_,_,_,?_,.inl rfl,Γ.ext_ag _ _ _,by rw[hn];omega,hnew.1,hnew.2⟩,by rw[hn];simp[sc]⟩
   cases r with
   | some x=>cases hre
   | none=>
    rw[hcv]
    simp[execOp,ho,Instr.makeMap]
  ·cases he2
 ·rename_i t m k x ho
  obtain ⟨v,h',he2,rfl⟩:=jK0 he
  obtain ⟨rfl,h1,w',h2,h3,h4⟩:=gJ0 hr he2
  refine ⟨_,h',List.mem_singleton.2 rfl,⟨Γ,w',.skip,?_,.inr ⟨rfl,rfl⟩,Ag.refl _ _,Z0,h3,h4⟩,rfl⟩
  simp only[execOp,ho,hev m (by simp[ho,Op.operands]),hev k (by simp[ho,Op.operands]),hev x (by simp[ho,Op.operands]),Sem.run_bind,h2,Result.andThen_ok,Sem.run_pure]
 ·rename_i t m k x ho
  obtain ⟨v,h',he2,rfl⟩:=jK0 he
  obtain ⟨rfl,h1,w',h2,h3,h4⟩:=gJ0 hr he2
  refine ⟨_,h',List.mem_singleton.2 rfl,⟨Γ,w',.skip,?_,.inr ⟨rfl,rfl⟩,Ag.refl _ _,Z0,h3,h4⟩,rfl⟩
  simp only[execOp,ho,hev m (by simp[ho,Op.operands]),hev k (by simp[ho,Op.operands]),hev x (by simp[ho,Op.operands]),Sem.run_bind,h2,Result.andThen_ok,Sem.run_pure]
 ·rename_i args ats ho
  split at he
  ·rename_i m k t ts hA hT
   have hT':ats=⟨t :: ts⟩:=Array.ext' hT
   have hA':args=#[m,k]:=Array.ext' hA
   subst hT' hA'
   have hm:=hev m (by simp[ho,Op.operands,Call.operands])
   have hk:=hev k (by simp[ho,Op.operands,Call.operands])
   obtain ⟨v,h',he2,rfl⟩:=jK0 he
   obtain ⟨rfl,h1,w',h2,h3,h4⟩:=nL0 (ty:=o.type) (ts:=ts) hr he2
   refine ⟨_,h',List.mem_singleton.2 rfl,⟨Γ,w',_,?_,.inl rfl,Ag.refl _ _,Z0,h3,h4⟩,by simp[sc,scL]⟩
   simp[execOp,ho,resolve,invoke,builtin,hm,hk,h2,con,conL]
  ·cases he
 ·rename_i args ats ho
  split at he
  ·rename_i m t hA hT
   have hT':ats=#[t]:=Array.ext' hT
   have hA':args=#[m]:=Array.ext' hA
   subst hT' hA'
   have hm:=hev m (by simp[ho,Op.operands,Call.operands])
   obtain ⟨v,h',he2,rfl⟩:=jK0 he
   obtain ⟨rfl,h1,w',h2,h3,h4⟩:=nM0 (ty:=o.type) hr he2
   refine ⟨_,h',List.mem_singleton.2 rfl,⟨Γ,w',_,?_,.inl rfl,Ag.refl _ _,Z0,h3,h4⟩,by simp[sc,scL]⟩
   simp[execOp,ho,resolve,invoke,builtin,hm,h2,con,conL]
  ·cases he
 ·rename_i t x ho
  split at he
  ·rename_i kt et hu
   obtain ⟨v,h',he2,rfl⟩:=jK0 he
   exact ⟨v,h',List.mem_singleton.2 rfl,dF0 hr ho (hev x (by simp[ho,Op.operands])) hu he2⟩
  ·cases he
 ·rename_i it ho
  obtain ⟨v,h',hm,h0,h1,w',h2,h3,h4⟩:=dG0 (ty:=o.type) hr he
  refine ⟨v,h',hm,⟨Γ,w',_,?_,.inl rfl,Ag.refl _ _,Z0,h3,h4⟩,h0⟩
  simp only[execOp,ho,hev it (by simp[ho,Op.operands]),Sem.run_bind,h2,Result.andThen_ok,Sem.run_pure]
 ·cases he
end Go.Ev
namespace Go.Ev
open Go Go.RowKit
section
variable {F:Fence} {n:Nat} {P:Z9} {ops:Array Oper} {Q:Exit→Act→Zw→Prop} {md:Region.Mode}
def anyX (F:Fence)(n:Nat)(P:Z9)(md:Region.Mode)(ops:Array Oper)(Q:Exit→Act→Zw→Prop)(S:List Nat→Zw→Prop):Nat→Array Zb→List Nat→Act→Zw→Prop
 | 0,listed,_,a,w=>Region.ready md ops listed=[]∧Q .normal a w
 | fuel+1,listed,dn,a,w=>
  (Region.ready md ops listed=[]→Q .normal a w)∧
  ∀ i∈Region.ready md ops listed,opW F n P ops Q i (λa' w'=>(S (i :: dn) w'∨w'=w)∧anyX F n P md ops Q S fuel (listed.setIfInBounds i true) (i :: dn) a' w') a w
theorem zC0 (hF:FW F)(hd:bR0 ops){S:List Nat→Zw→Prop}:∀ (fuel:Nat) (listed:Array Zb) (dn:List Nat) (a:Act) (w:Zw),anyX F n P md ops Q S fuel listed dn a w→wpAnyIn F n P md ops Q fuel listed a w
 | 0,_,_,_,_,h=>h
 | fuel+1,_,dn,_,_,h=>⟨h.1,λi hi=>pM0 hF hd (zY0 (λa' w' h'=>zC0 hF hd fuel _ _ a' w' h'.2) (h.2 i hi))⟩
theorem yQ0 {S S':List Nat→Zw→Prop}(hS:∀ i w,S i w→S' i w):∀ (fuel:Nat) (listed:Array Zb) (dn:List Nat) (a:Act) (w:Zw),anyX F n P md ops Q S fuel listed dn a w→anyX F n P md ops Q S' fuel listed dn a w
 | 0,_,_,_,_,h=>h
 | fuel+1,_,dn,_,_,h=>⟨h.1,λi hi=>zY0 (λa' w' h'=>⟨h'.1.imp (hS _ _) id,yQ0 hS fuel _ _ a' w' h'.2⟩) (h.2 i hi)⟩
theorem uB1 {S:List Nat→Zw→Prop}(hS:∀ d d' w,(∀ x∈d,x∈d')→S d w→S d' w):∀ (fuel:Nat) (listed:Array Zb) (dn dn':List Nat) (a:Act) (w:Zw),(∀ x∈dn,x∈dn')→anyX F n P md ops Q S fuel listed dn a w→anyX F n P md ops Q S fuel listed dn' a w
 | 0,_,_,_,_,_,_,h=>h
 | fuel + 1, _, dn, dn', _, _, hd, h => ⟨h.1, fun i hi => zY0 (fun a' w' h' => by
   have hd':∀ x∈i :: dn,x∈i :: dn':=λx hx=>by
    rcases List.mem_cons.1 hx with rfl|hx
    ·exact List.mem_cons_self ..
    ·exact List.mem_cons_of_mem _ (hd x hx)
   exact ⟨h'.1.imp (hS _ _ _ hd') id,uB1 hS fuel _ _ _ a' w' hd' h'.2⟩) (h.2 i hi)⟩
inductive Beh (md:Region.Mode)(ops:Array Oper):Nat→Nat→Prop
 | one {k:Nat} {ok:Oper} {e:Edge} (hk:ops[k]?=some ok) (he:e∈ok.after) (hb:Region.binds md e=true):Beh md ops k e.on
 | step {k i:Nat} {ok:Oper} {e:Edge} (hk:ops[k]?=some ok) (he:e∈ok.after) (hb:Region.binds md e=true) (h:Beh md ops e.on i):Beh md ops k i
theorem Beh.snoc {k j:Nat}(h:Beh md ops k j):∀ {oj:Oper} {e:Edge},ops[j]?=some oj→e∈oj.after→Region.binds md e=true→Beh md ops k e.on:=by
 induction h with
 | one hk he hb=>exact λhj he' hb'=>.step hk he hb (.one hj he' hb')
 | step hk he hb _ ih=>exact λhj he' hb'=>.step hk he hb (ih hj he' hb')
def kT0 (md:Region.Mode)(ops:Array Oper)(dn:List Nat)(i:Nat):Prop:=∀ k∈dn,¬ Beh md ops k i
structure bV (md:Region.Mode)(ops:Array Oper)(listed:Array Zb)(dn:List Nat):Prop where
 all:∀ k ok,ops[k]?=some ok→listed.getD k true=true→∀ e∈ok.after,Region.binds md e=true→listed.getD e.on true=true
 dn:∀ k∈dn,listed.getD k true=true
variable {S:List Nat→Zw→Prop} {T:Zw→Prop}
theorem bV.beh {listed:Array Zb}{dn:List Nat}(hc:bV md ops listed dn){k i:Nat}(h:Beh md ops k i)(hk:listed.getD k true=true):listed.getD i true=true:=by
 induction h with
 | one hok he hb=>exact hc.all _ _ hok hk _ he hb
 | step hok he hb _ ih=>exact ih (hc.all _ _ hok hk _ he hb)
theorem jV0 {listed:Array Zb}{i j:Nat}(h:listed.getD j true=true):(listed.setIfInBounds i true).getD j true=true:=by
 by_cases e:i=j
 ·subst e
  rw[Array.getD_eq_getD_getElem?,Array.getElem?_setIfInBounds]
  simp only[if_true]
  split<;>rfl
 ·rw[getD_set_ne true e];exact h
theorem cC0 {listed:Array Zb}{i:Nat}:(listed.setIfInBounds i true).getD i true=true:=by
 rw[Array.getD_eq_getD_getElem?,Array.getElem?_setIfInBounds]
 simp only[if_true]
 split<;>rfl
theorem bV.list {listed:Array Zb}{dn:List Nat}(hc:bV md ops listed dn){j:Nat}(hj:j∈Region.ready md ops listed):bV md ops (listed.setIfInBounds j true) dn:=by
 refine ⟨λk ok hok hk e he hb=>jV0 ?_,λk hk=>jV0 (hc.dn k hk)⟩
 by_cases hkj:j=k
 ·subst hkj
  obtain ⟨_,oj,hoj,hall⟩:=mem_ready.1 hj
  rw[hok] at hoj
  cases hoj
  have:=hall e he hb
  rcases Nat.lt_or_ge e.on listed.size with h'|h'
  ·simp[h'] at this ⊢;exact this
  ·simp[Array.getElem?_eq_none h'] at this ⊢
 ·rw[getD_set_ne true hkj] at hk
  exact hc.all k ok hok hk e he hb
theorem bV.step {listed:Array Zb}{dn:List Nat}(hc:bV md ops listed dn){j:Nat}(hj:j∈Region.ready md ops listed):bV md ops (listed.setIfInBounds j true) (j :: dn):=
 ⟨(hc.list hj).all,λk hk=>by
  rcases List.mem_cons.1 hk with rfl|hk
  ·exact cC0
  ·exact jV0 (hc.dn k hk)⟩
theorem oF0 {i:Nat}{oi:Oper}{v:Z6}(hi:ops[i]?=some oi)(hsel:∀ (j:Nat) (o:Oper) cs b,ops[j]?=some o→o.op≠.select cs b)
  (hQ:∀ c a w,Q (.panic c) (a.put oi.dst v) w→Q (.panic c) a w) (hSm:∀ d d' w,(∀ x∈d,x∈d')→S d w→S d' w)
  (hST:∀ dn w,kT0 md ops dn i→S dn w→T w) :
  ∀ (fuel:Nat) (listed:Array Zb) (dn:List Nat) (a:Act) (w:Zw),
  (∀ j oj,ops[j]?=some oj→j≠i→listed.getD j true=false→(∀ e∈oj.after,Region.binds md e=true→e.on≠i)→oi.apart ops oj=true)→
  i∈Region.ready md ops listed→bV md ops listed dn→YieldsIf P ops T oi v a→T w→
  anyX F n P md ops Q S fuel (listed.setIfInBounds i true) dn (a.put oi.dst v) w→anyX F n P md ops Q S (fuel+1) listed dn a w:=by
 intro fuel
 induction fuel with
 | zero=>
  intro listed dn a w _ hr hc hy hT H
  refine ⟨λh=>(by rw[h] at hr;cases hr),λj hj=>?_⟩
  by_cases hji:j=i
  ·subst hji;exact Ev.YieldsIf.opW hi hy hT ⟨.inr rfl,H⟩
  ·have:=ready_mono hj hji
   rw[H.1] at this
   cases this
 | succ fuel ih=>
  intro listed dn a w hfree hr hc hy hT H
  refine ⟨λh=>(by rw[h] at hr;cases hr),λj hj=>?_⟩
  by_cases hji:j=i
  ·subst hji;exact Ev.YieldsIf.opW hi hy hT ⟨.inr rfl,uB1 hSm _ _ _ _ _ _ (λx hx=>List.mem_cons_of_mem _ hx) H⟩
  ·have h1:=H.2 j (ready_mono hj hji)
   obtain ⟨hjun,oj,hoj,hall⟩:=mem_ready.1 hj
   have hun:listed.getD i true=false:=(mem_ready.1 hr).1
   have hnot:∀ e∈oj.after,Region.binds md e=true→e.on≠i:=λe he hb heq=>by
    have h1:=hall e he hb
    have h0:=(mem_ready.1 hr).1
    rw[heq] at h1
    rcases Nat.lt_or_ge i listed.size with h'|h'
    ·simp[h'] at h0 h1;rw[h0] at h1;cases h1
    ·simp[Array.getElem?_eq_none h'] at h1
   have hnb:kT0 md ops (j :: dn) i:=λk hk hbe=>by
    have:=(hc.step hj).beh hbe ((hc.step hj).dn k hk)
    rw[getD_set_ne true hji,hun] at this
    cases this
   have h2:=fF1 hoj (hfree j oj hoj hji hjun hnot) (λcs b=>hsel i oi cs b hi) (λcs b=>hsel j oj cs b hoj) hQ hy h1
   have hfree' : ∀ k ok, ops[k]? = some ok → k ≠ i → (listed.setIfInBounds j true).getD k true = false →
     (∀ e∈ok.after,Region.binds md e=true→e.on≠i)→oi.apart ops ok=true:=λk ok hk hki hun hno=>by
    refine hfree k ok hk hki ?_ hno
    by_cases hjk:j=k
    ·subst hjk;exact hjun
    ·rw[getD_set_ne true hjk] at hun;exact hun
   refine zY0 (λa' w' h3=>⟨h3.2.1,ih (listed.setIfInBounds j true) (j :: dn) a' w' hfree' (ready_mono hr (Ne.symm hji)) (hc.step hj) h3.1 ?_ ?_⟩) h2
   ·rcases h3.2.1 with hS|rfl
    ·exact hST _ w' hnb hS
    ·exact hT
   ·rw[Array.setIfInBounds_comm _ _ hji]
    exact h3.2.2
theorem wL0 {i:Nat}{oi:Oper}{v:Z6}{fuel:Nat}{listed:Array Zb}{dn:List Nat}{a:Act}{w:Zw}(hi:ops[i]?=some oi)
  (hs:Region.noSelect ops=true) (hf:Region.free md ops listed i=true) (hr:i∈Region.ready md ops listed) (hc:bV md ops listed dn)
  (hQ:∀ c a w,Q (.panic c) (a.put oi.dst v) w→Q (.panic c) a w) (hSm:∀ d d' w,(∀ x∈d,x∈d')→S d w→S d' w) (hST:∀ dn w,kT0 md ops dn i→S dn w→T w)
  (hy:YieldsIf P ops T oi v a) (hT:T w)
  (h:anyX F n P md ops Q S fuel (listed.setIfInBounds i true) dn (a.put oi.dst v) w):anyX F n P md ops Q S (fuel+1) listed dn a w:=
 oF0 hi (Region.noSelect_spec hs) hQ hSm hST fuel listed dn a w (Region.free_spec hi hf) hr hc hy hT h
theorem zQ0 {id:Nat}{a:Act}{w:Zw}(hF:FW F)(hd:bR0 ops)(hm:P.follows .mixedOrders=true)
  (h:anyX F n P .any ops Q S ops.size (Array.replicate ops.size false) [] a { w with drawn:=w.drawn+1 }):(Code.region id ops true).wpIn F n P Q a w:=
 wpIn_region_any hm (zC0 hF hd _ _ _ _ _ h)
def zW0 (P:Z9)(ops:Array Oper)(Lc:List (Nat×Sem Go.Next×Z6))(dn:List Nat)(w:Zw):Prop:=
 ∀ x∈Lc,kT0 .any ops dn x.1→x.2.1.run P w=.ok (.value x.2.2) w
theorem zW0.mono {Lc:List (Nat×Sem Go.Next×Z6)}{d d':List Nat}{w:Zw}(hd:∀ x∈d,x∈d')(h:zW0 P ops Lc d w):zW0 P ops Lc d' w:=
 λx hx hn=>h x hx λk hk=>hn k (hd k hk)
end
end Go.Ev
namespace Go.Ev
open Go Go.RowKit
noncomputable section
inductive Cl where|take|eff|call|mp
structure It where
 d:Z8 Nat
 g:Z8 (Nat×Zb)
 c:Cl
 o:Op
 t:Zt
inductive PT where
 | fin
 | no
 | bad
 | take (i:Nat) (rd:Zb) (x:It) (k:PT)
 | eff (i:Nat) (x:It) (bind:List Nat) (k alt:PT)
inductive IR where
 | bad
 | skip
 | ret
 | exit (i:Nat)
 | goto (l:Nat)
 | label (l:Nat)
 | ops (l:List It)
 | plan (p:PT)
 | seq (a b:IR)
 | cond (x:Zo) (a b:IR)
 | block (i:Nat) (b:IR)
 | loop (b:IR)
 | scope (b:Code)
 | range (g:Zo) (ps:Array Tmp) (a b:Code)
def clOf (P:Z9)(o:Oper):Cl:=
 match o.op with
 | .call ⟨.value _,_,_⟩=>.call
 | _=>match isMp P o.op with | true=>.mp | false=>match zD1 P o with | true=>.eff | false=>.take
def isRd (o:Op):Zb:=
 match o with
 | .load _ _=>true
 | .slice _ _ _ _ _=>true
 | .convert _ _ _=>true
 | .lookup _ _ _ _=>true
 | .entry _=>true
 | _=>false
def It.of (P:Z9)(ops:Array Oper)(o:Oper):Z8 It:=
 match o.guard with
 | none=>some ⟨o.dst,none,clOf P o,o.op,o.type⟩
 | some (j,w)=>match ops[j]? with
  | some oj=>match oj.dst with
   | some d=>some ⟨o.dst,some (d,w),clOf P o,o.op,o.type⟩
   | none=>none
  | none=>none
def bX0 (P:Z9)(ops:Array Oper):List Oper→Z8 (List It)
 | []=>some []
 | o :: l=>match It.of P ops o,bX0 P ops l with
  | some x,some l=>some (x :: l)
  | _,_=>none
def kP1 (o:Oper):List Nat:=(o.after.toList.filter (Region.binds .any)).map (·.on)
def hasN (i:Nat):List Nat→Zb
 | []=>false
 | x :: l=>match Nat.beq x i with | true=>true | false=>hasN i l
def oD0 (ops:Array Oper):Nat→List Nat→List Nat→List Nat
 | 0,_,acc=>acc
 | _+1,[],acc=>acc
 | n+1,j :: todo,acc=>match hasN j acc with
  | true=>oD0 ops n todo acc
  | false=>match ops[j]? with
   | none=>oD0 ops n todo acc
   | some oj=>oD0 ops n (kP1 oj++todo) (j :: acc)
def uJ0 (ops:Array Oper)(o:Oper):List Nat:=oD0 ops 1000 (kP1 o) []
def mkPT (P:Z9)(ops:Array Oper):Nat→Array Zb→PT
 | 0,listed=>match Region.ready .any ops listed with | []=>.fin | _=>.bad
 | n+1,listed=>match Region.ready .any ops listed with
  | []=>.fin
  | r :: rs=>match firstFree P ops listed (r :: rs) with
   | some (i,o)=>match It.of P ops o with
    | some x=>.take i (isRd o.op) x (mkPT P ops n (listed.setIfInBounds i true))
    | none=>.bad
   | none=>(r :: rs).foldr (λr alt=>match ops[r]? with
    | some o=>match It.of P ops o with
     | some x=>.eff r x (uJ0 ops o) (mkPT P ops n (listed.setIfInBounds r true)) alt
     | none=>.bad
    | none=>.bad) .no
def comp (P:Z9):Code→IR
 | .skip=>.skip
 | .region _ ops d=>match d with
  | false=>match bX0 P ops ops.toList with
   | some l=>.ops l
   | none=>.bad
  | true=>.plan (mkPT P ops ops.size (Array.replicate ops.size false))
 | .seq a b=>.seq (comp P a) (comp P b)
 | .cond x a b=>.cond x (comp P a) (comp P b)
 | .block i b=>.block i (comp P b)
 | .loop b=>.loop (comp P b)
 | .rangeFunc g ps a b=>.range g ps a b
 | .exit i=>.exit i
 | .scope b=>.scope b
 | .label l=>.label l
 | .goto l=>.goto l
 | .ret=>.ret
 | .refuse _=>.bad
def subs:Code→List Code
 | .seq a b=>subs a++subs b
 | .cond _ a b=>subs a++subs b
 | .block _ b=>subs b
 | .loop b=>subs b
 | .rangeFunc _ _ a b=>a :: b :: (subs a++subs b)
 | .scope b=>b :: subs b
 | _=>[]
def subC (P:Z9)(f k:Nat):Code:=
 match P.funcs[f]? with
 | some fn=>match fn.body with
  | some c=>((subs c)[k]?).getD .skip
  | none=>.skip
 | none=>.skip
structure FIR where
 n:Nat
 a:Nat
 rs:List ResultVar
 ir:IR
def fir (P:Z9)(g:Nat):Z8 FIR:=
 match P.funcs[g]? with
 | some fn=>match fn.body with
  | some c=>some ⟨fn.ntmps,fn.params.size+fn.nfree,fn.results.toList,comp P c⟩
  | none=>none
 | none=>none
def oP (r:Z8 Z6)(h:jB)(k:Z6→jB→Prop):Prop:=match r with|some v=>k v h|none=>False
def oE (r:Z8 (Z6×jB))(k:Z6→jB→Prop):Prop:=match r with|some (v,h)=>k v h|none=>False
def oT (r:Z8 Z6)(r2:Z8 (Z6×Z6))(h:jB)(k:Z6→jB→Prop):Prop:=match r with
 | some v=>k v h
 | none=>match r2 with
  | some (a,b)=>k a h∧k b h
  | none=>False
def gV (v:Z6)(w:Zb)(A B:Prop):Prop:=match v with | .bool b=>(b=w→A)∧(b≠w→B)|_=>B
def vgd (tm:VT)(g:Z8 (Nat×Zb))(A B:Prop):Prop:=match g with|none=>A|some (d,w)=>gV (tm.get d) w A B
def oL (r:Z8 (List (Z6×jB)))(k:Z6→jB→Prop):Prop:=match r with|some l=>∀ x∈l,k x.1 x.2|none=>False
def vop (p:Par)(c:Cl)(o:Op)(t:Zt)(tm:VT)(h:jB)(k:Z6→jB→Prop):Prop:=
 match c with
 | .take=>oT (tv p.P o t tm h) (tw p.P o tm h) h k
 | .eff=>oE (te p.P o t tm h) k
 | .call=>match o with
  | .call ⟨.value f,args,_⟩=>jK p (ev tm f) (args.toList.map (ev tm)) h k
  | _=>False
 | .mp=>oL (mapE p.P o tm h) k
def vops (p:Par):List It→VT→jB→(VT→jB→Prop)→Prop
 | [],tm,h,K=>K tm h
 | x :: l,tm,h,K=>vgd tm x.g (vop p x.c x.o x.t tm h λv h'=>vops p l (put tm x.d v) h' K) (vops p l (put tm x.d undef) h K)
abbrev HL:=List (Nat×(jB→Z8 Z6)×Z6)
def jC (bind:List Nat)(h:jB):HL→Prop
 | []=>True
 | (i,rd,v) :: L=>(match bind.contains i with | true=>True | false=>rd h=some v)∧jC bind h L
def bE (bind:List Nat)(L:HL):HL:=L.filter λe=>!bind.contains e.1
def qS (p:Par):PT→HL→VT→jB→(VT→jB→Prop)→Prop
 | .fin,_,tm,h,K=>K tm h
 | .no,_,_,_,_=>True
 | .bad,_,_,_,_=>False
 | .take i rd x k, L, tm, h, K => vgd tm x.g
   (match rd with
    | false=>oP (tp p.P x.o x.t tm) h λv _=>qS p k L (put tm x.d v) h K
    | true=>match tv p.P x.o x.t tm h with
     | some v=>qS p k ((i,λh'=>tv p.P x.o x.t tm h',v) :: L) (put tm x.d v) h K
     | none=>match tw p.P x.o tm h with
      | some (a,b)=>qS p k ((i,λh'=>(tw p.P x.o tm h').map (·.1),a) :: L) (put tm x.d a) h K∧qS p k ((i,λh'=>(tw p.P x.o tm h').map (·.2),b) :: L) (put tm x.d b) h K
      | none=>False)
   (qS p k L (put tm x.d undef) h K)
 | .eff _ x bind k alt,L,tm,h,K=>vgd tm x.g (vop p x.c x.o x.t tm h λv h'=>jC bind h' L∧qS p k (bE bind L) (put tm x.d v) h' K) (qS p k (bE bind L) (put tm x.d undef) h K)∧qS p alt L tm h K
def jR (v:Z6)(A B:Prop):Prop:=match v with | .bool b=>(b=true→A)∧(b=false→B)|_=>False
def W (p:Par)(ro:Z8 Nat)(ir:IR)(s:S)(R:jL→S→Prop):Prop:=∀ c,comp p.P c=ir→WP p ro c s R
def vc (p:Par)(ro:Z8 Nat):IR→S→(jL→S→Prop)→Prop
 | .bad,_,_=>False
 | .skip,s,R=>R .normal s
 | .ret,s,R=>R .ret s
 | .exit i,s,R=>R (.exit i) s
 | .goto l,s,R=>R (.goto l) s
 | .label _,s,R=>R .normal s
 | .ops l,s,R=>vops p l s.tm s.h λtm h=>R .normal ⟨tm,s.df,h⟩
 | .plan t,s,R=>qS p t [] s.tm s.h λtm h=>R .normal ⟨tm,s.df,h⟩
 | .seq a b,s,R=>vc p ro a s (cP0 (λs1=>vc p ro b s1 R) R)
 | .cond x a b,s,R=>jR (ev s.tm x) (vc p ro a s R) (vc p ro b s R)
 | .block i b,s,R=>vc p ro b s (outR i R)
 | .loop b,s,R=>W p ro (.loop b) s R
 | .scope b,s,R=>WPin p ro b b s R
 | .range g ps a b,s,R=>W p ro (.range g ps a b) s R
theorem fP1 {v:Z6}{w:Zb}{A B:Prop}(h:gV v w A B):(v=.bool w∧A)∨(v≠.bool w∧B):=by
 unfold gV at h
 split at h
 ·rename_i b
  by_cases e:b=w
  ·exact .inl ⟨by rw[e],h.1 e⟩
  ·exact .inr ⟨λe2=>e (by cases e2;rfl),h.2 e⟩
 ·rename_i hne
  exact .inr ⟨λe=>hne _ e,h⟩
theorem bG0 {P:Z9}{ops:Array Oper}{o:Oper}{x:It}{tm:VT}{A B:Prop}(hx:It.of P ops o=some x)(h:vgd tm x.g A B) :
  (wanted ops.toList tm o=some true∧A)∨(wanted ops.toList tm o=some false∧B):=by
 unfold It.of at hx
 split at hx
 ·rename_i hg
  cases hx
  exact .inl ⟨by simp[wanted,hg],h⟩
 ·rename_i j w hg
  split at hx
  ·rename_i oj hj
   split at hx<;>cases hx
   rename_i d hd
   have hj':ops.toList[j]?=some oj:=by rw[Array.getElem?_toList];exact hj
   have hy:yl ops.toList tm j=match tm.get d with | .bool b=>some b|_=>none:=by
    simp only[yl,hj',hd]
    rfl
   rcases fP1 h with ⟨he,ha⟩|⟨hne,hb⟩
   ·refine .inl ⟨?_,ha⟩
    simp only[wanted,hg,hy,he]
    cases w<;>rfl
   ·refine .inr ⟨?_,hb⟩
    simp only[wanted,hg,hy]
    cases hv:tm.get d with
    | bool b=>rw[hv] at hne;cases b<;>cases w<;>simp_all
    | _=>rfl
  ·cases hx
theorem It.of_eq {P:Z9}{ops:Array Oper}{o:Oper}{x:It}(hx:It.of P ops o=some x):x.d=o.dst∧x.c=clOf P o∧x.o=o.op∧x.t=o.type:=by
 unfold It.of at hx
 split at hx
 ·cases hx;exact ⟨rfl,rfl,rfl,rfl⟩
 ·split at hx
  ·split at hx<;>cases hx;exact ⟨rfl,rfl,rfl,rfl⟩
  ·cases hx
theorem iD0 (P:Z9)(o:Oper)(tm:VT):bB P (bare o.op o.type) tm=bB P o tm:=rfl
theorem iC0 (P:Z9)(o:Oper)(tm:VT)(h:jB):zK0 P (bare o.op o.type) tm h=zK0 P o tm h:=rfl
theorem pT0 {p:Par}{Γ:Gam}{tm:VT}{h:jB}{ca:Act}{w:Zw}(hr:jU p Γ h w)(ht:Tm Γ p.NG tm ca)(hsc:∀ x∈tm.arr.toList,sc h.next x=true){o:Oper}
  (hop:o.op.operands.all (qJ0 p.NG)=true) {v:Z6} (he:tv p.P o.op o.type tm h=some v):(execOp ca.eval o).run p.P w=.ok (.value (con Γ v)) w∧sc h.next v=true:=by
 rcases wC1 he with he|he
 ·rw[iD0] at he
  exact ⟨gQ0 ht hop he w,eB0 hr hsc hop he⟩
 ·rw[iC0] at he
  exact ⟨nT0 hr ht hop he,jV1 hr hsc hop he⟩
theorem gX1 {p:Par}{Γ:Gam}{tm:VT}{h:jB}{ca:Act}{w:Zw}(hr:jU p Γ h w)(ht:Tm Γ p.NG tm ca)(hsc:∀ x∈tm.arr.toList,sc h.next x=true){o:Oper}
  (hop:o.op.operands.all (qJ0 p.NG)=true) {v1 v2:Z6} (he:tw p.P o.op tm h=some (v1,v2)) :
  ∃ b:Zb,(∀ Γ' h' w',Ag Γ Γ' h.next→h.next≤h'.next→jU p Γ' h' w'→tw p.P o.op tm h'=some (v1,v2)→(execOp ca.eval o).run p.P w'=.ok (.value (con Γ' (if b then v1 else v2))) w')∧sc h.next v1=true∧sc h.next v2=true:=by
 have hng:p.NG≤h.next:=by have:=hr.ng;have:=hr.gn;omega
 unfold tw at he
 split at he
 ·rename_i ty x lo hi mx ho
  have hscv:sc h.next (ev tm x)=true:=nS0 hr hsc (by
   rw[Array.all_eq_true_iff_forall_mem] at hop;exact hop x (by simp[ho,Op.operands]))
  obtain ⟨b,hb⟩:=rB0 hr he
  refine ⟨b,λΓ' h' w' hag hle hr' he'=>?_,wL1 hscv he⟩
  have ht':=ht.ag hsc hag hng
  have hev:∀ x∈o.op.operands,ca.eval x=con Γ' (ev tm x):=λx hx=>ht'.eval (by
   rw[Array.all_eq_true_iff_forall_mem] at hop;exact hop x hx)
  have hx:=hev x (by simp[ho,Op.operands])
  have hlo:lo.map ca.eval=(lo.map (ev tm)).map (con Γ'):=by
   cases lo with
   | none=>rfl
   | some y=>simp[hev y (by simp[ho,Op.operands])]
  have hhi:hi.map ca.eval=(hi.map (ev tm)).map (con Γ'):=by
   cases hi with
   | none=>rfl
   | some y=>simp[hev y (by simp[ho,Op.operands])]
  have hmx:mx.map ca.eval=(mx.map (ev tm)).map (con Γ'):=by
   cases mx with
   | none=>rfl
   | some y=>simp[hev y (by simp[ho,Op.operands])]
  have he2:tailV p.P ty (ev tm x) (lo.map (ev tm)) (hi.map (ev tm)) (mx.map (ev tm)) h'=some (v1,v2):=by rw[ho] at he';exact he'
  have:=hb Γ' h' w' hag hr' he2
  simp only[execOp,ho,hx,hlo,hhi,hmx,Sem.run_bind,this,Result.andThen_ok,Sem.run_pure]
 ·cases he
theorem pQ0 {p:Par}{Γ:Gam}{tm:VT}{h:jB}{ca:Act}{w:Zw}(hr:jU p Γ h w)(ht:Tm Γ p.NG tm ca)(hsc:∀ x∈tm.arr.toList,sc h.next x=true){o:Oper}(hoo:jY0 p.NG o=true)
  {c:Cl} {R:Z6→jB→Prop} (hv:vop p c o.op o.type tm h R) {F:Fence} (hF:FW F) {n:Nat} {K:Act→Zw→Prop} {Q:Exit→Act→Zw→Prop}
  (hK:∀ (v:Z6) (h':jB) (Γ':Gam) (w':Zw),R v h'→Ag Γ Γ' h.next→h.next≤h'.next→Below p.B w w'→jU p Γ' h' w'→sc h'.next v=true→K (ca.put o.dst (con Γ' v)) w') :
  o.uponIn F n p.P ca K Q ((execOp ca.eval o).run p.P w):=by
 have hop:o.op.operands.all (qJ0 p.NG)=true:=by simp only[jY0,Z5] at hoo;exact hoo.1
 unfold vop at hv
 split at hv
 ·unfold oT at hv
  split at hv
  ·rename_i v he
   obtain ⟨hrun,hs⟩:=pT0 hr ht hsc hop he
   rw[hrun]
   exact hK v h Γ w hv (Ag.refl _ _) (Z3 _) (Below.refl _ _) hr hs
  ·split at hv
   ·rename_i v1 v2 he
    obtain ⟨b,hrun,hs1,hs2⟩:=gX1 hr ht hsc hop he
    have hrun:=hrun Γ h w (Ag.refl _ _) (Z3 _) hr he
    rw[hrun]
    cases b with
    | true=>exact hK v1 h Γ w hv.1 (Ag.refl _ _) (Z3 _) (Below.refl _ _) hr hs1
    | false=>exact hK v2 h Γ w hv.2 (Ag.refl _ _) (Z3 _) (Below.refl _ _) hr hs2
   ·exact hv.elim
 ·unfold oE at hv
  split at hv
  ·rename_i v h' he
   have he':wE0 p.P o tm h=some (v,h'):=wH1 he
   have hs:=kA1 hr hsc hop he'
   obtain ⟨Γ',w',nx,h1,h2,h3,h4,h5,h6⟩:=jW1 hr ht hop he'
   rw[h1]
   rcases h2 with rfl|⟨rfl,rfl⟩
   ·exact hK v h' Γ' w' hv h3 h4 h6.below h5 hs
   ·exact hK undef h' Γ' w' hv h3 h4 h6.below h5 hs
  ·exact hv.elim
 ·split at hv
  ·rename_i f args ats ho
   have hev:∀ x∈o.op.operands,ca.eval x=con Γ (ev tm x):=λx hx=>ht.eval (by
    rw[Array.all_eq_true_iff_forall_mem] at hop;exact hop x hx)
   have hscv:∀ x∈o.op.operands,sc h.next (ev tm x)=true:=λx hx=>nS0 hr hsc (by
    rw[Array.all_eq_true_iff_forall_mem] at hop;exact hop x hx)
   have hf:=hev f (by simp[ho,Op.operands,Call.operands])
   have hargs:args.map ca.eval=⟨(args.toList.map (ev tm)).map (con Γ)⟩:=by
    apply Array.ext'
    simp only[Array.toList_map,List.map_map]
    apply List.map_congr_left
    intro y hy
    exact hev y (by simp[ho,Op.operands,Call.operands];exact .inr (by simpa using hy))
   unfold jK at hv
   split at hv
   ·rename_i g captured hfe
    have hrun:(execOp ca.eval o).run p.P w=(callFunc g ⟨(args.toList.map (ev tm)++captured).map (con Γ)⟩).run p.P w:=by
     simp only[execOp,ho,resolve,hf,hfe,bS,wY0,Deferred.ofValue,Sem.run_bind,Sem.run_pure,Result.andThen_ok,invoke,hargs]
     simp
    rw[hrun]
    refine hv Γ w hr ?_ o F hF n ca K Q hK
    intro x hx
    simp only[List.mem_append,List.mem_map] at hx
    rcases hx with ⟨y,hy,rfl⟩|hx
    ·exact hscv y (by simp[ho,Op.operands,Call.operands];exact .inr (by simpa using hy))
    ·have:=hscv f (by simp[ho,Op.operands,Call.operands])
     rw[hfe] at this
     simp only[sc,Z5] at this
     exact qV this.2 x hx
   ·rename_i l captured hfe
    have hrun:(execOp ca.eval o).run p.P w=(Instr.yield (Γ.b l) ⟨(args.toList.map (ev tm)).map (con Γ)⟩).run p.P w:=by
     simp only[execOp,ho,resolve,hf,hfe,bS,wY0,Deferred.ofValue,Sem.run_bind,Sem.run_pure,Result.andThen_ok,invoke,hargs]
     simp
    rw[hrun]
    refine hv Γ w hr ?_ o F hF n ca K Q hK
    intro x hx
    simp only[List.mem_map] at hx
    obtain ⟨y,hy,rfl⟩:=hx
    exact hscv y (by simp[ho,Op.operands,Call.operands];exact .inr (by simpa using hy))
   ·exact hv.elim
  ·exact hv.elim
 ·unfold oL at hv
  split at hv
  ·rename_i l he
   have hev:∀ x∈o.op.operands,ca.eval x=con Γ (ev tm x):=λx hx=>ht.eval (by
    rw[Array.all_eq_true_iff_forall_mem] at hop;exact hop x hx)
   obtain ⟨v,h',hm,⟨Γ',w',nx,h1,h2,h3,h4,h5,h6⟩,hs⟩:=wW1 hr hev he
   have hv:=hv _ hm
   rw[h1]
   rcases h2 with rfl|⟨rfl,rfl⟩
   ·exact hK v h' Γ' w' hv h3 h4 h6.below h5 hs
   ·exact hK undef h' Γ' w' hv h3 h4 h6.below h5 hs
  ·exact hv.elim
structure uG1 (p:Par)(Γ:Gam)(h:jB)(w:Zw)(df:List Deferred)(K:VT→jB→Prop)(Q:Act→Zw→Prop):Prop where
 go:∀ tm' h' Γ' ca' w',K tm' h'→Ag Γ Γ' h.next→h.next≤h'.next→Below p.B w w'→jU p Γ' h' w'→Tm Γ' p.NG tm' ca'→(∀ x∈tm'.arr.toList,sc h'.next x=true)→ca'.defers=df→Q ca' w'
theorem uG1.step {p:Par}{Γ Γ':Gam}{h h1:jB}{w w':Zw}{df:List Deferred}{K:VT→jB→Prop}{Q:Act→Zw→Prop}(hn:uG1 p Γ h w df K Q)
  (hg:Ag Γ Γ' h.next) (hle:h.next≤h1.next) (hb:Below p.B w w'):uG1 p Γ' h1 w' df K Q:=
 ⟨λtm' h' Γ'' ca' w'' hk hg' hle' hb' hr' ht' hs' hd'=>hn.go tm' h' Γ'' ca' w'' hk (hg.trans hg' hle) Z0 (hb.trans hb') hr' ht' hs' hd'⟩
theorem uO1 {p:Par}{ops:Array Oper}(hops:∀ o∈ops.toList,jY0 p.NG o=true){F:Fence}(hF:FW F){n:Nat}{Q:Exit→Act→Zw→Prop}{df:List Deferred}{K:VT→jB→Prop} :
  ∀ (l:List Oper) (k:Nat) (xs:List It) (tm:VT) (h:jB),ops.toList.drop k=l→bX0 p.P ops l=some xs→vops p xs tm h K→
  ∀ (Γ:Gam) (ca:Act) (w:Zw),jU p Γ h w→Tm Γ p.NG tm ca→(∀ x∈tm.arr.toList,sc h.next x=true)→ca.defers=df→uG1 p Γ h w df K (λa w=>Q .normal a w)→
  wpOpsIn F n p.P ops Q (List.range' k l.length) ca w:=by
 intro l
 induction l with
 | nil=>
  intro k xs tm h _ hxs he Γ ca w hr ht hs hd hn
  cases hxs
  simp only[List.length_nil,List.range'_zero,wpOpsIn]
  exact hn.go tm h Γ ca w he (Ag.refl _ _) (Z3 _) (Below.refl _ _) hr ht hs hd
 | cons o rest ih=>
  intro k xs tm h hl hxs he Γ ca w hr ht hs hd hn
  have hk:ops[k]?=some o:=by
   rw[← Array.getElem?_toList]
   have:(ops.toList.drop k)[0]?=some o:=by rw[hl];rfl
   simpa using this
  have hrest:ops.toList.drop (k+1)=rest:=by
   have:(ops.toList.drop k).drop 1=rest:=by rw[hl];rfl
   simpa[List.drop_drop,Nat.add_comm] using this
  have hoo:jY0 p.NG o=true:=hops o (by rw[← Array.getElem?_toList] at hk;exact List.mem_of_getElem? hk)
  have hpl:=qI0 hoo
  simp only[bX0] at hxs
  split at hxs<;>cases hxs
  rename_i x xs hx hxs
  obtain ⟨e1,e2,e3,e4⟩:=It.of_eq hx
  simp only[vops] at he
  simp only[List.length_cons,List.range'_succ,wpOpsIn,hk]
  have hw:=kG0 ht ops o
  have hng:p.NG≤h.next:=by have:=hr.ng;have:=hr.gn;omega
  rcases bG0 hx he with ⟨hwt,he⟩|⟨hwt,he⟩
  ·rw[hwt] at hw
   simp only[Option.getD_some] at hw
   simp only[hw,if_true]
   refine ⟨λf _=>hF.fn f,?_⟩
   rw[Oper.semAt_eq _ _ _ hpl.1]
   rw[e3,e4] at he
   refine pQ0 hr ht hs hoo he hF λv h1 Γ' w' hv hg hle hbel hr' hsv=>?_
   rw[e1] at hv
   exact ih (k+1) xs _ h1 hrest hxs hv Γ' _ w' hr' (ht.put hs hg hng o.dst v) (uW0 ht.sm hs hle o.dst hsv) (by rw[put_defers];exact hd) (hn.step hg hle hbel)
  ·rw[hwt] at hw
   simp only[Option.getD_some] at hw
   simp only[hw,Bool.false_eq_true,if_false]
   refine ⟨λf _=>hF.fn f,?_⟩
   have:=ht.put hs (Ag.refl Γ h.next) hng o.dst undef
   rw[qQ0] at this
   rw[e1] at he
   exact ih (k+1) xs _ h hrest hxs he Γ _ w hr this (uW0 ht.sm hs (Z3 _) o.dst rfl) (by rw[put_defers];exact hd) hn
def yS0 (p:Par)(Γ:Gam)(n:Nat)(ops:Array Oper)(dn:List Nat)(L:HL)(Lc:List (Nat×Sem Go.Next×Z6)):Prop:=
 ∀ x∈Lc,¬ kT0 .any ops dn x.1∨∃ rd v,(x.1,rd,v)∈L∧∀ Γ' h' w',Ag Γ Γ' n→n≤h'.next→jU p Γ' h' w'→rd h'=some v→x.2.1.run p.P w'=.ok (.value x.2.2) w'
theorem yS0.ag {p:Par}{Γ Γ':Gam}{n m:Nat}(hg:Ag Γ Γ' n)(hn:n≤m){ops:Array Oper}{dn:List Nat}{L:HL}{Lc:List (Nat×Sem Go.Next×Z6)}(h:yS0 p Γ n ops dn L Lc):yS0 p Γ' m ops dn L Lc:=λx hx=>by
 rcases h x hx with h1|⟨rd,v,h1,h2⟩
 ·exact .inl h1
 ·exact .inr ⟨rd,v,h1,λΓ'' h' w' hg' hle' hr' he=>h2 Γ'' h' w' (hg.trans hg' hn) Z0 hr' he⟩
theorem yS0.cons {p:Par}{Γ:Gam}{n:Nat}{ops:Array Oper}{dn:List Nat}{L:HL}{Lc:List (Nat×Sem Go.Next×Z6)}(h:yS0 p Γ n ops dn L Lc){i:Nat}{rd:jB→Z8 Z6}{v u:Z6}{s:Sem Go.Next}
  (hr:∀ Γ' h' w',Ag Γ Γ' n→n≤h'.next→jU p Γ' h' w'→rd h'=some v→s.run p.P w'=.ok (.value u) w'):yS0 p Γ n ops dn ((i,rd,v) :: L) ((i,s,u) :: Lc):=λx hx=>by
 rcases List.mem_cons.1 hx with rfl|hx
 ·exact .inr ⟨rd,v,List.mem_cons_self ..,hr⟩
 ·rcases h x hx with h1|⟨rd,v,h1,h2⟩
  ·exact .inl h1
  ·exact .inr ⟨rd,v,List.mem_cons_of_mem _ h1,h2⟩
theorem eK0 {o:Oper}{i:Nat}(h:i∈kP1 o):∃ e∈o.after,Region.binds .any e=true∧e.on=i:=by
 simp only[kP1,List.mem_map,List.mem_filter] at h
 obtain ⟨e,⟨h1,h2⟩,h3⟩:=h
 exact ⟨e,by simpa using h1,h2,h3⟩
theorem wJ0 {ops:Array Oper}{k:Nat}:∀ (n:Nat) (todo acc:List Nat),(∀ i∈todo,Beh .any ops k i)→(∀ i∈acc,Beh .any ops k i)→∀ i∈oD0 ops n todo acc,Beh .any ops k i
 | 0,_,_,_,ha=>ha
 | _+1,[],_,_,ha=>ha
 | n+1,j :: todo,acc,ht,ha=>by
  have ht':∀ i∈todo,Beh .any ops k i:=λi hi=>ht i (List.mem_cons_of_mem _ hi)
  have hj:=ht j (List.mem_cons_self ..)
  unfold oD0
  split
  ·exact wJ0 n _ _ ht' ha
  ·split
   ·exact wJ0 n _ _ ht' ha
   ·rename_i oj hoj
    refine wJ0 n _ _ (λi hi=>?_) (λi hi=>?_)
    ·rcases List.mem_append.1 hi with hi|hi
     ·obtain ⟨e,h1,h2,rfl⟩:=eK0 hi
      exact hj.snoc hoj h1 h2
     ·exact ht' i hi
    ·rcases List.mem_cons.1 hi with rfl|hi
     ·exact hj
     ·exact ha i hi
theorem gY0 {ops:Array Oper}{k:Nat}{o:Oper}(hk:ops[k]?=some o){i:Nat}(h:(uJ0 ops o).contains i=true):Beh .any ops k i:=by
 rw[List.contains_iff_mem] at h
 refine wJ0 1000 _ _ (λi hi=>?_) (λi hi=>(by cases hi)) i h
 obtain ⟨e,h1,h2,rfl⟩:=eK0 hi
 exact .one hk h1 h2
theorem dM0 {b:List Nat}{h:jB}:∀ {L:HL},jC b h L→∀ {i:Nat} {rd:jB→Z8 Z6} {v:Z6},(i,rd,v)∈L→b.contains i=false→rd h=some v
 | [],_,_,_,_,hm,_=>by cases hm
 | (i',rd',v') :: L,hk,i,rd,v,hm,hc=>by
  simp only[jC] at hk
  rcases List.mem_cons.1 hm with e|hm
  ·cases e
   have h2:=hk.1
   rw[hc] at h2
   exact h2
  ·exact dM0 hk.2 hm hc
theorem kS0 {ops:Array Oper}{dn:List Nat}{j i:Nat}(h:kT0 .any ops (j :: dn) i):kT0 .any ops dn i:=λk hk=>h k (List.mem_cons_of_mem _ hk)
theorem sO0 {p:Par}{Γ:Gam}{h:jB}{w:Zw}{n:Nat}(hr:jU p Γ h w)(hn:n≤h.next){ops:Array Oper}{j:Nat}{o:Oper}(hj:ops[j]?=some o){dn:List Nat}{L:HL}{Lc:List (Nat×Sem Go.Next×Z6)}(hy:yS0 p Γ n ops dn L Lc)(hk:jC (uJ0 ops o) h L) :
  zW0 p.P ops Lc (j :: dn) w:=λx hx hno=>by
 rcases hy x hx with h1|⟨rd,v,h1,h2⟩
 ·exact absurd (kS0 hno) h1
 ·cases hc:(uJ0 ops o).contains x.1 with
  | true=>
   exact absurd (gY0 hj hc) (hno j (List.mem_cons_self ..))
  | false=>exact h2 Γ h w (Ag.refl _ _) hn hr (dM0 hk h1 hc)
theorem yS0.step {p:Par}{Γ:Gam}{n:Nat}{ops:Array Oper}{dn:List Nat}{L:HL}{Lc:List (Nat×Sem Go.Next×Z6)}(h:yS0 p Γ n ops dn L Lc){j:Nat}{o:Oper}(hj:ops[j]?=some o):yS0 p Γ n ops (j :: dn) (bE (uJ0 ops o) L) Lc:=λx hx=>by
 rcases h x hx with h1|⟨rd,v,h1,h2⟩
 ·exact .inl λhh=>h1 (kS0 hh)
 ·cases hc:(uJ0 ops o).contains x.1 with
  | true=>
   exact .inl λhh=>hh j (List.mem_cons_self ..) (gY0 hj hc)
  | false=>exact .inr ⟨rd,v,List.mem_filter.2 ⟨h1,by simp only[hc];rfl⟩,h2⟩
theorem dY0 {P:Z9}{ops:Array Oper}{m:Nat→PT}{p:Par}{L:HL}{tm:VT}{h:jB}{K:VT→jB→Prop}:∀ (l:List Nat),
  qS p (l.foldr (fun r alt => match ops[r]? with
    | some o=>match It.of P ops o with
     | some x=>.eff r x (uJ0 ops o) (m r) alt
     | none=>.bad
    | none=>.bad) .no) L tm h K→∀ r∈l,∃ o x,ops[r]?=some o∧It.of P ops o=some x∧
     vgd tm x.g (vop p x.c x.o x.t tm h λv h'=>jC (uJ0 ops o) h' L∧qS p (m r) (bE (uJ0 ops o) L) (put tm x.d v) h' K) (qS p (m r) (bE (uJ0 ops o) L) (put tm x.d undef) h K)
 | [],_,r,hr=>by cases hr
 | a :: l,hv,r,hr=>by
  simp only[List.foldr_cons] at hv
  split at hv
  ·rename_i o ho
   split at hv
   ·rename_i x hx
    simp only[qS] at hv
    rcases List.mem_cons.1 hr with rfl|hr
    ·exact ⟨o,x,ho,hx,hv.1⟩
    ·exact dY0 l hv.2 r hr
   ·exact hv.elim
  ·exact hv.elim
theorem pN0 {p:Par}{ops:Array Oper}(hops:∀ o∈ops.toList,jY0 p.NG o=true){F:Fence}(hF:FW F){n:Nat}{Q:Exit→Act→Zw→Prop}
  (hQ:∀ c a a' w,Q (.panic c) a w→Q (.panic c) a' w) {df:List Deferred} {K:VT→jB→Prop} :
  ∀ (fuel:Nat) (listed:Array Zb) (dn:List Nat) (L:HL) (tm:VT) (h:jB),bV .any ops listed dn→qS p (mkPT p.P ops fuel listed) L tm h K→
  ∀ (Γ:Gam) (ca:Act) (w:Zw) (Lc:List (Nat×Sem Go.Next×Z6)),jU p Γ h w→Tm Γ p.NG tm ca→(∀ x∈tm.arr.toList,sc h.next x=true)→ca.defers=df→yS0 p Γ h.next ops dn L Lc→
  uG1 p Γ h w df K (λa w=>Q .normal a w)→
  anyX F n p.P .any ops Q (zW0 p.P ops Lc) fuel listed dn ca w:=by
 intro fuel
 have hsel:Region.noSelect ops=true:=by
  simp only[Region.noSelect,Array.all_eq_true_iff_forall_mem]
  intro o ho
  have:=qI0 (hops o (by simpa using ho))
  split
  ·rename_i cs b hc;exact absurd hc (this.2 cs b)
  ·rfl
 induction fuel with
 | zero=>
  intro listed dn L tm h hcl he Γ ca w Lc hr ht hs hd hL hn
  simp only[mkPT] at he
  split at he
  ·rename_i hrd
   exact ⟨hrd,hn.go tm h Γ ca w he (Ag.refl _ _) (Z3 _) (Below.refl _ _) hr ht hs hd⟩
  ·exact he.elim
 | succ fuel ih=>
  intro listed dn L tm h hcl he Γ ca w Lc hr ht hs hd hL hn
  have hng:p.NG≤h.next:=by have:=hr.ng;have:=hr.gn;omega
  simp only[mkPT] at he
  split at he
  ·rename_i hrd
   exact ⟨λ_=>hn.go tm h Γ ca w he (Ag.refl _ _) (Z3 _) (Below.refl _ _) hr ht hs hd,λi hi=>by rw[hrd] at hi;cases hi⟩
  ·rename_i r rs hrd
   split at he
   ·rename_i i o hff
    obtain ⟨hi,hio,hfree,_⟩:=gA0 hff
    have hoo:jY0 p.NG o=true:=hops o (by rw[← Array.getElem?_toList] at hio;exact List.mem_of_getElem? hio)
    have hop:o.op.operands.all (qJ0 p.NG)=true:=by simp only[jY0,Z5] at hoo;exact hoo.1
    have hw:=kG0 ht ops o
    rw[← hrd] at hi
    split at he
    case h_2=>exact he.elim
    rename_i x hx
    obtain ⟨e1,e2,e3,e4⟩:=It.of_eq hx
    simp only[qS] at he
    rcases bG0 hx he with ⟨hwt,he⟩|⟨hwt,he⟩
    ·rw[hwt] at hw
     rw[e1,e3,e4] at he
     cases hrdb:isRd o.op with
     | false=>
      rw[hrdb] at he
      simp only at he
      unfold oP at he
      split at he
      case h_2=>exact he.elim
      rename_i v hv
      have hv':bB p.P o tm=some v:=iY0 hv
      have hscv:=eB0 hr hs hop hv'
      refine wL0 (v:=con Γ v) (T:=λ_=>True) hio hsel hfree hi hcl (λc a w hq=>hQ _ _ _ _ hq) (λd d' w hd=>zW0.mono hd) (λ_ _ _ _=>trivial) (.inl ⟨hw,λw _=>gQ0 ht hop hv' w⟩) trivial ?_
      exact ih _ _ L _ h (hcl.list hi) he Γ _ w Lc hr (ht.put hs (Ag.refl Γ h.next) hng o.dst v) (uW0 ht.sm hs (Z3 _) o.dst hscv) (by rw[put_defers];exact hd) hL hn
     | true=>
      rw[hrdb] at he
      simp only at he
      split at he
      case h_2=>
       split at he
       case h_2=>exact he.elim
       rename_i v1 v2 hv
       obtain ⟨b,hrun,hs1,hs2⟩:=gX1 hr ht hs hop hv
       have hrun0:=hrun Γ h w (Ag.refl _ _) (Z3 _) hr hv
       have hscv:sc h.next (if b then v1 else v2)=true:=by cases b<;>assumption
       refine yQ0 (S:=zW0 p.P ops ((i,execOp ca.eval o,con Γ (if b then v1 else v2)) :: Lc)) (λj w hh x hx=>hh x (List.mem_cons_of_mem _ hx)) _ _ _ _ _ ?_
       refine wL0 (v:=con Γ (if b then v1 else v2)) (T:=λw=>(execOp ca.eval o).run p.P w=.ok (.value (con Γ (if b then v1 else v2))) w) hio hsel hfree hi hcl (λc a w hq=>hQ _ _ _ _ hq) (λd d' w hd=>zW0.mono hd)
        (λdn w hno hS=>hS _ (List.mem_cons_self ..) hno) (.inl ⟨hw,λw hh=>hh⟩) hrun0 ?_
       have hinv:∀ h',(∃ u,tw p.P o.op tm h'=some u)→tw p.P o.op tm h'=some (v1,v2):=λh' hu=>by
        obtain ⟨u,hu⟩:=hu
        rw[hu]
        have h1:=hv
        unfold tw at h1 hu
        split at h1
        ·rename_i ho
         simp only[ho] at hu
         unfold tailV at h1 hu
         split at h1
         ·rename_i hx hmx
          simp only[hx,hmx] at hu
          split at h1
          ·rename_i hun hc
           split at h1
           ·rename_i hsz
            split at h1
            ·rename_i hbd
             split at h1<;>cases h1
             split at hu
             ·rename_i hun' hc'
              rw[hun] at hun'
              cases hun'
              rw[hsz] at hu
              simp only[hbd] at hu
              split at hu<;>cases hu
              rfl
             ·cases hu
            ·cases h1
           ·cases h1
          ·cases h1
         ·cases h1
        ·cases h1
       cases b with
       | true=>
        refine ih _ _ _ _ h (hcl.list hi) he.1 Γ _ w _ hr (ht.put hs (Ag.refl Γ h.next) hng o.dst v1) (uW0 ht.sm hs (Z3 _) o.dst hs1) (by rw[put_defers];exact hd) (hL.cons λΓ' h' w' hg hle hr' he'=>?_) hn
        have h2:=hrun Γ' h' w' hg hle hr' (hinv h' (by
         have he':Option.map _ (tw p.P o.op tm h')=_:=he'
         cases htw:tw p.P o.op tm h' with
         | none=>rw[htw] at he';cases he'
         | some u=>exact ⟨u,rfl⟩))
        rw[h2]
        simp only[if_true,bT hg v1 hs1]
       | false=>
        refine ih _ _ _ _ h (hcl.list hi) he.2 Γ _ w _ hr (ht.put hs (Ag.refl Γ h.next) hng o.dst v2) (uW0 ht.sm hs (Z3 _) o.dst hs2) (by rw[put_defers];exact hd) (hL.cons λΓ' h' w' hg hle hr' he'=>?_) hn
        have h2:=hrun Γ' h' w' hg hle hr' (hinv h' (by
         have he':Option.map _ (tw p.P o.op tm h')=_:=he'
         cases htw:tw p.P o.op tm h' with
         | none=>rw[htw] at he';cases he'
         | some u=>exact ⟨u,rfl⟩))
        rw[h2]
        simp only[Bool.false_eq_true,if_false,bT hg v2 hs2]
      rename_i v hv
      obtain ⟨hrun,hscv⟩:=pT0 hr ht hs hop hv
      refine yQ0 (S:=zW0 p.P ops ((i,execOp ca.eval o,con Γ v) :: Lc)) (λj w hh x hx=>hh x (List.mem_cons_of_mem _ hx)) _ _ _ _ _ ?_
      refine wL0 (v:=con Γ v) (T:=λw=>(execOp ca.eval o).run p.P w=.ok (.value (con Γ v)) w) hio hsel hfree hi hcl (λc a w hq=>hQ _ _ _ _ hq) (λd d' w hd=>zW0.mono hd)
       (λdn w hno hS=>hS _ (List.mem_cons_self ..) hno) (.inl ⟨hw,λw hh=>hh⟩) hrun ?_
      refine ih _ _ _ _ h (hcl.list hi) he Γ _ w _ hr (ht.put hs (Ag.refl Γ h.next) hng o.dst v) (uW0 ht.sm hs (Z3 _) o.dst hscv) (by rw[put_defers];exact hd) (hL.cons λΓ' h' w' hg hle hr' he'=>?_) hn
      have:=(pT0 hr' (ht.ag hs hg hng) (λx hx=>qU hle x (hs x hx)) hop he').1
      rw[this,bT hg v hscv]
    ·rw[hwt] at hw
     refine wL0 (v:=undef) (T:=λ_=>True) hio hsel hfree hi hcl (λc a w hq=>hQ _ _ _ _ hq) (λd d' w hd=>zW0.mono hd) (λ_ _ _ _=>trivial) (.inr ⟨hw,rfl⟩) trivial ?_
     have hput:=ht.put hs (Ag.refl Γ h.next) hng o.dst undef
     rw[qQ0] at hput
     rw[e1] at he
     exact ih _ _ L _ h (hcl.list hi) he Γ _ w Lc hr hput (uW0 ht.sm hs (Z3 _) o.dst rfl) (by rw[put_defers];exact hd) hL hn
   ·refine ⟨λh0=>(by rw[hrd] at h0;cases h0),λi hi=>?_⟩
    rw[hrd] at hi
    obtain ⟨o,x,hio,hx,he⟩:=dY0 (m:=λr=>mkPT p.P ops fuel (listed.setIfInBounds r true)) _ he i hi
    have hoo:jY0 p.NG o=true:=hops o (by rw[← Array.getElem?_toList] at hio;exact List.mem_of_getElem? hio)
    have hw:=kG0 ht ops o
    obtain ⟨e1,e2,e3,e4⟩:=It.of_eq hx
    unfold opW
    simp only[hio]
    rcases bG0 hx he with ⟨hwt,he⟩|⟨hwt,he⟩
    ·rw[hwt] at hw
     simp only[Option.getD_some] at hw
     simp only[hw,if_true]
     rw[e3,e4] at he
     refine pQ0 hr ht hs hoo he hF λv h1 Γ' w' hv hg hle hbel hr' hsv=>?_
     obtain ⟨hk,hv⟩:=hv
     rw[e1] at hv
     have hL':=hL.ag hg hle
     have hi':i∈Region.ready .any ops listed:=by rw[hrd];exact hi
     exact ⟨.inl (sO0 hr' (Z3 _) hio hL' hk),ih _ _ _ _ h1 (hcl.step hi') hv Γ' _ w' Lc hr' (ht.put hs hg hng o.dst v) (uW0 ht.sm hs hle o.dst hsv) (by rw[put_defers];exact hd) (hL'.step hio) (hn.step hg hle hbel)⟩
    ·rw[hwt] at hw
     simp only[Option.getD_some] at hw
     simp only[hw,Bool.false_eq_true,if_false]
     have hput:=ht.put hs (Ag.refl Γ h.next) hng o.dst undef
     rw[qQ0] at hput
     rw[e1] at he
     have hi':i∈Region.ready .any ops listed:=by rw[hrd];exact hi
     exact ⟨.inr trivial,ih _ _ _ _ h (hcl.step hi') he Γ _ w Lc hr hput (uW0 ht.sm hs (Z3 _) o.dst rfl) (by rw[put_defers];exact hd) (hL.step hio) hn⟩
theorem uT0 {p:Par}(jW:yT0 p){ro:Z8 Nat}:∀ (c:Code) (s:S) (R:jL→S→Prop),vc p ro (comp p.P c) s R→WP p ro c s R
 | .skip,s,R,h=>WP.skip h
 | .label l,s,R,h=>WP.label h
 | .exit i,s,R,h=>WP.exit h
 | .goto l,s,R,h=>WP.goto h
 | .ret,s,R,h=>WP.ret h
 | .refuse _,s,R,h=>h.elim
 | .seq a b, s, R, h => WP.seq (uT0 jW a s _ h |>.mono fun e s' hr => by
   cases e with
   | normal=>exact uT0 jW b s' R hr
   | exit i=>exact hr
   | goto l=>exact hr
   | ret=>exact hr)
 | .cond x a b,s,R,h=>by
  simp only[comp,vc] at h
  unfold jR at h
  split at h
  ·rename_i v hv
   exact WP.cond hv (λe=>uT0 jW a s R (h.1 e)) (λe=>uT0 jW b s R (h.2 e))
  ·exact h.elim
 | .block i b,s,R,h=>WP.block (uT0 jW b s _ h)
 | .loop b,s,R,h=>h _ rfl
 | .scope b,s,R,h=>WP.scope h
 | .rangeFunc g ps a b,s,R,h=>h _ rfl
 | .region id ops draw,s,R,h=>by
  intro hok Γ ca w hst F n Q hF hro hl hQ
  simp only[qR,Array.all_eq_true_iff_forall_mem] at hok
  have hops:∀ o∈ops.toList,jY0 p.NG o=true:=λo ho=>hok o (by simpa using ho)
  refine gQ (by simp) ?_
  cases draw with
  | false=>
   simp only[comp] at h
   split at h
   case h_2=>exact h.elim
   rename_i xs hxs
   refine wpIn_region ?_
   have:=uO1 hops hF (n:=n) (Q:=Q) (df:=ca.defers) (K:=λtm h=>R .normal ⟨tm,s.df,h⟩) ops.toList 0 xs s.tm s.h (by simp) hxs h Γ ca w hst.hr hst.tm hst.sc rfl
    ⟨λtm' h' Γ' ca' w' hk hg hle hb hr ht hs hd=>hQ _ _ Γ' ca' w' hk hg hle hb ⟨ht,hs,hst.df_ag hg hle hd,hr⟩⟩
   rw[List.range_eq_range']
   simpa using this
  | true=>
   have h:qS p (mkPT p.P ops ops.size (Array.replicate ops.size false)) [] s.tm s.h (λtm h=>R .normal ⟨tm,s.df,h⟩):=h
   have hnd:bR0 ops:=λj o c hj=>(qI0 (hops o (by rw[← Array.getElem?_toList] at hj;exact List.mem_of_getElem? hj))).1 c
   have hq:(Code.region id ops true).wpIn F n p.P (λe a w=>(∀ c,e≠.panic c)∧Q e a w) ca w:=by
    refine zQ0 (S:=zW0 p.P ops []) hF hnd jW.mixed ?_
    refine pN0 hops hF (λc a a' w h=>absurd rfl (h.1 c)) ops.size _ [] [] s.tm s.h ⟨λk ok hok hk=>by
     have hlt:k<ops.size:=by
      rcases Nat.lt_or_ge k ops.size with h'|h'
      ·exact h'
      ·rw[Array.getElem?_eq_none h'] at hok;cases hok
     simp[Array.getD,hlt] at hk,λk hk=>by cases hk⟩ h Γ ca w.drew [] (hst.hr.of_heap rfl) hst.tm hst.sc rfl (λx hx=>by cases hx) ?_
    refine ⟨λtm' h' Γ' ca' w' hk hg hle hb hr ht hs hd=>⟨λc h=>(by cases h),?_⟩⟩
    exact hQ _ _ Γ' ca' w' hk hg hle ((Below.refl p.B w).drew.trans hb) ⟨ht,hs,hst.df_ag hg hle hd,hr⟩
   exact wpIn_mono hq λe a w h=>h.2
theorem W.round {p:Par}(jW:yT0 p){ro:Z8 Nat}{b:IR}{s:S}{R:jL→S→Prop}(h:vc p ro b s (cP0 (λs2=>W p ro (.loop b) s2 R) R)):W p ro (.loop b) s R:=by
 intro c hc
 cases c with
 | loop c=>
  have hc':=hc
  simp only[comp,IR.loop.injEq] at hc
  subst hc
  refine WP.round (uT0 jW c s _ h |>.mono λe s' hr=>?_)
  cases e with
  | normal=>exact hr _ rfl
  | exit i=>exact hr
  | goto l=>exact hr
  | ret=>exact hr
 | region id ops d=>
  cases d with
  | false=>simp only[comp] at hc;split at hc<;>cases hc
  | true=>cases hc
 | _=>cases hc
theorem W.range {p:Par}{ro:Z8 Nat}{g:Zo}{ps:Array Tmp}{a b:Code}{s:S}{R:jL→S→Prop}{l:Nat}{mk:List Nat}{h1:jB}(hent:uN0 ro s.tm ps a b s.h=some (l,mk,h1))
  {f:FuncId} {captured:List Z6} (hgv:ev s.tm g=.func (.func f) #[] ⟨captured⟩) (hc:jG p f (.func (.yield l) #[] #[] :: captured) h1 (lS0 l s mk R)):W p ro (.range g ps a b) s R:=by
 intro c hcc
 cases c with
 | rangeFunc g' ps' a' b'=>
  simp only[comp,IR.range.injEq] at hcc
  obtain ⟨rfl,rfl,rfl,rfl⟩:=hcc
  exact WP.range hent hgv hc
 | region id ops d=>
  cases d with
  | false=>simp only[comp] at hcc;split at hcc<;>cases hcc
  | true=>cases hcc
 | _=>cases hcc
theorem fG1 {r:Z8 Z6}{r2:Z8 (Z6×Z6)}{h:jB}{k k':Z6→jB→Prop}(hv:oT r r2 h k)(hk:∀ v h',k v h'→k' v h'):oT r r2 h k':=by
 cases r with
 | none=>cases r2 with
  | none=>exact hv
  | some x=>exact ⟨hk _ _ hv.1,hk _ _ hv.2⟩
 | some v=>exact hk _ _ hv
theorem fJ1 {r:Z8 (Z6×jB)}{k k':Z6→jB→Prop}(hv:oE r k)(hk:∀ v h',k v h'→k' v h'):oE r k':=by
 cases r with
 | none=>exact hv
 | some v=>exact hk _ _ hv
theorem fI1 {r:Z8 (List (Z6×jB))}{k k':Z6→jB→Prop}(hv:oL r k)(hk:∀ v h',k v h'→k' v h'):oL r k':=by
 cases r with
 | none=>exact hv
 | some l=>exact λx hx=>hk _ _ (hv x hx)
theorem iX0 {p:Par}{c:Cl}{o:Op}{t:Zt}{tm:VT}{h:jB}{k k':Z6→jB→Prop}(hv:vop p c o t tm h k)(hk:∀ v h',k v h'→k' v h'):vop p c o t tm h k':=by
 cases c with
 | take=>exact fG1 hv hk
 | eff=>exact fJ1 hv hk
 | mp=>exact fI1 hv hk
 | call=>
  cases o with
  | call c=>
   obtain ⟨cl,args,ats⟩:=c
   cases cl with
   | value f=>exact jK.mono hv hk
   | _=>exact hv
  | _=>exact hv
theorem fQ1 {v:Z6}{w:Zb}{A B A' B':Prop}(h:gV v w A B)(ha:A→A')(hb:B→B'):gV v w A' B':=by
 cases v with
 | bool b=>exact ⟨λe=>ha (h.1 e),λe=>hb (h.2 e)⟩
 | _=>exact hb h
theorem bH0 {tm:VT}{g:Z8 (Nat×Zb)}{A B A' B':Prop}(h:vgd tm g A B)(ha:A→A')(hb:B→B'):vgd tm g A' B':=by
 cases g with
 | none=>exact ha h
 | some x=>exact fQ1 h ha hb
theorem kI0 {p:Par}{K K':VT→jB→Prop}(hK:∀ tm h,K tm h→K' tm h):∀ (l:List It) (tm:VT) (h:jB),vops p l tm h K→vops p l tm h K'
 | [],tm,h,hv=>hK tm h hv
 | x :: l,tm,h,hv=>bH0 hv (λhv=>iX0 hv λv h'=>kI0 hK l _ h') (kI0 hK l _ h)
theorem kO {p:Par}{K K':VT→jB→Prop}(hK:∀ tm h,K tm h→K' tm h):∀ (t:PT) (L:HL) (tm:VT) (h:jB),qS p t L tm h K→qS p t L tm h K'
 | .fin,L,tm,h,hv=>hK tm h hv
 | .no,L,tm,h,hv=>trivial
 | .bad,L,tm,h,hv=>hv
 | .take i rd x k,L,tm,h,hv=>by
  simp only[qS] at hv ⊢
  refine bH0 hv (λhv=>?_) (kO hK k L _ h)
  cases rd with
  | false=>
   simp only[oP] at hv ⊢
   split
   ·rename_i hr;rw[hr] at hv;exact kO hK k _ _ h hv
   ·rename_i hr;rw[hr] at hv;exact hv
  | true=>
   cases hr:tv p.P x.o x.t tm h with
   | some v=>rw[hr] at hv;exact kO hK k _ _ h hv
   | none=>
    rw[hr] at hv
    simp only at hv ⊢
    cases hr2:tw p.P x.o tm h with
    | some v=>rw[hr2] at hv;exact ⟨kO hK k _ _ h hv.1,kO hK k _ _ h hv.2⟩
    | none=>rw[hr2] at hv;exact hv
 | .eff i x bind k alt,L,tm,h,hv=>by
  simp only[qS] at hv ⊢
  exact ⟨bH0 hv.1 (λhv=>iX0 hv λv h' hh=>⟨hh.1,kO hK k _ _ h' hh.2⟩) (kO hK k _ _ h),kO hK alt L tm h hv.2⟩
theorem wO0 {p:Par}{ro:Z8 Nat}:∀ (ir:IR) (s:S) (R R':jL→S→Prop),(∀ e s',R e s'→R' e s')→vc p ro ir s R→vc p ro ir s R'
 | .bad,s,R,R',hR,h=>h
 | .skip,s,R,R',hR,h=>hR _ _ h
 | .ret,s,R,R',hR,h=>hR _ _ h
 | .exit i,s,R,R',hR,h=>hR _ _ h
 | .goto l,s,R,R',hR,h=>hR _ _ h
 | .label l,s,R,R',hR,h=>hR _ _ h
 | .ops l,s,R,R',hR,h=>kI0 (λtm h=>hR _ _) l _ _ h
 | .plan t,s,R,R',hR,h=>kO (λtm h=>hR _ _) t _ _ _ h
 | .seq a b, s, R, R', hR, h => wO0 a s _ _ (fun e s' hh => by
   cases e with
   | normal=>exact wO0 b s' R R' hR hh
   | exit i=>exact hR _ _ hh
   | goto l=>exact hR _ _ hh
   | ret=>exact hR _ _ hh) h
 | .cond x a b,s,R,R',hR,h=>by
  simp only[vc] at h ⊢
  unfold jR at h ⊢
  split
  ·rename_i hv;simp only[hv] at h;exact ⟨λe=>wO0 a s R R' hR (h.1 e),λe=>wO0 b s R R' hR (h.2 e)⟩
  ·rename_i hne
   split at h
   ·rename_i hv;exact absurd hv (hne _)
   ·exact h
 | .block i b, s, R, R', hR, h => wO0 b s _ _ (fun e s' hh => by
   cases e with
   | exit j=>
    simp only[outR] at hh ⊢
    split
    ·rename_i e;rw[if_pos e] at hh;exact hR _ _ hh
    ·rename_i e;rw[if_neg e] at hh;exact hR _ _ hh
   | normal=>exact hR _ _ hh
   | goto l=>exact hR _ _ hh
   | ret=>exact hR _ _ hh) h
 | .loop b,s,R,R',hR,h=>λc hc=>(h c hc).mono hR
 | .scope b,s,R,R',hR,h=>λh1 h2 Γ ca w hst F n Q hF hro hl hQ=>h h1 h2 Γ ca w hst F n Q hF hro hl λe s' Γ' ca' w' hr=>hQ e s' Γ' ca' w' (hR e s' hr)
 | .range g ps a b,s,R,R',hR,h=>λc hc=>(h c hc).mono hR
@[congr] theorem oP_congr {r r':Z8 Z6} {h:jB} {k:Z6→jB→Prop} (e:r=r'):oP r h k=oP r' h k:=by rw[e]
@[congr] theorem oT_congr {r r':Z8 Z6} {q:Z8 (Z6×Z6)} {h:jB} {k:Z6→jB→Prop} (e:r=r'):oT r q h k=oT r' q h k:=by rw[e]
def oQ (q:Z8 (Z6×Z6))(h:jB)(k:Z6→jB→Prop):Prop:=match q with|some (a,b)=>k a h∧k b h|none=>False
@[congr] theorem oQ_congr {q q':Z8 (Z6×Z6)} {h:jB} {k:Z6→jB→Prop} (e:q=q'):oQ q h k=oQ q' h k:=by rw[e]
def oW (q:Z8 (Z6×Z6))(k1 k2:Z6→Prop):Prop:=match q with|some (a,b)=>k1 a∧k2 b|none=>False
@[congr] theorem oW_congr {q q':Z8 (Z6×Z6)} {k1 k2:Z6→Prop} (e:q=q'):oW q k1 k2=oW q' k1 k2:=by rw[e]
def oR (r:Z8 Z6)(q:Z8 (Z6×Z6))(k k1 k2:Z6→Prop):Prop:=match r with
 | some v=>k v
 | none=>match q with
  | some (a,b)=>k1 a∧k2 b
  | none=>False
@[congr] theorem oR_congr {r r':Z8 Z6} {q:Z8 (Z6×Z6)} {k k1 k2:Z6→Prop} (e:r=r'):oR r q k k1 k2=oR r' q k k1 k2:=by rw[e]
@[congr] theorem oE_congr {r r':Z8 (Z6×jB)} {k:Z6→jB→Prop} (e:r=r'):oE r k=oE r' k:=by rw[e]
@[congr] theorem gV_congr {v v':Z6} {w:Zb} {A B:Prop} (e:v=v'):gV v w A B=gV v' w A B:=by rw[e]
@[congr] theorem cF1 {v v':Z6} {A B:Prop} (e:v=v'):jR v A B=jR v' A B:=by rw[e]
@[congr] theorem lX1 {p:Par} {f f':Z6} {l l':List Z6} {h:jB} {R:Z6→jB→Prop} (e:f=f') (e2:l=l'):jK p f l h R=jK p f' l' h R:=by rw[e,e2]
@[congr] theorem lW1 {p:Par} {f:FuncId} {l l':List Z6} {h:jB} {R:Z6→jB→Prop} (e2:l=l'):wN0 p f l h R=wN0 p f l' h R:=by rw[e2]
@[congr] theorem lY1 {p:Par} {f:FuncId} {l l':List Z6} {h:jB} {R:Z6→jB→Prop} (e2:l=l'):jG p f l h R=jG p f l' h R:=by rw[e2]
@[congr] theorem W_congr {p:Par} {ro:Z8 Nat} {ir:IR} {s:S} {R:jL→S→Prop}:W p ro ir s R=W p ro ir s R:=rfl
@[congr] theorem vc_congr {p:Par} {ro:Z8 Nat} {ir:IR} {s:S} {R:jL→S→Prop}:vc p ro ir s R=vc p ro ir s R:=rfl
@[congr] theorem cD1 {p:Par} {t:PT} {L:HL} {tm:VT} {h:jB} {K:VT→jB→Prop}:qS p t L tm h K=qS p t L tm h K:=rfl
@[congr] theorem lZ1 {p:Par} {l:List It} {tm:VT} {h:jB} {K:VT→jB→Prop}:vops p l tm h K=vops p l tm h K:=rfl
@[congr] theorem bV1 {p:Par} {l:Nat} {args args':List Z6} {h:jB} {R:Z6→jB→Prop} (e:args=args'):gR p l args h R=gR p l args' h R:=by rw[e]
section
variable {p:Par} {P:Z9} {ro:Z8 Nat} {s:S} {R:jL→S→Prop}
def endM (P:Z9)(rs:List ResultVar)(R:Z6→jB→Prop)(tm:VT):Z8 jB→Prop
 | some h1=>oP (qP0 P rs tm h1) h1 R
 | none=>False
theorem iE0 (h:jB):bR [] h=some h:=rfl
theorem iH1 (tm:VT)(h:jB):qP0 P [] tm h=some (.tuple #[]):=rfl
theorem iG1 (tm:VT)(h:jB)(t:Nat):qP0 P [.tmp t] tm h=some (tm.get t):=rfl
theorem iF1 (tm:VT)(h:jB)(t u:Nat):qP0 P [.tmp t,.tmp u] tm h=some (.tuple #[tm.get t,tm.get u]):=rfl
theorem iE1 (tm:VT)(h:jB)(t u v:Nat):qP0 P [.tmp t,.tmp u,.tmp v] tm h=some (.tuple #[tm.get t,tm.get u,tm.get v]):=rfl
theorem iD1 (tm:VT)(h:jB)(t u v w:Nat):qP0 P [.tmp t,.tmp u,.tmp v,.tmp w] tm h=some (.tuple #[tm.get t,tm.get u,tm.get v,tm.get w]):=rfl
theorem zZ1 (tm:VT)(h:jB)(a t:Nat):qP0 P [.cell a t] tm h=jA P t (tm.get a) h:=by
 simp only[qP0,qP.go]
 cases jA P t (tm.get a) h<;>rfl
variable {K:VT→jB→Prop} {k:Z6→jB→Prop}
def jD (A B:Prop):Prop:=A∧B
@[congr] theorem fN1 {A A' B:Prop} (e:A=A'):jD A B=jD A' B:=by rw[e]
theorem sP0 (b:List Nat)(h:jB):jC b h []=True:=rfl
theorem nN0 (b:List Nat)(h:jB)(i:Nat)(rd:jB→Z8 Z6)(v:Z6)(L:HL):jC b h ((i,rd,v) :: L)=((i∈b∨rd h=some v)∧jC b h L):=by
 simp only[jC]
 cases hb:b.contains i with
 | true=>simp at hb;simp[hb]
 | false=>simp at hb;simp[hb]
theorem pL0 (g:FuncId)(c:List Z6)(args:List Z6)(h:jB):jK p (.func (.func g) ⟨[]⟩ ⟨c⟩) args h k=wN0 p g (args++c) h k:=rfl
theorem iT0 (g:FuncId)(args:List Z6)(h:jB):jK p (.func (.func g) #[] #[]) args h k=wN0 p g args h k:=by
 have:=pL0 (p:=p) (k:=k) g [] args h
 rw[List.append_nil] at this
 exact this
variable {A B:Prop}
theorem dO0:gV (.bool true) true A B=A:=by simp[gV]
theorem dP0:gV (.bool true) false A B=B:=by simp[gV]
theorem dQ0:gV (.bool false) true A B=B:=by simp[gV]
theorem dR0:gV (.bool false) false A B=A:=by simp[gV]
theorem put_s (n:Nat)(l:List (Nat×Z6))(i:Nat)(v:Z6):put (FR n l) (some i) v=FR n ((i,v) :: l):=rfl
theorem put_n (tm:VT)(v:Z6):put tm none v=tm:=rfl
theorem le_U {n:Nat}(h:n≤100000):n<U:=by unfold U;omega
theorem FR_g (n:Nat)(l:List (Nat×Z6))(i:Nat)(v:Z6)(j:Nat)(hn:n≤100000):(FR n ((i,v) :: l)).get j=if i=j then (if i<n then v else undef) else (FR n l).get j:=tB1 n (le_U hn) l i v j
theorem FR_g0 (n j:Nat)(hn:n≤100000):(FR n []).get j=undef:=pK0 n j (le_U hn)
theorem jX1 (i:Nat):zU0 i []=[]:=rfl
theorem nV0 (i:Nat)(v:Z6)(l:List Z6):zU0 i (v :: l)=zU0 (i+1) l++[(i,v)]:=rfl
variable {tm:VT} {h:jB} {t:Zt}
theorem rP1 (i:Nat):ev tm (.tmp i)=tm.get i:=rfl
theorem zU1 (v:Z6):ev tm (.const v)=v:=rfl
theorem iB1 (f:FuncId):ev tm (.func f)=.func (.func f) #[] #[]:=rfl
theorem jU1 (g:Nat):ev tm (.global g)=.pointer (some ⟨g,0,none⟩):=rfl
theorem qM {α β:Type}(P:Z9)(f:α→Sem β):∀ s:Sem α,pv P (s >>= f)=(pv P s).bind (λa=>pv P (f a)):=by
 intro s
 show pv P (Sem.bind s f)=_
 induction s with
 | pure a=>rfl
 | program k ih=>exact ih P
 | mark m k ih=>exact ih
 | _=>rfl
theorem qB {α:Type}(P:Z9)(a:α):pv P (pure a:Sem α)=some a:=rfl
theorem bE1 {α β:Type}(P:Z9)(f:α→β)(s:Sem α):pv P (f <$> s)=(pv P s).map f:=by
 show pv P (s >>= λa=>pure (f a))=_
 rw[qM]
 cases pv P s<;>rfl
theorem bP {d:TypeDesc}(h:P.underlying t=some d):pv P (underlying t)=some d:=by
 simp only[underlying,qM]
 simp only[program,pv,Option.bind_some,h]
 rfl
theorem fB1 (a b:Z6):kI (.bool true) a b=some a:=rfl
theorem fC1 (a b:Z6):kI (.bool false) a b=some b:=rfl
theorem rO1 (l:List Z6)(i:Nat):extV (.tuple ⟨l⟩) i=l[i]?:=by simp[extV]
theorem cG1 (b:Zb):unV P .not (.bool b)=some (.bool (!b)):=rfl
theorem cH1 (k:IntKind)(n:Int):unV P .neg (.int k n)=some (.int k (k.wrap (-n))):=by
 simp only[unV,pvF,flat,Op.unary,Op.intArith,qB,Int.zero_sub]
theorem faV_p (o b k:Nat):faV (some o) (.pointer (some ⟨b,k,none⟩))=some (.pointer (some ⟨b,k+o,none⟩)):=by simp[faV,addr_add]
theorem fdV_a (b:Zb)(n off:Nat)(cs:List Z6):fdV (some (b,n,off)) (.agg ⟨cs⟩)=uL0 b n cs off:=rfl
theorem fD1 (n:Nat)(cs:List Z6)(off:Nat):uL0 false n cs off=cs[off]?:=rfl
theorem sB0 (n:Nat)(cs:List Z6)(off:Nat):uL0 true n cs off=if off+n≤cs.length then some (.agg ⟨(cs.drop off).take n⟩) else none:=rfl
theorem iaV_s (n b o len c:Nat)(k:IntKind)(i:Int)(h0:0≤i)(hi:i<len):iaV (some (none,n)) (.slice (some ⟨b,o,none⟩) len c) (.int k i)=some (.pointer (some ⟨b,o+i.toNat*n,none⟩)):=by
 simp[iaV,h0,hi,addr_add]
theorem iaV_a (n len b o:Nat)(k:IntKind)(i:Int)(h0:0≤i)(hi:i<len):iaV (some (some len,n)) (.pointer (some ⟨b,o,none⟩)) (.int k i)=some (.pointer (some ⟨b,o+i.toNat*n,none⟩)):=by
 simp[iaV,h0,hi,addr_add]
theorem ixV_s (s:ByteArray)(k:IntKind)(i:Int)(h0:0≤i)(hi:i<s.size):ixV (some none) (.string s) (.int k i)=some (.int .u8 (qN1 s i.toNat)):=by
 simp[ixV,h0,hi]
theorem ixV_a (b:Zb)(n z len:Nat)(cs:List Z6)(k:IntKind)(i:Int)(h0:0≤i)(hi:i<len):ixV (some (some (b,n,z,len))) (.agg ⟨cs⟩) (.int k i)=uL0 b n cs (i.toNat*z):=by
 simp[ixV,h0,hi]
theorem ncV_p (a:Addr):ncV (.pointer (some a))=some (.pointer (some a)):=rfl
theorem ncV_f (g:FuncId)(f c:Array Z6):ncV (.func (.func g) f c)=some (.func (.func g) f c):=rfl
theorem miV_f (t:Zt)(v:Z6):miV (some false) t v=some (.iface t v):=rfl
theorem lnB_l (a:Z8 Addr)(n c:Nat):lnB (some false) (.slice a n c)=some (.int .i64 n):=rfl
theorem bdV_s (pl:List (Nat×Nat))(cs:List Z6)(parts:List (Nat×Z6)):bdV (some (pl,cs)) parts=(match wD0 pl cs parts with|some cs'=>some (.agg ⟨cs'⟩)|none=>none):=rfl
theorem jQ1 (pl:List (Nat×Nat))(cs:List Z6):wD0 pl cs []=some cs:=rfl
def wV0 (pl:List (Nat×Nat))(cs:List Z6)(v:Z6)(rest:List (Nat×Z6)):Z8 (Nat×Nat)→Z8 (List Z6)
 | some (off,n)=>if v.cells.toList.length=n∧off+n≤cs.length then wD0 pl (jJ cs off v.cells.toList) rest else none
 | none=>none
theorem nR0 (pl:List (Nat×Nat))(cs:List Z6)(i:Nat)(v:Z6)(rest:List (Nat×Z6)):wD0 pl cs ((i,v) :: rest)=wV0 pl cs v rest pl[i]?:=by
 first
 | (simp only[wD0,wV0];done)
 | (simp only[wD0,wV0];cases pl[i]?<;>rfl)
theorem fS1 (pl:List (Nat×Nat))(cs:List Z6)(v:Z6)(rest:List (Nat×Z6))(off n:Nat)(h1:v.cells.toList.length=n)(h2:off+n≤cs.length) :
  wV0 pl cs v rest (some (off,n))=wD0 pl (jJ cs off v.cells.toList) rest:=by
 simp only[wV0,if_pos (And.intro h1 h2)]
theorem cvV_p (s d:Zt)(v u:Z6)(hc:cvP P s d v=some u):cvV P s d v h=some u:=by simp only[cvV,hc]
section tvs
variable {t:Zt} {tm:VT} {h:jB}
theorem cO1 (x:Zo):tp P (.move x) t tm=some (ev tm x):=rfl
theorem cL1 (x:Zo):tv P (.move x) t tm h=some (ev tm x):=rfl
theorem pV0 (x:Zo):tp P (.assign x) t tm=some (ev tm x):=rfl
theorem pU0 (x:Zo):tv P (.assign x) t tm h=some (ev tm x):=rfl
theorem cN1 (c a b:Zo):tp P (.pick c a b) t tm=kI (ev tm c) (ev tm a) (ev tm b):=rfl
theorem cK1 (c a b:Zo):tv P (.pick c a b) t tm h=kI (ev tm c) (ev tm a) (ev tm b):=rfl
theorem mY0 (x:Zo)(i:Nat):tp P (.extract x i) t tm=extV (ev tm x) i:=rfl
theorem mW0 (x:Zo)(i:Nat):tv P (.extract x i) t tm h=extV (ev tm x) i:=rfl
theorem nD1 (op:BinOp)(ty:Zt)(x y:Zo)(yt:Zt):tp P (.binOp op ty x y yt) t tm=jF P op ty x y (ev tm x) (ev tm y):=rfl
theorem mZ1 (op:BinOp)(ty:Zt)(x y:Zo)(yt:Zt):tv P (.binOp op ty x y yt) t tm h=jF P op ty x y (ev tm x) (ev tm y):=rfl
theorem tp_un (op:UnOp)(ty:Zt)(x:Zo):tp P (.unOp op ty x) t tm=unV P op (ev tm x):=rfl
theorem tv_un (op:UnOp)(ty:Zt)(x:Zo):tv P (.unOp op ty x) t tm h=unV P op (ev tm x):=rfl
theorem tp_fa (s:Zt)(x:Zo)(f:Nat):tp P (.fieldAddr s x f) t tm=faV (fld P s f) (ev tm x):=rfl
theorem tv_fa (s:Zt)(x:Zo)(f:Nat):tv P (.fieldAddr s x f) t tm h=faV (fld P s f) (ev tm x):=rfl
theorem tp_fd (s:Zt)(x:Zo)(f:Nat):tp P (.field s x f) t tm=fdV (fldT P s f) (ev tm x):=rfl
theorem tv_fd (s:Zt)(x:Zo)(f:Nat):tv P (.field s x f) t tm h=fdV (fldT P s f) (ev tm x):=rfl
theorem tp_ia (s:Zt)(x i:Zo):tp P (.indexAddr s x i) t tm=iaV (esz P s) (ev tm x) (ev tm i):=rfl
theorem tv_ia (s:Zt)(x i:Zo):tv P (.indexAddr s x i) t tm h=iaV (esz P s) (ev tm x) (ev tm i):=rfl
theorem tp_ix (s:Zt)(x i:Zo):tp P (.index s x i) t tm=ixV (ixT P s) (ev tm x) (ev tm i):=rfl
theorem tv_ix (s:Zt)(x i:Zo):tv P (.index s x i) t tm h=ixV (ixT P s) (ev tm x) (ev tm i):=rfl
theorem tp_nc (x:Zo):tp P (.nilCheck x) t tm=ncV (ev tm x):=rfl
theorem tv_nc (x:Zo):tv P (.nilCheck x) t tm h=ncV (ev tm x):=rfl
theorem tp_mf (g:FuncId)(f c:List Zo):tp P (.makeFunc (.func g) ⟨f⟩ ⟨c⟩) t tm=some (.func (.func g) ⟨f.map (ev tm)⟩ ⟨c.map (ev tm)⟩):=rfl
theorem tv_mf (g:FuncId)(f c:List Zo):tv P (.makeFunc (.func g) ⟨f⟩ ⟨c⟩) t tm h=some (.func (.func g) ⟨f.map (ev tm)⟩ ⟨c.map (ev tm)⟩):=rfl
theorem tp_mi (ty:Zt)(x:Zo):tp P (.makeInterface ty x) t tm=miV (isI P ty) ty (ev tm x):=rfl
theorem tv_mi (ty:Zt)(x:Zo):tv P (.makeInterface ty x) t tm h=miV (isI P ty) ty (ev tm x):=rfl
theorem wF1 (ty:Zt)(parts:List (Nat×Zo)):tp P (.build ty ⟨parts⟩) t tm=bdV (plc P ty) (parts.map λx=>(x.1,ev tm x.2)):=rfl
theorem wE1 (ty:Zt)(parts:List (Nat×Zo)):tv P (.build ty ⟨parts⟩) t tm h=bdV (plc P ty) (parts.map λx=>(x.1,ev tm x.2)):=rfl
theorem nC1 (x:Zo)(ty:Zt):tp P (.call ⟨.builtin .len,#[x],#[ty]⟩) t tm=lnB (lnT P ty) (ev tm x):=rfl
theorem mY1 (x:Zo)(ty:Zt):tv P (.call ⟨.builtin .len,#[x],#[ty]⟩) t tm h=lnB (lnT P ty) (ev tm x):=rfl
theorem nA1 (args:List Zo)(ts:Array Zt):tp P (.call ⟨.builtin .min,⟨args⟩,ts⟩) t tm=mnV P ts t (args.map (ev tm)):=rfl
theorem mW1 (args:List Zo)(ts:Array Zt):tv P (.call ⟨.builtin .min,⟨args⟩,ts⟩) t tm h=mnV P ts t (args.map (ev tm)):=rfl
theorem nB1 (args:List Zo)(ts:Array Zt):tp P (.call ⟨.builtin .max,⟨args⟩,ts⟩) t tm=mxV P ts t (args.map (ev tm)):=rfl
theorem mX1 (args:List Zo)(ts:Array Zt):tv P (.call ⟨.builtin .max,⟨args⟩,ts⟩) t tm h=mxV P ts t (args.map (ev tm)):=rfl
theorem cM1 (ty:Zt)(a:Zo):tv P (.load ty a) t tm h=jA P ty (ev tm a) h:=rfl
theorem wD1 (ty:Zt)(x:Zo)(lo hi mx:Z8 Zo):tv P (.slice ty x lo hi mx) t tm h=slV P ty (ev tm x) (lo.map (ev tm)) (hi.map (ev tm)) (mx.map (ev tm)) h:=rfl
theorem mX0 (s d:Zt)(x:Zo):tv P (.convert s d x) t tm h=cvV P s d (ev tm x) h:=rfl
theorem wJ1 (e:Zt):te P (.alloc e) t tm h=alE (zro P e) e h:=rfl
theorem nJ1 (e:Zt)(x:Zo):te P (.box e x) t tm h=bxE e (ev tm x) h:=rfl
theorem te_bs (ty:Zt)(len:Nat)(parts:List (Nat×Zo)):te P (.buildSlice ty len ⟨parts⟩) t tm h=bsE (slT P ty) len (parts.map λx=>(x.1,ev tm x.2)) h:=rfl
theorem wG1 (ty:Zt)(a x:Zo):te P (.store ty a x) t tm h=stE (szT P ty) (ev tm a) (ev tm x) h:=rfl
theorem te_ms (ty:Zt)(l c:Zo):te P (.makeSlice ty l c) t tm h=msE (mkT P ty) (ev tm l) (ev tm c) h:=rfl
theorem pZ0 (s x:Zo)(sT xT:Zt):te P (.call ⟨.builtin .append,#[s,x],#[sT,xT]⟩) t tm h=jE P sT xT (ev tm s) (ev tm x) h:=rfl
end tvs
section bin
variable {x y:Zo} {ty:Zt} {k:IntKind} {a b:Int}
theorem b_add:jF P .add ty x y (.int k a) (.int k b)=some (.int k (k.wrap (a+b))):=by
 simp[jF,eqGuard,binOp,Op.intArith,pvF,qB,flat]
theorem b_sub:jF P .sub ty x y (.int k a) (.int k b)=some (.int k (k.wrap (a-b))):=by
 simp[jF,eqGuard,binOp,Op.intArith,pvF,qB,flat]
theorem b_mul:jF P .mul ty x y (.int k a) (.int k b)=some (.int k (k.wrap (a*b))):=by
 simp[jF,eqGuard,binOp,Op.intArith,pvF,qB,flat]
theorem b_quo (hb:b≠0):jF P .quo ty x y (.int k a) (.int k b)=some (.int k (k.wrap (a.tdiv b))):=by
 simp[jF,eqGuard,binOp,Op.intDiv,hb,pvF,qB,flat]
theorem b_rem (hb:b≠0):jF P .rem ty x y (.int k a) (.int k b)=some (.int k (a.tmod b)):=by
 simp[jF,eqGuard,binOp,Op.intDiv,hb,pvF,qB,flat]
theorem b_lss:jF P .lss ty x y (.int k a) (.int k b)=some (.bool (decide (a<b))):=by
 simp[jF,eqGuard,binOp,Op.intCmp,pvF,qB,flat]
theorem b_leq:jF P .leq ty x y (.int k a) (.int k b)=some (.bool (decide (a≤b))):=by
 simp[jF,eqGuard,binOp,Op.intCmp,pvF,qB,flat]
theorem b_gtr:jF P .gtr ty x y (.int k a) (.int k b)=some (.bool (decide (b<a))):=by
 simp[jF,eqGuard,binOp,Op.intCmp,pvF,qB,flat]
theorem b_geq:jF P .geq ty x y (.int k a) (.int k b)=some (.bool (decide (b≤a))):=by
 simp[jF,eqGuard,binOp,Op.intCmp,pvF,qB,flat]
theorem b_eql:jF P .eql ty x y (.int k a) (.int k b)=some (.bool (decide (a=b))):=by
 simp[jF,eqGuard,binOp,Op.intCmp,pvF,qB,flat]
 rfl
theorem b_neq:jF P .neq ty x y (.int k a) (.int k b)=some (.bool (!decide (a=b))):=by
 simp[jF,eqGuard,binOp,Op.intCmp,pvF,qB,flat]
 rfl
theorem b_shr {j:IntKind}(hb:0≤b):jF P .shr ty x y (.int k a) (.int j b)=some (.int k (a.fdiv (2 ^ min b.toNat k.bits))):=by
 have:¬ b<0:=Z0
 simp[jF,eqGuard,binOp,Op.shift,this,pvF,qB,flat]
theorem b_shl {j:IntKind}(hb:0≤b):jF P .shl ty x y (.int k a) (.int j b)=some (.int k (k.wrap (a*2 ^ min b.toNat k.bits))):=by
 have:¬ b<0:=Z0
 simp[jF,eqGuard,binOp,Op.shift,this,pvF,qB,flat]
theorem eE0 (hu:P.underlying ty=some .bool)(a b:Zb):pv P (Op.equal ty (.bool a) (.bool b))=some (a == b):=by
 have h:∀ d:Nat,pv P (Op.equalIn (d+1) ty (.bool a) (.bool b))=some (a == b):=λd=>by
  simp only[Op.equalIn,qM,bP hu,Option.bind_some,qB]
 exact h 9999
def isBool (P:Z9)(t:Zt):Zb:=match P.underlying t with|some .bool=>true|_=>false
theorem dN0 (h:isBool P ty=true):P.underlying ty=some .bool:=by
 unfold isBool at h;split at h
 ·assumption
 ·cases h
theorem sQ1 {a b:Zb}(hu:isBool P ty=true):jF P .eql ty x y (.bool a) (.bool b)=some (.bool (a == b)):=by
 simp[jF,eqGuard,binOp,pvF,bE1,eE0 (dN0 hu),flat]
theorem sK1 {a b:Zb}(hu:isBool P ty=true):jF P .neq ty x y (.bool a) (.bool b)=some (.bool (!(a == b))):=by
 simp[jF,eqGuard,binOp,pvF,bE1,eE0 (dN0 hu),flat]
theorem sM1 {a b:ByteArray}:jF P .eql ty x y (.string a) (.string b)=some (.bool (a.data.toList == b.data.toList)):=by
 simp only[jF,qU0]
theorem sH1 {a b:ByteArray}:jF P .neq ty x y (.string a) (.string b)=some (.bool (!(a.data.toList == b.data.toList))):=by
 simp only[jF,qU0]
theorem sS1 {a b:ByteArray}(hs:a.size+b.size≤9223372036854775807):jF P .add ty x y (.string a) (.string b)=some (.string (a++b)):=by
 have hm:IntKind.i64.max=9223372036854775807:=by decide
 have:¬ (((a.size+b.size:Nat):Int) > IntKind.i64.max):=by rw[hm];omega
 simp only[jF,eqGuard,binOp,Op.stringOp,if_neg this,pvF,qB,flat,qM]
 rfl
def fL0 (P:Z9)(t:Zt):Zb:=match P.underlying t with|some (.slice _)=>true|_=>false
def sS0 (P:Z9)(t:Zt):Zb:=match P.underlying t with|some (.pointer _)=>true|_=>false
theorem sO1 {u:Z8 Addr}{n c n' c':Nat}(hu:fL0 P ty=true):jF P .eql ty x y (.slice u n c) (.slice none n' c')=some (.bool u.isNone):=by
 unfold fL0 at hu
 simp only[jF]
 split at hu
 ·rename_i h;rw[h]
 ·cases hu
theorem sJ1 {u:Z8 Addr}{n c n' c':Nat}(hu:fL0 P ty=true):jF P .neq ty x y (.slice u n c) (.slice none n' c')=some (.bool (!u.isNone)):=by
 unfold fL0 at hu
 simp only[jF]
 split at hu
 ·rename_i h;rw[h]
 ·cases hu
theorem sN1 {u:Z8 Addr}(hu:sS0 P ty=true):jF P .eql ty x y (.pointer u) (.pointer none)=some (.bool u.isNone):=by
 unfold sS0 at hu
 simp only[jF]
 split at hu
 ·rename_i h;rw[h]
 ·cases hu
theorem sI1 {u:Z8 Addr}(hu:sS0 P ty=true):jF P .neq ty x y (.pointer u) (.pointer none)=some (.bool (!u.isNone)):=by
 unfold sS0 at hu
 simp only[jF]
 split at hu
 ·rename_i h;rw[h]
 ·cases hu
end bin
theorem wrap_i64 {n:Int}(h1:-9223372036854775808≤n)(h2:n≤9223372036854775807):IntKind.i64.wrap n=n:=IntWalk.i64_in _ Z0
end
section
variable {p:Par} {P:Z9} {t:Zt} {tm:VT} {h:jB}
theorem jN (b:Nat)(x:jV):(h.put b x).next=h.next:=rfl
theorem qI (b:Nat)(x:jV):(h.put b x).lo=h.lo:=rfl
theorem jH (x:jV):(h.add x).next=h.next+1:=by unfold jB.add;rw[jB.new_eq]
theorem jS (x:jV):(h.add x).lo=h.lo:=by unfold jB.add;rw[jB.new_eq]
theorem jE0 (b:Nat)(x:jV):(h.put b x).get b=some x:=by rw[jB.get_put,if_pos rfl]
theorem jM0 (b:Nat)(x:jV)(i:Nat)(hi:i≠b):(h.put b x).get i=h.get i:=by rw[jB.get_put,if_neg hi]
theorem tX0 (x:jV)(i:Nat):(h.add x).get i=if i=h.next then some x else h.get i:=by
 unfold jB.add;rw[jB.new_eq];exact Tr.get_put h.t h.next x i
theorem jF0 (x:jV)(i:Nat)(hi:i=h.next):(h.add x).get i=some x:=by rw[tX0,if_pos hi]
theorem qN0 (x:jV)(i:Nat)(hi:i≠h.next):(h.add x).get i=h.get i:=by rw[tX0,if_neg hi]
theorem qS0 {h h':jB}{i j:Nat}(e:h.get i=h'.get j):cells h i=cells h' j:=by unfold cells;rw[e]
theorem jO (b:Nat)(cs:List Z6)(e:Zt)(m:Zb):cells (h.put b (O cs e m)) b=some (cs,e,m):=by unfold cells;rw[jE0];rfl
theorem qH (b:Nat)(x:jV)(i:Nat)(hi:i≠b):cells (h.put b x) i=cells h i:=qS0 (jM0 b x i hi)
theorem jP (cs:List Z6)(e:Zt)(m:Zb)(i:Nat)(hi:i=h.next):cells (h.add (O cs e m)) i=some (cs,e,m):=by unfold cells;rw[jF0 _ _ hi];rfl
theorem kN (x:jV)(i:Nat)(hi:i≠h.next):cells (h.add x) i=cells h i:=qS0 (qN0 x i hi)
theorem dV0 (n:Nat)(b:Zb):fone n (.bool b)=true:=rfl
theorem mB0 (n:Nat)(k:IntKind)(b:Int):fone n (.int k b)=true:=rfl
theorem mA0 (n:Nat)(b:ByteArray):fone n (.string b)=true:=rfl
theorem jF1 (n:Nat):fone n (.pointer none)=true:=rfl
theorem jE1 (n a b:Nat):fone n (.slice none a b)=true:=rfl
theorem jJ1 (n:Nat):fone n (.map none)=true:=rfl
theorem jH1 (n:Nat):fone n .nilFunc=true:=rfl
theorem jG1 (n:Nat):fone n .nilIface=true:=rfl
theorem pY1 (n b o:Nat)(hb:b<n):fone n (.pointer (some ⟨b,o,none⟩))=true:=by
 rw[qO0];simp[one,sc,scA,hb]
theorem gN0 (n b o l c:Nat)(hb:b<n):fone n (.slice (some ⟨b,o,none⟩) l c)=true:=by
 rw[qO0];simp[one,sc,scA,hb]
theorem dW0 (n:Nat):jT n []=true:=rfl
theorem gM (n:Nat)(v:Z6)(l:List Z6)(h1:fone n v=true)(h2:jT n l=true):jT n (v :: l)=true:=by
 show (Bool.rec false (jT n l) (fone n v):Zb)=true
 rw[h1,h2]
theorem oE1 (n:Nat)(b:Zb):(fone n (.bool b)=true)=True:=by simp[dV0]
theorem q_int (n:Nat)(k:IntKind)(b:Int):(fone n (.int k b)=true)=True:=by simp[mB0]
theorem q_str (n:Nat)(b:ByteArray):(fone n (.string b)=true)=True:=by simp[mA0]
theorem q_p0 (n:Nat):(fone n (.pointer none)=true)=True:=by simp[jF1]
theorem q_s0 (n a b:Nat):(fone n (.slice none a b)=true)=True:=by simp[jE1]
theorem q_m0 (n:Nat):(fone n (.map none)=true)=True:=by simp[jJ1]
theorem q_nf (n:Nat):(fone n .nilFunc=true)=True:=by simp[jH1]
theorem q_ni (n:Nat):(fone n .nilIface=true)=True:=by simp[jG1]
theorem q_p (n b o:Nat):(fone n (.pointer (some ⟨b,o,none⟩))=true)=(b<n):=by
 rw[qO0];simp[one,sc,scA]
theorem q_s (n b o l c:Nat):(fone n (.slice (some ⟨b,o,none⟩) l c)=true)=(b<n):=by
 rw[qO0];simp[one,sc,scA]
theorem q_nil (n:Nat):(jT n []=true)=True:=by simp[dW0]
theorem dB0 (n:Nat)(v:Z6)(l:List Z6):(jT n (v :: l)=true)=(fone n v=true∧jT n l=true):=by
 have e:jT n (v :: l)=(Bool.rec false (jT n l) (fone n v):Zb):=rfl
 rw[e]
 cases fone n v<;>simp
theorem oD1 (n:Nat)(g:FuncId)(f c:List Z6):(fone n (.func (.func g) ⟨f⟩ ⟨c⟩)=true)=(scL n f=true∧scL n c=true):=by
 rw[qO0];simp[one,sc]
theorem q_scn (n:Nat):(scL n []=true)=True:=by simp[scL]
theorem q_scc (n:Nat)(v:Z6)(l:List Z6):(scL n (v :: l)=true)=(sc n v=true∧scL n l=true):=by simp[scL]
theorem q_scp (n b o:Nat):(sc n (.pointer (some ⟨b,o,none⟩))=true)=(b<n):=by simp[sc,scA]
theorem q_scs (n b o l c:Nat):(sc n (.slice (some ⟨b,o,none⟩) l c)=true)=(b<n):=by simp[sc,scA]
theorem q_sci (n:Nat)(k:IntKind)(b:Int):(sc n (.int k b)=true)=True:=by simp[sc]
theorem q_scb (n:Nat)(b:Zb):(sc n (.bool b)=true)=True:=by simp[sc]
theorem q_sct (n:Nat)(b:ByteArray):(sc n (.string b)=true)=True:=by simp[sc]
theorem mU0 (k:IntKind)(b:Int):(Value.int k b).cells.toList=[.int k b]:=rfl
theorem eW0 (b:Zb):(Value.bool b).cells.toList=[.bool b]:=rfl
theorem mT0 (b:ByteArray):(Value.string b).cells.toList=[.string b]:=rfl
theorem uS1 (a:Z8 Addr):(Value.pointer a).cells.toList=[.pointer a]:=rfl
theorem uR1 (a:Z8 Addr)(n c:Nat):(Value.slice a n c).cells.toList=[.slice a n c]:=rfl
theorem uT1 (a:Z8 Nat):(Value.map a).cells.toList=[.map a]:=rfl
theorem uV1 (g:Fn)(a b:Array Z6):(Value.func g a b).cells.toList=[.func g a b]:=rfl
theorem pS0:(Value.nilFunc).cells.toList=[.nilFunc]:=rfl
theorem uU1 (t:Zt)(v:Z6):(Value.iface t v).cells.toList=[.iface t v]:=rfl
theorem pR0:(Value.nilIface).cells.toList=[.nilIface]:=rfl
theorem uW1 (l:List Z6):(Value.agg ⟨l⟩).cells.toList=l:=rfl
def ldC (k:Z8 (Zb×Nat))(off lo b:Nat)(c:Z8 (List Z6×Zt×Zb)):Z8 Z6:=match c,k with
 | some (cs,_,_),some (q,n)=>match uL0 q n cs off with
  | some v=>seen lo b v
  | none=>none
 | _,_=>none
theorem bG (b off:Nat):jA P t (.pointer (some ⟨b,off,none⟩)) h=ldC (knd P t) off h.lo b (cells h b):=by
 unfold jA ldC knd
 dsimp only
 cases cells h b with
 | none=>rfl
 | some c=>
  obtain ⟨cs,e,m⟩:=c
  dsimp only
  cases gM0 P t with
  | none=>rfl
  | some q=>
   cases q with
   | false=>rfl
   | true=>
    dsimp only
    cases szT P t with
    | none=>rfl
    | some n=>
     simp only[uL0]
     by_cases hle:off+n≤cs.length
     ·rw[wP0 cs off n hle,if_pos hle]
     ·rw[if_neg hle]
      cases ht:takeN cs off n with
      | some l=>exact absurd (lA0 ht).1 hle
      | none=>rfl
theorem fJ0 (q:Zb)(n off lo b:Nat)(cs:List Z6)(e:Zt)(m:Zb)(hb:lo≤b):ldC (some (q,n)) off lo b (some (cs,e,m))=uL0 q n cs off:=by
 unfold ldC
 dsimp only
 have:Nat.ble lo b=true:=by simpa using hb
 cases uL0 q n cs off with
 | none=>rfl
 | some v=>simp only[seen,this]
def stC (n off:Nat)(v:Z6)(h:jB)(b:Nat)(c:Z8 (List Z6×Zt×Zb)):Z8 (Z6×jB):=match c with
 | some (cs,e,m)=>if v.cells.toList.length=n∧jT h.next v.cells.toList=true∧h.lo≤b∧off+n≤cs.length then some (undef,h.put b (O (jJ cs off v.cells.toList) e m)) else none
 | none=>none
theorem nK1 (n b off:Nat)(v:Z6):stE (some n) (.pointer (some ⟨b,off,none⟩)) v h=stC n off v h b (cells h b):=rfl
theorem kY (n off:Nat)(v:Z6)(b:Nat)(cs:List Z6)(e:Zt)(m:Zb)(h1:v.cells.toList.length=n)(h2:jT h.next v.cells.toList=true)(h3:h.lo≤b)(h4:off+n≤cs.length) :
  stC n off v h b (some (cs,e,m))=some (undef,h.put b (O (jJ cs off v.cells.toList) e m)):=by
 simp only[stC,if_pos (And.intro h1 (And.intro h2 (And.intro h3 h4)))]
theorem iQ1 (e:Zt)(v:Z6)(h1:jT h.next v.cells.toList=true):bxE e v h=some (.pointer (some ⟨h.next,0,none⟩),h.add (O v.cells.toList e false)):=if_pos h1
theorem alE_s (cs:List Z6)(e:Zt):alE (some cs) e h=some (.pointer (some ⟨h.next,0,none⟩),h.add (O cs e false)):=rfl
def bsC (len:Nat)(e:Zt)(h:jB):Z8 (List Z6)→Z8 (Z6×jB)
 | some cs=>if jT h.next cs=true then some (.slice (some ⟨h.next,0,none⟩) len len,h.add (O cs e false)) else none
 | none=>none
theorem sC1 (e:Zt)(n:Nat)(zs:List Z6)(len:Nat)(parts:List (Nat×Z6))(hl:len*n≤16777216) :
  bsE (some (e,n,zs)) len parts h=bsC len e h (wD0 ((List.range len).map (λi=>(i*n,n))) (List.replicate len zs).flatten parts):=by
 first
 | (simp only[bsE,if_pos hl,bsC];done)
 | (simp only[bsE,if_pos hl,bsC];cases wD0 ((List.range len).map (λi=>(i*n,n))) (List.replicate len zs).flatten parts<;>rfl)
theorem eI0 (len:Nat)(e:Zt)(cs:List Z6)(h1:jT h.next cs=true):bsC len e h (some cs)=some (.slice (some ⟨h.next,0,none⟩) len len,h.add (O cs e false)):=if_pos h1
theorem msE_s (e n by_:Nat)(zs:List Z6)(k j:IntKind)(l c:Int)(h1:0≤l)(h2:l≤c)(h3:c*by_+c<100000000000000) :
  msE (some (e,n,by_,zs)) (.int k l) (.int j c) h=some (.slice (some ⟨h.next,0,none⟩) l.toNat c.toNat,h.add (O (List.replicate c.toNat zs).flatten e false)):=by
 simp only[msE,if_pos (And.intro h1 (And.intro h2 h3))]
end
def appT (P:Z9)(sT xT:Zt):Z8 (Zt×Nat×Nat):=match P.underlying sT with
 | some (.slice e)=>match P.underlying xT with
  | none=>none
  | some (.int _)=>none
  | some _=>match P.info? e with
   | some i=>match i.zero with
    | some z=>match Nat.beq z.cells.size i.size&&Nat.blt 0 i.size with
     | true=>some (e,i.size,i.bytes)
     | false=>none
    | none=>none
   | none=>none
 | _=>none
def slcT (P:Z9)(t:Zt):Z8 (Z8 (Zt×Nat)):=match P.underlying t with
 | some .string=>some none
 | some (.slice e)=>match szT P e with | some n=>some (some (e,n)) | none=>none
 | _=>none
def cnvT (P:Z9)(s d:Zt):Z8 (Nat×Z8 IntKind×Nat):=match P.underlying s with
 | some (.int _)=>match P.underlying d with
  | some (.int k)=>some (0,some k,0)
  | _=>none
 | some .string=>match P.underlying d with
  | some .string=>some (4,none,0)
  | some (.slice e)=>match P.underlying e with
   | some (.int .u8)=>match szT P e with
    | some 1=>some (2,none,e)
    | _=>none
   | _=>none
  | _=>none
 | some (.slice e)=>match P.underlying e with
  | some (.int .u8)=>match P.underlying d with
   | some .string=>some (1,none,0)
   | some (.slice e')=>match Nat.beq s d&&Nat.beq e e' with
    | true=>some (3,none,e)
    | false=>none
   | _=>none
  | _=>none
 | _=>none
mutual
def pl:Z6→Zb
 | .float _ _=>false
 | .slice (some _) _ c=>Nat.blt c UC
 | .func (.func _) ⟨f⟩ ⟨c⟩=>plL f&&plL c
 | .func _ _ _=>false
 | .iface _ v=>pl v
 | .agg ⟨cs⟩=>plL cs
 | .tuple ⟨vs⟩=>plL vs
 | _=>true
def plL:List Z6→Zb
 | []=>true
 | v :: vs=>pl v&&plL vs
end
def idΓ (s:Nat→Int)(t:Nat→ByteArray):Gam:=⟨λi=>i,λ_=>0,s,t⟩
mutual
theorem qG1 (s:Nat→Int)(t:Nat→ByteArray):∀ v,pl v=true→con (idΓ s t) v=v
 | .bool _,_=>rfl
 | .int _ _,_=>rfl
 | .float _ _,h=>by simp[pl] at h
 | .complex _ _ _,_=>rfl
 | .string _,_=>rfl
 | .pointer none,_=>rfl
 | .pointer (some _),_=>rfl
 | .slice none _ _,_=>rfl
 | .slice (some a) n c,h=>by
  have hc:c<UC:=by simpa[pl] using h
  simp only[con,uZ,qN,if_pos hc,idΓ]
 | .map none,_=>rfl
 | .map (some _),_=>rfl
 | .chan _,_=>rfl
 | .func (.func g) ⟨f⟩ ⟨c⟩,h=>by
  simp only[pl,Z5] at h
  simp only[con,wY0,wW0 s t f h.1,wW0 s t c h.2]
 | .func (.method _) _ _,h=>by simp[pl] at h
 | .func (.methodOf _ _) _ _,h=>by simp[pl] at h
 | .func (.via _ _ _ _) _ _,h=>by simp[pl] at h
 | .func (.yield _) _ _,h=>by simp[pl] at h
 | .nilFunc,_=>rfl
 | .iface t' v,h=>by
  simp only[pl] at h
  simp only[con,qG1 s t v h]
 | .nilIface,_=>rfl
 | .agg ⟨cs⟩,h=>by
  simp only[pl] at h
  simp only[con,wW0 s t cs h]
 | .tuple ⟨cs⟩,h=>by
  simp only[pl] at h
  simp only[con,wW0 s t cs h]
theorem wW0 (s:Nat→Int)(t:Nat→ByteArray):∀ l,plL l=true→conL (idΓ s t) l=l
 | [],_=>rfl
 | v :: vs,h=>by
  simp only[plL,Z5] at h
  simp only[conL,qG1 s t v h.1,wW0 s t vs h.2]
end
def fix (G:Nat)(v:Z6):Z6:=if one v=true∧pl v=true∧sc G v=true then v else .chan none
theorem rA1 {G:Nat}{v:Z6}(h1:one v=true)(h2:pl v=true)(h3:sc G v=true):fix G v=v:=if_pos ⟨h1,h2,h3⟩
theorem pZ1 {G:Nat}{v:Z6}(h:sc G (fix G v)=true):fix G v=v∧one v=true∧pl v=true:=by
 unfold fix at h ⊢
 split
 ·rename_i hc;exact ⟨rfl,hc.1,hc.2.1⟩
 ·rename_i hc;rw[if_neg hc] at h;simp[sc] at h
def qS1 (G:Nat)(o:Z8 Obj):Z8 jV:=match o with
 | some (.cells c e _)=>some ⟨.cells (c.map (fix G)) e,false⟩
 | _=>none
def iL0 (G:Nat)(w:Zw):Nat→Tr
 | 0=>.nil
 | n+1=>match qS1 G w.heap[n]? with
  | some x=>(iL0 G w n).put n x
  | none=>iL0 G w n
theorem yL0 (G:Nat)(w:Zw):∀ (n i:Nat),(iL0 G w n).get i=if i<n then qS1 G w.heap[i]? else none
 | 0,i=>by simp[iL0,Tr.get_nil]
 | n+1,i=>by
  simp only[iL0]
  split
  ·rename_i x hx
   rw[Tr.get_put,yL0 G w n i]
   by_cases h:i=n
   ·subst h;simp[hx]
   ·by_cases h2:i<n
    ·simp[h,h2,Nat.lt_succ_of_lt h2]
    ·simp[h,h2];omega
  ·rename_i hx
   rw[yL0 G w n i]
   by_cases h:i=n
   ·subst h;simp[hx]
   ·by_cases h2:i<n
    ·simp[h2,Nat.lt_succ_of_lt h2]
    ·rw[if_neg h2,if_neg Z0]
def baseH (G:Nat)(w:Zw):jB:=⟨iL0 G w w.heap.size,G,G⟩
theorem eM0 (G:Nat)(w:Zw)(i:Nat):(baseH G w).get i=qS1 G w.heap[i]?:=by
 have:=yL0 G w w.heap.size i
 show (iL0 G w w.heap.size).get i=_
 rw[this]
 split
 ·rfl
 ·rw[Array.getElem?_eq_none Z0];rfl
theorem iM0 {G:Nat}{w:Zw}{b:Nat}{c:Array Z6}{e:Zt}{fr:Nat×Nat}(hb:w.heap[b]?=some (.cells c e fr)):cells (baseH G w) b=some (c.toList.map (fix G),e,false):=by
 unfold cells
 rw[eM0,hb]
 simp only[qS1]
 obtain ⟨l⟩:=c
 simp
theorem oE0 {G:Nat}{w:Zw}{b off:Nat}{v:Z6}(hc:w.cell? ⟨b,off,none⟩=some v)(h1:one v=true)(h2:pl v=true)(h3:sc G v=true) :
  ∃ cs e,cells (baseH G w) b=some (cs,e,false)∧cs[off]?=some v:=by
 simp only[World.cell?] at hc
 split at hc
 ·rename_i c e fr hb
  refine ⟨_,_,iM0 hb,?_⟩
  have hc:c[off]?=some v:=by simpa using hc
  rw[List.getElem?_map,Array.getElem?_toList,hc,Option.map_some,rA1 h1 h2 h3]
 ·cases hc
theorem qT1 (P:Z9)(NG G:Nat)(s:Nat→Int)(t:Nat→ByteArray)(w:Zw)(hNG:NG≤w.heap.size)(hG:w.heap.size≤G):jU ⟨P,NG,G,w.heap.size,s,t⟩ (idΓ s t) (baseH G w) w:=by
 have key:∀ i x,(baseH G w).get i=some x→i<w.heap.size∧∃ c e fr,w.heap[i]?=some (.cells c e fr)∧x=⟨.cells (c.map (fix G)) e,false⟩:=by
  intro i x hx
  rw[eM0] at hx
  unfold qS1 at hx
  split at hx
  ·rename_i c e fr hi
   cases hx
   exact ⟨(Array.getElem?_eq_some_iff.1 hi).1,c,e,fr,hi,rfl⟩
  ·cases hx
 refine ⟨λi x hx=>?_,λi x hx _ hi=>?_,λi j x y hx _ _ _ hi _ _=>?_,λg _=>rfl,λi x _ hx _=>(key i x hx).1,rfl,Z3 _,⟨Nat.le_trans hNG hG,hNG⟩,Z3 _,⟨rfl,rfl⟩,iS0.no λi x hx=>by obtain ⟨_,c,e,fr,_,rfl⟩:=key i x hx;rfl⟩
 ·obtain ⟨hlt,c,e,fr,hw,rfl⟩:=key i x hx
  refine ⟨Nat.lt_of_lt_of_le hlt hG,?_⟩
  simp only[OR]
  refine ⟨λhG'=>absurd (Nat.lt_of_lt_of_le hlt hG) (Nat.not_lt.2 hG'),λ_=>⟨trivial,hlt,λj v hj hv=>?_⟩⟩
  rw[Array.getElem?_map] at hj
  cases hcj:c[j]? with
  | none=>rw[hcj] at hj;cases hj
  | some u=>
   rw[hcj] at hj
   simp only[Option.map_some,Option.some.injEq] at hj
   subst hj
   obtain ⟨h1,h2,h3⟩:=pZ1 hv
   rw[h1]
   refine ⟨h2,?_⟩
   rw[qG1 s t u h3]
   have:w.heap[(idΓ s t).b i]?=some (.cells c e fr):=hw
   simp only[World.cell?,this]
   simpa using hcj
 ·have:=(key i x hx).1
  have hi:G≤i:=hi
  omega
 ·have:=(key i x hx).1
  have hi:G≤i:=hi
  omega
theorem calls_of_callE {P:Z9}{NG G:Nat}{s:Nat→Int}{t:Nat→ByteArray}{w:Zw}(hNG:NG≤w.heap.size)(hG:w.heap.size≤G){f:FuncId}{args:List Z6}{v:Z6}
  (hc:jG ⟨P,NG,G,w.heap.size,s,t⟩ f args (baseH G w) λu _=>u=v) (hpl:plL args=true) (hsc:scL G args=true) (hv:flat v=true) :
  Calls P f ⟨args⟩ w λe w'=>e=.returned v∧Below w.heap.size w w':=by
 have hrel:=qT1 P NG G s t w hNG hG
 obtain ⟨_,h2⟩:=hc _ w hrel (λx hx=>qV hsc x hx)
 have hargs:(⟨args.map (con (idΓ s t))⟩:Array Z6)=⟨args⟩:=by
  rw[← bF,wW0 s t args hpl]
 have h3:=h2 Fence.wide ⟨rfl⟩ 0 (λe w'=>e=.returned v∧Below w.heap.size w w') (λu h' Γ' w' hu _ _ hb _ _=>by
  subst hu
  exact ⟨by rw[qC Γ' u hv],hb⟩)
 rw[hargs] at h3
 exact callsIn_wide.1 h3
def fB0 (a:Z8 Addr):Prop:=a=a
def Sl (h:jB)(a:Z8 Addr)(cs:List Z6):Prop:=
 (cs=[]∧fB0 a)∨∃ b off full e m,a=some ⟨b,off,none⟩∧cells h b=some (full,e,m)∧off+cs.length≤full.length∧(full.drop off).take cs.length=cs∧(h.lo≤b∨jT h.lo cs=true)
theorem jR0:fB0 none:=rfl
theorem bJ0 (b o:Nat):fB0 (some ⟨b,o,none⟩):=rfl
theorem Sl.nil (h:jB){a:Z8 Addr}(ha:fB0 a):Sl h a []:=.inl ⟨rfl,ha⟩
theorem Sl.row {h:jB}{b:Nat}{cs:List Z6}{e:Zt}{m:Zb}(hc:cells h b=some (cs,e,m))(hb:h.lo≤b):Sl h (some ⟨b,0,none⟩) cs:=
 .inr ⟨b,0,cs,e,m,rfl,hc,by simp,by simp,.inl hb⟩
theorem fB0.map {a:Z8 Addr}(_:fB0 a)(i:Nat):fB0 (a.map (·.add i)):=rfl
theorem Sl.frame {h h':jB}{a:Z8 Addr}{cs:List Z6}(hs:Sl h a cs)(hlo:h'.lo=h.lo)(hc:∀ b o,a=some ⟨b,o,none⟩→cs≠[]→cells h' b=cells h b):Sl h' a cs:=by
 rcases hs with h0|⟨b,off,full,e,m,ha,h1,h2,h3,h4⟩
 ·exact .inl h0
 ·by_cases h5:cs=[]
  ·exact .inl ⟨h5,by rw[ha];exact bJ0 b off⟩
  ·exact .inr ⟨b,off,full,e,m,ha,by rw[hc b off ha h5];exact h1,h2,h3,by rw[hlo];exact h4⟩
theorem Sl.sub {h:jB}{a:Z8 Addr}{cs:List Z6}(hs:Sl h a cs)(i k:Nat):Sl h (a.map (·.add i)) ((cs.drop i).take k):=by
 rcases hs with h0|⟨b,off,full,e,m,ha,h1,h2,h3,h4⟩
 ·left;exact ⟨by simp[h0.1],h0.2.map i⟩
 ·by_cases h5:(cs.drop i).take k=[]
  ·exact .inl ⟨h5,by rw[ha];exact (bJ0 b off).map i⟩
  ·right
   have hi:i<cs.length:=by
    rcases Nat.lt_or_ge i cs.length with h6|h6
    ·exact h6
    ·exfalso;apply h5;rw[List.drop_eq_nil_of_le h6];simp
   refine ⟨b,off+i,full,e,m,by rw[ha,Option.map_some,addr_add],h1,?_,?_,?_⟩
   ·simp only[List.length_take,List.length_drop];omega
   ·have h7:cs.drop i=((full.drop off).take cs.length).drop i:=by rw[h3]
    have h8:cs.drop i=((full.drop off).drop i).take (cs.length-i):=by rw[h7,List.drop_take]
    rw[List.drop_drop] at h8
    have hlen:((cs.drop i).take k).length=min k (cs.length-i):=by simp
    rw[hlen,h8,List.take_take]
   ·rcases h4 with h4|h4
    ·exact .inl h4
    ·right
     simp only[kU,Z5,List.all_eq_true] at h4 ⊢
     exact ⟨λv hv=>h4.1 v (List.mem_of_mem_drop (List.mem_of_mem_take hv)),qQ λv hv=>qV h4.2 v (List.mem_of_mem_drop (List.mem_of_mem_take hv))⟩
theorem Sl.load {P:Z9}{h:jB}{a:Z8 Addr}{cs:List Z6}(hs:Sl h a cs){t:Zt}(hk:knd P t=some (false,0)){i:Nat}{v:Z6}(hv:cs[i]?=some v) :
  ∃ b off,a=some ⟨b,off,none⟩∧jA P t (.pointer (some ⟨b,off+i,none⟩)) h=some v:=by
 rcases hs with h0|⟨b,off,full,e,m,ha,h1,h2,h3,h4⟩
 ·rw[h0.1] at hv;cases hv
 ·refine ⟨b,off,ha,?_⟩
  have hi:i<cs.length:=(List.getElem?_eq_some_iff.1 hv).1
  have hf:full[off+i]?=some v:=by
   rw[← h3,List.getElem?_take,if_pos hi,List.getElem?_drop] at hv
   exact hv
  rw[bG,h1,hk]
  simp only[ldC,uL0,hf]
  rcases h4 with h4|h4
  ·have:Nat.ble h.lo b=true:=by simpa using h4
   simp only[seen,this]
  ·simp only[kU,Z5] at h4
   have hsv:sc h.lo v=true:=qV h4.2 v (List.mem_of_getElem? hv)
   unfold seen
   rw[lY0,hsv]
   cases Nat.ble h.lo b<;>rfl
theorem Sl.loadA {P:Z9}{h:jB}{a:Z8 Addr}{cs:List Z6}(hs:Sl h a cs){t:Zt}{n:Nat}(hk:knd P t=some (true,n)){i:Nat}(hn:0<n)(hi:i*n+n≤cs.length) :
  ∃ b off,a=some ⟨b,off,none⟩∧jA P t (.pointer (some ⟨b,off+i*n,none⟩)) h=some (.agg ⟨(cs.drop (i*n)).take n⟩):=by
 have hsub:=hs.sub (i*n) n
 have hlen:((cs.drop (i*n)).take n).length=n:=by simp;omega
 rcases hs with h0|⟨b,off,full,e,m,ha,h1,h2,h3,h4⟩
 ·rw[h0.1] at hi;simp at hi;omega
 ·refine ⟨b,off,ha,?_⟩
  rcases hsub with h5|⟨b',off',full',e',m',ha',h1',h2',h3',h4'⟩
  ·rw[h5.1] at hlen;simp at hlen;omega
  ·rw[ha,Option.map_some,addr_add] at ha'
   simp only[Option.some.injEq,Addr.mk.injEq,and_true] at ha'
   obtain ⟨rfl,rfl⟩:=ha'
   rw[h1] at h1'
   cases h1'
   rw[bG,h1,hk]
   rw[hlen] at h2' h3'
   simp only[ldC,uL0,if_pos h2',h3']
   rcases h4' with h4'|h4'
   ·have:Nat.ble h.lo b=true:=by simpa using h4'
    simp only[seen,this]
   ·simp only[kU,Z5] at h4'
    have hsv:sc h.lo (.agg ⟨(cs.drop (i*n)).take n⟩)=true:=h4'.2
    unfold seen
    rw[lY0,hsv]
    cases Nat.ble h.lo b<;>rfl
theorem Sl.src {h:jB}{a:Z8 Addr}{cs:List Z6}(hs:Sl h a cs){n m c len:Nat}(hl:cs.length=m*n)(hn:0<n):kL n m (.slice a len c) h=some cs:=by
 unfold kL
 dsimp only
 cases m with
 | zero=>
  have:cs=[]:=List.length_eq_zero_iff.1 (by rw[hl];simp)
  rw[this]
 | succ m=>
  dsimp only
  rcases hs with h0|⟨b,off,full,e,mo,ha,h1,h2,h3,h4⟩
  ·rw[h0.1] at hl
   have:0<(m+1)*n:=Nat.mul_pos (Nat.succ_pos _) hn
   simp at hl;omega
  ·rw[ha]
   simp only[h1]
   rw[hl] at h2 h3
   simp only[wP0 full off ((m+1)*n) h2,h3]
   rcases h4 with h4|h4
   ·have:Nat.ble h.lo b=true:=by simpa using h4
    rw[this]
   ·rw[h4]
    cases Nat.ble h.lo b<;>rfl
structure Own (h:jB)(e n:Nat)(a:Z8 Addr)(len c:Nat)(cs:List Z6):Prop where
 hlen:cs.length=len*n
 hfone:jT h.next cs=true
 hat:(a=none∧len=0∧c=0)∨∃ b m,a=some ⟨b,0,none⟩∧h.lo≤b∧b<h.next∧cells h b=some (cs,e,m)∧((m=true∧c=UC)∨(m=false∧c=len))
theorem Own.nil (h:jB)(e n:Nat):Own h e n none 0 0 []:=⟨by simp,rfl,.inl ⟨rfl,rfl,rfl⟩⟩
theorem Own.sl {h:jB}{e n:Nat}{a:Z8 Addr}{len c:Nat}{cs:List Z6}(ho:Own h e n a len c cs):Sl h a cs:=by
 rcases ho.hat with ⟨h0,h1,_⟩|⟨b,m,ha,h1,h2,h3,_⟩
 ·left;exact ⟨List.length_eq_zero_iff.1 (by rw[ho.hlen,h1];simp),by rw[h0];exact jR0⟩
 ·rw[ha];exact Sl.row h3 h1
def blk (a:Z8 Addr)(i:Nat):Prop:=∃ o s,a=some ⟨i,o,s⟩
theorem Own.frame {h h':jB}{e n:Nat}{a:Z8 Addr}{len c:Nat}{cs:List Z6}(ho:Own h e n a len c cs)(hlo:h'.lo=h.lo)(hn:h.next≤h'.next)(hc:∀ b,blk a b→b<h.next→cells h' b=cells h b):Own h' e n a len c cs:=by
 refine ⟨ho.hlen,gL hn ho.hfone,?_⟩
 rcases ho.hat with h0|⟨b,m,ha,h1,h2,h3,h4⟩
 ·exact .inl h0
 ·exact .inr ⟨b,m,ha,by rw[hlo];exact h1,Z0,by rw[hc b ⟨0,none,ha⟩ h2];exact h3,h4⟩
structure jI (h h':jB)(S:Nat→Prop):Prop where
 next:h.next≤h'.next
 lo:h'.lo=h.lo
 get:∀ i,i<h.next→¬ S i→h'.get i=h.get i
theorem jI.refl (h:jB)(S:Nat→Prop):jI h h S:=⟨Z3 _,rfl,λ_ _ _=>rfl⟩
theorem jI.trans {h h1 h2:jB}{S T:Nat→Prop}(g:jI h h1 S)(g':jI h1 h2 T)(hT:∀ i,i<h.next→T i→S i):jI h h2 S:=
 ⟨Nat.le_trans g.next g'.next,g'.lo.trans g.lo,λi hi hs=>(g'.get i (Nat.lt_of_lt_of_le hi g.next) (λht=>hs (hT i hi ht))).trans (g.get i hi hs)⟩
theorem jI.mono {h h':jB}{S T:Nat→Prop}(g:jI h h' S)(hT:∀ i,i<h.next→S i→T i):jI h h' T:=⟨g.next,g.lo,λi hi hs=>g.get i hi λh=>hs (hT i hi h)⟩
theorem jI.cells {h h':jB}{S:Nat→Prop}(g:jI h h' S){i:Nat}(hi:i<h.next)(hs:¬ S i):cells h' i=cells h i:=qS0 (g.get i hi hs)
theorem jI.add (h:jB)(x:jV)(S:Nat→Prop):jI h (h.add x) S:=⟨by rw[jH];omega,jS x,λi hi _=>qN0 x i Z0⟩
theorem jI.put (h:jB)(b:Nat)(x:jV){S:Nat→Prop}(hb:b<h.next→S b):jI h (h.put b x) S:=⟨Z3 _,rfl,λi hi hs=>jM0 b x i (λe=>hs (by subst e;exact hb hi))⟩
theorem Sl.grew {h h':jB}{S:Nat→Prop}{a:Z8 Addr}{cs:List Z6}(hs:Sl h a cs)(g:jI h h' S)(hS:∀ b,blk a b→cs≠[]→b<h.next∧¬ S b):Sl h' a cs:=
 hs.frame g.lo λb o ha hne=>(by obtain ⟨h1,h2⟩:=hS b ⟨o,none,ha⟩ hne;exact g.cells h1 h2)
theorem Own.grew {h h':jB}{S:Nat→Prop}{e n:Nat}{a:Z8 Addr}{len c:Nat}{cs:List Z6}(ho:Own h e n a len c cs)(g:jI h h' S)(hS:∀ b,blk a b→b<h.next→¬ S b):Own h' e n a len c cs:=
 ho.frame g.lo g.next λb hb hlt=>g.cells hlt (hS b hb hlt)
theorem yP0 {P:Z9}{sT xT e n by_:Nat}(h:appT P sT xT=some (e,n,by_)):∃ dx i z,P.underlying sT=some (.slice e)∧P.underlying xT=some dx∧(∀ k,dx≠.int k)∧P.info? e=some i∧i.zero=some z∧z.cells.size=n∧i.size=n∧i.bytes=by_∧0<n:=by
 unfold appT at h
 split at h
 ·rename_i e' hs
  split at h
  ·cases h
  ·cases h
  ·rename_i dx hdx hx
   split at h
   ·rename_i i hi
    split at h
    ·rename_i z hz
     split at h
     ·rename_i hb
      cases h
      simp only[Z5,Nat.beq_eq,Nat.blt_eq] at hb
      exact ⟨dx,i,z,hs,hx,λk e=>hdx k e,hi,hz,hb.1,rfl,rfl,hb.2⟩
     ·cases h
    ·cases h
   ·cases h
 ·cases h
def wF0 (e : Zt) (i : TypeInfo) (base : Z8 Addr) (n cap : Nat) (x : Z6) (m : Nat) (h : jB) : Z8 (Z6 × jB) :=
   let size:=i.size
   match kL size m x h with
   | none=>none
   | some new=>
    match Nat.blt cap UC with
    | true=>match Nat.ble (n+m) cap with
     | true=>match base with
      | none=>match new with | []=>some (.slice none (n+m) cap,h) | _=>none
      | some ⟨b,off,sp⟩=>match m with
       | 0=>some (.slice base (n+0) cap,h)
       | m+1=>match sp with
       | none=>match cells h b with
        | some (cs,e',mo)=>match Nat.ble h.lo b,setN cs (off+n*size) new with
         | true,some cs'=>some (.slice base (n+(m+1)) cap,h.put b ⟨.cells ⟨cs'⟩ e',mo⟩)
         | _,_=>none
        | none=>none
       | some _=>none
     | false=>match kL size n (.slice base n cap) h,(Nat.ble ((n+m)*i.bytes) 140737488355328&&Nat.blt (n+m) U),i.zero with
      | some old,true,some z=>match Nat.beq z.cells.size size&&Nat.blt 0 size with
       | true=>match bC h e (old++new) true with
        | some (b,h')=>some (.slice (some ⟨b,0,none⟩) (n+m) UC,h')
        | none=>none
       | false=>none
      | _,_,_=>none
    | false=>match zV0 e size n cap m base new h with
     | some r=>some r
     | none=>match base with
     | some ⟨b,0,none⟩=>match cells h b with
      | some (cs,e',true)=>match Nat.beq e' e&&Nat.beq cap UC&&Nat.ble h.lo b&&Nat.beq cs.length (n*size)&&(Nat.ble ((n+m)*i.bytes) 140737488355328&&Nat.blt (n+m) U),i.zero with
       | true,some z=>match Nat.beq z.cells.size size&&Nat.blt 0 size&&jT h.next new with
        | true=>some (.slice (some ⟨h.next,0,none⟩) (n+m) UC,{ t:=(h.t.put h.next ⟨.cells ⟨cs++new⟩ e,true⟩).put b (kD h.next e cs),next:=h.next+1,lo:=h.lo })
        | false=>none
       | _,_=>none
      | _=>none
     | _=>none
theorem gN {P:Z9}{sT xT e:Zt}{dx:TypeDesc}{i:TypeInfo}(hs:P.underlying sT=some (.slice e))(hxT:P.underlying xT=some dx)(hni:∀ k,dx≠.int k)(hi:P.info? e=some i){x:Z6}{m:Nat}(hl:lenV x=some m)(base:Z8 Addr)(n cap:Nat)(h:jB) :
  jE P sT xT (.slice base n cap) x h=wF0 e i base n cap x m h:=by
 unfold jE
 rw[hs,hl,hxT]
 cases dx<;>first|exact absurd rfl (hni _)|(dsimp only;rw[hi];rfl)
theorem eO0 {e n len m b:Nat}{h:jB}{cs xs:List Z6}(hc:cells h b=some (cs,e,true))(hl:cs.length=len*n):zV0 e n len UC m (some ⟨b,0,none⟩) xs h=none:=by
 have h1:Nat.blt (0+len*n) cs.length=false:=by rw[Bool.eq_false_iff];intro h;rw[Nat.blt_eq] at h;omega
 unfold zV0
 dsimp only
 rw[hc]
 dsimp only
 rw[h1]
 simp only[Bool.and_false,Bool.false_and]
theorem gG {P:Z9}{sT xT e n by_:Nat}(hT:appT P sT xT=some (e,n,by_)){h:jB}{a:Z8 Addr}{len c:Nat}{cs:List Z6}(ho:Own h e n a len c cs)(hln:h.lo≤h.next)
  {x:Z6} {m:Nat} {xs:List Z6} (hl:lenV x=some m) (hx:kL n m x h=some xs) (hxl:xs.length=m*n) (hxf:jT h.next xs=true) (hb:(len+m)*by_≤140737488355328∧(len+m)<100000000000000) :
  ∃ a' c' h',jE P sT xT (.slice a len c) x h=some (.slice a' (len+m) c',h')∧Own h' e n a' (len+m) c' (cs++xs)∧jI h h' (blk a)∧(∀ b,blk a' b→blk a b∨h.next≤b):=by
 obtain ⟨dx,i,z,hs,hxT,hni,hi,hz,hzz,hsz,hby,hn⟩:=yP0 hT
 have hlen:(cs++xs).length=(len+m)*n:=by rw[List.length_append,ho.hlen,hxl,Nat.add_mul]
 have hfon:jT h.next (cs++xs)=true:=by
  have h1:=ho.hfone
  simp only[kU,Z5,List.all_eq_true] at h1 hxf ⊢
  refine ⟨λv hv=>?_,qQ λv hv=>?_⟩
  ·rcases List.mem_append.1 hv with hv|hv
   ·exact h1.1 v hv
   ·exact hxf.1 v hv
  ·rcases List.mem_append.1 hv with hv|hv
   ·exact qV h1.2 v hv
   ·exact qV hxf.2 v hv
 have hbnd:(Nat.ble ((len+m)*i.bytes) 140737488355328&&Nat.blt (len+m) U)=true:=by
  rw[hby];simp only[Z5,Nat.ble_eq,Nat.blt_eq];unfold U;exact hb
 have hcond:(Nat.beq z.cells.size i.size&&Nat.blt 0 i.size)=true:=by
  rw[hsz];simp only[Z5,Nat.beq_eq,Nat.blt_eq];exact ⟨hzz,hn⟩
 have hgrow : ∀ (base : Z8 Addr) (cap : Nat), Nat.blt cap UC = true → Nat.ble (len + m) cap = false → kL n len (.slice base len cap) h = some cs →
   jE P sT xT (.slice base len cap) x h=some (.slice (some ⟨h.next,0,none⟩) (len+m) UC,h.add (O (cs++xs) e true)):=by
  intro base cap h1 h2 h3
  rw[gN hs hxT hni hi hl]
  unfold wF0
  dsimp only
  rw[hsz,hx,h1]
  dsimp only
  rw[h2]
  dsimp only
  rw[h3,hz]
  rw[hsz] at hcond
  simp only[hbnd,hcond,qZ0 hfon]
 have hfresh:∀ q,Own (h.add (O (cs++xs) e true)) e n (some ⟨h.next,0,none⟩) (len+m) UC (cs++xs)∧jI h (h.add (O (cs++xs) e true)) q∧(∀ b,blk (some (⟨h.next,0,none⟩:Addr)) b→blk a b∨h.next≤b):=λq=>
  ⟨⟨hlen,gL (by rw[jH];omega) hfon,.inr ⟨h.next,true,rfl,by rw[jS];exact hln,by rw[jH];omega,jP _ _ _ _ rfl,.inl ⟨rfl,rfl⟩⟩⟩,jI.add _ _ _,λb hb=>by
   obtain ⟨o,s,hb⟩:=hb
   right
   cases hb
   exact Z3 _⟩
 rcases ho.hat with ⟨rfl,rfl,rfl⟩|⟨b,mo,rfl,h1,h2,h3,h4⟩
 ·-- none
  have hcs:cs=[]:=List.length_eq_zero_iff.1 (by rw[ho.hlen];simp)
  cases m with
  | zero=>
   have hxs:xs=[]:=List.length_eq_zero_iff.1 (by rw[hxl];simp)
   subst hcs hxs
   refine ⟨none,0,h,?_,ho,jI.refl _ _,λb hb=>.inl hb⟩
   rw[gN hs hxT hni hi hl]
   unfold wF0
   dsimp only
   rw[hsz,hx]
   have:Nat.blt 0 UC=true:=by simp only[Nat.blt_eq];exact eP0
   rw[this]
  | succ m=>
   have h0:Nat.blt 0 UC=true:=by simp only[Nat.blt_eq];exact eP0
   have h5:Nat.ble (0+(m+1)) 0=false:=by rw[Bool.eq_false_iff];simp
   obtain ⟨q1,q2,q3⟩:=hfresh (blk none)
   exact ⟨_,_,_,hgrow none 0 h0 h5 (by rw[hcs];rfl),q1,q2,q3⟩
 ·rcases h4 with ⟨rfl,rfl⟩|⟨rfl,rfl⟩
  ·-- a row whose capacity is not known
   refine ⟨some ⟨h.next,0,none⟩,UC,{ t:=(h.t.put h.next ⟨.cells ⟨cs++xs⟩ e,true⟩).put b (kD h.next e cs),next:=h.next+1,lo:=h.lo },?_,?_,?_,?_⟩
   ·rw[gN hs hxT hni hi hl]
    unfold wF0
    dsimp only
    rw[hsz,hx]
    have h0:Nat.blt UC UC=false:=by rw[Bool.eq_false_iff];simp
    have h5:(Nat.beq e e&&Nat.beq UC UC&&Nat.ble h.lo b&&Nat.beq cs.length (len*n)&&(Nat.ble ((len+m)*i.bytes) 140737488355328&&Nat.blt (len+m) U))=true:=by
     simp only[Z5,Nat.beq_eq,Nat.ble_eq]
     exact ⟨⟨⟨⟨trivial,trivial⟩,h1⟩,ho.hlen⟩,by simpa only [Z5,Nat.ble_eq] using hbnd⟩
    rw[hsz] at hcond
    have h6:(Nat.beq z.cells.size n&&Nat.blt 0 n&&jT h.next xs)=true:=by rw[hcond,hxf];rfl
    simp only[h0,eO0 h3 ho.hlen,h3,h5,hz,h6]
   ·refine ⟨hlen,gL (Nat.le_succ _) hfon,.inr ⟨h.next,true,rfl,by show h.lo≤h.next;omega,Nat.lt_succ_self _,?_,.inl ⟨rfl,rfl⟩⟩⟩
    unfold Ev.cells
    have:=wC0 (h:=h) (b:=b) (x':=⟨.cells ⟨cs++xs⟩ e,true⟩) (y:=kD h.next e cs) h.next
    rw[if_neg Z0,if_pos rfl] at this
    rw[this]
   ·refine ⟨Nat.le_succ _,rfl,λj hj hb=>?_⟩
    have:=wC0 (h:=h) (b:=b) (x':=⟨.cells ⟨cs++xs⟩ e,true⟩) (y:=kD h.next e cs) j
    rw[if_neg (λe=>hb ⟨0,none,by rw[e]⟩),if_neg Z0] at this
    exact this
   ·intro j hj
    obtain ⟨o,s,hj⟩:=hj
    cases hj
    exact .inr (Z3 _)
  ·have hc : c < UC := by
    have:=U_UC
    unfold U at this
    omega
   have h0:Nat.blt c UC=true:=by simpa using hc
   cases m with
   | zero=>
    have hxs:xs=[]:=List.length_eq_zero_iff.1 (by rw[hxl];simp)
    subst hxs
    refine ⟨some ⟨b,0,none⟩,c,h,?_,by simpa using ho,jI.refl _ _,λb hb=>.inl hb⟩
    rw[gN hs hxT hni hi hl]
    unfold wF0
    dsimp only
    rw[hsz,hx,h0]
    dsimp only
    have:Nat.ble (c+0) c=true:=by simp
    rw[this]
   | succ m=>
    have h5:Nat.ble (c+(m+1)) c=false:=by rw[Bool.eq_false_iff];simp
    obtain ⟨q1,q2,q3⟩:=hfresh (blk (some ⟨b,0,none⟩))
    exact ⟨_,_,_,hgrow _ c h0 h5 (ho.sl.src ho.hlen hn),q1,q2,q3⟩
end
end Go.Ev
namespace Go.Ev
open Go Go.RowKit
attribute [push_cast] iE0 iH1 iG1 iF1 iE1 iD1 zZ1 sP0 nN0 iT0 put_s put_n FR_g FR_g0 jX1 nV0 rP1 zU1 iB1 jU1 fB1 fC1 rO1 cG1 cH1 faV_p fdV_a fD1 sB0 iaV_s iaV_a ixV_a ncV_p ncV_f miV_f lnB_l bdV_s jQ1 nR0 fS1 cO1 cL1 pV0 pU0 cN1 cK1 mY0 mW0 nD1 mZ1 tp_un tv_un tp_fa tv_fa tp_fd tv_fd tp_ia tv_ia tp_ix tv_ix tp_nc tv_nc tp_mf tv_mf tp_mi tv_mi wF1 wE1 nC1 mY1 nA1 mW1 nB1 mX1 cM1 wD1 mX0 wJ1 nJ1 te_bs wG1 te_ms pZ0 b_add b_sub b_mul b_quo b_rem b_lss b_leq b_gtr b_geq b_eql b_neq b_shr b_shl sQ1 sK1 sO1 sJ1 sN1 sI1 wrap_i64 jN qI jH jS jO qH jP kN dV0 mB0 mA0 jF1 jE1 jJ1 jH1 jG1 pY1 gN0 dW0 gM mU0 eW0 mT0 uS1 uR1 uT1 uV1 pS0 uU1 pR0 uW1 bG fJ0 nK1 kY iQ1 alE_s sC1 eI0 msE_s jJ List.take_zero List.take_succ_cons List.drop_zero List.drop_succ_cons List.take_nil List.drop_nil List.nil_append List.cons_append List.append_nil List.length_cons List.length_nil List.getElem?_cons_zero List.getElem?_cons_succ List.map_cons List.map_nil Option.map_some Option.map_none Nat.zero_add Nat.add_zero if_true if_false decide_true decide_false Bool.not_true Bool.not_false true_and and_true List.size_toArray or_true true_or List.mem_cons List.mem_nil_iff List.not_mem_nil or_false false_or Nat.zero_mul Nat.mul_one Nat.mul_zero Nat.lt_irrefl Option.isNone_some Option.isNone_none Nat.succ_ne_zero eq_self ite_true ite_false Int.natCast_zero Nat.sub_zero oE1 q_int q_str q_p0 q_s0 q_m0 q_nf q_ni q_p q_s q_nil dB0 oD1 q_scn q_scc q_scp q_scs q_sci q_scb q_sct and_self
end Go.Ev
namespace Go.Ev
open Go Go.RowKit
noncomputable section
theorem zL0 {d:Nat}{ds:List Nat}{h:jB}{m:Zb}(hd:h.get d=some ⟨.deferred (some []),m⟩)(hlo:h.lo≤d):bR (d :: ds) h=bR ds (h.put d ⟨.deferred none,false⟩):=by
 have:Nat.ble h.lo d=true:=by simpa using hlo
 simp only[bR,hd,this]
theorem uM0 {h:jB}{l:Nat}{r:Loop}{m:Zb}(hg:h.get l=some ⟨.loop r,m⟩)(hlo:h.lo≤l):qZ h l=some r:=by
 have:Nat.ble h.lo l=true:=by simpa using hlo
 unfold qZ
 rw[hg]
 dsimp only
 rw[this]
structure bB0 (h0:jB)(r:Loop)(h:jB):Prop where
 next:h0.next+2≤h.next
 lo:h.lo=h0.lo
 mark:h.get h0.next=some ⟨.deferred (some []),false⟩
 loop:h.get (h0.next+1)=some ⟨.loop r,false⟩
theorem bB0.grew {h0 h h':jB}{r:Loop}{S:Nat→Prop}(q:bB0 h0 r h)(g:jI h h' S)(hd:¬ S h0.next)(hl:¬ S (h0.next+1)):bB0 h0 r h':=by
 have:=q.next
 exact ⟨Nat.le_trans q.next g.next,g.lo.trans q.lo,(g.get _ Z0 hd).trans q.mark,(g.get _ Z0 hl).trans q.loop⟩
end
end Go.Ev
namespace Go.Ev
open Go Go.RowKit
noncomputable section
section
variable {P:Z9} {h:jB} {s d t:Zt}
theorem rW1 {k:IntKind}(hT:cnvT P s d=some (0,some k,0)):∃ j,P.underlying s=some (.int j)∧P.underlying d=some (.int k):=by
 unfold cnvT at hT
 repeat' (first|(split at hT)|(cases hT;done))
 all_goals first|(cases hT;done)|skip
 all_goals (cases hT;exact ⟨_,by assumption,by assumption⟩)
theorem eH0 {k j:IntKind}{n:Int}(hT:cnvT P s d=some (0,some k,0)):cvV P s d (.int j n) h=some (.int k (k.wrap n)):=by
 obtain ⟨i,h1,h2⟩:=rW1 hT
 refine cvV_p _ _ _ _ ?_
 simp only[cvP,flat,pvF,convert,qM,bP h1,bP h2,Option.bind_some,Conv.intToInt,qB]
def bv (l:List Int):List Z6:=l.map (Value.int .u8)
def cvE (P : Z9) (s d : Zt) (v : Z6) (h : jB) : Z8 (Z6 × jB) := match P.underlying s, P.underlying d, v with
  | some .string,some (.slice e),.string b=>match P.underlying e,szT P e with
   | some (.int .u8),some 1=>match Nat.blt b.size U with
    | true=>match bC h e (b.data.toList.map λx=>.int .u8 x.toNat) true with
     | some (g,h')=>some (.slice (some ⟨g,0,none⟩) b.size UC,h')
     | none=>none
    | false=>none
   | _,_=>none
  | some (.slice _),some (.slice e),.slice (some ⟨g,off,spot⟩) n c=>kU0 P s d e g (.slice (some ⟨g,off,spot⟩) n c) h
  | _,_,_=>none
theorem te_cv (x:Zo)(tm:VT):te P (.convert s d x) t tm h=cvE P s d (ev tm x) h:=rfl
theorem sK0 (ts:Array Zt)(t:Zt)(k j:IntKind)(a b:Int):mnV P ts t [.int k a,.int j b]=some (.int k (min a b)):=by
 have:(if b<a then b else a)=min a b:=Z0
 simp only[mnV,qT,flat,Builtin.min_,List.foldlM,Builtin.min2,pvF]
 show pv P (pure (Value.int k (if b<a then b else a)))=_
 rw[this];rfl
theorem zG0 {P:Z9}{t:Zt}{a:Z8 Addr}{len c l h':Nat}{m:Z8 Nat}{lo hi mx:Z8 Z6}{h:jB}(hb:bounds len len mx hi lo=some (l,h',m)):gS P t a len c lo hi mx h=none:=by
 have hk:=bK hb
 unfold gS
 split
 ·split
  ·split
   ·split
    ·rename_i l2 h2 hb2
     have hk2:=bK hb2
     have:Nat.blt len h2=false:=by
      rw[Bool.eq_false_iff]
      intro h0
      rw[Nat.blt_eq] at h0
      rcases hk2.2.1 with ⟨e1,e2,e3⟩|⟨k2,e1,e3⟩
      ·omega
      ·rcases hk.2.1 with ⟨f1,f2,f3⟩|⟨k1,f1,f3⟩
       ·rw[e1] at f1;cases f1
       ·rw[e1] at f1;cases f1;rcases hk.1 with ⟨_,g⟩|⟨_,mm,_,g,g2⟩<;>(rw[g] at f3;simp only[Option.getD_none,Option.getD_some] at f3;omega)
     rw[this]
     rfl
    ·rfl
   ·rfl
  ·rfl
 ·rfl
end
abbrev Tx (l:List Zu):ByteArray:=⟨⟨l⟩⟩
theorem iP0 (l:List Zu):(Tx l).size=l.length:=rfl
theorem sZ1 (a b:List Zu):Tx a++Tx b=Tx (a++b):=by
 apply ByteArray.ext
 simp[ByteArray.data_append]
theorem zB0 (l:List Zu)(a b:Nat):(Tx l).extract a b=Tx ((l.drop a).take (b-a)):=by
 apply ByteArray.ext
 apply Array.ext'
 simp[ByteArray.data_extract,List.take_drop]
abbrev bt (l:List Zu)(i:Nat):Int:=((l.getD i 0).toNat:Int)
section
variable {P:Z9} {h:jB} {t:Zt}
theorem zX0 {k:IntKind}{i:Int}{y:Nat}{c:BoundsCode}(h0:0≤i)(h1:i≤y):pv P (Instr.sliceBound (.int k i) y c)=some i.toNat:=by
 simp only[Instr.sliceBound,asIntOf,qM,qB,Option.bind_some]
 rw[if_pos ⟨h0,h1⟩]
 rfl
theorem nO1 {k j:IntKind}{a b:Int}{l:List Zu}(hT:slcT P t=some none)(h0:0≤a)(h1:a≤b)(h2:b≤l.length) :
  slV P t (.string (Tx l)) (some (.int k a)) (some (.int j b)) none h=some (.string (Tx ((l.drop a.toNat).take (b.toNat-a.toNat)))):=by
 have hu:P.underlying t=some .string:=by
  unfold slcT at hT;split at hT
  ·assumption
  ·split at hT<;>cases hT
  ·cases hT
 have e1:=zX0 (P:=P) (k:=j) (c:=.sliceAlen) (show 0≤b by omega) (show b≤(Tx l).size from h2)
 have e2:=zX0 (P:=P) (k:=k) (c:=.sliceB) h0 (show a≤(b.toNat:Int) by omega)
 simp only[slV,Option.all_some,Option.all_none,flat,Bool.and_self,pvF,Instr.sliceAt,Instr.slice,qM,bP hu,Option.bind_some,Option.isSome_none,Bool.false_eq_true,if_false,Instr.sliceBounds,qB,e1,e2,zB0]
theorem slV_l {k:IntKind}{a:Int}{l:List Zu}(hT:slcT P t=some none)(h0:0≤a)(h1:a≤l.length) :
  slV P t (.string (Tx l)) (some (.int k a)) none none h=some (.string (Tx (l.drop a.toNat))):=by
 have hu:P.underlying t=some .string:=by
  unfold slcT at hT;split at hT
  ·assumption
  ·split at hT<;>cases hT
  ·cases hT
 have e2:=zX0 (P:=P) (k:=k) (c:=.sliceB) h0 (show a≤((Tx l).size:Int) from h1)
 have e3:(l.drop a.toNat).take ((Tx l).size-a.toNat)=l.drop a.toNat:=List.take_of_length_le (by simp[iP0])
 simp only[slV,Option.all_some,Option.all_none,flat,Bool.and_self,Bool.and_true,pvF,Instr.sliceAt,Instr.slice,qM,bP hu,Option.bind_some,Option.isSome_none,Bool.false_eq_true,if_false,Instr.sliceBounds,qB,e2,zB0,e3]
theorem slV_h {j:IntKind}{b:Int}{l:List Zu}(hT:slcT P t=some none)(h0:0≤b)(h2:b≤l.length) :
  slV P t (.string (Tx l)) none (some (.int j b)) none h=some (.string (Tx (l.take b.toNat))):=by
 have hu:P.underlying t=some .string:=by
  unfold slcT at hT;split at hT
  ·assumption
  ·split at hT<;>cases hT
  ·cases hT
 have e1:=zX0 (P:=P) (k:=j) (c:=.sliceAlen) h0 (show b≤(Tx l).size from h2)
 simp only[slV,Option.all_some,Option.all_none,flat,Bool.and_self,Bool.and_true,Bool.true_and,pvF,Instr.sliceAt,Instr.slice,qM,bP hu,Option.bind_some,Option.isSome_none,Bool.false_eq_true,if_false,Instr.sliceBounds,qB,e1,zB0,Nat.sub_zero,List.drop_zero]
theorem oX1 (l:List Zu)(k:IntKind)(i:Int)(h0:0≤i)(hi:i<l.length):ixV (some none) (.string (Tx l)) (.int k i)=some (.int .u8 (bt l i.toNat)):=
 ixV_s (Tx l) k i h0 hi
theorem lnB_t (l:List Zu):lnB (some true) (.string (Tx l))=some (.int .i64 l.length):=rfl
theorem sL1 {x y:Zo}{ty:Zt}{a b:List Zu}:jF P .eql ty x y (.string (Tx a)) (.string (Tx b))=some (.bool (decide (a=b))):=by
 rw[sM1];congr 2;rw[Bool.eq_iff_iff];simp
theorem sG1 {x y:Zo}{ty:Zt}{a b:List Zu}:jF P .neq ty x y (.string (Tx a)) (.string (Tx b))=some (.bool (!decide (a=b))):=by
 rw[sH1];congr 2;rw[Bool.eq_iff_iff];simp
theorem sR1 {x y:Zo}{ty:Zt}{a b:List Zu}(hs:a.length+b.length≤9223372036854775807):jF P .add ty x y (.string (Tx a)) (.string (Tx b))=some (.string (Tx (a++b))):=by
 rw[sS1 (a:=Tx a) (b:=Tx b) hs,sZ1]
def zC1 (P:Z9)(t:Zt):Zb:=match P.underlying t with|some .string=>true|_=>false
theorem lT0 (hT:zC1 P t=true):P.underlying t=some .string:=by
 unfold zC1 at hT;split at hT
 ·assumption
 ·cases hT
def itO (s:ByteArray)(p:Nat):jV:=⟨.stringIter s p,false⟩
def rgE (q:Zb)(v:Z6)(h:jB):Z8 (Z6×jB):=match q,v with
 | true,.string s=>some (.pointer (some ⟨h.next,0,none⟩),h.add (itO s 0))
 | _,_=>none
theorem wI1 {ty:Zt}{x:Zo}{tm:VT}(hT:zC1 P ty=true):te P (.range ty x) t tm h=rgE true (ev tm x) h:=by
 have hu:=lT0 hT
 have e:te P (.range ty x) t tm h=wE0 P (bare (.range ty x) t) tm h:=rfl
 rw[e]
 simp only[bare,wE0,hu,jB.add]
 cases ev tm x<;>rfl
theorem rgE_s (s:ByteArray):rgE true (.string s) h=some (.pointer (some ⟨h.next,0,none⟩),h.add (itO s 0)):=rfl
def nxE (v : Z6) (h : jB) : Z8 (Z6 × jB) := match v with
  | .pointer (some ⟨b,0,none⟩)=>match h.get b,Nat.ble h.lo b with
   | some ⟨.stringIter s pos,false⟩,true=>match Nat.blt pos s.size with
    | true=>some (.tuple #[.bool true,goInt pos,.int .i32 (Utf8.decode s pos).1],h.put b ⟨.stringIter s (pos+(Utf8.decode s pos).2),false⟩)
    | false=>some (.tuple #[.bool false],h)
   | _,_=>none
  | _=>none
theorem cW1 {x:Zo}{tm:VT}:te P (.next x true) t tm h=nxE (ev tm x) h:=rfl
theorem nxE_t (b pos:Nat)(l:List Zu)(hg:h.get b=some (itO (Tx l) pos))(hlo:h.lo≤b)(hp:pos<l.length) :
  nxE (.pointer (some ⟨b,0,none⟩)) h=some (.tuple #[.bool true,.int .i64 pos,.int .i32 (Utf8.decode (Tx l) pos).1],h.put b (itO (Tx l) (pos+(Utf8.decode (Tx l) pos).2))):=by
 have h1:Nat.ble h.lo b=true:=by simpa using hlo
 have h2:Nat.blt pos (Tx l).size=true:=by simpa[iP0] using hp
 simp only[nxE,hg,itO,h1,h2,goInt]
theorem nxE_f (b pos:Nat)(l:List Zu)(hg:h.get b=some (itO (Tx l) pos))(hlo:h.lo≤b)(hp:l.length≤pos) :
  nxE (.pointer (some ⟨b,0,none⟩)) h=some (.tuple #[.bool false],h):=by
 have h1:Nat.ble h.lo b=true:=by simpa using hlo
 have h2:Nat.blt pos (Tx l).size=false:=by rw[Bool.eq_false_iff];simpa[iP0] using hp
 simp only[nxE,hg,itO,h1,h2]
end
attribute [push_cast] nO1 slV_l slV_h oX1 lnB_t sL1 sG1 sR1 wI1 rgE_s cW1 nxE_t nxE_f jF0 jE0 qN0 jM0 kN eH0 te_cv
theorem jG.to {p:Par}{g:FuncId}{args:List Z6}{h:jB}{R k:Z6→jB→Prop}(hc:jG p g args h R)(hk:∀ v h',R v h'→k v h'):wN0 p g args h k:=(hc.mono hk).w
theorem W.loopI {p:Par}(jW:yT0 p){ro:Z8 Nat}{b:IR}{R:jL→S→Prop}(I:Nat→S→Prop)(h:∀ n s1,I n s1→vc p ro b s1 (cP0 (λs2=>∃ m,m<n∧I m s2) R)) :
  ∀ n s,I n s→W p ro (.loop b) s R:=by
 intro n
 induction n using Nat.strongRecOn with
 | ind n ih=>
  intro s hI
  refine W.round jW (wO0 _ _ _ _ ?_ (h n s hI))
  intro e s2 hr
  cases e with
  | normal=>obtain ⟨m,hm,h2⟩:=hr;exact ih m hm s2 h2
  | exit i=>exact hr
  | goto l=>exact hr
  | ret=>exact hr
theorem wO1 {p:Par}{ro:Z8 Nat}{b:Code}{R:jL→S→Prop}{s:S}:gE0 p ro b R .normal s=R .normal s:=rfl
theorem wN1 {p:Par}{ro:Z8 Nat}{b:Code}{R:jL→S→Prop}{s:S}:gE0 p ro b R .ret s=R .ret s:=rfl
theorem wP1 {p:Par}{ro:Z8 Nat}{b:Code}{R:jL→S→Prop}{s:S}{i:Nat}:gE0 p ro b R (.exit i) s=R (.exit i) s:=rfl
attribute [push_cast] wO1 wN1 wP1
def gT (v:Z6)(w:Zb)(A:Z8 Z6)(B:Z8 (Z6×Z6))(h:jB)(K:Z6→jB→Prop):Prop:=gV v w (oT A B h K) (K undef h)
def gE (v:Z6)(w:Zb)(A:Z8 (Z6×jB))(h:jB)(K:Z6→jB→Prop):Prop:=gV v w (oE A K) (K undef h)
def gP (v:Z6)(w:Zb)(A:Z8 Z6)(h:jB)(K:Z6→jB→Prop):Prop:=gV v w (oP A h K) (K undef h)
def gC (p:Par)(v:Z6)(w:Zb)(f:Z6)(args:List Z6)(h:jB)(K:Z6→jB→Prop):Prop:=gV v w (jK p f args h K) (K undef h)
@[congr] theorem gT_congr {v v':Z6} {w:Zb} {A:Z8 Z6} {B:Z8 (Z6×Z6)} {h:jB} {K:Z6→jB→Prop} (e:v=v'):gT v w A B h K=gT v' w A B h K:=by rw[e]
@[congr] theorem gE_congr {v v':Z6} {w:Zb} {A:Z8 (Z6×jB)} {h:jB} {K:Z6→jB→Prop} (e:v=v'):gE v w A h K=gE v' w A h K:=by rw[e]
@[congr] theorem gP_congr {v v':Z6} {w:Zb} {A:Z8 Z6} {h:jB} {K:Z6→jB→Prop} (e:v=v'):gP v w A h K=gP v' w A h K:=by rw[e]
@[congr] theorem gC_congr {p:Par} {v v':Z6} {w:Zb} {f:Z6} {args:List Z6} {h:jB} {K:Z6→jB→Prop} (e:v=v'):gC p v w f args h K=gC p v' w f args h K:=by rw[e]
section
variable {p:Par} {w:Zb} {A:Z8 Z6} {B:Z8 (Z6×Z6)} {E:Z8 (Z6×jB)} {h:jB} {K:Z6→jB→Prop} {f:Z6} {args:List Z6}
theorem gT_tt:gT (.bool true) true A B h K=oT A B h K:=dO0
theorem gT_ff:gT (.bool false) false A B h K=oT A B h K:=dR0
theorem gT_tf:gT (.bool true) false A B h K=K undef h:=dP0
theorem gT_ft:gT (.bool false) true A B h K=K undef h:=dQ0
theorem gT_u:gT undef w A B h K=K undef h:=propext Iff.rfl
theorem gE_tt:gE (.bool true) true E h K=oE E K:=dO0
theorem gE_ff:gE (.bool false) false E h K=oE E K:=dR0
theorem gE_tf:gE (.bool true) false E h K=K undef h:=dP0
theorem gE_ft:gE (.bool false) true E h K=K undef h:=dQ0
theorem gE_u:gE undef w E h K=K undef h:=propext Iff.rfl
theorem gP_tt:gP (.bool true) true A h K=oP A h K:=dO0
theorem gP_ff:gP (.bool false) false A h K=oP A h K:=dR0
theorem gP_tf:gP (.bool true) false A h K=K undef h:=dP0
theorem gP_ft:gP (.bool false) true A h K=K undef h:=dQ0
theorem gP_u:gP undef w A h K=K undef h:=propext Iff.rfl
theorem gC_tt:gC p (.bool true) true f args h K=jK p f args h K:=dO0
theorem gC_ff:gC p (.bool false) false f args h K=jK p f args h K:=dR0
theorem gC_tf:gC p (.bool true) false f args h K=K undef h:=dP0
theorem gC_ft:gC p (.bool false) true f args h K=K undef h:=dQ0
theorem gC_u:gC p undef w f args h K=K undef h:=propext Iff.rfl
end
def vop2 (p:Par)(g:Z8 (Nat×Zb))(c:Cl)(o:Op)(t:Zt)(tm:VT)(h:jB)(K:Z6→jB→Prop):Prop:=
 match g with
 | none=>vop p c o t tm h K
 | some (d,w)=>match c with
  | .take=>gT (tm.get d) w (tv p.P o t tm h) (tw p.P o tm h) h K
  | .eff=>gE (tm.get d) w (te p.P o t tm h) h K
  | .call=>match o with
   | .call ⟨.value f,args,_⟩=>gC p (tm.get d) w (ev tm f) (args.toList.map (ev tm)) h K
   | _=>gV (tm.get d) w False (K undef h)
  | .mp=>gV (tm.get d) w (oL (mapE p.P o tm h) K) (K undef h)
def pP0 (p:Par)(l:List It):VT→jB→(VT→jB→Prop)→Prop:=
 List.rec (motive:=λ_=>VT→jB→(VT→jB→Prop)→Prop) (λtm h K=>K tm h)
  (λx _ ih tm h K=>vop2 p x.g x.c x.o x.t tm h (λv h'=>ih (put tm x.d v) h' K)) l
theorem bF0 (p:Par)(K:VT→jB→Prop):∀ (l:List It) (tm:VT) (h:jB),pP0 p l tm h K=vops p l tm h K
 | [],tm,h=>rfl
 | x :: l,tm,h=>by
  show vop2 p x.g x.c x.o x.t tm h (λv h'=>pP0 p l (put tm x.d v) h' K)=_
  simp only[bF0 p K l,vops]
  obtain ⟨d,g,c,o,t⟩:=x
  cases g with
  | none=>rfl
  | some y=>
   obtain ⟨j,w⟩:=y
   cases c with
   | take=>rfl
   | eff=>rfl
   | mp=>rfl
   | call=>
    cases o with
    | call c=>obtain ⟨cl,args,ats⟩:=c;cases cl<;>rfl
    | _=>rfl
def isSl (o:Op):Zb:=match o with | .slice _ _ _ _ _=>true|_=>false
def gF (p:Par):PT→HL→VT→jB→(VT→jB→Prop)→Prop
 | .fin,_,tm,h,K=>K tm h
 | .no,_,_,_,_=>True
 | .bad,_,_,_,_=>False
 | .take i rd x k,L,tm,h,K=>match rd with
  | false=>match x.g with
   | none=>oP (tp p.P x.o x.t tm) h (λv _=>gF p k L (put tm x.d v) h K)
   | some (d,w)=>gP (tm.get d) w (tp p.P x.o x.t tm) h (λv _=>gF p k L (put tm x.d v) h K)
  | true=>vgd tm x.g (match isSl x.o with
   | false=>oP (tv p.P x.o x.t tm h) h (λv _=>gF p k ((i,λh'=>tv p.P x.o x.t tm h',v) :: L) (put tm x.d v) h K)
   | true => oR (tv p.P x.o x.t tm h) (tw p.P x.o tm h) (fun v => gF p k ((i, fun h' => tv p.P x.o x.t tm h', v) :: L) (put tm x.d v) h K)
     (λv=>gF p k ((i,λh'=>(tw p.P x.o tm h').map (·.1),v) :: L) (put tm x.d v) h K) (λv=>gF p k ((i,λh'=>(tw p.P x.o tm h').map (·.2),v) :: L) (put tm x.d v) h K))
   (gF p k L (put tm x.d undef) h K)
 | .eff _ x bind k alt,L,tm,h,K=>match alt with
  | .no=>vgd tm x.g (vop p x.c x.o x.t tm h λv h'=>jD (jC bind h' L) (gF p k (bE bind L) (put tm x.d v) h' K)) (gF p k (bE bind L) (put tm x.d undef) h K)
  | alt=>vgd tm x.g (vop p x.c x.o x.t tm h λv h'=>jD (jC bind h' L) (gF p k (bE bind L) (put tm x.d v) h' K)) (gF p k (bE bind L) (put tm x.d undef) h K)∧gF p alt L tm h K
theorem uS0 (p:Par)(K:VT→jB→Prop):∀ (t:PT) (L:HL) (tm:VT) (h:jB),gF p t L tm h K=qS p t L tm h K
 | .fin,L,tm,h=>rfl
 | .no,L,tm,h=>rfl
 | .bad,L,tm,h=>rfl
 | .take i rd x k,L,tm,h=>by
  simp only[gF,qS,uS0 p K k]
  cases rd with
  | false=>
   dsimp only
   cases x.g with
   | none=>rfl
   | some y=>obtain ⟨d,w⟩:=y;rfl
  | true=>
   dsimp only
   congr 1
   cases ho:isSl x.o with
   | true=>rfl
   | false=>
    have:tw p.P x.o tm h=none:=by
     unfold tw
     split
     ·rename_i he;rw[he] at ho;cases ho
     ·rfl
    simp only[this,oP]
 | .eff i x bind k alt,L,tm,h=>by
  simp only[qS,← uS0 p K k,← uS0 p K alt]
  cases alt with
  | no=>simp only[gF,jD,and_true]
  | _=>simp only[gF,jD]
def vc2 (p:Par)(ro:Z8 Nat):IR→S→(jL→S→Prop)→Prop
 | .bad,_,_=>False
 | .skip,s,R=>R .normal s
 | .ret,s,R=>R .ret s
 | .exit i,s,R=>R (.exit i) s
 | .goto l,s,R=>R (.goto l) s
 | .label _,s,R=>R .normal s
 | .ops l,s,R=>pP0 p l s.tm s.h λtm h=>R .normal ⟨tm,s.df,h⟩
 | .plan t,s,R=>gF p t [] s.tm s.h λtm h=>R .normal ⟨tm,s.df,h⟩
 | .seq a b,s,R=>vc2 p ro a s (cP0 (λs1=>vc2 p ro b s1 R) R)
 | .cond x a b,s,R=>jR (ev s.tm x) (vc2 p ro a s R) (vc2 p ro b s R)
 | .block i b,s,R=>vc2 p ro b s (outR i R)
 | .loop b,s,R=>W p ro (.loop b) s R
 | .scope b,s,R=>WPin p ro b b s R
 | .range g ps a b,s,R=>W p ro (.range g ps a b) s R
theorem zE0 (p:Par)(ro:Z8 Nat):∀ (ir:IR) (s:S) (R:jL→S→Prop),vc2 p ro ir s R=vc p ro ir s R
 | .bad,s,R=>rfl
 | .skip,s,R=>rfl
 | .ret,s,R=>rfl
 | .exit i,s,R=>rfl
 | .goto l,s,R=>rfl
 | .label l,s,R=>rfl
 | .ops l,s,R=>bF0 p _ l _ _
 | .plan t,s,R=>uS0 p _ t _ _ _
 | .seq a b,s,R=>by simp only[vc2,vc,zE0 p ro a,zE0 p ro b]
 | .cond x a b,s,R=>by simp only[vc2,vc,zE0 p ro a,zE0 p ro b]
 | .block i b,s,R=>zE0 p ro b s _
 | .loop b,s,R=>rfl
 | .scope b,s,R=>rfl
 | .range g ps a b,s,R=>rfl
@[congr] theorem mV1 {p:Par} {ro:Z8 Nat} {ir:IR} {s:S} {R:jL→S→Prop}:vc2 p ro ir s R=vc2 p ro ir s R:=rfl
@[congr] theorem mS1 {p:Par} {ro:Z8 Nat} {a b:Code} {s:S} {R:jL→S→Prop}:WPin p ro a b s R=WPin p ro a b s R:=rfl
def fr0 (args:List Z6)(n:Nat):VT:=VT.of (args++List.replicate (n-args.length) undef) n
theorem W.loop2 {p:Par}(jW:yT0 p){ro:Z8 Nat}{b:IR}{R:jL→S→Prop}(I:Nat→S→Prop)(h:∀ n s1,I n s1→vc2 p ro b s1 (cP0 (λs2=>∃ m,m<n∧I m s2) R)) :
  ∀ n s,I n s→W p ro (.loop b) s R:=W.loopI jW I λn s1 hI=>by rw[← zE0];exact h n s1 hI
def resC (l:List (Z8 Z6)):Z8 Z6:=
 let rec go:List (Z8 Z6)→Z8 (List Z6)
  | []=>some []
  | x :: rs=>match x,go rs with | some v,some l=>some (v :: l) | _,_=>none
 match go l with
 | some [v]=>some v
 | some l=>some (.tuple ⟨l⟩)
 | none=>none
theorem oC1 (a:Z6):resC [some a]=some a:=rfl
theorem oB1 (a b:Z6):resC [some a,some b]=some (.tuple #[a,b]):=rfl
theorem oA1 (a b c:Z6):resC [some a,some b,some c]=some (.tuple #[a,b,c]):=rfl
def rgV (P : Z9) (ty : Zt) (v : Z6) (h : jB) : Z8 (Z6 × jB) := match P.underlying ty, v with
  | some .string,.string s=>some (.pointer (some ⟨h.next,0,none⟩),(h.new ⟨.stringIter s 0,false⟩).2)
  | _,_=>none
theorem rgV_s {P:Z9}{ty:Zt}{h:jB}(hT:zC1 P ty=true)(s:ByteArray):rgV P ty (.string s) h=some (.pointer (some ⟨h.next,0,none⟩),h.add (itO s 0)):=by
 simp only[rgV,lT0 hT,jB.add]
 rfl
attribute [push_cast] gT_tt gT_ff gT_tf gT_ft gT_u gE_tt gE_ff gE_tf gE_ft gE_u gP_tt gP_ff gP_tf gP_ft gP_u gC_tt gC_ff gC_tf gC_ft gC_u oC1 oB1 oA1 rgV_s
theorem jG.fir3 {p:Par}(jW:yT0 p){g:FuncId}{f:FIR}(hf:Ev.fir p.P g=some f){args:List Z6}{h:jB}{R:Z6→jB→Prop}{T:VT}(hn:Nat.ble args.length f.n=true)(hU:Nat.ble f.n 100000=true)
  (hT:T.arr=⟨args++List.replicate (f.n-args.length) undef⟩) (hv:h.lo≤h.next→vc2 p none f.ir ⟨T,[],h⟩ (jZ p.P f.rs R)):jG p g args h R:=by
 unfold Ev.fir at hf
 split at hf
 ·rename_i fn hfn
  split at hf<;>cases hf
  rename_i c hb
  have hU:fn.ntmps<U:=le_U (by simpa using hU)
  have hn:args.length≤fn.ntmps:=by simpa using hn
  refine jG.body jW hfn hb hn hU ?_
  intro hok Γ ca w hst F n Q hF hro hl hQ
  have hlo:h.lo≤h.next:=by have:=hst.hr;rw[this.lo];exact this.gn
  have hsz:T.sz=fn.ntmps:=by
   have h1:=VT.arr_size T
   rw[← h1,hT]
   simp;omega
  have harr:T.arr=(FR fn.ntmps (zU0 0 args)).arr:=by
   rw[uH1 fn.ntmps hU args hn,hT]
   apply Array.ext';simp
  have hv':=hv hlo
  rw[zE0] at hv'
  refine uT0 jW c _ _ hv' hok Γ ca w ⟨⟨by show T.sz<U;rw[hsz];exact hU,?_,hst.tm.gl⟩,?_,hst.df,hst.hr⟩ F n Q hF hro hl hQ
  ·show _=T.arr.map _;rw[harr];exact hst.tm.tm
  ·show ∀ x∈T.arr.toList,_;rw[harr];exact hst.sc
 ·cases hf
abbrev Gr (h h':jB):Prop:=jI h h' (λ_=>False)
theorem Gr.refl (h:jB):Gr h h:=jI.refl _ _
theorem jI.put' {h h1:jB}{S:Nat→Prop}(g:jI h h1 S)(b:Nat)(x:jV)(hb:h.next≤b):jI h (h1.put b x) S:=⟨g.next,g.lo,λi hi hs=>(jM0 b x i Z0).trans (g.get i hi hs)⟩
theorem jI.put'' {h h1:jB}{S:Nat→Prop}(g:jI h h1 S)(b:Nat)(x:jV)(hb:b<h.next→S b):jI h (h1.put b x) S:=⟨g.next,g.lo,λi hi hs=>(jM0 b x i (λe=>hs (by subst e;exact hb hi))).trans (g.get i hi hs)⟩
theorem jI.add' {h h1:jB}{S:Nat→Prop}(g:jI h h1 S)(x:jV):jI h (h1.add x) S:=⟨by rw[jH];have:=g.next;omega,(jS x).trans g.lo,λi hi hs=>(qN0 x i (by have:=g.next;omega)).trans (g.get i hi hs)⟩
theorem jI.tr {h h1 h2:jB}{S:Nat→Prop}(g:jI h h1 S)(g':Gr h1 h2):jI h h2 S:=g.trans (g'.mono λ_ _ h=>h.elim) (λ_ _ h=>h)
theorem jI.tr' {h h1 h2:jB}{S T:Nat→Prop}(g:jI h h1 S)(g':jI h1 h2 T)(hT:∀ i,i<h.next→T i→S i):jI h h2 S:=g.trans g' hT
theorem jI.cellsE {h h':jB}{S:Nat→Prop}(g:jI h h' S){i:Nat}{x:List Z6×Zt×Zb}(hc:Ev.cells h i=some x)(hi:i<h.next)(hs:¬ S i):Ev.cells h' i=some x:=(g.cells hi hs).trans hc
theorem Gr.cells {h h':jB}(g:Gr h h'){i:Nat}{x:List Z6×Zt×Zb}(hc:Ev.cells h i=some x)(hi:i<h.next):Ev.cells h' i=some x:=(jI.cells g hi (λh=>h)).trans hc
theorem zX1 {P:Z9}(tm:VT)(h:jB)(a t u:Nat):qP0 P [.cell a t,.tmp u] tm h=resC [jA P t (tm.get a) h,some (tm.get u)]:=by
 simp only[qP0,qP.go]
 cases jA P t (tm.get a) h<;>rfl
theorem zY1 {P:Z9}(tm:VT)(h:jB)(a t u s:Nat):qP0 P [.cell a t,.cell u s] tm h=resC [jA P t (tm.get a) h,jA P s (tm.get u) h]:=by
 simp only[qP0,qP.go]
 cases jA P t (tm.get a) h<;>cases jA P s (tm.get u) h<;>rfl
attribute [push_cast] zX1 zY1
def hi.{u}{α:Type u}(a:α):α:=(λ(_:Par→Z8 Nat→IR→S→(jL→S→Prop)→Prop)=>a) vc
def qX (k:S→Prop)(R:jL→S→Prop)(e:jL)(s:S):Prop:=hi (match e with | .normal=>k s|e=>R e s)
def kA (id:Nat)(R:jL→S→Prop)(e:jL)(s:S):Prop:=hi (match e with | .exit j=>if j=id then R .normal s else R (.exit j) s|e=>R e s)
theorem cO0 (k:S→Prop)(R:jL→S→Prop):qX k R=cP0 k R:=rfl
class WB where a:Prop
class WK where a:Z6→jB→Prop
class WV where a:Z6→Prop
class WR where a:jL→S→Prop
abbrev HE:=Nat×(jB→Z8 Z6)×Z6
class WE where a:Z6→HE→Prop
class WC where a:Z6→jB→Prop→Prop
def kb [x:WB]:Prop:=x.a
def kk [x:WK]:Z6→jB→Prop:=x.a
def kv [x:WV]:Z6→Prop:=x.a
def kR [x:WR]:jL→S→Prop:=hi x.a
def ke [x:WE]:Z6→HE→Prop:=x.a
def kc [x:WC]:Z6→jB→Prop→Prop:=x.a
theorem oT1 (K:Z6→jB→Prop)(v:Z6)(h:jB):@kk ⟨K⟩ v h=K v h:=propext Iff.rfl
theorem oS1 (K:Z6→Prop)(v:Z6):@kv ⟨K⟩ v=K v:=propext Iff.rfl
theorem oV1 (K:Z6→HE→Prop)(v:Z6)(e:HE):@ke ⟨K⟩ v e=K v e:=propext Iff.rfl
theorem oW1 (K:Z6→jB→Prop→Prop)(v:Z6)(h:jB)(c:Prop):@kc ⟨K⟩ v h c=K v h c:=propext Iff.rfl
section
variable {A B:Prop} {w:Zb}
theorem uP1:jR (.bool true) (@kb ⟨A⟩) (@kb ⟨B⟩)=A:=by simp[jR,kb]
theorem uQ1:jR (.bool false) (@kb ⟨A⟩) (@kb ⟨B⟩)=B:=by simp[jR,kb]
theorem pA1:gV (.bool true) true (@kb ⟨A⟩) (@kb ⟨B⟩)=A:=dO0
theorem pB1:gV (.bool true) false (@kb ⟨A⟩) (@kb ⟨B⟩)=B:=dP0
theorem pC1:gV (.bool false) true (@kb ⟨A⟩) (@kb ⟨B⟩)=B:=dQ0
theorem pD1:gV (.bool false) false (@kb ⟨A⟩) (@kb ⟨B⟩)=A:=dR0
theorem gV_ub:gV undef w (@kb ⟨A⟩) (@kb ⟨B⟩)=B:=propext Iff.rfl
theorem zB1:jD True (@kb ⟨B⟩)=B:=by simp[jD,kb]
end
section
variable {R:jL→S→Prop} {k:S→Prop} {s:S} {P:Z9} {p:Par} {ro:Z8 Nat} {c:Code}
theorem kR_tn:@kR ⟨qX k R⟩ .normal s=k s:=propext Iff.rfl
theorem kR_te (i:Nat):@kR ⟨qX k R⟩ (.exit i) s=@kR ⟨R⟩ (.exit i) s:=propext Iff.rfl
theorem kR_tg (i:Nat):@kR ⟨qX k R⟩ (.goto i) s=@kR ⟨R⟩ (.goto i) s:=propext Iff.rfl
theorem kR_tr:@kR ⟨qX k R⟩ .ret s=@kR ⟨R⟩ .ret s:=propext Iff.rfl
theorem kR_on (i:Nat):@kR ⟨kA i R⟩ .normal s=@kR ⟨R⟩ .normal s:=propext Iff.rfl
theorem kR_oe (i j:Nat):@kR ⟨kA i R⟩ (.exit j) s=if j=i then @kR ⟨R⟩ .normal s else @kR ⟨R⟩ (.exit j) s:=propext Iff.rfl
theorem kR_og (i j:Nat):@kR ⟨kA i R⟩ (.goto j) s=@kR ⟨R⟩ (.goto j) s:=propext Iff.rfl
theorem kR_or (i:Nat):@kR ⟨kA i R⟩ .ret s=@kR ⟨R⟩ .ret s:=propext Iff.rfl
theorem kR_k (e:jL):@kR ⟨@kR ⟨R⟩⟩ e s=@kR ⟨R⟩ e s:=propext Iff.rfl
theorem kR_fn (rs:List ResultVar)(Q:Z6→jB→Prop):@kR ⟨jZ P rs Q⟩ .normal s=endR P rs Q s:=propext Iff.rfl
theorem kR_fr (rs:List ResultVar)(Q:Z6→jB→Prop):@kR ⟨jZ P rs Q⟩ .ret s=endR P rs Q s:=propext Iff.rfl
theorem kR_sn:@kR ⟨gE0 p ro c R⟩ .normal s=@kR ⟨R⟩ .normal s:=propext Iff.rfl
theorem kR_sr:@kR ⟨gE0 p ro c R⟩ .ret s=@kR ⟨R⟩ .ret s:=propext Iff.rfl
theorem kR_se (i:Nat):@kR ⟨gE0 p ro c R⟩ (.exit i) s=@kR ⟨R⟩ (.exit i) s:=propext Iff.rfl
end
attribute [push_cast] Bool.true_or Bool.false_or Bool.or_true Bool.or_false Bool.true_and Bool.false_and Bool.and_true Bool.and_false Bool.not_false ite_self
section
variable {p:Par} {P:Z9} {h:jB} {k:Z6→jB→Prop} {k0 k1 k2:Z6→Prop}
theorem oP_s2 (v:Z6):oP (some v) h k=k v h:=propext Iff.rfl
theorem oE_s2 (v:Z6):oE (some (v,h)) k=k v h:=propext Iff.rfl
theorem oT_s2 (v:Z6)(q:Z8 (Z6×Z6)):oT (some v) q h k=k v h:=propext Iff.rfl
theorem oT_n2 (a b:Z6):oT none (some (a,b)) h k=(k a h∧k b h):=propext Iff.rfl
theorem oR_s2 (v:Z6)(q:Z8 (Z6×Z6)):oR (some v) q k0 k1 k2=k0 v:=propext Iff.rfl
theorem oR_n2 (a b:Z6):oR none (some (a,b)) k0 k1 k2=(k1 a∧k2 b):=propext Iff.rfl
theorem gV1 (g:FuncId)(c:List Z6)(args:List Z6):jK p (.func (.func g) ⟨[]⟩ ⟨c⟩) args h k=wN0 p g (args++c) h k:=propext Iff.rfl
theorem cL0 (l:Nat)(args:List Z6):jK p (.func (.yield l) #[] #[]) args h k=gR p l args h k:=propext Iff.rfl
theorem rT1 {rs:List ResultVar}{R:Z6→jB→Prop}(tm:VT)(df:List Nat):endR P rs R ⟨tm,df,h⟩=endM P rs R tm (bR df h):=propext Iff.rfl
theorem rU1 {rs:List ResultVar}{R:Z6→jB→Prop}(tm:VT):endM P rs R tm (some h)=oP (qP0 P rs tm h) h R:=propext Iff.rfl
end
attribute [push_cast] oP_s2 oE_s2 oT_s2 oT_n2 oR_s2 oR_n2 gV1 cL0 rT1 rU1
attribute [push_cast] oT1 oS1 oV1 oW1 uP1 uQ1 pA1 pB1 pC1 pD1 gV_ub zB1 kR_tn kR_te kR_tg kR_tr kR_on kR_oe kR_og kR_or kR_k kR_fn kR_fr kR_sn kR_sr kR_se
theorem W.loop3 {p:Par}(jW:yT0 p){ro:Z8 Nat}{b:IR}{R:jL→S→Prop}(I:Nat→S→Prop)(h:∀ n s1,I n s1→vc2 p ro b s1 (@kR ⟨qX (λs2=>∃ m,m<n∧I m s2) R⟩)) :
  ∀ n s,I n s→W p ro (.loop b) s R:=W.loop2 jW I h
theorem wT0 (b c:List Nat)(h:jB):∀ L:HL,jC b h (bE c L)=jC (c++b) h L
 | []=>rfl
 | (i,r,v) :: L=>by
  have ih:=wT0 b c h L
  unfold bE at ih ⊢
  rw[List.filter_cons]
  simp only[jC]
  cases hc:c.contains i with
  | true=>
   have hcb:(c++b).contains i=true:=by simp at hc ⊢;exact .inl hc
   simp only[Bool.not_true,Bool.false_eq_true,if_false,ih,hcb,true_and]
  | false=>
   have hcb:(c++b).contains i=b.contains i:=by simp at hc;simp[hc]
   simp only[Bool.not_false,if_true,jC,ih,hcb]
theorem kH0 {p:Par}{K:VT→jB→Prop}:∀ (t:PT) (L L':HL) (tm:VT) (h:jB),(∀ b h,jC b h L=jC b h L')→qS p t L tm h K=qS p t L' tm h K
 | .fin,L,L',tm,h,hL=>rfl
 | .no,L,L',tm,h,hL=>rfl
 | .bad,L,L',tm,h,hL=>rfl
 | .take i rd x k,L,L',tm,h,hL=>by
  have hc:∀ e b h,jC b h (e :: L)=jC b h (e :: L'):=λe b h=>by obtain ⟨i,r,v⟩:=e;simp only[jC,hL]
  simp only[qS,kH0 k L L' _ _ hL,kH0 k (_ :: L) (_ :: L') _ _ (hc _)]
 | .eff i x bind k alt,L,L',tm,h,hL=>by
  have hd:∀ b h,jC b h (bE bind L)=jC b h (bE bind L'):=λb h=>by
   rw[wT0,wT0,hL]
  simp only[qS,kH0 k (bE bind L) (bE bind L') _ _ hd,kH0 alt L L' _ _ hL,hL]
def dum (i:Nat):HE:=(i,λ_=>some undef,undef)
theorem pO0 {p:Par}{K:VT→jB→Prop}(t:PT)(i:Nat)(L:HL)(tm:VT)(h:jB):qS p t (dum i :: L) tm h K=qS p t L tm h K:=by
 refine kH0 _ _ _ _ _ λb h=>?_
 simp only[dum,jC]
 cases b.contains i<;>simp
def gRd (v:Z6)(w:Zb)(A:Z8 Z6)(i:Nat)(rd:jB→Z8 Z6)(h:jB)(K:Z6→HE→Prop):Prop:=gV v w (oP A h (λv _=>K v (i,rd,v))) (K undef (dum i))
def gEk (v:Z6)(w:Zb)(E:Z8 (Z6×jB))(b:List Nat)(L:HL)(h:jB)(K:Z6→jB→Prop→Prop):Prop:=gV v w (oE E (λv h'=>K v h' (jC b h' L))) (K undef h True)
def gCk (p:Par)(v:Z6)(w:Zb)(f:Z6)(args:List Z6)(b:List Nat)(L:HL)(h:jB)(K:Z6→jB→Prop→Prop):Prop:=gV v w (jK p f args h (λv h'=>K v h' (jC b h' L))) (K undef h True)
theorem pG1 {A:Z8 Z6}{i:Nat}{rd:jB→Z8 Z6}{h:jB}{K:Z6→HE→Prop}:gRd (.bool true) true A i rd h K=oP A h (λv _=>K v (i,rd,v)):=dO0
theorem pJ1 {A:Z8 Z6}{i:Nat}{rd:jB→Z8 Z6}{h:jB}{K:Z6→HE→Prop}:gRd (.bool false) false A i rd h K=oP A h (λv _=>K v (i,rd,v)):=dR0
theorem pH1 {A:Z8 Z6}{i:Nat}{rd:jB→Z8 Z6}{h:jB}{K:Z6→HE→Prop}:gRd (.bool true) false A i rd h K=K undef (dum i):=dP0
theorem pI1 {A:Z8 Z6}{i:Nat}{rd:jB→Z8 Z6}{h:jB}{K:Z6→HE→Prop}:gRd (.bool false) true A i rd h K=K undef (dum i):=dQ0
theorem pO1 {E:Z8 (Z6×jB)}{b:List Nat}{L:HL}{h:jB}{K:Z6→jB→Prop→Prop}:gEk (.bool true) true E b L h K=oE E (λv h'=>K v h' (jC b h' L)):=dO0
theorem pR1 {E:Z8 (Z6×jB)}{b:List Nat}{L:HL}{h:jB}{K:Z6→jB→Prop→Prop}:gEk (.bool false) false E b L h K=oE E (λv h'=>K v h' (jC b h' L)):=dR0
theorem pP1 {E:Z8 (Z6×jB)}{b:List Nat}{L:HL}{h:jB}{K:Z6→jB→Prop→Prop}:gEk (.bool true) false E b L h K=K undef h True:=dP0
theorem pQ1 {E:Z8 (Z6×jB)}{b:List Nat}{L:HL}{h:jB}{K:Z6→jB→Prop→Prop}:gEk (.bool false) true E b L h K=K undef h True:=dQ0
theorem pS1 {p:Par}{f:Z6}{args:List Z6}{b:List Nat}{L:HL}{h:jB}{K:Z6→jB→Prop→Prop}:gCk p (.bool true) true f args b L h K=jK p f args h (λv h'=>K v h' (jC b h' L)):=dO0
theorem pV1 {p:Par}{f:Z6}{args:List Z6}{b:List Nat}{L:HL}{h:jB}{K:Z6→jB→Prop→Prop}:gCk p (.bool false) false f args b L h K=jK p f args h (λv h'=>K v h' (jC b h' L)):=dR0
theorem pT1 {p:Par}{f:Z6}{args:List Z6}{b:List Nat}{L:HL}{h:jB}{K:Z6→jB→Prop→Prop}:gCk p (.bool true) false f args b L h K=K undef h True:=dP0
theorem pU1 {p:Par}{f:Z6}{args:List Z6}{b:List Nat}{L:HL}{h:jB}{K:Z6→jB→Prop→Prop}:gCk p (.bool false) true f args b L h K=K undef h True:=dQ0
attribute [push_cast] pG1 pJ1 pH1 pI1 pO1 pR1 pP1 pQ1 pS1 pV1 pT1 pU1 dum
abbrev KP:=HL→VT→jB→(VT→jB→Prop)→Prop
def isNo:PT→Zb | .no=>true|_=>false
def bH1 (p:Par)(x:It)(ih:KP):KP:=λL tm h K=>match x.g with
 | none=>oP (tp p.P x.o x.t tm) h (@kk ⟨λv _=>ih L (put tm x.d v) h K⟩)
 | some (d,w)=>gP (tm.get d) w (tp p.P x.o x.t tm) h (@kk ⟨λv _=>ih L (put tm x.d v) h K⟩)
def bG1 (p:Par)(i:Nat)(x:It)(ih:KP):KP:=λL tm h K=>match x.g with
 | none=>oP (tv p.P x.o x.t tm h) h (@kk ⟨λv _=>ih ((i,λh'=>tv p.P x.o x.t tm h',v) :: L) (put tm x.d v) h K⟩)
 | some (d,w)=>gRd (tm.get d) w (tv p.P x.o x.t tm h) i (λh'=>tv p.P x.o x.t tm h') h (@ke ⟨λv e=>ih (e :: L) (put tm x.d v) h K⟩)
def fE0 (p : Par) (i : Nat) (x : It) (ih : KP) : KP := fun L tm h K => oR (tv p.P x.o x.t tm h) (tw p.P x.o tm h) (@kv ⟨fun v => ih ((i, fun h' => tv p.P x.o x.t tm h', v) :: L) (put tm x.d v) h K⟩)
     (@kv ⟨λv=>ih ((i,λh'=>(tw p.P x.o tm h').map (·.1),v) :: L) (put tm x.d v) h K⟩) (@kv ⟨λv=>ih ((i,λh'=>(tw p.P x.o tm h').map (·.2),v) :: L) (put tm x.d v) h K⟩)
def bF1 (p:Par)(i:Nat)(x:It)(ih:KP):KP:=λL tm h K=>match x.g with
 | none=>fE0 p i x ih L tm h K
 | some (d,w)=>gV (tm.get d) w (@kb ⟨fE0 p i x ih L tm h K⟩) (@kb ⟨ih L (put tm x.d undef) h K⟩)
def pEff (p : Par) (x : It) (bind : List Nat) (ih : KP) : KP := fun L tm h K => match x.g, x.c, x.o with
   | some (d,w),.eff,_=>gEk (tm.get d) w (te p.P x.o x.t tm h) bind L h (@kc ⟨λv h' c=>jD c (@kb ⟨ih (bE bind L) (put tm x.d v) h' K⟩)⟩)
   | some (d,w),.call,.call ⟨.value f,args,_⟩=>gCk p (tm.get d) w (ev tm f) (args.toList.map (ev tm)) bind L h (@kc ⟨λv h' c=>jD c (@kb ⟨ih (bE bind L) (put tm x.d v) h' K⟩)⟩)
   | _,_,_=>vgd tm x.g (vop p x.c x.o x.t tm h (@kk ⟨λv h'=>jD (jC bind h' L) (@kb ⟨ih (bE bind L) (put tm x.d v) h' K⟩)⟩)) (ih (bE bind L) (put tm x.d undef) h K)
def pTk (p:Par)(i:Nat)(rd:Zb)(x:It)(ih:KP):KP:=
 Bool.rec (motive:=λ_=>KP) (bH1 p x ih) (Bool.rec (motive:=λ_=>KP) (bG1 p i x ih) (bF1 p i x ih) (isSl x.o)) rd
def zD0 (p:Par)(t:PT):KP:=
 PT.rec (motive:=λ_=>KP) (λ_ tm h K=>K tm h) (λ_ _ _ _=>True) (λ_ _ _ _=>False)
  (λi rd x _ ih=>pTk p i rd x ih)
  (λ_ x bind _ alt ih ih2=>Bool.rec (motive:=λ_=>KP) (λL tm h K=>pEff p x bind ih L tm h K∧ih2 L tm h K) (pEff p x bind ih) (isNo alt)) t
theorem uR0 (p:Par)(K:VT→jB→Prop):∀ (t:PT) (L:HL) (tm:VT) (h:jB),zD0 p t L tm h K=qS p t L tm h K
 | .fin,L,tm,h=>rfl
 | .no,L,tm,h=>rfl
 | .bad,L,tm,h=>rfl
 | .take i rd x k,L,tm,h=>by
  have ih:=uR0 p K k
  show pTk p i rd x (zD0 p k) L tm h K=_
  unfold pTk
  simp only[qS]
  cases rd with
  | false=>
   dsimp only
   unfold bH1
   simp only[ih,kk]
   cases x.g with
   | none=>rfl
   | some y=>obtain ⟨d,w⟩:=y;rfl
  | true=>
   dsimp only
   cases ho:isSl x.o with
   | true=>
    dsimp only
    unfold bF1 fE0
    simp only[ih,kv,kb]
    cases x.g with
    | none=>rfl
    | some y=>obtain ⟨d,w⟩:=y;rfl
   | false=>
    dsimp only
    unfold bG1
    simp only[ih,kk,ke]
    have:tw p.P x.o tm h=none:=by
     unfold tw
     split
     ·rename_i he;rw[he] at ho;cases ho
     ·rfl
    simp only[this]
    cases x.g with
    | none=>rfl
    | some y=>
     obtain ⟨d,w⟩:=y
     simp only[gRd,pO0,vgd,oP]
 | .eff i x bind k alt,L,tm,h=>by
  have ih:=uR0 p K k
  have e:pEff p x bind (zD0 p k) L tm h K=vgd tm x.g (vop p x.c x.o x.t tm h λv h'=>jC bind h' L∧qS p k (bE bind L) (put tm x.d v) h' K) (qS p k (bE bind L) (put tm x.d undef) h K):=by
   unfold pEff
   simp only[ih,kb,kk,kc]
   split
   ·rename_i d w hg hc
    simp only[hg,hc,gEk,vgd,vop,jD,true_and]
   ·rename_i d w f args _ hg hc ho
    simp only[hg,hc,ho,gCk,vgd,vop,jD,true_and]
   ·rfl
  show (Bool.rec (motive:=λ_=>KP) (λL tm h K=>pEff p x bind (zD0 p k) L tm h K∧zD0 p alt L tm h K) (pEff p x bind (zD0 p k)) (isNo alt):KP) L tm h K=_
  simp only[qS,← uR0 p K alt]
  cases alt with
  | no=>
   show pEff p x bind (zD0 p k) L tm h K=_
   rw[e]
   exact (and_true _).symm
  | _=>exact congrArg (·∧_) e
def cE1 (p:Par)(l:List It):VT→jB→(VT→jB→Prop)→Prop:=
 List.rec (motive:=λ_=>VT→jB→(VT→jB→Prop)→Prop) (λtm h K=>K tm h)
  (λx _ ih tm h K=>vop2 p x.g x.c x.o x.t tm h (@kk ⟨λv h'=>ih (put tm x.d v) h' K⟩)) l
theorem iW0 (p:Par)(K:VT→jB→Prop):∀ (l:List It) (tm:VT) (h:jB),cE1 p l tm h K=pP0 p l tm h K
 | [],tm,h=>rfl
 | x :: l,tm,h=>by
  show vop2 p x.g x.c x.o x.t tm h (@kk ⟨λv h'=>cE1 p l (put tm x.d v) h' K⟩)=vop2 p x.g x.c x.o x.t tm h (λv h'=>pP0 p l (put tm x.d v) h' K)
  simp only[iW0 p K l,kk]
def vc3 (p:Par)(ro:Z8 Nat):IR→S→(jL→S→Prop)→Prop
 | .bad,_,_=>False
 | .skip,s,R=>R .normal s
 | .ret,s,R=>R .ret s
 | .exit i,s,R=>R (.exit i) s
 | .goto l,s,R=>R (.goto l) s
 | .label _,s,R=>R .normal s
 | .ops l,s,R=>cE1 p l s.tm s.h λtm h=>R .normal ⟨tm,s.df,h⟩
 | .plan t,s,R=>zD0 p t [] s.tm s.h λtm h=>R .normal ⟨tm,s.df,h⟩
 | .seq a b,s,R=>vc3 p ro a s (qX (λs1=>vc3 p ro b s1 (@kR ⟨R⟩)) R)
 | .cond x a b,s,R=>jR (ev s.tm x) (@kb ⟨vc3 p ro a s R⟩) (@kb ⟨vc3 p ro b s R⟩)
 | .block i b,s,R=>vc3 p ro b s (kA i R)
 | .loop b,s,R=>W p ro (.loop b) s (@kR ⟨R⟩)
 | .scope b,s,R=>WPin p ro b b s (@kR ⟨R⟩)
 | .range g ps a b,s,R=>W p ro (.range g ps a b) s (@kR ⟨R⟩)
theorem uF0 (p:Par)(ro:Z8 Nat):∀ (ir:IR) (s:S) (R:jL→S→Prop),vc3 p ro ir s R=vc p ro ir s R
 | .bad,s,R=>rfl
 | .skip,s,R=>rfl
 | .ret,s,R=>rfl
 | .exit i,s,R=>rfl
 | .goto l,s,R=>rfl
 | .label l,s,R=>rfl
 | .ops l,s,R=>(iW0 p _ l _ _).trans (bF0 p _ l _ _)
 | .plan t,s,R=>uR0 p _ t _ _ _
 | .seq a b,s,R=>by simp only[vc3,vc,uF0 p ro a,uF0 p ro b,kR,kb,cO0,hi]
 | .cond x a b,s,R=>by simp only[vc3,vc,uF0 p ro a,uF0 p ro b,kR,kb,cO0,hi]
 | .block i b,s,R=>uF0 p ro b s _
 | .loop b,s,R=>rfl
 | .scope b,s,R=>rfl
 | .range g ps a b,s,R=>rfl
theorem mU1 (p:Par)(ro:Z8 Nat)(ir:IR)(s:S)(R:jL→S→Prop):vc3 p ro ir s R=vc2 p ro ir s R:=by rw[uF0,zE0]
theorem jG.fir4 {p:Par}(jW:yT0 p){g:FuncId}{f:FIR}(hf:Ev.fir p.P g=some f){args:List Z6}{h:jB}{R:Z6→jB→Prop}{T:VT}(hn:Nat.ble args.length f.n=true)(hU:Nat.ble f.n 100000=true)
  (hT:T.arr=⟨args++List.replicate (f.n-args.length) undef⟩) (hv:h.lo≤h.next→vc3 p none f.ir ⟨T,[],h⟩ (jZ p.P f.rs R)):jG p g args h R:=
 jG.fir3 jW hf hn hU hT λhlo=>by rw[← mU1];exact hv hlo
theorem W.loop4 {p:Par}(jW:yT0 p){ro:Z8 Nat}{b:IR}{R:jL→S→Prop}(I:Nat→S→Prop)(h:∀ n s1,I n s1→vc3 p ro b s1 (@kR ⟨qX (λs2=>∃ m,m<n∧I m s2) R⟩)) :
  ∀ n s,I n s→W p ro (.loop b) s R:=W.loop3 jW I λn s1 hI=>by rw[← mU1];exact h n s1 hI
abbrev Ent:=Int×Z6×Nat
def ME (l:List Ent):List MapEntry:=l.map λx=>⟨.int .i64 x.1,x.2.1,x.2.2⟩
def MO (l:List Ent)(c:Nat):jV:=⟨.map ⟨ME l⟩ c,false⟩
def IO' (m:Z8 Nat)(a:Nat)(seen:List Nat)(b:Nat):jV:=⟨.mapIter m a ⟨seen⟩ b,false⟩
def bN (k:Int):List Ent→Z8 Z6
 | []=>none
 | x :: l=>if k=x.1 then some x.2.1 else bN k l
def setM (k:Int)(v:Z6):List Ent→List Ent
 | []=>[]
 | x :: l=>if k=x.1 then (k,v,x.2.2) :: l else x :: setM k v l
def delM (k:Int):List Ent→List Ent
 | []=>[]
 | x :: l=>if k=x.1 then l else x :: delM k l
def idxM (k:Int):List Ent→Nat
 | []=>0
 | x :: l=>if k=x.1 then 0 else idxM k l+1
def putM (k:Int)(v:Z6)(c:Nat)(l:List Ent):List Ent:=if (bN k l).isSome then setM k v l else l++[(k,v,c)]
def wZ0 (k:Int)(c:Nat)(l:List Ent):Nat:=if (bN k l).isSome then c else c+1
theorem kB0 (k:Int):∀ (l:List Ent) (n:Nat),bQ (.int .i64 k) (ME l) n=some ((bN k l).map λv=>(n+idxM k l,v))
 | [],n=>rfl
 | x :: l,n=>by
  show (match wS0 (.int .i64 k) (.int .i64 x.1) with|some true=>some (some (n,x.2.1))|some false=>bQ (.int .i64 k) (ME l) (n+1)|none=>none)=_
  by_cases h:k=x.1
  ·have e:wS0 (.int .i64 k) (.int .i64 x.1)=some true:=by simp[wS0,h]
   rw[e]
   simp[bN,idxM,h]
  ·have e:wS0 (.int .i64 k) (.int .i64 x.1)=some false:=by simp[wS0,h]
   rw[e]
   show bQ (.int .i64 k) (ME l) (n+1)=_
   rw[kB0 k l (n+1)]
   simp only[bN,idxM,if_neg h]
   congr 2
   funext v
   rw[Nat.add_assoc,Nat.add_comm 1]
theorem sJ0 (k:Int)(v:Z6):∀ l:List Ent,(bN k l).isSome→modE (.int .i64 k) v (ME l) (idxM k l)=ME (setM k v l)
 | [],h=>by cases h
 | x :: l,h=>by
  by_cases hk:k=x.1
  ·simp only[idxM,setM,if_pos hk];rfl
  ·simp only[bN,idxM,setM,if_neg hk] at h ⊢
   show _ :: modE _ _ (ME l) (idxM k l)=_
   rw[sJ0 k v l h];rfl
theorem qF1 (k:Int):∀ l:List Ent,(bN k l).isSome→delE (ME l) (idxM k l)=ME (delM k l)
 | [],h=>by cases h
 | x :: l,h=>by
  by_cases hk:k=x.1
  ·simp only[idxM,delM,if_pos hk];rfl
  ·simp only[bN,idxM,delM,if_neg hk] at h ⊢
   show _ :: delE (ME l) (idxM k l)=_
   rw[qF1 k l h];rfl
theorem qD1 (k:Int):∀ l:List Ent,bN k l=none→delM k l=l
 | [],h=>rfl
 | x :: l,h=>by
  by_cases hk:k=x.1
  ·simp[bN,hk] at h
  ·simp only[bN,delM,if_neg hk] at h ⊢
   rw[qD1 k l h]
def mpT (P:Z9)(t:Zt):Z8 Z6:=match P.underlying t with
 | some (.map kt et)=>match P.underlying kt with
  | some (.int _)=>match zeroOf P et with
   | some z=>if flat z then some z else none
   | none=>none
  | _=>none
 | _=>none
theorem jH0 {P:Z9}{t:Zt}{z:Z6}(h:mpT P t=some z):∃ kt et j,P.underlying t=some (.map kt et)∧P.underlying kt=some (.int j)∧zeroOf P et=some z∧flat z=true:=by
 unfold mpT at h
 split at h
 ·rename_i kt et hu
  split at h
  ·rename_i j hk
   split at h
   ·rename_i z' hz
    split at h
    ·rename_i hf;cases h;exact ⟨kt,et,j,hu,hk,hz,hf⟩
    ·cases h
   ·cases h
  ·cases h
 ·cases h
def lkM (ok:Zb)(z:Z6)(o:Z8 Z6):Z6:=okV2 ok (o.getD z) o.isSome
theorem dH0 {P:Z9}{t:Zt}{z:Z6}{h:jB}{r:Nat}{l:List Ent}{c:Nat}(hz:mpT P t=some z)(hm:mapOf h r=some (ME l,c))(k:Int)(ok:Zb) :
  qG P t (.map (some r)) (.int .i64 k) ok h=some (lkM ok z (bN k l)):=by
 obtain ⟨kt,et,j,hu,hk,hz,hf⟩:=jH0 hz
 have hko:bD P kt (.int .i64 k)=true:=by simp only[bD,hk]
 simp only[qG,hu,hko,gV0,hm,kB0]
 cases bN k l with
 | none=>simp only[Option.map_none,hz,hf];rfl
 | some v=>rfl
theorem look_nil {P:Z9}{t:Zt}{z:Z6}{h:jB}(hz:mpT P t=some z)(k:Int)(ok:Zb) :
  qG P t (.map none) (.int .i64 k) ok h=some (lkM ok z none):=by
 obtain ⟨kt,et,j,hu,hk,hz,hf⟩:=jH0 hz
 have hko:bD P kt (.int .i64 k)=true:=by simp only[bD,hk]
 simp only[qG,hu,hko,gV0,bQ,hz,hf]
 rfl
theorem uV0 {P:Z9}{t:Zt}{z:Z6}{h:jB}{r:Nat}{l:List Ent}{c:Nat}(hz:mpT P t=some z)(hm:mapOf h r=some (ME l,c))(k:Int)(v:Z6)(hv:fsc h.next v=true) :
  uZ0 P t (.map (some r)) (.int .i64 k) v h=some (undef,h.put r (MO (putM k v c l) (wZ0 k c l))):=by
 obtain ⟨kt,et,j,hu,hk,hz,hf⟩:=jH0 hz
 have hko:bD P kt (.int .i64 k)=true:=by simp only[bD,hk]
 simp only[uZ0,hu,hko,hv,Bool.and_self,hm,kB0]
 cases hg:bN k l with
 | none=>simp only[Option.map_none,putM,wZ0,hg];unfold qA0 MO ME;simp
 | some u=>simp only[Option.map_some,Nat.zero_add,sJ0 k v l (by rw[hg];rfl),putM,wZ0,hg];rfl
theorem mF0 {P:Z9}{t:Zt}{z:Z6}{h:jB}{r:Nat}{l:List Ent}{c:Nat}(hz:mpT P t=some z)(hm:mapOf h r=some (ME l,c))(k:Int) :
  uI0 P t (.map (some r)) (.int .i64 k) h=some (.tuple #[],h.put r (MO (delM k l) c)):=by
 obtain ⟨kt,et,j,hu,hk,hz,hf⟩:=jH0 hz
 have hko:bD P kt (.int .i64 k)=true:=by simp only[bD,hk]
 simp only[uI0,hu,hko,hm,kB0]
 cases hg:bN k l with
 | none=>simp only[Option.map_none,qD1 k l hg];rfl
 | some u=>simp only[Option.map_some,Nat.zero_add,qF1 k l (by rw[hg];rfl)];rfl
theorem qB1 {P:Z9}{t:Zt}{z:Z6}{h:jB}(hz:mpT P t=some z)(k:Int):uI0 P t (.map none) (.int .i64 k) h=some (.tuple #[],h):=by
 obtain ⟨kt,et,j,hu,hk,hz,hf⟩:=jH0 hz
 have hko:bD P kt (.int .i64 k)=true:=by simp only[bD,hk]
 simp only[uI0,hu,hko]
theorem kO1 {P:Z9}{t:Zt}{z:Z6}{h:jB}{r:Nat}{l:List Ent}{c:Nat}(hz:mpT P t=some z)(hm:mapOf h r=some (ME l,c)):kS P t (.map (some r)) h=some (.tuple #[],h.put r (MO [] c)):=by
 obtain ⟨kt,et,j,hu,hk,hz,hf⟩:=jH0 hz
 simp only[kS,hu,hm];rfl
theorem iN1 {P:Z9}{t:Zt}{z:Z6}{h:jB}(hz:mpT P t=some z):kS P t (.map none) h=some (.tuple #[],h):=by
 obtain ⟨kt,et,j,hu,hk,hz,hf⟩:=jH0 hz
 simp only[kS,hu]
theorem sG0 {P:Z9}{t:Zt}{z:Z6}{h:jB}(hz:mpT P t=some z):gK0 P t none h=some (.map (some h.next),h.add (MO [] 0)):=by
 obtain ⟨kt,et,j,hu,hk,hz,hf⟩:=jH0 hz
 simp only[gK0,hu];rfl
theorem wS1 {h:jB}{r:Nat}{l:List Ent}{c:Nat}(hm:mapOf h r=some (ME l,c)):mapRange (.map (some r)) h=some (.pointer (some ⟨h.next,0,none⟩),h.add (IO' (some r) c [] c)):=by
 simp only[mapRange,hm];rfl
theorem eX1 {h:jB}:mapRange (.map none) h=some (.pointer (some ⟨h.next,0,none⟩),h.add (IO' none 0 [] 0)):=rfl
theorem kM {h:jB}{r:Nat}{l:List Ent}{c:Nat}(hl:h.lo≤r):mapOf (h.put r (MO l c)) r=some (ME l,c):=by
 unfold mapOf MO
 rw[jE0,qI]
 simp only[Nat.ble_eq_true_of_le hl]
theorem kX0 {h h':jB}{r:Nat}(e:h'.get r=h.get r)(el:h'.lo=h.lo):mapOf h' r=mapOf h r:=by unfold mapOf;rw[e,el]
theorem kW0 {h:jB}{r b:Nat}{x:jV}(hn:r≠b):mapOf (h.put b x) r=mapOf h r:=kX0 (jM0 _ _ _ hn) (qI _ _)
theorem kY0 {h:jB}{l:List Ent}{c:Nat}{r:Nat}(hr:r=h.next)(hl:h.lo≤h.next):mapOf (h.add (MO l c)) r=some (ME l,c):=by
 subst hr
 unfold mapOf MO
 rw[jF0 _ _ rfl,jS]
 simp only[Nat.ble_eq_true_of_le hl]
theorem oL_1 {v:Z6}{h':jB}{K:Z6→jB→Prop}:oL (one1 (some (v,h'))) K=K v h':=propext ⟨λq=>q (v,h') (List.mem_singleton.2 rfl),λq x hx=>by cases List.mem_singleton.1 hx;exact q⟩
theorem uY0 {seen:List Nat}:∀ {l:List MapEntry} {x:MapEntry},x∈gZ seen l↔x∈l∧x.born∉seen
 | [],x=>by simp[gZ]
 | y :: l,x=>by
  have ih:=uY0 (seen:=seen) (l:=l) (x:=x)
  have hm:=fH0 y.born seen
  simp only[gZ]
  cases hc:memN y.born seen with
  | true=>
   rw[hc] at hm
   have hy:y.born∈seen:=by simpa using hm.symm
   simp only[ih,List.mem_cons]
   exact ⟨λh=>⟨.inr h.1,h.2⟩,λh=>⟨h.1.resolve_left λe=>h.2 (by rw[e];exact hy),h.2⟩⟩
  | false=>
   rw[hc] at hm
   have hy:y.born∉seen:=by simpa using hm.symm
   simp only[List.mem_cons,ih]
   exact ⟨λh=>h.elim (λe=>⟨.inl e,by rw[e];exact hy⟩) λh=>⟨.inr h.1,h.2⟩,λh=>h.1.elim .inl λe=>.inr ⟨e,h.2⟩⟩
theorem lM0 {c:Nat}:∀ {l:List MapEntry},(∀ x∈l,x.born<c)→oldE c l=l∧newE c l=[]
 | [],_=>⟨rfl,rfl⟩
 | y :: l,h=>by
  obtain ⟨h1,h2⟩:=lM0 (c:=c) (l:=l) λx hx=>h x (List.mem_cons_of_mem _ hx)
  have hy:Nat.blt y.born c=true:=by rw[Nat.blt_eq];exact h y (List.mem_cons_self ..)
  simp only[oldE,newE,hy,h1,h2,and_self]
theorem fH1 {h:jB}{b m c:Nat}{seen:List Nat}{l:List Ent}{K:Z6→jB→Prop}(hg:h.get b=some (IO' (some m) c seen c))(hlo:h.lo≤b)(hm:mapOf h m=some (ME l,c))(hb:∀ x∈l,x.2.2<c)
  (h1:(∀ x∈l,x.2.2∈seen)→K (.tuple #[.bool false]) h)
  (h2:∀ x∈l,x.2.2∉seen→K (.tuple #[.bool true,.int .i64 x.1,x.2.1]) (h.put b (IO' (some m) c (seen++[x.2.2]) c))):oL (jI0 (.pointer (some ⟨b,0,none⟩)) h) K:=by
 have hbl:Nat.ble h.lo b=true:=by rw[Nat.ble_eq];exact hlo
 have hall:∀ x∈ME l,x.born<c:=λx hx=>by
  unfold ME at hx
  obtain ⟨y,hy,rfl⟩:=List.mem_map.1 hx
  exact hb y hy
 obtain ⟨e1,e2⟩:=lM0 (l:=gZ seen (ME l)) (c:=c) λx hx=>hall x (uY0.1 hx).1
 have hq:(seen.isEmpty || (ME l).isEmpty || yR0 c (ME l))=true:=by
  cases hl:ME l with
  | nil=>simp
  | cons y t=>
   have hy:=hall y (by rw[hl];exact List.mem_cons_self ..)
   have:yR0 c (y :: t)=true:=by
    simp only[yR0,show Nat.blt y.born c=true from Nat.ble_eq_true_of_le hy]
   rw[this,Bool.or_true]
 unfold IO' at hg
 simp only[jI0,hg,hbl,hm,hq,e1,e2,List.append_nil,oL]
 intro x hx
 rcases List.mem_append.1 hx with hx|hx
 ·cases hle:gZ seen (ME l) with
  | nil=>
   rw[hle] at hx
   simp only[endE,List.mem_singleton] at hx
   subst hx
   refine h1 λy hy=>?_
   by_cases hs:y.2.2∈seen
   ·exact hs
   ·have:(⟨.int .i64 y.1,y.2.1,y.2.2⟩:MapEntry)∈gZ seen (ME l):=uY0.2 ⟨List.mem_map.2 ⟨y,hy,rfl⟩,hs⟩
    rw[hle] at this
    cases this
  | cons y t=>rw[hle] at hx;simp[endE] at hx
 ·obtain ⟨e,he,rfl⟩:=List.mem_map.1 hx
  obtain ⟨he1,he2⟩:=uY0.1 he
  unfold ME at he1
  obtain ⟨y,hy,rfl⟩:=List.mem_map.1 he1
  exact h2 y hy he2
theorem wU1 {h:jB}{b:Nat}{a c:Nat}{s:List Nat}{K:Z6→jB→Prop}(hg:h.get b=some (IO' none a s c))(hlo:h.lo≤b):oL (jI0 (.pointer (some ⟨b,0,none⟩)) h) K=K (.tuple #[.bool false]) h:=by
 have hbl:Nat.ble h.lo b=true:=by rw[Nat.ble_eq];exact hlo
 unfold IO' at hg
 simp only[jI0,hg,hbl,oL,List.mem_singleton,forall_eq]
theorem dL0 (n:Nat):∀ l:List Nat,fK0 (l++[n])=some n
 | []=>rfl
 | [x]=>rfl
 | x :: y :: l=>dL0 n (y :: l)
theorem mK0 {x:Ent}:∀ {l:List Ent},x∈l→(l.map (·.2.2)).Nodup→iJ0 x.2.2 (ME l)=some ⟨.int .i64 x.1,x.2.1,x.2.2⟩
 | [],h,_=>by cases h
 | y :: l,h,hn=>by
  rw[List.map_cons,List.nodup_cons] at hn
  show (match Nat.beq y.2.2 x.2.2 with|true=>some (⟨.int .i64 y.1,y.2.1,y.2.2⟩:MapEntry)|false=>iJ0 x.2.2 (ME l))=_
  rcases List.mem_cons.1 h with rfl|h
  ·rw[Nat.beq_refl]
  ·have hne : Nat.beq y.2.2 x.2.2 = false := by
    cases hb:Nat.beq y.2.2 x.2.2 with
    | false=>rfl
    | true=>exact absurd (List.mem_map.2 ⟨x,h,(Nat.eq_of_beq_eq_true hb).symm⟩) hn.1
   rw[hne]
   exact mK0 h hn.2
theorem iI1 {h:jB}{b m c:Nat}{seen:List Nat}{l:List Ent}{x:Ent}(hg:h.get b=some (IO' (some m) c (seen++[x.2.2]) c))(hlo:h.lo≤b)(hm:mapOf h m=some (ME l,c))(hx:x∈l)(hn:(l.map (·.2.2)).Nodup) :
  jN0 (.pointer (some ⟨b,0,none⟩)) h=some (.tuple #[.int .i64 x.1,x.2.1]):=by
 have hbl:Nat.ble h.lo b=true:=by rw[Nat.ble_eq];exact hlo
 unfold IO' at hg
 simp only[jN0,hg,hbl,hm,dL0,Nat.beq_refl,mK0 hx hn]
end
end Go.Ev
