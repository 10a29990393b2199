/-
  A part of the proof: conditions over an abstract memory,and that they are enough for what the model's calls do. No condition of its own.
-/
import Derived.Test.YtejgmoenmbjidaaEvb
import Derived.Below
import Derived.Laws.StructEq
set_option linter.unusedSimpArgs false
set_option linter.unusedVariables false
namespace Go.Ev
open Go Go.RowKit
theorem map_flatten_flat' (Γ:Gam){z:List Value}(h:z.map (con Γ)=z)(n:Nat):((List.replicate n z).flatten).map (con Γ)=(List.replicate n z).flatten:=by
 induction n with
 | zero=>rfl
 | succ n ih=>simp[List.replicate_succ,h,ih]
theorem run_setObj {P:Program}{w:World}{g:Nat}{o o':Obj}(h:w.heap[g]?=some o)(hc:∀ c e f,o≠.cells c e f):(setObj g o').run P w=.ok () (wset w g o'):=by
 simp only[setObj,Sem.run]
 rw[h]
 cases o<;>first|rfl|(exact absurd rfl (hc _ _ _))
theorem ents_put {p:Par}{Γ:Gam}{h:Heap}{w:World}(hr:HRel p Γ h w){r:Nat}{es:List MapEntry}{c:Nat}(hm:mapOf h r=some (es,c)){es':List MapEntry}{c':Nat}
  (hes:∀ e∈es',keyF e.key=true∧sc h.next e.val=true) :
  HRel p Γ (mapPut h r es' c') (wset w (Γ.b r) (.map ⟨es'.map (conE Γ)⟩ c'))∧Fr p Γ h w (wset w (Γ.b r) (.map ⟨es'.map (conE Γ)⟩ c')):=by
 obtain ⟨⟨m,hg⟩,hlo,_,hw⟩:=mapOf_spec hr hm
 refine hr.put hg rfl hlo ?_
 simp only[OR]
 refine ⟨hes,?_⟩
 rw[wset_heap _ _ _ (Array.getElem?_eq_some_iff.1 hw).1]
 simp
theorem modE_mem {k x:Value}:∀ {es:List MapEntry} {i:Nat} {e:MapEntry},e∈modE k x es i→e∈es∨(e.key=k∧e.val=x)
 | [],_,e,h=>by simp[modE] at h
 | y :: es,0,e,h=>by
  simp only[modE,List.mem_cons] at h
  rcases h with rfl|h
  ·exact .inr ⟨rfl,rfl⟩
  ·exact .inl (by simp[h])
 | y :: es,i+1,e,h=>by
  simp only[modE,List.mem_cons] at h
  rcases h with rfl|h
  ·exact .inl (by simp)
  ·rcases modE_mem h with h|h
   ·exact .inl (by simp[h])
   ·exact .inr h
theorem modE_run (Γ:Gam){k x:Value}:∀ (es:List MapEntry) (i:Nat),(modE k x es i).map (conE Γ)=(es.map (conE Γ)).modify i (λe=>{ e with key:=k,val:=con Γ x })
 | [],i=>by simp[modE]
 | y :: es,0=>by simp[modE,conE]
 | y :: es,i+1=>by simp[modE,modE_run Γ es i]
theorem delE_mem:∀ {es:List MapEntry} {i:Nat} {e:MapEntry},e∈delE es i→e∈es
 | [],_,e,h=>by simp[delE] at h
 | y :: es,0,e,h=>by simp only[delE] at h;simp[h]
 | y :: es,i+1,e,h=>by
  simp only[delE,List.mem_cons] at h
  rcases h with rfl|h
  ·simp
  ·simp[delE_mem h]
theorem delE_run (Γ:Gam):∀ (es:List MapEntry) (i:Nat),(delE es i).map (conE Γ)=(es.map (conE Γ)).eraseIdx i
 | [],i=>by simp[delE]
 | y :: es,0=>by simp[delE]
 | y :: es,i+1=>by simp[delE,delE_run Γ es i]
theorem findE_at {k:Value}:∀ {es:List MapEntry} {n i:Nat} {v:Value},findE k es n=some (some (i,v))→n≤i∧∃ e,es[i-n]?=some e∧keyEq k e.key=some true
 | [],n,i,v,h=>by simp[findE] at h
 | e :: es,n,i,v,h=>by
  simp only[findE] at h
  split at h
  ·rename_i hk;cases h;exact ⟨Nat.le_refl _,e,by simp,hk⟩
  ·obtain ⟨h1,e',h2,h3⟩:=findE_at h
   refine ⟨by omega,e',?_,h3⟩
   obtain ⟨j,hj⟩:∃ j,i-n=j+1:=⟨i-(n+1),by omega⟩
   rw[hj,List.getElem?_cons_succ,← h2]
   congr 1;omega
  ·cases h
theorem sameBits_key {a b:Value}(h:keyEq a b=some true)(n:Nat):Instr.sameBits n b a=true:=by
 unfold keyEq at h
 split at h
 ·split at h
  ·rename_i hk
   have hk:=of_decide_eq_true hk
   subst hk
   simp only[Option.some.injEq,decide_eq_true_eq] at h
   subst h
   cases n<;>simp[Instr.sameBits]
  ·cases h
 ·simp only[Option.some.injEq] at h
  rw[← ba_beq] at h
  rename_i x y
  have:(y == x)=true:=by
   rw[ba_beq,beqB_eq,beq_iff_eq]
   rw[ba_beq,beqB_eq,beq_iff_eq] at h
   exact h.symm
  cases n<;>simpa[Instr.sameBits] using this
 ·cases h
theorem run_keyStays {P:Program}{a b:Value}(h:keyEq a b=some true)(w:World):(Instr.keyThatStays b a).run P w=.ok a w:=by
 simp[Instr.keyThatStays,sameBits_key h]
theorem mapSet_run {p:Par}{Γ:Gam}{h h':Heap}{w:World}(hr:HRel p Γ h w){t:TypeId}{m k x v:Value}(he:mapSet p.P t m k x h=some (v,h')) :
  v=undef∧h'.next=h.next∧∃ w',(Instr.mapUpdate t (con Γ m) (con Γ k) (con Γ x)).run p.P w=.ok () w'∧HRel p Γ h' w'∧Fr p Γ h w w':=by
 unfold mapSet at he
 split at he
 ·rename_i kt et r hu
  split at he
  ·rename_i es c hk hm
   simp only[Bool.and_eq_true,fsc_eq] at hk
   obtain ⟨hk,hx⟩:=hk
   have hki:con Γ k=k:=con_flat Γ k (keyF_flat (keyOk_key hk))
   obtain ⟨_,hlo,hall,hw⟩:=mapOf_spec hr hm
   have hnc:∀ (c':Array Value) e f,(Obj.map ⟨es.map (conE Γ)⟩ c)≠.cells c' e f:=λ_ _ _ h=>by cases h
   have nx:∀ (es':List MapEntry) (c':Nat),(mapPut h r es' c').next=h.next:=λes' c'=>by unfold mapPut;rw[Heap.put_eq]
   split at he
   ·rename_i i u hf
    cases he
    obtain ⟨_,e,hei,heq⟩:=findE_at hf
    simp only[Nat.sub_zero] at hei
    have hput:=ents_put hr hm (es':=modE k x es i) (c':=c) (λe he=>by
     rcases modE_mem he with h1|⟨h1,h2⟩
     ·exact hall e h1
     ·rw[h1,h2];exact ⟨keyOk_key hk,hx⟩)
    refine ⟨rfl,nx _ _,_,?_,hput.1,hput.2⟩
    have hek:((((⟨es.map (conE Γ)⟩:Array MapEntry)[i]?).map (·.key)).getD k)=e.key:=by
     simp[hei,conE]
    simp only[con,hki,Instr.mapUpdate,Sem.run_bind,run_under hu,Result.andThen_ok,run_getMap hw,run_checkKey hk,run_findKey (Γ:=Γ) hk hf,Option.map_some]
    rw[hek,run_keyStays heq,Result.andThen_ok,run_setObj hw hnc]
    congr 2
    have:(⟨es.map (conE Γ)⟩:Array MapEntry).modify i (λe=>{ e with key:=k,val:=con Γ x })=⟨(modE k x es i).map (conE Γ)⟩:=by
     apply Array.ext'
     rw[Array.toList_modify,modE_run]
    rw[this]
   ·rename_i hf
    cases he
    have hput:=ents_put hr hm (es':=es++[⟨k,x,c⟩]) (c':=c+1) (λe he=>by
     simp only[List.mem_append,List.mem_singleton] at he
     rcases he with h1|rfl
     ·exact hall e h1
     ·exact ⟨keyOk_key hk,hx⟩)
    refine ⟨rfl,nx _ _,_,?_,hput.1,hput.2⟩
    simp only[con,hki,Instr.mapUpdate,Sem.run_bind,run_under hu,Result.andThen_ok,run_getMap hw,run_checkKey hk,run_findKey (Γ:=Γ) hk hf,Option.map_none]
    rw[run_setObj hw hnc]
    congr 2
    simp[conE]
   ·cases he
  ·cases he
 ·cases he
theorem mapDel_run {p:Par}{Γ:Gam}{h h':Heap}{w:World}(hr:HRel p Γ h w){t ty:TypeId}{ts:List TypeId}{m k v:Value}(he:mapDel p.P t m k h=some (v,h')) :
  v=.tuple #[]∧h'.next=h.next∧∃ w',(Builtin.delete_ ⟨t :: ts⟩ ty #[con Γ m,con Γ k]).run p.P w=.ok (.tuple #[]) w'∧HRel p Γ h' w'∧Fr p Γ h w w':=by
 unfold mapDel at he
 split at he
 ·rename_i kt et hu
  split at he
  ·rename_i hk
   cases he
   have hki:con Γ k=k:=con_flat Γ k (keyF_flat (keyOk_key hk))
   refine ⟨rfl,rfl,w,?_,hr,Fr.refl w⟩
   simp[Builtin.delete_,con,hki,run_under hu,run_checkKey hk]
  ·rename_i r hk
   have hki:con Γ k=k:=con_flat Γ k (keyF_flat (keyOk_key hk))
   split at he
   ·rename_i es c hm
    obtain ⟨_,hlo,hall,hw⟩:=mapOf_spec hr hm
    have hnc:∀ (c':Array Value) e f,(Obj.map ⟨es.map (conE Γ)⟩ c)≠.cells c' e f:=λ_ _ _ h=>by cases h
    have nx:∀ (es':List MapEntry) (c':Nat),(mapPut h r es' c').next=h.next:=λes' c'=>by unfold mapPut;rw[Heap.put_eq]
    split at he
    ·rename_i i u hf
     cases he
     have hput:=ents_put hr hm (es':=delE es i) (c':=c) (λe he=>hall e (delE_mem he))
     refine ⟨rfl,nx _ _,_,?_,hput.1,hput.2⟩
     simp[Builtin.delete_,con,hki,run_under hu,run_getMap hw,run_checkKey hk,run_findKey (Γ:=Γ) hk hf]
     rw[run_setObj hw hnc,Result.andThen_ok]
     congr 3
     apply Array.ext'
     simp[delE_run]
    ·rename_i hf
     cases he
     have hput:=ents_put hr hm (es':=es) (c':=c) hall
     refine ⟨rfl,nx _ _,_,?_,hput.1,hput.2⟩
     simp[Builtin.delete_,con,hki,run_under hu,run_getMap hw,run_checkKey hk,run_findKey (Γ:=Γ) hk hf]
     rw[run_setObj hw hnc]
     rfl
    ·cases he
   ·cases he
  ·cases he
 ·cases he
theorem mapClr_run {p:Par}{Γ:Gam}{h h':Heap}{w:World}(hr:HRel p Γ h w){t ty:TypeId}{m v:Value}(he:mapClr p.P t m h=some (v,h')) :
  v=.tuple #[]∧h'.next=h.next∧∃ w',(Builtin.clear_ #[t] ty #[con Γ m]).run p.P w=.ok (.tuple #[]) w'∧HRel p Γ h' w'∧Fr p Γ h w w':=by
 unfold mapClr at he
 split at he
 ·rename_i e hu
  split at he
  ·cases he
   exact ⟨rfl,rfl,w,by simp[Builtin.clear_,con,run_under hu],hr,Fr.refl w⟩
  ·rename_i b off n c
   split at he
   ·cases he
    exact ⟨rfl,rfl,w,by simp[Builtin.clear_,con,conA,run_under hu],hr,Fr.refl w⟩
   ·rename_i n
    unfold rowClr at he
    split at he
    ·rename_i cs ct mo z hc hz
     split at he
     ·rename_i hb
      simp only[Bool.and_eq_true,List.all_eq_true,Nat.ble_eq] at hb
      obtain ⟨⟨hzf,hz1⟩,h4⟩:=hb
      split at he<;>cases he
      rename_i cs' hset
      obtain ⟨hle,rfl⟩:=setN_eq hset
      obtain ⟨fr0,hg⟩:=cells_get hc
      have hG:p.G≤b:=by rw[← hr.lo];exact h4
      obtain ⟨hlt,rest,fr,hrow⟩:=hr.row hc hG
      have hmem:∀ x∈(List.replicate (n+1) z.cells.toList).flatten,x∈z.cells.toList:=λx hx=>by
       simp only[List.mem_flatten] at hx
       obtain ⟨l,hl,hx⟩:=hx
       rw[(List.mem_replicate.1 hl).2] at hx
       exact hx
      have hzm:z.cells.toList.map (con Γ)=z.cells.toList:=by rw[← conL_map];exact conL_flat Γ _ hzf
      have hmap:=map_flatten_flat' Γ hzm (n+1)
      have hst:=storeCells_run p.P (Γ.b b) off ct fr ((List.replicate (n+1) z.cells.toList).flatten) 0 (cs.map (con Γ)++rest) w hrow.heap
       (by simpa using hrow.fr) (by simp only[List.length_append,List.length_map] at hle ⊢;omega) (λx hx=>hz1 x (hmem x hx))
      have hset:setFrom (cs.map (con Γ)++rest) (off+0) ((List.replicate (n+1) z.cells.toList).flatten)=(setFrom cs off ((List.replicate (n+1) z.cells.toList).flatten)).map (con Γ)++rest:=by
       rw[setFrom_map,hmap]
       generalize (List.replicate (n+1) z.cells.toList).flatten=L at hle ⊢
       simp only[setFrom,Nat.add_zero,List.length_map]
       rw[List.take_append_of_le_length (by simp;omega),List.drop_append_of_le_length (by simp;omega)]
       simp
      rw[hset] at hst
      have hlen:(setFrom cs off ((List.replicate (n+1) z.cells.toList).flatten)).length=cs.length:=by
       generalize (List.replicate (n+1) z.cells.toList).flatten=L at hle ⊢
       simp only[setFrom,List.length_append,List.length_take,List.length_drop]
       omega
      have hok:∀ x∈setFrom cs off ((List.replicate (n+1) z.cells.toList).flatten),one x=true∧sc h.next x=true:=by
       intro x hx
       simp only[setFrom,List.mem_append] at hx
       rcases hx with (hx|hx)|hx
       ·exact hrow.ok x (List.mem_of_mem_take hx)
       ·exact ⟨hz1 x (hmem x hx),scL_all (flatL_sc h.next _ hzf) x (hmem x hx)⟩
       ·exact hrow.ok x (List.mem_of_mem_drop hx)
      have hput:=hr.put (x':=⟨.cells ⟨setFrom cs off ((List.replicate (n+1) z.cells.toList).flatten)⟩ ct,mo⟩) (o:=.cells ⟨(setFrom cs off ((List.replicate (n+1) z.cells.toList).flatten)).map (con Γ)++rest⟩ ct fr) hg rfl h4 (by
       simp only[OR]
       refine ⟨λ_=>⟨hok,rest,fr,?_,?_,hrow.no,?_⟩,λh0=>absurd h0 (Nat.not_lt.2 hG)⟩
       ·rw[wset_heap _ _ _ (Array.getElem?_eq_some_iff.1 hrow.heap).1];simp
       ·have:=hrow.fr
        simp only[List.size_toArray,hlen];exact this
       ·intro hm
        obtain ⟨ti,hh1,h2⟩:=hrow.more hm
        exact ⟨ti,hh1,by simp only[List.size_toArray,hlen];exact h2⟩)
      refine ⟨rfl,by rw[Heap.put_eq],_,?_,hput.1,hput.2⟩
      have hzc:(Builtin.zeroCells z.cells (n+1)).toList=(List.replicate (n+1) z.cells.toList).flatten:=rep_cells z.cells (n+1)
      simp only[Builtin.clear_,con,conA,Sem.run_bind,run_under hu,Result.andThen_ok,List.getElem?_toArray,List.getElem?_cons_zero]
      simp only[Sem.run_bind,run_under hu,run_zeroOf hz,Result.andThen_ok,hzc,hst,Sem.run_pure]
     ·cases he
    ·cases he
  ·cases he
 ·rename_i hu
  split at he
  ·cases he
   exact ⟨rfl,rfl,w,by simp[Builtin.clear_,con,run_under hu],hr,Fr.refl w⟩
  ·rename_i r
   split at he
   ·rename_i es c hm
    cases he
    obtain ⟨_,hlo,hall,hw⟩:=mapOf_spec hr hm
    have hnc:∀ (c':Array Value) e f,(Obj.map ⟨es.map (conE Γ)⟩ c)≠.cells c' e f:=λ_ _ _ h=>by cases h
    have hput:=ents_put hr hm (es':=[]) (c':=c) (λe he=>by cases he)
    refine ⟨rfl,by unfold mapPut;rw[Heap.put_eq],_,?_,hput.1,hput.2⟩
    simp[Builtin.clear_,con,run_under hu,run_getMap hw]
    rw[run_setObj hw hnc]
    rfl
   ·cases he
  ·cases he
 ·cases he
theorem mapNew_run {p:Par}{Γ:Gam}{h:Heap}{w:World}(hr:HRel p Γ h w) :
  HRel p (Γ.ext h.next w.heap.size 0) (h.new ⟨.map ⟨[]⟩ 0,false⟩).2 (w.alloc (.map #[] 0))∧Fr p Γ h w (w.alloc (.map #[] 0)):=by
 refine hr.new (x:=⟨.map ⟨[]⟩ 0,false⟩) (o:=.map #[] 0) (k:=0) ?_
 simp only[OR]
 refine ⟨λe he=>by simp at he,?_⟩
 rw[Gam.ext_b]
 have:Array.map (conE (Γ.ext h.next w.heap.size 0)) ⟨[]⟩=#[]:=by simp
 rw[this]
 exact heap_alloc_new w _
theorem mapIter_new {p:Par}{Γ:Gam}{h:Heap}{w:World}(hr:HRel p Γ h w)(m:Option Nat)(hm:∀ r,m=some r→r<h.next)(c:Nat) :
  HRel p (Γ.ext h.next w.heap.size 0) (h.new ⟨.mapIter m c #[] c,false⟩).2 (w.alloc (.mapIter (m.map Γ.b) c #[] c))∧Fr p Γ h w (w.alloc (.mapIter (m.map Γ.b) c #[] c)):=by
 refine hr.new (x:=⟨.mapIter m c #[] c,false⟩) (o:=.mapIter (m.map Γ.b) c #[] c) (k:=0) ?_
 simp only[OR]
 refine ⟨λr hr'=>Nat.lt_succ_of_lt (hm r hr'),?_⟩
 rw[Gam.ext_b]
 have:m.map (Γ.ext h.next w.heap.size 0).b=m.map Γ.b:=by
  cases m with
  | none=>rfl
  | some r=>simp only[Option.map_some,(Γ.ext_ag h.next w.heap.size 0).b r (hm r rfl)]
 rw[this]
 exact heap_alloc_new w _
theorem memN_eq (n:Nat):∀ l:List Nat,memN n l=l.contains n
 | []=>rfl
 | x :: l=>by
  simp only[memN,List.contains_cons,memN_eq n l]
  have hb:Nat.beq x n=(n == x):=by
   rw[Bool.eq_iff_iff,Nat.beq_eq,beq_iff_eq];exact ⟨λh=>h.symm,λh=>h.symm⟩
  rw[hb]
  cases (n == x)<;>simp
theorem leftE_run (Γ:Gam)(seen:List Nat):∀ es:List MapEntry,(es.map (conE Γ)).filter (λe=>!(⟨seen⟩:Array Nat).contains e.born)=(leftE seen es).map (conE Γ)
 | []=>rfl
 | e :: es=>by
  have hc:(⟨seen⟩:Array Nat).contains (conE Γ e).born=memN e.born seen:=by rw[memN_eq];simp[conE]
  simp only[List.map_cons,List.filter_cons,leftE,hc,leftE_run Γ seen es]
  cases memN e.born seen<;>simp
theorem oldE_run (Γ:Gam)(since:Nat):∀ es:List MapEntry,(es.map (conE Γ)).filter (λe=>decide (e.born<since))=(oldE since es).map (conE Γ)
 | []=>rfl
 | e :: es=>by
  have hc:decide ((conE Γ e).born<since)=Nat.blt e.born since:=by
   rw[Bool.eq_iff_iff,decide_eq_true_iff,Nat.blt_eq];rfl
  simp only[List.map_cons,List.filter_cons,oldE,hc,oldE_run Γ since es]
  cases Nat.blt e.born since<;>simp
theorem newE_run (Γ:Gam)(since:Nat):∀ es:List MapEntry,(es.map (conE Γ)).filter (λe=>decide (e.born ≥ since))=(newE since es).map (conE Γ)
 | []=>rfl
 | e :: es=>by
  have hc:decide ((conE Γ e).born ≥ since) = !Nat.blt e.born since:=by
   cases hb:Nat.blt e.born since with
   | true=>simp only[Nat.blt_eq] at hb;simp only[Bool.not_true,decide_eq_false_iff_not,ge_iff_le,Nat.not_le];exact hb
   | false=>
    have:¬ e.born<since:=λh=>by
     have:Nat.blt e.born since=true:=by simpa using h
     rw[this] at hb;cases hb
    simp only[Bool.not_false,decide_eq_true_eq,ge_iff_le];exact Nat.not_lt.1 this
  simp only[List.map_cons,List.filter_cons,newE,hc,newE_run Γ since es]
  cases Nat.blt e.born since<;>simp
theorem anyOld_run (Γ:Gam)(last:Nat):∀ es:List MapEntry,anyOld last es=true→(es.map (conE Γ)).all (λe=>decide (e.born ≥ last))=false
 | [],h=>by cases h
 | e :: es,h=>by
  simp only[anyOld] at h
  simp only[List.map_cons,List.all_cons]
  split at h
  ·rename_i hb
   simp only[Nat.blt_eq] at hb
   have:decide ((conE Γ e).born ≥ last)=false:=by simp only[decide_eq_false_iff_not,ge_iff_le,Nat.not_le];exact hb
   rw[this,Bool.false_and]
  ·rw[anyOld_run Γ last es h,Bool.and_false]
theorem run_pick {P:Program}{w:World}{n:Nat}(hn:0<n):∃ i w',i<n∧(choose (.mapNext n)).run P w=.ok i w'∧w'.heap=w.heap∧(w'=w∨w'=w.drew):=by
 rw[run_choose_drew]
 by_cases h:(Question.mapNext n).forced
 ·rw[if_pos h];exact ⟨0,w,hn,rfl,rfl,.inl rfl⟩
 ·rw[if_neg h];exact ⟨_,_,Nat.mod_lt _ hn,rfl,rfl,.inr rfl⟩
theorem fr_drew {p:Par}{Γ:Gam}{h:Heap}{w w' w2:World}(e:w'=w∨w'=w.drew)(f:Fr p Γ h w' w2):Fr p Γ h w w2:=by
 rcases e with rfl|rfl
 ·exact f
 ·exact ⟨(Below.refl p.B w).drew.trans f.below,f.low⟩
theorem mem_left {seen:List Nat}:∀ {l:List MapEntry} {x:MapEntry},x∈leftE seen l→x∈l
 | y :: l,x,hx=>by
  simp only[leftE] at hx
  split at hx
  ·simp[mem_left hx]
  ·rcases List.mem_cons.1 hx with rfl|hx
   ·simp
   ·simp[mem_left hx]
 | [],x,hx=>by cases hx
theorem mem_old {since:Nat}:∀ {l:List MapEntry} {x:MapEntry},x∈oldE since l→x∈l
 | y :: l,x,hx=>by
  simp only[oldE] at hx
  split at hx
  ·rcases List.mem_cons.1 hx with rfl|hx
   ·simp
   ·simp[mem_old hx]
  ·simp[mem_old hx]
 | [],x,hx=>by cases hx
theorem mem_new {since:Nat}:∀ {l:List MapEntry} {x:MapEntry},x∈newE since l→x∈l
 | y :: l,x,hx=>by
  simp only[newE] at hx
  split at hx
  ·simp[mem_new hx]
  ·rcases List.mem_cons.1 hx with rfl|hx
   ·simp
   ·simp[mem_new hx]
 | [],x,hx=>by cases hx
theorem mapNexts_run {p:Par}{Γ:Gam}{h:Heap}{w:World}(hr:HRel p Γ h w){it:Value}{l:List (Value×Heap)}{ty:TypeId}(he:mapNexts it h=some l) :
  ∃ v h',(v,h')∈l∧sc h'.next v=true∧h'.next=h.next∧∃ w',(Instr.next (con Γ it) false ty).run p.P w=.ok (con Γ v) w'∧HRel p Γ h' w'∧Fr p Γ h w w':=by
 unfold mapNexts at he
 split at he
 ·rename_i b
  split at he
  ·rename_i a c d mo hg hlo
   cases he
   obtain ⟨hO1,hO2⟩:=(hr.obj b _ hg).2
   refine ⟨_,_,List.mem_singleton.2 rfl,rfl,rfl,w,?_,hr,Fr.refl w⟩
   simp[con,conA,Instr.next,getObj,Sem.run,hO2,conL]
  ·rename_i m since seen last mo hg hlo
   simp only[Nat.ble_eq] at hlo
   split at he
   ·rename_i es c hm
    split at he
    ·rename_i hq
     cases he
     obtain ⟨hO1,hO2⟩:=(hr.obj b _ hg).2
     obtain ⟨_,_,hall,hw⟩:=mapOf_spec hr hm
     have hget:(getObj (Γ.b b)).run p.P w=.ok (.mapIter (some (Γ.b m)) since ⟨seen⟩ last) w:=by simp[getObj,Sem.run,hO2]
     have hf1:(⟨es.map (conE Γ)⟩:Array MapEntry).filter (λe=>!(⟨seen⟩:Array Nat).contains e.born)=⟨(leftE seen es).map (conE Γ)⟩:=by
      apply Array.ext';rw[Array.toList_filter];exact leftE_run Γ seen es
     have hf2:(⟨(leftE seen es).map (conE Γ)⟩:Array MapEntry).filter (λe=>decide (e.born<since))=⟨(oldE since (leftE seen es)).map (conE Γ)⟩:=by
      apply Array.ext';rw[Array.toList_filter];exact oldE_run Γ since _
     have hf3:(⟨(leftE seen es).map (conE Γ)⟩:Array MapEntry).filter (λe=>decide (e.born ≥ since))=⟨(newE since (leftE seen es)).map (conE Γ)⟩:=by
      apply Array.ext';rw[Array.toList_filter];exact newE_run Γ since _
     have hgd:(!(⟨seen⟩:Array Nat).isEmpty&&!(⟨es.map (conE Γ)⟩:Array MapEntry).isEmpty&&(⟨es.map (conE Γ)⟩:Array MapEntry).all (λe=>decide (e.born ≥ last)))=false:=by
      simp only[Bool.or_eq_true] at hq
      rcases hq with (hq|hq)|hq
      ·have:(⟨seen⟩:Array Nat).isEmpty=true:=by simpa using hq
       rw[this];rfl
      ·have:(⟨es.map (conE Γ)⟩:Array MapEntry).isEmpty=true:=by simpa using hq
       rw[this];simp
      ·have : (⟨es.map (conE Γ)⟩ : Array MapEntry).all (fun e => decide (e.born ≥ last)) = false := by
        rw[← Array.all_toList];exact anyOld_run Γ last es hq
       rw[this];simp
     generalize hO:oldE since (leftE seen es)=old at hf2 ⊢
     generalize hN:newE since (leftE seen es)=new at hf3 ⊢
     have hmem:∀ e∈old++new,e∈es:=λe he=>by
      rcases List.mem_append.1 he with he|he
      ·exact mem_left (mem_old (by rw[hO];exact he))
      ·exact mem_left (mem_new (by rw[hN];exact he))
     have hc : ((if (⟨old.map (conE Γ)⟩ : Array MapEntry).isEmpty then #[none] else #[]) ++ (((⟨old.map (conE Γ)⟩ : Array MapEntry) ++ (⟨new.map (conE Γ)⟩ : Array MapEntry)).map some) : Array (Option MapEntry))
       = ⟨endE old none++(old++new).map λe=>some (conE Γ e)⟩:=by
      apply Array.ext'
      cases old with
      | nil=>simp[endE,Function.comp_def]
      | cons x old=>simp[endE,Function.comp_def]
     generalize hL:(endE old none++(old++new).map λe=>some (conE Γ e):List (Option MapEntry))=L at hc
     have hpos:0<L.length:=by
      rw[← hL]
      cases old with
      | nil=>simp[endE]
      | cons x old=>simp[endE]
     obtain ⟨i,w1,hi,hp,hh,hw1⟩:=run_pick (P:=p.P) (w:=w) hpos
     have hr1:HRel p Γ h w1:=hr.of_heap hh
     have hrun : (Instr.next (con Γ (.pointer (some ⟨b, 0, none⟩))) false ty).run p.P w = (match L[i]? with
       | some (some e)=>do
        setObj (Γ.b b) (.mapIter (some (Γ.b m)) since ((⟨seen⟩:Array Nat).push e.born) c)
        pure (.tuple #[.bool true,e.key,e.val])
       | some none=>pure (.tuple #[.bool false])
       | none => stuck "Next: no such candidate" : Sem Value).run p.P w1 := by
      simp only[con,conA,Instr.next,Sem.run_bind,hget,Result.andThen_ok,run_getMap hw,hgd,Bool.false_eq_true,if_false,Sem.run_pure]
      simp only[hf1,hf2,hf3]
      simp only[hc,List.size_toArray,hp,Result.andThen_ok,List.getElem?_toArray]
      rfl
     cases hx:L[i]? with
     | none=>rw[List.getElem?_eq_none_iff] at hx;omega
     | some x=>
      have hxm:=List.mem_of_getElem? hx
      rw[hx] at hrun
      rw[← hL] at hxm
      cases x with
      | none=>
       have hoe:old=[]:=by
        cases old with
        | nil=>rfl
        | cons x old=>simp[endE] at hxm
       subst hoe
       refine ⟨_,_,List.mem_append_left _ (List.mem_singleton.2 rfl),rfl,rfl,w1,?_,hr1,fr_drew hw1 (Fr.refl _)⟩
       rw[hrun]
       simp[con,conL]
      | some e'=>
       obtain ⟨e,he,rfl⟩:∃ e∈old++new,conE Γ e=e':=by
        rcases List.mem_append.1 hxm with h1|h1
        ·cases old<;>simp[endE] at h1
        ·obtain ⟨e,he,h2⟩:=List.mem_map.1 h1
         exact ⟨e,he,Option.some.inj h2⟩
       obtain ⟨hk,hv⟩:=hall e (hmem e he)
       obtain ⟨_,hO2'⟩:=(hr1.obj b _ hg).2
       have hput:=hr1.put (x':=⟨.mapIter (some m) since ⟨seen++[e.born]⟩ c,false⟩) (o:=.mapIter (some (Γ.b m)) since ⟨seen++[e.born]⟩ c) hg rfl hlo (by
        simp only[OR]
        refine ⟨hO1,?_⟩
        rw[wset_heap _ _ _ (Array.getElem?_eq_some_iff.1 hO2').1];simp)
       have hnc:∀ (c':Array Value) e f,(Obj.mapIter (some (Γ.b m)) since ⟨seen⟩ last)≠.cells c' e f:=λ_ _ _ h=>by cases h
       refine ⟨_,_,List.mem_append_right _ (List.mem_map.2 ⟨e,he,rfl⟩),by rw[Heap.put_eq];simp[sc,scL,flat_sc _ _ (keyF_flat hk),hv],by rw[Heap.put_eq],_,?_,hput.1,fr_drew hw1 hput.2⟩
       rw[hrun]
       simp[conL,con,conE,con_flat Γ _ (keyF_flat hk),run_setObj hO2' hnc]
    ·cases he
   ·cases he
  ·cases he
 ·cases he
theorem mapRange_run {p:Par}{Γ:Gam}{h h':Heap}{w:World}(hr:HRel p Γ h w){ca:Act}{tm:VT}{o:Oper}{t kt et:TypeId}{x:Operand}{v:Value}(ho:o.op=.range t x)(hx:ca.eval x=con Γ (ev tm x))
  (hu:p.P.underlying t=some (.map kt et)) (he:mapRange (ev tm x) h=some (v,h')):Out p Γ h ca o w v h'∧sc h'.next v=true:=by
 unfold mapRange at he
 have hn:∀ y,(h.new y).2.next=h.next+1:=λy=>by rw[Heap.new_eq]
 split at he
 ·rename_i hxe
  cases he
  have hnew:=mapIter_new hr none (λr h=>by cases h) 0
  refine ⟨⟨_,_,_,?_,.inl rfl,Γ.ext_ag _ _ _,by rw[hn];omega,hnew.1,hnew.2⟩,by rw[hn];simp[sc,scA]⟩
  rw[con_ptr_ext]
  simp[execOp,ho,hx,hxe,con,Instr.range,run_under hu]
 ·rename_i m hxe
  split at he<;>cases he
  rename_i es c hm
  obtain ⟨⟨mo,hg⟩,_,hall,hw⟩:=mapOf_spec hr hm
  have hnew:=mapIter_new hr (some m) (λr h=>by cases h;exact (hr.obj m _ hg).1) c
  refine ⟨⟨_,_,_,?_,.inl rfl,Γ.ext_ag _ _ _,by rw[hn];omega,hnew.1,hnew.2⟩,by rw[hn];simp[sc,scA]⟩
  rw[con_ptr_ext]
  simp[execOp,ho,hx,hxe,con,Instr.range,run_under hu,run_getMap hw]
 ·cases he
theorem one1_some {r:Option (Value×Heap)}{l:List (Value×Heap)}(h:one1 r=some l):∃ v h',r=some (v,h')∧l=[(v,h')]:=by
 unfold one1 at h
 split at h
 ·rename_i x;cases h;exact ⟨x.1,x.2,rfl,rfl⟩
 ·cases h
theorem mapE_run {p:Par}{Γ:Gam}{h:Heap}{w:World}(hr:HRel p Γ h w){tm:VT}{ca:Act}{o:Oper}{l:List (Value×Heap)}(hev:∀ x∈o.op.operands,ca.eval x=con Γ (ev tm x))
  (he:mapE p.P o.op tm h=some l):∃ v h',(v,h')∈l∧Out p Γ h ca o w v h'∧sc h'.next v=true:=by
 unfold mapE at he
 split at he
 ·rename_i t r ho
  obtain ⟨v,h',he2,rfl⟩:=one1_some he
  refine ⟨v,h',List.mem_singleton.2 rfl,?_⟩
  have hnew:=mapNew_run hr
  unfold mapNew at he2
  have hcv:con (Γ.ext h.next w.heap.size 0) (.map (some h.next))=.map (some w.heap.size):=by simp[con,Gam.ext_b]
  have hn:(h.new ⟨.map ⟨[]⟩ 0,false⟩).2.next=h.next+1:=by rw[Heap.new_eq]
  split at he2
  ·rename_i hu hre
   cases he2
   refine ⟨⟨_,_,_,?_,.inl rfl,Γ.ext_ag _ _ _,by rw[hn];omega,hnew.1,hnew.2⟩,by rw[hn];simp[sc]⟩
   cases r with
   | some x=>cases hre
   | none=>
    rw[hcv]
    simp[execOp,ho,Instr.makeMap]
  ·cases he2
 ·rename_i t m k x ho
  obtain ⟨v,h',he2,rfl⟩:=one1_some he
  obtain ⟨rfl,h1,w',h2,h3,h4⟩:=mapSet_run hr he2
  refine ⟨_,h',List.mem_singleton.2 rfl,⟨Γ,w',.skip,?_,.inr ⟨rfl,rfl⟩,Ag.refl _ _,by omega,h3,h4⟩,rfl⟩
  simp only[execOp,ho,hev m (by simp[ho,Op.operands]),hev k (by simp[ho,Op.operands]),hev x (by simp[ho,Op.operands]),Sem.run_bind,h2,Result.andThen_ok,Sem.run_pure]
 ·rename_i t m k x ho
  obtain ⟨v,h',he2,rfl⟩:=one1_some he
  obtain ⟨rfl,h1,w',h2,h3,h4⟩:=mapSet_run hr he2
  refine ⟨_,h',List.mem_singleton.2 rfl,⟨Γ,w',.skip,?_,.inr ⟨rfl,rfl⟩,Ag.refl _ _,by omega,h3,h4⟩,rfl⟩
  simp only[execOp,ho,hev m (by simp[ho,Op.operands]),hev k (by simp[ho,Op.operands]),hev x (by simp[ho,Op.operands]),Sem.run_bind,h2,Result.andThen_ok,Sem.run_pure]
 ·rename_i args ats ho
  split at he
  ·rename_i m k t ts hA hT
   have hT':ats=⟨t :: ts⟩:=Array.ext' hT
   have hA':args=#[m,k]:=Array.ext' hA
   subst hT' hA'
   have hm:=hev m (by simp[ho,Op.operands,Call.operands])
   have hk:=hev k (by simp[ho,Op.operands,Call.operands])
   obtain ⟨v,h',he2,rfl⟩:=one1_some he
   obtain ⟨rfl,h1,w',h2,h3,h4⟩:=mapDel_run (ty:=o.type) (ts:=ts) hr he2
   refine ⟨_,h',List.mem_singleton.2 rfl,⟨Γ,w',_,?_,.inl rfl,Ag.refl _ _,by omega,h3,h4⟩,by simp[sc,scL]⟩
   simp[execOp,ho,resolve,invoke,builtin,hm,hk,h2,con,conL]
  ·cases he
 ·rename_i args ats ho
  split at he
  ·rename_i m t hA hT
   have hT':ats=#[t]:=Array.ext' hT
   have hA':args=#[m]:=Array.ext' hA
   subst hT' hA'
   have hm:=hev m (by simp[ho,Op.operands,Call.operands])
   obtain ⟨v,h',he2,rfl⟩:=one1_some he
   obtain ⟨rfl,h1,w',h2,h3,h4⟩:=mapClr_run (ty:=o.type) hr he2
   refine ⟨_,h',List.mem_singleton.2 rfl,⟨Γ,w',_,?_,.inl rfl,Ag.refl _ _,by omega,h3,h4⟩,by simp[sc,scL]⟩
   simp[execOp,ho,resolve,invoke,builtin,hm,h2,con,conL]
  ·cases he
 ·rename_i t x ho
  split at he
  ·rename_i kt et hu
   obtain ⟨v,h',he2,rfl⟩:=one1_some he
   exact ⟨v,h',List.mem_singleton.2 rfl,mapRange_run hr ho (hev x (by simp[ho,Op.operands])) hu he2⟩
  ·cases he
 ·rename_i it ho
  obtain ⟨v,h',hm,h0,h1,w',h2,h3,h4⟩:=mapNexts_run (ty:=o.type) hr he
  refine ⟨v,h',hm,⟨Γ,w',_,?_,.inl rfl,Ag.refl _ _,by omega,h3,h4⟩,h0⟩
  simp only[execOp,ho,hev it (by simp[ho,Op.operands]),Sem.run_bind,h2,Result.andThen_ok,Sem.run_pure]
 ·cases he
end Go.Ev
namespace Go.Ev
open Go Go.RowKit
section
variable {F:Fence} {n:Nat} {P:Program} {ops:Array Oper} {Q:Exit→Act→World→Prop} {md:Region.Mode}
def anyX (F:Fence)(n:Nat)(P:Program)(md:Region.Mode)(ops:Array Oper)(Q:Exit→Act→World→Prop)(S:List Nat→World→Prop):Nat→Array Bool→List Nat→Act→World→Prop
 | 0,listed,_,a,w=>Region.ready md ops listed=[]∧Q .normal a w
 | fuel+1,listed,dn,a,w=>
  (Region.ready md ops listed=[]→Q .normal a w)∧
  ∀ i∈Region.ready md ops listed,opW F n P ops Q i (λa' w'=>(S (i :: dn) w'∨w'=w)∧anyX F n P md ops Q S fuel (listed.setIfInBounds i true) (i :: dn) a' w') a w
theorem wpAnyIn_of_X (hF:FW F)(hd:noDefer ops){S:List Nat→World→Prop}:∀ (fuel:Nat) (listed:Array Bool) (dn:List Nat) (a:Act) (w:World),anyX F n P md ops Q S fuel listed dn a w→wpAnyIn F n P md ops Q fuel listed a w
 | 0,_,_,_,_,h=>h
 | fuel+1,_,dn,_,_,h=>⟨h.1,λi hi=>wpOpIn_of hF hd (opW_mono (λa' w' h'=>wpAnyIn_of_X hF hd fuel _ _ a' w' h'.2) (h.2 i hi))⟩
theorem anyX_mono {S S':List Nat→World→Prop}(hS:∀ i w,S i w→S' i w):∀ (fuel:Nat) (listed:Array Bool) (dn:List Nat) (a:Act) (w:World),anyX F n P md ops Q S fuel listed dn a w→anyX F n P md ops Q S' fuel listed dn a w
 | 0,_,_,_,_,h=>h
 | fuel+1,_,dn,_,_,h=>⟨h.1,λi hi=>opW_mono (λa' w' h'=>⟨h'.1.imp (hS _ _) id,anyX_mono hS fuel _ _ a' w' h'.2⟩) (h.2 i hi)⟩
theorem anyX_dn {S:List Nat→World→Prop}(hS:∀ d d' w,(∀ x∈d,x∈d')→S d w→S d' w):∀ (fuel:Nat) (listed:Array Bool) (dn dn':List Nat) (a:Act) (w:World),(∀ x∈dn,x∈dn')→anyX F n P md ops Q S fuel listed dn a w→anyX F n P md ops Q S fuel listed dn' a w
 | 0,_,_,_,_,_,_,h=>h
 | fuel + 1, _, dn, dn', _, _, hd, h => ⟨h.1, fun i hi => opW_mono (fun a' w' h' => by
   have hd':∀ x∈i :: dn,x∈i :: dn':=λx hx=>by
    rcases List.mem_cons.1 hx with rfl|hx
    ·exact List.mem_cons_self ..
    ·exact List.mem_cons_of_mem _ (hd x hx)
   exact ⟨h'.1.imp (hS _ _ _ hd') id,anyX_dn hS fuel _ _ _ a' w' hd' h'.2⟩) (h.2 i hi)⟩
inductive Beh (md:Region.Mode)(ops:Array Oper):Nat→Nat→Prop
 | one {k:Nat} {ok:Oper} {e:Edge} (hk:ops[k]?=some ok) (he:e∈ok.after) (hb:Region.binds md e=true):Beh md ops k e.on
 | step {k i:Nat} {ok:Oper} {e:Edge} (hk:ops[k]?=some ok) (he:e∈ok.after) (hb:Region.binds md e=true) (h:Beh md ops e.on i):Beh md ops k i
theorem Beh.snoc {k j:Nat}(h:Beh md ops k j):∀ {oj:Oper} {e:Edge},ops[j]?=some oj→e∈oj.after→Region.binds md e=true→Beh md ops k e.on:=by
 induction h with
 | one hk he hb=>exact λhj he' hb'=>.step hk he hb (.one hj he' hb')
 | step hk he hb _ ih=>exact λhj he' hb'=>.step hk he hb (ih hj he' hb')
def noBind (md:Region.Mode)(ops:Array Oper)(dn:List Nat)(i:Nat):Prop:=∀ k∈dn,¬ Beh md ops k i
structure closedX (md:Region.Mode)(ops:Array Oper)(listed:Array Bool)(dn:List Nat):Prop where
 all:∀ k ok,ops[k]?=some ok→listed.getD k true=true→∀ e∈ok.after,Region.binds md e=true→listed.getD e.on true=true
 dn:∀ k∈dn,listed.getD k true=true
variable {S:List Nat→World→Prop} {T:World→Prop}
theorem closedX.beh {listed:Array Bool}{dn:List Nat}(hc:closedX md ops listed dn){k i:Nat}(h:Beh md ops k i)(hk:listed.getD k true=true):listed.getD i true=true:=by
 induction h with
 | one hok he hb=>exact hc.all _ _ hok hk _ he hb
 | step hok he hb _ ih=>exact ih (hc.all _ _ hok hk _ he hb)
theorem getD_set_mono {listed:Array Bool}{i j:Nat}(h:listed.getD j true=true):(listed.setIfInBounds i true).getD j true=true:=by
 by_cases e:i=j
 ·subst e
  rw[Array.getD_eq_getD_getElem?,Array.getElem?_setIfInBounds]
  simp only[if_true]
  split<;>rfl
 ·rw[getD_set_ne true e];exact h
theorem getD_set_self {listed:Array Bool}{i:Nat}:(listed.setIfInBounds i true).getD i true=true:=by
 rw[Array.getD_eq_getD_getElem?,Array.getElem?_setIfInBounds]
 simp only[if_true]
 split<;>rfl
theorem closedX.list {listed:Array Bool}{dn:List Nat}(hc:closedX md ops listed dn){j:Nat}(hj:j∈Region.ready md ops listed):closedX md ops (listed.setIfInBounds j true) dn:=by
 refine ⟨λk ok hok hk e he hb=>getD_set_mono ?_,λk hk=>getD_set_mono (hc.dn k hk)⟩
 by_cases hkj:j=k
 ·subst hkj
  obtain ⟨_,oj,hoj,hall⟩:=mem_ready.1 hj
  rw[hok] at hoj
  cases hoj
  have:=hall e he hb
  rcases Nat.lt_or_ge e.on listed.size with h'|h'
  ·simp[h'] at this ⊢;exact this
  ·simp[Array.getElem?_eq_none h'] at this ⊢
 ·rw[getD_set_ne true hkj] at hk
  exact hc.all k ok hok hk e he hb
theorem closedX.step {listed:Array Bool}{dn:List Nat}(hc:closedX md ops listed dn){j:Nat}(hj:j∈Region.ready md ops listed):closedX md ops (listed.setIfInBounds j true) (j :: dn):=
 ⟨(hc.list hj).all,λk hk=>by
  rcases List.mem_cons.1 hk with rfl|hk
  ·exact getD_set_self
  ·exact getD_set_mono (hc.dn k hk)⟩
theorem anyX_first {i:Nat}{oi:Oper}{v:Value}(hi:ops[i]?=some oi)(hsel:∀ (j:Nat) (o:Oper) cs b,ops[j]?=some o→o.op≠.select cs b)
  (hQ:∀ c a w,Q (.panic c) (a.put oi.dst v) w→Q (.panic c) a w) (hSm:∀ d d' w,(∀ x∈d,x∈d')→S d w→S d' w)
  (hST:∀ dn w,noBind md ops dn i→S dn w→T w) :
  ∀ (fuel:Nat) (listed:Array Bool) (dn:List Nat) (a:Act) (w:World),
  (∀ j oj,ops[j]?=some oj→j≠i→listed.getD j true=false→(∀ e∈oj.after,Region.binds md e=true→e.on≠i)→oi.apart ops oj=true)→
  i∈Region.ready md ops listed→closedX md ops listed dn→YieldsIf P ops T oi v a→T w→
  anyX F n P md ops Q S fuel (listed.setIfInBounds i true) dn (a.put oi.dst v) w→anyX F n P md ops Q S (fuel+1) listed dn a w:=by
 intro fuel
 induction fuel with
 | zero=>
  intro listed dn a w _ hr hc hy hT H
  refine ⟨λh=>(by rw[h] at hr;cases hr),λj hj=>?_⟩
  by_cases hji:j=i
  ·subst hji;exact Ev.YieldsIf.opW hi hy hT ⟨.inr rfl,H⟩
  ·have:=ready_mono hj hji
   rw[H.1] at this
   cases this
 | succ fuel ih=>
  intro listed dn a w hfree hr hc hy hT H
  refine ⟨λh=>(by rw[h] at hr;cases hr),λj hj=>?_⟩
  by_cases hji:j=i
  ·subst hji;exact Ev.YieldsIf.opW hi hy hT ⟨.inr rfl,anyX_dn hSm _ _ _ _ _ _ (λx hx=>List.mem_cons_of_mem _ hx) H⟩
  ·have h1:=H.2 j (ready_mono hj hji)
   obtain ⟨hjun,oj,hoj,hall⟩:=mem_ready.1 hj
   have hun:listed.getD i true=false:=(mem_ready.1 hr).1
   have hnot:∀ e∈oj.after,Region.binds md e=true→e.on≠i:=λe he hb heq=>by
    have h1:=hall e he hb
    have h0:=(mem_ready.1 hr).1
    rw[heq] at h1
    rcases Nat.lt_or_ge i listed.size with h'|h'
    ·simp[h'] at h0 h1;rw[h0] at h1;cases h1
    ·simp[Array.getElem?_eq_none h'] at h1
   have hnb:noBind md ops (j :: dn) i:=λk hk hbe=>by
    have:=(hc.step hj).beh hbe ((hc.step hj).dn k hk)
    rw[getD_set_ne true hji,hun] at this
    cases this
   have h2:=opW_put hoj (hfree j oj hoj hji hjun hnot) (λcs b=>hsel i oi cs b hi) (λcs b=>hsel j oj cs b hoj) hQ hy h1
   have hfree' : ∀ k ok, ops[k]? = some ok → k ≠ i → (listed.setIfInBounds j true).getD k true = false →
     (∀ e∈ok.after,Region.binds md e=true→e.on≠i)→oi.apart ops ok=true:=λk ok hk hki hun hno=>by
    refine hfree k ok hk hki ?_ hno
    by_cases hjk:j=k
    ·subst hjk;exact hjun
    ·rw[getD_set_ne true hjk] at hun;exact hun
   refine opW_mono (λa' w' h3=>⟨h3.2.1,ih (listed.setIfInBounds j true) (j :: dn) a' w' hfree' (ready_mono hr (Ne.symm hji)) (hc.step hj) h3.1 ?_ ?_⟩) h2
   ·rcases h3.2.1 with hS|rfl
    ·exact hST _ w' hnb hS
    ·exact hT
   ·rw[Array.setIfInBounds_comm _ _ hji]
    exact h3.2.2
theorem anyX_take {i:Nat}{oi:Oper}{v:Value}{fuel:Nat}{listed:Array Bool}{dn:List Nat}{a:Act}{w:World}(hi:ops[i]?=some oi)
  (hs:Region.noSelect ops=true) (hf:Region.free md ops listed i=true) (hr:i∈Region.ready md ops listed) (hc:closedX md ops listed dn)
  (hQ:∀ c a w,Q (.panic c) (a.put oi.dst v) w→Q (.panic c) a w) (hSm:∀ d d' w,(∀ x∈d,x∈d')→S d w→S d' w) (hST:∀ dn w,noBind md ops dn i→S dn w→T w)
  (hy:YieldsIf P ops T oi v a) (hT:T w)
  (h:anyX F n P md ops Q S fuel (listed.setIfInBounds i true) dn (a.put oi.dst v) w):anyX F n P md ops Q S (fuel+1) listed dn a w:=
 anyX_first hi (Region.noSelect_spec hs) hQ hSm hST fuel listed dn a w (Region.free_spec hi hf) hr hc hy hT h
theorem wpIn_region_anyX {id:Nat}{a:Act}{w:World}(hF:FW F)(hd:noDefer ops)(hm:P.follows .mixedOrders=true)
  (h:anyX F n P .any ops Q S ops.size (Array.replicate ops.size false) [] a { w with drawn:=w.drawn+1 }):(Code.region id ops true).wpIn F n P Q a w:=
 wpIn_region_any hm (wpAnyIn_of_X hF hd _ _ _ _ _ h)
def HeldX (P:Program)(ops:Array Oper)(Lc:List (Nat×Sem Go.Next×Value))(dn:List Nat)(w:World):Prop:=
 ∀ x∈Lc,noBind .any ops dn x.1→x.2.1.run P w=.ok (.value x.2.2) w
theorem HeldX.mono {Lc:List (Nat×Sem Go.Next×Value)}{d d':List Nat}{w:World}(hd:∀ x∈d,x∈d')(h:HeldX P ops Lc d w):HeldX P ops Lc d' w:=
 λx hx hn=>h x hx λk hk=>hn k (hd k hk)
end
end Go.Ev
namespace Go.Ev
open Go Go.RowKit
noncomputable section
inductive Cl where|take|eff|call|mp
structure It where
 d:Option Nat
 g:Option (Nat×Bool)
 c:Cl
 o:Op
 t:TypeId
inductive PT where
 | fin
 | no
 | bad
 | take (i:Nat) (rd:Bool) (x:It) (k:PT)
 | eff (i:Nat) (x:It) (bind:List Nat) (k alt:PT)
inductive IR where
 | bad
 | skip
 | ret
 | exit (i:Nat)
 | goto (l:Nat)
 | label (l:Nat)
 | ops (l:List It)
 | plan (p:PT)
 | seq (a b:IR)
 | cond (x:Operand) (a b:IR)
 | block (i:Nat) (b:IR)
 | loop (b:IR)
 | scope (b:Code)
 | range (g:Operand) (ps:Array Tmp) (a b:Code)
def clOf (P:Program)(o:Oper):Cl:=
 match o.op with
 | .call ⟨.value _,_,_⟩=>.call
 | _=>match isMp P o.op with | true=>.mp | false=>match isEff P o with | true=>.eff | false=>.take
def isRd (o:Op):Bool:=
 match o with
 | .load _ _=>true
 | .slice _ _ _ _ _=>true
 | .convert _ _ _=>true
 | .lookup _ _ _ _=>true
 | .entry _=>true
 | _=>false
def It.of (P:Program)(ops:Array Oper)(o:Oper):Option It:=
 match o.guard with
 | none=>some ⟨o.dst,none,clOf P o,o.op,o.type⟩
 | some (j,w)=>match ops[j]? with
  | some oj=>match oj.dst with
   | some d=>some ⟨o.dst,some (d,w),clOf P o,o.op,o.type⟩
   | none=>none
  | none=>none
def itemsOf (P:Program)(ops:Array Oper):List Oper→Option (List It)
 | []=>some []
 | o :: l=>match It.of P ops o,itemsOf P ops l with
  | some x,some l=>some (x :: l)
  | _,_=>none
def bind1 (o:Oper):List Nat:=(o.after.toList.filter (Region.binds .any)).map (·.on)
def hasN (i:Nat):List Nat→Bool
 | []=>false
 | x :: l=>match Nat.beq x i with | true=>true | false=>hasN i l
def bindC (ops:Array Oper):Nat→List Nat→List Nat→List Nat
 | 0,_,acc=>acc
 | _+1,[],acc=>acc
 | n+1,j :: todo,acc=>match hasN j acc with
  | true=>bindC ops n todo acc
  | false=>match ops[j]? with
   | none=>bindC ops n todo acc
   | some oj=>bindC ops n (bind1 oj++todo) (j :: acc)
def bindOf (ops:Array Oper)(o:Oper):List Nat:=bindC ops 1000 (bind1 o) []
def mkPT (P:Program)(ops:Array Oper):Nat→Array Bool→PT
 | 0,listed=>match Region.ready .any ops listed with | []=>.fin | _=>.bad
 | n+1,listed=>match Region.ready .any ops listed with
  | []=>.fin
  | r :: rs=>match firstFree P ops listed (r :: rs) with
   | some (i,o)=>match It.of P ops o with
    | some x=>.take i (isRd o.op) x (mkPT P ops n (listed.setIfInBounds i true))
    | none=>.bad
   | none=>(r :: rs).foldr (λr alt=>match ops[r]? with
    | some o=>match It.of P ops o with
     | some x=>.eff r x (bindOf ops o) (mkPT P ops n (listed.setIfInBounds r true)) alt
     | none=>.bad
    | none=>.bad) .no
def comp (P:Program):Code→IR
 | .skip=>.skip
 | .region _ ops d=>match d with
  | false=>match itemsOf P ops ops.toList with
   | some l=>.ops l
   | none=>.bad
  | true=>.plan (mkPT P ops ops.size (Array.replicate ops.size false))
 | .seq a b=>.seq (comp P a) (comp P b)
 | .cond x a b=>.cond x (comp P a) (comp P b)
 | .block i b=>.block i (comp P b)
 | .loop b=>.loop (comp P b)
 | .rangeFunc g ps a b=>.range g ps a b
 | .exit i=>.exit i
 | .scope b=>.scope b
 | .label l=>.label l
 | .goto l=>.goto l
 | .ret=>.ret
 | .refuse _=>.bad
def subs:Code→List Code
 | .seq a b=>subs a++subs b
 | .cond _ a b=>subs a++subs b
 | .block _ b=>subs b
 | .loop b=>subs b
 | .rangeFunc _ _ a b=>a :: b :: (subs a++subs b)
 | .scope b=>b :: subs b
 | _=>[]
def subC (P:Program)(f k:Nat):Code:=
 match P.funcs[f]? with
 | some fn=>match fn.body with
  | some c=>((subs c)[k]?).getD .skip
  | none=>.skip
 | none=>.skip
structure FIR where
 n:Nat
 a:Nat
 rs:List ResultVar
 ir:IR
def fir (P:Program)(g:Nat):Option FIR:=
 match P.funcs[g]? with
 | some fn=>match fn.body with
  | some c=>some ⟨fn.ntmps,fn.params.size+fn.nfree,fn.results.toList,comp P c⟩
  | none=>none
 | none=>none
def oP (r:Option Value)(h:Heap)(k:Value→Heap→Prop):Prop:=match r with|some v=>k v h|none=>False
def oE (r:Option (Value×Heap))(k:Value→Heap→Prop):Prop:=match r with|some (v,h)=>k v h|none=>False
def oT (r:Option Value)(r2:Option (Value×Value))(h:Heap)(k:Value→Heap→Prop):Prop:=match r with
 | some v=>k v h
 | none=>match r2 with
  | some (a,b)=>k a h∧k b h
  | none=>False
def gV (v:Value)(w:Bool)(A B:Prop):Prop:=match v with | .bool b=>(b=w→A)∧(b≠w→B)|_=>B
def vgd (tm:VT)(g:Option (Nat×Bool))(A B:Prop):Prop:=match g with|none=>A|some (d,w)=>gV (tm.get d) w A B
def oL (r:Option (List (Value×Heap)))(k:Value→Heap→Prop):Prop:=match r with|some l=>∀ x∈l,k x.1 x.2|none=>False
def vop (p:Par)(c:Cl)(o:Op)(t:TypeId)(tm:VT)(h:Heap)(k:Value→Heap→Prop):Prop:=
 match c with
 | .take=>oT (tv p.P o t tm h) (tw p.P o tm h) h k
 | .eff=>oE (te p.P o t tm h) k
 | .call=>match o with
  | .call ⟨.value f,args,_⟩=>CallV p (ev tm f) (args.toList.map (ev tm)) h k
  | _=>False
 | .mp=>oL (mapE p.P o tm h) k
def vops (p:Par):List It→VT→Heap→(VT→Heap→Prop)→Prop
 | [],tm,h,K=>K tm h
 | x :: l,tm,h,K=>vgd tm x.g (vop p x.c x.o x.t tm h λv h'=>vops p l (put tm x.d v) h' K) (vops p l (put tm x.d undef) h K)
abbrev HL:=List (Nat×(Heap→Option Value)×Value)
def keptP (bind:List Nat)(h:Heap):HL→Prop
 | []=>True
 | (i,rd,v) :: L=>(match bind.contains i with | true=>True | false=>rd h=some v)∧keptP bind h L
def dropB (bind:List Nat)(L:HL):HL:=L.filter λe=>!bind.contains e.1
def vplan (p:Par):PT→HL→VT→Heap→(VT→Heap→Prop)→Prop
 | .fin,_,tm,h,K=>K tm h
 | .no,_,_,_,_=>True
 | .bad,_,_,_,_=>False
 | .take i rd x k, L, tm, h, K => vgd tm x.g
   (match rd with
    | false=>oP (tp p.P x.o x.t tm) h λv _=>vplan p k L (put tm x.d v) h K
    | true=>match tv p.P x.o x.t tm h with
     | some v=>vplan p k ((i,λh'=>tv p.P x.o x.t tm h',v) :: L) (put tm x.d v) h K
     | none=>match tw p.P x.o tm h with
      | some (a,b)=>vplan p k ((i,λh'=>(tw p.P x.o tm h').map (·.1),a) :: L) (put tm x.d a) h K∧vplan p k ((i,λh'=>(tw p.P x.o tm h').map (·.2),b) :: L) (put tm x.d b) h K
      | none=>False)
   (vplan p k L (put tm x.d undef) h K)
 | .eff _ x bind k alt,L,tm,h,K=>vgd tm x.g (vop p x.c x.o x.t tm h λv h'=>keptP bind h' L∧vplan p k (dropB bind L) (put tm x.d v) h' K) (vplan p k (dropB bind L) (put tm x.d undef) h K)∧vplan p alt L tm h K
def vcond (v:Value)(A B:Prop):Prop:=match v with | .bool b=>(b=true→A)∧(b=false→B)|_=>False
def W (p:Par)(ro:Option Nat)(ir:IR)(s:S)(R:XExit→S→Prop):Prop:=∀ c,comp p.P c=ir→WP p ro c s R
def vc (p:Par)(ro:Option Nat):IR→S→(XExit→S→Prop)→Prop
 | .bad,_,_=>False
 | .skip,s,R=>R .normal s
 | .ret,s,R=>R .ret s
 | .exit i,s,R=>R (.exit i) s
 | .goto l,s,R=>R (.goto l) s
 | .label _,s,R=>R .normal s
 | .ops l,s,R=>vops p l s.tm s.h λtm h=>R .normal ⟨tm,s.df,h⟩
 | .plan t,s,R=>vplan p t [] s.tm s.h λtm h=>R .normal ⟨tm,s.df,h⟩
 | .seq a b,s,R=>vc p ro a s (thenR (λs1=>vc p ro b s1 R) R)
 | .cond x a b,s,R=>vcond (ev s.tm x) (vc p ro a s R) (vc p ro b s R)
 | .block i b,s,R=>vc p ro b s (outR i R)
 | .loop b,s,R=>W p ro (.loop b) s R
 | .scope b,s,R=>WPin p ro b b s R
 | .range g ps a b,s,R=>W p ro (.range g ps a b) s R
theorem gV_spec {v:Value}{w:Bool}{A B:Prop}(h:gV v w A B):(v=.bool w∧A)∨(v≠.bool w∧B):=by
 unfold gV at h
 split at h
 ·rename_i b
  by_cases e:b=w
  ·exact .inl ⟨by rw[e],h.1 e⟩
  ·exact .inr ⟨λe2=>e (by cases e2;rfl),h.2 e⟩
 ·rename_i hne
  exact .inr ⟨λe=>hne _ e,h⟩
theorem vgd_spec {P:Program}{ops:Array Oper}{o:Oper}{x:It}{tm:VT}{A B:Prop}(hx:It.of P ops o=some x)(h:vgd tm x.g A B) :
  (wanted ops.toList tm o=some true∧A)∨(wanted ops.toList tm o=some false∧B):=by
 unfold It.of at hx
 split at hx
 ·rename_i hg
  cases hx
  exact .inl ⟨by simp[wanted,hg],h⟩
 ·rename_i j w hg
  split at hx
  ·rename_i oj hj
   split at hx<;>cases hx
   rename_i d hd
   have hj':ops.toList[j]?=some oj:=by rw[Array.getElem?_toList];exact hj
   have hy:yl ops.toList tm j=match tm.get d with | .bool b=>some b|_=>none:=by
    simp only[yl,hj',hd]
    rfl
   rcases gV_spec h with ⟨he,ha⟩|⟨hne,hb⟩
   ·refine .inl ⟨?_,ha⟩
    simp only[wanted,hg,hy,he]
    cases w<;>rfl
   ·refine .inr ⟨?_,hb⟩
    simp only[wanted,hg,hy]
    cases hv:tm.get d with
    | bool b=>rw[hv] at hne;cases b<;>cases w<;>simp_all
    | _=>rfl
  ·cases hx
theorem It.of_eq {P:Program}{ops:Array Oper}{o:Oper}{x:It}(hx:It.of P ops o=some x):x.d=o.dst∧x.c=clOf P o∧x.o=o.op∧x.t=o.type:=by
 unfold It.of at hx
 split at hx
 ·cases hx;exact ⟨rfl,rfl,rfl,rfl⟩
 ·split at hx
  ·split at hx<;>cases hx;exact ⟨rfl,rfl,rfl,rfl⟩
  ·cases hx
theorem evPure_bare (P:Program)(o:Oper)(tm:VT):evPure P (bare o.op o.type) tm=evPure P o tm:=rfl
theorem evRead_bare (P:Program)(o:Oper)(tm:VT)(h:Heap):evRead P (bare o.op o.type) tm h=evRead P o tm h:=rfl
theorem tv_run {p:Par}{Γ:Gam}{tm:VT}{h:Heap}{ca:Act}{w:World}(hr:HRel p Γ h w)(ht:Tm Γ p.NG tm ca)(hsc:∀ x∈tm.arr.toList,sc h.next x=true){o:Oper}
  (hop:o.op.operands.all (okOpd p.NG)=true) {v:Value} (he:tv p.P o.op o.type tm h=some v):(execOp ca.eval o).run p.P w=.ok (.value (con Γ v)) w∧sc h.next v=true:=by
 rcases tv_sound he with he|he
 ·rw[evPure_bare] at he
  exact ⟨evPure_run ht hop he w,evPure_sc hr hsc hop he⟩
 ·rw[evRead_bare] at he
  exact ⟨evRead_run hr ht hop he,evRead_sc hr hsc hop he⟩
theorem tw_run {p:Par}{Γ:Gam}{tm:VT}{h:Heap}{ca:Act}{w:World}(hr:HRel p Γ h w)(ht:Tm Γ p.NG tm ca)(hsc:∀ x∈tm.arr.toList,sc h.next x=true){o:Oper}
  (hop:o.op.operands.all (okOpd p.NG)=true) {v1 v2:Value} (he:tw p.P o.op tm h=some (v1,v2)) :
  ∃ b:Bool,(∀ Γ' h' w',Ag Γ Γ' h.next→h.next≤h'.next→HRel p Γ' h' w'→tw p.P o.op tm h'=some (v1,v2)→(execOp ca.eval o).run p.P w'=.ok (.value (con Γ' (if b then v1 else v2))) w')∧sc h.next v1=true∧sc h.next v2=true:=by
 have hng:p.NG≤h.next:=by have:=hr.ng;have:=hr.gn;omega
 unfold tw at he
 split at he
 ·rename_i ty x lo hi mx ho
  have hscv:sc h.next (ev tm x)=true:=ev_sc hr hsc (by
   rw[Array.all_eq_true_iff_forall_mem] at hop;exact hop x (by simp[ho,Op.operands]))
  obtain ⟨b,hb⟩:=tailV_run hr he
  refine ⟨b,λΓ' h' w' hag hle hr' he'=>?_,tailV_sc hscv he⟩
  have ht':=ht.ag hsc hag hng
  have hev:∀ x∈o.op.operands,ca.eval x=con Γ' (ev tm x):=λx hx=>ht'.eval (by
   rw[Array.all_eq_true_iff_forall_mem] at hop;exact hop x hx)
  have hx:=hev x (by simp[ho,Op.operands])
  have hlo:lo.map ca.eval=(lo.map (ev tm)).map (con Γ'):=by
   cases lo with
   | none=>rfl
   | some y=>simp[hev y (by simp[ho,Op.operands])]
  have hhi:hi.map ca.eval=(hi.map (ev tm)).map (con Γ'):=by
   cases hi with
   | none=>rfl
   | some y=>simp[hev y (by simp[ho,Op.operands])]
  have hmx:mx.map ca.eval=(mx.map (ev tm)).map (con Γ'):=by
   cases mx with
   | none=>rfl
   | some y=>simp[hev y (by simp[ho,Op.operands])]
  have he2:tailV p.P ty (ev tm x) (lo.map (ev tm)) (hi.map (ev tm)) (mx.map (ev tm)) h'=some (v1,v2):=by rw[ho] at he';exact he'
  have:=hb Γ' h' w' hag hr' he2
  simp only[execOp,ho,hx,hlo,hhi,hmx,Sem.run_bind,this,Result.andThen_ok,Sem.run_pure]
 ·cases he
theorem vop_run {p:Par}{Γ:Gam}{tm:VT}{h:Heap}{ca:Act}{w:World}(hr:HRel p Γ h w)(ht:Tm Γ p.NG tm ca)(hsc:∀ x∈tm.arr.toList,sc h.next x=true){o:Oper}(hoo:okOper p.NG o=true)
  {c:Cl} {R:Value→Heap→Prop} (hv:vop p c o.op o.type tm h R) {F:Fence} (hF:FW F) {n:Nat} {K:Act→World→Prop} {Q:Exit→Act→World→Prop}
  (hK:∀ (v:Value) (h':Heap) (Γ':Gam) (w':World),R v h'→Ag Γ Γ' h.next→h.next≤h'.next→Below p.B w w'→HRel p Γ' h' w'→sc h'.next v=true→K (ca.put o.dst (con Γ' v)) w') :
  o.uponIn F n p.P ca K Q ((execOp ca.eval o).run p.P w):=by
 have hop:o.op.operands.all (okOpd p.NG)=true:=by simp only[okOper,Bool.and_eq_true] at hoo;exact hoo.1
 unfold vop at hv
 split at hv
 ·unfold oT at hv
  split at hv
  ·rename_i v he
   obtain ⟨hrun,hs⟩:=tv_run hr ht hsc hop he
   rw[hrun]
   exact hK v h Γ w hv (Ag.refl _ _) (Nat.le_refl _) (Below.refl _ _) hr hs
  ·split at hv
   ·rename_i v1 v2 he
    obtain ⟨b,hrun,hs1,hs2⟩:=tw_run hr ht hsc hop he
    have hrun:=hrun Γ h w (Ag.refl _ _) (Nat.le_refl _) hr he
    rw[hrun]
    cases b with
    | true=>exact hK v1 h Γ w hv.1 (Ag.refl _ _) (Nat.le_refl _) (Below.refl _ _) hr hs1
    | false=>exact hK v2 h Γ w hv.2 (Ag.refl _ _) (Nat.le_refl _) (Below.refl _ _) hr hs2
   ·exact hv.elim
 ·unfold oE at hv
  split at hv
  ·rename_i v h' he
   have he':evEff p.P o tm h=some (v,h'):=te_sound he
   have hs:=evEff_sc hr hsc hop he'
   obtain ⟨Γ',w',nx,h1,h2,h3,h4,h5,h6⟩:=evEff_run hr ht hop he'
   rw[h1]
   rcases h2 with rfl|⟨rfl,rfl⟩
   ·exact hK v h' Γ' w' hv h3 h4 h6.below h5 hs
   ·exact hK undef h' Γ' w' hv h3 h4 h6.below h5 hs
  ·exact hv.elim
 ·split at hv
  ·rename_i f args ats ho
   have hev:∀ x∈o.op.operands,ca.eval x=con Γ (ev tm x):=λx hx=>ht.eval (by
    rw[Array.all_eq_true_iff_forall_mem] at hop;exact hop x hx)
   have hscv:∀ x∈o.op.operands,sc h.next (ev tm x)=true:=λx hx=>ev_sc hr hsc (by
    rw[Array.all_eq_true_iff_forall_mem] at hop;exact hop x hx)
   have hf:=hev f (by simp[ho,Op.operands,Call.operands])
   have hargs:args.map ca.eval=⟨(args.toList.map (ev tm)).map (con Γ)⟩:=by
    apply Array.ext'
    simp only[Array.toList_map,List.map_map]
    apply List.map_congr_left
    intro y hy
    exact hev y (by simp[ho,Op.operands,Call.operands];exact .inr (by simpa using hy))
   unfold CallV at hv
   split at hv
   ·rename_i g captured hfe
    have hrun:(execOp ca.eval o).run p.P w=(callFunc g ⟨(args.toList.map (ev tm)++captured).map (con Γ)⟩).run p.P w:=by
     simp only[execOp,ho,resolve,hf,hfe,con_func,conFn,Deferred.ofValue,Sem.run_bind,Sem.run_pure,Result.andThen_ok,invoke,hargs]
     simp
    rw[hrun]
    refine hv Γ w hr ?_ o F hF n ca K Q hK
    intro x hx
    simp only[List.mem_append,List.mem_map] at hx
    rcases hx with ⟨y,hy,rfl⟩|hx
    ·exact hscv y (by simp[ho,Op.operands,Call.operands];exact .inr (by simpa using hy))
    ·have:=hscv f (by simp[ho,Op.operands,Call.operands])
     rw[hfe] at this
     simp only[sc,Bool.and_eq_true] at this
     exact scL_all this.2 x hx
   ·rename_i l captured hfe
    have hrun:(execOp ca.eval o).run p.P w=(Instr.yield (Γ.b l) ⟨(args.toList.map (ev tm)).map (con Γ)⟩).run p.P w:=by
     simp only[execOp,ho,resolve,hf,hfe,con_func,conFn,Deferred.ofValue,Sem.run_bind,Sem.run_pure,Result.andThen_ok,invoke,hargs]
     simp
    rw[hrun]
    refine hv Γ w hr ?_ o F hF n ca K Q hK
    intro x hx
    simp only[List.mem_map] at hx
    obtain ⟨y,hy,rfl⟩:=hx
    exact hscv y (by simp[ho,Op.operands,Call.operands];exact .inr (by simpa using hy))
   ·exact hv.elim
  ·exact hv.elim
 ·unfold oL at hv
  split at hv
  ·rename_i l he
   have hev:∀ x∈o.op.operands,ca.eval x=con Γ (ev tm x):=λx hx=>ht.eval (by
    rw[Array.all_eq_true_iff_forall_mem] at hop;exact hop x hx)
   obtain ⟨v,h',hm,⟨Γ',w',nx,h1,h2,h3,h4,h5,h6⟩,hs⟩:=mapE_run hr hev he
   have hv:=hv _ hm
   rw[h1]
   rcases h2 with rfl|⟨rfl,rfl⟩
   ·exact hK v h' Γ' w' hv h3 h4 h6.below h5 hs
   ·exact hK undef h' Γ' w' hv h3 h4 h6.below h5 hs
  ·exact hv.elim
structure NextK (p:Par)(Γ:Gam)(h:Heap)(w:World)(df:List Deferred)(K:VT→Heap→Prop)(Q:Act→World→Prop):Prop where
 go:∀ tm' h' Γ' ca' w',K tm' h'→Ag Γ Γ' h.next→h.next≤h'.next→Below p.B w w'→HRel p Γ' h' w'→Tm Γ' p.NG tm' ca'→(∀ x∈tm'.arr.toList,sc h'.next x=true)→ca'.defers=df→Q ca' w'
theorem NextK.step {p:Par}{Γ Γ':Gam}{h h1:Heap}{w w':World}{df:List Deferred}{K:VT→Heap→Prop}{Q:Act→World→Prop}(hn:NextK p Γ h w df K Q)
  (hg:Ag Γ Γ' h.next) (hle:h.next≤h1.next) (hb:Below p.B w w'):NextK p Γ' h1 w' df K Q:=
 ⟨λtm' h' Γ'' ca' w'' hk hg' hle' hb' hr' ht' hs' hd'=>hn.go tm' h' Γ'' ca' w'' hk (hg.trans hg' hle) (by omega) (hb.trans hb') hr' ht' hs' hd'⟩
theorem vops_run {p:Par}{ops:Array Oper}(hops:∀ o∈ops.toList,okOper p.NG o=true){F:Fence}(hF:FW F){n:Nat}{Q:Exit→Act→World→Prop}{df:List Deferred}{K:VT→Heap→Prop} :
  ∀ (l:List Oper) (k:Nat) (xs:List It) (tm:VT) (h:Heap),ops.toList.drop k=l→itemsOf p.P ops l=some xs→vops p xs tm h K→
  ∀ (Γ:Gam) (ca:Act) (w:World),HRel p Γ h w→Tm Γ p.NG tm ca→(∀ x∈tm.arr.toList,sc h.next x=true)→ca.defers=df→NextK p Γ h w df K (λa w=>Q .normal a w)→
  wpOpsIn F n p.P ops Q (List.range' k l.length) ca w:=by
 intro l
 induction l with
 | nil=>
  intro k xs tm h _ hxs he Γ ca w hr ht hs hd hn
  cases hxs
  simp only[List.length_nil,List.range'_zero,wpOpsIn]
  exact hn.go tm h Γ ca w he (Ag.refl _ _) (Nat.le_refl _) (Below.refl _ _) hr ht hs hd
 | cons o rest ih=>
  intro k xs tm h hl hxs he Γ ca w hr ht hs hd hn
  have hk:ops[k]?=some o:=by
   rw[← Array.getElem?_toList]
   have:(ops.toList.drop k)[0]?=some o:=by rw[hl];rfl
   simpa using this
  have hrest:ops.toList.drop (k+1)=rest:=by
   have:(ops.toList.drop k).drop 1=rest:=by rw[hl];rfl
   simpa[List.drop_drop,Nat.add_comm] using this
  have hoo:okOper p.NG o=true:=hops o (by rw[← Array.getElem?_toList] at hk;exact List.mem_of_getElem? hk)
  have hpl:=okOper_plain hoo
  simp only[itemsOf] at hxs
  split at hxs<;>cases hxs
  rename_i x xs hx hxs
  obtain ⟨e1,e2,e3,e4⟩:=It.of_eq hx
  simp only[vops] at he
  simp only[List.length_cons,List.range'_succ,wpOpsIn,hk]
  have hw:=wanted_eq ht ops o
  have hng:p.NG≤h.next:=by have:=hr.ng;have:=hr.gn;omega
  rcases vgd_spec hx he with ⟨hwt,he⟩|⟨hwt,he⟩
  ·rw[hwt] at hw
   simp only[Option.getD_some] at hw
   simp only[hw,if_true]
   refine ⟨λf _=>hF.fn f,?_⟩
   rw[Oper.semAt_eq _ _ _ hpl.1]
   rw[e3,e4] at he
   refine vop_run hr ht hs hoo he hF λv h1 Γ' w' hv hg hle hbel hr' hsv=>?_
   rw[e1] at hv
   exact ih (k+1) xs _ h1 hrest hxs hv Γ' _ w' hr' (ht.put hs hg hng o.dst v) (sc_put ht.sm hs hle o.dst hsv) (by rw[put_defers];exact hd) (hn.step hg hle hbel)
  ·rw[hwt] at hw
   simp only[Option.getD_some] at hw
   simp only[hw,Bool.false_eq_true,if_false]
   refine ⟨λf _=>hF.fn f,?_⟩
   have:=ht.put hs (Ag.refl Γ h.next) hng o.dst undef
   rw[con_undef] at this
   rw[e1] at he
   exact ih (k+1) xs _ h hrest hxs he Γ _ w hr this (sc_put ht.sm hs (Nat.le_refl _) o.dst rfl) (by rw[put_defers];exact hd) hn
def HeldY (p:Par)(Γ:Gam)(n:Nat)(ops:Array Oper)(dn:List Nat)(L:HL)(Lc:List (Nat×Sem Go.Next×Value)):Prop:=
 ∀ x∈Lc,¬ noBind .any ops dn x.1∨∃ rd v,(x.1,rd,v)∈L∧∀ Γ' h' w',Ag Γ Γ' n→n≤h'.next→HRel p Γ' h' w'→rd h'=some v→x.2.1.run p.P w'=.ok (.value x.2.2) w'
theorem HeldY.ag {p:Par}{Γ Γ':Gam}{n m:Nat}(hg:Ag Γ Γ' n)(hn:n≤m){ops:Array Oper}{dn:List Nat}{L:HL}{Lc:List (Nat×Sem Go.Next×Value)}(h:HeldY p Γ n ops dn L Lc):HeldY p Γ' m ops dn L Lc:=λx hx=>by
 rcases h x hx with h1|⟨rd,v,h1,h2⟩
 ·exact .inl h1
 ·exact .inr ⟨rd,v,h1,λΓ'' h' w' hg' hle' hr' he=>h2 Γ'' h' w' (hg.trans hg' hn) (by omega) hr' he⟩
theorem HeldY.cons {p:Par}{Γ:Gam}{n:Nat}{ops:Array Oper}{dn:List Nat}{L:HL}{Lc:List (Nat×Sem Go.Next×Value)}(h:HeldY p Γ n ops dn L Lc){i:Nat}{rd:Heap→Option Value}{v u:Value}{s:Sem Go.Next}
  (hr:∀ Γ' h' w',Ag Γ Γ' n→n≤h'.next→HRel p Γ' h' w'→rd h'=some v→s.run p.P w'=.ok (.value u) w'):HeldY p Γ n ops dn ((i,rd,v) :: L) ((i,s,u) :: Lc):=λx hx=>by
 rcases List.mem_cons.1 hx with rfl|hx
 ·exact .inr ⟨rd,v,List.mem_cons_self ..,hr⟩
 ·rcases h x hx with h1|⟨rd,v,h1,h2⟩
  ·exact .inl h1
  ·exact .inr ⟨rd,v,List.mem_cons_of_mem _ h1,h2⟩
theorem bind1_mem {o:Oper}{i:Nat}(h:i∈bind1 o):∃ e∈o.after,Region.binds .any e=true∧e.on=i:=by
 simp only[bind1,List.mem_map,List.mem_filter] at h
 obtain ⟨e,⟨h1,h2⟩,h3⟩:=h
 exact ⟨e,by simpa using h1,h2,h3⟩
theorem bindC_mem {ops:Array Oper}{k:Nat}:∀ (n:Nat) (todo acc:List Nat),(∀ i∈todo,Beh .any ops k i)→(∀ i∈acc,Beh .any ops k i)→∀ i∈bindC ops n todo acc,Beh .any ops k i
 | 0,_,_,_,ha=>ha
 | _+1,[],_,_,ha=>ha
 | n+1,j :: todo,acc,ht,ha=>by
  have ht':∀ i∈todo,Beh .any ops k i:=λi hi=>ht i (List.mem_cons_of_mem _ hi)
  have hj:=ht j (List.mem_cons_self ..)
  unfold bindC
  split
  ·exact bindC_mem n _ _ ht' ha
  ·split
   ·exact bindC_mem n _ _ ht' ha
   ·rename_i oj hoj
    refine bindC_mem n _ _ (λi hi=>?_) (λi hi=>?_)
    ·rcases List.mem_append.1 hi with hi|hi
     ·obtain ⟨e,h1,h2,rfl⟩:=bind1_mem hi
      exact hj.snoc hoj h1 h2
     ·exact ht' i hi
    ·rcases List.mem_cons.1 hi with rfl|hi
     ·exact hj
     ·exact ha i hi
theorem bindOf_mem {ops:Array Oper}{k:Nat}{o:Oper}(hk:ops[k]?=some o){i:Nat}(h:(bindOf ops o).contains i=true):Beh .any ops k i:=by
 rw[List.contains_iff_mem] at h
 refine bindC_mem 1000 _ _ (λi hi=>?_) (λi hi=>(by cases hi)) i h
 obtain ⟨e,h1,h2,rfl⟩:=bind1_mem hi
 exact .one hk h1 h2
theorem keptP_mem {b:List Nat}{h:Heap}:∀ {L:HL},keptP b h L→∀ {i:Nat} {rd:Heap→Option Value} {v:Value},(i,rd,v)∈L→b.contains i=false→rd h=some v
 | [],_,_,_,_,hm,_=>by cases hm
 | (i',rd',v') :: L,hk,i,rd,v,hm,hc=>by
  simp only[keptP] at hk
  rcases List.mem_cons.1 hm with e|hm
  ·cases e
   have h2:=hk.1
   rw[hc] at h2
   exact h2
  ·exact keptP_mem hk.2 hm hc
theorem noBind_cons {ops:Array Oper}{dn:List Nat}{j i:Nat}(h:noBind .any ops (j :: dn) i):noBind .any ops dn i:=λk hk=>h k (List.mem_cons_of_mem _ hk)
theorem keptP_run {p:Par}{Γ:Gam}{h:Heap}{w:World}{n:Nat}(hr:HRel p Γ h w)(hn:n≤h.next){ops:Array Oper}{j:Nat}{o:Oper}(hj:ops[j]?=some o){dn:List Nat}{L:HL}{Lc:List (Nat×Sem Go.Next×Value)}(hy:HeldY p Γ n ops dn L Lc)(hk:keptP (bindOf ops o) h L) :
  HeldX p.P ops Lc (j :: dn) w:=λx hx hno=>by
 rcases hy x hx with h1|⟨rd,v,h1,h2⟩
 ·exact absurd (noBind_cons hno) h1
 ·cases hc:(bindOf ops o).contains x.1 with
  | true=>
   exact absurd (bindOf_mem hj hc) (hno j (List.mem_cons_self ..))
  | false=>exact h2 Γ h w (Ag.refl _ _) hn hr (keptP_mem hk h1 hc)
theorem HeldY.step {p:Par}{Γ:Gam}{n:Nat}{ops:Array Oper}{dn:List Nat}{L:HL}{Lc:List (Nat×Sem Go.Next×Value)}(h:HeldY p Γ n ops dn L Lc){j:Nat}{o:Oper}(hj:ops[j]?=some o):HeldY p Γ n ops (j :: dn) (dropB (bindOf ops o) L) Lc:=λx hx=>by
 rcases h x hx with h1|⟨rd,v,h1,h2⟩
 ·exact .inl λhh=>h1 (noBind_cons hh)
 ·cases hc:(bindOf ops o).contains x.1 with
  | true=>
   exact .inl λhh=>hh j (List.mem_cons_self ..) (bindOf_mem hj hc)
  | false=>exact .inr ⟨rd,v,List.mem_filter.2 ⟨h1,by simp only[hc];rfl⟩,h2⟩
theorem foldr_eff {P:Program}{ops:Array Oper}{m:Nat→PT}{p:Par}{L:HL}{tm:VT}{h:Heap}{K:VT→Heap→Prop}:∀ (l:List Nat),
  vplan p (l.foldr (fun r alt => match ops[r]? with
    | some o=>match It.of P ops o with
     | some x=>.eff r x (bindOf ops o) (m r) alt
     | none=>.bad
    | none=>.bad) .no) L tm h K→∀ r∈l,∃ o x,ops[r]?=some o∧It.of P ops o=some x∧
     vgd tm x.g (vop p x.c x.o x.t tm h λv h'=>keptP (bindOf ops o) h' L∧vplan p (m r) (dropB (bindOf ops o) L) (put tm x.d v) h' K) (vplan p (m r) (dropB (bindOf ops o) L) (put tm x.d undef) h K)
 | [],_,r,hr=>by cases hr
 | a :: l,hv,r,hr=>by
  simp only[List.foldr_cons] at hv
  split at hv
  ·rename_i o ho
   split at hv
   ·rename_i x hx
    simp only[vplan] at hv
    rcases List.mem_cons.1 hr with rfl|hr
    ·exact ⟨o,x,ho,hx,hv.1⟩
    ·exact foldr_eff l hv.2 r hr
   ·exact hv.elim
  ·exact hv.elim
theorem vplan_run {p:Par}{ops:Array Oper}(hops:∀ o∈ops.toList,okOper p.NG o=true){F:Fence}(hF:FW F){n:Nat}{Q:Exit→Act→World→Prop}
  (hQ:∀ c a a' w,Q (.panic c) a w→Q (.panic c) a' w) {df:List Deferred} {K:VT→Heap→Prop} :
  ∀ (fuel:Nat) (listed:Array Bool) (dn:List Nat) (L:HL) (tm:VT) (h:Heap),closedX .any ops listed dn→vplan p (mkPT p.P ops fuel listed) L tm h K→
  ∀ (Γ:Gam) (ca:Act) (w:World) (Lc:List (Nat×Sem Go.Next×Value)),HRel p Γ h w→Tm Γ p.NG tm ca→(∀ x∈tm.arr.toList,sc h.next x=true)→ca.defers=df→HeldY p Γ h.next ops dn L Lc→
  NextK p Γ h w df K (λa w=>Q .normal a w)→
  anyX F n p.P .any ops Q (HeldX p.P ops Lc) fuel listed dn ca w:=by
 intro fuel
 have hsel:Region.noSelect ops=true:=by
  simp only[Region.noSelect,Array.all_eq_true_iff_forall_mem]
  intro o ho
  have:=okOper_plain (hops o (by simpa using ho))
  split
  ·rename_i cs b hc;exact absurd hc (this.2 cs b)
  ·rfl
 induction fuel with
 | zero=>
  intro listed dn L tm h hcl he Γ ca w Lc hr ht hs hd hL hn
  simp only[mkPT] at he
  split at he
  ·rename_i hrd
   exact ⟨hrd,hn.go tm h Γ ca w he (Ag.refl _ _) (Nat.le_refl _) (Below.refl _ _) hr ht hs hd⟩
  ·exact he.elim
 | succ fuel ih=>
  intro listed dn L tm h hcl he Γ ca w Lc hr ht hs hd hL hn
  have hng:p.NG≤h.next:=by have:=hr.ng;have:=hr.gn;omega
  simp only[mkPT] at he
  split at he
  ·rename_i hrd
   exact ⟨λ_=>hn.go tm h Γ ca w he (Ag.refl _ _) (Nat.le_refl _) (Below.refl _ _) hr ht hs hd,λi hi=>by rw[hrd] at hi;cases hi⟩
  ·rename_i r rs hrd
   split at he
   ·rename_i i o hff
    obtain ⟨hi,hio,hfree,_⟩:=firstFree_spec hff
    have hoo:okOper p.NG o=true:=hops o (by rw[← Array.getElem?_toList] at hio;exact List.mem_of_getElem? hio)
    have hop:o.op.operands.all (okOpd p.NG)=true:=by simp only[okOper,Bool.and_eq_true] at hoo;exact hoo.1
    have hw:=wanted_eq ht ops o
    rw[← hrd] at hi
    split at he
    case h_2=>exact he.elim
    rename_i x hx
    obtain ⟨e1,e2,e3,e4⟩:=It.of_eq hx
    simp only[vplan] at he
    rcases vgd_spec hx he with ⟨hwt,he⟩|⟨hwt,he⟩
    ·rw[hwt] at hw
     rw[e1,e3,e4] at he
     cases hrdb:isRd o.op with
     | false=>
      rw[hrdb] at he
      simp only at he
      unfold oP at he
      split at he
      case h_2=>exact he.elim
      rename_i v hv
      have hv':evPure p.P o tm=some v:=tp_sound hv
      have hscv:=evPure_sc hr hs hop hv'
      refine anyX_take (v:=con Γ v) (T:=λ_=>True) hio hsel hfree hi hcl (λc a w hq=>hQ _ _ _ _ hq) (λd d' w hd=>HeldX.mono hd) (λ_ _ _ _=>trivial) (.inl ⟨hw,λw _=>evPure_run ht hop hv' w⟩) trivial ?_
      exact ih _ _ L _ h (hcl.list hi) he Γ _ w Lc hr (ht.put hs (Ag.refl Γ h.next) hng o.dst v) (sc_put ht.sm hs (Nat.le_refl _) o.dst hscv) (by rw[put_defers];exact hd) hL hn
     | true=>
      rw[hrdb] at he
      simp only at he
      split at he
      case h_2=>
       split at he
       case h_2=>exact he.elim
       rename_i v1 v2 hv
       obtain ⟨b,hrun,hs1,hs2⟩:=tw_run hr ht hs hop hv
       have hrun0:=hrun Γ h w (Ag.refl _ _) (Nat.le_refl _) hr hv
       have hscv:sc h.next (if b then v1 else v2)=true:=by cases b<;>assumption
       refine anyX_mono (S:=HeldX p.P ops ((i,execOp ca.eval o,con Γ (if b then v1 else v2)) :: Lc)) (λj w hh x hx=>hh x (List.mem_cons_of_mem _ hx)) _ _ _ _ _ ?_
       refine anyX_take (v:=con Γ (if b then v1 else v2)) (T:=λw=>(execOp ca.eval o).run p.P w=.ok (.value (con Γ (if b then v1 else v2))) w) hio hsel hfree hi hcl (λc a w hq=>hQ _ _ _ _ hq) (λd d' w hd=>HeldX.mono hd)
        (λdn w hno hS=>hS _ (List.mem_cons_self ..) hno) (.inl ⟨hw,λw hh=>hh⟩) hrun0 ?_
       have hinv:∀ h',(∃ u,tw p.P o.op tm h'=some u)→tw p.P o.op tm h'=some (v1,v2):=λh' hu=>by
        obtain ⟨u,hu⟩:=hu
        rw[hu]
        have h1:=hv
        unfold tw at h1 hu
        split at h1
        ·rename_i ho
         simp only[ho] at hu
         unfold tailV at h1 hu
         split at h1
         ·rename_i hx hmx
          simp only[hx,hmx] at hu
          split at h1
          ·rename_i hun hc
           split at h1
           ·rename_i hsz
            split at h1
            ·rename_i hbd
             split at h1<;>cases h1
             split at hu
             ·rename_i hun' hc'
              rw[hun] at hun'
              cases hun'
              rw[hsz] at hu
              simp only[hbd] at hu
              split at hu<;>cases hu
              rfl
             ·cases hu
            ·cases h1
           ·cases h1
          ·cases h1
         ·cases h1
        ·cases h1
       cases b with
       | true=>
        refine ih _ _ _ _ h (hcl.list hi) he.1 Γ _ w _ hr (ht.put hs (Ag.refl Γ h.next) hng o.dst v1) (sc_put ht.sm hs (Nat.le_refl _) o.dst hs1) (by rw[put_defers];exact hd) (hL.cons λΓ' h' w' hg hle hr' he'=>?_) hn
        have h2:=hrun Γ' h' w' hg hle hr' (hinv h' (by
         have he':Option.map _ (tw p.P o.op tm h')=_:=he'
         cases htw:tw p.P o.op tm h' with
         | none=>rw[htw] at he';cases he'
         | some u=>exact ⟨u,rfl⟩))
        rw[h2]
        simp only[if_true,con_ag hg v1 hs1]
       | false=>
        refine ih _ _ _ _ h (hcl.list hi) he.2 Γ _ w _ hr (ht.put hs (Ag.refl Γ h.next) hng o.dst v2) (sc_put ht.sm hs (Nat.le_refl _) o.dst hs2) (by rw[put_defers];exact hd) (hL.cons λΓ' h' w' hg hle hr' he'=>?_) hn
        have h2:=hrun Γ' h' w' hg hle hr' (hinv h' (by
         have he':Option.map _ (tw p.P o.op tm h')=_:=he'
         cases htw:tw p.P o.op tm h' with
         | none=>rw[htw] at he';cases he'
         | some u=>exact ⟨u,rfl⟩))
        rw[h2]
        simp only[Bool.false_eq_true,if_false,con_ag hg v2 hs2]
      rename_i v hv
      obtain ⟨hrun,hscv⟩:=tv_run hr ht hs hop hv
      refine anyX_mono (S:=HeldX p.P ops ((i,execOp ca.eval o,con Γ v) :: Lc)) (λj w hh x hx=>hh x (List.mem_cons_of_mem _ hx)) _ _ _ _ _ ?_
      refine anyX_take (v:=con Γ v) (T:=λw=>(execOp ca.eval o).run p.P w=.ok (.value (con Γ v)) w) hio hsel hfree hi hcl (λc a w hq=>hQ _ _ _ _ hq) (λd d' w hd=>HeldX.mono hd)
       (λdn w hno hS=>hS _ (List.mem_cons_self ..) hno) (.inl ⟨hw,λw hh=>hh⟩) hrun ?_
      refine ih _ _ _ _ h (hcl.list hi) he Γ _ w _ hr (ht.put hs (Ag.refl Γ h.next) hng o.dst v) (sc_put ht.sm hs (Nat.le_refl _) o.dst hscv) (by rw[put_defers];exact hd) (hL.cons λΓ' h' w' hg hle hr' he'=>?_) hn
      have:=(tv_run hr' (ht.ag hs hg hng) (λx hx=>sc_mono hle x (hs x hx)) hop he').1
      rw[this,con_ag hg v hscv]
    ·rw[hwt] at hw
     refine anyX_take (v:=undef) (T:=λ_=>True) hio hsel hfree hi hcl (λc a w hq=>hQ _ _ _ _ hq) (λd d' w hd=>HeldX.mono hd) (λ_ _ _ _=>trivial) (.inr ⟨hw,rfl⟩) trivial ?_
     have hput:=ht.put hs (Ag.refl Γ h.next) hng o.dst undef
     rw[con_undef] at hput
     rw[e1] at he
     exact ih _ _ L _ h (hcl.list hi) he Γ _ w Lc hr hput (sc_put ht.sm hs (Nat.le_refl _) o.dst rfl) (by rw[put_defers];exact hd) hL hn
   ·refine ⟨λh0=>(by rw[hrd] at h0;cases h0),λi hi=>?_⟩
    rw[hrd] at hi
    obtain ⟨o,x,hio,hx,he⟩:=foldr_eff (m:=λr=>mkPT p.P ops fuel (listed.setIfInBounds r true)) _ he i hi
    have hoo:okOper p.NG o=true:=hops o (by rw[← Array.getElem?_toList] at hio;exact List.mem_of_getElem? hio)
    have hw:=wanted_eq ht ops o
    obtain ⟨e1,e2,e3,e4⟩:=It.of_eq hx
    unfold opW
    simp only[hio]
    rcases vgd_spec hx he with ⟨hwt,he⟩|⟨hwt,he⟩
    ·rw[hwt] at hw
     simp only[Option.getD_some] at hw
     simp only[hw,if_true]
     rw[e3,e4] at he
     refine vop_run hr ht hs hoo he hF λv h1 Γ' w' hv hg hle hbel hr' hsv=>?_
     obtain ⟨hk,hv⟩:=hv
     rw[e1] at hv
     have hL':=hL.ag hg hle
     have hi':i∈Region.ready .any ops listed:=by rw[hrd];exact hi
     exact ⟨.inl (keptP_run hr' (Nat.le_refl _) hio hL' hk),ih _ _ _ _ h1 (hcl.step hi') hv Γ' _ w' Lc hr' (ht.put hs hg hng o.dst v) (sc_put ht.sm hs hle o.dst hsv) (by rw[put_defers];exact hd) (hL'.step hio) (hn.step hg hle hbel)⟩
    ·rw[hwt] at hw
     simp only[Option.getD_some] at hw
     simp only[hw,Bool.false_eq_true,if_false]
     have hput:=ht.put hs (Ag.refl Γ h.next) hng o.dst undef
     rw[con_undef] at hput
     rw[e1] at he
     have hi':i∈Region.ready .any ops listed:=by rw[hrd];exact hi
     exact ⟨.inr trivial,ih _ _ _ _ h (hcl.step hi') he Γ _ w Lc hr hput (sc_put ht.sm hs (Nat.le_refl _) o.dst rfl) (by rw[put_defers];exact hd) (hL.step hio) hn⟩
theorem vc_run {p:Par}(good:GoodP p){ro:Option Nat}:∀ (c:Code) (s:S) (R:XExit→S→Prop),vc p ro (comp p.P c) s R→WP p ro c s R
 | .skip,s,R,h=>WP.skip h
 | .label l,s,R,h=>WP.label h
 | .exit i,s,R,h=>WP.exit h
 | .goto l,s,R,h=>WP.goto h
 | .ret,s,R,h=>WP.ret h
 | .refuse _,s,R,h=>h.elim
 | .seq a b, s, R, h => WP.seq (vc_run good a s _ h |>.mono fun e s' hr => by
   cases e with
   | normal=>exact vc_run good b s' R hr
   | exit i=>exact hr
   | goto l=>exact hr
   | ret=>exact hr)
 | .cond x a b,s,R,h=>by
  simp only[comp,vc] at h
  unfold vcond at h
  split at h
  ·rename_i v hv
   exact WP.cond hv (λe=>vc_run good a s R (h.1 e)) (λe=>vc_run good b s R (h.2 e))
  ·exact h.elim
 | .block i b,s,R,h=>WP.block (vc_run good b s _ h)
 | .loop b,s,R,h=>h _ rfl
 | .scope b,s,R,h=>WP.scope h
 | .rangeFunc g ps a b,s,R,h=>h _ rfl
 | .region id ops draw,s,R,h=>by
  intro hok Γ ca w hst F n Q hF hro hl hQ
  simp only[okCode,Array.all_eq_true_iff_forall_mem] at hok
  have hops:∀ o∈ops.toList,okOper p.NG o=true:=λo ho=>hok o (by simpa using ho)
  refine codeW_of (by simp) ?_
  cases draw with
  | false=>
   simp only[comp] at h
   split at h
   case h_2=>exact h.elim
   rename_i xs hxs
   refine wpIn_region ?_
   have:=vops_run hops hF (n:=n) (Q:=Q) (df:=ca.defers) (K:=λtm h=>R .normal ⟨tm,s.df,h⟩) ops.toList 0 xs s.tm s.h (by simp) hxs h Γ ca w hst.hr hst.tm hst.sc rfl
    ⟨λtm' h' Γ' ca' w' hk hg hle hb hr ht hs hd=>hQ _ _ Γ' ca' w' hk hg hle hb ⟨ht,hs,hst.df_ag hg hle hd,hr⟩⟩
   rw[List.range_eq_range']
   simpa using this
  | true=>
   have h:vplan p (mkPT p.P ops ops.size (Array.replicate ops.size false)) [] s.tm s.h (λtm h=>R .normal ⟨tm,s.df,h⟩):=h
   have hnd:noDefer ops:=λj o c hj=>(okOper_plain (hops o (by rw[← Array.getElem?_toList] at hj;exact List.mem_of_getElem? hj))).1 c
   have hq:(Code.region id ops true).wpIn F n p.P (λe a w=>(∀ c,e≠.panic c)∧Q e a w) ca w:=by
    refine wpIn_region_anyX (S:=HeldX p.P ops []) hF hnd good.mixed ?_
    refine vplan_run hops hF (λc a a' w h=>absurd rfl (h.1 c)) ops.size _ [] [] s.tm s.h ⟨λk ok hok hk=>by
     have hlt:k<ops.size:=by
      rcases Nat.lt_or_ge k ops.size with h'|h'
      ·exact h'
      ·rw[Array.getElem?_eq_none h'] at hok;cases hok
     simp[Array.getD,hlt] at hk,λk hk=>by cases hk⟩ h Γ ca w.drew [] (hst.hr.of_heap rfl) hst.tm hst.sc rfl (λx hx=>by cases hx) ?_
    refine ⟨λtm' h' Γ' ca' w' hk hg hle hb hr ht hs hd=>⟨λc h=>(by cases h),?_⟩⟩
    exact hQ _ _ Γ' ca' w' hk hg hle ((Below.refl p.B w).drew.trans hb) ⟨ht,hs,hst.df_ag hg hle hd,hr⟩
   exact wpIn_mono hq λe a w h=>h.2
theorem W.round {p:Par}(good:GoodP p){ro:Option Nat}{b:IR}{s:S}{R:XExit→S→Prop}(h:vc p ro b s (thenR (λs2=>W p ro (.loop b) s2 R) R)):W p ro (.loop b) s R:=by
 intro c hc
 cases c with
 | loop c=>
  have hc':=hc
  simp only[comp,IR.loop.injEq] at hc
  subst hc
  refine WP.round (vc_run good c s _ h |>.mono λe s' hr=>?_)
  cases e with
  | normal=>exact hr _ rfl
  | exit i=>exact hr
  | goto l=>exact hr
  | ret=>exact hr
 | region id ops d=>
  cases d with
  | false=>simp only[comp] at hc;split at hc<;>cases hc
  | true=>cases hc
 | _=>cases hc
theorem W.range {p:Par}{ro:Option Nat}{g:Operand}{ps:Array Tmp}{a b:Code}{s:S}{R:XExit→S→Prop}{l:Nat}{mk:List Nat}{h1:Heap}(hent:evEnter ro s.tm ps a b s.h=some (l,mk,h1))
  {f:FuncId} {captured:List Value} (hgv:ev s.tm g=.func (.func f) #[] ⟨captured⟩) (hc:CallE p f (.func (.yield l) #[] #[] :: captured) h1 (leaveR l s mk R)):W p ro (.range g ps a b) s R:=by
 intro c hcc
 cases c with
 | rangeFunc g' ps' a' b'=>
  simp only[comp,IR.range.injEq] at hcc
  obtain ⟨rfl,rfl,rfl,rfl⟩:=hcc
  exact WP.range hent hgv hc
 | region id ops d=>
  cases d with
  | false=>simp only[comp] at hcc;split at hcc<;>cases hcc
  | true=>cases hcc
 | _=>cases hcc
theorem oT_mono {r:Option Value}{r2:Option (Value×Value)}{h:Heap}{k k':Value→Heap→Prop}(hv:oT r r2 h k)(hk:∀ v h',k v h'→k' v h'):oT r r2 h k':=by
 cases r with
 | none=>cases r2 with
  | none=>exact hv
  | some x=>exact ⟨hk _ _ hv.1,hk _ _ hv.2⟩
 | some v=>exact hk _ _ hv
theorem oE_mono {r:Option (Value×Heap)}{k k':Value→Heap→Prop}(hv:oE r k)(hk:∀ v h',k v h'→k' v h'):oE r k':=by
 cases r with
 | none=>exact hv
 | some v=>exact hk _ _ hv
theorem oL_mono {r:Option (List (Value×Heap))}{k k':Value→Heap→Prop}(hv:oL r k)(hk:∀ v h',k v h'→k' v h'):oL r k':=by
 cases r with
 | none=>exact hv
 | some l=>exact λx hx=>hk _ _ (hv x hx)
theorem vop_mono {p:Par}{c:Cl}{o:Op}{t:TypeId}{tm:VT}{h:Heap}{k k':Value→Heap→Prop}(hv:vop p c o t tm h k)(hk:∀ v h',k v h'→k' v h'):vop p c o t tm h k':=by
 cases c with
 | take=>exact oT_mono hv hk
 | eff=>exact oE_mono hv hk
 | mp=>exact oL_mono hv hk
 | call=>
  cases o with
  | call c=>
   obtain ⟨cl,args,ats⟩:=c
   cases cl with
   | value f=>exact CallV.mono hv hk
   | _=>exact hv
  | _=>exact hv
theorem gV_mono {v:Value}{w:Bool}{A B A' B':Prop}(h:gV v w A B)(ha:A→A')(hb:B→B'):gV v w A' B':=by
 cases v with
 | bool b=>exact ⟨λe=>ha (h.1 e),λe=>hb (h.2 e)⟩
 | _=>exact hb h
theorem vgd_mono {tm:VT}{g:Option (Nat×Bool)}{A B A' B':Prop}(h:vgd tm g A B)(ha:A→A')(hb:B→B'):vgd tm g A' B':=by
 cases g with
 | none=>exact ha h
 | some x=>exact gV_mono h ha hb
theorem vops_mono {p:Par}{K K':VT→Heap→Prop}(hK:∀ tm h,K tm h→K' tm h):∀ (l:List It) (tm:VT) (h:Heap),vops p l tm h K→vops p l tm h K'
 | [],tm,h,hv=>hK tm h hv
 | x :: l,tm,h,hv=>vgd_mono hv (λhv=>vop_mono hv λv h'=>vops_mono hK l _ h') (vops_mono hK l _ h)
theorem vplan_mono {p:Par}{K K':VT→Heap→Prop}(hK:∀ tm h,K tm h→K' tm h):∀ (t:PT) (L:HL) (tm:VT) (h:Heap),vplan p t L tm h K→vplan p t L tm h K'
 | .fin,L,tm,h,hv=>hK tm h hv
 | .no,L,tm,h,hv=>trivial
 | .bad,L,tm,h,hv=>hv
 | .take i rd x k,L,tm,h,hv=>by
  simp only[vplan] at hv ⊢
  refine vgd_mono hv (λhv=>?_) (vplan_mono hK k L _ h)
  cases rd with
  | false=>
   simp only[oP] at hv ⊢
   split
   ·rename_i hr;rw[hr] at hv;exact vplan_mono hK k _ _ h hv
   ·rename_i hr;rw[hr] at hv;exact hv
  | true=>
   cases hr:tv p.P x.o x.t tm h with
   | some v=>rw[hr] at hv;exact vplan_mono hK k _ _ h hv
   | none=>
    rw[hr] at hv
    simp only at hv ⊢
    cases hr2:tw p.P x.o tm h with
    | some v=>rw[hr2] at hv;exact ⟨vplan_mono hK k _ _ h hv.1,vplan_mono hK k _ _ h hv.2⟩
    | none=>rw[hr2] at hv;exact hv
 | .eff i x bind k alt,L,tm,h,hv=>by
  simp only[vplan] at hv ⊢
  exact ⟨vgd_mono hv.1 (λhv=>vop_mono hv λv h' hh=>⟨hh.1,vplan_mono hK k _ _ h' hh.2⟩) (vplan_mono hK k _ _ h),vplan_mono hK alt L tm h hv.2⟩
theorem vc_mono {p:Par}{ro:Option Nat}:∀ (ir:IR) (s:S) (R R':XExit→S→Prop),(∀ e s',R e s'→R' e s')→vc p ro ir s R→vc p ro ir s R'
 | .bad,s,R,R',hR,h=>h
 | .skip,s,R,R',hR,h=>hR _ _ h
 | .ret,s,R,R',hR,h=>hR _ _ h
 | .exit i,s,R,R',hR,h=>hR _ _ h
 | .goto l,s,R,R',hR,h=>hR _ _ h
 | .label l,s,R,R',hR,h=>hR _ _ h
 | .ops l,s,R,R',hR,h=>vops_mono (λtm h=>hR _ _) l _ _ h
 | .plan t,s,R,R',hR,h=>vplan_mono (λtm h=>hR _ _) t _ _ _ h
 | .seq a b, s, R, R', hR, h => vc_mono a s _ _ (fun e s' hh => by
   cases e with
   | normal=>exact vc_mono b s' R R' hR hh
   | exit i=>exact hR _ _ hh
   | goto l=>exact hR _ _ hh
   | ret=>exact hR _ _ hh) h
 | .cond x a b,s,R,R',hR,h=>by
  simp only[vc] at h ⊢
  unfold vcond at h ⊢
  split
  ·rename_i hv;simp only[hv] at h;exact ⟨λe=>vc_mono a s R R' hR (h.1 e),λe=>vc_mono b s R R' hR (h.2 e)⟩
  ·rename_i hne
   split at h
   ·rename_i hv;exact absurd hv (hne _)
   ·exact h
 | .block i b, s, R, R', hR, h => vc_mono b s _ _ (fun e s' hh => by
   cases e with
   | exit j=>
    simp only[outR] at hh ⊢
    split
    ·rename_i e;rw[if_pos e] at hh;exact hR _ _ hh
    ·rename_i e;rw[if_neg e] at hh;exact hR _ _ hh
   | normal=>exact hR _ _ hh
   | goto l=>exact hR _ _ hh
   | ret=>exact hR _ _ hh) h
 | .loop b,s,R,R',hR,h=>λc hc=>(h c hc).mono hR
 | .scope b,s,R,R',hR,h=>λh1 h2 Γ ca w hst F n Q hF hro hl hQ=>h h1 h2 Γ ca w hst F n Q hF hro hl λe s' Γ' ca' w' hr=>hQ e s' Γ' ca' w' (hR e s' hr)
 | .range g ps a b,s,R,R',hR,h=>λc hc=>(h c hc).mono hR
end
end Go.Ev
namespace Go.Ev
open Go Go.RowKit
noncomputable section
@[congr] theorem oP_congr {r r':Option Value} {h:Heap} {k:Value→Heap→Prop} (e:r=r'):oP r h k=oP r' h k:=by rw[e]
@[congr] theorem oT_congr {r r':Option Value} {q:Option (Value×Value)} {h:Heap} {k:Value→Heap→Prop} (e:r=r'):oT r q h k=oT r' q h k:=by rw[e]
def oQ (q:Option (Value×Value))(h:Heap)(k:Value→Heap→Prop):Prop:=match q with|some (a,b)=>k a h∧k b h|none=>False
@[congr] theorem oQ_congr {q q':Option (Value×Value)} {h:Heap} {k:Value→Heap→Prop} (e:q=q'):oQ q h k=oQ q' h k:=by rw[e]
def oW (q:Option (Value×Value))(k1 k2:Value→Prop):Prop:=match q with|some (a,b)=>k1 a∧k2 b|none=>False
@[congr] theorem oW_congr {q q':Option (Value×Value)} {k1 k2:Value→Prop} (e:q=q'):oW q k1 k2=oW q' k1 k2:=by rw[e]
def oR (r:Option Value)(q:Option (Value×Value))(k k1 k2:Value→Prop):Prop:=match r with
 | some v=>k v
 | none=>match q with
  | some (a,b)=>k1 a∧k2 b
  | none=>False
@[congr] theorem oR_congr {r r':Option Value} {q:Option (Value×Value)} {k k1 k2:Value→Prop} (e:r=r'):oR r q k k1 k2=oR r' q k k1 k2:=by rw[e]
@[congr] theorem oE_congr {r r':Option (Value×Heap)} {k:Value→Heap→Prop} (e:r=r'):oE r k=oE r' k:=by rw[e]
@[congr] theorem gV_congr {v v':Value} {w:Bool} {A B:Prop} (e:v=v'):gV v w A B=gV v' w A B:=by rw[e]
@[congr] theorem vcond_congr {v v':Value} {A B:Prop} (e:v=v'):vcond v A B=vcond v' A B:=by rw[e]
@[congr] theorem CallV_congr {p:Par} {f f':Value} {l l':List Value} {h:Heap} {R:Value→Heap→Prop} (e:f=f') (e2:l=l'):CallV p f l h R=CallV p f' l' h R:=by rw[e,e2]
@[congr] theorem CallW_congr {p:Par} {f:FuncId} {l l':List Value} {h:Heap} {R:Value→Heap→Prop} (e2:l=l'):CallW p f l h R=CallW p f l' h R:=by rw[e2]
@[congr] theorem CallE_congr {p:Par} {f:FuncId} {l l':List Value} {h:Heap} {R:Value→Heap→Prop} (e2:l=l'):CallE p f l h R=CallE p f l' h R:=by rw[e2]
@[congr] theorem W_congr {p:Par} {ro:Option Nat} {ir:IR} {s:S} {R:XExit→S→Prop}:W p ro ir s R=W p ro ir s R:=rfl
@[congr] theorem vc_congr {p:Par} {ro:Option Nat} {ir:IR} {s:S} {R:XExit→S→Prop}:vc p ro ir s R=vc p ro ir s R:=rfl
@[congr] theorem vplan_congr {p:Par} {t:PT} {L:HL} {tm:VT} {h:Heap} {K:VT→Heap→Prop}:vplan p t L tm h K=vplan p t L tm h K:=rfl
@[congr] theorem vops_congr {p:Par} {l:List It} {tm:VT} {h:Heap} {K:VT→Heap→Prop}:vops p l tm h K=vops p l tm h K:=rfl
@[congr] theorem YieldW_congr {p:Par} {l:Nat} {args args':List Value} {h:Heap} {R:Value→Heap→Prop} (e:args=args'):YieldW p l args h R=YieldW p l args' h R:=by rw[e]
section
variable {p:Par} {P:Program} {ro:Option Nat} {s:S} {R:XExit→S→Prop}
def endM (P:Program)(rs:List ResultVar)(R:Value→Heap→Prop)(tm:VT):Option Heap→Prop
 | some h1=>oP (evRes P rs tm h1) h1 R
 | none=>False
theorem evMarks_nil (h:Heap):evMarks [] h=some h:=rfl
theorem evRes_0 (tm:VT)(h:Heap):evRes P [] tm h=some (.tuple #[]):=rfl
theorem evRes_1 (tm:VT)(h:Heap)(t:Nat):evRes P [.tmp t] tm h=some (tm.get t):=rfl
theorem evRes_2 (tm:VT)(h:Heap)(t u:Nat):evRes P [.tmp t,.tmp u] tm h=some (.tuple #[tm.get t,tm.get u]):=rfl
theorem evRes_3 (tm:VT)(h:Heap)(t u v:Nat):evRes P [.tmp t,.tmp u,.tmp v] tm h=some (.tuple #[tm.get t,tm.get u,tm.get v]):=rfl
theorem evRes_4 (tm:VT)(h:Heap)(t u v w:Nat):evRes P [.tmp t,.tmp u,.tmp v,.tmp w] tm h=some (.tuple #[tm.get t,tm.get u,tm.get v,tm.get w]):=rfl
theorem evRes_c1 (tm:VT)(h:Heap)(a t:Nat):evRes P [.cell a t] tm h=evLoad P t (tm.get a) h:=by
 simp only[evRes,evResults.go]
 cases evLoad P t (tm.get a) h<;>rfl
variable {K:VT→Heap→Prop} {k:Value→Heap→Prop}
def keptK (A B:Prop):Prop:=A∧B
@[congr] theorem keptK_congr {A A' B:Prop} (e:A=A'):keptK A B=keptK A' B:=by rw[e]
theorem keptP_nil (b:List Nat)(h:Heap):keptP b h []=True:=rfl
theorem keptP_cons (b:List Nat)(h:Heap)(i:Nat)(rd:Heap→Option Value)(v:Value)(L:HL):keptP b h ((i,rd,v) :: L)=((i∈b∨rd h=some v)∧keptP b h L):=by
 simp only[keptP]
 cases hb:b.contains i with
 | true=>simp at hb;simp[hb]
 | false=>simp at hb;simp[hb]
theorem CallV_func (g:FuncId)(c:List Value)(args:List Value)(h:Heap):CallV p (.func (.func g) ⟨[]⟩ ⟨c⟩) args h k=CallW p g (args++c) h k:=rfl
theorem CallV_func0 (g:FuncId)(args:List Value)(h:Heap):CallV p (.func (.func g) #[] #[]) args h k=CallW p g args h k:=by
 have:=CallV_func (p:=p) (k:=k) g [] args h
 rw[List.append_nil] at this
 exact this
variable {A B:Prop}
theorem gV_tt:gV (.bool true) true A B=A:=by simp[gV]
theorem gV_tf:gV (.bool true) false A B=B:=by simp[gV]
theorem gV_ft:gV (.bool false) true A B=B:=by simp[gV]
theorem gV_ff:gV (.bool false) false A B=A:=by simp[gV]
theorem put_s (n:Nat)(l:List (Nat×Value))(i:Nat)(v:Value):put (FR n l) (some i) v=FR n ((i,v) :: l):=rfl
theorem put_n (tm:VT)(v:Value):put tm none v=tm:=rfl
theorem le_U {n:Nat}(h:n≤100000):n<U:=by unfold U;omega
theorem FR_g (n:Nat)(l:List (Nat×Value))(i:Nat)(v:Value)(j:Nat)(hn:n≤100000):(FR n ((i,v) :: l)).get j=if i=j then (if i<n then v else undef) else (FR n l).get j:=FR_get n (le_U hn) l i v j
theorem FR_g0 (n j:Nat)(hn:n≤100000):(FR n []).get j=undef:=FR_get_nil n j (le_U hn)
theorem enumA_nil (i:Nat):enumA i []=[]:=rfl
theorem enumA_cons (i:Nat)(v:Value)(l:List Value):enumA i (v :: l)=enumA (i+1) l++[(i,v)]:=rfl
variable {tm:VT} {h:Heap} {t:TypeId}
theorem ev_tmp (i:Nat):ev tm (.tmp i)=tm.get i:=rfl
theorem ev_const (v:Value):ev tm (.const v)=v:=rfl
theorem ev_func (f:FuncId):ev tm (.func f)=.func (.func f) #[] #[]:=rfl
theorem ev_global (g:Nat):ev tm (.global g)=.pointer (some ⟨g,0,none⟩):=rfl
theorem pv_bind {α β:Type}(P:Program)(f:α→Sem β):∀ s:Sem α,pv P (s >>= f)=(pv P s).bind (λa=>pv P (f a)):=by
 intro s
 show pv P (Sem.bind s f)=_
 induction s with
 | pure a=>rfl
 | program k ih=>exact ih P
 | mark m k ih=>exact ih
 | _=>rfl
theorem pv_pure {α:Type}(P:Program)(a:α):pv P (pure a:Sem α)=some a:=rfl
theorem pv_map {α β:Type}(P:Program)(f:α→β)(s:Sem α):pv P (f <$> s)=(pv P s).map f:=by
 show pv P (s >>= λa=>pure (f a))=_
 rw[pv_bind]
 cases pv P s<;>rfl
theorem pv_under {d:TypeDesc}(h:P.underlying t=some d):pv P (underlying t)=some d:=by
 simp only[underlying,pv_bind]
 simp only[program,pv,Option.bind_some,h]
 rfl
theorem pickV_t (a b:Value):pickV (.bool true) a b=some a:=rfl
theorem pickV_f (a b:Value):pickV (.bool false) a b=some b:=rfl
theorem extV_t (l:List Value)(i:Nat):extV (.tuple ⟨l⟩) i=l[i]?:=by simp[extV]
theorem unV_not (b:Bool):unV P .not (.bool b)=some (.bool (!b)):=rfl
theorem unV_neg (k:IntKind)(n:Int):unV P .neg (.int k n)=some (.int k (k.wrap (-n))):=by
 simp only[unV,pvF,flat,Op.unary,Op.intArith,pv_pure,Int.zero_sub]
theorem faV_p (o b k:Nat):faV (some o) (.pointer (some ⟨b,k,none⟩))=some (.pointer (some ⟨b,k+o,none⟩)):=by simp[faV,addr_add]
theorem fdV_a (b:Bool)(n off:Nat)(cs:List Value):fdV (some (b,n,off)) (.agg ⟨cs⟩)=partL b n cs off:=rfl
theorem partL_f (n:Nat)(cs:List Value)(off:Nat):partL false n cs off=cs[off]?:=rfl
theorem partL_t (n:Nat)(cs:List Value)(off:Nat):partL true n cs off=if off+n≤cs.length then some (.agg ⟨(cs.drop off).take n⟩) else none:=rfl
theorem iaV_s (n b o len c:Nat)(k:IntKind)(i:Int)(h0:0≤i)(hi:i<len):iaV (some (none,n)) (.slice (some ⟨b,o,none⟩) len c) (.int k i)=some (.pointer (some ⟨b,o+i.toNat*n,none⟩)):=by
 simp[iaV,h0,hi,addr_add]
theorem iaV_a (n len b o:Nat)(k:IntKind)(i:Int)(h0:0≤i)(hi:i<len):iaV (some (some len,n)) (.pointer (some ⟨b,o,none⟩)) (.int k i)=some (.pointer (some ⟨b,o+i.toNat*n,none⟩)):=by
 simp[iaV,h0,hi,addr_add]
theorem ixV_s (s:ByteArray)(k:IntKind)(i:Int)(h0:0≤i)(hi:i<s.size):ixV (some none) (.string s) (.int k i)=some (.int .u8 (byteAt s i.toNat)):=by
 simp[ixV,h0,hi]
theorem ixV_a (b:Bool)(n z len:Nat)(cs:List Value)(k:IntKind)(i:Int)(h0:0≤i)(hi:i<len):ixV (some (some (b,n,z,len))) (.agg ⟨cs⟩) (.int k i)=partL b n cs (i.toNat*z):=by
 simp[ixV,h0,hi]
theorem ncV_p (a:Addr):ncV (.pointer (some a))=some (.pointer (some a)):=rfl
theorem ncV_f (g:FuncId)(f c:Array Value):ncV (.func (.func g) f c)=some (.func (.func g) f c):=rfl
theorem miV_f (t:TypeId)(v:Value):miV (some false) t v=some (.iface t v):=rfl
theorem lnB_l (a:Option Addr)(n c:Nat):lnB (some false) (.slice a n c)=some (.int .i64 n):=rfl
theorem bdV_s (pl:List (Nat×Nat))(cs:List Value)(parts:List (Nat×Value)):bdV (some (pl,cs)) parts=(match fillP pl cs parts with|some cs'=>some (.agg ⟨cs'⟩)|none=>none):=rfl
theorem fillP_nil (pl:List (Nat×Nat))(cs:List Value):fillP pl cs []=some cs:=rfl
def fillQ (pl:List (Nat×Nat))(cs:List Value)(v:Value)(rest:List (Nat×Value)):Option (Nat×Nat)→Option (List Value)
 | some (off,n)=>if v.cells.toList.length=n∧off+n≤cs.length then fillP pl (setFrom cs off v.cells.toList) rest else none
 | none=>none
theorem fillP_cons (pl:List (Nat×Nat))(cs:List Value)(i:Nat)(v:Value)(rest:List (Nat×Value)):fillP pl cs ((i,v) :: rest)=fillQ pl cs v rest pl[i]?:=by
 first
 | (simp only[fillP,fillQ];done)
 | (simp only[fillP,fillQ];cases pl[i]?<;>rfl)
theorem fillQ_s (pl:List (Nat×Nat))(cs:List Value)(v:Value)(rest:List (Nat×Value))(off n:Nat)(h1:v.cells.toList.length=n)(h2:off+n≤cs.length) :
  fillQ pl cs v rest (some (off,n))=fillP pl (setFrom cs off v.cells.toList) rest:=by
 simp only[fillQ,if_pos (And.intro h1 h2)]
theorem cvV_p (s d:TypeId)(v u:Value)(hc:cvP P s d v=some u):cvV P s d v h=some u:=by simp only[cvV,hc]
section tvs
variable {t:TypeId} {tm:VT} {h:Heap}
theorem tp_move (x:Operand):tp P (.move x) t tm=some (ev tm x):=rfl
theorem tv_move (x:Operand):tv P (.move x) t tm h=some (ev tm x):=rfl
theorem tp_assign (x:Operand):tp P (.assign x) t tm=some (ev tm x):=rfl
theorem tv_assign (x:Operand):tv P (.assign x) t tm h=some (ev tm x):=rfl
theorem tp_pick (c a b:Operand):tp P (.pick c a b) t tm=pickV (ev tm c) (ev tm a) (ev tm b):=rfl
theorem tv_pick (c a b:Operand):tv P (.pick c a b) t tm h=pickV (ev tm c) (ev tm a) (ev tm b):=rfl
theorem tp_extract (x:Operand)(i:Nat):tp P (.extract x i) t tm=extV (ev tm x) i:=rfl
theorem tv_extract (x:Operand)(i:Nat):tv P (.extract x i) t tm h=extV (ev tm x) i:=rfl
theorem tp_bin (op:BinOp)(ty:TypeId)(x y:Operand)(yt:TypeId):tp P (.binOp op ty x y yt) t tm=binPure P op ty x y (ev tm x) (ev tm y):=rfl
theorem tv_bin (op:BinOp)(ty:TypeId)(x y:Operand)(yt:TypeId):tv P (.binOp op ty x y yt) t tm h=binPure P op ty x y (ev tm x) (ev tm y):=rfl
theorem tp_un (op:UnOp)(ty:TypeId)(x:Operand):tp P (.unOp op ty x) t tm=unV P op (ev tm x):=rfl
theorem tv_un (op:UnOp)(ty:TypeId)(x:Operand):tv P (.unOp op ty x) t tm h=unV P op (ev tm x):=rfl
theorem tp_fa (s:TypeId)(x:Operand)(f:Nat):tp P (.fieldAddr s x f) t tm=faV (fld P s f) (ev tm x):=rfl
theorem tv_fa (s:TypeId)(x:Operand)(f:Nat):tv P (.fieldAddr s x f) t tm h=faV (fld P s f) (ev tm x):=rfl
theorem tp_fd (s:TypeId)(x:Operand)(f:Nat):tp P (.field s x f) t tm=fdV (fldT P s f) (ev tm x):=rfl
theorem tv_fd (s:TypeId)(x:Operand)(f:Nat):tv P (.field s x f) t tm h=fdV (fldT P s f) (ev tm x):=rfl
theorem tp_ia (s:TypeId)(x i:Operand):tp P (.indexAddr s x i) t tm=iaV (esz P s) (ev tm x) (ev tm i):=rfl
theorem tv_ia (s:TypeId)(x i:Operand):tv P (.indexAddr s x i) t tm h=iaV (esz P s) (ev tm x) (ev tm i):=rfl
theorem tp_ix (s:TypeId)(x i:Operand):tp P (.index s x i) t tm=ixV (ixT P s) (ev tm x) (ev tm i):=rfl
theorem tv_ix (s:TypeId)(x i:Operand):tv P (.index s x i) t tm h=ixV (ixT P s) (ev tm x) (ev tm i):=rfl
theorem tp_nc (x:Operand):tp P (.nilCheck x) t tm=ncV (ev tm x):=rfl
theorem tv_nc (x:Operand):tv P (.nilCheck x) t tm h=ncV (ev tm x):=rfl
theorem tp_mf (g:FuncId)(f c:List Operand):tp P (.makeFunc (.func g) ⟨f⟩ ⟨c⟩) t tm=some (.func (.func g) ⟨f.map (ev tm)⟩ ⟨c.map (ev tm)⟩):=rfl
theorem tv_mf (g:FuncId)(f c:List Operand):tv P (.makeFunc (.func g) ⟨f⟩ ⟨c⟩) t tm h=some (.func (.func g) ⟨f.map (ev tm)⟩ ⟨c.map (ev tm)⟩):=rfl
theorem tp_mi (ty:TypeId)(x:Operand):tp P (.makeInterface ty x) t tm=miV (isI P ty) ty (ev tm x):=rfl
theorem tv_mi (ty:TypeId)(x:Operand):tv P (.makeInterface ty x) t tm h=miV (isI P ty) ty (ev tm x):=rfl
theorem tp_build (ty:TypeId)(parts:List (Nat×Operand)):tp P (.build ty ⟨parts⟩) t tm=bdV (plc P ty) (parts.map λx=>(x.1,ev tm x.2)):=rfl
theorem tv_build (ty:TypeId)(parts:List (Nat×Operand)):tv P (.build ty ⟨parts⟩) t tm h=bdV (plc P ty) (parts.map λx=>(x.1,ev tm x.2)):=rfl
theorem tp_len (x:Operand)(ty:TypeId):tp P (.call ⟨.builtin .len,#[x],#[ty]⟩) t tm=lnB (lnT P ty) (ev tm x):=rfl
theorem tv_len (x:Operand)(ty:TypeId):tv P (.call ⟨.builtin .len,#[x],#[ty]⟩) t tm h=lnB (lnT P ty) (ev tm x):=rfl
theorem tp_min (args:List Operand)(ts:Array TypeId):tp P (.call ⟨.builtin .min,⟨args⟩,ts⟩) t tm=mnV P ts t (args.map (ev tm)):=rfl
theorem tv_min (args:List Operand)(ts:Array TypeId):tv P (.call ⟨.builtin .min,⟨args⟩,ts⟩) t tm h=mnV P ts t (args.map (ev tm)):=rfl
theorem tp_max (args:List Operand)(ts:Array TypeId):tp P (.call ⟨.builtin .max,⟨args⟩,ts⟩) t tm=mxV P ts t (args.map (ev tm)):=rfl
theorem tv_max (args:List Operand)(ts:Array TypeId):tv P (.call ⟨.builtin .max,⟨args⟩,ts⟩) t tm h=mxV P ts t (args.map (ev tm)):=rfl
theorem tv_load (ty:TypeId)(a:Operand):tv P (.load ty a) t tm h=evLoad P ty (ev tm a) h:=rfl
theorem tv_slice (ty:TypeId)(x:Operand)(lo hi mx:Option Operand):tv P (.slice ty x lo hi mx) t tm h=slV P ty (ev tm x) (lo.map (ev tm)) (hi.map (ev tm)) (mx.map (ev tm)) h:=rfl
theorem tv_convert (s d:TypeId)(x:Operand):tv P (.convert s d x) t tm h=cvV P s d (ev tm x) h:=rfl
theorem te_alloc (e:TypeId):te P (.alloc e) t tm h=alE (zro P e) e h:=rfl
theorem te_box (e:TypeId)(x:Operand):te P (.box e x) t tm h=bxE e (ev tm x) h:=rfl
theorem te_bs (ty:TypeId)(len:Nat)(parts:List (Nat×Operand)):te P (.buildSlice ty len ⟨parts⟩) t tm h=bsE (slT P ty) len (parts.map λx=>(x.1,ev tm x.2)) h:=rfl
theorem te_store (ty:TypeId)(a x:Operand):te P (.store ty a x) t tm h=stE (szT P ty) (ev tm a) (ev tm x) h:=rfl
theorem te_ms (ty:TypeId)(l c:Operand):te P (.makeSlice ty l c) t tm h=msE (mkT P ty) (ev tm l) (ev tm c) h:=rfl
theorem te_append (s x:Operand)(sT xT:TypeId):te P (.call ⟨.builtin .append,#[s,x],#[sT,xT]⟩) t tm h=evAppend P sT xT (ev tm s) (ev tm x) h:=rfl
end tvs
section bin
variable {x y:Operand} {ty:TypeId} {k:IntKind} {a b:Int}
theorem b_add:binPure P .add ty x y (.int k a) (.int k b)=some (.int k (k.wrap (a+b))):=by
 simp[binPure,eqGuard,binOp,Op.intArith,pvF,pv_pure,flat]
theorem b_sub:binPure P .sub ty x y (.int k a) (.int k b)=some (.int k (k.wrap (a-b))):=by
 simp[binPure,eqGuard,binOp,Op.intArith,pvF,pv_pure,flat]
theorem b_mul:binPure P .mul ty x y (.int k a) (.int k b)=some (.int k (k.wrap (a*b))):=by
 simp[binPure,eqGuard,binOp,Op.intArith,pvF,pv_pure,flat]
theorem b_quo (hb:b≠0):binPure P .quo ty x y (.int k a) (.int k b)=some (.int k (k.wrap (a.tdiv b))):=by
 simp[binPure,eqGuard,binOp,Op.intDiv,hb,pvF,pv_pure,flat]
theorem b_rem (hb:b≠0):binPure P .rem ty x y (.int k a) (.int k b)=some (.int k (a.tmod b)):=by
 simp[binPure,eqGuard,binOp,Op.intDiv,hb,pvF,pv_pure,flat]
theorem b_lss:binPure P .lss ty x y (.int k a) (.int k b)=some (.bool (decide (a<b))):=by
 simp[binPure,eqGuard,binOp,Op.intCmp,pvF,pv_pure,flat]
theorem b_leq:binPure P .leq ty x y (.int k a) (.int k b)=some (.bool (decide (a≤b))):=by
 simp[binPure,eqGuard,binOp,Op.intCmp,pvF,pv_pure,flat]
theorem b_gtr:binPure P .gtr ty x y (.int k a) (.int k b)=some (.bool (decide (b<a))):=by
 simp[binPure,eqGuard,binOp,Op.intCmp,pvF,pv_pure,flat]
theorem b_geq:binPure P .geq ty x y (.int k a) (.int k b)=some (.bool (decide (b≤a))):=by
 simp[binPure,eqGuard,binOp,Op.intCmp,pvF,pv_pure,flat]
theorem b_eql:binPure P .eql ty x y (.int k a) (.int k b)=some (.bool (decide (a=b))):=by
 simp[binPure,eqGuard,binOp,Op.intCmp,pvF,pv_pure,flat]
 rfl
theorem b_neq:binPure P .neq ty x y (.int k a) (.int k b)=some (.bool (!decide (a=b))):=by
 simp[binPure,eqGuard,binOp,Op.intCmp,pvF,pv_pure,flat]
 rfl
theorem b_shr {j:IntKind}(hb:0≤b):binPure P .shr ty x y (.int k a) (.int j b)=some (.int k (a.fdiv (2 ^ min b.toNat k.bits))):=by
 have:¬ b<0:=by omega
 simp[binPure,eqGuard,binOp,Op.shift,this,pvF,pv_pure,flat]
theorem b_shl {j:IntKind}(hb:0≤b):binPure P .shl ty x y (.int k a) (.int j b)=some (.int k (k.wrap (a*2 ^ min b.toNat k.bits))):=by
 have:¬ b<0:=by omega
 simp[binPure,eqGuard,binOp,Op.shift,this,pvF,pv_pure,flat]
theorem eqIn_bool (hu:P.underlying ty=some .bool)(a b:Bool):pv P (Op.equal ty (.bool a) (.bool b))=some (a == b):=by
 have h:∀ d:Nat,pv P (Op.equalIn (d+1) ty (.bool a) (.bool b))=some (a == b):=λd=>by
  simp only[Op.equalIn,pv_bind,pv_under hu,Option.bind_some,pv_pure]
 exact h 9999
def isBool (P:Program)(t:TypeId):Bool:=match P.underlying t with|some .bool=>true|_=>false
theorem isBool_eq (h:isBool P ty=true):P.underlying ty=some .bool:=by
 unfold isBool at h;split at h
 ·assumption
 ·cases h
theorem b_eqlb {a b:Bool}(hu:isBool P ty=true):binPure P .eql ty x y (.bool a) (.bool b)=some (.bool (a == b)):=by
 simp[binPure,eqGuard,binOp,pvF,pv_map,eqIn_bool (isBool_eq hu),flat]
theorem b_neqb {a b:Bool}(hu:isBool P ty=true):binPure P .neq ty x y (.bool a) (.bool b)=some (.bool (!(a == b))):=by
 simp[binPure,eqGuard,binOp,pvF,pv_map,eqIn_bool (isBool_eq hu),flat]
theorem b_eqls {a b:ByteArray}:binPure P .eql ty x y (.string a) (.string b)=some (.bool (a.data.toList == b.data.toList)):=by
 simp only[binPure,beqB_eq]
theorem b_neqs {a b:ByteArray}:binPure P .neq ty x y (.string a) (.string b)=some (.bool (!(a.data.toList == b.data.toList))):=by
 simp only[binPure,beqB_eq]
theorem b_adds {a b:ByteArray}(hs:a.size+b.size≤9223372036854775807):binPure P .add ty x y (.string a) (.string b)=some (.string (a++b)):=by
 have hm:IntKind.i64.max=9223372036854775807:=by decide
 have:¬ (((a.size+b.size:Nat):Int) > IntKind.i64.max):=by rw[hm];omega
 simp only[binPure,eqGuard,binOp,Op.stringOp,if_neg this,pvF,pv_pure,flat,pv_bind]
 rfl
def isSlc (P:Program)(t:TypeId):Bool:=match P.underlying t with|some (.slice _)=>true|_=>false
def isPtr (P:Program)(t:TypeId):Bool:=match P.underlying t with|some (.pointer _)=>true|_=>false
theorem b_eqln {u:Option Addr}{n c n' c':Nat}(hu:isSlc P ty=true):binPure P .eql ty x y (.slice u n c) (.slice none n' c')=some (.bool u.isNone):=by
 unfold isSlc at hu
 simp only[binPure]
 split at hu
 ·rename_i h;rw[h]
 ·cases hu
theorem b_neqn {u:Option Addr}{n c n' c':Nat}(hu:isSlc P ty=true):binPure P .neq ty x y (.slice u n c) (.slice none n' c')=some (.bool (!u.isNone)):=by
 unfold isSlc at hu
 simp only[binPure]
 split at hu
 ·rename_i h;rw[h]
 ·cases hu
theorem b_eqlp {u:Option Addr}(hu:isPtr P ty=true):binPure P .eql ty x y (.pointer u) (.pointer none)=some (.bool u.isNone):=by
 unfold isPtr at hu
 simp only[binPure]
 split at hu
 ·rename_i h;rw[h]
 ·cases hu
theorem b_neqp {u:Option Addr}(hu:isPtr P ty=true):binPure P .neq ty x y (.pointer u) (.pointer none)=some (.bool (!u.isNone)):=by
 unfold isPtr at hu
 simp only[binPure]
 split at hu
 ·rename_i h;rw[h]
 ·cases hu
end bin
theorem wrap_i64 {n:Int}(h1:-9223372036854775808≤n)(h2:n≤9223372036854775807):IntKind.i64.wrap n=n:=IntWalk.i64_in _ (by omega)
end
end
end Go.Ev
namespace Go.Ev
open Go Go.RowKit
noncomputable section
section
variable {p:Par} {P:Program} {t:TypeId} {tm:VT} {h:Heap}
theorem next_put (b:Nat)(x:AObj):(h.put b x).next=h.next:=rfl
theorem lo_put (b:Nat)(x:AObj):(h.put b x).lo=h.lo:=rfl
theorem next_add (x:AObj):(h.add x).next=h.next+1:=by unfold Heap.add;rw[Heap.new_eq]
theorem lo_add (x:AObj):(h.add x).lo=h.lo:=by unfold Heap.add;rw[Heap.new_eq]
theorem get_put_s (b:Nat)(x:AObj):(h.put b x).get b=some x:=by rw[Heap.get_put,if_pos rfl]
theorem get_put_n (b:Nat)(x:AObj)(i:Nat)(hi:i≠b):(h.put b x).get i=h.get i:=by rw[Heap.get_put,if_neg hi]
theorem get_add (x:AObj)(i:Nat):(h.add x).get i=if i=h.next then some x else h.get i:=by
 unfold Heap.add;rw[Heap.new_eq];exact Tr.get_put h.t h.next x i
theorem get_add_s (x:AObj)(i:Nat)(hi:i=h.next):(h.add x).get i=some x:=by rw[get_add,if_pos hi]
theorem get_add_n (x:AObj)(i:Nat)(hi:i≠h.next):(h.add x).get i=h.get i:=by rw[get_add,if_neg hi]
theorem cells_of_get {h h':Heap}{i j:Nat}(e:h.get i=h'.get j):cells h i=cells h' j:=by unfold cells;rw[e]
theorem cells_put_s (b:Nat)(cs:List Value)(e:TypeId)(m:Bool):cells (h.put b (O cs e m)) b=some (cs,e,m):=by unfold cells;rw[get_put_s];rfl
theorem cells_put_n (b:Nat)(x:AObj)(i:Nat)(hi:i≠b):cells (h.put b x) i=cells h i:=cells_of_get (get_put_n b x i hi)
theorem cells_add_s (cs:List Value)(e:TypeId)(m:Bool)(i:Nat)(hi:i=h.next):cells (h.add (O cs e m)) i=some (cs,e,m):=by unfold cells;rw[get_add_s _ _ hi];rfl
theorem cells_add_n (x:AObj)(i:Nat)(hi:i≠h.next):cells (h.add x) i=cells h i:=cells_of_get (get_add_n x i hi)
theorem fone_bool (n:Nat)(b:Bool):fone n (.bool b)=true:=rfl
theorem fone_int (n:Nat)(k:IntKind)(b:Int):fone n (.int k b)=true:=rfl
theorem fone_str (n:Nat)(b:ByteArray):fone n (.string b)=true:=rfl
theorem fone_p0 (n:Nat):fone n (.pointer none)=true:=rfl
theorem fone_s0 (n a b:Nat):fone n (.slice none a b)=true:=rfl
theorem fone_m0 (n:Nat):fone n (.map none)=true:=rfl
theorem fone_nf (n:Nat):fone n .nilFunc=true:=rfl
theorem fone_ni (n:Nat):fone n .nilIface=true:=rfl
theorem fone_p (n b o:Nat)(hb:b<n):fone n (.pointer (some ⟨b,o,none⟩))=true:=by
 rw[fone_eq];simp[one,sc,scA,hb]
theorem fone_s (n b o l c:Nat)(hb:b<n):fone n (.slice (some ⟨b,o,none⟩) l c)=true:=by
 rw[fone_eq];simp[one,sc,scA,hb]
theorem foneL_nil (n:Nat):foneL n []=true:=rfl
theorem foneL_cons (n:Nat)(v:Value)(l:List Value)(h1:fone n v=true)(h2:foneL n l=true):foneL n (v :: l)=true:=by
 show (Bool.rec false (foneL n l) (fone n v):Bool)=true
 rw[h1,h2]
theorem q_bool (n:Nat)(b:Bool):(fone n (.bool b)=true)=True:=by simp[fone_bool]
theorem q_int (n:Nat)(k:IntKind)(b:Int):(fone n (.int k b)=true)=True:=by simp[fone_int]
theorem q_str (n:Nat)(b:ByteArray):(fone n (.string b)=true)=True:=by simp[fone_str]
theorem q_p0 (n:Nat):(fone n (.pointer none)=true)=True:=by simp[fone_p0]
theorem q_s0 (n a b:Nat):(fone n (.slice none a b)=true)=True:=by simp[fone_s0]
theorem q_m0 (n:Nat):(fone n (.map none)=true)=True:=by simp[fone_m0]
theorem q_nf (n:Nat):(fone n .nilFunc=true)=True:=by simp[fone_nf]
theorem q_ni (n:Nat):(fone n .nilIface=true)=True:=by simp[fone_ni]
theorem q_p (n b o:Nat):(fone n (.pointer (some ⟨b,o,none⟩))=true)=(b<n):=by
 rw[fone_eq];simp[one,sc,scA]
theorem q_s (n b o l c:Nat):(fone n (.slice (some ⟨b,o,none⟩) l c)=true)=(b<n):=by
 rw[fone_eq];simp[one,sc,scA]
theorem q_nil (n:Nat):(foneL n []=true)=True:=by simp[foneL_nil]
theorem q_cons (n:Nat)(v:Value)(l:List Value):(foneL n (v :: l)=true)=(fone n v=true∧foneL n l=true):=by
 have e:foneL n (v :: l)=(Bool.rec false (foneL n l) (fone n v):Bool):=rfl
 rw[e]
 cases fone n v<;>simp
theorem q_func (n:Nat)(g:FuncId)(f c:List Value):(fone n (.func (.func g) ⟨f⟩ ⟨c⟩)=true)=(scL n f=true∧scL n c=true):=by
 rw[fone_eq];simp[one,sc]
theorem q_scn (n:Nat):(scL n []=true)=True:=by simp[scL]
theorem q_scc (n:Nat)(v:Value)(l:List Value):(scL n (v :: l)=true)=(sc n v=true∧scL n l=true):=by simp[scL]
theorem q_scp (n b o:Nat):(sc n (.pointer (some ⟨b,o,none⟩))=true)=(b<n):=by simp[sc,scA]
theorem q_scs (n b o l c:Nat):(sc n (.slice (some ⟨b,o,none⟩) l c)=true)=(b<n):=by simp[sc,scA]
theorem q_sci (n:Nat)(k:IntKind)(b:Int):(sc n (.int k b)=true)=True:=by simp[sc]
theorem q_scb (n:Nat)(b:Bool):(sc n (.bool b)=true)=True:=by simp[sc]
theorem q_sct (n:Nat)(b:ByteArray):(sc n (.string b)=true)=True:=by simp[sc]
theorem vcells_int (k:IntKind)(b:Int):(Value.int k b).cells.toList=[.int k b]:=rfl
theorem vcells_bool (b:Bool):(Value.bool b).cells.toList=[.bool b]:=rfl
theorem vcells_str (b:ByteArray):(Value.string b).cells.toList=[.string b]:=rfl
theorem vcells_p (a:Option Addr):(Value.pointer a).cells.toList=[.pointer a]:=rfl
theorem vcells_s (a:Option Addr)(n c:Nat):(Value.slice a n c).cells.toList=[.slice a n c]:=rfl
theorem vcells_m (a:Option Nat):(Value.map a).cells.toList=[.map a]:=rfl
theorem vcells_f (g:Fn)(a b:Array Value):(Value.func g a b).cells.toList=[.func g a b]:=rfl
theorem vcells_nf:(Value.nilFunc).cells.toList=[.nilFunc]:=rfl
theorem vcells_i (t:TypeId)(v:Value):(Value.iface t v).cells.toList=[.iface t v]:=rfl
theorem vcells_ni:(Value.nilIface).cells.toList=[.nilIface]:=rfl
theorem vcells_a (l:List Value):(Value.agg ⟨l⟩).cells.toList=l:=rfl
def ldC (k:Option (Bool×Nat))(off lo b:Nat)(c:Option (List Value×TypeId×Bool)):Option Value:=match c,k with
 | some (cs,_,_),some (q,n)=>match partL q n cs off with
  | some v=>seen lo b v
  | none=>none
 | _,_=>none
theorem load_eq (b off:Nat):evLoad P t (.pointer (some ⟨b,off,none⟩)) h=ldC (knd P t) off h.lo b (cells h b):=by
 unfold evLoad ldC knd
 dsimp only
 cases cells h b with
 | none=>rfl
 | some c=>
  obtain ⟨cs,e,m⟩:=c
  dsimp only
  cases isAggT P t with
  | none=>rfl
  | some q=>
   cases q with
   | false=>rfl
   | true=>
    dsimp only
    cases szT P t with
    | none=>rfl
    | some n=>
     simp only[partL]
     by_cases hle:off+n≤cs.length
     ·rw[takeN_some cs off n hle,if_pos hle]
     ·rw[if_neg hle]
      cases ht:takeN cs off n with
      | some l=>exact absurd (takeN_eq ht).1 hle
      | none=>rfl
theorem ldC_own (q:Bool)(n off lo b:Nat)(cs:List Value)(e:TypeId)(m:Bool)(hb:lo≤b):ldC (some (q,n)) off lo b (some (cs,e,m))=partL q n cs off:=by
 unfold ldC
 dsimp only
 have:Nat.ble lo b=true:=by simpa using hb
 cases partL q n cs off with
 | none=>rfl
 | some v=>simp only[seen,this]
def stC (n off:Nat)(v:Value)(h:Heap)(b:Nat)(c:Option (List Value×TypeId×Bool)):Option (Value×Heap):=match c with
 | some (cs,e,m)=>if v.cells.toList.length=n∧foneL h.next v.cells.toList=true∧h.lo≤b∧off+n≤cs.length then some (undef,h.put b (O (setFrom cs off v.cells.toList) e m)) else none
 | none=>none
theorem stE_eq (n b off:Nat)(v:Value):stE (some n) (.pointer (some ⟨b,off,none⟩)) v h=stC n off v h b (cells h b):=rfl
theorem stC_s (n off:Nat)(v:Value)(b:Nat)(cs:List Value)(e:TypeId)(m:Bool)(h1:v.cells.toList.length=n)(h2:foneL h.next v.cells.toList=true)(h3:h.lo≤b)(h4:off+n≤cs.length) :
  stC n off v h b (some (cs,e,m))=some (undef,h.put b (O (setFrom cs off v.cells.toList) e m)):=by
 simp only[stC,if_pos (And.intro h1 (And.intro h2 (And.intro h3 h4)))]
theorem bxE_s (e:TypeId)(v:Value)(h1:foneL h.next v.cells.toList=true):bxE e v h=some (.pointer (some ⟨h.next,0,none⟩),h.add (O v.cells.toList e false)):=if_pos h1
theorem alE_s (cs:List Value)(e:TypeId):alE (some cs) e h=some (.pointer (some ⟨h.next,0,none⟩),h.add (O cs e false)):=rfl
def bsC (len:Nat)(e:TypeId)(h:Heap):Option (List Value)→Option (Value×Heap)
 | some cs=>if foneL h.next cs=true then some (.slice (some ⟨h.next,0,none⟩) len len,h.add (O cs e false)) else none
 | none=>none
theorem bsE_eq (e:TypeId)(n:Nat)(zs:List Value)(len:Nat)(parts:List (Nat×Value))(hl:len*n≤16777216) :
  bsE (some (e,n,zs)) len parts h=bsC len e h (fillP ((List.range len).map (λi=>(i*n,n))) (List.replicate len zs).flatten parts):=by
 first
 | (simp only[bsE,if_pos hl,bsC];done)
 | (simp only[bsE,if_pos hl,bsC];cases fillP ((List.range len).map (λi=>(i*n,n))) (List.replicate len zs).flatten parts<;>rfl)
theorem bsC_s (len:Nat)(e:TypeId)(cs:List Value)(h1:foneL h.next cs=true):bsC len e h (some cs)=some (.slice (some ⟨h.next,0,none⟩) len len,h.add (O cs e false)):=if_pos h1
theorem msE_s (e n by_:Nat)(zs:List Value)(k j:IntKind)(l c:Int)(h1:0≤l)(h2:l≤c)(h3:c*by_+c<100000000000000) :
  msE (some (e,n,by_,zs)) (.int k l) (.int j c) h=some (.slice (some ⟨h.next,0,none⟩) l.toNat c.toNat,h.add (O (List.replicate c.toNat zs).flatten e false)):=by
 simp only[msE,if_pos (And.intro h1 (And.intro h2 h3))]
end
end
end Go.Ev
namespace Go.Ev
open Go Go.RowKit
noncomputable section
def appT (P:Program)(sT xT:TypeId):Option (TypeId×Nat×Nat):=match P.underlying sT with
 | some (.slice e)=>match P.underlying xT with
  | none=>none
  | some (.int _)=>none
  | some _=>match P.info? e with
   | some i=>match i.zero with
    | some z=>match Nat.beq z.cells.size i.size&&Nat.blt 0 i.size with
     | true=>some (e,i.size,i.bytes)
     | false=>none
    | none=>none
   | none=>none
 | _=>none
def slcT (P:Program)(t:TypeId):Option (Option (TypeId×Nat)):=match P.underlying t with
 | some .string=>some none
 | some (.slice e)=>match szT P e with | some n=>some (some (e,n)) | none=>none
 | _=>none
def cnvT (P:Program)(s d:TypeId):Option (Nat×Option IntKind×Nat):=match P.underlying s with
 | some (.int _)=>match P.underlying d with
  | some (.int k)=>some (0,some k,0)
  | _=>none
 | some .string=>match P.underlying d with
  | some .string=>some (4,none,0)
  | some (.slice e)=>match P.underlying e with
   | some (.int .u8)=>match szT P e with
    | some 1=>some (2,none,e)
    | _=>none
   | _=>none
  | _=>none
 | some (.slice e)=>match P.underlying e with
  | some (.int .u8)=>match P.underlying d with
   | some .string=>some (1,none,0)
   | some (.slice e')=>match Nat.beq s d&&Nat.beq e e' with
    | true=>some (3,none,e)
    | false=>none
   | _=>none
  | _=>none
 | _=>none
end
end Go.Ev
namespace Go.Ev
open Go Go.RowKit
noncomputable section
mutual
def pl:Value→Bool
 | .float _ _=>false
 | .slice (some _) _ c=>Nat.blt c UC
 | .func (.func _) ⟨f⟩ ⟨c⟩=>plL f&&plL c
 | .func _ _ _=>false
 | .iface _ v=>pl v
 | .agg ⟨cs⟩=>plL cs
 | .tuple ⟨vs⟩=>plL vs
 | _=>true
def plL:List Value→Bool
 | []=>true
 | v :: vs=>pl v&&plL vs
end
def idΓ (s:Nat→Int)(t:Nat→ByteArray):Gam:=⟨λi=>i,λ_=>0,s,t⟩
mutual
theorem con_pl (s:Nat→Int)(t:Nat→ByteArray):∀ v,pl v=true→con (idΓ s t) v=v
 | .bool _,_=>rfl
 | .int _ _,_=>rfl
 | .float _ _,h=>by simp[pl] at h
 | .complex _ _ _,_=>rfl
 | .string _,_=>rfl
 | .pointer none,_=>rfl
 | .pointer (some _),_=>rfl
 | .slice none _ _,_=>rfl
 | .slice (some a) n c,h=>by
  have hc:c<UC:=by simpa[pl] using h
  simp only[con,conA,conCap,if_pos hc,idΓ]
 | .map none,_=>rfl
 | .map (some _),_=>rfl
 | .chan _,_=>rfl
 | .func (.func g) ⟨f⟩ ⟨c⟩,h=>by
  simp only[pl,Bool.and_eq_true] at h
  simp only[con,conFn,conL_pl s t f h.1,conL_pl s t c h.2]
 | .func (.method _) _ _,h=>by simp[pl] at h
 | .func (.methodOf _ _) _ _,h=>by simp[pl] at h
 | .func (.via _ _ _ _) _ _,h=>by simp[pl] at h
 | .func (.yield _) _ _,h=>by simp[pl] at h
 | .nilFunc,_=>rfl
 | .iface t' v,h=>by
  simp only[pl] at h
  simp only[con,con_pl s t v h]
 | .nilIface,_=>rfl
 | .agg ⟨cs⟩,h=>by
  simp only[pl] at h
  simp only[con,conL_pl s t cs h]
 | .tuple ⟨cs⟩,h=>by
  simp only[pl] at h
  simp only[con,conL_pl s t cs h]
theorem conL_pl (s:Nat→Int)(t:Nat→ByteArray):∀ l,plL l=true→conL (idΓ s t) l=l
 | [],_=>rfl
 | v :: vs,h=>by
  simp only[plL,Bool.and_eq_true] at h
  simp only[conL,con_pl s t v h.1,conL_pl s t vs h.2]
end
def fix (G:Nat)(v:Value):Value:=if one v=true∧pl v=true∧sc G v=true then v else .chan none
theorem fix_ok {G:Nat}{v:Value}(h1:one v=true)(h2:pl v=true)(h3:sc G v=true):fix G v=v:=if_pos ⟨h1,h2,h3⟩
theorem fix_sc {G:Nat}{v:Value}(h:sc G (fix G v)=true):fix G v=v∧one v=true∧pl v=true:=by
 unfold fix at h ⊢
 split
 ·rename_i hc;exact ⟨rfl,hc.1,hc.2.1⟩
 ·rename_i hc;rw[if_neg hc] at h;simp[sc] at h
def baseO (G:Nat)(o:Option Obj):Option AObj:=match o with
 | some (.cells c e _)=>some ⟨.cells (c.map (fix G)) e,false⟩
 | _=>none
def baseT (G:Nat)(w:World):Nat→Tr
 | 0=>.nil
 | n+1=>match baseO G w.heap[n]? with
  | some x=>(baseT G w n).put n x
  | none=>baseT G w n
theorem baseT_get (G:Nat)(w:World):∀ (n i:Nat),(baseT G w n).get i=if i<n then baseO G w.heap[i]? else none
 | 0,i=>by simp[baseT,Tr.get_nil]
 | n+1,i=>by
  simp only[baseT]
  split
  ·rename_i x hx
   rw[Tr.get_put,baseT_get G w n i]
   by_cases h:i=n
   ·subst h;simp[hx]
   ·by_cases h2:i<n
    ·simp[h,h2,Nat.lt_succ_of_lt h2]
    ·simp[h,h2];omega
  ·rename_i hx
   rw[baseT_get G w n i]
   by_cases h:i=n
   ·subst h;simp[hx]
   ·by_cases h2:i<n
    ·simp[h2,Nat.lt_succ_of_lt h2]
    ·rw[if_neg h2,if_neg (by omega)]
def baseH (G:Nat)(w:World):Heap:=⟨baseT G w w.heap.size,G,G⟩
theorem baseH_get (G:Nat)(w:World)(i:Nat):(baseH G w).get i=baseO G w.heap[i]?:=by
 have:=baseT_get G w w.heap.size i
 show (baseT G w w.heap.size).get i=_
 rw[this]
 split
 ·rfl
 ·rw[Array.getElem?_eq_none (by omega)];rfl
theorem baseH_cells {G:Nat}{w:World}{b:Nat}{c:Array Value}{e:TypeId}{fr:Nat×Nat}(hb:w.heap[b]?=some (.cells c e fr)):cells (baseH G w) b=some (c.toList.map (fix G),e,false):=by
 unfold cells
 rw[baseH_get,hb]
 simp only[baseO]
 obtain ⟨l⟩:=c
 simp
theorem baseH_cell {G:Nat}{w:World}{b off:Nat}{v:Value}(hc:w.cell? ⟨b,off,none⟩=some v)(h1:one v=true)(h2:pl v=true)(h3:sc G v=true) :
  ∃ cs e,cells (baseH G w) b=some (cs,e,false)∧cs[off]?=some v:=by
 simp only[World.cell?] at hc
 split at hc
 ·rename_i c e fr hb
  refine ⟨_,_,baseH_cells hb,?_⟩
  have hc:c[off]?=some v:=by simpa using hc
  rw[List.getElem?_map,Array.getElem?_toList,hc,Option.map_some,fix_ok h1 h2 h3]
 ·cases hc
theorem baseH_rel (P:Program)(NG G:Nat)(s:Nat→Int)(t:Nat→ByteArray)(w:World)(hNG:NG≤w.heap.size)(hG:w.heap.size≤G):HRel ⟨P,NG,G,w.heap.size,s,t⟩ (idΓ s t) (baseH G w) w:=by
 have key:∀ i x,(baseH G w).get i=some x→i<w.heap.size∧∃ c e fr,w.heap[i]?=some (.cells c e fr)∧x=⟨.cells (c.map (fix G)) e,false⟩:=by
  intro i x hx
  rw[baseH_get] at hx
  unfold baseO at hx
  split at hx
  ·rename_i c e fr hi
   cases hx
   exact ⟨(Array.getElem?_eq_some_iff.1 hi).1,c,e,fr,hi,rfl⟩
  ·cases hx
 refine ⟨λi x hx=>?_,λi x hx _ hi=>?_,λi j x y hx _ _ _ hi _ _=>?_,λg _=>rfl,λi x _ hx _=>(key i x hx).1,rfl,Nat.le_refl _,⟨Nat.le_trans hNG hG,hNG⟩,Nat.le_refl _,⟨rfl,rfl⟩,LentR.no λi x hx=>by obtain ⟨_,c,e,fr,_,rfl⟩:=key i x hx;rfl⟩
 ·obtain ⟨hlt,c,e,fr,hw,rfl⟩:=key i x hx
  refine ⟨Nat.lt_of_lt_of_le hlt hG,?_⟩
  simp only[OR]
  refine ⟨λhG'=>absurd (Nat.lt_of_lt_of_le hlt hG) (Nat.not_lt.2 hG'),λ_=>⟨trivial,hlt,λj v hj hv=>?_⟩⟩
  rw[Array.getElem?_map] at hj
  cases hcj:c[j]? with
  | none=>rw[hcj] at hj;cases hj
  | some u=>
   rw[hcj] at hj
   simp only[Option.map_some,Option.some.injEq] at hj
   subst hj
   obtain ⟨h1,h2,h3⟩:=fix_sc hv
   rw[h1]
   refine ⟨h2,?_⟩
   rw[con_pl s t u h3]
   have:w.heap[(idΓ s t).b i]?=some (.cells c e fr):=hw
   simp only[World.cell?,this]
   simpa using hcj
 ·have:=(key i x hx).1
  have hi:G≤i:=hi
  omega
 ·have:=(key i x hx).1
  have hi:G≤i:=hi
  omega
theorem calls_of_callE {P:Program}{NG G:Nat}{s:Nat→Int}{t:Nat→ByteArray}{w:World}(hNG:NG≤w.heap.size)(hG:w.heap.size≤G){f:FuncId}{args:List Value}{v:Value}
  (hc:CallE ⟨P,NG,G,w.heap.size,s,t⟩ f args (baseH G w) λu _=>u=v) (hpl:plL args=true) (hsc:scL G args=true) (hv:flat v=true) :
  Calls P f ⟨args⟩ w λe w'=>e=.returned v∧Below w.heap.size w w':=by
 have hrel:=baseH_rel P NG G s t w hNG hG
 obtain ⟨_,h2⟩:=hc _ w hrel (λx hx=>scL_all hsc x hx)
 have hargs:(⟨args.map (con (idΓ s t))⟩:Array Value)=⟨args⟩:=by
  rw[← conL_map,conL_pl s t args hpl]
 have h3:=h2 Fence.wide ⟨rfl⟩ 0 (λe w'=>e=.returned v∧Below w.heap.size w w') (λu h' Γ' w' hu _ _ hb _ _=>by
  subst hu
  exact ⟨by rw[con_flat Γ' u hv],hb⟩)
 rw[hargs] at h3
 exact callsIn_wide.1 h3
end
end Go.Ev
namespace Go.Ev
open Go Go.RowKit
noncomputable section
def spotN (a:Option Addr):Prop:=a=a
def Sl (h:Heap)(a:Option Addr)(cs:List Value):Prop:=
 (cs=[]∧spotN a)∨∃ b off full e m,a=some ⟨b,off,none⟩∧cells h b=some (full,e,m)∧off+cs.length≤full.length∧(full.drop off).take cs.length=cs∧(h.lo≤b∨foneL h.lo cs=true)
theorem spotN_n:spotN none:=rfl
theorem spotN_s (b o:Nat):spotN (some ⟨b,o,none⟩):=rfl
theorem Sl.nil (h:Heap){a:Option Addr}(ha:spotN a):Sl h a []:=.inl ⟨rfl,ha⟩
theorem Sl.row {h:Heap}{b:Nat}{cs:List Value}{e:TypeId}{m:Bool}(hc:cells h b=some (cs,e,m))(hb:h.lo≤b):Sl h (some ⟨b,0,none⟩) cs:=
 .inr ⟨b,0,cs,e,m,rfl,hc,by simp,by simp,.inl hb⟩
theorem spotN.map {a:Option Addr}(_:spotN a)(i:Nat):spotN (a.map (·.add i)):=rfl
theorem Sl.frame {h h':Heap}{a:Option Addr}{cs:List Value}(hs:Sl h a cs)(hlo:h'.lo=h.lo)(hc:∀ b o,a=some ⟨b,o,none⟩→cs≠[]→cells h' b=cells h b):Sl h' a cs:=by
 rcases hs with h0|⟨b,off,full,e,m,ha,h1,h2,h3,h4⟩
 ·exact .inl h0
 ·by_cases h5:cs=[]
  ·exact .inl ⟨h5,by rw[ha];exact spotN_s b off⟩
  ·exact .inr ⟨b,off,full,e,m,ha,by rw[hc b off ha h5];exact h1,h2,h3,by rw[hlo];exact h4⟩
theorem Sl.sub {h:Heap}{a:Option Addr}{cs:List Value}(hs:Sl h a cs)(i k:Nat):Sl h (a.map (·.add i)) ((cs.drop i).take k):=by
 rcases hs with h0|⟨b,off,full,e,m,ha,h1,h2,h3,h4⟩
 ·left;exact ⟨by simp[h0.1],h0.2.map i⟩
 ·by_cases h5:(cs.drop i).take k=[]
  ·exact .inl ⟨h5,by rw[ha];exact (spotN_s b off).map i⟩
  ·right
   have hi:i<cs.length:=by
    rcases Nat.lt_or_ge i cs.length with h6|h6
    ·exact h6
    ·exfalso;apply h5;rw[List.drop_eq_nil_of_le h6];simp
   refine ⟨b,off+i,full,e,m,by rw[ha,Option.map_some,addr_add],h1,?_,?_,?_⟩
   ·simp only[List.length_take,List.length_drop];omega
   ·have h7:cs.drop i=((full.drop off).take cs.length).drop i:=by rw[h3]
    have h8:cs.drop i=((full.drop off).drop i).take (cs.length-i):=by rw[h7,List.drop_take]
    rw[List.drop_drop] at h8
    have hlen:((cs.drop i).take k).length=min k (cs.length-i):=by simp
    rw[hlen,h8,List.take_take]
   ·rcases h4 with h4|h4
    ·exact .inl h4
    ·right
     simp only[foneL_eq,Bool.and_eq_true,List.all_eq_true] at h4 ⊢
     exact ⟨λv hv=>h4.1 v (List.mem_of_mem_drop (List.mem_of_mem_take hv)),scL_of_all λv hv=>scL_all h4.2 v (List.mem_of_mem_drop (List.mem_of_mem_take hv))⟩
theorem Sl.load {P:Program}{h:Heap}{a:Option Addr}{cs:List Value}(hs:Sl h a cs){t:TypeId}(hk:knd P t=some (false,0)){i:Nat}{v:Value}(hv:cs[i]?=some v) :
  ∃ b off,a=some ⟨b,off,none⟩∧evLoad P t (.pointer (some ⟨b,off+i,none⟩)) h=some v:=by
 rcases hs with h0|⟨b,off,full,e,m,ha,h1,h2,h3,h4⟩
 ·rw[h0.1] at hv;cases hv
 ·refine ⟨b,off,ha,?_⟩
  have hi:i<cs.length:=(List.getElem?_eq_some_iff.1 hv).1
  have hf:full[off+i]?=some v:=by
   rw[← h3,List.getElem?_take,if_pos hi,List.getElem?_drop] at hv
   exact hv
  rw[load_eq,h1,hk]
  simp only[ldC,partL,hf]
  rcases h4 with h4|h4
  ·have:Nat.ble h.lo b=true:=by simpa using h4
   simp only[seen,this]
  ·simp only[foneL_eq,Bool.and_eq_true] at h4
   have hsv:sc h.lo v=true:=scL_all h4.2 v (List.mem_of_getElem? hv)
   unfold seen
   rw[fsc_eq,hsv]
   cases Nat.ble h.lo b<;>rfl
theorem Sl.loadA {P:Program}{h:Heap}{a:Option Addr}{cs:List Value}(hs:Sl h a cs){t:TypeId}{n:Nat}(hk:knd P t=some (true,n)){i:Nat}(hn:0<n)(hi:i*n+n≤cs.length) :
  ∃ b off,a=some ⟨b,off,none⟩∧evLoad P t (.pointer (some ⟨b,off+i*n,none⟩)) h=some (.agg ⟨(cs.drop (i*n)).take n⟩):=by
 have hsub:=hs.sub (i*n) n
 have hlen:((cs.drop (i*n)).take n).length=n:=by simp;omega
 rcases hs with h0|⟨b,off,full,e,m,ha,h1,h2,h3,h4⟩
 ·rw[h0.1] at hi;simp at hi;omega
 ·refine ⟨b,off,ha,?_⟩
  rcases hsub with h5|⟨b',off',full',e',m',ha',h1',h2',h3',h4'⟩
  ·rw[h5.1] at hlen;simp at hlen;omega
  ·rw[ha,Option.map_some,addr_add] at ha'
   simp only[Option.some.injEq,Addr.mk.injEq,and_true] at ha'
   obtain ⟨rfl,rfl⟩:=ha'
   rw[h1] at h1'
   cases h1'
   rw[load_eq,h1,hk]
   rw[hlen] at h2' h3'
   simp only[ldC,partL,if_pos h2',h3']
   rcases h4' with h4'|h4'
   ·have:Nat.ble h.lo b=true:=by simpa using h4'
    simp only[seen,this]
   ·simp only[foneL_eq,Bool.and_eq_true] at h4'
    have hsv:sc h.lo (.agg ⟨(cs.drop (i*n)).take n⟩)=true:=h4'.2
    unfold seen
    rw[fsc_eq,hsv]
    cases Nat.ble h.lo b<;>rfl
theorem Sl.src {h:Heap}{a:Option Addr}{cs:List Value}(hs:Sl h a cs){n m c len:Nat}(hl:cs.length=m*n)(hn:0<n):srcCells n m (.slice a len c) h=some cs:=by
 unfold srcCells
 dsimp only
 cases m with
 | zero=>
  have:cs=[]:=List.length_eq_zero_iff.1 (by rw[hl];simp)
  rw[this]
 | succ m=>
  dsimp only
  rcases hs with h0|⟨b,off,full,e,mo,ha,h1,h2,h3,h4⟩
  ·rw[h0.1] at hl
   have:0<(m+1)*n:=Nat.mul_pos (Nat.succ_pos _) hn
   simp at hl;omega
  ·rw[ha]
   simp only[h1]
   rw[hl] at h2 h3
   simp only[takeN_some full off ((m+1)*n) h2,h3]
   rcases h4 with h4|h4
   ·have:Nat.ble h.lo b=true:=by simpa using h4
    rw[this]
   ·rw[h4]
    cases Nat.ble h.lo b<;>rfl
structure Own (h:Heap)(e n:Nat)(a:Option Addr)(len c:Nat)(cs:List Value):Prop where
 hlen:cs.length=len*n
 hfone:foneL h.next cs=true
 hat:(a=none∧len=0∧c=0)∨∃ b m,a=some ⟨b,0,none⟩∧h.lo≤b∧b<h.next∧cells h b=some (cs,e,m)∧((m=true∧c=UC)∨(m=false∧c=len))
theorem Own.nil (h:Heap)(e n:Nat):Own h e n none 0 0 []:=⟨by simp,rfl,.inl ⟨rfl,rfl,rfl⟩⟩
theorem Own.sl {h:Heap}{e n:Nat}{a:Option Addr}{len c:Nat}{cs:List Value}(ho:Own h e n a len c cs):Sl h a cs:=by
 rcases ho.hat with ⟨h0,h1,_⟩|⟨b,m,ha,h1,h2,h3,_⟩
 ·left;exact ⟨List.length_eq_zero_iff.1 (by rw[ho.hlen,h1];simp),by rw[h0];exact spotN_n⟩
 ·rw[ha];exact Sl.row h3 h1
def blk (a:Option Addr)(i:Nat):Prop:=∃ o s,a=some ⟨i,o,s⟩
theorem Own.frame {h h':Heap}{e n:Nat}{a:Option Addr}{len c:Nat}{cs:List Value}(ho:Own h e n a len c cs)(hlo:h'.lo=h.lo)(hn:h.next≤h'.next)(hc:∀ b,blk a b→b<h.next→cells h' b=cells h b):Own h' e n a len c cs:=by
 refine ⟨ho.hlen,foneL_mono hn ho.hfone,?_⟩
 rcases ho.hat with h0|⟨b,m,ha,h1,h2,h3,h4⟩
 ·exact .inl h0
 ·exact .inr ⟨b,m,ha,by rw[hlo];exact h1,by omega,by rw[hc b ⟨0,none,ha⟩ h2];exact h3,h4⟩
structure Grew (h h':Heap)(S:Nat→Prop):Prop where
 next:h.next≤h'.next
 lo:h'.lo=h.lo
 get:∀ i,i<h.next→¬ S i→h'.get i=h.get i
theorem Grew.refl (h:Heap)(S:Nat→Prop):Grew h h S:=⟨Nat.le_refl _,rfl,λ_ _ _=>rfl⟩
theorem Grew.trans {h h1 h2:Heap}{S T:Nat→Prop}(g:Grew h h1 S)(g':Grew h1 h2 T)(hT:∀ i,i<h.next→T i→S i):Grew h h2 S:=
 ⟨Nat.le_trans g.next g'.next,g'.lo.trans g.lo,λi hi hs=>(g'.get i (Nat.lt_of_lt_of_le hi g.next) (λht=>hs (hT i hi ht))).trans (g.get i hi hs)⟩
theorem Grew.mono {h h':Heap}{S T:Nat→Prop}(g:Grew h h' S)(hT:∀ i,i<h.next→S i→T i):Grew h h' T:=⟨g.next,g.lo,λi hi hs=>g.get i hi λh=>hs (hT i hi h)⟩
theorem Grew.cells {h h':Heap}{S:Nat→Prop}(g:Grew h h' S){i:Nat}(hi:i<h.next)(hs:¬ S i):cells h' i=cells h i:=cells_of_get (g.get i hi hs)
theorem Grew.add (h:Heap)(x:AObj)(S:Nat→Prop):Grew h (h.add x) S:=⟨by rw[next_add];omega,lo_add x,λi hi _=>get_add_n x i (by omega)⟩
theorem Grew.put (h:Heap)(b:Nat)(x:AObj){S:Nat→Prop}(hb:b<h.next→S b):Grew h (h.put b x) S:=⟨Nat.le_refl _,rfl,λi hi hs=>get_put_n b x i (λe=>hs (by subst e;exact hb hi))⟩
theorem Sl.grew {h h':Heap}{S:Nat→Prop}{a:Option Addr}{cs:List Value}(hs:Sl h a cs)(g:Grew h h' S)(hS:∀ b,blk a b→cs≠[]→b<h.next∧¬ S b):Sl h' a cs:=
 hs.frame g.lo λb o ha hne=>(by obtain ⟨h1,h2⟩:=hS b ⟨o,none,ha⟩ hne;exact g.cells h1 h2)
theorem Own.grew {h h':Heap}{S:Nat→Prop}{e n:Nat}{a:Option Addr}{len c:Nat}{cs:List Value}(ho:Own h e n a len c cs)(g:Grew h h' S)(hS:∀ b,blk a b→b<h.next→¬ S b):Own h' e n a len c cs:=
 ho.frame g.lo g.next λb hb hlt=>g.cells hlt (hS b hb hlt)
theorem appT_spec {P:Program}{sT xT e n by_:Nat}(h:appT P sT xT=some (e,n,by_)):∃ dx i z,P.underlying sT=some (.slice e)∧P.underlying xT=some dx∧(∀ k,dx≠.int k)∧P.info? e=some i∧i.zero=some z∧z.cells.size=n∧i.size=n∧i.bytes=by_∧0<n:=by
 unfold appT at h
 split at h
 ·rename_i e' hs
  split at h
  ·cases h
  ·cases h
  ·rename_i dx hdx hx
   split at h
   ·rename_i i hi
    split at h
    ·rename_i z hz
     split at h
     ·rename_i hb
      cases h
      simp only[Bool.and_eq_true,Nat.beq_eq,Nat.blt_eq] at hb
      exact ⟨dx,i,z,hs,hx,λk e=>hdx k e,hi,hz,hb.1,rfl,rfl,hb.2⟩
     ·cases h
    ·cases h
   ·cases h
 ·cases h
def evAppB (e : TypeId) (i : TypeInfo) (base : Option Addr) (n cap : Nat) (x : Value) (m : Nat) (h : Heap) : Option (Value × Heap) :=
   let size:=i.size
   match srcCells size m x h with
   | none=>none
   | some new=>
    match Nat.blt cap UC with
    | true=>match Nat.ble (n+m) cap with
     | true=>match base with
      | none=>match new with | []=>some (.slice none (n+m) cap,h) | _=>none
      | some ⟨b,off,sp⟩=>match m with
       | 0=>some (.slice base (n+0) cap,h)
       | m+1=>match sp with
       | none=>match cells h b with
        | some (cs,e',mo)=>match Nat.ble h.lo b,setN cs (off+n*size) new with
         | true,some cs'=>some (.slice base (n+(m+1)) cap,h.put b ⟨.cells ⟨cs'⟩ e',mo⟩)
         | _,_=>none
        | none=>none
       | some _=>none
     | false=>match srcCells size n (.slice base n cap) h,(Nat.ble ((n+m)*i.bytes) 140737488355328&&Nat.blt (n+m) U),i.zero with
      | some old,true,some z=>match Nat.beq z.cells.size size&&Nat.blt 0 size with
       | true=>match mkRow h e (old++new) true with
        | some (b,h')=>some (.slice (some ⟨b,0,none⟩) (n+m) UC,h')
        | none=>none
       | false=>none
      | _,_,_=>none
    | false=>match appIn e size n cap m base new h with
     | some r=>some r
     | none=>match base with
     | some ⟨b,0,none⟩=>match cells h b with
      | some (cs,e',true)=>match Nat.beq e' e&&Nat.beq cap UC&&Nat.ble h.lo b&&Nat.beq cs.length (n*size)&&(Nat.ble ((n+m)*i.bytes) 140737488355328&&Nat.blt (n+m) U),i.zero with
       | true,some z=>match Nat.beq z.cells.size size&&Nat.blt 0 size&&foneL h.next new with
        | true=>some (.slice (some ⟨h.next,0,none⟩) (n+m) UC,{ t:=(h.t.put h.next ⟨.cells ⟨cs++new⟩ e,true⟩).put b (lentO h.next e cs),next:=h.next+1,lo:=h.lo })
        | false=>none
       | _,_=>none
      | _=>none
     | _=>none
theorem evAppend_b {P:Program}{sT xT e:TypeId}{dx:TypeDesc}{i:TypeInfo}(hs:P.underlying sT=some (.slice e))(hxT:P.underlying xT=some dx)(hni:∀ k,dx≠.int k)(hi:P.info? e=some i){x:Value}{m:Nat}(hl:lenV x=some m)(base:Option Addr)(n cap:Nat)(h:Heap) :
  evAppend P sT xT (.slice base n cap) x h=evAppB e i base n cap x m h:=by
 unfold evAppend
 rw[hs,hl,hxT]
 cases dx<;>first|exact absurd rfl (hni _)|(dsimp only;rw[hi];rfl)
theorem appIn_tip {e n len m b:Nat}{h:Heap}{cs xs:List Value}(hc:cells h b=some (cs,e,true))(hl:cs.length=len*n):appIn e n len UC m (some ⟨b,0,none⟩) xs h=none:=by
 have h1:Nat.blt (0+len*n) cs.length=false:=by rw[Bool.eq_false_iff];intro h;rw[Nat.blt_eq] at h;omega
 unfold appIn
 dsimp only
 rw[hc]
 dsimp only
 rw[h1]
 simp only[Bool.and_false,Bool.false_and]
theorem own_append {P:Program}{sT xT e n by_:Nat}(hT:appT P sT xT=some (e,n,by_)){h:Heap}{a:Option Addr}{len c:Nat}{cs:List Value}(ho:Own h e n a len c cs)(hln:h.lo≤h.next)
  {x:Value} {m:Nat} {xs:List Value} (hl:lenV x=some m) (hx:srcCells n m x h=some xs) (hxl:xs.length=m*n) (hxf:foneL h.next xs=true) (hb:(len+m)*by_≤140737488355328∧(len+m)<100000000000000) :
  ∃ a' c' h',evAppend P sT xT (.slice a len c) x h=some (.slice a' (len+m) c',h')∧Own h' e n a' (len+m) c' (cs++xs)∧Grew h h' (blk a)∧(∀ b,blk a' b→blk a b∨h.next≤b):=by
 obtain ⟨dx,i,z,hs,hxT,hni,hi,hz,hzz,hsz,hby,hn⟩:=appT_spec hT
 have hlen:(cs++xs).length=(len+m)*n:=by rw[List.length_append,ho.hlen,hxl,Nat.add_mul]
 have hfon:foneL h.next (cs++xs)=true:=by
  have h1:=ho.hfone
  simp only[foneL_eq,Bool.and_eq_true,List.all_eq_true] at h1 hxf ⊢
  refine ⟨λv hv=>?_,scL_of_all λv hv=>?_⟩
  ·rcases List.mem_append.1 hv with hv|hv
   ·exact h1.1 v hv
   ·exact hxf.1 v hv
  ·rcases List.mem_append.1 hv with hv|hv
   ·exact scL_all h1.2 v hv
   ·exact scL_all hxf.2 v hv
 have hbnd:(Nat.ble ((len+m)*i.bytes) 140737488355328&&Nat.blt (len+m) U)=true:=by
  rw[hby];simp only[Bool.and_eq_true,Nat.ble_eq,Nat.blt_eq];unfold U;exact hb
 have hcond:(Nat.beq z.cells.size i.size&&Nat.blt 0 i.size)=true:=by
  rw[hsz];simp only[Bool.and_eq_true,Nat.beq_eq,Nat.blt_eq];exact ⟨hzz,hn⟩
 have hgrow : ∀ (base : Option Addr) (cap : Nat), Nat.blt cap UC = true → Nat.ble (len + m) cap = false → srcCells n len (.slice base len cap) h = some cs →
   evAppend P sT xT (.slice base len cap) x h=some (.slice (some ⟨h.next,0,none⟩) (len+m) UC,h.add (O (cs++xs) e true)):=by
  intro base cap h1 h2 h3
  rw[evAppend_b hs hxT hni hi hl]
  unfold evAppB
  dsimp only
  rw[hsz,hx,h1]
  dsimp only
  rw[h2]
  dsimp only
  rw[h3,hz]
  rw[hsz] at hcond
  simp only[hbnd,hcond,mkRow_eq hfon]
 have hfresh:∀ q,Own (h.add (O (cs++xs) e true)) e n (some ⟨h.next,0,none⟩) (len+m) UC (cs++xs)∧Grew h (h.add (O (cs++xs) e true)) q∧(∀ b,blk (some (⟨h.next,0,none⟩:Addr)) b→blk a b∨h.next≤b):=λq=>
  ⟨⟨hlen,foneL_mono (by rw[next_add];omega) hfon,.inr ⟨h.next,true,rfl,by rw[lo_add];exact hln,by rw[next_add];omega,cells_add_s _ _ _ _ rfl,.inl ⟨rfl,rfl⟩⟩⟩,Grew.add _ _ _,λb hb=>by
   obtain ⟨o,s,hb⟩:=hb
   right
   cases hb
   exact Nat.le_refl _⟩
 rcases ho.hat with ⟨rfl,rfl,rfl⟩|⟨b,mo,rfl,h1,h2,h3,h4⟩
 ·-- none
  have hcs:cs=[]:=List.length_eq_zero_iff.1 (by rw[ho.hlen];simp)
  cases m with
  | zero=>
   have hxs:xs=[]:=List.length_eq_zero_iff.1 (by rw[hxl];simp)
   subst hcs hxs
   refine ⟨none,0,h,?_,ho,Grew.refl _ _,λb hb=>.inl hb⟩
   rw[evAppend_b hs hxT hni hi hl]
   unfold evAppB
   dsimp only
   rw[hsz,hx]
   have:Nat.blt 0 UC=true:=by simp only[Nat.blt_eq];exact UC_pos
   rw[this]
  | succ m=>
   have h0:Nat.blt 0 UC=true:=by simp only[Nat.blt_eq];exact UC_pos
   have h5:Nat.ble (0+(m+1)) 0=false:=by rw[Bool.eq_false_iff];simp
   obtain ⟨q1,q2,q3⟩:=hfresh (blk none)
   exact ⟨_,_,_,hgrow none 0 h0 h5 (by rw[hcs];rfl),q1,q2,q3⟩
 ·rcases h4 with ⟨rfl,rfl⟩|⟨rfl,rfl⟩
  ·-- a row whose capacity is not known
   refine ⟨some ⟨h.next,0,none⟩,UC,{ t:=(h.t.put h.next ⟨.cells ⟨cs++xs⟩ e,true⟩).put b (lentO h.next e cs),next:=h.next+1,lo:=h.lo },?_,?_,?_,?_⟩
   ·rw[evAppend_b hs hxT hni hi hl]
    unfold evAppB
    dsimp only
    rw[hsz,hx]
    have h0:Nat.blt UC UC=false:=by rw[Bool.eq_false_iff];simp
    have h5:(Nat.beq e e&&Nat.beq UC UC&&Nat.ble h.lo b&&Nat.beq cs.length (len*n)&&(Nat.ble ((len+m)*i.bytes) 140737488355328&&Nat.blt (len+m) U))=true:=by
     simp only[Bool.and_eq_true,Nat.beq_eq,Nat.ble_eq]
     exact ⟨⟨⟨⟨trivial,trivial⟩,h1⟩,ho.hlen⟩,by simpa only [Bool.and_eq_true,Nat.ble_eq] using hbnd⟩
    rw[hsz] at hcond
    have h6:(Nat.beq z.cells.size n&&Nat.blt 0 n&&foneL h.next xs)=true:=by rw[hcond,hxf];rfl
    simp only[h0,appIn_tip h3 ho.hlen,h3,h5,hz,h6]
   ·refine ⟨hlen,foneL_mono (Nat.le_succ _) hfon,.inr ⟨h.next,true,rfl,by show h.lo≤h.next;omega,Nat.lt_succ_self _,?_,.inl ⟨rfl,rfl⟩⟩⟩
    unfold Ev.cells
    have:=get_move (h:=h) (b:=b) (x':=⟨.cells ⟨cs++xs⟩ e,true⟩) (y:=lentO h.next e cs) h.next
    rw[if_neg (by omega),if_pos rfl] at this
    rw[this]
   ·refine ⟨Nat.le_succ _,rfl,λj hj hb=>?_⟩
    have:=get_move (h:=h) (b:=b) (x':=⟨.cells ⟨cs++xs⟩ e,true⟩) (y:=lentO h.next e cs) j
    rw[if_neg (λe=>hb ⟨0,none,by rw[e]⟩),if_neg (by omega)] at this
    exact this
   ·intro j hj
    obtain ⟨o,s,hj⟩:=hj
    cases hj
    exact .inr (Nat.le_refl _)
  ·have hc : c < UC := by
    have:=U_UC
    unfold U at this
    omega
   have h0:Nat.blt c UC=true:=by simpa using hc
   cases m with
   | zero=>
    have hxs:xs=[]:=List.length_eq_zero_iff.1 (by rw[hxl];simp)
    subst hxs
    refine ⟨some ⟨b,0,none⟩,c,h,?_,by simpa using ho,Grew.refl _ _,λb hb=>.inl hb⟩
    rw[evAppend_b hs hxT hni hi hl]
    unfold evAppB
    dsimp only
    rw[hsz,hx,h0]
    dsimp only
    have:Nat.ble (c+0) c=true:=by simp
    rw[this]
   | succ m=>
    have h5:Nat.ble (c+(m+1)) c=false:=by rw[Bool.eq_false_iff];simp
    obtain ⟨q1,q2,q3⟩:=hfresh (blk (some ⟨b,0,none⟩))
    exact ⟨_,_,_,hgrow _ c h0 h5 (ho.sl.src ho.hlen hn),q1,q2,q3⟩
end
end Go.Ev
namespace Go.Ev
open Go Go.RowKit
attribute [push_cast] evMarks_nil evRes_0 evRes_1 evRes_2 evRes_3 evRes_4 evRes_c1 keptP_nil keptP_cons CallV_func0 put_s put_n FR_g FR_g0 enumA_nil enumA_cons ev_tmp ev_const ev_func ev_global pickV_t pickV_f extV_t unV_not unV_neg faV_p fdV_a partL_f partL_t iaV_s iaV_a ixV_a ncV_p ncV_f miV_f lnB_l bdV_s fillP_nil fillP_cons fillQ_s tp_move tv_move tp_assign tv_assign tp_pick tv_pick tp_extract tv_extract tp_bin tv_bin tp_un tv_un tp_fa tv_fa tp_fd tv_fd tp_ia tv_ia tp_ix tv_ix tp_nc tv_nc tp_mf tv_mf tp_mi tv_mi tp_build tv_build tp_len tv_len tp_min tv_min tp_max tv_max tv_load tv_slice tv_convert te_alloc te_box te_bs te_store te_ms te_append b_add b_sub b_mul b_quo b_rem b_lss b_leq b_gtr b_geq b_eql b_neq b_shr b_shl b_eqlb b_neqb b_eqln b_neqn b_eqlp b_neqp wrap_i64 next_put lo_put next_add lo_add cells_put_s cells_put_n cells_add_s cells_add_n fone_bool fone_int fone_str fone_p0 fone_s0 fone_m0 fone_nf fone_ni fone_p fone_s foneL_nil foneL_cons vcells_int vcells_bool vcells_str vcells_p vcells_s vcells_m vcells_f vcells_nf vcells_i vcells_ni vcells_a load_eq ldC_own stE_eq stC_s bxE_s alE_s bsE_eq bsC_s msE_s setFrom List.take_zero List.take_succ_cons List.drop_zero List.drop_succ_cons List.take_nil List.drop_nil List.nil_append List.cons_append List.append_nil List.length_cons List.length_nil List.getElem?_cons_zero List.getElem?_cons_succ List.map_cons List.map_nil Option.map_some Option.map_none Nat.zero_add Nat.add_zero if_true if_false decide_true decide_false Bool.not_true Bool.not_false true_and and_true List.size_toArray or_true true_or List.mem_cons List.mem_nil_iff List.not_mem_nil or_false false_or Nat.zero_mul Nat.mul_one Nat.mul_zero Nat.lt_irrefl Option.isNone_some Option.isNone_none Nat.succ_ne_zero eq_self ite_true ite_false Int.natCast_zero Nat.sub_zero q_bool q_int q_str q_p0 q_s0 q_m0 q_nf q_ni q_p q_s q_nil q_cons q_func q_scn q_scc q_scp q_scs q_sci q_scb q_sct and_self
end Go.Ev
namespace Go.Ev
open Go Go.RowKit
noncomputable section
theorem evMarks_cons {d:Nat}{ds:List Nat}{h:Heap}{m:Bool}(hd:h.get d=some ⟨.deferred (some []),m⟩)(hlo:h.lo≤d):evMarks (d :: ds) h=evMarks ds (h.put d ⟨.deferred none,false⟩):=by
 have:Nat.ble h.lo d=true:=by simpa using hlo
 simp only[evMarks,hd,this]
theorem getLoopA_of {h:Heap}{l:Nat}{r:Loop}{m:Bool}(hg:h.get l=some ⟨.loop r,m⟩)(hlo:h.lo≤l):getLoopA h l=some r:=by
 have:Nat.ble h.lo l=true:=by simpa using hlo
 unfold getLoopA
 rw[hg]
 dsimp only
 rw[this]
structure LoopAt (h0:Heap)(r:Loop)(h:Heap):Prop where
 next:h0.next+2≤h.next
 lo:h.lo=h0.lo
 mark:h.get h0.next=some ⟨.deferred (some []),false⟩
 loop:h.get (h0.next+1)=some ⟨.loop r,false⟩
theorem LoopAt.grew {h0 h h':Heap}{r:Loop}{S:Nat→Prop}(q:LoopAt h0 r h)(g:Grew h h' S)(hd:¬ S h0.next)(hl:¬ S (h0.next+1)):LoopAt h0 r h':=by
 have:=q.next
 exact ⟨Nat.le_trans q.next g.next,g.lo.trans q.lo,(g.get _ (by omega) hd).trans q.mark,(g.get _ (by omega) hl).trans q.loop⟩
end
end Go.Ev
namespace Go.Ev
open Go Go.RowKit
noncomputable section
section
variable {P:Program} {h:Heap} {s d t:TypeId}
theorem cnvT_0 {k:IntKind}(hT:cnvT P s d=some (0,some k,0)):∃ j,P.underlying s=some (.int j)∧P.underlying d=some (.int k):=by
 unfold cnvT at hT
 repeat' (first|(split at hT)|(cases hT;done))
 all_goals first|(cases hT;done)|skip
 all_goals (cases hT;exact ⟨_,by assumption,by assumption⟩)
theorem cv_int {k j:IntKind}{n:Int}(hT:cnvT P s d=some (0,some k,0)):cvV P s d (.int j n) h=some (.int k (k.wrap n)):=by
 obtain ⟨i,h1,h2⟩:=cnvT_0 hT
 refine cvV_p _ _ _ _ ?_
 simp only[cvP,flat,pvF,convert,pv_bind,pv_under h1,pv_under h2,Option.bind_some,Conv.intToInt,pv_pure]
def cvE (P : Program) (s d : TypeId) (v : Value) (h : Heap) : Option (Value × Heap) := match P.underlying s, P.underlying d, v with
  | some .string,some (.slice e),.string b=>match P.underlying e,szT P e with
   | some (.int .u8),some 1=>match Nat.blt b.size U with
    | true=>match mkRow h e (b.data.toList.map λx=>.int .u8 x.toNat) true with
     | some (g,h')=>some (.slice (some ⟨g,0,none⟩) b.size UC,h')
     | none=>none
    | false=>none
   | _,_=>none
  | some (.slice _),some (.slice e),.slice (some ⟨g,off,spot⟩) n c=>markEff P s d e g (.slice (some ⟨g,off,spot⟩) n c) h
  | _,_,_=>none
theorem te_cv (x:Operand)(tm:VT):te P (.convert s d x) t tm h=cvE P s d (ev tm x) h:=rfl
theorem mnV_int (ts:Array TypeId)(t:TypeId)(k j:IntKind)(a b:Int):mnV P ts t [.int k a,.int j b]=some (.int k (min a b)):=by
 have:(if b<a then b else a)=min a b:=by omega
 simp only[mnV,flatL,flat,Builtin.min_,List.foldlM,Builtin.min2,pvF]
 show pv P (pure (Value.int k (if b<a then b else a)))=_
 rw[this];rfl
theorem sliceWide_no {P:Program}{t:TypeId}{a:Option Addr}{len c l h':Nat}{m:Option Nat}{lo hi mx:Option Value}{h:Heap}(hb:bounds len len mx hi lo=some (l,h',m)):sliceWide P t a len c lo hi mx h=none:=by
 have hk:=bounds_key hb
 unfold sliceWide
 split
 ·split
  ·split
   ·split
    ·rename_i l2 h2 hb2
     have hk2:=bounds_key hb2
     have:Nat.blt len h2=false:=by
      rw[Bool.eq_false_iff]
      intro h0
      rw[Nat.blt_eq] at h0
      rcases hk2.2.1 with ⟨e1,e2,e3⟩|⟨k2,e1,e3⟩
      ·omega
      ·rcases hk.2.1 with ⟨f1,f2,f3⟩|⟨k1,f1,f3⟩
       ·rw[e1] at f1;cases f1
       ·rw[e1] at f1;cases f1;rcases hk.1 with ⟨_,g⟩|⟨_,mm,_,g,g2⟩<;>(rw[g] at f3;simp only[Option.getD_none,Option.getD_some] at f3;omega)
     rw[this]
     rfl
    ·rfl
   ·rfl
  ·rfl
 ·rfl
end
end
end Go.Ev
namespace Go.Ev
open Go Go.RowKit
noncomputable section
abbrev Tx (l:List UInt8):ByteArray:=⟨⟨l⟩⟩
theorem Tx_size (l:List UInt8):(Tx l).size=l.length:=rfl
theorem Tx_app (a b:List UInt8):Tx a++Tx b=Tx (a++b):=by
 apply ByteArray.ext
 simp[ByteArray.data_append]
theorem Tx_extract (l:List UInt8)(a b:Nat):(Tx l).extract a b=Tx ((l.drop a).take (b-a)):=by
 apply ByteArray.ext
 apply Array.ext'
 simp[ByteArray.data_extract,List.take_drop]
abbrev bt (l:List UInt8)(i:Nat):Int:=((l.getD i 0).toNat:Int)
section
variable {P:Program} {h:Heap} {t:TypeId}
theorem pv_bound {k:IntKind}{i:Int}{y:Nat}{c:BoundsCode}(h0:0≤i)(h1:i≤y):pv P (Instr.sliceBound (.int k i) y c)=some i.toNat:=by
 simp only[Instr.sliceBound,asIntOf,pv_bind,pv_pure,Option.bind_some]
 rw[if_pos ⟨h0,h1⟩]
 rfl
theorem slV_lh {k j:IntKind}{a b:Int}{l:List UInt8}(hT:slcT P t=some none)(h0:0≤a)(h1:a≤b)(h2:b≤l.length) :
  slV P t (.string (Tx l)) (some (.int k a)) (some (.int j b)) none h=some (.string (Tx ((l.drop a.toNat).take (b.toNat-a.toNat)))):=by
 have hu:P.underlying t=some .string:=by
  unfold slcT at hT;split at hT
  ·assumption
  ·split at hT<;>cases hT
  ·cases hT
 have e1:=pv_bound (P:=P) (k:=j) (c:=.sliceAlen) (show 0≤b by omega) (show b≤(Tx l).size from h2)
 have e2:=pv_bound (P:=P) (k:=k) (c:=.sliceB) h0 (show a≤(b.toNat:Int) by omega)
 simp only[slV,Option.all_some,Option.all_none,flat,Bool.and_self,pvF,Instr.sliceAt,Instr.slice,pv_bind,pv_under hu,Option.bind_some,Option.isSome_none,Bool.false_eq_true,if_false,Instr.sliceBounds,pv_pure,e1,e2,Tx_extract]
theorem slV_l {k:IntKind}{a:Int}{l:List UInt8}(hT:slcT P t=some none)(h0:0≤a)(h1:a≤l.length) :
  slV P t (.string (Tx l)) (some (.int k a)) none none h=some (.string (Tx (l.drop a.toNat))):=by
 have hu:P.underlying t=some .string:=by
  unfold slcT at hT;split at hT
  ·assumption
  ·split at hT<;>cases hT
  ·cases hT
 have e2:=pv_bound (P:=P) (k:=k) (c:=.sliceB) h0 (show a≤((Tx l).size:Int) from h1)
 have e3:(l.drop a.toNat).take ((Tx l).size-a.toNat)=l.drop a.toNat:=List.take_of_length_le (by simp[Tx_size])
 simp only[slV,Option.all_some,Option.all_none,flat,Bool.and_self,Bool.and_true,pvF,Instr.sliceAt,Instr.slice,pv_bind,pv_under hu,Option.bind_some,Option.isSome_none,Bool.false_eq_true,if_false,Instr.sliceBounds,pv_pure,e2,Tx_extract,e3]
theorem slV_h {j:IntKind}{b:Int}{l:List UInt8}(hT:slcT P t=some none)(h0:0≤b)(h2:b≤l.length) :
  slV P t (.string (Tx l)) none (some (.int j b)) none h=some (.string (Tx (l.take b.toNat))):=by
 have hu:P.underlying t=some .string:=by
  unfold slcT at hT;split at hT
  ·assumption
  ·split at hT<;>cases hT
  ·cases hT
 have e1:=pv_bound (P:=P) (k:=j) (c:=.sliceAlen) h0 (show b≤(Tx l).size from h2)
 simp only[slV,Option.all_some,Option.all_none,flat,Bool.and_self,Bool.and_true,Bool.true_and,pvF,Instr.sliceAt,Instr.slice,pv_bind,pv_under hu,Option.bind_some,Option.isSome_none,Bool.false_eq_true,if_false,Instr.sliceBounds,pv_pure,e1,Tx_extract,Nat.sub_zero,List.drop_zero]
theorem ixV_t (l:List UInt8)(k:IntKind)(i:Int)(h0:0≤i)(hi:i<l.length):ixV (some none) (.string (Tx l)) (.int k i)=some (.int .u8 (bt l i.toNat)):=
 ixV_s (Tx l) k i h0 hi
theorem lnB_t (l:List UInt8):lnB (some true) (.string (Tx l))=some (.int .i64 l.length):=rfl
theorem b_eqlt {x y:Operand}{ty:TypeId}{a b:List UInt8}:binPure P .eql ty x y (.string (Tx a)) (.string (Tx b))=some (.bool (decide (a=b))):=by
 rw[b_eqls];congr 2;rw[Bool.eq_iff_iff];simp
theorem b_neqt {x y:Operand}{ty:TypeId}{a b:List UInt8}:binPure P .neq ty x y (.string (Tx a)) (.string (Tx b))=some (.bool (!decide (a=b))):=by
 rw[b_neqs];congr 2;rw[Bool.eq_iff_iff];simp
theorem b_addt {x y:Operand}{ty:TypeId}{a b:List UInt8}(hs:a.length+b.length≤9223372036854775807):binPure P .add ty x y (.string (Tx a)) (.string (Tx b))=some (.string (Tx (a++b))):=by
 rw[b_adds (a:=Tx a) (b:=Tx b) hs,Tx_app]
def isStr (P:Program)(t:TypeId):Bool:=match P.underlying t with|some .string=>true|_=>false
theorem isStr_eq (hT:isStr P t=true):P.underlying t=some .string:=by
 unfold isStr at hT;split at hT
 ·assumption
 ·cases hT
def itO (s:ByteArray)(p:Nat):AObj:=⟨.stringIter s p,false⟩
def rgE (q:Bool)(v:Value)(h:Heap):Option (Value×Heap):=match q,v with
 | true,.string s=>some (.pointer (some ⟨h.next,0,none⟩),h.add (itO s 0))
 | _,_=>none
theorem te_range {ty:TypeId}{x:Operand}{tm:VT}(hT:isStr P ty=true):te P (.range ty x) t tm h=rgE true (ev tm x) h:=by
 have hu:=isStr_eq hT
 have e:te P (.range ty x) t tm h=evEff P (bare (.range ty x) t) tm h:=rfl
 rw[e]
 simp only[bare,evEff,hu,Heap.add]
 cases ev tm x<;>rfl
theorem rgE_s (s:ByteArray):rgE true (.string s) h=some (.pointer (some ⟨h.next,0,none⟩),h.add (itO s 0)):=rfl
def nxE (v : Value) (h : Heap) : Option (Value × Heap) := match v with
  | .pointer (some ⟨b,0,none⟩)=>match h.get b,Nat.ble h.lo b with
   | some ⟨.stringIter s pos,false⟩,true=>match Nat.blt pos s.size with
    | true=>some (.tuple #[.bool true,goInt pos,.int .i32 (Utf8.decode s pos).1],h.put b ⟨.stringIter s (pos+(Utf8.decode s pos).2),false⟩)
    | false=>some (.tuple #[.bool false],h)
   | _,_=>none
  | _=>none
theorem te_next {x:Operand}{tm:VT}:te P (.next x true) t tm h=nxE (ev tm x) h:=rfl
theorem nxE_t (b pos:Nat)(l:List UInt8)(hg:h.get b=some (itO (Tx l) pos))(hlo:h.lo≤b)(hp:pos<l.length) :
  nxE (.pointer (some ⟨b,0,none⟩)) h=some (.tuple #[.bool true,.int .i64 pos,.int .i32 (Utf8.decode (Tx l) pos).1],h.put b (itO (Tx l) (pos+(Utf8.decode (Tx l) pos).2))):=by
 have h1:Nat.ble h.lo b=true:=by simpa using hlo
 have h2:Nat.blt pos (Tx l).size=true:=by simpa[Tx_size] using hp
 simp only[nxE,hg,itO,h1,h2,goInt]
theorem nxE_f (b pos:Nat)(l:List UInt8)(hg:h.get b=some (itO (Tx l) pos))(hlo:h.lo≤b)(hp:l.length≤pos) :
  nxE (.pointer (some ⟨b,0,none⟩)) h=some (.tuple #[.bool false],h):=by
 have h1:Nat.ble h.lo b=true:=by simpa using hlo
 have h2:Nat.blt pos (Tx l).size=false:=by rw[Bool.eq_false_iff];simpa[Tx_size] using hp
 simp only[nxE,hg,itO,h1,h2]
end
end
end Go.Ev
namespace Go.Ev
open Go Go.RowKit
noncomputable section
attribute [push_cast] slV_lh slV_l slV_h ixV_t lnB_t b_eqlt b_neqt b_addt te_range rgE_s te_next nxE_t nxE_f get_add_s get_put_s get_add_n get_put_n cells_add_n cv_int te_cv
theorem CallE.to {p:Par}{g:FuncId}{args:List Value}{h:Heap}{R k:Value→Heap→Prop}(hc:CallE p g args h R)(hk:∀ v h',R v h'→k v h'):CallW p g args h k:=(hc.mono hk).w
theorem W.loopI {p:Par}(good:GoodP p){ro:Option Nat}{b:IR}{R:XExit→S→Prop}(I:Nat→S→Prop)(h:∀ n s1,I n s1→vc p ro b s1 (thenR (λs2=>∃ m,m<n∧I m s2) R)) :
  ∀ n s,I n s→W p ro (.loop b) s R:=by
 intro n
 induction n using Nat.strongRecOn with
 | ind n ih=>
  intro s hI
  refine W.round good (vc_mono _ _ _ _ ?_ (h n s hI))
  intro e s2 hr
  cases e with
  | normal=>obtain ⟨m,hm,h2⟩:=hr;exact ih m hm s2 h2
  | exit i=>exact hr
  | goto l=>exact hr
  | ret=>exact hr
theorem scopeR_n {p:Par}{ro:Option Nat}{b:Code}{R:XExit→S→Prop}{s:S}:scopeR p ro b R .normal s=R .normal s:=rfl
theorem scopeR_r {p:Par}{ro:Option Nat}{b:Code}{R:XExit→S→Prop}{s:S}:scopeR p ro b R .ret s=R .ret s:=rfl
theorem scopeR_e {p:Par}{ro:Option Nat}{b:Code}{R:XExit→S→Prop}{s:S}{i:Nat}:scopeR p ro b R (.exit i) s=R (.exit i) s:=rfl
attribute [push_cast] scopeR_n scopeR_r scopeR_e
end
end Go.Ev
namespace Go.Ev
open Go Go.RowKit
noncomputable section
def gT (v:Value)(w:Bool)(A:Option Value)(B:Option (Value×Value))(h:Heap)(K:Value→Heap→Prop):Prop:=gV v w (oT A B h K) (K undef h)
def gE (v:Value)(w:Bool)(A:Option (Value×Heap))(h:Heap)(K:Value→Heap→Prop):Prop:=gV v w (oE A K) (K undef h)
def gP (v:Value)(w:Bool)(A:Option Value)(h:Heap)(K:Value→Heap→Prop):Prop:=gV v w (oP A h K) (K undef h)
def gC (p:Par)(v:Value)(w:Bool)(f:Value)(args:List Value)(h:Heap)(K:Value→Heap→Prop):Prop:=gV v w (CallV p f args h K) (K undef h)
@[congr] theorem gT_congr {v v':Value} {w:Bool} {A:Option Value} {B:Option (Value×Value)} {h:Heap} {K:Value→Heap→Prop} (e:v=v'):gT v w A B h K=gT v' w A B h K:=by rw[e]
@[congr] theorem gE_congr {v v':Value} {w:Bool} {A:Option (Value×Heap)} {h:Heap} {K:Value→Heap→Prop} (e:v=v'):gE v w A h K=gE v' w A h K:=by rw[e]
@[congr] theorem gP_congr {v v':Value} {w:Bool} {A:Option Value} {h:Heap} {K:Value→Heap→Prop} (e:v=v'):gP v w A h K=gP v' w A h K:=by rw[e]
@[congr] theorem gC_congr {p:Par} {v v':Value} {w:Bool} {f:Value} {args:List Value} {h:Heap} {K:Value→Heap→Prop} (e:v=v'):gC p v w f args h K=gC p v' w f args h K:=by rw[e]
section
variable {p:Par} {w:Bool} {A:Option Value} {B:Option (Value×Value)} {E:Option (Value×Heap)} {h:Heap} {K:Value→Heap→Prop} {f:Value} {args:List Value}
theorem gT_tt:gT (.bool true) true A B h K=oT A B h K:=gV_tt
theorem gT_ff:gT (.bool false) false A B h K=oT A B h K:=gV_ff
theorem gT_tf:gT (.bool true) false A B h K=K undef h:=gV_tf
theorem gT_ft:gT (.bool false) true A B h K=K undef h:=gV_ft
theorem gT_u:gT undef w A B h K=K undef h:=propext Iff.rfl
theorem gE_tt:gE (.bool true) true E h K=oE E K:=gV_tt
theorem gE_ff:gE (.bool false) false E h K=oE E K:=gV_ff
theorem gE_tf:gE (.bool true) false E h K=K undef h:=gV_tf
theorem gE_ft:gE (.bool false) true E h K=K undef h:=gV_ft
theorem gE_u:gE undef w E h K=K undef h:=propext Iff.rfl
theorem gP_tt:gP (.bool true) true A h K=oP A h K:=gV_tt
theorem gP_ff:gP (.bool false) false A h K=oP A h K:=gV_ff
theorem gP_tf:gP (.bool true) false A h K=K undef h:=gV_tf
theorem gP_ft:gP (.bool false) true A h K=K undef h:=gV_ft
theorem gP_u:gP undef w A h K=K undef h:=propext Iff.rfl
theorem gC_tt:gC p (.bool true) true f args h K=CallV p f args h K:=gV_tt
theorem gC_ff:gC p (.bool false) false f args h K=CallV p f args h K:=gV_ff
theorem gC_tf:gC p (.bool true) false f args h K=K undef h:=gV_tf
theorem gC_ft:gC p (.bool false) true f args h K=K undef h:=gV_ft
theorem gC_u:gC p undef w f args h K=K undef h:=propext Iff.rfl
end
def vop2 (p:Par)(g:Option (Nat×Bool))(c:Cl)(o:Op)(t:TypeId)(tm:VT)(h:Heap)(K:Value→Heap→Prop):Prop:=
 match g with
 | none=>vop p c o t tm h K
 | some (d,w)=>match c with
  | .take=>gT (tm.get d) w (tv p.P o t tm h) (tw p.P o tm h) h K
  | .eff=>gE (tm.get d) w (te p.P o t tm h) h K
  | .call=>match o with
   | .call ⟨.value f,args,_⟩=>gC p (tm.get d) w (ev tm f) (args.toList.map (ev tm)) h K
   | _=>gV (tm.get d) w False (K undef h)
  | .mp=>gV (tm.get d) w (oL (mapE p.P o tm h) K) (K undef h)
def vops2 (p:Par)(l:List It):VT→Heap→(VT→Heap→Prop)→Prop:=
 List.rec (motive:=λ_=>VT→Heap→(VT→Heap→Prop)→Prop) (λtm h K=>K tm h)
  (λx _ ih tm h K=>vop2 p x.g x.c x.o x.t tm h (λv h'=>ih (put tm x.d v) h' K)) l
theorem vops2_eq (p:Par)(K:VT→Heap→Prop):∀ (l:List It) (tm:VT) (h:Heap),vops2 p l tm h K=vops p l tm h K
 | [],tm,h=>rfl
 | x :: l,tm,h=>by
  show vop2 p x.g x.c x.o x.t tm h (λv h'=>vops2 p l (put tm x.d v) h' K)=_
  simp only[vops2_eq p K l,vops]
  obtain ⟨d,g,c,o,t⟩:=x
  cases g with
  | none=>rfl
  | some y=>
   obtain ⟨j,w⟩:=y
   cases c with
   | take=>rfl
   | eff=>rfl
   | mp=>rfl
   | call=>
    cases o with
    | call c=>obtain ⟨cl,args,ats⟩:=c;cases cl<;>rfl
    | _=>rfl
def isSl (o:Op):Bool:=match o with | .slice _ _ _ _ _=>true|_=>false
def vplan2 (p:Par):PT→HL→VT→Heap→(VT→Heap→Prop)→Prop
 | .fin,_,tm,h,K=>K tm h
 | .no,_,_,_,_=>True
 | .bad,_,_,_,_=>False
 | .take i rd x k,L,tm,h,K=>match rd with
  | false=>match x.g with
   | none=>oP (tp p.P x.o x.t tm) h (λv _=>vplan2 p k L (put tm x.d v) h K)
   | some (d,w)=>gP (tm.get d) w (tp p.P x.o x.t tm) h (λv _=>vplan2 p k L (put tm x.d v) h K)
  | true=>vgd tm x.g (match isSl x.o with
   | false=>oP (tv p.P x.o x.t tm h) h (λv _=>vplan2 p k ((i,λh'=>tv p.P x.o x.t tm h',v) :: L) (put tm x.d v) h K)
   | true => oR (tv p.P x.o x.t tm h) (tw p.P x.o tm h) (fun v => vplan2 p k ((i, fun h' => tv p.P x.o x.t tm h', v) :: L) (put tm x.d v) h K)
     (λv=>vplan2 p k ((i,λh'=>(tw p.P x.o tm h').map (·.1),v) :: L) (put tm x.d v) h K) (λv=>vplan2 p k ((i,λh'=>(tw p.P x.o tm h').map (·.2),v) :: L) (put tm x.d v) h K))
   (vplan2 p k L (put tm x.d undef) h K)
 | .eff _ x bind k alt,L,tm,h,K=>match alt with
  | .no=>vgd tm x.g (vop p x.c x.o x.t tm h λv h'=>keptK (keptP bind h' L) (vplan2 p k (dropB bind L) (put tm x.d v) h' K)) (vplan2 p k (dropB bind L) (put tm x.d undef) h K)
  | alt=>vgd tm x.g (vop p x.c x.o x.t tm h λv h'=>keptK (keptP bind h' L) (vplan2 p k (dropB bind L) (put tm x.d v) h' K)) (vplan2 p k (dropB bind L) (put tm x.d undef) h K)∧vplan2 p alt L tm h K
theorem vplan2_eq (p:Par)(K:VT→Heap→Prop):∀ (t:PT) (L:HL) (tm:VT) (h:Heap),vplan2 p t L tm h K=vplan p t L tm h K
 | .fin,L,tm,h=>rfl
 | .no,L,tm,h=>rfl
 | .bad,L,tm,h=>rfl
 | .take i rd x k,L,tm,h=>by
  simp only[vplan2,vplan,vplan2_eq p K k]
  cases rd with
  | false=>
   dsimp only
   cases x.g with
   | none=>rfl
   | some y=>obtain ⟨d,w⟩:=y;rfl
  | true=>
   dsimp only
   congr 1
   cases ho:isSl x.o with
   | true=>rfl
   | false=>
    have:tw p.P x.o tm h=none:=by
     unfold tw
     split
     ·rename_i he;rw[he] at ho;cases ho
     ·rfl
    simp only[this,oP]
 | .eff i x bind k alt,L,tm,h=>by
  simp only[vplan,← vplan2_eq p K k,← vplan2_eq p K alt]
  cases alt with
  | no=>simp only[vplan2,keptK,and_true]
  | _=>simp only[vplan2,keptK]
def vc2 (p:Par)(ro:Option Nat):IR→S→(XExit→S→Prop)→Prop
 | .bad,_,_=>False
 | .skip,s,R=>R .normal s
 | .ret,s,R=>R .ret s
 | .exit i,s,R=>R (.exit i) s
 | .goto l,s,R=>R (.goto l) s
 | .label _,s,R=>R .normal s
 | .ops l,s,R=>vops2 p l s.tm s.h λtm h=>R .normal ⟨tm,s.df,h⟩
 | .plan t,s,R=>vplan2 p t [] s.tm s.h λtm h=>R .normal ⟨tm,s.df,h⟩
 | .seq a b,s,R=>vc2 p ro a s (thenR (λs1=>vc2 p ro b s1 R) R)
 | .cond x a b,s,R=>vcond (ev s.tm x) (vc2 p ro a s R) (vc2 p ro b s R)
 | .block i b,s,R=>vc2 p ro b s (outR i R)
 | .loop b,s,R=>W p ro (.loop b) s R
 | .scope b,s,R=>WPin p ro b b s R
 | .range g ps a b,s,R=>W p ro (.range g ps a b) s R
theorem vc2_eq (p:Par)(ro:Option Nat):∀ (ir:IR) (s:S) (R:XExit→S→Prop),vc2 p ro ir s R=vc p ro ir s R
 | .bad,s,R=>rfl
 | .skip,s,R=>rfl
 | .ret,s,R=>rfl
 | .exit i,s,R=>rfl
 | .goto l,s,R=>rfl
 | .label l,s,R=>rfl
 | .ops l,s,R=>vops2_eq p _ l _ _
 | .plan t,s,R=>vplan2_eq p _ t _ _ _
 | .seq a b,s,R=>by simp only[vc2,vc,vc2_eq p ro a,vc2_eq p ro b]
 | .cond x a b,s,R=>by simp only[vc2,vc,vc2_eq p ro a,vc2_eq p ro b]
 | .block i b,s,R=>vc2_eq p ro b s _
 | .loop b,s,R=>rfl
 | .scope b,s,R=>rfl
 | .range g ps a b,s,R=>rfl
@[congr] theorem vc2_congr {p:Par} {ro:Option Nat} {ir:IR} {s:S} {R:XExit→S→Prop}:vc2 p ro ir s R=vc2 p ro ir s R:=rfl
@[congr] theorem WPin_congr {p:Par} {ro:Option Nat} {a b:Code} {s:S} {R:XExit→S→Prop}:WPin p ro a b s R=WPin p ro a b s R:=rfl
def fr0 (args:List Value)(n:Nat):VT:=VT.of (args++List.replicate (n-args.length) undef) n
theorem W.loop2 {p:Par}(good:GoodP p){ro:Option Nat}{b:IR}{R:XExit→S→Prop}(I:Nat→S→Prop)(h:∀ n s1,I n s1→vc2 p ro b s1 (thenR (λs2=>∃ m,m<n∧I m s2) R)) :
  ∀ n s,I n s→W p ro (.loop b) s R:=W.loopI good I λn s1 hI=>by rw[← vc2_eq];exact h n s1 hI
def resC (l:List (Option Value)):Option Value:=
 let rec go:List (Option Value)→Option (List Value)
  | []=>some []
  | x :: rs=>match x,go rs with | some v,some l=>some (v :: l) | _,_=>none
 match go l with
 | some [v]=>some v
 | some l=>some (.tuple ⟨l⟩)
 | none=>none
theorem resC_1 (a:Value):resC [some a]=some a:=rfl
theorem resC_2 (a b:Value):resC [some a,some b]=some (.tuple #[a,b]):=rfl
theorem resC_3 (a b c:Value):resC [some a,some b,some c]=some (.tuple #[a,b,c]):=rfl
def rgV (P : Program) (ty : TypeId) (v : Value) (h : Heap) : Option (Value × Heap) := match P.underlying ty, v with
  | some .string,.string s=>some (.pointer (some ⟨h.next,0,none⟩),(h.new ⟨.stringIter s 0,false⟩).2)
  | _,_=>none
theorem rgV_s {P:Program}{ty:TypeId}{h:Heap}(hT:isStr P ty=true)(s:ByteArray):rgV P ty (.string s) h=some (.pointer (some ⟨h.next,0,none⟩),h.add (itO s 0)):=by
 simp only[rgV,isStr_eq hT,Heap.add]
 rfl
attribute [push_cast] gT_tt gT_ff gT_tf gT_ft gT_u gE_tt gE_ff gE_tf gE_ft gE_u gP_tt gP_ff gP_tf gP_ft gP_u gC_tt gC_ff gC_tf gC_ft gC_u resC_1 resC_2 resC_3 rgV_s
end
end Go.Ev
namespace Go.Ev
open Go Go.RowKit
noncomputable section
theorem CallE.fir3 {p:Par}(good:GoodP p){g:FuncId}{f:FIR}(hf:Ev.fir p.P g=some f){args:List Value}{h:Heap}{R:Value→Heap→Prop}{T:VT}(hn:Nat.ble args.length f.n=true)(hU:Nat.ble f.n 100000=true)
  (hT:T.arr=⟨args++List.replicate (f.n-args.length) undef⟩) (hv:h.lo≤h.next→vc2 p none f.ir ⟨T,[],h⟩ (finR p.P f.rs R)):CallE p g args h R:=by
 unfold Ev.fir at hf
 split at hf
 ·rename_i fn hfn
  split at hf<;>cases hf
  rename_i c hb
  have hU:fn.ntmps<U:=le_U (by simpa using hU)
  have hn:args.length≤fn.ntmps:=by simpa using hn
  refine CallE.body good hfn hb hn hU ?_
  intro hok Γ ca w hst F n Q hF hro hl hQ
  have hlo:h.lo≤h.next:=by have:=hst.hr;rw[this.lo];exact this.gn
  have hsz:T.sz=fn.ntmps:=by
   have h1:=VT.arr_size T
   rw[← h1,hT]
   simp;omega
  have harr:T.arr=(FR fn.ntmps (enumA 0 args)).arr:=by
   rw[FR_args fn.ntmps hU args hn,hT]
   apply Array.ext';simp
  have hv':=hv hlo
  rw[vc2_eq] at hv'
  refine vc_run good c _ _ hv' hok Γ ca w ⟨⟨by show T.sz<U;rw[hsz];exact hU,?_,hst.tm.gl⟩,?_,hst.df,hst.hr⟩ F n Q hF hro hl hQ
  ·show _=T.arr.map _;rw[harr];exact hst.tm.tm
  ·show ∀ x∈T.arr.toList,_;rw[harr];exact hst.sc
 ·cases hf
end
end Go.Ev
namespace Go.Ev
open Go Go.RowKit
noncomputable section
abbrev Gr (h h':Heap):Prop:=Grew h h' (λ_=>False)
theorem Gr.refl (h:Heap):Gr h h:=Grew.refl _ _
theorem Grew.put' {h h1:Heap}{S:Nat→Prop}(g:Grew h h1 S)(b:Nat)(x:AObj)(hb:h.next≤b):Grew h (h1.put b x) S:=⟨g.next,g.lo,λi hi hs=>(get_put_n b x i (by omega)).trans (g.get i hi hs)⟩
theorem Grew.put'' {h h1:Heap}{S:Nat→Prop}(g:Grew h h1 S)(b:Nat)(x:AObj)(hb:b<h.next→S b):Grew h (h1.put b x) S:=⟨g.next,g.lo,λi hi hs=>(get_put_n b x i (λe=>hs (by subst e;exact hb hi))).trans (g.get i hi hs)⟩
theorem Grew.add' {h h1:Heap}{S:Nat→Prop}(g:Grew h h1 S)(x:AObj):Grew h (h1.add x) S:=⟨by rw[next_add];have:=g.next;omega,(lo_add x).trans g.lo,λi hi hs=>(get_add_n x i (by have:=g.next;omega)).trans (g.get i hi hs)⟩
theorem Grew.tr {h h1 h2:Heap}{S:Nat→Prop}(g:Grew h h1 S)(g':Gr h1 h2):Grew h h2 S:=g.trans (g'.mono λ_ _ h=>h.elim) (λ_ _ h=>h)
theorem Grew.tr' {h h1 h2:Heap}{S T:Nat→Prop}(g:Grew h h1 S)(g':Grew h1 h2 T)(hT:∀ i,i<h.next→T i→S i):Grew h h2 S:=g.trans g' hT
theorem Grew.cellsE {h h':Heap}{S:Nat→Prop}(g:Grew h h' S){i:Nat}{x:List Value×TypeId×Bool}(hc:Ev.cells h i=some x)(hi:i<h.next)(hs:¬ S i):Ev.cells h' i=some x:=(g.cells hi hs).trans hc
theorem Gr.cells {h h':Heap}(g:Gr h h'){i:Nat}{x:List Value×TypeId×Bool}(hc:Ev.cells h i=some x)(hi:i<h.next):Ev.cells h' i=some x:=(Grew.cells g hi (λh=>h)).trans hc
theorem evRes_ct {P:Program}(tm:VT)(h:Heap)(a t u:Nat):evRes P [.cell a t,.tmp u] tm h=resC [evLoad P t (tm.get a) h,some (tm.get u)]:=by
 simp only[evRes,evResults.go]
 cases evLoad P t (tm.get a) h<;>rfl
theorem evRes_cc {P:Program}(tm:VT)(h:Heap)(a t u s:Nat):evRes P [.cell a t,.cell u s] tm h=resC [evLoad P t (tm.get a) h,evLoad P s (tm.get u) h]:=by
 simp only[evRes,evResults.go]
 cases evLoad P t (tm.get a) h<;>cases evLoad P s (tm.get u) h<;>rfl
attribute [push_cast] evRes_ct evRes_cc
end
end Go.Ev
namespace Go.Ev
open Go Go.RowKit
noncomputable section
def hi.{u}{α:Type u}(a:α):α:=(λ(_:Par→Option Nat→IR→S→(XExit→S→Prop)→Prop)=>a) vc
def thenR3 (k:S→Prop)(R:XExit→S→Prop)(e:XExit)(s:S):Prop:=hi (match e with | .normal=>k s|e=>R e s)
def outR3 (id:Nat)(R:XExit→S→Prop)(e:XExit)(s:S):Prop:=hi (match e with | .exit j=>if j=id then R .normal s else R (.exit j) s|e=>R e s)
theorem thenR3_eq (k:S→Prop)(R:XExit→S→Prop):thenR3 k R=thenR k R:=rfl
class WB where a:Prop
class WK where a:Value→Heap→Prop
class WV where a:Value→Prop
class WR where a:XExit→S→Prop
abbrev HE:=Nat×(Heap→Option Value)×Value
class WE where a:Value→HE→Prop
class WC where a:Value→Heap→Prop→Prop
def kb [x:WB]:Prop:=x.a
def kk [x:WK]:Value→Heap→Prop:=x.a
def kv [x:WV]:Value→Prop:=x.a
def kR [x:WR]:XExit→S→Prop:=hi x.a
def ke [x:WE]:Value→HE→Prop:=x.a
def kc [x:WC]:Value→Heap→Prop→Prop:=x.a
theorem kk_app (K:Value→Heap→Prop)(v:Value)(h:Heap):@kk ⟨K⟩ v h=K v h:=propext Iff.rfl
theorem kv_app (K:Value→Prop)(v:Value):@kv ⟨K⟩ v=K v:=propext Iff.rfl
theorem ke_app (K:Value→HE→Prop)(v:Value)(e:HE):@ke ⟨K⟩ v e=K v e:=propext Iff.rfl
theorem kc_app (K:Value→Heap→Prop→Prop)(v:Value)(h:Heap)(c:Prop):@kc ⟨K⟩ v h c=K v h c:=propext Iff.rfl
section
variable {A B:Prop} {w:Bool}
theorem vcond_tb:vcond (.bool true) (@kb ⟨A⟩) (@kb ⟨B⟩)=A:=by simp[vcond,kb]
theorem vcond_fb:vcond (.bool false) (@kb ⟨A⟩) (@kb ⟨B⟩)=B:=by simp[vcond,kb]
theorem gV_ttb:gV (.bool true) true (@kb ⟨A⟩) (@kb ⟨B⟩)=A:=gV_tt
theorem gV_tfb:gV (.bool true) false (@kb ⟨A⟩) (@kb ⟨B⟩)=B:=gV_tf
theorem gV_ftb:gV (.bool false) true (@kb ⟨A⟩) (@kb ⟨B⟩)=B:=gV_ft
theorem gV_ffb:gV (.bool false) false (@kb ⟨A⟩) (@kb ⟨B⟩)=A:=gV_ff
theorem gV_ub:gV undef w (@kb ⟨A⟩) (@kb ⟨B⟩)=B:=propext Iff.rfl
theorem keptK_tb:keptK True (@kb ⟨B⟩)=B:=by simp[keptK,kb]
end
section
variable {R:XExit→S→Prop} {k:S→Prop} {s:S} {P:Program} {p:Par} {ro:Option Nat} {c:Code}
theorem kR_tn:@kR ⟨thenR3 k R⟩ .normal s=k s:=propext Iff.rfl
theorem kR_te (i:Nat):@kR ⟨thenR3 k R⟩ (.exit i) s=@kR ⟨R⟩ (.exit i) s:=propext Iff.rfl
theorem kR_tg (i:Nat):@kR ⟨thenR3 k R⟩ (.goto i) s=@kR ⟨R⟩ (.goto i) s:=propext Iff.rfl
theorem kR_tr:@kR ⟨thenR3 k R⟩ .ret s=@kR ⟨R⟩ .ret s:=propext Iff.rfl
theorem kR_on (i:Nat):@kR ⟨outR3 i R⟩ .normal s=@kR ⟨R⟩ .normal s:=propext Iff.rfl
theorem kR_oe (i j:Nat):@kR ⟨outR3 i R⟩ (.exit j) s=if j=i then @kR ⟨R⟩ .normal s else @kR ⟨R⟩ (.exit j) s:=propext Iff.rfl
theorem kR_og (i j:Nat):@kR ⟨outR3 i R⟩ (.goto j) s=@kR ⟨R⟩ (.goto j) s:=propext Iff.rfl
theorem kR_or (i:Nat):@kR ⟨outR3 i R⟩ .ret s=@kR ⟨R⟩ .ret s:=propext Iff.rfl
theorem kR_k (e:XExit):@kR ⟨@kR ⟨R⟩⟩ e s=@kR ⟨R⟩ e s:=propext Iff.rfl
theorem kR_fn (rs:List ResultVar)(Q:Value→Heap→Prop):@kR ⟨finR P rs Q⟩ .normal s=endR P rs Q s:=propext Iff.rfl
theorem kR_fr (rs:List ResultVar)(Q:Value→Heap→Prop):@kR ⟨finR P rs Q⟩ .ret s=endR P rs Q s:=propext Iff.rfl
theorem kR_sn:@kR ⟨scopeR p ro c R⟩ .normal s=@kR ⟨R⟩ .normal s:=propext Iff.rfl
theorem kR_sr:@kR ⟨scopeR p ro c R⟩ .ret s=@kR ⟨R⟩ .ret s:=propext Iff.rfl
theorem kR_se (i:Nat):@kR ⟨scopeR p ro c R⟩ (.exit i) s=@kR ⟨R⟩ (.exit i) s:=propext Iff.rfl
end
attribute [push_cast] Bool.true_or Bool.false_or Bool.or_true Bool.or_false Bool.true_and Bool.false_and Bool.and_true Bool.and_false Bool.not_false ite_self
section
variable {p:Par} {P:Program} {h:Heap} {k:Value→Heap→Prop} {k0 k1 k2:Value→Prop}
theorem oP_s2 (v:Value):oP (some v) h k=k v h:=propext Iff.rfl
theorem oE_s2 (v:Value):oE (some (v,h)) k=k v h:=propext Iff.rfl
theorem oT_s2 (v:Value)(q:Option (Value×Value)):oT (some v) q h k=k v h:=propext Iff.rfl
theorem oT_n2 (a b:Value):oT none (some (a,b)) h k=(k a h∧k b h):=propext Iff.rfl
theorem oR_s2 (v:Value)(q:Option (Value×Value)):oR (some v) q k0 k1 k2=k0 v:=propext Iff.rfl
theorem oR_n2 (a b:Value):oR none (some (a,b)) k0 k1 k2=(k1 a∧k2 b):=propext Iff.rfl
theorem CallV_f2 (g:FuncId)(c:List Value)(args:List Value):CallV p (.func (.func g) ⟨[]⟩ ⟨c⟩) args h k=CallW p g (args++c) h k:=propext Iff.rfl
theorem CallV_y2 (l:Nat)(args:List Value):CallV p (.func (.yield l) #[] #[]) args h k=YieldW p l args h k:=propext Iff.rfl
theorem endR_2 {rs:List ResultVar}{R:Value→Heap→Prop}(tm:VT)(df:List Nat):endR P rs R ⟨tm,df,h⟩=endM P rs R tm (evMarks df h):=propext Iff.rfl
theorem endM_2 {rs:List ResultVar}{R:Value→Heap→Prop}(tm:VT):endM P rs R tm (some h)=oP (evRes P rs tm h) h R:=propext Iff.rfl
end
attribute [push_cast] oP_s2 oE_s2 oT_s2 oT_n2 oR_s2 oR_n2 CallV_f2 CallV_y2 endR_2 endM_2
attribute [push_cast] kk_app kv_app ke_app kc_app vcond_tb vcond_fb gV_ttb gV_tfb gV_ftb gV_ffb gV_ub keptK_tb kR_tn kR_te kR_tg kR_tr kR_on kR_oe kR_og kR_or kR_k kR_fn kR_fr kR_sn kR_sr kR_se
theorem W.loop3 {p:Par}(good:GoodP p){ro:Option Nat}{b:IR}{R:XExit→S→Prop}(I:Nat→S→Prop)(h:∀ n s1,I n s1→vc2 p ro b s1 (@kR ⟨thenR3 (λs2=>∃ m,m<n∧I m s2) R⟩)) :
  ∀ n s,I n s→W p ro (.loop b) s R:=W.loop2 good I h
theorem keptP_drop (b c:List Nat)(h:Heap):∀ L:HL,keptP b h (dropB c L)=keptP (c++b) h L
 | []=>rfl
 | (i,r,v) :: L=>by
  have ih:=keptP_drop b c h L
  unfold dropB at ih ⊢
  rw[List.filter_cons]
  simp only[keptP]
  cases hc:c.contains i with
  | true=>
   have hcb:(c++b).contains i=true:=by simp at hc ⊢;exact .inl hc
   simp only[Bool.not_true,Bool.false_eq_true,if_false,ih,hcb,true_and]
  | false=>
   have hcb:(c++b).contains i=b.contains i:=by simp at hc;simp[hc]
   simp only[Bool.not_false,if_true,keptP,ih,hcb]
theorem vplan_L {p:Par}{K:VT→Heap→Prop}:∀ (t:PT) (L L':HL) (tm:VT) (h:Heap),(∀ b h,keptP b h L=keptP b h L')→vplan p t L tm h K=vplan p t L' tm h K
 | .fin,L,L',tm,h,hL=>rfl
 | .no,L,L',tm,h,hL=>rfl
 | .bad,L,L',tm,h,hL=>rfl
 | .take i rd x k,L,L',tm,h,hL=>by
  have hc:∀ e b h,keptP b h (e :: L)=keptP b h (e :: L'):=λe b h=>by obtain ⟨i,r,v⟩:=e;simp only[keptP,hL]
  simp only[vplan,vplan_L k L L' _ _ hL,vplan_L k (_ :: L) (_ :: L') _ _ (hc _)]
 | .eff i x bind k alt,L,L',tm,h,hL=>by
  have hd:∀ b h,keptP b h (dropB bind L)=keptP b h (dropB bind L'):=λb h=>by
   rw[keptP_drop,keptP_drop,hL]
  simp only[vplan,vplan_L k (dropB bind L) (dropB bind L') _ _ hd,vplan_L alt L L' _ _ hL,hL]
def dum (i:Nat):HE:=(i,λ_=>some undef,undef)
theorem vplan_dum {p:Par}{K:VT→Heap→Prop}(t:PT)(i:Nat)(L:HL)(tm:VT)(h:Heap):vplan p t (dum i :: L) tm h K=vplan p t L tm h K:=by
 refine vplan_L _ _ _ _ _ λb h=>?_
 simp only[dum,keptP]
 cases b.contains i<;>simp
def gRd (v:Value)(w:Bool)(A:Option Value)(i:Nat)(rd:Heap→Option Value)(h:Heap)(K:Value→HE→Prop):Prop:=gV v w (oP A h (λv _=>K v (i,rd,v))) (K undef (dum i))
def gEk (v:Value)(w:Bool)(E:Option (Value×Heap))(b:List Nat)(L:HL)(h:Heap)(K:Value→Heap→Prop→Prop):Prop:=gV v w (oE E (λv h'=>K v h' (keptP b h' L))) (K undef h True)
def gCk (p:Par)(v:Value)(w:Bool)(f:Value)(args:List Value)(b:List Nat)(L:HL)(h:Heap)(K:Value→Heap→Prop→Prop):Prop:=gV v w (CallV p f args h (λv h'=>K v h' (keptP b h' L))) (K undef h True)
theorem gRd_tt {A:Option Value}{i:Nat}{rd:Heap→Option Value}{h:Heap}{K:Value→HE→Prop}:gRd (.bool true) true A i rd h K=oP A h (λv _=>K v (i,rd,v)):=gV_tt
theorem gRd_ff {A:Option Value}{i:Nat}{rd:Heap→Option Value}{h:Heap}{K:Value→HE→Prop}:gRd (.bool false) false A i rd h K=oP A h (λv _=>K v (i,rd,v)):=gV_ff
theorem gRd_tf {A:Option Value}{i:Nat}{rd:Heap→Option Value}{h:Heap}{K:Value→HE→Prop}:gRd (.bool true) false A i rd h K=K undef (dum i):=gV_tf
theorem gRd_ft {A:Option Value}{i:Nat}{rd:Heap→Option Value}{h:Heap}{K:Value→HE→Prop}:gRd (.bool false) true A i rd h K=K undef (dum i):=gV_ft
theorem gEk_tt {E:Option (Value×Heap)}{b:List Nat}{L:HL}{h:Heap}{K:Value→Heap→Prop→Prop}:gEk (.bool true) true E b L h K=oE E (λv h'=>K v h' (keptP b h' L)):=gV_tt
theorem gEk_ff {E:Option (Value×Heap)}{b:List Nat}{L:HL}{h:Heap}{K:Value→Heap→Prop→Prop}:gEk (.bool false) false E b L h K=oE E (λv h'=>K v h' (keptP b h' L)):=gV_ff
theorem gEk_tf {E:Option (Value×Heap)}{b:List Nat}{L:HL}{h:Heap}{K:Value→Heap→Prop→Prop}:gEk (.bool true) false E b L h K=K undef h True:=gV_tf
theorem gEk_ft {E:Option (Value×Heap)}{b:List Nat}{L:HL}{h:Heap}{K:Value→Heap→Prop→Prop}:gEk (.bool false) true E b L h K=K undef h True:=gV_ft
theorem gCk_tt {p:Par}{f:Value}{args:List Value}{b:List Nat}{L:HL}{h:Heap}{K:Value→Heap→Prop→Prop}:gCk p (.bool true) true f args b L h K=CallV p f args h (λv h'=>K v h' (keptP b h' L)):=gV_tt
theorem gCk_ff {p:Par}{f:Value}{args:List Value}{b:List Nat}{L:HL}{h:Heap}{K:Value→Heap→Prop→Prop}:gCk p (.bool false) false f args b L h K=CallV p f args h (λv h'=>K v h' (keptP b h' L)):=gV_ff
theorem gCk_tf {p:Par}{f:Value}{args:List Value}{b:List Nat}{L:HL}{h:Heap}{K:Value→Heap→Prop→Prop}:gCk p (.bool true) false f args b L h K=K undef h True:=gV_tf
theorem gCk_ft {p:Par}{f:Value}{args:List Value}{b:List Nat}{L:HL}{h:Heap}{K:Value→Heap→Prop→Prop}:gCk p (.bool false) true f args b L h K=K undef h True:=gV_ft
attribute [push_cast] gRd_tt gRd_ff gRd_tf gRd_ft gEk_tt gEk_ff gEk_tf gEk_ft gCk_tt gCk_ff gCk_tf gCk_ft dum
abbrev KP:=HL→VT→Heap→(VT→Heap→Prop)→Prop
def isNo:PT→Bool | .no=>true|_=>false
def pTakeP (p:Par)(x:It)(ih:KP):KP:=λL tm h K=>match x.g with
 | none=>oP (tp p.P x.o x.t tm) h (@kk ⟨λv _=>ih L (put tm x.d v) h K⟩)
 | some (d,w)=>gP (tm.get d) w (tp p.P x.o x.t tm) h (@kk ⟨λv _=>ih L (put tm x.d v) h K⟩)
def pTakeR (p:Par)(i:Nat)(x:It)(ih:KP):KP:=λL tm h K=>match x.g with
 | none=>oP (tv p.P x.o x.t tm h) h (@kk ⟨λv _=>ih ((i,λh'=>tv p.P x.o x.t tm h',v) :: L) (put tm x.d v) h K⟩)
 | some (d,w)=>gRd (tm.get d) w (tv p.P x.o x.t tm h) i (λh'=>tv p.P x.o x.t tm h') h (@ke ⟨λv e=>ih (e :: L) (put tm x.d v) h K⟩)
def pTakeS1 (p : Par) (i : Nat) (x : It) (ih : KP) : KP := fun L tm h K => oR (tv p.P x.o x.t tm h) (tw p.P x.o tm h) (@kv ⟨fun v => ih ((i, fun h' => tv p.P x.o x.t tm h', v) :: L) (put tm x.d v) h K⟩)
     (@kv ⟨λv=>ih ((i,λh'=>(tw p.P x.o tm h').map (·.1),v) :: L) (put tm x.d v) h K⟩) (@kv ⟨λv=>ih ((i,λh'=>(tw p.P x.o tm h').map (·.2),v) :: L) (put tm x.d v) h K⟩)
def pTakeS (p:Par)(i:Nat)(x:It)(ih:KP):KP:=λL tm h K=>match x.g with
 | none=>pTakeS1 p i x ih L tm h K
 | some (d,w)=>gV (tm.get d) w (@kb ⟨pTakeS1 p i x ih L tm h K⟩) (@kb ⟨ih L (put tm x.d undef) h K⟩)
def pEff (p : Par) (x : It) (bind : List Nat) (ih : KP) : KP := fun L tm h K => match x.g, x.c, x.o with
   | some (d,w),.eff,_=>gEk (tm.get d) w (te p.P x.o x.t tm h) bind L h (@kc ⟨λv h' c=>keptK c (@kb ⟨ih (dropB bind L) (put tm x.d v) h' K⟩)⟩)
   | some (d,w),.call,.call ⟨.value f,args,_⟩=>gCk p (tm.get d) w (ev tm f) (args.toList.map (ev tm)) bind L h (@kc ⟨λv h' c=>keptK c (@kb ⟨ih (dropB bind L) (put tm x.d v) h' K⟩)⟩)
   | _,_,_=>vgd tm x.g (vop p x.c x.o x.t tm h (@kk ⟨λv h'=>keptK (keptP bind h' L) (@kb ⟨ih (dropB bind L) (put tm x.d v) h' K⟩)⟩)) (ih (dropB bind L) (put tm x.d undef) h K)
def pTk (p:Par)(i:Nat)(rd:Bool)(x:It)(ih:KP):KP:=
 Bool.rec (motive:=λ_=>KP) (pTakeP p x ih) (Bool.rec (motive:=λ_=>KP) (pTakeR p i x ih) (pTakeS p i x ih) (isSl x.o)) rd
def vplan3 (p:Par)(t:PT):KP:=
 PT.rec (motive:=λ_=>KP) (λ_ tm h K=>K tm h) (λ_ _ _ _=>True) (λ_ _ _ _=>False)
  (λi rd x _ ih=>pTk p i rd x ih)
  (λ_ x bind _ alt ih ih2=>Bool.rec (motive:=λ_=>KP) (λL tm h K=>pEff p x bind ih L tm h K∧ih2 L tm h K) (pEff p x bind ih) (isNo alt)) t
theorem vplan3_eq (p:Par)(K:VT→Heap→Prop):∀ (t:PT) (L:HL) (tm:VT) (h:Heap),vplan3 p t L tm h K=vplan p t L tm h K
 | .fin,L,tm,h=>rfl
 | .no,L,tm,h=>rfl
 | .bad,L,tm,h=>rfl
 | .take i rd x k,L,tm,h=>by
  have ih:=vplan3_eq p K k
  show pTk p i rd x (vplan3 p k) L tm h K=_
  unfold pTk
  simp only[vplan]
  cases rd with
  | false=>
   dsimp only
   unfold pTakeP
   simp only[ih,kk]
   cases x.g with
   | none=>rfl
   | some y=>obtain ⟨d,w⟩:=y;rfl
  | true=>
   dsimp only
   cases ho:isSl x.o with
   | true=>
    dsimp only
    unfold pTakeS pTakeS1
    simp only[ih,kv,kb]
    cases x.g with
    | none=>rfl
    | some y=>obtain ⟨d,w⟩:=y;rfl
   | false=>
    dsimp only
    unfold pTakeR
    simp only[ih,kk,ke]
    have:tw p.P x.o tm h=none:=by
     unfold tw
     split
     ·rename_i he;rw[he] at ho;cases ho
     ·rfl
    simp only[this]
    cases x.g with
    | none=>rfl
    | some y=>
     obtain ⟨d,w⟩:=y
     simp only[gRd,vplan_dum,vgd,oP]
 | .eff i x bind k alt,L,tm,h=>by
  have ih:=vplan3_eq p K k
  have e:pEff p x bind (vplan3 p k) L tm h K=vgd tm x.g (vop p x.c x.o x.t tm h λv h'=>keptP bind h' L∧vplan p k (dropB bind L) (put tm x.d v) h' K) (vplan p k (dropB bind L) (put tm x.d undef) h K):=by
   unfold pEff
   simp only[ih,kb,kk,kc]
   split
   ·rename_i d w hg hc
    simp only[hg,hc,gEk,vgd,vop,keptK,true_and]
   ·rename_i d w f args _ hg hc ho
    simp only[hg,hc,ho,gCk,vgd,vop,keptK,true_and]
   ·rfl
  show (Bool.rec (motive:=λ_=>KP) (λL tm h K=>pEff p x bind (vplan3 p k) L tm h K∧vplan3 p alt L tm h K) (pEff p x bind (vplan3 p k)) (isNo alt):KP) L tm h K=_
  simp only[vplan,← vplan3_eq p K alt]
  cases alt with
  | no=>
   show pEff p x bind (vplan3 p k) L tm h K=_
   rw[e]
   exact (and_true _).symm
  | _=>exact congrArg (·∧_) e
def vops3 (p:Par)(l:List It):VT→Heap→(VT→Heap→Prop)→Prop:=
 List.rec (motive:=λ_=>VT→Heap→(VT→Heap→Prop)→Prop) (λtm h K=>K tm h)
  (λx _ ih tm h K=>vop2 p x.g x.c x.o x.t tm h (@kk ⟨λv h'=>ih (put tm x.d v) h' K⟩)) l
theorem vops3_eq (p:Par)(K:VT→Heap→Prop):∀ (l:List It) (tm:VT) (h:Heap),vops3 p l tm h K=vops2 p l tm h K
 | [],tm,h=>rfl
 | x :: l,tm,h=>by
  show vop2 p x.g x.c x.o x.t tm h (@kk ⟨λv h'=>vops3 p l (put tm x.d v) h' K⟩)=vop2 p x.g x.c x.o x.t tm h (λv h'=>vops2 p l (put tm x.d v) h' K)
  simp only[vops3_eq p K l,kk]
def vc3 (p:Par)(ro:Option Nat):IR→S→(XExit→S→Prop)→Prop
 | .bad,_,_=>False
 | .skip,s,R=>R .normal s
 | .ret,s,R=>R .ret s
 | .exit i,s,R=>R (.exit i) s
 | .goto l,s,R=>R (.goto l) s
 | .label _,s,R=>R .normal s
 | .ops l,s,R=>vops3 p l s.tm s.h λtm h=>R .normal ⟨tm,s.df,h⟩
 | .plan t,s,R=>vplan3 p t [] s.tm s.h λtm h=>R .normal ⟨tm,s.df,h⟩
 | .seq a b,s,R=>vc3 p ro a s (thenR3 (λs1=>vc3 p ro b s1 (@kR ⟨R⟩)) R)
 | .cond x a b,s,R=>vcond (ev s.tm x) (@kb ⟨vc3 p ro a s R⟩) (@kb ⟨vc3 p ro b s R⟩)
 | .block i b,s,R=>vc3 p ro b s (outR3 i R)
 | .loop b,s,R=>W p ro (.loop b) s (@kR ⟨R⟩)
 | .scope b,s,R=>WPin p ro b b s (@kR ⟨R⟩)
 | .range g ps a b,s,R=>W p ro (.range g ps a b) s (@kR ⟨R⟩)
theorem vc3_eq (p:Par)(ro:Option Nat):∀ (ir:IR) (s:S) (R:XExit→S→Prop),vc3 p ro ir s R=vc p ro ir s R
 | .bad,s,R=>rfl
 | .skip,s,R=>rfl
 | .ret,s,R=>rfl
 | .exit i,s,R=>rfl
 | .goto l,s,R=>rfl
 | .label l,s,R=>rfl
 | .ops l,s,R=>(vops3_eq p _ l _ _).trans (vops2_eq p _ l _ _)
 | .plan t,s,R=>vplan3_eq p _ t _ _ _
 | .seq a b,s,R=>by simp only[vc3,vc,vc3_eq p ro a,vc3_eq p ro b,kR,kb,thenR3_eq,hi]
 | .cond x a b,s,R=>by simp only[vc3,vc,vc3_eq p ro a,vc3_eq p ro b,kR,kb,thenR3_eq,hi]
 | .block i b,s,R=>vc3_eq p ro b s _
 | .loop b,s,R=>rfl
 | .scope b,s,R=>rfl
 | .range g ps a b,s,R=>rfl
theorem vc3_2 (p:Par)(ro:Option Nat)(ir:IR)(s:S)(R:XExit→S→Prop):vc3 p ro ir s R=vc2 p ro ir s R:=by rw[vc3_eq,vc2_eq]
theorem CallE.fir4 {p:Par}(good:GoodP p){g:FuncId}{f:FIR}(hf:Ev.fir p.P g=some f){args:List Value}{h:Heap}{R:Value→Heap→Prop}{T:VT}(hn:Nat.ble args.length f.n=true)(hU:Nat.ble f.n 100000=true)
  (hT:T.arr=⟨args++List.replicate (f.n-args.length) undef⟩) (hv:h.lo≤h.next→vc3 p none f.ir ⟨T,[],h⟩ (finR p.P f.rs R)):CallE p g args h R:=
 CallE.fir3 good hf hn hU hT λhlo=>by rw[← vc3_2];exact hv hlo
theorem W.loop4 {p:Par}(good:GoodP p){ro:Option Nat}{b:IR}{R:XExit→S→Prop}(I:Nat→S→Prop)(h:∀ n s1,I n s1→vc3 p ro b s1 (@kR ⟨thenR3 (λs2=>∃ m,m<n∧I m s2) R⟩)) :
  ∀ n s,I n s→W p ro (.loop b) s R:=W.loop3 good I λn s1 hI=>by rw[← vc3_2];exact h n s1 hI
end
end Go.Ev
namespace Go.Ev
open Go Go.RowKit
noncomputable section
abbrev Ent:=Int×Value×Nat
def ME (l:List Ent):List MapEntry:=l.map λx=>⟨.int .i64 x.1,x.2.1,x.2.2⟩
def MO (l:List Ent)(c:Nat):AObj:=⟨.map ⟨ME l⟩ c,false⟩
def IO' (m:Option Nat)(a:Nat)(seen:List Nat)(b:Nat):AObj:=⟨.mapIter m a ⟨seen⟩ b,false⟩
def getM (k:Int):List Ent→Option Value
 | []=>none
 | x :: l=>if k=x.1 then some x.2.1 else getM k l
def setM (k:Int)(v:Value):List Ent→List Ent
 | []=>[]
 | x :: l=>if k=x.1 then (k,v,x.2.2) :: l else x :: setM k v l
def delM (k:Int):List Ent→List Ent
 | []=>[]
 | x :: l=>if k=x.1 then l else x :: delM k l
def idxM (k:Int):List Ent→Nat
 | []=>0
 | x :: l=>if k=x.1 then 0 else idxM k l+1
def putM (k:Int)(v:Value)(c:Nat)(l:List Ent):List Ent:=if (getM k l).isSome then setM k v l else l++[(k,v,c)]
def bornM (k:Int)(c:Nat)(l:List Ent):Nat:=if (getM k l).isSome then c else c+1
theorem findE_ME (k:Int):∀ (l:List Ent) (n:Nat),findE (.int .i64 k) (ME l) n=some ((getM k l).map λv=>(n+idxM k l,v))
 | [],n=>rfl
 | x :: l,n=>by
  show (match keyEq (.int .i64 k) (.int .i64 x.1) with|some true=>some (some (n,x.2.1))|some false=>findE (.int .i64 k) (ME l) (n+1)|none=>none)=_
  by_cases h:k=x.1
  ·have e:keyEq (.int .i64 k) (.int .i64 x.1)=some true:=by simp[keyEq,h]
   rw[e]
   simp[getM,idxM,h]
  ·have e:keyEq (.int .i64 k) (.int .i64 x.1)=some false:=by simp[keyEq,h]
   rw[e]
   show findE (.int .i64 k) (ME l) (n+1)=_
   rw[findE_ME k l (n+1)]
   simp only[getM,idxM,if_neg h]
   congr 2
   funext v
   rw[Nat.add_assoc,Nat.add_comm 1]
theorem modE_ME (k:Int)(v:Value):∀ l:List Ent,(getM k l).isSome→modE (.int .i64 k) v (ME l) (idxM k l)=ME (setM k v l)
 | [],h=>by cases h
 | x :: l,h=>by
  by_cases hk:k=x.1
  ·simp only[idxM,setM,if_pos hk];rfl
  ·simp only[getM,idxM,setM,if_neg hk] at h ⊢
   show _ :: modE _ _ (ME l) (idxM k l)=_
   rw[modE_ME k v l h];rfl
theorem delE_ME (k:Int):∀ l:List Ent,(getM k l).isSome→delE (ME l) (idxM k l)=ME (delM k l)
 | [],h=>by cases h
 | x :: l,h=>by
  by_cases hk:k=x.1
  ·simp only[idxM,delM,if_pos hk];rfl
  ·simp only[getM,idxM,delM,if_neg hk] at h ⊢
   show _ :: delE (ME l) (idxM k l)=_
   rw[delE_ME k l h];rfl
theorem delM_no (k:Int):∀ l:List Ent,getM k l=none→delM k l=l
 | [],h=>rfl
 | x :: l,h=>by
  by_cases hk:k=x.1
  ·simp[getM,hk] at h
  ·simp only[getM,delM,if_neg hk] at h ⊢
   rw[delM_no k l h]
def mpT (P:Program)(t:TypeId):Option Value:=match P.underlying t with
 | some (.map kt et)=>match P.underlying kt with
  | some (.int _)=>match zeroOf P et with
   | some z=>if flat z then some z else none
   | none=>none
  | _=>none
 | _=>none
theorem mpT_spec {P:Program}{t:TypeId}{z:Value}(h:mpT P t=some z):∃ kt et j,P.underlying t=some (.map kt et)∧P.underlying kt=some (.int j)∧zeroOf P et=some z∧flat z=true:=by
 unfold mpT at h
 split at h
 ·rename_i kt et hu
  split at h
  ·rename_i j hk
   split at h
   ·rename_i z' hz
    split at h
    ·rename_i hf;cases h;exact ⟨kt,et,j,hu,hk,hz,hf⟩
    ·cases h
   ·cases h
  ·cases h
 ·cases h
def lkM (ok:Bool)(z:Value)(o:Option Value):Value:=okV2 ok (o.getD z) o.isSome
theorem look_some {P:Program}{t:TypeId}{z:Value}{h:Heap}{r:Nat}{l:List Ent}{c:Nat}(hz:mpT P t=some z)(hm:mapOf h r=some (ME l,c))(k:Int)(ok:Bool) :
  lookRead P t (.map (some r)) (.int .i64 k) ok h=some (lkM ok z (getM k l)):=by
 obtain ⟨kt,et,j,hu,hk,hz,hf⟩:=mpT_spec hz
 have hko:keyOk P kt (.int .i64 k)=true:=by simp only[keyOk,hk]
 simp only[lookRead,hu,hko,entsOf,hm,findE_ME]
 cases getM k l with
 | none=>simp only[Option.map_none,hz,hf];rfl
 | some v=>rfl
theorem look_nil {P:Program}{t:TypeId}{z:Value}{h:Heap}(hz:mpT P t=some z)(k:Int)(ok:Bool) :
  lookRead P t (.map none) (.int .i64 k) ok h=some (lkM ok z none):=by
 obtain ⟨kt,et,j,hu,hk,hz,hf⟩:=mpT_spec hz
 have hko:keyOk P kt (.int .i64 k)=true:=by simp only[keyOk,hk]
 simp only[lookRead,hu,hko,entsOf,findE,hz,hf]
 rfl
theorem set_some {P:Program}{t:TypeId}{z:Value}{h:Heap}{r:Nat}{l:List Ent}{c:Nat}(hz:mpT P t=some z)(hm:mapOf h r=some (ME l,c))(k:Int)(v:Value)(hv:fsc h.next v=true) :
  mapSet P t (.map (some r)) (.int .i64 k) v h=some (undef,h.put r (MO (putM k v c l) (bornM k c l))):=by
 obtain ⟨kt,et,j,hu,hk,hz,hf⟩:=mpT_spec hz
 have hko:keyOk P kt (.int .i64 k)=true:=by simp only[keyOk,hk]
 simp only[mapSet,hu,hko,hv,Bool.and_self,hm,findE_ME]
 cases hg:getM k l with
 | none=>simp only[Option.map_none,putM,bornM,hg];unfold mapPut MO ME;simp
 | some u=>simp only[Option.map_some,Nat.zero_add,modE_ME k v l (by rw[hg];rfl),putM,bornM,hg];rfl
theorem del_some {P:Program}{t:TypeId}{z:Value}{h:Heap}{r:Nat}{l:List Ent}{c:Nat}(hz:mpT P t=some z)(hm:mapOf h r=some (ME l,c))(k:Int) :
  mapDel P t (.map (some r)) (.int .i64 k) h=some (.tuple #[],h.put r (MO (delM k l) c)):=by
 obtain ⟨kt,et,j,hu,hk,hz,hf⟩:=mpT_spec hz
 have hko:keyOk P kt (.int .i64 k)=true:=by simp only[keyOk,hk]
 simp only[mapDel,hu,hko,hm,findE_ME]
 cases hg:getM k l with
 | none=>simp only[Option.map_none,delM_no k l hg];rfl
 | some u=>simp only[Option.map_some,Nat.zero_add,delE_ME k l (by rw[hg];rfl)];rfl
theorem del_nil {P:Program}{t:TypeId}{z:Value}{h:Heap}(hz:mpT P t=some z)(k:Int):mapDel P t (.map none) (.int .i64 k) h=some (.tuple #[],h):=by
 obtain ⟨kt,et,j,hu,hk,hz,hf⟩:=mpT_spec hz
 have hko:keyOk P kt (.int .i64 k)=true:=by simp only[keyOk,hk]
 simp only[mapDel,hu,hko]
theorem clr_some {P:Program}{t:TypeId}{z:Value}{h:Heap}{r:Nat}{l:List Ent}{c:Nat}(hz:mpT P t=some z)(hm:mapOf h r=some (ME l,c)):mapClr P t (.map (some r)) h=some (.tuple #[],h.put r (MO [] c)):=by
 obtain ⟨kt,et,j,hu,hk,hz,hf⟩:=mpT_spec hz
 simp only[mapClr,hu,hm];rfl
theorem clr_nil {P:Program}{t:TypeId}{z:Value}{h:Heap}(hz:mpT P t=some z):mapClr P t (.map none) h=some (.tuple #[],h):=by
 obtain ⟨kt,et,j,hu,hk,hz,hf⟩:=mpT_spec hz
 simp only[mapClr,hu]
theorem new_map {P:Program}{t:TypeId}{z:Value}{h:Heap}(hz:mpT P t=some z):mapNew P t none h=some (.map (some h.next),h.add (MO [] 0)):=by
 obtain ⟨kt,et,j,hu,hk,hz,hf⟩:=mpT_spec hz
 simp only[mapNew,hu];rfl
theorem rng_some {h:Heap}{r:Nat}{l:List Ent}{c:Nat}(hm:mapOf h r=some (ME l,c)):mapRange (.map (some r)) h=some (.pointer (some ⟨h.next,0,none⟩),h.add (IO' (some r) c [] c)):=by
 simp only[mapRange,hm];rfl
theorem rng_nil {h:Heap}:mapRange (.map none) h=some (.pointer (some ⟨h.next,0,none⟩),h.add (IO' none 0 [] 0)):=rfl
theorem mapOf_put_s {h:Heap}{r:Nat}{l:List Ent}{c:Nat}(hl:h.lo≤r):mapOf (h.put r (MO l c)) r=some (ME l,c):=by
 unfold mapOf MO
 rw[get_put_s,lo_put]
 simp only[Nat.ble_eq_true_of_le hl]
theorem mapOf_get {h h':Heap}{r:Nat}(e:h'.get r=h.get r)(el:h'.lo=h.lo):mapOf h' r=mapOf h r:=by unfold mapOf;rw[e,el]
theorem mapOf_put_n {h:Heap}{r b:Nat}{x:AObj}(hn:r≠b):mapOf (h.put b x) r=mapOf h r:=mapOf_get (get_put_n _ _ _ hn) (lo_put _ _)
theorem mapOf_add_s {h:Heap}{l:List Ent}{c:Nat}{r:Nat}(hr:r=h.next)(hl:h.lo≤h.next):mapOf (h.add (MO l c)) r=some (ME l,c):=by
 subst hr
 unfold mapOf MO
 rw[get_add_s _ _ rfl,lo_add]
 simp only[Nat.ble_eq_true_of_le hl]
theorem oL_1 {v:Value}{h':Heap}{K:Value→Heap→Prop}:oL (one1 (some (v,h'))) K=K v h':=propext ⟨λq=>q (v,h') (List.mem_singleton.2 rfl),λq x hx=>by cases List.mem_singleton.1 hx;exact q⟩
theorem mem_leftE {seen:List Nat}:∀ {l:List MapEntry} {x:MapEntry},x∈leftE seen l↔x∈l∧x.born∉seen
 | [],x=>by simp[leftE]
 | y :: l,x=>by
  have ih:=mem_leftE (seen:=seen) (l:=l) (x:=x)
  have hm:=memN_eq y.born seen
  simp only[leftE]
  cases hc:memN y.born seen with
  | true=>
   rw[hc] at hm
   have hy:y.born∈seen:=by simpa using hm.symm
   simp only[ih,List.mem_cons]
   exact ⟨λh=>⟨.inr h.1,h.2⟩,λh=>⟨h.1.resolve_left λe=>h.2 (by rw[e];exact hy),h.2⟩⟩
  | false=>
   rw[hc] at hm
   have hy:y.born∉seen:=by simpa using hm.symm
   simp only[List.mem_cons,ih]
   exact ⟨λh=>h.elim (λe=>⟨.inl e,by rw[e];exact hy⟩) λh=>⟨.inr h.1,h.2⟩,λh=>h.1.elim .inl λe=>.inr ⟨e,h.2⟩⟩
theorem oldE_all {c:Nat}:∀ {l:List MapEntry},(∀ x∈l,x.born<c)→oldE c l=l∧newE c l=[]
 | [],_=>⟨rfl,rfl⟩
 | y :: l,h=>by
  obtain ⟨h1,h2⟩:=oldE_all (c:=c) (l:=l) λx hx=>h x (List.mem_cons_of_mem _ hx)
  have hy:Nat.blt y.born c=true:=by rw[Nat.blt_eq];exact h y (List.mem_cons_self ..)
  simp only[oldE,newE,hy,h1,h2,and_self]
theorem oL_next {h:Heap}{b m c:Nat}{seen:List Nat}{l:List Ent}{K:Value→Heap→Prop}(hg:h.get b=some (IO' (some m) c seen c))(hlo:h.lo≤b)(hm:mapOf h m=some (ME l,c))(hb:∀ x∈l,x.2.2<c)
  (h1:(∀ x∈l,x.2.2∈seen)→K (.tuple #[.bool false]) h)
  (h2:∀ x∈l,x.2.2∉seen→K (.tuple #[.bool true,.int .i64 x.1,x.2.1]) (h.put b (IO' (some m) c (seen++[x.2.2]) c))):oL (mapNexts (.pointer (some ⟨b,0,none⟩)) h) K:=by
 have hbl:Nat.ble h.lo b=true:=by rw[Nat.ble_eq];exact hlo
 have hall:∀ x∈ME l,x.born<c:=λx hx=>by
  unfold ME at hx
  obtain ⟨y,hy,rfl⟩:=List.mem_map.1 hx
  exact hb y hy
 obtain ⟨e1,e2⟩:=oldE_all (l:=leftE seen (ME l)) (c:=c) λx hx=>hall x (mem_leftE.1 hx).1
 have hq:(seen.isEmpty || (ME l).isEmpty || anyOld c (ME l))=true:=by
  cases hl:ME l with
  | nil=>simp
  | cons y t=>
   have hy:=hall y (by rw[hl];exact List.mem_cons_self ..)
   have:anyOld c (y :: t)=true:=by
    simp only[anyOld,show Nat.blt y.born c=true from Nat.ble_eq_true_of_le hy]
   rw[this,Bool.or_true]
 unfold IO' at hg
 simp only[mapNexts,hg,hbl,hm,hq,e1,e2,List.append_nil,oL]
 intro x hx
 rcases List.mem_append.1 hx with hx|hx
 ·cases hle:leftE seen (ME l) with
  | nil=>
   rw[hle] at hx
   simp only[endE,List.mem_singleton] at hx
   subst hx
   refine h1 λy hy=>?_
   by_cases hs:y.2.2∈seen
   ·exact hs
   ·have:(⟨.int .i64 y.1,y.2.1,y.2.2⟩:MapEntry)∈leftE seen (ME l):=mem_leftE.2 ⟨List.mem_map.2 ⟨y,hy,rfl⟩,hs⟩
    rw[hle] at this
    cases this
  | cons y t=>rw[hle] at hx;simp[endE] at hx
 ·obtain ⟨e,he,rfl⟩:=List.mem_map.1 hx
  obtain ⟨he1,he2⟩:=mem_leftE.1 he
  unfold ME at he1
  obtain ⟨y,hy,rfl⟩:=List.mem_map.1 he1
  exact h2 y hy he2
theorem oL_next0 {h:Heap}{b:Nat}{a c:Nat}{s:List Nat}{K:Value→Heap→Prop}(hg:h.get b=some (IO' none a s c))(hlo:h.lo≤b):oL (mapNexts (.pointer (some ⟨b,0,none⟩)) h) K=K (.tuple #[.bool false]) h:=by
 have hbl:Nat.ble h.lo b=true:=by rw[Nat.ble_eq];exact hlo
 unfold IO' at hg
 simp only[mapNexts,hg,hbl,oL,List.mem_singleton,forall_eq]
theorem lastN_app (n:Nat):∀ l:List Nat,lastN (l++[n])=some n
 | []=>rfl
 | [x]=>rfl
 | x :: y :: l=>lastN_app n (y :: l)
theorem bornE_ME {x:Ent}:∀ {l:List Ent},x∈l→(l.map (·.2.2)).Nodup→bornE x.2.2 (ME l)=some ⟨.int .i64 x.1,x.2.1,x.2.2⟩
 | [],h,_=>by cases h
 | y :: l,h,hn=>by
  rw[List.map_cons,List.nodup_cons] at hn
  show (match Nat.beq y.2.2 x.2.2 with|true=>some (⟨.int .i64 y.1,y.2.1,y.2.2⟩:MapEntry)|false=>bornE x.2.2 (ME l))=_
  rcases List.mem_cons.1 h with rfl|h
  ·rw[Nat.beq_refl]
  ·have hne : Nat.beq y.2.2 x.2.2 = false := by
    cases hb:Nat.beq y.2.2 x.2.2 with
    | false=>rfl
    | true=>exact absurd (List.mem_map.2 ⟨x,h,(Nat.eq_of_beq_eq_true hb).symm⟩) hn.1
   rw[hne]
   exact bornE_ME h hn.2
theorem entry_s {h:Heap}{b m c:Nat}{seen:List Nat}{l:List Ent}{x:Ent}(hg:h.get b=some (IO' (some m) c (seen++[x.2.2]) c))(hlo:h.lo≤b)(hm:mapOf h m=some (ME l,c))(hx:x∈l)(hn:(l.map (·.2.2)).Nodup) :
  entryRead (.pointer (some ⟨b,0,none⟩)) h=some (.tuple #[.int .i64 x.1,x.2.1]):=by
 have hbl:Nat.ble h.lo b=true:=by rw[Nat.ble_eq];exact hlo
 unfold IO' at hg
 simp only[entryRead,hg,hbl,hm,lastN_app,Nat.beq_refl,bornE_ME hx hn]
end
end Go.Ev
