/-
  A part of the proof: conditions over an abstract memory,and that they are enough for what the model's calls do. No condition of its own.
-/
import Derived.Test.YtejgmoenmbjidaaEva
import Derived.RangeFuncRecord
set_option linter.unusedSimpArgs false
set_option linter.unusedVariables false
namespace Go.Ev
open Go Go.RowKit
theorem appIn_run {p:Par}{Γ:Gam}{h h':Heap}{w:World}(hr:HRel p Γ h w){sT xT ty:TypeId}{x v:Value}{e:TypeId}{n cap m:Nat}{base:Option Addr}{new:List Value}{i:TypeInfo}{dx:TypeDesc}
  (hs:p.P.underlying sT=some (.slice e)) (hxT:p.P.underlying xT=some dx) (hni:∀ k,dx≠.int k) (hi:p.P.info? e=some i) (hlr:(Builtin.lenOf (con Γ x)).run p.P w=.ok m w)
  (hnl:new.length=m*i.size) (hok0:∀ v∈new,one v=true∧sc h.next v=true)
  (hnr:∀ w':World,w'.heap=w.heap→(Builtin.firstCells i.size m (con Γ x)).run p.P w'=.ok ⟨new.map (con Γ)⟩ w')
  (he:appIn e i.size n cap m base new h=some (v,h')) :
  ∃ Γ' w',(Builtin.append_ #[sT,xT] ty #[con Γ (.slice base n cap),con Γ x]).run p.P w=.ok (con Γ' v) w'∧Ag Γ Γ' h.next∧h.next≤h'.next∧HRel p Γ' h' w'∧Fr p Γ h w w':=by
 unfold appIn at he
 split at he
 ·rename_i b off
  split at he
  ·rename_i cs e' hc
   split at he
   ·rename_i hb
    simp only[Bool.and_eq_true,Nat.beq_eq,Nat.ble_eq,Nat.blt_eq] at hb
    obtain ⟨⟨⟨⟨⟨⟨h1,h2⟩,h3⟩,h4⟩,_⟩,h5⟩,hlo⟩:=hb
    have hG:p.G≤b:=by rw[← hr.lo];exact hlo
    obtain ⟨hlt,rest,fr,hrow⟩:=hr.row hc hG
    obtain ⟨ti,hti,hk⟩:=hrow.more rfl
    have htii:ti=i:=by rw[h1,hi] at hti;exact (Option.some.inj hti).symm
    subst htii
    have hroom:n+m≤Γ.k b-(cap-UC):=by
     have:(cap-UC+(n+m))*ti.size≤Γ.k b*ti.size:=by
      rw[Nat.add_mul,← h3];omega
     have:=Nat.le_of_mul_le_mul_right this h4
     omega
    have hnot:¬ cap<UC:=by omega
    have hcv:∀ k,con Γ (.slice (some ⟨b,off,none⟩) k cap)=.slice (some ⟨Γ.b b,off,none⟩) k (Γ.k b-(cap-UC)):=λk=>by
     simp only[con,Option.map_some,conA,conCap];rw[if_neg hnot]
    rw[hcv]
    split at he<;>cases he
    rename_i cs' hset
    obtain ⟨hle2,rfl⟩:=setN_eq hset
    obtain ⟨fr0,hg⟩:=cells_get hc
    have hok:=hok0
    have hst:=storeCells_run p.P (Γ.b b) (off+n*ti.size) e' fr (new.map (con Γ)) 0 (cs.map (con Γ)++rest) w hrow.heap
     (by simpa using hrow.fr) (by simp at hle2 ⊢;omega) (by
      intro y hy
      simp only[List.mem_map] at hy
      obtain ⟨z,hz,rfl⟩:=hy
      rw[one_con];exact (hok z hz).1)
    have hset:setFrom (cs.map (con Γ)++rest) (off+n*ti.size+0) (new.map (con Γ))=(setFrom cs (off+n*ti.size) new).map (con Γ)++rest:=by
     rw[setFrom_map]
     simp only[setFrom,Nat.add_zero,List.length_map]
     rw[List.take_append_of_le_length (by simp;omega),List.drop_append_of_le_length (by simp;omega)]
     simp
    rw[hset] at hst
    have hlen2:(setFrom cs (off+n*ti.size) new).length=cs.length:=by
     simp only[setFrom,List.length_append,List.length_take,List.length_drop]
     omega
    have hput:=hr.put (x':=⟨.cells ⟨setFrom cs (off+n*ti.size) new⟩ e',true⟩) (o:=.cells ⟨(setFrom cs (off+n*ti.size) new).map (con Γ)++rest⟩ e' fr) hg rfl hlo (by
     simp only[OR]
     refine ⟨λ_=>⟨λy hy=>?_,rest,fr,?_,?_,hrow.no,λhm=>?_⟩,λh0=>absurd h0 (Nat.not_lt.2 hG)⟩
     ·simp only[setFrom,List.mem_append] at hy
      rcases hy with (hy|hy)|hy
      ·exact hrow.ok y (List.mem_of_mem_take hy)
      ·exact hok y hy
      ·exact hrow.ok y (List.mem_of_mem_drop hy)
     ·rw[wset_heap _ _ _ (Array.getElem?_eq_some_iff.1 hrow.heap).1];simp
     ·have:=hrow.fr;simpa[hlen2] using this
     ·exact ⟨ti,hti,by simpa[hlen2] using hk⟩)
    refine ⟨Γ,_,?_,Ag.refl _ _,Nat.le_refl _,hput.1,hput.2⟩
    rw[hcv]
    refine append_fit (base:=some ⟨Γ.b b,off,none⟩) hs hxT hni hi hlr (hnr w rfl) hroom ?_
    dsimp only;rw[addr_add];exact hst
   ·cases he
  ·cases he
 ·cases he
theorem evAppend_run {p:Par}{Γ:Gam}{h h':Heap}{w:World}(hr:HRel p Γ h w){sT xT ty:TypeId}{s x v:Value}
  (he:evAppend p.P sT xT s x h=some (v,h')) :
  ∃ Γ' w',(Builtin.append_ #[sT,xT] ty #[con Γ s,con Γ x]).run p.P w=.ok (con Γ' v) w'∧Ag Γ Γ' h.next∧h.next≤h'.next∧HRel p Γ' h' w'∧Fr p Γ h w w':=by
 unfold evAppend at he
 split at he
 ·rename_i e base n cap m hs hlen
  split at he
  ·cases he
  rename_i i hi0
  have hi:p.P.info? e=some i∧∃ dx,p.P.underlying xT=some dx∧∀ k,dx≠.int k:=by
   split at hi0
   ·cases hi0
   ·cases hi0
   ·rename_i dx hdx hxT
    exact ⟨hi0,dx,hxT,λk e=>hdx k e⟩
  obtain ⟨hi,dx,hxT,hni⟩:=hi
  dsimp only at he
  split at he
  ·cases he
  rename_i new hnew
  obtain ⟨hnl,hok0,hnr⟩:=srcCells_run hr hnew
  have hlr:=lenV_run (P:=p.P) (w:=w) Γ hlen
  have hU:=U_le
  split at he
  ·rename_i hcap
   simp only[Nat.blt_eq] at hcap
   have hcs:con Γ (.slice base n cap)=.slice (base.map (conA Γ)) n cap:=by
    cases base with
    | none=>simp[con]
    | some a=>simp[con,conCap,hcap]
   rw[hcs]
   split at he
   ·rename_i hle
    simp only[Nat.ble_eq] at hle
    split at he
    ·-- nil
     split at he<;>cases he
     refine ⟨Γ,w,?_,Ag.refl _ _,Nat.le_refl _,hr,Fr.refl w⟩
     simp only[Option.map_none,con]
     exact append_fit (base:=none) hs hxT hni hi hlr (hnr w rfl) hle (by simp)
    ·rename_i b off sp
     split at he
     ·cases he
      have hn0:new=[]:=List.length_eq_zero_iff.1 (by simpa using hnl)
      subst hn0
      refine ⟨Γ,w,?_,Ag.refl _ _,Nat.le_refl _,hr,Fr.refl w⟩
      have hcv:con Γ (.slice (some ⟨b,off,sp⟩) (n+0) cap)=.slice (some ⟨Γ.b b,off,sp⟩) (n+0) cap:=by simp[con,conA,conCap,hcap]
      rw[hcv]
      exact append_fit (base:=some ⟨Γ.b b,off,sp⟩) hs hxT hni hi hlr (hnr w rfl) hle (by simp[storeCells])
     split at he
     rotate_left
     ·cases he
     split at he
     ·rename_i cs e' mo hc
      split at he<;>cases he
      rename_i cs' hlo hset
      simp only[Nat.ble_eq] at hlo
      obtain ⟨hle2,rfl⟩:=setN_eq hset
      obtain ⟨fr0,hg⟩:=cells_get hc
      have hG:p.G≤b:=by rw[← hr.lo];exact hlo
      obtain ⟨hlt,rest,fr,hrow⟩:=hr.row hc hG
      have hok:=hok0
      have hst:=storeCells_run p.P (Γ.b b) (off+n*i.size) e' fr (new.map (con Γ)) 0 (cs.map (con Γ)++rest) w hrow.heap
       (by simpa using hrow.fr) (by simp at hle2 ⊢;omega) (by
        intro y hy
        simp only[List.mem_map] at hy
        obtain ⟨z,hz,rfl⟩:=hy
        rw[one_con];exact (hok z hz).1)
      have hset:setFrom (cs.map (con Γ)++rest) (off+n*i.size+0) (new.map (con Γ))=(setFrom cs (off+n*i.size) new).map (con Γ)++rest:=by
       rw[setFrom_map]
       simp only[setFrom,Nat.add_zero,List.length_map]
       rw[List.take_append_of_le_length (by simp;omega),List.drop_append_of_le_length (by simp;omega)]
       simp
      rw[hset] at hst
      have hlen2:(setFrom cs (off+n*i.size) new).length=cs.length:=by
       simp only[setFrom,List.length_append,List.length_take,List.length_drop]
       omega
      have hput:=hr.put (x':=⟨.cells ⟨setFrom cs (off+n*i.size) new⟩ e',mo⟩) (o:=.cells ⟨(setFrom cs (off+n*i.size) new).map (con Γ)++rest⟩ e' fr) hg rfl hlo (by
       simp only[OR]
       refine ⟨λ_=>⟨λy hy=>?_,rest,fr,?_,?_,hrow.no,λhm=>?_⟩,λh0=>absurd h0 (Nat.not_lt.2 hG)⟩
       ·simp only[setFrom,List.mem_append] at hy
        rcases hy with (hy|hy)|hy
        ·exact hrow.ok y (List.mem_of_mem_take hy)
        ·exact hok y hy
        ·exact hrow.ok y (List.mem_of_mem_drop hy)
       ·rw[wset_heap _ _ _ (Array.getElem?_eq_some_iff.1 hrow.heap).1];simp
       ·have:=hrow.fr;simpa[hlen2] using this
       ·obtain ⟨ti,h5,h6⟩:=hrow.more hm
        exact ⟨ti,h5,by simpa[hlen2] using h6⟩)
      refine ⟨Γ,_,?_,Ag.refl _ _,Nat.le_refl _,hput.1,hput.2⟩
      have hcv:∀ m:Nat,con Γ (.slice (some ⟨b,off,none⟩) (n+(m+1)) cap)=.slice (some ⟨Γ.b b,off,none⟩) (n+(m+1)) cap:=λm=>by simp[con,conA,conCap,hcap]
      rw[hcv]
      have hb0:(some (⟨b,off,none⟩:Addr)).map (conA Γ)=some ⟨Γ.b b,off,none⟩:=rfl
      rw[hb0]
      refine append_fit (base:=some ⟨Γ.b b,off,none⟩) hs hxT hni hi hlr (hnr w rfl) hle ?_
      dsimp only;rw[addr_add];exact hst
     ·cases he
   ·rename_i hle
    have hgt:cap<n+m:=by
     have:Nat.ble (n+m) cap≠true:=by rw[hle];simp
     simp only[ne_eq,Nat.ble_eq] at this;omega
    split at he
    ·rename_i old z hold hbnd hz
     simp only[Bool.and_eq_true,Nat.ble_eq,Nat.blt_eq] at hbnd
     split at he
     ·rename_i hzz
      simp only[Bool.and_eq_true,Nat.beq_eq,Nat.blt_eq] at hzz
      split at he<;>cases he
      rename_i b h'' hmk
      obtain ⟨hol,_,hor⟩:=srcCells_run hr hold
      rw[hcs] at hor
      have hgr:=append_grow (ty:=ty) (base:=base.map (conA Γ)) (n:=n) (cap:=cap) hs hxT hni hi hz hlr (hor w.drew rfl) (hnr w.drew rfl) hgt (by omega)
       (growslice_fits hgt (by omega))
      have hmr:=mkRow_run (hr.of_heap (w':=w.drew) rfl) hmk (Builtin.zeroCells z.cells (grownCap w (n+m) cap e-(n+m))).toList (grownCap w (n+m) cap e) (0,0) (.inr rfl) (λhm=>by cases hm) (λ_=>⟨i,hi,by
       simp only[List.length_append,hol,hnl,Array.length_toList,size_zeroCells,hzz.1]
       have hge:=grownCap_ge w (n+m) cap e
       rw[← Nat.add_mul,← Nat.add_mul]
       congr 1
       omega⟩)
      obtain ⟨h1,h2,h3,h4,h5⟩:=hmr
      subst h1
      refine ⟨_,_,?_,h3,by omega,h4,⟨(Below.refl p.B w).drew.trans h5.below,h5.low⟩⟩
      rw[hgr]
      have hcv:con (Γ.ext h.next w.drew.heap.size (grownCap w (n+m) cap e)) (.slice (some ⟨h.next,0,none⟩) (n+m) UC)=.slice (some ⟨w.heap.size,0,none⟩) (n+m) (grownCap w (n+m) cap e):=by
       simp only[con,conA,conCap,Gam.ext_b,Gam.ext_k,Nat.lt_irrefl,if_false,Nat.sub_self,Nat.sub_zero]
       rfl
      rw[hcv,List.map_append]
     ·cases he
    ·cases he
  ·-- the tip of a row whose capacity is not known
   split at he
   ·rename_i r hin
    cases he
    exact appIn_run hr hs hxT hni hi hlr hnl hok0 hnr hin
   rename_i hin0
   clear hin0
   split at he
   ·rename_i b
    split at he
    ·rename_i cs e' hc
     split at he
     ·rename_i z hbb hz
      simp only[Bool.and_eq_true,Nat.beq_eq,Nat.ble_eq,Nat.blt_eq] at hbb
      obtain ⟨⟨⟨⟨he',hcU⟩,hlo⟩,hcl⟩,hbnd⟩:=hbb
      have he2:=he'.symm;subst he2
      split at he<;>cases he
      rename_i hz2
      simp only[foneL_eq,Bool.and_eq_true,Nat.beq_eq,Nat.blt_eq,List.all_eq_true] at hz2
      obtain ⟨⟨hzz,hz0⟩,hone,hscn⟩:=hz2
      obtain ⟨fr0,hg⟩:=cells_get hc
      have hG:p.G≤b:=by rw[← hr.lo];exact hlo
      obtain ⟨hlt,rest,fr,hrow⟩:=hr.row hc hG
      obtain ⟨ti,hti,hk⟩:=hrow.more rfl
      have hti':ti=i:=by rw[hi] at hti;exact (Option.some.inj hti).symm
      subst hti'
      have hok:∀ y∈new,one y=true∧sc h.next y=true:=λy hy=>⟨hone y hy,scL_all hscn y hy⟩
      have hcs:con Γ (.slice (some ⟨b,0,none⟩) n cap)=.slice (some ⟨Γ.b b,0,none⟩) n (Γ.k b):=by
       simp only[con,conA,conCap,hcU,Nat.lt_irrefl,if_false,Nat.sub_self,Nat.sub_zero]
      rw[hcs]
      by_cases hroom:n+m≤Γ.k b
      ·have hrl : new.length ≤ rest.length := by
        have:(n+m)*ti.size≤Γ.k b*ti.size:=Nat.mul_le_mul_right _ hroom
        rw[Nat.add_mul] at this
        omega
       have hst:=storeCells_run p.P (Γ.b b) (n*ti.size) e fr (new.map (con Γ)) 0 (cs.map (con Γ)++rest) w hrow.heap
        (by simpa using hrow.fr) (by simp;omega) (by
         intro y hy
         simp only[List.mem_map] at hy
         obtain ⟨z,hz,rfl⟩:=hy
         rw[one_con];exact hone z hz)
       have hset:setFrom (cs.map (con Γ)++rest) (n*ti.size+0) (new.map (con Γ))=(cs++new).map (con Γ)++rest.drop new.length:=by
        simp only[setFrom,Nat.add_zero,List.length_map,List.map_append]
        rw[List.take_append_of_le_length (by simp;omega),List.take_of_length_le (by simp;omega)]
        rw[List.drop_append,List.drop_eq_nil_of_le (by simp;omega)]
        simp only[List.length_map,List.nil_append]
        congr 2
        omega
       rw[hset] at hst
       have hmap:(cs++new).map (con (Γ.ext h.next (Γ.b b) (Γ.k b)))=(cs++new).map (con Γ):=List.map_congr_left λy hy=>con_ag (Γ.ext_ag _ _ _) y (by
        rcases List.mem_append.1 hy with hy|hy
        ·exact (hrow.ok y hy).2
        ·exact (hok y hy).2)
       have hre:=hr.lend (x':=⟨.cells ⟨cs++new⟩ e,true⟩) (e:=e) (cs:=cs) (o:=.cells ⟨(cs++new).map (con Γ)++rest.drop new.length⟩ e fr) hg rfl hlo hrow.ok (by
        simp only[OR]
        refine ⟨λ_=>⟨λy hy=>?_,rest.drop new.length,fr,?_,?_,λhm=>(by cases hm),λ_=>⟨ti,hi,?_⟩⟩,λh0=>absurd h0 (Nat.not_lt.2 hr.gn)⟩
        ·rcases List.mem_append.1 hy with hy|hy
         ·exact ⟨(hrow.ok y hy).1,sc_mono (Nat.le_succ _) y (hrow.ok y hy).2⟩
         ·exact ⟨(hok y hy).1,sc_mono (Nat.le_succ _) y (hok y hy).2⟩
        ·rw[Gam.ext_b,hmap,wset_heap _ _ _ (Array.getElem?_eq_some_iff.1 hrow.heap).1];simp
        ·have:=hrow.fr
         simp only[List.size_toArray,List.length_append,List.length_drop]
         omega
        ·rw[Gam.ext_k]
         simp only[List.size_toArray,List.length_append,List.length_drop]
         omega) rfl
       refine ⟨_,_,?_,Γ.ext_ag _ _ _,Nat.le_succ _,hre.1,hre.2⟩
       have hcv:con (Γ.ext h.next (Γ.b b) (Γ.k b)) (.slice (some ⟨h.next,0,none⟩) (n+m) UC)=.slice (some ⟨Γ.b b,0,none⟩) (n+m) (Γ.k b):=by
        simp only[con,conA,conCap,Gam.ext_b,Gam.ext_k,Nat.lt_irrefl,if_false,Nat.sub_self,Nat.sub_zero]
       rw[hcv]
       refine append_fit (base:=some ⟨Γ.b b,0,none⟩) hs hxT hni hi hlr (hnr w rfl) hroom ?_
       dsimp only;rw[addr_add,Nat.zero_add];exact hst
      ·have hgt:Γ.k b<n+m:=by omega
       have hol:(Builtin.firstCells ti.size n (.slice (some ⟨Γ.b b,0,none⟩) n (Γ.k b))).run p.P w.drew=.ok ⟨cs.map (con Γ)⟩ w.drew:=by
        have htk:takeN cs 0 (n*ti.size)=some cs:=takeN_all cs hcl
        have:=(hr.of_heap (w':=w.drew) rfl).load hc htk (.inl hG) p.P
        simpa[Builtin.firstCells] using this
       have hgr:=append_grow (ty:=ty) (base:=some ⟨Γ.b b,0,none⟩) (n:=n) (cap:=Γ.k b) hs hxT hni hi hz hlr hol (hnr w.drew rfl) hgt (by omega)
        (growslice_fits hgt (by omega))
       have hmk:mkRow h e (cs++new) true=some (h.next,(h.new ⟨.cells ⟨cs++new⟩ e,true⟩).2):=by
        unfold mkRow
        have h1:foneL h.next (cs++new)=true:=by
         simp only[foneL_eq,Bool.and_eq_true,List.all_eq_true]
         refine ⟨λy hy=>?_,scL_of_all λy hy=>?_⟩
         ·rcases List.mem_append.1 hy with hy|hy
          ·exact (hrow.ok y hy).1
          ·exact hone y hy
         ·rcases List.mem_append.1 hy with hy|hy
          ·exact (hrow.ok y hy).2
          ·exact (hok y hy).2
        rw[h1,Heap.new_eq]
       have hmr:=mkRow_run (hr.of_heap (w':=w.drew) rfl) hmk (Builtin.zeroCells z.cells (grownCap w (n+m) (Γ.k b) e-(n+m))).toList (grownCap w (n+m) (Γ.k b) e) (0,0) (.inr rfl) (λhm=>by cases hm) (λ_=>⟨ti,hi,by
        simp only[List.length_append,hcl,hnl,Array.length_toList,size_zeroCells,hzz]
        have hge:=grownCap_ge w (n+m) (Γ.k b) e
        rw[← Nat.add_mul,← Nat.add_mul]
        congr 1
        omega⟩)
       obtain ⟨_,h2,h3,h4,h5⟩:=hmr
       have hbn:b≠h.next:=by omega
       have hlend:=h4.lendTo (b:=b) (c:=h.next) (e:=e) (cs:=cs) (fr0:=fr0) (by rw[Heap.new_eq];simp only[Heap.get];rw[Tr.get_put _ h.next _ b,if_neg hbn];exact hg) (by rw[Heap.new_eq];exact hlo) hlt (by rw[Heap.new_eq];exact Nat.lt_succ_self _)
        (by rw[Gam.ext_b,h3.b b hlt];have:=(Array.getElem?_eq_some_iff.1 hrow.heap).1;show w.heap.size≠_;omega)
       rw[Heap.new_eq,Heap.put_eq] at hlend
       refine ⟨_,_,?_,h3,Nat.le_succ _,hlend,⟨(Below.refl p.B w).drew.trans h5.below,h5.low⟩⟩
       rw[hgr]
       have hcv:con (Γ.ext h.next w.drew.heap.size (grownCap w (n+m) (Γ.k b) e)) (.slice (some ⟨h.next,0,none⟩) (n+m) UC)=.slice (some ⟨w.heap.size,0,none⟩) (n+m) (grownCap w (n+m) (Γ.k b) e):=by
        simp only[con,conA,conCap,Gam.ext_b,Gam.ext_k,Nat.lt_irrefl,if_false,Nat.sub_self,Nat.sub_zero]
        rfl
       rw[hcv,List.map_append]
     ·cases he
    ·cases he
   ·cases he
 ·cases he
end Go.Ev
namespace Go.Ev
open Go Go.RowKit
theorem map_flatten_flat (Γ:Gam){z:List Value}(h:z.map (con Γ)=z)(n:Nat):((List.replicate n z).flatten).map (con Γ)=(List.replicate n z).flatten:=by
 induction n with
 | zero=>simp
 | succ n ih=>simp only[List.replicate_succ,List.flatten_cons,List.map_append,h,ih]
theorem evMake_run {p:Par}{Γ:Gam}{h h':Heap}{w:World}(hr:HRel p Γ h w){t:TypeId}{l c v:Value}(he:evMake p.P t l c h=some (v,h')) :
  ∃ Γ' w',(Instr.makeSlice t (con Γ l) (con Γ c)).run p.P w=.ok (con Γ' v) w'∧Ag Γ Γ' h.next∧h.next≤h'.next∧HRel p Γ' h' w'∧Fr p Γ h w w':=by
 have hU:=U_le
 unfold evMake at he
 split at he
 ·rename_i e kl l kc c hs
  split at he
  ·rename_i i hi
   split at he
   ·rename_i z hb hz
    simp only[Bool.and_eq_true,Nat.ble_eq,Nat.blt_eq] at hb
    split at he
    ·rename_i hzz
     simp only[Bool.and_eq_true,Nat.beq_eq,Nat.blt_eq] at hzz
     obtain ⟨⟨hz1,hz2⟩,hzf⟩:=hzz
     split at he<;>cases he
     rename_i b h'' hmk
     have hm:(i.bytes:Int)*(c:Int)≤281474976710656:=by
      have:((i.bytes*c:Nat):Int)≤281474976710656:=by rw[Nat.mul_comm];omega
      rwa [Int.natCast_mul] at this
     have hrun:=run_make (P:=p.P) w t e i z hs hi hz kl kc (l:Int) (c:Int) (Int.natCast_nonneg _) (by omega) hm (by omega)
     obtain ⟨h1,h2,h3,h4,h5⟩:=mkRow_run hr hmk [] 0 (0,0) (.inr rfl) (λ_=>rfl) (λhm=>by cases hm)
     subst h1
     refine ⟨_,_,?_,h3,by omega,h4,h5⟩
     have hzm:z.cells.toList.map (con Γ)=z.cells.toList:=by rw[← conL_map];exact conL_flat Γ _ hzf
     have hcells:madeCells z.cells (c*i.size)=⟨((List.replicate c z.cells.toList).flatten).map (con Γ)++[]⟩:=by
      apply Array.ext'
      rw[map_flatten_flat Γ hzm,List.append_nil]
      have:=rep_cells z.cells c
      rw[hz1] at this
      simpa[madeCells,hz1] using this
     simp only[con] at hrun ⊢
     have e1:Int.ofNat l=(l:Int):=rfl
     have e2:Int.ofNat c=(c:Int):=rfl
     rw[e1,e2,hrun]
     have hcU:c<UC:=by have:=U_UC;omega
     simp only[conA,conCap,Gam.ext_b,if_pos hcU,Int.toNat_natCast,hcells]
    ·cases he
   ·cases he
  ·cases he
 ·cases he
theorem freeze_wset_at {w:World}{g k:Nat}{c:Array Value}{e:TypeId}{fr:Nat×Nat}(hg:w.heap[g]?=some (.cells c e fr)) :
  w.freeze ⟨g,k,none⟩ 1=wset w g (.cells c e (if fr.1 == fr.2 then (k,k+1) else (min fr.1 k,max fr.2 (k+1)))):=by
 obtain ⟨lo,hi⟩:=fr
 simp only[World.freeze,if_neg (show ¬ (1:Nat)=0 by decide),wset]
 congr 1
 apply Array.ext_getElem?
 intro j
 rw[Array.getElem?_setIfInBounds,Array.getElem?_modify]
 have hlt:g<w.heap.size:=(Array.getElem?_eq_some_iff.1 hg).1
 by_cases hgj:g=j
 ·subst hgj
  have hgg:w.heap[g]=.cells c e (lo,hi):=by
   have:=hg;rw[Array.getElem?_eq_getElem hlt] at this;exact Option.some.inj this
  simp[hlt,hgg]
 ·simp[hgj]
theorem HRel.of_get {p:Par}{Γ:Gam}{h h':Heap}{w:World}(hr:HRel p Γ h w)(hg:∀ i,h'.get i=h.get i)(hn:h'.next=h.next)(hl:h'.lo=h.lo):HRel p Γ h' w:=
 ⟨λi x hx=>by rw[hn];exact hr.obj i x (by rw[← hg];exact hx),λi x hx=>hr.base i x (by rw[← hg];exact hx),λi j x y hx ho hy=>hr.inj i j x y (by rw[← hg];exact hx) ho (by rw[← hg];exact hy),
  hr.gl,λi y hi hy hoy=>hr.low i y hi (by rw[← hg];exact hy) hoy,by rw[hl];exact hr.lo,by rw[hn];exact hr.gn,hr.ng,hr.size,hr.gs,hr.lent.step (Ag.refl _ _) (by rw[hn];exact Nat.le_refl _) (Nat.le_refl _) (λb x hb _=>by rw[← hg];exact hb) (λj y hj ho _=>.inl ⟨y,by rw[← hg];exact hj,ho,(hr.obj j y (by rw[← hg];exact hj)).1⟩) (λ_ _ _ _ _ _=>rfl)⟩
theorem mark_run {p:Par}{Γ:Gam}{h:Heap}{w:World}(hr:HRel p Γ h w){g off:Nat}{spot:Option Nat}{cs:Array Value}{e:TypeId}{fr0:Nat×Nat}{m:Bool}(hx:h.get g=some ⟨.cells cs e fr0,m⟩)(hlo:h.lo≤g) :
  ∃ w',(markStringish ⟨Γ.b g,off,spot⟩).run p.P w=.ok () w'∧HRel p Γ h w'∧Fr p Γ h w w':=by
 have hG:p.G≤g:=by rw[← hr.lo];exact hlo
 have hO:=(hr.obj g _ hx).2
 simp only[OR] at hO
 obtain ⟨⟨h1,rest,fr,h2,h3,h4,h5⟩,_⟩:=And.intro (hO.1 hG) trivial
 obtain ⟨n,hn⟩:∃ n,n=cs.size+rest.length:=⟨_,rfl⟩
 have hsh:w.shape? (Γ.b g)=some (e,n):=by
  unfold World.shape?;rw[h2];simp[hn]
 have hfz:=freeze_wset_at (k:=n) h2
 obtain ⟨hr',hfr⟩:=hr.put hx rfl hlo (x':=⟨.cells cs e fr0,m⟩) (o:=.cells (cs.toList.map (con Γ)++rest).toArray e (if fr.1 == fr.2 then (n,n+1) else (min fr.1 n,max fr.2 (n+1)))) (by
  simp only[OR]
  refine ⟨λ_=>⟨h1,rest,(if fr.1 == fr.2 then (n,n+1) else (min fr.1 n,max fr.2 (n+1))),?_,?_,h4,h5⟩,λhlt=>absurd hlt (Nat.not_lt.2 hG)⟩
  ·rw[wset_heap _ _ _ (Array.getElem?_eq_some_iff.1 h2).1,if_pos rfl]
  ·left
   split
   ·rw[hn];exact Nat.le_refl _
   ·rename_i hne
    rcases h3 with h3|h3
    ·show _≤min fr.1 n
     omega
    ·exact absurd (by simp[h3]) hne)
 refine ⟨_,?_,hr'.of_get (λi=>by rw[Heap.get_put];split<;>simp_all) rfl rfl,hfr⟩
 simp only[markStringish,Sem.run_bind,run_shape,hsh,Result.andThen_ok,run_freeze,hfz]
theorem evEff_run {p:Par}{Γ:Gam}{h h':Heap}{w:World}(hr:HRel p Γ h w){tm:VT}{ca:Act}{o:Oper}{v:Value}(ht:Tm Γ p.NG tm ca)
  (hop:o.op.operands.all (okOpd p.NG)=true) (he:evEff p.P o tm h=some (v,h')):Out p Γ h ca o w v h':=by
 have hev:∀ x∈o.op.operands,ca.eval x=con Γ (ev tm x):=λx hx=>ht.eval (by
  rw[Array.all_eq_true_iff_forall_mem] at hop;exact hop x hx)
 unfold evEff at he
 split at he
 ·-- alloc
  rename_i e ho
  split at he
  ·rename_i z hz
   split at he
   ·rename_i hzf
    split at he<;>cases he
    rename_i b h'' hmk
    obtain ⟨h1,h2,h3,h4,h5⟩:=mkRow_run hr hmk [] 0 (0,0) (.inr rfl) (λ_=>rfl) (λhm=>by cases hm)
    subst h1
    refine ⟨_,_,_,?_,.inl rfl,h3,by omega,h4,h5⟩
    have hzi:(zeroValue e).run p.P w=.ok z w:=by
     unfold zeroOf at hz
     split at hz
     ·rename_i i hi;simp[zeroValue,typeInfo,hi,hz]
     ·cases hz
    have hc:(⟨z.cells.toList.map (con Γ)++[]⟩:Array Value)=z.cells:=by
     apply Array.ext';rw[List.append_nil,conL_cells Γ hzf]
    rw[con_ptr_ext,hc]
    simp only[execOp,ho,Instr.alloc,Sem.run_bind,hzi,Result.andThen_ok,newVar,newRow,run_newObj,Sem.run_pure,World.alloc_eq]
   ·cases he
  ·cases he
 ·-- box
  rename_i e x ho
  have hx:=hev x (by simp[ho,Op.operands])
  split at he<;>cases he
  rename_i b h'' hmk
  obtain ⟨h1,h2,h3,h4,h5⟩:=mkRow_run hr hmk [] 0 (0,0) (.inr rfl) (λ_=>rfl) (λhm=>by cases hm)
  subst h1
  refine ⟨_,_,_,?_,.inl rfl,h3,by omega,h4,h5⟩
  have hc:(⟨(ev tm x).cells.toList.map (con Γ)++[]⟩:Array Value)=(con Γ (ev tm x)).cells:=by
   apply Array.ext';rw[List.append_nil,con_cells];simp
  rw[con_ptr_ext,hc]
  simp only[execOp,ho,hx,Instr.box,Sem.run_bind,Result.andThen_ok,newVar,newRow,run_newObj,Sem.run_pure,World.alloc_eq]
 ·-- buildSlice
  rename_i t len parts ho
  split at he
  ·rename_i e hs
   split at he
   ·rename_i i hi
    split at he
    ·rename_i z hb hz
     simp only[Nat.ble_eq] at hb
     split at he
     ·rename_i hzz
      simp only[Bool.and_eq_true,Nat.beq_eq,Nat.blt_eq] at hzz
      obtain ⟨⟨hz1,hz2⟩,hzf⟩:=hzz
      split at he
      ·rename_i cs hcs
       split at he<;>cases he
       rename_i b h'' hmk
       obtain ⟨h1,h2,h3,h4,h5⟩:=mkRow_run hr hmk [] 0 (0,0) (.inr rfl) (λ_=>rfl) (λhm=>by cases hm)
       subst h1
       refine ⟨_,_,_,?_,.inl rfl,h3,by omega,h4,h5⟩
       have hzm:z.cells.toList.map (con Γ)=z.cells.toList:=by rw[← conL_map];exact conL_flat Γ _ hzf
       have hfill:=fillL_run Γ _ _ _ _ hcs
       rw[map_flatten_flat Γ hzm] at hfill
       have hparts:(parts.map λ(x:Nat×Operand)=>(x.1,ca.eval x.2)).toList=(parts.toList.map λ(x:Nat×Operand)=>(x.1,ev tm x.2)).map λx=>(x.1,con Γ x.2):=by
        simp only[Array.toList_map,List.map_map]
        apply List.map_congr_left
        intro y hy
        simp only[Function.comp]
        rw[hev y.2 (by
         simp only[ho,Op.operands]
         simp only[List.mem_toArray,List.mem_map]
         exact ⟨y,hy,rfl⟩)]
       have hU:=U_le
       have hb':¬ (len*i.size > 2 ^ 24):=by
        have:(2:Nat) ^ 24=16777216:=by decide
        omega
       have hrow:=rep_cells z.cells len
       rw[hz1] at hrow
       have hz0:(zeroValue e).run p.P w=.ok z w:=by simp[zeroValue,typeInfo,hi,hz]
       have hlen0:len≤16777216:=by
        have:len*1≤len*i.size:=Nat.mul_le_mul_left _ hz2
        omega
       have hlenU:len<UC:=by
        have:(16777216:Nat)<UC:=by unfold UC;decide
        omega
       have hcv:con (Γ.ext h.next w.heap.size 0) (.slice (some ⟨h.next,0,none⟩) len len)=.slice (some ⟨w.heap.size,0,none⟩) len len:=by
        simp only[con,conA,conCap,Gam.ext_b,if_pos hlenU]
       rw[hcv]
       simp only[execOp,ho,Instr.buildSlice,Sem.run_bind,run_under hs,Result.andThen_ok,sizeOf,typeInfo,run_program,hi,Sem.run_pure,if_neg hb']
       rw[show (parts.map λ(i,x)=>(i,ca.eval x)).toList=(parts.map λ(x:Nat×Operand)=>(x.1,ca.eval x.2)).toList from rfl,hparts]
       rw[show (parts.toList.map λ(x:Nat×Operand)=>(x.1,ev tm x.2))=(parts.toList.map λ(i,x)=>(i,ev tm x)) from rfl]
       by_cases hl0:len*i.size=0
       ·have hlen : len = 0 := by
         rcases Nat.mul_eq_zero.1 hl0 with h0|h0
         ·exact h0
         ·omega
        subst hlen
        simp only[Nat.zero_mul,if_true,Sem.run_bind,Sem.run_pure,Result.andThen_ok] at hfill ⊢
        have hemp:((Array.range 0).map λ(x:Nat)=>(#[]:Array Value)[x % (#[]:Array Value).size]!)=⟨[]⟩:=by simp
        simp only[List.replicate_zero,List.flatten_nil] at hfill
        rw[hemp,hfill]
        simp[newRow]
       ·simp only[if_neg hl0,Sem.run_bind,hz0,Result.andThen_ok,Sem.run_pure]
        have harr:((Array.range (len*i.size)).map λ(x:Nat)=>z.cells[x % z.cells.size]!)=⟨(List.replicate len z.cells.toList).flatten⟩:=by
         apply Array.ext'
         rw[hz1]
         exact hrow
        rw[harr,hfill]
        simp[newRow]
      ·cases he
     ·cases he
    ·cases he
   ·cases he
  ·cases he
 ·-- store
  rename_i t a x ho
  have ha:=hev a (by simp[ho,Op.operands])
  have hx:=hev x (by simp[ho,Op.operands])
  split at he<;>cases he
  rename_i h2 hst
  obtain ⟨w',h3,h4,h5,h6⟩:=evStore_run hr hst
  refine ⟨Γ,w',.skip,?_,.inr ⟨rfl,rfl⟩,Ag.refl _ _,by omega,h5,h6⟩
  simp only[execOp,ho,ha,hx,Sem.run_bind,h3,Result.andThen_ok,Sem.run_pure]
 ·-- makeSlice
  rename_i t l c ho
  have hl:=hev l (by simp[ho,Op.operands])
  have hc:=hev c (by simp[ho,Op.operands])
  obtain ⟨Γ',w',h1,h2,h3,h4,h5⟩:=evMake_run hr he
  refine ⟨Γ',w',_,?_,.inl rfl,h2,h3,h4,h5⟩
  simp only[execOp,ho,hl,hc,Sem.run_bind,h1,Result.andThen_ok,Sem.run_pure]
 ·-- append
  rename_i args argTypes ho
  split at he
  ·rename_i sT xT s x hT hA
   have hT':argTypes=#[sT,xT]:=Array.ext' hT
   have hA':args=#[s,x]:=Array.ext' hA
   subst hT' hA'
   have hs:=hev s (by simp[ho,Op.operands,Call.operands])
   have hx:=hev x (by simp[ho,Op.operands,Call.operands])
   obtain ⟨Γ',w',h1,h2,h3,h4,h5⟩:=evAppend_run (ty:=o.type) hr he
   refine ⟨Γ',w',_,?_,.inl rfl,h2,h3,h4,h5⟩
   simp[execOp,ho,resolve,invoke,builtin,hs,hx,h1]
  ·cases he
 ·-- range
  rename_i t x ho
  have hx:=hev x (by simp[ho,Op.operands])
  split at he
  ·rename_i s hu hxe
   rw[Heap.new_eq] at he
   cases he
   have hnew:=hr.new (x:=⟨.stringIter s 0,false⟩) (o:=.stringIter s 0) (k:=0) (by
    simp only[OR];rw[Gam.ext_b];exact heap_alloc_new w _)
   rw[Heap.new_eq] at hnew
   refine ⟨_,_,_,?_,.inl rfl,Γ.ext_ag _ _ _,Nat.le_succ _,hnew.1,hnew.2⟩
   rw[con_ptr_ext]
   simp[execOp,ho,hx,hxe,con,Instr.range,run_under hu]
  ·cases he
 ·-- next
  rename_i it ho
  have hx:=hev it (by simp[ho,Op.operands])
  split at he
  ·rename_i b hxe
   split at he
   ·rename_i s pos hg hlo
    simp only[Nat.ble_eq] at hlo
    have hO:=(hr.obj b _ hg).2
    simp only[OR] at hO
    have hlt:=(Array.getElem?_eq_some_iff.1 hO).1
    split at he
    ·rename_i hps
     simp only[Nat.blt_eq] at hps
     cases he
     have hput:=hr.put (x':=⟨.stringIter s (pos+(Utf8.decode s pos).2),false⟩) (o:=.stringIter s (pos+(Utf8.decode s pos).2)) hg rfl hlo (by
      simp only[OR]
      rw[wset_heap _ _ _ hlt];simp)
     refine ⟨Γ,_,_,?_,.inl rfl,Ag.refl _ _,Nat.le_refl _,hput.1,hput.2⟩
     simp[execOp,ho,hx,hxe,con,conA,Instr.next,getObj,setObj,Sem.run,hO,hps,goInt,conL,wset]
    ·rename_i hps
     have hps':¬ pos<s.size:=by
      intro hlt2
      have:Nat.blt pos s.size=true:=by simpa using hlt2
      rw[this] at hps;cases hps
     cases he
     refine ⟨Γ,w,_,?_,.inl rfl,Ag.refl _ _,Nat.le_refl _,hr,Fr.refl w⟩
     simp[execOp,ho,hx,hxe,con,conA,Instr.next,getObj,Sem.run,hO,hps',conL]
   ·cases he
  ·cases he
 ·-- convert
  rename_i s d x ho
  have hx:=hev x (by simp[ho,Op.operands])
  split at he
  ·rename_i e bs hs hd hxe
   split at he
   ·rename_i hu8 hsz
    split at he
    ·rename_i hbU
     simp only[Nat.blt_eq] at hbU
     split at he<;>cases he
     rename_i g h'' hmk
     obtain ⟨ti,hti,hts⟩:∃ ti,p.P.info? e=some ti∧ti.size=1:=by
      unfold szT at hsz
      split at hsz
      ·rename_i i hi;exact ⟨i,hi,by simpa using hsz⟩
      ·cases hsz
     have hge:=grownCap_ge w bs.size 0 e
     have hbl:bs.data.toList.length=bs.size:=Array.length_toList
     obtain ⟨h1,h2,h3,h4,h5⟩:=mkRow_run (hr.of_heap (w':=w.drew) rfl) hmk (List.replicate (grownCap w bs.size 0 e-bs.size) (.int .u8 0)) (grownCap w bs.size 0 e)
      (grownCap w bs.size 0 e,grownCap w bs.size 0 e+1) (.inl (by simp[hbl];omega)) (λhm=>by cases hm) (λ_=>⟨ti,hti,by simp[hbl,hts];omega⟩)
     subst h1
     refine ⟨_,_,_,?_,.inl rfl,h3,by omega,h4,⟨(Below.refl p.B w).drew.trans h5.below,h5.low⟩⟩
     have hmapc:(bs.data.toList.map λx=>Value.int .u8 (x.toNat:Int)).map (con Γ)=bs.data.toList.map λx=>Value.int .u8 (x.toNat:Int):=by
      rw[List.map_map];exact List.map_congr_left λ_ _=>rfl
     have hcv:con (Γ.ext h.next w.drew.heap.size (grownCap w bs.size 0 e)) (.slice (some ⟨h.next,0,none⟩) bs.size UC)=.slice (some ⟨w.heap.size,0,none⟩) bs.size (grownCap w bs.size 0 e):=by
      simp only[con,conA,conCap,Gam.ext_b,Gam.ext_k,Nat.lt_irrefl,if_false,Nat.sub_self,Nat.sub_zero]
      rfl
     rw[hcv,hmapc]
     obtain ⟨C,hC⟩:∃ C:List Value,C=(bs.data.toList.map λx=>Value.int .u8 (x.toNat:Int))++List.replicate (grownCap w bs.size 0 e-bs.size) (.int .u8 0):=⟨_,rfl⟩
     have hCl:C.length=grownCap w bs.size 0 e:=by rw[hC];simp[hbl];omega
     have harr:((bs.data.map λb=>Value.int .u8 (b.toNat:Int))++Array.replicate (grownCap w bs.size 0 e-bs.size) (.int .u8 0):Array Value)=⟨C⟩:=by
      apply Array.ext';rw[hC];simp
     rw[← hC]
     have hsh:(w.drew.alloc (.cells ⟨C⟩ e)).shape? w.heap.size=some (e,C.length):=by
      have:(w.drew.alloc (.cells ⟨C⟩ e)).heap[w.heap.size]?=some (.cells ⟨C⟩ e (0,0)):=heap_alloc_new w.drew _
      unfold World.shape?;rw[this];rfl
     have hfz:(w.drew.alloc (.cells ⟨C⟩ e)).freeze ⟨w.heap.size,C.length,none⟩ 1=w.drew.alloc (.cells ⟨C⟩ e (grownCap w bs.size 0 e,grownCap w bs.size 0 e+1)):=by
      simp only[World.freeze,World.alloc]
      rw[if_neg (by decide)]
      congr 1
      apply Array.ext_getElem?
      intro j
      rw[Array.getElem?_modify]
      by_cases ej:w.heap.size=j
      ·subst ej
       have e0:(w.drew.heap.push (Obj.cells ⟨C⟩ e))[w.heap.size]?=some (.cells ⟨C⟩ e (0,0)):=by
        rw[Array.getElem?_push];simp
       have e1:(w.drew.heap.push (Obj.cells ⟨C⟩ e (grownCap w bs.size 0 e,grownCap w bs.size 0 e+1)))[w.heap.size]?=some (.cells ⟨C⟩ e (grownCap w bs.size 0 e,grownCap w bs.size 0 e+1)):=by
        rw[Array.getElem?_push];simp
       rw[if_pos rfl,e0,e1]
       simp[hCl]
      ·rw[if_neg ej,Array.getElem?_push,Array.getElem?_push]
       simp[Ne.symm ej]
     simp only[execOp,ho,hx,hxe,con,convert,Sem.run_bind,run_under hs,run_under hd,run_under hu8,Result.andThen_ok,Conv.stringToBytes,run_choose,Question.forced,Bool.false_eq_true,if_false,newRow,
      run_newObj,World.alloc_eq,Sem.run_pure,markStringish,run_shape,World.drew_eq]
     rw[show (Question.appendCap bs.size 0 e).cut (w.tape w.drawn (.appendCap bs.size 0 e))=grownCap w bs.size 0 e from rfl,harr]
     simp only[World.size_drew,hsh,run_freeze,Result.andThen_ok,hfz]
    ·cases he
   ·cases he
  ·rename_i e0 e g off spot n c hs hd hxe
   unfold markEff at he
   split at he
   ·rename_i hu8 hsd hlo hgx
    cases he
    obtain ⟨w',h1,h2,h3⟩:=mark_run hr (off:=off) (spot:=spot) hgx (by simpa using hlo)
    have hsd:s=d:=by simpa using hsd
    subst hsd
    have hee:e0=e:=by rw[hs] at hd;cases hd;rfl
    subst hee
    refine ⟨Γ,w',_,?_,.inl rfl,Ag.refl _ _,Nat.le_refl _,h2,h3⟩
    have hcv:con Γ (.slice (some ⟨g,off,spot⟩) n c)=.slice (some ⟨Γ.b g,off,spot⟩) n (conCap Γ g c):=rfl
    simp only[execOp,ho,hx,hxe,hcv,convert,Sem.run_bind,run_under hs,run_under hd,run_under hu8,Result.andThen_ok,beq_self_eq_true,h1,Sem.run_pure]
   ·cases he
  ·cases he
 ·cases he
end Go.Ev
namespace Go.Ev
open Go Go.RowKit
structure FW (F:Fence):Prop where
 wide:F.plain=Fence.wide
theorem FW.fn {F:Fence}(h:FW F)(f:FuncId):F.fn f:=by
 have:F.plain.fn f:=by rw[h.wide];trivial
 exact this
theorem FW.depth {F:Fence}(h:FW F):F.depth=none:=by
 have:F.plain.depth=none:=by rw[h.wide];rfl
 exact this
section
variable {F:Fence} {n:Nat} {P:Program} {ops:Array Oper} {Q:Exit→Act→World→Prop} {md:Region.Mode}
def opW (F:Fence)(n:Nat)(P:Program)(ops:Array Oper)(Q:Exit→Act→World→Prop)(i:Nat)(K:Act→World→Prop)(a:Act)(w:World):Prop:=
 match ops[i]? with
 | none=>K a w
 | some o=>if Region.wanted o (yielded ops a.tmps) then o.uponIn F n P a K Q ((execOp a.eval o).run P w) else K (a.put o.dst undef) w
def noDefer (ops:Array Oper):Prop:=∀ (j:Nat) (o:Oper) (c:Call),ops[j]?=some o→o.op≠.defer c
theorem wpOpIn_of (hF:FW F)(hd:noDefer ops){i:Nat}{K:Act→World→Prop}{a:Act}{w:World}(h:opW F n P ops Q i K a w):wpOpIn F n P ops Q i K a w:=by
 unfold opW at h
 unfold wpOpIn
 split
 ·rename_i ho;simp only[ho] at h;exact h
 ·rename_i o ho
  simp only[ho] at h
  split
  ·rename_i hw
   simp only[hw,if_true] at h
   refine ⟨λf _=>hF.fn f,?_⟩
   rw[Oper.semAt_eq _ _ _ (λc=>hd i o c ho)]
   exact h
  ·rename_i hw
   simp only[hw] at h
   exact ⟨λf _=>hF.fn f,h⟩
theorem uponIn_mono {o:Oper}{a:Act}{K K':Act→World→Prop}(h:∀ a w,K a w→K' a w){r:Result Next}(hh:o.uponIn F n P a K Q r):o.uponIn F n P a K' Q r:=by
 cases r with
 | ok x w'=>
  cases x<;>simp only[Oper.uponIn] at hh ⊢<;>
   first
    | exact h _ _ hh
    | exact ⟨hh.1,CallsIn.mono hh.2 (λe w'' he=>by cases e<;>first | exact h _ _ he | exact he)⟩
    | exact ⟨hh.1,RowsIn.mono hh.2 (λ_ _ he=>h _ _ he)⟩
    | exact ⟨hh.1,RoundIn.mono hh.2 (λe w'' he=>by cases e<;>first | exact h _ _ he | exact he)⟩
 | halt x w'=>cases x<;>simp only[Oper.uponIn] at hh ⊢<;>exact hh
theorem opW_mono {i:Nat}{a:Act}{w:World}{K K':Act→World→Prop}(h:∀ a w,K a w→K' a w)(hh:opW F n P ops Q i K a w):opW F n P ops Q i K' a w:=by
 unfold opW at *
 split
 ·rename_i ho;simp only[ho] at hh;exact h _ _ hh
 ·rename_i o ho
  simp only[ho] at hh
  split
  ·rename_i hw;simp only[hw,if_true] at hh;exact uponIn_mono h hh
  ·rename_i hw;simp only[hw] at hh;exact h _ _ hh
variable {S:Nat→World→Prop} {T:World→Prop}
theorem YieldsIf.opW {i:Nat}{o:Oper}{v:Value}{a:Act}(hi:ops[i]?=some o)(hy:YieldsIf P ops T o v a)
  {K:Act→World→Prop} {w:World} (hS:T w) (h:K (a.put o.dst v) w):opW F n P ops Q i K a w:=by
 unfold Ev.opW
 simp only[hi]
 rcases hy with ⟨hw,hv⟩|⟨hw,rfl⟩
 ·simp only[hw,if_true,hv w hS,Oper.uponIn];exact h
 ·simp only[hw,Bool.false_eq_true,if_false];exact h
theorem uponIn_put {oi oj:Oper}{v:Value}{a:Act}{K:Act→World→Prop}(h2:∀ d,oi.dst=some d→oj.dst≠some d)
  (hk:∀ u,YieldsIf P ops T oi v (a.put oj.dst u))
  (hQ:∀ c a w,Q (.panic c) (a.put oi.dst v) w→Q (.panic c) a w) {r:Result Next}
  (h:oj.uponIn F n P (a.put oi.dst v) K Q r):oj.uponIn F n P a (λa' w'=>YieldsIf P ops T oi v a'∧K (a'.put oi.dst v) w') Q r:=by
 have hput:∀ u,(a.put oj.dst u).put oi.dst v=(a.put oi.dst v).put oj.dst u:=λu=>(Act.put_comm a v u h2).symm
 cases r with
 | ok x w'=>
  cases x<;>simp only[Oper.uponIn] at h ⊢
  case value u=>exact ⟨hk u,by rw[hput];exact h⟩
  case skip=>exact ⟨hk _,by rw[hput];exact h⟩
  case defer d=>
   refine ⟨(hk undef).of_same ?_ ?_,?_⟩
   ·cases oj.dst<;>rfl
   ·cases oj.dst<;>rfl
   ·have e:({ a with defers:=d :: a.defers }:Act).put oj.dst undef={ a.put oj.dst undef with defers:=d :: (a.put oj.dst undef).defers }:=by cases oj.dst<;>rfl
    have e2:({ a.put oj.dst undef with defers:=d :: (a.put oj.dst undef).defers }:Act).put oi.dst v={ (a.put oj.dst undef).put oi.dst v with defers:=d :: ((a.put oj.dst undef).put oi.dst v).defers }:=by cases oi.dst<;>rfl
    rw[e,e2,hput]
    have e3:({ a.put oi.dst v with defers:=d :: (a.put oi.dst v).defers }:Act).put oj.dst undef={ (a.put oi.dst v).put oj.dst undef with defers:=d :: ((a.put oi.dst v).put oj.dst undef).defers }:=by cases oj.dst<;>rfl
    rw[e3] at h
    exact h
  case enter f args=>
   refine ⟨h.1,CallsIn.mono h.2 λe w'' he=>?_⟩
   cases e with
   | returned u=>exact ⟨hk u,by rw[hput];exact he⟩
   | panicked c=>exact hQ _ _ _ he
   | outgrown=>exact he
  case row row args=>exact ⟨h.1,RowsIn.mono h.2 λu w'' he=>⟨hk u,by rw[hput];exact he⟩⟩
  case round l f tmps as bd=>
   refine ⟨h.1,RoundIn.mono h.2 λe w'' he=>?_⟩
   cases e with
   | returned u=>exact ⟨hk u,by rw[hput];exact he⟩
   | panicked c=>exact hQ _ _ _ he
   | outgrown=>exact he
 | halt x w'=>
  cases x<;>simp only[Oper.uponIn] at h ⊢
  exact hQ _ _ _ h
theorem opW_put {j:Nat}{oi oj:Oper}{v:Value}(hj:ops[j]?=some oj)(hap:oi.apart ops oj=true)
  (hsi:∀ cs b,oi.op≠.select cs b) (hsj:∀ cs b,oj.op≠.select cs b)
  (hQ:∀ c a w,Q (.panic c) (a.put oi.dst v) w→Q (.panic c) a w) {K:Act→World→Prop} {a:Act} {w:World}
  (hy:YieldsIf P ops T oi v a) (h:opW F n P ops Q j K (a.put oi.dst v) w) :
  opW F n P ops Q j (λa' w'=>YieldsIf P ops T oi v a'∧K (a'.put oi.dst v) w') a w:=by
 obtain ⟨h1,h2,h3⟩:=Oper.apart_spec hap
 have keep:∀ u,YieldsIf P ops T oi v (a.put oj.dst u):=λu=>
  hy.of_same (execOp_put oi hsi a oj.dst u h3) (wanted_put oi a oj.dst u h3)
 unfold opW at *
 simp only[hj] at *
 rw[wanted_put oj a oi.dst v h1] at h
 split
 ·rename_i hw
  simp only[hw,if_true] at h
  rw[execOp_put oj hsj a oi.dst v h1] at h
  exact uponIn_put h2 keep hQ h
 ·rename_i hw
  simp only[hw] at h
  exact ⟨keep _,by rw[← Act.put_comm a v undef h2];exact h⟩
end
end Go.Ev
namespace Go.Ev
open Go Go.RowKit
def CallW (p:Par)(g:FuncId)(args:List Value)(h:Heap)(R:Value→Heap→Prop):Prop:=
 ∀ (Γ:Gam) (w:World),HRel p Γ h w→(∀ x∈args,sc h.next x=true)→∀ (o:Oper) (F:Fence),FW F→∀ (n:Nat) (a:Act) (K:Act→World→Prop) (Q:Exit→Act→World→Prop),
  (∀ (v:Value) (h':Heap) (Γ':Gam) (w':World),R v h'→Ag Γ Γ' h.next→h.next≤h'.next→Below p.B w w'→HRel p Γ' h' w'→sc h'.next v=true→K (a.put o.dst (con Γ' v)) w')→
  o.uponIn F n p.P a K Q ((callFunc g ⟨args.map (con Γ)⟩).run p.P w)
theorem CallW.mono {p:Par}{g:FuncId}{args:List Value}{h:Heap}{R R':Value→Heap→Prop}(hc:CallW p g args h R)(hR:∀ v h',R v h'→R' v h'):CallW p g args h R':=
 λΓ w hr hs o F hF n a K Q hK=>hc Γ w hr hs o F hF n a K Q λv h' Γ' w' hv=>hK v h' Γ' w' (hR v h' hv)
def marks (Γ:Gam)(l:List Nat):List Deferred:=l.map λd=>{ target:=.collected (Γ.b d),args:=#[] }
theorem marks_ag {Γ Γ':Gam}{n:Nat}(hg:Ag Γ Γ' n){l:List Nat}(h:∀ d∈l,d<n):marks Γ' l=marks Γ l:=
 List.map_congr_left λd hd=>by rw[hg.b d (h d hd)]
structure St (p:Par)(Γ:Gam)(s:S)(ca:Act)(w:World):Prop where
 tm:Tm Γ p.NG s.tm ca
 sc:∀ v∈s.tm.arr.toList,sc s.h.next v=true
 df:ca.defers=marks Γ s.df∧∀ d∈s.df,d<s.h.next
 hr:HRel p Γ s.h w
def XExit.con:XExit→Exit
 | .normal=>.normal
 | .exit id=>.exit id
 | .goto l=>.goto l
 | .ret=>.ret
def start:Code→List Item
 | .loop b=>[.code b,.inLoop b]
 | c=>[.code c]
def codeW (F:Fence)(n:Nat)(P:Program)(c:Code)(Q:Exit→Act→World→Prop)(a:Act)(w:World):Prop:=
 ∀ (b:Frame) (k:List Item) (cs:List Frame),b.roundOf=F.round→F.fn b.fn→F.room (cs.length+1+n)→
  ∃ e a' w',Q e a' w'∧ArrivesIn (Machine.fenced P F) P (lone (b.atR a (start c++k)) cs w) b k cs e a' w'
theorem codeW_wp {F:Fence}{n:Nat}{P:Program}{c:Code}{Q:Exit→Act→World→Prop}{a:Act}{w:World}(h:codeW F n P c Q a w):c.wpIn F n P Q a w:=by
 intro b k cs hro hb hr
 obtain ⟨e,a',w',hq,harr⟩:=h b k cs hro hb hr
 refine ⟨e,a',w',hq,?_⟩
 cases c with
 | loop c=>exact .of_steps (.one (fenced_calm hb hr rfl) stepR_loop) harr
 | _=>exact harr
theorem codeW_of {F:Fence}{n:Nat}{P:Program}{c:Code}{Q:Exit→Act→World→Prop}{a:Act}{w:World}(hc:∀ b,c≠.loop b)(h:c.wpIn F n P Q a w):codeW F n P c Q a w:=by
 intro b k cs hro hb hr
 obtain ⟨e,a',w',hq,harr⟩:=h b k cs hro hb hr
 refine ⟨e,a',w',hq,?_⟩
 cases c with
 | loop c=>exact absurd rfl (hc c)
 | _=>exact harr
theorem codeW_loop {F:Fence}{n:Nat}{P:Program}{c:Code}{Q:Exit→Act→World→Prop}{a:Act}{w:World}
  (h:c.wpIn F n P (Exit.then (λa' w'=>codeW F n P (.loop c) Q a' w') Q) a w):codeW F n P (.loop c) Q a w:=by
 intro b k cs hro hb hr
 obtain ⟨e,a₁,w₁,hq,harr⟩:=h b (.inLoop c :: k) cs hro hb hr
 cases e with
 | normal=>
  obtain ⟨e₂,a₂,w₂,hq₂,harr₂⟩:=hq b k cs hro hb hr
  exact ⟨e₂,a₂,w₂,hq₂,.of_steps (StepsIn.trans harr (.one (fenced_calm hb hr rfl) stepR_inLoop)) harr₂⟩
 | exit id=>exact ⟨_,a₁,w₁,hq,.pass (x:=.inLoop c) rfl (λ_ _=>.inl (by simp)) harr⟩
 | goto l=>exact ⟨_,a₁,w₁,hq,.pass (x:=.inLoop c) rfl (λ_ _=>.inl (by simp)) harr⟩
 | ret=>exact ⟨_,a₁,w₁,hq,.pass (x:=.inLoop c) rfl (λ_ _=>.inl (by simp)) harr⟩
 | panic ch=>exact ⟨_,a₁,w₁,hq,.pass (x:=.inLoop c) rfl (λ_ _=>.inl (by simp)) harr⟩
 | outgrown=>exact ⟨_,a₁,w₁,hq,.pass (x:=.inLoop c) rfl (λ_ _=>.inl (by simp)) harr⟩
theorem stepR_scope {P:Program}{b:Frame}{a:Act}{k:List Item}{cs:List Frame}{w:World}{c:Code} :
  step P (lone (b.atR a (.code (.scope c) :: k)) cs w)=.next (lone (b.atR a (.code c :: .inScope c :: k)) cs w):=
 step_lone_go (by simp[stepG,stepG.exec,Frame.atR])
theorem yl_yielded {Γ:Gam}{NG:Nat}{tm:VT}{ca:Act}(h:Tm Γ NG tm ca)(ops:Array Oper)(j:Nat):yielded ops ca.tmps j=yl ops.toList tm j:=by
 unfold yielded yl
 rw[Array.getElem?_toList]
 cases ho:ops[j]? with
 | none=>simp
 | some o=>
  cases hd:o.dst with
  | none=>simp[hd]
  | some d=>
   simp only[hd,Option.bind_some,h.tm,Array.getElem?_map]
   rw[← VT.arr_getD,Array.getD_eq_getD_getElem?]
   cases hv:tm.arr[d]? with
   | none=>simp[undef]
   | some v=>
    cases v with
    | agg cs=>simp[con_agg]
    | tuple cs=>simp[con_tuple]
    | func f a b=>simp[con_func]
    | pointer a=>cases a<;>simp[con]
    | slice a _ _=>cases a<;>simp[con]
    | map a=>cases a<;>simp[con]
    | float k i=>cases k<;>simp[con]
    | _=>simp[con]
theorem wanted_eq {Γ:Gam}{NG:Nat}{tm:VT}{ca:Act}(h:Tm Γ NG tm ca)(ops:Array Oper)(o:Oper) :
  Region.wanted o (yielded ops ca.tmps)=(wanted ops.toList tm o).getD false:=by
 unfold Region.wanted wanted
 cases hg:o.guard with
 | none=>simp
 | some g=>
  obtain ⟨j,b⟩:=g
  simp only[yl_yielded h]
  cases hy:yl ops.toList tm j with
  | none=>simp
  | some c=>cases b<;>cases c<;>simp
theorem Tm.put {Γ Γ':Gam}{NG n:Nat}{tm:VT}{ca:Act}(h:Tm Γ NG tm ca)(hsc:∀ v∈tm.arr.toList,sc n v=true)(hg:Ag Γ Γ' n)(hn:NG≤n)(d:Option Tmp)(v:Value) :
  Tm Γ' NG (Ev.put tm d v) (ca.put d (con Γ' v)):=by
 have hmap:tm.arr.map (con Γ')=tm.arr.map (con Γ):=Array.map_congr_left λx hx=>con_ag hg x (hsc x (by simpa using hx))
 refine ⟨?_,?_,λg hgg=>(hg.b g (by omega)).trans (h.gl g hgg)⟩
 ·cases d with
  | none=>exact h.sm
  | some d=>simp only[Ev.put,VT.set_sz];exact h.sm
 ·cases d with
  | none=>simp only[Act.put,Ev.put,h.tm,hmap]
  | some d=>
   simp only[Act.put,Ev.put,h.tm,VT.arr_set _ h.sm,← hmap]
   simp
theorem sc_put {n m:Nat}{tm:VT}(hU:tm.sz<U)(hsc:∀ v∈tm.arr.toList,sc n v=true)(hn:n≤m)(d:Option Tmp){v:Value}(hv:sc m v=true) :
  ∀ x∈(put tm d v).arr.toList,sc m x=true:=by
 intro x hx
 cases d with
 | none=>exact sc_mono hn x (hsc x hx)
 | some d=>
  simp only[put,VT.arr_set _ hU,Array.toList_setIfInBounds] at hx
  rcases List.mem_or_eq_of_mem_set hx with h|h
  ·exact sc_mono hn x (hsc x h)
  ·rw[h];exact hv
end Go.Ev
namespace Go.Ev
open Go Go.RowKit
theorem evResults_run {p:Par}{Γ:Gam}{h:Heap}{w:World}(hr:HRel p Γ h w){fn:Func}{tm:VT}{ca:Act}{v:Value}(ht:Tm Γ p.NG tm ca)
  (he:evResults p.P fn tm h=some v):(results fn ca.tmps).run p.P w=.ok (con Γ v) w:=by
 have hget:∀ t,ca.tmps.getD t undef=con Γ (tm.get t):=λt=>ht.eval (x:=.tmp t) rfl
 have hgo : ∀ (rs : List ResultVar) (l : List Value), evResults.go p.P tm h rs = some l →
   (rs.mapM λr=>(match r with
    | .tmp t=>pure (ca.tmps.getD t undef)
    | .cell a t=>do loadVar t (← asAddr (ca.tmps.getD a undef)):Sem Value)).run p.P w=.ok (l.map (con Γ)) w:=by
  intro rs
  induction rs with
  | nil=>intro l hl;simp[evResults.go] at hl;subst hl;simp
  | cons r rs ih=>
   intro l hl
   cases r with
   | tmp t=>
    simp only[evResults.go] at hl
    split at hl<;>cases hl
    rename_i l' hl'
    simp only[List.mapM_cons,Sem.run_bind,Sem.run_pure,Result.andThen_ok,ih l' hl',List.map_cons]
    rw[hget]
   | cell a t=>
    simp only[evResults.go] at hl
    split at hl<;>cases hl
    rename_i v' l' hv' hl'
    have hld:=evLoad_run hr hv'
    have hev:evLoad p.P t (tm.get a) h=some v':=hv'
    have hx:∃ b off,tm.get a=.pointer (some ⟨b,off,none⟩):=by
     unfold evLoad at hev
     split at hev
     ·rename_i b off heq;exact ⟨b,off,heq⟩
     ·cases hev
    obtain ⟨b,off,hx⟩:=hx
    have hld2:(loadVar t ⟨Γ.b b,off,none⟩).run p.P w=.ok (con Γ v') w:=by
     rw[hx] at hld
     simpa[con,conA,Instr.loadAt,Instr.sureAddr] using hld
    have hga:ca.tmps.getD a undef=.pointer (some ⟨Γ.b b,off,none⟩):=by rw[hget,hx];rfl
    have haa:(asAddr (ca.tmps.getD a undef)).run p.P w=.ok ⟨Γ.b b,off,none⟩ w:=by rw[hga];rfl
    simp only[List.mapM_cons,Sem.run_bind,haa,Sem.run_pure,Result.andThen_ok,hld2,ih l' hl',List.map_cons]
 unfold evResults at he
 have hm : ∀ l, evResults.go p.P tm h fn.results.toList = some l → (fn.results.mapM fun r => (match r with
    | .tmp t=>pure (ca.tmps.getD t undef)
    | .cell a t=>do loadVar t (← asAddr (ca.tmps.getD a undef)):Sem Value)).run p.P w=.ok ⟨l.map (con Γ)⟩ w:=λl hl=>by
  have h2:=hgo _ _ hl
  obtain ⟨rs,hrs⟩:∃ rs:List ResultVar,fn.results=⟨rs⟩:=⟨fn.results.toList,rfl⟩
  rw[hrs] at h2 ⊢
  rw[List.mapM_toArray]
  simp only[Sem.run_map]
  rw[h2]
  rfl
 split at he
 ·rename_i v' hl
  cases he
  have:=hm _ hl
  unfold results
  rw[Sem.run_bind]
  refine (congrArg (λr=>Result.andThen r _) this).trans ?_
  simp
 ·rename_i l hne hl
  cases he
  have:=hm _ hl
  unfold results
  rw[Sem.run_bind]
  refine (congrArg (λr=>Result.andThen r _) this).trans ?_
  simp only[Result.andThen_ok]
  have hsz:¬ ((⟨l.map (con Γ)⟩:Array Value).size=1):=by
   intro h1
   simp at h1
   obtain ⟨x,hx⟩:=List.length_eq_one_iff.1 h1
   exact hne x (by rw[hx])
  simp only[dif_neg hsz,Sem.run_pure,con_tuple]
  simp
 ·cases he
theorem evMarks_run {p:Par}{fn:Func}{F:Fence}{n:Nat}{R:Ending→World→Prop}{tmps:Array Value}{Γ:Gam}:∀ (ds:List Nat) (h h':Heap) (w:World),HRel p Γ h w→evMarks ds h=some h'→
  (∀ w',HRel p Γ h' w'→h'.next=h.next→Below p.B w w'→LeavesInM F n p.P fn tmps R [] .returning w')→LeavesInM F n p.P fn tmps R (marks Γ ds) .returning w
 | [],h,h',w,hr,he,hk=>by
  simp only[evMarks,Option.some.injEq] at he
  subst he
  exact hk w hr rfl (Below.refl _ _)
 | d :: ds,h,h',w,hr,he,hk=>by
  simp only[evMarks] at he
  split at he
  ·rename_i m hd
   split at he
   ·rename_i hlo
    simp only[Nat.ble_eq] at hlo
    have hOR:=(hr.obj d _ hd).2
    simp only[OR] at hOR
    have hput:=hr.put (x':=⟨.deferred none,false⟩) (o:=.deferred none) hd rfl hlo (by
     simp only[OR]
     refine ⟨by simp,?_⟩
     rw[wset_heap _ _ _ (Array.getElem?_eq_some_iff.1 hOR.2).1];simp)
    refine ⟨by simp,.inl ⟨Γ.b d,wset w (Γ.b d) (.deferred none),rfl,run_takeDeferred hOR.2,?_⟩⟩
    exact evMarks_run ds _ h' _ hput.1 he λw' hr' hn hb=>hk w' hr' hn (hput.2.below.trans hb)
   ·cases he
  ·cases he
end Go.Ev
namespace Go.Ev
open Go Go.RowKit
def conLoop (Γ:Gam)(f:FuncId)(r:Loop):Loop:=
 { state:=r.state,pending:=r.pending,fn:=f,tmps:=r.tmps.map (con Γ),params:=r.params,assign:=r.assign,body:=r.body,defers:=Γ.b r.defers }
theorem getLoopA_spec {p:Par}{Γ:Gam}{h:Heap}{w:World}(hr:HRel p Γ h w){l:Nat}{r:Loop}(hg:getLoopA h l=some r) :
  (∃ m,h.get l=some ⟨.loop r,m⟩)∧h.lo≤l∧l<h.next∧(∀ v∈r.tmps.toList,sc h.next v=true)∧r.defers<h.next∧okCode p.NG r.assign=true∧okCode p.NG r.body=true∧
   ∃ f,w.heap[Γ.b l]?=some (.loop (conLoop Γ f r)):=by
 unfold getLoopA at hg
 split at hg
 ·rename_i r0 m hget
  split at hg<;>cases hg
  rename_i hlo
  simp only[Nat.ble_eq] at hlo
  have ho:=hr.obj l _ hget
  have ho2:=ho.2
  simp only[OR] at ho2
  obtain ⟨h1,h2,h3,h4,f,h5⟩:=ho2
  exact ⟨⟨m,hget⟩,hlo,ho.1,h1,h2,h3,h4,f,h5⟩
 ·cases hg
theorem putLoopA_run {p:Par}{Γ:Gam}{h:Heap}{w:World}(hr:HRel p Γ h w){l:Nat}{r:Loop}{f:FuncId}(hg:getLoopA h l=some r)(hw:w.heap[Γ.b l]?=some (.loop (conLoop Γ f r)))(st:LoopState)(pe:Option Code) :
  HRel p Γ (putLoopA h l { r with state:=st,pending:=pe }) (w.putObj (Γ.b l) (.loop { conLoop Γ f r with state:=st,pending:=pe }))∧
  Fr p Γ h w (w.putObj (Γ.b l) (.loop { conLoop Γ f r with state:=st,pending:=pe }))∧(putLoopA h l { r with state:=st,pending:=pe }).next=h.next:=by
 obtain ⟨⟨m,hget⟩,hlo,hlt,h1,h2,h3,h4,_⟩:=getLoopA_spec hr hg
 have:=hr.put (x':=⟨.loop { r with state:=st,pending:=pe },false⟩) (o:=.loop { conLoop Γ f r with state:=st,pending:=pe }) hget rfl hlo (by
  simp only[OR]
  refine ⟨h1,h2,h3,h4,f,?_⟩
  rw[wset_heap _ _ _ (Array.getElem?_eq_some_iff.1 hw).1]
  simp[conLoop])
 exact ⟨this.1,this.2,rfl⟩
theorem fold_con (Γ:Gam):∀ (ps:List (Nat×Value)) (tm:Array Value),
  (ps.map λx=>(x.1,con Γ x.2)).foldl (λtmps x=>tmps.setIfInBounds x.1 x.2) (tm.map (con Γ))=(ps.foldl (λtmps x=>tmps.setIfInBounds x.1 x.2) tm).map (con Γ)
 | [],tm=>rfl
 | (t,v) :: ps,tm=>by
  simp only[List.map_cons,List.foldl_cons]
  rw[← fold_con Γ ps (tm.setIfInBounds t v)]
  congr 1
  simp
theorem fold_sc {n:Nat}:∀ (ps:List (Nat×Value)) (tm:Array Value),(∀ x∈ps,sc n x.2=true)→(∀ x∈tm.toList,sc n x=true)→
  ∀ x∈(ps.foldl (λtmps x=>tmps.setIfInBounds x.1 x.2) tm).toList,sc n x=true
 | [],tm,_,h=>h
 | (t,v) :: ps,tm,hp,h=>by
  simp only[List.foldl_cons]
  refine fold_sc ps _ (λx hx=>hp x (List.mem_cons_of_mem _ hx)) λx hx=>?_
  simp only[Array.toList_setIfInBounds] at hx
  rcases List.mem_or_eq_of_mem_set hx with hx|hx
  ·exact h x hx
  ·rw[hx];exact hp (t,v) (List.mem_cons_self ..)
theorem zip_fold_con (Γ:Gam)(ps:Array Tmp)(args tm:Array Value) :
  (ps.zip (args.map (con Γ))).foldl (λtmps (t,a)=>tmps.setIfInBounds t a) (tm.map (con Γ))=((ps.zip args).foldl (λtmps (t,a)=>tmps.setIfInBounds t a) tm).map (con Γ):=by
 have h:(ps.zip (args.map (con Γ))).toList=(ps.zip args).toList.map λx=>(x.1,con Γ x.2):=by
  simp[Array.toList_zip,List.zip_map_right]
 rw[← Array.foldl_toList,← Array.foldl_toList,h]
 exact fold_con Γ _ tm
theorem zip_fold_sc {n:Nat}(ps:Array Tmp){args tm:Array Value}(ha:∀ x∈args.toList,sc n x=true)(ht:∀ x∈tm.toList,sc n x=true) :
  ∀ x∈((ps.zip args).foldl (λtmps (t,a)=>tmps.setIfInBounds t a) tm).toList,sc n x=true:=by
 rw[← Array.foldl_toList]
 refine fold_sc _ tm (λx hx=>?_) ht
 rw[Array.toList_zip] at hx
 exact ha _ (List.of_mem_zip hx).2
theorem zip_list (ps:Array Tmp)(args:List Value):(ps.zip (⟨args⟩:Array Value)).toList=ps.toList.zip args:=by simp[Array.toList_zip]
theorem zip_fold_con' (Γ:Gam)(ps:Array Tmp)(args:List Value){T:VT}{tm:Array Value}(hU:T.sz<U)(hT:T.arr=tm) :
  (ps.zip (⟨args.map (con Γ)⟩:Array Value)).foldl (λtmps (t,a)=>tmps.setIfInBounds t a) (tm.map (con Γ))=(setAll T (ps.toList.zip args)).arr.map (con Γ):=by
 have h:=zip_fold_con Γ ps ⟨args⟩ tm
 rw[show ((⟨args⟩:Array Value).map (con Γ))=⟨args.map (con Γ)⟩ by simp] at h
 rw[h,setAll_arr _ T hU,hT,← Array.foldl_toList,zip_list]
theorem zip_fold_sc' {n:Nat}(ps:Array Tmp){args:List Value}{T:VT}{tm:Array Value}(hU:T.sz<U)(hT:T.arr=tm)(ha:∀ x∈args,sc n x=true)(ht:∀ x∈tm.toList,sc n x=true) :
  ∀ x∈(setAll T (ps.toList.zip args)).arr.toList,sc n x=true:=by
 have h:=zip_fold_sc (n:=n) ps (args:=⟨args⟩) (tm:=tm) ha ht
 rw[← Array.foldl_toList,zip_list] at h
 rw[setAll_arr _ T hU,hT]
 exact h
theorem ev_sc {p:Par}{Γ:Gam}{h:Heap}{w:World}(hr:HRel p Γ h w){tm:VT}(hsc:∀ x∈tm.arr.toList,sc h.next x=true){x:Operand}(hx:okOpd p.NG x=true):sc h.next (ev tm x)=true:=by
 cases x with
 | tmp t=>
  have e:ev tm (.tmp t)=tm.get t:=rfl
  rw[e,← VT.arr_getD,Array.getD_eq_getD_getElem?]
  cases hq:tm.arr[t]? with
  | none=>rfl
  | some y=>exact hsc y (by rw[← Array.getElem?_toList] at hq;exact List.mem_of_getElem? hq)
 | const y=>exact flat_sc h.next y hx
 | global g=>
  simp[okOpd] at hx
  have e:ev tm (.global g)=.pointer (some ⟨g,0,none⟩):=rfl
  rw[e]
  have:=hr.gn;have:=hr.ng
  simp[sc,scA];omega
 | func f=>rfl
section
variable {P:Program} {X:Ext} {rec:Rec} {o:Oper} {tm:VT} {h:Heap}
end
end Go.Ev
namespace Go.Ev
open Go Go.RowKit
theorem okOper_plain {NG:Nat}{o:Oper}(h:okOper NG o=true):(∀ c,o.op≠.defer c)∧∀ cs b,o.op≠.select cs b:=by
 simp only[okOper,Bool.and_eq_true] at h
 constructor
 ·intro c hc;rw[hc] at h;simp at h
 ·intro cs b hc;rw[hc] at h;simp at h
structure Next (p:Par)(Γ:Gam)(h:Heap)(w:World)(tm':VT)(h':Heap)(df:List Deferred)(Q:Act→World→Prop):Prop where
 go:∀ Γ' ca' w',Ag Γ Γ' h.next→h.next≤h'.next→Below p.B w w'→HRel p Γ' h' w'→Tm Γ' p.NG tm' ca'→(∀ x∈tm'.arr.toList,sc h'.next x=true)→ca'.defers=df→Q ca' w'
theorem put_defers (a:Act)(d:Option Tmp)(v:Value):(a.put d v).defers=a.defers:=by cases d<;>rfl
theorem firstFree_spec {P:Program}{ops:Array Oper}{listed:Array Bool}:∀ {is:List Nat} {i:Nat} {o:Oper},
  firstFree P ops listed is=some (i,o)→i∈is∧ops[i]?=some o∧Region.free .any ops listed i=true∧isEff P o=false:=by
 intro is
 induction is with
 | nil=>intro i o he;simp[firstFree] at he
 | cons j is ih=>
  intro i o he
  simp only[firstFree] at he
  split at he
  ·rename_i o' ho
   split at he
   ·obtain ⟨h1,h2⟩:=ih he
    exact ⟨List.mem_cons_of_mem _ h1,h2⟩
   ·rename_i hne
    split at he
    ·rename_i hf
     cases he
     exact ⟨List.mem_cons_self ..,ho,hf,hne⟩
    ·obtain ⟨h1,h2⟩:=ih he
     exact ⟨List.mem_cons_of_mem _ h1,h2⟩
  ·obtain ⟨h1,h2⟩:=ih he
   exact ⟨List.mem_cons_of_mem _ h1,h2⟩
theorem St.df_ag {p:Par}{Γ Γ':Gam}{s:S}{ca ca':Act}{w:World}{m:Nat}(h:St p Γ s ca w)(hg:Ag Γ Γ' s.h.next)(hle:s.h.next≤m)(hd:ca'.defers=ca.defers) :
  ca'.defers=marks Γ' s.df∧∀ d∈s.df,d<m:=
 ⟨by rw[hd,h.df.1,marks_ag hg h.df.2],λd hd=>Nat.lt_of_lt_of_le (h.df.2 d hd) hle⟩
theorem Tm.ag {Γ Γ':Gam}{NG n:Nat}{tm:VT}{ca:Act}(h:Tm Γ NG tm ca)(hsc:∀ v∈tm.arr.toList,sc n v=true)(hg:Ag Γ Γ' n)(hn:NG≤n):Tm Γ' NG tm ca:=by
 exact h.put hsc hg hn none undef
theorem Heap.new_next (h:Heap)(x:AObj):(h.new x).2.next=h.next+1:=by rw[Heap.new_eq]
theorem evEnter_run {p:Par}{Γ:Gam}{s:S}{ca:Act}{w:World}(hst:St p Γ s ca w){ro:Option Nat}{ps:Array Tmp}{a b:Code}(ha:okCode p.NG a=true)(hb:okCode p.NG b=true){l:Nat}{mk:List Nat}{h1:Heap}
  (he:evEnter ro s.tm ps a b s.h=some (l,mk,h1)) (fn:FuncId) :
  ∃ Γ1 w1,(Instr.enterLoop fn ca.tmps ps a b (ro.map Γ.b)).run p.P w=.ok (Γ1.b l,marks Γ1 mk) w1∧Ag Γ Γ1 s.h.next∧s.h.next≤h1.next∧HRel p Γ1 h1 w1∧Below p.B w w1∧l<h1.next∧∀ d∈mk,d<h1.next:=by
 have hr:=hst.hr
 unfold evEnter at he
 split at he
 ·rename_i l0
  split at he<;>cases he
  rename_i r hg
  obtain ⟨_,_,hlt,_,h12,_,_,f,hw⟩:=getLoopA_spec hr hg
  have hag:=Γ.ext_ag s.h.next w.heap.size 0
  have hnew:=HRel.new (x:=⟨.loop { state:=.ready,pending:=none,fn:=0,tmps:=s.tm.arr,params:=ps,assign:=a,body:=b,defers:=r.defers },false⟩)
   (o:=.loop { state:=.ready,pending:=none,fn:=fn,tmps:=ca.tmps,params:=ps,assign:=a,body:=b,defers:=Γ.b r.defers }) (k:=0) hr (by
    simp only[OR]
    refine ⟨λv hv=>sc_mono (Nat.le_succ _) v (hst.sc v hv),Nat.lt_succ_of_lt h12,ha,hb,fn,?_⟩
    rw[Gam.ext_b,World.alloc_heap_new,hag.b _ h12,(hst.tm.ag hst.sc hag (by have:=hr.ng;have:=hr.gn;omega)).tm])
  refine ⟨_,_,?_,hag,by rw[Heap.new_next];exact Nat.le_succ _,hnew.1,hnew.2.below,by rw[Heap.new_next];exact Nat.lt_succ_self _,λd hd=>by cases hd⟩
  simp only[Option.map_some,Instr.enterLoop,Sem.run_bind,run_getLoop hw,Result.andThen_ok,Sem.run_pure,run_newObj_alloc,Gam.ext_b,marks,List.map_nil]
  rfl
 ·cases he
  have hag1:=Γ.ext_ag s.h.next w.heap.size 0
  have hnew1 := HRel.new (x := ⟨.deferred (some []), false⟩) (o := .deferred (some [])) (k := 0) hr (by
    simp only[OR]
    exact ⟨by simp,by rw[Gam.ext_b,World.alloc_heap_new]⟩)
  have hag2:=(Γ.ext s.h.next w.heap.size 0).ext_ag (s.h.next+1) (w.alloc (.deferred (some []))).heap.size 0
  have hag:Ag Γ ((Γ.ext s.h.next w.heap.size 0).ext (s.h.next+1) (w.alloc (.deferred (some []))).heap.size 0) s.h.next:=hag1.trans hag2 (Nat.le_succ _)
  have e1:(s.h.new ⟨.deferred (some []),false⟩).2.next=s.h.next+1:=Heap.new_next _ _
  have hnew2:=HRel.new (x:=⟨.loop { state:=.ready,pending:=none,fn:=0,tmps:=s.tm.arr,params:=ps,assign:=a,body:=b,defers:=s.h.next },false⟩)
   (o:=.loop { state:=.ready,pending:=none,fn:=fn,tmps:=ca.tmps,params:=ps,assign:=a,body:=b,defers:=w.heap.size }) (k:=0) hnew1.1 (by
    simp only[OR]
    refine ⟨λv hv=>sc_mono (by rw[e1];omega) v (hst.sc v hv),by rw[e1];omega,ha,hb,fn,?_⟩
    rw[e1,Gam.ext_b,World.alloc_heap_new,(hst.tm.ag hst.sc hag (by have:=hr.ng;have:=hr.gn;omega)).tm,hag2.b _ (Nat.lt_succ_self _),Gam.ext_b])
  rw[e1] at hnew2
  refine ⟨_,_,?_,hag,by rw[Heap.new_next,e1];omega,hnew2.1,hnew1.2.below.trans hnew2.2.below,by rw[Heap.new_next,e1];omega,λd hd=>?_⟩
  ·rw[Option.map_none,run_enterLoop_outer]
   have e2:=hag2.b s.h.next (Nat.lt_succ_self _)
   rw[Gam.ext_b] at e2
   rw[Gam.ext_b,marks,List.map_cons,List.map_nil,e2,World.size_alloc]
  ·have:d=s.h.next:=by simpa using hd
   subst this
   rw[Heap.new_next,e1]
   omega
def inScopeW (F:Fence)(n:Nat)(P:Program)(c:Code)(Q:Exit→Act→World→Prop)(rest:Code)(a:Act)(w:World):Prop:=
 ∀ (b:Frame) (k:List Item) (cs:List Frame),b.roundOf=F.round→F.fn b.fn→F.room (cs.length+1+n)→
  ∃ e a' w',Q e a' w'∧ArrivesIn (Machine.fenced P F) P (lone (b.atR a (.code rest :: .inScope c :: k)) cs w) b k cs e a' w'
theorem wpIn_scopeW {F:Fence}{n:Nat}{P:Program}{c:Code}{Q:Exit→Act→World→Prop}{a:Act}{w:World}(h:inScopeW F n P c Q c a w):(Code.scope c).wpIn F n P Q a w:=by
 intro b k cs hro hb hr
 obtain ⟨e,a₁,w₁,hq,harr⟩:=h b k cs hro hb hr
 exact ⟨e,a₁,w₁,hq,.of_steps (.one (fenced_calm hb hr rfl) stepR_scope) harr⟩
end Go.Ev
namespace Go.Ev
open Go Go.RowKit
def h0:Heap:={ t:=.nil,next:=0,lo:=0 }
end Go.Ev
namespace Go.Ev
open Go Go.RowKit
theorem sc_add {n k:Nat}{a:Addr}(h:sc n (.pointer (some a))=true):sc n (.pointer (some (a.add k)))=true:=by
 simp only[sc,scA,Bool.and_eq_true] at h ⊢
 unfold Addr.add
 split
 ·exact h
 ·exact h
theorem sc_sl_add {n k:Nat}{a:Option Addr}{l c l' c':Nat}(h:sc n (.slice a l c)=true):sc n (.slice (a.map (·.add k)) l' c')=true:=by
 cases a with
 | none=>rfl
 | some a=>exact sc_add (k:=k) (a:=a) h
theorem sc_sl' {n:Nat}{a:Option Addr}{l c l' c':Nat}(h:sc n (.slice a l c)=true):sc n (.slice a l' c')=true:=by
 cases a<;>exact h
theorem sc_mem {n:Nat}{l:List Value}{i:Nat}{v:Value}(h:scL n l=true)(hv:l[i]?=some v):sc n v=true:=scL_all h v (List.mem_of_getElem? hv)
theorem binPure_flat {P:Program}{op:BinOp}{t:TypeId}{x y:Operand}{a b v:Value}(h:binPure P op t x y a b=some v):flat v=true:=by
 unfold binPure at h
 split at h
 ·cases h;rfl
 ·cases h;rfl
 ·split at h<;>cases h;rfl
 ·split at h<;>cases h;rfl
 ·split at h<;>cases h;rfl
 ·split at h<;>cases h;rfl
 ·split at h<;>cases h;rfl
 ·split at h<;>cases h;rfl
 ·exact (pvF_run h).2.1
theorem partV_sc {P:Program}{n:Nat}{t:TypeId}{cs:List Value}{off:Nat}{v:Value}(hs:scL n cs=true)(h:partV P t cs off=some v):sc n v=true:=by
 unfold partV at h
 split at h
 ·split at h
  ·rename_i k _
   cases hd:dropE off cs with
   | none=>rw[hd] at h;cases h
   | some l=>
    rw[hd] at h
    dsimp only at h
    have ht:takeN cs off k=takeE k l:=by simp only[takeN,hd]
    split at h<;>cases h
    rename_i l' hl'
    rw[← ht] at hl'
    refine scL_of_all λu hu=>?_
    obtain ⟨j,hj⟩:=List.getElem?_of_mem hu
    exact sc_mem hs ((takeN_get hl').2.2 j u hj)
  ·cases h
 ·exact sc_mem hs h
 ·cases h
theorem fillL_sc {n:Nat}{place:Nat→Option (Nat×Nat)}:∀ (parts:List (Nat×Value)) (cs cs':List Value),scL n cs=true→(∀ x∈parts,sc n x.2=true)→fillL place cs parts=some cs'→scL n cs'=true
 | [],cs,cs',h,_,he=>by cases he;exact h
 | (i,v) :: rest,cs,cs',h,hp,he=>by
  simp only[fillL] at he
  split at he
  ·cases he
  ·split at he
   ·split at he
    ·rename_i cs1 hset
     refine fillL_sc rest cs1 cs' ?_ (λx hx=>hp x (List.mem_cons_of_mem _ hx)) he
     obtain ⟨_,rfl⟩:=setN_eq hset
     refine scL_of_all λu hu=>?_
     simp only[setFrom,List.mem_append] at hu
     rcases hu with (hu|hu)|hu
     ·exact scL_all h u (List.mem_of_mem_take hu)
     ·have hv:=hp (i,v) (List.mem_cons_self ..)
      cases v with
      | agg cs=>exact scL_all hv u hu
      | _=>simp only[Value.cells,List.mem_singleton] at hu;subst hu;exact hv
     ·exact scL_all h u (List.mem_of_mem_drop hu)
    ·cases he
   ·cases he
theorem buildV_sc {P:Program}{n:Nat}{t:TypeId}{parts:List (Nat×Value)}{v:Value}(hp:∀ x∈parts,sc n x.2=true)(h:buildV P t parts=some v):sc n v=true:=by
 unfold buildV at h
 split at h
 ·cases h
 ·split at h
  ·cases h
  ·rename_i z _
   have hz:flat z=true→scL n z.cells.toList=true:=λhf=>by
    have:=flat_sc n z hf
    cases z with
    | agg cs=>exact this
    | _=>exact scL_of_all λu hu=>by simp only[Value.cells,List.mem_singleton] at hu;subst hu;exact this
   split at h
   ·rename_i hf _
    split at h
    ·split at h<;>cases h
     rename_i cs hc
     exact fillL_sc _ _ _ (hz hf) hp hc
    ·cases h
   ·rename_i hf _
    split at h
    ·split at h<;>cases h
     rename_i cs hc
     exact fillL_sc _ _ _ (hz hf) hp hc
    ·cases h
   ·cases h
theorem evPure_sc {p:Par}{Γ:Gam}{h:Heap}{w:World}(hr:HRel p Γ h w){tm:VT}(hsc:∀ x∈tm.arr.toList,sc h.next x=true){o:Oper}
  (hop:o.op.operands.all (okOpd p.NG)=true) {v:Value} (he:evPure p.P o tm=some v):sc h.next v=true:=by
 have hv:∀ x∈o.op.operands,sc h.next (ev tm x)=true:=λx hx=>ev_sc hr hsc (by
  rw[Array.all_eq_true_iff_forall_mem] at hop;exact hop x hx)
 unfold evPure at he
 split at he
 ·rename_i x ho
  cases he
  exact hv x (by simp[ho,Op.operands])
 ·rename_i x ho
  cases he
  exact hv x (by simp[ho,Op.operands])
 ·rename_i c a b ho
  split at he<;>cases he
  ·exact hv a (by simp[ho,Op.operands])
  ·exact hv b (by simp[ho,Op.operands])
 ·rename_i t i ho
  have ht:=hv t (by simp[ho,Op.operands])
  split at he
  ·rename_i vs hx
   obtain ⟨vs⟩:=vs
   rw[hx] at ht
   exact sc_mem (n:=h.next) (l:=vs) ht (by simpa using he)
  ·cases he
 ·exact flat_sc _ _ (binPure_flat he)
 ·exact flat_sc _ _ (pvF_run he).2.1
 ·exact flat_sc _ _ (pvF_run he).2.1
 ·rename_i s x f ho
  have hx:=hv x (by simp[ho,Op.operands])
  split at he
  ·rename_i fs a _ hxe
   rw[hxe] at hx
   split at he
   ·split at he<;>cases he
    exact sc_add hx
   ·cases he
  ·cases he
 ·rename_i t x f ho
  have hx:=hv x (by simp[ho,Op.operands])
  split at he
  ·rename_i fs cs _ hxe
   obtain ⟨cs⟩:=cs
   rw[hxe] at hx
   split at he
   ·exact partV_sc hx he
   ·cases he
  ·cases he
 ·rename_i t x i ho
  have hx:=hv x (by simp[ho,Op.operands])
  split at he
  ·rename_i e a len cap k n _ hxe _
   rw[hxe] at hx
   split at he<;>cases he
   exact sc_add (a:=a) hx
  ·rename_i len e a k n _ hxe _
   rw[hxe] at hx
   split at he<;>cases he
   exact sc_add (a:=a) hx
  ·cases he
 ·rename_i t x i ho
  have hx:=hv x (by simp[ho,Op.operands])
  split at he
  ·exact flat_sc _ _ (pvF_run he).2.1
  ·rename_i cs k n hxe _
   obtain ⟨cs⟩:=cs
   rw[hxe] at hx
   split at he
   ·split at he
    ·exact partV_sc hx he
    ·cases he
   ·cases he
  ·cases he
 ·rename_i t x lo hi mx ho
  have hx:=hv x (by simp[ho,Op.operands])
  split at he
  ·exact flat_sc _ _ (pvF_run he).2.1
  ·rename_i a n c hxe
   rw[hxe] at hx
   unfold slicePure at he
   split at he
   ·split at he
    ·split at he
     ·dsimp only at he
      split at he<;>cases he
      ·exact sc_sl' hx
      ·exact sc_sl_add hx
     ·cases he
    ·cases he
   ·cases he
  ·rename_i a hxe
   rw[hxe] at hx
   unfold sliceArr at he
   split at he
   ·split at he
    ·split at he
     ·dsimp only at he
      split at he<;>cases he
      ·exact hx
      ·exact sc_add (a:=a) hx
     ·cases he
    ·cases he
   ·cases he
  ·cases he
 ·rename_i t parts ho
  refine buildV_sc (λx hx=>?_) he
  obtain ⟨y,hy,rfl⟩:=List.mem_map.1 hx
  refine hv y.2 ?_
  simp only[ho,Op.operands,List.mem_toArray,List.mem_map]
  exact ⟨y,hy,rfl⟩
 ·rename_i g f c ho
  cases he
  have h1:∀ x∈f,sc h.next (ev tm x)=true:=λx hx=>hv x (by simp[ho,Op.operands,hx])
  have h2:∀ x∈c,sc h.next (ev tm x)=true:=λx hx=>hv x (by simp[ho,Op.operands,hx])
  show (scL h.next (f.map (ev tm)).toList&&scL h.next (c.map (ev tm)).toList)=true
  rw[Bool.and_eq_true]
  constructor
  ·refine scL_of_all λu hu=>?_
   simp only[Array.toList_map,List.mem_map] at hu
   obtain ⟨y,hy,rfl⟩:=hu
   exact h1 y (by simpa using hy)
  ·refine scL_of_all λu hu=>?_
   simp only[Array.toList_map,List.mem_map] at hu
   obtain ⟨y,hy,rfl⟩:=hu
   exact h2 y (by simpa using hy)
 ·rename_i t x ho
  have hx:=hv x (by simp[ho,Op.operands])
  split at he<;>cases he
  exact hx
 ·rename_i x ho
  have hx:=hv x (by simp[ho,Op.operands])
  split at he<;>cases he
  ·rename_i hxe;rw[hxe] at hx;exact hx
  ·rename_i hxe;rw[hxe] at hx;exact hx
 ·split at he
  ·split at he<;>cases he<;>rfl
  ·cases he
 ·exact flat_sc _ _ (pvF_run he).2.1
 ·exact flat_sc _ _ (pvF_run he).2.1
 ·cases he
theorem evLoad_sc {p:Par}{Γ:Gam}{h:Heap}{w:World}(hr:HRel p Γ h w){t:TypeId}{a v:Value}(he:evLoad p.P t a h=some v):sc h.next v=true:=by
 unfold evLoad at he
 split at he
 ·split at he
  ·rename_i cs e m hc
   split at he
   ·split at he
    ·split at he
     ·rename_i l hl
      obtain ⟨rfl,hok⟩:=seen_eq hr he
      refine scL_of_all λu hu=>?_
      obtain ⟨j,hj⟩:=List.getElem?_of_mem hu
      refine (hr.cell hc ((takeN_get hl).2.2 j u hj) ?_).2.1
      rcases hok with h0|h0
      ·exact .inl h0
      ·exact .inr (scL_all h0 u hu)
     ·cases he
    ·cases he
   ·split at he
    ·rename_i u hu
     obtain ⟨rfl,hok⟩:=seen_eq hr he
     exact (hr.cell hc hu hok).2.1
    ·cases he
   ·cases he
  ·cases he
 ·cases he
theorem evRead_sc {p:Par}{Γ:Gam}{h:Heap}{w:World}(hr:HRel p Γ h w){tm:VT}(hsc:∀ x∈tm.arr.toList,sc h.next x=true){o:Oper}
  (hop:o.op.operands.all (okOpd p.NG)=true) {v:Value} (he:evRead p.P o tm h=some v):sc h.next v=true:=by
 have hv:∀ x∈o.op.operands,sc h.next (ev tm x)=true:=λx hx=>ev_sc hr hsc (by
  rw[Array.all_eq_true_iff_forall_mem] at hop;exact hop x hx)
 unfold evRead at he
 split at he
 ·exact evLoad_sc hr he
 ·rename_i t x lo hi mx ho
  have hx:=hv x (by simp[ho,Op.operands])
  split at he
  ·rename_i a n c hxe
   rw[hxe] at hx
   split at he
   ·rename_i v' he'
    cases he
    unfold sliceRead at he'
    split at he'
    ·split at he'
     ·split at he'
      ·split at he'
       ·split at he'
        ·split at he'<;>cases he'
         ·exact hx
         ·exact sc_add (a:=⟨_,_,none⟩) hx
        ·split at he'<;>cases he'
         exact sc_add (a:=⟨_,_,none⟩) hx
       ·cases he'
      ·cases he'
     ·cases he'
    ·cases he'
   ·unfold sliceWide at he
    split at he
    ·split at he
     ·split at he
      ·split at he
       ·split at he<;>cases he
        exact sc_add (a:=⟨_,_,none⟩) hx
       ·cases he
      ·cases he
     ·cases he
    ·cases he
  ·cases he
 ·split at he
  ·split at he<;>cases he;rfl
  ·split at he<;>cases he;rfl
  ·split at he
   ·split at he
    ·split at he<;>cases he;rfl
    ·cases he
   ·cases he
  ·cases he
 ·exact (mapRead_run (ρ:=λx=>con Γ (ev tm x)) hr (λ_ _=>rfl) he).2 hv
theorem mkRow_sc {h:Heap}{e:TypeId}{cs:List Value}{more:Bool}{b:Nat}{h':Heap}(hm:mkRow h e cs more=some (b,h')):b=h.next∧h'.next=h.next+1:=by
 unfold mkRow at hm
 split at hm
 ·rw[Heap.new_eq] at hm
  cases hm
  exact ⟨rfl,rfl⟩
 ·cases hm
theorem sc_new (n:Nat):sc (n+1) (.pointer (some ⟨n,0,none⟩))=true:=by simp[sc,scA]
theorem sc_new_sl (n l c:Nat):sc (n+1) (.slice (some ⟨n,0,none⟩) l c)=true:=by simp[sc,scA]
theorem appIn_sc {e size n cap m:Nat}{base:Option Addr}{new:List Value}{h h':Heap}{v:Value}(he:appIn e size n cap m base new h=some (v,h')):(sc h.next (.slice base n cap)=true→sc h.next v=true)∧h'.next=h.next:=by
 unfold appIn at he
 split at he
 ·split at he
  ·split at he
   ·split at he<;>cases he
    exact ⟨λh=>h,by rw[Heap.put_eq]⟩
   ·cases he
  ·cases he
 ·cases he
theorem evEff_sc {p:Par}{Γ:Gam}{h h':Heap}{w:World}(hr:HRel p Γ h w){tm:VT}(hsc:∀ x∈tm.arr.toList,sc h.next x=true){o:Oper}
  (hop:o.op.operands.all (okOpd p.NG)=true) {v:Value} (he:evEff p.P o tm h=some (v,h')):sc h'.next v=true:=by
 have hv:∀ x∈o.op.operands,sc h.next (ev tm x)=true:=λx hx=>ev_sc hr hsc (by
  rw[Array.all_eq_true_iff_forall_mem] at hop;exact hop x hx)
 unfold evEff at he
 split at he
 ·split at he
  ·split at he
   ·split at he<;>cases he
    rename_i hm
    obtain ⟨rfl,h2⟩:=mkRow_sc hm
    rw[h2];exact sc_new _
   ·cases he
  ·cases he
 ·split at he<;>cases he
  rename_i hm
  obtain ⟨rfl,h2⟩:=mkRow_sc hm
  rw[h2];exact sc_new _
 ·split at he
  ·split at he
   ·split at he
    ·split at he
     ·split at he
      ·split at he<;>cases he
       rename_i hm
       obtain ⟨rfl,h2⟩:=mkRow_sc hm
       rw[h2];exact sc_new_sl _ _ _
      ·cases he
     ·cases he
    ·cases he
   ·cases he
  ·cases he
 ·split at he<;>cases he;rfl
 ·unfold evMake at he
  split at he
  ·split at he
   ·split at he
    ·split at he
     ·split at he<;>cases he
      rename_i hm
      obtain ⟨rfl,h2⟩:=mkRow_sc hm
      rw[h2];exact sc_new_sl _ _ _
     ·cases he
    ·cases he
   ·cases he
  ·cases he
 ·rename_i args argTypes ho
  split at he
  ·rename_i sT xT s x hT hA
   have hA':args=#[s,x]:=Array.ext' hA
   have hs:=hv s (by simp[ho,hA',Op.operands,Call.operands])
   unfold evAppend at he
   split at he
   ·rename_i e base n cap m hs1 hs2 hlen
    rw[hs2] at hs
    split at he
    ·cases he
    dsimp only at he
    split at he
    ·cases he
    split at he
    ·split at he
     ·split at he
      ·split at he<;>cases he;rfl
      ·split at he
       ·cases he
        exact hs
       split at he
       rotate_left
       ·cases he
       split at he
       ·split at he<;>cases he
        exact hs
       ·cases he
     ·split at he
      ·split at he
       ·split at he<;>cases he
        rename_i hm
        obtain ⟨rfl,h2⟩:=mkRow_sc hm
        rw[h2];exact sc_new_sl _ _ _
       ·cases he
      ·cases he
    ·split at he
     ·rename_i r hin
      cases he
      have h9:=appIn_sc (v:=v) (h':=h') hin
      rw[h9.2]
      exact h9.1 hs
     split at he
     ·split at he
      ·split at he
       ·split at he<;>cases he
        exact sc_new_sl _ _ _
       ·cases he
      ·cases he
     ·cases he
   ·cases he
  ·cases he
 ·split at he
  ·rw[Heap.new_eq] at he
   cases he
   exact sc_new _
  ·cases he
 ·split at he
  ·split at he
   ·split at he<;>cases he<;>rfl
   ·cases he
  ·cases he
 ·rename_i s d x ho
  split at he
  ·split at he
   ·split at he
    ·split at he<;>cases he
     rename_i hm
     obtain ⟨rfl,h2⟩:=mkRow_sc hm
     rw[h2];exact sc_new_sl _ _ _
    ·cases he
   ·cases he
  ·rename_i hxe
   unfold markEff at he
   split at he
   ·cases he
    rw[← hxe];exact hv x (by simp[ho,Op.operands])
   ·cases he
  ·cases he
 ·cases he
end Go.Ev
namespace Go.Ev
open Go Go.RowKit
def WP (p:Par)(ro:Option Nat)(c:Code)(s:S)(R:XExit→S→Prop):Prop:=
 okCode p.NG c=true→∀ (Γ:Gam) (ca:Act) (w:World),St p Γ s ca w→∀ (F:Fence) (n:Nat) (Q:Exit→Act→World→Prop),FW F→F.round=ro.map Γ.b→(∀ l,ro=some l→l<s.h.next)→
  (∀ e s' Γ' ca' w',R e s'→Ag Γ Γ' s.h.next→s.h.next≤s'.h.next→Below p.B w w'→St p Γ' s' ca' w'→Q e.con ca' w')→codeW F n p.P c Q ca w
def WPin (p:Par)(ro:Option Nat)(b c:Code)(s:S)(R:XExit→S→Prop):Prop:=
 okCode p.NG b=true→okCode p.NG c=true→∀ (Γ:Gam) (ca:Act) (w:World),St p Γ s ca w→∀ (F:Fence) (n:Nat) (Q:Exit→Act→World→Prop),FW F→F.round=ro.map Γ.b→(∀ l,ro=some l→l<s.h.next)→
  (∀ e s' Γ' ca' w',R e s'→Ag Γ Γ' s.h.next→s.h.next≤s'.h.next→Below p.B w w'→St p Γ' s' ca' w'→Q e.con ca' w')→inScopeW F n p.P b Q c ca w
def YieldW (p:Par)(l:Nat)(args:List Value)(h:Heap)(R:Value→Heap→Prop):Prop:=
 ∀ (Γ:Gam) (w:World),HRel p Γ h w→(∀ x∈args,sc h.next x=true)→∀ (o:Oper) (F:Fence),FW F→∀ (n:Nat) (a:Act) (K:Act→World→Prop) (Q:Exit→Act→World→Prop),
  (∀ (v:Value) (h':Heap) (Γ':Gam) (w':World),R v h'→Ag Γ Γ' h.next→h.next≤h'.next→Below p.B w w'→HRel p Γ' h' w'→sc h'.next v=true→K (a.put o.dst (con Γ' v)) w')→
  o.uponIn F n p.P a K Q ((Instr.yield (Γ.b l) ⟨args.map (con Γ)⟩).run p.P w)
def CallV (p:Par)(f:Value)(args:List Value)(h:Heap)(R:Value→Heap→Prop):Prop:=
 match f with
 | .func (.func g) ⟨[]⟩ ⟨captured⟩=>CallW p g (args++captured) h R
 | .func (.yield l) ⟨[]⟩ _=>YieldW p l args h R
 | _=>False
theorem YieldW.mono {p:Par}{l:Nat}{args:List Value}{h:Heap}{R R':Value→Heap→Prop}(hc:YieldW p l args h R)(hR:∀ v h',R v h'→R' v h'):YieldW p l args h R':=
 λΓ w hr hs o F hF n a K Q hK=>hc Γ w hr hs o F hF n a K Q λv h' Γ' w' hv=>hK v h' Γ' w' (hR v h' hv)
theorem CallV.mono {p:Par}{f:Value}{args:List Value}{h:Heap}{R R':Value→Heap→Prop}(hc:CallV p f args h R)(hR:∀ v h',R v h'→R' v h'):CallV p f args h R':=by
 unfold CallV at hc ⊢
 split
 ·exact CallW.mono hc hR
 ·exact YieldW.mono hc hR
 ·rename_i h1 h2
  split at hc
  ·exact absurd rfl (h1 _ _)
  ·exact absurd rfl (h2 _ _)
  ·exact hc
theorem WP.mono {p:Par}{ro:Option Nat}{c:Code}{s:S}{R R':XExit→S→Prop}(h:WP p ro c s R)(hR:∀ e s',R e s'→R' e s'):WP p ro c s R':=
 λhok Γ ca w hst F n Q hF hro hl hQ=>h hok Γ ca w hst F n Q hF hro hl λe s' Γ' ca' w' hr=>hQ e s' Γ' ca' w' (hR e s' hr)
section
variable {p:Par} {ro:Option Nat} {s:S} {R:XExit→S→Prop}
theorem WP.skip (h:R .normal s):WP p ro .skip s R:=λ_ Γ ca w hst _ _ _ _ _ _ hQ=>codeW_of (by simp) (wpIn_skip (hQ _ s Γ ca w h (Ag.refl _ _) (Nat.le_refl _) (Below.refl _ _) hst))
theorem WP.label {l:Nat}(h:R .normal s):WP p ro (.label l) s R:=λ_ Γ ca w hst _ _ _ _ _ _ hQ=>codeW_of (by simp) (wpIn_label (hQ _ s Γ ca w h (Ag.refl _ _) (Nat.le_refl _) (Below.refl _ _) hst))
theorem WP.exit {i:Nat}(h:R (.exit i) s):WP p ro (.exit i) s R:=λ_ Γ ca w hst _ _ _ _ _ _ hQ=>codeW_of (by simp) (wpIn_exit (hQ _ s Γ ca w h (Ag.refl _ _) (Nat.le_refl _) (Below.refl _ _) hst))
theorem WP.goto {l:Nat}(h:R (.goto l) s):WP p ro (.goto l) s R:=λ_ Γ ca w hst _ _ _ _ _ _ hQ=>codeW_of (by simp) (wpIn_goto (hQ _ s Γ ca w h (Ag.refl _ _) (Nat.le_refl _) (Below.refl _ _) hst))
theorem WP.ret (h:R .ret s):WP p ro .ret s R:=λ_ Γ ca w hst _ _ _ _ _ _ hQ=>codeW_of (by simp) (wpIn_ret (hQ _ s Γ ca w h (Ag.refl _ _) (Nat.le_refl _) (Below.refl _ _) hst))
theorem round_ag {Γ Γ1:Gam}{m:Nat}{F:Fence}(hro:F.round=ro.map Γ.b)(hl:∀ l,ro=some l→l<m)(hg:Ag Γ Γ1 m):F.round=ro.map Γ1.b:=by
 rw[hro];cases ro with
 | none=>rfl
 | some l=>simp[hg.b l (hl l rfl)]
def thenR (k:S→Prop)(R:XExit→S→Prop)(e:XExit)(s:S):Prop:=match e with | .normal=>k s|e=>R e s
theorem WP.seq {a b:Code}(h:WP p ro a s (thenR (λs1=>WP p ro b s1 R) R)):WP p ro (.seq a b) s R:=by
 intro hok Γ ca w hst F n Q hF hro hl hQ
 simp only[okCode,Bool.and_eq_true] at hok
 refine codeW_of (by simp) (wpIn_seq (codeW_wp (h hok.1 Γ ca w hst F n _ hF hro hl λe s1 Γ1 ca1 w1 hr hg hle hb hst1=>?_)))
 cases e with
 | normal=>
  refine codeW_wp (hr hok.2 Γ1 ca1 w1 hst1 F n Q hF (round_ag hro hl hg) (λl e=>Nat.lt_of_lt_of_le (hl l e) hle) λe2 s2 Γ2 ca2 w2 hr2 hg2 hle2 hb2 hst2=>?_)
  exact hQ e2 s2 Γ2 ca2 w2 hr2 (hg.trans hg2 hle) (Nat.le_trans hle hle2) (hb.trans hb2) hst2
 | exit i=>exact hQ _ s1 Γ1 ca1 w1 hr hg hle hb hst1
 | goto l=>exact hQ _ s1 Γ1 ca1 w1 hr hg hle hb hst1
 | ret=>exact hQ _ s1 Γ1 ca1 w1 hr hg hle hb hst1
theorem WP.cond {x:Operand}{a b:Code}{v:Bool}(hx:ev s.tm x=.bool v)(ha:v=true→WP p ro a s R)(hb:v=false→WP p ro b s R):WP p ro (.cond x a b) s R:=by
 intro hok Γ ca w hst F n Q hF hro hl hQ
 simp only[okCode,Bool.and_eq_true] at hok
 have hx2:=hst.tm.eval hok.1.1
 refine codeW_of (by simp) ?_
 cases v with
 | true=>exact wpIn_cond_true (by rw[hx2,hx];rfl) (codeW_wp (ha rfl hok.1.2 Γ ca w hst F n Q hF hro hl hQ))
 | false=>exact wpIn_cond_false (by rw[hx2,hx];rfl) (codeW_wp (hb rfl hok.2 Γ ca w hst F n Q hF hro hl hQ))
def outR (id:Nat)(R:XExit→S→Prop)(e:XExit)(s:S):Prop:=match e with | .exit j=>if j=id then R .normal s else R (.exit j) s|e=>R e s
theorem WP.block {id:Nat}{b:Code}(h:WP p ro b s (outR id R)):WP p ro (.block id b) s R:=by
 intro hok Γ ca w hst F n Q hF hro hl hQ
 simp only[okCode] at hok
 refine codeW_of (by simp) (wpIn_block (codeW_wp (h hok Γ ca w hst F n _ hF hro hl λe s1 Γ1 ca1 w1 hr hg hle hb hst1=>?_)))
 cases e with
 | normal=>exact hQ _ s1 Γ1 ca1 w1 hr hg hle hb hst1
 | exit j=>
  simp only[outR] at hr
  by_cases hj:j=id
  ·rw[if_pos hj] at hr
   have:=hQ _ s1 Γ1 ca1 w1 hr hg hle hb hst1
   simp only[XExit.con,Exit.inBlock,if_pos hj]
   exact this
  ·rw[if_neg hj] at hr
   have:=hQ _ s1 Γ1 ca1 w1 hr hg hle hb hst1
   simp only[XExit.con,Exit.inBlock,if_neg hj]
   exact this
 | goto l=>exact hQ _ s1 Γ1 ca1 w1 hr hg hle hb hst1
 | ret=>exact hQ _ s1 Γ1 ca1 w1 hr hg hle hb hst1
theorem WP.round {b:Code}(h:WP p ro b s (thenR (λs2=>WP p ro (.loop b) s2 R) R)):WP p ro (.loop b) s R:=by
 intro hok Γ ca w hst F n Q hF hro hl hQ
 have hokb:okCode p.NG b=true:=by simpa[okCode] using hok
 refine codeW_loop (codeW_wp (h hokb Γ ca w hst F n _ hF hro hl λe s2 Γ1 ca1 w1 hr hg hle hb hst1=>?_))
 cases e with
 | normal=>
  refine hr hok Γ1 ca1 w1 hst1 F n Q hF (round_ag hro hl hg) (λl e=>Nat.lt_of_lt_of_le (hl l e) hle) λe2 s3 Γ2 ca2 w2 hr2 hg2 hle2 hb2 hst2=>?_
  exact hQ e2 s3 Γ2 ca2 w2 hr2 (hg.trans hg2 hle) (Nat.le_trans hle hle2) (hb.trans hb2) hst2
 | exit i=>exact hQ _ s2 Γ1 ca1 w1 hr hg hle hb hst1
 | goto l=>exact hQ _ s2 Γ1 ca1 w1 hr hg hle hb hst1
 | ret=>exact hQ _ s2 Γ1 ca1 w1 hr hg hle hb hst1
def scopeR (p:Par)(ro:Option Nat)(b:Code)(R:XExit→S→Prop)(e:XExit)(s:S):Prop:=
 match e with
 | .goto l=>match findLabel b l with
  | some rest=>WPin p ro b rest s R
  | none=>R (.goto l) s
 | e=>R e s
theorem WP.scope {b:Code}(h:WPin p ro b b s R):WP p ro (.scope b) s R:=by
 intro hok Γ ca w hst F n Q hF hro hl hQ
 simp only[okCode] at hok
 exact codeW_of (by simp) (wpIn_scopeW (h hok hok Γ ca w hst F n Q hF hro hl hQ))
end
end Go.Ev
namespace Go.Ev
open Go Go.RowKit
noncomputable section
structure GoodP (p:Par):Prop where
 funcs:∀ (g:Nat) (fn:Func),p.P.funcs[g]?=some fn→okFunc p.NG fn=true
 mixed:p.P.follows .mixedOrders=true
def FR (n:Nat)(l:List (Nat×Value)):VT:=l.foldr (λx T=>T.set x.1 x.2) (VT.of [] n)
theorem FR_sz (n:Nat)(l:List (Nat×Value)):(FR n l).sz=n:=by
 induction l with
 | nil=>simp[FR,VT.of]
 | cons x l ih=>exact (VT.set_sz _ _ _).trans ih
theorem FR_set (n:Nat)(l:List (Nat×Value))(i:Nat)(v:Value):(FR n l).set i v=FR n ((i,v) :: l):=rfl
theorem FR_arr_cons (n:Nat)(hU:n<U)(l:List (Nat×Value))(i:Nat)(v:Value):(FR n ((i,v) :: l)).arr=(FR n l).arr.setIfInBounds i v:=by
 rw[← FR_set,VT.arr_set _ (by rw[FR_sz];exact hU)]
theorem FR_nil (n:Nat)(hU:n<U):(FR n []).arr=Array.replicate n undef:=by
 have:=VT.of_arr [] n (by simpa[VT.of] using hU)
 simpa[FR] using this
theorem FR_get_nil (n j:Nat)(hU:n<U):(FR n []).get j=undef:=by
 rw[← VT.arr_getD,FR_nil n hU,Array.getD_eq_getD_getElem?,Array.getElem?_replicate]
 split<;>rfl
theorem FR_get (n:Nat)(hU:n<U)(l:List (Nat×Value))(i:Nat)(v:Value)(j:Nat):(FR n ((i,v) :: l)).get j=if i=j then (if i<n then v else undef) else (FR n l).get j:=by
 rw[← VT.arr_getD,FR_arr_cons n hU,Array.getD_eq_getD_getElem?,Array.getElem?_setIfInBounds,VT.arr_size,FR_sz]
 by_cases h:i=j
 ·rw[if_pos h,if_pos h]
  split<;>rfl
 ·rw[if_neg h,if_neg h,← VT.arr_getD,Array.getD_eq_getD_getElem?]
def enumA:Nat→List Value→List (Nat×Value)
 | _,[]=>[]
 | i,v :: l=>enumA (i+1) l++[(i,v)]
theorem FR_arr_fold (n:Nat)(hU:n<U)(m:List (Nat×Value)):∀ (l:List (Nat×Value)),(FR n (l++m)).arr=l.foldr (λx A=>A.setIfInBounds x.1 x.2) (FR n m).arr
 | []=>rfl
 | (i,v) :: l=>by
  rw[List.cons_append,FR_arr_cons n hU,FR_arr_fold n hU m l]
  rfl
theorem enumA_arr:∀ (args:List Value) (i:Nat) (A:Array Value) (j:Nat),i+args.length≤A.size→
  ((enumA i args).foldr (λx A=>A.setIfInBounds x.1 x.2) A)[j]?=if i≤j∧j<i+args.length then args[j-i]? else A[j]?
 | [],i,A,j,_=>by simp[enumA];intro h1 h2;omega
 | v :: l,i,A,j,h=>by
  simp only[List.length_cons] at h
  simp only[enumA,List.foldr_append,List.foldr_cons,List.foldr_nil,List.length_cons]
  rw[enumA_arr l (i+1) (A.setIfInBounds i v) j (by simp;omega)]
  by_cases h1:i+1≤j∧j<i+1+l.length
  ·rw[if_pos h1,if_pos (by omega)]
   rw[show j-i=(j-(i+1))+1 by omega,List.getElem?_cons_succ]
  ·rw[if_neg h1]
   by_cases h2:j=i
   ·subst h2
    rw[if_pos (by omega)]
    simp[Array.getElem?_setIfInBounds]
    omega
   ·rw[if_neg (by omega),Array.getElem?_setIfInBounds,if_neg (Ne.symm h2)]
theorem FR_args (n:Nat)(hU:n<U)(args:List Value)(h:args.length≤n):(FR n (enumA 0 args)).arr=⟨args⟩++Array.replicate (n-args.length) undef:=by
 apply Array.ext_getElem?
 intro j
 have:=FR_arr_fold n hU [] (enumA 0 args)
 rw[List.append_nil] at this
 rw[this,FR_nil n hU,enumA_arr args 0 _ j (by simpa using h)]
 simp only[Nat.zero_le,true_and,Nat.zero_add,Nat.sub_zero]
 rw[Array.getElem?_append]
 simp only[List.size_toArray,List.getElem?_toArray]
 split
 ·rfl
 ·rw[Array.getElem?_replicate,Array.getElem?_replicate]
  by_cases h3:j<n
  ·rw[if_pos h3,if_pos (by omega)]
  ·rw[if_neg h3,if_neg (by omega)]
def evRes (P:Program)(rs:List ResultVar)(tm:VT)(h:Heap):Option Value:=
 match evResults.go P tm h rs with
 | some [v]=>some v
 | some l=>some (.tuple ⟨l⟩)
 | none=>none
theorem evRes_eq (P:Program)(fn:Func)(tm:VT)(h:Heap):evResults P fn tm h=evRes P fn.results.toList tm h:=rfl
theorem evRes_sc {p:Par}{Γ:Gam}{h:Heap}{w:World}(hr:HRel p Γ h w){tm:VT}(hsc:∀ x∈tm.arr.toList,sc h.next x=true){rs:List ResultVar}{v:Value}(he:evRes p.P rs tm h=some v):sc h.next v=true:=by
 have hget:∀ t,sc h.next (tm.get t)=true:=λt=>by
  rw[← VT.arr_getD,Array.getD_eq_getD_getElem?]
  cases hx:tm.arr[t]? with
  | none=>rfl
  | some x=>exact hsc x (by simpa using Array.mem_of_getElem? hx)
 have hgo:∀ (rs:List ResultVar) (l:List Value),evResults.go p.P tm h rs=some l→∀ x∈l,sc h.next x=true:=by
  intro rs
  induction rs with
  | nil=>intro l he;cases he;intro x hx;cases hx
  | cons r rs ih=>
   intro l he
   cases r with
   | tmp t=>
    simp only[evResults.go] at he
    split at he<;>cases he
    rename_i l' hl'
    intro x hx
    rcases List.mem_cons.1 hx with rfl|hx
    ·exact hget t
    ·exact ih l' hl' x hx
   | cell a t=>
    simp only[evResults.go] at he
    split at he
    ·rename_i u l' hu hl'
     cases he
     intro x hx
     rcases List.mem_cons.1 hx with rfl|hx
     ·exact evLoad_sc hr hu
     ·exact ih l' hl' x hx
    ·cases he
 unfold evRes at he
 split at he
 ·rename_i u hu;cases he;exact hgo _ _ hu _ (List.mem_singleton.2 rfl)
 ·rename_i l _ hl;cases he;exact scL_of_all (hgo _ _ hl)
 ·cases he
def endR (P:Program)(rs:List ResultVar)(R:Value→Heap→Prop)(s:S):Prop:=
 match evMarks s.df s.h with
 | some h1=>match evRes P rs s.tm h1 with
  | some v=>R v h1
  | none=>False
 | none=>False
def finR (P:Program)(rs:List ResultVar)(R:Value→Heap→Prop)(e:XExit)(s:S):Prop:=
 match e with
 | .normal=>endR P rs R s
 | .ret=>endR P rs R s
 | _=>False
def CallE (p:Par)(g:FuncId)(args:List Value)(h:Heap)(R:Value→Heap→Prop):Prop:=
 ∀ (Γ:Gam) (w:World),HRel p Γ h w→(∀ x∈args,sc h.next x=true)→(callFunc g ⟨args.map (con Γ)⟩).run p.P w=.ok (.enter g ⟨args.map (con Γ)⟩) w∧
  ∀ (F:Fence),FW F→∀ (n:Nat) (R':Ending→World→Prop),
   (∀ (v:Value) (h':Heap) (Γ':Gam) (w':World),R v h'→Ag Γ Γ' h.next→h.next≤h'.next→Below p.B w w'→HRel p Γ' h' w'→sc h'.next v=true→R' (.returned (con Γ' v)) w')→
   CallsIn F n p.P g ⟨args.map (con Γ)⟩ w R'
theorem CallE.mono {p:Par}{g:FuncId}{args:List Value}{h:Heap}{R R':Value→Heap→Prop}(hc:CallE p g args h R)(hR:∀ v h',R v h'→R' v h'):CallE p g args h R':=
 λΓ w hr hs=>⟨(hc Γ w hr hs).1,λF hF n S hS=>(hc Γ w hr hs).2 F hF n S λv h' Γ' w' hv=>hS v h' Γ' w' (hR v h' hv)⟩
theorem CallE.w {p:Par}{g:FuncId}{args:List Value}{h:Heap}{R:Value→Heap→Prop}(hc:CallE p g args h R):CallW p g args h R:=by
 intro Γ w hr hsc o F hF n a K Q hK
 obtain ⟨hrun,hcalls⟩:=hc Γ w hr hsc
 rw[hrun]
 refine ⟨λhd=>(by rw[hF.depth] at hd;cases hd),?_⟩
 refine CallsIn.mono (hcalls F hF (n - 1) (fun e w'' => match e with
   | .returned v=>K (a.put o.dst v) w''
   | .panicked chain=>Q (.panic chain) a w''
   | .outgrown=>LetsOut Q) hK) λe w'' he=>by cases e<;>exact he
theorem CallE.body {p:Par}(ok:GoodP p){g:FuncId}{fn:Func}{c:Code}(hfn:p.P.funcs[g]?=some fn)(hb:fn.body=some c){args:List Value}{h:Heap}{R:Value→Heap→Prop}
  (hn:args.length≤fn.ntmps) (hU:fn.ntmps<U) (hw:WP p none c ⟨FR fn.ntmps (enumA 0 args),[],h⟩ (finR p.P fn.results.toList R)):CallE p g args h R:=by
 intro Γ w hr hsc
 have hok:=ok.funcs g fn hfn
 simp only[okFunc,hb,Bool.and_eq_true,bne_iff_ne,ne_eq] at hok
 have hrun:(callFunc g ⟨args.map (con Γ)⟩).run p.P w=.ok (.enter g ⟨args.map (con Γ)⟩) w:=by simp[callFunc,hfn,hok.2,hb]
 refine ⟨hrun,λF hF n R' hK=>?_⟩
 have harr:=FR_args fn.ntmps hU args hn
 have hF':FW F.plain:=⟨hF.wide⟩
 refine (?_:CallsIn F.plain n p.P g ⟨args.map (con Γ)⟩ w R')
 refine callsIn_of_wp_marks hfn hb (hF.fn g) (codeW_wp (hw hok.1 Γ { tmps := (⟨args.map (con Γ)⟩ : Array Value) ++ Array.replicate (fn.ntmps - (⟨args.map (con Γ)⟩ : Array Value).size) undef, defers := [] } w
   ⟨⟨by rw[FR_sz];exact hU,by rw[harr];simp[con_undef],hr.gl⟩,by
    intro x hx
    have hx:x∈(FR fn.ntmps (enumA 0 args)).arr.toList:=hx
    rw[harr] at hx
    simp only[Array.toList_append,List.mem_append] at hx
    rcases hx with hx|hx
    ·exact hsc x hx
    ·simp at hx;rw[hx.2];rfl,⟨rfl,λd hd=>by cases hd⟩,hr⟩ F.plain n _ hF' rfl (λl h=>by cases h) ?_)) rfl
 intro e s' Γ' ca' w' hfin hag hle hbel hst
 have hfin':endR p.P fn.results.toList R s':=by
  cases e with
  | normal=>exact hfin
  | ret=>exact hfin
  | exit i=>exact hfin.elim
  | goto l=>exact hfin.elim
 have hR:LeavesInM F.plain n p.P fn ca'.tmps R' ca'.defers .returning w':=by
  unfold endR at hfin'
  split at hfin'
  ·rename_i h1 hm
   split at hfin'
   ·rename_i v hres
    rw[hst.df.1]
    refine evMarks_run _ _ _ _ hst.hr hm λw'' hr'' hn'' hb''=>?_
    refine ⟨_,evResults_run hr'' hst.tm (by rw[evRes_eq];exact hres),hK v h1 Γ' w'' hfin' hag (by rw[hn''];exact hle) (hbel.trans hb'') hr'' ?_⟩
    exact evRes_sc hr'' (λx hx=>by rw[hn''];exact hst.sc x hx) hres
   ·exact hfin'.elim
  ·exact hfin'.elim
 cases e with
 | normal=>exact hR
 | ret=>exact hR
 | exit i=>exact hfin.elim
 | goto l=>exact hfin.elim
def roundR (l:Nat)(R:Value→Heap→Prop)(e:XExit)(s2:S):Prop:=
 match getLoopA s2.h l with
 | some r2=>R (.bool e.jump.isNone) (putLoopA s2.h l { r2 with state:=if e.jump.isNone then .ready else .done,pending:=e.jump })
 | none=>False
def assignR (p:Par)(l:Nat)(body:Code)(R:Value→Heap→Prop)(e:XExit)(s1:S):Prop:=
 match e with
 | .normal=>match getLoopA s1.h l with
  | some r1=>r1.state=.ready∧WP p (some l) body ⟨s1.tm,s1.df,putLoopA s1.h l { r1 with state:=.busy }⟩ (roundR l R)
  | none=>False
 | _=>False
theorem YieldW.of {p:Par}{l:Nat}{r:Loop}{args:List Value}{h:Heap}{R:Value→Heap→Prop}{T:VT}(hg:getLoopA h l=some r)(hT:r.tmps=T.arr)(hU:T.sz<U)
  (hlen:args.length=r.params.toList.length) (hw:WP p (some l) r.assign ⟨setAll T (r.params.toList.zip args),[],h⟩ (assignR p l r.body R)):YieldW p l args h R:=by
 intro Γ w hr hsc o F hF n a K Q hK
 obtain ⟨_,hlo,hlt,h1,h2,h3,h4,f,hw0⟩:=getLoopA_spec hr hg
 rw[run_yield hw0 (by simpa[conLoop] using hlen)]
 rw[Oper.uponIn_round]
 refine ⟨λhd=>(by rw[hF.depth] at hd;cases hd),roundIn_of_wpIn (hF.fn _) ?_⟩
 have hFr:FW (F.inRound (Γ.b l)):=⟨hF.wide⟩
 have htm:(conLoop Γ f r).tmps=r.tmps.map (con Γ):=rfl
 have hps:(conLoop Γ f r).params=r.params:=rfl
 have hof:T.arr=r.tmps:=hT.symm
 rw[htm,hps,zip_fold_con' Γ r.params args hU hof]
 refine codeW_wp (hw h3 Γ _ w ⟨⟨by rw[setAll_sz];exact hU,rfl,hr.gl⟩,zip_fold_sc' r.params hU hof hsc h1,⟨rfl,λd hd=>by cases hd⟩,hr⟩ (F.inRound (Γ.b l)) (n-1) _ hFr rfl (λl' e=>by cases e;exact hlt) ?_)
 intro e s1 Γ1 ca1 w1 hass hag1 hle1 hb1 hst
 cases e with
 | exit i=>exact hass.elim
 | goto l=>exact hass.elim
 | ret=>exact hass.elim
 | normal=>
  simp only[assignR] at hass
  split at hass
  case h_2=>exact hass.elim
  rename_i r1 hg1
  obtain ⟨hst1,hbody⟩:=hass
  obtain ⟨_,hlo1,hlt1,h11,h12,h13,h14,f1,hw1⟩:=getLoopA_spec hst.hr hg1
  have hbl:Γ1.b l=Γ.b l:=hag1.b l hlt
  have hp1:=putLoopA_run hst.hr hg1 hw1 .busy r1.pending
  refine ⟨_,run_beginRound (r:=conLoop Γ1 f1 r1) (by rw[← hbl];exact hw1) hst1,?_⟩
  refine codeW_wp (hbody h4 Γ1 ca1 _ ⟨hst.tm,hst.sc,hst.df,by rw[hbl] at hp1;exact hp1.1⟩ (F.inRound (Γ.b l)) (n-1) _ hFr (by simp[hbl]) (λl' e=>by cases e;exact hlt1) ?_)
  intro e s2 Γ2 ca2 w2 hrr hag2 hle2 hb2 hst2
  unfold roundR at hrr
  split at hrr
  case h_2=>exact hrr.elim
  rename_i r2 hg2
  obtain ⟨_,hlo2,hlt2,h21,h22,h23,h24,f2,hw2⟩:=getLoopA_spec hst2.hr hg2
  have hag2':Ag Γ1 Γ2 s1.h.next:=hag2
  have hbl2:Γ2.b l=Γ.b l:=(hag2'.b l hlt1).trans hbl
  have hp2:=putLoopA_run hst2.hr hg2 hw2 (if e.jump.isNone then .ready else .done) e.jump
  rw[hbl2] at hp2 hw2
  have hle2':s1.h.next≤s2.h.next:=hle2
  have hle1':h.next≤s1.h.next:=hle1
  have hbelow:Below p.B w w2:=hb1.trans (Below.trans (by rw[hbl] at hp1;exact hp1.2.1.below) hb2)
  have hend:∃ v w',(Instr.endRound (Γ.b l) e.jump).run p.P w2=.ok v w'∧K (a.put o.dst v) w':=by
   refine ⟨_,_,run_endRound (r:=conLoop Γ2 f2 r2) e.jump hw2,?_⟩
   have:=hK _ _ Γ2 _ hrr (hag1.trans hag2' hle1) (by have:=hp2.2.2;omega) (hbelow.trans hp2.2.1.below) hp2.1 rfl
   exact this
  cases e with
  | normal=>exact hend
  | exit id=>exact hend
  | goto t=>exact hend
  | ret=>exact hend
def leaveR (l:Nat)(s:S)(mk:List Nat)(R:XExit→S→Prop)(_:Value)(h2:Heap):Prop:=
 match evLeave l ⟨s.tm,mk++s.df,h2⟩ with
 | some (e,s')=>R e s'
 | none=>False
theorem WP.range {p:Par}{ro:Option Nat}{g:Operand}{ps:Array Tmp}{a b:Code}{s:S}{R:XExit→S→Prop}{l:Nat}{mk:List Nat}{h1:Heap}(hent:evEnter ro s.tm ps a b s.h=some (l,mk,h1))
  {f:FuncId} {captured:List Value} (hgv:ev s.tm g=.func (.func f) #[] ⟨captured⟩) (hc:CallE p f (.func (.yield l) #[] #[] :: captured) h1 (leaveR l s mk R)):WP p ro (.rangeFunc g ps a b) s R:=by
 intro hok Γ ca w hst F n Q hF hro hl hQ
 simp only[okCode,Bool.and_eq_true] at hok
 refine codeW_of (by simp) (wpIn_rangeFunc λfn hfn=>?_)
 obtain ⟨Γ1,w1,hent1,hag1,hle1,hr1,hbel1,hl1',hmk1⟩:=evEnter_run hst hok.1.2 hok.2 hent fn
 have hng:p.NG≤s.h.next:=by have:=hst.hr.ng;have:=hst.hr.gn;omega
 have htm1:=hst.tm.ag hst.sc hag1 hng
 have hg0:=htm1.eval hok.1.1
 rw[hgv,con_func] at hg0
 have hscg:scL s.h.next captured=true:=by
  have:=ev_sc hst.hr hst.sc hok.1.1
  rw[hgv] at this
  simp only[sc,Bool.and_eq_true] at this
  exact this.2
 have hargs:(#[Value.func (.yield (Γ1.b l)) #[] #[]]++(⟨captured⟩:Array Value).map (con Γ1))=⟨(Value.func (.yield l) #[] #[] :: captured).map (con Γ1)⟩:=by
  apply Array.ext'
  simp[con,conFn,conL]
 have hbd := hc Γ1 w1 hr1 (fun x hx => by
   simp only[List.mem_cons] at hx
   rcases hx with hx|hx
   ·subst hx
    simp only[sc,scL,Bool.and_true,Nat.blt_eq]
    exact hl1'
   ·exact sc_mono hle1 x (scL_all hscg x hx))
 have hbd2:=hbd.2 F hF (n-1) (rangePost F n p.P (Γ1.b l) Q { ca with defers:=marks Γ1 mk++ca.defers }) (by
  intro v h2 Γ2 w2 hlv hag2 hle2 hbel2 hr2 _
  unfold leaveR at hlv
  split at hlv
  case h_2=>exact hlv.elim
  rename_i e s' he
  unfold evLeave at he
  split at he
  ·rename_i r hg
   obtain ⟨_,_,_,_,_,_,_,f2,hw2⟩:=getLoopA_spec (h:=h2) hr2 hg
   have hbl:Γ2.b l=Γ1.b l:=hag2.b l hl1'
   have hput:=putLoopA_run hr2 hg hw2 .exhausted r.pending
   rw[hbl] at hw2 hput
   split at he
   ·cases he
   ·rename_i hnb
    obtain ⟨W,hrunW,hrelW,hfrW⟩:∃ W,(Instr.endLoop (Γ1.b l)).run p.P w2=.ok r.pending W∧HRel p Γ2 (putLoopA h2 l { r with state:=.exhausted }) W∧Fr p Γ2 h2 w2 W:=
     ⟨_,run_endLoop (r:=conLoop Γ2 f2 r) hw2 hnb,hput.1,hput.2.1⟩
    have hag:Ag Γ Γ2 s.h.next:=hag1.trans hag2 hle1
    have hnx:(putLoopA h2 l { r with state:=.exhausted }).next=h2.next:=rfl
    have hstn:St p Γ2 ({ tm:=s.tm,df:=mk++s.df,h:=putLoopA h2 l { r with state:=.exhausted } }:S) { ca with defers:=marks Γ1 mk++ca.defers } W:=by
     refine ⟨?_,λv hv=>sc_mono (by rw[hnx];omega) v (hst.sc v hv),⟨?_,?_⟩,hrelW⟩
     ·have:=hst.tm.ag hst.sc hag hng
      exact ⟨this.sm,this.tm,this.gl⟩
     ·show marks Γ1 mk++ca.defers=marks Γ2 (mk++s.df)
      have e1:marks Γ2 (mk++s.df)=marks Γ2 mk++marks Γ2 s.df:=by simp[marks]
      rw[e1,hst.df.1,marks_ag hag2 hmk1,marks_ag hag hst.df.2]
     ·intro d hd
      simp only[List.mem_append] at hd
      rw[hnx]
      rcases hd with hd|hd
      ·have:=hmk1 d hd;omega
      ·have:=hst.df.2 d hd;omega
    have hbel:Below p.B w W:=(hbel1.trans hbel2).trans hfrW.below
    have hfin : ∀ (e0 : XExit), some (e0, ({ tm := s.tm, df := mk ++ s.df, h := putLoopA h2 l { r with state := .exhausted } } : S)) = some (e, s') →
      Q e0.con { ca with defers:=marks Γ1 mk++ca.defers } W:=λe0 h1=>by
     cases h1
     exact hQ _ _ Γ2 _ _ hlv hag (by rw[hnx];omega) hbel hstn
    refine ⟨_,_,hrunW,?_⟩
    split at he
    ·rename_i hp
     rw[hp]
     exact hfin _ he
    ·rename_i id hp
     rw[hp]
     exact wpIn_exit (hfin _ he)
    ·rename_i tt hp
     rw[hp]
     exact wpIn_goto (hfin _ he)
    ·rename_i hp
     rw[hp]
     exact wpIn_ret (hfin _ he)
    ·cases he
  ·cases he)
 refine ⟨Γ1.b l,marks Γ1 mk,w1,{ target:=.fn (.func f) ((⟨captured⟩:Array Value).map (con Γ1)),args:=#[Value.func (.yield (Γ1.b l)) #[] #[]] },w1,f,⟨(Value.func (.yield l) #[] #[] :: captured).map (con Γ1)⟩,w1,by rw[hro];exact hent1,?_,λf' _=>hF.fn f',?_,λhd=>(by rw[hF.depth] at hd;cases hd),?_⟩
 ·simp only[resolve]
  rw[hg0]
  simp[Deferred.ofValue,conFn,Act.eval]
 ·simp only[invoke]
  rw[hargs]
  exact hbd.1
 ·exact hbd2
end
end Go.Ev
namespace Go.Ev
open Go Go.RowKit
noncomputable section
theorem setE_some:∀ (off:Nat) (vs cs:List Value),off+vs.length≤cs.length→setE off vs cs=some (setFrom cs off vs):=by
 have h0:∀ (vs cs:List Value),vs.length≤cs.length→overE vs cs=some (setFrom cs 0 vs):=by
  intro vs
  induction vs with
  | nil=>intro cs _;simp[overE,setFrom]
  | cons v vs ih=>
   intro cs hl
   cases cs with
   | nil=>simp at hl
   | cons c cs=>
    have:=ih cs (by simpa using hl)
    show (Option.rec none (λx=>some (v :: x)) (overE vs cs):Option (List Value))=_
    rw[this]
    simp[setFrom]
 intro off
 induction off with
 | zero=>intro vs cs hl;exact h0 vs cs (by omega)
 | succ off ih=>
  intro vs cs hl
  cases cs with
  | nil=>simp at hl
  | cons c cs=>
   have:=ih vs cs (by simp at hl;omega)
   show (Option.rec none (λx=>some (c :: x)) (setE off vs cs):Option (List Value))=_
   rw[this]
   simp[setFrom,Nat.add_right_comm]
theorem takeN_some (cs:List Value)(off n:Nat)(hle:off+n≤cs.length):takeN cs off n=some ((cs.drop off).take n):=by
 have h1:∀ (k:Nat) (l:List Value),k≤l.length→takeE k l=some (l.take k):=by
  intro k
  induction k with
  | zero=>intro l _;rfl
  | succ k ih=>
   intro l hl
   cases l with
   | nil=>simp at hl
   | cons x l=>
    show (Option.rec none (λy=>some (x :: y)) (takeE k l):Option (List Value))=_
    rw[ih l (by simpa using hl)]
    rfl
 have h2:∀ (k:Nat) (l:List Value),k≤l.length→dropE k l=some (l.drop k):=by
  intro k
  induction k with
  | zero=>intro l _;rfl
  | succ k ih=>
   intro l hl
   cases l with
   | nil=>simp at hl
   | cons x l=>exact ih l (by simpa using hl)
 simp only[takeN,h2 off cs (by omega),h1 n (cs.drop off) (by simp;omega)]
def pickV (c a b:Value):Option Value:=match c with | .bool true=>some a | .bool false=>some b|_=>none
def extV (v:Value)(i:Nat):Option Value:=match v with | .tuple vs=>vs[i]?|_=>none
def unV (P:Program)(op:UnOp)(v:Value):Option Value:=pvF P (Op.unary op v) (flat v)
def fld (P:Program)(s:TypeId)(f:Nat):Option Nat:=match P.underlying s with
 | some (.struct fs)=>match fs[f]? with
  | some fl=>match szT P fl.type with
   | some (_+1)=>some fl.offset
   | _=>none
  | none=>none
 | _=>none
def faV (o:Option Nat)(v:Value):Option Value:=match o,v with
 | some o,.pointer (some a)=>some (.pointer (some (a.add o)))
 | _,_=>none
def partL (b:Bool)(n:Nat)(cs:List Value)(off:Nat):Option Value:=match b with
 | true=>if off+n≤cs.length then some (.agg ⟨(cs.drop off).take n⟩) else none
 | false=>cs[off]?
def knd (P:Program)(t:TypeId):Option (Bool×Nat):=match isAggT P t with
 | some true=>match szT P t with | some n=>some (true,n) | none=>none
 | some false=>some (false,0)
 | none=>none
theorem partL_eq {P:Program}{t:TypeId}{b:Bool}{n:Nat}{cs:List Value}{off:Nat}{v:Value}(hk:knd P t=some (b,n))(h:partL b n cs off=some v):partV P t cs off=some v:=by
 unfold knd at hk
 unfold partV
 split at hk
 ·rename_i ha
  split at hk<;>cases hk
  rename_i hs
  simp only[partL] at h
  split at h<;>cases h
  rename_i hle
  have ht:=takeN_some cs off n hle
  simp only[takeN] at ht
  rw[ha];simp only[hs]
  cases hd:dropE off cs with
  | none=>rw[hd] at ht;cases ht
  | some l=>rw[hd] at ht;simp only[ht]
 ·rename_i ha
  cases hk
  rw[ha];exact h
 ·cases hk
def fldT (P:Program)(s:TypeId)(f:Nat):Option (Bool×Nat×Nat):=match P.underlying s with
 | some (.struct fs)=>match fs[f]? with
  | some fl=>match knd P fl.type with
   | some (b,n)=>some (b,n,fl.offset)
   | none=>none
  | none=>none
 | _=>none
def fdV (f:Option (Bool×Nat×Nat))(v:Value):Option Value:=match f,v with
 | some (b,n,off),.agg cs=>partL b n cs.toList off
 | _,_=>none
def esz (P:Program)(t:TypeId):Option (Option Nat×Nat):=match P.underlying t with
 | some (.slice e)=>match szT P e with | some n=>some (none,n) | none=>none
 | some (.array len e)=>match szT P e with | some n=>some (some len,n) | none=>none
 | _=>none
def iaV (z:Option (Option Nat×Nat))(x i:Value):Option Value:=match z,x,i with
 | some (none,n),.slice (some a) len _,.int _ i=>if 0≤i∧i<len then some (.pointer (some (a.add (i.toNat*n)))) else none
 | some (some len,n),.pointer (some a),.int _ i=>if 0≤i∧i<len then some (.pointer (some (a.add (i.toNat*n)))) else none
 | _,_,_=>none
def ixT (P:Program)(t:TypeId):Option (Option (Bool×Nat×Nat×Nat)):=match P.underlying t with
 | some .string=>some none
 | some (.array len e)=>match knd P e,szT P e with
  | some (b,n),some z=>some (some (b,n,z,len))
  | _,_=>none
 | _=>none
def byteAt (s:ByteArray)(i:Nat):Int:=((s.data.toList.getD i 0).toNat:Int)
def ixV (z:Option (Option (Bool×Nat×Nat×Nat)))(x i:Value):Option Value:=match z,x,i with
 | some none,.string s,.int _ i=>if 0≤i∧i<s.size then some (.int .u8 (byteAt s i.toNat)) else none
 | some (some (b,n,z,len)),.agg cs,.int _ i=>if 0≤i∧i<len then partL b n cs.toList (i.toNat*z) else none
 | _,_,_=>none
def slV (P:Program)(t:TypeId)(x:Value)(lo hi mx:Option Value)(h:Heap):Option Value:=match x with
 | .string s=>pvF P (Instr.sliceAt t (.string s) lo hi mx) (lo.all flat&&hi.all flat&&mx.all flat)
 | .slice a n c=>match slicePure P t a n c lo hi mx with | some v=>some v | none=>match sliceRead P t a n c lo hi mx h with | some v=>some v | none=>sliceWide P t a n c lo hi mx h
 | .pointer (some a)=>sliceArr P t a lo hi mx
 | _=>none
def ncV (v:Value):Option Value:=match v with
 | .pointer (some a)=>some (.pointer (some a))
 | .func (.func g) f c=>some (.func (.func g) f c)
 | _=>none
def isI (P:Program)(t:TypeId):Option Bool:=match P.underlying t with
 | some (.interface _)=>some true
 | some _=>some false
 | none=>none
def miV (b:Option Bool)(t:TypeId)(v:Value):Option Value:=match b with|some false=>some (.iface t v)|_=>none
def lnT (P:Program)(t:TypeId):Option Bool:=match P.underlying t with
 | some .string=>some true
 | some (.slice _)=>some false
 | _=>none
def lnB (b:Option Bool)(v:Value):Option Value:=match b,v with
 | some true,.string s=>some (.int .i64 s.size)
 | some false,.slice _ n _=>some (.int .i64 n)
 | _,_=>none
def mnV (P:Program)(ts:Array TypeId)(t:TypeId)(l:List Value):Option Value:=pvF P (Builtin.min_ ts t ⟨l⟩) (flatL l)
def mxV (P:Program)(ts:Array TypeId)(t:TypeId)(l:List Value):Option Value:=pvF P (Builtin.max_ ts t ⟨l⟩) (flatL l)
def plc (P:Program)(t:TypeId):Option (List (Nat×Nat)×List Value):=match P.info? t with
 | none=>none
 | some i=>match i.zero with
  | none=>none
  | some z=>match flat z,P.underlying t with
   | true,some (.struct fs)=>match placesOf P fs.toList with
    | some pl=>some (pl,z.cells.toList)
    | none=>none
   | true,some (.array len e)=>match szT P e with
    | some n=>some ((List.range len).map (λi=>(i*n,n)),z.cells.toList)
    | none=>none
   | _,_=>none
def fillP (pl:List (Nat×Nat)):List Value→List (Nat×Value)→Option (List Value)
 | cs,[]=>some cs
 | cs,(i,v) :: rest=>match pl[i]? with
  | some (off,n)=>if v.cells.toList.length=n∧off+n≤cs.length then fillP pl (setFrom cs off v.cells.toList) rest else none
  | none=>none
def bdV (z:Option (List (Nat×Nat)×List Value))(parts:List (Nat×Value)):Option Value:=match z with
 | some (pl,cs)=>match fillP pl cs parts with
  | some cs'=>some (.agg ⟨cs'⟩)
  | none=>none
 | none=>none
theorem fillP_eq {place:Nat→Option (Nat×Nat)}{pl:List (Nat×Nat)}(hp:∀ i x,pl[i]?=some x→place i=some x):∀ (parts:List (Nat×Value)) (cs cs':List Value),
  fillP pl cs parts=some cs'→fillL place cs parts=some cs'
 | [],cs,cs',h=>h
 | (i,v) :: rest,cs,cs',h=>by
  simp only[fillP] at h
  split at h
  ·rename_i off n hx
   split at h
   ·rename_i hc
    have hs:=setE_some off v.cells.toList cs (by omega)
    have hb:Nat.beq v.cells.size n=true:=by
     rw[Nat.beq_eq];simpa using hc.1
    simp only[fillL,hp i _ hx,hb,hs]
    exact fillP_eq hp rest _ cs' h
   ·cases h
  ·cases h
theorem bdV_eq {P:Program}{t:TypeId}{parts:List (Nat×Value)}{v:Value}(h:bdV (plc P t) parts=some v):buildV P t parts=some v:=by
 unfold bdV plc at h
 unfold buildV
 cases hi:P.info? t with
 | none=>rw[hi] at h;cases h
 | some i=>
  rw[hi] at h
  dsimp only at h ⊢
  cases hz:i.zero with
  | none=>rw[hz] at h;cases h
  | some z=>
   rw[hz] at h
   dsimp only at h ⊢
   cases hf:flat z with
   | false=>rw[hf] at h;cases h
   | true=>
    rw[hf] at h
    cases hu:P.underlying t with
    | none=>rw[hu] at h;cases h
    | some d=>
     rw[hu] at h
     cases d with
     | struct fs=>
      dsimp only at h ⊢
      cases hp:placesOf P fs.toList with
      | none=>rw[hp] at h;cases h
      | some pl=>
       rw[hp] at h
       dsimp only at h ⊢
       split at h<;>cases h
       rename_i cs' hc
       rw[fillP_eq (place:=λi=>pl[i]?) (λi x hx=>hx) _ _ _ hc]
     | array len e=>
      dsimp only at h ⊢
      cases hs:szT P e with
      | none=>rw[hs] at h;cases h
      | some n=>
       rw[hs] at h
       dsimp only at h ⊢
       split at h<;>cases h
       rename_i cs' hc
       rw[fillP_eq (place:=λi=>some (i*n,n)) (λi x hx=>by
        rw[List.getElem?_map] at hx
        cases hr:(List.range len)[i]? with
        | none=>rw[hr] at hx;cases hx
        | some j=>
         rw[hr] at hx
         obtain ⟨_,hj⟩:=List.getElem?_eq_some_iff.1 hr
         simp at hj
         subst hj
         simpa using hx) _ _ _ hc]
     | _=>cases h
def btS (P : Program) (s d : TypeId) (x : Value) (h : Heap) : Option Value := match P.underlying s, P.underlying d, x with
  | some (.slice e),some .string,.slice none _ _=>match P.underlying e with
   | some (.int .u8)=>some (.string .empty)
   | _=>none
  | some (.slice e),some .string,.slice (some _) 0 _=>match P.underlying e with
   | some (.int .u8)=>some (.string .empty)
   | _=>none
  | some (.slice e),some .string,.slice (some ⟨g,off,none⟩) n _=>match P.underlying e,cells h g with
   | some (.int .u8),some (cs,_,_)=>match takeN cs off n with
    | some l=>match bytesOf l with
     | some l=>some (.string ⟨⟨l⟩⟩)
     | none=>none
    | none=>none
   | _,_=>none
  | _,_,_=>none
def cvP (P:Program)(s d:TypeId)(v:Value):Option Value:=pvF P (convert s d v) (flat v)
def cvV (P:Program)(s d:TypeId)(v:Value)(h:Heap):Option Value:=match cvP P s d v with|some u=>some u|none=>btS P s d v h
def bare (o : Op) (t : TypeId) : Oper := ⟨none, o, t, "", #[], none⟩
def tp (P:Program)(o:Op)(t:TypeId)(tm:VT):Option Value:=match o with
 | .move x=>some (ev tm x)
 | .assign x=>some (ev tm x)
 | .pick c a b=>pickV (ev tm c) (ev tm a) (ev tm b)
 | .extract x i=>extV (ev tm x) i
 | .binOp op ty x y _=>binPure P op ty x y (ev tm x) (ev tm y)
 | .unOp op _ x=>unV P op (ev tm x)
 | .fieldAddr s x f=>faV (fld P s f) (ev tm x)
 | .field s x f=>fdV (fldT P s f) (ev tm x)
 | .indexAddr s x i=>iaV (esz P s) (ev tm x) (ev tm i)
 | .index s x i=>ixV (ixT P s) (ev tm x) (ev tm i)
 | .build ty parts=>bdV (plc P ty) (parts.toList.map λx=>(x.1,ev tm x.2))
 | .makeFunc (.func g) f c=>some (.func (.func g) ⟨f.toList.map (ev tm)⟩ ⟨c.toList.map (ev tm)⟩)
 | .makeInterface ty x=>miV (isI P ty) ty (ev tm x)
 | .nilCheck x=>ncV (ev tm x)
 | .call ⟨.builtin .len,⟨[x]⟩,⟨[ty]⟩⟩=>lnB (lnT P ty) (ev tm x)
 | .call ⟨.builtin .min,args,ts⟩=>mnV P ts t (args.toList.map (ev tm))
 | .call ⟨.builtin .max,args,ts⟩=>mxV P ts t (args.toList.map (ev tm))
 | _=>none
def tv (P:Program)(o:Op)(t:TypeId)(tm:VT)(h:Heap):Option Value:=match o with
 | .load ty a=>evLoad P ty (ev tm a) h
 | .slice ty x lo hi mx=>slV P ty (ev tm x) (lo.map (ev tm)) (hi.map (ev tm)) (mx.map (ev tm)) h
 | .convert s d x=>cvV P s d (ev tm x) h
 | .lookup ty x i ok=>lookRead P ty (ev tm x) (ev tm i) ok h
 | .entry it=>entryRead (ev tm it) h
 | o=>tp P o t tm
def tailV (P:Program)(t:TypeId)(x:Value)(lo hi mx:Option Value)(h:Heap):Option (Value×Value):=match x,mx with
 | .slice (some ⟨b,off,none⟩) len cap,none=>match P.underlying t,cells h b with
  | some (.slice e),some (cs,e',true)=>match szT P e with
   | some size=>match bounds len len none hi lo with
    | some (l, h', _) => if e' = e ∧ UC ≤ cap ∧ off = (cap - UC) * size ∧ 0 < size ∧ off + len * size ≤ cs.length ∧ l = len ∧ h' = len ∧ len < U then
      some (.slice (some ⟨b,off,none⟩) 0 0,.slice (some ⟨b,off+len*size,none⟩) 0 (cap+len)) else none
    | none=>none
   | none=>none
  | _,_=>none
 | _,_=>none
def tw (P:Program)(o:Op)(tm:VT)(h:Heap):Option (Value×Value):=match o with
 | .slice ty x lo hi mx=>tailV P ty (ev tm x) (lo.map (ev tm)) (hi.map (ev tm)) (mx.map (ev tm)) h
 | _=>none
theorem slice_run {P:Program}{w:World}{t e:TypeId}{a:Option Addr}{len cap size l h m:Nat}{lo hi mx:Option Value}(hu:P.underlying t=some (.slice e))(hs:szT P e=some size)
  (hbr:(Instr.sliceBounds true len cap lo hi mx).run P w=.ok (l,h,m) w) :
  (Instr.sliceAt t (.slice a len cap) lo hi mx).run P w=.ok (.slice (if m=l then a else a.map (·.add (l*size))) (h-l) (m-l)) w:=by
 simp only[Instr.sliceAt,Instr.slice,Sem.run_bind,run_under hu,Result.andThen_ok,hbr,run_size hs,Sem.run_pure]
theorem tail_fin {g off l K h' size:Nat}{w:World}(q:Bool)(hq:q=true↔K=l)(h7:h'=l) :
  (Result.ok (.slice (if (Option.none:Option Nat).getD K=l then some ⟨g,off,none⟩ else (some (⟨g,off,none⟩:Addr)).map (·.add (l*size))) (h'-l) ((Option.none:Option Nat).getD K-l)) w:Result Value) =
  .ok (if q=true then .slice (some ⟨g,off,none⟩) 0 0 else .slice (some ⟨g,off+l*size,none⟩) 0 (K-l)) w:=by
 subst h7
 simp only[Option.getD_none,Option.map_some,addr_add]
 cases q with
 | true=>
  have hq:K=h':=hq.1 rfl
  simp[hq]
 | false=>
  have hq:¬ K=h':=λe=>by have:=hq.2 e;cases this
  simp[hq]
theorem tailV_key {p:Par}{t:TypeId}{x:Value}{lo hi mx:Option Value}{v1 v2:Value}{Γ:Gam}{h:Heap}{w:World}(hr:HRel p Γ h w)(he:tailV p.P t x lo hi mx h=some (v1,v2)) :
  ∃ g off len cap,x=.slice (some ⟨g,off,none⟩) len cap∧g<h.next∧
   ∀ q:Bool,(q=true↔Γ.k g-(cap-UC)=len)→(Instr.sliceAt t (con Γ x) (lo.map (con Γ)) (hi.map (con Γ)) (mx.map (con Γ))).run p.P w=.ok (con Γ (if q then v1 else v2)) w:=by
 unfold tailV at he
 split at he
 ·rename_i b off len cap
  split at he
  ·rename_i e cs e' hu hc
   split at he
   ·rename_i size hs
    split at he
    ·rename_i l h' m hbd
     split at he<;>cases he
     rename_i hcond
     obtain ⟨h1,h2,h3,h4,h5,h6,h7,h8⟩:=hcond
     subst h1 h6
     refine ⟨b,off,l,cap,rfl,?_⟩
     obtain ⟨hlt,rest,fr,hrow⟩:=hr.row hc (hr.m_own hc)
     refine ⟨hlt,?_⟩
     obtain ⟨ti,hti,hk⟩:=hrow.more rfl
     have hsz:ti.size=size:=by
      unfold szT at hs;rw[hti] at hs;simpa using hs
     rw[hsz] at hk
     have hcap:l≤Γ.k b-(cap-UC):=by
      have:(cap-UC+l)*size≤Γ.k b*size:=by
       rw[Nat.add_mul,← h3];omega
      have:=Nat.le_of_mul_le_mul_right this h4
      omega
     have hnot:¬ cap<UC:=by omega
     have hbr:=bounds_run (P:=p.P) (w:=w) Γ true hbd hcap
     have hm:m=none:=by
      rcases (bounds_key hbd).1 with ⟨_,h0⟩|⟨k,mm',h9,h0,hle⟩
      ·exact h0
      ·cases h9
     subst hm
     have hnk:¬ (cap+l<UC):=by omega
     have hsub:Γ.k b-(cap+l-UC)=Γ.k b-(cap-UC)-l:=by
      generalize UC=u at h2 ⊢
      omega
     have hcon:con Γ (.slice (some ⟨b,off,none⟩) l cap)=.slice (some ⟨Γ.b b,off,none⟩) l (Γ.k b-(cap-UC)):=by
      simp only[con,conCap,if_neg hnot,conA]
     have hcon1:con Γ (.slice (some ⟨b,off,none⟩) 0 0)=.slice (some ⟨Γ.b b,off,none⟩) 0 0:=by
      simp only[con,conCap,if_pos UC_pos,conA]
     have hcon2:con Γ (.slice (some ⟨b,off+l*size,none⟩) 0 (cap+l))=.slice (some ⟨Γ.b b,off+l*size,none⟩) 0 (Γ.k b-(cap-UC)-l):=by
      simp only[con,conCap,if_neg hnk,conA,hsub]
     intro q hq
     rw[hcon]
     have hif : con Γ (if q = true then Value.slice (some ⟨b, off, none⟩) 0 0 else .slice (some ⟨b, off + l * size, none⟩) 0 (cap + l)) =
       if q=true then .slice (some ⟨Γ.b b,off,none⟩) 0 0 else .slice (some ⟨Γ.b b,off+l*size,none⟩) 0 (Γ.k b-(cap-UC)-l):=by
      cases q
      ·exact hcon2
      ·exact hcon1
     rw[hif]
     clear hcon hcon1 hcon2 hif hsub
     generalize Γ.k b-(cap-UC)=K at hbr hcap hq ⊢
     rw[slice_run hu hs hbr]
     exact tail_fin q hq h7
    ·cases he
   ·cases he
  ·cases he
 ·cases he
theorem tailV_run {p:Par}{Γ:Gam}{h:Heap}{w:World}(hr:HRel p Γ h w){t:TypeId}{x:Value}{lo hi mx:Option Value}{v1 v2:Value}(he:tailV p.P t x lo hi mx h=some (v1,v2)) :
  ∃ b:Bool,∀ Γ' h' w',Ag Γ Γ' h.next→HRel p Γ' h' w'→tailV p.P t x lo hi mx h'=some (v1,v2)→
   (Instr.sliceAt t (con Γ' x) (lo.map (con Γ')) (hi.map (con Γ')) (mx.map (con Γ'))).run p.P w'=.ok (con Γ' (if b then v1 else v2)) w':=by
 obtain ⟨g,off,len,cap,hx,hg,_⟩:=tailV_key hr he
 obtain ⟨q,hq⟩:∃ q:Bool,q=true↔Γ.k g-(cap-UC)=len:=by
  by_cases hc:Γ.k g-(cap-UC)=len
  ·exact ⟨true,⟨λ_=>hc,λ_=>rfl⟩⟩
  ·exact ⟨false,⟨(λe=>by cases e),λe=>absurd e hc⟩⟩
 refine ⟨q,λΓ' h' w' hag hr' he'=>?_⟩
 obtain ⟨g',off',len',cap',hx',hg',hrun⟩:=tailV_key hr' he'
 rw[hx] at hx'
 simp only[Value.slice.injEq,Option.some.injEq,Addr.mk.injEq] at hx'
 obtain ⟨⟨rfl,rfl,_⟩,rfl,rfl⟩:=hx'
 rw[hag.k g hg] at hrun
 exact hrun q hq
theorem tailV_sc {P:Program}{n:Nat}{t:TypeId}{x:Value}{lo hi mx:Option Value}{h:Heap}{v1 v2:Value}(hx:sc n x=true)(he:tailV P t x lo hi mx h=some (v1,v2)):sc n v1=true∧sc n v2=true:=by
 unfold tailV at he
 split at he
 ·split at he
  ·split at he
   ·split at he
    ·split at he<;>cases he
     exact ⟨hx,hx⟩
    ·cases he
   ·cases he
  ·cases he
 ·cases he
theorem blt_of {i n:Nat}(h:(i:Int)<n):Nat.blt i n=true:=by simp;omega
theorem tp_sound {P:Program}{o:Op}{t:TypeId}{tm:VT}{v:Value}(h:tp P o t tm=some v):evPure P (bare o t) tm=some v:=by
 unfold tp at h
 split at h
 ·exact h
 ·exact h
 ·exact h
 ·exact h
 ·exact h
 ·exact h
 ·rename_i s x f
  simp only[bare,evPure]
  unfold faV fld at h
  cases hu:P.underlying s with
  | none=>rw[hu] at h;cases h
  | some d=>
   rw[hu] at h
   cases d with
   | struct fs=>
    dsimp only at h ⊢
    cases hf:fs[f]? with
    | none=>rw[hf] at h;cases h
    | some fl=>
     rw[hf] at h
     dsimp only at h ⊢
     cases hs:szT P fl.type with
     | none=>rw[hs] at h;cases h
     | some n=>
      rw[hs] at h
      cases n with
      | zero=>cases h
      | succ n=>
       dsimp only at h
       split at h
       ·rename_i h1 h2
        cases h1
        cases h
        rw[h2]
        simp only[hf,hs]
       ·cases h
   | _=>cases h
 ·rename_i s x f
  simp only[bare,evPure]
  unfold fdV fldT at h
  cases hu:P.underlying s with
  | none=>rw[hu] at h;cases h
  | some d=>
   rw[hu] at h
   cases d with
   | struct fs=>
    dsimp only at h ⊢
    cases hf:fs[f]? with
    | none=>rw[hf] at h;cases h
    | some fl=>
     rw[hf] at h
     dsimp only at h ⊢
     cases hs:knd P fl.type with
     | none=>rw[hs] at h;cases h
     | some bn=>
      obtain ⟨b,n⟩:=bn
      rw[hs] at h
      dsimp only at h
      split at h
      ·rename_i h1 h2
       cases h1
       rw[h2]
       simp only[hf]
       exact partL_eq hs h
      ·cases h
   | _=>cases h
 ·rename_i s x i
  simp only[bare,evPure]
  unfold iaV esz at h
  cases hu:P.underlying s with
  | none=>rw[hu] at h;cases h
  | some d=>
   rw[hu] at h
   cases d with
   | slice e=>
    dsimp only at h ⊢
    cases hs:szT P e with
    | none=>rw[hs] at h;cases h
    | some n=>
     rw[hs] at h
     dsimp only at h
     split at h
     ·rename_i h1 h2 h3
      cases h1
      split at h<;>cases h
      rename_i hc
      obtain ⟨j,rfl⟩:=Int.eq_ofNat_of_zero_le hc.1
      have hc2:=hc.2
      rw[h2,h3]
      show (match Nat.blt j _,szT P e with|true,some size=>_|_,_=>none)=_
      rw[blt_of hc2,hs]
      rfl
     ·rename_i h1 _ _;cases h1
     ·cases h
   | array len e=>
    dsimp only at h ⊢
    cases hs:szT P e with
    | none=>rw[hs] at h;cases h
    | some n=>
     rw[hs] at h
     dsimp only at h
     split at h
     ·rename_i h1 _ _;cases h1
     ·rename_i h1 h2 h3
      cases h1
      split at h<;>cases h
      rename_i hc
      obtain ⟨j,rfl⟩:=Int.eq_ofNat_of_zero_le hc.1
      have hc2:=hc.2
      rw[h2,h3]
      show (match Nat.blt j _,szT P e with|true,some size=>_|_,_=>none)=_
      rw[blt_of hc2,hs]
      rfl
     ·cases h
   | _=>cases h
 ·rename_i s x i
  simp only[bare,evPure]
  unfold ixV ixT at h
  cases hu:P.underlying s with
  | none=>rw[hu] at h;cases h
  | some d=>
   rw[hu] at h
   cases d with
   | string=>
    dsimp only at h
    split at h
    ·rename_i s' k i' h1 h2 h3
     split at h<;>cases h
     rename_i hc
     obtain ⟨j,rfl⟩:=Int.eq_ofNat_of_zero_le hc.1
     rw[h2,h3]
     have hj:j<s'.size:=by have:=hc.2;omega
     have hb:s'[j]?=some s'[j]:=getElem?_pos s' j hj
     have hg:s'.data.toList.getD j 0=s'[j]:=by
      have hj':j<s'.data.toList.length:=by rw[Array.length_toList];exact hj
      rw[List.getD_eq_getElem?_getD,List.getElem?_eq_getElem hj']
      rfl
     have hpv:∀ {α β:Type} (f:α→Sem β) (s:Sem α),pv P (s >>= f)=(pv P s).bind (λa=>pv P (f a)):=by
      intro α β f s
      show pv P (Sem.bind s f)=_
      induction s with
      | pure a=>rfl
      | program k ih=>exact ih P
      | mark m k ih=>exact ih
      | _=>rfl
     have hpu:pv P (underlying s)=some .string:=by
      simp only[underlying,hpv]
      simp only[program,pv,Option.bind_some,hu]
      rfl
     have hpp:∀ {α:Type} (a:α),pv P (pure a:Sem α)=some a:=λa=>rfl
     have hj0:(0:Int)≤(j:Int):=hc.1
     simp only[pvF,Instr.index,asIntOf,hpv,hpp,hpu,Option.bind_some,if_pos hj0,Int.toNat_natCast,hb,byteAt,hg,flat]
    ·rename_i h1 _ _;cases h1
    ·cases h
   | array len e=>
    dsimp only at h
    cases hk:knd P e with
    | none=>rw[hk] at h;cases h
    | some bn=>
     obtain ⟨b,n⟩:=bn
     rw[hk] at h
     cases hs:szT P e with
     | none=>rw[hs] at h;cases h
     | some z=>
      rw[hs] at h
      dsimp only at h
      split at h
      ·rename_i h1 _ _;cases h1
      ·rename_i h1 h2 h3
       cases h1
       split at h
       ·rename_i hc
        obtain ⟨j,rfl⟩:=Int.eq_ofNat_of_zero_le hc.1
        have hc2:=hc.2
        rw[h2,h3]
        show (match Nat.blt j len, szT P e with
          | true,some size=>partV P e _ (j*size)
          | _,_=>none)=_
        simp only[blt_of hc2,hs]
        exact partL_eq hk h
       ·cases h
      ·cases h
   | _=>cases h
 ·exact bdV_eq h
 ·rename_i g f c
  cases h
  simp only[bare,evPure]
  congr 2
  ·exact Array.ext' (by simp)
  ·exact Array.ext' (by simp)
 ·rename_i ty x
  simp only[bare,evPure]
  unfold miV isI at h
  cases hu:P.underlying ty with
  | none=>rw[hu] at h;cases h
  | some d=>
   rw[hu] at h
   cases d<;>first|exact h|(cases h;done)
 ·exact h
 ·rename_i x ty
  unfold lnB lnT at h
  show (match P.underlying ty,ev tm x with
   | some .string,.string s=>some (goInt s.size)
   | some (.slice _),.slice _ n _=>some (goInt n)
   | _,_=>none)=_
  cases hu:P.underlying ty with
  | none=>rw[hu] at h;cases h
  | some d=>
   rw[hu] at h
   cases d with
   | string=>
    dsimp only at h
    split at h
    ·rename_i h2;rw[h2];exact h
    ·rename_i h1 _;cases h1
    ·cases h
   | slice e=>
    dsimp only at h
    split at h
    ·rename_i h1 _;cases h1
    ·rename_i h2;rw[h2];exact h
    ·cases h
   | _=>cases h
 ·rename_i args ts
  have:(⟨args.toList.map (ev tm)⟩:Array Value)=args.map (ev tm):=Array.ext' (by simp)
  show pvF P (Builtin.min_ ts t (args.map (ev tm))) (flatL (args.map (ev tm)).toList)=_
  rw[← this];exact h
 ·rename_i args ts
  have:(⟨args.toList.map (ev tm)⟩:Array Value)=args.map (ev tm):=Array.ext' (by simp)
  show pvF P (Builtin.max_ ts t (args.map (ev tm))) (flatL (args.map (ev tm)).toList)=_
  rw[← this];exact h
 ·cases h
theorem tv_sound {P:Program}{o:Op}{t:TypeId}{tm:VT}{h:Heap}{v:Value}(he:tv P o t tm h=some v):evPure P (bare o t) tm=some v∨evRead P (bare o t) tm h=some v:=by
 unfold tv at he
 split at he
 ·exact .inr he
 ·rename_i ty x lo hi mx
  unfold slV at he
  simp only[bare,evPure,evRead]
  split at he
  ·rename_i s hx;left;rw[hx];exact he
  ·rename_i a n c hx
   rw[hx]
   split at he
   ·rename_i u hu;cases he;left;exact hu
   ·right;exact he
  ·rename_i a hx;left;rw[hx];exact he
  ·cases he
 ·rename_i s d x
  unfold cvV at he
  split at he
  ·rename_i u hu;cases he;exact .inl hu
  ·exact .inr he
 ·exact .inr he
 ·exact .inr he
 ·exact .inl (tp_sound he)
def Heap.add (h:Heap)(x:AObj):Heap:=(h.new x).2
def O (cs:List Value)(e:TypeId)(m:Bool):AObj:=⟨.cells ⟨cs⟩ e,m⟩
theorem mkRow_eq {h:Heap}{e:TypeId}{cs:List Value}{m:Bool}(hf:foneL h.next cs=true):mkRow h e cs m=some (h.next,h.add (O cs e m)):=by
 unfold mkRow Heap.add O
 rw[hf]
 rw[Heap.new_eq]
def zro (P:Program)(e:TypeId):Option (List Value):=match zeroOf P e with
 | some z=>match flat z with
  | true=>match foneL 0 z.cells.toList with
   | true=>some z.cells.toList
   | false=>none
  | false=>none
 | none=>none
theorem foneL_mono {n m:Nat}(hle:n≤m){l:List Value}(h:foneL n l=true):foneL m l=true:=by
 simp only[foneL_eq,Bool.and_eq_true] at h ⊢
 exact ⟨h.1,scL_of_all λv hv=>sc_mono hle v (scL_all h.2 v hv)⟩
def alE (z:Option (List Value))(e:TypeId)(h:Heap):Option (Value×Heap):=match z with
 | some cs=>some (.pointer (some ⟨h.next,0,none⟩),h.add (O cs e false))
 | none=>none
def bxE (e:TypeId)(v:Value)(h:Heap):Option (Value×Heap):=if foneL h.next v.cells.toList=true then some (.pointer (some ⟨h.next,0,none⟩),h.add (O v.cells.toList e false)) else none
def slT (P:Program)(t:TypeId):Option (TypeId×Nat×List Value):=match P.underlying t with
 | some (.slice e)=>match P.info? e with
  | some i=>match i.zero with
   | some z=>match Nat.beq z.cells.size i.size&&Nat.blt 0 i.size&&flatL z.cells.toList&&foneL 0 z.cells.toList with
    | true=>some (e,i.size,z.cells.toList)
    | false=>none
   | none=>none
  | none=>none
 | _=>none
def bsE (z:Option (TypeId×Nat×List Value))(len:Nat)(parts:List (Nat×Value))(h:Heap):Option (Value×Heap):=match z with
 | some (e, n, zs) => if len * n ≤ 16777216 then
   match fillP ((List.range len).map (λi=>(i*n,n))) (List.replicate len zs).flatten parts with
   | some cs=>if foneL h.next cs=true then some (.slice (some ⟨h.next,0,none⟩) len len,h.add (O cs e false)) else none
   | none=>none
  else none
 | none=>none
def stE (n:Option Nat)(a v:Value)(h:Heap):Option (Value×Heap):=match n,a with
 | some n,.pointer (some ⟨b,off,none⟩)=>match cells h b with
  | some (cs,e,m)=>if v.cells.toList.length=n∧foneL h.next v.cells.toList=true∧h.lo≤b∧off+n≤cs.length then some (undef,h.put b (O (setFrom cs off v.cells.toList) e m)) else none
  | none=>none
 | _,_=>none
def mkT (P:Program)(t:TypeId):Option (TypeId×Nat×Nat×List Value):=match P.underlying t with
 | some (.slice e)=>match P.info? e with
  | some i=>match i.zero with
   | some z=>match Nat.beq z.cells.size i.size&&Nat.blt 0 i.size&&flatL z.cells.toList&&foneL 0 z.cells.toList with
    | true=>some (e,i.size,i.bytes,z.cells.toList)
    | false=>none
   | none=>none
  | none=>none
 | _=>none
def msE (z:Option (TypeId×Nat×Nat×List Value))(l c:Value)(h:Heap):Option (Value×Heap):=match z,l,c with
 | some (e, _, by_, zs), .int _ l, .int _ c => if 0 ≤ l ∧ l ≤ c ∧ c * by_ + c < 100000000000000 then
   some (.slice (some ⟨h.next,0,none⟩) l.toNat c.toNat,h.add (O (List.replicate c.toNat zs).flatten e false)) else none
 | _,_,_=>none
def te (P:Program)(o:Op)(t:TypeId)(tm:VT)(h:Heap):Option (Value×Heap):=match o with
 | .alloc e=>alE (zro P e) e h
 | .box e x=>bxE e (ev tm x) h
 | .buildSlice ty len parts=>bsE (slT P ty) len (parts.toList.map λx=>(x.1,ev tm x.2)) h
 | .store ty a x=>stE (szT P ty) (ev tm a) (ev tm x) h
 | .makeSlice ty l c=>msE (mkT P ty) (ev tm l) (ev tm c) h
 | .call ⟨.builtin .append,⟨[s,x]⟩,⟨[sT,xT]⟩⟩=>evAppend P sT xT (ev tm s) (ev tm x) h
 | o=>evEff P (bare o t) tm h
theorem foneL_flat_rep {zs:List Value}(n:Nat)(hz:foneL 0 zs=true)(m:Nat):foneL m (List.replicate n zs).flatten=true:=by
 have h:=foneL_mono (Nat.zero_le m) hz
 simp only[foneL_eq,Bool.and_eq_true,List.all_eq_true] at h ⊢
 have hall:∀ v∈(List.replicate n zs).flatten,v∈zs:=λv hv=>by
  simp only[List.mem_flatten] at hv
  obtain ⟨l,hl,hv⟩:=hv
  rw[(List.mem_replicate.1 hl).2] at hv
  exact hv
 exact ⟨λv hv=>h.1 v (hall v hv),scL_of_all λv hv=>scL_all h.2 v (hall v hv)⟩
theorem te_sound {P:Program}{o:Op}{t:TypeId}{tm:VT}{h h':Heap}{v:Value}(he:te P o t tm h=some (v,h')):evEff P (bare o t) tm h=some (v,h'):=by
 unfold te at he
 split at he
 ·rename_i e
  unfold alE zro at he
  simp only[bare,evEff]
  cases hz:zeroOf P e with
  | none=>rw[hz] at he;cases he
  | some z=>
   rw[hz] at he
   dsimp only at he ⊢
   cases hf:flat z with
   | false=>rw[hf] at he;cases he
   | true=>
    rw[hf] at he
    dsimp only at he ⊢
    cases ho:foneL 0 z.cells.toList with
    | false=>rw[ho] at he;cases he
    | true=>
     rw[ho] at he
     cases he
     rw[mkRow_eq (foneL_mono (Nat.zero_le _) ho)]
 ·rename_i e x
  unfold bxE at he
  split at he<;>cases he
  rename_i ho
  simp only[bare,evEff,mkRow_eq ho]
 ·rename_i ty len parts
  unfold bsE slT at he
  simp only[bare,evEff]
  cases hu:P.underlying ty with
  | none=>rw[hu] at he;cases he
  | some d=>
   rw[hu] at he
   cases d with
   | slice e=>
    dsimp only at he ⊢
    cases hi:P.info? e with
    | none=>rw[hi] at he;cases he
    | some i=>
     rw[hi] at he
     dsimp only at he ⊢
     cases hz:i.zero with
     | none=>rw[hz] at he;cases he
     | some z=>
      rw[hz] at he
      dsimp only at he ⊢
      cases hb:Nat.beq z.cells.size i.size&&Nat.blt 0 i.size&&flatL z.cells.toList&&foneL 0 z.cells.toList with
      | false=>rw[hb] at he;cases he
      | true=>
       rw[hb] at he
       dsimp only at he
       simp only[Bool.and_eq_true] at hb
       split at he
       ·rename_i hle
        split at he
        ·rename_i cs hc
         split at he<;>cases he
         rename_i ho
         have hle':Nat.ble (len*i.size) 16777216=true:=by simpa using hle
         have hb':(Nat.beq z.cells.size i.size&&Nat.blt 0 i.size&&flatL z.cells.toList)=true:=by simp only[Bool.and_eq_true];exact hb.1
         rw[hle']
         simp only[hb']
         rw[show (parts.toList.map λ(x:Nat×Operand)=>(x.1,ev tm x.2))=(parts.toList.map λ(j,x)=>(j,ev tm x)) from rfl] at hc
         rw[fillP_eq (place:=λj=>some (j*i.size,i.size)) (λj x hx=>by
          rw[List.getElem?_map] at hx
          cases hr:(List.range len)[j]? with
          | none=>rw[hr] at hx;cases hx
          | some k=>
           rw[hr] at hx
           obtain ⟨_,hj⟩:=List.getElem?_eq_some_iff.1 hr
           simp at hj
           subst hj
           simpa using hx) _ _ _ hc]
         simp only[mkRow_eq ho]
        ·cases he
       ·cases he
   | _=>cases he
 ·rename_i ty a x
  unfold stE at he
  simp only[bare,evEff,evStore]
  split at he
  ·rename_i n b off hn ha
   rw[ha]
   dsimp only
   split at he
   ·rename_i cs e m hc
    split at he<;>cases he
    rename_i hcond
    obtain ⟨h1,h2,h3,h4⟩:=hcond
    rw[hc]
    simp only[hn]
    have hb:(Nat.beq (ev tm x).cells.size n&&foneL h.next (ev tm x).cells.toList&&Nat.ble h.lo b)=true:=by
     simp only[Bool.and_eq_true,Nat.beq_eq,Nat.ble_eq]
     exact ⟨⟨by simpa using h1,h2⟩,h3⟩
    rw[hb]
    have hs:=setE_some off (ev tm x).cells.toList cs (by omega)
    simp only[setN,hs]
    rfl
   ·cases he
  ·cases he
 ·rename_i ty l c
  unfold msE mkT at he
  simp only[bare,evEff,evMake]
  cases hu:P.underlying ty with
  | none=>rw[hu] at he;cases he
  | some d=>
   rw[hu] at he
   cases d with
   | slice e=>
    dsimp only at he ⊢
    cases hi:P.info? e with
    | none=>rw[hi] at he;cases he
    | some i=>
     rw[hi] at he
     dsimp only at he
     cases hz:i.zero with
     | none=>rw[hz] at he;cases he
     | some z=>
      rw[hz] at he
      dsimp only at he
      cases hb:Nat.beq z.cells.size i.size&&Nat.blt 0 i.size&&flatL z.cells.toList&&foneL 0 z.cells.toList with
      | false=>rw[hb] at he;cases he
      | true=>
       rw[hb] at he
       dsimp only at he
       simp only[Bool.and_eq_true] at hb
       split at he
       ·rename_i h1 h2 h3
        cases h1
        split at he<;>cases he
        rename_i hc
        obtain ⟨hl,hlc,hlim⟩:=hc
        obtain ⟨l',rfl⟩:=Int.eq_ofNat_of_zero_le hl
        obtain ⟨c',rfl⟩:=Int.eq_ofNat_of_zero_le (Int.le_trans hl hlc)
        rw[h2,h3]
        have hb':(Nat.beq z.cells.size i.size&&Nat.blt 0 i.size&&flatL z.cells.toList)=true:=by simp only[Bool.and_eq_true];exact hb.1
        have hc':(Nat.ble l' c'&&Nat.blt (c'*i.bytes+c') U)=true:=by
         simp only[Bool.and_eq_true,Nat.ble_eq,Nat.blt_eq]
         refine ⟨by omega,?_⟩
         have:((c'*i.bytes+c':Nat):Int)<100000000000000:=by rw[Int.natCast_add,Int.natCast_mul];exact hlim
         unfold U
         omega
        show (match P.info? e with
         | some i=>match Nat.ble l' c'&&Nat.blt (c'*i.bytes+c') U,i.zero with
          | true,some z=>match Nat.beq z.cells.size i.size&&Nat.blt 0 i.size&&flatL z.cells.toList with
           | true=>match mkRow h e (List.replicate c' z.cells.toList).flatten false with
            | some (b,h')=>some (Value.slice (some ⟨b,0,none⟩) l' c',h')
            | none=>none
           | false=>none
          | _,_=>none
         | none=>none)=_
        rw[hi]
        simp only[hc',hz,hb',mkRow_eq (foneL_flat_rep c' hb.2 h.next),Int.toNat_natCast]
       ·cases he
   | _=>cases he
 ·exact he
 ·exact he
end
end Go.Ev
