/-
  A part of the proof: conditions over an abstract memory,and that they are enough for what the model's calls do. No condition of its own.
-/
import Derived.Test.YtejgmoenmbjidaaEva
import Derived.RangeFuncRecord
set_option linter.unusedSimpArgs false
set_option linter.unusedVariables false
namespace Go.Ev
open Go Go.RowKit
theorem qZ1 {p:Par}{Γ:Gam}{h h':jB}{w:Zw}(hr:jU p Γ h w){sT xT ty:Zt}{x v:Z6}{e:Zt}{n cap m:Nat}{base:Z8 Addr}{new:List Z6}{i:TypeInfo}{dx:TypeDesc}
  (hs:p.P.underlying sT=some (.slice e)) (hxT:p.P.underlying xT=some dx) (hni:∀ k,dx≠.int k) (hi:p.P.info? e=some i) (hlr:(Builtin.lenOf (con Γ x)).run p.P w=.ok m w)
  (hnl:new.length=m*i.size) (hok0:∀ v∈new,one v=true∧sc h.next v=true)
  (hnr:∀ w':Zw,w'.heap=w.heap→(Builtin.firstCells i.size m (con Γ x)).run p.P w'=.ok ⟨new.map (con Γ)⟩ w')
  (he:zV0 e i.size n cap m base new h=some (v,h')) :
  ∃ Γ' w',(Builtin.append_ #[sT,xT] ty #[con Γ (.slice base n cap),con Γ x]).run p.P w=.ok (con Γ' v) w'∧Ag Γ Γ' h.next∧h.next≤h'.next∧jU p Γ' h' w'∧Fr p Γ h w w':=by
 unfold zV0 at he
 split at he
 ·rename_i b off
  split at he
  ·rename_i cs e' hc
   split at he
   ·rename_i hb
    simp only[Z5,Nat.beq_eq,Nat.ble_eq,Nat.blt_eq] at hb
    obtain ⟨⟨⟨⟨⟨⟨h1,h2⟩,h3⟩,h4⟩,_⟩,h5⟩,hlo⟩:=hb
    have hG:p.G≤b:=by rw[← hr.lo];exact hlo
    obtain ⟨hlt,rest,fr,hrow⟩:=hr.row hc hG
    obtain ⟨ti,hti,hk⟩:=hrow.more rfl
    have htii:ti=i:=by rw[h1,hi] at hti;exact (Option.some.inj hti).symm
    subst htii
    have hroom:n+m≤Γ.k b-(cap-UC):=by
     have:(cap-UC+(n+m))*ti.size≤Γ.k b*ti.size:=by
      rw[Nat.add_mul,← h3];omega
     have:=Nat.le_of_mul_le_mul_right this h4
     omega
    have hnot:¬ cap<UC:=Z0
    have hcv:∀ k,con Γ (.slice (some ⟨b,off,none⟩) k cap)=.slice (some ⟨Γ.b b,off,none⟩) k (Γ.k b-(cap-UC)):=λk=>by
     simp only[con,Option.map_some,uZ,qN];rw[if_neg hnot]
    rw[hcv]
    split at he<;>cases he
    rename_i cs' hset
    obtain ⟨hle2,rfl⟩:=kM0 hset
    obtain ⟨fr0,hg⟩:=bM hc
    have hok:=hok0
    have hst:=kK p.P (Γ.b b) (off+n*ti.size) e' fr (new.map (con Γ)) 0 (cs.map (con Γ)++rest) w hrow.heap
     (by simpa using hrow.fr) (by simp at hle2 ⊢;omega) (by
      intro y hy
      simp only[List.mem_map] at hy
      obtain ⟨z,hz,rfl⟩:=hy
      rw[bP0];exact (hok z hz).1)
    have hset:jJ (cs.map (con Γ)++rest) (off+n*ti.size+0) (new.map (con Γ))=(jJ cs (off+n*ti.size) new).map (con Γ)++rest:=by
     rw[jC0]
     simp only[jJ,Nat.add_zero,List.length_map]
     rw[List.take_append_of_le_length (by simp;omega),List.drop_append_of_le_length (by simp;omega)]
     simp
    rw[hset] at hst
    have hlen2:(jJ cs (off+n*ti.size) new).length=cs.length:=by
     simp only[jJ,List.length_append,List.length_take,List.length_drop]
     omega
    have hput:=hr.put (x':=⟨.cells ⟨jJ cs (off+n*ti.size) new⟩ e',true⟩) (o:=.cells ⟨(jJ cs (off+n*ti.size) new).map (con Γ)++rest⟩ e' fr) hg rfl hlo (by
     simp only[OR]
     refine ⟨λ_=>⟨λy hy=>?_,rest,fr,?_,?_,hrow.no,λhm=>?_⟩,λh0=>absurd h0 (Nat.not_lt.2 hG)⟩
     ·simp only[jJ,List.mem_append] at hy
      rcases hy with (hy|hy)|hy
      ·exact hrow.ok y (List.mem_of_mem_take hy)
      ·exact hok y hy
      ·exact hrow.ok y (List.mem_of_mem_drop hy)
     ·rw[qF _ _ _ (Array.getElem?_eq_some_iff.1 hrow.heap).1];simp
     ·have:=hrow.fr;simpa[hlen2] using this
     ·exact ⟨ti,hti,by simpa[hlen2] using hk⟩)
    refine ⟨Γ,_,?_,Ag.refl _ _,Z3 _,hput.1,hput.2⟩
    rw[hcv]
    refine jQ0 (base:=some ⟨Γ.b b,off,none⟩) hs hxT hni hi hlr (hnr w rfl) hroom ?_
    dsimp only;rw[addr_add];exact hst
   ·cases he
  ·cases he
 ·cases he
theorem eD0 {p:Par}{Γ:Gam}{h h':jB}{w:Zw}(hr:jU p Γ h w){sT xT ty:Zt}{s x v:Z6}
  (he:jE p.P sT xT s x h=some (v,h')) :
  ∃ Γ' w',(Builtin.append_ #[sT,xT] ty #[con Γ s,con Γ x]).run p.P w=.ok (con Γ' v) w'∧Ag Γ Γ' h.next∧h.next≤h'.next∧jU p Γ' h' w'∧Fr p Γ h w w':=by
 unfold jE at he
 split at he
 ·rename_i e base n cap m hs hlen
  split at he
  ·cases he
  rename_i i hi0
  have hi:p.P.info? e=some i∧∃ dx,p.P.underlying xT=some dx∧∀ k,dx≠.int k:=by
   split at hi0
   ·cases hi0
   ·cases hi0
   ·rename_i dx hdx hxT
    exact ⟨hi0,dx,hxT,λk e=>hdx k e⟩
  obtain ⟨hi,dx,hxT,hni⟩:=hi
  dsimp only at he
  split at he
  ·cases he
  rename_i new hnew
  obtain ⟨hnl,hok0,hnr⟩:=zF0 hr hnew
  have hlr:=wY1 (P:=p.P) (w:=w) Γ hlen
  have hU:=U_le
  split at he
  ·rename_i hcap
   simp only[Nat.blt_eq] at hcap
   have hcs:con Γ (.slice base n cap)=.slice (base.map (uZ Γ)) n cap:=by
    cases base with
    | none=>simp[con]
    | some a=>simp[con,qN,hcap]
   rw[hcs]
   split at he
   ·rename_i hle
    simp only[Nat.ble_eq] at hle
    split at he
    ·-- nil
     split at he<;>cases he
     refine ⟨Γ,w,?_,Ag.refl _ _,Z3 _,hr,Fr.refl w⟩
     simp only[Option.map_none,con]
     exact jQ0 (base:=none) hs hxT hni hi hlr (hnr w rfl) hle (by simp)
    ·rename_i b off sp
     split at he
     ·cases he
      have hn0:new=[]:=List.length_eq_zero_iff.1 (by simpa using hnl)
      subst hn0
      refine ⟨Γ,w,?_,Ag.refl _ _,Z3 _,hr,Fr.refl w⟩
      have hcv:con Γ (.slice (some ⟨b,off,sp⟩) (n+0) cap)=.slice (some ⟨Γ.b b,off,sp⟩) (n+0) cap:=by simp[con,uZ,qN,hcap]
      rw[hcv]
      exact jQ0 (base:=some ⟨Γ.b b,off,sp⟩) hs hxT hni hi hlr (hnr w rfl) hle (by simp[storeCells])
     split at he
     rotate_left
     ·cases he
     split at he
     ·rename_i cs e' mo hc
      split at he<;>cases he
      rename_i cs' hlo hset
      simp only[Nat.ble_eq] at hlo
      obtain ⟨hle2,rfl⟩:=kM0 hset
      obtain ⟨fr0,hg⟩:=bM hc
      have hG:p.G≤b:=by rw[← hr.lo];exact hlo
      obtain ⟨hlt,rest,fr,hrow⟩:=hr.row hc hG
      have hok:=hok0
      have hst:=kK p.P (Γ.b b) (off+n*i.size) e' fr (new.map (con Γ)) 0 (cs.map (con Γ)++rest) w hrow.heap
       (by simpa using hrow.fr) (by simp at hle2 ⊢;omega) (by
        intro y hy
        simp only[List.mem_map] at hy
        obtain ⟨z,hz,rfl⟩:=hy
        rw[bP0];exact (hok z hz).1)
      have hset:jJ (cs.map (con Γ)++rest) (off+n*i.size+0) (new.map (con Γ))=(jJ cs (off+n*i.size) new).map (con Γ)++rest:=by
       rw[jC0]
       simp only[jJ,Nat.add_zero,List.length_map]
       rw[List.take_append_of_le_length (by simp;omega),List.drop_append_of_le_length (by simp;omega)]
       simp
      rw[hset] at hst
      have hlen2:(jJ cs (off+n*i.size) new).length=cs.length:=by
       simp only[jJ,List.length_append,List.length_take,List.length_drop]
       omega
      have hput:=hr.put (x':=⟨.cells ⟨jJ cs (off+n*i.size) new⟩ e',mo⟩) (o:=.cells ⟨(jJ cs (off+n*i.size) new).map (con Γ)++rest⟩ e' fr) hg rfl hlo (by
       simp only[OR]
       refine ⟨λ_=>⟨λy hy=>?_,rest,fr,?_,?_,hrow.no,λhm=>?_⟩,λh0=>absurd h0 (Nat.not_lt.2 hG)⟩
       ·simp only[jJ,List.mem_append] at hy
        rcases hy with (hy|hy)|hy
        ·exact hrow.ok y (List.mem_of_mem_take hy)
        ·exact hok y hy
        ·exact hrow.ok y (List.mem_of_mem_drop hy)
       ·rw[qF _ _ _ (Array.getElem?_eq_some_iff.1 hrow.heap).1];simp
       ·have:=hrow.fr;simpa[hlen2] using this
       ·obtain ⟨ti,h5,h6⟩:=hrow.more hm
        exact ⟨ti,h5,by simpa[hlen2] using h6⟩)
      refine ⟨Γ,_,?_,Ag.refl _ _,Z3 _,hput.1,hput.2⟩
      have hcv:∀ m:Nat,con Γ (.slice (some ⟨b,off,none⟩) (n+(m+1)) cap)=.slice (some ⟨Γ.b b,off,none⟩) (n+(m+1)) cap:=λm=>by simp[con,uZ,qN,hcap]
      rw[hcv]
      have hb0:(some (⟨b,off,none⟩:Addr)).map (uZ Γ)=some ⟨Γ.b b,off,none⟩:=rfl
      rw[hb0]
      refine jQ0 (base:=some ⟨Γ.b b,off,none⟩) hs hxT hni hi hlr (hnr w rfl) hle ?_
      dsimp only;rw[addr_add];exact hst
     ·cases he
   ·rename_i hle
    have hgt:cap<n+m:=by
     have:Nat.ble (n+m) cap≠true:=by rw[hle];simp
     simp only[ne_eq,Nat.ble_eq] at this;omega
    split at he
    ·rename_i old z hold hbnd hz
     simp only[Z5,Nat.ble_eq,Nat.blt_eq] at hbnd
     split at he
     ·rename_i hzz
      simp only[Z5,Nat.beq_eq,Nat.blt_eq] at hzz
      split at he<;>cases he
      rename_i b h'' hmk
      obtain ⟨hol,_,hor⟩:=zF0 hr hold
      rw[hcs] at hor
      have hgr:=yN0 (ty:=ty) (base:=base.map (uZ Γ)) (n:=n) (cap:=cap) hs hxT hni hi hz hlr (hor w.drew rfl) (hnr w.drew rfl) hgt Z0
       (growslice_fits hgt Z0)
      have hmr:=jD0 (hr.of_heap (w':=w.drew) rfl) hmk (Builtin.zeroCells z.cells (grownCap w (n+m) cap e-(n+m))).toList (grownCap w (n+m) cap e) (0,0) (.inr rfl) (λhm=>by cases hm) (λ_=>⟨i,hi,by
       simp only[List.length_append,hol,hnl,Array.length_toList,size_zeroCells,hzz.1]
       have hge:=grownCap_ge w (n+m) cap e
       rw[← Nat.add_mul,← Nat.add_mul]
       congr 1
       omega⟩)
      obtain ⟨h1,h2,h3,h4,h5⟩:=hmr
      subst h1
      refine ⟨_,_,?_,h3,Z0,h4,⟨(Below.refl p.B w).drew.trans h5.below,h5.low⟩⟩
      rw[hgr]
      have hcv:con (Γ.ext h.next w.drew.heap.size (grownCap w (n+m) cap e)) (.slice (some ⟨h.next,0,none⟩) (n+m) UC)=.slice (some ⟨w.heap.size,0,none⟩) (n+m) (grownCap w (n+m) cap e):=by
       simp only[con,uZ,qN,Gam.ext_b,Gam.ext_k,Nat.lt_irrefl,if_false,Nat.sub_self,Nat.sub_zero]
       rfl
      rw[hcv,List.map_append]
     ·cases he
    ·cases he
  ·-- the tip of a row whose capacity is not known
   split at he
   ·rename_i r hin
    cases he
    exact qZ1 hr hs hxT hni hi hlr hnl hok0 hnr hin
   rename_i hin0
   clear hin0
   split at he
   ·rename_i b
    split at he
    ·rename_i cs e' hc
     split at he
     ·rename_i z hbb hz
      simp only[Z5,Nat.beq_eq,Nat.ble_eq,Nat.blt_eq] at hbb
      obtain ⟨⟨⟨⟨he',hcU⟩,hlo⟩,hcl⟩,hbnd⟩:=hbb
      have he2:=he'.symm;subst he2
      split at he<;>cases he
      rename_i hz2
      simp only[kU,Z5,Nat.beq_eq,Nat.blt_eq,List.all_eq_true] at hz2
      obtain ⟨⟨hzz,hz0⟩,hone,hscn⟩:=hz2
      obtain ⟨fr0,hg⟩:=bM hc
      have hG:p.G≤b:=by rw[← hr.lo];exact hlo
      obtain ⟨hlt,rest,fr,hrow⟩:=hr.row hc hG
      obtain ⟨ti,hti,hk⟩:=hrow.more rfl
      have hti':ti=i:=by rw[hi] at hti;exact (Option.some.inj hti).symm
      subst hti'
      have hok:∀ y∈new,one y=true∧sc h.next y=true:=λy hy=>⟨hone y hy,qV hscn y hy⟩
      have hcs:con Γ (.slice (some ⟨b,0,none⟩) n cap)=.slice (some ⟨Γ.b b,0,none⟩) n (Γ.k b):=by
       simp only[con,uZ,qN,hcU,Nat.lt_irrefl,if_false,Nat.sub_self,Nat.sub_zero]
      rw[hcs]
      by_cases hroom:n+m≤Γ.k b
      ·have hrl : new.length ≤ rest.length := by
        have:(n+m)*ti.size≤Γ.k b*ti.size:=Nat.mul_le_mul_right _ hroom
        rw[Nat.add_mul] at this
        omega
       have hst:=kK p.P (Γ.b b) (n*ti.size) e fr (new.map (con Γ)) 0 (cs.map (con Γ)++rest) w hrow.heap
        (by simpa using hrow.fr) (by simp;omega) (by
         intro y hy
         simp only[List.mem_map] at hy
         obtain ⟨z,hz,rfl⟩:=hy
         rw[bP0];exact hone z hz)
       have hset:jJ (cs.map (con Γ)++rest) (n*ti.size+0) (new.map (con Γ))=(cs++new).map (con Γ)++rest.drop new.length:=by
        simp only[jJ,Nat.add_zero,List.length_map,List.map_append]
        rw[List.take_append_of_le_length (by simp;omega),List.take_of_length_le (by simp;omega)]
        rw[List.drop_append,List.drop_eq_nil_of_le (by simp;omega)]
        simp only[List.length_map,List.nil_append]
        congr 2
        omega
       rw[hset] at hst
       have hmap:(cs++new).map (con (Γ.ext h.next (Γ.b b) (Γ.k b)))=(cs++new).map (con Γ):=List.map_congr_left λy hy=>bT (Γ.ext_ag _ _ _) y (by
        rcases List.mem_append.1 hy with hy|hy
        ·exact (hrow.ok y hy).2
        ·exact (hok y hy).2)
       have hre:=hr.lend (x':=⟨.cells ⟨cs++new⟩ e,true⟩) (e:=e) (cs:=cs) (o:=.cells ⟨(cs++new).map (con Γ)++rest.drop new.length⟩ e fr) hg rfl hlo hrow.ok (by
        simp only[OR]
        refine ⟨λ_=>⟨λy hy=>?_,rest.drop new.length,fr,?_,?_,λhm=>(by cases hm),λ_=>⟨ti,hi,?_⟩⟩,λh0=>absurd h0 (Nat.not_lt.2 hr.gn)⟩
        ·rcases List.mem_append.1 hy with hy|hy
         ·exact ⟨(hrow.ok y hy).1,qU (Nat.le_succ _) y (hrow.ok y hy).2⟩
         ·exact ⟨(hok y hy).1,qU (Nat.le_succ _) y (hok y hy).2⟩
        ·rw[Gam.ext_b,hmap,qF _ _ _ (Array.getElem?_eq_some_iff.1 hrow.heap).1];simp
        ·have:=hrow.fr
         simp only[List.size_toArray,List.length_append,List.length_drop]
         omega
        ·rw[Gam.ext_k]
         simp only[List.size_toArray,List.length_append,List.length_drop]
         omega) rfl
       refine ⟨_,_,?_,Γ.ext_ag _ _ _,Nat.le_succ _,hre.1,hre.2⟩
       have hcv:con (Γ.ext h.next (Γ.b b) (Γ.k b)) (.slice (some ⟨h.next,0,none⟩) (n+m) UC)=.slice (some ⟨Γ.b b,0,none⟩) (n+m) (Γ.k b):=by
        simp only[con,uZ,qN,Gam.ext_b,Gam.ext_k,Nat.lt_irrefl,if_false,Nat.sub_self,Nat.sub_zero]
       rw[hcv]
       refine jQ0 (base:=some ⟨Γ.b b,0,none⟩) hs hxT hni hi hlr (hnr w rfl) hroom ?_
       dsimp only;rw[addr_add,Nat.zero_add];exact hst
      ·have hgt:Γ.k b<n+m:=Z0
       have hol:(Builtin.firstCells ti.size n (.slice (some ⟨Γ.b b,0,none⟩) n (Γ.k b))).run p.P w.drew=.ok ⟨cs.map (con Γ)⟩ w.drew:=by
        have htk:takeN cs 0 (n*ti.size)=some cs:=rA0 cs hcl
        have:=(hr.of_heap (w':=w.drew) rfl).load hc htk (.inl hG) p.P
        simpa[Builtin.firstCells] using this
       have hgr:=yN0 (ty:=ty) (base:=some ⟨Γ.b b,0,none⟩) (n:=n) (cap:=Γ.k b) hs hxT hni hi hz hlr hol (hnr w.drew rfl) hgt Z0
        (growslice_fits hgt Z0)
       have hmk:bC h e (cs++new) true=some (h.next,(h.new ⟨.cells ⟨cs++new⟩ e,true⟩).2):=by
        unfold bC
        have h1:jT h.next (cs++new)=true:=by
         simp only[kU,Z5,List.all_eq_true]
         refine ⟨λy hy=>?_,qQ λy hy=>?_⟩
         ·rcases List.mem_append.1 hy with hy|hy
          ·exact (hrow.ok y hy).1
          ·exact hone y hy
         ·rcases List.mem_append.1 hy with hy|hy
          ·exact (hrow.ok y hy).2
          ·exact (hok y hy).2
        rw[h1,jB.new_eq]
       have hmr:=jD0 (hr.of_heap (w':=w.drew) rfl) hmk (Builtin.zeroCells z.cells (grownCap w (n+m) (Γ.k b) e-(n+m))).toList (grownCap w (n+m) (Γ.k b) e) (0,0) (.inr rfl) (λhm=>by cases hm) (λ_=>⟨ti,hi,by
        simp only[List.length_append,hcl,hnl,Array.length_toList,size_zeroCells,hzz]
        have hge:=grownCap_ge w (n+m) (Γ.k b) e
        rw[← Nat.add_mul,← Nat.add_mul]
        congr 1
        omega⟩)
       obtain ⟨_,h2,h3,h4,h5⟩:=hmr
       have hbn:b≠h.next:=Z0
       have hlend:=h4.lendTo (b:=b) (c:=h.next) (e:=e) (cs:=cs) (fr0:=fr0) (by rw[jB.new_eq];simp only[jB.get];rw[Tr.get_put _ h.next _ b,if_neg hbn];exact hg) (by rw[jB.new_eq];exact hlo) hlt (by rw[jB.new_eq];exact Nat.lt_succ_self _)
        (by rw[Gam.ext_b,h3.b b hlt];have:=(Array.getElem?_eq_some_iff.1 hrow.heap).1;show w.heap.size≠_;omega)
       rw[jB.new_eq,jB.put_eq] at hlend
       refine ⟨_,_,?_,h3,Nat.le_succ _,hlend,⟨(Below.refl p.B w).drew.trans h5.below,h5.low⟩⟩
       rw[hgr]
       have hcv:con (Γ.ext h.next w.drew.heap.size (grownCap w (n+m) (Γ.k b) e)) (.slice (some ⟨h.next,0,none⟩) (n+m) UC)=.slice (some ⟨w.heap.size,0,none⟩) (n+m) (grownCap w (n+m) (Γ.k b) e):=by
        simp only[con,uZ,qN,Gam.ext_b,Gam.ext_k,Nat.lt_irrefl,if_false,Nat.sub_self,Nat.sub_zero]
        rfl
       rw[hcv,List.map_append]
     ·cases he
    ·cases he
   ·cases he
 ·cases he
end Go.Ev
namespace Go.Ev
open Go Go.RowKit
theorem jZ0 (Γ:Gam){z:List Z6}(h:z.map (con Γ)=z)(n:Nat):((List.replicate n z).flatten).map (con Γ)=(List.replicate n z).flatten:=by
 induction n with
 | zero=>simp
 | succ n ih=>simp only[List.replicate_succ,List.flatten_cons,List.map_append,h,ih]
theorem nU0 {p:Par}{Γ:Gam}{h h':jB}{w:Zw}(hr:jU p Γ h w){t:Zt}{l c v:Z6}(he:gS0 p.P t l c h=some (v,h')) :
  ∃ Γ' w',(Instr.makeSlice t (con Γ l) (con Γ c)).run p.P w=.ok (con Γ' v) w'∧Ag Γ Γ' h.next∧h.next≤h'.next∧jU p Γ' h' w'∧Fr p Γ h w w':=by
 have hU:=U_le
 unfold gS0 at he
 split at he
 ·rename_i e kl l kc c hs
  split at he
  ·rename_i i hi
   split at he
   ·rename_i z hb hz
    simp only[Z5,Nat.ble_eq,Nat.blt_eq] at hb
    split at he
    ·rename_i hzz
     simp only[Z5,Nat.beq_eq,Nat.blt_eq] at hzz
     obtain ⟨⟨hz1,hz2⟩,hzf⟩:=hzz
     split at he<;>cases he
     rename_i b h'' hmk
     have hm:(i.bytes:Int)*(c:Int)≤281474976710656:=by
      have:((i.bytes*c:Nat):Int)≤281474976710656:=by rw[Nat.mul_comm];omega
      rwa [Int.natCast_mul] at this
     have hrun:=run_make (P:=p.P) w t e i z hs hi hz kl kc (l:Int) (c:Int) (Int.natCast_nonneg _) Z0 hm Z0
     obtain ⟨h1,h2,h3,h4,h5⟩:=jD0 hr hmk [] 0 (0,0) (.inr rfl) (λ_=>rfl) (λhm=>by cases hm)
     subst h1
     refine ⟨_,_,?_,h3,Z0,h4,h5⟩
     have hzm:z.cells.toList.map (con Γ)=z.cells.toList:=by rw[← bF];exact gW Γ _ hzf
     have hcells:madeCells z.cells (c*i.size)=⟨((List.replicate c z.cells.toList).flatten).map (con Γ)++[]⟩:=by
      apply Array.ext'
      rw[jZ0 Γ hzm,List.append_nil]
      have:=kO0 z.cells c
      rw[hz1] at this
      simpa[madeCells,hz1] using this
     simp only[con] at hrun ⊢
     have e1:Int.ofNat l=(l:Int):=rfl
     have e2:Int.ofNat c=(c:Int):=rfl
     rw[e1,e2,hrun]
     have hcU:c<UC:=by have:=U_UC;omega
     simp only[uZ,qN,Gam.ext_b,if_pos hcU,Z4,hcells]
    ·cases he
   ·cases he
  ·cases he
 ·cases he
theorem yY0 {w:Zw}{g k:Nat}{c:Array Z6}{e:Zt}{fr:Nat×Nat}(hg:w.heap[g]?=some (.cells c e fr)) :
  w.freeze ⟨g,k,none⟩ 1=wset w g (.cells c e (if fr.1 == fr.2 then (k,k+1) else (min fr.1 k,max fr.2 (k+1)))):=by
 obtain ⟨lo,hi⟩:=fr
 simp only[World.freeze,if_neg (show ¬ (1:Nat)=0 by decide),wset]
 congr 1
 apply Array.ext_getElem?
 intro j
 rw[Array.getElem?_setIfInBounds,Array.getElem?_modify]
 have hlt:g<w.heap.size:=(Array.getElem?_eq_some_iff.1 hg).1
 by_cases hgj:g=j
 ·subst hgj
  have hgg:w.heap[g]=.cells c e (lo,hi):=by
   have:=hg;rw[Array.getElem?_eq_getElem hlt] at this;exact Option.some.inj this
  simp[hlt,hgg]
 ·simp[hgj]
theorem jU.of_get {p:Par}{Γ:Gam}{h h':jB}{w:Zw}(hr:jU p Γ h w)(hg:∀ i,h'.get i=h.get i)(hn:h'.next=h.next)(hl:h'.lo=h.lo):jU p Γ h' w:=
 ⟨λi x hx=>by rw[hn];exact hr.obj i x (by rw[← hg];exact hx),λi x hx=>hr.base i x (by rw[← hg];exact hx),λi j x y hx ho hy=>hr.inj i j x y (by rw[← hg];exact hx) ho (by rw[← hg];exact hy),
  hr.gl,λi y hi hy hoy=>hr.low i y hi (by rw[← hg];exact hy) hoy,by rw[hl];exact hr.lo,by rw[hn];exact hr.gn,hr.ng,hr.size,hr.gs,hr.lent.step (Ag.refl _ _) (by rw[hn];exact Z3 _) (Z3 _) (λb x hb _=>by rw[← hg];exact hb) (λj y hj ho _=>.inl ⟨y,by rw[← hg];exact hj,ho,(hr.obj j y (by rw[← hg];exact hj)).1⟩) (λ_ _ _ _ _ _=>rfl)⟩
theorem wV1 {p:Par}{Γ:Gam}{h:jB}{w:Zw}(hr:jU p Γ h w){g off:Nat}{spot:Z8 Nat}{cs:Array Z6}{e:Zt}{fr0:Nat×Nat}{m:Zb}(hx:h.get g=some ⟨.cells cs e fr0,m⟩)(hlo:h.lo≤g) :
  ∃ w',(markStringish ⟨Γ.b g,off,spot⟩).run p.P w=.ok () w'∧jU p Γ h w'∧Fr p Γ h w w':=by
 have hG:p.G≤g:=by rw[← hr.lo];exact hlo
 have hO:=(hr.obj g _ hx).2
 simp only[OR] at hO
 obtain ⟨⟨h1,rest,fr,h2,h3,h4,h5⟩,_⟩:=And.intro (hO.1 hG) trivial
 obtain ⟨n,hn⟩:∃ n,n=cs.size+rest.length:=⟨_,rfl⟩
 have hsh:w.shape? (Γ.b g)=some (e,n):=by
  unfold World.shape?;rw[h2];simp[hn]
 have hfz:=yY0 (k:=n) h2
 obtain ⟨hr',hfr⟩:=hr.put hx rfl hlo (x':=⟨.cells cs e fr0,m⟩) (o:=.cells (cs.toList.map (con Γ)++rest).toArray e (if fr.1 == fr.2 then (n,n+1) else (min fr.1 n,max fr.2 (n+1)))) (by
  simp only[OR]
  refine ⟨λ_=>⟨h1,rest,(if fr.1 == fr.2 then (n,n+1) else (min fr.1 n,max fr.2 (n+1))),?_,?_,h4,h5⟩,λhlt=>absurd hlt (Nat.not_lt.2 hG)⟩
  ·rw[qF _ _ _ (Array.getElem?_eq_some_iff.1 h2).1,if_pos rfl]
  ·left
   split
   ·rw[hn];exact Z3 _
   ·rename_i hne
    rcases h3 with h3|h3
    ·show _≤min fr.1 n
     omega
    ·exact absurd (by simp[h3]) hne)
 refine ⟨_,?_,hr'.of_get (λi=>by rw[jB.get_put];split<;>simp_all) rfl rfl,hfr⟩
 simp only[markStringish,Sem.run_bind,run_shape,hsh,Result.andThen_ok,run_freeze,hfz]
theorem jW1 {p:Par}{Γ:Gam}{h h':jB}{w:Zw}(hr:jU p Γ h w){tm:VT}{ca:Act}{o:Oper}{v:Z6}(ht:Tm Γ p.NG tm ca)
  (hop:o.op.operands.all (qJ0 p.NG)=true) (he:wE0 p.P o tm h=some (v,h')):Out p Γ h ca o w v h':=by
 have hev:∀ x∈o.op.operands,ca.eval x=con Γ (ev tm x):=λx hx=>ht.eval (by
  rw[Array.all_eq_true_iff_forall_mem] at hop;exact hop x hx)
 unfold wE0 at he
 split at he
 ·-- alloc
  rename_i e ho
  split at he
  ·rename_i z hz
   split at he
   ·rename_i hzf
    split at he<;>cases he
    rename_i b h'' hmk
    obtain ⟨h1,h2,h3,h4,h5⟩:=jD0 hr hmk [] 0 (0,0) (.inr rfl) (λ_=>rfl) (λhm=>by cases hm)
    subst h1
    refine ⟨_,_,_,?_,.inl rfl,h3,Z0,h4,h5⟩
    have hzi:(zeroValue e).run p.P w=.ok z w:=by
     unfold zeroOf at hz
     split at hz
     ·rename_i i hi;simp[zeroValue,typeInfo,hi,hz]
     ·cases hz
    have hc:(⟨z.cells.toList.map (con Γ)++[]⟩:Array Z6)=z.cells:=by
     apply Array.ext';rw[List.append_nil,wX0 Γ hzf]
    rw[jG0,hc]
    simp only[execOp,ho,Instr.alloc,Sem.run_bind,hzi,Result.andThen_ok,newVar,newRow,run_newObj,Sem.run_pure,World.alloc_eq]
   ·cases he
  ·cases he
 ·-- box
  rename_i e x ho
  have hx:=hev x (by simp[ho,Op.operands])
  split at he<;>cases he
  rename_i b h'' hmk
  obtain ⟨h1,h2,h3,h4,h5⟩:=jD0 hr hmk [] 0 (0,0) (.inr rfl) (λ_=>rfl) (λhm=>by cases hm)
  subst h1
  refine ⟨_,_,_,?_,.inl rfl,h3,Z0,h4,h5⟩
  have hc:(⟨(ev tm x).cells.toList.map (con Γ)++[]⟩:Array Z6)=(con Γ (ev tm x)).cells:=by
   apply Array.ext';rw[List.append_nil,wI0];simp
  rw[jG0,hc]
  simp only[execOp,ho,hx,Instr.box,Sem.run_bind,Result.andThen_ok,newVar,newRow,run_newObj,Sem.run_pure,World.alloc_eq]
 ·-- buildSlice
  rename_i t len parts ho
  split at he
  ·rename_i e hs
   split at he
   ·rename_i i hi
    split at he
    ·rename_i z hb hz
     simp only[Nat.ble_eq] at hb
     split at he
     ·rename_i hzz
      simp only[Z5,Nat.beq_eq,Nat.blt_eq] at hzz
      obtain ⟨⟨hz1,hz2⟩,hzf⟩:=hzz
      split at he
      ·rename_i cs hcs
       split at he<;>cases he
       rename_i b h'' hmk
       obtain ⟨h1,h2,h3,h4,h5⟩:=jD0 hr hmk [] 0 (0,0) (.inr rfl) (λ_=>rfl) (λhm=>by cases hm)
       subst h1
       refine ⟨_,_,_,?_,.inl rfl,h3,Z0,h4,h5⟩
       have hzm:z.cells.toList.map (con Γ)=z.cells.toList:=by rw[← bF];exact gW Γ _ hzf
       have hfill:=yE0 Γ _ _ _ _ hcs
       rw[jZ0 Γ hzm] at hfill
       have hparts:(parts.map λ(x:Nat×Zo)=>(x.1,ca.eval x.2)).toList=(parts.toList.map λ(x:Nat×Zo)=>(x.1,ev tm x.2)).map λx=>(x.1,con Γ x.2):=by
        simp only[Array.toList_map,List.map_map]
        apply List.map_congr_left
        intro y hy
        simp only[Function.comp]
        rw[hev y.2 (by
         simp only[ho,Op.operands]
         simp only[List.mem_toArray,List.mem_map]
         exact ⟨y,hy,rfl⟩)]
       have hU:=U_le
       have hb':¬ (len*i.size > 2 ^ 24):=by
        have:(2:Nat) ^ 24=16777216:=by decide
        omega
       have hrow:=kO0 z.cells len
       rw[hz1] at hrow
       have hz0:(zeroValue e).run p.P w=.ok z w:=by simp[zeroValue,typeInfo,hi,hz]
       have hlen0:len≤16777216:=by
        have:len*1≤len*i.size:=Nat.mul_le_mul_left _ hz2
        omega
       have hlenU:len<UC:=by
        have:(16777216:Nat)<UC:=by unfold UC;decide
        omega
       have hcv:con (Γ.ext h.next w.heap.size 0) (.slice (some ⟨h.next,0,none⟩) len len)=.slice (some ⟨w.heap.size,0,none⟩) len len:=by
        simp only[con,uZ,qN,Gam.ext_b,if_pos hlenU]
       rw[hcv]
       simp only[execOp,ho,Instr.buildSlice,Sem.run_bind,jM hs,Result.andThen_ok,sizeOf,typeInfo,run_program,hi,Sem.run_pure,if_neg hb']
       rw[show (parts.map λ(i,x)=>(i,ca.eval x)).toList=(parts.map λ(x:Nat×Zo)=>(x.1,ca.eval x.2)).toList from rfl,hparts]
       rw[show (parts.toList.map λ(x:Nat×Zo)=>(x.1,ev tm x.2))=(parts.toList.map λ(i,x)=>(i,ev tm x)) from rfl]
       by_cases hl0:len*i.size=0
       ·have hlen : len = 0 := by
         rcases Nat.mul_eq_zero.1 hl0 with h0|h0
         ·exact h0
         ·omega
        subst hlen
        simp only[Nat.zero_mul,if_true,Sem.run_bind,Sem.run_pure,Result.andThen_ok] at hfill ⊢
        have hemp:((Array.range 0).map λ(x:Nat)=>(#[]:Array Z6)[x % (#[]:Array Z6).size]!)=⟨[]⟩:=by simp
        simp only[List.replicate_zero,List.flatten_nil] at hfill
        rw[hemp,hfill]
        simp[newRow]
       ·simp only[if_neg hl0,Sem.run_bind,hz0,Result.andThen_ok,Sem.run_pure]
        have harr:((Array.range (len*i.size)).map λ(x:Nat)=>z.cells[x % z.cells.size]!)=⟨(List.replicate len z.cells.toList).flatten⟩:=by
         apply Array.ext'
         rw[hz1]
         exact hrow
        rw[harr,hfill]
        simp[newRow]
      ·cases he
     ·cases he
    ·cases he
   ·cases he
  ·cases he
 ·-- store
  rename_i t a x ho
  have ha:=hev a (by simp[ho,Op.operands])
  have hx:=hev x (by simp[ho,Op.operands])
  split at he<;>cases he
  rename_i h2 hst
  obtain ⟨w',h3,h4,h5,h6⟩:=iB0 hr hst
  refine ⟨Γ,w',.skip,?_,.inr ⟨rfl,rfl⟩,Ag.refl _ _,Z0,h5,h6⟩
  simp only[execOp,ho,ha,hx,Sem.run_bind,h3,Result.andThen_ok,Sem.run_pure]
 ·-- makeSlice
  rename_i t l c ho
  have hl:=hev l (by simp[ho,Op.operands])
  have hc:=hev c (by simp[ho,Op.operands])
  obtain ⟨Γ',w',h1,h2,h3,h4,h5⟩:=nU0 hr he
  refine ⟨Γ',w',_,?_,.inl rfl,h2,h3,h4,h5⟩
  simp only[execOp,ho,hl,hc,Sem.run_bind,h1,Result.andThen_ok,Sem.run_pure]
 ·-- append
  rename_i args argTypes ho
  split at he
  ·rename_i sT xT s x hT hA
   have hT':argTypes=#[sT,xT]:=Array.ext' hT
   have hA':args=#[s,x]:=Array.ext' hA
   subst hT' hA'
   have hs:=hev s (by simp[ho,Op.operands,Call.operands])
   have hx:=hev x (by simp[ho,Op.operands,Call.operands])
   obtain ⟨Γ',w',h1,h2,h3,h4,h5⟩:=eD0 (ty:=o.type) hr he
   refine ⟨Γ',w',_,?_,.inl rfl,h2,h3,h4,h5⟩
   simp[execOp,ho,resolve,invoke,builtin,hs,hx,h1]
  ·cases he
 ·-- range
  rename_i t x ho
  have hx:=hev x (by simp[ho,Op.operands])
  split at he
  ·rename_i s hu hxe
   rw[jB.new_eq] at he
   cases he
   have hnew:=hr.new (x:=⟨.stringIter s 0,false⟩) (o:=.stringIter s 0) (k:=0) (by
    simp only[OR];rw[Gam.ext_b];exact heap_alloc_new w _)
   rw[jB.new_eq] at hnew
   refine ⟨_,_,_,?_,.inl rfl,Γ.ext_ag _ _ _,Nat.le_succ _,hnew.1,hnew.2⟩
   rw[jG0]
   simp[execOp,ho,hx,hxe,con,Instr.range,jM hu]
  ·cases he
 ·-- next
  rename_i it ho
  have hx:=hev it (by simp[ho,Op.operands])
  split at he
  ·rename_i b hxe
   split at he
   ·rename_i s pos hg hlo
    simp only[Nat.ble_eq] at hlo
    have hO:=(hr.obj b _ hg).2
    simp only[OR] at hO
    have hlt:=(Array.getElem?_eq_some_iff.1 hO).1
    split at he
    ·rename_i hps
     simp only[Nat.blt_eq] at hps
     cases he
     have hput:=hr.put (x':=⟨.stringIter s (pos+(Utf8.decode s pos).2),false⟩) (o:=.stringIter s (pos+(Utf8.decode s pos).2)) hg rfl hlo (by
      simp only[OR]
      rw[qF _ _ _ hlt];simp)
     refine ⟨Γ,_,_,?_,.inl rfl,Ag.refl _ _,Z3 _,hput.1,hput.2⟩
     simp[execOp,ho,hx,hxe,con,uZ,Instr.next,getObj,setObj,Sem.run,hO,hps,goInt,conL,wset]
    ·rename_i hps
     have hps':¬ pos<s.size:=by
      intro hlt2
      have:Nat.blt pos s.size=true:=by simpa using hlt2
      rw[this] at hps;cases hps
     cases he
     refine ⟨Γ,w,_,?_,.inl rfl,Ag.refl _ _,Z3 _,hr,Fr.refl w⟩
     simp[execOp,ho,hx,hxe,con,uZ,Instr.next,getObj,Sem.run,hO,hps',conL]
   ·cases he
  ·cases he
 ·-- convert
  rename_i s d x ho
  have hx:=hev x (by simp[ho,Op.operands])
  split at he
  ·rename_i e bs hs hd hxe
   split at he
   ·rename_i hu8 hsz
    split at he
    ·rename_i hbU
     simp only[Nat.blt_eq] at hbU
     split at he<;>cases he
     rename_i g h'' hmk
     obtain ⟨ti,hti,hts⟩:∃ ti,p.P.info? e=some ti∧ti.size=1:=by
      unfold szT at hsz
      split at hsz
      ·rename_i i hi;exact ⟨i,hi,by simpa using hsz⟩
      ·cases hsz
     have hge:=grownCap_ge w bs.size 0 e
     have hbl:bs.data.toList.length=bs.size:=Array.length_toList
     obtain ⟨h1,h2,h3,h4,h5⟩:=jD0 (hr.of_heap (w':=w.drew) rfl) hmk (List.replicate (grownCap w bs.size 0 e-bs.size) (.int .u8 0)) (grownCap w bs.size 0 e)
      (grownCap w bs.size 0 e,grownCap w bs.size 0 e+1) (.inl (by simp[hbl];omega)) (λhm=>by cases hm) (λ_=>⟨ti,hti,by simp[hbl,hts];omega⟩)
     subst h1
     refine ⟨_,_,_,?_,.inl rfl,h3,Z0,h4,⟨(Below.refl p.B w).drew.trans h5.below,h5.low⟩⟩
     have hmapc:(bs.data.toList.map λx=>Value.int .u8 (x.toNat:Int)).map (con Γ)=bs.data.toList.map λx=>Value.int .u8 (x.toNat:Int):=by
      rw[List.map_map];exact List.map_congr_left λ_ _=>rfl
     have hcv:con (Γ.ext h.next w.drew.heap.size (grownCap w bs.size 0 e)) (.slice (some ⟨h.next,0,none⟩) bs.size UC)=.slice (some ⟨w.heap.size,0,none⟩) bs.size (grownCap w bs.size 0 e):=by
      simp only[con,uZ,qN,Gam.ext_b,Gam.ext_k,Nat.lt_irrefl,if_false,Nat.sub_self,Nat.sub_zero]
      rfl
     rw[hcv,hmapc]
     obtain ⟨C,hC⟩:∃ C:List Z6,C=(bs.data.toList.map λx=>Value.int .u8 (x.toNat:Int))++List.replicate (grownCap w bs.size 0 e-bs.size) (.int .u8 0):=⟨_,rfl⟩
     have hCl:C.length=grownCap w bs.size 0 e:=by rw[hC];simp[hbl];omega
     have harr:((bs.data.map λb=>Value.int .u8 (b.toNat:Int))++Array.replicate (grownCap w bs.size 0 e-bs.size) (.int .u8 0):Array Z6)=⟨C⟩:=by
      apply Array.ext';rw[hC];simp
     rw[← hC]
     have hsh:(w.drew.alloc (.cells ⟨C⟩ e)).shape? w.heap.size=some (e,C.length):=by
      have:(w.drew.alloc (.cells ⟨C⟩ e)).heap[w.heap.size]?=some (.cells ⟨C⟩ e (0,0)):=heap_alloc_new w.drew _
      unfold World.shape?;rw[this];rfl
     have hfz:(w.drew.alloc (.cells ⟨C⟩ e)).freeze ⟨w.heap.size,C.length,none⟩ 1=w.drew.alloc (.cells ⟨C⟩ e (grownCap w bs.size 0 e,grownCap w bs.size 0 e+1)):=by
      simp only[World.freeze,World.alloc]
      rw[if_neg Z1]
      congr 1
      apply Array.ext_getElem?
      intro j
      rw[Array.getElem?_modify]
      by_cases ej:w.heap.size=j
      ·subst ej
       have e0:(w.drew.heap.push (Obj.cells ⟨C⟩ e))[w.heap.size]?=some (.cells ⟨C⟩ e (0,0)):=by
        rw[Array.getElem?_push];simp
       have e1:(w.drew.heap.push (Obj.cells ⟨C⟩ e (grownCap w bs.size 0 e,grownCap w bs.size 0 e+1)))[w.heap.size]?=some (.cells ⟨C⟩ e (grownCap w bs.size 0 e,grownCap w bs.size 0 e+1)):=by
        rw[Array.getElem?_push];simp
       rw[if_pos rfl,e0,e1]
       simp[hCl]
      ·rw[if_neg ej,Array.getElem?_push,Array.getElem?_push]
       simp[Ne.symm ej]
     simp only[execOp,ho,hx,hxe,con,convert,Sem.run_bind,jM hs,jM hd,jM hu8,Result.andThen_ok,Conv.stringToBytes,run_choose,Question.forced,Bool.false_eq_true,if_false,newRow,
      run_newObj,World.alloc_eq,Sem.run_pure,markStringish,run_shape,World.drew_eq]
     rw[show (Question.appendCap bs.size 0 e).cut (w.tape w.drawn (.appendCap bs.size 0 e))=grownCap w bs.size 0 e from rfl,harr]
     simp only[World.size_drew,hsh,run_freeze,Result.andThen_ok,hfz]
    ·cases he
   ·cases he
  ·rename_i e0 e g off spot n c hs hd hxe
   unfold kU0 at he
   split at he
   ·rename_i hu8 hsd hlo hgx
    cases he
    obtain ⟨w',h1,h2,h3⟩:=wV1 hr (off:=off) (spot:=spot) hgx (by simpa using hlo)
    have hsd:s=d:=by simpa using hsd
    subst hsd
    have hee:e0=e:=by rw[hs] at hd;cases hd;rfl
    subst hee
    refine ⟨Γ,w',_,?_,.inl rfl,Ag.refl _ _,Z3 _,h2,h3⟩
    have hcv:con Γ (.slice (some ⟨g,off,spot⟩) n c)=.slice (some ⟨Γ.b g,off,spot⟩) n (qN Γ g c):=rfl
    simp only[execOp,ho,hx,hxe,hcv,convert,Sem.run_bind,jM hs,jM hd,jM hu8,Result.andThen_ok,beq_self_eq_true,h1,Sem.run_pure]
   ·cases he
  ·cases he
 ·cases he
end Go.Ev
namespace Go.Ev
open Go Go.RowKit
structure FW (F:Fence):Prop where
 wide:F.plain=Fence.wide
theorem FW.fn {F:Fence}(h:FW F)(f:FuncId):F.fn f:=by
 have:F.plain.fn f:=by rw[h.wide];trivial
 exact this
theorem FW.depth {F:Fence}(h:FW F):F.depth=none:=by
 have:F.plain.depth=none:=by rw[h.wide];rfl
 exact this
section
variable {F:Fence} {n:Nat} {P:Z9} {ops:Array Oper} {Q:Exit→Act→Zw→Prop} {md:Region.Mode}
def opW (F:Fence)(n:Nat)(P:Z9)(ops:Array Oper)(Q:Exit→Act→Zw→Prop)(i:Nat)(K:Act→Zw→Prop)(a:Act)(w:Zw):Prop:=
 match ops[i]? with
 | none=>K a w
 | some o=>if Region.wanted o (yielded ops a.tmps) then o.uponIn F n P a K Q ((execOp a.eval o).run P w) else K (a.put o.dst undef) w
def bR0 (ops:Array Oper):Prop:=∀ (j:Nat) (o:Oper) (c:Call),ops[j]?=some o→o.op≠.defer c
theorem pM0 (hF:FW F)(hd:bR0 ops){i:Nat}{K:Act→Zw→Prop}{a:Act}{w:Zw}(h:opW F n P ops Q i K a w):wpOpIn F n P ops Q i K a w:=by
 unfold opW at h
 unfold wpOpIn
 split
 ·rename_i ho;simp only[ho] at h;exact h
 ·rename_i o ho
  simp only[ho] at h
  split
  ·rename_i hw
   simp only[hw,if_true] at h
   refine ⟨λf _=>hF.fn f,?_⟩
   rw[Oper.semAt_eq _ _ _ (λc=>hd i o c ho)]
   exact h
  ·rename_i hw
   simp only[hw] at h
   exact ⟨λf _=>hF.fn f,h⟩
theorem eX0 {o:Oper}{a:Act}{K K':Act→Zw→Prop}(h:∀ a w,K a w→K' a w){r:Result Next}(hh:o.uponIn F n P a K Q r):o.uponIn F n P a K' Q r:=by
 cases r with
 | ok x w'=>
  cases x<;>simp only[Oper.uponIn] at hh ⊢<;>
   first
    | exact h _ _ hh
    | exact ⟨hh.1,CallsIn.mono hh.2 (λe w'' he=>by cases e<;>first | exact h _ _ he | exact he)⟩
    | exact ⟨hh.1,RowsIn.mono hh.2 (λ_ _ he=>h _ _ he)⟩
    | exact ⟨hh.1,RoundIn.mono hh.2 (λe w'' he=>by cases e<;>first | exact h _ _ he | exact he)⟩
 | halt x w'=>cases x<;>simp only[Oper.uponIn] at hh ⊢<;>exact hh
theorem zY0 {i:Nat}{a:Act}{w:Zw}{K K':Act→Zw→Prop}(h:∀ a w,K a w→K' a w)(hh:opW F n P ops Q i K a w):opW F n P ops Q i K' a w:=by
 unfold opW at *
 split
 ·rename_i ho;simp only[ho] at hh;exact h _ _ hh
 ·rename_i o ho
  simp only[ho] at hh
  split
  ·rename_i hw;simp only[hw,if_true] at hh;exact eX0 h hh
  ·rename_i hw;simp only[hw] at hh;exact h _ _ hh
variable {S:Nat→Zw→Prop} {T:Zw→Prop}
theorem YieldsIf.opW {i:Nat}{o:Oper}{v:Z6}{a:Act}(hi:ops[i]?=some o)(hy:YieldsIf P ops T o v a)
  {K:Act→Zw→Prop} {w:Zw} (hS:T w) (h:K (a.put o.dst v) w):opW F n P ops Q i K a w:=by
 unfold Ev.opW
 simp only[hi]
 rcases hy with ⟨hw,hv⟩|⟨hw,rfl⟩
 ·simp only[hw,if_true,hv w hS,Oper.uponIn];exact h
 ·simp only[hw,Bool.false_eq_true,if_false];exact h
theorem mV0 {oi oj:Oper}{v:Z6}{a:Act}{K:Act→Zw→Prop}(h2:∀ d,oi.dst=some d→oj.dst≠some d)
  (hk:∀ u,YieldsIf P ops T oi v (a.put oj.dst u))
  (hQ:∀ c a w,Q (.panic c) (a.put oi.dst v) w→Q (.panic c) a w) {r:Result Next}
  (h:oj.uponIn F n P (a.put oi.dst v) K Q r):oj.uponIn F n P a (λa' w'=>YieldsIf P ops T oi v a'∧K (a'.put oi.dst v) w') Q r:=by
 have hput:∀ u,(a.put oj.dst u).put oi.dst v=(a.put oi.dst v).put oj.dst u:=λu=>(Act.put_comm a v u h2).symm
 cases r with
 | ok x w'=>
  cases x<;>simp only[Oper.uponIn] at h ⊢
  case value u=>exact ⟨hk u,by rw[hput];exact h⟩
  case skip=>exact ⟨hk _,by rw[hput];exact h⟩
  case defer d=>
   refine ⟨(hk undef).of_same ?_ ?_,?_⟩
   ·cases oj.dst<;>rfl
   ·cases oj.dst<;>rfl
   ·have e:({ a with defers:=d :: a.defers }:Act).put oj.dst undef={ a.put oj.dst undef with defers:=d :: (a.put oj.dst undef).defers }:=by cases oj.dst<;>rfl
    have e2:({ a.put oj.dst undef with defers:=d :: (a.put oj.dst undef).defers }:Act).put oi.dst v={ (a.put oj.dst undef).put oi.dst v with defers:=d :: ((a.put oj.dst undef).put oi.dst v).defers }:=by cases oi.dst<;>rfl
    rw[e,e2,hput]
    have e3:({ a.put oi.dst v with defers:=d :: (a.put oi.dst v).defers }:Act).put oj.dst undef={ (a.put oi.dst v).put oj.dst undef with defers:=d :: ((a.put oi.dst v).put oj.dst undef).defers }:=by cases oj.dst<;>rfl
    rw[e3] at h
    exact h
  case enter f args=>
   refine ⟨h.1,CallsIn.mono h.2 λe w'' he=>?_⟩
   cases e with
   | returned u=>exact ⟨hk u,by rw[hput];exact he⟩
   | panicked c=>exact hQ _ _ _ he
   | outgrown=>exact he
  case row row args=>exact ⟨h.1,RowsIn.mono h.2 λu w'' he=>⟨hk u,by rw[hput];exact he⟩⟩
  case round l f tmps as bd=>
   refine ⟨h.1,RoundIn.mono h.2 λe w'' he=>?_⟩
   cases e with
   | returned u=>exact ⟨hk u,by rw[hput];exact he⟩
   | panicked c=>exact hQ _ _ _ he
   | outgrown=>exact he
 | halt x w'=>
  cases x<;>simp only[Oper.uponIn] at h ⊢
  exact hQ _ _ _ h
theorem fF1 {j:Nat}{oi oj:Oper}{v:Z6}(hj:ops[j]?=some oj)(hap:oi.apart ops oj=true)
  (hsi:∀ cs b,oi.op≠.select cs b) (hsj:∀ cs b,oj.op≠.select cs b)
  (hQ:∀ c a w,Q (.panic c) (a.put oi.dst v) w→Q (.panic c) a w) {K:Act→Zw→Prop} {a:Act} {w:Zw}
  (hy:YieldsIf P ops T oi v a) (h:opW F n P ops Q j K (a.put oi.dst v) w) :
  opW F n P ops Q j (λa' w'=>YieldsIf P ops T oi v a'∧K (a'.put oi.dst v) w') a w:=by
 obtain ⟨h1,h2,h3⟩:=Oper.apart_spec hap
 have keep:∀ u,YieldsIf P ops T oi v (a.put oj.dst u):=λu=>
  hy.of_same (execOp_put oi hsi a oj.dst u h3) (wanted_put oi a oj.dst u h3)
 unfold opW at *
 simp only[hj] at *
 rw[wanted_put oj a oi.dst v h1] at h
 split
 ·rename_i hw
  simp only[hw,if_true] at h
  rw[execOp_put oj hsj a oi.dst v h1] at h
  exact mV0 h2 keep hQ h
 ·rename_i hw
  simp only[hw] at h
  exact ⟨keep _,by rw[← Act.put_comm a v undef h2];exact h⟩
end
end Go.Ev
namespace Go.Ev
open Go Go.RowKit
def wN0 (p:Par)(g:FuncId)(args:List Z6)(h:jB)(R:Z6→jB→Prop):Prop:=
 ∀ (Γ:Gam) (w:Zw),jU p Γ h w→(∀ x∈args,sc h.next x=true)→∀ (o:Oper) (F:Fence),FW F→∀ (n:Nat) (a:Act) (K:Act→Zw→Prop) (Q:Exit→Act→Zw→Prop),
  (∀ (v:Z6) (h':jB) (Γ':Gam) (w':Zw),R v h'→Ag Γ Γ' h.next→h.next≤h'.next→Below p.B w w'→jU p Γ' h' w'→sc h'.next v=true→K (a.put o.dst (con Γ' v)) w')→
  o.uponIn F n p.P a K Q ((callFunc g ⟨args.map (con Γ)⟩).run p.P w)
theorem wN0.mono {p:Par}{g:FuncId}{args:List Z6}{h:jB}{R R':Z6→jB→Prop}(hc:wN0 p g args h R)(hR:∀ v h',R v h'→R' v h'):wN0 p g args h R':=
 λΓ w hr hs o F hF n a K Q hK=>hc Γ w hr hs o F hF n a K Q λv h' Γ' w' hv=>hK v h' Γ' w' (hR v h' hv)
def marks (Γ:Gam)(l:List Nat):List Deferred:=l.map λd=>{ target:=.collected (Γ.b d),args:=#[] }
theorem bS0 {Γ Γ':Gam}{n:Nat}(hg:Ag Γ Γ' n){l:List Nat}(h:∀ d∈l,d<n):marks Γ' l=marks Γ l:=
 List.map_congr_left λd hd=>by rw[hg.b d (h d hd)]
structure St (p:Par)(Γ:Gam)(s:S)(ca:Act)(w:Zw):Prop where
 tm:Tm Γ p.NG s.tm ca
 sc:∀ v∈s.tm.arr.toList,sc s.h.next v=true
 df:ca.defers=marks Γ s.df∧∀ d∈s.df,d<s.h.next
 hr:jU p Γ s.h w
def jL.con:jL→Exit
 | .normal=>.normal
 | .exit id=>.exit id
 | .goto l=>.goto l
 | .ret=>.ret
def start:Code→List Item
 | .loop b=>[.code b,.inLoop b]
 | c=>[.code c]
def qJ1 (F:Fence)(n:Nat)(P:Z9)(c:Code)(Q:Exit→Act→Zw→Prop)(a:Act)(w:Zw):Prop:=
 ∀ (b:Frame) (k:List Item) (cs:List Frame),b.roundOf=F.round→F.fn b.fn→F.room (cs.length+1+n)→
  ∃ e a' w',Q e a' w'∧ArrivesIn (Machine.fenced P F) P (lone (b.atR a (start c++k)) cs w) b k cs e a' w'
theorem bU {F:Fence}{n:Nat}{P:Z9}{c:Code}{Q:Exit→Act→Zw→Prop}{a:Act}{w:Zw}(h:qJ1 F n P c Q a w):c.wpIn F n P Q a w:=by
 intro b k cs hro hb hr
 obtain ⟨e,a',w',hq,harr⟩:=h b k cs hro hb hr
 refine ⟨e,a',w',hq,?_⟩
 cases c with
 | loop c=>exact .of_steps (.one (fenced_calm hb hr rfl) stepR_loop) harr
 | _=>exact harr
theorem gQ {F:Fence}{n:Nat}{P:Z9}{c:Code}{Q:Exit→Act→Zw→Prop}{a:Act}{w:Zw}(hc:∀ b,c≠.loop b)(h:c.wpIn F n P Q a w):qJ1 F n P c Q a w:=by
 intro b k cs hro hb hr
 obtain ⟨e,a',w',hq,harr⟩:=h b k cs hro hb hr
 refine ⟨e,a',w',hq,?_⟩
 cases c with
 | loop c=>exact absurd rfl (hc c)
 | _=>exact harr
theorem oA0 {F:Fence}{n:Nat}{P:Z9}{c:Code}{Q:Exit→Act→Zw→Prop}{a:Act}{w:Zw}
  (h:c.wpIn F n P (Exit.then (λa' w'=>qJ1 F n P (.loop c) Q a' w') Q) a w):qJ1 F n P (.loop c) Q a w:=by
 intro b k cs hro hb hr
 obtain ⟨e,a₁,w₁,hq,harr⟩:=h b (.inLoop c :: k) cs hro hb hr
 cases e with
 | normal=>
  obtain ⟨e₂,a₂,w₂,hq₂,harr₂⟩:=hq b k cs hro hb hr
  exact ⟨e₂,a₂,w₂,hq₂,.of_steps (StepsIn.trans harr (.one (fenced_calm hb hr rfl) stepR_inLoop)) harr₂⟩
 | exit id=>exact ⟨_,a₁,w₁,hq,.pass (x:=.inLoop c) rfl (λ_ _=>.inl (by simp)) harr⟩
 | goto l=>exact ⟨_,a₁,w₁,hq,.pass (x:=.inLoop c) rfl (λ_ _=>.inl (by simp)) harr⟩
 | ret=>exact ⟨_,a₁,w₁,hq,.pass (x:=.inLoop c) rfl (λ_ _=>.inl (by simp)) harr⟩
 | panic ch=>exact ⟨_,a₁,w₁,hq,.pass (x:=.inLoop c) rfl (λ_ _=>.inl (by simp)) harr⟩
 | outgrown=>exact ⟨_,a₁,w₁,hq,.pass (x:=.inLoop c) rfl (λ_ _=>.inl (by simp)) harr⟩
theorem fA0 {P:Z9}{b:Frame}{a:Act}{k:List Item}{cs:List Frame}{w:Zw}{c:Code} :
  step P (lone (b.atR a (.code (.scope c) :: k)) cs w)=.next (lone (b.atR a (.code c :: .inScope c :: k)) cs w):=
 step_lone_go (by simp[stepG,stepG.exec,Frame.atR])
theorem mR0 {Γ:Gam}{NG:Nat}{tm:VT}{ca:Act}(h:Tm Γ NG tm ca)(ops:Array Oper)(j:Nat):yielded ops ca.tmps j=yl ops.toList tm j:=by
 unfold yielded yl
 rw[Array.getElem?_toList]
 cases ho:ops[j]? with
 | none=>simp
 | some o=>
  cases hd:o.dst with
  | none=>simp[hd]
  | some d=>
   simp only[hd,Option.bind_some,h.tm,Array.getElem?_map]
   rw[← VT.arr_getD,Array.getD_eq_getD_getElem?]
   cases hv:tm.arr[d]? with
   | none=>simp[undef]
   | some v=>
    cases v with
    | agg cs=>simp[qR0]
    | tuple cs=>simp[jO0]
    | func f a b=>simp[bS]
    | pointer a=>cases a<;>simp[con]
    | slice a _ _=>cases a<;>simp[con]
    | map a=>cases a<;>simp[con]
    | float k i=>cases k<;>simp[con]
    | _=>simp[con]
theorem kG0 {Γ:Gam}{NG:Nat}{tm:VT}{ca:Act}(h:Tm Γ NG tm ca)(ops:Array Oper)(o:Oper) :
  Region.wanted o (yielded ops ca.tmps)=(wanted ops.toList tm o).getD false:=by
 unfold Region.wanted wanted
 cases hg:o.guard with
 | none=>simp
 | some g=>
  obtain ⟨j,b⟩:=g
  simp only[mR0 h]
  cases hy:yl ops.toList tm j with
  | none=>simp
  | some c=>cases b<;>cases c<;>simp
theorem Tm.put {Γ Γ':Gam}{NG n:Nat}{tm:VT}{ca:Act}(h:Tm Γ NG tm ca)(hsc:∀ v∈tm.arr.toList,sc n v=true)(hg:Ag Γ Γ' n)(hn:NG≤n)(d:Z8 Tmp)(v:Z6) :
  Tm Γ' NG (Ev.put tm d v) (ca.put d (con Γ' v)):=by
 have hmap:tm.arr.map (con Γ')=tm.arr.map (con Γ):=Array.map_congr_left λx hx=>bT hg x (hsc x (by simpa using hx))
 refine ⟨?_,?_,λg hgg=>(hg.b g Z0).trans (h.gl g hgg)⟩
 ·cases d with
  | none=>exact h.sm
  | some d=>simp only[Ev.put,VT.set_sz];exact h.sm
 ·cases d with
  | none=>simp only[Act.put,Ev.put,h.tm,hmap]
  | some d=>
   simp only[Act.put,Ev.put,h.tm,VT.arr_set _ h.sm,← hmap]
   simp
theorem uW0 {n m:Nat}{tm:VT}(hU:tm.sz<U)(hsc:∀ v∈tm.arr.toList,sc n v=true)(hn:n≤m)(d:Z8 Tmp){v:Z6}(hv:sc m v=true) :
  ∀ x∈(put tm d v).arr.toList,sc m x=true:=by
 intro x hx
 cases d with
 | none=>exact qU hn x (hsc x hx)
 | some d=>
  simp only[put,VT.arr_set _ hU,Array.toList_setIfInBounds] at hx
  rcases List.mem_or_eq_of_mem_set hx with h|h
  ·exact qU hn x (hsc x h)
  ·rw[h];exact hv
end Go.Ev
namespace Go.Ev
open Go Go.RowKit
theorem cG0 {p:Par}{Γ:Gam}{h:jB}{w:Zw}(hr:jU p Γ h w){fn:Func}{tm:VT}{ca:Act}{v:Z6}(ht:Tm Γ p.NG tm ca)
  (he:qP p.P fn tm h=some v):(results fn ca.tmps).run p.P w=.ok (con Γ v) w:=by
 have hget:∀ t,ca.tmps.getD t undef=con Γ (tm.get t):=λt=>ht.eval (x:=.tmp t) rfl
 have hgo : ∀ (rs : List ResultVar) (l : List Z6), qP.go p.P tm h rs = some l →
   (rs.mapM λr=>(match r with
    | .tmp t=>pure (ca.tmps.getD t undef)
    | .cell a t=>do loadVar t (← asAddr (ca.tmps.getD a undef)):Sem Z6)).run p.P w=.ok (l.map (con Γ)) w:=by
  intro rs
  induction rs with
  | nil=>intro l hl;simp[qP.go] at hl;subst hl;simp
  | cons r rs ih=>
   intro l hl
   cases r with
   | tmp t=>
    simp only[qP.go] at hl
    split at hl<;>cases hl
    rename_i l' hl'
    simp only[List.mapM_cons,Sem.run_bind,Sem.run_pure,Result.andThen_ok,ih l' hl',List.map_cons]
    rw[hget]
   | cell a t=>
    simp only[qP.go] at hl
    split at hl<;>cases hl
    rename_i v' l' hv' hl'
    have hld:=gT0 hr hv'
    have hev:jA p.P t (tm.get a) h=some v':=hv'
    have hx:∃ b off,tm.get a=.pointer (some ⟨b,off,none⟩):=by
     unfold jA at hev
     split at hev
     ·rename_i b off heq;exact ⟨b,off,heq⟩
     ·cases hev
    obtain ⟨b,off,hx⟩:=hx
    have hld2:(loadVar t ⟨Γ.b b,off,none⟩).run p.P w=.ok (con Γ v') w:=by
     rw[hx] at hld
     simpa[con,uZ,Instr.loadAt,Instr.sureAddr] using hld
    have hga:ca.tmps.getD a undef=.pointer (some ⟨Γ.b b,off,none⟩):=by rw[hget,hx];rfl
    have haa:(asAddr (ca.tmps.getD a undef)).run p.P w=.ok ⟨Γ.b b,off,none⟩ w:=by rw[hga];rfl
    simp only[List.mapM_cons,Sem.run_bind,haa,Sem.run_pure,Result.andThen_ok,hld2,ih l' hl',List.map_cons]
 unfold qP at he
 have hm : ∀ l, qP.go p.P tm h fn.results.toList = some l → (fn.results.mapM fun r => (match r with
    | .tmp t=>pure (ca.tmps.getD t undef)
    | .cell a t=>do loadVar t (← asAddr (ca.tmps.getD a undef)):Sem Z6)).run p.P w=.ok ⟨l.map (con Γ)⟩ w:=λl hl=>by
  have h2:=hgo _ _ hl
  obtain ⟨rs,hrs⟩:∃ rs:List ResultVar,fn.results=⟨rs⟩:=⟨fn.results.toList,rfl⟩
  rw[hrs] at h2 ⊢
  rw[List.mapM_toArray]
  simp only[Sem.run_map]
  rw[h2]
  rfl
 split at he
 ·rename_i v' hl
  cases he
  have:=hm _ hl
  unfold results
  rw[Sem.run_bind]
  refine (congrArg (λr=>Result.andThen r _) this).trans ?_
  simp
 ·rename_i l hne hl
  cases he
  have:=hm _ hl
  unfold results
  rw[Sem.run_bind]
  refine (congrArg (λr=>Result.andThen r _) this).trans ?_
  simp only[Result.andThen_ok]
  have hsz:¬ ((⟨l.map (con Γ)⟩:Array Z6).size=1):=by
   intro h1
   simp at h1
   obtain ⟨x,hx⟩:=List.length_eq_one_iff.1 h1
   exact hne x (by rw[hx])
  simp only[dif_neg hsz,Sem.run_pure,jO0]
  simp
 ·cases he
theorem yG0 {p:Par}{fn:Func}{F:Fence}{n:Nat}{R:Ending→Zw→Prop}{tmps:Array Z6}{Γ:Gam}:∀ (ds:List Nat) (h h':jB) (w:Zw),jU p Γ h w→bR ds h=some h'→
  (∀ w',jU p Γ h' w'→h'.next=h.next→Below p.B w w'→LeavesInM F n p.P fn tmps R [] .returning w')→LeavesInM F n p.P fn tmps R (marks Γ ds) .returning w
 | [],h,h',w,hr,he,hk=>by
  simp only[bR,Option.some.injEq] at he
  subst he
  exact hk w hr rfl (Below.refl _ _)
 | d :: ds,h,h',w,hr,he,hk=>by
  simp only[bR] at he
  split at he
  ·rename_i m hd
   split at he
   ·rename_i hlo
    simp only[Nat.ble_eq] at hlo
    have hOR:=(hr.obj d _ hd).2
    simp only[OR] at hOR
    have hput:=hr.put (x':=⟨.deferred none,false⟩) (o:=.deferred none) hd rfl hlo (by
     simp only[OR]
     refine ⟨by simp,?_⟩
     rw[qF _ _ _ (Array.getElem?_eq_some_iff.1 hOR.2).1];simp)
    refine ⟨by simp,.inl ⟨Γ.b d,wset w (Γ.b d) (.deferred none),rfl,run_takeDeferred hOR.2,?_⟩⟩
    exact yG0 ds _ h' _ hput.1 he λw' hr' hn hb=>hk w' hr' hn (hput.2.below.trans hb)
   ·cases he
  ·cases he
end Go.Ev
namespace Go.Ev
open Go Go.RowKit
def bI (Γ:Gam)(f:FuncId)(r:Loop):Loop:=
 { state:=r.state,pending:=r.pending,fn:=f,tmps:=r.tmps.map (con Γ),params:=r.params,assign:=r.assign,body:=r.body,defers:=Γ.b r.defers }
theorem kV {p:Par}{Γ:Gam}{h:jB}{w:Zw}(hr:jU p Γ h w){l:Nat}{r:Loop}(hg:qZ h l=some r) :
  (∃ m,h.get l=some ⟨.loop r,m⟩)∧h.lo≤l∧l<h.next∧(∀ v∈r.tmps.toList,sc h.next v=true)∧r.defers<h.next∧qR p.NG r.assign=true∧qR p.NG r.body=true∧
   ∃ f,w.heap[Γ.b l]?=some (.loop (bI Γ f r)):=by
 unfold qZ at hg
 split at hg
 ·rename_i r0 m hget
  split at hg<;>cases hg
  rename_i hlo
  simp only[Nat.ble_eq] at hlo
  have ho:=hr.obj l _ hget
  have ho2:=ho.2
  simp only[OR] at ho2
  obtain ⟨h1,h2,h3,h4,f,h5⟩:=ho2
  exact ⟨⟨m,hget⟩,hlo,ho.1,h1,h2,h3,h4,f,h5⟩
 ·cases hg
theorem qG0 {p:Par}{Γ:Gam}{h:jB}{w:Zw}(hr:jU p Γ h w){l:Nat}{r:Loop}{f:FuncId}(hg:qZ h l=some r)(hw:w.heap[Γ.b l]?=some (.loop (bI Γ f r)))(st:LoopState)(pe:Z8 Code) :
  jU p Γ (qY h l { r with state:=st,pending:=pe }) (w.putObj (Γ.b l) (.loop { bI Γ f r with state:=st,pending:=pe }))∧
  Fr p Γ h w (w.putObj (Γ.b l) (.loop { bI Γ f r with state:=st,pending:=pe }))∧(qY h l { r with state:=st,pending:=pe }).next=h.next:=by
 obtain ⟨⟨m,hget⟩,hlo,hlt,h1,h2,h3,h4,_⟩:=kV hr hg
 have:=hr.put (x':=⟨.loop { r with state:=st,pending:=pe },false⟩) (o:=.loop { bI Γ f r with state:=st,pending:=pe }) hget rfl hlo (by
  simp only[OR]
  refine ⟨h1,h2,h3,h4,f,?_⟩
  rw[qF _ _ _ (Array.getElem?_eq_some_iff.1 hw).1]
  simp[bI])
 exact ⟨this.1,this.2,rfl⟩
theorem mC0 (Γ:Gam):∀ (ps:List (Nat×Z6)) (tm:Array Z6),
  (ps.map λx=>(x.1,con Γ x.2)).foldl (λtmps x=>tmps.setIfInBounds x.1 x.2) (tm.map (con Γ))=(ps.foldl (λtmps x=>tmps.setIfInBounds x.1 x.2) tm).map (con Γ)
 | [],tm=>rfl
 | (t,v) :: ps,tm=>by
  simp only[List.map_cons,List.foldl_cons]
  rw[← mC0 Γ ps (tm.setIfInBounds t v)]
  congr 1
  simp
theorem jK1 {n:Nat}:∀ (ps:List (Nat×Z6)) (tm:Array Z6),(∀ x∈ps,sc n x.2=true)→(∀ x∈tm.toList,sc n x=true)→
  ∀ x∈(ps.foldl (λtmps x=>tmps.setIfInBounds x.1 x.2) tm).toList,sc n x=true
 | [],tm,_,h=>h
 | (t,v) :: ps,tm,hp,h=>by
  simp only[List.foldl_cons]
  refine jK1 ps _ (λx hx=>hp x (List.mem_cons_of_mem _ hx)) λx hx=>?_
  simp only[Array.toList_setIfInBounds] at hx
  rcases List.mem_or_eq_of_mem_set hx with hx|hx
  ·exact h x hx
  ·rw[hx];exact hp (t,v) (List.mem_cons_self ..)
theorem cN0 (Γ:Gam)(ps:Array Tmp)(args tm:Array Z6) :
  (ps.zip (args.map (con Γ))).foldl (λtmps (t,a)=>tmps.setIfInBounds t a) (tm.map (con Γ))=((ps.zip args).foldl (λtmps (t,a)=>tmps.setIfInBounds t a) tm).map (con Γ):=by
 have h:(ps.zip (args.map (con Γ))).toList=(ps.zip args).toList.map λx=>(x.1,con Γ x.2):=by
  simp[Array.toList_zip,List.zip_map_right]
 rw[← Array.foldl_toList,← Array.foldl_toList,h]
 exact mC0 Γ _ tm
theorem eT0 {n:Nat}(ps:Array Tmp){args tm:Array Z6}(ha:∀ x∈args.toList,sc n x=true)(ht:∀ x∈tm.toList,sc n x=true) :
  ∀ x∈((ps.zip args).foldl (λtmps (t,a)=>tmps.setIfInBounds t a) tm).toList,sc n x=true:=by
 rw[← Array.foldl_toList]
 refine jK1 _ tm (λx hx=>?_) ht
 rw[Array.toList_zip] at hx
 exact ha _ (List.of_mem_zip hx).2
theorem iU0 (ps:Array Tmp)(args:List Z6):(ps.zip (⟨args⟩:Array Z6)).toList=ps.toList.zip args:=by simp[Array.toList_zip]
theorem bC0 (Γ:Gam)(ps:Array Tmp)(args:List Z6){T:VT}{tm:Array Z6}(hU:T.sz<U)(hT:T.arr=tm) :
  (ps.zip (⟨args.map (con Γ)⟩:Array Z6)).foldl (λtmps (t,a)=>tmps.setIfInBounds t a) (tm.map (con Γ))=(uG0 T (ps.toList.zip args)).arr.map (con Γ):=by
 have h:=cN0 Γ ps ⟨args⟩ tm
 rw[show ((⟨args⟩:Array Z6).map (con Γ))=⟨args.map (con Γ)⟩ by simp] at h
 rw[h,wQ0 _ T hU,hT,← Array.foldl_toList,iU0]
theorem cM0 {n:Nat}(ps:Array Tmp){args:List Z6}{T:VT}{tm:Array Z6}(hU:T.sz<U)(hT:T.arr=tm)(ha:∀ x∈args,sc n x=true)(ht:∀ x∈tm.toList,sc n x=true) :
  ∀ x∈(uG0 T (ps.toList.zip args)).arr.toList,sc n x=true:=by
 have h:=eT0 (n:=n) ps (args:=⟨args⟩) (tm:=tm) ha ht
 rw[← Array.foldl_toList,iU0] at h
 rw[wQ0 _ T hU,hT]
 exact h
theorem nS0 {p:Par}{Γ:Gam}{h:jB}{w:Zw}(hr:jU p Γ h w){tm:VT}(hsc:∀ x∈tm.arr.toList,sc h.next x=true){x:Zo}(hx:qJ0 p.NG x=true):sc h.next (ev tm x)=true:=by
 cases x with
 | tmp t=>
  have e:ev tm (.tmp t)=tm.get t:=rfl
  rw[e,← VT.arr_getD,Array.getD_eq_getD_getElem?]
  cases hq:tm.arr[t]? with
  | none=>rfl
  | some y=>exact hsc y (by rw[← Array.getElem?_toList] at hq;exact List.mem_of_getElem? hq)
 | const y=>exact gB h.next y hx
 | global g=>
  simp[qJ0] at hx
  have e:ev tm (.global g)=.pointer (some ⟨g,0,none⟩):=rfl
  rw[e]
  have:=hr.gn;have:=hr.ng
  simp[sc,scA];omega
 | func f=>rfl
section
variable {P:Z9} {X:Ext} {rec:Rec} {o:Oper} {tm:VT} {h:jB}
end
end Go.Ev
namespace Go.Ev
open Go Go.RowKit
theorem qI0 {NG:Nat}{o:Oper}(h:jY0 NG o=true):(∀ c,o.op≠.defer c)∧∀ cs b,o.op≠.select cs b:=by
 simp only[jY0,Z5] at h
 constructor
 ·intro c hc;rw[hc] at h;simp at h
 ·intro cs b hc;rw[hc] at h;simp at h
structure Next (p:Par)(Γ:Gam)(h:jB)(w:Zw)(tm':VT)(h':jB)(df:List Deferred)(Q:Act→Zw→Prop):Prop where
 go:∀ Γ' ca' w',Ag Γ Γ' h.next→h.next≤h'.next→Below p.B w w'→jU p Γ' h' w'→Tm Γ' p.NG tm' ca'→(∀ x∈tm'.arr.toList,sc h'.next x=true)→ca'.defers=df→Q ca' w'
theorem put_defers (a:Act)(d:Z8 Tmp)(v:Z6):(a.put d v).defers=a.defers:=by cases d<;>rfl
theorem gA0 {P:Z9}{ops:Array Oper}{listed:Array Zb}:∀ {is:List Nat} {i:Nat} {o:Oper},
  firstFree P ops listed is=some (i,o)→i∈is∧ops[i]?=some o∧Region.free .any ops listed i=true∧zD1 P o=false:=by
 intro is
 induction is with
 | nil=>intro i o he;simp[firstFree] at he
 | cons j is ih=>
  intro i o he
  simp only[firstFree] at he
  split at he
  ·rename_i o' ho
   split at he
   ·obtain ⟨h1,h2⟩:=ih he
    exact ⟨List.mem_cons_of_mem _ h1,h2⟩
   ·rename_i hne
    split at he
    ·rename_i hf
     cases he
     exact ⟨List.mem_cons_self ..,ho,hf,hne⟩
    ·obtain ⟨h1,h2⟩:=ih he
     exact ⟨List.mem_cons_of_mem _ h1,h2⟩
  ·obtain ⟨h1,h2⟩:=ih he
   exact ⟨List.mem_cons_of_mem _ h1,h2⟩
theorem St.df_ag {p:Par}{Γ Γ':Gam}{s:S}{ca ca':Act}{w:Zw}{m:Nat}(h:St p Γ s ca w)(hg:Ag Γ Γ' s.h.next)(hle:s.h.next≤m)(hd:ca'.defers=ca.defers) :
  ca'.defers=marks Γ' s.df∧∀ d∈s.df,d<m:=
 ⟨by rw[hd,h.df.1,bS0 hg h.df.2],λd hd=>Nat.lt_of_lt_of_le (h.df.2 d hd) hle⟩
theorem Tm.ag {Γ Γ':Gam}{NG n:Nat}{tm:VT}{ca:Act}(h:Tm Γ NG tm ca)(hsc:∀ v∈tm.arr.toList,sc n v=true)(hg:Ag Γ Γ' n)(hn:NG≤n):Tm Γ' NG tm ca:=by
 exact h.put hsc hg hn none undef
theorem jB.new_next (h:jB)(x:jV):(h.new x).2.next=h.next+1:=by rw[jB.new_eq]
theorem iF0 {p:Par}{Γ:Gam}{s:S}{ca:Act}{w:Zw}(hst:St p Γ s ca w){ro:Z8 Nat}{ps:Array Tmp}{a b:Code}(ha:qR p.NG a=true)(hb:qR p.NG b=true){l:Nat}{mk:List Nat}{h1:jB}
  (he:uN0 ro s.tm ps a b s.h=some (l,mk,h1)) (fn:FuncId) :
  ∃ Γ1 w1,(Instr.enterLoop fn ca.tmps ps a b (ro.map Γ.b)).run p.P w=.ok (Γ1.b l,marks Γ1 mk) w1∧Ag Γ Γ1 s.h.next∧s.h.next≤h1.next∧jU p Γ1 h1 w1∧Below p.B w w1∧l<h1.next∧∀ d∈mk,d<h1.next:=by
 have hr:=hst.hr
 unfold uN0 at he
 split at he
 ·rename_i l0
  split at he<;>cases he
  rename_i r hg
  obtain ⟨_,_,hlt,_,h12,_,_,f,hw⟩:=kV hr hg
  have hag:=Γ.ext_ag s.h.next w.heap.size 0
  have hnew:=jU.new (x:=⟨.loop { state:=.ready,pending:=none,fn:=0,tmps:=s.tm.arr,params:=ps,assign:=a,body:=b,defers:=r.defers },false⟩)
   (o:=.loop { state:=.ready,pending:=none,fn:=fn,tmps:=ca.tmps,params:=ps,assign:=a,body:=b,defers:=Γ.b r.defers }) (k:=0) hr (by
    simp only[OR]
    refine ⟨λv hv=>qU (Nat.le_succ _) v (hst.sc v hv),Nat.lt_succ_of_lt h12,ha,hb,fn,?_⟩
    rw[Gam.ext_b,World.alloc_heap_new,hag.b _ h12,(hst.tm.ag hst.sc hag (by have:=hr.ng;have:=hr.gn;omega)).tm])
  refine ⟨_,_,?_,hag,by rw[jB.new_next];exact Nat.le_succ _,hnew.1,hnew.2.below,by rw[jB.new_next];exact Nat.lt_succ_self _,λd hd=>by cases hd⟩
  simp only[Option.map_some,Instr.enterLoop,Sem.run_bind,run_getLoop hw,Result.andThen_ok,Sem.run_pure,run_newObj_alloc,Gam.ext_b,marks,List.map_nil]
  rfl
 ·cases he
  have hag1:=Γ.ext_ag s.h.next w.heap.size 0
  have hnew1 := jU.new (x := ⟨.deferred (some []), false⟩) (o := .deferred (some [])) (k := 0) hr (by
    simp only[OR]
    exact ⟨by simp,by rw[Gam.ext_b,World.alloc_heap_new]⟩)
  have hag2:=(Γ.ext s.h.next w.heap.size 0).ext_ag (s.h.next+1) (w.alloc (.deferred (some []))).heap.size 0
  have hag:Ag Γ ((Γ.ext s.h.next w.heap.size 0).ext (s.h.next+1) (w.alloc (.deferred (some []))).heap.size 0) s.h.next:=hag1.trans hag2 (Nat.le_succ _)
  have e1:(s.h.new ⟨.deferred (some []),false⟩).2.next=s.h.next+1:=jB.new_next _ _
  have hnew2:=jU.new (x:=⟨.loop { state:=.ready,pending:=none,fn:=0,tmps:=s.tm.arr,params:=ps,assign:=a,body:=b,defers:=s.h.next },false⟩)
   (o:=.loop { state:=.ready,pending:=none,fn:=fn,tmps:=ca.tmps,params:=ps,assign:=a,body:=b,defers:=w.heap.size }) (k:=0) hnew1.1 (by
    simp only[OR]
    refine ⟨λv hv=>qU (by rw[e1];omega) v (hst.sc v hv),by rw[e1];omega,ha,hb,fn,?_⟩
    rw[e1,Gam.ext_b,World.alloc_heap_new,(hst.tm.ag hst.sc hag (by have:=hr.ng;have:=hr.gn;omega)).tm,hag2.b _ (Nat.lt_succ_self _),Gam.ext_b])
  rw[e1] at hnew2
  refine ⟨_,_,?_,hag,by rw[jB.new_next,e1];omega,hnew2.1,hnew1.2.below.trans hnew2.2.below,by rw[jB.new_next,e1];omega,λd hd=>?_⟩
  ·rw[Option.map_none,run_enterLoop_outer]
   have e2:=hag2.b s.h.next (Nat.lt_succ_self _)
   rw[Gam.ext_b] at e2
   rw[Gam.ext_b,marks,List.map_cons,List.map_nil,e2,World.size_alloc]
  ·have:d=s.h.next:=by simpa using hd
   subst this
   rw[jB.new_next,e1]
   omega
def lV0 (F:Fence)(n:Nat)(P:Z9)(c:Code)(Q:Exit→Act→Zw→Prop)(rest:Code)(a:Act)(w:Zw):Prop:=
 ∀ (b:Frame) (k:List Item) (cs:List Frame),b.roundOf=F.round→F.fn b.fn→F.room (cs.length+1+n)→
  ∃ e a' w',Q e a' w'∧ArrivesIn (Machine.fenced P F) P (lone (b.atR a (.code rest :: .inScope c :: k)) cs w) b k cs e a' w'
theorem eV0 {F:Fence}{n:Nat}{P:Z9}{c:Code}{Q:Exit→Act→Zw→Prop}{a:Act}{w:Zw}(h:lV0 F n P c Q c a w):(Code.scope c).wpIn F n P Q a w:=by
 intro b k cs hro hb hr
 obtain ⟨e,a₁,w₁,hq,harr⟩:=h b k cs hro hb hr
 exact ⟨e,a₁,w₁,hq,.of_steps (.one (fenced_calm hb hr rfl) fA0) harr⟩
end Go.Ev
namespace Go.Ev
open Go Go.RowKit
def h0:jB:={ t:=.nil,next:=0,lo:=0 }
end Go.Ev
namespace Go.Ev
open Go Go.RowKit
theorem zI0 {n k:Nat}{a:Addr}(h:sc n (.pointer (some a))=true):sc n (.pointer (some (a.add k)))=true:=by
 simp only[sc,scA,Z5] at h ⊢
 unfold Addr.add
 split
 ·exact h
 ·exact h
theorem rR0 {n k:Nat}{a:Z8 Addr}{l c l' c':Nat}(h:sc n (.slice a l c)=true):sc n (.slice (a.map (·.add k)) l' c')=true:=by
 cases a with
 | none=>rfl
 | some a=>exact zI0 (k:=k) (a:=a) h
theorem nW1 {n:Nat}{a:Z8 Addr}{l c l' c':Nat}(h:sc n (.slice a l c)=true):sc n (.slice a l' c')=true:=by
 cases a<;>exact h
theorem rT0 {n:Nat}{l:List Z6}{i:Nat}{v:Z6}(h:scL n l=true)(hv:l[i]?=some v):sc n v=true:=qV h v (List.mem_of_getElem? hv)
theorem eL0 {P:Z9}{op:BinOp}{t:Zt}{x y:Zo}{a b v:Z6}(h:jF P op t x y a b=some v):flat v=true:=by
 unfold jF at h
 split at h
 ·cases h;rfl
 ·cases h;rfl
 ·split at h<;>cases h;rfl
 ·split at h<;>cases h;rfl
 ·split at h<;>cases h;rfl
 ·split at h<;>cases h;rfl
 ·split at h<;>cases h;rfl
 ·split at h<;>cases h;rfl
 ·exact (kZ h).2.1
theorem lI0 {P:Z9}{n:Nat}{t:Zt}{cs:List Z6}{off:Nat}{v:Z6}(hs:scL n cs=true)(h:kP0 P t cs off=some v):sc n v=true:=by
 unfold kP0 at h
 split at h
 ·split at h
  ·rename_i k _
   cases hd:yI0 off cs with
   | none=>rw[hd] at h;cases h
   | some l=>
    rw[hd] at h
    dsimp only at h
    have ht:takeN cs off k=qD0 k l:=by simp only[takeN,hd]
    split at h<;>cases h
    rename_i l' hl'
    rw[← ht] at hl'
    refine qQ λu hu=>?_
    obtain ⟨j,hj⟩:=List.getElem?_of_mem hu
    exact rT0 hs ((qC0 hl').2.2 j u hj)
  ·cases h
 ·exact rT0 hs h
 ·cases h
theorem cF0 {n:Nat}{place:Nat→Z8 (Nat×Nat)}:∀ (parts:List (Nat×Z6)) (cs cs':List Z6),scL n cs=true→(∀ x∈parts,sc n x.2=true)→zT0 place cs parts=some cs'→scL n cs'=true
 | [],cs,cs',h,_,he=>by cases he;exact h
 | (i,v) :: rest,cs,cs',h,hp,he=>by
  simp only[zT0] at he
  split at he
  ·cases he
  ·split at he
   ·split at he
    ·rename_i cs1 hset
     refine cF0 rest cs1 cs' ?_ (λx hx=>hp x (List.mem_cons_of_mem _ hx)) he
     obtain ⟨_,rfl⟩:=kM0 hset
     refine qQ λu hu=>?_
     simp only[jJ,List.mem_append] at hu
     rcases hu with (hu|hu)|hu
     ·exact qV h u (List.mem_of_mem_take hu)
     ·have hv:=hp (i,v) (List.mem_cons_self ..)
      cases v with
      | agg cs=>exact qV hv u hu
      | _=>simp only[Value.cells,List.mem_singleton] at hu;subst hu;exact hv
     ·exact qV h u (List.mem_of_mem_drop hu)
    ·cases he
   ·cases he
theorem qO1 {P:Z9}{n:Nat}{t:Zt}{parts:List (Nat×Z6)}{v:Z6}(hp:∀ x∈parts,sc n x.2=true)(h:zN0 P t parts=some v):sc n v=true:=by
 unfold zN0 at h
 split at h
 ·cases h
 ·split at h
  ·cases h
  ·rename_i z _
   have hz:flat z=true→scL n z.cells.toList=true:=λhf=>by
    have:=gB n z hf
    cases z with
    | agg cs=>exact this
    | _=>exact qQ λu hu=>by simp only[Value.cells,List.mem_singleton] at hu;subst hu;exact this
   split at h
   ·rename_i hf _
    split at h
    ·split at h<;>cases h
     rename_i cs hc
     exact cF0 _ _ _ (hz hf) hp hc
    ·cases h
   ·rename_i hf _
    split at h
    ·split at h<;>cases h
     rename_i cs hc
     exact cF0 _ _ _ (hz hf) hp hc
    ·cases h
   ·cases h
theorem eB0 {p:Par}{Γ:Gam}{h:jB}{w:Zw}(hr:jU p Γ h w){tm:VT}(hsc:∀ x∈tm.arr.toList,sc h.next x=true){o:Oper}
  (hop:o.op.operands.all (qJ0 p.NG)=true) {v:Z6} (he:bB p.P o tm=some v):sc h.next v=true:=by
 have hv:∀ x∈o.op.operands,sc h.next (ev tm x)=true:=λx hx=>nS0 hr hsc (by
  rw[Array.all_eq_true_iff_forall_mem] at hop;exact hop x hx)
 unfold bB at he
 split at he
 ·rename_i x ho
  cases he
  exact hv x (by simp[ho,Op.operands])
 ·rename_i x ho
  cases he
  exact hv x (by simp[ho,Op.operands])
 ·rename_i c a b ho
  split at he<;>cases he
  ·exact hv a (by simp[ho,Op.operands])
  ·exact hv b (by simp[ho,Op.operands])
 ·rename_i t i ho
  have ht:=hv t (by simp[ho,Op.operands])
  split at he
  ·rename_i vs hx
   obtain ⟨vs⟩:=vs
   rw[hx] at ht
   exact rT0 (n:=h.next) (l:=vs) ht (by simpa using he)
  ·cases he
 ·exact gB _ _ (eL0 he)
 ·exact gB _ _ (kZ he).2.1
 ·exact gB _ _ (kZ he).2.1
 ·rename_i s x f ho
  have hx:=hv x (by simp[ho,Op.operands])
  split at he
  ·rename_i fs a _ hxe
   rw[hxe] at hx
   split at he
   ·split at he<;>cases he
    exact zI0 hx
   ·cases he
  ·cases he
 ·rename_i t x f ho
  have hx:=hv x (by simp[ho,Op.operands])
  split at he
  ·rename_i fs cs _ hxe
   obtain ⟨cs⟩:=cs
   rw[hxe] at hx
   split at he
   ·exact lI0 hx he
   ·cases he
  ·cases he
 ·rename_i t x i ho
  have hx:=hv x (by simp[ho,Op.operands])
  split at he
  ·rename_i e a len cap k n _ hxe _
   rw[hxe] at hx
   split at he<;>cases he
   exact zI0 (a:=a) hx
  ·rename_i len e a k n _ hxe _
   rw[hxe] at hx
   split at he<;>cases he
   exact zI0 (a:=a) hx
  ·cases he
 ·rename_i t x i ho
  have hx:=hv x (by simp[ho,Op.operands])
  split at he
  ·exact gB _ _ (kZ he).2.1
  ·rename_i cs k n hxe _
   obtain ⟨cs⟩:=cs
   rw[hxe] at hx
   split at he
   ·split at he
    ·exact lI0 hx he
    ·cases he
   ·cases he
  ·cases he
 ·rename_i t x lo hi mx ho
  have hx:=hv x (by simp[ho,Op.operands])
  split at he
  ·exact gB _ _ (kZ he).2.1
  ·rename_i a n c hxe
   rw[hxe] at hx
   unfold kC at he
   split at he
   ·split at he
    ·split at he
     ·dsimp only at he
      split at he<;>cases he
      ·exact nW1 hx
      ·exact rR0 hx
     ·cases he
    ·cases he
   ·cases he
  ·rename_i a hxe
   rw[hxe] at hx
   unfold qW0 at he
   split at he
   ·split at he
    ·split at he
     ·dsimp only at he
      split at he<;>cases he
      ·exact hx
      ·exact zI0 (a:=a) hx
     ·cases he
    ·cases he
   ·cases he
  ·cases he
 ·rename_i t parts ho
  refine qO1 (λx hx=>?_) he
  obtain ⟨y,hy,rfl⟩:=List.mem_map.1 hx
  refine hv y.2 ?_
  simp only[ho,Op.operands,List.mem_toArray,List.mem_map]
  exact ⟨y,hy,rfl⟩
 ·rename_i g f c ho
  cases he
  have h1:∀ x∈f,sc h.next (ev tm x)=true:=λx hx=>hv x (by simp[ho,Op.operands,hx])
  have h2:∀ x∈c,sc h.next (ev tm x)=true:=λx hx=>hv x (by simp[ho,Op.operands,hx])
  show (scL h.next (f.map (ev tm)).toList&&scL h.next (c.map (ev tm)).toList)=true
  rw[Z5]
  constructor
  ·refine qQ λu hu=>?_
   simp only[Array.toList_map,List.mem_map] at hu
   obtain ⟨y,hy,rfl⟩:=hu
   exact h1 y (by simpa using hy)
  ·refine qQ λu hu=>?_
   simp only[Array.toList_map,List.mem_map] at hu
   obtain ⟨y,hy,rfl⟩:=hu
   exact h2 y (by simpa using hy)
 ·rename_i t x ho
  have hx:=hv x (by simp[ho,Op.operands])
  split at he<;>cases he
  exact hx
 ·rename_i x ho
  have hx:=hv x (by simp[ho,Op.operands])
  split at he<;>cases he
  ·rename_i hxe;rw[hxe] at hx;exact hx
  ·rename_i hxe;rw[hxe] at hx;exact hx
 ·split at he
  ·split at he<;>cases he<;>rfl
  ·cases he
 ·exact gB _ _ (kZ he).2.1
 ·exact gB _ _ (kZ he).2.1
 ·cases he
theorem eC0 {p:Par}{Γ:Gam}{h:jB}{w:Zw}(hr:jU p Γ h w){t:Zt}{a v:Z6}(he:jA p.P t a h=some v):sc h.next v=true:=by
 unfold jA at he
 split at he
 ·split at he
  ·rename_i cs e m hc
   split at he
   ·split at he
    ·split at he
     ·rename_i l hl
      obtain ⟨rfl,hok⟩:=seen_eq hr he
      refine qQ λu hu=>?_
      obtain ⟨j,hj⟩:=List.getElem?_of_mem hu
      refine (hr.cell hc ((qC0 hl).2.2 j u hj) ?_).2.1
      rcases hok with h0|h0
      ·exact .inl h0
      ·exact .inr (qV h0 u hu)
     ·cases he
    ·cases he
   ·split at he
    ·rename_i u hu
     obtain ⟨rfl,hok⟩:=seen_eq hr he
     exact (hr.cell hc hu hok).2.1
    ·cases he
   ·cases he
  ·cases he
 ·cases he
theorem jV1 {p:Par}{Γ:Gam}{h:jB}{w:Zw}(hr:jU p Γ h w){tm:VT}(hsc:∀ x∈tm.arr.toList,sc h.next x=true){o:Oper}
  (hop:o.op.operands.all (qJ0 p.NG)=true) {v:Z6} (he:zK0 p.P o tm h=some v):sc h.next v=true:=by
 have hv:∀ x∈o.op.operands,sc h.next (ev tm x)=true:=λx hx=>nS0 hr hsc (by
  rw[Array.all_eq_true_iff_forall_mem] at hop;exact hop x hx)
 unfold zK0 at he
 split at he
 ·exact eC0 hr he
 ·rename_i t x lo hi mx ho
  have hx:=hv x (by simp[ho,Op.operands])
  split at he
  ·rename_i a n c hxe
   rw[hxe] at hx
   split at he
   ·rename_i v' he'
    cases he
    unfold kB at he'
    split at he'
    ·split at he'
     ·split at he'
      ·split at he'
       ·split at he'
        ·split at he'<;>cases he'
         ·exact hx
         ·exact zI0 (a:=⟨_,_,none⟩) hx
        ·split at he'<;>cases he'
         exact zI0 (a:=⟨_,_,none⟩) hx
       ·cases he'
      ·cases he'
     ·cases he'
    ·cases he'
   ·unfold gS at he
    split at he
    ·split at he
     ·split at he
      ·split at he
       ·split at he<;>cases he
        exact zI0 (a:=⟨_,_,none⟩) hx
       ·cases he
      ·cases he
     ·cases he
    ·cases he
  ·cases he
 ·split at he
  ·split at he<;>cases he;rfl
  ·split at he<;>cases he;rfl
  ·split at he
   ·split at he
    ·split at he<;>cases he;rfl
    ·cases he
   ·cases he
  ·cases he
 ·exact (kV0 (ρ:=λx=>con Γ (ev tm x)) hr (λ_ _=>rfl) he).2 hv
theorem qY0 {h:jB}{e:Zt}{cs:List Z6}{more:Zb}{b:Nat}{h':jB}(hm:bC h e cs more=some (b,h')):b=h.next∧h'.next=h.next+1:=by
 unfold bC at hm
 split at hm
 ·rw[jB.new_eq] at hm
  cases hm
  exact ⟨rfl,rfl⟩
 ·cases hm
theorem rS0 (n:Nat):sc (n+1) (.pointer (some ⟨n,0,none⟩))=true:=by simp[sc,scA]
theorem qF0 (n l c:Nat):sc (n+1) (.slice (some ⟨n,0,none⟩) l c)=true:=by simp[sc,scA]
theorem kT1 {e size n cap m:Nat}{base:Z8 Addr}{new:List Z6}{h h':jB}{v:Z6}(he:zV0 e size n cap m base new h=some (v,h')):(sc h.next (.slice base n cap)=true→sc h.next v=true)∧h'.next=h.next:=by
 unfold zV0 at he
 split at he
 ·split at he
  ·split at he
   ·split at he<;>cases he
    exact ⟨λh=>h,by rw[jB.put_eq]⟩
   ·cases he
  ·cases he
 ·cases he
theorem kA1 {p:Par}{Γ:Gam}{h h':jB}{w:Zw}(hr:jU p Γ h w){tm:VT}(hsc:∀ x∈tm.arr.toList,sc h.next x=true){o:Oper}
  (hop:o.op.operands.all (qJ0 p.NG)=true) {v:Z6} (he:wE0 p.P o tm h=some (v,h')):sc h'.next v=true:=by
 have hv:∀ x∈o.op.operands,sc h.next (ev tm x)=true:=λx hx=>nS0 hr hsc (by
  rw[Array.all_eq_true_iff_forall_mem] at hop;exact hop x hx)
 unfold wE0 at he
 split at he
 ·split at he
  ·split at he
   ·split at he<;>cases he
    rename_i hm
    obtain ⟨rfl,h2⟩:=qY0 hm
    rw[h2];exact rS0 _
   ·cases he
  ·cases he
 ·split at he<;>cases he
  rename_i hm
  obtain ⟨rfl,h2⟩:=qY0 hm
  rw[h2];exact rS0 _
 ·split at he
  ·split at he
   ·split at he
    ·split at he
     ·split at he
      ·split at he<;>cases he
       rename_i hm
       obtain ⟨rfl,h2⟩:=qY0 hm
       rw[h2];exact qF0 _ _ _
      ·cases he
     ·cases he
    ·cases he
   ·cases he
  ·cases he
 ·split at he<;>cases he;rfl
 ·unfold gS0 at he
  split at he
  ·split at he
   ·split at he
    ·split at he
     ·split at he<;>cases he
      rename_i hm
      obtain ⟨rfl,h2⟩:=qY0 hm
      rw[h2];exact qF0 _ _ _
     ·cases he
    ·cases he
   ·cases he
  ·cases he
 ·rename_i args argTypes ho
  split at he
  ·rename_i sT xT s x hT hA
   have hA':args=#[s,x]:=Array.ext' hA
   have hs:=hv s (by simp[ho,hA',Op.operands,Call.operands])
   unfold jE at he
   split at he
   ·rename_i e base n cap m hs1 hs2 hlen
    rw[hs2] at hs
    split at he
    ·cases he
    dsimp only at he
    split at he
    ·cases he
    split at he
    ·split at he
     ·split at he
      ·split at he<;>cases he;rfl
      ·split at he
       ·cases he
        exact hs
       split at he
       rotate_left
       ·cases he
       split at he
       ·split at he<;>cases he
        exact hs
       ·cases he
     ·split at he
      ·split at he
       ·split at he<;>cases he
        rename_i hm
        obtain ⟨rfl,h2⟩:=qY0 hm
        rw[h2];exact qF0 _ _ _
       ·cases he
      ·cases he
    ·split at he
     ·rename_i r hin
      cases he
      have h9:=kT1 (v:=v) (h':=h') hin
      rw[h9.2]
      exact h9.1 hs
     split at he
     ·split at he
      ·split at he
       ·split at he<;>cases he
        exact qF0 _ _ _
       ·cases he
      ·cases he
     ·cases he
   ·cases he
  ·cases he
 ·split at he
  ·rw[jB.new_eq] at he
   cases he
   exact rS0 _
  ·cases he
 ·split at he
  ·split at he
   ·split at he<;>cases he<;>rfl
   ·cases he
  ·cases he
 ·rename_i s d x ho
  split at he
  ·split at he
   ·split at he
    ·split at he<;>cases he
     rename_i hm
     obtain ⟨rfl,h2⟩:=qY0 hm
     rw[h2];exact qF0 _ _ _
    ·cases he
   ·cases he
  ·rename_i hxe
   unfold kU0 at he
   split at he
   ·cases he
    rw[← hxe];exact hv x (by simp[ho,Op.operands])
   ·cases he
  ·cases he
 ·cases he
end Go.Ev
namespace Go.Ev
open Go Go.RowKit
def WP (p:Par)(ro:Z8 Nat)(c:Code)(s:S)(R:jL→S→Prop):Prop:=
 qR p.NG c=true→∀ (Γ:Gam) (ca:Act) (w:Zw),St p Γ s ca w→∀ (F:Fence) (n:Nat) (Q:Exit→Act→Zw→Prop),FW F→F.round=ro.map Γ.b→(∀ l,ro=some l→l<s.h.next)→
  (∀ e s' Γ' ca' w',R e s'→Ag Γ Γ' s.h.next→s.h.next≤s'.h.next→Below p.B w w'→St p Γ' s' ca' w'→Q e.con ca' w')→qJ1 F n p.P c Q ca w
def WPin (p:Par)(ro:Z8 Nat)(b c:Code)(s:S)(R:jL→S→Prop):Prop:=
 qR p.NG b=true→qR p.NG c=true→∀ (Γ:Gam) (ca:Act) (w:Zw),St p Γ s ca w→∀ (F:Fence) (n:Nat) (Q:Exit→Act→Zw→Prop),FW F→F.round=ro.map Γ.b→(∀ l,ro=some l→l<s.h.next)→
  (∀ e s' Γ' ca' w',R e s'→Ag Γ Γ' s.h.next→s.h.next≤s'.h.next→Below p.B w w'→St p Γ' s' ca' w'→Q e.con ca' w')→lV0 F n p.P b Q c ca w
def gR (p:Par)(l:Nat)(args:List Z6)(h:jB)(R:Z6→jB→Prop):Prop:=
 ∀ (Γ:Gam) (w:Zw),jU p Γ h w→(∀ x∈args,sc h.next x=true)→∀ (o:Oper) (F:Fence),FW F→∀ (n:Nat) (a:Act) (K:Act→Zw→Prop) (Q:Exit→Act→Zw→Prop),
  (∀ (v:Z6) (h':jB) (Γ':Gam) (w':Zw),R v h'→Ag Γ Γ' h.next→h.next≤h'.next→Below p.B w w'→jU p Γ' h' w'→sc h'.next v=true→K (a.put o.dst (con Γ' v)) w')→
  o.uponIn F n p.P a K Q ((Instr.yield (Γ.b l) ⟨args.map (con Γ)⟩).run p.P w)
def jK (p:Par)(f:Z6)(args:List Z6)(h:jB)(R:Z6→jB→Prop):Prop:=
 match f with
 | .func (.func g) ⟨[]⟩ ⟨captured⟩=>wN0 p g (args++captured) h R
 | .func (.yield l) ⟨[]⟩ _=>gR p l args h R
 | _=>False
theorem gR.mono {p:Par}{l:Nat}{args:List Z6}{h:jB}{R R':Z6→jB→Prop}(hc:gR p l args h R)(hR:∀ v h',R v h'→R' v h'):gR p l args h R':=
 λΓ w hr hs o F hF n a K Q hK=>hc Γ w hr hs o F hF n a K Q λv h' Γ' w' hv=>hK v h' Γ' w' (hR v h' hv)
theorem jK.mono {p:Par}{f:Z6}{args:List Z6}{h:jB}{R R':Z6→jB→Prop}(hc:jK p f args h R)(hR:∀ v h',R v h'→R' v h'):jK p f args h R':=by
 unfold jK at hc ⊢
 split
 ·exact wN0.mono hc hR
 ·exact gR.mono hc hR
 ·rename_i h1 h2
  split at hc
  ·exact absurd rfl (h1 _ _)
  ·exact absurd rfl (h2 _ _)
  ·exact hc
theorem WP.mono {p:Par}{ro:Z8 Nat}{c:Code}{s:S}{R R':jL→S→Prop}(h:WP p ro c s R)(hR:∀ e s',R e s'→R' e s'):WP p ro c s R':=
 λhok Γ ca w hst F n Q hF hro hl hQ=>h hok Γ ca w hst F n Q hF hro hl λe s' Γ' ca' w' hr=>hQ e s' Γ' ca' w' (hR e s' hr)
section
variable {p:Par} {ro:Z8 Nat} {s:S} {R:jL→S→Prop}
theorem WP.skip (h:R .normal s):WP p ro .skip s R:=λ_ Γ ca w hst _ _ _ _ _ _ hQ=>gQ (by simp) (wpIn_skip (hQ _ s Γ ca w h (Ag.refl _ _) (Z3 _) (Below.refl _ _) hst))
theorem WP.label {l:Nat}(h:R .normal s):WP p ro (.label l) s R:=λ_ Γ ca w hst _ _ _ _ _ _ hQ=>gQ (by simp) (wpIn_label (hQ _ s Γ ca w h (Ag.refl _ _) (Z3 _) (Below.refl _ _) hst))
theorem WP.exit {i:Nat}(h:R (.exit i) s):WP p ro (.exit i) s R:=λ_ Γ ca w hst _ _ _ _ _ _ hQ=>gQ (by simp) (wpIn_exit (hQ _ s Γ ca w h (Ag.refl _ _) (Z3 _) (Below.refl _ _) hst))
theorem WP.goto {l:Nat}(h:R (.goto l) s):WP p ro (.goto l) s R:=λ_ Γ ca w hst _ _ _ _ _ _ hQ=>gQ (by simp) (wpIn_goto (hQ _ s Γ ca w h (Ag.refl _ _) (Z3 _) (Below.refl _ _) hst))
theorem WP.ret (h:R .ret s):WP p ro .ret s R:=λ_ Γ ca w hst _ _ _ _ _ _ hQ=>gQ (by simp) (wpIn_ret (hQ _ s Γ ca w h (Ag.refl _ _) (Z3 _) (Below.refl _ _) hst))
theorem lE0 {Γ Γ1:Gam}{m:Nat}{F:Fence}(hro:F.round=ro.map Γ.b)(hl:∀ l,ro=some l→l<m)(hg:Ag Γ Γ1 m):F.round=ro.map Γ1.b:=by
 rw[hro];cases ro with
 | none=>rfl
 | some l=>simp[hg.b l (hl l rfl)]
def cP0 (k:S→Prop)(R:jL→S→Prop)(e:jL)(s:S):Prop:=match e with | .normal=>k s|e=>R e s
theorem WP.seq {a b:Code}(h:WP p ro a s (cP0 (λs1=>WP p ro b s1 R) R)):WP p ro (.seq a b) s R:=by
 intro hok Γ ca w hst F n Q hF hro hl hQ
 simp only[qR,Z5] at hok
 refine gQ (by simp) (wpIn_seq (bU (h hok.1 Γ ca w hst F n _ hF hro hl λe s1 Γ1 ca1 w1 hr hg hle hb hst1=>?_)))
 cases e with
 | normal=>
  refine bU (hr hok.2 Γ1 ca1 w1 hst1 F n Q hF (lE0 hro hl hg) (λl e=>Nat.lt_of_lt_of_le (hl l e) hle) λe2 s2 Γ2 ca2 w2 hr2 hg2 hle2 hb2 hst2=>?_)
  exact hQ e2 s2 Γ2 ca2 w2 hr2 (hg.trans hg2 hle) (Nat.le_trans hle hle2) (hb.trans hb2) hst2
 | exit i=>exact hQ _ s1 Γ1 ca1 w1 hr hg hle hb hst1
 | goto l=>exact hQ _ s1 Γ1 ca1 w1 hr hg hle hb hst1
 | ret=>exact hQ _ s1 Γ1 ca1 w1 hr hg hle hb hst1
theorem WP.cond {x:Zo}{a b:Code}{v:Zb}(hx:ev s.tm x=.bool v)(ha:v=true→WP p ro a s R)(hb:v=false→WP p ro b s R):WP p ro (.cond x a b) s R:=by
 intro hok Γ ca w hst F n Q hF hro hl hQ
 simp only[qR,Z5] at hok
 have hx2:=hst.tm.eval hok.1.1
 refine gQ (by simp) ?_
 cases v with
 | true=>exact wpIn_cond_true (by rw[hx2,hx];rfl) (bU (ha rfl hok.1.2 Γ ca w hst F n Q hF hro hl hQ))
 | false=>exact wpIn_cond_false (by rw[hx2,hx];rfl) (bU (hb rfl hok.2 Γ ca w hst F n Q hF hro hl hQ))
def outR (id:Nat)(R:jL→S→Prop)(e:jL)(s:S):Prop:=match e with | .exit j=>if j=id then R .normal s else R (.exit j) s|e=>R e s
theorem WP.block {id:Nat}{b:Code}(h:WP p ro b s (outR id R)):WP p ro (.block id b) s R:=by
 intro hok Γ ca w hst F n Q hF hro hl hQ
 simp only[qR] at hok
 refine gQ (by simp) (wpIn_block (bU (h hok Γ ca w hst F n _ hF hro hl λe s1 Γ1 ca1 w1 hr hg hle hb hst1=>?_)))
 cases e with
 | normal=>exact hQ _ s1 Γ1 ca1 w1 hr hg hle hb hst1
 | exit j=>
  simp only[outR] at hr
  by_cases hj:j=id
  ·rw[if_pos hj] at hr
   have:=hQ _ s1 Γ1 ca1 w1 hr hg hle hb hst1
   simp only[jL.con,Exit.inBlock,if_pos hj]
   exact this
  ·rw[if_neg hj] at hr
   have:=hQ _ s1 Γ1 ca1 w1 hr hg hle hb hst1
   simp only[jL.con,Exit.inBlock,if_neg hj]
   exact this
 | goto l=>exact hQ _ s1 Γ1 ca1 w1 hr hg hle hb hst1
 | ret=>exact hQ _ s1 Γ1 ca1 w1 hr hg hle hb hst1
theorem WP.round {b:Code}(h:WP p ro b s (cP0 (λs2=>WP p ro (.loop b) s2 R) R)):WP p ro (.loop b) s R:=by
 intro hok Γ ca w hst F n Q hF hro hl hQ
 have hokb:qR p.NG b=true:=by simpa[qR] using hok
 refine oA0 (bU (h hokb Γ ca w hst F n _ hF hro hl λe s2 Γ1 ca1 w1 hr hg hle hb hst1=>?_))
 cases e with
 | normal=>
  refine hr hok Γ1 ca1 w1 hst1 F n Q hF (lE0 hro hl hg) (λl e=>Nat.lt_of_lt_of_le (hl l e) hle) λe2 s3 Γ2 ca2 w2 hr2 hg2 hle2 hb2 hst2=>?_
  exact hQ e2 s3 Γ2 ca2 w2 hr2 (hg.trans hg2 hle) (Nat.le_trans hle hle2) (hb.trans hb2) hst2
 | exit i=>exact hQ _ s2 Γ1 ca1 w1 hr hg hle hb hst1
 | goto l=>exact hQ _ s2 Γ1 ca1 w1 hr hg hle hb hst1
 | ret=>exact hQ _ s2 Γ1 ca1 w1 hr hg hle hb hst1
def gE0 (p:Par)(ro:Z8 Nat)(b:Code)(R:jL→S→Prop)(e:jL)(s:S):Prop:=
 match e with
 | .goto l=>match findLabel b l with
  | some rest=>WPin p ro b rest s R
  | none=>R (.goto l) s
 | e=>R e s
theorem WP.scope {b:Code}(h:WPin p ro b b s R):WP p ro (.scope b) s R:=by
 intro hok Γ ca w hst F n Q hF hro hl hQ
 simp only[qR] at hok
 exact gQ (by simp) (eV0 (h hok hok Γ ca w hst F n Q hF hro hl hQ))
end
end Go.Ev
namespace Go.Ev
open Go Go.RowKit
noncomputable section
structure yT0 (p:Par):Prop where
 funcs:∀ (g:Nat) (fn:Func),p.P.funcs[g]?=some fn→lN0 p.NG fn=true
 mixed:p.P.follows .mixedOrders=true
def FR (n:Nat)(l:List (Nat×Z6)):VT:=l.foldr (λx T=>T.set x.1 x.2) (VT.of [] n)
theorem iZ1 (n:Nat)(l:List (Nat×Z6)):(FR n l).sz=n:=by
 induction l with
 | nil=>simp[FR,VT.of]
 | cons x l ih=>exact (VT.set_sz _ _ _).trans ih
theorem tA1 (n:Nat)(l:List (Nat×Z6))(i:Nat)(v:Z6):(FR n l).set i v=FR n ((i,v) :: l):=rfl
theorem yV0 (n:Nat)(hU:n<U)(l:List (Nat×Z6))(i:Nat)(v:Z6):(FR n ((i,v) :: l)).arr=(FR n l).arr.setIfInBounds i v:=by
 rw[← tA1,VT.arr_set _ (by rw[iZ1];exact hU)]
theorem bW1 (n:Nat)(hU:n<U):(FR n []).arr=Array.replicate n undef:=by
 have:=VT.of_arr [] n (by simpa[VT.of] using hU)
 simpa[FR] using this
theorem pK0 (n j:Nat)(hU:n<U):(FR n []).get j=undef:=by
 rw[← VT.arr_getD,bW1 n hU,Array.getD_eq_getD_getElem?,Array.getElem?_replicate]
 split<;>rfl
theorem tB1 (n:Nat)(hU:n<U)(l:List (Nat×Z6))(i:Nat)(v:Z6)(j:Nat):(FR n ((i,v) :: l)).get j=if i=j then (if i<n then v else undef) else (FR n l).get j:=by
 rw[← VT.arr_getD,yV0 n hU,Array.getD_eq_getD_getElem?,Array.getElem?_setIfInBounds,VT.arr_size,iZ1]
 by_cases h:i=j
 ·rw[if_pos h,if_pos h]
  split<;>rfl
 ·rw[if_neg h,if_neg h,← VT.arr_getD,Array.getD_eq_getD_getElem?]
def zU0:Nat→List Z6→List (Nat×Z6)
 | _,[]=>[]
 | i,v :: l=>zU0 (i+1) l++[(i,v)]
theorem yU0 (n:Nat)(hU:n<U)(m:List (Nat×Z6)):∀ (l:List (Nat×Z6)),(FR n (l++m)).arr=l.foldr (λx A=>A.setIfInBounds x.1 x.2) (FR n m).arr
 | []=>rfl
 | (i,v) :: l=>by
  rw[List.cons_append,yV0 n hU,yU0 n hU m l]
  rfl
theorem eF0:∀ (args:List Z6) (i:Nat) (A:Array Z6) (j:Nat),i+args.length≤A.size→
  ((zU0 i args).foldr (λx A=>A.setIfInBounds x.1 x.2) A)[j]?=if i≤j∧j<i+args.length then args[j-i]? else A[j]?
 | [],i,A,j,_=>by simp[zU0];intro h1 h2;omega
 | v :: l,i,A,j,h=>by
  simp only[List.length_cons] at h
  simp only[zU0,List.foldr_append,List.foldr_cons,List.foldr_nil,List.length_cons]
  rw[eF0 l (i+1) (A.setIfInBounds i v) j (by simp;omega)]
  by_cases h1:i+1≤j∧j<i+1+l.length
  ·rw[if_pos h1,if_pos Z0]
   rw[show j-i=(j-(i+1))+1 by omega,List.getElem?_cons_succ]
  ·rw[if_neg h1]
   by_cases h2:j=i
   ·subst h2
    rw[if_pos Z0]
    simp[Array.getElem?_setIfInBounds]
    omega
   ·rw[if_neg Z0,Array.getElem?_setIfInBounds,if_neg (Ne.symm h2)]
theorem uH1 (n:Nat)(hU:n<U)(args:List Z6)(h:args.length≤n):(FR n (zU0 0 args)).arr=⟨args⟩++Array.replicate (n-args.length) undef:=by
 apply Array.ext_getElem?
 intro j
 have:=yU0 n hU [] (zU0 0 args)
 rw[List.append_nil] at this
 rw[this,bW1 n hU,eF0 args 0 _ j (by simpa using h)]
 simp only[Nat.zero_le,true_and,Nat.zero_add,Nat.sub_zero]
 rw[Array.getElem?_append]
 simp only[List.size_toArray,List.getElem?_toArray]
 split
 ·rfl
 ·rw[Array.getElem?_replicate,Array.getElem?_replicate]
  by_cases h3:j<n
  ·rw[if_pos h3,if_pos Z0]
  ·rw[if_neg h3,if_neg Z0]
def qP0 (P:Z9)(rs:List ResultVar)(tm:VT)(h:jB):Z8 Z6:=
 match qP.go P tm h rs with
 | some [v]=>some v
 | some l=>some (.tuple ⟨l⟩)
 | none=>none
theorem zW1 (P:Z9)(fn:Func)(tm:VT)(h:jB):qP P fn tm h=qP0 P fn.results.toList tm h:=rfl
theorem zV1 {p:Par}{Γ:Gam}{h:jB}{w:Zw}(hr:jU p Γ h w){tm:VT}(hsc:∀ x∈tm.arr.toList,sc h.next x=true){rs:List ResultVar}{v:Z6}(he:qP0 p.P rs tm h=some v):sc h.next v=true:=by
 have hget:∀ t,sc h.next (tm.get t)=true:=λt=>by
  rw[← VT.arr_getD,Array.getD_eq_getD_getElem?]
  cases hx:tm.arr[t]? with
  | none=>rfl
  | some x=>exact hsc x (by simpa using Array.mem_of_getElem? hx)
 have hgo:∀ (rs:List ResultVar) (l:List Z6),qP.go p.P tm h rs=some l→∀ x∈l,sc h.next x=true:=by
  intro rs
  induction rs with
  | nil=>intro l he;cases he;intro x hx;cases hx
  | cons r rs ih=>
   intro l he
   cases r with
   | tmp t=>
    simp only[qP.go] at he
    split at he<;>cases he
    rename_i l' hl'
    intro x hx
    rcases List.mem_cons.1 hx with rfl|hx
    ·exact hget t
    ·exact ih l' hl' x hx
   | cell a t=>
    simp only[qP.go] at he
    split at he
    ·rename_i u l' hu hl'
     cases he
     intro x hx
     rcases List.mem_cons.1 hx with rfl|hx
     ·exact eC0 hr hu
     ·exact ih l' hl' x hx
    ·cases he
 unfold qP0 at he
 split at he
 ·rename_i u hu;cases he;exact hgo _ _ hu _ (List.mem_singleton.2 rfl)
 ·rename_i l _ hl;cases he;exact qQ (hgo _ _ hl)
 ·cases he
def endR (P:Z9)(rs:List ResultVar)(R:Z6→jB→Prop)(s:S):Prop:=
 match bR s.df s.h with
 | some h1=>match qP0 P rs s.tm h1 with
  | some v=>R v h1
  | none=>False
 | none=>False
def jZ (P:Z9)(rs:List ResultVar)(R:Z6→jB→Prop)(e:jL)(s:S):Prop:=
 match e with
 | .normal=>endR P rs R s
 | .ret=>endR P rs R s
 | _=>False
def jG (p:Par)(g:FuncId)(args:List Z6)(h:jB)(R:Z6→jB→Prop):Prop:=
 ∀ (Γ:Gam) (w:Zw),jU p Γ h w→(∀ x∈args,sc h.next x=true)→(callFunc g ⟨args.map (con Γ)⟩).run p.P w=.ok (.enter g ⟨args.map (con Γ)⟩) w∧
  ∀ (F:Fence),FW F→∀ (n:Nat) (R':Ending→Zw→Prop),
   (∀ (v:Z6) (h':jB) (Γ':Gam) (w':Zw),R v h'→Ag Γ Γ' h.next→h.next≤h'.next→Below p.B w w'→jU p Γ' h' w'→sc h'.next v=true→R' (.returned (con Γ' v)) w')→
   CallsIn F n p.P g ⟨args.map (con Γ)⟩ w R'
theorem jG.mono {p:Par}{g:FuncId}{args:List Z6}{h:jB}{R R':Z6→jB→Prop}(hc:jG p g args h R)(hR:∀ v h',R v h'→R' v h'):jG p g args h R':=
 λΓ w hr hs=>⟨(hc Γ w hr hs).1,λF hF n S hS=>(hc Γ w hr hs).2 F hF n S λv h' Γ' w' hv=>hS v h' Γ' w' (hR v h' hv)⟩
theorem jG.w {p:Par}{g:FuncId}{args:List Z6}{h:jB}{R:Z6→jB→Prop}(hc:jG p g args h R):wN0 p g args h R:=by
 intro Γ w hr hsc o F hF n a K Q hK
 obtain ⟨hrun,hcalls⟩:=hc Γ w hr hsc
 rw[hrun]
 refine ⟨λhd=>(by rw[hF.depth] at hd;cases hd),?_⟩
 refine CallsIn.mono (hcalls F hF (n - 1) (fun e w'' => match e with
   | .returned v=>K (a.put o.dst v) w''
   | .panicked chain=>Q (.panic chain) a w''
   | .outgrown=>LetsOut Q) hK) λe w'' he=>by cases e<;>exact he
theorem jG.body {p:Par}(ok:yT0 p){g:FuncId}{fn:Func}{c:Code}(hfn:p.P.funcs[g]?=some fn)(hb:fn.body=some c){args:List Z6}{h:jB}{R:Z6→jB→Prop}
  (hn:args.length≤fn.ntmps) (hU:fn.ntmps<U) (hw:WP p none c ⟨FR fn.ntmps (zU0 0 args),[],h⟩ (jZ p.P fn.results.toList R)):jG p g args h R:=by
 intro Γ w hr hsc
 have hok:=ok.funcs g fn hfn
 simp only[lN0,hb,Z5,bne_iff_ne,ne_eq] at hok
 have hrun:(callFunc g ⟨args.map (con Γ)⟩).run p.P w=.ok (.enter g ⟨args.map (con Γ)⟩) w:=by simp[callFunc,hfn,hok.2,hb]
 refine ⟨hrun,λF hF n R' hK=>?_⟩
 have harr:=uH1 fn.ntmps hU args hn
 have hF':FW F.plain:=⟨hF.wide⟩
 refine (?_:CallsIn F.plain n p.P g ⟨args.map (con Γ)⟩ w R')
 refine callsIn_of_wp_marks hfn hb (hF.fn g) (bU (hw hok.1 Γ { tmps := (⟨args.map (con Γ)⟩ : Array Z6) ++ Array.replicate (fn.ntmps - (⟨args.map (con Γ)⟩ : Array Z6).size) undef, defers := [] } w
   ⟨⟨by rw[iZ1];exact hU,by rw[harr];simp[qQ0],hr.gl⟩,by
    intro x hx
    have hx:x∈(FR fn.ntmps (zU0 0 args)).arr.toList:=hx
    rw[harr] at hx
    simp only[Array.toList_append,List.mem_append] at hx
    rcases hx with hx|hx
    ·exact hsc x hx
    ·simp at hx;rw[hx.2];rfl,⟨rfl,λd hd=>by cases hd⟩,hr⟩ F.plain n _ hF' rfl (λl h=>by cases h) ?_)) rfl
 intro e s' Γ' ca' w' hfin hag hle hbel hst
 have hfin':endR p.P fn.results.toList R s':=by
  cases e with
  | normal=>exact hfin
  | ret=>exact hfin
  | exit i=>exact hfin.elim
  | goto l=>exact hfin.elim
 have hR:LeavesInM F.plain n p.P fn ca'.tmps R' ca'.defers .returning w':=by
  unfold endR at hfin'
  split at hfin'
  ·rename_i h1 hm
   split at hfin'
   ·rename_i v hres
    rw[hst.df.1]
    refine yG0 _ _ _ _ hst.hr hm λw'' hr'' hn'' hb''=>?_
    refine ⟨_,cG0 hr'' hst.tm (by rw[zW1];exact hres),hK v h1 Γ' w'' hfin' hag (by rw[hn''];exact hle) (hbel.trans hb'') hr'' ?_⟩
    exact zV1 hr'' (λx hx=>by rw[hn''];exact hst.sc x hx) hres
   ·exact hfin'.elim
  ·exact hfin'.elim
 cases e with
 | normal=>exact hR
 | ret=>exact hR
 | exit i=>exact hfin.elim
 | goto l=>exact hfin.elim
def rX0 (l:Nat)(R:Z6→jB→Prop)(e:jL)(s2:S):Prop:=
 match qZ s2.h l with
 | some r2=>R (.bool e.jump.isNone) (qY s2.h l { r2 with state:=if e.jump.isNone then .ready else .done,pending:=e.jump })
 | none=>False
def iN0 (p:Par)(l:Nat)(body:Code)(R:Z6→jB→Prop)(e:jL)(s1:S):Prop:=
 match e with
 | .normal=>match qZ s1.h l with
  | some r1=>r1.state=.ready∧WP p (some l) body ⟨s1.tm,s1.df,qY s1.h l { r1 with state:=.busy }⟩ (rX0 l R)
  | none=>False
 | _=>False
theorem gR.of {p:Par}{l:Nat}{r:Loop}{args:List Z6}{h:jB}{R:Z6→jB→Prop}{T:VT}(hg:qZ h l=some r)(hT:r.tmps=T.arr)(hU:T.sz<U)
  (hlen:args.length=r.params.toList.length) (hw:WP p (some l) r.assign ⟨uG0 T (r.params.toList.zip args),[],h⟩ (iN0 p l r.body R)):gR p l args h R:=by
 intro Γ w hr hsc o F hF n a K Q hK
 obtain ⟨_,hlo,hlt,h1,h2,h3,h4,f,hw0⟩:=kV hr hg
 rw[run_yield hw0 (by simpa[bI] using hlen)]
 rw[Oper.uponIn_round]
 refine ⟨λhd=>(by rw[hF.depth] at hd;cases hd),roundIn_of_wpIn (hF.fn _) ?_⟩
 have hFr:FW (F.inRound (Γ.b l)):=⟨hF.wide⟩
 have htm:(bI Γ f r).tmps=r.tmps.map (con Γ):=rfl
 have hps:(bI Γ f r).params=r.params:=rfl
 have hof:T.arr=r.tmps:=hT.symm
 rw[htm,hps,bC0 Γ r.params args hU hof]
 refine bU (hw h3 Γ _ w ⟨⟨by rw[cU0];exact hU,rfl,hr.gl⟩,cM0 r.params hU hof hsc h1,⟨rfl,λd hd=>by cases hd⟩,hr⟩ (F.inRound (Γ.b l)) (n-1) _ hFr rfl (λl' e=>by cases e;exact hlt) ?_)
 intro e s1 Γ1 ca1 w1 hass hag1 hle1 hb1 hst
 cases e with
 | exit i=>exact hass.elim
 | goto l=>exact hass.elim
 | ret=>exact hass.elim
 | normal=>
  simp only[iN0] at hass
  split at hass
  case h_2=>exact hass.elim
  rename_i r1 hg1
  obtain ⟨hst1,hbody⟩:=hass
  obtain ⟨_,hlo1,hlt1,h11,h12,h13,h14,f1,hw1⟩:=kV hst.hr hg1
  have hbl:Γ1.b l=Γ.b l:=hag1.b l hlt
  have hp1:=qG0 hst.hr hg1 hw1 .busy r1.pending
  refine ⟨_,run_beginRound (r:=bI Γ1 f1 r1) (by rw[← hbl];exact hw1) hst1,?_⟩
  refine bU (hbody h4 Γ1 ca1 _ ⟨hst.tm,hst.sc,hst.df,by rw[hbl] at hp1;exact hp1.1⟩ (F.inRound (Γ.b l)) (n-1) _ hFr (by simp[hbl]) (λl' e=>by cases e;exact hlt1) ?_)
  intro e s2 Γ2 ca2 w2 hrr hag2 hle2 hb2 hst2
  unfold rX0 at hrr
  split at hrr
  case h_2=>exact hrr.elim
  rename_i r2 hg2
  obtain ⟨_,hlo2,hlt2,h21,h22,h23,h24,f2,hw2⟩:=kV hst2.hr hg2
  have hag2':Ag Γ1 Γ2 s1.h.next:=hag2
  have hbl2:Γ2.b l=Γ.b l:=(hag2'.b l hlt1).trans hbl
  have hp2:=qG0 hst2.hr hg2 hw2 (if e.jump.isNone then .ready else .done) e.jump
  rw[hbl2] at hp2 hw2
  have hle2':s1.h.next≤s2.h.next:=hle2
  have hle1':h.next≤s1.h.next:=hle1
  have hbelow:Below p.B w w2:=hb1.trans (Below.trans (by rw[hbl] at hp1;exact hp1.2.1.below) hb2)
  have hend:∃ v w',(Instr.endRound (Γ.b l) e.jump).run p.P w2=.ok v w'∧K (a.put o.dst v) w':=by
   refine ⟨_,_,run_endRound (r:=bI Γ2 f2 r2) e.jump hw2,?_⟩
   have:=hK _ _ Γ2 _ hrr (hag1.trans hag2' hle1) (by have:=hp2.2.2;omega) (hbelow.trans hp2.2.1.below) hp2.1 rfl
   exact this
  cases e with
  | normal=>exact hend
  | exit id=>exact hend
  | goto t=>exact hend
  | ret=>exact hend
def lS0 (l:Nat)(s:S)(mk:List Nat)(R:jL→S→Prop)(_:Z6)(h2:jB):Prop:=
 match cH0 l ⟨s.tm,mk++s.df,h2⟩ with
 | some (e,s')=>R e s'
 | none=>False
theorem WP.range {p:Par}{ro:Z8 Nat}{g:Zo}{ps:Array Tmp}{a b:Code}{s:S}{R:jL→S→Prop}{l:Nat}{mk:List Nat}{h1:jB}(hent:uN0 ro s.tm ps a b s.h=some (l,mk,h1))
  {f:FuncId} {captured:List Z6} (hgv:ev s.tm g=.func (.func f) #[] ⟨captured⟩) (hc:jG p f (.func (.yield l) #[] #[] :: captured) h1 (lS0 l s mk R)):WP p ro (.rangeFunc g ps a b) s R:=by
 intro hok Γ ca w hst F n Q hF hro hl hQ
 simp only[qR,Z5] at hok
 refine gQ (by simp) (wpIn_rangeFunc λfn hfn=>?_)
 obtain ⟨Γ1,w1,hent1,hag1,hle1,hr1,hbel1,hl1',hmk1⟩:=iF0 hst hok.1.2 hok.2 hent fn
 have hng:p.NG≤s.h.next:=by have:=hst.hr.ng;have:=hst.hr.gn;omega
 have htm1:=hst.tm.ag hst.sc hag1 hng
 have hg0:=htm1.eval hok.1.1
 rw[hgv,bS] at hg0
 have hscg:scL s.h.next captured=true:=by
  have:=nS0 hst.hr hst.sc hok.1.1
  rw[hgv] at this
  simp only[sc,Z5] at this
  exact this.2
 have hargs:(#[Value.func (.yield (Γ1.b l)) #[] #[]]++(⟨captured⟩:Array Z6).map (con Γ1))=⟨(Value.func (.yield l) #[] #[] :: captured).map (con Γ1)⟩:=by
  apply Array.ext'
  simp[con,wY0,conL]
 have hbd := hc Γ1 w1 hr1 (fun x hx => by
   simp only[List.mem_cons] at hx
   rcases hx with hx|hx
   ·subst hx
    simp only[sc,scL,Bool.and_true,Nat.blt_eq]
    exact hl1'
   ·exact qU hle1 x (qV hscg x hx))
 have hbd2:=hbd.2 F hF (n-1) (rangePost F n p.P (Γ1.b l) Q { ca with defers:=marks Γ1 mk++ca.defers }) (by
  intro v h2 Γ2 w2 hlv hag2 hle2 hbel2 hr2 _
  unfold lS0 at hlv
  split at hlv
  case h_2=>exact hlv.elim
  rename_i e s' he
  unfold cH0 at he
  split at he
  ·rename_i r hg
   obtain ⟨_,_,_,_,_,_,_,f2,hw2⟩:=kV (h:=h2) hr2 hg
   have hbl:Γ2.b l=Γ1.b l:=hag2.b l hl1'
   have hput:=qG0 hr2 hg hw2 .exhausted r.pending
   rw[hbl] at hw2 hput
   split at he
   ·cases he
   ·rename_i hnb
    obtain ⟨W,hrunW,hrelW,hfrW⟩:∃ W,(Instr.endLoop (Γ1.b l)).run p.P w2=.ok r.pending W∧jU p Γ2 (qY h2 l { r with state:=.exhausted }) W∧Fr p Γ2 h2 w2 W:=
     ⟨_,run_endLoop (r:=bI Γ2 f2 r) hw2 hnb,hput.1,hput.2.1⟩
    have hag:Ag Γ Γ2 s.h.next:=hag1.trans hag2 hle1
    have hnx:(qY h2 l { r with state:=.exhausted }).next=h2.next:=rfl
    have hstn:St p Γ2 ({ tm:=s.tm,df:=mk++s.df,h:=qY h2 l { r with state:=.exhausted } }:S) { ca with defers:=marks Γ1 mk++ca.defers } W:=by
     refine ⟨?_,λv hv=>qU (by rw[hnx];omega) v (hst.sc v hv),⟨?_,?_⟩,hrelW⟩
     ·have:=hst.tm.ag hst.sc hag hng
      exact ⟨this.sm,this.tm,this.gl⟩
     ·show marks Γ1 mk++ca.defers=marks Γ2 (mk++s.df)
      have e1:marks Γ2 (mk++s.df)=marks Γ2 mk++marks Γ2 s.df:=by simp[marks]
      rw[e1,hst.df.1,bS0 hag2 hmk1,bS0 hag hst.df.2]
     ·intro d hd
      simp only[List.mem_append] at hd
      rw[hnx]
      rcases hd with hd|hd
      ·have:=hmk1 d hd;omega
      ·have:=hst.df.2 d hd;omega
    have hbel:Below p.B w W:=(hbel1.trans hbel2).trans hfrW.below
    have hfin : ∀ (e0 : jL), some (e0, ({ tm := s.tm, df := mk ++ s.df, h := qY h2 l { r with state := .exhausted } } : S)) = some (e, s') →
      Q e0.con { ca with defers:=marks Γ1 mk++ca.defers } W:=λe0 h1=>by
     cases h1
     exact hQ _ _ Γ2 _ _ hlv hag (by rw[hnx];omega) hbel hstn
    refine ⟨_,_,hrunW,?_⟩
    split at he
    ·rename_i hp
     rw[hp]
     exact hfin _ he
    ·rename_i id hp
     rw[hp]
     exact wpIn_exit (hfin _ he)
    ·rename_i tt hp
     rw[hp]
     exact wpIn_goto (hfin _ he)
    ·rename_i hp
     rw[hp]
     exact wpIn_ret (hfin _ he)
    ·cases he
  ·cases he)
 refine ⟨Γ1.b l,marks Γ1 mk,w1,{ target:=.fn (.func f) ((⟨captured⟩:Array Z6).map (con Γ1)),args:=#[Value.func (.yield (Γ1.b l)) #[] #[]] },w1,f,⟨(Value.func (.yield l) #[] #[] :: captured).map (con Γ1)⟩,w1,by rw[hro];exact hent1,?_,λf' _=>hF.fn f',?_,λhd=>(by rw[hF.depth] at hd;cases hd),?_⟩
 ·simp only[resolve]
  rw[hg0]
  simp[Deferred.ofValue,wY0,Act.eval]
 ·simp only[invoke]
  rw[hargs]
  exact hbd.1
 ·exact hbd2
theorem qE0:∀ (off:Nat) (vs cs:List Z6),off+vs.length≤cs.length→setE off vs cs=some (jJ cs off vs):=by
 have h0:∀ (vs cs:List Z6),vs.length≤cs.length→kR0 vs cs=some (jJ cs 0 vs):=by
  intro vs
  induction vs with
  | nil=>intro cs _;simp[kR0,jJ]
  | cons v vs ih=>
   intro cs hl
   cases cs with
   | nil=>simp at hl
   | cons c cs=>
    have:=ih cs (by simpa using hl)
    show (Option.rec none (λx=>some (v :: x)) (kR0 vs cs):Z8 (List Z6))=_
    rw[this]
    simp[jJ]
 intro off
 induction off with
 | zero=>intro vs cs hl;exact h0 vs cs Z0
 | succ off ih=>
  intro vs cs hl
  cases cs with
  | nil=>simp at hl
  | cons c cs=>
   have:=ih vs cs (by simp at hl;omega)
   show (Option.rec none (λx=>some (c :: x)) (setE off vs cs):Z8 (List Z6))=_
   rw[this]
   simp[jJ,Nat.add_right_comm]
theorem wP0 (cs:List Z6)(off n:Nat)(hle:off+n≤cs.length):takeN cs off n=some ((cs.drop off).take n):=by
 have h1:∀ (k:Nat) (l:List Z6),k≤l.length→qD0 k l=some (l.take k):=by
  intro k
  induction k with
  | zero=>intro l _;rfl
  | succ k ih=>
   intro l hl
   cases l with
   | nil=>simp at hl
   | cons x l=>
    show (Option.rec none (λy=>some (x :: y)) (qD0 k l):Z8 (List Z6))=_
    rw[ih l (by simpa using hl)]
    rfl
 have h2:∀ (k:Nat) (l:List Z6),k≤l.length→yI0 k l=some (l.drop k):=by
  intro k
  induction k with
  | zero=>intro l _;rfl
  | succ k ih=>
   intro l hl
   cases l with
   | nil=>simp at hl
   | cons x l=>exact ih l (by simpa using hl)
 simp only[takeN,h2 off cs Z0,h1 n (cs.drop off) (by simp;omega)]
def kI (c a b:Z6):Z8 Z6:=match c with | .bool true=>some a | .bool false=>some b|_=>none
def extV (v:Z6)(i:Nat):Z8 Z6:=match v with | .tuple vs=>vs[i]?|_=>none
def unV (P:Z9)(op:UnOp)(v:Z6):Z8 Z6:=pvF P (Op.unary op v) (flat v)
def fld (P:Z9)(s:Zt)(f:Nat):Z8 Nat:=match P.underlying s with
 | some (.struct fs)=>match fs[f]? with
  | some fl=>match szT P fl.type with
   | some (_+1)=>some fl.offset
   | _=>none
  | none=>none
 | _=>none
def faV (o:Z8 Nat)(v:Z6):Z8 Z6:=match o,v with
 | some o,.pointer (some a)=>some (.pointer (some (a.add o)))
 | _,_=>none
def uL0 (b:Zb)(n:Nat)(cs:List Z6)(off:Nat):Z8 Z6:=match b with
 | true=>if off+n≤cs.length then some (.agg ⟨(cs.drop off).take n⟩) else none
 | false=>cs[off]?
def knd (P:Z9)(t:Zt):Z8 (Zb×Nat):=match gM0 P t with
 | some true=>match szT P t with | some n=>some (true,n) | none=>none
 | some false=>some (false,0)
 | none=>none
theorem lJ0 {P:Z9}{t:Zt}{b:Zb}{n:Nat}{cs:List Z6}{off:Nat}{v:Z6}(hk:knd P t=some (b,n))(h:uL0 b n cs off=some v):kP0 P t cs off=some v:=by
 unfold knd at hk
 unfold kP0
 split at hk
 ·rename_i ha
  split at hk<;>cases hk
  rename_i hs
  simp only[uL0] at h
  split at h<;>cases h
  rename_i hle
  have ht:=wP0 cs off n hle
  simp only[takeN] at ht
  rw[ha];simp only[hs]
  cases hd:yI0 off cs with
  | none=>rw[hd] at ht;cases ht
  | some l=>rw[hd] at ht;simp only[ht]
 ·rename_i ha
  cases hk
  rw[ha];exact h
 ·cases hk
def fldT (P:Z9)(s:Zt)(f:Nat):Z8 (Zb×Nat×Nat):=match P.underlying s with
 | some (.struct fs)=>match fs[f]? with
  | some fl=>match knd P fl.type with
   | some (b,n)=>some (b,n,fl.offset)
   | none=>none
  | none=>none
 | _=>none
def fdV (f:Z8 (Zb×Nat×Nat))(v:Z6):Z8 Z6:=match f,v with
 | some (b,n,off),.agg cs=>uL0 b n cs.toList off
 | _,_=>none
def esz (P:Z9)(t:Zt):Z8 (Z8 Nat×Nat):=match P.underlying t with
 | some (.slice e)=>match szT P e with | some n=>some (none,n) | none=>none
 | some (.array len e)=>match szT P e with | some n=>some (some len,n) | none=>none
 | _=>none
def iaV (z:Z8 (Z8 Nat×Nat))(x i:Z6):Z8 Z6:=match z,x,i with
 | some (none,n),.slice (some a) len _,.int _ i=>if 0≤i∧i<len then some (.pointer (some (a.add (i.toNat*n)))) else none
 | some (some len,n),.pointer (some a),.int _ i=>if 0≤i∧i<len then some (.pointer (some (a.add (i.toNat*n)))) else none
 | _,_,_=>none
def ixT (P:Z9)(t:Zt):Z8 (Z8 (Zb×Nat×Nat×Nat)):=match P.underlying t with
 | some .string=>some none
 | some (.array len e)=>match knd P e,szT P e with
  | some (b,n),some z=>some (some (b,n,z,len))
  | _,_=>none
 | _=>none
def qN1 (s:ByteArray)(i:Nat):Int:=((s.data.toList.getD i 0).toNat:Int)
def ixV (z:Z8 (Z8 (Zb×Nat×Nat×Nat)))(x i:Z6):Z8 Z6:=match z,x,i with
 | some none,.string s,.int _ i=>if 0≤i∧i<s.size then some (.int .u8 (qN1 s i.toNat)) else none
 | some (some (b,n,z,len)),.agg cs,.int _ i=>if 0≤i∧i<len then uL0 b n cs.toList (i.toNat*z) else none
 | _,_,_=>none
def slV (P:Z9)(t:Zt)(x:Z6)(lo hi mx:Z8 Z6)(h:jB):Z8 Z6:=match x with
 | .string s=>pvF P (Instr.sliceAt t (.string s) lo hi mx) (lo.all flat&&hi.all flat&&mx.all flat)
 | .slice a n c=>match kC P t a n c lo hi mx with | some v=>some v | none=>match kB P t a n c lo hi mx h with | some v=>some v | none=>gS P t a n c lo hi mx h
 | .pointer (some a)=>qW0 P t a lo hi mx
 | _=>none
def ncV (v:Z6):Z8 Z6:=match v with
 | .pointer (some a)=>some (.pointer (some a))
 | .func (.func g) f c=>some (.func (.func g) f c)
 | _=>none
def isI (P:Z9)(t:Zt):Z8 Zb:=match P.underlying t with
 | some (.interface _)=>some true
 | some _=>some false
 | none=>none
def miV (b:Z8 Zb)(t:Zt)(v:Z6):Z8 Z6:=match b with|some false=>some (.iface t v)|_=>none
def lnT (P:Z9)(t:Zt):Z8 Zb:=match P.underlying t with
 | some .string=>some true
 | some (.slice _)=>some false
 | _=>none
def lnB (b:Z8 Zb)(v:Z6):Z8 Z6:=match b,v with
 | some true,.string s=>some (.int .i64 s.size)
 | some false,.slice _ n _=>some (.int .i64 n)
 | _,_=>none
def mnV (P:Z9)(ts:Array Zt)(t:Zt)(l:List Z6):Z8 Z6:=pvF P (Builtin.min_ ts t ⟨l⟩) (qT l)
def mxV (P:Z9)(ts:Array Zt)(t:Zt)(l:List Z6):Z8 Z6:=pvF P (Builtin.max_ ts t ⟨l⟩) (qT l)
def plc (P:Z9)(t:Zt):Z8 (List (Nat×Nat)×List Z6):=match P.info? t with
 | none=>none
 | some i=>match i.zero with
  | none=>none
  | some z=>match flat z,P.underlying t with
   | true,some (.struct fs)=>match placesOf P fs.toList with
    | some pl=>some (pl,z.cells.toList)
    | none=>none
   | true,some (.array len e)=>match szT P e with
    | some n=>some ((List.range len).map (λi=>(i*n,n)),z.cells.toList)
    | none=>none
   | _,_=>none
def wD0 (pl:List (Nat×Nat)):List Z6→List (Nat×Z6)→Z8 (List Z6)
 | cs,[]=>some cs
 | cs,(i,v) :: rest=>match pl[i]? with
  | some (off,n)=>if v.cells.toList.length=n∧off+n≤cs.length then wD0 pl (jJ cs off v.cells.toList) rest else none
  | none=>none
def bdV (z:Z8 (List (Nat×Nat)×List Z6))(parts:List (Nat×Z6)):Z8 Z6:=match z with
 | some (pl,cs)=>match wD0 pl cs parts with
  | some cs'=>some (.agg ⟨cs'⟩)
  | none=>none
 | none=>none
theorem kC0 {place:Nat→Z8 (Nat×Nat)}{pl:List (Nat×Nat)}(hp:∀ i x,pl[i]?=some x→place i=some x):∀ (parts:List (Nat×Z6)) (cs cs':List Z6),
  wD0 pl cs parts=some cs'→zT0 place cs parts=some cs'
 | [],cs,cs',h=>h
 | (i,v) :: rest,cs,cs',h=>by
  simp only[wD0] at h
  split at h
  ·rename_i off n hx
   split at h
   ·rename_i hc
    have hs:=qE0 off v.cells.toList cs Z0
    have hb:Nat.beq v.cells.size n=true:=by
     rw[Nat.beq_eq];simpa using hc.1
    simp only[zT0,hp i _ hx,hb,hs]
    exact kC0 hp rest _ cs' h
   ·cases h
  ·cases h
theorem sF1 {P:Z9}{t:Zt}{parts:List (Nat×Z6)}{v:Z6}(h:bdV (plc P t) parts=some v):zN0 P t parts=some v:=by
 unfold bdV plc at h
 unfold zN0
 cases hi:P.info? t with
 | none=>rw[hi] at h;cases h
 | some i=>
  rw[hi] at h
  dsimp only at h ⊢
  cases hz:i.zero with
  | none=>rw[hz] at h;cases h
  | some z=>
   rw[hz] at h
   dsimp only at h ⊢
   cases hf:flat z with
   | false=>rw[hf] at h;cases h
   | true=>
    rw[hf] at h
    cases hu:P.underlying t with
    | none=>rw[hu] at h;cases h
    | some d=>
     rw[hu] at h
     cases d with
     | struct fs=>
      dsimp only at h ⊢
      cases hp:placesOf P fs.toList with
      | none=>rw[hp] at h;cases h
      | some pl=>
       rw[hp] at h
       dsimp only at h ⊢
       split at h<;>cases h
       rename_i cs' hc
       rw[kC0 (place:=λi=>pl[i]?) (λi x hx=>hx) _ _ _ hc]
     | array len e=>
      dsimp only at h ⊢
      cases hs:szT P e with
      | none=>rw[hs] at h;cases h
      | some n=>
       rw[hs] at h
       dsimp only at h ⊢
       split at h<;>cases h
       rename_i cs' hc
       rw[kC0 (place:=λi=>some (i*n,n)) (λi x hx=>by
        rw[List.getElem?_map] at hx
        cases hr:(List.range len)[i]? with
        | none=>rw[hr] at hx;cases hx
        | some j=>
         rw[hr] at hx
         obtain ⟨_,hj⟩:=List.getElem?_eq_some_iff.1 hr
         simp at hj
         subst hj
         simpa using hx) _ _ _ hc]
     | _=>cases h
def btS (P : Z9) (s d : Zt) (x : Z6) (h : jB) : Z8 Z6 := match P.underlying s, P.underlying d, x with
  | some (.slice e),some .string,.slice none _ _=>match P.underlying e with
   | some (.int .u8)=>some (.string .empty)
   | _=>none
  | some (.slice e),some .string,.slice (some _) 0 _=>match P.underlying e with
   | some (.int .u8)=>some (.string .empty)
   | _=>none
  | some (.slice e),some .string,.slice (some ⟨g,off,none⟩) n _=>match P.underlying e,cells h g with
   | some (.int .u8),some (cs,_,_)=>match takeN cs off n with
    | some l=>match bytesOf l with
     | some l=>some (.string ⟨⟨l⟩⟩)
     | none=>none
    | none=>none
   | _,_=>none
  | _,_,_=>none
def cvP (P:Z9)(s d:Zt)(v:Z6):Z8 Z6:=pvF P (convert s d v) (flat v)
def cvV (P:Z9)(s d:Zt)(v:Z6)(h:jB):Z8 Z6:=match cvP P s d v with|some u=>some u|none=>btS P s d v h
def bare (o : Op) (t : TypeId) : Oper := ⟨none, o, t, "", #[], none⟩
def tp (P:Z9)(o:Op)(t:Zt)(tm:VT):Z8 Z6:=match o with
 | .move x=>some (ev tm x)
 | .assign x=>some (ev tm x)
 | .pick c a b=>kI (ev tm c) (ev tm a) (ev tm b)
 | .extract x i=>extV (ev tm x) i
 | .binOp op ty x y _=>jF P op ty x y (ev tm x) (ev tm y)
 | .unOp op _ x=>unV P op (ev tm x)
 | .fieldAddr s x f=>faV (fld P s f) (ev tm x)
 | .field s x f=>fdV (fldT P s f) (ev tm x)
 | .indexAddr s x i=>iaV (esz P s) (ev tm x) (ev tm i)
 | .index s x i=>ixV (ixT P s) (ev tm x) (ev tm i)
 | .build ty parts=>bdV (plc P ty) (parts.toList.map λx=>(x.1,ev tm x.2))
 | .makeFunc (.func g) f c=>some (.func (.func g) ⟨f.toList.map (ev tm)⟩ ⟨c.toList.map (ev tm)⟩)
 | .makeInterface ty x=>miV (isI P ty) ty (ev tm x)
 | .nilCheck x=>ncV (ev tm x)
 | .call ⟨.builtin .len,⟨[x]⟩,⟨[ty]⟩⟩=>lnB (lnT P ty) (ev tm x)
 | .call ⟨.builtin .min,args,ts⟩=>mnV P ts t (args.toList.map (ev tm))
 | .call ⟨.builtin .max,args,ts⟩=>mxV P ts t (args.toList.map (ev tm))
 | _=>none
def tv (P:Z9)(o:Op)(t:Zt)(tm:VT)(h:jB):Z8 Z6:=match o with
 | .load ty a=>jA P ty (ev tm a) h
 | .slice ty x lo hi mx=>slV P ty (ev tm x) (lo.map (ev tm)) (hi.map (ev tm)) (mx.map (ev tm)) h
 | .convert s d x=>cvV P s d (ev tm x) h
 | .lookup ty x i ok=>qG P ty (ev tm x) (ev tm i) ok h
 | .entry it=>jN0 (ev tm it) h
 | o=>tp P o t tm
def tailV (P:Z9)(t:Zt)(x:Z6)(lo hi mx:Z8 Z6)(h:jB):Z8 (Z6×Z6):=match x,mx with
 | .slice (some ⟨b,off,none⟩) len cap,none=>match P.underlying t,cells h b with
  | some (.slice e),some (cs,e',true)=>match szT P e with
   | some size=>match bounds len len none hi lo with
    | some (l, h', _) => if e' = e ∧ UC ≤ cap ∧ off = (cap - UC) * size ∧ 0 < size ∧ off + len * size ≤ cs.length ∧ l = len ∧ h' = len ∧ len < U then
      some (.slice (some ⟨b,off,none⟩) 0 0,.slice (some ⟨b,off+len*size,none⟩) 0 (cap+len)) else none
    | none=>none
   | none=>none
  | _,_=>none
 | _,_=>none
def tw (P:Z9)(o:Op)(tm:VT)(h:jB):Z8 (Z6×Z6):=match o with
 | .slice ty x lo hi mx=>tailV P ty (ev tm x) (lo.map (ev tm)) (hi.map (ev tm)) (mx.map (ev tm)) h
 | _=>none
theorem rC0 {P:Z9}{w:Zw}{t e:Zt}{a:Z8 Addr}{len cap size l h m:Nat}{lo hi mx:Z8 Z6}(hu:P.underlying t=some (.slice e))(hs:szT P e=some size)
  (hbr:(Instr.sliceBounds true len cap lo hi mx).run P w=.ok (l,h,m) w) :
  (Instr.sliceAt t (.slice a len cap) lo hi mx).run P w=.ok (.slice (if m=l then a else a.map (·.add (l*size))) (h-l) (m-l)) w:=by
 simp only[Instr.sliceAt,Instr.slice,Sem.run_bind,jM hu,Result.andThen_ok,hbr,kG hs,Sem.run_pure]
theorem wK1 {g off l K h' size:Nat}{w:Zw}(q:Zb)(hq:q=true↔K=l)(h7:h'=l) :
  (Result.ok (.slice (if (Option.none:Z8 Nat).getD K=l then some ⟨g,off,none⟩ else (some (⟨g,off,none⟩:Addr)).map (·.add (l*size))) (h'-l) ((Option.none:Z8 Nat).getD K-l)) w:Result Z6) =
  .ok (if q=true then .slice (some ⟨g,off,none⟩) 0 0 else .slice (some ⟨g,off+l*size,none⟩) 0 (K-l)) w:=by
 subst h7
 simp only[Option.getD_none,Option.map_some,addr_add]
 cases q with
 | true=>
  have hq:K=h':=hq.1 rfl
  simp[hq]
 | false=>
  have hq:¬ K=h':=λe=>by have:=hq.2 e;cases this
  simp[hq]
theorem cQ0 {p:Par}{t:Zt}{x:Z6}{lo hi mx:Z8 Z6}{v1 v2:Z6}{Γ:Gam}{h:jB}{w:Zw}(hr:jU p Γ h w)(he:tailV p.P t x lo hi mx h=some (v1,v2)) :
  ∃ g off len cap,x=.slice (some ⟨g,off,none⟩) len cap∧g<h.next∧
   ∀ q:Zb,(q=true↔Γ.k g-(cap-UC)=len)→(Instr.sliceAt t (con Γ x) (lo.map (con Γ)) (hi.map (con Γ)) (mx.map (con Γ))).run p.P w=.ok (con Γ (if q then v1 else v2)) w:=by
 unfold tailV at he
 split at he
 ·rename_i b off len cap
  split at he
  ·rename_i e cs e' hu hc
   split at he
   ·rename_i size hs
    split at he
    ·rename_i l h' m hbd
     split at he<;>cases he
     rename_i hcond
     obtain ⟨h1,h2,h3,h4,h5,h6,h7,h8⟩:=hcond
     subst h1 h6
     refine ⟨b,off,l,cap,rfl,?_⟩
     obtain ⟨hlt,rest,fr,hrow⟩:=hr.row hc (hr.m_own hc)
     refine ⟨hlt,?_⟩
     obtain ⟨ti,hti,hk⟩:=hrow.more rfl
     have hsz:ti.size=size:=by
      unfold szT at hs;rw[hti] at hs;simpa using hs
     rw[hsz] at hk
     have hcap:l≤Γ.k b-(cap-UC):=by
      have:(cap-UC+l)*size≤Γ.k b*size:=by
       rw[Nat.add_mul,← h3];omega
      have:=Nat.le_of_mul_le_mul_right this h4
      omega
     have hnot:¬ cap<UC:=Z0
     have hbr:=jP0 (P:=p.P) (w:=w) Γ true hbd hcap
     have hm:m=none:=by
      rcases (bK hbd).1 with ⟨_,h0⟩|⟨k,mm',h9,h0,hle⟩
      ·exact h0
      ·cases h9
     subst hm
     have hnk:¬ (cap+l<UC):=Z0
     have hsub:Γ.k b-(cap+l-UC)=Γ.k b-(cap-UC)-l:=by
      generalize UC=u at h2 ⊢
      omega
     have hcon:con Γ (.slice (some ⟨b,off,none⟩) l cap)=.slice (some ⟨Γ.b b,off,none⟩) l (Γ.k b-(cap-UC)):=by
      simp only[con,qN,if_neg hnot,uZ]
     have hcon1:con Γ (.slice (some ⟨b,off,none⟩) 0 0)=.slice (some ⟨Γ.b b,off,none⟩) 0 0:=by
      simp only[con,qN,if_pos eP0,uZ]
     have hcon2:con Γ (.slice (some ⟨b,off+l*size,none⟩) 0 (cap+l))=.slice (some ⟨Γ.b b,off+l*size,none⟩) 0 (Γ.k b-(cap-UC)-l):=by
      simp only[con,qN,if_neg hnk,uZ,hsub]
     intro q hq
     rw[hcon]
     have hif : con Γ (if q = true then Value.slice (some ⟨b, off, none⟩) 0 0 else .slice (some ⟨b, off + l * size, none⟩) 0 (cap + l)) =
       if q=true then .slice (some ⟨Γ.b b,off,none⟩) 0 0 else .slice (some ⟨Γ.b b,off+l*size,none⟩) 0 (Γ.k b-(cap-UC)-l):=by
      cases q
      ·exact hcon2
      ·exact hcon1
     rw[hif]
     clear hcon hcon1 hcon2 hif hsub
     generalize Γ.k b-(cap-UC)=K at hbr hcap hq ⊢
     rw[rC0 hu hs hbr]
     exact wK1 q hq h7
    ·cases he
   ·cases he
  ·cases he
 ·cases he
theorem rB0 {p:Par}{Γ:Gam}{h:jB}{w:Zw}(hr:jU p Γ h w){t:Zt}{x:Z6}{lo hi mx:Z8 Z6}{v1 v2:Z6}(he:tailV p.P t x lo hi mx h=some (v1,v2)) :
  ∃ b:Zb,∀ Γ' h' w',Ag Γ Γ' h.next→jU p Γ' h' w'→tailV p.P t x lo hi mx h'=some (v1,v2)→
   (Instr.sliceAt t (con Γ' x) (lo.map (con Γ')) (hi.map (con Γ')) (mx.map (con Γ'))).run p.P w'=.ok (con Γ' (if b then v1 else v2)) w':=by
 obtain ⟨g,off,len,cap,hx,hg,_⟩:=cQ0 hr he
 obtain ⟨q,hq⟩:∃ q:Zb,q=true↔Γ.k g-(cap-UC)=len:=by
  by_cases hc:Γ.k g-(cap-UC)=len
  ·exact ⟨true,⟨λ_=>hc,λ_=>rfl⟩⟩
  ·exact ⟨false,⟨(λe=>by cases e),λe=>absurd e hc⟩⟩
 refine ⟨q,λΓ' h' w' hag hr' he'=>?_⟩
 obtain ⟨g',off',len',cap',hx',hg',hrun⟩:=cQ0 hr' he'
 rw[hx] at hx'
 simp only[Value.slice.injEq,Option.some.injEq,Addr.mk.injEq] at hx'
 obtain ⟨⟨rfl,rfl,_⟩,rfl,rfl⟩:=hx'
 rw[hag.k g hg] at hrun
 exact hrun q hq
theorem wL1 {P:Z9}{n:Nat}{t:Zt}{x:Z6}{lo hi mx:Z8 Z6}{h:jB}{v1 v2:Z6}(hx:sc n x=true)(he:tailV P t x lo hi mx h=some (v1,v2)):sc n v1=true∧sc n v2=true:=by
 unfold tailV at he
 split at he
 ·split at he
  ·split at he
   ·split at he
    ·split at he<;>cases he
     exact ⟨hx,hx⟩
    ·cases he
   ·cases he
  ·cases he
 ·cases he
theorem qQ1 {i n:Nat}(h:(i:Int)<n):Nat.blt i n=true:=by simp;omega
theorem iY0 {P:Z9}{o:Op}{t:Zt}{tm:VT}{v:Z6}(h:tp P o t tm=some v):bB P (bare o t) tm=some v:=by
 unfold tp at h
 split at h
 ·exact h
 ·exact h
 ·exact h
 ·exact h
 ·exact h
 ·exact h
 ·rename_i s x f
  simp only[bare,bB]
  unfold faV fld at h
  cases hu:P.underlying s with
  | none=>rw[hu] at h;cases h
  | some d=>
   rw[hu] at h
   cases d with
   | struct fs=>
    dsimp only at h ⊢
    cases hf:fs[f]? with
    | none=>rw[hf] at h;cases h
    | some fl=>
     rw[hf] at h
     dsimp only at h ⊢
     cases hs:szT P fl.type with
     | none=>rw[hs] at h;cases h
     | some n=>
      rw[hs] at h
      cases n with
      | zero=>cases h
      | succ n=>
       dsimp only at h
       split at h
       ·rename_i h1 h2
        cases h1
        cases h
        rw[h2]
        simp only[hf,hs]
       ·cases h
   | _=>cases h
 ·rename_i s x f
  simp only[bare,bB]
  unfold fdV fldT at h
  cases hu:P.underlying s with
  | none=>rw[hu] at h;cases h
  | some d=>
   rw[hu] at h
   cases d with
   | struct fs=>
    dsimp only at h ⊢
    cases hf:fs[f]? with
    | none=>rw[hf] at h;cases h
    | some fl=>
     rw[hf] at h
     dsimp only at h ⊢
     cases hs:knd P fl.type with
     | none=>rw[hs] at h;cases h
     | some bn=>
      obtain ⟨b,n⟩:=bn
      rw[hs] at h
      dsimp only at h
      split at h
      ·rename_i h1 h2
       cases h1
       rw[h2]
       simp only[hf]
       exact lJ0 hs h
      ·cases h
   | _=>cases h
 ·rename_i s x i
  simp only[bare,bB]
  unfold iaV esz at h
  cases hu:P.underlying s with
  | none=>rw[hu] at h;cases h
  | some d=>
   rw[hu] at h
   cases d with
   | slice e=>
    dsimp only at h ⊢
    cases hs:szT P e with
    | none=>rw[hs] at h;cases h
    | some n=>
     rw[hs] at h
     dsimp only at h
     split at h
     ·rename_i h1 h2 h3
      cases h1
      split at h<;>cases h
      rename_i hc
      obtain ⟨j,rfl⟩:=Int.eq_ofNat_of_zero_le hc.1
      have hc2:=hc.2
      rw[h2,h3]
      show (match Nat.blt j _,szT P e with|true,some size=>_|_,_=>none)=_
      rw[qQ1 hc2,hs]
      rfl
     ·rename_i h1 _ _;cases h1
     ·cases h
   | array len e=>
    dsimp only at h ⊢
    cases hs:szT P e with
    | none=>rw[hs] at h;cases h
    | some n=>
     rw[hs] at h
     dsimp only at h
     split at h
     ·rename_i h1 _ _;cases h1
     ·rename_i h1 h2 h3
      cases h1
      split at h<;>cases h
      rename_i hc
      obtain ⟨j,rfl⟩:=Int.eq_ofNat_of_zero_le hc.1
      have hc2:=hc.2
      rw[h2,h3]
      show (match Nat.blt j _,szT P e with|true,some size=>_|_,_=>none)=_
      rw[qQ1 hc2,hs]
      rfl
     ·cases h
   | _=>cases h
 ·rename_i s x i
  simp only[bare,bB]
  unfold ixV ixT at h
  cases hu:P.underlying s with
  | none=>rw[hu] at h;cases h
  | some d=>
   rw[hu] at h
   cases d with
   | string=>
    dsimp only at h
    split at h
    ·rename_i s' k i' h1 h2 h3
     split at h<;>cases h
     rename_i hc
     obtain ⟨j,rfl⟩:=Int.eq_ofNat_of_zero_le hc.1
     rw[h2,h3]
     have hj:j<s'.size:=by have:=hc.2;omega
     have hb:s'[j]?=some s'[j]:=getElem?_pos s' j hj
     have hg:s'.data.toList.getD j 0=s'[j]:=by
      have hj':j<s'.data.toList.length:=by rw[Array.length_toList];exact hj
      rw[List.getD_eq_getElem?_getD,List.getElem?_eq_getElem hj']
      rfl
     have hpv:∀ {α β:Type} (f:α→Sem β) (s:Sem α),pv P (s >>= f)=(pv P s).bind (λa=>pv P (f a)):=by
      intro α β f s
      show pv P (Sem.bind s f)=_
      induction s with
      | pure a=>rfl
      | program k ih=>exact ih P
      | mark m k ih=>exact ih
      | _=>rfl
     have hpu:pv P (underlying s)=some .string:=by
      simp only[underlying,hpv]
      simp only[program,pv,Option.bind_some,hu]
      rfl
     have hpp:∀ {α:Type} (a:α),pv P (pure a:Sem α)=some a:=λa=>rfl
     have hj0:(0:Int)≤(j:Int):=hc.1
     simp only[pvF,Instr.index,asIntOf,hpv,hpp,hpu,Option.bind_some,if_pos hj0,Z4,hb,qN1,hg,flat]
    ·rename_i h1 _ _;cases h1
    ·cases h
   | array len e=>
    dsimp only at h
    cases hk:knd P e with
    | none=>rw[hk] at h;cases h
    | some bn=>
     obtain ⟨b,n⟩:=bn
     rw[hk] at h
     cases hs:szT P e with
     | none=>rw[hs] at h;cases h
     | some z=>
      rw[hs] at h
      dsimp only at h
      split at h
      ·rename_i h1 _ _;cases h1
      ·rename_i h1 h2 h3
       cases h1
       split at h
       ·rename_i hc
        obtain ⟨j,rfl⟩:=Int.eq_ofNat_of_zero_le hc.1
        have hc2:=hc.2
        rw[h2,h3]
        show (match Nat.blt j len, szT P e with
          | true,some size=>kP0 P e _ (j*size)
          | _,_=>none)=_
        simp only[qQ1 hc2,hs]
        exact lJ0 hk h
       ·cases h
      ·cases h
   | _=>cases h
 ·exact sF1 h
 ·rename_i g f c
  cases h
  simp only[bare,bB]
  congr 2
  ·exact Array.ext' (by simp)
  ·exact Array.ext' (by simp)
 ·rename_i ty x
  simp only[bare,bB]
  unfold miV isI at h
  cases hu:P.underlying ty with
  | none=>rw[hu] at h;cases h
  | some d=>
   rw[hu] at h
   cases d<;>first|exact h|(cases h;done)
 ·exact h
 ·rename_i x ty
  unfold lnB lnT at h
  show (match P.underlying ty,ev tm x with
   | some .string,.string s=>some (goInt s.size)
   | some (.slice _),.slice _ n _=>some (goInt n)
   | _,_=>none)=_
  cases hu:P.underlying ty with
  | none=>rw[hu] at h;cases h
  | some d=>
   rw[hu] at h
   cases d with
   | string=>
    dsimp only at h
    split at h
    ·rename_i h2;rw[h2];exact h
    ·rename_i h1 _;cases h1
    ·cases h
   | slice e=>
    dsimp only at h
    split at h
    ·rename_i h1 _;cases h1
    ·rename_i h2;rw[h2];exact h
    ·cases h
   | _=>cases h
 ·rename_i args ts
  have:(⟨args.toList.map (ev tm)⟩:Array Z6)=args.map (ev tm):=Array.ext' (by simp)
  show pvF P (Builtin.min_ ts t (args.map (ev tm))) (qT (args.map (ev tm)).toList)=_
  rw[← this];exact h
 ·rename_i args ts
  have:(⟨args.toList.map (ev tm)⟩:Array Z6)=args.map (ev tm):=Array.ext' (by simp)
  show pvF P (Builtin.max_ ts t (args.map (ev tm))) (qT (args.map (ev tm)).toList)=_
  rw[← this];exact h
 ·cases h
theorem wC1 {P:Z9}{o:Op}{t:Zt}{tm:VT}{h:jB}{v:Z6}(he:tv P o t tm h=some v):bB P (bare o t) tm=some v∨zK0 P (bare o t) tm h=some v:=by
 unfold tv at he
 split at he
 ·exact .inr he
 ·rename_i ty x lo hi mx
  unfold slV at he
  simp only[bare,bB,zK0]
  split at he
  ·rename_i s hx;left;rw[hx];exact he
  ·rename_i a n c hx
   rw[hx]
   split at he
   ·rename_i u hu;cases he;left;exact hu
   ·right;exact he
  ·rename_i a hx;left;rw[hx];exact he
  ·cases he
 ·rename_i s d x
  unfold cvV at he
  split at he
  ·rename_i u hu;cases he;exact .inl hu
  ·exact .inr he
 ·exact .inr he
 ·exact .inr he
 ·exact .inl (iY0 he)
def jB.add (h:jB)(x:jV):jB:=(h.new x).2
def O (cs:List Z6)(e:Zt)(m:Zb):jV:=⟨.cells ⟨cs⟩ e,m⟩
theorem qZ0 {h:jB}{e:Zt}{cs:List Z6}{m:Zb}(hf:jT h.next cs=true):bC h e cs m=some (h.next,h.add (O cs e m)):=by
 unfold bC jB.add O
 rw[hf]
 rw[jB.new_eq]
def zro (P:Z9)(e:Zt):Z8 (List Z6):=match zeroOf P e with
 | some z=>match flat z with
  | true=>match jT 0 z.cells.toList with
   | true=>some z.cells.toList
   | false=>none
  | false=>none
 | none=>none
theorem gL {n m:Nat}(hle:n≤m){l:List Z6}(h:jT n l=true):jT m l=true:=by
 simp only[kU,Z5] at h ⊢
 exact ⟨h.1,qQ λv hv=>qU hle v (qV h.2 v hv)⟩
def alE (z:Z8 (List Z6))(e:Zt)(h:jB):Z8 (Z6×jB):=match z with
 | some cs=>some (.pointer (some ⟨h.next,0,none⟩),h.add (O cs e false))
 | none=>none
def bxE (e:Zt)(v:Z6)(h:jB):Z8 (Z6×jB):=if jT h.next v.cells.toList=true then some (.pointer (some ⟨h.next,0,none⟩),h.add (O v.cells.toList e false)) else none
def slT (P:Z9)(t:Zt):Z8 (Zt×Nat×List Z6):=match P.underlying t with
 | some (.slice e)=>match P.info? e with
  | some i=>match i.zero with
   | some z=>match Nat.beq z.cells.size i.size&&Nat.blt 0 i.size&&qT z.cells.toList&&jT 0 z.cells.toList with
    | true=>some (e,i.size,z.cells.toList)
    | false=>none
   | none=>none
  | none=>none
 | _=>none
def bsE (z:Z8 (Zt×Nat×List Z6))(len:Nat)(parts:List (Nat×Z6))(h:jB):Z8 (Z6×jB):=match z with
 | some (e, n, zs) => if len * n ≤ 16777216 then
   match wD0 ((List.range len).map (λi=>(i*n,n))) (List.replicate len zs).flatten parts with
   | some cs=>if jT h.next cs=true then some (.slice (some ⟨h.next,0,none⟩) len len,h.add (O cs e false)) else none
   | none=>none
  else none
 | none=>none
def stE (n:Z8 Nat)(a v:Z6)(h:jB):Z8 (Z6×jB):=match n,a with
 | some n,.pointer (some ⟨b,off,none⟩)=>match cells h b with
  | some (cs,e,m)=>if v.cells.toList.length=n∧jT h.next v.cells.toList=true∧h.lo≤b∧off+n≤cs.length then some (undef,h.put b (O (jJ cs off v.cells.toList) e m)) else none
  | none=>none
 | _,_=>none
def mkT (P:Z9)(t:Zt):Z8 (Zt×Nat×Nat×List Z6):=match P.underlying t with
 | some (.slice e)=>match P.info? e with
  | some i=>match i.zero with
   | some z=>match Nat.beq z.cells.size i.size&&Nat.blt 0 i.size&&qT z.cells.toList&&jT 0 z.cells.toList with
    | true=>some (e,i.size,i.bytes,z.cells.toList)
    | false=>none
   | none=>none
  | none=>none
 | _=>none
def msE (z:Z8 (Zt×Nat×Nat×List Z6))(l c:Z6)(h:jB):Z8 (Z6×jB):=match z,l,c with
 | some (e, _, by_, zs), .int _ l, .int _ c => if 0 ≤ l ∧ l ≤ c ∧ c * by_ + c < 100000000000000 then
   some (.slice (some ⟨h.next,0,none⟩) l.toNat c.toNat,h.add (O (List.replicate c.toNat zs).flatten e false)) else none
 | _,_,_=>none
def te (P:Z9)(o:Op)(t:Zt)(tm:VT)(h:jB):Z8 (Z6×jB):=match o with
 | .alloc e=>alE (zro P e) e h
 | .box e x=>bxE e (ev tm x) h
 | .buildSlice ty len parts=>bsE (slT P ty) len (parts.toList.map λx=>(x.1,ev tm x.2)) h
 | .store ty a x=>stE (szT P ty) (ev tm a) (ev tm x) h
 | .makeSlice ty l c=>msE (mkT P ty) (ev tm l) (ev tm c) h
 | .call ⟨.builtin .append,⟨[s,x]⟩,⟨[sT,xT]⟩⟩=>jE P sT xT (ev tm s) (ev tm x) h
 | o=>wE0 P (bare o t) tm h
theorem yZ0 {zs:List Z6}(n:Nat)(hz:jT 0 zs=true)(m:Nat):jT m (List.replicate n zs).flatten=true:=by
 have h:=gL (Nat.zero_le m) hz
 simp only[kU,Z5,List.all_eq_true] at h ⊢
 have hall:∀ v∈(List.replicate n zs).flatten,v∈zs:=λv hv=>by
  simp only[List.mem_flatten] at hv
  obtain ⟨l,hl,hv⟩:=hv
  rw[(List.mem_replicate.1 hl).2] at hv
  exact hv
 exact ⟨λv hv=>h.1 v (hall v hv),qQ λv hv=>qV h.2 v (hall v hv)⟩
theorem wH1 {P:Z9}{o:Op}{t:Zt}{tm:VT}{h h':jB}{v:Z6}(he:te P o t tm h=some (v,h')):wE0 P (bare o t) tm h=some (v,h'):=by
 unfold te at he
 split at he
 ·rename_i e
  unfold alE zro at he
  simp only[bare,wE0]
  cases hz:zeroOf P e with
  | none=>rw[hz] at he;cases he
  | some z=>
   rw[hz] at he
   dsimp only at he ⊢
   cases hf:flat z with
   | false=>rw[hf] at he;cases he
   | true=>
    rw[hf] at he
    dsimp only at he ⊢
    cases ho:jT 0 z.cells.toList with
    | false=>rw[ho] at he;cases he
    | true=>
     rw[ho] at he
     cases he
     rw[qZ0 (gL (Nat.zero_le _) ho)]
 ·rename_i e x
  unfold bxE at he
  split at he<;>cases he
  rename_i ho
  simp only[bare,wE0,qZ0 ho]
 ·rename_i ty len parts
  unfold bsE slT at he
  simp only[bare,wE0]
  cases hu:P.underlying ty with
  | none=>rw[hu] at he;cases he
  | some d=>
   rw[hu] at he
   cases d with
   | slice e=>
    dsimp only at he ⊢
    cases hi:P.info? e with
    | none=>rw[hi] at he;cases he
    | some i=>
     rw[hi] at he
     dsimp only at he ⊢
     cases hz:i.zero with
     | none=>rw[hz] at he;cases he
     | some z=>
      rw[hz] at he
      dsimp only at he ⊢
      cases hb:Nat.beq z.cells.size i.size&&Nat.blt 0 i.size&&qT z.cells.toList&&jT 0 z.cells.toList with
      | false=>rw[hb] at he;cases he
      | true=>
       rw[hb] at he
       dsimp only at he
       simp only[Z5] at hb
       split at he
       ·rename_i hle
        split at he
        ·rename_i cs hc
         split at he<;>cases he
         rename_i ho
         have hle':Nat.ble (len*i.size) 16777216=true:=by simpa using hle
         have hb':(Nat.beq z.cells.size i.size&&Nat.blt 0 i.size&&qT z.cells.toList)=true:=by simp only[Z5];exact hb.1
         rw[hle']
         simp only[hb']
         rw[show (parts.toList.map λ(x:Nat×Zo)=>(x.1,ev tm x.2))=(parts.toList.map λ(j,x)=>(j,ev tm x)) from rfl] at hc
         rw[kC0 (place:=λj=>some (j*i.size,i.size)) (λj x hx=>by
          rw[List.getElem?_map] at hx
          cases hr:(List.range len)[j]? with
          | none=>rw[hr] at hx;cases hx
          | some k=>
           rw[hr] at hx
           obtain ⟨_,hj⟩:=List.getElem?_eq_some_iff.1 hr
           simp at hj
           subst hj
           simpa using hx) _ _ _ hc]
         simp only[qZ0 ho]
        ·cases he
       ·cases he
   | _=>cases he
 ·rename_i ty a x
  unfold stE at he
  simp only[bare,wE0,yF0]
  split at he
  ·rename_i n b off hn ha
   rw[ha]
   dsimp only
   split at he
   ·rename_i cs e m hc
    split at he<;>cases he
    rename_i hcond
    obtain ⟨h1,h2,h3,h4⟩:=hcond
    rw[hc]
    simp only[hn]
    have hb:(Nat.beq (ev tm x).cells.size n&&jT h.next (ev tm x).cells.toList&&Nat.ble h.lo b)=true:=by
     simp only[Z5,Nat.beq_eq,Nat.ble_eq]
     exact ⟨⟨by simpa using h1,h2⟩,h3⟩
    rw[hb]
    have hs:=qE0 off (ev tm x).cells.toList cs Z0
    simp only[setN,hs]
    rfl
   ·cases he
  ·cases he
 ·rename_i ty l c
  unfold msE mkT at he
  simp only[bare,wE0,gS0]
  cases hu:P.underlying ty with
  | none=>rw[hu] at he;cases he
  | some d=>
   rw[hu] at he
   cases d with
   | slice e=>
    dsimp only at he ⊢
    cases hi:P.info? e with
    | none=>rw[hi] at he;cases he
    | some i=>
     rw[hi] at he
     dsimp only at he
     cases hz:i.zero with
     | none=>rw[hz] at he;cases he
     | some z=>
      rw[hz] at he
      dsimp only at he
      cases hb:Nat.beq z.cells.size i.size&&Nat.blt 0 i.size&&qT z.cells.toList&&jT 0 z.cells.toList with
      | false=>rw[hb] at he;cases he
      | true=>
       rw[hb] at he
       dsimp only at he
       simp only[Z5] at hb
       split at he
       ·rename_i h1 h2 h3
        cases h1
        split at he<;>cases he
        rename_i hc
        obtain ⟨hl,hlc,hlim⟩:=hc
        obtain ⟨l',rfl⟩:=Int.eq_ofNat_of_zero_le hl
        obtain ⟨c',rfl⟩:=Int.eq_ofNat_of_zero_le (Int.le_trans hl hlc)
        rw[h2,h3]
        have hb':(Nat.beq z.cells.size i.size&&Nat.blt 0 i.size&&qT z.cells.toList)=true:=by simp only[Z5];exact hb.1
        have hc':(Nat.ble l' c'&&Nat.blt (c'*i.bytes+c') U)=true:=by
         simp only[Z5,Nat.ble_eq,Nat.blt_eq]
         refine ⟨Z0,?_⟩
         have:((c'*i.bytes+c':Nat):Int)<100000000000000:=by rw[Int.natCast_add,Int.natCast_mul];exact hlim
         unfold U
         omega
        show (match P.info? e with
         | some i=>match Nat.ble l' c'&&Nat.blt (c'*i.bytes+c') U,i.zero with
          | true,some z=>match Nat.beq z.cells.size i.size&&Nat.blt 0 i.size&&qT z.cells.toList with
           | true=>match bC h e (List.replicate c' z.cells.toList).flatten false with
            | some (b,h')=>some (Value.slice (some ⟨b,0,none⟩) l' c',h')
            | none=>none
           | false=>none
          | _,_=>none
         | none=>none)=_
        rw[hi]
        simp only[hc',hz,hb',qZ0 (yZ0 c' hb.2 h.next),Z4]
       ·cases he
   | _=>cases he
 ·exact he
 ·exact he
end
end Go.Ev
