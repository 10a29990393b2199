/- A part of the proof: what functions hand back. No condition but those that theorems name. -/
import Derived.Test.YtejgmoenmbjidaaWd
import Derived.Test.YtejgmoenmbjidaaEvc
import Derived.ChangeMaps5
import Derived.Test.YtejgmoenmbjidaaRows
import Derived.ProofKit
import Derived.OpenShut
import Derived.Carry
import Derived.SizedLaws
set_option linter.unusedSimpArgs false
set_option linter.unusedVariables false
namespace Go.Proofs.Ytejgmoenmbjidaa
open Go Go.ChangeShapes Go.WideShapes Go.ChangeAt Go.RowKit Go.Ev
set_option maxRecDepth 100000
theorem dJ0 (k:IntKind)(n:Nat):∀ l:List Int,jT n (l.map (Value.int k))=true
 | []=>rfl
 | x :: l=>gM _ _ _ rfl (dJ0 k n l)
theorem iR1 {k:IntKind}{W:Zw}{b off len:Nat}{zs:List Int}(hl:len≤zs.length)(hc:∀ i,i<zs.length→W.cell? ((⟨b,off,none⟩:Addr).add i)=some (.int k (zs.getD i 0))) :
  Sl (baseH W.heap.size W) (some ⟨b,off,none⟩) ((zs.take len).map (Value.int k)):=by
 have hlen:((zs.take len).map (Value.int k)).length=len:=by rw[List.length_map,List.length_take];omega
 have hget:∀ i,i<len→((zs.take len).map (Value.int k))[i]?=some (Value.int k (zs.getD i 0)):=λi hi=>by
  rw[List.getElem?_map,List.getElem?_take,if_pos hi,List.getD_eq_getElem?_getD,List.getElem?_eq_getElem Z0]
  rfl
 cases hz:len with
 | zero=>subst hz;exact Sl.nil _ (bJ0 b off)
 | succ m=>
  have key:∀ i,i<len→∃ cs e,cells (baseH W.heap.size W) b=some (cs,e,false)∧cs[off+i]?=some (.int k (zs.getD i 0)):=λi hi=>by
   have h1:=hc i Z0
   rw[addr_add] at h1
   exact oE0 h1 rfl rfl rfl
  obtain ⟨cs,e,h1,h2⟩:=key 0 Z0
  have all:∀ i,i<len→cs[off+i]?=some (.int k (zs.getD i 0)):=λi hi=>by
   obtain ⟨cs',e',h3,h4⟩:=key i hi
   rw[h1] at h3
   cases h3
   exact h4
  have hle:off+len≤cs.length:=by
   have:=(List.getElem?_eq_some_iff.1 (all (len-1) Z0)).1
   omega
  rw[← hz]
  refine .inr ⟨b,off,cs,e,false,rfl,h1,by rw[hlen];exact hle,?_,.inr (dJ0 _ _ _)⟩
  rw[hlen]
  apply List.ext_getElem?
  intro i
  by_cases hi:i<len
  ·rw[List.getElem?_take,if_pos hi,List.getElem?_drop,all i hi,hget i hi]
  ·rw[List.getElem?_eq_none (by rw[List.length_take];omega),List.getElem?_eq_none (by rw[hlen];omega)]
theorem open_xs {W:Zw}{base:Nat}{v:Z6}{H:Type}{enc:Zt×Z6→H}{d:DataW H}{p:List MemPlace}(hv:Value.okWide Try.prog W .any base 22 v)(h:DataW.Trod enc Try.prog W 0 (λ_=>true) true 22 v d p)
  (hsz:∀ elems spare:List (DataW H),d=.slice elems spare→(elems.length+spare.length)*Try.checked.prog.bytesOf 3≤reachBytes) :
  ∃ (xs:List Int) (a:Z8 Addr) (c:Nat),v=.slice a xs.length c∧Sl (baseH W.heap.size W) a (ivs xs)∧(∀ b,blk a b→b<(baseH W.heap.size W).next)∧pl (.slice a xs.length c)=true∧sc W.heap.size (.slice a xs.length c)=true:=by
 obtain ⟨a1,len1,cap1,rfl⟩:=okWide_slice Try.underlying22 hv
 obtain ⟨fuel,hf⟩:=h
 rcases open_ints (k:=.i64) Try.underlying22 Try.underlying3 Z7 hf with ⟨h1,_⟩|⟨a,len,cap,zs,h1,_,hle,hmx,hzl,hx,hcells,_⟩
 ·cases h1
  exact ⟨[],none,0,rfl,Sl.nil _ jR0,(λb hb=>by obtain ⟨o,s,hb⟩:=hb;cases hb),rfl,rfl⟩
 ·cases h1
  simp only[Value.okWide,Try.underlying22,Cell.okWide,Cell.ok,World.has] at hv
  obtain ⟨_,_,_,hspot,row,cells',hshape,_⟩:=hv
  obtain ⟨b,off,sp⟩:=a
  have hspot:sp=none:=hspot
  subst hspot
  have hbl:b<W.heap.size:=by
   rcases Nat.lt_or_ge b W.heap.size with h2|h2
   ·exact h2
   ·simp[World.shape?,Array.getElem?_eq_none h2] at hshape
  have hzl:zs.length=cap1:=hzl
  have hcap:cap1<UC:=by
   have h3:=hsz (lits .i64 (zs.take len1)) (lits .i64 (zs.drop len1)) (by cases hx;rfl)
   have h4:Try.checked.prog.bytesOf 3=8:=Z7
   rw[h4] at h3
   simp only[lits,List.length_map,List.length_take,List.length_drop] at h3
   have h5:reachBytes=140737488351232:=rfl
   have h6:UC=1152921504606846976:=by unfold UC;rfl
   omega
  have hlen:(zs.take len1).length=len1:=by rw[List.length_take];omega
  have hsl:=iR1 (W:=W) (b:=b) (off:=off) (len:=len1) (zs:=zs) Z0 hcells
  refine ⟨zs.take len1,some ⟨b,off,none⟩,cap1,by rw[hlen],hsl,(λb' hb=>by obtain ⟨o,s,hb⟩:=hb;cases hb;exact hbl),?_,?_⟩
  ·simp only[pl];simpa using hcap
  ·simp only[sc,scA];simpa using hbl
end Go.Proofs.Ytejgmoenmbjidaa
