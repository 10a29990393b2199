/-
  WireOwn: for every three lists of numbers and every number the law returns true: values that were handed in,lists that were told,may be changed: a wire is not;two do not touch one another.
  Condition: none.
-/
import Derived.Test.YtejgmoenmbjidaaVe
import Derived.Test.YtejgmoenmbjidaaVl
import Derived.Test.YtejgmoenmbjidaaRows
import Derived.ProofKit
import Derived.OpenShut
import Derived.Carry
import Derived.SizedLaws
import Derived.ChangeMaps5
set_option linter.unusedSimpArgs false
set_option linter.unusedVariables false
namespace Go.Proofs.Ytejgmoenmbjidaa.wireOwn
open Go.ChangeShapes Go.WideShapes Go.ChangeAt Go.RowKit Go.Ev
set_option maxRecDepth 100000
theorem own:ownKnob Try.prog.godebug=none:=by kernel_rfl
theorem laid:laidOutB Try.prog=true:=by kernel_rfl
theorem lifted (os:Os)(started:os.Started)(H:Type)(enc:Zt×Z6→H) :
  ReturnsInHanded {} Try.checked os 9 .any (Rows.wireOwnSpec.pre6 enc Try.prog Try.f9 Rows.wireOwnRow.domain false) (Rows.wireOwnSpec.post enc Try.prog Try.f9 false true false false):=by
 refine returnsInHanded_of_change_sized (C:=Try.checked) own started (by kernel_rfl) Try.func9
  (ChangeSpec.witness6 (enc:=enc) (C:=Try.checked) false ⟨#[],#[.slice none 0 0,.slice none 0 0,.slice none 0 0,.int .i64 0],[]⟩ 8 (by kernel_rfl) (by kernel_rfl) (by kernel_rfl) (by kernel_rfl)) ?_
 intro W base args ds gs before hval0 hW hcnd hsz _
 have hval:∀ (j:Nat) t v,Try.f9.params[j]?=some t→args[j]?=some v→Value.okWide Try.prog W .any base t v:=hval0
 have hW':=hW
 have hlt:=hW.lt
 obtain ⟨p,q,hA0,hV,rfl,hfz,hnd⟩:=hW
 have hA:DataW.TrodAll enc Try.prog W 0 (λ_=>true) true Try.f9.params.toList args.toList ds p:=hA0
 rw[Try.params9] at hA hval
 obtain ⟨v0,vs0,d0,ds0,p0,q0,hargs,rfl,rfl,h0,r0⟩:=trodAll_cons hA
 obtain ⟨v1,vs1,d1,ds1,p1,q1,rfl,rfl,rfl,h1,r1⟩:=trodAll_cons r0
 obtain ⟨v2,vs2,d2,ds2,p2,q2,rfl,rfl,rfl,h2,r2⟩:=trodAll_cons r1
 obtain ⟨v3,vs3,d3,ds3,p3,q3,rfl,rfl,rfl,h3,r3⟩:=trodAll_cons r2
 obtain ⟨rfl,rfl,rfl⟩:=trodAll_nil r3
 obtain rfl:args=#[v0,v1,v2,v3]:=by cases args;simp_all
 obtain ⟨rfl,rfl⟩:=trodVars_none hV
 have h0':=h0
 have h1':=h1
 have h2':=h2
 have h3':=h3
 obtain ⟨xs0,a0,c0,rfl,sl0,bl0,pl0,sc0⟩:=open_xs (hval 0 22 v0 rfl rfl) h0 (λelems spare hd=>sized_slice hsz (j:=0) (t:=22) (e:=3) (elems:=elems) (spare:=spare) rfl (by cases hd;rfl) Try.underlying22)
 obtain ⟨xs1,a1,c1,rfl,sl1,bl1,pl1,sc1⟩:=open_xs (hval 1 22 v1 rfl rfl) h1 (λelems spare hd=>sized_slice hsz (j:=1) (t:=22) (e:=3) (elems:=elems) (spare:=spare) rfl (by cases hd;rfl) Try.underlying22)
 obtain ⟨xs2,a2,c2,rfl,sl2,bl2,pl2,sc2⟩:=open_xs (hval 2 22 v2 rfl rfl) h2 (λelems spare hd=>sized_slice hsz (j:=2) (t:=22) (e:=3) (elems:=elems) (spare:=spare) rfl (by cases hd;rfl) Try.underlying22)
 obtain ⟨n3,rfl,lo3,hi3,_⟩:=open_int Try.underlying3 (hval 3 3 v3 rfl rfl) h3
 have hrun:Calls Try.prog 9 #[.slice a0 xs0.length c0,.slice a1 xs1.length c1,.slice a2 xs2.length c2,.int .i64 n3] W λe W'=>e=.returned (.bool true)∧Below W.heap.size W W':=
  calls_of_callE (P:=Try.prog) (NG:=0) (s:=λ_=>0) (t:=λ_=>.empty) (Nat.zero_le _) (Z3 _) (own_law W.heap.size (baseH W.heap.size W) xs0 a0 c0 sl0 bl0 xs1 a1 c1 sl1 bl1 xs2 a2 c2 sl2 bl2 n3) (by simp only[plL,pl,pl0,pl1,pl2,Bool.and_true]) (by simp only[scL,sc,sc0,sc1,sc2,Bool.and_true]) rfl
 refine hrun.mono λe W' ⟨he,bel⟩=>?_
 subst he
 exact ⟨_,rfl,_,_,_,[],_,[],hW',trodAll_mk1 (shut_bool Try.underlying4 _),trodAll_cons_mk (Below.trod laid (by kernel_rfl) (of_decide_eq_true (by kernel_rfl)) h0' bel (λx hx=>hlt x (by simp[hx]))) (trodAll_cons_mk (Below.trod laid (by kernel_rfl) (of_decide_eq_true (by kernel_rfl)) h1' bel (λx hx=>hlt x (by simp[hx]))) (trodAll_cons_mk (Below.trod laid (by kernel_rfl) (of_decide_eq_true (by kernel_rfl)) h2' bel (λx hx=>hlt x (by simp[hx]))) (trodAll_cons_mk (Below.trod laid (by kernel_rfl) (of_decide_eq_true (by kernel_rfl)) h3' bel (λx hx=>hlt x (by simp[hx]))) (trodAll_mk0)))),rfl,bel.frame _,λh=>by cases h⟩
theorem over:Rows.wireOwnRow.holds Try.pinned (OpenSpec.ofChange Rows.wireOwnSpec):=
 OpenClaim.holds_of_wide 9 Try.f9 rfl rfl rfl rfl rfl rfl rfl ⟨rfl,rfl,rfl,rfl,rfl⟩ rfl rfl rfl rfl rfl (by kernel_rfl) Try.func9 (by kernel_rfl)
  (of_decide_eq_true (by kernel_rfl)) (by unfold Func.isWrapper;first|(rw[if_pos (by decide +kernel)];kernel_rfl)|(rw[if_neg (by decide +kernel)];exact ⟨rfl,rfl⟩))
  (λos started H enc _=>lifted os started H enc)
theorem proved:Rows.WireOwnSaid:=
 over
end Go.Proofs.Ytejgmoenmbjidaa.wireOwn
