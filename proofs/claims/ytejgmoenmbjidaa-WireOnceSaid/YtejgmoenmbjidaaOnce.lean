/-
  WireOnce: for every list of values and every list of numbers the law returns true: each key is applied once at most,by the values in order;what is told of it is its value.
  Condition: none.
-/
import Derived.Test.YtejgmoenmbjidaaVe
import Derived.Test.YtejgmoenmbjidaaVl
import Derived.Test.YtejgmoenmbjidaaRows
import Derived.ProofKit
import Derived.OpenShut
import Derived.Carry
import Derived.SizedLaws
import Derived.ChangeMaps5
set_option linter.unusedSimpArgs false
set_option linter.unusedVariables false
namespace Go.Proofs.Ytejgmoenmbjidaa.wireOnce
open Go.ChangeShapes Go.WideShapes Go.ChangeAt Go.RowKit Go.Ev
set_option maxRecDepth 100000
theorem own:ownKnob Try.prog.godebug=none:=by kernel_rfl
theorem laid:laidOutB Try.prog=true:=by kernel_rfl
theorem lifted (os:Os)(started:os.Started)(H:Type)(enc:TypeId×Value→H) :
  ReturnsInHanded {} Try.checked os 4 .any (Rows.wireOnceSpec.pre6 enc Try.prog Try.f4 Rows.wireOnceRow.domain false) (Rows.wireOnceSpec.post enc Try.prog Try.f4 false true false false):=by
 refine returnsInHanded_of_change_sized (C:=Try.checked) own started (by kernel_rfl) Try.func4
  (ChangeSpec.witness6 (enc:=enc) (C:=Try.checked) false ⟨#[],#[.slice none 0 0,.slice none 0 0],[]⟩ 8 (by kernel_rfl) (by kernel_rfl) (by kernel_rfl) (by kernel_rfl)) ?_
 intro W base args ds gs before hval0 hW hcnd hsz _
 have hval:∀ (j:Nat) t v,Try.f4.params[j]?=some t→args[j]?=some v→Value.okWide Try.prog W .any base t v:=hval0
 have hW':=hW
 have hlt:=hW.lt
 obtain ⟨p,q,hA0,hV,rfl,hfz,hnd⟩:=hW
 have hA:DataW.TrodAll enc Try.prog W 0 (λ_=>true) true Try.f4.params.toList args.toList ds p:=hA0
 rw[Try.params4] at hA hval
 obtain ⟨v0,vs0,d0,ds0,p0,q0,hargs,rfl,rfl,h0,r0⟩:=trodAll_cons hA
 obtain ⟨v1,vs1,d1,ds1,p1,q1,rfl,rfl,rfl,h1,r1⟩:=trodAll_cons r0
 obtain ⟨rfl,rfl,rfl⟩:=trodAll_nil r1
 obtain rfl:args=#[v0,v1]:=by cases args;simp_all
 obtain ⟨rfl,rfl⟩:=trodVars_none hV
 have h0':=h0
 have h1':=h1
 obtain ⟨xs0,a0,c0,rfl,sl0,bl0,pl0,sc0⟩:=open_xs (hval 0 22 v0 rfl rfl) h0 (λelems spare hd=>sized_slice hsz (j:=0) (t:=22) (e:=3) (elems:=elems) (spare:=spare) rfl (by cases hd;rfl) Try.underlying22)
 obtain ⟨xs1,a1,c1,rfl,sl1,bl1,pl1,sc1⟩:=open_xs (hval 1 22 v1 rfl rfl) h1 (λelems spare hd=>sized_slice hsz (j:=1) (t:=22) (e:=3) (elems:=elems) (spare:=spare) rfl (by cases hd;rfl) Try.underlying22)
 have hrun:Calls Try.prog 4 #[.slice a0 xs0.length c0,.slice a1 xs1.length c1] W λe W'=>e=.returned (.bool true)∧Below W.heap.size W W':=
  calls_of_callE (P:=Try.prog) (NG:=0) (s:=λ_=>0) (t:=λ_=>.empty) (Nat.zero_le _) (Nat.le_refl _) (once_law W.heap.size (baseH W.heap.size W) xs0 a0 c0 sl0 bl0 xs1 a1 c1 sl1 bl1) (by simp only[plL,pl,pl0,pl1,Bool.and_true]) (by simp only[scL,sc,sc0,sc1,Bool.and_true]) rfl
 refine hrun.mono λe W' ⟨he,bel⟩=>?_
 subst he
 exact ⟨_,rfl,_,_,_,[],_,[],hW',trodAll_mk1 (shut_bool Try.underlying4 _),trodAll_cons_mk (Below.trod laid (by kernel_rfl) (of_decide_eq_true (by kernel_rfl)) h0' bel (λx hx=>hlt x (by simp[hx]))) (trodAll_cons_mk (Below.trod laid (by kernel_rfl) (of_decide_eq_true (by kernel_rfl)) h1' bel (λx hx=>hlt x (by simp[hx]))) (trodAll_mk0)),rfl,bel.frame _,λh=>by cases h⟩
theorem over:Rows.wireOnceRow.holds Try.pinned (OpenSpec.ofChange Rows.wireOnceSpec):=
 OpenClaim.holds_of_wide 4 Try.f4 rfl rfl rfl rfl rfl rfl rfl ⟨rfl,rfl,rfl,rfl,rfl⟩ rfl rfl rfl rfl rfl (by kernel_rfl) Try.func4 (by kernel_rfl)
  (of_decide_eq_true (by kernel_rfl)) (by unfold Func.isWrapper;first|(rw[if_pos (by decide +kernel)];kernel_rfl)|(rw[if_neg (by decide +kernel)];exact ⟨rfl,rfl⟩))
  (λos started H enc _=>lifted os started H enc)
theorem proved:Rows.WireOnceSaid:=
 over
end Go.Proofs.Ytejgmoenmbjidaa.wireOnce
