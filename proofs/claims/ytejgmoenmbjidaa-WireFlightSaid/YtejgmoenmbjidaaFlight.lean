/-
  WireFlight: for every list of numbers and every number the law returns true: what flies is in the order in which it was sent;what is delivered,dropped,is gone from its place.
  Condition: none.
-/
import Derived.Test.YtejgmoenmbjidaaVe
import Derived.Test.YtejgmoenmbjidaaVl
import Derived.Test.YtejgmoenmbjidaaRows
import Derived.ProofKit
import Derived.OpenShut
import Derived.Carry
import Derived.SizedLaws
import Derived.ChangeMaps5
set_option linter.unusedSimpArgs false
set_option linter.unusedVariables false
namespace Go.Proofs.Ytejgmoenmbjidaa.wireFlight
open Go.ChangeShapes Go.WideShapes Go.ChangeAt Go.RowKit Go.Ev
set_option maxRecDepth 100000
theorem own:ownKnob Try.prog.godebug=none:=by kernel_rfl
theorem laid:laidOutB Try.prog=true:=by kernel_rfl
theorem lifted (os:Os)(started:os.Started)(H:Type)(enc:TypeId×Value→H) :
  ReturnsInHanded {} Try.checked os 8 .any (Rows.wireFlightSpec.pre6 enc Try.prog Try.f8 Rows.wireFlightRow.domain false) (Rows.wireFlightSpec.post enc Try.prog Try.f8 false true false false):=by
 refine returnsInHanded_of_change_sized (C:=Try.checked) own started (by kernel_rfl) Try.func8
  (ChangeSpec.witness6 (enc:=enc) (C:=Try.checked) false ⟨#[],#[.slice none 0 0,.int .i64 0],[]⟩ 8 (by kernel_rfl) (by kernel_rfl) (by kernel_rfl) (by kernel_rfl)) ?_
 intro W base args ds gs before hval0 hW hcnd hsz _
 have hval:∀ (j:Nat) t v,Try.f8.params[j]?=some t→args[j]?=some v→Value.okWide Try.prog W .any base t v:=hval0
 have hW':=hW
 have hlt:=hW.lt
 obtain ⟨p,q,hA0,hV,rfl,hfz,hnd⟩:=hW
 have hA:DataW.TrodAll enc Try.prog W 0 (λ_=>true) true Try.f8.params.toList args.toList ds p:=hA0
 rw[Try.params8] at hA hval
 obtain ⟨v0,vs0,d0,ds0,p0,q0,hargs,rfl,rfl,h0,r0⟩:=trodAll_cons hA
 obtain ⟨v1,vs1,d1,ds1,p1,q1,rfl,rfl,rfl,h1,r1⟩:=trodAll_cons r0
 obtain ⟨rfl,rfl,rfl⟩:=trodAll_nil r1
 obtain rfl:args=#[v0,v1]:=by cases args;simp_all
 obtain ⟨rfl,rfl⟩:=trodVars_none hV
 have h0':=h0
 have h1':=h1
 obtain ⟨xs0,a0,c0,rfl,sl0,bl0,pl0,sc0⟩:=open_xs (hval 0 22 v0 rfl rfl) h0 (λelems spare hd=>sized_slice hsz (j:=0) (t:=22) (e:=3) (elems:=elems) (spare:=spare) rfl (by cases hd;rfl) Try.underlying22)
 obtain ⟨n1,rfl,lo1,hi1,_⟩:=open_int Try.underlying3 (hval 1 3 v1 rfl rfl) h1
 have hrun:Calls Try.prog 8 #[.slice a0 xs0.length c0,.int .i64 n1] W λe W'=>e=.returned (.bool true)∧Below W.heap.size W W':=
  calls_of_callE (P:=Try.prog) (NG:=0) (s:=λ_=>0) (t:=λ_=>.empty) (Nat.zero_le _) (Nat.le_refl _) (flight_law W.heap.size (baseH W.heap.size W) xs0 a0 c0 sl0 bl0 n1) (by simp only[plL,pl,pl0,Bool.and_true]) (by simp only[scL,sc,sc0,Bool.and_true]) rfl
 refine hrun.mono λe W' ⟨he,bel⟩=>?_
 subst he
 exact ⟨_,rfl,_,_,_,[],_,[],hW',trodAll_mk1 (shut_bool Try.underlying4 _),trodAll_cons_mk (Below.trod laid (by kernel_rfl) (of_decide_eq_true (by kernel_rfl)) h0' bel (λx hx=>hlt x (by simp[hx]))) (trodAll_cons_mk (Below.trod laid (by kernel_rfl) (of_decide_eq_true (by kernel_rfl)) h1' bel (λx hx=>hlt x (by simp[hx]))) (trodAll_mk0)),rfl,bel.frame _,λh=>by cases h⟩
theorem over:Rows.wireFlightRow.holds Try.pinned (OpenSpec.ofChange Rows.wireFlightSpec):=
 OpenClaim.holds_of_wide 8 Try.f8 rfl rfl rfl rfl rfl rfl rfl ⟨rfl,rfl,rfl,rfl,rfl⟩ rfl rfl rfl rfl rfl (by kernel_rfl) Try.func8 (by kernel_rfl)
  (of_decide_eq_true (by kernel_rfl)) (by unfold Func.isWrapper;first|(rw[if_pos (by decide +kernel)];kernel_rfl)|(rw[if_neg (by decide +kernel)];exact ⟨rfl,rfl⟩))
  (λos started H enc _=>lifted os started H enc)
theorem proved:Rows.WireFlightSaid:=
 over
end Go.Proofs.Ytejgmoenmbjidaa.wireFlight
