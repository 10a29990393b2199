/-
  StepsPar: for every two raw processes the law returns true: what may be done beside one another is what may be done in the one,then in the other;in a row,in the first,or in the second once the first is nothing.
  Condition: none.
-/
import Derived.Test.YtgeakofgklcipaaTg
import Derived.Test.YtgeakofgklcipaaEve
import Derived.Test.YtgeakofgklcipaaRows
import Derived.ProofKit
import Derived.OpenShut
import Derived.Carry
import Derived.SizedLaws
import Derived.ChangeMaps5
set_option linter.unusedSimpArgs false
set_option linter.unusedVariables false
namespace Go.Proofs.Ytgeakofgklcipaa.stepsPar
open Go Go.ChangeShapes Go.WideShapes Go.ChangeAt Go.RowKit Go.Ev Go.Dv
set_option maxRecDepth 100000
theorem own:ownKnob Try.prog.godebug=none:=by kernel_rfl
theorem laidO:laidOutB Try.prog=true:=by kernel_rfl
theorem laidW (w:World):LaidW 1 LL w:=⟨Nat.le_add_left 1 _,fun x hx=>by cases hx⟩
theorem lifted (os:Os) (started:os.Started) (H:Type) (enc:TypeId×Value→H) :
  ReturnsInHanded {} Try.checked os 12 .any (Rows.stepsParSpec.pre6 enc Try.prog Try.f12 Rows.stepsParRow.domain false) (Rows.stepsParSpec.post enc Try.prog Try.f12 false true false false):=by
 refine returnsInHanded_of_change_sized (C:=Try.checked) own started (by kernel_rfl) Try.func12
  (ChangeSpec.witness6 (enc:=enc) (C:=Try.checked) false ⟨#[],#[witB,witB],[]⟩ 8 (by kernel_rfl) (by kernel_rfl) (by kernel_rfl) (by kernel_rfl)) ?_
 intro W base args ds gs before hval0 hW hcnd hsz _
 have hval:∀ (j:Nat) t v,Try.f12.params[j]?=some t→args[j]?=some v→Value.okWide Try.prog W .any base t v:=hval0
 have hW':=hW
 have hlt:=hW.lt
 obtain ⟨p,q,hA0,hV,rfl,hfz,hnd⟩:=hW
 have hA:DataW.TrodAll enc Try.prog W 0 (fun _=>true) true Try.f12.params.toList args.toList ds p:=hA0
 rw[Try.params12] at hA hval
 obtain ⟨v0,vs0,d0,ds0,p0,q0,hargs,rfl,rfl,h0,r0⟩:=trodAll_cons hA
 obtain ⟨v1,vs1,d1,ds1,p1,q1,rfl,rfl,rfl,h1,r1⟩:=trodAll_cons r0
 obtain ⟨rfl,rfl,rfl⟩:=trodAll_nil r1
 obtain rfl:args=#[v0,v1]:=by cases args;simp_all
 obtain ⟨rfl,rfl⟩:=trodVars_none hV
 have h0':=h0
 have h1':=h1
 obtain ⟨m0,rfl,z0⟩:=okWide_struct Try.underlying38 (hval 0 38 v0 rfl rfl)
 obtain ⟨m0⟩:=m0
 obtain ⟨fu0,g0⟩:=h0
 obtain ⟨x0,o0,f0⟩:=open_rb fu0 g0 (List.all_eq_true.2 fun m hm=>List.all_eq_true.1 hsz m (DataW.weights_mem_each (j:=0) (t:=38) rfl rfl m hm))
 obtain ⟨m1,rfl,z1⟩:=okWide_struct Try.underlying38 (hval 1 38 v1 rfl rfl)
 obtain ⟨m1⟩:=m1
 obtain ⟨fu1,g1⟩:=h1
 obtain ⟨x1,o1,f1⟩:=open_rb fu1 g1 (List.all_eq_true.2 fun m hm=>List.all_eq_true.1 hsz m (DataW.weights_mem_each (j:=1) (t:=38) rfl rfl m hm))
 have hop:=(Op2.append (Op2.agg o0) (Op2.agg o1))
 obtain ⟨g0,hop⟩:=hop
 obtain ⟨rv,hpl,hsc⟩:=hop (max g0 W.heap.size) (Nat.le_max_left _ _) (Nat.le_max_right _ _)
 have hrun:Calls Try.prog 12 #[.agg ⟨m0⟩,.agg ⟨m1⟩] W fun e W'=>e=.returned (.bool true)∧Below W.heap.size W W':=
  calls_of_callF (P:=Try.prog) (NG:=0) (s:=fun _=>0) (t:=fun _=>.empty) (by omega) LL_ok (laidW W) (Nat.zero_le _) (Nat.le_max_right g0 W.heap.size) (par_law (max g0 W.heap.size,W.heap.size) x0 x1 f0 f1) rv hpl hsc rfl
 refine hrun.mono fun e W' ⟨he,bel⟩=>?_
 subst he
 exact ⟨_,rfl,_,_,_,[],_,[],hW',trodAll_mk1 (shut_bool Try.underlying4 _),trodAll_cons_mk (Below.trod laidO (by kernel_rfl) (of_decide_eq_true (by kernel_rfl)) h0' bel (fun x hx=>hlt x (by simp[hx]))) (trodAll_cons_mk (Below.trod laidO (by kernel_rfl) (of_decide_eq_true (by kernel_rfl)) h1' bel (fun x hx=>hlt x (by simp[hx]))) (trodAll_mk0)),rfl,bel.frame _,fun h=>by cases h⟩
theorem over:Rows.stepsParRow.holds Try.pinned (OpenSpec.ofChange Rows.stepsParSpec):=
 OpenClaim.holds_of_wide 12 Try.f12 rfl rfl rfl rfl rfl rfl rfl ⟨rfl,rfl,rfl,rfl,rfl⟩ rfl rfl rfl rfl rfl (by kernel_rfl) Try.func12 (by kernel_rfl)
  (of_decide_eq_true (by kernel_rfl)) (by unfold Func.isWrapper;first|(rw[if_pos (by decide +kernel)];kernel_rfl)|(rw[if_neg (by decide +kernel)];exact ⟨rfl,rfl⟩))
  (fun os started H enc _=>lifted os started H enc)
theorem proved:Rows.StepsParSaid:=
 over
end Go.Proofs.Ytgeakofgklcipaa.stepsPar
