/-
  StacksOwn: for every list of raw processes and numbers the law returns true: that stacks that were handed in are not changed,whatever is written to what was told.
  Condition: none.
-/
import Derived.Test.YtgeakofgklcipaaTe
import Derived.Test.YtgeakofgklcipaaEve
import Derived.Test.YtgeakofgklcipaaRows
import Derived.ProofKit
import Derived.OpenShut
import Derived.Carry
import Derived.SizedLaws
import Derived.ChangeMaps5
set_option linter.unusedSimpArgs false
set_option linter.unusedVariables false
namespace Go.Proofs.Ytgeakofgklcipaa.stacksOwn
open Go Go.ChangeShapes Go.WideShapes Go.ChangeAt Go.RowKit Go.Ev Go.Dv
set_option maxRecDepth 100000
theorem own:ownKnob Try.prog.godebug=none:=by kernel_rfl
theorem laidO:laidOutB Try.prog=true:=by kernel_rfl
theorem laidW (w:World):LaidW 1 LL w:=⟨Nat.le_add_left 1 _,fun x hx=>by cases hx⟩
theorem lifted (os:Os) (started:os.Started) (H:Type) (enc:TypeId×Value→H) :
  ReturnsInHanded {} Try.checked os 6 .any (Rows.stacksOwnSpec.pre6 enc Try.prog Try.f6 Rows.stacksOwnRow.domain false) (Rows.stacksOwnSpec.post enc Try.prog Try.f6 false true false false):=by
 refine returnsInHanded_of_change_sized (C:=Try.checked) own started (by kernel_rfl) Try.func6
  (ChangeSpec.witness6 (enc:=enc) (C:=Try.checked) false ⟨#[],#[.slice none 0 0,.int .i64 0,.int .i64 0,.int .i64 0],[]⟩ 8 (by kernel_rfl) (by kernel_rfl) (by kernel_rfl) (by kernel_rfl)) ?_
 intro W base args ds gs before hval0 hW hcnd hsz _
 have hval:∀ (j:Nat) t v,Try.f6.params[j]?=some t→args[j]?=some v→Value.okWide Try.prog W .any base t v:=hval0
 have hW':=hW
 have hlt:=hW.lt
 obtain ⟨p,q,hA0,hV,rfl,hfz,hnd⟩:=hW
 have hA:DataW.TrodAll enc Try.prog W 0 (fun _=>true) true Try.f6.params.toList args.toList ds p:=hA0
 rw[Try.params6] at hA hval
 obtain ⟨v0,vs0,d0,ds0,p0,q0,hargs,rfl,rfl,h0,r0⟩:=trodAll_cons hA
 obtain ⟨v1,vs1,d1,ds1,p1,q1,rfl,rfl,rfl,h1,r1⟩:=trodAll_cons r0
 obtain ⟨v2,vs2,d2,ds2,p2,q2,rfl,rfl,rfl,h2,r2⟩:=trodAll_cons r1
 obtain ⟨v3,vs3,d3,ds3,p3,q3,rfl,rfl,rfl,h3,r3⟩:=trodAll_cons r2
 obtain ⟨rfl,rfl,rfl⟩:=trodAll_nil r3
 obtain rfl:args=#[v0,v1,v2,v3]:=by cases args;simp_all
 obtain ⟨rfl,rfl⟩:=trodVars_none hV
 have h0':=h0
 have h1':=h1
 have h2':=h2
 have h3':=h3
 obtain ⟨a0,l0,c0,rfl⟩:=okWide_slice Try.underlying22 (hval 0 22 v0 rfl rfl)
 obtain ⟨fu0,g0⟩:=h0
 obtain ⟨x0,o0,f0,e0⟩:=open_rbs fu0 g0 (List.all_eq_true.2 fun m hm=>List.all_eq_true.1 hsz m (DataW.weights_mem_each (j:=0) (t:=22) rfl rfl m hm))
 obtain ⟨x1,rfl,_,_,w1⟩:=open_int Try.underlying3 (hval 1 3 v1 rfl rfl) h1
 obtain ⟨x2,rfl,_,_,w2⟩:=open_int Try.underlying3 (hval 2 3 v2 rfl rfl) h2
 obtain ⟨x3,rfl,_,_,w3⟩:=open_int Try.underlying3 (hval 3 3 v3 rfl rfl) h3
 have hop:=(Op2.append (Op2.of o0) (Op2.append (Op2.of (Op.flat (cs:=[.int .i64 x1]) rfl rfl)) (Op2.append (Op2.of (Op.flat (cs:=[.int .i64 x2]) rfl rfl)) (Op2.of (Op.flat (cs:=[.int .i64 x3]) rfl rfl)))))
 obtain ⟨g0,hop⟩:=hop
 obtain ⟨rv,hpl,hsc⟩:=hop (max g0 W.heap.size) (Nat.le_max_left _ _) (Nat.le_max_right _ _)
 have hrun:Calls Try.prog 6 #[.slice a0 l0 c0,.int .i64 x1,.int .i64 x2,.int .i64 x3] W fun e W'=>e=.returned (.bool true)∧Below W.heap.size W W':=
  calls_of_callF (P:=Try.prog) (NG:=0) (s:=fun _=>0) (t:=fun _=>.empty) (by omega) LL_ok (laidW W) (Nat.zero_le _) (Nat.le_max_right g0 W.heap.size) (own_law (max g0 W.heap.size,W.heap.size) x0 x1 x2 x3 e0 f0) rv hpl hsc rfl
 refine hrun.mono fun e W' ⟨he,bel⟩=>?_
 subst he
 exact ⟨_,rfl,_,_,_,[],_,[],hW',trodAll_mk1 (shut_bool Try.underlying4 _),trodAll_cons_mk (Below.trod laidO (by kernel_rfl) (of_decide_eq_true (by kernel_rfl)) h0' bel (fun x hx=>hlt x (by simp[hx]))) (trodAll_cons_mk (Below.trod laidO (by kernel_rfl) (of_decide_eq_true (by kernel_rfl)) h1' bel (fun x hx=>hlt x (by simp[hx]))) (trodAll_cons_mk (Below.trod laidO (by kernel_rfl) (of_decide_eq_true (by kernel_rfl)) h2' bel (fun x hx=>hlt x (by simp[hx]))) (trodAll_cons_mk (Below.trod laidO (by kernel_rfl) (of_decide_eq_true (by kernel_rfl)) h3' bel (fun x hx=>hlt x (by simp[hx]))) (trodAll_mk0)))),rfl,bel.frame _,fun h=>by cases h⟩
theorem over:Rows.stacksOwnRow.holds Try.pinned (OpenSpec.ofChange Rows.stacksOwnSpec):=
 OpenClaim.holds_of_wide 6 Try.f6 rfl rfl rfl rfl rfl rfl rfl ⟨rfl,rfl,rfl,rfl,rfl⟩ rfl rfl rfl rfl rfl (by kernel_rfl) Try.func6 (by kernel_rfl)
  (of_decide_eq_true (by kernel_rfl)) (by unfold Func.isWrapper;first|(rw[if_pos (by decide +kernel)];kernel_rfl)|(rw[if_neg (by decide +kernel)];exact ⟨rfl,rfl⟩))
  (fun os started H enc _=>lifted os started H enc)
theorem proved:Rows.StacksOwnSaid:=
 over
end Go.Proofs.Ytgeakofgklcipaa.stacksOwn
