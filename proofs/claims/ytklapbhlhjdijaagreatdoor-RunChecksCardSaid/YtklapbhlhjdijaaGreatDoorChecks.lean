/-
  RunChecks: whether any core may be run is the document's;so is one of which one thing was turned.
  Condition: none beyond what the card ties (package variables as the program's text lays them).
-/
import Derived.Test.YtklapbhlhjdijaaGreatDoorRows
import Derived.Test.YtklapbhlhjdijaaGreatDoorTie
import Derived.Test.YtklapbhlhjdijaaGreatDoorCards
import Derived.SevenTiedAt
import Derived.LaidMore
import Derived.Stop.Joined
import Derived.Carry
import Derived.ChangeMaps5
import Derived.Test.YtklapbhlhjdijaaGreatDoorTf
import Derived.Test.YtklapbhlhjdijaaGreatDoorEve
import Derived.ProofKit
import Derived.OpenShut
set_option linter.unusedSimpArgs false
set_option linter.unusedVariables false
namespace Go.Proofs.YtklapbhlhjdijaaGreatDoor.runChecks
open _root_.Go.Proofs.Tryz (prog)
open Go Go.ChangeShapes Go.WideShapes Go.ChangeAt Go.RowKit Go.Ev Go.Dv
set_option maxRecDepth 100000
theorem own:ownKnob prog.godebug=none:=by kernel_rfl
theorem laidO:laidOutB prog=true:=by kernel_rfl
def laidK : List (String × DataW Unit) := [("penance/term.shapes", Rows.laid_penance_term_shapes)]
theorem v0 : VarAt prog laidK "penance/term.shapes" 0 Rows.laid_penance_term_shapes := ⟨by simp [laidK], rfl, by kernel_rfl⟩
theorem vTop : VarAt prog laidK "penance/term.shapes" 0 Rows.laid_penance_term_shapes := ⟨by simp [laidK], rfl, by kernel_rfl⟩
theorem laidW {w:Zw}(h:laidMetH prog laidK w):LaidW 1 LL w∧1≤w.heap.size:=⟨⟨Nat.le_succ_of_le (vTop.size h),λx hx=>by
  simp only[LL,List.mem_cons,List.not_mem_nil,or_false] at hx
  rcases hx with rfl
  ·exact ⟨Nat.lt_of_lt_of_le Z1 (vTop.size h),by decide,v0.row h (n:=8) (by kernel_rfl) rfl⟩⟩,vTop.size h⟩
theorem door_met (os:Os)(args:Array Z6):laidMetH prog laidK ((World.doorLaid prog 400 os).forCall (λ_ _=>0) ⟨#[],args,[]⟩).memory:=
 laidMetH_of_parts3 (fuel:=8) (laidMet_of_run' 8 (by kernel_rfl) (by kernel_rfl)) (by kernel_rfl) (by kernel_rfl)
theorem lifted (os:Os)(started:os.Started)(H:Type)(enc:Zt×Z6→H) :
  ReturnsInHanded {} Tryz.checked os 3 .any (λw args=>(Rows.runChecksSpec.pre enc prog Tryz.f3 [] false w args∧laidMetH prog laidK w)∧sizedMet enc prog Tryz.f3 (OpenSpec.ofChange Rows.runChecksSpec) false w args)
   (Rows.runChecksSpec.post enc prog Tryz.f3 false true false false):=by
 refine returnsInHanded_of_change_and (C:=Tryz.checked) (X:=λw _=>laidMetH prog laidK w) (λ_ _ _ hh h=>h.of_heap hh) own started (by kernel_rfl) Tryz.func3
  (ChangeSpec.witness_shaped (enc:=enc) (C:=Tryz.checked) (os:=os) (X:=λw _=>laidMetH prog laidK w) false (World.doorLaid prog 400 os) #[witS,witC,.int .i64 0,.int .i64 0,.int .i64 0] 8 rfl (World.shaped_of_RefB (by kernel_rfl) (by kernel_rfl)) (by kernel_rfl) (by kernel_rfl) (by kernel_rfl) (door_met os _)) ?_
 intro W base args ds gs before hval0 hW _ hsz hL _
 have hval:∀ (j:Nat) t v,Tryz.f3.params[j]?=some t→args[j]?=some v→Value.okWide prog W .any base t v:=hval0
 have hW':=hW
 have hlt:=hW.lt
 obtain ⟨p,q,hA0,hV,rfl,hfz,hnd⟩:=hW
 have hA:DataW.TrodAll enc prog W 0 (λ_=>true) true Tryz.f3.params.toList args.toList ds p:=hA0
 rw[Tryz.params3] at hA hval
 obtain ⟨v0,vs0,d0,ds0,p0,q0,hargs,rfl,rfl,h0,r0⟩:=trodAll_cons hA
 obtain ⟨v1,vs1,d1,ds1,p1,q1,rfl,rfl,rfl,h1,r1⟩:=trodAll_cons r0
 obtain ⟨v2,vs2,d2,ds2,p2,q2,rfl,rfl,rfl,h2,r2⟩:=trodAll_cons r1
 obtain ⟨v3,vs3,d3,ds3,p3,q3,rfl,rfl,rfl,h3,r3⟩:=trodAll_cons r2
 obtain ⟨v4,vs4,d4,ds4,p4,q4,rfl,rfl,rfl,h4,r4⟩:=trodAll_cons r3
 obtain ⟨rfl,rfl,rfl⟩:=trodAll_nil r4
 obtain rfl:args=#[v0,v1,v2,v3,v4]:=by cases args;simp_all
 obtain ⟨rfl,rfl⟩:=trodVars_none hV
 have h0':=h0
 have h1':=h1
 have h2':=h2
 have h3':=h3
 have h4':=h4
 obtain ⟨m0,rfl,z0⟩:=okWide_struct Tryz.underlying24 (hval 0 24 v0 rfl rfl)
 obtain ⟨m0⟩:=m0
 obtain ⟨fu0,g0⟩:=h0
 obtain ⟨x0,o0,f0⟩:=open_sh fu0 g0 (List.all_eq_true.2 λm hm=>List.all_eq_true.1 hsz m (DataW.weights_mem_each (j:=0) (t:=24) rfl rfl m hm))
 obtain ⟨m1,rfl,z1⟩:=okWide_struct Tryz.underlying28 (hval 1 28 v1 rfl rfl)
 obtain ⟨m1⟩:=m1
 obtain ⟨fu1,g1⟩:=h1
 obtain ⟨x1,o1,f1⟩:=open_co fu1 g1 (List.all_eq_true.2 λm hm=>List.all_eq_true.1 hsz m (DataW.weights_mem_each (j:=1) (t:=28) rfl rfl m hm))
 obtain ⟨x2,rfl,_,_,w2⟩:=open_int Tryz.underlying3 (hval 2 3 v2 rfl rfl) h2
 obtain ⟨x3,rfl,_,_,w3⟩:=open_int Tryz.underlying3 (hval 3 3 v3 rfl rfl) h3
 obtain ⟨x4,rfl,_,_,w4⟩:=open_int Tryz.underlying3 (hval 4 3 v4 rfl rfl) h4
 have hop:=(Op2.append (Op2.agg o0) (Op2.append (Op2.agg o1) (Op2.append (Op2.of (Op.flat (cs:=[.int .i64 x2]) rfl rfl)) (Op2.append (Op2.of (Op.flat (cs:=[.int .i64 x3]) rfl rfl)) (Op2.of (Op.flat (cs:=[.int .i64 x4]) rfl rfl))))))
 obtain ⟨g0,hop⟩:=hop
 obtain ⟨rv,hpl,hsc⟩:=hop (max g0 W.heap.size) (Nat.le_max_left _ _) (Nat.le_max_right _ _)
 have hrun:Calls prog 3 #[.agg ⟨m0⟩,.agg ⟨m1⟩,.int .i64 x2,.int .i64 x3,.int .i64 x4] W λe W'=>e=.returned (.bool true)∧Below W.heap.size W W':=
  calls_of_callF (P:=prog) (NG:=1) (s:=λ_=>0) (t:=λ_=>.empty) Z0 LL_ok (laidW hL).1 (laidW hL).2 (Nat.le_max_right g0 W.heap.size) (checks_law (max g0 W.heap.size,W.heap.size) x0.1 x0.2.1 x0.2.2 x1 x2 x3 x4 f0.2 f0.1) rv hpl hsc rfl
 refine hrun.mono λe W' ⟨he,bel⟩=>?_
 subst he
 exact ⟨_,rfl,_,_,_,[],_,[],hW',trodAll_mk1 (shut_bool Tryz.underlying4 _),trodAll_cons_mk (Below.trod laidO (by kernel_rfl) (of_decide_eq_true (by kernel_rfl)) h0' bel (λx hx=>hlt x (by simp[hx]))) (trodAll_cons_mk (Below.trod laidO (by kernel_rfl) (of_decide_eq_true (by kernel_rfl)) h1' bel (λx hx=>hlt x (by simp[hx]))) (trodAll_cons_mk (Below.trod laidO (by kernel_rfl) (of_decide_eq_true (by kernel_rfl)) h2' bel (λx hx=>hlt x (by simp[hx]))) (trodAll_cons_mk (Below.trod laidO (by kernel_rfl) (of_decide_eq_true (by kernel_rfl)) h3' bel (λx hx=>hlt x (by simp[hx]))) (trodAll_cons_mk (Below.trod laidO (by kernel_rfl) (of_decide_eq_true (by kernel_rfl)) h4' bel (λx hx=>hlt x (by simp[hx]))) (trodAll_mk0))))),rfl,bel.frame _,λh=>by cases h⟩
theorem over:Rows.runChecksRow.holds Tryz.pinned (OpenSpec.ofChange Rows.runChecksSpec):=
 OpenClaim.holds_of_wide 3 Tryz.f3 rfl rfl rfl rfl rfl rfl rfl ⟨rfl,rfl,rfl,rfl,rfl⟩ rfl rfl rfl rfl rfl (by kernel_rfl) Tryz.func3 (by kernel_rfl)
  (of_decide_eq_true (by kernel_rfl)) (by unfold Func.isWrapper;first|(rw[if_pos (by decide +kernel)];kernel_rfl)|(rw[if_neg (by decide +kernel)];exact ⟨rfl,rfl⟩))
  (λos started H enc _=>lifted os started H enc)
theorem bare:Rows.RunChecksSaid:=
 over
theorem proved:Rows.RunChecksCardSaid:=
 Claim7.holds_tied_plain_at .later [] [.data] true (true, "3ffbbce29b5abee20d4bf98570f47bcb91dbd3fd3c7d6fc1551a5f32aed579c9") false
  bare (λ_ h=>by cases h) (by kernel_rfl) (λ_ h=>by cases h) runChecks_row_tie rfl ⟨rfl,rfl⟩ (by kernel_rfl) rfl
  (λf fn hf hfn=>by
   obtain rfl : f = 3 := Option.some.inj ((show prog.funcNamed "penance/penancelaw8.RunChecks" = some 3 by kernel_rfl).symm.trans hf) |>.symm
   obtain rfl:fn=Tryz.f3:=(Option.some.inj (Tryz.func3.symm.trans hfn)).symm
   exact ⟨by kernel_rfl,λj t ht=>by
    rw[Tryz.params3] at ht
    have hm:t∈[24,28,3,3,3]:=by simpa using Array.mem_of_getElem? ht
    have hall:([24,28,3,3,3].all λu=>!prog.wantsStandIn u)=true:=by kernel_rfl
    exact (show prog.wantsStandIn t=false by simpa using List.all_eq_true.1 hall t hm)⟩)
  (by kernel_rfl)
end Go.Proofs.YtklapbhlhjdijaaGreatDoor.runChecks
