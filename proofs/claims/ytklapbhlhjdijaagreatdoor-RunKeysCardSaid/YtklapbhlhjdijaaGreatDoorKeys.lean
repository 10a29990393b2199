/-
  RunKeys: each asking has the next key;none comes twice;what waits has keys below.
  Condition: none beyond what the card ties (package variables as the program's text lays them).
-/
import Derived.Test.YtklapbhlhjdijaaGreatDoorRows
import Derived.Test.YtklapbhlhjdijaaGreatDoorTie
import Derived.Test.YtklapbhlhjdijaaGreatDoorCards
import Derived.SevenTiedAt
import Derived.LaidMore
import Derived.Stop.Joined
import Derived.Carry
import Derived.ChangeMaps5
import Derived.Test.YtklapbhlhjdijaaGreatDoorTf
import Derived.Test.YtklapbhlhjdijaaGreatDoorEve
import Derived.ProofKit
import Derived.OpenShut
set_option linter.unusedSimpArgs false
set_option linter.unusedVariables false
namespace Go.Proofs.YtklapbhlhjdijaaGreatDoor.runKeys
open _root_.Go.Proofs.Tryz (prog)
open Go Go.ChangeShapes Go.WideShapes Go.ChangeAt Go.RowKit Go.Ev Go.Dv
set_option maxRecDepth 100000
theorem own:ownKnob prog.godebug=none:=by kernel_rfl
theorem laidO:laidOutB prog=true:=by kernel_rfl
def laidK : List (String × DataW Unit) := [("penance/term.shapes", Rows.laid_penance_term_shapes)]
theorem v0 : VarAt prog laidK "penance/term.shapes" 0 Rows.laid_penance_term_shapes := ⟨by simp [laidK], rfl, by kernel_rfl⟩
theorem vTop : VarAt prog laidK "penance/term.shapes" 0 Rows.laid_penance_term_shapes := ⟨by simp [laidK], rfl, by kernel_rfl⟩
theorem laidW {w:Zw}(h:laidMetH prog laidK w):LaidW 1 LL w∧1≤w.heap.size:=⟨⟨Nat.le_succ_of_le (vTop.size h),λx hx=>by
  simp only[LL,List.mem_cons,List.not_mem_nil,or_false] at hx
  rcases hx with rfl
  ·exact ⟨Nat.lt_of_lt_of_le Z1 (vTop.size h),by decide,v0.row h (n:=8) (by kernel_rfl) rfl⟩⟩,vTop.size h⟩
theorem door_met (os:Os)(args:Array Z6):laidMetH prog laidK ((World.doorLaid prog 400 os).forCall (λ_ _=>0) ⟨#[],args,[]⟩).memory:=
 laidMetH_of_parts3 (fuel:=8) (laidMet_of_run' 8 (by kernel_rfl) (by kernel_rfl)) (by kernel_rfl) (by kernel_rfl)
theorem lifted (os:Os)(started:os.Started)(H:Type)(enc:Zt×Z6→H) :
  ReturnsInHanded {} Tryz.checked os 4 .any (λw args=>(Rows.runKeysSpec.pre enc prog Tryz.f4 [] false w args∧laidMetH prog laidK w)∧sizedMet enc prog Tryz.f4 (OpenSpec.ofChange Rows.runKeysSpec) false w args)
   (Rows.runKeysSpec.post enc prog Tryz.f4 false true false false):=by
 refine returnsInHanded_of_change_and (C:=Tryz.checked) (X:=λw _=>laidMetH prog laidK w) (λ_ _ _ hh h=>h.of_heap hh) own started (by kernel_rfl) Tryz.func4
  (ChangeSpec.witness_shaped (enc:=enc) (C:=Tryz.checked) (os:=os) (X:=λw _=>laidMetH prog laidK w) false (World.doorLaid prog 400 os) #[witS,.slice none 0 0] 8 rfl (World.shaped_of_RefB (by kernel_rfl) (by kernel_rfl)) (by kernel_rfl) (by kernel_rfl) (by kernel_rfl) (door_met os _)) ?_
 intro W base args ds gs before hval0 hW _ hsz hL _
 have hval:∀ (j:Nat) t v,Tryz.f4.params[j]?=some t→args[j]?=some v→Value.okWide prog W .any base t v:=hval0
 have hW':=hW
 have hlt:=hW.lt
 obtain ⟨p,q,hA0,hV,rfl,hfz,hnd⟩:=hW
 have hA:DataW.TrodAll enc prog W 0 (λ_=>true) true Tryz.f4.params.toList args.toList ds p:=hA0
 rw[Tryz.params4] at hA hval
 obtain ⟨v0,vs0,d0,ds0,p0,q0,hargs,rfl,rfl,h0,r0⟩:=trodAll_cons hA
 obtain ⟨v1,vs1,d1,ds1,p1,q1,rfl,rfl,rfl,h1,r1⟩:=trodAll_cons r0
 obtain ⟨rfl,rfl,rfl⟩:=trodAll_nil r1
 obtain rfl:args=#[v0,v1]:=by cases args;simp_all
 obtain ⟨rfl,rfl⟩:=trodVars_none hV
 have h0':=h0
 have h1':=h1
 obtain ⟨m0,rfl,z0⟩:=okWide_struct Tryz.underlying24 (hval 0 24 v0 rfl rfl)
 obtain ⟨m0⟩:=m0
 obtain ⟨fu0,g0⟩:=h0
 obtain ⟨x0,o0,f0⟩:=open_sh fu0 g0 (List.all_eq_true.2 λm hm=>List.all_eq_true.1 hsz m (DataW.weights_mem_each (j:=0) (t:=24) rfl rfl m hm))
 obtain ⟨a1,l1,c1,rfl⟩:=okWide_slice Tryz.underlying25 (hval 1 25 v1 rfl rfl)
 obtain ⟨fu1,g1⟩:=h1
 obtain ⟨x1,o1,f1,e1⟩:=open_ivs g1 (List.all_eq_true.2 λm hm=>List.all_eq_true.1 hsz m (DataW.weights_mem_each (j:=1) (t:=25) rfl rfl m hm))
 have hop:=(Op2.append (Op2.agg o0) (Op2.of o1))
 obtain ⟨g0,hop⟩:=hop
 obtain ⟨rv,hpl,hsc⟩:=hop (max g0 W.heap.size) (Nat.le_max_left _ _) (Nat.le_max_right _ _)
 have hrun:Calls prog 4 #[.agg ⟨m0⟩,.slice a1 l1 c1] W λe W'=>e=.returned (.bool true)∧Below W.heap.size W W':=
  calls_of_callF (P:=prog) (NG:=1) (s:=λ_=>0) (t:=λ_=>.empty) Z0 LL_ok (laidW hL).1 (laidW hL).2 (Nat.le_max_right g0 W.heap.size) (keys_law (max g0 W.heap.size,W.heap.size) x0.1 x0.2.1 x0.2.2 x1 f0.2 f0.1 e1) rv hpl hsc rfl
 refine hrun.mono λe W' ⟨he,bel⟩=>?_
 subst he
 exact ⟨_,rfl,_,_,_,[],_,[],hW',trodAll_mk1 (shut_bool Tryz.underlying4 _),trodAll_cons_mk (Below.trod laidO (by kernel_rfl) (of_decide_eq_true (by kernel_rfl)) h0' bel (λx hx=>hlt x (by simp[hx]))) (trodAll_cons_mk (Below.trod laidO (by kernel_rfl) (of_decide_eq_true (by kernel_rfl)) h1' bel (λx hx=>hlt x (by simp[hx]))) (trodAll_mk0)),rfl,bel.frame _,λh=>by cases h⟩
theorem over:Rows.runKeysRow.holds Tryz.pinned (OpenSpec.ofChange Rows.runKeysSpec):=
 OpenClaim.holds_of_wide 4 Tryz.f4 rfl rfl rfl rfl rfl rfl rfl ⟨rfl,rfl,rfl,rfl,rfl⟩ rfl rfl rfl rfl rfl (by kernel_rfl) Tryz.func4 (by kernel_rfl)
  (of_decide_eq_true (by kernel_rfl)) (by unfold Func.isWrapper;first|(rw[if_pos (by decide +kernel)];kernel_rfl)|(rw[if_neg (by decide +kernel)];exact ⟨rfl,rfl⟩))
  (λos started H enc _=>lifted os started H enc)
theorem bare:Rows.RunKeysSaid:=
 over
theorem proved:Rows.RunKeysCardSaid:=
 Claim7.holds_tied_plain_at .later [] [.data] true (true, "3ffbbce29b5abee20d4bf98570f47bcb91dbd3fd3c7d6fc1551a5f32aed579c9") false
  bare (λ_ h=>by cases h) (by kernel_rfl) (λ_ h=>by cases h) runKeys_row_tie rfl ⟨rfl,rfl⟩ (by kernel_rfl) rfl
  (λf fn hf hfn=>by
   obtain rfl : f = 4 := Option.some.inj ((show prog.funcNamed "penance/penancelaw8.RunKeys" = some 4 by kernel_rfl).symm.trans hf) |>.symm
   obtain rfl:fn=Tryz.f4:=(Option.some.inj (Tryz.func4.symm.trans hfn)).symm
   exact ⟨by kernel_rfl,λj t ht=>by
    rw[Tryz.params4] at ht
    have hm:t∈[24,25]:=by simpa using Array.mem_of_getElem? ht
    have hall:([24,25].all λu=>!prog.wantsStandIn u)=true:=by kernel_rfl
    exact (show prog.wantsStandIn t=false by simpa using List.all_eq_true.1 hall t hm)⟩)
  (by kernel_rfl)
end Go.Proofs.YtklapbhlhjdijaaGreatDoor.runKeys
