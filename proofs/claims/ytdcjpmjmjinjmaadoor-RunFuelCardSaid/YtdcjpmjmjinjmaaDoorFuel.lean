/-
  RunFuel: a process that goes on and on is stopped behind so many steps;one that grows is stopped as soon as it is too large.
  Condition: none beyond what the card ties (package variables as the program's text lays them).
-/
import Derived.Test.YtdcjpmjmjinjmaaDoorRows
import Derived.Test.YtdcjpmjmjinjmaaDoorTie
import Derived.Test.YtdcjpmjmjinjmaaDoorCards
import Derived.SevenTiedAt
import Derived.LaidMore
import Derived.Stop.Joined
import Derived.Carry
import Derived.ChangeMaps5
import Derived.Test.YtdcjpmjmjinjmaaDoorTf
import Derived.ProofKit
import Derived.OpenShut
set_option linter.unusedSimpArgs false
set_option linter.unusedVariables false
namespace Go.Proofs.YtdcjpmjmjinjmaaDoor.runFuel
open _root_.Go.Proofs.Tryd (prog)
open Go Go.ChangeShapes Go.WideShapes Go.ChangeAt Go.RowKit Go.Ev Go.Dv
set_option maxRecDepth 100000
theorem own:ownKnob prog.godebug=none:=by kernel_rfl
theorem laidO:laidOutB prog=true:=by kernel_rfl
def laidK : List (String × DataW Unit) := [("penance/term.shapes", Rows.laid_penance_term_shapes)]
theorem v0 : VarAt prog laidK "penance/term.shapes" 0 Rows.laid_penance_term_shapes := ⟨by simp [laidK], rfl, by kernel_rfl⟩
theorem vTop : VarAt prog laidK "penance/term.shapes" 0 Rows.laid_penance_term_shapes := ⟨by simp [laidK], rfl, by kernel_rfl⟩
theorem laidW {w:World} (h:laidMetH prog laidK w):LaidW 1 LL w∧1≤w.heap.size:=⟨⟨Nat.le_succ_of_le (vTop.size h),fun x hx=>by
  simp only[LL,List.mem_cons,List.not_mem_nil,or_false] at hx
  rcases hx with rfl
  ·exact ⟨Nat.lt_of_lt_of_le (by decide) (vTop.size h),by decide,v0.row h (n:=8) (by kernel_rfl) rfl⟩⟩,vTop.size h⟩
theorem door_met (os:Os) (args:Array Value):laidMetH prog laidK ((World.doorLaid prog 400 os).forCall (fun _ _=>0) ⟨#[],args,[]⟩).memory:=
 laidMetH_of_parts3 (fuel:=8) (laidMet_of_run' 8 (by kernel_rfl) (by kernel_rfl)) (by kernel_rfl) (by kernel_rfl)
theorem lifted (os:Os) (started:os.Started) (H:Type) (enc:TypeId×Value→H) :
  ReturnsInHanded {} Tryd.checked os 3 .any (fun w args=>(Rows.runFuelSpec.pre enc prog Tryd.f3 [] false w args∧laidMetH prog laidK w)∧sizedMet enc prog Tryd.f3 (OpenSpec.ofChange Rows.runFuelSpec) false w args)
   (Rows.runFuelSpec.post enc prog Tryd.f3 false true false false):=by
 refine returnsInHanded_of_change_and (C:=Tryd.checked) (X:=fun w _=>laidMetH prog laidK w) (fun _ _ _ hh h=>h.of_heap hh) own started (by kernel_rfl) Tryd.func3
  (ChangeSpec.witness_shaped (enc:=enc) (C:=Tryd.checked) (os:=os) (X:=fun w _=>laidMetH prog laidK w) false (World.doorLaid prog 400 os) #[.int .i64 0,.bool false] 8 rfl (World.shaped_of_RefB (by kernel_rfl) (by kernel_rfl)) (by kernel_rfl) (by kernel_rfl) (by kernel_rfl) (door_met os _)) ?_
 intro W base args ds gs before hval0 hW _ hsz hL _
 have hval:∀ (j:Nat) t v,Tryd.f3.params[j]?=some t→args[j]?=some v→Value.okWide prog W .any base t v:=hval0
 have hW':=hW
 have hlt:=hW.lt
 obtain ⟨p,q,hA0,hV,rfl,hfz,hnd⟩:=hW
 have hA:DataW.TrodAll enc prog W 0 (fun _=>true) true Tryd.f3.params.toList args.toList ds p:=hA0
 rw[Tryd.params3] at hA hval
 obtain ⟨v0,vs0,d0,ds0,p0,q0,hargs,rfl,rfl,h0,r0⟩:=trodAll_cons hA
 obtain ⟨v1,vs1,d1,ds1,p1,q1,rfl,rfl,rfl,h1,r1⟩:=trodAll_cons r0
 obtain ⟨rfl,rfl,rfl⟩:=trodAll_nil r1
 obtain rfl:args=#[v0,v1]:=by cases args;simp_all
 obtain ⟨rfl,rfl⟩:=trodVars_none hV
 have h0':=h0
 have h1':=h1
 obtain ⟨x0,rfl,_,_,w0⟩:=open_int Tryd.underlying3 (hval 0 3 v0 rfl rfl) h0
 obtain ⟨x1,rfl,_⟩:=open_bool Tryd.underlying4 (hval 1 4 v1 rfl rfl) h1
 have hop:Go.Dv.Op prog 1 LL W _ _:=(Op.append (Op.flat (cs:=[.int .i64 x0]) rfl rfl) (Op.flat (cs:=[.bool x1]) rfl rfl))
 obtain ⟨g0,hop⟩:=hop
 obtain ⟨rv,hpl,hsc,_⟩:=hop (max g0 W.heap.size) (Nat.le_max_left _ _) (Nat.le_max_right _ _)
 have hrun:Calls prog 3 #[.int .i64 x0,.bool x1] W fun e W'=>e=.returned (.bool true)∧Below W.heap.size W W':=
  calls_of_callF (P:=prog) (NG:=1) (s:=fun _=>0) (t:=fun _=>.empty) (by omega) LL_ok (laidW hL).1 (laidW hL).2 (Nat.le_max_right g0 W.heap.size) (fuel_l (max g0 W.heap.size,W.heap.size) x0 x1) rv hpl hsc rfl
 refine hrun.mono fun e W' ⟨he,bel⟩=>?_
 subst he
 exact ⟨_,rfl,_,_,_,[],_,[],hW',trodAll_mk1 (shut_bool Tryd.underlying4 _),trodAll_cons_mk (Below.trod laidO (by kernel_rfl) (of_decide_eq_true (by kernel_rfl)) h0' bel (fun x hx=>hlt x (by simp[hx]))) (trodAll_cons_mk (Below.trod laidO (by kernel_rfl) (of_decide_eq_true (by kernel_rfl)) h1' bel (fun x hx=>hlt x (by simp[hx]))) (trodAll_mk0)),rfl,bel.frame _,fun h=>by cases h⟩
theorem over:Rows.runFuelRow.holds Tryd.pinned (OpenSpec.ofChange Rows.runFuelSpec):=
 OpenClaim.holds_of_wide 3 Tryd.f3 rfl rfl rfl rfl rfl rfl rfl ⟨rfl,rfl,rfl,rfl,rfl⟩ rfl rfl rfl rfl rfl (by kernel_rfl) Tryd.func3 (by kernel_rfl)
  (of_decide_eq_true (by kernel_rfl)) (by unfold Func.isWrapper;first|(rw[if_pos (by decide +kernel)];kernel_rfl)|(rw[if_neg (by decide +kernel)];exact ⟨rfl,rfl⟩))
  (fun os started H enc _=>lifted os started H enc)
theorem bare:Rows.RunFuelSaid:=
 over
theorem proved:Rows.RunFuelCardSaid:=
 Claim7.holds_tied_plain_at .later [] [.data] true (true, "822700879e8ed1e8d9fbe637f3a10f1808c102a97defd2a3bf4efeb22a6bac7a") false
  bare (fun _ h=>by cases h) (by kernel_rfl) (fun _ h=>by cases h) runFuel_row_tie rfl ⟨rfl,rfl⟩ (by kernel_rfl) rfl
  (fun f fn hf hfn=>by
   obtain rfl : f = 3 := Option.some.inj ((show prog.funcNamed "penance/penancelaw8.RunFuel" = some 3 by kernel_rfl).symm.trans hf) |>.symm
   obtain rfl:fn=Tryd.f3:=(Option.some.inj (Tryd.func3.symm.trans hfn)).symm
   exact ⟨by kernel_rfl,fun j t ht=>by
    rw[Tryd.params3] at ht
    have hm:t∈[3,4]:=by simpa using Array.mem_of_getElem? ht
    have hall:([3,4].all fun u=>!prog.wantsStandIn u)=true:=by kernel_rfl
    exact (show prog.wantsStandIn t=false by simpa using List.all_eq_true.1 hall t hm)⟩)
  (by kernel_rfl)
end Go.Proofs.YtdcjpmjmjinjmaaDoor.runFuel
