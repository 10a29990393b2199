/-
  NARROWER THAN 'FOR EVERY INPUT', by the rows' own cells (each row's printed sentence says how): StacksAll: loops · StacksOthers: loops · StacksMerges: loops · StacksOwn: loops · StacksBack: loops · StacksSizes: loops · StacksTwice: loops · StacksRound: loops · StepsPlaces: loops · StepsPar: loops · StepsStatus: loops · StepsBlocks: loops · StepsWait: loops · StepsOrder: loops · StepsRow: loops.
  DERIVED. THE GIVEN ROWS OF THIS SEAT. 15 by the template 'for every input the law returns true; each argument reads behind the call as it read before'; 0 by the template 'total and deterministic' (their statements: YtgeakofgklcipaaTotals.lean).
  GIVEN WITH THE SEED: the statements are not yours to turn. If you find one false, say at which input.
  Laid BY PROGRAM, IN A SANDBOX (cutbox-rows.mjs): the forced cells as the released guide's own fill.sh prints them over the translation 72eec06f0c51e603… (all of the seat's roots in one cut). By AI agents, Wed Nov 11 2026. No macro, syntax, notation, axiom, sorry.
-/
import Derived.Test.YtgeakofgklcipaaChecked
import GoSem.Claim
import GoSem.ClaimJoined
import GoSem.ClaimMapViews
import Derived.JoinedTies
import Derived.KernelRfl
namespace Go.Proofs.Ytgeakofgklcipaa
/- THE CELL 'sum', in the pinned program and in every row, IS THE sha256 OF THE DUMP (.gsa) THAT YtgeakofgklcipaaProg.lean LOADS. Nothing in Lean hashes anything: it is a label: what it is worth is what the hold of that sum in a sandbox is worth. -/
noncomputable def Try.pinned : Pinned := { name := "ytgeakofgklcipaa", sum := "72eec06f0c51e60305f47ae78d4e84cc5e0f90a2e5df673d0d0f1fd9a7755f28", checked := Try.checked }
namespace Rows
def none {H : Type} : Left H := { results := [], args := [] }

/-- 'penancelaw6.StacksAll': WHATEVER THE INPUT: true; the input reads as it did. -/
def stacksAllSpec : ChangeSpec := { name := "stacksAll", fn := fun _ => fun
  | [d1, d2, d3] => { results := [.lit (.bool true)], args := [d1, d2, d3] }
  | _ => none }
def stacksAllRow : OpenClaim := { program := "ytgeakofgklcipaa", sum := "72eec06f0c51e60305f47ae78d4e84cc5e0f90a2e5df673d0d0f1fd9a7755f28", func := "penance/penancelaw6.StacksAll", spec := "stacksAll", unfollowed := true, recurses := true, loops := true, apart := false }
def StacksAllSaid : Prop := stacksAllRow.holds Try.pinned (OpenSpec.ofChange stacksAllSpec)

/-- ITS FALSE NEIGHBOUR: 'it returns false'. Refute it at one input. -/
def stacksAllWrong : ChangeSpec := { name := "stacksAll", fn := fun _ => fun
  | [d1, d2, d3] => { results := [.lit (.bool false)], args := [d1, d2, d3] }
  | _ => none }
def StacksAllWrongFalsely : Prop := stacksAllRow.holds Try.pinned (OpenSpec.ofChange stacksAllWrong)

/-- 'penancelaw6.StacksOthers': WHATEVER THE INPUT: true; the input reads as it did. -/
def stacksOthersSpec : ChangeSpec := { name := "stacksOthers", fn := fun _ => fun
  | [d1, d2, d3, d4] => { results := [.lit (.bool true)], args := [d1, d2, d3, d4] }
  | _ => none }
def stacksOthersRow : OpenClaim := { program := "ytgeakofgklcipaa", sum := "72eec06f0c51e60305f47ae78d4e84cc5e0f90a2e5df673d0d0f1fd9a7755f28", func := "penance/penancelaw6.StacksOthers", spec := "stacksOthers", unfollowed := true, recurses := true, loops := true, apart := false }
def StacksOthersSaid : Prop := stacksOthersRow.holds Try.pinned (OpenSpec.ofChange stacksOthersSpec)

/-- ITS FALSE NEIGHBOUR: 'it returns false'. Refute it at one input. -/
def stacksOthersWrong : ChangeSpec := { name := "stacksOthers", fn := fun _ => fun
  | [d1, d2, d3, d4] => { results := [.lit (.bool false)], args := [d1, d2, d3, d4] }
  | _ => none }
def StacksOthersWrongFalsely : Prop := stacksOthersRow.holds Try.pinned (OpenSpec.ofChange stacksOthersWrong)

/-- 'penancelaw6.StacksMerges': WHATEVER THE INPUT: true; the input reads as it did. -/
def stacksMergesSpec : ChangeSpec := { name := "stacksMerges", fn := fun _ => fun
  | [d1, d2, d3, d4] => { results := [.lit (.bool true)], args := [d1, d2, d3, d4] }
  | _ => none }
def stacksMergesRow : OpenClaim := { program := "ytgeakofgklcipaa", sum := "72eec06f0c51e60305f47ae78d4e84cc5e0f90a2e5df673d0d0f1fd9a7755f28", func := "penance/penancelaw6.StacksMerges", spec := "stacksMerges", unfollowed := true, recurses := true, loops := true, apart := false }
def StacksMergesSaid : Prop := stacksMergesRow.holds Try.pinned (OpenSpec.ofChange stacksMergesSpec)

/-- ITS FALSE NEIGHBOUR: 'it returns false'. Refute it at one input. -/
def stacksMergesWrong : ChangeSpec := { name := "stacksMerges", fn := fun _ => fun
  | [d1, d2, d3, d4] => { results := [.lit (.bool false)], args := [d1, d2, d3, d4] }
  | _ => none }
def StacksMergesWrongFalsely : Prop := stacksMergesRow.holds Try.pinned (OpenSpec.ofChange stacksMergesWrong)

/-- 'penancelaw6.StacksOwn': WHATEVER THE INPUT: true; the input reads as it did. -/
def stacksOwnSpec : ChangeSpec := { name := "stacksOwn", fn := fun _ => fun
  | [d1, d2, d3, d4] => { results := [.lit (.bool true)], args := [d1, d2, d3, d4] }
  | _ => none }
def stacksOwnRow : OpenClaim := { program := "ytgeakofgklcipaa", sum := "72eec06f0c51e60305f47ae78d4e84cc5e0f90a2e5df673d0d0f1fd9a7755f28", func := "penance/penancelaw6.StacksOwn", spec := "stacksOwn", unfollowed := true, recurses := true, loops := true, apart := false }
def StacksOwnSaid : Prop := stacksOwnRow.holds Try.pinned (OpenSpec.ofChange stacksOwnSpec)

/-- ITS FALSE NEIGHBOUR: 'it returns false'. Refute it at one input. -/
def stacksOwnWrong : ChangeSpec := { name := "stacksOwn", fn := fun _ => fun
  | [d1, d2, d3, d4] => { results := [.lit (.bool false)], args := [d1, d2, d3, d4] }
  | _ => none }
def StacksOwnWrongFalsely : Prop := stacksOwnRow.holds Try.pinned (OpenSpec.ofChange stacksOwnWrong)

/-- 'penancelaw6.StacksBack': WHATEVER THE INPUT: true; the input reads as it did. -/
def stacksBackSpec : ChangeSpec := { name := "stacksBack", fn := fun _ => fun
  | [d1, d2, d3, d4] => { results := [.lit (.bool true)], args := [d1, d2, d3, d4] }
  | _ => none }
def stacksBackRow : OpenClaim := { program := "ytgeakofgklcipaa", sum := "72eec06f0c51e60305f47ae78d4e84cc5e0f90a2e5df673d0d0f1fd9a7755f28", func := "penance/penancelaw6.StacksBack", spec := "stacksBack", unfollowed := true, recurses := true, loops := true, apart := false }
def StacksBackSaid : Prop := stacksBackRow.holds Try.pinned (OpenSpec.ofChange stacksBackSpec)

/-- ITS FALSE NEIGHBOUR: 'it returns false'. Refute it at one input. -/
def stacksBackWrong : ChangeSpec := { name := "stacksBack", fn := fun _ => fun
  | [d1, d2, d3, d4] => { results := [.lit (.bool false)], args := [d1, d2, d3, d4] }
  | _ => none }
def StacksBackWrongFalsely : Prop := stacksBackRow.holds Try.pinned (OpenSpec.ofChange stacksBackWrong)

/-- 'penancelaw6.StacksSizes': WHATEVER THE INPUT: true; the input reads as it did. -/
def stacksSizesSpec : ChangeSpec := { name := "stacksSizes", fn := fun _ => fun
  | [d1, d2, d3, d4] => { results := [.lit (.bool true)], args := [d1, d2, d3, d4] }
  | _ => none }
def stacksSizesRow : OpenClaim := { program := "ytgeakofgklcipaa", sum := "72eec06f0c51e60305f47ae78d4e84cc5e0f90a2e5df673d0d0f1fd9a7755f28", func := "penance/penancelaw6.StacksSizes", spec := "stacksSizes", unfollowed := true, recurses := true, loops := true, apart := false }
def StacksSizesSaid : Prop := stacksSizesRow.holds Try.pinned (OpenSpec.ofChange stacksSizesSpec)

/-- ITS FALSE NEIGHBOUR: 'it returns false'. Refute it at one input. -/
def stacksSizesWrong : ChangeSpec := { name := "stacksSizes", fn := fun _ => fun
  | [d1, d2, d3, d4] => { results := [.lit (.bool false)], args := [d1, d2, d3, d4] }
  | _ => none }
def StacksSizesWrongFalsely : Prop := stacksSizesRow.holds Try.pinned (OpenSpec.ofChange stacksSizesWrong)

/-- 'penancelaw6.StacksTwice': WHATEVER THE INPUT: true; the input reads as it did. -/
def stacksTwiceSpec : ChangeSpec := { name := "stacksTwice", fn := fun _ => fun
  | [d1, d2, d3, d4] => { results := [.lit (.bool true)], args := [d1, d2, d3, d4] }
  | _ => none }
def stacksTwiceRow : OpenClaim := { program := "ytgeakofgklcipaa", sum := "72eec06f0c51e60305f47ae78d4e84cc5e0f90a2e5df673d0d0f1fd9a7755f28", func := "penance/penancelaw6.StacksTwice", spec := "stacksTwice", unfollowed := true, recurses := true, loops := true, apart := false }
def StacksTwiceSaid : Prop := stacksTwiceRow.holds Try.pinned (OpenSpec.ofChange stacksTwiceSpec)

/-- ITS FALSE NEIGHBOUR: 'it returns false'. Refute it at one input. -/
def stacksTwiceWrong : ChangeSpec := { name := "stacksTwice", fn := fun _ => fun
  | [d1, d2, d3, d4] => { results := [.lit (.bool false)], args := [d1, d2, d3, d4] }
  | _ => none }
def StacksTwiceWrongFalsely : Prop := stacksTwiceRow.holds Try.pinned (OpenSpec.ofChange stacksTwiceWrong)

/-- 'penancelaw6.StacksRound': WHATEVER THE INPUT: true; the input reads as it did. -/
def stacksRoundSpec : ChangeSpec := { name := "stacksRound", fn := fun _ => fun
  | [d1, d2, d3, d4] => { results := [.lit (.bool true)], args := [d1, d2, d3, d4] }
  | _ => none }
def stacksRoundRow : OpenClaim := { program := "ytgeakofgklcipaa", sum := "72eec06f0c51e60305f47ae78d4e84cc5e0f90a2e5df673d0d0f1fd9a7755f28", func := "penance/penancelaw6.StacksRound", spec := "stacksRound", unfollowed := true, recurses := true, loops := true, apart := false }
def StacksRoundSaid : Prop := stacksRoundRow.holds Try.pinned (OpenSpec.ofChange stacksRoundSpec)

/-- ITS FALSE NEIGHBOUR: 'it returns false'. Refute it at one input. -/
def stacksRoundWrong : ChangeSpec := { name := "stacksRound", fn := fun _ => fun
  | [d1, d2, d3, d4] => { results := [.lit (.bool false)], args := [d1, d2, d3, d4] }
  | _ => none }
def StacksRoundWrongFalsely : Prop := stacksRoundRow.holds Try.pinned (OpenSpec.ofChange stacksRoundWrong)

/-- 'penancelaw7.StepsPlaces': WHATEVER THE INPUT: true; the input reads as it did. -/
def stepsPlacesSpec : ChangeSpec := { name := "stepsPlaces", fn := fun _ => fun
  | [d1, d2] => { results := [.lit (.bool true)], args := [d1, d2] }
  | _ => none }
def stepsPlacesRow : OpenClaim := { program := "ytgeakofgklcipaa", sum := "72eec06f0c51e60305f47ae78d4e84cc5e0f90a2e5df673d0d0f1fd9a7755f28", func := "penance/penancelaw7.StepsPlaces", spec := "stepsPlaces", unfollowed := true, recurses := true, loops := true, apart := false }
def StepsPlacesSaid : Prop := stepsPlacesRow.holds Try.pinned (OpenSpec.ofChange stepsPlacesSpec)

/-- ITS FALSE NEIGHBOUR: 'it returns false'. Refute it at one input. -/
def stepsPlacesWrong : ChangeSpec := { name := "stepsPlaces", fn := fun _ => fun
  | [d1, d2] => { results := [.lit (.bool false)], args := [d1, d2] }
  | _ => none }
def StepsPlacesWrongFalsely : Prop := stepsPlacesRow.holds Try.pinned (OpenSpec.ofChange stepsPlacesWrong)

/-- 'penancelaw7.StepsPar': WHATEVER THE INPUT: true; the input reads as it did. -/
def stepsParSpec : ChangeSpec := { name := "stepsPar", fn := fun _ => fun
  | [d1, d2] => { results := [.lit (.bool true)], args := [d1, d2] }
  | _ => none }
def stepsParRow : OpenClaim := { program := "ytgeakofgklcipaa", sum := "72eec06f0c51e60305f47ae78d4e84cc5e0f90a2e5df673d0d0f1fd9a7755f28", func := "penance/penancelaw7.StepsPar", spec := "stepsPar", unfollowed := true, recurses := true, loops := true, apart := false }
def StepsParSaid : Prop := stepsParRow.holds Try.pinned (OpenSpec.ofChange stepsParSpec)

/-- ITS FALSE NEIGHBOUR: 'it returns false'. Refute it at one input. -/
def stepsParWrong : ChangeSpec := { name := "stepsPar", fn := fun _ => fun
  | [d1, d2] => { results := [.lit (.bool false)], args := [d1, d2] }
  | _ => none }
def StepsParWrongFalsely : Prop := stepsParRow.holds Try.pinned (OpenSpec.ofChange stepsParWrong)

/-- 'penancelaw7.StepsStatus': WHATEVER THE INPUT: true; the input reads as it did. -/
def stepsStatusSpec : ChangeSpec := { name := "stepsStatus", fn := fun _ => fun
  | [d1, d2] => { results := [.lit (.bool true)], args := [d1, d2] }
  | _ => none }
def stepsStatusRow : OpenClaim := { program := "ytgeakofgklcipaa", sum := "72eec06f0c51e60305f47ae78d4e84cc5e0f90a2e5df673d0d0f1fd9a7755f28", func := "penance/penancelaw7.StepsStatus", spec := "stepsStatus", unfollowed := true, recurses := true, loops := true, apart := false }
def StepsStatusSaid : Prop := stepsStatusRow.holds Try.pinned (OpenSpec.ofChange stepsStatusSpec)

/-- ITS FALSE NEIGHBOUR: 'it returns false'. Refute it at one input. -/
def stepsStatusWrong : ChangeSpec := { name := "stepsStatus", fn := fun _ => fun
  | [d1, d2] => { results := [.lit (.bool false)], args := [d1, d2] }
  | _ => none }
def StepsStatusWrongFalsely : Prop := stepsStatusRow.holds Try.pinned (OpenSpec.ofChange stepsStatusWrong)

/-- 'penancelaw7.StepsBlocks': WHATEVER THE INPUT: true; the input reads as it did. -/
def stepsBlocksSpec : ChangeSpec := { name := "stepsBlocks", fn := fun _ => fun
  | [d1, d2] => { results := [.lit (.bool true)], args := [d1, d2] }
  | _ => none }
def stepsBlocksRow : OpenClaim := { program := "ytgeakofgklcipaa", sum := "72eec06f0c51e60305f47ae78d4e84cc5e0f90a2e5df673d0d0f1fd9a7755f28", func := "penance/penancelaw7.StepsBlocks", spec := "stepsBlocks", unfollowed := true, recurses := true, loops := true, apart := false }
def StepsBlocksSaid : Prop := stepsBlocksRow.holds Try.pinned (OpenSpec.ofChange stepsBlocksSpec)

/-- ITS FALSE NEIGHBOUR: 'it returns false'. Refute it at one input. -/
def stepsBlocksWrong : ChangeSpec := { name := "stepsBlocks", fn := fun _ => fun
  | [d1, d2] => { results := [.lit (.bool false)], args := [d1, d2] }
  | _ => none }
def StepsBlocksWrongFalsely : Prop := stepsBlocksRow.holds Try.pinned (OpenSpec.ofChange stepsBlocksWrong)

/-- 'penancelaw7.StepsWait': WHATEVER THE INPUT: true; the input reads as it did. -/
def stepsWaitSpec : ChangeSpec := { name := "stepsWait", fn := fun _ => fun
  | [d] => { results := [.lit (.bool true)], args := [d] }
  | _ => none }
def stepsWaitRow : OpenClaim := { program := "ytgeakofgklcipaa", sum := "72eec06f0c51e60305f47ae78d4e84cc5e0f90a2e5df673d0d0f1fd9a7755f28", func := "penance/penancelaw7.StepsWait", spec := "stepsWait", unfollowed := true, recurses := true, loops := true, apart := false }
def StepsWaitSaid : Prop := stepsWaitRow.holds Try.pinned (OpenSpec.ofChange stepsWaitSpec)

/-- ITS FALSE NEIGHBOUR: 'it returns false'. Refute it at one input. -/
def stepsWaitWrong : ChangeSpec := { name := "stepsWait", fn := fun _ => fun
  | [d] => { results := [.lit (.bool false)], args := [d] }
  | _ => none }
def StepsWaitWrongFalsely : Prop := stepsWaitRow.holds Try.pinned (OpenSpec.ofChange stepsWaitWrong)

/-- 'penancelaw7.StepsOrder': WHATEVER THE INPUT: true; the input reads as it did. -/
def stepsOrderSpec : ChangeSpec := { name := "stepsOrder", fn := fun _ => fun
  | [d1, d2] => { results := [.lit (.bool true)], args := [d1, d2] }
  | _ => none }
def stepsOrderRow : OpenClaim := { program := "ytgeakofgklcipaa", sum := "72eec06f0c51e60305f47ae78d4e84cc5e0f90a2e5df673d0d0f1fd9a7755f28", func := "penance/penancelaw7.StepsOrder", spec := "stepsOrder", unfollowed := true, recurses := true, loops := true, apart := false }
def StepsOrderSaid : Prop := stepsOrderRow.holds Try.pinned (OpenSpec.ofChange stepsOrderSpec)

/-- ITS FALSE NEIGHBOUR: 'it returns false'. Refute it at one input. -/
def stepsOrderWrong : ChangeSpec := { name := "stepsOrder", fn := fun _ => fun
  | [d1, d2] => { results := [.lit (.bool false)], args := [d1, d2] }
  | _ => none }
def StepsOrderWrongFalsely : Prop := stepsOrderRow.holds Try.pinned (OpenSpec.ofChange stepsOrderWrong)

/-- 'penancelaw7.StepsRow': WHATEVER THE INPUT: true; the input reads as it did. -/
def stepsRowSpec : ChangeSpec := { name := "stepsRow", fn := fun _ => fun
  | [d1, d2, d3, d4] => { results := [.lit (.bool true)], args := [d1, d2, d3, d4] }
  | _ => none }
def stepsRowRow : OpenClaim := { program := "ytgeakofgklcipaa", sum := "72eec06f0c51e60305f47ae78d4e84cc5e0f90a2e5df673d0d0f1fd9a7755f28", func := "penance/penancelaw7.StepsRow", spec := "stepsRow", unfollowed := true, recurses := true, loops := true, apart := false }
def StepsRowSaid : Prop := stepsRowRow.holds Try.pinned (OpenSpec.ofChange stepsRowSpec)

/-- ITS FALSE NEIGHBOUR: 'it returns false'. Refute it at one input. -/
def stepsRowWrong : ChangeSpec := { name := "stepsRow", fn := fun _ => fun
  | [d1, d2, d3, d4] => { results := [.lit (.bool false)], args := [d1, d2, d3, d4] }
  | _ => none }
def StepsRowWrongFalsely : Prop := stepsRowRow.holds Try.pinned (OpenSpec.ofChange stepsRowWrong)

/- THE SECOND FORM. 'bulk': how many values and letters a reading holds, each counted each time it is reached (what is shared counts as often as it is met; a slice's spare places count too). A statement '..UptoSaid' is the law's where the arguments, and the package variables that the reading takes, are together of bulk at most 1048576: NARROWER than '..Said'. Prove '..Said' where nothing that the law and all that it calls make is longer than what came in: it says more and counts as full. Else prove '..UptoSaid'. A law counts once. -/
mutual
def uptoBulk {H : Type} : DataW H → Nat
  | .lit (.string bytes) => bytes.length + 1
  | .lit _ => 1
  | .nil => 1
  | .ptr d => uptoBulk d + 1
  | .slice elems spare => uptoBulkAll elems + uptoBulkAll spare + 1
  | .agg parts => uptoBulkAll parts + 1
  | .iface _ d => uptoBulk d + 1
  | .map entries => uptoBulkEntries entries + 1
  | .held _ => 1
def uptoBulkAll {H : Type} : List (DataW H) → Nat
  | [] => 0
  | d :: r => uptoBulk d + uptoBulkAll r
def uptoBulkEntries {H : Type} : List (Lit × DataW H) → Nat
  | [] => 0
  | x :: r => uptoBulkEntry x + uptoBulkEntries r
def uptoBulkEntry {H : Type} : Lit × DataW H → Nat
  | (.string bytes, d) => bytes.length + uptoBulk d + 1
  | (_, d) => uptoBulk d + 1
 end
def uptoSmall : (H : Type) → List (DataW H) → Bool := fun _ ds => decide (uptoBulkAll ds ≤ 1048576)
def OpenSpec.upto (s : _root_.Go.ChangeSpec) : _root_.Go.OpenSpec := { _root_.Go.OpenSpec.ofChange s with cond := some uptoSmall }

/-- 'penancelaw6.StacksAll', WHERE WHAT IT READS IS OF BULK AT MOST 1048576: true; the input reads as it did. -/
def stacksAllUptoRow : OpenClaim := { program := "ytgeakofgklcipaa", sum := "72eec06f0c51e60305f47ae78d4e84cc5e0f90a2e5df673d0d0f1fd9a7755f28", func := "penance/penancelaw6.StacksAll", spec := "stacksAll", unfollowed := true, recurses := true, loops := true, apart := false, narrowed := true }
def StacksAllUptoSaid : Prop := stacksAllUptoRow.holds Try.pinned (OpenSpec.upto stacksAllSpec)

/-- 'penancelaw6.StacksOthers', WHERE WHAT IT READS IS OF BULK AT MOST 1048576: true; the input reads as it did. -/
def stacksOthersUptoRow : OpenClaim := { program := "ytgeakofgklcipaa", sum := "72eec06f0c51e60305f47ae78d4e84cc5e0f90a2e5df673d0d0f1fd9a7755f28", func := "penance/penancelaw6.StacksOthers", spec := "stacksOthers", unfollowed := true, recurses := true, loops := true, apart := false, narrowed := true }
def StacksOthersUptoSaid : Prop := stacksOthersUptoRow.holds Try.pinned (OpenSpec.upto stacksOthersSpec)

/-- 'penancelaw6.StacksMerges', WHERE WHAT IT READS IS OF BULK AT MOST 1048576: true; the input reads as it did. -/
def stacksMergesUptoRow : OpenClaim := { program := "ytgeakofgklcipaa", sum := "72eec06f0c51e60305f47ae78d4e84cc5e0f90a2e5df673d0d0f1fd9a7755f28", func := "penance/penancelaw6.StacksMerges", spec := "stacksMerges", unfollowed := true, recurses := true, loops := true, apart := false, narrowed := true }
def StacksMergesUptoSaid : Prop := stacksMergesUptoRow.holds Try.pinned (OpenSpec.upto stacksMergesSpec)

/-- 'penancelaw6.StacksOwn', WHERE WHAT IT READS IS OF BULK AT MOST 1048576: true; the input reads as it did. -/
def stacksOwnUptoRow : OpenClaim := { program := "ytgeakofgklcipaa", sum := "72eec06f0c51e60305f47ae78d4e84cc5e0f90a2e5df673d0d0f1fd9a7755f28", func := "penance/penancelaw6.StacksOwn", spec := "stacksOwn", unfollowed := true, recurses := true, loops := true, apart := false, narrowed := true }
def StacksOwnUptoSaid : Prop := stacksOwnUptoRow.holds Try.pinned (OpenSpec.upto stacksOwnSpec)

/-- 'penancelaw6.StacksBack', WHERE WHAT IT READS IS OF BULK AT MOST 1048576: true; the input reads as it did. -/
def stacksBackUptoRow : OpenClaim := { program := "ytgeakofgklcipaa", sum := "72eec06f0c51e60305f47ae78d4e84cc5e0f90a2e5df673d0d0f1fd9a7755f28", func := "penance/penancelaw6.StacksBack", spec := "stacksBack", unfollowed := true, recurses := true, loops := true, apart := false, narrowed := true }
def StacksBackUptoSaid : Prop := stacksBackUptoRow.holds Try.pinned (OpenSpec.upto stacksBackSpec)

/-- 'penancelaw6.StacksSizes', WHERE WHAT IT READS IS OF BULK AT MOST 1048576: true; the input reads as it did. -/
def stacksSizesUptoRow : OpenClaim := { program := "ytgeakofgklcipaa", sum := "72eec06f0c51e60305f47ae78d4e84cc5e0f90a2e5df673d0d0f1fd9a7755f28", func := "penance/penancelaw6.StacksSizes", spec := "stacksSizes", unfollowed := true, recurses := true, loops := true, apart := false, narrowed := true }
def StacksSizesUptoSaid : Prop := stacksSizesUptoRow.holds Try.pinned (OpenSpec.upto stacksSizesSpec)

/-- 'penancelaw6.StacksTwice', WHERE WHAT IT READS IS OF BULK AT MOST 1048576: true; the input reads as it did. -/
def stacksTwiceUptoRow : OpenClaim := { program := "ytgeakofgklcipaa", sum := "72eec06f0c51e60305f47ae78d4e84cc5e0f90a2e5df673d0d0f1fd9a7755f28", func := "penance/penancelaw6.StacksTwice", spec := "stacksTwice", unfollowed := true, recurses := true, loops := true, apart := false, narrowed := true }
def StacksTwiceUptoSaid : Prop := stacksTwiceUptoRow.holds Try.pinned (OpenSpec.upto stacksTwiceSpec)

/-- 'penancelaw6.StacksRound', WHERE WHAT IT READS IS OF BULK AT MOST 1048576: true; the input reads as it did. -/
def stacksRoundUptoRow : OpenClaim := { program := "ytgeakofgklcipaa", sum := "72eec06f0c51e60305f47ae78d4e84cc5e0f90a2e5df673d0d0f1fd9a7755f28", func := "penance/penancelaw6.StacksRound", spec := "stacksRound", unfollowed := true, recurses := true, loops := true, apart := false, narrowed := true }
def StacksRoundUptoSaid : Prop := stacksRoundUptoRow.holds Try.pinned (OpenSpec.upto stacksRoundSpec)

/-- 'penancelaw7.StepsPlaces', WHERE WHAT IT READS IS OF BULK AT MOST 1048576: true; the input reads as it did. -/
def stepsPlacesUptoRow : OpenClaim := { program := "ytgeakofgklcipaa", sum := "72eec06f0c51e60305f47ae78d4e84cc5e0f90a2e5df673d0d0f1fd9a7755f28", func := "penance/penancelaw7.StepsPlaces", spec := "stepsPlaces", unfollowed := true, recurses := true, loops := true, apart := false, narrowed := true }
def StepsPlacesUptoSaid : Prop := stepsPlacesUptoRow.holds Try.pinned (OpenSpec.upto stepsPlacesSpec)

/-- 'penancelaw7.StepsPar', WHERE WHAT IT READS IS OF BULK AT MOST 1048576: true; the input reads as it did. -/
def stepsParUptoRow : OpenClaim := { program := "ytgeakofgklcipaa", sum := "72eec06f0c51e60305f47ae78d4e84cc5e0f90a2e5df673d0d0f1fd9a7755f28", func := "penance/penancelaw7.StepsPar", spec := "stepsPar", unfollowed := true, recurses := true, loops := true, apart := false, narrowed := true }
def StepsParUptoSaid : Prop := stepsParUptoRow.holds Try.pinned (OpenSpec.upto stepsParSpec)

/-- 'penancelaw7.StepsStatus', WHERE WHAT IT READS IS OF BULK AT MOST 1048576: true; the input reads as it did. -/
def stepsStatusUptoRow : OpenClaim := { program := "ytgeakofgklcipaa", sum := "72eec06f0c51e60305f47ae78d4e84cc5e0f90a2e5df673d0d0f1fd9a7755f28", func := "penance/penancelaw7.StepsStatus", spec := "stepsStatus", unfollowed := true, recurses := true, loops := true, apart := false, narrowed := true }
def StepsStatusUptoSaid : Prop := stepsStatusUptoRow.holds Try.pinned (OpenSpec.upto stepsStatusSpec)

/-- 'penancelaw7.StepsBlocks', WHERE WHAT IT READS IS OF BULK AT MOST 1048576: true; the input reads as it did. -/
def stepsBlocksUptoRow : OpenClaim := { program := "ytgeakofgklcipaa", sum := "72eec06f0c51e60305f47ae78d4e84cc5e0f90a2e5df673d0d0f1fd9a7755f28", func := "penance/penancelaw7.StepsBlocks", spec := "stepsBlocks", unfollowed := true, recurses := true, loops := true, apart := false, narrowed := true }
def StepsBlocksUptoSaid : Prop := stepsBlocksUptoRow.holds Try.pinned (OpenSpec.upto stepsBlocksSpec)

/-- 'penancelaw7.StepsWait', WHERE WHAT IT READS IS OF BULK AT MOST 1048576: true; the input reads as it did. -/
def stepsWaitUptoRow : OpenClaim := { program := "ytgeakofgklcipaa", sum := "72eec06f0c51e60305f47ae78d4e84cc5e0f90a2e5df673d0d0f1fd9a7755f28", func := "penance/penancelaw7.StepsWait", spec := "stepsWait", unfollowed := true, recurses := true, loops := true, apart := false, narrowed := true }
def StepsWaitUptoSaid : Prop := stepsWaitUptoRow.holds Try.pinned (OpenSpec.upto stepsWaitSpec)

/-- 'penancelaw7.StepsOrder', WHERE WHAT IT READS IS OF BULK AT MOST 1048576: true; the input reads as it did. -/
def stepsOrderUptoRow : OpenClaim := { program := "ytgeakofgklcipaa", sum := "72eec06f0c51e60305f47ae78d4e84cc5e0f90a2e5df673d0d0f1fd9a7755f28", func := "penance/penancelaw7.StepsOrder", spec := "stepsOrder", unfollowed := true, recurses := true, loops := true, apart := false, narrowed := true }
def StepsOrderUptoSaid : Prop := stepsOrderUptoRow.holds Try.pinned (OpenSpec.upto stepsOrderSpec)

/-- 'penancelaw7.StepsRow', WHERE WHAT IT READS IS OF BULK AT MOST 1048576: true; the input reads as it did. -/
def stepsRowUptoRow : OpenClaim := { program := "ytgeakofgklcipaa", sum := "72eec06f0c51e60305f47ae78d4e84cc5e0f90a2e5df673d0d0f1fd9a7755f28", func := "penance/penancelaw7.StepsRow", spec := "stepsRow", unfollowed := true, recurses := true, loops := true, apart := false, narrowed := true }
def StepsRowUptoSaid : Prop := stepsRowUptoRow.holds Try.pinned (OpenSpec.upto stepsRowSpec)

end Rows
end Go.Proofs.Ytgeakofgklcipaa
