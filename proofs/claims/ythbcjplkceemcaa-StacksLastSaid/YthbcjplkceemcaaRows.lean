/-
  No cell of these rows narrows 'for every input' (looked for: loops, veiled, ifaces, maps, wideKeys, modest, calm, conditions, laid).
  DERIVED. THE GIVEN ROWS OF THIS SEAT. 4 by the template 'for every input the law returns true; each argument reads behind the call as it read before'; 0 by the template 'total and deterministic' (their statements: YthbcjplkceemcaaTotals.lean).
  GIVEN WITH THE SEED: the statements are not yours to turn. If you find one false, say at which input.
  Laid BY PROGRAM, IN A SANDBOX (cutbox-rows.mjs): the forced cells as the released guide's own fill.sh prints them over the translation 9ef7714d8e8ad3fd… (all of the seat's roots in one cut). By AI agents, Wed Nov 11 2026. No macro, syntax, notation, axiom, sorry.
-/
import Derived.Test.YthbcjplkceemcaaChecked
import GoSem.Claim
import GoSem.ClaimJoined
import GoSem.ClaimMapViews
import Derived.JoinedTies
import Derived.KernelRfl
namespace Go.Proofs.Ythbcjplkceemcaa
/- THE CELL 'sum', in the pinned program and in every row, IS THE sha256 OF THE DUMP (.gsa) THAT YthbcjplkceemcaaProg.lean LOADS. Nothing in Lean hashes anything: it is a label: what it is worth is what the hold of that sum in a sandbox is worth. -/
noncomputable def Try.pinned : Pinned := { name := "ythbcjplkceemcaa", sum := "9ef7714d8e8ad3fd83985d4d57185ff47975726c56bd330afdcc0088e8696ada", checked := Try.checked }
namespace Rows
def none {H : Type} : Left H := { results := [], args := [] }

/-- 'penancelaw6.StacksLast': WHATEVER THE INPUT: true; the input reads as it did. -/
def stacksLastSpec : ChangeSpec := { name := "stacksLast", fn := fun _ => fun
  | [d] => { results := [.lit (.bool true)], args := [d] }
  | _ => none }
def stacksLastRow : OpenClaim := { program := "ythbcjplkceemcaa", sum := "9ef7714d8e8ad3fd83985d4d57185ff47975726c56bd330afdcc0088e8696ada", func := "penance/penancelaw6.StacksLast", spec := "stacksLast", unfollowed := true, recurses := true, apart := false }
def StacksLastSaid : Prop := stacksLastRow.holds Try.pinned (OpenSpec.ofChange stacksLastSpec)

/-- ITS FALSE NEIGHBOUR: 'it returns false'. Refute it at one input. -/
def stacksLastWrong : ChangeSpec := { name := "stacksLast", fn := fun _ => fun
  | [d] => { results := [.lit (.bool false)], args := [d] }
  | _ => none }
def StacksLastWrongFalsely : Prop := stacksLastRow.holds Try.pinned (OpenSpec.ofChange stacksLastWrong)

/-- 'penancelaw6.StacksRun': WHATEVER THE INPUT: true; the input reads as it did. -/
def stacksRunSpec : ChangeSpec := { name := "stacksRun", fn := fun _ => fun
  | [d1, d2] => { results := [.lit (.bool true)], args := [d1, d2] }
  | _ => none }
def stacksRunRow : OpenClaim := { program := "ythbcjplkceemcaa", sum := "9ef7714d8e8ad3fd83985d4d57185ff47975726c56bd330afdcc0088e8696ada", func := "penance/penancelaw6.StacksRun", spec := "stacksRun", unfollowed := true, recurses := true, apart := false }
def StacksRunSaid : Prop := stacksRunRow.holds Try.pinned (OpenSpec.ofChange stacksRunSpec)

/-- ITS FALSE NEIGHBOUR: 'it returns false'. Refute it at one input. -/
def stacksRunWrong : ChangeSpec := { name := "stacksRun", fn := fun _ => fun
  | [d1, d2] => { results := [.lit (.bool false)], args := [d1, d2] }
  | _ => none }
def StacksRunWrongFalsely : Prop := stacksRunRow.holds Try.pinned (OpenSpec.ofChange stacksRunWrong)

/-- 'penancelaw7.StepsExit': WHATEVER THE INPUT: true; the input reads as it did. -/
def stepsExitSpec : ChangeSpec := { name := "stepsExit", fn := fun _ => fun
  | [d1, d2, d3] => { results := [.lit (.bool true)], args := [d1, d2, d3] }
  | _ => none }
def stepsExitRow : OpenClaim := { program := "ythbcjplkceemcaa", sum := "9ef7714d8e8ad3fd83985d4d57185ff47975726c56bd330afdcc0088e8696ada", func := "penance/penancelaw7.StepsExit", spec := "stepsExit", unfollowed := true, recurses := true, apart := false }
def StepsExitSaid : Prop := stepsExitRow.holds Try.pinned (OpenSpec.ofChange stepsExitSpec)

/-- ITS FALSE NEIGHBOUR: 'it returns false'. Refute it at one input. -/
def stepsExitWrong : ChangeSpec := { name := "stepsExit", fn := fun _ => fun
  | [d1, d2, d3] => { results := [.lit (.bool false)], args := [d1, d2, d3] }
  | _ => none }
def StepsExitWrongFalsely : Prop := stepsExitRow.holds Try.pinned (OpenSpec.ofChange stepsExitWrong)

/-- 'penancelaw7.StepsKinds': WHATEVER THE INPUT: true; the input reads as it did. -/
def stepsKindsSpec : ChangeSpec := { name := "stepsKinds", fn := fun _ => fun
  | [d] => { results := [.lit (.bool true)], args := [d] }
  | _ => none }
def stepsKindsRow : OpenClaim := { program := "ythbcjplkceemcaa", sum := "9ef7714d8e8ad3fd83985d4d57185ff47975726c56bd330afdcc0088e8696ada", func := "penance/penancelaw7.StepsKinds", spec := "stepsKinds", unfollowed := true, recurses := true, apart := false }
def StepsKindsSaid : Prop := stepsKindsRow.holds Try.pinned (OpenSpec.ofChange stepsKindsSpec)

/-- ITS FALSE NEIGHBOUR: 'it returns false'. Refute it at one input. -/
def stepsKindsWrong : ChangeSpec := { name := "stepsKinds", fn := fun _ => fun
  | [d] => { results := [.lit (.bool false)], args := [d] }
  | _ => none }
def StepsKindsWrongFalsely : Prop := stepsKindsRow.holds Try.pinned (OpenSpec.ofChange stepsKindsWrong)

/- THE SECOND FORM. 'bulk': how many values and letters a reading holds, each counted each time it is reached (what is shared counts as often as it is met; a slice's spare places count too). A statement '..UptoSaid' is the law's where the arguments, and the package variables that the reading takes, are together of bulk at most 1048576: NARROWER than '..Said'. Prove '..Said' where nothing that the law and all that it calls make is longer than what came in: it says more and counts as full. Else prove '..UptoSaid'. A law counts once. -/
mutual
def uptoBulk {H : Type} : DataW H → Nat
  | .lit (.string bytes) => bytes.length + 1
  | .lit _ => 1
  | .nil => 1
  | .ptr d => uptoBulk d + 1
  | .slice elems spare => uptoBulkAll elems + uptoBulkAll spare + 1
  | .agg parts => uptoBulkAll parts + 1
  | .iface _ d => uptoBulk d + 1
  | .map entries => uptoBulkEntries entries + 1
  | .held _ => 1
def uptoBulkAll {H : Type} : List (DataW H) → Nat
  | [] => 0
  | d :: r => uptoBulk d + uptoBulkAll r
def uptoBulkEntries {H : Type} : List (Lit × DataW H) → Nat
  | [] => 0
  | x :: r => uptoBulkEntry x + uptoBulkEntries r
def uptoBulkEntry {H : Type} : Lit × DataW H → Nat
  | (.string bytes, d) => bytes.length + uptoBulk d + 1
  | (_, d) => uptoBulk d + 1
 end
def uptoSmall : (H : Type) → List (DataW H) → Bool := fun _ ds => decide (uptoBulkAll ds ≤ 1048576)
def OpenSpec.upto (s : _root_.Go.ChangeSpec) : _root_.Go.OpenSpec := { _root_.Go.OpenSpec.ofChange s with cond := some uptoSmall }

/-- 'penancelaw6.StacksLast', WHERE WHAT IT READS IS OF BULK AT MOST 1048576: true; the input reads as it did. -/
def stacksLastUptoRow : OpenClaim := { program := "ythbcjplkceemcaa", sum := "9ef7714d8e8ad3fd83985d4d57185ff47975726c56bd330afdcc0088e8696ada", func := "penance/penancelaw6.StacksLast", spec := "stacksLast", unfollowed := true, recurses := true, apart := false, narrowed := true }
def StacksLastUptoSaid : Prop := stacksLastUptoRow.holds Try.pinned (OpenSpec.upto stacksLastSpec)

/-- 'penancelaw6.StacksRun', WHERE WHAT IT READS IS OF BULK AT MOST 1048576: true; the input reads as it did. -/
def stacksRunUptoRow : OpenClaim := { program := "ythbcjplkceemcaa", sum := "9ef7714d8e8ad3fd83985d4d57185ff47975726c56bd330afdcc0088e8696ada", func := "penance/penancelaw6.StacksRun", spec := "stacksRun", unfollowed := true, recurses := true, apart := false, narrowed := true }
def StacksRunUptoSaid : Prop := stacksRunUptoRow.holds Try.pinned (OpenSpec.upto stacksRunSpec)

/-- 'penancelaw7.StepsExit', WHERE WHAT IT READS IS OF BULK AT MOST 1048576: true; the input reads as it did. -/
def stepsExitUptoRow : OpenClaim := { program := "ythbcjplkceemcaa", sum := "9ef7714d8e8ad3fd83985d4d57185ff47975726c56bd330afdcc0088e8696ada", func := "penance/penancelaw7.StepsExit", spec := "stepsExit", unfollowed := true, recurses := true, apart := false, narrowed := true }
def StepsExitUptoSaid : Prop := stepsExitUptoRow.holds Try.pinned (OpenSpec.upto stepsExitSpec)

/-- 'penancelaw7.StepsKinds', WHERE WHAT IT READS IS OF BULK AT MOST 1048576: true; the input reads as it did. -/
def stepsKindsUptoRow : OpenClaim := { program := "ythbcjplkceemcaa", sum := "9ef7714d8e8ad3fd83985d4d57185ff47975726c56bd330afdcc0088e8696ada", func := "penance/penancelaw7.StepsKinds", spec := "stepsKinds", unfollowed := true, recurses := true, apart := false, narrowed := true }
def StepsKindsUptoSaid : Prop := stepsKindsUptoRow.holds Try.pinned (OpenSpec.upto stepsKindsSpec)

end Rows
end Go.Proofs.Ythbcjplkceemcaa
