/-
  No cell of these rows narrows 'for every input' (looked for: loops, veiled, ifaces, maps, wideKeys, modest, calm, conditions, laid).
  DERIVED. THE GIVEN ROWS OF THIS SEAT. 4 by the template 'for every input the law returns true; each argument reads behind the call as it read before'; 0 by the template 'total and deterministic' (their statements: YtlcojdfgfodphaaTotals.lean).
  GIVEN WITH THE SEED: the statements are not yours to turn. If you find one false, say at which input.
  Laid BY PROGRAM, IN A SANDBOX (cutbox-rows.mjs): the forced cells as the released guide's own fill.sh prints them over the translation d9760384e7bc3064… (all of the seat's roots in one cut). By AI agents, Wed Nov 11 2026. No macro, syntax, notation, axiom, sorry.
-/
import Derived.Test.YtlcojdfgfodphaaChecked
import GoSem.Claim
import GoSem.ClaimJoined
import GoSem.ClaimMapViews
import Derived.JoinedTies
import Derived.KernelRfl
namespace Go.Proofs.Ytlcojdfgfodphaa
/- THE CELL 'sum', in the pinned program and in every row, IS THE sha256 OF THE DUMP (.gsa) THAT YtlcojdfgfodphaaProg.lean LOADS. Nothing in Lean hashes anything: it is a label: what it is worth is what the hold of that sum in a sandbox is worth. -/
noncomputable def Try.pinned : Pinned := { name := "ytlcojdfgfodphaa", sum := "d9760384e7bc30642e9a8656e91efe69dae4652f2f8af086f6983fccb88de64d", checked := Try.checked }
namespace Rows
def none {H : Type} : Left H := { results := [], args := [] }

/-- 'penancelaw12.WireAgain': WHATEVER THE INPUT: true; the input reads as it did. -/
def wireAgainSpec : ChangeSpec := { name := "wireAgain", fn := fun _ => fun
  | [d1, d2, d3] => { results := [.lit (.bool true)], args := [d1, d2, d3] }
  | _ => none }
def wireAgainRow : OpenClaim := { program := "ytlcojdfgfodphaa", sum := "d9760384e7bc30642e9a8656e91efe69dae4652f2f8af086f6983fccb88de64d", func := "penance/penancelaw12.WireAgain", spec := "wireAgain", unfollowed := true, recurses := true, apart := false }
def WireAgainSaid : Prop := wireAgainRow.holds Try.pinned (OpenSpec.ofChange wireAgainSpec)

/-- ITS FALSE NEIGHBOUR: 'it returns false'. Refute it at one input. -/
def wireAgainWrong : ChangeSpec := { name := "wireAgain", fn := fun _ => fun
  | [d1, d2, d3] => { results := [.lit (.bool false)], args := [d1, d2, d3] }
  | _ => none }
def WireAgainWrongFalsely : Prop := wireAgainRow.holds Try.pinned (OpenSpec.ofChange wireAgainWrong)

/-- 'penancelaw12.WireLost': WHATEVER THE INPUT: true; the input reads as it did. -/
def wireLostSpec : ChangeSpec := { name := "wireLost", fn := fun _ => fun
  | [d1, d2, d3] => { results := [.lit (.bool true)], args := [d1, d2, d3] }
  | _ => none }
def wireLostRow : OpenClaim := { program := "ytlcojdfgfodphaa", sum := "d9760384e7bc30642e9a8656e91efe69dae4652f2f8af086f6983fccb88de64d", func := "penance/penancelaw12.WireLost", spec := "wireLost", unfollowed := true, recurses := true, apart := false }
def WireLostSaid : Prop := wireLostRow.holds Try.pinned (OpenSpec.ofChange wireLostSpec)

/-- ITS FALSE NEIGHBOUR: 'it returns false'. Refute it at one input. -/
def wireLostWrong : ChangeSpec := { name := "wireLost", fn := fun _ => fun
  | [d1, d2, d3] => { results := [.lit (.bool false)], args := [d1, d2, d3] }
  | _ => none }
def WireLostWrongFalsely : Prop := wireLostRow.holds Try.pinned (OpenSpec.ofChange wireLostWrong)

/-- 'penancelaw12.WireCrash': WHATEVER THE INPUT: true; the input reads as it did. -/
def wireCrashSpec : ChangeSpec := { name := "wireCrash", fn := fun _ => fun
  | [d1, d2, d3] => { results := [.lit (.bool true)], args := [d1, d2, d3] }
  | _ => none }
def wireCrashRow : OpenClaim := { program := "ytlcojdfgfodphaa", sum := "d9760384e7bc30642e9a8656e91efe69dae4652f2f8af086f6983fccb88de64d", func := "penance/penancelaw12.WireCrash", spec := "wireCrash", unfollowed := true, recurses := true, apart := false }
def WireCrashSaid : Prop := wireCrashRow.holds Try.pinned (OpenSpec.ofChange wireCrashSpec)

/-- ITS FALSE NEIGHBOUR: 'it returns false'. Refute it at one input. -/
def wireCrashWrong : ChangeSpec := { name := "wireCrash", fn := fun _ => fun
  | [d1, d2, d3] => { results := [.lit (.bool false)], args := [d1, d2, d3] }
  | _ => none }
def WireCrashWrongFalsely : Prop := wireCrashRow.holds Try.pinned (OpenSpec.ofChange wireCrashWrong)

/-- 'penancelaw12.WireForgets': WHATEVER THE INPUT: true; the input reads as it did. -/
def wireForgetsSpec : ChangeSpec := { name := "wireForgets", fn := fun _ => fun
  | [d1, d2] => { results := [.lit (.bool true)], args := [d1, d2] }
  | _ => none }
def wireForgetsRow : OpenClaim := { program := "ytlcojdfgfodphaa", sum := "d9760384e7bc30642e9a8656e91efe69dae4652f2f8af086f6983fccb88de64d", func := "penance/penancelaw12.WireForgets", spec := "wireForgets", unfollowed := true, recurses := true, apart := false }
def WireForgetsSaid : Prop := wireForgetsRow.holds Try.pinned (OpenSpec.ofChange wireForgetsSpec)

/-- ITS FALSE NEIGHBOUR: 'it returns false'. Refute it at one input. -/
def wireForgetsWrong : ChangeSpec := { name := "wireForgets", fn := fun _ => fun
  | [d1, d2] => { results := [.lit (.bool false)], args := [d1, d2] }
  | _ => none }
def WireForgetsWrongFalsely : Prop := wireForgetsRow.holds Try.pinned (OpenSpec.ofChange wireForgetsWrong)

/- THE SECOND FORM. 'bulk': how many values and letters a reading holds, each counted each time it is reached (what is shared counts as often as it is met; a slice's spare places count too). A statement '..UptoSaid' is the law's where the arguments, and the package variables that the reading takes, are together of bulk at most 1048576: NARROWER than '..Said'. Prove '..Said' where nothing that the law and all that it calls make is longer than what came in: it says more and counts as full. Else prove '..UptoSaid'. A law counts once. -/
mutual
def uptoBulk {H : Type} : DataW H → Nat
  | .lit (.string bytes) => bytes.length + 1
  | .lit _ => 1
  | .nil => 1
  | .ptr d => uptoBulk d + 1
  | .slice elems spare => uptoBulkAll elems + uptoBulkAll spare + 1
  | .agg parts => uptoBulkAll parts + 1
  | .iface _ d => uptoBulk d + 1
  | .map entries => uptoBulkEntries entries + 1
  | .held _ => 1
def uptoBulkAll {H : Type} : List (DataW H) → Nat
  | [] => 0
  | d :: r => uptoBulk d + uptoBulkAll r
def uptoBulkEntries {H : Type} : List (Lit × DataW H) → Nat
  | [] => 0
  | x :: r => uptoBulkEntry x + uptoBulkEntries r
def uptoBulkEntry {H : Type} : Lit × DataW H → Nat
  | (.string bytes, d) => bytes.length + uptoBulk d + 1
  | (_, d) => uptoBulk d + 1
 end
def uptoSmall : (H : Type) → List (DataW H) → Bool := fun _ ds => decide (uptoBulkAll ds ≤ 1048576)
def OpenSpec.upto (s : _root_.Go.ChangeSpec) : _root_.Go.OpenSpec := { _root_.Go.OpenSpec.ofChange s with cond := some uptoSmall }

/-- 'penancelaw12.WireAgain', WHERE WHAT IT READS IS OF BULK AT MOST 1048576: true; the input reads as it did. -/
def wireAgainUptoRow : OpenClaim := { program := "ytlcojdfgfodphaa", sum := "d9760384e7bc30642e9a8656e91efe69dae4652f2f8af086f6983fccb88de64d", func := "penance/penancelaw12.WireAgain", spec := "wireAgain", unfollowed := true, recurses := true, apart := false, narrowed := true }
def WireAgainUptoSaid : Prop := wireAgainUptoRow.holds Try.pinned (OpenSpec.upto wireAgainSpec)

/-- 'penancelaw12.WireLost', WHERE WHAT IT READS IS OF BULK AT MOST 1048576: true; the input reads as it did. -/
def wireLostUptoRow : OpenClaim := { program := "ytlcojdfgfodphaa", sum := "d9760384e7bc30642e9a8656e91efe69dae4652f2f8af086f6983fccb88de64d", func := "penance/penancelaw12.WireLost", spec := "wireLost", unfollowed := true, recurses := true, apart := false, narrowed := true }
def WireLostUptoSaid : Prop := wireLostUptoRow.holds Try.pinned (OpenSpec.upto wireLostSpec)

/-- 'penancelaw12.WireCrash', WHERE WHAT IT READS IS OF BULK AT MOST 1048576: true; the input reads as it did. -/
def wireCrashUptoRow : OpenClaim := { program := "ytlcojdfgfodphaa", sum := "d9760384e7bc30642e9a8656e91efe69dae4652f2f8af086f6983fccb88de64d", func := "penance/penancelaw12.WireCrash", spec := "wireCrash", unfollowed := true, recurses := true, apart := false, narrowed := true }
def WireCrashUptoSaid : Prop := wireCrashUptoRow.holds Try.pinned (OpenSpec.upto wireCrashSpec)

/-- 'penancelaw12.WireForgets', WHERE WHAT IT READS IS OF BULK AT MOST 1048576: true; the input reads as it did. -/
def wireForgetsUptoRow : OpenClaim := { program := "ytlcojdfgfodphaa", sum := "d9760384e7bc30642e9a8656e91efe69dae4652f2f8af086f6983fccb88de64d", func := "penance/penancelaw12.WireForgets", spec := "wireForgets", unfollowed := true, recurses := true, apart := false, narrowed := true }
def WireForgetsUptoSaid : Prop := wireForgetsUptoRow.holds Try.pinned (OpenSpec.upto wireForgetsSpec)

end Rows
end Go.Proofs.Ytlcojdfgfodphaa
