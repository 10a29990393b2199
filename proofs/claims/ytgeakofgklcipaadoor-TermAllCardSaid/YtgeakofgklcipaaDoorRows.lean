/-
  NARROWER THAN 'FOR EVERY INPUT', by the rows' own cells (each row's printed sentence says how): TermAll: loops, laid · TermRaw: loops, laid · TermNorms: loops, laid · TermWaits: loops, laid · TermSizes: loops, laid · TermSame: loops, laid · TermBounds: loops, laid · TermSkips: laid.
  DERIVED. THE GIVEN ROWS OF THIS SEAT. 8 by the template 'for every input the law returns true; each argument reads behind the call as it read before'; 0 by the template 'total and deterministic' (their statements: YtgeakofgklcipaaDoorTotals.lean).
  GIVEN WITH THE SEED: the statements are not yours to turn. If you find one false, say at which input.
  Laid BY PROGRAM, IN A SANDBOX (cutbox-rows.mjs): the forced cells as the released guide's own fill.sh prints them over the translation bcea20194ad9d000… (all of the seat's roots in one cut). By AI agents, Wed Nov 11 2026. No macro, syntax, notation, axiom, sorry.
-/
import Derived.Test.YtgeakofgklcipaaDoorChecked
import GoSem.Claim
import GoSem.ClaimJoined
import GoSem.ClaimMapViews
import Derived.JoinedTies
import Derived.KernelRfl
namespace Go.Proofs.YtgeakofgklcipaaDoor
/- THE CELL 'sum', in the pinned program and in every row, IS THE sha256 OF THE DUMP (.gsa) THAT YtgeakofgklcipaaDoorProg.lean LOADS. Nothing in Lean hashes anything: it is a label: what it is worth is what the hold of that sum in a sandbox is worth. -/
noncomputable def Tryd.pinned : Pinned := { name := "ytgeakofgklcipaadoor", sum := "bcea20194ad9d000af599d12fdda9d41aa73c273227da2694a91357a693f1495", checked := Tryd.checked }
namespace Rows
def none {H : Type} : Left H := { results := [], args := [] }

/- WHAT THE LISTED PACKAGE-LEVEL VARIABLES READ AS WHEN THE CALL BEGINS. Each datum BY PROGRAM (the guide's laid-datum.mjs) off the statement by which the dump's own 'gosem.cut.vars' lays the variable. In a bare row this is a premise. The card (YtgeakofgklcipaaDoorCards.lean) ties it to the program's text. -/
def laid_penance_term_shapes {H : Type} : DataW H := .agg [.agg [.lit (.int .i64 0), .lit (.int .i64 0), .agg [.lit (.int .i64 0), .lit (.int .i64 0), .lit (.int .i64 0)]], .agg [.lit (.int .i64 2), .lit (.int .i64 0), .agg [.lit (.int .i64 1), .lit (.int .i64 0), .lit (.int .i64 0)]], .agg [.lit (.int .i64 1), .lit (.int .i64 0), .agg [.lit (.int .i64 0), .lit (.int .i64 1), .lit (.int .i64 0)]], .agg [.lit (.int .i64 3), .lit (.int .i64 0), .agg [.lit (.int .i64 0), .lit (.int .i64 0), .lit (.int .i64 1)]], .agg [.lit (.int .i64 3), .lit (.int .i64 0), .agg [.lit (.int .i64 0), .lit (.int .i64 0), .lit (.int .i64 0)]], .agg [.lit (.int .i64 3), .lit (.int .i64 0), .agg [.lit (.int .i64 0), .lit (.int .i64 0), .lit (.int .i64 0)]], .agg [.lit (.int .i64 3), .lit (.int .i64 3), .agg [.lit (.int .i64 0), .lit (.int .i64 0), .lit (.int .i64 0)]], .agg [.lit (.int .i64 0), .lit (.int .i64 0), .agg [.lit (.int .i64 0), .lit (.int .i64 0), .lit (.int .i64 1)]], .agg [.lit (.int .i64 0), .lit (.int .i64 0), .agg [.lit (.int .i64 0), .lit (.int .i64 0), .lit (.int .i64 0)]], .agg [.lit (.int .i64 0), .lit (.int .i64 0), .agg [.lit (.int .i64 0), .lit (.int .i64 1), .lit (.int .i64 2)]], .agg [.lit (.int .i64 0), .lit (.int .i64 0), .agg [.lit (.int .i64 0), .lit (.int .i64 0), .lit (.int .i64 2)]], .agg [.lit (.int .i64 0), .lit (.int .i64 0), .agg [.lit (.int .i64 0), .lit (.int .i64 0), .lit (.int .i64 2)]], .agg [.lit (.int .i64 0), .lit (.int .i64 0), .agg [.lit (.int .i64 0), .lit (.int .i64 0), .lit (.int .i64 2)]], .agg [.lit (.int .i64 4), .lit (.int .i64 0), .agg [.lit (.int .i64 0), .lit (.int .i64 0), .lit (.int .i64 0)]], .agg [.lit (.int .i64 5), .lit (.int .i64 2), .agg [.lit (.int .i64 1), .lit (.int .i64 0), .lit (.int .i64 0)]]]

/-- 'penancelaw5.TermAll': WHATEVER THE INPUT: true; the input reads as it did. -/
def termAllSpec : ChangeSpec := { name := "termAll", fn := fun _ => fun
  | [d1, d2, d3, d4, d5] => { results := [.lit (.bool true)], args := [d1, d2, d3, d4, d5] }
  | _ => none }
def termAllRow : OpenClaim := { program := "ytgeakofgklcipaadoor", sum := "bcea20194ad9d000af599d12fdda9d41aa73c273227da2694a91357a693f1495", func := "penance/penancelaw5.TermAll", spec := "termAll", unfollowed := true, recurses := true, named := ["penance/term.shapes"], loops := true, apart := false, laid := [("penance/term.shapes", laid_penance_term_shapes)] }
def TermAllSaid : Prop := termAllRow.holds Tryd.pinned (OpenSpec.ofChange termAllSpec)

/-- ITS FALSE NEIGHBOUR: 'it returns false'. Refute it at one input. -/
def termAllWrong : ChangeSpec := { name := "termAll", fn := fun _ => fun
  | [d1, d2, d3, d4, d5] => { results := [.lit (.bool false)], args := [d1, d2, d3, d4, d5] }
  | _ => none }
def TermAllWrongFalsely : Prop := termAllRow.holds Tryd.pinned (OpenSpec.ofChange termAllWrong)

/-- 'penancelaw5.TermRaw': WHATEVER THE INPUT: true; the input reads as it did. -/
def termRawSpec : ChangeSpec := { name := "termRaw", fn := fun _ => fun
  | [d] => { results := [.lit (.bool true)], args := [d] }
  | _ => none }
def termRawRow : OpenClaim := { program := "ytgeakofgklcipaadoor", sum := "bcea20194ad9d000af599d12fdda9d41aa73c273227da2694a91357a693f1495", func := "penance/penancelaw5.TermRaw", spec := "termRaw", unfollowed := true, recurses := true, named := ["penance/term.shapes"], loops := true, apart := false, laid := [("penance/term.shapes", laid_penance_term_shapes)] }
def TermRawSaid : Prop := termRawRow.holds Tryd.pinned (OpenSpec.ofChange termRawSpec)

/-- ITS FALSE NEIGHBOUR: 'it returns false'. Refute it at one input. -/
def termRawWrong : ChangeSpec := { name := "termRaw", fn := fun _ => fun
  | [d] => { results := [.lit (.bool false)], args := [d] }
  | _ => none }
def TermRawWrongFalsely : Prop := termRawRow.holds Tryd.pinned (OpenSpec.ofChange termRawWrong)

/-- 'penancelaw5.TermNorms': WHATEVER THE INPUT: true; the input reads as it did. -/
def termNormsSpec : ChangeSpec := { name := "termNorms", fn := fun _ => fun
  | [d1, d2] => { results := [.lit (.bool true)], args := [d1, d2] }
  | _ => none }
def termNormsRow : OpenClaim := { program := "ytgeakofgklcipaadoor", sum := "bcea20194ad9d000af599d12fdda9d41aa73c273227da2694a91357a693f1495", func := "penance/penancelaw5.TermNorms", spec := "termNorms", unfollowed := true, recurses := true, named := ["penance/term.shapes"], loops := true, apart := false, laid := [("penance/term.shapes", laid_penance_term_shapes)] }
def TermNormsSaid : Prop := termNormsRow.holds Tryd.pinned (OpenSpec.ofChange termNormsSpec)

/-- ITS FALSE NEIGHBOUR: 'it returns false'. Refute it at one input. -/
def termNormsWrong : ChangeSpec := { name := "termNorms", fn := fun _ => fun
  | [d1, d2] => { results := [.lit (.bool false)], args := [d1, d2] }
  | _ => none }
def TermNormsWrongFalsely : Prop := termNormsRow.holds Tryd.pinned (OpenSpec.ofChange termNormsWrong)

/-- 'penancelaw5.TermWaits': WHATEVER THE INPUT: true; the input reads as it did. -/
def termWaitsSpec : ChangeSpec := { name := "termWaits", fn := fun _ => fun
  | [d1, d2, d3, d4] => { results := [.lit (.bool true)], args := [d1, d2, d3, d4] }
  | _ => none }
def termWaitsRow : OpenClaim := { program := "ytgeakofgklcipaadoor", sum := "bcea20194ad9d000af599d12fdda9d41aa73c273227da2694a91357a693f1495", func := "penance/penancelaw5.TermWaits", spec := "termWaits", unfollowed := true, recurses := true, named := ["penance/term.shapes"], loops := true, apart := false, laid := [("penance/term.shapes", laid_penance_term_shapes)] }
def TermWaitsSaid : Prop := termWaitsRow.holds Tryd.pinned (OpenSpec.ofChange termWaitsSpec)

/-- ITS FALSE NEIGHBOUR: 'it returns false'. Refute it at one input. -/
def termWaitsWrong : ChangeSpec := { name := "termWaits", fn := fun _ => fun
  | [d1, d2, d3, d4] => { results := [.lit (.bool false)], args := [d1, d2, d3, d4] }
  | _ => none }
def TermWaitsWrongFalsely : Prop := termWaitsRow.holds Tryd.pinned (OpenSpec.ofChange termWaitsWrong)

/-- 'penancelaw5.TermSizes': WHATEVER THE INPUT: true; the input reads as it did. -/
def termSizesSpec : ChangeSpec := { name := "termSizes", fn := fun _ => fun
  | [d1, d2, d3] => { results := [.lit (.bool true)], args := [d1, d2, d3] }
  | _ => none }
def termSizesRow : OpenClaim := { program := "ytgeakofgklcipaadoor", sum := "bcea20194ad9d000af599d12fdda9d41aa73c273227da2694a91357a693f1495", func := "penance/penancelaw5.TermSizes", spec := "termSizes", unfollowed := true, recurses := true, named := ["penance/term.shapes"], loops := true, apart := false, laid := [("penance/term.shapes", laid_penance_term_shapes)] }
def TermSizesSaid : Prop := termSizesRow.holds Tryd.pinned (OpenSpec.ofChange termSizesSpec)

/-- ITS FALSE NEIGHBOUR: 'it returns false'. Refute it at one input. -/
def termSizesWrong : ChangeSpec := { name := "termSizes", fn := fun _ => fun
  | [d1, d2, d3] => { results := [.lit (.bool false)], args := [d1, d2, d3] }
  | _ => none }
def TermSizesWrongFalsely : Prop := termSizesRow.holds Tryd.pinned (OpenSpec.ofChange termSizesWrong)

/-- 'penancelaw5.TermSame': WHATEVER THE INPUT: true; the input reads as it did. -/
def termSameSpec : ChangeSpec := { name := "termSame", fn := fun _ => fun
  | [d1, d2, d3, d4, d5] => { results := [.lit (.bool true)], args := [d1, d2, d3, d4, d5] }
  | _ => none }
def termSameRow : OpenClaim := { program := "ytgeakofgklcipaadoor", sum := "bcea20194ad9d000af599d12fdda9d41aa73c273227da2694a91357a693f1495", func := "penance/penancelaw5.TermSame", spec := "termSame", unfollowed := true, recurses := true, named := ["penance/term.shapes"], loops := true, apart := false, laid := [("penance/term.shapes", laid_penance_term_shapes)] }
def TermSameSaid : Prop := termSameRow.holds Tryd.pinned (OpenSpec.ofChange termSameSpec)

/-- ITS FALSE NEIGHBOUR: 'it returns false'. Refute it at one input. -/
def termSameWrong : ChangeSpec := { name := "termSame", fn := fun _ => fun
  | [d1, d2, d3, d4, d5] => { results := [.lit (.bool false)], args := [d1, d2, d3, d4, d5] }
  | _ => none }
def TermSameWrongFalsely : Prop := termSameRow.holds Tryd.pinned (OpenSpec.ofChange termSameWrong)

/-- 'penancelaw5.TermBounds': WHATEVER THE INPUT: true; the input reads as it did. -/
def termBoundsSpec : ChangeSpec := { name := "termBounds", fn := fun _ => fun
  | [d1, d2, d3, d4, d5] => { results := [.lit (.bool true)], args := [d1, d2, d3, d4, d5] }
  | _ => none }
def termBoundsRow : OpenClaim := { program := "ytgeakofgklcipaadoor", sum := "bcea20194ad9d000af599d12fdda9d41aa73c273227da2694a91357a693f1495", func := "penance/penancelaw5.TermBounds", spec := "termBounds", unfollowed := true, recurses := true, named := ["penance/term.shapes"], loops := true, apart := false, laid := [("penance/term.shapes", laid_penance_term_shapes)] }
def TermBoundsSaid : Prop := termBoundsRow.holds Tryd.pinned (OpenSpec.ofChange termBoundsSpec)

/-- ITS FALSE NEIGHBOUR: 'it returns false'. Refute it at one input. -/
def termBoundsWrong : ChangeSpec := { name := "termBounds", fn := fun _ => fun
  | [d1, d2, d3, d4, d5] => { results := [.lit (.bool false)], args := [d1, d2, d3, d4, d5] }
  | _ => none }
def TermBoundsWrongFalsely : Prop := termBoundsRow.holds Tryd.pinned (OpenSpec.ofChange termBoundsWrong)

/-- 'penancelaw5.TermSkips': WHATEVER THE INPUT: true; the input reads as it did. -/
def termSkipsSpec : ChangeSpec := { name := "termSkips", fn := fun _ => fun
  | [d] => { results := [.lit (.bool true)], args := [d] }
  | _ => none }
def termSkipsRow : OpenClaim := { program := "ytgeakofgklcipaadoor", sum := "bcea20194ad9d000af599d12fdda9d41aa73c273227da2694a91357a693f1495", func := "penance/penancelaw5.TermSkips", spec := "termSkips", unfollowed := true, recurses := true, named := ["penance/term.shapes"], apart := false, laid := [("penance/term.shapes", laid_penance_term_shapes)] }
def TermSkipsSaid : Prop := termSkipsRow.holds Tryd.pinned (OpenSpec.ofChange termSkipsSpec)

/-- ITS FALSE NEIGHBOUR: 'it returns false'. Refute it at one input. -/
def termSkipsWrong : ChangeSpec := { name := "termSkips", fn := fun _ => fun
  | [d] => { results := [.lit (.bool false)], args := [d] }
  | _ => none }
def TermSkipsWrongFalsely : Prop := termSkipsRow.holds Tryd.pinned (OpenSpec.ofChange termSkipsWrong)

/- THE SECOND FORM. 'bulk': how many values and letters a reading holds, each counted each time it is reached (what is shared counts as often as it is met; a slice's spare places count too). A statement '..UptoSaid' is the law's where the arguments, and the package variables that the reading takes, are together of bulk at most 1048576: NARROWER than '..Said'. Prove '..Said' where nothing that the law and all that it calls make is longer than what came in: it says more and counts as full. Else prove '..UptoSaid'. A law counts once. -/
mutual
def uptoBulk {H : Type} : DataW H → Nat
  | .lit (.string bytes) => bytes.length + 1
  | .lit _ => 1
  | .nil => 1
  | .ptr d => uptoBulk d + 1
  | .slice elems spare => uptoBulkAll elems + uptoBulkAll spare + 1
  | .agg parts => uptoBulkAll parts + 1
  | .iface _ d => uptoBulk d + 1
  | .map entries => uptoBulkEntries entries + 1
  | .held _ => 1
def uptoBulkAll {H : Type} : List (DataW H) → Nat
  | [] => 0
  | d :: r => uptoBulk d + uptoBulkAll r
def uptoBulkEntries {H : Type} : List (Lit × DataW H) → Nat
  | [] => 0
  | x :: r => uptoBulkEntry x + uptoBulkEntries r
def uptoBulkEntry {H : Type} : Lit × DataW H → Nat
  | (.string bytes, d) => bytes.length + uptoBulk d + 1
  | (_, d) => uptoBulk d + 1
 end
def uptoSmall : (H : Type) → List (DataW H) → Bool := fun _ ds => decide (uptoBulkAll ds ≤ 1048576)
def OpenSpec.upto (s : _root_.Go.ChangeSpec) : _root_.Go.OpenSpec := { _root_.Go.OpenSpec.ofChange s with cond := some uptoSmall }

/-- 'penancelaw5.TermAll', WHERE WHAT IT READS IS OF BULK AT MOST 1048576: true; the input reads as it did. -/
def termAllUptoRow : OpenClaim := { program := "ytgeakofgklcipaadoor", sum := "bcea20194ad9d000af599d12fdda9d41aa73c273227da2694a91357a693f1495", func := "penance/penancelaw5.TermAll", spec := "termAll", unfollowed := true, recurses := true, named := ["penance/term.shapes"], loops := true, apart := false, laid := [("penance/term.shapes", laid_penance_term_shapes)], narrowed := true }
def TermAllUptoSaid : Prop := termAllUptoRow.holds Tryd.pinned (OpenSpec.upto termAllSpec)

/-- 'penancelaw5.TermRaw', WHERE WHAT IT READS IS OF BULK AT MOST 1048576: true; the input reads as it did. -/
def termRawUptoRow : OpenClaim := { program := "ytgeakofgklcipaadoor", sum := "bcea20194ad9d000af599d12fdda9d41aa73c273227da2694a91357a693f1495", func := "penance/penancelaw5.TermRaw", spec := "termRaw", unfollowed := true, recurses := true, named := ["penance/term.shapes"], loops := true, apart := false, laid := [("penance/term.shapes", laid_penance_term_shapes)], narrowed := true }
def TermRawUptoSaid : Prop := termRawUptoRow.holds Tryd.pinned (OpenSpec.upto termRawSpec)

/-- 'penancelaw5.TermNorms', WHERE WHAT IT READS IS OF BULK AT MOST 1048576: true; the input reads as it did. -/
def termNormsUptoRow : OpenClaim := { program := "ytgeakofgklcipaadoor", sum := "bcea20194ad9d000af599d12fdda9d41aa73c273227da2694a91357a693f1495", func := "penance/penancelaw5.TermNorms", spec := "termNorms", unfollowed := true, recurses := true, named := ["penance/term.shapes"], loops := true, apart := false, laid := [("penance/term.shapes", laid_penance_term_shapes)], narrowed := true }
def TermNormsUptoSaid : Prop := termNormsUptoRow.holds Tryd.pinned (OpenSpec.upto termNormsSpec)

/-- 'penancelaw5.TermWaits', WHERE WHAT IT READS IS OF BULK AT MOST 1048576: true; the input reads as it did. -/
def termWaitsUptoRow : OpenClaim := { program := "ytgeakofgklcipaadoor", sum := "bcea20194ad9d000af599d12fdda9d41aa73c273227da2694a91357a693f1495", func := "penance/penancelaw5.TermWaits", spec := "termWaits", unfollowed := true, recurses := true, named := ["penance/term.shapes"], loops := true, apart := false, laid := [("penance/term.shapes", laid_penance_term_shapes)], narrowed := true }
def TermWaitsUptoSaid : Prop := termWaitsUptoRow.holds Tryd.pinned (OpenSpec.upto termWaitsSpec)

/-- 'penancelaw5.TermSizes', WHERE WHAT IT READS IS OF BULK AT MOST 1048576: true; the input reads as it did. -/
def termSizesUptoRow : OpenClaim := { program := "ytgeakofgklcipaadoor", sum := "bcea20194ad9d000af599d12fdda9d41aa73c273227da2694a91357a693f1495", func := "penance/penancelaw5.TermSizes", spec := "termSizes", unfollowed := true, recurses := true, named := ["penance/term.shapes"], loops := true, apart := false, laid := [("penance/term.shapes", laid_penance_term_shapes)], narrowed := true }
def TermSizesUptoSaid : Prop := termSizesUptoRow.holds Tryd.pinned (OpenSpec.upto termSizesSpec)

/-- 'penancelaw5.TermSame', WHERE WHAT IT READS IS OF BULK AT MOST 1048576: true; the input reads as it did. -/
def termSameUptoRow : OpenClaim := { program := "ytgeakofgklcipaadoor", sum := "bcea20194ad9d000af599d12fdda9d41aa73c273227da2694a91357a693f1495", func := "penance/penancelaw5.TermSame", spec := "termSame", unfollowed := true, recurses := true, named := ["penance/term.shapes"], loops := true, apart := false, laid := [("penance/term.shapes", laid_penance_term_shapes)], narrowed := true }
def TermSameUptoSaid : Prop := termSameUptoRow.holds Tryd.pinned (OpenSpec.upto termSameSpec)

/-- 'penancelaw5.TermBounds', WHERE WHAT IT READS IS OF BULK AT MOST 1048576: true; the input reads as it did. -/
def termBoundsUptoRow : OpenClaim := { program := "ytgeakofgklcipaadoor", sum := "bcea20194ad9d000af599d12fdda9d41aa73c273227da2694a91357a693f1495", func := "penance/penancelaw5.TermBounds", spec := "termBounds", unfollowed := true, recurses := true, named := ["penance/term.shapes"], loops := true, apart := false, laid := [("penance/term.shapes", laid_penance_term_shapes)], narrowed := true }
def TermBoundsUptoSaid : Prop := termBoundsUptoRow.holds Tryd.pinned (OpenSpec.upto termBoundsSpec)

/-- 'penancelaw5.TermSkips', WHERE WHAT IT READS IS OF BULK AT MOST 1048576: true; the input reads as it did. -/
def termSkipsUptoRow : OpenClaim := { program := "ytgeakofgklcipaadoor", sum := "bcea20194ad9d000af599d12fdda9d41aa73c273227da2694a91357a693f1495", func := "penance/penancelaw5.TermSkips", spec := "termSkips", unfollowed := true, recurses := true, named := ["penance/term.shapes"], apart := false, laid := [("penance/term.shapes", laid_penance_term_shapes)], narrowed := true }
def TermSkipsUptoSaid : Prop := termSkipsUptoRow.holds Tryd.pinned (OpenSpec.upto termSkipsSpec)

end Rows
end Go.Proofs.YtgeakofgklcipaaDoor
