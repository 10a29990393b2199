/-
  DERIVED. GIVEN WITH THE SEED: THE CARDS: each row of YtlbpiiehanibfaaDoorRows.lean that lists a variable, with what it lists TIED to the program's text (the seventh form; the later family's looks); each row that meets fmt, with fmt's text TOLD by the authors' own Lean function (tested against real Go, not proved from fmt's source: count such statements apart). THE CARD IS WHAT COUNTS. Prove the row's statement (the work); the ties are given (YtlbpiiehanibfaaDoorTie.lean); close each card by the builder's one call (the guide's Derived/Test/ToyasCard.lean, 'card_holds'). Laid BY PROGRAM, IN A SANDBOX (cutbox-door.mjs). By AI agents, Wed Nov 11 2026. No macro, syntax, notation, axiom, sorry.
-/
import Derived.Test.YtlbpiiehanibfaaDoorRows
import GoSem.ClaimSeven
namespace Go.Proofs.YtlbpiiehanibfaaDoor
namespace Rows

/-- THE TIED CARD OF 'penancelaw2.ExprBack'. -/
def exprBackCard : Claim7 := { stood := { row := exprBackRow, standIns := [], harness := (true, "a074f64f81d62d7df0e3f20f9689394e39c25c98e608898b28c3bc9b42878db3"), looks := true }, kinds := [], alts := [], laidByText := true, laidKinds := [.data, .data, .data, .sentinel, .sentinel, .data], laidTests := true, laidLooks := .later }
def ExprBackCardSaid : Prop := Claim7.holds Tryd.pinned (.plain (OpenSpec.ofChange exprBackSpec)) exprBackCard

/-- THE TIED CARD OF 'penancelaw2.ExprEvals'. -/
def exprEvalsCard : Claim7 := { stood := { row := exprEvalsRow, standIns := [], harness := (true, "a074f64f81d62d7df0e3f20f9689394e39c25c98e608898b28c3bc9b42878db3"), looks := true }, kinds := [], alts := [], laidByText := true, laidKinds := [.data, .data, .data, .sentinel, .sentinel, .data], laidTests := true, laidLooks := .later }
def ExprEvalsCardSaid : Prop := Claim7.holds Tryd.pinned (.plain (OpenSpec.ofChange exprEvalsSpec)) exprEvalsCard

/-- THE TIED CARD OF 'penancelaw2.ExprRight'. -/
def exprRightCard : Claim7 := { stood := { row := exprRightRow, standIns := [], harness := (true, "a074f64f81d62d7df0e3f20f9689394e39c25c98e608898b28c3bc9b42878db3"), looks := true }, kinds := [], alts := [], laidByText := true, laidKinds := [.data, .data, .data, .sentinel, .sentinel, .data], laidTests := true, laidLooks := .later }
def ExprRightCardSaid : Prop := Claim7.holds Tryd.pinned (.plain (OpenSpec.ofChange exprRightSpec)) exprRightCard

/-- THE TIED CARD OF 'penancelaw2.ExprKnown'. -/
def exprKnownCard : Claim7 := { stood := { row := exprKnownRow, standIns := [], harness := (true, "a074f64f81d62d7df0e3f20f9689394e39c25c98e608898b28c3bc9b42878db3"), looks := true }, kinds := [], alts := [], laidByText := true, laidKinds := [.data, .data, .data, .sentinel, .sentinel, .data], laidTests := true, laidLooks := .later }
def ExprKnownCardSaid : Prop := Claim7.holds Tryd.pinned (.plain (OpenSpec.ofChange exprKnownSpec)) exprKnownCard

/-- THE TIED CARD OF 'penancelaw2.ExprErrs'. -/
def exprErrsCard : Claim7 := { stood := { row := exprErrsRow, standIns := [], harness := (true, "a074f64f81d62d7df0e3f20f9689394e39c25c98e608898b28c3bc9b42878db3"), looks := true }, kinds := [], alts := [], laidByText := true, laidKinds := [.data, .data, .data, .sentinel, .sentinel, .data], laidTests := true, laidLooks := .later }
def ExprErrsCardSaid : Prop := Claim7.holds Tryd.pinned (.plain (OpenSpec.ofChange exprErrsSpec)) exprErrsCard

/-- THE TIED CARD OF 'penancelaw2.ExprDeep'. -/
def exprDeepCard : Claim7 := { stood := { row := exprDeepRow, standIns := [], harness := (true, "a074f64f81d62d7df0e3f20f9689394e39c25c98e608898b28c3bc9b42878db3"), looks := true }, kinds := [], alts := [], laidByText := true, laidKinds := [.data, .data, .data, .sentinel, .sentinel, .data], laidTests := true, laidLooks := .later }
def ExprDeepCardSaid : Prop := Claim7.holds Tryd.pinned (.plain (OpenSpec.ofChange exprDeepSpec)) exprDeepCard

/-- THE TIED CARD OF 'penancelaw2.ExprTwo'. -/
def exprTwoCard : Claim7 := { stood := { row := exprTwoRow, standIns := [], harness := (true, "a074f64f81d62d7df0e3f20f9689394e39c25c98e608898b28c3bc9b42878db3"), looks := true }, kinds := [], alts := [], laidByText := true, laidKinds := [.data, .data, .data, .sentinel, .sentinel, .data], laidTests := true, laidLooks := .later }
def ExprTwoCardSaid : Prop := Claim7.holds Tryd.pinned (.plain (OpenSpec.ofChange exprTwoSpec)) exprTwoCard

/-- THE TIED CARD OF 'penancelaw2.ExprLaws'. -/
def exprLawsCard : Claim7 := { stood := { row := exprLawsRow, standIns := [], harness := (true, "a074f64f81d62d7df0e3f20f9689394e39c25c98e608898b28c3bc9b42878db3"), looks := true }, kinds := [], alts := [], laidByText := true, laidKinds := [.data, .data, .data, .sentinel, .sentinel, .data], laidTests := true, laidLooks := .later }
def ExprLawsCardSaid : Prop := Claim7.holds Tryd.pinned (.plain (OpenSpec.ofChange exprLawsSpec)) exprLawsCard

/-- THE TIED CARD OF 'penancelaw2.ExprShort'. -/
def exprShortCard : Claim7 := { stood := { row := exprShortRow, standIns := [], harness := (true, "a074f64f81d62d7df0e3f20f9689394e39c25c98e608898b28c3bc9b42878db3"), looks := true }, kinds := [], alts := [], laidByText := true, laidKinds := [.data, .data, .data, .sentinel, .sentinel, .data], laidTests := true, laidLooks := .later }
def ExprShortCardSaid : Prop := Claim7.holds Tryd.pinned (.plain (OpenSpec.ofChange exprShortSpec)) exprShortCard

/-- THE TIED CARD OF 'penancelaw2.ExprNames'. -/
def exprNamesCard : Claim7 := { stood := { row := exprNamesRow, standIns := [], harness := (true, "a074f64f81d62d7df0e3f20f9689394e39c25c98e608898b28c3bc9b42878db3"), looks := true }, kinds := [], alts := [], laidByText := true, laidKinds := [.data, .data, .data, .sentinel, .sentinel, .data], laidTests := true, laidLooks := .later }
def ExprNamesCardSaid : Prop := Claim7.holds Tryd.pinned (.plain (OpenSpec.ofChange exprNamesSpec)) exprNamesCard

/-- THE SECOND FORM's CARD OF 'penancelaw2.ExprBack'. -/
def exprBackUptoCard : Claim7 := { stood := { row := exprBackUptoRow, standIns := [], harness := (true, "a074f64f81d62d7df0e3f20f9689394e39c25c98e608898b28c3bc9b42878db3"), looks := true }, kinds := [], alts := [], laidByText := true, laidKinds := [.data, .data, .data, .sentinel, .sentinel, .data], laidTests := true, laidLooks := .later }
def ExprBackUptoCardSaid : Prop := Claim7.holds Tryd.pinned (.plain (OpenSpec.upto exprBackSpec)) exprBackUptoCard

/-- THE SECOND FORM's CARD OF 'penancelaw2.ExprEvals'. -/
def exprEvalsUptoCard : Claim7 := { stood := { row := exprEvalsUptoRow, standIns := [], harness := (true, "a074f64f81d62d7df0e3f20f9689394e39c25c98e608898b28c3bc9b42878db3"), looks := true }, kinds := [], alts := [], laidByText := true, laidKinds := [.data, .data, .data, .sentinel, .sentinel, .data], laidTests := true, laidLooks := .later }
def ExprEvalsUptoCardSaid : Prop := Claim7.holds Tryd.pinned (.plain (OpenSpec.upto exprEvalsSpec)) exprEvalsUptoCard

/-- THE SECOND FORM's CARD OF 'penancelaw2.ExprRight'. -/
def exprRightUptoCard : Claim7 := { stood := { row := exprRightUptoRow, standIns := [], harness := (true, "a074f64f81d62d7df0e3f20f9689394e39c25c98e608898b28c3bc9b42878db3"), looks := true }, kinds := [], alts := [], laidByText := true, laidKinds := [.data, .data, .data, .sentinel, .sentinel, .data], laidTests := true, laidLooks := .later }
def ExprRightUptoCardSaid : Prop := Claim7.holds Tryd.pinned (.plain (OpenSpec.upto exprRightSpec)) exprRightUptoCard

/-- THE SECOND FORM's CARD OF 'penancelaw2.ExprKnown'. -/
def exprKnownUptoCard : Claim7 := { stood := { row := exprKnownUptoRow, standIns := [], harness := (true, "a074f64f81d62d7df0e3f20f9689394e39c25c98e608898b28c3bc9b42878db3"), looks := true }, kinds := [], alts := [], laidByText := true, laidKinds := [.data, .data, .data, .sentinel, .sentinel, .data], laidTests := true, laidLooks := .later }
def ExprKnownUptoCardSaid : Prop := Claim7.holds Tryd.pinned (.plain (OpenSpec.upto exprKnownSpec)) exprKnownUptoCard

/-- THE SECOND FORM's CARD OF 'penancelaw2.ExprErrs'. -/
def exprErrsUptoCard : Claim7 := { stood := { row := exprErrsUptoRow, standIns := [], harness := (true, "a074f64f81d62d7df0e3f20f9689394e39c25c98e608898b28c3bc9b42878db3"), looks := true }, kinds := [], alts := [], laidByText := true, laidKinds := [.data, .data, .data, .sentinel, .sentinel, .data], laidTests := true, laidLooks := .later }
def ExprErrsUptoCardSaid : Prop := Claim7.holds Tryd.pinned (.plain (OpenSpec.upto exprErrsSpec)) exprErrsUptoCard

/-- THE SECOND FORM's CARD OF 'penancelaw2.ExprDeep'. -/
def exprDeepUptoCard : Claim7 := { stood := { row := exprDeepUptoRow, standIns := [], harness := (true, "a074f64f81d62d7df0e3f20f9689394e39c25c98e608898b28c3bc9b42878db3"), looks := true }, kinds := [], alts := [], laidByText := true, laidKinds := [.data, .data, .data, .sentinel, .sentinel, .data], laidTests := true, laidLooks := .later }
def ExprDeepUptoCardSaid : Prop := Claim7.holds Tryd.pinned (.plain (OpenSpec.upto exprDeepSpec)) exprDeepUptoCard

/-- THE SECOND FORM's CARD OF 'penancelaw2.ExprTwo'. -/
def exprTwoUptoCard : Claim7 := { stood := { row := exprTwoUptoRow, standIns := [], harness := (true, "a074f64f81d62d7df0e3f20f9689394e39c25c98e608898b28c3bc9b42878db3"), looks := true }, kinds := [], alts := [], laidByText := true, laidKinds := [.data, .data, .data, .sentinel, .sentinel, .data], laidTests := true, laidLooks := .later }
def ExprTwoUptoCardSaid : Prop := Claim7.holds Tryd.pinned (.plain (OpenSpec.upto exprTwoSpec)) exprTwoUptoCard

/-- THE SECOND FORM's CARD OF 'penancelaw2.ExprLaws'. -/
def exprLawsUptoCard : Claim7 := { stood := { row := exprLawsUptoRow, standIns := [], harness := (true, "a074f64f81d62d7df0e3f20f9689394e39c25c98e608898b28c3bc9b42878db3"), looks := true }, kinds := [], alts := [], laidByText := true, laidKinds := [.data, .data, .data, .sentinel, .sentinel, .data], laidTests := true, laidLooks := .later }
def ExprLawsUptoCardSaid : Prop := Claim7.holds Tryd.pinned (.plain (OpenSpec.upto exprLawsSpec)) exprLawsUptoCard

/-- THE SECOND FORM's CARD OF 'penancelaw2.ExprShort'. -/
def exprShortUptoCard : Claim7 := { stood := { row := exprShortUptoRow, standIns := [], harness := (true, "a074f64f81d62d7df0e3f20f9689394e39c25c98e608898b28c3bc9b42878db3"), looks := true }, kinds := [], alts := [], laidByText := true, laidKinds := [.data, .data, .data, .sentinel, .sentinel, .data], laidTests := true, laidLooks := .later }
def ExprShortUptoCardSaid : Prop := Claim7.holds Tryd.pinned (.plain (OpenSpec.upto exprShortSpec)) exprShortUptoCard

/-- THE SECOND FORM's CARD OF 'penancelaw2.ExprNames'. -/
def exprNamesUptoCard : Claim7 := { stood := { row := exprNamesUptoRow, standIns := [], harness := (true, "a074f64f81d62d7df0e3f20f9689394e39c25c98e608898b28c3bc9b42878db3"), looks := true }, kinds := [], alts := [], laidByText := true, laidKinds := [.data, .data, .data, .sentinel, .sentinel, .data], laidTests := true, laidLooks := .later }
def ExprNamesUptoCardSaid : Prop := Claim7.holds Tryd.pinned (.plain (OpenSpec.upto exprNamesSpec)) exprNamesUptoCard
end Rows
end Go.Proofs.YtlbpiiehanibfaaDoor
