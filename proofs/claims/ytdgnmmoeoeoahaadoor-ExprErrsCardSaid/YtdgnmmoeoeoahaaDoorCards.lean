/-
  DERIVED. GIVEN WITH THE SEED: THE CARDS: each row of YtdgnmmoeoeoahaaDoorRows.lean that lists a variable, with what it lists TIED to the program's text (the seventh form; the later family's looks); each row that meets fmt, with fmt's text TOLD by the authors' own Lean function (tested against real Go, not proved from fmt's source: count such statements apart). THE CARD IS WHAT COUNTS. Prove the row's statement (the work); the ties are given (YtdgnmmoeoeoahaaDoorTie.lean); close each card by the builder's one call (the guide's Derived/Test/ToyasCard.lean, 'card_holds'). Laid BY PROGRAM, IN A SANDBOX (cutbox-door.mjs). By AI agents, Wed Nov 11 2026. No macro, syntax, notation, axiom, sorry.
-/
import Derived.Test.YtdgnmmoeoeoahaaDoorRows
import GoSem.ClaimSeven
namespace Go.Proofs.YtdgnmmoeoeoahaaDoor
namespace Rows

/-- THE TIED CARD OF 'penancelaw2.ExprKnown'. -/
def exprKnownCard : Claim7 := { stood := { row := exprKnownRow, standIns := [], harness := (true, "3e280d856df9675905952439818b9efa5d557639b76959b5bdc39861d8481380"), looks := true }, kinds := [], alts := [], laidByText := true, laidKinds := [.data, .data, .data, .sentinel, .sentinel, .data], laidTests := true, laidLooks := .later }
def ExprKnownCardSaid : Prop := Claim7.holds Tryd.pinned (.plain (OpenSpec.ofChange exprKnownSpec)) exprKnownCard

/-- THE TIED CARD OF 'penancelaw2.ExprErrs'. -/
def exprErrsCard : Claim7 := { stood := { row := exprErrsRow, standIns := [], harness := (true, "3e280d856df9675905952439818b9efa5d557639b76959b5bdc39861d8481380"), looks := true }, kinds := [], alts := [], laidByText := true, laidKinds := [.data, .data, .data, .sentinel, .sentinel, .data], laidTests := true, laidLooks := .later }
def ExprErrsCardSaid : Prop := Claim7.holds Tryd.pinned (.plain (OpenSpec.ofChange exprErrsSpec)) exprErrsCard

/-- THE SECOND FORM's CARD OF 'penancelaw2.ExprKnown'. -/
def exprKnownUptoCard : Claim7 := { stood := { row := exprKnownUptoRow, standIns := [], harness := (true, "3e280d856df9675905952439818b9efa5d557639b76959b5bdc39861d8481380"), looks := true }, kinds := [], alts := [], laidByText := true, laidKinds := [.data, .data, .data, .sentinel, .sentinel, .data], laidTests := true, laidLooks := .later }
def ExprKnownUptoCardSaid : Prop := Claim7.holds Tryd.pinned (.plain (OpenSpec.upto exprKnownSpec)) exprKnownUptoCard

/-- THE SECOND FORM's CARD OF 'penancelaw2.ExprErrs'. -/
def exprErrsUptoCard : Claim7 := { stood := { row := exprErrsUptoRow, standIns := [], harness := (true, "3e280d856df9675905952439818b9efa5d557639b76959b5bdc39861d8481380"), looks := true }, kinds := [], alts := [], laidByText := true, laidKinds := [.data, .data, .data, .sentinel, .sentinel, .data], laidTests := true, laidLooks := .later }
def ExprErrsUptoCardSaid : Prop := Claim7.holds Tryd.pinned (.plain (OpenSpec.upto exprErrsSpec)) exprErrsUptoCard
end Rows
end Go.Proofs.YtdgnmmoeoeoahaaDoor
