/-
  DERIVED. GIVEN WITH THE SEED: THE CARDS: each row of YtkhbcmmncaedcaaGreatDoorRows.lean that lists a variable, with what it lists TIED to the program's text (the seventh form; the later family's looks); each row that meets fmt, with fmt's text TOLD by the authors' own Lean function (tested against real Go, not proved from fmt's source: count such statements apart). THE CARD IS WHAT COUNTS. Prove the row's statement (the work); the ties are given (YtkhbcmmncaedcaaGreatDoorTie.lean); close each card by the builder's one call (the guide's Derived/Test/ToyasCard.lean, 'card_holds'). Laid BY PROGRAM, IN A SANDBOX (cutbox-door.mjs). By AI agents, Wed Nov 11 2026. No macro, syntax, notation, axiom, sorry.
-/
import Derived.Test.YtkhbcmmncaedcaaGreatDoorRows
import GoSem.ClaimSeven
namespace Go.Proofs.YtkhbcmmncaedcaaGreatDoor
namespace Rows

/-- THE TIED CARD OF 'penancelaw3.TextErrs'. -/
def textErrsCard : Claim7 := { stood := { row := textErrsRow, standIns := [], harness := (true, "5c6c8639f655f7a25271d01b566c429bb77cf113565e9b974f5d8804f8766940"), looks := true }, kinds := [], alts := [], laidByText := true, laidKinds := [.data, .data, .data, .sentinel, .sentinel, .data], laidTests := true, laidLooks := .later }
def TextErrsCardSaid : Prop := Claim7.holds Tryz.pinned (.plain (OpenSpec.ofChange textErrsSpec)) textErrsCard

/-- THE SECOND FORM's CARD OF 'penancelaw3.TextErrs'. -/
def textErrsUptoCard : Claim7 := { stood := { row := textErrsUptoRow, standIns := [], harness := (true, "5c6c8639f655f7a25271d01b566c429bb77cf113565e9b974f5d8804f8766940"), looks := true }, kinds := [], alts := [], laidByText := true, laidKinds := [.data, .data, .data, .sentinel, .sentinel, .data], laidTests := true, laidLooks := .later }
def TextErrsUptoCardSaid : Prop := Claim7.holds Tryz.pinned (.plain (OpenSpec.upto textErrsSpec)) textErrsUptoCard
end Rows
end Go.Proofs.YtkhbcmmncaedcaaGreatDoor
