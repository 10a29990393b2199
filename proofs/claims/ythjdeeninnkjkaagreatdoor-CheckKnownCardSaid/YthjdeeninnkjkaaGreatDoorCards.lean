/-
  DERIVED. GIVEN WITH THE SEED: THE CARDS: each row of YthjdeeninnkjkaaGreatDoorRows.lean that lists a variable, with what it lists TIED to the program's text (the seventh form; the later family's looks); each row that meets fmt, with fmt's text TOLD by the authors' own Lean function (tested against real Go, not proved from fmt's source: count such statements apart). THE CARD IS WHAT COUNTS. Prove the row's statement (the work); the ties are given (YthjdeeninnkjkaaGreatDoorTie.lean); close each card by the builder's one call (the guide's Derived/Test/ToyasCard.lean, 'card_holds'). Laid BY PROGRAM, IN A SANDBOX (cutbox-door.mjs). By AI agents, Wed Nov 11 2026. No macro, syntax, notation, axiom, sorry.
-/
import Derived.Test.YthjdeeninnkjkaaGreatDoorRows
import GoSem.ClaimSeven
namespace Go.Proofs.YthjdeeninnkjkaaGreatDoor
namespace Rows

/-- THE TIED CARD OF 'penancelaw4.CheckErrs'. -/
def checkErrsCard : Claim7 := { stood := { row := checkErrsRow, standIns := [], harness := (true, "8974ada82ba57c9ac07cff4907a41273673de73afd3c981b2432ca23080c5530"), looks := true }, kinds := [], alts := [], laidByText := true, laidKinds := [.data, .data, .data, .sentinel, .sentinel, .data], laidTests := true, laidLooks := .later }
def CheckErrsCardSaid : Prop := Claim7.holds Tryz.pinned (.plain (OpenSpec.ofChange checkErrsSpec)) checkErrsCard

/-- THE TIED CARD OF 'penancelaw4.CheckKnown'. -/
def checkKnownCard : Claim7 := { stood := { row := checkKnownRow, standIns := [], harness := (true, "8974ada82ba57c9ac07cff4907a41273673de73afd3c981b2432ca23080c5530"), looks := true }, kinds := [], alts := [], laidByText := true, laidKinds := [.data, .data, .data, .sentinel, .sentinel, .data], laidTests := true, laidLooks := .later }
def CheckKnownCardSaid : Prop := Claim7.holds Tryz.pinned (.plain (OpenSpec.ofChange checkKnownSpec)) checkKnownCard

/-- THE SECOND FORM's CARD OF 'penancelaw4.CheckErrs'. -/
def checkErrsUptoCard : Claim7 := { stood := { row := checkErrsUptoRow, standIns := [], harness := (true, "8974ada82ba57c9ac07cff4907a41273673de73afd3c981b2432ca23080c5530"), looks := true }, kinds := [], alts := [], laidByText := true, laidKinds := [.data, .data, .data, .sentinel, .sentinel, .data], laidTests := true, laidLooks := .later }
def CheckErrsUptoCardSaid : Prop := Claim7.holds Tryz.pinned (.plain (OpenSpec.upto checkErrsSpec)) checkErrsUptoCard

/-- THE SECOND FORM's CARD OF 'penancelaw4.CheckKnown'. -/
def checkKnownUptoCard : Claim7 := { stood := { row := checkKnownUptoRow, standIns := [], harness := (true, "8974ada82ba57c9ac07cff4907a41273673de73afd3c981b2432ca23080c5530"), looks := true }, kinds := [], alts := [], laidByText := true, laidKinds := [.data, .data, .data, .sentinel, .sentinel, .data], laidTests := true, laidLooks := .later }
def CheckKnownUptoCardSaid : Prop := Claim7.holds Tryz.pinned (.plain (OpenSpec.upto checkKnownSpec)) checkKnownUptoCard
end Rows
end Go.Proofs.YthjdeeninnkjkaaGreatDoor
