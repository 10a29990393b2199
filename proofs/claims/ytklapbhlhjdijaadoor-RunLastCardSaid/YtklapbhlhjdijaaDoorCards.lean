/-
  DERIVED. GIVEN WITH THE SEED: THE CARDS: each row of YtklapbhlhjdijaaDoorRows.lean that lists a variable, with what it lists TIED to the program's text (the seventh form; the later family's looks); each row that meets fmt, with fmt's text TOLD by the authors' own Lean function (tested against real Go, not proved from fmt's source: count such statements apart). THE CARD IS WHAT COUNTS. Prove the row's statement (the work); the ties are given (YtklapbhlhjdijaaDoorTie.lean); close each card by the builder's one call (the guide's Derived/Test/ToyasCard.lean, 'card_holds'). Laid BY PROGRAM, IN A SANDBOX (cutbox-door.mjs). By AI agents, Wed Nov 11 2026. No macro, syntax, notation, axiom, sorry.
-/
import Derived.Test.YtklapbhlhjdijaaDoorRows
import GoSem.ClaimSeven
namespace Go.Proofs.YtklapbhlhjdijaaDoor
namespace Rows

/-- THE TIED CARD OF 'penancelaw8.RunLast'. -/
def runLastCard : Claim7 := { stood := { row := runLastRow, standIns := [], harness := (true, "328273d285f128b02c75ad7f3f07eea5345a368097e2d40fb947b4230e5815f7"), looks := false }, kinds := [], alts := [], laidByText := true, laidKinds := [.data], laidTests := true, laidLooks := .later }
def RunLastCardSaid : Prop := Claim7.holds Tryd.pinned (.plain (OpenSpec.ofChange runLastSpec)) runLastCard

/-- THE SECOND FORM's CARD OF 'penancelaw8.RunLast'. -/
def runLastUptoCard : Claim7 := { stood := { row := runLastUptoRow, standIns := [], harness := (true, "328273d285f128b02c75ad7f3f07eea5345a368097e2d40fb947b4230e5815f7"), looks := false }, kinds := [], alts := [], laidByText := true, laidKinds := [.data], laidTests := true, laidLooks := .later }
def RunLastUptoCardSaid : Prop := Claim7.holds Tryd.pinned (.plain (OpenSpec.upto runLastSpec)) runLastUptoCard
end Rows
end Go.Proofs.YtklapbhlhjdijaaDoor
