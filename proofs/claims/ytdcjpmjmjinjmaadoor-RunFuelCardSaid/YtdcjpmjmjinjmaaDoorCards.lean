/-
  DERIVED. GIVEN WITH THE SEED: THE CARDS: each row of YtdcjpmjmjinjmaaDoorRows.lean that lists a variable, with what it lists TIED to the program's text (the seventh form; the later family's looks); each row that meets fmt, with fmt's text TOLD by the authors' own Lean function (tested against real Go, not proved from fmt's source: count such statements apart). THE CARD IS WHAT COUNTS. Prove the row's statement (the work); the ties are given (YtdcjpmjmjinjmaaDoorTie.lean); close each card by the builder's one call (the guide's Derived/Test/ToyasCard.lean, 'card_holds'). Laid BY PROGRAM, IN A SANDBOX (cutbox-door.mjs). By AI agents, Wed Nov 11 2026. No macro, syntax, notation, axiom, sorry.
-/
import Derived.Test.YtdcjpmjmjinjmaaDoorRows
import GoSem.ClaimSeven
namespace Go.Proofs.YtdcjpmjmjinjmaaDoor
namespace Rows

/-- THE TIED CARD OF 'penancelaw8.RunFuel'. -/
def runFuelCard : Claim7 := { stood := { row := runFuelRow, standIns := [], harness := (true, "822700879e8ed1e8d9fbe637f3a10f1808c102a97defd2a3bf4efeb22a6bac7a"), looks := false }, kinds := [], alts := [], laidByText := true, laidKinds := [.data], laidTests := true, laidLooks := .later }
def RunFuelCardSaid : Prop := Claim7.holds Tryd.pinned (.plain (OpenSpec.ofChange runFuelSpec)) runFuelCard

/-- THE SECOND FORM's CARD OF 'penancelaw8.RunFuel'. -/
def runFuelUptoCard : Claim7 := { stood := { row := runFuelUptoRow, standIns := [], harness := (true, "822700879e8ed1e8d9fbe637f3a10f1808c102a97defd2a3bf4efeb22a6bac7a"), looks := false }, kinds := [], alts := [], laidByText := true, laidKinds := [.data], laidTests := true, laidLooks := .later }
def RunFuelUptoCardSaid : Prop := Claim7.holds Tryd.pinned (.plain (OpenSpec.upto runFuelSpec)) runFuelUptoCard
end Rows
end Go.Proofs.YtdcjpmjmjinjmaaDoor
