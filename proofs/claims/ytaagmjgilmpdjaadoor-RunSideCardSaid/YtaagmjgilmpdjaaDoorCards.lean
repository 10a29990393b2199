/-
  DERIVED. GIVEN WITH THE SEED: THE CARDS: each row of YtaagmjgilmpdjaaDoorRows.lean that lists a variable, with what it lists TIED to the program's text (the seventh form; the later family's looks); each row that meets fmt, with fmt's text TOLD by the authors' own Lean function (tested against real Go, not proved from fmt's source: count such statements apart). THE CARD IS WHAT COUNTS. Prove the row's statement (the work); the ties are given (YtaagmjgilmpdjaaDoorTie.lean); close each card by the builder's one call (the guide's Derived/Test/ToyasCard.lean, 'card_holds'). Laid BY PROGRAM, IN A SANDBOX (cutbox-door.mjs). By AI agents, Wed Nov 11 2026. No macro, syntax, notation, axiom, sorry.
-/
import Derived.Test.YtaagmjgilmpdjaaDoorRows
import GoSem.ClaimSeven
namespace Go.Proofs.YtaagmjgilmpdjaaDoor
namespace Rows

/-- THE TIED CARD OF 'penancelaw8.RunLast'. -/
def runLastCard : Claim7 := { stood := { row := runLastRow, standIns := [], harness := (true, "db80d303d78956f5c60dbb46b61a10e8afe86f6b64932a0123899d0fe454033c"), looks := false }, kinds := [], alts := [], laidByText := true, laidKinds := [.data], laidTests := true, laidLooks := .later }
def RunLastCardSaid : Prop := Claim7.holds Tryd.pinned (.plain (OpenSpec.ofChange runLastSpec)) runLastCard

/-- THE TIED CARD OF 'penancelaw8.RunExit'. -/
def runExitCard : Claim7 := { stood := { row := runExitRow, standIns := [], harness := (true, "db80d303d78956f5c60dbb46b61a10e8afe86f6b64932a0123899d0fe454033c"), looks := false }, kinds := [], alts := [], laidByText := true, laidKinds := [.data], laidTests := true, laidLooks := .later }
def RunExitCardSaid : Prop := Claim7.holds Tryd.pinned (.plain (OpenSpec.ofChange runExitSpec)) runExitCard

/-- THE TIED CARD OF 'penancelaw8.RunSide'. -/
def runSideCard : Claim7 := { stood := { row := runSideRow, standIns := [], harness := (true, "db80d303d78956f5c60dbb46b61a10e8afe86f6b64932a0123899d0fe454033c"), looks := false }, kinds := [], alts := [], laidByText := true, laidKinds := [.data], laidTests := true, laidLooks := .later }
def RunSideCardSaid : Prop := Claim7.holds Tryd.pinned (.plain (OpenSpec.ofChange runSideSpec)) runSideCard

/-- THE SECOND FORM's CARD OF 'penancelaw8.RunLast'. -/
def runLastUptoCard : Claim7 := { stood := { row := runLastUptoRow, standIns := [], harness := (true, "db80d303d78956f5c60dbb46b61a10e8afe86f6b64932a0123899d0fe454033c"), looks := false }, kinds := [], alts := [], laidByText := true, laidKinds := [.data], laidTests := true, laidLooks := .later }
def RunLastUptoCardSaid : Prop := Claim7.holds Tryd.pinned (.plain (OpenSpec.upto runLastSpec)) runLastUptoCard

/-- THE SECOND FORM's CARD OF 'penancelaw8.RunExit'. -/
def runExitUptoCard : Claim7 := { stood := { row := runExitUptoRow, standIns := [], harness := (true, "db80d303d78956f5c60dbb46b61a10e8afe86f6b64932a0123899d0fe454033c"), looks := false }, kinds := [], alts := [], laidByText := true, laidKinds := [.data], laidTests := true, laidLooks := .later }
def RunExitUptoCardSaid : Prop := Claim7.holds Tryd.pinned (.plain (OpenSpec.upto runExitSpec)) runExitUptoCard

/-- THE SECOND FORM's CARD OF 'penancelaw8.RunSide'. -/
def runSideUptoCard : Claim7 := { stood := { row := runSideUptoRow, standIns := [], harness := (true, "db80d303d78956f5c60dbb46b61a10e8afe86f6b64932a0123899d0fe454033c"), looks := false }, kinds := [], alts := [], laidByText := true, laidKinds := [.data], laidTests := true, laidLooks := .later }
def RunSideUptoCardSaid : Prop := Claim7.holds Tryd.pinned (.plain (OpenSpec.upto runSideSpec)) runSideUptoCard
end Rows
end Go.Proofs.YtaagmjgilmpdjaaDoor
