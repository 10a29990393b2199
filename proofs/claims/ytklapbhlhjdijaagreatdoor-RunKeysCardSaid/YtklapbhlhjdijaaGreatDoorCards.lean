/-
  DERIVED. GIVEN WITH THE SEED: THE CARDS: each row of YtklapbhlhjdijaaGreatDoorRows.lean that lists a variable, with what it lists TIED to the program's text (the seventh form; the later family's looks); each row that meets fmt, with fmt's text TOLD by the authors' own Lean function (tested against real Go, not proved from fmt's source: count such statements apart). THE CARD IS WHAT COUNTS. Prove the row's statement (the work); the ties are given (YtklapbhlhjdijaaGreatDoorTie.lean); close each card by the builder's one call (the guide's Derived/Test/ToyasCard.lean, 'card_holds'). Laid BY PROGRAM, IN A SANDBOX (cutbox-door.mjs). By AI agents, Wed Nov 11 2026. No macro, syntax, notation, axiom, sorry.
-/
import Derived.Test.YtklapbhlhjdijaaGreatDoorRows
import GoSem.ClaimSeven
namespace Go.Proofs.YtklapbhlhjdijaaGreatDoor
namespace Rows

/-- THE TIED CARD OF 'penancelaw8.RunChecks'. -/
def runChecksCard : Claim7 := { stood := { row := runChecksRow, standIns := [], harness := (true, "3ffbbce29b5abee20d4bf98570f47bcb91dbd3fd3c7d6fc1551a5f32aed579c9"), looks := false }, kinds := [], alts := [], laidByText := true, laidKinds := [.data], laidTests := true, laidLooks := .later }
def RunChecksCardSaid : Prop := Claim7.holds Tryz.pinned (.plain (OpenSpec.ofChange runChecksSpec)) runChecksCard

/-- THE TIED CARD OF 'penancelaw8.RunKeys'. -/
def runKeysCard : Claim7 := { stood := { row := runKeysRow, standIns := [], harness := (true, "3ffbbce29b5abee20d4bf98570f47bcb91dbd3fd3c7d6fc1551a5f32aed579c9"), looks := false }, kinds := [], alts := [], laidByText := true, laidKinds := [.data], laidTests := true, laidLooks := .later }
def RunKeysCardSaid : Prop := Claim7.holds Tryz.pinned (.plain (OpenSpec.ofChange runKeysSpec)) runKeysCard

/-- THE TIED CARD OF 'penancelaw8.RunSteps'. -/
def runStepsCard : Claim7 := { stood := { row := runStepsRow, standIns := [], harness := (true, "3ffbbce29b5abee20d4bf98570f47bcb91dbd3fd3c7d6fc1551a5f32aed579c9"), looks := false }, kinds := [], alts := [], laidByText := true, laidKinds := [.data], laidTests := true, laidLooks := .later }
def RunStepsCardSaid : Prop := Claim7.holds Tryz.pinned (.plain (OpenSpec.ofChange runStepsSpec)) runStepsCard

/-- THE TIED CARD OF 'penancelaw8.RunTells'. -/
def runTellsCard : Claim7 := { stood := { row := runTellsRow, standIns := [], harness := (true, "3ffbbce29b5abee20d4bf98570f47bcb91dbd3fd3c7d6fc1551a5f32aed579c9"), looks := false }, kinds := [], alts := [], laidByText := true, laidKinds := [.data], laidTests := true, laidLooks := .later }
def RunTellsCardSaid : Prop := Claim7.holds Tryz.pinned (.plain (OpenSpec.ofChange runTellsSpec)) runTellsCard

/-- THE TIED CARD OF 'penancelaw8.RunStacks'. -/
def runStacksCard : Claim7 := { stood := { row := runStacksRow, standIns := [], harness := (true, "3ffbbce29b5abee20d4bf98570f47bcb91dbd3fd3c7d6fc1551a5f32aed579c9"), looks := false }, kinds := [], alts := [], laidByText := true, laidKinds := [.data], laidTests := true, laidLooks := .later }
def RunStacksCardSaid : Prop := Claim7.holds Tryz.pinned (.plain (OpenSpec.ofChange runStacksSpec)) runStacksCard

/-- THE TIED CARD OF 'penancelaw8.RunOwn'. -/
def runOwnCard : Claim7 := { stood := { row := runOwnRow, standIns := [], harness := (true, "3ffbbce29b5abee20d4bf98570f47bcb91dbd3fd3c7d6fc1551a5f32aed579c9"), looks := false }, kinds := [], alts := [], laidByText := true, laidKinds := [.data], laidTests := true, laidLooks := .later }
def RunOwnCardSaid : Prop := Claim7.holds Tryz.pinned (.plain (OpenSpec.ofChange runOwnSpec)) runOwnCard

/-- THE TIED CARD OF 'penancelaw8.RunPlays'. -/
def runPlaysCard : Claim7 := { stood := { row := runPlaysRow, standIns := [], harness := (true, "3ffbbce29b5abee20d4bf98570f47bcb91dbd3fd3c7d6fc1551a5f32aed579c9"), looks := false }, kinds := [], alts := [], laidByText := true, laidKinds := [.data], laidTests := true, laidLooks := .later }
def RunPlaysCardSaid : Prop := Claim7.holds Tryz.pinned (.plain (OpenSpec.ofChange runPlaysSpec)) runPlaysCard

/-- THE TIED CARD OF 'penancelaw8.RunFaults'. -/
def runFaultsCard : Claim7 := { stood := { row := runFaultsRow, standIns := [], harness := (true, "3ffbbce29b5abee20d4bf98570f47bcb91dbd3fd3c7d6fc1551a5f32aed579c9"), looks := false }, kinds := [], alts := [], laidByText := true, laidKinds := [.data], laidTests := true, laidLooks := .later }
def RunFaultsCardSaid : Prop := Claim7.holds Tryz.pinned (.plain (OpenSpec.ofChange runFaultsSpec)) runFaultsCard

/-- THE SECOND FORM's CARD OF 'penancelaw8.RunChecks'. -/
def runChecksUptoCard : Claim7 := { stood := { row := runChecksUptoRow, standIns := [], harness := (true, "3ffbbce29b5abee20d4bf98570f47bcb91dbd3fd3c7d6fc1551a5f32aed579c9"), looks := false }, kinds := [], alts := [], laidByText := true, laidKinds := [.data], laidTests := true, laidLooks := .later }
def RunChecksUptoCardSaid : Prop := Claim7.holds Tryz.pinned (.plain (OpenSpec.upto runChecksSpec)) runChecksUptoCard

/-- THE SECOND FORM's CARD OF 'penancelaw8.RunKeys'. -/
def runKeysUptoCard : Claim7 := { stood := { row := runKeysUptoRow, standIns := [], harness := (true, "3ffbbce29b5abee20d4bf98570f47bcb91dbd3fd3c7d6fc1551a5f32aed579c9"), looks := false }, kinds := [], alts := [], laidByText := true, laidKinds := [.data], laidTests := true, laidLooks := .later }
def RunKeysUptoCardSaid : Prop := Claim7.holds Tryz.pinned (.plain (OpenSpec.upto runKeysSpec)) runKeysUptoCard

/-- THE SECOND FORM's CARD OF 'penancelaw8.RunSteps'. -/
def runStepsUptoCard : Claim7 := { stood := { row := runStepsUptoRow, standIns := [], harness := (true, "3ffbbce29b5abee20d4bf98570f47bcb91dbd3fd3c7d6fc1551a5f32aed579c9"), looks := false }, kinds := [], alts := [], laidByText := true, laidKinds := [.data], laidTests := true, laidLooks := .later }
def RunStepsUptoCardSaid : Prop := Claim7.holds Tryz.pinned (.plain (OpenSpec.upto runStepsSpec)) runStepsUptoCard

/-- THE SECOND FORM's CARD OF 'penancelaw8.RunTells'. -/
def runTellsUptoCard : Claim7 := { stood := { row := runTellsUptoRow, standIns := [], harness := (true, "3ffbbce29b5abee20d4bf98570f47bcb91dbd3fd3c7d6fc1551a5f32aed579c9"), looks := false }, kinds := [], alts := [], laidByText := true, laidKinds := [.data], laidTests := true, laidLooks := .later }
def RunTellsUptoCardSaid : Prop := Claim7.holds Tryz.pinned (.plain (OpenSpec.upto runTellsSpec)) runTellsUptoCard

/-- THE SECOND FORM's CARD OF 'penancelaw8.RunStacks'. -/
def runStacksUptoCard : Claim7 := { stood := { row := runStacksUptoRow, standIns := [], harness := (true, "3ffbbce29b5abee20d4bf98570f47bcb91dbd3fd3c7d6fc1551a5f32aed579c9"), looks := false }, kinds := [], alts := [], laidByText := true, laidKinds := [.data], laidTests := true, laidLooks := .later }
def RunStacksUptoCardSaid : Prop := Claim7.holds Tryz.pinned (.plain (OpenSpec.upto runStacksSpec)) runStacksUptoCard

/-- THE SECOND FORM's CARD OF 'penancelaw8.RunOwn'. -/
def runOwnUptoCard : Claim7 := { stood := { row := runOwnUptoRow, standIns := [], harness := (true, "3ffbbce29b5abee20d4bf98570f47bcb91dbd3fd3c7d6fc1551a5f32aed579c9"), looks := false }, kinds := [], alts := [], laidByText := true, laidKinds := [.data], laidTests := true, laidLooks := .later }
def RunOwnUptoCardSaid : Prop := Claim7.holds Tryz.pinned (.plain (OpenSpec.upto runOwnSpec)) runOwnUptoCard

/-- THE SECOND FORM's CARD OF 'penancelaw8.RunPlays'. -/
def runPlaysUptoCard : Claim7 := { stood := { row := runPlaysUptoRow, standIns := [], harness := (true, "3ffbbce29b5abee20d4bf98570f47bcb91dbd3fd3c7d6fc1551a5f32aed579c9"), looks := false }, kinds := [], alts := [], laidByText := true, laidKinds := [.data], laidTests := true, laidLooks := .later }
def RunPlaysUptoCardSaid : Prop := Claim7.holds Tryz.pinned (.plain (OpenSpec.upto runPlaysSpec)) runPlaysUptoCard

/-- THE SECOND FORM's CARD OF 'penancelaw8.RunFaults'. -/
def runFaultsUptoCard : Claim7 := { stood := { row := runFaultsUptoRow, standIns := [], harness := (true, "3ffbbce29b5abee20d4bf98570f47bcb91dbd3fd3c7d6fc1551a5f32aed579c9"), looks := false }, kinds := [], alts := [], laidByText := true, laidKinds := [.data], laidTests := true, laidLooks := .later }
def RunFaultsUptoCardSaid : Prop := Claim7.holds Tryz.pinned (.plain (OpenSpec.upto runFaultsSpec)) runFaultsUptoCard
end Rows
end Go.Proofs.YtklapbhlhjdijaaGreatDoor
