/-
  DERIVED. GIVEN WITH THE SEED: THE CARDS: each row of YtgeakofgklcipaaDoorRows.lean that lists a variable, with what it lists TIED to the program's text (the seventh form; the later family's looks); each row that meets fmt, with fmt's text TOLD by the authors' own Lean function (tested against real Go, not proved from fmt's source: count such statements apart). THE CARD IS WHAT COUNTS. Prove the row's statement (the work); the ties are given (YtgeakofgklcipaaDoorTie.lean); close each card by the builder's one call (the guide's Derived/Test/ToyasCard.lean, 'card_holds'). Laid BY PROGRAM, IN A SANDBOX (cutbox-door.mjs). By AI agents, Wed Nov 11 2026. No macro, syntax, notation, axiom, sorry.
-/
import Derived.Test.YtgeakofgklcipaaDoorRows
import GoSem.ClaimSeven
namespace Go.Proofs.YtgeakofgklcipaaDoor
namespace Rows

/-- THE TIED CARD OF 'penancelaw5.TermAll'. -/
def termAllCard : Claim7 := { stood := { row := termAllRow, standIns := [], harness := (true, "0fb4e8e0ef62a673e7ed7d1ad06dbc207144791fab849f197dacb400e969791f"), looks := false }, kinds := [], alts := [], laidByText := true, laidKinds := [.data], laidTests := true, laidLooks := .later }
def TermAllCardSaid : Prop := Claim7.holds Tryd.pinned (.plain (OpenSpec.ofChange termAllSpec)) termAllCard

/-- THE TIED CARD OF 'penancelaw5.TermRaw'. -/
def termRawCard : Claim7 := { stood := { row := termRawRow, standIns := [], harness := (true, "0fb4e8e0ef62a673e7ed7d1ad06dbc207144791fab849f197dacb400e969791f"), looks := false }, kinds := [], alts := [], laidByText := true, laidKinds := [.data], laidTests := true, laidLooks := .later }
def TermRawCardSaid : Prop := Claim7.holds Tryd.pinned (.plain (OpenSpec.ofChange termRawSpec)) termRawCard

/-- THE TIED CARD OF 'penancelaw5.TermNorms'. -/
def termNormsCard : Claim7 := { stood := { row := termNormsRow, standIns := [], harness := (true, "0fb4e8e0ef62a673e7ed7d1ad06dbc207144791fab849f197dacb400e969791f"), looks := false }, kinds := [], alts := [], laidByText := true, laidKinds := [.data], laidTests := true, laidLooks := .later }
def TermNormsCardSaid : Prop := Claim7.holds Tryd.pinned (.plain (OpenSpec.ofChange termNormsSpec)) termNormsCard

/-- THE TIED CARD OF 'penancelaw5.TermWaits'. -/
def termWaitsCard : Claim7 := { stood := { row := termWaitsRow, standIns := [], harness := (true, "0fb4e8e0ef62a673e7ed7d1ad06dbc207144791fab849f197dacb400e969791f"), looks := false }, kinds := [], alts := [], laidByText := true, laidKinds := [.data], laidTests := true, laidLooks := .later }
def TermWaitsCardSaid : Prop := Claim7.holds Tryd.pinned (.plain (OpenSpec.ofChange termWaitsSpec)) termWaitsCard

/-- THE TIED CARD OF 'penancelaw5.TermSizes'. -/
def termSizesCard : Claim7 := { stood := { row := termSizesRow, standIns := [], harness := (true, "0fb4e8e0ef62a673e7ed7d1ad06dbc207144791fab849f197dacb400e969791f"), looks := false }, kinds := [], alts := [], laidByText := true, laidKinds := [.data], laidTests := true, laidLooks := .later }
def TermSizesCardSaid : Prop := Claim7.holds Tryd.pinned (.plain (OpenSpec.ofChange termSizesSpec)) termSizesCard

/-- THE TIED CARD OF 'penancelaw5.TermSame'. -/
def termSameCard : Claim7 := { stood := { row := termSameRow, standIns := [], harness := (true, "0fb4e8e0ef62a673e7ed7d1ad06dbc207144791fab849f197dacb400e969791f"), looks := false }, kinds := [], alts := [], laidByText := true, laidKinds := [.data], laidTests := true, laidLooks := .later }
def TermSameCardSaid : Prop := Claim7.holds Tryd.pinned (.plain (OpenSpec.ofChange termSameSpec)) termSameCard

/-- THE TIED CARD OF 'penancelaw5.TermBounds'. -/
def termBoundsCard : Claim7 := { stood := { row := termBoundsRow, standIns := [], harness := (true, "0fb4e8e0ef62a673e7ed7d1ad06dbc207144791fab849f197dacb400e969791f"), looks := false }, kinds := [], alts := [], laidByText := true, laidKinds := [.data], laidTests := true, laidLooks := .later }
def TermBoundsCardSaid : Prop := Claim7.holds Tryd.pinned (.plain (OpenSpec.ofChange termBoundsSpec)) termBoundsCard

/-- THE TIED CARD OF 'penancelaw5.TermSkips'. -/
def termSkipsCard : Claim7 := { stood := { row := termSkipsRow, standIns := [], harness := (true, "0fb4e8e0ef62a673e7ed7d1ad06dbc207144791fab849f197dacb400e969791f"), looks := false }, kinds := [], alts := [], laidByText := true, laidKinds := [.data], laidTests := true, laidLooks := .later }
def TermSkipsCardSaid : Prop := Claim7.holds Tryd.pinned (.plain (OpenSpec.ofChange termSkipsSpec)) termSkipsCard

/-- THE SECOND FORM's CARD OF 'penancelaw5.TermAll'. -/
def termAllUptoCard : Claim7 := { stood := { row := termAllUptoRow, standIns := [], harness := (true, "0fb4e8e0ef62a673e7ed7d1ad06dbc207144791fab849f197dacb400e969791f"), looks := false }, kinds := [], alts := [], laidByText := true, laidKinds := [.data], laidTests := true, laidLooks := .later }
def TermAllUptoCardSaid : Prop := Claim7.holds Tryd.pinned (.plain (OpenSpec.upto termAllSpec)) termAllUptoCard

/-- THE SECOND FORM's CARD OF 'penancelaw5.TermRaw'. -/
def termRawUptoCard : Claim7 := { stood := { row := termRawUptoRow, standIns := [], harness := (true, "0fb4e8e0ef62a673e7ed7d1ad06dbc207144791fab849f197dacb400e969791f"), looks := false }, kinds := [], alts := [], laidByText := true, laidKinds := [.data], laidTests := true, laidLooks := .later }
def TermRawUptoCardSaid : Prop := Claim7.holds Tryd.pinned (.plain (OpenSpec.upto termRawSpec)) termRawUptoCard

/-- THE SECOND FORM's CARD OF 'penancelaw5.TermNorms'. -/
def termNormsUptoCard : Claim7 := { stood := { row := termNormsUptoRow, standIns := [], harness := (true, "0fb4e8e0ef62a673e7ed7d1ad06dbc207144791fab849f197dacb400e969791f"), looks := false }, kinds := [], alts := [], laidByText := true, laidKinds := [.data], laidTests := true, laidLooks := .later }
def TermNormsUptoCardSaid : Prop := Claim7.holds Tryd.pinned (.plain (OpenSpec.upto termNormsSpec)) termNormsUptoCard

/-- THE SECOND FORM's CARD OF 'penancelaw5.TermWaits'. -/
def termWaitsUptoCard : Claim7 := { stood := { row := termWaitsUptoRow, standIns := [], harness := (true, "0fb4e8e0ef62a673e7ed7d1ad06dbc207144791fab849f197dacb400e969791f"), looks := false }, kinds := [], alts := [], laidByText := true, laidKinds := [.data], laidTests := true, laidLooks := .later }
def TermWaitsUptoCardSaid : Prop := Claim7.holds Tryd.pinned (.plain (OpenSpec.upto termWaitsSpec)) termWaitsUptoCard

/-- THE SECOND FORM's CARD OF 'penancelaw5.TermSizes'. -/
def termSizesUptoCard : Claim7 := { stood := { row := termSizesUptoRow, standIns := [], harness := (true, "0fb4e8e0ef62a673e7ed7d1ad06dbc207144791fab849f197dacb400e969791f"), looks := false }, kinds := [], alts := [], laidByText := true, laidKinds := [.data], laidTests := true, laidLooks := .later }
def TermSizesUptoCardSaid : Prop := Claim7.holds Tryd.pinned (.plain (OpenSpec.upto termSizesSpec)) termSizesUptoCard

/-- THE SECOND FORM's CARD OF 'penancelaw5.TermSame'. -/
def termSameUptoCard : Claim7 := { stood := { row := termSameUptoRow, standIns := [], harness := (true, "0fb4e8e0ef62a673e7ed7d1ad06dbc207144791fab849f197dacb400e969791f"), looks := false }, kinds := [], alts := [], laidByText := true, laidKinds := [.data], laidTests := true, laidLooks := .later }
def TermSameUptoCardSaid : Prop := Claim7.holds Tryd.pinned (.plain (OpenSpec.upto termSameSpec)) termSameUptoCard

/-- THE SECOND FORM's CARD OF 'penancelaw5.TermBounds'. -/
def termBoundsUptoCard : Claim7 := { stood := { row := termBoundsUptoRow, standIns := [], harness := (true, "0fb4e8e0ef62a673e7ed7d1ad06dbc207144791fab849f197dacb400e969791f"), looks := false }, kinds := [], alts := [], laidByText := true, laidKinds := [.data], laidTests := true, laidLooks := .later }
def TermBoundsUptoCardSaid : Prop := Claim7.holds Tryd.pinned (.plain (OpenSpec.upto termBoundsSpec)) termBoundsUptoCard

/-- THE SECOND FORM's CARD OF 'penancelaw5.TermSkips'. -/
def termSkipsUptoCard : Claim7 := { stood := { row := termSkipsUptoRow, standIns := [], harness := (true, "0fb4e8e0ef62a673e7ed7d1ad06dbc207144791fab849f197dacb400e969791f"), looks := false }, kinds := [], alts := [], laidByText := true, laidKinds := [.data], laidTests := true, laidLooks := .later }
def TermSkipsUptoCardSaid : Prop := Claim7.holds Tryd.pinned (.plain (OpenSpec.upto termSkipsSpec)) termSkipsUptoCard
end Rows
end Go.Proofs.YtgeakofgklcipaaDoor
