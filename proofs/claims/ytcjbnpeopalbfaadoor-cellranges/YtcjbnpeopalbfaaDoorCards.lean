/-
  DERIVED. GIVEN WITH THE SEED: THE CARDS: each row of YtcjbnpeopalbfaaDoorRows.lean that lists a variable, with what it lists TIED to the program's text (the seventh form; the later family's looks); each row that meets fmt, with fmt's text TOLD by the authors' own Lean function (tested against real Go, not proved from fmt's source: count such statements apart). THE CARD IS WHAT COUNTS. Prove the row's statement (the work); the ties are given (YtcjbnpeopalbfaaDoorTie.lean); close each card by the builder's one call (the guide's Derived/Test/ToyasCard.lean, 'card_holds'). Laid BY PROGRAM, IN A SANDBOX (cutbox-door.mjs). By AI agents, Wed Nov 11 2026. No macro, syntax, notation, axiom, sorry.
-/
import Derived.Test.YtcjbnpeopalbfaaDoorRows
import GoSem.ClaimSeven
namespace Go.Proofs.YtcjbnpeopalbfaaDoor
namespace Rows

/-- THE TIED CARD OF 'mortmainlaw07.CellKeys'. -/
def cellKeysCard : Claim7 := { stood := { row := cellKeysRow, standIns := [], harness := (true, "97939eeebbc5aa1b4885353cb349d6e629db86ce577627c8eb1cf0ac80e6bada"), looks := false }, kinds := [], alts := [], laidByText := true, laidKinds := [.data, .pinned], laidTests := true, laidLooks := .later }
def CellKeysCardSaid : Prop := Claim7.holds Tryd.pinned (.plain (OpenSpec.ofChange cellKeysSpec)) cellKeysCard

/-- THE TIED CARD OF 'mortmainlaw07.CellParses'. -/
def cellParsesCard : Claim7 := { stood := { row := cellParsesRow, standIns := [], harness := (true, "97939eeebbc5aa1b4885353cb349d6e629db86ce577627c8eb1cf0ac80e6bada"), looks := false }, kinds := [], alts := [], laidByText := true, laidKinds := [.data, .pinned], laidTests := true, laidLooks := .later }
def CellParsesCardSaid : Prop := Claim7.holds Tryd.pinned (.plain (OpenSpec.ofChange cellParsesSpec)) cellParsesCard

/-- THE TIED CARD OF 'mortmainlaw07.CellReads'. -/
def cellReadsCard : Claim7 := { stood := { row := cellReadsRow, standIns := [], harness := (true, "97939eeebbc5aa1b4885353cb349d6e629db86ce577627c8eb1cf0ac80e6bada"), looks := false }, kinds := [], alts := [], laidByText := true, laidKinds := [.data, .pinned], laidTests := true, laidLooks := .later }
def CellReadsCardSaid : Prop := Claim7.holds Tryd.pinned (.plain (OpenSpec.ofChange cellReadsSpec)) cellReadsCard

/-- THE TIED CARD OF 'mortmainlaw07.CellLies'. -/
def cellLiesCard : Claim7 := { stood := { row := cellLiesRow, standIns := [], harness := (true, "97939eeebbc5aa1b4885353cb349d6e629db86ce577627c8eb1cf0ac80e6bada"), looks := false }, kinds := [], alts := [], laidByText := true, laidKinds := [.data, .pinned], laidTests := true, laidLooks := .later }
def CellLiesCardSaid : Prop := Claim7.holds Tryd.pinned (.plain (OpenSpec.ofChange cellLiesSpec)) cellLiesCard

/-- THE TIED CARD OF 'mortmainlaw07.CellRanges'. -/
def cellRangesCard : Claim7 := { stood := { row := cellRangesRow, standIns := [], harness := (true, "97939eeebbc5aa1b4885353cb349d6e629db86ce577627c8eb1cf0ac80e6bada"), looks := false }, kinds := [], alts := [], laidByText := true, laidKinds := [.data, .pinned], laidTests := true, laidLooks := .later }
def CellRangesCardSaid : Prop := Claim7.holds Tryd.pinned (.plain (OpenSpec.ofChange cellRangesSpec)) cellRangesCard

/-- THE TIED CARD OF 'mortmainlaw07.CellOne'. -/
def cellOneCard : Claim7 := { stood := { row := cellOneRow, standIns := [], harness := (true, "97939eeebbc5aa1b4885353cb349d6e629db86ce577627c8eb1cf0ac80e6bada"), looks := false }, kinds := [], alts := [], laidByText := true, laidKinds := [.data, .pinned], laidTests := true, laidLooks := .later }
def CellOneCardSaid : Prop := Claim7.holds Tryd.pinned (.plain (OpenSpec.ofChange cellOneSpec)) cellOneCard

/-- THE SECOND FORM's CARD OF 'mortmainlaw07.CellKeys'. -/
def cellKeysUptoCard : Claim7 := { stood := { row := cellKeysUptoRow, standIns := [], harness := (true, "97939eeebbc5aa1b4885353cb349d6e629db86ce577627c8eb1cf0ac80e6bada"), looks := false }, kinds := [], alts := [], laidByText := true, laidKinds := [.data, .pinned], laidTests := true, laidLooks := .later }
def CellKeysUptoCardSaid : Prop := Claim7.holds Tryd.pinned (.plain (OpenSpec.upto cellKeysSpec)) cellKeysUptoCard

/-- THE SECOND FORM's CARD OF 'mortmainlaw07.CellParses'. -/
def cellParsesUptoCard : Claim7 := { stood := { row := cellParsesUptoRow, standIns := [], harness := (true, "97939eeebbc5aa1b4885353cb349d6e629db86ce577627c8eb1cf0ac80e6bada"), looks := false }, kinds := [], alts := [], laidByText := true, laidKinds := [.data, .pinned], laidTests := true, laidLooks := .later }
def CellParsesUptoCardSaid : Prop := Claim7.holds Tryd.pinned (.plain (OpenSpec.upto cellParsesSpec)) cellParsesUptoCard

/-- THE SECOND FORM's CARD OF 'mortmainlaw07.CellReads'. -/
def cellReadsUptoCard : Claim7 := { stood := { row := cellReadsUptoRow, standIns := [], harness := (true, "97939eeebbc5aa1b4885353cb349d6e629db86ce577627c8eb1cf0ac80e6bada"), looks := false }, kinds := [], alts := [], laidByText := true, laidKinds := [.data, .pinned], laidTests := true, laidLooks := .later }
def CellReadsUptoCardSaid : Prop := Claim7.holds Tryd.pinned (.plain (OpenSpec.upto cellReadsSpec)) cellReadsUptoCard

/-- THE SECOND FORM's CARD OF 'mortmainlaw07.CellLies'. -/
def cellLiesUptoCard : Claim7 := { stood := { row := cellLiesUptoRow, standIns := [], harness := (true, "97939eeebbc5aa1b4885353cb349d6e629db86ce577627c8eb1cf0ac80e6bada"), looks := false }, kinds := [], alts := [], laidByText := true, laidKinds := [.data, .pinned], laidTests := true, laidLooks := .later }
def CellLiesUptoCardSaid : Prop := Claim7.holds Tryd.pinned (.plain (OpenSpec.upto cellLiesSpec)) cellLiesUptoCard

/-- THE SECOND FORM's CARD OF 'mortmainlaw07.CellRanges'. -/
def cellRangesUptoCard : Claim7 := { stood := { row := cellRangesUptoRow, standIns := [], harness := (true, "97939eeebbc5aa1b4885353cb349d6e629db86ce577627c8eb1cf0ac80e6bada"), looks := false }, kinds := [], alts := [], laidByText := true, laidKinds := [.data, .pinned], laidTests := true, laidLooks := .later }
def CellRangesUptoCardSaid : Prop := Claim7.holds Tryd.pinned (.plain (OpenSpec.upto cellRangesSpec)) cellRangesUptoCard

/-- THE SECOND FORM's CARD OF 'mortmainlaw07.CellOne'. -/
def cellOneUptoCard : Claim7 := { stood := { row := cellOneUptoRow, standIns := [], harness := (true, "97939eeebbc5aa1b4885353cb349d6e629db86ce577627c8eb1cf0ac80e6bada"), looks := false }, kinds := [], alts := [], laidByText := true, laidKinds := [.data, .pinned], laidTests := true, laidLooks := .later }
def CellOneUptoCardSaid : Prop := Claim7.holds Tryd.pinned (.plain (OpenSpec.upto cellOneSpec)) cellOneUptoCard
end Rows
end Go.Proofs.YtcjbnpeopalbfaaDoor
