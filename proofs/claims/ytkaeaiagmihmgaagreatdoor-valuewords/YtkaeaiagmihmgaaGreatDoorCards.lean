/-
  DERIVED. GIVEN WITH THE SEED: THE CARDS: each row of YtkaeaiagmihmgaaGreatDoorRows.lean that lists a variable, with what it lists TIED to the program's text (the seventh form; the later family's looks); each row that meets fmt, with fmt's text TOLD by the authors' own Lean function (tested against real Go, not proved from fmt's source: count such statements apart). THE CARD IS WHAT COUNTS. Prove the row's statement (the work); the ties are given (YtkaeaiagmihmgaaGreatDoorTie.lean); close each card by the builder's one call (the guide's Derived/Test/ToyasCard.lean, 'card_holds'). Laid BY PROGRAM, IN A SANDBOX (cutbox-door.mjs). By AI agents, Wed Nov 11 2026. No macro, syntax, notation, axiom, sorry.
-/
import Derived.Test.YtkaeaiagmihmgaaGreatDoorRows
import GoSem.ClaimSeven
namespace Go.Proofs.YtkaeaiagmihmgaaGreatDoor
namespace Rows

/-- THE TIED CARD OF 'mortmainlaw03.ValueWords'. -/
def valueWordsCard : Claim7 := { stood := { row := valueWordsRow, standIns := [], harness := (true, "52785e0227e43ee36b04aedc42e540b250584fbe1172e78e18cb19509d91b41b"), looks := true }, kinds := [], alts := [], laidByText := true, laidKinds := [.data, .data, .widerDeep, .widerDeep, .data, .data, .data, .data, .data, .data, .sentinel, .sentinel, .pinned, .pinned, .pinned], laidTests := true, laidLooks := .later }
def ValueWordsCardSaid : Prop := Claim7.holds Tryz.pinned (.plain (OpenSpec.ofChange valueWordsSpec)) valueWordsCard

/-- THE SECOND FORM's CARD OF 'mortmainlaw03.ValueWords'. -/
def valueWordsUptoCard : Claim7 := { stood := { row := valueWordsUptoRow, standIns := [], harness := (true, "52785e0227e43ee36b04aedc42e540b250584fbe1172e78e18cb19509d91b41b"), looks := true }, kinds := [], alts := [], laidByText := true, laidKinds := [.data, .data, .widerDeep, .widerDeep, .data, .data, .data, .data, .data, .data, .sentinel, .sentinel, .pinned, .pinned, .pinned], laidTests := true, laidLooks := .later }
def ValueWordsUptoCardSaid : Prop := Claim7.holds Tryz.pinned (.plain (OpenSpec.upto valueWordsSpec)) valueWordsUptoCard
end Rows
end Go.Proofs.YtkaeaiagmihmgaaGreatDoor
