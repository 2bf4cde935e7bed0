/-
  DERIVED. GIVEN WITH THE SEED: THE CARDS: each row of YtnddmpigpghgnaaDoorRows.lean that lists a variable, with what it lists TIED to the program's text (the seventh form; the later family's looks); each row that meets fmt, with fmt's text TOLD by the authors' own Lean function (tested against real Go, not proved from fmt's source: count such statements apart). THE CARD IS WHAT COUNTS. Prove the row's statement (the work); the ties are given (YtnddmpigpghgnaaDoorTie.lean); close each card by the builder's one call (the guide's Derived/Test/ToyasCard.lean, 'card_holds'). Laid BY PROGRAM, IN A SANDBOX (cutbox-door.mjs). By AI agents, Wed Nov 11 2026. No macro, syntax, notation, axiom, sorry.
-/
import Derived.Test.YtnddmpigpghgnaaDoorRows
import GoSem.ClaimSeven
namespace Go.Proofs.YtnddmpigpghgnaaDoor
namespace Rows

/-- THE TIED CARD OF 'mortmainlaw02.RealKept'. -/
def realKeptCard : Claim7 := { stood := { row := realKeptRow, standIns := [], harness := (true, "94649ca122051a0d886617921bc40b6817ee88334163939f8af5552cb8ff95ad"), looks := false }, kinds := [], alts := [], laidByText := true, laidKinds := [.data, .data, .data, .data, .pinned, .pinned], laidTests := true, laidLooks := .later }
def RealKeptCardSaid : Prop := Claim7.holds Tryd.pinned (.plain (OpenSpec.ofChange realKeptSpec)) realKeptCard

/-- THE TIED CARD OF 'mortmainlaw02.RealKeys'. -/
def realKeysCard : Claim7 := { stood := { row := realKeysRow, standIns := [], harness := (true, "94649ca122051a0d886617921bc40b6817ee88334163939f8af5552cb8ff95ad"), looks := false }, kinds := [], alts := [], laidByText := true, laidKinds := [.data, .data, .data, .data, .pinned, .pinned], laidTests := true, laidLooks := .later }
def RealKeysCardSaid : Prop := Claim7.holds Tryd.pinned (.plain (OpenSpec.ofChange realKeysSpec)) realKeysCard

/-- THE TIED CARD OF 'mortmainlaw02.RealBack'. -/
def realBackCard : Claim7 := { stood := { row := realBackRow, standIns := [], harness := (true, "94649ca122051a0d886617921bc40b6817ee88334163939f8af5552cb8ff95ad"), looks := false }, kinds := [], alts := [], laidByText := true, laidKinds := [.data, .data, .data, .data, .pinned, .pinned], laidTests := true, laidLooks := .later }
def RealBackCardSaid : Prop := Claim7.holds Tryd.pinned (.plain (OpenSpec.ofChange realBackSpec)) realBackCard

/-- THE TIED CARD OF 'mortmainlaw02.RealOrder'. -/
def realOrderCard : Claim7 := { stood := { row := realOrderRow, standIns := [], harness := (true, "94649ca122051a0d886617921bc40b6817ee88334163939f8af5552cb8ff95ad"), looks := false }, kinds := [], alts := [], laidByText := true, laidKinds := [.data, .data, .data, .data, .pinned, .pinned], laidTests := true, laidLooks := .later }
def RealOrderCardSaid : Prop := Claim7.holds Tryd.pinned (.plain (OpenSpec.ofChange realOrderSpec)) realOrderCard

/-- THE TIED CARD OF 'mortmainlaw02.RealReckons'. -/
def realReckonsCard : Claim7 := { stood := { row := realReckonsRow, standIns := [], harness := (true, "94649ca122051a0d886617921bc40b6817ee88334163939f8af5552cb8ff95ad"), looks := false }, kinds := [], alts := [], laidByText := true, laidKinds := [.data, .data, .data, .data, .pinned, .pinned], laidTests := true, laidLooks := .later }
def RealReckonsCardSaid : Prop := Claim7.holds Tryd.pinned (.plain (OpenSpec.ofChange realReckonsSpec)) realReckonsCard

/-- THE SECOND FORM's CARD OF 'mortmainlaw02.RealKept'. -/
def realKeptUptoCard : Claim7 := { stood := { row := realKeptUptoRow, standIns := [], harness := (true, "94649ca122051a0d886617921bc40b6817ee88334163939f8af5552cb8ff95ad"), looks := false }, kinds := [], alts := [], laidByText := true, laidKinds := [.data, .data, .data, .data, .pinned, .pinned], laidTests := true, laidLooks := .later }
def RealKeptUptoCardSaid : Prop := Claim7.holds Tryd.pinned (.plain (OpenSpec.upto realKeptSpec)) realKeptUptoCard

/-- THE SECOND FORM's CARD OF 'mortmainlaw02.RealKeys'. -/
def realKeysUptoCard : Claim7 := { stood := { row := realKeysUptoRow, standIns := [], harness := (true, "94649ca122051a0d886617921bc40b6817ee88334163939f8af5552cb8ff95ad"), looks := false }, kinds := [], alts := [], laidByText := true, laidKinds := [.data, .data, .data, .data, .pinned, .pinned], laidTests := true, laidLooks := .later }
def RealKeysUptoCardSaid : Prop := Claim7.holds Tryd.pinned (.plain (OpenSpec.upto realKeysSpec)) realKeysUptoCard

/-- THE SECOND FORM's CARD OF 'mortmainlaw02.RealBack'. -/
def realBackUptoCard : Claim7 := { stood := { row := realBackUptoRow, standIns := [], harness := (true, "94649ca122051a0d886617921bc40b6817ee88334163939f8af5552cb8ff95ad"), looks := false }, kinds := [], alts := [], laidByText := true, laidKinds := [.data, .data, .data, .data, .pinned, .pinned], laidTests := true, laidLooks := .later }
def RealBackUptoCardSaid : Prop := Claim7.holds Tryd.pinned (.plain (OpenSpec.upto realBackSpec)) realBackUptoCard

/-- THE SECOND FORM's CARD OF 'mortmainlaw02.RealOrder'. -/
def realOrderUptoCard : Claim7 := { stood := { row := realOrderUptoRow, standIns := [], harness := (true, "94649ca122051a0d886617921bc40b6817ee88334163939f8af5552cb8ff95ad"), looks := false }, kinds := [], alts := [], laidByText := true, laidKinds := [.data, .data, .data, .data, .pinned, .pinned], laidTests := true, laidLooks := .later }
def RealOrderUptoCardSaid : Prop := Claim7.holds Tryd.pinned (.plain (OpenSpec.upto realOrderSpec)) realOrderUptoCard

/-- THE SECOND FORM's CARD OF 'mortmainlaw02.RealReckons'. -/
def realReckonsUptoCard : Claim7 := { stood := { row := realReckonsUptoRow, standIns := [], harness := (true, "94649ca122051a0d886617921bc40b6817ee88334163939f8af5552cb8ff95ad"), looks := false }, kinds := [], alts := [], laidByText := true, laidKinds := [.data, .data, .data, .data, .pinned, .pinned], laidTests := true, laidLooks := .later }
def RealReckonsUptoCardSaid : Prop := Claim7.holds Tryd.pinned (.plain (OpenSpec.upto realReckonsSpec)) realReckonsUptoCard
end Rows
end Go.Proofs.YtnddmpigpghgnaaDoor
