/-
  NARROWER THAN 'FOR EVERY INPUT', by the rows' own cells (each row's printed sentence says how): GrantMay: loops · GrantGives: loops.
  DERIVED. THE GIVEN ROWS OF THIS SEAT. 5 by the template 'for every input the law returns true; each argument reads behind the call as it read before'; 0 by the template 'total and deterministic' (their statements: YteehccklnidofaaTotals.lean).
  GIVEN WITH THE SEED: the statements are not yours to turn. If you find one false, say at which input.
  Laid BY PROGRAM, IN A SANDBOX (cutbox-rows.mjs): the forced cells as the released guide's own fill.sh prints them over the translation 5cc03cc67a50c289… (all of the seat's roots in one cut). By AI agents, Wed Nov 11 2026. No macro, syntax, notation, axiom, sorry.
-/
import Derived.Test.YteehccklnidofaaChecked
import GoSem.Claim
import GoSem.ClaimJoined
import GoSem.ClaimMapViews
import Derived.JoinedTies
import Derived.KernelRfl
namespace Go.Proofs.Yteehccklnidofaa
/- THE CELL 'sum', in the pinned program and in every row, IS THE sha256 OF THE DUMP (.gsa) THAT YteehccklnidofaaProg.lean LOADS. Nothing in Lean hashes anything: it is a label: what it is worth is what the hold of that sum in a sandbox is worth. -/
noncomputable def Try.pinned : Pinned := { name := "yteehccklnidofaa", sum := "5cc03cc67a50c289c9466deea068b212d43ecc54aa6ad79b81856f354db1b350", checked := Try.checked }
namespace Rows
def none {H : Type} : Left H := { results := [], args := [] }

/-- 'mortmainlaw10.GrantPuts': WHATEVER THE INPUT: true; the input reads as it did. -/
def grantPutsSpec : ChangeSpec := { name := "grantPuts", fn := fun _ => fun
  | [d1, d2] => { results := [.lit (.bool true)], args := [d1, d2] }
  | _ => none }
def grantPutsRow : OpenClaim := { program := "yteehccklnidofaa", sum := "5cc03cc67a50c289c9466deea068b212d43ecc54aa6ad79b81856f354db1b350", func := "mortmain/mortmainlaw10.GrantPuts", spec := "grantPuts", inPlace := ["slices.overlaps[mortmain/api.Grant]"], unfollowed := true, recurses := true, apart := false }
def GrantPutsSaid : Prop := grantPutsRow.holds Try.pinned (OpenSpec.ofChange grantPutsSpec)

/-- ITS FALSE NEIGHBOUR: 'it returns false'. Refute it at one input. -/
def grantPutsWrong : ChangeSpec := { name := "grantPuts", fn := fun _ => fun
  | [d1, d2] => { results := [.lit (.bool false)], args := [d1, d2] }
  | _ => none }
def GrantPutsWrongFalsely : Prop := grantPutsRow.holds Try.pinned (OpenSpec.ofChange grantPutsWrong)

/-- 'mortmainlaw10.GrantTakes': WHATEVER THE INPUT: true; the input reads as it did. -/
def grantTakesSpec : ChangeSpec := { name := "grantTakes", fn := fun _ => fun
  | [d1, d2] => { results := [.lit (.bool true)], args := [d1, d2] }
  | _ => none }
def grantTakesRow : OpenClaim := { program := "yteehccklnidofaa", sum := "5cc03cc67a50c289c9466deea068b212d43ecc54aa6ad79b81856f354db1b350", func := "mortmain/mortmainlaw10.GrantTakes", spec := "grantTakes", unfollowed := true, recurses := true, apart := false }
def GrantTakesSaid : Prop := grantTakesRow.holds Try.pinned (OpenSpec.ofChange grantTakesSpec)

/-- ITS FALSE NEIGHBOUR: 'it returns false'. Refute it at one input. -/
def grantTakesWrong : ChangeSpec := { name := "grantTakes", fn := fun _ => fun
  | [d1, d2] => { results := [.lit (.bool false)], args := [d1, d2] }
  | _ => none }
def GrantTakesWrongFalsely : Prop := grantTakesRow.holds Try.pinned (OpenSpec.ofChange grantTakesWrong)

/-- 'mortmainlaw10.GrantMay': WHATEVER THE INPUT: true; the input reads as it did. -/
def grantMaySpec : ChangeSpec := { name := "grantMay", fn := fun _ => fun
  | [d1, d2, d3, d4, d5] => { results := [.lit (.bool true)], args := [d1, d2, d3, d4, d5] }
  | _ => none }
def grantMayRow : OpenClaim := { program := "yteehccklnidofaa", sum := "5cc03cc67a50c289c9466deea068b212d43ecc54aa6ad79b81856f354db1b350", func := "mortmain/mortmainlaw10.GrantMay", spec := "grantMay", unfollowed := true, recurses := true, loops := true, apart := false }
def GrantMaySaid : Prop := grantMayRow.holds Try.pinned (OpenSpec.ofChange grantMaySpec)

/-- ITS FALSE NEIGHBOUR: 'it returns false'. Refute it at one input. -/
def grantMayWrong : ChangeSpec := { name := "grantMay", fn := fun _ => fun
  | [d1, d2, d3, d4, d5] => { results := [.lit (.bool false)], args := [d1, d2, d3, d4, d5] }
  | _ => none }
def GrantMayWrongFalsely : Prop := grantMayRow.holds Try.pinned (OpenSpec.ofChange grantMayWrong)

/-- 'mortmainlaw10.GrantGives': WHATEVER THE INPUT: true; the input reads as it did. -/
def grantGivesSpec : ChangeSpec := { name := "grantGives", fn := fun _ => fun
  | [d1, d2, d3, d4, d5] => { results := [.lit (.bool true)], args := [d1, d2, d3, d4, d5] }
  | _ => none }
def grantGivesRow : OpenClaim := { program := "yteehccklnidofaa", sum := "5cc03cc67a50c289c9466deea068b212d43ecc54aa6ad79b81856f354db1b350", func := "mortmain/mortmainlaw10.GrantGives", spec := "grantGives", inPlace := ["slices.overlaps[mortmain/api.Grant]"], unfollowed := true, recurses := true, loops := true, apart := false }
def GrantGivesSaid : Prop := grantGivesRow.holds Try.pinned (OpenSpec.ofChange grantGivesSpec)

/-- ITS FALSE NEIGHBOUR: 'it returns false'. Refute it at one input. -/
def grantGivesWrong : ChangeSpec := { name := "grantGives", fn := fun _ => fun
  | [d1, d2, d3, d4, d5] => { results := [.lit (.bool false)], args := [d1, d2, d3, d4, d5] }
  | _ => none }
def GrantGivesWrongFalsely : Prop := grantGivesRow.holds Try.pinned (OpenSpec.ofChange grantGivesWrong)

/-- 'mortmainlaw10.GrantOrder': WHATEVER THE INPUT: true; the input reads as it did. -/
def grantOrderSpec : ChangeSpec := { name := "grantOrder", fn := fun _ => fun
  | [d1, d2, d3] => { results := [.lit (.bool true)], args := [d1, d2, d3] }
  | _ => none }
def grantOrderRow : OpenClaim := { program := "yteehccklnidofaa", sum := "5cc03cc67a50c289c9466deea068b212d43ecc54aa6ad79b81856f354db1b350", func := "mortmain/mortmainlaw10.GrantOrder", spec := "grantOrder", inPlace := ["slices.overlaps[mortmain/api.Grant]"], unfollowed := true, recurses := true, apart := false }
def GrantOrderSaid : Prop := grantOrderRow.holds Try.pinned (OpenSpec.ofChange grantOrderSpec)

/-- ITS FALSE NEIGHBOUR: 'it returns false'. Refute it at one input. -/
def grantOrderWrong : ChangeSpec := { name := "grantOrder", fn := fun _ => fun
  | [d1, d2, d3] => { results := [.lit (.bool false)], args := [d1, d2, d3] }
  | _ => none }
def GrantOrderWrongFalsely : Prop := grantOrderRow.holds Try.pinned (OpenSpec.ofChange grantOrderWrong)

/- THE SECOND FORM. 'bulk': how many values and letters a reading holds, each counted each time it is reached (what is shared counts as often as it is met; a slice's spare places count too). A statement '..UptoSaid' is the law's where the arguments, and the package variables that the reading takes, are together of bulk at most 1048576: NARROWER than '..Said'. Prove '..Said' where nothing that the law and all that it calls make is longer than what came in: it says more and counts as full. Else prove '..UptoSaid'. A law counts once. -/
mutual
def uptoBulk {H : Type} : DataW H → Nat
  | .lit (.string bytes) => bytes.length + 1
  | .lit _ => 1
  | .nil => 1
  | .ptr d => uptoBulk d + 1
  | .slice elems spare => uptoBulkAll elems + uptoBulkAll spare + 1
  | .agg parts => uptoBulkAll parts + 1
  | .iface _ d => uptoBulk d + 1
  | .map entries => uptoBulkEntries entries + 1
  | .held _ => 1
def uptoBulkAll {H : Type} : List (DataW H) → Nat
  | [] => 0
  | d :: r => uptoBulk d + uptoBulkAll r
def uptoBulkEntries {H : Type} : List (Lit × DataW H) → Nat
  | [] => 0
  | x :: r => uptoBulkEntry x + uptoBulkEntries r
def uptoBulkEntry {H : Type} : Lit × DataW H → Nat
  | (.string bytes, d) => bytes.length + uptoBulk d + 1
  | (_, d) => uptoBulk d + 1
 end
def uptoSmall : (H : Type) → List (DataW H) → Bool := fun _ ds => decide (uptoBulkAll ds ≤ 1048576)
def OpenSpec.upto (s : _root_.Go.ChangeSpec) : _root_.Go.OpenSpec := { _root_.Go.OpenSpec.ofChange s with cond := some uptoSmall }

/-- 'mortmainlaw10.GrantPuts', WHERE WHAT IT READS IS OF BULK AT MOST 1048576: true; the input reads as it did. -/
def grantPutsUptoRow : OpenClaim := { program := "yteehccklnidofaa", sum := "5cc03cc67a50c289c9466deea068b212d43ecc54aa6ad79b81856f354db1b350", func := "mortmain/mortmainlaw10.GrantPuts", spec := "grantPuts", inPlace := ["slices.overlaps[mortmain/api.Grant]"], unfollowed := true, recurses := true, apart := false, narrowed := true }
def GrantPutsUptoSaid : Prop := grantPutsUptoRow.holds Try.pinned (OpenSpec.upto grantPutsSpec)

/-- 'mortmainlaw10.GrantTakes', WHERE WHAT IT READS IS OF BULK AT MOST 1048576: true; the input reads as it did. -/
def grantTakesUptoRow : OpenClaim := { program := "yteehccklnidofaa", sum := "5cc03cc67a50c289c9466deea068b212d43ecc54aa6ad79b81856f354db1b350", func := "mortmain/mortmainlaw10.GrantTakes", spec := "grantTakes", unfollowed := true, recurses := true, apart := false, narrowed := true }
def GrantTakesUptoSaid : Prop := grantTakesUptoRow.holds Try.pinned (OpenSpec.upto grantTakesSpec)

/-- 'mortmainlaw10.GrantMay', WHERE WHAT IT READS IS OF BULK AT MOST 1048576: true; the input reads as it did. -/
def grantMayUptoRow : OpenClaim := { program := "yteehccklnidofaa", sum := "5cc03cc67a50c289c9466deea068b212d43ecc54aa6ad79b81856f354db1b350", func := "mortmain/mortmainlaw10.GrantMay", spec := "grantMay", unfollowed := true, recurses := true, loops := true, apart := false, narrowed := true }
def GrantMayUptoSaid : Prop := grantMayUptoRow.holds Try.pinned (OpenSpec.upto grantMaySpec)

/-- 'mortmainlaw10.GrantGives', WHERE WHAT IT READS IS OF BULK AT MOST 1048576: true; the input reads as it did. -/
def grantGivesUptoRow : OpenClaim := { program := "yteehccklnidofaa", sum := "5cc03cc67a50c289c9466deea068b212d43ecc54aa6ad79b81856f354db1b350", func := "mortmain/mortmainlaw10.GrantGives", spec := "grantGives", inPlace := ["slices.overlaps[mortmain/api.Grant]"], unfollowed := true, recurses := true, loops := true, apart := false, narrowed := true }
def GrantGivesUptoSaid : Prop := grantGivesUptoRow.holds Try.pinned (OpenSpec.upto grantGivesSpec)

/-- 'mortmainlaw10.GrantOrder', WHERE WHAT IT READS IS OF BULK AT MOST 1048576: true; the input reads as it did. -/
def grantOrderUptoRow : OpenClaim := { program := "yteehccklnidofaa", sum := "5cc03cc67a50c289c9466deea068b212d43ecc54aa6ad79b81856f354db1b350", func := "mortmain/mortmainlaw10.GrantOrder", spec := "grantOrder", inPlace := ["slices.overlaps[mortmain/api.Grant]"], unfollowed := true, recurses := true, apart := false, narrowed := true }
def GrantOrderUptoSaid : Prop := grantOrderUptoRow.holds Try.pinned (OpenSpec.upto grantOrderSpec)

end Rows
end Go.Proofs.Yteehccklnidofaa
