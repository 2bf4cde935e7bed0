/-
  NARROWER THAN 'FOR EVERY INPUT', by the rows' own cells (each row's printed sentence says how): DdlApplies: loops · DdlWhole: loops · DdlStays: loops · DdlBack: loops.
  DERIVED. THE GIVEN ROWS OF THIS SEAT. 4 by the template 'for every input the law returns true; each argument reads behind the call as it read before'; 0 by the template 'total and deterministic' (their statements: YtnhalfdddcjicaaGreatTotals.lean).
  GIVEN WITH THE SEED: the statements are not yours to turn. If you find one false, say at which input.
  Laid BY PROGRAM, IN A SANDBOX (cutbox-rows.mjs): the forced cells as the released guide's own fill.sh prints them over the translation 7296bc45b6263586… (all of the seat's roots in one cut). By AI agents, Wed Nov 11 2026. No macro, syntax, notation, axiom, sorry.
-/
import Derived.Test.YtnhalfdddcjicaaGreatChecked
import GoSem.Claim
import GoSem.ClaimJoined
import GoSem.ClaimMapViews
import Derived.JoinedTies
import Derived.KernelRfl
namespace Go.Proofs.YtnhalfdddcjicaaGreat
/- THE CELL 'sum', in the pinned program and in every row, IS THE sha256 OF THE DUMP (.gsa) THAT YtnhalfdddcjicaaGreatProg.lean LOADS. Nothing in Lean hashes anything: it is a label: what it is worth is what the hold of that sum in a sandbox is worth. -/
noncomputable def Tryz.pinned : Pinned := { name := "ytnhalfdddcjicaagreat", sum := "7296bc45b626358629f645fb420515aaf388e23561fa06b39bc970576ce14da2", checked := Tryz.checked }
namespace Rows
def none {H : Type} : Left H := { results := [], args := [] }

/-- 'mortmainlaw11.DdlApplies': WHATEVER THE INPUT: true; the input reads as it did. -/
def ddlAppliesSpec : ChangeSpec := { name := "ddlApplies", fn := fun _ => fun
  | [d1, d2, d3] => { results := [.lit (.bool true)], args := [d1, d2, d3] }
  | _ => none }
def ddlAppliesRow : OpenClaim := { program := "ytnhalfdddcjicaagreat", sum := "7296bc45b626358629f645fb420515aaf388e23561fa06b39bc970576ce14da2", func := "mortmain/mortmainlaw11.DdlApplies", spec := "ddlApplies", inPlace := ["math.Float64frombits", "math.Float64bits", "slices.overlaps[mortmain/api.Grant]"], unfollowed := true, recurses := true, loops := true, apart := false }
def DdlAppliesSaid : Prop := ddlAppliesRow.holds Tryz.pinned (OpenSpec.ofChange ddlAppliesSpec)

/-- ITS FALSE NEIGHBOUR: 'it returns false'. Refute it at one input. -/
def ddlAppliesWrong : ChangeSpec := { name := "ddlApplies", fn := fun _ => fun
  | [d1, d2, d3] => { results := [.lit (.bool false)], args := [d1, d2, d3] }
  | _ => none }
def DdlAppliesWrongFalsely : Prop := ddlAppliesRow.holds Tryz.pinned (OpenSpec.ofChange ddlAppliesWrong)

/-- 'mortmainlaw11.DdlWhole': WHATEVER THE INPUT: true; the input reads as it did. -/
def ddlWholeSpec : ChangeSpec := { name := "ddlWhole", fn := fun _ => fun
  | [d1, d2, d3] => { results := [.lit (.bool true)], args := [d1, d2, d3] }
  | _ => none }
def ddlWholeRow : OpenClaim := { program := "ytnhalfdddcjicaagreat", sum := "7296bc45b626358629f645fb420515aaf388e23561fa06b39bc970576ce14da2", func := "mortmain/mortmainlaw11.DdlWhole", spec := "ddlWhole", inPlace := ["math.Float64frombits", "math.Float64bits", "slices.overlaps[mortmain/api.Grant]"], unfollowed := true, recurses := true, loops := true, apart := false }
def DdlWholeSaid : Prop := ddlWholeRow.holds Tryz.pinned (OpenSpec.ofChange ddlWholeSpec)

/-- ITS FALSE NEIGHBOUR: 'it returns false'. Refute it at one input. -/
def ddlWholeWrong : ChangeSpec := { name := "ddlWhole", fn := fun _ => fun
  | [d1, d2, d3] => { results := [.lit (.bool false)], args := [d1, d2, d3] }
  | _ => none }
def DdlWholeWrongFalsely : Prop := ddlWholeRow.holds Tryz.pinned (OpenSpec.ofChange ddlWholeWrong)

/-- 'mortmainlaw11.DdlStays': WHATEVER THE INPUT: true; the input reads as it did. -/
def ddlStaysSpec : ChangeSpec := { name := "ddlStays", fn := fun _ => fun
  | [d1, d2, d3] => { results := [.lit (.bool true)], args := [d1, d2, d3] }
  | _ => none }
def ddlStaysRow : OpenClaim := { program := "ytnhalfdddcjicaagreat", sum := "7296bc45b626358629f645fb420515aaf388e23561fa06b39bc970576ce14da2", func := "mortmain/mortmainlaw11.DdlStays", spec := "ddlStays", inPlace := ["math.Float64frombits", "math.Float64bits", "slices.overlaps[mortmain/api.Grant]"], unfollowed := true, recurses := true, loops := true, apart := false }
def DdlStaysSaid : Prop := ddlStaysRow.holds Tryz.pinned (OpenSpec.ofChange ddlStaysSpec)

/-- ITS FALSE NEIGHBOUR: 'it returns false'. Refute it at one input. -/
def ddlStaysWrong : ChangeSpec := { name := "ddlStays", fn := fun _ => fun
  | [d1, d2, d3] => { results := [.lit (.bool false)], args := [d1, d2, d3] }
  | _ => none }
def DdlStaysWrongFalsely : Prop := ddlStaysRow.holds Tryz.pinned (OpenSpec.ofChange ddlStaysWrong)

/-- 'mortmainlaw11.DdlBack': WHATEVER THE INPUT: true; the input reads as it did. -/
def ddlBackSpec : ChangeSpec := { name := "ddlBack", fn := fun _ => fun
  | [d1, d2, d3, d4] => { results := [.lit (.bool true)], args := [d1, d2, d3, d4] }
  | _ => none }
def ddlBackRow : OpenClaim := { program := "ytnhalfdddcjicaagreat", sum := "7296bc45b626358629f645fb420515aaf388e23561fa06b39bc970576ce14da2", func := "mortmain/mortmainlaw11.DdlBack", spec := "ddlBack", inPlace := ["math.Float64frombits", "math.Float64bits", "slices.overlaps[mortmain/api.Grant]"], unfollowed := true, recurses := true, loops := true, apart := false }
def DdlBackSaid : Prop := ddlBackRow.holds Tryz.pinned (OpenSpec.ofChange ddlBackSpec)

/-- ITS FALSE NEIGHBOUR: 'it returns false'. Refute it at one input. -/
def ddlBackWrong : ChangeSpec := { name := "ddlBack", fn := fun _ => fun
  | [d1, d2, d3, d4] => { results := [.lit (.bool false)], args := [d1, d2, d3, d4] }
  | _ => none }
def DdlBackWrongFalsely : Prop := ddlBackRow.holds Tryz.pinned (OpenSpec.ofChange ddlBackWrong)

/- THE SECOND FORM. 'bulk': how many values and letters a reading holds, each counted each time it is reached (what is shared counts as often as it is met; a slice's spare places count too). A statement '..UptoSaid' is the law's where the arguments, and the package variables that the reading takes, are together of bulk at most 1048576: NARROWER than '..Said'. Prove '..Said' where nothing that the law and all that it calls make is longer than what came in: it says more and counts as full. Else prove '..UptoSaid'. A law counts once. -/
mutual
def uptoBulk {H : Type} : DataW H → Nat
  | .lit (.string bytes) => bytes.length + 1
  | .lit _ => 1
  | .nil => 1
  | .ptr d => uptoBulk d + 1
  | .slice elems spare => uptoBulkAll elems + uptoBulkAll spare + 1
  | .agg parts => uptoBulkAll parts + 1
  | .iface _ d => uptoBulk d + 1
  | .map entries => uptoBulkEntries entries + 1
  | .held _ => 1
def uptoBulkAll {H : Type} : List (DataW H) → Nat
  | [] => 0
  | d :: r => uptoBulk d + uptoBulkAll r
def uptoBulkEntries {H : Type} : List (Lit × DataW H) → Nat
  | [] => 0
  | x :: r => uptoBulkEntry x + uptoBulkEntries r
def uptoBulkEntry {H : Type} : Lit × DataW H → Nat
  | (.string bytes, d) => bytes.length + uptoBulk d + 1
  | (_, d) => uptoBulk d + 1
 end
def uptoSmall : (H : Type) → List (DataW H) → Bool := fun _ ds => decide (uptoBulkAll ds ≤ 1048576)
def OpenSpec.upto (s : _root_.Go.ChangeSpec) : _root_.Go.OpenSpec := { _root_.Go.OpenSpec.ofChange s with cond := some uptoSmall }

/-- 'mortmainlaw11.DdlApplies', WHERE WHAT IT READS IS OF BULK AT MOST 1048576: true; the input reads as it did. -/
def ddlAppliesUptoRow : OpenClaim := { program := "ytnhalfdddcjicaagreat", sum := "7296bc45b626358629f645fb420515aaf388e23561fa06b39bc970576ce14da2", func := "mortmain/mortmainlaw11.DdlApplies", spec := "ddlApplies", inPlace := ["math.Float64frombits", "math.Float64bits", "slices.overlaps[mortmain/api.Grant]"], unfollowed := true, recurses := true, loops := true, apart := false, narrowed := true }
def DdlAppliesUptoSaid : Prop := ddlAppliesUptoRow.holds Tryz.pinned (OpenSpec.upto ddlAppliesSpec)

/-- 'mortmainlaw11.DdlWhole', WHERE WHAT IT READS IS OF BULK AT MOST 1048576: true; the input reads as it did. -/
def ddlWholeUptoRow : OpenClaim := { program := "ytnhalfdddcjicaagreat", sum := "7296bc45b626358629f645fb420515aaf388e23561fa06b39bc970576ce14da2", func := "mortmain/mortmainlaw11.DdlWhole", spec := "ddlWhole", inPlace := ["math.Float64frombits", "math.Float64bits", "slices.overlaps[mortmain/api.Grant]"], unfollowed := true, recurses := true, loops := true, apart := false, narrowed := true }
def DdlWholeUptoSaid : Prop := ddlWholeUptoRow.holds Tryz.pinned (OpenSpec.upto ddlWholeSpec)

/-- 'mortmainlaw11.DdlStays', WHERE WHAT IT READS IS OF BULK AT MOST 1048576: true; the input reads as it did. -/
def ddlStaysUptoRow : OpenClaim := { program := "ytnhalfdddcjicaagreat", sum := "7296bc45b626358629f645fb420515aaf388e23561fa06b39bc970576ce14da2", func := "mortmain/mortmainlaw11.DdlStays", spec := "ddlStays", inPlace := ["math.Float64frombits", "math.Float64bits", "slices.overlaps[mortmain/api.Grant]"], unfollowed := true, recurses := true, loops := true, apart := false, narrowed := true }
def DdlStaysUptoSaid : Prop := ddlStaysUptoRow.holds Tryz.pinned (OpenSpec.upto ddlStaysSpec)

/-- 'mortmainlaw11.DdlBack', WHERE WHAT IT READS IS OF BULK AT MOST 1048576: true; the input reads as it did. -/
def ddlBackUptoRow : OpenClaim := { program := "ytnhalfdddcjicaagreat", sum := "7296bc45b626358629f645fb420515aaf388e23561fa06b39bc970576ce14da2", func := "mortmain/mortmainlaw11.DdlBack", spec := "ddlBack", inPlace := ["math.Float64frombits", "math.Float64bits", "slices.overlaps[mortmain/api.Grant]"], unfollowed := true, recurses := true, loops := true, apart := false, narrowed := true }
def DdlBackUptoSaid : Prop := ddlBackUptoRow.holds Tryz.pinned (OpenSpec.upto ddlBackSpec)

end Rows
end Go.Proofs.YtnhalfdddcjicaaGreat
