/-
  NARROWER THAN 'FOR EVERY INPUT', by the rows' own cells (each row's printed sentence says how): ExprSafe: loops.
  DERIVED. THE GIVEN ROWS OF THIS SEAT. 3 by the template 'for every input the law returns true; each argument reads behind the call as it read before'; 0 by the template 'total and deterministic' (their statements: YtfgmhilmjkpeeaaTotals.lean).
  GIVEN WITH THE SEED: the statements are not yours to turn. If you find one false, say at which input.
  Laid BY PROGRAM, IN A SANDBOX (cutbox-rows.mjs): the forced cells as the released guide's own fill.sh prints them over the translation 15872abfc50baf05… (all of the seat's roots in one cut). By AI agents, Wed Nov 11 2026. No macro, syntax, notation, axiom, sorry.
-/
import Derived.Test.YtfgmhilmjkpeeaaChecked
import GoSem.Claim
import GoSem.ClaimJoined
import GoSem.ClaimMapViews
import Derived.JoinedTies
import Derived.KernelRfl
namespace Go.Proofs.Ytfgmhilmjkpeeaa
/- THE CELL 'sum', in the pinned program and in every row, IS THE sha256 OF THE DUMP (.gsa) THAT YtfgmhilmjkpeeaaProg.lean LOADS. Nothing in Lean hashes anything: it is a label: what it is worth is what the hold of that sum in a sandbox is worth. -/
noncomputable def Try.pinned : Pinned := { name := "ytfgmhilmjkpeeaa", sum := "15872abfc50baf053494fefef13327d9966814aee5c490f4ef38a231d12d34c0", checked := Try.checked }
namespace Rows
def none {H : Type} : Left H := { results := [], args := [] }

/-- 'mortmainlaw08.ExprSafe': WHATEVER THE INPUT: true; the input reads as it did. -/
def exprSafeSpec : ChangeSpec := { name := "exprSafe", fn := fun _ => fun
  | [d1, d2, d3] => { results := [.lit (.bool true)], args := [d1, d2, d3] }
  | _ => none }
def exprSafeRow : OpenClaim := { program := "ytfgmhilmjkpeeaa", sum := "15872abfc50baf053494fefef13327d9966814aee5c490f4ef38a231d12d34c0", func := "mortmain/mortmainlaw08.ExprSafe", spec := "exprSafe", inPlace := ["math.Float64frombits", "math.Float64bits", "internal/bytealg.abigen_runtime_cmpstring"], unfollowed := true, recurses := true, loops := true, apart := false }
def ExprSafeSaid : Prop := exprSafeRow.holds Try.pinned (OpenSpec.ofChange exprSafeSpec)

/-- ITS FALSE NEIGHBOUR: 'it returns false'. Refute it at one input. -/
def exprSafeWrong : ChangeSpec := { name := "exprSafe", fn := fun _ => fun
  | [d1, d2, d3] => { results := [.lit (.bool false)], args := [d1, d2, d3] }
  | _ => none }
def ExprSafeWrongFalsely : Prop := exprSafeRow.holds Try.pinned (OpenSpec.ofChange exprSafeWrong)

/-- 'mortmainlaw08.ExprLogic': WHATEVER THE INPUT: true; the input reads as it did. -/
def exprLogicSpec : ChangeSpec := { name := "exprLogic", fn := fun _ => fun
  | [d1, d2] => { results := [.lit (.bool true)], args := [d1, d2] }
  | _ => none }
def exprLogicRow : OpenClaim := { program := "ytfgmhilmjkpeeaa", sum := "15872abfc50baf053494fefef13327d9966814aee5c490f4ef38a231d12d34c0", func := "mortmain/mortmainlaw08.ExprLogic", spec := "exprLogic", inPlace := ["math.Float64frombits", "math.Float64bits", "internal/bytealg.abigen_runtime_cmpstring"], unfollowed := true, recurses := true, apart := false }
def ExprLogicSaid : Prop := exprLogicRow.holds Try.pinned (OpenSpec.ofChange exprLogicSpec)

/-- ITS FALSE NEIGHBOUR: 'it returns false'. Refute it at one input. -/
def exprLogicWrong : ChangeSpec := { name := "exprLogic", fn := fun _ => fun
  | [d1, d2] => { results := [.lit (.bool false)], args := [d1, d2] }
  | _ => none }
def ExprLogicWrongFalsely : Prop := exprLogicRow.holds Try.pinned (OpenSpec.ofChange exprLogicWrong)

/-- 'mortmainlaw08.ExprEdges': WHATEVER THE INPUT: true; the input reads as it did. -/
def exprEdgesSpec : ChangeSpec := { name := "exprEdges", fn := fun _ => fun
  | [d1, d2] => { results := [.lit (.bool true)], args := [d1, d2] }
  | _ => none }
def exprEdgesRow : OpenClaim := { program := "ytfgmhilmjkpeeaa", sum := "15872abfc50baf053494fefef13327d9966814aee5c490f4ef38a231d12d34c0", func := "mortmain/mortmainlaw08.ExprEdges", spec := "exprEdges", inPlace := ["math.Float64frombits", "math.Float64bits", "internal/bytealg.abigen_runtime_cmpstring"], unfollowed := true, recurses := true, apart := false }
def ExprEdgesSaid : Prop := exprEdgesRow.holds Try.pinned (OpenSpec.ofChange exprEdgesSpec)

/-- ITS FALSE NEIGHBOUR: 'it returns false'. Refute it at one input. -/
def exprEdgesWrong : ChangeSpec := { name := "exprEdges", fn := fun _ => fun
  | [d1, d2] => { results := [.lit (.bool false)], args := [d1, d2] }
  | _ => none }
def ExprEdgesWrongFalsely : Prop := exprEdgesRow.holds Try.pinned (OpenSpec.ofChange exprEdgesWrong)

/- THE SECOND FORM. 'bulk': how many values and letters a reading holds, each counted each time it is reached (what is shared counts as often as it is met; a slice's spare places count too). A statement '..UptoSaid' is the law's where the arguments, and the package variables that the reading takes, are together of bulk at most 1048576: NARROWER than '..Said'. Prove '..Said' where nothing that the law and all that it calls make is longer than what came in: it says more and counts as full. Else prove '..UptoSaid'. A law counts once. -/
mutual
def uptoBulk {H : Type} : DataW H → Nat
  | .lit (.string bytes) => bytes.length + 1
  | .lit _ => 1
  | .nil => 1
  | .ptr d => uptoBulk d + 1
  | .slice elems spare => uptoBulkAll elems + uptoBulkAll spare + 1
  | .agg parts => uptoBulkAll parts + 1
  | .iface _ d => uptoBulk d + 1
  | .map entries => uptoBulkEntries entries + 1
  | .held _ => 1
def uptoBulkAll {H : Type} : List (DataW H) → Nat
  | [] => 0
  | d :: r => uptoBulk d + uptoBulkAll r
def uptoBulkEntries {H : Type} : List (Lit × DataW H) → Nat
  | [] => 0
  | x :: r => uptoBulkEntry x + uptoBulkEntries r
def uptoBulkEntry {H : Type} : Lit × DataW H → Nat
  | (.string bytes, d) => bytes.length + uptoBulk d + 1
  | (_, d) => uptoBulk d + 1
 end
def uptoSmall : (H : Type) → List (DataW H) → Bool := fun _ ds => decide (uptoBulkAll ds ≤ 1048576)
def OpenSpec.upto (s : _root_.Go.ChangeSpec) : _root_.Go.OpenSpec := { _root_.Go.OpenSpec.ofChange s with cond := some uptoSmall }

/-- 'mortmainlaw08.ExprSafe', WHERE WHAT IT READS IS OF BULK AT MOST 1048576: true; the input reads as it did. -/
def exprSafeUptoRow : OpenClaim := { program := "ytfgmhilmjkpeeaa", sum := "15872abfc50baf053494fefef13327d9966814aee5c490f4ef38a231d12d34c0", func := "mortmain/mortmainlaw08.ExprSafe", spec := "exprSafe", inPlace := ["math.Float64frombits", "math.Float64bits", "internal/bytealg.abigen_runtime_cmpstring"], unfollowed := true, recurses := true, loops := true, apart := false, narrowed := true }
def ExprSafeUptoSaid : Prop := exprSafeUptoRow.holds Try.pinned (OpenSpec.upto exprSafeSpec)

/-- 'mortmainlaw08.ExprLogic', WHERE WHAT IT READS IS OF BULK AT MOST 1048576: true; the input reads as it did. -/
def exprLogicUptoRow : OpenClaim := { program := "ytfgmhilmjkpeeaa", sum := "15872abfc50baf053494fefef13327d9966814aee5c490f4ef38a231d12d34c0", func := "mortmain/mortmainlaw08.ExprLogic", spec := "exprLogic", inPlace := ["math.Float64frombits", "math.Float64bits", "internal/bytealg.abigen_runtime_cmpstring"], unfollowed := true, recurses := true, apart := false, narrowed := true }
def ExprLogicUptoSaid : Prop := exprLogicUptoRow.holds Try.pinned (OpenSpec.upto exprLogicSpec)

/-- 'mortmainlaw08.ExprEdges', WHERE WHAT IT READS IS OF BULK AT MOST 1048576: true; the input reads as it did. -/
def exprEdgesUptoRow : OpenClaim := { program := "ytfgmhilmjkpeeaa", sum := "15872abfc50baf053494fefef13327d9966814aee5c490f4ef38a231d12d34c0", func := "mortmain/mortmainlaw08.ExprEdges", spec := "exprEdges", inPlace := ["math.Float64frombits", "math.Float64bits", "internal/bytealg.abigen_runtime_cmpstring"], unfollowed := true, recurses := true, apart := false, narrowed := true }
def ExprEdgesUptoSaid : Prop := exprEdgesUptoRow.holds Try.pinned (OpenSpec.upto exprEdgesSpec)

end Rows
end Go.Proofs.Ytfgmhilmjkpeeaa
