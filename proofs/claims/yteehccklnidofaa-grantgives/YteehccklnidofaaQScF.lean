/- The walks of the small tests of a column: isRole, canBeKey, hasForm, goodRef. -/
import Derived.Test.YteehccklnidofaaQScC
import Derived.Test.YteehccklnidofaaQScBn
import Derived.BigQuiet
import Derived.Deep.QuietTactic
namespace Go.Proofs.Yteehccklnidofaa
open Go.RowKit

def emptyB (l : List UInt8) : Bool := decide (l = [])
def formB (c : Co) : Bool := nameN c.name && decide (1 ≤ c.kind ∧ c.kind ≤ 3) &&
  (if c.del = 0 then true else if c.del = 1 then !emptyB c.ref else if c.del = 2 then !emptyB c.ref && !c.nn else false)
def keyB (c : Co) : Bool := c.nn && !c.un && emptyB c.ref
theorem emptyB_iff (l : List UInt8) : emptyB l = l.isEmpty := by unfold emptyB; cases l <;> simp
theorem empty_forms {l : List UInt8} (h : ¬ l = []) : (l.toArray == #[]) = false ∧ l.isEmpty = false ∧ emptyB l = false := by cases l <;> simp_all [emptyB]

def roleB (n : Int) : Bool := decide (0 ≤ n) && decide (n ≤ 7)
end Go.Proofs.Yteehccklnidofaa
