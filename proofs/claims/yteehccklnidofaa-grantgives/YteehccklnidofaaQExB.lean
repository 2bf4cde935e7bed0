/- The walks of package expr's small functions. -/
import Derived.Test.YteehccklnidofaaQExA
import Derived.Test.YteehccklnidofaaQValA
import Derived.Laws.StructEq
namespace Go.Proofs.Yteehccklnidofaa
open Go.RowKit

theorem cast0 (n : Nat) : ((n : Int) == 0) = decide (n = 0) := by rw [Bool.eq_iff_iff]; simp
theorem cast1 (n : Nat) : ((n : Int) == 1) = decide (n = 1) := by rw [Bool.eq_iff_iff]; simp; omega
theorem cast2 (n : Nat) : ((n : Int) == 2) = decide (n = 2) := by rw [Bool.eq_iff_iff]; simp; omega
end Go.Proofs.Yteehccklnidofaa
