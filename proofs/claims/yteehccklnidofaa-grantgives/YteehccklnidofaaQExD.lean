/- The walks of not, decide and valueOfPair. -/
import Derived.Test.YteehccklnidofaaQExC
namespace Go.Proofs.Yteehccklnidofaa
open Go.RowKit

/-- Three new variables. -/
theorem box3 (w : World) (t : TypeId) (x y z : Array Value) : Below w.heap.size w (((w.alloc (.cells x t)).alloc (.cells y t)).alloc (.cells z t)) ∧
    At (((w.alloc (.cells x t)).alloc (.cells y t)).alloc (.cells z t)) w.heap.size t x ∧ At (((w.alloc (.cells x t)).alloc (.cells y t)).alloc (.cells z t)) (w.heap.size + 1) t y ∧
    At (((w.alloc (.cells x t)).alloc (.cells y t)).alloc (.cells z t)) (w.heap.size + 2) t z := by
  refine ⟨((below_box w _).alloc (by simp) _).alloc (by simp; omega) _, ((At.fresh w t x).alloc _).alloc _, ?_, ?_⟩
  · have := (At.fresh (w.alloc (.cells x t)) t y).alloc (.cells z t)
    simpa using this
  · have := At.fresh ((w.alloc (.cells x t)).alloc (.cells y t)) t z
    simpa using this

end Go.Proofs.Yteehccklnidofaa
