/- The walk of valueOf. -/
import Derived.Test.YteehccklnidofaaQExF
import Derived.Test.YteehccklnidofaaQExG
namespace Go.Proofs.Yteehccklnidofaa
open Go.RowKit

theorem box2 (w : World) (t s : TypeId) (x y : Array Value) : Below w.heap.size w ((w.alloc (.cells x t)).alloc (.cells y s)) ∧ At ((w.alloc (.cells x t)).alloc (.cells y s)) w.heap.size t x ∧ At ((w.alloc (.cells x t)).alloc (.cells y s)) (w.heap.size + 1) s y := by
  refine ⟨(below_box w _).alloc (by simp) _, (At.fresh w t x).alloc _, ?_⟩
  have := At.fresh (w.alloc (.cells x t)) s y
  simpa using this

end Go.Proofs.Yteehccklnidofaa
