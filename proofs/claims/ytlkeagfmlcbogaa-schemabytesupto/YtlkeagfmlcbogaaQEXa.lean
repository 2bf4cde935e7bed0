/- The walks of what an operation does with values. -/
/- The walks of not, decide and valueOfPair. -/
import Derived.Test.YtlkeagfmlcbogaaQExB
import Derived.Deep.RegionHeld3
namespace Go.Proofs.Ytlkeagfmlcbogaa
open Go.RowKit

theorem below_set3 {w w1 : World} {g : Nat} (h : Below w.heap.size w w1) (hg : w.heap.size ≤ g) (x y z : Value) : Below w.heap.size w (((w1.setCell ⟨g, 0, none⟩ x).setCell ⟨g, 1, none⟩ y).setCell ⟨g, 2, none⟩ z) :=
  ((h.setCell (p := ⟨g, 0, none⟩) hg x).setCell (p := ⟨g, 1, none⟩) hg y).setCell (p := ⟨g, 2, none⟩) hg z

theorem At.three {w : World} {g : Nat} {t : TypeId} {x y z : Value} (h : At w g t #[x, y, z]) : w.cell? ⟨g, 0, none⟩ = some x ∧ w.cell? ⟨g, 1, none⟩ = some y ∧ w.cell? ⟨g, 2, none⟩ = some z ∧
    w.frozen? ⟨g, 0, none⟩ = false ∧ w.frozen? ⟨g, 1, none⟩ = false ∧ w.frozen? ⟨g, 2, none⟩ = false := ⟨h.cell 0, h.cell 1, h.cell 2, h.unfrozen 0, h.unfrozen 1, h.unfrozen 2⟩
/-- The cells of a value. -/
def cs3 (k n : Int) (t : List UInt8) : Array Value := #[.int .i64 k, .int .i64 n, .string ⟨t.toArray⟩]
def z3 : Array Value := #[.int .i64 0, .int .i64 0, .string ⟨#[]⟩]

end Go.Proofs.Ytlkeagfmlcbogaa

namespace Go.Proofs.Ytlkeagfmlcbogaa
open Go.RowKit

/-- Three new variables. -/
theorem box3 (w : World) (t : TypeId) (x y z : Array Value) : Below w.heap.size w (((w.alloc (.cells x t)).alloc (.cells y t)).alloc (.cells z t)) ∧
    At (((w.alloc (.cells x t)).alloc (.cells y t)).alloc (.cells z t)) w.heap.size t x ∧ At (((w.alloc (.cells x t)).alloc (.cells y t)).alloc (.cells z t)) (w.heap.size + 1) t y ∧
    At (((w.alloc (.cells x t)).alloc (.cells y t)).alloc (.cells z t)) (w.heap.size + 2) t z := by
  refine ⟨((below_box w _).alloc (by simp) _).alloc (by simp; omega) _, ((At.fresh w t x).alloc _).alloc _, ?_, ?_⟩
  · have := (At.fresh (w.alloc (.cells x t)) t y).alloc (.cells z t)
    simpa using this
  · have := At.fresh ((w.alloc (.cells x t)).alloc (.cells y t)) t z
    simpa using this

end Go.Proofs.Ytlkeagfmlcbogaa
