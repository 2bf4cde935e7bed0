/- What the walks of layer 3 read of the library's variables. -/
import Derived.Test.YtnlfemfkjjjdhaaGreatDoorFmtA
namespace Go.Proofs.YtnlfemfkjjjdhaaGreatDoor
open Go.RowKit

/-- internal/bytealg's MaxLen holds some number. -/
def Lens (w : World) : Prop := ∃ m : Int, w.cell? ⟨2, 0, none⟩ = some (.int .i64 m)
theorem Lens.below {w w' : World} (h : Lens w) (hb : Below w.heap.size w w') : Lens w' := by
  obtain ⟨m, hm⟩ := h
  exact ⟨m, (hb.cell (p := ⟨2, 0, none⟩) (World.block_lt_of_cell? w _ hm)).trans hm⟩
structure Tb (w : World) : Prop where
  half : HalfTabs w
  lens : Lens w
theorem Tb.below {w w' : World} (h : Tb w) (hb : Below w.heap.size w w') : Tb w' := ⟨h.half.below hb, h.lens.below hb⟩
end Go.Proofs.YtnlfemfkjjjdhaaGreatDoor
