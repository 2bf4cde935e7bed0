/- What the walks of layer 3 read of the library's variables. -/
import Derived.Test.YtcjbnpeopalbfaaDoorInfo
import Derived.Below
namespace Go.Proofs.YtcjbnpeopalbfaaDoor
open Go.RowKit

/-- internal/bytealg's MaxLen holds some number. -/
def Lens (w : World) : Prop := ∃ m : Int, w.cell? ⟨1, 0, none⟩ = some (.int .i64 m)
theorem Lens.below {w w' : World} (h : Lens w) (hb : Below w.heap.size w w') : Lens w' := by
  obtain ⟨m, hm⟩ := h
  exact ⟨m, (hb.cell (p := ⟨1, 0, none⟩) (World.block_lt_of_cell? w _ hm)).trans hm⟩
end Go.Proofs.YtcjbnpeopalbfaaDoor
