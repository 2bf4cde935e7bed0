/- The walk of the laws' function 'alive'. -/
import Derived.Test.YteehccklnidofaaQScJ
namespace Go.Proofs.Yteehccklnidofaa
open Go.RowKit

def noT : Tb := ⟨[97], 0, none, 0, 0, [], none, 0, 0, fun _ => .nil⟩
def noS : Sc := ⟨0, none, 0, 0, fun _ => default, none, 0, 0, []⟩
def idC : Co := ⟨[105, 100], 1, true, false, [], 0⟩
def idT (g : Nat) : Tb := ⟨[97], 0, some ⟨g, 0, none⟩, 1, 1, [idC], none, 0, 0, fun _ => .nil⟩
theorem in_noT (w : World) : InT w noT := ⟨by unfold I64; decide, by unfold maxLen; decide, by unfold maxLen; decide, by unfold maxLen; decide, ⟨rfl, by simp [noT], fun h => absurd h (by decide)⟩, fun h => absurd h (by decide)⟩
theorem in_noS (w : World) : InS w noS := ⟨by unfold I64; decide, by unfold maxLen; decide, by unfold maxLen; decide, fun h => absurd h (by decide), ⟨rfl, by simp [noS], fun h => absurd h (by decide)⟩⟩
theorem in_idT {w : World} {g : Nat} (h : At w g 57 #[.string ⟨#[105, 100]⟩, .int .i64 1, .bool true, .bool false, .string ⟨#[]⟩, .int .i64 0]) : InT w (idT g) := by
  refine ⟨by show I64 0; unfold I64; decide, by show 1 ≤ maxLen; unfold maxLen; decide, by show 1 ≤ maxLen; unfold maxLen; decide, by show 0 ≤ maxLen; unfold maxLen; decide, ⟨rfl, ?_, fun _ => ⟨g, 0, rfl, h.lt, fun j hj => ?_⟩⟩, fun h => absurd (show 0 < 0 from h) (by decide)⟩
  · intro c hc
    have : c = idC := by simpa [idT] using hc
    subst this
    exact ⟨by unfold I64; decide, by unfold I64; decide, by unfold maxLen; decide, by unfold maxLen; decide⟩
  · obtain rfl : j = 0 := by have : j < 1 := hj; omega
    obtain ⟨c0, c1, c2, c3, c4, c5⟩ := h.six
    exact ⟨c0, c1, c2, c3, c4, c5⟩
theorem goodE_noT : goodE noT noS = 4 := rfl
theorem goodE_idT (g : Nat) : goodE (idT g) noS = 0 := rfl
theorem place_idT (g : Nat) : firstI (fun j => ((idT g).cols.getD j default).name) [120] (idT g).cn = -1 := rfl
theorem name_a1 : nameN [97, 95, 49] = true := rfl

end Go.Proofs.Yteehccklnidofaa
