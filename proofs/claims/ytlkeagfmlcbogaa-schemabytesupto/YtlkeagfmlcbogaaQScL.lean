/- The walk of the laws' function 'alive'. -/
import Derived.Test.YtlkeagfmlcbogaaQScJ
namespace Go.Proofs.Ytlkeagfmlcbogaa
open Go.RowKit

def noT : Tb := ⟨[97], 0, none, 0, 0, [], none, 0, 0, fun _ => .nil⟩
def noS : Sc := ⟨0, none, 0, 0, fun _ => default, none, 0, 0, []⟩
def idC : Co := ⟨[105, 100], 1, true, false, [], 0⟩
def idT (g : Nat) : Tb := ⟨[97], 0, some ⟨g, 0, none⟩, 1, 1, [idC], none, 0, 0, fun _ => .nil⟩
theorem in_noT (w : World) : InT w noT := ⟨by unfold I64; decide, by unfold maxLen; decide, by unfold maxLen; decide, by unfold maxLen; decide, ⟨rfl, by simp [noT], fun h => absurd h (by decide)⟩, fun h => absurd h (by decide)⟩
theorem in_noS (w : World) : InS w noS := ⟨by unfold I64; decide, by unfold maxLen; decide, by unfold maxLen; decide, fun h => absurd h (by decide), ⟨rfl, by simp [noS], fun h => absurd h (by decide)⟩⟩
theorem in_idT {w : World} {g : Nat} (h : At w g 35 #[.string ⟨#[105, 100]⟩, .int .i64 1, .bool true, .bool false, .string ⟨#[]⟩, .int .i64 0]) : InT w (idT g) := by
  refine ⟨by show I64 0; unfold I64; decide, by show 1 ≤ maxLen; unfold maxLen; decide, by show 1 ≤ maxLen; unfold maxLen; decide, by show 0 ≤ maxLen; unfold maxLen; decide, ⟨rfl, ?_, fun _ => ⟨g, 0, rfl, h.lt, fun j hj => ?_⟩⟩, fun h => absurd (show 0 < 0 from h) (by decide)⟩
  · intro c hc
    have : c = idC := by simpa [idT] using hc
    subst this
    exact ⟨by unfold I64; decide, by unfold I64; decide, by unfold maxLen; decide, by unfold maxLen; decide⟩
  · obtain rfl : j = 0 := by have : j < 1 := hj; omega
    obtain ⟨c0, c1, c2, c3, c4, c5⟩ := h.six
    exact ⟨c0, c1, c2, c3, c4, c5⟩
theorem goodE_noT : goodE noT noS = 4 := rfl
theorem goodE_idT (g : Nat) : goodE (idT g) noS = 0 := rfl
theorem place_idT (g : Nat) : firstI (fun j => ((idT g).cols.getD j default).name) [120] (idT g).cn = -1 := rfl
theorem name_a1 : nameN [97, 95, 49] = true := rfl

set_option maxRecDepth 100000 in
set_option maxHeartbeats 1600000 in
theorem alive_any (w : World) : Calls Try.prog 5 #[] w fun e w' => e = .returned (.bool true) ∧ Below w.heap.size w w' := by
  obtain ⟨W, hW⟩ : ∃ W, (w.alloc (.cells #[.string ⟨#[105, 100]⟩, .int .i64 1, .bool true, .bool false, .string ⟨#[]⟩, .int .i64 0] 35)).alloc
    (.cells #[.string ⟨#[97]⟩, .int .i64 0, .slice (some ⟨w.heap.size, 0, none⟩) 1 1, .slice none 0 0] 39) = W := ⟨_, rfl⟩
  have b3 : Below w.heap.size w W := by
    rw [← hW]
    have b0 := below_box w (.cells #[.string ⟨#[105, 100]⟩, .int .i64 1, .bool true, .bool false, .string ⟨#[]⟩, .int .i64 0] 35)
    exact b0.alloc b0.size _
  have aC : At W w.heap.size 35 #[.string ⟨#[105, 100]⟩, .int .i64 1, .bool true, .bool false, .string ⟨#[]⟩, .int .i64 0] := by
    rw [← hW]
    exact (At.fresh _ _ _).alloc _
  have aT : At W (w.heap.size + 1) 39 #[.string ⟨#[97]⟩, .int .i64 0, .slice (some ⟨w.heap.size, 0, none⟩) 1 1, .slice none 0 0] := by
    rw [← hW]
    have := At.fresh (w.alloc (.cells #[.string ⟨#[105, 100]⟩, .int .i64 1, .bool true, .bool false, .string ⟨#[]⟩, .int .i64 0] 35)) 39 #[.string ⟨#[97]⟩, .int .i64 0, .slice (some ⟨w.heap.size, 0, none⟩) 1 1, .slice none 0 0]
    simp only [World.size_alloc] at this
    exact this
  have hWc := Lib.hid hW
  clear hW
  have g1 := tgood_any noT noS W (in_noT W) (in_noS W)
  rw [goodE_noT] at g1
  have hg2 := fun w1 (b1 : Below W.heap.size W w1) => tgood_any (idT w.heap.size) noS w1 (in_idT (aC.below b1 aC.lt)) (in_noS w1)
  simp only [goodE_idT] at hg2
  have hg4 := fun w1 (b1 : Below W.heap.size W w1) => Place_any (idT w.heap.size) [120] w1 (in_idT (aC.below b1 aC.lt)).cols (by show 1 ≤ maxLen; unfold maxLen; decide)
  simp only [place_idT] at hg4
  have hg3 := name_any [97, 95, 49] (by unfold maxLen; decide)
  rw [name_a1] at hg3
  simp only [Tb.val, Sc.val, noT, noS, idT] at g1 hg2 hg4
  go_enter Try.func5, Try.ntmps5
  go_wp2_with fail
  rw [hWc.out]
  clear hWc
  refine g1.mono ?_
  rintro e w1 ⟨rfl, b1⟩
  have aT1 := aT.below b1 aT.lt
  obtain ⟨t0, t1, t2, t3, -⟩ := aT1.four
  go_wp2_with fail
  refine (hg2 _ b1).mono ?_
  rintro e w2 ⟨rfl, b2⟩
  have b12 := below_in b1 b2
  have aT2 := aT1.below b2 aT1.lt
  clear t0 t1 t2 t3
  obtain ⟨t0, t1, t2, t3, -⟩ := aT2.four
  go_wp2_with fail
  refine (hg3 _).mono ?_
  rintro e w3 ⟨rfl, rfl⟩
  go_wp2_with fail
  refine (hg4 _ b12).mono ?_
  rintro e w4 ⟨rfl, b4⟩
  go_wp2_with fail
  go_ret
  exact ⟨rfl, below_in b3 (below_in b12 b4)⟩
end Go.Proofs.Ytlkeagfmlcbogaa
