/- The walk of the laws' function 'alive' (layer 10). -/
import Derived.Test.YteehccklnidofaaQGrG
namespace Go.Proofs.Yteehccklnidofaa
open Go.RowKit

def aT : Tb := ⟨[97], 2, none, 0, 0, [], none, 0, 0, fun _ => .nil⟩
def aSc (g : Nat) : Sc := ⟨0, some ⟨g, 0, none⟩, 1, 1, fun _ => aT, none, 0, 0, []⟩
theorem in_aT (w : World) : InT w aT := ⟨by unfold I64; decide, by unfold maxLen; decide, by unfold maxLen; decide, by unfold maxLen; decide, ⟨rfl, by simp [aT], fun h => absurd h (by decide)⟩, fun h => absurd h (by decide)⟩
theorem four4 {w : World} {g : Nat} {t : TypeId} {x y z p : Value} (h : At w g t #[x, y, z, p]) : w.cell? ⟨g, 0, none⟩ = some x ∧ w.cell? ⟨g, 1, none⟩ = some y ∧ w.cell? ⟨g, 2, none⟩ = some z ∧ w.cell? ⟨g, 3, none⟩ = some p := ⟨h.cell 0, h.cell 1, h.cell 2, h.cell 3⟩
theorem in_aSc {w : World} {g : Nat} (h : At w g 48 #[.string ⟨#[97]⟩, .int .i64 2, .slice none 0 0, .slice none 0 0]) : InS w (aSc g) := by
  refine ⟨by show I64 0; unfold I64; decide, by show 1 ≤ maxLen; unfold maxLen; decide, by show 0 ≤ maxLen; unfold maxLen; decide, fun _ => ⟨g, 0, rfl, h.lt, fun j hj => ?_⟩, ⟨rfl, by simp [aSc], fun h => absurd h (by show ¬ 0 < 0; decide)⟩⟩
  obtain rfl : j = 0 := by have : j < 1 := hj; omega
  obtain ⟨c0, c1, c2, c3⟩ := four4 h
  exact ⟨⟨c0, c1, c2, c3⟩, in_aT w⟩
theorem sorted_nil : SortedG [] := ⟨by decide, fun j hj => absurd hj (by simp), fun j hj => absurd hj (by simp)⟩
theorem has_nil (r : Int) (t : List UInt8) (x : Int) : ¬ hasG [] r t x := fun ⟨j, hj, _⟩ => absurd hj (by simp)
theorem may_aSc {g : Nat} {r : Int} {t : List UInt8} {x : Int} {e : Ending} (h : MayE (aSc g) r t x e) : e = .returned (.bool (ownsS (aSc g) r t)) := by
  obtain ⟨B, rfl, hB⟩ := h
  have h1 : SortedG (aSc g).grants := sorted_nil
  have h2 := hB h1
  have h3 : B = true ↔ ownsS (aSc g) r t = true := h2.trans ⟨fun m => m.2.2.resolve_right (has_nil r t x), fun o => owns_may o x⟩
  rw [Bool.eq_iff_iff.2 h3]
theorem o1 (g : Nat) : ownsS (aSc g) 0 [97] = true := rfl
theorem o2 (g : Nat) : ownsS (aSc g) 2 [97] = true := rfl
theorem o3 (g : Nat) : ownsS (aSc g) 1 [97] = false := rfl
theorem o4 (g : Nat) : ownsS (aSc g) 0 [98] = false := rfl

set_option maxRecDepth 100000 in
set_option maxHeartbeats 1600000 in
theorem alive_any (w : World) : Calls Try.prog 8 #[] w fun e w' => e = .returned (.bool true) ∧ Below w.heap.size w w' := by
  obtain ⟨W, hW⟩ : ∃ W, (w.alloc (.cells #[.string ⟨#[97]⟩, .int .i64 2, .slice none 0 0, .slice none 0 0] 48)).alloc (.cells #[.int .i64 0, .slice (some ⟨w.heap.size, 0, none⟩) 1 1, .slice none 0 0] 36) = W := ⟨_, rfl⟩
  have b3 : Below w.heap.size w W := by
    rw [← hW]
    have b0 := below_box w (.cells #[.string ⟨#[97]⟩, .int .i64 2, .slice none 0 0, .slice none 0 0] 48)
    exact b0.alloc b0.size _
  have aT0 : At W w.heap.size 48 #[.string ⟨#[97]⟩, .int .i64 2, .slice none 0 0, .slice none 0 0] := by
    rw [← hW]; exact (At.fresh _ _ _).alloc _
  have aS : At W (w.heap.size + 1) 36 #[.int .i64 0, .slice (some ⟨w.heap.size, 0, none⟩) 1 1, .slice none 0 0] := by
    rw [← hW]
    have := At.fresh (w.alloc (.cells #[.string ⟨#[97]⟩, .int .i64 2, .slice none 0 0, .slice none 0 0] 48)) 36 #[.int .i64 0, .slice (some ⟨w.heap.size, 0, none⟩) 1 1, .slice none 0 0]
    simp only [World.size_alloc] at this
    exact this
  have hWc := Lib.hid hW
  clear hW
  have hM := fun r t x w1 (b1 : Below W.heap.size W w1) => (gmay_any (aSc w.heap.size) r t x w1 (in_aSc (aT0.below b1 aT0.lt))).mono fun e w' h => (⟨may_aSc h.1, h.2⟩ : _ ∧ _)
  have h1 := hM 0 [97] 31
  have h2 := hM 2 [97] 1
  have h3 := hM 1 [97] 1
  have h4 := hM 0 [98] 1
  rw [o1] at h1
  rw [o2] at h2
  rw [o3] at h3
  rw [o4] at h4
  simp only [Sc.val, aSc] at h1 h2 h3 h4
  clear hM
  go_enter Try.func8, Try.ntmps8
  go_wp2_with fail
  rw [hWc.out]
  clear hWc
  refine (h1 _ (Below.refl _ _)).mono ?_
  rintro e w1 ⟨rfl, b1⟩
  obtain ⟨t0, t1, t2⟩ := (aS.below b1 aS.lt).tri0
  go_wp2_with fail
  refine (h2 _ b1).mono ?_
  rintro e w2 ⟨rfl, b2⟩
  have b12 := below_in b1 b2
  clear t0 t1 t2
  obtain ⟨t0, t1, t2⟩ := (aS.below b12 aS.lt).tri0
  go_wp2_with fail
  refine (h3 _ b12).mono ?_
  rintro e w3 ⟨rfl, b3'⟩
  have b13 := below_in b12 b3'
  clear t0 t1 t2
  obtain ⟨t0, t1, t2⟩ := (aS.below b13 aS.lt).tri0
  go_wp2_with fail
  refine (h4 _ b13).mono ?_
  rintro e w4 ⟨rfl, b4⟩
  have b14 := below_in b13 b4
  go_wp2_with fail
  go_ret
  exact ⟨rfl, below_in b3 b14⟩
end Go.Proofs.Yteehccklnidofaa
