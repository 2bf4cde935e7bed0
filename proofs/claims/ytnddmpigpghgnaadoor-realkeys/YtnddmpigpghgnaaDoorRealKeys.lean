/- The walk of the law RealKeys. -/
import Derived.Test.YtnddmpigpghgnaaDoorRealOrder
namespace Go.Proofs.YtnddmpigpghgnaaDoor
open Go.RowKit

set_option maxRecDepth 100000 in
set_option maxHeartbeats 3200000 in
theorem realKeys_main (a b : Int) (w : World) (ht : HalfTabs w) :
    Calls Tryd.prog 4 #[.int .i64 a, .int .i64 b] w fun e w' => e = .returned (.bool true) ∧ Below w.heap.size w w' := by
  obtain ⟨g1, g2⟩ := back_key a
  have hr : backRes (keyI a) = .tuple #[.int .i64 (canonI (wordOf a)), .int .i64 0] := by unfold backRes; rw [if_pos g1, g2]
  have hl := keyI_lt a
  clear g1 g2
  rcases cmp3 (keyI a) (keyI b) with ⟨o1, x1, x2⟩ | ⟨o1, x1, x2⟩ | ⟨o1, x1, x2⟩
  all_goals
    have d1 : decide (keyI a < keyI b) = decide (cmpI (keyI a) (keyI b) < 0) := by rw [x1]; simp; try omega
    have d2 : ((keyI a : Int) == (keyI b : Int)) = (cmpI (keyI a) (keyI b) == 0) := by rw [x1]; simp; try omega
    rw [x1] at d1 d2
    clear o1
    go_enter Tryd.func4, Tryd.ntmps4
    go_wp2_with fail
    refine (alive_any w ht).mono ?_
    rintro e w1 ⟨rfl, b1⟩
    go_wp2_with (first
      | (go_at_call 15; refine (compare_any _ _ _).mono ?_; rintro e w' ⟨rfl, rfl⟩)
      | (go_at_call 17; refine (key_any _ _).mono ?_; rintro e w' ⟨rfl, rfl⟩)
      | (go_at_call 16; refine (back_any _ hl _).mono ?_; rintro e w' ⟨rfl, rfl⟩)
      | (go_at_call 10; refine (refOf_any _ _).mono ?_; rintro e w' ⟨rfl, rfl⟩)
      | (go_at_call 9; refine (refKept_any _ _).mono ?_; rintro e w' ⟨rfl, rfl⟩)
      | (go_at_call 18; refine (refCompare_any _ _ _).mono ?_; rintro e w' ⟨rfl, rfl⟩)
      | (go_at_call 19; refine (refKey_any _ _).mono ?_; rintro e w' ⟨rfl, rfl⟩))
    go_ret
    exact ⟨rfl, b1⟩
end Go.Proofs.YtnddmpigpghgnaaDoor
