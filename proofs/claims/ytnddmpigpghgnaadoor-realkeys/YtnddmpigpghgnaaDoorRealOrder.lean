/- The walk of the law RealOrder. -/
import Derived.Test.YtnddmpigpghgnaaDoorFmtE
namespace Go.Proofs.YtnddmpigpghgnaaDoor
open Go.RowKit

theorem cmp3 (a b : Nat) : (a < b ∧ cmpI a b = -1 ∧ cmpI b a = 1) ∨ (a = b ∧ cmpI a b = 0 ∧ cmpI b a = 0) ∨ (b < a ∧ cmpI a b = 1 ∧ cmpI b a = -1) := by
  unfold cmpI
  by_cases h : a < b
  · left; rw [if_pos h, if_neg (by omega), if_pos h]; exact ⟨h, rfl, rfl⟩
  · by_cases h2 : b < a
    · right; right; rw [if_neg h, if_pos h2, if_pos h2]; exact ⟨h2, rfl, rfl⟩
    · right; left; rw [if_neg h, if_neg h2, if_neg h2, if_neg h]; exact ⟨by omega, rfl, rfl⟩
theorem cmp_self (a : Nat) : cmpI a a = 0 := by unfold cmpI; rw [if_neg (by omega), if_neg (by omega)]

set_option maxRecDepth 100000 in
set_option maxHeartbeats 6400000 in
theorem realOrder_main (a b c : Int) (w : World) (ht : HalfTabs w) :
    Calls Tryd.prog 6 #[.int .i64 a, .int .i64 b, .int .i64 c] w fun e w' => e = .returned (.bool true) ∧ Below w.heap.size w w' := by
  have hs := cmp_self (keyI a)
  rcases cmp3 (keyI a) (keyI b) with ⟨o1, x1, x2⟩ | ⟨o1, x1, x2⟩ | ⟨o1, x1, x2⟩ <;> rcases cmp3 (keyI b) (keyI c) with ⟨o2, y1, y2⟩ | ⟨o2, y1, y2⟩ | ⟨o2, y1, y2⟩ <;> rcases cmp3 (keyI a) (keyI c) with ⟨o3, z1, z2⟩ | ⟨o3, z1, z2⟩ | ⟨o3, z1, z2⟩
  all_goals first
    | (exfalso; omega)
    | (clear o1 o2 o3
       go_enter Tryd.func6, Tryd.ntmps6
       go_wp2_with fail
       refine (alive_any w ht).mono ?_
       rintro e w1 ⟨rfl, b1⟩
       go_wp2_with (go_at_call 15; refine (compare_any _ _ _).mono ?_; rintro e w' ⟨rfl, rfl⟩)
       go_ret
       exact ⟨rfl, b1⟩)
end Go.Proofs.YtnddmpigpghgnaaDoor
