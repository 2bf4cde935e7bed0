/- The walks of what an operation does with values. -/
import Derived.Test.YteehccklnidofaaQExB
import Derived.Deep.RegionHeld3
namespace Go.Proofs.Yteehccklnidofaa
open Go.RowKit

theorem below_set3 {w w1 : World} {g : Nat} (h : Below w.heap.size w w1) (hg : w.heap.size ≤ g) (x y z : Value) : Below w.heap.size w (((w1.setCell ⟨g, 0, none⟩ x).setCell ⟨g, 1, none⟩ y).setCell ⟨g, 2, none⟩ z) :=
  ((h.setCell (p := ⟨g, 0, none⟩) hg x).setCell (p := ⟨g, 1, none⟩) hg y).setCell (p := ⟨g, 2, none⟩) hg z

theorem At.three {w : World} {g : Nat} {t : TypeId} {x y z : Value} (h : At w g t #[x, y, z]) : w.cell? ⟨g, 0, none⟩ = some x ∧ w.cell? ⟨g, 1, none⟩ = some y ∧ w.cell? ⟨g, 2, none⟩ = some z ∧
    w.frozen? ⟨g, 0, none⟩ = false ∧ w.frozen? ⟨g, 1, none⟩ = false ∧ w.frozen? ⟨g, 2, none⟩ = false := ⟨h.cell 0, h.cell 1, h.cell 2, h.unfrozen 0, h.unfrozen 1, h.unfrozen 2⟩
/-- The cells of a value. -/
def cs3 (k n : Int) (t : List UInt8) : Array Value := #[.int .i64 k, .int .i64 n, .string ⟨t.toArray⟩]
def z3 : Array Value := #[.int .i64 0, .int .i64 0, .string ⟨#[]⟩]

theorem cmpNaNi_any (a : Int) (w : World) :
    Calls Try.prog 44 #[.int .i64 a] w fun e w' => e = .returned (.bool false) ∧ w = w' := by
  go_enter Try.func44, Try.ntmps44
  go_wp2
  go_ret
  exact ⟨by simp, rfl⟩
set_option maxHeartbeats 800000 in
theorem cmpInt_any (a b : Int) (w : World) :
    Calls Try.prog 37 #[.int .i64 a, .int .i64 b] w fun e w' => e = .returned (.int .i64 (cmpInt a b)) ∧ w = w' := by
  have H : Hid (cmpInt a b = if a < b then -1 else if b < a then 1 else 0) := rfl
  go_enter Try.func37, Try.ntmps37
  go_wp2_with (go_at_call 44; refine (cmpNaNi_any _ _).mono ?_; rintro e w' ⟨rfl, rfl⟩)
  all_goals
    go_ret
    exact ⟨ret_i (by rw [H.out]; (repeat' split) <;> first | rfl | omega), rfl⟩
end Go.Proofs.Yteehccklnidofaa
