/- The walk of the law RealKept. -/
import Derived.Test.YtnddmpigpghgnaaDoorFmtE
namespace Go.Proofs.YtnddmpigpghgnaaDoor
open Go.RowKit

theorem canonI_idem {b : Nat} (h : b < 18446744073709551616) : canonI (wordOf (canonI b)) = canonI b := by
  rw [wordOf_canonI h]; unfold canonI; rw [canonW_idem]

set_option maxRecDepth 100000 in
set_option maxHeartbeats 1600000 in
theorem realKept_main (a : Int) (f : Nat) (w : World) (ht : HalfTabs w) (hf : f < 18446744073709551616) :
    Calls Tryd.prog 3 #[.int .i64 a, .float .f64 f] w fun e w' => e = .returned (.bool true) ∧ Below w.heap.size w w' := by
  have f1 := tobits
  have H := Lib.hid (canonI_idem hf)
  have h2 : (canonI f == canonI (wordOf (canonI f))) = true := by rw [H.out]; simp
  have h3 : ((a == canonI (wordOf a)) == (canonI (wordOf a) == a)) = true := by
    rw [beq_iff_eq, Bool.eq_iff_iff, beq_iff_eq, beq_iff_eq]; exact ⟨Eq.symm, Eq.symm⟩
  go_enter Tryd.func3, Tryd.ntmps3
  go_wp2_with fail
  refine (alive_any w ht).mono ?_
  rintro e w1 ⟨rfl, b1⟩
  go_wp2_with (first
    | (go_at_call 10; refine (refOf_any _ _).mono ?_; rintro e w' ⟨rfl, rfl⟩)
    | (go_at_call 9; refine (refKept_any _ _).mono ?_; rintro e w' ⟨rfl, rfl⟩)
    | (go_at_call 11; refine (canon_any _ _).mono ?_; rintro e w' ⟨rfl, rfl⟩)
    | (go_at_call 12; refine (good_any _ _).mono ?_; rintro e w' ⟨rfl, rfl⟩)
    | (go_at_call 13; refine (of_any _ _).mono ?_; rintro e w' ⟨rfl, rfl⟩))
  go_ret
  exact ⟨rfl, b1⟩
end Go.Proofs.YtnddmpigpghgnaaDoor
