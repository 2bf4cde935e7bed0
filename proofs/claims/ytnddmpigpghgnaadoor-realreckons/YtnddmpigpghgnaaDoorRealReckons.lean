/- The walk of the law RealReckons. -/
import Derived.Test.YtnddmpigpghgnaaDoorFmtE
namespace Go.Proofs.YtnddmpigpghgnaaDoor
open Go.RowKit

/-- What Add and Mul leave: their canonical result, and at most a draw. -/
def Leaves64 (r : Option Nat) (w : World) (e : Ending) (w' : World) : Prop := e = .returned (.int .i64 (canonO r)) ∧ Below w.heap.size w w'
theorem add_leaves (a b : Int) (w : World) : Calls Tryd.prog 20 #[.int .i64 a, .int .i64 b] w (Leaves64 (Ieee.double.add (wordOf a) (wordOf b)) w) := by
  cases h : Ieee.double.add (wordOf a) (wordOf b) with
  | none => exact (add_nan a b h w).mono fun _ _ ⟨h1, h2⟩ => ⟨h1, h2 ▸ (Below.refl _ _).drew⟩
  | some r => exact (add_num a b r h w).mono fun _ _ ⟨h1, h2⟩ => ⟨h1, h2 ▸ Below.refl _ _⟩
theorem mul_leaves (a b : Int) (w : World) : Calls Tryd.prog 21 #[.int .i64 a, .int .i64 b] w (Leaves64 (Ieee.double.mul (wordOf a) (wordOf b)) w) := by
  cases h : Ieee.double.mul (wordOf a) (wordOf b) with
  | none => exact (mul_nan a b h w).mono fun _ _ ⟨h1, h2⟩ => ⟨h1, h2 ▸ (Below.refl _ _).drew⟩
  | some r => exact (mul_num a b r h w).mono fun _ _ ⟨h1, h2⟩ => ⟨h1, h2 ▸ Below.refl _ _⟩

theorem below_step {w w1 w2 : World} (h : Below w.heap.size w w1) (k : Below w1.heap.size w1 w2) : Below w.heap.size w w2 := h.trans (k.mono h.size)

set_option maxRecDepth 100000 in
set_option maxHeartbeats 3200000 in
theorem reckons_nn (a b : Int) (w : World) (ht : HalfTabs w) (ha : Ieee.double.add (wordOf a) (wordOf b) = none) (hm : Ieee.double.mul (wordOf a) (wordOf b) = none) :
    Calls Tryd.prog 7 #[.int .i64 a, .int .i64 b] w fun e w' => e = .returned (.bool true) ∧ Below w.heap.size w w' := by
  have la1 := add_leaves a b
  have la2 := add_leaves b a
  have lm1 := mul_leaves a b
  have lm2 := mul_leaves b a
  rw [add_comm64 (wordOf b) (wordOf a)] at la2
  rw [mul_comm64 (wordOf b) (wordOf a)] at lm2
  have xa := fun (t : TypeId) (w : World) => run_nan .add (.inl rfl) t (wordOf a) (wordOf b) ha w
  have xm := fun (t : TypeId) (w : World) => run_nan .mul (.inr rfl) t (wordOf a) (wordOf b) hm w
  have ka : ∀ t, canonI ((Question.nanBits .f64 (wordOf a) (wordOf b)).cut t) = 9221120237041090560 := fun t => canonI_nan (nan_cut _ _ t)
  have kn : canonO none = 9221120237041090560 := rfl
  rw [ha] at la1 la2
  rw [hm] at lm1 lm2
  clear ha hm
  go_enter Tryd.func7, Tryd.ntmps7
  go_wp2_with fail
  refine (alive_any w ht).mono ?_
  rintro e w1 ⟨rfl, b1⟩
  go_wp2_with (go_at_call 10; refine (refOf_any _ _).mono ?_; rintro e w' ⟨rfl, rfl⟩)
  refine (la1 _).mono ?_
  rintro e w2 ⟨rfl, b2⟩
  have b12 := below_step b1 b2
  go_wp2_with (go_at_call 9; refine (refKept_any _ _).mono ?_; rintro e w' ⟨rfl, rfl⟩)
  refine (lm1 _).mono ?_
  rintro e w3 ⟨rfl, b3⟩
  have b13 := below_step b12 (((Below.refl w2.heap.size w2).drew).trans (b3.mono (Nat.le_refl _)))
  go_wp2_with (go_at_call 9; refine (refKept_any _ _).mono ?_; rintro e w' ⟨rfl, rfl⟩)
  refine (la1 _).mono ?_
  rintro e w4 ⟨rfl, b4⟩
  have b14 := below_step b13 (((Below.refl w3.heap.size w3).drew).trans (b4.mono (Nat.le_refl _)))
  go_wp2_with fail
  refine (la2 _).mono ?_
  rintro e w5 ⟨rfl, b5⟩
  have b15 := below_step b14 b5
  go_wp2_with fail
  refine (lm1 _).mono ?_
  rintro e w6 ⟨rfl, b6⟩
  have b16 := below_step b15 b6
  go_wp2_with fail
  refine (lm2 _).mono ?_
  rintro e w7 ⟨rfl, b7⟩
  have b17 := below_step b16 b7
  go_wp2
  go_ret
  exact ⟨rfl, b17⟩
set_option maxRecDepth 100000 in
set_option maxHeartbeats 3200000 in
theorem reckons_ns (a b : Int) (w : World) (ht : HalfTabs w) (ha : Ieee.double.add (wordOf a) (wordOf b) = none) (rm : Nat) (hm : Ieee.double.mul (wordOf a) (wordOf b) = some rm) :
    Calls Tryd.prog 7 #[.int .i64 a, .int .i64 b] w fun e w' => e = .returned (.bool true) ∧ Below w.heap.size w w' := by
  have la1 := add_leaves a b
  have la2 := add_leaves b a
  have lm1 := mul_leaves a b
  have lm2 := mul_leaves b a
  rw [add_comm64 (wordOf b) (wordOf a)] at la2
  rw [mul_comm64 (wordOf b) (wordOf a)] at lm2
  have xa := fun (t : TypeId) (w : World) => run_nan .add (.inl rfl) t (wordOf a) (wordOf b) ha w
  have xm := fun (t : TypeId) (w : World) => run_float_arith (P := Tryd.prog) w .mul t .f64 (wordOf a) (wordOf b) rm hm
  have ka : ∀ t, canonI ((Question.nanBits .f64 (wordOf a) (wordOf b)).cut t) = 9221120237041090560 := fun t => canonI_nan (nan_cut _ _ t)
  have kn : canonO none = 9221120237041090560 := rfl
  have sm : canonO (some rm) = canonI rm := rfl
  rw [ha] at la1 la2
  rw [hm] at lm1 lm2
  clear ha hm
  go_enter Tryd.func7, Tryd.ntmps7
  go_wp2_with fail
  refine (alive_any w ht).mono ?_
  rintro e w1 ⟨rfl, b1⟩
  go_wp2_with (go_at_call 10; refine (refOf_any _ _).mono ?_; rintro e w' ⟨rfl, rfl⟩)
  refine (la1 _).mono ?_
  rintro e w2 ⟨rfl, b2⟩
  have b12 := below_step b1 b2
  go_wp2_with (go_at_call 9; refine (refKept_any _ _).mono ?_; rintro e w' ⟨rfl, rfl⟩)
  refine (lm1 _).mono ?_
  rintro e w3 ⟨rfl, b3⟩
  have b13 := below_step b12 (((Below.refl w2.heap.size w2).drew).trans (b3.mono (Nat.le_refl _)))
  go_wp2_with (go_at_call 9; refine (refKept_any _ _).mono ?_; rintro e w' ⟨rfl, rfl⟩)
  refine (la1 _).mono ?_
  rintro e w4 ⟨rfl, b4⟩
  have b14 := below_step b13 ((Below.refl _ _).trans (b4.mono (Nat.le_refl _)))
  go_wp2_with fail
  refine (la2 _).mono ?_
  rintro e w5 ⟨rfl, b5⟩
  have b15 := below_step b14 b5
  go_wp2_with fail
  refine (lm1 _).mono ?_
  rintro e w6 ⟨rfl, b6⟩
  have b16 := below_step b15 b6
  go_wp2_with fail
  refine (lm2 _).mono ?_
  rintro e w7 ⟨rfl, b7⟩
  have b17 := below_step b16 b7
  go_wp2
  go_ret
  exact ⟨rfl, b17⟩
set_option maxRecDepth 100000 in
set_option maxHeartbeats 3200000 in
theorem reckons_sn (a b : Int) (w : World) (ht : HalfTabs w) (ra : Nat) (ha : Ieee.double.add (wordOf a) (wordOf b) = some ra) (hm : Ieee.double.mul (wordOf a) (wordOf b) = none) :
    Calls Tryd.prog 7 #[.int .i64 a, .int .i64 b] w fun e w' => e = .returned (.bool true) ∧ Below w.heap.size w w' := by
  have la1 := add_leaves a b
  have la2 := add_leaves b a
  have lm1 := mul_leaves a b
  have lm2 := mul_leaves b a
  rw [add_comm64 (wordOf b) (wordOf a)] at la2
  rw [mul_comm64 (wordOf b) (wordOf a)] at lm2
  have xa := fun (t : TypeId) (w : World) => run_float_arith (P := Tryd.prog) w .add t .f64 (wordOf a) (wordOf b) ra ha
  have xm := fun (t : TypeId) (w : World) => run_nan .mul (.inr rfl) t (wordOf a) (wordOf b) hm w
  have ka : ∀ t, canonI ((Question.nanBits .f64 (wordOf a) (wordOf b)).cut t) = 9221120237041090560 := fun t => canonI_nan (nan_cut _ _ t)
  have kn : canonO none = 9221120237041090560 := rfl
  have sa : canonO (some ra) = canonI ra := rfl
  rw [ha] at la1 la2
  rw [hm] at lm1 lm2
  clear ha hm
  go_enter Tryd.func7, Tryd.ntmps7
  go_wp2_with fail
  refine (alive_any w ht).mono ?_
  rintro e w1 ⟨rfl, b1⟩
  go_wp2_with (go_at_call 10; refine (refOf_any _ _).mono ?_; rintro e w' ⟨rfl, rfl⟩)
  refine (la1 _).mono ?_
  rintro e w2 ⟨rfl, b2⟩
  have b12 := below_step b1 b2
  go_wp2_with (go_at_call 9; refine (refKept_any _ _).mono ?_; rintro e w' ⟨rfl, rfl⟩)
  refine (lm1 _).mono ?_
  rintro e w3 ⟨rfl, b3⟩
  have b13 := below_step b12 ((Below.refl _ _).trans (b3.mono (Nat.le_refl _)))
  go_wp2_with (go_at_call 9; refine (refKept_any _ _).mono ?_; rintro e w' ⟨rfl, rfl⟩)
  refine (la1 _).mono ?_
  rintro e w4 ⟨rfl, b4⟩
  have b14 := below_step b13 (((Below.refl w3.heap.size w3).drew).trans (b4.mono (Nat.le_refl _)))
  go_wp2_with fail
  refine (la2 _).mono ?_
  rintro e w5 ⟨rfl, b5⟩
  have b15 := below_step b14 b5
  go_wp2_with fail
  refine (lm1 _).mono ?_
  rintro e w6 ⟨rfl, b6⟩
  have b16 := below_step b15 b6
  go_wp2_with fail
  refine (lm2 _).mono ?_
  rintro e w7 ⟨rfl, b7⟩
  have b17 := below_step b16 b7
  go_wp2
  go_ret
  exact ⟨rfl, b17⟩
set_option maxRecDepth 100000 in
set_option maxHeartbeats 3200000 in
theorem reckons_ss (a b : Int) (w : World) (ht : HalfTabs w) (ra : Nat) (ha : Ieee.double.add (wordOf a) (wordOf b) = some ra) (rm : Nat) (hm : Ieee.double.mul (wordOf a) (wordOf b) = some rm) :
    Calls Tryd.prog 7 #[.int .i64 a, .int .i64 b] w fun e w' => e = .returned (.bool true) ∧ Below w.heap.size w w' := by
  have la1 := add_leaves a b
  have la2 := add_leaves b a
  have lm1 := mul_leaves a b
  have lm2 := mul_leaves b a
  rw [add_comm64 (wordOf b) (wordOf a)] at la2
  rw [mul_comm64 (wordOf b) (wordOf a)] at lm2
  have xa := fun (t : TypeId) (w : World) => run_float_arith (P := Tryd.prog) w .add t .f64 (wordOf a) (wordOf b) ra ha
  have xm := fun (t : TypeId) (w : World) => run_float_arith (P := Tryd.prog) w .mul t .f64 (wordOf a) (wordOf b) rm hm
  have sa : canonO (some ra) = canonI ra := rfl
  have sm : canonO (some rm) = canonI rm := rfl
  rw [ha] at la1 la2
  rw [hm] at lm1 lm2
  clear ha hm
  go_enter Tryd.func7, Tryd.ntmps7
  go_wp2_with fail
  refine (alive_any w ht).mono ?_
  rintro e w1 ⟨rfl, b1⟩
  go_wp2_with (go_at_call 10; refine (refOf_any _ _).mono ?_; rintro e w' ⟨rfl, rfl⟩)
  refine (la1 _).mono ?_
  rintro e w2 ⟨rfl, b2⟩
  have b12 := below_step b1 b2
  go_wp2_with (go_at_call 9; refine (refKept_any _ _).mono ?_; rintro e w' ⟨rfl, rfl⟩)
  refine (lm1 _).mono ?_
  rintro e w3 ⟨rfl, b3⟩
  have b13 := below_step b12 ((Below.refl _ _).trans (b3.mono (Nat.le_refl _)))
  go_wp2_with (go_at_call 9; refine (refKept_any _ _).mono ?_; rintro e w' ⟨rfl, rfl⟩)
  refine (la1 _).mono ?_
  rintro e w4 ⟨rfl, b4⟩
  have b14 := below_step b13 ((Below.refl _ _).trans (b4.mono (Nat.le_refl _)))
  go_wp2_with fail
  refine (la2 _).mono ?_
  rintro e w5 ⟨rfl, b5⟩
  have b15 := below_step b14 b5
  go_wp2_with fail
  refine (lm1 _).mono ?_
  rintro e w6 ⟨rfl, b6⟩
  have b16 := below_step b15 b6
  go_wp2_with fail
  refine (lm2 _).mono ?_
  rintro e w7 ⟨rfl, b7⟩
  have b17 := below_step b16 b7
  go_wp2
  go_ret
  exact ⟨rfl, b17⟩

theorem realReckons_main (a b : Int) (w : World) (ht : HalfTabs w) :
    Calls Tryd.prog 7 #[.int .i64 a, .int .i64 b] w fun e w' => e = .returned (.bool true) ∧ Below w.heap.size w w' := by
  cases ha : Ieee.double.add (wordOf a) (wordOf b) <;> cases hm : Ieee.double.mul (wordOf a) (wordOf b)
  · exact reckons_nn a b w ht ha hm
  · exact reckons_ns a b w ht ha _ hm
  · exact reckons_sn a b w ht _ ha hm
  · exact reckons_ss a b w ht _ ha _ hm
end Go.Proofs.YtnddmpigpghgnaaDoor
