/- Names, places: the walks of the small functions, both sides. -/
import Derived.Test.YteehccklnidofaaQScA
import Derived.Test.YteehccklnidofaaQValA
import Derived.Test.YteehccklnidofaaQExI
namespace Go.Proofs.Yteehccklnidofaa
open Go.RowKit

def lowerB (c : Nat) : Bool := decide (97 ≤ c) && decide (c ≤ 122)
def digitB (c : Nat) : Bool := decide (48 ≤ c) && decide (c ≤ 57)
def okAt (k c : Nat) : Bool := lowerB c || (!decide (k = 0) && (digitB c || decide (c = 95)))
def nameN (l : List UInt8) : Bool := decide (1 ≤ l.length) && decide (l.length ≤ 12) && (List.range l.length).all fun j => okAt j (l.getD j 0).toNat
theorem name_bad {l : List UInt8} {k : Nat} (hk : k < l.length) (h : okAt k (l.getD k 0).toNat = false) : nameN l = false := by
  unfold nameN
  rw [Bool.and_eq_false_iff]
  right
  rw [List.all_eq_false]
  exact ⟨k, by simpa using hk, by rw [h]; decide⟩
theorem name_all {l : List UInt8} (h : ∀ j, j < l.length → okAt j (l.getD j 0).toNat = true) : nameN l = (decide (1 ≤ l.length) && decide (l.length ≤ 12)) := by
  unfold nameN
  rw [List.all_eq_true.2 (fun j hj => h j (by simpa using hj)), Bool.and_true]
theorem name_long {l : List UInt8} (h : 12 < l.length) : nameN l = false := by
  unfold nameN
  have : decide (l.length ≤ 12) = false := by simp; omega
  rw [this, Bool.and_false, Bool.false_and]

theorem isLower_any (c : Nat) (w : World) : Calls Try.prog 42 #[.int .u8 (c : Int)] w fun e w' => e = .returned (.bool (lowerB c)) ∧ w = w' := by
  have H : Hid (lowerB c = (decide (97 ≤ c) && decide (c ≤ 122))) := rfl
  by_cases h1 : 97 ≤ c
  · have h1' : decide ((97 : Int) ≤ c) = true := by simp; omega
    by_cases h2 : c ≤ 122
    · have h2' : decide ((c : Int) ≤ 122) = true := by simp; omega
      go_enter Try.func42, Try.ntmps42
      go_wp2_with fail
      go_ret
      exact ⟨ret_b (by rw [H.out]; simp [h1, h2]), rfl⟩
    · have h2' : decide ((c : Int) ≤ 122) = false := by simp; omega
      go_enter Try.func42, Try.ntmps42
      go_wp2_with fail
      go_ret
      exact ⟨ret_b (by rw [H.out]; simp [h2]), rfl⟩
  · have h1' : decide ((97 : Int) ≤ c) = false := by simp; omega
    go_enter Try.func42, Try.ntmps42
    go_wp2_with fail
    go_ret
    exact ⟨ret_b (by rw [H.out]; simp [h1]), rfl⟩
theorem isDigit_any (c : Nat) (w : World) : Calls Try.prog 41 #[.int .u8 (c : Int)] w fun e w' => e = .returned (.bool (digitB c)) ∧ w = w' := by
  have H : Hid (digitB c = (decide (48 ≤ c) && decide (c ≤ 57))) := rfl
  by_cases h1 : 48 ≤ c
  · have h1' : decide ((48 : Int) ≤ c) = true := by simp; omega
    by_cases h2 : c ≤ 57
    · have h2' : decide ((c : Int) ≤ 57) = true := by simp; omega
      go_enter Try.func41, Try.ntmps41
      go_wp2_with fail
      go_ret
      exact ⟨ret_b (by rw [H.out]; simp [h1, h2]), rfl⟩
    · have h2' : decide ((c : Int) ≤ 57) = false := by simp; omega
      go_enter Try.func41, Try.ntmps41
      go_wp2_with fail
      go_ret
      exact ⟨ret_b (by rw [H.out]; simp [h2]), rfl⟩
  · have h1' : decide ((48 : Int) ≤ c) = false := by simp; omega
    go_enter Try.func41, Try.ntmps41
    go_wp2_with fail
    go_ret
    exact ⟨ret_b (by rw [H.out]; simp [h1]), rfl⟩

theorem nil_eq (l : List UInt8) (h : ¬ l.length = 0) : (l.toArray == #[]) = false := by
  cases l with
  | nil => simp at h
  | cons a r => simp

end Go.Proofs.Yteehccklnidofaa
