/- Contracts of package real's functions, and of the reference's, by words. -/
import Derived.Test.YteehccklnidofaaRows
import Derived.WalkKit
import Derived.WalkSpells
import Derived.WalkLawsBesides
import Derived.Lib.Hide
import Derived.Laws.FloatArith
import Derived.Laws.BitsAllLaws
import Derived.PlainAid
import Derived.Test.YteehccklnidofaaQRealM
namespace Go.Proofs.Yteehccklnidofaa
open Go.RowKit

/-- An int as the word of a float. -/
def wordOf (a : Int) : Nat := (IntKind.u64.wrap a).toNat
theorem wordOf_lt (a : Int) : wordOf a < 18446744073709551616 := by
  unfold wordOf; rw [IntKind.wrap_u64]; omega
theorem wordOf_wrap {b : Nat} (h : b < 18446744073709551616) : wordOf (IntKind.i64.wrap b) = b := by
  unfold wordOf; rw [IntKind.wrap_u64, IntKind.wrap_i64]; omega
theorem wrap_wordOf {a : Int} (h1 : -9223372036854775808 ≤ a) (h2 : a ≤ 9223372036854775807) : IntKind.i64.wrap (wordOf a) = a := by
  unfold wordOf; rw [IntKind.wrap_u64, IntKind.wrap_i64]; omega
/-- The canonical bits of a word, as an int. -/
def canonI (b : Nat) : Int := IntKind.i64.wrap (canonW b)
theorem wordOf_canonI {b : Nat} (h : b < 18446744073709551616) : wordOf (canonI b) = canonW b := wordOf_wrap (canonW_lt h)
theorem ret_flt {a b : Nat} (h : a = b) : Ending.returned (.float .f64 a) = .returned (.float .f64 b) := by rw [h]
theorem ret_i {k : IntKind} {a b : Int} (h : a = b) : Ending.returned (.int k a) = .returned (.int k b) := by rw [h]
theorem ret_b {a b : Bool} (h : a = b) : Ending.returned (.bool a) = .returned (.bool b) := by rw [h]

theorem canon_cases (b : Nat) : (nanB b = true ∧ canonI b = 9221120237041090560) ∨ (nanB b = false ∧ noughtB b = true ∧ canonI b = 0) ∨ (nanB b = false ∧ noughtB b = false ∧ canonI b = wrap64 b) := by
  rw [← PlainAid.i64_is]
  unfold canonI canonW
  cases nanB b <;> cases noughtB b <;> simp <;> decide

/-- The key of an int's float. -/
def keyI (a : Int) : Nat := keyW (canonW (wordOf a))
theorem keyI_lt (a : Int) : keyI a < 18446744073709551616 := keyW_lt (canonW_lt (wordOf_lt a))

theorem toword (a : Int) : IntKind.u64.wrap (canonI (wordOf a)) = (canonW (wordOf a) : Int) := by
  have h1 := wordOf_canonI (wordOf_lt a)
  have h2 : 0 ≤ IntKind.u64.wrap (canonI (wordOf a)) := by rw [IntKind.wrap_u64]; omega
  rw [← h1]
  show _ = ((IntKind.u64.wrap (canonI (wordOf a))).toNat : Int)
  omega

theorem and63_lo {u : Nat} (h : u < 9223372036854775808) : bits .and .u64 (u : Int) 9223372036854775808 = 0 := by
  rw [u64_and _ _ (by omega) (by omega) (by omega) (by omega)]
  have := nat_bit 63 u
  simp only [show (2:Nat) ^ 63 = 9223372036854775808 from rfl] at this
  simp only [Int.toNat_natCast, show (9223372036854775808 : Int).toNat = 9223372036854775808 from rfl, this]
  omega
theorem and63_hi {u : Nat} (h : 9223372036854775808 ≤ u) (h2 : u < 18446744073709551616) : bits .and .u64 (u : Int) 9223372036854775808 = 9223372036854775808 := by
  rw [u64_and _ _ (by omega) (by omega) (by omega) (by omega)]
  have := nat_bit 63 u
  simp only [show (2:Nat) ^ 63 = 9223372036854775808 from rfl] at this
  simp only [Int.toNat_natCast, show (9223372036854775808 : Int).toNat = 9223372036854775808 from rfl, this]
  omega
theorem or63_lo {u : Nat} (h : u < 9223372036854775808) : bits .or .u64 (u : Int) 9223372036854775808 = ((u + 9223372036854775808 : Nat) : Int) := by
  rw [u64_or _ _ (by omega) (by omega) (by omega) (by omega)]
  simp only [Int.toNat_natCast, show (9223372036854775808 : Int).toNat = 9223372036854775808 from rfl]
  rw [Nat.or_comm, nat_join 63 _ _ (by decide) (by omega), Nat.add_comm]
theorem andNot63 {u : Nat} (h : u < 18446744073709551616) : bits .andNot .u64 (u : Int) 9223372036854775808 = ((u % 9223372036854775808 : Nat) : Int) := by
  rw [u64_andNot _ _ (by omega) (by omega) (by omega) (by omega)]
  simp only [Int.toNat_natCast, show (9223372036854775808 : Int).toNat = 9223372036854775808 from rfl]
  have := Nat.and_two_pow_sub_one_eq_mod u 63
  simp only [show (2:Nat) ^ 63 = 9223372036854775808 from rfl] at this
  exact congrArg _ this
theorem u64_max : IntKind.u64.max = 18446744073709551615 := by decide
theorem not64 {u : Nat} (h : u < 18446744073709551616) : bits .xor .u64 IntKind.u64.max (u : Int) = ((18446744073709551615 - u : Nat) : Int) := by
  rw [u64_max, u64_xor _ _ (by omega) (by omega) (by omega) (by omega)]
  simp only [Int.toNat_natCast, show (18446744073709551615 : Int).toNat = 18446744073709551615 from rfl]
  congr 1
  have e : (BitVec.allOnes 64 ^^^ BitVec.ofNat 64 u).toNat = (~~~ BitVec.ofNat 64 u).toNat := by rw [BitVec.allOnes_xor]
  rw [BitVec.toNat_xor, BitVec.toNat_not, BitVec.toNat_allOnes, BitVec.toNat_ofNat, Nat.mod_eq_of_lt (show u < 2 ^ 64 from h)] at e
  exact e

def refLess (b c : Nat) : Bool := !nanB b && (nanB c || lessB b c)
/-- What Back makes of a key before it asks whether that is good. -/
def backW (k : Nat) : Nat := if k < 9223372036854775808 then 18446744073709551615 - k else k - 9223372036854775808
def backI (k : Nat) : Int := wrap64 (backW k)
theorem backW_lt {k : Nat} (h : k < 18446744073709551616) : backW k < 18446744073709551616 := by unfold backW; split <;> omega
theorem wordOf_backI {k : Nat} (h : k < 18446744073709551616) : wordOf (backI k) = backW k := by
  unfold backI; rw [← PlainAid.i64_is]; exact wordOf_wrap (backW_lt h)
theorem backW_keyW {u : Nat} (h : u < 18446744073709551616) : backW (keyW u) = u := by
  unfold backW keyW; split <;> split <;> omega
theorem keyW_backW {k : Nat} (h : k < 18446744073709551616) : keyW (backW k) = k := by
  unfold backW keyW; split <;> split <;> omega
/-- Is there a canonical word with that key? -/
def backGood (k : Nat) : Bool := backI k == canonI (wordOf (backI k))
theorem backGood_iff {k : Nat} (h : k < 18446744073709551616) : backGood k = true ↔ canonW (backW k) = backW k := by
  unfold backGood
  rw [beq_iff_eq, wordOf_backI h]
  constructor
  · intro e
    have := congrArg wordOf e
    rw [wordOf_backI h, wordOf_canonI (backW_lt h)] at this
    exact this.symm
  · intro e
    unfold canonI backI
    rw [e, PlainAid.i64_is]
theorem back_key (a : Int) : backGood (keyI a) = true ∧ backI (keyI a) = canonI (wordOf a) := by
  have hl := canonW_lt (wordOf_lt a)
  have e : backW (keyI a) = canonW (wordOf a) := backW_keyW hl
  refine ⟨(backGood_iff (keyI_lt a)).2 ?_, ?_⟩
  · rw [e, canonW_idem]
  · unfold backI canonI
    rw [e, PlainAid.i64_is]
theorem key_back {k : Nat} (h : k < 18446744073709551616) (hg : backGood k = true) : keyI (backI k) = k ∧ canonI (wordOf (backI k)) = backI k := by
  have e := (backGood_iff h).1 hg
  refine ⟨?_, ?_⟩
  · unfold keyI; rw [wordOf_backI h, e, keyW_backW h]
  · rw [wordOf_backI h]; unfold canonI backI; rw [e, PlainAid.i64_is]
theorem back_none {k : Nat} (h : k < 18446744073709551616) (hg : backGood k = false) (x : Int) (h1 : canonI (wordOf x) = x) (h2 : keyI x = k) : False := by
  have e1 : canonW (wordOf x) = wordOf x := by
    have := congrArg wordOf h1
    rwa [wordOf_canonI (wordOf_lt x)] at this
  have e2 : keyW (wordOf x) = k := by unfold keyI at h2; rwa [e1] at h2
  have e3 : backW k = wordOf x := by rw [← e2]; exact backW_keyW (wordOf_lt x)
  have : backGood k = true := (backGood_iff h).2 (by rw [e3, e1])
  rw [hg] at this; cases this

def backRes (k : Nat) : Value := if backGood k = true then .tuple #[.int .i64 (backI k), .int .i64 0] else .tuple #[.int .i64 0, .int .i64 4]
theorem add_comm64 (x y : Nat) : Ieee.double.add x y = Ieee.double.add y x := by
  unfold Ieee.Format.add
  congr 1
  generalize Ieee.double.read x = d
  generalize Ieee.double.read y = e
  cases d <;> cases e <;> simp only [Ieee.Datum.sum]
  · rename_i s m i t n j
    rw [Int.min_comm, Int.add_comm, Bool.and_comm]
  · rename_i s t
    by_cases h : s = t
    · subst h; rfl
    · rw [if_neg h, if_neg (fun e => h e.symm)]
theorem mul_comm64 (x y : Nat) : Ieee.double.mul x y = Ieee.double.mul y x := by
  unfold Ieee.Format.mul
  congr 1
  generalize Ieee.double.read x = d
  generalize Ieee.double.read y = e
  cases d <;> cases e <;> simp only [Ieee.Datum.product]
  · rename_i s m i t n j
    rw [Bool.xor_comm, Nat.mul_comm, Int.add_comm]
  · rename_i s t
    rw [Bool.xor_comm]
/-- A NaN that the machine chooses. -/
theorem nan_cut (x y t : Nat) : nanB ((Question.nanBits .f64 x y).cut t) = true := by
  unfold nanB Question.cut
  simp only [show (2:Nat) ^ 63 = 9223372036854775808 from rfl, show (2:Nat) ^ 52 - 1 = 4503599627370495 from rfl]
  have h : t / 2 % 4503599627370495 < 4503599627370495 := Nat.mod_lt _ (by omega)
  have h2 : t % 2 = 0 ∨ t % 2 = 1 := by omega
  refine decide_eq_true ?_
  generalize t / 2 % 4503599627370495 = z at h ⊢
  rcases h2 with h2 | h2 <;> rw [h2] <;> omega
theorem canonI_nan {b : Nat} (h : nanB b = true) : canonI b = 9221120237041090560 := by
  unfold canonI canonW; rw [if_pos h]; decide
/-- The canonical bits of what an operation gives. -/
def canonO : Option Nat → Int
  | some r => canonI r
  | none => 9221120237041090560

theorem run_nan (op : BinOp) (h : op = .add ∨ op = .mul) (t : TypeId) (x y : Nat) (hn : floatBits op .f64 x y = none) (w : World) :
    (binOp op t (.float .f64 x) (.float .f64 y)).run Try.prog w = .ok (.float .f64 ((Question.nanBits .f64 x y).cut (w.tape w.drawn (.nanBits .f64 x y)))) w.drew := by
  rcases h with rfl | rfl
  · unfold floatBits at hn
    simp only at hn
    simp [binOp, Op.floatArith, hn, Question.forced]
  · unfold floatBits at hn
    simp only at hn
    simp [binOp, Op.floatArith, hn, Question.forced]

end Go.Proofs.Yteehccklnidofaa
