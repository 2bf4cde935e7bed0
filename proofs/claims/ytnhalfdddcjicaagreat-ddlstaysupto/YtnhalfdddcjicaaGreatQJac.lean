/- Contracts of package real's functions, and of the reference's, by words. -/
/- Plain mathematics of values: which are valid, their order, their keys, what a key is cut into. -/
import Derived.Test.YtnhalfdddcjicaaGreatRows
import Derived.WalkKit
import Derived.WalkSpells
import Derived.WalkLawsBesides
import Derived.Lib.Hide
import Derived.Laws.FloatArith
import Derived.Laws.BitsAllLaws
import Derived.PlainAid
import Derived.Test.YtnhalfdddcjicaaGreatQJab
import Derived.Test.YtnhalfdddcjicaaGreatQJaa
namespace Go.Proofs.YtnhalfdddcjicaaGreat
open Go.RowKit

/-- An int as the word of a float. -/
def wordOf (a : Int) : Nat := (IntKind.u64.wrap a).toNat
theorem wordOf_lt (a : Int) : wordOf a < 18446744073709551616 := by
  unfold wordOf; rw [IntKind.wrap_u64]; omega
theorem wordOf_wrap {b : Nat} (h : b < 18446744073709551616) : wordOf (IntKind.i64.wrap b) = b := by
  unfold wordOf; rw [IntKind.wrap_u64, IntKind.wrap_i64]; omega
theorem wrap_wordOf {a : Int} (h1 : -9223372036854775808 ≤ a) (h2 : a ≤ 9223372036854775807) : IntKind.i64.wrap (wordOf a) = a := by
  unfold wordOf; rw [IntKind.wrap_u64, IntKind.wrap_i64]; omega
/-- The canonical bits of a word, as an int. -/
def canonI (b : Nat) : Int := IntKind.i64.wrap (canonW b)
theorem wordOf_canonI {b : Nat} (h : b < 18446744073709551616) : wordOf (canonI b) = canonW b := wordOf_wrap (canonW_lt h)
theorem ret_flt {a b : Nat} (h : a = b) : Ending.returned (.float .f64 a) = .returned (.float .f64 b) := by rw [h]
theorem ret_i {k : IntKind} {a b : Int} (h : a = b) : Ending.returned (.int k a) = .returned (.int k b) := by rw [h]
theorem ret_b {a b : Bool} (h : a = b) : Ending.returned (.bool a) = .returned (.bool b) := by rw [h]

theorem frombits (n : Int) (w : World) : (callFunc 139 #[.int .u64 n]).run Tryz.prog w = .ok (.value (.float .f64 n.toNat)) w := by
  rw [run_callFunc_extern Tryz.func139 (by kernel_rfl) (by kernel_rfl) (by kernel_rfl) (e := Extern.MathFloatBits.float64frombits) (by rfl)]
  rfl
theorem tobits (b : Nat) (w : World) : (callFunc 138 #[.float .f64 b]).run Tryz.prog w = .ok (.value (.int .u64 b)) w := by
  rw [run_callFunc_extern Tryz.func138 (by kernel_rfl) (by kernel_rfl) (by kernel_rfl) (e := Extern.MathFloatBits.float64bits) (by rfl)]
  rfl

set_option maxHeartbeats 400000 in
theorem isNaN_any (b : Nat) (w : World) :
    Calls Tryz.prog 137 #[.float .f64 b] w fun e w' => e = .returned (.bool (nanB b)) ∧ w = w' := by
  go_enter Tryz.func137, Tryz.ntmps137
  go_wp2
  go_ret
  exact ⟨ret_b (neq_self b), rfl⟩

set_option maxHeartbeats 400000 in
theorem of_any (a : Int) (w : World) :
    Calls Tryz.prog 144 #[.int .i64 a] w fun e w' => e = .returned (.float .f64 (wordOf a)) ∧ w = w' := by
  have hf := frombits
  go_enter Tryz.func144, Tryz.ntmps144
  go_wp2
  go_ret
  exact ⟨rfl, rfl⟩

set_option maxHeartbeats 400000 in
theorem refOf_any (a : Int) (w : World) :
    Calls Tryz.prog 126 #[.int .i64 a] w fun e w' => e = .returned (.float .f64 (wordOf a)) ∧ w = w' := by
  have hf := frombits
  go_enter Tryz.func126, Tryz.ntmps126
  go_wp2
  go_ret
  exact ⟨rfl, rfl⟩

theorem canon_cases (b : Nat) : (nanB b = true ∧ canonI b = 9221120237041090560) ∨ (nanB b = false ∧ noughtB b = true ∧ canonI b = 0) ∨ (nanB b = false ∧ noughtB b = false ∧ canonI b = wrap64 b) := by
  rw [← PlainAid.i64_is]
  unfold canonI canonW
  cases nanB b <;> cases noughtB b <;> simp <;> decide

set_option maxHeartbeats 800000 in
theorem canon_any (b : Nat) (w : World) :
    Calls Tryz.prog 143 #[.float .f64 b] w fun e w' => e = .returned (.int .i64 (canonI b)) ∧ w = w' := by
  have hf := tobits
  rcases canon_cases b with ⟨h1, h⟩ | ⟨h1, h2, h⟩ | ⟨h1, h2, h⟩
  · have H := Lib.hid h; clear h
    go_enter Tryz.func143, Tryz.ntmps143
    go_wp2_with (go_at_call 137; refine (isNaN_any _ _).mono ?_; rintro e w' ⟨rfl, rfl⟩)
    go_ret
    exact ⟨ret_i H.out.symm, rfl⟩
  · have H := Lib.hid h; clear h
    have e2 : (FloatKind.f64.format.order b 0 == some .eq) = true := by rw [← h2]; exact eq_nought h1
    go_enter Tryz.func143, Tryz.ntmps143
    go_wp2_with (go_at_call 137; refine (isNaN_any _ _).mono ?_; rintro e w' ⟨rfl, rfl⟩)
    go_ret
    exact ⟨ret_i H.out.symm, rfl⟩
  · have H := Lib.hid h; clear h
    have e2 : (FloatKind.f64.format.order b 0 == some .eq) = false := by rw [← h2]; exact eq_nought h1
    go_enter Tryz.func143, Tryz.ntmps143
    go_wp2_with (go_at_call 137; refine (isNaN_any _ _).mono ?_; rintro e w' ⟨rfl, rfl⟩)
    go_ret
    exact ⟨ret_i H.out.symm, rfl⟩

set_option maxHeartbeats 800000 in
theorem refKept_any (b : Nat) (w : World) :
    Calls Tryz.prog 125 #[.float .f64 b] w fun e w' => e = .returned (.int .i64 (canonI b)) ∧ w = w' := by
  have hf := tobits
  rcases canon_cases b with ⟨h1, h⟩ | ⟨h1, h2, h⟩ | ⟨h1, h2, h⟩
  · have H := Lib.hid h; clear h
    go_enter Tryz.func125, Tryz.ntmps125
    go_wp2_with (go_at_call 137; refine (isNaN_any _ _).mono ?_; rintro e w' ⟨rfl, rfl⟩)
    go_ret
    exact ⟨ret_i H.out.symm, rfl⟩
  · have H := Lib.hid h; clear h
    have e2 : (FloatKind.f64.format.order b 0 == some .eq) = true := by rw [← h2]; exact eq_nought h1
    go_enter Tryz.func125, Tryz.ntmps125
    go_wp2_with (go_at_call 137; refine (isNaN_any _ _).mono ?_; rintro e w' ⟨rfl, rfl⟩)
    go_ret
    exact ⟨ret_i H.out.symm, rfl⟩
  · have H := Lib.hid h; clear h
    have e2 : (FloatKind.f64.format.order b 0 == some .eq) = false := by rw [← h2]; exact eq_nought h1
    go_enter Tryz.func125, Tryz.ntmps125
    go_wp2_with (go_at_call 137; refine (isNaN_any _ _).mono ?_; rintro e w' ⟨rfl, rfl⟩)
    go_ret
    exact ⟨ret_i H.out.symm, rfl⟩

set_option maxHeartbeats 400000 in
theorem canonBits_any (a : Int) (w : World) :
    Calls Tryz.prog 142 #[.int .i64 a] w fun e w' => e = .returned (.int .i64 (canonI (wordOf a))) ∧ w = w' := by
  go_enter Tryz.func142, Tryz.ntmps142
  go_wp2_with (first | (go_at_call 144; refine (of_any _ _).mono ?_; rintro e w' ⟨rfl, rfl⟩) | (go_at_call 143; refine (canon_any _ _).mono ?_; rintro e w' ⟨rfl, rfl⟩))
  go_ret
  exact ⟨rfl, rfl⟩

set_option maxHeartbeats 400000 in
theorem good_any (a : Int) (w : World) :
    Calls Tryz.prog 140 #[.int .i64 a] w fun e w' => e = .returned (.bool (a == canonI (wordOf a))) ∧ w = w' := by
  go_enter Tryz.func140, Tryz.ntmps140
  go_wp2_with (go_at_call 142; refine (canonBits_any _ _).mono ?_; rintro e w' ⟨rfl, rfl⟩)
  go_ret
  exact ⟨rfl, rfl⟩

/-- The key of an int's float. -/
def keyI (a : Int) : Nat := keyW (canonW (wordOf a))
theorem keyI_lt (a : Int) : keyI a < 18446744073709551616 := keyW_lt (canonW_lt (wordOf_lt a))

theorem toword (a : Int) : IntKind.u64.wrap (canonI (wordOf a)) = (canonW (wordOf a) : Int) := by
  have h1 := wordOf_canonI (wordOf_lt a)
  have h2 : 0 ≤ IntKind.u64.wrap (canonI (wordOf a)) := by rw [IntKind.wrap_u64]; omega
  rw [← h1]
  show _ = ((IntKind.u64.wrap (canonI (wordOf a))).toNat : Int)
  omega

theorem and63_lo {u : Nat} (h : u < 9223372036854775808) : bits .and .u64 (u : Int) 9223372036854775808 = 0 := by
  rw [u64_and _ _ (by omega) (by omega) (by omega) (by omega)]
  have := nat_bit 63 u
  simp only [show (2:Nat) ^ 63 = 9223372036854775808 from rfl] at this
  simp only [Int.toNat_natCast, show (9223372036854775808 : Int).toNat = 9223372036854775808 from rfl, this]
  omega
theorem and63_hi {u : Nat} (h : 9223372036854775808 ≤ u) (h2 : u < 18446744073709551616) : bits .and .u64 (u : Int) 9223372036854775808 = 9223372036854775808 := by
  rw [u64_and _ _ (by omega) (by omega) (by omega) (by omega)]
  have := nat_bit 63 u
  simp only [show (2:Nat) ^ 63 = 9223372036854775808 from rfl] at this
  simp only [Int.toNat_natCast, show (9223372036854775808 : Int).toNat = 9223372036854775808 from rfl, this]
  omega
theorem or63_lo {u : Nat} (h : u < 9223372036854775808) : bits .or .u64 (u : Int) 9223372036854775808 = ((u + 9223372036854775808 : Nat) : Int) := by
  rw [u64_or _ _ (by omega) (by omega) (by omega) (by omega)]
  simp only [Int.toNat_natCast, show (9223372036854775808 : Int).toNat = 9223372036854775808 from rfl]
  rw [Nat.or_comm, nat_join 63 _ _ (by decide) (by omega), Nat.add_comm]
theorem andNot63 {u : Nat} (h : u < 18446744073709551616) : bits .andNot .u64 (u : Int) 9223372036854775808 = ((u % 9223372036854775808 : Nat) : Int) := by
  rw [u64_andNot _ _ (by omega) (by omega) (by omega) (by omega)]
  simp only [Int.toNat_natCast, show (9223372036854775808 : Int).toNat = 9223372036854775808 from rfl]
  have := Nat.and_two_pow_sub_one_eq_mod u 63
  simp only [show (2:Nat) ^ 63 = 9223372036854775808 from rfl] at this
  exact congrArg _ this
theorem u64_max : IntKind.u64.max = 18446744073709551615 := by decide
theorem not64 {u : Nat} (h : u < 18446744073709551616) : bits .xor .u64 IntKind.u64.max (u : Int) = ((18446744073709551615 - u : Nat) : Int) := by
  rw [u64_max, u64_xor _ _ (by omega) (by omega) (by omega) (by omega)]
  simp only [Int.toNat_natCast, show (18446744073709551615 : Int).toNat = 18446744073709551615 from rfl]
  congr 1
  have e : (BitVec.allOnes 64 ^^^ BitVec.ofNat 64 u).toNat = (~~~ BitVec.ofNat 64 u).toNat := by rw [BitVec.allOnes_xor]
  rw [BitVec.toNat_xor, BitVec.toNat_not, BitVec.toNat_allOnes, BitVec.toNat_ofNat, Nat.mod_eq_of_lt (show u < 2 ^ 64 from h)] at e
  exact e

def refLess (b c : Nat) : Bool := !nanB b && (nanB c || lessB b c)
/-- What Back makes of a key before it asks whether that is good. -/
def backW (k : Nat) : Nat := if k < 9223372036854775808 then 18446744073709551615 - k else k - 9223372036854775808
def backI (k : Nat) : Int := wrap64 (backW k)
theorem backW_lt {k : Nat} (h : k < 18446744073709551616) : backW k < 18446744073709551616 := by unfold backW; split <;> omega
theorem wordOf_backI {k : Nat} (h : k < 18446744073709551616) : wordOf (backI k) = backW k := by
  unfold backI; rw [← PlainAid.i64_is]; exact wordOf_wrap (backW_lt h)
theorem backW_keyW {u : Nat} (h : u < 18446744073709551616) : backW (keyW u) = u := by
  unfold backW keyW; split <;> split <;> omega
theorem keyW_backW {k : Nat} (h : k < 18446744073709551616) : keyW (backW k) = k := by
  unfold backW keyW; split <;> split <;> omega
/-- Is there a canonical word with that key? -/
def backGood (k : Nat) : Bool := backI k == canonI (wordOf (backI k))
theorem backGood_iff {k : Nat} (h : k < 18446744073709551616) : backGood k = true ↔ canonW (backW k) = backW k := by
  unfold backGood
  rw [beq_iff_eq, wordOf_backI h]
  constructor
  · intro e
    have := congrArg wordOf e
    rw [wordOf_backI h, wordOf_canonI (backW_lt h)] at this
    exact this.symm
  · intro e
    unfold canonI backI
    rw [e, PlainAid.i64_is]
theorem back_key (a : Int) : backGood (keyI a) = true ∧ backI (keyI a) = canonI (wordOf a) := by
  have hl := canonW_lt (wordOf_lt a)
  have e : backW (keyI a) = canonW (wordOf a) := backW_keyW hl
  refine ⟨(backGood_iff (keyI_lt a)).2 ?_, ?_⟩
  · rw [e, canonW_idem]
  · unfold backI canonI
    rw [e, PlainAid.i64_is]
theorem key_back {k : Nat} (h : k < 18446744073709551616) (hg : backGood k = true) : keyI (backI k) = k ∧ canonI (wordOf (backI k)) = backI k := by
  have e := (backGood_iff h).1 hg
  refine ⟨?_, ?_⟩
  · unfold keyI; rw [wordOf_backI h, e, keyW_backW h]
  · rw [wordOf_backI h]; unfold canonI backI; rw [e, PlainAid.i64_is]
theorem back_none {k : Nat} (h : k < 18446744073709551616) (hg : backGood k = false) (x : Int) (h1 : canonI (wordOf x) = x) (h2 : keyI x = k) : False := by
  have e1 : canonW (wordOf x) = wordOf x := by
    have := congrArg wordOf h1
    rwa [wordOf_canonI (wordOf_lt x)] at this
  have e2 : keyW (wordOf x) = k := by unfold keyI at h2; rwa [e1] at h2
  have e3 : backW k = wordOf x := by rw [← e2]; exact backW_keyW (wordOf_lt x)
  have : backGood k = true := (backGood_iff h).2 (by rw [e3, e1])
  rw [hg] at this; cases this

def backRes (k : Nat) : Value := if backGood k = true then .tuple #[.int .i64 (backI k), .int .i64 0] else .tuple #[.int .i64 0, .int .i64 4]
theorem add_comm64 (x y : Nat) : Ieee.double.add x y = Ieee.double.add y x := by
  unfold Ieee.Format.add
  congr 1
  generalize Ieee.double.read x = d
  generalize Ieee.double.read y = e
  cases d <;> cases e <;> simp only [Ieee.Datum.sum]
  · rename_i s m i t n j
    rw [Int.min_comm, Int.add_comm, Bool.and_comm]
  · rename_i s t
    by_cases h : s = t
    · subst h; rfl
    · rw [if_neg h, if_neg (fun e => h e.symm)]
theorem mul_comm64 (x y : Nat) : Ieee.double.mul x y = Ieee.double.mul y x := by
  unfold Ieee.Format.mul
  congr 1
  generalize Ieee.double.read x = d
  generalize Ieee.double.read y = e
  cases d <;> cases e <;> simp only [Ieee.Datum.product]
  · rename_i s m i t n j
    rw [Bool.xor_comm, Nat.mul_comm, Int.add_comm]
  · rename_i s t
    rw [Bool.xor_comm]
/-- A NaN that the machine chooses. -/
theorem nan_cut (x y t : Nat) : nanB ((Question.nanBits .f64 x y).cut t) = true := by
  unfold nanB Question.cut
  simp only [show (2:Nat) ^ 63 = 9223372036854775808 from rfl, show (2:Nat) ^ 52 - 1 = 4503599627370495 from rfl]
  have h : t / 2 % 4503599627370495 < 4503599627370495 := Nat.mod_lt _ (by omega)
  have h2 : t % 2 = 0 ∨ t % 2 = 1 := by omega
  refine decide_eq_true ?_
  generalize t / 2 % 4503599627370495 = z at h ⊢
  rcases h2 with h2 | h2 <;> rw [h2] <;> omega
theorem canonI_nan {b : Nat} (h : nanB b = true) : canonI b = 9221120237041090560 := by
  unfold canonI canonW; rw [if_pos h]; decide
/-- The canonical bits of what an operation gives. -/
def canonO : Option Nat → Int
  | some r => canonI r
  | none => 9221120237041090560

theorem run_nan (op : BinOp) (h : op = .add ∨ op = .mul) (t : TypeId) (x y : Nat) (hn : floatBits op .f64 x y = none) (w : World) :
    (binOp op t (.float .f64 x) (.float .f64 y)).run Tryz.prog w = .ok (.float .f64 ((Question.nanBits .f64 x y).cut (w.tape w.drawn (.nanBits .f64 x y)))) w.drew := by
  rcases h with rfl | rfl
  · unfold floatBits at hn
    simp only at hn
    simp [binOp, Op.floatArith, hn, Question.forced]
  · unfold floatBits at hn
    simp only at hn
    simp [binOp, Op.floatArith, hn, Question.forced]

end Go.Proofs.YtnhalfdddcjicaaGreat

namespace Go.Proofs.YtnhalfdddcjicaaGreat
open Go.Op (bytesLess)
open Go.RowKit

/-- A value: its kind, its number, its text. -/
structure Vl where
  kind : Int
  num : Int
  text : List UInt8
deriving DecidableEq
def Vl.val (v : Vl) : Value := .agg #[.int .i64 v.kind, .int .i64 v.num, .string ⟨v.text.toArray⟩]
instance : Inhabited Vl := ⟨⟨0, 0, []⟩⟩
structure Vl.Ok (v : Vl) : Prop where
  kind : I64 v.kind
  num : I64 v.num
  text : v.text.length ≤ maxLen

def goodV (v : Vl) : Bool := decide ((v.kind = 0 ∧ v.num = 0 ∧ v.text = []) ∨ (v.kind = 1 ∧ v.text = []) ∨ (v.kind = 2 ∧ v.text = [] ∧ canonI (wordOf v.num) = v.num) ∨ (v.kind = 3 ∧ v.num = 0 ∧ v.text.length ≤ 24))
theorem goodV_iff (v : Vl) : goodV v = true ↔ (v.kind = 0 ∧ v.num = 0 ∧ v.text = []) ∨ (v.kind = 1 ∧ v.text = []) ∨ (v.kind = 2 ∧ v.text = [] ∧ canonI (wordOf v.num) = v.num) ∨ (v.kind = 3 ∧ v.num = 0 ∧ v.text.length ≤ 24) := decide_eq_true_iff

/-- The number's word with its sign turned. -/
def turned (n : Int) : Nat := (n + 9223372036854775808).toNat
theorem turned_lt {n : Int} (h : I64 n) : turned n < 18446744073709551616 := by unfold turned; unfold I64 at h; omega

def keyV (v : Vl) : List UInt8 :=
  if goodV v = false then [] else if v.kind = 1 then 1 :: bigE 8 (turned v.num) else if v.kind = 2 then 2 :: bigE 8 (keyI v.num) else if v.kind = 3 then 3 :: (esc v.text ++ [0, 0]) else [0]

def lessV (a b : Vl) : Bool :=
  if a.kind ≠ b.kind then decide (a.kind < b.kind) else if a.kind = 1 then decide (a.num < b.num) else if a.kind = 2 then decide (cmpI (keyI a.num) (keyI b.num) < 0) else bytesLess a.text b.text
def cmpV (a b : Vl) : Int := if lessV a b = true then -1 else if lessV b a = true then 1 else 0
theorem cmpV_neg (a b : Vl) : decide (cmpV a b < 0) = lessV a b := by
  unfold cmpV; cases lessV a b <;> cases lessV b a <;> rfl

theorem keyI_inj {a b : Int} (ha : canonI (wordOf a) = a) (hb : canonI (wordOf b) = b) (h : keyI a = keyI b) : a = b := by
  have h1 := (back_key a).2
  have h2 := (back_key b).2
  rw [h, h2, ha, hb] at h1
  exact h1.symm

theorem keyV_null {v : Vl} (h : v.kind = 0) (g : goodV v = true) : keyV v = [0] := by
  unfold keyV; rw [if_neg (by rw [g]; decide), if_neg (by omega), if_neg (by omega), if_neg (by omega)]
theorem keyV_int {v : Vl} (h : v.kind = 1) (g : goodV v = true) : keyV v = 1 :: bigE 8 (turned v.num) := by
  unfold keyV; rw [if_neg (by rw [g]; decide), if_pos h]
theorem keyV_float {v : Vl} (h : v.kind = 2) (g : goodV v = true) : keyV v = 2 :: bigE 8 (keyI v.num) := by
  unfold keyV; rw [if_neg (by rw [g]; decide), if_neg (by omega), if_pos h]
theorem keyV_text {v : Vl} (h : v.kind = 3) (g : goodV v = true) : keyV v = 3 :: (esc v.text ++ [0, 0]) := by
  unfold keyV; rw [if_neg (by rw [g]; decide), if_neg (by omega), if_neg (by omega), if_pos h]
theorem keyV_bad {v : Vl} (g : goodV v = false) : keyV v = [] := by unfold keyV; rw [if_pos g]

/-- A valid value's key begins with its kind. -/
theorem keyV_head {v : Vl} (g : goodV v = true) : ∃ k r, keyV v = k :: r ∧ (k.toNat : Int) = v.kind := by
  rcases (goodV_iff v).1 g with ⟨h, _⟩ | ⟨h, _⟩ | ⟨h, _⟩ | ⟨h, _⟩
  · exact ⟨0, _, keyV_null h g, by rw [h]; rfl⟩
  · exact ⟨1, _, keyV_int h g, by rw [h]; rfl⟩
  · exact ⟨2, _, keyV_float h g, by rw [h]; rfl⟩
  · exact ⟨3, _, keyV_text h g, by rw [h]; rfl⟩

theorem big_less {u v : Nat} (hu : u < 18446744073709551616) (hv : v < 18446744073709551616) (h : u ≠ v) (r s : List UInt8) : bytesLess (bigE 8 u ++ r) (bigE 8 v ++ s) = decide (u < v) := by
  have e : (256 : Nat) ^ 8 = 18446744073709551616 := by decide
  rw [bigE_less, e, Nat.mod_eq_of_lt hu, Nat.mod_eq_of_lt hv]
  by_cases h1 : u < v
  · rw [if_pos h1, decide_eq_true h1]
  · rw [if_neg h1, if_pos (by omega), decide_eq_false h1]

theorem Vl.ext' {a b : Vl} (h1 : a.kind = b.kind) (h2 : a.num = b.num) (h3 : a.text = b.text) : a = b := by
  cases a; cases b; simp_all

theorem key_less {a b : Vl} (ga : goodV a = true) (gb : goodV b = true) (ha : I64 a.num) (hb : I64 b.num) (hne : a ≠ b) : bytesLess (keyV a) (keyV b) = lessV a b := by
  unfold lessV
  by_cases hk : a.kind = b.kind
  · rw [if_neg (by simpa using hk)]
    have oa := (goodV_iff a).1 ga
    have ob := (goodV_iff b).1 gb
    by_cases h0 : a.kind = 0
    · exfalso
      apply hne
      rcases oa with ⟨_, a1, a2⟩ | ⟨h, _⟩ | ⟨h, _⟩ | ⟨h, _⟩ <;> first | omega | skip
      rcases ob with ⟨_, b1, b2⟩ | ⟨h, _⟩ | ⟨h, _⟩ | ⟨h, _⟩ <;> first | omega | skip
      exact Vl.ext' hk (by omega) (by rw [a2, b2])
    by_cases h1 : a.kind = 1
    · have ta : a.text = [] := by rcases oa with ⟨h, _⟩ | ⟨_, h⟩ | ⟨h, _⟩ | ⟨h, _⟩ <;> first | omega | exact h
      have tb : b.text = [] := by rcases ob with ⟨h, _⟩ | ⟨_, h⟩ | ⟨h, _⟩ | ⟨h, _⟩ <;> first | omega | exact h
      have hn : a.num ≠ b.num := fun e => hne (Vl.ext' hk e (by rw [ta, tb]))
      have h2 : turned a.num ≠ turned b.num := by unfold turned; unfold I64 at ha hb; omega
      have := big_less (turned_lt ha) (turned_lt hb) h2 [] []
      rw [List.append_nil, List.append_nil] at this
      rw [if_pos h1, keyV_int h1 ga, keyV_int (by omega) gb, less_same, this]
      unfold turned; unfold I64 at ha hb
      simp only [decide_eq_decide]
      omega
    by_cases h2 : a.kind = 2
    · have ta : a.text = [] ∧ canonI (wordOf a.num) = a.num := by rcases oa with ⟨h, _⟩ | ⟨h, _⟩ | ⟨_, h⟩ | ⟨h, _⟩ <;> first | omega | exact h
      have tb : b.text = [] ∧ canonI (wordOf b.num) = b.num := by rcases ob with ⟨h, _⟩ | ⟨h, _⟩ | ⟨_, h⟩ | ⟨h, _⟩ <;> first | omega | exact h
      have hn : keyI a.num ≠ keyI b.num := fun e => hne (Vl.ext' hk (keyI_inj ta.2 tb.2 e) (by rw [ta.1, tb.1]))
      have := big_less (keyI_lt a.num) (keyI_lt b.num) hn [] []
      rw [List.append_nil, List.append_nil] at this
      rw [if_neg h1, if_pos h2, keyV_float h2 ga, keyV_float (by omega) gb, less_same, this]
      unfold cmpI
      by_cases h3 : keyI a.num < keyI b.num
      · rw [if_pos h3, decide_eq_true h3]; rfl
      · rw [if_neg h3, if_pos (by omega), decide_eq_false h3]; rfl
    · have h3 : a.kind = 3 := by rcases oa with ⟨h, _⟩ | ⟨h, _⟩ | ⟨h, _⟩ | ⟨h, _⟩ <;> omega
      have ta : a.num = 0 := by rcases oa with ⟨h, _⟩ | ⟨h, _⟩ | ⟨h, _⟩ | ⟨_, h, _⟩ <;> omega
      have tb : b.num = 0 := by rcases ob with ⟨h, _⟩ | ⟨h, _⟩ | ⟨h, _⟩ | ⟨_, h, _⟩ <;> omega
      have hn : a.text ≠ b.text := fun e => hne (Vl.ext' hk (by rw [ta, tb]) e)
      rw [if_neg h1, if_neg h2, keyV_text h3 ga, keyV_text (by omega) gb, less_same]
      exact esc_less _ _ _ _ hn
  · rw [if_pos hk]
    obtain ⟨x, r, e1, e2⟩ := keyV_head ga
    obtain ⟨y, s, e3, e4⟩ := keyV_head gb
    rw [e1, e3]
    by_cases h : a.kind < b.kind
    · rw [less_lt (by omega), decide_eq_true h]
    · rw [less_gt (by omega), decide_eq_false h]

/-- What bytes are cut into. -/
def cutV : List UInt8 → Option (Vl × List UInt8)
  | [] => none
  | k :: r =>
    if k = 0 then some (⟨0, 0, []⟩, r) else
    if k = 1 then (if r.length < 8 then none else some (⟨1, (ofBig (r.take 8) : Int) - 9223372036854775808, []⟩, r.drop 8)) else
    if k = 2 then (if r.length < 8 then none else if backGood (ofBig (r.take 8)) = true then some (⟨2, backI (ofBig (r.take 8)), []⟩, r.drop 8) else none) else
    if k = 3 then (match cutT [] r with | some (t, q) => some (⟨3, 0, t⟩, q) | none => none) else none

theorem take8 (u : Nat) (s : List UInt8) : (bigE 8 u ++ s).take 8 = bigE 8 u := by
  have := bigE_len 8 u
  rw [List.take_append_of_le_length (by omega), List.take_of_length_le (by omega)]
theorem drop8 (u : Nat) (s : List UInt8) : (bigE 8 u ++ s).drop 8 = s := by
  have := bigE_len 8 u
  rw [List.drop_append_of_le_length (by omega), List.drop_of_length_le (by omega), List.nil_append]
theorem ofBig8 {u : Nat} (h : u < 18446744073709551616) : ofBig (bigE 8 u) = u := by
  rw [ofBig_bigE, show (256 : Nat) ^ 8 = 18446744073709551616 by decide, Nat.mod_eq_of_lt h]
theorem ofBig8_lt {r : List UInt8} (h : ¬ r.length < 8) : ofBig (r.take 8) < 18446744073709551616 := by
  have := ofBig_lt (r.take 8)
  rwa [List.length_take, show min 8 r.length = 8 by omega, show (256 : Nat) ^ 8 = 18446744073709551616 by decide] at this
theorem bigE8 {r : List UInt8} (h : ¬ r.length < 8) : bigE 8 (ofBig (r.take 8)) ++ r.drop 8 = r := by
  have := bigE_ofBig (r.take 8)
  rw [List.length_take, show min 8 r.length = 8 by omega] at this
  rw [this, List.take_append_drop]

theorem cut_key {v : Vl} (g : goodV v = true) (hn : I64 v.num) (s : List UInt8) : cutV (keyV v ++ s) = some (v, s) := by
  rcases (goodV_iff v).1 g with ⟨h, h1, h2⟩ | ⟨h, h1⟩ | ⟨h, h1, h2⟩ | ⟨h, h1, h2⟩
  · rw [keyV_null h g]
    show some ((⟨0, 0, []⟩ : Vl), s) = _
    rw [Vl.ext' (a := ⟨0, 0, []⟩) (b := v) h.symm h1.symm h2.symm]
  · rw [keyV_int h g, List.cons_append, cutV, if_neg (by decide), if_pos rfl, if_neg (by rw [List.length_append, bigE_len]; omega), take8, drop8, ofBig8 (turned_lt hn)]
    rw [Vl.ext' (a := ⟨1, (turned v.num : Int) - 9223372036854775808, []⟩) (b := v) h.symm (by show (turned v.num : Int) - 9223372036854775808 = v.num; unfold turned; unfold I64 at hn; omega) h1.symm]
  · obtain ⟨b1, b2⟩ := back_key v.num
    rw [keyV_float h g, List.cons_append, cutV, if_neg (by decide), if_neg (by decide), if_pos rfl, if_neg (by rw [List.length_append, bigE_len]; omega), take8, drop8, ofBig8 (keyI_lt _), if_pos b1, b2, h2]
    rw [Vl.ext' (a := ⟨2, v.num, []⟩) (b := v) h.symm rfl h1.symm]
  · have := cutT_esc v.text [] s
    rw [keyV_text h g, List.cons_append, cutV, if_neg (by decide), if_neg (by decide), if_neg (by decide), if_pos rfl, List.append_assoc, List.cons_append, List.cons_append, List.nil_append, this, if_pos (by simpa using h2)]
    show some ((⟨3, 0, v.text⟩ : Vl), s) = _
    rw [Vl.ext' (a := ⟨3, 0, v.text⟩) (b := v) h.symm h1.symm rfl]

theorem backI_i64 (k : Nat) : I64 (backI k) := by unfold backI I64 wrap64; omega
theorem cut_some {s r : List UInt8} {v : Vl} (h : cutV s = some (v, r)) : goodV v = true ∧ keyV v ++ r = s ∧ I64 v.num := by
  cases s with
  | nil => simp [cutV] at h
  | cons k q =>
    rw [cutV] at h
    by_cases h0 : k = 0
    · rw [if_pos h0] at h
      injection h with h
      injection h with h1 h2
      subst h1 h2 h0
      exact ⟨by decide, by rw [keyV_null rfl (by decide)]; rfl, by unfold I64; decide⟩
    rw [if_neg h0] at h
    by_cases h1 : k = 1
    · rw [if_pos h1] at h
      by_cases hl : q.length < 8
      · rw [if_pos hl] at h; cases h
      rw [if_neg hl] at h
      have hb := ofBig8_lt hl
      have he := bigE8 hl
      generalize ofBig (q.take 8) = u at *
      injection h with h
      injection h with h2 h3
      subst h2 h3 h1
      have g : goodV ⟨1, (u : Int) - 9223372036854775808, []⟩ = true := (goodV_iff _).2 (.inr (.inl ⟨rfl, rfl⟩))
      have ht : turned ((u : Int) - 9223372036854775808) = u := by unfold turned; omega
      refine ⟨g, ?_, by show I64 ((u : Int) - 9223372036854775808); unfold I64; omega⟩
      rw [keyV_int rfl g]
      show 1 :: (bigE 8 (turned ((u : Int) - 9223372036854775808)) ++ _) = _
      rw [ht, he]
    rw [if_neg h1] at h
    by_cases h2 : k = 2
    · rw [if_pos h2] at h
      by_cases hl : q.length < 8
      · rw [if_pos hl] at h; cases h
      rw [if_neg hl] at h
      have hb := ofBig8_lt hl
      have he := bigE8 hl
      generalize ofBig (q.take 8) = u at *
      by_cases hg : backGood u = true
      · rw [if_pos hg] at h
        obtain ⟨k1, k2⟩ := key_back hb hg
        injection h with h
        injection h with h3 h4
        subst h3 h4 h2
        have g : goodV ⟨2, backI u, []⟩ = true := (goodV_iff _).2 (.inr (.inr (.inl ⟨rfl, rfl, k2⟩)))
        refine ⟨g, ?_, backI_i64 u⟩
        rw [keyV_float rfl g]
        show 2 :: (bigE 8 (keyI (backI u)) ++ _) = _
        rw [k1, he]
      · rw [if_neg hg] at h; cases h
    rw [if_neg h2] at h
    by_cases h3 : k = 3
    · rw [if_pos h3] at h
      cases hc : cutT [] q with
      | none => rw [hc] at h; cases h
      | some x =>
        obtain ⟨t, z⟩ := x
        rw [hc] at h
        injection h with h
        injection h with h4 h5
        subst h4 h5 h3
        obtain ⟨x, e1, e2, e3⟩ := cutT_some q [] t z hc
        rw [List.nil_append] at e1
        subst e1
        have g : goodV ⟨3, 0, t⟩ = true := (goodV_iff _).2 (.inr (.inr (.inr ⟨rfl, rfl, e3⟩)))
        refine ⟨g, ?_, by show I64 0; unfold I64; decide⟩
        rw [keyV_text rfl g, e2]
        simp
    · rw [if_neg h3] at h; cases h

/-- No key begins with another one's. -/
theorem key_apart {a b : Vl} (ga : goodV a = true) (gb : goodV b = true) (ha : I64 a.num) (hb : I64 b.num) {t : List UInt8} (h : keyV b = keyV a ++ t) : a = b := by
  have e1 := cut_key ga ha t
  have e2 := cut_key gb hb []
  rw [List.append_nil, h, e1] at e2
  injection e2 with e2
  injection e2
theorem esc_len2 (v : Vl) : (keyV v).length ≤ 60 := by
  unfold keyV
  split
  · simp
  split
  · simp [bigE_len]
  split
  · simp [bigE_len]
  split
  · rename_i h _ _ h3
    have g : goodV v = true := by cases hg : goodV v <;> simp_all
    have := esc_len v.text
    rcases (goodV_iff v).1 g with ⟨h, _⟩ | ⟨h, _⟩ | ⟨h, _⟩ | ⟨_, _, h⟩ <;> first | omega | skip
    simp
    omega
  · simp
end Go.Proofs.YtnhalfdddcjicaaGreat
