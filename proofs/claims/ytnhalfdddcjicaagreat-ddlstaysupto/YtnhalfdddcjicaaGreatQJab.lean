/- The walks of package pack's Reader. -/
/- Plain mathematics of keys: numbers as bytes, most significant first; texts with their zeros marked; their order, their beginnings. No program is named here. -/
/- Plain mathematics of 64-bit floats, by their words: which are NaN, which are nought, how they stand to each other; canonical words and keys. No program is named here. -/
import Derived.Test.YtnhalfdddcjicaaGreatQJaa
import Derived.Below
import Derived.Lib.Varint
import Derived.Lib.VarintMem
import Ieee.Arith
import GoSem.Core.Float
namespace Go.Proofs.YtnhalfdddcjicaaGreat
open Go.RowKit

theorem grp_ok : ∀ (l : List UInt8) (i acc u k : Nat), i ≤ 10 → acc < 2 ^ (7 * i) → grp i acc l = some (u, k) → i < k ∧ k ≤ i + l.length ∧ U64 u
  | [], i, acc, u, k, _, _, h => by simp [grp] at h
  | b :: r, i, acc, u, k, hi10, ha, h => by
    rw [grp] at h
    by_cases h10 : i = 10
    · rw [if_pos h10] at h; cases h
    rw [if_neg h10] at h
    by_cases h9 : i = 9 ∧ 1 < b.toNat
    · rw [if_pos h9] at h; cases h
    rw [if_neg h9] at h
    by_cases hb : b.toNat < 128
    · rw [if_pos hb] at h
      by_cases h0 : b.toNat = 0 ∧ 0 < i
      · rw [if_pos h0] at h; cases h
      rw [if_neg h0] at h
      injection h with h
      injection h with h1 h2
      subst h1; subst h2
      refine ⟨by omega, by simp, ?_⟩
      unfold U64
      by_cases hi : i ≤ 8
      · have h3 := acc_more i acc b.toNat ha
        rw [Nat.mod_eq_of_lt hb] at h3
        have h4 : 2 ^ (7 * (i + 1)) ≤ 2 ^ 63 := Nat.pow_le_pow_right (by decide) (by omega)
        have h5 := Nat.lt_of_lt_of_le h3 h4
        omega
      · by_cases hi9 : i = 9
        · subst hi9
          have h6 : b.toNat ≤ 1 := by omega
          have h7 : b.toNat * 2 ^ (7 * 9) ≤ 1 * 2 ^ (7 * 9) := Nat.mul_le_mul_right _ h6
          omega
        · omega
    · rw [if_neg hb] at h
      obtain ⟨h1, h2, h3⟩ := grp_ok r (i + 1) _ u k (by omega) (acc_more i acc _ ha) h
      exact ⟨by omega, by simp; omega, h3⟩

/-- Reader.End: OK exactly if it has not failed and nothing is left. -/
def endOf (l : List UInt8) (f : Bool) : Int := if f = true ∨ l ≠ [] then 4 else 0
end Go.Proofs.YtnhalfdddcjicaaGreat

namespace Go.Proofs.YtnhalfdddcjicaaGreat
open Go.Op (bytesLess)

theorem less_cons (a b : UInt8) (x y : List UInt8) : bytesLess (a :: x) (b :: y) = (decide (a < b) || (a == b && bytesLess x y)) := rfl
theorem less_same (a : UInt8) (x y : List UInt8) : bytesLess (a :: x) (a :: y) = bytesLess x y := by
  rw [less_cons]; simp
theorem less_lt {a b : UInt8} (h : a.toNat < b.toNat) (x y : List UInt8) : bytesLess (a :: x) (b :: y) = true := by
  rw [less_cons, decide_eq_true (UInt8.lt_iff_toNat_lt.2 h)]; rfl
theorem less_gt {a b : UInt8} (h : b.toNat < a.toNat) (x y : List UInt8) : bytesLess (a :: x) (b :: y) = false := by
  have h1 : ¬ a < b := fun e => by have := UInt8.lt_iff_toNat_lt.1 e; omega
  have h2 : (a == b) = false := beq_eq_false_iff_ne.2 (fun e => by subst e; omega)
  rw [less_cons, decide_eq_false h1, h2]; rfl

/-- The k bytes of a number, most significant first. -/
def bigE : Nat → Nat → List UInt8
  | 0, _ => []
  | k + 1, u => (u / 256 ^ k % 256).toUInt8 :: bigE k u
theorem bigE_len : ∀ k u, (bigE k u).length = k
  | 0, _ => rfl
  | k + 1, u => by simp [bigE, bigE_len k u]
theorem digit_nat (n : Nat) : (n % 256).toUInt8.toNat = n % 256 := Lib.toUInt8_toNat (Nat.mod_lt _ (by omega))
theorem bigE_mod : ∀ k u, bigE k (u % 256 ^ k) = bigE k u
  | 0, _ => rfl
  | k + 1, u => by
    have e1 : u % 256 ^ (k + 1) / 256 ^ k % 256 = u / 256 ^ k % 256 := by
      rw [Nat.pow_succ, Nat.mod_mul_right_div_self, Nat.mod_mod]
    have e2 : u % 256 ^ (k + 1) % 256 ^ k = u % 256 ^ k := by
      rw [Nat.pow_succ, Nat.mod_mul_right_mod]
    rw [bigE, bigE, e1, ← bigE_mod k (u % 256 ^ (k + 1)), e2, bigE_mod k u]
theorem mod_step (k u : Nat) : u % 256 ^ (k + 1) = u % 256 ^ k + 256 ^ k * (u / 256 ^ k % 256) := by
  rw [Nat.pow_succ, Nat.mod_mul]
/-- The order of such bytes, whatever follows. -/
theorem bigE_less : ∀ (k u v : Nat) (r s : List UInt8), bytesLess (bigE k u ++ r) (bigE k v ++ s) = if u % 256 ^ k < v % 256 ^ k then true else if v % 256 ^ k < u % 256 ^ k then false else bytesLess r s
  | 0, u, v, r, s => by simp [bigE, Nat.mod_one]
  | k + 1, u, v, r, s => by
    have hp : 0 < 256 ^ k := Nat.pos_of_ne_zero (by simp)
    have hu := Nat.mod_lt u hp
    have hv := Nat.mod_lt v hp
    rw [mod_step k u, mod_step k v]
    have du := digit_nat (u / 256 ^ k)
    have dv := digit_nat (v / 256 ^ k)
    simp only [bigE, List.cons_append]
    rcases Nat.lt_trichotomy (u / 256 ^ k % 256) (v / 256 ^ k % 256) with h | h | h
    · rw [less_lt (by omega)]
      have : 256 ^ k * (u / 256 ^ k % 256) + 256 ^ k ≤ 256 ^ k * (v / 256 ^ k % 256) := by
        rw [← Nat.mul_succ]; exact Nat.mul_le_mul_left _ h
      rw [if_pos (by omega)]
    · rw [h, less_same, bigE_less k u v r s]
      generalize 256 ^ k * (v / 256 ^ k % 256) = z
      (repeat' split) <;> first | rfl | omega
    · rw [less_gt (by omega)]
      have : 256 ^ k * (v / 256 ^ k % 256) + 256 ^ k ≤ 256 ^ k * (u / 256 ^ k % 256) := by
        rw [← Nat.mul_succ]; exact Nat.mul_le_mul_left _ h
      rw [if_neg (by omega), if_pos (by omega)]

/-- The number that bytes spell, most significant first. -/
def ofBig (l : List UInt8) : Nat := l.foldl (fun acc b => acc * 256 + b.toNat) 0
theorem ofBig_snoc (l : List UInt8) (b : UInt8) : ofBig (l ++ [b]) = ofBig l * 256 + b.toNat := by simp [ofBig]
theorem foldl_bigE : ∀ (k u acc : Nat), (bigE k u).foldl (fun acc b => acc * 256 + b.toNat) acc = acc * 256 ^ k + u % 256 ^ k
  | 0, u, acc => by simp [bigE, Nat.mod_one]
  | k + 1, u, acc => by
    rw [bigE, List.foldl_cons, foldl_bigE k u, digit_nat, mod_step, Nat.pow_succ, Nat.add_mul, Nat.mul_assoc, Nat.mul_comm 256 (256 ^ k), Nat.mul_comm (u / 256 ^ k % 256)]
    omega
theorem ofBig_bigE (k u : Nat) : ofBig (bigE k u) = u % 256 ^ k := by
  have := foldl_bigE k u 0
  simpa [ofBig] using this
theorem foldl_base : ∀ (l : List UInt8) (acc : Nat), l.foldl (fun acc b => acc * 256 + b.toNat) acc = acc * 256 ^ l.length + ofBig l
  | [], acc => by simp [ofBig]
  | b :: r, acc => by
    have e1 := foldl_base r (acc * 256 + b.toNat)
    have e2 := foldl_base r (0 * 256 + b.toNat)
    rw [List.foldl_cons, e1]
    unfold ofBig at e2 ⊢
    rw [List.foldl_cons, e2, List.length_cons, Nat.pow_succ, Nat.add_mul, Nat.mul_assoc, Nat.mul_comm 256 (256 ^ r.length)]
    simp
    omega
theorem ofBig_cons (b : UInt8) (r : List UInt8) : ofBig (b :: r) = b.toNat * 256 ^ r.length + ofBig r := by
  have := foldl_base r (0 * 256 + b.toNat)
  unfold ofBig at this ⊢
  rw [List.foldl_cons, this]
  simp
theorem ofBig_lt : ∀ l : List UInt8, ofBig l < 256 ^ l.length
  | [] => by simp [ofBig]
  | b :: r => by
    have := ofBig_lt r
    have hb := b.toNat_lt
    rw [ofBig_cons, List.length_cons, Nat.pow_succ]
    have : b.toNat * 256 ^ r.length + 256 ^ r.length ≤ 256 ^ r.length * 256 := by
      rw [Nat.mul_comm (256 ^ r.length) 256, ← Nat.succ_mul]; exact Nat.mul_le_mul_right _ (by omega)
    omega
theorem bigE_ofBig : ∀ l : List UInt8, bigE l.length (ofBig l) = l
  | [] => rfl
  | b :: r => by
    have hp : 0 < 256 ^ r.length := Nat.pos_of_ne_zero (by simp)
    have hr := ofBig_lt r
    have hb := b.toNat_lt
    have e1 : ofBig (b :: r) / 256 ^ r.length = b.toNat := by
      rw [ofBig_cons, Nat.mul_comm, Nat.mul_add_div hp, Nat.div_eq_of_lt hr, Nat.add_zero]
    have e2 : ofBig (b :: r) % 256 ^ r.length = ofBig r := by
      rw [ofBig_cons, Nat.mul_comm, Nat.mul_add_mod, Nat.mod_eq_of_lt hr]
    rw [List.length_cons, bigE, e1, Nat.mod_eq_of_lt hb, ← bigE_mod, e2, bigE_ofBig r]
    simp

/-- A text, each zero marked. -/
def esc : List UInt8 → List UInt8
  | [] => []
  | b :: r => if b = 0 then 0 :: 255 :: esc r else b :: esc r
theorem esc_zero (r : List UInt8) : esc (0 :: r) = 0 :: 255 :: esc r := by simp [esc]
theorem esc_else {b : UInt8} (h : b ≠ 0) (r : List UInt8) : esc (b :: r) = b :: esc r := by simp [esc, h]
theorem esc_len : ∀ x : List UInt8, (esc x).length ≤ 2 * x.length
  | [] => by simp [esc]
  | b :: r => by have := esc_len r; by_cases h : b = 0 <;> simp [esc, h] <;> omega
theorem pos_of_ne {b : UInt8} (h : b ≠ 0) : (0 : UInt8).toNat < b.toNat := by
  have : b.toNat ≠ (0 : UInt8).toNat := fun e => h (UInt8.toNat_inj.1 e)
  simp at this ⊢
  omega
theorem esc_less : ∀ (x y r s : List UInt8), x ≠ y → bytesLess (esc x ++ 0 :: 0 :: r) (esc y ++ 0 :: 0 :: s) = bytesLess x y
  | [], [], _, _, h => absurd rfl h
  | [], b :: y, r, s, _ => by
    by_cases hb : b = 0
    · subst hb; rw [esc_zero]; rfl
    · rw [esc_else hb]; exact less_lt (pos_of_ne hb) _ _
  | a :: x, [], r, s, _ => by
    by_cases hb : a = 0
    · subst hb; rw [esc_zero]; rfl
    · rw [esc_else hb]; exact less_gt (pos_of_ne hb) _ _
  | a :: x, b :: y, r, s, h => by
    by_cases hab : a = b
    · subst hab
      have hxy : x ≠ y := fun e => h (by rw [e])
      rw [less_same, ← esc_less x y r s hxy]
      by_cases ha : a = 0
      · subst ha; rw [esc_zero, esc_zero]; simp [less_same]
      · rw [esc_else ha, esc_else ha]; simp [less_same]
    · have hn : a.toNat ≠ b.toNat := fun e => hab (UInt8.toNat_inj.1 e)
      by_cases ha : a = 0
      · subst ha
        have hb : b ≠ 0 := fun e => hab e.symm
        rw [esc_zero, esc_else hb, less_lt (pos_of_ne hb)]
        exact less_lt (pos_of_ne hb) _ _
      by_cases hb : b = 0
      · subst hb
        rw [esc_zero, esc_else ha, less_gt (pos_of_ne ha)]
        exact less_gt (pos_of_ne ha) _ _
      rw [esc_else ha, esc_else hb]
      rcases Nat.lt_or_gt_of_ne hn with h1 | h1
      · rw [less_lt h1]; exact less_lt h1 _ _
      · rw [less_gt h1]; exact less_gt h1 _ _

/-- The text at the beginning of bytes, acc having been read, and what follows. -/
def cutT (acc : List UInt8) : List UInt8 → Option (List UInt8 × List UInt8)
  | [] => none
  | [_] => none
  | a :: b :: r => if a = 0 then (if b = 255 then cutT (acc ++ [0]) r else if b = 0 ∧ acc.length ≤ 24 then some (acc, r) else none) else cutT (acc ++ [a]) (b :: r)
theorem cutT_esc : ∀ (x acc r : List UInt8), cutT acc (esc x ++ 0 :: 0 :: r) = if acc.length + x.length ≤ 24 then some (acc ++ x, r) else none
  | [], acc, r => by simp [esc, cutT]
  | a :: x, acc, r => by
    by_cases ha : a = 0
    · subst ha
      have ih := cutT_esc x (acc ++ [0]) r
      have e : (acc ++ [0] : List UInt8).length + x.length = acc.length + (0 :: x : List UInt8).length := by simp; omega
      rw [esc_zero, List.cons_append, List.cons_append, cutT, if_pos rfl, if_pos rfl, ih, e]
      simp
    · have ih := cutT_esc x (acc ++ [a]) r
      have e : (acc ++ [a] : List UInt8).length + x.length = acc.length + (a :: x : List UInt8).length := by simp; omega
      obtain ⟨b, t, hb⟩ : ∃ b t, esc x ++ 0 :: 0 :: r = b :: t := by cases h : esc x ++ 0 :: 0 :: r with
        | nil => simp at h
        | cons b t => exact ⟨b, t, rfl⟩
      rw [esc_else ha, List.cons_append, hb, cutT, if_neg ha, ← hb, ih, e]
      simp
theorem cutT_some : ∀ (s acc t r : List UInt8), cutT acc s = some (t, r) → ∃ x, t = acc ++ x ∧ s = esc x ++ 0 :: 0 :: r ∧ t.length ≤ 24
  | [], acc, t, r, h => by simp [cutT] at h
  | [_], acc, t, r, h => by simp [cutT] at h
  | a :: b :: s, acc, t, r, h => by
    rw [cutT] at h
    by_cases ha : a = 0
    · rw [if_pos ha] at h
      subst ha
      by_cases hb : b = 255
      · rw [if_pos hb] at h
        subst hb
        obtain ⟨x, h1, h2, h3⟩ := cutT_some s _ t r h
        exact ⟨0 :: x, by rw [h1]; simp, by rw [esc_zero, h2]; simp, h3⟩
      · rw [if_neg hb] at h
        by_cases hc : b = 0 ∧ acc.length ≤ 24
        · rw [if_pos hc] at h
          injection h with h
          injection h with h1 h2
          subst h1 h2
          exact ⟨[], by simp, by rw [hc.1]; rfl, hc.2⟩
        · rw [if_neg hc] at h; cases h
    · rw [if_neg ha] at h
      obtain ⟨x, h1, h2, h3⟩ := cutT_some (b :: s) _ t r h
      exact ⟨a :: x, by rw [h1]; simp, by rw [esc_else ha, h2]; simp, h3⟩
end Go.Proofs.YtnhalfdddcjicaaGreat

namespace Go.Proofs.YtnhalfdddcjicaaGreat

/-- The value of a rung of a finite number, in units of the least one. -/
def rungVal (r : Nat) : Nat := if r < 4503599627370496 then r else (4503599627370496 + r % 4503599627370496) * 2 ^ (r / 4503599627370496 - 1)
theorem rungVal_succ (r : Nat) : rungVal r < rungVal (r + 1) := by
  unfold rungVal
  by_cases h1 : r + 1 < 4503599627370496
  · rw [if_pos (by omega), if_pos h1]; omega
  · by_cases h2 : r < 4503599627370496
    · obtain rfl : r = 4503599627370495 := by omega
      decide
    · rw [if_neg h2, if_neg h1]
      by_cases h3 : r % 4503599627370496 + 1 < 4503599627370496
      · have e1 : (r + 1) % 4503599627370496 = r % 4503599627370496 + 1 := by omega
        have e2 : (r + 1) / 4503599627370496 = r / 4503599627370496 := by omega
        rw [e1, e2]
        exact Nat.mul_lt_mul_of_pos_right (by omega) (Nat.two_pow_pos _)
      · have e1 : (r + 1) % 4503599627370496 = 0 := by omega
        have e2 : (r + 1) / 4503599627370496 - 1 = (r / 4503599627370496 - 1) + 1 := by omega
        rw [e1, e2, Nat.pow_succ, Nat.mul_comm (2 ^ _) 2, ← Nat.mul_assoc]
        exact Nat.mul_lt_mul_of_pos_right (by omega) (Nat.two_pow_pos _)
theorem rungVal_lt {a b : Nat} (h : a < b) : rungVal a < rungVal b := by
  induction b with
  | zero => omega
  | succ b ih =>
    have := rungVal_succ b
    by_cases e : a = b
    · subst e; exact this
    · exact Nat.lt_trans (ih (by omega)) this
theorem rungVal_lt_iff (a b : Nat) : rungVal a < rungVal b ↔ a < b := by
  constructor
  · intro h
    by_cases e : a < b
    · exact e
    · by_cases e2 : a = b
      · subst e2; omega
      · have := rungVal_lt (show b < a by omega); omega
  · exact rungVal_lt
theorem rungVal_inj {a b : Nat} (h : rungVal a = rungVal b) : a = b := by
  have h1 := rungVal_lt_iff a b
  have h2 := rungVal_lt_iff b a
  omega

/-- Is the word that of a NaN? -/
def nanB (b : Nat) : Bool := decide (9218868437227405312 < b % 9223372036854775808)
/-- Is the word that of a nought? -/
def noughtB (b : Nat) : Bool := decide (b % 9223372036854775808 = 0)
/-- The signed rung. -/
def srung (b : Nat) : Int := if b / 9223372036854775808 % 2 = 1 then -((b % 9223372036854775808 : Nat) : Int) else ((b % 9223372036854775808 : Nat) : Int)

theorem read_double (b : Nat) : Ieee.double.read b =
    if b % 9223372036854775808 < 4503599627370496 then .number (b / 9223372036854775808 % 2 == 1) (b % 9223372036854775808) (-1074)
    else if b % 9223372036854775808 < 9218868437227405312 then .number (b / 9223372036854775808 % 2 == 1) (4503599627370496 + b % 9223372036854775808 % 4503599627370496) (-1074 + ((b % 9223372036854775808 / 4503599627370496 - 1 : Nat) : Int))
    else if b % 9223372036854775808 = 9218868437227405312 then .infinity (b / 9223372036854775808 % 2 == 1)
    else .nan (b / 9223372036854775808 % 2 == 1) (b % 9223372036854775808 - 9218868437227405312) := rfl

theorem order_nan_l {b : Nat} (c : Nat) (h : nanB b = true) : Ieee.double.order b c = none := by
  unfold nanB at h
  have h := of_decide_eq_true h
  unfold Ieee.Format.order
  rw [read_double b, if_neg (by omega), if_neg (by omega), if_neg (by omega)]
  cases Ieee.double.read c <;> rfl
theorem order_nan_r {b : Nat} (c : Nat) (h : nanB b = true) : Ieee.double.order c b = none := by
  unfold nanB at h
  have h := of_decide_eq_true h
  unfold Ieee.Format.order
  rw [read_double b, if_neg (by omega), if_neg (by omega), if_neg (by omega)]
  cases Ieee.double.read c <;> rfl

/-- A finite word's number: sign, magnitude, place. -/
theorem read_finite {b : Nat} (h : b % 9223372036854775808 < 9218868437227405312) :
    ∃ m : Nat, ∃ p : Nat, Ieee.double.read b = .number (b / 9223372036854775808 % 2 == 1) m (-1074 + (p : Int)) ∧ m * 2 ^ p = rungVal (b % 9223372036854775808) := by
  rw [read_double b]
  by_cases h1 : b % 9223372036854775808 < 4503599627370496
  · rw [if_pos h1]
    exact ⟨_, 0, rfl, by unfold rungVal; rw [if_pos h1]; omega⟩
  · rw [if_neg h1, if_pos h]
    exact ⟨_, _, rfl, by unfold rungVal; rw [if_neg h1]⟩

theorem compare_mul_pos {x y : Int} {c : Nat} (hc : 0 < c) : compare (x * c) (y * c) = compare x y := by
  have hc' : (0 : Int) < c := by omega
  have e1 : x * c < y * c ↔ x < y := ⟨fun h => Int.lt_of_mul_lt_mul_right h (by omega), fun h => Int.mul_lt_mul_of_pos_right h hc'⟩
  have e2 : x * c = y * c ↔ x = y := ⟨fun h => Int.eq_of_mul_eq_mul_right (by omega) h, fun h => by rw [h]⟩
  simp only [compare, compareOfLessAndEq, e1, e2]

theorem signed_eq (s : Bool) (m u : Nat) : Ieee.signed s m u = (if s then -1 else 1) * ((m * 2 ^ u : Nat) : Int) := by
  unfold Ieee.signed
  rw [Nat.shiftLeft_eq]
  cases s <;> simp

theorem order_finite {b c : Nat} (hb : b % 9223372036854775808 < 9218868437227405312) (hc : c % 9223372036854775808 < 9218868437227405312) :
    Ieee.double.order b c = some (compare (srung b) (srung c)) := by
  obtain ⟨m, p, eb, hm⟩ := read_finite hb
  obtain ⟨n, q, ec, hn⟩ := read_finite hc
  unfold Ieee.Format.order
  rw [eb, ec]
  simp only [Ieee.Datum.order]
  congr 1
  generalize hbase : min (-1074 + (p : Int)) (-1074 + (q : Int)) = base
  have k1 : ∃ k : Nat, base = -1074 + (k : Int) ∧ k ≤ p ∧ k ≤ q := ⟨min p q, by omega, by omega, by omega⟩
  obtain ⟨k, rfl, kp, kq⟩ := k1
  have e1 : (-1074 + (p : Int) - (-1074 + (k : Int))).toNat = p - k := by omega
  have e2 : (-1074 + (q : Int) - (-1074 + (k : Int))).toNat = q - k := by omega
  rw [e1, e2, signed_eq, signed_eq, ← compare_mul_pos (c := 2 ^ k) (Nat.two_pow_pos _)]
  have f1 : ((m * 2 ^ (p - k) : Nat) : Int) * ((2 ^ k : Nat) : Int) = ((rungVal (b % 9223372036854775808) : Nat) : Int) := by
    rw [← hm, ← Int.natCast_mul, Nat.mul_assoc, ← Nat.pow_add, show p - k + k = p by omega]
  have f2 : ((n * 2 ^ (q - k) : Nat) : Int) * ((2 ^ k : Nat) : Int) = ((rungVal (c % 9223372036854775808) : Nat) : Int) := by
    rw [← hn, ← Int.natCast_mul, Nat.mul_assoc, ← Nat.pow_add, show q - k + k = q by omega]
  rw [Int.mul_assoc, f1, Int.mul_assoc, f2]
  unfold srung
  generalize b % 9223372036854775808 = r
  generalize c % 9223372036854775808 = t
  have z : rungVal 0 = 0 := rfl
  have l1 := rungVal_lt_iff r t
  have l2 := rungVal_lt_iff t r
  have l3 := rungVal_lt_iff 0 r
  have l4 := rungVal_lt_iff 0 t
  have i1 : rungVal r = rungVal t ↔ r = t := ⟨rungVal_inj, fun h => by rw [h]⟩
  rw [z] at l3 l4
  generalize rungVal r = x at *
  generalize rungVal t = y at *
  have cmp_of : ∀ {a b c d : Int}, (a < b ↔ c < d) → (a = b ↔ c = d) → compare a b = compare c d := by
    intro a b c d h1 h2
    simp only [compare, compareOfLessAndEq, h1, h2]
  by_cases s1 : b / 9223372036854775808 % 2 = 1 <;> by_cases s2 : c / 9223372036854775808 % 2 = 1
  all_goals simp only [s1, s2, beq_self_eq_true, if_true, if_false, beq_iff_eq]
  all_goals apply cmp_of <;> omega

theorem read_inf {b : Nat} (h : b % 9223372036854775808 = 9218868437227405312) : Ieee.double.read b = .infinity (b / 9223372036854775808 % 2 == 1) := by
  rw [read_double b, if_neg (by omega), if_neg (by omega), if_pos h]

theorem order_words {b c : Nat} (hb : nanB b = false) (hc : nanB c = false) : Ieee.double.order b c = some (compare (srung b) (srung c)) := by
  unfold nanB at hb hc
  have hb := of_decide_eq_false hb
  have hc := of_decide_eq_false hc
  by_cases fb : b % 9223372036854775808 < 9218868437227405312 <;> by_cases fc : c % 9223372036854775808 < 9218868437227405312
  · exact order_finite fb fc
  · obtain ⟨m, p, eb, _⟩ := read_finite fb
    unfold Ieee.Format.order
    rw [eb, read_inf (show c % 9223372036854775808 = 9218868437227405312 by omega)]
    simp only [Ieee.Datum.order]
    congr 1
    unfold srung
    by_cases s1 : b / 9223372036854775808 % 2 = 1 <;> by_cases s2 : c / 9223372036854775808 % 2 = 1
    all_goals simp only [s1, s2, beq_self_eq_true, if_true, if_false, beq_iff_eq, compare, compareOfLessAndEq]
    all_goals (repeat' split) <;> first | rfl | omega
  · obtain ⟨m, p, ec, _⟩ := read_finite fc
    unfold Ieee.Format.order
    rw [ec, read_inf (show b % 9223372036854775808 = 9218868437227405312 by omega)]
    simp only [Ieee.Datum.order]
    congr 1
    unfold srung
    by_cases s1 : b / 9223372036854775808 % 2 = 1 <;> by_cases s2 : c / 9223372036854775808 % 2 = 1
    all_goals simp only [s1, s2, beq_self_eq_true, if_true, if_false, beq_iff_eq, compare, compareOfLessAndEq]
    all_goals (repeat' split) <;> first | rfl | omega
  · have hb' : b % 9223372036854775808 = 9218868437227405312 := by omega
    have hc' : c % 9223372036854775808 = 9218868437227405312 := by omega
    unfold Ieee.Format.order
    rw [read_inf hb', read_inf hc']
    simp only [Ieee.Datum.order]
    congr 1
    unfold srung
    rw [hb', hc']
    by_cases s1 : b / 9223372036854775808 % 2 = 1 <;> by_cases s2 : c / 9223372036854775808 % 2 = 1
    all_goals simp only [s1, s2, beq_self_eq_true, if_true, if_false]
    all_goals first | rfl | decide | simp_all [compare, compareOfLessAndEq]

/-- IsNaN's test. -/
theorem neq_self (b : Nat) : (Ieee.double.order b b != some .eq) = nanB b := by
  cases h : nanB b with
  | true => rw [order_nan_l b h]; rfl
  | false =>
    rw [order_words h h]
    simp [compare, compareOfLessAndEq]
/-- The test for a nought. -/
theorem eq_nought {b : Nat} (h : nanB b = false) : (Ieee.double.order b 0 == some .eq) = noughtB b := by
  have h0 : nanB 0 = false := by decide
  rw [order_words h h0]
  have z : srung 0 = 0 := by decide
  rw [z]
  unfold noughtB srung
  by_cases s1 : b / 9223372036854775808 % 2 = 1
  · rw [if_pos s1]
    simp only [compare, compareOfLessAndEq]
    by_cases e : b % 9223372036854775808 = 0
    · rw [e]; decide
    · rw [if_pos (by omega)]; simp [e]
  · rw [if_neg s1]
    simp only [compare, compareOfLessAndEq]
    rw [if_neg (by omega)]
    by_cases e : b % 9223372036854775808 = 0
    · rw [e]; decide
    · rw [if_neg (by omega)]; simp [e]
/-- The reference's Less, as its test reads. -/
def lessB (b c : Nat) : Bool := Ieee.double.order b c == some .lt
theorem lessB_words {b c : Nat} (hb : nanB b = false) (hc : nanB c = false) : lessB b c = decide (srung b < srung c) := by
  unfold lessB
  rw [order_words hb hc]
  simp only [compare, compareOfLessAndEq]
  by_cases h : srung b < srung c
  · rw [if_pos h]; simp [h]
  · rw [if_neg h]
    split <;> simp [h]

/-- The canonical word. -/
def canonW (b : Nat) : Nat := if nanB b = true then 9221120237041090560 else if noughtB b = true then 0 else b
theorem canonW_lt {b : Nat} (h : b < 18446744073709551616) : canonW b < 18446744073709551616 := by
  unfold canonW; split
  · omega
  · split <;> omega
theorem canonW_idem (b : Nat) : canonW (canonW b) = canonW b := by
  unfold canonW
  cases h1 : nanB b with
  | true => rw [if_pos rfl]; decide
  | false =>
    cases h2 : noughtB b with
    | true => simp only [if_true, if_false, Bool.false_eq_true]; decide
    | false => simp [h1, h2]
/-- The key of a canonical word. -/
def keyW (u : Nat) : Nat := if u < 9223372036854775808 then u + 9223372036854775808 else 18446744073709551615 - u
theorem keyW_lt {u : Nat} (h : u < 18446744073709551616) : keyW u < 18446744073709551616 := by
  unfold keyW; split <;> omega
theorem keyW_inj {u v : Nat} (hu : u < 18446744073709551616) (hv : v < 18446744073709551616) (h : keyW u = keyW v) : u = v := by
  unfold keyW at h; split at h <;> split at h <;> omega

theorem key_nan {b : Nat} (h : nanB b = true) : keyW (canonW b) = 18444492273895866368 := by
  unfold canonW; rw [if_pos h]; decide
theorem key_word {b : Nat} (hlt : b < 18446744073709551616) (h : nanB b = false) : (keyW (canonW b) : Int) = if srung b < 0 then 9223372036854775807 + srung b else 9223372036854775808 + srung b := by
  have h' := of_decide_eq_false (show decide (9218868437227405312 < b % 9223372036854775808) = false from h)
  unfold canonW
  rw [h, if_neg (by simp)]
  unfold srung keyW
  by_cases e : noughtB b = true
  · rw [if_pos e]
    have e' := of_decide_eq_true (show decide (b % 9223372036854775808 = 0) = true from e)
    rw [e']
    simp
  · rw [if_neg e]
    have e' := of_decide_eq_false (show decide (b % 9223372036854775808 = 0) = false by simpa [noughtB] using e)
    by_cases s : b < 9223372036854775808
    · rw [if_pos s, if_neg (show ¬ b / 9223372036854775808 % 2 = 1 by omega)]
      rw [if_neg (by omega)]; omega
    · rw [if_neg s, if_pos (show b / 9223372036854775808 % 2 = 1 by omega)]
      rw [if_pos (by omega)]; omega
theorem srung_bound {b : Nat} (h : nanB b = false) : -9218868437227405312 ≤ srung b ∧ srung b ≤ 9218868437227405312 := by
  have h' := of_decide_eq_false (show decide (9218868437227405312 < b % 9223372036854775808) = false from h)
  unfold srung; split <;> omega

/-- Three ways. -/
def cmpI (a b : Nat) : Int := if a < b then -1 else if b < a then 1 else 0
/-- The reference's comparison and that of keys are one. -/
theorem cmp_keys {b c : Nat} (hb : b < 18446744073709551616) (hc : c < 18446744073709551616) :
    cmpI (keyW (canonW b)) (keyW (canonW c)) = if (!nanB b && (nanB c || lessB b c)) = true then -1 else if (!nanB c && (nanB b || lessB c b)) = true then 1 else 0 := by
  unfold cmpI
  cases h1 : nanB b <;> cases h2 : nanB c
  · have k1 := key_word hb h1
    have k2 := key_word hc h2
    rw [lessB_words h1 h2, lessB_words h2 h1]
    simp only [Bool.not_false, Bool.true_and, Bool.false_or, decide_eq_true_eq]
    have e1 : keyW (canonW b) < keyW (canonW c) ↔ srung b < srung c := by split at k1 <;> split at k2 <;> omega
    have e2 : keyW (canonW c) < keyW (canonW b) ↔ srung c < srung b := by split at k1 <;> split at k2 <;> omega
    simp only [e1, e2]
  · have k1 := key_word hb h1
    have k2 := key_nan h2
    have s := srung_bound h1
    rw [if_pos (by split at k1 <;> omega)]; simp
  · have k1 := key_nan h1
    have k2 := key_word hc h2
    have s := srung_bound h2
    rw [if_neg (by split at k2 <;> omega), if_pos (by split at k2 <;> omega)]; simp
  · rw [key_nan h1, key_nan h2]; simp
end Go.Proofs.YtnhalfdddcjicaaGreat
