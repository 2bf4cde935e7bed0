/- Plain mathematics of the exact road: a float's quotient by a power of ten is the float whose interval holds the decimal. No program is named here. -/
/- strconv's atof64exact. -/
/- strconv's atof64exact: whole numbers, products, and what it leaves. -/
/- strconv's atof64exact: what is too great, and the two steps. -/
/- strconv's atof64exact: the two steps; the whole. -/
/- strconv's atof64exact: the whole. -/
import Derived.Test.YtkaeaiagmihmgaaGreatDoorQFp
import Derived.Test.YtkaeaiagmihmgaaGreatDoorQFyA
import Derived.Test.YtkaeaiagmihmgaaGreatDoorQRealA
import Derived.Laws.FloatArith
namespace Go.Proofs.YtkaeaiagmihmgaaGreatDoor

theorem dbl_consts : Ieee.double.leastPlace = -1074 ∧ Ieee.double.binade = 4503599627370496 ∧ Ieee.double.infRung = 9218868437227405312 ∧ Ieee.double.signWeight = 9223372036854775808 := by decide
theorem read_word {neg : Bool} {m : Nat} {e : Int} (h1 : 4503599627370496 ≤ m) (h2 : m < 9007199254740992) (h3 : -1074 ≤ e) (h4 : e ≤ 971) : Ieee.double.read (Ieee.double.word neg (rungOf m e)) = .number neg m e := by
  obtain ⟨c1, c2, c3, c4⟩ := dbl_consts
  obtain ⟨r, hr⟩ : ∃ r, rungOf m e = r := ⟨_, rfl⟩
  have hrr : r = (e + 1074).toNat * 4503599627370496 + m := by rw [← hr]; rfl
  have hr1 : 4503599627370496 ≤ r := by omega
  have hr2 : r < 9218868437227405312 := by omega
  have hq : r / 4503599627370496 - 1 = (e + 1074).toNat := by omega
  have hm : 4503599627370496 + r % 4503599627370496 = m := by omega
  rw [hr]
  unfold Ieee.Format.read Ieee.Format.word
  simp only [c1, c2, c3, c4]
  have hn : ∀ w, w = (if neg then 9223372036854775808 + r else r) → (w / 9223372036854775808 % 2 == 1) = neg ∧ w % 9223372036854775808 = r := by
    rintro w rfl
    cases neg with
    | true => exact ⟨by simp; omega, by simp; omega⟩
    | false => exact ⟨by simp; omega, by simp; omega⟩
  obtain ⟨n1, n2⟩ := hn _ rfl
  rw [n1, n2, if_neg (by omega), if_pos hr2, hm, hq]
  congr 1
  omega
/-- A whole number below 2 ^ 53, as a float. -/
theorem int_word {d : Nat} (h0 : 0 < d) (h : d < 9007199254740992) : ∃ s : Nat, s ≤ 52 ∧ 4503599627370496 ≤ d * 2 ^ s ∧ d * 2 ^ s < 9007199254740992 ∧ ∀ neg, Ieee.double.nearest neg d 0 = Ieee.double.word neg (rungOf (d * 2 ^ s) (-(s : Int))) := by
  obtain ⟨l, hl⟩ : ∃ l, d.log2 = l := ⟨_, rfl⟩
  have l1 : 2 ^ l ≤ d := by rw [← hl]; exact Nat.log2_self_le (by omega)
  have l2 : d < 2 ^ (l + 1) := by rw [← hl]; exact Nat.lt_log2_self
  have hl52 : l ≤ 52 := by
    rcases Nat.lt_or_ge 52 l with h3 | h3
    · have : 2 ^ 53 ≤ 2 ^ l := Nat.pow_le_pow_right (by decide) h3
      omega
    · exact h3
  have p1 : 2 ^ l * 2 ^ (52 - l) = 4503599627370496 := by rw [← Nat.pow_add, show l + (52 - l) = 52 by omega]
  have p2 : 2 ^ (l + 1) * 2 ^ (52 - l) = 9007199254740992 := by rw [← Nat.pow_add, show l + 1 + (52 - l) = 53 by omega]
  have q1 : 4503599627370496 ≤ d * 2 ^ (52 - l) := by rw [← p1]; exact Nat.mul_le_mul_right _ l1
  have q2 : d * 2 ^ (52 - l) < 9007199254740992 := by rw [← p2]; exact Nat.mul_lt_mul_of_pos_right l2 (Nat.pow_pos (by decide))
  refine ⟨52 - l, by omega, q1, q2, fun neg => ?_⟩
  obtain ⟨s, hs⟩ : ∃ s, 52 - l = s := ⟨_, rfl⟩
  rw [hs] at q1 q2 ⊢
  obtain ⟨m, hm⟩ : ∃ m, d * 2 ^ s = m := ⟨_, rfl⟩
  have e4 : d * 2 ^ (s + 2) = 4 * m := by rw [← hm, Nat.pow_add, ← Nat.mul_assoc]; omega
  rw [hm] at q1 q2 ⊢
  by_cases h52 : m = 4503599627370496
  · exact nearest_is (h := 1) (a := 0) (b := s + 2) h0 (by omega) q2 (by omega) (by omega) (by omega) (.inr ⟨rfl, h52⟩) (fun _ _ => rfl) (by omega) (by rw [e4]; omega) (by rw [e4]; omega)
  · exact nearest_is (h := 2) (a := 0) (b := s + 2) h0 (by omega) q2 (by omega) (by omega) (by omega) (.inl rfl) (fun h _ => absurd h h52) (by omega) (by rw [e4]; omega) (by rw [e4]; omega)

section
variable {D n q r B c : Nat}
theorem sticky_lo (hq : D = q * n + r) (hr : r < n) (hc : c ≤ 1) (hB : B % 2 = 0) (h : B * n + c ≤ 2 * D) : B + c ≤ 2 * q + (if r = 0 then 0 else 1) := by
  obtain ⟨B', rfl⟩ : ∃ B', B = 2 * B' := ⟨B / 2, by omega⟩
  have h1 : B' * n ≤ q * n + r := by
    have : 2 * B' * n = 2 * (B' * n) := Nat.mul_assoc _ _ _
    omega
  have h2 : B' ≤ q := by
    rcases Nat.lt_or_ge q B' with h3 | h3
    · have := Nat.mul_le_mul_right n h3
      rw [Nat.succ_mul] at this
      omega
    · exact h3
  split
  · rename_i h0
    rcases Nat.lt_or_ge B' q with h3 | h3
    · omega
    · obtain rfl : B' = q := by omega
      have : 2 * B' * n = 2 * (B' * n) := Nat.mul_assoc _ _ _
      omega
  · omega
theorem sticky_hi (hn : 0 < n) (hq : D = q * n + r) (hc : c ≤ 1) (hB : B % 2 = 0) (h : 2 * D + c ≤ B * n) : 2 * q + (if r = 0 then 0 else 1) + c ≤ B := by
  obtain ⟨B', rfl⟩ : ∃ B', B = 2 * B' := ⟨B / 2, by omega⟩
  have e : 2 * B' * n = 2 * (B' * n) := Nat.mul_assoc _ _ _
  have h1 : q * n + r ≤ B' * n := by omega
  split
  · rename_i h0
    rcases Nat.lt_or_ge q B' with h3 | h3
    · omega
    · have := Nat.mul_le_mul_right n h3
      have h4 : q ≤ B' := by
        rcases Nat.lt_or_ge B' q with h5 | h5
        · have := Nat.mul_le_mul_right n h5
          rw [Nat.succ_mul] at this
          omega
        · exact h5
      obtain rfl : q = B' := by omega
      omega
  · have h3 : q < B' := by
      rcases Nat.lt_or_ge q B' with h5 | h5
      · exact h5
      · have := Nat.mul_le_mul_right n h5
        omega
    omega
end

/-- The interval's ends, scaled to the quotient's units. -/
theorem scale_lo {x d k s n a b c : Nat} {E P place : Int} (hc : c ≤ 1) (hn : n * 2 ^ P.toNat = 10 ^ k * 2 ^ (-P).toNat) (hpl : place = -(s : Int) - P - 55) (hab : (b : Int) - a = place - E)
    (h : x * 2 ^ E.toNat * 10 ^ k + c ≤ d * 2 ^ (-E).toNat) : x * 2 ^ a * n + c ≤ d * 2 ^ s * 2 ^ 55 * 2 ^ b := by
  rw [← pow_cancel (k := P.toNat + (-E).toNat) hc]
  rw [← pow_cancel (k := s + 55 + P.toNat + b) hc] at h
  have e1 : x * 2 ^ a * n * 2 ^ (P.toNat + (-E).toNat) = x * 2 ^ E.toNat * 10 ^ k * 2 ^ (s + 55 + P.toNat + b) := by
    calc x * 2 ^ a * n * 2 ^ (P.toNat + (-E).toNat) = x * 2 ^ a * (n * 2 ^ P.toNat) * 2 ^ (-E).toNat := by rw [Nat.pow_add]; simp only [Nat.mul_assoc]
      _ = x * 10 ^ k * (2 ^ a * 2 ^ (-P).toNat * 2 ^ (-E).toNat) := by rw [hn]; simp only [Nat.mul_assoc, Nat.mul_left_comm]
      _ = x * 10 ^ k * (2 ^ E.toNat * 2 ^ (s + 55 + P.toNat + b)) := by rw [← Nat.pow_add, ← Nat.pow_add, ← Nat.pow_add]; congr 2; omega
      _ = x * 2 ^ E.toNat * 10 ^ k * 2 ^ (s + 55 + P.toNat + b) := by simp only [Nat.mul_assoc, Nat.mul_left_comm]
  have e2 : d * 2 ^ s * 2 ^ 55 * 2 ^ b * 2 ^ (P.toNat + (-E).toNat) = d * 2 ^ (-E).toNat * 2 ^ (s + 55 + P.toNat + b) := by
    rw [Nat.mul_assoc, Nat.mul_assoc, Nat.mul_assoc, Nat.mul_assoc, ← Nat.pow_add, ← Nat.pow_add, ← Nat.pow_add, ← Nat.pow_add]
    congr 2
    omega
  rw [e1, e2]
  exact h
theorem scale_hi {x d k s n a b c : Nat} {E P place : Int} (hc : c ≤ 1) (hn : n * 2 ^ P.toNat = 10 ^ k * 2 ^ (-P).toNat) (hpl : place = -(s : Int) - P - 55) (hab : (b : Int) - a = place - E)
    (h : d * 2 ^ (-E).toNat + c ≤ x * 2 ^ E.toNat * 10 ^ k) : d * 2 ^ s * 2 ^ 55 * 2 ^ b + c ≤ x * 2 ^ a * n := by
  rw [← pow_cancel (k := P.toNat + (-E).toNat) hc]
  rw [← pow_cancel (k := s + 55 + P.toNat + b) hc] at h
  have e1 : x * 2 ^ a * n * 2 ^ (P.toNat + (-E).toNat) = x * 2 ^ E.toNat * 10 ^ k * 2 ^ (s + 55 + P.toNat + b) := by
    calc x * 2 ^ a * n * 2 ^ (P.toNat + (-E).toNat) = x * 2 ^ a * (n * 2 ^ P.toNat) * 2 ^ (-E).toNat := by rw [Nat.pow_add]; simp only [Nat.mul_assoc]
      _ = x * 10 ^ k * (2 ^ a * 2 ^ (-P).toNat * 2 ^ (-E).toNat) := by rw [hn]; simp only [Nat.mul_assoc, Nat.mul_left_comm]
      _ = x * 10 ^ k * (2 ^ E.toNat * 2 ^ (s + 55 + P.toNat + b)) := by rw [← Nat.pow_add, ← Nat.pow_add, ← Nat.pow_add]; congr 2; omega
      _ = x * 2 ^ E.toNat * 10 ^ k * 2 ^ (s + 55 + P.toNat + b) := by simp only [Nat.mul_assoc, Nat.mul_left_comm]
  have e2 : d * 2 ^ s * 2 ^ 55 * 2 ^ b * 2 ^ (P.toNat + (-E).toNat) = d * 2 ^ (-E).toNat * 2 ^ (s + 55 + P.toNat + b) := by
    rw [Nat.mul_assoc, Nat.mul_assoc, Nat.mul_assoc, Nat.mul_assoc, ← Nat.pow_add, ← Nat.pow_add, ← Nat.pow_add, ← Nat.pow_add]
    congr 2
    omega
  rw [e1, e2]
  exact h

/-- The quotient of two floats, of which the divisor is a power of ten. -/
theorem quot_is {neg : Bool} {d k s n m h : Nat} {P e : Int} (hm1 : 4503599627370496 ≤ d * 2 ^ s) (hn1 : 4503599627370496 ≤ n) (hn2 : n < 9007199254740992) (hn : n * 2 ^ P.toNat = 10 ^ k * 2 ^ (-P).toNat)
    (hm : 4503599627370496 ≤ m) (hm2 : m < 9007199254740992) (he1 : -1074 ≤ e) (he2 : e ≤ 971) (hh : h = 2 ∨ h = 1 ∧ m = 4503599627370496) (hh2 : m = 4503599627370496 → -1074 < e → h = 1)
    (hlo : (4 * m - h) * 2 ^ (e - 2).toNat * 10 ^ k + m % 2 ≤ d * 2 ^ (-(e - 2)).toNat) (hhi : d * 2 ^ (-(e - 2)).toNat + m % 2 ≤ (4 * m + 2) * 2 ^ (e - 2).toNat * 10 ^ k) :
    Ieee.double.nearest neg (2 * (d * 2 ^ s * 2 ^ 54 / n) + (if d * 2 ^ s * 2 ^ 54 % n = 0 then 0 else 1)) (-(s : Int) - P - 55) = Ieee.double.word neg (rungOf m e) := by
  obtain ⟨place, hpl⟩ : ∃ place, place = -(s : Int) - P - 55 := ⟨_, rfl⟩
  obtain ⟨a, b, hab, hz⟩ : ∃ a b : Nat, (b : Int) - a = place - (e - 2) ∧ (a = 0 ∨ b = 0) := ⟨(e - 2 - place).toNat, (place - (e - 2)).toNat, by omega, by omega⟩
  have hc : m % 2 ≤ 1 := by omega
  have H1 := scale_lo hc hn hpl hab hlo
  have H2 := scale_hi hc hn hpl hab hhi
  rw [← hpl]
  clear hlo hhi hn hpl
  generalize d * 2 ^ s = m1 at *
  have e55 : m1 * 2 ^ 55 = 2 * (m1 * 2 ^ 54) := by rw [show (2 : Nat) ^ 55 = 2 * 2 ^ 54 from rfl, Nat.mul_left_comm]
  have hb0 : b = 0 := by
    rcases Nat.eq_zero_or_pos b with h0 | h0
    · exact h0
    · exfalso
      have ha : a = 0 := by omega
      subst ha
      have h3 : 2 ^ 1 ≤ 2 ^ b := Nat.pow_le_pow_right (by decide) h0
      have h4 : 4503599627370496 * 2 ^ 55 * 2 ^ 1 ≤ m1 * 2 ^ 55 * 2 ^ b := Nat.mul_le_mul (Nat.mul_le_mul_right _ hm1) h3
      have h5 : (4 * m + 2) * 2 ^ 0 * n ≤ (4 * 9007199254740991 + 2) * 2 ^ 0 * 9007199254740991 := Nat.mul_le_mul (Nat.mul_le_mul_right _ (by omega)) (by omega)
      have h6 := Nat.le_trans h4 (Nat.le_trans (Nat.le_trans (Nat.le_add_right _ _) H2) h5)
      revert h6
      decide
  subst hb0
  rw [Nat.pow_zero, Nat.mul_one, e55] at H1 H2
  obtain ⟨D, hD⟩ : ∃ D, m1 * 2 ^ 54 = D := ⟨_, rfl⟩
  rw [hD] at H1 H2 ⊢
  have hDn := Nat.div_add_mod D n
  have hr := Nat.mod_lt D (show 0 < n by omega)
  have hq53 : 9007199254740992 ≤ D / n := by
    rw [Nat.le_div_iff_mul_le (by omega), ← hD]
    have h1 : 9007199254740992 * n ≤ 9007199254740992 * 9007199254740992 := Nat.mul_le_mul_left _ (by omega)
    have h2 : 4503599627370496 * 2 ^ 54 ≤ m1 * 2 ^ 54 := Nat.mul_le_mul_right _ hm1
    have h3 : 9007199254740992 * 9007199254740992 ≤ 4503599627370496 * 2 ^ 54 := by decide
    exact Nat.le_trans h1 (Nat.le_trans h3 h2)
  generalize D / n = q at *
  generalize D % n = r at *
  have hD2 : D = q * n + r := by rw [Nat.mul_comm]; exact hDn.symm
  have hup := sticky_hi (show 0 < n by omega) hD2 hc (show (4 * m + 2) * 2 ^ a % 2 = 0 by rw [show 4 * m + 2 = 2 * (2 * m + 1) by omega, Nat.mul_assoc]; exact Nat.mul_mod_right _ _) H2
  have hlow : (4 * m - h) * 2 ^ a + m % 2 ≤ 2 * q + (if r = 0 then 0 else 1) := by
    rcases hh with rfl | ⟨rfl, hm52⟩
    · exact sticky_lo hD2 hr hc (show (4 * m - 2) * 2 ^ a % 2 = 0 by rw [show 4 * m - 2 = 2 * (2 * m - 1) by omega, Nat.mul_assoc]; exact Nat.mul_mod_right _ _) H1
    · rcases Nat.eq_zero_or_pos a with h0 | h0
      · subst h0
        rw [Nat.pow_zero, Nat.mul_one, hm52]
        clear hup H1 H2
        omega
      · obtain ⟨a', rfl⟩ : ∃ a', a = a' + 1 := ⟨a - 1, by omega⟩
        exact sticky_lo hD2 hr hc (show (4 * m - 1) * 2 ^ (a' + 1) % 2 = 0 by rw [Nat.pow_succ, ← Nat.mul_assoc]; exact Nat.mul_mod_left _ _) H1
  refine nearest_is (h := h) (a := a) (b := 0) (by omega) (by omega) hm2 he1 he2 (fun h => by omega) hh hh2 hab ?_ ?_
  · rw [Nat.pow_zero, Nat.mul_one]; exact hlow
  · rw [Nat.pow_zero, Nat.mul_one]; exact hup

/-- The words of the powers of ten that are floats. -/
def tenWords : List Nat := [4607182418800017408, 4621819117588971520, 4636737291354636288, 4652007308841189376, 4666723172467343360, 4681608360884174848, 4696837146684686336, 4711630319722168320, 4726483295884279808, 4741671816366391296, 4756540486875873280, 4771362005757984768, 4786511204640096256, 4801453603149578240, 4816244402031689728, 4831355200913801216, 4846369599423283200, 4861130398305394688, 4876203697187506176, 4891288408196988160, 4906019910204099648, 4921056587992461136, 4936209963552724370]
def chkTen (k : Nat) : Bool := match Ieee.double.read (tenWords.getD k 0) with
  | .number neg n p => !neg && decide (4503599627370496 ≤ n) && decide (n < 9007199254740992) && decide (n * 2 ^ p.toNat = 10 ^ k * 2 ^ (-p).toNat) && decide (-60 ≤ p) && decide (p ≤ 60)
  | _ => false
theorem chkTen_all : (List.range 23).all chkTen = true := by kernel_rfl
theorem ten_word {k : Nat} (h : k < 23) : ∃ (n : Nat) (p : Int), Ieee.double.read (tenWords.getD k 0) = .number false n p ∧ 4503599627370496 ≤ n ∧ n < 9007199254740992 ∧ n * 2 ^ p.toNat = 10 ^ k * 2 ^ (-p).toNat ∧ -60 ≤ p ∧ p ≤ 60 := by
  have hc := List.all_eq_true.1 chkTen_all k (List.mem_range.2 h)
  unfold chkTen at hc
  split at hc
  · rename_i neg n p hr
    simp only [Bool.and_eq_true, decide_eq_true_eq, Bool.not_eq_true'] at hc
    obtain ⟨⟨⟨⟨⟨c1, c2⟩, c3⟩, c4⟩, c5⟩, c6⟩ := hc
    subst c1
    exact ⟨n, p, hr, c2, c3, c4, c5, c6⟩
  · cases hc
theorem log_52 {m : Nat} (h1 : 4503599627370496 ≤ m) (h2 : m < 9007199254740992) : m.log2 = 52 := (Nat.log2_eq_iff (by omega)).2 ⟨by omega, by omega⟩
/-- A whole number by a power of ten. -/
theorem div_ten {neg : Bool} {d k m h : Nat} {e : Int} (h0 : 0 < d) (hd : d < 9007199254740992) (hk : k < 23)
    (hm : 4503599627370496 ≤ m) (hm2 : m < 9007199254740992) (he1 : -1074 ≤ e) (he2 : e ≤ 971) (hh : h = 2 ∨ h = 1 ∧ m = 4503599627370496) (hh2 : m = 4503599627370496 → -1074 < e → h = 1)
    (hlo : (4 * m - h) * 2 ^ (e - 2).toNat * 10 ^ k + m % 2 ≤ d * 2 ^ (-(e - 2)).toNat) (hhi : d * 2 ^ (-(e - 2)).toNat + m % 2 ≤ (4 * m + 2) * 2 ^ (e - 2).toNat * 10 ^ k) :
    Ieee.double.div (Ieee.double.nearest neg d 0) (tenWords.getD k 0) = some (Ieee.double.word neg (rungOf m e)) := by
  obtain ⟨s, hs, q1, q2, hw⟩ := int_word h0 hd
  obtain ⟨n, p, hr, n1, n2, n3, n4, n5⟩ := ten_word hk
  have hQ := quot_is (neg := neg) q1 n1 n2 n3 hm hm2 he1 he2 hh hh2 hlo hhi
  unfold Ieee.Format.div
  rw [hw neg, read_word q1 q2 (by omega) (by omega), hr]
  unfold Ieee.Datum.quotient
  simp only [log_52 q1 q2, log_52 n1 n2]
  rw [if_neg (by omega), show Ieee.double.fractionBits + 2 + 52 - 52 = 54 from rfl, Nat.shiftLeft_eq]
  generalize d * 2 ^ s * 2 ^ 54 = D at *
  show some (Ieee.double.nearest (neg ^^ false) (2 * (D / n) + (D % n != 0).toNat) (-(s : Int) - p - (54 : Nat) - 1)) = _
  rw [Bool.xor_false, show (-(s : Int) - p - (54 : Nat) - 1) = -(s : Int) - p - 55 by omega]
  have e1 : (D % n != 0).toNat = if D % n = 0 then 0 else 1 := by
    by_cases hz : D % n = 0
    · rw [if_pos hz, hz]; rfl
    · rw [if_neg hz, bne_iff_ne .. |>.2 hz]; rfl
  rw [e1, hQ]
/-- A whole number times a power of ten. -/
theorem mul_ten {neg : Bool} {d k m h : Nat} {e : Int} (h0 : 0 < d) (hd : d < 9007199254740992) (hk : k < 23)
    (hm : 1 ≤ m) (hm2 : m < 9007199254740992) (he1 : -1074 ≤ e) (he2 : e ≤ 971) (hsub : m < 4503599627370496 → e = -1074) (hh : h = 2 ∨ h = 1 ∧ m = 4503599627370496) (hh2 : m = 4503599627370496 → -1074 < e → h = 1)
    (hlo : (4 * m - h) * 2 ^ (e - 2).toNat + m % 2 ≤ d * 10 ^ k * 2 ^ (-(e - 2)).toNat) (hhi : d * 10 ^ k * 2 ^ (-(e - 2)).toNat + m % 2 ≤ (4 * m + 2) * 2 ^ (e - 2).toNat) :
    Ieee.double.mul (Ieee.double.nearest neg d 0) (tenWords.getD k 0) = some (Ieee.double.word neg (rungOf m e)) := by
  obtain ⟨s, hs, q1, q2, hw⟩ := int_word h0 hd
  obtain ⟨n, p, hr, n1, n2, n3, n4, n5⟩ := ten_word hk
  unfold Ieee.Format.mul
  rw [hw neg, read_word q1 q2 (by omega) (by omega), hr]
  show some (Ieee.double.nearest (neg ^^ false) (d * 2 ^ s * n) (-(s : Int) + p)) = _
  rw [Bool.xor_false]
  congr 1
  obtain ⟨a, b, hab⟩ : ∃ a b : Nat, (b : Int) - a = (-(s : Int) + p) - (e - 2) := ⟨((e - 2) - (-(s : Int) + p)).toNat, ((-(s : Int) + p) - (e - 2)).toNat, by omega⟩
  have hc : m % 2 ≤ 1 := by omega
  have hp : 0 < d * 2 ^ s * n := Nat.mul_pos (by omega) (by omega)
  refine nearest_is (h := h) (a := a) (b := b) hp hm hm2 he1 he2 hsub hh hh2 hab ?_ ?_
  · rw [← pow_cancel (k := p.toNat + (-(e - 2)).toNat) hc]
    rw [← pow_cancel (k := s + (-p).toNat + b) hc] at hlo
    have e1 : d * 2 ^ s * n * 2 ^ b * 2 ^ (p.toNat + (-(e - 2)).toNat) = d * 10 ^ k * 2 ^ (-(e - 2)).toNat * 2 ^ (s + (-p).toNat + b) := by
      calc d * 2 ^ s * n * 2 ^ b * 2 ^ (p.toNat + (-(e - 2)).toNat) = d * (2 ^ s * (2 ^ b * 2 ^ (-(e - 2)).toNat)) * (n * 2 ^ p.toNat) := by rw [Nat.pow_add]; simp only [Nat.mul_assoc, Nat.mul_comm, Nat.mul_left_comm]
        _ = d * (2 ^ s * (2 ^ b * 2 ^ (-(e - 2)).toNat)) * (10 ^ k * 2 ^ (-p).toNat) := by rw [n3]
        _ = d * 10 ^ k * 2 ^ (-(e - 2)).toNat * 2 ^ (s + (-p).toNat + b) := by simp only [Nat.pow_add, Nat.mul_assoc, Nat.mul_comm, Nat.mul_left_comm]
    have e2 : (4 * m - h) * 2 ^ a * 2 ^ (p.toNat + (-(e - 2)).toNat) = (4 * m - h) * 2 ^ (e - 2).toNat * 2 ^ (s + (-p).toNat + b) := by
      rw [Nat.mul_assoc, Nat.mul_assoc, ← Nat.pow_add, ← Nat.pow_add]
      congr 2
      omega
    rw [e1, e2]
    exact hlo
  · rw [← pow_cancel (k := p.toNat + (-(e - 2)).toNat) hc]
    rw [← pow_cancel (k := s + (-p).toNat + b) hc] at hhi
    have e1 : d * 2 ^ s * n * 2 ^ b * 2 ^ (p.toNat + (-(e - 2)).toNat) = d * 10 ^ k * 2 ^ (-(e - 2)).toNat * 2 ^ (s + (-p).toNat + b) := by
      calc d * 2 ^ s * n * 2 ^ b * 2 ^ (p.toNat + (-(e - 2)).toNat) = d * (2 ^ s * (2 ^ b * 2 ^ (-(e - 2)).toNat)) * (n * 2 ^ p.toNat) := by rw [Nat.pow_add]; simp only [Nat.mul_assoc, Nat.mul_comm, Nat.mul_left_comm]
        _ = d * (2 ^ s * (2 ^ b * 2 ^ (-(e - 2)).toNat)) * (10 ^ k * 2 ^ (-p).toNat) := by rw [n3]
        _ = d * 10 ^ k * 2 ^ (-(e - 2)).toNat * 2 ^ (s + (-p).toNat + b) := by simp only [Nat.pow_add, Nat.mul_assoc, Nat.mul_comm, Nat.mul_left_comm]
    have e2 : (4 * m + 2) * 2 ^ a * 2 ^ (p.toNat + (-(e - 2)).toNat) = (4 * m + 2) * 2 ^ (e - 2).toNat * 2 ^ (s + (-p).toNat + b) := by
      rw [Nat.mul_assoc, Nat.mul_assoc, ← Nat.pow_add, ← Nat.pow_add]
      congr 2
      omega
    rw [e1, e2]
    exact hhi
end Go.Proofs.YtkaeaiagmihmgaaGreatDoor

namespace Go.Proofs.YtkaeaiagmihmgaaGreatDoor
open Go.RowKit Go.Sort

/-- The tables of the exact road, in memory. -/
structure TenFs (w : World) (g o : Nat) : Prop where
  var : w.cell? ⟨16, 0, none⟩ = some (.slice (some ⟨g, o, none⟩) 23 23)
  row : ∀ k, k < 23 → w.cell? ⟨g, o + k, none⟩ = some (.float .f64 (tenWords.getD k 0))
  info : w.cell? ⟨13, 0, none⟩ = some (.int .u64 52)

set_option maxRecDepth 100000 in
set_option maxHeartbeats 800000 in
theorem exact_great (w : World) (g o : Nat) (hT : TenFs w g o) (d : Nat) (q : Int) (neg : Bool) (h1 : 4503599627370496 ≤ d) (h2 : d < 18446744073709551616) :
    Calls Tryz.prog 136 #[.int .u64 d, .int .i64 q, .bool neg] w fun x w' => x = .returned (.tuple #[.float .f64 0, .bool false]) ∧ w = w' := by
  have c1 := hT.info
  have t1 : (((d : Int) / 4503599627370496) != 0) = true := by simp; omega
  go_enter Tryz.func136, Tryz.ntmps136
  go_wp2_with fail
  go_ret2
  exact ⟨rfl, rfl⟩

theorem of_whole (d : Nat) : floatOfInt .f64 (d : Int) = Ieee.double.nearest false d 0 := by
  have h : decide ((d : Int) < 0) = false := by simp
  show Ieee.double.nearest (decide ((d : Int) < 0)) (d : Int).natAbs 0 = _
  rw [h, Int.natAbs_natCast]
theorem run_neg_float {P : Program} {F F' : Nat} (h : Op.negFloat .f64 F = F') (w : World) : (Op.unary .neg (.float .f64 F)).run P w = .ok (.float .f64 F') w := by
  rw [← h]
  rfl
theorem neg_whole {d : Nat} (h0 : 0 < d) (h : d < 9007199254740992) : Op.negFloat .f64 (Ieee.double.nearest false d 0) = Ieee.double.nearest true d 0 := by
  obtain ⟨s, hs, q1, q2, hw⟩ := int_word h0 h
  rw [hw false, hw true]
  obtain ⟨c1, c2, c3, c4⟩ := dbl_consts
  have hr : rungOf (d * 2 ^ s) (-(s : Int)) < 9223372036854775808 := by unfold rungOf; omega
  generalize rungOf (d * 2 ^ s) (-(s : Int)) = r at hr
  show r ^^^ 2 ^ 63 = Ieee.double.signWeight + r
  rw [c4]
  have e := Nat.two_pow_add_eq_or_of_lt (i := 63) (b := r) hr 1
  rw [Nat.mul_one] at e
  show r ^^^ 2 ^ 63 = 2 ^ 63 + r
  rw [e]
  apply Nat.eq_of_testBit_eq
  intro i
  rw [Nat.testBit_xor, Nat.testBit_or, Nat.testBit_two_pow]
  by_cases hi : 63 = i
  · subst hi
    rw [Nat.testBit_lt_two_pow hr]
    simp
  · simp [hi]

set_option maxRecDepth 100000 in
set_option maxHeartbeats 800000 in
theorem exact_div (w : World) (g o : Nat) (hT : TenFs w g o) (d k : Nat) (neg : Bool) (h1 : 0 < d) (h2 : d < 4503599627370496) (hk0 : 0 < k) (hk : k < 23) (r : Nat) (hr : Ieee.double.div (Ieee.double.nearest neg d 0) (tenWords.getD k 0) = some r) :
    Calls Tryz.prog 136 #[.int .u64 d, .int .i64 (-(k : Int)), .bool neg] w fun x w' => x = .returned (.tuple #[.float .f64 r, .bool true]) ∧ w = w' := by
  have c1 := hT.info
  have c2 := hT.var
  have c3 := hT.row k hk
  have t1 : (((d : Int) / 4503599627370496) != 0) = false := by simp; omega
  have hF := of_whole d
  have hN := neg_whole h1 (by omega)
  have t2 : ((-(k : Int)) == 0) = false := by simp; omega
  generalize tenWords.getD k 0 = T at *
  have hx := fun (t : TypeId) (w : World) => run_float_arith (P := Tryz.prog) w .quo t .f64 (Ieee.double.nearest neg d 0) T r hr
  clear hr
  cases neg with
  | false =>
    generalize Ieee.double.nearest false d 0 = F at *
    generalize Ieee.double.nearest true d 0 = F' at *
    go_enter Tryz.func136, Tryz.ntmps136
    go_wp2_with fail
    go_ret2
    exact ⟨rfl, rfl⟩
  | true =>
    generalize Ieee.double.nearest false d 0 = F at *
    generalize Ieee.double.nearest true d 0 = F' at *
    have hU := run_neg_float (P := Tryz.prog) hN
    go_enter Tryz.func136, Tryz.ntmps136
    go_wp2_with fail
    go_ret2
    exact ⟨rfl, rfl⟩

theorem whole_rung {d : Nat} (h0 : 0 < d) (h : d < 9007199254740992) : ∃ r, (∀ neg, Ieee.double.nearest neg d 0 = sgn neg + r) ∧ 0 < r ∧ r < 9218868437227405312 ∧ (d ≤ 1000000000000000 ↔ r ≤ 4831355200913801216) := by
  obtain ⟨s, hs, q1, q2, hw⟩ := int_word h0 h
  obtain ⟨c1, c2, c3, c4⟩ := dbl_consts
  refine ⟨rungOf (d * 2 ^ s) (-(s : Int)), fun neg => ?_, ?_, ?_, ?_⟩
  · rw [hw neg]
    unfold Ieee.Format.word sgn
    rw [c4]
    cases neg <;> simp
  · unfold rungOf; omega
  · unfold rungOf; omega
  · obtain ⟨m, hm⟩ : ∃ m, d * 2 ^ s = m := ⟨_, rfl⟩
    rw [hm] at q1 q2 ⊢
    have hr : rungOf m (-(s : Int)) = (1074 - s) * 4503599627370496 + m := by unfold rungOf; rw [show (-(s : Int) + 1074).toNat = 1074 - s by omega]
    rw [hr]
    rcases Nat.lt_or_ge s 3 with h3 | h3
    · have h4 : m ≤ d * 4 := by
        rw [← hm]
        have : 2 ^ s ≤ 2 ^ 2 := Nat.pow_le_pow_right (by decide) (by omega)
        exact Nat.mul_le_mul_left d this
      omega
    · rcases Nat.eq_or_lt_of_le h3 with h5 | h5
      · subst h5
        rw [show (2 : Nat) ^ 3 = 8 from rfl] at hm
        omega
      · have h6 : d * 16 ≤ m := by
          rw [← hm]
          have : 2 ^ 4 ≤ 2 ^ s := Nat.pow_le_pow_right (by decide) h5
          exact Nat.mul_le_mul_left d this
        omega
section
variable {r : Nat} {neg : Bool}
theorem sgn_parts (h : r < 9218868437227405312) : (sgn neg + r) % 9223372036854775808 = r ∧ (sgn neg + r) / 9223372036854775808 % 2 = (if neg then 1 else 0) := by
  cases neg with
  | true =>
    have e : sgn true = 9223372036854775808 := rfl
    rw [e, if_pos rfl]
    omega
  | false =>
    have e : sgn false = 0 := rfl
    rw [e, if_neg Bool.false_ne_true]
    omega
theorem srung_sgn (h : r < 9218868437227405312) : srung (sgn neg + r) = if neg then -(r : Int) else (r : Int) := by
  unfold srung
  obtain ⟨e1, e2⟩ := sgn_parts (neg := neg) h
  rw [e1, e2]
  cases neg <;> rfl
theorem nan_sgn (h : r < 9218868437227405312) : nanB (sgn neg + r) = false := by
  unfold nanB
  rw [(sgn_parts h).1]
  exact decide_eq_false (by omega)
theorem cmp_gt_any {K : Nat} (hK : K < 9218868437227405312) (h : r < 9218868437227405312) : (Ieee.double.order (sgn neg + r) K == some .gt) = (!neg && decide (K < r)) := by
  have eK : sgn false + K = K := Nat.zero_add K
  have hn : nanB K = false := by have := nan_sgn (neg := false) hK; rwa [eK] at this
  have hs : srung K = (K : Int) := by have := srung_sgn (neg := false) hK; rwa [eK] at this
  have e : Ieee.double.order (sgn neg + r) K = some (compare (srung (sgn neg + r)) (srung K)) := order_words (nan_sgn h) hn
  rw [e, hs, srung_sgn h]
  cases neg with
  | true =>
    rw [if_pos rfl]
    have : compare (-(r : Int)) (K : Int) ≠ .gt := fun h => by have := Int.compare_eq_gt.1 h; omega
    simp [this]
  | false =>
    rw [if_neg Bool.false_ne_true]
    by_cases hc : K < r
    · have : compare (r : Int) (K : Int) = .gt := Int.compare_eq_gt.2 (by omega)
      simp [this, hc]
    · have : compare (r : Int) (K : Int) ≠ .gt := fun h => by have := Int.compare_eq_gt.1 h; omega
      simp [this, hc]
theorem cmp_gt (h : r < 9218868437227405312) : (FloatKind.f64.format.order (sgn neg + r) 4831355200913801216 == some .gt) = (!neg && decide (4831355200913801216 < r)) := cmp_gt_any (by decide) h
theorem cmp_lt (h : r < 9218868437227405312) : (FloatKind.f64.format.order (sgn neg + r) 14054727237768577024 == some .lt) = (neg && decide (4831355200913801216 < r)) := by
  have e : Ieee.double.order (sgn neg + r) 14054727237768577024 = some (compare (srung (sgn neg + r)) (srung 14054727237768577024)) := order_words (nan_sgn h) (by decide)
  have e2 : srung 14054727237768577024 = -4831355200913801216 := by decide
  show (Ieee.double.order (sgn neg + r) 14054727237768577024 == some .lt) = _
  rw [e, e2, srung_sgn h]
  cases neg with
  | false =>
    have : compare (r : Int) (-4831355200913801216) = .gt := Int.compare_eq_gt.2 (by omega)
    simp [this]
  | true =>
    by_cases hc : 4831355200913801216 < r
    · have : compare (-(r : Int)) (-4831355200913801216) = .lt := Int.compare_eq_lt.2 (by omega)
      simp [this, hc]
    · have : compare (-(r : Int)) (-4831355200913801216) ≠ .lt := fun h => by have := Int.compare_eq_lt.1 h; omega
      simp [this, hc]
end
end Go.Proofs.YtkaeaiagmihmgaaGreatDoor

namespace Go.Proofs.YtkaeaiagmihmgaaGreatDoor
open Go.RowKit Go.Sort

set_option maxRecDepth 100000 in
set_option maxHeartbeats 800000 in
theorem exact_whole (w : World) (g o : Nat) (hT : TenFs w g o) (d : Nat) (neg : Bool) (h1 : 0 < d) (h2 : d < 4503599627370496) :
    Calls Tryz.prog 136 #[.int .u64 d, .int .i64 0, .bool neg] w fun x w' => x = .returned (.tuple #[.float .f64 (Ieee.double.nearest neg d 0), .bool true]) ∧ w = w' := by
  have c1 := hT.info
  have t1 : (((d : Int) / 4503599627370496) != 0) = false := by simp; omega
  have hF := of_whole d
  have hN := neg_whole h1 (by omega)
  cases neg with
  | false =>
    generalize Ieee.double.nearest false d 0 = F at *
    generalize Ieee.double.nearest true d 0 = F' at *
    go_enter Tryz.func136, Tryz.ntmps136
    go_wp2_with fail
    go_ret2
    exact ⟨rfl, rfl⟩
  | true =>
    generalize Ieee.double.nearest false d 0 = F at *
    generalize Ieee.double.nearest true d 0 = F' at *
    have hU := run_neg_float (P := Tryz.prog) hN
    go_enter Tryz.func136, Tryz.ntmps136
    go_wp2_with fail
    go_ret2
    exact ⟨rfl, rfl⟩

set_option maxRecDepth 100000 in
set_option maxHeartbeats 800000 in
theorem exact_far (w : World) (g o : Nat) (hT : TenFs w g o) (d : Nat) (q : Int) (neg : Bool) (h1 : 0 < d) (h2 : d < 4503599627370496) (hq : 37 < q ∨ q < -22) :
    Calls Tryz.prog 136 #[.int .u64 d, .int .i64 q, .bool neg] w fun x w' => x = .returned (.tuple #[.float .f64 (Ieee.double.nearest neg d 0), .bool false]) ∧ w = w' := by
  have c1 := hT.info
  have t1 : (((d : Int) / 4503599627370496) != 0) = false := by simp; omega
  have t2 : (q == 0) = false := by simp; omega
  have hF := of_whole d
  have hN := neg_whole h1 (by omega)
  have key : ∀ (t3 : decide (0 < q) = true ∧ decide (q ≤ 37) = false ∧ decide (q < 0) = false ∨ decide (0 < q) = false ∧ decide (q < 0) = true ∧ decide (-22 ≤ q) = false), Calls Tryz.prog 136 #[.int .u64 d, .int .i64 q, .bool neg] w fun x w' => x = .returned (.tuple #[.float .f64 (Ieee.double.nearest neg d 0), .bool false]) ∧ w = w' := by
    intro t3
    cases neg with
    | false =>
      generalize Ieee.double.nearest false d 0 = F at *
      generalize Ieee.double.nearest true d 0 = F' at *
      rcases hq with hq | hq
      · have u1 : 0 < q := by omega
        have u2 : ¬ q ≤ 37 := by omega
        have u3 : ¬ q < 0 := by omega
        clear t3
        go_enter Tryz.func136, Tryz.ntmps136
        go_wp2_with fail
        go_ret2
        exact ⟨rfl, rfl⟩
      · have u1 : ¬ 0 < q := by omega
        have u2 : q < 0 := by omega
        have u3 : ¬ -22 ≤ q := by omega
        clear t3
        go_enter Tryz.func136, Tryz.ntmps136
        go_wp2_with fail
        go_ret2
        exact ⟨rfl, rfl⟩
    | true =>
      generalize Ieee.double.nearest false d 0 = F at *
      generalize Ieee.double.nearest true d 0 = F' at *
      have hU := run_neg_float (P := Tryz.prog) hN
      rcases hq with hq | hq
      · have u1 : 0 < q := by omega
        have u2 : ¬ q ≤ 37 := by omega
        have u3 : ¬ q < 0 := by omega
        clear t3
        go_enter Tryz.func136, Tryz.ntmps136
        go_wp2_with fail
        go_ret2
        exact ⟨rfl, rfl⟩
      · have u1 : ¬ 0 < q := by omega
        have u2 : q < 0 := by omega
        have u3 : ¬ -22 ≤ q := by omega
        clear t3
        go_enter Tryz.func136, Tryz.ntmps136
        go_wp2_with fail
        go_ret2
        exact ⟨rfl, rfl⟩
  rcases hq with hq' | hq'
  · exact key (.inl ⟨decide_eq_true (by omega), decide_eq_false (by omega), decide_eq_false (by omega)⟩)
  · exact key (.inr ⟨decide_eq_false (by omega), decide_eq_true (by omega), decide_eq_false (by omega)⟩)

set_option maxRecDepth 100000 in
set_option maxHeartbeats 800000 in
theorem exact_mul (w : World) (g o : Nat) (hT : TenFs w g o) (d k : Nat) (neg : Bool) (h1 : 0 < d) (h2 : d ≤ 1000000000000000) (hk0 : 0 < k) (hk : k < 23) (r : Nat) (hr : Ieee.double.mul (Ieee.double.nearest neg d 0) (tenWords.getD k 0) = some r) :
    Calls Tryz.prog 136 #[.int .u64 d, .int .i64 k, .bool neg] w fun x w' => x = .returned (.tuple #[.float .f64 r, .bool true]) ∧ w = w' := by
  have c1 := hT.info
  have c2 := hT.var
  have c3 := hT.row k hk
  have t1 : (((d : Int) / 4503599627370496) != 0) = false := by simp; omega
  have hF := of_whole d
  have hN := neg_whole h1 (by omega)
  have t2 : ((k : Int) == 0) = false := by simp; omega
  have u1 : (0 : Int) < (k : Int) := by omega
  have u2 : (k : Int) ≤ 37 := by omega
  have u3 : ¬ (22 : Int) < (k : Int) := by omega
  obtain ⟨rg, r1, r2, r3, r4⟩ := whole_rung h1 (by omega)
  have g1 := cmp_gt (neg := neg) r3
  have g2 := cmp_lt (neg := neg) r3
  have hle : decide (4831355200913801216 < rg) = false := decide_eq_false (by have := r4.1 h2; omega)
  rw [hle, Bool.and_false] at g1 g2
  rw [← r1 neg] at g1 g2
  generalize tenWords.getD k 0 = T at *
  have hx := fun (t : TypeId) (w : World) => run_float_arith (P := Tryz.prog) w .mul t .f64 (Ieee.double.nearest neg d 0) T r hr
  clear hr r1 r2 r3 r4 hle
  cases neg with
  | false =>
    generalize Ieee.double.nearest false d 0 = F at *
    generalize Ieee.double.nearest true d 0 = F' at *
    go_enter Tryz.func136, Tryz.ntmps136
    go_wp2_with fail
    go_ret2
    exact ⟨rfl, rfl⟩
  | true =>
    generalize Ieee.double.nearest false d 0 = F at *
    generalize Ieee.double.nearest true d 0 = F' at *
    have hU := run_neg_float (P := Tryz.prog) hN
    go_enter Tryz.func136, Tryz.ntmps136
    go_wp2_with fail
    go_ret2
    exact ⟨rfl, rfl⟩
end Go.Proofs.YtkaeaiagmihmgaaGreatDoor

namespace Go.Proofs.YtkaeaiagmihmgaaGreatDoor
open Go.RowKit Go.Sort

set_option maxRecDepth 100000 in
set_option maxHeartbeats 800000 in
theorem exact_over (w : World) (g o : Nat) (hT : TenFs w g o) (d k : Nat) (neg : Bool) (h1 : 0 < d) (h2 : 1000000000000000 < d) (h3 : d < 4503599627370496) (hk0 : 0 < k) (hk : k < 23) :
    Calls Tryz.prog 136 #[.int .u64 d, .int .i64 k, .bool neg] w fun x w' => x = .returned (.tuple #[.float .f64 (Ieee.double.nearest neg d 0), .bool false]) ∧ w = w' := by
  have c1 := hT.info
  have t1 : (((d : Int) / 4503599627370496) != 0) = false := by simp; omega
  have hF := of_whole d
  have hN := neg_whole h1 (by omega)
  have t2 : ((k : Int) == 0) = false := by simp; omega
  have u1 : (0 : Int) < (k : Int) := by omega
  have u2 : (k : Int) ≤ 37 := by omega
  have u3 : ¬ (22 : Int) < (k : Int) := by omega
  obtain ⟨rg, r1, r2, r3, r4⟩ := whole_rung h1 (by omega)
  have g1 := cmp_gt (neg := neg) r3
  have g2 := cmp_lt (neg := neg) r3
  have hle : decide (4831355200913801216 < rg) = true := decide_eq_true (by
    rcases Nat.lt_or_ge 4831355200913801216 rg with h5 | h5
    · exact h5
    · have := r4.2 h5; omega)
  rw [hle, Bool.and_true] at g1 g2
  rw [← r1 neg] at g1 g2
  clear r1 r2 r3 r4 hle
  cases neg with
  | false =>
    generalize Ieee.double.nearest false d 0 = F at *
    generalize Ieee.double.nearest true d 0 = F' at *
    go_enter Tryz.func136, Tryz.ntmps136
    go_wp2_with fail
    go_ret2
    exact ⟨rfl, rfl⟩
  | true =>
    generalize Ieee.double.nearest false d 0 = F at *
    generalize Ieee.double.nearest true d 0 = F' at *
    have hU := run_neg_float (P := Tryz.prog) hN
    go_enter Tryz.func136, Tryz.ntmps136
    go_wp2_with fail
    go_ret2
    exact ⟨rfl, rfl⟩

theorem word_sgn (neg : Bool) (r : Nat) : Ieee.double.word neg r = sgn neg + r := by
  obtain ⟨c1, c2, c3, c4⟩ := dbl_consts
  unfold Ieee.Format.word sgn
  rw [c4]
  cases neg <;> simp
/-- A product that is a whole number below 2 ^ 53 is exact. -/
theorem mul_whole {d j : Nat} (h0 : 0 < d) (hj : j < 23) (hN : d * 10 ^ j < 9007199254740992) (neg : Bool) : Ieee.double.mul (Ieee.double.nearest neg d 0) (tenWords.getD j 0) = some (Ieee.double.nearest neg (d * 10 ^ j) 0) := by
  have hp : 0 < 10 ^ j := Nat.pow_pos (by decide)
  have hd : d < 9007199254740992 := Nat.lt_of_le_of_lt (Nat.le_mul_of_pos_right d hp) hN
  obtain ⟨s, hs, q1, q2, hw⟩ := int_word (Nat.mul_pos h0 hp) hN
  rw [hw neg]
  have e4 : d * 10 ^ j * 2 ^ (s + 2) = 4 * (d * 10 ^ j * 2 ^ s) := by rw [Nat.pow_add, ← Nat.mul_assoc]; omega
  have hx : (-(-(s : Int) - 2)).toNat = s + 2 := by omega
  have hy : (-(s : Int) - 2).toNat = 0 := by omega
  obtain ⟨m, hm⟩ : ∃ m, d * 10 ^ j * 2 ^ s = m := ⟨_, rfl⟩
  rw [hm] at e4 q1 q2 ⊢
  by_cases h52 : m = 4503599627370496
  · exact mul_ten (h := 1) h0 hd hj (by omega) q2 (by omega) (by omega) (by omega) (.inr ⟨rfl, h52⟩) (fun _ _ => rfl) (by rw [hx, hy, e4]; omega) (by rw [hx, hy, e4]; omega)
  · exact mul_ten (h := 2) h0 hd hj (by omega) q2 (by omega) (by omega) (by omega) (.inl rfl) (fun h _ => absurd h h52) (by rw [hx, hy, e4]; omega) (by rw [hx, hy, e4]; omega)
/-- A great product is written as a great word. -/
theorem nearest_great {mag : Nat} {place : Int} (h0 : 0 < mag) (h : 53 ≤ place + mag.log2) (neg : Bool) : ∃ r, Ieee.double.nearest neg mag place = sgn neg + r ∧ 4831355200913801216 < r ∧ r ≤ 9218868437227405312 := by
  obtain ⟨c1, c2, c3, c4⟩ := dbl_consts
  unfold Ieee.Format.nearest
  rw [if_neg (by omega), word_sgn]
  simp only [c1, c2, c3]
  refine ⟨_, rfl, ?_, Nat.min_le_right _ _⟩
  have h1 : 1075 ≤ (max (place + mag.log2 - (52 : Nat)) (-1074) - -1074).toNat := by omega
  have h2 := Nat.mul_le_mul_right 4503599627370496 h1
  show _ < min ((max (place + mag.log2 - (52 : Nat)) (-1074) - -1074).toNat * 4503599627370496 + _) 9218868437227405312
  omega
end Go.Proofs.YtkaeaiagmihmgaaGreatDoor

namespace Go.Proofs.YtkaeaiagmihmgaaGreatDoor
open Go.RowKit Go.Sort

section
variable {r : Nat} {neg : Bool}
theorem sgn_parts' (h : r ≤ 9218868437227405312) : (sgn neg + r) % 9223372036854775808 = r ∧ (sgn neg + r) / 9223372036854775808 % 2 = (if neg then 1 else 0) := by
  cases neg with
  | true =>
    have e : sgn true = 9223372036854775808 := rfl
    rw [e, if_pos rfl]
    omega
  | false =>
    have e : sgn false = 0 := rfl
    rw [e, if_neg Bool.false_ne_true]
    omega
theorem srung_sgn' (h : r ≤ 9218868437227405312) : srung (sgn neg + r) = if neg then -(r : Int) else (r : Int) := by
  unfold srung
  obtain ⟨e1, e2⟩ := sgn_parts' (neg := neg) h
  rw [e1, e2]
  cases neg <;> rfl
theorem nan_sgn' (h : r ≤ 9218868437227405312) : nanB (sgn neg + r) = false := by
  unfold nanB
  rw [(sgn_parts' h).1]
  exact decide_eq_false (by omega)
theorem great_gt {K : Nat} (hK : K < 9218868437227405312) (h : r ≤ 9218868437227405312) (hg : K < r) : (Ieee.double.order (sgn neg + r) K == some .gt) = !neg := by
  have eK : sgn false + K = K := Nat.zero_add K
  have hn : nanB K = false := by have := nan_sgn (neg := false) hK; rwa [eK] at this
  have hs : srung K = (K : Int) := by have := srung_sgn (neg := false) hK; rwa [eK] at this
  have e : Ieee.double.order (sgn neg + r) K = some (compare (srung (sgn neg + r)) (srung K)) := order_words (nan_sgn' h) hn
  rw [e, hs, srung_sgn' h]
  cases neg with
  | true =>
    rw [if_pos rfl]
    have : compare (-(r : Int)) (K : Int) ≠ .gt := fun h => by have := Int.compare_eq_gt.1 h; omega
    simp [this]
  | false =>
    rw [if_neg Bool.false_ne_true]
    have : compare (r : Int) (K : Int) = .gt := Int.compare_eq_gt.2 (by omega)
    simp [this]
theorem great_lt {K : Nat} (hK : K < 9218868437227405312) (h : r ≤ 9218868437227405312) (hg : K < r) : (Ieee.double.order (sgn neg + r) (sgn true + K) == some .lt) = neg := by
  have e : Ieee.double.order (sgn neg + r) (sgn true + K) = some (compare (srung (sgn neg + r)) (srung (sgn true + K))) := order_words (nan_sgn' h) (nan_sgn hK)
  rw [e, srung_sgn hK, srung_sgn' h, if_pos rfl]
  cases neg with
  | true =>
    rw [if_pos rfl]
    have : compare (-(r : Int)) (-(K : Int)) = .lt := Int.compare_eq_lt.2 (by omega)
    simp [this]
  | false =>
    rw [if_neg Bool.false_ne_true]
    have : compare (r : Int) (-(K : Int)) ≠ .lt := fun h => by have := Int.compare_eq_lt.1 h; omega
    simp [this]
end
/-- A product above 10 ^ 15. -/
theorem mul_great {d j : Nat} (h0 : 0 < d) (hd : d < 4503599627370496) (hj : j < 23) (hN : 1000000000000000 < d * 10 ^ j) (neg : Bool) :
    ∃ r, Ieee.double.mul (Ieee.double.nearest neg d 0) (tenWords.getD j 0) = some (sgn neg + r) ∧ 4831355200913801216 < r ∧ r ≤ 9218868437227405312 := by
  rcases Nat.lt_or_ge (d * 10 ^ j) 9007199254740992 with h | h
  · obtain ⟨r, r1, r2, r3, r4⟩ := whole_rung (Nat.mul_pos h0 (Nat.pow_pos (n := j) (show 0 < 10 by decide))) h
    refine ⟨r, by rw [mul_whole h0 hj h neg, r1 neg], ?_, Nat.le_of_lt r3⟩
    rcases Nat.lt_or_ge 4831355200913801216 r with h5 | h5
    · exact h5
    · have := r4.2 h5; omega
  · obtain ⟨s, hs, q1, q2, hw⟩ := int_word h0 (show d < 9007199254740992 by omega)
    obtain ⟨n, p, hr, n1, n2, n3, n4, n5⟩ := ten_word hj
    have hpos : 0 < d * 2 ^ s * n := Nat.mul_pos (by omega) (by omega)
    have hlog : (53 : Int) ≤ (-(s : Int) + p) + ((d * 2 ^ s * n).log2 : Nat) := by
      have key : 2 ^ (53 + s + (-p).toNat) ≤ d * 2 ^ s * n * 2 ^ p.toNat := by
        calc 2 ^ (53 + s + (-p).toNat) = 9007199254740992 * 2 ^ s * 2 ^ (-p).toNat := by rw [Nat.pow_add, Nat.pow_add]
          _ ≤ d * 10 ^ j * 2 ^ s * 2 ^ (-p).toNat := Nat.mul_le_mul_right _ (Nat.mul_le_mul_right _ h)
          _ = d * 2 ^ s * (10 ^ j * 2 ^ (-p).toNat) := by simp only [Nat.mul_assoc, Nat.mul_comm, Nat.mul_left_comm]
          _ = d * 2 ^ s * n * 2 ^ p.toNat := by rw [← n3]; simp only [Nat.mul_assoc]
      have hl := Nat.lt_log2_self (n := d * 2 ^ s * n)
      generalize hL : (d * 2 ^ s * n).log2 = L at hl ⊢
      have h3 : 2 ^ (53 + s + (-p).toNat) < 2 ^ (L + 1 + p.toNat) := by
        rw [Nat.pow_add 2 (L + 1)]
        exact Nat.lt_of_le_of_lt key (Nat.mul_lt_mul_of_pos_right hl (Nat.pow_pos (by decide)))
      have h4 := (Nat.pow_lt_pow_iff_right (show 1 < 2 by decide)).1 h3
      omega
    obtain ⟨r, e1, e2, e3⟩ := nearest_great hpos hlog neg
    refine ⟨r, ?_, e2, e3⟩
    unfold Ieee.Format.mul
    rw [hw neg, read_word q1 q2 (by omega) (by omega), hr, ← e1]
    show some (Ieee.double.nearest (neg ^^ false) (d * 2 ^ s * n) (-(s : Int) + p)) = _
    rw [Bool.xor_false]

set_option maxRecDepth 100000 in
set_option maxHeartbeats 800000 in
theorem exact_two (w : World) (g o : Nat) (hT : TenFs w g o) (d k : Nat) (neg : Bool) (h1 : 0 < d) (h2 : d < 4503599627370496) (hk0 : 22 < k) (hk : k ≤ 37) (hN : d * 10 ^ (k - 22) ≤ 1000000000000000) (r : Nat) (hr : Ieee.double.mul (Ieee.double.nearest neg (d * 10 ^ (k - 22)) 0) (tenWords.getD 22 0) = some r) :
    Calls Tryz.prog 136 #[.int .u64 d, .int .i64 k, .bool neg] w fun x w' => x = .returned (.tuple #[.float .f64 r, .bool true]) ∧ w = w' := by
  have c1 := hT.info
  have c2 := hT.var
  have c3 := hT.row (k - 22) (by omega)
  have c4 := hT.row 22 (by omega)
  have t1 : (((d : Int) / 4503599627370496) != 0) = false := by simp; omega
  have hF := of_whole d
  have hNg := neg_whole h1 (by omega)
  have t2 : ((k : Int) == 0) = false := by simp; omega
  have u1 : (0 : Int) < (k : Int) := by omega
  have u2 : (k : Int) ≤ 37 := by omega
  have u3 : (22 : Int) < (k : Int) := by omega
  have hM := mul_whole h1 (show k - 22 < 23 by omega) (by omega) neg
  obtain ⟨rg, r1, r2, r3, r4⟩ := whole_rung (Nat.mul_pos h1 (Nat.pow_pos (n := k - 22) (show 0 < 10 by decide))) (by omega)
  have g1 := cmp_gt (neg := neg) r3
  have g2 := cmp_lt (neg := neg) r3
  have hle : decide (4831355200913801216 < rg) = false := decide_eq_false (by have := r4.1 hN; omega)
  rw [hle, Bool.and_false] at g1 g2
  rw [← r1 neg] at g1 g2
  obtain ⟨j, hj⟩ : ∃ j : Nat, (k : Int) - 22 = (j : Int) := ⟨k - 22, by omega⟩
  rw [show k - 22 = j by omega] at *
  have hjs : j < 23 := by omega
  generalize tenWords.getD j 0 = T at *
  generalize tenWords.getD 22 0 = T2 at *
  generalize d * 10 ^ j = N at *
  have hx := fun (t : TypeId) (w : World) => run_float_arith (P := Tryz.prog) w .mul t .f64 (Ieee.double.nearest neg d 0) T _ hM
  have hy := fun (t : TypeId) (w : World) => run_float_arith (P := Tryz.prog) w .mul t .f64 (Ieee.double.nearest neg N 0) T2 r hr
  clear hr r1 r2 r3 r4 hle hM
  cases neg with
  | false =>
    generalize Ieee.double.nearest false N 0 = G at *
    generalize Ieee.double.nearest false d 0 = F at *
    generalize Ieee.double.nearest true d 0 = F' at *
    go_enter Tryz.func136, Tryz.ntmps136
    go_wp2_with fail
    go_ret2
    exact ⟨rfl, rfl⟩
  | true =>
    generalize Ieee.double.nearest true N 0 = G at *
    generalize Ieee.double.nearest false d 0 = F at *
    generalize Ieee.double.nearest true d 0 = F' at *
    have hU := run_neg_float (P := Tryz.prog) hNg
    go_enter Tryz.func136, Tryz.ntmps136
    go_wp2_with fail
    go_ret2
    exact ⟨rfl, rfl⟩
end Go.Proofs.YtkaeaiagmihmgaaGreatDoor

namespace Go.Proofs.YtkaeaiagmihmgaaGreatDoor
open Go.RowKit Go.Sort

set_option maxRecDepth 100000 in
set_option maxHeartbeats 800000 in
theorem exact_two_over (w : World) (g o : Nat) (hT : TenFs w g o) (d k : Nat) (neg : Bool) (h1 : 0 < d) (h2 : d < 4503599627370496) (hk0 : 22 < k) (hk : k ≤ 37) (hN : 1000000000000000 < d * 10 ^ (k - 22)) :
    Calls Tryz.prog 136 #[.int .u64 d, .int .i64 k, .bool neg] w fun x w' => ∃ f, x = .returned (.tuple #[.float .f64 f, .bool false]) ∧ w = w' := by
  have c1 := hT.info
  have c2 := hT.var
  have c3 := hT.row (k - 22) (by omega)
  have t1 : (((d : Int) / 4503599627370496) != 0) = false := by simp; omega
  have hF := of_whole d
  have hNg := neg_whole h1 (by omega)
  have t2 : ((k : Int) == 0) = false := by simp; omega
  have u1 : (0 : Int) < (k : Int) := by omega
  have u2 : (k : Int) ≤ 37 := by omega
  have u3 : (22 : Int) < (k : Int) := by omega
  obtain ⟨r, hM, r2, r3⟩ := mul_great h1 h2 (show k - 22 < 23 by omega) hN neg
  have g1 : (FloatKind.f64.format.order (sgn neg + r) 4831355200913801216 == some .gt) = !neg := great_gt (by decide) r3 r2
  have g2 : (FloatKind.f64.format.order (sgn neg + r) 14054727237768577024 == some .lt) = neg := great_lt (K := 4831355200913801216) (by decide) r3 r2
  obtain ⟨j, hj⟩ : ∃ j : Nat, (k : Int) - 22 = (j : Int) := ⟨k - 22, by omega⟩
  rw [show k - 22 = j by omega] at *
  have hjs : j < 23 := by omega
  generalize tenWords.getD j 0 = T at *
  generalize sgn neg + r = G at *
  have hx := fun (t : TypeId) (w : World) => run_float_arith (P := Tryz.prog) w .mul t .f64 (Ieee.double.nearest neg d 0) T _ hM
  clear r2 r3 hM hN
  cases neg with
  | false =>
    generalize Ieee.double.nearest false d 0 = F at *
    generalize Ieee.double.nearest true d 0 = F' at *
    go_enter Tryz.func136, Tryz.ntmps136
    go_wp2_with fail
    go_ret2
    exact ⟨_, rfl, rfl⟩
  | true =>
    generalize Ieee.double.nearest false d 0 = F at *
    generalize Ieee.double.nearest true d 0 = F' at *
    have hU := run_neg_float (P := Tryz.prog) hNg
    go_enter Tryz.func136, Tryz.ntmps136
    go_wp2_with fail
    go_ret2
    exact ⟨_, rfl, rfl⟩

/-- d * 10 ^ q lies in the interval of the float m * 2 ^ e. -/
structure InFloat (d : Nat) (q : Int) (m : Nat) (e : Int) (h : Nat) : Prop where
  m1 : 1 ≤ m
  m2 : m < 9007199254740992
  e1 : -1074 ≤ e
  e2 : e ≤ 971
  sub : m < 4503599627370496 → e = -1074
  hh : h = 2 ∨ h = 1 ∧ m = 4503599627370496
  hh2 : m = 4503599627370496 → -1074 < e → h = 1
  lo : lo2 (4 * m - h) (e - 2) q + m % 2 ≤ hi2 d (e - 2) q
  hi : hi2 d (e - 2) q + m % 2 ≤ lo2 (4 * m + 2) (e - 2) q
theorem InFloat.normal {d k m h : Nat} {e : Int} (H : InFloat d (-(k : Int)) m e h) (h0 : 0 < d) (hk : k < 23) : 4503599627370496 ≤ m := by
  rcases Nat.lt_or_ge m 4503599627370496 with h3 | h3
  · exfalso
    have he := H.sub h3
    subst he
    have hi := Nat.le_trans (Nat.le_add_right _ _) H.hi
    unfold hi2 lo2 at hi
    obtain ⟨T, hT, hT2⟩ : ∃ T : Nat, (-(-1074 - 2) : Int).toNat = T ∧ 128 ≤ T := ⟨1076, by decide, by decide⟩
    rw [show (-1074 - 2 : Int).toNat = 0 by decide, hT, show (-(k : Int)).toNat = 0 by omega, show (-(-(k : Int))).toNat = k by omega, Nat.pow_zero, Nat.mul_one, Nat.mul_one] at hi
    have a1 : 1 * 2 ^ T ≤ d * 2 ^ T := Nat.mul_le_mul_right _ h0
    have a2 : (4 * m + 2) * 10 ^ k ≤ 2 ^ 54 * 10 ^ 22 := Nat.mul_le_mul (by omega) (Nat.pow_le_pow_right (by decide) (by omega))
    have a3 : 2 ^ 54 * 10 ^ 22 < 2 ^ 128 := by decide
    have a4 : 2 ^ 128 ≤ 2 ^ T := Nat.pow_le_pow_right (by decide) hT2
    rw [Nat.one_mul] at a1
    exact absurd (Nat.lt_of_le_of_lt (Nat.le_trans (Nat.le_trans a1 hi) a2) (Nat.lt_of_lt_of_le a3 a4)) (Nat.lt_irrefl _)
  · exact h3

theorem exact_any (w : World) (g o : Nat) (hT : TenFs w g o) (d : Nat) (q : Int) (neg : Bool) (h1 : 0 < d) (h2 : d < 18446744073709551616) :
    Calls Tryz.prog 136 #[.int .u64 d, .int .i64 q, .bool neg] w fun x w' => ∃ f ok, x = .returned (.tuple #[.float .f64 f, .bool ok]) ∧ w = w' ∧
      (ok = true → f < 18446744073709551616 ∧ ∀ m e h, InFloat d q m e h → f = Ieee.double.word neg (rungOf m e)) := by
  rcases Nat.lt_or_ge d 4503599627370496 with hd | hd
  · by_cases q0 : q = 0
    · subst q0
      refine (exact_whole w g o hT d neg h1 hd).mono ?_
      rintro x w' ⟨rfl, rfl⟩
      refine ⟨_, true, rfl, rfl, fun _ => ⟨Ieee.Format.nearest_lt Ieee.double neg d 0, fun m e h H => ?_⟩⟩
      have hlo := H.lo
      have hhi := H.hi
      unfold lo2 hi2 at hlo hhi
      rw [show (-(0 : Int)).toNat = 0 by decide, show ((0 : Int)).toNat = 0 by decide, Nat.pow_zero, Nat.mul_one, Nat.mul_one] at hlo hhi
      exact nearest_is (h := h) (a := (e - 2).toNat) (b := (-(e - 2)).toNat) h1 H.m1 H.m2 H.e1 H.e2 H.sub H.hh H.hh2 (by omega) hlo hhi
    · by_cases qp : 0 < q
      · obtain ⟨k, rfl⟩ : ∃ k : Nat, q = (k : Int) := ⟨q.toNat, by omega⟩
        by_cases k37 : 37 < k
        · refine (exact_far w g o hT d k neg h1 hd (.inl (by omega))).mono ?_
          rintro x w' ⟨rfl, rfl⟩
          exact ⟨_, false, rfl, rfl, fun h => by cases h⟩
        · by_cases k22 : k < 23
          · by_cases d15 : d ≤ 1000000000000000
            · by_cases hex : ∃ m e h, InFloat d (k : Int) m e h
              · obtain ⟨m, e, h, H⟩ := hex
                have key : ∀ m e h, InFloat d (k : Int) m e h → Ieee.double.mul (Ieee.double.nearest neg d 0) (tenWords.getD k 0) = some (Ieee.double.word neg (rungOf m e)) := fun m e h H => by
                  have hlo := H.lo
                  have hhi := H.hi
                  unfold lo2 hi2 at hlo hhi
                  rw [show (-(k : Int)).toNat = 0 by omega, show ((k : Int)).toNat = k by omega, Nat.pow_zero, Nat.mul_one] at hlo hhi
                  rw [Nat.mul_right_comm] at hlo hhi
                  exact mul_ten (h := h) h1 (by omega) k22 H.m1 H.m2 H.e1 H.e2 H.sub H.hh H.hh2 hlo hhi
                refine (exact_mul w g o hT d k neg h1 d15 (by omega) k22 _ (key m e h H)).mono ?_
                rintro x w' ⟨rfl, rfl⟩
                exact ⟨_, true, rfl, rfl, fun _ => ⟨Ieee.Format.mul_lt Ieee.double (key m e h H), fun m' e' h' H' => Option.some.inj ((key m e h H).symm.trans (key m' e' h' H'))⟩⟩
              · have hs : ∃ r, Ieee.double.mul (Ieee.double.nearest neg d 0) (tenWords.getD k 0) = some r := by
                  obtain ⟨s, hs, q1, q2, hw⟩ := int_word h1 (show d < 9007199254740992 by omega)
                  obtain ⟨n, p, hr, n1, n2, n3, n4, n5⟩ := ten_word k22
                  unfold Ieee.Format.mul
                  rw [hw neg, read_word q1 q2 (by omega) (by omega), hr]
                  exact ⟨_, rfl⟩
                obtain ⟨r, hr⟩ := hs
                refine (exact_mul w g o hT d k neg h1 d15 (by omega) k22 r hr).mono ?_
                rintro x w' ⟨rfl, rfl⟩
                exact ⟨_, true, rfl, rfl, fun _ => ⟨Ieee.Format.mul_lt Ieee.double hr, fun m' e' h' H' => absurd ⟨m', e', h', H'⟩ hex⟩⟩
            · refine (exact_over w g o hT d k neg h1 (by omega) hd (by omega) k22).mono ?_
              rintro x w' ⟨rfl, rfl⟩
              exact ⟨_, false, rfl, rfl, fun h => by cases h⟩
          · by_cases d15 : d * 10 ^ (k - 22) ≤ 1000000000000000
            · have hN0 : 0 < d * 10 ^ (k - 22) := Nat.mul_pos h1 (Nat.pow_pos (by decide))
              have key : ∀ m e h, InFloat d (k : Int) m e h → Ieee.double.mul (Ieee.double.nearest neg (d * 10 ^ (k - 22)) 0) (tenWords.getD 22 0) = some (Ieee.double.word neg (rungOf m e)) := fun m e h H => by
                have hlo := H.lo
                have hhi := H.hi
                have e10 : d * 10 ^ (k - 22) * 10 ^ 22 = d * 10 ^ k := by rw [Nat.mul_assoc, ← Nat.pow_add, show k - 22 + 22 = k by omega]
                unfold lo2 hi2 at hlo hhi
                rw [show (-(k : Int)).toNat = 0 by omega, show ((k : Int)).toNat = k by omega, Nat.pow_zero, Nat.mul_one] at hlo hhi
                rw [Nat.mul_right_comm, ← e10] at hlo hhi
                exact mul_ten (h := h) hN0 (by omega) (by omega) H.m1 H.m2 H.e1 H.e2 H.sub H.hh H.hh2 hlo hhi
              have hs : ∃ r, Ieee.double.mul (Ieee.double.nearest neg (d * 10 ^ (k - 22)) 0) (tenWords.getD 22 0) = some r := by
                obtain ⟨s, hs, q1, q2, hw⟩ := int_word hN0 (by omega)
                obtain ⟨n, p, hr, n1, n2, n3, n4, n5⟩ := ten_word (show 22 < 23 by omega)
                unfold Ieee.Format.mul
                rw [hw neg, read_word q1 q2 (by omega) (by omega), hr]
                exact ⟨_, rfl⟩
              obtain ⟨r, hr⟩ := hs
              refine (exact_two w g o hT d k neg h1 hd (by omega) (by omega) d15 r hr).mono ?_
              rintro x w' ⟨rfl, rfl⟩
              exact ⟨_, true, rfl, rfl, fun _ => ⟨Ieee.Format.mul_lt Ieee.double hr, fun m' e' h' H' => Option.some.inj (hr.symm.trans (key m' e' h' H'))⟩⟩
            · refine (exact_two_over w g o hT d k neg h1 hd (by omega) (by omega) (by omega)).mono ?_
              rintro x w' ⟨f, rfl, rfl⟩
              exact ⟨_, false, rfl, rfl, fun h => by cases h⟩
      · obtain ⟨k, rfl⟩ : ∃ k : Nat, q = -(k : Int) := ⟨(-q).toNat, by omega⟩
        by_cases k22 : k < 23
        · have key : ∀ m e h, InFloat d (-(k : Int)) m e h → Ieee.double.div (Ieee.double.nearest neg d 0) (tenWords.getD k 0) = some (Ieee.double.word neg (rungOf m e)) := fun m e h H => by
            have hn := H.normal h1 k22
            have hlo := H.lo
            have hhi := H.hi
            unfold lo2 hi2 at hlo hhi
            rw [show (-(k : Int)).toNat = 0 by omega, show (-(-(k : Int))).toNat = k by omega, Nat.pow_zero, Nat.mul_one] at hlo hhi
            exact div_ten (h := h) h1 (by omega) k22 hn H.m2 H.e1 H.e2 H.hh H.hh2 hlo hhi
          have hs : ∃ r, Ieee.double.div (Ieee.double.nearest neg d 0) (tenWords.getD k 0) = some r := by
            obtain ⟨s, hs, q1, q2, hw⟩ := int_word h1 (show d < 9007199254740992 by omega)
            obtain ⟨n, p, hr, n1, n2, n3, n4, n5⟩ := ten_word k22
            unfold Ieee.Format.div
            rw [hw neg, read_word q1 q2 (by omega) (by omega), hr]
            unfold Ieee.Datum.quotient
            simp only []
            rw [if_neg (by omega)]
            exact ⟨_, rfl⟩
          obtain ⟨r, hr⟩ := hs
          refine (exact_div w g o hT d k neg h1 hd (by omega) k22 r hr).mono ?_
          rintro x w' ⟨rfl, rfl⟩
          exact ⟨_, true, rfl, rfl, fun _ => ⟨Ieee.Format.div_lt Ieee.double hr, fun m' e' h' H' => Option.some.inj (hr.symm.trans (key m' e' h' H'))⟩⟩
        · refine (exact_far w g o hT d _ neg h1 hd (.inr (by omega))).mono ?_
          rintro x w' ⟨rfl, rfl⟩
          exact ⟨_, false, rfl, rfl, fun h => by cases h⟩
  · refine (exact_great w g o hT d q neg hd h2).mono ?_
    rintro x w' ⟨rfl, rfl⟩
    exact ⟨_, false, rfl, rfl, fun h => by cases h⟩
end Go.Proofs.YtkaeaiagmihmgaaGreatDoor
