/- The slow decimal road of the library's ParseFloat, as plain mathematics: digits, shifts to the left and to the right. No program is named here. -/
/- The slow decimal road, walked: the decimal in memory, trim. -/
/- The slow decimal road: bytes that are digits (rightShift's walk is to come: NOTES.md, section 10). -/
import Derived.Test.YtkaeaiagmihmgaaGreatDoorQInfo
import Derived.Test.YtkaeaiagmihmgaaGreatDoorRows
import Derived.WalkKit
import Derived.WalkSpells
import Derived.WalkLawsBesides
import Derived.Lib.Hide
import Derived.Deep.LoopGhost
import Derived.Deep.QuietTactic
import Derived.Deep.RegionHeld3
import Derived.BigQuiet
import Derived.Laws.BitsAllLaws
namespace Go.Proofs.YtkaeaiagmihmgaaGreatDoor
open Go.RowKit

/-- The number that the first n digits of f spell. -/
def dval (f : Nat → Nat) : Nat → Nat
  | 0 => 0
  | n + 1 => dval f n * 10 + f n
/-- Digits that count: all below ten, the first of them not nought. -/
structure Digs (f : Nat → Nat) (n : Nat) : Prop where
  pos : 1 ≤ n
  le : n ≤ 800
  dig : ∀ i, i < n → f i ≤ 9
  first : 1 ≤ f 0
theorem dval_lt {f : Nat → Nat} : ∀ {n : Nat}, (∀ i, i < n → f i ≤ 9) → dval f n < 10 ^ n
  | 0, _ => by simp [dval]
  | n + 1, h => by
    have h1 := dval_lt (f := f) (n := n) (fun i hi => h i (by omega))
    have h2 := h n (by omega)
    rw [dval, Nat.pow_succ]
    omega
theorem dval_split {f : Nat → Nat} {i : Nat} : ∀ {n : Nat}, i ≤ n → (∀ j, j < n → f j ≤ 9) → dval f i * 10 ^ (n - i) ≤ dval f n ∧ dval f n < (dval f i + 1) * 10 ^ (n - i) := by
  intro n hi h
  induction n with
  | zero =>
    obtain rfl : i = 0 := by omega
    simp [dval]
  | succ n ih =>
    by_cases he : i = n + 1
    · subst he
      simp
    · obtain ⟨h1, h2⟩ := ih (by omega) (fun j hj => h j (by omega))
      have h3 := h n (by omega)
      rw [show n + 1 - i = (n - i) + 1 by omega, Nat.pow_succ, dval, ← Nat.mul_assoc, ← Nat.mul_assoc]
      generalize dval f i * 10 ^ (n - i) = a at *
      generalize (dval f i + 1) * 10 ^ (n - i) = b at *
      omega
theorem dval_one (f : Nat → Nat) : dval f 1 = f 0 := by simp [dval]
theorem dval_ge {f : Nat → Nat} {n : Nat} (h : Digs f n) : 10 ^ (n - 1) ≤ dval f n := by
  have := (dval_split (f := f) (i := 1) (n := n) h.pos h.dig).1
  rw [dval_one] at this
  exact Nat.le_trans (by have := h.first; exact Nat.le_mul_of_pos_left _ (by omega)) this

/-- Do the first n digits of f come ahead of the m digits of c? -/
def before (f : Nat → Nat) (n : Nat) (c : Nat → Nat) (m : Nat) : Nat → Nat → Bool
  | 0, _ => false
  | k + 1, i => if m ≤ i then false else if n ≤ i then true else if f i ≠ c i then decide (f i < c i) else before f n c m k (i + 1)
theorem before_spec {f c : Nat → Nat} {n m : Nat} (hf : ∀ i, i < n → f i ≤ 9) (hc : ∀ i, i < m → c i ≤ 9) (hm : 1 ≤ m) (hl : 1 ≤ c (m - 1)) :
    ∀ (k i : Nat), m ≤ i + k → i ≤ m → i ≤ n → (∀ j, j < i → f j = c j) → dval f i = dval c i →
      (before f n c m k i = true → dval f n * 10 ^ m < dval c m * 10 ^ n) ∧ (before f n c m k i = false → dval c m * 10 ^ n ≤ dval f n * 10 ^ m) := by
  have whole : ∀ {i : Nat}, i ≤ n → i = m → dval f i = dval c i → dval c m * 10 ^ n ≤ dval f n * 10 ^ m := fun {i} hn hi he => by
    subst hi
    have h1 := (dval_split (f := f) (i := i) (n := n) hn hf).1
    rw [he] at h1
    have e : 10 ^ n = 10 ^ (n - i) * 10 ^ i := by rw [← Nat.pow_add]; congr 1; omega
    rw [e, ← Nat.mul_assoc]
    exact Nat.mul_le_mul_right _ h1
  intro k
  induction k with
  | zero =>
    intro i hk him hin _ he
    refine ⟨fun h => by simp [before] at h, fun _ => whole hin (by omega) he⟩
  | succ k ih =>
    intro i hk him hin hj he
    unfold before
    by_cases h1 : m ≤ i
    · rw [if_pos h1]
      exact ⟨fun h => by simp at h, fun _ => whole hin (by omega) he⟩
    · rw [if_neg h1]
      by_cases h2 : n ≤ i
      · rw [if_pos h2]
        obtain rfl : i = n := by omega
        refine ⟨fun _ => ?_, fun h => by simp at h⟩
        rw [he]
        obtain ⟨q, hq⟩ : ∃ q, m = q + 1 := ⟨m - 1, by omega⟩
        subst hq
        have h3 := (dval_split (f := c) (i := i) (n := q) (by omega) (fun j hj => hc j (by omega))).1
        rw [Nat.add_sub_cancel] at hl
        rw [dval]
        have e : 10 ^ (q + 1) = 10 ^ (q - i) * 10 * 10 ^ i := by rw [← Nat.pow_succ, ← Nat.pow_add]; congr 1; omega
        rw [e, ← Nat.mul_assoc, ← Nat.mul_assoc]
        refine Nat.mul_lt_mul_of_pos_right ?_ (Nat.pow_pos (by omega))
        generalize dval c i * 10 ^ (q - i) = a at *
        omega
      · rw [if_neg h2]
        have hfi := hf i (by omega)
        have hci := hc i (by omega)
        have sf := dval_split (f := f) (i := i + 1) (n := n) (by omega) hf
        have sc := dval_split (f := c) (i := i + 1) (n := m) (by omega) hc
        have ef : dval f (i + 1) = dval c i * 10 + f i := by rw [dval, he]
        have ec : dval c (i + 1) = dval c i * 10 + c i := rfl
        have p1 : 10 ^ (n - (i + 1)) * 10 ^ m = 10 ^ (n + m - (i + 1)) := by rw [← Nat.pow_add]; congr 1; omega
        have p2 : 10 ^ (m - (i + 1)) * 10 ^ n = 10 ^ (n + m - (i + 1)) := by rw [← Nat.pow_add]; congr 1; omega
        have up : ∀ {x u z : Nat}, x < u * 10 ^ z → ∀ y, x * 10 ^ y < u * (10 ^ z * 10 ^ y) := fun h y => by
          rw [← Nat.mul_assoc]
          exact Nat.mul_lt_mul_of_pos_right h (Nat.pow_pos (by omega))
        have dn : ∀ {x u z : Nat}, u * 10 ^ z ≤ x → ∀ y, u * (10 ^ z * 10 ^ y) ≤ x * 10 ^ y := fun h y => by
          rw [← Nat.mul_assoc]
          exact Nat.mul_le_mul_right _ h
        have f1 := up sf.2 m
        have f2 := dn sf.1 m
        have c1 := up sc.2 n
        have c2 := dn sc.1 n
        rw [p1] at f1 f2
        rw [p2] at c1 c2
        by_cases h3 : f i ≠ c i
        · rw [if_pos h3]
          refine ⟨fun h => ?_, fun h => ?_⟩
          · have h4 : f i < c i := by simpa using h
            have : (dval f (i + 1) + 1) * 10 ^ (n + m - (i + 1)) ≤ dval c (i + 1) * 10 ^ (n + m - (i + 1)) := Nat.mul_le_mul_right _ (by omega)
            omega
          · have h4 : ¬ f i < c i := by simpa using h
            have : (dval c (i + 1) + 1) * 10 ^ (n + m - (i + 1)) ≤ dval f (i + 1) * 10 ^ (n + m - (i + 1)) := Nat.mul_le_mul_right _ (by omega)
            omega
        · rw [if_neg h3]
          have h4 : f i = c i := Classical.not_not.1 h3
          refine ih (i + 1) (by omega) (by omega) (by omega) (fun j hj' => ?_) (by rw [ef, ec, h4])
          by_cases hji : j = i
          · subst hji; exact h4
          · exact hj j (by omega)

/-- What the table of cheats holds for a shift by k: delta digits more, unless the digits come ahead of the m digits c of 5^k. -/
structure Cheat (k delta : Nat) (c : Nat → Nat) (m : Nat) : Prop where
  lo : 10 ^ (delta - 1) ≤ 2 ^ k
  hi : 2 ^ k < 10 ^ delta
  one : 1 ≤ delta
  m1 : 1 ≤ m
  len : m + delta = k + 1
  dig : ∀ i, i < m → c i ≤ 9
  last : 1 ≤ c (m - 1)
  val : dval c m = 5 ^ k
/-- So many digits more. -/
def more (f : Nat → Nat) (n delta : Nat) (c : Nat → Nat) (m : Nat) : Nat := if before f n c m m 0 then delta - 1 else delta
theorem more_spec {f c : Nat → Nat} {n m k delta : Nat} (hd : Digs f n) (hc : Cheat k delta c m) :
    10 ^ (n + more f n delta c m - 1) ≤ dval f n * 2 ^ k ∧ dval f n * 2 ^ k < 10 ^ (n + more f n delta c m) := by
  have hb := before_spec hd.dig hc.dig hc.m1 hc.last m 0 (by omega) (by omega) (by omega) (fun j hj => by omega) rfl
  have hlt := dval_lt hd.dig
  have hge := dval_ge hd
  have h1 := hc.one
  have hn := hd.pos
  have hl := hc.len
  have ten : 10 ^ k = 5 ^ k * 2 ^ k := by rw [← Nat.mul_pow]
  rw [hc.val] at hb
  unfold more
  by_cases hbf : before f n c m m 0 = true
  · rw [if_pos hbf]
    have h2 := hb.1 hbf
    refine ⟨?_, ?_⟩
    · have := Nat.mul_le_mul hge hc.lo
      rw [← Nat.pow_add] at this
      rw [show n + (delta - 1) - 1 = n - 1 + (delta - 1) by omega]
      exact this
    · have h3 := Nat.mul_lt_mul_of_pos_right h2 (show 0 < 2 ^ k from Nat.pow_pos (by omega))
      have e1 : 5 ^ k * 10 ^ n * 2 ^ k = 10 ^ (n + (delta - 1)) * 10 ^ m := by
        rw [Nat.mul_right_comm, ← ten, ← Nat.pow_add, ← Nat.pow_add]
        congr 1
        omega
      have e2 : dval f n * 10 ^ m * 2 ^ k = dval f n * 2 ^ k * 10 ^ m := Nat.mul_right_comm _ _ _
      rw [e1, e2] at h3
      exact Nat.lt_of_mul_lt_mul_right h3
  · have hbf' : before f n c m m 0 = false := by simpa using hbf
    rw [if_neg hbf]
    have h2 := hb.2 hbf'
    refine ⟨?_, ?_⟩
    · have h3 := Nat.mul_le_mul_right (2 ^ k) h2
      have e1 : 5 ^ k * 10 ^ n * 2 ^ k = 10 ^ (n + delta - 1) * 10 ^ m := by
        rw [Nat.mul_right_comm, ← ten, ← Nat.pow_add, ← Nat.pow_add]
        congr 1
        omega
      have e2 : dval f n * 10 ^ m * 2 ^ k = dval f n * 2 ^ k * 10 ^ m := Nat.mul_right_comm _ _ _
      rw [e1, e2] at h3
      exact Nat.le_of_mul_le_mul_right h3 (Nat.pow_pos (by omega))
    · have h3 : dval f n * 2 ^ k < 10 ^ n * 10 ^ delta := by
        refine Nat.lt_of_lt_of_le (Nat.mul_lt_mul_of_pos_right hlt (Nat.pow_pos (by omega))) ?_
        exact Nat.mul_le_mul_left _ (Nat.le_of_lt hc.hi)
      rw [← Nat.pow_add] at h3
      exact h3

/-- The first r digits, and the carry behind them, are what is left of the product. -/
theorem left_step {f : Nat → Nat} {r k n V j : Nat} (h : dval f (r + 1) * 2 ^ k + n = V / 10 ^ j) : dval f r * 2 ^ k + (f r * 2 ^ k + n) / 10 = V / 10 ^ (j + 1) := by
  rw [Nat.pow_succ, ← Nat.div_div_eq_div_mul, ← h, dval, Nat.add_mul, Nat.mul_right_comm]
  generalize dval f r * 2 ^ k = a
  omega
theorem left_carry {d n K : Nat} (hd : d ≤ 9) (hn : n ≤ K) : (d * K + n) / 10 ≤ K := by
  have : d * K ≤ 9 * K := Nat.mul_le_mul_right _ hd
  omega
/-- The carry at the end of the first loop, and the digit that it put down last. -/
theorem left_end {f : Nat → Nat} {nd k g n : Nat} (h1 : 10 ^ (nd + g - 1) ≤ dval f nd * 2 ^ k) (h2 : dval f nd * 2 ^ k < 10 ^ (nd + g)) (hn : n = dval f nd * 2 ^ k / 10 ^ nd) : n < 10 ^ g ∧ (1 ≤ g → 10 ^ (g - 1) ≤ n) := by
  subst hn
  have hp : 0 < 10 ^ nd := Nat.pow_pos (by omega)
  refine ⟨?_, fun hg => ?_⟩
  · rw [Nat.div_lt_iff_lt_mul hp, ← Nat.pow_add, Nat.add_comm]
    exact h2
  · rw [Nat.le_div_iff_mul_le hp, ← Nat.pow_add, show g - 1 + nd = nd + g - 1 by omega]
    exact h1
theorem left_first {f : Nat → Nat} {nd k : Nat} (hd : Digs f nd) (hk : 1 ≤ k) (h2 : dval f nd * 2 ^ k < 10 ^ (nd + 0)) :
    dval f nd * 2 ^ k / 10 ^ (nd - 1) % 10 = dval f nd * 2 ^ k / 10 ^ (nd - 1) ∧ 2 * f 0 ≤ dval f nd * 2 ^ k / 10 ^ (nd - 1) := by
  have hp : 0 < 10 ^ (nd - 1) := Nat.pow_pos (by omega)
  have hn := hd.pos
  refine ⟨Nat.mod_eq_of_lt ?_, ?_⟩
  · rw [Nat.div_lt_iff_lt_mul hp]
    have e : 10 * 10 ^ (nd - 1) = 10 ^ (nd + 0) := by rw [← Nat.pow_succ']; congr 1; omega
    rw [e]
    exact h2
  · rw [Nat.le_div_iff_mul_le hp]
    have h3 := (dval_split (f := f) (i := 1) (n := nd) hn hd.dig).1
    rw [dval_one] at h3
    have h4 : 2 ^ 1 ≤ 2 ^ k := Nat.pow_le_pow_right (by omega) hk
    have := Nat.mul_le_mul h3 h4
    rw [Nat.pow_one] at this
    rw [Nat.mul_assoc, Nat.mul_comm 2]
    exact this
theorem left_out {n w : Nat} (h1 : n < 10 ^ w) (h2 : 1 ≤ w → 10 ^ (w - 1) ≤ n) (hn : 0 < n) : 1 ≤ w ∧ n / 10 < 10 ^ (w - 1) ∧ (1 ≤ w - 1 → 10 ^ (w - 1 - 1) ≤ n / 10) := by
  have hw : 1 ≤ w := by
    rcases Nat.eq_zero_or_pos w with h | h
    · subst h; simp at h1; omega
    · exact h
  have e : 10 ^ w = 10 ^ (w - 1) * 10 := by rw [← Nat.pow_succ]; congr 1; omega
  refine ⟨hw, by omega, fun hw2 => ?_⟩
  have h3 := h2 hw
  have e2 : 10 ^ (w - 1) = 10 ^ (w - 1 - 1) * 10 := by rw [← Nat.pow_succ]; congr 1; omega
  omega
theorem right_step {n K c : Nat} (hK : 0 < K) (hc : c ≤ 9) : n % K * 10 + c < 10 * K := by
  have := Nat.mod_lt n hK
  omega
theorem right_dig {n K : Nat} (hK : 0 < K) (hn : n < 10 * K) : n / K ≤ 9 := by
  have := (Nat.div_lt_iff_lt_mul hK).2 hn
  omega
theorem right_two {n k j : Nat} (hj : j ≤ k) (h : 2 ^ j ∣ n) : 2 ^ (j + 1) ∣ n % 2 ^ k * 10 := by
  have h1 : 2 ^ j ∣ n % 2 ^ k := (Nat.dvd_mod_iff (Nat.pow_dvd_pow 2 hj)).2 h
  obtain ⟨a, ha⟩ := h1
  exact ⟨a * 5, by rw [ha, Nat.pow_succ, Nat.mul_assoc, Nat.mul_assoc]; congr 1; omega⟩
end Go.Proofs.YtkaeaiagmihmgaaGreatDoor

namespace Go.Proofs.YtkaeaiagmihmgaaGreatDoor
open Go.RowKit

/-- The decimal at block g: bytes F, nd of them used, the point behind the first dp. -/
structure Dec (w : World) (g : Nat) (F : Nat → Nat) (nd dp : Int) (neg trunc : Bool) : Prop where
  ex : ∃ cs, At w g 96 cs ∧ cs.size = 804 ∧ (∀ i, i < 800 → cs[i]? = some (.int .u8 (F i))) ∧ cs[800]? = some (.int .i64 nd) ∧ cs[801]? = some (.int .i64 dp) ∧ cs[802]? = some (.bool neg) ∧ cs[803]? = some (.bool trunc)
section
variable {w w' : World} {g : Nat} {F : Nat → Nat} {nd dp : Int} {neg trunc : Bool}
theorem Dec.lt (h : Dec w g F nd dp neg trunc) : g < w.heap.size := by
  obtain ⟨cs, h1, _⟩ := h.ex
  exact h1.lt
theorem Dec.cell (h : Dec w g F nd dp neg trunc) {i : Nat} (hi : i < 800) : w.cell? ⟨g, i, none⟩ = some (.int .u8 (F i)) := by
  obtain ⟨cs, h1, _, h3, _⟩ := h.ex
  rw [h1.cell]; exact h3 i hi
theorem Dec.cN (h : Dec w g F nd dp neg trunc) : w.cell? ⟨g, 800, none⟩ = some (.int .i64 nd) := by
  obtain ⟨cs, h1, _, _, h4, _⟩ := h.ex
  rw [h1.cell]; exact h4
theorem Dec.cP (h : Dec w g F nd dp neg trunc) : w.cell? ⟨g, 801, none⟩ = some (.int .i64 dp) := by
  obtain ⟨cs, h1, _, _, _, h5, _⟩ := h.ex
  rw [h1.cell]; exact h5
theorem Dec.cG (h : Dec w g F nd dp neg trunc) : w.cell? ⟨g, 802, none⟩ = some (.bool neg) := by
  obtain ⟨cs, h1, _, _, _, _, h6, _⟩ := h.ex
  rw [h1.cell]; exact h6
theorem Dec.cT (h : Dec w g F nd dp neg trunc) : w.cell? ⟨g, 803, none⟩ = some (.bool trunc) := by
  obtain ⟨cs, h1, _, _, _, _, _, h7⟩ := h.ex
  rw [h1.cell]; exact h7
theorem Dec.unfrozen (h : Dec w g F nd dp neg trunc) (i : Nat) : w.frozen? ⟨g, i, none⟩ = false := by
  obtain ⟨cs, h1, _⟩ := h.ex
  exact h1.unfrozen i
theorem Dec.keep (h : Dec w g F nd dp neg trunc) (k : w'.heap[g]? = w.heap[g]?) : Dec w' g F nd dp neg trunc := by
  obtain ⟨cs, h1, h2⟩ := h.ex
  exact ⟨⟨cs, h1.keep k, h2⟩⟩
theorem Dec.putNd (h : Dec w g F nd dp neg trunc) (n : Int) : Dec (w.setCell ⟨g, 800, none⟩ (.int .i64 n)) g F n dp neg trunc := by
  obtain ⟨cs, h1, h2, h3, h4, h5, h6, h7⟩ := h.ex
  refine ⟨⟨_, h1.put 800 _, by simpa using h2, fun i hi => ?_, ?_, ?_, ?_, ?_⟩⟩
  · rw [Array.getElem?_setIfInBounds_ne (by omega)]; exact h3 i hi
  · exact Array.getElem?_setIfInBounds_self_of_lt (by omega)
  · rw [Array.getElem?_setIfInBounds_ne (by omega)]; exact h5
  · rw [Array.getElem?_setIfInBounds_ne (by omega)]; exact h6
  · rw [Array.getElem?_setIfInBounds_ne (by omega)]; exact h7
theorem Dec.putDp (h : Dec w g F nd dp neg trunc) (n : Int) : Dec (w.setCell ⟨g, 801, none⟩ (.int .i64 n)) g F nd n neg trunc := by
  obtain ⟨cs, h1, h2, h3, h4, h5, h6, h7⟩ := h.ex
  refine ⟨⟨_, h1.put 801 _, by simpa using h2, fun i hi => ?_, ?_, ?_, ?_, ?_⟩⟩
  · rw [Array.getElem?_setIfInBounds_ne (by omega)]; exact h3 i hi
  · rw [Array.getElem?_setIfInBounds_ne (by omega)]; exact h4
  · exact Array.getElem?_setIfInBounds_self_of_lt (by omega)
  · rw [Array.getElem?_setIfInBounds_ne (by omega)]; exact h6
  · rw [Array.getElem?_setIfInBounds_ne (by omega)]; exact h7
theorem Dec.putNeg (h : Dec w g F nd dp neg trunc) (b : Bool) : Dec (w.setCell ⟨g, 802, none⟩ (.bool b)) g F nd dp b trunc := by
  obtain ⟨cs, h1, h2, h3, h4, h5, h6, h7⟩ := h.ex
  refine ⟨⟨_, h1.put 802 _, by simpa using h2, fun i hi => ?_, ?_, ?_, ?_, ?_⟩⟩
  · rw [Array.getElem?_setIfInBounds_ne (by omega)]; exact h3 i hi
  · rw [Array.getElem?_setIfInBounds_ne (by omega)]; exact h4
  · rw [Array.getElem?_setIfInBounds_ne (by omega)]; exact h5
  · exact Array.getElem?_setIfInBounds_self_of_lt (by omega)
  · rw [Array.getElem?_setIfInBounds_ne (by omega)]; exact h7
theorem Dec.putTrunc (h : Dec w g F nd dp neg trunc) (b : Bool) : Dec (w.setCell ⟨g, 803, none⟩ (.bool b)) g F nd dp neg b := by
  obtain ⟨cs, h1, h2, h3, h4, h5, h6, h7⟩ := h.ex
  refine ⟨⟨_, h1.put 803 _, by simpa using h2, fun i hi => ?_, ?_, ?_, ?_, ?_⟩⟩
  · rw [Array.getElem?_setIfInBounds_ne (by omega)]; exact h3 i hi
  · rw [Array.getElem?_setIfInBounds_ne (by omega)]; exact h4
  · rw [Array.getElem?_setIfInBounds_ne (by omega)]; exact h5
  · rw [Array.getElem?_setIfInBounds_ne (by omega)]; exact h6
  · exact Array.getElem?_setIfInBounds_self_of_lt (by omega)
/-- One byte turned. -/
def upd (F : Nat → Nat) (j b : Nat) : Nat → Nat := fun i => if i = j then b else F i
theorem upd_same (F : Nat → Nat) (j b : Nat) : upd F j b j = b := by simp [upd]
theorem upd_other (F : Nat → Nat) {i j : Nat} (b : Nat) (h : i ≠ j) : upd F j b i = F i := by simp [upd, h]
theorem Dec.putD (h : Dec w g F nd dp neg trunc) {j : Nat} (hj : j < 800) (b : Nat) : Dec (w.setCell ⟨g, j, none⟩ (.int .u8 (b : Int))) g (upd F j b) nd dp neg trunc := by
  obtain ⟨cs, h1, h2, h3, h4, h5, h6, h7⟩ := h.ex
  refine ⟨⟨_, h1.put j _, by simpa using h2, fun i hi => ?_, ?_, ?_, ?_, ?_⟩⟩
  · by_cases hij : i = j
    · subst hij
      rw [Array.getElem?_setIfInBounds_self_of_lt (by omega), upd_same]
    · rw [Array.getElem?_setIfInBounds_ne (by omega), upd_other F b hij]; exact h3 i hi
  · rw [Array.getElem?_setIfInBounds_ne (by omega)]; exact h4
  · rw [Array.getElem?_setIfInBounds_ne (by omega)]; exact h5
  · rw [Array.getElem?_setIfInBounds_ne (by omega)]; exact h6
  · rw [Array.getElem?_setIfInBounds_ne (by omega)]; exact h7
/-- Nothing but block g has turned. -/
theorem grown_put (w : World) (g i : Nat) (u : Value) : w.grownBy (w.setCell ⟨g, i, none⟩ u) (some g) := grownBy_set w g i u
end

theorem grown_drew (w : World) (n : Nat) (row : Option Nat) : w.grownBy (w.drewN n) row := ⟨rfl, rfl, rfl, Nat.le_refl _, fun _ _ _ => rfl⟩
/-- How many digits the decimal at g has. -/
def ndIn (w : World) (g : Nat) : Nat := match w.cell? ⟨g, 800, none⟩ with
  | some (.int _ n) => n.toNat
  | _ => 0
theorem Dec.ndIn {w : World} {g : Nat} {F : Nat → Nat} {n : Nat} {dp : Int} {neg trunc : Bool} (h : Dec w g F n dp neg trunc) : ndIn w g = n := by
  unfold Go.Proofs.YtkaeaiagmihmgaaGreatDoor.ndIn
  rw [h.cN]
  simp

set_option maxRecDepth 100000 in
set_option maxHeartbeats 400000 in
theorem trim_any (w : World) (g : Nat) (F : Nat → Nat) (nd : Nat) (dp : Int) (neg trunc : Bool) (h : Dec w g F nd dp neg trunc) (hn : nd ≤ 800) (h1 : 1 ≤ nd) (hF : F 0 ≠ 48) :
    Calls Tryz.prog 99 #[.pointer (some ⟨g, 0, none⟩)] w fun e w' => e = .returned (.tuple #[]) ∧ ∃ n : Nat, 1 ≤ n ∧ n ≤ nd ∧ Dec w' g F n dp neg trunc ∧ w.grownBy w' (some g) := by
  go_enter Tryz.func99, Tryz.ntmps99
  go_wp2_with fail
  go_loopw [2] (fun _ wr => ∃ n : Nat, 1 ≤ n ∧ n ≤ nd ∧ Dec wr g F n dp neg trunc ∧ w.grownBy wr (some g)) (fun _ wr => ndIn wr g)
  case atStart => exact ⟨nd, h1, Nat.le_refl _, h, World.grownBy.refl w _⟩
  case round =>
    obtain ⟨n, hn1, hn2, hD, hG⟩ := hrel
    have c0 := hD.cN
    have c1 := hD.cP
    have c2 : wr.cell? ⟨g, n - 1, none⟩ = _ := hD.cell (by omega)
    have t0 : decide (0 < n) = true := by simp; omega
    have t0' : 0 < n := by omega
    have hw : IntKind.i64.wrap ((n : Int) - 1) = ((n - 1 : Nat) : Int) := by rw [IntKind.wrap_i64]; omega
    have hlt : n - 1 < 800 := by omega
    obtain ⟨m, hm⟩ : ∃ m, n - 1 = m := ⟨_, rfl⟩
    rw [hm] at c2 hw hlt
    by_cases hz : F m = 48
    · have hm1 : 1 ≤ m := by
        rcases Nat.eq_zero_or_pos m with h0 | h0
        · subst h0; exact absurd hz hF
        · exact h0
      rw [hz] at c2
      go_wp2_with fail
      go_quiet (fail)
      have hD2 : Dec (wr.drewN nq) g F n dp neg trunc := hD.keep rfl
      have hG2 := grownBy_tr hG (grown_drew wr nq (some g))
      generalize wr.drewN nq = w2 at *
      have c0 := hD2.cN
      have f0 := hD2.unfrozen 800
      have hp := hD2.putNd ((m : Nat) : Int)
      have hG3 := grownBy_tr hG2 (grown_put w2 g 800 (.int .i64 ((m : Nat) : Int)))
      have hwm : (n : Int) - 1 = (m : Int) := by omega
      go_wp2_with fail
      exact ⟨⟨m, hm1, by omega, hp, hG3⟩, by rw [hp.ndIn, hD.ndIn]; omega⟩
    · have hz' : ((F m : Int) == 48) = false := by simp; omega
      go_wp2_with fail
      go_quiet (fail)
      have hD2 : Dec (wr.drewN nq) g F n dp neg trunc := hD.keep rfl
      have hG2 := grownBy_tr hG (grown_drew wr nq (some g))
      generalize wr.drewN nq = w2 at *
      have c0 := hD2.cN
      have t1 : ((n : Int) == 0) = false := by simp; omega
      go_wp2_with fail
      go_end0
      exact ⟨rfl, n, hn1, hn2, hD2, hG2⟩
end Go.Proofs.YtkaeaiagmihmgaaGreatDoor

namespace Go.Proofs.YtkaeaiagmihmgaaGreatDoor
open Go.RowKit

/-- The digits' bytes. -/
def digOf (F : Nat → Nat) : Nat → Nat := fun i => F i - 48
/-- Bytes that are digits, the first not nought. -/
structure Num (F : Nat → Nat) (n : Nat) : Prop where
  pos : 1 ≤ n
  le : n ≤ 800
  dig : ∀ i, i < n → 48 ≤ F i ∧ F i ≤ 57
  first : 49 ≤ F 0
theorem Num.digs {F : Nat → Nat} {n : Nat} (h : Num F n) : Digs (digOf F) n := ⟨h.pos, h.le, fun i hi => by have := h.dig i hi; unfold digOf; omega, by have := h.first; unfold digOf; omega⟩

theorem shr_nat (v k : Nat) : (v : Int) / 2 ^ k = ((v / 2 ^ k : Nat) : Int) := by
  rw [Int.natCast_ediv, Int.natCast_pow]
  rfl
end Go.Proofs.YtkaeaiagmihmgaaGreatDoor
