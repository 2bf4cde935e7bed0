/- Plain mathematics of keys: numbers as bytes, most significant first; texts with their zeros marked; their order, their beginnings. No program is named here. -/
import Derived.Below
import Derived.Lib.Varint
import Derived.Lib.VarintMem
namespace Go.Proofs.Yteehccklnidofaa
open Go.Op (bytesLess)

theorem less_cons (a b : UInt8) (x y : List UInt8) : bytesLess (a :: x) (b :: y) = (decide (a < b) || (a == b && bytesLess x y)) := rfl
theorem less_same (a : UInt8) (x y : List UInt8) : bytesLess (a :: x) (a :: y) = bytesLess x y := by
  rw [less_cons]; simp
theorem less_lt {a b : UInt8} (h : a.toNat < b.toNat) (x y : List UInt8) : bytesLess (a :: x) (b :: y) = true := by
  rw [less_cons, decide_eq_true (UInt8.lt_iff_toNat_lt.2 h)]; rfl
theorem less_gt {a b : UInt8} (h : b.toNat < a.toNat) (x y : List UInt8) : bytesLess (a :: x) (b :: y) = false := by
  have h1 : ¬ a < b := fun e => by have := UInt8.lt_iff_toNat_lt.1 e; omega
  have h2 : (a == b) = false := beq_eq_false_iff_ne.2 (fun e => by subst e; omega)
  rw [less_cons, decide_eq_false h1, h2]; rfl

/-- The k bytes of a number, most significant first. -/
def bigE : Nat → Nat → List UInt8
  | 0, _ => []
  | k + 1, u => (u / 256 ^ k % 256).toUInt8 :: bigE k u
theorem bigE_len : ∀ k u, (bigE k u).length = k
  | 0, _ => rfl
  | k + 1, u => by simp [bigE, bigE_len k u]
theorem digit_nat (n : Nat) : (n % 256).toUInt8.toNat = n % 256 := Lib.toUInt8_toNat (Nat.mod_lt _ (by omega))
theorem bigE_mod : ∀ k u, bigE k (u % 256 ^ k) = bigE k u
  | 0, _ => rfl
  | k + 1, u => by
    have e1 : u % 256 ^ (k + 1) / 256 ^ k % 256 = u / 256 ^ k % 256 := by
      rw [Nat.pow_succ, Nat.mod_mul_right_div_self, Nat.mod_mod]
    have e2 : u % 256 ^ (k + 1) % 256 ^ k = u % 256 ^ k := by
      rw [Nat.pow_succ, Nat.mod_mul_right_mod]
    rw [bigE, bigE, e1, ← bigE_mod k (u % 256 ^ (k + 1)), e2, bigE_mod k u]
theorem mod_step (k u : Nat) : u % 256 ^ (k + 1) = u % 256 ^ k + 256 ^ k * (u / 256 ^ k % 256) := by
  rw [Nat.pow_succ, Nat.mod_mul]
/-- The order of such bytes, whatever follows. -/
theorem bigE_less : ∀ (k u v : Nat) (r s : List UInt8), bytesLess (bigE k u ++ r) (bigE k v ++ s) = if u % 256 ^ k < v % 256 ^ k then true else if v % 256 ^ k < u % 256 ^ k then false else bytesLess r s
  | 0, u, v, r, s => by simp [bigE, Nat.mod_one]
  | k + 1, u, v, r, s => by
    have hp : 0 < 256 ^ k := Nat.pos_of_ne_zero (by simp)
    have hu := Nat.mod_lt u hp
    have hv := Nat.mod_lt v hp
    rw [mod_step k u, mod_step k v]
    have du := digit_nat (u / 256 ^ k)
    have dv := digit_nat (v / 256 ^ k)
    simp only [bigE, List.cons_append]
    rcases Nat.lt_trichotomy (u / 256 ^ k % 256) (v / 256 ^ k % 256) with h | h | h
    · rw [less_lt (by omega)]
      have : 256 ^ k * (u / 256 ^ k % 256) + 256 ^ k ≤ 256 ^ k * (v / 256 ^ k % 256) := by
        rw [← Nat.mul_succ]; exact Nat.mul_le_mul_left _ h
      rw [if_pos (by omega)]
    · rw [h, less_same, bigE_less k u v r s]
      generalize 256 ^ k * (v / 256 ^ k % 256) = z
      (repeat' split) <;> first | rfl | omega
    · rw [less_gt (by omega)]
      have : 256 ^ k * (v / 256 ^ k % 256) + 256 ^ k ≤ 256 ^ k * (u / 256 ^ k % 256) := by
        rw [← Nat.mul_succ]; exact Nat.mul_le_mul_left _ h
      rw [if_neg (by omega), if_pos (by omega)]

/-- The number that bytes spell, most significant first. -/
def ofBig (l : List UInt8) : Nat := l.foldl (fun acc b => acc * 256 + b.toNat) 0
theorem ofBig_snoc (l : List UInt8) (b : UInt8) : ofBig (l ++ [b]) = ofBig l * 256 + b.toNat := by simp [ofBig]
theorem foldl_bigE : ∀ (k u acc : Nat), (bigE k u).foldl (fun acc b => acc * 256 + b.toNat) acc = acc * 256 ^ k + u % 256 ^ k
  | 0, u, acc => by simp [bigE, Nat.mod_one]
  | k + 1, u, acc => by
    rw [bigE, List.foldl_cons, foldl_bigE k u, digit_nat, mod_step, Nat.pow_succ, Nat.add_mul, Nat.mul_assoc, Nat.mul_comm 256 (256 ^ k), Nat.mul_comm (u / 256 ^ k % 256)]
    omega
theorem ofBig_bigE (k u : Nat) : ofBig (bigE k u) = u % 256 ^ k := by
  have := foldl_bigE k u 0
  simpa [ofBig] using this
theorem foldl_base : ∀ (l : List UInt8) (acc : Nat), l.foldl (fun acc b => acc * 256 + b.toNat) acc = acc * 256 ^ l.length + ofBig l
  | [], acc => by simp [ofBig]
  | b :: r, acc => by
    have e1 := foldl_base r (acc * 256 + b.toNat)
    have e2 := foldl_base r (0 * 256 + b.toNat)
    rw [List.foldl_cons, e1]
    unfold ofBig at e2 ⊢
    rw [List.foldl_cons, e2, List.length_cons, Nat.pow_succ, Nat.add_mul, Nat.mul_assoc, Nat.mul_comm 256 (256 ^ r.length)]
    simp
    omega
theorem ofBig_cons (b : UInt8) (r : List UInt8) : ofBig (b :: r) = b.toNat * 256 ^ r.length + ofBig r := by
  have := foldl_base r (0 * 256 + b.toNat)
  unfold ofBig at this ⊢
  rw [List.foldl_cons, this]
  simp
theorem ofBig_lt : ∀ l : List UInt8, ofBig l < 256 ^ l.length
  | [] => by simp [ofBig]
  | b :: r => by
    have := ofBig_lt r
    have hb := b.toNat_lt
    rw [ofBig_cons, List.length_cons, Nat.pow_succ]
    have : b.toNat * 256 ^ r.length + 256 ^ r.length ≤ 256 ^ r.length * 256 := by
      rw [Nat.mul_comm (256 ^ r.length) 256, ← Nat.succ_mul]; exact Nat.mul_le_mul_right _ (by omega)
    omega
theorem bigE_ofBig : ∀ l : List UInt8, bigE l.length (ofBig l) = l
  | [] => rfl
  | b :: r => by
    have hp : 0 < 256 ^ r.length := Nat.pos_of_ne_zero (by simp)
    have hr := ofBig_lt r
    have hb := b.toNat_lt
    have e1 : ofBig (b :: r) / 256 ^ r.length = b.toNat := by
      rw [ofBig_cons, Nat.mul_comm, Nat.mul_add_div hp, Nat.div_eq_of_lt hr, Nat.add_zero]
    have e2 : ofBig (b :: r) % 256 ^ r.length = ofBig r := by
      rw [ofBig_cons, Nat.mul_comm, Nat.mul_add_mod, Nat.mod_eq_of_lt hr]
    rw [List.length_cons, bigE, e1, Nat.mod_eq_of_lt hb, ← bigE_mod, e2, bigE_ofBig r]
    simp

/-- A text, each zero marked. -/
def esc : List UInt8 → List UInt8
  | [] => []
  | b :: r => if b = 0 then 0 :: 255 :: esc r else b :: esc r
theorem esc_zero (r : List UInt8) : esc (0 :: r) = 0 :: 255 :: esc r := by simp [esc]
theorem esc_else {b : UInt8} (h : b ≠ 0) (r : List UInt8) : esc (b :: r) = b :: esc r := by simp [esc, h]
theorem esc_len : ∀ x : List UInt8, (esc x).length ≤ 2 * x.length
  | [] => by simp [esc]
  | b :: r => by have := esc_len r; by_cases h : b = 0 <;> simp [esc, h] <;> omega
theorem pos_of_ne {b : UInt8} (h : b ≠ 0) : (0 : UInt8).toNat < b.toNat := by
  have : b.toNat ≠ (0 : UInt8).toNat := fun e => h (UInt8.toNat_inj.1 e)
  simp at this ⊢
  omega
theorem esc_less : ∀ (x y r s : List UInt8), x ≠ y → bytesLess (esc x ++ 0 :: 0 :: r) (esc y ++ 0 :: 0 :: s) = bytesLess x y
  | [], [], _, _, h => absurd rfl h
  | [], b :: y, r, s, _ => by
    by_cases hb : b = 0
    · subst hb; rw [esc_zero]; rfl
    · rw [esc_else hb]; exact less_lt (pos_of_ne hb) _ _
  | a :: x, [], r, s, _ => by
    by_cases hb : a = 0
    · subst hb; rw [esc_zero]; rfl
    · rw [esc_else hb]; exact less_gt (pos_of_ne hb) _ _
  | a :: x, b :: y, r, s, h => by
    by_cases hab : a = b
    · subst hab
      have hxy : x ≠ y := fun e => h (by rw [e])
      rw [less_same, ← esc_less x y r s hxy]
      by_cases ha : a = 0
      · subst ha; rw [esc_zero, esc_zero]; simp [less_same]
      · rw [esc_else ha, esc_else ha]; simp [less_same]
    · have hn : a.toNat ≠ b.toNat := fun e => hab (UInt8.toNat_inj.1 e)
      by_cases ha : a = 0
      · subst ha
        have hb : b ≠ 0 := fun e => hab e.symm
        rw [esc_zero, esc_else hb, less_lt (pos_of_ne hb)]
        exact less_lt (pos_of_ne hb) _ _
      by_cases hb : b = 0
      · subst hb
        rw [esc_zero, esc_else ha, less_gt (pos_of_ne ha)]
        exact less_gt (pos_of_ne ha) _ _
      rw [esc_else ha, esc_else hb]
      rcases Nat.lt_or_gt_of_ne hn with h1 | h1
      · rw [less_lt h1]; exact less_lt h1 _ _
      · rw [less_gt h1]; exact less_gt h1 _ _

/-- The text at the beginning of bytes, acc having been read, and what follows. -/
def cutT (acc : List UInt8) : List UInt8 → Option (List UInt8 × List UInt8)
  | [] => none
  | [_] => none
  | a :: b :: r => if a = 0 then (if b = 255 then cutT (acc ++ [0]) r else if b = 0 ∧ acc.length ≤ 24 then some (acc, r) else none) else cutT (acc ++ [a]) (b :: r)
theorem cutT_esc : ∀ (x acc r : List UInt8), cutT acc (esc x ++ 0 :: 0 :: r) = if acc.length + x.length ≤ 24 then some (acc ++ x, r) else none
  | [], acc, r => by simp [esc, cutT]
  | a :: x, acc, r => by
    by_cases ha : a = 0
    · subst ha
      have ih := cutT_esc x (acc ++ [0]) r
      have e : (acc ++ [0] : List UInt8).length + x.length = acc.length + (0 :: x : List UInt8).length := by simp; omega
      rw [esc_zero, List.cons_append, List.cons_append, cutT, if_pos rfl, if_pos rfl, ih, e]
      simp
    · have ih := cutT_esc x (acc ++ [a]) r
      have e : (acc ++ [a] : List UInt8).length + x.length = acc.length + (a :: x : List UInt8).length := by simp; omega
      obtain ⟨b, t, hb⟩ : ∃ b t, esc x ++ 0 :: 0 :: r = b :: t := by cases h : esc x ++ 0 :: 0 :: r with
        | nil => simp at h
        | cons b t => exact ⟨b, t, rfl⟩
      rw [esc_else ha, List.cons_append, hb, cutT, if_neg ha, ← hb, ih, e]
      simp
theorem cutT_some : ∀ (s acc t r : List UInt8), cutT acc s = some (t, r) → ∃ x, t = acc ++ x ∧ s = esc x ++ 0 :: 0 :: r ∧ t.length ≤ 24
  | [], acc, t, r, h => by simp [cutT] at h
  | [_], acc, t, r, h => by simp [cutT] at h
  | a :: b :: s, acc, t, r, h => by
    rw [cutT] at h
    by_cases ha : a = 0
    · rw [if_pos ha] at h
      subst ha
      by_cases hb : b = 255
      · rw [if_pos hb] at h
        subst hb
        obtain ⟨x, h1, h2, h3⟩ := cutT_some s _ t r h
        exact ⟨0 :: x, by rw [h1]; simp, by rw [esc_zero, h2]; simp, h3⟩
      · rw [if_neg hb] at h
        by_cases hc : b = 0 ∧ acc.length ≤ 24
        · rw [if_pos hc] at h
          injection h with h
          injection h with h1 h2
          subst h1 h2
          exact ⟨[], by simp, by rw [hc.1]; rfl, hc.2⟩
        · rw [if_neg hc] at h; cases h
    · rw [if_neg ha] at h
      obtain ⟨x, h1, h2, h3⟩ := cutT_some (b :: s) _ t r h
      exact ⟨a :: x, by rw [h1]; simp, by rw [esc_else ha, h2]; simp, h3⟩
end Go.Proofs.Yteehccklnidofaa
