/- Plain mathematics of keys: numbers as bytes, most significant first; texts with their zeros marked; their order, their beginnings. No program is named here. -/
/- Plain mathematics: to replace each byte 0 by the bytes 0, 255 is to mark a text's zeros. No program is named here. -/
/- Plain mathematics of values: which are valid, their order, their keys, what a key is cut into. -/
import Derived.Below
import Derived.Lib.Varint
import Derived.Lib.VarintMem
import Derived.Lib.ReplaceLaws
import Derived.Test.YtkaeaiagmihmgaaGreatDoorQRealA
import Derived.Test.YtkaeaiagmihmgaaGreatDoorQInfo
namespace Go.Proofs.YtkaeaiagmihmgaaGreatDoor
open Go.Op (bytesLess)

theorem less_cons (a b : UInt8) (x y : List UInt8) : bytesLess (a :: x) (b :: y) = (decide (a < b) || (a == b && bytesLess x y)) := rfl
theorem less_same (a : UInt8) (x y : List UInt8) : bytesLess (a :: x) (a :: y) = bytesLess x y := by
  rw [less_cons]; simp
theorem less_lt {a b : UInt8} (h : a.toNat < b.toNat) (x y : List UInt8) : bytesLess (a :: x) (b :: y) = true := by
  rw [less_cons, decide_eq_true (UInt8.lt_iff_toNat_lt.2 h)]; rfl
theorem less_gt {a b : UInt8} (h : b.toNat < a.toNat) (x y : List UInt8) : bytesLess (a :: x) (b :: y) = false := by
  have h1 : ¬ a < b := fun e => by have := UInt8.lt_iff_toNat_lt.1 e; omega
  have h2 : (a == b) = false := beq_eq_false_iff_ne.2 (fun e => by subst e; omega)
  rw [less_cons, decide_eq_false h1, h2]; rfl

/-- The k bytes of a number, most significant first. -/
def bigE : Nat → Nat → List UInt8
  | 0, _ => []
  | k + 1, u => (u / 256 ^ k % 256).toUInt8 :: bigE k u
theorem bigE_len : ∀ k u, (bigE k u).length = k
  | 0, _ => rfl
  | k + 1, u => by simp [bigE, bigE_len k u]
theorem digit_nat (n : Nat) : (n % 256).toUInt8.toNat = n % 256 := Lib.toUInt8_toNat (Nat.mod_lt _ (by omega))
theorem bigE_mod : ∀ k u, bigE k (u % 256 ^ k) = bigE k u
  | 0, _ => rfl
  | k + 1, u => by
    have e1 : u % 256 ^ (k + 1) / 256 ^ k % 256 = u / 256 ^ k % 256 := by
      rw [Nat.pow_succ, Nat.mod_mul_right_div_self, Nat.mod_mod]
    have e2 : u % 256 ^ (k + 1) % 256 ^ k = u % 256 ^ k := by
      rw [Nat.pow_succ, Nat.mod_mul_right_mod]
    rw [bigE, bigE, e1, ← bigE_mod k (u % 256 ^ (k + 1)), e2, bigE_mod k u]
theorem mod_step (k u : Nat) : u % 256 ^ (k + 1) = u % 256 ^ k + 256 ^ k * (u / 256 ^ k % 256) := by
  rw [Nat.pow_succ, Nat.mod_mul]
/-- The order of such bytes, whatever follows. -/
theorem bigE_less : ∀ (k u v : Nat) (r s : List UInt8), bytesLess (bigE k u ++ r) (bigE k v ++ s) = if u % 256 ^ k < v % 256 ^ k then true else if v % 256 ^ k < u % 256 ^ k then false else bytesLess r s
  | 0, u, v, r, s => by simp [bigE, Nat.mod_one]
  | k + 1, u, v, r, s => by
    have hp : 0 < 256 ^ k := Nat.pos_of_ne_zero (by simp)
    have hu := Nat.mod_lt u hp
    have hv := Nat.mod_lt v hp
    rw [mod_step k u, mod_step k v]
    have du := digit_nat (u / 256 ^ k)
    have dv := digit_nat (v / 256 ^ k)
    simp only [bigE, List.cons_append]
    rcases Nat.lt_trichotomy (u / 256 ^ k % 256) (v / 256 ^ k % 256) with h | h | h
    · rw [less_lt (by omega)]
      have : 256 ^ k * (u / 256 ^ k % 256) + 256 ^ k ≤ 256 ^ k * (v / 256 ^ k % 256) := by
        rw [← Nat.mul_succ]; exact Nat.mul_le_mul_left _ h
      rw [if_pos (by omega)]
    · rw [h, less_same, bigE_less k u v r s]
      generalize 256 ^ k * (v / 256 ^ k % 256) = z
      (repeat' split) <;> first | rfl | omega
    · rw [less_gt (by omega)]
      have : 256 ^ k * (v / 256 ^ k % 256) + 256 ^ k ≤ 256 ^ k * (u / 256 ^ k % 256) := by
        rw [← Nat.mul_succ]; exact Nat.mul_le_mul_left _ h
      rw [if_neg (by omega), if_pos (by omega)]

/-- The number that bytes spell, most significant first. -/
def ofBig (l : List UInt8) : Nat := l.foldl (fun acc b => acc * 256 + b.toNat) 0
theorem ofBig_snoc (l : List UInt8) (b : UInt8) : ofBig (l ++ [b]) = ofBig l * 256 + b.toNat := by simp [ofBig]
theorem foldl_bigE : ∀ (k u acc : Nat), (bigE k u).foldl (fun acc b => acc * 256 + b.toNat) acc = acc * 256 ^ k + u % 256 ^ k
  | 0, u, acc => by simp [bigE, Nat.mod_one]
  | k + 1, u, acc => by
    rw [bigE, List.foldl_cons, foldl_bigE k u, digit_nat, mod_step, Nat.pow_succ, Nat.add_mul, Nat.mul_assoc, Nat.mul_comm 256 (256 ^ k), Nat.mul_comm (u / 256 ^ k % 256)]
    omega
theorem ofBig_bigE (k u : Nat) : ofBig (bigE k u) = u % 256 ^ k := by
  have := foldl_bigE k u 0
  simpa [ofBig] using this
theorem foldl_base : ∀ (l : List UInt8) (acc : Nat), l.foldl (fun acc b => acc * 256 + b.toNat) acc = acc * 256 ^ l.length + ofBig l
  | [], acc => by simp [ofBig]
  | b :: r, acc => by
    have e1 := foldl_base r (acc * 256 + b.toNat)
    have e2 := foldl_base r (0 * 256 + b.toNat)
    rw [List.foldl_cons, e1]
    unfold ofBig at e2 ⊢
    rw [List.foldl_cons, e2, List.length_cons, Nat.pow_succ, Nat.add_mul, Nat.mul_assoc, Nat.mul_comm 256 (256 ^ r.length)]
    simp
    omega
theorem ofBig_cons (b : UInt8) (r : List UInt8) : ofBig (b :: r) = b.toNat * 256 ^ r.length + ofBig r := by
  have := foldl_base r (0 * 256 + b.toNat)
  unfold ofBig at this ⊢
  rw [List.foldl_cons, this]
  simp
theorem ofBig_lt : ∀ l : List UInt8, ofBig l < 256 ^ l.length
  | [] => by simp [ofBig]
  | b :: r => by
    have := ofBig_lt r
    have hb := b.toNat_lt
    rw [ofBig_cons, List.length_cons, Nat.pow_succ]
    have : b.toNat * 256 ^ r.length + 256 ^ r.length ≤ 256 ^ r.length * 256 := by
      rw [Nat.mul_comm (256 ^ r.length) 256, ← Nat.succ_mul]; exact Nat.mul_le_mul_right _ (by omega)
    omega
theorem bigE_ofBig : ∀ l : List UInt8, bigE l.length (ofBig l) = l
  | [] => rfl
  | b :: r => by
    have hp : 0 < 256 ^ r.length := Nat.pos_of_ne_zero (by simp)
    have hr := ofBig_lt r
    have hb := b.toNat_lt
    have e1 : ofBig (b :: r) / 256 ^ r.length = b.toNat := by
      rw [ofBig_cons, Nat.mul_comm, Nat.mul_add_div hp, Nat.div_eq_of_lt hr, Nat.add_zero]
    have e2 : ofBig (b :: r) % 256 ^ r.length = ofBig r := by
      rw [ofBig_cons, Nat.mul_comm, Nat.mul_add_mod, Nat.mod_eq_of_lt hr]
    rw [List.length_cons, bigE, e1, Nat.mod_eq_of_lt hb, ← bigE_mod, e2, bigE_ofBig r]
    simp

/-- A text, each zero marked. -/
def esc : List UInt8 → List UInt8
  | [] => []
  | b :: r => if b = 0 then 0 :: 255 :: esc r else b :: esc r
theorem esc_zero (r : List UInt8) : esc (0 :: r) = 0 :: 255 :: esc r := by simp [esc]
theorem esc_else {b : UInt8} (h : b ≠ 0) (r : List UInt8) : esc (b :: r) = b :: esc r := by simp [esc, h]
theorem esc_len : ∀ x : List UInt8, (esc x).length ≤ 2 * x.length
  | [] => by simp [esc]
  | b :: r => by have := esc_len r; by_cases h : b = 0 <;> simp [esc, h] <;> omega
theorem pos_of_ne {b : UInt8} (h : b ≠ 0) : (0 : UInt8).toNat < b.toNat := by
  have : b.toNat ≠ (0 : UInt8).toNat := fun e => h (UInt8.toNat_inj.1 e)
  simp at this ⊢
  omega
theorem esc_less : ∀ (x y r s : List UInt8), x ≠ y → bytesLess (esc x ++ 0 :: 0 :: r) (esc y ++ 0 :: 0 :: s) = bytesLess x y
  | [], [], _, _, h => absurd rfl h
  | [], b :: y, r, s, _ => by
    by_cases hb : b = 0
    · subst hb; rw [esc_zero]; rfl
    · rw [esc_else hb]; exact less_lt (pos_of_ne hb) _ _
  | a :: x, [], r, s, _ => by
    by_cases hb : a = 0
    · subst hb; rw [esc_zero]; rfl
    · rw [esc_else hb]; exact less_gt (pos_of_ne hb) _ _
  | a :: x, b :: y, r, s, h => by
    by_cases hab : a = b
    · subst hab
      have hxy : x ≠ y := fun e => h (by rw [e])
      rw [less_same, ← esc_less x y r s hxy]
      by_cases ha : a = 0
      · subst ha; rw [esc_zero, esc_zero]; simp [less_same]
      · rw [esc_else ha, esc_else ha]; simp [less_same]
    · have hn : a.toNat ≠ b.toNat := fun e => hab (UInt8.toNat_inj.1 e)
      by_cases ha : a = 0
      · subst ha
        have hb : b ≠ 0 := fun e => hab e.symm
        rw [esc_zero, esc_else hb, less_lt (pos_of_ne hb)]
        exact less_lt (pos_of_ne hb) _ _
      by_cases hb : b = 0
      · subst hb
        rw [esc_zero, esc_else ha, less_gt (pos_of_ne ha)]
        exact less_gt (pos_of_ne ha) _ _
      rw [esc_else ha, esc_else hb]
      rcases Nat.lt_or_gt_of_ne hn with h1 | h1
      · rw [less_lt h1]; exact less_lt h1 _ _
      · rw [less_gt h1]; exact less_gt h1 _ _

/-- The text at the beginning of bytes, acc having been read, and what follows. -/
def cutT (acc : List UInt8) : List UInt8 → Option (List UInt8 × List UInt8)
  | [] => none
  | [_] => none
  | a :: b :: r => if a = 0 then (if b = 255 then cutT (acc ++ [0]) r else if b = 0 ∧ acc.length ≤ 24 then some (acc, r) else none) else cutT (acc ++ [a]) (b :: r)
theorem cutT_esc : ∀ (x acc r : List UInt8), cutT acc (esc x ++ 0 :: 0 :: r) = if acc.length + x.length ≤ 24 then some (acc ++ x, r) else none
  | [], acc, r => by simp [esc, cutT]
  | a :: x, acc, r => by
    by_cases ha : a = 0
    · subst ha
      have ih := cutT_esc x (acc ++ [0]) r
      have e : (acc ++ [0] : List UInt8).length + x.length = acc.length + (0 :: x : List UInt8).length := by simp; omega
      rw [esc_zero, List.cons_append, List.cons_append, cutT, if_pos rfl, if_pos rfl, ih, e]
      simp
    · have ih := cutT_esc x (acc ++ [a]) r
      have e : (acc ++ [a] : List UInt8).length + x.length = acc.length + (a :: x : List UInt8).length := by simp; omega
      obtain ⟨b, t, hb⟩ : ∃ b t, esc x ++ 0 :: 0 :: r = b :: t := by cases h : esc x ++ 0 :: 0 :: r with
        | nil => simp at h
        | cons b t => exact ⟨b, t, rfl⟩
      rw [esc_else ha, List.cons_append, hb, cutT, if_neg ha, ← hb, ih, e]
      simp
theorem cutT_some : ∀ (s acc t r : List UInt8), cutT acc s = some (t, r) → ∃ x, t = acc ++ x ∧ s = esc x ++ 0 :: 0 :: r ∧ t.length ≤ 24
  | [], acc, t, r, h => by simp [cutT] at h
  | [_], acc, t, r, h => by simp [cutT] at h
  | a :: b :: s, acc, t, r, h => by
    rw [cutT] at h
    by_cases ha : a = 0
    · rw [if_pos ha] at h
      subst ha
      by_cases hb : b = 255
      · rw [if_pos hb] at h
        subst hb
        obtain ⟨x, h1, h2, h3⟩ := cutT_some s _ t r h
        exact ⟨0 :: x, by rw [h1]; simp, by rw [esc_zero, h2]; simp, h3⟩
      · rw [if_neg hb] at h
        by_cases hc : b = 0 ∧ acc.length ≤ 24
        · rw [if_pos hc] at h
          injection h with h
          injection h with h1 h2
          subst h1 h2
          exact ⟨[], by simp, by rw [hc.1]; rfl, hc.2⟩
        · rw [if_neg hc] at h; cases h
    · rw [if_neg ha] at h
      obtain ⟨x, h1, h2, h3⟩ := cutT_some (b :: s) _ t r h
      exact ⟨a :: x, by rw [h1]; simp, by rw [esc_else ha, h2]; simp, h3⟩
end Go.Proofs.YtkaeaiagmihmgaaGreatDoor

namespace Go.Proofs.YtkaeaiagmihmgaaGreatDoor

theorem index_zero (l : List UInt8) : Lib.index (0 :: l) [0] = 0 := by
  rw [Lib.index, if_pos (by simp [List.isPrefixOf])]
theorem index_step {b : UInt8} (h : b ≠ 0) (l : List UInt8) : Lib.index (b :: l) [0] = if Lib.index l [0] == -1 then -1 else Lib.index l [0] + 1 := by
  have : ([0] : List UInt8).isPrefixOf (b :: l) = false := by simp [List.isPrefixOf, Ne.symm h]
  rw [Lib.index, this]
  rfl
theorem index_cases (l : List UInt8) : Lib.index l [0] = -1 ∨ ∃ i : Nat, Lib.index l [0] = i := by
  have := Lib.index_ge l [0]
  rcases Int.lt_or_le (Lib.index l [0]) 0 with h | h
  · exact .inl (by omega)
  · exact .inr ⟨(Lib.index l [0]).toNat, by omega⟩
theorem count_skip {b : UInt8} (h : b ≠ 0) (l : List UInt8) : Lib.count (b :: l) [0] = Lib.count l [0] := by
  rcases index_cases l with e | ⟨i, e⟩
  · have e2 : Lib.index (b :: l) [0] = -1 := by rw [index_step h, e]; rfl
    rw [Lib.count_miss e2, Lib.count_miss e]
  · have e2 : Lib.index (b :: l) [0] = ((i + 1 : Nat) : Int) := by
      rw [index_step h, e, if_neg (by simp)]; rfl
    rw [Lib.count_hit (by simp) e2, Lib.count_hit (by simp) e]
    rfl
theorem replaceK_skip {b : UInt8} (h : b ≠ 0) (new : List UInt8) (k : Nat) (l : List UInt8) : Lib.replaceK [0] new k (b :: l) = b :: Lib.replaceK [0] new k l := by
  cases k with
  | zero => rfl
  | succ k =>
    rcases index_cases l with e | ⟨i, e⟩
    · have e2 : Lib.index (b :: l) [0] = -1 := by rw [index_step h, e]; rfl
      rw [Lib.replaceK, Lib.replaceK, e, e2]; rfl
    · have e2 : Lib.index (b :: l) [0] = ((i + 1 : Nat) : Int) := by
        rw [index_step h, e, if_neg (by simp)]; rfl
      rw [Lib.replaceK_hit _ _ _ _ _ e, Lib.replaceK_hit _ _ _ _ _ e2]
      simp
theorem replaceK_esc : ∀ l : List UInt8, Lib.replaceK [0] [0, 255] (Lib.count l [0]) l = esc l
  | [] => by
    rw [Lib.count_miss (by rfl)]; rfl
  | b :: l => by
    by_cases h : b = 0
    · subst h
      have e := index_zero l
      rw [Lib.count_hit (by simp) (i := 0) e, Nat.add_comm, Lib.replaceK_hit _ _ _ _ 0 e, esc_zero]
      simp [replaceK_esc l]
    · rw [count_skip h, replaceK_skip h, replaceK_esc l, esc_else h]
theorem replace_esc (l : List UInt8) : Lib.replaceK [0] [0, 255] (Lib.replaceNum l [0] (-1)) l = esc l := by
  unfold Lib.replaceNum
  rw [if_pos (.inl (by decide))]
  exact replaceK_esc l
theorem esc_none {l : List UInt8} (h : Lib.count l [0] = 0) : esc l = l := by
  rw [← replaceK_esc l, h]; rfl
theorem esc_snoc : ∀ (x : List UInt8) (b : UInt8), esc (x ++ [b]) = esc x ++ (if b = 0 then [0, 255] else [b])
  | [], b => by by_cases h : b = 0 <;> simp [esc, h]
  | a :: x, b => by
    rw [List.cons_append]
    by_cases h : a = 0
    · subst h; rw [esc_zero, esc_zero, esc_snoc x b]; rfl
    · rw [esc_else h, esc_else h, esc_snoc x b]; rfl
end Go.Proofs.YtkaeaiagmihmgaaGreatDoor

namespace Go.Proofs.YtkaeaiagmihmgaaGreatDoor
open Go.Op (bytesLess)
open Go.RowKit

/-- A value: its kind, its number, its text. -/
structure Vl where
  kind : Int
  num : Int
  text : List UInt8
deriving DecidableEq
def Vl.val (v : Vl) : Value := .agg #[.int .i64 v.kind, .int .i64 v.num, .string ⟨v.text.toArray⟩]
instance : Inhabited Vl := ⟨⟨0, 0, []⟩⟩
structure Vl.Ok (v : Vl) : Prop where
  kind : I64 v.kind
  num : I64 v.num
  text : v.text.length ≤ maxLen

def goodV (v : Vl) : Bool := decide ((v.kind = 0 ∧ v.num = 0 ∧ v.text = []) ∨ (v.kind = 1 ∧ v.text = []) ∨ (v.kind = 2 ∧ v.text = [] ∧ canonI (wordOf v.num) = v.num) ∨ (v.kind = 3 ∧ v.num = 0 ∧ v.text.length ≤ 24))
theorem goodV_iff (v : Vl) : goodV v = true ↔ (v.kind = 0 ∧ v.num = 0 ∧ v.text = []) ∨ (v.kind = 1 ∧ v.text = []) ∨ (v.kind = 2 ∧ v.text = [] ∧ canonI (wordOf v.num) = v.num) ∨ (v.kind = 3 ∧ v.num = 0 ∧ v.text.length ≤ 24) := decide_eq_true_iff

/-- The number's word with its sign turned. -/
def turned (n : Int) : Nat := (n + 9223372036854775808).toNat
theorem turned_lt {n : Int} (h : I64 n) : turned n < 18446744073709551616 := by unfold turned; unfold I64 at h; omega

def keyV (v : Vl) : List UInt8 :=
  if goodV v = false then [] else if v.kind = 1 then 1 :: bigE 8 (turned v.num) else if v.kind = 2 then 2 :: bigE 8 (keyI v.num) else if v.kind = 3 then 3 :: (esc v.text ++ [0, 0]) else [0]

def lessV (a b : Vl) : Bool :=
  if a.kind ≠ b.kind then decide (a.kind < b.kind) else if a.kind = 1 then decide (a.num < b.num) else if a.kind = 2 then decide (cmpI (keyI a.num) (keyI b.num) < 0) else bytesLess a.text b.text
def cmpV (a b : Vl) : Int := if lessV a b = true then -1 else if lessV b a = true then 1 else 0
theorem cmpV_neg (a b : Vl) : decide (cmpV a b < 0) = lessV a b := by
  unfold cmpV; cases lessV a b <;> cases lessV b a <;> rfl

theorem keyI_inj {a b : Int} (ha : canonI (wordOf a) = a) (hb : canonI (wordOf b) = b) (h : keyI a = keyI b) : a = b := by
  have h1 := (back_key a).2
  have h2 := (back_key b).2
  rw [h, h2, ha, hb] at h1
  exact h1.symm

theorem keyV_null {v : Vl} (h : v.kind = 0) (g : goodV v = true) : keyV v = [0] := by
  unfold keyV; rw [if_neg (by rw [g]; decide), if_neg (by omega), if_neg (by omega), if_neg (by omega)]
theorem keyV_int {v : Vl} (h : v.kind = 1) (g : goodV v = true) : keyV v = 1 :: bigE 8 (turned v.num) := by
  unfold keyV; rw [if_neg (by rw [g]; decide), if_pos h]
theorem keyV_float {v : Vl} (h : v.kind = 2) (g : goodV v = true) : keyV v = 2 :: bigE 8 (keyI v.num) := by
  unfold keyV; rw [if_neg (by rw [g]; decide), if_neg (by omega), if_pos h]
theorem keyV_text {v : Vl} (h : v.kind = 3) (g : goodV v = true) : keyV v = 3 :: (esc v.text ++ [0, 0]) := by
  unfold keyV; rw [if_neg (by rw [g]; decide), if_neg (by omega), if_neg (by omega), if_pos h]
theorem keyV_bad {v : Vl} (g : goodV v = false) : keyV v = [] := by unfold keyV; rw [if_pos g]

/-- A valid value's key begins with its kind. -/
theorem keyV_head {v : Vl} (g : goodV v = true) : ∃ k r, keyV v = k :: r ∧ (k.toNat : Int) = v.kind := by
  rcases (goodV_iff v).1 g with ⟨h, _⟩ | ⟨h, _⟩ | ⟨h, _⟩ | ⟨h, _⟩
  · exact ⟨0, _, keyV_null h g, by rw [h]; rfl⟩
  · exact ⟨1, _, keyV_int h g, by rw [h]; rfl⟩
  · exact ⟨2, _, keyV_float h g, by rw [h]; rfl⟩
  · exact ⟨3, _, keyV_text h g, by rw [h]; rfl⟩

theorem big_less {u v : Nat} (hu : u < 18446744073709551616) (hv : v < 18446744073709551616) (h : u ≠ v) (r s : List UInt8) : bytesLess (bigE 8 u ++ r) (bigE 8 v ++ s) = decide (u < v) := by
  have e : (256 : Nat) ^ 8 = 18446744073709551616 := by decide
  rw [bigE_less, e, Nat.mod_eq_of_lt hu, Nat.mod_eq_of_lt hv]
  by_cases h1 : u < v
  · rw [if_pos h1, decide_eq_true h1]
  · rw [if_neg h1, if_pos (by omega), decide_eq_false h1]

theorem Vl.ext' {a b : Vl} (h1 : a.kind = b.kind) (h2 : a.num = b.num) (h3 : a.text = b.text) : a = b := by
  cases a; cases b; simp_all

theorem key_less {a b : Vl} (ga : goodV a = true) (gb : goodV b = true) (ha : I64 a.num) (hb : I64 b.num) (hne : a ≠ b) : bytesLess (keyV a) (keyV b) = lessV a b := by
  unfold lessV
  by_cases hk : a.kind = b.kind
  · rw [if_neg (by simpa using hk)]
    have oa := (goodV_iff a).1 ga
    have ob := (goodV_iff b).1 gb
    by_cases h0 : a.kind = 0
    · exfalso
      apply hne
      rcases oa with ⟨_, a1, a2⟩ | ⟨h, _⟩ | ⟨h, _⟩ | ⟨h, _⟩ <;> first | omega | skip
      rcases ob with ⟨_, b1, b2⟩ | ⟨h, _⟩ | ⟨h, _⟩ | ⟨h, _⟩ <;> first | omega | skip
      exact Vl.ext' hk (by omega) (by rw [a2, b2])
    by_cases h1 : a.kind = 1
    · have ta : a.text = [] := by rcases oa with ⟨h, _⟩ | ⟨_, h⟩ | ⟨h, _⟩ | ⟨h, _⟩ <;> first | omega | exact h
      have tb : b.text = [] := by rcases ob with ⟨h, _⟩ | ⟨_, h⟩ | ⟨h, _⟩ | ⟨h, _⟩ <;> first | omega | exact h
      have hn : a.num ≠ b.num := fun e => hne (Vl.ext' hk e (by rw [ta, tb]))
      have h2 : turned a.num ≠ turned b.num := by unfold turned; unfold I64 at ha hb; omega
      have := big_less (turned_lt ha) (turned_lt hb) h2 [] []
      rw [List.append_nil, List.append_nil] at this
      rw [if_pos h1, keyV_int h1 ga, keyV_int (by omega) gb, less_same, this]
      unfold turned; unfold I64 at ha hb
      simp only [decide_eq_decide]
      omega
    by_cases h2 : a.kind = 2
    · have ta : a.text = [] ∧ canonI (wordOf a.num) = a.num := by rcases oa with ⟨h, _⟩ | ⟨h, _⟩ | ⟨_, h⟩ | ⟨h, _⟩ <;> first | omega | exact h
      have tb : b.text = [] ∧ canonI (wordOf b.num) = b.num := by rcases ob with ⟨h, _⟩ | ⟨h, _⟩ | ⟨_, h⟩ | ⟨h, _⟩ <;> first | omega | exact h
      have hn : keyI a.num ≠ keyI b.num := fun e => hne (Vl.ext' hk (keyI_inj ta.2 tb.2 e) (by rw [ta.1, tb.1]))
      have := big_less (keyI_lt a.num) (keyI_lt b.num) hn [] []
      rw [List.append_nil, List.append_nil] at this
      rw [if_neg h1, if_pos h2, keyV_float h2 ga, keyV_float (by omega) gb, less_same, this]
      unfold cmpI
      by_cases h3 : keyI a.num < keyI b.num
      · rw [if_pos h3, decide_eq_true h3]; rfl
      · rw [if_neg h3, if_pos (by omega), decide_eq_false h3]; rfl
    · have h3 : a.kind = 3 := by rcases oa with ⟨h, _⟩ | ⟨h, _⟩ | ⟨h, _⟩ | ⟨h, _⟩ <;> omega
      have ta : a.num = 0 := by rcases oa with ⟨h, _⟩ | ⟨h, _⟩ | ⟨h, _⟩ | ⟨_, h, _⟩ <;> omega
      have tb : b.num = 0 := by rcases ob with ⟨h, _⟩ | ⟨h, _⟩ | ⟨h, _⟩ | ⟨_, h, _⟩ <;> omega
      have hn : a.text ≠ b.text := fun e => hne (Vl.ext' hk (by rw [ta, tb]) e)
      rw [if_neg h1, if_neg h2, keyV_text h3 ga, keyV_text (by omega) gb, less_same]
      exact esc_less _ _ _ _ hn
  · rw [if_pos hk]
    obtain ⟨x, r, e1, e2⟩ := keyV_head ga
    obtain ⟨y, s, e3, e4⟩ := keyV_head gb
    rw [e1, e3]
    by_cases h : a.kind < b.kind
    · rw [less_lt (by omega), decide_eq_true h]
    · rw [less_gt (by omega), decide_eq_false h]

/-- What bytes are cut into. -/
def cutV : List UInt8 → Option (Vl × List UInt8)
  | [] => none
  | k :: r =>
    if k = 0 then some (⟨0, 0, []⟩, r) else
    if k = 1 then (if r.length < 8 then none else some (⟨1, (ofBig (r.take 8) : Int) - 9223372036854775808, []⟩, r.drop 8)) else
    if k = 2 then (if r.length < 8 then none else if backGood (ofBig (r.take 8)) = true then some (⟨2, backI (ofBig (r.take 8)), []⟩, r.drop 8) else none) else
    if k = 3 then (match cutT [] r with | some (t, q) => some (⟨3, 0, t⟩, q) | none => none) else none

theorem take8 (u : Nat) (s : List UInt8) : (bigE 8 u ++ s).take 8 = bigE 8 u := by
  have := bigE_len 8 u
  rw [List.take_append_of_le_length (by omega), List.take_of_length_le (by omega)]
theorem drop8 (u : Nat) (s : List UInt8) : (bigE 8 u ++ s).drop 8 = s := by
  have := bigE_len 8 u
  rw [List.drop_append_of_le_length (by omega), List.drop_of_length_le (by omega), List.nil_append]
theorem ofBig8 {u : Nat} (h : u < 18446744073709551616) : ofBig (bigE 8 u) = u := by
  rw [ofBig_bigE, show (256 : Nat) ^ 8 = 18446744073709551616 by decide, Nat.mod_eq_of_lt h]
theorem ofBig8_lt {r : List UInt8} (h : ¬ r.length < 8) : ofBig (r.take 8) < 18446744073709551616 := by
  have := ofBig_lt (r.take 8)
  rwa [List.length_take, show min 8 r.length = 8 by omega, show (256 : Nat) ^ 8 = 18446744073709551616 by decide] at this
theorem bigE8 {r : List UInt8} (h : ¬ r.length < 8) : bigE 8 (ofBig (r.take 8)) ++ r.drop 8 = r := by
  have := bigE_ofBig (r.take 8)
  rw [List.length_take, show min 8 r.length = 8 by omega] at this
  rw [this, List.take_append_drop]

theorem cut_key {v : Vl} (g : goodV v = true) (hn : I64 v.num) (s : List UInt8) : cutV (keyV v ++ s) = some (v, s) := by
  rcases (goodV_iff v).1 g with ⟨h, h1, h2⟩ | ⟨h, h1⟩ | ⟨h, h1, h2⟩ | ⟨h, h1, h2⟩
  · rw [keyV_null h g]
    show some ((⟨0, 0, []⟩ : Vl), s) = _
    rw [Vl.ext' (a := ⟨0, 0, []⟩) (b := v) h.symm h1.symm h2.symm]
  · rw [keyV_int h g, List.cons_append, cutV, if_neg (by decide), if_pos rfl, if_neg (by rw [List.length_append, bigE_len]; omega), take8, drop8, ofBig8 (turned_lt hn)]
    rw [Vl.ext' (a := ⟨1, (turned v.num : Int) - 9223372036854775808, []⟩) (b := v) h.symm (by show (turned v.num : Int) - 9223372036854775808 = v.num; unfold turned; unfold I64 at hn; omega) h1.symm]
  · obtain ⟨b1, b2⟩ := back_key v.num
    rw [keyV_float h g, List.cons_append, cutV, if_neg (by decide), if_neg (by decide), if_pos rfl, if_neg (by rw [List.length_append, bigE_len]; omega), take8, drop8, ofBig8 (keyI_lt _), if_pos b1, b2, h2]
    rw [Vl.ext' (a := ⟨2, v.num, []⟩) (b := v) h.symm rfl h1.symm]
  · have := cutT_esc v.text [] s
    rw [keyV_text h g, List.cons_append, cutV, if_neg (by decide), if_neg (by decide), if_neg (by decide), if_pos rfl, List.append_assoc, List.cons_append, List.cons_append, List.nil_append, this, if_pos (by simpa using h2)]
    show some ((⟨3, 0, v.text⟩ : Vl), s) = _
    rw [Vl.ext' (a := ⟨3, 0, v.text⟩) (b := v) h.symm h1.symm rfl]

theorem backI_i64 (k : Nat) : I64 (backI k) := by unfold backI I64 wrap64; omega
theorem cut_some {s r : List UInt8} {v : Vl} (h : cutV s = some (v, r)) : goodV v = true ∧ keyV v ++ r = s ∧ I64 v.num := by
  cases s with
  | nil => simp [cutV] at h
  | cons k q =>
    rw [cutV] at h
    by_cases h0 : k = 0
    · rw [if_pos h0] at h
      injection h with h
      injection h with h1 h2
      subst h1 h2 h0
      exact ⟨by decide, by rw [keyV_null rfl (by decide)]; rfl, by unfold I64; decide⟩
    rw [if_neg h0] at h
    by_cases h1 : k = 1
    · rw [if_pos h1] at h
      by_cases hl : q.length < 8
      · rw [if_pos hl] at h; cases h
      rw [if_neg hl] at h
      have hb := ofBig8_lt hl
      have he := bigE8 hl
      generalize ofBig (q.take 8) = u at *
      injection h with h
      injection h with h2 h3
      subst h2 h3 h1
      have g : goodV ⟨1, (u : Int) - 9223372036854775808, []⟩ = true := (goodV_iff _).2 (.inr (.inl ⟨rfl, rfl⟩))
      have ht : turned ((u : Int) - 9223372036854775808) = u := by unfold turned; omega
      refine ⟨g, ?_, by show I64 ((u : Int) - 9223372036854775808); unfold I64; omega⟩
      rw [keyV_int rfl g]
      show 1 :: (bigE 8 (turned ((u : Int) - 9223372036854775808)) ++ _) = _
      rw [ht, he]
    rw [if_neg h1] at h
    by_cases h2 : k = 2
    · rw [if_pos h2] at h
      by_cases hl : q.length < 8
      · rw [if_pos hl] at h; cases h
      rw [if_neg hl] at h
      have hb := ofBig8_lt hl
      have he := bigE8 hl
      generalize ofBig (q.take 8) = u at *
      by_cases hg : backGood u = true
      · rw [if_pos hg] at h
        obtain ⟨k1, k2⟩ := key_back hb hg
        injection h with h
        injection h with h3 h4
        subst h3 h4 h2
        have g : goodV ⟨2, backI u, []⟩ = true := (goodV_iff _).2 (.inr (.inr (.inl ⟨rfl, rfl, k2⟩)))
        refine ⟨g, ?_, backI_i64 u⟩
        rw [keyV_float rfl g]
        show 2 :: (bigE 8 (keyI (backI u)) ++ _) = _
        rw [k1, he]
      · rw [if_neg hg] at h; cases h
    rw [if_neg h2] at h
    by_cases h3 : k = 3
    · rw [if_pos h3] at h
      cases hc : cutT [] q with
      | none => rw [hc] at h; cases h
      | some x =>
        obtain ⟨t, z⟩ := x
        rw [hc] at h
        injection h with h
        injection h with h4 h5
        subst h4 h5 h3
        obtain ⟨x, e1, e2, e3⟩ := cutT_some q [] t z hc
        rw [List.nil_append] at e1
        subst e1
        have g : goodV ⟨3, 0, t⟩ = true := (goodV_iff _).2 (.inr (.inr (.inr ⟨rfl, rfl, e3⟩)))
        refine ⟨g, ?_, by show I64 0; unfold I64; decide⟩
        rw [keyV_text rfl g, e2]
        simp
    · rw [if_neg h3] at h; cases h

/-- No key begins with another one's. -/
theorem key_apart {a b : Vl} (ga : goodV a = true) (gb : goodV b = true) (ha : I64 a.num) (hb : I64 b.num) {t : List UInt8} (h : keyV b = keyV a ++ t) : a = b := by
  have e1 := cut_key ga ha t
  have e2 := cut_key gb hb []
  rw [List.append_nil, h, e1] at e2
  injection e2 with e2
  injection e2
theorem esc_len2 (v : Vl) : (keyV v).length ≤ 60 := by
  unfold keyV
  split
  · simp
  split
  · simp [bigE_len]
  split
  · simp [bigE_len]
  split
  · rename_i h _ _ h3
    have g : goodV v = true := by cases hg : goodV v <;> simp_all
    have := esc_len v.text
    rcases (goodV_iff v).1 g with ⟨h, _⟩ | ⟨h, _⟩ | ⟨h, _⟩ | ⟨_, _, h⟩ <;> first | omega | skip
    simp
    omega
  · simp
end Go.Proofs.YtkaeaiagmihmgaaGreatDoor
