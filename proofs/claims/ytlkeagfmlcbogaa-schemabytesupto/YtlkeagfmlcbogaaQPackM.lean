/- Plain mathematics of package pack's encoding: what was encoded is decoded; a proper beginning of a number's bytes is no number. -/
import Derived.Test.YtlkeagfmlcbogaaQPKa
namespace Go.Proofs.Ytlkeagfmlcbogaa

theorem toUInt8_small {a : Nat} (h : a < 256) : (a.toUInt8).toNat = a := Lib.toUInt8_toNat h

theorem pow_step (i : Nat) : 2 ^ (7 * (i + 1)) = 128 * 2 ^ (7 * i) := by rw [show 7 * (i + 1) = 7 * i + 7 by omega, Nat.pow_add]; omega

theorem grp_uvarint (v i acc : Nat) (r : List UInt8) (hi : i ≤ 9) (hv : v * 2 ^ (7 * i) < 2 ^ 64) (h0 : 0 < v ∨ i = 0) :
    grp i acc (Lib.uvarint v ++ r) = some (acc + v * 2 ^ (7 * i), i + (Lib.uvarint v).length) := by
  have h9 : i = 9 → v ≤ 1 := by
    rintro rfl
    omega
  by_cases hs : v < 128
  · rw [Lib.uvarint_small hs]
    have e := toUInt8_small (a := v) (by omega)
    rw [List.singleton_append, grp_last i acc _ r (by omega) (by rw [e]; exact h9) (by rw [e]; exact hs) (by rw [e]; omega), e, Nat.mod_eq_of_lt hs]
    rfl
  · have hi8 : i < 9 := by
      rcases Nat.lt_or_ge i 9 with h | h
      · exact h
      · have := h9 (by omega); omega
    have e := toUInt8_small (a := v % 128 + 128) (by omega)
    rw [Lib.uvarint_big (by omega), List.cons_append, grp_go i acc _ _ hi8 (by rw [e]; omega), e]
    have hp := pow_step i
    have hpos : 0 < 2 ^ (7 * i) := Nat.pos_of_ne_zero (by simp)
    have hdm : v / 128 * (128 * 2 ^ (7 * i)) + v % 128 * 2 ^ (7 * i) = v * 2 ^ (7 * i) := by
      rw [← Nat.mul_assoc, ← Nat.add_mul]
      congr 1
      omega
    rw [grp_uvarint (v / 128) (i + 1) _ r (by omega) (by rw [hp]; omega) (Or.inl (by omega)), hp]
    have e2 : (v % 128 + 128) % 128 = v % 128 := by omega
    rw [e2]
    simp only [List.length_cons, Option.some.injEq, Prod.mk.injEq]
    constructor <;> omega
termination_by v
decreasing_by omega

theorem grp_cut (v i acc c : Nat) (hc : c < (Lib.uvarint v).length) : grp i acc ((Lib.uvarint v).take c) = none := by
  cases c with
  | zero => simp [grp]
  | succ c =>
    by_cases hs : v < 128
    · rw [Lib.uvarint_small hs] at hc; simp at hc
    · rw [Lib.uvarint_big (by omega)] at hc ⊢
      have e := toUInt8_small (a := v % 128 + 128) (by omega)
      rw [List.take_succ_cons, grp, e]
      split
      · rfl
      split
      · rfl
      rw [if_neg (by omega)]
      exact grp_cut (v / 128) (i + 1) _ c (by simpa using hc)
termination_by v
decreasing_by omega

theorem grp_enc (n : Int) (h : I64 n) (r : List UInt8) : grp 0 0 (enc n ++ r) = some (Lib.zigzag n, (enc n).length) := by
  have hz := Lib.zigzag_lt h.1 h.2
  have := grp_uvarint (Lib.zigzag n) 0 0 r (by omega) (by simpa using hz) (Or.inr rfl)
  simpa [enc] using this
theorem grp_enc_cut (n : Int) (c : Nat) (hc : c < (enc n).length) : grp 0 0 ((enc n).take c) = none := grp_cut _ _ _ c hc
theorem enc_pos (n : Int) : 0 < (enc n).length := Lib.uvarint_pos _
end Go.Proofs.Ytlkeagfmlcbogaa
