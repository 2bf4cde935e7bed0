/- A float's text is read as a decimal that lies in the float's interval. No program is named here. -/
import Derived.Test.YtapkihcgnhofmaaGreatDoorQFyY
import Derived.Test.YtapkihcgnhofmaaGreatDoorQFxJ
import Derived.Test.YtapkihcgnhofmaaGreatDoorQFyD
namespace Go.Proofs.YtapkihcgnhofmaaGreatDoor
open Go.RowKit Go.Sort

theorem valD_range {d n : Nat} (hd : d < 10 ^ n) : ∀ k : Nat, k ≤ n → valD 0 ((List.range k).map (fun j => (48 + d / 10 ^ (n - 1 - j) % 10).toUInt8)) = d / 10 ^ (n - k)
  | 0, _ => by simp only [List.range_zero, List.map_nil, Nat.sub_zero]; rw [Nat.div_eq_of_lt hd]; rfl
  | k + 1, h => by
    rw [List.range_succ, List.map_append, valD_append, valD_range hd k (by omega)]
    simp only [List.map_cons, List.map_nil]
    rw [valD_cons, byte_dig (Nat.mod_lt _ (by decide))]
    show _ * 10 + (48 + d / 10 ^ (n - 1 - k) % 10 - 48) = d / 10 ^ (n - (k + 1))
    have e1 : n - k = n - 1 - k + 1 := by omega
    have e2 : n - (k + 1) = n - 1 - k := by omega
    rw [e1, e2, Nat.pow_succ, ← Nat.div_div_eq_div_mul]
    generalize d / 10 ^ (n - 1 - k) = x
    omega
theorem digits_digs {d : Nat} {p dp : Int} {ds : List UInt8} (h : DigitsOf d p ds dp) :
    ∃ z : Nat, DigsF ds ∧ valD 0 ds ≠ 0 ∧ valD 0 ds < 100000000000000000 ∧ d = valD 0 ds * 10 ^ z ∧ dp - ds.length = p + z ∧ z ≤ 16 := by
  obtain ⟨nd, n, d', a1, a2, a3, a4, a5, a6, a7, a8, a9, a10⟩ := h
  have hlen : ds.length = n := by rw [a9, List.length_map, List.length_range]
  have hp : 0 < 10 ^ (nd - n) := Nat.pow_pos (by decide)
  have u1 : d' < 10 ^ n := by
    rw [a7, show nd = n + (nd - n) by omega, Nat.pow_add, show n + (nd - n) - n = nd - n by omega] at a4
    exact Nat.lt_of_mul_lt_mul_right a4
  have u2 : 10 ^ (n - 1) ≤ d' := by
    rw [a7, show nd - 1 = n - 1 + (nd - n) by omega, Nat.pow_add] at a3
    exact Nat.le_of_mul_le_mul_right a3 hp
  have u3 : 10 ^ n ≤ 10 ^ 17 := Nat.pow_le_pow_right (by decide) (by omega)
  have u4 : 0 < 10 ^ (n - 1) := Nat.pow_pos (by decide)
  have hv : valD 0 ds = d' := by rw [a9, valD_range u1 n (Nat.le_refl _), Nat.sub_self, Nat.pow_zero, Nat.div_one]
  refine ⟨nd - n, ⟨?_, ?_, by omega, by omega⟩, by omega, by omega, by rw [hv]; exact a7, by omega, by omega⟩
  · intro c hc
    rw [a9] at hc
    obtain ⟨j, _, rfl⟩ := List.mem_map.1 hc
    unfold isDig
    rw [byte_dig (Nat.mod_lt _ (by decide))]
    have := Nat.mod_lt (d' / 10 ^ (n - 1 - j)) (show 0 < 10 by decide)
    omega
  · have h0 : ds.getD 0 0 = (48 + d' / 10 ^ (n - 1 - 0) % 10).toUInt8 := by
      rw [a9, List.getD_eq_getElem?_getD, List.getElem?_map, List.getElem?_range (by omega)]
      rfl
    rw [h0, byte_dig (Nat.mod_lt _ (by decide)), Nat.sub_zero]
    have hq1 : 1 ≤ d' / 10 ^ (n - 1) := (Nat.le_div_iff_mul_le u4).2 (by omega)
    have hq2 : d' / 10 ^ (n - 1) < 10 := by
      rw [Nat.div_lt_iff_lt_mul u4, Nat.mul_comm, ← Nat.pow_succ, show (n - 1).succ = n by omega]
      exact u1
    omega

theorem pow_big : ∃ S T : Nat, S = 969 ∧ T = 309 ∧ (4 * 9007199254740992 : Nat) * 2 ^ S < 10 ^ T := ⟨969, 309, rfl, rfl, by decide +kernel⟩
theorem InFloat.small {M : Nat} {E : Int} {m h : Nat} {e : Int} (H : InFloat M E m e h) (h0 : 0 < M) : E ≤ 308 := by
  by_cases hE : E ≤ 308
  · exact hE
  · exfalso
    have hi := Nat.le_trans (Nat.le_add_right _ _) H.hi
    unfold hi2 lo2 at hi
    have m2 := H.m2
    have e2 := H.e2
    rw [show (-E).toNat = 0 by omega, Nat.pow_zero, Nat.mul_one] at hi
    obtain ⟨S, T, hS, hT, big⟩ := pow_big
    have a1 : 1 * 1 * 10 ^ T ≤ M * 2 ^ (-(e - 2)).toNat * 10 ^ E.toNat := Nat.mul_le_mul (Nat.mul_le_mul h0 (Nat.pow_pos (by decide))) (Nat.pow_le_pow_right (by decide) (by omega))
    have a2 : (4 * m + 2) * 2 ^ (e - 2).toNat ≤ 4 * 9007199254740992 * 2 ^ S := Nat.mul_le_mul (by omega) (Nat.pow_le_pow_right (by decide) (by omega))
    rw [Nat.one_mul] at a1
    exact absurd (Nat.lt_of_le_of_lt (Nat.le_trans (Nat.le_trans a1 hi) a2) big) (Nat.lt_irrefl _)

/-- What a number's text is read as. -/
theorem num_read {neg : Bool} {m : Nat} {e : Int} {t : List UInt8} (h : TextNum neg m e t) (m1 : 1 ≤ m) (m2 : m < 9007199254740992) (e1 : -1074 ≤ e) (e2 : e ≤ 971) (sub : m < 4503599627370496 → e = -1074) :
    ∃ (M : Nat) (E : Int), rfM t = some ⟨M, E, neg, false, false, t.length, false⟩ ∧ 0 < M ∧ M < 100000000000000000 ∧ -345 ≤ E ∧ E ≤ 308 ∧ InFloat M E m e (loH m e) := by
  obtain ⟨k, d, p, ds, dp, a1, a2, a3, a4, rfl⟩ := h
  obtain ⟨q1, q2, q3, q4⟩ := short_own m1 m2 e1 e2 sub a1 a2 d p a3
  have k64 : k ≤ 63 := by
    rcases Nat.lt_or_ge k 64 with hk | hk
    · omega
    · exfalso
      have : 2 ^ 64 ≤ 2 ^ k := Nat.pow_le_pow_right (by decide) hk
      have := Nat.mul_le_mul m1 this
      omega
  have k11 : 11 ≤ k := by
    rcases Nat.lt_or_ge k 11 with hk | hk
    · exfalso
      have : 2 ^ k ≤ 2 ^ 10 := Nat.pow_le_pow_right (by decide) (by omega)
      have := Nat.mul_le_mul (show m ≤ 9007199254740991 by omega) this
      unfold topM at a1
      omega
    · exact hk
  have hx := short_exp (m := m * 2 ^ k) (e := e - k) (by omega) (by omega)
  rw [a3] at hx
  simp only at hx
  obtain ⟨z, hD, hv, hv2, hd, hdp, hz⟩ := digits_digs a4
  have hdl := hD.one
  have hdm := hD.most
  obtain ⟨M, E, hr, hME⟩ := read_text hD neg dp (by omega) (by omega) hv
  rw [hd] at q3 q4
  obtain ⟨s1, s2⟩ := short_struck q3 q4
  have H0 : InFloat (valD 0 ds) (p + z) m e (loH m e) := ⟨m1, m2, e1, e2, sub, loH_cases m e, (fun h1 h2 => by unfold loH; rw [if_pos ⟨h1, h2⟩]), s1, s2⟩
  rcases hME with ⟨rfl, rfl⟩ | ⟨y, rfl, rfl, hy, hy2⟩
  · rw [hdp] at hr
    exact ⟨_, _, hr, by omega, hv2, by omega, H0.small (by omega), H0⟩
  · have hpz : p + (z : Int) = 0 + (y : Int) := by omega
    have H1 : InFloat (valD 0 ds * 10 ^ y) 0 m e (loH m e) := by
      rw [hpz] at s1 s2
      exact ⟨m1, m2, e1, e2, sub, loH_cases m e, (fun h1 h2 => by unfold loH; rw [if_pos ⟨h1, h2⟩]), (tens_le' (by omega) y _ 0).2 s1, (tens_ge' (by omega) y _ 0).2 s2⟩
    have hb := valD_lt ds 0 0 hD.all (by decide)
    rw [Nat.zero_add] at hb
    have hy0 : 0 < 10 ^ y := Nat.pow_pos (by decide)
    have hM : valD 0 ds * 10 ^ y < 100000000000000000 := by
      have c1 : valD 0 ds * 10 ^ y < 10 ^ ds.length * 10 ^ y := Nat.mul_lt_mul_of_pos_right hb hy0
      rw [← Nat.pow_add] at c1
      have c2 : 10 ^ (ds.length + y) ≤ 10 ^ 17 := Nat.pow_le_pow_right (by decide) (by omega)
      omega
    exact ⟨_, _, hr, Nat.mul_pos (by omega) hy0, hM, by omega, by omega, H1⟩
end Go.Proofs.YtapkihcgnhofmaaGreatDoor
