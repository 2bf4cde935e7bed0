/- strconv's ftoa64 of whatever word: the numbers. -/
/- strconv's ftoa64 of whatever word: the numbers below the least normal one. -/
/- strconv's ftoa64, FormatFloat and real.Text of whatever word. -/
/- strconv.FormatFloat and real.Text of whatever word: one text. -/
import Derived.Test.YtkaeaiagmihmgaaGreatDoorQFxH
import Derived.Test.YtkaeaiagmihmgaaGreatDoorQFmt
import Derived.Test.YtkaeaiagmihmgaaGreatDoorQFp
import Derived.Test.YtkaeaiagmihmgaaGreatDoorQMemStr
import Derived.Test.YtkaeaiagmihmgaaGreatDoorQRealA
namespace Go.Proofs.YtkaeaiagmihmgaaGreatDoor
open Go.RowKit Go.Sort

theorem exp_bits {x : Nat} (h : x < 4096) : bits .and .i64 (x : Int) 2047 = ((x % 2048 : Nat) : Int) := by
  have := bits_mask .i64 63 (by decide) (fun n h0 h1 => by rw [IntKind.wrap_i64]; omega) 11 (by decide) (x : Int) (by omega) (by omega)
  rw [show (2 : Int) ^ 11 - 1 = 2047 by decide, show (2 : Int) ^ 11 = 2048 by decide] at this
  rw [this]
  omega
theorem mant_bits {b : Nat} (h : b < 18446744073709551616) : bits .and .u64 (b : Int) 4503599627370495 = ((b % 4503599627370496 : Nat) : Int) := by
  have := bits_mask .u64 64 (by decide) wraps_u64 52 (by decide) (b : Int) (by omega) (by omega)
  rw [show (2 : Int) ^ 52 - 1 = 4503599627370495 by decide, show (2 : Int) ^ 52 = 4503599627370496 by decide] at this
  rw [this]
  omega
theorem hidden_bit {m : Nat} (h : m < 4503599627370496) : bits .or .u64 (m : Int) 4503599627370496 = ((m + 4503599627370496 : Nat) : Int) := by
  have := bits_join_low .u64 64 (by decide) wraps_u64 52 (m : Int) 4503599627370496 (by omega) (by omega) (by omega) (by omega) (by decide) (by omega)
  rw [this]
  omega
theorem norm_len {m L : Nat} (h0 : 0 < m) (h : m < 9007199254740992) (hL : Lib.bitLen m = L) : 1 ≤ L ∧ L ≤ 53 ∧ topM ≤ m * 2 ^ (64 - L) ∧ m * 2 ^ (64 - L) < 18446744073709551616 := by
  obtain ⟨n, e1, e2, e3⟩ := bitLen_bounds m h0 (by omega)
  have hn : n < 53 := by
    rcases Nat.lt_or_ge n 53 with h1 | h1
    · exact h1
    · have : 2 ^ 53 ≤ 2 ^ n := Nat.pow_le_pow_right (by decide) h1
      omega
  rw [e1] at hL
  subst hL
  refine ⟨by omega, by omega, ?_, ?_⟩
  · have : 2 ^ n * 2 ^ (64 - (n + 1)) = 2 ^ 63 := by rw [← Nat.pow_add]; congr 1; omega
    have h2 := Nat.mul_le_mul_right (2 ^ (64 - (n + 1))) e2
    unfold topM
    omega
  · have : 2 ^ (n + 1) * 2 ^ (64 - (n + 1)) = 2 ^ 64 := by rw [← Nat.pow_add]; congr 1; omega
    have h2 := Nat.mul_lt_mul_of_pos_right e3 (Nat.pow_pos (n := 64 - (n + 1)) (show 0 < 2 by decide))
    omega

theorem below_join' {B : Nat} {w w1 w2 : World} (h : Below B w w1) (k : Below w1.heap.size w1 w2) (hB : B ≤ w1.heap.size) : Below B w w2 :=
  h.trans ⟨k.os, k.tape, k.output, k.size, fun i hi => k.block i (by omega)⟩
/-- t is the text of the number m * 2 ^ e. -/
def TextNum (neg : Bool) (m : Nat) (e : Int) (t : List UInt8) : Prop :=
  ∃ (k d : Nat) (p : Int) (ds : List UInt8) (dp : Int), topM ≤ m * 2 ^ k ∧ m * 2 ^ k < 18446744073709551616 ∧ shortN (m * 2 ^ k) (e - k) = (d, p) ∧ DigitsOf d p ds dp ∧ t = textD neg ds dp

set_option maxRecDepth 100000 in
set_option maxHeartbeats 3200000 in
theorem ftoa64_normal (w : World) (base : Nat) (v : Value) (hv : Owns w base 5 v []) (hb : base ≤ w.heap.size) (hP : PowTab w) (hT : TenTab w) (neg : Bool) (ex mt b : Nat)
    (hex1 : 1 ≤ ex) (hex2 : ex ≤ 2046) (hmt : mt < 4503599627370496) (hbb : b = (if neg then 9223372036854775808 else 0) + ex * 4503599627370496 + mt) :
    Calls Tryz.prog 42 #[v, .float .f64 b, .int .u8 103, .int .i64 (-1)] w fun e w' => ∃ v' t, e = .returned v' ∧ TextNum neg (mt + 4503599627370496) ((ex : Int) - 1075) t ∧ Owns w' base 5 v' t ∧ Below base w w' := by
  have f1 := tobits'
  have hb64 : b < 18446744073709551616 := by rw [hbb]; cases neg <;> simp <;> omega
  have hd1 : b / 4503599627370496 < 4096 := by omega
  have hd2 : b / 4503599627370496 % 2048 = ex := by rw [hbb]; cases neg <;> simp <;> omega
  have hd3 : b % 4503599627370496 = mt := by rw [hbb]; cases neg <;> simp <;> omega
  have hd4 : (((b : Int) / 9223372036854775808) != 0) = neg := by rw [hbb]; cases neg <;> simp <;> omega
  have c1 := exp_bits hd1
  have c2 := mant_bits hb64
  have c3 := hidden_bit hmt
  rw [hd2, show ((b / 4503599627370496 : Nat) : Int) = (b : Int) / 4503599627370496 from rfl] at c1
  rw [hd3] at c2
  have t1 : ((ex : Int) == 2047) = false := by simp; omega
  have t2 : ((ex : Int) == 0) = false := by simp; omega
  obtain ⟨m, hm⟩ : ∃ m, mt + 4503599627370496 = m := ⟨_, rfl⟩
  rw [hm] at c3 ⊢
  have hm0 : 0 < m := by omega
  have hmn : 4503599627370496 ≤ m := by omega
  have hm2 : m < 9007199254740992 := by omega
  have t3 : ((m : Int) == 0) = false := by simp; omega
  have HB := Lib.hid hbb
  have HM := Lib.hid hm
  clear hbb hm hd2 hd3
  go_enter Tryz.func42, Tryz.ntmps42
  go_wp2_with fail
  go_quiet (fail)
  generalize hw1 : w.drewN _ = w1
  have bw1 : Below base w w1 := by rw [← hw1]; exact ⟨rfl, rfl, rfl, Nat.le_refl _, fun _ _ => rfl⟩
  have bw1' : Below w.heap.size w w1 := by rw [← hw1]; exact ⟨rfl, rfl, rfl, Nat.le_refl _, fun _ _ => rfl⟩
  have hv1 : Owns w1 base 5 v [] := by rw [← hw1]; exact hv
  have hb1 : base ≤ w1.heap.size := Nat.le_trans hb bw1.size
  have hP1 := hP.below bw1'
  have hT1 := hT.below bw1'
  clear hw1 hP hT hv hb bw1'
  obtain ⟨L, hL⟩ : ∃ L, Lib.bitLen m = L := ⟨_, rfl⟩
  obtain ⟨l1, l2, l3, l4⟩ := norm_len hm0 hm2 hL
  have HL := Lib.hid hL
  clear hL
  obtain ⟨M, hM⟩ : ∃ M, m * 2 ^ (64 - L) = M := ⟨_, rfl⟩
  obtain ⟨E, hE⟩ : ∃ E : Int, (ex : Int) - 1075 - ((64 - L : Nat) : Int) = E := ⟨_, rfl⟩
  have hdv : M % 2048 = 0 := by
    rw [← hM, show 64 - L = 11 + (53 - L) by omega, Nat.pow_add, show (2 : Nat) ^ 11 = 2048 from rfl, Nat.mul_left_comm]
    exact Nat.mul_mod_right _ _
  have hwr : IntKind.u64.wrap ((m : Int) * 2 ^ (64 - L)) = (M : Int) := by
    have e : (m : Int) * 2 ^ (64 - L) = (M : Int) := by rw [← hM, Int.natCast_mul, Int.natCast_pow]; rfl
    rw [e, IntKind.wrap_u64]
    omega
  have heq : (ex : Int) + -1023 - (64 - (L : Int)) - 52 = E := by rw [← hE]; omega
  have hE1 : -1137 ≤ E := by omega
  have hE2 : E ≤ 960 := by omega
  have hsub : E < -1085 → M % 2 ^ (-1074 - E).toNat = 0 := fun h => by
    have := (norm_k (m := m) (k := 64 - L) (by omega) hm2 l3 l4).2.2.1 hmn
    omega
  rw [hM] at l3 l4
  obtain ⟨⟨d, p⟩, hS⟩ : ∃ r, shortN M E = r := ⟨_, rfl⟩
  have hx := short_exp (m := M) hE1 hE2
  have hsp := short_spec l3 l4 hE1 hE2 hdv hsub
  have hC := fun w0 (h0 : PowTab w0) => shortFloat_any w0 h0 M l3 l4 E hE1 hE2 hdv hsub
  rw [hS] at hx hsp
  simp only [hS] at hC
  have hd0 : 1 ≤ d := hsp.1
  have hd17 : d < 100000000000000000 := hsp.2.1
  have hp1 : -340 ≤ p := hx.1
  have hp2 : p ≤ 310 := hx.2
  have HS := Lib.hid hS
  have HME := Lib.hid hM
  have HE := Lib.hid hE
  clear hS hM hE hx hsp hsub
  go_wp2_with (go_at_call 62; refine (len64_at m L (by omega) HL.out _).mono ?_; rintro e w' ⟨rfl, rfl⟩)
  refine (hC _ (hP1.alloc _)).mono ?_
  rintro e w2 ⟨rfl, bw2⟩
  have hA2 : At w2 w1.heap.size 87 (Array.replicate 32 (.int .u8 0)) := (At.fresh w1 87 (Array.replicate 32 (.int .u8 0))).below bw2 (by simp)
  have bw12 : Below w1.heap.size w1 w2 := below_join' ((Below.refl _ w1).alloc (Nat.le_refl _) _) bw2 (by simp)
  have hT2 : TenTab w2 := hT1.below bw12
  have hP2 : True := trivial
  clear bw2 hC hP1 hT1
  have hT2d : TenTab w2.drew := hT2.below (Below.refl _ _).drew
  have hA2d : At w2.drew w1.heap.size 87 (Array.replicate 32 (.int .u8 0)) := hA2
  go_wp2_with fail
  go_region_held3 (fun _ => True) (trivial)
    (first
      | (go_at_call 54; refine (numDigits_any w2.drew hT2d d hd0 hd17).mono ?_; rintro e w3 ⟨nd, n1, n2, n3, n4, rfl, rfl⟩)
      | (go_at_call 64; refine (setDigits_any w2.drew w1.heap.size hA2d d nd p n1 n2 n3 n4 (by omega) (by omega)).mono ?_; rintro e w4 ⟨n, d', q1, q2, q3, q4, rfl, q5, q6⟩))
  obtain ⟨ds, hds⟩ : ∃ ds, (List.range n).map (fun j => (48 + d' / 10 ^ (n - 1 - j) % 10).toUInt8) = ds := ⟨_, rfl⟩
  have hlen : ds.length = n := by rw [← hds, List.length_map, List.length_range]
  have hBy : Bytes w4 w1.heap.size 0 ds := fun j hj => by
    rw [hlen] at hj
    rw [Nat.zero_add, q5 j hj, ← hds]
    congr 3
    rw [List.getD_eq_getElem?_getD, List.getElem?_map, List.getElem?_range hj]
    show _ = (Nat.toUInt8 _).toNat
    rw [Lib.toUInt8_toNat (by omega)]
  have hDO : DigitsOf d p ds (nd + p) := ⟨nd, n, d', n1, n2, n3, n4, q1, q2, q3, q4, hds.symm, rfl⟩
  have bw4 : Below w1.heap.size w1 w4 := ⟨q6.os.trans bw12.os, q6.tape.trans bw12.tape, q6.output.trans bw12.output, Nat.le_trans bw12.size q6.size, fun k hk => (q6.block k (Nat.lt_of_lt_of_le hk bw12.size) (by intro e; have := Option.some.inj e; omega)).trans (bw12.block k hk)⟩
  have hv4 : Owns w4 base 5 v [] := hv1.below bw4 (fun g hg => (hv1.lt g hg).2)
  have hne : v.ownBlock ≠ some w1.heap.size := fun e => Nat.lt_irrefl _ (hv1.lt _ e).2
  have hg4 : w1.heap.size < w4.heap.size := Nat.lt_of_lt_of_le hA2d.lt q6.size
  have hb4 : base ≤ w4.heap.size := Nat.le_trans hb1 bw4.size
  have hF := fmt_any w4 w1.heap.size base v neg ds (nd + p) hv4 hb4 hBy hg4 hne (by omega) (by omega) (by omega) (by omega)
  rw [hlen] at hF
  have HLEN := Lib.hid hlen
  clear hlen hds q5 q6 hBy hv4
  go_wp2_with fail
  refine hF.mono ?_
  rintro e w5 ⟨v', rfl, o5, r5⟩
  go_wp2_with fail
  go_ret
  refine ⟨_, _, rfl, ⟨64 - L, d, p, ds, _, ?_, ?_, ?_, hDO, rfl⟩, o5, (bw1.trans (bw4.mono hb1)).trans (r5.below hb4 (fun g hg => (hv1.lt g hg).1))⟩
  · rw [HME.out]; exact l3
  · rw [HME.out]; exact l4
  · rw [HME.out, HE.out]; exact HS.out
end Go.Proofs.YtkaeaiagmihmgaaGreatDoor

namespace Go.Proofs.YtkaeaiagmihmgaaGreatDoor
open Go.RowKit Go.Sort

set_option maxRecDepth 100000 in
set_option maxHeartbeats 3200000 in
theorem ftoa64_sub (w : World) (base : Nat) (v : Value) (hv : Owns w base 5 v []) (hb : base ≤ w.heap.size) (hP : PowTab w) (hT : TenTab w) (neg : Bool) (m b : Nat)
    (hm0 : 0 < m) (hmt : m < 4503599627370496) (hbb : b = (if neg then 9223372036854775808 else 0) + m) :
    Calls Tryz.prog 42 #[v, .float .f64 b, .int .u8 103, .int .i64 (-1)] w fun e w' => ∃ v' t, e = .returned v' ∧ TextNum neg m (-1074) t ∧ Owns w' base 5 v' t ∧ Below base w w' := by
  have f1 := tobits'
  have hb64 : b < 18446744073709551616 := by rw [hbb]; cases neg <;> simp <;> omega
  have hd1 : b / 4503599627370496 < 4096 := by omega
  have hd2 : b / 4503599627370496 % 2048 = 0 := by rw [hbb]; cases neg <;> simp <;> omega
  have hd3 : b % 4503599627370496 = m := by rw [hbb]; cases neg <;> simp <;> omega
  have hd4 : (((b : Int) / 9223372036854775808) != 0) = neg := by rw [hbb]; cases neg <;> simp <;> omega
  have c1 := exp_bits hd1
  have c2 := mant_bits hb64
  rw [hd2, show ((b / 4503599627370496 : Nat) : Int) = (b : Int) / 4503599627370496 from rfl] at c1
  rw [hd3] at c2
  have hm2 : m < 9007199254740992 := by omega
  have t3 : ((m : Int) == 0) = false := by simp; omega
  have HB := Lib.hid hbb
  clear hbb hd2 hd3
  go_enter Tryz.func42, Tryz.ntmps42
  go_wp2_with fail
  go_quiet (fail)
  generalize hw1 : w.drewN _ = w1
  have bw1 : Below base w w1 := by rw [← hw1]; exact ⟨rfl, rfl, rfl, Nat.le_refl _, fun _ _ => rfl⟩
  have bw1' : Below w.heap.size w w1 := by rw [← hw1]; exact ⟨rfl, rfl, rfl, Nat.le_refl _, fun _ _ => rfl⟩
  have hv1 : Owns w1 base 5 v [] := by rw [← hw1]; exact hv
  have hb1 : base ≤ w1.heap.size := Nat.le_trans hb bw1.size
  have hP1 := hP.below bw1'
  have hT1 := hT.below bw1'
  clear hw1 hP hT hv hb bw1'
  obtain ⟨L, hL⟩ : ∃ L, Lib.bitLen m = L := ⟨_, rfl⟩
  obtain ⟨l1, l2, l3, l4⟩ := norm_len hm0 hm2 hL
  have HL := Lib.hid hL
  clear hL
  obtain ⟨M, hM⟩ : ∃ M, m * 2 ^ (64 - L) = M := ⟨_, rfl⟩
  obtain ⟨E, hE⟩ : ∃ E : Int, (-1074 : Int) - ((64 - L : Nat) : Int) = E := ⟨_, rfl⟩
  have hdv : M % 2048 = 0 := by
    rw [← hM, show 64 - L = 11 + (53 - L) by omega, Nat.pow_add, show (2 : Nat) ^ 11 = 2048 from rfl, Nat.mul_left_comm]
    exact Nat.mul_mod_right _ _
  have hwr : IntKind.u64.wrap ((m : Int) * 2 ^ (64 - L)) = (M : Int) := by
    have e : (m : Int) * 2 ^ (64 - L) = (M : Int) := by rw [← hM, Int.natCast_mul, Int.natCast_pow]; rfl
    rw [e, IntKind.wrap_u64]
    omega
  have heq : (-1022 : Int) - (64 - (L : Int)) - 52 = E := by rw [← hE]; omega
  have hE1 : -1137 ≤ E := by omega
  have hE2 : E ≤ 960 := by omega
  have hsub : E < -1085 → M % 2 ^ (-1074 - E).toNat = 0 := fun h => by
    rw [show (-1074 - E).toNat = 64 - L by omega, ← hM]
    exact Nat.mul_mod_left _ _
  rw [hM] at l3 l4
  obtain ⟨⟨d, p⟩, hS⟩ : ∃ r, shortN M E = r := ⟨_, rfl⟩
  have hx := short_exp (m := M) hE1 hE2
  have hsp := short_spec l3 l4 hE1 hE2 hdv hsub
  have hC := fun w0 (h0 : PowTab w0) => shortFloat_any w0 h0 M l3 l4 E hE1 hE2 hdv hsub
  rw [hS] at hx hsp
  simp only [hS] at hC
  have hd0 : 1 ≤ d := hsp.1
  have hd17 : d < 100000000000000000 := hsp.2.1
  have hp1 : -340 ≤ p := hx.1
  have hp2 : p ≤ 310 := hx.2
  have HS := Lib.hid hS
  have HME := Lib.hid hM
  have HE := Lib.hid hE
  clear hS hM hE hx hsp hsub
  go_wp2_with (go_at_call 62; refine (len64_at m L (by omega) HL.out _).mono ?_; rintro e w' ⟨rfl, rfl⟩)
  refine (hC _ (hP1.alloc _)).mono ?_
  rintro e w2 ⟨rfl, bw2⟩
  have hA2 : At w2 w1.heap.size 87 (Array.replicate 32 (.int .u8 0)) := (At.fresh w1 87 (Array.replicate 32 (.int .u8 0))).below bw2 (by simp)
  have bw12 : Below w1.heap.size w1 w2 := below_join' ((Below.refl _ w1).alloc (Nat.le_refl _) _) bw2 (by simp)
  have hT2 : TenTab w2 := hT1.below bw12
  have hP2 : True := trivial
  clear bw2 hC hP1 hT1
  have hT2d : TenTab w2.drew := hT2.below (Below.refl _ _).drew
  have hA2d : At w2.drew w1.heap.size 87 (Array.replicate 32 (.int .u8 0)) := hA2
  go_wp2_with fail
  go_region_held3 (fun _ => True) (trivial)
    (first
      | (go_at_call 54; refine (numDigits_any w2.drew hT2d d hd0 hd17).mono ?_; rintro e w3 ⟨nd, n1, n2, n3, n4, rfl, rfl⟩)
      | (go_at_call 64; refine (setDigits_any w2.drew w1.heap.size hA2d d nd p n1 n2 n3 n4 (by omega) (by omega)).mono ?_; rintro e w4 ⟨n, d', q1, q2, q3, q4, rfl, q5, q6⟩))
  obtain ⟨ds, hds⟩ : ∃ ds, (List.range n).map (fun j => (48 + d' / 10 ^ (n - 1 - j) % 10).toUInt8) = ds := ⟨_, rfl⟩
  have hlen : ds.length = n := by rw [← hds, List.length_map, List.length_range]
  have hBy : Bytes w4 w1.heap.size 0 ds := fun j hj => by
    rw [hlen] at hj
    rw [Nat.zero_add, q5 j hj, ← hds]
    congr 3
    rw [List.getD_eq_getElem?_getD, List.getElem?_map, List.getElem?_range hj]
    show _ = (Nat.toUInt8 _).toNat
    rw [Lib.toUInt8_toNat (by omega)]
  have hDO : DigitsOf d p ds (nd + p) := ⟨nd, n, d', n1, n2, n3, n4, q1, q2, q3, q4, hds.symm, rfl⟩
  have bw4 : Below w1.heap.size w1 w4 := ⟨q6.os.trans bw12.os, q6.tape.trans bw12.tape, q6.output.trans bw12.output, Nat.le_trans bw12.size q6.size, fun k hk => (q6.block k (Nat.lt_of_lt_of_le hk bw12.size) (by intro e; have := Option.some.inj e; omega)).trans (bw12.block k hk)⟩
  have hv4 : Owns w4 base 5 v [] := hv1.below bw4 (fun g hg => (hv1.lt g hg).2)
  have hne : v.ownBlock ≠ some w1.heap.size := fun e => Nat.lt_irrefl _ (hv1.lt _ e).2
  have hg4 : w1.heap.size < w4.heap.size := Nat.lt_of_lt_of_le hA2d.lt q6.size
  have hb4 : base ≤ w4.heap.size := Nat.le_trans hb1 bw4.size
  have hF := fmt_any w4 w1.heap.size base v neg ds (nd + p) hv4 hb4 hBy hg4 hne (by omega) (by omega) (by omega) (by omega)
  rw [hlen] at hF
  have HLEN := Lib.hid hlen
  clear hlen hds q5 q6 hBy hv4
  go_wp2_with fail
  refine hF.mono ?_
  rintro e w5 ⟨v', rfl, o5, r5⟩
  go_wp2_with fail
  go_ret
  refine ⟨_, _, rfl, ⟨64 - L, d, p, ds, _, ?_, ?_, ?_, hDO, rfl⟩, o5, (bw1.trans (bw4.mono hb1)).trans (r5.below hb4 (fun g hg => (hv1.lt g hg).1))⟩
  · rw [HME.out]; exact l3
  · rw [HME.out]; exact l4
  · rw [HME.out, HE.out]; exact HS.out
end Go.Proofs.YtkaeaiagmihmgaaGreatDoor

namespace Go.Proofs.YtkaeaiagmihmgaaGreatDoor
open Go.RowKit Go.Sort

set_option maxRecDepth 100000 in
set_option maxHeartbeats 3200000 in
theorem ftoa64_zero (w : World) (base : Nat) (v : Value) (hv : Owns w base 5 v []) (hb : base ≤ w.heap.size) (neg : Bool) (b : Nat) (hbb : b = (if neg then 9223372036854775808 else 0)) :
    Calls Tryz.prog 42 #[v, .float .f64 b, .int .u8 103, .int .i64 (-1)] w fun e w' => ∃ v', e = .returned v' ∧ Owns w' base 5 v' ((if neg then [45] else []) ++ [48]) ∧ Below base w w' := by
  have f1 := tobits'
  have hb64 : b < 18446744073709551616 := by rw [hbb]; cases neg <;> simp
  have hd1 : b / 4503599627370496 < 4096 := by omega
  have hd2 : b / 4503599627370496 % 2048 = 0 := by rw [hbb]; cases neg <;> simp
  have hd3 : b % 4503599627370496 = 0 := by rw [hbb]; cases neg <;> simp
  have hd4 : (((b : Int) / 9223372036854775808) != 0) = neg := by rw [hbb]; cases neg <;> simp
  have c1 := exp_bits hd1
  have c2 := mant_bits hb64
  rw [hd2, show ((b / 4503599627370496 : Nat) : Int) = (b : Int) / 4503599627370496 from rfl] at c1
  rw [hd3] at c2
  have HB := Lib.hid hbb
  clear hbb hd2 hd3
  obtain ⟨tx, htx⟩ : ∃ tx, (if neg = true then [45] else []) ++ [(48 : UInt8)] = tx := ⟨_, rfl⟩
  rw [htx]
  have HTX := Lib.hid htx
  clear htx
  go_enter Tryz.func42, Tryz.ntmps42
  go_wp2_with fail
  go_quiet (fail)
  generalize hw1 : w.drewN _ = w1
  have bw1 : Below base w w1 := by rw [← hw1]; exact ⟨rfl, rfl, rfl, Nat.le_refl _, fun _ _ => rfl⟩
  have hv1 : Owns w1 base 5 v [] := by rw [← hw1]; exact hv
  have hb1 : base ≤ w1.heap.size := Nat.le_trans hb bw1.size
  clear hw1 hv hb
  go_wp2_with fail
  refine (fmt_zero w1 base v neg hv1 hb1).mono ?_
  rintro e w5 ⟨v', rfl, o5, r5⟩
  rw [HTX.out] at o5
  go_wp2_with fail
  go_ret
  exact ⟨_, rfl, o5, bw1.trans (r5.below hb1 (fun g hg => (hv1.lt g hg).1))⟩

set_option maxRecDepth 100000 in
set_option maxHeartbeats 3200000 in
theorem ftoa64_inf (w : World) (base g cap : Nat) (hv : Owns w base 5 (.slice (some ⟨g, 0, none⟩) 0 cap) []) (hb : base ≤ w.heap.size) (neg : Bool) (b : Nat) (hbb : b = (if neg then 9223372036854775808 else 0) + 9218868437227405312) :
    Calls Tryz.prog 42 #[.slice (some ⟨g, 0, none⟩) 0 cap, .float .f64 b, .int .u8 103, .int .i64 (-1)] w fun e w' => ∃ v', e = .returned v' ∧ Owns w' base 5 v' (if neg then [45, 73, 110, 102] else [43, 73, 110, 102]) ∧ Below base w w' := by
  obtain ⟨i0, hi0, hz0, hz1, hz2⟩ := info_parts info_u8
  have f1 := tobits'
  have hb64 : b < 18446744073709551616 := by rw [hbb]; cases neg <;> simp
  have hd1 : b / 4503599627370496 < 4096 := by omega
  have hd2 : b / 4503599627370496 % 2048 = 2047 := by rw [hbb]; cases neg <;> simp
  have hd3 : b % 4503599627370496 = 0 := by rw [hbb]; cases neg <;> simp
  have hd4 : (((b : Int) / 9223372036854775808) != 0) = neg := by rw [hbb]; cases neg <;> simp
  have c1 := exp_bits hd1
  have c2 := mant_bits hb64
  rw [hd2, show ((b / 4503599627370496 : Nat) : Int) = (b : Int) / 4503599627370496 from rfl] at c1
  rw [hd3] at c2
  have HB := Lib.hid hbb
  clear hbb hd2 hd3
  cases neg with
  | true =>
    go_enter Tryz.func42, Tryz.ntmps42
    go_wp2_with fail
    go_quiet (fail)
    generalize hw1 : w.drewN _ = w1
    have bw1 : Below base w w1 := by rw [← hw1]; exact ⟨rfl, rfl, rfl, Nat.le_refl _, fun _ _ => rfl⟩
    have hv1 : Owns w1 base 5 (.slice (some ⟨g, 0, none⟩) 0 cap) [] := by rw [← hw1]; exact hv
    have hb1 : base ≤ w1.heap.size := Nat.le_trans hb bw1.size
    clear hw1 hv hb
    go_wp2_with (at_builtin; refine wpList_append_str rfl (.tmp 73) (.const (.string ⟨#[45, 73, 110, 102]⟩)) 42 9 rfl base 5 i0 Tryz.underlying42 Tryz.underlying9 hi0 hz0 hz1 hz2 g 0 cap [] [45, 73, 110, 102] rfl hv1 rfl (by simp) hb1 ?_)
    intro g5 m5 c5 w5 o5 r5
    go_wp2_with fail
    go_ret
    exact ⟨_, rfl, o5, bw1.trans (r5.below hb1 (fun g hg => (hv1.lt g hg).1))⟩
  | false =>
    go_enter Tryz.func42, Tryz.ntmps42
    go_wp2_with fail
    go_quiet (fail)
    generalize hw1 : w.drewN _ = w1
    have bw1 : Below base w w1 := by rw [← hw1]; exact ⟨rfl, rfl, rfl, Nat.le_refl _, fun _ _ => rfl⟩
    have hv1 : Owns w1 base 5 (.slice (some ⟨g, 0, none⟩) 0 cap) [] := by rw [← hw1]; exact hv
    have hb1 : base ≤ w1.heap.size := Nat.le_trans hb bw1.size
    clear hw1 hv hb
    go_wp2_with (at_builtin; refine wpList_append_str rfl (.tmp 75) (.const (.string ⟨#[43, 73, 110, 102]⟩)) 42 9 rfl base 5 i0 Tryz.underlying42 Tryz.underlying9 hi0 hz0 hz1 hz2 g 0 cap [] [43, 73, 110, 102] rfl hv1 rfl (by simp) hb1 ?_)
    intro g5 m5 c5 w5 o5 r5
    go_wp2_with fail
    go_ret
    exact ⟨_, rfl, o5, bw1.trans (r5.below hb1 (fun g hg => (hv1.lt g hg).1))⟩

set_option maxRecDepth 100000 in
set_option maxHeartbeats 3200000 in
theorem ftoa64_nan (w : World) (base g cap : Nat) (hv : Owns w base 5 (.slice (some ⟨g, 0, none⟩) 0 cap) []) (hb : base ≤ w.heap.size) (b : Nat) (hb64 : b < 18446744073709551616) (h1 : b / 4503599627370496 % 2048 = 2047) (h2 : b % 4503599627370496 ≠ 0) :
    Calls Tryz.prog 42 #[.slice (some ⟨g, 0, none⟩) 0 cap, .float .f64 b, .int .u8 103, .int .i64 (-1)] w fun e w' => ∃ v', e = .returned v' ∧ Owns w' base 5 v' [78, 97, 78] ∧ Below base w w' := by
  obtain ⟨i0, hi0, hz0, hz1, hz2⟩ := info_parts info_u8
  have f1 := tobits'
  have hd1 : b / 4503599627370496 < 4096 := by omega
  have c1 := exp_bits hd1
  have c2 := mant_bits hb64
  rw [h1, show ((b / 4503599627370496 : Nat) : Int) = (b : Int) / 4503599627370496 from rfl] at c1
  obtain ⟨mt, hmt⟩ : ∃ mt, b % 4503599627370496 = mt := ⟨_, rfl⟩
  rw [hmt] at c2 h2
  have t1 : ((mt : Int) != 0) = true := by simp; omega
  obtain ⟨neg, hd4⟩ : ∃ neg, (((b : Int) / 9223372036854775808) != 0) = neg := ⟨_, rfl⟩
  clear hmt h1
  go_enter Tryz.func42, Tryz.ntmps42
  go_wp2_with fail
  go_quiet (fail)
  generalize hw1 : w.drewN _ = w1
  have bw1 : Below base w w1 := by rw [← hw1]; exact ⟨rfl, rfl, rfl, Nat.le_refl _, fun _ _ => rfl⟩
  have hv1 : Owns w1 base 5 (.slice (some ⟨g, 0, none⟩) 0 cap) [] := by rw [← hw1]; exact hv
  have hb1 : base ≤ w1.heap.size := Nat.le_trans hb bw1.size
  clear hw1 hv hb
  go_wp2_with (at_builtin; refine wpList_append_str rfl (.tmp 70) (.const (.string ⟨#[78, 97, 78]⟩)) 42 9 rfl base 5 i0 Tryz.underlying42 Tryz.underlying9 hi0 hz0 hz1 hz2 g 0 cap [] [78, 97, 78] rfl hv1 rfl (by simp) hb1 ?_)
  intro g5 m5 c5 w5 o5 r5
  go_wp2_with fail
  go_ret
  exact ⟨_, rfl, o5, bw1.trans (r5.below hb1 (fun g hg => (hv1.lt g hg).1))⟩
end Go.Proofs.YtkaeaiagmihmgaaGreatDoor

namespace Go.Proofs.YtkaeaiagmihmgaaGreatDoor
open Go.RowKit Go.Sort

def sgn (neg : Bool) : Nat := if neg then 9223372036854775808 else 0
/-- t is the text of the word b. -/
def TextOf (b : Nat) (t : List UInt8) : Prop :=
  (b / 4503599627370496 % 2048 = 2047 ∧ b % 4503599627370496 ≠ 0 ∧ t = [78, 97, 78]) ∨
  ∃ neg : Bool, (b = sgn neg + 9218868437227405312 ∧ t = (if neg then [45, 73, 110, 102] else [43, 73, 110, 102])) ∨ (b = sgn neg ∧ t = (if neg then [45] else []) ++ [48]) ∨
    (∃ m, 0 < m ∧ m < 4503599627370496 ∧ b = sgn neg + m ∧ TextNum neg m (-1074) t) ∨
    ∃ ex mt : Nat, 1 ≤ ex ∧ ex ≤ 2046 ∧ mt < 4503599627370496 ∧ b = sgn neg + ex * 4503599627370496 + mt ∧ TextNum neg (mt + 4503599627370496) ((ex : Int) - 1075) t
theorem TextNum.one {neg : Bool} {m : Nat} {e : Int} {t t' : List UInt8} (h : TextNum neg m e t) (h' : TextNum neg m e t') : t = t' := by
  obtain ⟨k, d, p, ds, dp, a1, a2, a3, a4, rfl⟩ := h
  obtain ⟨k', d', p', ds', dp', b1, b2, b3, b4, rfl⟩ := h'
  have hk : k = k' := by
    unfold topM at a1 b1
    rcases Nat.lt_trichotomy k k' with h | h | h
    · exfalso
      have h1 : 2 ^ (k + 1) ≤ 2 ^ k' := Nat.pow_le_pow_right (by decide) h
      have h2 := Nat.mul_le_mul_left m h1
      rw [Nat.pow_succ, ← Nat.mul_assoc] at h2
      omega
    · exact h
    · exfalso
      have h1 : 2 ^ (k' + 1) ≤ 2 ^ k := Nat.pow_le_pow_right (by decide) h
      have h2 := Nat.mul_le_mul_left m h1
      rw [Nat.pow_succ, ← Nat.mul_assoc] at h2
      omega
  subst hk
  rw [a3] at b3
  injection b3 with e1 e2
  subst e1; subst e2
  obtain ⟨rfl, rfl⟩ := a4.one b4
  rfl
theorem TextOf.one {b : Nat} {t t' : List UInt8} (h : TextOf b t) (h' : TextOf b t') : t = t' := by
  rcases h with ⟨a1, a2, rfl⟩ | ⟨n, ha⟩
  · rcases h' with ⟨_, _, rfl⟩ | ⟨n', hb⟩
    · rfl
    · exfalso
      rcases hb with ⟨e, _⟩ | ⟨e, _⟩ | ⟨m, _, _, e, _⟩ | ⟨ex, mt, _, _, _, e, _⟩ <;> cases n' <;> simp only [sgn, if_true, Bool.false_eq_true, if_false] at e <;> omega
  · rcases h' with ⟨b1, b2, rfl⟩ | ⟨n', hb⟩
    · exfalso
      rcases ha with ⟨e, _⟩ | ⟨e, _⟩ | ⟨m, _, _, e, _⟩ | ⟨ex, mt, _, _, _, e, _⟩ <;> cases n <;> simp only [sgn, if_true, Bool.false_eq_true, if_false] at e <;> omega
    · have hn : n = n' := by
        rcases ha with ⟨e, _⟩ | ⟨e, _⟩ | ⟨m, _, _, e, _⟩ | ⟨ex, mt, _, _, _, e, _⟩ <;> rcases hb with ⟨f, _⟩ | ⟨f, _⟩ | ⟨m', _, _, f, _⟩ | ⟨ex', mt', _, _, _, f, _⟩ <;>
          cases n <;> cases n' <;> simp only [sgn, if_true, Bool.false_eq_true, if_false] at e f <;> first | rfl | (exfalso; omega)
      subst hn
      generalize sgn n = z at ha hb
      rcases ha with ⟨e, rfl⟩ | ⟨e, rfl⟩ | ⟨m, _, _, e, ha⟩ | ⟨ex, mt, _, _, _, e, ha⟩ <;> rcases hb with ⟨f, rfl⟩ | ⟨f, rfl⟩ | ⟨m', _, _, f, hb⟩ | ⟨ex', mt', _, _, _, f, hb⟩
      all_goals first
        | rfl
        | (exfalso; omega)
        | (obtain rfl : m = m' := by omega
           exact ha.one hb)
        | (obtain rfl : ex = ex' := by omega
           obtain rfl : mt = mt' := by omega
           exact ha.one hb)

theorem ftoa64_any (w : World) (base g cap : Nat) (hv : Owns w base 5 (.slice (some ⟨g, 0, none⟩) 0 cap) []) (hb : base ≤ w.heap.size) (hP : PowTab w) (hT : TenTab w) (b : Nat) (hb64 : b < 18446744073709551616) :
    Calls Tryz.prog 42 #[.slice (some ⟨g, 0, none⟩) 0 cap, .float .f64 b, .int .u8 103, .int .i64 (-1)] w fun e w' => ∃ v' t, e = .returned v' ∧ TextOf b t ∧ Owns w' base 5 v' t ∧ Below base w w' := by
  obtain ⟨neg, hs⟩ : ∃ neg : Bool, b / 9223372036854775808 * 9223372036854775808 = sgn neg := by
    by_cases h : b < 9223372036854775808
    · exact ⟨false, by unfold sgn; simp; omega⟩
    · exact ⟨true, by unfold sgn; simp; omega⟩
  obtain ⟨ex, hex⟩ : ∃ ex, b / 4503599627370496 % 2048 = ex := ⟨_, rfl⟩
  obtain ⟨mt, hmt⟩ : ∃ mt, b % 4503599627370496 = mt := ⟨_, rfl⟩
  have hbb : b = sgn neg + ex * 4503599627370496 + mt := by omega
  by_cases h1 : ex = 2047
  · by_cases h2 : mt = 0
    · have hbi : b = sgn neg + 9218868437227405312 := by omega
      refine (ftoa64_inf w base g cap hv hb neg b hbi).mono ?_
      rintro e w' ⟨v', rfl, o, r⟩
      exact ⟨v', _, rfl, .inr ⟨neg, .inl ⟨hbi, rfl⟩⟩, o, r⟩
    · refine (ftoa64_nan w base g cap hv hb b hb64 (by omega) (by omega)).mono ?_
      rintro e w' ⟨v', rfl, o, r⟩
      exact ⟨v', _, rfl, .inl ⟨by omega, by omega, rfl⟩, o, r⟩
  · by_cases h2 : ex = 0
    · by_cases h3 : mt = 0
      · have hbi : b = sgn neg := by rw [hbb, h2, h3]; omega
        refine (ftoa64_zero w base _ hv hb neg b hbi).mono ?_
        rintro e w' ⟨v', rfl, o, r⟩
        exact ⟨v', _, rfl, .inr ⟨neg, .inr (.inl ⟨hbi, rfl⟩)⟩, o, r⟩
      · have hbi : b = sgn neg + mt := by rw [hbb, h2]; omega
        refine (ftoa64_sub w base _ hv hb hP hT neg mt b (by omega) (by omega) hbi).mono ?_
        rintro e w' ⟨v', t, rfl, ht, o, r⟩
        exact ⟨v', t, rfl, .inr ⟨neg, .inr (.inr (.inl ⟨mt, by omega, by omega, hbi, ht⟩))⟩, o, r⟩
    · refine (ftoa64_normal w base _ hv hb hP hT neg ex mt b (by omega) (by omega) (by omega) hbb).mono ?_
      rintro e w' ⟨v', t, rfl, ht, o, r⟩
      exact ⟨v', t, rfl, .inr ⟨neg, .inr (.inr (.inr ⟨ex, mt, by omega, by omega, by omega, hbb, ht⟩))⟩, o, r⟩

set_option maxRecDepth 100000 in
set_option maxHeartbeats 1600000 in
theorem formatFloat_any (w : World) (hP : PowTab w) (hT : TenTab w) (b : Nat) (hb64 : b < 18446744073709551616) :
    Calls Tryz.prog 31 #[.float .f64 b, .int .u8 103, .int .i64 (-1), .int .i64 64] w fun e w' => ∃ t, e = .returned (.string ⟨t.toArray⟩) ∧ TextOf b t ∧ Below w.heap.size w w' := by
  have m1 : max (3 : Int) 24 = 24 := rfl
  go_enter Tryz.func31, Tryz.ntmps31
  obtain ⟨i0, hi0, hz0, hz1, hz2⟩ := info_parts info_u8
  go_wp2_with (refine wpList_make_own w rfl (.const (.int .i64 0)) (.tmp 25) 42 rfl w.heap.size 5 i0 (.int .u8 0) 1 Tryz.underlying42 hi0 hz0 hz1 .i64 .i64 24 24 rfl rfl rfl ?c1 ?c2 ?c3 ?_)
  case c1 => omega
  case c2 => unfold maxLen; omega
  case c3 => omega
  intro w1 o1 r1
  have hv : Owns w1 w.heap.size 5 (.slice (some ⟨w.heap.size, 0, none⟩) 0 24) [] := o1
  have b1 : Below w.heap.size w w1 := (Below.refl _ _).grown r1 (Nat.le_refl _) (fun k h => by cases h)
  go_wp2_with fail
  refine (ftoa64_any w1 w.heap.size w.heap.size 24 hv r1.size (hP.below b1) (hT.below b1) b hb64).mono ?_
  rintro e w2 ⟨v', t, rfl, ht, o2, b2⟩
  have hx := run_bytes_owned (P := Tryz.prog) 42 9 5 Tryz.underlying42 Tryz.underlying5 Tryz.underlying9 o2
  go_wp2_with fail
  go_ret
  exact ⟨t, rfl, ht, b1.trans b2⟩

set_option maxHeartbeats 400000 in
theorem strFormatFloat_any (w : World) (hP : PowTab w) (hT : TenTab w) (b : Nat) (hb64 : b < 18446744073709551616) :
    Calls Tryz.prog 16 #[.float .f64 b, .int .u8 103, .int .i64 (-1), .int .i64 64] w fun e w' => ∃ t, e = .returned (.string ⟨t.toArray⟩) ∧ TextOf b t ∧ Below w.heap.size w w' := by
  go_enter Tryz.func16, Tryz.ntmps16
  go_wp2_with fail
  refine (formatFloat_any w hP hT b hb64).mono ?_
  rintro e w1 ⟨t, rfl, ht, b1⟩
  go_wp2_with fail
  go_ret
  exact ⟨t, rfl, ht, b1⟩

set_option maxHeartbeats 400000 in
theorem text_any (a : Int) (w : World) (hP : PowTab w) (hT : TenTab w) :
    Calls Tryz.prog 15 #[.int .i64 a] w fun e w' => ∃ t, e = .returned (.string ⟨t.toArray⟩) ∧ TextOf (canonW (wordOf a)) t ∧ Below w.heap.size w w' := by
  have hw := wordOf_canonI (wordOf_lt a)
  have hlt := canonW_lt (wordOf_lt a)
  obtain ⟨c, hc⟩ : ∃ c, canonI (wordOf a) = c := ⟨_, rfl⟩
  obtain ⟨k, hk⟩ : ∃ k, canonW (wordOf a) = k := ⟨_, rfl⟩
  rw [hc, hk] at hw
  rw [hk] at hlt ⊢
  have HC := Lib.hid hc
  clear hc hk
  go_enter Tryz.func15, Tryz.ntmps15
  go_wp2_with (first | (go_at_call 30; refine (canonBits_any _ _).mono ?_; rintro e w' ⟨rfl, rfl⟩; rw [HC.out]) | (go_at_call 29; refine (of_any _ _).mono ?_; rintro e w' ⟨rfl, rfl⟩; rw [hw]))
  refine (strFormatFloat_any w hP hT k hlt).mono ?_
  rintro e w1 ⟨t, rfl, ht, b1⟩
  go_wp2_with fail
  go_ret
  exact ⟨t, rfl, ht, b1⟩
end Go.Proofs.YtkaeaiagmihmgaaGreatDoor
