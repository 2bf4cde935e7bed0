/- strconv's pack64: the word of a mantissa and an exponent. -/
/- strconv's pack64 and parseFloat64. -/
/- strconv's pack64 and parseFloat64 return a float, with no error or with what ErrRange holds, whatever they are given. -/
import Derived.Test.YtkaeaiagmihmgaaGreatDoorQFxJ
import Derived.Laws.BitsAllLaws
namespace Go.Proofs.YtkaeaiagmihmgaaGreatDoor
open Go.RowKit Go.Sort

theorem split52 (z : Nat) : z = z / 4503599627370496 * 4503599627370496 + z % 4503599627370496 := by omega
theorem and52 (a b : Nat) : a &&& b = (a / 4503599627370496 &&& b / 4503599627370496) * 4503599627370496 + (a % 4503599627370496 &&& b % 4503599627370496) := by
  have h1 := Nat.and_div_two_pow (a := a) (b := b) (n := 52)
  have h2 := Nat.and_mod_two_pow (a := a) (b := b) (n := 52)
  rw [show (2 : Nat) ^ 52 = 4503599627370496 from rfl] at h1 h2
  rw [← h1, ← h2]
  exact split52 _
theorem or52 (a b : Nat) : a ||| b = (a / 4503599627370496 ||| b / 4503599627370496) * 4503599627370496 + (a % 4503599627370496 ||| b % 4503599627370496) := by
  have h1 := Nat.or_div_two_pow (a := a) (b := b) (n := 52)
  have h2 := Nat.or_mod_two_pow (a := a) (b := b) (n := 52)
  rw [show (2 : Nat) ^ 52 = 4503599627370496 from rfl] at h1 h2
  rw [← h1, ← h2]
  exact split52 _
theorem and_full {x : Nat} (h : x < 4503599627370496) : x &&& 4503599627370495 = x := by
  have := Nat.and_two_pow_sub_one_eq_mod x 52
  rw [show (2 : Nat) ^ 52 - 1 = 4503599627370495 from rfl, show (2 : Nat) ^ 52 = 4503599627370496 from rfl] at this
  rw [this]
  omega
section
variable {neg : Bool} {M : Nat}
theorem sgn_lt : sgn neg + M < 18446744073709551616 ↔ M < (if neg then 9223372036854775808 else 18446744073709551616) := by
  cases neg <;> simp [sgn] <;> omega
/-- 'sign | m' -/
theorem or_sign (h : M < 9223372036854775808) : bits .or .u64 ((sgn neg : Nat) : Int) (M : Int) = ((sgn neg + M : Nat) : Int) := by
  have e := u64_or_nat (sgn neg) M (by cases neg <;> simp [sgn]) (by omega)
  rw [e]
  cases neg with
  | true =>
    have := Nat.two_pow_add_eq_or_of_lt (i := 63) (b := M) h 1
    rw [Nat.mul_one, show (2 : Nat) ^ 63 = 9223372036854775808 from rfl] at this
    show ((9223372036854775808 ||| M : Nat) : Int) = _
    rw [← this]
    rfl
  | false =>
    show ((0 ||| M : Nat) : Int) = ((0 + M : Nat) : Int)
    rw [Nat.zero_or, Nat.zero_add]
theorem top_bit (h : M < 9007199254740992) : bits .and .u64 ((sgn neg + M : Nat) : Int) 4503599627370496 = (((if M < 4503599627370496 then 0 else 4503599627370496) : Nat) : Int) := by
  have e := u64_and_nat (sgn neg + M) 4503599627370496 (by cases neg <;> simp [sgn] <;> omega) (by decide)
  rw [show ((4503599627370496 : Nat) : Int) = 4503599627370496 from rfl] at e
  rw [e]
  congr 1
  rw [and52, show 4503599627370496 % 4503599627370496 = 0 from rfl, Nat.and_zero, show 4503599627370496 / 4503599627370496 = 1 from rfl, Nat.and_one_is_mod]
  split
  · have : (sgn neg + M) / 4503599627370496 % 2 = 0 := by cases neg <;> simp [sgn] <;> omega
    omega
  · have : (sgn neg + M) / 4503599627370496 % 2 = 1 := by cases neg <;> simp [sgn] <;> omega
    omega
theorem drop_top (h1 : 4503599627370496 ≤ M) (h2 : M < 9007199254740992) : bits .andNot .u64 ((sgn neg + M : Nat) : Int) 4503599627370496 = ((sgn neg + (M - 4503599627370496) : Nat) : Int) := by
  have e := u64_andNot_nat (sgn neg + M) 4503599627370496 (by cases neg <;> simp [sgn] <;> omega) (by decide)
  refine e.trans ?_
  refine congrArg (fun n : Nat => (n : Int)) ?_
  rw [and52, show (18446744073709551615 - 4503599627370496) % 4503599627370496 = 4503599627370495 from rfl, show (18446744073709551615 - 4503599627370496) / 4503599627370496 = 4094 from rfl, and_full (by omega)]
  have hm : (sgn neg + M) % 4503599627370496 = M - 4503599627370496 := by cases neg <;> simp [sgn] <;> omega
  have hq : ((sgn neg + M) / 4503599627370496 &&& 4094) * 4503599627370496 = sgn neg := by
    cases neg with
    | true =>
      have : (sgn true + M) / 4503599627370496 = 2049 := by simp [sgn]; omega
      rw [this]; rfl
    | false =>
      have : (sgn false + M) / 4503599627370496 = 1 := by simp [sgn]; omega
      rw [this]; rfl
  rw [hm, hq]
theorem put_exp {x : Nat} (h : M < 4503599627370496) (hx : x < 2048) : bits .or .u64 ((sgn neg + M : Nat) : Int) ((x * 4503599627370496 : Nat) : Int) = ((sgn neg + x * 4503599627370496 + M : Nat) : Int) := by
  have e := u64_or_nat (sgn neg + M) (x * 4503599627370496) (by cases neg <;> simp [sgn] <;> omega) (by omega)
  rw [e]
  congr 1
  rw [or52, Nat.mul_mod_left, Nat.or_zero, Nat.mul_div_cancel _ (by decide)]
  have hm : (sgn neg + M) % 4503599627370496 = M := by cases neg <;> simp [sgn] <;> omega
  have hq : ((sgn neg + M) / 4503599627370496 ||| x) * 4503599627370496 = sgn neg + x * 4503599627370496 := by
    cases neg with
    | true =>
      have h1 : (sgn true + M) / 4503599627370496 = 2048 := by simp [sgn]; omega
      have h2 := Nat.two_pow_add_eq_or_of_lt (i := 11) (b := x) hx 1
      rw [Nat.mul_one, show (2 : Nat) ^ 11 = 2048 from rfl] at h2
      rw [h1, ← h2]
      simp [sgn]
      omega
    | false =>
      have h1 : (sgn false + M) / 4503599627370496 = 0 := by simp [sgn]; omega
      rw [h1, Nat.zero_or]
      simp [sgn]
  rw [hm, hq]
theorem just_sign (h : M < 9007199254740992) : bits .and .u64 ((sgn neg + M : Nat) : Int) 9223372036854775808 = ((sgn neg : Nat) : Int) := by
  have e := u64_and_nat (sgn neg + M) 9223372036854775808 (by cases neg <;> simp [sgn] <;> omega) (by decide)
  refine e.trans ?_
  congr 1
  rw [and52, show 9223372036854775808 % 4503599627370496 = 0 from rfl, Nat.and_zero, show 9223372036854775808 / 4503599627370496 = 2048 from rfl]
  cases neg with
  | true =>
    have h1 : (sgn true + M) / 4503599627370496 = 2048 ∨ (sgn true + M) / 4503599627370496 = 2049 := by simp [sgn]; omega
    rcases h1 with h1 | h1 <;> rw [h1] <;> rfl
  | false =>
    have h1 : (sgn false + M) / 4503599627370496 = 0 ∨ (sgn false + M) / 4503599627370496 = 1 := by simp [sgn]; omega
    rcases h1 with h1 | h1 <;> rw [h1] <;> rfl
end
end Go.Proofs.YtkaeaiagmihmgaaGreatDoor

namespace Go.Proofs.YtkaeaiagmihmgaaGreatDoor
open Go.RowKit Go.Sort

theorem frombits' (b : Nat) (w : World) : (callFunc 135 #[.int .u64 b]).run Tryz.prog w = .ok (.value (.float .f64 b)) w := by
  rw [run_callFunc_extern Tryz.func135 (by kernel_rfl) (by kernel_rfl) (by kernel_rfl) (e := Extern.MathFloatBits.float64frombits) (by rfl)]
  rfl
/-- The word of sign, mantissa and exponent; none: out of range. -/
def packW (neg : Bool) (M : Nat) (e : Int) : Nat := if M < 4503599627370496 then sgn neg + M else if 972 ≤ e then sgn neg + 9218868437227405312 else sgn neg + (1075 + e).toNat * 4503599627370496 + (M - 4503599627370496)

set_option maxRecDepth 100000 in
set_option maxHeartbeats 800000 in
theorem pack64_fine (w : World) (neg : Bool) (M : Nat) (e : Int) (hM : M < 9007199254740992) (he1 : -1074 ≤ e) (he2 : e < 972) :
    Calls Tryz.prog 143 #[.int .u64 (sgn neg + M : Nat), .int .i64 e] w fun x w' => x = .returned (.tuple #[.float .f64 (packW neg M e), .nilIface]) ∧ w = w' := by
  have f1 := frombits'
  have hz : sgn neg + M < 18446744073709551616 := by cases neg <;> simp [sgn] <;> omega
  have c1 := top_bit (neg := neg) hM
  by_cases h : M < 4503599627370496
  · rw [if_pos h] at c1
    have hpk : packW neg M e = sgn neg + M := by unfold packW; rw [if_pos h]
    rw [hpk]
    clear hpk
    generalize sgn neg + M = z at *
    go_enter Tryz.func143, Tryz.ntmps143
    go_wp2_with fail
    go_ret2
    exact ⟨rfl, rfl⟩
  · rw [if_neg h] at c1
    have c2 := drop_top (neg := neg) (M := M) (by omega) hM
    obtain ⟨x, hx⟩ : ∃ x : Nat, 1075 + e = (x : Int) := ⟨(1075 + e).toNat, by omega⟩
    have c3 := put_exp (neg := neg) (M := M - 4503599627370496) (x := x) (by omega) (by omega)
    have hpk : packW neg M e = sgn neg + x * 4503599627370496 + (M - 4503599627370496) := by unfold packW; rw [if_neg h, if_neg (by omega), show (1075 + e).toNat = x by omega]
    rw [hpk]
    clear hpk
    have hsh : IntKind.u64.wrap ((x : Int) * 4503599627370496) = ((x * 4503599627370496 : Nat) : Int) := by rw [IntKind.wrap_u64]; omega
    have hxw : IntKind.u64.wrap (x : Int) = (x : Int) := by rw [IntKind.wrap_u64]; omega
    have hnz : ((4503599627370496 : Int) == 0) = false := by decide
    generalize sgn neg + M = z at *
    generalize sgn neg + (M - 4503599627370496) = y at *
    generalize sgn neg + x * 4503599627370496 + (M - 4503599627370496) = u at *
    generalize hX : x * 4503599627370496 = X at *
    go_enter Tryz.func143, Tryz.ntmps143
    go_wp2_with fail
    go_ret2
    exact ⟨rfl, rfl⟩

theorem unmin_at (w : World) : Calls Tryz.prog 97 #[.int .u64 9007199254740992] w fun x w' => x = .returned (.int .u64 36028797018963966) ∧ w = w' := by
  go_enter Tryz.func97, Tryz.ntmps97
  go_wp2_with fail
  go_ret
  exact ⟨rfl, rfl⟩
theorem paE_le (b : Nat) (p : Int) : paE b p ≤ 1074 ∧ paE b p ≤ 53 - b - lg p := by unfold paE; omega
theorem paS_ge {b : Nat} (p : Int) : 8 ≤ paS b p := by
  have := paE_le b p
  unfold paS
  omega
theorem norm_any {d L : Nat} (h0 : 0 < d) (h : d < 18446744073709551616) (hL : Lib.bitLen d = L) : 1 ≤ L ∧ L ≤ 64 ∧ 9223372036854775808 ≤ d * 2 ^ (64 - L) ∧ d * 2 ^ (64 - L) < 18446744073709551616 := by
  obtain ⟨n, e1, e2, e3⟩ := bitLen_bounds d h0 (by omega)
  have hn : n < 64 := by
    rcases Nat.lt_or_ge n 64 with h1 | h1
    · exact h1
    · have : 2 ^ 64 ≤ 2 ^ n := Nat.pow_le_pow_right (by decide) h1
      omega
  rw [e1] at hL
  subst hL
  refine ⟨by omega, by omega, ?_, ?_⟩
  · have : 2 ^ n * 2 ^ (64 - (n + 1)) = 2 ^ 63 := by rw [← Nat.pow_add]; congr 1; omega
    have h2 := Nat.mul_le_mul_right (2 ^ (64 - (n + 1))) e2
    omega
  · have : 2 ^ (n + 1) * 2 ^ (64 - (n + 1)) = 2 ^ 64 := by rw [← Nat.pow_add]; congr 1; omega
    have h2 := Nat.mul_lt_mul_of_pos_right e3 (Nat.pow_pos (n := 64 - (n + 1)) (show 0 < 2 by decide))
    omega
theorem half_bits {u : Nat} (h : u < 18446744073709551616) : bits .or .u64 ((u : Int) / 2) (bits .and .u64 (u : Int) 1) = ((half u : Nat) : Int) := by
  rw [and1_u64 u h, show (u : Int) / 2 = ((u / 2 : Nat) : Int) by omega]
  rw [u64_or_nat (u / 2) (u % 2) (by omega) (by omega)]
  refine congrArg (fun n : Nat => (n : Int)) ?_
  unfold half od
  rcases Nat.mod_two_eq_zero_or_one u with h1 | h1 <;> rw [h1]
  · simp
  · rw [if_pos rfl]
    apply Nat.eq_of_testBit_eq
    intro i
    have h2 := Nat.two_pow_add_eq_or_of_lt (i := 1) (b := 1) (by decide) (u / 2 / 2)
    rw [show (2 : Nat) ^ 1 = 2 from rfl] at h2
    rw [show u / 2 / 2 * 2 + 1 = 2 * (u / 2 / 2) + 1 by omega, h2]
    rw [Nat.testBit_or, Nat.testBit_or]
    cases i with
    | zero => simp
    | succ i =>
      simp only [Nat.testBit_succ]
      rw [Nat.mul_div_cancel_left _ (by decide)]

set_option maxRecDepth 100000 in
set_option maxHeartbeats 1600000 in
theorem parse64_in (w : World) (hP : PowTab w) (neg : Bool) (d : Nat) (p : Int) (L : Nat) (hd0 : 0 < d) (hd : d < 18446744073709551616) (hL : Lib.bitLen d = L) (hp1 : -348 ≤ p) (hp2 : p ≤ 347) (hs : paS L p < 64)
    (hM : paM d L p < 9007199254740992) (he1 : -1074 ≤ paX d L p) (he2 : paX d L p < 972) :
    Calls Tryz.prog 137 #[.int .u64 d, .int .i64 p, .int .u64 (sgn neg : Nat)] w fun x w' => x = .returned (.tuple #[.float .f64 (packW neg (paM d L p) (paX d L p)), .nilIface]) ∧ Below w.heap.size w w' := by
  obtain ⟨l1, l2, l3, l4⟩ := norm_any hd0 hd hL
  have hs8 := paS_ge (b := L) p
  have hrow := row_facts hp1 hp2
  obtain ⟨i, hi⟩ : ∃ i : Nat, p = (i : Int) - 348 := ⟨(p + 348).toNat, by omega⟩
  have hi6 : i < 696 := by omega
  obtain ⟨lp, hlp⟩ : ∃ lp, lg p = lp := ⟨_, rfl⟩
  have hlpb : -2000 ≤ lp ∧ lp ≤ 2000 := by rw [← hlp]; unfold lg; omega
  obtain ⟨E, hE⟩ : ∃ E, paE L p = E := ⟨_, rfl⟩
  have hEm : min (1074 : Int) (53 - (L : Int) - lp) = E := by rw [← hE, ← hlp]; rfl
  obtain ⟨t, ht⟩ : ∃ t : Nat, paS L p = (t : Int) := ⟨(paS L p).toNat, by omega⟩
  have hte : -(E - (64 - (L : Int)) + lp + 3) = (t : Int) := by rw [← ht, ← hE, ← hlp]; rfl
  have hEb : -3000 ≤ E ∧ E ≤ 1074 := by omega
  have PRE := prescale_any w hP i hi6 (E - (64 - (L : Int))) lp (by omega) (by omega)
  rw [hte] at PRE
  have hU0 : paU d L p = usc (d * 2 ^ (64 - L)) (Pinned.pow10Rows.getD i (0, 0)).1 (Pinned.pow10Rows.getD i (0, 0)).2 t := by
    unfold paU uscP tenRow
    rw [show (p + 348).toNat = i by omega, show (paS L p).toNat = t by omega]
  have hrow' : (tenRow p) = Pinned.pow10Rows.getD i (0, 0) := by unfold tenRow; rw [show (p + 348).toNat = i by omega]
  rw [hrow'] at hrow
  obtain ⟨hr1, hr2, hr3, -⟩ := hrow
  generalize (Pinned.pow10Rows.getD i (0, 0)).1 = ph at *
  generalize (Pinned.pow10Rows.getD i (0, 0)).2 = pl at *
  obtain ⟨X, hX⟩ : ∃ X, d * 2 ^ (64 - L) = X := ⟨_, rfl⟩
  rw [hX] at hU0 l3 l4
  have hwr : IntKind.u64.wrap ((d : Int) * 2 ^ (64 - L)) = (X : Int) := by
    have e : (d : Int) * 2 ^ (64 - L) = (X : Int) := by rw [← hX, Int.natCast_mul, Int.natCast_pow]; rfl
    rw [e, IntKind.wrap_u64]
    omega
  have hc : ∀ (k : Nat) (v : Value), (#[Value.int .u64 ph, .int .u64 pl, .int .i64 t] : Array Value)[k]? = some v → (w.alloc (.cells #[.int .u64 ph, .int .u64 pl, .int .i64 t] 116)).cell? ⟨w.heap.size, k, none⟩ = some v := fun k v hk => by
    rw [← hk]; exact (At.fresh w _ _).cell k
  have hc2 : (w.alloc (.cells #[.int .u64 ph, .int .u64 pl, .int .i64 t] 116)).cell? ⟨w.heap.size, 2, none⟩ = some (.int .i64 t) := hc 2 _ rfl
  have US := uscale_any (w.alloc (.cells #[.int .u64 ph, .int .u64 pl, .int .i64 t] 116)) w.heap.size X ph pl t (hc 0 _ rfl) (hc 1 _ rfl) hc2 l4 hr1 hr3 (by omega) (h_pos (by omega) hr2)
  have UL := usc_lt (lo := pl) l4 hr1 (show 2 ≤ t by omega)
  obtain ⟨u, hu⟩ : ∃ u, paU d L p = u := ⟨_, rfl⟩
  rw [← hU0, hu] at US UL
  have hW : Below w.heap.size w (w.alloc (.cells #[.int .u64 ph, .int .u64 pl, .int .i64 t] 116)) := (Below.refl _ _).alloc (Nat.le_refl _) _
  have HW := Lib.hid hW
  have hLn : L ≤ 64 := l2
  have ht64 : ¬ (64 : Int) ≤ (t : Int) := by omega
  obtain ⟨M, hMe⟩ : ∃ M, paM d L p = M := ⟨_, rfl⟩
  obtain ⟨x, hxe⟩ : ∃ x, paX d L p = x := ⟨_, rfl⟩
  have hMd : M = if 36028797018963966 ≤ u then rnd (half u) else rnd u := by rw [← hMe, ← hu]; rfl
  have hxd : x = if 36028797018963966 ≤ u then -(E - 1) else -E := by rw [← hxe, ← hu, ← hE]; rfl
  rw [hMe] at hM ⊢
  rw [hxe] at he1 he2 ⊢
  have HL := Lib.hid hL
  have PK := fun w0 => pack64_fine w0 neg M x hM he1 he2
  have OS := or_sign (neg := neg) (M := M) (by omega)
  generalize packW neg M x = pw at *
  obtain ⟨z, hz⟩ : ∃ z, sgn neg + M = z := ⟨_, rfl⟩
  rw [hz] at OS
  simp only [hz] at PK
  generalize sgn neg = sg at *
  have HLP := Lib.hid hlp
  clear hz hX hU0 hu hMe hxe hE ht hlp hW hc hrow' hL hs hs8 hM
  subst hi
  by_cases hcu : 36028797018963966 ≤ u
  · rw [if_pos hcu] at hMd hxd
    have hcu' : decide ((36028797018963966 : Int) ≤ (u : Int)) = true := by simp; omega
    have hh := half_bits (u := u) (by omega)
    have hhl : half u < 9223372036854775808 := by unfold half od; split <;> omega
    obtain ⟨v, hv⟩ : ∃ v, half u = v := ⟨_, rfl⟩
    rw [hv] at hh hMd hhl
    have hr : rnd v = M := hMd.symm
    have HR := Lib.hid hr
    have hxe : -(E - 1) = x := hxd.symm
    clear hv hMd hxd hr
    go_enter Tryz.func137, Tryz.ntmps137
    go_wp2_with (first
      | (go_at_call 62; refine (len64_at d L hd HL.out _).mono ?_; rintro e w' ⟨rfl, rfl⟩)
      | (go_at_call 91; refine (log2_any _ (by omega) (by omega) _).mono ?_; rintro e w' ⟨rfl, rfl⟩; rw [HLP.out]))
    refine PRE.mono ?_
    rintro e w1 ⟨rfl, hw1⟩
    subst hw1
    go_wp2_with fail
    refine US.mono ?_
    rintro e w2 ⟨rfl, nd, hw2⟩
    have b2 : Below w.heap.size w w2 := by rw [← hw2]; exact below_drewN HW.out nd
    clear hw2 US PRE
    go_wp2_with (first
      | (go_at_call 97; refine (unmin_at _).mono ?_; rintro e w' ⟨rfl, rfl⟩)
      | (go_at_call 83; refine (bool2i_1 _ (by first | rfl | assumption) _).mono ?_; rintro e w' ⟨rfl, rfl⟩)
      | (go_at_call 96; refine (round_any _ (by omega) _).mono ?_; rintro e w' ⟨rfl, rfl⟩; rw [HR.out]))
    refine (PK _).mono ?_
    rintro e w' ⟨rfl, rfl⟩
    go_wp2_with fail
    go_ret2
    exact ⟨rfl, b2⟩
  · rw [if_neg hcu] at hMd hxd
    have hcu' : decide ((36028797018963966 : Int) ≤ (u : Int)) = false := by simp; omega
    have hh : bits .or .u64 (u : Int) (bits .and .u64 (u : Int) 1) = (u : Int) := by
      rw [and1_u64 u (by omega), u64_or_nat u (u % 2) (by omega) (by omega)]
      refine congrArg (fun n : Nat => (n : Int)) ?_
      apply Nat.eq_of_testBit_eq
      intro i
      rw [Nat.testBit_or]
      cases i with
      | zero => simp [Nat.testBit_zero]
      | succ i =>
        have : Nat.testBit (u % 2) (i + 1) = false := by rw [Nat.testBit_succ, show u % 2 / 2 = 0 by omega, Nat.zero_testBit]
        rw [this, Bool.or_false]
    have hr : rnd u = M := hMd.symm
    have HR := Lib.hid hr
    have hxe : -E = x := hxd.symm
    clear hMd hxd hr
    go_enter Tryz.func137, Tryz.ntmps137
    go_wp2_with (first
      | (go_at_call 62; refine (len64_at d L hd HL.out _).mono ?_; rintro e w' ⟨rfl, rfl⟩)
      | (go_at_call 91; refine (log2_any _ (by omega) (by omega) _).mono ?_; rintro e w' ⟨rfl, rfl⟩; rw [HLP.out]))
    refine PRE.mono ?_
    rintro e w1 ⟨rfl, hw1⟩
    subst hw1
    go_wp2_with fail
    refine US.mono ?_
    rintro e w2 ⟨rfl, nd, hw2⟩
    have b2 : Below w.heap.size w w2 := by rw [← hw2]; exact below_drewN HW.out nd
    clear hw2 US PRE
    go_wp2_with (first
      | (go_at_call 97; refine (unmin_at _).mono ?_; rintro e w' ⟨rfl, rfl⟩)
      | (go_at_call 83; refine (bool2i_0 _ (by first | rfl | assumption) _).mono ?_; rintro e w' ⟨rfl, rfl⟩)
      | (go_at_call 96; refine (round_any _ (by omega) _).mono ?_; rintro e w' ⟨rfl, rfl⟩; rw [HR.out]))
    refine (PK _).mono ?_
    rintro e w' ⟨rfl, rfl⟩
    go_wp2_with fail
    go_ret2
    exact ⟨rfl, b2⟩
end Go.Proofs.YtkaeaiagmihmgaaGreatDoor

namespace Go.Proofs.YtkaeaiagmihmgaaGreatDoor
open Go.RowKit Go.Sort

/-- The inner package's errors: 1 out of range, 2 no such text. -/
def errI (n : Int) : Value := .iface 98 (.int .i64 n)
/-- A float, and no error or ErrRange. -/
def IsFE (x : Ending) : Prop := ∃ (f : Nat) (e : Value), f < 18446744073709551616 ∧ x = .returned (.tuple #[.float .f64 f, e]) ∧ (e = .nilIface ∨ e = errI 1)

set_option maxRecDepth 100000 in
set_option maxHeartbeats 800000 in
theorem pack64_any (w : World) (z : Nat) (hz : z < 18446744073709551616) (e : Int) (h1 : -1074 ≤ e) (h2 : e ≤ 100000) :
    Calls Tryz.prog 143 #[.int .u64 z, .int .i64 e] w fun x w' => IsFE x ∧ w = w' := by
  have f1 := frombits'
  have lt64 : ∀ a b : Nat, a < 18446744073709551616 → b < 18446744073709551616 → (a &&& b < 18446744073709551616) ∧ (a ||| b < 18446744073709551616) := fun a b ha hb =>
    ⟨Nat.and_lt_two_pow (n := 64) a hb, Nat.or_lt_two_pow (n := 64) ha hb⟩
  have c1 := u64_and_nat z 4503599627370496 hz (by decide)
  rw [show ((4503599627370496 : Nat) : Int) = 4503599627370496 from rfl] at c1
  obtain ⟨y, hy⟩ : ∃ y, z &&& 4503599627370496 = y := ⟨_, rfl⟩
  rw [hy] at c1
  by_cases hy0 : y = 0
  · subst hy0
    rw [show ((0 : Nat) : Int) = 0 from rfl] at c1
    clear hy
    go_enter Tryz.func143, Tryz.ntmps143
    go_wp2_with fail
    go_ret2
    exact ⟨⟨_, _, hz, rfl, .inl rfl⟩, rfl⟩
  have hy1 : ((y : Int) == 0) = false := by simp; omega
  clear hy hy0
  by_cases he : 972 ≤ e
  · have he' : decide (972 ≤ e) = true := by simpa using he
    have c2 := u64_and_nat z 9223372036854775808 hz (by decide)
    rw [show ((9223372036854775808 : Nat) : Int) = 9223372036854775808 from rfl] at c2
    obtain ⟨s, hs⟩ : ∃ s, z &&& 9223372036854775808 = s := ⟨_, rfl⟩
    have hs2 : s < 18446744073709551616 := by rw [← hs]; exact (lt64 z _ hz (by decide)).1
    rw [hs] at c2
    have c3 := u64_or_nat s 9218868437227405312 hs2 (by decide)
    rw [show ((9218868437227405312 : Nat) : Int) = 9218868437227405312 from rfl] at c3
    have hq := (lt64 s 9218868437227405312 hs2 (by decide)).2
    generalize s ||| 9218868437227405312 = q at c3 hq
    clear hs hs2 lt64
    go_enter Tryz.func143, Tryz.ntmps143
    go_wp2_with fail
    go_ret2
    exact ⟨⟨_, _, hq, rfl, .inr rfl⟩, rfl⟩
  · have he' : decide (972 ≤ e) = false := by simpa using he
    have c2 := u64_andNot_nat z 4503599627370496 hz (by decide)
    rw [show ((4503599627370496 : Nat) : Int) = 4503599627370496 from rfl] at c2
    obtain ⟨s, hs⟩ : ∃ s, z &&& (18446744073709551615 - 4503599627370496) = s := ⟨_, rfl⟩
    have hs2 : s < 18446744073709551616 := by rw [← hs]; exact (lt64 z _ hz (by decide)).1
    rw [hs] at c2
    obtain ⟨x, hx⟩ : ∃ x : Nat, 1075 + e = (x : Int) := ⟨(1075 + e).toNat, by omega⟩
    have hsh : IntKind.u64.wrap ((x : Int) * 4503599627370496) = ((x * 4503599627370496 : Nat) : Int) := by rw [IntKind.wrap_u64]; omega
    have hxw : IntKind.u64.wrap (x : Int) = (x : Int) := by rw [IntKind.wrap_u64]; omega
    obtain ⟨X, hX⟩ : ∃ X, x * 4503599627370496 = X := ⟨_, rfl⟩
    have hX2 : X < 18446744073709551616 := by omega
    rw [hX] at hsh
    have c3 := u64_or_nat s X hs2 hX2
    have hq := (lt64 s X hs2 hX2).2
    generalize s ||| X = q at c3 hq
    clear hs hs2 lt64 hX hX2
    go_enter Tryz.func143, Tryz.ntmps143
    go_wp2_with fail
    go_ret2
    exact ⟨⟨_, _, hq, rfl, .inl rfl⟩, rfl⟩

set_option maxRecDepth 100000 in
set_option maxHeartbeats 1600000 in
theorem parse64_low (w : World) (hP : PowTab w) (neg : Bool) (d : Nat) (p : Int) (L : Nat) (hd0 : 0 < d) (hd : d < 18446744073709551616) (hL : Lib.bitLen d = L) (hp1 : -348 ≤ p) (hp2 : p ≤ 347) (hs : paS L p < 64) :
    Calls Tryz.prog 137 #[.int .u64 d, .int .i64 p, .int .u64 (sgn neg : Nat)] w fun x w' => IsFE x ∧ Below w.heap.size w w' := by
  obtain ⟨l1, l2, l3, l4⟩ := norm_any hd0 hd hL
  have hs8 := paS_ge (b := L) p
  have hrow := row_facts hp1 hp2
  obtain ⟨i, hi⟩ : ∃ i : Nat, p = (i : Int) - 348 := ⟨(p + 348).toNat, by omega⟩
  have hi6 : i < 696 := by omega
  obtain ⟨lp, hlp⟩ : ∃ lp, lg p = lp := ⟨_, rfl⟩
  have hlpb : -2000 ≤ lp ∧ lp ≤ 2000 := by rw [← hlp]; unfold lg; omega
  obtain ⟨E, hE⟩ : ∃ E, paE L p = E := ⟨_, rfl⟩
  have hEm : min (1074 : Int) (53 - (L : Int) - lp) = E := by rw [← hE, ← hlp]; rfl
  obtain ⟨t, ht⟩ : ∃ t : Nat, paS L p = (t : Int) := ⟨(paS L p).toNat, by omega⟩
  have hte : -(E - (64 - (L : Int)) + lp + 3) = (t : Int) := by rw [← ht, ← hE, ← hlp]; rfl
  have hEb : -3000 ≤ E ∧ E ≤ 1074 := by omega
  have PRE := prescale_any w hP i hi6 (E - (64 - (L : Int))) lp (by omega) (by omega)
  rw [hte] at PRE
  have hU0 : paU d L p = usc (d * 2 ^ (64 - L)) (Pinned.pow10Rows.getD i (0, 0)).1 (Pinned.pow10Rows.getD i (0, 0)).2 t := by
    unfold paU uscP tenRow
    rw [show (p + 348).toNat = i by omega, show (paS L p).toNat = t by omega]
  have hrow' : (tenRow p) = Pinned.pow10Rows.getD i (0, 0) := by unfold tenRow; rw [show (p + 348).toNat = i by omega]
  rw [hrow'] at hrow
  obtain ⟨hr1, hr2, hr3, -⟩ := hrow
  generalize (Pinned.pow10Rows.getD i (0, 0)).1 = ph at *
  generalize (Pinned.pow10Rows.getD i (0, 0)).2 = pl at *
  obtain ⟨X, hX⟩ : ∃ X, d * 2 ^ (64 - L) = X := ⟨_, rfl⟩
  rw [hX] at hU0 l3 l4
  have hwr : IntKind.u64.wrap ((d : Int) * 2 ^ (64 - L)) = (X : Int) := by
    have e : (d : Int) * 2 ^ (64 - L) = (X : Int) := by rw [← hX, Int.natCast_mul, Int.natCast_pow]; rfl
    rw [e, IntKind.wrap_u64]
    omega
  have hc : ∀ (k : Nat) (v : Value), (#[Value.int .u64 ph, .int .u64 pl, .int .i64 t] : Array Value)[k]? = some v → (w.alloc (.cells #[.int .u64 ph, .int .u64 pl, .int .i64 t] 116)).cell? ⟨w.heap.size, k, none⟩ = some v := fun k v hk => by
    rw [← hk]; exact (At.fresh w _ _).cell k
  have hc2 : (w.alloc (.cells #[.int .u64 ph, .int .u64 pl, .int .i64 t] 116)).cell? ⟨w.heap.size, 2, none⟩ = some (.int .i64 t) := hc 2 _ rfl
  have US := uscale_any (w.alloc (.cells #[.int .u64 ph, .int .u64 pl, .int .i64 t] 116)) w.heap.size X ph pl t (hc 0 _ rfl) (hc 1 _ rfl) hc2 l4 hr1 hr3 (by omega) (h_pos (by omega) hr2)
  have UL := usc_lt (lo := pl) l4 hr1 (show 2 ≤ t by omega)
  obtain ⟨u, hu⟩ : ∃ u, paU d L p = u := ⟨_, rfl⟩
  rw [← hU0, hu] at US UL
  have hW : Below w.heap.size w (w.alloc (.cells #[.int .u64 ph, .int .u64 pl, .int .i64 t] 116)) := (Below.refl _ _).alloc (Nat.le_refl _) _
  have HW := Lib.hid hW
  have hLn : L ≤ 64 := l2
  have ht64 : ¬ (64 : Int) ≤ (t : Int) := by omega
  obtain ⟨M, hMe⟩ : ∃ M, paM d L p = M := ⟨_, rfl⟩
  obtain ⟨x, hxe⟩ : ∃ x, paX d L p = x := ⟨_, rfl⟩
  have hMd : M = if 36028797018963966 ≤ u then rnd (half u) else rnd u := by rw [← hMe, ← hu]; rfl
  have hxd : x = if 36028797018963966 ≤ u then -(E - 1) else -E := by rw [← hxe, ← hu, ← hE]; rfl
  have hM : M < 9223372036854775808 := by
    rw [hMd]
    unfold rnd half od
    split
    · split <;> omega
    · omega
  have he1 : -1074 ≤ x := by rw [hxd]; split <;> omega
  have he2 : x ≤ 100000 := by rw [hxd]; split <;> omega
  have HL := Lib.hid hL
  have hsM : sgn neg + M < 18446744073709551616 := by cases neg <;> simp [sgn] <;> omega
  have PK := fun w0 => pack64_any w0 (sgn neg + M) hsM x he1 he2
  have OS := or_sign (neg := neg) (M := M) (by omega)
  obtain ⟨z, hz⟩ : ∃ z, sgn neg + M = z := ⟨_, rfl⟩
  rw [hz] at OS
  simp only [hz] at PK
  generalize sgn neg = sg at *
  have HLP := Lib.hid hlp
  clear hsM hz hX hU0 hu hMe hxe hE ht hlp hW hc hrow' hL hs hs8 hM
  subst hi
  by_cases hcu : 36028797018963966 ≤ u
  · rw [if_pos hcu] at hMd hxd
    have hcu' : decide ((36028797018963966 : Int) ≤ (u : Int)) = true := by simp; omega
    have hh := half_bits (u := u) (by omega)
    have hhl : half u < 9223372036854775808 := by unfold half od; split <;> omega
    obtain ⟨v, hv⟩ : ∃ v, half u = v := ⟨_, rfl⟩
    rw [hv] at hh hMd hhl
    have hr : rnd v = M := hMd.symm
    have HR := Lib.hid hr
    have hxe : -(E - 1) = x := hxd.symm
    clear hv hMd hxd hr
    go_enter Tryz.func137, Tryz.ntmps137
    go_wp2_with (first
      | (go_at_call 62; refine (len64_at d L hd HL.out _).mono ?_; rintro e w' ⟨rfl, rfl⟩)
      | (go_at_call 91; refine (log2_any _ (by omega) (by omega) _).mono ?_; rintro e w' ⟨rfl, rfl⟩; rw [HLP.out]))
    refine PRE.mono ?_
    rintro e w1 ⟨rfl, hw1⟩
    subst hw1
    go_wp2_with fail
    refine US.mono ?_
    rintro e w2 ⟨rfl, nd, hw2⟩
    have b2 : Below w.heap.size w w2 := by rw [← hw2]; exact below_drewN HW.out nd
    clear hw2 US PRE
    go_wp2_with (first
      | (go_at_call 97; refine (unmin_at _).mono ?_; rintro e w' ⟨rfl, rfl⟩)
      | (go_at_call 83; refine (bool2i_1 _ (by first | rfl | assumption) _).mono ?_; rintro e w' ⟨rfl, rfl⟩)
      | (go_at_call 96; refine (round_any _ (by omega) _).mono ?_; rintro e w' ⟨rfl, rfl⟩; rw [HR.out]))
    refine (PK _).mono ?_
    rintro e w' ⟨⟨f, e', hfl, rfl, he'⟩, rfl⟩
    go_wp2_with fail
    go_ret2
    exact ⟨⟨f, e', hfl, rfl, he'⟩, b2⟩
  · rw [if_neg hcu] at hMd hxd
    have hcu' : decide ((36028797018963966 : Int) ≤ (u : Int)) = false := by simp; omega
    have hh : bits .or .u64 (u : Int) (bits .and .u64 (u : Int) 1) = (u : Int) := by
      rw [and1_u64 u (by omega), u64_or_nat u (u % 2) (by omega) (by omega)]
      refine congrArg (fun n : Nat => (n : Int)) ?_
      apply Nat.eq_of_testBit_eq
      intro i
      rw [Nat.testBit_or]
      cases i with
      | zero => simp [Nat.testBit_zero]
      | succ i =>
        have : Nat.testBit (u % 2) (i + 1) = false := by rw [Nat.testBit_succ, show u % 2 / 2 = 0 by omega, Nat.zero_testBit]
        rw [this, Bool.or_false]
    have hr : rnd u = M := hMd.symm
    have HR := Lib.hid hr
    have hxe : -E = x := hxd.symm
    clear hMd hxd hr
    go_enter Tryz.func137, Tryz.ntmps137
    go_wp2_with (first
      | (go_at_call 62; refine (len64_at d L hd HL.out _).mono ?_; rintro e w' ⟨rfl, rfl⟩)
      | (go_at_call 91; refine (log2_any _ (by omega) (by omega) _).mono ?_; rintro e w' ⟨rfl, rfl⟩; rw [HLP.out]))
    refine PRE.mono ?_
    rintro e w1 ⟨rfl, hw1⟩
    subst hw1
    go_wp2_with fail
    refine US.mono ?_
    rintro e w2 ⟨rfl, nd, hw2⟩
    have b2 : Below w.heap.size w w2 := by rw [← hw2]; exact below_drewN HW.out nd
    clear hw2 US PRE
    go_wp2_with (first
      | (go_at_call 97; refine (unmin_at _).mono ?_; rintro e w' ⟨rfl, rfl⟩)
      | (go_at_call 83; refine (bool2i_0 _ (by first | rfl | assumption) _).mono ?_; rintro e w' ⟨rfl, rfl⟩)
      | (go_at_call 96; refine (round_any _ (by omega) _).mono ?_; rintro e w' ⟨rfl, rfl⟩; rw [HR.out]))
    refine (PK _).mono ?_
    rintro e w' ⟨⟨f, e', hfl, rfl, he'⟩, rfl⟩
    go_wp2_with fail
    go_ret2
    exact ⟨⟨f, e', hfl, rfl, he'⟩, b2⟩

set_option maxRecDepth 100000 in
set_option maxHeartbeats 1600000 in
theorem parse64_far (w : World) (hP : PowTab w) (neg : Bool) (d : Nat) (p : Int) (L : Nat) (hd0 : 0 < d) (hd : d < 18446744073709551616) (hL : Lib.bitLen d = L) (hp1 : -348 ≤ p) (hp2 : p ≤ 347) (hs : ¬ paS L p < 64) :
    Calls Tryz.prog 137 #[.int .u64 d, .int .i64 p, .int .u64 (sgn neg : Nat)] w fun x w' => IsFE x ∧ Below w.heap.size w w' := by
  obtain ⟨l1, l2, l3, l4⟩ := norm_any hd0 hd hL
  obtain ⟨i, hi⟩ : ∃ i : Nat, p = (i : Int) - 348 := ⟨(p + 348).toNat, by omega⟩
  have hi6 : i < 696 := by omega
  obtain ⟨lp, hlp⟩ : ∃ lp, lg p = lp := ⟨_, rfl⟩
  have hlpb : -2000 ≤ lp ∧ lp ≤ 2000 := by rw [← hlp]; unfold lg; omega
  obtain ⟨E, hE⟩ : ∃ E, paE L p = E := ⟨_, rfl⟩
  have hEm : min (1074 : Int) (53 - (L : Int) - lp) = E := by rw [← hE, ← hlp]; rfl
  obtain ⟨t, ht⟩ : ∃ t : Int, paS L p = t := ⟨_, rfl⟩
  have hte : -(E - (64 - (L : Int)) + lp + 3) = t := by rw [← ht, ← hE, ← hlp]; rfl
  have hEb : -3000 ≤ E ∧ E ≤ 1074 := by omega
  have PRE := prescale_any w hP i hi6 (E - (64 - (L : Int))) lp (by omega) (by omega)
  rw [hte] at PRE
  rw [ht] at hs
  have hs' : decide (64 ≤ t) = true := by simp; omega
  generalize (Pinned.pow10Rows.getD i (0, 0)).1 = ph at *
  generalize (Pinned.pow10Rows.getD i (0, 0)).2 = pl at *
  have hc2 : (w.alloc (.cells #[.int .u64 ph, .int .u64 pl, .int .i64 t] 116)).cell? ⟨w.heap.size, 2, none⟩ = some (.int .i64 t) := (At.fresh w _ _).cell 2
  have hW : Below w.heap.size w (w.alloc (.cells #[.int .u64 ph, .int .u64 pl, .int .i64 t] 116)) := (Below.refl _ _).alloc (Nat.le_refl _) _
  have HW := Lib.hid hW
  have HL := Lib.hid hL
  have HLP := Lib.hid hlp
  have OS := or_sign (neg := neg) (M := 0) (by omega)
  rw [Nat.add_zero, show ((0 : Nat) : Int) = 0 from rfl] at OS
  have f1 := frombits'
  have hsl : sgn neg < 18446744073709551616 := by cases neg <;> simp [sgn]
  generalize sgn neg = sg at *
  clear hE ht hlp hW hL l3 l4
  subst hi
  go_enter Tryz.func137, Tryz.ntmps137
  go_wp2_with (first
    | (go_at_call 62; refine (len64_at d L hd HL.out _).mono ?_; rintro e w' ⟨rfl, rfl⟩)
    | (go_at_call 91; refine (log2_any _ (by omega) (by omega) _).mono ?_; rintro e w' ⟨rfl, rfl⟩; rw [HLP.out]))
  refine PRE.mono ?_
  rintro e w1 ⟨rfl, hw1⟩
  subst hw1
  go_wp2_with fail
  go_ret2
  exact ⟨⟨_, _, hsl, rfl, .inl rfl⟩, HW.out⟩

theorem parse64_any (w : World) (hP : PowTab w) (neg : Bool) (d : Nat) (p : Int) (hd0 : 0 < d) (hd : d < 18446744073709551616) (hp1 : -348 ≤ p) (hp2 : p ≤ 347) :
    Calls Tryz.prog 137 #[.int .u64 d, .int .i64 p, .int .u64 (sgn neg : Nat)] w fun x w' => IsFE x ∧ Below w.heap.size w w' := by
  by_cases hs : paS (Lib.bitLen d) p < 64
  · exact parse64_low w hP neg d p _ hd0 hd rfl hp1 hp2 hs
  · exact parse64_far w hP neg d p _ hd0 hd rfl hp1 hp2 hs
end Go.Proofs.YtkaeaiagmihmgaaGreatDoor
