/- The slow decimal road: rightShift, walked. -/
/- The slow decimal road: prefixIsLessThan, walked. -/
import Derived.Test.YtkaeaiagmihmgaaGreatDoorQDcM
import Derived.Deep.CutBlock
import Derived.Deep.DeepCutAuto
namespace Go.Proofs.YtkaeaiagmihmgaaGreatDoor
open Go.RowKit

theorem Digs.part {f : Nat → Nat} {n r : Nat} (h : Digs f n) (h1 : 1 ≤ r) (hr : r ≤ n) : Digs f r := ⟨h1, Nat.le_trans hr h.le, fun i hi => h.dig i (by omega), h.first⟩
theorem pow_le60 {k : Nat} (hk : k ≤ 60) : 2 ^ k ≤ 1152921504606846976 := Nat.pow_le_pow_right (by omega) hk
theorem pow_two {k : Nat} (hk : 1 ≤ k) : 2 ≤ 2 ^ k := by have := Nat.pow_le_pow_right (show 0 < 2 by omega) hk; simpa using this
/-- Ten to the power of what is not small is great. -/
theorem ten_small {r n : Nat} (h : 10 ^ (r - 1) ≤ n) (hn : n < 100000000000000000000) : r ≤ 20 := by
  rcases Nat.lt_or_ge 20 r with h1 | h1
  · have := Nat.pow_le_pow_right (show 0 < 10 by omega) (show 20 ≤ r - 1 by omega)
    omega
  · exact h1
theorem shr_zero {n k : Nat} (h : n < 2 ^ k) : ((n : Int) / 2 ^ k == 0) = true := by
  rw [shr_nat, Nat.div_eq_of_lt h]; rfl
theorem shr_some {n k : Nat} (h : 2 ^ k ≤ n) : ((n : Int) / 2 ^ k == 0) = false := by
  rw [shr_nat]
  have := Nat.div_pos h (Nat.pow_pos (by omega))
  refine beq_eq_false_iff_ne.2 (by omega)

theorem and_mask {n k : Nat} (hn : n < 18446744073709551616) (hk : k ≤ 60) {M : Nat} (hM : M = 2 ^ k - 1) : bits .and .u64 (n : Int) (M : Int) = ((n % 2 ^ k : Nat) : Int) := by
  have h6 := pow_le60 hk
  rw [u64_and n M (by omega) (by omega) (by omega) (by omega), hM]
  simp only [Int.toNat_natCast]
  rw [Nat.and_two_pow_sub_one_eq_mod]

/-- The first loop's state. -/
def R1 (F : Nat → Nat) (k r n : Nat) : Prop := n = dval (digOf F) r ∧ n < 10 * 2 ^ k
theorem R1.out {F : Nat → Nat} {nd k r n : Nat} (hN : Num F nd) (hk1 : 1 ≤ k) (hk : k ≤ 60) (hr : r ≤ nd) (h : R1 F k r n) (hK : 2 ^ k ≤ n) : 1 ≤ r ∧ r ≤ 20 ∧ (r = 1 → n = F 0 - 48) := by
  obtain ⟨e, hlt⟩ := h
  have h2 := pow_two hk1
  have h6 := pow_le60 hk
  have h1 : 1 ≤ r := by
    rcases Nat.eq_zero_or_pos r with h0 | h0
    · subst h0; simp [dval] at e; omega
    · exact h0
  have h3 := dval_ge (hN.digs.part h1 hr)
  rw [← e] at h3
  refine ⟨h1, ten_small h3 (by omega), fun h => ?_⟩
  subst h
  rw [e, dval_one]; rfl
theorem R1.step {F : Nat → Nat} {nd k r n : Nat} (hN : Num F nd) (hr : r < nd) (h : R1 F k r n) (hK : n < 2 ^ k) : R1 F k (r + 1) (n * 10 + F r - 48) := by
  obtain ⟨e, _⟩ := h
  have := hN.dig r hr
  refine ⟨?_, by omega⟩
  rw [dval, ← e]
  unfold digOf
  omega
theorem R1.pos {F : Nat → Nat} {nd k r n : Nat} (hN : Num F nd) (hr : r = nd) (h : R1 F k r n) : 10 ^ (r - 1) ≤ n := by
  obtain ⟨e, _⟩ := h
  have h3 := dval_ge (hN.digs.part (r := r) (by have := hN.pos; omega) (by omega))
  rw [← e] at h3
  exact h3
/-- The state once the digits are used up. -/
def R2 (k r n : Nat) : Prop := n < 10 * 2 ^ k ∧ 10 ^ (r - 1) ≤ n ∧ 1 ≤ r ∧ (r = 1 → n < 2 ^ k)
theorem R2.step {k r n : Nat} (h : R2 k r n) (hK : n < 2 ^ k) : R2 k (r + 1) (n * 10) := by
  obtain ⟨_, h2, h3, _⟩ := h
  refine ⟨by omega, ?_, by omega, fun e => by omega⟩
  rw [show r + 1 - 1 = (r - 1) + 1 by omega, Nat.pow_succ]
  omega
theorem R2.out {k r n : Nat} (hk : k ≤ 60) (h : R2 k r n) (hK : 2 ^ k ≤ n) (x : Nat) : 1 ≤ r ∧ r ≤ 20 ∧ (r = 1 → n = x) := by
  obtain ⟨h1, h2, h3, h4⟩ := h
  have h6 := pow_le60 hk
  exact ⟨h3, ten_small h2 (by omega), fun e => by have := h4 e; omega⟩
theorem R2.npos {k r n : Nat} (h : R2 k r n) : 1 ≤ n := Nat.le_trans (Nat.pow_pos (by omega)) h.2.1

/-- The third loop's state: i digits put down. -/
structure R3 (K n0 nd i n : Nat) (F : Nat → Nat) : Prop where
  lt : n < 10 * K
  dig : ∀ j, j < nd → 48 ≤ F j ∧ F j ≤ 57
  none : i = 0 → n = n0
  first : 1 ≤ i → F 0 = 48 + n0 / K
theorem R3.start {F : Nat → Nat} {nd K n0 : Nat} (hN : Num F nd) (h : n0 < 10 * K) : R3 K n0 nd 0 n0 F := ⟨h, hN.dig, fun _ => rfl, fun h => by omega⟩
theorem R3.step {F : Nat → Nat} {nd K n0 i n c : Nat} (hK : 0 < K) (h : R3 K n0 nd i n F) (hc : 48 ≤ c ∧ c ≤ 57) (hi : i < nd) : R3 K n0 nd (i + 1) (n % K * 10 + c - 48) (upd F i (n / K + 48)) := by
  have h1 := right_dig hK h.lt
  have h2 := Nat.mod_lt n hK
  refine ⟨by omega, fun j hj => ?_, fun e => by omega, fun _ => ?_⟩
  · by_cases hji : j = i
    · subst hji
      rw [upd_same]
      generalize n / K = d at h1 ⊢
      omega
    · rw [upd_other F _ hji]; exact h.dig j hj
  · by_cases h0 : i = 0
    · subst h0; rw [upd_same, h.none rfl]; omega
    · rw [upd_other F _ (fun e => h0 e.symm)]; exact h.first (by omega)

/-- The last loop's state: at most t rounds to come. -/
structure R4 (k K n0 t i n : Nat) (F : Nat → Nat) : Prop where
  lt : n < 10 * K
  dig : ∀ j, j < i → 48 ≤ F j ∧ F j ≤ 57
  none : i = 0 → n = n0
  first : 1 ≤ i → F 0 = 48 + n0 / K
  two : n = 0 ∨ (1 ≤ t ∧ t ≤ k + 1 ∧ 2 ^ (k + 1 - t) ∣ n)
theorem R4.start {F : Nat → Nat} {nd k K n0 i n : Nat} (h : R3 K n0 nd i n F) (hi : i ≤ nd) : R4 k K n0 (k + 1) i n F :=
  ⟨h.lt, fun j hj => h.dig j (by omega), h.none, h.first, .inr ⟨by omega, by omega, by simp⟩⟩
theorem R4.tpos {F : Nat → Nat} {k K n0 t i n : Nat} (h : R4 k K n0 t i n F) (hn : 0 < n) : 1 ≤ t := by rcases h.two with e | e; omega; exact e.1
theorem R4.next {F : Nat → Nat} {k K n0 t i n : Nat} (hK : 2 ^ k = K) (h : R4 k K n0 t i n F) (hn : 0 < n) : n % K * 10 = 0 ∨ (1 ≤ t - 1 ∧ t - 1 ≤ k + 1 ∧ 2 ^ (k + 1 - (t - 1)) ∣ n % K * 10) := by
  rcases h.two with e | ⟨h1, h2, h3⟩
  · omega
  · by_cases ht : t = 1
    · subst ht
      rw [Nat.add_sub_cancel, hK] at h3
      rw [Nat.mod_eq_zero_of_dvd h3]
      exact .inl rfl
    · have := right_two (k := k) (j := k + 1 - t) (by omega) h3
      rw [hK, show k + 1 - t + 1 = k + 1 - (t - 1) by omega] at this
      exact .inr ⟨by omega, by omega, this⟩
theorem R4.step {F : Nat → Nat} {k K n0 t i n : Nat} (hK : 2 ^ k = K) (h0 : 0 < K) (h : R4 k K n0 t i n F) (hn : 0 < n) : R4 k K n0 (t - 1) (i + 1) (n % K * 10) (upd F i (n / K + 48)) := by
  have h1 := right_dig h0 h.lt
  have h2 := Nat.mod_lt n h0
  refine ⟨by omega, fun j hj => ?_, fun e => by omega, fun _ => ?_, h.next hK hn⟩
  · by_cases hji : j = i
    · subst hji
      rw [upd_same]
      generalize n / K = d at h1 ⊢
      omega
    · rw [upd_other F _ hji]; exact h.dig j (by omega)
  · by_cases hi : i = 0
    · subst hi; rw [upd_same, h.none rfl]; omega
    · rw [upd_other F _ (fun e => hi e.symm)]; exact h.first (by omega)
theorem R4.stay {F : Nat → Nat} {k K n0 t i n : Nat} (hK : 2 ^ k = K) (h0 : 0 < K) (h : R4 k K n0 t i n F) (hn : 0 < n) (hi : 1 ≤ i) : R4 k K n0 (t - 1) i (n % K * 10) F := by
  have h2 := Nat.mod_lt n h0
  exact ⟨by omega, h.dig, fun e => by omega, h.first, h.next hK hn⟩

set_option maxRecDepth 100000 in
set_option maxHeartbeats 1600000 in
theorem rightShift_any (w : World) (g : Nat) (F : Nat → Nat) (nd : Nat) (dp : Int) (neg trunc : Bool) (hDec : Dec w g F nd dp neg trunc) (hN : Num F nd) (k : Nat) (hk1 : 1 ≤ k) (hk : k ≤ 60) (hdp : -100000000 ≤ dp ∧ dp ≤ 100000000) :
    Calls Tryz.prog 101 #[.pointer (some ⟨g, 0, none⟩), .int .u64 k] w fun e w' => e = .returned (.tuple #[]) ∧ ∃ (F' : Nat → Nat) (n r : Nat) (tr : Bool),
      Dec w' g F' n (dp - r) neg tr ∧ Num F' n ∧ r ≤ 20 ∧ (r = 0 → 2 ^ k ≤ F 0 - 48 ∧ F' 0 - 48 = (F 0 - 48) / 2 ^ k) ∧ w.grownBy w' (some g) := by
  have h6 := pow_le60 hk
  have c0 := hDec.cN
  have hle := hN.le
  have hpos := hN.pos
  go_enter Tryz.func101, Tryz.ntmps101
  go_upto_block 0 with fail
  go_cut [4, 6] (fun rv nv wx => ∃ (r n : Nat), rv = .int .i64 r ∧ nv = .int .u64 n ∧ Hid (1 ≤ r ∧ r ≤ 20 ∧ (r = 1 → n = F 0 - 48)) ∧ Hid (2 ^ k ≤ n ∧ n < 10 * 2 ^ k) ∧ wx = w)
  case first =>
    go_wp2_with fail
    go_loopw [4, 6] (fun rv nv wr => ∃ (r n : Nat), rv = .int .i64 r ∧ nv = .int .u64 n ∧ r ≤ nd ∧ Hid (R1 F k r n) ∧ wr = w) (fun rv _ _ => nd - (intOf rv).toNat)
    case atStart => exact ⟨0, 0, rfl, rfl, by omega, Lib.hid ⟨rfl, by have := Nat.pow_pos (n := k) (show 0 < 2 by omega); omega⟩, rfl⟩
    case round =>
      obtain ⟨r, n, rfl, rfl, hr, hI, rfl⟩ := hrel
      rcases Nat.lt_or_ge n (2 ^ k) with hlt | hge
      · have q0 := shr_zero hlt
        by_cases hrn : r < nd
        · have q1 : decide ((nd : Int) ≤ (r : Int)) = false := by simp; omega
          have hcr : wr.cell? ⟨g, r, none⟩ = _ := hDec.cell (i := r) (by omega)
          have hst := hI.out.step hN hrn hlt
          have hF := hN.dig r hrn
          obtain ⟨c, hc⟩ : ∃ c, F r = c := ⟨_, rfl⟩
          rw [hc] at hcr hst hF
          obtain ⟨m1, e1⟩ : ∃ m, n * 10 = m := ⟨_, rfl⟩
          obtain ⟨m2, e2⟩ : ∃ m, m1 + c = m := ⟨_, rfl⟩
          obtain ⟨m3, e3⟩ : ∃ m, m2 - 48 = m := ⟨_, rfl⟩
          have w0 : IntKind.u64.wrap (c : Int) = (c : Int) := by rw [IntKind.wrap_u64]; omega
          have w1 : IntKind.u64.wrap ((n : Int) * 10) = (m1 : Int) := by rw [IntKind.wrap_u64]; omega
          have w2 : IntKind.u64.wrap ((m1 : Int) + (c : Int)) = (m2 : Int) := by rw [IntKind.wrap_u64]; omega
          have w3 : IntKind.u64.wrap ((m2 : Int) - 48) = (m3 : Int) := by rw [IntKind.wrap_u64]; omega
          have wr1 : IntKind.i64.wrap ((r : Int) + 1) = ((r + 1 : Nat) : Int) := by rw [IntKind.wrap_i64]; omega
          rw [e1, e2, e3] at hst
          have HST := Lib.hid hst
          have hr8 : (r : Int) < 800 := by omega
          clear e1 e2 e3 hst hc
          go_wp2_with fail
          exact ⟨⟨r + 1, m3, by go_num, rfl, by omega, HST, trivial⟩, by simp [intOf]; omega⟩
        · obtain rfl : nd = r := by omega
          have q1 : decide ((nd : Int) ≤ (nd : Int)) = true := by simp
          have hp := hI.out.pos hN rfl
          have hs : R2 k nd n := ⟨hI.out.2, hp, hpos, fun _ => hlt⟩
          have HS := Lib.hid hs
          have hn1 := hs.npos
          have q2 : ((n : Int) == 0) = false := beq_eq_false_iff_ne.2 (by omega)
          clear hp hs
          go_wp2_with fail
          go_loopw [4, 6] (fun rv nv wx => ∃ (r n : Nat), rv = .int .i64 r ∧ nv = .int .u64 n ∧ Hid (R2 k r n) ∧ wx = wr) (fun _ nv _ => 10 * 2 ^ k - (intOf nv).toNat)
          case atStart => exact ⟨nd, n, rfl, rfl, HS, rfl⟩
          case round =>
            obtain ⟨r2, n2, rfl, rfl, hS, rfl⟩ := hrel
            have hn2 := hS.out.npos
            rcases Nat.lt_or_ge n2 (2 ^ k) with hlt2 | hge2
            · have q3 := shr_zero hlt2
              have hst := hS.out.step hlt2
              have hr2 : r2 ≤ 20 := ten_small hS.out.2.1 (by omega)
              obtain ⟨m1, e1⟩ : ∃ m, n2 * 10 = m := ⟨_, rfl⟩
              have w1 : IntKind.u64.wrap ((n2 : Int) * 10) = (m1 : Int) := by rw [IntKind.wrap_u64]; omega
              have wr1 : IntKind.i64.wrap ((r2 : Int) + 1) = ((r2 + 1 : Nat) : Int) := by rw [IntKind.wrap_i64]; omega
              rw [e1] at hst
              have HST := Lib.hid hst
              have HE := Lib.hid e1
              clear hst e1
              go_wp2_with fail
              exact ⟨⟨r2 + 1, m1, by go_num, rfl, HST, trivial⟩, by have := HE.out; simp [intOf]; omega⟩
            · have q3 := shr_some hge2
              have HO := Lib.hid (hS.out.out hk hge2 (F 0 - 48))
              have HP := Lib.hid (show 2 ^ k ≤ n2 ∧ n2 < 10 * 2 ^ k from ⟨hge2, hS.out.1⟩)
              go_wp2_with fail
              go_meet
              case rel => exact ⟨r2, n2, rfl, rfl, HO, HP, rfl⟩
      · have q0 := shr_some hge
        have ho := hI.out.out hN hk1 hk hr hge
        have HO := Lib.hid ho
        have HP := Lib.hid (show 2 ^ k ≤ n ∧ n < 10 * 2 ^ k from ⟨hge, hI.out.2⟩)
        clear ho
        go_wp2_with fail
        go_meet
        case rel => exact ⟨r, n, rfl, rfl, HO, HP, rfl⟩
  case rest =>
    obtain ⟨r, n0, rfl, rfl, hR, hn, rfl⟩ := hcut
    obtain ⟨q, hq⟩ : ∃ q, r = q + 1 := ⟨r - 1, by have := hR.out.1; omega⟩
    have hq20 : q ≤ 19 := by have := hR.out.2.1; omega
    have w1 : IntKind.i64.wrap ((r : Int) - 1) = (q : Int) := by rw [IntKind.wrap_i64]; omega
    obtain ⟨d2, hd2⟩ : ∃ d : Int, dp - (q : Int) = d := ⟨_, rfl⟩
    have w2 : IntKind.i64.wrap (dp - (q : Int)) = d2 := by rw [IntKind.wrap_i64]; omega
    have c1 := hDec.cP
    have f1 := hDec.unfrozen 801
    have hD1 := hDec.putDp d2
    have hG1 := grown_put wc g 801 (.int .i64 d2)
    have HQ := Lib.hid hq
    have HD2 := Lib.hid hd2
    clear hq hd2
    obtain ⟨K, hK⟩ : ∃ K, 2 ^ k = K := ⟨_, rfl⟩
    obtain ⟨M, hM⟩ : ∃ M, K - 1 = M := ⟨_, rfl⟩
    have hK2 := pow_two hk1
    have wK : IntKind.u64.wrap ((2 : Int) ^ k) = (K : Int) := by
      have e : ((2 : Int) ^ k) = ((2 ^ k : Nat) : Int) := by rw [Int.natCast_pow]; rfl
      rw [e, IntKind.wrap_u64]; omega
    have wM : IntKind.u64.wrap ((K : Int) - 1) = (M : Int) := by rw [IntKind.wrap_u64]; omega
    go_upto_block 4 with fail
    generalize (wc.setCell ⟨g, 801, none⟩ (.int .i64 d2)) = w3 at *
    go_wp2_with fail
    go_loopw [4, 5, 6] (fun rv wv nv wr => ∃ (p i n : Nat) (F' : Nat → Nat), rv = .int .i64 (p : Int) ∧ wv = .int .i64 (i : Int) ∧ nv = .int .u64 (n : Int) ∧ i < p ∧ i ≤ nd ∧ Hid (R3 K n0 nd i n F') ∧ Dec wr g F' nd d2 neg trunc ∧ wc.grownBy wr (some g)) (fun rv _ _ _ => nd - (intOf rv).toNat)
    case atStart => exact ⟨r, 0, n0, F, rfl, rfl, rfl, by have := hR.out.1; omega, by omega, Lib.hid (R3.start hN (by rw [← hK]; exact hn.out.2)), hD1, hG1⟩
    case round =>
      obtain ⟨p, i, n, F', rfl, rfl, rfl, hip, hin, hS, hD, hG⟩ := hrel
      have c0 := hD.cN
      by_cases hlt : p < nd
      · have q1 : decide ((p : Int) < (nd : Int)) = true := by simp; omega
        have hcp : wr.cell? ⟨g, p, none⟩ = _ := hD.cell (i := p) (by omega)
        have hci : wr.cell? ⟨g, i, none⟩ = _ := hD.cell (i := i) (by omega)
        have hfi := hD.unfrozen i
        have hcd := hS.out.dig p hlt
        have hst := hS.out.step (by omega) hcd (show i < nd by omega)
        have hd9 := right_dig (show 0 < K by omega) hS.out.lt
        have hem := Nat.mod_lt n (show 0 < K by omega)
        have hnl := hS.out.lt
        have hsh := shr_nat n k
        have han := and_mask (n := n) (k := k) (M := M) (by omega) hk (by rw [hK]; omega)
        rw [hK] at hsh han
        obtain ⟨c, hc⟩ : ∃ c, F' p = c := ⟨_, rfl⟩
        obtain ⟨d, hd⟩ : ∃ d, n / K = d := ⟨_, rfl⟩
        obtain ⟨e, he⟩ : ∃ e, n % K = e := ⟨_, rfl⟩
        rw [hc] at hcp hst hcd
        rw [hd] at hst hd9 hsh
        rw [he] at hst hem han
        obtain ⟨d8, e0⟩ : ∃ m, d + 48 = m := ⟨_, rfl⟩
        obtain ⟨m1, e1⟩ : ∃ m, e * 10 = m := ⟨_, rfl⟩
        obtain ⟨m2, e2⟩ : ∃ m, m1 + c = m := ⟨_, rfl⟩
        obtain ⟨m3, e3⟩ : ∃ m, m2 - 48 = m := ⟨_, rfl⟩
        have x0 : IntKind.u64.wrap (c : Int) = (c : Int) := by rw [IntKind.wrap_u64]; omega
        have x1 : IntKind.u64.wrap ((d : Int) + 48) = (d8 : Int) := by rw [IntKind.wrap_u64]; omega
        have x2 : IntKind.u8.wrap (d8 : Int) = (d8 : Int) := by rw [IntKind.wrap_u8]; omega
        have x3 : IntKind.u64.wrap ((e : Int) * 10) = (m1 : Int) := by rw [IntKind.wrap_u64]; omega
        have x4 : IntKind.u64.wrap ((m1 : Int) + (c : Int)) = (m2 : Int) := by rw [IntKind.wrap_u64]; omega
        have x5 : IntKind.u64.wrap ((m2 : Int) - 48) = (m3 : Int) := by rw [IntKind.wrap_u64]; omega
        have y1 : IntKind.i64.wrap ((p : Int) + 1) = ((p + 1 : Nat) : Int) := by rw [IntKind.wrap_i64]; omega
        have y2 : IntKind.i64.wrap ((i : Int) + 1) = ((i + 1 : Nat) : Int) := by rw [IntKind.wrap_i64]; omega
        rw [e0, e1, e2, e3] at hst
        have HST := Lib.hid hst
        have hD2 := hD.putD (show i < 800 by omega) d8
        have hG2 := grownBy_tr hG (grown_put wr g i (.int .u8 (d8 : Int)))
        have hp8 : (p : Int) < 800 := by omega
        have hi8 : (i : Int) < 800 := by omega
        clear e0 e1 e2 e3 hst hc hd he hem hd9 hcd hnl
        go_wp2_with fail
        exact ⟨⟨p + 1, i + 1, m3, upd F' i d8, by go_num, by go_num, rfl, by omega, by omega, HST, hD2, hG2⟩, by simp [intOf]; omega⟩
      · have q1 : decide ((p : Int) < (nd : Int)) = false := by simp; omega
        have hlt' : ¬ (p : Int) < (nd : Int) := by omega
        go_wp2_with fail
        have HST := Lib.hid (R4.start (k := k) hS.out hin)
        clear hS c0 hlt' q1 hlt hip
        go_loopg [5, 6] (k + 1) (fun gk wv nv wr => ∃ (i n : Nat) (F' : Nat → Nat) (tr : Bool), wv = .int .i64 (i : Int) ∧ nv = .int .u64 (n : Int) ∧ i ≤ 800 ∧ Hid (R4 k K n0 gk i n F') ∧ Dec wr g F' nd d2 neg tr ∧ wc.grownBy wr (some g))
        case atStart => exact ⟨i, n, F', trunc, rfl, rfl, by omega, HST, hD, hG⟩
        case round =>
          clear HST hD hG hin
          obtain ⟨i, n, F', tr, rfl, rfl, hi, hS, hD, hG⟩ := hrel
          by_cases hn0 : 0 < n
          · have q0 : decide ((0 : Int) < (n : Int)) = true := by simp; omega
            have htp := hS.out.tpos hn0
            have hd9 := right_dig (show 0 < K by omega) hS.out.lt
            have hem := Nat.mod_lt n (show 0 < K by omega)
            have hnl := hS.out.lt
            have hsh := shr_nat n k
            have han := and_mask (n := n) (k := k) (M := M) (by omega) hk (by rw [hK]; omega)
            rw [hK] at hsh han
            have hst1 := hS.out.step hK (by omega) hn0
            have hst2 := fun h1 => hS.out.stay hK (by omega) hn0 h1
            obtain ⟨d, hd⟩ : ∃ d, n / K = d := ⟨_, rfl⟩
            obtain ⟨e, he⟩ : ∃ e, n % K = e := ⟨_, rfl⟩
            rw [hd] at hst1 hd9 hsh
            rw [he] at hst1 hst2 hem han
            obtain ⟨d8, e0⟩ : ∃ m, d + 48 = m := ⟨_, rfl⟩
            obtain ⟨m1, e1⟩ : ∃ m, e * 10 = m := ⟨_, rfl⟩
            have x1 : IntKind.u64.wrap ((d : Int) + 48) = (d8 : Int) := by rw [IntKind.wrap_u64]; omega
            have x2 : IntKind.u8.wrap (d8 : Int) = (d8 : Int) := by rw [IntKind.wrap_u8]; omega
            have x3 : IntKind.u64.wrap ((e : Int) * 10) = (m1 : Int) := by rw [IntKind.wrap_u64]; omega
            have y2 : IntKind.i64.wrap ((i : Int) + 1) = ((i + 1 : Nat) : Int) := by rw [IntKind.wrap_i64]; omega
            rw [e0, e1] at hst1
            rw [e1] at hst2
            have H1 := Lib.hid hst1
            have H2 := Lib.hid hst2
            clear hst1 hst2 e0 e1 hd he hd9 hem hnl
            by_cases hi8 : i < 800
            · have q1 : decide ((i : Int) < 800) = true := by simp; omega
              have hci : wr.cell? ⟨g, i, none⟩ = _ := hD.cell (i := i) hi8
              have hfi := hD.unfrozen i
              have hD2 := hD.putD hi8 d8
              have hG2 := grownBy_tr hG (grown_put wr g i (.int .u8 (d8 : Int)))
              have hi8' : (i : Int) < 800 := by omega
              go_wp2_with fail
              go_roundg (gk - 1)
              case measure => omega
              case rel => exact ⟨i + 1, m1, upd F' i d8, tr, by go_num, rfl, by omega, H1, hD2, hG2⟩
            · have q1 : decide ((i : Int) < 800) = false := by simp; omega
              have hi8' : ¬ (i : Int) < 800 := by omega
              by_cases hd0 : 0 < d
              · have q2 : decide ((0 : Int) < (d : Int)) = true := by simp; omega
                have hct := hD.cT
                have hft := hD.unfrozen 803
                have hD2 := hD.putTrunc true
                have hG2 := grownBy_tr hG (grown_put wr g 803 (.bool true))
                go_wp2_with fail
                go_roundg (gk - 1)
                case measure => omega
                case rel => exact ⟨i, m1, F', true, rfl, rfl, by omega, Lib.hid (H2.out (by omega)), hD2, hG2⟩
              · have q2 : decide ((0 : Int) < (d : Int)) = false := by simp; omega
                go_wp2_with fail
                go_roundg (gk - 1)
                case measure => omega
                case rel => exact ⟨i, m1, F', tr, rfl, rfl, by omega, Lib.hid (H2.out (by omega)), hD, hG⟩
          · have q0 : decide ((0 : Int) < (n : Int)) = false := by simp; omega
            have hn0' : ¬ (0 : Int) < (n : Int) := by omega
            have hK0 : 0 < K := by omega
            have hdv := Nat.div_pos (hK ▸ hn.out.1) hK0
            have hi1 : 1 ≤ i := by
              rcases Nat.eq_zero_or_pos i with e | e
              · have := hS.out.none e
                have := hn.out.1
                omega
              · exact e
            have hf := hS.out.first hi1
            have hc0 := hD.cN
            have hf0 := hD.unfrozen 800
            have hD2 := hD.putNd (i : Int)
            have hG2 := grownBy_tr hG (grown_put wr g 800 (.int .i64 (i : Int)))
            have HDG := Lib.hid hS.out.dig
            have HF := Lib.hid hf
            have HV := Lib.hid hdv
            clear hS hf hdv
            go_wp2_with fail
            refine (trim_any _ g F' i d2 neg tr hD2 hi hi1 (by have := HF.out; have := HV.out; omega)).mono ?_
            rintro e w9 ⟨rfl, m, hm1, hm2, hD9, hG9⟩
            go_wp2_with fail
            go_end0
            refine ⟨rfl, F', m, q, tr, ?_, ⟨hm1, by omega, fun j hj => HDG.out j (by omega), by have := HF.out; have := HV.out; omega⟩, by omega, fun h0 => ?_, grownBy_tr hG2 hG9⟩
            · rw [HD2.out]; exact hD9
            · have h1 : r = 1 := by rw [HQ.out, h0]
              have h2 := hR.out.2.2 h1
              rw [hK, ← h2, HF.out]
              refine ⟨?_, Nat.add_sub_cancel_left _ _⟩
              have := hn.out.1
              rw [hK] at this
              exact this
end Go.Proofs.YtkaeaiagmihmgaaGreatDoor

namespace Go.Proofs.YtkaeaiagmihmgaaGreatDoor
open Go.RowKit

theorem ret_bb {a b : Bool} (h : a = b) : Ending.returned (.bool a) = .returned (.bool b) := by rw [h]
def cutOf (s : List UInt8) : Nat → Nat := fun i => (s.getD i 0).toNat - 48
theorem before_step {f c : Nat → Nat} {n m t i : Nat} : before f n c m (t + 1) i = if m ≤ i then false else if n ≤ i then true else if f i ≠ c i then decide (f i < c i) else before f n c m t (i + 1) := rfl
theorem drewN_add (w : World) (a b : Nat) : (w.drewN a).drewN b = w.drewN (a + b) := by simp [World.drewN, Nat.add_assoc]

set_option maxRecDepth 100000 in
set_option maxHeartbeats 800000 in
theorem prefix_any (w : World) (g : Nat) (F : Nat → Nat) (nd : Nat) (dp : Int) (neg trunc : Bool) (hDec : Dec w g F nd dp neg trunc) (hN : Num F nd) (s : List UInt8) (hs : ∀ i, i < s.length → 48 ≤ (s.getD i 0).toNat) (hl : s.length ≤ 100) :
    Calls Tryz.prog 120 #[.slice (some ⟨g, 0, none⟩) nd 800, .string ⟨s.toArray⟩] w fun e w' => e = .returned (.bool (before (digOf F) nd (cutOf s) s.length s.length 0)) ∧ ∃ n, w' = w.drewN n := by
  have hle := hN.le
  go_enter Tryz.func120, Tryz.ntmps120
  go_wp2_with fail
  go_loopw [5] (fun iv wr => ∃ (i qn : Nat), iv = .int .i64 i ∧ i ≤ s.length ∧ Hid (before (digOf F) nd (cutOf s) s.length s.length 0 = before (digOf F) nd (cutOf s) s.length (s.length - i) i) ∧ wr = w.drewN qn) (fun iv _ => s.length - (intOf iv).toNat)
  case atStart => exact ⟨0, 0, rfl, by omega, Lib.hid rfl, rfl⟩
  case round =>
    obtain ⟨i, qn, rfl, hi, hI, hwr⟩ := hrel
    have hD : Dec wr g F nd dp neg trunc := by rw [hwr]; exact hDec.keep rfl
    have HW := Lib.hid hwr
    clear hwr
    by_cases h1 : i < s.length
    · have hI2 := hI.out
      rw [show s.length - i = (s.length - (i + 1)) + 1 by omega, before_step, if_neg (by omega)] at hI2
      have q1 : decide ((i : Int) < (s.length : Int)) = true := by simp; omega
      by_cases h2 : nd ≤ i
      · rw [if_pos h2] at hI2
        have q2 : decide ((nd : Int) ≤ (i : Int)) = true := by simp; omega
        have HI := Lib.hid hI2
        clear hI hI2
        go_wp2_with fail
        go_ret
        exact ⟨ret_bb HI.out.symm, qn, HW.out⟩
      · rw [if_neg h2] at hI2
        have q2 : decide ((nd : Int) ≤ (i : Int)) = false := by simp; omega
        have hci : wr.cell? ⟨g, i, none⟩ = _ := hD.cell (i := i) (by omega)
        have hix := fun (ww : World) => run_index_list (P := Tryz.prog) 9 s (i : Int) i _ Tryz.underlying9 rfl h1 rfl ww
        have hFi := hN.dig i (by omega)
        have hsi := hs i h1
        have hf : digOf F i = F i - 48 := rfl
        have hc : cutOf s i = (s.getD i 0).toNat - 48 := rfl
        rw [hf, hc] at hI2
        obtain ⟨x, hx⟩ : ∃ x, F i = x := ⟨_, rfl⟩
        obtain ⟨y, hy⟩ : ∃ y, (s.getD i 0).toNat = y := ⟨_, rfl⟩
        rw [hx] at hci hFi hI2
        rw [hy] at hix hsi hI2
        have hin : (i : Int) < (nd : Int) := by omega
        by_cases hxy : x = y
        · rw [if_neg (by omega)] at hI2
          have q3 : ((x : Int) == (y : Int)) = true := by simp [hxy]
          have q4 : ((x : Int) != (y : Int)) = false := by simp [hxy]
          have HI := Lib.hid hI2
          clear hI hI2 hxy hx hy
          go_wp2_with fail
          go_quiet (fail)
          have HW2 : Hid (wr.drewN nq = w.drewN (qn + nq)) := Lib.hid (by rw [HW.out, drewN_add])
          have y2 : IntKind.i64.wrap ((i : Int) + 1) = ((i + 1 : Nat) : Int) := by rw [IntKind.wrap_i64]; omega
          generalize wr.drewN nq = w2 at *
          go_wp2_with fail
          refine ⟨⟨i + 1, qn + nq, by go_num, by omega, Lib.hid ?_, HW2.out⟩, by simp [intOf]; omega⟩
          rw [HI.out]
        · rw [if_pos (by omega)] at hI2
          have q3 : ((x : Int) == (y : Int)) = false := by simp; omega
          have q4 : ((x : Int) != (y : Int)) = true := by simp; omega
          have q5 : decide ((x : Int) < (y : Int)) = decide (x < y) := by simp
          have HI := Lib.hid (hI2.trans (show decide (x - 48 < y - 48) = decide (x < y) from decide_eq_decide.2 (by omega)))
          clear hI hI2 hxy hx hy
          go_wp2_with fail
          go_quiet (fail)
          obtain ⟨qm, HW2⟩ : ∃ q, Hid (wr.drewN nq = w.drewN q) := ⟨qn + nq, Lib.hid (by rw [HW.out, drewN_add])⟩
          have hD2 : Dec (wr.drewN nq) g F nd dp neg trunc := hD.keep rfl
          have hci2 : (wr.drewN nq).cell? ⟨g, i, none⟩ = some (.int .u8 x) := hci
          clear hci
          generalize wr.drewN nq = w2 at *
          go_wp2_with fail
          go_quiet (fail)
          have HW3 : Hid (w2.drewN nq = w.drewN (qm + nq)) := Lib.hid (by rw [HW2.out, drewN_add])
          go_wp2_with fail
          go_ret
          exact ⟨ret_bb HI.out.symm, _, HW3.out⟩
    · have hI2 := hI.out
      rw [show s.length - i = 0 by omega] at hI2
      have q1 : decide ((i : Int) < (s.length : Int)) = false := by simp; omega
      have HI := Lib.hid hI2
      clear hI hI2
      go_wp2_with fail
      go_ret
      exact ⟨ret_bb HI.out.symm, qn, HW.out⟩
end Go.Proofs.YtkaeaiagmihmgaaGreatDoor
