/- strconv's atofHex returns, whatever it is handed. -/
import Derived.Test.YtkaeaiagmihmgaaGreatDoorQFzC
import Derived.LaidEqlPtr
namespace Go.Proofs.YtkaeaiagmihmgaaGreatDoor
open Go.RowKit Go.Sort

/-- The shape of a 64-bit float, as strconv keeps it. -/
structure Info64 (w : World) : Prop where
  mant : w.cell? ⟨13, 0, none⟩ = some (.int .u64 52)
  exp : w.cell? ⟨13, 1, none⟩ = some (.int .u64 11)
  bias : w.cell? ⟨13, 2, none⟩ = some (.int .i64 (-1023))
  blk : ∃ (c : Array Value) (t : TypeId), w.heap[(13 : Nat)]? = some (.cells c t (0, 0))
  blk32 : ∃ (c : Array Value) (t : TypeId), w.heap[(12 : Nat)]? = some (.cells c t (0, 0))

theorem hx_and_u64 (a b : Int) : ∃ n : Nat, bits .and .u64 a b = n := by
  refine Int.eq_ofNat_of_zero_le ?_
  show 0 ≤ IntKind.u64.wrap ((BitVec.ofInt 64 a &&& BitVec.ofInt 64 b).toNat : Int)
  rw [IntKind.wrap_u64]
  omega

theorem hx_or_u64 (a b : Int) : ∃ n : Nat, bits .or .u64 a b = n ∧ n < 18446744073709551616 := by
  have h : 0 ≤ bits .or .u64 a b ∧ bits .or .u64 a b < 18446744073709551616 := by
    show 0 ≤ IntKind.u64.wrap ((BitVec.ofInt 64 a ||| BitVec.ofInt 64 b).toNat : Int) ∧ IntKind.u64.wrap ((BitVec.ofInt 64 a ||| BitVec.ofInt 64 b).toNat : Int) < 18446744073709551616
    rw [IntKind.wrap_u64]
    omega
  exact ⟨(bits .or .u64 a b).toNat, by omega, by omega⟩

theorem hx_and_i64 (a : Int) : ∃ n : Nat, bits .and .i64 a 2047 = n ∧ n < 2048 := by
  have h : (BitVec.ofInt 64 a &&& BitVec.ofInt 64 2047).toNat < 2048 := by
    rw [BitVec.toNat_and]
    exact Nat.and_lt_two_pow (n := 11) _ (by decide)
  refine ⟨_, ?_, h⟩
  show IntKind.i64.wrap ((BitVec.ofInt 64 a &&& BitVec.ofInt 64 2047).toNat : Int) = _
  rw [IntKind.wrap_i64]
  omega

theorem hx_other (w : World) (ca cb : Array Value) (ta tb : TypeId) (ha : w.heap[(13 : Nat)]? = some (.cells ca ta (0, 0))) (hb : w.heap[(12 : Nat)]? = some (.cells cb tb (0, 0))) :
    (binOp .eql 169 (.pointer (some ⟨13, 0, none⟩)) (.pointer (some ⟨12, 0, none⟩))).run Tryz.prog w = .ok (.bool false) w := by
  have hz : (Tryz.prog.info? 171).any (fun j => j.size != 0) = true := by kernel_rfl
  have hu : Tryz.prog.underlying 169 = some (.pointer 171) := by kernel_rfl
  rw [Option.any_eq_true] at hz
  obtain ⟨j, hj, hs⟩ := hz
  exact run_eql_ptr_other w hu hj (by simpa using hs) (by decide) ha hb

set_option maxRecDepth 100000 in
set_option maxHeartbeats 1600000 in
theorem atofHex_any (w : World) (hI : Info64 w) (s : ByteArray) (m : Nat) (e : Int) (neg tr : Bool) (hm : m < 18446744073709551616) (h1 : -10000000 ≤ e) (h2 : e ≤ 10000000) :
    Calls Tryz.prog 128 #[.string s, .pointer (some ⟨13, 0, none⟩), .int .u64 m, .int .i64 e, .bool neg, .bool tr] w fun x w' => ∃ (f : Nat) (err : Value), f < 18446744073709551616 ∧ x = .returned (.tuple #[.float .f64 f, err]) ∧ (err = .nilIface ∨ err = .iface 98 (.int .i64 1)) ∧ Below w.heap.size w w' := by
  have c0 := hI.mant
  have c1 := hI.exp
  have c2 := hI.bias
  obtain ⟨ca, ta, c3⟩ := hI.blk
  obtain ⟨cb, tb, c4⟩ := hI.blk32
  go_enter Tryz.func128, Tryz.ntmps128
  go_wp2_with fail
  go_quiet (fail)
  have b1 : Below w.heap.size w (w.drewN nq) := ⟨rfl, rfl, rfl, Nat.le_refl _, fun _ _ => rfl⟩
  have d0 : (w.drewN nq).cell? ⟨13, 0, none⟩ = some (.int .u64 52) := c0
  have d1 : (w.drewN nq).cell? ⟨13, 1, none⟩ = some (.int .u64 11) := c1
  have d2 : (w.drewN nq).cell? ⟨13, 2, none⟩ = some (.int .i64 (-1023)) := c2
  have d3 : (w.drewN nq).heap[(13 : Nat)]? = some (.cells ca ta (0, 0)) := c3
  have d4 : (w.drewN nq).heap[(12 : Nat)]? = some (.cells cb tb (0, 0)) := c4
  generalize w.drewN nq = w1 at *
  clear c0 c1 c2 c3 c4 hI
  go_upto_block 0 with fail
  go_cut [2, 3] (fun mm ee wc => ∃ (M : Nat) (E : Int), mm = .int .u64 M ∧ ee = .int .i64 E ∧ M < 18446744073709551616 ∧ -10000100 ≤ E ∧ E ≤ 10000100 ∧ w1 = wc)
  case first =>
    go_wp2_with fail
    go_loopw [2, 3] (fun mm ee wr => ∃ (M k : Nat) (E : Int), mm = .int .u64 M ∧ ee = .int .i64 E ∧ M < 18446744073709551616 ∧ e + 52 - k ≤ E ∧ E ≤ e + 52 ∧ k ≤ 60 ∧ (M = 0 ∨ 2 ^ k ≤ M) ∧ w1 = wr) (fun mm _ _ => (18014398509481984 - intOf mm).toNat)
    case atStart => exact ⟨m, 0, e + 52, rfl, rfl, hm, by omega, by omega, by omega, by rcases Nat.eq_zero_or_pos m with h | h; exact .inl h; exact .inr (by rw [Nat.pow_zero]; exact h), rfl⟩
    case round =>
      obtain ⟨M, k, E, rfl, rfl, hM, hE, hE', hk, hMk, rfl⟩ := hrel
      by_cases z0 : M = 0
      · subst z0
        go_wp2_with fail
        go_meet
        case rel => exact ⟨0, E, rfl, rfl, by omega, by omega, by omega, rfl⟩
      · have t0 : ((M : Int) != 0) = true := by simp; omega
        have hk2 : 2 ^ k ≤ M := by rcases hMk with h | h; exact absurd h z0; exact h
        by_cases z1 : M < 18014398509481984
        · have t1 : ((M : Int) / 18014398509481984 == 0) = true := by simp; omega
          have hk3 : k < 54 := by
            rcases Nat.lt_or_ge k 54 with h | h
            · exact h
            · exfalso
              have := Nat.pow_le_pow_right (show 0 < 2 by decide) h
              omega
          have hp : 2 ^ (k + 1) ≤ 2 * M := by rw [Nat.pow_succ]; omega
          clear hMk hk2
          go_wp2_with fail
          exact ⟨⟨2 * M, k + 1, E - 1, congrArg (Value.int .u64) (by omega), rfl, by omega, by omega, by omega, by omega, .inr hp, trivial⟩, by simp [intOf]; omega⟩
        · have t1 : ((M : Int) / 18014398509481984 == 0) = false := by simp; omega
          go_wp2_with fail
          go_meet
          case rel => exact ⟨M, E, rfl, rfl, hM, by omega, by omega, rfl⟩
  case rest =>
    obtain ⟨M, E, rfl, rfl, hM, hE1, hE2, rfl⟩ := hcut
    go_upto_if 58 with fail
    go_cut [2] (fun mm wc => ∃ (M : Nat), mm = .int .u64 M ∧ M < 18446744073709551616 ∧ w1 = wc)
    case first =>
      have ho := u64_or_nat M 1 hM (by decide)
      have hlt : M ||| 1 < 18446744073709551616 := Nat.or_lt_two_pow (n := 64) hM (by decide)
      cases tr with
      | true =>
        go_wp2_with fail
        go_meet
        case rel => exact ⟨M ||| 1, congrArg (Value.int .u64) ho, hlt, rfl⟩
      | false =>
        go_wp2_with fail
        go_meet
        case rel => exact ⟨M, rfl, hM, rfl⟩
    case rest =>
      clear hM
      obtain ⟨M, rfl, hM, rfl⟩ := hcut
      go_upto_block 2 with fail
      go_cut [2, 3] (fun mm ee wc => ∃ (M : Nat) (E : Int), mm = .int .u64 M ∧ ee = .int .i64 E ∧ M < 36028797018963968 ∧ -10000100 ≤ E ∧ E ≤ 10001000 ∧ w1 = wc)
      case first =>
        go_wp2_with fail
        go_loopw [2, 3] (fun mm ee wr => ∃ (M k : Nat) (E : Int), mm = .int .u64 M ∧ ee = .int .i64 E ∧ M < 2 ^ (64 - k) ∧ k ≤ 64 ∧ -10000100 ≤ E ∧ E ≤ 10000100 + k ∧ w1 = wr) (fun _ ee _ => (10001000 - intOf ee).toNat)
        case atStart => exact ⟨M, 0, E, rfl, rfl, hM, by omega, hE1, by omega, rfl⟩
        case round =>
          obtain ⟨M, k, E, rfl, rfl, hM, hk, hE1, hE2, rfl⟩ := hrel
          have hM64 : M < 18446744073709551616 := Nat.lt_of_lt_of_le hM (Nat.pow_le_pow_right (show 0 < 2 by decide) (show 64 - k ≤ 64 by omega))
          by_cases z1 : M < 36028797018963968
          · have t1 : ((M : Int) / 36028797018963968 != 0) = false := by simp; omega
            clear hM
            go_wp2_with fail
            go_meet
            case rel => exact ⟨M, E, rfl, rfl, z1, hE1, by omega, rfl⟩
          · have t1 : ((M : Int) / 36028797018963968 != 0) = true := by simp; omega
            have hk9 : k < 9 := by
              rcases Nat.lt_or_ge k 9 with h | h
              · exact h
              · exfalso
                have := Nat.pow_le_pow_right (show 0 < 2 by decide) (show 64 - k ≤ 55 by omega)
                omega
            have hp : 2 ^ (64 - k) = 2 * 2 ^ (64 - (k + 1)) := by rw [← Nat.pow_succ', show (64 - (k + 1)).succ = 64 - k by omega]
            have ha : bits .and .u64 (M : Int) 1 = ((M % 2 : Nat) : Int) := by
              have := u64_and_nat M 1 hM64 (by decide)
              rw [Nat.and_one_is_mod] at this
              exact this
            have ho := u64_or_nat (M / 2) (M % 2) (by omega) (by omega)
            have hq : M / 2 ||| M % 2 < 2 ^ (64 - (k + 1)) := Nat.or_lt_two_pow (by omega) (by
              have : 2 ^ 1 ≤ 2 ^ (64 - (k + 1)) := Nat.pow_le_pow_right (by decide) (by omega)
              omega)
            obtain ⟨R, hR⟩ : ∃ R, M / 2 ||| M % 2 = R := ⟨_, rfl⟩
            rw [hR] at ho hq
            clear hM hp hR
            have ho' : bits .or .u64 ((M : Int) / 2) ((M : Int) % 2) = ((R : Nat) : Int) := ho
            go_wp2_with fail
            refine ⟨⟨R, k + 1, E + 1, ?_, rfl, hq, by omega, by omega, by omega, trivial⟩, by simp [intOf]; omega⟩
            first | rfl | exact congrArg (Value.int .u64) ho'
      case rest =>
        clear hM hE1 hE2
        obtain ⟨M, E, rfl, rfl, hM, hE1, hE2, rfl⟩ := hcut
        go_upto_block 4 with fail
        go_cut [2, 3] (fun mm ee wc => ∃ (M : Nat) (E : Int), mm = .int .u64 M ∧ ee = .int .i64 E ∧ M < 36028797018963968 ∧ -10000100 ≤ E ∧ E ≤ 10001000 ∧ w1 = wc)
        case first =>
          go_wp2_with fail
          go_loopw [2, 3] (fun mm ee wr => ∃ (M : Nat) (E : Int), mm = .int .u64 M ∧ ee = .int .i64 E ∧ M < 36028797018963968 ∧ -10000100 ≤ E ∧ E ≤ 10001000 ∧ w1 = wr) (fun _ ee _ => (10001000 - intOf ee).toNat)
          case atStart => exact ⟨M, E, rfl, rfl, hM, hE1, hE2, rfl⟩
          case round =>
            obtain ⟨M, E, rfl, rfl, hM, hE1, hE2, rfl⟩ := hrel
            by_cases z1 : 1 < M
            · have t1 : decide ((1 : Int) < (M : Int)) = true := by simp; omega
              by_cases z2 : E < -1024
              · have t2 : decide (E < (-1024 : Int)) = true := by simp; omega
                have ha : bits .and .u64 (M : Int) 1 = ((M % 2 : Nat) : Int) := by
                  have := u64_and_nat M 1 (by omega) (by decide)
                  rw [Nat.and_one_is_mod] at this
                  exact this
                have ho := u64_or_nat (M / 2) (M % 2) (by omega) (by omega)
                have hq : M / 2 ||| M % 2 < 36028797018963968 := Nat.or_lt_two_pow (n := 55) (by omega) (by omega)
                obtain ⟨R, hR⟩ : ∃ R, M / 2 ||| M % 2 = R := ⟨_, rfl⟩
                rw [hR] at ho hq
                clear hR
                have ho' : bits .or .u64 ((M : Int) / 2) ((M : Int) % 2) = ((R : Nat) : Int) := ho
                go_wp2_with fail
                refine ⟨⟨R, E + 1, ?_, rfl, hq, by omega, by omega, trivial⟩, by simp [intOf]; omega⟩
                first | rfl | exact congrArg (Value.int .u64) ho'
              · have t2 : decide (E < (-1024 : Int)) = false := by simp; omega
                go_wp2_with fail
                go_meet
                case rel => exact ⟨M, E, rfl, rfl, hM, hE1, hE2, rfl⟩
            · have t1 : decide ((1 : Int) < (M : Int)) = false := by simp; omega
              go_wp2_with fail
              go_meet
              case rel => exact ⟨M, E, rfl, rfl, hM, hE1, hE2, rfl⟩
        case rest =>
          clear hM hE1 hE2
          obtain ⟨M, E, rfl, rfl, hM, hE1, hE2, rfl⟩ := hcut
          have a3 : bits .and .u64 (M : Int) 3 = ((M &&& 3 : Nat) : Int) := u64_and_nat M 3 (by omega) (by decide)
          have a1 : bits .and .u64 ((M / 4 : Nat) : Int) 1 = ((M / 4 &&& 1 : Nat) : Int) := u64_and_nat (M / 4) 1 (by omega) (by decide)
          have a1' : bits .and .u64 ((M : Int) / 4) 1 = ((M / 4 &&& 1 : Nat) : Int) := a1
          have l3 : M &&& 3 < 4 := Nat.and_lt_two_pow M (n := 2) (by decide)
          have l1 : M / 4 &&& 1 < 2 := Nat.and_lt_two_pow (M / 4) (n := 1) (by decide)
          have o3 := u64_or_nat (M &&& 3) (M / 4 &&& 1) (by omega) (by omega)
          generalize M &&& 3 = x at *
          generalize M / 4 &&& 1 = y at *
          generalize x ||| y = z at *
          go_upto_if 103 with fail
          go_cut [2, 3] (fun mm ee wc => ∃ (M : Nat) (E : Int), mm = .int .u64 M ∧ ee = .int .i64 E ∧ M < 36028797018963968 ∧ -10000200 ≤ E ∧ E ≤ 10002000 ∧ w1 = wc)
          case first =>
            by_cases z3 : z = 3
            · subst z3
              by_cases z4 : M / 4 + 1 = 9007199254740992
              · have t4 : ((M : Int) / 4 + 1 == 9007199254740992) = true := by simp; omega
                go_wp2_with fail
                go_meet
                case rel => exact ⟨(M / 4 + 1) / 2, _, congrArg (Value.int .u64) (by omega), rfl, by omega, by omega, by omega, rfl⟩
              · have t4 : ((M : Int) / 4 + 1 == 9007199254740992) = false := by simp; omega
                go_wp2_with fail
                go_meet
                case rel => exact ⟨M / 4 + 1, _, congrArg (Value.int .u64) (by omega), rfl, by omega, by omega, by omega, rfl⟩
            · have t3 : ((z : Int) == 3) = false := by simp; omega
              go_wp2_with fail
              go_meet
              case rel => exact ⟨M / 4, _, congrArg (Value.int .u64) (by omega), rfl, by omega, by omega, by omega, rfl⟩
          case rest =>
            clear hM hE1 hE2 a3 a1 a1' l3 l1 o3
            obtain ⟨M, E, rfl, rfl, hM, hE1, hE2, rfl⟩ := hcut
            go_upto_if 124 with fail
            go_cut [3] (fun ee wc => ∃ (E : Int), ee = .int .i64 E ∧ -10000200 ≤ E ∧ E ≤ 10002000 ∧ w1 = wc)
            case first =>
              by_cases z5 : M < 4503599627370496
              · have t5 : ((M : Int) / 4503599627370496 == 0) = true := by simp; omega
                go_wp2_with fail
                go_meet
                case rel => exact ⟨_, rfl, by omega, by omega, rfl⟩
              · have t5 : ((M : Int) / 4503599627370496 == 0) = false := by simp; omega
                go_wp2_with fail
                go_meet
                case rel => exact ⟨_, rfl, by omega, by omega, rfl⟩
            case rest =>
              clear hE1 hE2
              obtain ⟨E, rfl, hE1, hE2, rfl⟩ := hcut
              go_upto_if 131 with fail
              go_cut [2, 3, 17] (fun mm ee er wc => ∃ (M : Nat) (E : Int), mm = .int .u64 M ∧ ee = .int .i64 E ∧ (er = .nilIface ∨ er = .iface 98 (.int .i64 1)) ∧ M < 36028797018963968 ∧ -10000200 ≤ E ∧ E ≤ 10002000 ∧ w1 = wc)
              case first =>
                by_cases z6 : E ≤ 1023
                · have t6 : decide ((1023 : Int) < E) = false := by simp; omega
                  go_wp2_with fail
                  go_meet
                  case rel => exact ⟨M, E, rfl, rfl, .inl rfl, by omega, by omega, by omega, rfl⟩
                · have t6 : decide ((1023 : Int) < E) = true := by simp; omega
                  go_wp2_with fail
                  go_meet
                  case rel => exact ⟨4503599627370496, 1024, rfl, rfl, .inr rfl, by omega, by omega, by omega, rfl⟩
              case rest =>
                clear hM hE1 hE2
                obtain ⟨M, E, rfl, rfl, her, hM, hE1, hE2, rfl⟩ := hcut
                obtain ⟨B, hB⟩ := hx_and_u64 (M : Int) 4503599627370495
                obtain ⟨C, hC, hC'⟩ := hx_and_i64 (E + 1023)
                obtain ⟨D, hD, hDl⟩ := hx_or_u64 (B : Int) ((C : Int) * 4503599627370496)
                obtain ⟨D', hD', hDl'⟩ := hx_or_u64 (D : Int) 9223372036854775808
                have f1 := frombits'
                go_wp2_with fail
                go_quiet (fail)
                have b2 : Below w.heap.size w (w1.drewN nq) := b1.trans ⟨rfl, rfl, rfl, Nat.le_refl _, fun _ _ => rfl⟩
                have e0 : (w1.drewN nq).cell? ⟨13, 0, none⟩ = some (.int .u64 52) := d0
                have e1 : (w1.drewN nq).cell? ⟨13, 1, none⟩ = some (.int .u64 11) := d1
                have e3 : (w1.drewN nq).heap[(13 : Nat)]? = some (.cells ca ta (0, 0)) := d3
                have e4 : (w1.drewN nq).heap[(12 : Nat)]? = some (.cells cb tb (0, 0)) := d4
                clear b1 d0 d1 d2 d3 d4
                generalize w1.drewN nq = w2 at *
                cases neg with
                | false =>
                  have p1 := hx_other w2 ca cb ta tb e3 e4
                  go_wp2_with fail
                  go_ret2
                  exact ⟨D, _, hDl, rfl, her, b2⟩
                | true =>
                  go_wp2_with fail
                  go_quiet (fail)
                  have b3 : Below w.heap.size w (w2.drewN nq) := b2.trans ⟨rfl, rfl, rfl, Nat.le_refl _, fun _ _ => rfl⟩
                  have p1 := hx_other (w2.drewN nq) ca cb ta tb e3 e4
                  go_wp2_with fail
                  go_ret2
                  exact ⟨D', _, hDl', rfl, her, b3⟩
end Go.Proofs.YtkaeaiagmihmgaaGreatDoor
