/- The slow decimal road: Shift, shouldRoundUp, RoundedInteger, walked. -/
import Derived.Test.YtapkihcgnhofmaaGreatDoorQDcL
namespace Go.Proofs.YtapkihcgnhofmaaGreatDoor
open Go.RowKit

set_option maxRecDepth 100000 in
set_option maxHeartbeats 800000 in
theorem shift_left (w : World) (B g : Nat) (hT : Cheats w B) (F : Nat → Nat) (nd : Nat) (dp : Int) (neg trunc : Bool) (hDec : Dec w g F nd dp neg trunc) (hN : Num F nd) (k : Nat) (hk1 : 1 ≤ k) (hk : k ≤ 60) (hdp : -100000000 ≤ dp ∧ dp ≤ 100000000) :
    Calls Tryz.prog 42 #[.pointer (some ⟨g, 0, none⟩), .int .i64 k] w fun e w' => e = .returned (.tuple #[]) ∧ ∃ (F' : Nat → Nat) (n del : Nat) (tr : Bool),
      Dec w' g F' n (dp + del) neg tr ∧ Num F' n ∧ del ≤ 20 ∧ (del = 0 → 2 * (F 0 - 48) ≤ F' 0 - 48) ∧ w.grownBy w' (some g) := by
  have c0 := hDec.cN
  have hpos := hN.pos
  have q0 : ((nd : Int) == 0) = false := beq_eq_false_iff_ne.2 (by omega)
  have q1 : decide ((0 : Int) < (k : Int)) = true := by simp; omega
  have q1' : 0 < k := by omega
  have q2 : decide ((60 : Int) < (k : Int)) = false := by simp; omega
  have q2' : ¬ (60 : Int) < (k : Int) := by omega
  have wk : IntKind.u64.wrap (k : Int) = (k : Int) := by rw [IntKind.wrap_u64]; omega
  go_enter Tryz.func42, Tryz.ntmps42
  go_wp2_with fail
  refine wp_loop_rounds 1 ?_
  rw [rounds_succ]
  go_wp2_with fail
  refine (leftShift_any w B g hT F nd dp neg trunc hDec hN k hk1 hk hdp).mono ?_
  rintro e w1 ⟨rfl, h⟩
  go_wp2_with fail
  go_end0
  exact ⟨rfl, h⟩

set_option maxRecDepth 100000 in
set_option maxHeartbeats 800000 in
theorem shift_right (w : World) (g : Nat) (F : Nat → Nat) (nd : Nat) (dp : Int) (neg trunc : Bool) (hDec : Dec w g F nd dp neg trunc) (hN : Num F nd) (k : Nat) (hk1 : 1 ≤ k) (hk : k ≤ 60) (hdp : -100000000 ≤ dp ∧ dp ≤ 100000000) (m : Int) (hm : m = -(k : Int)) :
    Calls Tryz.prog 42 #[.pointer (some ⟨g, 0, none⟩), .int .i64 m] w fun e w' => e = .returned (.tuple #[]) ∧ ∃ (F' : Nat → Nat) (n r : Nat) (tr : Bool),
      Dec w' g F' n (dp - r) neg tr ∧ Num F' n ∧ r ≤ 20 ∧ (r = 0 → 2 ^ k ≤ F 0 - 48 ∧ F' 0 - 48 = (F 0 - 48) / 2 ^ k) ∧ w.grownBy w' (some g) := by
  have c0 := hDec.cN
  have hpos := hN.pos
  have q0 : ((nd : Int) == 0) = false := beq_eq_false_iff_ne.2 (by omega)
  have q1 : decide ((0 : Int) < m) = false := by simp; omega
  have q2 : decide (m < 0) = true := by simp; omega
  have q3 : decide (m < -60) = false := by simp; omega
  have q1' : ¬ (0 : Int) < m := by omega
  have q2' : m < 0 := by omega
  have q3' : ¬ m < -60 := by omega
  have wn : IntKind.i64.wrap (-m) = (k : Int) := by rw [IntKind.wrap_i64]; omega
  have wk : IntKind.u64.wrap (k : Int) = (k : Int) := by rw [IntKind.wrap_u64]; omega
  clear hm
  go_enter Tryz.func42, Tryz.ntmps42
  go_wp2_with fail
  refine wp_loop_rounds 1 ?_
  rw [rounds_succ]
  go_wp2_with fail
  refine (rightShift_any w g F nd dp neg trunc hDec hN k hk1 hk hdp).mono ?_
  rintro e w1 ⟨rfl, h⟩
  go_wp2_with fail
  go_end0
  exact ⟨rfl, h⟩

set_option maxRecDepth 100000 in
set_option maxHeartbeats 800000 in
theorem shift_far (w : World) (g : Nat) (F : Nat → Nat) (nd : Nat) (dp : Int) (neg trunc : Bool) (hDec : Dec w g F nd dp neg trunc) (hN : Num F nd) (k : Nat) (hk1 : 1 ≤ k) (hk : k ≤ 1000000) (hdp : -1000000 ≤ dp ∧ dp ≤ 1000000) (m : Int) (hm : m = -(k : Int)) :
    Calls Tryz.prog 42 #[.pointer (some ⟨g, 0, none⟩), .int .i64 m] w fun e w' => e = .returned (.tuple #[]) ∧ ∃ (F' : Nat → Nat) (n : Nat) (dp' : Int) (tr : Bool),
      Dec w' g F' n dp' neg tr ∧ Num F' n ∧ (-10000000 ≤ dp' ∧ dp' ≤ 10000000) ∧ w.grownBy w' (some g) := by
  have c0 := hDec.cN
  have hpos := hN.pos
  have q0 : ((nd : Int) == 0) = false := beq_eq_false_iff_ne.2 (by omega)
  have q1 : decide ((0 : Int) < m) = false := by simp; omega
  have q2 : decide (m < 0) = true := by simp; omega
  have q1' : ¬ (0 : Int) < m := by omega
  have q2' : m < 0 := by omega
  have hmb : -1000000 ≤ m := by omega
  clear hm hk1 hk
  go_enter Tryz.func42, Tryz.ntmps42
  go_wp2_with fail
  go_loopw [1] (fun mv wr => ∃ (t : Int) (F' : Nat → Nat) (n : Nat) (d : Int) (tr : Bool), mv = .int .i64 t ∧ t < 0 ∧ -1000000 ≤ t ∧ Hid (d ≤ dp ∧ dp + (m - t) ≤ d) ∧ Num F' n ∧ Dec wr g F' n d neg tr ∧ w.grownBy wr (some g)) (fun mv _ => (- intOf mv).toNat)
  case atStart => exact ⟨m, F, nd, dp, trunc, rfl, by omega, by omega, Lib.hid ⟨by omega, by omega⟩, hN, hDec, World.grownBy.refl w _⟩
  case round =>
    obtain ⟨t, F', n, d, tr, rfl, ht, htb, hd, hN2, hD, hG⟩ := hrel
    have hdb : -100000000 ≤ d ∧ d ≤ 100000000 := by have := hd.out; omega
    by_cases h6 : t < -60
    · have q3 : decide (t < -60) = true := by simp; omega
      have wt : IntKind.i64.wrap (t + 60) = t + 60 := by rw [IntKind.wrap_i64]; omega
      go_wp2_with fail
      refine (rightShift_any wr g F' n d neg tr hD hN2 60 (by omega) (by omega) hdb).mono ?_
      rintro e w1 ⟨rfl, F2, n2, r, tr2, hD2, hN3, hr, _, hG2⟩
      go_wp2_with fail
      exact ⟨⟨t + 60, F2, n2, d - r, tr2, rfl, by omega, by omega, Lib.hid (by have := hd.out; omega), hN3, hD2, grownBy_tr hG hG2⟩, by simp [intOf]; omega⟩
    · have q3 : decide (t < -60) = false := by simp; omega
      obtain ⟨j, hj⟩ : ∃ j : Nat, -t = (j : Int) := ⟨(-t).toNat, by omega⟩
      have wn : IntKind.i64.wrap (-t) = (j : Int) := by rw [IntKind.wrap_i64]; omega
      have wk : IntKind.u64.wrap (j : Int) = (j : Int) := by rw [IntKind.wrap_u64]; omega
      have hj1 : 1 ≤ j := by omega
      have hj6 : j ≤ 60 := by omega
      clear hj
      go_wp2_with fail
      refine (rightShift_any wr g F' n d neg tr hD hN2 j hj1 hj6 hdb).mono ?_
      rintro e w1 ⟨rfl, F2, n2, r, tr2, hD2, hN3, hr, _, hG2⟩
      go_wp2_with fail
      go_end0
      exact ⟨rfl, F2, n2, d - r, tr2, hD2, hN3, by have := hd.out; omega, grownBy_tr hG hG2⟩

/-- It returns, with some truth value; with some word. -/
def IsBool (e : Ending) : Prop := ∃ b, e = .returned (.bool b)
theorem IsBool.mk (b : Bool) : IsBool (.returned (.bool b)) := ⟨b, rfl⟩
def IsWord (e : Ending) : Prop := ∃ n : Nat, n < 18446744073709551616 ∧ e = .returned (.int .u64 (n : Int))

set_option maxRecDepth 100000 in
set_option maxHeartbeats 800000 in
theorem roundUp_any (w : World) (g : Nat) (F : Nat → Nat) (nd : Nat) (dp : Int) (neg trunc : Bool) (hDec : Dec w g F nd dp neg trunc) (hN : Num F nd) (m : Int) (hm : m ≤ 1000000) :
    Calls Tryz.prog 68 #[.pointer (some ⟨g, 0, none⟩), .int .i64 m] w fun e w' => IsBool e ∧ w = w' := by
  have c0 := hDec.cN
  have c3 := hDec.cT
  have hle := hN.le
  by_cases h1 : m < 0
  · have q1 : decide (m < 0) = true := by simp; omega
    go_enter Tryz.func68, Tryz.ntmps68
    go_wp2_with fail
    go_ret
    exact ⟨IsBool.mk _, rfl⟩
  · have q1 : decide (m < 0) = false := by simp; omega
    by_cases h2 : (nd : Int) ≤ m
    · have q2 : decide ((nd : Int) ≤ m) = true := by simp; omega
      go_enter Tryz.func68, Tryz.ntmps68
      go_wp2_with fail
      go_ret
      exact ⟨IsBool.mk _, rfl⟩
    · have q2 : decide ((nd : Int) ≤ m) = false := by simp; omega
      obtain ⟨i, rfl⟩ : ∃ i : Nat, m = (i : Int) := ⟨m.toNat, by omega⟩
      have hi8 : (i : Int) < 800 := by omega
      have ci : w.cell? ⟨g, i, none⟩ = _ := hDec.cell (i := i) (by omega)
      have wi : IntKind.i64.wrap ((i : Int) + 1) = ((i + 1 : Nat) : Int) := by rw [IntKind.wrap_i64]; omega
      obtain ⟨x, hx⟩ : ∃ x, F i = x := ⟨_, rfl⟩
      rw [hx] at ci
      by_cases h3 : x = 53
      · have q3 : ((x : Int) == 53) = true := by simp [h3]
        by_cases h4 : i + 1 = nd
        · have q4 : ((i : Int) + 1 == (nd : Int)) = true := by simp; omega
          cases trunc with
          | true =>
            clear h3 h4 hx
            go_enter Tryz.func68, Tryz.ntmps68
            go_wp2_with fail
            go_ret
            exact ⟨IsBool.mk _, rfl⟩
          | false =>
            by_cases h5 : 0 < i
            · have q5 : decide ((0 : Int) < (i : Int)) = true := by simp; omega
              obtain ⟨p, hp⟩ : ∃ p, i - 1 = p := ⟨_, rfl⟩
              have wp : IntKind.i64.wrap ((i : Int) - 1) = (p : Int) := by rw [IntKind.wrap_i64]; omega
              have cp : w.cell? ⟨g, p, none⟩ = _ := hDec.cell (i := p) (by omega)
              have hp8 : (p : Int) < 800 := by omega
              clear h3 h4 hx hp
              go_enter Tryz.func68, Tryz.ntmps68
              go_wp2_with fail
              go_ret
              exact ⟨IsBool.mk _, rfl⟩
            · have q5 : decide ((0 : Int) < (i : Int)) = false := by simp; omega
              clear h3 h4 hx
              go_enter Tryz.func68, Tryz.ntmps68
              go_wp2_with fail
              go_ret
              exact ⟨IsBool.mk _, rfl⟩
        · have q4 : ((i : Int) + 1 == (nd : Int)) = false := by simp; omega
          clear h3 h4 hx
          go_enter Tryz.func68, Tryz.ntmps68
          go_wp2_with fail
          go_ret
          exact ⟨IsBool.mk _, rfl⟩
      · have q3 : ((x : Int) == 53) = false := by simp; omega
        clear h3 hx
        go_enter Tryz.func68, Tryz.ntmps68
        go_wp2_with fail
        go_ret
        exact ⟨IsBool.mk _, rfl⟩

theorem IsWord.mk {z : Int} (h0 : 0 ≤ z) (h1 : z < 18446744073709551616) : IsWord (.returned (.int .u64 z)) := ⟨z.toNat, by omega, by rw [show ((z.toNat : Nat) : Int) = z by omega]⟩
theorem wrap_word (z : Int) : 0 ≤ IntKind.u64.wrap z ∧ IntKind.u64.wrap z < 18446744073709551616 := by rw [IntKind.wrap_u64]; omega

set_option maxRecDepth 100000 in
set_option maxHeartbeats 1600000 in
theorem rounded_any (w : World) (g : Nat) (F : Nat → Nat) (nd : Nat) (dp : Int) (neg trunc : Bool) (hDec : Dec w g F nd dp neg trunc) (hN : Num F nd) :
    Calls Tryz.prog 102 #[.pointer (some ⟨g, 0, none⟩)] w fun e w' => IsWord e ∧ w = w' := by
  have c0 := hDec.cN
  have c1 := hDec.cP
  have hle := hN.le
  by_cases h1 : 20 < dp
  · have q1 : decide ((20 : Int) < dp) = true := by simp; omega
    go_enter Tryz.func102, Tryz.ntmps102
    go_wp2_with fail
    go_ret
    exact ⟨IsWord.mk (by omega) (by omega), rfl⟩
  · have q1 : decide ((20 : Int) < dp) = false := by simp; omega
    have q1' : ¬ (20 : Int) < dp := h1
    go_enter Tryz.func102, Tryz.ntmps102
    go_upto_block 0 with fail
    go_cut [3, 4] (fun iv nv wx => ∃ (i n : Nat), iv = .int .i64 (i : Int) ∧ nv = .int .u64 (n : Int) ∧ i ≤ 20 ∧ n < 18446744073709551616 ∧ wx = w)
    case first =>
      go_wp2_with fail
      go_loopw [3, 4] (fun iv nv wr => ∃ (i n : Nat), iv = .int .i64 (i : Int) ∧ nv = .int .u64 (n : Int) ∧ i ≤ 20 ∧ n < 18446744073709551616 ∧ wr = w) (fun iv _ _ => 21 - (intOf iv).toNat)
      case atStart => exact ⟨0, 0, rfl, rfl, by omega, by omega, rfl⟩
      case round =>
        obtain ⟨i, n, rfl, rfl, hi, hn, rfl⟩ := hrel
        by_cases h2 : (i : Int) < dp
        · have q2 : decide ((i : Int) < dp) = true := by simp; omega
          by_cases h3 : i < nd
          · have q3 : decide ((i : Int) < (nd : Int)) = true := by simp; omega
            have ci : wr.cell? ⟨g, i, none⟩ = _ := hDec.cell (i := i) (by omega)
            have hi8 : (i : Int) < 800 := by omega
            have hd := hN.dig i h3
            obtain ⟨x, hx⟩ : ∃ x, F i = x := ⟨_, rfl⟩
            rw [hx] at ci hd
            obtain ⟨y, hy⟩ : ∃ y, x - 48 = y := ⟨_, rfl⟩
            have x1 : IntKind.u8.wrap ((x : Int) - 48) = (y : Int) := by rw [IntKind.wrap_u8]; omega
            have x2 : IntKind.u64.wrap (y : Int) = (y : Int) := by rw [IntKind.wrap_u64]; omega
            obtain ⟨p, hp⟩ : ∃ p : Nat, IntKind.u64.wrap ((n : Int) * 10) = (p : Int) := ⟨(IntKind.u64.wrap ((n : Int) * 10)).toNat, by have := wrap_word ((n : Int) * 10); omega⟩
            obtain ⟨q, hq⟩ : ∃ q : Nat, IntKind.u64.wrap ((p : Int) + (y : Int)) = (q : Int) := ⟨(IntKind.u64.wrap ((p : Int) + (y : Int))).toNat, by have := wrap_word ((p : Int) + (y : Int)); omega⟩
            have hq6 : q < 18446744073709551616 := by have := wrap_word ((p : Int) + (y : Int)); omega
            have y1 : IntKind.i64.wrap ((i : Int) + 1) = ((i + 1 : Nat) : Int) := by rw [IntKind.wrap_i64]; omega
            clear hx hy hd
            go_wp2_with fail
            exact ⟨⟨i + 1, q, by go_num, rfl, by omega, hq6, trivial⟩, by simp [intOf]; omega⟩
          · have q3 : decide ((i : Int) < (nd : Int)) = false := by simp; omega
            have q3' : ¬ i < nd := h3
            go_wp2_with fail
            go_meet
            case rel => exact ⟨i, n, rfl, rfl, hi, hn, rfl⟩
        · have q2 : decide ((i : Int) < dp) = false := by simp; omega
          go_wp2_with fail
          go_meet
          case rel => exact ⟨i, n, rfl, rfl, hi, hn, rfl⟩
    case rest =>
      obtain ⟨i, n, rfl, rfl, hi, hn, rfl⟩ := hcut
      go_wp2_with fail
      go_loopw [3, 4] (fun iv nv wr => ∃ (i n : Nat), iv = .int .i64 (i : Int) ∧ nv = .int .u64 (n : Int) ∧ i ≤ 20 ∧ n < 18446744073709551616 ∧ wr = wc) (fun iv _ _ => 21 - (intOf iv).toNat)
      case atStart => exact ⟨i, n, rfl, rfl, hi, hn, rfl⟩
      case round =>
        clear hi hn
        obtain ⟨i, n, rfl, rfl, hi, hn, rfl⟩ := hrel
        by_cases h2 : (i : Int) < dp
        · have q2 : decide ((i : Int) < dp) = true := by simp; omega
          obtain ⟨p, hp⟩ : ∃ p : Nat, IntKind.u64.wrap ((n : Int) * 10) = (p : Int) := ⟨(IntKind.u64.wrap ((n : Int) * 10)).toNat, by have := wrap_word ((n : Int) * 10); omega⟩
          have hp6 : p < 18446744073709551616 := by have := wrap_word ((n : Int) * 10); omega
          have y1 : IntKind.i64.wrap ((i : Int) + 1) = ((i + 1 : Nat) : Int) := by rw [IntKind.wrap_i64]; omega
          go_wp2_with fail
          exact ⟨⟨i + 1, p, by go_num, rfl, by omega, hp6, trivial⟩, by simp [intOf]; omega⟩
        · have q2 : decide ((i : Int) < dp) = false := by simp; omega
          go_wp2_with fail
          refine (roundUp_any wr g F nd dp neg trunc hDec hN dp (by omega)).mono ?_
          rintro e w3 ⟨⟨b, rfl⟩, rfl⟩
          have hw := wrap_word ((n : Int) + 1)
          cases b
          all_goals
            go_wp2_with fail
            go_ret
            exact ⟨IsWord.mk (by omega) (by omega), rfl⟩
end Go.Proofs.YtapkihcgnhofmaaGreatDoor
