/- The slow decimal road: Shift, shouldRoundUp, RoundedInteger, walked. -/
/- The slow decimal road: floatBits' code, cut; a scope with two labels ahead; its end, walked. -/
import Derived.Test.YtkaeaiagmihmgaaGreatDoorQDcL
import Derived.ScopeJumps
import Derived.WalkMore
namespace Go.Proofs.YtkaeaiagmihmgaaGreatDoor
open Go.RowKit

set_option maxRecDepth 100000 in
set_option maxHeartbeats 800000 in
theorem shift_left (w : World) (B g : Nat) (hT : Cheats w B) (F : Nat → Nat) (nd : Nat) (dp : Int) (neg trunc : Bool) (hDec : Dec w g F nd dp neg trunc) (hN : Num F nd) (k : Nat) (hk1 : 1 ≤ k) (hk : k ≤ 60) (hdp : -100000000 ≤ dp ∧ dp ≤ 100000000) :
    Calls Tryz.prog 68 #[.pointer (some ⟨g, 0, none⟩), .int .i64 k] w fun e w' => e = .returned (.tuple #[]) ∧ ∃ (F' : Nat → Nat) (n del : Nat) (tr : Bool),
      Dec w' g F' n (dp + del) neg tr ∧ Num F' n ∧ del ≤ 20 ∧ (del = 0 → 2 * (F 0 - 48) ≤ F' 0 - 48) ∧ w.grownBy w' (some g) := by
  have c0 := hDec.cN
  have hpos := hN.pos
  have q0 : ((nd : Int) == 0) = false := beq_eq_false_iff_ne.2 (by omega)
  have q1 : decide ((0 : Int) < (k : Int)) = true := by simp; omega
  have q1' : 0 < k := by omega
  have q2 : decide ((60 : Int) < (k : Int)) = false := by simp; omega
  have q2' : ¬ (60 : Int) < (k : Int) := by omega
  have wk : IntKind.u64.wrap (k : Int) = (k : Int) := by rw [IntKind.wrap_u64]; omega
  go_enter Tryz.func68, Tryz.ntmps68
  go_wp2_with fail
  refine wp_loop_rounds 1 ?_
  rw [rounds_succ]
  go_wp2_with fail
  refine (leftShift_any w B g hT F nd dp neg trunc hDec hN k hk1 hk hdp).mono ?_
  rintro e w1 ⟨rfl, h⟩
  go_wp2_with fail
  go_end0
  exact ⟨rfl, h⟩

set_option maxRecDepth 100000 in
set_option maxHeartbeats 800000 in
theorem shift_right (w : World) (g : Nat) (F : Nat → Nat) (nd : Nat) (dp : Int) (neg trunc : Bool) (hDec : Dec w g F nd dp neg trunc) (hN : Num F nd) (k : Nat) (hk1 : 1 ≤ k) (hk : k ≤ 60) (hdp : -100000000 ≤ dp ∧ dp ≤ 100000000) (m : Int) (hm : m = -(k : Int)) :
    Calls Tryz.prog 68 #[.pointer (some ⟨g, 0, none⟩), .int .i64 m] w fun e w' => e = .returned (.tuple #[]) ∧ ∃ (F' : Nat → Nat) (n r : Nat) (tr : Bool),
      Dec w' g F' n (dp - r) neg tr ∧ Num F' n ∧ r ≤ 20 ∧ (r = 0 → 2 ^ k ≤ F 0 - 48 ∧ F' 0 - 48 = (F 0 - 48) / 2 ^ k) ∧ w.grownBy w' (some g) := by
  have c0 := hDec.cN
  have hpos := hN.pos
  have q0 : ((nd : Int) == 0) = false := beq_eq_false_iff_ne.2 (by omega)
  have q1 : decide ((0 : Int) < m) = false := by simp; omega
  have q2 : decide (m < 0) = true := by simp; omega
  have q3 : decide (m < -60) = false := by simp; omega
  have q1' : ¬ (0 : Int) < m := by omega
  have q2' : m < 0 := by omega
  have q3' : ¬ m < -60 := by omega
  have wn : IntKind.i64.wrap (-m) = (k : Int) := by rw [IntKind.wrap_i64]; omega
  have wk : IntKind.u64.wrap (k : Int) = (k : Int) := by rw [IntKind.wrap_u64]; omega
  clear hm
  go_enter Tryz.func68, Tryz.ntmps68
  go_wp2_with fail
  refine wp_loop_rounds 1 ?_
  rw [rounds_succ]
  go_wp2_with fail
  refine (rightShift_any w g F nd dp neg trunc hDec hN k hk1 hk hdp).mono ?_
  rintro e w1 ⟨rfl, h⟩
  go_wp2_with fail
  go_end0
  exact ⟨rfl, h⟩

set_option maxRecDepth 100000 in
set_option maxHeartbeats 800000 in
theorem shift_far (w : World) (g : Nat) (F : Nat → Nat) (nd : Nat) (dp : Int) (neg trunc : Bool) (hDec : Dec w g F nd dp neg trunc) (hN : Num F nd) (k : Nat) (hk1 : 1 ≤ k) (hk : k ≤ 1000000) (hdp : -1000000 ≤ dp ∧ dp ≤ 1000000) (m : Int) (hm : m = -(k : Int)) :
    Calls Tryz.prog 68 #[.pointer (some ⟨g, 0, none⟩), .int .i64 m] w fun e w' => e = .returned (.tuple #[]) ∧ ∃ (F' : Nat → Nat) (n : Nat) (dp' : Int) (tr : Bool),
      Dec w' g F' n dp' neg tr ∧ Num F' n ∧ (-10000000 ≤ dp' ∧ dp' ≤ 10000000) ∧ w.grownBy w' (some g) := by
  have c0 := hDec.cN
  have hpos := hN.pos
  have q0 : ((nd : Int) == 0) = false := beq_eq_false_iff_ne.2 (by omega)
  have q1 : decide ((0 : Int) < m) = false := by simp; omega
  have q2 : decide (m < 0) = true := by simp; omega
  have q1' : ¬ (0 : Int) < m := by omega
  have q2' : m < 0 := by omega
  have hmb : -1000000 ≤ m := by omega
  clear hm hk1 hk
  go_enter Tryz.func68, Tryz.ntmps68
  go_wp2_with fail
  go_loopw [1] (fun mv wr => ∃ (t : Int) (F' : Nat → Nat) (n : Nat) (d : Int) (tr : Bool), mv = .int .i64 t ∧ t < 0 ∧ -1000000 ≤ t ∧ Hid (d ≤ dp ∧ dp + (m - t) ≤ d) ∧ Num F' n ∧ Dec wr g F' n d neg tr ∧ w.grownBy wr (some g)) (fun mv _ => (- intOf mv).toNat)
  case atStart => exact ⟨m, F, nd, dp, trunc, rfl, by omega, by omega, Lib.hid ⟨by omega, by omega⟩, hN, hDec, World.grownBy.refl w _⟩
  case round =>
    obtain ⟨t, F', n, d, tr, rfl, ht, htb, hd, hN2, hD, hG⟩ := hrel
    have hdb : -100000000 ≤ d ∧ d ≤ 100000000 := by have := hd.out; omega
    by_cases h6 : t < -60
    · have q3 : decide (t < -60) = true := by simp; omega
      have wt : IntKind.i64.wrap (t + 60) = t + 60 := by rw [IntKind.wrap_i64]; omega
      go_wp2_with fail
      refine (rightShift_any wr g F' n d neg tr hD hN2 60 (by omega) (by omega) hdb).mono ?_
      rintro e w1 ⟨rfl, F2, n2, r, tr2, hD2, hN3, hr, _, hG2⟩
      go_wp2_with fail
      exact ⟨⟨t + 60, F2, n2, d - r, tr2, rfl, by omega, by omega, Lib.hid (by have := hd.out; omega), hN3, hD2, grownBy_tr hG hG2⟩, by simp [intOf]; omega⟩
    · have q3 : decide (t < -60) = false := by simp; omega
      obtain ⟨j, hj⟩ : ∃ j : Nat, -t = (j : Int) := ⟨(-t).toNat, by omega⟩
      have wn : IntKind.i64.wrap (-t) = (j : Int) := by rw [IntKind.wrap_i64]; omega
      have wk : IntKind.u64.wrap (j : Int) = (j : Int) := by rw [IntKind.wrap_u64]; omega
      have hj1 : 1 ≤ j := by omega
      have hj6 : j ≤ 60 := by omega
      clear hj
      go_wp2_with fail
      refine (rightShift_any wr g F' n d neg tr hD hN2 j hj1 hj6 hdb).mono ?_
      rintro e w1 ⟨rfl, F2, n2, r, tr2, hD2, hN3, hr, _, hG2⟩
      go_wp2_with fail
      go_end0
      exact ⟨rfl, F2, n2, d - r, tr2, hD2, hN3, by have := hd.out; omega, grownBy_tr hG hG2⟩

/-- It returns, with some truth value; with some word. -/
def IsBool (e : Ending) : Prop := ∃ b, e = .returned (.bool b)
theorem IsBool.mk (b : Bool) : IsBool (.returned (.bool b)) := ⟨b, rfl⟩
def IsWord (e : Ending) : Prop := ∃ n : Nat, n < 18446744073709551616 ∧ e = .returned (.int .u64 (n : Int))

set_option maxRecDepth 100000 in
set_option maxHeartbeats 800000 in
theorem roundUp_any (w : World) (g : Nat) (F : Nat → Nat) (nd : Nat) (dp : Int) (neg trunc : Bool) (hDec : Dec w g F nd dp neg trunc) (hN : Num F nd) (m : Int) (hm : m ≤ 1000000) :
    Calls Tryz.prog 102 #[.pointer (some ⟨g, 0, none⟩), .int .i64 m] w fun e w' => IsBool e ∧ w = w' := by
  have c0 := hDec.cN
  have c3 := hDec.cT
  have hle := hN.le
  by_cases h1 : m < 0
  · have q1 : decide (m < 0) = true := by simp; omega
    go_enter Tryz.func102, Tryz.ntmps102
    go_wp2_with fail
    go_ret
    exact ⟨IsBool.mk _, rfl⟩
  · have q1 : decide (m < 0) = false := by simp; omega
    by_cases h2 : (nd : Int) ≤ m
    · have q2 : decide ((nd : Int) ≤ m) = true := by simp; omega
      go_enter Tryz.func102, Tryz.ntmps102
      go_wp2_with fail
      go_ret
      exact ⟨IsBool.mk _, rfl⟩
    · have q2 : decide ((nd : Int) ≤ m) = false := by simp; omega
      obtain ⟨i, rfl⟩ : ∃ i : Nat, m = (i : Int) := ⟨m.toNat, by omega⟩
      have hi8 : (i : Int) < 800 := by omega
      have ci : w.cell? ⟨g, i, none⟩ = _ := hDec.cell (i := i) (by omega)
      have wi : IntKind.i64.wrap ((i : Int) + 1) = ((i + 1 : Nat) : Int) := by rw [IntKind.wrap_i64]; omega
      obtain ⟨x, hx⟩ : ∃ x, F i = x := ⟨_, rfl⟩
      rw [hx] at ci
      by_cases h3 : x = 53
      · have q3 : ((x : Int) == 53) = true := by simp [h3]
        by_cases h4 : i + 1 = nd
        · have q4 : ((i : Int) + 1 == (nd : Int)) = true := by simp; omega
          cases trunc with
          | true =>
            clear h3 h4 hx
            go_enter Tryz.func102, Tryz.ntmps102
            go_wp2_with fail
            go_ret
            exact ⟨IsBool.mk _, rfl⟩
          | false =>
            by_cases h5 : 0 < i
            · have q5 : decide ((0 : Int) < (i : Int)) = true := by simp; omega
              obtain ⟨p, hp⟩ : ∃ p, i - 1 = p := ⟨_, rfl⟩
              have wp : IntKind.i64.wrap ((i : Int) - 1) = (p : Int) := by rw [IntKind.wrap_i64]; omega
              have cp : w.cell? ⟨g, p, none⟩ = _ := hDec.cell (i := p) (by omega)
              have hp8 : (p : Int) < 800 := by omega
              clear h3 h4 hx hp
              go_enter Tryz.func102, Tryz.ntmps102
              go_wp2_with fail
              go_ret
              exact ⟨IsBool.mk _, rfl⟩
            · have q5 : decide ((0 : Int) < (i : Int)) = false := by simp; omega
              clear h3 h4 hx
              go_enter Tryz.func102, Tryz.ntmps102
              go_wp2_with fail
              go_ret
              exact ⟨IsBool.mk _, rfl⟩
        · have q4 : ((i : Int) + 1 == (nd : Int)) = false := by simp; omega
          clear h3 h4 hx
          go_enter Tryz.func102, Tryz.ntmps102
          go_wp2_with fail
          go_ret
          exact ⟨IsBool.mk _, rfl⟩
      · have q3 : ((x : Int) == 53) = false := by simp; omega
        clear h3 hx
        go_enter Tryz.func102, Tryz.ntmps102
        go_wp2_with fail
        go_ret
        exact ⟨IsBool.mk _, rfl⟩

theorem IsWord.mk {z : Int} (h0 : 0 ≤ z) (h1 : z < 18446744073709551616) : IsWord (.returned (.int .u64 z)) := ⟨z.toNat, by omega, by rw [show ((z.toNat : Nat) : Int) = z by omega]⟩
theorem wrap_word (z : Int) : 0 ≤ IntKind.u64.wrap z ∧ IntKind.u64.wrap z < 18446744073709551616 := by rw [IntKind.wrap_u64]; omega

set_option maxRecDepth 100000 in
set_option maxHeartbeats 1600000 in
theorem rounded_any (w : World) (g : Nat) (F : Nat → Nat) (nd : Nat) (dp : Int) (neg trunc : Bool) (hDec : Dec w g F nd dp neg trunc) (hN : Num F nd) :
    Calls Tryz.prog 142 #[.pointer (some ⟨g, 0, none⟩)] w fun e w' => IsWord e ∧ w = w' := by
  have c0 := hDec.cN
  have c1 := hDec.cP
  have hle := hN.le
  by_cases h1 : 20 < dp
  · have q1 : decide ((20 : Int) < dp) = true := by simp; omega
    go_enter Tryz.func142, Tryz.ntmps142
    go_wp2_with fail
    go_ret
    exact ⟨IsWord.mk (by omega) (by omega), rfl⟩
  · have q1 : decide ((20 : Int) < dp) = false := by simp; omega
    have q1' : ¬ (20 : Int) < dp := h1
    go_enter Tryz.func142, Tryz.ntmps142
    go_upto_block 0 with fail
    go_cut [3, 4] (fun iv nv wx => ∃ (i n : Nat), iv = .int .i64 (i : Int) ∧ nv = .int .u64 (n : Int) ∧ i ≤ 20 ∧ n < 18446744073709551616 ∧ wx = w)
    case first =>
      go_wp2_with fail
      go_loopw [3, 4] (fun iv nv wr => ∃ (i n : Nat), iv = .int .i64 (i : Int) ∧ nv = .int .u64 (n : Int) ∧ i ≤ 20 ∧ n < 18446744073709551616 ∧ wr = w) (fun iv _ _ => 21 - (intOf iv).toNat)
      case atStart => exact ⟨0, 0, rfl, rfl, by omega, by omega, rfl⟩
      case round =>
        obtain ⟨i, n, rfl, rfl, hi, hn, rfl⟩ := hrel
        by_cases h2 : (i : Int) < dp
        · have q2 : decide ((i : Int) < dp) = true := by simp; omega
          by_cases h3 : i < nd
          · have q3 : decide ((i : Int) < (nd : Int)) = true := by simp; omega
            have ci : wr.cell? ⟨g, i, none⟩ = _ := hDec.cell (i := i) (by omega)
            have hi8 : (i : Int) < 800 := by omega
            have hd := hN.dig i h3
            obtain ⟨x, hx⟩ : ∃ x, F i = x := ⟨_, rfl⟩
            rw [hx] at ci hd
            obtain ⟨y, hy⟩ : ∃ y, x - 48 = y := ⟨_, rfl⟩
            have x1 : IntKind.u8.wrap ((x : Int) - 48) = (y : Int) := by rw [IntKind.wrap_u8]; omega
            have x2 : IntKind.u64.wrap (y : Int) = (y : Int) := by rw [IntKind.wrap_u64]; omega
            obtain ⟨p, hp⟩ : ∃ p : Nat, IntKind.u64.wrap ((n : Int) * 10) = (p : Int) := ⟨(IntKind.u64.wrap ((n : Int) * 10)).toNat, by have := wrap_word ((n : Int) * 10); omega⟩
            obtain ⟨q, hq⟩ : ∃ q : Nat, IntKind.u64.wrap ((p : Int) + (y : Int)) = (q : Int) := ⟨(IntKind.u64.wrap ((p : Int) + (y : Int))).toNat, by have := wrap_word ((p : Int) + (y : Int)); omega⟩
            have hq6 : q < 18446744073709551616 := by have := wrap_word ((p : Int) + (y : Int)); omega
            have y1 : IntKind.i64.wrap ((i : Int) + 1) = ((i + 1 : Nat) : Int) := by rw [IntKind.wrap_i64]; omega
            clear hx hy hd
            go_wp2_with fail
            exact ⟨⟨i + 1, q, by go_num, rfl, by omega, hq6, trivial⟩, by simp [intOf]; omega⟩
          · have q3 : decide ((i : Int) < (nd : Int)) = false := by simp; omega
            have q3' : ¬ i < nd := h3
            go_wp2_with fail
            go_meet
            case rel => exact ⟨i, n, rfl, rfl, hi, hn, rfl⟩
        · have q2 : decide ((i : Int) < dp) = false := by simp; omega
          go_wp2_with fail
          go_meet
          case rel => exact ⟨i, n, rfl, rfl, hi, hn, rfl⟩
    case rest =>
      obtain ⟨i, n, rfl, rfl, hi, hn, rfl⟩ := hcut
      go_wp2_with fail
      go_loopw [3, 4] (fun iv nv wr => ∃ (i n : Nat), iv = .int .i64 (i : Int) ∧ nv = .int .u64 (n : Int) ∧ i ≤ 20 ∧ n < 18446744073709551616 ∧ wr = wc) (fun iv _ _ => 21 - (intOf iv).toNat)
      case atStart => exact ⟨i, n, rfl, rfl, hi, hn, rfl⟩
      case round =>
        clear hi hn
        obtain ⟨i, n, rfl, rfl, hi, hn, rfl⟩ := hrel
        by_cases h2 : (i : Int) < dp
        · have q2 : decide ((i : Int) < dp) = true := by simp; omega
          obtain ⟨p, hp⟩ : ∃ p : Nat, IntKind.u64.wrap ((n : Int) * 10) = (p : Int) := ⟨(IntKind.u64.wrap ((n : Int) * 10)).toNat, by have := wrap_word ((n : Int) * 10); omega⟩
          have hp6 : p < 18446744073709551616 := by have := wrap_word ((n : Int) * 10); omega
          have y1 : IntKind.i64.wrap ((i : Int) + 1) = ((i + 1 : Nat) : Int) := by rw [IntKind.wrap_i64]; omega
          go_wp2_with fail
          exact ⟨⟨i + 1, p, by go_num, rfl, by omega, hp6, trivial⟩, by simp [intOf]; omega⟩
        · have q2 : decide ((i : Int) < dp) = false := by simp; omega
          go_wp2_with fail
          refine (roundUp_any wr g F nd dp neg trunc hDec hN dp (by omega)).mono ?_
          rintro e w3 ⟨⟨b, rfl⟩, rfl⟩
          have hw := wrap_word ((n : Int) + 1)
          cases b
          all_goals
            go_wp2_with fail
            go_ret
            exact ⟨IsWord.mk (by omega) (by omega), rfl⟩
end Go.Proofs.YtkaeaiagmihmgaaGreatDoor

namespace Go.Proofs.YtkaeaiagmihmgaaGreatDoor
open Go.RowKit

def IsBits (e : Ending) : Prop := ∃ (n : Nat) (b : Bool), n < 18446744073709551616 ∧ e = .returned (.tuple #[.int .u64 (n : Int), .bool b])
theorem IsBits.mk {z : Int} (b : Bool) (h0 : 0 ≤ z) (h1 : z < 18446744073709551616) : IsBits (.returned (.tuple #[.int .u64 z, .bool b])) := ⟨z.toNat, b, by omega, by rw [show ((z.toNat : Nat) : Int) = z by omega]⟩

/-- As Q; by a goto: what J says of its label. -/
def Exit.jumpTo (J : Nat → Act → World → Prop) (Q : Exit → Act → World → Prop) : Exit → Act → World → Prop
  | .goto l, a, w => J l a w
  | e, a, w => Q e a w
/-- A scope that is left by no goto but one to either of two labels, each further on. -/
theorem wp_scope_two {P : Program} {a : Act} {w : World} {Q : Exit → Act → World → Prop} {c r1 r2 : Code} (l1 l2 : Nat) (h1 : findLabel c l1 = some r1) (h2 : findLabel c l2 = some r2)
    (first : c.wp P (Exit.jumpTo (fun l a w => (l = l1 ∧ r1.wp P (Exit.jumpTo (fun l a w => l = l2 ∧ r2.wp P (Exit.noGoto Q) a w) Q) a w) ∨ (l = l2 ∧ r2.wp P (Exit.noGoto Q) a w)) Q) a w) : (Code.scope c).wp P Q a w := by
  intro b k cs
  have g1 : gotoIn l1 (.inScope c :: k) = some (.code r1 :: .inScope c :: k) := by simp [gotoIn, h1]
  have g2 : gotoIn l2 (.inScope c :: k) = some (.code r2 :: .inScope c :: k) := by simp [gotoIn, h2]
  have k2 : ∀ a w, r2.wp P (Exit.noGoto Q) a w → ∃ e a' w', Q e a' w' ∧ Arrives P (lone (b.at a (.code r2 :: .inScope c :: k)) cs w) b k cs e a' w' := by
    intro a w h
    obtain ⟨e, a₁, w₁, hq, harr⟩ := h b (.inScope c :: k) cs
    cases e with
    | normal => exact ⟨.normal, a₁, w₁, hq, Steps.trans harr (.one step_inScope)⟩
    | exit id => exact ⟨.exit id, a₁, w₁, hq, fun k' hk => harr k' (by simp [exitTo, hk])⟩
    | goto l => exact hq.elim
    | ret => exact ⟨_, a₁, w₁, hq, harr⟩
    | panic ch => exact ⟨_, a₁, w₁, hq, harr⟩
    | outgrown => exact ⟨_, a₁, w₁, hq, harr⟩
  have k1 : ∀ a w, r1.wp P (Exit.jumpTo (fun l a w => l = l2 ∧ r2.wp P (Exit.noGoto Q) a w) Q) a w → ∃ e a' w', Q e a' w' ∧ Arrives P (lone (b.at a (.code r1 :: .inScope c :: k)) cs w) b k cs e a' w' := by
    intro a w h
    obtain ⟨e, a₁, w₁, hq, harr⟩ := h b (.inScope c :: k) cs
    cases e with
    | normal => exact ⟨.normal, a₁, w₁, hq, Steps.trans harr (.one step_inScope)⟩
    | exit id => exact ⟨.exit id, a₁, w₁, hq, fun k' hk => harr k' (by simp [exitTo, hk])⟩
    | goto l =>
      obtain ⟨rfl, hJ⟩ := hq
      obtain ⟨e₂, a₂, w₂, hq₂, harr₂⟩ := k2 a₁ w₁ hJ
      exact ⟨e₂, a₂, w₂, hq₂, .of_steps (harr _ g2) harr₂⟩
    | ret => exact ⟨_, a₁, w₁, hq, harr⟩
    | panic ch => exact ⟨_, a₁, w₁, hq, harr⟩
    | outgrown => exact ⟨_, a₁, w₁, hq, harr⟩
  obtain ⟨e, a₁, w₁, hq, harr⟩ := first b (.inScope c :: k) cs
  cases e with
  | normal => exact ⟨.normal, a₁, w₁, hq, .head step_scope (Steps.trans harr (.one step_inScope))⟩
  | exit id => exact ⟨.exit id, a₁, w₁, hq, fun k' hk => .head step_scope (harr k' (by simp [exitTo, hk]))⟩
  | goto l =>
    rcases hq with ⟨rfl, hJ⟩ | ⟨rfl, hJ⟩
    · obtain ⟨e₂, a₂, w₂, hq₂, harr₂⟩ := k1 a₁ w₁ hJ
      exact ⟨e₂, a₂, w₂, hq₂, .of_steps (.head step_scope (harr _ g1)) harr₂⟩
    · obtain ⟨e₂, a₂, w₂, hq₂, harr₂⟩ := k2 a₁ w₁ hJ
      exact ⟨e₂, a₂, w₂, hq₂, .of_steps (.head step_scope (harr _ g2)) harr₂⟩
  | ret => exact ⟨_, a₁, w₁, hq, .of_steps (.one step_scope) harr⟩
  | panic ch => exact ⟨_, a₁, w₁, hq, .of_steps (.one step_scope) harr⟩
  | outgrown => exact ⟨_, a₁, w₁, hq, .of_steps (.one step_scope) harr⟩

theorem results_two {fn : Func} {a b : Tmp} (h : fn.results = #[.tmp a, .tmp b]) (tmps : Array Value) (P : Program) (w : World) :
    (results fn tmps).run P w = .ok (.tuple #[tmps.getD a undef, tmps.getD b undef]) w := by
  simp [results, h]
def tailF : Nat → Code → Code
  | 0, c => c
  | n + 1, .seq _ b => tailF n b
  | _, c => c
def bare : Code → Code
  | .scope c => c
  | c => c
noncomputable def fbCode : Code := bare (tailF 1 ((Tryz.f134.body).getD .skip))
noncomputable def fbOut : Code := tailF 21 fbCode
noncomputable def fbOver : Code := tailF 17 fbCode
theorem fb_out : findLabel fbCode 0 = some (.seq .skip fbOut) := by kernel_rfl
theorem fb_over : findLabel fbCode 1 = some (.seq .skip fbOver) := by kernel_rfl

theorem dx_and_u64 (a b : Int) : ∃ n : Nat, bits .and .u64 a b = n ∧ n < 18446744073709551616 := by
  have : 0 ≤ bits .and .u64 a b ∧ bits .and .u64 a b < 18446744073709551616 := by
    show 0 ≤ IntKind.u64.wrap ((BitVec.ofInt 64 a &&& BitVec.ofInt 64 b).toNat : Int) ∧ IntKind.u64.wrap ((BitVec.ofInt 64 a &&& BitVec.ofInt 64 b).toNat : Int) < _
    exact wrap_word _
  exact ⟨(bits .and .u64 a b).toNat, by omega, by omega⟩
theorem dx_or_u64 (a b : Int) : ∃ n : Nat, bits .or .u64 a b = n ∧ n < 18446744073709551616 := by
  have : 0 ≤ bits .or .u64 a b ∧ bits .or .u64 a b < 18446744073709551616 := by
    show 0 ≤ IntKind.u64.wrap ((BitVec.ofInt 64 a ||| BitVec.ofInt 64 b).toNat : Int) ∧ IntKind.u64.wrap ((BitVec.ofInt 64 a ||| BitVec.ofInt 64 b).toNat : Int) < _
    exact wrap_word _
  exact ⟨(bits .or .u64 a b).toNat, by omega, by omega⟩
theorem dx_and_i64 (a : Int) : ∃ n : Nat, bits .and .i64 a 2047 = n ∧ n < 2048 := by
  have h : (BitVec.ofInt 64 a &&& BitVec.ofInt 64 2047).toNat < 2048 := by
    rw [BitVec.toNat_and]
    exact Nat.and_lt_two_pow (n := 11) _ (by decide)
  refine ⟨_, ?_, h⟩
  show IntKind.i64.wrap ((BitVec.ofInt 64 a &&& BitVec.ofInt 64 2047).toNat : Int) = _
  rw [IntKind.wrap_i64]
  omega
theorem dx_wrap (z : Int) : ∃ n : Nat, IntKind.u64.wrap z = n ∧ n < 18446744073709551616 := ⟨(IntKind.u64.wrap z).toNat, by have := wrap_word z; omega, by have := wrap_word z; omega⟩

/-- The shape of a 64-bit float at block fb. -/
structure Shape (w : World) (fb : Nat) : Prop where
  mant : w.cell? ⟨fb, 0, none⟩ = some (.int .u64 52)
  exp : w.cell? ⟨fb, 1, none⟩ = some (.int .u64 11)
  bias : w.cell? ⟨fb, 2, none⟩ = some (.int .i64 (-1023))
theorem Shape.keep {w w' : World} {fb : Nat} (h : Shape w fb) (k : w'.heap[fb]? = w.heap[fb]?) : Shape w' fb :=
  ⟨(World.cell?_of_block k).trans h.mant, (World.cell?_of_block k).trans h.exp, (World.cell?_of_block k).trans h.bias⟩

set_option maxRecDepth 1000000 in
set_option maxHeartbeats 3200000 in
theorem out_any (g fb : Nat) (ov : Bool) (ex : Int) (hex : -10000000 ≤ ex ∧ ex ≤ 10000000) (mt : Nat) (F : Nat → Nat) (nd : Int) (dp : Int) (neg trunc : Bool) (w : World) (hD : Dec w g F nd dp neg trunc) (hS : Shape w fb) (Q0 : Exit → Act → World → Prop)
    (hR : ∀ (t : Array Value) (n : Nat) (v : Value), (results Tryz.f134 t).run Tryz.prog (w.drewN n) = .ok v (w.drewN n) → IsBits (.returned v) → Q0 .ret ⟨t, []⟩ (w.drewN n)) {c2 c3 c4 c8 c9 c10 c11 c12 c13 c14 c15 c16 c17 c18 c19 c20 c21 c22 c23 c24 c25 c26 c27 c28 c29 c30 c31 c32 c33 c34 c35 c36 c37 c38 c39 c40 c41 c42 c43 c44 c45 c46 c47 c48 c49 c50 c51 c52 c53 c54 c55 c56 c57 c58 c59 c60 c61 c62 c63 c64 c65 c66 c67 c68 c69 c70 c71 c72 c73 c74 c75 c76 c77 c78 c79 c80 c81 c82 c83 c84 c85 c86 c87 c88 c89 c90 c91 c92 c93 c94 c95 c96 c97 c98 c99 c100 c101 c102 c103 c104 c105 c106 c107 c108 c109 c110 c111 c112 c113 c114 c115 c116 c117 c118 c119 c120 c121 c122 c123 c124 c125 c126 c127 c128 c129 c130 c131 c132 c133 c134 c135 c136 c137 c138 c139 c140 c141 c142 c143 c144 c145 c146 c147 c148 c149 c150 c151 c152 c153 c154 c155 c156 c157 c158 c159 c160 c161 c162 c163 c164 c165 c166 c167 c168 c169 c170 c171 c172 c173 c174 c175 c176 c177 c178 c179 c180 c181 c182 c183 c184 c185 c186 c187 c188 c189 c190 c191 c192 c193 c194 c195 c196 c197 c198 c199 c200 c201 c202 c203 c204 c205 c206 c207 c208 c209 c210 c211 c212 c213 c214 c215 c216 c217 c218 c219 c220 c221 c222 c223 c224 c225 c226 c227 c228 c229 c230 c231 c232 c233 c234 c235 c236 c237 c238 c239 c240 c241 c242 : Value} :
    Code.wp Tryz.prog fbOut Q0 ⟨#[.pointer (some ⟨g, 0, none⟩), .pointer (some ⟨fb, 0, none⟩), c2, c3, c4, .bool ov, .int .i64 ex, .int .u64 (mt : Int), c8, c9, c10, c11, c12, c13, c14, c15, c16, c17, c18, c19, c20, c21, c22, c23, c24, c25, c26, c27, c28, c29, c30, c31, c32, c33, c34, c35, c36, c37, c38, c39, c40, c41, c42, c43, c44, c45, c46, c47, c48, c49, c50, c51, c52, c53, c54, c55, c56, c57, c58, c59, c60, c61, c62, c63, c64, c65, c66, c67, c68, c69, c70, c71, c72, c73, c74, c75, c76, c77, c78, c79, c80, c81, c82, c83, c84, c85, c86, c87, c88, c89, c90, c91, c92, c93, c94, c95, c96, c97, c98, c99, c100, c101, c102, c103, c104, c105, c106, c107, c108, c109, c110, c111, c112, c113, c114, c115, c116, c117, c118, c119, c120, c121, c122, c123, c124, c125, c126, c127, c128, c129, c130, c131, c132, c133, c134, c135, c136, c137, c138, c139, c140, c141, c142, c143, c144, c145, c146, c147, c148, c149, c150, c151, c152, c153, c154, c155, c156, c157, c158, c159, c160, c161, c162, c163, c164, c165, c166, c167, c168, c169, c170, c171, c172, c173, c174, c175, c176, c177, c178, c179, c180, c181, c182, c183, c184, c185, c186, c187, c188, c189, c190, c191, c192, c193, c194, c195, c196, c197, c198, c199, c200, c201, c202, c203, c204, c205, c206, c207, c208, c209, c210, c211, c212, c213, c214, c215, c216, c217, c218, c219, c220, c221, c222, c223, c224, c225, c226, c227, c228, c229, c230, c231, c232, c233, c234, c235, c236, c237, c238, c239, c240, c241, c242], []⟩ w := by
  conv => arg 2; whnf
  have s0 := hS.mant
  have s1 := hS.exp
  have s2 := hS.bias
  obtain ⟨n1, e1, b1⟩ := dx_and_u64 (mt : Int) 4503599627370495
  have w1 : IntKind.i64.wrap (ex + 1023) = ex + 1023 := by rw [IntKind.wrap_i64]; omega
  obtain ⟨n2, e2, b2⟩ := dx_and_i64 (ex + 1023)
  have w2 : IntKind.u64.wrap (n2 : Int) = (n2 : Int) := by rw [IntKind.wrap_u64]; omega
  obtain ⟨n3, e3, b3⟩ := dx_wrap ((n2 : Int) * 4503599627370496)
  obtain ⟨n4, e4, b4⟩ := dx_or_u64 (n1 : Int) (n3 : Int)
  obtain ⟨n5, e5, b5⟩ := dx_or_u64 (n4 : Int) 9223372036854775808
  have HR := Lib.hid hR
  clear hR
  go_wp2_with fail
  go_quiet (fail)
  have t0 : (w.drewN nq).cell? ⟨fb, 0, none⟩ = some (.int .u64 52) := s0
  have t1 : (w.drewN nq).cell? ⟨fb, 1, none⟩ = some (.int .u64 11) := s1
  have t2 : (w.drewN nq).cell? ⟨g, 802, none⟩ = some (.bool neg) := hD.cG
  obtain ⟨qa, hqa⟩ : ∃ q, w.drewN nq = w.drewN q := ⟨nq, rfl⟩
  have HA := Lib.hid hqa
  clear hqa s0 s1 s2
  generalize w.drewN nq = w2 at t0 t1 t2 HA ⊢
  cases neg with
  | false =>
    go_wp2_with fail
    rw [HA.out]
    refine HR.out _ _ (.tuple #[.int .u64 (n4 : Int), .bool ov]) ?_ (IsBits.mk _ (by omega) (by omega))
    exact results_two (fn := Tryz.f134) (a := 4) (b := 5) rfl _ _ _
  | true =>
    go_wp2_with fail
    go_quiet (fail)
    have HB : Hid (w2.drewN nq = w.drewN (qa + nq)) := Lib.hid (by rw [HA.out, drewN_add])
    generalize w2.drewN nq = w3 at HB ⊢
    go_wp2_with fail
    rw [HB.out]
    refine HR.out _ _ (.tuple #[.int .u64 (n5 : Int), .bool ov]) ?_ (IsBits.mk _ (by omega) (by omega))
    exact results_two (fn := Tryz.f134) (a := 4) (b := 5) rfl _ _ _

set_option maxRecDepth 1000000 in
set_option maxHeartbeats 3200000 in
theorem over_any (g fb : Nat) (F : Nat → Nat) (nd : Int) (dp : Int) (neg trunc : Bool) (w : World) (hD : Dec w g F nd dp neg trunc) (hS : Shape w fb) (Q0 : Exit → Act → World → Prop)
    (hR : ∀ (t : Array Value) (n : Nat) (v : Value), (results Tryz.f134 t).run Tryz.prog (w.drewN n) = .ok v (w.drewN n) → IsBits (.returned v) → Q0 .ret ⟨t, []⟩ (w.drewN n)) {c2 c3 c4 c5 c6 c7 c8 c9 c10 c11 c12 c13 c14 c15 c16 c17 c18 c19 c20 c21 c22 c23 c24 c25 c26 c27 c28 c29 c30 c31 c32 c33 c34 c35 c36 c37 c38 c39 c40 c41 c42 c43 c44 c45 c46 c47 c48 c49 c50 c51 c52 c53 c54 c55 c56 c57 c58 c59 c60 c61 c62 c63 c64 c65 c66 c67 c68 c69 c70 c71 c72 c73 c74 c75 c76 c77 c78 c79 c80 c81 c82 c83 c84 c85 c86 c87 c88 c89 c90 c91 c92 c93 c94 c95 c96 c97 c98 c99 c100 c101 c102 c103 c104 c105 c106 c107 c108 c109 c110 c111 c112 c113 c114 c115 c116 c117 c118 c119 c120 c121 c122 c123 c124 c125 c126 c127 c128 c129 c130 c131 c132 c133 c134 c135 c136 c137 c138 c139 c140 c141 c142 c143 c144 c145 c146 c147 c148 c149 c150 c151 c152 c153 c154 c155 c156 c157 c158 c159 c160 c161 c162 c163 c164 c165 c166 c167 c168 c169 c170 c171 c172 c173 c174 c175 c176 c177 c178 c179 c180 c181 c182 c183 c184 c185 c186 c187 c188 c189 c190 c191 c192 c193 c194 c195 c196 c197 c198 c199 c200 c201 c202 c203 c204 c205 c206 c207 c208 c209 c210 c211 c212 c213 c214 c215 c216 c217 c218 c219 c220 c221 c222 c223 c224 c225 c226 c227 c228 c229 c230 c231 c232 c233 c234 c235 c236 c237 c238 c239 c240 c241 c242 : Value} :
    Code.wp Tryz.prog fbOver Q0 ⟨#[.pointer (some ⟨g, 0, none⟩), .pointer (some ⟨fb, 0, none⟩), c2, c3, c4, c5, c6, c7, c8, c9, c10, c11, c12, c13, c14, c15, c16, c17, c18, c19, c20, c21, c22, c23, c24, c25, c26, c27, c28, c29, c30, c31, c32, c33, c34, c35, c36, c37, c38, c39, c40, c41, c42, c43, c44, c45, c46, c47, c48, c49, c50, c51, c52, c53, c54, c55, c56, c57, c58, c59, c60, c61, c62, c63, c64, c65, c66, c67, c68, c69, c70, c71, c72, c73, c74, c75, c76, c77, c78, c79, c80, c81, c82, c83, c84, c85, c86, c87, c88, c89, c90, c91, c92, c93, c94, c95, c96, c97, c98, c99, c100, c101, c102, c103, c104, c105, c106, c107, c108, c109, c110, c111, c112, c113, c114, c115, c116, c117, c118, c119, c120, c121, c122, c123, c124, c125, c126, c127, c128, c129, c130, c131, c132, c133, c134, c135, c136, c137, c138, c139, c140, c141, c142, c143, c144, c145, c146, c147, c148, c149, c150, c151, c152, c153, c154, c155, c156, c157, c158, c159, c160, c161, c162, c163, c164, c165, c166, c167, c168, c169, c170, c171, c172, c173, c174, c175, c176, c177, c178, c179, c180, c181, c182, c183, c184, c185, c186, c187, c188, c189, c190, c191, c192, c193, c194, c195, c196, c197, c198, c199, c200, c201, c202, c203, c204, c205, c206, c207, c208, c209, c210, c211, c212, c213, c214, c215, c216, c217, c218, c219, c220, c221, c222, c223, c224, c225, c226, c227, c228, c229, c230, c231, c232, c233, c234, c235, c236, c237, c238, c239, c240, c241, c242], []⟩ w := by
  conv => arg 2; whnf
  have s0 := hS.mant
  have s1 := hS.exp
  have s2 := hS.bias
  have HR := Lib.hid hR
  clear hR
  go_wp2_with fail
  go_quiet (fail)
  have hD2 : Dec (w.drewN nq) g F nd dp neg trunc := hD.keep rfl
  have hS2 : Shape (w.drewN nq) fb := hS.keep rfl
  obtain ⟨qa, hqa⟩ : ∃ q, w.drewN nq = w.drewN q := ⟨nq, rfl⟩
  have HA := Lib.hid hqa
  clear hqa s0 s1 s2
  generalize w.drewN nq = w2 at hD2 hS2 HA ⊢
  go_upto_region 42 with fail
  go_step3
  rename_i KK hKK
  exact hKK _ _ (out_any g fb true 1024 (by omega) 0 F nd dp neg trunc w2 hD2 hS2 Q0 (fun t n v h1 h2 => by rw [HA.out, drewN_add] at h1 ⊢; exact HR.out _ _ _ h1 h2))
end Go.Proofs.YtkaeaiagmihmgaaGreatDoor
