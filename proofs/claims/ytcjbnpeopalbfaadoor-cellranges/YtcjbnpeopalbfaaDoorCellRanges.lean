/- The walk of the law CellRanges. -/
import Derived.Test.YtcjbnpeopalbfaaDoorCellN
import Derived.Deep.DeepCutAuto
namespace Go.Proofs.YtcjbnpeopalbfaaDoor
open Go.RowKit
open Go.Op (bytesLess)

theorem begB_short {p q : List UInt8} (h : q.length < p.length) : begB p q = false := by
  unfold begB
  refine decide_eq_false fun e => ?_
  have := congrArg List.length e
  rw [List.length_take] at this
  omega
theorem begB_ext (p q : List UInt8) : (((ByteArray.mk q.toArray).extract 0 p.length).toList == p) = begB p q := by
  rw [extract_take]
  unfold begB
  rw [Bool.eq_iff_iff, beq_iff_eq, decide_eq_true_iff]
  simp

set_option maxRecDepth 100000 in
set_option maxHeartbeats 3200000 in
theorem cellRanges_main (p q a b : List UInt8) (x y : Vl) (w : World) (ht : Lens w) (hp : p.length ≤ maxLen) (hq : q.length ≤ maxLen) (ha : a.length ≤ maxLen) (hb : b.length ≤ maxLen) (hx : x.Ok) (hy : y.Ok) :
    Calls Tryd.prog 7 #[.string ⟨p.toArray⟩, .string ⟨q.toArray⟩, .string ⟨a.toArray⟩, .string ⟨b.toArray⟩, x.val, y.val] w fun e w' => e = .returned (.bool true) ∧ Below w.heap.size w w' := by
  obtain ⟨k, n, t⟩ := x
  obtain ⟨j, m, s⟩ := y
  have HX := Lib.hid hx
  have HY := Lib.hid hy
  have HA := Lib.hid ha
  have HB := Lib.hid hb
  have HP := Lib.hid hp
  have HQ := Lib.hid hq
  clear hx hy ha hb hp hq
  show Calls _ _ #[_, _, _, _, .agg #[.int .i64 k, .int .i64 n, .string ⟨t.toArray⟩], .agg #[.int .i64 j, .int .i64 m, .string ⟨s.toArray⟩]] w _
  obtain ⟨z, hz⟩ : ∃ z, wrap64 (wrap64 (wrap64 (wrap64 (wrap64 (↑p.length + ↑q.length) + ↑a.length) + ↑b.length) + ↑t.length) + ↑s.length) = z := ⟨_, rfl⟩
  have p0 : Pair ((w.alloc (.cells #[.int .i64 k, .int .i64 n, .string ⟨t.toArray⟩] 23)).alloc (.cells #[.int .i64 j, .int .i64 m, .string ⟨s.toArray⟩] 23)) w.heap.size (w.heap.size + 1) ⟨k, n, t⟩ ⟨j, m, s⟩ := Pair.fresh w _ _ _ _ _ _
  have b0 := below_box2 w (.cells #[.int .i64 k, .int .i64 n, .string ⟨t.toArray⟩] 23) (.cells #[.int .i64 j, .int .i64 m, .string ⟨s.toArray⟩] 23)
  by_cases hd : 200 < z
  · have hd' : decide (200 < z) = true := by simp; omega
    go_enter Tryd.func7, Tryd.ntmps7
    go_wp2_with fail
    refine (alive_any _ (ht.below b0)).mono ?_
    rintro e w1 ⟨rfl, b1⟩
    have p1 := p0.below b1
    have hb1 := below_in b0 b1
    clear p0 b0 b1
    obtain ⟨a0, a1, a2, c0, c1, c2⟩ := p1.cells
    go_wp2_with fail
    go_ret
    exact ⟨rfl, hb1⟩
  have hd' : decide (200 < z) = false := by simp; omega
  go_enter Tryd.func7, Tryd.ntmps7
  go_wp2_with fail
  refine (alive_any _ (ht.below b0)).mono ?_
  rintro e w1 ⟨rfl, b1⟩
  have p1 := p0.below b1
  have hb1 := below_in b0 b1
  clear p0 b0 b1
  obtain ⟨a0, a1, a2, c0, c1, c2⟩ := p1.cells
  go_wp2_with fail
  refine (lawGood_any a b [] ⟨k, n, t⟩ ⟨j, m, s⟩ HA.out HB.out (by simp) HX.out HY.out _).mono ?_
  rintro e w2 ⟨rfl, b2⟩
  have p2 := p1.below b2
  have hb2 := below_in hb1 b2
  clear p1 hb1 b2 a0 a1 a2 c0 c1 c2 hz hd hd'
  cases hg : goodB a b [] ⟨k, n, t⟩ ⟨j, m, s⟩ with
  | false =>
    go_wp2_with fail
    go_ret
    exact ⟨rfl, hb2⟩
  | true =>
  obtain ⟨la, lb, lc, gx, gy⟩ := goodB_true hg
  have hpl : p.length ≤ 9223372036854775807 := by have := HP.out; unfold maxLen at this; simpa using this
  have hql : q.length ≤ 9223372036854775807 := by have := HQ.out; unfold maxLen at this; simpa using this
  have A1 := after_is p q
  have l1 : (rowsK a).length ≤ maxLen := by have := nameK_len a; unfold rowsK maxLen; simp; omega
  have A2 := in_rows la la ⟨k, n, t⟩
  have A3 := in_rows la lb ⟨j, m, s⟩
  have A4 : a = b → bytesLess (rowK a ⟨k, n, t⟩) (rowK b ⟨j, m, s⟩) = decide (cmpV ⟨k, n, t⟩ ⟨j, m, s⟩ < 0) := fun e => by rw [← e]; exact rows_less a gx gy HX.out.num HY.out.num
  obtain ⟨z0, hz0⟩ : ∃ z, afterK p = z := ⟨_, rfl⟩
  obtain ⟨lo, hlo⟩ : ∃ z, rowsK a = z := ⟨_, rfl⟩
  rw [hlo] at l1 A2 A3
  obtain ⟨hi, hhi⟩ : ∃ z, afterK lo = z := ⟨_, rfl⟩
  obtain ⟨r1, hr1⟩ : ∃ z, rowK a ⟨k, n, t⟩ = z := ⟨_, rfl⟩
  obtain ⟨r2, hr2⟩ : ∃ z, rowK b ⟨j, m, s⟩ = z := ⟨_, rfl⟩
  rw [hz0] at A1
  have B1 := fun (_ : p.length ≤ q.length) => begB_ext p q
  have B2 := fun (h : q.length < p.length) => begB_short h
  obtain ⟨bg, hbg⟩ : ∃ z, begB p q = z := ⟨_, rfl⟩
  rw [hbg] at A1 B1 B2
  have HB1 := Lib.hid B1
  have HB2 := Lib.hid B2
  rw [hhi, hr1] at A2
  rw [hhi, hr2] at A3
  rw [hr1, hr2] at A4
  have HA1 := Lib.hid A1
  have HA2 := Lib.hid A2
  have HA3 := Lib.hid A3
  have HA4 := Lib.hid A4
  have HL := Lib.hid l1
  have HZ := Lib.hid hz0
  have HLO := Lib.hid hlo
  have HHI := Lib.hid hhi
  have HR1 := Lib.hid hr1
  have HR2 := Lib.hid hr2
  clear A1 A2 A3 A4 B1 B2 hbg l1 hz0 hlo hhi hr1 hr2 hg la lb lc gx gy
  go_wp2_with fail
  refine (after_any p HP.out w2).mono ?_
  rintro e w3 ⟨rfl, b3⟩
  rw [HZ.out]
  have p3 := p2.below b3
  have hb3 := below_in hb2 b3
  clear p2 hb2 b3
  go_upto_region 6 with fail
  go_cut [14] (fun v wx => v = .bool bg ∧ wx = w3)
  case first =>
    by_cases hl : p.length ≤ q.length
    · have hl' : decide ((p.length : Int) ≤ (q.length : Int)) = true := by simp; omega
      have hbe := HB1.out hl
      go_wp2_with fail
      go_meet
      case rel => exact ⟨rfl, rfl⟩
    · have hl' : decide ((p.length : Int) ≤ (q.length : Int)) = false := by simp; omega
      have hbe := HB2.out (by omega)
      go_wp2_with fail
      go_meet
      case rel => exact ⟨by rw [hbe], rfl⟩
  case rest =>
  obtain ⟨rfl, rfl⟩ := hcut
  go_upto_region 7 with fail
  go_cut [88] (fun v wx => v = .bool false ∧ wx = wc)
  case first =>
    obtain ⟨L1, hL1⟩ : ∃ z, bytesLess q p = z := ⟨_, rfl⟩
    obtain ⟨L2, hL2⟩ : ∃ z, bytesLess q z0 = z := ⟨_, rfl⟩
    have hA := HA1.out
    rw [hL1, hL2] at hA
    cases hz : z0.isEmpty with
    | true =>
      rw [if_pos (by simpa using hz)] at hA
      subst hA
      cases L1
      all_goals
        go_wp2_with fail
        go_meet
        case rel => exact ⟨rfl, rfl⟩
    | false =>
      rw [if_neg (by simpa using hz)] at hA
      subst hA
      cases L1
      all_goals
        cases L2
        all_goals
          go_wp2_with fail
          go_meet
          case rel => exact ⟨rfl, rfl⟩
  case rest =>
  obtain ⟨rfl, rfl⟩ := hcut
  go_wp2_with fail
  refine (rows_any a HA.out _ (ht.below hb3)).mono ?_
  rintro e w4 ⟨rfl, b4⟩
  rw [HLO.out]
  have p4 := p3.below b4
  have hb4 := below_in hb3 b4
  clear p3 hb3 b4
  go_wp2_with fail
  refine (after_any lo HL.out w4).mono ?_
  rintro e w5 ⟨rfl, b5⟩
  rw [HHI.out]
  have p5 := p4.below b5
  have hb5 := below_in hb4 b5
  clear p4 hb4 b5
  go_wp2_with fail
  have hD : Below w5.heap.size w5 w5.drew := (Below.refl _ _).drew
  have pD := p5.below hD
  have S0 := pD.cells
  have hbD := below_in hb5 hD
  clear hD
  go_region_held3 (fun w' => w'.cell? ⟨w.heap.size, 0, none⟩ = some (.int .i64 k) ∧ w'.cell? ⟨w.heap.size, 1, none⟩ = some (.int .i64 n) ∧ w'.cell? ⟨w.heap.size, 2, none⟩ = some (.string ⟨t.toArray⟩) ∧ w'.cell? ⟨w.heap.size + 1, 0, none⟩ = some (.int .i64 j) ∧ w'.cell? ⟨w.heap.size + 1, 1, none⟩ = some (.int .i64 m) ∧ w'.cell? ⟨w.heap.size + 1, 2, none⟩ = some (.string ⟨s.toArray⟩))
    (first | exact S0 | exact S1 | exact S2)
    (first
      | (go_at_call_of 11 (Value.string ⟨t.toArray⟩); refine (rrow_any a HA.out ⟨k, n, t⟩ HX.out w5.drew).mono ?_; rintro e w6 ⟨rfl, b6⟩; rw [HR1.out]; have p6 := pD.below b6; have S1 := p6.cells; have hb6 := below_in hbD b6)
      | (go_at_call_of 11 (Value.string ⟨s.toArray⟩); refine (rrow_any b HB.out ⟨j, m, s⟩ HY.out w6).mono ?_; rintro e w7 ⟨rfl, b7⟩; rw [HR2.out]; have p7 := p6.below b7; have S2 := p7.cells; have hb7 := below_in hb6 b7))
  clear S0 S1 S2 p5 pD p6 b6 b7 hb5 hbD hb6
  obtain ⟨M1, hM1⟩ : ∃ z, bytesLess r1 lo = z := ⟨_, rfl⟩
  obtain ⟨M2, hM2⟩ : ∃ z, bytesLess r1 hi = z := ⟨_, rfl⟩
  obtain ⟨M3, hM3⟩ : ∃ z, bytesLess r2 lo = z := ⟨_, rfl⟩
  obtain ⟨M4, hM4⟩ : ∃ z, bytesLess r2 hi = z := ⟨_, rfl⟩
  have A2 := HA2.out
  have A3 := HA3.out
  rw [hM1, hM2] at A2
  rw [hM3, hM4] at A3
  obtain ⟨rfl, rfl⟩ : M1 = false ∧ M2 = true := by
    have : (!M1 && M2) = true := by rw [A2]; simp
    simpa using this
  clear A2
  by_cases hab : a = b
  · have eab : (a == b) = true := by simpa using hab
    have nab : (a != b) = false := by simp [bne, eab]
    rw [decide_eq_true hab] at A3
    obtain ⟨rfl, rfl⟩ : M3 = false ∧ M4 = true := by simpa using A3
    have A4 := HA4.out hab
    have HAB := Lib.hid hab
    clear A3 hab
    obtain ⟨a0, a1, a2, c0, c1, c2⟩ := p7.cells
    go_wp2_with fail
    refine (rcompare_any ⟨k, n, t⟩ ⟨j, m, s⟩ _).mono ?_
    rintro e w8 ⟨rfl, b8⟩
    have hb8 := below_in hb7 b8
    go_wp2_with fail
    go_ret
    exact ⟨ret_b (by simp), hb8⟩
  · have eab : (a == b) = false := by simpa using hab
    have nab : (a != b) = true := by simp [bne, eab]
    rw [decide_eq_false hab] at A3
    clear hab
    cases M3
    all_goals
      cases M4
      all_goals
        first
          | (exfalso; simp at A3; done)
          | (clear A3
             obtain ⟨a0, a1, a2, c0, c1, c2⟩ := p7.cells
             go_wp2_with fail
             go_ret
             exact ⟨rfl, hb7⟩)
end Go.Proofs.YtcjbnpeopalbfaaDoor
