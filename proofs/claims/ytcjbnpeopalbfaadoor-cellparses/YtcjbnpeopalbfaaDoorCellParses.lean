/- The walk of the law CellParses. -/
import Derived.Test.YtcjbnpeopalbfaaDoorCellN
import Derived.Test.YtcjbnpeopalbfaaDoorCellReads
namespace Go.Proofs.YtcjbnpeopalbfaaDoor
open Go.RowKit

set_option maxRecDepth 100000 in
set_option maxHeartbeats 3200000 in
theorem cellParses_main (a b c : List UInt8) (x y : Vl) (w : World) (ht : Lens w) (ha : a.length ≤ maxLen) (hb : b.length ≤ maxLen) (hc : c.length ≤ maxLen) (hx : x.Ok) (hy : y.Ok) :
    Calls Tryd.prog 4 #[.string ⟨a.toArray⟩, .string ⟨b.toArray⟩, .string ⟨c.toArray⟩, x.val, y.val] w fun e w' => e = .returned (.bool true) ∧ Below w.heap.size w w' := by
  obtain ⟨k, n, t⟩ := x
  obtain ⟨j, m, s⟩ := y
  have HX := Lib.hid hx
  have HY := Lib.hid hy
  have HA := Lib.hid ha
  have HB := Lib.hid hb
  have HC := Lib.hid hc
  clear hx hy ha hb hc
  show Calls _ _ #[_, _, _, .agg #[.int .i64 k, .int .i64 n, .string ⟨t.toArray⟩], .agg #[.int .i64 j, .int .i64 m, .string ⟨s.toArray⟩]] w _
  obtain ⟨z, hz⟩ : ∃ z, wrap64 (wrap64 (wrap64 (wrap64 (↑a.length + ↑b.length) + ↑c.length) + ↑t.length) + ↑s.length) = z := ⟨_, rfl⟩
  have p0 : Pair ((w.alloc (.cells #[.int .i64 k, .int .i64 n, .string ⟨t.toArray⟩] 23)).alloc (.cells #[.int .i64 j, .int .i64 m, .string ⟨s.toArray⟩] 23)) w.heap.size (w.heap.size + 1) ⟨k, n, t⟩ ⟨j, m, s⟩ := Pair.fresh w _ _ _ _ _ _
  have b0 := below_box2 w (.cells #[.int .i64 k, .int .i64 n, .string ⟨t.toArray⟩] 23) (.cells #[.int .i64 j, .int .i64 m, .string ⟨s.toArray⟩] 23)
  by_cases hd : 100 < z
  · have hd' : decide (100 < z) = true := by simp; omega
    go_enter Tryd.func4, Tryd.ntmps4
    go_wp2_with fail
    refine (alive_any _ (ht.below b0)).mono ?_
    rintro e w1 ⟨rfl, b1⟩
    have p1 := p0.below b1
    have hb1 := below_in b0 b1
    clear p0 b0 b1
    obtain ⟨a0, a1, a2, c0, c1, c2⟩ := p1.cells
    go_wp2_with fail
    go_ret
    exact ⟨rfl, hb1⟩
  have hd' : decide (100 < z) = false := by simp; omega
  go_enter Tryd.func4, Tryd.ntmps4
  go_wp2_with fail
  refine (alive_any _ (ht.below b0)).mono ?_
  rintro e w1 ⟨rfl, b1⟩
  have p1 := p0.below b1
  have hb1 := below_in b0 b1
  clear p0 b0 b1
  obtain ⟨a0, a1, a2, c0, c1, c2⟩ := p1.cells
  go_wp2_with fail
  refine (lawGood_any a b c ⟨k, n, t⟩ ⟨j, m, s⟩ HA.out HB.out HC.out HX.out HY.out _).mono ?_
  rintro e w2 ⟨rfl, b2⟩
  have p2 := p1.below b2
  have hb2 := below_in hb1 b2
  clear p1 hb1 b2 a0 a1 a2 c0 c1 c2 hz hd hd'
  cases hg : goodB a b c ⟨k, n, t⟩ ⟨j, m, s⟩ with
  | false =>
    go_wp2_with fail
    go_ret
    exact ⟨rfl, hb2⟩
  | true =>
  obtain ⟨la, lb, lc, gx, gy⟩ := goodB_true hg
  have l0 := rowK_len a ⟨k, n, t⟩
  have q0 := parse_row la gx HX.out.num
  obtain ⟨r0, hr0⟩ : ∃ r, rowK a ⟨k, n, t⟩ = r := ⟨_, rfl⟩
  rw [hr0] at l0 q0
  have HR0 := Lib.hid hr0
  have T0 : Hid (∀ W, Calls Tryd.prog 21 #[.string ⟨r0.toArray⟩] W fun e w' => e = .returned (.tuple #[.agg #[.int .u8 114, .string ⟨a.toArray⟩, .string ⟨#[]⟩, .int .i64 k, .int .i64 n, .string ⟨t.toArray⟩, .string ⟨#[]⟩, .int .i64 0, .int .i64 0, .string ⟨#[]⟩], .int .i64 0]) ∧ Below W.heap.size W w') := Lib.hid fun W => by
    have := parse_any r0 (by omega) W
    rw [q0] at this
    exact this
  clear hr0 l0 q0
  have l1 := uniqK_len a b ⟨k, n, t⟩
  have q1 := parse_uniq la lb gx HX.out.num
  obtain ⟨r1, hr1⟩ : ∃ r, uniqK a b ⟨k, n, t⟩ = r := ⟨_, rfl⟩
  rw [hr1] at l1 q1
  have HR1 := Lib.hid hr1
  have T1 : Hid (∀ W, Calls Tryd.prog 21 #[.string ⟨r1.toArray⟩] W fun e w' => e = .returned (.tuple #[.agg #[.int .u8 117, .string ⟨a.toArray⟩, .string ⟨b.toArray⟩, .int .i64 k, .int .i64 n, .string ⟨t.toArray⟩, .string ⟨#[]⟩, .int .i64 0, .int .i64 0, .string ⟨#[]⟩], .int .i64 0]) ∧ Below W.heap.size W w') := Lib.hid fun W => by
    have := parse_any r1 (by omega) W
    rw [q1] at this
    exact this
  clear hr1 l1 q1
  have l2 := refK_len a ⟨k, n, t⟩ b c ⟨j, m, s⟩
  have q2 := parse_ref la lb lc gx HX.out.num gy HY.out.num
  obtain ⟨r2, hr2⟩ : ∃ r, refK a ⟨k, n, t⟩ b c ⟨j, m, s⟩ = r := ⟨_, rfl⟩
  rw [hr2] at l2 q2
  have HR2 := Lib.hid hr2
  have T2 : Hid (∀ W, Calls Tryd.prog 21 #[.string ⟨r2.toArray⟩] W fun e w' => e = .returned (.tuple #[.agg #[.int .u8 102, .string ⟨a.toArray⟩, .string ⟨c.toArray⟩, .int .i64 k, .int .i64 n, .string ⟨t.toArray⟩, .string ⟨b.toArray⟩, .int .i64 j, .int .i64 m, .string ⟨s.toArray⟩], .int .i64 0]) ∧ Below W.heap.size W w') := Lib.hid fun W => by
    have := parse_any r2 (by omega) W
    rw [q2] at this
    exact this
  clear hr2 l2 q2
  have l3 := tabK_len a
  have q3 := parse_tab la
  obtain ⟨r3, hr3⟩ : ∃ r, tabK a = r := ⟨_, rfl⟩
  rw [hr3] at l3 q3
  have HR3 := Lib.hid hr3
  have T3 : Hid (∀ W, Calls Tryd.prog 21 #[.string ⟨r3.toArray⟩] W fun e w' => e = .returned (.tuple #[.agg #[.int .u8 116, .string ⟨a.toArray⟩, .string ⟨#[]⟩, .int .i64 0, .int .i64 0, .string ⟨#[]⟩, .string ⟨#[]⟩, .int .i64 0, .int .i64 0, .string ⟨#[]⟩], .int .i64 0]) ∧ Below W.heap.size W w') := Lib.hid fun W => by
    have := parse_any r3 (by omega) W
    rw [q3] at this
    exact this
  clear hr3 l3 q3
  clear hg la lb lc gx gy
  obtain ⟨a0, a1, a2, c0, c1, c2⟩ := p2.cells
  go_wp2_with fail
  refine (rrow_any a HA.out ⟨k, n, t⟩ HX.out _).mono ?_
  rintro e w3 ⟨rfl, b3⟩
  rw [HR0.out]
  have p3 := p2.below b3
  have hb3 := below_in hb2 b3
  clear p2 hb2 b3 a0 a1 a2 c0 c1 c2 
  go_wp2_with fail
  refine (T0.out w3).mono ?_
  rintro e w4 ⟨rfl, b4⟩
  have b4' := below_in b4 (below_box w4 (.cells #[.int .u8 114, .string ⟨a.toArray⟩, .string ⟨#[]⟩, .int .i64 k, .int .i64 n, .string ⟨t.toArray⟩, .string ⟨#[]⟩, .int .i64 0, .int .i64 0, .string ⟨#[]⟩] 32))
  have p4 := p3.below b4'
  have hb4 := below_in hb3 b4'
  have x0_4 := At.fresh w4 32 #[.int .u8 114, .string ⟨a.toArray⟩, .string ⟨#[]⟩, .int .i64 k, .int .i64 n, .string ⟨t.toArray⟩, .string ⟨#[]⟩, .int .i64 0, .int .i64 0, .string ⟨#[]⟩]
  clear p3 hb3 b4 b4' 
  obtain ⟨a0, a1, a2, c0, c1, c2⟩ := p4.cells
  go_wp2_with fail
  refine (runiq_any a b HA.out HB.out ⟨k, n, t⟩ HX.out _).mono ?_
  rintro e w5 ⟨rfl, b5⟩
  rw [HR1.out]
  have p5 := p4.below b5
  have hb5 := below_in hb4 b5
  have x0_5 := x0_4.below b5 x0_4.lt
  clear p4 hb4 b5 a0 a1 a2 c0 c1 c2 x0_4
  go_wp2_with fail
  refine (T1.out w5).mono ?_
  rintro e w6 ⟨rfl, b6⟩
  have b6' := below_in b6 (below_box w6 (.cells #[.int .u8 117, .string ⟨a.toArray⟩, .string ⟨b.toArray⟩, .int .i64 k, .int .i64 n, .string ⟨t.toArray⟩, .string ⟨#[]⟩, .int .i64 0, .int .i64 0, .string ⟨#[]⟩] 32))
  have p6 := p5.below b6'
  have hb6 := below_in hb5 b6'
  have x0_6 := x0_5.below b6' x0_5.lt
  have x1_6 := At.fresh w6 32 #[.int .u8 117, .string ⟨a.toArray⟩, .string ⟨b.toArray⟩, .int .i64 k, .int .i64 n, .string ⟨t.toArray⟩, .string ⟨#[]⟩, .int .i64 0, .int .i64 0, .string ⟨#[]⟩]
  clear p5 hb5 b6 b6' x0_5
  obtain ⟨a0, a1, a2, c0, c1, c2⟩ := p6.cells
  go_wp2_with fail
  refine (rref_any a b c HA.out HB.out HC.out ⟨k, n, t⟩ HX.out ⟨j, m, s⟩ HY.out _).mono ?_
  rintro e w7 ⟨rfl, b7⟩
  rw [HR2.out]
  have p7 := p6.below b7
  have hb7 := below_in hb6 b7
  have x0_7 := x0_6.below b7 x0_6.lt
  have x1_7 := x1_6.below b7 x1_6.lt
  clear p6 hb6 b7 a0 a1 a2 c0 c1 c2 x0_6 x1_6
  go_wp2_with fail
  refine (T2.out w7).mono ?_
  rintro e w8 ⟨rfl, b8⟩
  have b8' := below_in b8 (below_box w8 (.cells #[.int .u8 102, .string ⟨a.toArray⟩, .string ⟨c.toArray⟩, .int .i64 k, .int .i64 n, .string ⟨t.toArray⟩, .string ⟨b.toArray⟩, .int .i64 j, .int .i64 m, .string ⟨s.toArray⟩] 32))
  have p8 := p7.below b8'
  have hb8 := below_in hb7 b8'
  have x0_8 := x0_7.below b8' x0_7.lt
  have x1_8 := x1_7.below b8' x1_7.lt
  have x2_8 := At.fresh w8 32 #[.int .u8 102, .string ⟨a.toArray⟩, .string ⟨c.toArray⟩, .int .i64 k, .int .i64 n, .string ⟨t.toArray⟩, .string ⟨b.toArray⟩, .int .i64 j, .int .i64 m, .string ⟨s.toArray⟩]
  clear p7 hb7 b8 b8' x0_7 x1_7
  obtain ⟨a0, a1, a2, c0, c1, c2⟩ := p8.cells
  go_wp2_with fail
  refine (rtable_any a HA.out _).mono ?_
  rintro e w9 ⟨rfl, b9⟩
  rw [HR3.out]
  have p9 := p8.below b9
  have hb9 := below_in hb8 b9
  have x0_9 := x0_8.below b9 x0_8.lt
  have x1_9 := x1_8.below b9 x1_8.lt
  have x2_9 := x2_8.below b9 x2_8.lt
  clear p8 hb8 b9 a0 a1 a2 c0 c1 c2 x0_8 x1_8 x2_8
  go_wp2_with fail
  refine (T3.out w9).mono ?_
  rintro e w10 ⟨rfl, b10⟩
  have b10' := below_in b10 (below_box w10 (.cells #[.int .u8 116, .string ⟨a.toArray⟩, .string ⟨#[]⟩, .int .i64 0, .int .i64 0, .string ⟨#[]⟩, .string ⟨#[]⟩, .int .i64 0, .int .i64 0, .string ⟨#[]⟩] 32))
  have p10 := p9.below b10'
  have hb10 := below_in hb9 b10'
  have x0_10 := x0_9.below b10' x0_9.lt
  have x1_10 := x1_9.below b10' x1_9.lt
  have x2_10 := x2_9.below b10' x2_9.lt
  have x3_10 := At.fresh w10 32 #[.int .u8 116, .string ⟨a.toArray⟩, .string ⟨#[]⟩, .int .i64 0, .int .i64 0, .string ⟨#[]⟩, .string ⟨#[]⟩, .int .i64 0, .int .i64 0, .string ⟨#[]⟩]
  clear p9 hb9 b10 b10' x0_9 x1_9 x2_9
  obtain ⟨a0, a1, a2, c0, c1, c2⟩ := p10.cells
  obtain ⟨d00, d01, d02, d03, d04, d05, d06, d07, d08, d09⟩ := PlAt.cells x0_10
  obtain ⟨d10, d11, d12, d13, d14, d15, d16, d17, d18, d19⟩ := PlAt.cells x1_10
  obtain ⟨d20, d21, d22, d23, d24, d25, d26, d27, d28, d29⟩ := PlAt.cells x2_10
  obtain ⟨d30, d31, d32, d33, d34, d35, d36, d37, d38, d39⟩ := PlAt.cells x3_10
  go_wp2_with fail
  go_ret
  exact ⟨rfl, hb10⟩
end Go.Proofs.YtcjbnpeopalbfaaDoor
