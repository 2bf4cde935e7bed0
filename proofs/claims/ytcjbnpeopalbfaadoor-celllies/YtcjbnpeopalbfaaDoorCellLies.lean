/- The walk of the law CellLies. -/
import Derived.Test.YtcjbnpeopalbfaaDoorCellN
namespace Go.Proofs.YtcjbnpeopalbfaaDoor
open Go.RowKit

theorem clamp_is (n : Int) : max (min n 4) 1 = ((clampN n : Nat) : Int) := by
  unfold clampN
  split
  · omega
  split
  · omega
  · omega

set_option maxRecDepth 100000 in
set_option maxHeartbeats 3200000 in
theorem cellLies_main (a b c : List UInt8) (x y : Vl) (nodes : Int) (w : World) (ht : Lens w) (ha : a.length ≤ maxLen) (hb : b.length ≤ maxLen) (hc : c.length ≤ maxLen) (hx : x.Ok) (hy : y.Ok) :
    Calls Tryd.prog 6 #[.string ⟨a.toArray⟩, .string ⟨b.toArray⟩, .string ⟨c.toArray⟩, x.val, y.val, .int .i64 nodes] w fun e w' => e = .returned (.bool true) ∧ Below w.heap.size w w' := by
  obtain ⟨k, n, t⟩ := x
  obtain ⟨j, m, s⟩ := y
  have HX := Lib.hid hx
  have HY := Lib.hid hy
  have HA := Lib.hid ha
  have HB := Lib.hid hb
  have HC := Lib.hid hc
  clear hx hy ha hb hc
  show Calls _ _ #[_, _, _, .agg #[.int .i64 k, .int .i64 n, .string ⟨t.toArray⟩], .agg #[.int .i64 j, .int .i64 m, .string ⟨s.toArray⟩], _] w _
  obtain ⟨z, hz⟩ : ∃ z, wrap64 (wrap64 (wrap64 (wrap64 (↑a.length + ↑b.length) + ↑c.length) + ↑t.length) + ↑s.length) = z := ⟨_, rfl⟩
  have p0 : Pair ((w.alloc (.cells #[.int .i64 k, .int .i64 n, .string ⟨t.toArray⟩] 23)).alloc (.cells #[.int .i64 j, .int .i64 m, .string ⟨s.toArray⟩] 23)) w.heap.size (w.heap.size + 1) ⟨k, n, t⟩ ⟨j, m, s⟩ := Pair.fresh w _ _ _ _ _ _
  have b0 := below_box2 w (.cells #[.int .i64 k, .int .i64 n, .string ⟨t.toArray⟩] 23) (.cells #[.int .i64 j, .int .i64 m, .string ⟨s.toArray⟩] 23)
  by_cases hd : 100 < z
  · have hd' : decide (100 < z) = true := by simp; omega
    go_enter Tryd.func6, Tryd.ntmps6
    go_wp2_with fail
    refine (alive_any _ (ht.below b0)).mono ?_
    rintro e w1 ⟨rfl, b1⟩
    have p1 := p0.below b1
    have hb1 := below_in b0 b1
    clear p0 b0 b1
    obtain ⟨a0, a1, a2, c0, c1, c2⟩ := p1.cells
    go_wp2_with fail
    go_ret
    exact ⟨rfl, hb1⟩
  have hd' : decide (100 < z) = false := by simp; omega
  go_enter Tryd.func6, Tryd.ntmps6
  go_wp2_with fail
  refine (alive_any _ (ht.below b0)).mono ?_
  rintro e w1 ⟨rfl, b1⟩
  have p1 := p0.below b1
  have hb1 := below_in b0 b1
  clear p0 b0 b1
  obtain ⟨a0, a1, a2, c0, c1, c2⟩ := p1.cells
  go_wp2_with fail
  refine (lawGood_any a b c ⟨k, n, t⟩ ⟨j, m, s⟩ HA.out HB.out HC.out HX.out HY.out _).mono ?_
  rintro e w2 ⟨rfl, b2⟩
  have p2 := p1.below b2
  have hb2 := below_in hb1 b2
  clear p1 hb1 b2 a0 a1 a2 c0 c1 c2 hz hd hd'
  cases hg : goodB a b c ⟨k, n, t⟩ ⟨j, m, s⟩ with
  | false =>
    go_wp2_with fail
    go_ret
    exact ⟨rfl, hb2⟩
  | true =>
  obtain ⟨la, lb, lc, gx, gy⟩ := goodB_true hg
  have l1 := rowK_len a ⟨k, n, t⟩
  have l2 := uniqK_len a b ⟨k, n, t⟩
  have l3 := refK_len a ⟨k, n, t⟩ b c ⟨j, m, s⟩
  have q1 : shardK (rowK a ⟨k, n, t⟩) nodes = ((crcOf (rowK a ⟨k, n, t⟩) % clampN nodes : Nat) : Int) := by unfold shardK; rw [home_row la gx HX.out.num]
  have q2 : shardK (uniqK a b ⟨k, n, t⟩) nodes = ((crcOf (uniqK a b ⟨k, n, t⟩) % clampN nodes : Nat) : Int) := by unfold shardK; rw [home_uniq la lb gx HX.out.num]
  have q3 : shardK (refK a ⟨k, n, t⟩ b c ⟨j, m, s⟩) nodes = ((crcOf (rowK a ⟨k, n, t⟩) % clampN nodes : Nat) : Int) := by unfold shardK; rw [home_ref la lb lc gx HX.out.num gy HY.out.num]
  have q4 := clamp_is nodes
  have q5 : crcOf (rowK a ⟨k, n, t⟩) % clampN nodes < clampN nodes := Nat.mod_lt _ (by have := clampN_is nodes; omega)
  obtain ⟨r, hr⟩ : ∃ r, rowK a ⟨k, n, t⟩ = r := ⟨_, rfl⟩
  obtain ⟨u, hu⟩ : ∃ r, uniqK a b ⟨k, n, t⟩ = r := ⟨_, rfl⟩
  obtain ⟨f, hf⟩ : ∃ r, refK a ⟨k, n, t⟩ b c ⟨j, m, s⟩ = r := ⟨_, rfl⟩
  rw [hr] at q1 q3 q5 l1
  rw [hu] at q2 l2
  rw [hf] at q3 l3
  have T1 := Lib.hid fun w' => rshard_any r (by unfold maxLen; omega) nodes w'
  have T2 := Lib.hid fun w' => rshard_any u (by unfold maxLen; omega) nodes w'
  obtain ⟨v, hv⟩ : ∃ v, crcOf r % clampN nodes = v := ⟨_, rfl⟩
  obtain ⟨x, hx⟩ : ∃ v, crcOf u % clampN nodes = v := ⟨_, rfl⟩
  obtain ⟨N, hN⟩ : ∃ v, clampN nodes = v := ⟨_, rfl⟩
  rw [hv] at q1 q3 q5 T1
  rw [hx] at q2 T2
  rw [hN] at q4 q5
  have d1 : decide ((0 : Int) ≤ (v : Int)) = true := by simp
  have d2 : decide ((v : Int) < (N : Int)) = true := by simp; omega
  have HR := Lib.hid hr
  have HU := Lib.hid hu
  have HF := Lib.hid hf
  have Q1 := Lib.hid q1
  have Q2 := Lib.hid q2
  have Q3 := Lib.hid q3
  clear hg la lb lc gx gy hr hu hf hv hx hN q1 q2 q3
  obtain ⟨a0, a1, a2, c0, c1, c2⟩ := p2.cells
  go_wp2_with fail
  refine (rrow_any a HA.out ⟨k, n, t⟩ HX.out w2).mono ?_
  rintro e w3 ⟨rfl, b3⟩
  rw [HR.out]
  have p3 := p2.below b3
  have hb3 := below_in hb2 b3
  clear a0 a1 a2 c0 c1 c2 p2 hb2 b3
  go_wp2_with fail
  refine (shard_any r (by omega) nodes w3 (ht.below hb3)).mono ?_
  rintro e w4 ⟨rfl, b4⟩
  rw [Q1.out]
  have p4 := p3.below b4
  have hb4 := below_in hb3 b4
  clear p3 hb3 b4
  obtain ⟨a0, a1, a2, c0, c1, c2⟩ := p4.cells
  go_wp2_with fail
  refine (runiq_any a b HA.out HB.out ⟨k, n, t⟩ HX.out w4).mono ?_
  rintro e w5 ⟨rfl, b5⟩
  rw [HU.out]
  have p5 := p4.below b5
  have hb5 := below_in hb4 b5
  clear p4 hb4 b5 a0 a1 a2 c0 c1 c2
  obtain ⟨a0, a1, a2, c0, c1, c2⟩ := p5.cells
  go_wp2_with fail
  refine (T1.out _).mono ?_
  rintro e w6 ⟨rfl, rfl⟩
  go_wp2_with fail
  refine (rref_any a b c HA.out HB.out HC.out ⟨k, n, t⟩ HX.out ⟨j, m, s⟩ HY.out w5).mono ?_
  rintro e w6 ⟨rfl, b6⟩
  rw [HF.out]
  have hb6 := below_in hb5 b6
  clear p5 hb5 b6 a0 a1 a2 c0 c1 c2
  go_wp2_with fail
  refine (shard_any f (by omega) nodes w6 (ht.below hb6)).mono ?_
  rintro e w7 ⟨rfl, b7⟩
  rw [Q3.out]
  have hb7 := below_in hb6 b7
  clear hb6 b7
  go_wp2_with fail
  refine (shard_any u (by omega) nodes w7 (ht.below hb7)).mono ?_
  rintro e w8 ⟨rfl, b8⟩
  rw [Q2.out]
  have hb8 := below_in hb7 b8
  clear hb7 b8
  go_wp2_with fail
  refine (T2.out _).mono ?_
  rintro e w9 ⟨rfl, rfl⟩
  go_wp2_with fail
  go_ret
  exact ⟨rfl, hb8⟩
end Go.Proofs.YtcjbnpeopalbfaaDoor
