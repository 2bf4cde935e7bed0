/- The walks of not, decide and valueOfPair. -/
import Derived.Test.YtfgmhilmjkpeeaaExC
namespace Go.Proofs.Ytfgmhilmjkpeeaa
open Go.RowKit

set_option maxHeartbeats 1600000 in
theorem not_any (v : Vl) (w : World) : Calls Try.prog 38 #[v.val] w fun e w' => EndV (notV v) e ∧ Below w.heap.size w w' := by
  have hq := reqTruth_any v
  have hn := isNull_any v
  have hi := is_any v false
  obtain ⟨k, n, t⟩ := v
  have H : Hid (notV ⟨k, n, t⟩ = if okTruth ⟨k, n, t⟩ = true then (if k = 0 then some nullV else some (truthV (isV ⟨k, n, t⟩ false))) else none) := rfl
  have hb : Below w.heap.size w ((w.alloc (.cells (cs3 k n t) 23)).alloc (.cells z3 23)) := (below_box w _).alloc (by simp) _
  have hA : At ((w.alloc (.cells (cs3 k n t) 23)).alloc (.cells z3 23)) w.heap.size 23 (cs3 k n t) := (At.fresh w _ _).alloc _
  have hZ : At ((w.alloc (.cells (cs3 k n t) 23)).alloc (.cells z3 23)) (w.heap.size + 1) 23 z3 := by
    have := At.fresh (w.alloc (.cells (cs3 k n t) 23)) 23 z3
    simpa using this
  unfold cs3 z3 at hA hb hZ
  show Calls _ _ #[.agg #[.int .i64 k, .int .i64 n, .string ⟨t.toArray⟩]] w _
  simp only [Vl.val] at hq hn hi
  cases ho : okTruth ⟨k, n, t⟩ with
  | false =>
    rw [ho] at hq H
    clear ho
    go_enter Try.func38, Try.ntmps38
    go_wp2_with fail
    refine (hq _).mono ?_
    rintro e w1 ⟨⟨r, hr, rfl⟩, b1⟩
    go_wp2_with fail
    exact ⟨rfl, by rw [H.out]; exact ⟨r, hr, rfl⟩, below_in hb b1⟩
  | true =>
    rw [ho, if_pos rfl] at H
    rw [ho] at hq
    clear ho
    by_cases hk : k = 0
    · have hd : decide (k = 0) = true := by simpa using hk
      rw [if_pos hk] at H
      simp only [hd] at hn
      clear hk
      go_enter Try.func38, Try.ntmps38
      go_wp2_with fail
      refine (hq _).mono ?_
      rintro e w1 ⟨rfl, b1⟩
      obtain ⟨c0, c1, c2, f0, f1, f2⟩ := (hA.below b1 hA.lt).three
      have hZ1 := hZ.below b1 hZ.lt
      have hb1 := below_in hb b1
      go_wp2_with fail
      refine (hn _).mono ?_
      rintro e w2 ⟨rfl, b2⟩
      have hb2 := below_in hb1 b2
      obtain ⟨d0, d1, d2, g0, g1, g2⟩ := (hZ1.below b2 hZ1.lt).three
      go_wp2_with fail
      refine bodyPost_ret (v := nullV.val) (by simp [results, Try.results38, go_sem, Vl.val, nullV, d0, d1, d2]) rfl ⟨by rw [H.out]; rfl, below_set3 hb2 (by omega) _ _ _⟩
    · have hd : decide (k = 0) = false := by simpa using hk
      rw [if_neg hk] at H
      simp only [hd] at hn
      clear hk
      cases hz : isV ⟨k, n, t⟩ false
      all_goals
        rw [hz] at hi H
        clear hz
        go_enter Try.func38, Try.ntmps38
        go_wp2_with fail
        refine (hq _).mono ?_
        rintro e w1 ⟨rfl, b1⟩
        have hA1 := hA.below b1 hA.lt
        obtain ⟨c0, c1, c2, f0, f1, f2⟩ := hA1.three
        have hZ1 := hZ.below b1 hZ.lt
        have hb1 := below_in hb b1
        go_wp2_with fail
        refine (hn _).mono ?_
        rintro e w2 ⟨rfl, b2⟩
        have hb2 := below_in hb1 b2
        have hZ2 := hZ1.below b2 hZ1.lt
        obtain ⟨c0, c1, c2, f0, f1, f2⟩ := (hA1.below b2 hA1.lt).three
        go_wp2_with fail
        refine (hi _).mono ?_
        rintro e w3 ⟨rfl, b3⟩
        have hb3 := below_in hb2 b3
        have hZ3 := hZ2.below b3 hZ2.lt
        go_wp2_with fail
        refine (truth_any _ _).mono ?_
        rintro e w4 ⟨rfl, b4⟩
        have hb4 := below_in hb3 b4
        obtain ⟨d0, d1, d2, g0, g1, g2⟩ := (hZ3.below b4 hZ3.lt).three
        simp only [truthV, Vl.val]
        go_wp2_with fail
        refine bodyPost_ret (v := (truthV _).val) (by simp [results, Try.results38, go_sem, Vl.val, truthV, d0, d1, d2]; rfl) rfl ⟨by rw [H.out]; rfl, below_set3 hb4 (by omega) _ _ _⟩
/-- Three new variables. -/
theorem box3 (w : World) (t : TypeId) (x y z : Array Value) : Below w.heap.size w (((w.alloc (.cells x t)).alloc (.cells y t)).alloc (.cells z t)) ∧
    At (((w.alloc (.cells x t)).alloc (.cells y t)).alloc (.cells z t)) w.heap.size t x ∧ At (((w.alloc (.cells x t)).alloc (.cells y t)).alloc (.cells z t)) (w.heap.size + 1) t y ∧
    At (((w.alloc (.cells x t)).alloc (.cells y t)).alloc (.cells z t)) (w.heap.size + 2) t z := by
  refine ⟨((below_box w _).alloc (by simp) _).alloc (by simp; omega) _, ((At.fresh w t x).alloc _).alloc _, ?_, ?_⟩
  · have := (At.fresh (w.alloc (.cells x t)) t y).alloc (.cells z t)
    simpa using this
  · have := At.fresh ((w.alloc (.cells x t)).alloc (.cells y t)) t z
    simpa using this

set_option maxHeartbeats 3200000 in
theorem decide_any (a b : Vl) (s : Bool) (w : World) : Calls Try.prog 47 #[a.val, b.val, .bool s] w fun e w' => EndV (decideV a b s) e ∧ Below w.heap.size w w' := by
  have qa := reqTruth_any a
  have qb := reqTruth_any b
  have na := isNull_any a
  have nb := isNull_any b
  have ia := is_any a s
  have ib := is_any b s
  obtain ⟨k, n, t⟩ := a
  obtain ⟨j, m, u⟩ := b
  have H : Hid (decideV ⟨k, n, t⟩ ⟨j, m, u⟩ s = if okTruth ⟨k, n, t⟩ = false then none else if okTruth ⟨j, m, u⟩ = false then none else if (isV ⟨k, n, t⟩ s || isV ⟨j, m, u⟩ s) = true then some (truthV s) else if k = 0 ∨ j = 0 then some nullV else some (truthV (!s))) := rfl
  obtain ⟨hb, hA, hB, hZ⟩ := box3 w 23 (cs3 k n t) (cs3 j m u) z3
  unfold cs3 z3 at hA hb hZ hB
  show Calls _ _ #[.agg #[.int .i64 k, .int .i64 n, .string ⟨t.toArray⟩], .agg #[.int .i64 j, .int .i64 m, .string ⟨u.toArray⟩], .bool s] w _
  simp only [Vl.val] at qa qb na nb ia ib
  cases ho : okTruth ⟨k, n, t⟩ with
  | false =>
    rw [ho, if_pos rfl] at H
    rw [ho] at qa
    clear ho
    go_enter Try.func47, Try.ntmps47
    go_wp2_with fail
    refine (qa _).mono ?_
    rintro e w1 ⟨⟨r, hr, rfl⟩, b1⟩
    go_wp2_with fail
    exact ⟨rfl, by rw [H.out]; exact ⟨r, hr, rfl⟩, below_in hb b1⟩
  | true =>
  rw [ho, if_neg (by simp)] at H
  rw [ho] at qa
  clear ho
  cases ho : okTruth ⟨j, m, u⟩ with
  | false =>
    rw [ho, if_pos rfl] at H
    rw [ho] at qb
    clear ho
    go_enter Try.func47, Try.ntmps47
    go_wp2_with fail
    refine (qa _).mono ?_
    rintro e w1 ⟨rfl, b1⟩
    have hb1 := below_in hb b1
    obtain ⟨c0, c1, c2, f0, f1, f2⟩ := (hB.below b1 hB.lt).three
    go_wp2_with fail
    refine (qb _).mono ?_
    rintro e w2 ⟨⟨r, hr, rfl⟩, b2⟩
    go_wp2_with fail
    exact ⟨rfl, by rw [H.out]; exact ⟨r, hr, rfl⟩, below_in hb1 b2⟩
  | true =>
  rw [ho, if_neg (by simp)] at H
  rw [ho] at qb
  clear ho
  go_enter Try.func47, Try.ntmps47
  go_wp2_with fail
  refine (qa _).mono ?_
  rintro e w1 ⟨rfl, b1⟩
  have hb1 := below_in hb b1
  have hA1 := hA.below b1 hA.lt
  have hB1 := hB.below b1 hB.lt
  have hZ1 := hZ.below b1 hZ.lt
  clear hA hB hZ hb b1
  obtain ⟨c0, c1, c2, f0, f1, f2⟩ := hB1.three
  go_wp2_with fail
  refine (qb _).mono ?_
  rintro e w2 ⟨rfl, b2⟩
  clear c0 c1 c2 f0 f1 f2
  have hb2 := below_in hb1 b2
  have hA2 := hA1.below b2 hA1.lt
  have hB2 := hB1.below b2 hB1.lt
  have hZ2 := hZ1.below b2 hZ1.lt
  clear hA1 hB1 hZ1 hb1 b2
  obtain ⟨c0, c1, c2, f0, f1, f2⟩ := hA2.three
  go_wp2_with fail
  refine (ia _).mono ?_
  rintro e w3 ⟨rfl, b3⟩
  clear c0 c1 c2 f0 f1 f2
  have hb3 := below_in hb2 b3
  have hA3 := hA2.below b3 hA2.lt
  have hB3 := hB2.below b3 hB2.lt
  have hZ3 := hZ2.below b3 hZ2.lt
  clear hA2 hB2 hZ2 hb2 b3
  cases hz : isV ⟨k, n, t⟩ s with
  | true =>
    rw [hz, Bool.true_or, if_pos rfl] at H
    clear hz
    cases s
    all_goals
      go_wp2_with fail
      refine (truth_any _ _).mono ?_
      rintro e w4 ⟨rfl, b4⟩
      have hb4 := below_in hb3 b4
      obtain ⟨d0, d1, d2, g0, g1, g2⟩ := (hZ3.below b4 hZ3.lt).three
      simp only [truthV, Vl.val]
      go_wp2_with fail
      refine bodyPost_ret (v := (truthV _).val) (by simp [results, Try.results47, go_sem, Vl.val, truthV, d0, d1, d2]; rfl) rfl ⟨by rw [H.out]; rfl, below_set3 hb4 (by omega) _ _ _⟩
  | false =>
  rw [hz, Bool.false_or] at H
  clear hz
  obtain ⟨c0, c1, c2, f0, f1, f2⟩ := hB3.three
  go_wp2_with fail
  refine (ib _).mono ?_
  rintro e w4 ⟨rfl, b4⟩
  clear c0 c1 c2 f0 f1 f2
  have hb4 := below_in hb3 b4
  have hA4 := hA3.below b4 hA3.lt
  have hB4 := hB3.below b4 hB3.lt
  have hZ4 := hZ3.below b4 hZ3.lt
  clear hA3 hB3 hZ3 hb3 b4
  cases hz : isV ⟨j, m, u⟩ s with
  | true =>
    rw [hz, if_pos rfl] at H
    clear hz
    cases s
    all_goals
      go_wp2_with fail
      refine (truth_any _ _).mono ?_
      rintro e w5 ⟨rfl, b5⟩
      have hb5 := below_in hb4 b5
      obtain ⟨d0, d1, d2, g0, g1, g2⟩ := (hZ4.below b5 hZ4.lt).three
      simp only [truthV, Vl.val]
      go_wp2_with fail
      refine bodyPost_ret (v := (truthV _).val) (by simp [results, Try.results47, go_sem, Vl.val, truthV, d0, d1, d2]; rfl) rfl ⟨by rw [H.out]; rfl, below_set3 hb5 (by omega) _ _ _⟩
  | false =>
  rw [hz, if_neg (by simp)] at H
  clear hz
  obtain ⟨c0, c1, c2, f0, f1, f2⟩ := hA4.three
  go_wp2_with fail
  refine (na _).mono ?_
  rintro e w5 ⟨rfl, b5⟩
  clear c0 c1 c2 f0 f1 f2
  have hb5 := below_in hb4 b5
  have hB5 := hB4.below b5 hB4.lt
  have hZ5 := hZ4.below b5 hZ4.lt
  clear hA4 hB4 hZ4 hb4 b5
  by_cases hk : k = 0
  · have hd : decide (k = 0) = true := by simpa using hk
    rw [if_pos (.inl hk)] at H
    rw [hd]
    clear hk hd
    obtain ⟨d0, d1, d2, g0, g1, g2⟩ := hZ5.three
    go_wp2_with fail
    refine bodyPost_ret (v := nullV.val) (by simp [results, Try.results47, go_sem, Vl.val, nullV, d0, d1, d2]) rfl ⟨by rw [H.out]; rfl, below_set3 hb5 (by omega) _ _ _⟩
  have hd : decide (k = 0) = false := by simpa using hk
  rw [hd]
  clear hd
  obtain ⟨c0, c1, c2, f0, f1, f2⟩ := hB5.three
  go_wp2_with fail
  refine (nb _).mono ?_
  rintro e w6 ⟨rfl, b6⟩
  clear c0 c1 c2 f0 f1 f2
  have hb6 := below_in hb5 b6
  have hZ6 := hZ5.below b6 hZ5.lt
  clear hB5 hZ5 hb5 b6
  by_cases hj : j = 0
  · have hd : decide (j = 0) = true := by simpa using hj
    rw [if_pos (.inr hj)] at H
    rw [hd]
    clear hk hj hd
    obtain ⟨d0, d1, d2, g0, g1, g2⟩ := hZ6.three
    go_wp2_with fail
    refine bodyPost_ret (v := nullV.val) (by simp [results, Try.results47, go_sem, Vl.val, nullV, d0, d1, d2]) rfl ⟨by rw [H.out]; rfl, below_set3 hb6 (by omega) _ _ _⟩
  have hd : decide (j = 0) = false := by simpa using hj
  rw [if_neg (by omega)] at H
  rw [hd]
  clear hk hj hd
  cases s
  all_goals
    go_wp2_with fail
    refine (truth_any _ _).mono ?_
    rintro e w7 ⟨rfl, b7⟩
    have hb7 := below_in hb6 b7
    obtain ⟨d0, d1, d2, g0, g1, g2⟩ := (hZ6.below b7 hZ6.lt).three
    simp only [truthV, Vl.val]
    go_wp2_with fail
    refine bodyPost_ret (v := (truthV _).val) (by simp [results, Try.results47, go_sem, Vl.val, truthV, d0, d1, d2]; rfl) rfl ⟨by rw [H.out]; rfl, below_set3 hb7 (by omega) _ _ _⟩
end Go.Proofs.Ytfgmhilmjkpeeaa
