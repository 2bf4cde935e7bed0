/- The walk of valueOfPair. -/
import Derived.Test.YtfgmhilmjkpeeaaExD
namespace Go.Proofs.Ytfgmhilmjkpeeaa
open Go.RowKit

set_option maxRecDepth 100000 in
set_option maxHeartbeats 6400000 in
theorem pair_any (op : Int) (a b : Vl) (w : World) : Calls Try.prog 41 #[.int .i64 op, a.val, b.val] w fun e w' => EndV (pairV op a b) e ∧ Below w.heap.size w w' := by
  have na := isNull_any a
  have nb := isNull_any b
  have df := decide_any a b false
  have dt := decide_any a b true
  have vc := vcompare_any a b
  obtain ⟨k, n, t⟩ := a
  obtain ⟨j, m, u⟩ := b
  have H : Hid (pairV op ⟨k, n, t⟩ ⟨j, m, u⟩ = if op = 5 then decideV ⟨k, n, t⟩ ⟨j, m, u⟩ false else if op = 6 then decideV ⟨k, n, t⟩ ⟨j, m, u⟩ true else if k = 0 ∨ j = 0 then some nullV else if k ≠ j then none
      else if op = 3 then some (truthV (decide (cmpK ⟨k, n, t⟩ ⟨j, m, u⟩ < 0))) else if op = 4 then some (truthV (decide (cmpK ⟨k, n, t⟩ ⟨j, m, u⟩ = 0))) else if k = 3 then none else if k = 2 then some ⟨2, floatsV op n m, []⟩ else some ⟨1, numbersV op n m, []⟩) := rfl
  obtain ⟨hb, hA, hB, hZ⟩ := box3 w 23 (cs3 k n t) (cs3 j m u) z3
  unfold cs3 z3 at hA hb hZ hB
  show Calls _ _ #[.int .i64 op, .agg #[.int .i64 k, .int .i64 n, .string ⟨t.toArray⟩], .agg #[.int .i64 j, .int .i64 m, .string ⟨u.toArray⟩]] w _
  simp only [Vl.val] at na nb df dt vc
  by_cases h5 : op = 5
  · subst h5
    rw [if_pos rfl] at H
    cases hr : decideV ⟨k, n, t⟩ ⟨j, m, u⟩ false with
    | none =>
      rw [hr] at df H
      clear hr
      go_enter Try.func41, Try.ntmps41
      go_wp2_with fail
      refine (df _).mono ?_
      rintro e w1 ⟨⟨r, hr, rfl⟩, b1⟩
      go_wp2_with fail
      exact ⟨rfl, by rw [H.out]; exact ⟨r, hr, rfl⟩, below_in hb b1⟩
    | some x =>
      rw [hr] at df H
      clear hr
      obtain ⟨x0, x1, x2⟩ := x
      go_enter Try.func41, Try.ntmps41
      go_wp2_with fail
      refine (df _).mono ?_
      rintro e w1 ⟨rfl, b1⟩
      obtain ⟨d0, d1, d2, g0, g1, g2⟩ := (hZ.below b1 hZ.lt).three
      simp only [Vl.val]
      go_wp2_with fail
      refine bodyPost_ret (v := (Vl.mk x0 x1 x2).val) (by simp [results, Try.results41, go_sem, Vl.val, d0, d1, d2]) rfl ⟨by rw [H.out]; rfl, below_set3 (below_in hb b1) (by omega) _ _ _⟩
  rw [if_neg h5] at H
  have h5' : (op == 5) = false := by simpa using h5
  clear df h5
  by_cases h6 : op = 6
  · subst h6
    rw [if_pos rfl] at H
    cases hr : decideV ⟨k, n, t⟩ ⟨j, m, u⟩ true with
    | none =>
      rw [hr] at dt H
      clear hr
      go_enter Try.func41, Try.ntmps41
      go_wp2_with fail
      refine (dt _).mono ?_
      rintro e w1 ⟨⟨r, hr, rfl⟩, b1⟩
      go_wp2_with fail
      exact ⟨rfl, by rw [H.out]; exact ⟨r, hr, rfl⟩, below_in hb b1⟩
    | some x =>
      rw [hr] at dt H
      clear hr
      obtain ⟨x0, x1, x2⟩ := x
      go_enter Try.func41, Try.ntmps41
      go_wp2_with fail
      refine (dt _).mono ?_
      rintro e w1 ⟨rfl, b1⟩
      obtain ⟨d0, d1, d2, g0, g1, g2⟩ := (hZ.below b1 hZ.lt).three
      simp only [Vl.val]
      go_wp2_with fail
      refine bodyPost_ret (v := (Vl.mk x0 x1 x2).val) (by simp [results, Try.results41, go_sem, Vl.val, d0, d1, d2]) rfl ⟨by rw [H.out]; rfl, below_set3 (below_in hb b1) (by omega) _ _ _⟩
  rw [if_neg h6] at H
  have h6' : (op == 6) = false := by simpa using h6
  clear dt h6
  go_enter Try.func41, Try.ntmps41
  go_wp2_with fail
  refine (na _).mono ?_
  rintro e w1 ⟨rfl, b1⟩
  have hb1 := below_in hb b1
  have hA1 := hA.below b1 hA.lt
  have hB1 := hB.below b1 hB.lt
  have hZ1 := hZ.below b1 hZ.lt
  clear hA hB hZ hb b1
  by_cases hk : k = 0
  · have hd : decide (k = 0) = true := by simpa using hk
    rw [if_pos (.inl hk)] at H
    rw [hd]
    clear hk hd vc
    obtain ⟨d0, d1, d2, g0, g1, g2⟩ := hZ1.three
    go_wp2_with fail
    refine bodyPost_ret (v := nullV.val) (by simp [results, Try.results41, go_sem, Vl.val, nullV, d0, d1, d2]) rfl ⟨by rw [H.out]; rfl, below_set3 hb1 (by omega) _ _ _⟩
  have hd : decide (k = 0) = false := by simpa using hk
  rw [hd]
  clear hd
  obtain ⟨c0, c1, c2, f0, f1, f2⟩ := hB1.three
  go_wp2_with fail
  refine (nb _).mono ?_
  rintro e w2 ⟨rfl, b2⟩
  clear c0 c1 c2 f0 f1 f2
  have hb2 := below_in hb1 b2
  have hA2 := hA1.below b2 hA1.lt
  have hB2 := hB1.below b2 hB1.lt
  have hZ2 := hZ1.below b2 hZ1.lt
  clear hA1 hB1 hZ1 hb1 b2
  by_cases hj : j = 0
  · have hd : decide (j = 0) = true := by simpa using hj
    rw [if_pos (.inr hj)] at H
    rw [hd]
    clear hk hj hd vc
    obtain ⟨d0, d1, d2, g0, g1, g2⟩ := hZ2.three
    go_wp2_with fail
    refine bodyPost_ret (v := nullV.val) (by simp [results, Try.results41, go_sem, Vl.val, nullV, d0, d1, d2]) rfl ⟨by rw [H.out]; rfl, below_set3 hb2 (by omega) _ _ _⟩
  have hd : decide (j = 0) = false := by simpa using hj
  rw [if_neg (by omega)] at H
  rw [hd]
  clear hk hj hd
  obtain ⟨c0, c1, c2, -, -, -⟩ := hA2.three
  obtain ⟨d0, d1, d2, -, -, -⟩ := hB2.three
  by_cases hkj : k = j
  case neg =>
    have hkj' : (k == j) = false := by simpa using hkj
    rw [if_pos hkj] at H
    clear hkj vc
    go_wp2_with (go_at_call 31; refine (require_no _ _).mono ?_; rintro e w' ⟨rfl, rfl⟩)
    exact ⟨rfl, by rw [H.out]; exact fails9, hb2⟩
  subst hkj
  rw [if_neg (by simp)] at H
  replace vc := vc rfl
  by_cases h3 : op = 3
  · subst h3
    rw [if_pos rfl] at H
    go_wp2_with (go_at_call 31; refine (require_ok _ _).mono ?_; rintro e w' ⟨rfl, rfl⟩)
    refine (vc _).mono ?_
    rintro e w3 ⟨rfl, b3⟩
    have hb3 := below_in hb2 b3
    have hZ3 := hZ2.below b3 hZ2.lt
    generalize cmpK ⟨k, n, t⟩ ⟨k, m, u⟩ = q at *
    cases hq : decide (q < 0)
    all_goals
      rw [hq] at H
      go_wp2_with fail
      refine (truth_any _ _).mono ?_
      rintro e w4 ⟨rfl, b4⟩
      have hb4 := below_in hb3 b4
      obtain ⟨d0, d1, d2, g0, g1, g2⟩ := (hZ3.below b4 hZ3.lt).three
      simp only [truthV, Vl.val]
      go_wp2_with fail
      refine bodyPost_ret (v := (truthV _).val) (by simp [results, Try.results41, go_sem, Vl.val, truthV, d0, d1, d2]; rfl) rfl ⟨by rw [H.out]; rfl, below_set3 hb4 (by omega) _ _ _⟩
  rw [if_neg h3] at H
  have h3' : (op == 3) = false := by simpa using h3
  clear h3
  by_cases h4 : op = 4
  · subst h4
    rw [if_pos rfl] at H
    go_wp2_with (go_at_call 31; refine (require_ok _ _).mono ?_; rintro e w' ⟨rfl, rfl⟩)
    refine (vc _).mono ?_
    rintro e w3 ⟨rfl, b3⟩
    have hb3 := below_in hb2 b3
    have hZ3 := hZ2.below b3 hZ2.lt
    generalize cmpK ⟨k, n, t⟩ ⟨k, m, u⟩ = q at *
    have hqq : decide (q = 0) = (q == 0) := by rw [Bool.eq_iff_iff]; simp
    rw [hqq] at H
    clear hqq
    cases hq : (q == 0)
    all_goals
      rw [hq] at H
      go_wp2_with fail
      refine (truth_any _ _).mono ?_
      rintro e w4 ⟨rfl, b4⟩
      have hb4 := below_in hb3 b4
      obtain ⟨d0, d1, d2, g0, g1, g2⟩ := (hZ3.below b4 hZ3.lt).three
      simp only [truthV, Vl.val]
      go_wp2_with fail
      refine bodyPost_ret (v := (truthV _).val) (by simp [results, Try.results41, go_sem, Vl.val, truthV, d0, d1, d2]; rfl) rfl ⟨by rw [H.out]; rfl, below_set3 hb4 (by omega) _ _ _⟩
  rw [if_neg h4] at H
  have h4' : (op == 4) = false := by simpa using h4
  clear h4 vc
  by_cases hk3 : k = 3
  · subst hk3
    rw [if_pos rfl] at H
    go_wp2_with fail
    refine (require_ok _ _).mono ?_
    rintro e w' ⟨rfl, rfl⟩
    go_wp2_with fail
    refine (require_no _ _).mono ?_
    rintro e w' ⟨rfl, rfl⟩
    go_wp2_with fail
    exact ⟨rfl, by rw [H.out]; exact fails9, hb2⟩
  rw [if_neg hk3] at H
  have hk3' : (k != 3) = true := by simpa using hk3
  obtain ⟨z0, z1, z2, g0, g1, g2⟩ := hZ2.three
  by_cases hk2 : k = 2
  · subst hk2
    rw [if_pos rfl] at H
    go_wp2_with (go_at_call 31; refine (require_ok _ _).mono ?_; rintro e w' ⟨rfl, rfl⟩)
    refine (floats_any _ _ _ _).mono ?_
    rintro e w3 ⟨rfl, b3⟩
    obtain ⟨z0, z1, z2, g0, g1, g2⟩ := (hZ2.below b3 hZ2.lt).three
    generalize floatsV op n m = q at *
    go_wp2_with fail
    refine bodyPost_ret (v := (Vl.mk 2 q []).val) (by simp [results, Try.results41, go_sem, Vl.val, z0, z1, z2]) rfl ⟨by rw [H.out]; rfl, below_set3 (below_in hb2 b3) (by omega) _ _ _⟩
  · rw [if_neg hk2] at H
    have hk2' : (k == 2) = false := by simpa using hk2
    go_wp2_with (first | (go_at_call 31; refine (require_ok _ _).mono ?_; rintro e w' ⟨rfl, rfl⟩) | (go_at_call 50; refine (numbers_any _ _ _ _).mono ?_; rintro e w' ⟨rfl, rfl⟩))
    generalize numbersV op n m = q at *
    refine (int_any _ _).mono ?_
    rintro e w3 ⟨rfl, b3⟩
    obtain ⟨z0, z1, z2, g0, g1, g2⟩ := (hZ2.below b3 hZ2.lt).three
    simp only [Vl.val]
    go_wp2_with fail
    refine bodyPost_ret (v := (Vl.mk 1 q []).val) (by simp [results, Try.results41, go_sem, Vl.val, z0, z1, z2]) rfl ⟨by rw [H.out]; rfl, below_set3 (below_in hb2 b3) (by omega) _ _ _⟩
end Go.Proofs.Ytfgmhilmjkpeeaa
