/- The walk of the law CellOne. -/
import Derived.Test.YtcjbnpeopalbfaaDoorCellN
namespace Go.Proofs.YtcjbnpeopalbfaaDoor
open Go.RowKit

theorem dec_beq (a b : List UInt8) : decide (a = b) = (a == b) := by rw [Bool.eq_iff_iff]; simp
theorem dec_and (a b : List UInt8) (v : Vl) : decide (a = b ∧ v = v) = (a == b) := by rw [Bool.eq_iff_iff]; simp
set_option maxRecDepth 100000 in
set_option maxHeartbeats 3200000 in
theorem cellOne_main (a b c : List UInt8) (x y : Vl) (w : World) (ht : Lens w) (ha : a.length ≤ maxLen) (hb : b.length ≤ maxLen) (hc : c.length ≤ maxLen) (hx : x.Ok) (hy : y.Ok) :
    Calls Tryd.prog 8 #[.string ⟨a.toArray⟩, .string ⟨b.toArray⟩, .string ⟨c.toArray⟩, x.val, y.val] w fun e w' => e = .returned (.bool true) ∧ Below w.heap.size w w' := by
  obtain ⟨k, n, t⟩ := x
  obtain ⟨j, m, s⟩ := y
  have HX := Lib.hid hx
  have HY := Lib.hid hy
  have HA := Lib.hid ha
  have HB := Lib.hid hb
  have HC := Lib.hid hc
  clear hx hy ha hb hc
  show Calls _ _ #[_, _, _, .agg #[.int .i64 k, .int .i64 n, .string ⟨t.toArray⟩], .agg #[.int .i64 j, .int .i64 m, .string ⟨s.toArray⟩]] w _
  obtain ⟨z, hz⟩ : ∃ z, wrap64 (wrap64 (wrap64 (wrap64 (↑a.length + ↑b.length) + ↑c.length) + ↑t.length) + ↑s.length) = z := ⟨_, rfl⟩
  have p0 : Pair ((w.alloc (.cells #[.int .i64 k, .int .i64 n, .string ⟨t.toArray⟩] 23)).alloc (.cells #[.int .i64 j, .int .i64 m, .string ⟨s.toArray⟩] 23)) w.heap.size (w.heap.size + 1) ⟨k, n, t⟩ ⟨j, m, s⟩ := Pair.fresh w _ _ _ _ _ _
  have b0 := below_box2 w (.cells #[.int .i64 k, .int .i64 n, .string ⟨t.toArray⟩] 23) (.cells #[.int .i64 j, .int .i64 m, .string ⟨s.toArray⟩] 23)
  by_cases hd : 100 < z
  · have hd' : decide (100 < z) = true := by simp; omega
    go_enter Tryd.func8, Tryd.ntmps8
    go_wp2_with fail
    refine (alive_any _ (ht.below b0)).mono ?_
    rintro e w1 ⟨rfl, b1⟩
    have p1 := p0.below b1
    have hb1 := below_in b0 b1
    clear p0 b0 b1
    obtain ⟨a0, a1, a2, c0, c1, c2⟩ := p1.cells
    go_wp2_with fail
    go_ret
    exact ⟨rfl, hb1⟩
  have hd' : decide (100 < z) = false := by simp; omega
  go_enter Tryd.func8, Tryd.ntmps8
  go_wp2_with fail
  refine (alive_any _ (ht.below b0)).mono ?_
  rintro e w1 ⟨rfl, b1⟩
  have p1 := p0.below b1
  have hb1 := below_in b0 b1
  clear p0 b0 b1
  obtain ⟨a0, a1, a2, c0, c1, c2⟩ := p1.cells
  go_wp2_with fail
  refine (lawGood_any a b c ⟨k, n, t⟩ ⟨j, m, s⟩ HA.out HB.out HC.out HX.out HY.out _).mono ?_
  rintro e w2 ⟨rfl, b2⟩
  have p2 := p1.below b2
  have hb2 := below_in hb1 b2
  clear p1 hb1 b2 a0 a1 a2 c0 c1 c2 hz hd hd'
  cases hg : goodB a b c ⟨k, n, t⟩ ⟨j, m, s⟩ with
  | false =>
    go_wp2_with fail
    go_ret
    exact ⟨rfl, hb2⟩
  | true =>
  obtain ⟨la, lb, lc, gx, gy⟩ := goodB_true hg
  have q1 := Lib.hid (row_inj la lb gx gy HX.out.num HY.out.num)
  have q2 := Lib.hid (uniq_inj la lb lc gx gy HX.out.num HY.out.num)
  have q3 := Lib.hid (ref_inj la lb lc gx gy HX.out.num HY.out.num)
  have q4 := Lib.hid (row_uniq a a b ⟨k, n, t⟩ ⟨k, n, t⟩)
  have q5 := Lib.hid (uniq_ref a b a b c ⟨k, n, t⟩ ⟨k, n, t⟩ ⟨j, m, s⟩)
  have q6 := Lib.hid (row_ref a a b c ⟨k, n, t⟩ ⟨k, n, t⟩ ⟨j, m, s⟩)
  have q7 := Lib.hid (tab_row a a ⟨k, n, t⟩)
  obtain ⟨r1, hr1⟩ : ∃ z, rowK a ⟨k, n, t⟩ = z := ⟨_, rfl⟩
  rw [hr1] at q1 q4 q6 q7
  have Hr1 := Lib.hid hr1
  clear hr1
  obtain ⟨r2, hr2⟩ : ∃ z, rowK b ⟨j, m, s⟩ = z := ⟨_, rfl⟩
  rw [hr2] at q1
  have Hr2 := Lib.hid hr2
  clear hr2
  obtain ⟨u1, hu1⟩ : ∃ z, uniqK a b ⟨k, n, t⟩ = z := ⟨_, rfl⟩
  rw [hu1] at q2 q4 q5
  have Hu1 := Lib.hid hu1
  clear hu1
  obtain ⟨u2, hu2⟩ : ∃ z, uniqK a c ⟨j, m, s⟩ = z := ⟨_, rfl⟩
  rw [hu2] at q2
  have Hu2 := Lib.hid hu2
  clear hu2
  obtain ⟨f1, hf1⟩ : ∃ z, refK a ⟨k, n, t⟩ b c ⟨j, m, s⟩ = z := ⟨_, rfl⟩
  rw [hf1] at q3 q5 q6
  have Hf1 := Lib.hid hf1
  clear hf1
  obtain ⟨f2, hf2⟩ : ∃ z, refK a ⟨k, n, t⟩ c b ⟨j, m, s⟩ = z := ⟨_, rfl⟩
  rw [hf2] at q3
  have Hf2 := Lib.hid hf2
  clear hf2
  obtain ⟨t1, ht1⟩ : ∃ z, tabK a = z := ⟨_, rfl⟩
  rw [ht1] at q7
  have Ht1 := Lib.hid ht1
  clear ht1
  clear hg la lb lc gx gy
  go_wp2_with fail
  have hD2 : Below w2.heap.size w2 w2.drew := (Below.refl _ _).drew
  have pD2 := p2.below hD2
  have S2 := pD2.cells
  have hbD2 := below_in hb2 hD2
  clear hD2
  go_region_held3 (fun w' => w'.cell? ⟨w.heap.size, 0, none⟩ = some (.int .i64 k) ∧ w'.cell? ⟨w.heap.size, 1, none⟩ = some (.int .i64 n) ∧ w'.cell? ⟨w.heap.size, 2, none⟩ = some (.string ⟨t.toArray⟩) ∧ w'.cell? ⟨w.heap.size + 1, 0, none⟩ = some (.int .i64 j) ∧ w'.cell? ⟨w.heap.size + 1, 1, none⟩ = some (.int .i64 m) ∧ w'.cell? ⟨w.heap.size + 1, 2, none⟩ = some (.string ⟨s.toArray⟩))
    (first | exact S2 | exact S3 | exact S4)
    (first
      | (go_at_call_of 10 (Value.string ⟨t.toArray⟩); refine (ofRow_any a HA.out ⟨k, n, t⟩ HX.out w2.drew (ht.below hbD2)).mono ?_; rintro e w3 ⟨rfl, b3⟩; rw [Hr1.out]; have p3 := pD2.below b3; have S3 := p3.cells; have hb3 := below_in hbD2 b3)
      | (go_at_call_of 10 (Value.string ⟨s.toArray⟩); refine (ofRow_any b HB.out ⟨j, m, s⟩ HY.out w3 (ht.below hb3)).mono ?_; rintro e w4 ⟨rfl, b4⟩; rw [Hr2.out]; have p4 := p3.below b4; have S4 := p4.cells; have hb4 := below_in hb3 b4))
  go_wp2_with fail
  have hD5 : Below w4.heap.size w4 w4.drew := (Below.refl _ _).drew
  have pD5 := p4.below hD5
  have S5 := pD5.cells
  have hbD5 := below_in hb4 hD5
  clear hD5
  go_region_held3 (fun w' => w'.cell? ⟨w.heap.size, 0, none⟩ = some (.int .i64 k) ∧ w'.cell? ⟨w.heap.size, 1, none⟩ = some (.int .i64 n) ∧ w'.cell? ⟨w.heap.size, 2, none⟩ = some (.string ⟨t.toArray⟩) ∧ w'.cell? ⟨w.heap.size + 1, 0, none⟩ = some (.int .i64 j) ∧ w'.cell? ⟨w.heap.size + 1, 1, none⟩ = some (.int .i64 m) ∧ w'.cell? ⟨w.heap.size + 1, 2, none⟩ = some (.string ⟨s.toArray⟩))
    (first | exact S5 | exact S6 | exact S7)
    (first
      | (go_at_call_of 12 (Value.string ⟨t.toArray⟩); refine (ofUniq_any a b HA.out HB.out ⟨k, n, t⟩ HX.out w4.drew (ht.below hbD5)).mono ?_; rintro e w6 ⟨rfl, b6⟩; rw [Hu1.out]; have p6 := pD5.below b6; have S6 := p6.cells; have hb6 := below_in hbD5 b6)
      | (go_at_call_of 12 (Value.string ⟨s.toArray⟩); refine (ofUniq_any a c HA.out HC.out ⟨j, m, s⟩ HY.out w6 (ht.below hb6)).mono ?_; rintro e w7 ⟨rfl, b7⟩; rw [Hu2.out]; have p7 := p6.below b7; have S7 := p7.cells; have hb7 := below_in hb6 b7))
  go_wp2_with fail
  have hD8 : Below w7.heap.size w7 w7.drew := (Below.refl _ _).drew
  have pD8 := p7.below hD8
  have S8 := pD8.cells
  have hbD8 := below_in hb7 hD8
  clear hD8
  go_region_held3 (fun w' => w'.cell? ⟨w.heap.size, 0, none⟩ = some (.int .i64 k) ∧ w'.cell? ⟨w.heap.size, 1, none⟩ = some (.int .i64 n) ∧ w'.cell? ⟨w.heap.size, 2, none⟩ = some (.string ⟨t.toArray⟩) ∧ w'.cell? ⟨w.heap.size + 1, 0, none⟩ = some (.int .i64 j) ∧ w'.cell? ⟨w.heap.size + 1, 1, none⟩ = some (.int .i64 m) ∧ w'.cell? ⟨w.heap.size + 1, 2, none⟩ = some (.string ⟨s.toArray⟩))
    (first | exact S8 | exact S9 | exact S10)
    (first
      | (go_at_call 14; refine (ofRef_any a c b HA.out HC.out HB.out ⟨k, n, t⟩ HX.out ⟨j, m, s⟩ HY.out w9 (ht.below hb9)).mono ?_; rintro e w10 ⟨rfl, b10⟩; rw [Hf2.out]; have p10 := p9.below b10; have S10 := p10.cells; have hb10 := below_in hb9 b10)
      | (go_at_call 14; refine (ofRef_any a b c HA.out HB.out HC.out ⟨k, n, t⟩ HX.out ⟨j, m, s⟩ HY.out w7.drew (ht.below hbD8)).mono ?_; rintro e w9 ⟨rfl, b9⟩; rw [Hf1.out]; have p9 := pD8.below b9; have S9 := p9.cells; have hb9 := below_in hbD8 b9))
  clear S2 S3 S4 S5 S6 S7 S8 S9 S10 pD2 pD5 pD8 p2 p3 p4 p6 p7 p9 b3 b4 b6 b7 b9 b10 hb2 hb3 hb4 hb6 hb7 hb9 hbD2 hbD5 hbD8 HX HY HB HC Hr1 Hr2 Hu1 Hu2 Hf1 Hf2
  have q4 := q4.out
  have q5 := q5.out
  have q6 := q6.out
  have q7 := q7.out
  have q4' : (r1 != u1) = true := by simp only [bne, q4]; rfl
  have q5' : (u1 != f1) = true := by simp only [bne, q5]; rfl
  have q6' : (r1 != f1) = true := by simp only [bne, q6]; rfl
  have q7' : (t1 != r1) = true := by simp only [bne, q7]; rfl
  have hcases : (k = j ∧ n = m ∧ t = s) ∨ ((k == j) = false ∧ Hid (¬ Vl.mk k n t = ⟨j, m, s⟩)) ∨ (k = j ∧ (n == m) = false ∧ Hid (¬ Vl.mk k n t = ⟨j, m, s⟩)) ∨ (k = j ∧ n = m ∧ ¬ t = s ∧ Hid (¬ Vl.mk k n t = ⟨j, m, s⟩)) := by
    by_cases h1 : k = j
    · by_cases h2 : n = m
      · by_cases h3 : t = s
        · exact .inl ⟨h1, h2, h3⟩
        · exact .inr (.inr (.inr ⟨h1, h2, h3, Lib.hid fun e => h3 (by injection e)⟩))
      · exact .inr (.inr (.inl ⟨h1, by simpa using h2, Lib.hid fun e => h2 (by injection e)⟩))
    · exact .inr (.inl ⟨by simpa using h1, Lib.hid fun e => h1 (by injection e)⟩)
  rcases hcases with ⟨rfl, rfl, rfl⟩ | ⟨h1, hne⟩ | ⟨rfl, h1, hne⟩ | ⟨rfl, rfl, h1, hne⟩
  · by_cases hab : a = b
    all_goals
      by_cases hbc : b = c
      all_goals
        have e1 : (r1 == r2) = (a == b) := q1.out.trans (dec_and a b _)
        have e2 : (u1 == u2) = (b == c) := q2.out.trans (dec_and b c _)
        have e3 : (f1 == f2) = (b == c) := q3.out.trans (dec_beq b c)
        first | (have eab : (a == b) = true := by simpa using hab) | (have eab : (a == b) = false := by simpa using hab)
        first | (have ebc : (b == c) = true := by simpa using hbc) | (have ebc : (b == c) = false := by simpa using hbc)
        rw [ebc] at e3
        rw [eab] at e1
        rw [ebc] at e2
        clear q1 q2 q3 hab hbc
        as_aux_lemma =>
        obtain ⟨a0, a1, a2, c0, c1, c2⟩ := p10.cells
        go_wp2_with fail
        refine (ofTable_any a HA.out w10 (ht.below hb10)).mono ?_
        rintro e w11 ⟨rfl, b11⟩
        rw [Ht1.out]
        have hb11 := below_in hb10 b11
        go_wp2_with fail
        go_ret
        exact ⟨rfl, hb11⟩
  · by_cases hab : a = b
    all_goals
      by_cases hbc : b = c
      all_goals
        have e1 : (r1 == r2) = false := by rw [q1.out]; exact decide_eq_false fun e => hne.out e.2
        have e2 : (u1 == u2) = false := by rw [q2.out]; exact decide_eq_false fun e => hne.out e.2
        have e3 : (f1 == f2) = (b == c) := q3.out.trans (dec_beq b c)
        first | (have eab : (a == b) = true := by simpa using hab) | (have eab : (a == b) = false := by simpa using hab)
        first | (have ebc : (b == c) = true := by simpa using hbc) | (have ebc : (b == c) = false := by simpa using hbc)
        rw [ebc] at e3
        clear q1 q2 q3 hab hbc
        as_aux_lemma =>
        obtain ⟨a0, a1, a2, c0, c1, c2⟩ := p10.cells
        go_wp2_with fail
        refine (ofTable_any a HA.out w10 (ht.below hb10)).mono ?_
        rintro e w11 ⟨rfl, b11⟩
        rw [Ht1.out]
        have hb11 := below_in hb10 b11
        go_wp2_with fail
        go_ret
        exact ⟨rfl, hb11⟩
  · by_cases hab : a = b
    all_goals
      by_cases hbc : b = c
      all_goals
        have e1 : (r1 == r2) = false := by rw [q1.out]; exact decide_eq_false fun e => hne.out e.2
        have e2 : (u1 == u2) = false := by rw [q2.out]; exact decide_eq_false fun e => hne.out e.2
        have e3 : (f1 == f2) = (b == c) := q3.out.trans (dec_beq b c)
        first | (have eab : (a == b) = true := by simpa using hab) | (have eab : (a == b) = false := by simpa using hab)
        first | (have ebc : (b == c) = true := by simpa using hbc) | (have ebc : (b == c) = false := by simpa using hbc)
        rw [ebc] at e3
        clear q1 q2 q3 hab hbc
        as_aux_lemma =>
        obtain ⟨a0, a1, a2, c0, c1, c2⟩ := p10.cells
        go_wp2_with fail
        refine (ofTable_any a HA.out w10 (ht.below hb10)).mono ?_
        rintro e w11 ⟨rfl, b11⟩
        rw [Ht1.out]
        have hb11 := below_in hb10 b11
        go_wp2_with fail
        go_ret
        exact ⟨rfl, hb11⟩
  · by_cases hab : a = b
    all_goals
      by_cases hbc : b = c
      all_goals
        have e1 : (r1 == r2) = false := by rw [q1.out]; exact decide_eq_false fun e => hne.out e.2
        have e2 : (u1 == u2) = false := by rw [q2.out]; exact decide_eq_false fun e => hne.out e.2
        have e3 : (f1 == f2) = (b == c) := q3.out.trans (dec_beq b c)
        first | (have eab : (a == b) = true := by simpa using hab) | (have eab : (a == b) = false := by simpa using hab)
        first | (have ebc : (b == c) = true := by simpa using hbc) | (have ebc : (b == c) = false := by simpa using hbc)
        rw [ebc] at e3
        clear q1 q2 q3 hab hbc
        as_aux_lemma =>
        obtain ⟨a0, a1, a2, c0, c1, c2⟩ := p10.cells
        go_wp2_with fail
        refine (ofTable_any a HA.out w10 (ht.below hb10)).mono ?_
        rintro e w11 ⟨rfl, b11⟩
        rw [Ht1.out]
        have hb11 := below_in hb10 b11
        go_wp2_with fail
        go_ret
        exact ⟨rfl, hb11⟩
end Go.Proofs.YtcjbnpeopalbfaaDoor
