/- The walk of the law ValueWords. -/
import Derived.Test.YtkaeaiagmihmgaaGreatDoorQVwB
import Derived.Test.YtkaeaiagmihmgaaGreatDoorQValE
namespace Go.Proofs.YtkaeaiagmihmgaaGreatDoor
open Go.RowKit Go.Sort

set_option maxRecDepth 100000 in
set_option maxHeartbeats 3200000 in
theorem valueWords_main (v : Vl) (s : List UInt8) (w : World) (hW : WordsM w) (hv : v.Ok) (hs : s.length ≤ maxLen) :
    Calls Tryz.prog 3 #[v.val, .string ⟨s.toArray⟩] w fun e w' => e = .returned (.bool true) ∧ Below w.heap.size w w' := by
  unfold maxLen at hs
  obtain ⟨k, n, t⟩ := v
  have HV := Lib.hid hv
  clear hv
  show Calls _ _ #[.agg #[.int .i64 k, .int .i64 n, .string ⟨t.toArray⟩], .string ⟨s.toArray⟩] w _
  have b0 := below_box w (.cells #[.int .i64 k, .int .i64 n, .string ⟨t.toArray⟩] 23)
  go_enter Tryz.func3, Tryz.ntmps3
  go_wp2_with fail
  refine (alive_any _ (hW.below b0).tb).mono ?_
  rintro e w1 ⟨rfl, b1⟩
  obtain ⟨hA1, hb1⟩ := boxed k n t b1
  have c0 : w1.cell? ⟨w.heap.size, 0, none⟩ = some (.int .i64 k) := At.cell hA1 0
  have c1 : w1.cell? ⟨w.heap.size, 1, none⟩ = some (.int .i64 n) := At.cell hA1 1
  have c2 : w1.cell? ⟨w.heap.size, 2, none⟩ = some (.string ⟨t.toArray⟩) := At.cell hA1 2
  go_wp2_with fail
  refine (great_any _ _ _ _ _ (Vals.one w1 ⟨k, n, t⟩) (by intro v hv; simp at hv; subst hv; exact HV.out) (by unfold maxLen; omega)).mono ?_
  rintro e w2 ⟨rfl, b2⟩
  have b2' := below_in (below_box w1 _) b2
  have hA2 := hA1.below b2' hA1.lt
  have hb2 := below_in hb1 b2'
  clear b0 b1 b2 b2' c0 c1 c2 hA1 hb1
  cases hgr : greatB [⟨k, n, t⟩] with
  | true =>
    go_wp2_with fail
    go_ret
    exact ⟨rfl, hb2⟩
  | false =>
  have hsm := (small_of hgr).2 ⟨k, n, t⟩ (by simp)
  simp only at hsm
  clear hgr
  by_cases h200 : 200 < s.length
  · have h200' : decide ((200 : Int) < (s.length : Int)) = true := by simp; omega
    go_wp2_with fail
    go_ret
    exact ⟨rfl, hb2⟩
  have h200' : decide ((200 : Int) < (s.length : Int)) = false := by simp; omega
  have c0 : w2.cell? ⟨w.heap.size, 0, none⟩ = some (.int .i64 k) := At.cell hA2 0
  have c1 : w2.cell? ⟨w.heap.size, 1, none⟩ = some (.int .i64 n) := At.cell hA2 1
  have c2 : w2.cell? ⟨w.heap.size, 2, none⟩ = some (.string ⟨t.toArray⟩) := At.cell hA2 2
  go_wp2_with fail
  refine (vshow_any ⟨k, n, t⟩ HV.out hsm _ (hW.below hb2)).mono ?_
  rintro e w3 ⟨u, rfl, hu, b3⟩
  have hA3 := hA2.below b3 hA2.lt
  have hb3 := below_in hb2 b3
  clear c0 c1 c2 b3 hA2 hb2
  have c0 : w3.cell? ⟨w.heap.size, 0, none⟩ = some (.int .i64 k) := At.cell hA3 0
  have c1 : w3.cell? ⟨w.heap.size, 1, none⟩ = some (.int .i64 n) := At.cell hA3 1
  have c2 : w3.cell? ⟨w.heap.size, 2, none⟩ = some (.string ⟨t.toArray⟩) := At.cell hA3 2
  go_wp2_with fail
  refine (rshow_any ⟨k, n, t⟩ HV.out hsm _ (hW.below hb3)).mono ?_
  rintro e w4 ⟨u', rfl, hu', b4⟩
  obtain rfl := hu.one hu'
  clear hu'
  have hA4 := hA3.below b4 hA3.lt
  have hb4 := below_in hb3 b4
  clear c0 c1 c2 b4 hA3 hb3
  have c0 : w4.cell? ⟨w.heap.size, 0, none⟩ = some (.int .i64 k) := At.cell hA4 0
  have c1 : w4.cell? ⟨w.heap.size, 1, none⟩ = some (.int .i64 n) := At.cell hA4 1
  have c2 : w4.cell? ⟨w.heap.size, 2, none⟩ = some (.string ⟨t.toArray⟩) := At.cell hA4 2
  have q1 : (u != u) = false := by simp
  go_wp2_with fail
  refine (rgood_any ⟨k, n, t⟩ HV.out _).mono ?_
  rintro e w5 ⟨rfl, b5⟩
  have hA5 := hA4.below b5 hA4.lt
  have hb5 := below_in hb4 b5
  clear c0 c1 c2 b5 hA4 hb4
  have c0 : w5.cell? ⟨w.heap.size, 0, none⟩ = some (.int .i64 k) := At.cell hA5 0
  have c1 : w5.cell? ⟨w.heap.size, 1, none⟩ = some (.int .i64 n) := At.cell hA5 1
  have c2 : w5.cell? ⟨w.heap.size, 2, none⟩ = some (.string ⟨t.toArray⟩) := At.cell hA5 2
  have wk : ∀ w6, Below w.heap.size w w6 → Calls Tryz.prog 9 #[.string ⟨s.toArray⟩] w6 fun x w' => WordR s x ∧ Below w6.heap.size w6 w' := fun w6 h6 => word_any s (by omega) w6 (hW.below h6)
  cases hg : goodV ⟨k, n, t⟩ with
  | true =>
    go_wp2_with fail
    refine (word_show ⟨k, n, t⟩ HV.out hg u hu _ (hW.below hb5)).mono ?_
    rintro e w6 ⟨rfl, b6⟩
    simp only [pairW]
    have hA6 := hA5.below b6 hA5.lt
    have hb6 := below_in hb5 b6
    have hA7 := hA6.alloc (.cells #[.int .i64 k, .int .i64 n, .string ⟨t.toArray⟩] 23)
    have hb7 : Below w.heap.size w (w6.alloc (.cells #[.int .i64 k, .int .i64 n, .string ⟨t.toArray⟩] 23)) := hb6.alloc hb6.size _
    clear c0 c1 c2 b6 hA5
    have c0 : (w6.alloc (.cells #[.int .i64 k, .int .i64 n, .string ⟨t.toArray⟩] 23)).cell? ⟨w.heap.size, 0, none⟩ = some (.int .i64 k) := At.cell hA7 0
    have c1 : (w6.alloc (.cells #[.int .i64 k, .int .i64 n, .string ⟨t.toArray⟩] 23)).cell? ⟨w.heap.size, 1, none⟩ = some (.int .i64 n) := At.cell hA7 1
    have c2 : (w6.alloc (.cells #[.int .i64 k, .int .i64 n, .string ⟨t.toArray⟩] 23)).cell? ⟨w.heap.size, 2, none⟩ = some (.string ⟨t.toArray⟩) := At.cell hA7 2
    have WK := Lib.hid wk
    clear wk
    go_wp2_with fail
    refine (WK.out _ hb7).mono ?_
    rintro e w8 ⟨hr, b8⟩
    have hb8 := below_in hb7 b8
    clear c0 c1 c2 b8 hA6 hA7
    rcases hr with rfl | ⟨⟨k', n', t'⟩, ok', l', g', sh', rfl⟩
    · simp only [pairW]
      go_wp2_with fail
      go_ret
      exact ⟨rfl, hb8.alloc hb8.size _⟩
    · simp only [pairW]
      simp only at l'
      have hY := At.fresh w8 23 #[.int .i64 k', .int .i64 n', .string ⟨t'.toArray⟩]
      have hbY : Below w.heap.size w (w8.alloc (.cells #[.int .i64 k', .int .i64 n', .string ⟨t'.toArray⟩] 23)) := hb8.alloc hb8.size _
      have HO := Lib.hid ok'
      have HG := Lib.hid g'
      have HS := Lib.hid sh'
      clear ok' g' sh'
      go_wp2_with fail
      refine (rgood_any ⟨k', n', t'⟩ HO.out _).mono ?_
      rintro e w9 ⟨rfl, b9⟩
      rw [HG.out]
      have hY9 := hY.below b9 hY.lt
      have hb9 := below_in hbY b9
      have y0 := At.cell hY9 0
      have y1 := At.cell hY9 1
      have y2 := At.cell hY9 2
      clear b9
      go_wp2_with fail
      refine (rshow_any ⟨k', n', t'⟩ HO.out l' _ (hW.below hb9)).mono ?_
      rintro e w10 ⟨u2, rfl, hu2, b10⟩
      rw [hu2.one HS.out]
      have hb10 := below_in hb9 b10
      have q2 : (s == s) = true := by simp
      go_wp2_with fail
      go_ret
      exact ⟨rfl, hb10⟩
  | false =>
    have WK := Lib.hid wk
    clear wk c0 c1 c2
    go_wp2_with fail
    refine (WK.out _ hb5).mono ?_
    rintro e w8 ⟨hr, b8⟩
    have hb8 := below_in hb5 b8
    clear b8
    rcases hr with rfl | ⟨⟨k', n', t'⟩, ok', l', g', sh', rfl⟩
    · simp only [pairW]
      go_wp2_with fail
      go_ret
      exact ⟨rfl, hb8.alloc hb8.size _⟩
    · simp only [pairW]
      simp only at l'
      have hY := At.fresh w8 23 #[.int .i64 k', .int .i64 n', .string ⟨t'.toArray⟩]
      have hbY : Below w.heap.size w (w8.alloc (.cells #[.int .i64 k', .int .i64 n', .string ⟨t'.toArray⟩] 23)) := hb8.alloc hb8.size _
      have HO := Lib.hid ok'
      have HG := Lib.hid g'
      have HS := Lib.hid sh'
      clear ok' g' sh'
      go_wp2_with fail
      refine (rgood_any ⟨k', n', t'⟩ HO.out _).mono ?_
      rintro e w9 ⟨rfl, b9⟩
      rw [HG.out]
      have hY9 := hY.below b9 hY.lt
      have hb9 := below_in hbY b9
      have y0 := At.cell hY9 0
      have y1 := At.cell hY9 1
      have y2 := At.cell hY9 2
      clear b9
      go_wp2_with fail
      refine (rshow_any ⟨k', n', t'⟩ HO.out l' _ (hW.below hb9)).mono ?_
      rintro e w10 ⟨u2, rfl, hu2, b10⟩
      rw [hu2.one HS.out]
      have hb10 := below_in hb9 b10
      have q2 : (s == s) = true := by simp
      go_wp2_with fail
      go_ret
      exact ⟨rfl, hb10⟩
end Go.Proofs.YtkaeaiagmihmgaaGreatDoor
