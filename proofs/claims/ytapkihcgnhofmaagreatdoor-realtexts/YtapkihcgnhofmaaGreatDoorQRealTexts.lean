/- The walk of the law RealTexts. -/
import Derived.Test.YtapkihcgnhofmaaGreatDoorQGaD
import Derived.Test.YtapkihcgnhofmaaGreatDoorQGaT
import Derived.Test.YtapkihcgnhofmaaGreatDoorQFmtE
namespace Go.Proofs.YtapkihcgnhofmaaGreatDoor
open Go.RowKit Go.Sort

set_option maxRecDepth 100000 in
set_option maxHeartbeats 800000 in
/-- A text that is longer than any float's. -/
theorem parse_long (s : List UInt8) (h : 24 < s.length) (w : World) : Calls Tryz.prog 9 #[.string ⟨s.toArray⟩] w fun x w' => x = .returned (.tuple #[.int .i64 0, .int .i64 4]) ∧ Below w.heap.size w w' := by
  have hl' : decide ((24 : Int) < (s.length : Int)) = true := by simp; omega
  go_enter Tryz.func9, Tryz.ntmps9
  go_wp2_with fail
  go_ret2
  exact ⟨rfl, Below.refl _ _⟩

set_option maxRecDepth 100000 in
set_option maxHeartbeats 6400000 in
theorem realTexts_main (bits : Int) (s : List UInt8) (w : World) (hT : Texts w) (hs : s.length ≤ maxLen) :
    Calls Tryz.prog 3 #[.int .i64 bits, .string ⟨s.toArray⟩] w fun e w' => e = .returned (.bool true) ∧ Below w.heap.size w w' := by
  obtain ⟨hH, gT, oT, B, blk, po, hM⟩ := hT
  unfold maxLen at hs
  obtain ⟨c, hc⟩ : ∃ c, canonW (wordOf bits) = c := ⟨_, rfl⟩
  have hcc : canonW c = c := by rw [← hc]; exact canonW_idem _
  have hcl : c < 18446744073709551616 := by rw [← hc]; exact canonW_lt (wordOf_lt _)
  have hkc : canonI (wordOf bits) = canonI c := by unfold canonI; rw [hcc, hc]
  have hwk : wordOf (canonI c) = c := by rw [wordOf_canonI hcl, hcc]
  go_enter Tryz.func3, Tryz.ntmps3
  go_wp2_with fail
  refine (alive_any _ hH).mono ?_
  intro en w1 he
  obtain ⟨rfl, b1⟩ := he
  have hM1 := hM.below b1
  by_cases h100 : 100 < s.length
  · have h100' : decide ((100 : Int) < (s.length : Int)) = true := by simp; omega
    go_wp2_with fail
    go_ret
    exact ⟨rfl, b1⟩
  have h100' : decide ((100 : Int) < (s.length : Int)) = false := by simp; omega
  go_wp2_with (first | (go_at_call 6; refine (refOf_any _ _).mono ?_; rintro e w' ⟨rfl, rfl⟩) | (go_at_call 5; refine (refKept_any _ _).mono ?_; rintro e w' ⟨rfl, rfl⟩))
  refine (text_any bits w1 hM1.pow hM1.tab).mono ?_
  rintro en w2 ⟨t, rfl, ht, b2⟩
  rw [hc] at ht
  have hb2 : Below w.heap.size w w2 := b1.trans (b2.mono b1.size)
  have hM2 := hM.below hb2
  go_wp2_with (go_at_call 6; refine (refOf_any _ _).mono ?_; rintro e w' ⟨rfl, rfl⟩)
  refine (strFormatFloat_any w2 hM2.pow hM2.tab c hcl).mono ?_
  rintro en w3 ⟨t', rfl, ht', b3⟩
  obtain rfl := ht.one ht'
  have hb3 : Below w.heap.size w w3 := hb2.trans (b3.mono hb2.size)
  have hM3 := hM.below hb3
  have ht1 : (t == t) = true := by simp
  have ht2 : (t != t) = false := by simp
  go_wp2_with fail
  have key : ∀ w4, Below w.heap.size w w4 → Calls Tryz.prog 9 #[.string ⟨s.toArray⟩] w4 fun x w' => FinR s x ∧ Below w4.heap.size w4 w' := fun w4 b4 => parse_any (hM.below b4) s (by omega)
  have tkey : ∀ (a : Int) w4, Below w.heap.size w w4 → Calls Tryz.prog 7 #[.int .i64 a] w4 fun e w' => ∃ t, e = .returned (.string ⟨t.toArray⟩) ∧ TextOf (canonW (wordOf a)) t ∧ Below w4.heap.size w4 w' := fun a w4 b4 => text_any a w4 (hM.below b4).pow (hM.below b4).tab
  by_cases h24 : 24 < t.length
  · have hp := parse_long t h24
    have l1 : decide ((t.length : Int) ≤ 24) = false := by simp; omega
    have l2 : decide ((24 : Int) < (t.length : Int)) = true := by simp; omega
    refine (hp _).mono ?_
    intro en w4 he
    obtain ⟨rfl, b4⟩ := he
    have hb4 : Below w.heap.size w w4 := hb3.trans (b4.mono hb3.size)
    go_wp2_with fail
    refine (key _ hb4).mono ?_
    rintro en w5 ⟨hr, b5⟩
    have hb5 : Below w.heap.size w w5 := hb4.trans (b5.mono hb4.size)
    rcases hr with rfl | ⟨d, d1, d2, d3, d4, rfl⟩
    · go_wp2_with fail
      go_ret
      exact ⟨rfl, hb5⟩
    · go_wp2_with fail
      refine (tkey _ _ hb5).mono ?_
      rintro en w6 ⟨t6, rfl, ht6, b6⟩
      rw [wordOf_canonI d2, d1, d1] at ht6
      obtain rfl := d3.one ht6
      have hb6 : Below w.heap.size w w6 := hb5.trans (b6.mono hb5.size)
      have q1 : (s == s) = true := by simp
      have g0 : canonI (wordOf (canonI d)) = canonI d := by rw [wordOf_canonI d2, canonI_canonW]
      have g1 : (canonI d == canonI d) = true := by simp
      have l5 : decide ((s.length : Int) ≤ 24) = true := by simp; omega
      go_wp2_with fail
      refine (good_any _ _).mono ?_
      rintro en w' ⟨rfl, hw'⟩
      obtain rfl : w6 = w' := hw'
      rw [g0, g1]
      go_wp2_with fail
      go_ret
      exact ⟨rfl, hb6⟩
  · have hp := parse_text w3 gT oT hM3.pow hM3.ten hM3.tab hM3.opt c hcc hcl t (by omega) ht
    have l1 : decide ((t.length : Int) ≤ 24) = true := by simp; omega
    have l2 : decide ((24 : Int) < (t.length : Int)) = false := by simp; omega
    have l3 : (canonI c != canonI c) = false := by simp
    refine hp.mono ?_
    intro en w4 he
    obtain ⟨rfl, b4⟩ := he
    have hb4 : Below w.heap.size w w4 := hb3.trans (b4.mono hb3.size)
    go_wp2_with fail
    refine (key _ hb4).mono ?_
    rintro en w5 ⟨hr, b5⟩
    have hb5 : Below w.heap.size w w5 := hb4.trans (b5.mono hb4.size)
    rcases hr with rfl | ⟨d, d1, d2, d3, d4, rfl⟩
    · go_wp2_with fail
      go_ret
      exact ⟨rfl, hb5⟩
    · go_wp2_with fail
      refine (tkey _ _ hb5).mono ?_
      rintro en w6 ⟨t6, rfl, ht6, b6⟩
      rw [wordOf_canonI d2, d1, d1] at ht6
      obtain rfl := d3.one ht6
      have hb6 : Below w.heap.size w w6 := hb5.trans (b6.mono hb5.size)
      have q1 : (s == s) = true := by simp
      have g0 : canonI (wordOf (canonI d)) = canonI d := by rw [wordOf_canonI d2, canonI_canonW]
      have g1 : (canonI d == canonI d) = true := by simp
      have l5 : decide ((s.length : Int) ≤ 24) = true := by simp; omega
      go_wp2_with fail
      refine (good_any _ _).mono ?_
      rintro en w' ⟨rfl, hw'⟩
      obtain rfl : w6 = w' := hw'
      rw [g0, g1]
      go_wp2_with fail
      go_ret
      exact ⟨rfl, hb6⟩
end Go.Proofs.YtapkihcgnhofmaaGreatDoor
