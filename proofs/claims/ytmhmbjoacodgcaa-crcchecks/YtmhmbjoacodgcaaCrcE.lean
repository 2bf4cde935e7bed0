/- The walk of CrcChecks, texts of four bytes and more; the whole. -/
import Derived.Test.YtmhmbjoacodgcaaCrcD
namespace Go.Proofs.Ytmhmbjoacodgcaa
open Go.RowKit
attribute [local go_sem ↓] run_max_nought

set_option maxRecDepth 100000 in
set_option maxHeartbeats 1600000 in
theorem crcChecks_yes (s : List UInt8) (w : World) (hs : s.length ≤ maxLen) (h1 : s.length ≤ 2048) (h4 : 4 ≤ s.length) (hyes : s.drop (s.length - 4) = tailOf (crcOf (s.take (s.length - 4)))) :
    Calls Try.prog 4 #[.string ⟨s.toArray⟩] w fun e w' => e = .returned (.bool true) ∧ Below w.heap.size w w' := by
  have h1' : ¬ (2048 : Int) < (s.length : Int) := by omega
  have hct := check_tail s
  have htl : (tailOf (crcOf s)).length = 4 := tails_length 4 _
  have hql := crcOf_lt s
  obtain ⟨q, hq⟩ : ∃ q, crcOf s = q := ⟨_, rfl⟩
  rw [hq] at hct htl hql
  have HQ := Lib.hid hq
  clear hq
  obtain ⟨l, hl⟩ : ∃ l, tailOf q = l := ⟨_, rfl⟩
  rw [hl] at hct htl
  have HL := Lib.hid hl
  have HCT := Lib.hid hct
  clear hl hct
  have hsl : (s ++ l).length ≤ maxLen := by rw [List.length_append, htl]; unfold maxLen; omega
  obtain ⟨k, hk⟩ : ∃ k, s.length = k + 4 := ⟨s.length - 4, by omega⟩
  obtain ⟨b, hb⟩ : ∃ b, s.take k = b := ⟨_, rfl⟩
  obtain ⟨t, ht⟩ : ∃ t, s.drop k = t := ⟨_, rfl⟩
  have hbl : b.length ≤ maxLen := by rw [← hb]; unfold maxLen; simp; omega
  have e1 : (ByteArray.mk s.toArray).extract 0 k = ⟨b.toArray⟩ := by rw [extract_take, hb]
  have e2 : (ByteArray.mk s.toArray).extract k s.length = ⟨t.toArray⟩ := by rw [extract_drop, ht]
  have hC : checkOf s = if t = tailOf (crcOf b) then some b else none := by unfold checkOf; rw [show s.length - 4 = k by omega, hb, ht]; simp [h4]
  have hcl := crcOf_lt b
  obtain ⟨c, hc⟩ : ∃ c, crcOf b = c := ⟨_, rfl⟩
  rw [hc] at hcl hC
  have HC := Lib.hid hc
  obtain ⟨m, hm⟩ : ∃ m, tailOf c = m := ⟨_, rfl⟩
  rw [hm] at hC
  have HM := Lib.hid hm
  obtain ⟨n, hn⟩ : ∃ n, (s.length : Int) - 4 = n := ⟨_, rfl⟩
  have hn0 : (0 : Int) ≤ n := by omega
  have hn1 : n ≤ (s.length : Int) := by omega
  rw [show k = n.toNat by omega] at e1 e2
  have hq : t = m := by rw [← ht, ← hm, ← hc, ← hb, show k = s.length - 4 by omega]; exact hyes
  clear hm hc hb ht hk
  rw [if_pos hq] at hC
  have HCC := Lib.hid hC
  clear hC
  have hq' : (m == t) = true := by simp [hq]
  clear hq
  go_enter Try.func4, Try.ntmps4
  go_wp2_with fail
  refine (alive_any _).mono ?_
  rintro e w1 ⟨rfl, hb1⟩
  go_wp2_with fail
  refine (of_one' s hs w1 _).mono ?_
  rintro e w2 ⟨rfl, c2⟩
  have b2 := below_in' hb1 c2
  clear c2 hb1
  rw [HQ.out]
  go_wp2_with fail
  refine (tail_any q hql _).mono ?_
  rintro e w3 ⟨rfl, c3⟩
  have b3 := below_in' b2 c3
  clear c3 b2
  rw [HL.out]
  go_wp2_with fail
  refine (check_app s l hsl _).mono ?_
  rintro e w4 ⟨rfl, c4⟩
  have b4 := below_in' b3 c4
  clear c4 b3
  rw [HCT.out, checkRes_some]
  go_wp2_with fail
  have b5 : Below w.heap.size w w4.drew := b4.drew
  go_region_held3 (fun _ => True) (trivial)
    (first
      | (go_at_call 8; refine (refOf_any b hbl _).mono ?_; rintro e w5 ⟨rfl, rfl⟩; rw [HC.out])
      | (go_at_call 10; refine (refTail_any c hcl _).mono ?_; rintro e w6 ⟨rfl, c6⟩; have b6 := below_in' b5 c6; clear c6; rw [HM.out]))
  all_goals
    go_wp2_with fail
    refine (check_any s hs _).mono ?_
    rintro e w7 ⟨rfl, c7⟩
    have b7 := below_in' b6 c7
    clear c7 b6
    rw [HCC.out, checkRes_some]
    go_wp2_with fail
    go_ret
    exact ⟨rfl, b7⟩

set_option maxRecDepth 100000 in
set_option maxHeartbeats 1600000 in
theorem crcChecks_no (s : List UInt8) (w : World) (hs : s.length ≤ maxLen) (h1 : s.length ≤ 2048) (h4 : 4 ≤ s.length) (hno : ¬ s.drop (s.length - 4) = tailOf (crcOf (s.take (s.length - 4)))) :
    Calls Try.prog 4 #[.string ⟨s.toArray⟩] w fun e w' => e = .returned (.bool true) ∧ Below w.heap.size w w' := by
  have h1' : ¬ (2048 : Int) < (s.length : Int) := by omega
  have hct := check_tail s
  have htl : (tailOf (crcOf s)).length = 4 := tails_length 4 _
  have hql := crcOf_lt s
  obtain ⟨q, hq⟩ : ∃ q, crcOf s = q := ⟨_, rfl⟩
  rw [hq] at hct htl hql
  have HQ := Lib.hid hq
  clear hq
  obtain ⟨l, hl⟩ : ∃ l, tailOf q = l := ⟨_, rfl⟩
  rw [hl] at hct htl
  have HL := Lib.hid hl
  have HCT := Lib.hid hct
  clear hl hct
  have hsl : (s ++ l).length ≤ maxLen := by rw [List.length_append, htl]; unfold maxLen; omega
  obtain ⟨k, hk⟩ : ∃ k, s.length = k + 4 := ⟨s.length - 4, by omega⟩
  obtain ⟨b, hb⟩ : ∃ b, s.take k = b := ⟨_, rfl⟩
  obtain ⟨t, ht⟩ : ∃ t, s.drop k = t := ⟨_, rfl⟩
  have hbl : b.length ≤ maxLen := by rw [← hb]; unfold maxLen; simp; omega
  have e1 : (ByteArray.mk s.toArray).extract 0 k = ⟨b.toArray⟩ := by rw [extract_take, hb]
  have e2 : (ByteArray.mk s.toArray).extract k s.length = ⟨t.toArray⟩ := by rw [extract_drop, ht]
  have hC : checkOf s = if t = tailOf (crcOf b) then some b else none := by unfold checkOf; rw [show s.length - 4 = k by omega, hb, ht]; simp [h4]
  have hcl := crcOf_lt b
  obtain ⟨c, hc⟩ : ∃ c, crcOf b = c := ⟨_, rfl⟩
  rw [hc] at hcl hC
  have HC := Lib.hid hc
  obtain ⟨m, hm⟩ : ∃ m, tailOf c = m := ⟨_, rfl⟩
  rw [hm] at hC
  have HM := Lib.hid hm
  obtain ⟨n, hn⟩ : ∃ n, (s.length : Int) - 4 = n := ⟨_, rfl⟩
  have hn0 : (0 : Int) ≤ n := by omega
  have hn1 : n ≤ (s.length : Int) := by omega
  rw [show k = n.toNat by omega] at e1 e2
  have hq : ¬ t = m := by rw [← ht, ← hm, ← hc, ← hb, show k = s.length - 4 by omega]; exact hno
  clear hm hc hb ht hk
  rw [if_neg hq] at hC
  have HCC := Lib.hid hC
  clear hC
  have hq' : (m == t) = false := by simp; exact fun h => hq h.symm
  clear hq
  go_enter Try.func4, Try.ntmps4
  go_wp2_with fail
  refine (alive_any _).mono ?_
  rintro e w1 ⟨rfl, hb1⟩
  go_wp2_with fail
  refine (of_one' s hs w1 _).mono ?_
  rintro e w2 ⟨rfl, c2⟩
  have b2 := below_in' hb1 c2
  clear c2 hb1
  rw [HQ.out]
  go_wp2_with fail
  refine (tail_any q hql _).mono ?_
  rintro e w3 ⟨rfl, c3⟩
  have b3 := below_in' b2 c3
  clear c3 b2
  rw [HL.out]
  go_wp2_with fail
  refine (check_app s l hsl _).mono ?_
  rintro e w4 ⟨rfl, c4⟩
  have b4 := below_in' b3 c4
  clear c4 b3
  rw [HCT.out, checkRes_some]
  go_wp2_with fail
  have b5 : Below w.heap.size w w4.drew := b4.drew
  go_region_held3 (fun _ => True) (trivial)
    (first
      | (go_at_call 8; refine (refOf_any b hbl _).mono ?_; rintro e w5 ⟨rfl, rfl⟩; rw [HC.out])
      | (go_at_call 10; refine (refTail_any c hcl _).mono ?_; rintro e w6 ⟨rfl, c6⟩; have b6 := below_in' b5 c6; clear c6; rw [HM.out]))
  all_goals
    go_wp2_with fail
    refine (check_any s hs _).mono ?_
    rintro e w7 ⟨rfl, c7⟩
    have b7 := below_in' b6 c7
    clear c7 b6
    rw [HCC.out, checkRes_none]
    go_wp2_with fail
    go_ret
    exact ⟨rfl, b7⟩

set_option maxRecDepth 100000 in
set_option maxHeartbeats 400000 in
theorem crcChecks_big (s : List UInt8) (w : World) (hs : s.length ≤ maxLen) (h1 : ¬ s.length ≤ 2048) :
    Calls Try.prog 4 #[.string ⟨s.toArray⟩] w fun e w' => e = .returned (.bool true) ∧ Below w.heap.size w w' := by
  have h1' : (2048 : Int) < (s.length : Int) := by omega
  have hs' : s.length < 9223372036854775808 := by unfold maxLen at hs; omega
  go_enter Try.func4, Try.ntmps4
  go_wp2_with fail
  refine (alive_any _).mono ?_
  rintro e w1 ⟨rfl, hb1⟩
  go_wp2_with fail
  go_ret
  exact ⟨rfl, hb1⟩

theorem crcChecks_main (s : List UInt8) (w : World) (hs : s.length ≤ maxLen) :
    Calls Try.prog 4 #[.string ⟨s.toArray⟩] w fun e w' => e = .returned (.bool true) ∧ Below w.heap.size w w' := by
  by_cases h1 : s.length ≤ 2048
  · by_cases h4 : 4 ≤ s.length
    · by_cases hq : s.drop (s.length - 4) = tailOf (crcOf (s.take (s.length - 4)))
      · exact crcChecks_yes s w hs h1 h4 hq
      · exact crcChecks_no s w hs h1 h4 hq
    · exact crcChecks_short s w hs h4
  · exact crcChecks_big s w hs h1
end Go.Proofs.Ytmhmbjoacodgcaa
