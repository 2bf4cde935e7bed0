/- The walks of the laws' alive and of CrcIs. -/
import Derived.Test.YtmhmbjoacodgcaaCrcB
import Derived.Deep.RegionHeld3
namespace Go.Proofs.Ytmhmbjoacodgcaa
open Go.RowKit

theorem below_in' {w w1 w2 : World} (h : Below w.heap.size w w1) (k : Below w1.heap.size w1 w2) : Below w.heap.size w w2 := h.trans (k.mono h.size)
theorem of_one' (t : List UInt8) (ht : t.length ≤ maxLen) (w : World) (ty : TypeId) : Calls Try.prog 7 #[.slice (some ⟨w.heap.size, 0, none⟩) 1 1] (w.alloc (.cells #[.string ⟨t.toArray⟩] ty)) fun e w' =>
    e = .returned (.int .u32 (crcOf t : Nat)) ∧ Below w.heap.size w w' := by
  refine (of_one t ht w ty).mono ?_
  rintro e w' ⟨rfl, rfl⟩
  exact ⟨rfl, (Below.refl _ w).alloc (Nat.le_refl _) _⟩
theorem of_two' (t u : List UInt8) (ht : t.length ≤ maxLen) (hu : u.length ≤ maxLen) (w : World) (ty : TypeId) : Calls Try.prog 7 #[.slice (some ⟨w.heap.size, 0, none⟩) 2 2] (w.alloc (.cells #[.string ⟨t.toArray⟩, .string ⟨u.toArray⟩] ty)) fun e w' =>
    e = .returned (.int .u32 (crcOf (t ++ u) : Nat)) ∧ Below w.heap.size w w' := by
  refine (of_two t u ht hu w ty).mono ?_
  rintro e w' ⟨rfl, rfl⟩
  exact ⟨rfl, (Below.refl _ w).alloc (Nat.le_refl _) _⟩
def nine : List UInt8 := [49, 50, 51, 52, 53, 54, 55, 56, 57]
theorem crc_nine : crcOf nine = 3421780262 := by kernel_rfl
theorem tail_one : tailOf 1 = [0, 0, 0, 1] := by kernel_rfl
theorem of_nine (w : World) (ty : TypeId) : Calls Try.prog 7 #[.slice (some ⟨w.heap.size, 0, none⟩) 1 1] (w.alloc (.cells #[.string ⟨#[49, 50, 51, 52, 53, 54, 55, 56, 57]⟩] ty)) fun e w' =>
    e = .returned (.int .u32 3421780262) ∧ w.alloc (.cells #[.string ⟨#[49, 50, 51, 52, 53, 54, 55, 56, 57]⟩] ty) = w' := by
  have := of_one nine (by unfold maxLen; decide) w ty
  rw [crc_nine] at this
  exact this
theorem tail_at_one (w : World) : Calls Try.prog 9 #[.int .u32 1] w fun e w' => e = .returned (.string ⟨#[0, 0, 0, 1]⟩) ∧ Below w.heap.size w w' := by
  have := tail_any 1 (by omega) w
  rw [tail_one] at this
  exact this

set_option maxRecDepth 100000 in
set_option maxHeartbeats 400000 in
theorem alive_any (w : World) : Calls Try.prog 6 #[] w fun e w' => e = .returned (.bool true) ∧ Below w.heap.size w w' := by
  go_enter Try.func6, Try.ntmps6
  go_wp2_with fail
  refine (of_nine w _).mono ?_
  rintro e w1 ⟨rfl, rfl⟩
  go_wp2_with fail
  refine (tail_at_one _).mono ?_
  rintro e w2 ⟨rfl, hb⟩
  go_wp2_with fail
  go_ret
  exact ⟨rfl, below_in' ((Below.refl w.heap.size w).alloc (Nat.le_refl _) _) hb⟩

set_option maxRecDepth 100000 in
set_option maxHeartbeats 400000 in
theorem crcIs_main (s : List UInt8) (cut : Int) (c : Nat) (w : World) (hs : s.length ≤ maxLen) (hI : I64 cut) (hc : c < 4294967296) :
    Calls Try.prog 3 #[.string ⟨s.toArray⟩, .int .i64 cut, .int .u32 c] w fun e w' => e = .returned (.bool true) ∧ Below w.heap.size w w' := by
  by_cases h1 : s.length ≤ 2048
  · have h1' : ¬ (2048 : Int) < (s.length : Int) := by omega
    by_cases h2 : cut < 0
    · go_enter Try.func3, Try.ntmps3
      go_wp2_with fail
      refine (alive_any _).mono ?_
      rintro e w1 ⟨rfl, hb1⟩
      go_wp2_with fail
      go_ret
      exact ⟨rfl, hb1⟩
    · by_cases h3 : (s.length : Int) < cut
      · go_enter Try.func3, Try.ntmps3
        go_wp2_with fail
        refine (alive_any _).mono ?_
        rintro e w1 ⟨rfl, hb1⟩
        go_wp2_with fail
        go_ret
        exact ⟨rfl, hb1⟩
      · obtain ⟨k, rfl⟩ : ∃ k : Nat, cut = (k : Int) := ⟨cut.toNat, by omega⟩
        have hk : k ≤ s.length := by omega
        have e1 : (ByteArray.mk s.toArray).extract 0 k = ⟨(s.take k).toArray⟩ := extract_take s k
        have e2 : (ByteArray.mk s.toArray).extract k s.length = ⟨(s.drop k).toArray⟩ := extract_drop s k
        have hta := Lib.hid (List.take_append_drop k s)
        obtain ⟨x, hx⟩ : ∃ x, s.take k = x := ⟨_, rfl⟩
        obtain ⟨y, hy⟩ : ∃ y, s.drop k = y := ⟨_, rfl⟩
        have hxl : x.length ≤ maxLen := by rw [← hx]; unfold maxLen; simp; omega
        have hyl : y.length ≤ maxLen := by rw [← hy]; unfold maxLen; simp; omega
        rw [hx] at hta e1
        rw [hy] at hta e2
        clear hx hy
        obtain ⟨q, hq⟩ : ∃ q, crcOf s = q := ⟨_, rfl⟩
        have HQ := Lib.hid hq
        clear hq
        obtain ⟨l, hl⟩ : ∃ l, tailOf c = l := ⟨_, rfl⟩
        have HL := Lib.hid hl
        clear hl
        go_enter Try.func3, Try.ntmps3
        go_wp2_with fail
        refine (alive_any _).mono ?_
        rintro e w1 ⟨rfl, hb1⟩
        go_wp2_with fail
        have b0 : Below w.heap.size w w1.drew := hb1.drew
        go_region_held3 (fun _ => True) (trivial)
          (first
            | (go_at_call_of 7 (Value.slice (some ⟨w1.heap.size, 0, none⟩) 1 1); refine (of_one' s hs w1.drew 9).mono ?_; rintro e w2 ⟨rfl, c2⟩; have b2 := below_in' b0 c2; clear c2; rw [HQ.out])
            | (go_at_call 8; refine (refOf_any s hs _).mono ?_; rintro e w3 ⟨rfl, rfl⟩; rw [HQ.out])
            | (go_at_call_of 7 (Value.slice (some ⟨w2.heap.size, 0, none⟩) 2 2); refine (of_two' x y hxl hyl w2 9).mono ?_; rintro e w4 ⟨rfl, c4⟩; have b4 := below_in' b2 c4; clear c4; rw [hta.out, HQ.out])
            | (go_at_call 9; refine (tail_any c hc _).mono ?_; rintro e w5 ⟨rfl, c5⟩; have b5 := below_in' b4 c5; clear c5; rw [HL.out])
            | (go_at_call 10; refine (refTail_any c hc _).mono ?_; rintro e w6 ⟨rfl, c6⟩; have b6 := below_in' b5 c6; clear c6; rw [HL.out]))
        go_wp2_with fail
        go_ret
        exact ⟨rfl, b6⟩
  · have h1' : (2048 : Int) < (s.length : Int) := by omega
    have hs' : s.length < 9223372036854775808 := by unfold maxLen at hs; omega
    go_enter Try.func3, Try.ntmps3
    go_wp2_with fail
    refine (alive_any _).mono ?_
    rintro e w1 ⟨rfl, hb1⟩
    go_wp2_with fail
    go_ret
    exact ⟨rfl, hb1⟩
end Go.Proofs.Ytmhmbjoacodgcaa
