/- strconv.FormatFloat at one half, and what real.Text and the laws' first test make of it. -/
/- The walks of the reference's Less and Compare (layer 3), of Text, Float and Show at one half, and of the laws' first test. -/
import Derived.Test.YtkaeaiagmihmgaaGreatDoorQFmt
import Derived.Test.YtkaeaiagmihmgaaGreatDoorQRealA
import Derived.Test.YtkaeaiagmihmgaaGreatDoorQValD
namespace Go.Proofs.YtkaeaiagmihmgaaGreatDoor
open Go.RowKit Go.Sort

set_option maxRecDepth 100000 in
set_option maxHeartbeats 1600000 in
theorem formatFloat_half (w : World) (ht : HalfTabs w) :
    Calls Tryz.prog 31 #[.float .f64 4602678819172646912, .int .u8 103, .int .i64 (-1), .int .i64 64] w fun e w' => e = .returned (.string ⟨#[48, 46, 53]⟩) ∧ Below w.heap.size w w' := by
  have m1 : max (3 : Int) 24 = 24 := rfl
  go_enter Tryz.func31, Tryz.ntmps31
  obtain ⟨i0, hi0, hz0, hz1, hz2⟩ := info_parts info_u8
  go_wp2_with (refine wpList_make_own w rfl (.const (.int .i64 0)) (.tmp 25) 42 rfl w.heap.size 5 i0 (.int .u8 0) 1 Tryz.underlying42 hi0 hz0 hz1 .i64 .i64 24 24 rfl rfl rfl ?c1 ?c2 ?c3 ?_)
  case c1 => omega
  case c2 => unfold maxLen; omega
  case c3 => omega
  intro w1 o1 r1
  have hv : Owns w1 w.heap.size 5 (.slice (some ⟨w.heap.size, 0, none⟩) 0 24) [] := o1
  have b1 : Below w.heap.size w w1 := (Below.refl _ _).grown r1 (Nat.le_refl _) (fun k h => by cases h)
  go_wp2_with fail
  refine (ftoa64_half w1 w.heap.size _ hv r1.size (ht.below b1)).mono ?_
  rintro e w2 ⟨v', rfl, o2, b2⟩
  have hx := run_bytes_owned (P := Tryz.prog) 42 9 5 Tryz.underlying42 Tryz.underlying5 Tryz.underlying9 o2
  go_wp2
  go_ret
  exact ⟨rfl, b1.trans b2⟩

set_option maxHeartbeats 400000 in
theorem strFormatFloat_half (w : World) (ht : HalfTabs w) :
    Calls Tryz.prog 16 #[.float .f64 4602678819172646912, .int .u8 103, .int .i64 (-1), .int .i64 64] w fun e w' => e = .returned (.string ⟨#[48, 46, 53]⟩) ∧ Below w.heap.size w w' := by
  go_enter Tryz.func16, Tryz.ntmps16
  go_wp2_with fail
  refine (formatFloat_half w ht).mono ?_
  rintro e w1 ⟨rfl, b1⟩
  go_wp2
  go_ret
  exact ⟨rfl, b1⟩

theorem canonI_half : canonI 4602678819172646912 = 4602678819172646912 := by decide
theorem wordOf_half : wordOf 4602678819172646912 = 4602678819172646912 := by decide
theorem canonI_nought : canonI 9223372036854775808 = 0 := by decide
theorem canonI_top : canonI 9221120237041090561 = 9221120237041090560 := by decide
theorem canonI_inf : canonI 9218868437227405312 = 9218868437227405312 := by decide
theorem cmp_top : cmpI (keyI 9221120237041090560) (keyI 9218868437227405312) = 1 := by decide

set_option maxHeartbeats 400000 in
theorem text_half (w : World) (ht : HalfTabs w) :
    Calls Tryz.prog 15 #[.int .i64 4602678819172646912] w fun e w' => e = .returned (.string ⟨#[48, 46, 53]⟩) ∧ Below w.heap.size w w' := by
  have h1 := wordOf_half
  have h2 := canonI_half
  go_enter Tryz.func15, Tryz.ntmps15
  go_wp2_with (first | (go_at_call 30; refine (canonBits_any _ _).mono ?_; rintro e w' ⟨rfl, rfl⟩) | (go_at_call 29; refine (of_any _ _).mono ?_; rintro e w' ⟨rfl, rfl⟩))
  refine (strFormatFloat_half w ht).mono ?_
  rintro e w1 ⟨rfl, b1⟩
  go_wp2
  go_ret
  exact ⟨rfl, b1⟩

end Go.Proofs.YtkaeaiagmihmgaaGreatDoor

namespace Go.Proofs.YtkaeaiagmihmgaaGreatDoor
open Go.RowKit
open Go.Op (bytesLess)

theorem below_box2 (w : World) (o p : Obj) : Below w.heap.size w ((w.alloc o).alloc p) := (below_box w o).alloc (by simp) _

set_option maxHeartbeats 400000 in
theorem vtext_any (t : List UInt8) (w : World) :
    Calls Tryz.prog 11 #[.string ⟨t.toArray⟩] w fun e w' => e = .returned (Vl.mk 3 0 t).val ∧ Below w.heap.size w w' := by
  go_enter Tryz.func11, Tryz.ntmps11
  go_wp2
  refine bodyPost_ret (v := (Vl.mk 3 0 t).val) (by simp [results, Tryz.results11, go_sem, Vl.val]) rfl ⟨rfl, below_box _ _⟩

set_option maxHeartbeats 400000 in
theorem vfloat_any (b : Nat) (w : World) :
    Calls Tryz.prog 12 #[.float .f64 b] w fun e w' => e = .returned (Vl.mk 2 (canonI b) []).val ∧ Below w.heap.size w w' := by
  go_enter Tryz.func12, Tryz.ntmps12
  go_wp2_with (go_at_call 26; refine (canon_any _ _).mono ?_; rintro e w' ⟨rfl, rfl⟩)
  refine bodyPost_ret (v := (Vl.mk 2 (canonI b) []).val) (by simp [results, Tryz.results12, go_sem, Vl.val]) rfl ⟨rfl, below_box _ _⟩

set_option maxHeartbeats 800000 in
theorem vshow_half (w : World) (ht : HalfTabs w) :
    Calls Tryz.prog 6 #[(Vl.mk 2 4602678819172646912 []).val] w fun e w' => e = .returned (.string ⟨#[102, 48, 46, 53]⟩) ∧ Below w.heap.size w w' := by
  have hb := below_box w (.cells #[.int .i64 2, .int .i64 4602678819172646912, .string ⟨#[]⟩] 23)
  show Calls _ _ #[.agg #[.int .i64 2, .int .i64 4602678819172646912, .string ⟨#[]⟩]] w _
  go_enter Tryz.func6, Tryz.ntmps6
  go_wp2_with fail
  refine (text_half _ (ht.below hb)).mono ?_
  rintro e w1 ⟨rfl, b1⟩
  go_wp2_with fail
  go_ret
  exact ⟨rfl, below_in hb b1⟩

theorem ok_a : (Vl.mk 3 0 [97]).Ok := ⟨by unfold I64; decide, by unfold I64; decide, by unfold maxLen; decide⟩
theorem ok_0 : (Vl.mk 0 0 []).Ok := ⟨by unfold I64; decide, by unfold I64; decide, by unfold maxLen; decide⟩
theorem key_a : keyV ⟨3, 0, [97]⟩ = [3, 97, 0, 0] := by decide
theorem good_0 : goodV ⟨0, 0, []⟩ = true := by decide

set_option maxHeartbeats 1600000 in
theorem alive_any (w : World) (ht : Tb w) :
    Calls Tryz.prog 4 #[] w fun e w' => e = .returned (.bool true) ∧ Below w.heap.size w w' := by
  have hh := canonI_half
  go_enter Tryz.func4, Tryz.ntmps4
  go_wp2_with fail
  refine (vtext_any [97] w).mono ?_
  rintro e w1 ⟨rfl, b1⟩
  go_wp2_with fail
  refine (vkey_any ⟨3, 0, [97]⟩ ok_a w1 (ht.below b1).lens).mono ?_
  rintro e w2 ⟨rfl, b2⟩
  rw [key_a]
  have hb2 := below_in b1 b2
  go_wp2_with fail
  refine (vfloat_any _ w2).mono ?_
  rintro e w3 ⟨rfl, b3⟩
  rw [hh]
  have hb3 := below_in hb2 b3
  go_wp2_with fail
  refine (vshow_half w3 (ht.below hb3).half).mono ?_
  rintro e w4 ⟨rfl, b4⟩
  have hb4 := below_in hb3 b4
  go_wp2_with fail
  refine (vgood_any ⟨0, 0, []⟩ ok_0 w4).mono ?_
  rintro e w5 ⟨rfl, b5⟩
  rw [good_0]
  go_wp2_with fail
  go_ret
  exact ⟨rfl, below_in hb4 b5⟩
end Go.Proofs.YtkaeaiagmihmgaaGreatDoor
