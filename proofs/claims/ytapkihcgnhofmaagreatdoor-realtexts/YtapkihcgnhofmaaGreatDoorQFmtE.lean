/- strconv.FormatFloat at one half, and what real.Text and the laws' first test make of it. -/
import Derived.Test.YtapkihcgnhofmaaGreatDoorQFmt
import Derived.Test.YtapkihcgnhofmaaGreatDoorQRealA
namespace Go.Proofs.YtapkihcgnhofmaaGreatDoor
open Go.RowKit Go.Sort

set_option maxRecDepth 100000 in
set_option maxHeartbeats 1600000 in
theorem formatFloat_half (w : World) (ht : HalfTabs w) :
    Calls Tryz.prog 21 #[.float .f64 4602678819172646912, .int .u8 103, .int .i64 (-1), .int .i64 64] w fun e w' => e = .returned (.string ⟨#[48, 46, 53]⟩) ∧ Below w.heap.size w w' := by
  have m1 : max (3 : Int) 24 = 24 := rfl
  go_enter Tryz.func21, Tryz.ntmps21
  obtain ⟨i0, hi0, hz0, hz1, hz2⟩ := info_parts info_u8
  go_wp2_with (refine wpList_make_own w rfl (.const (.int .i64 0)) (.tmp 25) 47 rfl w.heap.size 5 i0 (.int .u8 0) 1 Tryz.underlying47 hi0 hz0 hz1 .i64 .i64 24 24 rfl rfl rfl ?c1 ?c2 ?c3 ?_)
  case c1 => omega
  case c2 => unfold maxLen; omega
  case c3 => omega
  intro w1 o1 r1
  have hv : Owns w1 w.heap.size 5 (.slice (some ⟨w.heap.size, 0, none⟩) 0 24) [] := o1
  have b1 : Below w.heap.size w w1 := (Below.refl _ _).grown r1 (Nat.le_refl _) (fun k h => by cases h)
  go_wp2_with fail
  refine (ftoa64_half w1 w.heap.size _ hv r1.size (ht.below b1)).mono ?_
  rintro e w2 ⟨v', rfl, o2, b2⟩
  have hx := run_bytes_owned (P := Tryz.prog) 47 9 5 Tryz.underlying47 Tryz.underlying5 Tryz.underlying9 o2
  go_wp2
  go_ret
  exact ⟨rfl, b1.trans b2⟩

set_option maxHeartbeats 400000 in
theorem strFormatFloat_half (w : World) (ht : HalfTabs w) :
    Calls Tryz.prog 8 #[.float .f64 4602678819172646912, .int .u8 103, .int .i64 (-1), .int .i64 64] w fun e w' => e = .returned (.string ⟨#[48, 46, 53]⟩) ∧ Below w.heap.size w w' := by
  go_enter Tryz.func8, Tryz.ntmps8
  go_wp2_with fail
  refine (formatFloat_half w ht).mono ?_
  rintro e w1 ⟨rfl, b1⟩
  go_wp2
  go_ret
  exact ⟨rfl, b1⟩

theorem canonI_half : canonI 4602678819172646912 = 4602678819172646912 := by decide
theorem wordOf_half : wordOf 4602678819172646912 = 4602678819172646912 := by decide
theorem canonI_nought : canonI 9223372036854775808 = 0 := by decide
theorem canonI_top : canonI 9221120237041090561 = 9221120237041090560 := by decide
theorem canonI_inf : canonI 9218868437227405312 = 9218868437227405312 := by decide
theorem cmp_top : cmpI (keyI 9221120237041090560) (keyI 9218868437227405312) = 1 := by decide

set_option maxHeartbeats 400000 in
theorem text_half (w : World) (ht : HalfTabs w) :
    Calls Tryz.prog 7 #[.int .i64 4602678819172646912] w fun e w' => e = .returned (.string ⟨#[48, 46, 53]⟩) ∧ Below w.heap.size w w' := by
  have h1 := wordOf_half
  have h2 := canonI_half
  go_enter Tryz.func7, Tryz.ntmps7
  go_wp2_with (first | (go_at_call 20; refine (canonBits_any _ _).mono ?_; rintro e w' ⟨rfl, rfl⟩) | (go_at_call 19; refine (of_any _ _).mono ?_; rintro e w' ⟨rfl, rfl⟩))
  refine (strFormatFloat_half w ht).mono ?_
  rintro e w1 ⟨rfl, b1⟩
  go_wp2
  go_ret
  exact ⟨rfl, b1⟩

theorem cc1 : bits .andNot .u64 0 9223372036854775808 = 0 := by kernel_rfl
theorem cc2 : bits .and .u64 13830554455654793216 9223372036854775808 = 9223372036854775808 := by kernel_rfl
theorem cc3 : bits .or .u64 0 9223372036854775808 = 9223372036854775808 := by kernel_rfl
theorem copysign_at (w : World) : Calls Tryz.prog 12 #[.float .f64 0, .float .f64 13830554455654793216] w fun e w' => e = .returned (.float .f64 9223372036854775808) ∧ w = w' := by
  have f1 := tobits
  have f2 := frombits
  have c1 := cc1
  have c2 := cc2
  have c3 := cc3
  go_enter Tryz.func12, Tryz.ntmps12
  go_wp2
  go_ret
  exact ⟨rfl, rfl⟩
theorem nan_at (w : World) : Calls Tryz.prog 14 #[] w fun e w' => e = .returned (.float .f64 9221120237041090561) ∧ w = w' := by
  have f2 := frombits
  go_enter Tryz.func14, Tryz.ntmps14
  go_wp2
  go_ret
  exact ⟨rfl, rfl⟩
theorem inf_at (w : World) : Calls Tryz.prog 15 #[.int .i64 1] w fun e w' => e = .returned (.float .f64 9218868437227405312) ∧ w = w' := by
  have f2 := frombits
  go_enter Tryz.func15, Tryz.ntmps15
  go_wp2
  go_ret
  exact ⟨rfl, rfl⟩

set_option maxHeartbeats 1600000 in
theorem alive_any (w : World) (ht : HalfTabs w) :
    Calls Tryz.prog 4 #[] w fun e w' => e = .returned (.bool true) ∧ Below w.heap.size w w' := by
  have h1 := canonI_half
  have h2 := canonI_nought
  have h3 := canonI_top
  have h4 := canonI_inf
  have h5 := cmp_top
  go_enter Tryz.func4, Tryz.ntmps4
  go_wp2_with (first
    | (go_at_call 12; refine (copysign_at _).mono ?_; rintro e w' ⟨rfl, rfl⟩)
    | (go_at_call 14; refine (nan_at _).mono ?_; rintro e w' ⟨rfl, rfl⟩)
    | (go_at_call 15; refine (inf_at _).mono ?_; rintro e w' ⟨rfl, rfl⟩)
    | (go_at_call 11; refine (canon_any _ _).mono ?_; rintro e w' ⟨rfl, rfl⟩)
    | (go_at_call 13; refine (compare_any _ _ _).mono ?_; rintro e w' ⟨rfl, rfl⟩))
  refine (text_half w ht).mono ?_
  rintro e w1 ⟨rfl, b1⟩
  go_wp2
  go_ret
  exact ⟨rfl, b1⟩
end Go.Proofs.YtapkihcgnhofmaaGreatDoor
