/- The walks of the reference's Less and Compare (layer 3), of Text, Float and Show at one half, and of the laws' first test. -/
import Derived.Test.YtnlfemfkjjjdhaaDoorValD
import Derived.Test.YtnlfemfkjjjdhaaDoorFmtE
namespace Go.Proofs.YtnlfemfkjjjdhaaDoor
open Go.RowKit
open Go.Op (bytesLess)

theorem below_box2 (w : World) (o p : Obj) : Below w.heap.size w ((w.alloc o).alloc p) := (below_box w o).alloc (by simp) _

set_option maxHeartbeats 400000 in
theorem vtext_any (t : List UInt8) (w : World) :
    Calls Tryd.prog 11 #[.string ⟨t.toArray⟩] w fun e w' => e = .returned (Vl.mk 3 0 t).val ∧ Below w.heap.size w w' := by
  go_enter Tryd.func11, Tryd.ntmps11
  go_wp2
  refine bodyPost_ret (v := (Vl.mk 3 0 t).val) (by simp [results, Tryd.results11, go_sem, Vl.val]) rfl ⟨rfl, below_box _ _⟩

set_option maxHeartbeats 400000 in
theorem vfloat_any (b : Nat) (w : World) :
    Calls Tryd.prog 9 #[.float .f64 b] w fun e w' => e = .returned (Vl.mk 2 (canonI b) []).val ∧ Below w.heap.size w w' := by
  go_enter Tryd.func9, Tryd.ntmps9
  go_wp2_with (go_at_call 16; refine (canon_any _ _).mono ?_; rintro e w' ⟨rfl, rfl⟩)
  refine bodyPost_ret (v := (Vl.mk 2 (canonI b) []).val) (by simp [results, Tryd.results9, go_sem, Vl.val]) rfl ⟨rfl, below_box _ _⟩

set_option maxHeartbeats 800000 in
theorem vshow_half (w : World) (ht : HalfTabs w) :
    Calls Tryd.prog 13 #[(Vl.mk 2 4602678819172646912 []).val] w fun e w' => e = .returned (.string ⟨#[102, 48, 46, 53]⟩) ∧ Below w.heap.size w w' := by
  have hb := below_box w (.cells #[.int .i64 2, .int .i64 4602678819172646912, .string ⟨#[]⟩] 23)
  show Calls _ _ #[.agg #[.int .i64 2, .int .i64 4602678819172646912, .string ⟨#[]⟩]] w _
  go_enter Tryd.func13, Tryd.ntmps13
  go_wp2_with fail
  refine (text_half _ (ht.below hb)).mono ?_
  rintro e w1 ⟨rfl, b1⟩
  go_wp2_with fail
  go_ret
  exact ⟨rfl, below_in hb b1⟩

theorem ok_a : (Vl.mk 3 0 [97]).Ok := ⟨by unfold I64; decide, by unfold I64; decide, by unfold maxLen; decide⟩
theorem ok_0 : (Vl.mk 0 0 []).Ok := ⟨by unfold I64; decide, by unfold I64; decide, by unfold maxLen; decide⟩
theorem key_a : keyV ⟨3, 0, [97]⟩ = [3, 97, 0, 0] := by decide
theorem good_0 : goodV ⟨0, 0, []⟩ = true := by decide

set_option maxHeartbeats 1600000 in
theorem alive_any (w : World) (ht : Tb w) :
    Calls Tryd.prog 4 #[] w fun e w' => e = .returned (.bool true) ∧ Below w.heap.size w w' := by
  have hh := canonI_half
  go_enter Tryd.func4, Tryd.ntmps4
  go_wp2_with fail
  refine (vtext_any [97] w).mono ?_
  rintro e w1 ⟨rfl, b1⟩
  go_wp2_with fail
  refine (vkey_any ⟨3, 0, [97]⟩ ok_a w1 (ht.below b1).lens).mono ?_
  rintro e w2 ⟨rfl, b2⟩
  rw [key_a]
  have hb2 := below_in b1 b2
  go_wp2_with fail
  refine (vfloat_any _ w2).mono ?_
  rintro e w3 ⟨rfl, b3⟩
  rw [hh]
  have hb3 := below_in hb2 b3
  go_wp2_with fail
  refine (vshow_half w3 (ht.below hb3).half).mono ?_
  rintro e w4 ⟨rfl, b4⟩
  have hb4 := below_in hb3 b4
  go_wp2_with fail
  refine (vgood_any ⟨0, 0, []⟩ ok_0 w4).mono ?_
  rintro e w5 ⟨rfl, b5⟩
  rw [good_0]
  go_wp2_with fail
  go_ret
  exact ⟨rfl, below_in hb4 b5⟩
end Go.Proofs.YtnlfemfkjjjdhaaDoor
