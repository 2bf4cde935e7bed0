/- The walk of the law ValueGood. -/
import Derived.Test.YtnlfemfkjjjdhaaDoorValF
import Derived.Test.YtnlfemfkjjjdhaaDoorValG
import Derived.Deep.RegionHeld3
namespace Go.Proofs.YtnlfemfkjjjdhaaDoor
open Go.RowKit

theorem int_agg (n : Int) (w : World) : Calls Tryd.prog 8 #[.int .i64 n] w fun e w' => e = .returned (.agg #[.int .i64 1, .int .i64 n, .string ⟨#[]⟩]) ∧ Below w.heap.size w w' := vint_any n w
theorem float_agg (b : Nat) (w : World) : Calls Tryd.prog 9 #[.float .f64 b] w fun e w' => e = .returned (.agg #[.int .i64 2, .int .i64 (canonI b), .string ⟨#[]⟩]) ∧ Below w.heap.size w w' := vfloat_any b w
theorem text_agg (t : List UInt8) (w : World) : Calls Tryd.prog 11 #[.string ⟨t.toArray⟩] w fun e w' => e = .returned (.agg #[.int .i64 3, .int .i64 0, .string ⟨t.toArray⟩]) ∧ Below w.heap.size w w' := vtext_any t w

theorem three {w w' : World} {A : Nat} {k n : Int} {t : List UInt8} (h : At w A 23 #[.int .i64 k, .int .i64 n, .string ⟨t.toArray⟩]) (hb : Below w.heap.size w w') :
    At w' A 23 #[.int .i64 k, .int .i64 n, .string ⟨t.toArray⟩] ∧ (w'.cell? ⟨A, 0, none⟩ = some (.int .i64 k) ∧ w'.cell? ⟨A, 1, none⟩ = some (.int .i64 n) ∧ w'.cell? ⟨A, 2, none⟩ = some (.string ⟨t.toArray⟩)) := by
  have hA := h.below hb h.lt
  exact ⟨hA, At.cell hA 0, At.cell hA 1, At.cell hA 2⟩

set_option maxRecDepth 100000 in
set_option maxHeartbeats 3200000 in
theorem valueGood_main (v : Vl) (m : Int) (f : Nat) (w : World) (ht : Tb w) (hv : v.Ok) (hf : f < 18446744073709551616) :
    Calls Tryd.prog 3 #[v.val, .int .i64 m, .float .f64 f] w fun e w' => e = .returned (.bool true) ∧ Below w.heap.size w w' := by
  obtain ⟨k, n, t⟩ := v
  have HV := Lib.hid hv
  have HF := hf
  clear hv HF hf
  show Calls _ _ #[.agg #[.int .i64 k, .int .i64 n, .string ⟨t.toArray⟩], .int .i64 m, .float .f64 f] w _
  have b0 := below_box w (.cells #[.int .i64 k, .int .i64 n, .string ⟨t.toArray⟩] 23)
  go_enter Tryd.func3, Tryd.ntmps3
  go_wp2_with fail
  refine (alive_any _ (ht.below b0)).mono ?_
  rintro e w1 ⟨rfl, b1⟩
  obtain ⟨hA1, hb1⟩ := boxed k n t b1
  have c0 : w1.cell? ⟨w.heap.size, 0, none⟩ = some (.int .i64 k) := At.cell hA1 0
  have c1 : w1.cell? ⟨w.heap.size, 1, none⟩ = some (.int .i64 n) := At.cell hA1 1
  have c2 : w1.cell? ⟨w.heap.size, 2, none⟩ = some (.string ⟨t.toArray⟩) := At.cell hA1 2
  go_wp2_with fail
  refine (great_any _ _ _ _ _ (Vals.one w1 ⟨k, n, t⟩) (by intro v hv; simp at hv; subst hv; exact HV.out) (by unfold maxLen; omega)).mono ?_
  rintro e w2 ⟨rfl, b2⟩
  have b2' := below_in (below_box w1 _) b2
  have hA2 := hA1.below b2' hA1.lt
  have hb2 := below_in hb1 b2'
  clear b0 b1 b2 b2' c0 c1 c2 hA1 hb1
  cases hgr : greatB [⟨k, n, t⟩] with
  | true =>
    go_wp2_with fail
    go_ret
    exact ⟨rfl, hb2⟩
  | false =>
  clear hgr
  go_wp2_with fail
  have d2 : Below w2.heap.size w2 w2.drew := (Below.refl _ _).drew
  have hbD := below_in hb2 d2
  obtain ⟨hAD, S0⟩ := three hA2 d2
  obtain ⟨g, hg⟩ : ∃ g, goodV ⟨k, n, t⟩ = g := ⟨_, rfl⟩
  have hV := fun w => vgood_any ⟨k, n, t⟩ HV.out w
  have hR := fun w => rgood_any ⟨k, n, t⟩ HV.out w
  rw [hg] at hV hR
  have HVG := Lib.hid hV
  have HRG := Lib.hid hR
  clear hV hR hg
  go_region_held3 (fun w' => w'.cell? ⟨w.heap.size, 0, none⟩ = some (.int .i64 k) ∧ w'.cell? ⟨w.heap.size, 1, none⟩ = some (.int .i64 n) ∧ w'.cell? ⟨w.heap.size, 2, none⟩ = some (.string ⟨t.toArray⟩))
    (first | exact S0 | exact S1 | exact S2 | exact S3 | exact S4 | exact S5)
    (first
      | (go_at_call 6; refine (HVG.out w2.drew).mono ?_; rintro e w3 ⟨rfl, b3⟩; obtain ⟨hA3, S1⟩ := three hAD b3; have hb3 := below_in hbD b3)
      | (go_at_call 7; refine (HRG.out w3).mono ?_; rintro e w4 ⟨rfl, b4⟩; obtain ⟨hA4, S2⟩ := three hA3 b4; have hb4 := below_in hb3 b4)
      | (go_at_call 8; refine (int_agg m w4).mono ?_; rintro e w5 ⟨rfl, b5⟩; obtain ⟨hA5, S3⟩ := three hA4 b5; have hb5 := below_in hb4 b5)
      | (go_at_call 9; refine (float_agg f w5).mono ?_; rintro e w6 ⟨rfl, b6⟩; obtain ⟨hA6, S4⟩ := three hA5 b6; have hb6 := below_in hb5 b6)
      | (go_at_call 10; refine (refKept_any f w6).mono ?_; rintro e w' ⟨rfl, rfl⟩)
      | (go_at_call 11; refine (text_agg t _).mono ?_; rintro e w7 ⟨rfl, b7⟩; obtain ⟨hA7, S5⟩ := three hA6 b7; have hb7 := below_in hb6 b7))
  go_wp2_with fail
  go_ret
  exact ⟨rfl, hb7⟩
end Go.Proofs.YtnlfemfkjjjdhaaDoor
