/- The walks of the keys' functions, continued (package cell, and the reference of layer 7). -/
import Derived.Test.YtcjbnpeopalbfaaDoorCellB
namespace Go.Proofs.YtcjbnpeopalbfaaDoor
open Go.RowKit

section
variable (a b c : List UInt8) (ha : a.length ≤ maxLen) (hb : b.length ≤ maxLen) (hc : c.length ≤ maxLen) (v : Vl) (hv : v.Ok) (w : World)

set_option maxRecDepth 100000 in
set_option maxHeartbeats 1600000 in
include ha hb hv in
theorem ofUniq_any (ht : Lens w) :
    Calls Tryd.prog 12 #[.string ⟨a.toArray⟩, .string ⟨b.toArray⟩, v.val] w fun e w' => e = .returned (.string ⟨(uniqK a b v).toArray⟩) ∧ Below w.heap.size w w' := by
  have l1 := nameK_len a
  have l2 := nameK_len b
  have l3 := esc_len2 v
  have e0 : Hid (uniqK a b v = (117 : Nat).toUInt8 :: (nameK a ++ nameK b ++ keyV v)) := rfl
  obtain ⟨x, hx⟩ : ∃ x, nameK a = x := ⟨_, rfl⟩
  obtain ⟨x2, hx2⟩ : ∃ x, nameK b = x := ⟨_, rfl⟩
  obtain ⟨y, hy⟩ : ∃ y, keyV v = y := ⟨_, rfl⟩
  rw [hx] at l1
  rw [hx2] at l2
  rw [hy] at l3
  rw [hx, hx2, hy] at e0
  have HX := Lib.hid hx
  have HX2 := Lib.hid hx2
  have HY := Lib.hid hy
  obtain ⟨k, n, t⟩ := v
  have HV := Lib.hid hv
  have HA := Lib.hid ha
  have HB := Lib.hid hb
  clear hv ha hb hx hx2 hy
  show Calls _ _ #[_, _, .agg #[.int .i64 k, .int .i64 n, .string ⟨t.toArray⟩]] w _
  have hA := At.fresh w 23 #[.int .i64 k, .int .i64 n, .string ⟨t.toArray⟩]
  have hb := below_box w (.cells #[.int .i64 k, .int .i64 n, .string ⟨t.toArray⟩] 23)
  have hD : Below (w.alloc (.cells #[.int .i64 k, .int .i64 n, .string ⟨t.toArray⟩] 23)).heap.size (w.alloc (.cells #[.int .i64 k, .int .i64 n, .string ⟨t.toArray⟩] 23)) (w.alloc (.cells #[.int .i64 k, .int .i64 n, .string ⟨t.toArray⟩] 23)).drew := (Below.refl _ _).drew
  obtain ⟨hAD, S0⟩ := heldV hA hD
  have hbD := below_in hb hD
  clear hA hD hb
  go_enter Tryd.func12, Tryd.ntmps12
  go_wp2_with fail
  generalize (w.alloc (.cells #[.int .i64 k, .int .i64 n, .string ⟨t.toArray⟩] 23)) = wb at *
  go_region_held3 (fun w' => w'.cell? ⟨w.heap.size, 0, none⟩ = some (.int .i64 k) ∧ w'.cell? ⟨w.heap.size, 1, none⟩ = some (.int .i64 n) ∧ w'.cell? ⟨w.heap.size, 2, none⟩ = some (.string ⟨t.toArray⟩))
    (first | exact S0 | exact S1 | exact S2 | exact S3 | exact S4 | exact S5)
    (first
      | (go_at_call_of 31 (Value.string ⟨a.toArray⟩); refine (name_any a HA.out wb.drew (ht.below hbD)).mono ?_; rintro e w3 ⟨rfl, b3⟩; rw [HX.out]; obtain ⟨hA3, S1⟩ := heldV hAD b3; have hb3 := below_in hbD b3)
      | (go_at_call_of 31 (Value.string ⟨b.toArray⟩); refine (name_any b HB.out w3 (ht.below hb3)).mono ?_; rintro e w4 ⟨rfl, b4⟩; rw [HX2.out]; obtain ⟨hA4, S2⟩ := heldV hA3 b4; have hb4 := below_in hb3 b4)
      | (go_at_call 27; refine (vkey_any ⟨k, n, t⟩ HV.out w4 (ht.below hb4)).mono ?_; rintro e w5 ⟨rfl, b5⟩; rw [HY.out]; obtain ⟨hA5, S3⟩ := heldV hA4 b5; have hb5 := below_in hb4 b5; have b6 := below_box w5 (.cells #[.string ⟨x.toArray⟩, .string ⟨x2.toArray⟩, .string ⟨y.toArray⟩] 9); obtain ⟨hA6, S4⟩ := heldV hA5 b6; clear b6 hA6)
      | (go_at_call 30; refine (join_three 117 (by omega) x x2 y (by omega) (by omega) (by omega) w5).mono ?_; rintro e w6 ⟨rfl, b7⟩; obtain ⟨hA7, S5⟩ := heldV hA5 b7; have hb7 := below_in hb5 b7))
  all_goals
    go_wp2_with fail
    go_ret
    exact ⟨ret_s (by rw [e0.out]; simp), hb7⟩

set_option maxRecDepth 100000 in
set_option maxHeartbeats 1600000 in
include ha hb hc hv in
theorem refs_any (ht : Lens w) :
    Calls Tryd.prog 19 #[.string ⟨a.toArray⟩, v.val, .string ⟨b.toArray⟩, .string ⟨c.toArray⟩] w fun e w' => e = .returned (.string ⟨(refsK a v b c).toArray⟩) ∧ Below w.heap.size w w' := by
  have l1 := nameK_len a
  have l2 := nameK_len b
  have l4 := nameK_len c
  have l3 := esc_len2 v
  have e0 : Hid (refsK a v b c = (102 : Nat).toUInt8 :: (nameK a ++ keyV v ++ nameK b ++ nameK c)) := rfl
  obtain ⟨x, hx⟩ : ∃ x, nameK a = x := ⟨_, rfl⟩
  obtain ⟨x2, hx2⟩ : ∃ x, nameK b = x := ⟨_, rfl⟩
  obtain ⟨x3, hx3⟩ : ∃ x, nameK c = x := ⟨_, rfl⟩
  obtain ⟨y, hy⟩ : ∃ y, keyV v = y := ⟨_, rfl⟩
  rw [hx] at l1
  rw [hx2] at l2
  rw [hx3] at l4
  rw [hy] at l3
  rw [hx, hx2, hx3, hy] at e0
  have HX := Lib.hid hx
  have HX2 := Lib.hid hx2
  have HX3 := Lib.hid hx3
  have HY := Lib.hid hy
  obtain ⟨k, n, t⟩ := v
  have HV := Lib.hid hv
  have HA := Lib.hid ha
  have HB := Lib.hid hb
  have HC := Lib.hid hc
  clear hv ha hb hc hx hx2 hx3 hy
  show Calls _ _ #[_, .agg #[.int .i64 k, .int .i64 n, .string ⟨t.toArray⟩], _, _] w _
  have hA := At.fresh w 23 #[.int .i64 k, .int .i64 n, .string ⟨t.toArray⟩]
  have hb := below_box w (.cells #[.int .i64 k, .int .i64 n, .string ⟨t.toArray⟩] 23)
  have hD : Below (w.alloc (.cells #[.int .i64 k, .int .i64 n, .string ⟨t.toArray⟩] 23)).heap.size (w.alloc (.cells #[.int .i64 k, .int .i64 n, .string ⟨t.toArray⟩] 23)) (w.alloc (.cells #[.int .i64 k, .int .i64 n, .string ⟨t.toArray⟩] 23)).drew := (Below.refl _ _).drew
  obtain ⟨hAD, S0⟩ := heldV hA hD
  have hbD := below_in hb hD
  clear hA hD hb
  go_enter Tryd.func19, Tryd.ntmps19
  go_wp2_with fail
  generalize (w.alloc (.cells #[.int .i64 k, .int .i64 n, .string ⟨t.toArray⟩] 23)) = wb at *
  go_region_held3 (fun w' => w'.cell? ⟨w.heap.size, 0, none⟩ = some (.int .i64 k) ∧ w'.cell? ⟨w.heap.size, 1, none⟩ = some (.int .i64 n) ∧ w'.cell? ⟨w.heap.size, 2, none⟩ = some (.string ⟨t.toArray⟩))
    (first | exact S0 | exact S1 | exact S2 | exact S3 | exact S4 | exact S5 | exact S6)
    (first
      | (go_at_call_of 31 (Value.string ⟨a.toArray⟩); refine (name_any a HA.out wb.drew (ht.below hbD)).mono ?_; rintro e w3 ⟨rfl, b3⟩; rw [HX.out]; obtain ⟨hA3, S1⟩ := heldV hAD b3; have hb3 := below_in hbD b3)
      | (go_at_call 27; refine (vkey_any ⟨k, n, t⟩ HV.out w3 (ht.below hb3)).mono ?_; rintro e w4 ⟨rfl, b4⟩; rw [HY.out]; obtain ⟨hA4, S2⟩ := heldV hA3 b4; have hb4 := below_in hb3 b4)
      | (go_at_call_of 31 (Value.string ⟨b.toArray⟩); refine (name_any b HB.out w4 (ht.below hb4)).mono ?_; rintro e w5 ⟨rfl, b5⟩; rw [HX2.out]; obtain ⟨hA5, S3⟩ := heldV hA4 b5; have hb5 := below_in hb4 b5)
      | (go_at_call_of 31 (Value.string ⟨c.toArray⟩); refine (name_any c HC.out w5 (ht.below hb5)).mono ?_; rintro e w6 ⟨rfl, b6⟩; rw [HX3.out]; obtain ⟨hA6, S4⟩ := heldV hA5 b6; have hb6 := below_in hb5 b6; have b9 := below_box w6 (.cells #[.string ⟨x.toArray⟩, .string ⟨y.toArray⟩, .string ⟨x2.toArray⟩, .string ⟨x3.toArray⟩] 9); obtain ⟨hA9, S5⟩ := heldV hA6 b9; clear b9 hA9)
      | (go_at_call 30; refine (join_four 102 (by omega) x y x2 x3 (by omega) (by omega) (by omega) (by omega) w6).mono ?_; rintro e w7 ⟨rfl, b7⟩; obtain ⟨hA7, S6⟩ := heldV hA6 b7; have hb7 := below_in hb6 b7))
  all_goals
    go_wp2_with fail
    go_ret
    exact ⟨ret_s (by rw [e0.out]; simp), hb7⟩
end
end Go.Proofs.YtcjbnpeopalbfaaDoor
