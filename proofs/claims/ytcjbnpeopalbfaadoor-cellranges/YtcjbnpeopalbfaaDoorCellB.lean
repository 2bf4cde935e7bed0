/- The walks of the keys' functions (package cell, and the reference of layer 7). -/
import Derived.Test.YtcjbnpeopalbfaaDoorCellA
namespace Go.Proofs.YtcjbnpeopalbfaaDoor
open Go.RowKit

theorem heldV {w w' : World} {A : Nat} {k n : Int} {t : List UInt8} (h : At w A 23 #[.int .i64 k, .int .i64 n, .string ⟨t.toArray⟩]) (hb : Below w.heap.size w w') :
    At w' A 23 #[.int .i64 k, .int .i64 n, .string ⟨t.toArray⟩] ∧ (w'.cell? ⟨A, 0, none⟩ = some (.int .i64 k) ∧ w'.cell? ⟨A, 1, none⟩ = some (.int .i64 n) ∧ w'.cell? ⟨A, 2, none⟩ = some (.string ⟨t.toArray⟩)) := by
  have hA := h.below hb h.lt
  exact ⟨hA, At.cell hA 0, At.cell hA 1, At.cell hA 2⟩

set_option maxHeartbeats 400000 in
theorem name_any (a : List UInt8) (ha : a.length ≤ maxLen) (w : World) (ht : Lens w) :
    Calls Tryd.prog 31 #[.string ⟨a.toArray⟩] w fun e w' => e = .returned (.string ⟨(nameK a).toArray⟩) ∧ Below w.heap.size w w' := by
  go_enter Tryd.func31, Tryd.ntmps31
  go_wp2_with fail
  refine (vtext_any a w).mono ?_
  rintro e w1 ⟨rfl, b1⟩
  go_wp2_with fail
  refine (vkey_any ⟨3, 0, a⟩ (ok_name ha) w1 (ht.below b1)).mono ?_
  rintro e w2 ⟨rfl, b2⟩
  have hb2 := below_in b1 b2
  go_wp2_with fail
  go_ret
  exact ⟨rfl, hb2⟩

set_option maxHeartbeats 400000 in
theorem rname_any (a : List UInt8) (ha : a.length ≤ maxLen) (w : World) :
    Calls Tryd.prog 28 #[.string ⟨a.toArray⟩] w fun e w' => e = .returned (.string ⟨(nameK a).toArray⟩) ∧ Below w.heap.size w w' := by
  go_enter Tryd.func28, Tryd.ntmps28
  go_wp2_with fail
  refine (rkey_any ⟨3, 0, a⟩ (ok_name ha) w).mono ?_
  rintro e w2 ⟨rfl, b2⟩
  go_wp2_with fail
  go_ret
  exact ⟨rfl, b2⟩

/-- join of one part that lies in a block just made. -/
theorem join_one (k : Nat) (hk : k < 256) (z : List UInt8) (hz : z.length ≤ 1000) (w : World) :
    Calls Tryd.prog 30 #[.int .u8 k, .slice (some ⟨w.heap.size, 0, none⟩) 1 1] (w.alloc (.cells #[.string ⟨z.toArray⟩] 9)) fun e w' => e = .returned (.string ⟨(k.toUInt8 :: z).toArray⟩) ∧ Below w.heap.size w w' := by
  have hA := At.fresh w 9 #[.string ⟨z.toArray⟩]
  refine (join_any k hk w.heap.size [z] _ hA.lt ?_ (by simp) (by simp; omega)).mono ?_
  · intro j s hj
    rw [hA.cell j]
    match j with
    | 0 => simp at hj; subst hj; rfl
    | j + 1 => simp at hj
  · rintro e w' ⟨rfl, b⟩
    exact ⟨by simp, below_in (below_box w _) b⟩
theorem join_three (k : Nat) (hk : k < 256) (z1 z2 z3 : List UInt8) (h1 : z1.length ≤ 1000) (h2 : z2.length ≤ 1000) (h3 : z3.length ≤ 1000) (w : World) :
    Calls Tryd.prog 30 #[.int .u8 k, .slice (some ⟨w.heap.size, 0, none⟩) 3 3] (w.alloc (.cells #[.string ⟨z1.toArray⟩, .string ⟨z2.toArray⟩, .string ⟨z3.toArray⟩] 9)) fun e w' => e = .returned (.string ⟨(k.toUInt8 :: (z1 ++ z2 ++ z3)).toArray⟩) ∧ Below w.heap.size w w' := by
  have hA := At.fresh w 9 #[.string ⟨z1.toArray⟩, .string ⟨z2.toArray⟩, .string ⟨z3.toArray⟩]
  refine (join_any k hk w.heap.size [z1, z2, z3] _ hA.lt ?_ (by simp) (by simp; omega)).mono ?_
  · intro j s hj
    rw [hA.cell j]
    match j with
    | 0 => simp at hj; subst hj; rfl
    | 1 => simp at hj; subst hj; rfl
    | 2 => simp at hj; subst hj; rfl
    | j + 3 => simp at hj
  · rintro e w' ⟨rfl, b⟩
    exact ⟨by simp, below_in (below_box w _) b⟩
theorem join_four (k : Nat) (hk : k < 256) (z1 z2 z3 z4 : List UInt8) (h1 : z1.length ≤ 1000) (h2 : z2.length ≤ 1000) (h3 : z3.length ≤ 1000) (h4 : z4.length ≤ 1000) (w : World) :
    Calls Tryd.prog 30 #[.int .u8 k, .slice (some ⟨w.heap.size, 0, none⟩) 4 4] (w.alloc (.cells #[.string ⟨z1.toArray⟩, .string ⟨z2.toArray⟩, .string ⟨z3.toArray⟩, .string ⟨z4.toArray⟩] 9)) fun e w' => e = .returned (.string ⟨(k.toUInt8 :: (z1 ++ z2 ++ z3 ++ z4)).toArray⟩) ∧ Below w.heap.size w w' := by
  have hA := At.fresh w 9 #[.string ⟨z1.toArray⟩, .string ⟨z2.toArray⟩, .string ⟨z3.toArray⟩, .string ⟨z4.toArray⟩]
  refine (join_any k hk w.heap.size [z1, z2, z3, z4] _ hA.lt ?_ (by simp) (by simp; omega)).mono ?_
  · intro j s hj
    rw [hA.cell j]
    match j with
    | 0 => simp at hj; subst hj; rfl
    | 1 => simp at hj; subst hj; rfl
    | 2 => simp at hj; subst hj; rfl
    | 3 => simp at hj; subst hj; rfl
    | j + 4 => simp at hj
  · rintro e w' ⟨rfl, b⟩
    exact ⟨by simp, below_in (below_box w _) b⟩

set_option maxHeartbeats 400000 in
theorem ofTable_any (a : List UInt8) (ha : a.length ≤ maxLen) (w : World) (ht : Lens w) :
    Calls Tryd.prog 16 #[.string ⟨a.toArray⟩] w fun e w' => e = .returned (.string ⟨(tabK a).toArray⟩) ∧ Below w.heap.size w w' := by
  go_enter Tryd.func16, Tryd.ntmps16
  go_wp2_with fail
  refine (name_any a ha w ht).mono ?_
  rintro e w1 ⟨rfl, b1⟩
  go_wp2_with fail
  refine (join_one 116 (by omega) (nameK a) (by have := nameK_len a; omega) w1).mono ?_
  rintro e w2 ⟨rfl, b2⟩
  have hb2 := below_in b1 b2
  go_wp2_with fail
  go_ret
  exact ⟨rfl, hb2⟩
set_option maxHeartbeats 400000 in
theorem rows_any (a : List UInt8) (ha : a.length ≤ maxLen) (w : World) (ht : Lens w) :
    Calls Tryd.prog 18 #[.string ⟨a.toArray⟩] w fun e w' => e = .returned (.string ⟨(rowsK a).toArray⟩) ∧ Below w.heap.size w w' := by
  go_enter Tryd.func18, Tryd.ntmps18
  go_wp2_with fail
  refine (name_any a ha w ht).mono ?_
  rintro e w1 ⟨rfl, b1⟩
  go_wp2_with fail
  refine (join_one 114 (by omega) (nameK a) (by have := nameK_len a; omega) w1).mono ?_
  rintro e w2 ⟨rfl, b2⟩
  have hb2 := below_in b1 b2
  go_wp2_with fail
  go_ret
  exact ⟨rfl, hb2⟩

/-- Two texts put together. -/
theorem ret_app (x y : List UInt8) : Ending.returned (.string (ByteArray.mk x.toArray ++ ByteArray.mk y.toArray)) = .returned (.string ⟨(x ++ y).toArray⟩) :=
  congrArg (fun z => Ending.returned (Value.string z)) (ByteArray.mk_append_mk x y)

set_option maxRecDepth 100000 in
set_option maxHeartbeats 1600000 in
theorem ofRow_any (a : List UInt8) (ha : a.length ≤ maxLen) (v : Vl) (hv : v.Ok) (w : World) (ht : Lens w) :
    Calls Tryd.prog 10 #[.string ⟨a.toArray⟩, v.val] w fun e w' => e = .returned (.string ⟨(rowK a v).toArray⟩) ∧ Below w.heap.size w w' := by
  have l1 := nameK_len a
  have l2 := esc_len2 v
  have e0 : Hid (rowK a v = rowsK a ++ keyV v) := rfl
  obtain ⟨x, hx⟩ : ∃ x, rowsK a = x := ⟨_, rfl⟩
  obtain ⟨y, hy⟩ : ∃ y, keyV v = y := ⟨_, rfl⟩
  have lx : x.length ≤ 61 := by rw [← hx]; simp [rowsK]; omega
  rw [hy] at l2
  have q1 : ¬ 9223372036854775807 < x.length + y.length := by omega
  rw [hx, hy] at e0
  have HX := Lib.hid hx
  have HY := Lib.hid hy
  obtain ⟨k, n, t⟩ := v
  have HV := Lib.hid hv
  have HA := Lib.hid ha
  clear hv ha l1 hx hy
  show Calls _ _ #[_, .agg #[.int .i64 k, .int .i64 n, .string ⟨t.toArray⟩]] w _
  have hA := At.fresh w 23 #[.int .i64 k, .int .i64 n, .string ⟨t.toArray⟩]
  have hb := below_box w (.cells #[.int .i64 k, .int .i64 n, .string ⟨t.toArray⟩] 23)
  have hD : Below (w.alloc (.cells #[.int .i64 k, .int .i64 n, .string ⟨t.toArray⟩] 23)).heap.size (w.alloc (.cells #[.int .i64 k, .int .i64 n, .string ⟨t.toArray⟩] 23)) (w.alloc (.cells #[.int .i64 k, .int .i64 n, .string ⟨t.toArray⟩] 23)).drew := (Below.refl _ _).drew
  obtain ⟨hAD, S0⟩ := heldV hA hD
  have hbD := below_in hb hD
  clear hA hD hb
  go_enter Tryd.func10, Tryd.ntmps10
  go_wp2_with fail
  generalize (w.alloc (.cells #[.int .i64 k, .int .i64 n, .string ⟨t.toArray⟩] 23)) = wb at *
  go_region_held3 (fun w' => w'.cell? ⟨w.heap.size, 0, none⟩ = some (.int .i64 k) ∧ w'.cell? ⟨w.heap.size, 1, none⟩ = some (.int .i64 n) ∧ w'.cell? ⟨w.heap.size, 2, none⟩ = some (.string ⟨t.toArray⟩))
    (first | exact S0 | exact S1 | exact S2)
    (first
      | (go_at_call 18; refine (rows_any a HA.out wb.drew (ht.below hbD)).mono ?_; rintro e w3 ⟨rfl, b3⟩; rw [HX.out]; obtain ⟨hA3, S1⟩ := heldV hAD b3; have hb3 := below_in hbD b3)
      | (go_at_call 27; refine (vkey_any ⟨k, n, t⟩ HV.out w3 (ht.below hb3)).mono ?_; rintro e w4 ⟨rfl, b4⟩; rw [HY.out]; obtain ⟨hA4, S2⟩ := heldV hA3 b4; have hb4 := below_in hb3 b4))
  all_goals
    go_wp2_with fail
    go_ret
    refine ⟨?_, hb4⟩
    rw [e0.out]
    exact ret_app x y
end Go.Proofs.YtcjbnpeopalbfaaDoor
