/- The walks of the keys' functions of the reference of layer 7, continued. -/
import Derived.Test.YtcjbnpeopalbfaaDoorCellD
namespace Go.Proofs.YtcjbnpeopalbfaaDoor
open Go.RowKit

theorem ret_app4 (x y z u : List UInt8) : Ending.returned (.string (ByteArray.mk x.toArray ++ ByteArray.mk y.toArray ++ ByteArray.mk z.toArray ++ ByteArray.mk u.toArray)) = .returned (.string ⟨(x ++ y ++ z ++ u).toArray⟩) := by
  rw [ByteArray.mk_append_mk, ByteArray.mk_append_mk, ByteArray.mk_append_mk]
theorem ret_app6 (x y z u v q : List UInt8) : Ending.returned (.string (ByteArray.mk x.toArray ++ ByteArray.mk y.toArray ++ ByteArray.mk z.toArray ++ ByteArray.mk u.toArray ++ ByteArray.mk v.toArray ++ ByteArray.mk q.toArray)) = .returned (.string ⟨(x ++ y ++ z ++ u ++ v ++ q).toArray⟩) := by
  rw [ByteArray.mk_append_mk, ByteArray.mk_append_mk, ByteArray.mk_append_mk, ByteArray.mk_append_mk, ByteArray.mk_append_mk]

section
variable (a b c : List UInt8) (ha : a.length ≤ maxLen) (hb : b.length ≤ maxLen) (hc : c.length ≤ maxLen) (v : Vl) (hv : v.Ok) (u : Vl) (hu : u.Ok) (w : World)

set_option maxRecDepth 100000 in
set_option maxHeartbeats 1600000 in
include ha hb hv in
theorem runiq_any :
    Calls Tryd.prog 13 #[.string ⟨a.toArray⟩, .string ⟨b.toArray⟩, v.val] w fun e w' => e = .returned (.string ⟨(uniqK a b v).toArray⟩) ∧ Below w.heap.size w w' := by
  have l1 := nameK_len a
  have l3 := nameK_len b
  have l2 := esc_len2 v
  have e0 : Hid (uniqK a b v = [117] ++ nameK a ++ nameK b ++ keyV v) := Lib.hid (by simp [uniqK])
  obtain ⟨x, hx⟩ : ∃ x, nameK a = x := ⟨_, rfl⟩
  obtain ⟨x2, hx2⟩ : ∃ x, nameK b = x := ⟨_, rfl⟩
  obtain ⟨y, hy⟩ : ∃ y, keyV v = y := ⟨_, rfl⟩
  rw [hx] at l1
  rw [hx2] at l3
  rw [hy] at l2
  rw [hx, hx2, hy] at e0
  have q1 : ¬ 9223372036854775807 < 1 + x.length := by omega
  have q2 : ¬ 9223372036854775807 < 1 + x.length + x2.length := by omega
  have q3 : ¬ 9223372036854775807 < 1 + x.length + x2.length + y.length := by omega
  have HX := Lib.hid hx
  have HX2 := Lib.hid hx2
  have HY := Lib.hid hy
  obtain ⟨k, n, t⟩ := v
  have HV := Lib.hid hv
  have HA := Lib.hid ha
  have HB := Lib.hid hb
  clear hv ha hb hx hx2 hy
  show Calls _ _ #[_, _, .agg #[.int .i64 k, .int .i64 n, .string ⟨t.toArray⟩]] w _
  have hA := At.fresh w 23 #[.int .i64 k, .int .i64 n, .string ⟨t.toArray⟩]
  have hb := below_box w (.cells #[.int .i64 k, .int .i64 n, .string ⟨t.toArray⟩] 23)
  have hD : Below (w.alloc (.cells #[.int .i64 k, .int .i64 n, .string ⟨t.toArray⟩] 23)).heap.size (w.alloc (.cells #[.int .i64 k, .int .i64 n, .string ⟨t.toArray⟩] 23)) (w.alloc (.cells #[.int .i64 k, .int .i64 n, .string ⟨t.toArray⟩] 23)).drew := (Below.refl _ _).drew
  obtain ⟨hAD, S0⟩ := heldV hA hD
  have hbD := below_in hb hD
  clear hA hD hb
  go_enter Tryd.func13, Tryd.ntmps13
  go_wp2_with fail
  generalize (w.alloc (.cells #[.int .i64 k, .int .i64 n, .string ⟨t.toArray⟩] 23)) = wb at *
  go_region_held3 (fun w' => w'.cell? ⟨w.heap.size, 0, none⟩ = some (.int .i64 k) ∧ w'.cell? ⟨w.heap.size, 1, none⟩ = some (.int .i64 n) ∧ w'.cell? ⟨w.heap.size, 2, none⟩ = some (.string ⟨t.toArray⟩))
    (first | exact S0 | exact S1 | exact S2 | exact S3)
    (first
      | (go_at_call_of 28 (Value.string ⟨a.toArray⟩); refine (rname_any a HA.out wb.drew).mono ?_; rintro e w3 ⟨rfl, b3⟩; rw [HX.out]; obtain ⟨hA3, S1⟩ := heldV hAD b3; have hb3 := below_in hbD b3)
      | (go_at_call_of 28 (Value.string ⟨b.toArray⟩); refine (rname_any b HB.out w3).mono ?_; rintro e w4 ⟨rfl, b4⟩; rw [HX2.out]; obtain ⟨hA4, S2⟩ := heldV hA3 b4; have hb4 := below_in hb3 b4)
      | (go_at_call 29; refine (rkey_any ⟨k, n, t⟩ HV.out w4).mono ?_; rintro e w5 ⟨rfl, b5⟩; rw [HY.out]; obtain ⟨hA5, S3⟩ := heldV hA4 b5; have hb5 := below_in hb4 b5))
  all_goals
    go_wp2_with fail
    go_ret
    refine ⟨?_, hb5⟩
    rw [e0.out]
    exact ret_app4 [117] x x2 y

set_option maxRecDepth 100000 in
set_option maxHeartbeats 1600000 in
include ha hb hc hv hu in
theorem rref_any :
    Calls Tryd.prog 15 #[.string ⟨a.toArray⟩, v.val, .string ⟨b.toArray⟩, .string ⟨c.toArray⟩, u.val] w fun e w' => e = .returned (.string ⟨(refK a v b c u).toArray⟩) ∧ Below w.heap.size w w' := by
  have l1 := nameK_len a
  have l2 := nameK_len b
  have l3 := nameK_len c
  have l4 := esc_len2 v
  have l5 := esc_len2 u
  have e0 : Hid (refK a v b c u = [102] ++ nameK a ++ keyV v ++ nameK b ++ nameK c ++ keyV u) := Lib.hid (by simp [refK, refsK])
  obtain ⟨x, hx⟩ : ∃ x, nameK a = x := ⟨_, rfl⟩
  obtain ⟨x2, hx2⟩ : ∃ x, nameK b = x := ⟨_, rfl⟩
  obtain ⟨x3, hx3⟩ : ∃ x, nameK c = x := ⟨_, rfl⟩
  obtain ⟨y, hy⟩ : ∃ y, keyV v = y := ⟨_, rfl⟩
  obtain ⟨y2, hy2⟩ : ∃ y, keyV u = y := ⟨_, rfl⟩
  rw [hx] at l1
  rw [hx2] at l2
  rw [hx3] at l3
  rw [hy] at l4
  rw [hy2] at l5
  rw [hx, hx2, hx3, hy, hy2] at e0
  have q1 : ¬ 9223372036854775807 < 1 + x.length := by omega
  have q2 : ¬ 9223372036854775807 < 1 + x.length + y.length := by omega
  have q3 : ¬ 9223372036854775807 < 1 + x.length + y.length + x2.length := by omega
  have q4 : ¬ 9223372036854775807 < 1 + x.length + y.length + x2.length + x3.length := by omega
  have q5 : ¬ 9223372036854775807 < 1 + x.length + y.length + x2.length + x3.length + y2.length := by omega
  have HX := Lib.hid hx
  have HX2 := Lib.hid hx2
  have HX3 := Lib.hid hx3
  have HY := Lib.hid hy
  have HY2 := Lib.hid hy2
  obtain ⟨k, n, t⟩ := v
  obtain ⟨j, m, s⟩ := u
  have HV := Lib.hid hv
  have HU := Lib.hid hu
  have HA := Lib.hid ha
  have HB := Lib.hid hb
  have HC := Lib.hid hc
  clear hv hu ha hb hc hx hx2 hx3 hy hy2
  show Calls _ _ #[_, .agg #[.int .i64 k, .int .i64 n, .string ⟨t.toArray⟩], _, _, .agg #[.int .i64 j, .int .i64 m, .string ⟨s.toArray⟩]] w _
  have p0 : Pair ((w.alloc (.cells #[.int .i64 k, .int .i64 n, .string ⟨t.toArray⟩] 23)).alloc (.cells #[.int .i64 j, .int .i64 m, .string ⟨s.toArray⟩] 23)) w.heap.size (w.heap.size + 1) ⟨k, n, t⟩ ⟨j, m, s⟩ := Pair.fresh w _ _ _ _ _ _
  have b0 := below_box2 w (.cells #[.int .i64 k, .int .i64 n, .string ⟨t.toArray⟩] 23) (.cells #[.int .i64 j, .int .i64 m, .string ⟨s.toArray⟩] 23)
  go_enter Tryd.func15, Tryd.ntmps15
  go_wp2_with fail
  generalize ((w.alloc (.cells #[.int .i64 k, .int .i64 n, .string ⟨t.toArray⟩] 23)).alloc (.cells #[.int .i64 j, .int .i64 m, .string ⟨s.toArray⟩] 23)) = wb at *
  have hD : Below wb.heap.size wb wb.drew := (Below.refl _ _).drew
  have pD := p0.below hD
  have S0 := pD.cells
  have hbD := below_in b0 hD
  clear p0 hD b0
  go_region_held3 (fun w' => w'.cell? ⟨w.heap.size, 0, none⟩ = some (.int .i64 k) ∧ w'.cell? ⟨w.heap.size, 1, none⟩ = some (.int .i64 n) ∧ w'.cell? ⟨w.heap.size, 2, none⟩ = some (.string ⟨t.toArray⟩) ∧ w'.cell? ⟨w.heap.size + 1, 0, none⟩ = some (.int .i64 j) ∧ w'.cell? ⟨w.heap.size + 1, 1, none⟩ = some (.int .i64 m) ∧ w'.cell? ⟨w.heap.size + 1, 2, none⟩ = some (.string ⟨s.toArray⟩))
    (first | exact S0 | exact S1 | exact S2 | exact S3 | exact S4 | exact S5)
    (first
      | (go_at_call_of 28 (Value.string ⟨a.toArray⟩); refine (rname_any a HA.out wb.drew).mono ?_; rintro e w3 ⟨rfl, b3⟩; rw [HX.out]; have p3 := pD.below b3; have S1 := p3.cells; have hb3 := below_in hbD b3)
      | (go_at_call_of 29 (Value.string ⟨t.toArray⟩); refine (rkey_any ⟨k, n, t⟩ HV.out w3).mono ?_; rintro e w4 ⟨rfl, b4⟩; rw [HY.out]; have p4 := p3.below b4; have S2 := p4.cells; have hb4 := below_in hb3 b4)
      | (go_at_call_of 28 (Value.string ⟨b.toArray⟩); refine (rname_any b HB.out w4).mono ?_; rintro e w5 ⟨rfl, b5⟩; rw [HX2.out]; have p5 := p4.below b5; have S3 := p5.cells; have hb5 := below_in hb4 b5)
      | (go_at_call_of 28 (Value.string ⟨c.toArray⟩); refine (rname_any c HC.out w5).mono ?_; rintro e w6 ⟨rfl, b6⟩; rw [HX3.out]; have p6 := p5.below b6; have S4 := p6.cells; have hb6 := below_in hb5 b6)
      | (go_at_call_of 29 (Value.string ⟨s.toArray⟩); refine (rkey_any ⟨j, m, s⟩ HU.out w6).mono ?_; rintro e w7 ⟨rfl, b7⟩; rw [HY2.out]; have p7 := p6.below b7; have S5 := p7.cells; have hb7 := below_in hb6 b7))
  all_goals
    go_wp2_with fail
    go_ret
    refine ⟨?_, hb7⟩
    rw [e0.out]
    exact ret_app6 [102] x y x2 x3 y2
end
end Go.Proofs.YtcjbnpeopalbfaaDoor
