/- The walks of the keys' functions, continued (package cell, and the reference of layer 7). -/
import Derived.Test.YtcjbnpeopalbfaaDoorCellC
namespace Go.Proofs.YtcjbnpeopalbfaaDoor
open Go.RowKit

/-- Two values lie in their blocks. -/
structure Pair (W : World) (A B : Nat) (a b : Vl) : Prop where
  fst : At W A 23 #[.int .i64 a.kind, .int .i64 a.num, .string ⟨a.text.toArray⟩]
  snd : At W B 23 #[.int .i64 b.kind, .int .i64 b.num, .string ⟨b.text.toArray⟩]
theorem Pair.below {W w : World} {A B : Nat} {a b : Vl} (h : Pair W A B a b) (hb : Below W.heap.size W w) : Pair w A B a b := ⟨h.fst.below hb h.fst.lt, h.snd.below hb h.snd.lt⟩
theorem Pair.cells {w : World} {A B : Nat} {k n j m : Int} {t s : List UInt8} (h : Pair w A B ⟨k, n, t⟩ ⟨j, m, s⟩) :
    w.cell? ⟨A, 0, none⟩ = some (.int .i64 k) ∧ w.cell? ⟨A, 1, none⟩ = some (.int .i64 n) ∧ w.cell? ⟨A, 2, none⟩ = some (.string ⟨t.toArray⟩) ∧
    w.cell? ⟨B, 0, none⟩ = some (.int .i64 j) ∧ w.cell? ⟨B, 1, none⟩ = some (.int .i64 m) ∧ w.cell? ⟨B, 2, none⟩ = some (.string ⟨s.toArray⟩) :=
  ⟨At.cell h.fst 0, At.cell h.fst 1, At.cell h.fst 2, At.cell h.snd 0, At.cell h.snd 1, At.cell h.snd 2⟩
theorem Pair.fresh (w : World) (k n : Int) (t : List UInt8) (j m : Int) (s : List UInt8) : Pair ((w.alloc (.cells #[.int .i64 k, .int .i64 n, .string ⟨t.toArray⟩] 23)).alloc (.cells #[.int .i64 j, .int .i64 m, .string ⟨s.toArray⟩] 23)) w.heap.size (w.heap.size + 1) ⟨k, n, t⟩ ⟨j, m, s⟩ :=
  ⟨(At.fresh w _ _).alloc _, by simpa using At.fresh (w.alloc (.cells #[.int .i64 k, .int .i64 n, .string ⟨t.toArray⟩] 23)) 23 #[.int .i64 j, .int .i64 m, .string ⟨s.toArray⟩]⟩

theorem ret_app3 (x y z : List UInt8) : Ending.returned (.string (ByteArray.mk x.toArray ++ ByteArray.mk y.toArray ++ ByteArray.mk z.toArray)) = .returned (.string ⟨(x ++ y ++ z).toArray⟩) := by
  rw [ByteArray.mk_append_mk, ByteArray.mk_append_mk]

section
variable (a b c : List UInt8) (ha : a.length ≤ maxLen) (hb : b.length ≤ maxLen) (hc : c.length ≤ maxLen) (v : Vl) (hv : v.Ok) (u : Vl) (hu : u.Ok) (w : World)

set_option maxRecDepth 100000 in
set_option maxHeartbeats 1600000 in
include ha hb hc hv hu in
theorem ofRef_any (ht : Lens w) :
    Calls Tryd.prog 14 #[.string ⟨a.toArray⟩, v.val, .string ⟨b.toArray⟩, .string ⟨c.toArray⟩, u.val] w fun e w' => e = .returned (.string ⟨(refK a v b c u).toArray⟩) ∧ Below w.heap.size w w' := by
  have l1 := refK_len a v b c u
  have e0 : Hid (refK a v b c u = refsK a v b c ++ keyV u) := rfl
  obtain ⟨x, hx⟩ : ∃ x, refsK a v b c = x := ⟨_, rfl⟩
  obtain ⟨y, hy⟩ : ∃ y, keyV u = y := ⟨_, rfl⟩
  rw [e0.out, hx, hy, List.length_append] at l1
  rw [hx, hy] at e0
  have q1 : ¬ 9223372036854775807 < x.length + y.length := by omega
  have HX := Lib.hid hx
  have HY := Lib.hid hy
  obtain ⟨k, n, t⟩ := v
  obtain ⟨j, m, s⟩ := u
  have HV := Lib.hid hv
  have HU := Lib.hid hu
  have HA := Lib.hid ha
  have HB := Lib.hid hb
  have HC := Lib.hid hc
  clear hv hu ha hb hc hx hy l1
  show Calls _ _ #[_, .agg #[.int .i64 k, .int .i64 n, .string ⟨t.toArray⟩], _, _, .agg #[.int .i64 j, .int .i64 m, .string ⟨s.toArray⟩]] w _
  have p0 : Pair ((w.alloc (.cells #[.int .i64 k, .int .i64 n, .string ⟨t.toArray⟩] 23)).alloc (.cells #[.int .i64 j, .int .i64 m, .string ⟨s.toArray⟩] 23)) w.heap.size (w.heap.size + 1) ⟨k, n, t⟩ ⟨j, m, s⟩ := Pair.fresh w _ _ _ _ _ _
  have b0 := below_box2 w (.cells #[.int .i64 k, .int .i64 n, .string ⟨t.toArray⟩] 23) (.cells #[.int .i64 j, .int .i64 m, .string ⟨s.toArray⟩] 23)
  go_enter Tryd.func14, Tryd.ntmps14
  go_wp2_with fail
  generalize ((w.alloc (.cells #[.int .i64 k, .int .i64 n, .string ⟨t.toArray⟩] 23)).alloc (.cells #[.int .i64 j, .int .i64 m, .string ⟨s.toArray⟩] 23)) = wb at *
  have hD : Below wb.heap.size wb wb.drew := (Below.refl _ _).drew
  have pD := p0.below hD
  have S0 := pD.cells
  have hbD := below_in b0 hD
  clear p0 hD b0
  go_region_held3 (fun w' => w'.cell? ⟨w.heap.size, 0, none⟩ = some (.int .i64 k) ∧ w'.cell? ⟨w.heap.size, 1, none⟩ = some (.int .i64 n) ∧ w'.cell? ⟨w.heap.size, 2, none⟩ = some (.string ⟨t.toArray⟩) ∧ w'.cell? ⟨w.heap.size + 1, 0, none⟩ = some (.int .i64 j) ∧ w'.cell? ⟨w.heap.size + 1, 1, none⟩ = some (.int .i64 m) ∧ w'.cell? ⟨w.heap.size + 1, 2, none⟩ = some (.string ⟨s.toArray⟩))
    (first | exact S0 | exact S1 | exact S2)
    (first
      | (go_at_call 19; refine (refs_any a b c HA.out HB.out HC.out ⟨k, n, t⟩ HV.out wb.drew (ht.below hbD)).mono ?_; rintro e w3 ⟨rfl, b3⟩; rw [HX.out]; have p3 := pD.below b3; have S1 := p3.cells; have hb3 := below_in hbD b3)
      | (go_at_call 27; refine (vkey_any ⟨j, m, s⟩ HU.out w3 (ht.below hb3)).mono ?_; rintro e w4 ⟨rfl, b4⟩; rw [HY.out]; have p4 := p3.below b4; have S2 := p4.cells; have hb4 := below_in hb3 b4))
  all_goals
    go_wp2_with fail
    go_ret
    refine ⟨?_, hb4⟩
    rw [e0.out]
    exact ret_app x y

set_option maxHeartbeats 400000 in
include ha in
theorem rtable_any :
    Calls Tryd.prog 17 #[.string ⟨a.toArray⟩] w fun e w' => e = .returned (.string ⟨(tabK a).toArray⟩) ∧ Below w.heap.size w w' := by
  have l1 := nameK_len a
  have e0 : Hid (tabK a = [116] ++ nameK a) := rfl
  obtain ⟨x, hx⟩ : ∃ x, nameK a = x := ⟨_, rfl⟩
  rw [hx] at l1 e0
  go_enter Tryd.func17, Tryd.ntmps17
  go_wp2_with fail
  refine (rname_any a ha w).mono ?_
  rintro e w1 ⟨rfl, b1⟩
  rw [hx]
  go_wp2_with fail
  go_ret
  refine ⟨?_, b1⟩
  rw [e0.out]
  exact ret_app [116] x

set_option maxRecDepth 100000 in
set_option maxHeartbeats 1600000 in
include ha hv in
theorem rrow_any :
    Calls Tryd.prog 11 #[.string ⟨a.toArray⟩, v.val] w fun e w' => e = .returned (.string ⟨(rowK a v).toArray⟩) ∧ Below w.heap.size w w' := by
  have l1 := nameK_len a
  have l2 := esc_len2 v
  have e0 : Hid (rowK a v = [114] ++ nameK a ++ keyV v) := rfl
  obtain ⟨x, hx⟩ : ∃ x, nameK a = x := ⟨_, rfl⟩
  obtain ⟨y, hy⟩ : ∃ y, keyV v = y := ⟨_, rfl⟩
  rw [hx] at l1
  rw [hy] at l2
  rw [hx, hy] at e0
  have q1 : ¬ 9223372036854775807 < 1 + x.length := by omega
  have q2 : ¬ 9223372036854775807 < 1 + x.length + y.length := by omega
  have HX := Lib.hid hx
  have HY := Lib.hid hy
  obtain ⟨k, n, t⟩ := v
  have HV := Lib.hid hv
  have HA := Lib.hid ha
  clear hv ha hx hy
  show Calls _ _ #[_, .agg #[.int .i64 k, .int .i64 n, .string ⟨t.toArray⟩]] w _
  have hA := At.fresh w 23 #[.int .i64 k, .int .i64 n, .string ⟨t.toArray⟩]
  have hb := below_box w (.cells #[.int .i64 k, .int .i64 n, .string ⟨t.toArray⟩] 23)
  have hD : Below (w.alloc (.cells #[.int .i64 k, .int .i64 n, .string ⟨t.toArray⟩] 23)).heap.size (w.alloc (.cells #[.int .i64 k, .int .i64 n, .string ⟨t.toArray⟩] 23)) (w.alloc (.cells #[.int .i64 k, .int .i64 n, .string ⟨t.toArray⟩] 23)).drew := (Below.refl _ _).drew
  obtain ⟨hAD, S0⟩ := heldV hA hD
  have hbD := below_in hb hD
  clear hA hD hb
  go_enter Tryd.func11, Tryd.ntmps11
  go_wp2_with fail
  generalize (w.alloc (.cells #[.int .i64 k, .int .i64 n, .string ⟨t.toArray⟩] 23)) = wb at *
  go_region_held3 (fun w' => w'.cell? ⟨w.heap.size, 0, none⟩ = some (.int .i64 k) ∧ w'.cell? ⟨w.heap.size, 1, none⟩ = some (.int .i64 n) ∧ w'.cell? ⟨w.heap.size, 2, none⟩ = some (.string ⟨t.toArray⟩))
    (first | exact S0 | exact S1 | exact S2)
    (first
      | (go_at_call 28; refine (rname_any a HA.out wb.drew).mono ?_; rintro e w3 ⟨rfl, b3⟩; rw [HX.out]; obtain ⟨hA3, S1⟩ := heldV hAD b3; have hb3 := below_in hbD b3)
      | (go_at_call 29; refine (rkey_any ⟨k, n, t⟩ HV.out w3).mono ?_; rintro e w4 ⟨rfl, b4⟩; rw [HY.out]; obtain ⟨hA4, S2⟩ := heldV hA3 b4; have hb4 := below_in hb3 b4))
  all_goals
    go_wp2_with fail
    go_ret
    refine ⟨?_, hb4⟩
    rw [e0.out]
    exact ret_app3 [114] x y
end
end Go.Proofs.YtcjbnpeopalbfaaDoor
