/- The walks of Put and Row (package value), of Bytes and Row (the reference of layer 3). -/
import Derived.Test.YtnlfemfkjjjdhaaGreatDoorRowB
import Derived.Test.YtnlfemfkjjjdhaaGreatDoorPackE
import Derived.Test.YtnlfemfkjjjdhaaGreatDoorPackG
import Derived.Test.YtnlfemfkjjjdhaaGreatDoorRefA
import Derived.Test.YtnlfemfkjjjdhaaGreatDoorValF
import Derived.Deep.RegionHeld3
namespace Go.Proofs.YtnlfemfkjjjdhaaGreatDoor
open Go.RowKit

theorem Strs.one (w : World) (ty : TypeId) (t : List UInt8) : Strs (w.alloc (.cells #[.string ⟨t.toArray⟩] ty)) (some ⟨w.heap.size, 0, none⟩) 1 [t] := by
  have hA := At.fresh w ty #[.string ⟨t.toArray⟩]
  refine ⟨rfl, fun _ => ⟨_, 0, rfl, hA.lt, fun j hj => ?_⟩⟩
  obtain rfl : j = 0 := by omega
  exact At.cell hA 0
theorem Nums.two (w : World) (ty : TypeId) (k n : Int) : Nums (w.alloc (.cells #[.int .i64 k, .int .i64 n] ty)) (some ⟨w.heap.size, 0, none⟩) 2 [k, n] := Nums.new w ty [k, n]
theorem encs_two (k n : Int) : encs [k, n] = enc k ++ enc n := by simp [encs]
theorem encSs_one (t : List UInt8) : encSs [t] = encS t := by simp [encSs]
theorem encS_len {t : List UInt8} (h : t.length ≤ 1000000) : (encS t).length ≤ 10 + t.length := by
  have := enc_len (n := (t.length : Int)) (by unfold I64; omega)
  unfold encS
  rw [List.length_append]
  omega

set_option maxRecDepth 100000 in
set_option maxHeartbeats 1600000 in
theorem vput_any (b base : Nat) (v : Value) (xs : List UInt8) (x : Vl) (w : World) (hb : At w b 45 #[v]) (ho : Owns w base 5 v xs) (hbase : base ≤ w.heap.size) (hx : x.Ok) (ht : x.text.length ≤ 1000000) (hl : xs.length ≤ 10000000) :
    Calls Tryz.prog 20 #[.pointer (some ⟨b, 0, none⟩), x.val] w fun e w' => e = .returned (.tuple #[]) ∧
      ∃ v', At w' b 45 #[v'] ∧ Owns w' base 5 v' (xs ++ bytesV x) ∧ Wgrew w b v w' v' := by
  obtain ⟨k, n, t⟩ := x
  have i1 := hx.kind
  have i2 := hx.num
  simp only at i1 i2 ht
  clear hx
  have hbl := hb.lt
  have hvl := ho.lt
  have e1 := enc_len i1
  have e2 := enc_len i2
  have e3 := encS_len ht
  have hB0 := hb.alloc (.cells #[.int .i64 k, .int .i64 n, .string ⟨t.toArray⟩] 23)
  have hO0 : Owns (w.alloc (.cells #[.int .i64 k, .int .i64 n, .string ⟨t.toArray⟩] 23)) base 5 v xs := World.ownsRow.alloc ho _
  have hX0 := At.fresh w 23 #[.int .i64 k, .int .i64 n, .string ⟨t.toArray⟩]
  have hs0 : (w.alloc (.cells #[.int .i64 k, .int .i64 n, .string ⟨t.toArray⟩] 23)).heap.size = w.heap.size + 1 := by simp
  show Calls _ _ #[.pointer (some ⟨b, 0, none⟩), .agg #[.int .i64 k, .int .i64 n, .string ⟨t.toArray⟩]] w _
  have hC := wint_any b base v xs _ 2 2 [k, n] _ (hB0.alloc (.cells #[.int .i64 k, .int .i64 n] 3)) (World.ownsRow.alloc hO0 (.cells #[.int .i64 k, .int .i64 n] 3)) (by simp; omega) (Nums.two _ 3 k n) (fun _ c o h => by
      have hc : c = w.heap.size + 1 := by simp at h; omega
      refine ⟨by omega, fun e => ?_⟩
      have := hvl c e
      omega) (by intro m hm; simp at hm; rcases hm with rfl | rfl; exact i1; exact i2) (by omega)
  rw [hs0] at hC
  have hX1 := hX0.alloc (.cells #[.int .i64 k, .int .i64 n] 3)
  go_enter Tryz.func20, Tryz.ntmps20
  go_wp2_with fail
  refine hC.mono ?_
  rintro e w1 ⟨rfl, v1, hb1, ho1, hg1⟩
  rw [encs_two] at ho1
  have hX2 := hg1.at_ hX1 (by omega) (fun e => by have := hvl _ e; omega)
  have hg1' := hg1.alloc_l.alloc_l
  have x2 : w1.cell? ⟨w.heap.size, 2, none⟩ = some (.string ⟨t.toArray⟩) := At.cell hX2 2
  have hbl1 := hb1.lt
  have hvl1 := ho1.lt
  clear hC hB0 hO0 hX0 hX1 hs0
  have hC2 := wstr_any b base v1 _ _ 1 1 [t] _ (hb1.alloc (.cells #[.string ⟨t.toArray⟩] 9)) (World.ownsRow.alloc ho1 (.cells #[.string ⟨t.toArray⟩] 9)) (by have := hg1'.size; simp; omega) (Strs.one _ 9 t) (fun _ c o h => by
      have hc : c = w1.heap.size := by simp at h; omega
      refine ⟨by omega, fun e => ?_⟩
      have := hvl1 c e
      omega) (by rw [encSs_one]; simp; omega) (by omega)
  go_wp2_with fail
  refine hC2.mono ?_
  rintro e w2 ⟨rfl, v2, hb2, ho2, hg2⟩
  rw [encSs_one] at ho2
  go_wp2_with fail
  go_end0
  refine ⟨rfl, v2, hb2, ?_, hg1'.trans hg2.alloc_l⟩
  unfold bytesV
  simp only
  rw [← List.append_assoc]
  exact ho2

theorem held3 {w w' : World} {A : Nat} {k n : Int} {t : List UInt8} (h : At w A 23 #[.int .i64 k, .int .i64 n, .string ⟨t.toArray⟩]) (hb : Below w.heap.size w w') :
    At w' A 23 #[.int .i64 k, .int .i64 n, .string ⟨t.toArray⟩] ∧ (w'.cell? ⟨A, 0, none⟩ = some (.int .i64 k) ∧ w'.cell? ⟨A, 1, none⟩ = some (.int .i64 n) ∧ w'.cell? ⟨A, 2, none⟩ = some (.string ⟨t.toArray⟩)) := by
  have hA := h.below hb h.lt
  exact ⟨hA, At.cell hA 0, At.cell hA 1, At.cell hA 2⟩

set_option maxRecDepth 100000 in
set_option maxHeartbeats 1600000 in
theorem rbytes_any (x : Vl) (w : World) (hx : x.Ok) (ht : x.text.length ≤ 1000000) :
    Calls Tryz.prog 21 #[x.val] w fun e w' => e = .returned (.string ⟨(bytesV x).toArray⟩) ∧ Below w.heap.size w w' := by
  obtain ⟨k, n, t⟩ := x
  have i1 := hx.kind
  have i2 := hx.num
  simp only at i1 i2 ht
  have e1 := enc_len i1
  have e2 := enc_len i2
  have e3 := encS_len ht
  have I1 := Lib.hid i1
  have I2 := Lib.hid i2
  have q1 : (enc k).length + (enc n).length ≤ 9223372036854775807 := by omega
  have q2 : (enc k).length + (enc n).length + (encS t).length ≤ 9223372036854775807 := by omega
  have q3 : ¬ 9223372036854775807 < (enc k).length + (enc n).length := by omega
  have q4 : ¬ 9223372036854775807 < (enc k).length + (enc n).length + (encS t).length := by omega
  have hB : Hid (bytesV ⟨k, n, t⟩ = enc k ++ enc n ++ encS t) := rfl
  clear hx i1 i2
  show Calls _ _ #[.agg #[.int .i64 k, .int .i64 n, .string ⟨t.toArray⟩]] w _
  have hA := At.fresh w 23 #[.int .i64 k, .int .i64 n, .string ⟨t.toArray⟩]
  have hb := below_box w (.cells #[.int .i64 k, .int .i64 n, .string ⟨t.toArray⟩] 23)
  have hD : Below (w.alloc (.cells #[.int .i64 k, .int .i64 n, .string ⟨t.toArray⟩] 23)).heap.size (w.alloc (.cells #[.int .i64 k, .int .i64 n, .string ⟨t.toArray⟩] 23)) (w.alloc (.cells #[.int .i64 k, .int .i64 n, .string ⟨t.toArray⟩] 23)).drew := (Below.refl _ _).drew
  obtain ⟨hAD, S0⟩ := held3 hA hD
  have hbD := below_in hb hD
  clear hA hD hb
  go_enter Tryz.func21, Tryz.ntmps21
  go_wp2_with fail
  generalize (w.alloc (.cells #[.int .i64 k, .int .i64 n, .string ⟨t.toArray⟩] 23)) = wb at *
  go_region_held3 (fun w' => w'.cell? ⟨w.heap.size, 0, none⟩ = some (.int .i64 k) ∧ w'.cell? ⟨w.heap.size, 1, none⟩ = some (.int .i64 n) ∧ w'.cell? ⟨w.heap.size, 2, none⟩ = some (.string ⟨t.toArray⟩))
    (first | exact S0 | exact S1 | exact S2 | exact S3)
    (first
      | (go_at_call_of 44 k; refine (refInt_any k I1.out wb.drew).mono ?_; rintro e w3 ⟨rfl, b3⟩; obtain ⟨hA3, S1⟩ := held3 hAD b3; have hb3 := below_in hbD b3)
      | (go_at_call_of 44 n; refine (refInt_any n I2.out w3).mono ?_; rintro e w4 ⟨rfl, b4⟩; obtain ⟨hA4, S2⟩ := held3 hA3 b4; have hb4 := below_in hb3 b4)
      | (go_at_call 49; refine (refStr_any t (by omega) w4).mono ?_; rintro e w5 ⟨rfl, b5⟩; obtain ⟨hA5, S3⟩ := held3 hA4 b5; have hb5 := below_in hb4 b5))
  all_goals
    go_wp2_with fail
    go_ret
    refine ⟨?_, hb5⟩
    rw [hB.out]
    exact congrArg (fun x => Ending.returned (Value.string x)) ((congrArg (· ++ ByteArray.mk (encS t).toArray) (ByteArray.mk_append_mk (enc k) (enc n))).trans (ByteArray.mk_append_mk (enc k ++ enc n) (encS t)))

theorem bytesV_len {x : Vl} (hx : x.Ok) (ht : x.text.length ≤ 200) : (bytesV x).length ≤ 230 := by
  have e1 := enc_len hx.kind
  have e2 := enc_len hx.num
  have e3 := encS_len (t := x.text) (by omega)
  unfold bytesV
  simp
  omega
theorem bytesVs_take {vs : List Vl} {k : Nat} (h : k < vs.length) : bytesVs (vs.take (k + 1)) = bytesVs (vs.take k) ++ bytesV (vs.getD k default) := by
  unfold bytesVs
  rw [List.take_succ_eq_append_getElem h, List.getD_eq_getElem?_getD, List.getElem?_eq_getElem h, List.flatMap_append, List.flatMap_cons, List.flatMap_nil, List.append_nil]
  rfl
theorem bytesVs_drop {vs : List Vl} {k : Nat} (h : k < vs.length) : bytesVs (vs.drop k) = bytesV (vs.getD k default) ++ bytesVs (vs.drop (k + 1)) := by
  unfold bytesVs
  rw [List.drop_eq_getElem_cons h, List.getD_eq_getElem?_getD, List.getElem?_eq_getElem h, List.flatMap_cons]
  rfl
theorem small_at {vs : List Vl} (h : ∀ v ∈ vs, v.text.length ≤ 200) {k : Nat} (hk : k < vs.length) : (vs.getD k default).text.length ≤ 200 := by
  rw [List.getD_eq_getElem?_getD, List.getElem?_eq_getElem hk]
  exact h _ (List.getElem_mem hk)

set_option maxRecDepth 100000 in
set_option maxHeartbeats 1600000 in
theorem rrow_any (A : Option Addr) (n cap : Nat) (vs : List Vl) (w : World) (hv : Vals w A n vs) (hok : ∀ v ∈ vs, v.Ok) (hsm : ∀ v ∈ vs, v.text.length ≤ 200) (hn : n ≤ 30) :
    Calls Tryz.prog 16 #[.slice A n cap] w fun e w' => e = .returned (.string ⟨(rowV vs).toArray⟩) ∧ Below w.heap.size w w' := by
  have hvl := hv.1
  have hI : I64 (n : Int) := by unfold I64; omega
  have en := enc_len hI
  have HR : Hid (rowV vs = enc n ++ bytesVs vs) := by show _ = _; unfold rowV; rw [hvl]
  go_enter Tryz.func16, Tryz.ntmps16
  go_wp2_with fail
  refine (refInt_any n hI _).mono ?_
  rintro e w1 ⟨rfl, b1⟩
  go_wp2_with fail
  go_loopw [3, 11] (fun s i wr => ∃ (k : Nat) (y : List UInt8), k ≤ n ∧ i = .int .i64 k ∧ s = .string ⟨y.toArray⟩ ∧ y.length ≤ 10 + 230 * k ∧ Hid (y = enc n ++ bytesVs (vs.take k)) ∧ Below w.heap.size w wr) (fun _ i _ => n - (intOf i).toNat)
  case atStart => exact ⟨0, enc n, by omega, rfl, rfl, by omega, show _ = _ by simp [bytesVs], b1⟩
  case round =>
    obtain ⟨k, y, hk, rfl, rfl, hyl, HY, hb⟩ := hrel
    by_cases hlt : k < n
    · obtain ⟨b, off, rfl, hbl, hcell⟩ := (hv.below hb).2 (by omega)
      obtain ⟨c0, c1, c2⟩ := hcell k hlt
      have hok1 := ok_at hok (k := k) (by omega)
      have hs1 := small_at hsm (k := k) (by omega)
      have hkt := bytesVs_take (vs := vs) (k := k) (by omega)
      have hel := bytesV_len hok1 hs1
      have hy2 : y ++ bytesV (vs.getD k default) = enc n ++ bytesVs (vs.take (k + 1)) := by rw [hkt, HY.out, List.append_assoc]
      have HK := Lib.hid hy2
      clear hkt hcell hy2
      generalize vs.getD k default = x at *
      obtain ⟨kk, nn, tt⟩ := x
      simp only at c0 c1 c2 hs1
      have HO := Lib.hid hok1
      clear hok1
      go_wp2_with fail
      refine (rbytes_any ⟨kk, nn, tt⟩ _ HO.out (by show tt.length ≤ 1000000; omega)).mono ?_
      rintro e w3 ⟨rfl, b3⟩
      have hb3 := below_in (hb.alloc hb.size _) b3
      generalize bytesV ⟨kk, nn, tt⟩ = x at *
      go_wp2_with fail
      exact ⟨⟨k + 1, y ++ x, by omega, by go_num, congrArg Value.string (ByteArray.mk_append_mk y x), by simp; omega, HK, hb3⟩, by simp [intOf]; omega⟩
    · obtain rfl : n = k := by omega
      go_wp2_with fail
      go_ret
      refine ⟨ret_s ?_, hb⟩
      rw [HR.out, HY.out, List.take_of_length_le (by omega)]

set_option maxRecDepth 100000 in
set_option maxHeartbeats 1600000 in
theorem vrow_any (A : Option Addr) (n cap : Nat) (vs : List Vl) (w : World) (hv : Vals w A n vs) (hok : ∀ v ∈ vs, v.Ok) (hsm : ∀ v ∈ vs, v.text.length ≤ 200) (hn : n ≤ 30) :
    Calls Tryz.prog 15 #[.slice A n cap] w fun e w' => e = .returned (.string ⟨(rowV vs).toArray⟩) ∧ Below w.heap.size w w' := by
  have hvl := hv.1
  have hI : I64 (n : Int) := by unfold I64; omega
  have en := enc_len hI
  have HR : Hid (rowV vs = enc n ++ bytesVs vs) := by show _ = _; unfold rowV; rw [hvl]
  go_enter Tryz.func15, Tryz.ntmps15
  go_wp2_with fail
  refine (wint_new w.heap.size n w (Nat.le_refl _) hI).mono ?_
  rintro e w1 ⟨rfl, v1, hb1, ho1, hg1⟩
  go_wp2_with fail
  go_loopw [15] (fun i wr => ∃ (k : Nat) (vr : Value) (y : List UInt8), k ≤ n ∧ i = .int .i64 k ∧ At wr w.heap.size 45 #[vr] ∧ Owns wr w.heap.size 5 vr y ∧ y.length ≤ 10 + 230 * k ∧ Hid (y = enc n ++ bytesVs (vs.take k)) ∧ Below w.heap.size w wr) (fun i _ => n - (intOf i).toNat)
  case atStart => exact ⟨0, v1, enc n, by omega, rfl, hb1, ho1, by omega, show _ = _ by simp [bytesVs], hg1.below (Nat.le_refl _) (Nat.le_refl _) (fun g h => by simp [Value.ownBlock] at h)⟩
  case round =>
    obtain ⟨k, vr, y, hk, rfl, hbr, hor, hyl, HY, hb⟩ := hrel
    by_cases hlt : k < n
    · obtain ⟨b, off, rfl, hbl, hcell⟩ := (hv.below hb).2 (by omega)
      obtain ⟨c0, c1, c2⟩ := hcell k hlt
      have hok1 := ok_at hok (k := k) (by omega)
      have hs1 := small_at hsm (k := k) (by omega)
      have hkt := bytesVs_take (vs := vs) (k := k) (by omega)
      have hel := bytesV_len hok1 hs1
      have hy2 : y ++ bytesV (vs.getD k default) = enc n ++ bytesVs (vs.take (k + 1)) := by rw [hkt, HY.out, List.append_assoc]
      have HK := Lib.hid hy2
      clear hkt hcell hy2
      generalize vs.getD k default = x at *
      obtain ⟨kk, nn, tt⟩ := x
      simp only at c0 c1 c2 hs1
      have HO := Lib.hid hok1
      clear hok1
      have hbr2 := hbr.alloc (.cells #[.int .i64 kk, .int .i64 nn, .string ⟨tt.toArray⟩] 23)
      have hor2 : Owns (wr.alloc (.cells #[.int .i64 kk, .int .i64 nn, .string ⟨tt.toArray⟩] 23)) w.heap.size 5 vr y := World.ownsRow.alloc hor _
      have hb2 : Below w.heap.size w (wr.alloc (.cells #[.int .i64 kk, .int .i64 nn, .string ⟨tt.toArray⟩] 23)) := hb.alloc hb.size _
      have hlr := hor.lt
      go_wp2_with fail
      refine (vput_any w.heap.size w.heap.size vr y ⟨kk, nn, tt⟩ _ hbr2 hor2 hb2.size HO.out (by show tt.length ≤ 1000000; omega) (by omega)).mono ?_
      rintro e w3 ⟨rfl, v3, hb3, ho3, hg3⟩
      have hb4 := hb2.trans (hg3.below hb2.size (Nat.le_refl _) (fun g h => (hlr g h).1))
      go_wp2_with fail
      exact ⟨⟨k + 1, v3, _, by omega, by go_num, hb3, ho3, by simp; omega, HK, hb4⟩, by simp [intOf]; omega⟩
    · obtain rfl : n = k := by omega
      go_wp2_with fail
      refine (wbytes_any _ _ vr y _ hbr hor).mono ?_
      rintro e w' ⟨rfl, rfl⟩
      go_wp2_with fail
      go_ret
      refine ⟨ret_s ?_, hb⟩
      rw [HR.out, HY.out, List.take_of_length_le (by omega)]
end Go.Proofs.YtnlfemfkjjjdhaaGreatDoor
